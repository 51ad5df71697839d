import PyProof.Rows.All
import PyProof.EqKinds
import KE.KEqDict
import Wide.All
import OpenK.AllK
import Wide.FinOn
import PyProof.EqAt
import PyProof.TupleCall
import KE.BitLaws
import PyProof.Rows.NestShow
import KE.KSortTupG
import KE.KSortTup
import KE.KEqDeep
import KE.KIsAll
import KE.KDictSum
import PyProof.StrOps2
import PyProof.ListMulRoad
import KE.KxMul
import PyProof.TupleKey
import PySem.Challenge.RW_doorhouse_k47_rights_that_nobody_has
namespace PySem.SeqAt
open AutoSeq1 (wpAny_loadPart')
open MeetsSeq
theorem dict_eq_declines_str (l : Addr) (es : Array DictEntry) (n : Nat) (dd : Option Addr) (sl : Array (Option Value)) (b : Str) (u : Tok) :
    Meets (Builtin.«dict.__eq__» ⟨[.ref l, .str b u], []⟩) (fun _ R s => s.heap.get? l = some { cls := .type "dict", dict := dd, data := .dict es n, slots := sl } ∧ R (.ok (.ret .notImplemented)) s) :=
  .of_wp fun prog w A R s h => by obtain ⟨hp, g, d, tk, os⟩ := s; obtain ⟨hl, h⟩ := h; have f1 := F.sub_str_dict; wp_walk using wpAny_loadPart' hl, wpAny_load hl; exact ⟨_, rfl, h⟩
theorem str_eq_declines_dict (b : Str) (u : Tok) (l : Addr) (c : Value) (es : Array DictEntry) (n : Nat) (dd : Option Addr) (sl : Array (Option Value)) :
    Meets (Builtin.«str.__eq__» ⟨[.str b u, .ref l], []⟩) (fun _ R s => s.heap.get? l = some { cls := c, dict := dd, data := .dict es n, slots := sl } ∧ R (.ok (.ret .notImplemented)) s) :=
  .of_wp fun prog w A R s h => by obtain ⟨hp, g, d, tk, os⟩ := s; obtain ⟨hl, h⟩ := h; wp_walk using wpAny_loadPart' hl, wpAny_load hl; exact ⟨_, rfl, h⟩
variable {A : Around} {s : Shared}
theorem RcAt.str_dict {l : Addr} {o : Obj} {es : Array DictEntry} {n : Nat} (b : Str) (u : Tok) (ho : s.heap.get? l = some o) (hc : o.cls = .type "dict") (hd : o.data = .dict es n) (hu : A.units < cLine) : RcAt A s (.str b u) (.ref l) false := fun prog w E Q h => by
  obtain ⟨cls, dd, data, sl⟩ := o
  simp only at hc hd
  subst hc hd
  exact rc_eq_decline_or (k := false) (typeIs_str s b u) ⟨_, ho, rfl⟩ (by decide) F.sub_dict_str F.slot_str_eq F.slot_dict_eq_refl
    (fun _ hq => call_meets F.slot_str_eq (typeIs_str s b u) F.entry_str_eq (F.args_str_eq_2 _ _) (str_eq_declines_dict b u l (.type "dict") es n dd sl) ⟨ho, hq⟩)
    (fun _ hq => call_meets F.slot_dict_eq_refl ⟨_, ho, rfl⟩ F.entry_dict_eq (F.args_dict_eq_2 _ _) (dict_eq_declines_str l es n dd sl b u) ⟨ho, hq⟩)
    (fun _ hq => wpAny_of_eq (rfl : isSame (.str b u) (.ref l) = pure false) hq) (.inr hu) h
theorem EqAt.str_dict {l : Addr} {o : Obj} {es : Array DictEntry} {n : Nat} (b : Str) (u : Tok) (ho : s.heap.get? l = some o) (hc : o.cls = .type "dict") (hd : o.data = .dict es n) (hu : A.units < cLine) : EqAt A s (.str b u) (.ref l) false := fun prog w E Q h => by
  unfold eqBool
  refine wpAny_holding ?_
  refine wpAny_ite_split (fun hab => absurd (eq_of_beq hab) nofun) (fun _ => ?_)
  exact wpAny_bind (RcAt.str_dict b u ho hc hd hu prog w E _ (wpAny_truthy_bool h))
end PySem.SeqAt
-- CHANGE: your row's module here, as the last of these rows
set_option Elab.async false
set_option linter.all false
set_option maxRecDepth 100000
namespace L2
open PySem PySem.Spec PyProof.Rows
abbrev Key := Sum Int Str
def keyIs : Key → Value → Bool
  | .inl k, v => Value.isInt k v
  | .inr x, v => Value.isStrOf x v
def keyH (w : World) : Key → Int
  | .inl k => hashInt k
  | .inr x => hashStr w x
theorem keyIs_shape : ∀ {k : Key} {v : Value}, keyIs k v = true → (∃ i t, k = Sum.inl i ∧ v = Value.int i t) ∨ (∃ x t, k = Sum.inr x ∧ v = Value.str x t)
  | .inl i, v, h => by
    obtain ⟨t, e⟩ := Value.isInt_shape (k := i) (v := v) h
    exact .inl ⟨i, t, rfl, e⟩
  | .inr x, v, h => by
    obtain ⟨t, e⟩ := Value.isStrOf_shape (x := x) (v := v) h
    exact .inr ⟨x, t, rfl, e⟩
theorem key_ll (a b : Int) : decide ((Sum.inl a : Key) = Sum.inl b) = (a == b) := by
  by_cases e : a = b
  · subst e; simp
  · have h : ¬ (Sum.inl a : Key) = Sum.inl b := fun q => e (Sum.inl.inj q)
    rw [decide_eq_false h]
    exact (beq_eq_false_iff_ne.mpr e).symm
theorem key_rr (a b : Str) : decide ((Sum.inr a : Key) = Sum.inr b) = decide (a = b) := by
  by_cases e : a = b
  · subst e; simp
  · have h : ¬ (Sum.inr a : Key) = Sum.inr b := fun q => e (Sum.inr.inj q)
    rw [decide_eq_false h, decide_eq_false e]
theorem key_lr (a : Int) (b : Str) : decide ((Sum.inl a : Key) = Sum.inr b) = false := decide_eq_false (fun q => nomatch q)
theorem key_rl (a : Str) (b : Int) : decide ((Sum.inr a : Key) = Sum.inl b) = false := decide_eq_false (fun q => nomatch q)
def mixKind (prog : Program) (w : World) : PySem.KeyKind prog w Key where
  is := keyIs
  hash := keyH w
  inj := fun v a b ha hb => by
    rcases keyIs_shape ha with ⟨i, t, rfl, rfl⟩ | ⟨x, t, rfl, rfl⟩
    · rcases keyIs_shape hb with ⟨j, u, rfl, e⟩ | ⟨y, u, rfl, e⟩
      · injection e with e1 _; rw [e1]
      · exact nomatch e
    · rcases keyIs_shape hb with ⟨j, u, rfl, e⟩ | ⟨y, u, rfl, e⟩
      · exact nomatch e
      · injection e with e1 _; rw [e1]
  byValue := fun k v h => by
    rcases keyIs_shape h with ⟨i, t, rfl, rfl⟩ | ⟨x, t, rfl, rfl⟩ <;> rfl
  pyHash := fun hv h => by
    rcases keyIs_shape hv with ⟨i, t, rfl, rfl⟩ | ⟨x, t, rfl, rfl⟩
    · exact wpAny_pyHash_int h
    · exact wpAny_pyHash_str h
  eqBool := fun hu hv h => by
    rcases keyIs_shape hu with ⟨i, t, rfl, rfl⟩ | ⟨x, t, rfl, rfl⟩
    · rcases keyIs_shape hv with ⟨j, u, rfl, rfl⟩ | ⟨y, u, rfl, rfl⟩
      · rw [key_ll] at h; exact wpAny_eqBool_int h
      · rw [key_lr] at h; exact SeqAt.EqAt.int_str i t y u _ _ _ _ h
    · rcases keyIs_shape hv with ⟨j, u, rfl, rfl⟩ | ⟨y, u, rfl, rfl⟩
      · rw [key_rl] at h; exact SeqAt.EqAt.str_int x t j u _ _ _ _ h
      · rw [key_rr] at h; exact wpAny_eqBool_str h
  «strs» := fun k x t v h => by
    rcases keyIs_shape h with ⟨i, u, rfl, e⟩ | ⟨y, u, rfl, e⟩
    · exact nomatch e
    · injection e with e1 _
      subst e1
      cases v <;> rfl
end L2
namespace L2
open PySem PySem.Spec PyProof.Rows
inductive V where
  | non | bl (b : Bool) | int (i : Int) | str (x : Str) | byt (b : Array UInt8) | flt (b : UInt64) | ref (a : Addr) | ty (n : String)
  deriving DecidableEq
def RelV : V → Value → Prop
  | .non, u => u = Value.none
  | .bl b, u => u = Value.bool b
  | .int i, u => ∃ t, u = Value.int i t
  | .str x, u => ∃ t, u = Value.str x t
  | .byt b, u => ∃ t, u = Value.bytes b t
  | .flt b, u => ∃ t, u = Value.float b t
  | .ref a, u => u = Value.ref a
  | .ty n, u => u = Value.type n
abbrev Vals : List V → List Value → Prop := Paired RelV
theorem Vals.length {xs : List V} {us : List Value} (r : Vals xs us) : xs.length = us.length := Paired.length r
theorem Vals.get : ∀ {xs : List V} {us : List Value} {i : Nat} {x : V}, Vals xs us → xs[i]? = some x → ∃ u, us[i]? = some u ∧ RelV x u
  | _, _, _, _, .nil, e => by simp at e
  | _, _, 0, _, .cons r _, e => by simp at e; subst e; exact ⟨_, rfl, r⟩
  | _, _, i + 1, x, .cons _ t, e => by
    obtain ⟨u, h1, h2⟩ := Vals.get (i := i) (x := x) t (by simpa using e)
    exact ⟨u, by simpa using h1, h2⟩
theorem Vals.set {x : V} {u : Value} (r : RelV x u) : ∀ {xs : List V} {us : List Value} (i : Nat), Vals xs us → Vals (xs.set i x) (us.set i u)
  | _, _, _, .nil => .nil
  | _, _, 0, .cons _ t => .cons r t
  | _, _, i + 1, .cons q t => .cons q (Vals.set r i t)
theorem Vals.append : ∀ {xs ys : List V} {us ws : List Value}, Vals xs us → Vals ys ws → Vals (xs ++ ys) (us ++ ws)
  | _, _, _, _, .nil, s => s
  | _, _, _, _, .cons r t, s => .cons r (Vals.append t s)
theorem Vals.take : ∀ {xs : List V} {us : List Value} (n : Nat), Vals xs us → Vals (xs.take n) (us.take n)
  | _, _, 0, _ => .nil
  | _, _, _ + 1, .nil => .nil
  | _, _, n + 1, .cons r t => .cons r (Vals.take n t)
theorem Vals.drop : ∀ {xs : List V} {us : List Value} (n : Nat), Vals xs us → Vals (xs.drop n) (us.drop n)
  | _, _, 0, r => r
  | _, _, _ + 1, .nil => .nil
  | _, _, n + 1, .cons _ t => Vals.drop n t
def RelO : Option V → Option Value → Prop
  | some v, some u => RelV v u
  | none, none => True
  | _, _ => False
def KV {κ : Type} : List (κ × V) → List (κ × Value) → Prop := Paired fun (p : κ × V) (q : κ × Value) => p.1 = q.1 ∧ RelV p.2 q.2
def kV : Key → V
  | .inl i => .int i
  | .inr x => .str x
inductive HO where
  /-- a list -/
  | lst (xs : List V)
  /-- a tuple (never changes) -/
  | tup (xs : List V)
  /-- a dict whose keys are ints and texts; one whose keys are tuples of ints and texts (the empty one is both) -/
  | dK (kvs : List (Key × V)) | dT (kvs : List (List Key × V))
  /-- a set of ints: its members, its size -/
  | set (S : Int → Bool) (n : Nat)
  /-- an instance of the class at C, its dict at dx, its attributes -/
  | ins (C dx : Addr) (fs : List (Str × V))
  /-- the dict of the instance at x -/
  | own (x : Addr)
  /-- the dict of an exception -/
  | xd (fs : List (Str × V))
  /-- a bound method, f of x -/
  | met (f x : Addr)
  /-- a range object lo, lo + 1, .. below hi -/
  | rng (lo hi : Int)
  /-- a thing that is known to the object (the script; a dict while a loop walks it): read, never written while it is so -/
  | frz (o : Obj) (u : HO)
  /-- a code object's table -/
  | tbl (ps : Array Value)
  /-- any other thing, by what is true of its one object (a def of one's own: SetO a S n := HO.ext fun h => ..) -/
  | ext (φ : Heap → Prop)
abbrev Hp := Addr → Option HO
def upd (H : Hp) (a : Addr) (o : HO) : Hp := fun b => if b = a then some o else H b
theorem upd_same {H : Hp} {a : Addr} {o : HO} : upd H a o a = some o := by unfold upd; rw [if_pos rfl]
theorem upd_ne {H : Hp} {a b : Addr} {o : HO} (h : b ≠ a) : upd H a o b = H b := by unfold upd; rw [if_neg h]
theorem upd_upd {H : Hp} {a : Addr} {o u : HO} : upd (upd H a o) a u = upd H a u := by
  funext b; unfold upd; split <;> rfl
theorem ne_of_none {H : Hp} {a b : Addr} {o : HO} (h : H a = some o) (h' : H b = none) : a ≠ b := by
  intro e; subst e; rw [h] at h'; cases h'
def TupD (h : Heap) (a : Addr) (items : Array Value) : Prop := ∃ o, h.get? a = some o ∧ o.cls = .type "tuple" ∧ ∃ n, o.data = .seq items n ∧ o.dict = none
theorem TupD.tup {h : Heap} {a : Addr} {items : Array Value} (x : TupD h a items) : IsTup h a items := let ⟨o, e, c, n, d, _⟩ := x; ⟨o, e, c, n, d⟩
theorem TupD.new (h : Heap) (items : Array Value) : TupD (h.push { cls := .type "tuple", data := .seq items }) h.objs.size items := ⟨_, Heap.get?_push_size _ rfl, rfl, _, rfl, rfl⟩
section
variable (P : Program) (w : World)
def ObjOk (H : Hp) (h : Heap) (a : Addr) : HO → Prop
  | .lst xs => xs.length ≤ sizeLine ∧ ∃ (its : List Value) (n : Nat), Vals xs its ∧ h.get? a = some { cls := .type "list", data := .seq its.toArray n }
  | .tup xs => xs.length ≤ sizeLine ∧ ∃ its : List Value, Vals xs its ∧ TupD h a its.toArray
  | .dK kvs => kvs.length ≤ sizeLine ∧ (a == sysModules) = false ∧ ∃ vs, KV kvs vs ∧ h.DictOf (mixKind P w) a vs
  | .dT kvs => kvs.length ≤ sizeLine ∧ (a == sysModules) = false ∧ ∃ xs : List (List Key × Addr × Value),
      Paired (fun (p : List Key × V) (q : List Key × Addr × Value) => p.1 = q.1 ∧ H q.2.1 = some (.tup (p.1.map kV)) ∧ RelV p.2 q.2.2) kvs xs ∧
      ∃ o es ep, h.get? a = some o ∧ o.ExactDict ∧ o.data = .dict es ep ∧ es.toList = xs.map (entryOfKey (tupleKind (mixKind P w))) ∧ (xs.map (·.1)).Nodup
  | .set S n => h.SetOf (intKind P w) a S n
  | .ins C dx fs => H dx = some (.own a) ∧ fs.length ≤ 1000 ∧ dx ≠ a ∧ h.get? a = some (PySem.W.instObj C dx) ∧
      ∃ mA, h.Ns1 dx mA ∧ (∀ f, RelO (fs.lookup f) (mA f)) ∧ PySem.Within mA (fs.map (·.1))
  | .own _ => ∃ o, h.get? a = some o
  | .xd fs => ∃ mA, h.Ns1 a mA ∧ ∀ f, RelO (fs.lookup f) (mA f)
  | .rng lo hi => ∃ t u v, h.get? a = some { cls := .type "range", data := .fields #[.int lo t, .int hi u, .int 1 v] }
  | .frz o u => h.get? a = some o ∧ ObjOk H h a u
  | .tbl ps => h.get? a = some { cls := .none, data := .fields ps }
  | .met f x => h.get? a = some (PySem.W.methodObj (.ref f) (.ref x))
  | .ext φ => φ h ∧ (∃ o, h.get? a = some o) ∧ ∀ h1 h2 : Heap, φ h1 → (∀ o, h1.get? a = some o → h2.get? a = some o) → φ h2
def HOk (H : Hp) (h : Heap) : Prop := ∀ a o, H a = some o → ObjOk P w H h a o
end
section
variable {P : Program} {w : World} {H H' : Hp} {h h' : Heap} {a : Addr} {o : HO}
theorem ObjOk.lt (x : ObjOk P w H h a o) : a < h.objs.size := by
  cases o with
  | lst xs => obtain ⟨_, _, _, _, e⟩ := x; exact Heap.lt_size e
  | tup xs => obtain ⟨_, _, _, p⟩ := x; exact p.tup.lt
  | dK kvs => obtain ⟨_, _, _, _, o, _, _, e, _⟩ := x; exact Heap.lt_size e
  | dT kvs => obtain ⟨_, _, _, _, o, _, _, e, _⟩ := x; exact Heap.lt_size e
  | set S n => obtain ⟨o, _, _, _, e, _⟩ := x; exact Heap.lt_size e
  | ins C dx fs => obtain ⟨_, _, _, e, _⟩ := x; exact Heap.lt_size e
  | own y => obtain ⟨_, e⟩ := x; exact Heap.lt_size e
  | xd fs => obtain ⟨_, ⟨_, _, _, e, _⟩, _⟩ := x; exact Heap.lt_size e
  | rng lo hi => obtain ⟨_, _, _, e⟩ := x; exact Heap.lt_size e
  | frz ob u => obtain ⟨e, _⟩ := x; exact Heap.lt_size e
  | tbl ps => exact Heap.lt_size (show h.get? a = some _ from x)
  | met f y => exact Heap.lt_size (show h.get? a = some _ from x)
  | ext φ => obtain ⟨_, ⟨_, e⟩, _⟩ := x; exact Heap.lt_size e
theorem Paired.mapP {α β : Type} {F G : α → β → Prop} : ∀ {l₁ : List α} {l₂ : List β}, Paired F l₁ l₂ → (∀ a b, F a b → G a b) → Paired G l₁ l₂
  | _, _, .nil, _ => .nil
  | _, _, .cons r t, f => .cons (f _ _ r) (Paired.mapP t f)
theorem ObjOk.stay (x : ObjOk P w H h a o) (k : ∀ b u, (b = a ∨ H b = some (.own a)) → h.get? b = some u → h'.get? b = some u)
    (ho : ∀ b, H b = some (.own a) → H' b = some (.own a)) (ht : ∀ b xs, H b = some (.tup xs) → H' b = some (.tup xs)) : ObjOk P w H' h' a o := by
  induction o with
  | lst xs => obtain ⟨z, its, n, r, e⟩ := x; exact ⟨z, its, n, r, k _ _ (.inl rfl) e⟩
  | tup xs => obtain ⟨z, its, r, ob, e, c⟩ := x; exact ⟨z, its, r, ob, k _ _ (.inl rfl) e, c⟩
  | dK kvs => obtain ⟨z, y, vs, r, ob, es, ep, e, c⟩ := x; exact ⟨z, y, vs, r, ob, es, ep, k _ _ (.inl rfl) e, c⟩
  | dT kvs =>
    obtain ⟨z, y, xs, r, ob, es, ep, e, c⟩ := x
    exact ⟨z, y, xs, Paired.mapP r fun p q z => ⟨z.1, ht _ _ z.2.1, z.2.2⟩, ob, es, ep, k _ _ (.inl rfl) e, c⟩
  | set S n => obtain ⟨ob, es, ep, t, e, c⟩ := x; exact ⟨ob, es, ep, t, k _ _ (.inl rfl) e, c⟩
  | ins C dx fs =>
    obtain ⟨d, z, ne, e, mA, ⟨od, es, ep, e2, c⟩, r⟩ := x
    exact ⟨ho _ d, z, ne, k _ _ (.inl rfl) e, mA, ⟨od, es, ep, k _ _ (.inr d) e2, c⟩, r⟩
  | own y => obtain ⟨ob, e⟩ := x; exact ⟨ob, k _ _ (.inl rfl) e⟩
  | xd fs => obtain ⟨mA, ⟨od, es, ep, e, c⟩, r⟩ := x; exact ⟨mA, ⟨od, es, ep, k _ _ (.inl rfl) e, c⟩, r⟩
  | rng lo hi => obtain ⟨t, u, v, e⟩ := x; exact ⟨t, u, v, k _ _ (.inl rfl) e⟩
  | frz ob u ih => obtain ⟨e, q⟩ := x; exact ⟨k _ _ (.inl rfl) e, ih q⟩
  | tbl ps =>
    have e : h.get? a = some { cls := .none, data := .fields ps } := x
    show h'.get? a = some { cls := .none, data := .fields ps }
    exact k a _ (.inl rfl) e
  | met f y =>
    have e : h.get? a = some (PySem.W.methodObj (.ref f) (.ref y)) := x
    show h'.get? a = some (PySem.W.methodObj (.ref f) (.ref y))
    exact k a _ (.inl rfl) e
  | ext φ => obtain ⟨p, ⟨o, e⟩, st⟩ := x; exact ⟨st _ _ p fun o q => k _ _ (.inl rfl) q, ⟨o, k _ _ (.inl rfl) e⟩, st⟩
theorem HOk.lt (x : HOk P w H h) (e : H a = some o) : a < h.objs.size := (x a o e).lt
theorem HOk.fresh (x : HOk P w H h) (e : h.objs.size ≤ a) : H a = none := by
  cases q : H a with
  | none => rfl
  | some u => exact absurd (Nat.lt_of_lt_of_le (x.lt q) e) (Nat.lt_irrefl _)
theorem HOk.kept (x : HOk P w H h) (k : ∀ b u, h.get? b = some u → h'.get? b = some u) : HOk P w H h' := fun a o e =>
  (x a o e).stay (fun b u _ q => k b u q) (fun _ q => q) fun _ _ q => q
theorem HOk.laid (x : HOk P w H h) (k : ∀ b u, h.get? b = some u → h'.get? b = some u) (hp : h.objs.size ≤ a) (new : ObjOk P w (upd H a o) h' a o) : HOk P w (upd H a o) h' := fun b u e => by
  have hn := x.fresh hp
  by_cases hb : b = a
  · subst hb; rw [upd_same] at e; cases e; exact new
  · rw [upd_ne hb] at e
    exact (x b u e).stay (fun c v _ q => k c v q) (fun c q => by rw [upd_ne (ne_of_none q hn)]; exact q) fun c xs q => by rw [upd_ne (ne_of_none q hn)]; exact q
end
def Rd (H : Hp) (a : Addr) (u : HO) : Prop := H a = some u ∨ ∃ o, H a = some (.frz o u)
theorem Rd.of {H : Hp} {a : Addr} {u : HO} (h : H a = some u) : Rd H a u := .inl h
theorem Rd.ok {P : Program} {w : World} {H : Hp} {h : Heap} {a : Addr} {u : HO} (r : Rd H a u) (x : HOk P w H h) : ObjOk P w H h a u := by
  rcases r with r | ⟨o, r⟩
  · exact x a u r
  · obtain ⟨_, q⟩ := x a _ r
    exact q
def Mut : Option HO → Prop
  | some (.lst _) => True
  | some (.dK _) => True
  | some (.dT _) => True
  | some (.set _ _) => True
  | some (.ins _ _ _) => True
  | some (.ext _) => True
  | _ => False
section
variable {P : Program} {w : World} {H : Hp} {h h' : Heap} {x e : Addr} {o' : HO}
theorem HOk.write (ok : HOk P w H h) (mu : Mut (H x)) (he : e = x ∨ H e = some (.own x)) (k : ∀ b u, b ≠ e → h.get? b = some u → h'.get? b = some u) (heo : ∃ u, h'.get? e = some u)
    (new : ObjOk P w (upd H x o') h' x o') : HOk P w (upd H x o') h' := fun b u q => by
  have nown : ∀ c y, H c = some (.own y) → c ≠ x := fun c y r z => by subst z; rw [r] at mu; exact mu
  have ntup : ∀ c xs, H c = some (.tup xs) → c ≠ x := fun c xs r z => by subst z; rw [r] at mu; exact mu
  by_cases hb : b = x
  · subst hb; rw [upd_same] at q; cases q; exact new
  · rw [upd_ne hb] at q
    by_cases hbe : b = e
    · have q' : H b = some (.own x) := by
        rcases he with z | z
        · exact absurd (hbe.trans z) hb
        · rw [hbe]; exact z
      rw [q] at q'; cases q'
      obtain ⟨v, hv⟩ := heo
      exact ⟨v, by rw [hbe]; exact hv⟩
    · refine (ok b u q).stay (fun c v hc r => k c v ?_ r) (fun c r => by rw [upd_ne (nown c b r)]; exact r) fun c xs r => by rw [upd_ne (ntup c xs r)]; exact r
      rcases hc with rfl | hc
      · exact hbe
      · rintro rfl
        rcases he with z | z
        · exact nown c b hc z
        · rw [hc] at z; cases z; exact hb rfl
end
structure Un (fs ex : List Addr) (H H' : Hp) (h h' : Heap) : Prop where
  keep : ∀ b o, h.get? b = some o → H b = none → b ∉ fs → b ∉ ex → h'.get? b = some o
  slot : ∀ b o, h.get? b = some o → H b = none → b ∈ fs → b ∉ ex → ∃ sl, h'.get? b = some { o with slots := sl }
  free : ∀ b o, h.get? b = some o → H b = none → b ∉ ex → H' b = none
  there : ∀ b o, h.get? b = some o → b ∉ ex → ∃ o', h'.get? b = some o'
  tups : ∀ b xs, H b = some (.tup xs) → H' b = some (.tup xs)
  frzs : ∀ b o u, H b = some (.frz o u) → H' b = some (.frz o u)
  tbls : ∀ b ps, H b = some (.tbl ps) → ∃ more, H' b = some (.tbl (ps ++ more))
section
variable {fs fs' ex ex' : List Addr} {H H1 H2 : Hp} {h h1 h2 h' : Heap} {a x e : Addr} {o : HO}
theorem Un.any (u : Un fs ex H H1 h h1) {b : Addr} {ob : Obj} (q : h.get? b = some ob) (n : H b = none) (hx : b ∉ ex) : ∃ sl, h1.get? b = some { ob with slots := sl } := by
  by_cases hb : b ∈ fs
  · exact u.slot b ob q n hb hx
  · exact ⟨ob.slots, u.keep b ob q n hb hx⟩
theorem Un.trans (a : Un fs ex H H1 h h1) (b : Un fs ex H1 H2 h1 h2) : Un fs ex H H2 h h2 where
  keep := fun c ob q n hc hx => b.keep c ob (a.keep c ob q n hc hx) (a.free c ob q n hx) hc hx
  slot := fun c ob q n hc hx => by
    obtain ⟨sl, e1⟩ := a.slot c ob q n hc hx
    obtain ⟨sl', e2⟩ := b.slot c _ e1 (a.free c ob q n hx) hc hx
    exact ⟨sl', e2⟩
  free := fun c ob q n hx => by
    obtain ⟨o', e1⟩ := a.there c ob q hx
    exact b.free c o' e1 (a.free c ob q n hx) hx
  there := fun c ob q hx => by
    obtain ⟨o', e1⟩ := a.there c ob q hx
    exact b.there c o' e1 hx
  tups := fun c xs q => b.tups c xs (a.tups c xs q)
  frzs := fun c ob xs q => b.frzs c ob xs (a.frzs c ob xs q)
  tbls := fun c ps q => by
    obtain ⟨m1, e1⟩ := a.tbls c ps q
    obtain ⟨m2, e2⟩ := b.tbls c _ e1
    exact ⟨m1 ++ m2, by rw [e2, Array.append_assoc]⟩
theorem Un.kept (k : ∀ b u, h.get? b = some u → h'.get? b = some u) : Un fs ex H H h h' :=
  ⟨fun b ob q _ _ _ => k b ob q, fun b ob q _ _ _ => ⟨ob.slots, k b ob q⟩, fun _ _ _ n _ => n, fun b ob q _ => ⟨ob, k b ob q⟩, fun _ _ q => q, fun _ _ _ q => q, fun _ ps q => ⟨#[], by rw [q]; simp⟩⟩
theorem Un.refl : Un fs ex H H h h := Un.kept fun _ _ q => q
theorem Un.laid (k : ∀ b u, h.get? b = some u → h'.get? b = some u) (hp : h.objs.size ≤ a) (hn : H a = none) : Un fs ex H (upd H a o) h h' where
  keep := fun b u q _ _ _ => k b u q
  slot := fun b u q _ _ _ => ⟨u.slots, k b u q⟩
  free := fun b u q n _ => by rw [upd_ne (Nat.ne_of_lt (Nat.lt_of_lt_of_le (Heap.lt_size q) hp))]; exact n
  there := fun b u q _ => ⟨u, k b u q⟩
  tups := fun b xs q => by rw [upd_ne (ne_of_none q hn)]; exact q
  frzs := fun b u xs q => by rw [upd_ne (ne_of_none q hn)]; exact q
  tbls := fun b ps q => ⟨#[], by rw [upd_ne (ne_of_none q hn), q]; simp⟩
theorem Un.write (mu : Mut (H x)) (he : e = x ∨ H e = some (.own x)) (k : ∀ b u, b ≠ e → h.get? b = some u → h'.get? b = some u) (heo : ∃ u, h'.get? e = some u) : Un fs ex H (upd H x o) h h' := by
  have hx : ∀ b, H b = none → b ≠ x := fun b n z => by subst z; rw [n] at mu; exact mu
  have hb : ∀ b, H b = none → b ≠ e := fun b n z => by
    subst z
    rcases he with r | r
    · exact hx b n r
    · rw [n] at r; cases r
  have hm : ∀ b u, H b = some u → ¬ Mut (some u) → b ≠ x := fun b u q nm z => by subst z; rw [q] at mu; exact nm mu
  refine ⟨fun b u q n _ _ => k b u (hb b n) q, fun b u q n _ _ => ⟨u.slots, k b u (hb b n) q⟩, fun b u q n _ => by rw [upd_ne (hx b n)]; exact n, fun b u q _ => ?_,
    fun b xs q => by rw [upd_ne (hm b _ q fun z => z)]; exact q, fun b u xs q => by rw [upd_ne (hm b _ q fun z => z)]; exact q, fun b ps q => ⟨#[], by rw [upd_ne (hm b _ q fun z => z), q]; simp⟩⟩
  by_cases hbe : b = e
  · subst hbe; exact heo
  · exact ⟨u, k b u hbe q⟩
theorem Un.mono (u : Un fs ex H H1 h h1) (hs : ∀ b ∈ fs, b ∈ fs') (hx : ∀ b ∈ ex, b ∈ ex') : Un fs' ex' H H1 h h1 :=
  ⟨fun b ob q n hb he => u.keep b ob q n (fun z => hb (hs b z)) fun z => he (hx b z), fun _ _ q n _ he => u.any q n fun z => he (hx _ z), fun b ob q n he => u.free b ob q n fun z => he (hx b z), fun b ob q he => u.there b ob q fun z => he (hx b z), u.tups, u.frzs, u.tbls⟩
end
def trk (h : Heap) (H : Hp) : List Addr := (List.range h.objs.size).filter fun a => (H a).isSome
def hidT (h : Heap) (H : Hp) : Heap := PySem.W.hideAll h (trk h H)
theorem hidT_size (h : Heap) (H : Hp) : (hidT h H).objs.size = h.objs.size := PySem.W.hideAll_size _ _
theorem hidT_get {h : Heap} {H : Hp} {b : Addr} {o : Obj} (e : h.get? b = some o) (n : H b = none) : (hidT h H).get? b = some o :=
  PySem.W.hideAll_get _ e fun hm => by
    have q : (H b).isSome = true := (List.mem_filter.mp hm).2
    rw [n] at q; simp at q
theorem of_hidT {h : Heap} {H : Hp} {b : Addr} {o : Obj} (e : (hidT h H).get? b = some o) : h.get? b = some o ∧ H b = none := by
  have e' : h.get? b = some o := PySem.W.of_hideAll (trk h H) e
  refine ⟨e', ?_⟩
  cases q : H b with
  | none => rfl
  | some x =>
    have hm : b ∈ trk h H := List.mem_filter.mpr ⟨List.mem_range.mpr (Heap.lt_size e'), by simp [q]⟩
    have z : (hidT h H).get? b = none := PySem.W.hideAll_none (trk h H) hm
    rw [z] at e; cases e
def allNews (g h : Heap) (L : Addr) : List (Addr × Obj) := (List.range h.objs.size).filterMap fun a => if a = L ∨ (g.get? a).isSome = true then none else (h.get? a).map fun o => (a, o)
def rest (g h : Heap) (L d : Addr) : List (Addr × Obj) := (allNews g h L).filter fun p => decide (p.1 ≠ d)
end L2
namespace L2
open PySem PySem.Spec PyProof.Rows
structure Mod (K : PySem.W.Frag) (mg : Str → Option Value) (base : Heap) : Prop where
  kin : K.In base
  glob : base.Ns mainGlobals mg
  blt : ∃ mb, base.Ns builtinsNs mb ∧ ∀ x : Str, x ≠ "__name__" → mb x = bootBuiltins x
  nolimit : base.NoLimit
structure Cx where
  prog : Program
  w : World
  K : PySem.W.Frag
  mg : Str → Option Value
  base : Heap
  A : Around
  N : List Str
  s_0 : Shared
  H_0 : Hp
  env : Env
  outer : List Env
  stack : List Env
  ex : List Addr
  fn : Str → Bool
  calm : Bool
  pn : List (Addr × Obj)
  xe : Value → Shared → Prop
def frs (l : List Env) : List Addr := l.filterMap (·.frame)
abbrev Cx.fs (X : Cx) : List Addr := frs X.outer
def Vis (sc : Scope) (x : Str) : Prop := sc.names.lookup x = some .local ∨ sc.names.lookup x = some .cell ∨ sc.names.lookup x = some .free
def Loc (sc : Scope) (x : Str) : Prop := sc.names.lookup x = some .local ∨ sc.names.lookup x = some .cell
def Look (env : Env) (h : Heap) (m : Str → Option Value) (x : Str) (u : Value) : Prop :=
  (env.kindOf x = some .local ∧ m x = some u) ∨ ((env.kindOf x = some .cell ∨ env.kindOf x = some .free) ∧ ∃ c, env.cells.lookup x = some c ∧ h.IsCell c (some u))
structure Cx.Ok (X : Cx) : Prop where
  mod : Mod X.K X.mg X.base
  kind : X.env.scope.kind = .function
  glob : X.env.globals = mainGlobals
  blt : X.env.builtins = builtinsNs
  above : X.s_0.heap.objs.size ≤ X.env.locals
  inj : ∀ x y c, X.env.cells.lookup x = some c → X.env.cells.lookup y = some c → x = y
  has : ∀ x, (X.env.kindOf x = some .cell ∨ X.env.kindOf x = some .free) → ∃ c, X.env.cells.lookup x = some c
  cab : ∀ x c, X.fn x = true → X.env.cells.lookup x = some c → X.s_0.heap.objs.size ≤ c
  hd : X.calm = true → X.A.handled = none
  frames : X.A.frames = some X.stack
  stk : X.stack = X.outer ∨ (X.stack = X.env :: X.outer ∧ X.env.frame = some X.env.locals)
  exf : ∀ b ∈ X.ex, b ≠ X.env.locals ∧ ∀ x c, X.env.cells.lookup x = some c → c ≠ b
  bs : ∀ b o, X.base.get? b = some o → X.s_0.heap.get? b = some o ∧ X.H_0 b = none
  bsz : X.base.objs.size ≤ X.s_0.heap.objs.size
  noex : ∀ b o, X.base.get? b = some o → b ∉ X.ex
  exfs : ∀ b ∈ X.ex, b ∉ X.fs
  funs : X.s_0.heap.FunFrames X.base X.outer
  frf : ∀ b ∈ X.fs, X.H_0 b = none
structure Inv (X : Cx) (pins : List (Addr × Obj)) (σ : List (Option V)) (H : Hp) (s : Shared) : Prop where
  ok : X.Ok
  os : s.os = X.s_0.os
  bare : AllBare s.gens
  base : Un X.fs X.ex X.H_0 H X.s_0.heap s.heap
  loc : ∃ m, s.heap.Ns X.env.locals m ∧ ∀ (i : Nat) (x : Str) (v : V), X.N[i]? = some x → σ[i]? = some (some v) → Vis X.env.scope x → ∃ u, RelV v u ∧ Look X.env s.heap m x u
  cell : ∀ x c, X.env.cells.lookup x = some c → ∃ v, s.heap.IsCell c v
  free : H X.env.locals = none
  freeC : ∀ x c, X.env.cells.lookup x = some c → H c = none
  pin : ∀ p ∈ X.pn ++ pins, s.heap.get? p.1 = some p.2 ∧ H p.1 = none ∧ p.1 ≠ X.env.locals ∧ p.1 ∉ X.fs ∧ ∀ v, p.2.data ≠ .cell v
  hok : HOk X.prog X.w H s.heap
  len : σ.length = X.N.length
section
variable {X : Cx} {pins : List (Addr × Obj)} {σ : List (Option V)} {H H' : Hp} {s : Shared} {h' : Heap}
theorem Cx.Ok.nofr (ok : X.Ok) {b : Addr} {o : Obj} (e : X.base.get? b = some o) : b ∉ X.fs := fun hb => by
  have := (ok.funs.mem hb).1
  rw [e] at this; cases this
theorem Inv.bs (I : Inv X pins σ H s) : ∀ b o, X.base.get? b = some o → s.heap.get? b = some o ∧ H b = none := fun b o e =>
  ⟨I.base.keep b o (I.ok.bs b o e).1 (I.ok.bs b o e).2 (I.ok.nofr e) (I.ok.noex b o e), I.base.free b o (I.ok.bs b o e).1 (I.ok.bs b o e).2 (I.ok.noex b o e)⟩
theorem Inv.bk (I : Inv X pins σ H s) : ∀ b o, X.base.get? b = some o → s.heap.get? b = some o := fun b o e => (I.bs b o e).1
theorem Inv.mod (I : Inv X pins σ H s) : Mod X.K X.mg X.base := I.ok.mod
theorem Inv.kIn (I : Inv X pins σ H s) : X.K.In s.heap := I.ok.mod.kin.keeps I.bk
theorem Inv.nolimit (I : Inv X pins σ H s) : s.heap.NoLimit := I.ok.mod.nolimit.keeps I.bk
theorem Inv.fr (I : Inv X pins σ H s) : ∃ m, Fr X.base X.env.locals s.heap m :=
  let ⟨m, hn, _⟩ := I.loc
  ⟨m, hn, I.bk, Nat.le_trans I.ok.bsz I.ok.above⟩
theorem Inv.lt (I : Inv X pins σ H s) : X.env.locals < s.heap.objs.size := let ⟨_, hn, _⟩ := I.loc; hn.lt
theorem Inv.sz (I : Inv X pins σ H s) : X.s_0.heap.objs.size ≤ s.heap.objs.size := Nat.le_trans I.ok.above (Nat.le_of_lt I.lt)
theorem Inv.nofs (I : Inv X pins σ H s) {a : Addr} (h : s.heap.objs.size ≤ a) : a ∉ X.fs := fun hb => by
  obtain ⟨_, o, ho, _⟩ := I.ok.funs.mem hb
  exact absurd (Nat.lt_of_lt_of_le (Heap.lt_size ho) (Nat.le_trans I.sz h)) (Nat.lt_irrefl _)
theorem Inv.cne (I : Inv X pins σ H s) : ∀ x c, X.env.cells.lookup x = some c → c ≠ X.env.locals := fun x c e z => by
  obtain ⟨v, o, ho, hd⟩ := I.cell x c e
  obtain ⟨m, ⟨o', es, ep, ho', hd', _⟩, _⟩ := I.loc
  rw [z, ho'] at ho; cases ho; rw [hd'] at hd; cases hd
theorem Inv.funs (I : Inv X pins σ H s) : s.heap.FunFrames X.base X.outer := by
  have all : ∀ (l : List Env), (∀ b ∈ frs l, b ∈ X.fs) → X.s_0.heap.FunFrames X.base l → s.heap.FunFrames X.base l := by
    intro l
    induction l with
    | nil => intro _ _; trivial
    | cons env r ih =>
      intro hs hl
      obtain ⟨hk, ⟨L, o, hf, hn, ho, hd⟩, hr⟩ := hl
      have hL : L ∈ X.fs := hs L (by unfold frs; rw [List.filterMap_cons, hf]; exact List.mem_cons_self)
      obtain ⟨sl, e⟩ := I.base.slot L o ho (I.ok.frf L hL) hL fun z => I.ok.exfs L z hL
      exact ⟨hk, ⟨L, _, hf, hn, e, hd⟩, ih (fun b hb => hs b (by unfold frs; rw [List.filterMap_cons, hf]; exact List.mem_cons_of_mem _ hb)) hr⟩
  exact all X.outer (fun _ hb => hb) I.ok.funs
theorem Inv.stack (I : Inv X pins σ H s) : s.heap.FunFrames X.base X.stack := by
  rcases I.ok.stk with e | ⟨e, hf⟩
  · rw [e]; exact I.funs
  · rw [e]
    obtain ⟨m, hn, _⟩ := I.loc
    refine .cons (by rw [I.ok.kind]; decide) hf hn ?_ I.funs
    exact Heap.get?_none_of_le (Nat.le_trans I.ok.bsz I.ok.above)
theorem Inv.stkSub (I : Inv X pins σ H s) : ∀ b ∈ frs X.stack, b ∈ X.env.locals :: X.fs := fun b hb => by
  rcases I.ok.stk with e | ⟨e, hf⟩
  · rw [e] at hb; exact List.mem_cons_of_mem _ hb
  · rw [e] at hb
    unfold frs at hb
    rw [List.filterMap_cons, hf] at hb
    exact hb
theorem Inv.stkFree (I : Inv X pins σ H s) : ∀ b ∈ frs X.stack, H b = none := fun b hb => by
  rcases List.mem_cons.mp (I.stkSub b hb) with e | hb
  · rw [e]; exact I.free
  · obtain ⟨_, o, ho, _⟩ := I.ok.funs.mem hb
    exact I.base.free b o ho (I.ok.frf b hb) fun z => I.ok.exfs b z hb
theorem Inv.step {g' : Array GenState} {t' : Nat} {d' : Drawn} {ch : List Addr} (I : Inv X pins σ H s)
    (hch : ∀ b ∈ ch, (b ∈ X.ex ∨ X.s_0.heap.objs.size ≤ b) ∧ b ≠ X.env.locals ∧ (∀ x c, X.env.cells.lookup x = some c → c ≠ b) ∧ ∀ p ∈ X.pn ++ pins, p.1 ≠ b)
    (keep : ∀ b o, b ≠ X.env.locals → b ∉ X.fs → b ∉ ch → s.heap.get? b = some o → H b = none → h'.get? b = some o)
    (slot : ∀ b o, b ≠ X.env.locals → b ∈ X.fs → b ∉ ch → s.heap.get? b = some o → H b = none → ∃ sl, h'.get? b = some { o with slots := sl }) (free : ∀ b o, b ∉ ch → s.heap.get? b = some o → H b = none → H' b = none)
    (there : ∀ b o, b ∉ ch → s.heap.get? b = some o → ∃ o', h'.get? b = some o')
    (tups : ∀ b xs, H b = some (.tup xs) → H' b = some (.tup xs)) (frzs : ∀ b o u, H b = some (.frz o u) → H' b = some (.frz o u)) (tbls : ∀ b ps, H b = some (.tbl ps) → ∃ more, H' b = some (.tbl (ps ++ more)))
    (ns : ∀ m, s.heap.Ns X.env.locals m → h'.Ns X.env.locals m) (hok : HOk X.prog X.w H' h') (hg : AllBare g') :
    Inv X pins σ H' { s with heap := h', gens := g', drawn := d', toks := t' } := by
  have neL : ∀ b o, X.s_0.heap.get? b = some o → b ≠ X.env.locals := fun b o e => Nat.ne_of_lt (Nat.lt_of_lt_of_le (Heap.lt_size e) I.ok.above)
  have neC : ∀ b o, X.s_0.heap.get? b = some o → b ∉ X.ex → b ∉ ch := fun b o e hx hb => by
    rcases (hch b hb).1 with z | z
    · exact hx z
    · exact absurd (Nat.lt_of_lt_of_le (Heap.lt_size e) z) (Nat.lt_irrefl _)
  have cellK : ∀ x c, X.env.cells.lookup x = some c → ∀ v, s.heap.IsCell c v → h'.IsCell c v := fun x c e v ⟨o, ho, hd⟩ => by
    have nch : c ∉ ch := fun z => (hch c z).2.2.1 x c e rfl
    by_cases hc : c ∈ X.fs
    · obtain ⟨sl, q⟩ := slot c o (I.cne x c e) hc nch ho (I.freeC x c e)
      exact ⟨_, q, hd⟩
    · exact ⟨o, keep c o (I.cne x c e) hc nch ho (I.freeC x c e), hd⟩
  refine ⟨I.ok, I.os, hg, ⟨fun b o e n hb hx => ?_, fun b o e n hb hx => ?_, fun b o e n hx => ?_, fun b o e hx => ?_, fun b xs e => tups b xs (I.base.tups b xs e), fun b o xs e => frzs b o xs (I.base.frzs b o xs e), fun b ps e => ?_⟩, ?_, fun x c e => ?_, ?_, fun x c e => ?_, fun p hp => ?_, hok, I.len⟩
  · exact keep b o (neL b o e) hb (neC b o e hx) (I.base.keep b o e n hb hx) (I.base.free b o e n hx)
  · obtain ⟨sl, e1⟩ := I.base.slot b o e n hb hx
    obtain ⟨sl', e2⟩ := slot b _ (neL b o e) hb (neC b o e hx) e1 (I.base.free b o e n hx)
    exact ⟨sl', e2⟩
  · obtain ⟨o', e1⟩ := I.base.there b o e hx
    exact free b o' (neC b o e hx) e1 (I.base.free b o e n hx)
  · obtain ⟨o', e1⟩ := I.base.there b o e hx
    exact there b o' (neC b o e hx) e1
  · obtain ⟨m1, e1⟩ := I.base.tbls b ps e
    obtain ⟨m2, e2⟩ := tbls b _ e1
    exact ⟨m1 ++ m2, by rw [e2, Array.append_assoc]⟩
  · obtain ⟨m, hn, hl⟩ := I.loc
    refine ⟨m, ns m hn, fun i x v e1 e2 e3 => ?_⟩
    obtain ⟨u, r, l⟩ := hl i x v e1 e2 e3
    refine ⟨u, r, ?_⟩
    rcases l with l | ⟨k, c, e, z⟩
    · exact .inl l
    · exact .inr ⟨k, c, e, cellK x c e _ z⟩
  · obtain ⟨v, z⟩ := I.cell x c e
    exact ⟨v, cellK x c e v z⟩
  · obtain ⟨m, ⟨o, _, _, ho, _⟩, _⟩ := I.loc
    exact free _ o (fun z => (hch _ z).2.1 rfl) ho I.free
  · obtain ⟨v, o, ho, hd⟩ := I.cell x c e
    exact free c o (fun z => (hch c z).2.2.1 x c e rfl) ho (I.freeC x c e)
  · obtain ⟨e, n, ne, nf, d⟩ := I.pin p hp
    have nch : p.1 ∉ ch := fun z => (hch p.1 z).2.2.2 p hp rfl
    exact ⟨keep p.1 p.2 ne nf nch e n, free p.1 p.2 nch e n, ne, nf, d⟩
theorem Inv.un {t' : Nat} (I : Inv X pins σ H s) (u : Un X.fs [] H H' s.heap h') (hok : HOk X.prog X.w H' h') : Inv X pins σ H' { s with heap := h', toks := t' } := by
  obtain ⟨m, ⟨o, es, ep, ho, r⟩, _⟩ := id I.loc
  obtain ⟨sl, hL⟩ := u.any ho I.free (by simp)
  exact I.step (g' := s.gens) (d' := s.drawn) (ch := []) (fun _ z => nomatch z) (fun b o _ hb _ e n => u.keep b o e n hb (by simp)) (fun b o _ hb _ e n => u.slot b o e n hb (by simp)) (fun b o _ e n => u.free b o e n (by simp)) (fun b o _ e => u.there b o e (by simp)) u.tups u.frzs u.tbls (fun m' hm => by
    obtain ⟨o', es', ep', ho', r'⟩ := hm
    rw [ho] at ho'; cases ho'
    exact ⟨_, es', ep', hL, r'⟩) hok I.bare
theorem Inv.call {g' : Array GenState} {t' : Nat} {d' : Drawn} {ch : List Addr} (I : Inv X pins σ H s) (u : Un (frs X.stack) ch H H' s.heap h') (hok : HOk X.prog X.w H' h') (hg : AllBare g')
    (hch : ∀ b ∈ ch, (b ∈ X.ex ∨ X.s_0.heap.objs.size ≤ b) ∧ b ≠ X.env.locals ∧ (∀ x c, X.env.cells.lookup x = some c → c ≠ b) ∧ ∀ p ∈ X.pn ++ pins, p.1 ≠ b) :
    Inv X pins σ H' { s with heap := h', gens := g', drawn := d', toks := t' } := by
  obtain ⟨m, ⟨o, es, ep, ho, r⟩, _⟩ := id I.loc
  obtain ⟨sl, hL⟩ := u.any ho I.free fun z => (hch _ z).2.1 rfl
  exact I.step (ch := ch) hch (fun b o hL hb hc e n => u.keep b o e n (fun z => (List.mem_cons.mp (I.stkSub b z)).elim hL hb) hc) (fun b o _ _ hc e n => u.any e n hc) (fun b o hc e n => u.free b o e n hc) (fun b o hc e => u.there b o e hc) u.tups u.frzs u.tbls (fun m' hm => by
    obtain ⟨o', es', ep', ho', r'⟩ := hm
    rw [ho] at ho'; cases ho'
    exact ⟨_, es', ep', hL, r'⟩) hok hg
theorem Inv.turned {t' : Nat} {it : Addr} (I : Inv X pins σ H s) (k : ∀ b o, b ≠ it → s.heap.get? b = some o → h'.get? b = some o) (hn : H it = none) (hL : it ≠ X.env.locals)
    (h1 : it ∈ X.ex ∨ X.s_0.heap.objs.size ≤ it) (h2 : ∀ x c, X.env.cells.lookup x = some c → c ≠ it) (h3 : ∀ p ∈ X.pn ++ pins, p.1 ≠ it) : Inv X pins σ H { s with heap := h', toks := t' } := by
  have nit : ∀ b u, H b = some u → b ≠ it := fun b u e z => by rw [z, hn] at e; cases e
  refine I.step (g' := s.gens) (d' := s.drawn) (ch := [it]) (fun b hb => ?_) (fun b o _ _ hc e _ => k b o (fun z => hc (by simp [z])) e) (fun b o _ _ hc e _ => ⟨o.slots, k b o (fun z => hc (by simp [z])) e⟩) (fun _ _ _ _ n => n)
    (fun b o hc e => ⟨o, k b o (fun z => hc (by simp [z])) e⟩) (fun _ _ e => e) (fun _ _ _ e => e) (fun b ps e => ⟨#[], by rw [e]; simp⟩) (fun m hm => ?_) (fun b u e => ?_) I.bare
  · have e : b = it := by simpa using hb
    subst e
    exact ⟨h1, hL, h2, h3⟩
  · obtain ⟨o, es, ep, ho, r⟩ := hm
    exact ⟨o, es, ep, k _ o (Ne.symm hL) ho, r⟩
  · refine (I.hok b u e).stay (fun c v hc q => k c v ?_ q) (fun _ q => q) fun _ _ q => q
    rcases hc with z | z
    · rw [z]; exact nit b u e
    · exact nit c _ z
theorem Inv.tok (I : Inv X pins σ H s) (t : Nat) : Inv X pins σ H { s with toks := t } := I.un (h' := s.heap) (t' := t) Un.refl I.hok
theorem Inv.kept {t' : Nat} (I : Inv X pins σ H s) (k : ∀ b u, s.heap.get? b = some u → h'.get? b = some u) : Inv X pins σ H { s with heap := h', toks := t' } := I.un (Un.kept k) (I.hok.kept k)
theorem Inv.laid {a : Addr} {o : HO} {t' : Nat} (I : Inv X pins σ H s) (k : ∀ b u, s.heap.get? b = some u → h'.get? b = some u) (hp : s.heap.objs.size ≤ a) (new : ObjOk X.prog X.w (upd H a o) h' a o) :
    Inv X pins σ (upd H a o) { s with heap := h', toks := t' } := I.un (Un.laid k hp (I.hok.fresh hp)) (I.hok.laid k hp new)
theorem Inv.write {x e : Addr} {o : HO} {t' : Nat} (I : Inv X pins σ H s) (mu : Mut (H x)) (he : e = x ∨ H e = some (.own x)) (k : ∀ b u, b ≠ e → s.heap.get? b = some u → h'.get? b = some u) (heo : ∃ u, h'.get? e = some u)
    (new : ObjOk X.prog X.w (upd H x o) h' x o) : Inv X pins σ (upd H x o) { s with heap := h', toks := t' } := I.un (Un.write mu he k heo) (I.hok.write mu he k heo new)
theorem Inv.weak {σ' : List (Option V)} (I : Inv X pins σ H s) (hl : σ'.length = σ.length) (w : ∀ (i : Nat) v, σ'[i]? = some (some v) → σ[i]? = some (some v)) : Inv X pins σ' H s :=
  ⟨I.ok, I.os, I.bare, I.base, let ⟨m, hn, hl'⟩ := I.loc; ⟨m, hn, fun i x v e1 e2 e3 => hl' i x v e1 (w i v e2) e3⟩, I.cell, I.free, I.freeC, I.pin, I.hok, hl.trans I.len⟩
theorem Inv.pins_of {pins' : List (Addr × Obj)} (I : Inv X pins σ H s) (h : ∀ p ∈ pins', s.heap.get? p.1 = some p.2 ∧ H p.1 = none ∧ p.1 ≠ X.env.locals ∧ p.1 ∉ X.fs ∧ ∀ v, p.2.data ≠ .cell v) : Inv X pins' σ H s :=
  ⟨I.ok, I.os, I.bare, I.base, I.loc, I.cell, I.free, I.freeC, fun p hp => (List.mem_append.mp hp).elim (fun z => I.pin p (List.mem_append_left _ z)) (h p), I.hok, I.len⟩
theorem nodup_ix {N : List Str} (hN : N.Nodup) {i j : Nat} {x : Str} (a : N[i]? = some x) (b : N[j]? = some x) : i = j := by
  obtain ⟨h1, e1⟩ := List.getElem?_eq_some_iff.mp a
  obtain ⟨h2, e2⟩ := List.getElem?_eq_some_iff.mp b
  exact (List.getElem_inj hN).mp (e1.trans e2.symm)
theorem store_ok2 {M : Model} {A : Around} {E : Value → Shared → Prop} {i : Nat} {x : Str} {v : V} {u : Value} {Q : Unit → Shared → Prop} (I : Inv X pins σ H s) (hN : X.N.Nodup) (hi : X.N[i]? = some x) (hx : Loc X.env.scope x) (r : RelV v u)
    (h : ∀ s', Inv X pins (σ.set i (some v)) H s' → (∃ a, Heap.SameBut a s.heap s'.heap ∧ (a = X.env.locals ∨ X.env.cells.lookup x = some a)) → Q () s') (hf : X.fn x = true ∨ X.env.scope.names.lookup x = some .local := by first | exact .inl rfl | exact .inr rfl | assumption) : wpAny M A (storeName X.env x u) Q E s := by
  obtain ⟨m, hn, hl⟩ := id I.loc
  have hcls : (X.env.scope.kind == .class || (X.env.scope.kind == .module && X.env.locals != X.env.globals)) = false := by rw [I.ok.kind]; rfl
  have hiσ : i < σ.length := by rw [I.len]; exact (List.getElem?_eq_some_iff.mp hi).1
  have cne := I.cne
  have tracked : ∀ {a : Addr} {h' : Heap}, (∃ o, s.heap.get? a = some o ∧ H a = none) → Heap.SameBut a s.heap h' → HOk X.prog X.w H h' := fun {a h'} ha hs b ob e => by
    obtain ⟨_, _, hfree⟩ := ha
    refine (I.hok b ob e).stay (fun c w' hc q => (hs.2 c ?_).trans q) (fun _ q => q) fun _ _ q => q
    rintro rfl
    rcases hc with rfl | hc
    · rw [hfree] at e; cases e
    · rw [hfree] at hc; cases hc
  rcases hx with hk | hk
  · refine wpAny_storeName_local hk hn (fun h' hn' hs => ?_) hcls
    obtain ⟨oL, _, _, hoL, _⟩ := id hn
    refine h _ ⟨I.ok, I.os, I.bare, ⟨fun b o e n hb hx => ?_, fun b o e n hb hx => ?_, I.base.free, fun b o e hx => ?_, I.base.tups, I.base.frzs, I.base.tbls⟩, ⟨_, hn', fun j y v' e1 e2 e3 => ?_⟩, fun y c e => ?_, I.free, I.freeC, fun p hp => ?_, tracked ⟨oL, hoL, I.free⟩ hs, by simpa using I.len⟩ ⟨_, hs, .inl rfl⟩
    · exact (hs.2 b (Nat.ne_of_lt (Nat.lt_of_lt_of_le (Heap.lt_size e) I.ok.above))).trans (I.base.keep b o e n hb hx)
    · obtain ⟨sl, e1⟩ := I.base.slot b o e n hb hx
      exact ⟨sl, (hs.2 b (Nat.ne_of_lt (Nat.lt_of_lt_of_le (Heap.lt_size e) I.ok.above))).trans e1⟩
    · obtain ⟨o', e1⟩ := I.base.there b o e hx
      exact ⟨o', (hs.2 b (Nat.ne_of_lt (Nat.lt_of_lt_of_le (Heap.lt_size e) I.ok.above))).trans e1⟩
    · by_cases hj : j = i
      · subst hj
        rw [hi] at e1; cases e1
        rw [List.getElem?_set_self hiσ] at e2
        cases e2
        exact ⟨u, r, .inl ⟨hk, by simp⟩⟩
      · rw [List.getElem?_set_ne (Ne.symm hj)] at e2
        obtain ⟨u', r', q⟩ := hl j y v' e1 e2 e3
        refine ⟨u', r', ?_⟩
        rcases q with ⟨k, e⟩ | ⟨k, c, e, z⟩
        · refine .inl ⟨k, ?_⟩
          have : y ≠ x := fun e => hj (nodup_ix hN e1 (e ▸ hi))
          simp [this, e]
        · exact .inr ⟨k, c, e, z.sameBut hs (cne y c e)⟩
    · obtain ⟨w', z⟩ := I.cell y c e
      exact ⟨w', z.sameBut hs (cne y c e)⟩
    · obtain ⟨e, n, ne, nf, d⟩ := I.pin p hp
      exact ⟨(hs.2 p.1 ne).trans e, n, ne, nf, d⟩
  · have hfn : X.fn x = true := by
      rcases hf with z | z
      · exact z
      · rw [z] at hk; cases hk
    obtain ⟨c, hc⟩ := I.ok.has x (.inl hk)
    obtain ⟨w', z⟩ := I.cell x c hc
    refine wpAny_storeName_cell I.ok.kind hk hc z (fun h' hc' hs => ?_)
    obtain ⟨oc, hoc, hocd⟩ := id z
    refine h { s with heap := h' } ⟨I.ok, I.os, I.bare, ⟨fun b o e n hb hx => ?_, fun b o e n hb hx => ?_, I.base.free, fun b o e hx => ?_, I.base.tups, I.base.frzs, I.base.tbls⟩, ⟨m, hn.sameBut hs (Ne.symm (cne x c hc)), fun j y v' e1 e2 e3 => ?_⟩, fun y c' e => ?_, I.free, I.freeC, fun p hp => ?_, tracked ⟨oc, hoc, I.freeC x c hc⟩ hs, by simpa using I.len⟩ ⟨c, hs, .inr hc⟩
    · exact (hs.2 b (Nat.ne_of_lt (Nat.lt_of_lt_of_le (Heap.lt_size e) (I.ok.cab x c hfn hc)))).trans (I.base.keep b o e n hb hx)
    · obtain ⟨sl, e1⟩ := I.base.slot b o e n hb hx
      exact ⟨sl, (hs.2 b (Nat.ne_of_lt (Nat.lt_of_lt_of_le (Heap.lt_size e) (I.ok.cab x c hfn hc)))).trans e1⟩
    · obtain ⟨o', e1⟩ := I.base.there b o e hx
      exact ⟨o', (hs.2 b (Nat.ne_of_lt (Nat.lt_of_lt_of_le (Heap.lt_size e) (I.ok.cab x c hfn hc)))).trans e1⟩
    · by_cases hj : j = i
      · subst hj
        rw [hi] at e1; cases e1
        rw [List.getElem?_set_self hiσ] at e2
        cases e2
        exact ⟨u, r, .inr ⟨.inl hk, c, hc, hc'⟩⟩
      · rw [List.getElem?_set_ne (Ne.symm hj)] at e2
        obtain ⟨u', r', q⟩ := hl j y v' e1 e2 e3
        refine ⟨u', r', ?_⟩
        rcases q with q | ⟨k, c', e, z'⟩
        · exact .inl q
        · refine .inr ⟨k, c', e, z'.sameBut hs ?_⟩
          rintro rfl
          exact hj (nodup_ix hN e1 (I.ok.inj _ _ _ e hc ▸ hi))
    · by_cases hcc : c' = c
      · subst hcc; exact ⟨_, hc'⟩
      · obtain ⟨w2, z2⟩ := I.cell y c' e
        exact ⟨w2, z2.sameBut hs hcc⟩
    · obtain ⟨e, n, ne, nf, d⟩ := I.pin p hp
      refine ⟨(hs.2 p.1 ?_).trans e, n, ne, nf, d⟩
      intro q
      rw [q, hoc] at e
      have q' : oc = p.2 := Option.some.inj e
      exact d w' (by rw [← q']; exact hocd)
theorem store_ok {M : Model} {A : Around} {E : Value → Shared → Prop} {i : Nat} {x : Str} {v : V} {u : Value} {Q : Unit → Shared → Prop} (I : Inv X pins σ H s) (hN : X.N.Nodup) (hi : X.N[i]? = some x) (hx : Loc X.env.scope x) (r : RelV v u)
    (h : ∀ s', Inv X pins (σ.set i (some v)) H s' → Q () s') (hf : X.fn x = true ∨ X.env.scope.names.lookup x = some .local := by first | exact .inl rfl | exact .inr rfl | assumption) : wpAny M A (storeName X.env x u) Q E s :=
  store_ok2 I hN hi hx r (fun s' I' _ => h s' I') hf
theorem Inv.call' {s' : Shared} {ch : List Addr} (I : Inv X pins σ H s) (ho : s'.os = s.os) (u : Un (frs X.stack) ch H H' s.heap s'.heap) (hok : HOk X.prog X.w H' s'.heap) (hg : AllBare s'.gens)
    (hch : ∀ b ∈ ch, (b ∈ X.ex ∨ X.s_0.heap.objs.size ≤ b) ∧ b ≠ X.env.locals ∧ (∀ x c, X.env.cells.lookup x = some c → c ≠ b) ∧ ∀ p ∈ X.pn ++ pins, p.1 ≠ b) : Inv X pins σ H' s' := by
  obtain ⟨h', g', d', t', o'⟩ := s'
  have e : o' = s.os := ho
  subst e
  exact I.call (g' := g') (t' := t') (d' := d') u hok hg hch
end
abbrev XK := Value → Option Addr → Hp → Prop
abbrev St := List (Option V)
abbrev VK := V → Hp → Prop
abbrev TE := St → Hp → VK → Prop
abbrev TT := St → Hp → (Bool → Hp → Prop) → Prop
abbrev TA := St → Hp → (List V → Hp → Prop) → Prop
structure Ends where
  nx : St → Hp → Prop
  rt : VK
  bk : St → Hp → Prop := fun _ _ => False
  ct : St → Hp → Prop := fun _ _ => False
abbrev TS := Ends → St → Hp → Prop
def EP (X : Cx) (pins : List (Addr × Obj)) (σ : St) (Q : VK) (u : Value) (s' : Shared) : Prop := ∃ v H', Inv X pins σ H' s' ∧ RelV v u ∧ Q v H'
def TP (X : Cx) (pins : List (Addr × Obj)) (σ : St) (Q : Bool → Hp → Prop) (b : Bool) (s' : Shared) : Prop := ∃ H', Inv X pins σ H' s' ∧ Q b H'
def AP (X : Cx) (pins : List (Addr × Obj)) (σ : St) (Q : List V → Hp → Prop) (us : List Value) (s' : Shared) : Prop := ∃ vs H', Inv X pins σ H' s' ∧ Vals vs us ∧ Q vs H'
def SP (X : Cx) (pins : List (Addr × Obj)) (D : Ends) (f : Flow) (s' : Shared) : Prop :=
  match f with
  | .next => ∃ σ' H', Inv X pins σ' H' s' ∧ D.nx σ' H'
  | .brk => ∃ σ' H', Inv X pins σ' H' s' ∧ D.bk σ' H'
  | .cont => ∃ σ' H', Inv X pins σ' H' s' ∧ D.ct σ' H'
  | .ret u => ∃ v σ' H', Inv X pins σ' H' s' ∧ RelV v u ∧ D.rt v H'
def PE (X : Cx) (e : Expr) (t : TE) : Prop :=
  ∀ (pins : List (Addr × Obj)) (s : Shared) (σ : St) (H : Hp) (Q : VK), Inv X pins σ H s → t σ H Q → wpAny (model X.prog X.w) X.A (eval e X.env) (EP X pins σ Q) X.xe s
def PT (X : Cx) (e : Expr) (t : TT) : Prop :=
  ∀ (pins : List (Addr × Obj)) (s : Shared) (σ : St) (H : Hp) (Q : Bool → Hp → Prop), Inv X pins σ H s → t σ H Q → wpAny (model X.prog X.w) X.A (isTrue e X.env (eval e X.env)) (TP X pins σ Q) X.xe s
def PW (X : Cx) (e : Expr) (t : TT) : Prop :=
  ∀ (whole : Sem Value) (pins : List (Addr × Obj)) (s : Shared) (σ : St) (H : Hp) (Q : Bool → Hp → Prop), Inv X pins σ H s → t σ H Q → wpAny (model X.prog X.w) X.A (isTrue e X.env whole) (TP X pins σ Q) X.xe s
theorem PW.pt {X : Cx} {e : Expr} {t : TT} (h : PW X e t) : PT X e t := h _
def PA (X : Cx) (es : List Expr) (t : TA) : Prop :=
  ∀ (pos : Pos) (pins : List (Addr × Obj)) (s : Shared) (σ : St) (H : Hp) (Q : List V → Hp → Prop), Inv X pins σ H s → t σ H Q → wpAny (model X.prog X.w) X.A (spliced (backTo pos (starEach es X.env))) (AP X pins σ Q) X.xe s
def PS (X : Cx) (st : Stmt) (t : TS) : Prop :=
  ∀ (pins : List (Addr × Obj)) (s : Shared) (σ : St) (H : Hp) (D : Ends), Inv X pins σ H s → t D σ H → wpAny (model X.prog X.w) X.A (exec st X.env) (SP X pins D) X.xe s
def PSs (X : Cx) (st : List Stmt) (t : TS) : Prop :=
  ∀ (pins : List (Addr × Obj)) (s : Shared) (σ : St) (H : Hp) (D : Ends), Inv X pins σ H s → t D σ H → wpAny (model X.prog X.w) X.A (execs st X.env) (SP X pins D) X.xe s
theorem thn {α : Type} {t : Sem α} {Q Q' : α → Shared → Prop} {M : Model} {A : Around} {E : Value → Shared → Prop} {s : Shared} (h : wpAny M A t Q E s) (hQ : ∀ a s, Q a s → Q' a s) : wpAny M A t Q' E s := wpAny_mono h hQ fun _ _ x => x
end L2
namespace L2
open PySem PySem.Spec PyProof.Rows
section
variable {X : Cx}
def tVar (i : Nat) : TE := fun σ H Q => ∃ v, σ[i]? = some (some v) ∧ Q v H
def tC (v : V) : TE := fun _ H Q => Q v H
theorem pe_var {i : Nat} {x : Str} {pos : Pos} (hN : X.N[i]? = some x) (hv : Vis X.env.scope x) (hd : (x == ("__debug__" : Str)) = false := by decide) (hcd : (x == ("__classdict__" : Str)) = false := by decide) : PE X (.Name x pos) (tVar i) := by
  intro pins s σ H Q I h
  obtain ⟨v, e, h⟩ := h
  obtain ⟨m, hn, hl⟩ := I.loc
  obtain ⟨u, r, l⟩ := hl i x v hN e hv
  have fin : EP X pins σ Q u s := ⟨v, H, I, r, h⟩
  rcases l with ⟨hk, hm⟩ | ⟨hk, c, hc, hcell⟩
  · exact wpAny_Name (wpAny_loadName_local I.ok.kind hk hn hm fin) hd
  · rcases hk with hk | hk
    · exact wpAny_Name (wpAny_loadName_cell I.ok.kind hk hc hcell fin) hd
    · exact wpAny_Name (wpAny_loadName_free I.ok.kind hk hc hcell fin hcd) hd
theorem pe_int {i j pos} : PE X (.Constant (.int i) j pos) (tC (.int i)) := fun _ _ _ H _ I h => wpAny_Constant_int ⟨.int i, H, I.tok _, ⟨_, rfl⟩, h⟩
theorem pe_bl {b j pos} : PE X (.Constant (.bool b) j pos) (tC (.bl b)) := fun _ _ _ H _ I h => Constant_bool ⟨.bl b, H, I, rfl, h⟩
theorem pe_non {j pos} : PE X (.Constant .none j pos) (tC .non) := fun _ _ _ H _ I h => Constant_none ⟨.non, H, I, rfl, h⟩
theorem pe_str {x j pos} : PE X (.Constant (.str x) j pos) (tC (.str x)) := fun _ _ _ H _ I h => Calls.Constant_str ⟨.str x, H, I.tok _, ⟨_, rfl⟩, h⟩
def Gl (X : Cx) (x : Str) : Prop := X.env.kindOf x = some .globalImplicit
theorem ld_glob {E : Value → Shared → Prop} {pins : List (Addr × Obj)} {s : Shared} {σ : St} {H : Hp} {x : Str} {u : Value} {pos : Pos} {Q : Value → Shared → Prop} (I : Inv X pins σ H s) (hg : Gl X x) (hm : X.mg x = some u) (h : Q u s)
    (hd : (x == ("__debug__" : Str)) = false := by decide) : wpAny (model X.prog X.w) X.A (eval (.Name x pos) X.env) Q E s :=
  Calls.Name_function_global I.ok.kind hg (Calls.loadGlobal_global (by rw [I.ok.glob]; exact I.mod.glob.keeps I.bk) hm h) hd
theorem ld_blt {E : Value → Shared → Prop} {pins : List (Addr × Obj)} {s : Shared} {σ : St} {H : Hp} {x : Str} {u : Value} {pos : Pos} {Q : Value → Shared → Prop} (I : Inv X pins σ H s) (hg : Gl X x) (hm : X.mg x = none) (hv : bootBuiltins x = some u) (h : Q u s)
    (hn : x ≠ "__name__" := by decide) (hd : (x == ("__debug__" : Str)) = false := by decide) : wpAny (model X.prog X.w) X.A (eval (.Name x pos) X.env) Q E s := by
  obtain ⟨mb, h1, h2⟩ := I.mod.blt
  exact Calls.Name_function_global I.ok.kind hg (Calls.loadGlobal_builtin (by rw [I.ok.glob]; exact I.mod.glob.keeps I.bk) hm (by rw [I.ok.blt]; exact h1.keeps I.bk) ((h2 x hn).trans hv) h) hd
theorem pe_glob {x : Str} {v : V} {u : Value} {pos : Pos} (hg : Gl X x) (hm : X.mg x = some u) (r : RelV v u) (hd : (x == ("__debug__" : Str)) = false := by decide) : PE X (.Name x pos) (tC v) :=
  fun _ _ _ H _ I h => ld_glob I hg hm ⟨v, H, I, r, h⟩ hd
theorem pe_bltn {x : Str} {v : V} {u : Value} {pos : Pos} (hg : Gl X x) (hm : X.mg x = none) (hv : bootBuiltins x = some u) (r : RelV v u) (hn : x ≠ "__name__" := by decide) (hd : (x == ("__debug__" : Str)) = false := by decide) : PE X (.Name x pos) (tC v) :=
  fun _ _ _ H _ I h => ld_blt I hg hm hv ⟨v, H, I, r, h⟩ hn hd
variable {a b : Expr} {ta tb : TE} {pos : Pos}
def tB (t : TE) : TT := fun σ H Q => t σ H fun x H1 => ∃ c, x = .bl c ∧ Q c H1
theorem pt_val {e : Expr} {t : TE} (h : PE X e t) (he : ∀ whole, isTrue e X.env whole = (do let v ← whole; standAt e.pos; holding [v] (truthy v)) := by intro _; rfl) : PT X e (tB t) := by
  intro pins s σ H Q I hw
  refine isTrue_plain (thn (h pins s σ H _ I hw) fun v s1 ⟨x, H1, I1, r1, q1⟩ => ?_) (he _)
  obtain ⟨d, rfl, q⟩ := q1
  cases r1
  exact wpAny_truthy_bool ⟨H1, I1, q⟩
variable {tA tB' : TT} {rest : List Expr}
def tAnd (t u : TT) : TT := fun σ H Q => t σ H fun c H1 => if c = true then u σ H1 Q else Q false H1
def tOr (t u : TT) : TT := fun σ H Q => t σ H fun c H1 => if c = true then Q true H1 else u σ H1 Q
def tNot (t : TT) : TT := fun σ H Q => t σ H fun c H1 => Q (!c) H1
theorem pw_and1 (ha : PT X a tA) : PW X (.BoolOp .And [a] pos) tA := by
  intro wh pins s σ H Q I h
  refine isTrue_and (thn (ha pins s σ H Q I h) fun c s1 e => ?_)
  cases c with
  | true => exact isTrue_and_nil e
  | false => exact e
theorem pw_or1 (ha : PT X a tA) : PW X (.BoolOp .Or [a] pos) tA := by
  intro wh pins s σ H Q I h
  refine isTrue_or (thn (ha pins s σ H Q I h) fun c s1 e => ?_)
  cases c with
  | false => exact isTrue_or_nil e
  | true => exact e
theorem pw_and (ha : PT X a tA) (hb : PW X (.BoolOp .And (b :: rest) pos) tB') : PW X (.BoolOp .And (a :: b :: rest) pos) (tAnd tA tB') := by
  intro wh pins s σ H Q I h
  refine isTrue_and (thn (ha pins s σ H _ I h) fun c s1 ⟨H1, I1, q1⟩ => ?_)
  cases c with
  | true => exact hb wh pins s1 σ H1 Q I1 q1
  | false => exact ⟨H1, I1, q1⟩
theorem pw_or (ha : PT X a tA) (hb : PW X (.BoolOp .Or (b :: rest) pos) tB') : PW X (.BoolOp .Or (a :: b :: rest) pos) (tOr tA tB') := by
  intro wh pins s σ H Q I h
  refine isTrue_or (thn (ha pins s σ H _ I h) fun c s1 ⟨H1, I1, q1⟩ => ?_)
  cases c with
  | true => exact ⟨H1, I1, q1⟩
  | false => exact hb wh pins s1 σ H1 Q I1 q1
theorem pt_not (ha : PT X a tA) : PT X (.UnaryOp .Not a pos) (tNot tA) := by
  intro pins s σ H Q I h
  exact isTrue_not (ha pins s σ H (fun c H1 => Q (!c) H1) I h)
def tAndV (ta tb : TE) : TE := fun σ H Q => ta σ H fun x H1 => ∃ c, x = .bl c ∧ if c = true then tb σ H1 Q else Q (.bl false) H1
def tOrV (ta tb : TE) : TE := fun σ H Q => ta σ H fun x H1 => ∃ c, x = .bl c ∧ if c = true then Q (.bl true) H1 else tb σ H1 Q
theorem pe_one {op} {t : TE} (h : PE X a t) : PE X (.BoolOp op [a] pos) t := fun pins s σ H Q I hw => BoolOp_one (h pins s σ H Q I hw)
theorem pe_and (ha : PE X a ta) (hb : PE X (.BoolOp .And (b :: rest) pos) tb) : PE X (.BoolOp .And (a :: b :: rest) pos) (tAndV ta tb) := by
  intro pins s σ H Q I h
  refine BoolOp_and (thn (ha pins s σ H _ I h) fun v s1 ⟨x, H1, I1, r1, q1⟩ => ?_)
  obtain ⟨c, rfl, q1⟩ := q1
  cases r1
  refine wpAny_truthy_bool ?_
  cases c with
  | true => exact hb pins s1 σ H1 Q I1 q1
  | false => exact ⟨.bl false, H1, I1, rfl, q1⟩
theorem pe_or (ha : PE X a ta) (hb : PE X (.BoolOp .Or (b :: rest) pos) tb) : PE X (.BoolOp .Or (a :: b :: rest) pos) (tOrV ta tb) := by
  intro pins s σ H Q I h
  refine BoolOp_or (thn (ha pins s σ H _ I h) fun v s1 ⟨x, H1, I1, r1, q1⟩ => ?_)
  obtain ⟨c, rfl, q1⟩ := q1
  cases r1
  refine wpAny_truthy_bool ?_
  cases c with
  | false => exact hb pins s1 σ H1 Q I1 q1
  | true => exact ⟨.bl true, H1, I1, rfl, q1⟩
def tIf (t : TT) (ta tb : TE) : TE := fun σ H Q => t σ H fun c H1 => if c = true then ta σ H1 Q else tb σ H1 Q
theorem pe_ifExp {c : Expr} (hc : PT X c tA) (ha : PE X a ta) (hb : PE X b tb) : PE X (.IfExp c a b pos) (tIf tA ta tb) := by
  intro pins s σ H Q I h
  refine wpAny_IfExp (thn (hc pins s σ H _ I h) fun d s1 ⟨H1, I1, q1⟩ => ?_)
  cases d with
  | true => exact ha pins s1 σ H1 Q I1 q1
  | false => exact hb pins s1 σ H1 Q I1 q1
end
end L2
namespace L2
open PySem PySem.Spec PyProof.Rows
def SqL (K : PySem.W.Frag) (H : Hp) (a : Addr) (xs : List V) : Prop :=
  Rd H a (.lst xs) ∨
    ∃ (o : Obj) (its : Array Value) (n : Nat), K.lookup a = some o ∧ o.cls = .type "list" ∧ o.dict = none ∧ o.data = .seq its n ∧ its.size ≤ sizeLine ∧ Vals xs its.toList
def SqT (K : PySem.W.Frag) (H : Hp) (a : Addr) (xs : List V) : Prop :=
  Rd H a (.tup xs) ∨
    ∃ (o : Obj) (its : Array Value) (n : Nat), K.lookup a = some o ∧ o.cls = .type "tuple" ∧ o.data = .seq its n ∧ o.dict = none ∧ its.size ≤ sizeLine ∧ Vals xs its.toList
def absV : Value → Option V
  | .none => some .non
  | .bool b => some (.bl b)
  | .int i _ => some (.int i)
  | .str x _ => some (.str x)
  | .bytes b _ => some (.byt b)
  | .float b _ => some (.flt b)
  | .ref a => some (.ref a)
  | .type n => some (.ty n)
  | _ => none
theorem RelV.abs {x : V} {u : Value} (r : RelV x u) : absV u = some x := by
  cases x with
  | non => cases r; rfl
  | bl _ => cases r; rfl
  | int _ => obtain ⟨t, rfl⟩ := r; rfl
  | str _ => obtain ⟨t, rfl⟩ := r; rfl
  | byt _ => obtain ⟨t, rfl⟩ := r; rfl
  | flt _ => obtain ⟨t, rfl⟩ := r; rfl
  | ref _ => cases r; rfl
  | ty _ => cases r; rfl
theorem RelV.inj {x y : V} {u : Value} (r : RelV x u) (q : RelV y u) : x = y := Option.some.inj (r.abs.symm.trans q.abs)
theorem Vals.inj : ∀ {xs ys : List V} {us : List Value}, Vals xs us → Vals ys us → xs = ys
  | _, _, _, .nil, .nil => rfl
  | _, _, _, .cons r t, .cons r' t' => by rw [r.inj r', Vals.inj t t']
section
variable {X : Cx} {pins : List (Addr × Obj)} {σ : St} {H : Hp} {s : Shared} {a : Addr} {xs ys : List V}
theorem SqL.of {K : PySem.W.Frag} (h : H a = some (.lst xs)) : SqL K H a xs := .inl (.inl h)
theorem SqT.of {K : PySem.W.Frag} (h : H a = some (.tup xs)) : SqT K H a xs := .inl (.inl h)
theorem Inv.list (I : Inv X pins σ H s) (h : SqL X.K H a xs) : ∃ its : List Value, Vals xs its ∧ PlainL s.heap a its.toArray ∧ xs.length ≤ sizeLine := by
  rcases h with h | ⟨o, its, n, hk, hc, hd, hs, hz, r⟩
  · obtain ⟨z, its, n, r, e⟩ := h.ok I.hok
    exact ⟨its, r, ⟨_, n, e, rfl, rfl, rfl⟩, z⟩
  · refine ⟨its.toList, r, ⟨o, n, I.kIn a o hk, hc, hd, by simpa using hs⟩, ?_⟩
    have e := r.length
    simp only [Array.length_toList] at e
    omega
theorem Inv.tuple (I : Inv X pins σ H s) (h : SqT X.K H a xs) : ∃ its : List Value, Vals xs its ∧ IsTup s.heap a its.toArray ∧ xs.length ≤ sizeLine := by
  rcases h with h | ⟨o, its, n, hk, hc, hs, _, hz, r⟩
  · obtain ⟨z, its, r, p⟩ := h.ok I.hok
    exact ⟨its, r, p.tup, z⟩
  · refine ⟨its.toList, r, ⟨o, I.kIn a o hk, hc, n, by simpa using hs⟩, ?_⟩
    have e := r.length
    simp only [Array.length_toList] at e
    omega
theorem Inv.list_inj (I : Inv X pins σ H s) (h : SqL X.K H a xs) (h' : SqL X.K H a ys) : xs = ys := by
  obtain ⟨its, r, ⟨o, n, e, _, _, d⟩, _⟩ := I.list h
  obtain ⟨its', r', ⟨o', n', e', _, _, d'⟩, _⟩ := I.list h'
  rw [e] at e'; cases e'
  rw [d] at d'
  injection d' with d1 _
  have : its = its' := by simpa using congrArg Array.toList d1
  subst this
  exact r.inj r'
theorem Inv.tuple_inj (I : Inv X pins σ H s) (h : SqT X.K H a xs) (h' : SqT X.K H a ys) : xs = ys := by
  obtain ⟨its, r, ⟨o, e, _, n, d⟩, _⟩ := I.tuple h
  obtain ⟨its', r', ⟨o', e', _, n', d'⟩, _⟩ := I.tuple h'
  rw [e] at e'; cases e'
  rw [d] at d'
  injection d' with d1 _
  have : its = its' := by simpa using congrArg Array.toList d1
  subst this
  exact r.inj r'
end
abbrev Cx.wish (X : Cx) (E : Value → Shared → Prop) : Cx := { X with xe := E }
abbrev Cx.nox (X : Cx) : Cx := X.wish fun _ _ => False
theorem Cx.Ok.wish {X : Cx} (ok : X.Ok) (E : Value → Shared → Prop) : (X.wish E).Ok :=
  ⟨ok.mod, ok.kind, ok.glob, ok.blt, ok.above, ok.inj, ok.has, ok.cab, ok.hd, ok.frames, ok.stk, ok.exf, ok.bs, ok.bsz, ok.noex, ok.exfs, ok.funs, ok.frf⟩
theorem Cx.Ok.unwish {X : Cx} {E : Value → Shared → Prop} (ok : (X.wish E).Ok) : X.Ok :=
  ⟨ok.mod, ok.kind, ok.glob, ok.blt, ok.above, ok.inj, ok.has, ok.cab, ok.hd, ok.frames, ok.stk, ok.exf, ok.bs, ok.bsz, ok.noex, ok.exfs, ok.funs, ok.frf⟩
section
variable {X : Cx} {pins : List (Addr × Obj)} {σ : St} {H : Hp} {s : Shared} {E : Value → Shared → Prop}
theorem Inv.wish (I : Inv X pins σ H s) (E : Value → Shared → Prop) : Inv (X.wish E) pins σ H s := ⟨I.ok.wish E, I.os, I.bare, I.base, I.loc, I.cell, I.free, I.freeC, I.pin, I.hok, I.len⟩
theorem Inv.unwish (I : Inv (X.wish E) pins σ H s) : Inv X pins σ H s := ⟨I.ok.unwish, I.os, I.bare, I.base, I.loc, I.cell, I.free, I.freeC, I.pin, I.hok, I.len⟩
theorem SP.unwish {D : Ends} {f : Flow} {s' : Shared} (h : SP (X.wish E) pins D f s') : SP X pins D f s' := by
  cases f with
  | next => obtain ⟨σ', H', I, q⟩ := h; exact ⟨σ', H', I.unwish, q⟩
  | brk => obtain ⟨σ', H', I, q⟩ := h; exact ⟨σ', H', I.unwish, q⟩
  | cont => obtain ⟨σ', H', I, q⟩ := h; exact ⟨σ', H', I.unwish, q⟩
  | ret u => obtain ⟨v, σ', H', I, r, q⟩ := h; exact ⟨v, σ', H', I.unwish, r, q⟩
theorem PE.nox {e : Expr} {t : TE} (h : PE X.nox e t) : PE X e t := fun pins s σ H Q I hw =>
  wpAny_mono (h pins s σ H Q (I.wish _) hw) (fun _ _ ⟨v, H', I', r, q⟩ => ⟨v, H', I'.unwish, r, q⟩) fun _ _ z => False.elim z
theorem PT.nox {e : Expr} {t : TT} (h : PT X.nox e t) : PT X e t := fun pins s σ H Q I hw =>
  wpAny_mono (h pins s σ H Q (I.wish _) hw) (fun _ _ ⟨H', I', q⟩ => ⟨H', I'.unwish, q⟩) fun _ _ z => False.elim z
theorem PSs.nox {st : List Stmt} {t : TS} (h : PSs X.nox st t) : PSs X st t := fun pins s σ H D I hw =>
  wpAny_mono (h pins s σ H D (I.wish _) hw) (fun _ _ q => q.unwish) fun _ _ z => False.elim z
end
section
variable {X : Cx} {st : Stmt} {rest : List Stmt} {t u : TS} {e : Expr} {te : TE} {pos : Pos}
def tNext : TS := fun D σ H => D.nx σ H
def tSeq (t u : TS) : TS := fun D σ H => t { D with nx := u D } σ H
theorem pss_nil : PSs X [] tNext := fun _ _ σ H _ I h => wpAny_execs_nil ⟨σ, H, I, h⟩
theorem pss_cons (h1 : PS X st t) (h2 : PSs X rest u) : PSs X (st :: rest) (tSeq t u) := by
  intro pins s σ H D I h
  refine wpAny_execs_cons (thn (h1 pins s σ H { D with nx := u D } I h) fun f s1 q => ?_)
  cases f with
  | next =>
    obtain ⟨σ', H', I', q⟩ := q
    exact h2 pins s1 σ' H' D I' q
  | ret v => exact q
  | brk => exact q
  | cont => exact q
theorem pss_one (h1 : PS X st t) : PSs X [st] t := by
  intro pins s σ H D I h
  refine wpAny_execs_cons (thn (h1 pins s σ H D I h) fun f s1 q => ?_)
  cases f with
  | next => exact wpAny_execs_nil q
  | ret v => exact q
  | brk => exact q
  | cont => exact q
theorem Inv.quiet {pins : List (Addr × Obj)} {σ : St} {H : Hp} {s : Shared} (I : Inv X pins σ H s) : interactive X.env = false := by simp [interactive, I.ok.kind]
def tDrop (te : TE) : TS := fun D σ H => te σ H fun _ H1 => D.nx σ H1
theorem ps_expr (he : PE X e te) (hs : swapsWith e none pos.line X.env = pure false := by rfl) : PS X (.Expr e pos) (tDrop te) := by
  intro pins s σ H D I h
  exact wpAny_Expr_any (thn (he pins s σ H _ I h) fun v s1 ⟨x, H1, I1, r1, q1⟩ => ⟨σ, H1, I1, q1⟩) I.quiet hs
def tRet (te : TE) : TS := fun D σ H => te σ H D.rt
theorem ps_ret (he : PE X e te) : PS X (.Return (some e) pos) (tRet te) := by
  intro pins s σ H D I h
  exact wpAny_Return_some (thn (he pins s σ H _ I h) fun v s1 ⟨x, H1, I1, r1, q1⟩ => ⟨x, σ, H1, I1, r1, q1⟩)
def tIfS (c : TT) (t u : TS) : TS := fun D σ H => c σ H fun b H1 => if b = true then t D σ H1 else u D σ H1
theorem ps_if {c : Expr} {a b : List Stmt} {tc : TT} (hc : PT X c tc) (ha : PSs X a t) (hb : PSs X b u) : PS X (.If c a b pos) (tIfS tc t u) := by
  intro pins s σ H D I h
  refine wpAny_If (thn (hc pins s σ H _ I h) fun d s1 ⟨H1, I1, q1⟩ => ?_)
  cases d with
  | true => exact ha pins s1 σ H1 D I1 q1
  | false => exact hb pins s1 σ H1 D I1 q1
def tNever : TS := fun _ _ _ => False
theorem ps_never : PS X st tNever := fun _ _ _ _ _ _ h => h.elim
end
abbrev TG := V → St → Hp → (St → Hp → Prop) → Prop
abbrev TGs := List V → St → Hp → (St → Hp → Prop) → Prop
def PG (X : Cx) (target : Expr) (t : TG) : Prop :=
  ∀ (pins : List (Addr × Obj)) (s : Shared) (σ : St) (H : Hp) (v : V) (u : Value) (Q : St → Hp → Prop), Inv X pins σ H s → RelV v u → t v σ H Q →
    wpAny (model X.prog X.w) X.A (assign target X.env u) (fun _ s' => ∃ σ' H', Inv X pins σ' H' s' ∧ Q σ' H') X.xe s
def PGs (X : Cx) (ts : List Expr) (t : TGs) : Prop :=
  ∀ (pins : List (Addr × Obj)) (s : Shared) (σ : St) (H : Hp) (vs : List V) (us : List Value) (Q : St → Hp → Prop), Inv X pins σ H s → Vals vs us → t vs σ H Q →
    wpAny (model X.prog X.w) X.A (assignInOrder ((assignEach ts X.env).map (·.2)) us) (fun _ s' => ∃ σ' H', Inv X pins σ' H' s' ∧ Q σ' H') X.xe s
abbrev TSet := V → V → V → Hp → (Hp → Prop) → Prop
def PSet (X : Cx) (t : TSet) : Prop :=
  ∀ (pins : List (Addr × Obj)) (s : Shared) (σ : St) (H : Hp) (o i v : V) (ov iv u : Value) (Q : Hp → Prop), Inv X pins σ H s → RelV o ov → RelV i iv → RelV v u → t o i v H Q →
    wpAny (model X.prog X.w) X.A (setItem ov iv u) (fun _ s' => ∃ H', Inv X pins σ H' s' ∧ Q H') X.xe s
section
variable {X : Cx} {pos : Pos}
def gName (i : Nat) : TG := fun v σ H Q => Q (σ.set i (some v)) H
theorem pg_name {i : Nat} {x : Str} (hN : X.N.Nodup) (hi : X.N[i]? = some x) (hx : Loc X.env.scope x) (hf : X.fn x = true ∨ X.env.scope.names.lookup x = some .local := by first | exact .inl rfl | exact .inr rfl | assumption) : PG X (.Name x pos) (gName i) := by
  intro pins s σ H v u Q I r h
  exact wpAny_assign_Name (store_ok I hN hi hx r (fun s' I' => ⟨_, H, I', h⟩) hf)
def gNil : TGs := fun vs σ H Q => vs = [] ∧ Q σ H
def gCons (t : TG) (u : TGs) : TGs := fun vs σ H Q => ∃ v r, vs = v :: r ∧ t v σ H fun σ' H' => u r σ' H' Q
theorem pgs_nil : PGs X [] gNil := by
  intro pins s σ H vs us Q I r h
  obtain ⟨e, h⟩ := h
  subst e
  cases r
  exact assignInOrder_nil ⟨σ, H, I, h⟩
theorem pgs_cons {e : Expr} {es : List Expr} {t : TG} {u : TGs} (h1 : PG X e t) (h2 : PGs X es u)
    (hs : (assignEach (e :: es) X.env).map (·.2) = assign e X.env :: (assignEach es X.env).map (·.2) := by rfl) : PGs X (e :: es) (gCons t u) := by
  intro pins s σ H vs us Q I r h
  obtain ⟨v, vr, e1, h⟩ := h
  subst e1
  cases r with
  | cons r rr =>
    rw [hs]
    refine assignInOrder_cons (thn (h1 pins s σ H _ _ _ I r h) fun _ s1 ⟨σ1, H1, I1, q1⟩ => ?_)
    exact h2 pins s1 σ1 H1 _ _ Q I1 rr q1
def gTup (K : PySem.W.Frag) (n : Nat) (t : TGs) : TG := fun v σ H Q => ∃ a xs, v = .ref a ∧ SqT K H a xs ∧ xs.length = n ∧ t xs σ H Q
theorem pg_tup {es : List Expr} {k : Nat} {t : TGs} {n : Nat} (hc : X.calm = true) (h : PGs X es t)
    (hn : (assignEach es X.env).length = n := by rfl) (hst : (assignEach es X.env).findIdx? (·.1) = none := by rfl) : PG X (.Tuple es k pos) (gTup X.K n t) := by
  intro pins s σ H v u Q I r hw
  obtain ⟨a, xs, e1, hq, hl, hw⟩ := hw
  subst e1
  cases r
  obtain ⟨its, rv, ht, hz⟩ := I.tuple hq
  refine assign_Tuple_tuple (I.ok.hd hc) ht (by simp [hn, ← hl, rv.length]) hst fun h' hx => ?_
  have I1 : Inv X pins σ H { s with heap := h' } := I.kept (t' := s.toks) fun b o e => hx b o (Nat.ne_of_lt (Heap.lt_size e)) e
  exact h pins _ σ H xs _ Q I1 (by simpa using rv) hw
def gSub (to ti : TE) (t : TSet) : TG := fun v σ H Q => to σ H fun o H1 => ti σ H1 fun i H2 => t o i v H2 fun H3 => Q σ H3
theorem pg_sub {o i : Expr} {to ti : TE} {t : TSet} (ho : PE X o to) (hi : PE X i ti) (hs : PSet X t)
    (ha : ∀ v, assign (.Subscript o i pos) X.env v = (do
      let ov ← holding [v] (eval o X.env)
      let iv ← holding [v, ov] (eval i X.env)
      standAt pos
      holding [v, ov, iv] (setItem ov iv v)
      release [v, ov, iv] []) := by intro _; rfl) : PG X (.Subscript o i pos) (gSub to ti t) := by
  intro pins s σ H v u Q I r h
  rw [ha]
  refine wpAny_bind (wpAny_holding (thn (ho pins s σ H _ I h) fun ov s1 ⟨x, H1, I1, r1, q1⟩ => ?_))
  refine wpAny_bind (wpAny_holding (thn (hi pins s1 σ H1 _ I1 q1) fun iv s2 ⟨y, H2, I2, r2, q2⟩ => ?_))
  refine wpAny_bind (wpAny_standAt (wpAny_bind (wpAny_holding (thn (hs pins s2 σ H2 x y v ov iv u _ I2 r1 r2 r q2) fun _ s3 ⟨H3, I3, q3⟩ => ?_))))
  exact wpAny_release ⟨σ, H3, I3, q3⟩
def tAsg (te : TE) (g : TG) : TS := fun D σ H => te σ H fun x H1 => g x σ H1 D.nx
theorem ps_asg {tg e : Expr} {te : TE} {g : TG} (he : PE X e te) (hg : PG X tg g) (hs : swapsWithSole [tg] e pos.line X.env = pure false := by rfl) (hw : swappedStores [tg] e X.env = pure none := by rfl)
    (h1 : (assignEach [tg] X.env).map (·.2) = [assign tg X.env] := by rfl) : PS X (.Assign [tg] e pos) (tAsg te g) := by
  intro pins s σ H D I h
  refine wpAny_Assign_stores (thn (he pins s σ H _ I h) fun v s1 ⟨x, H1, I1, r1, q1⟩ => ?_) hs hw
  rw [h1]
  exact thn (hg pins s1 σ H1 x v _ I1 r1 q1) fun _ s2 q => q
theorem ps_set {i : Nat} {x : Str} {e : Expr} {te : TE} {pos' : Pos} (hN : X.N.Nodup) (hi : X.N[i]? = some x) (hx : Loc X.env.scope x) (he : PE X e te) (hs : swapsWith e (some (.Name x pos')) pos.line X.env = pure false := by rfl) (hf : X.fn x = true ∨ X.env.scope.names.lookup x = some .local := by first | exact .inl rfl | exact .inr rfl | assumption) :
    PS X (.Assign [.Name x pos'] e pos) (tAsg te (gName i)) := by
  intro pins s σ H D I h
  refine wpAny_Assign_Name (thn (he pins s σ H _ I h) fun v s1 ⟨y, H1, I1, r1, q1⟩ => ?_) hs
  exact store_ok I1 hN hi hx r1 (fun s2 I2 => ⟨_, H1, I2, q1⟩) hf
def tPar (i j : Nat) (ta : TA) : TS := fun D σ H => ta σ H fun vs H1 => ∃ v w, vs = [v, w] ∧ D.nx ((σ.set i (some v)).set j (some w)) H1
theorem ps_par {i j : Nat} {x y : Str} {a b : Expr} {ta : TA} {px py pt : Pos} {kt k2 pt2} (hc : X.calm = true) (hN : X.N.Nodup) (hi : X.N[i]? = some x) (hj : X.N[j]? = some y) (hij : i ≠ j)
    (hx : X.env.scope.names.lookup x = some .local) (hy : X.env.scope.names.lookup y = some .local) (ha : PA X [a, b] ta)
    (hw : swappedStores [.Tuple [.Name x px, .Name y py] kt pt] (.Tuple [a, b] k2 pt2) X.env = pure (some [x, y]))
    (hs : swapsWithSole [.Tuple [.Name x px, .Name y py] kt pt] (.Tuple [a, b] k2 pt2) pos.line X.env = pure false := by rfl) :
    PS X (.Assign [.Tuple [.Name x px, .Name y py] kt pt] (.Tuple [a, b] k2 pt2) pos) (tPar i j ta) := by
  intro pins s σ H D I h
  rw [exec_Assign_arm]
  refine wpAny_bind (wpAny_standAt ?_)
  rw [hs]
  refine wpAny_bind (wpAny_pure ?_)
  rw [if_neg (by decide)]
  refine wpAny_bind (Tuple_ (thn (ha _ pins s σ H _ I h) fun us s1 ⟨vs, H1, I1, r1, q1⟩ => ?_))
  obtain ⟨v, w, e1, q1⟩ := q1
  subst e1
  obtain ⟨u1, u2, rfl, rv, rw'⟩ : ∃ u1 u2, us = [u1, u2] ∧ RelV v u1 ∧ RelV w u2 := by
    cases r1 with
    | cons p q =>
      cases q with
      | cons p' q' =>
        cases q'
        exact ⟨_, _, rfl, p, p'⟩
  refine wpAny_newObj_type ?_ (by show 2 ≤ sizeLine; decide)
  have I2 : Inv X pins σ H1 { s1 with heap := s1.heap.push { cls := .type "tuple", data := .seq [u1, u2].toArray } } := I1.kept (t' := s1.toks) fun b o e => Heap.get?_push_of_some _ e
  rw [hw]
  refine wpAny_bind (wpAny_pure ?_)
  show wpAny (model X.prog X.w) X.A (do rule "assign.swapped-stores"; let items ← unpackItems (.ref s1.heap.objs.size) 2 none; assignInOrder [fun v => bindName X.env y v, fun v => bindName X.env x v] items.reverse; pure Flow.next) _ _ _
  refine wpAny_bind (wpAny_rule (wpAny_bind (unpackItems_tuple (items := #[u1, u2]) (I.ok.hd hc) (IsTup.new s1.heap _) fun h' hx' => ?_)))
  have I3 := I2.kept (h' := h') (t' := s1.toks) fun b o e => hx' b o (Nat.ne_of_lt (Heap.lt_size e)) e
  show wpAny _ _ (assignInOrder [fun v => bindName X.env y v, fun v => bindName X.env x v] [u2, u1] >>= fun _ => pure Flow.next) _ _ _
  refine wpAny_bind (assignInOrder_cons (wpAny_bindName (store_ok I3 hN hj (.inl hy) rw' (fun s2 I4 => ?_) (.inr hy))))
  refine assignInOrder_cons (wpAny_bindName (store_ok I4 hN hi (.inl hx) rv (fun s3 I5 => assignInOrder_nil (wpAny_pure ?_)) (.inr hx)))
  rw [List.set_comm _ _ (Ne.symm hij)] at I5
  exact ⟨_, H1, I5, q1⟩
end
structure It where
  go : Nat → Hp → Prop
  yld : Nat → Hp → V → Hp → Prop
  stop : Nat → Hp → Prop
def FpOk (X : Cx) (pins : List (Addr × Obj)) (H : Hp) (b : Addr) : Prop :=
  H b = none ∧ b ≠ X.env.locals ∧ b ∉ X.fs ∧ (b ∈ X.ex ∨ X.s_0.heap.objs.size ≤ b) ∧ (∀ x c, X.env.cells.lookup x = some c → c ≠ b) ∧ ∀ p ∈ X.pn ++ pins, p.1 ≠ b
theorem Inv.fpOk {X : Cx} {pins : List (Addr × Obj)} {σ : St} {H H' : Hp} {s : Shared} {b : Addr} (I : Inv X pins σ H s) (hb : s.heap.objs.size ≤ b) (hn : H' b = none) : FpOk X pins H' b := by
  refine ⟨hn, Nat.ne_of_gt (Nat.lt_of_lt_of_le I.lt hb), I.nofs hb, .inr (Nat.le_trans I.sz hb), fun x c e z => ?_, fun p hp z => ?_⟩
  · obtain ⟨v, q⟩ := I.cell x c e
    exact absurd (Nat.lt_of_lt_of_le q.lt (by rw [z]; exact hb)) (Nat.lt_irrefl _)
  · exact absurd (Nat.lt_of_lt_of_le (Heap.lt_size (I.pin p hp).1) (by rw [z]; exact hb)) (Nat.lt_irrefl _)
structure Turn (P : Program) (w : World) (K : PySem.W.Frag) (tg : Expr) (J : It) (fp : List Addr) (it : Addr) (tn : Nat → Heap → Prop) : Prop where
  mem : it ∈ fp
  obj : ∀ i h, tn i h → ∀ b ∈ fp, ∃ o, h.get? b = some o ∧ ∀ v, o.data ≠ .cell v
  keep : ∀ i h h', tn i h → (∀ b ∈ fp, ∀ o, h.get? b = some o → h'.get? b = some o) → tn i h'
  item : ∀ (X : Cx), X.prog = P → X.w = w → X.K = K → X.calm = true → ∀ (i : Nat) (pins : List (Addr × Obj)) (s : Shared) (σ : St) (H : Hp) (E : Value → Shared → Prop), Inv X pins σ H s → (∀ b ∈ fp, FpOk X pins H b) → tn i s.heap → J.go i H →
    wpAny (model P w) X.A (pyNext (.ref it)) (fun r s1 => ∃ u, r = some u ∧
      wpAny (model P w) X.A (letOwnedTupleGo tg (.ref it) u) (fun _ s2 => ∃ x H', Inv X pins σ H' s2 ∧ RelV x u ∧ J.yld i H x H' ∧ tn (i + 1) s2.heap ∧ ∀ b ∈ fp, H' b = none) E s1) E s
  done : ∀ (X : Cx), X.prog = P → X.w = w → X.K = K → X.calm = true → ∀ (i : Nat) (pins : List (Addr × Obj)) (s : Shared) (σ : St) (H : Hp) (E : Value → Shared → Prop), Inv X pins σ H s → (∀ b ∈ fp, FpOk X pins H b) → tn i s.heap → J.stop i H →
    wpAny (model P w) X.A (pyNext (.ref it)) (fun r s1 => r = none ∧ Inv X pins σ H s1) E s
  self : ∀ (A : Around) (i : Nat) (s : Shared) (Q : Value → Shared → Prop) (E : Value → Shared → Prop), tn i s.heap → Q (.ref it) s → wpAny (model P w) A (pyIter (.ref it)) Q E s
abbrev TI := St → Hp → (It → Hp → Prop) → Prop
def PIE (X : Cx) (pins : List (Addr × Obj)) (σ : St) (tg : Expr) (R : It → Hp → Prop) (itv : Value) (s2 : Shared) : Prop :=
  ∃ (it : Addr) (fp : List Addr) (tn : Nat → Heap → Prop) (J : It) (H' : Hp), itv = .ref it ∧ Inv X pins σ H' s2 ∧ Turn X.prog X.w X.K tg J fp it tn ∧ tn 0 s2.heap ∧ (∀ b ∈ fp, FpOk X pins H' b) ∧ R J H'
def PI (X : Cx) (tg iter : Expr) (wi : TI) : Prop :=
  ∀ (pins : List (Addr × Obj)) (s : Shared) (σ : St) (H : Hp) (R : It → Hp → Prop), Inv X pins σ H s → wi σ H R →
    wpAny (model X.prog X.w) X.A (eval iter X.env) (fun v s1 => wpAny (model X.prog X.w) X.A (pyIter v) (PIE X pins σ tg R) X.xe s1) X.xe s
theorem go_of {M : Model} {A : Around} {E : Value → Shared → Prop} {s : Shared} {tg : Expr} {it : Addr} {u : Value} {o : Obj} {n : String} {vs : Array Value} {Q : Unit → Shared → Prop} (ho : s.heap.get? it = some o) (hc : o.cls = .type n) (hd : o.data = .fields vs)
    (hn : ["enumerate", "zip", "dict_itemiterator", "dict_reverseitemiterator", "odict_iterator", "itertools.zip_longest", "itertools.pairwise"].contains n = false) (hQ : Q () s) : wpAny M A (letOwnedTupleGo tg (.ref it) u) Q E s := by
  unfold letOwnedTupleGo
  cases tg <;> first
    | exact wpAny_pure hQ
    | (cases u <;> first
        | exact wpAny_pure hQ
        | (refine wpAny_bind (wpAny_load ho ?_)
           rw [hc, hd]
           show wpAny M A (if (["enumerate", "zip", "dict_itemiterator", "dict_reverseitemiterator", "odict_iterator", "itertools.zip_longest", "itertools.pairwise"].contains n && vs[0]? == some (rawInt _)) = true then _ else _) Q E s
           rw [if_neg (by intro h; rw [hn, Bool.false_and] at h; cases h)]
           exact wpAny_pure hQ))
def Itl (K : PySem.W.Frag) (a : Addr) : It :=
  ⟨fun i H => ∃ xs x, SqL K H a xs ∧ xs[i]? = some x, fun i H x H' => H' = H ∧ ∀ xs, SqL K H a xs → xs[i]? = some x, fun i H => ∃ xs, SqL K H a xs ∧ xs.length ≤ i⟩
def Itt (K : PySem.W.Frag) (a : Addr) : It :=
  ⟨fun i H => ∃ xs x, SqT K H a xs ∧ xs[i]? = some x, fun i H x H' => H' = H ∧ ∀ xs, SqT K H a xs → xs[i]? = some x, fun i H => ∃ xs, SqT K H a xs ∧ xs.length ≤ i⟩
def Itr (lo : Int) (n : Nat) : It := ⟨fun i _ => i < n, fun i H x H' => H' = H ∧ x = .int (lo + i), fun i _ => n ≤ i⟩
theorem turn_list {P : Program} {w : World} {K : PySem.W.Frag} {tg : Expr} (a it : Addr) : Turn P w K tg (Itl K a) [it] it (fun i h => h.IsListIter it a i) where
  mem := by simp
  obj := fun i h st b hb => by
    have e : b = it := by simpa using hb
    subst e
    obtain ⟨o, e, c, d⟩ := st
    exact ⟨o, e, fun v z => by rw [d] at z; cases z⟩
  keep := fun i h h' st k => st.at fun o e => k it (by simp) o e
  item := by
    intro X hP hw hK hc i pins s σ H E I hf st hg
    subst hP hw hK
    obtain ⟨xs, x, hq, hx⟩ := hg
    obtain ⟨its, rv, p, hz⟩ := I.list hq
    obtain ⟨u, hu, ru⟩ := rv.get hx
    obtain ⟨f0, f1, f2, f3, f4, f5⟩ := hf it (by simp)
    refine wpAny_pyNext_list_item st p.isList (x := u) (by simpa using hu) fun h' st' sb => ?_
    have I1 : Inv X pins σ H { s with heap := h' } := I.turned (t' := s.toks) (fun b o hb e => (sb.2 b hb).trans e) f0 f1 f3 f4 f5
    obtain ⟨o, e, c, d⟩ := id st'
    exact ⟨u, rfl, go_of (s := { s with heap := h' }) e c d (by decide) ⟨x, H, I1, ru, ⟨rfl, fun ys hy => by rw [I.list_inj hy hq]; exact hx⟩, st', fun b hb => (hf b hb).1⟩⟩
  done := by
    intro X hP hw hK hc i pins s σ H E I hf st hg
    subst hP hw hK
    obtain ⟨xs, hq, hx⟩ := hg
    obtain ⟨its, rv, p, hz⟩ := I.list hq
    obtain ⟨f0, f1, f2, f3, f4, f5⟩ := hf it (by simp)
    have hl := rv.length
    exact wpAny_pyNext_list_end (I.ok.hd hc) st p.isList (by simp; omega) fun h' eb => ⟨rfl, I.turned (t' := s.toks) (fun b o hb e => eb b o hb e) f0 f1 f3 f4 f5⟩
  self := fun _ _ _ _ _ st h => wpAny_pyIter_listiter st h
theorem turn_tuple {P : Program} {w : World} {K : PySem.W.Frag} {tg : Expr} (a it : Addr) : Turn P w K tg (Itt K a) [it] it (fun i h => h.IsTupleIter it a i) where
  mem := by simp
  obj := fun i h st b hb => by
    have e : b = it := by simpa using hb
    subst e
    obtain ⟨o, e, c, d⟩ := st
    exact ⟨o, e, fun v z => by rw [d] at z; cases z⟩
  keep := fun i h h' st k => st.at fun o e => k it (by simp) o e
  item := by
    intro X hP hw hK hc i pins s σ H E I hf st hg
    subst hP hw hK
    obtain ⟨xs, x, hq, hx⟩ := hg
    obtain ⟨its, rv, p, hz⟩ := I.tuple hq
    obtain ⟨u, hu, ru⟩ := rv.get hx
    obtain ⟨f0, f1, f2, f3, f4, f5⟩ := hf it (by simp)
    refine wpAny_pyNext_tuple_item st (show s.heap.IsTuple a its.toArray from p) (x := u) (by simpa using hu) fun h' st' sb => ?_
    have I1 : Inv X pins σ H { s with heap := h' } := I.turned (t' := s.toks) (fun b o hb e => (sb.2 b hb).trans e) f0 f1 f3 f4 f5
    obtain ⟨o, e, c, d⟩ := id st'
    exact ⟨u, rfl, go_of (s := { s with heap := h' }) e c d (by decide) ⟨x, H, I1, ru, ⟨rfl, fun ys hy => by rw [I.tuple_inj hy hq]; exact hx⟩, st', fun b hb => (hf b hb).1⟩⟩
  done := by
    intro X hP hw hK hc i pins s σ H E I hf st hg
    subst hP hw hK
    obtain ⟨xs, hq, hx⟩ := hg
    obtain ⟨its, rv, p, hz⟩ := I.tuple hq
    obtain ⟨f0, f1, f2, f3, f4, f5⟩ := hf it (by simp)
    have hl := rv.length
    exact wpAny_pyNext_tuple_end (I.ok.hd hc) st (show s.heap.IsTuple a its.toArray from p) (by simp; omega) fun h' eb => ⟨rfl, I.turned (t' := s.toks) (fun b o hb e => eb b o hb e) f0 f1 f3 f4 f5⟩
  self := fun _ _ _ _ _ st h => wpAny_pyIter_tupleiter st h
theorem turn_range {P : Program} {w : World} {K : PySem.W.Frag} {tg : Expr} (it : Addr) (lo : Int) (n : Nat) : Turn P w K tg (Itr lo n) [it] it (fun i h => IsRangeIter h it (lo + (i : Nat) * 1) ((n : Int) - (i : Nat)) 1) where
  mem := by simp
  obj := fun i h st b hb => by
    have e : b = it := by simpa using hb
    subst e
    exact ⟨_, st, fun v z => by
      have z' : Data.fields _ = Data.cell v := z
      cases z'⟩
  keep := fun i h h' st k => k it (by simp) _ st
  item := by
    intro X hP hw hK hc i pins s σ H E I hf st hg
    subst hP hw hK
    obtain ⟨f0, f1, f2, f3, f4, f5⟩ := hf it (by simp)
    have W := Walks.range (prog := X.prog) (w := X.w) (I.ok.hd hc) it lo 1 n
    refine W.item i s _ _ hg st fun v h' tk hv st' kk => ?_
    obtain ⟨t, rfl⟩ := hv
    have I1 : Inv X pins σ H { s with heap := h', toks := tk } := I.turned (fun b o hb e => kk b o (by simpa using hb) e) f0 f1 f3 f4 f5
    refine ⟨_, rfl, go_of (s := { s with heap := h', toks := tk }) (n := "range_iterator") st' rfl rfl (by decide) ⟨.int (lo + i), H, I1, ⟨t, ?_⟩, ⟨rfl, rfl⟩, st', fun b hb => (hf b hb).1⟩⟩
    rw [Int.mul_one]
  done := by
    intro X hP hw hK hc i pins s σ H E I hf st hg
    subst hP hw hK
    obtain ⟨f0, f1, f2, f3, f4, f5⟩ := hf it (by simp)
    exact wpAny_pyNext_range_end (I.ok.hd hc) st (by have : n ≤ i := hg; omega) fun h' eb => ⟨rfl, I.turned (t' := s.toks) (fun b o hb e => eb b o hb e) f0 f1 f3 f4 f5⟩
  self := fun _ _ _ _ _ st h => wpAny_pyIter_rangeiter st h
end L2
namespace L2
open PySem PySem.Spec PyProof.Rows
section
variable {X : Cx} {tg : Expr}
theorem range_it {pins : List (Addr × Obj)} {σ : St} {H : Hp} {s : Shared} {R : It → Hp → Prop} {E : Value → Shared → Prop} {lo hi : Int} {t u v : Tok} {tk : Nat} (I : Inv X pins σ H s) (h1 : -(2 ^ 62) ≤ lo) (h2 : lo < 2 ^ 62) (h3 : -(2 ^ 62) ≤ hi) (h4 : hi < 2 ^ 62)
    (q : R (Itr lo (hi - lo).toNat) H) : wpAny (model X.prog X.w) X.A (pyIter (.ref s.heap.objs.size)) (PIE X pins σ tg R) E { s with heap := s.heap.push { cls := .type "range", data := .fields #[.int lo t, .int hi u, .int 1 v] }, toks := tk } := by
  refine wpAny_pyIter_range (IsRange.new ..) (small_one h1 h2 h3 h4) ?_
  have I1 : Inv X pins σ H { s with heap := s.heap.push { cls := .type "range", data := .fields #[.int lo t, .int hi u, .int 1 v] }, toks := tk } := I.kept fun b o e => Heap.get?_push_of_some _ e
  refine ⟨(s.heap.push { cls := .type "range", data := .fields #[.int lo t, .int hi u, .int 1 v] }).objs.size, [(s.heap.push { cls := .type "range", data := .fields #[.int lo t, .int hi u, .int 1 v] }).objs.size], _, _, H, rfl,
    I1.kept (t' := tk) fun b o e => Heap.get?_push_of_some _ e, turn_range _ lo (hi - lo).toNat, ?_, fun b hb => ?_, q⟩
  · have e1 : lo + ((0 : Nat) : Int) * 1 = lo := by simp
    have e2 : (((hi - lo).toNat : Nat) : Int) - ((0 : Nat) : Int) = Builtin.Range.rangeSize lo hi 1 := by rw [rangeSize_one]; split <;> omega
    show IsRangeIter _ _ (lo + ((0 : Nat) : Int) * 1) ((((hi - lo).toNat : Nat) : Int) - ((0 : Nat) : Int)) 1
    rw [e1, e2]
    exact Heap.get?_push_size _ rfl
  · have e : b = (s.heap.push { cls := .type "range", data := .fields #[.int lo t, .int hi u, .int 1 v] }).objs.size := by simpa using hb
    subst e
    exact I1.fpOk (Nat.le_refl _) (I1.hok.fresh (Nat.le_refl _))
def iRng1 (ta : TA) : TI := fun σ H R => ta σ H fun vs H1 => ∃ j : Int, vs = [.int j] ∧ -(2 ^ 62) ≤ j ∧ j < 2 ^ 62 ∧ R (Itr 0 j.toNat) H1
theorem pi_range1 {a : Expr} {ta : TA} {p pos : Pos} (hg : Gl X "range") (hm : X.mg "range" = none) (ha : PA X [a] ta) (hs : starEach [a] X.env = [(false, eval a X.env)] := by rfl) : PI X tg (.Call (.Name "range" p) [a] [] pos) (iRng1 ta) := by
  intro pins s σ H R I h
  refine Call_ (ld_blt I hg hm boot_range (PyProof.Rows.callWith_type1 (thn (ha pos pins s σ H _ I h) fun us s1 ⟨vs, H1, I1, r1, q1⟩ => ?_) hs rfl))
  obtain ⟨j, e, q1, q2, q⟩ := q1
  subst e
  cases r1 with
  | cons r rr =>
    cases rr
    obtain ⟨t, rfl⟩ := r
    exact call_range_1 (range_it I1 (by omega) (by omega) q1 q2 (by simpa using q))
def tFor (wi : TI) (g : TG) (tb : TS) : TS := fun D σ H => wi σ H fun J H1 => ∃ W : Nat → Nat → St → Hp → Prop, (∃ m, W 0 m σ H1) ∧ ∀ i m σ H, W i m σ H →
  (J.stop i H ∧ D.nx σ H) ∨ (J.go i H ∧ ∃ N : St → Hp → Prop, (∀ σ' H', N σ' H' → ∃ m', m' < m ∧ W (i + 1) m' σ' H') ∧ ∀ x H', J.yld i H x H' → g x σ H' fun σ2 H2 => tb { D with nx := N, ct := N, bk := D.nx } σ2 H2)
def pinsAt (fp : List Addr) (h : Heap) : List (Addr × Obj) := fp.filterMap fun b => (h.get? b).map fun o => (b, o)
theorem mem_pinsAt {fp : List Addr} {h : Heap} {b : Addr} {o : Obj} (hb : b ∈ fp) (e : h.get? b = some o) : (b, o) ∈ pinsAt fp h := List.mem_filterMap.mpr ⟨b, hb, by rw [e]; rfl⟩
theorem of_pinsAt {fp : List Addr} {h : Heap} {p : Addr × Obj} (hp : p ∈ pinsAt fp h) : p.1 ∈ fp ∧ h.get? p.1 = some p.2 := by
  obtain ⟨b, hb, e⟩ := List.mem_filterMap.mp hp
  cases q : h.get? b with
  | none => rw [q] at e; cases e
  | some o =>
    rw [q] at e
    have e' : (b, o) = p := Option.some.inj e
    subst e'
    exact ⟨hb, q⟩
theorem Inv.pinned {pins : List (Addr × Obj)} {σ : St} {H : Hp} {s : Shared} {fp : List Addr} (I : Inv X pins σ H s) (hf : ∀ b ∈ fp, FpOk X pins H b) (ho : ∀ b ∈ fp, ∃ o, s.heap.get? b = some o ∧ ∀ v, o.data ≠ .cell v) : Inv X (pins ++ pinsAt fp s.heap) σ H s :=
  I.pins_of fun p hp => (List.mem_append.mp hp).elim (fun z => I.pin p (List.mem_append_right _ z)) fun z => by
    obtain ⟨hb, e⟩ := of_pinsAt z
    obtain ⟨f0, f1, f2, _⟩ := hf p.1 hb
    obtain ⟨o, e', d⟩ := ho p.1 hb
    rw [e] at e'; cases e'
    exact ⟨e, f0, f1, f2, d⟩
theorem Inv.unpinned {pins pl : List (Addr × Obj)} {σ : St} {H : Hp} {s : Shared} (I : Inv X (pins ++ pl) σ H s) : Inv X pins σ H s := I.pins_of fun p hp => I.pin p (List.mem_append_right _ (List.mem_append_left _ hp))
theorem ps_for {iter : Expr} {body : List Stmt} {wi : TI} {g : TG} {tb : TS} {pos : Pos} (hp : PassesOwn (model X.prog X.w) X.A X.env X.xe) (hc : X.calm = true) (hi : PI X tg iter wi) (hg : PG X tg g) (hb : PSs X body tb)
    (hs : ∀ x, foldedSetIterable iter X.env x = pure x := by intro _; rfl) : PS X (.For tg iter body [] pos) (tFor wi g tb) := by
  intro pins s σ H D I h
  refine wpAny_For (thn (hi pins s σ H _ I h) fun v s1 h1 => thn h1 fun itv s2 h2 => ?_) hs
  obtain ⟨it, fp, tn, J, H2, e, I2, T, st2, f2, W, ⟨m0, w0⟩, turn⟩ := h2
  subst e
  -- what stays true of the iterator's objects through the loop
  have stat : ∀ {H' : Hp}, (∀ b ∈ fp, H' b = none) → ∀ b ∈ fp, FpOk X pins H' b := fun hn b hb => ⟨hn b hb, (f2 b hb).2⟩
  refine codeAny_forLoop_any (fun n s' => ∃ i σ' H', Inv X pins σ' H' s' ∧ tn i s'.heap ∧ (∀ b ∈ fp, H' b = none) ∧ W i n σ' H') ?_ m0 ⟨0, σ, H2, I2, st2, fun b hb => (f2 b hb).1, w0⟩
  rintro n s3 ⟨i, σ3, H3, I3, st3, fr3, w3⟩
  rcases turn i n σ3 H3 w3 with ⟨stop, qn⟩ | ⟨go, N, hN, step⟩
  · refine wpAny_passesOwn hp (thn (T.done X rfl rfl rfl hc i pins s3 σ3 H3 X.xe I3 (stat fr3) st3 stop) fun r s4 ⟨hr, I4⟩ => ?_)
    subst hr
    exact wpAny_execs_nil ⟨σ3, H3, I4, qn⟩
  · refine wpAny_passesOwn hp (thn (T.item X rfl rfl rfl hc i pins s3 σ3 H3 X.xe I3 (stat fr3) st3 go) fun r s4 ⟨u, hr, h4⟩ => ?_)
    subst hr
    refine wpAny_passesOwn hp (thn h4 fun _ s5 ⟨x, H5, I5, r5, y5, st5, fr5⟩ => ?_)
    have I5' := I5.pinned (stat fr5) (T.obj _ _ st5)
    refine wpAny_passesOwn hp (thn (hg _ s5 σ3 H5 x u _ I5' r5 (step x H5 y5)) fun _ s6 ⟨σ6, H6, I6, q6⟩ => ?_)
    refine wpAny_passesOwn hp (thn (hb _ s6 σ6 H6 _ I6 q6) fun f s7 q7 => ?_)
    have again : ∀ {σ7 : St} {H7 : Hp}, Inv X (pins ++ pinsAt fp s5.heap) σ7 H7 s7 → N σ7 H7 → ∃ m, m < n ∧ ∃ i σ' H', Inv X pins σ' H' s7 ∧ tn i s7.heap ∧ (∀ b ∈ fp, H' b = none) ∧ W i m σ' H' := fun {σ7 H7} I7 n7 => by
      obtain ⟨m', hm, w7⟩ := hN σ7 H7 n7
      refine ⟨m', hm, i + 1, σ7, H7, I7.unpinned, T.keep _ _ _ st5 fun b hb o e => (I7.pin (b, o) (List.mem_append_right _ (List.mem_append_right _ (mem_pinsAt hb e)))).1, fun b hb => ?_, w7⟩
      obtain ⟨o, e, d⟩ := T.obj _ _ st5 b hb
      exact (I7.pin (b, o) (List.mem_append_right _ (List.mem_append_right _ (mem_pinsAt hb e)))).2.1
    cases f with
    | next => obtain ⟨σ7, H7, I7, n7⟩ := q7; exact again I7 n7
    | cont => obtain ⟨σ7, H7, I7, n7⟩ := q7; exact again I7 n7
    | brk => obtain ⟨σ7, H7, I7, q7⟩ := q7; exact ⟨σ7, H7, I7.unpinned, q7⟩
    | ret v => obtain ⟨x7, σ7, H7, I7, r7, q7⟩ := q7; exact ⟨x7, σ7, H7, I7.unpinned, r7, q7⟩
end
end L2
namespace L2
open PySem PySem.Spec PyProof.Rows
abbrev R2 := V → V → Hp → VK → Prop
def OpR (X : Cx) (f : Value → Value → Sem Value) (r : R2) : Prop :=
  ∀ (pins : List (Addr × Obj)) (s : Shared) (σ : St) (H : Hp) (x y : V) (v u : Value) (Q : VK), Inv X pins σ H s → RelV x v → RelV y u → r x y H Q →
    wpAny (model X.prog X.w) X.A (f v u) (EP X pins σ Q) X.xe s
def CallR (X : Cx) (f : Value) (r : List V → Hp → VK → Prop) : Prop :=
  ∀ (pins : List (Addr × Obj)) (s : Shared) (σ : St) (H : Hp) (xs : List V) (us : List Value) (Q : VK), Inv X pins σ H s → Vals xs us → r xs H Q →
    wpAny (model X.prog X.w) X.A (call f us) (EP X pins σ Q) X.xe s
def tOp (r : R2) (ta tb : TE) : TE := fun σ H Q => ta σ H fun x H1 => tb σ H1 fun y H2 => r x y H2 Q
def rI (C : Int → Int → Prop) (g : Int → Int → V) : R2 := fun x y H Q => ∃ i j, x = .int i ∧ y = .int j ∧ C i j ∧ Q (g i j) H
def rI0 (g : Int → Int → V) : R2 := fun x y H Q => ∃ i j, x = .int i ∧ y = .int j ∧ Q (g i j) H
section
variable {X : Cx} {a b c : Expr} {ta tb tc : TE} {pos : Pos}
theorem binT (ha : PE X a ta) (hb : PE X b tb) {pins : List (Addr × Obj)} {s : Shared} {σ : St} {H : Hp} {R : V → V → Hp → Prop} (I : Inv X pins σ H s)
    (h : ta σ H fun x H1 => tb σ H1 fun y H2 => R x y H2) {Q : Value → Shared → Prop} {f : Value → Value → Sem Value}
    (hf : ∀ v u s2 x y H2, Inv X pins σ H2 s2 → RelV x v → RelV y u → R x y H2 → wpAny (model X.prog X.w) X.A (f v u) Q X.xe s2) :
    wpAny (model X.prog X.w) X.A (eval a X.env) (fun v s₁ => wpAny (model X.prog X.w) X.A (eval b X.env) (fun u s₂ => wpAny (model X.prog X.w) X.A (f v u) Q X.xe s₂) X.xe s₁) X.xe s := by
  refine thn (ha pins s σ H _ I h) fun v s1 ⟨x, H1, I1, r1, q1⟩ => ?_
  refine thn (hb pins s1 σ H1 _ I1 q1) fun u s2 ⟨y, H2, I2, r2, q2⟩ => ?_
  exact hf v u s2 x y H2 I2 r1 r2 q2
theorem pe_op {op : Operator} {r : R2} (ho : OpR X (binaryOp op) r) (ha : PE X a ta) (hb : PE X b tb) : PE X (.BinOp a op b pos) (tOp r ta tb) := by
  intro pins s σ H Q I h
  exact wpAny_BinOp (binT ha hb I h fun v u s2 x y H2 I2 rx ry q => ho pins s2 σ H2 x y v u Q I2 rx ry q)
theorem opI {f : Value → Value → Sem Value} {C : Int → Int → Prop} {g : Int → Int → Int}
    (rule : ∀ (i j : Int) (t u : Tok) (s : Shared) (Q : Value → Shared → Prop) (E : Value → Shared → Prop), C i j → Q (.int (g i j) s.toks) { s with toks := s.toks + 1 } → wpAny (model X.prog X.w) X.A (f (.int i t) (.int j u)) Q E s) :
    OpR X f (rI C fun i j => .int (g i j)) := by
  intro pins s σ H x y v u Q I rx ry h
  obtain ⟨i, j, rfl, rfl, hc, q⟩ := h
  obtain ⟨t, rfl⟩ := rx
  obtain ⟨t', rfl⟩ := ry
  exact rule i j t t' s _ _ hc ⟨.int (g i j), H, I.tok _, ⟨_, rfl⟩, q⟩
theorem opI0 {f : Value → Value → Sem Value} {g : Int → Int → Int}
    (rule : ∀ (i j : Int) (t u : Tok) (s : Shared) (Q : Value → Shared → Prop) (E : Value → Shared → Prop), Q (.int (g i j) s.toks) { s with toks := s.toks + 1 } → wpAny (model X.prog X.w) X.A (f (.int i t) (.int j u)) Q E s) :
    OpR X f (rI0 fun i j => .int (g i j)) := by
  intro pins s σ H x y v u Q I rx ry h
  obtain ⟨i, j, rfl, rfl, q⟩ := h
  obtain ⟨t, rfl⟩ := rx
  obtain ⟨t', rfl⟩ := ry
  exact rule i j t t' s _ _ ⟨.int (g i j), H, I.tok _, ⟨_, rfl⟩, q⟩
theorem opB0 {f : Value → Value → Sem Value} {g : Int → Int → Bool}
    (rule : ∀ (i j : Int) (t u : Tok) (s : Shared) (Q : Value → Shared → Prop) (E : Value → Shared → Prop), Q (.bool (g i j)) s → wpAny (model X.prog X.w) X.A (f (.int i t) (.int j u)) Q E s) :
    OpR X f (rI0 fun i j => .bl (g i j)) := by
  intro pins s σ H x y v u Q I rx ry h
  obtain ⟨i, j, rfl, rfl, q⟩ := h
  obtain ⟨t, rfl⟩ := rx
  obtain ⟨t', rfl⟩ := ry
  exact rule i j t t' s _ _ ⟨.bl (g i j), H, I, rfl, q⟩
def CDiv (i j : Int) : Prop := 0 < j ∧ j < 1073741824
def CPow (i j : Int) : Prop := 0 ≤ j ∧ j ≤ 1000000 ∧ i.natAbs < 2 ^ 64
def CMul (i j : Int) : Prop := (-(2 ^ 64) < i ∧ i < 2 ^ 64) ∨ (-(2 ^ 64) < j ∧ j < 2 ^ 64)
theorem CMul.ok {i j : Int} (h : CMul i j) : IntMulOk i j := by
  rcases h with ⟨h1, h2⟩ | ⟨h1, h2⟩
  · exact .of_left (intBits_le_64 h1 h2)
  · exact .of_right (intBits_le_64 h1 h2)
theorem op_add : OpR X (binaryOp .Add) (rI0 fun i j => .int (i + j)) := opI0 fun _ _ _ _ _ _ _ q => add_int q
theorem op_mul : OpR X (binaryOp .Mult) (rI CMul fun i j => .int (i * j)) := opI fun _ _ _ _ _ _ _ hc q => mul_int q hc.ok
theorem op_fdiv : OpR X (binaryOp .FloorDiv) (rI CDiv fun i j => .int (i / j)) := opI fun i j _ _ _ _ _ hc q => by
  have h1 : (0 : Int) < j := hc.1
  have h2 : j < 1073741824 := hc.2
  exact floordiv_int (by omega) (by rw [Int.fdiv_eq_ediv_of_nonneg i (by omega)]; exact q) (.inl (PyProof.noPylong_small (by omega)))
theorem op_mod : OpR X (binaryOp .Mod) (rI (fun _ j => 0 < j) fun i j => .int (i % j)) := opI fun i j _ _ _ _ _ hc q => by
  have h1 : (0 : Int) < j := hc
  exact mod_int' (by omega) (by rw [Int.fmod_eq_emod_of_nonneg i (by omega)]; exact q)
theorem op_pow : OpR X (binaryOp .Pow) (rI CPow fun i j => .int (i ^ j.toNat)) := opI fun _ _ _ _ _ _ _ hc q => pow_int_small hc.1 hc.2.1 hc.2.2 q
end
def scal : V → V → Bool
  | .non, .non => true | .non, .int _ => true | .int _, .non => true | .non, .bl _ => true | .bl _, .non => true | .non, .str _ => true | .str _, .non => true
  | .int _, .int _ => true | .bl _, .bl _ => true | .str _, .str _ => true | .byt _, .byt _ => true
  | .int _, .str _ => true | .str _, .int _ => true | .bl _, .str _ => true | .str _, .bl _ => true
  | _, _ => false
def rEq : R2 := fun x y H Q => scal x y = true ∧ Q (.bl (decide (x = y))) H
def rNe : R2 := fun x y H Q => scal x y = true ∧ Q (.bl (!decide (x = y))) H
theorem dec_int {i j : Int} : decide (V.int i = V.int j) = (i == j) := by
  rw [Bool.eq_iff_iff]
  simp
theorem dec_bl {i j : Bool} : decide (V.bl i = V.bl j) = (i == j) := by
  rw [Bool.eq_iff_iff]
  simp
theorem dec_str {i j : Str} : decide (V.str i = V.str j) = (i == j) := by
  rw [Bool.eq_iff_iff]
  simp
theorem dec_byt {i j : Array UInt8} : decide (V.byt i = V.byt j) = (i.toList == j.toList) := by
  rw [Bool.eq_iff_iff]
  cases i
  cases j
  simp
section
variable {X : Cx} {a b c : Expr} {ta tb tc : TE} {pos : Pos}
theorem fin_bl {pins : List (Addr × Obj)} {σ : St} {H : Hp} {s : Shared} {Q : VK} {k k' : Bool} (I : Inv X pins σ H s) (q : Q (.bl k) H) (e : k = k') : EP X pins σ Q (.bool k') s := by
  subst e
  exact ⟨.bl k, H, I, rfl, q⟩
theorem op_eq : OpR X (compareOp .Eq) rEq := by
  intro pins s σ H x y v u Q I rx ry h
  obtain ⟨hs, q⟩ := h
  cases x with
  | non =>
    cases rx
    cases y with
    | non => cases ry; exact PySem.EqNone.eq_none_none (fin_bl I q (by simp))
    | bl j => cases ry; exact PySem.EqNone.eq_none_bool (fin_bl I q (by simp))
    | int j => obtain ⟨t', rfl⟩ := ry; exact PySem.EqNone.eq_none_int (fin_bl I q (by simp))
    | str j => obtain ⟨t', rfl⟩ := ry; exact PySem.EqNone.eq_none_str (fin_bl I q (by simp))
    | _ => exact absurd (show false = true from hs) Bool.false_ne_true
  | bl i =>
    cases rx
    cases y with
    | non => cases ry; exact PySem.EqNone.eq_bool_none (fin_bl I q (by simp))
    | bl j => cases ry; exact eq_bool (fin_bl I q dec_bl)
    | str j => obtain ⟨t', rfl⟩ := ry; exact PySem.EqMixed.eq_bool_str (fin_bl I q (by simp))
    | _ => exact absurd (show false = true from hs) Bool.false_ne_true
  | int i =>
    obtain ⟨t, rfl⟩ := rx
    cases y with
    | non => cases ry; exact PySem.EqNone.eq_int_none (fin_bl I q (by simp))
    | int j => obtain ⟨t', rfl⟩ := ry; exact eq_int (fin_bl I q dec_int)
    | str j => obtain ⟨t', rfl⟩ := ry; exact PySem.EqMixed.eq_int_str (fin_bl I q (by simp))
    | _ => exact absurd (show false = true from hs) Bool.false_ne_true
  | str i =>
    obtain ⟨t, rfl⟩ := rx
    cases y with
    | non => cases ry; exact PySem.EqNone.eq_str_none (fin_bl I q (by simp))
    | bl j => cases ry; exact PySem.EqMixed.eq_str_bool (fin_bl I q (by simp))
    | int j => obtain ⟨t', rfl⟩ := ry; exact PySem.EqMixed.eq_str_int (fin_bl I q (by simp))
    | str j => obtain ⟨t', rfl⟩ := ry; exact eq_str (fin_bl I q dec_str)
    | _ => exact absurd (show false = true from hs) Bool.false_ne_true
  | byt i =>
    obtain ⟨t, rfl⟩ := rx
    cases y with
    | byt j => obtain ⟨t', rfl⟩ := ry; exact PySem.W.eq_bytes (fin_bl I q dec_byt)
    | _ => exact absurd (show false = true from hs) Bool.false_ne_true
  | _ => cases y <;> exact absurd (show false = true from hs) Bool.false_ne_true
theorem op_ne : OpR X (compareOp .NotEq) rNe := by
  intro pins s σ H x y v u Q I rx ry h
  obtain ⟨hs, q⟩ := h
  cases x with
  | non =>
    cases rx
    cases y with
    | non => cases ry; exact PySem.EqNone.ne_none_none (fin_bl I q (by simp))
    | bl j => cases ry; exact PySem.EqNone.ne_none_bool (fin_bl I q (by simp))
    | int j => obtain ⟨t', rfl⟩ := ry; exact PySem.EqNone.ne_none_int (fin_bl I q (by simp))
    | str j => obtain ⟨t', rfl⟩ := ry; exact PySem.EqNone.ne_none_str (fin_bl I q (by simp))
    | _ => exact absurd (show false = true from hs) Bool.false_ne_true
  | bl i =>
    cases rx
    cases y with
    | non => cases ry; exact PySem.EqNone.ne_bool_none (fin_bl I q (by simp))
    | bl j => cases ry; exact ne_bool (fin_bl I q (congrArg not dec_bl))
    | str j => obtain ⟨t', rfl⟩ := ry; exact PySem.EqMixed.ne_bool_str (fin_bl I q (by simp))
    | _ => exact absurd (show false = true from hs) Bool.false_ne_true
  | int i =>
    obtain ⟨t, rfl⟩ := rx
    cases y with
    | non => cases ry; exact PySem.EqNone.ne_int_none (fin_bl I q (by simp))
    | int j => obtain ⟨t', rfl⟩ := ry; exact ne_int (fin_bl I q (congrArg not dec_int))
    | str j => obtain ⟨t', rfl⟩ := ry; exact PySem.EqMixed.ne_int_str (fin_bl I q (by simp))
    | _ => exact absurd (show false = true from hs) Bool.false_ne_true
  | str i =>
    obtain ⟨t, rfl⟩ := rx
    cases y with
    | non => cases ry; exact PySem.EqNone.ne_str_none (fin_bl I q (by simp))
    | bl j => cases ry; exact PySem.EqMixed.ne_str_bool (fin_bl I q (by simp))
    | int j => obtain ⟨t', rfl⟩ := ry; exact PySem.EqMixed.ne_str_int (fin_bl I q (by simp))
    | str j => obtain ⟨t', rfl⟩ := ry; exact ne_str (fin_bl I q (congrArg not dec_str))
    | _ => exact absurd (show false = true from hs) Bool.false_ne_true
  | byt i =>
    obtain ⟨t, rfl⟩ := rx
    cases y with
    | byt j => obtain ⟨t', rfl⟩ := ry; exact PySem.W.ne_bytes (fin_bl I q (congrArg not dec_byt))
    | _ => exact absurd (show false = true from hs) Bool.false_ne_true
  | _ => cases y <;> exact absurd (show false = true from hs) Bool.false_ne_true
theorem op_lt : OpR X (compareOp .Lt) (rI0 fun i j => .bl (decide (i < j))) := opB0 fun _ _ _ _ _ _ _ q => lt_int q
theorem op_le : OpR X (compareOp .LtE) (rI0 fun i j => .bl (decide (i ≤ j))) := opB0 fun _ _ _ _ _ _ _ q => le_int q
theorem op_ge : OpR X (compareOp .GtE) (rI0 fun i j => .bl (decide (j ≤ i))) := opB0 fun _ _ _ _ _ _ _ q => ge_int q
theorem op_lt_str : OpR X (compareOp .Lt) (fun x y H Q => ∃ i j, x = .str i ∧ y = .str j ∧ Q (.bl (decide (i.cps.toList < j.cps.toList))) H) := by
  intro pins s σ H x y v u Q I rx ry h
  obtain ⟨i, j, rfl, rfl, q⟩ := h
  obtain ⟨t, rfl⟩ := rx
  obtain ⟨t', rfl⟩ := ry
  exact lt_str (fin_bl I q rfl)
theorem op_isN : OpR X (compareOp .Is) (fun x y H Q => y = .non ∧ Q (.bl (decide (x = .non))) H) := by
  intro pins s σ H x y v u Q I rx ry h
  obtain ⟨rfl, q⟩ := h
  cases ry
  refine is_none_gen (fin_bl I q ?_)
  cases x <;> first
    | (cases rx; rfl)
    | (obtain ⟨t, rfl⟩ := rx; rfl)
theorem op_notN : OpR X (compareOp .IsNot) (fun x y H Q => y = .non ∧ Q (.bl (!decide (x = .non))) H) := by
  intro pins s σ H x y v u Q I rx ry h
  obtain ⟨rfl, q⟩ := h
  cases ry
  refine isnot_none_gen (fin_bl I q ?_)
  cases x <;> first
    | (cases rx; rfl)
    | (obtain ⟨t, rfl⟩ := rx; rfl)
theorem OpR.or {f : Value → Value → Sem Value} {r r' : R2} (h : OpR X f r) (h' : OpR X f r') : OpR X f (fun x y H Q => r x y H Q ∨ r' x y H Q) := by
  intro pins s σ H x y v u Q I rx ry q
  rcases q with q | q
  · exact h pins s σ H x y v u Q I rx ry q
  · exact h' pins s σ H x y v u Q I rx ry q
theorem nomark (b : Expr) {op : CmpOp} (h : op ≠ .In := by decide) (h2 : op ≠ .NotIn := by decide) : behindInMarks op b = false := by
  have e1 : (op == CmpOp.In) = false := by cases op <;> first | rfl | exact absurd rfl h
  have e2 : (op == CmpOp.NotIn) = false := by cases op <;> first | rfl | exact absurd rfl h2
  cases b <;> simp [behindInMarks, e1, e2]
theorem pe_cmpR {op : CmpOp} {r : R2} (ho : OpR X (compareOp op) r) (ha : PE X a ta) (hb : PE X b tb) (hm : behindInMarks op b = false) : PE X (.Compare a [op] [b] pos) (tOp r ta tb) := by
  intro pins s σ H Q I h
  exact wpAny_Compare1 (binT ha hb I h fun v u s2 x y H2 I2 rx ry q => ho pins s2 σ H2 x y v u Q I2 rx ry q) hm
def tTest (t : TE) : TT := fun σ H Q => t σ H fun x H' => ∃ k, x = .bl k ∧ Q k H'
theorem pt_cmpR {op : CmpOp} {r : R2} (ho : OpR X (compareOp op) r) (ha : PE X a ta) (hb : PE X b tb) (hm : behindInMarks op b = false) : PT X (.Compare a [op] [b] pos) (tTest (tOp r ta tb)) := by
  intro pins s σ H Q I h
  refine wpAny_isTrue_Compare1 (thn (ha pins s σ H _ I h) fun v s1 ⟨x, H1, I1, r1, q1⟩ => thn (hb pins s1 σ H1 _ I1 q1) fun u s2 ⟨y, H2, I2, r2, q2⟩ =>
    thn (ho pins s2 σ H2 x y v u _ I2 r1 r2 q2) fun c s3 ⟨z, H3, I3, r3, k, e, q3⟩ => ?_) hm
  subst e
  cases r3
  exact wpAny_truthy_bool ⟨H3, I3, q3⟩
def tChain (r r' : R2) (ta tb tc : TE) : TE := fun σ H Q => ta σ H fun x H1 => tb σ H1 fun y H2 => r x y H2 fun z H3 => ∃ k, z = .bl k ∧
  (if k = true then tc σ H3 fun w' H4 => r' y w' H4 Q else Q (.bl false) H3)
theorem pt_chain {op op' : CmpOp} {r r' : R2} (ho : OpR X (compareOp op) r) (ho' : OpR X (compareOp op') r') (ha : PE X a ta) (hb : PE X b tb) (hc : PE X c tc)
    (hm : lastMarks [op, op'] [b, c] = false := by with_unfolding_all rfl) : PT X (.Compare a [op, op'] [b, c] pos) (tTest (tChain r r' ta tb tc)) := by
  intro pins s σ H Q I h
  refine isTrue_chain (thn (ha pins s σ H _ I h) fun v s1 ⟨x, H1, I1, r1, q1⟩ => test_link (thn (hb pins s1 σ H1 _ I1 q1) fun u s2 ⟨y, H2, I2, r2, q2⟩ =>
    thn (ho pins s2 σ H2 x y v u _ I2 r1 r2 q2) fun d s3 ⟨z, H3, I3, r3, k, e, q3⟩ => ?_)) hm
  subst e
  cases r3
  refine wpAny_truthy_bool ?_
  cases k with
  | false =>
    obtain ⟨k', e', q'⟩ := q3
    cases e'
    exact ite_ff ⟨H3, I3, q'⟩
  | true =>
    refine ite_tt (test_last (thn (hc pins s3 σ H3 _ I3 q3) fun w' s4 ⟨z', H4, I4, r4, q4⟩ => thn (ho' pins s4 σ H4 y z' u w' _ I4 r2 r4 q4) fun d' s5 ⟨z2, H5, I5, r5, k2, e2, q5⟩ => ?_))
    subst e2
    cases r5
    exact wpAny_truthy_bool ⟨H5, I5, q5⟩
theorem line63 : (sizeLine : Nat) < 2 ^ 63 := by rw [sizeLine_eq]; decide
theorem op_add_str : OpR X (binaryOp .Add) (fun x y H Q => ∃ i j, x = .str i ∧ y = .str j ∧ i.length + j.length ≤ sizeLine ∧ Q (.str (i ++ j)) H) := by
  intro pins s σ H x y v u Q I rx ry h
  obtain ⟨i, j, rfl, rfl, hz, q⟩ := h
  obtain ⟨t, rfl⟩ := rx
  obtain ⟨t', rfl⟩ := ry
  exact add_str (fun t' tk => ⟨.str (i ++ j), H, I.tok _, ⟨_, rfl⟩, q⟩) hz
theorem vals1 {x : V} {us : List Value} (r : Vals [x] us) : ∃ u, us = [u] ∧ RelV x u := by
  cases r with
  | cons r1 r2 => cases r2; exact ⟨_, rfl, r1⟩
theorem vals2 {x y : V} {us : List Value} (r : Vals [x, y] us) : ∃ u w', us = [u, w'] ∧ RelV x u ∧ RelV y w' := by
  cases r with
  | cons r1 r2 =>
    cases r2 with
    | cons r3 r4 => cases r4; exact ⟨_, _, rfl, r1, r3⟩
theorem call_int1 : CallR X (.type "int") (fun xs H Q => (∃ i, xs = [.int i] ∧ Q (.int i) H) ∨ ∃ k, xs = [.bl k] ∧ Q (.int (if k then 1 else 0)) H) := by
  intro pins s σ H xs us Q I r h
  rcases h with ⟨i, rfl, q⟩ | ⟨k, rfl, q⟩
  · obtain ⟨u, rfl, t, rfl⟩ := vals1 r
    exact call_int_int ⟨.int i, H, I, ⟨_, rfl⟩, q⟩
  · obtain ⟨u, rfl, r1⟩ := vals1 r
    cases r1
    exact call_int_bool ⟨.int (if k then 1 else 0), H, I.tok _, ⟨_, rfl⟩, q⟩
def LenV (K : PySem.W.Frag) (x : V) (H : Hp) (n : Nat) : Prop :=
  match x with
  | .str y => y.length ≤ sizeLine ∧ n = y.length
  | .byt y => y.size ≤ sizeLine ∧ n = y.size
  | .ref p => (∃ xs, SqL K H p xs ∧ n = xs.length) ∨ ∃ xs, SqT K H p xs ∧ n = xs.length
  | _ => False
theorem call_len : CallR X (.builtin "len") (fun xs H Q => ∃ x n, xs = [x] ∧ LenV X.K x H n ∧ Q (.int n) H) := by
  intro pins s σ H xs us Q I r h
  obtain ⟨x, n, rfl, e, q⟩ := h
  obtain ⟨u, rfl, rx⟩ := vals1 r
  have hl := line63
  have hs : sizeLine = 16777216 := sizeLine_eq
  cases x with
  | str y =>
    obtain ⟨t, rfl⟩ := rx
    obtain ⟨hy, e'⟩ : y.length ≤ sizeLine ∧ n = y.length := e
    subst e'
    exact len_str (by omega) ⟨.int _, H, I.tok _, ⟨_, rfl⟩, q⟩
  | byt y =>
    obtain ⟨t, rfl⟩ := rx
    obtain ⟨hy, e'⟩ : y.size ≤ sizeLine ∧ n = y.size := e
    subst e'
    exact PySem.W.len_bytes (by omega) ⟨.int _, H, I.tok _, ⟨_, rfl⟩, q⟩
  | ref p =>
    cases rx
    have e' : (∃ xs, SqL X.K H p xs ∧ n = xs.length) ∨ ∃ xs, SqT X.K H p xs ∧ n = xs.length := e
    rcases e' with ⟨xs, hx, e'⟩ | ⟨xs, hx, e'⟩
    · subst e'
      obtain ⟨its, r', pl, hz⟩ := I.list hx
      have hlen := r'.length
      exact Calls.call_len_list pl.isList (by simp only [List.size_toArray]; omega) ⟨.int xs.length, H, I.tok _, ⟨_, by simp only [List.size_toArray]; rw [hlen]⟩, q⟩
    · subst e'
      obtain ⟨its, r', pl, hz⟩ := I.tuple hx
      have hlen := r'.length
      exact len_tuple pl (by simp only [List.size_toArray]; omega) ⟨.int xs.length, H, I.tok _, ⟨_, by simp only [List.size_toArray]; rw [hlen]⟩, q⟩
  | _ => exact (show False from e).elim
end
end L2
namespace L2
open PySem PySem.Spec PyProof.Rows
structure ObjM (h : Heap) (x dx C : Addr) (mA : Str → Option Value) : Prop where
  obj : h.get? x = some (PySem.W.instObj C dx)
  ns : h.Ns1 dx mA
  ne : dx ≠ x
theorem lookIn_ns {h : Heap} {dx : Addr} {mA : Str → Option Value} (n : h.Ns1 dx mA) : ∃ od, h.get? dx = some od ∧ ∀ name, PySem.W.lookIn name od = some (mA name) := by
  obtain ⟨o, es, ep, ho, hd, hk, _, hm⟩ := n
  refine ⟨o, ho, fun name => ?_⟩
  have e := hm name
  unfold nsFind findBy at e
  rw [← Array.find?_toList] at e
  unfold PySem.W.lookIn
  rw [hd]
  dsimp only
  split
  · rename_i y q
    rw [q] at e
    exact congrArg some e
  · rename_i q
    rw [q] at e
    have a : es.toList.any (·.refKey) = false := by
      rw [List.any_eq_false]
      intro y hy
      obtain ⟨z, t, hkey⟩ := hk y (Array.mem_toList_iff.mp hy)
      simp [DictEntry.refKey, hkey]
    have a' : ¬ es.toList.any (·.refKey) = true := by rw [a]; exact Bool.false_ne_true
    rw [if_neg a']
    exact congrArg some e
theorem ObjM.look {h : Heap} {x dx C : Addr} {mA : Str → Option Value} (I : ObjM h x dx C mA) : ∃ od, PySem.W.InstAt h x (PySem.W.instObj C dx) C (some od) ∧ ∀ name, PySem.W.lookIn name od = some (mA name) :=
  let ⟨od, ho, hl⟩ := lookIn_ns I.ns
  ⟨od, ⟨I.obj, rfl, rfl, ho⟩, hl⟩
section
variable {P : Program} {w : World} {H H' : Hp} {h h' : Heap} {a C dx : Addr} {fs fs' : List (Str × V)}
theorem ins_get (hok : HOk P w H h) (e : H a = some (.ins C dx fs)) : ∃ mA, ObjM h a dx C mA ∧ (∀ f, RelO (fs.lookup f) (mA f)) ∧ PySem.Within mA (fs.map (·.1)) ∧ fs.length ≤ 1000 ∧ H dx = some (.own a) := by
  obtain ⟨d, z, ne, ob, mA, n, r, q⟩ := (show ObjOk P w H h a (.ins C dx fs) from hok a _ e)
  exact ⟨mA, ⟨ob, n, ne⟩, r, q, z, d⟩
end
structure Cls (K : PySem.W.Frag) (C : Addr) : Prop where
  pg : PySem.W.plainGet K C Str.empty = true
  hd : PySem.W.hasDictIn K C = true
  po : PySem.W.plainOver K C = true
  sa : PySem.W.findIn K (.ref C) "__setattr__" = some (some (.builtin "object.__setattr__"))
theorem Cls.get {K : PySem.W.Frag} {C : Addr} (c : Cls K C) (f : Str) : PySem.W.plainGet K C f = true := c.pg
section
variable {X : Cx} {pins : List (Addr × Obj)} {σ : St} {H : Hp} {s : Shared} {a C dx : Addr} {fs : List (Str × V)} {f : Str} {v : V} {A : Around} {E : Value → Shared → Prop}
theorem Inv.made (I : Inv X pins σ H s) : Inv X pins σ (upd (upd H s.heap.objs.size (.own (s.heap.objs.size + 1))) (s.heap.objs.size + 1) (.ins C s.heap.objs.size []))
    { s with heap := (s.heap.push PySem.W.emptyDict).push (PySem.W.instObj C s.heap.objs.size) } := by
  have e1 : (s.heap.push PySem.W.emptyDict).get? s.heap.objs.size = some PySem.W.emptyDict := Heap.get?_push_size s.heap rfl
  have e2 : ((s.heap.push PySem.W.emptyDict).push (PySem.W.instObj C s.heap.objs.size)).get? (s.heap.objs.size + 1) = some (PySem.W.instObj C s.heap.objs.size) := by
    have := Heap.get?_push_size (s.heap.push PySem.W.emptyDict) (o := PySem.W.instObj C s.heap.objs.size) rfl
    rwa [Heap.size_push] at this
  have e3 : (s.heap.push PySem.W.emptyDict).Ns s.heap.objs.size (fun _ => none) := ⟨PySem.W.emptyDict, #[], _, e1, rfl, (fun e he => absurd he (by simp)), fun _ => rfl⟩
  have I1 := I.laid (a := s.heap.objs.size) (o := .own (s.heap.objs.size + 1)) (h' := s.heap.push PySem.W.emptyDict) (t' := s.toks) (fun b u q => Heap.get?_push_of_some _ q) (Nat.le_refl _) ⟨_, e1⟩
  refine I1.laid (a := s.heap.objs.size + 1) (o := .ins C s.heap.objs.size []) (t' := s.toks) (fun b u q => Heap.get?_push_of_some _ q) (Nat.le_of_eq (Heap.size_push _ _)) ?_
  have ne : s.heap.objs.size ≠ s.heap.objs.size + 1 := Nat.ne_of_lt (Nat.lt_succ_self _)
  refine ⟨by rw [upd_ne ne, upd_same], Nat.zero_le _, ne, e2, fun _ => none, (Heap.Ns1.of_empty e3).at fun o q => Heap.get?_push_of_some _ q, fun _ => True.intro, fun y hy => absurd rfl hy⟩
end
end L2
namespace L2
open PySem PySem.Spec PyProof.Rows
structure Room (k : Nat) (A : Around) : Prop where
  hd : A.handled = none
  dp : A.depth + 3 * k + 5 < recursionLimit
  un : A.units + 16 * k + 200 < cLine
  gd : A.guards = some []
theorem Room.mono {j k : Nat} {A : Around} (r : Room k A) (h : j ≤ k) : Room j A := ⟨r.hd, by have := r.dp; omega, by have := r.un; omega, r.gd⟩
theorem Room.deeper {k : Nat} {A : Around} (r : Room (k + 1) A) (env : Env) : Room k (A.deeper env) :=
  ⟨r.hd, by have := r.dp; show A.depth + 1 + 3 * k + 5 < _; omega, by have := r.un; show A.units + 3 + 16 * k + 200 < _; omega, by first | exact r.gd | simpa [Around.deeper, Around.under, Code.guard] using r.gd⟩
theorem Room.in1 {k : Nat} {A : Around} (r : Room (k + 1) A) : Room k A.in1 :=
  ⟨r.hd, by have := r.dp; show A.depth + 3 * k + 5 < _; omega, by have := r.un; show A.units + 1 + 16 * k + 200 < _; omega, r.gd⟩
theorem Room.depth {k : Nat} {A : Around} (r : Room k A) : A.depth < recursionLimit := by have := r.dp; omega
theorem Room.units {k : Nat} {A : Around} (r : Room k A) : A.units + 64 < cLine := by have := r.un; omega
def tNil : TA := fun _ H Q => Q [] H
def tCons (ta : TE) (tr : TA) : TA := fun σ H Q => ta σ H fun x H1 => tr σ H1 fun xs H2 => Q (x :: xs) H2
section
variable {X : Cx} {e : Expr} {es : List Expr} {te : TE} {t : TA} {pos : Pos}
theorem pa_nil : PA X [] tNil := fun _ _ _ _ H Q I h => Calls.spliced_nil ⟨[], H, I, .nil, h⟩
theorem pa_cons (ha : PE X e te) (hr : PA X es t) (hs : starEach (e :: es) X.env = (false, eval e X.env) :: starEach es X.env := by rfl) : PA X (e :: es) (tCons te t) := by
  intro pos pins s σ H Q I h
  rw [hs]
  show wpAny _ _ (spliced ((false, eval e X.env) :: backTo pos (starEach es X.env))) _ _ s
  refine Calls.spliced_cons (thn (ha pins s σ H _ I h) fun u s1 ⟨x, H1, I1, r1, q1⟩ => ?_)
  exact thn (hr pos pins s1 σ H1 _ I1 q1) fun us s2 ⟨xs, H2, I2, r2, q2⟩ => ⟨x :: xs, H2, I2, .cons r1 r2, q2⟩
def tTup (t : TA) : TE := fun σ H Q => t σ H fun xs H1 => xs.length ≤ sizeLine ∧ ∀ p, H1 p = none → Q (.ref p) (upd H1 p (.tup xs))
def tLst (t : TA) : TE := fun σ H Q => t σ H fun xs H1 => xs.length ≤ sizeLine ∧ ∀ p, H1 p = none → Q (.ref p) (upd H1 p (.lst xs))
theorem pe_tup {x1} (h : PA X es t) : PE X (.Tuple es x1 pos) (tTup t) := by
  intro pins s σ H Q I hq
  refine wpAny_Tuple_spliced (thn (h pos pins s σ H _ I hq) fun us s1 ⟨xs, H1, I1, r, z, q⟩ => ⟨by rw [← r.length]; exact z, ?_⟩)
  have hf : H1 s1.heap.objs.size = none := I1.hok.fresh (Nat.le_refl _)
  refine ⟨.ref s1.heap.objs.size, upd H1 s1.heap.objs.size (.tup xs), I1.laid (t' := s1.toks) (fun b u e => Heap.get?_push_of_some _ e) (Nat.le_refl _) ?_, rfl, q _ hf⟩
  exact ⟨z, us, r, ⟨_, Heap.get?_push_size _ rfl, rfl, _, rfl, rfl⟩⟩
theorem pe_lst (h : PA X es t) : PE X (.List es pos) (tLst t) := by
  intro pins s σ H Q I hq
  refine wpAny_List_spliced (thn (h pos pins s σ H _ I hq) fun us s1 ⟨xs, H1, I1, r, z, q⟩ => ⟨by rw [← r.length]; exact z, ?_⟩)
  have hf : H1 s1.heap.objs.size = none := I1.hok.fresh (Nat.le_refl _)
  refine ⟨.ref s1.heap.objs.size, upd H1 s1.heap.objs.size (.lst xs), I1.laid (t' := s1.toks) (fun b u e => Heap.get?_push_of_some _ e) (Nat.le_refl _) ?_, rfl, q _ hf⟩
  exact ⟨z, us, 0, r, Heap.get?_push_size _ rfl⟩
end
abbrev Sp := List V → Hp → VK → XK → Prop
abbrev CXT := List Env → Hp → Shared → XK → Value → Shared → Prop
structure Env0 (P : Program) (w : World) (K : PySem.W.Frag) (mg : Str → Option Value) (base : Heap) (A : Around) (outer : List Env) (s : Shared) (H : Hp) : Prop where
  frames : A.frames = some outer
  mod : Mod K mg base
  bs : ∀ b o, base.get? b = some o → s.heap.get? b = some o ∧ H b = none
  bsz : base.objs.size ≤ s.heap.objs.size
  funs : s.heap.FunFrames base outer
  frf : ∀ b ∈ frs outer, H b = none
  hok : HOk P w H s.heap
  bare : AllBare s.gens
def CE (outer : List Env) (P : Program) (w : World) (H : Hp) (s : Shared) (Q : VK) (u : Value) (s' : Shared) : Prop :=
  ∃ v H', s'.os = s.os ∧ AllBare s'.gens ∧ Un (frs outer) [] H H' s.heap s'.heap ∧ HOk P w H' s'.heap ∧ RelV v u ∧ Q v H'
def CR (CX : CXT) (outer : List Env) (P : Program) (w : World) (H : Hp) (s : Shared) (Q : VK) (E : XK) (r : Result) (s' : Shared) : Prop :=
  match r with
  | .ok (.ret u) => CE outer P w H s Q u s'
  | .ok _ => False
  | .error e => CX outer H s E e s'
structure FnOk (P : Program) (w : World) (K : PySem.W.Frag) (mg : Str → Option Value) (base : Heap) (CX : CXT) (k : Nat) (f : Addr) (fd : FuncData) (ps : List Str) (sp : Sp) : Prop where
  len : ∀ vs H Q E, sp vs H Q E → vs.length = ps.length
  run : ∀ (A : Around) (outer : List Env) (s : Shared) (H : Hp) (args : Args) (us : List Value) (vs : List V) (Q : VK) (E : XK), Room k A → Env0 P w K mg base A outer s H → BindsTo s fd args (ps.zip us) → Vals vs us → sp vs H Q E →
    codeAny (model P w) A (.call (.ref f) args) (CR CX outer P w H s Q E) s
theorem FnOk.mono {P : Program} {w : World} {K : PySem.W.Frag} {mg : Str → Option Value} {base : Heap} {CX : CXT} {j k : Nat} {f : Addr} {fd : FuncData} {ps : List Str} {sp : Sp} (F : FnOk P w K mg base CX j f fd ps sp) (h : j ≤ k) :
    FnOk P w K mg base CX k f fd ps sp := ⟨F.len, fun A outer s H args us vs Q E hr => F.run A outer s H args us vs Q E (hr.mono h)⟩
theorem FnOk.imp {P : Program} {w : World} {K : PySem.W.Frag} {mg : Str → Option Value} {base : Heap} {CX : CXT} {k : Nat} {f : Addr} {fd : FuncData} {ps : List Str} {sp sp' : Sp} (F : FnOk P w K mg base CX k f fd ps sp)
    (h : ∀ vs H Q E, sp' vs H Q E → sp vs H Q E) : FnOk P w K mg base CX k f fd ps sp' :=
  ⟨fun vs H Q E q => F.len vs H Q E (h _ _ _ _ q), fun A outer s H args us vs Q E hr he hb hv hs => F.run A outer s H args us vs Q E hr he hb hv (h _ _ _ _ hs)⟩
theorem Env0.in1 {P : Program} {w : World} {K : PySem.W.Frag} {mg : Str → Option Value} {base : Heap} {A : Around} {outer : List Env} {s : Shared} {H : Hp} (e : Env0 P w K mg base A outer s H) :
    Env0 P w K mg base A.in1 outer s H := ⟨e.frames, e.mod, e.bs, e.bsz, e.funs, e.frf, e.hok, e.bare⟩
section
variable {X : Cx} {pins : List (Addr × Obj)} {σ : St} {H : Hp} {s s' : Shared}
theorem Inv.env0 (I : Inv X pins σ H s) : Env0 X.prog X.w X.K X.mg X.base X.A X.stack s H :=
  ⟨I.ok.frames, I.ok.mod, I.bs, Nat.le_trans I.ok.bsz I.sz, I.stack, I.stkFree, I.hok, I.bare⟩
theorem Inv.after {Q : VK} {u : Value} (I : Inv X pins σ H s) (h : CE X.stack X.prog X.w H s Q u s') : EP X pins σ Q u s' := by
  obtain ⟨v, H', os, bare, un, hok, r, q⟩ := h
  obtain ⟨hh, g, d, t, os'⟩ := s'
  obtain rfl : os' = s.os := os
  exact ⟨v, H', I.call (h' := hh) (g' := g) (d' := d) (t' := t) (ch := []) un hok bare (fun b z => absurd z (by simp)), r, q⟩
end
def tCall (sp : Sp) (dvs : List V) (E : XK) (t : TA) : TE := fun σ H Q => t σ H fun vs H1 => sp (vs ++ dvs) H1 Q E
def Binds (K : PySem.W.Frag) (fd : FuncData) (ps : List Str) (ds : List Value) : Prop :=
  ∀ (s : Shared) (us : List Value), K.In s.heap → (us ++ ds).length = ps.length → BindsTo s fd ⟨us, []⟩ (ps.zip (us ++ ds))
theorem Binds.all {K : PySem.W.Frag} {fd : FuncData} {ps : List Str} (h : ∀ us : List Value, us.length = ps.length → bindArgs fd ⟨us, []⟩ = pure (ps.zip us)) : Binds K fd ps [] := fun s us _ hl => by
  rw [List.append_nil] at hl ⊢
  exact .of_eq (h us hl)
def Passes (CX : CXT) (X : Cx) (E : XK) : Prop := ∀ (pins : List (Addr × Obj)) (σ : St) (H : Hp) (s : Shared) (e : Value) (s' : Shared), Inv X pins σ H s → CX X.stack H s E e s' → X.xe e s'
section
variable {X : Cx} {CX : CXT} {k : Nat} {f C : Addr} {fd : FuncData} {ps : List Str} {sp : Sp} {dvs : List V} {ds : List Value} {E : XK} {x m : Str} {p pos apos : Pos} {e o : Expr} {es : List Expr} {ta : TE} {t : TA}
theorem run_fn {pins : List (Addr × Obj)} {σ : St} {H : Hp} {s : Shared} {Q : VK} {us : List Value} {vs : List V} (F : FnOk X.prog X.w X.K X.mg X.base CX k f fd ps sp) (hr : Room k X.A) (hb : Binds X.K fd ps ds) (hd : Vals dvs ds) (hx : Passes CX X E)
    (I : Inv X pins σ H s) (r : Vals vs us) (h : sp (vs ++ dvs) H Q E) : wpAny (model X.prog X.w) X.A (call (.ref f) us) (EP X pins σ Q) X.xe s := by
  have r2 : Vals (vs ++ dvs) (us ++ ds) := r.append hd
  have hl : (us ++ ds).length = ps.length := by rw [← r2.length]; exact F.len _ _ _ _ h
  refine wpAny_call (codeAny_mono (F.run X.A X.stack s H ⟨us, []⟩ (us ++ ds) (vs ++ dvs) Q E hr I.env0 (hb s us I.kIn hl) r2 h) fun r s' hq => ?_)
  cases r with
  | error e => exact hx pins σ H s e s' I hq
  | ok fl =>
    cases fl with
    | ret u => exact I.after hq
    | next => exact False.elim hq
    | brk => exact False.elim hq
    | cont => exact False.elim hq
theorem pe_call (F : FnOk X.prog X.w X.K X.mg X.base CX k f fd ps sp) (hr : Room k X.A) (hg : Gl X x) (hm : X.mg x = some (.ref f)) (hk : PySem.W.keepIn X.K (.ref f) = true) (hb : Binds X.K fd ps ds) (hd : Vals dvs ds) (hx : Passes CX X E)
    (ha : PA X (e :: es) t) (hdb : (x == ("__debug__" : Str)) = false := by decide) (he : starEach (e :: es) X.env = (false, eval e X.env) :: starEach es X.env := by rfl) (hpl : (backTo pos (starEach es X.env)).any (·.1) = false := by rfl) :
    PE X (.Call (.Name x p) (e :: es) [] pos) (tCall sp dvs E t) := by
  intro pins s σ H Q I h
  refine wpAny_Call_Name_kw (ld_glob I hg hm ?_ hdb)
  refine PySem.W.callWith_K (h₀ := X.base) I.ok.mod.kin hk (thn (ha pos pins s σ H _ I h) fun us s1 ⟨vs, H1, I1, r, q⟩ => ⟨I1.kIn, ?_⟩) he hpl
  exact run_fn F hr hb hd hx I1 r q
end
structure FnScope (N P : List Str) (sc : Scope) : Prop where
  kind : sc.kind = .function
  co : sc.isCoroutine = false
  gen : sc.isGenerator = false
  nd : N.Nodup
  pre : N.take P.length = P
  par : ∀ x ∈ P, sc.names.lookup x = some .local ∨ sc.names.lookup x = some .cell
  nofree : ∀ y ∈ sc.names, y.2 ≠ .free
theorem bindL_out {kindOf : Str → Option NameKind} {x : Str} : ∀ {binds : List (Str × Value)} {m : Str → Option Value}, (∀ v, (x, v) ∉ binds) → bindL kindOf binds m x = m x
  | [], _, _ => rfl
  | (n, v) :: r, m, h => by
    unfold bindL
    rw [bindL_out fun w hw => h w (List.mem_cons_of_mem _ hw)]
    split
    · have : x ≠ n := by rintro rfl; exact h v List.mem_cons_self
      simp [this]
    · rfl
theorem bindC_out {kindOf : Str → Option NameKind} {x : Str} : ∀ {binds : List (Str × Value)} {m : Str → Option Value}, (∀ v, (x, v) ∉ binds) → bindC kindOf binds m x = m x
  | [], _, _ => rfl
  | (n, v) :: r, m, h => by
    unfold bindC
    rw [bindC_out fun w hw => h w (List.mem_cons_of_mem _ hw)]
    split
    · rfl
    · have : x ≠ n := by rintro rfl; exact h v List.mem_cons_self
      simp [this]
theorem bindL_get {kindOf : Str → Option NameKind} {x : Str} {v : Value} : ∀ {P : List Str} {vs : List Value} {i : Nat} {m : Str → Option Value}, P.Nodup → P[i]? = some x → vs[i]? = some v → kindOf x = some .local →
    bindL kindOf (P.zip vs) m x = some v
  | [], _, _, _, _, h, _, _ => by simp at h
  | _ :: _, [], _, _, _, _, h, _ => by simp at h
  | p :: P, w :: vs, 0, m, nd, h1, h2, hk => by
    simp at h1 h2; subst h1; subst h2
    show bindL kindOf ((p, w) :: P.zip vs) m p = _
    unfold bindL
    rw [bindL_out fun v hv => (List.nodup_cons.mp nd).1 (List.of_mem_zip hv).1, if_pos hk]
    simp
  | p :: P, w :: vs, i + 1, m, nd, h1, h2, hk => by
    show bindL kindOf ((p, w) :: P.zip vs) m x = _
    unfold bindL
    exact bindL_get (i := i) (List.nodup_cons.mp nd).2 (by simpa using h1) (by simpa using h2) hk
theorem bindC_get {kindOf : Str → Option NameKind} {x : Str} {v : Value} : ∀ {P : List Str} {vs : List Value} {i : Nat} {m : Str → Option Value}, P.Nodup → P[i]? = some x → vs[i]? = some v → kindOf x ≠ some .local →
    bindC kindOf (P.zip vs) m x = some v
  | [], _, _, _, _, h, _, _ => by simp at h
  | _ :: _, [], _, _, _, _, h, _ => by simp at h
  | p :: P, w :: vs, 0, m, nd, h1, h2, hk => by
    simp at h1 h2; subst h1; subst h2
    show bindC kindOf ((p, w) :: P.zip vs) m p = _
    unfold bindC
    rw [bindC_out fun v hv => (List.nodup_cons.mp nd).1 (List.of_mem_zip hv).1, if_neg hk]
    simp
  | p :: P, w :: vs, i + 1, m, nd, h1, h2, hk => by
    show bindC kindOf ((p, w) :: P.zip vs) m x = _
    unfold bindC
    exact bindC_get (i := i) (List.nodup_cons.mp nd).2 (by simpa using h1) (by simpa using h2) hk
def start (N : List Str) (vs : List V) : St := vs.map some ++ List.replicate (N.length - vs.length) none
def cxOf (CX : CXT) (P : Program) (w : World) (K : PySem.W.Frag) (mg : Str → Option Value) (base : Heap) (N : List Str) (qual : Str) (scope : Scope) (f : Addr) (cd : Value) (A : Around) (outer : List Env) (s : Shared) (H : Hp) (E : XK) : Cx where
  prog := P
  w := w
  K := K
  mg := mg
  base := base
  A := A.deeper (envOfC qual scope s.heap.objs.size f cd)
  N := N
  s_0 := s
  H_0 := H
  env := envOfC qual scope s.heap.objs.size f cd
  outer := outer
  stack := envOfC qual scope s.heap.objs.size f cd :: outer
  ex := []
  calm := true
  fn := fun _ => true
  pn := []
  xe := fun e s' => wpAny (model P w) (A.deeper (envOfC qual scope s.heap.objs.size f cd)) (leaving (envOfC qual scope s.heap.objs.size f cd) e) (fun _ s'' => CX outer H s E e s'') (fun e' s'' => CX outer H s E e' s'') s'
theorem cell_has {sc : Scope} {n : Nat} {x : Str} (h : sc.names.lookup x = some .cell) : ∃ c, (cellsFrom n sc.names []).lookup x = some c := by
  have q := PySem.W.cellsFrom_some sc.names n [] (.inl h)
  exact Option.isSome_iff_exists.mp q
theorem inv_start {CX : CXT} {P : Program} {w : World} {K : PySem.W.Frag} {mg : Str → Option Value} {base : Heap} {N ps : List Str} {qual : Str} {scope : Scope} {f : Addr} {cd : Value} {A : Around} {outer : List Env} {s s1 : Shared} {H : Hp} {E : XK} {us : List Value} {vs : List V}
    (S : FnScope N ps scope) (hd : A.handled = none) (e0 : Env0 P w K mg base A outer s H) (hl : vs.length = ps.length) (r : Vals vs us)
    (x : InCallC s s.heap.objs.size (bindL (envOfC qual scope s.heap.objs.size f cd).kindOf (ps.zip us) fun _ => none) (cellsFrom (s.heap.objs.size + 1) scope.names []) (bindC (envOfC qual scope s.heap.objs.size f cd).kindOf (ps.zip us) fun _ => none) s1) :
    Inv (cxOf CX P w K mg base N qual scope f cd A outer s H E) [] (start N vs) H s1 := by
  have hpl : ps.length ≤ N.length := by have := congrArg List.length S.pre; rw [List.length_take] at this; omega
  obtain ⟨h1, tk, rfl, hk⟩ := x.done
  have noA : ∀ b : Addr, b ∉ (cxOf CX P w K mg base N qual scope f cd A outer s H E).ex := fun b z => absurd (show b ∈ ([] : List Addr) from z) (by simp)
  refine ⟨⟨e0.mod, S.kind, rfl, rfl, Nat.le_refl _, fun y z c h1 h2 => ?_, fun y hy => ?_, fun y c _ h => ?_, fun _ => hd, Around.frames_deeper e0.frames, .inr ⟨rfl, rfl⟩, fun b z => absurd z (noA b), e0.bs, e0.bsz, fun b _ _ => noA b, fun b z => absurd z (noA b), e0.funs, e0.frf⟩,
    rfl, e0.bare, Un.kept hk, ⟨_, x.toInCall.ns, fun i y v h1 h2 h3 => ?_⟩, fun y c h => ⟨_, x.cell y c h⟩, e0.hok.fresh (Nat.le_refl _), fun y c h => ?_, fun p hp => absurd (show p ∈ ([] : List (Addr × Obj)) from hp) (by simp), e0.hok.kept hk, ?_⟩
  · exact name_of_addr x.apart (PySem.mem_of_lookup h1) (PySem.mem_of_lookup h2)
  · have hy : scope.names.lookup y = some .cell ∨ scope.names.lookup y = some .free := hy
    rcases hy with hy | hy
    · exact cell_has hy
    · exact absurd rfl (S.nofree _ (PySem.mem_of_lookup hy))
  · exact Nat.le_of_lt (x.above y c (PySem.mem_of_lookup h))
  · have hi : i < vs.length := by
      unfold start at h2
      by_cases hi : i < vs.length
      · exact hi
      · rw [List.getElem?_append_right (by simpa using hi)] at h2
        rw [List.getElem?_replicate] at h2
        split at h2 <;> cases h2
    have ha : vs[i]? = some v := by
      unfold start at h2
      rw [List.getElem?_append_left (by simpa using hi), List.getElem?_map] at h2
      cases e : vs[i]? with
      | none => rw [e] at h2; cases h2
      | some a => rw [e] at h2; cases h2; rfl
    obtain ⟨u, hu, rv⟩ := r.get ha
    have hp : ps[i]? = some y := by
      rw [← S.pre, List.getElem?_take_of_lt (by omega)]; exact h1
    have ndP : ps.Nodup := by rw [← S.pre]; exact S.nd.sublist (List.take_sublist _ _)
    refine ⟨u, rv, ?_⟩
    rcases S.par y (List.mem_of_getElem? hp) with k | k
    · exact .inl ⟨k, bindL_get ndP hp hu k⟩
    · obtain ⟨c, e⟩ := cell_has (n := s.heap.objs.size + 1) k
      refine .inr ⟨.inl k, c, e, ?_⟩
      have q := x.cell y c e
      rw [bindC_get ndP hp hu (by show scope.names.lookup y ≠ _; rw [k]; decide)] at q
      exact q
  · exact e0.hok.fresh (Nat.le_of_lt (x.above y c (PySem.mem_of_lookup h)))
  · unfold start
    show _ = N.length
    rw [List.length_append, List.length_map, List.length_replicate]
    omega
theorem fn_of {CX : CXT} {P : Program} {w : World} {K : PySem.W.Frag} {mg : Str → Option Value} {base : Heap} {k : Nat} {f : Addr} {name qual : Str} {params : Arguments} {body : List Stmt} {scope : Scope} {dV kV doc pm cdv ct oc : Value} {an od : Option Addr}
    {osl : Array (Option Value)} {N ps : List Str} {sp : Sp} (lk : K.lookup f = some ⟨oc, od, .func (PySem.W.fnOf name qual params body scope dV kV doc pm an cdv ct), osl⟩) (hcd : PySem.W.codeIn K cdv qual = true) (S : FnScope N ps scope)
    (len : ∀ vs H Q E, sp vs H Q E → vs.length = ps.length)
    (hbody : ∀ (A : Around) (outer : List Env) (s : Shared) (H : Hp) (vs : List V) (Q : VK) (E : XK), Room k (A.deeper (envOfC qual scope s.heap.objs.size f cdv)) → sp vs H Q E →
      ∃ t, PSs (cxOf CX P w K mg base N qual scope f cdv A outer s H E) body t ∧ t { nx := fun _ H' => Q .non H', rt := Q } (start N vs) H) :
    FnOk P w K mg base CX (k + 1) f (PySem.W.fnOf name qual params body scope dV kV doc pm an cdv ct) ps sp := by
  refine ⟨len, fun A outer s H args us vs Q E hr e0 hb r hsp => ?_⟩
  have hl := len _ _ _ _ hsp
  have KX : K.In s.heap := e0.mod.kin.keeps fun b o e => (e0.bs b o e).1
  have lim : s.heap.NoLimit := e0.mod.nolimit.keeps fun b o e => (e0.bs b o e).1
  have hkind : ∀ y ∈ ps.zip us, scope.names.lookup y.1 = some .local ∨ (scope.names.lookup y.1 = some .cell ∧ ((cellsFrom (s.heap.objs.size + 1) scope.names []).lookup y.1).isSome = true) := fun ⟨n, v⟩ hy => by
    rcases S.par n (List.of_mem_zip hy).1 with q | q
    · exact .inl q
    · exact .inr ⟨q, PySem.W.cellsFrom_some _ _ _ (.inl q)⟩
  refine codeAny_call_function hr.depth (KX _ _ lk) rfl S.co S.gen rfl (PySem.W.codeRec_of KX hcd) (hb _ _ _ _ ?_)
  refine wpAny_newFunctionEnv_cells S.kind hkind fun env he s1 x => ?_
  subst he
  refine ⟨lim.keeps x.toInCall.keep, codeAny_func ?_⟩
  obtain ⟨t, ht, hq⟩ := hbody A outer s H vs Q E (hr.deeper _) hsp
  have I : Inv (cxOf CX P w K mg base N qual scope f cdv A outer s H E) [] (start N vs) H s1 := inv_start S hr.hd e0 hl r x
  refine wpAny_mono (ht [] s1 (start N vs) H _ I hq) (fun fl s' hs => ?_) fun e s' hs => hs
  have fin : ∀ {σ' : St} {H' : Hp} {v : V} {u : Value}, Inv (cxOf CX P w K mg base N qual scope f cdv A outer s H E) [] σ' H' s' → RelV v u → Q v H' → CE outer P w H s Q u s' :=
    fun {σ' H' v u} J rv q => ⟨v, H', J.os, J.bare, J.base, J.hok, rv, q⟩
  cases fl with
  | ret u =>
    obtain ⟨v, σ', H', J, rv, q⟩ := hs
    exact fin J rv q
  | next =>
    obtain ⟨σ', H', J, q⟩ := hs
    exact fin (v := V.non) (u := Value.none) J rfl q
  | brk =>
    obtain ⟨_, _, _, q⟩ := hs
    exact False.elim q
  | cont =>
    obtain ⟨_, _, _, q⟩ := hs
    exact False.elim q
end L2
namespace L2
open PySem PySem.Spec PyProof.Rows
section
variable {X : Cx} {x : Str} {p pos : Pos} {e : Expr} {es : List Expr} {t : TA} {id T : String} {r : List V → Hp → VK → Prop}
def tCB (r : List V → Hp → VK → Prop) (t : TA) : TE := fun σ H Q => t σ H fun vs H1 => r vs H1 Q
theorem pe_callB (hc : CallR X (.builtin id) r) (hg : Gl X x) (hm : X.mg x = none) (hv : bootBuiltins x = some (.builtin id)) (ha : PA X (e :: es) t) (hn : x ≠ "__name__" := by decide) (hdb : (x == ("__debug__" : Str)) = false := by decide)
    (he : starEach (e :: es) X.env = (false, eval e X.env) :: starEach es X.env := by rfl) (hpl : (backTo pos (starEach es X.env)).any (·.1) = false := by rfl) : PE X (.Call (.Name x p) (e :: es) [] pos) (tCB r t) := by
  intro pins s σ H Q I h
  refine wpAny_Call_Name_kw (ld_blt I hg hm hv ?_ hn hdb)
  exact PyProof.Rows.callWith_builtin1 (thn (ha pos pins s σ H _ I h) fun us s1 ⟨vs, H1, I1, r1, q1⟩ => hc pins s1 σ H1 vs us Q I1 r1 q1) he hpl
theorem pe_callTy (hc : CallR X (.type T) r) (hg : Gl X x) (hm : X.mg x = none) (hv : bootBuiltins x = some (.type T)) (ha : PA X (e :: es) t) (hn : x ≠ "__name__" := by decide) (hdb : (x == ("__debug__" : Str)) = false := by decide)
    (he : starEach (e :: es) X.env = (false, eval e X.env) :: starEach es X.env := by rfl) (hpl : (backTo pos (starEach es X.env)).any (·.1) = false := by rfl) : PE X (.Call (.Name x p) (e :: es) [] pos) (tCB r t) := by
  intro pins s σ H Q I h
  refine wpAny_Call_Name_kw (ld_blt I hg hm hv ?_ hn hdb)
  exact PyProof.Rows.callWith_type1 (thn (ha pos pins s σ H _ I h) fun us s1 ⟨vs, H1, I1, r1, q1⟩ => hc pins s1 σ H1 vs us Q I1 r1 q1) he hpl
end
end L2
namespace HT
open PySem PyProof.Rows
def lexLt : List Int → List Int → Bool
  | [], [] => false
  | [], _ :: _ => true
  | _ :: _, [] => false
  | x :: xs, y :: ys => if x = y then lexLt xs ys else decide (x < y)
section
open PySem.SeqAt
open PySem.AutoSeq1 (wpAny_loadPart')
open PySem.MeetsSeq PySem.MeetsSeq2 PySem.MeetsSeq3
end
section
variable {prog : Program} {w : World} {A : Around} {E : Value → Shared → Prop} {s : Shared}
def sIx (n d : Nat) : Option Int → Nat
  | none => d
  | some v => if v < 0 then (v + (n : Int)).toNat else min v.toNat n
theorem sIx_none (n d : Nat) : sIx n d none = d := rfl
theorem sIx_le (n d : Nat) (hd : d ≤ n) (o : Option Int) : sIx n d o ≤ n := by
  cases o with
  | none => exact hd
  | some v =>
    show (if v < 0 then (v + (n : Int)).toNat else min v.toNat n) ≤ n
    by_cases hv : v < 0
    · rw [if_pos hv]; omega
    · rw [if_neg hv]; exact Nat.min_le_right _ _
theorem clip_eq (v : Int) (n d : Nat) : (if v < 0 then max (v + (n : Int)) 0 else min v (n : Int)) = ((sIx n d (some v) : Nat) : Int) := by
  show (if v < 0 then max (v + (n : Int)) 0 else min v (n : Int)) = (((if v < 0 then (v + (n : Int)).toNat else min v.toNat n) : Nat) : Int)
  by_cases hv : v < 0
  · simp only [if_pos hv]; omega
  · simp only [if_neg hv]; omega
theorem adjust_gen (lo hi : Option Int) (n : Nat) : Builtin.Slice.sliceAdjust lo hi 1 (n : Int) = (((sIx n 0 lo : Nat) : Int), ((sIx n n hi : Nat) : Int)) := by
  have h1 : ¬ ((1 : Int) < 0) := by omega
  unfold Builtin.Slice.sliceAdjust
  simp only [h1, if_false]
  refine Prod.ext ?_ ?_
  · cases lo with
    | none => rfl
    | some v => exact clip_eq v n 0
  · cases hi with
    | none => rfl
    | some v => exact clip_eq v n n
theorem places_gen (i j : Nat) : Builtin.Slice.slicePlaces (i : Int) (j : Int) 1 = j - i := by
  unfold Builtin.Slice.slicePlaces
  have h1 : (1 : Int) > 0 := by omega
  simp only [h1, if_true, Int.ediv_one]
  split <;> omega
theorem slicePart_ {v : Value} {o : Option Int} {Q : Option Int → Shared → Prop} (p : IsPart v o) (h : Q o s) : wpAny (model prog w) A (Builtin.Slice.slicePartIndex v) Q E s := by
  cases p with
  | none => exact slicePart_none h
  | int i t => exact slicePart_int h
theorem sliceApplied_gen {sl : Addr} {vl vu : Value} {lo hi : Option Int} {n : Nat} {Q : Int × Int × Nat → Shared → Prop} (hs : s.heap.IsSliceOf sl vl vu .none) (pl : IsPart vl lo) (pu : IsPart vu hi)
    (h : Q (((sIx n 0 lo : Nat) : Int), 1, sIx n n hi - sIx n 0 lo) s) : wpAny (model prog w) A (Builtin.Slice.sliceApplied (.ref sl) (pure (n : Int))) Q E s := by
  obtain ⟨os, hos, hcs, hds⟩ := id hs
  unfold Builtin.Slice.sliceApplied Builtin.Slice.sliceFields
  refine wpAny_bind (wpAny_bind (wpAny_field hos hds (x := vl) rfl (wpAny_bind (wpAny_field hos hds (x := vu) rfl (wpAny_bind (wpAny_field hos hds (x := .none) rfl (wpAny_pure ?_)))))))
  refine wpAny_bind (slicePart_none ?_)
  show wpAny _ _ (if ((1 : Int) == 0) = true then _ else _) _ _ s
  rw [if_neg (by decide)]
  refine wpAny_bind (slicePart_ pl (wpAny_bind (slicePart_ pu (wpAny_bind (wpAny_pure ?_)))))
  show wpAny _ _ (match Builtin.Slice.sliceAdjust lo hi 1 (n : Int) with | (lo, hi) => pure (lo, (1 : Int), Builtin.Slice.slicePlaces lo hi 1)) _ _ s
  rw [adjust_gen lo hi n]
  show wpAny _ _ (pure (((sIx n 0 lo : Nat) : Int), (1 : Int), Builtin.Slice.slicePlaces ((sIx n 0 lo : Nat) : Int) ((sIx n n hi : Nat) : Int) 1)) _ _ s
  rw [places_gen]
  exact wpAny_pure h
theorem pick_gen (xs : Array Value) (i k : Nat) : ((List.range k).filterMap fun (m : Nat) => xs[((i : Int) + (m : Int) * 1).toNat]?).toArray = ((xs.toList.drop i).take k).toArray := by
  have e : (fun (m : Nat) => xs[((i : Int) + (m : Int) * 1).toNat]?) = fun m => xs[i + m]? := by
    funext m
    have : ((i : Int) + (m : Int) * 1).toNat = i + m := by omega
    rw [this]
  rw [e]
  have := pick_run xs i k
  rw [List.filterMap_map] at this
  have e2 : ((fun x => xs[x]?) ∘ fun x => i + x) = fun m => xs[i + m]? := rfl
  rw [e2] at this
  rw [this]
theorem getItem_tuple_cut {t sl : Addr} {items : Array Value} {vl vu : Value} {lo hi : Option Int} {Q : Value → Shared → Prop} (ht : IsTup s.heap t items) (hs : s.heap.IsSliceOf sl vl vu .none) (pl : IsPart vl lo) (pu : IsPart vu hi)
    (hw : ¬ (sIx items.size 0 lo = 0 ∧ sIx items.size items.size hi = items.size))
    (h : Q (.ref s.heap.objs.size) { s with heap := s.heap.push { cls := .type "tuple", data := .seq ((items.toList.drop (sIx items.size 0 lo)).take (sIx items.size items.size hi - sIx items.size 0 lo)).toArray } })
    (hsz : items.size ≤ sizeLine) : wpAny (model prog w) A (getItem (.ref t) (.ref sl)) Q E s := by
  have htake : sizeOk (.seq ((items.toList.drop (sIx items.size 0 lo)).take (sIx items.size items.size hi - sIx items.size 0 lo)).toArray) := by
    show ((items.toList.drop (sIx items.size 0 lo)).take (sIx items.size items.size hi - sIx items.size 0 lo)).toArray.size ≤ sizeLine
    rw [List.size_toArray, List.length_take, List.length_drop, Array.length_toList]
    omega
  have hj : sIx items.size items.size hi ≤ items.size := sIx_le _ _ (Nat.le_refl _) hi
  obtain ⟨os, hos, hcs, hds⟩ := id hs
  have hTs : s.TypeIs (.ref sl) "slice" := ⟨os, hos, hcs⟩
  unfold getItem
  try with_reducible refine wpAny_holding ?_
  first | refine wpAny_bind (wpAny_pure ?_) | skip
  refine wpAny_bind (wpAny_sequenceKey ht.typeIs (by decide) ?_)
  refine wpAny_bind (wpAny_callSpecial?_slot (name := Str.ofString "__getitem__") ht.typeIs PyProof.Rows.slot_tuple_getitem
    (wpAny_call_entry PyProof.Rows.slot_tuple_getitem ht.typeIs entry_tuple_getitem ?_ (args_tuple_getitem _ _)))
  show wpAny _ _ (Builtin.Tuple.tupleItemsOf (.ref t) >>= _) _ _ s
  refine wpAny_bind (tupleItemsOf_ ht ?_)
  refine wpAny_bind (wpAny_typeOf hTs ?_)
  rw [if_pos (by decide)]
  refine wpAny_bind (sliceApplied_gen hs pl pu ?_)
  have hno : ¬ ((((sIx items.size 0 lo : Nat) : Int) == 0 && (1 : Int) == 1 && (sIx items.size items.size hi - sIx items.size 0 lo) == items.size) = true) := by
    intro q
    rw [Bool.and_eq_true, Bool.and_eq_true] at q
    have q1 : ((sIx items.size 0 lo : Nat) : Int) = 0 := eq_of_beq q.1.1
    have q2 : sIx items.size items.size hi - sIx items.size 0 lo = items.size := eq_of_beq q.2
    exact hw ⟨by omega, by omega⟩
  show wpAny _ _ (if (((sIx items.size 0 lo : Nat) : Int) == 0 && (1 : Int) == 1 && (sIx items.size items.size hi - sIx items.size 0 lo) == items.size) = true then _ else _) _ _ s
  rw [if_neg hno, pick_gen]
  first
    | exact wpAny_bind (m := Builtin.Tuple.tupleExact _) (wpAny_newObj_type (wpAny_pure ⟨_, rfl, wpAny_pure h⟩) htake)
    | exact wpAny_bind (m := Builtin.Tuple.tupleExact _) (wpAny_newObj_type (wpAny_bind (wpAny_pure (wpAny_pure ⟨_, rfl, wpAny_pure h⟩))) htake)
    | exact wpAny_bind (wpAny_bind (m := Builtin.Tuple.tupleExact _) (wpAny_newObj_type (wpAny_pure (wpAny_pure ⟨_, rfl, wpAny_pure h⟩)) htake))
    | exact wpAny_bind (wpAny_bind (m := Builtin.Tuple.tupleExact _) (wpAny_newObj_type (wpAny_pure ⟨_, rfl, wpAny_pure h⟩) htake))
end
end HT
namespace L2
open PySem PySem.Spec PyProof.Rows
abbrev TO := St → Hp → (Option Int → Hp → Prop) → Prop
def PO (X : Cx) (e : Option Expr) (t : TO) : Prop :=
  ∀ (pins : List (Addr × Obj)) (s : Shared) (σ : St) (H : Hp) (Q : Option Int → Hp → Prop), Inv X pins σ H s → t σ H Q →
    wpAny (model X.prog X.w) X.A (evalPart e X.env) (fun u s' => ∃ o H', Inv X pins σ H' s' ∧ IsPart u o ∧ Q o H') X.xe s
def tNoPart : TO := fun _ H Q => Q none H
def tPart (t : TE) : TO := fun σ H Q => t σ H fun x H1 => ∃ i, x = .int i ∧ Q (some i) H1
section
variable {X : Cx} {e : Expr} {te : TE} {lo hi : Option Expr} {tl th : TO} {pos p2 : Pos}
theorem po_none : PO X none tNoPart := by
  intro pins s σ H Q I h
  rw [evalPart_none]
  exact wpAny_pure ⟨none, H, I, .none, h⟩
theorem po_some (h : PE X e te) : PO X (some e) (tPart te) := by
  intro pins s σ H Q I hw
  rw [evalPart_some]
  refine thn (h pins s σ H _ I hw) fun u s1 ⟨x, H1, I1, r1, q1⟩ => ?_
  obtain ⟨i, rfl, q⟩ := q1
  obtain ⟨t, rfl⟩ := r1
  exact ⟨some i, H1, I1, .int i t, q⟩
def SlR (X : Cx) (r : V → Option Int → Option Int → Hp → VK → Prop) : Prop :=
  ∀ (pins : List (Addr × Obj)) (s : Shared) (σ : St) (H : Hp) (x : V) (v vl vu : Value) (lo hi : Option Int) (sl : Addr) (Q : VK), Inv X pins σ H s → RelV x v → s.heap.IsSliceOf sl vl vu .none → IsPart vl lo → IsPart vu hi → r x lo hi H Q →
    ∃ T id, typeLookup (.type T) "__getitem__" = pure (some (.builtin id)) ∧ s.TypeIs v T ∧ wpAny (model X.prog X.w) X.A (getItem v (.ref sl)) (EP X pins σ Q) X.xe s
theorem SlR.or {r r' : V → Option Int → Option Int → Hp → VK → Prop} (h : SlR X r) (h' : SlR X r') : SlR X (fun x lo hi H Q => r x lo hi H Q ∨ r' x lo hi H Q) := by
  intro pins s σ H x v vl vu lo hi sl Q I rx hs pl pu q
  rcases q with q | q
  · exact h pins s σ H x v vl vu lo hi sl Q I rx hs pl pu q
  · exact h' pins s σ H x v vl vu lo hi sl Q I rx hs pl pu q
def tSl (r : V → Option Int → Option Int → Hp → VK → Prop) (te : TE) (tl th : TO) : TE := fun σ H Q => te σ H fun x H1 => tl σ H1 fun l H2 => th σ H2 fun u H3 => r x l u H3 Q
theorem pe_slice {r : V → Option Int → Option Int → Hp → VK → Prop} (hr : SlR X r) (he : PE X e te) (hl : PO X lo tl) (hu : PO X hi th) : PE X (.Subscript e (.Slice lo hi none p2) pos) (tSl r te tl th) := by
  intro pins s σ H Q I h
  refine Subscript_ (thn (he pins s σ H _ I h) fun v s1 ⟨x, H1, I1, r1, q1⟩ => ?_)
  refine wpAny_Slice (thn (hl pins s1 σ H1 _ I1 q1) fun vl s2 ⟨l, H2, I2, pl, q2⟩ => thn (hu pins s2 σ H2 _ I2 q2) fun vu s3 ⟨u, H3, I3, pu, q3⟩ => ?_)
  rw [evalPart_none]
  refine wpAny_pure ?_
  have I4 : Inv X pins σ H3 { s3 with heap := s3.heap.push { cls := .type "slice", data := .fields #[vl, vu, .none] } } := I3.kept (t' := s3.toks) fun b ob q => Heap.get?_push_of_some _ q
  obtain ⟨T, id, hT, ht, hg⟩ := hr pins { s3 with heap := s3.heap.push { cls := .type "slice", data := .fields #[vl, vu, .none] } } σ H3 x v vl vu l u s3.heap.objs.size Q I4 r1 (Heap.IsSliceOf.new ..) pl pu q3
  show wpAny (model X.prog X.w) X.A (subscriptTail e (.Slice lo hi none p2) v (.ref s3.heap.objs.size)) (EP X pins σ Q) X.xe { s3 with heap := s3.heap.push { cls := .type "slice", data := .fields #[vl, vu, .none] } }
  exact tail_any (ops := [.ref s3.heap.objs.size, v]) ht hT hg (by with_unfolding_all rfl)
def cutV (xs : List V) (lo hi : Option Int) : List V := (xs.drop (HT.sIx xs.length 0 lo)).take (HT.sIx xs.length xs.length hi - HT.sIx xs.length 0 lo)
theorem cutV_length (xs : List V) (lo hi : Option Int) : (cutV xs lo hi).length ≤ xs.length := by
  unfold cutV
  rw [List.length_take, List.length_drop]
  omega
def rSlT (K : PySem.W.Frag) : V → Option Int → Option Int → Hp → VK → Prop := fun x lo hi H Q => ∃ a xs, x = .ref a ∧ SqT K H a xs ∧
  ¬ (HT.sIx xs.length 0 lo = 0 ∧ HT.sIx xs.length xs.length hi = xs.length) ∧ ∀ p, H p = none → Q (.ref p) (upd H p (.tup (cutV xs lo hi)))
theorem sl_tup : SlR X (rSlT X.K) := by
  intro pins s σ H x v vl vu lo hi sl Q I rx hs pl pu h
  obtain ⟨a, xs, rfl, hx, hw, q⟩ := h
  cases rx
  obtain ⟨its, r, ht, hz⟩ := I.tuple hx
  have hlen : its.toArray.size = xs.length := by rw [List.size_toArray]; exact r.length.symm
  refine ⟨"tuple", _, PyProof.Rows.slot_tuple_getitem.lookup, ht.typeIs, ?_⟩
  refine HT.getItem_tuple_cut ht hs pl pu (by rw [hlen]; exact hw) ?_ (by rw [hlen]; exact hz)
  rw [hlen]
  refine ⟨.ref s.heap.objs.size, _, I.laid (t' := s.toks) (o := .tup (cutV xs lo hi)) (fun b ob q => Heap.get?_push_of_some _ q) (Nat.le_refl _) ?_, rfl, q _ (I.hok.fresh (Nat.le_refl _))⟩
  exact ⟨Nat.le_trans (cutV_length xs lo hi) hz, _, (r.drop (HT.sIx xs.length 0 lo)).take (HT.sIx xs.length xs.length hi - HT.sIx xs.length 0 lo), TupD.new _ _⟩
end
end L2
namespace L2
open PySem PySem.Spec PyProof.Rows
def ixN (n : Nat) (i : Int) : Option Nat := if 0 ≤ i then (if i < n then some i.toNat else none) else if -(n : Int) ≤ i then some (i + n).toNat else none
def atI {α : Type} (xs : List α) (i : Int) : Option α := (ixN xs.length i).bind fun j => xs[j]?
theorem ixN_seq {n : Nat} {i : Int} {j : Nat} (h : ixN n i = some j) : seqIndex? i n = some j ∧ j < n ∧ -(n : Int) ≤ i ∧ i < n := by
  unfold ixN at h
  by_cases h0 : 0 ≤ i
  · rw [if_pos h0] at h
    by_cases h1 : i < n
    · rw [if_pos h1] at h
      have e : i.toNat = j := Option.some.inj h
      exact ⟨by rw [seqIndex_of h0 h1, e], by omega, by omega, h1⟩
    · rw [if_neg h1] at h; cases h
  · rw [if_neg h0] at h
    by_cases h1 : -(n : Int) ≤ i
    · rw [if_pos h1] at h
      have e : (i + n).toNat = j := Option.some.inj h
      exact ⟨by rw [seqIndex_neg (by omega) h1, e], by omega, h1, by omega⟩
    · rw [if_neg h1] at h; cases h
theorem atI_get {α : Type} {xs : List α} {i : Int} {v : α} (h : atI xs i = some v) : ∃ j, seqIndex? i xs.length = some j ∧ xs[j]? = some v ∧ j < xs.length ∧ -(xs.length : Int) ≤ i ∧ i < xs.length := by
  unfold atI at h
  cases e : ixN xs.length i with
  | none => rw [e] at h; cases h
  | some j =>
    rw [e] at h
    obtain ⟨h1, h2, h3, h4⟩ := ixN_seq e
    exact ⟨j, h1, h, h2, h3, h4⟩
def PlainIx (b : Expr) : Prop := ∀ o i, subscripted b false o i = operate [o, i] (getItem o i)
def IxR (X : Cx) (r : R2) : Prop :=
  ∀ (value slice : Expr) (pins : List (Addr × Obj)) (s : Shared) (σ : St) (H : Hp) (x y : V) (v u : Value) (Q : VK), Inv X pins σ H s → RelV x v → RelV y u → r x y H Q →
    subscripted slice false v u = operate [v, u] (getItem v u) → wpAny (model X.prog X.w) X.A (subscriptTail value slice v u) (EP X pins σ Q) X.xe s
def MtR (X : Cx) (id : String) (r : V → List V → Hp → VK → Prop) : Prop :=
  ∀ (pins : List (Addr × Obj)) (s : Shared) (σ : St) (H : Hp) (x : V) (xs : List V) (v : Value) (us : List Value) (Q : VK), Inv X pins σ H s → RelV x v → Vals xs us → r x xs H Q →
    wpAny (model X.prog X.w) X.A (call (.builtin id) (v :: us)) (EP X pins σ Q) X.xe s
section
variable {X : Cx} {a b : Expr} {ta tb : TE} {pos : Pos}
theorem IxR.or {r r' : R2} (h : IxR X r) (h' : IxR X r') : IxR X (fun x y H Q => r x y H Q ∨ r' x y H Q) := by
  intro value slice pins s σ H x y v u Q I rx ry q hs
  rcases q with q | q
  · exact h value slice pins s σ H x y v u Q I rx ry q hs
  · exact h' value slice pins s σ H x y v u Q I rx ry q hs
theorem MtR.or {id : String} {r r' : V → List V → Hp → VK → Prop} (h : MtR X id r) (h' : MtR X id r') : MtR X id (fun x xs H Q => r x xs H Q ∨ r' x xs H Q) := by
  intro pins s σ H x xs v us Q I rx rs q
  rcases q with q | q
  · exact h pins s σ H x xs v us Q I rx rs q
  · exact h' pins s σ H x xs v us Q I rx rs q
theorem pe_ix {r : R2} (hr : IxR X r) (ha : PE X a ta) (hb : PE X b tb) (hs : PlainIx b) : PE X (.Subscript a b pos) (tOp r ta tb) := by
  intro pins s σ H Q I h
  exact Subscript_ (binT ha hb I h fun v u s2 x y H2 I2 rx ry q => hr a b pins s2 σ H2 x y v u Q I2 rx ry q (hs _ _))
def rIxL (K : PySem.W.Frag) : R2 := fun x y H Q => ∃ p xs i v, x = .ref p ∧ y = .int i ∧ SqL K H p xs ∧ atI xs i = some v ∧ Q v H
def rIxT (K : PySem.W.Frag) : R2 := fun x y H Q => ∃ p xs i v, x = .ref p ∧ y = .int i ∧ SqT K H p xs ∧ atI xs i = some v ∧ Q v H
def rIxS : R2 := fun x y H Q => ∃ z i c, x = .str z ∧ y = .int i ∧ z.length ≤ sizeLine ∧ atI z.cps.toList i = some c ∧ Q (.str ⟨#[c]⟩) H
theorem ix_list : IxR X (rIxL X.K) := by
  intro value slice pins s σ H x y v u Q I rx ry h hs
  obtain ⟨p, xs, i, z, rfl, rfl, hq, he, q⟩ := h
  cases rx
  obtain ⟨t, rfl⟩ := ry
  obtain ⟨its, r, pl, hz⟩ := I.list hq
  obtain ⟨j, h1, h2, h3, h4, h5⟩ := atI_get he
  obtain ⟨w, ew, rw'⟩ := r.get h2
  have hl := r.length
  have hn := line63
  have fin : EP X pins σ Q w s := ⟨z, H, I, rw', q⟩
  by_cases h0 : 0 ≤ i
  · have hj : i.toNat = j := by
      rw [seqIndex_of h0 h5] at h1
      exact Option.some.inj h1
    exact item_listR pl.isList h0 (by omega) (by rw [hj]; simpa using ew) fin hs
  · have hj : (i + (its.toArray.size : Int)).toNat = j := by
      rw [seqIndex_neg (by omega) h4] at h1
      rw [List.size_toArray, ← hl]
      exact Option.some.inj h1
    exact subscriptTail_builtinR (x := w) pl.isList.typeIs slot_list_getitem.lookup
      (wpAny_getItem_list_neg (Q := fun r s' => r = w ∧ EP X pins σ Q r s') pl.isList (by omega) (by rw [List.size_toArray] <;> omega) (by omega) (by rw [hj]; simpa using ew) ⟨rfl, fin⟩) hs
theorem ix_tup : IxR X (rIxT X.K) := by
  intro value slice pins s σ H x y v u Q I rx ry h hs
  obtain ⟨p, xs, i, z, rfl, rfl, hq, he, q⟩ := h
  cases rx
  obtain ⟨t, rfl⟩ := ry
  obtain ⟨its, r, pl, hz⟩ := I.tuple hq
  obtain ⟨j, h1, h2, h3, h4, h5⟩ := atI_get he
  obtain ⟨w, ew, rw'⟩ := r.get h2
  have hl := r.length
  have hn := line63
  have fin : EP X pins σ Q w s := ⟨z, H, I, rw', q⟩
  exact subscriptTail_builtinR (x := w) pl.typeIs slot_tuple_getitem.lookup
    (getItem_tuple (j := j) (Q := fun r s' => r = w ∧ EP X pins σ Q r s') pl (by omega) (by omega) (by rw [List.size_toArray, ← hl]; exact h1) (by simpa using ew) ⟨rfl, fin⟩) hs
theorem ix_str : IxR X rIxS := by
  intro value slice pins s σ H x y v u Q I rx ry h hs
  obtain ⟨z, i, c, rfl, rfl, hz, he, q⟩ := h
  obtain ⟨t, rfl⟩ := rx
  obtain ⟨t', rfl⟩ := ry
  obtain ⟨j, h1, h2, h3, h4, h5⟩ := atI_get he
  have hl : z.cps.toList.length = z.length := by simp [Str.length]
  rw [hl] at h1 h4 h5
  have hn := line63
  exact tail_any (typeIs_str s z t) slot_str_getitem.lookup (getItem_str (c := c) (by
    have e1 : decide (i < -(2 ^ 63 : Int)) = false := decide_eq_false (by omega)
    have e2 : decide (i ≥ 2 ^ 63) = false := decide_eq_false (by omega)
    rw [e1, e2, Bool.or_false]) (by rw [h1]; simpa using h2) ⟨.str ⟨#[c]⟩, H, I.tok _, ⟨_, rfl⟩, q⟩) hs
def rIx (K : PySem.W.Frag) : R2 := fun x y H Q => rIxL K x y H Q ∨ rIxT K x y H Q ∨ rIxS x y H Q
theorem ix_seq : IxR X (rIx X.K) := ix_list.or (ix_tup.or ix_str)
theorem mapSeq_set (its : List Value) (n j : Nat) (u : Value) : Obj.mapSeq (·.setIfInBounds j u) { cls := .type "list", data := .seq its.toArray n } = { cls := .type "list", data := .seq (its.set j u).toArray n } := by
  simp [Obj.mapSeq]
theorem Inv.lst {pins : List (Addr × Obj)} {σ : St} {H : Hp} {s : Shared} {p : Addr} {xs : List V} (I : Inv X pins σ H s) (h : H p = some (.lst xs)) :
    ∃ (its : List Value) (n : Nat), Vals xs its ∧ s.heap.get? p = some { cls := .type "list", data := .seq its.toArray n } ∧ xs.length ≤ sizeLine := by
  obtain ⟨z, its, n, r, e⟩ := I.hok p _ h
  exact ⟨its, n, r, e, z⟩
theorem Inv.lstUpd {pins : List (Addr × Obj)} {σ : St} {H : Hp} {s : Shared} {p : Addr} {xs ys : List V} {its its' : List Value} {n n' : Nat} {f : Obj → Obj} (I : Inv X pins σ H s) (h : H p = some (.lst xs))
    (ho : s.heap.get? p = some { cls := .type "list", data := .seq its.toArray n }) (hf : f { cls := .type "list", data := .seq its.toArray n } = { cls := .type "list", data := .seq its'.toArray n' }) (r : Vals ys its') (hz : ys.length ≤ sizeLine) (t : Nat) :
    Inv X pins σ (upd H p (.lst ys)) { s with heap := s.heap.update p f, toks := t } := by
  have e : (s.heap.update p f).get? p = some { cls := .type "list", data := .seq its'.toArray n' } := by
    rw [Heap.get?_update_self f ho (by rw [hf] <;> rfl), hf]
  refine I.write (x := p) (e := p) (by rw [h]; trivial) (.inl rfl) (fun b u hb q => (Heap.get?_update_other _ _ (Ne.symm hb)).trans q) ⟨_, e⟩ ?_
  exact ⟨hz, its', n', r, e⟩
def rSetL : V → V → V → Hp → (Hp → Prop) → Prop := fun o i v H Q => ∃ p xs k j, o = .ref p ∧ i = .int k ∧ H p = some (.lst xs) ∧ ixN xs.length k = some j ∧ Q (upd H p (.lst (xs.set j v)))
theorem set_list : PSet X rSetL := by
  intro pins s σ H o i v ov iv u Q I ro ri rv h
  obtain ⟨p, xs, k, j, rfl, rfl, hp, hj, q⟩ := h
  cases ro
  obtain ⟨t, rfl⟩ := ri
  obtain ⟨its, n, r, ho, hz⟩ := I.lst hp
  obtain ⟨h1, h2, h3, h4⟩ := ixN_seq hj
  have hl := r.length
  have hn := line63
  have I' : Inv X pins σ (upd H p (.lst (xs.set j v))) { s with heap := s.heap.update p (Obj.mapSeq (·.setIfInBounds j u)) } :=
    I.lstUpd hp ho (mapSeq_set its n j u) (r.set rv j) (by rw [List.length_set]; exact hz) s.toks
  by_cases h0 : 0 ≤ k
  · have hk : k.toNat = j := by
      rw [seqIndex_of h0 h4] at h1
      exact Option.some.inj h1
    exact PySem.W.ki_setAt ho h0 (by omega) (by rw [List.size_toArray, ← hl]; exact h4) (by rw [hk]; exact ⟨_, I', q⟩)
  · have hk : (k + (its.toArray.size : Int)).toNat = j := by
      rw [seqIndex_neg (by omega) h3] at h1
      rw [List.size_toArray, ← hl]
      exact Option.some.inj h1
    exact PySem.W.ki_setBack ho (by omega) (by rw [List.size_toArray, ← hl]; exact h3) (by omega) (by rw [hk]; exact ⟨_, I', q⟩)
theorem slice_bounds (lo hi : Option Int) (n : Nat) : (sliceBounds lo hi none n).1 = ((HT.sIx n 0 lo : Nat) : Int) ∧ (sliceBounds lo hi none n).2.1 = ((HT.sIx n n hi : Nat) : Int) ∧ (sliceBounds lo hi none n).2.2 = 1 := by
  refine ⟨?_, ?_, rfl⟩
  · cases lo with
    | none => simp [sliceBounds, HT.sIx]
    | some i =>
      simp only [sliceBounds, HT.sIx, Option.getD_none, show (1 : Int) > 0 by decide, if_true]
      by_cases h : i < 0
      · simp only [h, if_true] <;> omega
      · simp only [h, if_false] <;> omega
  · cases hi with
    | none => simp [sliceBounds, HT.sIx]
    | some i =>
      simp only [sliceBounds, HT.sIx, Option.getD_none, show (1 : Int) > 0 by decide, if_true]
      by_cases h : i < 0
      · simp only [h, if_true] <;> omega
      · simp only [h, if_false] <;> omega
theorem slicePick_cut (its : List Value) (lo hi : Option Int) : slicePick its.toArray lo hi none = ((its.drop (HT.sIx its.length 0 lo)).take (HT.sIx its.length its.length hi - HT.sIx its.length 0 lo)).toArray := by
  obtain ⟨h1, h2, h3⟩ := slice_bounds lo hi its.toArray.size
  unfold slicePick
  rw [h1, h2, h3]
  simp only [sliceRange_one, pick_run, List.size_toArray] <;> rfl
def rSlL (K : PySem.W.Frag) : V → Option Int → Option Int → Hp → VK → Prop := fun x lo hi H Q => ∃ a xs, x = .ref a ∧ SqL K H a xs ∧ ∀ p, H p = none → Q (.ref p) (upd H p (.lst (cutV xs lo hi)))
theorem sl_list : SlR X (rSlL X.K) := by
  intro pins s σ H x v vl vu lo hi sl Q I rx hs pl pu h
  obtain ⟨a, xs, rfl, hx, q⟩ := h
  cases rx
  obtain ⟨its, r, ht, hz⟩ := I.list hx
  have hlen := r.length
  refine ⟨"list", _, slot_list_getitem.lookup, ht.isList.typeIs, ?_⟩
  refine wpAny_getItem_list_slice ht.isList hs pl pu .none (by simp) ?_ (by rw [List.size_toArray] <;> omega)
  rw [slicePick_cut, ← hlen]
  refine ⟨.ref s.heap.objs.size, _, I.laid (t' := s.toks) (o := .lst (cutV xs lo hi)) (fun b ob q => Heap.get?_push_of_some _ q) (Nat.le_refl _) ?_, rfl, q _ (I.hok.fresh (Nat.le_refl _))⟩
  exact ⟨Nat.le_trans (cutV_length xs lo hi) hz, _, 0, (r.drop (HT.sIx xs.length 0 lo)).take (HT.sIx xs.length xs.length hi - HT.sIx xs.length 0 lo), Heap.get?_push_size _ rfl⟩
theorem CallR.or {f : Value} {r r' : List V → Hp → VK → Prop} (h : CallR X f r) (h' : CallR X f r') : CallR X f (fun xs H Q => r xs H Q ∨ r' xs H Q) := by
  intro pins s σ H xs us Q I rs q
  rcases q with q | q
  · exact h pins s σ H xs us Q I rs q
  · exact h' pins s σ H xs us Q I rs q
theorem call_tuple_of : CallR X (.type "tuple") (fun xs H Q => ∃ p ys, xs = [.ref p] ∧ ((SqL X.K H p ys ∧ ∀ l, H l = none → Q (.ref l) (upd H l (.tup ys))) ∨ (SqT X.K H p ys ∧ Q (.ref p) H))) := by
  intro pins s σ H xs us Q I r h
  obtain ⟨p, ys, rfl, h⟩ := h
  obtain ⟨u, rfl, rx⟩ := vals1 r
  cases rx
  rcases h with ⟨hq, q⟩ | ⟨hq, q⟩
  · obtain ⟨its, r', pl, hz⟩ := I.list hq
    have hlen := r'.length
    refine call_tuple_list pl.isList (fun h' kp => ?_) (by simp only [List.size_toArray] <;> omega)
    have I1 : Inv X pins σ H { s with heap := h' } := I.kept (t' := s.toks) kp
    have I2 : Inv X pins σ (upd H h'.objs.size (.tup ys)) { s with heap := h'.push { cls := .type "tuple", data := .seq its.toArray } } :=
      I1.laid (t' := s.toks) (fun b o e => Heap.get?_push_of_some _ e) (Nat.le_refl _) (show ObjOk X.prog X.w _ _ _ (.tup ys) from ⟨hz, its, r', TupD.new _ _⟩)
    exact ⟨.ref h'.objs.size, _, I2, rfl, q _ (I1.hok.fresh (Nat.le_refl _))⟩
  · obtain ⟨its, r', pl, hz⟩ := I.tuple hq
    exact call_tuple_same pl ⟨.ref p, H, I, rfl, q⟩
def tyV (K : PySem.W.Frag) (T : String) (x : V) (H : Hp) : Prop := match x with
  | .str _ => T = "str"
  | .int _ => T = "int"
  | .ref p => (T = "list" ∧ ∃ xs, SqL K H p xs) ∨ (T = "tuple" ∧ ∃ o, K.lookup p = some o ∧ o.cls = .type "tuple" ∧ o.dict = none) ∨
      (T = "dict" ∧ ((∃ kvs, H p = some (.dK kvs)) ∨ ∃ kvs, H p = some (.dT kvs))) ∨ (T = "set" ∧ ∃ S n, H p = some (.set S n))
  | _ => False
theorem tyV_is {pins : List (Addr × Obj)} {σ : St} {H : Hp} {s : Shared} {T : String} {x : V} {v : Value} (I : Inv X pins σ H s) (r : RelV x v) (ty : tyV X.K T x H) :
    s.TypeIs v T ∧ ∀ a, v = .ref a → ∃ ob, s.heap.get? a = some ob ∧ ob.dict = none := by
  cases x with
  | str z =>
    obtain ⟨t, rfl⟩ := r
    cases (show T = "str" from ty)
    exact ⟨typeIs_str s z t, fun _ e => nomatch e⟩
  | int i =>
    obtain ⟨t, rfl⟩ := r
    cases (show T = "int" from ty)
    exact ⟨typeIs_int s i t, fun _ e => nomatch e⟩
  | ref p =>
    cases r
    rcases ty with ⟨rfl, xs, hq⟩ | ⟨rfl, o, hk, hc, hd⟩ | ⟨rfl, hk⟩ | ⟨rfl, S, n, hk⟩
    · obtain ⟨its, _, pl, _⟩ := I.list hq
      refine ⟨pl.isList.typeIs, fun a e => ?_⟩
      cases e
      obtain ⟨o, n, e, c, hd, _⟩ := pl
      exact ⟨o, e, hd⟩
    · refine ⟨⟨o, I.kIn p o hk, hc⟩, fun a e => ?_⟩
      cases e
      exact ⟨o, I.kIn _ o hk, hd⟩
    · have z : ∃ o, s.heap.get? p = some o ∧ o.ExactDict := by
        rcases hk with ⟨kvs, hk⟩ | ⟨kvs, hk⟩
        · obtain ⟨_, _, _, _, o, _, _, e, ex, _⟩ := I.hok p _ hk
          exact ⟨o, e, ex⟩
        · obtain ⟨_, _, _, _, o, _, _, e, ex, _⟩ := I.hok p _ hk
          exact ⟨o, e, ex⟩
      obtain ⟨o, e, ex⟩ := z
      refine ⟨⟨o, e, ex.1⟩, fun a e2 => ?_⟩
      cases e2
      exact ⟨o, e, ex.2.1⟩
    · obtain ⟨o, _, _, _, e, ex, _⟩ := I.hok p _ hk
      refine ⟨⟨o, e, ex.1⟩, fun a e2 => ?_⟩
      cases e2
      exact ⟨o, e, ex.2.1⟩
  | _ => exact False.elim ty
def tBM (K : PySem.W.Frag) (T : String) (r : V → List V → Hp → VK → Prop) (to : TE) (t : TA) : TE := fun σ H Q => to σ H fun x H1 => tyV K T x H1 ∧ t σ H1 fun xs H2 => r x xs H2 Q
variable {o e : Expr} {es : List Expr} {to : TE} {t : TA} {name : Str} {apos cpos : Pos} {T id : String} {r : V → List V → Hp → VK → Prop}
theorem pe_bm (pa : PlainAttrs T) (slot : Slot T name id) (hty : typeOf (.builtin id) = pure (.type "method_descriptor")) (hm : MtR X id r) (ho : PE X o to) (ha : PA X (e :: es) t)
    (hbase : attributeBase o name X.env (eval o X.env) = eval o X.env := by rfl)
    (hfew : ((backTo cpos (starEach (e :: es) X.env)).all (fun x => !x.1) && (backToKw cpos (keywordEach [] X.env)).all (fun x => x.1.isSome)
      && decide ((e :: es).length + ([] : List Keyword).length + (if ([] : List Keyword).isEmpty then 0 else 1) < 30)) = true := by rfl)
    (hline : (apos.endLine == cpos.line) = true := by rfl) (hs : starEach (e :: es) X.env = (false, eval e X.env) :: starEach es X.env := by rfl) (hplain : (backTo cpos (starEach es X.env)).any (·.1) = false := by rfl) :
    PE X (.Call (.Attribute o name apos) (e :: es) [] cpos) (tBM X.K T r to t) := by
  intro pins s σ H Q I h
  refine wpAny_Call_method_late hbase hfew hline rfl (thn (ho pins s σ H _ I h) fun v s1 ⟨x, H1, I1, r1, ty, q1⟩ => ?_)
  obtain ⟨h1, h2⟩ := tyV_is I1 r1 ty
  refine ⟨T, id, pa, slot, hty, h1, h2, ?_⟩
  have hA := ha cpos pins s1 σ H1 _ I1 q1
  rw [hs] at hA ⊢
  refine Calls.callWith_builtin (by show (false || (backTo cpos (starEach es X.env)).any (·.1)) = false; rw [hplain] <;> rfl) (Calls.evalArgs_plain ?_)
  exact thn hA fun us s2 ⟨vs, H2, I2, r2, q2⟩ => hm pins s2 σ H2 x vs v us Q I2 r1 r2 q2
end
end L2
namespace L2
open PySem PySem.Spec PyProof.Rows
def MtM (X : Cx) (id : String) (r : V → List V → Hp → VK → Prop) : Prop :=
  ∀ (pins : List (Addr × Obj)) (s : Shared) (σ : St) (H : Hp) (x : V) (xs : List V) (v : Value) (us : List Value) (Q : VK), Inv X pins σ H s → RelV x v → Vals xs us → r x xs H Q →
    wpAny (model X.prog X.w) X.A (call (.builtin id) (v :: us)) (EP X pins σ Q) X.xe s
theorem Vals.one : ∀ {x : V} {us : List Value}, Vals [x] us → ∃ u, us = [u] ∧ RelV x u
  | _, _, .cons r .nil => ⟨_, rfl, r⟩
theorem Vals.zero : ∀ {us : List Value}, Vals [] us → us = []
  | _, .nil => rfl
theorem Vals.eraseIdx : ∀ {xs : List V} {us : List Value} (i : Nat), Vals xs us → Vals (xs.eraseIdx i) (us.eraseIdx i)
  | _, _, _, .nil => .nil
  | _, _, 0, .cons _ t => t
  | _, _, i + 1, .cons r t => .cons r (Vals.eraseIdx i t)
theorem Vals.reverse {xs : List V} {us : List Value} (h : Vals xs us) : Vals xs.reverse us.reverse := by
  induction h with
  | nil => exact .nil
  | cons r t ih => rw [List.reverse_cons, List.reverse_cons]; exact Vals.append ih (.cons r .nil)
section
variable {X : Cx} {pins : List (Addr × Obj)} {σ : St} {H : Hp} {s : Shared} {l b : Addr} {xs ys zs : List V}
theorem Inv.lset {its its' : List Value} {n : Nat} {f : Array Value → Array Value} {t' : Nat} (I : Inv X pins σ H s) (hH : H l = some (.lst xs))
    (e : s.heap.get? l = some { cls := .type "list", data := .seq its.toArray n }) (hf : f its.toArray = its'.toArray) (hv : Vals ys its') (hz : ys.length ≤ sizeLine) :
    Inv X pins σ (upd H l (.lst ys)) { s with heap := s.heap.update l (Obj.mapSeq f), toks := t' } := by
  have q := PySem.IsL.update e f
  rw [hf] at q
  refine I.write (x := l) (e := l) (by rw [hH]; exact trivial) (.inl rfl) (fun b' u hb hu => (Heap.get?_update_other s.heap (Obj.mapSeq f) (Ne.symm hb)).trans hu) ⟨_, q⟩ ?_
  exact ⟨hz, its', _, hv, q⟩
theorem Inv.lnew {its : List Value} {t' : Nat} (I : Inv X pins σ H s) (hv : Vals ys its) (hz : ys.length ≤ sizeLine) :
    Inv X pins σ (upd H s.heap.objs.size (.lst ys)) { s with heap := s.heap.push { cls := .type "list", data := .seq its.toArray }, toks := t' } :=
  I.laid (fun _ _ q => Heap.get?_push_of_some _ q) (Nat.le_refl _) ⟨hz, its, 0, hv, Heap.get?_push_size _ rfl⟩
theorem Inv.fresh (I : Inv X pins σ H s) : H s.heap.objs.size = none := I.hok.fresh (Nat.le_refl _)
theorem Inv.lstM (I : Inv X pins σ H s) (hH : H l = some (.lst xs)) : xs.length ≤ sizeLine ∧ ∃ (its : List Value) (n : Nat), Vals xs its ∧ xs.length = its.length ∧ s.heap.get? l = some { cls := .type "list", data := .seq its.toArray n } := by
  obtain ⟨z, its, n, r, e⟩ := I.hok l _ hH
  exact ⟨z, its, n, r, r.length, e⟩
end
section
variable {X : Cx}
def rAppend : V → List V → Hp → VK → Prop := fun x vs H Q => ∃ l xs y, x = .ref l ∧ vs = [y] ∧ H l = some (.lst xs) ∧ xs.length < sizeLine ∧ Q .non (upd H l (.lst (xs ++ [y])))
theorem mt_append : MtM X "list.append" rAppend := by
  intro pins s σ H x vs v us Q I rx rv h
  obtain ⟨l, xs, y, rfl, rfl, hH, hz, q⟩ := h
  cases rx
  obtain ⟨u, rfl, ru⟩ := rv.one
  obtain ⟨z, its, n, r, hl, e⟩ := I.lstM hH
  refine call_meets F.slot_list_append ⟨_, e, rfl⟩ F.entry_list_append (F.args_list_append_2 _ _) (PySem.list_append l its.toArray n u (by rw [List.size_toArray]; omega)) ⟨e, ?_⟩
  refine ⟨.non, _, I.lset (its' := its ++ [u]) hH e (by simp) (r.append (.cons ru .nil)) ?_, rfl, q⟩
  rw [List.length_append, List.length_singleton]
  omega
end
end L2
namespace L2
open PySem PySem.Spec PyProof.Rows
theorem Vals.ints : ∀ {ns : List Int} {us : List Value}, Vals (ns.map V.int) us → IntsAre us ns
  | [], us, h => by
    rw [List.map_nil] at h
    cases h
    exact IntsAre.nil
  | n :: ns, us, h => by
    rw [List.map_cons] at h
    cases h with
    | cons r t =>
      obtain ⟨k, rfl⟩ := r
      exact IntsAre.cons n k (Vals.ints t)
theorem Vals.bls : ∀ {bs : List Bool} {us : List Value}, Vals (bs.map V.bl) us → us = bs.map Value.bool
  | [], us, h => by
    rw [List.map_nil] at h
    cases h
    rfl
  | b :: bs, us, h => by
    rw [List.map_cons] at h
    cases h with
    | cons r t =>
      cases r
      rw [Vals.bls t, List.map_cons]
theorem Vals.ref1 {a : Addr} {us : List Value} (r : Vals [V.ref a] us) : us = [Value.ref a] := by
  cases r with
  | cons r t =>
    cases t
    cases r
    rfl
theorem iter_any {prog : Program} {w : World} {A : Around} {E : Value → Shared → Prop} {s : Shared} {l : Addr} {items : Array Value} {Q : Value → Shared → Prop} (hl : s.heap.IsList l items)
    (h : ∀ s₂ : Shared, s₂ = { s with heap := s.heap.push { cls := .type "list_iterator", data := .fields #[.ref l, .int 0 0] } } →
      (s₂.heap.IsListIter s.heap.objs.size l 0 ∧ s₂.heap.IsList l items) → l ≠ s.heap.objs.size → Q (.ref s.heap.objs.size) s₂) : wpAny (model prog w) A (pyIter (.ref l)) Q E s := by
  have hlt : l < s.heap.objs.size := by obtain ⟨_, e, _⟩ := hl; exact Heap.lt_size e
  exact wpAny_pyIter_list hl (h _ rfl ⟨⟨_, Heap.get?_push_size _ rfl, rfl, rfl⟩, hl.push _⟩ (Nat.ne_of_lt hlt))
theorem truth_bools {prog : Program} {w : World} {A : Around} {bs : List Bool} {its : List Value} (e : its = bs.map Value.bool) :
    TruthOf prog w A (fun i v => its.toArray[i]? = some v) (fun i => bs.getD i false) := fun i v s Q E hv hq => by
  have hv' : its[i]? = some v := by simpa using hv
  rw [e, List.getElem?_map] at hv'
  obtain ⟨b, hb, rfl⟩ := Option.map_eq_some_iff.mp hv'
  have hg : bs.getD i false = b := by rw [List.getD_eq_getElem?_getD, hb] <;> rfl
  have hq' : Q (bs.getD i false) s := hq
  rw [hg] at hq'
  exact wpAny_truthy_bool hq'
theorem any_range : ∀ bs : List Bool, (List.range bs.length).any (fun i => bs.getD i false) = bs.any id
  | [] => rfl
  | b :: bs => by
    rw [List.length_cons, List.range_succ_eq_map, List.any_cons, List.any_map, List.any_cons, ← any_range bs]
    all_goals rfl
theorem all_range : ∀ bs : List Bool, (List.range bs.length).all (fun i => bs.getD i false) = bs.all id
  | [] => rfl
  | b :: bs => by
    rw [List.length_cons, List.range_succ_eq_map, List.all_cons, List.all_map, List.all_cons, ← all_range bs]
    all_goals rfl
section
variable {X : Cx}
def rAny (K : PySem.W.Frag) : List V → Hp → VK → Prop := fun vs H Q => ∃ (a : Addr) (bs : List Bool), vs = [V.ref a] ∧ SqL K H a (bs.map V.bl) ∧ Q (.bl (bs.any id)) H
def rAll (K : PySem.W.Frag) : List V → Hp → VK → Prop := fun vs H Q => ∃ (a : Addr) (bs : List Bool), vs = [V.ref a] ∧ SqL K H a (bs.map V.bl) ∧ Q (.bl (bs.all id)) H
theorem cr_any (hc : X.calm = true) : CallR X (.builtin "any") (rAny X.K) := by
  intro pins s σ H vs us Q I r h
  obtain ⟨a, bs, rfl, hs, q⟩ := h
  obtain ⟨its, rv, hl, _⟩ := I.list hs
  rw [Vals.ref1 r]
  have hb := rv.bls
  refine call_any_walk (iter_any hl.isList fun s₂ e2 st hne => ?_)
  subst e2
  refine ⟨_, _, _, _, _, _, _, rfl, Walks.list (A := X.A.in1) (I.ok.hd hc) _ a hne its.toArray, st, truth_bools hb, fun h' tk hk => ?_⟩
  refine ⟨.bl _, H, I.kept fun b o eo => hk b o (fun hmem => ?_) (Heap.get?_push_of_some _ eo), ?_, q⟩
  · rcases List.mem_cons.mp hmem with e1 | hmem
    · exact absurd (e1 ▸ Heap.lt_size eo) (Nat.lt_irrefl _)
    · cases hmem
  · show Value.bool _ = Value.bool _
    rw [← any_range, hb, List.size_toArray, List.length_map]
theorem cr_all (hc : X.calm = true) : CallR X (.builtin "all") (rAll X.K) := by
  intro pins s σ H vs us Q I r h
  obtain ⟨a, bs, rfl, hs, q⟩ := h
  obtain ⟨its, rv, hl, _⟩ := I.list hs
  rw [Vals.ref1 r]
  have hb := rv.bls
  refine call_all_walk (iter_any hl.isList fun s₂ e2 st hne => ?_)
  subst e2
  refine ⟨_, _, _, _, _, _, _, rfl, Walks.list (A := X.A.in1) (I.ok.hd hc) _ a hne its.toArray, st, truth_bools hb, fun h' tk hk => ?_⟩
  refine ⟨.bl _, H, I.kept fun b o eo => hk b o (fun hmem => ?_) (Heap.get?_push_of_some _ eo), ?_, q⟩
  · rcases List.mem_cons.mp hmem with e1 | hmem
    · exact absurd (e1 ▸ Heap.lt_size eo) (Nat.lt_irrefl _)
    · cases hmem
  · show Value.bool _ = Value.bool _
    rw [← all_range, hb, List.size_toArray, List.length_map]
end
mutual
inductive Dp (K : PySem.W.Frag) (H : Hp) : V → PyData → Prop
  | non : Dp K H .non .none
  | bl (b : Bool) : Dp K H (.bl b) (.bool b)
  | int (i : Int) : Dp K H (.int i) (.int i)
  | str (x : Str) : Dp K H (.str x) (.str x)
  | lst {a : Addr} {xs : List V} {ds : List PyData} : SqL K H a xs → DpAll K H xs ds → Dp K H (.ref a) (.list ds)
  | tup {a : Addr} {xs : List V} {ds : List PyData} : SqT K H a xs → DpAll K H xs ds → Dp K H (.ref a) (.tuple ds)
  | dct {a : Addr} {ns : List (Int × Int)} : H a = some (.dK (ns.map fun p => (Sum.inl p.1, V.int p.2))) → Dp K H (.ref a) (.dict (ns.map fun p => (PyData.int p.1, PyData.int p.2)))
inductive DpAll (K : PySem.W.Frag) (H : Hp) : List V → List PyData → Prop
  | nil : DpAll K H [] []
  | cons {v : V} {vs : List V} {d : PyData} {ds : List PyData} : Dp K H v d → DpAll K H vs ds → DpAll K H (v :: vs) (d :: ds)
end
section
variable {X : Cx} {pins : List (Addr × Obj)} {σ : St} {H : Hp} {s : Shared}
theorem prs_reads {P : Program} {w : World} {h : Heap} : ∀ {ns : List (Int × Int)} {es : List DictEntry} {vs : List (Key × Value)}, KV (ns.map fun p => ((Sum.inl p.1 : Key), V.int p.2)) vs → Pairs (mixKind P w) es vs → ReadsAll h (es.map (·.key)) ((ns.map fun p => (PyData.int p.1, PyData.int p.2)).map (·.1)) [] ∧ ReadsAll h (es.map (·.val)) ((ns.map fun p => (PyData.int p.1, PyData.int p.2)).map (·.2)) []
  | [], _, _, r, p => by
    cases r
    cases p
    exact ⟨.nil, .nil⟩
  | n :: ns, _, _, r, p => by
    cases r with
    | cons r1 r2 =>
      cases p with
      | cons p1 p2 p3 =>
        obtain ⟨a1, a2⟩ := prs_reads r2 p3
        obtain ⟨e1, t, e2⟩ := r1
        rw [← e1] at p1
        have p1 : keyIs (Sum.inl n.1) _ = true := p1
        rcases keyIs_shape p1 with ⟨i, u, e3, e4⟩ | ⟨x, u, e3, e4⟩
        · have e5 : n.1 = i := Sum.inl.inj e3
          have k1 : Reads h (Value.int i u) (PyData.int n.1) [] := by rw [e5]; exact Reads.int i u
          have k2 : Reads h (Value.int n.2 t) (PyData.int n.2) [] := Reads.int _ t
          rw [← e4] at k1
          rw [← e2, ← p2] at k2
          exact ⟨ReadsAll.cons k1 a1, ReadsAll.cons k2 a2⟩
        · cases e3
theorem dk_reads {P : Program} {w : World} {h : Heap} {a : Addr} {ns : List (Int × Int)} (x : ObjOk P w H h a (.dK (ns.map fun p => (Sum.inl p.1, V.int p.2)))) : Reads h (.ref a) (.dict (ns.map fun p => (PyData.int p.1, PyData.int p.2))) [a] ∧ a ≠ sysModules := by
  obtain ⟨_, hS, vs, r, o, es, ep, e, c, d, _, p, _⟩ := x
  obtain ⟨a1, a2⟩ := prs_reads (h := h) r p
  exact ⟨Reads.dict e c.1 d a1 a2, by simpa using hS⟩
mutual
theorem Dp.reads (I : Inv X pins σ H s) : ∀ (d : PyData) (v : V) (u : Value), Dp X.K H v d → RelV v u → ∃ as, Reads s.heap u d as
  | .none, _, _, h, r => by
    cases h
    cases r
    exact ⟨_, Reads.none⟩
  | .bool b, _, _, h, r => by
    cases h
    cases r
    exact ⟨_, Reads.bool b⟩
  | .int i, _, _, h, r => by
    cases h
    obtain ⟨t, rfl⟩ := r
    exact ⟨_, Reads.int i t⟩
  | .str x, _, _, h, r => by
    cases h
    obtain ⟨t, rfl⟩ := r
    exact ⟨_, Reads.str x t⟩
  | .list ds, _, _, h, r => by
    cases h with
    | lst hs ha =>
      cases r
      obtain ⟨its, rv, ⟨o, n, ho, hc, _, hd⟩, _⟩ := I.list hs
      obtain ⟨as, hr⟩ := Dp.readsAll I ds _ its ha rv
      exact ⟨_, Reads.list ho hc hd hr⟩
  | .tuple ds, _, _, h, r => by
    cases h with
    | tup hs ha =>
      cases r
      obtain ⟨its, rv, ⟨o, ho, hc, n, hd⟩, _⟩ := I.tuple hs
      obtain ⟨as, hr⟩ := Dp.readsAll I ds _ its ha rv
      exact ⟨_, Reads.tuple ho hc hd hr⟩
  | .dict _, _, _, h, r => by
    cases h with
    | dct e =>
      cases r
      exact ⟨_, (dk_reads (I.hok _ _ e)).1⟩
theorem Dp.readsAll (I : Inv X pins σ H s) : ∀ (ds : List PyData) (vs : List V) (us : List Value), DpAll X.K H vs ds → Vals vs us → ∃ as, ReadsAll s.heap us ds as
  | [], _, _, h, r => by
    cases h
    cases r
    exact ⟨_, ReadsAll.nil⟩
  | d :: ds, _, _, h, r => by
    cases h with
    | cons h1 h2 =>
      cases r with
      | cons r1 r2 =>
        obtain ⟨as, q1⟩ := Dp.reads I d _ _ h1 r1
        obtain ⟨bs, q2⟩ := Dp.readsAll I ds _ _ h2 r2
        exact ⟨_, ReadsAll.cons q1 q2⟩
end
end
section
variable {X : Cx}
def rEqD (K : PySem.W.Frag) : R2 := fun x y H Q => ∃ d e, Dp K H x d ∧ Dp K H y e ∧ SeqAt.shaped d = true ∧ SeqAt.shaped e = true ∧ Q (.bl (PyData.eqv d e)) H
def rNeD (K : PySem.W.Frag) : R2 := fun x y H Q => ∃ d e, Dp K H x d ∧ Dp K H y e ∧ SeqAt.shaped d = true ∧ SeqAt.shaped e = true ∧ Q (.bl (!PyData.eqv d e)) H
theorem op_eqD (hu : X.A.units + 64 < cLine) : OpR X (compareOp .Eq) (rEqD X.K) := by
  intro pins s σ H x y v u Q I rx ry h
  obtain ⟨d, e, hd, he, sd, se, q⟩ := h
  obtain ⟨as, r1⟩ := Dp.reads I d x v hd rx
  obtain ⟨bs, r2⟩ := Dp.reads I e y u he ry
  exact SeqAt.compareEq_shaped r1 r2 sd se hu ⟨.bl _, H, I, rfl, q⟩
theorem op_neD (hu : X.A.units + 64 < cLine) : OpR X (compareOp .NotEq) (rNeD X.K) := by
  intro pins s σ H x y v u Q I rx ry h
  obtain ⟨d, e, hd, he, sd, se, q⟩ := h
  obtain ⟨as, r1⟩ := Dp.reads I d x v hd rx
  obtain ⟨bs, r2⟩ := Dp.reads I e y u he ry
  exact SeqAt.compareNe_shaped r1 r2 sd se hu ⟨.bl _, H, I, rfl, q⟩
end
end L2
namespace L2
open PySem PySem.Spec PyProof.Rows
abbrev CellAt (h : Heap) (c : Addr) (v : Option Value) : Prop := h.IsCell c v
def relS (scope sc : Scope) : Scope :=
  { scope with names := scope.names.map fun (n, k) => if (k == .free && sc.kind == .function && sc.names.lookup n == some .cell) then (n, .cell) else (n, k) }
def cloFrom (cells : List (Str × Addr)) : List (Str × NameKind) → List (Str × Addr) → List (Str × Addr)
  | [], acc => acc
  | (n, k) :: r, acc => if k == .free then cloFrom cells r ((n, (cells.lookup n).getD 0) :: acc) else cloFrom cells r acc
theorem closure_loop (env : Env) (f : Str × NameKind → List (Str × Addr) → Sem (ForInStep (List (Str × Addr))))
    (hf : ∀ n k c, f (n, k) c = if k == .free then (do let a ← cellOf env n; pure (.yield ((n, a) :: c))) else pure (.yield c)) :
    ∀ (names : List (Str × NameKind)) (acc : List (Str × Addr)), (∀ y ∈ names, y.2 = .free → ∃ c, env.cells.lookup y.1 = some c) → forIn names acc f = pure (cloFrom env.cells names acc)
  | [], acc, _ => by rw [List.forIn_nil]; rfl
  | (n, k) :: r, acc, h => by
    rw [List.forIn_cons, hf]
    have ih := fun acc => closure_loop env f hf r acc fun y hy => h y (List.mem_cons_of_mem _ hy)
    unfold cloFrom
    by_cases hk : (k == NameKind.free) = true
    · rw [if_pos hk, if_pos hk]
      obtain ⟨c, hc⟩ := h (n, k) List.mem_cons_self (by simpa using hk)
      have e : cellOf env n = pure c := by unfold cellOf; rw [hc]
      rw [e]
      have e2 : (env.cells.lookup n).getD 0 = c := by rw [hc]; rfl
      rw [e2]
      exact ih _
    · rw [if_neg hk, if_neg hk]
      exact ih _
theorem closure_ok {scope : Scope} {env : Env} (h : ∀ y ∈ scope.names, y.2 = .free → ∃ c, env.cells.lookup y.1 = some c) : closureFor scope env = pure (cloFrom env.cells scope.names []) := by
  simp only [closureFor]
  rw [closure_loop env _ (fun n k c => rfl) scope.names [] h]
  rfl
theorem mem_lookup {α : Type} : ∀ {l : List (Str × α)} {n : Str} {c : α}, (n, c) ∈ l → ∃ c', l.lookup n = some c'
  | (k, v) :: r, n, c, h => by
    rw [List.lookup_cons]
    cases hb : n == k with
    | true => exact ⟨_, rfl⟩
    | false =>
      rcases List.mem_cons.mp h with e | h
      · cases e; simp at hb
      · exact mem_lookup h
theorem cloFrom_mem {cells : List (Str × Addr)} : ∀ {names : List (Str × NameKind)} {acc : List (Str × Addr)} {n : Str} {c : Addr}, (n, c) ∈ cloFrom cells names acc → (n, c) ∈ acc ∨ ((n, .free) ∈ names ∧ c = (cells.lookup n).getD 0)
  | [], _, _, _, h => .inl h
  | (m, k) :: r, acc, n, c, h => by
    unfold cloFrom at h
    split at h
    · rename_i hk
      have hk : k = .free := by simpa using hk
      rcases cloFrom_mem h with h | ⟨h1, h2⟩
      · rcases List.mem_cons.mp h with e | h
        · cases e; exact .inr ⟨hk ▸ List.mem_cons_self, rfl⟩
        · exact .inl h
      · exact .inr ⟨List.mem_cons_of_mem _ h1, h2⟩
    · rcases cloFrom_mem h with h | ⟨h1, h2⟩
      · exact .inl h
      · exact .inr ⟨List.mem_cons_of_mem _ h1, h2⟩
theorem cloFrom_acc {cells : List (Str × Addr)} : ∀ {names : List (Str × NameKind)} {acc : List (Str × Addr)} {p : Str × Addr}, p ∈ acc → p ∈ cloFrom cells names acc
  | [], _, _, h => h
  | (m, k) :: r, acc, p, h => by
    unfold cloFrom
    split
    · exact cloFrom_acc (List.mem_cons_of_mem _ h)
    · exact cloFrom_acc h
theorem cloFrom_has {cells : List (Str × Addr)} : ∀ {names : List (Str × NameKind)} {acc : List (Str × Addr)} {n : Str}, (n, .free) ∈ names → (n, (cells.lookup n).getD 0) ∈ cloFrom cells names acc
  | (m, k) :: r, acc, n, h => by
    unfold cloFrom
    rcases List.mem_cons.mp h with e | h
    · cases e
      exact cloFrom_acc List.mem_cons_self
    · split
      · exact cloFrom_has h
      · exact cloFrom_has h
theorem cells_mem : ∀ {names : List (Str × NameKind)} {h : Heap} {acc : List (Str × Addr)} {x : Str} {c : Addr}, (x, c) ∈ cellsFrom h.objs.size names acc →
    (x, c) ∈ acc ∨ ((x, .cell) ∈ names ∧ h.objs.size ≤ c ∧ CellAt (pushCells h names) c none)
  | [], _, _, _, _, h => .inl h
  | (n, k) :: r, h, acc, x, c, hm => by
    unfold cellsFrom at hm
    unfold pushCells
    split at hm
    · rename_i hk
      rw [if_pos hk]
      have hk : k = .cell := by simpa using hk
      rw [← Heap.size_push h { cls := .type "cell", data := .cell none }] at hm
      rcases cells_mem hm with hm | ⟨h1, h2, h3⟩
      · rcases List.mem_cons.mp hm with e | hm
        · cases e
          exact .inr ⟨hk ▸ List.mem_cons_self, Nat.le_refl _, _, pushCells_keeps r _ _ _ (Heap.get?_push_size _ rfl), rfl⟩
        · exact .inl hm
      · rw [Heap.size_push] at h2
        exact .inr ⟨List.mem_cons_of_mem _ h1, Nat.le_of_succ_le h2, h3⟩
    · rename_i hk
      rw [if_neg hk]
      rcases cells_mem hm with hm | ⟨h1, h2, h3⟩
      · exact .inl hm
      · exact .inr ⟨List.mem_cons_of_mem _ h1, h2, h3⟩
theorem cells_acc : ∀ {names : List (Str × NameKind)} {n : Nat} {acc : List (Str × Addr)} {p : Str × Addr}, p ∈ acc → p ∈ cellsFrom n names acc
  | [], _, _, _, h => h
  | (m, k) :: r, n, acc, p, h => by
    unfold cellsFrom
    split
    · exact cells_acc (List.mem_cons_of_mem _ h)
    · exact cells_acc h
theorem cells_has : ∀ {names : List (Str × NameKind)} {n : Nat} {acc : List (Str × Addr)} {x : Str}, (x, .cell) ∈ names → ∃ c, (x, c) ∈ cellsFrom n names acc
  | (m, k) :: r, n, acc, x, h => by
    unfold cellsFrom
    rcases List.mem_cons.mp h with e | h
    · cases e
      exact ⟨n, cells_acc List.mem_cons_self⟩
    · split
      · exact cells_has h
      · exact cells_has h
theorem cells_inj : ∀ {names : List (Str × NameKind)} {h : Heap} {acc : List (Str × Addr)} {x y : Str} {c : Addr}, (∀ p ∈ acc, p.2 < h.objs.size) → (∀ x y c, (x, c) ∈ acc → (y, c) ∈ acc → x = y) →
    (x, c) ∈ cellsFrom h.objs.size names acc → (y, c) ∈ cellsFrom h.objs.size names acc → x = y
  | [], _, _, _, _, _, _, hi, h1, h2 => hi _ _ _ h1 h2
  | (n, k) :: r, h, acc, x, y, c, hl, hi, h1, h2 => by
    unfold cellsFrom at h1 h2
    split at h1
    · rename_i hk
      rw [if_pos hk] at h2
      rw [← Heap.size_push h { cls := .type "cell", data := .cell none }] at h1 h2
      refine cells_inj (h := h.push _) (fun p hp => ?_) (fun x y c a b => ?_) h1 h2
      · rw [Heap.size_push]
        rcases List.mem_cons.mp hp with rfl | hp
        · exact Nat.lt_succ_self _
        · exact Nat.lt_succ_of_lt (hl p hp)
      · rcases List.mem_cons.mp a with e | a <;> rcases List.mem_cons.mp b with e' | b
        · cases e; cases e'; rfl
        · cases e; exact absurd (hl _ b) (Nat.lt_irrefl _)
        · cases e'; exact absurd (hl _ a) (Nat.lt_irrefl _)
        · exact hi _ _ _ a b
    · rename_i hk
      rw [if_neg hk] at h2
      exact cells_inj hl hi h1 h2
theorem newEnv_comp {M : Model} {A : Around} {E : Value → Shared → Prop} {s : Shared} {scope : Scope} {globals : Addr} {closure : List (Str × Addr)} {qual : Str} {func : Option Addr} {code : Value} {around : Env} {builtins : Addr} {Q : Env → Shared → Prop}
    (h : Q (newEnv scope s.heap.objs.size globals (cellsFrom (s.heap.objs.size + 1) scope.names closure) qual func code (some around) builtins)
      { s with heap := pushCells (s.heap.push { cls := .type "dict", data := .dict #[] }) scope.names }) :
    wpAny M A (newFunctionEnv scope globals closure [] qual func code (some around) builtins) Q E s := by
  simp only [newFunctionEnv, Option.isSome_some, if_true]
  refine wpAny_bind (wpAny_alloc ?_)
  refine wpAny_bind (wpAny_layCells _ (fun n k c => rfl) scope.names closure _ _ ?_)
  rw [show ({ s with heap := s.heap.push { cls := .type "dict", data := .dict #[] } } : Shared).heap.objs.size = s.heap.objs.size + 1 from Heap.size_push ..]
  rw [List.forIn_nil]
  exact wpAny_bind (wpAny_pure (wpAny_pure h))
theorem lookup_relS {sc : Scope} : ∀ {names : List (Str × NameKind)} {x : Str} {k : NameKind},
    (names.map fun (n, k) => if (k == NameKind.free && sc.kind == .function && sc.names.lookup n == some .cell) then (n, NameKind.cell) else (n, k)).lookup x = some k →
    ∃ k', names.lookup x = some k' ∧ (k = k' ∨ (k' = .free ∧ k = .cell))
  | [], _, _, h => by simp at h
  | (n, k₀) :: r, x, k, h => by
    have ih := @lookup_relS sc r x k
    have h' : List.lookup x ((if (k₀ == NameKind.free && sc.kind == .function && sc.names.lookup n == some .cell) = true then (n, NameKind.cell) else (n, k₀)) :: (r.map _)) = some k := h
    cases hx : x == n with
    | true =>
      simp only [List.lookup_cons, hx]
      by_cases hc : (k₀ == NameKind.free && sc.kind == .function && sc.names.lookup n == some .cell) = true
      · rw [if_pos hc] at h'
        simp only [List.lookup_cons, hx] at h'
        cases h'
        simp only [Bool.and_eq_true, beq_iff_eq] at hc
        exact ⟨k₀, rfl, .inr ⟨hc.1.1, rfl⟩⟩
      · rw [if_neg hc] at h'
        simp only [List.lookup_cons, hx] at h'
        cases h'
        exact ⟨_, rfl, .inl rfl⟩
    | false =>
      simp only [List.lookup_cons, hx]
      by_cases hc : (k₀ == NameKind.free && sc.kind == .function && sc.names.lookup n == some .cell) = true
      · rw [if_pos hc] at h'
        simp only [List.lookup_cons, hx] at h'
        exact ih h'
      · rw [if_neg hc] at h'
        simp only [List.lookup_cons, hx] at h'
        exact ih h'
structure BlkOk (N : List Str) (sc scope : Scope) (own : List (Str × Nat)) : Prop where
  kind : scope.kind = .function
  uniq : ∀ y ∈ scope.names, scope.names.lookup y.1 = some y.2
  ix : ∀ p ∈ own, N[p.2]? = some p.1
  free : ∀ y ∈ scope.names, y.2 = .free → sc.names.lookup y.1 = some .cell ∨ sc.names.lookup y.1 = some .free
  own : ∀ y ∈ scope.names, y.2 = .local ∨ y.2 = .cell → y.1 ∈ own.map (·.1) ∨ y.1 ∉ N
def wipe (σ : St) : List Nat → St
  | [] => σ
  | v :: vs => (wipe σ vs).set v none
theorem wipe_length (σ : St) : ∀ vs : List Nat, (wipe σ vs).length = σ.length
  | [] => rfl
  | v :: vs => by unfold wipe; rw [List.length_set, wipe_length σ vs]
theorem wipe_some {σ : St} {i : Nat} {x : V} : ∀ {vs : List Nat}, (wipe σ vs)[i]? = some (some x) → σ[i]? = some (some x) ∧ i ∉ vs
  | [], h => ⟨h, by simp⟩
  | v :: vs, h => by
    unfold wipe at h
    by_cases hi : v = i
    · subst hi
      by_cases hv : v < (wipe σ vs).length
      · rw [List.getElem?_set_self hv] at h; cases h
      · rw [List.getElem?_eq_none (by simpa using hv)] at h; cases h
    · rw [List.getElem?_set_ne hi] at h
      obtain ⟨h1, h2⟩ := wipe_some h
      exact ⟨h1, by simp only [List.mem_cons, not_or]; exact ⟨fun e => hi e.symm, h2⟩⟩
abbrev Cx.blk (X : Cx) (s : Shared) (H : Hp) (scope : Scope) (cenv : Env) (fp : List Addr) : Cx := { X with s_0 := s, H_0 := H, env := cenv, outer := X.stack, ex := fp, fn := fun x => scope.names.lookup x == some .cell, pn := [], xe := fun _ _ => False }
section
variable {X : Cx} {pins : List (Addr × Obj)} {σ : St} {H : Hp} {s : Shared}
theorem block_start {scope : Scope} {own : List (Str × Nat)} {fp : List Addr} (I : Inv X pins σ H s) (ok : BlkOk X.N X.env.scope scope own) (hN : X.N.Nodup) (hfp : ∀ b ∈ fp, FpOk X pins H b ∧ b < s.heap.objs.size) :
    Inv (X.blk s H scope (compEnvC scope (cellsFrom (s.heap.objs.size + 1) scope.names (cloFrom X.env.cells scope.names [])) s.heap.objs.size X.env) fp) [] (wipe σ (own.map (·.2))) H { s with heap := pushCells (s.heap.push { cls := .type "dict", data := .dict #[] }) scope.names } := by
  have hfree : ∀ y ∈ scope.names, y.2 = .free → ∃ c, X.env.cells.lookup y.1 = some c := fun y hy e => by
    rcases ok.free y hy e with k | k
    · exact I.ok.has _ (.inl k)
    · exact I.ok.has _ (.inr k)
  generalize hcenv : compEnvC scope (cellsFrom (s.heap.objs.size + 1) scope.names (cloFrom X.env.cells scope.names [])) s.heap.objs.size X.env = cenv
  have kp : ∀ b o, s.heap.get? b = some o → (pushCells (s.heap.push { cls := .type "dict", data := .dict #[] }) scope.names).get? b = some o := fun b o e => pushCells_keeps _ _ _ _ (Heap.get?_push_of_some _ e)
  have hL : cenv.locals = s.heap.objs.size := by rw [← hcenv]; rfl
  have hcl : cenv.cells = cellsFrom (s.heap.objs.size + 1) scope.names (cloFrom X.env.cells scope.names []) := by rw [← hcenv]; rfl
  have hsc : cenv.scope = relS scope X.env.scope := by rw [← hcenv]; rfl
  rw [← Heap.size_push s.heap { cls := .type "dict", data := .dict #[] }] at hcl
  have cm : ∀ {y c}, (y, c) ∈ cloFrom X.env.cells scope.names [] → X.env.cells.lookup y = some c ∧ c < s.heap.objs.size := fun {y c} hm => by
    rcases cloFrom_mem hm with hm | ⟨h1, rfl⟩
    · cases hm
    · obtain ⟨c, hc⟩ := hfree _ h1 rfl
      rw [hc]
      obtain ⟨w, z⟩ := I.cell _ _ hc
      exact ⟨rfl, z.lt⟩
  have mem : ∀ {y c}, cenv.cells.lookup y = some c → (X.env.cells.lookup y = some c ∧ c < s.heap.objs.size) ∨ (s.heap.objs.size + 1 ≤ c ∧ CellAt (pushCells (s.heap.push { cls := .type "dict", data := .dict #[] }) scope.names) c none) := fun {y c} e => by
    rw [hcl] at e
    rcases cells_mem (PySem.mem_of_lookup e) with hm | ⟨_, h2, h3⟩
    · exact .inl (cm hm)
    · rw [Heap.size_push] at h2; exact .inr ⟨h2, h3⟩
  have look : ∀ {y}, scope.names.lookup y = some .free → ∃ c, cenv.cells.lookup y = some c ∧ X.env.cells.lookup y = some c := fun {y} hl => by
    have hy : (y, NameKind.free) ∈ scope.names := PySem.mem_of_lookup hl
    obtain ⟨c', e'⟩ := mem_lookup (cells_acc (names := scope.names) (n := (s.heap.push { cls := .type "dict", data := .dict #[] }).objs.size) (cloFrom_has (cells := X.env.cells) (acc := []) hy))
    rw [← hcl] at e'
    refine ⟨c', e', ?_⟩
    rw [hcl] at e'
    rcases cells_mem (PySem.mem_of_lookup e') with hm | ⟨h1, _, _⟩
    · exact (cm hm).1
    · have := ok.uniq _ h1
      rw [hl] at this; cases this
  have okB : (X.blk s H scope cenv fp).Ok := by
    refine ⟨I.ok.mod, by show cenv.scope.kind = _; rw [hsc]; exact ok.kind, by show cenv.globals = _; rw [← hcenv]; exact I.ok.glob, by show cenv.builtins = _; rw [← hcenv]; exact I.ok.blt, by show s.heap.objs.size ≤ cenv.locals; rw [hL]; exact Nat.le_refl _,
      fun y z c e1 e2 => ?_, fun y hy => ?_, fun y c z e => ?_, I.ok.hd, I.ok.frames, .inl rfl, fun b hb => ⟨?_, fun y c e z => ?_⟩, I.bs, Nat.le_trans I.ok.bsz I.sz, fun b o e hb => ?_, fun b hb z => ?_, I.stack, I.stkFree⟩
    · have e1 : cenv.cells.lookup y = some c := e1
      have e2 : cenv.cells.lookup z = some c := e2
      rw [hcl] at e1 e2
      refine cells_inj (fun p hp => ?_) (fun y z c a b => I.ok.inj y z c (cm a).1 (cm b).1) (PySem.mem_of_lookup e1) (PySem.mem_of_lookup e2)
      rw [Heap.size_push]
      exact Nat.lt_succ_of_lt (cm (y := p.1) (c := p.2) hp).2
    · show ∃ c, cenv.cells.lookup y = some c
      have key : ∀ k, cenv.kindOf y = some k → (k = .cell ∨ k = .free) → ∃ c, cenv.cells.lookup y = some c := fun k hk hk' => by
        unfold Env.kindOf at hk
        rw [hsc] at hk
        obtain ⟨k', e, r⟩ := lookup_relS hk
        have : k' = .cell ∨ k' = .free := by
          rcases r with rfl | ⟨rfl, _⟩
          · exact hk'
          · exact .inr rfl
        rcases this with rfl | rfl
        · obtain ⟨c, hm⟩ := cells_has (n := (s.heap.push { cls := .type "dict", data := .dict #[] }).objs.size) (acc := cloFrom X.env.cells scope.names []) (PySem.mem_of_lookup e)
          obtain ⟨c', e'⟩ := mem_lookup hm
          exact ⟨c', by rw [hcl]; exact e'⟩
        · obtain ⟨c, h1, _⟩ := look e
          exact ⟨c, h1⟩
      rcases hy with hy | hy
      · exact key _ hy (.inl rfl)
      · exact key _ hy (.inr rfl)
    · have z : (scope.names.lookup y == some NameKind.cell) = true := z
      have z : scope.names.lookup y = some .cell := by simpa using z
      have e : cenv.cells.lookup y = some c := e
      rw [hcl] at e
      rcases cells_mem (PySem.mem_of_lookup e) with hm | ⟨_, h2, _⟩
      · rcases cloFrom_mem hm with hm | ⟨h1, _⟩
        · cases hm
        · have q := ok.uniq _ h1
          rw [z] at q; cases q
      · rw [Heap.size_push] at h2
        exact Nat.le_of_succ_le h2
    · show b ≠ cenv.locals
      rw [hL]; exact Nat.ne_of_lt (hfp b hb).2
    · have e : cenv.cells.lookup y = some c := e
      rcases mem e with ⟨h1, _⟩ | ⟨h1, _⟩
      · exact (hfp b hb).1.2.2.2.2.1 y c h1 z
      · have h2 : s.heap.objs.size + 1 ≤ b := by rw [← z]; exact h1
        exact absurd (Nat.lt_of_lt_of_le (hfp b hb).2 (Nat.le_of_succ_le h2)) (Nat.lt_irrefl _)
    · rcases (hfp b hb).1.2.2.2.1 with z | z
      · exact I.ok.noex b o e z
      · exact absurd (Nat.lt_of_lt_of_le (Heap.lt_size e) (Nat.le_trans I.ok.bsz z)) (Nat.lt_irrefl _)
    · rcases List.mem_cons.mp (I.stkSub b z) with z | z
      · exact (hfp b hb).1.2.1 z
      · exact (hfp b hb).1.2.2.1 z
  refine ⟨okB, rfl, I.bare, Un.kept kp, ⟨fun _ => none, ?_, fun i y av e1 e2 e3 => ?_⟩, fun y c e => ?_, ?_, fun y c e => ?_, fun p hp => ?_, I.hok.kept kp, by rw [wipe_length]; exact I.len⟩
  · show Heap.Ns _ cenv.locals _
    rw [hL]
    exact Heap.Ns.keeps (Heap.Ns.new ..) fun b o e => pushCells_keeps _ _ _ _ e
  · obtain ⟨e2, hne⟩ := wipe_some e2
    have hfr : scope.names.lookup y = some .free ∧ (cenv.kindOf y = some .cell ∨ cenv.kindOf y = some .free) := by
      have key : ∀ k, cenv.scope.names.lookup y = some k → k = .local ∨ k = .cell ∨ k = .free → scope.names.lookup y = some .free ∧ (cenv.kindOf y = some .cell ∨ cenv.kindOf y = some .free) := fun k hk hk' => by
        have hk0 := hk
        rw [hsc] at hk
        obtain ⟨k', e, r⟩ := lookup_relS hk
        have no : ¬ (k' = .local ∨ k' = .cell) := fun hh => by
          rcases ok.own _ (PySem.mem_of_lookup e) hh with e' | e'
          · obtain ⟨p, hp, hpy⟩ := List.mem_map.mp e'
            have e3 := ok.ix p hp
            have : p.1 = y := hpy
            rw [this] at e3
            exact hne (List.mem_map.mpr ⟨p, hp, nodup_ix hN e3 e1⟩)
          · exact e' (List.mem_of_getElem? e1)
        rcases r with rfl | ⟨rfl, rfl⟩
        · rcases hk' with rfl | rfl | rfl
          · exact absurd (.inl rfl) no
          · exact absurd (.inr rfl) no
          · exact ⟨e, .inr hk0⟩
        · exact ⟨e, .inl hk0⟩
      have e3 : Vis cenv.scope y := e3
      rcases e3 with e3 | e3 | e3
      · exact key _ e3 (.inl rfl)
      · exact key _ e3 (.inr (.inl rfl))
      · exact key _ e3 (.inr (.inr rfl))
    obtain ⟨m, hn, hl⟩ := I.loc
    have hvis : Vis X.env.scope y := (ok.free _ (PySem.mem_of_lookup hfr.1) rfl).elim (fun k => .inr (.inl k)) (fun k => .inr (.inr k))
    obtain ⟨w, r, q⟩ := hl i y av e1 e2 hvis
    refine ⟨w, r, .inr ⟨hfr.2, ?_⟩⟩
    obtain ⟨c, h1, h2⟩ := look hfr.1
    rcases q with ⟨k, _⟩ | ⟨_, c', e', z⟩
    · have k : X.env.scope.names.lookup y = some .local := k
      rcases ok.free _ (PySem.mem_of_lookup hfr.1) rfl with k' | k' <;> rw [show X.env.scope.names.lookup y = _ from k'] at k <;> cases k
    · rw [h2] at e'; cases e'
      exact ⟨c, h1, z.keeps kp⟩
  · have e : cenv.cells.lookup y = some c := e
    rcases mem e with ⟨h1, _⟩ | ⟨_, z⟩
    · obtain ⟨w, z⟩ := I.cell y c h1
      exact ⟨w, z.keeps kp⟩
    · exact ⟨_, z⟩
  · show H cenv.locals = none
    rw [hL]; exact I.hok.fresh (Nat.le_refl _)
  · have e : cenv.cells.lookup y = some c := e
    rcases mem e with ⟨h1, _⟩ | ⟨h1, _⟩
    · exact I.freeC y c h1
    · exact I.hok.fresh (Nat.le_of_succ_le h1)
  · exact absurd (show p ∈ ([] : List (Addr × Obj)) ++ [] from hp) (by simp)
theorem app_ok {E : Value → Shared → Prop} {D : Addr} {xs : List V} {y : V} {v : Value} {Q : Value → Shared → Prop} (I : Inv X pins σ H s) (hD : H D = some (.lst xs)) (hz : xs.length < sizeLine) (r : RelV y v)
    (h : ∀ s', Inv X pins σ (upd H D (.lst (xs ++ [y]))) s' → Q .none s') : wpAny (model X.prog X.w) X.A (call (.builtin "list.append") [.ref D, v]) Q E s := by
  obtain ⟨hz', its, n, ri, e⟩ := I.hok D _ hD
  have hl := ri.length
  refine append_at (hsz := by rw [List.size_toArray]; omega) e fun h' sb ho' => ?_
  refine h { s with heap := h' } (I.write (t' := s.toks) (by rw [hD]; trivial) (.inl rfl) (fun b u hb q => (sb.2 b hb).trans q) ⟨_, ho'⟩ ⟨by rw [List.length_append]; exact hz, its ++ [v], n + 1, ri.append (.cons r .nil), ?_⟩)
  rw [ho']
  simp
def PTs (X : Cx) (ifs : List Expr) (t : TT) : Prop :=
  ∀ (pins : List (Addr × Obj)) (s : Shared) (σ : St) (H : Hp) (Q : Bool → Hp → Prop), Inv X pins σ H s → t σ H Q →
    wpAny (model X.prog X.w) X.A (forIn ifs true fun c r => if r = true then do let ok ← isTrue c X.env (eval c X.env); pure (ForInStep.yield ok) else pure (ForInStep.yield r)) (TP X pins σ Q) X.xe s
def tYes : TT := fun _ H Q => Q true H
theorem pts_nil : PTs X [] tYes := fun _ _ _ H _ I h => wpAny_tests_nil ⟨H, I, h⟩
theorem pts_one {c : Expr} {t : TT} (h : PT X c t) : PTs X [c] t := fun pins s σ H Q I hw => wpAny_tests_one (h pins s σ H Q I hw)
end
theorem thnF {α : Type} {t : Sem α} {Q Q' : α → Shared → Prop} {M : Model} {A : Around} {E : Value → Shared → Prop} {s : Shared} (h : wpAny M A t Q (fun _ _ => False) s) (hQ : ∀ a s, Q a s → Q' a s) : wpAny M A t Q' E s := wpAny_mono h hQ fun _ _ z => False.elim z
theorem compLoop_any {prog : Program} {w : World} {A : Around} {R : Result → Shared → Prop} {s : Shared} {elt target iter : Expr} {ifs : List Expr} {scope : Scope} {pos : Pos} {it acc : Value} {env : Env} (I : Nat → Shared → Prop)
    (turn : ∀ n s, I n s → wpAny (model prog w) A (pyNext it) (fun r s₁ => match r with
      | none => R (.ok .next) s₁
      | some v => wpAny (model prog w) A (letOwnedTupleGo target it v) (fun _ s₁' => wpAny (model prog w) A (assign target env v) (fun _ s₂ =>
          wpAny (model prog w) A (forIn ifs true fun c r => if r = true then do let ok ← isTrue c env (eval c env); pure (ForInStep.yield ok) else pure (ForInStep.yield r)) (fun ok s₃ =>
            if ok = true then wpAny (model prog w) A (eval elt env) (fun x s₄ =>
              wpAny (model prog w) A (call (.builtin "list.append") [acc, x]) (fun _ s₅ => ∃ m, m < n ∧ I m s₅) (notedBy (model prog w) A env fun e s' => R (.error e) s') s₄) (notedBy (model prog w) A env fun e s' => R (.error e) s') s₃
            else ∃ m, m < n ∧ I m s₃) (notedBy (model prog w) A env fun e s' => R (.error e) s') s₂) (notedBy (model prog w) A env fun e s' => R (.error e) s') s₁') (notedBy (model prog w) A env fun e s' => R (.error e) s') s₁) (notedBy (model prog w) A env fun e s' => R (.error e) s') s)
    (n : Nat) (h : I n s) :
    codeAny (model prog w) A (.compLoop (.ListComp elt [⟨target, iter, ifs, 0⟩] scope pos) 0 it acc env) R s := by
  refine codeAny_loop rfl I (fun n s hI => ?_) n h
  show wpAny _ A ((compTurn (.ListComp elt [⟨target, iter, ifs, 0⟩] scope pos) 0 it acc env).onRaise (fun x => do noteFrame x env; theTreesLotGoes x)) _ _ s
  refine wpAny_noted ?_
  rw [compTurn_list]
  refine wpAny_bind (wpAny_standAt (wpAny_bind (wpAny_mono (turn n s hI) (fun r s₁ h₁ => ?_) fun _ _ h' => h')))
  cases r with
  | none => exact wpAny_pure h₁
  | some v =>
    refine wpAny_bind (wpAny_mono h₁ (fun _ s₁' h₁' => ?_) fun _ _ h' => h')
    refine wpAny_bind (wpAny_mono h₁' (fun _ s₂ h₂ => wpAny_bind (wpAny_mono h₂ (fun ok s₃ h₃ => ?_) fun _ _ h' => h')) fun _ _ h' => h')
    cases ok with
    | false => exact wpAny_pure ⟨rfl, h₃⟩
    | true =>
      exact wpAny_bind (wpAny_bind (wpAny_mono h₃ (fun x s₄ h₄ => wpAny_bind (wpAny_mono h₄ (fun _ s₅ h₅ => wpAny_pure (wpAny_pure ⟨rfl, h₅⟩)) fun _ _ h' => h')) fun _ _ h' => h'))
section
variable {X : Cx}
def tLc (wi : TI) (g : TG) (tt : TT) (te : TE) (vs : List Nat) : TE := fun σ H Q => wi σ H fun J H1 => ∀ D, H1 D = none → ∃ W : Nat → Nat → Hp → Prop, (∃ m, W 0 m (upd H1 D (.lst []))) ∧ ∀ i m H, W i m H →
  (J.stop i H ∧ Q (.ref D) H) ∨ (J.go i H ∧ ∃ Nx : Hp → Prop, (∀ H', Nx H' → ∃ m', m' < m ∧ W (i + 1) m' H') ∧ ∀ x H', J.yld i H x H' → g x (wipe σ vs) H' fun σ2 H2 => wipe σ2 vs = wipe σ vs ∧ tt σ2 H2 fun b H3 =>
    if b = true then te σ2 H3 fun y H4 => ∃ acc, H4 D = some (.lst acc) ∧ acc.length < sizeLine ∧ Nx (upd H4 D (.lst (acc ++ [y]))) else Nx H3)
theorem lc_core {pins : List (Addr × Obj)} {s : Shared} {σ : St} {H : Hp} {Q : VK} {elt tg iter : Expr} {ifs : List Expr} {scope : Scope} {own : List (Str × Nat)} {pos pos' : Pos} {wi : TI} {g : TG} {tt : TT} {te : TE} {use : Option (Value → Sem Unit)} {Qf : Value → Shared → Prop}
    (hc : X.calm = true) (hN : X.N.Nodup) (I : Inv X pins σ H s) (hi : PI X tg iter wi) (ok : BlkOk X.N X.env.scope scope own)
    (hg : ∀ (s : Shared) (H : Hp) (C : Addr) (cl : List (Str × Addr)) (fp : List Addr), PG (X.blk s H scope (compEnvC scope cl C X.env) fp) tg g) (ht : ∀ (s : Shared) (H : Hp) (C : Addr) (cl : List (Str × Addr)) (fp : List Addr), PTs (X.blk s H scope (compEnvC scope cl C X.env) fp) ifs tt)
    (he : ∀ (s : Shared) (H : Hp) (C : Addr) (cl : List (Str × Addr)) (fp : List Addr), PE (X.blk s H scope (compEnvC scope cl C X.env) fp) elt te) (hs : ∀ x, foldedSetIterable iter X.env x = pure x)
    (h : tLc wi g tt te (own.map (·.2)) σ H Q)
    (hRR : ∀ D C s' m H', Inv X pins σ H' s' → Q (.ref D) H' → s'.heap.Ns C m → FpOk X pins H' C → compPost (model X.prog X.w) X.A X.xe use Qf (.ref D) C (.ok .next) s') :
    wpAny (model X.prog X.w) X.A (comprehension (.ListComp elt [⟨tg, iter, ifs, 0⟩] scope pos) scope X.env pos' (newList []) false (eval iter X.env) use) Qf X.xe s := by
  have hfree : ∀ y ∈ scope.names, y.2 = .free → ∃ c, X.env.cells.lookup y.1 = some c := fun y hy e => by
    rcases ok.free y hy e with k | k
    · exact I.ok.has _ (.inl k)
    · exact I.ok.has _ (.inr k)
  refine wpAny_comprehension_free (use := use) rfl hs (closure_ok hfree) ok.kind (fun y hy e => by rw [ok.uniq y hy, e])
    (thn (hi pins s σ H _ I h) fun xv s1 hx => thn hx fun itv s2 h2 => ?_)
  obtain ⟨it, fp, tn, J, H2, e, I2, T, st2, f2, q⟩ := h2
  subst e
  refine wpAny_newObj_type (newEnv_comp ?_) (by show 0 ≤ sizeLine; decide)
  generalize hD : s2.heap.objs.size = D
  have hDn : H2 D = none := I2.hok.fresh (Nat.le_of_eq hD)
  obtain ⟨W, ⟨m0, w0⟩, turn⟩ := q D hDn
  -- the new list
  generalize hs3 : ({ s2 with heap := s2.heap.push { cls := .type "list", data := .seq ([] : List Value).toArray } } : Shared) = s3
  have I3 : Inv X pins σ (upd H2 D (.lst [])) s3 := by
    rw [← hs3]
    refine I2.laid (t' := s2.toks) (fun b o e => Heap.get?_push_of_some _ e) (Nat.le_of_eq hD) ⟨Nat.zero_le _, [], 0, .nil, ?_⟩
    rw [← hD]
    exact Heap.get?_push_size _ rfl
  have h3 : s3.heap = s2.heap.push { cls := .type "list", data := .seq ([] : List Value).toArray } := by rw [← hs3]
  have sz : ∀ b ∈ fp, b < s2.heap.objs.size := fun b hb => by
    obtain ⟨o, e, _⟩ := T.obj _ _ st2 b hb
    exact Heap.lt_size e
  have f3 : ∀ b ∈ fp, FpOk X pins (upd H2 D (.lst [])) b ∧ b < s3.heap.objs.size := fun b hb => by
    have hlt := sz b hb
    refine ⟨⟨?_, (f2 b hb).2⟩, by rw [h3, Heap.size_push]; exact Nat.lt_succ_of_lt hlt⟩
    rw [upd_ne (by rw [← hD]; exact Nat.ne_of_lt hlt)]
    exact (f2 b hb).1
  have st3 : tn 0 s3.heap := T.keep _ _ _ st2 fun b _ o e => by rw [h3]; exact Heap.get?_push_of_some _ e
  have I4 := block_start I3 ok hN f3
  have pg := hg s3 (upd H2 D (.lst [])) s3.heap.objs.size (cellsFrom (s3.heap.objs.size + 1) scope.names (cloFrom X.env.cells scope.names [])) fp
  have pt := ht s3 (upd H2 D (.lst [])) s3.heap.objs.size (cellsFrom (s3.heap.objs.size + 1) scope.names (cloFrom X.env.cells scope.names [])) fp
  have pe := he s3 (upd H2 D (.lst [])) s3.heap.objs.size (cellsFrom (s3.heap.objs.size + 1) scope.names (cloFrom X.env.cells scope.names [])) fp
  show codeAny _ _ (.compStart (.ListComp elt [⟨tg, iter, ifs, 0⟩] scope pos) 0 (.ref it) (.ref D) (compEnvC scope (cellsFrom (s3.heap.objs.size + 1) scope.names (cloFrom X.env.cells scope.names [])) s3.heap.objs.size X.env)) (compPost (model X.prog X.w) X.A X.xe use Qf (.ref D) s3.heap.objs.size) { s3 with heap := pushCells (s3.heap.push { cls := .type "dict", data := .dict #[] }) scope.names }
  have nfp : ∀ b ∈ fp, (upd H2 D (.lst [])) b = none := fun b hb => (f3 b hb).1.1
  generalize hce : compEnvC scope (cellsFrom (s3.heap.objs.size + 1) scope.names (cloFrom X.env.cells scope.names [])) s3.heap.objs.size X.env = ce at I4 pg pt pe ⊢
  have cL : ce.locals = s3.heap.objs.size := by subst hce; rfl
  generalize hH3 : upd H2 D (.lst []) = H3 at I3 I4 pg pt pe w0 nfp f3
  generalize hs4 : ({ s3 with heap := pushCells (s3.heap.push { cls := .type "dict", data := .dict #[] }) scope.names } : Shared) = s4 at I4 ⊢
  have st4 : tn 0 s4.heap := T.keep _ _ _ st3 fun b _ o e => by rw [← hs4]; exact pushCells_keeps _ _ _ _ (Heap.get?_push_of_some _ e)
  have stat : ∀ {σ' : St} {H' : Hp} {s' : Shared}, Inv (X.blk s3 H3 scope ce fp) [] σ' H' s' → (∀ b ∈ fp, H' b = none) → ∀ b ∈ fp, FpOk (X.blk s3 H3 scope ce fp) [] H' b := fun {σ' H' s'} I' hn b hb =>
    ⟨hn b hb, (I'.ok.exf b hb).1, I'.ok.exfs b hb, .inl hb, fun x c e => (I'.ok.exf b hb).2 x c e, fun p hp => absurd (show p ∈ ([] : List (Addr × Obj)) ++ [] from hp) (by simp)⟩
  have loop : codeAny (model X.prog X.w) X.A (.compLoop (.ListComp elt [⟨tg, iter, ifs, 0⟩] scope pos) 0 (.ref it) (.ref D) ce) (compPost (model X.prog X.w) X.A X.xe use Qf (.ref D) s3.heap.objs.size) s4 := by
    refine compLoop_any (fun n s' => ∃ i H', Inv (X.blk s3 H3 scope ce fp) [] (wipe σ (own.map (·.2))) H' s' ∧ tn i s'.heap ∧ (∀ b ∈ fp, H' b = none) ∧ W i n H') ?_ m0 ⟨0, H3, I4, st4, nfp, w0⟩
    rintro n s5 ⟨i, H5, I5, st5, n5, w5⟩
    rcases turn i n H5 w5 with ⟨stop, qq⟩ | ⟨go, Nx, hNx, step⟩
    · have td := T.done (X.blk s3 H3 scope ce fp) rfl rfl rfl hc i [] s5 _ H5 (fun _ _ => False) I5 (stat I5 n5) st5 stop
      refine thnF td fun r s6 ⟨hr, I6⟩ => ?_
      subst hr
      -- back in the def's context
      have I7 : Inv X pins σ H5 s6 := I3.call' (ch := fp) I6.os I6.base I6.hok I6.bare fun b hb => ⟨(f3 b hb).1.2.2.2.1, (f3 b hb).1.2.1, (f3 b hb).1.2.2.2.2.1, (f3 b hb).1.2.2.2.2.2⟩
      have nC : H5 s3.heap.objs.size = none := by
        have z : H5 ce.locals = none := I6.free
        rw [cL] at z
        exact z
      obtain ⟨m, hn, _⟩ := I6.loc
      have hn : s6.heap.Ns ce.locals m := hn
      rw [cL] at hn
      exact hRR D s3.heap.objs.size s6 m H5 I7 qq hn (I3.fpOk (Nat.le_refl _) nC)
    · have ti := T.item (X.blk s3 H3 scope ce fp) rfl rfl rfl hc i [] s5 _ H5 (fun _ _ => False) I5 (stat I5 n5) st5 go
      refine thnF ti fun r s6 ⟨u, hr, h6⟩ => ?_
      subst hr
      refine thnF h6 fun _ s7 ⟨x, H7, I7, r7, y7, st7, n7⟩ => ?_
      have I7' := I7.pinned (stat I7 n7) (T.obj _ _ st7)
      refine thnF (pg _ s7 _ H7 x u _ I7' r7 (step x H7 y7)) fun _ s8 ⟨σ8, H8, I8, hw8, q8⟩ => ?_
      refine thnF (pt _ s8 σ8 H8 _ I8 q8) fun b s9 ⟨H9, I9, q9⟩ => ?_
      -- the turn's end
      have fin : ∀ {s' : Shared} {H' : Hp}, Inv (X.blk s3 H3 scope ce fp) ([] ++ pinsAt fp s7.heap) σ8 H' s' → Nx H' → ∃ m, m < n ∧ ∃ i H', Inv (X.blk s3 H3 scope ce fp) [] (wipe σ (own.map (·.2))) H' s' ∧ tn i s'.heap ∧ (∀ b ∈ fp, H' b = none) ∧ W i m H' := fun {s' H'} I' nx => by
        obtain ⟨m', hm, w'⟩ := hNx H' nx
        have pin' : ∀ b ∈ fp, ∀ o, s7.heap.get? b = some o → s'.heap.get? b = some o ∧ H' b = none := fun b hb o e =>
          let z := I'.pin (b, o) (List.mem_append_right _ (List.mem_append_right _ (mem_pinsAt hb e)))
          ⟨z.1, z.2.1⟩
        have hl : (wipe σ (own.map (·.2))).length = σ8.length := by rw [← hw8, wipe_length]
        refine ⟨m', hm, i + 1, H', (I'.unpinned (pins := [])).weak hl (fun j v e => ?_), T.keep _ _ _ st7 fun b hb o e => (pin' b hb o e).1, fun b hb => ?_, w'⟩
        · rw [← hw8] at e
          exact (wipe_some e).1
        · obtain ⟨o, e, _⟩ := T.obj _ _ st7 b hb
          exact (pin' b hb o e).2
      cases b with
      | false =>
        simp only [Bool.false_eq_true, if_false] at q9 ⊢
        exact fin I9 q9
      | true =>
        simp only [if_true] at q9 ⊢
        refine thnF (pe _ s9 σ8 H9 _ I9 q9) fun z s10 ⟨yv, H10, I10, r10, acc, hD10, hz10, nx⟩ => ?_
        exact app_ok (X := X.blk s3 H3 scope ce fp) I10 hD10 hz10 r10 fun s11 I11 => fin I11 nx
  exact codeAny_compStart_list loop (T.self X.A 0 _ _ _ st4 loop)
theorem pe_lc {elt tg iter : Expr} {ifs : List Expr} {scope : Scope} {own : List (Str × Nat)} {pos : Pos} {wi : TI} {g : TG} {tt : TT} {te : TE} (hc : X.calm = true) (hN : X.N.Nodup) (hi : PI X tg iter wi) (ok : BlkOk X.N X.env.scope scope own)
    (hg : ∀ (s : Shared) (H : Hp) (C : Addr) (cl : List (Str × Addr)) (fp : List Addr), PG (X.blk s H scope (compEnvC scope cl C X.env) fp) tg g) (ht : ∀ (s : Shared) (H : Hp) (C : Addr) (cl : List (Str × Addr)) (fp : List Addr), PTs (X.blk s H scope (compEnvC scope cl C X.env) fp) ifs tt)
    (he : ∀ (s : Shared) (H : Hp) (C : Addr) (cl : List (Str × Addr)) (fp : List Addr), PE (X.blk s H scope (compEnvC scope cl C X.env) fp) elt te) (hs : ∀ x, foldedSetIterable iter X.env x = pure x := by intro _; rfl) :
    PE X (.ListComp elt [⟨tg, iter, ifs, 0⟩] scope pos) (tLc wi g tt te (own.map (·.2))) := by
  intro pins s σ H Q I h
  rw [eval_ListComp]
  refine lc_core hc hN I hi ok hg ht he hs h fun D C s' m H' I' q hn f => ⟨m, hn, fun h'' sb => ?_⟩
  obtain ⟨f0, f1, f2, f3, f4, f5⟩ := f
  exact ⟨.ref D, H', I'.turned (t' := s'.toks) (fun b o hb e => (sb.2 b hb).trans e) f0 f1 f3 f4 f5, rfl, q⟩
end
def blkC (N : List Str) (sc scope : Scope) (own : List (Str × Nat)) : Bool :=
  (match scope.kind with | .function => true | _ => false) && (scope.names.all fun y => decide (scope.names.lookup y.1 = some y.2)) && (own.all fun p => decide (N[p.2]? = some p.1)) &&
    (scope.names.all fun y => match y.2 with
      | .free => (match sc.names.lookup y.1 with | some .cell => true | some .free => true | _ => false)
      | .local => decide (y.1 ∈ own.map (·.1)) || decide (y.1 ∉ N)
      | .cell => decide (y.1 ∈ own.map (·.1)) || decide (y.1 ∉ N)
      | _ => true)
theorem blkOk_by {N : List Str} {sc scope : Scope} {own : List (Str × Nat)} (h : blkC N sc scope own = true) : BlkOk N sc scope own := by
  unfold blkC at h
  simp only [Bool.and_eq_true, List.all_eq_true, decide_eq_true_eq] at h
  obtain ⟨⟨⟨h1, h2⟩, h3⟩, h4⟩ := h
  refine ⟨?_, h2, h3, fun y hy e => ?_, fun y hy e => ?_⟩
  · split at h1
    · assumption
    · cases h1
  · have q := h4 y hy
    simp only [e] at q
    split at q <;> first | exact .inl (by assumption) | exact .inr (by assumption) | cases q
  · have q := h4 y hy
    rcases e with e | e <;> (simp only [e, Bool.or_eq_true, decide_eq_true_eq] at q; exact q)
end L2
namespace L2
open PySem PySem.Spec PyProof.Rows
end L2
namespace L2
open PySem PySem.Spec PyProof.Rows
section
variable {κ : Type} [DecidableEq κ]
def valV (kvs : List (κ × V)) (k : κ) : Option V := (kvs.find? fun kv => decide (kv.1 = k)).map (·.2)
def putK (kvs : List (κ × V)) (k : κ) (v : V) : List (κ × V) :=
  if (kvs.any fun kv => decide (kv.1 = k)) = true then kvs.map (fun kv => if kv.1 = k then (kv.1, v) else kv) else kvs ++ [(k, v)]
def dropK (kvs : List (κ × V)) (k : κ) : List (κ × V) := kvs.filter fun kv => decide (kv.1 ≠ k)
theorem valV_pos {p : κ × V} {r : List (κ × V)} {k : κ} (e : p.1 = k) : valV (p :: r) k = some p.2 := by simp [valV, List.find?_cons, e]
theorem valV_neg {p : κ × V} {r : List (κ × V)} {k : κ} (e : ¬ p.1 = k) : valV (p :: r) k = valV r k := by simp [valV, List.find?_cons, e]
theorem valV_any (k : κ) : ∀ kvs : List (κ × V), (kvs.any fun kv => decide (kv.1 = k)) = (valV kvs k).isSome
  | [] => rfl
  | p :: r => by
    rw [List.any_cons]
    by_cases e : p.1 = k
    · simp only [valV_pos e, decide_eq_true e, Bool.true_or, Option.isSome_some]
    · rw [valV_neg e, decide_eq_false e, Bool.false_or]; exact valV_any k r
theorem RelO.isSome_eq {o : Option V} {u : Option Value} (r : RelO o u) : o.isSome = u.isSome := by
  cases o with
  | none => cases u with
    | none => rfl
    | some _ => exact (show False from r).elim
  | some _ => cases u with
    | none => exact (show False from r).elim
    | some _ => rfl
theorem RelO.getD {o : Option V} {u : Option Value} {d : V} {d' : Value} (r : RelO o u) (rd : RelV d d') : RelV (o.getD d) (u.getD d') := by
  cases o with
  | none => cases u with
    | none => exact rd
    | some _ => exact (show False from r).elim
  | some _ => cases u with
    | none => exact (show False from r).elim
    | some _ => exact r
theorem KV.val {kvs : List (κ × V)} {vs : List (κ × Value)} (r : KV kvs vs) (k : κ) : RelO (valV kvs k) (valueAt vs k) := by
  unfold KV at r
  induction r with
  | nil => exact True.intro
  | @cons p q ps qs h t ih =>
    obtain ⟨h1, h2⟩ := h
    by_cases e : p.1 = k
    · have e' : q.1 = k := h1.symm.trans e
      have b : valueAt (q :: qs) k = some q.2 := by simp [valueAt, List.find?_cons, e']
      rw [valV_pos e, b]; exact h2
    · have e' : ¬ q.1 = k := fun z => e (h1.trans z)
      have b : valueAt (q :: qs) k = valueAt qs k := by simp [valueAt, List.find?_cons, e']
      rw [valV_neg e, b]; exact ih
theorem KV.any {kvs : List (κ × V)} {vs : List (κ × Value)} (r : KV kvs vs) (k : κ) : (kvs.any fun kv => decide (kv.1 = k)) = vs.any fun kv => decide (kv.1 = k) := by
  unfold KV at r
  induction r with
  | nil => rfl
  | cons h t ih => rw [List.any_cons, List.any_cons, ih, h.1]
theorem KV.repl {kvs : List (κ × V)} {vs : List (κ × Value)} (r : KV kvs vs) (k : κ) {y : V} {u : Value} (ry : RelV y u) :
    KV (kvs.map fun kv => if kv.1 = k then (kv.1, y) else kv) (vs.map fun kv => if kv.1 = k then (kv.1, u) else kv) := by
  unfold KV at r ⊢
  induction r with
  | nil => exact .nil
  | @cons p q ps qs h t ih =>
    rw [List.map_cons, List.map_cons]
    refine .cons ?_ ih
    obtain ⟨h1, h2⟩ := h
    by_cases e : p.1 = k
    · rw [if_pos e, if_pos (h1.symm.trans e)]; exact ⟨h1, ry⟩
    · rw [if_neg e, if_neg (fun z => e (h1.trans z))]; exact ⟨h1, h2⟩
theorem KV.put {kvs : List (κ × V)} {vs : List (κ × Value)} (r : KV kvs vs) (k : κ) {y : V} {u : Value} (ry : RelV y u) : KV (putK kvs k y) (stored vs k u) := by
  unfold putK stored
  rw [r.any k]
  by_cases e : (vs.any fun kv => decide (kv.1 = k)) = true
  · rw [if_pos e, if_pos e]; exact r.repl k ry
  · rw [if_neg e, if_neg e]; exact Paired.snoc r ⟨rfl, ry⟩
theorem KV.drop {kvs : List (κ × V)} {vs : List (κ × Value)} (r : KV kvs vs) (k : κ) : KV (dropK kvs k) (without vs k) := by
  unfold KV at r ⊢
  unfold dropK without
  induction r with
  | nil => exact .nil
  | @cons p q ps qs h t ih =>
    obtain ⟨h1, h2⟩ := h
    rw [List.filter_cons, List.filter_cons]
    by_cases e : p.1 = k
    · have a : ¬ decide (p.1 ≠ k) = true := by simp [e]
      have b : ¬ decide (q.1 ≠ k) = true := by simp [h1.symm.trans e]
      rw [if_neg a, if_neg b]; exact ih
    · have e' : ¬ q.1 = k := fun z => e (h1.trans z)
      have a : decide (p.1 ≠ k) = true := by simp [e]
      have b : decide (q.1 ≠ k) = true := by simp [e']
      rw [if_pos a, if_pos b]; exact .cons ⟨h1, h2⟩ ih
theorem KV.keys {kvs : List (κ × V)} {vs : List (κ × Value)} (r : KV kvs vs) : kvs.map (·.1) = vs.map (·.1) := by
  unfold KV at r
  induction r with
  | nil => rfl
  | cons h t ih => rw [List.map_cons, List.map_cons, ih, h.1]
theorem KV.length {kvs : List (κ × V)} {vs : List (κ × Value)} (r : KV kvs vs) : kvs.length = vs.length := Paired.length r
end
abbrev KT (H : Hp) : List (List Key × V) → List (List Key × Addr × Value) → Prop := Paired fun p q => p.1 = q.1 ∧ H q.2.1 = some (.tup (p.1.map kV)) ∧ RelV p.2 q.2.2
theorem KT.val {H : Hp} {kvs : List (List Key × V)} {xs : List (List Key × Addr × Value)} (r : KT H kvs xs) (k : List Key) : RelO (valV kvs k) ((atKey xs k).map (·.2)) := by
  induction r with
  | nil => exact True.intro
  | @cons p q ps qs h t ih =>
    obtain ⟨h1, _, h2⟩ := h
    by_cases e : p.1 = k
    · have e' : q.1 = k := h1.symm.trans e
      have b : atKey (q :: qs) k = some q.2 := by simp [atKey, List.find?_cons, e']
      rw [valV_pos e, b]; exact h2
    · have e' : ¬ q.1 = k := fun z => e (h1.trans z)
      have b : atKey (q :: qs) k = atKey qs k := by simp [atKey, List.find?_cons, e']
      rw [valV_neg e, b]; exact ih
theorem KT.repl {H : Hp} {kvs : List (List Key × V)} {xs : List (List Key × Addr × Value)} (r : KT H kvs xs) (k : List Key) {y : V} {u : Value} (ry : RelV y u) :
    KT H (kvs.map fun kv => if kv.1 = k then (kv.1, y) else kv) (xs.map (putAt k u)) := by
  induction r with
  | nil => exact .nil
  | @cons p q ps qs h t ih =>
    rw [List.map_cons, List.map_cons]
    refine .cons ?_ ih
    obtain ⟨h1, h2, h3⟩ := h
    unfold putAt
    by_cases e : p.1 = k
    · rw [if_pos e, if_pos (h1.symm.trans e)]; exact ⟨h1, h2, ry⟩
    · rw [if_neg e, if_neg (fun z => e (h1.trans z))]; exact ⟨h1, h2, h3⟩
theorem KT.put {H : Hp} {kvs : List (List Key × V)} {xs : List (List Key × Addr × Value)} (r : KT H kvs xs) (k : List Key) {b : Addr} {y : V} {u : Value} (hb : H b = some (.tup (k.map kV))) (ry : RelV y u) :
    KT H (putK kvs k y) (storedH xs k b u) := by
  have e : (kvs.any fun kv => decide (kv.1 = k)) = (atKey xs k).isSome := by
    rw [valV_any, (r.val k).isSome_eq, Option.isSome_map]
  unfold putK storedH
  rw [e]
  by_cases q : (atKey xs k).isSome = true
  · rw [if_pos q, if_pos q]; exact r.repl k ry
  · rw [if_neg q, if_neg q]; exact Paired.snoc r ⟨rfl, hb, ry⟩
theorem KT.keeps {H H' : Hp} {kvs : List (List Key × V)} {xs : List (List Key × Addr × Value)} (r : KT H kvs xs) (ht : ∀ b ys, H b = some (.tup ys) → H' b = some (.tup ys)) : KT H' kvs xs :=
  Paired.mapP r fun _ _ z => ⟨z.1, ht _ _ z.2.1, z.2.2⟩
def DGet (H : Hp) (a : Addr) (y : V) (r : Option V) : Prop :=
  (∃ kvs k, Rd H a (.dK kvs) ∧ y = kV k ∧ r = valV kvs k) ∨ ∃ kvs k b, Rd H a (.dT kvs) ∧ y = .ref b ∧ H b = some (.tup (k.map kV)) ∧ r = valV kvs k
def DPut (H : Hp) (a : Addr) (y v : V) (H' : Hp) : Prop :=
  (∃ kvs k, H a = some (.dK kvs) ∧ y = kV k ∧ kvs.length < sizeLine ∧ H' = upd H a (.dK (putK kvs k v))) ∨
  ∃ kvs k b, H a = some (.dT kvs) ∧ y = .ref b ∧ H b = some (.tup (k.map kV)) ∧ kvs.length < sizeLine ∧ H' = upd H a (.dT (putK kvs k v))
theorem DGet.k {H : Hp} {a : Addr} {kvs : List (Key × V)} {k : Key} (e : H a = some (.dK kvs)) : DGet H a (kV k) (valV kvs k) := .inl ⟨kvs, k, .inl e, rfl, rfl⟩
theorem DGet.t {H : Hp} {a b : Addr} {kvs : List (List Key × V)} {k : List Key} (e : H a = some (.dT kvs)) (eb : H b = some (.tup (k.map kV))) : DGet H a (.ref b) (valV kvs k) := .inr ⟨kvs, k, b, .inl e, rfl, eb, rfl⟩
theorem DPut.k {H : Hp} {a : Addr} {kvs : List (Key × V)} {k : Key} {v : V} (e : H a = some (.dK kvs)) (hl : kvs.length < sizeLine) : DPut H a (kV k) v (upd H a (.dK (putK kvs k v))) := .inl ⟨kvs, k, e, rfl, hl, rfl⟩
theorem DPut.t {H : Hp} {a b : Addr} {kvs : List (List Key × V)} {k : List Key} {v : V} (e : H a = some (.dT kvs)) (eb : H b = some (.tup (k.map kV))) (hl : kvs.length < sizeLine) :
    DPut H a (.ref b) v (upd H a (.dT (putK kvs k v))) := .inr ⟨kvs, k, b, e, rfl, eb, hl, rfl⟩
end L2
namespace L2
open PySem PySem.Spec PyProof.Rows
end L2
namespace L2
open PySem PySem.Spec PyProof.Rows
section
variable {X : Cx} {pins : List (Addr × Obj)} {σ : St} {H : Hp} {s : Shared} {h' : Heap}
theorem Inv.turnedL {t' : Nat} {ch : List Addr} (I : Inv X pins σ H s) (k : ∀ b o, b ∉ ch → s.heap.get? b = some o → h'.get? b = some o) (hf : ∀ b ∈ ch, FpOk X pins H b) : Inv X pins σ H { s with heap := h', toks := t' } := by
  have nit : ∀ b u, H b = some u → b ∉ ch := fun b u e z => by
    have q := (hf b z).1
    rw [q] at e; cases e
  refine I.step (g' := s.gens) (d' := s.drawn) (ch := ch) (fun b hb => ⟨(hf b hb).2.2.2.1, (hf b hb).2.1, (hf b hb).2.2.2.2.1, (hf b hb).2.2.2.2.2⟩) (fun b o _ _ hc e _ => k b o hc e) (fun b o _ _ hc e _ => ⟨o.slots, k b o hc e⟩)
    (fun _ _ _ _ n => n) (fun b o hc e => ⟨o, k b o hc e⟩) (fun _ _ e => e) (fun _ _ _ e => e) (fun b ps e => ⟨#[], by rw [e]; simp⟩) (fun m hm => ?_) (fun b u e => ?_) I.bare
  · obtain ⟨o, es, ep, ho, r⟩ := hm
    exact ⟨o, es, ep, k _ o (fun z => (hf _ z).2.1 rfl) ho, r⟩
  · refine (I.hok b u e).stay (fun c v hc q => k c v ?_ q) (fun _ q => q) fun _ _ q => q
    rcases hc with z | z
    · rw [z]; exact nit b u e
    · exact nit c _ z
theorem Inv.turnedNew {t' : Nat} {ch : List Addr} {T : Addr} {ob : HO} (I : Inv X pins σ H s) (k : ∀ b o, b ∉ ch → s.heap.get? b = some o → h'.get? b = some o) (hf : ∀ b ∈ ch, FpOk X pins H b) (hT : s.heap.objs.size ≤ T)
    (new : ObjOk X.prog X.w (upd H T ob) h' T ob) : Inv X pins σ (upd H T ob) { s with heap := h', toks := t' } := by
  have hn : H T = none := I.hok.fresh hT
  have nit : ∀ b u, H b = some u → b ∉ ch := fun b u e z => by
    have q := (hf b z).1
    rw [q] at e; cases e
  refine I.step (g' := s.gens) (d' := s.drawn) (ch := ch) (fun b hb => ⟨(hf b hb).2.2.2.1, (hf b hb).2.1, (hf b hb).2.2.2.2.1, (hf b hb).2.2.2.2.2⟩) (fun b o _ _ hc e _ => k b o hc e) (fun b o _ _ hc e _ => ⟨o.slots, k b o hc e⟩)
    (fun b o _ e n => ?_) (fun b o hc e => ⟨o, k b o hc e⟩) (fun b xs e => ?_) (fun b o u e => ?_) (fun b ps e => ⟨#[], ?_⟩) (fun m hm => ?_) (fun b u e => ?_) I.bare
  · rw [upd_ne (Nat.ne_of_lt (Nat.lt_of_lt_of_le (Heap.lt_size e) hT))]; exact n
  · rw [upd_ne (ne_of_none e hn)]; exact e
  · rw [upd_ne (ne_of_none e hn)]; exact e
  · rw [upd_ne (ne_of_none e hn), e]; simp
  · obtain ⟨o, es, ep, ho, r⟩ := hm
    exact ⟨o, es, ep, k _ o (fun z => (hf _ z).2.1 rfl) ho, r⟩
  · by_cases hb : b = T
    · subst hb
      rw [upd_same] at e
      cases e
      exact new
    · rw [upd_ne hb] at e
      refine (I.hok b u e).stay (fun c v hc q => k c v ?_ q) (fun c q => by rw [upd_ne (ne_of_none q hn)]; exact q) fun c xs q => by rw [upd_ne (ne_of_none q hn)]; exact q
      rcases hc with z | z
      · rw [z]; exact nit b u e
      · exact nit c _ z
theorem Inv.lock {d : Addr} {u : HO} (I : Inv X pins σ H s) (h : H d = some u) (mu : Mut (some u)) : ∃ od, Inv X pins σ (upd H d (.frz od u)) s := by
  have x := I.hok d u h
  have ex : ∃ od, s.heap.get? d = some od := by
    cases u with
    | lst xs => obtain ⟨_, _, _, _, e⟩ := x; exact ⟨_, e⟩
    | dK kvs => obtain ⟨_, _, _, _, o, _, _, e, _⟩ := x; exact ⟨o, e⟩
    | dT kvs => obtain ⟨_, _, _, _, o, _, _, e, _⟩ := x; exact ⟨o, e⟩
    | set S n => obtain ⟨o, _, _, _, e, _⟩ := x; exact ⟨o, e⟩
    | ins C dx fs => obtain ⟨_, _, _, e, _⟩ := x; exact ⟨_, e⟩
    | ext φ => obtain ⟨_, ⟨_, e⟩, _⟩ := x; exact ⟨_, e⟩
    | _ => exact False.elim mu
  obtain ⟨od, e⟩ := ex
  have new : ObjOk X.prog X.w (upd H d (.frz od u)) s.heap d (.frz od u) := by
    refine ⟨e, x.stay (fun b v _ q => q) (fun b q => ?_) fun b xs q => ?_⟩
    · rw [upd_ne (fun z => by rw [z, h] at q; cases q; exact mu)]; exact q
    · rw [upd_ne (fun z => by rw [z, h] at q; cases q; exact mu)]; exact q
  exact ⟨od, I.write (x := d) (e := d) (t' := s.toks) (h' := s.heap) (by rw [h]; exact mu) (.inl rfl) (fun b v _ q => q) ⟨od, e⟩ new⟩
end
section
variable {X : Cx}
theorem pi_one {tg : Expr} {pins : List (Addr × Obj)} {σ : St} {H : Hp} {s : Shared} {R : It → Hp → Prop} {J : It} {tn : Nat → Heap → Prop} {tk : Nat} (I : Inv X pins σ H s) (o : Obj)
    (T : Turn X.prog X.w X.K tg J [s.heap.objs.size] s.heap.objs.size tn) (st : tn 0 (s.heap.push o)) (q : R J H) : PIE X pins σ tg R (.ref s.heap.objs.size) { s with heap := s.heap.push o, toks := tk } := by
  refine ⟨s.heap.objs.size, [s.heap.objs.size], tn, J, H, rfl, I.kept fun b ob e => Heap.get?_push_of_some _ e, T, st, fun b hb => ?_, q⟩
  have e : b = s.heap.objs.size := by simpa using hb
  subst e
  exact I.fpOk (Nat.le_refl _) (I.hok.fresh (Nat.le_refl _))
end
def RgC (i j c : Int) (n : Nat) : Prop := c ≠ 0 ∧ c.natAbs < 1073741824 ∧ Builtin.Range.small i j c = true ∧ Builtin.Range.rangeSize i j c = n
theorem RgC.neg {i j : Int} (ha : -(2 ^ 62) ≤ i) (ha' : i < 2 ^ 62) (hb : -(2 ^ 62) ≤ j) (hb' : j < 2 ^ 62) : RgC i j (-1) (i - j).toNat :=
  ⟨by decide, by decide, PySem.W.small_down ha ha' hb hb', PySem.W.rangeSize_downNat i j⟩
def Its (x : Str) : It := ⟨fun i _ => i < x.cps.size, fun i H v H' => H' = H ∧ ∃ c, x.cps[i]? = some c ∧ v = .str ⟨#[c]⟩, fun i _ => x.cps.size ≤ i⟩
theorem turn_str {P : Program} {w : World} {K : PySem.W.Frag} {tg : Expr} (it : Addr) (x : Str) (t : Tok) (ty : String) (hty : ty = "str_ascii_iterator" ∨ ty = "str_iterator") :
    Turn P w K tg (Its x) [it] it (fun i h => h.IsStrIter it ty x t i) where
  mem := by simp
  obj := fun i h st b hb => by
    have e : b = it := by simpa using hb
    subst e
    obtain ⟨o, e, c, d⟩ := st
    exact ⟨o, e, fun v z => by rw [d] at z; cases z⟩
  keep := fun i h h' st k => let ⟨o, ho, r⟩ := st; ⟨o, k it (by simp) o ho, r⟩
  item := by
    intro X hP hw hK hc i pins s σ H E I hf st hg
    subst hP hw hK
    obtain ⟨f0, f1, f2, f3, f4, f5⟩ := hf it (by simp)
    have W : Walks X.prog X.w X.A it [it] [it] x.cps.size (SignAt x) (fun i h => h.IsStrIter it ty x t i) := by
      rcases hty with e | e
      · rw [e]; exact Walks.strAscii (I.ok.hd hc) it x t
      · rw [e]; exact Walks.strWide (I.ok.hd hc) it x t
    have hno : ["enumerate", "zip", "dict_itemiterator", "dict_reverseitemiterator", "odict_iterator", "itertools.zip_longest", "itertools.pairwise"].contains ty = false := by
      rcases hty with e | e
      · rw [e]; decide
      · rw [e]; decide
    refine W.item i s _ _ hg st fun v h' tk hv st' kk => ?_
    obtain ⟨c, u, hcx, rfl⟩ := hv
    have I1 : Inv X pins σ H { s with heap := h', toks := tk } := I.turned (fun b o hb e => kk b o (by simpa using hb) e) f0 f1 f3 f4 f5
    obtain ⟨oi, e, cc, dd⟩ := id st'
    exact ⟨_, rfl, go_of (s := { s with heap := h', toks := tk }) e cc dd hno ⟨.str ⟨#[c]⟩, H, I1, ⟨u, rfl⟩, ⟨rfl, c, hcx, rfl⟩, st', fun b hb => (hf b hb).1⟩⟩
  done := by
    intro X hP hw hK hc i pins s σ H E I hf st hg
    subst hP hw hK
    obtain ⟨f0, f1, f2, f3, f4, f5⟩ := hf it (by simp)
    have hx : x.cps[i]? = none := Array.getElem?_eq_none hg
    rcases hty with e | e
    · rw [e] at st
      exact wpAny_pyNext_ascii_end (I.ok.hd hc) st hx fun h' eb => ⟨rfl, I.turned (t' := s.toks) (fun b o hb e => eb b o hb e) f0 f1 f3 f4 f5⟩
    · rw [e] at st
      exact wpAny_pyNext_wide_end (I.ok.hd hc) st hx fun h' eb => ⟨rfl, I.turned (t' := s.toks) (fun b o hb e => eb b o hb e) f0 f1 f3 f4 f5⟩
  self := fun A i s Q E st h => by
    rcases hty with e | e
    · rw [e] at st; exact wpAny_pyIter_striter_ascii st h
    · rw [e] at st; exact wpAny_pyIter_striter_wide st h
def iStr (te : TE) : TI := fun σ H R => te σ H fun v H1 => ∃ x, v = .str x ∧ R (Its x) H1
theorem pi_str {X : Cx} {tg e : Expr} {te : TE} (he : PE X e te) : PI X tg e (iStr te) := by
  intro pins s σ H R I h
  refine thn (he pins s σ H _ I h) fun v s1 ⟨y, H1, I1, r1, x, ex, q⟩ => ?_
  subst ex
  obtain ⟨t, rfl⟩ := r1
  cases ha : x.cps.all (· < 128)
  · exact wpAny_pyIter_wide ha (pi_one (tk := s1.toks) I1 _ (turn_str _ x t "str_iterator" (.inr rfl)) ⟨_, Heap.get?_push_size _ rfl, rfl, rfl⟩ q)
  · exact wpAny_pyIter_ascii ha (pi_one (tk := s1.toks) I1 _ (turn_str _ x t "str_ascii_iterator" (.inl rfl)) ⟨_, Heap.get?_push_size _ rfl, rfl, rfl⟩ q)
theorem boot_zip5 : bootBuiltins "zip" = some (.type "zip") := by decide +kernel
end L2
section 
namespace Bits
open PySem PyProof.Rows
end Bits
end 
section 
namespace TL
open PySem PySem.Builtin PySem.Builtin.Str PySem.StrLaws
abbrev tl (x : Str) : List Nat := x.cps.toList
def pre (S l : List Nat) : Bool := l.take S.length == S
def par (S : List Nat) : List Nat → List Nat → Option (List Nat × List Nat)
  | _, [] => none
  | acc, c :: r => if pre S (c :: r) = true then some (acc, (c :: r).drop S.length) else par S (acc ++ [c]) r
end TL
end 
namespace L2
open PySem PySem.Spec PyProof.Rows
section
variable {X : Cx}
theorem call_int_str : CallR X (.type "int") (fun xs H Q => ∃ a n, xs = [.str a] ∧ PySem.intText? a = some n ∧ a.length ≤ 640 ∧ Q (.int n) H) := by
  intro pins s σ H xs us Q I rs h
  obtain ⟨a, n, rfl, hn, hl, h⟩ := h
  cases rs with
  | cons r1 rs =>
    cases rs
    obtain ⟨t, rfl⟩ := r1
    exact PySem.W.KIN.call_text hn hl ⟨.int n, H, I.tok _, ⟨_, rfl⟩, h⟩
end
end L2
namespace L2
open PySem PySem.Spec PyProof.Rows
section
variable {X : Cx}
theorem op_in_sign : OpR X (compareOp .In) (fun x y H Q => ∃ (c : Nat) (z : Str), x = .str ⟨#[c]⟩ ∧ y = .str z ∧ Q (.bl (decide (c ∈ z.cps.toList))) H) := by
  intro pins s σ H x y v u Q I rx ry h
  obtain ⟨c, z, rfl, rfl, q⟩ := h
  obtain ⟨t, rfl⟩ := rx
  obtain ⟨t', rfl⟩ := ry
  exact PyProof.Rows.in_str (fin_bl I q (PySem.StrLaws.found_one z c).symm)
end
theorem IsPart.raw {v : Value} {o : Option Int} (p : IsPart v o) : ∃ l : Option (Int × Tok), v = partValue l ∧ l.map (·.1) = o := by
  cases p with
  | none => exact ⟨none, rfl, rfl⟩
  | int i t => exact ⟨some (i, t), rfl, rfl⟩
def clipS (n d : Nat) : Option Int → Int
  | none => (d : Int)
  | some i => max 0 (min (if i < 0 then i + (n : Int) else i) (n : Int))
theorem clipS_eq (n d : Nat) (o : Option Int) : clipS n d o = ((HT.sIx n d o : Nat) : Int) := by
  cases o with
  | none => rfl
  | some v =>
    show max (0 : Int) (min (if v < 0 then v + (n : Int) else v) (n : Int)) = (((if v < 0 then (v + (n : Int)).toNat else min v.toNat n) : Nat) : Int)
    by_cases hv : v < 0
    · simp only [if_pos hv]
      omega
    · simp only [if_neg hv]
      omega
theorem sidx_clip (a b : Option Int) (n : Nat) : Builtin.Str.strSliceIndices a b 1 n = sliceRange (clipS n 0 a) (clipS n n b) 1 := by
  have h1 : ((1 : Int) > 0) = True := by simp
  cases a <;> cases b <;> first
    | rfl
    | (simp only [Builtin.Str.strSliceIndices, clipS, h1, if_true]; rfl)
    | simp [Builtin.Str.strSliceIndices, clipS]
theorem sidx (a b : Option Int) (n : Nat) : Builtin.Str.strSliceIndices a b 1 n = (List.range (HT.sIx n n b - HT.sIx n 0 a)).map (fun k => HT.sIx n 0 a + k) := by
  rw [sidx_clip, clipS_eq, clipS_eq]
  generalize HT.sIx n 0 a = p
  generalize HT.sIx n n b = q
  simp only [sliceRange, show ((1 : Int) > 0) = True from by simp, if_true]
  by_cases hlt : (p : Int) < q
  · have e3 : (((q : Int) - p + 1 - 1) / 1).toNat = q - p := by first | omega | (simp; done) | (simp; omega)
    simp only [hlt, if_true, e3]
    refine List.map_congr_left fun k _ => ?_
    omega
  · have : q - p = 0 := by omega
    simp [hlt, this]
def cutS (z : Str) (lo hi : Option Int) : Str :=
  ⟨((z.cps.toList.drop (HT.sIx z.length 0 lo)).take (HT.sIx z.length z.length hi - HT.sIx z.length 0 lo)).toArray⟩
theorem sliceText_cut (z : Str) (lo hi : Option Int) : PySem.StrLaws.sliceText z lo hi = cutS z lo hi := by
  have h1 : HT.sIx z.length 0 lo ≤ z.length := HT.sIx_le _ _ (Nat.zero_le _) _
  have h2 : HT.sIx z.length z.length hi ≤ z.length := HT.sIx_le _ _ (Nat.le_refl _) _
  have hp : HT.sIx z.length 0 lo ≤ max (HT.sIx z.length 0 lo) (HT.sIx z.length z.length hi) := Nat.le_max_left _ _
  have hq : max (HT.sIx z.length 0 lo) (HT.sIx z.length z.length hi) ≤ z.length := Nat.max_le.mpr ⟨h1, h2⟩
  have hd : max (HT.sIx z.length 0 lo) (HT.sIx z.length z.length hi) - HT.sIx z.length 0 lo = HT.sIx z.length z.length hi - HT.sIx z.length 0 lo := by omega
  have e : Builtin.Str.strSliceIndices lo hi 1 z.length =
      Builtin.Str.strSliceIndices (some ((HT.sIx z.length 0 lo : Nat) : Int)) (some ((max (HT.sIx z.length 0 lo) (HT.sIx z.length z.length hi) : Nat) : Int)) 1 z.length := by
    rw [PySem.StrLaws.strSliceIndices_plain hp hq, hd, sidx]
  have e2 : PySem.StrLaws.sliceText z lo hi =
      PySem.StrLaws.sliceText z (some ((HT.sIx z.length 0 lo : Nat) : Int)) (some ((max (HT.sIx z.length 0 lo) (HT.sIx z.length z.length hi) : Nat) : Int)) := by
    unfold PySem.StrLaws.sliceText
    rw [e]
  rw [e2, PySem.StrLaws.sliceText_nat z hp hq, hd]
  rfl
theorem cutS_length (z : Str) (lo hi : Option Int) : (cutS z lo hi).length ≤ z.length := by
  show (((z.cps.toList.drop (HT.sIx z.length 0 lo)).take (HT.sIx z.length z.length hi - HT.sIx z.length 0 lo)).toArray).size ≤ z.cps.size
  rw [List.size_toArray, List.length_take, List.length_drop, Array.length_toList]
  omega
def rSlS : V → Option Int → Option Int → Hp → VK → Prop := fun x lo hi H Q => ∃ z, x = .str z ∧ z.length ≤ sizeLine ∧ Q (.str (cutS z lo hi)) H
theorem sl_str {X : Cx} : SlR X rSlS := by
  intro pins s σ H x v vl vu lo hi sl Q I rx hs pl pu h
  obtain ⟨z, rfl, hz, q⟩ := h
  obtain ⟨t, rfl⟩ := rx
  obtain ⟨os, hos, hcs, hds⟩ := hs
  obtain ⟨l, rfl, rfl⟩ := IsPart.raw pl
  obtain ⟨u, rfl, rfl⟩ := IsPart.raw pu
  refine ⟨"str", _, F.slot_str_getitem.lookup, typeIs_str _ _ _, ?_⟩
  refine wpAny_getItem_str_slice (l := l) (u := u) (st := none) ⟨os, hos, hcs, hds⟩ rfl ?_
  have hl : (PySem.StrLaws.sliceText z (l.map (·.1)) (u.map (·.1))).length ≤ sizeLine := by
    rw [sliceText_cut]
    exact Nat.le_trans (cutS_length z _ _) hz
  rw [← sliceText_cut] at q
  unfold PySem.StrLaws.sliceText at q hl
  show Made.post (if ((1 : Int) == 1 && (Builtin.Str.strSliceIndices (l.map (·.1)) (u.map (·.1)) 1 z.length).length == z.length) = true then Made.val (.str z t)
    else Made.str ⟨((Builtin.Str.strSliceIndices (l.map (·.1)) (u.map (·.1)) 1 z.length).filterMap (z.cps[·]?)).toArray⟩) (EP X pins σ Q) s
  by_cases c : ((1 : Int) == 1 && (Builtin.Str.strSliceIndices (l.map (·.1)) (u.map (·.1)) 1 z.length).length == z.length) = true
  · rw [if_pos c] at q ⊢
    exact ⟨.str z, H, I, ⟨t, rfl⟩, q⟩
  · rw [if_neg c] at q hl ⊢
    exact ⟨hl, .str _, H, I.tok _, ⟨_, rfl⟩, q⟩
end L2
namespace Att
open PySem PySem.W PySem.Calls PyProof.Rows
theorem ints_of_wellAll {P : Params} {h : Heap} : ∀ (ns : List Int) (vs : List Value), WellAll P h vs (ns.map WData.int) → IntsAre vs ns := by
  intro ns
  induction ns with
  | nil =>
    intro vs w
    rw [List.map_nil] at w
    cases w
    exact .nil
  | cons n ns ih =>
    intro vs w
    rw [List.map_cons] at w
    cases w with
    | cons a b =>
      cases a
      exact .cons _ _ (ih _ b)
theorem script_of {l : OpenLaw} {n : Nat} (hn : l.most = some n) {P : Params} {h : Heap} {args : List WData} {vals : List Value}
    (hpre : l.row.toRowW.claim.pre args = true) (hwl : WellAll P h vals args) :
    ∃ a vs ns, vals = [Value.ref a] ∧ args = [WData.list (ns.map WData.int)] ∧ h.get? a = some { cls := .type "list", data := .seq vs.toArray } ∧ IntsAre vs ns ∧ ns.length ≤ n := by
  have hsh : WShape.hasAll [] args [.list .int] = true := (pre_splitW hpre).1
  have hc : l.pre.holds [] { args := args } = true := (pre_splitW hpre).2
  obtain ⟨d, r, rfl, h1, h2⟩ := hasAllW_cons hsh
  obtain rfl := hasAllW_nil h2
  obtain ⟨xs, rfl, h3⟩ := hasW_list h1
  obtain ⟨ns, rfl⟩ := items_int h3
  have hlen : ns.length ≤ n := by
    unfold OpenLaw.pre at hc
    have h4 : (WTm.not (.lt (.lit (.int (n : Int))) (.len (.arg 0)))).holds [] { args := [.list (ns.map .int)] } = true := by
      have h4 := (holds_andW hc).1
      rw [hn] at h4
      exact h4
    have h5 := condW_of h4 (w_not (w_lt w_lit (w_len_list (w_arg rfl))))
    rw [List.length_map] at h5
    refine Nat.le_of_not_lt fun q => ?_
    have q' : (n : Int) < ((ns.length : Nat) : Int) := by omega
    first
      | (rw [decide_eq_true q'] at h5; exact absurd h5 (by decide))
      | (simp at h5; omega)
  cases hwl with
  | cons w1 w2 =>
    cases w2
    cases w1 with
    | list ho hall => exact ⟨_, _, ns, rfl, rfl, ho, ints_of_wellAll ns _ hall, hlen⟩
theorem post_true (l : OpenLaw) (args : List WData) : l.row.toRowW.claim.post args (.bool true) args = true :=
  postW_of (r := l.row.toRowW) (X := (true == true))
    (show WShape.has [] (.bool true) .bool = true by first | rfl | decide | simp [WShape.has, WShape.arms, WShape.armsAll])
    (show (WTm.eq .res (.lit (.bool true))).value [] { args := args, res := some (.bool true), after := args } = some (.bool (true == true)) from w_eq_bool (w_res rfl) w_lit) rfl
theorem attach_call {l : OpenLaw} {n : Nat} {q : Program} {loose : List Str} {XP : (Str → Option Value) → Heap → Prop} {YP : World → Heap → Prop} {d : DefRec}
    (hn : l.most = some n) (hdf : d.params.defaults = [])
    (call : ∀ (w : World) (s₀ s₁ : Shared) (mg mb : Str → Option Value) (fa : Addr) (o : Obj) (pm cd doc : Value) (a : Addr) (vs : List Value) (ns : List Int),
      Ground q loose [] XP w s₀ mg mb s₁.heap → YP w s₁.heap →
      s₁.heap.get? fa = some o → o.data = .func (docDef d.name d.params d.body d.scope pm cd doc) → s₁.heap.CodeRec cd d.name → mg d.name = some (.ref fa) →
      s₁.heap.get? a = some { cls := .type "list", data := .seq vs.toArray } → IntsAre vs ns → ns.length ≤ n → s₁.gens = #[] →
      codeAny (model l.prog w) callerA (.call (.ref fa) ⟨[.ref a], []⟩) (fun r s' => r = .ok (.ret (.bool true)) ∧ OldK s₁.heap s'.heap ∧ s'.os = s₁.os ∧ AllBare s'.gens) s₁) :
    WalkO q loose XP YP l.row.toRowW d [] (fun f vs => PySem.call f vs) := by
  intro w s₀ s₁ mg mb G Y fa o pm cd doc dV kV ho hd hcd hD hmg hg args vals as hpre hlay hrd hwl hlo
  obtain rfl : dV = .none := Dflts.none hD hdf
  obtain rfl : kV = .none := Dflts.noKw hD
  obtain ⟨a, vs, ns, rfl, rfl, hobj, hints, hlen⟩ := script_of hn hpre hwl
  refine enter_call (codeAny_mono (call w s₀ s₁ mg mb fa o pm cd doc a vs ns G Y ho (fd_plain hd) hcd hmg hobj hints hlen hg) fun r s' hq => ?_)
  obtain ⟨rfl, h2, h3, h4⟩ := hq
  exact ⟨.inl ⟨.bool true, .bool true, [], rfl, fun _ => rfl, .bool true, post_true l _, fun _ => ⟨List.Pairwise.nil, fun _ hm => (nomatch hm)⟩⟩, h2, h3, h4⟩
end Att
namespace L2
open PySem PySem.Spec PyProof.Rows
theorem vals_ints : ∀ {vs : List Value} {ns : List Int}, IntsAre vs ns → Vals (ns.map V.int) vs
  | _, _, .nil => .nil
  | _, _, .cons n t h => .cons ⟨t, rfl⟩ (vals_ints h)
def Only (H : Hp) : Prop := ∀ b, H b = none ∨ ∃ o xs, H b = some (.frz o (.lst xs))
theorem law_call {P : Program} {w : World} {K : PySem.W.Frag} {mg mb : Str → Option Value} {CX : CXT} {k : Nat} {fa a : Addr} {fd : FuncData} {x : Str} {sp : Sp} {s₁ : Shared} {vs : List Value} {ns : List Int}
    (KX : K.In s₁.heap) (hns : s₁.heap.Ns mainGlobals mg) (hb : s₁.heap.Ns builtinsNs mb) (hbb : ∀ x : Str, x ≠ "__name__" → mb x = bootBuiltins x) (hlim : s₁.heap.NoLimit) (hg : s₁.gens = #[])
    (ha : s₁.heap.get? a = some { cls := .type "list", data := .seq vs.toArray }) (hi : IntsAre vs ns) (hl : ns.length ≤ sizeLine) (hr : Room k callerA)
    (F : ∀ base : Heap, K.In base → base.Ns mainGlobals mg → FnOk P w K mg base CX k fa fd [x] sp) (hbind : ∀ (s : Shared) (u : Value), BindsTo s fd ⟨[u], []⟩ [(x, u)])
    (hsp : ∀ H : Hp, Only H → SqL K H a (ns.map V.int) → sp [.ref a] H (fun v _ => v = .bl true) fun _ _ _ => False)
    (hCX : ∀ H e s', CX [] H s₁ (fun _ _ _ => False) e s' → False) :
    codeAny (model P w) callerA (.call (.ref fa) ⟨[.ref a], []⟩) (fun r s' => r = .ok (.ret (.bool true)) ∧ OldK s₁.heap s'.heap ∧ s'.os = s₁.os ∧ AllBare s'.gens) s₁ := by
  have rv := vals_ints hi
  have lenV := hi.length
  -- from an abstract heap in which nothing but the script may be tracked
  have core : ∀ H : Hp, Only H → SqL K H a (ns.map V.int) → HOk P w H s₁.heap → (∀ b, H b ≠ none → b = a) → (H a ≠ none → K.lookup a = none) →
      codeAny (model P w) callerA (.call (.ref fa) ⟨[.ref a], []⟩) (fun r s' => r = .ok (.ret (.bool true)) ∧ OldK s₁.heap s'.heap ∧ s'.os = s₁.os ∧ AllBare s'.gens) s₁ := by
    intro H hO hS hok hA hK
    have base_of : ∀ {b : Addr} {o : Obj}, s₁.heap.get? b = some o → H b = none → (hidT s₁.heap H).get? b = some o := fun e n => hidT_get e n
    have noA : ∀ {b : Addr} {o : Obj} {es : Array DictEntry} {ep : Nat}, s₁.heap.get? b = some o → o.data = .dict es ep → H b = none := fun {b o es ep} e d => by
      cases q : H b with
      | none => rfl
      | some u =>
        have e' : b = a := hA b (by rw [q]; simp)
        subst e'
        rw [ha] at e; cases e
        have d' : Data.seq vs.toArray _ = Data.dict es ep := d
        cases d'
    have nsK : ∀ {b : Addr} {m : Str → Option Value}, s₁.heap.Ns b m → (hidT s₁.heap H).Ns b m := fun {b m} ⟨o, es, ep, e, d, r⟩ => ⟨o, es, ep, base_of e (noA e d), d, r⟩
    have hKb : K.In (hidT s₁.heap H) := fun b o e => base_of (KX b o e) (by
      cases q : H b with
      | none => rfl
      | some u =>
        have e' : b = a := hA b (by rw [q]; simp)
        subst e'
        rw [hK (by rw [q]; simp)] at e; cases e)
    have hM : Mod K mg (hidT s₁.heap H) := ⟨hKb, nsK hns, ⟨mb, nsK hb, hbb⟩, let ⟨mc, h1, h2⟩ := hlim; ⟨mc, nsK h1, h2⟩⟩
    have e0 : Env0 P w K mg (hidT s₁.heap H) callerA [] s₁ H := ⟨rfl, hM, fun b o e => of_hidT e, Nat.le_of_eq (hidT_size _ _), trivial, fun b hb => absurd (show b ∈ ([] : List Addr) from hb) (by simp), hok, .of_eq hg⟩
    refine codeAny_mono ((F _ hKb (nsK hns)).run callerA [] s₁ H ⟨[.ref a], []⟩ [.ref a] [.ref a] _ _ hr e0 (hbind s₁ (.ref a)) (.cons rfl .nil) (hsp H hO hS)) fun r s' h => ?_
    cases r with
    | error e => exact (hCX H e s' h).elim
    | ok fl =>
      cases fl with
      | next => exact False.elim h
      | brk => exact False.elim h
      | cont => exact False.elim h
      | ret u =>
        obtain ⟨v, H', os, bare, un, hok', r', q⟩ := h
        have q' : v = .bl true := q
        subst q'
        obtain rfl : u = Value.bool true := r'
        refine ⟨rfl, OldK.of_keep fun b o e => ?_, os, bare⟩
        cases q : H b with
        | none => exact un.keep b o e q (by intro z; exact absurd (show b ∈ ([] : List Addr) from z) (by simp)) (by simp)
        | some u =>
          rcases hO b with z | ⟨ob, xs, z⟩
          · rw [q] at z; cases z
          · have z2 := un.frzs b ob _ z
            obtain ⟨e1, _⟩ := hok b _ z
            obtain ⟨e2, _⟩ := hok' b _ z2
            rw [e] at e1; cases e1
            exact e2
  cases hk : K.lookup a with
  | some o =>
    -- the script is one of the module's own objects
    have e := KX a o hk
    rw [ha] at e
    cases e
    refine core (fun _ => none) (fun _ => .inl rfl) (.inr ⟨_, vs.toArray, _, hk, rfl, rfl, rfl, by rw [List.size_toArray, lenV]; exact hl, by simpa using rv⟩) (fun b u z => by have z' : (none : Option HO) = some u := z; cases z') (fun b z => absurd rfl z) fun z => absurd rfl z
  | none =>
    refine core (fun b => if b = a then some (.frz { cls := .type "list", data := .seq vs.toArray } (.lst (ns.map V.int))) else none) (fun b => ?_) (.inl (.inr ⟨{ cls := .type "list", data := .seq vs.toArray }, if_pos rfl⟩)) (fun b u z => ?_) (fun b z => ?_) fun _ => hk
    · by_cases hb : b = a
      · exact .inr ⟨_, _, if_pos hb⟩
      · exact .inl (if_neg hb)
    · by_cases hb : b = a
      · have z' := (if_pos hb).symm.trans z
        cases z'
        subst hb
        exact ⟨ha, by rw [List.length_map]; exact hl, vs, _, rv, ha⟩
      · have z' := (if_neg hb).symm.trans z
        cases z'
    · by_cases hb : b = a
      · exact hb
      · exact absurd (if_neg hb) z
end L2
namespace L2
open PySem PySem.Spec PyProof.Rows
theorem walk_of {l : PySem.W.OpenLaw} {n k : Nat} {q : Program} {loose : List Str} {XP : (Str → Option Value) → Heap → Prop} {YP : World → Heap → Prop} {d : DefRec} {K : Params → PySem.W.Frag} {CX : World → CXT} {sp : World → Sp} {x : Str}
    (hn : l.most = some n) (hn2 : n ≤ sizeLine) (hdf : d.params.defaults = []) (hr : Room k callerA)
    (hY : ∀ (w : World) (h : Heap), YP w h → (K w.params).In h)
    (F : ∀ (w : World) (mg : Str → Option Value) (fa : Addr) (h : Heap), (K w.params).In h → h.Ns mainGlobals mg → mg d.name = some (.ref fa) →
      ∃ fd : FuncData, (∀ (s : Shared) (u : Value), BindsTo s fd ⟨[u], []⟩ [(x, u)]) ∧
        ∀ base : Heap, (K w.params).In base → base.Ns mainGlobals mg → FnOk l.prog w (K w.params) mg base (CX w) k fa fd [x] (sp w))
    (hsp : ∀ (w : World) (H : Hp) (a : Addr) (ns : List Int), ns.length ≤ n → Only H → SqL (K w.params) H a (ns.map V.int) → sp w [.ref a] H (fun v _ => v = .bl true) fun _ _ _ => False)
    (hCX : ∀ (w : World) (H : Hp) (s : Shared) (e : Value) (s' : Shared), CX w [] H s (fun _ _ _ => False) e s' → False) :
    PySem.W.WalkO q loose XP YP l.row.toRowW d [] (fun f vs => PySem.call f vs) := by
  refine Att.attach_call hn hdf fun w s₀ s₁ mg mb fa o pm cd doc a vs ns G Y ho hd hcd hmg hobj hints hlen hg => ?_
  have KX := hY w _ Y
  obtain ⟨fd, hb, hF⟩ := F w mg fa _ KX G.T.g hmg
  exact law_call KX G.T.g G.T.b G.T.builtins G.T.nolimit hg hobj hints (Nat.le_trans hlen hn2) hr hF hb (fun H hO hS => hsp w H a ns hlen hO hS) fun H e s' => hCX w H s₁ e s'
end L2
namespace L2
open PySem PySem.Spec PyProof.Rows
def defArgs (s : Stmt) : Arguments := match s with
  | .FunctionDef _ a _ _ _ _ _ _ _ _ => a
  | _ => { posonlyargs := [], args := [], vararg := none, kwonlyargs := [], kw_defaults := [], kwarg := none, defaults := [] }
def defBody (s : Stmt) : List Stmt := match s with
  | .FunctionDef _ _ b _ _ _ _ _ _ _ => b
  | _ => []
def defScope (s : Stmt) : Scope := match s with
  | .FunctionDef _ _ _ _ _ _ sc _ _ _ => sc
  | _ => { kind := .function, names := [], isGenerator := false, isCoroutine := false }
abbrev CX0 : CXT := fun _ _ _ _ _ _ => False
abbrev E0 : XK := fun _ _ _ => False
theorem pass0 {X : Cx} : Passes CX0 X E0 := fun _ _ _ _ _ _ _ h => h.elim
structure Fun (K : PySem.W.Frag) (x qual : Str) (st : Stmt) (f : Addr) (fd : FuncData) : Prop where
  ex : ∃ (oc : Value) (od : Option Addr) (kV doc pm : Value) (an : Option Addr) (cdv ct : Value) (osl : Array (Option Value)),
    fd = PySem.W.fnOf x qual (defArgs st) (defBody st) (defScope st) .none kV doc pm an cdv ct ∧ K.lookup f = some ⟨oc, od, .func fd, osl⟩ ∧ PySem.W.codeIn K cdv qual = true
  kp : PySem.W.keepIn K (.ref f) = true
section
variable {P : Program} {w : World} {K : PySem.W.Frag} {mg : Str → Option Value} {base : Heap}
theorem Fun.ok {x qual : Str} {st : Stmt} {f : Addr} {fd : FuncData} {N ps : List Str} {k : Nat} {sp : Sp} (F : Fun K x qual st f fd) (S : FnScope N ps (defScope st)) (len : ∀ vs H Q E, sp vs H Q E → vs.length = ps.length)
    (hbody : ∀ (cdv : Value) (A : Around) (outer : List Env) (s : Shared) (H : Hp) (vs : List V) (Q : VK) (E : XK), Room k (A.deeper (envOfC qual (defScope st) s.heap.objs.size f cdv)) → sp vs H Q E →
      ∃ t, PSs (cxOf CX0 P w K mg base N qual (defScope st) f cdv A outer s H E).nox (defBody st) t ∧ t { nx := fun _ H' => Q .non H', rt := Q } (start N vs) H) : FnOk P w K mg base CX0 (k + 1) f fd ps sp := by
  obtain ⟨oc, od, kV, doc, pm, an, cdv, ct, osl, rfl, lk, hcd⟩ := F.ex
  refine fn_of lk hcd S len fun A outer s H vs Q E hr hsp => ?_
  obtain ⟨t, h, q⟩ := hbody cdv A outer s H vs Q E hr hsp
  exact ⟨t, h.nox, q⟩
theorem Fun.binds {x qual : Str} {st : Stmt} {f : Addr} {fd : FuncData} {ps : List Str} (F : Fun K x qual st f fd)
    (h : ∀ (kV doc pm : Value) (an : Option Addr) (cdv ct : Value) (us : List Value), us.length = ps.length → bindArgs (PySem.W.fnOf x qual (defArgs st) (defBody st) (defScope st) .none kV doc pm an cdv ct) ⟨us, []⟩ = pure (ps.zip us)) : Binds K fd ps [] := by
  obtain ⟨oc, od, kV, doc, pm, an, cdv, ct, osl, rfl, lk, hcd⟩ := F.ex
  exact .all (h kV doc pm an cdv ct)
theorem fun_mk {x qual : Str} {st : Stmt} {f : Addr} {oc : Value} {od an : Option Addr} {osl : Array (Option Value)} {kV doc pm cdv ct : Value} (l : K.lookup f = some ⟨oc, od, .func (PySem.W.fnOf x qual (defArgs st) (defBody st) (defScope st) .none kV doc pm an cdv ct), osl⟩)
    (c : PySem.W.codeIn K cdv qual = true) (k : PySem.W.keepIn K (.ref f) = true) : Fun K x qual st f (PySem.W.fnOf x qual (defArgs st) (defBody st) (defScope st) .none kV doc pm an cdv ct) := ⟨⟨oc, od, kV, doc, pm, an, cdv, ct, osl, rfl, l, c⟩, k⟩
end
theorem iteF {A B : Prop} (h : B) : if false = true then A else B := by
  rw [if_neg Bool.false_ne_true]
  exact h
theorem iteT {A B : Prop} (h : A) : if true = true then A else B := by
  rw [if_pos rfl]
  exact h
def Same (H H' : Hp) : Prop := ∀ b o, H b = some o → H' b = some o
theorem Same.refl (H : Hp) : Same H H := fun _ _ h => h
theorem Same.trans {H H1 H2 : Hp} (a : Same H H1) (b : Same H1 H2) : Same H H2 := fun c o h => b c o (a c o h)
theorem Same.free {H H' : Hp} (e : Same H H') {l : Addr} (h : H' l = Option.none) : H l = Option.none := by
  cases q : H l with
  | none => rfl
  | some o =>
    rw [e l o q] at h
    cases h
theorem Same.seq {K : PySem.W.Frag} {H H' : Hp} {a : Addr} {xs : List V} (e : Same H H') (h : SqL K H a xs) : SqL K H' a xs := by
  rcases h with (h | ⟨o, h⟩) | h
  · exact .inl (.inl (e _ _ h))
  · exact .inl (.inr ⟨o, e _ _ h⟩)
  · exact .inr h
theorem nd_ix {α : Type} {l : List α} (hN : l.Nodup) {i j : Nat} {x : α} (a : l[i]? = some x) (b : l[j]? = some x) : i = j := by
  obtain ⟨h1, e1⟩ := List.getElem?_eq_some_iff.mp a
  obtain ⟨h2, e2⟩ := List.getElem?_eq_some_iff.mp b
  exact (List.getElem_inj hN).mp (e1.trans e2.symm)
theorem Same.made {H H1 : Hp} {x dx C : Addr} (nx : H x = Option.none) (nd : H dx = Option.none) (k : ∀ b o, (upd (upd H dx (.own x)) x (.ins C dx [])) b = some o → b ≠ x → H1 b = some o) : Same H H1 := fun b o e =>
  k b o (by rw [upd_ne (ne_of_none e nx), upd_ne (ne_of_none e nd)]; exact e) (ne_of_none e nx)
end L2
namespace L2
open PySem PySem.Spec PyProof.Rows
def xcO (a : Addr) (cls : Value) (dx : Option Addr) (tb : Value) : HO := .ext fun h => ∃ o vs, h.get? a = some o ∧ (o.cls = cls ∧ o.dict = dx) ∧ o.data = .fields vs ∧ vs[1]? = some tb
def tbO (T : Addr) : HO := .ext fun h => ∃ o ts, h.get? T = some o ∧ o.data = .fields ts ∧ ts[3]? = some .none
def Fly (H : Hp) (e : Addr) (cls : Value) (dx : Option Addr) : Prop := H e = some (xcO e cls dx .none) ∨ ∃ T, T ≠ e ∧ H e = some (xcO e cls dx (.ref T)) ∧ H T = some (tbO T)
end L2
namespace L2
open PySem PySem.Spec PyProof.Rows
theorem Fly.ext {H : Hp} {e : Addr} {cls : Value} {dx : Option Addr} (f : Fly H e cls dx) : ∃ φ, H e = some (.ext φ) := by
  rcases f with f | ⟨T, _, f, _⟩
  · exact ⟨_, f⟩
  · exact ⟨_, f⟩
end L2
namespace L2
open PySem PySem.Spec PyProof.Rows
theorem ObjOk.get {P : Program} {w : World} {H : Hp} {h : Heap} {a : Addr} {o : HO} (x : ObjOk P w H h a o) : ∃ ob, h.get? a = some ob := by
  cases o with
  | lst xs => obtain ⟨_, _, _, _, e⟩ := x; exact ⟨_, e⟩
  | tup xs => obtain ⟨_, _, _, ob, e, _⟩ := x; exact ⟨_, e⟩
  | dK kvs => obtain ⟨_, _, _, _, o, _, _, e, _⟩ := x; exact ⟨_, e⟩
  | dT kvs => obtain ⟨_, _, _, _, o, _, _, e, _⟩ := x; exact ⟨_, e⟩
  | set S n => obtain ⟨o, _, _, _, e, _⟩ := x; exact ⟨_, e⟩
  | ins C dx fs => obtain ⟨_, _, _, e, _⟩ := x; exact ⟨_, e⟩
  | own y => exact x
  | xd fs => obtain ⟨_, ⟨_, _, _, e, _⟩, _⟩ := x; exact ⟨_, e⟩
  | rng lo hi => obtain ⟨_, _, _, e⟩ := x; exact ⟨_, e⟩
  | frz ob u => exact ⟨_, x.1⟩
  | tbl ps => exact ⟨_, x⟩
  | met f y => exact ⟨_, x⟩
  | ext φ => exact x.2.1
abbrev veM : List Value := [.type "ValueError", .type "Exception", .type "BaseException", .type "object"]
abbrev Own (mg : Str → Option Value) (base : Heap) (x : Str) (C : Addr) : Prop := OwnCls x C veM "ValueError.__new__" mg base
end L2
namespace L2
open PySem PySem.Spec PySem.Calls PyProof.Rows PySem.W
end L2
namespace L2
open PySem PySem.Spec PyProof.Rows
end L2
namespace L2
open PySem PySem.Spec PyProof.Rows
end L2
namespace L2
open PySem PySem.Spec PyProof.Rows
def behind (i : Nat) (D : Ends) : Ends := { nx := fun σ H => D.nx (σ.set i none) H, rt := D.rt, bk := fun σ H => D.bk (σ.set i none) H, ct := fun σ H => D.ct (σ.set i none) H }
end L2
namespace L2
open PySem PySem.Spec PyProof.Rows
end L2
namespace L2
open PySem PySem.Spec PyProof.Rows PySem.W
def cdO (c : Addr) (qual : Str) : HO := .ext fun h => ∃ o vs t, h.get? c = some o ∧ o.data = .fields vs ∧ vs[1]? = some (.str qual t)
theorem HOk.grow {P' : Program} {w : World} {H H3 : Hp} {h h' : Heap} {P : Addr} {ps : Array Value} (ok : HOk P' w H h) (hP : H P = some (.tbl ps)) (kp : ∀ b u, b ≠ P → h.get? b = some u → h'.get? b = some u) (same : ∀ b o, b ≠ P → H b = some o → H3 b = some o)
    (new : ∀ b o, H3 b = some o → (H b = some o ∧ b ≠ P) ∨ ObjOk P' w H3 h' b o) : HOk P' w H3 h' := fun b o e => by
  rcases new b o e with ⟨e1, hb⟩ | q
  · refine (ok b o e1).stay (fun c u hc q => kp c u ?_ q) (fun c q => same c _ (fun z => by rw [z, hP] at q; cases q) q) fun c xs q => same c _ (fun z => by rw [z, hP] at q; cases q) q
    rcases hc with rfl | hc
    · exact hb
    · rintro rfl; rw [hP] at hc; cases hc
  · exact q
theorem Un.grow {fs : List Addr} {H H3 : Hp} {h h' : Heap} {P : Addr} {ps more : Array Value} (hP : H P = some (.tbl ps)) (kp : ∀ b u, b ≠ P → h.get? b = some u → h'.get? b = some u) (same : ∀ b o, b ≠ P → H b = some o → H3 b = some o) (hP3 : H3 P = some (.tbl (ps ++ more)))
    (hPh : ∃ o, h'.get? P = some o) (free : ∀ b o, h.get? b = some o → H b = none → H3 b = none) : Un fs [] H H3 h h' where
  keep := fun b o q n _ _ => kp b o (fun z => by rw [z, hP] at n; cases n) q
  slot := fun b o q n _ _ => ⟨o.slots, kp b o (fun z => by rw [z, hP] at n; cases n) q⟩
  free := fun b o q n _ => free b o q n
  there := fun b o q _ => by
    by_cases hb : b = P
    · subst hb; exact hPh
    · exact ⟨o, kp b o hb q⟩
  tups := fun b xs q => same b _ (fun z => by rw [z, hP] at q; cases q) q
  frzs := fun b o u q => same b _ (fun z => by rw [z, hP] at q; cases q) q
  tbls := fun b qs q => by
    by_cases hb : b = P
    · subst hb; rw [hP] at q; cases q; exact ⟨more, hP3⟩
    · exact ⟨#[], by rw [same b _ hb q]; simp⟩
def TabOk (H : Hp) (P : Addr) (qual : Str) : Prop := ∃ ps, H P = some (.tbl ps) ∧ TriplesOk ps.toList ∧ ∀ pos cv, codeAmong pos ps.toList = some cv → ∃ c, cv = .ref c ∧ H c = some (cdO c qual)
end L2
namespace L2
open PySem PySem.Spec PyProof.Rows PySem.W
end L2
namespace L2
open PySem PySem.Spec PyProof.Rows
def celO (c : Addr) (ob : Obj) : HO := .ext fun h => h.get? c = some ob
def trackL (H : Hp) (cs : List (Addr × Obj)) : Hp := fun b => match cs.lookup b with
  | some ob => some (celO b ob)
  | none => H b
def dropL (H : Hp) (cs : List (Addr × Obj)) : Hp := fun b => match cs.lookup b with
  | some _ => none
  | none => H b
section
variable {H : Hp} {cs : List (Addr × Obj)} {b : Addr} {ob : Obj}
theorem trackL_out (h : cs.lookup b = none) : trackL H cs b = H b := by unfold trackL; rw [h]
theorem dropL_in (h : cs.lookup b = some ob) : dropL H cs b = none := by unfold dropL; rw [h]
theorem dropL_out (h : cs.lookup b = none) : dropL H cs b = H b := by unfold dropL; rw [h]
end
section
variable {P : Program} {w : World} {H H' : Hp} {h h' : Heap} {cs : List (Addr × Obj)} {fs : List Addr}
theorem lk_none (hn : ∀ b ob, cs.lookup b = some ob → H b = none) {b : Addr} {o : HO} (e : H b = some o) : cs.lookup b = none := by
  cases q : cs.lookup b with
  | none => rfl
  | some ob => rw [hn b ob q] at e; cases e
theorem lk_none' (ht : ∀ b ob, cs.lookup b = some ob → H b = some (celO b ob)) {b : Addr} {o : HO} (e : H b = some o) (d : ∀ ob, o ≠ celO b ob) : cs.lookup b = none := by
  cases q : cs.lookup b with
  | none => rfl
  | some ob => rw [ht b ob q] at e; cases e; exact absurd rfl (d ob)
theorem HOk.drop (ok : HOk P w H h) (ht : ∀ b ob, cs.lookup b = some ob → H b = some (celO b ob)) : HOk P w (dropL H cs) h := fun b o e => by
  cases q : cs.lookup b with
  | some ob => rw [dropL_in q] at e; cases e
  | none =>
    rw [dropL_out q] at e
    exact (ok b o e).stay (fun _ _ _ r => r) (fun c r => by rw [dropL_out (lk_none' ht r (fun _ z => nomatch z))]; exact r) fun c xs r => by rw [dropL_out (lk_none' ht r (fun _ z => nomatch z))]; exact r
theorem Un.behind (u : Un fs [] (trackL H cs) H' h h') (hg : ∀ b ob, cs.lookup b = some ob → h.get? b = some ob) (hn : ∀ b ob, cs.lookup b = some ob → H b = none) (ht : ∀ b ob, cs.lookup b = some ob → H' b = some (celO b ob)) (ok : HOk P w H' h') : Un fs [] H (dropL H' cs) h h' where
  keep := fun b o q n hb hx => by
    cases z : cs.lookup b with
    | some ob => obtain ⟨e, _⟩ := ok b _ (ht b ob z); rw [hg b ob z] at q; cases q; exact e
    | none => exact u.keep b o q (by rw [trackL_out z]; exact n) hb hx
  slot := fun b o q n hb hx => by
    cases z : cs.lookup b with
    | some ob => obtain ⟨e, _⟩ := ok b _ (ht b ob z); rw [hg b ob z] at q; cases q; exact ⟨o.slots, e⟩
    | none => exact u.slot b o q (by rw [trackL_out z]; exact n) hb hx
  free := fun b o q n hx => by
    cases z : cs.lookup b with
    | some ob => exact dropL_in z
    | none => rw [dropL_out z]; exact u.free b o q (by rw [trackL_out z]; exact n) hx
  there := u.there
  tups := fun b xs e => by
    have z := lk_none hn e
    rw [dropL_out z]; exact u.tups b xs (by rw [trackL_out z]; exact e)
  frzs := fun b o x e => by
    have z := lk_none hn e
    rw [dropL_out z]; exact u.frzs b o x (by rw [trackL_out z]; exact e)
  tbls := fun b ps e => by
    have z := lk_none hn e
    rw [dropL_out z]; exact u.tbls b ps (by rw [trackL_out z]; exact e)
end
end L2
namespace L2
open PySem PySem.Spec PyProof.Rows PySem.W
end L2
namespace L2
open PySem PySem.Spec PyProof.Rows PySem.W
end L2
namespace L2
open PySem PySem.Spec PyProof.Rows PySem.W
structure Room0 (k : Nat) (A : Around) : Prop where
  dp : A.depth + 3 * k + 5 < recursionLimit
  un : A.units + 16 * k + 200 < cLine
  gd : A.guards = some []
theorem Room0.calm {k : Nat} {A : Around} (r : Room0 k A) : Room k { A with handled := none } := ⟨rfl, r.dp, r.un, r.gd⟩
end L2
namespace L2
open PySem PySem.Spec PyProof.Rows PySem.W
end L2
namespace L2
open PySem PySem.Spec PyProof.Rows PySem.W
end L2
namespace DL
open PySem PySem.Spec PyProof.Rows L2
structure OW where
  /-- the owned lists, by places; locked ones (a comprehension's own list while it is made) -/
  o : List Addr
  k : List Addr
  /-- of a locked table: the name of the lambdas in it -/
  q : Addr → Option Str
def OW.has (L : OW) (a : Addr) : Prop := a ∈ L.o ∨ a ∈ L.k
instance (L : OW) (a : Addr) : Decidable (L.has a) := inferInstanceAs (Decidable (_ ∨ _))
def Off (L : OW) (H : Hp) : Hp := fun a => if L.has a then none else H a
theorem off_some {L : OW} {H : Hp} {b : Addr} {o : HO} : Off L H b = some o ↔ ¬ L.has b ∧ H b = some o := by
  unfold Off; by_cases h : L.has b <;> simp [h]
theorem off_same (L : OW) (H : Hp) : Same (Off L H) H := fun _ _ h => (off_some.mp h).2
theorem seqT {K : PySem.W.Frag} {H H' : Hp} {a : Addr} {xs : List V} (e : Same H H') (h : SqT K H a xs) : SqT K H' a xs := by
  rcases h with (h | ⟨o, h⟩) | h
  · exact .inl (.inl (e _ _ h))
  · exact .inl (.inr ⟨o, e _ _ h⟩)
  · exact .inr h
mutual
theorem dp_mono {K : PySem.W.Frag} {H H' : Hp} (s : Same H H') : ∀ (d : PyData) (v : V), Dp K H v d → Dp K H' v d
  | .none, _, h => by cases h; exact .non
  | .bool b, _, h => by cases h; exact .bl b
  | .int i, _, h => by cases h; exact .int i
  | .str x, _, h => by cases h; exact .str x
  | .list ds, _, h => by
    cases h with
    | lst hs ha => exact .lst (s.seq hs) (dps_mono s ds _ ha)
  | .tuple ds, _, h => by
    cases h with
    | tup hs ha => exact .tup (seqT s hs) (dps_mono s ds _ ha)
  | .dict _, _, h => by
    cases h with
    | dct e => exact .dct (s _ _ e)
theorem dps_mono {K : PySem.W.Frag} {H H' : Hp} (s : Same H H') : ∀ (ds : List PyData) (vs : List V), DpAll K H vs ds → DpAll K H' vs ds
  | [], _, h => by cases h; exact .nil
  | d :: ds, _, h => by
    cases h with
    | cons h1 h2 => exact .cons (dp_mono s d _ h1) (dps_mono s ds _ h2)
end
theorem _root_.L2.Dp.mono {K : PySem.W.Frag} {H H' : Hp} {v : V} {d : PyData} (s : Same H H') (h : Dp K H v d) : Dp K H' v d := dp_mono s d v h
theorem _root_.L2.DpAll.mono {K : PySem.W.Frag} {H H' : Hp} {vs : List V} {ds : List PyData} (s : Same H H') (h : DpAll K H vs ds) : DpAll K H' vs ds := dps_mono s ds vs h
theorem dps_len {K : PySem.W.Frag} {H : Hp} : ∀ {vs : List V} {ds : List PyData}, DpAll K H vs ds → vs.length = ds.length
  | _, _, .nil => rfl
  | _, _, .cons _ h => by simp [dps_len h]
theorem dps_app {K : PySem.W.Frag} {H : Hp} : ∀ {vs ws : List V} {ds es : List PyData}, DpAll K H vs ds → DpAll K H ws es → DpAll K H (vs ++ ws) (ds ++ es)
  | _, _, _, _, .nil, h => h
  | _, _, _, _, .cons a r, h => .cons a (dps_app r h)
theorem dps_get {K : PySem.W.Frag} {H : Hp} : ∀ {vs : List V} {ds : List PyData} {i : Nat} {d : PyData}, DpAll K H vs ds → ds[i]? = some d → ∃ v, vs[i]? = some v ∧ Dp K H v d
  | _, _, _, _, .nil, e => by simp at e
  | _, _, 0, _, .cons a _, e => by simp at e; subst e; exact ⟨_, rfl, a⟩
  | _, _, i + 1, d, .cons _ r, e => by
    obtain ⟨u, h1, h2⟩ := dps_get (i := i) (d := d) r (by simpa using e)
    exact ⟨u, by simpa using h1, h2⟩
theorem dps_take {K : PySem.W.Frag} {H : Hp} (n : Nat) : ∀ {vs : List V} {ds : List PyData}, DpAll K H vs ds → DpAll K H (vs.take n) (ds.take n) := by
  induction n with
  | zero => intro vs ds _; simpa using DpAll.nil
  | succ n ih => intro vs ds h; cases h with
    | nil => exact .nil
    | cons a r => exact .cons a (ih r)
theorem dps_drop {K : PySem.W.Frag} {H : Hp} (n : Nat) : ∀ {vs : List V} {ds : List PyData}, DpAll K H vs ds → DpAll K H (vs.drop n) (ds.drop n) := by
  induction n with
  | zero => intro vs ds h; exact h
  | succ n ih => intro vs ds h; cases h with
    | nil => exact .nil
    | cons a r => exact ih r
theorem dps_set {K : PySem.W.Frag} {H : Hp} {v : V} {d : PyData} (hv : Dp K H v d) : ∀ {vs : List V} {ds : List PyData} (i : Nat), DpAll K H vs ds → DpAll K H (vs.set i v) (ds.set i d)
  | _, _, _, .nil => .nil
  | _, _, 0, .cons _ r => .cons hv r
  | _, _, i + 1, .cons a r => .cons a (dps_set hv i r)
structure Step (L : OW) (H : Hp) (L' : OW) (H' : Hp) : Prop where
  ext : ∃ M, L'.o = L.o ++ M ∧ ∀ l ∈ M, H l = none
  lk : L'.k = L.k ∧ L'.q = L.q
  keep : ∀ b o, b ∉ L.o → (b ∈ L.k → ∃ xs, o = .lst xs) → H b = some o → H' b = some o
  grow : ∀ b, H' b = none → H b = none
  tab : ∀ b q, b ∈ L.k → L.q b = some q → TabOk H b q → TabOk H' b q
theorem tab_same {H H' : Hp} {b : Addr} {q : Str} (s : Same H H') (h : TabOk H b q) : TabOk H' b q := by
  obtain ⟨ps, e, t, c⟩ := h
  exact ⟨ps, s _ _ e, t, fun pos cv z => let ⟨c', e1, e2⟩ := c pos cv z; ⟨c', e1, s _ _ e2⟩⟩
theorem tab_keep {H H' : Hp} {a b : Addr} {q : Str} {o : HO} (ha : H a = some o) (h1 : ∀ ps, o ≠ .tbl ps) (h2 : ∀ φ, o ≠ .ext φ) (k : ∀ c u, c ≠ a → H c = some u → H' c = some u) (h : TabOk H b q) : TabOk H' b q := by
  obtain ⟨ps, e, t, c⟩ := h
  refine ⟨ps, k _ _ (fun z => by rw [z, ha] at e; cases e; exact h1 _ rfl) e, t, fun pos cv z => ?_⟩
  obtain ⟨c', e1, e2⟩ := c pos cv z
  exact ⟨c', e1, k _ _ (fun z => by rw [z, ha] at e2; cases e2; exact h2 _ rfl) e2⟩
theorem tab_upd {H : Hp} {a b : Addr} {q : Str} {o o' : HO} (ha : H a = some o) (h1 : ∀ ps, o ≠ .tbl ps) (h2 : ∀ φ, o ≠ .ext φ) (h : TabOk H b q) : TabOk (upd H a o') b q :=
  tab_keep ha h1 h2 (fun c u hc e => by rw [upd_ne hc]; exact e) h
theorem Step.refl (L : OW) (H : Hp) : Step L H L H := ⟨⟨[], by simp, by simp⟩, ⟨rfl, rfl⟩, fun _ _ _ _ h => h, fun _ h => h, fun _ _ _ _ e => e⟩
theorem Step.trans {L L1 L2 : OW} {H H1 H2 : Hp} (a : Step L H L1 H1) (b : Step L1 H1 L2 H2) : Step L H L2 H2 := by
  obtain ⟨M, e, hM⟩ := a.ext
  obtain ⟨M', e', hM'⟩ := b.ext
  refine ⟨⟨M ++ M', by rw [e', e, List.append_assoc], fun l hl => ?_⟩, ⟨b.lk.1.trans a.lk.1, b.lk.2.trans a.lk.2⟩, fun c o hc hk h => ?_, fun c h => a.grow c (b.grow c h), fun c q hc hq h => b.tab c q (by rw [a.lk.1]; exact hc) (by rw [a.lk.2]; exact hq) (a.tab c q hc hq h)⟩
  · rcases List.mem_append.mp hl with z | z
    · exact hM l z
    · exact a.grow l (hM' l z)
  · refine b.keep c o (fun z => ?_) (fun z => hk (by rw [← a.lk.1]; exact z)) (a.keep c o hc hk h)
    rw [e] at z
    rcases List.mem_append.mp z with z | z
    · exact hc z
    · rw [hM c z] at h; cases h
theorem Step.same {L L' : OW} {H H' : Hp} (a : Step L H L' H') : Same (Off L H) (Off L' H') := fun b o h => by
  obtain ⟨hb, e⟩ := off_some.mp h
  obtain ⟨M, eM, hM⟩ := a.ext
  refine off_some.mpr ⟨fun z => ?_, a.keep b o (fun z => hb (.inl z)) (fun z => absurd (.inr z) hb) e⟩
  rcases z with z | z
  · rw [eM] at z
    rcases List.mem_append.mp z with z | z
    · exact hb (.inl z)
    · rw [hM b z] at e; cases e
  · rw [a.lk.1] at z; exact hb (.inr z)
theorem Step.of_same {L : OW} {H H' : Hp} (s : Same H H') : Step L H L H' := ⟨⟨[], by simp, by simp⟩, ⟨rfl, rfl⟩, fun b o _ _ h => s b o h, fun b h => s.free h, fun b q _ _ e => tab_same s e⟩
theorem same_upd {H : Hp} {p : Addr} {o : HO} (h : H p = none) : Same H (upd H p o) := fun b u e => by rw [upd_ne (ne_of_none e h)]; exact e
inductive Sl where
  | un | dat (d : PyData) | own (k : Nat) | fn (x : Str) | dct (kvs : List (Key × PyData)) | dtt (kvs : List (List Key × PyData)) | exc (x : Str)
abbrev Rho := List Sl
abbrev Mu := List (List PyData)
def SlotR (K : PySem.W.Frag) (L : OW) (H : Hp) : Option V → Sl → Prop
  | _, .un => True
  | o, .dat d => ∃ v, o = some v ∧ Dp K (Off L H) v d
  | o, .own k => ∃ l, L.o[k]? = some l ∧ o = some (.ref l)
  | o, .fn x => ∃ f, o = some (.ref f) ∧ PySem.W.nsIn K mainGlobals x = some (some (.ref f))
  | o, .dct kvs => ∃ a vs, o = some (.ref a) ∧ Off L H a = some (.dK vs) ∧ Paired (fun (p : Key × V) (q : Key × PyData) => p.1 = q.1 ∧ Dp K (Off L H) p.2 q.2) vs kvs
  | o, .exc x => ∃ a C tb, o = some (.ref a) ∧ PySem.W.nsIn K mainGlobals x = some (some (.ref C)) ∧ Off L H a = some (xcO a (.ref C) none tb)
  | o, .dtt kvs => ∃ a vs, o = some (.ref a) ∧ Off L H a = some (.dT vs) ∧ Paired (fun (p : List Key × V) (q : List Key × PyData) => p.1 = q.1 ∧ Dp K (Off L H) p.2 q.2) vs kvs
def StoreR (K : PySem.W.Frag) (L : OW) (H : Hp) (mu : Mu) : Prop := Paired (fun l ds => ∃ vs, H l = some (.lst vs) ∧ DpAll K (Off L H) vs ds) L.o mu
class Tabs where
  t : List (Addr × Str)
variable [Tabs]
structure EnvR (K : PySem.W.Frag) (L : OW) (H : Hp) (σ : L2.St) (ρ : Rho) (μ : Mu) : Prop where
  nd : L.o.Nodup ∧ ∀ p ∈ Tabs.t, p.1 ∈ L.k ∧ L.q p.1 = some p.2
  lk : ∀ l ∈ L.k, l ∉ L.o ∧ (((∃ xs, H l = some (.lst xs)) ∧ ∀ q, (l, q) ∉ Tabs.t) ∨ ∃ q, L.q l = some q ∧ TabOk H l q)
  sl : Paired (SlotR K L H) σ ρ
  st : StoreR K L H μ
theorem pr_len {α β : Type} {R : α → β → Prop} : ∀ {xs : List α} {ys : List β}, Paired R xs ys → xs.length = ys.length
  | _, _, .nil => rfl
  | _, _, .cons _ h => by simp [pr_len h]
theorem pr_get {α β : Type} {R : α → β → Prop} : ∀ {xs : List α} {ys : List β} {i : Nat} {y : β}, Paired R xs ys → ys[i]? = some y → ∃ x, xs[i]? = some x ∧ R x y
  | _, _, _, _, .nil, e => by simp at e
  | _, _, 0, _, .cons a _, e => by simp at e; subst e; exact ⟨_, rfl, a⟩
  | _, _, i + 1, y, .cons _ r, e => by
    obtain ⟨u, h1, h2⟩ := pr_get (i := i) (y := y) r (by simpa using e)
    exact ⟨u, by simpa using h1, h2⟩
theorem pr_get' {α β : Type} {R : α → β → Prop} : ∀ {xs : List α} {ys : List β} {i : Nat} {x : α}, Paired R xs ys → xs[i]? = some x → ∃ y, ys[i]? = some y ∧ R x y
  | _, _, _, _, .nil, e => by simp at e
  | _, _, 0, _, .cons a _, e => by simp at e; subst e; exact ⟨_, rfl, a⟩
  | _, _, i + 1, y, .cons _ r, e => by
    obtain ⟨u, h1, h2⟩ := pr_get' (i := i) (x := y) r (by simpa using e)
    exact ⟨u, by simpa using h1, h2⟩
theorem pr_set {α β : Type} {R : α → β → Prop} {x : α} {y : β} (r : R x y) : ∀ {xs : List α} {ys : List β} (i : Nat), Paired R xs ys → Paired R (xs.set i x) (ys.set i y)
  | _, _, _, .nil => .nil
  | _, _, 0, .cons _ t => .cons r t
  | _, _, i + 1, .cons q t => .cons q (pr_set r i t)
theorem pr_imp {α β : Type} {R S : α → β → Prop} (f : ∀ a b, R a b → S a b) : ∀ {xs : List α} {ys : List β}, Paired R xs ys → Paired S xs ys
  | _, _, .nil => .nil
  | _, _, .cons a r => .cons (f _ _ a) (pr_imp f r)
theorem pr_imp_mem {α β : Type} {R S : α → β → Prop} : ∀ {xs : List α} {ys : List β}, (∀ a b, a ∈ xs → R a b → S a b) → Paired R xs ys → Paired S xs ys
  | _, _, _, .nil => .nil
  | _, _, f, .cons a r => .cons (f _ _ (by simp) a) (pr_imp_mem (fun x y hx => f x y (by simp [hx])) r)
theorem pr_app {α β : Type} {R : α → β → Prop} : ∀ {xs xs' : List α} {ys ys' : List β}, Paired R xs ys → Paired R xs' ys' → Paired R (xs ++ xs') (ys ++ ys')
  | _, _, _, _, .nil, h => h
  | _, _, _, _, .cons a r, h => .cons a (pr_app r h)
theorem pr_take {α β : Type} {R : α → β → Prop} (n : Nat) : ∀ {xs : List α} {ys : List β}, Paired R xs ys → Paired R (xs.take n) (ys.take n) := by
  induction n with
  | zero => intro xs ys _; simpa using Paired.nil
  | succ n ih => intro xs ys h; cases h with
    | nil => exact .nil
    | cons a r => exact .cons a (ih r)
theorem StoreR.has {K : PySem.W.Frag} {L : OW} {H : Hp} {μ : Mu} (h : StoreR K L H μ) : ∀ l ∈ L.o, H l ≠ none := fun l hl z => by
  obtain ⟨i, e⟩ := List.getElem?_of_mem hl
  obtain ⟨ds, _, vs, q, _⟩ := pr_get' h e
  rw [q] at z; cases z
theorem StoreR.same {K : PySem.W.Frag} {L : OW} {H H' : Hp} {μ : Mu} (h : StoreR K L H μ) (s : Same H H') : StoreR K L H' μ :=
  pr_imp (fun l ds ⟨vs, e, q⟩ => ⟨vs, s _ _ e, q.mono (Step.of_same s).same⟩) h
theorem SlotR.step {K : PySem.W.Frag} {L L' : OW} {H H' : Hp} {o : Option V} {x : Sl} (h : SlotR K L H o x) (s : Step L H L' H') : SlotR K L' H' o x := by
  cases x with
  | un => trivial
  | fn x => exact h
  | dat d => obtain ⟨v, e, q⟩ := h; exact ⟨v, e, q.mono s.same⟩
  | dct kvs => obtain ⟨a, vs, e, ea, q⟩ := h; exact ⟨a, vs, e, s.same _ _ ea, Paired.mapP q fun _ _ z => ⟨z.1, z.2.mono s.same⟩⟩
  | exc x => obtain ⟨a, C, tb, e, ec, q⟩ := h; exact ⟨a, C, tb, e, ec, s.same _ _ q⟩
  | dtt kvs => obtain ⟨a, vs, e, ea, q⟩ := h; exact ⟨a, vs, e, s.same _ _ ea, Paired.mapP q fun _ _ z => ⟨z.1, z.2.mono s.same⟩⟩
  | own k =>
    obtain ⟨l, e, q⟩ := h
    obtain ⟨M, eM, _⟩ := s.ext
    refine ⟨l, ?_, q⟩
    rw [eM, List.getElem?_append_left (List.getElem?_eq_some_iff.mp e).1]; exact e
theorem EnvR.step {K : PySem.W.Frag} {L : OW} {H H' : Hp} {σ : L2.St} {ρ : Rho} {μ μ' : Mu} (h : EnvR K L H σ ρ μ) (s : Step L H L H') (st : StoreR K L H' μ') : EnvR K L H' σ ρ μ' :=
  ⟨h.nd, fun l hl => ⟨(h.lk l hl).1, (h.lk l hl).2.elim (fun ⟨⟨xs, e⟩, z⟩ => .inl ⟨⟨xs, s.keep l _ (h.lk l hl).1 (fun _ => ⟨xs, rfl⟩) e⟩, z⟩) fun ⟨q, hq, e⟩ => .inr ⟨q, hq, s.tab l q hl hq e⟩⟩, pr_imp (fun _ _ q => SlotR.step q s) h.sl, st⟩
theorem lt_keep {H H' : Hp} {l : Addr} {f : Addr → Option Str} (k : ∀ o, H l = some o → H' l = some o) (t : ∀ q, TabOk H l q → TabOk H' l q) (h : ((∃ xs, H l = some (.lst xs)) ∧ ∀ q, (l, q) ∉ Tabs.t) ∨ ∃ q, f l = some q ∧ TabOk H l q) : ((∃ xs, H' l = some (.lst xs)) ∧ ∀ q, (l, q) ∉ Tabs.t) ∨ ∃ q, f l = some q ∧ TabOk H' l q := h.elim (fun ⟨⟨xs, e⟩, z⟩ => .inl ⟨⟨xs, k _ e⟩, z⟩) fun ⟨q, hq, e⟩ => .inr ⟨q, hq, t q e⟩
theorem lt_ne {H : Hp} {l : Addr} {f : Addr → Option Str} (h : ((∃ xs, H l = some (.lst xs)) ∧ ∀ q, (l, q) ∉ Tabs.t) ∨ ∃ q, f l = some q ∧ TabOk H l q) : H l ≠ none := fun z => by
  rcases h with ⟨⟨xs, e⟩, _⟩ | ⟨_, _, ps, e, _⟩ <;> (rw [z] at e; cases e)
theorem EnvR.same {K : PySem.W.Frag} {L : OW} {H H' : Hp} {σ : L2.St} {ρ : Rho} {μ : Mu} (h : EnvR K L H σ ρ μ) (s : Same H H') : EnvR K L H' σ ρ μ := h.step (Step.of_same s) (h.st.same s)
abbrev FE := Rho → Mu → Option (PyData × Mu)
abbrev FT := Rho → Mu → Option (Bool × Mu)
abbrev FA := Rho → Mu → Option (List PyData × Mu)
def bnd {α β : Type} (x : Option (α × Mu)) (k : α → Mu → Option β) : Option β := match x with
  | some (d, m) => k d m
  | none => none
theorem bnd_some {α β : Type} {x : Option (α × Mu)} {k : α → Mu → Option β} {r : β} (h : bnd x k = some r) : ∃ d m, x = some (d, m) ∧ k d m = some r := by
  cases x with
  | none => cases h
  | some p => exact ⟨p.1, p.2, rfl, h⟩
def opt {α β : Type} (x : Option α) (k : α → Option β) : Option β := match x with
  | some d => k d
  | none => none
theorem opt_some {α β : Type} {x : Option α} {k : α → Option β} {r : β} (h : opt x k = some r) : ∃ d, x = some d ∧ k d = some r := by
  cases x with
  | none => cases h
  | some p => exact ⟨p, rfl, h⟩
def fin {α : Type} (x : Option α) (m : Mu) : Option (α × Mu) := match x with
  | some d => some (d, m)
  | none => none
theorem fin_some {α : Type} {x : Option α} {m m' : Mu} {d : α} (h : fin x m = some (d, m')) : x = some d ∧ m' = m := by
  cases x with
  | none => cases h
  | some p => cases h; exact ⟨rfl, rfl⟩
def tD (K : PySem.W.Frag) (f : FE) : TE := fun σ H Q => ∃ L ρ μ d μ', EnvR K L H σ ρ μ ∧ f ρ μ = some (d, μ') ∧ ∀ v H', EnvR K L H' σ ρ μ' → Step L H L H' → Dp K (Off L H') v d → Q v H'
def tDT (K : PySem.W.Frag) (f : FT) : TT := fun σ H Q => ∃ L ρ μ d μ', EnvR K L H σ ρ μ ∧ f ρ μ = some (d, μ') ∧ ∀ H', EnvR K L H' σ ρ μ' → Step L H L H' → Q d H'
def tDA (K : PySem.W.Frag) (f : FA) : TA := fun σ H Q => ∃ L ρ μ ds μ', EnvR K L H σ ρ μ ∧ f ρ μ = some (ds, μ') ∧ ∀ vs H', EnvR K L H' σ ρ μ' → Step L H L H' → DpAll K (Off L H') vs ds → Q vs H'
def DE (X : Cx) (e : Expr) (f : FE) : Prop := PE X e (tD X.K f)
def DT (X : Cx) (e : Expr) (f : FT) : Prop := PT X e (tDT X.K f)
def DW (X : Cx) (e : Expr) (f : FT) : Prop := PW X e (tDT X.K f)
def DA (X : Cx) (es : List Expr) (f : FA) : Prop := PA X es (tDA X.K f)
section
variable {X : Cx} {e a b c : Expr} {es : List Expr} {pos : Pos} {fa fb fc : FE}
theorem DE.of {t : TE} {f : FE} (h : PE X e t) (imp : ∀ L ρ μ d μ' σ H Q, EnvR X.K L H σ ρ μ → f ρ μ = some (d, μ') → (∀ v H', EnvR X.K L H' σ ρ μ' → Step L H L H' → Dp X.K (Off L H') v d → Q v H') → t σ H Q) : DE X e f :=
  fun pins s σ H Q I ⟨L, ρ, μ, d, μ', E, ef, k⟩ => h pins s σ H Q I (imp L ρ μ d μ' σ H Q E ef k)
theorem DT.of {t : TT} {f : FT} (h : PT X e t) (imp : ∀ L ρ μ d μ' σ H Q, EnvR X.K L H σ ρ μ → f ρ μ = some (d, μ') → (∀ H', EnvR X.K L H' σ ρ μ' → Step L H L H' → Q d H') → t σ H Q) : DT X e f :=
  fun pins s σ H Q I ⟨L, ρ, μ, d, μ', E, ef, k⟩ => h pins s σ H Q I (imp L ρ μ d μ' σ H Q E ef k)
theorem DW.of {t : TT} {f : FT} (h : PW X e t) (imp : ∀ L ρ μ d μ' σ H Q, EnvR X.K L H σ ρ μ → f ρ μ = some (d, μ') → (∀ H', EnvR X.K L H' σ ρ μ' → Step L H L H' → Q d H') → t σ H Q) : DW X e f :=
  fun wh pins s σ H Q I ⟨L, ρ, μ, d, μ', E, ef, k⟩ => h wh pins s σ H Q I (imp L ρ μ d μ' σ H Q E ef k)
theorem DW.dt {f : FT} (h : DW X e f) : DT X e f := PW.pt h
def fVar (i : Nat) : FE := fun ρ μ => match ρ[i]? with
  | some (.dat d) => some (d, μ)
  | _ => none
theorem de_var {i : Nat} {x : Str} (hN : X.N[i]? = some x) (hv : Vis X.env.scope x) (hd : (x == ("__debug__" : Str)) = false := by decide) (hcd : (x == ("__classdict__" : Str)) = false := by decide) : DE X (.Name x pos) (fVar i) := by
  refine DE.of (pe_var hN hv hd hcd) fun L ρ μ d μ' σ H Q E ef k => ?_
  unfold fVar at ef
  cases er : ρ[i]? with
  | none => rw [er] at ef; cases ef
  | some y =>
    rw [er] at ef
    cases y with
    | un => cases ef
    | fn _ => cases ef
    | dct _ => cases ef
    | dtt _ => cases ef
    | exc _ => cases ef
    | own _ => cases ef
    | dat d' =>
      cases ef
      obtain ⟨o, eo, v, rfl, q⟩ := pr_get E.sl er
      exact ⟨v, eo, k v H E (Step.refl _ _) q⟩
def fC (d : PyData) : FE := fun _ μ => some (d, μ)
theorem de_int {i : Int} {j} : DE X (.Constant (.int i) j pos) (fC (.int i)) := DE.of pe_int fun L ρ μ d μ' σ H Q E ef k => by cases ef; exact k _ H E (Step.refl _ _) (.int i)
theorem de_bl {i : Bool} {j} : DE X (.Constant (.bool i) j pos) (fC (.bool i)) := DE.of pe_bl fun L ρ μ d μ' σ H Q E ef k => by cases ef; exact k _ H E (Step.refl _ _) (.bl i)
theorem de_str {i : Str} {j} : DE X (.Constant (.str i) j pos) (fC (.str i)) := DE.of pe_str fun L ρ μ d μ' σ H Q E ef k => by cases ef; exact k _ H E (Step.refl _ _) (.str i)
theorem de_non {j} : DE X (.Constant .none j pos) (fC .none) := DE.of pe_non fun L ρ μ d μ' σ H Q E ef k => by cases ef; exact k _ H E (Step.refl _ _) .non
theorem de_glob {x : Str} {v : V} {u : Value} {d : PyData} (hg : Gl X x) (hm : X.mg x = some u) (r : RelV v u) (hp : ∀ H, Dp X.K H v d) (hd : (x == ("__debug__" : Str)) = false := by decide) : DE X (.Name x pos) (fC d) :=
  DE.of (pe_glob hg hm r hd) fun L ρ μ d μ' σ H Q E ef k => by cases ef; exact k _ H E (Step.refl _ _) (hp _)
def Ret (K : PySem.W.Frag) (L : OW) (H : Hp) (d : PyData) (Q : VK) : Prop := ∀ v H', Same H H' → Dp K (Off L H') v d → Q v H'
def Own (L : OW) (H : Hp) : Prop := ∀ l, L.has l → H l ≠ none
theorem EnvR.own {K : PySem.W.Frag} {L : OW} {H : Hp} {σ : L2.St} {ρ : Rho} {μ : Mu} (h : EnvR K L H σ ρ μ) : Own L H := fun l z => z.elim (h.st.has l) fun y q => by obtain ⟨_, ⟨⟨xs, e⟩, _⟩ | ⟨_, _, xs, e, _⟩⟩ := h.lk l y <;> (rw [q] at e; cases e)
theorem EnvR.lists {K : PySem.W.Frag} {L : OW} {H : Hp} {σ : L2.St} {ρ : Rho} {μ : Mu} (h : EnvR K L H σ ρ μ) {l : Addr} (z : L.has l) : (∃ xs, H l = some (.lst xs)) ∨ ∃ ps, H l = some (.tbl ps) := by
  rcases z with z | z
  · obtain ⟨i, e⟩ := List.getElem?_of_mem z
    obtain ⟨ds, _, vs, q, _⟩ := pr_get' h.st e
    exact .inl ⟨vs, q⟩
  · exact (h.lk l z).2.elim (fun y => .inl y.1) fun ⟨_, _, ps, e, _⟩ => .inr ⟨ps, e⟩
def Op2 (K : PySem.W.Frag) (r : R2) (g : PyData → PyData → Option PyData) : Prop := ∀ (L : OW) (H : Hp) (x y : V) (d e z : PyData) (Q : VK), Own L H → Dp K (Off L H) x d → Dp K (Off L H) y e → g d e = some z → Ret K L H z Q → r x y H Q
def OpN (K : PySem.W.Frag) (r : List V → Hp → VK → Prop) (g : List PyData → Option PyData) : Prop := ∀ (L : OW) (H : Hp) (xs : List V) (ds : List PyData) (z : PyData) (Q : VK), Own L H → DpAll K (Off L H) xs ds → g ds = some z → Ret K L H z Q → r xs H Q
theorem Ret.of {K : PySem.W.Frag} {L : OW} {H0 H : Hp} {σ : L2.St} {ρ : Rho} {μ : Mu} {d : PyData} {Q : VK} (E : EnvR K L H σ ρ μ) (s0 : Step L H0 L H) (k : ∀ v H', EnvR K L H' σ ρ μ → Step L H0 L H' → Dp K (Off L H') v d → Q v H') : Ret K L H d Q :=
  fun v H' s q => k v H' (E.same s) (s0.trans (Step.of_same s)) q
def f2 (fa fb : FE) (g : PyData → PyData → Option PyData) : FE := fun ρ μ => bnd (fa ρ μ) fun d m => bnd (fb ρ m) fun e m' => fin (g d e) m'
theorem d2 {t : TE} {r : R2} {g : PyData → PyData → Option PyData} (o : Op2 X.K r g) : ∀ L ρ μ d μ' σ H Q, EnvR X.K L H σ ρ μ → f2 fa fb g ρ μ = some (d, μ') → (∀ v H', EnvR X.K L H' σ ρ μ' → Step L H L H' → Dp X.K (Off L H') v d → Q v H') →
    tD X.K fa σ H fun x H1 => tD X.K fb σ H1 fun y H2 => r x y H2 Q := fun L ρ μ d μ' σ H Q E ef k => by
  obtain ⟨d1, m1, e1, ef⟩ := bnd_some ef
  obtain ⟨d2, m2, e2, ef⟩ := bnd_some ef
  obtain ⟨e3, rfl⟩ := fin_some ef
  refine ⟨L, ρ, μ, d1, m1, E, e1, fun v H1 E1 s1 q1 => ⟨L, ρ, m1, d2, _, E1, e2, fun u H2 E2 s2 q2 => ?_⟩⟩
  exact o L H2 v u d1 d2 d Q E2.own (q1.mono s2.same) q2 e3 (Ret.of E2 (s1.trans s2) k)
theorem de_op {op : Operator} {r : R2} {g : PyData → PyData → Option PyData} (o : Op2 X.K r g) (ho : OpR X (binaryOp op) r) (ha : DE X a fa) (hb : DE X b fb) : DE X (.BinOp a op b pos) (f2 fa fb g) :=
  DE.of (pe_op ho ha hb) (d2 (t := tOp r (tD X.K fa) (tD X.K fb)) o)
end
end DL
namespace DL
open PySem PySem.Spec PyProof.Rows L2
variable [Tabs]
section
variable {K : PySem.W.Frag} {L : OW} {H : Hp} {v : V} {x : Str} {i : Int} {b : Bool} {d : PyData} {ds : List PyData}
theorem dp_int (h : Dp K H v (.int i)) : v = .int i := by cases h; rfl
theorem dp_str (h : Dp K H v (.str x)) : v = .str x := by cases h; rfl
theorem dp_bl (h : Dp K H v (.bool b)) : v = .bl b := by cases h; rfl
theorem dp_non (h : Dp K H v .none) : v = .non := by cases h; rfl
theorem dp_lst (h : Dp K H v (.list ds)) : ∃ a xs, v = .ref a ∧ SqL K H a xs ∧ DpAll K H xs ds := by cases h with | lst h1 h2 => exact ⟨_, _, rfl, h1, h2⟩
theorem dp_tup (h : Dp K H v (.tuple ds)) : ∃ a xs, v = .ref a ∧ SqT K H a xs ∧ DpAll K H xs ds := by cases h with | tup h1 h2 => exact ⟨_, _, rfl, h1, h2⟩
theorem dpf (h : Dp K (Off L H) v d) : Dp K H v d := h.mono (off_same L H)
theorem dpsf {xs : List V} (h : DpAll K (Off L H) xs ds) : DpAll K H xs ds := h.mono (off_same L H)
theorem sqlf {a : Addr} {xs : List V} (h : SqL K (Off L H) a xs) : SqL K H a xs := (off_same L H).seq h
theorem sqtf {a : Addr} {xs : List V} (h : SqT K (Off L H) a xs) : SqT K H a xs := seqT (off_same L H) h
theorem off_upd {p : Addr} {o : HO} (hL : Own L H) (h : H p = none) : Off L (upd H p o) p = some o := off_some.mpr ⟨fun z => hL p z h, upd_same⟩
theorem same_off {H' : Hp} (s : Same H H') : Same (Off L H) (Off L H') := (Step.of_same s).same
theorem new_tup {p : Addr} {xs : List V} (hL : Own L H) (h : H p = none) (q : DpAll K (Off L H) xs ds) : Dp K (Off L (upd H p (.tup xs))) (.ref p) (.tuple ds) :=
  .tup (SqT.of (off_upd hL h)) (q.mono (same_off (same_upd h)))
theorem new_lst {p : Addr} {xs : List V} (hL : Own L H) (h : H p = none) (q : DpAll K (Off L H) xs ds) : Dp K (Off L (upd H p (.lst xs))) (.ref p) (.list ds) :=
  .lst (SqL.of (off_upd hL h)) (q.mono (same_off (same_upd h)))
theorem Ret.int {Q : VK} (k : Ret K L H (.int i) Q) : Q (.int i) H := k _ H (Same.refl H) (.int i)
theorem Ret.str {Q : VK} (k : Ret K L H (.str x) Q) : Q (.str x) H := k _ H (Same.refl H) (.str x)
theorem Ret.bl {Q : VK} (k : Ret K L H (.bool b) Q) : Q (.bl b) H := k _ H (Same.refl H) (.bl b)
theorem Ret.tup {Q : VK} {xs : List V} (hL : Own L H) (q : DpAll K (Off L H) xs ds) (k : Ret K L H (.tuple ds) Q) : ∀ p, H p = none → Q (.ref p) (upd H p (.tup xs)) := fun p h => k _ _ (same_upd h) (new_tup hL h q)
theorem Ret.lst {Q : VK} {xs : List V} (hL : Own L H) (q : DpAll K (Off L H) xs ds) (k : Ret K L H (.list ds) Q) : ∀ p, H p = none → Q (.ref p) (upd H p (.lst xs)) := fun p h => k _ _ (same_upd h) (new_lst hL h q)
def gI (g : Int → Int → PyData) (d e : PyData) : Option PyData := match d, e with
  | .int i, .int j => some (g i j)
  | _, _ => none
theorem gI_some {g : Int → Int → PyData} {d e z : PyData} (h : gI g d e = some z) : ∃ i j, d = .int i ∧ e = .int j ∧ z = g i j := by
  unfold gI at h
  split at h
  · exact ⟨_, _, rfl, rfl, (Option.some.inj h).symm⟩
  · cases h
theorem o2_cmp {g : Int → Int → Bool} : Op2 K (rI0 fun i j => .bl (g i j)) (gI fun i j => .bool (g i j)) := fun L H x y d e z Q hL h1 h2 hg k => by
  obtain ⟨i, j, rfl, rfl, rfl⟩ := gI_some hg
  exact ⟨i, j, dp_int h1, dp_int h2, k.bl⟩
def gIC (c : Int → Int → Bool) (g : Int → Int → Int) (d e : PyData) : Option PyData := match d, e with
  | .int i, .int j => if c i j = true then some (.int (g i j)) else none
  | _, _ => none
theorem o2_intC {C : Int → Int → Prop} {c : Int → Int → Bool} {g : Int → Int → Int} (hc : ∀ i j, c i j = true → C i j) : Op2 K (rI C fun i j => .int (g i j)) (gIC c g) := fun L H x y d e z Q hL h1 h2 hg k => by
  unfold gIC at hg
  split at hg
  · rename_i i j
    by_cases q : c i j = true
    · rw [if_pos q] at hg; cases hg
      exact ⟨i, j, dp_int h1, dp_int h2, hc i j q, k.int⟩
    · rw [if_neg q] at hg; cases hg
  · cases hg
def gAdd (d e : PyData) : Option PyData := match d, e with
  | .int i, .int j => some (.int (i + j))
  | .str x, .str y => if x.length + y.length ≤ sizeLine then some (.str (x ++ y)) else none
  | .list xs, .list ys => if xs.length + ys.length ≤ sizeLine then some (.list (xs ++ ys)) else none
  | _, _ => none
end
section
variable {X : Cx}
def rCatR (K : PySem.W.Frag) : R2 := fun x y H Q => ∃ l b xs zs, x = .ref l ∧ y = .ref b ∧ SqL K H l xs ∧ SqL K H b zs ∧ xs.length + zs.length ≤ sizeLine ∧ ∀ p, H p = none → Q (.ref p) (upd H p (.lst (xs ++ zs)))
theorem op_catR : OpR X (binaryOp .Add) (rCatR X.K) := by
  intro pins s σ H x y v u Q I rx ry h
  obtain ⟨l, b, xs, zs, rfl, rfl, hH, hB, hz, q⟩ := h
  cases rx
  cases ry
  obtain ⟨its, r, hl, z1⟩ := I.list hH
  obtain ⟨its2, r2, hl2, z2⟩ := I.list hB
  obtain ⟨⟨cls, dd, data, sl⟩, n1, ho, hc, hx, hd⟩ := hl
  obtain ⟨⟨cls2, dd2, data2, sl2⟩, n2, ho2, hc2, hx2, hd2⟩ := hl2
  simp only at hc hd hc2 hd2
  subst hc hd hc2 hd2
  refine concat_meets ⟨_, ho, rfl⟩ ⟨_, ho2, rfl⟩ noFill_list_add seq_list_add PySem.F.slot_list_add PySem.F.entry_list_add (PySem.F.args_list_add_2 _ _) (list_addW l b its.toArray its2.toArray n1 n2 dd dd2 sl sl2 (by rw [List.size_toArray, List.size_toArray, ← r.length, ← r2.length]; exact hz)) ⟨ho, ho2, ?_⟩
  have ea : its.toArray ++ its2.toArray = (its ++ its2).toArray := by simp
  rw [ea]
  exact ⟨.ref _, _, I.lnew (t' := s.toks) (r.append r2) (by rw [List.length_append]; omega), rfl, q _ I.fresh⟩
def rAddA (K : PySem.W.Frag) : R2 := fun x y H Q => (rI0 fun i j => .int (i + j)) x y H Q ∨ (∃ i j, x = .str i ∧ y = .str j ∧ i.length + j.length ≤ sizeLine ∧ Q (.str (i ++ j)) H) ∨ rCatR K x y H Q
theorem op_addA : OpR X (binaryOp .Add) (rAddA X.K) := op_add.or (op_add_str.or op_catR)
end
section
variable {K : PySem.W.Frag}
theorem o2_add : Op2 K (rAddA K) gAdd := fun L H x y d e z Q hL h1 h2 hg k => by
  unfold gAdd at hg
  split at hg
  · cases hg; exact .inl ⟨_, _, dp_int h1, dp_int h2, k.int⟩
  · split at hg
    · cases hg; exact .inr (.inl ⟨_, _, dp_str h1, dp_str h2, by assumption, k.str⟩)
    · cases hg
  · split at hg
    · cases hg
      obtain ⟨a, xs, rfl, s1, q1⟩ := dp_lst h1
      obtain ⟨b, ys, rfl, s2, q2⟩ := dp_lst h2
      refine .inr (.inr ⟨a, b, xs, ys, rfl, rfl, sqlf s1, sqlf s2, by rw [dps_len q1, dps_len q2]; assumption, k.lst hL (dps_app q1 q2)⟩)
    · cases hg
  · cases hg
def cDiv (i j : Int) : Bool := decide (0 < j ∧ j < 1073741824)
def cMod (i j : Int) : Bool := decide (0 < j)
def cPow (i j : Int) : Bool := decide (0 ≤ j ∧ j ≤ 1000000 ∧ i.natAbs < 2 ^ 64)
def cMul (i j : Int) : Bool := decide ((-(2 ^ 64) < i ∧ i < 2 ^ 64) ∨ (-(2 ^ 64) < j ∧ j < 2 ^ 64))
theorem o2_div : Op2 K (rI CDiv fun i j => .int (i / j)) (gIC cDiv fun i j => i / j) := o2_intC fun _ _ h => by unfold CDiv; exact of_decide_eq_true h
theorem o2_mod : Op2 K (rI (fun _ j => 0 < j) fun i j => .int (i % j)) (gIC cMod fun i j => i % j) := o2_intC fun _ _ h => of_decide_eq_true h
theorem o2_pow : Op2 K (rI CPow fun i j => .int (i ^ j.toNat)) (gIC cPow fun i j => i ^ j.toNat) := o2_intC fun _ _ h => by unfold CPow; exact of_decide_eq_true h
theorem o2_mul : Op2 K (rI CMul fun i j => .int (i * j)) (gIC cMul fun i j => i * j) := o2_intC fun _ _ h => by unfold CMul; exact of_decide_eq_true h
def eqB (d e : PyData) : Option Bool := match d, e with
  | .int i, .int j => some (decide (i = j))
  | .str x, .str y => some (decide (x = y))
  | .bool x, .bool y => some (decide (x = y))
  | d, e => if SeqAt.shaped d = true ∧ SeqAt.shaped e = true then some (PyData.eqv d e) else none
def gEq (d e : PyData) : Option PyData := opt (eqB d e) fun b => some (.bool b)
def gNe (d e : PyData) : Option PyData := opt (eqB d e) fun b => some (.bool (!b))
theorem eqB_some {K : PySem.W.Frag} {H : Hp} {x y : V} {d e : PyData} {b : Bool} (h1 : Dp K H x d) (h2 : Dp K H y e) (h : eqB d e = some b) : (scal x y = true ∧ b = decide (x = y)) ∨ (SeqAt.shaped d = true ∧ SeqAt.shaped e = true ∧ b = PyData.eqv d e) := by
  unfold eqB at h
  split at h
  · rename_i i j
    have e1 := dp_int h1; have e2 := dp_int h2; subst e1 e2
    refine .inl ⟨rfl, ?_⟩
    rw [← Option.some.inj h]
    by_cases q : i = j
    · subst q; simp
    · rw [decide_eq_false q, decide_eq_false fun z => q (V.int.inj z)]
  · rename_i i j
    have e1 := dp_str h1; have e2 := dp_str h2; subst e1 e2
    refine .inl ⟨rfl, ?_⟩
    rw [← Option.some.inj h]
    by_cases q : i = j
    · subst q; simp
    · rw [decide_eq_false q, decide_eq_false fun z => q (V.str.inj z)]
  · rename_i i j
    have e1 := dp_bl h1; have e2 := dp_bl h2; subst e1 e2
    refine .inl ⟨rfl, ?_⟩
    rw [← Option.some.inj h]
    by_cases q : i = j
    · subst q; simp
    · rw [decide_eq_false q, decide_eq_false fun z => q (V.bl.inj z)]
  · split at h
    · rename_i q; exact .inr ⟨q.1, q.2, (Option.some.inj h).symm⟩
    · cases h
def rEqA (K : PySem.W.Frag) : R2 := fun x y H Q => rEq x y H Q ∨ rEqD K x y H Q
def rNeA (K : PySem.W.Frag) : R2 := fun x y H Q => rNe x y H Q ∨ rNeD K x y H Q
theorem op_eqA {X : Cx} (hu : X.A.units + 64 < cLine) : OpR X (compareOp .Eq) (rEqA X.K) := op_eq.or (op_eqD hu)
theorem op_neA {X : Cx} (hu : X.A.units + 64 < cLine) : OpR X (compareOp .NotEq) (rNeA X.K) := op_ne.or (op_neD hu)
theorem o2_eq : Op2 K (rEqA K) gEq := fun L H x y d e z Q hL h1 h2 hg k => by
  obtain ⟨b, e1, e2⟩ := opt_some hg
  cases e2
  rcases eqB_some h1 h2 e1 with ⟨s, rfl⟩ | ⟨s1, s2, rfl⟩
  · exact .inl ⟨s, k.bl⟩
  · exact .inr ⟨d, e, dpf h1, dpf h2, s1, s2, k.bl⟩
theorem o2_ne : Op2 K (rNeA K) gNe := fun L H x y d e z Q hL h1 h2 hg k => by
  obtain ⟨b, e1, e2⟩ := opt_some hg
  cases e2
  rcases eqB_some h1 h2 e1 with ⟨s, rfl⟩ | ⟨s1, s2, rfl⟩
  · exact .inl ⟨s, k.bl⟩
  · exact .inr ⟨d, e, dpf h1, dpf h2, s1, s2, k.bl⟩
def gIsN (d e : PyData) : Option PyData := match d, e with
  | .none, .none => some (.bool true)
  | _, .none => some (.bool false)
  | _, _ => none
def gNotN (d e : PyData) : Option PyData := match d, e with
  | .none, .none => some (.bool false)
  | _, .none => some (.bool true)
  | _, _ => none
theorem o2_isN : Op2 K (fun x y H Q => y = .non ∧ Q (.bl (decide (x = .non))) H) gIsN := fun L H x y d e z Q hL h1 h2 hg k => by
  unfold gIsN at hg
  split at hg
  · cases hg
    refine ⟨dp_non h2, ?_⟩
    rw [dp_non h1]; exact k.bl
  · rename_i hd
    cases hg
    refine ⟨dp_non h2, ?_⟩
    have : decide (x = V.non) = false := decide_eq_false fun z => by subst z; cases h1; exact hd rfl
    rw [this]; exact k.bl
  · cases hg
theorem o2_notN : Op2 K (fun x y H Q => y = .non ∧ Q (.bl (!decide (x = .non))) H) gNotN := fun L H x y d e z Q hL h1 h2 hg k => by
  unfold gNotN at hg
  split at hg
  · cases hg
    refine ⟨dp_non h2, ?_⟩
    rw [dp_non h1]; exact k.bl
  · rename_i hd
    cases hg
    refine ⟨dp_non h2, ?_⟩
    have : decide (x = V.non) = false := decide_eq_false fun z => by subst z; cases h1; exact hd rfl
    rw [this]; exact k.bl
  · cases hg
def gInS (neg : Bool) (d e : PyData) : Option PyData := match d, e with
  | .str c, .str z => match c.cps.toList with
    | [n] => some (.bool (if neg then !decide (n ∈ z.cps.toList) else decide (n ∈ z.cps.toList)))
    | _ => none
  | _, _ => none
theorem gInS_some {neg : Bool} {d e z : PyData} (h : gInS neg d e = some z) : ∃ (n : Nat) (t : Str), d = .str ⟨#[n]⟩ ∧ e = .str t ∧ z = .bool (if neg then !decide (n ∈ t.cps.toList) else decide (n ∈ t.cps.toList)) := by
  unfold gInS at h
  split at h
  · rename_i c t
    split at h
    · rename_i n hn
      refine ⟨n, t, ?_, rfl, (Option.some.inj h).symm⟩
      obtain ⟨⟨l⟩⟩ := c
      have : l = [n] := hn
      subst this; rfl
    · cases h
  · cases h
theorem o2_inS : Op2 K (fun x y H Q => ∃ (c : Nat) (z : Str), x = .str ⟨#[c]⟩ ∧ y = .str z ∧ Q (.bl (decide (c ∈ z.cps.toList))) H) (gInS false) := fun L H x y d e z Q hL h1 h2 hg k => by
  obtain ⟨n, t, rfl, rfl, rfl⟩ := gInS_some hg
  exact ⟨n, t, dp_str h1, dp_str h2, k.bl⟩
end
def rInD (K : PySem.W.Frag) (neg : Bool) : R2 := fun x y H Q => ∃ d ds, Dp K H x d ∧ (Dp K H y (.list ds) ∨ Dp K H y (.tuple ds)) ∧ SeqAt.shaped d = true ∧ PyData.canLayAll0 ds = true ∧ Q (.bl (if neg then !ds.any (fun y => PyData.eqv y d) else ds.any (fun y => PyData.eqv y d))) H
def isStrD : PyData → Bool
  | .str _ => true
  | _ => false
def rInX (K : PySem.W.Frag) (neg : Bool) : R2 := fun x y H Q => rInD K neg x y H Q ∨ ∃ d ds, Dp K H x d ∧ (Dp K H y (.list ds) ∨ Dp K H y (.tuple ds)) ∧ ds.all isStrD = true ∧ Q (.bl (if neg then !ds.any (fun y => PyData.eqv y d) else ds.any (fun y => PyData.eqv y d))) H
def eqW (d : PyData) : Value → Bool
  | .str b _ => PyData.eqv (.str b) d
  | _ => false
theorem strs_vals {K : PySem.W.Frag} {H : Hp} {d0 : PyData} : ∀ {ds : List PyData} {xs : List V} {its : List Value}, ds.all isStrD = true → DpAll K H xs ds → Vals xs its → (∀ w ∈ its, ∃ b u, w = Value.str b u) ∧ its.any (eqW d0) = ds.any (fun y => PyData.eqv y d0)
  | [], _, _, _, h, r => by cases h; cases r; exact ⟨fun w hw => (by cases hw), rfl⟩
  | d :: ds, _, _, e, h, r => by
    cases h with
    | cons h1 h2 =>
      cases r with
      | cons r1 r2 =>
        rw [List.all_cons, Bool.and_eq_true] at e
        obtain ⟨i1, i2⟩ := strs_vals (d0 := d0) e.2 h2 r2
        cases d with
        | str x =>
          cases h1
          obtain ⟨t, rfl⟩ := r1
          refine ⟨fun w hw => ?_, ?_⟩
          · rcases List.mem_cons.mp hw with rfl | hw
            · exact ⟨_, _, rfl⟩
            · exact i1 w hw
          · rw [List.any_cons, List.any_cons, i2]; rfl
        | none => cases e.1
        | bool _ => cases e.1
        | int _ => cases e.1
        | list _ => cases e.1
        | tuple _ => cases e.1
        | dict _ => cases e.1
theorem eqAt_str {X : Cx} {pins : List (Addr × Obj)} {σ : L2.St} {H : Hp} {s : Shared} {A : Around} (I : Inv X pins σ H s) {x : V} {v : Value} {d : PyData} (hd : Dp X.K H x d) (rx : RelV x v) (hu : A.units < cLine) (b : Str) (t : Tok) : SeqAt.EqAt A s (.str b t) v (PyData.eqv (.str b) d) := by
  cases hd with
  | non => cases rx; exact SeqAt.EqAt.str_none b t
  | bl c => cases rx; exact SeqAt.EqAt.str_bool b t c
  | int i => obtain ⟨u, rfl⟩ := rx; exact SeqAt.EqAt.str_int b t i u
  | str y => obtain ⟨u, rfl⟩ := rx; exact SeqAt.EqAt.str_str b t y u
  | lst s1 q1 => cases rx; obtain ⟨its, _, pl, _⟩ := I.list s1; exact SeqAt.EqAt.str_list b t pl.isList hu
  | tup s1 q1 => cases rx; obtain ⟨its, _, pl, _⟩ := I.tuple s1; exact SeqAt.EqAt.str_tuple b t pl hu
  | dct e => cases rx; obtain ⟨_, _, vs, _, o, es, ep, ho, hc, hd, _⟩ := I.hok _ _ e; exact SeqAt.EqAt.str_dict b t ho hc.1 hd hu
theorem lay_of_shaped {d : PyData} (h : SeqAt.shaped d = true) : d.canLay0 = true := by
  unfold SeqAt.shaped at h; simp only [Bool.and_eq_true] at h; exact h.1
theorem dep_of_shaped {d : PyData} (h : SeqAt.shaped d = true) : d.depth ≤ 64 := by
  unfold SeqAt.shaped at h; simp only [Bool.and_eq_true, decide_eq_true_eq] at h; exact h.2
section
variable {X : Cx}
theorem op_inD (hu : X.A.units + 66 < cLine) : OpR X (compareOp .In) (rInD X.K false) := by
  intro pins s σ H x y v u Q I rx ry h
  obtain ⟨d, ds, hd, hs, sd, sl, q⟩ := h
  obtain ⟨as, r1⟩ := Dp.reads I d x v hd rx
  have hdep := dep_of_shaped sd
  have hm : min (PyData.depthAll ds) d.depth ≤ d.depth := Nat.min_le_right _ _
  rcases hs with hs | hs
  · obtain ⟨bs, r2⟩ := Dp.reads I _ y u hs ry
    exact SeqAt.in_list_reads r2 r1 (by simpa [PyData.canLay0] using sl) (lay_of_shaped sd) (by omega) ⟨.bl _, H, I, rfl, q⟩
  · obtain ⟨bs, r2⟩ := Dp.reads I _ y u hs ry
    exact SeqAt.in_tuple_reads r2 r1 (by simpa [PyData.canLay0] using sl) (lay_of_shaped sd) (by omega) ⟨.bl _, H, I, rfl, q⟩
theorem op_ninD (hu : X.A.units + 66 < cLine) : OpR X (compareOp .NotIn) (rInD X.K true) := by
  intro pins s σ H x y v u Q I rx ry h
  obtain ⟨d, ds, hd, hs, sd, sl, q⟩ := h
  obtain ⟨as, r1⟩ := Dp.reads I d x v hd rx
  have hdep := dep_of_shaped sd
  have hm : min (PyData.depthAll ds) d.depth ≤ d.depth := Nat.min_le_right _ _
  rcases hs with hs | hs
  · obtain ⟨bs, r2⟩ := Dp.reads I _ y u hs ry
    exact SeqAt.notIn_list_reads r2 r1 (by simpa [PyData.canLay0] using sl) (lay_of_shaped sd) (by omega) ⟨.bl _, H, I, rfl, q⟩
  · obtain ⟨bs, r2⟩ := Dp.reads I _ y u hs ry
    exact SeqAt.notIn_tuple_reads r2 r1 (by simpa [PyData.canLay0] using sl) (lay_of_shaped sd) (by omega) ⟨.bl _, H, I, rfl, q⟩
theorem op_inX (hu : X.A.units + 66 < cLine) : OpR X (compareOp .In) (rInX X.K false) := by
  intro pins s σ H x y v u Q I rx ry h
  rcases h with h | ⟨d, ds, hd, hs, al, q⟩
  · exact op_inD hu pins s σ H x y v u Q I rx ry h
  have h1 : X.A.in1.units < cLine := by show X.A.units + 1 < cLine; omega
  rcases hs with hs | hs
  · cases hs with
    | lst s1 q1 =>
      cases ry
      obtain ⟨its, rv, pl, hz⟩ := I.list s1
      obtain ⟨i1, i2⟩ := strs_vals (d0 := d) al q1 rv
      have ea : its.toArray.any (eqW d) = ds.any (fun y => PyData.eqv y d) := by rw [← i2]; simp
      refine SeqAt.in_listAt (eqW d) pl.isList (fun w hw => ?_) ⟨.bl _, H, I, rfl, by rw [ea]; exact q⟩
      obtain ⟨b, t, rfl⟩ := i1 w (by simpa using hw)
      exact eqAt_str I hd rx h1 b t
  · cases hs with
    | tup s1 q1 =>
      cases ry
      obtain ⟨its, rv, pl, hz⟩ := I.tuple s1
      obtain ⟨i1, i2⟩ := strs_vals (d0 := d) al q1 rv
      have ea : its.toArray.any (eqW d) = ds.any (fun y => PyData.eqv y d) := by rw [← i2]; simp
      refine SeqAt.in_tupleAt (eqW d) pl (fun w hw => ?_) ⟨.bl _, H, I, rfl, by rw [ea]; exact q⟩
      obtain ⟨b, t, rfl⟩ := i1 w (by simpa using hw)
      exact eqAt_str I hd rx h1 b t
theorem op_ninX (hu : X.A.units + 66 < cLine) : OpR X (compareOp .NotIn) (rInX X.K true) := by
  intro pins s σ H x y v u Q I rx ry h
  rcases h with h | ⟨d, ds, hd, hs, al, q⟩
  · exact op_ninD hu pins s σ H x y v u Q I rx ry h
  have h1 : X.A.in1.units < cLine := by show X.A.units + 1 < cLine; omega
  rcases hs with hs | hs
  · cases hs with
    | lst s1 q1 =>
      cases ry
      obtain ⟨its, rv, pl, hz⟩ := I.list s1
      obtain ⟨i1, i2⟩ := strs_vals (d0 := d) al q1 rv
      have ea : its.toArray.any (eqW d) = ds.any (fun y => PyData.eqv y d) := by rw [← i2]; simp
      refine SeqAt.notIn_listAt (eqW d) pl.isList (fun w hw => ?_) ⟨.bl _, H, I, rfl, by rw [ea]; exact q⟩
      obtain ⟨b, t, rfl⟩ := i1 w (by simpa using hw)
      exact eqAt_str I hd rx h1 b t
  · cases hs with
    | tup s1 q1 =>
      cases ry
      obtain ⟨its, rv, pl, hz⟩ := I.tuple s1
      obtain ⟨i1, i2⟩ := strs_vals (d0 := d) al q1 rv
      have ea : its.toArray.any (eqW d) = ds.any (fun y => PyData.eqv y d) := by rw [← i2]; simp
      refine SeqAt.notIn_tupleAt (eqW d) pl (fun w hw => ?_) ⟨.bl _, H, I, rfl, by rw [ea]; exact q⟩
      obtain ⟨b, t, rfl⟩ := i1 w (by simpa using hw)
      exact eqAt_str I hd rx h1 b t
end
def inD (d : PyData) (ds : List PyData) : Option Bool := if SeqAt.shaped d = true ∧ PyData.canLayAll0 ds = true then some (ds.any fun y => PyData.eqv y d) else if ds.all isStrD = true then some (ds.any fun y => PyData.eqv y d) else none
def gInD (neg : Bool) (d e : PyData) : Option PyData := match e with
  | .list ds => opt (inD d ds) fun b => some (.bool (if neg then !b else b))
  | .tuple ds => opt (inD d ds) fun b => some (.bool (if neg then !b else b))
  | _ => none
theorem o2_inD {K : PySem.W.Frag} {neg : Bool} : Op2 K (rInX K neg) (gInD neg) := fun L H x y d e z Q hL h1 h2 hg k => by
  have inD_some : ∀ {ds b}, inD d ds = some b → ((SeqAt.shaped d = true ∧ PyData.canLayAll0 ds = true) ∨ ds.all isStrD = true) ∧ b = ds.any (fun y => PyData.eqv y d) := fun {ds b} h => by
    unfold inD at h
    split at h
    · rename_i q; exact ⟨.inl q, (Option.some.inj h).symm⟩
    · split at h
      · rename_i q; exact ⟨.inr q, (Option.some.inj h).symm⟩
      · cases h
  unfold gInD at hg
  split at hg
  · obtain ⟨b, e1, e2⟩ := opt_some hg
    obtain ⟨s1, rfl⟩ := inD_some e1
    cases e2
    rcases s1 with ⟨s1, s2⟩ | s1
    · exact .inl ⟨d, _, dpf h1, .inl (dpf h2), s1, s2, k.bl⟩
    · exact .inr ⟨d, _, dpf h1, .inl (dpf h2), s1, k.bl⟩
  · obtain ⟨b, e1, e2⟩ := opt_some hg
    obtain ⟨s1, rfl⟩ := inD_some e1
    cases e2
    rcases s1 with ⟨s1, s2⟩ | s1
    · exact .inl ⟨d, _, dpf h1, .inr (dpf h2), s1, s2, k.bl⟩
    · exact .inr ⟨d, _, dpf h1, .inr (dpf h2), s1, k.bl⟩
  · cases hg
section
variable {X : Cx} {a b c e : Expr} {es rest : List Expr} {pos : Pos} {fa fb fc f : FE} {ta tb tc : FT}
def fB (f : FE) : FT := fun ρ μ => bnd (f ρ μ) fun d m => match d with
  | .bool b => some (b, m)
  | _ => none
theorem fB_some {f : FE} {ρ : Rho} {μ m : Mu} {b : Bool} (h : fB f ρ μ = some (b, m)) : f ρ μ = some (.bool b, m) := by
  obtain ⟨d, m1, e1, h⟩ := bnd_some h
  cases d <;> first | (cases h; exact e1) | cases h
theorem de_cmp {op : CmpOp} {r : R2} {g : PyData → PyData → Option PyData} (o : Op2 X.K r g) (ho : OpR X (compareOp op) r) (ha : DE X a fa) (hb : DE X b fb) (hm : behindInMarks op b = false) : DE X (.Compare a [op] [b] pos) (f2 fa fb g) :=
  DE.of (pe_cmpR ho ha hb hm) (d2 (t := tOp r (tD X.K fa) (tD X.K fb)) o)
theorem dt_cmp {op : CmpOp} {r : R2} {g : PyData → PyData → Option PyData} (o : Op2 X.K r g) (ho : OpR X (compareOp op) r) (ha : DE X a fa) (hb : DE X b fb) (hm : behindInMarks op b = false) : DT X (.Compare a [op] [b] pos) (fB (f2 fa fb g)) :=
  DT.of (pt_cmpR ho ha hb hm) fun L ρ μ d μ' σ H Q E ef k => d2 (t := tOp r (tD X.K fa) (tD X.K fb)) o L ρ μ _ μ' σ H _ E (fB_some ef) fun v H' E' s' q => ⟨d, dp_bl q, k H' E' s'⟩
def fChain (fa fb fc : FE) (g g' : PyData → PyData → Option PyData) : FE := fun ρ μ => bnd (fa ρ μ) fun d m => bnd (fb ρ m) fun e m' => opt (g d e) fun z => match z with
  | .bool true => bnd (fc ρ m') fun w m'' => fin (g' e w) m''
  | .bool false => some (.bool false, m')
  | _ => none
theorem d_chain {r r' : R2} {g g' : PyData → PyData → Option PyData} (o : Op2 X.K r g) (o' : Op2 X.K r' g') : ∀ L ρ μ d μ' σ H Q, EnvR X.K L H σ ρ μ → fChain fa fb fc g g' ρ μ = some (d, μ') → (∀ v H', EnvR X.K L H' σ ρ μ' → Step L H L H' → Dp X.K (Off L H') v d → Q v H') →
    tChain r r' (tD X.K fa) (tD X.K fb) (tD X.K fc) σ H Q := fun L ρ μ d μ' σ H Q E ef k => by
  obtain ⟨d1, m1, e1, ef⟩ := bnd_some ef
  obtain ⟨d2, m2, e2, ef⟩ := bnd_some ef
  obtain ⟨z, e3, ef⟩ := opt_some ef
  refine ⟨L, ρ, μ, d1, m1, E, e1, fun v H1 E1 s1 q1 => ⟨L, ρ, m1, d2, m2, E1, e2, fun u H2 E2 s2 q2 => ?_⟩⟩
  refine o L H2 v u d1 d2 z _ E2.own (q1.mono s2.same) q2 e3 fun w H3 s3 q3 => ?_
  have E3 := E2.same s3
  have st3 := (s1.trans s2).trans (Step.of_same (L := L) s3)
  split at ef
  · refine ⟨true, dp_bl q3, ?_⟩
    rw [if_pos rfl]
    obtain ⟨d4, m4, e4, ef⟩ := bnd_some ef
    obtain ⟨e5, rfl⟩ := fin_some ef
    refine ⟨L, ρ, m2, d4, _, E3, e4, fun t H4 E4 s4 q4 => ?_⟩
    exact o' L H4 u t d2 d4 d Q E4.own (q2.mono ((Step.of_same s3).trans s4).same) q4 e5 (Ret.of E4 (st3.trans s4) k)
  · refine ⟨false, dp_bl q3, ?_⟩
    rw [if_neg (by decide)]
    cases ef
    exact k _ H3 E3 st3 (.bl false)
  · cases ef
theorem dt_chain {op op' : CmpOp} {r r' : R2} {g g' : PyData → PyData → Option PyData} (o : Op2 X.K r g) (o' : Op2 X.K r' g') (ho : OpR X (compareOp op) r) (ho' : OpR X (compareOp op') r') (ha : DE X a fa) (hb : DE X b fb) (hc : DE X c fc)
    (hm : lastMarks [op, op'] [b, c] = false := by with_unfolding_all rfl) : DT X (.Compare a [op, op'] [b, c] pos) (fB (fChain fa fb fc g g')) :=
  DT.of (pt_chain ho ho' ha hb hc hm) fun L ρ μ d μ' σ H Q E ef k => d_chain o o' L ρ μ _ μ' σ H _ E (fB_some ef) fun v H' E' s' q => ⟨d, dp_bl q, k H' E' s'⟩
theorem dt_val (h : DE X e f) (he : ∀ whole, isTrue e X.env whole = (do let v ← whole; standAt e.pos; holding [v] (truthy v)) := by intro _; rfl) : DT X e (fB f) :=
  DT.of (pt_val h he) fun L ρ μ d μ' σ H Q E ef k => ⟨L, ρ, μ, _, μ', E, fB_some ef, fun v H' E' s' q => ⟨d, dp_bl q, k H' E' s'⟩⟩
def truB : PyData → Option Bool
  | .none => some false
  | .bool b => some b
  | .int i => some (i != 0)
  | .str x => if x.length ≤ sizeLine then some ((x.length : Int) != 0) else none
  | .list ds => some (!ds.isEmpty)
  | .tuple ds => some (!ds.isEmpty)
  | .dict _ => none
def fTru (f : FE) : FT := fun ρ μ => bnd (f ρ μ) fun d m => fin (truB d) m
def fAnd (ta tb : FT) : FT := fun ρ μ => bnd (ta ρ μ) fun b m => if b = true then tb ρ m else some (false, m)
def fOr (ta tb : FT) : FT := fun ρ μ => bnd (ta ρ μ) fun b m => if b = true then some (true, m) else tb ρ m
def fNot (ta : FT) : FT := fun ρ μ => bnd (ta ρ μ) fun b m => some (!b, m)
theorem dw_and1 (h : DT X a ta) : DW X (.BoolOp .And [a] pos) ta := pw_and1 h
theorem dw_or1 (h : DT X a ta) : DW X (.BoolOp .Or [a] pos) ta := pw_or1 h
theorem dw_and (ha : DT X a ta) (hb : DW X (.BoolOp .And (b :: rest) pos) tb) : DW X (.BoolOp .And (a :: b :: rest) pos) (fAnd ta tb) :=
  DW.of (pw_and ha hb) fun L ρ μ d μ' σ H Q E ef k => by
    obtain ⟨x, m, e1, ef⟩ := bnd_some ef
    refine ⟨L, ρ, μ, x, m, E, e1, fun H1 E1 s1 => ?_⟩
    cases x with
    | true => rw [if_pos rfl]; exact ⟨L, ρ, m, d, μ', E1, ef, fun H2 E2 s2 => k H2 E2 (s1.trans s2)⟩
    | false => rw [if_neg (by decide)]; cases ef; exact k H1 E1 s1
theorem dw_or (ha : DT X a ta) (hb : DW X (.BoolOp .Or (b :: rest) pos) tb) : DW X (.BoolOp .Or (a :: b :: rest) pos) (fOr ta tb) :=
  DW.of (pw_or ha hb) fun L ρ μ d μ' σ H Q E ef k => by
    obtain ⟨x, m, e1, ef⟩ := bnd_some ef
    refine ⟨L, ρ, μ, x, m, E, e1, fun H1 E1 s1 => ?_⟩
    cases x with
    | false => rw [if_neg (by decide)]; exact ⟨L, ρ, m, d, μ', E1, ef, fun H2 E2 s2 => k H2 E2 (s1.trans s2)⟩
    | true => rw [if_pos rfl]; cases ef; exact k H1 E1 s1
theorem dt_not (h : DT X a ta) : DT X (.UnaryOp .Not a pos) (fNot ta) :=
  DT.of (pt_not h) fun L ρ μ d μ' σ H Q E ef k => by
    obtain ⟨x, m, e1, ef⟩ := bnd_some ef
    cases ef
    exact ⟨L, ρ, μ, x, _, E, e1, fun H1 E1 s1 => k H1 E1 s1⟩
def fAndV (fa fb : FE) : FE := fun ρ μ => bnd (fB fa ρ μ) fun b m => if b = true then fb ρ m else some (.bool false, m)
def fOrV (fa fb : FE) : FE := fun ρ μ => bnd (fB fa ρ μ) fun b m => if b = true then some (.bool true, m) else fb ρ m
def fNotV (fa : FE) : FE := fun ρ μ => bnd (fB fa ρ μ) fun b m => some (.bool (!b), m)
theorem de_one {op} (h : DE X a f) : DE X (.BoolOp op [a] pos) f := pe_one h
theorem de_and (ha : DE X a fa) (hb : DE X (.BoolOp .And (b :: rest) pos) fb) : DE X (.BoolOp .And (a :: b :: rest) pos) (fAndV fa fb) :=
  DE.of (pe_and ha hb) fun L ρ μ d μ' σ H Q E ef k => by
    obtain ⟨x, m, e1, ef⟩ := bnd_some ef
    refine ⟨L, ρ, μ, _, m, E, fB_some e1, fun v H1 E1 s1 q1 => ⟨x, dp_bl q1, ?_⟩⟩
    cases x with
    | true => rw [if_pos rfl]; exact ⟨L, ρ, m, d, μ', E1, ef, fun u H2 E2 s2 q2 => k u H2 E2 (s1.trans s2) q2⟩
    | false => rw [if_neg (by decide)]; cases ef; exact k _ H1 E1 s1 (.bl false)
theorem de_or (ha : DE X a fa) (hb : DE X (.BoolOp .Or (b :: rest) pos) fb) : DE X (.BoolOp .Or (a :: b :: rest) pos) (fOrV fa fb) :=
  DE.of (pe_or ha hb) fun L ρ μ d μ' σ H Q E ef k => by
    obtain ⟨x, m, e1, ef⟩ := bnd_some ef
    refine ⟨L, ρ, μ, _, m, E, fB_some e1, fun v H1 E1 s1 q1 => ⟨x, dp_bl q1, ?_⟩⟩
    cases x with
    | false => rw [if_neg (by decide)]; exact ⟨L, ρ, m, d, μ', E1, ef, fun u H2 E2 s2 q2 => k u H2 E2 (s1.trans s2) q2⟩
    | true => rw [if_pos rfl]; cases ef; exact k _ H1 E1 s1 (.bl true)
def fIf (t : FT) (fa fb : FE) : FE := fun ρ μ => bnd (t ρ μ) fun b m => if b = true then fa ρ m else fb ρ m
theorem de_ifExp (hc : DT X c tc) (ha : DE X a fa) (hb : DE X b fb) : DE X (.IfExp c a b pos) (fIf tc fa fb) :=
  DE.of (pe_ifExp hc ha hb) fun L ρ μ d μ' σ H Q E ef k => by
    obtain ⟨x, m, e1, ef⟩ := bnd_some ef
    refine ⟨L, ρ, μ, x, m, E, e1, fun H1 E1 s1 => ?_⟩
    cases x with
    | true => rw [if_pos rfl]; exact ⟨L, ρ, m, d, μ', E1, ef, fun u H2 E2 s2 q2 => k u H2 E2 (s1.trans s2) q2⟩
    | false => rw [if_neg (by decide)]; exact ⟨L, ρ, m, d, μ', E1, ef, fun u H2 E2 s2 q2 => k u H2 E2 (s1.trans s2) q2⟩
end
end DL
namespace DL
open PySem PySem.Spec PyProof.Rows L2
variable [Tabs]
section
variable {X : Cx} {e a b o : Expr} {es : List Expr} {pos apos p : Pos} {fa fb f fo : FE} {fs : FA}
def fNil : FA := fun _ μ => some ([], μ)
def fCons (f : FE) (fs : FA) : FA := fun ρ μ => bnd (f ρ μ) fun d m => bnd (fs ρ m) fun ds m' => some (d :: ds, m')
theorem DA.of {t : TA} {f : FA} (h : PA X es t) (imp : ∀ L ρ μ d μ' σ H Q, EnvR X.K L H σ ρ μ → f ρ μ = some (d, μ') → (∀ v H', EnvR X.K L H' σ ρ μ' → Step L H L H' → DpAll X.K (Off L H') v d → Q v H') → t σ H Q) : DA X es f :=
  fun pos pins s σ H Q I ⟨L, ρ, μ, d, μ', E, ef, k⟩ => h pos pins s σ H Q I (imp L ρ μ d μ' σ H Q E ef k)
theorem da_nil : DA X [] fNil := DA.of pa_nil fun L ρ μ d μ' σ H Q E ef k => by cases ef; exact k [] H E (Step.refl _ _) .nil
theorem da_cons (ha : DE X e f) (hr : DA X es fs) (hs : starEach (e :: es) X.env = (false, eval e X.env) :: starEach es X.env := by rfl) : DA X (e :: es) (fCons f fs) :=
  DA.of (pa_cons ha hr hs) fun L ρ μ d μ' σ H Q E ef k => by
    obtain ⟨d1, m1, e1, ef⟩ := bnd_some ef
    obtain ⟨ds, m2, e2, ef⟩ := bnd_some ef
    cases ef
    exact ⟨L, ρ, μ, d1, m1, E, e1, fun v H1 E1 s1 q1 => ⟨L, ρ, m1, ds, _, E1, e2, fun vs H2 E2 s2 q2 => k (v :: vs) H2 E2 (s1.trans s2) (.cons (q1.mono s2.same) q2)⟩⟩
def fN (fs : FA) (g : List PyData → Option PyData) : FE := fun ρ μ => bnd (fs ρ μ) fun ds m => fin (g ds) m
theorem dN {r : List V → Hp → VK → Prop} {g : List PyData → Option PyData} (o : OpN X.K r g) : ∀ L ρ μ d μ' σ H Q, EnvR X.K L H σ ρ μ → fN fs g ρ μ = some (d, μ') → (∀ v H', EnvR X.K L H' σ ρ μ' → Step L H L H' → Dp X.K (Off L H') v d → Q v H') →
    tDA X.K fs σ H fun vs H1 => r vs H1 Q := fun L ρ μ d μ' σ H Q E ef k => by
  obtain ⟨ds, m1, e1, ef⟩ := bnd_some ef
  obtain ⟨e3, rfl⟩ := fin_some ef
  exact ⟨L, ρ, μ, ds, _, E, e1, fun vs H1 E1 s1 q1 => o L H1 vs ds d Q E1.own q1 e3 (Ret.of E1 s1 k)⟩
def gTup (ds : List PyData) : Option PyData := if ds.length ≤ sizeLine then some (.tuple ds) else none
def gLst (ds : List PyData) : Option PyData := if ds.length ≤ sizeLine then some (.list ds) else none
theorem oN_tup {K : PySem.W.Frag} : OpN K (fun xs H Q => xs.length ≤ sizeLine ∧ ∀ p, H p = none → Q (.ref p) (upd H p (.tup xs))) gTup := fun L H xs ds z Q hL h hg k => by
  unfold gTup at hg
  split at hg
  · cases hg; exact ⟨by rw [dps_len h]; assumption, k.tup hL h⟩
  · cases hg
theorem oN_lst {K : PySem.W.Frag} : OpN K (fun xs H Q => xs.length ≤ sizeLine ∧ ∀ p, H p = none → Q (.ref p) (upd H p (.lst xs))) gLst := fun L H xs ds z Q hL h hg k => by
  unfold gLst at hg
  split at hg
  · cases hg; exact ⟨by rw [dps_len h]; assumption, k.lst hL h⟩
  · cases hg
theorem de_tup {x1} (h : DA X es fs) : DE X (.Tuple es x1 pos) (fN fs DL.gTup) := DE.of (pe_tup h) (dN oN_tup)
theorem de_lst (h : DA X es fs) : DE X (.List es pos) (fN fs gLst) := DE.of (pe_lst h) (dN oN_lst)
theorem de_callB {x : Str} {id : String} {r : List V → Hp → VK → Prop} {g : List PyData → Option PyData} (oN : OpN X.K r g) (hc : CallR X (.builtin id) r) (hg : Gl X x) (hm : X.mg x = none) (hv : bootBuiltins x = some (.builtin id)) (ha : DA X (e :: es) fs)
    (hn : x ≠ "__name__" := by decide) (hdb : (x == ("__debug__" : Str)) = false := by decide)
    (he : starEach (e :: es) X.env = (false, eval e X.env) :: starEach es X.env := by rfl) (hpl : (backTo pos (starEach es X.env)).any (·.1) = false := by rfl) : DE X (.Call (.Name x p) (e :: es) [] pos) (fN fs g) :=
  DE.of (pe_callB hc hg hm hv ha hn hdb he hpl) (dN oN)
theorem de_callTy {x : Str} {T : String} {r : List V → Hp → VK → Prop} {g : List PyData → Option PyData} (oN : OpN X.K r g) (hc : CallR X (.type T) r) (hg : Gl X x) (hm : X.mg x = none) (hv : bootBuiltins x = some (.type T)) (ha : DA X (e :: es) fs)
    (hn : x ≠ "__name__" := by decide) (hdb : (x == ("__debug__" : Str)) = false := by decide)
    (he : starEach (e :: es) X.env = (false, eval e X.env) :: starEach es X.env := by rfl) (hpl : (backTo pos (starEach es X.env)).any (·.1) = false := by rfl) : DE X (.Call (.Name x p) (e :: es) [] pos) (fN fs g) :=
  DE.of (pe_callTy hc hg hm hv ha hn hdb he hpl) (dN oN)
def lenD : PyData → Option PyData
  | .str x => if x.length ≤ sizeLine then some (.int x.length) else none
  | .list ds => some (.int ds.length)
  | .tuple ds => some (.int ds.length)
  | _ => none
def g1 (g : PyData → Option PyData) : List PyData → Option PyData
  | [d] => g d
  | _ => none
theorem oN_len {K : PySem.W.Frag} : OpN K (fun xs H Q => ∃ x n, xs = [x] ∧ LenV K x H n ∧ Q (.int n) H) (g1 lenD) := fun L H xs ds z Q hL h hg k => by
  unfold g1 at hg
  split at hg
  · rename_i d
    cases h with
    | cons h1 h2 =>
      cases h2
      cases d with
      | str x =>
        have hg : (if x.length ≤ sizeLine then some (PyData.int x.length) else none) = some z := hg
        by_cases q : x.length ≤ sizeLine
        · rw [if_pos q] at hg; cases hg
          rw [dp_str h1]
          exact ⟨_, x.length, rfl, ⟨q, rfl⟩, k.int⟩
        · rw [if_neg q] at hg; cases hg
      | list ds =>
        cases hg
        obtain ⟨a, xs, rfl, s1, q1⟩ := dp_lst h1
        exact ⟨_, ds.length, rfl, .inl ⟨xs, sqlf s1, (dps_len q1).symm⟩, k.int⟩
      | tuple ds =>
        cases hg
        obtain ⟨a, xs, rfl, s1, q1⟩ := dp_tup h1
        exact ⟨_, ds.length, rfl, .inr ⟨xs, sqtf s1, (dps_len q1).symm⟩, k.int⟩
      | _ => cases hg
  · cases hg
def blsOf : List PyData → Option (List Bool)
  | [] => some []
  | .bool b :: r => opt (blsOf r) fun bs => some (b :: bs)
  | _ :: _ => none
theorem blsOf_dp {K : PySem.W.Frag} {H : Hp} : ∀ {ds : List PyData} {xs : List V} {bs : List Bool}, DpAll K H xs ds → blsOf ds = some bs → xs = bs.map V.bl
  | [], _, _, h, e => by cases e; cases h; rfl
  | .bool b :: r, _, _, h, e => by
    obtain ⟨bs, e1, e2⟩ := opt_some e
    cases e2
    cases h with
    | cons h1 h2 => rw [dp_bl h1, blsOf_dp h2 e1]; rfl
  | .none :: _, _, _, _, e => by cases e
  | .int _ :: _, _, _, _, e => by cases e
  | .str _ :: _, _, _, _, e => by cases e
  | .list _ :: _, _, _, _, e => by cases e
  | .tuple _ :: _, _, _, _, e => by cases e
  | .dict _ :: _, _, _, _, e => by cases e
def allD : PyData → Option PyData
  | .list ds => opt (blsOf ds) fun bs => some (.bool (bs.all id))
  | _ => none
theorem oN_all {K : PySem.W.Frag} : OpN K (rAll K) (g1 allD) := fun L H xs ds z Q hL h hg k => by
  unfold g1 at hg
  split at hg
  · rename_i d
    cases h with
    | cons h1 h2 =>
      cases h2
      cases d with
      | list ds =>
        obtain ⟨bs, e1, e2⟩ := opt_some hg
        cases e2
        obtain ⟨a, xs, rfl, s1, q1⟩ := dp_lst h1
        rw [blsOf_dp q1 e1] at s1
        exact ⟨a, bs, rfl, sqlf s1, k.bl⟩
      | _ => cases hg
  · cases hg
def tupleD : PyData → Option PyData
  | .list ds => some (.tuple ds)
  | .tuple ds => some (.tuple ds)
  | _ => none
theorem oN_tuple {K : PySem.W.Frag} : OpN K (fun xs H Q => ∃ p ys, xs = [.ref p] ∧ ((SqL K H p ys ∧ ∀ l, H l = none → Q (.ref l) (upd H l (.tup ys))) ∨ (SqT K H p ys ∧ Q (.ref p) H))) (g1 tupleD) := fun L H xs ds z Q hL h hg k => by
  unfold g1 at hg
  split at hg
  · rename_i d
    cases h with
    | cons h1 h2 =>
      cases h2
      cases d with
      | list ds =>
        cases hg
        obtain ⟨a, xs, rfl, s1, q1⟩ := dp_lst h1
        exact ⟨a, xs, rfl, .inl ⟨sqlf s1, k.tup hL q1⟩⟩
      | tuple ds =>
        cases hg
        have h1' := h1
        obtain ⟨a, xs, rfl, s1, q1⟩ := dp_tup h1
        exact ⟨a, xs, rfl, .inr ⟨sqtf s1, k _ H (Same.refl H) h1'⟩⟩
      | _ => cases hg
  · cases hg
theorem CallR.or {f : Value} {r r' : List V → Hp → VK → Prop} (h : CallR X f r) (h' : CallR X f r') : CallR X f (fun xs H Q => r xs H Q ∨ r' xs H Q) := by
  intro pins s σ H xs us Q I rs q
  rcases q with q | q
  · exact h pins s σ H xs us Q I rs q
  · exact h' pins s σ H xs us Q I rs q
def intD : PyData → Option PyData
  | .int i => some (.int i)
  | .bool b => some (.int (if b then 1 else 0))
  | .str a => if a.length ≤ 640 then opt (PySem.intText? a) fun n => some (.int n) else none
  | _ => none
def rInt : List V → Hp → VK → Prop := fun xs H Q => ((∃ i, xs = [.int i] ∧ Q (.int i) H) ∨ ∃ k, xs = [.bl k] ∧ Q (.int (if k then 1 else 0)) H) ∨ (∃ a n, xs = [.str a] ∧ PySem.intText? a = some n ∧ a.length ≤ 640 ∧ Q (.int n) H)
theorem call_intA : CallR X (.type "int") rInt := CallR.or call_int1 call_int_str
theorem oN_int {K : PySem.W.Frag} : OpN K rInt (g1 intD) := fun L H xs ds z Q hL h hg k => by
  unfold g1 at hg
  split at hg
  · rename_i d
    cases h with
    | cons h1 h2 =>
      cases h2
      cases d with
      | int i => cases hg; rw [dp_int h1]; exact .inl (.inl ⟨i, rfl, k.int⟩)
      | bool i => cases hg; rw [dp_bl h1]; exact .inl (.inr ⟨i, rfl, k.int⟩)
      | str a =>
        have hg : (if a.length ≤ 640 then opt (PySem.intText? a) fun n => some (PyData.int n) else none) = some z := hg
        by_cases q : a.length ≤ 640
        · rw [if_pos q] at hg
          obtain ⟨n, e1, e2⟩ := opt_some hg
          cases e2
          rw [dp_str h1]
          exact .inr ⟨a, n, rfl, e1, q, k.int⟩
        · rw [if_neg q] at hg; cases hg
      | _ => cases hg
  · cases hg
def fM1 (fo fe : FE) (g : Str → PyData → Option PyData) : FE := fun ρ μ => bnd (fo ρ μ) fun d m => match d with
  | .str a => bnd (fe ρ m) fun e m' => fin (g a e) m'
  | _ => none
def fM0 (fo : FE) (g : Str → Option PyData) : FE := fun ρ μ => bnd (fo ρ μ) fun d m => match d with
  | .str a => fin (g a) m
  | _ => none
def gSS (g : Str → Str → PyData) (a : Str) (e : PyData) : Option PyData := match e with
  | .str b => some (g a b)
  | _ => none
def strsOf : List PyData → Option (List Str)
  | [] => some []
  | .str b :: r => opt (strsOf r) fun bs => some (b :: bs)
  | _ :: _ => none
theorem strsOf_map : ∀ ys : List Str, strsOf (ys.map PyData.str) = some ys
  | [] => rfl
  | y :: r => by show opt (strsOf (r.map PyData.str)) _ = _; rw [strsOf_map r]; rfl
theorem strsOf_dp {K : PySem.W.Frag} {H : Hp} : ∀ {ds : List PyData} {xs : List V} {bs : List Str}, DpAll K H xs ds → strsOf ds = some bs → xs = bs.map V.str
  | [], _, _, h, e => by cases e; cases h; rfl
  | .str b :: r, _, _, h, e => by
    obtain ⟨bs, e1, e2⟩ := opt_some e
    cases e2
    cases h with
    | cons h1 h2 => rw [dp_str h1, strsOf_dp h2 e1]; rfl
  | .none :: _, _, _, _, e => by cases e
  | .int _ :: _, _, _, _, e => by cases e
  | .bool _ :: _, _, _, _, e => by cases e
  | .list _ :: _, _, _, _, e => by cases e
  | .tuple _ :: _, _, _, _, e => by cases e
  | .dict _ :: _, _, _, _, e => by cases e
def joinT (a : Str) (ys : List Str) : Option PyData := if (ys.map (·.length)).sum + ys.length * a.length ≤ 16777216 then some (.str (Txt.join a ys)) else none
def joinD (a : Str) (e : PyData) : Option PyData := match e with
  | .list ds => opt (strsOf ds) fun ys => joinT a ys
  | .tuple ds => opt (strsOf ds) fun ys => joinT a ys
  | _ => none
def ixD (d e : PyData) : Option PyData := match d, e with
  | .list ds, .int i => atI ds i
  | .tuple ds, .int i => atI ds i
  | .str z, .int i => if z.length ≤ sizeLine then opt (atI z.cps.toList i) fun c => some (.str ⟨#[c]⟩) else none
  | _, _ => none
theorem at_dp {K : PySem.W.Frag} {H : Hp} {xs : List V} {ds : List PyData} {i : Int} {d : PyData} (h : DpAll K H xs ds) (e : atI ds i = some d) : ∃ v, atI xs i = some v ∧ Dp K H v d := by
  unfold atI at e ⊢
  rw [dps_len h]
  cases q : ixN ds.length i with
  | none => rw [q] at e; cases e
  | some j =>
    rw [q] at e
    exact dps_get h e
theorem o2_ix {K : PySem.W.Frag} : Op2 K (rIx K) ixD := fun L H x y d e z Q hL h1 h2 hg k => by
  unfold ixD at hg
  split at hg
  · obtain ⟨a, xs, rfl, s1, q1⟩ := dp_lst h1
    obtain ⟨v, e1, e2⟩ := at_dp q1 hg
    exact .inl ⟨a, xs, _, v, rfl, dp_int h2, sqlf s1, e1, k _ H (Same.refl H) e2⟩
  · obtain ⟨a, xs, rfl, s1, q1⟩ := dp_tup h1
    obtain ⟨v, e1, e2⟩ := at_dp q1 hg
    exact .inr (.inl ⟨a, xs, _, v, rfl, dp_int h2, sqtf s1, e1, k _ H (Same.refl H) e2⟩)
  · split at hg
    · obtain ⟨c, e1, e2⟩ := opt_some hg
      cases e2
      exact .inr (.inr ⟨_, _, c, dp_str h1, dp_int h2, by assumption, e1, k.str⟩)
    · cases hg
  · cases hg
theorem de_ix (ha : DE X a fa) (hb : DE X b fb) (hs : PlainIx b) : DE X (.Subscript a b pos) (f2 fa fb ixD) :=
  DE.of (pe_ix ix_seq ha hb hs) (d2 (t := tOp (rIx X.K) (tD X.K fa) (tD X.K fb)) o2_ix)
abbrev FO := Rho → Mu → Option (Option Int × Mu)
def tDO (K : PySem.W.Frag) (f : FO) : TO := fun σ H Q => ∃ L ρ μ d μ', EnvR K L H σ ρ μ ∧ f ρ μ = some (d, μ') ∧ ∀ H', EnvR K L H' σ ρ μ' → Step L H L H' → Q d H'
def DO (X : Cx) (e : Option Expr) (f : FO) : Prop := PO X e (tDO X.K f)
def fNo : FO := fun _ μ => some (none, μ)
def fSome (f : FE) : FO := fun ρ μ => bnd (f ρ μ) fun d m => match d with
  | .int i => some (some i, m)
  | _ => none
theorem do_none : DO X none fNo := fun pins s σ H Q I ⟨L, ρ, μ, d, μ', E, ef, k⟩ => po_none pins s σ H Q I (by cases ef; exact k H E (Step.refl _ _))
theorem do_some (h : DE X e f) : DO X (some e) (fSome f) := fun pins s σ H Q I ⟨L, ρ, μ, d, μ', E, ef, k⟩ => po_some h pins s σ H Q I (by
  obtain ⟨d1, m1, e1, ef⟩ := bnd_some ef
  split at ef
  · cases ef
    exact ⟨L, ρ, μ, _, _, E, e1, fun v H1 E1 s1 q1 => ⟨_, dp_int q1, k H1 E1 s1⟩⟩
  · cases ef)
def cutD (xs : List PyData) (lo hi : Option Int) : List PyData := (xs.drop (HT.sIx xs.length 0 lo)).take (HT.sIx xs.length xs.length hi - HT.sIx xs.length 0 lo)
theorem cut_dp {K : PySem.W.Frag} {H : Hp} {xs : List V} {ds : List PyData} (lo hi : Option Int) (h : DpAll K H xs ds) : DpAll K H (cutV xs lo hi) (cutD ds lo hi) := by
  unfold cutV cutD
  rw [dps_len h]
  exact dps_take _ (dps_drop _ h)
def slD (d : PyData) (lo hi : Option Int) : Option PyData := match d with
  | .list ds => some (.list (cutD ds lo hi))
  | .tuple ds => if HT.sIx ds.length 0 lo = 0 ∧ HT.sIx ds.length ds.length hi = ds.length then none else some (.tuple (cutD ds lo hi))
  | .str z => if z.length ≤ sizeLine then some (.str (cutS z lo hi)) else none
  | _ => none
def rSlA (K : PySem.W.Frag) : V → Option Int → Option Int → Hp → VK → Prop := fun x lo hi H Q => rSlL K x lo hi H Q ∨ rSlT K x lo hi H Q ∨ rSlS x lo hi H Q
theorem sl_all : L2.SlR X (rSlA X.K) := sl_list.or (sl_tup.or sl_str)
theorem o_sl {K : PySem.W.Frag} {L : OW} {H : Hp} {x : V} {d z : PyData} {lo hi : Option Int} {Q : VK} (hL : Own L H) (h : Dp K (Off L H) x d) (hg : slD d lo hi = some z) (k : Ret K L H z Q) : rSlA K x lo hi H Q := by
  unfold slD at hg
  split at hg
  · cases hg
    obtain ⟨a, xs, rfl, s1, q1⟩ := dp_lst h
    exact .inl ⟨a, xs, rfl, sqlf s1, k.lst hL (cut_dp lo hi q1)⟩
  · split at hg
    · cases hg
    · rename_i hw
      cases hg
      obtain ⟨a, xs, rfl, s1, q1⟩ := dp_tup h
      exact .inr (.inl ⟨a, xs, rfl, sqtf s1, by rw [dps_len q1]; exact hw, k.tup hL (cut_dp lo hi q1)⟩)
  · split at hg
    · cases hg
      exact .inr (.inr ⟨_, dp_str h, by assumption, k.str⟩)
    · cases hg
  · cases hg
def fSl (f : FE) (fl fh : FO) : FE := fun ρ μ => bnd (f ρ μ) fun d m => bnd (fl ρ m) fun lo m' => bnd (fh ρ m') fun hi m'' => fin (slD d lo hi) m''
theorem de_slice {lo hi : Option Expr} {fl fh : FO} {p2 : Pos} (he : DE X e f) (hl : DO X lo fl) (hh : DO X hi fh) : DE X (.Subscript e (.Slice lo hi none p2) pos) (fSl f fl fh) :=
  DE.of (pe_slice sl_all he hl hh) fun L ρ μ d μ' σ H Q E ef k => by
    obtain ⟨d1, m1, e1, ef⟩ := bnd_some ef
    obtain ⟨lo, m2, e2, ef⟩ := bnd_some ef
    obtain ⟨hi, m3, e3, ef⟩ := bnd_some ef
    obtain ⟨e4, rfl⟩ := fin_some ef
    refine ⟨L, ρ, μ, d1, m1, E, e1, fun v H1 E1 s1 q1 => ⟨L, ρ, m1, lo, m2, E1, e2, fun H2 E2 s2 => ⟨L, ρ, m2, hi, _, E2, e3, fun H3 E3 s3 => ?_⟩⟩⟩
    exact o_sl E3.own (q1.mono (s2.trans s3).same) e4 (Ret.of E3 ((s1.trans s2).trans s3) k)
def tyD : PyData → String
  | .none => "NoneType"
  | .bool _ => "bool"
  | .int _ => "int"
  | .str _ => "str"
  | .list _ => "list"
  | .tuple _ => "tuple"
  | .dict _ => "dict"
def rIsi (K : PySem.W.Frag) (T : String) : List V → Hp → VK → Prop := fun xs H Q => ∃ x d, xs = [x, .ty T] ∧ Dp K H x d ∧ tyD d = T ∧ Q (.bl true) H
theorem vals2 {x y : V} {us : List Value} (r : Vals [x, y] us) : ∃ u w, us = [u, w] ∧ RelV x u ∧ RelV y w := by
  cases r with
  | cons r1 r2 =>
    cases r2 with
    | cons r2 r3 => cases r3; exact ⟨_, _, rfl, r1, r2⟩
theorem call_isi {T : String} (hty : typeOf (.type T) = pure (.type "type")) (hsub : isSubtype (.type T) (.type T) = pure true) : CallR X (.builtin "isinstance") (rIsi X.K T) := by
  intro pins s σ H xs us Q I rs h
  obtain ⟨x, d, rfl, hd, rfl, q⟩ := h
  obtain ⟨u, w, rfl, r1, r2⟩ := vals2 rs
  cases r2
  have fin : EP X pins σ Q (.bool true) s := ⟨.bl true, H, I, rfl, q⟩
  refine call_isinstance_yes (Tx := tyD d) ?_ hty hsub fin
  cases hd with
  | non => cases r1; exact typeIs_none s
  | bl b => cases r1; exact PySem.typeIs_bool s b
  | int i => obtain ⟨t, rfl⟩ := r1; exact typeIs_int s i t
  | str i => obtain ⟨t, rfl⟩ := r1; exact typeIs_str s i t
  | lst s1 q1 => cases r1; obtain ⟨its, _, hl, _⟩ := I.list s1; exact hl.isList.typeIs
  | tup s1 q1 => cases r1; obtain ⟨its, _, hl, _⟩ := I.tuple s1; exact hl.typeIs
  | dct e => cases r1; obtain ⟨_, _, vs, _, o, es, ep, ho, hc, _⟩ := I.hok _ _ e; exact ⟨o, ho, hc.1⟩
def fIsi (T : String) (f : FE) : FE := fun ρ μ => bnd (f ρ μ) fun d m => if tyD d = T then some (.bool true, m) else none
theorem de_isi {T : String} {x : Str} {p1 p2 : Pos} (hty : typeOf (.type T) = pure (.type "type")) (hsub : isSubtype (.type T) (.type T) = pure true) (hi : Gl X "isinstance") (hmi : X.mg "isinstance" = none)
    (hg : Gl X x) (hm : X.mg x = none) (hv : bootBuiltins x = some (.type T)) (ha : DE X a fa) (hn : x ≠ "__name__" := by decide) (hdb : (x == ("__debug__" : Str)) = false := by decide)
    (he : starEach [a, .Name x p2] X.env = (false, eval a X.env) :: starEach [.Name x p2] X.env := by rfl) (he2 : starEach [.Name x p2] X.env = (false, eval (.Name x p2) X.env) :: starEach [] X.env := by rfl) (hpl : (backTo pos (starEach [.Name x p2] X.env)).any (·.1) = false := by rfl) :
    DE X (.Call (.Name "isinstance" p1) [a, .Name x p2] [] pos) (fIsi T fa) :=
  DE.of (pe_callB (call_isi hty hsub) hi hmi (by decide +kernel) (pa_cons ha (pa_cons (pe_bltn hg hm hv (show RelV (.ty T) (.type T) from rfl) hn hdb) pa_nil he2) he) (by decide) (by decide) he hpl) fun L ρ μ d μ' σ H Q E ef k => by
    obtain ⟨d1, m1, e1, ef⟩ := bnd_some ef
    split at ef
    · cases ef
      exact ⟨L, ρ, μ, d1, _, E, e1, fun v H1 E1 s1 q1 => ⟨v, d1, rfl, dpf q1, by assumption, k _ H1 E1 s1 (.bl true)⟩⟩
    · cases ef
end
end DL
namespace DL
open PySem PySem.Spec PyProof.Rows L2
variable [Tabs]
inductive RV where
  | dat (d : PyData) | own (k : Nat)
inductive Out where
  | nx (r : Rho) (m : Mu) | rt (v : RV) (m : Mu) | bk (r : Rho) (m : Mu) | ct (r : Rho) (m : Mu)
abbrev FS := Rho → Mu → Option Out
def RvR (K : PySem.W.Frag) (L : OW) (H : Hp) (v : V) : RV → Prop
  | .dat d => Dp K (Off L H) v d
  | .own k => ∃ l, L.o[k]? = some l ∧ v = .ref l
def OutOk (K : PySem.W.Frag) (L : OW) (H : Hp) (D : Ends) : Out → Prop
  | .nx r m => ∀ σ' H' L', EnvR K L' H' σ' r m → Step L H L' H' → D.nx σ' H'
  | .bk r m => ∀ σ' H' L', EnvR K L' H' σ' r m → Step L H L' H' → D.bk σ' H'
  | .ct r m => ∀ σ' H' L', EnvR K L' H' σ' r m → Step L H L' H' → D.ct σ' H'
  | .rt v m => ∀ u H' L', L'.o.Nodup → StoreR K L' H' m → Step L H L' H' → RvR K L' H' u v → D.rt u H'
theorem OutOk.step {K : PySem.W.Frag} {L L1 : OW} {H H1 : Hp} {D : Ends} {o : Out} (s : Step L H L1 H1) (h : OutOk K L H D o) : OutOk K L1 H1 D o := by
  cases o with
  | nx r m => exact fun σ' H' L' E st => h σ' H' L' E (s.trans st)
  | bk r m => exact fun σ' H' L' E st => h σ' H' L' E (s.trans st)
  | ct r m => exact fun σ' H' L' E st => h σ' H' L' E (s.trans st)
  | rt v m => exact fun u H' L' n E st => h u H' L' n E (s.trans st)
def tDS (K : PySem.W.Frag) (F : FS) : TS := fun D σ H => ∃ L ρ μ o, EnvR K L H σ ρ μ ∧ F ρ μ = some o ∧ OutOk K L H D o
def DS (X : Cx) (st : Stmt) (F : FS) : Prop := PS X st (tDS X.K F)
def DSs (X : Cx) (sts : List Stmt) (F : FS) : Prop := PSs X sts (tDS X.K F)
section
variable {X : Cx} {st : Stmt} {rest : List Stmt} {e a b c tg : Expr} {pos : Pos} {f fa fb : FE} {tc : FT} {F G : FS}
theorem DS.of {t : TS} (h : PS X st t) (imp : ∀ L ρ μ o σ H D, EnvR X.K L H σ ρ μ → F ρ μ = some o → OutOk X.K L H D o → t D σ H) : DS X st F :=
  fun pins s σ H D I ⟨L, ρ, μ, o, E, ef, k⟩ => h pins s σ H D I (imp L ρ μ o σ H D E ef k)
theorem DSs.of {t : TS} (h : PSs X rest t) (imp : ∀ L ρ μ o σ H D, EnvR X.K L H σ ρ μ → F ρ μ = some o → OutOk X.K L H D o → t D σ H) : DSs X rest F :=
  fun pins s σ H D I ⟨L, ρ, μ, o, E, ef, k⟩ => h pins s σ H D I (imp L ρ μ o σ H D E ef k)
def fEnd : FS := fun ρ μ => some (.nx ρ μ)
def fSeq (F G : FS) : FS := fun ρ μ => match F ρ μ with
  | some (.nx r m) => G r m
  | r => r
theorem dss_nil : DSs X [] fEnd := DSs.of pss_nil fun L ρ μ o σ H D E ef k => by cases ef; exact k σ H L E (Step.refl _ _)
theorem dss_one (h : DS X st F) : DSs X [st] F := pss_one h
theorem dss_cons (h1 : DS X st F) (h2 : DSs X rest G) : DSs X (st :: rest) (fSeq F G) := DSs.of (pss_cons h1 h2) fun L ρ μ o σ H D E ef k => by
  unfold fSeq at ef
  cases q : F ρ μ with
  | none => rw [q] at ef; cases ef
  | some o1 =>
    rw [q] at ef
    refine ⟨L, ρ, μ, o1, E, q, ?_⟩
    cases o1 with
    | nx r m => exact fun σ' H' L' E' s' => ⟨L', r, m, o, E', ef, k.step s'⟩
    | rt v m => cases ef; exact k
    | bk r m => cases ef; exact k
    | ct r m => cases ef; exact k
theorem ds_never : DS X st (fun _ _ => none) := DS.of ps_never fun L ρ μ o σ H D E ef k => by cases ef
def fExpr (f : FE) : FS := fun ρ μ => bnd (f ρ μ) fun _ m => some (.nx ρ m)
theorem ds_expr (he : DE X e f) (hs : swapsWith e none pos.line X.env = pure false := by rfl) : DS X (.Expr e pos) (fExpr f) := DS.of (ps_expr he hs) fun L ρ μ o σ H D E ef k => by
  obtain ⟨d, m, e1, ef⟩ := bnd_some ef
  cases ef
  exact ⟨L, ρ, μ, d, m, E, e1, fun v H' E' s' q => k σ H' L E' s'⟩
def fRet (f : FE) : FS := fun ρ μ => bnd (f ρ μ) fun d m => some (.rt (.dat d) m)
theorem ds_ret (he : DE X e f) : DS X (.Return (some e) pos) (fRet f) := DS.of (ps_ret he) fun L ρ μ o σ H D E ef k => by
  obtain ⟨d, m, e1, ef⟩ := bnd_some ef
  cases ef
  exact ⟨L, ρ, μ, d, m, E, e1, fun v H' E' s' q => k v H' L E'.nd.1 E'.st s' q⟩
def fRetO (i : Nat) : FS := fun ρ μ => match ρ[i]? with
  | some (.own k) => some (.rt (.own k) μ)
  | _ => none
theorem ds_retO {i : Nat} {x : Str} {p : Pos} (hN : X.N[i]? = some x) (hv : Vis X.env.scope x) (hd : (x == ("__debug__" : Str)) = false := by decide) (hcd : (x == ("__classdict__" : Str)) = false := by decide) : DS X (.Return (some (.Name x p)) pos) (fRetO i) :=
  DS.of (ps_ret (pe_var hN hv hd hcd)) fun L ρ μ o σ H D E ef k => by
    unfold fRetO at ef
    split at ef
    · rename_i k' er
      cases ef
      obtain ⟨ov, eo, l, el, rfl⟩ := pr_get E.sl er
      exact ⟨.ref l, eo, k _ H L E.nd.1 E.st (Step.refl _ _) ⟨l, el, rfl⟩⟩
    · cases ef
def fIfS (t : FT) (F G : FS) : FS := fun ρ μ => bnd (t ρ μ) fun b m => if b = true then F ρ m else G ρ m
theorem ds_if {x y : List Stmt} (hc : DT X c tc) (ha : DSs X x F) (hb : DSs X y G) : DS X (.If c x y pos) (fIfS tc F G) := DS.of (ps_if hc ha hb) fun L ρ μ o σ H D E ef k => by
  obtain ⟨b, m, e1, ef⟩ := bnd_some ef
  refine ⟨L, ρ, μ, b, m, E, e1, fun H1 E1 s1 => ?_⟩
  cases b with
  | true => rw [if_pos rfl]; exact ⟨L, ρ, m, o, E1, ef, k.step s1⟩
  | false => rw [if_neg (by decide)]; exact ⟨L, ρ, m, o, E1, ef, k.step s1⟩
abbrev FG := PyData → Rho → Option Rho
def But (is : List Nat) (σ σ' : L2.St) : Prop := σ'.length = σ.length ∧ ∀ j, j ∉ is → σ'[j]? = σ[j]?
def tDG (K : PySem.W.Frag) (is : List Nat) (g : FG) : TG := fun v σ H Q => ∃ L ρ μ d ρ', EnvR K L H σ ρ μ ∧ Dp K (Off L H) v d ∧ g d ρ = some ρ' ∧ ∀ σ', But is σ σ' → EnvR K L H σ' ρ' μ → Q σ' H
def tDGs (K : PySem.W.Frag) (is : List Nat) (g : List PyData → Rho → Option Rho) : TGs := fun vs σ H Q => ∃ L ρ μ ds ρ', EnvR K L H σ ρ μ ∧ DpAll K (Off L H) vs ds ∧ g ds ρ = some ρ' ∧ ∀ σ', But is σ σ' → EnvR K L H σ' ρ' μ → Q σ' H
def DG (X : Cx) (tg : Expr) (is : List Nat) (g : FG) : Prop := PG X tg (tDG X.K is g)
def DGs (X : Cx) (tgs : List Expr) (is : List Nat) (g : List PyData → Rho → Option Rho) : Prop := PGs X tgs (tDGs X.K is g)
theorem EnvR.put {K : PySem.W.Frag} {L : OW} {H : Hp} {σ : L2.St} {ρ : Rho} {μ : Mu} {v : V} {d : PyData} (E : EnvR K L H σ ρ μ) (i : Nat) (q : Dp K (Off L H) v d) : EnvR K L H (σ.set i (some v)) (ρ.set i (.dat d)) μ :=
  ⟨E.nd, E.lk, pr_set (R := SlotR K L H) (show SlotR K L H (some v) (.dat d) from ⟨v, rfl, q⟩) i E.sl, E.st⟩
theorem But.set {σ : L2.St} {i : Nat} {o : Option V} : But [i] σ (σ.set i o) := ⟨by simp, fun j hj => by
  have : i ≠ j := fun z => hj (by simp [z])
  rw [List.getElem?_set_ne this]⟩
theorem But.trans {is js : List Nat} {σ σ1 σ2 : L2.St} (a : But is σ σ1) (b : But js σ1 σ2) : But (is ++ js) σ σ2 := ⟨b.1.trans a.1, fun j hj => by
  rw [List.mem_append, not_or] at hj
  rw [b.2 j hj.2, a.2 j hj.1]⟩
theorem But.refl (σ : L2.St) : But [] σ σ := ⟨rfl, fun _ _ => rfl⟩
def gNm (i : Nat) : FG := fun d ρ => some (ρ.set i (.dat d))
theorem dg_name {i : Nat} {x : Str} (hN : X.N.Nodup) (hi : X.N[i]? = some x) (hx : Loc X.env.scope x) (hf : X.fn x = true ∨ X.env.scope.names.lookup x = some .local := by first | exact .inl rfl | exact .inr rfl | assumption) : DG X (.Name x pos) [i] (gNm i) :=
  fun pins s σ H v u Q I r ⟨L, ρ, μ, d, ρ', E, q, eg, k⟩ => pg_name hN hi hx hf pins s σ H v u Q I r (by cases eg; exact k _ But.set (E.put i q))
def gNo : List PyData → Rho → Option Rho := fun ds ρ => match ds with
  | [] => some ρ
  | _ => none
def gCo (g : FG) (gs : List PyData → Rho → Option Rho) : List PyData → Rho → Option Rho := fun ds ρ => match ds with
  | d :: r => opt (g d ρ) fun ρ' => gs r ρ'
  | _ => none
theorem dgs_nil : DGs X [] [] gNo := fun pins s σ H vs us Q I r ⟨L, ρ, μ, ds, ρ', E, q, eg, k⟩ => pgs_nil pins s σ H vs us Q I r (by
  cases q with
  | nil => cases eg; exact ⟨rfl, k σ (But.refl σ) E⟩
  | cons _ _ => cases eg)
theorem dgs_cons {es : List Expr} {is js : List Nat} {g : FG} {gs : List PyData → Rho → Option Rho} (h1 : DG X e is g) (h2 : DGs X es js gs)
    (hs : (assignEach (e :: es) X.env).map (·.2) = assign e X.env :: (assignEach es X.env).map (·.2) := by rfl) : DGs X (e :: es) (is ++ js) (gCo g gs) :=
  fun pins s σ H vs us Q I r ⟨L, ρ, μ, ds, ρ', E, q, eg, k⟩ => pgs_cons h1 h2 hs pins s σ H vs us Q I r (by
    cases q with
    | nil => cases eg
    | cons q1 q2 =>
      obtain ⟨ρ1, e1, e2⟩ := opt_some eg
      exact ⟨_, _, rfl, L, ρ, μ, _, ρ1, E, q1, e1, fun σ1 b1 E1 => ⟨L, ρ1, μ, _, ρ', E1, q2, e2, fun σ2 b2 E2 => k σ2 (b1.trans b2) E2⟩⟩)
def gTu (n : Nat) (gs : List PyData → Rho → Option Rho) : FG := fun d ρ => match d with
  | .tuple ds => if ds.length = n then gs ds ρ else none
  | _ => none
theorem dg_tup {es : List Expr} {k : Nat} {gs : List PyData → Rho → Option Rho} {n : Nat} {is : List Nat} (hc : X.calm = true) (h : DGs X es is gs)
    (hn : (assignEach es X.env).length = n := by rfl) (hst : (assignEach es X.env).findIdx? (·.1) = none := by rfl) : DG X (.Tuple es k pos) is (gTu n gs) :=
  fun pins s σ H v u Q I r ⟨L, ρ, μ, d, ρ', E, q, eg, k⟩ => pg_tup hc h hn hst pins s σ H v u Q I r (by
    cases d with
    | tuple ds =>
      have eg : (if ds.length = n then gs ds ρ else none) = some ρ' := eg
      by_cases z : ds.length = n
      · rw [if_pos z] at eg
        obtain ⟨a, xs, rfl, s1, q1⟩ := dp_tup q
        exact ⟨a, xs, rfl, sqtf s1, by rw [dps_len q1]; exact z, L, ρ, μ, ds, ρ', E, q1, eg, k⟩
      · rw [if_neg z] at eg; cases eg
    | _ => cases eg)
def fAsg (f : FE) (g : FG) : FS := fun ρ μ => bnd (f ρ μ) fun d m => opt (g d ρ) fun ρ' => some (.nx ρ' m)
theorem d_asg {g : FG} {is : List Nat} : ∀ L ρ μ o σ H D, EnvR X.K L H σ ρ μ → fAsg f g ρ μ = some o → OutOk X.K L H D o → tAsg (tD X.K f) (tDG X.K is g) D σ H := fun L ρ μ o σ H D E ef k => by
  obtain ⟨d, m, e1, ef⟩ := bnd_some ef
  obtain ⟨ρ', e2, ef⟩ := opt_some ef
  cases ef
  exact ⟨L, ρ, μ, d, m, E, e1, fun v H1 E1 s1 q1 => ⟨L, ρ, m, d, ρ', E1, q1, e2, fun σ' _ E' => k σ' H1 L E' s1⟩⟩
theorem ds_asg {g : FG} {is : List Nat} (he : DE X e f) (hg : DG X tg is g) (hs : swapsWithSole [tg] e pos.line X.env = pure false := by rfl) (hw : swappedStores [tg] e X.env = pure none := by rfl)
    (h1 : (assignEach [tg] X.env).map (·.2) = [assign tg X.env] := by rfl) : DS X (.Assign [tg] e pos) (fAsg f g) := DS.of (ps_asg he hg hs hw h1) d_asg
theorem ds_set {i : Nat} {x : Str} {pos' : Pos} (hN : X.N.Nodup) (hi : X.N[i]? = some x) (hx : Loc X.env.scope x) (he : DE X e f) (hs : swapsWith e (some (.Name x pos')) pos.line X.env = pure false := by rfl) (hf : X.fn x = true ∨ X.env.scope.names.lookup x = some .local := by first | exact .inl rfl | exact .inr rfl | assumption) :
    DS X (.Assign [.Name x pos'] e pos) (fAsg f (gNm i)) := DS.of (ps_set hN hi hx he hs hf) fun L ρ μ o σ H D E ef k => by
  obtain ⟨d, m, e1, ef⟩ := bnd_some ef
  cases ef
  exact ⟨L, ρ, μ, d, m, E, e1, fun v H1 E1 s1 q1 => k _ H1 L (E1.put i q1) s1⟩
def fPar (i j : Nat) (fs : FA) : FS := fun ρ μ => bnd (fs ρ μ) fun ds m => match ds with
  | [d, e] => some (.nx ((ρ.set i (.dat d)).set j (.dat e)) m)
  | _ => none
theorem ds_par {i j : Nat} {x y : Str} {fs : FA} {px py pt : Pos} {kt k2 pt2} (hc : X.calm = true) (hN : X.N.Nodup) (hi : X.N[i]? = some x) (hj : X.N[j]? = some y) (hij : i ≠ j)
    (hx : X.env.scope.names.lookup x = some .local) (hy : X.env.scope.names.lookup y = some .local) (ha : DA X [a, b] fs)
    (hw : swappedStores [.Tuple [.Name x px, .Name y py] kt pt] (.Tuple [a, b] k2 pt2) X.env = pure (some [x, y]))
    (hs : swapsWithSole [.Tuple [.Name x px, .Name y py] kt pt] (.Tuple [a, b] k2 pt2) pos.line X.env = pure false := by rfl) :
    DS X (.Assign [.Tuple [.Name x px, .Name y py] kt pt] (.Tuple [a, b] k2 pt2) pos) (fPar i j fs) := DS.of (ps_par hc hN hi hj hij hx hy ha hw hs) fun L ρ μ o σ H D E ef k => by
  obtain ⟨ds, m, e1, ef⟩ := bnd_some ef
  split at ef
  · cases ef
    refine ⟨L, ρ, μ, _, m, E, e1, fun vs H1 E1 s1 q1 => ?_⟩
    cases q1 with
    | cons a1 q1 =>
      cases q1 with
      | cons a2 q1 =>
        cases q1
        exact ⟨_, _, rfl, k _ H1 L ((E1.put i a1).put j a2) s1⟩
  · cases ef
theorem EnvR.ownNew {K : PySem.W.Frag} {L : OW} {H : Hp} {σ : L2.St} {ρ : Rho} {μ : Mu} {p : Addr} {vs : List V} {ds : List PyData} (E : EnvR K L H σ ρ μ) (i : Nat) (h : H p = none) (q : DpAll K (Off L H) vs ds) :
    EnvR K ⟨L.o ++ [p], L.k, L.q⟩ (upd H p (.lst vs)) (σ.set i (some (.ref p))) (ρ.set i (.own μ.length)) (μ ++ [ds]) ∧ Step L H ⟨L.o ++ [p], L.k, L.q⟩ (upd H p (.lst vs)) := by
  have st : Step L H ⟨L.o ++ [p], L.k, L.q⟩ (upd H p (.lst vs)) := ⟨⟨[p], rfl, fun l hl => by rw [List.mem_singleton.mp hl]; exact h⟩, ⟨rfl, rfl⟩, fun b o _ _ e => same_upd h b o e, fun b e => (same_upd (o := .lst vs) h).free e, fun b q _ _ e => tab_same (same_upd h) e⟩
  refine ⟨⟨?_, fun l hl => ?_, ?_, ?_⟩, st⟩
  rotate_left
  · obtain ⟨a, e⟩ := E.lk l hl
    refine ⟨fun z => ?_, lt_keep (fun o q => same_upd h _ _ q) (fun q e => tab_same (same_upd h) e) e⟩
    rcases List.mem_append.mp z with z | z
    · exact a z
    · rw [List.mem_singleton.mp z] at e; exact lt_ne e h
  rotate_right
  · refine ⟨List.nodup_append.mpr ⟨E.nd.1, by simp, fun a ha b hb z => ?_⟩, E.nd.2⟩
    rw [List.mem_singleton.mp hb] at z
    subst z
    exact E.st.has _ ha h
  · have e0 : L.o.length = μ.length := pr_len E.st
    have el : (L.o ++ [p])[μ.length]? = some p := by rw [← e0]; simp
    exact pr_set (R := SlotR K ⟨L.o ++ [p], L.k, L.q⟩ (upd H p (.lst vs))) (show SlotR K ⟨L.o ++ [p], L.k, L.q⟩ (upd H p (.lst vs)) (some (.ref p)) (.own μ.length) from ⟨p, el, rfl⟩) i (pr_imp (fun _ _ q => SlotR.step q st) E.sl)
  · refine pr_app (pr_imp (fun l ds ⟨ws, e, z⟩ => ⟨ws, same_upd h _ _ e, z.mono st.same⟩) E.st) (.cons ⟨vs, upd_same, q.mono st.same⟩ .nil)
abbrev FF := Rho → Mu → Option (List PyData × Mu)
def tDF (K : PySem.W.Frag) (f : FF) : TE := fun σ H Q => ∃ L ρ μ ds μ', EnvR K L H σ ρ μ ∧ f ρ μ = some (ds, μ') ∧ ∀ p vs H', EnvR K L H' σ ρ μ' → Step L H L H' → H' p = none → DpAll K (Off L H') vs ds → Q (.ref p) (upd H' p (.lst vs))
def DF (X : Cx) (e : Expr) (f : FF) : Prop := PE X e (tDF X.K f)
def fLstF (fs : FA) : FF := fun ρ μ => bnd (fs ρ μ) fun ds m => if ds.length ≤ sizeLine then some (ds, m) else none
theorem df_lst {es : List Expr} {fs : FA} (h : DA X es fs) : DF X (.List es pos) (fLstF fs) := fun pins s σ H Q I ⟨L, ρ, μ, ds, μ', E, ef, k⟩ => pe_lst h pins s σ H Q I (by
  obtain ⟨d, m, e1, ef⟩ := bnd_some ef
  split at ef
  · cases ef
    exact ⟨L, ρ, μ, ds, _, E, e1, fun vs H1 E1 s1 q1 => ⟨by rw [dps_len q1]; assumption, fun p hp => k p vs H1 E1 s1 hp q1⟩⟩
  · cases ef)
def fCatF (fa fb : FE) : FF := fun ρ μ => bnd (fa ρ μ) fun d m => bnd (fb ρ m) fun e m' => match d, e with
  | .list xs, .list ys => if xs.length + ys.length ≤ sizeLine then some (xs ++ ys, m') else none
  | _, _ => none
def fOwn (i : Nat) (f : FF) : FS := fun ρ μ => bnd (f ρ μ) fun ds m => some (.nx (ρ.set i (.own m.length)) (m ++ [ds]))
theorem ds_own {i : Nat} {x : Str} {pos' : Pos} {ff : FF} (hN : X.N.Nodup) (hi : X.N[i]? = some x) (hx : Loc X.env.scope x) (he : DF X e ff) (hs : swapsWith e (some (.Name x pos')) pos.line X.env = pure false := by rfl) (hf : X.fn x = true ∨ X.env.scope.names.lookup x = some .local := by first | exact .inl rfl | exact .inr rfl | assumption) :
    DS X (.Assign [.Name x pos'] e pos) (fOwn i ff) := DS.of (ps_set hN hi hx he hs hf) fun L ρ μ o σ H D E ef k => by
  obtain ⟨ds, m, e1, ef⟩ := bnd_some ef
  cases ef
  refine ⟨L, ρ, μ, ds, m, E, e1, fun p vs H1 E1 s1 hp q1 => ?_⟩
  obtain ⟨E2, s2⟩ := E1.ownNew i hp q1
  exact k _ _ _ E2 (s1.trans s2)
theorem EnvR.at {K : PySem.W.Frag} {L : OW} {H : Hp} {σ : L2.St} {ρ : Rho} {μ : Mu} {k : Nat} {ds : List PyData} {l : Addr} (E : EnvR K L H σ ρ μ) (e : μ[k]? = some ds) (el : L.o[k]? = some l) : ∃ vs, H l = some (.lst vs) ∧ DpAll K (Off L H) vs ds := by
  obtain ⟨l', e', vs, h, q⟩ := pr_get E.st e
  rw [el] at e'; cases e'
  exact ⟨vs, h, q⟩
theorem EnvR.ownSet {K : PySem.W.Frag} {L : OW} {H : Hp} {σ : L2.St} {ρ : Rho} {μ : Mu} {k : Nat} {l : Addr} {vs : List V} {ds : List PyData} (E : EnvR K L H σ ρ μ) (el : L.o[k]? = some l) (q : DpAll K (Off L H) vs ds) :
    EnvR K L (upd H l (.lst vs)) σ ρ (μ.set k ds) ∧ Step L H L (upd H l (.lst vs)) := by
  have hl : l ∈ L.o := List.mem_of_getElem? el
  have st : Step L H L (upd H l (.lst vs)) := ⟨⟨[], by simp, by simp⟩, ⟨rfl, rfl⟩, fun b o hb _ e => by rw [upd_ne (fun z => hb (by rw [z]; exact hl))]; exact e, fun b e => by
    unfold upd at e
    split at e
    · cases e
    · exact e, fun b q hb _ e => let ⟨_, _, _, z, _⟩ := pr_get' E.st el; tab_upd z (fun _ z => nomatch z) (fun _ z => nomatch z) e⟩
  refine ⟨E.step st ?_, st⟩
  have h0 := E.st
  have nd := E.nd.1
  unfold StoreR at h0 ⊢
  have gen : ∀ (Ls : List Addr) (ms : Mu) (j : Nat), Ls[j]? = some l → Ls.Nodup → Paired (fun l ds => ∃ vs, H l = some (.lst vs) ∧ DpAll K (Off L H) vs ds) Ls ms →
      Paired (fun l' ds => ∃ ws, (upd H l (.lst vs)) l' = some (.lst ws) ∧ DpAll K (Off L (upd H l (.lst vs))) ws ds) Ls (ms.set j ds) := by
    intro Ls
    induction Ls with
    | nil => intro ms j ej _ _; simp at ej
    | cons a r ih =>
      intro ms j ej nd' hp
      cases hp with
      | cons ha hr =>
        obtain ⟨n1, n2⟩ := List.nodup_cons.mp nd'
        cases j with
        | zero =>
          have e : a = l := by simpa using ej
          subst e
          refine .cons ⟨vs, upd_same, q.mono st.same⟩ (pr_imp_mem (fun b d hb ⟨ws, e, z⟩ => ⟨ws, ?_, z.mono st.same⟩) hr)
          rw [upd_ne (fun z => n1 (by rw [← z]; exact hb))]; exact e
        | succ j =>
          have ej' : r[j]? = some l := by simpa using ej
          obtain ⟨ws, e, z⟩ := ha
          refine .cons ⟨ws, ?_, z.mono st.same⟩ (ih _ j ej' n2 hr)
          rw [upd_ne (fun z => n1 (by rw [z]; exact List.mem_of_getElem? ej'))]; exact e
  exact gen L.o μ k el nd h0
def fApp (i : Nat) (f : FE) : FS := fun ρ μ => match ρ[i]? with
  | some (.own k) => bnd (f ρ μ) fun d m => opt (m[k]?) fun ds => if ds.length < sizeLine then some (.nx ρ (m.set k (ds ++ [d]))) else none
  | _ => none
theorem ds_append {i : Nat} {x : Str} {p apos cpos : Pos} (hN : X.N[i]? = some x) (hv : Vis X.env.scope x) (he : DE X e f) (hd : (x == ("__debug__" : Str)) = false := by decide) (hcd : (x == ("__classdict__" : Str)) = false := by decide)
    (hs : swapsWith (.Call (.Attribute (.Name x p) "append" apos) [e] [] cpos) none pos.line X.env = pure false := by rfl)
    (hbase : attributeBase (.Name x p) "append" X.env (eval (.Name x p) X.env) = eval (.Name x p) X.env := by rfl)
    (hfew : ((backTo cpos (starEach [e] X.env)).all (fun x => !x.1) && (backToKw cpos (keywordEach [] X.env)).all (fun x => x.1.isSome)
      && decide ([e].length + ([] : List Keyword).length + (if ([] : List Keyword).isEmpty then 0 else 1) < 30)) = true := by rfl)
    (hline : (apos.endLine == cpos.line) = true := by rfl) (hse : starEach [e] X.env = (false, eval e X.env) :: starEach [] X.env := by rfl) :
    DS X (.Expr (.Call (.Attribute (.Name x p) "append" apos) [e] [] cpos) pos) (fApp i f) :=
  DS.of (ps_expr (pe_bm PySem.F.plainAttrs_list PySem.F.slot_list_append PySem.F.type_list_append mt_append (pe_var hN hv hd hcd) (pa_cons he pa_nil hse) hbase hfew hline hse) hs) fun L ρ μ o σ H D E ef k => by
    unfold fApp at ef
    split at ef
    · rename_i k' er
      obtain ⟨d, m, e1, ef⟩ := bnd_some ef
      obtain ⟨ds, e2, ef⟩ := opt_some ef
      split at ef
      · rename_i hz
        cases ef
        obtain ⟨ov, eo, l, el, rfl⟩ := pr_get E.sl er
        refine ⟨.ref l, eo, .inl ⟨rfl, ?_⟩, L, ρ, μ, d, m, E, e1, fun v H1 E1 s1 q1 => ?_⟩
        · have hl : l ∈ L.o := List.mem_of_getElem? el
          obtain ⟨ds0, _, vs0, hH, _⟩ := pr_get' E.st el
          exact ⟨vs0, SqL.of hH⟩
        · obtain ⟨vs, hH, qs⟩ := E1.at e2 el
          obtain ⟨E2, s2⟩ := E1.ownSet el (dps_app qs (.cons q1 .nil))
          exact ⟨l, vs, v, rfl, rfl, hH, by rw [dps_len qs]; exact hz, k _ _ L E2 (s1.trans s2)⟩
      · cases ef
    · cases ef
end
end DL
namespace DL
open PySem PySem.Spec PyProof.Rows L2
variable [Tabs]
def ItD (K : PySem.W.Frag) (J : It) (ds : List PyData) (L : OW) (H : Hp) : Prop := ∀ (L' : OW) (H1 : Hp), Same (Off L H) (Off L' H1) → Own L' H1 → ∀ i,
  (i < ds.length → J.go i H1 ∧ ∀ x H2, J.yld i H1 x H2 → Same H1 H2 ∧ ∃ d, ds[i]? = some d ∧ Dp K (Off L' H2) x d) ∧ (ds.length ≤ i → J.stop i H1)
abbrev FI := Rho → Mu → Option (List PyData × Mu)
def tDI (K : PySem.W.Frag) (f : FI) : TI := fun σ H R => ∃ L ρ μ ds μ', EnvR K L H σ ρ μ ∧ f ρ μ = some (ds, μ') ∧ ∀ J H', EnvR K L H' σ ρ μ' → Step L H L H' → ItD K J ds L H' → R J H'
def DI (X : Cx) (tg iter : Expr) (f : FI) : Prop := PI X tg iter (tDI X.K f)
section
variable {X : Cx} {tg e a b : Expr} {pos p : Pos} {f fa fb : FE} {fs : FA}
theorem DI.of {t : TI} {f : FI} (h : PI X tg e t) (imp : ∀ L ρ μ d μ' σ H R, EnvR X.K L H σ ρ μ → f ρ μ = some (d, μ') → (∀ J H', EnvR X.K L H' σ ρ μ' → Step L H L H' → ItD X.K J d L H' → R J H') → t σ H R) : DI X tg e f :=
  fun pins s σ H R I ⟨L, ρ, μ, d, μ', E, ef, k⟩ => h pins s σ H R I (imp L ρ μ d μ' σ H R E ef k)
theorem itd_list {K : PySem.W.Frag} {L : OW} {H : Hp} {a : Addr} {xs : List V} {ds : List PyData} (s : SqL K (Off L H) a xs) (q : DpAll K (Off L H) xs ds) : ItD K (Itl K a) ds L H := fun L' H1 sm _ i => by
  have s1 := sqlf (sm.seq s)
  refine ⟨fun hi => ?_, fun hi => ⟨xs, s1, by rw [dps_len q]; exact hi⟩⟩
  have e : ds[i]? = some ds[i] := List.getElem?_eq_getElem hi
  obtain ⟨v, ev, dv⟩ := dps_get q e
  refine ⟨⟨xs, v, s1, ev⟩, fun x H2 ⟨e2, y⟩ => ?_⟩
  subst e2
  refine ⟨Same.refl _, _, e, ?_⟩
  have := y xs s1
  rw [ev] at this; cases this
  exact dv.mono sm
theorem itd_tup {K : PySem.W.Frag} {L : OW} {H : Hp} {a : Addr} {xs : List V} {ds : List PyData} (s : SqT K (Off L H) a xs) (q : DpAll K (Off L H) xs ds) : ItD K (Itt K a) ds L H := fun L' H1 sm _ i => by
  have s1 := sqtf (seqT sm s)
  refine ⟨fun hi => ?_, fun hi => ⟨xs, s1, by rw [dps_len q]; exact hi⟩⟩
  have e : ds[i]? = some ds[i] := List.getElem?_eq_getElem hi
  obtain ⟨v, ev, dv⟩ := dps_get q e
  refine ⟨⟨xs, v, s1, ev⟩, fun x H2 ⟨e2, y⟩ => ?_⟩
  subst e2
  refine ⟨Same.refl _, _, e, ?_⟩
  have := y xs s1
  rw [ev] at this; cases this
  exact dv.mono sm
def signs (x : Str) : List PyData := x.cps.toList.map fun c => .str ⟨#[c]⟩
theorem itd_str {K : PySem.W.Frag} {L : OW} {H : Hp} {x : Str} : ItD K (Its x) (signs x) L H := fun L' H1 sm _ i => by
  have hl : (signs x).length = x.cps.size := by simp [signs]
  refine ⟨fun hi => ⟨by show i < x.cps.size; rw [← hl]; exact hi, fun y H2 ⟨e2, c, ec, ey⟩ => ?_⟩, fun hi => by show x.cps.size ≤ i; rw [← hl]; exact hi⟩
  subst e2 ey
  refine ⟨Same.refl _, .str ⟨#[c]⟩, ?_, .str _⟩
  unfold signs
  rw [List.getElem?_map, Array.getElem?_toList, ec]; rfl
def rgD (lo : Int) (n : Nat) : List PyData := (List.range n).map fun i => .int (lo + (i : Nat))
theorem itd_range {K : PySem.W.Frag} {L : OW} {H : Hp} {lo : Int} {n : Nat} : ItD K (Itr lo n) (rgD lo n) L H := fun L' H1 sm _ i => by
  have hl : (rgD lo n).length = n := by simp [rgD]
  refine ⟨fun hi => ⟨by show i < n; rw [← hl]; exact hi, fun y H2 ⟨e2, ey⟩ => ?_⟩, fun hi => by show n ≤ i; rw [← hl]; exact hi⟩
  subst e2 ey
  refine ⟨Same.refl _, .int (lo + i), ?_, .int _⟩
  rw [hl] at hi
  unfold rgD
  rw [List.getElem?_map, List.getElem?_range hi]; rfl
def iSeq (K : PySem.W.Frag) (tl : TE) : TI := fun σ H R => tl σ H fun x H1 => (∃ a, x = .ref a ∧ (∃ xs, SqL K H1 a xs) ∧ R (Itl K a) H1) ∨ ∃ a, x = .ref a ∧ (∃ xs, SqT K H1 a xs) ∧ R (Itt K a) H1
theorem pi_seq {l : Expr} {tl : TE} (hl : PE X l tl) : PI X tg l (iSeq X.K tl) := by
  intro pins s σ H R I h
  refine thn (hl pins s σ H _ I h) fun v s1 ⟨x, H1, I1, r1, q1⟩ => ?_
  have fp : ∀ b ∈ [s1.heap.objs.size], FpOk X pins H1 b := fun b hb => by
    have z : b = s1.heap.objs.size := by simpa using hb
    rw [z]; exact I1.fpOk (Nat.le_refl _) I1.fresh
  rcases q1 with ⟨a, rfl, ⟨xs, hq⟩, q⟩ | ⟨a, rfl, ⟨xs, hq⟩, q⟩
  · cases r1
    obtain ⟨its, rv, pl, hz⟩ := I1.list hq
    exact wpAny_pyIter_list pl.isList ⟨_, [_], _, _, H1, rfl, I1.kept (t' := s1.toks) fun b o e => Heap.get?_push_of_some _ e, turn_list a _, ⟨_, Heap.get?_push_size _ rfl, rfl, rfl⟩, fp, q⟩
  · cases r1
    obtain ⟨its, rv, pl, hz⟩ := I1.tuple hq
    exact wpAny_pyIter_tuple (show s1.heap.IsTuple a its.toArray from pl) ⟨_, [_], _, _, H1, rfl, I1.kept (t' := s1.toks) fun b o e => Heap.get?_push_of_some _ e, turn_tuple a _, ⟨_, Heap.get?_push_size _ rfl, rfl, rfl⟩, fp, q⟩
def seqD : PyData → Option (List PyData)
  | .list ds => some ds
  | .tuple ds => some ds
  | _ => none
def fSq (f : FE) : FI := fun ρ μ => bnd (f ρ μ) fun d m => fin (seqD d) m
theorem di_seq (h : DE X e f) : DI X tg e (fSq f) := DI.of (pi_seq h) fun L ρ μ ds μ' σ H R E ef k => by
  obtain ⟨d, m, e1, ef⟩ := bnd_some ef
  obtain ⟨e2, rfl⟩ := fin_some ef
  refine ⟨L, ρ, μ, d, _, E, e1, fun v H1 E1 s1 q1 => ?_⟩
  cases d with
  | list es =>
    cases e2
    obtain ⟨a, xs, rfl, t1, z1⟩ := dp_lst q1
    exact .inl ⟨a, rfl, ⟨xs, sqlf t1⟩, k _ H1 E1 s1 (itd_list t1 z1)⟩
  | tuple es =>
    cases e2
    obtain ⟨a, xs, rfl, t1, z1⟩ := dp_tup q1
    exact .inr ⟨a, rfl, ⟨xs, sqtf t1⟩, k _ H1 E1 s1 (itd_tup t1 z1)⟩
  | _ => cases e2
def fSg (f : FE) : FI := fun ρ μ => bnd (f ρ μ) fun d m => match d with
  | .str x => some (signs x, m)
  | _ => none
theorem di_str (h : DE X e f) : DI X tg e (fSg f) := DI.of (pi_str h) fun L ρ μ ds μ' σ H R E ef k => by
  obtain ⟨d, m, e1, ef⟩ := bnd_some ef
  split at ef
  · rename_i x
    cases ef
    exact ⟨L, ρ, μ, _, _, E, e1, fun v H1 E1 s1 q1 => ⟨x, dp_str q1, k _ H1 E1 s1 itd_str⟩⟩
  · cases ef
def fRg1 (f : FE) : FI := fun ρ μ => bnd (f ρ μ) fun d m => match d with
  | .int j => if -(2 ^ 62) ≤ j ∧ j < 2 ^ 62 then some (rgD 0 j.toNat, m) else none
  | _ => none
theorem di_range1 (hg : Gl X "range") (hm : X.mg "range" = none) (ha : DE X a fa) (hs : starEach [a] X.env = [(false, eval a X.env)] := by rfl) (hs' : starEach [a] X.env = (false, eval a X.env) :: starEach [] X.env := by rfl) : DI X tg (.Call (.Name "range" p) [a] [] pos) (fRg1 fa) :=
  DI.of (pi_range1 hg hm (pa_cons ha pa_nil hs') hs) fun L ρ μ ds μ' σ H R E ef k => by
    obtain ⟨d, m, e1, ef⟩ := bnd_some ef
    split at ef
    · split at ef
      · rename_i j hj
        cases ef
        exact ⟨L, ρ, μ, _, _, E, e1, fun v H1 E1 s1 q1 => ⟨j, by rw [dp_int q1], hj.1, hj.2, k _ H1 E1 s1 itd_range⟩⟩
      · cases ef
    · cases ef
def pairs : Nat → List PyData → List PyData
  | _, [] => []
  | i, d :: r => .tuple [.int (i : Nat), d] :: pairs (i + 1) r
theorem pairs_len : ∀ (i : Nat) (ds : List PyData), (pairs i ds).length = ds.length
  | _, [] => rfl
  | i, _ :: r => by simp [pairs, pairs_len (i + 1) r]
theorem pairs_get : ∀ (k : Nat) (ds : List PyData) (i : Nat) (d : PyData), ds[i]? = some d → (pairs k ds)[i]? = some (.tuple [.int ((k + i : Nat) : Int), d])
  | _, [], _, _, h => by simp at h
  | k, e :: r, 0, d, h => by simp at h; subst h; rfl
  | k, e :: r, i + 1, d, h => by
    have := pairs_get (k + 1) r i d (by simpa using h)
    show (pairs (k + 1) r)[i]? = _
    rw [this]; congr 4; omega
def zips : List PyData → List PyData → List PyData
  | d :: r, e :: t => .tuple [d, e] :: zips r t
  | _, _ => []
theorem zips_len : ∀ (ds es : List PyData), (zips ds es).length = min ds.length es.length
  | [], es => by simp [zips]
  | _ :: _, [] => by simp [zips]
  | _ :: r, _ :: t => by simp only [zips, List.length_cons, zips_len r t]; omega
theorem zips_get : ∀ (ds es : List PyData) (i : Nat) (d e : PyData), ds[i]? = some d → es[i]? = some e → (zips ds es)[i]? = some (.tuple [d, e])
  | [], _, _, _, _, h, _ => by simp at h
  | _ :: _, [], _, _, _, _, h => by simp at h
  | _ :: r, _ :: t, 0, d, e, h1, h2 => by simp at h1 h2; subst h1 h2; rfl
  | _ :: r, _ :: t, i + 1, d, e, h1, h2 => zips_get r t i d e (by simpa using h1) (by simpa using h2)
def loopF (g : FG) (B : FS) : List PyData → FS
  | [], ρ, μ => some (.nx ρ μ)
  | d :: r, ρ, μ => opt (g d ρ) fun ρ1 => match B ρ1 μ with
    | some (.nx ρ2 m2) => loopF g B r ρ2 m2
    | some (.ct ρ2 m2) => loopF g B r ρ2 m2
    | some (.bk ρ2 m2) => some (.nx ρ2 m2)
    | some (.rt v m2) => some (.rt v m2)
    | none => none
def fFor (fi : FI) (g : FG) (B : FS) : FS := fun ρ μ => bnd (fi ρ μ) fun ds m => loopF g B ds ρ m
theorem drop_get {ds : List PyData} {i : Nat} {d : PyData} (h : ds[i]? = some d) : ds.drop i = d :: ds.drop (i + 1) := by
  obtain ⟨hi, e⟩ := List.getElem?_eq_some_iff.mp h
  rw [← e]; exact List.drop_eq_getElem_cons hi
theorem ds_for {iter : Expr} {body : List Stmt} {fi : FI} {g : FG} {is : List Nat} {B : FS} (hc : X.calm = true) (hi : DI X tg iter fi) (hg : DG X tg is g) (hb : DSs X body B) (hp : PassesOwn (model X.prog X.w) X.A X.env X.xe)
    (hs : ∀ x, foldedSetIterable iter X.env x = pure x := by intro _; rfl) : DS X (.For tg iter body [] pos) (fFor fi g B) := DS.of (ps_for hp hc hi hg hb hs) fun L ρ μ o σ H D E ef k => by
  obtain ⟨ds, m, e1, ef⟩ := bnd_some ef
  refine ⟨L, ρ, μ, ds, m, E, e1, fun J H1 E1 s1 hJ => ?_⟩
  refine ⟨fun i n σ' H' => n = ds.length - i ∧ i ≤ ds.length ∧ ∃ L' ρ' μ', EnvR X.K L' H' σ' ρ' μ' ∧ loopF g B (ds.drop i) ρ' μ' = some o ∧ Step L H1 L' H', ⟨ds.length, by simp, Nat.zero_le _, L, ρ, m, E1, by simpa using ef, Step.refl _ _⟩, ?_⟩
  rintro i n σ' H' ⟨rfl, hi, L', ρ', μ', E', ef', s'⟩
  have hJ' := hJ L' H' s'.same E'.own i
  by_cases hlt : i < ds.length
  · refine .inr ⟨(hJ'.1 hlt).1, fun σ2 H2 => i + 1 ≤ ds.length ∧ ∃ L2 ρ2 μ2, EnvR X.K L2 H2 σ2 ρ2 μ2 ∧ loopF g B (ds.drop (i + 1)) ρ2 μ2 = some o ∧ Step L H1 L2 H2, fun σ2 H2 ⟨h1, h2⟩ => ⟨ds.length - (i + 1), by omega, rfl, h1, h2⟩, fun x H2 y => ?_⟩
    obtain ⟨sm, d, ed, dx⟩ := (hJ'.1 hlt).2 x H2 y
    have E2 := E'.same sm
    rw [drop_get ed] at ef'
    obtain ⟨ρ1, eg, ef2⟩ := opt_some ef'
    refine ⟨L', ρ', μ', d, ρ1, E2, dx, eg, fun σ3 _ E3 => ?_⟩
    cases hB : B ρ1 μ' with
    | none => rw [hB] at ef2; cases ef2
    | some ob =>
      rw [hB] at ef2
      have s2 : Step L H1 L' H2 := s'.trans (Step.of_same sm)
      refine ⟨L', ρ1, μ', ob, E3, hB, ?_⟩
      cases ob with
      | nx r m2 => exact fun σ4 H4 L4 E4 s4 => ⟨hlt, L4, r, m2, E4, ef2, s2.trans s4⟩
      | ct r m2 => exact fun σ4 H4 L4 E4 s4 => ⟨hlt, L4, r, m2, E4, ef2, s2.trans s4⟩
      | bk r m2 => cases ef2; exact fun σ4 H4 L4 E4 s4 => k σ4 H4 L4 E4 (s1.trans (s2.trans s4))
      | rt v m2 => cases ef2; exact fun u H4 L4 n4 E4 s4 q4 => k u H4 L4 n4 E4 (s1.trans (s2.trans s4)) q4
  · have e : i = ds.length := by omega
    subst e
    refine .inl ⟨hJ'.2 (Nat.le_refl _), ?_⟩
    rw [List.drop_length] at ef'
    cases ef'
    exact k σ' H' L' E' (s1.trans s')
end
end DL
namespace DL
open PySem PySem.Spec PyProof.Rows L2
variable [Tabs]
def wipeR (ρ : Rho) : List Nat → Rho
  | [] => ρ
  | v :: vs => (wipeR ρ vs).set v .un
theorem EnvR.wipe {K : PySem.W.Frag} {L : OW} {H : Hp} {σ : L2.St} {ρ : Rho} {μ : Mu} (E : EnvR K L H σ ρ μ) : ∀ vs : List Nat, EnvR K L H (L2.wipe σ vs) (wipeR ρ vs) μ
  | [] => E
  | v :: vs => by
    have E' := EnvR.wipe E vs
    unfold L2.wipe wipeR
    exact ⟨E'.nd, E'.lk, pr_set (R := SlotR K L H) (show SlotR K L H none .un from trivial) v E'.sl, E'.st⟩
theorem wipe_get {σ : L2.St} : ∀ (vs : List Nat) (j : Nat), (wipe σ vs)[j]? = if j ∈ vs ∧ j < σ.length then some none else σ[j]?
  | [], j => by simp [wipe]
  | v :: vs, j => by
    unfold wipe
    have hl : ∀ ws : List Nat, (wipe σ ws).length = σ.length := fun ws => by
      induction ws with
      | nil => rfl
      | cons a r ih => unfold wipe; simp [ih]
    by_cases h : v = j
    · subst h
      by_cases hv : v < σ.length
      · rw [List.getElem?_set_self (by rw [hl]; exact hv)]; simp [hv]
      · rw [List.getElem?_eq_none (by rw [List.length_set, hl]; omega)]; simp [hv]
    · rw [List.getElem?_set_ne h, wipe_get vs j]
      simp only [List.mem_cons]
      have : ¬ j = v := fun z => h z.symm
      simp [this]
theorem wipe_len {σ : L2.St} : ∀ ws : List Nat, (wipe σ ws).length = σ.length
  | [] => rfl
  | a :: r => by unfold wipe; simp [wipe_len r]
theorem wipe_but {σ σ2 : L2.St} {vs is : List Nat} (hs : ∀ i ∈ is, i ∈ vs) (b : But is (wipe σ vs) σ2) : wipe σ2 vs = wipe σ vs := by
  apply List.ext_getElem?
  intro j
  have hl : σ2.length = σ.length := by rw [b.1, wipe_len]
  rw [wipe_get, wipe_get, hl]
  by_cases h : j ∈ vs ∧ j < σ.length
  · rw [if_pos h, if_pos h]
  · rw [if_neg h, if_neg h]
    by_cases hj : j < σ.length
    · have hv : j ∉ vs := fun z => h ⟨z, hj⟩
      rw [b.2 j (fun z => hv (hs j z)), wipe_get, if_neg h]
    · rw [List.getElem?_eq_none (by omega), List.getElem?_eq_none (by omega)]
def lcF (g : FG) (tt : FT) (te : FE) (ρ : Rho) : List PyData → Mu → Option (List PyData × Mu)
  | [], m => some ([], m)
  | d :: r, m => opt (g d ρ) fun ρ1 => bnd (tt ρ1 m) fun b m1 => if b = true then bnd (te ρ1 m1) fun y m2 => bnd (lcF g tt te ρ r m2) fun ys m3 => some (y :: ys, m3) else lcF g tt te ρ r m1
def fLc (fi : FI) (g : FG) (tt : FT) (te : FE) (vs : List Nat) : FF := fun ρ μ => bnd (fi ρ μ) fun ds m => if ds.length ≤ sizeLine then lcF g tt te (wipeR ρ vs) ds m else none
theorem EnvR.lock {K : PySem.W.Frag} {L : OW} {H : Hp} {σ : L2.St} {ρ : Rho} {μ : Mu} {D : Addr} {ys : List V} (E : EnvR K L H σ ρ μ) (h : H D = none) : EnvR K ⟨L.o, D :: L.k, L.q⟩ (upd H D (.lst ys)) σ ρ μ := by
  have sm : Same (Off L H) (Off ⟨L.o, D :: L.k, L.q⟩ (upd H D (.lst ys))) := fun b u e => by
    obtain ⟨h1, h2⟩ := off_some.mp e
    refine off_some.mpr ⟨fun z => ?_, same_upd h b u h2⟩
    rcases z with z | z
    · exact h1 (.inl z)
    · rcases List.mem_cons.mp z with z | z
      · subst z; rw [h] at h2; cases h2
      · exact h1 (.inr z)
  refine ⟨⟨E.nd.1, fun p hp => ⟨List.mem_cons_of_mem _ (E.nd.2 p hp).1, (E.nd.2 p hp).2⟩⟩, fun l hl => ?_, pr_imp (fun o x q => ?_) E.sl, pr_imp (fun l ds ⟨vs, e, q⟩ => ⟨vs, same_upd h _ _ e, q.mono sm⟩) E.st⟩
  · rcases List.mem_cons.mp hl with e | e
    · subst e; exact ⟨fun z => E.st.has _ z h, .inl ⟨⟨ys, upd_same⟩, fun q hq => E.own _ (.inr (E.nd.2 _ hq).1) h⟩⟩
    · obtain ⟨a, e2⟩ := E.lk l e
      exact ⟨a, lt_keep (fun o q => same_upd h _ _ q) (fun q e => tab_same (same_upd h) e) e2⟩
  · cases x with
    | un => trivial
    | fn x => exact q
    | dat d => obtain ⟨v, e, z⟩ := q; exact ⟨v, e, z.mono sm⟩
    | dct kvs => obtain ⟨a, vs, e, ea, z⟩ := q; exact ⟨a, vs, e, sm _ _ ea, Paired.mapP z fun _ _ y => ⟨y.1, y.2.mono sm⟩⟩
    | exc x => obtain ⟨a, C, tb, e, ec, z⟩ := q; exact ⟨a, C, tb, e, ec, sm _ _ z⟩
    | dtt kvs => obtain ⟨a, vs, e, ea, z⟩ := q; exact ⟨a, vs, e, sm _ _ ea, Paired.mapP z fun _ _ y => ⟨y.1, y.2.mono sm⟩⟩
    | own k => exact q
section
variable {X : Cx} {tg e a b : Expr} {pos p : Pos} {f fa fb te : FE} {tt : FT} {fs : FA}
def DTs (X : Cx) (ifs : List Expr) (t : FT) : Prop := PTs X ifs (tDT X.K t)
def fYes : FT := fun _ μ => some (true, μ)
theorem dts_nil : DTs X [] fYes := fun pins s σ H Q I ⟨L, ρ, μ, d, μ', E, ef, k⟩ => pts_nil pins s σ H Q I (by cases ef; exact k H E (Step.refl _ _))
theorem dts_one (h : DT X a tt) : DTs X [a] tt := pts_one h
theorem d_lc {fi : FI} {g : FG} {is vs : List Nat} (hv : ∀ i ∈ is, i ∈ vs) : ∀ L ρ μ ds μ' σ H Q, EnvR X.K L H σ ρ μ → fLc fi g tt te vs ρ μ = some (ds, μ') → (∀ p xs H', EnvR X.K L H' σ ρ μ' → Step L H L H' → H' p = none → DpAll X.K (Off L H') xs ds → Q (.ref p) (upd H' p (.lst xs))) →
    tLc (tDI X.K fi) (tDG X.K is g) (tDT X.K tt) (tD X.K te) vs σ H Q := fun L ρ μ out μ' σ H Q E ef k => by
  obtain ⟨ds, m, e1, ef⟩ := bnd_some ef
  split at ef
  case isFalse => cases ef
  rename_i hsz
  refine ⟨L, ρ, μ, ds, m, E, e1, fun J H1 E1 s1 hJ D hD => ?_⟩
  have hDo : D ∉ L.o := fun z => E1.own D (.inl z) hD
  -- what stands at turn i: the heap is some H' with D's list laid upon it
  refine ⟨fun i n H2 => n = ds.length - i ∧ i ≤ ds.length ∧ ∃ H' μ2 acc xs rest, H2 = upd H' D (.lst xs) ∧ H' D = none ∧ EnvR X.K L H' σ ρ μ2 ∧ Step L H1 L H' ∧ DpAll X.K (Off L H') xs acc ∧ acc.length ≤ i ∧
    lcF g tt te (wipeR ρ vs) (ds.drop i) μ2 = some (rest, μ') ∧ out = acc ++ rest, ⟨ds.length, by simp, Nat.zero_le _, H1, m, [], [], out, rfl, hD, E1, Step.refl _ _, .nil, Nat.le_refl _, by simpa using ef, rfl⟩, ?_⟩
  rintro i n H2 ⟨rfl, hi, H', μ2, acc, xs, rest, rfl, hD', E', s', qa, hacc, ef', eout⟩
  have EL := E'.lock (ys := xs) hD'
  have smL : Same (Off L H') (Off ⟨L.o, D :: L.k, L.q⟩ (upd H' D (.lst xs))) := fun b u e => by
    obtain ⟨h1, h2⟩ := off_some.mp e
    refine off_some.mpr ⟨fun z => ?_, same_upd hD' b u h2⟩
    rcases z with z | z
    · exact h1 (.inl z)
    · rcases List.mem_cons.mp z with z | z
      · subst z; rw [hD'] at h2; cases h2
      · exact h1 (.inr z)
  have hJ' := hJ ⟨L.o, D :: L.k, L.q⟩ (upd H' D (.lst xs)) (s'.same.trans smL) EL.own i
  by_cases hlt : i < ds.length
  case neg =>
    have e : i = ds.length := by omega
    subst e
    refine .inl ⟨hJ'.2 (Nat.le_refl _), ?_⟩
    rw [List.drop_length] at ef'
    cases ef'
    rw [List.append_nil] at eout
    subst eout
    exact k D xs H' E' (s1.trans s') hD' qa
  refine .inr ⟨(hJ'.1 hlt).1, fun H2 => i + 1 ≤ ds.length ∧ ∃ H' μ2 acc xs rest, H2 = upd H' D (.lst xs) ∧ H' D = none ∧ EnvR X.K L H' σ ρ μ2 ∧ Step L H1 L H' ∧ DpAll X.K (Off L H') xs acc ∧ acc.length ≤ i + 1 ∧
    lcF g tt te (wipeR ρ vs) (ds.drop (i + 1)) μ2 = some (rest, μ') ∧ out = acc ++ rest, fun H2 ⟨h1, h2⟩ => ⟨ds.length - (i + 1), by omega, rfl, h1, h2⟩, fun x H3 y => ?_⟩
  obtain ⟨sm3, d, ed, dx⟩ := (hJ'.1 hlt).2 x H3 y
  rw [drop_get ed] at ef'
  obtain ⟨ρ1, eg, ef2⟩ := opt_some ef'
  obtain ⟨bt, m1, et, ef3⟩ := bnd_some ef2
  have E3 := (EL.same sm3).wipe vs
  -- the heap without D
  have drop : ∀ {H5 : Hp} {ws : List V}, Step ⟨L.o, D :: L.k, L.q⟩ (upd H' D (.lst xs)) ⟨L.o, D :: L.k, L.q⟩ H5 → H5 D = some (.lst ws) →
      ∃ H6 : Hp, H6 D = none ∧ H5 = upd H6 D (.lst ws) ∧ Step L H1 L H6 ∧ (∀ b u, ¬ (⟨L.o, D :: L.k, L.q⟩ : OW).has b → H5 b = some u → ¬ L.has b ∧ H6 b = some u) ∧ (∀ b u, b ≠ D → H5 b = some u → H6 b = some u) := fun {H5 ws} s5 h5 => by
    refine ⟨fun b => if b = D then none else H5 b, by simp, ?_, ?_, ?_, ?_⟩
    · funext b
      unfold upd
      by_cases hb : b = D
      · subst hb; simp [h5]
      · simp [hb]
    · refine s'.trans ⟨⟨[], by simp, by simp⟩, ⟨rfl, rfl⟩, fun b o hb hk e => ?_, fun b e => ?_, fun b q hb hq e => ?_⟩
      rotate_right
      · exact tab_keep h5 (fun _ z => nomatch z) (fun _ z => nomatch z) (fun c u hc z => by show (if c = D then none else H5 c) = some u; rw [if_neg hc]; exact z) (s5.tab b q (List.mem_cons_of_mem _ hb) hq (tab_same (same_upd hD') e))
      · have hbD : b ≠ D := fun z => by subst z; rw [hD'] at e; cases e
        show (if b = D then none else H5 b) = some o
        rw [if_neg hbD]
        exact s5.keep b o hb (fun z => (List.mem_cons.mp z).elim (fun z => absurd z hbD) hk) (by rw [upd_ne hbD]; exact e)
      · by_cases hb : b = D
        · subst hb; exact hD'
        · have e' : H5 b = none := by
            have e0 : (if b = D then none else H5 b) = none := e
            rw [if_neg hb] at e0; exact e0
          have := s5.grow b e'
          rw [upd_ne hb] at this; exact this
    · intro b u hb e
      have hbD : b ≠ D := fun z => hb (.inr (by rw [z]; exact List.mem_cons_self))
      exact ⟨fun z => hb (z.elim .inl fun z => .inr (List.mem_cons_of_mem _ z)), by show (if b = D then none else H5 b) = some u; rw [if_neg hbD]; exact e⟩
    · intro b u hb e
      show (if b = D then none else H5 b) = some u
      rw [if_neg hb]; exact e
  have envd : ∀ {H5 H6 : Hp} {σ5 : L2.St} {ρ5 : Rho} {μ5 : Mu}, EnvR X.K ⟨L.o, D :: L.k, L.q⟩ H5 σ5 ρ5 μ5 → (∀ b u, ¬ (⟨L.o, D :: L.k, L.q⟩ : OW).has b → H5 b = some u → ¬ L.has b ∧ H6 b = some u) → (∀ b u, b ≠ D → H5 b = some u → H6 b = some u) → Step L H1 L H6 → EnvR X.K L H6 σ ρ μ5 := fun {H5 H6 σ5 ρ5 μ5} E5 hs ha s6 => by
    have sm : Same (Off ⟨L.o, D :: L.k, L.q⟩ H5) (Off L H6) := fun b u e => by
      obtain ⟨h1, h2⟩ := off_some.mp e
      exact off_some.mpr (hs b u h1 h2)
    refine E1.step s6 ?_
    refine pr_imp_mem (fun l ds hl ⟨ws, e, q⟩ => ⟨ws, ha l _ (fun z => hDo (by rw [← z]; exact hl)) e, q.mono sm⟩) E5.st
  have dof : ∀ {H5 H6 : Hp}, (∀ b u, ¬ (⟨L.o, D :: L.k, L.q⟩ : OW).has b → H5 b = some u → ¬ L.has b ∧ H6 b = some u) → Same (Off ⟨L.o, D :: L.k, L.q⟩ H5) (Off L H6) := fun {H5 H6} hs b u e => by
    obtain ⟨h1, h2⟩ := off_some.mp e
    exact off_some.mpr (hs b u h1 h2)
  refine ⟨⟨L.o, D :: L.k, L.q⟩, wipeR ρ vs, μ2, d, ρ1, E3, dx, eg, fun σ4 b4 E4 => ⟨wipe_but hv b4, ⟨⟨L.o, D :: L.k, L.q⟩, ρ1, μ2, bt, m1, E4, et, fun H5 E5 s5 => ?_⟩⟩⟩
  have st5 : Step ⟨L.o, D :: L.k, L.q⟩ (upd H' D (.lst xs)) ⟨L.o, D :: L.k, L.q⟩ H5 := (Step.of_same sm3).trans s5
  have hD5 : H5 D = some (.lst xs) := st5.keep D _ hDo (fun _ => ⟨_, rfl⟩) upd_same
  cases bt with
  | false =>
    rw [if_neg (by decide)] at ef3
    refine iteF ?_
    obtain ⟨H6, h6, e6, s6, hs6, ha6⟩ := drop st5 hD5
    refine ⟨hlt, H6, m1, acc, xs, rest, e6, h6, envd E5 hs6 ha6 s6, s6, (qa.mono (smL.trans st5.same)).mono (dof hs6), by omega, ef3, eout⟩
  | true =>
    rw [if_pos rfl] at ef3
    refine iteT ?_
    obtain ⟨y, m2, ey, ef4⟩ := bnd_some ef3
    obtain ⟨ys, m3, eys, ef5⟩ := bnd_some ef4
    cases ef5
    refine ⟨⟨L.o, D :: L.k, L.q⟩, ρ1, m1, y, m2, E5, ey, fun v H7 E7 s7 q7 => ?_⟩
    have st7 := st5.trans s7
    have hD7 : H7 D = some (.lst xs) := st7.keep D _ hDo (fun _ => ⟨_, rfl⟩) upd_same
    have hlx := dps_len qa
    refine ⟨xs, hD7, by omega, hlt, ?_⟩
    obtain ⟨H6, h6, e6, s6, hs6, ha6⟩ := drop st7 hD7
    refine ⟨H6, m2, acc ++ [y], xs ++ [v], ys, ?_, h6, envd E7 hs6 ha6 s6, s6, dps_app ((qa.mono (smL.trans st7.same)).mono (dof hs6)) (.cons (q7.mono (dof hs6)) .nil), by simp; omega, eys, by rw [eout]; simp⟩
    rw [e6, upd_upd]
def fLcD (fi : FI) (g : FG) (tt : FT) (te : FE) (vs : List Nat) : FE := fun ρ μ => bnd (fLc fi g tt te vs ρ μ) fun ds m => some (.list ds, m)
theorem de_lc {elt iter : Expr} {ifs : List Expr} {scope : Scope} {own : List (Str × Nat)} {fi : FI} {g : FG} {is : List Nat} (hc : X.calm = true) (hN : X.N.Nodup) (hi : DI X tg iter fi) (ok : BlkOk X.N X.env.scope scope own)
    (hg : ∀ (s : Shared) (H : Hp) (C : Addr) (cl : List (Str × Addr)) (fp : List Addr), DG (X.blk s H scope (compEnvC scope cl C X.env) fp) tg is g) (ht : ∀ (s : Shared) (H : Hp) (C : Addr) (cl : List (Str × Addr)) (fp : List Addr), DTs (X.blk s H scope (compEnvC scope cl C X.env) fp) ifs tt)
    (he : ∀ (s : Shared) (H : Hp) (C : Addr) (cl : List (Str × Addr)) (fp : List Addr), DE (X.blk s H scope (compEnvC scope cl C X.env) fp) elt te) (hv : ∀ i ∈ is, i ∈ own.map (·.2)) (hs : ∀ x, foldedSetIterable iter X.env x = pure x := by intro _; rfl) :
    DE X (.ListComp elt [⟨tg, iter, ifs, 0⟩] scope pos) (fLcD fi g tt te (own.map (·.2))) := DE.of (pe_lc (wi := tDI X.K fi) (g := tDG X.K is g) (tt := tDT X.K tt) (te := tD X.K te) hc hN hi ok hg ht he hs) fun L ρ μ d μ' σ H Q E ef k => by
  obtain ⟨ds, m, e1, ef⟩ := bnd_some ef
  cases ef
  refine d_lc hv L ρ μ ds _ σ H Q E e1 fun p xs H' E' s' hp q => ?_
  exact k _ _ (E'.same (same_upd hp)) (s'.trans (Step.of_same (same_upd hp))) (new_lst E'.own hp q)
end
end DL
namespace DL
open PySem PySem.Spec PyProof.Rows L2
variable [Tabs]
def defM (n nn : Nat) (B : FS) : FE := fun ρ μ => match B (ρ ++ List.replicate (nn - n) .un) μ with
  | some (.rt (.dat d) m) => some (d, m.take μ.length)
  | some (.rt (.own k) m) => if μ.length ≤ k then opt (m[k]?) fun ds => some (.list ds, m.take μ.length) else none
  | some (.nx _ m) => some (.none, m.take μ.length)
  | _ => none
def spD (K : PySem.W.Frag) (m : FE) (n : Nat) : Sp := fun vs H Q _ => ∃ L ρ μ d μ', vs.length = n ∧ EnvR K L H (vs.map some) ρ μ ∧ m ρ μ = some (d, μ') ∧ ∀ v H', StoreR K L H' μ' → Step L H L H' → Dp K (Off L H') v d → Q v H'
theorem StoreR.pre {K : PySem.W.Frag} {L L' : OW} {H H' : Hp} {μ μ' : Mu} (h0 : StoreR K L H μ) (h : StoreR K L' H' μ') (s : Step L H L' H') : StoreR K L H' (μ'.take μ.length) ∧ Same (Off L' H') (Off L H') := by
  obtain ⟨M, e, _⟩ := s.ext
  have sm : Same (Off L' H') (Off L H') := fun b u q => by
    obtain ⟨h1, h2⟩ := off_some.mp q
    refine off_some.mpr ⟨fun z => h1 ?_, h2⟩
    rcases z with z | z
    · exact .inl (by rw [e]; exact List.mem_append_left _ z)
    · exact .inr (by rw [s.lk.1]; exact z)
  refine ⟨?_, sm⟩
  have hl : L.o.length = μ.length := pr_len h0
  have ht := pr_take μ.length h
  rw [e, ← hl, List.take_left] at ht
  rw [← hl]
  exact pr_imp (fun l ds ⟨vs, q1, q2⟩ => ⟨vs, q1, q2.mono sm⟩) ht
theorem Step.cut {L L' : OW} {H H' : Hp} (s : Step L H L' H') : Step L H L H' := ⟨⟨[], by simp, by simp⟩, ⟨rfl, rfl⟩, s.keep, s.grow, s.tab⟩
theorem fn_dat {P : Program} {w : World} {K : PySem.W.Frag} {mg : Str → Option Value} {base : Heap} {x qual : Str} {st : Stmt} {f : Addr} {fd : FuncData} {N ps : List Str} {k : Nat} {B : FS} (F : Fun K x qual st f fd) (S : FnScope N ps (defScope st))
    (hb : ∀ (cdv : Value) (A : Around) (outer : List Env) (s : Shared) (H : Hp) (E : XK), Room k (A.deeper (envOfC qual (defScope st) s.heap.objs.size f cdv)) → DSs (cxOf CX0 P w K mg base N qual (defScope st) f cdv A outer s H E).nox (defBody st) B) :
    FnOk P w K mg base CX0 (k + 1) f fd ps (spD K (defM ps.length N.length B) ps.length) := by
  refine F.ok S (fun vs H Q E h => ?_) (fun cdv A outer s H vs Q E hr h => ⟨_, hb cdv A outer s H E hr, ?_⟩)
  · obtain ⟨L, ρ, μ, d, μ', hn, _⟩ := h
    exact hn
  · obtain ⟨L, ρ, μ, d, μ', hn, E0, ef, kk⟩ := h
    have E1 : EnvR K L H (L2.start N vs) (ρ ++ List.replicate (N.length - ps.length) .un) μ := by
      refine ⟨E0.nd, E0.lk, ?_, E0.st⟩
      unfold L2.start
      rw [hn]
      refine pr_app E0.sl ?_
      generalize N.length - ps.length = j
      induction j with
      | zero => exact .nil
      | succ j ih => exact .cons (show SlotR K L H none .un from trivial) ih
    unfold defM at ef
    cases hB : B (ρ ++ List.replicate (N.length - ps.length) .un) μ with
    | none => rw [hB] at ef; cases ef
    | some o =>
      rw [hB] at ef
      refine ⟨L, _, μ, o, E1, hB, ?_⟩
      cases o with
      | nx r m =>
        cases ef
        exact fun σ' H' L' E' s' => kk .non H' (E0.st.pre E'.st s').1 s'.cut .non
      | bk r m => cases ef
      | ct r m => cases ef
      | rt v m =>
        intro u H' L' nd' st' s' q
        obtain ⟨h1, sm⟩ := E0.st.pre st' s'
        cases v with
        | dat d' =>
          cases ef
          exact kk u H' h1 s'.cut (q.mono sm)
        | own j =>
          have ef : (if μ.length ≤ j then opt (m[j]?) fun ds => some (PyData.list ds, m.take μ.length) else none) = some (d, μ') := ef
          by_cases hj : μ.length ≤ j
          · rw [if_pos hj] at ef
            obtain ⟨ds, e1, e2⟩ := opt_some ef
            cases e2
            obtain ⟨l, el, rfl⟩ := q
            obtain ⟨l', el', vs', hH, qs⟩ := pr_get st' e1
            rw [el] at el'; cases el'
            refine kk _ H' h1 s'.cut (.lst (xs := vs') (SqL.of (off_some.mpr ⟨fun z => ?_, hH⟩)) (qs.mono sm))
            obtain ⟨M, eM, hM⟩ := s'.ext
            rcases z with z | z
            · -- the place lies behind the lent ones
              obtain ⟨i, hi⟩ := List.getElem?_of_mem z
              have hi' : L'.o[i]? = some l := by rw [eM, List.getElem?_append_left (List.getElem?_eq_some_iff.mp hi).1]; exact hi
              have := nd_ix nd' hi' el
              have h2 := (List.getElem?_eq_some_iff.mp hi).1
              have h3 : L.o.length = μ.length := pr_len E0.st
              omega
            · have hj2 : l ∈ M := by
                have hj3 : L.o.length ≤ j := by rw [pr_len E0.st]; exact hj
                rw [eM, List.getElem?_append_right hj3] at el
                exact List.mem_of_getElem? el
              exact lt_ne (E0.lk l z).2 (hM l hj2)
          · rw [if_neg hj] at ef; cases ef
section
variable {X : Cx} {tg e a b o : Expr} {es : List Expr} {pos p apos : Pos} {f fa fb te fo : FE} {tt : FT} {fs : FA}
abbrev FP := Rho → Mu → Option (Rho × Mu)
def tDP (K : PySem.W.Frag) (f : FP) : TA := fun σ H Q => ∃ L ρ μ sl μ', EnvR K L H σ ρ μ ∧ f ρ μ = some (sl, μ') ∧ ∀ vs H', EnvR K L H' σ ρ μ' → Step L H L H' → Paired (SlotR K L H') (vs.map some) sl → Q vs H'
def DP (X : Cx) (es : List Expr) (f : FP) : Prop := PA X es (tDP X.K f)
theorem DP.of {t : TA} {f : FP} (h : PA X es t) (imp : ∀ L ρ μ d μ' σ H Q, EnvR X.K L H σ ρ μ → f ρ μ = some (d, μ') → (∀ v H', EnvR X.K L H' σ ρ μ' → Step L H L H' → Paired (SlotR X.K L H') (v.map some) d → Q v H') → t σ H Q) : DP X es f :=
  fun pos pins s σ H Q I ⟨L, ρ, μ, d, μ', E, ef, k⟩ => h pos pins s σ H Q I (imp L ρ μ d μ' σ H Q E ef k)
def pNil : FP := fun _ μ => some ([], μ)
def pDat (f : FE) (g : FP) : FP := fun ρ μ => bnd (f ρ μ) fun d m => bnd (g ρ m) fun r m' => some (.dat d :: r, m')
def pNm (i : Nat) (g : FP) : FP := fun ρ μ => match ρ[i]? with
  | some (.own k) => bnd (g ρ μ) fun r m' => some (.own k :: r, m')
  | some (.dat d) => bnd (g ρ μ) fun r m' => some (.dat d :: r, m')
  | _ => none
theorem dp_nil : DP X [] pNil := DP.of pa_nil fun L ρ μ d μ' σ H Q E ef k => by cases ef; exact k [] H E (Step.refl _ _) .nil
theorem dp_dat {g : FP} (ha : DE X e f) (hr : DP X es g) (hs : starEach (e :: es) X.env = (false, eval e X.env) :: starEach es X.env := by rfl) : DP X (e :: es) (pDat f g) :=
  DP.of (pa_cons ha hr hs) fun L ρ μ d μ' σ H Q E ef k => by
    obtain ⟨d1, m1, e1, ef⟩ := bnd_some ef
    obtain ⟨ds, m2, e2, ef⟩ := bnd_some ef
    cases ef
    exact ⟨L, ρ, μ, d1, m1, E, e1, fun v H1 E1 s1 q1 => ⟨L, ρ, m1, ds, _, E1, e2, fun vs H2 E2 s2 q2 => k (v :: vs) H2 E2 (s1.trans s2) (.cons ⟨v, rfl, q1.mono s2.same⟩ q2)⟩⟩
theorem dp_nm {i : Nat} {x : Str} {g : FP} (hN : X.N[i]? = some x) (hv : Vis X.env.scope x) (hr : DP X es g) (hd : (x == ("__debug__" : Str)) = false := by decide) (hcd : (x == ("__classdict__" : Str)) = false := by decide)
    (hs : starEach (.Name x p :: es) X.env = (false, eval (.Name x p) X.env) :: starEach es X.env := by rfl) : DP X (.Name x p :: es) (pNm i g) :=
  DP.of (pa_cons (pe_var hN hv hd hcd) hr hs) fun L ρ μ d μ' σ H Q E ef k => by
    unfold pNm at ef
    split at ef
    · rename_i k' er
      obtain ⟨r, m, e1, ef⟩ := bnd_some ef
      cases ef
      obtain ⟨ov, eo, l, el, rfl⟩ := pr_get E.sl er
      exact ⟨_, eo, L, ρ, μ, r, _, E, e1, fun vs H1 E1 s1 q1 => k (_ :: vs) H1 E1 s1 (.cons ⟨l, el, rfl⟩ q1)⟩
    · rename_i d' er
      obtain ⟨r, m, e1, ef⟩ := bnd_some ef
      cases ef
      obtain ⟨ov, eo, v, rfl, q⟩ := pr_get E.sl er
      exact ⟨_, eo, L, ρ, μ, r, _, E, e1, fun vs H1 E1 s1 q1 => k (_ :: vs) H1 E1 s1 (.cons ⟨v, rfl, q.mono s1.same⟩ q1)⟩
    · cases ef
def fCall (m : FE) (g : FP) : FE := fun ρ μ => bnd (g ρ μ) fun sl m' => m sl m'
theorem de_call {k n : Nat} {fA : Addr} {fd : FuncData} {ps : List Str} {m : FE} {x : Str} {g : FP} (F : FnOk X.prog X.w X.K X.mg X.base CX0 k fA fd ps (spD X.K m n)) (hr : Room k X.A) (hg : Gl X x) (hm : X.mg x = some (.ref fA)) (hk : PySem.W.keepIn X.K (.ref fA) = true) (hb : Binds X.K fd ps [])
    (ha : DP X (e :: es) g) (hn : ∀ ρ μ sl m', g ρ μ = some (sl, m') → sl.length = n) (hdb : (x == ("__debug__" : Str)) = false := by decide) (he : starEach (e :: es) X.env = (false, eval e X.env) :: starEach es X.env := by rfl) (hpl : (backTo pos (starEach es X.env)).any (·.1) = false := by rfl) :
    DE X (.Call (.Name x p) (e :: es) [] pos) (fCall m g) := DE.of (pe_call F hr hg hm hk hb .nil pass0 ha hdb he hpl) fun L ρ μ d μ' σ H Q E ef k => by
  obtain ⟨sl, m1, e1, e2⟩ := bnd_some ef
  refine ⟨L, ρ, μ, sl, m1, E, e1, fun vs H1 E1 s1 q1 => ?_⟩
  show spD X.K m n (vs ++ []) H1 Q E0
  rw [List.append_nil]
  refine ⟨L, sl, m1, d, μ', ?_, ⟨E1.nd, E1.lk, q1, E1.st⟩, e2, fun v H2 st2 s2 q2 => k v H2 (E1.step s2 st2) (s1.trans s2) q2⟩
  have := pr_len q1
  rw [List.length_map] at this
  rw [this]; exact hn _ _ _ _ e1
def rd (ρ : Rho) (μ : Mu) (i : Nat) : Option PyData := match ρ[i]? with
  | some (.dat d) => some d
  | some (.own k) => opt (μ[k]?) fun ds => some (.list ds)
  | _ => none
theorem rd_dp {K : PySem.W.Frag} {L : OW} {H : Hp} {σ : L2.St} {ρ : Rho} {μ : Mu} {i : Nat} {d : PyData} (E : EnvR K L H σ ρ μ) (h : rd ρ μ i = some d) : ∃ v, σ[i]? = some (some v) ∧ Dp K H v d := by
  unfold rd at h
  split at h
  · rename_i d' er
    cases h
    obtain ⟨ov, eo, v, rfl, q⟩ := pr_get E.sl er
    exact ⟨v, eo, dpf q⟩
  · rename_i k er
    obtain ⟨ds, e1, e2⟩ := opt_some h
    cases e2
    obtain ⟨ov, eo, l, el, rfl⟩ := pr_get E.sl er
    obtain ⟨vs, hH, q⟩ := E.at e1 el
    exact ⟨_, eo, .lst (SqL.of hH) (dpsf q)⟩
  · cases h
def isSc : PyData → Bool
  | .none => true
  | .bool _ => true
  | .int _ => true
  | .str _ => true
  | _ => false
theorem sc_dp {K : PySem.W.Frag} {H H' : Hp} {v : V} {d : PyData} (h : isSc d = true) (q : Dp K H v d) : Dp K H' v d := by
  cases q with
  | non => exact .non
  | bl b => exact .bl b
  | int i => exact .int i
  | str x => exact .str x
  | lst _ _ => cases h
  | tup _ _ => cases h
  | dct _ => cases h
theorem off_nil (H : Hp) : Off ⟨[], [], fun _ => none⟩ H = H := by
  funext a; unfold Off OW.has; simp
theorem own_nil (H : Hp) : Own ⟨[], [], fun _ => none⟩ H := fun l z => by unfold OW.has at z; simp at z
theorem Ret.sc {K : PySem.W.Frag} {L : OW} {H0 H : Hp} {σ : L2.St} {ρ : Rho} {μ : Mu} {d : PyData} {Q : VK} (hs : isSc d = true) (E : EnvR K L H σ ρ μ) (s0 : Step L H0 L H) (k : ∀ v H', EnvR K L H' σ ρ μ → Step L H0 L H' → Dp K (Off L H') v d → Q v H') : Ret K ⟨[], [], fun _ => none⟩ H d Q :=
  fun v H' s q => k v H' (E.same s) (s0.trans (Step.of_same s)) (sc_dp hs q)
def sc (z : Option PyData) : Option PyData := opt z fun d => if isSc d = true then some d else none
theorem sc_some {z : Option PyData} {d : PyData} (h : sc z = some d) : z = some d ∧ isSc d = true := by
  obtain ⟨d', e, h⟩ := opt_some h
  split at h
  · cases h; exact ⟨e, by assumption⟩
  · cases h
def fNmB (i : Nat) (g : List PyData → Option PyData) : FE := fun ρ μ => opt (rd ρ μ i) fun d => fin (sc (g [d])) μ
theorem de_nmB {i : Nat} {y x : Str} {id : String} {r : List V → Hp → VK → Prop} {g : List PyData → Option PyData} {p2 : Pos} (oN : OpN X.K r g) (hc : CallR X (.builtin id) r) (hg : Gl X x) (hm : X.mg x = none) (hv : bootBuiltins x = some (.builtin id)) (hN : X.N[i]? = some y) (hvy : Vis X.env.scope y)
    (hn : x ≠ "__name__" := by decide) (hdb : (x == ("__debug__" : Str)) = false := by decide) (hd : (y == ("__debug__" : Str)) = false := by decide) (hcd : (y == ("__classdict__" : Str)) = false := by decide)
    (he : starEach [.Name y p2] X.env = (false, eval (.Name y p2) X.env) :: starEach [] X.env := by rfl) (hpl : (backTo pos (starEach [] X.env)).any (·.1) = false := by rfl) : DE X (.Call (.Name x p) [.Name y p2] [] pos) (fNmB i g) :=
  DE.of (pe_callB hc hg hm hv (pa_cons (pe_var hN hvy hd hcd) pa_nil he) hn hdb he hpl) fun L ρ μ d μ' σ H Q E ef k => by
    obtain ⟨d1, e1, ef⟩ := opt_some ef
    obtain ⟨e2, rfl⟩ := fin_some ef
    obtain ⟨e3, hs⟩ := sc_some e2
    obtain ⟨v, ev, q⟩ := rd_dp E e1
    exact ⟨v, ev, oN ⟨[], [], fun _ => none⟩ H [v] [d1] d Q (own_nil H) (by rw [off_nil]; exact .cons q .nil) e3 (Ret.sc hs E (Step.refl _ _) k)⟩
def fNm2 (i : Nat) (fb : FE) (g : PyData → PyData → Option PyData) : FE := fun ρ μ => bnd (fb ρ μ) fun e m => opt (rd ρ m i) fun d => fin (sc (g d e)) m
def fNmI (i : Nat) (fb : FE) : FE := fun ρ μ => bnd (fb ρ μ) fun e m => match ρ[i]? with
  | some (.dat d) => fin (ixD d e) m
  | some (.own k) => opt (m[k]?) fun ds => fin (ixD (.list ds) e) m
  | _ => none
theorem de_nmI {i : Nat} {y : Str} {p2 : Pos} (hN : X.N[i]? = some y) (hvy : Vis X.env.scope y) (hb : DE X b fb) (hs : PlainIx b) (hd : (y == ("__debug__" : Str)) = false := by decide) (hcd : (y == ("__classdict__" : Str)) = false := by decide) : DE X (.Subscript (.Name y p2) b pos) (fNmI i fb) :=
  DE.of (pe_ix ix_seq (pe_var hN hvy hd hcd) hb hs) fun L ρ μ d μ' σ H Q E ef k => by
    obtain ⟨d2, m2, e2, ef⟩ := bnd_some ef
    split at ef
    · rename_i d' er
      obtain ⟨e3, rfl⟩ := fin_some ef
      obtain ⟨ov, eo, v, rfl, q⟩ := pr_get E.sl er
      exact ⟨v, eo, L, ρ, μ, d2, _, E, e2, fun u H2 E2 s2 q2 => o2_ix L H2 v u d' d2 d Q E2.own (q.mono s2.same) q2 e3 (Ret.of E2 s2 k)⟩
    · rename_i k' er
      obtain ⟨ds, e1, ef⟩ := opt_some ef
      obtain ⟨e3, rfl⟩ := fin_some ef
      obtain ⟨ov, eo, l, el, rfl⟩ := pr_get E.sl er
      refine ⟨_, eo, L, ρ, μ, d2, _, E, e2, fun u H2 E2 s2 q2 => ?_⟩
      obtain ⟨vs, hH, q⟩ := E2.at e1 el
      cases d2 with
      | int j =>
        obtain ⟨v, e4, e5⟩ := at_dp q (show atI ds j = some d from e3)
        exact .inl ⟨l, vs, j, v, rfl, dp_int q2, SqL.of hH, e4, k v H2 E2 s2 e5⟩
      | _ => cases e3
    · cases ef
def fNmT (i : Nat) : FE := fun ρ μ => match ρ[i]? with
  | some (.own k) => opt (μ[k]?) fun ds => some (.tuple ds, μ)
  | _ => none
theorem de_nmT {i : Nat} {y : Str} {p2 : Pos} (hg : Gl X "tuple") (hm : X.mg "tuple" = none) (hN : X.N[i]? = some y) (hvy : Vis X.env.scope y) (hd : (y == ("__debug__" : Str)) = false := by decide) (hcd : (y == ("__classdict__" : Str)) = false := by decide)
    (he : starEach [.Name y p2] X.env = (false, eval (.Name y p2) X.env) :: starEach [] X.env := by rfl) (hpl : (backTo pos (starEach [] X.env)).any (·.1) = false := by rfl) : DE X (.Call (.Name "tuple" p) [.Name y p2] [] pos) (fNmT i) :=
  DE.of (pe_callTy call_tuple_of hg hm (by decide +kernel) (pa_cons (pe_var hN hvy hd hcd) pa_nil he) (by decide) (by decide) he hpl) fun L ρ μ d μ' σ H Q E ef k => by
    unfold fNmT at ef
    split at ef
    · rename_i k' er
      obtain ⟨ds, e1, ef⟩ := opt_some ef
      cases ef
      obtain ⟨ov, eo, l, el, rfl⟩ := pr_get E.sl er
      obtain ⟨vs, hH, q⟩ := E.at e1 el
      refine ⟨_, eo, l, vs, rfl, .inl ⟨SqL.of hH, ?_⟩⟩
      exact Ret.tup E.own q (Ret.of E (Step.refl _ _) k)
    · cases ef
def fNmJ (fo : FE) (i : Nat) : FE := fun ρ μ => bnd (fo ρ μ) fun d m => match d with
  | .str a => opt (rd ρ m i) fun e => fin (joinD a e) m
  | _ => none
def fSetI (i : Nat) (j : Int) (f : FE) : FS := fun ρ μ => bnd (f ρ μ) fun d m => match ρ[i]? with
  | some (.own k) => opt (m[k]?) fun ds => opt (ixN ds.length j) fun n => some (.nx ρ (m.set k (ds.set n d)))
  | _ => none
theorem ds_setI {i : Nat} {y : Str} {p2 p3 : Pos} {j : Int} {jk} (hN : X.N[i]? = some y) (hvy : Vis X.env.scope y) (he : DE X e f) (hd : (y == ("__debug__" : Str)) = false := by decide) (hcd : (y == ("__classdict__" : Str)) = false := by decide)
    (ha : ∀ v, assign (.Subscript (.Name y p2) (.Constant (.int j) jk p3) p) X.env v = (do
      let ov ← holding [v] (eval (.Name y p2) X.env)
      let iv ← holding [v, ov] (eval (.Constant (.int j) jk p3) X.env)
      standAt p
      holding [v, ov, iv] (setItem ov iv v)
      release [v, ov, iv] []) := by intro _; rfl)
    (hs : swapsWithSole [.Subscript (.Name y p2) (.Constant (.int j) jk p3) p] e pos.line X.env = pure false := by rfl) (hw : swappedStores [.Subscript (.Name y p2) (.Constant (.int j) jk p3) p] e X.env = pure none := by rfl)
    (h1 : (assignEach [.Subscript (.Name y p2) (.Constant (.int j) jk p3) p] X.env).map (·.2) = [assign (.Subscript (.Name y p2) (.Constant (.int j) jk p3) p) X.env] := by rfl) :
    DS X (.Assign [.Subscript (.Name y p2) (.Constant (.int j) jk p3) p] e pos) (fSetI i j f) := DS.of (ps_asg he (pg_sub (pe_var hN hvy hd hcd) pe_int set_list ha) hs hw h1) fun L ρ μ o σ H D E ef k => by
  obtain ⟨d, m, e1, ef⟩ := bnd_some ef
  split at ef
  · rename_i k' er
    obtain ⟨ds, e2, ef⟩ := opt_some ef
    obtain ⟨n, e3, ef⟩ := opt_some ef
    cases ef
    refine ⟨L, ρ, μ, d, m, E, e1, fun v H1 E1 s1 q1 => ?_⟩
    obtain ⟨ov, eo, l, el, rfl⟩ := pr_get E.sl er
    obtain ⟨vs, hH, q⟩ := E1.at e2 el
    obtain ⟨E2, s2⟩ := E1.ownSet el (dps_set q1 n q)
    exact ⟨_, eo, l, vs, j, n, rfl, rfl, hH, by rw [dps_len q]; exact e3, k _ _ L E2 (s1.trans s2)⟩
  · cases ef
end
end DL
namespace DL
open PySem PySem.Spec PyProof.Rows L2
variable [Tabs]
mutual
def noLst : PyData → Bool
  | .list _ => false
  | .tuple xs => noLstAll xs
  | _ => true
def noLstAll : List PyData → Bool
  | [] => true
  | x :: r => noLst x && noLstAll r
end
section
variable {X : Cx} {pins : List (Addr × Obj)} {σ : L2.St} {H : Hp} {s : Shared}
mutual
theorem dp_readsS (I : Inv X pins σ H s) : ∀ (d : PyData) (v : V) (u : Value), noLst d = true → Dp X.K H v d → RelV v u → ∃ as, Reads s.heap u d as ∧ sysModules ∉ as
  | .none, _, _, _, h, r => by
    cases h
    cases r
    exact ⟨_, Reads.none, by simp⟩
  | .bool b, _, _, _, h, r => by
    cases h
    cases r
    exact ⟨_, Reads.bool b, by simp⟩
  | .int i, _, _, _, h, r => by
    cases h
    obtain ⟨t, rfl⟩ := r
    exact ⟨_, Reads.int i t, by simp⟩
  | .str x, _, _, _, h, r => by
    cases h
    obtain ⟨t, rfl⟩ := r
    exact ⟨_, Reads.str x t, by simp⟩
  | .list ds, _, _, e, _, _ => by simp [noLst] at e
  | .tuple ds, _, _, e, h, r => by
    cases h with
    | tup hs ha =>
      cases r
      obtain ⟨its, rv, ⟨o, ho, hc, n, hd⟩, _⟩ := I.tuple hs
      obtain ⟨as, hr, hn⟩ := dp_readsAllS I ds _ its (by simpa [noLst] using e) ha rv
      exact ⟨_, Reads.tuple ho hc hd hr, hn⟩
  | .dict _, _, _, _, h, r => by
    cases h with
    | dct e =>
      cases r
      obtain ⟨q1, q2⟩ := dk_reads (I.hok _ _ e)
      exact ⟨_, q1, by simpa using Ne.symm q2⟩
theorem dp_readsAllS (I : Inv X pins σ H s) : ∀ (ds : List PyData) (vs : List V) (us : List Value), noLstAll ds = true → DpAll X.K H vs ds → Vals vs us → ∃ as, ReadsAll s.heap us ds as ∧ sysModules ∉ as
  | [], _, _, _, h, r => by
    cases h
    cases r
    exact ⟨_, ReadsAll.nil, by simp⟩
  | d :: ds, _, _, e, h, r => by
    cases h with
    | cons h1 h2 =>
      cases r with
      | cons r1 r2 =>
        simp only [noLstAll, Bool.and_eq_true] at e
        obtain ⟨as, q1, n1⟩ := dp_readsS I d _ _ e.1 h1 r1
        obtain ⟨bs, q2, n2⟩ := dp_readsAllS I ds _ _ e.2 h2 r2
        exact ⟨_, ReadsAll.cons q1 q2, by simp [n1, n2]⟩
end
end
def reprB (d : PyData) : Bool := d.showable && (!d.hasDict || noLst d) && decide (d.shown.length ≤ sizeLine) && decide (d.depth ≤ 32)
def reprD (d : PyData) : Option PyData := if reprB d = true then some (.str d.shown) else none
def rRepr (K : PySem.W.Frag) : List V → Hp → VK → Prop := fun xs H Q => ∃ x d, xs = [x] ∧ Dp K H x d ∧ reprB d = true ∧ Q (.str d.shown) H
section
variable {X : Cx} {tg e a b o : Expr} {es : List Expr} {pos p apos : Pos} {f fa fb te fo : FE} {tt : FT} {fs : FA}
theorem call_reprD (hu : X.A.units + 64 < cLine) (hg : X.A.guards = some []) : CallR X (.builtin "repr") (rRepr X.K) := by
  intro pins s σ H xs us Q I rs h
  obtain ⟨x, d, rfl, hd, hb, q⟩ := h
  obtain ⟨u, rfl, ru⟩ := vals1 rs
  obtain ⟨as, r⟩ := Dp.reads I d x u hd ru
  unfold reprB at hb
  simp only [Bool.and_eq_true, decide_eq_true_eq, Bool.or_eq_true, Bool.not_eq_true'] at hb
  obtain ⟨⟨⟨h1, h2⟩, h3⟩, h4⟩ := hb
  have r' : ∃ as, Reads s.heap u d as ∧ (d.hasDict = true → sysModules ∉ as) := by
    rcases h2 with h2 | h2
    · exact ⟨as, r, PyData.noDict_hsm h2⟩
    · obtain ⟨as', q1, q2⟩ := dp_readsS I d x u h2 hd ru
      exact ⟨as', q1, fun _ => q2⟩
  clear r
  obtain ⟨as, r, hsm⟩ := r'
  cases hd with
  | non => cases ru; exact PySem.P.repr_of_none ⟨.str _, H, I.tok _, ⟨_, rfl⟩, by simpa [PyData.shown] using q⟩
  | bl b => cases ru; exact PySem.P.repr_of_bool ⟨.str _, H, I.tok _, ⟨_, rfl⟩, by simpa [PyData.shown] using q⟩
  | int i => obtain ⟨t, rfl⟩ := ru; exact PySem.P.repr_of_int (by simpa [PyData.showable] using h1) ⟨.str _, H, I.tok _, ⟨_, rfl⟩, by simpa [PyData.shown] using q⟩
  | str y => obtain ⟨t, rfl⟩ := ru; exact PySem.P.repr_of_str ⟨.str _, H, I.tok _, ⟨_, rfl⟩, by simpa [PyData.shown] using q⟩ (by simpa [PyData.shown] using h3)
  | lst s1 q1 => cases ru; exact repr_of_reads' r h1 hsm hg (by omega) (fun _ _ e => e) (fun h' u tk hk => ⟨.str _, H, I.kept hk, ⟨u, rfl⟩, q⟩) h3
  | tup s1 q1 => cases ru; exact repr_of_reads' r h1 hsm hg (by omega) (fun _ _ e => e) (fun h' u tk hk => ⟨.str _, H, I.kept hk, ⟨u, rfl⟩, q⟩) h3
  | dct e => cases ru; exact repr_of_reads' r h1 hsm hg (by omega) (fun _ _ e => e) (fun h' u tk hk => ⟨.str _, H, I.kept hk, ⟨u, rfl⟩, q⟩) h3
theorem oN_repr {K : PySem.W.Frag} : OpN K (rRepr K) (g1 reprD) := fun L H xs ds z Q hL h hg k => by
  unfold g1 at hg
  split at hg
  · rename_i d
    cases h with
    | cons h1 h2 =>
      cases h2
      unfold reprD at hg
      split at hg
      · cases hg; exact ⟨_, d, rfl, dpf h1, by assumption, k.str⟩
      · cases hg
  · cases hg
end
end DL
namespace DL
open PySem PySem.Spec PyProof.Rows L2
variable [Tabs]
section
open PySem.SeqAt PySem.MeetsSeq PySem.MeetsSeq2 PySem.MeetsSeq3
open PySem.AutoSeq1 (wpAny_loadPart')
end
end DL
namespace DL
open PySem PySem.Spec PyProof.Rows L2
variable [Tabs]
section
variable {prog : Program} {w : World} {A : Around} {E : Value → Shared → Prop} {s : Shared}
theorem nextT_item {it t : Addr} {i : Nat} {xs : Array Value} {x : Value} {Q : Value → Shared → Prop} (hi : s.heap.IsTupleIter it t i) (ht : s.heap.IsTuple t xs) (hx : xs[i]? = some x)
    (k : ∀ h', h'.IsTupleIter it t (i + 1) → Heap.SameBut it s.heap h' → Q x { s with heap := h' }) : wpAny (model prog w) A (Builtin.SmallTypes.nextOf (.ref it)) Q E s := by
  obtain ⟨o, ho, hc, hd⟩ := id hi
  obtain ⟨ot, hot, _, nt, hdt⟩ := ht
  unfold Builtin.SmallTypes.nextOf
  refine wpAny_bind (wpAny_callSpecial?_slot (name := Str.ofString "__next__") hi.typeIs F.slot_tuple_iterator_next ?_)
  refine wpAny_call_entry F.slot_tuple_iterator_next hi.typeIs F.entry_tuple_iterator_next ?_ (F.args_tuple_iterator_next_1 _)
  show wpAny _ _ (field (.ref it) 0 >>= _) _ _ s
  refine wpAny_bind (wpAny_field ho hd (x := .ref t) rfl ?_)
  have nn : ¬ ((Value.ref t == Value.none) = true) := Bool.false_ne_true
  show wpAny _ _ (if (Value.ref t == Value.none) = true then _ else _) _ _ s
  rw [if_neg nn]
  show wpAny _ _ (field (.ref it) 1 >>= _) _ _ s
  refine wpAny_bind (wpAny_field ho hd (x := .int i 0) rfl ?_)
  show wpAny _ _ (seqItems? (.ref t) >>= _) _ _ s
  refine wpAny_bind (wpAny_seqItems hot hdt ?_)
  simp only [Int.toNat_natCast, hx]
  refine wpAny_bind (wpAny_setField ho hd (by simp) (wpAny_pure ⟨x, rfl, wpAny_pure (k _ ?_ (Heap.SameBut.update ..))⟩))
  refine ⟨_, Heap.get?_update_self _ ho (Obj.isFreed_of_fields (Obj.data_mapFields hd _)), (Obj.cls_mapFields ..).trans hc, ?_⟩
  rw [Obj.data_mapFields hd]; simp [rawInt]
theorem nextT_end {it t : Addr} {i : Nat} {xs : Array Value} {Q : Value → Shared → Prop} (hh : A.handled = none) (hi : s.heap.IsTupleIter it t i) (ht : s.heap.IsTuple t xs) (hx : xs[i]? = none)
    (k : ∀ h' e, Heap.ExtBut it s.heap h' → (∃ o, h'.get? e = some o ∧ o.cls = .type "StopIteration") → E (.ref e) { s with heap := h' }) : wpAny (model prog w) A (Builtin.SmallTypes.nextOf (.ref it)) Q E s := by
  obtain ⟨o, ho, hc, hd⟩ := id hi
  obtain ⟨ot, hot, _, nt, hdt⟩ := ht
  unfold Builtin.SmallTypes.nextOf
  refine wpAny_bind (wpAny_callSpecial?_slot (name := Str.ofString "__next__") hi.typeIs F.slot_tuple_iterator_next ?_)
  refine wpAny_call_entry F.slot_tuple_iterator_next hi.typeIs F.entry_tuple_iterator_next ?_ (F.args_tuple_iterator_next_1 _)
  show wpAny _ _ (field (.ref it) 0 >>= _) _ _ s
  refine wpAny_bind (wpAny_field ho hd (x := .ref t) rfl ?_)
  have nn : ¬ ((Value.ref t == Value.none) = true) := Bool.false_ne_true
  show wpAny _ _ (if (Value.ref t == Value.none) = true then _ else _) _ _ s
  rw [if_neg nn]
  show wpAny _ _ (field (.ref it) 1 >>= _) _ _ s
  refine wpAny_bind (wpAny_field ho hd (x := .int i 0) rfl ?_)
  show wpAny _ _ (seqItems? (.ref t) >>= _) _ _ s
  refine wpAny_bind (wpAny_seqItems hot hdt ?_)
  simp only [Int.toNat_natCast, hx]
  refine wpAny_bind (wpAny_rule (wpAny_bind (wpAny_setField ho hd (by simp) ?_)))
  show wpAny _ _ (newExc (.type "StopIteration") [] >>= _) _ _ _
  refine wpAny_bind ?_
  simp only [newExc, newTuple]
  refine wpAny_bind (wpAny_newObj_type ?_ (by size_fits))
  refine wpAny_bind (m := firstArgMember _ _) (wpAny_of_eq (a := Value.none) (by first | rfl | (simp only [firstArgMember]; rfl)) ?_)
  refine wpAny_newObj_type ?_ (by size_fits)
  simp only [raiseNew]
  refine wpAny_bind (wpAny_handled ?_)
  first | rw [show A.in1.handled = none from hh] | rw [hh]
  refine wpAny_bind (wpAny_pure (wpAny_throw ?_))
  exact k _ _ (((Heap.SameBut.update ..).extBut.push _).push _) ⟨_, Heap.get?_push_size _ rfl, rfl⟩
theorem drawsT (hh : A.handled = none) {it t : Addr} {xs : Array Value} (hne : t ≠ it) : Draws prog w A it [it, t] xs.size (fun i v => xs[i]? = some v) (fun i h => h.IsTupleIter it t i ∧ h.IsTuple t xs) where
  live := fun i h ⟨⟨o, ho, _⟩, _⟩ => ⟨o, ho⟩
  frame := fun i h h' ⟨h1, ⟨o, ho, r⟩⟩ k => ⟨h1.at fun o e => k it (by simp) o e, ⟨o, k t (by simp) o ho, r⟩⟩
  item := fun i s Q E hi ⟨h1, h2⟩ k => nextT_item h1 h2 (Array.getElem?_eq_getElem hi) fun h' h3 sb => k _ h' s.toks (Array.getElem?_eq_getElem hi) ⟨h3, by obtain ⟨o, ho, r⟩ := h2; exact ⟨o, (sb.2 t hne).trans ho, r⟩⟩ sb
  done := fun s Q E ⟨h1, h2⟩ k => nextT_end hh h1 h2 (by simp) k
theorem new_enumT (p : Addr) (xs : Array Value) (n : Nat) (dct : Option Addr) (sl : Array (Option Value)) :
    Meets (Builtin.«enumerate.__new__» ⟨[.type "enumerate", .ref p], []⟩) (fun _ R s => s.heap.get? p = some { cls := .type "tuple", dict := dct, data := .seq xs n, slots := sl } ∧
      R (.ok (.ret (.ref (s.heap.push { cls := .type "tuple_iterator", data := .fields #[.ref p, .int 0 0] }).objs.size)))
        { s with heap := (s.heap.push { cls := .type "tuple_iterator", data := .fields #[.ref p, .int 0 0] }).push { cls := .type "enumerate", data := .fields #[.none, .bool false, .ref s.heap.objs.size, rawInt 0, .none, .none] } }) :=
  .of_wp fun prog w A R s h => by
    obtain ⟨hp, g, d, tk, os⟩ := s
    obtain ⟨ht, hR⟩ := h
    have hsub := sub_enumerate
    have hT : Heap.IsTuple (Shared.heap ⟨hp, g, d, tk, os⟩) p xs := ⟨_, ht, rfl, n, rfl⟩
    wp_walk using AutoSeq1.wpAny_loadPart' ht
    refine wpAny_stack_any fun st => wpAny_pure ?_
    split
    · rename_i c _ _ _ _ _
      cases (c == Value.type "enumerate")
      · wp_walk using AutoSeq1.wpAny_loadPart' ht, wpAny_pyIter_tuple hT
        exact ⟨_, rfl, hR⟩
      · wp_walk using AutoSeq1.wpAny_loadPart' ht, wpAny_pyIter_tuple hT
        exact ⟨_, rfl, hR⟩
    · wp_walk using AutoSeq1.wpAny_loadPart' ht, wpAny_pyIter_tuple hT
      exact ⟨_, rfl, hR⟩
theorem call_enumT {p : Addr} {xs : Array Value} {Q : Value → Shared → Prop} (hT : s.heap.IsTuple p xs)
    (k : ∀ h', IsEnum h' (s.heap.objs.size + 1) s.heap.objs.size 0 .none → h'.IsTupleIter s.heap.objs.size p 0 → (∀ b o, s.heap.get? b = some o → h'.get? b = some o) → Q (.ref (s.heap.objs.size + 1)) { s with heap := h' }) :
    wpAny (model prog w) A (call (.type "enumerate") [.ref p]) Q E s := by
  obtain ⟨⟨c, dct, dt, sl⟩, hl, hc, n, hd⟩ := hT
  simp only at hc hd
  subst hc hd
  refine callType_new F.called_enumerate (by decide) (F.typeCall_enumerate_1 _) (F.newCall_enumerate_1 _) (fun obj => F.args_object_init_2 obj _) F.entry_enumerate_new (new_enumT p xs n dct sl) ⟨hl, ?_⟩
  have hz : (s.heap.push { cls := .type "tuple_iterator", data := .fields #[.ref p, .int 0 0] }).objs.size = s.heap.objs.size + 1 := Heap.size_push ..
  show _ ∧ _
  rw [hz]
  have he : IsEnum ((s.heap.push { cls := .type "tuple_iterator", data := .fields #[.ref p, .int 0 0] }).push { cls := .type "enumerate", data := .fields #[.none, .bool false, .ref s.heap.objs.size, rawInt 0, .none, .none] }) (s.heap.objs.size + 1) s.heap.objs.size 0 .none := by
    have q := Heap.get?_push_size (s.heap.push { cls := .type "tuple_iterator", data := .fields #[.ref p, .int 0 0] }) (o := { cls := .type "enumerate", data := .fields #[.none, .bool false, .ref s.heap.objs.size, rawInt 0, .none, .none] }) rfl
    rw [hz] at q; exact q
  exact ⟨⟨_, he, rfl⟩, k _ he ⟨_, Heap.get?_push_of_some _ (Heap.get?_push_size _ rfl), rfl, rfl⟩ fun b o x => Heap.get?_push_of_some _ (Heap.get?_push_of_some _ x)⟩
end
def IteT (K : PySem.W.Frag) (a : Addr) : It :=
  ⟨fun i H => ∃ (xs : List V) (x : V), SqT K H a xs ∧ xs[i]? = some x, fun i H v H' => ∃ T x, v = .ref T ∧ H T = none ∧ H' = upd H T (.tup [.int (i : Nat), x]) ∧ ∀ xs, SqT K H a xs → xs[i]? = some x, fun i H => ∃ xs : List V, SqT K H a xs ∧ xs.length ≤ i⟩
theorem drawsEnd {prog : Program} {w : World} {A : Around} (hh : A.handled = none) {it t : Addr} {xs : Array Value} {n : Nat} (hn : xs[n]? = none) : Draws prog w A it [it, t] n (fun _ _ => True) (fun i h => i = n ∧ h.IsTupleIter it t i ∧ h.IsTuple t xs) where
  live := fun i h ⟨_, ⟨o, ho, _⟩, _⟩ => ⟨o, ho⟩
  frame := fun i h h' ⟨h0, h1, ⟨o, ho, r⟩⟩ k => ⟨h0, h1.at fun o e => k it (by simp) o e, ⟨o, k t (by simp) o ho, r⟩⟩
  item := fun i s Q E hi ⟨h0, _⟩ _ => absurd hi (by omega)
  done := fun s Q E ⟨_, h1, h2⟩ k => nextT_end hh h1 h2 hn k
theorem turn_enumT {P : Program} {w : World} {K : PySem.W.Frag} {elts : List Expr} {kk : Nat} {tpos : Pos} (a e it : Addr) (hai : a ≠ it) (hae : a ≠ e) :
    Turn P w K (.Tuple elts kk tpos) (IteT K a) [e, it] e (fun i h => (∃ old, IsEnum h e it ((i : Nat) : Int) old) ∧ h.IsTupleIter it a i ∧ e ≠ it) where
  mem := by simp
  obj := fun i h st b hb => by
    obtain ⟨⟨old, he⟩, ⟨o, ho, hc, hd⟩, _⟩ := st
    have e' : b = e ∨ b = it := by simpa using hb
    rcases e' with z | z
    · rw [z]; exact ⟨_, he, fun v q => nomatch q⟩
    · rw [z]; exact ⟨o, ho, fun v q => by rw [hd] at q; cases q⟩
  keep := fun i h h' st k => let ⟨⟨old, he⟩, hi, hne⟩ := st; ⟨⟨old, k e (by simp) _ he⟩, hi.at fun o q => k it (by simp) o q, hne⟩
  item := by
    intro X hP hw hK hc i pins s σ H E I hf st hg
    subst hP hw hK
    obtain ⟨⟨old, he⟩, hit, hne⟩ := st
    obtain ⟨xs, x, hq, hx⟩ := hg
    obtain ⟨its, rv, pt, hz⟩ := I.tuple hq
    obtain ⟨u, hu, ru⟩ := rv.get hx
    have hel : e < s.heap.objs.size := Heap.lt_size he
    have hil : it < s.heap.objs.size := by obtain ⟨_, q, _⟩ := hit; exact Heap.lt_size q
    have hlt : i < its.toArray.size := by
      have := (List.getElem?_eq_some_iff.mp hu).1
      simpa using this
    have D : Draws X.prog X.w X.A.in1 it [it, a] its.toArray.size (fun i v => its.toArray[i]? = some v) (fun i h => h.IsTupleIter it a i ∧ h.IsTuple a its.toArray) := drawsT (A := X.A.in1) (I.ok.hd hc) hai
    refine wpAny_pyNext_enum_itemD D he ⟨hit, pt⟩ hlt hne (by simp [hne, Ne.symm hae]) fun x' h' tk hP ho hSt hT hsz hk => ?_
    have ex : x' = u := by
      have hP' : its.toArray[i]? = some x' := hP
      have : its[i]? = some x' := by simpa using hP'
      rw [hu] at this; exact (Option.some.inj this).symm
    subst ex
    refine ⟨_, rfl, wpAny_letOwnedTupleGo_enum (s := { s with heap := h', toks := tk + 1 }) ho fun h'' he' sb => ?_⟩
    have hT2 : h''.get? s.heap.objs.size = some { cls := .type "tuple", data := .seq #[.int i tk, x'] } := (sb.2 _ (Nat.ne_of_gt hel)).trans hT
    have new : ObjOk X.prog X.w (upd H s.heap.objs.size (.tup [.int (i : Nat), x])) h'' s.heap.objs.size (.tup [.int (i : Nat), x]) :=
      ⟨by show 2 ≤ sizeLine; decide, [.int i tk, x'], .cons ⟨_, rfl⟩ (.cons ru .nil), ⟨_, hT2, rfl, _, rfl, rfl⟩⟩
    have I1 : Inv X pins σ (upd H s.heap.objs.size (.tup [.int (i : Nat), x])) { s with heap := h'', toks := tk + 1 } :=
      I.turnedNew (ch := [e, it]) (fun b ob hb q => (sb.2 b (fun z => hb (by simp [z]))).trans (hk b ob (fun z => hb (by simp [z])) (fun z => hb (by simp [z])) q)) hf (Nat.le_refl _) new
    refine ⟨.ref s.heap.objs.size, _, I1, rfl, ⟨_, x, rfl, I.hok.fresh (Nat.le_refl _), rfl, fun ys hy => by rw [I.tuple_inj hy hq]; exact hx⟩, ⟨⟨x', ?_⟩, hSt.1.at fun o q => (sb.2 it (Ne.symm hne)).trans q, hne⟩, fun b hb => ?_⟩
    · have e1 : ((i + 1 : Nat) : Int) = (i : Int) + 1 := by omega
      rw [e1]; exact he'
    · have hb' : b < s.heap.objs.size := by
        have e' : b = e ∨ b = it := by simpa using hb
        rcases e' with z | z
        · rw [z]; exact hel
        · rw [z]; exact hil
      rw [upd_ne (Nat.ne_of_lt hb')]
      exact (hf b hb).1
  done := by
    intro X hP hw hK hc i pins s σ H E I hf st hg
    subst hP hw hK
    obtain ⟨⟨old, he⟩, hit, hne⟩ := st
    obtain ⟨xs, hq, hx⟩ := hg
    obtain ⟨its, rv, pt, hz⟩ := I.tuple hq
    obtain ⟨f0, f1, f2, f3, f4, f5⟩ := hf it (by simp)
    have hl := rv.length
    have hn : its.toArray[i]? = none := by simp; omega
    have D : Draws X.prog X.w X.A.in1 it [it, a] i (fun _ _ => True) (fun j h => j = i ∧ h.IsTupleIter it a j ∧ h.IsTuple a its.toArray) := drawsEnd (A := X.A.in1) (I.ok.hd hc) hn
    exact wpAny_pyNext_enum_endD D he ⟨rfl, hit, pt⟩ fun h' eb => ⟨rfl, I.turned (t' := s.toks) (fun b o hb q => eb b o hb q) f0 f1 f3 f4 f5⟩
  self := fun A i s Q E st h => let ⟨⟨_, he⟩, _⟩ := st; wpAny_pyIter_enum he h
def iEnumT (K : PySem.W.Frag) (ta : TA) : TI := fun σ H R => ta σ H fun vs H1 => ∃ a xs, vs = [.ref a] ∧ SqT K H1 a xs ∧ R (IteT K a) H1
theorem pi_enumT {X : Cx} {e : Expr} {ta : TA} {p pos tpos : Pos} {elts : List Expr} {kk : Nat} (hg : Gl X "enumerate") (hm : X.mg "enumerate" = none) (ha : PA X [e] ta) (hs : starEach [e] X.env = [(false, eval e X.env)] := by rfl) :
    PI X (.Tuple elts kk tpos) (.Call (.Name "enumerate" p) [e] [] pos) (iEnumT X.K ta) := by
  intro pins s σ H R I h
  refine Call_ (ld_blt I hg hm boot_enumerate (PyProof.Rows.callWith_type1 (thn (ha pos pins s σ H _ I h) fun us s1 ⟨vs, H1, I1, r1, q1⟩ => ?_) hs rfl))
  obtain ⟨a, xs, ex, hq, q⟩ := q1
  subst ex
  obtain ⟨u, rfl, ru⟩ := vals1 r1
  cases ru
  obtain ⟨its, rv, pt, hz⟩ := I1.tuple hq
  have hal : a < s1.heap.objs.size := pt.lt
  refine call_enumT pt fun h' he hit hk => wpAny_pyIter_enum he ?_
  have I2 : Inv X pins σ H1 { s1 with heap := h' } := I1.kept (t' := s1.toks) hk
  refine ⟨s1.heap.objs.size + 1, [s1.heap.objs.size + 1, s1.heap.objs.size], _, _, H1, rfl, I2, turn_enumT a (s1.heap.objs.size + 1) s1.heap.objs.size (Nat.ne_of_lt hal) (Nat.ne_of_lt (Nat.lt_succ_of_lt hal)), ⟨⟨.none, he⟩, hit, Nat.succ_ne_self _⟩, fun b hb => ?_, q⟩
  have hle : s1.heap.objs.size ≤ b := by
    have e' : b = s1.heap.objs.size + 1 ∨ b = s1.heap.objs.size := by simpa using hb
    rcases e' with z | z
    · rw [z]; exact Nat.le_add_right _ _
    · rw [z]; exact Nat.le_refl _
  exact I1.fpOk hle (I1.hok.fresh hle)
theorem itd_enumT {K : PySem.W.Frag} {L : OW} {H : Hp} {a : Addr} {xs : List V} {ds : List PyData} (s : SqT K (Off L H) a xs) (q : DpAll K (Off L H) xs ds) : ItD K (IteT K a) (pairs 0 ds) L H := fun L' H1 sm ow i => by
  have s1 := sqtf (seqT sm s)
  rw [pairs_len]
  refine ⟨fun hi => ?_, fun hi => ⟨xs, s1, by rw [dps_len q]; exact hi⟩⟩
  have e : ds[i]? = some ds[i] := List.getElem?_eq_getElem hi
  obtain ⟨v, ev, dv⟩ := dps_get q e
  refine ⟨⟨xs, v, s1, ev⟩, fun x H2 ⟨T, y, e1, hT, e2, hy⟩ => ?_⟩
  subst e1 e2
  have := hy xs s1
  rw [ev] at this; cases this
  refine ⟨same_upd hT, _, pairs_get 0 ds i _ e, ?_⟩
  rw [Nat.zero_add]
  exact new_tup ow hT (.cons (.int _) (.cons (dv.mono sm) .nil))
def fEnT (f : FE) : FI := fun ρ μ => bnd (f ρ μ) fun d m => match d with
  | .tuple ds => some (pairs 0 ds, m)
  | _ => none
theorem di_enumT {X : Cx} {a : Expr} {fa : FE} {p pos : Pos} {elts : List Expr} {kk : Nat} {tpos : Pos} (hg : Gl X "enumerate") (hm : X.mg "enumerate" = none) (ha : DE X a fa) (hs : starEach [a] X.env = [(false, eval a X.env)] := by rfl) (hs' : starEach [a] X.env = (false, eval a X.env) :: starEach [] X.env := by rfl) :
    DI X (.Tuple elts kk tpos) (.Call (.Name "enumerate" p) [a] [] pos) (fEnT fa) := DI.of (pi_enumT hg hm (pa_cons ha pa_nil hs') hs) fun L ρ μ ds μ' σ H R E ef k => by
  obtain ⟨d, m, e1, ef⟩ := bnd_some ef
  split at ef
  · cases ef
    refine ⟨L, ρ, μ, _, _, E, e1, fun v H1 E1 s1 q1 => ?_⟩
    obtain ⟨a, xs, rfl, t1, z1⟩ := dp_tup q1
    exact ⟨a, xs, rfl, sqtf t1, k _ H1 E1 s1 (itd_enumT t1 z1)⟩
  · cases ef
end DL
namespace DL
open PySem PySem.Spec PyProof.Rows L2
variable [Tabs]
def uqs : List Str → List Str → List Str
  | acc, [] => acc
  | acc, x :: r => uqs (if x ∈ acc then acc else acc ++ [x]) r
section
variable {prog : Program} {w : World} {A : Around} {R : Result → Shared → Prop} {I : Addr} {fp wr : List Addr} {G : Array GenState → Array GenState → Prop} {n : Nat} {P : Nat → Value → Prop} {St : Nat → Shared → Prop}
theorem setOf_to {K : Type} [DecidableEq K] {knd : PySem.KeyKind prog w K} {h : Heap} {a : Addr} {S S' : K → Bool} {n n' : Nat} (hS : h.SetOf knd a S n) (e : S = S') (en : n = n') : h.SetOf knd a S' n' := by
  subst e en; exact hS
theorem set_loopT (W : WalksS prog w A.in1 I fp wr G n P St) (T : Addr) (hT : T ∉ fp) (xs : List Str) (hx : xs.length = n) (hval : ∀ (i : Nat) (v : Value), P i v → ∃ (x : Str) (t : Tok), xs[i]? = some x ∧ v = .str x t) (hb : n + 1 < scanBound) :
    ∀ (k i : Nat) (acc : List Str) (s : Shared), n - i = k → i ≤ n → acc.length ≤ i → St i s → s.heap.SetOf (PySem.strKind prog w) T (fun k' => decide (k' ∈ acc)) acc.length →
      (∀ s', Moved (T :: wr) G s s' → s'.heap.SetOf (PySem.strKind prog w) T (fun k' => decide (k' ∈ uqs acc (xs.drop i))) (uqs acc (xs.drop i)).length → R (.ok (.ret .none)) s') →
      codeAny (model prog w) A (.builtin "set.update.loop" ⟨[.ref T, .ref I], []⟩) R s := by
  have hTw : T ∉ wr := fun h => hT (W.sub _ h)
  have hsub : ∀ b ∈ wr, b ∈ T :: wr := fun b hb => List.mem_cons_of_mem _ hb
  intro k
  induction k with
  | zero =>
    intro i acc s hk hi ha hst hS hR
    obtain rfl : i = n := by omega
    refine codeAny_builtin PyProof.Rows.F.entry_set_update_loop ?_
    rw [Around.under_plainId PyProof.Rows.F.plain_set_update_loop _]
    show wpAny _ A.in1 (pyNext (.ref I) >>= _) _ _ s
    refine wpAny_bind (W.done s _ _ hst fun s' hm => ?_)
    show wpAny _ A.in1 (ret Value.none) _ _ s'
    rw [List.drop_eq_nil_of_le (by omega)] at hR
    obtain ⟨o, es, ep, t, ho, rest⟩ := hS
    exact wpAny_pure (hR s' (hm.mono hsub) ⟨o, es, ep, t, hm.heap T _ hTw ho, rest⟩)
  | succ k ih =>
    intro i acc s hk hi ha hst hS hR
    have hlt : i < n := by omega
    refine codeAny_builtin PyProof.Rows.F.entry_set_update_loop ?_
    rw [Around.under_plainId PyProof.Rows.F.plain_set_update_loop _]
    show wpAny _ A.in1 (pyNext (.ref I) >>= _) _ _ s
    refine wpAny_bind (W.item i s _ _ hlt hst fun v s' hP hst' hm => ?_)
    obtain ⟨x, t, ex, rfl⟩ := hval i v hP
    obtain ⟨o, es, ep, tb, ho, rest⟩ := hS
    have hS' : s'.heap.SetOf (PySem.strKind prog w) T (fun k' => decide (k' ∈ acc)) acc.length := ⟨o, es, ep, tb, hm.heap T _ hTw ho, rest⟩
    have hdr : xs.drop i = x :: xs.drop (i + 1) := by
      obtain ⟨h1, h2⟩ := List.getElem?_eq_some_iff.mp ex
      rw [← h2]; exact List.drop_eq_getElem_cons h1
    rw [hdr] at hR
    have his : (PySem.strKind prog w).is x (.str x t) = true := by show Value.isStrOf x (.str x t) = true; simp [Value.isStrOf]
    show wpAny _ A.in1 (holding [Value.str x t] (setAdd T (.str x t)) >>= _) _ _ s'
    refine wpAny_bind (wpAny_holding ?_)
    unfold setAdd
    refine wpAny_holding ?_
    refine wpAny_bind ((PySem.strKind prog w).pyHash (k := x) his ?_)
    refine wpAny_setAddHashed_of (knd := PySem.strKind prog w) (s := { s' with toks := s'.toks + 1 }) his rfl hS' (by omega) fun h' hsb hS2 => ?_
    have hSi : h'.SetOf (PySem.strKind prog w) T (fun k' => decide (k' ∈ if x ∈ acc then acc else acc ++ [x])) (if x ∈ acc then acc else acc ++ [x]).length := by
      refine setOf_to hS2 ?_ ?_
      · funext k'
        by_cases hm : x ∈ acc
        · by_cases hk : k' = x
          · subst hk; simp [hm]
          · simp [hm, hk]
        · simp [hm]
      · by_cases hm : x ∈ acc
        · simp [hm]
        · simp [hm]
    have hal : (if x ∈ acc then acc else acc ++ [x]).length ≤ i + 1 := by
      split
      · omega
      · simp; omega
    refine wpAny_pure ⟨plainId_quiet PyProof.Rows.F.plain_set_update_loop _, ih (i + 1) _ _ (by omega) hlt hal (W.frame _ s' _ _ hst' (Nat.le_succ _) fun b hb o e => ?_) hSi fun s2 hm2 hS3 => ?_⟩
    · rw [hsb.2 b (fun h : b = T => hT (by rw [← h]; exact hb))]; exact e
    · refine hR s2 (Moved.trans W.gtrans ((hm.mono hsub).then_heap (Nat.le_succ _) fun b o hb e => ?_) hm2) hS3
      rw [hsb.2 b (fun h : b = T => hb (by rw [h]; exact List.mem_cons_self))]; exact e
end
section
variable {prog : Program} {w : World} {A : Around} {E : Value → Shared → Prop} {s : Shared}
set_option maxHeartbeats 3200000 in
theorem call_setT {l : Addr} {items : Array Value} {xs : List Str} {Q : Value → Shared → Prop} (hh : A.handled = none) (hl : s.heap.IsList l items) (hx : xs.length = items.size) (hi : ∀ (i : Nat) (v : Value), items[i]? = some v → ∃ (x : Str) (t : Tok), xs[i]? = some x ∧ v = .str x t) (hb : items.size + 1 < scanBound)
    (h : ∀ (h' : Heap) (tk : Nat), h'.SetOf (PySem.strKind prog w) s.heap.objs.size (fun k' => decide (k' ∈ uqs [] xs)) (uqs [] xs).length →
      (∀ b o, b < s.heap.objs.size → s.heap.get? b = some o → h'.get? b = some o) → Q (.ref s.heap.objs.size) { s with heap := h', toks := tk }) :
    wpAny (model prog w) A (call (.type "set") [.ref l]) Q E s := by
  obtain ⟨c, tl, hmro⟩ := F.called_set.mro
  have hmade := F.called_set.made
  have hsub := F.called_set.sub
  refine wpAny_call (codeAny_of_tree ?_)
  show wpAny _ _ (callAny (.type "set") _) _ _ _
  refine wpAny_pure ⟨Code.quiet_builtin _ (by decide +kernel), codeAny_builtin F.entry_type_call ?_⟩
  rw [Around.under_plain (weight_type_call_type "set" [.ref l] []) rfl]
  have h1 := F.called_set.notType
  have h2 := F.called_set.canCreate
  have hct := F.typeCall_set_1 (.ref l)
  repeat (any_goals (first | assumption | wp_step))
  refine codeAny_mono (code_set_new_1 (.ref l) (E := E) (Q₁ := fun obj z => ∃ led : Bool, obj = .ref s.heap.objs.size ∧ z = { s with heap := s.heap.push { cls := .type "set", dict := none, data := .set #[] 0 (.fresh 0 0 led) } }) fun led => ⟨led, rfl, rfl⟩) fun r z hr => ?_
  cases r with
  | error e => exact hr
  | ok fl =>
    cases fl with
    | ret obj =>
      obtain ⟨led, rfl, rfl⟩ := hr
      have hS : (s.heap.push { cls := .type "set", dict := none, data := .set #[] 0 (.fresh 0 0 led) }).get? s.heap.objs.size = some { cls := .type "set", dict := none, data := .set #[] 0 (.fresh 0 0 led) } := Heap.get?_push_size _ rfl
      have hT : Shared.TypeIs { s with heap := s.heap.push { cls := .type "set", dict := none, data := .set #[] 0 (.fresh 0 0 led) } } (.ref s.heap.objs.size) "set" := ⟨_, hS, rfl⟩
      have hli := F.called_set.init.lookup
      have hbi := F.called_set.init.bind (.ref s.heap.objs.size)
      repeat (any_goals (first | assumption | wp_step))
      refine codeAny_mono (codeAny_call_builtin (R := wants (fun r z => r = .none ∧ ∃ h' tk, z = { s with heap := h', toks := tk } ∧
          h'.SetOf (PySem.strKind prog w) s.heap.objs.size (fun k' => decide (k' ∈ uqs [] xs)) (uqs [] xs).length ∧
          (∀ b o, b < s.heap.objs.size → s.heap.get? b = some o → h'.get? b = some o)) E) F.called_set.init.plain F.entry_set_init (check_set_init_1 hT ?_)) fun r2 z2 hr2 => ?_
      · obtain ⟨⟨ocls, odict, odata, oslots⟩, hol, hcl, nl, hdl⟩ := hl
        simp only at hcl hdl
        subst hcl; subst hdl
        have hol' : (s.heap.push { cls := .type "set", dict := none, data := .set #[] 0 (.fresh 0 0 led) }).get? l = some { cls := .type "list", dict := odict, data := .seq items nl, slots := oslots } := Heap.get?_push_of_some _ hol
        have hsls := F.sub_list_set
        have hslf := F.sub_list_frozenset
        have hne : (Value.type "list" == Value.type "dict") = false := by decide
        have hl1 : (s.heap.push { cls := .type "set", dict := none, data := .set #[] 0 (.fresh 0 0 led) }).IsList l items := ⟨_, hol', rfl, nl, rfl⟩
        unfold Builtin.«set.__init__» noKeywords Builtin.Frozenset.updateFrom
        generalize hPI : pyIter = PI
        wp_walk
        subst hPI
        refine wpAny_pyIter_list hl1 ?_
        refine wpAny_bind (wpAny_runValue ?_)
        have hlS : l < s.heap.objs.size := Heap.lt_size hol
        have hh3 : A.in1.in1.in1.handled = none := by simp [hh]
        have hneI : l ≠ (s.heap.push { cls := .type "set", dict := none, data := .set #[] 0 (.fresh 0 0 led) }).objs.size := by
          rw [Heap.size_push]; exact Nat.ne_of_lt (Nat.lt_succ_of_lt hlS)
        have hSf : s.heap.objs.size ∉ [(s.heap.push { cls := .type "set", dict := none, data := .set #[] 0 (.fresh 0 0 led) }).objs.size, l] := by
          rw [Heap.size_push]; simp only [List.mem_cons, List.mem_singleton, List.not_mem_nil, or_false, not_or]
          exact ⟨Nat.ne_of_lt (Nat.lt_succ_self _), Nat.ne_of_gt hlS⟩
        refine set_loopT ((Walks.list hh3 _ l hneI items).toS) s.heap.objs.size hSf xs hx hi hb (items.size - 0) 0 [] _ (by omega) (Nat.zero_le _) (Nat.le_refl _) ⟨⟨_, Heap.get?_push_size _ rfl, rfl, rfl⟩, (hl1.push _)⟩ ?hS0 ?hR
        case hS0 =>
          have hget : ((s.heap.push { cls := .type "set", dict := none, data := .set #[] 0 (.fresh 0 0 led) }).push { cls := .type "list_iterator", data := .fields #[.ref l, .int 0 0] }).get? s.heap.objs.size
              = some { cls := .type "set", dict := none, data := .set #[] 0 (.fresh 0 0 led) } := Heap.get?_push_of_some _ hS
          exact setOf_to ((setObjOf_fresh (knd := PySem.strKind prog w) led).setOf hget (by unfold scanBound; omega)) (by funext k'; simp) rfl
        case hR =>
          intro s' hm hS'
          obtain ⟨h', g', d', tk', os'⟩ := s'
          have eg : g' = s.gens := hm.gens
          have ed : d' = s.drawn := hm.drawn
          have eo : os' = s.os := hm.os
          subst eg; subst ed; subst eo
          show wpAny _ _ _ _ _ _
          refine wpAny_pure ?_
          show wpAny _ _ (ret Value.none) _ _ _
          refine wpAny_pure ⟨rfl, h', tk', rfl, hS', fun b o hb e => ?_⟩
          have hb1 : b ≠ s.heap.objs.size := Nat.ne_of_lt hb
          have hb2 : b ≠ (s.heap.push { cls := .type "set", dict := none, data := .set #[] 0 (.fresh 0 0 led) }).objs.size := by
            rw [Heap.size_push]; exact Nat.ne_of_lt (Nat.lt_succ_of_lt hb)
          exact hm.heap b o (by simp only [List.mem_cons, List.mem_singleton, List.not_mem_nil, or_false, not_or]; exact ⟨hb1, hb2⟩) (Heap.get?_push_of_some _ (Heap.get?_push_of_some _ e))
      · cases r2 with
        | error e => exact hr2
        | ok fl2 =>
          cases fl2 with
          | ret r =>
            obtain ⟨rfl, h', tk, rfl, hS', hk'⟩ := hr2
            repeat (any_goals (first | assumption | wp_step))
            exact h _ _ hS' hk'
          | _ => exact hr2.elim
    | _ => exact hr.elim
end
end DL
namespace DL
open PySem PySem.Spec PyProof.Rows L2
variable [Tabs]
section
variable {X : Cx} {tg e a b o : Expr} {es : List Expr} {pos p apos p2 pos2 : Pos} {f fa fb te fo : FE} {tt : FT} {fs : FA}
def SetX (P : Program) (w : World) (p : Addr) (ss : List Str) : HO := .ext fun h => h.SetOf (PySem.strKind P w) p (fun k => decide (k ∈ uqs [] ss)) (uqs [] ss).length
def rSetT (P : Program) (w : World) (K : PySem.W.Frag) : List V → Hp → VK → Prop := fun xs H Q => ∃ (a : Addr) (ss : List Str), xs = [V.ref a] ∧ SqL K H a (ss.map V.str) ∧ ss.length + 1 < scanBound ∧ ∀ p, H p = none → Q (.ref p) (upd H p (SetX P w p ss))
theorem strs_get {H : Hp} : ∀ {ss : List Str} {us : List Value} {i : Nat} {v : Value}, Vals (ss.map V.str) us → us[i]? = some v → ∃ (x : Str) (t : Tok), ss[i]? = some x ∧ v = .str x t
  | [], _, _, _, r, e => by cases r; simp at e
  | x :: ss, _, 0, v, r, e => by
    cases r with
    | cons r1 r2 =>
      obtain ⟨t, rfl⟩ := r1
      simp at e; subst e
      exact ⟨x, t, rfl, rfl⟩
  | x :: ss, _, i + 1, v, r, e => by
    cases r with
    | cons r1 r2 =>
      obtain ⟨y, t, e1, e2⟩ := strs_get (H := H) (i := i) r2 (by simpa using e)
      exact ⟨y, t, by simpa using e1, e2⟩
theorem call_setR (hc : X.calm = true) : CallR X (.type "set") (rSetT X.prog X.w X.K) := by
  intro pins s σ H xs us Q I r h
  obtain ⟨a, ss, rfl, hq, hb, k⟩ := h
  obtain ⟨u, rfl, ru⟩ := vals1 r
  cases ru
  obtain ⟨its, rv, pl, hz⟩ := I.list hq
  have hlen : ss.length = its.toArray.size := by
    have := rv.length
    rw [List.length_map] at this
    simpa using this
  refine call_setT (items := its.toArray) (xs := ss) (I.ok.hd hc) pl.isList hlen (fun i v e => strs_get (H := H) rv (by simpa using e)) (by rw [← hlen]; exact hb) fun h' tk hS hk => ?_
  have fr : H s.heap.objs.size = none := I.fresh
  have hS0 := hS
  obtain ⟨ob, es, ep, t, ho, rest⟩ := hS0
  refine ⟨.ref s.heap.objs.size, upd H s.heap.objs.size (SetX X.prog X.w s.heap.objs.size ss), I.laid (t' := tk) (fun b u q => hk b u (Heap.lt_size q) q) (Nat.le_refl _) ?_, rfl, k _ fr⟩
  refine ⟨hS, ⟨ob, ho⟩, fun h1 h2 q kk => ?_⟩
  obtain ⟨o1, es1, ep1, t1, ho1, rest1⟩ := q
  exact ⟨o1, es1, ep1, t1, kk _ ho1, rest1⟩
def rLenX (P : Program) (w : World) : List V → Hp → VK → Prop := fun xs H Q => ∃ (p : Addr) (ss : List Str), xs = [V.ref p] ∧ H p = some (SetX P w p ss) ∧ Q (.int (uqs [] ss).length) H
theorem call_lenX : CallR X (.builtin "len") (rLenX X.prog X.w) := by
  intro pins s σ H xs us Q I r h
  obtain ⟨p, ss, rfl, hp, q⟩ := h
  obtain ⟨u, rfl, ru⟩ := vals1 r
  cases ru
  obtain ⟨hS, _, _⟩ := I.hok p _ hp
  obtain ⟨ob, es, ep, t, ho, hex, hd, hel, hmem, hb, hf, hn⟩ := hS
  have hb' : es.size < 4096 := hb
  refine call_len_set ho hex hd hf (by omega) ?_
  rw [hn]
  exact ⟨.int _, H, I.tok _, ⟨_, rfl⟩, q⟩
def lenSetD : PyData → Option PyData
  | .list ds => opt (strsOf ds) fun ss => if ss.length + 1 < scanBound then some (.int (uqs [] ss).length) else none
  | _ => none
def fLenSet (f : FE) : FE := fun ρ μ => bnd (f ρ μ) fun d m => fin (lenSetD d) m
theorem de_lenset (hc : X.calm = true) (hl : Gl X "len") (hml : X.mg "len" = none) (hs : Gl X "set") (hms : X.mg "set" = none) (he : DE X e f)
    (h1 : starEach [.Call (.Name "set" p2) [e] [] pos2] X.env = (false, eval (.Call (.Name "set" p2) [e] [] pos2) X.env) :: starEach [] X.env := by rfl) (h2 : starEach [e] X.env = (false, eval e X.env) :: starEach [] X.env := by rfl) :
    DE X (.Call (.Name "len" p) [.Call (.Name "set" p2) [e] [] pos2] [] pos) (fLenSet f) :=
  DE.of (pe_callB (x := "len") call_lenX hl hml (by decide +kernel) (pa_cons (pe_callTy (x := "set") (call_setR hc) hs hms (by decide +kernel) (pa_cons he pa_nil h2) (by decide) (by decide) h2 rfl) pa_nil h1) (by decide) (by decide) h1 rfl) fun L ρ μ d μ' σ H Q E ef k => by
    obtain ⟨d1, m1, e1, ef⟩ := bnd_some ef
    obtain ⟨e2, rfl⟩ := fin_some ef
    refine ⟨L, ρ, μ, d1, _, E, e1, fun v H1 E1 s1 q1 => ?_⟩
    cases d1 with
    | list ds =>
      obtain ⟨ss, e3, e4⟩ := opt_some e2
      split at e4
      · rename_i hb
        cases e4
        obtain ⟨a, xs, rfl, t1, z1⟩ := dp_lst q1
        rw [strsOf_dp z1 e3] at t1
        refine ⟨a, ss, rfl, sqlf t1, hb, fun p hp => ⟨p, ss, rfl, upd_same, ?_⟩⟩
        exact k _ _ (E1.same (same_upd hp)) (s1.trans (Step.of_same (same_upd hp))) (.int _)
      · cases e4
    | _ => cases e2
end
end DL
namespace DL
open PySem PySem.Spec PyProof.Rows L2
variable [Tabs]
section
variable {X : Cx} {st : Stmt} {rest body : List Stmt} {e a b c o tg iter : Expr} {es : List Expr} {pos p apos : Pos} {t u tb : TS} {te ta : TE} {tc : TT} {tA : TA}
def PSt (X : Cx) (st : Stmt) (t : TS) : Prop := ∀ (pins : List (Addr × Obj)) (s : Shared) (σ : L2.St) (H : Hp) (D : Ends), Inv X pins σ H s → 0 < s.toks → t D σ H → wpAny (model X.prog X.w) X.A (exec st X.env) (SP X pins D) X.xe s
def PSst (X : Cx) (sts : List Stmt) (t : TS) : Prop := ∀ (pins : List (Addr × Obj)) (s : Shared) (σ : L2.St) (H : Hp) (D : Ends), Inv X pins σ H s → 0 < s.toks → t D σ H → wpAny (model X.prog X.w) X.A (execs sts X.env) (SP X pins D) X.xe s
end
end DL
namespace DL
open PySem PySem.Spec PyProof.Rows L2
variable [Tabs]
def DSt (X : Cx) (st : Stmt) (F : FS) : Prop := PSt X st (tDS X.K F)
def DSst (X : Cx) (sts : List Stmt) (F : FS) : Prop := PSst X sts (tDS X.K F)
section
variable {X : Cx} {st : Stmt} {rest body : List Stmt} {e a b c o tg iter : Expr} {es : List Expr} {pos p apos : Pos} {f fo : FE} {fs : FA} {tc : FT} {F G : FS}
theorem DSt.of {t : TS} (h : PSt X st t) (imp : ∀ L ρ μ o σ H D, EnvR X.K L H σ ρ μ → F ρ μ = some o → OutOk X.K L H D o → t D σ H) : DSt X st F :=
  fun pins s σ H D I h0 ⟨L, ρ, μ, o, E, ef, k⟩ => h pins s σ H D I h0 (imp L ρ μ o σ H D E ef k)
theorem DSst.of {t : TS} (h : PSst X rest t) (imp : ∀ L ρ μ o σ H D, EnvR X.K L H σ ρ μ → F ρ μ = some o → OutOk X.K L H D o → t D σ H) : DSst X rest F :=
  fun pins s σ H D I h0 ⟨L, ρ, μ, o, E, ef, k⟩ => h pins s σ H D I h0 (imp L ρ μ o σ H D E ef k)
end
end DL
namespace DL
open PySem PySem.Spec PyProof.Rows L2
variable [Tabs]
section
variable {X : Cx} {st : Stmt} {e a b c o tg iter : Expr} {es : List Expr} {pos p apos p2 : Pos} {f fa fb fo : FE} {fs : FA} {tc : FT} {F G : FS}
theorem dv (i : Nat) {x : Str} (hN : X.N[i]? = some x := by rfl) (hv : Vis X.env.scope x := by first | exact Or.inl rfl | exact Or.inr (Or.inl rfl) | exact Or.inr (Or.inr rfl)) (hd : (x == ("__debug__" : Str)) = false := by decide)
    (hcd : (x == ("__classdict__" : Str)) = false := by decide) : DE X (.Name x pos) (fVar i) := de_var hN hv hd hcd
def fNmS (i : Nat) (fl fh : FO) : FE := fun ρ μ => bnd (fl ρ μ) fun lo m => bnd (fh ρ m) fun hi m' => match ρ[i]? with
  | some (.dat d) => fin (slD d lo hi) m'
  | some (.own k) => opt (m'[k]?) fun ds => some (.list (cutD ds lo hi), m')
  | _ => none
def fParO (i j : Nat) (f : FE) (ff : FF) : FS := fun ρ μ => bnd (f ρ μ) fun d m => bnd (ff ρ m) fun ds m' => some (.nx ((ρ.set i (.dat d)).set j (.own m'.length)) (m' ++ [ds]))
end
def Fn (P : Program) (w : World) (K : PySem.W.Frag) (mg : Str → Option Value) (base : Heap) (x : Str) (ps : List Str) (k : Nat) (sp : Sp) : Prop :=
  ∃ (f : Addr) (fd : FuncData), FnOk P w K mg base CX0 k f fd ps sp ∧ Binds K fd ps [] ∧ mg x = some (.ref f) ∧ PySem.W.keepIn K (.ref f) = true
def spF (K : PySem.W.Frag) (m : FF) (n : Nat) : Sp := fun vs H Q _ => ∃ L ρ μ ds μ', vs.length = n ∧ EnvR K L H (vs.map some) ρ μ ∧ m ρ μ = some (ds, μ') ∧ ∀ p xs H', StoreR K L H' μ' → Step L H L H' → H' p = none → DpAll K (Off L H') xs ds → Q (.ref p) (upd H' p (.lst xs))
def LenP (g : FP) (n : Nat) : Prop := ∀ ρ μ sl m', g ρ μ = some (sl, m') → sl.length = n
theorem lp_nil : LenP pNil 0 := fun ρ μ sl m' h => by cases h; rfl
theorem lp_dat {f : FE} {g : FP} {n : Nat} (h : LenP g n) : LenP (pDat f g) (n + 1) := fun ρ μ sl m' e => by
  obtain ⟨d, m, _, e⟩ := bnd_some e
  obtain ⟨r, m2, e2, e⟩ := bnd_some e
  cases e
  simp [h _ _ _ _ e2]
theorem lp_nm {i : Nat} {g : FP} {n : Nat} (h : LenP g n) : LenP (pNm i g) (n + 1) := fun ρ μ sl m' e => by
  unfold pNm at e
  split at e
  · obtain ⟨r, m2, e2, e⟩ := bnd_some e
    cases e
    simp [h _ _ _ _ e2]
  · obtain ⟨r, m2, e2, e⟩ := bnd_some e
    cases e
    simp [h _ _ _ _ e2]
  · cases e
section
variable {X : Cx} {e : Expr} {es : List Expr} {pos p : Pos}
theorem de_callF {k : Nat} {ps : List Str} {m : FE} {x : Str} {g : FP} (F : Fn X.prog X.w X.K X.mg X.base x ps k (spD X.K m ps.length)) (hr : Room k X.A) (hg : Gl X x) (ha : DP X (e :: es) g) (hn : LenP g ps.length)
    (hdb : (x == ("__debug__" : Str)) = false := by decide) (he : starEach (e :: es) X.env = (false, eval e X.env) :: starEach es X.env := by rfl) (hpl : (backTo pos (starEach es X.env)).any (·.1) = false := by rfl) :
    DE X (.Call (.Name x p) (e :: es) [] pos) (fCall m g) := by
  obtain ⟨f, fd, G, hb, hm, hk⟩ := F
  exact de_call G hr hg hm hk hb ha hn hdb he hpl
def fCallN (m : FF) (g : FP) : FF := fun ρ μ => bnd (g ρ μ) fun sl m' => m sl m'
theorem df_callF {k : Nat} {ps : List Str} {m : FF} {x : Str} {g : FP} (F : Fn X.prog X.w X.K X.mg X.base x ps k (spF X.K m ps.length)) (hr : Room k X.A) (hg : Gl X x) (ha : DP X (e :: es) g) (hn : LenP g ps.length)
    (hdb : (x == ("__debug__" : Str)) = false := by decide) (he : starEach (e :: es) X.env = (false, eval e X.env) :: starEach es X.env := by rfl) (hpl : (backTo pos (starEach es X.env)).any (·.1) = false := by rfl) :
    DF X (.Call (.Name x p) (e :: es) [] pos) (fCallN m g) := fun pins s σ H Q I ⟨L, ρ, μ, ds, μ', E, ef, kk⟩ => by
  obtain ⟨f, fd, G, hb, hm, hk⟩ := F
  refine pe_call G hr hg hm hk hb .nil pass0 ha hdb he hpl pins s σ H Q I ?_
  obtain ⟨sl, m1, e1, e2⟩ := bnd_some ef
  refine ⟨L, ρ, μ, sl, m1, E, e1, fun vs H1 E1 s1 q1 => ?_⟩
  show spF X.K m ps.length (vs ++ []) H1 Q E0
  rw [List.append_nil]
  refine ⟨L, sl, m1, ds, μ', ?_, ⟨E1.nd, E1.lk, q1, E1.st⟩, e2, fun p xs H2 st2 s2 hp q2 => kk p xs H2 (E1.step s2 st2) (s1.trans s2) hp q2⟩
  have := pr_len q1
  rw [List.length_map] at this
  rw [this]; exact hn _ _ _ _ e1
end
def defF (n nn : Nat) (f : FF) : FF := fun ρ μ => bnd (f (ρ ++ List.replicate (nn - n) .un) μ) fun ds m => some (ds, m)
theorem env_start {K : PySem.W.Frag} {L : OW} {H : Hp} {vs : List V} {ρ : Rho} {μ : Mu} {N : List Str} {n : Nat} (hn : vs.length = n) (E0 : EnvR K L H (vs.map some) ρ μ) : EnvR K L H (L2.start N vs) (ρ ++ List.replicate (N.length - n) .un) μ := by
  refine ⟨E0.nd, E0.lk, ?_, E0.st⟩
  unfold L2.start
  rw [hn]
  refine pr_app E0.sl ?_
  generalize N.length - n = j
  induction j with
  | zero => exact .nil
  | succ j ih => exact .cons (show SlotR K L H none .un from trivial) ih
theorem fn_new {P : Program} {w : World} {K : PySem.W.Frag} {mg : Str → Option Value} {base : Heap} {x qual : Str} {st : Stmt} {f : Addr} {fd : FuncData} {N ps : List Str} {k : Nat} {ff : FF} {e : Expr} {pos : Pos} (F : Fun K x qual st f fd) (S : FnScope N ps (defScope st)) (hbd : defBody st = [.Return (some e) pos])
    (hb : ∀ (cdv : Value) (A : Around) (outer : List Env) (s : Shared) (H : Hp) (E : XK), Room k (A.deeper (envOfC qual (defScope st) s.heap.objs.size f cdv)) → DF (cxOf CX0 P w K mg base N qual (defScope st) f cdv A outer s H E).nox e ff) :
    FnOk P w K mg base CX0 (k + 1) f fd ps (spF K (defF ps.length N.length ff) ps.length) := by
  refine F.ok S (fun vs H Q E h => ?_) (fun cdv A outer s H vs Q E hr h => ?_)
  · obtain ⟨L, ρ, μ, d, μ', hn, _⟩ := h
    exact hn
  · rw [hbd]
    refine ⟨_, pss_one (ps_ret (hb cdv A outer s H E hr)), ?_⟩
    obtain ⟨L, ρ, μ, ds, μ', hn, E0, ef, kk⟩ := h
    obtain ⟨ds', m, e1, ef⟩ := bnd_some ef
    cases ef
    exact ⟨L, _, μ, ds, _, env_start hn E0, e1, fun p xs H' E' s' hp q => kk p xs H' E'.st s' hp q⟩
theorem lookup_mem {β : Type} : ∀ {l : List (Addr × β)} {p : Addr × β}, (l.map (·.1)).Nodup → p ∈ l → l.lookup p.1 = some p.2
  | [], _, _, h => by cases h
  | q :: r, p, hn, h => by
    rw [List.map_cons, List.nodup_cons] at hn
    rw [List.lookup_cons]
    rcases List.mem_cons.mp h with rfl | h
    · simp
    · have : p.1 ≠ q.1 := fun z => hn.1 (by rw [← z]; exact List.mem_map.mpr ⟨p, h, rfl⟩)
      have e : (p.1 == q.1) = false := by simpa using this
      rw [e]
      exact lookup_mem hn.2 h
theorem law_of {K : PySem.W.Frag} {m : FE} {H : Hp} {a : Addr} {ns : List Int} (h : m [.dat (.list (ns.map PyData.int))] [] = some (.bool true, [])) (hS : SqL K H a (ns.map V.int)) (hT : ∀ p ∈ Tabs.t, TabOk H p.1 p.2) (hn : (Tabs.t.map (·.1)).Nodup) : spD K m 1 [.ref a] H (fun v _ => v = .bl true) fun _ _ _ => False := by
  have hno : ∀ b, (⟨[], Tabs.t.map (·.1), fun b => Tabs.t.lookup b⟩ : OW).has b → ∃ ps, H b = some (.tbl ps) := fun b z => by
    have z : b ∈ ([] : List Addr) ∨ b ∈ Tabs.t.map (·.1) := z
    rcases z with z | z
    · exact absurd z (by simp)
    · obtain ⟨p, hp, rfl⟩ := List.mem_map.mp z
      obtain ⟨ps, e, _⟩ := hT p hp
      exact ⟨ps, e⟩
  have hS' : SqL K (Off ⟨[], Tabs.t.map (·.1), fun b => Tabs.t.lookup b⟩ H) a (ns.map V.int) := by
    rcases hS with (z | ⟨o, z⟩) | z
    · exact .inl (.inl (off_some.mpr ⟨fun y => (by obtain ⟨ps, e⟩ := hno _ y; rw [z] at e; cases e), z⟩))
    · exact .inl (.inr ⟨o, off_some.mpr ⟨fun y => (by obtain ⟨ps, e⟩ := hno _ y; rw [z] at e; cases e), z⟩⟩)
    · exact .inr z
  have hD : Dp K (Off ⟨[], Tabs.t.map (·.1), fun b => Tabs.t.lookup b⟩ H) (.ref a) (.list (ns.map PyData.int)) := by
    refine .lst hS' ?_
    clear hS hS' h
    induction ns with
    | nil => exact .nil
    | cons n r ih => exact .cons (.int n) ih
  have hsl : SlotR K ⟨[], Tabs.t.map (·.1), fun b => Tabs.t.lookup b⟩ H (some (.ref a)) (.dat (.list (ns.map PyData.int))) := ⟨_, rfl, hD⟩
  refine ⟨⟨[], Tabs.t.map (·.1), fun b => Tabs.t.lookup b⟩, _, [], _, [], rfl, ⟨⟨.nil, fun p hp => ⟨List.mem_map.mpr ⟨p, hp, rfl⟩, lookup_mem hn hp⟩⟩, fun l hl => ⟨by simp, .inr ?_⟩, .cons hsl .nil, .nil⟩, h, fun v H' _ _ q => dp_bl q⟩
  obtain ⟨p, hp, rfl⟩ := List.mem_map.mp hl
  exact ⟨p.2, lookup_mem hn hp, hT p hp⟩
end DL
theorem L2.Room.units66 {k : Nat} {A : PySem.Around} (r : L2.Room k A) : A.units + 66 < PySem.cLine := by have := r.un; omega
namespace DL
open PySem PySem.Spec PyProof.Rows L2
variable [Tabs]
section
variable {X : Cx} {pos : Pos} {x : Str} {a : Expr} {fa : FE}
theorem de_cint {i : Int} (h : ∃ t, X.mg x = some (.int i t)) (hg : Gl X x) (hd : (x == ("__debug__" : Str)) = false := by decide) : DE X (.Name x pos) (fC (.int i)) := by
  obtain ⟨t, h⟩ := h
  exact de_glob (v := .int i) hg h ⟨t, rfl⟩ (fun H => .int i) hd
theorem de_cstr {i : Str} (h : ∃ t, X.mg x = some (.str i t)) (hg : Gl X x) (hd : (x == ("__debug__" : Str)) = false := by decide) : DE X (.Name x pos) (fC (.str i)) := by
  obtain ⟨t, h⟩ := h
  exact de_glob (v := .str i) hg h ⟨t, rfl⟩ (fun H => .str i) hd
theorem de_cdat {d : PyData} (h : ∃ u v, X.mg x = some u ∧ RelV v u ∧ ∀ H, Dp X.K H v d) (hg : Gl X x) (hd : (x == ("__debug__" : Str)) = false := by decide) : DE X (.Name x pos) (fC d) := by
  obtain ⟨u, v, h, r, q⟩ := h
  exact de_glob hg h r q hd
end
def Df (K : PySem.W.Frag) (mg : Str → Option Value) (x : Str) (st : Stmt) : Prop :=
  ∃ (f : Addr) (oc : Value) (od : Option Addr) (osl : Array (Option Value)) (kV doc pm : Value) (an : Option Addr) (cdv ct : Value), mg x = some (.ref f) ∧
    K.lookup f = some ⟨oc, od, .func (PySem.W.fnOf x x (defArgs st) (defBody st) (defScope st) .none kV doc pm an cdv ct), osl⟩ ∧ PySem.W.codeIn K cdv x = true ∧ PySem.W.keepIn K (.ref f) = true
theorem df_mk {K : PySem.W.Frag} {h : Heap} {mg : Str → Option Value} {x : Str} {st : Stmt} {f : Addr} {oc : Value} {od an : Option Addr} {osl : Array (Option Value)} {kV doc pm cdv ct : Value} (X : K.In h) (G : h.Ns mainGlobals mg) (a : PySem.W.nsIn K mainGlobals x = some (some (.ref f)))
    (l : K.lookup f = some ⟨oc, od, .func (PySem.W.fnOf x x (defArgs st) (defBody st) (defScope st) .none kV doc pm an cdv ct), osl⟩) (c : PySem.W.codeIn K cdv x = true) (k : PySem.W.keepIn K (.ref f) = true) : Df K mg x st :=
  ⟨f, oc, od, osl, kV, doc, pm, an, cdv, ct, PySem.W.mg_of X G a, l, c, k⟩
end DL
namespace DL
open PySem PySem.Spec PyProof.Rows L2
variable [Tabs]
abbrev allT : Nat → Bool := fun _ => true
def tupS (k : List Str) : PyData := .tuple (k.map PyData.str)
def keyT (k : List Str) : List (Int ⊕ List Nat) := k.map fun x => Sum.inr x.cps.toList
def leT (a b : List Str) : Bool := !PyProof.Rows.lexLt PyProof.Rows.itemOrd (keyT b) (keyT a)
theorem perm_map_inv {α β : Type} {g : α → β} : ∀ {l m : List β}, l.Perm m → ∀ xs : List α, m = xs.map g → ∃ ys : List α, l = ys.map g ∧ ys.Perm xs := by
  intro l m h
  induction h with
  | nil => intro xs e; have : xs = [] := by simpa using e.symm
           subst this; exact ⟨[], rfl, .nil⟩
  | cons x _ ih =>
    intro xs e
    cases xs with
    | nil => simp at e
    | cons b r =>
      simp only [List.map_cons, List.cons.injEq] at e
      obtain ⟨ys, e1, p1⟩ := ih r e.2
      exact ⟨b :: ys, by rw [e.1, e1]; rfl, p1.cons b⟩
  | swap x y t =>
    intro xs e
    cases xs with
    | nil => simp at e
    | cons b r =>
      cases r with
      | nil => simp at e
      | cons c r =>
        simp only [List.map_cons, List.cons.injEq] at e
        exact ⟨c :: b :: r, by rw [e.1, e.2.1, e.2.2]; rfl, .swap b c r⟩
  | trans _ _ ih1 ih2 =>
    intro xs e
    obtain ⟨ys, e1, p1⟩ := ih2 xs e
    obtain ⟨zs, e2, p2⟩ := ih1 ys e1
    exact ⟨zs, e2, p2.trans p1⟩
theorem vals_refs : ∀ {bs : List Addr} {its : List Value}, Vals (bs.map V.ref) its → its = bs.map Value.ref
  | [], _, h => by cases h; rfl
  | b :: r, _, h => by
    cases h with
    | cons h1 h2 => rw [vals_refs h2]; have : _ = Value.ref b := h1; rw [this]; rfl
theorem refs_vals : ∀ (bs : List Addr), Vals (bs.map V.ref) (bs.map Value.ref)
  | [] => .nil
  | b :: r => .cons (show RelV (.ref b) (.ref b) from rfl) (refs_vals r)
theorem items_strs : ∀ {k : List Str} {its : List Value} (i : Nat), Vals (k.map V.str) its → PyProof.Rows.tupItems allT i its = some (keyT k)
  | [], _, _, h => by cases h; rfl
  | x :: r, _, i, h => by
    cases h with
    | cons h1 h2 =>
      obtain ⟨t, rfl⟩ := (h1 : ∃ t, _ = Value.str x t)
      show (if allT i = true then (PyProof.Rows.tupItems allT (i + 1) _).map _ else none) = _
      rw [if_pos rfl, items_strs (i + 1) h2]; rfl
theorem dps_strs_of {K : PySem.W.Frag} {H : Hp} : ∀ {k : List Str} {vs : List V}, DpAll K H vs (k.map PyData.str) → vs = k.map V.str
  | [], _, h => by cases h; rfl
  | x :: r, _, h => by
    cases h with
    | cons h1 h2 => rw [dp_str h1, dps_strs_of h2]; rfl
theorem key_at {X : Cx} {pins : List (Addr × Obj)} {s : Shared} {σ : L2.St} {H : Hp} {b : Addr} {k : List Str} (I : Inv X pins σ H s) (h : Dp X.K H (.ref b) (tupS k)) (hk : k ≠ []) :
    G.tupKeyC s.heap allT (.ref b) = some (keyT k) ∧ ∃ f, TupOf s.heap allT (.ref b) f := by
  obtain ⟨a, vs, e, hs, hd⟩ := dp_tup (show Dp X.K H (.ref b) (.tuple (k.map PyData.str)) from h)
  cases e
  have ev := dps_strs_of hd
  subst ev
  obtain ⟨its, rv, ⟨o, eo, hc, n, hdt⟩, _⟩ := I.tuple hs
  have hi := items_strs 0 rv
  have ek : G.tupKeyC s.heap allT (.ref b) = some (keyT k) := by
    unfold G.tupKeyC
    rw [if_pos (show G.isTupObj s.heap (.ref b) = true by simp [G.isTupObj, eo, hc])]
    simp only [tupKey, eo, hdt]
    exact hi
  refine ⟨ek, ?_⟩
  cases k with
  | nil => exact absurd rfl hk
  | cons x r =>
    cases rv with
    | cons h1 h2 =>
      obtain ⟨t, rfl⟩ := (h1 : ∃ t, _ = Value.str x t)
      exact ⟨Value.str x t, b, o, _, n, rfl, eo, hc, hdt, rfl, fun e => absurd e (by decide), fun _ => ⟨x, t, rfl⟩⟩
end DL
namespace DL
open PySem PySem.Spec PyProof.Rows L2
variable [Tabs]
abbrev ordT : KeyOrd := listOrd itemOrd
theorem leT_def (a b : List Str) : leT a b = !ordT.blt (keyT b) (keyT a) := rfl
theorem keyT_inj {a b : List Str} (h : keyT a = keyT b) : a = b := by
  unfold keyT at h
  induction a generalizing b with
  | nil => cases b with
    | nil => rfl
    | cons _ _ => simp at h
  | cons x r ih =>
    cases b with
    | nil => simp at h
    | cons y t =>
      simp only [List.map_cons, List.cons.injEq, Sum.inr.injEq] at h
      rw [ih h.2, Str.ext' (Array.toList_inj.mp h.1)]
theorem leT_trans {a b c : List Str} (h1 : leT a b = true) (h2 : leT b c = true) : leT a c = true := by
  rw [leT_def, Bool.not_eq_true'] at *
  cases h : ordT.blt (keyT c) (keyT a) with
  | false => rfl
  | true =>
    rcases ordT.negTrans _ (keyT b) _ h with z | z
    · rw [h2] at z; cases z
    · rw [h1] at z; cases z
theorem leT_anti {a b : List Str} (h1 : leT a b = true) (h2 : leT b a = true) : a = b := by
  rw [leT_def, Bool.not_eq_true'] at *
  exact keyT_inj (ordT.total _ _ h2 h1)
theorem leT_tot {a b : List Str} (h : leT a b = false) : leT b a = true := by
  rw [leT_def] at *
  have h' : ordT.blt (keyT b) (keyT a) = true := by simpa using h
  cases z : ordT.blt (keyT a) (keyT b) with
  | false => rfl
  | true => have := ordT.trans _ _ _ h' z; rw [ordT.irrefl] at this; cases this
def insT (a : List Str) : List (List Str) → List (List Str)
  | [] => [a]
  | b :: r => if leT a b then a :: b :: r else b :: insT a r
def sortT : List (List Str) → List (List Str)
  | [] => []
  | a :: r => insT a (sortT r)
theorem ins_perm (a : List Str) : ∀ l, (insT a l).Perm (a :: l)
  | [] => .refl _
  | b :: r => by
    unfold insT
    split
    · exact .refl _
    · exact ((ins_perm a r).cons b).trans (.swap a b r)
theorem sort_perm : ∀ l, (sortT l).Perm l
  | [] => .nil
  | a :: r => (ins_perm a (sortT r)).trans ((sort_perm r).cons a)
theorem ins_pw (a : List Str) : ∀ l : List (List Str), l.Pairwise (fun x y => leT x y = true) → (insT a l).Pairwise (fun x y => leT x y = true)
  | [], _ => by simp [insT]
  | b :: r, h => by
    rw [List.pairwise_cons] at h
    unfold insT
    split
    · rename_i hab
      rw [List.pairwise_cons, List.pairwise_cons]
      refine ⟨fun x hx => ?_, h⟩
      rcases List.mem_cons.mp hx with rfl | hx
      · exact hab
      · exact leT_trans hab (h.1 x hx)
    · rename_i hab
      rw [List.pairwise_cons]
      refine ⟨fun x hx => ?_, ins_pw a r h.2⟩
      rcases List.mem_cons.mp ((ins_perm a r).mem_iff.mp hx) with rfl | hx
      · exact leT_tot (by simpa using hab)
      · exact h.1 x hx
theorem sort_pw : ∀ l, (sortT l).Pairwise (fun x y => leT x y = true)
  | [] => .nil
  | a :: r => ins_pw a _ (sort_pw r)
theorem leT_refl (a : List Str) : leT a a = true := by rw [leT_def, ordT.irrefl]; rfl
theorem uniqT : ∀ l m : List (List Str), l.Perm m → l.Pairwise (fun x y => leT x y = true) → m.Pairwise (fun x y => leT x y = true) → l = m
  | [], m, h, _, _ => by rw [List.nil_perm] at h; exact h.symm
  | a :: r, [], h, _, _ => by have := h.length_eq; simp at this
  | a :: r, b :: t, h, h1, h2 => by
    rw [List.pairwise_cons] at h1 h2
    have e : a = b := by
      have hab : leT a b = true := by
        rcases List.mem_cons.mp (h.mem_iff.mpr (List.mem_cons_self : b ∈ b :: t)) with rfl | hb
        · exact leT_refl _
        · exact h1.1 b hb
      have hba : leT b a = true := by
        rcases List.mem_cons.mp (h.mem_iff.mp (List.mem_cons_self : a ∈ a :: r)) with rfl | ha
        · exact leT_refl _
        · exact h2.1 a ha
      exact leT_anti hab hba
    subst e
    rw [uniqT r t h.cons_inv h1.2 h2.2]
def tupsOf : List PyData → Option (List (List Str))
  | [] => some []
  | .tuple es :: r => opt (strsOf es) fun k => if k = [] then none else opt (tupsOf r) fun ks => some (k :: ks)
  | _ :: _ => none
theorem strsOf_eq : ∀ {es : List PyData} {k : List Str}, strsOf es = some k → es = k.map PyData.str
  | [], k, h => by cases h; rfl
  | .str b :: r, k, h => by
    obtain ⟨bs, e, h⟩ := opt_some (show opt (strsOf r) _ = some k from h)
    cases h
    rw [strsOf_eq e]; rfl
  | .none :: _, _, h => by cases h
  | .bool _ :: _, _, h => by cases h
  | .int _ :: _, _, h => by cases h
  | .list _ :: _, _, h => by cases h
  | .tuple _ :: _, _, h => by cases h
  | .dict _ :: _, _, h => by cases h
theorem tupsOf_map : ∀ {kss : List (List Str)}, (∀ k ∈ kss, k ≠ []) → tupsOf (kss.map tupS) = some kss
  | [], _ => rfl
  | k :: r, h => by
    show opt (strsOf (k.map PyData.str)) _ = _
    rw [strsOf_map]
    show (if k = [] then none else opt (tupsOf (r.map tupS)) _) = _
    rw [if_neg (h k (by simp)), tupsOf_map fun x hx => h x (by simp [hx])]; rfl
theorem tups_ps {K : PySem.W.Frag} {H : Hp} : ∀ {ds : List PyData} {xs : List V} {kss : List (List Str)}, DpAll K H xs ds → tupsOf ds = some kss → ∃ ps : List (Addr × List Str), xs = (ps.map (·.1)).map V.ref ∧ ps.map (·.2) = kss ∧ ∀ p ∈ ps, Dp K H (.ref p.1) (tupS p.2) ∧ p.2 ≠ []
  | [], _, _, h, e => by cases e; cases h; exact ⟨[], rfl, rfl, by simp⟩
  | .tuple es :: r, _, _, h, e => by
    obtain ⟨k, e1, e⟩ := opt_some (show opt (strsOf es) _ = _ from e)
    split at e
    · cases e
    · rename_i hk
      obtain ⟨ks, e2, e⟩ := opt_some e
      cases e
      cases h with
      | cons h1 h2 =>
        obtain ⟨ps, a1, a2, a3⟩ := tups_ps h2 e2
        have h1' := h1
        obtain ⟨b, vs, rfl, _, _⟩ := dp_tup h1
        rw [strsOf_eq e1] at h1'
        refine ⟨(b, k) :: ps, by rw [a1]; rfl, by rw [← a2]; rfl, fun p hp => ?_⟩
        rcases List.mem_cons.mp hp with rfl | hp
        · exact ⟨h1', hk⟩
        · exact a3 p hp
  | .none :: _, _, _, _, e => by cases e
  | .bool _ :: _, _, _, _, e => by cases e
  | .int _ :: _, _, _, _, e => by cases e
  | .str _ :: _, _, _, _, e => by cases e
  | .list _ :: _, _, _, _, e => by cases e
  | .dict _ :: _, _, _, _, e => by cases e
theorem ps_dps {K : PySem.W.Frag} {H : Hp} : ∀ {ps : List (Addr × List Str)}, (∀ p ∈ ps, Dp K H (.ref p.1) (tupS p.2)) → DpAll K H ((ps.map (·.1)).map V.ref) ((ps.map (·.2)).map tupS)
  | [], _ => .nil
  | p :: r, h => .cons (h p (by simp)) (ps_dps fun q hq => h q (by simp [hq]))
end DL
namespace DL
open PySem PySem.Spec PyProof.Rows L2
variable [Tabs]
end DL
namespace L2
open PySem PySem.Spec PyProof.Rows
theorem pe_callL {X : Cx} {CX : CXT} {k i : Nat} {f : Addr} {fd : FuncData} {ps : List Str} {sp : Sp} {ds : List Value} {dvs : List V} {E : XK} {e : Expr} {es : List Expr} {t : TA} {y : Str} {p pos : Pos} (F : FnOk X.prog X.w X.K X.mg X.base CX k f fd ps sp) (hr : Room k X.A) (hN : X.N[i]? = some y) (hv : Vis X.env.scope y) (hk : PySem.W.keepIn X.K (.ref f) = true) (hb : Binds X.K fd ps ds) (hd : Vals dvs ds) (hx : Passes CX X E)
    (ha : PA X (e :: es) t) (hdb : (y == ("__debug__" : Str)) = false := by decide) (hcd : (y == ("__classdict__" : Str)) = false := by decide) (he : starEach (e :: es) X.env = (false, eval e X.env) :: starEach es X.env := by rfl) (hpl : (backTo pos (starEach es X.env)).any (·.1) = false := by rfl) :
    PE X (.Call (.Name y p) (e :: es) [] pos) (fun σ H Q => σ[i]? = some (some (.ref f)) ∧ tCall sp dvs E t σ H Q) := by
  intro pins s σ H Q I h
  obtain ⟨hσ, h⟩ := h
  obtain ⟨m, hn, hl⟩ := I.loc
  obtain ⟨u, r, l⟩ := hl i y (.ref f) hN hσ hv
  obtain rfl : u = Value.ref f := r
  have fin := PySem.W.callWith_K (pos := pos) (first := []) (h₀ := X.base) I.ok.mod.kin hk (thn (ha pos pins s σ H _ I h) fun us s1 ⟨vs, H1, I1, r, q⟩ => ⟨I1.kIn, run_fn F hr hb hd hx I1 r q⟩) he hpl
  refine wpAny_Call_Name_kw ?_
  rcases l with ⟨hk', hm⟩ | ⟨hk', c, hc, hcell⟩
  · exact wpAny_Name (wpAny_loadName_local I.ok.kind hk' hn hm fin) hdb
  · rcases hk' with hk' | hk'
    · exact wpAny_Name (wpAny_loadName_cell I.ok.kind hk' hc hcell fin) hdb
    · exact wpAny_Name (wpAny_loadName_free I.ok.kind hk' hc hcell fin hcd) hdb
end L2
namespace DL
open PySem PySem.Spec PyProof.Rows L2
variable [Tabs]
def Gf (K : PySem.W.Frag) (mg : Str → Option Value) (x : Str) : Prop := ∃ f : Addr, mg x = some (.ref f) ∧ PySem.W.nsIn K mainGlobals x = some (some (.ref f))
section
variable {X : Cx} {pos p : Pos} {e : Expr} {es : List Expr}
def pFn (x : Str) (g : FP) : FP := fun ρ μ => bnd (g ρ μ) fun r m' => some (.fn x :: r, m')
theorem dp_fn {x : Str} {g : FP} (h : Gf X.K X.mg x) (hg : Gl X x) (hr : DP X es g) (hd : (x == ("__debug__" : Str)) = false := by decide)
    (hs : starEach (.Name x p :: es) X.env = (false, eval (.Name x p) X.env) :: starEach es X.env := by rfl) : DP X (.Name x p :: es) (pFn x g) := by
  obtain ⟨f, hm, hn⟩ := h
  exact DP.of (pa_cons (pe_glob (v := .ref f) hg hm rfl hd) hr hs) fun L ρ μ d μ' σ H Q E ef k => by
    obtain ⟨r, m, e1, ef⟩ := bnd_some ef
    cases ef
    exact ⟨L, ρ, μ, r, _, E, e1, fun vs H1 E1 s1 q1 => k (_ :: vs) H1 E1 s1 (.cons ⟨f, rfl, hn⟩ q1)⟩
theorem lp_fn {x : Str} {g : FP} {n : Nat} (h : LenP g n) : LenP (pFn x g) (n + 1) := fun ρ μ sl m' e => by
  obtain ⟨r, m, e1, e⟩ := bnd_some e
  cases e
  show _ = n + 1
  rw [← h _ _ _ _ e1]; rfl
def fCallL (x : Str) (i : Nat) (m : FE) (g : FP) : FE := fun ρ μ => match ρ[i]? with
  | some (.fn z) => if z = x then fCall m g ρ μ else none
  | _ => none
theorem de_callL {k i : Nat} {ps : List Str} {m : FE} {x y : Str} {g : FP} (F : Fn X.prog X.w X.K X.mg X.base x ps k (spD X.K m ps.length)) (h : Gf X.K X.mg x) (hr : Room k X.A) (hN : X.N[i]? = some y) (hv : Vis X.env.scope y) (ha : DP X (e :: es) g) (hn : LenP g ps.length)
    (hdb : (y == ("__debug__" : Str)) = false := by decide) (hcd : (y == ("__classdict__" : Str)) = false := by decide) (he : starEach (e :: es) X.env = (false, eval e X.env) :: starEach es X.env := by rfl) (hpl : (backTo pos (starEach es X.env)).any (·.1) = false := by rfl) :
    DE X (.Call (.Name y p) (e :: es) [] pos) (fCallL x i m g) := by
  obtain ⟨f, fd, G, hb, hm, hk⟩ := F
  obtain ⟨f', hm', hn'⟩ := h
  obtain rfl : f' = f := by rw [hm] at hm'; cases hm'; rfl
  exact DE.of (pe_callL G hr hN hv hk hb .nil pass0 ha hdb hcd he hpl) fun L ρ μ d μ' σ H Q E ef kk => by
    unfold fCallL at ef
    split at ef
    · rename_i z er
      split at ef
      · rename_i hz
        subst hz
        obtain ⟨ov, eo, f2, e2, n2⟩ := pr_get E.sl er
        rw [hn'] at n2
        cases n2
        subst e2
        refine ⟨eo, ?_⟩
        obtain ⟨sl, m1, e1, e2⟩ := bnd_some ef
        refine ⟨L, ρ, μ, sl, m1, E, e1, fun vs H1 E1 s1 q1 => ?_⟩
        show spD X.K m ps.length (vs ++ []) H1 Q E0
        rw [List.append_nil]
        refine ⟨L, sl, m1, d, μ', ?_, ⟨E1.nd, E1.lk, q1, E1.st⟩, e2, fun v H2 st2 s2 q2 => kk v H2 (E1.step s2 st2) (s1.trans s2) q2⟩
        have := pr_len q1
        rw [List.length_map] at this
        rw [this]; exact hn _ _ _ _ e1
      · cases ef
    · cases ef
end
end DL
namespace ST
open PySem PySem.W PyProof.Rows
def Ok {α : Type} (o : Nat → Nat → Bool) (n : Nat) : KasT α → (α → Prop) → Prop
  | .ret a, P => P a
  | .ask i j k, P => i < n ∧ j < n ∧ Ok o n (k (o i j)) P
section
variable {o : Nat → Nat → Bool} {n : Nat}
abbrev g (p : Array Nat) (i : Nat) : Nat := p.getD i 0
theorem g_eq (p : Array Nat) (i : Nat) : g p i = (p[i]?).getD 0 := Array.getD_eq_getD_getElem? ..
def Pm (n : Nat) (p : Array Nat) : Prop := p.Perm (List.toArray (List.range n))
theorem Pm.sz {p : Array Nat} (h : Pm n p) : p.size = n := by have := h.size_eq; simpa using this
theorem Pm.tl {p : Array Nat} (h : Pm n p) : p.toList.Perm (List.range n) := Array.perm_iff_toList_perm.mp h
theorem g_tl {p : Array Nat} {i : Nat} (hi : i < p.toList.length) : g p i = p.toList[i] := by
  rw [g_eq, ← Array.getElem?_toList, List.getElem?_eq_getElem hi]; rfl
theorem Pm.lt {p : Array Nat} (h : Pm n p) (i : Nat) (hi : i < n) : g p i < n := by
  have hl : i < p.toList.length := by rw [Array.length_toList, h.sz]; exact hi
  rw [g_tl hl]
  exact List.mem_range.mp (h.tl.mem_iff.mp (List.getElem_mem hl))
theorem Pm.inj {p : Array Nat} (h : Pm n p) (i j : Nat) (hi : i < n) (hj : j < n) (e : g p i = g p j) : i = j := by
  have hl : i < p.toList.length := by rw [Array.length_toList, h.sz]; exact hi
  have hk : j < p.toList.length := by rw [Array.length_toList, h.sz]; exact hj
  rw [g_tl hl, g_tl hk] at e
  have nd : p.toList.Nodup := h.tl.nodup_iff.mpr List.nodup_range
  exact (List.getElem_inj nd).mp e
end
end ST
namespace ST
open PySem PySem.W PySem.Calls PyProof.Rows
end ST
namespace DL
open PySem PySem.Spec PyProof.Rows L2
variable [Tabs]
abbrev LP := List Int × Int
def TPk (h : Heap) (v : Value) (k : LP) : Prop :=
  ∃ (b : Addr) (o : Obj) (n : Nat) (la : Addr) (tk : Tok) (dl : Option Addr) (xs : Array Value) (nl : Nat) (sl : Array (Option Value)) (as : List Addr), v = .ref b ∧ h.get? b = some o ∧ o.cls = .type "tuple" ∧ o.data = .seq #[.ref la, .int k.2 tk] n ∧
    h.get? la = some { cls := .type "list", dict := dl, data := .seq xs nl, slots := sl } ∧ IntsAre xs.toList k.1 ∧ Reads h (.ref la) (.list (k.1.map PyData.int)) as
theorem TPk.keep {h h' : Heap} {v : Value} {k : LP} (hk : ∀ b o, h.get? b = some o → h'.get? b = some o) (p : TPk h v k) : TPk h' v k := by
  obtain ⟨b, o, n, la, tk, dl, xs, nl, sl, as, e, h1, h2, h3, h4, h5, h6⟩ := p
  exact ⟨b, o, n, la, tk, dl, xs, nl, sl, as, e, hk _ _ h1, h2, h3, hk _ _ h4, h5, PyProof.Rows.Reads.keeps hk h6⟩
end DL
namespace DL
open PySem PySem.Spec PyProof.Rows L2
variable [Tabs]
end DL
namespace L2
open PySem PySem.Spec PyProof.Rows
end L2
namespace DL
open PySem PySem.Spec PyProof.Rows L2
variable [Tabs]
end DL
namespace ZT
open PySem PyProof.Rows
section
variable {prog : Program} {w : World} {A : Around} {E : Value → Shared → Prop} {s : Shared}
theorem next_tup {u t : Addr} {i : Nat} {ys : Array Value} {x : Value} {Q : Value → Shared → Prop} (q : IsTupIter s.heap u t i) (qt : IsTup s.heap t ys) (qx : ys[i]? = some x)
    (k : ∀ g, IsTupIter g u t (i + 1) → Heap.SameBut u s.heap g → Q x { s with heap := g }) : wpAny (model prog w) A (Builtin.SmallTypes.nextOf (.ref u)) Q E s := by
  obtain ⟨o, eo, ec, ed⟩ := id q
  obtain ⟨p, ep, _, n, en⟩ := qt
  unfold Builtin.SmallTypes.nextOf
  refine wpAny_bind (wpAny_callSpecial?_slot (name := Str.ofString "__next__") q.typeIs slot_tupleiter_next (wpAny_call_entry slot_tupleiter_next q.typeIs entry_tupleiter_next ?_ (args_tupleiter_next _)))
  show wpAny _ _ (field (.ref u) 0 >>= _) _ _ s
  refine wpAny_bind (wpAny_field eo ed (x := .ref t) rfl ?_)
  show wpAny _ _ (ite ((Value.ref t == Value.none) = true) _ _) _ _ s
  rw [if_neg (fun z : (Value.ref t == Value.none) = true => Bool.false_ne_true z)]
  show wpAny _ _ (field (.ref u) 1 >>= _) _ _ s
  refine wpAny_bind (wpAny_field eo ed (x := .int i 0) rfl ?_)
  show wpAny _ _ (seqItems? (.ref t) >>= _) _ _ s
  refine wpAny_bind (wpAny_seqItems ep en ?_)
  simp only [Int.toNat_natCast, qx]
  refine wpAny_bind (wpAny_setField eo ed (by simp) (wpAny_pure ⟨x, rfl, wpAny_pure (k _ ⟨_, Heap.get?_update_self _ eo (Obj.isFreed_of_fields (Obj.data_mapFields ed _)), (Obj.cls_mapFields ..).trans ec, ?_⟩ (Heap.SameBut.update ..))⟩))
  rw [Obj.data_mapFields ed]; simp [rawInt]
theorem next_tup_end {u t : Addr} {i : Nat} {ys : Array Value} {Q : Value → Shared → Prop} (hh : A.handled = none) (q : IsTupIter s.heap u t i) (qt : IsTup s.heap t ys) (qx : ys[i]? = none)
    (k : ∀ g e, Heap.ExtBut u s.heap g → (∃ o, g.get? e = some o ∧ o.cls = .type "StopIteration") → E (.ref e) { s with heap := g }) : wpAny (model prog w) A (Builtin.SmallTypes.nextOf (.ref u)) Q E s := by
  obtain ⟨o, eo, ec, ed⟩ := id q
  obtain ⟨p, ep, _, n, en⟩ := qt
  unfold Builtin.SmallTypes.nextOf
  refine wpAny_bind (wpAny_callSpecial?_slot (name := Str.ofString "__next__") q.typeIs slot_tupleiter_next (wpAny_call_entry slot_tupleiter_next q.typeIs entry_tupleiter_next ?_ (args_tupleiter_next _)))
  show wpAny _ _ (field (.ref u) 0 >>= _) _ _ s
  refine wpAny_bind (wpAny_field eo ed (x := .ref t) rfl ?_)
  show wpAny _ _ (ite ((Value.ref t == Value.none) = true) _ _) _ _ s
  rw [if_neg (fun z : (Value.ref t == Value.none) = true => Bool.false_ne_true z)]
  show wpAny _ _ (field (.ref u) 1 >>= _) _ _ s
  refine wpAny_bind (wpAny_field eo ed (x := .int i 0) rfl ?_)
  show wpAny _ _ (seqItems? (.ref t) >>= _) _ _ s
  refine wpAny_bind (wpAny_seqItems ep en ?_)
  simp only [Int.toNat_natCast, qx]
  refine wpAny_bind (wpAny_rule (wpAny_bind (wpAny_setField eo ed (by simp) ?_)))
  show wpAny _ _ (newExc (.type "StopIteration") [] >>= _) _ _ { s with heap := _ }
  refine wpAny_bind (Q := _) ?_
  simp only [newExc, newTuple]
  refine wpAny_bind (wpAny_newObj_type (wpAny_bind (m := firstArgMember _ _) (wpAny_of_eq (a := Value.none) (by first | rfl | (simp only [firstArgMember]; rfl)) (wpAny_newObj_type ?_ (by size_fits)))) (by size_fits))
  simp only [raiseNew]; refine wpAny_bind (wpAny_handled ?_)
  first | rw [show A.in1.handled = none from hh] | rw [show A.handled = none from hh]
  exact wpAny_bind (wpAny_pure (wpAny_throw (k _ _ (((Heap.SameBut.update ..).extBut.push _).push _) ⟨_, Heap.get?_push_size _ rfl, rfl⟩)))
end
end ZT
namespace ZT
open PySem PyProof.Rows
theorem tupIter_at {h g : Heap} {u t : Addr} {i : Nat} (x : IsTupIter h u t i) (e : ∀ o, h.get? u = some o → g.get? u = some o) : IsTupIter g u t i := let ⟨o, ho, r⟩ := x; ⟨o, e _ ho, r⟩
theorem tup_at {h g : Heap} {t : Addr} {ys : Array Value} (x : IsTup h t ys) (e : ∀ o, h.get? t = some o → g.get? t = some o) : IsTup g t ys := let ⟨o, ho, r⟩ := x; ⟨o, e _ ho, r⟩
end ZT
namespace ZT
open PySem PyProof.Rows
abbrev g1 (h : Heap) (t : Addr) : Heap := h.push { cls := .type "tuple_iterator", data := .fields #[.ref t, .int 0 0] }
abbrev g2 (h : Heap) (t l : Addr) : Heap := (g1 h t).push { cls := .type "list_iterator", data := .fields #[.ref l, .int 0 0] }
abbrev g3 (h : Heap) (t l : Addr) : Heap := (g2 h t l).push { cls := .type "tuple", data := .seq #[.ref h.objs.size, .ref (g1 h t).objs.size] }
abbrev g4 (h : Heap) (t l : Addr) : Heap := (g3 h t l).push { cls := .type "tuple", data := .seq #[.none, .none] }
abbrev g5 (h : Heap) (t l : Addr) : Heap := (g4 h t l).push { cls := .type "zip", data := .fields #[.none, .bool false, .bool false, .ref (g2 h t l).objs.size, .ref (g3 h t l).objs.size] }
end ZT
namespace L2
open PySem PySem.Spec PyProof.Rows
end L2
namespace DL
open PySem PySem.Spec PyProof.Rows L2
variable [Tabs]
end DL
namespace DL
open PySem PySem.Spec PyProof.Rows L2
variable [Tabs]
end DL
namespace ZT
open PySem PyProof.Rows
end ZT
namespace ZT
open PySem PyProof.Rows
end ZT
namespace L2
open PySem PySem.Spec PyProof.Rows
end L2
namespace DL
open PySem PySem.Spec PyProof.Rows L2
variable [Tabs]
end DL
namespace ZT
open PySem PyProof.Rows
section
variable {prog : Program} {w : World} {A : Around} {E : Value → Shared → Prop} {s : Shared} {z P R u v t l : Addr} {i : Nat} {xs ys : Array Value} {x y a b : Value}
theorem zip_itemP {Q : Value → Shared → Prop} (D : ZipApart z P R u v t l) (hz : IsZip s.heap z P R .none) (hP : IsPair s.heap P (.ref u) (.ref v)) (hR : IsPair s.heap R a b)
    (qu : IsTupIter s.heap u t i) (qv : IsTupIter s.heap v l i) (qt : IsTup s.heap t xs) (ql : IsTup s.heap l ys) (qx : xs[i]? = some x) (qy : ys[i]? = some y)
    (k : ∀ g, IsZip g z P R (rawInt s.heap.objs.size) → IsPair g R x y → IsTupIter g u t (i + 1) → IsTupIter g v l (i + 1) → IsPair g s.heap.objs.size x y →
      (∀ c o, c ≠ z → c ≠ R → c ≠ u → c ≠ v → s.heap.get? c = some o → g.get? c = some o) → Q (.ref s.heap.objs.size) { s with heap := g }) :
    wpAny (model prog w) A (Builtin.«zip.__next__» ⟨[.ref z], []⟩) (fun f s' => ∃ r, f = .done (.ret r) ∧ Q r s') E s := by
  show wpAny _ _ (field (.ref z) 2 >>= _) _ E s
  refine wpAny_bind (wpAny_field hz rfl (x := Value.bool false) rfl ?_)
  show wpAny _ _ (field (.ref z) 3 >>= _) _ E s
  refine wpAny_bind (wpAny_field hz rfl (x := Value.ref P) rfl (wpAny_bind (wpAny_seqItems hP rfl ?_)))
  show wpAny _ _ (Builtin.SmallTypes.ownedTupleIsFree (.ref z) >>= _) _ E s
  refine wpAny_bind (Q := _) ?_
  unfold Builtin.SmallTypes.ownedTupleIsFree
  refine wpAny_bind (wpAny_field hz rfl (x := Value.none) rfl (wpAny_pure ?_))
  simp only [if_true]
  refine wpAny_bind (wpAny_rule (wpAny_bind (wpAny_field hz rfl (x := Value.ref R) rfl (wpAny_bind (wpAny_setField_rec hz (by simp) fun g1 z1 e1 => ?_)))))
  replace z1 : IsZip g1 z P R .ellipsis := z1
  refine wpAny_bind (Q := _) ?_
  simp only [List.zipIdx_cons, List.zipIdx_nil, List.forIn_cons, List.forIn_nil]; refine wpAny_bind (wpAny_bind (wpAny_onRaise (Q := _) ?_))
  show wpAny _ _ (Builtin.SmallTypes.nextOf (.ref u) >>= _) _ _ { s with heap := g1 }
  refine wpAny_bind (next_tup (qu.extBut e1.extBut D.i1z) (tup_at qt fun o e => e1.extBut _ o D.l1z e) qx fun g2 u2 e2 => wpAny_pure ?_)
  have R2 : IsPair g2 R a b := e2.extBut _ _ D.TOi1 (e1.extBut _ _ D.TOz hR)
  refine wpAny_bind (wpAny_seqItems R2 rfl (wpAny_bind (wpAny_updateSeq_pair R2 fun g3 R3 e3 => ?_)))
  replace R3 : IsPair g3 R x b := R3
  refine wpAny_bind (wpAny_letGo (wpAny_pure (wpAny_bind (wpAny_bind (wpAny_onRaise (Q := _) ?_)))))
  show wpAny _ _ (Builtin.SmallTypes.nextOf (.ref v) >>= _) _ _ { s with heap := g3 }
  have v3 : IsTupIter g3 v l i := ((qv.extBut e1.extBut D.i2z).extBut e2.extBut D.i12.symm).extBut e3.extBut D.TOi2.symm
  have l3 : IsTup g3 l ys := tup_at (tup_at (tup_at ql fun o e => e1.extBut _ o D.l2z e) fun o e => e2.extBut _ o D.l2i1 e) fun o e => e3.extBut _ o D.l2TO e
  refine wpAny_bind (next_tup v3 l3 qy fun g4 v4 e4 => wpAny_pure ?_)
  have R4 : IsPair g4 R x b := e4.extBut _ _ D.TOi2 R3
  refine wpAny_bind (wpAny_seqItems R4 rfl (wpAny_bind (wpAny_updateSeq_pair R4 fun g5 R5 e5 => ?_)))
  replace R5 : IsPair g5 R x y := R5
  refine wpAny_bind (wpAny_letGo (wpAny_pure (wpAny_pure (wpAny_bind (wpAny_seqItems R5 rfl (wpAny_bind (wpAny_newTuple ?_)))))))
  have sz : g5.objs.size = s.heap.objs.size := by rw [e5.1, e4.1, e3.1, e2.1, e1.1]
  have z5 : IsZip g5 z P R .ellipsis := e5.extBut _ _ D.TOz.symm (e4.extBut _ _ D.i2z.symm (e3.extBut _ _ D.TOz.symm (e2.extBut _ _ D.i1z.symm z1)))
  have k5 : ∀ c o, c ≠ z → c ≠ R → c ≠ u → c ≠ v → s.heap.get? c = some o → g5.get? c = some o := fun c o c1 c2 c3 c4 e =>
    e5.extBut _ _ c2 (e4.extBut _ _ c4 (e3.extBut _ _ c2 (e2.extBut _ _ c3 (e1.extBut _ _ c1 e))))
  have u5 : IsTupIter g5 u t (i + 1) := ((u2.extBut e3.extBut D.TOi1.symm).extBut e4.extBut D.i12).extBut e5.extBut D.TOi1.symm
  have v5 : IsTupIter g5 v l (i + 1) := v4.extBut e5.extBut D.TOi2.symm
  have zl : z < g5.objs.size := Heap.lt_size z5
  show wpAny _ _ (Builtin.SmallTypes.ownedTupleHandOut (.ref z) (.ref g5.objs.size) >>= _) _ E _
  refine wpAny_bind (Q := _) ?_
  unfold Builtin.SmallTypes.ownedTupleHandOut
  have z6 : IsZip (g5.push { cls := .type "tuple", data := .seq #[x, y] }) z P R .ellipsis := Heap.get?_push_of_some _ z5
  refine wpAny_bind (wpAny_setField_rec z6 (by simp) fun g7 z7 e7 => ?_)
  replace z7 : IsZip g7 z P R (rawInt g5.objs.size) := z7
  refine wpAny_setField_rec z7 (by simp) fun g8 z8 e8 => ?_
  replace z8 : IsZip g8 z P R (rawInt g5.objs.size) := z8
  have up : ∀ c o, c ≠ z → g5.get? c = some o → g8.get? c = some o := fun c o c1 e => e8.extBut _ _ c1 (e7.extBut _ _ c1 (Heap.get?_push_of_some _ e))
  have T8 : IsPair g8 g5.objs.size x y := e8.extBut _ _ (Nat.ne_of_gt zl) (e7.extBut _ _ (Nat.ne_of_gt zl) (Heap.get?_push_size _ rfl))
  rw [sz] at z8 T8
  refine wpAny_pure ⟨.ref g5.objs.size, rfl, ?_⟩
  rw [sz]
  exact k g8 z8 (up _ _ D.TOz R5) (tupIter_at u5 fun o e => up _ o D.i1z e) (tupIter_at v5 fun o e => up _ o D.i2z e) T8 fun c o c1 c2 c3 c4 e => up c o c1 (k5 c o c1 c2 c3 c4 e)
theorem zip_endP {Q : Fin → Shared → Prop} (hh : A.handled = none) (D : ZipApart z P R u v t l) (hz : IsZip s.heap z P R .none) (hP : IsPair s.heap P (.ref u) (.ref v))
    (qu : IsTupIter s.heap u t i) (qt : IsTup s.heap t xs) (qx : xs[i]? = none)
    (k : ∀ g e, (∀ c o, c ≠ z → c ≠ R → c ≠ u → c ≠ v → s.heap.get? c = some o → g.get? c = some o) → (∃ o, g.get? e = some o ∧ o.cls = .type "StopIteration") → E (.ref e) { s with heap := g }) :
    wpAny (model prog w) A (Builtin.«zip.__next__» ⟨[.ref z], []⟩) Q E s := by
  show wpAny _ _ (field (.ref z) 2 >>= _) _ E s
  refine wpAny_bind (wpAny_field hz rfl (x := Value.bool false) rfl ?_)
  show wpAny _ _ (field (.ref z) 3 >>= _) _ E s
  refine wpAny_bind (wpAny_field hz rfl (x := Value.ref P) rfl (wpAny_bind (wpAny_seqItems hP rfl ?_)))
  show wpAny _ _ (Builtin.SmallTypes.ownedTupleIsFree (.ref z) >>= _) _ E s
  refine wpAny_bind (Q := _) ?_
  unfold Builtin.SmallTypes.ownedTupleIsFree
  refine wpAny_bind (wpAny_field hz rfl (x := Value.none) rfl (wpAny_pure ?_))
  simp only [if_true]
  refine wpAny_bind (wpAny_rule (wpAny_bind (wpAny_field hz rfl (x := Value.ref R) rfl (wpAny_bind (wpAny_setField_rec hz (by simp) fun g1 z1 e1 => ?_)))))
  replace z1 : IsZip g1 z P R .ellipsis := z1
  refine wpAny_bind (Q := _) ?_
  simp only [List.zipIdx_cons, List.zipIdx_nil, List.forIn_cons, List.forIn_nil]; refine wpAny_bind (wpAny_bind (wpAny_onRaise (Q := _) ?_))
  show wpAny _ _ (Builtin.SmallTypes.nextOf (.ref u) >>= _) _ _ { s with heap := g1 }
  refine wpAny_bind (next_tup_end hh (qu.extBut e1.extBut D.i1z) (tup_at qt fun o e => e1.extBut _ o D.l1z e) qx fun g2 e e2 he => ?_)
  obtain ⟨oe, eo, ec⟩ := he
  have z2 : IsZip g2 z P R .ellipsis := e2 _ _ D.i1z.symm z1
  have ne : e ≠ z := fun q => by subst q; rw [z2] at eo; cases eo; simp at ec
  exact wpAny_setField_rec z2 (by simp) fun g3 _ e3 => k g3 e (fun c o c1 _ c3 _ q => e3.extBut _ _ c1 (e2 _ _ c3 (e1.extBut _ _ c1 q))) ⟨oe, e3.extBut _ _ ne eo, ec⟩
theorem zip_endQ {Q : Fin → Shared → Prop} (hh : A.handled = none) (D : ZipApart z P R u v t l) (hz : IsZip s.heap z P R .none) (hP : IsPair s.heap P (.ref u) (.ref v)) (hR : IsPair s.heap R a b)
    (qu : IsTupIter s.heap u t i) (qv : IsTupIter s.heap v l i) (qt : IsTup s.heap t xs) (ql : IsTup s.heap l ys) (qx : xs[i]? = some x) (qy : ys[i]? = none)
    (k : ∀ g e, (∀ c o, c ≠ z → c ≠ R → c ≠ u → c ≠ v → s.heap.get? c = some o → g.get? c = some o) → (∃ o, g.get? e = some o ∧ o.cls = .type "StopIteration") → E (.ref e) { s with heap := g }) :
    wpAny (model prog w) A (Builtin.«zip.__next__» ⟨[.ref z], []⟩) Q E s := by
  show wpAny _ _ (field (.ref z) 2 >>= _) _ E s
  refine wpAny_bind (wpAny_field hz rfl (x := Value.bool false) rfl ?_)
  show wpAny _ _ (field (.ref z) 3 >>= _) _ E s
  refine wpAny_bind (wpAny_field hz rfl (x := Value.ref P) rfl (wpAny_bind (wpAny_seqItems hP rfl ?_)))
  show wpAny _ _ (Builtin.SmallTypes.ownedTupleIsFree (.ref z) >>= _) _ E s
  refine wpAny_bind (Q := _) ?_
  unfold Builtin.SmallTypes.ownedTupleIsFree
  refine wpAny_bind (wpAny_field hz rfl (x := Value.none) rfl (wpAny_pure ?_))
  simp only [if_true]
  refine wpAny_bind (wpAny_rule (wpAny_bind (wpAny_field hz rfl (x := Value.ref R) rfl (wpAny_bind (wpAny_setField_rec hz (by simp) fun g1 z1 e1 => ?_)))))
  replace z1 : IsZip g1 z P R .ellipsis := z1
  refine wpAny_bind (Q := _) ?_
  simp only [List.zipIdx_cons, List.zipIdx_nil, List.forIn_cons, List.forIn_nil]; refine wpAny_bind (wpAny_bind (wpAny_onRaise (Q := _) ?_))
  show wpAny _ _ (Builtin.SmallTypes.nextOf (.ref u) >>= _) _ _ { s with heap := g1 }
  refine wpAny_bind (next_tup (qu.extBut e1.extBut D.i1z) (tup_at qt fun o e => e1.extBut _ o D.l1z e) qx fun g2 u2 e2 => wpAny_pure ?_)
  have R2 : IsPair g2 R a b := e2.extBut _ _ D.TOi1 (e1.extBut _ _ D.TOz hR)
  refine wpAny_bind (wpAny_seqItems R2 rfl (wpAny_bind (wpAny_updateSeq_pair R2 fun g3 R3 e3 => ?_)))
  refine wpAny_bind (wpAny_letGo (wpAny_pure (wpAny_bind (wpAny_bind (wpAny_onRaise (Q := _) ?_)))))
  show wpAny _ _ (Builtin.SmallTypes.nextOf (.ref v) >>= _) _ _ { s with heap := g3 }
  have v3 : IsTupIter g3 v l i := ((qv.extBut e1.extBut D.i2z).extBut e2.extBut D.i12.symm).extBut e3.extBut D.TOi2.symm
  have l3 : IsTup g3 l ys := tup_at (tup_at (tup_at ql fun o e => e1.extBut _ o D.l2z e) fun o e => e2.extBut _ o D.l2i1 e) fun o e => e3.extBut _ o D.l2TO e
  refine wpAny_bind (next_tup_end hh v3 l3 qy fun g4 e e4 he => ?_)
  obtain ⟨oe, eo, ec⟩ := he
  have z4 : IsZip g4 z P R .ellipsis := e4 _ _ D.i2z.symm (e3.extBut _ _ D.TOz.symm (e2.extBut _ _ D.i1z.symm z1))
  have ne : e ≠ z := fun q => by subst q; rw [z4] at eo; cases eo; simp at ec
  exact wpAny_setField_rec z4 (by simp) fun g5 _ e5 => k g5 e (fun c o c1 c2 c3 c4 q => e5.extBut _ _ c1 (e4 _ _ c4 (e3.extBut _ _ c2 (e2.extBut _ _ c3 (e1.extBut _ _ c1 q))))) ⟨oe, e5.extBut _ _ ne eo, ec⟩
theorem pyNext_itemP {Q : Option Value → Shared → Prop} (D : ZipApart z P R u v t l) (hz : IsZip s.heap z P R .none) (hP : IsPair s.heap P (.ref u) (.ref v)) (hR : IsPair s.heap R a b)
    (qu : IsTupIter s.heap u t i) (qv : IsTupIter s.heap v l i) (qt : IsTup s.heap t xs) (ql : IsTup s.heap l ys) (qx : xs[i]? = some x) (qy : ys[i]? = some y)
    (k : ∀ g, IsZip g z P R (rawInt s.heap.objs.size) → IsPair g R x y → IsTupIter g u t (i + 1) → IsTupIter g v l (i + 1) → IsPair g s.heap.objs.size x y →
      (∀ c o, c ≠ z → c ≠ R → c ≠ u → c ≠ v → s.heap.get? c = some o → g.get? c = some o) → Q (some (.ref s.heap.objs.size)) { s with heap := g }) :
    wpAny (model prog w) A (pyNext (.ref z)) Q E s := by
  have ty : s.TypeIs (.ref z) "zip" := ⟨_, hz, rfl⟩
  unfold pyNext
  refine wpAny_bind (wpAny_attempt (wpAny_callSpecial?_slot (name := Str.ofString "__next__") ty F.slot_zip_next (wpAny_call_entry F.slot_zip_next ty F.entry_zip_next (zip_itemP D hz hP hR qu qv qt ql qx qy fun g a1 a2 a3 a4 a5 a7 => ?_) (F.args_zip_next_1 _))))
  exact wpAny_pure (k g a1 a2 a3 a4 a5 a7)
theorem pyNext_endP {Q : Option Value → Shared → Prop} (hh : A.handled = none) (D : ZipApart z P R u v t l) (hz : IsZip s.heap z P R .none) (hP : IsPair s.heap P (.ref u) (.ref v))
    (qu : IsTupIter s.heap u t i) (qt : IsTup s.heap t xs) (qx : xs[i]? = none)
    (k : ∀ g, (∀ c o, c ≠ z → c ≠ R → c ≠ u → c ≠ v → s.heap.get? c = some o → g.get? c = some o) → Q none { s with heap := g }) : wpAny (model prog w) A (pyNext (.ref z)) Q E s := by
  have ty : s.TypeIs (.ref z) "zip" := ⟨_, hz, rfl⟩
  unfold pyNext
  refine wpAny_bind (wpAny_attempt (wpAny_callSpecial?_slot (name := Str.ofString "__next__") ty F.slot_zip_next (wpAny_call_entry F.slot_zip_next ty F.entry_zip_next (zip_endP hh D hz hP qu qt qx fun g e hk he => ?_) (F.args_zip_next_1 _))))
  obtain ⟨o, ho, hc⟩ := he
  exact wpAny_bind (wpAny_isInstance (T := "StopIteration") (b := true) ⟨o, ho, hc⟩ isSubtype_stop (wpAny_pure (k _ hk)))
theorem pyNext_endQ {Q : Option Value → Shared → Prop} (hh : A.handled = none) (D : ZipApart z P R u v t l) (hz : IsZip s.heap z P R .none) (hP : IsPair s.heap P (.ref u) (.ref v)) (hR : IsPair s.heap R a b)
    (qu : IsTupIter s.heap u t i) (qv : IsTupIter s.heap v l i) (qt : IsTup s.heap t xs) (ql : IsTup s.heap l ys) (qx : xs[i]? = some x) (qy : ys[i]? = none)
    (k : ∀ g, (∀ c o, c ≠ z → c ≠ R → c ≠ u → c ≠ v → s.heap.get? c = some o → g.get? c = some o) → Q none { s with heap := g }) : wpAny (model prog w) A (pyNext (.ref z)) Q E s := by
  have ty : s.TypeIs (.ref z) "zip" := ⟨_, hz, rfl⟩
  unfold pyNext
  refine wpAny_bind (wpAny_attempt (wpAny_callSpecial?_slot (name := Str.ofString "__next__") ty F.slot_zip_next (wpAny_call_entry F.slot_zip_next ty F.entry_zip_next (zip_endQ hh D hz hP hR qu qv qt ql qx qy fun g e hk he => ?_) (F.args_zip_next_1 _))))
  obtain ⟨o, ho, hc⟩ := he
  exact wpAny_bind (wpAny_isInstance (T := "StopIteration") (b := true) ⟨o, ho, hc⟩ isSubtype_stop (wpAny_pure (k _ hk)))
end
end ZT
namespace ZT
open PySem PyProof.Rows
abbrev y1 (h : Heap) (t : Addr) : Heap := h.push { cls := .type "tuple_iterator", data := .fields #[.ref t, .int 0 0] }
abbrev y2 (h : Heap) (t l : Addr) : Heap := (y1 h t).push { cls := .type "tuple_iterator", data := .fields #[.ref l, .int 0 0] }
abbrev y3 (h : Heap) (t l : Addr) : Heap := (y2 h t l).push { cls := .type "tuple", data := .seq #[.ref h.objs.size, .ref (y1 h t).objs.size] }
abbrev y4 (h : Heap) (t l : Addr) : Heap := (y3 h t l).push { cls := .type "tuple", data := .seq #[.none, .none] }
abbrev y5 (h : Heap) (t l : Addr) : Heap := (y4 h t l).push { cls := .type "zip", data := .fields #[.none, .bool false, .bool false, .ref (y2 h t l).objs.size, .ref (y3 h t l).objs.size] }
theorem zip_madeP (t l : Addr) (xs ys : Array Value) : Meets (Builtin.«zip.__new__» ⟨[.type "zip", .ref t, .ref l], []⟩) (fun _ R s => IsTup s.heap t xs ∧ IsTup s.heap l ys ∧ R (.ok (.ret (.ref (y4 s.heap t l).objs.size))) { s with heap := y5 s.heap t l }) :=
  .of_wp fun prog w A R s h => by
    obtain ⟨hp, g, d, tk, os⟩ := s
    obtain ⟨h1, h2, h⟩ := h
    have sub := sub_zip
    have q1 : IsTup (Shared.heap ⟨hp, g, d, tk, os⟩) t xs := h1
    have q2 : IsTup (Shared.heap ⟨hp.push { cls := .type "tuple_iterator", data := .fields #[.ref t, .int 0 0] }, g, d, tk, os⟩) l ys := tup_at h2 fun o e => Heap.get?_push_of_some _ e
    wp_walk using iter_tuple q1, iter_tuple q2
    exact ⟨_, rfl, h⟩
section
variable {prog : Program} {w : World} {A : Around} {E : Value → Shared → Prop} {s : Shared}
theorem call_zipP {t l : Addr} {xs ys : Array Value} {Q : Value → Shared → Prop} (h1 : IsTup s.heap t xs) (h2 : IsTup s.heap l ys)
    (k : ∀ g, IsZip g (s.heap.objs.size + 4) (s.heap.objs.size + 2) (s.heap.objs.size + 3) .none → IsPair g (s.heap.objs.size + 2) (.ref s.heap.objs.size) (.ref (s.heap.objs.size + 1)) → IsPair g (s.heap.objs.size + 3) .none .none →
      IsTupIter g s.heap.objs.size t 0 → IsTupIter g (s.heap.objs.size + 1) l 0 → (∀ c o, s.heap.get? c = some o → g.get? c = some o) → Q (.ref (s.heap.objs.size + 4)) { s with heap := g }) :
    wpAny (model prog w) A (call (.type "zip") [.ref t, .ref l]) Q E s := by
  refine callType_new F.called_zip (by decide) (F.typeCall_zip_2 _ _) (F.newCall_zip_2 _ _) (fun obj => F.args_object_init_3 obj _ _) F.entry_zip_new (zip_madeP t l xs ys) ⟨h1, h2, ?_⟩
  have n1 : (y1 s.heap t).objs.size = s.heap.objs.size + 1 := Heap.size_push ..
  have n2 : (y2 s.heap t l).objs.size = s.heap.objs.size + 2 := (Heap.size_push ..).trans (by rw [n1])
  have n3 : (y3 s.heap t l).objs.size = s.heap.objs.size + 3 := (Heap.size_push ..).trans (by rw [n2])
  have n4 : (y4 s.heap t l).objs.size = s.heap.objs.size + 4 := (Heap.size_push ..).trans (by rw [n3])
  have p5 : (y5 s.heap t l).get? (y4 s.heap t l).objs.size = some _ := Heap.get?_push_size _ rfl
  have p4 : (y5 s.heap t l).get? (y3 s.heap t l).objs.size = some _ := Heap.get?_push_of_some _ (Heap.get?_push_size _ rfl)
  have p3 : (y5 s.heap t l).get? (y2 s.heap t l).objs.size = some _ := Heap.get?_push_of_some _ (Heap.get?_push_of_some _ (Heap.get?_push_size _ rfl))
  have p2 : (y5 s.heap t l).get? (y1 s.heap t).objs.size = some _ := Heap.get?_push_of_some _ (Heap.get?_push_of_some _ (Heap.get?_push_of_some _ (Heap.get?_push_size _ rfl)))
  have p1 : (y5 s.heap t l).get? s.heap.objs.size = some _ := Heap.get?_push_of_some _ (Heap.get?_push_of_some _ (Heap.get?_push_of_some _ (Heap.get?_push_of_some _ (Heap.get?_push_size _ rfl))))
  show _ ∧ _
  rw [n2, n3, n4] at p5
  rw [n1, n2] at p3
  rw [n3] at p4
  rw [n1] at p2
  rw [n4]
  exact ⟨⟨_, p5, rfl⟩, k _ p5 p3 p4 ⟨_, p1, rfl, rfl⟩ ⟨_, p2, rfl, rfl⟩ fun c o x => Heap.get?_push_of_some _ (Heap.get?_push_of_some _ (Heap.get?_push_of_some _ (Heap.get?_push_of_some _ (Heap.get?_push_of_some _ x))))⟩
end
end ZT
namespace L2
open PySem PySem.Spec PyProof.Rows
def ItzP (K : PySem.W.Frag) (a b : Addr) : It :=
  ⟨fun i H => ∃ (xs ys : List V) (x y : V), SqT K H a xs ∧ SqT K H b ys ∧ xs[i]? = some x ∧ ys[i]? = some y,
    fun i H v H' => ∃ T x y, v = .ref T ∧ H T = none ∧ H' = upd H T (.tup [x, y]) ∧ (∀ xs, SqT K H a xs → xs[i]? = some x) ∧ ∀ ys, SqT K H b ys → ys[i]? = some y,
    fun i H => ∃ xs ys : List V, SqT K H a xs ∧ SqT K H b ys ∧ (xs.length ≤ i ∨ ys.length ≤ i)⟩
theorem turn_zipP {P : Program} {w : World} {K : PySem.W.Frag} {elts : List Expr} {kk : Nat} {tpos : Pos} {a b z TI TO i1 i2 : Addr} (D : ZipApart z TI TO i1 i2 a b) :
    Turn P w K (.Tuple elts kk tpos) (ItzP K a b) [z, TI, TO, i1, i2] z (fun i h => IsZip h z TI TO .none ∧ IsPair h TI (.ref i1) (.ref i2) ∧ (∃ x y, IsPair h TO x y) ∧ IsTupIter h i1 a i ∧ IsTupIter h i2 b i) where
  mem := by simp
  obj := fun i h st c hc => by
    obtain ⟨hz, hTI, ⟨x, y, hTO⟩, ⟨o1, e1, _, d1⟩, ⟨o2, e2, _, d2⟩⟩ := st
    have e' : c = z ∨ c = TI ∨ c = TO ∨ c = i1 ∨ c = i2 := by simpa using hc
    rcases e' with q | q | q | q | q
    · rw [q]; exact ⟨_, hz, fun v q => nomatch q⟩
    · rw [q]; exact ⟨_, hTI, fun v q => nomatch q⟩
    · rw [q]; exact ⟨_, hTO, fun v q => nomatch q⟩
    · rw [q]; exact ⟨o1, e1, fun v q => by rw [d1] at q; cases q⟩
    · rw [q]; exact ⟨o2, e2, fun v q => by rw [d2] at q; cases q⟩
  keep := fun i h h' st k => by
    obtain ⟨hz, hTI, ⟨x, y, hTO⟩, h1, h2⟩ := st
    exact ⟨k z (by simp) _ hz, k TI (by simp) _ hTI, ⟨x, y, k TO (by simp) _ hTO⟩, ZT.tupIter_at h1 fun o q => k i1 (by simp) o q, ZT.tupIter_at h2 fun o q => k i2 (by simp) o q⟩
  item := by
    intro X hP hw hK hc i pins s σ H E I hf st hg
    subst hP hw hK
    obtain ⟨hz, hTI, ⟨x0, y0, hTO⟩, h1, h2⟩ := st
    obtain ⟨xs, ys, x, y, hqx, hqy, hx, hy⟩ := hg
    obtain ⟨its, rv, p, _⟩ := I.tuple hqx
    obtain ⟨its2, rv2, p2, _⟩ := I.tuple hqy
    obtain ⟨u, hu, ru⟩ := rv.get hx
    obtain ⟨u2, hu2, ru2⟩ := rv2.get hy
    have hzl : z < s.heap.objs.size := Heap.lt_size hz
    refine ZT.pyNext_itemP D hz hTI hTO h1 h2 p p2 (x := u) (y := u2) (by simpa using hu) (by simpa using hu2) fun h' z' TO' h1' h2' hT hk => ?_
    refine ⟨_, rfl, wpAny_letOwnedTupleGo_zip (s := { s with heap := h' }) z' fun h'' z'' sb => ?_⟩
    have hT2 : h''.get? s.heap.objs.size = some { cls := .type "tuple", data := .seq #[u, u2] } := (sb.2 _ (Nat.ne_of_gt hzl)).trans hT
    have new : ObjOk X.prog X.w (upd H s.heap.objs.size (.tup [x, y])) h'' s.heap.objs.size (.tup [x, y]) :=
      ⟨by show 2 ≤ sizeLine; decide, [u, u2], .cons ru (.cons ru2 .nil), ⟨_, hT2, rfl, _, rfl, rfl⟩⟩
    have I1 : Inv X pins σ (upd H s.heap.objs.size (.tup [x, y])) { s with heap := h'' } :=
      I.turnedNew (t' := s.toks) (ch := [z, TI, TO, i1, i2]) (fun c o hb q => (sb.2 c (fun q' => hb (by simp [q']))).trans (hk c o (fun q' => hb (by simp [q'])) (fun q' => hb (by simp [q'])) (fun q' => hb (by simp [q'])) (fun q' => hb (by simp [q'])) q)) hf (Nat.le_refl _) new
    refine ⟨.ref s.heap.objs.size, _, I1, rfl, ⟨_, x, y, rfl, I.hok.fresh (Nat.le_refl _), rfl, fun l hl => by rw [I.tuple_inj hl hqx]; exact hx, fun l hl => by rw [I.tuple_inj hl hqy]; exact hy⟩, ⟨z'', ?_, ⟨u, u2, ?_⟩, ?_, ?_⟩, fun c hcm => ?_⟩
    · exact (sb.2 _ D.TIz).trans (hk _ _ D.TIz D.TITO D.TIi1 D.TIi2 hTI)
    · exact (sb.2 _ D.TOz).trans TO'
    · exact ZT.tupIter_at h1' fun o q => (sb.2 _ D.i1z).trans q
    · exact ZT.tupIter_at h2' fun o q => (sb.2 _ D.i2z).trans q
    · have hlt : c < s.heap.objs.size := by
        have e' : c = z ∨ c = TI ∨ c = TO ∨ c = i1 ∨ c = i2 := by simpa using hcm
        rcases e' with q | q | q | q | q
        · rw [q]; exact hzl
        · rw [q]; exact Heap.lt_size hTI
        · rw [q]; exact Heap.lt_size hTO
        · rw [q]; obtain ⟨_, e1, _⟩ := h1; exact Heap.lt_size e1
        · rw [q]; obtain ⟨_, e2, _⟩ := h2; exact Heap.lt_size e2
      rw [upd_ne (Nat.ne_of_lt hlt)]
      exact (hf c hcm).1
  done := by
    intro X hP hw hK hc i pins s σ H E I hf st hg
    subst hP hw hK
    obtain ⟨hz, hTI, ⟨x0, y0, hTO⟩, h1, h2⟩ := st
    obtain ⟨xs, ys, hqx, hqy, hend⟩ := hg
    obtain ⟨its, rv, p, _⟩ := I.tuple hqx
    obtain ⟨its2, rv2, p2, _⟩ := I.tuple hqy
    have l1 := rv.length
    have l2 := rv2.length
    have kk : ∀ h' : Heap, (∀ c o, c ≠ z → c ≠ TO → c ≠ i1 → c ≠ i2 → s.heap.get? c = some o → h'.get? c = some o) → (none : Option Value) = none ∧ Inv X pins σ H { s with heap := h' } := fun h' hk => ⟨rfl, I.turnedL (t' := s.toks) (ch := [z, TI, TO, i1, i2]) (fun c o hb q =>
      hk c o (fun q' => hb (by simp [q'])) (fun q' => hb (by simp [q'])) (fun q' => hb (by simp [q'])) (fun q' => hb (by simp [q'])) q) hf⟩
    by_cases hl : xs.length ≤ i
    · exact ZT.pyNext_endP (I.ok.hd hc) D hz hTI h1 p (by simp; omega) kk
    · have hy : ys.length ≤ i := by rcases hend with q | q; exact absurd q hl; exact q
      have hi : i < its.toArray.size := by simp; omega
      exact ZT.pyNext_endQ (I.ok.hd hc) D hz hTI hTO h1 h2 p p2 (x := its.toArray[i]) (Array.getElem?_eq_getElem hi) (by simp; omega) kk
  self := fun A i s Q E st h => wpAny_pyIter_zip st.1 h
def iZipP (K : PySem.W.Frag) (ta : TA) : TI := fun σ H R => ta σ H fun vs H1 => ∃ a b xs ys, vs = [.ref a, .ref b] ∧ SqT K H1 a xs ∧ SqT K H1 b ys ∧ R (ItzP K a b) H1
theorem pi_zipP {X : Cx} {e e2 : Expr} {ta : TA} {p pos tpos : Pos} {elts : List Expr} {kk : Nat} (hg : Gl X "zip") (hm : X.mg "zip" = none) (ha : PA X [e, e2] ta)
    (hs : starEach [e, e2] X.env = (false, eval e X.env) :: starEach [e2] X.env := by rfl) (hpl : (backTo pos (starEach [e2] X.env)).any (·.1) = false := by rfl) :
    PI X (.Tuple elts kk tpos) (.Call (.Name "zip" p) [e, e2] [] pos) (iZipP X.K ta) := by
  intro pins s σ H R I h
  refine Call_ (ld_blt I hg hm boot_zip5 (PyProof.Rows.callWith_type1 (thn (ha pos pins s σ H _ I h) fun us s1 ⟨vs, H1, I1, r1, q1⟩ => ?_) hs hpl))
  obtain ⟨a, b, xs, ys, ex, hqx, hqy, q⟩ := q1
  subst ex
  cases r1 with
  | cons r rr =>
    cases rr with
    | cons r' rr =>
      cases rr
      cases r
      cases r'
      obtain ⟨its, rv, p1, _⟩ := I1.tuple hqx
      obtain ⟨its2, rv2, p2, _⟩ := I1.tuple hqy
      have la : a < s1.heap.objs.size := by obtain ⟨o, e1, _⟩ := p1; exact Heap.lt_size e1
      have lb : b < s1.heap.objs.size := by obtain ⟨o, e1, _⟩ := p2; exact Heap.lt_size e1
      refine ZT.call_zipP p1 p2 fun h' hz hTI hTO h1 h2 hk => wpAny_pyIter_zip hz ?_
      have I2 : Inv X pins σ H1 { s1 with heap := h' } := I1.kept (t' := s1.toks) hk
      refine ⟨s1.heap.objs.size + 4, [s1.heap.objs.size + 4, s1.heap.objs.size + 2, s1.heap.objs.size + 3, s1.heap.objs.size, s1.heap.objs.size + 1], _, _, H1, rfl, I2, turn_zipP (PySem.W.ktu_apart s1.heap.objs.size a b la lb), ⟨hz, hTI, ⟨_, _, hTO⟩, h1, h2⟩, fun c hcm => ?_, q⟩
      have e' : c = s1.heap.objs.size + 4 ∨ c = s1.heap.objs.size + 2 ∨ c = s1.heap.objs.size + 3 ∨ c = s1.heap.objs.size ∨ c = s1.heap.objs.size + 1 := by simpa using hcm
      have hle : s1.heap.objs.size ≤ c := by
        rcases e' with z | z | z | z | z
        · rw [z]; exact Nat.le_add_right _ _
        · rw [z]; exact Nat.le_add_right _ _
        · rw [z]; exact Nat.le_add_right _ _
        · rw [z]; exact Nat.le_refl _
        · rw [z]; exact Nat.le_add_right _ _
      exact I1.fpOk hle (I1.hok.fresh hle)
end L2
namespace DL
open PySem PySem.Spec PyProof.Rows L2
variable [Tabs]
theorem itd_zipP {K : PySem.W.Frag} {L : OW} {H : Hp} {a b : Addr} {xs ys : List V} {ds es : List PyData} (s : SqT K (Off L H) a xs) (q : DpAll K (Off L H) xs ds) (t : SqT K (Off L H) b ys) (r : DpAll K (Off L H) ys es) : ItD K (ItzP K a b) (zips ds es) L H := fun L' H1 sm ow i => by
  have s1 := sqtf (seqT sm s)
  have t1 := sqtf (seqT sm t)
  rw [zips_len]
  refine ⟨fun hi => ?_, fun hi => ⟨xs, ys, s1, t1, by rw [dps_len q, dps_len r]; omega⟩⟩
  have e : ds[i]? = some (ds[i]'(by omega)) := List.getElem?_eq_getElem _
  have e' : es[i]? = some (es[i]'(by omega)) := List.getElem?_eq_getElem _
  obtain ⟨v, ev, dv⟩ := dps_get q e
  obtain ⟨u, eu, du⟩ := dps_get r e'
  refine ⟨⟨xs, ys, v, u, s1, t1, ev, eu⟩, fun x H2 ⟨T, y, z, e1, hT, e2, hy, hz⟩ => ?_⟩
  subst e1 e2
  have w1 := hy xs s1
  have w2 := hz ys t1
  rw [ev] at w1; cases w1
  rw [eu] at w2; cases w2
  exact ⟨same_upd hT, _, zips_get ds es i _ _ e e', new_tup ow hT (.cons (dv.mono sm) (.cons (du.mono sm) .nil))⟩
section
variable {X : Cx} {pos p : Pos} {a b : Expr} {fa fb : FE}
def fZpP (f g : FE) : FI := fun ρ μ => bnd (f ρ μ) fun d m => bnd (g ρ m) fun e m' => match d, e with
  | .tuple ds, .tuple es => some (zips ds es, m')
  | _, _ => none
theorem di_zipP {elts : List Expr} {kk : Nat} {tpos : Pos} (hg : Gl X "zip") (hm : X.mg "zip" = none) (ha : DE X a fa) (hb : DE X b fb)
    (h1 : starEach [a, b] X.env = (false, eval a X.env) :: starEach [b] X.env := by rfl) (h2 : starEach [b] X.env = (false, eval b X.env) :: starEach [] X.env := by rfl) (hpl : (backTo pos (starEach [b] X.env)).any (·.1) = false := by rfl) :
    DI X (.Tuple elts kk tpos) (.Call (.Name "zip" p) [a, b] [] pos) (fZpP fa fb) := DI.of (pi_zipP hg hm (pa_cons ha (pa_cons hb pa_nil h2) h1) h1 hpl) fun L ρ μ ds μ' σ H R E ef k => by
  obtain ⟨d, m, e1, ef⟩ := bnd_some ef
  obtain ⟨d2, m2, e2, ef⟩ := bnd_some ef
  split at ef
  · cases ef
    refine ⟨L, ρ, μ, _, _, E, e1, fun v H1 E1 s1 q1 => ⟨L, ρ, _, _, _, E1, e2, fun u H2 E2 s2 q2 => ?_⟩⟩
    obtain ⟨a, xs, rfl, t1, z1⟩ := dp_tup (q1.mono s2.same)
    obtain ⟨b, ys, rfl, t2, z2⟩ := dp_tup q2
    exact ⟨a, b, xs, ys, rfl, sqtf t1, sqtf t2, k _ H2 E2 (s1.trans s2) (itd_zipP t1 z1 t2 z2)⟩
  · cases ef
end
end DL
namespace DL
open PySem PySem.Spec PyProof.Rows L2
variable [Tabs]
def gLtS (d e : PyData) : Option PyData := match d, e with
  | .str i, .str j => some (.bool (decide (i.cps.toList < j.cps.toList)))
  | _, _ => none
theorem o2_ltS {K : PySem.W.Frag} : Op2 K (fun x y H Q => ∃ i j, x = .str i ∧ y = .str j ∧ Q (.bl (decide (i.cps.toList < j.cps.toList))) H) gLtS := fun L H x y d e z Q hL h1 h2 hg k => by
  unfold gLtS at hg
  split at hg
  · cases hg
    exact ⟨_, _, dp_str h1, dp_str h2, k.bl⟩
  · cases hg
def noTup : PyData → Bool
  | .str _ => true
  | .int _ => true
  | .bool _ => true
  | _ => false
def rIsT (K : PySem.W.Frag) : List V → Hp → VK → Prop := fun xs H Q => ∃ x d, xs = [x, .ty "tuple"] ∧ Dp K H x d ∧ ((tyD d = "tuple" ∧ Q (.bl true) H) ∨ (noTup d = true ∧ Q (.bl false) H))
section
variable {X : Cx} {a : Expr} {fa : FE} {pos : Pos}
theorem call_isT (hty : typeOf (.type "tuple") = pure (.type "type")) (hsub : isSubtype (.type "tuple") (.type "tuple") = pure true) : CallR X (.builtin "isinstance") (rIsT X.K) := by
  intro pins s σ H xs us Q I rs h
  obtain ⟨x, d, rfl, hd, h⟩ := h
  rcases h with ⟨ht, q⟩ | ⟨hn, q⟩
  · exact call_isi hty hsub pins s σ H _ us Q I rs ⟨x, d, rfl, hd, ht, q⟩
  · obtain ⟨u, w, rfl, r1, r2⟩ := vals2 rs
    cases r2
    have fin : EP X pins σ Q (.bool false) { s with toks := s.toks + 1 } := ⟨.bl false, H, I.tok _, rfl, q⟩
    cases hd with
    | non => cases hn
    | bl b => cases r1; exact IsiPair.bool_tuple fin
    | int i => obtain ⟨t, rfl⟩ := r1; exact IsiPair.int_tuple fin
    | str i => obtain ⟨t, rfl⟩ := r1; exact IsiPair.str_tuple fin
    | lst s1 q1 => cases hn
    | tup s1 q1 => cases hn
    | dct e => cases hn
def fIsT (f : FE) : FE := fun ρ μ => bnd (f ρ μ) fun d m => if tyD d = "tuple" then some (.bool true, m) else if noTup d = true then some (.bool false, m) else none
theorem de_isT {p1 p2 : Pos} (hty : typeOf (.type "tuple") = pure (.type "type")) (hsub : isSubtype (.type "tuple") (.type "tuple") = pure true) (hi : Gl X "isinstance") (hmi : X.mg "isinstance" = none)
    (hg : Gl X "tuple") (hm : X.mg "tuple" = none) (hv : bootBuiltins "tuple" = some (.type "tuple")) (ha : DE X a fa)
    (he : starEach [a, .Name "tuple" p2] X.env = (false, eval a X.env) :: starEach [.Name "tuple" p2] X.env := by rfl) (he2 : starEach [.Name "tuple" p2] X.env = (false, eval (.Name "tuple" p2) X.env) :: starEach [] X.env := by rfl) (hpl : (backTo pos (starEach [.Name "tuple" p2] X.env)).any (·.1) = false := by rfl) :
    DE X (.Call (.Name "isinstance" p1) [a, .Name "tuple" p2] [] pos) (fIsT fa) :=
  DE.of (pe_callB (call_isT hty hsub) hi hmi (by decide +kernel) (pa_cons ha (pa_cons (pe_bltn hg hm hv (show RelV (.ty "tuple") (.type "tuple") from rfl) (by decide) (by decide)) pa_nil he2) he) (by decide) (by decide) he hpl) fun L ρ μ d μ' σ H Q E ef k => by
    obtain ⟨d1, m1, e1, ef⟩ := bnd_some ef
    split at ef
    · cases ef
      exact ⟨L, ρ, μ, d1, _, E, e1, fun v H1 E1 s1 q1 => ⟨v, d1, rfl, dpf q1, .inl ⟨by assumption, k _ H1 E1 s1 (.bl true)⟩⟩⟩
    · split at ef
      · cases ef
        exact ⟨L, ρ, μ, d1, _, E, e1, fun v H1 E1 s1 q1 => ⟨v, d1, rfl, dpf q1, .inr ⟨by assumption, k _ H1 E1 s1 (.bl false)⟩⟩⟩
      · cases ef
end
end DL
namespace SW
open PySem PyProof.Rows L2 HT
section
variable {prog : Program} {w : World} {A : Around} {E : Value → Shared → Prop} {s : Shared}
theorem whole {t c : Addr} {xs : Array Value} {vl vu : Value} {lo hi : Option Int} {Q : Value → Shared → Prop} (ht : IsTup s.heap t xs) (hs : s.heap.IsSliceOf c vl vu .none) (pl : IsPart vl lo) (pu : IsPart vu hi)
    (hw : sIx xs.size 0 lo = 0 ∧ sIx xs.size xs.size hi = xs.size) (h : Q (.ref t) s) : wpAny (model prog w) A (getItem (.ref t) (.ref c)) Q E s := by
  obtain ⟨os, e1, e2, e3⟩ := id hs
  have tc : s.TypeIs (.ref c) "slice" := ⟨os, e1, e2⟩
  unfold getItem
  try with_reducible refine wpAny_holding ?_
  first | refine wpAny_bind (wpAny_pure ?_) | skip
  refine wpAny_bind (wpAny_sequenceKey ht.typeIs (by decide) (wpAny_bind (wpAny_callSpecial?_slot (name := Str.ofString "__getitem__") ht.typeIs slot_tuple_getitem (wpAny_call_entry slot_tuple_getitem ht.typeIs entry_tuple_getitem ?_ (args_tuple_getitem _ _)))))
  show wpAny _ _ (Builtin.Tuple.tupleItemsOf (.ref t) >>= _) _ E s
  refine wpAny_bind (tupleItemsOf_ ht (wpAny_bind (wpAny_typeOf tc ?_)))
  rw [if_pos (by decide)]
  refine wpAny_bind (sliceApplied_gen hs pl pu ?_)
  rw [hw.1, hw.2]
  show wpAny _ _ (if (((0 : Nat) : Int) == 0 && (1 : Int) == 1 && xs.size - 0 == xs.size) = true then _ else _) _ E s
  rw [if_pos (by simp)]
  show wpAny _ _ (Builtin.Tuple.tupleIsExact (.ref t) >>= _) _ E s
  unfold Builtin.Tuple.tupleIsExact
  refine wpAny_bind (wpAny_bind (wpAny_typeOf ht.typeIs (wpAny_pure ?_)))
  rw [if_pos (by decide)]
  first
    | exact wpAny_bind (wpAny_rule (wpAny_pure ⟨_, rfl, wpAny_pure h⟩))
    | exact wpAny_bind (wpAny_rule (wpAny_bind (wpAny_pure (wpAny_pure ⟨_, rfl, wpAny_pure h⟩))))
    | exact wpAny_bind (wpAny_rule (wpAny_pure (wpAny_pure ⟨_, rfl, wpAny_pure h⟩)))
    | exact wpAny_bind (wpAny_bind (wpAny_rule (wpAny_pure ⟨_, rfl, wpAny_pure h⟩)))
end
end SW
namespace DL
open PySem PySem.Spec PyProof.Rows L2
variable [Tabs]
def rSlW (K : PySem.W.Frag) : V → Option Int → Option Int → Hp → VK → Prop := fun x lo hi H Q => ∃ a xs, x = .ref a ∧ SqT K H a xs ∧ (HT.sIx xs.length 0 lo = 0 ∧ HT.sIx xs.length xs.length hi = xs.length) ∧ Q (.ref a) H
section
variable {X : Cx} {e : Expr} {f : FE} {pos : Pos}
theorem sl_whole : L2.SlR X (rSlW X.K) := by
  intro pins s σ H x v vl vu lo hi c Q I rx hs pl pu h
  obtain ⟨a, xs, rfl, hx, hw, q⟩ := h
  cases rx
  obtain ⟨its, r, ht, hz⟩ := I.tuple hx
  have hl : its.toArray.size = xs.length := by rw [List.size_toArray]; exact r.length.symm
  exact ⟨"tuple", _, PyProof.Rows.slot_tuple_getitem.lookup, ht.typeIs, SW.whole ht hs pl pu (by rw [hl]; exact hw) ⟨.ref a, H, I, rfl, q⟩⟩
def slW (d : PyData) (lo hi : Option Int) : Option PyData := match d with
  | .tuple ds => some (.tuple (cutD ds lo hi))
  | d => slD d lo hi
def rSlB (K : PySem.W.Frag) : V → Option Int → Option Int → Hp → VK → Prop := fun x lo hi H Q => rSlA K x lo hi H Q ∨ rSlW K x lo hi H Q
theorem sl_both : L2.SlR X (rSlB X.K) := sl_all.or sl_whole
theorem o_slW {K : PySem.W.Frag} {L : OW} {H : Hp} {x : V} {d z : PyData} {lo hi : Option Int} {Q : VK} (hL : Own L H) (h : Dp K (Off L H) x d) (hg : slW d lo hi = some z) (k : Ret K L H z Q) : rSlB K x lo hi H Q := by
  unfold slW at hg
  split at hg
  · rename_i ds
    cases hg
    by_cases hw : HT.sIx ds.length 0 lo = 0 ∧ HT.sIx ds.length ds.length hi = ds.length
    · obtain ⟨a, xs, rfl, s1, q1⟩ := dp_tup h
      have e : cutD ds lo hi = ds := by unfold cutD; rw [hw.1, hw.2]; simp
      rw [e] at k
      refine .inr ⟨a, xs, rfl, sqtf s1, by rw [dps_len q1]; exact hw, k _ _ (fun _ _ z => z) h⟩
    · exact .inl (o_sl hL h (show slD (.tuple ds) lo hi = _ by show (if _ then _ else _) = _; rw [if_neg hw]) k)
  · exact .inl (o_sl hL h hg k)
def fSlW (f : FE) (fl fh : FO) : FE := fun ρ μ => bnd (f ρ μ) fun d m => bnd (fl ρ m) fun lo m' => bnd (fh ρ m') fun hi m'' => fin (slW d lo hi) m''
theorem de_sliceW {lo hi : Option Expr} {fl fh : FO} {p2 : Pos} (he : DE X e f) (hl : DO X lo fl) (hh : DO X hi fh) : DE X (.Subscript e (.Slice lo hi none p2) pos) (fSlW f fl fh) :=
  DE.of (pe_slice sl_both he hl hh) fun L ρ μ d μ' σ H Q E ef k => by
    obtain ⟨d1, m1, e1, ef⟩ := bnd_some ef
    obtain ⟨lo, m2, e2, ef⟩ := bnd_some ef
    obtain ⟨hi, m3, e3, ef⟩ := bnd_some ef
    obtain ⟨e4, rfl⟩ := fin_some ef
    refine ⟨L, ρ, μ, d1, m1, E, e1, fun v H1 E1 s1 q1 => ⟨L, ρ, m1, lo, m2, E1, e2, fun H2 E2 s2 => ⟨L, ρ, m2, hi, _, E2, e3, fun H3 E3 s3 => ?_⟩⟩⟩
    exact o_slW E3.own (q1.mono (s2.trans s3).same) e4 (Ret.of E3 ((s1.trans s2).trans s3) k)
end
end DL
namespace L2
open PySem PySem.Spec PyProof.Rows
theorem Inv.tupleD {X : Cx} {pins : List (Addr × Obj)} {σ : St} {H : Hp} {s : Shared} {a : Addr} {xs : List V} (I : Inv X pins σ H s) (h : SqT X.K H a xs) : ∃ its : List Value, Vals xs its ∧ TupD s.heap a its.toArray ∧ xs.length ≤ sizeLine := by
  rcases h with h | ⟨o, its, n, hk, hc, hs, hdn, hz, r⟩
  · obtain ⟨z, its, r, p⟩ := h.ok I.hok
    exact ⟨its, r, p, z⟩
  · refine ⟨its.toList, r, ⟨o, I.kIn a o hk, hc, n, by simpa using hs, hdn⟩, ?_⟩
    have e := r.length
    simp only [Array.length_toList] at e
    omega
end L2
namespace DL
open PySem PySem.Spec PyProof.Rows L2
variable [Tabs]
end DL
namespace DL
open PySem PySem.Spec PyProof.Rows L2
variable [Tabs]
end DL
namespace DL
open PySem PySem.Spec PyProof.Rows L2
variable [Tabs]
end DL
namespace DL
open PySem PySem.Spec PyProof.Rows L2
variable [Tabs]
abbrev SI := Str × Int
end DL
namespace DL
open PySem PySem.Spec PyProof.Rows L2
variable [Tabs]
def anyD : PyData → Option PyData
  | .list ds => opt (blsOf ds) fun bs => some (.bool (bs.any id))
  | _ => none
theorem oN_any {K : PySem.W.Frag} : OpN K (rAny K) (g1 anyD) := fun L H xs ds z Q hL h hg k => by
  unfold g1 at hg
  split at hg
  · rename_i d
    cases h with
    | cons h1 h2 =>
      cases h2
      cases d with
      | list ds =>
        obtain ⟨bs, e1, e2⟩ := opt_some hg
        cases e2
        obtain ⟨a, xs, rfl, s1, q1⟩ := dp_lst h1
        rw [blsOf_dp q1 e1] at s1
        exact ⟨a, bs, rfl, sqlf s1, k.bl⟩
      | _ => cases hg
  · cases hg
end DL
namespace HK
open PySem PyProof.Rows L2
section
open PySem.SeqAt
open PySem.AutoSeq1 (wpAny_loadPart')
open PySem.MeetsSeq PySem.MeetsSeq2 PySem.MeetsSeq3
end
end HK
namespace DL
open PySem PySem.Spec PyProof.Rows L2
variable [Tabs]
end DL
namespace DL
open PySem PySem.Spec PyProof.Rows L2
variable [Tabs]
mutual
inductive Lit : Expr → PyData → Prop
  | non {j pos} : Lit (.Constant .none j pos) .none
  | bl {b : Bool} {j pos} : Lit (.Constant (.bool b) j pos) (.bool b)
  | int {i : Int} {j pos} : Lit (.Constant (.int i) j pos) (.int i)
  | str {x : Str} {j pos} : Lit (.Constant (.str x) j pos) (.str x)
  | tup {es : List Expr} {c pos} {ds : List PyData} : Lits es ds → ds.length ≤ 1000 → Lit (.Tuple es c pos) (.tuple ds)
  | lst {es : List Expr} {pos} {ds : List PyData} : Lits es ds → ds.length ≤ 1000 → Lit (.List es pos) (.list ds)
inductive Lits : List Expr → List PyData → Prop
  | nil : Lits [] []
  | cons {e : Expr} {es : List Expr} {d : PyData} {ds : List PyData} : Lit e d → Lits es ds → Lits (e :: es) (d :: ds)
end
section
variable {X : Cx}
theorem lit_star {e : Expr} {d : PyData} (h : Lit e d) (es : List Expr) : starEach (e :: es) X.env = (false, eval e X.env) :: starEach es X.env := by
  cases h <;> rfl
mutual
theorem de_lit : ∀ {e : Expr} {d : PyData}, Lit e d → DE X e (fC d)
  | _, _, .non => de_non
  | _, _, .bl => de_bl
  | _, _, .int => de_int
  | _, _, .str => de_str
  | _, _, .tup (ds := ds) h hl => by
    have e : (fN (fun _ μ => some (ds, μ)) DL.gTup) = fC (.tuple ds) := by
      funext ρ μ
      show fin (DL.gTup ds) μ = _
      unfold DL.gTup
      rw [if_pos (Nat.le_trans hl (by decide))]; rfl
    rw [← e]
    exact de_tup (da_lit h)
  | _, _, .lst (ds := ds) h hl => by
    have e : (fN (fun _ μ => some (ds, μ)) gLst) = fC (.list ds) := by
      funext ρ μ
      show fin (gLst ds) μ = _
      unfold gLst
      rw [if_pos (Nat.le_trans hl (by decide))]; rfl
    rw [← e]
    exact de_lst (da_lit h)
theorem da_lit : ∀ {es : List Expr} {ds : List PyData}, Lits es ds → DA X es (fun _ μ => some (ds, μ))
  | _, _, .nil => da_nil
  | _, _, .cons h t => da_cons (de_lit h) (da_lit t) (lit_star h _)
end
end
def litsW (f : Expr → Option PyData) : List Expr → Option (List PyData)
  | [] => some []
  | e :: es => match f e with
    | some d => match litsW f es with
      | some ds => some (d :: ds)
      | none => none
    | none => none
def litO : Nat → Expr → Option PyData
  | n + 1, .Constant .none _ _ => some .none
  | n + 1, .Constant (.bool b) _ _ => some (.bool b)
  | n + 1, .Constant (.int i) _ _ => some (.int i)
  | n + 1, .Constant (.str x) _ _ => some (.str x)
  | n + 1, .Tuple es _ _ => match litsW (litO n) es with
    | some ds => if ds.length ≤ 1000 then some (.tuple ds) else none
    | none => none
  | n + 1, .List es _ => match litsW (litO n) es with
    | some ds => if ds.length ≤ 1000 then some (.list ds) else none
    | none => none
  | _, _ => none
theorem lits_of {f : Expr → Option PyData} (hf : ∀ e d, f e = some d → Lit e d) : ∀ (es : List Expr) (ds : List PyData), litsW f es = some ds → Lits es ds
  | [], ds, h => by cases h; exact .nil
  | e :: es, ds, h => by
    unfold litsW at h
    split at h
    · rename_i d h1
      split at h
      · rename_i ds' h2
        cases h
        exact .cons (hf e d h1) (lits_of hf es ds' h2)
      · cases h
    · cases h
theorem lit_of : ∀ (n : Nat) (e : Expr) (d : PyData), litO n e = some d → Lit e d
  | 0, e, d, h => by unfold litO at h; cases h
  | n + 1, e, d, h => by
    unfold litO at h
    split at h
    · cases h; exact .non
    · cases h; exact .bl
    · cases h; exact .int
    · cases h; exact .str
    · rename_i n' es _ _ hn
      cases hn
      split at h
      · rename_i ds h2
        split at h
        · rename_i h3
          cases h
          exact .tup (lits_of (lit_of n) es ds h2) h3
        · cases h
      · cases h
    · rename_i n' es _ hn
      cases hn
      split at h
      · rename_i ds h2
        split at h
        · rename_i h3
          cases h
          exact .lst (lits_of (lit_of n) es ds h2) h3
        · cases h
      · cases h
    · cases h
section
variable {X : Cx}
theorem de_litO {e : Expr} {d : PyData} (h : litO 9 e = some d) : DE X e (fC d) := de_lit (lit_of 9 e d h)
theorem dp_litO {e : Expr} {es : List Expr} {d : PyData} {g : FP} (h : litO 9 e = some d) (t : DP X es g) : DP X (e :: es) (pDat (fC d) g) := dp_dat (de_litO h) t (lit_star (lit_of 9 e d h) _)
end
end DL
namespace DL
open PySem PySem.Spec PyProof.Rows L2
variable [Tabs]
def THk (h : Heap) (v : Value) (k : SI) : Prop :=
  ∃ (b : Addr) (o : Obj) (n : Nat) (t1 t2 : Tok) (rest : List Value), v = .ref b ∧ h.get? b = some o ∧ o.cls = .type "tuple" ∧ o.data = .seq (List.toArray (.str k.1 t1 :: .int k.2 t2 :: rest)) n
theorem THk.keep {h h' : Heap} {v : Value} {k : SI} (hk : ∀ b o, h.get? b = some o → h'.get? b = some o) (p : THk h v k) : THk h' v k := by
  obtain ⟨b, o, n, t1, t2, rest, e, h1, h2, h3⟩ := p
  exact ⟨b, o, n, t1, t2, rest, e, hk _ _ h1, h2, h3⟩
end DL
namespace L2
open PySem PySem.Spec PyProof.Rows
end L2
namespace DL
open PySem PySem.Spec PyProof.Rows L2
variable [Tabs]
end DL
namespace DL
open PySem PySem.Spec PyProof.Rows L2
variable [Tabs]
end DL
namespace DL
open PySem PySem.Spec PyProof.Rows L2
variable [Tabs]
def Lay (P : Program) (w : World) (H : Hp) : Prop := ∃ h, HOk P w H h
abbrev FX := Rho → Mu → Option (Str × Mu)
def XWish (P : Program) (w : World) (K : PySem.W.Frag) (mg : Str → Option Value) (L : OW) (H : Hp) (x : Str) (μ' : Mu) (R : Addr → Addr → Hp → Prop) : Prop :=
  ∀ (a C : Addr) (H' : Hp) (L' : OW), H a = none → mg x = some (.ref C) → Fly H' a (.ref C) none → Lay P w H' → Step L H L' H' → StoreR K L' H' μ' → R a C H'
theorem XWish.step {P : Program} {w : World} {K : PySem.W.Frag} {mg : Str → Option Value} {L L1 : OW} {H H1 : Hp} {x : Str} {μ' : Mu} {R : Addr → Addr → Hp → Prop} (k : XWish P w K mg L H x μ' R) (s : Step L H L1 H1) : XWish P w K mg L1 H1 x μ' R :=
  fun a C H' L' hn hm fl ly st sr => k a C H' L' (s.grow a hn) hm fl ly (s.trans st) sr
end DL
namespace DL
open PySem PySem.Spec PyProof.Rows L2
variable [Tabs]
def isaD (T : String) (d : PyData) : Bool := tyD d == T || (T == "int" && tyD d == "bool")
section
variable {X : Cx} {a e o : Expr} {fa fe fo : FE} {pos p apos : Pos}
def fIsA (T : String) (f : FE) : FE := fun ρ μ => bnd (f ρ μ) fun d m => some (.bool (isaD T d), m)
end
end DL
namespace DL
open PySem PySem.Spec PyProof.Rows L2
variable [Tabs]
end DL
namespace DL
open PySem PySem.Spec PyProof.Rows L2 PySem.W
variable [Tabs]
end DL
namespace DL
open PySem PySem.Spec PyProof.Rows L2 PySem.W
variable [Tabs]
inductive Alls {α : Type} (P : α → Prop) : List α → Prop
  | nil : Alls P []
  | cons {a : α} {l : List α} : P a → Alls P l → Alls P (a :: l)
theorem Alls.mem {α : Type} {P : α → Prop} : ∀ {l : List α}, Alls P l → ∀ a ∈ l, P a
  | _, .nil, _, h => by cases h
  | _, .cons h t, a, ha => by
    rcases List.mem_cons.mp ha with rfl | ha
    · exact h
    · exact t.mem a ha
end DL
namespace DL
open PySem PySem.Spec PyProof.Rows L2 PySem.W
variable [Tabs]
end DL
namespace DL
open PySem PySem.Spec PyProof.Rows L2 PySem.W
variable [Tabs]
end DL
namespace DL
open PySem PySem.Spec PyProof.Rows L2 PySem.W
variable [Tabs]
end DL
namespace DL
open PySem PySem.Spec PyProof.Rows L2 PySem.W
variable [Tabs]
end DL
namespace DL
open PySem PySem.Spec PyProof.Rows L2 PySem.W
variable [Tabs]
end DL
namespace DL
open PySem PySem.Spec PyProof.Rows L2 PySem.W
variable [Tabs]
end DL
namespace DL
open PySem PySem.Spec PyProof.Rows L2
variable [Tabs]
end DL
namespace PySem.SeqAt
variable {A : Around} {s : Shared}
end PySem.SeqAt
namespace DL
open PySem PySem.Spec PyProof.Rows L2
variable [Tabs]
end DL
namespace DL
open PySem PySem.Spec PyProof.Rows L2
variable [Tabs]
theorem relaid_plain {t t' : SetTable} {hs : Array Int} {n : Nat} {o : Array Nat} (hp : t.plain = false) (h : t.relaid hs n = some (t', o)) : t'.plain = false := by
  unfold SetTable.relaid SetTable.laid at h
  simp only [Option.bind_eq_bind, Option.bind_eq_some_iff] at h
  obtain ⟨w, h1, h2⟩ := h
  cases h2
  exact hp
theorem relay_plain {t : SetTable} {es : Array (Int × Value)} {n : Nat} (hp : t.plain = false) : (relayAll t es n).2.1.plain = false := by
  unfold relayAll
  split
  · rename_i t' o h
    dsimp only
    split
    · exact relaid_plain hp h
    · rfl
  · rfl
theorem orStandIn_led (t : SetTable) (n : Nat) : (t.orStandIn n).led = t.led := by
  unfold SetTable.orStandIn
  split <;> rfl
theorem layNew_led (t : SetTable) (es : Array (Int × Value)) (h : Int) (x : Value) : (layNew t es h x).2.1.led = t.led := by
  unfold layNew
  split
  · exact orStandIn_led ..
  · rfl
theorem relaid_led {t t' : SetTable} {hs : Array Int} {n : Nat} {o : Array Nat} (h : t.relaid hs n = some (t', o)) : t'.led = t.led := by
  unfold SetTable.relaid SetTable.laid at h
  simp only [Option.bind_eq_bind, Option.bind_eq_some_iff] at h
  obtain ⟨w, h1, h2⟩ := h
  cases h2
  rfl
theorem relay_led {t : SetTable} {es : Array (Int × Value)} {n : Nat} : (relayAll t es n).2.1.led = t.led := by
  unfold relayAll
  split
  · rename_i t' o h
    dsimp only
    split
    · exact relaid_led h
    · rfl
  · rfl
def sBy (w : World) : Bool := w.params.followText "set-order"
section
variable {prog : Program} {w : World} {A : Around} {E : Value → Shared → Prop} {s : Shared}
abbrev sK (prog : Program) (w : World) := PySem.strKind prog w
def SetT (prog : Program) (w : World) (h : Heap) (a : Addr) (S : Str → Bool) (n : Nat) : Prop :=
  ∃ o es ep t, h.get? a = some o ∧ o.ExactSet ∧ o.data = .set es ep t ∧ ElemsOf (sK prog w) es.toList ∧ (∀ k, S k = true ↔ ∃ e ∈ es.toList, (sK prog w).is k e.2 = true)
    ∧ es.size < scanBound ∧ t.fits es.size = true ∧ es.size = n ∧ (0 < es.size → t.plain = false) ∧ t.led = !sBy w
theorem SetT.of {h : Heap} {a : Addr} {S : Str → Bool} {n : Nat} (x : SetT prog w h a S n) : h.SetOf (sK prog w) a S n :=
  let ⟨o, es, ep, t, h1, h2, h3, h4, h5, h6, h7, h8, _⟩ := x; ⟨o, es, ep, t, h1, h2, h3, h4, h5, h6, h7, h8⟩
theorem SetT.keep {h h' : Heap} {a : Addr} {S : Str → Bool} {n : Nat} (x : SetT prog w h a S n) (k : ∀ o, h.get? a = some o → h'.get? a = some o) : SetT prog w h' a S n :=
  let ⟨o, es, ep, t, h1, r⟩ := x; ⟨o, es, ep, t, k o h1, r⟩
theorem SetT_store {h : Heap} {a : Addr} {o : Obj} {es : Array (Int × Value)} {ep : Nat} {t : SetTable} (ho : h.get? a = some o) (hex : o.ExactSet) (hd : o.data = .set es ep t)
    {es' : Array (Int × Value)} {t' : SetTable} {S' : Str → Bool} (hel : ElemsOf (sK prog w) es'.toList) (hmem : ∀ k, S' k = true ↔ ∃ e ∈ es'.toList, (sK prog w).is k e.2 = true) (hb : es'.size < scanBound) (hf : t'.fits es'.size = true) (hp : t'.plain = false) (hle : t'.led = !sBy w) :
    (h.update a (Obj.putSet es' t')).get? a = some { o with data := .set es' (ep + 1) t' } ∧ SetT prog w (h.update a (Obj.putSet es' t')) a S' es'.size := by
  have hg : (h.update a (Obj.putSet es' t')).get? a = some { o with data := .set es' (ep + 1) t' } := by
    have := Heap.get?_update_self (Obj.putSet es' t') ho (by rw [putSet_of es' t' hd]; rfl)
    rw [putSet_of es' t' hd] at this; exact this
  exact ⟨hg, _, es', ep + 1, t', hg, hex, rfl, hel, hmem, hb, hf, rfl, fun _ => hp, hle⟩
theorem addTailT {g : Bool → Sem Unit} (hg : ∀ (b : Bool) (s₁ : Shared) (Q' : Unit → Shared → Prop), Q' () s₁ → wpAny (model prog w) A (g b) Q' E s₁)
    {a : Addr} {o : Obj} {es : Array (Int × Value)} {ep : Nat} {t : SetTable} (ho : s.heap.get? a = some o) (hex : o.ExactSet) (hd : o.data = .set es ep t)
    {es1 : Array (Int × Value)} {t2 : SetTable} {S' : Str → Bool} (hel1 : ElemsOf (sK prog w) es1.toList) (hmem1 : ∀ k', S' k' = true ↔ ∃ e ∈ es1.toList, (sK prog w).is k' e.2 = true)
    (hb1 : es1.size < scanBound) (hf2 : t2.fits es1.size = true) (hpl : t2.plain = false) (hle : t2.led = !sBy w) {wasDummy : Bool} {R : Option Bool → Shared → Prop}
    (h : ∀ h', Heap.SameBut a s.heap h' → SetT prog w h' a S' es1.size → R (some true) { s with heap := h' }) :
    wpAny (model prog w) A (do
        storeSet a es1 t2
        if (!wasDummy && t2.tooFull) = true then do
            g (relayAll t2 es1 (SetTable.grown es1.size)).2.2
            storeSet a (relayAll t2 es1 (SetTable.grown es1.size)).1 (relayAll t2 es1 (SetTable.grown es1.size)).2.1
            pure (some true)
          else pure (some true)) R E s := by
  refine wpAny_bind (wpAny_storeSet_of ho hd ?_ (fits_of_scanBound hb1))
  obtain ⟨ho1, hS1⟩ := SetT_store (prog := prog) (w := w) ho hex hd hel1 hmem1 hb1 hf2 hpl hle
  have hsb1 := Heap.SameBut.update s.heap a (Obj.putSet es1 t2)
  split
  · have hp := relayAll_perm t2 es1 (SetTable.grown es1.size)
    have hfr := relayAll_fits t2 es1 (SetTable.grown es1.size)
    have hpr := relay_plain (es := es1) (n := SetTable.grown es1.size) hpl
    have hlr := (relay_led (t := t2) (es := es1) (n := SetTable.grown es1.size)).trans hle
    generalize hRl : relayAll t2 es1 (SetTable.grown es1.size) = Rl at hp hfr hpr hlr ⊢
    obtain ⟨es2, t3, gave2⟩ := Rl
    dsimp only at hp hfr hpr hlr ⊢
    have hel2 : ElemsOf (sK prog w) es2.toList := hel1.perm hp
    have hmem2 : ∀ k', S' k' = true ↔ ∃ e ∈ es2.toList, (sK prog w).is k' e.2 = true := fun k' => (hmem1 k').trans ⟨fun ⟨e, he, q⟩ => ⟨e, hp.mem_iff.mpr he, q⟩, fun ⟨e, he, q⟩ => ⟨e, hp.mem_iff.mp he, q⟩⟩
    have hsz : es2.size = es1.size := by rw [← Array.length_toList, hp.length_eq, Array.length_toList]
    have hb2 : es2.size < scanBound := by rw [hsz]; exact hb1
    refine wpAny_bind (hg _ _ _ ?_)
    refine wpAny_bind (wpAny_storeSet_of ho1 rfl ?_ (fits_of_scanBound hb2))
    obtain ⟨_, hS2⟩ := SetT_store (prog := prog) (w := w) ho1 hex rfl hel2 hmem2 hb2 hfr hpr hlr
    rw [hsz] at hS2
    exact wpAny_pure (h _ (hsb1.trans (Heap.SameBut.update _ a _)) hS2)
  · exact wpAny_pure (h _ hsb1 hS1)
theorem addT {a : Addr} {S : Str → Bool} {n : Nat} {k : Str} {tk : Tok} {Q : Bool → Shared → Prop} (hS : SetT prog w s.heap a S n) (hroom : n + 1 < scanBound)
    (h : ∀ h', Heap.SameBut a s.heap h' → SetT prog w h' a (fun k' => S k' || decide (k' = k)) (if S k then n else n + 1) → Q (!S k) { s with heap := h' }) :
    wpAny (model prog w) A (setAddHashed a (.str k tk) ((sK prog w).hash k)) Q E s := by
  have hkey : (sK prog w).is k (.str k tk) = true := by show Value.isStrOf k (.str k tk) = true; simp [Value.isStrOf]
  have hsc : (Value.str k tk).scannable = true := rfl
  obtain ⟨o, es, ep, t, ho, hex, hd, hel, hmem, hb, hf, hn, hpl, hle⟩ := hS
  have hb1 : es.size + 1 < scanBound := by rw [hn]; exact hroom
  unfold setAddHashed setAddHashedIn
  refine wpAny_holding (wpAny_bind (wpAny_setState_of ho hd hf ?_))
  dsimp only
  rw [byScan_of hsc hb hel]
  simp only [↓reduceIte]
  unfold setAddByScan
  refine wpAny_bind ?_
  refine wpAny_bind (wpAny_rule ?_)
  refine wpAny_bind (wpAny_setScan_of hkey ho hd hf hel ?_)
  cases hr : List.findIdx? (fun e => (sK prog w).is k e.2) es.toList with
  | some j =>
    dsimp only
    obtain ⟨hj, hpj, _⟩ := List.findIdx?_eq_some_iff_getElem.mp hr
    have hSk : S k = true := (hmem k).mpr ⟨es.toList[j], List.getElem_mem hj, hpj⟩
    refine wpAny_pure (wpAny_pure ?_)
    have e : s = { s with heap := s.heap } := by cases s; rfl
    have := h s.heap (Heap.SameBut.refl a s.heap) ⟨o, es, ep, t, ho, hex, hd, hel, fun k' => by
      rw [Bool.or_eq_true, decide_eq_true_eq, ← hmem k']
      exact ⟨fun hk => hk.elim id (fun e => e ▸ hSk), .inl⟩, hb, hf, by rw [hSk]; exact hn, hpl, hle⟩
    rw [hSk] at this; rw [e]; exact this
  | none =>
    dsimp only
    have hSk : S k = false := by
      cases hk : S k with
      | false => rfl
      | true => obtain ⟨e, he, hp⟩ := (hmem k).mp hk; have := List.findIdx?_eq_none_iff.mp hr e he; rw [hp] at this; exact Bool.noConfusion this
    have hgw : ∀ (b : Bool) {s₁ : Shared} {Q' : Unit → Shared → Prop}, Q' () s₁ → wpAny (model prog w) A (match b with | true => rule "set.scan.the-table-gave-way" | false => pure ()) Q' E s₁ :=
      fun b s₁ Q' hq => by cases b <;> first | exact wpAny_pure hq | exact wpAny_rule hq
    have hperm := layNew_perm t es ((sK prog w).hash k) (.str k tk)
    have hfits := layNew_fits t es ((sK prog w).hash k) (.str k tk)
    have hled := (layNew_led t es ((sK prog w).hash k) (.str k tk)).trans hle
    generalize hL : layNew t es ((sK prog w).hash k) (.str k tk) = L at hperm hfits hled ⊢
    obtain ⟨es1, t1, wasDummy, gave⟩ := L
    dsimp only at hperm hfits hled ⊢
    rw [Array.toList_push] at hperm
    have hel1 : ElemsOf (sK prog w) es1.toList := (hel.push hkey hsc).perm hperm
    have hmem1 : ∀ k', (S k' || decide (k' = k)) = true ↔ ∃ e ∈ es1.toList, (sK prog w).is k' e.2 = true := mem_push_iff hkey hmem hperm
    have hb1' : es1.size < scanBound := by rw [← Array.length_toList, hperm.length_eq, List.length_append, Array.length_toList]; simpa using hb1
    refine wpAny_bind (hgw _ ?_)
    have hsz1 : es1.size = n + 1 := by rw [← Array.length_toList, hperm.length_eq, List.length_append, Array.length_toList, hn]; rfl
    have hend : ∀ h', Heap.SameBut a s.heap h' → SetT prog w h' a (fun k' => S k' || decide (k' = k)) es1.size → Q true { s with heap := h' } := by
      intro h' hsb hS'; have := h h' hsb; rw [hSk] at this; rw [hsz1] at hS'; exact this hS'
    split
    · refine wpAny_bind ?_
      rw [hashByValue_scannable 8 hsc]
      refine wpAny_pure ?_
      refine addTailT ?_ ho hex hd hel1 hmem1 hb1' (SetTable.fits_plain_off hfits) rfl hled ?_
      · intro b s₁ Q' hq; cases b <;> first | exact wpAny_pure hq | exact wpAny_rule hq
      · intro h' hsb hS'; dsimp only; exact wpAny_pure (hend h' hsb hS')
    · rename_i hnp
      refine wpAny_bind (wpAny_pure ?_)
      simp only [↓reduceIte]
      refine addTailT ?_ ho hex hd hel1 hmem1 hb1' hfits (by simpa using hnp) hled ?_
      · intro b s₁ Q' hq; cases b <;> first | exact wpAny_pure hq | exact wpAny_rule hq
      · intro h' hsb hS'; dsimp only; exact wpAny_pure (hend h' hsb hS')
end
end DL
namespace DL
open PySem PySem.Spec PyProof.Rows L2
variable [Tabs]
section
variable {prog : Program} {w : World} {A : Around} {R : Result → Shared → Prop} {I : Addr} {fp wr : List Addr} {G : Array GenState → Array GenState → Prop} {n : Nat} {P : Nat → Value → Prop} {St : Nat → Shared → Prop}
theorem setT_to {h : Heap} {a : Addr} {S S' : Str → Bool} {n n' : Nat} (hS : SetT prog w h a S n) (e : S = S') (en : n = n') : SetT prog w h a S' n' := by
  subst e en; exact hS
theorem set_loopU (W : WalksS prog w A.in1 I fp wr G n P St) (T : Addr) (hT : T ∉ fp) (xs : List Str) (hx : xs.length = n) (hval : ∀ (i : Nat) (v : Value), P i v → ∃ (x : Str) (t : Tok), xs[i]? = some x ∧ v = .str x t) (hb : n + 1 < scanBound) :
    ∀ (k i : Nat) (acc : List Str) (s : Shared), n - i = k → i ≤ n → acc.length ≤ i → St i s → SetT prog w s.heap T (fun k' => decide (k' ∈ acc)) acc.length →
      (∀ s', Moved (T :: wr) G s s' → SetT prog w s'.heap T (fun k' => decide (k' ∈ uqs acc (xs.drop i))) (uqs acc (xs.drop i)).length → R (.ok (.ret .none)) s') →
      codeAny (model prog w) A (.builtin "set.update.loop" ⟨[.ref T, .ref I], []⟩) R s := by
  have hTw : T ∉ wr := fun h => hT (W.sub _ h)
  have hsub : ∀ b ∈ wr, b ∈ T :: wr := fun b hb => List.mem_cons_of_mem _ hb
  intro k
  induction k with
  | zero =>
    intro i acc s hk hi ha hst hS hR
    obtain rfl : i = n := by omega
    refine codeAny_builtin PyProof.Rows.F.entry_set_update_loop ?_
    rw [Around.under_plainId PyProof.Rows.F.plain_set_update_loop _]
    show wpAny _ A.in1 (pyNext (.ref I) >>= _) _ _ s
    refine wpAny_bind (W.done s _ _ hst fun s' hm => ?_)
    show wpAny _ A.in1 (ret Value.none) _ _ s'
    rw [List.drop_eq_nil_of_le (by omega)] at hR
    obtain ⟨o, es, ep, t, ho, rest⟩ := hS
    exact wpAny_pure (hR s' (hm.mono hsub) ⟨o, es, ep, t, hm.heap T _ hTw ho, rest⟩)
  | succ k ih =>
    intro i acc s hk hi ha hst hS hR
    have hlt : i < n := by omega
    refine codeAny_builtin PyProof.Rows.F.entry_set_update_loop ?_
    rw [Around.under_plainId PyProof.Rows.F.plain_set_update_loop _]
    show wpAny _ A.in1 (pyNext (.ref I) >>= _) _ _ s
    refine wpAny_bind (W.item i s _ _ hlt hst fun v s' hP hst' hm => ?_)
    obtain ⟨x, t, ex, rfl⟩ := hval i v hP
    obtain ⟨o, es, ep, tb, ho, rest⟩ := hS
    have hS' : SetT prog w s'.heap T (fun k' => decide (k' ∈ acc)) acc.length := ⟨o, es, ep, tb, hm.heap T _ hTw ho, rest⟩
    have hdr : xs.drop i = x :: xs.drop (i + 1) := by
      obtain ⟨h1, h2⟩ := List.getElem?_eq_some_iff.mp ex
      rw [← h2]; exact List.drop_eq_getElem_cons h1
    rw [hdr] at hR
    have his : (PySem.strKind prog w).is x (.str x t) = true := by show Value.isStrOf x (.str x t) = true; simp [Value.isStrOf]
    show wpAny _ A.in1 (holding [Value.str x t] (setAdd T (.str x t)) >>= _) _ _ s'
    refine wpAny_bind (wpAny_holding ?_)
    unfold setAdd
    refine wpAny_holding ?_
    refine wpAny_bind ((PySem.strKind prog w).pyHash (k := x) his ?_)
    refine addT (s := { s' with toks := s'.toks + 1 }) hS' (by omega) fun h' hsb hS2 => ?_
    have hSi : SetT prog w h' T (fun k' => decide (k' ∈ if x ∈ acc then acc else acc ++ [x])) (if x ∈ acc then acc else acc ++ [x]).length := by
      refine setT_to hS2 ?_ ?_
      · funext k'
        by_cases hm : x ∈ acc
        · by_cases hk : k' = x
          · subst hk; simp [hm]
          · simp [hm, hk]
        · simp [hm]
      · by_cases hm : x ∈ acc
        · simp [hm]
        · simp [hm]
    have hal : (if x ∈ acc then acc else acc ++ [x]).length ≤ i + 1 := by
      split
      · omega
      · simp; omega
    refine wpAny_pure ⟨plainId_quiet PyProof.Rows.F.plain_set_update_loop _, ih (i + 1) _ _ (by omega) hlt hal (W.frame _ s' _ _ hst' (Nat.le_succ _) fun b hb o e => ?_) hSi fun s2 hm2 hS3 => ?_⟩
    · rw [hsb.2 b (fun h : b = T => hT (by rw [← h]; exact hb))]; exact e
    · refine hR s2 (Moved.trans W.gtrans ((hm.mono hsub).then_heap (Nat.le_succ _) fun b o hb e => ?_) hm2) hS3
      rw [hsb.2 b (fun h : b = T => hb (by rw [h]; exact List.mem_cons_self))]; exact e
end
section
variable {prog : Program} {w : World} {A : Around} {E : Value → Shared → Prop} {s : Shared}
theorem code_set_newL (a : Value) {Q₁ : Value → Shared → Prop}
    (h : Q₁ (.ref s.heap.objs.size) { s with heap := s.heap.push { cls := .type "set", dict := none, data := .set #[] 0 (.fresh 0 0 (!sBy w)) } }) :
    codeAny (model prog w) A (.call (.builtin "set.__new__") ⟨[.type "set", a], []⟩) (wants Q₁ E) s := by
  refine codeAny_of_tree ?_
  show wpAny _ A.in1 (do checkBuiltinCall "set.__new__" ⟨[.type "set", a], []⟩; again (.builtin "set.__new__" ⟨[.type "set", a], []⟩)) _ _ s
  refine wpAny_bind (wpAny_of_eq (F.newCall_set_1 a) (wpAny_pure ⟨plainId_quiet F.plain_set_new _, codeAny_builtin F.entry_set_new ?_⟩))
  rw [Around.under_plainId F.plain_set_new _]
  unfold Builtin.«set.__new__» Builtin.Frozenset.newClass
  have hsub := sub_set_self
  obtain ⟨hp, g, d, tk, os⟩ := s
  dsimp only
  wp_walk
  refine wpAny_askSetting (wpAny_pure ?_)
  dsimp only
  simp only [newObj]
  refine wpAny_bind (wpAny_alloc (wpAny_pure ?_))
  exact wpAny_pure h
end
end DL
namespace DL
open PySem PySem.Spec PyProof.Rows L2
variable [Tabs]
theorem slot_setit_next : Slot "set_iterator" "__next__" "set_iterator.__next__" :=
  .of (owner := "set_iterator") (n := "__next__") (by rw [typeLookup_type, builtinLookup_eq_fast]; kernel_rfl) (by decide +kernel) (by decide +kernel) (by decide +kernel)
    (by first | exact .inl (by decide +kernel) | exact .inr (by decide +kernel)) (by rw [isSubtype_type]; kernel_rfl)
theorem entry_setit_next : entryFor table "set_iterator.__next__" = some Builtin.«set_iterator.__next__» := entryFor_of_tree (by kernel_rfl)
theorem owner_setit : Manifest.owners.lookup (String.ofList ['r', 'o', 't', 'a', 'r', 'e', 't', 'i', '_', 't', 'e', 's'].reverse) = some Manifest.sig_set_iterator := by kernel_rfl
theorem args_setit_next (a : Value) : argsOk "set_iterator.__next__" ⟨[a], []⟩ := by
  unfold argsOk; rw [signature?_of (id := "set_iterator.__next__") (n := ['_', '_', 't', 'x', 'e', 'n', '_', '_']) (o := ['r', 'o', 't', 'a', 'r', 'e', 't', 'i', '_', 't', 'e', 's']) (by kernel_rfl) owner_setit]; kernel_rfl
theorem slot_setit_iter : Slot "set_iterator" "__iter__" "set_iterator.__iter__" :=
  .of (owner := "set_iterator") (n := "__iter__") (by rw [typeLookup_type, builtinLookup_eq_fast]; kernel_rfl) (by decide +kernel) (by decide +kernel) (by decide +kernel)
    (by first | exact .inl (by decide +kernel) | exact .inr (by decide +kernel)) (by rw [isSubtype_type]; kernel_rfl)
theorem entry_setit_iter : entryFor table "set_iterator.__iter__" = some Builtin.«dict_keyiterator.__iter__» :=
  entryFor_alias (id' := "dict_keyiterator.__iter__") (by kernel_rfl) rfl (by decide +kernel) (by kernel_rfl)
theorem args_setit_iter (a : Value) : argsOk "set_iterator.__iter__" ⟨[a], []⟩ := by
  unfold argsOk; rw [signature?_of (id := "set_iterator.__iter__") (n := ['_', '_', 'r', 'e', 't', 'i', '_', '_']) (o := ['r', 'o', 't', 'a', 'r', 'e', 't', 'i', '_', 't', 'e', 's']) (by kernel_rfl) owner_setit]; kernel_rfl
theorem entry_set_iter : entryFor table "set.__iter__" = some Builtin.«frozenset.__iter__» :=
  entryFor_alias (id' := "frozenset.__iter__") (by kernel_rfl) rfl (by decide +kernel) (by kernel_rfl)
section
variable {prog : Program} {w : World} {A : Around} {E : Value → Shared → Prop} {s : Shared} {d I tp : Addr} {o : Obj} {es : Array (Int × Value)} {ep : Nat} {t : SetTable}
theorem wpAny_choose {M : Model} {src : Source} {n : Nat} {Q : Nat → Shared → Prop} (hn : n ≠ 0) (h : ∀ i dr, i < n → Q i { s with drawn := dr }) : wpAny M A (choose src n) Q E s := by
  intro Γ p _
  unfold choose
  rw [Sem.wp_choose]
  exact ⟨hn, by rw [Sem.wp_pure]; exact h _ _ (Nat.mod_lt _ (Nat.pos_of_ne_zero hn))⟩
theorem perm_eraseIdx {α : Type} : ∀ {xs : List α} {i : Nat} {x : α}, xs[i]? = some x → (x :: xs.eraseIdx i).Perm xs
  | [], i, x, h => by simp at h
  | y :: r, 0, x, h => by simp at h; subst h; exact .refl _
  | y :: r, i + 1, x, h => by
    have := perm_eraseIdx (xs := r) (i := i) (x := x) (by simpa using h)
    exact (List.Perm.swap y x _).trans (this.cons y)
theorem drawOrder_of {α : Type} : ∀ (n : Nat) (xs : List α) (s : Shared) {Q : List α → Shared → Prop}, xs.length = n → (∀ ys dr, ys.Perm xs → Q ys { s with drawn := dr }) → wpAny (model prog w) A (drawOrder n xs) Q E s
  | 0, xs, s, Q, e, h => by
    obtain rfl := List.length_eq_zero_iff.mp e
    exact wpAny_pure (h [] s.drawn (.refl _))
  | n + 1, [], s, Q, e, h => by simp at e
  | n + 1, x :: r, s, Q, e, h => by
    unfold drawOrder
    refine wpAny_bind (wpAny_choose (by simp) fun i dr hi => ?_)
    have hx : (x :: r)[i]? = some (x :: r)[i] := List.getElem?_eq_getElem hi
    simp only [hx]
    have hl : ((x :: r).eraseIdx i).length = n := by rw [List.length_eraseIdx, if_pos hi, e]; rfl
    refine wpAny_bind (drawOrder_of n _ _ hl fun ys dr' hp => ?_)
    exact wpAny_pure (h _ dr' ((hp.cons _).trans (perm_eraseIdx hx)))
theorem setDrawn_of {Q : Bool → Shared → Prop} (ho : s.heap.get? d = some o) (hd : o.data = .set es ep t) (hf : t.fits es.size = true) (h : Q (!sBy w && (!t.plain && decide (es.size > 1))) s) : wpAny (model prog w) A (setDrawn d) Q E s := by
  unfold setDrawn
  refine wpAny_bind (wpAny_setState_of ho hd hf ?_)
  unfold setsByText
  refine wpAny_bind (wpAny_bind (wpAny_askSetting (wpAny_pure ?_)))
  exact wpAny_pure h
theorem pick_go {α : Type} (next : Nat → Nat) : ∀ (f k : Nat) (l : List α) (out : Array α), l.length = f → (pickOrder.go next f k l out).toList.Perm (out.toList ++ l)
  | 0, k, l, out, e => by
    obtain rfl := List.length_eq_zero_iff.mp e
    simp [pickOrder.go]
  | f + 1, k, l, out, e => by
    unfold pickOrder.go
    have hi : next k % l.length < l.length := Nat.mod_lt _ (by omega)
    rw [List.getElem?_eq_getElem hi]
    dsimp only
    have hp := pick_go next f (k + 1) (l.eraseIdx (next k % l.length)) (out.push l[next k % l.length]) (by rw [List.length_eraseIdx, if_pos hi, e]; rfl)
    refine hp.trans ?_
    rw [Array.toList_push, List.append_assoc]
    exact List.Perm.append_left _ (perm_eraseIdx (List.getElem?_eq_getElem hi))
theorem pick_perm {α : Type} (next : Nat → Nat) (xs : Array α) : (pickOrder next xs).toList.Perm xs.toList := by
  have := pick_go next xs.size 0 xs.toList #[] (by simp)
  simpa [pickOrder] using this
end
end DL
namespace DL
open PySem PySem.Spec PyProof.Rows L2
variable [Tabs]
def IsSetIter (h : Heap) (I : Addr) (first : Value) (i : Nat) (d : Addr) (n ep : Nat) : Prop := ∃ o, h.get? I = some o ∧ o.cls = .type "set_iterator" ∧ o.data = .fields #[first, .int i 0, .ref d, .int n 0, .int ep 0]
section
variable {prog : Program} {w : World} {A : Around} {E : Value → Shared → Prop} {s : Shared} {d I tp : Addr} {o : Obj} {es : Array (Int × Value)} {ep : Nat} {t : SetTable} {first : Value} {i n : Nat}
theorem IsSetIter.typeIs (x : IsSetIter s.heap I first i d n ep) : s.TypeIs (.ref I) "set_iterator" := let ⟨o, ho, hc, _⟩ := x; ⟨o, ho, hc⟩
theorem IsSetIter.at {h h' : Heap} (x : IsSetIter h I first i d n ep) (e : ∀ o, h.get? I = some o → h'.get? I = some o) : IsSetIter h' I first i d n ep := let ⟨o, ho, r⟩ := x; ⟨o, e _ ho, r⟩
theorem self_setit {Q : Value → Shared → Prop} (hit : IsSetIter s.heap I first i d n ep) (h : Q (.ref I) s) : wpAny (model prog w) A (pyIter (.ref I)) Q E s := by
  refine wpAny_pyIter_slot hit.typeIs slot_setit_iter (wpAny_call_entry slot_setit_iter hit.typeIs entry_setit_iter ?_ (args_setit_iter _))
  show wpAny _ _ (ret (.ref I)) _ _ s
  exact wpAny_pure ⟨_, rfl, "set_iterator", _, hit.typeIs, slot_setit_next.lookup, h⟩
theorem next_drawn {places : Array Value} {np : Nat} {ot : Obj} {p : Nat} {tk : Tok} {e : Int × Value} {Q : Option Value → Shared → Prop} (hit : IsSetIter s.heap I (.ref tp) i d es.size ep) (ho : s.heap.get? d = some o) (hd : o.data = .set es ep t) (hf : t.fits es.size = true)
    (hot : s.heap.get? tp = some ot) (hod : ot.data = .seq places np) (hp : places[i]? = some (.int p tk)) (he : es[p]? = some e)
    (hQ : ∀ h', IsSetIter h' I (.ref tp) (i + 1) d es.size ep → Heap.SameBut I s.heap h' → Q (some e.2) { s with heap := h' }) : wpAny (model prog w) A (pyNext (.ref I)) Q E s := by
  obtain ⟨oi, hoi, hci, hdi⟩ := id hit
  unfold pyNext
  refine wpAny_bind (wpAny_attempt (wpAny_callSpecial?_slot (name := Str.ofString "__next__") hit.typeIs slot_setit_next
    (wpAny_call_entry slot_setit_next hit.typeIs entry_setit_next ?_ (args_setit_next _))))
  refine wpAny_bind (wpAny_pure ?_)
  refine wpAny_bind (wpAny_fieldsOf hoi hdi ?_)
  dsimp only
  refine wpAny_bind (wpAny_setEntries_of ho hd hf ?_)
  rw [if_neg (by simp)]
  refine wpAny_bind (wpAny_seqItems hot hod ?_)
  simp only [Int.toNat_natCast, hp]
  unfold setNextDrawn
  refine wpAny_bind (wpAny_bind (wpAny_setState_of ho hd hf ?_))
  dsimp only
  rw [if_neg (by simp)]
  refine wpAny_bind (wpAny_pure ?_)
  simp only [Int.toNat_natCast, he]
  refine wpAny_pure ?_
  refine wpAny_bind (wpAny_setField hoi hdi (by simp) ?_)
  refine wpAny_pure ⟨_, rfl, wpAny_pure (hQ _ ?_ (Heap.SameBut.update ..))⟩
  exact ⟨_, Heap.get?_update_self _ hoi (Obj.isFreed_of_fields (Obj.data_mapFields hdi _)), (Obj.cls_mapFields ..).trans hci, by rw [Obj.data_mapFields hdi]; simp [rawInt]⟩
theorem next_drawn_end {places : Array Value} {np : Nat} {ot : Obj} {Q : Option Value → Shared → Prop} (hh : A.handled = none) (hit : IsSetIter s.heap I (.ref tp) i d es.size ep) (ho : s.heap.get? d = some o) (hd : o.data = .set es ep t) (hf : t.fits es.size = true)
    (hot : s.heap.get? tp = some ot) (hod : ot.data = .seq places np) (hp : places[i]? = none) (hQ : ∀ h', Heap.ExtBut I s.heap h' → Q none { s with heap := h' }) : wpAny (model prog w) A (pyNext (.ref I)) Q E s := by
  obtain ⟨oi, hoi, hci, hdi⟩ := id hit
  unfold pyNext
  refine wpAny_bind (wpAny_attempt (wpAny_callSpecial?_slot (name := Str.ofString "__next__") hit.typeIs slot_setit_next
    (wpAny_call_entry slot_setit_next hit.typeIs entry_setit_next ?_ (args_setit_next _))))
  refine wpAny_bind (wpAny_pure ?_)
  refine wpAny_bind (wpAny_fieldsOf hoi hdi ?_)
  dsimp only
  refine wpAny_bind (wpAny_setEntries_of ho hd hf ?_)
  rw [if_neg (by simp)]
  refine wpAny_bind (wpAny_seqItems hot hod ?_)
  simp only [Int.toNat_natCast, hp]
  refine wpAny_bind (wpAny_setField hoi hdi (by simp) ?_)
  have h1 := Heap.get?_update_self (Obj.mapFields (·.setIfInBounds 0 (rawInt 0))) hoi (Obj.isFreed_of_fields (Obj.data_mapFields hdi _))
  refine wpAny_bind (wpAny_setField h1 (Obj.data_mapFields hdi _) (by simp) ?_)
  refine wpAny_bind ?_
  simp only [newExc, newTuple]
  refine wpAny_bind (wpAny_newObj_type ?_ (by size_fits))
  refine wpAny_bind (m := firstArgMember _ _) (wpAny_of_eq (a := Value.none) (by first | rfl | (simp only [firstArgMember]; rfl)) ?_)
  refine wpAny_newObj_type ?_ (by size_fits)
  simp only [raiseNew]
  refine wpAny_bind (wpAny_handled ?_)
  rw [show A.in1.handled = none from hh]
  refine wpAny_bind (wpAny_pure (wpAny_throw ?_))
  refine wpAny_bind (wpAny_isInstance (T := "StopIteration") (b := true) ⟨_, Heap.get?_push_size _ rfl, rfl⟩ isSubtype_stop ?_)
  exact wpAny_pure (hQ _ ((((Heap.SameBut.update ..).trans (Heap.SameBut.update ..)).extBut.push _).push _))
theorem walk_by {Q : Array (Int × Value) → Shared → Prop} (hb : sBy w = true) (ho : s.heap.get? d = some o) (hd : o.data = .set es ep t) (hf : t.fits es.size = true) (h : Q (pickOrder (w.params.setOrder d ep) es) s) : wpAny (model prog w) A (setWalk d) Q E s := by
  unfold setWalk
  refine wpAny_bind (wpAny_setState_of ho hd hf ?_)
  unfold setsByText
  refine wpAny_bind (wpAny_bind (wpAny_askSetting (wpAny_pure ?_)))
  refine wpAny_ite_split (fun _ => ?_) (fun hn => absurd hb hn)
  refine wpAny_bind (wpAny_askSetting ?_)
  exact wpAny_pure h
theorem next_by {e : Int × Value} {Q : Option Value → Shared → Prop} (hb : sBy w = true) (hit : IsSetIter s.heap I (.int 0 0) i d es.size ep) (ho : s.heap.get? d = some o) (hd : o.data = .set es ep t) (hf : t.fits es.size = true)
    (he : (pickOrder (w.params.setOrder d ep) es)[i]? = some e) (hQ : ∀ h', IsSetIter h' I (.int 0 0) (i + 1) d es.size ep → Heap.SameBut I s.heap h' → Q (some e.2) { s with heap := h' }) : wpAny (model prog w) A (pyNext (.ref I)) Q E s := by
  obtain ⟨oi, hoi, hci, hdi⟩ := id hit
  unfold pyNext
  refine wpAny_bind (wpAny_attempt (wpAny_callSpecial?_slot (name := Str.ofString "__next__") hit.typeIs slot_setit_next
    (wpAny_call_entry slot_setit_next hit.typeIs entry_setit_next ?_ (args_setit_next _))))
  refine wpAny_bind (wpAny_pure ?_)
  refine wpAny_bind (wpAny_fieldsOf hoi hdi ?_)
  dsimp only
  refine wpAny_bind (wpAny_setEntries_of ho hd hf ?_)
  rw [if_neg (by simp)]
  unfold setNext
  refine wpAny_bind (wpAny_bind (wpAny_setState_of ho hd hf ?_))
  unfold setsByText
  refine wpAny_bind (wpAny_bind (wpAny_askSetting (wpAny_pure ?_)))
  refine wpAny_ite_split (fun _ => ?_) (fun hn => absurd hb hn)
  dsimp only
  rw [if_neg (by simp)]
  refine wpAny_bind (walk_by hb ho hd hf ?_)
  simp only [Int.toNat_natCast, he, Option.map_some]
  refine wpAny_pure ?_
  dsimp only
  refine wpAny_bind (wpAny_setField hoi hdi (by simp) ?_)
  have h1 := Heap.get?_update_self (Obj.mapFields (·.setIfInBounds 0 (rawInt ((Int.toNat 0 : Nat) : Int)))) hoi (Obj.isFreed_of_fields (Obj.data_mapFields hdi _))
  refine wpAny_bind (wpAny_setField h1 (Obj.data_mapFields hdi _) (by simp) ?_)
  refine wpAny_pure ⟨_, rfl, wpAny_pure (hQ _ ?_ ((Heap.SameBut.update ..).trans (Heap.SameBut.update ..)))⟩
  refine ⟨_, Heap.get?_update_self _ h1 (Obj.isFreed_of_fields (Obj.data_mapFields (Obj.data_mapFields hdi _) _)), (Obj.cls_mapFields ..).trans ((Obj.cls_mapFields ..).trans hci), ?_⟩
  rw [Obj.data_mapFields (Obj.data_mapFields hdi _)]; simp [rawInt]
theorem next_by_end {Q : Option Value → Shared → Prop} (hh : A.handled = none) (hb : sBy w = true) (hit : IsSetIter s.heap I (.int 0 0) i d es.size ep) (ho : s.heap.get? d = some o) (hd : o.data = .set es ep t) (hf : t.fits es.size = true)
    (he : (pickOrder (w.params.setOrder d ep) es)[i]? = none) (hQ : ∀ h', Heap.ExtBut I s.heap h' → Q none { s with heap := h' }) : wpAny (model prog w) A (pyNext (.ref I)) Q E s := by
  obtain ⟨oi, hoi, hci, hdi⟩ := id hit
  unfold pyNext
  refine wpAny_bind (wpAny_attempt (wpAny_callSpecial?_slot (name := Str.ofString "__next__") hit.typeIs slot_setit_next
    (wpAny_call_entry slot_setit_next hit.typeIs entry_setit_next ?_ (args_setit_next _))))
  refine wpAny_bind (wpAny_pure ?_)
  refine wpAny_bind (wpAny_fieldsOf hoi hdi ?_)
  dsimp only
  refine wpAny_bind (wpAny_setEntries_of ho hd hf ?_)
  rw [if_neg (by simp)]
  unfold setNext
  refine wpAny_bind (wpAny_bind (wpAny_setState_of ho hd hf ?_))
  unfold setsByText
  refine wpAny_bind (wpAny_bind (wpAny_askSetting (wpAny_pure ?_)))
  refine wpAny_ite_split (fun _ => ?_) (fun hn => absurd hb hn)
  dsimp only
  rw [if_neg (by simp)]
  refine wpAny_bind (walk_by hb ho hd hf ?_)
  simp only [Int.toNat_natCast, he, Option.map_none]
  refine wpAny_pure ?_
  dsimp only
  refine wpAny_bind (wpAny_setField hoi hdi (by simp) ?_)
  refine wpAny_bind ?_
  simp only [newExc, newTuple]
  refine wpAny_bind (wpAny_newObj_type ?_ (by size_fits))
  refine wpAny_bind (m := firstArgMember _ _) (wpAny_of_eq (a := Value.none) (by first | rfl | (simp only [firstArgMember]; rfl)) ?_)
  refine wpAny_newObj_type ?_ (by size_fits)
  simp only [raiseNew]
  refine wpAny_bind (wpAny_handled ?_)
  rw [show A.in1.handled = none from hh]
  refine wpAny_bind (wpAny_pure (wpAny_throw ?_))
  refine wpAny_bind (wpAny_isInstance (T := "StopIteration") (b := true) ⟨_, Heap.get?_push_size _ rfl, rfl⟩ isSubtype_stop ?_)
  exact wpAny_pure (hQ _ (((Heap.SameBut.update ..).extBut.push _).push _))
theorem below_one0 (j : Nat) : SetTable.below #[j] 0 = 0 := by
  simp [SetTable.below, SetTable.below.go]
theorem below_one1 (j : Nat) : SetTable.below #[j] (j + 1) = 1 := by
  simp [SetTable.below, SetTable.below.go]
theorem next_slot {e : Int × Value} {sl j : Nat} {Q : Option Value → Shared → Prop} (hb : sBy w = false) (hle : t.led = true) (hsm : es.size ≤ 1) (hit : IsSetIter s.heap I (.int sl 0) i d es.size ep) (ho : s.heap.get? d = some o) (hd : o.data = .set es ep t) (hf : t.fits es.size = true)
    (he : es[SetTable.below t.place sl]? = some e) (hj : t.place[SetTable.below t.place sl]? = some j) (hQ : ∀ h', IsSetIter h' I (.int ((j + 1 : Nat) : Int) 0) (i + 1) d es.size ep → Heap.SameBut I s.heap h' → Q (some e.2) { s with heap := h' }) : wpAny (model prog w) A (pyNext (.ref I)) Q E s := by
  obtain ⟨oi, hoi, hci, hdi⟩ := id hit
  unfold pyNext
  refine wpAny_bind (wpAny_attempt (wpAny_callSpecial?_slot (name := Str.ofString "__next__") hit.typeIs slot_setit_next
    (wpAny_call_entry slot_setit_next hit.typeIs entry_setit_next ?_ (args_setit_next _))))
  refine wpAny_bind (wpAny_pure ?_)
  refine wpAny_bind (wpAny_fieldsOf hoi hdi ?_)
  dsimp only
  refine wpAny_bind (wpAny_setEntries_of ho hd hf ?_)
  rw [if_neg (by simp)]
  unfold setNext
  refine wpAny_bind (wpAny_bind (wpAny_setState_of ho hd hf ?_))
  unfold setsByText
  refine wpAny_bind (wpAny_bind (wpAny_askSetting (wpAny_pure ?_)))
  refine wpAny_ite_split (fun hn => absurd (show sBy w = true from hn) (by rw [hb]; decide)) (fun _ => ?_)
  dsimp only
  refine wpAny_ite_split (fun hn => absurd (show (!t.plain && decide (es.size > 1)) = true from hn) (by simp; omega)) (fun _ => ?_)
  refine wpAny_bind ?_
  show wpAny _ _ (if (!t.led && !es.isEmpty) = true then unsupported "set:maker-not-led" else pure ()) _ _ _
  rw [if_neg (by rw [hle]; simp)]
  refine wpAny_pure ?_
  simp only [Int.toNat_natCast, he, hj]
  refine wpAny_pure ?_
  dsimp only
  refine wpAny_bind (wpAny_setField hoi hdi (by simp) ?_)
  have h1 := Heap.get?_update_self (Obj.mapFields (·.setIfInBounds 0 (rawInt ((j + 1 : Nat) : Int)))) hoi (Obj.isFreed_of_fields (Obj.data_mapFields hdi _))
  refine wpAny_bind (wpAny_setField h1 (Obj.data_mapFields hdi _) (by simp) ?_)
  refine wpAny_pure ⟨_, rfl, wpAny_pure (hQ _ ?_ ((Heap.SameBut.update ..).trans (Heap.SameBut.update ..)))⟩
  refine ⟨_, Heap.get?_update_self _ h1 (Obj.isFreed_of_fields (Obj.data_mapFields (Obj.data_mapFields hdi _) _)), (Obj.cls_mapFields ..).trans ((Obj.cls_mapFields ..).trans hci), ?_⟩
  rw [Obj.data_mapFields (Obj.data_mapFields hdi _)]; simp [rawInt]
theorem next_slot_end {sl : Nat} {Q : Option Value → Shared → Prop} (hh : A.handled = none) (hb : sBy w = false) (hle : t.led = true) (hsm : es.size ≤ 1) (hit : IsSetIter s.heap I (.int sl 0) i d es.size ep) (ho : s.heap.get? d = some o) (hd : o.data = .set es ep t) (hf : t.fits es.size = true)
    (he : es[SetTable.below t.place sl]? = none) (hQ : ∀ h', Heap.ExtBut I s.heap h' → Q none { s with heap := h' }) : wpAny (model prog w) A (pyNext (.ref I)) Q E s := by
  obtain ⟨oi, hoi, hci, hdi⟩ := id hit
  unfold pyNext
  refine wpAny_bind (wpAny_attempt (wpAny_callSpecial?_slot (name := Str.ofString "__next__") hit.typeIs slot_setit_next
    (wpAny_call_entry slot_setit_next hit.typeIs entry_setit_next ?_ (args_setit_next _))))
  refine wpAny_bind (wpAny_pure ?_)
  refine wpAny_bind (wpAny_fieldsOf hoi hdi ?_)
  dsimp only
  refine wpAny_bind (wpAny_setEntries_of ho hd hf ?_)
  rw [if_neg (by simp)]
  unfold setNext
  refine wpAny_bind (wpAny_bind (wpAny_setState_of ho hd hf ?_))
  unfold setsByText
  refine wpAny_bind (wpAny_bind (wpAny_askSetting (wpAny_pure ?_)))
  refine wpAny_ite_split (fun hn => absurd (show sBy w = true from hn) (by rw [hb]; decide)) (fun _ => ?_)
  dsimp only
  refine wpAny_ite_split (fun hn => absurd (show (!t.plain && decide (es.size > 1)) = true from hn) (by simp; omega)) (fun _ => ?_)
  refine wpAny_bind ?_
  show wpAny _ _ (if (!t.led && !es.isEmpty) = true then unsupported "set:maker-not-led" else pure ()) _ _ _
  rw [if_neg (by rw [hle]; simp)]
  refine wpAny_pure ?_
  simp only [Int.toNat_natCast, he]
  refine wpAny_pure ?_
  dsimp only
  refine wpAny_bind (wpAny_setField hoi hdi (by simp) ?_)
  refine wpAny_bind ?_
  simp only [newExc, newTuple]
  refine wpAny_bind (wpAny_newObj_type ?_ (by size_fits))
  refine wpAny_bind (m := firstArgMember _ _) (wpAny_of_eq (a := Value.none) (by first | rfl | (simp only [firstArgMember]; rfl)) ?_)
  refine wpAny_newObj_type ?_ (by size_fits)
  simp only [raiseNew]
  refine wpAny_bind (wpAny_handled ?_)
  rw [show A.in1.handled = none from hh]
  refine wpAny_bind (wpAny_pure (wpAny_throw ?_))
  refine wpAny_bind (wpAny_isInstance (T := "StopIteration") (b := true) ⟨_, Heap.get?_push_size _ rfl, rfl⟩ isSubtype_stop ?_)
  exact wpAny_pure (hQ _ (((Heap.SameBut.update ..).extBut.push _).push _))
end
end DL
namespace DL
open PySem PySem.Spec PyProof.Rows L2
variable [Tabs]
section
variable {prog : Program} {w : World} {A : Around} {E : Value → Shared → Prop} {s : Shared} {d I tp : Addr} {o ot : Obj} {es : Array (Int × Value)} {ep : Nat} {t : SetTable} {ys : List (Int × Value)}
theorem walks_drawn {places : Array Value} {np : Nat} (hh : A.handled = none) (hdI : d ≠ I) (htI : tp ≠ I) (hd : o.data = .set es ep t) (hf : t.fits es.size = true) (hod : ot.data = .seq places np) (hz : places.size = es.size)
    (hpl : ∀ i, i < es.size → ∃ (p : Nat) (tk : Tok) (e : Int × Value), places[i]? = some (.int p tk) ∧ es[p]? = some e ∧ ys[i]? = some e) :
    Walks prog w A I [I, d, tp] [I] es.size (fun i v => ∃ e, ys[i]? = some e ∧ v = e.2) (fun i h => IsSetIter h I (.ref tp) i d es.size ep ∧ h.get? d = some o ∧ h.get? tp = some ot) where
  sub := fun b hb => by simp at hb; simp [hb]
  frame := fun _ _ _ st hk => ⟨st.1.at fun o e => hk I (by simp) o e, hk d (by simp) o st.2.1, hk tp (by simp) ot st.2.2⟩
  item := fun i s Q E hi st hQ => by
    obtain ⟨p, tk, e, h1, h2, h3⟩ := hpl i hi
    refine next_drawn st.1 st.2.1 hd hf st.2.2 hod h1 h2 fun h' hit' hs' => ?_
    exact hQ _ h' s.toks ⟨_, h3, rfl⟩ ⟨hit', (hs'.2 d hdI).trans st.2.1, (hs'.2 tp htI).trans st.2.2⟩ fun b o hb e => hs'.extBut b o (fun h => hb (by simp [h])) e
  done := fun s Q E st hQ => next_drawn_end hh st.1 st.2.1 hd hf st.2.2 hod (Array.getElem?_eq_none (by omega)) fun h' he' => hQ h' s.toks fun b o hb e => he' b o (fun h => hb (by simp [h])) e
  self := fun _ _ _ _ st hQ => self_setit st.1 hQ
theorem walks_by (hh : A.handled = none) (hb : sBy w = true) (hdI : d ≠ I) (hd : o.data = .set es ep t) (hf : t.fits es.size = true) :
    Walks prog w A I [I, d, d] [I] es.size (fun i v => ∃ e, (pickOrder (w.params.setOrder d ep) es).toList[i]? = some e ∧ v = e.2) (fun i h => IsSetIter h I (.int 0 0) i d es.size ep ∧ h.get? d = some o) where
  sub := fun b hb => by simp at hb; simp [hb]
  frame := fun _ _ _ st hk => ⟨st.1.at fun o e => hk I (by simp) o e, hk d (by simp) o st.2⟩
  item := fun i s Q E hi st hQ => by
    have hl := (pick_perm (w.params.setOrder d ep) es).length_eq
    rw [Array.length_toList, Array.length_toList] at hl
    have h1 : (pickOrder (w.params.setOrder d ep) es)[i]? = some _ := Array.getElem?_eq_getElem (by rw [hl]; exact hi)
    refine next_by hb st.1 st.2 hd hf h1 fun h' hit' hs' => ?_
    exact hQ _ h' s.toks ⟨_, by rw [Array.getElem?_toList]; exact h1, rfl⟩ ⟨hit', (hs'.2 d hdI).trans st.2⟩ fun b o hb e => hs'.extBut b o (fun h => hb (by simp [h])) e
  done := fun s Q E st hQ => by
    have hl := (pick_perm (w.params.setOrder d ep) es).length_eq
    rw [Array.length_toList, Array.length_toList] at hl
    exact next_by_end hh hb st.1 st.2 hd hf (Array.getElem?_eq_none (by omega)) fun h' he' => hQ h' s.toks fun b o hb e => he' b o (fun h => hb (by simp [h])) e
  self := fun _ _ _ _ st hQ => self_setit st.1 hQ
theorem arr_one {α : Type} {a : Array α} (h : a.size = 1) : ∃ x, a = #[x] := by
  obtain ⟨l⟩ := a
  match l, h with
  | [x], _ => exact ⟨x, rfl⟩
theorem walks_slot (hh : A.handled = none) (hb : sBy w = false) (hle : t.led = true) (hsm : es.size ≤ 1) (hdI : d ≠ I) (hd : o.data = .set es ep t) (hf : t.fits es.size = true) :
    Walks prog w A I [I, d, d] [I] es.size (fun i v => ∃ e, es.toList[i]? = some e ∧ v = e.2) (fun i h => ∃ sl : Nat, IsSetIter h I (.int sl 0) i d es.size ep ∧ h.get? d = some o ∧ (i = 0 → sl = 0) ∧ (i = 1 → ∃ j, t.place = #[j] ∧ sl = j + 1)) where
  sub := fun b hb => by simp at hb; simp [hb]
  frame := fun _ _ _ st hk => let ⟨sl, a, b, c⟩ := st; ⟨sl, a.at fun o e => hk I (by simp) o e, hk d (by simp) o b, c⟩
  item := fun i s Q E hi st hQ => by
    obtain ⟨sl, hit, hdo, h0, h1⟩ := st
    have hi0 : i = 0 := by omega
    subst hi0
    obtain rfl := h0 rfl
    obtain ⟨e, he⟩ := arr_one (a := es) (by omega)
    obtain ⟨j, hj⟩ := arr_one (a := t.place) (by have : t.place.size = es.size := by simp [SetTable.fits] at hf; exact hf.1
                                                 omega)
    refine next_slot (e := e) (j := j) hb hle hsm hit hdo hd hf (by rw [hj, below_one0, he]; rfl) (by rw [hj, below_one0]; rfl) fun h' hit' hs' => ?_
    exact hQ _ h' s.toks ⟨e, by rw [he]; rfl, rfl⟩ ⟨j + 1, hit', (hs'.2 d hdI).trans hdo, fun h => by omega, fun _ => ⟨j, hj, rfl⟩⟩ fun b o hb e => hs'.extBut b o (fun h => hb (by simp [h])) e
  done := fun s Q E st hQ => by
    obtain ⟨sl, hit, hdo, h0, h1⟩ := st
    refine next_slot_end hh hb hle hsm hit hdo hd hf ?_ fun h' he' => hQ h' s.toks fun b o hb e => he' b o (fun h => hb (by simp [h])) e
    by_cases hz : es.size = 0
    · exact Array.getElem?_eq_none (by omega)
    · obtain ⟨j, hj, rfl⟩ := h1 (by omega)
      rw [hj, below_one1]
      exact Array.getElem?_eq_none hsm
  self := fun _ _ _ _ st hQ => let ⟨_, a, _⟩ := st; self_setit a hQ
theorem range_get {n i p : Nat} {l : List Nat} (hp : l.Perm (List.range n)) (hi : l[i]? = some p) : p < n := by
  have := hp.mem_iff.mp (List.mem_of_getElem? hi)
  simpa using this
theorem iter_set {Q : Value → Shared → Prop} (ho : s.heap.get? d = some o) (hex : o.ExactSet) (hd : o.data = .set es ep t) (hf : t.fits es.size = true) (hpl : 0 < es.size → t.plain = false) (hle : t.led = !sBy w) (hz : es.size < 4096)
    (hQ : ∀ (I tp : Addr) (h1 : Heap) (dr : _) (ys : List (Int × Value)) (St : Nat → Heap → Prop), ys.Perm es.toList → (∀ b u, s.heap.get? b = some u → h1.get? b = some u) → s.heap.objs.size ≤ I → I < h1.objs.size → (tp = d ∨ s.heap.objs.size ≤ tp) →
      (∀ A : Around, A.handled = none → Walks prog w A I [I, d, tp] [I] es.size (fun i v => ∃ e, ys[i]? = some e ∧ v = e.2) St) → St 0 h1 → Q (.ref I) { s with heap := h1, drawn := dr }) :
    wpAny (model prog w) A (pyIter (.ref d)) Q E s := by
  have hT : s.TypeIs (.ref d) "set" := ⟨o, ho, hex.1⟩
  have hlt : d < s.heap.objs.size := Heap.lt_size ho
  refine wpAny_pyIter_slot hT F.slot_set_iter (wpAny_call_entry F.slot_set_iter hT entry_set_iter ?_ (F.args_set_iter_1 _))
  unfold Builtin.«frozenset.__iter__» Builtin.Frozenset.slot0 slotArgs
  simp only [List.isEmpty_nil, Bool.not_true, Bool.false_eq_true, ↓reduceIte, bind_assoc, List.length_nil, bne_self_eq_false]
  unfold Builtin.Frozenset.addrOf Builtin.Frozenset.sizeOf
  refine wpAny_bind (wpAny_pure ?_)
  try dsimp only
  refine wpAny_bind (wpAny_pure ?_)
  refine wpAny_bind (wpAny_bind (wpAny_setEntries_of ho hd hf (wpAny_pure ?_)))
  refine wpAny_bind (setDrawn_of ho hd hf ?_)
  cases hb : sBy w with
  | true =>
    simp only [Bool.not_true, Bool.false_and, Bool.false_eq_true, if_false]
    refine wpAny_bind (wpAny_pure ?_)
    refine wpAny_bind (wpAny_setEpoch_of ho hd hf ?_)
    refine wpAny_bind (wpAny_newObj_type (wpAny_pure ⟨_, rfl, "set_iterator", _, ⟨_, Heap.get?_push_size _ rfl, rfl⟩, slot_setit_next.lookup, ?_⟩))
    refine hQ s.heap.objs.size d _ s.drawn (pickOrder (w.params.setOrder d ep) es).toList _ (pick_perm _ _) (fun b u e => Heap.get?_push_of_some _ e) (Nat.le_refl _) (by rw [Heap.size_push]; exact Nat.lt_succ_self _) (.inl rfl) (fun A hh => walks_by hh hb (Nat.ne_of_lt hlt) hd hf) ?_
    exact ⟨⟨_, Heap.get?_push_size _ rfl, rfl, by simp [rawInt]⟩, Heap.get?_push_of_some _ ho⟩
  | false =>
   by_cases h2 : ¬ 1 < es.size
   · have hc : (!false && (!t.plain && decide (es.size > 1))) = false := by simp; omega
     rw [hc, if_neg (by decide)]
     refine wpAny_bind (wpAny_pure ?_)
     refine wpAny_bind (wpAny_setEpoch_of ho hd hf ?_)
     refine wpAny_bind (wpAny_newObj_type (wpAny_pure ⟨_, rfl, "set_iterator", _, ⟨_, Heap.get?_push_size _ rfl, rfl⟩, slot_setit_next.lookup, ?_⟩))
     refine hQ s.heap.objs.size d _ s.drawn es.toList _ (List.Perm.refl _) (fun b u e => Heap.get?_push_of_some _ e) (Nat.le_refl _) (by rw [Heap.size_push]; exact Nat.lt_succ_self _) (.inl rfl) (fun A hh => walks_slot hh hb (by rw [hle, hb]; rfl) (by omega) (Nat.ne_of_lt hlt) hd hf) ?_
     exact ⟨0, ⟨_, Heap.get?_push_size _ rfl, rfl, by simp [rawInt]⟩, Heap.get?_push_of_some _ ho, fun _ => rfl, fun h => by omega⟩
   · replace h2 : 1 < es.size := Classical.not_not.mp h2
     have hc : (!false && (!t.plain && decide (es.size > 1))) = true := by rw [hpl (by omega)]; simpa using h2
     rw [hc, if_pos rfl]
     refine wpAny_bind (drawOrder_of es.size (List.range es.size) _ List.length_range fun l dr hl => ?_)
     have hln : l.length = es.size := by rw [hl.length_eq]; simp
     refine wpAny_bind (wpAny_newTuple ?_ (by rw [sizeLine_eq]; first | (rw [List.size_toArray, List.length_map]; omega) | (rw [List.length_map]; omega)))
     have ho1 : (s.heap.push { cls := .type "tuple", data := .seq (l.map fun (i : Nat) => rawInt i).toArray }).get? d = some o := Heap.get?_push_of_some _ ho
     refine wpAny_bind (wpAny_setEpoch_of (s := { s with heap := s.heap.push { cls := .type "tuple", data := .seq (l.map fun (i : Nat) => rawInt i).toArray }, drawn := dr }) ho1 hd hf ?_)
     refine wpAny_bind (wpAny_newObj_type (wpAny_pure ⟨_, rfl, "set_iterator", _, ⟨_, Heap.get?_push_size _ rfl, rfl⟩, slot_setit_next.lookup, ?_⟩))
     have hsz : (s.heap.push { cls := .type "tuple", data := .seq (l.map fun (i : Nat) => rawInt i).toArray }).objs.size = s.heap.objs.size + 1 := Heap.size_push ..
     refine hQ _ s.heap.objs.size _ dr (l.filterMap fun p => es[p]?) _ ?_ (fun b u e => Heap.get?_push_of_some _ (Heap.get?_push_of_some _ e)) (by rw [hsz]; exact Nat.le_succ _) (Nat.lt_of_lt_of_eq (Nat.lt_succ_self _) (Heap.size_push ..).symm) (.inr (Nat.le_refl _))
       (fun A hh => walks_drawn (ot := { cls := .type "tuple", data := .seq (l.map fun (i : Nat) => rawInt i).toArray }) hh (by rw [hsz]; exact Nat.ne_of_lt (Nat.lt_succ_of_lt hlt)) (by rw [hsz]; exact Nat.ne_of_lt (Nat.lt_succ_self _)) hd hf rfl (by simp [hln]) ?_) ?_
     · have e1 : (List.range es.size).filterMap (fun p => es[p]?) = es.toList := by
         apply List.ext_getElem?
         intro i
         have : ∀ (xs : List (Int × Value)), (List.range xs.length).filterMap (fun p => xs[p]?) = xs := by
           intro xs
           induction xs with
           | nil => rfl
           | cons x r ih =>
             rw [List.length_cons, List.range_succ_eq_map, List.filterMap_cons, List.filterMap_map]
             have e9 : ((fun p => (x :: r)[p]?) ∘ Nat.succ) = fun p => r[p]? := by funext p; simp
             rw [e9]
             simpa using ih
         have h3 := this es.toList
         simp only [Array.length_toList, Array.getElem?_toList] at h3
         rw [h3]
       rw [← e1]
       exact hl.filterMap _
     · intro i hi
       have hp : l[i]? = some l[i] := List.getElem?_eq_getElem (by rw [hln]; exact hi)
       have hlt := range_get hl hp
       refine ⟨l[i], 0, es[l[i]], by simp [hp, rawInt], Array.getElem?_eq_getElem hlt, ?_⟩
       have gen : ∀ (l : List Nat), (∀ p ∈ l, p < es.size) → ∀ (i p : Nat), l[i]? = some p → (l.filterMap fun p => es[p]?)[i]? = es[p]? := by
         intro l
         induction l with
         | nil => intro _ i p h; simp at h
         | cons q r ih =>
           intro hq i p h
           rw [List.filterMap_cons, Array.getElem?_eq_getElem (hq q (by simp))]
           cases i with
           | zero => simp at h; subst h; simp [hq]
           | succ i => simpa using ih (fun x hx => hq x (by simp [hx])) i p (by simpa using h)
       rw [gen l (fun p hp => by have := hl.mem_iff.mp hp; simpa using this) i _ hp]
       exact Array.getElem?_eq_getElem hlt
     · exact ⟨⟨_, Heap.get?_push_size _ rfl, rfl, by simp [rawInt]⟩, Heap.get?_push_of_some _ ho1, Heap.get?_push_of_some _ (Heap.get?_push_size _ rfl)⟩
end
end DL
namespace DL
open PySem PySem.Spec PyProof.Rows L2
variable [Tabs]
section
variable {prog : Program} {w : World} {A : Around} {E : Value → Shared → Prop} {s : Shared} {d : Addr} {o : Obj} {es : Array (Int × Value)} {ep : Nat} {t : SetTable}
theorem hint_set {r : Addr} {Q : Bool → Shared → Prop} (hT : s.TypeIs (.ref r) "set") (h : Q false s) : wpAny (model prog w) A (Builtin.List.listLengthHint (.ref r)) Q E s := by
  unfold Builtin.List.listLengthHint
  refine wpAny_bind (wpAny_specialOf hT PySem.F.slot_set_len.lookup ?_)
  generalize hid : ("set.__len__" : String) = id0
  wp_delta
  rw [show splitId id0 = some ("set", "__len__") from by subst hid; decide +kernel]
  subst hid
  refine wpAny_bind (wpAny_isInstance (T := "set") (b := true) hT (by rw [isSubtype_type]; kernel_rfl) ?_)
  refine wpAny_ite_split (fun hab => absurd hab (by decide)) (fun _ => ?_)
  refine wpAny_ite_split (fun _ => ?_) (fun hab => absurd (by decide +kernel) hab)
  refine wpAny_bind (wpAny_typeOf hT ?_)
  exact wpAny_pure h
theorem extend_set {R : Result → Shared → Prop} (hh : A.handled = none) (ho : s.heap.get? d = some o) (hex : o.ExactSet) (hd : o.data = .set es ep t) (hf : t.fits es.size = true) (hpl : 0 < es.size → t.plain = false) (hle : t.led = !sBy w) (hz : es.size < 4096)
    (S : Addr) (hSd : S ≠ d) (res : Value) (c₀ : Nat) (hS : s.heap.get? S = some { cls := .type "list", data := .seq #[] c₀ })
    (hR : ∀ (h' : Heap) (tk : Nat) (dr : _) (acc' : Array Value) (c' : Nat) (ys : List (Int × Value)), (∀ b o, b ≠ S → s.heap.get? b = some o → h'.get? b = some o) → h'.get? S = some { cls := .type "list", dict := none, data := .seq acc' c', slots := #[] } → ys.Perm es.toList →
      acc'.toList = ys.map (·.2) → R (.ok (.ret res)) { s with heap := h', toks := tk, drawn := dr }) :
    wpAny (model prog w) A.in1 (Builtin.List.listExtendWith (.ref S) (.ref d) res)
      (fun fin s' => match fin with | .done f => R (.ok f) s' | .again c' => c'.quiet = true ∧ codeAny (model prog w) A c' R s') (fun e s' => R (.error e) s') s := by
  have hT : s.TypeIs (.ref d) "set" := ⟨o, ho, hex.1⟩
  unfold Builtin.List.listExtendWith
  refine wpAny_bind (wpAny_typeOf (T := "set") hT ?_)
  have h1 : Builtin.List.listSameRef (.ref S) (.ref d) = false := by simp [Builtin.List.listSameRef, hSd]
  have h3 : (Value.type "set" == Value.type "list") = false := by decide
  have h4 : (Value.type "set" == Value.type "tuple") = false := by decide
  simp only [h1, h3, h4, Bool.or_false, Bool.false_eq_true, if_false]
  refine wpAny_bind (iter_set ho hex hd hf hpl hle hz fun I tp h1 dr ys St hp kp hI hIl htp W st => ?_)
  have hlS : S < s.heap.objs.size := Heap.lt_size hS
  have hSI : S ≠ I := Nat.ne_of_lt (Nat.lt_of_lt_of_le hlS hI)
  have hSf : S ∉ [I, d, tp] := by
    simp only [List.mem_cons, List.not_mem_nil, or_false, not_or]
    refine ⟨hSI, hSd, ?_⟩
    rcases htp with rfl | htp
    · exact hSd
    · exact Nat.ne_of_lt (Nat.lt_of_lt_of_le hlS htp)
  have hn : es.size ≤ sizeLine := by rw [sizeLine_eq]; omega
  have key : ∀ (h : Heap) (c₁ tk : Nat), St 0 h → (∀ b o, b ≠ S → s.heap.get? b = some o → h.get? b = some o) →
      h.get? S = some { cls := .type "list", data := .seq #[] c₁ } → codeAny (model prog w) A (.builtin "list.extend.loop" ⟨[.ref S, .ref I, res], []⟩) R { s with heap := h, toks := tk, drawn := dr } := by
    intro h c₁ tk hst hk hS₁
    refine codeAny_extend_loopS (W A.in1 hh).toS hn S hSf res es.size 0 _ #[] c₁ rfl (Nat.zero_le _) hst hS₁ (ItemsOf.nil _) fun s' acc' c' hm hS' hacc => ?_
    rw [Moved.eq_with hm]
    have hyl : ys.length = es.size := by rw [hp.length_eq, Array.length_toList]
    refine hR s'.heap s'.toks dr acc' c' ys (fun b o hb e => hm.heap b o (fun hmem => ?_) (hk b o hb e)) hS' hp ?_
    · rcases List.mem_cons.mp hmem with e' | hmem
      · exact hb e'
      · have := Heap.lt_size e
        rw [List.mem_singleton.mp hmem] at this
        exact absurd (Nat.lt_of_lt_of_le this hI) (Nat.lt_irrefl _)
    · apply List.ext_getElem?
      intro i
      rw [List.getElem?_map, Array.getElem?_toList]
      by_cases hi : i < acc'.size
      · obtain ⟨en, e1, e2⟩ := hacc.2 i acc'[i] (Array.getElem?_eq_getElem hi)
        rw [e1, Array.getElem?_eq_getElem hi, e2]; rfl
      · rw [Array.getElem?_eq_none (by omega), List.getElem?_eq_none (by have := hacc.1; omega)]; rfl
  have hS₁ := kp S _ hS
  refine wpAny_bind (wpAny_holding (hint_set ⟨o, kp d o ho, hex.1⟩ ?_))
  refine wpAny_ite_split (fun _ => ?_) (fun hab => absurd (by decide +kernel) hab)
  refine wpAny_bind (wpAny_rule ?_)
  refine wpAny_bind ?_
  show wpAny _ _ (updateSeq S (·.push .none) >>= fun _ => updateSeq S (·.pop)) _ _ _
  refine wpAny_bind (wpAny_updateSeq hS₁ rfl ?_)
  have hS₂ := Heap.get?_update_self (Obj.mapSeq (·.push Value.none)) hS₁ rfl
  refine wpAny_updateSeq (hz := by seq_fits) hS₂ rfl ?_
  have hS₃ := Heap.get?_update_self (Obj.mapSeq (·.pop)) hS₂ rfl
  refine wpAny_pure ⟨plainId_quiet PySem.F.plain_extend_loop _, key _ _ _ ?_ (fun b o hb e => ?_) hS₃⟩
  · refine (W A.in1 hh).frame 0 _ _ st fun b hb o e => ?_
    have hbS : b ≠ S := fun h => hSf (h ▸ hb)
    exact (Heap.get?_update_other _ _ (Ne.symm hbS)).trans ((Heap.get?_update_other _ _ (Ne.symm hbS)).trans e)
  · exact (Heap.get?_update_other _ _ (Ne.symm hb)).trans ((Heap.get?_update_other _ _ (Ne.symm hb)).trans (kp b o e))
theorem collect_set {R : List Value → Shared → Prop} (hh : A.handled = none) (ho : s.heap.get? d = some o) (hex : o.ExactSet) (hd : o.data = .set es ep t) (hf : t.fits es.size = true) (hpl : 0 < es.size → t.plain = false) (hle : t.led = !sBy w) (hz : es.size < 4096)
    (h : ∀ (h' : Heap) (tk : Nat) (dr : _) (ys : List (Int × Value)), (∀ b o, s.heap.get? b = some o → h'.get? b = some o) → ys.Perm es.toList → R (ys.map (·.2)) { s with heap := h', toks := tk, drawn := dr }) :
    wpAny (model prog w) A (collect (.ref d)) R E s := by
  have hlt := Heap.lt_size ho
  unfold collect
  refine wpAny_bind (wpAny_runValue (codeAny_builtin entry_proto_collect' ?_))
  rw [Around.under_plainId PySem.F.plain_proto_collect _]
  show wpAny _ A.in1 (newList [] >>= fun l => again (.builtin "list.__iadd__" ⟨[l, .ref d], []⟩)) _ _ s
  refine wpAny_bind (wpAny_newObj_type ?_)
  refine wpAny_pure ⟨plainId_quiet PySem.F.plain_list_iadd _, codeAny_builtin entry_list_iadd' ?_⟩
  rw [Around.under_plainId PySem.F.plain_list_iadd _]
  have hS₁ : (s.heap.push { cls := .type "list", data := .seq ([] : List Value).toArray }).get? s.heap.objs.size = some { cls := .type "list", data := .seq #[] } := Heap.get?_push_size _ rfl
  show wpAny _ A.in1 (Builtin.List.listExtendWith (.ref s.heap.objs.size) (.ref d) (.ref s.heap.objs.size)) _ _ _
  have key := extend_set (A := A) (prog := prog) (w := w) (s := { s with heap := s.heap.push { cls := .type "list", data := .seq ([] : List Value).toArray } })
    (R := fun (q : Result) (s' : Shared) => ∃ (h' : Heap) (tk : Nat) (dr : _) (acc' : Array Value) (c' : Nat) (ys : List (Int × Value)), q = .ok (.ret (.ref s.heap.objs.size)) ∧ s' = { s with heap := h', toks := tk, drawn := dr } ∧
      (∀ b o, s.heap.get? b = some o → h'.get? b = some o) ∧ h'.get? s.heap.objs.size = some { cls := .type "list", dict := none, data := .seq acc' c', slots := #[] } ∧ ys.Perm es.toList ∧ acc'.toList = ys.map (·.2))
    hh (Heap.get?_push_of_some _ ho) hex hd hf hpl hle hz s.heap.objs.size (Nat.ne_of_gt hlt) (.ref s.heap.objs.size) 0 hS₁
    (fun h' tk dr acc' c' ys hk hS' hacc e => ⟨h', tk, dr, acc', c', ys, rfl, rfl, fun b o e => hk b o (Nat.ne_of_lt (Heap.lt_size e)) (Heap.get?_push_of_some _ e), hS', hacc, e⟩)
  refine wpAny_mono key (fun fin s' x => ?_) fun e s' x => ?_
  · cases fin with
    | done f =>
      obtain ⟨h', tk, dr, acc', c', ys, e, rfl, hk, hS', hacc, ea⟩ := x
      cases e
      show wpAny _ A (load s.heap.objs.size >>= _) _ _ _
      refine wpAny_bind (wpAny_load hS' ?_)
      show wpAny _ A (pure acc'.toList) _ _ _
      rw [ea]
      exact wpAny_pure (h h' tk dr ys hk hacc)
    | again c₁ =>
      refine ⟨x.1, codeAny_mono x.2 fun q s₂ y => ?_⟩
      obtain ⟨h', tk, dr, acc', c', ys, rfl, rfl, hk, hS', hacc, ea⟩ := y
      show wpAny _ A (load s.heap.objs.size >>= _) _ _ _
      refine wpAny_bind (wpAny_load hS' ?_)
      show wpAny _ A (pure acc'.toList) _ _ _
      rw [ea]
      exact wpAny_pure (h h' tk dr ys hk hacc)
  · obtain ⟨_, _, _, _, _, _, e', _⟩ := x
    cases e'
theorem sorted_set {Q : Value → Shared → Prop} (hh : A.handled = none) (ho : s.heap.get? d = some o) (hex : o.ExactSet) (hd : o.data = .set es ep t) (hf : t.fits es.size = true) (hpl : 0 < es.size → t.plain = false) (hle : t.led = !sBy w) (hz : es.size < 4096)
    (hst : ∀ e ∈ es.toList, ∃ x u, e.2 = .str x u)
    (h : ∀ (h1 h' : Heap) (tk : Nat) (dr : _) (out : Array Value) (e' : Nat) (ys : List (Int × Value)), ys.Perm es.toList → (∃ st' : SortSt, (arrOf st').Perm (pairsOf (ys.map (·.2))) ∧ SortedToK strKind (arrOf st') (pairsOf (ys.map (·.2))).size ∧ out = (arrOf st').map (·.2)) →
      (∀ b o, s.heap.get? b = some o → h1.get? b = some o) → (∀ b o, h1.get? b = some o → h'.get? b = some o) → h'.get? h1.objs.size = some (seqObj "list" out e') → Q (.ref h1.objs.size) { s with heap := h', toks := tk, drawn := dr }) :
    wpAny (model prog w) A (call (.builtin "sorted") [.ref d]) Q E s := by
  refine Calls.call_function_entry kind_sorted plain_sorted entry_sorted (args_sorted1 _) ?_
  unfold Builtin.«sorted»
  refine wpAny_bind (m := checkCount "sorted" 1 1 _) (wpAny_pure ?_)
  refine wpAny_bind (collect_set (A := A.in1) hh ho hex hd hf hpl hle hz fun h1 tk dr ys kp hp => ?_)
  have hL : (ys.map (·.2)).length ≤ sizeLine := by rw [List.length_map, hp.length_eq, Array.length_toList, sizeLine_eq]; omega
  have hS : StrsAre (ys.map (·.2)) ((ys.map (·.2)).map strOf) := strsAre_map _ fun v hv => by
    obtain ⟨e, he, rfl⟩ := List.mem_map.mp hv
    exact hst e (hp.mem_iff.mp he)
  generalize hvs : ys.map (·.2) = vs at hL hS
  refine wpAny_bind (wpAny_newList ?_ hL)
  have hoL : (h1.push (seqObj "list" vs.toArray 0)).get? h1.objs.size = some (seqObj "list" vs.toArray 0) := Heap.get?_push_size _ rfl
  show wpAny _ _ _ _ _ { s with heap := h1.push (seqObj "list" vs.toArray 0), toks := tk, drawn := dr }
  refine wpAny_bind (wpAny_holding (wpAny_call_entry slot_list_sort ⟨_, hoL, rfl⟩ entry_list_sort (G.list_sort_treeG (κ := strKind) (kd := oneType') hoL hS.keysOf ?ordG ?keyG hL fun st' a1 a2 a3 => ⟨_, rfl, ?retG⟩) (args_list_sort _)))
  case ordG =>
    intro A' E' x y a b Q' ha hb hq
    rw [keyLt'_oneType]
    exact strKind_oneLt _ _ _ _ _ _ _ _ _ ha hb hq
  case keyG =>
    intro hn2 R hq
    match vs, hn2, hS with
    | v₁ :: v₂ :: r, _, hS =>
      rw [keyKind_strs hS]
      exact wpAny_pure hq
  case retG =>
    refine wpAny_pure ⟨_, rfl, ?_⟩
    obtain ⟨e', he'⟩ := sortedHeap_at (out := (arrOf st').map (·.2)) hoL
    refine h h1 _ _ dr _ e' ys hp ⟨st', by rw [hvs]; exact a1, by rw [hvs]; exact a2, rfl⟩ kp (fun b o e => ?_) he'
    rw [sortedHeap_old (Nat.ne_of_lt (Heap.lt_size e)) (by rw [size_push']; exact Nat.lt_succ_of_lt (Heap.lt_size e))]
    exact Heap.get?_push_of_some _ e
end
end DL
namespace DL
open PySem PySem.Spec PyProof.Rows L2
variable [Tabs]
theorem leT_one (a b : Str) (h : strKind.blt b.cps.toList a.cps.toList = false) : leT [a] [b] = true := by
  rw [leT_def]
  show (!PyProof.Rows.lexLt PyProof.Rows.itemOrd [Sum.inr b.cps.toList] [Sum.inr a.cps.toList]) = true
  have e : PyProof.Rows.itemOrd.blt (Sum.inr b.cps.toList) (Sum.inr a.cps.toList) = false := h
  rw [PyProof.Rows.lexLt, e]
  simp [PyProof.Rows.lexLt]
def sortS (l : List Str) : List Str := (sortT (l.map fun x => [x])).flatten
theorem flat_one : ∀ l : List Str, (l.map fun x => [x]).flatten = l
  | [] => rfl
  | x :: r => by rw [List.map_cons, List.flatten_cons, flat_one r]; rfl
theorem sortS_of {l m : List Str} (hp : l.Perm m) (ho : l.Pairwise fun a b => strKind.blt b.cps.toList a.cps.toList = false) : l = sortS m := by
  have := uniqT (l.map fun x => [x]) (sortT (m.map fun x => [x])) ((hp.map _).trans (sort_perm _).symm) (by rw [List.pairwise_map]; exact ho.imp fun {a b} h => leT_one a b h) (sort_pw _)
  unfold sortS
  rw [← this, flat_one]
theorem perm_of_sub : ∀ {u L : List Str}, u.Nodup → (∀ x ∈ u, x ∈ L) → L.length ≤ u.length → L.Perm u
  | [], L, _, _, h => by
    obtain rfl := List.length_eq_zero_iff.mp (Nat.le_zero.mp h)
    exact .refl _
  | x :: r, L, hn, hs, h => by
    rw [List.nodup_cons] at hn
    have hx := hs x (by simp)
    have hp := List.perm_cons_erase hx
    refine hp.trans (List.Perm.cons x (perm_of_sub hn.2 (fun y hy => ?_) ?_))
    · rcases List.mem_cons.mp (hp.mem_iff.mp (hs y (by simp [hy]))) with e | e
      · subst e; exact absurd hy hn.1
      · exact e
    · have := hp.length_eq
      rw [List.length_cons] at this h
      omega
theorem uqs_nodup : ∀ (l acc : List Str), acc.Nodup → (uqs acc l).Nodup
  | [], acc, h => h
  | x :: r, acc, h => by
    unfold uqs
    apply uqs_nodup r
    split
    · exact h
    · rename_i hx
      rw [List.nodup_append]
      exact ⟨h, by simp, fun a ha b hb => by simp at hb; subst hb; exact fun e => hx (e ▸ ha)⟩
theorem Inv.drawn {X : Cx} {pins : List (Addr × Obj)} {σ : L2.St} {H : Hp} {s : Shared} (I : Inv X pins σ H s) (dr : _) : Inv X pins σ H { s with drawn := dr } :=
  ⟨I.ok, I.os, I.bare, I.base, I.loc, I.cell, I.free, I.freeC, I.pin, I.hok, I.len⟩
section
variable {X : Cx} {e : Expr} {pos p p2 pos2 : Pos} {f : FE}
def SetU (P : Program) (w : World) (p : Addr) (ss : List Str) : HO := .ext fun h => SetT P w h p (fun k => decide (k ∈ uqs [] ss)) (uqs [] ss).length
def rSortU (P : Program) (w : World) : List V → Hp → VK → Prop := fun xs H Q => ∃ (p : Addr) (ss : List Str), xs = [V.ref p] ∧ H p = some (SetU P w p ss) ∧ ∀ l, H l = none → Q (.ref l) (upd H l (.lst ((sortS (uqs [] ss)).map V.str)))
theorem strsAre_vals : ∀ {vs : List Value} {ss : List Str}, StrsAre vs ss → Vals (ss.map V.str) vs
  | _, _, .nil => .nil
  | _, _, .cons x t h => .cons ⟨t, rfl⟩ (strsAre_vals h)
theorem call_sortU (hc : X.calm = true) : CallR X (.builtin "sorted") (rSortU X.prog X.w) := by
  intro pins s σ H xs us Q I r h
  obtain ⟨p, ss, rfl, hp, q⟩ := h
  obtain ⟨u, rfl, ru⟩ := vals1 r
  cases ru
  obtain ⟨⟨ob, es, ep, t, ho, hex, hd, hel, hmem, hb, hf, hn, hpl, hle⟩, _, _⟩ := I.hok p _ hp
  have hb' : es.size < 4096 := hb
  have hst : ∀ e ∈ es.toList, ∃ x u, e.2 = Value.str x u := fun e he => by
    obtain ⟨⟨k, hk, _⟩, _⟩ := hel e he
    have hk' : Value.isStrOf k e.2 = true := hk
    cases hv : e.2 <;> rw [hv] at hk' <;> first | exact ⟨_, _, rfl⟩ | (simp [Value.isStrOf] at hk')
  refine sorted_set (I.ok.hd hc) ho hex hd hf hpl hle hb' hst fun h1 h' tk dr out e' ys hp' ⟨st', a1, a2, ea⟩ kp1 kp2 hB => ?_
  have hS : StrsAre (ys.map (·.2)) ((ys.map (·.2)).map strOf) := strsAre_map _ fun v hv => by
    obtain ⟨e, he, rfl⟩ := List.mem_map.mp hv
    exact hst e (hp'.mem_iff.mp he)
  -- what is sorted
  have hpl2 : (arrOf st').toList.Perm ((ys.map (·.2)).zip (ys.map (·.2))) := by rw [← pairsOf_toList]; exact Array.perm_iff_toList_perm.mp a1
  have hm2 : ∀ q, q ∈ (arrOf st').toList → q.1 = q.2 ∧ q.1 ∈ ys.map (·.2) := fun q hq => mem_zip_self (hpl2.mem_iff.mp hq)
  have hSo : StrsAre out.toList (out.toList.map strOf) := strsAre_map _ fun v hv => by
    rw [ea, Array.toList_map] at hv
    obtain ⟨q, hq, rfl⟩ := List.mem_map.mp hv
    obtain ⟨e1, e2⟩ := hm2 q hq
    rw [← e1]; exact hS.all _ e2
  have hperm : (out.toList.map strOf).Perm (uqs [] ss) := by
    refine perm_of_sub (uqs_nodup ss [] .nil) (fun x hx => ?_) ?_
    · obtain ⟨e, he, hk⟩ := (hmem x).mp (decide_eq_true hx)
      obtain ⟨y, u, ey⟩ := hst e he
      have hk' : Value.isStrOf x e.2 = true := hk
      rw [ey] at hk'
      have exy : x = y := (by simpa [Value.isStrOf] using hk' : y = x).symm
      subst exy
      have h3 : (Value.str x u) ∈ ys.map (·.2) := List.mem_map.mpr ⟨e, hp'.mem_iff.mpr he, ey⟩
      have h4 : (Value.str x u, Value.str x u) ∈ (ys.map (·.2)).zip (ys.map (·.2)) := by
        obtain ⟨i, hi, e9⟩ := List.getElem_of_mem h3
        refine List.mem_iff_getElem?.mpr ⟨i, ?_⟩
        rw [List.getElem?_zip_eq_some]
        exact ⟨by rw [List.getElem?_eq_getElem hi, e9], by rw [List.getElem?_eq_getElem hi, e9]⟩
      have h5 := hpl2.mem_iff.mpr h4
      refine List.mem_map.mpr ⟨Value.str x u, ?_, rfl⟩
      rw [ea, Array.toList_map]
      exact List.mem_map.mpr ⟨_, h5, rfl⟩
    · have l1 := hpl2.length_eq
      have l2 := hp'.length_eq
      rw [List.length_zip, Nat.min_self, List.length_map] at l1
      have l3 : es.toList.length = es.size := Array.length_toList
      rw [List.length_map, ea, Array.toList_map, List.length_map, l1, l2, l3, hn]
      exact Nat.le_refl _
  have hpw : (out.toList.map strOf).Pairwise fun a b => strKind.blt b.cps.toList a.cps.toList = false := by
    rw [List.pairwise_iff_getElem]
    intro i j hi hj hij
    have hi' : i < (arrOf st').size := by rw [ea] at hi; simpa using hi
    have hj' : j < (arrOf st').size := by rw [ea] at hj; simpa using hj
    have h1 := a2 i j (Nat.le_of_lt hij) (by rw [← a1.size_eq]; exact hj')
    obtain ⟨ei1, ei2⟩ := hm2 (arrOf st')[i] (by simp)
    obtain ⟨ej1, ej2⟩ := hm2 (arrOf st')[j] (by simp)
    obtain ⟨x, t, ex⟩ := hS.all _ ei2
    obtain ⟨y, u, ey⟩ := hS.all _ ej2
    rw [KK_str hi' (x := x) (t := t) (q := (arrOf st')[i].2) (Prod.ext ex rfl), KK_str hj' (x := y) (t := u) (q := (arrOf st')[j].2) (Prod.ext ey rfl)] at h1
    have g1 : (out.toList.map strOf)[i] = x := by
      subst ea
      simp only [List.getElem_map, Array.getElem_toList, Array.getElem_map]
      rw [← ei1, ex]; rfl
    have g2 : (out.toList.map strOf)[j] = y := by
      subst ea
      simp only [List.getElem_map, Array.getElem_toList, Array.getElem_map]
      rw [← ej1, ey]; rfl
    rw [g1, g2]
    exact h1
  have es' := sortS_of hperm hpw
  have hlen : ((sortS (uqs [] ss)).map V.str).length ≤ sizeLine := by
    rw [List.length_map, ← es', hperm.length_eq, sizeLine_eq]; omega
  have I1 : Inv X pins σ H { s with heap := h1, toks := tk } := I.kept kp1
  have I2 := I1.laid (a := h1.objs.size) (o := .lst ((sortS (uqs [] ss)).map V.str)) (t' := tk) kp2 (Nat.le_refl _) ⟨hlen, out.toList, e', by rw [← es']; exact strsAre_vals hSo, by rw [Array.toArray_toList]; exact hB⟩
  exact ⟨.ref _, _, Inv.drawn I2 dr, rfl, q _ (I1.hok.fresh (Nat.le_refl _))⟩
theorem dps_strsU {K : PySem.W.Frag} {H : Hp} : ∀ l : List Str, DpAll K H (l.map V.str) (l.map PyData.str)
  | [] => .nil
  | _ :: r => .cons (.str _) (dps_strsU r)
end
end DL
namespace DL
open PySem PySem.Spec PyProof.Rows L2
variable [Tabs]
end DL
namespace DL
open PySem PySem.Spec PyProof.Rows L2
section
open PySem.SetTable
abbrev Prb := PySem.SetTable.Probe
def leapP (m : Nat) (p : Prb) : Prb := { p with j := (p.i * 5 + 1 + p.perturb / 32) % (m + 1), more := runEnd m ((p.i * 5 + 1 + p.perturb / 32) % (m + 1)) - (p.i * 5 + 1 + p.perturb / 32) % (m + 1), i := (p.i * 5 + 1 + p.perturb / 32) % (m + 1), perturb := p.perturb / 32 }
def advN (t : SetTable) : Nat → Prb → Prb
  | 0, p => p
  | n + 1, p => advN t n (t.advance p)
theorem advN_add (t : SetTable) : ∀ (a b : Nat) (p : Prb), advN t (a + b) p = advN t b (advN t a p)
  | 0, b, p => by rw [Nat.zero_add]; rfl
  | a + 1, b, p => by
    rw [Nat.succ_add]
    show advN t (a + b) (t.advance p) = _
    rw [advN_add t a b]; rfl
theorem run_leap (t : SetTable) : ∀ (k : Nat) (p : Prb), p.more = k → advN t (k + 1) p = leapP t.mask p
  | 0, p, h => by
    show t.advance p = _
    unfold SetTable.advance
    rw [if_neg (by omega)]
    rfl
  | k + 1, p, h => by
    show advN t (k + 1) (t.advance p) = _
    have e : t.advance p = { p with j := p.j + 1, more := p.more - 1 } := by
      unfold SetTable.advance
      rw [if_pos (by omega)]
    rw [e, run_leap t k _ (by show p.more - 1 = k; omega)]
    rfl
theorem more_le (m i : Nat) : runEnd m i - i ≤ 9 := by
  unfold runEnd
  split <;> omega
def leapK (m : Nat) : Nat → Prb → Prb
  | 0, p => p
  | k + 1, p => leapK m k (leapP m p)
theorem leapK_add (m : Nat) : ∀ (a b : Nat) (p : Prb), leapK m (a + b) p = leapK m b (leapK m a p)
  | 0, b, p => by rw [Nat.zero_add]; rfl
  | a + 1, b, p => by
    rw [Nat.succ_add]
    show leapK m (a + b) (leapP m p) = _
    rw [leapK_add m a b]; rfl
theorem reachK (t : SetTable) : ∀ (k : Nat) (p : Prb), p.more ≤ 9 → ∃ n, n ≤ 10 * k ∧ advN t n p = leapK t.mask k p
  | 0, p, _ => ⟨0, Nat.le_refl _, rfl⟩
  | k + 1, p, h => by
    obtain ⟨n, hn, e⟩ := reachK t k (leapP t.mask p) (more_le _ _)
    refine ⟨(p.more + 1) + n, by omega, ?_⟩
    rw [advN_add, run_leap t p.more p rfl, e]; rfl
theorem leapK_pert (m : Nat) : ∀ (k : Nat) (p : Prb), (leapK m k p).perturb = p.perturb / 32 ^ k
  | 0, p => by show p.perturb = _; simp
  | k + 1, p => by
    show (leapK m k (leapP m p)).perturb = _
    rw [leapK_pert m k]
    show p.perturb / 32 / 32 ^ k = _
    rw [Nat.div_div_eq_div_mul, Nat.pow_succ, Nat.mul_comm]
theorem leapK_ji (m : Nat) : ∀ (k : Nat) (p : Prb), p.j = p.i → (leapK m k p).j = (leapK m k p).i
  | 0, p, h => h
  | k + 1, p, h => leapK_ji m k (leapP m p) rfl
def lcg (m : Nat) : Nat → Nat → Nat
  | 0, i => i
  | q + 1, i => lcg m q ((i * 5 + 1) % (m + 1))
theorem leapK_f (m : Nat) : ∀ (q : Nat) (p : Prb), p.perturb = 0 → (leapK m q p).i = lcg m q p.i
  | 0, p, _ => rfl
  | q + 1, p, h => by
    show (leapK m q (leapP m p)).i = _
    rw [leapK_f m q (leapP m p) (by show p.perturb / 32 = 0; rw [h])]
    show lcg m q ((p.i * 5 + 1 + p.perturb / 32) % (m + 1)) = lcg m q ((p.i * 5 + 1) % (m + 1))
    rw [h]
theorem all7 : ∀ i < 8, ∀ j < 8, ∃ q < 8, lcg 7 q i = j := by decide +kernel
theorem all31 : ∀ i < 32, ∀ j < 32, ∃ q < 32, lcg 31 q i = j := by decide +kernel
theorem full {m : Nat} (hm : m = 7 ∨ m = 31) {i j : Nat} (hi : i ≤ m) (hj : j ≤ m) : ∃ q ≤ m, lcg m q i = j := by
  rcases hm with rfl | rfl
  · obtain ⟨q, hq, e⟩ := all7 i (by omega) j (by omega)
    exact ⟨q, by omega, e⟩
  · obtain ⟨q, hq, e⟩ := all31 i (by omega) j (by omega)
    exact ⟨q, by omega, e⟩
theorem comes (t : SetTable) (hm : t.mask = 7 ∨ t.mask = 31) (p : Prb) (h9 : p.more ≤ 9) (hp : p.perturb < 2 ^ 64) {j : Nat} (hj : j ≤ t.mask) : ∃ n, n < 10 * turns t.mask ∧ (advN t n p).j = j := by
  have e13 : (leapK t.mask 13 p).perturb = 0 := by
    rw [leapK_pert]
    exact Nat.div_eq_of_lt (Nat.lt_of_lt_of_le hp (by decide))
  have hji : (leapK t.mask 13 p).j = (leapK t.mask 13 p).i := leapK_ji t.mask 12 (leapP t.mask p) rfl
  have hi : (leapK t.mask 13 p).i ≤ t.mask := by
    have : ∀ (k : Nat) (p : Prb), p.i ≤ t.mask → (leapK t.mask k p).i ≤ t.mask := by
      intro k
      induction k with
      | zero => intro p h; exact h
      | succ k ih => intro p h; exact ih _ (Nat.le_of_lt_succ (Nat.mod_lt _ (Nat.succ_pos _)))
    exact this 12 (leapP t.mask p) (Nat.le_of_lt_succ (Nat.mod_lt _ (Nat.succ_pos _)))
  obtain ⟨q, hq, eq⟩ := full hm hi hj
  obtain ⟨n, hn, en⟩ := reachK t (13 + q) p h9
  refine ⟨n, by unfold turns; omega, ?_⟩
  rw [en, leapK_add, leapK_ji t.mask q _ hji, leapK_f t.mask q _ e13, eq]
end
end DL
namespace DL
open PySem PySem.Spec PyProof.Rows L2
section
open PySem.SetTable
theorem has_none (j : Nat) : SetTable.has #[] j = false := by simp [SetTable.has]
theorem slot_nd {t : SetTable} (hd : t.dummies = #[]) (j : Nat) : t.slot j ≠ .dummy := by
  unfold SetTable.slot
  dsimp only
  rw [hd, has_none]
  split <;> simp
theorem slot_live {t : SetTable} {j i : Nat} (h : t.slot j = .live i) : t.place[i]? = some j := by
  unfold SetTable.slot at h
  dsimp only at h
  split at h
  · rename_i hc
    cases h
    simpa using hc
  · split at h <;> cases h
theorem slot_free {t : SetTable} (hd : t.dummies = #[]) {j : Nat} (h : j ∉ t.place.toList) : t.slot j = .empty := by
  unfold SetTable.slot
  dsimp only
  rw [if_neg, hd, has_none]
  · simp
  · intro hc
    have hc : t.place[SetTable.below t.place j]? = some j := by simpa using hc
    exact h (List.mem_of_getElem? (by rw [Array.getElem?_toList]; exact hc))
theorem hole : ∀ (n : Nat) (l : List Nat), l.length < n → ∃ j, j < n ∧ j ∉ l
  | 0, l, h => by omega
  | n + 1, l, h => by
    by_cases hn : n ∈ l
    · have hpos := List.length_pos_of_mem hn
      obtain ⟨j, hj, hjl⟩ := hole n (l.erase n) (by rw [List.length_erase_of_mem hn]; omega)
      exact ⟨j, by omega, fun hm => hjl ((List.mem_erase_of_ne (by omega)).mpr hm)⟩
    · exact ⟨n, by omega, hn⟩
theorem slot_hole {t : SetTable} (hd : t.dummies = #[]) (hz : t.place.size ≤ t.mask) : ∃ j, j ≤ t.mask ∧ t.slot j = .empty := by
  obtain ⟨j, hj, hn⟩ := hole (t.mask + 1) t.place.toList (by rw [Array.length_toList]; omega)
  exact ⟨j, by omega, slot_free hd hn⟩
theorem ends {t : SetTable} (hm : t.mask = 7 ∨ t.mask = 31) (hd : t.dummies = #[]) (hz : t.place.size ≤ t.mask) (p : Prb) (h9 : p.more ≤ 9) (hp : p.perturb < 2 ^ 64) : ∃ n, n < 10 * turns t.mask ∧ t.slot (advN t n p).j = .empty := by
  obtain ⟨j, hj, e⟩ := slot_hole hd hz
  obtain ⟨n, hn, en⟩ := comes t hm p h9 hp hj
  exact ⟨n, hn, by rw [en]; exact e⟩
theorem start_ok (t : SetTable) (h : Int) : (t.probeStart h).more ≤ 9 ∧ (t.probeStart h).perturb < 2 ^ 64 ∧ (t.probeStart h).dummy = none := by
  refine ⟨more_le _ _, ?_, rfl⟩
  show bits h < 2 ^ 64
  unfold bits
  have := Int.emod_lt_of_pos h (show (0 : Int) < 2 ^ 64 by decide)
  have := Int.emod_nonneg h (show (2 ^ 64 : Int) ≠ 0 by decide)
  omega
def ip (i q : Nat) : Prb := { j := i, more := 0, i := i, perturb := q, dummy := none }
theorem leapK_same (m : Nat) : ∀ (k : Nat) (p p' : Prb), p.i = p'.i → p.perturb = p'.perturb → (leapK m k p).i = (leapK m k p').i
  | 0, p, p', h, _ => h
  | k + 1, p, p', h, h2 => by
    show (leapK m k (leapP m p)).i = (leapK m k (leapP m p')).i
    refine leapK_same m k _ _ ?_ ?_
    · show (p.i * 5 + 1 + p.perturb / 32) % (m + 1) = (p'.i * 5 + 1 + p'.perturb / 32) % (m + 1)
      rw [h, h2]
    · show p.perturb / 32 = p'.perturb / 32
      rw [h2]
theorem free_some {m : Nat} (owner : Array (Option Nat)) : ∀ (fuel i q k : Nat), k < fuel → (owner.getD (leapK m k (ip i q)).i (some 0)).isNone = true → ∃ j, SetTable.layClean.free m owner fuel i q = some j
  | 0, i, q, k, hk, _ => by omega
  | fuel + 1, i, q, k, hk, h => by
    unfold SetTable.layClean.free
    cases hf : (List.range (runEnd m i + 1 - i)).find? fun k => (owner.getD (i + k) (some 0)).isNone with
    | some j => exact ⟨_, rfl⟩
    | none =>
      rw [List.find?_eq_none] at hf
      have hk0 : k ≠ 0 := fun e => by
        subst e
        have hr : 0 ∈ List.range (runEnd m i + 1 - i) := by
          rw [List.mem_range]
          unfold runEnd
          split <;> omega
        exact hf 0 hr h
      obtain ⟨k, rfl⟩ := Nat.exists_eq_succ_of_ne_zero hk0
      show ∃ j, SetTable.layClean.free m owner fuel _ _ = some j
      refine free_some owner fuel _ _ k (by omega) ?_
      rw [leapK_same m k (ip ((i * 5 + 1 + q / 32) % (m + 1)) (q / 32)) (leapP m (ip i q)) rfl rfl]
      exact h
theorem free_none {m : Nat} (owner : Array (Option Nat)) : ∀ (fuel i q j : Nat), SetTable.layClean.free m owner fuel i q = some j → (owner.getD j (some 0)).isNone = true
  | 0, i, q, j, h => by simp [SetTable.layClean.free] at h
  | fuel + 1, i, q, j, h => by
    unfold SetTable.layClean.free at h
    cases hf : (List.range (runEnd m i + 1 - i)).find? fun k => (owner.getD (i + k) (some 0)).isNone with
    | some k =>
      rw [hf] at h
      cases h
      have := List.find?_some hf
      exact this
    | none =>
      rw [hf] at h
      exact free_none owner fuel _ _ j h
theorem owner_list {n : Nat} {owner : Array (Option Nat)} (h : owner.size = n) : (List.range n).map (fun j => owner.getD j none) = owner.toList := by
  apply List.ext_getElem
  · simp [h]
  · intro i h1 h2
    simp only [List.getElem_map, List.getElem_range, Array.getElem_toList]
    have : i < owner.size := by simpa using h2
    simp [Array.getD, this]
def vals (m : Nat) (owner : Array (Option Nat)) : List Nat := (List.range (m + 1)).filterMap fun j => owner.getD j none
theorem vals_eq {m : Nat} {owner : Array (Option Nat)} (h : owner.size = m + 1) : vals m owner = owner.toList.filterMap id := by
  unfold vals
  rw [← owner_list h, List.filterMap_map]
  rfl
theorem set_vals : ∀ (l : List (Option Nat)) (j k : Nat), l[j]? = some none → ((l.set j (some k)).filterMap id).Perm (k :: l.filterMap id)
  | [], j, k, h => by simp at h
  | x :: r, 0, k, h => by
    simp at h
    subst h
    simp
  | x :: r, j + 1, k, h => by
    have ih := set_vals r j k (by simpa using h)
    cases x with
    | none => simpa using ih
    | some y =>
      simp only [List.set_cons_succ, List.filterMap_cons, id]
      exact (ih.cons y).trans (.swap k y _)
theorem vals_step {m : Nat} {owner : Array (Option Nat)} (hs : owner.size = m + 1) {j : Nat} (hj : (owner.getD j (some 0)).isNone = true) (k : Nat) : (owner.setIfInBounds j (some k)).size = m + 1 ∧ (vals m (owner.setIfInBounds j (some k))).Perm (k :: vals m owner) := by
  have hlt : j < owner.size := by
    by_cases h : j < owner.size
    · exact h
    · simp [Array.getD, h] at hj
  have hn : owner[j] = none := by simpa [Array.getD, hlt] using hj
  have h2 : (owner.setIfInBounds j (some k)).size = m + 1 := by simpa using hs
  refine ⟨h2, ?_⟩
  rw [vals_eq h2, vals_eq hs, Array.toList_setIfInBounds]
  exact set_vals _ _ _ (by rw [Array.getElem?_toList, Array.getElem?_eq_getElem hlt, hn])
theorem vals_hole {m : Nat} {owner : Array (Option Nat)} (hs : owner.size = m + 1) {k : Nat} (hp : (vals m owner).Perm (List.range k)) (hk : k ≤ m) : ∃ j, j ≤ m ∧ (owner.getD j (some 0)).isNone = true := by
  have hl : (owner.toList.filterMap id).length < owner.toList.length := by
    rw [← vals_eq hs, hp.length_eq, List.length_range, Array.length_toList, hs]; omega
  have : ∀ l : List (Option Nat), (l.filterMap id).length < l.length → ∃ j, j < l.length ∧ l[j]? = some none := by
    intro l
    induction l with
    | nil => intro h; simp at h
    | cons x r ih =>
      intro h
      cases x with
      | none => exact ⟨0, by simp, rfl⟩
      | some y =>
        obtain ⟨j, hj, e⟩ := ih (by simpa using h)
        exact ⟨j + 1, by simpa using hj, by simpa using e⟩
  obtain ⟨j, hj, e⟩ := this _ hl
  rw [Array.length_toList, hs] at hj
  refine ⟨j, by omega, ?_⟩
  rw [Array.getElem?_toList] at e
  have hlt : j < owner.size := by omega
  rw [Array.getElem?_eq_getElem hlt] at e
  have e' : owner[j] = none := by simpa using e
  simp [Array.getD, hlt, e']
theorem free_found {m : Nat} (hm : m = 7 ∨ m = 31) {owner : Array (Option Nat)} (hs : owner.size = m + 1) {k : Nat} (hp : (vals m owner).Perm (List.range k)) (hk : k ≤ m) {i q : Nat} (hq : q < 2 ^ 64) : ∃ j, SetTable.layClean.free m owner (turns m) i q = some j := by
  obtain ⟨j, hj, hn⟩ := vals_hole hs hp hk
  have e13 : (leapK m 13 (ip i q)).perturb = 0 := by
    rw [leapK_pert]
    exact Nat.div_eq_of_lt (Nat.lt_of_lt_of_le hq (by decide))
  have hi : (leapK m 13 (ip i q)).i ≤ m := by
    have : ∀ (k : Nat) (p : Prb), p.i ≤ m → (leapK m k p).i ≤ m := by
      intro k
      induction k with
      | zero => intro p h; exact h
      | succ k ih => intro p h; exact ih _ (Nat.le_of_lt_succ (Nat.mod_lt _ (Nat.succ_pos _)))
    exact this 12 (leapP m (ip i q)) (Nat.le_of_lt_succ (Nat.mod_lt _ (Nat.succ_pos _)))
  obtain ⟨r, hr, er⟩ := full hm hi hj
  refine free_some owner (turns m) i q (13 + r) (by unfold turns; omega) ?_
  rw [leapK_add, leapK_f m r _ e13, er]
  exact hn
end
end DL
namespace DL
open PySem PySem.Spec PyProof.Rows L2
section
open PySem.SetTable
def layStep (m : Nat) (acc : Option (Array (Option Nat) × Nat)) (h : Int) : Option (Array (Option Nat) × Nat) := do
  let (owner, k) ← acc
  let j ← SetTable.layClean.free m owner (turns m) (bits h % (m + 1)) (bits h)
  pure (owner.setIfInBounds j (some k), k + 1)
theorem bits_lt (h : Int) : bits h < 2 ^ 64 := by
  unfold bits
  have := Int.emod_lt_of_pos h (show (0 : Int) < 2 ^ 64 by decide)
  have := Int.emod_nonneg h (show (2 ^ 64 : Int) ≠ 0 by decide)
  omega
def liveOf (m : Nat) (owner : Array (Option Nat)) : List (Nat × Nat) := (List.range (m + 1)).filterMap fun j => (owner.getD j none).map (j, ·)
theorem live_snd (m : Nat) (owner : Array (Option Nat)) : (liveOf m owner).map (·.2) = vals m owner := by
  unfold liveOf vals
  rw [List.map_filterMap]
  congr 1
  funext j
  cases owner.getD j none <;> rfl
end
end DL
namespace DL
open PySem PySem.Spec PyProof.Rows L2
section
open PySem.SetTable
theorem go_met2 (t : SetTable) (hashAt : Nat → Int) (h : Int) (hd : ∀ j, t.slot j ≠ .dummy) : ∀ (n fuel : Nat) (p : Prb), p.dummy = none → t.slot (advN t n p).j = .empty → n < fuel →
    (∃ n', n' ≤ n ∧ SetTable.probe.go t hashAt h fuel p = some (.empty (advN t n' p).j none) ∧ t.slot (advN t n' p).j = .empty ∧ ∀ k < n', ∃ i, t.slot (advN t k p).j = .live i ∧ hashAt i ≠ h) ∨
    (∃ k i, k < n ∧ SetTable.probe.go t hashAt h fuel p = some (.candidate (advN t k p).j i (advN t (k + 1) p)) ∧ t.slot (advN t k p).j = .live i ∧ hashAt i = h ∧ ∀ k' < k, ∃ i, t.slot (advN t k' p).j = .live i ∧ hashAt i ≠ h)
  | n, 0, p, _, _, hf => by omega
  | n, fuel + 1, p, hdm, he, hf => by
    unfold SetTable.probe.go
    cases hs : t.slot p.j with
    | empty => exact .inl ⟨0, Nat.zero_le _, by simp [hdm]; rfl, hs, fun k hk => by omega⟩
    | dummy => exact absurd hs (hd _)
    | live i =>
      have hn : n ≠ 0 := fun e => by subst e; rw [show advN t 0 p = p from rfl, hs] at he; cases he
      obtain ⟨n, rfl⟩ := Nat.exists_eq_succ_of_ne_zero hn
      by_cases hh : hashAt i = h
      · exact .inr ⟨0, i, by omega, by simp [hh]; exact ⟨rfl, rfl⟩, hs, hh, fun k hk => by omega⟩
      · have hdm' : (t.advance p).dummy = none := by
          unfold SetTable.advance
          split <;> exact hdm
        have pass : ∀ (N : Nat), (∀ k < N, ∃ i, t.slot (advN t k (t.advance p)).j = .live i ∧ hashAt i ≠ h) → ∀ k < N + 1, ∃ i, t.slot (advN t k p).j = .live i ∧ hashAt i ≠ h := fun N hN k hk => by
          cases k with
          | zero => exact ⟨i, hs, hh⟩
          | succ k => exact hN k (by omega)
        rcases go_met2 t hashAt h hd n fuel (t.advance p) hdm' he (by omega) with ⟨n', hn', e, es, hp⟩ | ⟨k, i', hk, e, z1, z2, hp⟩
        · exact .inl ⟨n' + 1, by omega, by simp [hh, e]; rfl, es, pass n' hp⟩
        · exact .inr ⟨k + 1, i', by omega, by simp [hh, e]; exact ⟨rfl, rfl⟩, z1, z2, pass k hp⟩
theorem advN_dummy (t : SetTable) : ∀ (n : Nat) (p : Prb), (advN t n p).dummy = p.dummy
  | 0, p => rfl
  | n + 1, p => by
    show (advN t n (t.advance p)).dummy = _
    rw [advN_dummy t n]
    unfold SetTable.advance
    split <;> rfl
end
theorem class_byValue (n : Nat) {v : Value} (h : carriedByValue v = true) : ofAClassStatement n v = pure false := by
  cases v with
  | ref _ => exact absurd h (by simp [carriedByValue])
  | _ => first | rfl | simp [ofAClassStatement] | (unfold ofAClassStatement; rfl)
section
variable {prog : Program} {w : World} {A : Around} {E : Value → Shared → Prop} {s : Shared}
theorem class_tuple {ks : List Str} {a : Addr} {Q : Bool → Shared → Prop} (n : Nat) (hk : IsTupleKey (sK prog w) s.heap ks a) (h : Q false s) : wpAny (model prog w) A (ofAClassStatement (n + 1) (.ref a)) Q E s := by
  obtain ⟨o, items, c, ho, hc, hd, hi⟩ := id hk
  unfold ofAClassStatement
  refine wpAny_bind (wpAny_typeOf (T := "tuple") ⟨o, ho, hc⟩ ?_)
  dsimp only
  rw [if_pos (by decide)]
  refine wpAny_bind (wpAny_pure ?_)
  rw [if_neg (by decide)]
  refine wpAny_bind (wpAny_seqItems ho hd ?_)
  dsimp only
  refine wpAny_bind ?_
  rw [← Array.forIn_toList]
  refine wpAny_forIn_list _ (fun rest r s' => r.1 = none ∧ s' = s ∧ ∀ v ∈ rest, carriedByValue v = true) _ ?_ ?_ _ _ ⟨rfl, rfl, hi.byValue⟩
  · rintro v rest r s' ⟨hr, rfl, hall⟩
    rw [class_byValue _ (hall v List.mem_cons_self)]
    refine wpAny_bind (wpAny_pure ?_)
    simp only [Bool.false_eq_true, if_false]
    exact wpAny_pure ⟨rfl, rfl, fun u hu' => hall u (List.mem_cons_of_mem _ hu')⟩
  · rintro ⟨r1, r2⟩ s' ⟨hr, rfl, _⟩
    simp only at hr
    subst hr
    exact wpAny_pure h
theorem unseen {ks : List Str} {b : Addr} {stored : List Value} {Q : Bool → Shared → Prop} (hb : IsTupleKey (sK prog w) s.heap ks b) (hs : ∀ v ∈ stored, ∃ c ks', v = .ref c ∧ IsTupleKey (sK prog w) s.heap ks' c) (h : Q false s) : wpAny (model prog w) A (searchCouldBeSeen (.ref b) stored) Q E s := by
  unfold searchCouldBeSeen
  refine wpAny_bind ?_
  refine wpAny_forIn_list _ (fun rest r s' => r.1 = none ∧ s' = s ∧ ∀ v ∈ rest, ∃ c ks', v = .ref c ∧ IsTupleKey (sK prog w) s.heap ks' c) _ ?_ ?_ _ _ ⟨rfl, rfl, hs⟩
  · rintro v rest r s' ⟨hr, rfl, hall⟩
    obtain ⟨c, ks', rfl, hc⟩ := hall v List.mem_cons_self
    have hrest : ∀ v ∈ rest, ∃ c ks', v = .ref c ∧ IsTupleKey (sK prog w) s'.heap ks' c := fun u hu => hall u (List.mem_cons_of_mem _ hu)
    dsimp only
    refine wpAny_ite_split (fun _ => wpAny_pure ⟨rfl, rfl, hrest⟩) (fun _ => ?_)
    refine wpAny_bind (wpAny_eqIsQuiet_tuple hb ?_)
    simp only [Bool.not_true, Bool.false_eq_true, if_false]
    refine wpAny_bind (wpAny_eqIsQuiet_tuple hc ?_)
    simp only [Bool.not_true, Bool.false_eq_true, if_false]
    refine wpAny_bind (class_tuple 7 hb ?_)
    simp only [Bool.false_eq_true, if_false]
    refine wpAny_bind (class_tuple 7 hc ?_)
    simp only [Bool.false_eq_true, if_false]
    exact wpAny_pure ⟨rfl, rfl, hrest⟩
  · rintro ⟨r1, r2⟩ s' ⟨hr, rfl, _⟩
    simp only at hr
    subst hr
    exact wpAny_pure h
end
end DL
namespace DL
open PySem PySem.Spec PyProof.Rows L2
section
open PySem.SetTable
variable {prog : Program} {w : World} {A : Around} {E : Value → Shared → Prop} {s : Shared}
def TupE (prog : Program) (w : World) (h : Heap) (e : Int × Value) : Prop := ∃ c ks, e.2 = .ref c ∧ IsTupleKey (sK prog w) h ks c ∧ e.1 = tupleKeyHash (sK prog w) ks
def IsK (prog : Program) (w : World) (h : Heap) (ks : List Str) (e : Int × Value) : Prop := ∃ c, e.2 = .ref c ∧ IsTupleKey (sK prog w) h ks c
theorem search_go {a b d : Addr} {o : Obj} {es : Array (Int × Value)} {ep : Nat} {t : SetTable} {ks : List Str} {Q : SetFound → Shared → Prop} (ho : s.heap.get? a = some o) (hd : o.data = .set es ep t) (hf : t.fits es.size = true)
    (hm : t.mask = 7 ∨ t.mask = 31) (hdm : t.dummies = #[]) (hes : ∀ e ∈ es.toList, TupE prog w s.heap e) (hb : IsTupleKey (sK prog w) s.heap ks b) (hu : A.units < cLine)
    (hfree : ∀ n, t.slot (advN t n (t.probeStart (tupleKeyHash (sK prog w) ks))).j = .empty → (∀ k < n, ∃ i e, t.slot (advN t k (t.probeStart (tupleKeyHash (sK prog w) ks))).j = .live i ∧ es[i]? = some e ∧ ¬ IsK prog w s.heap ks e) → Q (.free (advN t n (t.probeStart (tupleKeyHash (sK prog w) ks))).j false) s)
    (hthere : (∃ e ∈ es.toList, IsK prog w s.heap ks e) → Q (.there none) s) :
    ∀ (n fuel k0 : Nat) (stand : Option Prb), n < fuel → n < 10 * turns t.mask → stand.getD (t.probeStart (tupleKeyHash (sK prog w) ks)) = advN t k0 (t.probeStart (tupleKeyHash (sK prog w) ks)) →
      t.slot (advN t (k0 + n) (t.probeStart (tupleKeyHash (sK prog w) ks))).j = .empty →
      (∀ k < k0, ∃ i e, t.slot (advN t k (t.probeStart (tupleKeyHash (sK prog w) ks))).j = .live i ∧ es[i]? = some e ∧ ¬ IsK prog w s.heap ks e) →
      wpAny (model prog w) A (setSearchFrom a (.ref b) (tupleKeyHash (sK prog w) ks) true fuel stand) Q E s := by
  generalize hh : tupleKeyHash (sK prog w) ks = h at *
  generalize hp0 : t.probeStart h = p0 at *
  have hd0 : p0.dummy = none := by rw [← hp0]; rfl
  have hgw : t.gaveWay = false := by
    unfold SetTable.gaveWay
    rcases hm with e | e <;> rw [e] <;> rfl
  have hpl : t.place.size = es.size := by simp [SetTable.fits] at hf; exact hf.1
  have entry : ∀ {j i : Nat}, t.slot j = .live i → ∃ e, es[i]? = some e ∧ e ∈ es.toList := fun {j i} hs => by
    have h1 := slot_live hs
    have hlt : i < es.size := by
      rw [← hpl]
      exact (Array.getElem?_eq_some_iff.mp h1).1
    exact ⟨es[i], Array.getElem?_eq_getElem hlt, by simp⟩
  intro n
  induction n using Nat.strongRecOn with
  | _ n ih =>
    intro fuel k0 stand hfu hn hst he hpass
    obtain ⟨fuel, rfl⟩ := Nat.exists_eq_succ_of_ne_zero (show fuel ≠ 0 by omega)
    unfold setSearchFrom
    refine wpAny_bind (wpAny_setState_of ho hd hf ?_)
    dsimp only
    rw [hgw]
    simp only [Bool.false_eq_true, if_false]
    rw [hp0, hst]
    have he' : t.slot (advN t n (advN t k0 p0)).j = .empty := by rw [← advN_add]; exact he
    have passed : ∀ (N : Nat), (∀ k < N, ∃ i, t.slot (advN t k (advN t k0 p0)).j = .live i ∧ (fun i => (es[i]?.map (·.1)).getD 0) i ≠ h) → ∀ k < k0 + N, ∃ i e, t.slot (advN t k p0).j = .live i ∧ es[i]? = some e ∧ ¬ IsK prog w s.heap ks e := fun N hN k hk => by
      by_cases hk0 : k < k0
      · exact hpass k hk0
      · obtain ⟨i, hs, hne⟩ := hN (k - k0) (by omega)
        rw [← advN_add, show k0 + (k - k0) = k by omega] at hs
        obtain ⟨e, e1, e2⟩ := entry hs
        refine ⟨i, e, hs, e1, fun ⟨c, hc, hk⟩ => hne ?_⟩
        obtain ⟨c', ks', hc', hk', hv⟩ := hes e e2
        rw [hc] at hc'
        cases hc'
        have := hk.inj hk'
        subst this
        show (es[i]?.map (·.1)).getD 0 = h
        rw [e1]
        show e.1 = h
        rw [hv, hh]
    rcases go_met2 t (fun i => (es[i]?.map (·.1)).getD 0) h (slot_nd hdm) n (10 * turns t.mask) (advN t k0 p0) (by rw [advN_dummy]; exact hd0) he' hn with ⟨n', hn', e, es1, hp⟩ | ⟨k, i, hk, e, z1, z2, hp⟩
    · have e' : t.probe (fun i => (es[i]?.map (·.1)).getD 0) h (advN t k0 p0) = some (.empty (advN t n' (advN t k0 p0)).j none) := e
      erw [e']
      dsimp only
      refine wpAny_pure ?_
      rw [← advN_add]
      exact hfree (k0 + n') (by rw [advN_add]; exact es1) (passed n' hp)
    · have e' : t.probe (fun i => (es[i]?.map (·.1)).getD 0) h (advN t k0 p0) = some (.candidate (advN t k (advN t k0 p0)).j i (advN t (k + 1) (advN t k0 p0))) := e
      erw [e']
      dsimp only
      obtain ⟨en, e1, e2⟩ := entry z1
      obtain ⟨c, ks', hc, hk', hv⟩ := hes en e2
      obtain ⟨eh, ev⟩ := en
      simp only at hc hv
      subst hc
      have hst' : ∀ v ∈ (es.filter fun e => e.1 == h).toList.map (·.2), ∃ c ks', v = Value.ref c ∧ IsTupleKey (sK prog w) s.heap ks' c := fun v hv => by
        obtain ⟨e, he, rfl⟩ := List.mem_map.mp hv
        have hm2 : e ∈ es.toList := by
          rw [Array.toList_filter] at he
          exact (List.mem_filter.mp he).1
        obtain ⟨c, ks', a1, a2, _⟩ := hes e hm2
        exact ⟨c, ks', a1, a2⟩
      have rest : wpAny (model prog w) A (do
          let some (_, y) := es[i]? | unsupported "internal:set-entry"
          let equal ← holding [y] (eqBool y (.ref b))
          let (es', _, t') ← setState a
          if true && equal then return .there none
          let some same := t'.sameMemory t.moves t.mask | unsupported "set.changed-during-lookup:is-the-new-block-at-the-old-address"
          let still ← match (if same then t'.slot (advN t k (advN t k0 p0)).j else .empty) with
            | .live i' => match es'[i']? with
              | some (_, y') => do pure (if ← isSame y' y then some i' else none)
              | none => pure none
            | _ => pure none
          match still with
          | none => rule "set.search.anew"; setSearchFrom a (.ref b) h true fuel none
          | some i' => if equal then return .there (some i') else setSearchFrom a (.ref b) h true fuel (some (advN t (k + 1) (advN t k0 p0)))) Q E s := by
        rw [e1]
        dsimp only
        refine wpAny_bind (wpAny_holding (wpAny_eqBool_tuple hu hk' hb ?_))
        refine wpAny_bind (wpAny_setState_of ho hd hf ?_)
        dsimp only
        by_cases hkk : ks' = ks
        · subst hkk
          rw [decide_eq_true rfl]
          simp only [Bool.and_self, if_true]
          exact wpAny_pure (hthere ⟨_, e2, c, rfl, hk'⟩)
        · rw [decide_eq_false hkk]
          simp only [Bool.and_false, Bool.false_eq_true, if_false]
          have hsm : t.sameMemory t.moves t.mask = some true := by simp [SetTable.sameMemory]
          rw [hsm]
          dsimp only
          rw [if_pos rfl, z1]
          dsimp only
          rw [e1]
          dsimp only
          have hsame : isSame (.ref c) (.ref c) = pure true := by
            unfold isSame
            dsimp only
            rw [if_pos (by simp)]
          refine wpAny_bind (wpAny_of_eq hsame ?_)
          simp only [if_true]
          refine wpAny_bind (wpAny_pure ?_)
          dsimp only
          have hnot : ¬ IsK prog w s.heap ks (eh, .ref c) := fun ⟨c', hc', hk2⟩ => by
            cases hc'
            exact hkk (hk'.inj hk2)
          refine ih (n - (k + 1)) (by omega) fuel (k0 + (k + 1)) _ (by omega) (by omega) ?_ ?_ fun k' hk'' => ?_
          · exact (advN_add t k0 (k + 1) p0).symm
          · rw [show k0 + (k + 1) + (n - (k + 1)) = k0 + n by omega]; exact he
          · by_cases hlt : k' < k0 + k
            · exact passed k hp k' hlt
            · obtain rfl : k' = k0 + k := by omega
              exact ⟨i, _, by rw [advN_add]; exact z1, e1, hnot⟩
      cases hled : t.led with
      | true =>
        simp only [Bool.not_true, Bool.false_eq_true, if_false]
        exact rest
      | false =>
        simp only [Bool.not_false, if_true]
        refine wpAny_bind (unseen hb hst' ?_)
        simp only [Bool.false_eq_true, if_false]
        exact rest
end
end DL
namespace DL
open PySem PySem.Spec PyProof.Rows L2
section
open PySem.SetTable
def Ris (xs : Array Nat) : Prop := ∀ i k a b : Nat, i < k → xs[i]? = some a → xs[k]? = some b → a < b
theorem below_go {xs : Array Nat} (hr : Ris xs) (j : Nat) : ∀ (fuel lo hi : Nat), hi - lo ≤ fuel → lo ≤ hi → hi ≤ xs.size → (∀ i a, i < lo → xs[i]? = some a → a < j) → (∀ i a, hi ≤ i → xs[i]? = some a → j ≤ a) →
    SetTable.below.go xs j fuel lo hi ≤ xs.size ∧ (∀ i a, i < SetTable.below.go xs j fuel lo hi → xs[i]? = some a → a < j) ∧ (∀ i a, SetTable.below.go xs j fuel lo hi ≤ i → xs[i]? = some a → j ≤ a)
  | 0, lo, hi, h1, h2, h3, h4, h5 => by
    unfold SetTable.below.go
    obtain rfl : lo = hi := by omega
    exact ⟨h3, h4, h5⟩
  | fuel + 1, lo, hi, h1, h2, h3, h4, h5 => by
    unfold SetTable.below.go
    by_cases hlt : lo < hi
    · rw [if_pos hlt]
      dsimp only
      have hm : (lo + hi) / 2 < xs.size := by omega
      have hg : xs.getD ((lo + hi) / 2) j = xs[(lo + hi) / 2] := by simp [Array.getD, hm]
      have hs : xs[(lo + hi) / 2]? = some xs[(lo + hi) / 2] := Array.getElem?_eq_getElem hm
      rw [hg]
      by_cases hc : xs[(lo + hi) / 2] < j
      · rw [if_pos hc]
        refine below_go hr j fuel _ hi (by omega) (by omega) h3 (fun i a hi' ha => ?_) h5
        by_cases hi2 : i = (lo + hi) / 2
        · subst hi2
          rw [hs] at ha
          cases ha
          exact hc
        · exact Nat.lt_trans (hr i _ a _ (by omega) ha hs) hc
      · rw [if_neg hc]
        refine below_go hr j fuel lo _ (by omega) (by omega) (by omega) h4 (fun i a hi' ha => ?_)
        by_cases hi2 : i = (lo + hi) / 2
        · subst hi2
          rw [hs] at ha
          cases ha
          omega
        · have := hr _ i _ a (by omega) hs ha
          omega
    · rw [if_neg hlt]
      obtain rfl : lo = hi := by omega
      exact ⟨h3, h4, h5⟩
theorem below_spec {xs : Array Nat} (hr : Ris xs) (j : Nat) : SetTable.below xs j ≤ xs.size ∧ (∀ i a, i < SetTable.below xs j → xs[i]? = some a → a < j) ∧ (∀ i a, SetTable.below xs j ≤ i → xs[i]? = some a → j ≤ a) :=
  below_go hr j xs.size 0 xs.size (by omega) (by omega) (Nat.le_refl _) (fun i a h => by omega) (fun i a h ha => by
    have := (Array.getElem?_eq_some_iff.mp ha).1
    omega)
theorem below_at {xs : Array Nat} (hr : Ris xs) {i j : Nat} (h : xs[i]? = some j) : SetTable.below xs j = i := by
  obtain ⟨h1, h2, h3⟩ := below_spec hr j
  by_cases hlt : i < SetTable.below xs j
  · have := h2 i j hlt h; omega
  · by_cases hgt : SetTable.below xs j < i
    · have hi := (Array.getElem?_eq_some_iff.mp h).1
      have hb : xs[SetTable.below xs j]? = some xs[SetTable.below xs j] := Array.getElem?_eq_getElem (by omega)
      have a1 := h3 _ _ (Nat.le_refl _) hb
      have a2 := hr _ i _ j hgt hb h
      omega
    · omega
theorem slot_at {t : SetTable} (hr : Ris t.place) {i j : Nat} (h : t.place[i]? = some j) : t.slot j = .live i := by
  unfold SetTable.slot
  dsimp only
  rw [below_at hr h, if_pos (by simp [h])]
theorem ins_get {α : Type} (xs : Array α) (p : Nat) (x : α) (hp : p ≤ xs.size) (i : Nat) : (SetTable.insertAt xs p x)[i]? = if i < p then xs[i]? else if i = p then some x else xs[i - 1]? := by
  rw [← Array.getElem?_toList, SetTable.toList_insertAt]
  have hl : (xs.toList.take p).length = p := by rw [List.length_take, Array.length_toList]; omega
  by_cases h1 : i < p
  · rw [if_pos h1, List.getElem?_append_left (by omega), List.getElem?_take, if_pos h1, Array.getElem?_toList]
  · rw [if_neg h1, List.getElem?_append_right (by omega), hl]
    by_cases h2 : i = p
    · rw [if_pos h2, h2, Nat.sub_self]; rfl
    · rw [if_neg h2]
      obtain ⟨k, hk⟩ : ∃ k, i - p = k + 1 := ⟨i - p - 1, by omega⟩
      rw [hk, List.getElem?_cons_succ, List.getElem?_drop, Array.getElem?_toList]
      congr 1
      omega
theorem ins_ris {xs : Array Nat} (hr : Ris xs) {j : Nat} (hj : ∀ i : Nat, xs[i]? ≠ some j) : Ris (SetTable.insertAt xs (SetTable.below xs j) j) := by
  obtain ⟨h1, h2, h3⟩ := below_spec hr j
  intro i k a b hik ha hb
  rw [ins_get xs _ j h1] at ha hb
  generalize SetTable.below xs j = p at *
  by_cases i1 : i < p
  · rw [if_pos i1] at ha
    by_cases k1 : k < p
    · rw [if_pos k1] at hb
      exact hr i k a b hik ha hb
    · rw [if_neg k1] at hb
      by_cases k2 : k = p
      · rw [if_pos k2] at hb
        cases hb
        exact h2 i a i1 ha
      · rw [if_neg k2] at hb
        exact hr i (k - 1) a b (by omega) ha hb
  · rw [if_neg i1] at ha
    have k1 : ¬ k < p := by omega
    have k2 : ¬ k = p := by omega
    rw [if_neg k1, if_neg k2] at hb
    by_cases i2 : i = p
    · rw [if_pos i2] at ha
      cases ha
      have := h3 (k - 1) b (by omega) hb
      have hne : b ≠ j := fun e => hj (k - 1) (by rw [← e]; exact hb)
      omega
    · rw [if_neg i2] at ha
      exact hr (i - 1) (k - 1) a b (by omega) ha hb
end
end DL
namespace DL
open PySem PySem.Spec PyProof.Rows L2
section
open PySem.SetTable
def Rch (t : SetTable) (h : Int) (j : Nat) : Prop := ∃ n, (advN t n (t.probeStart h)).j = j ∧ ∀ k < n, t.slot (advN t k (t.probeStart h)).j ≠ .empty
structure TOk (t : SetTable) (es : Array (Int × Value)) : Prop where
  m : t.mask = 7 ∨ t.mask = 31
  d : t.dummies = #[]
  z : t.place.size = es.size
  r : Ris t.place
  q : ∀ (i j : Nat) (e : Int × Value), t.place[i]? = some j → es[i]? = some e → Rch t e.1 j
theorem adv_mask {t t' : SetTable} (h : t'.mask = t.mask) (p : Prb) : t'.advance p = t.advance p := by
  unfold SetTable.advance
  rw [h]
theorem advN_mask {t t' : SetTable} (h : t'.mask = t.mask) : ∀ (n : Nat) (p : Prb), advN t' n p = advN t n p
  | 0, _ => rfl
  | n + 1, p => by
    show advN t' n (t'.advance p) = advN t n (t.advance p)
    rw [adv_mask h, advN_mask h n]
theorem start_mask {t t' : SetTable} (h : t'.mask = t.mask) (k : Int) : t'.probeStart k = t.probeStart k := by
  unfold SetTable.probeStart
  rw [h]
theorem Rch.mono {t t' : SetTable} (hm : t'.mask = t.mask) (hs : ∀ j, t.slot j ≠ .empty → t'.slot j ≠ .empty) {h : Int} {j : Nat} (x : Rch t h j) : Rch t' h j := by
  obtain ⟨n, e, hk⟩ := x
  refine ⟨n, by rw [start_mask hm, advN_mask hm]; exact e, fun k hk' => ?_⟩
  rw [start_mask hm, advN_mask hm]
  exact hs _ (hk k hk')
theorem slot_empty {t : SetTable} (hr : Ris t.place) {j : Nat} (h : t.slot j = .empty) (i : Nat) : t.place[i]? ≠ some j := fun e => by
  rw [slot_at hr e] at h
  cases h
theorem slot_some {t : SetTable} (hd : t.dummies = #[]) {j : Nat} (h : t.slot j ≠ .empty) : ∃ i, t.slot j = .live i := by
  cases hs : t.slot j with
  | empty => exact absurd hs h
  | dummy => exact absurd hs (slot_nd hd j)
  | live i => exact ⟨i, rfl⟩
theorem put_eq {t : SetTable} (hd : t.dummies = #[]) (j : Nat) : t.put j = ({ t with place := SetTable.insertAt t.place (SetTable.below t.place j) j }, SetTable.below t.place j) := by
  unfold SetTable.put
  dsimp only
  rw [hd, has_none]
  simp [← hd]
theorem put_ok {t : SetTable} {es : Array (Int × Value)} (T : TOk t es) {j : Nat} {h : Int} {x : Value} (hs : t.slot j = .empty) (hR : Rch t h j) : TOk (t.put j).1 (SetTable.insertAt es (t.put j).2 (h, x)) := by
  rw [put_eq T.d]
  dsimp only
  have hr' := ins_ris T.r (slot_empty T.r hs)
  obtain ⟨hb, _, _⟩ := below_spec T.r j
  have hbe : SetTable.below t.place j ≤ es.size := by rw [← T.z]; exact hb
  generalize hp : SetTable.below t.place j = p at *
  have hm : ({ t with place := SetTable.insertAt t.place p j } : SetTable).mask = t.mask := rfl
  have keep : ∀ j', t.slot j' ≠ .empty → ({ t with place := SetTable.insertAt t.place p j } : SetTable).slot j' ≠ .empty := fun j' hj' => by
    obtain ⟨i, hi⟩ := slot_some T.d hj'
    have h1 := slot_live hi
    have h2 : ∃ i' : Nat, (SetTable.insertAt t.place p j)[i']? = some j' := by
      by_cases hlt : i < p
      · exact ⟨i, by rw [ins_get _ _ _ hb, if_pos hlt]; exact h1⟩
      · exact ⟨i + 1, by rw [ins_get _ _ _ hb, if_neg (by omega), if_neg (by omega)]; exact h1⟩
    obtain ⟨i', h2⟩ := h2
    have := slot_at (t := { t with place := SetTable.insertAt t.place p j }) hr' h2
    rw [this]
    simp
  refine ⟨T.m, T.d, ?_, hr', fun i j' e h1 h2 => ?_⟩
  · have l1 : ∀ {α : Type} (xs : Array α) (x : α), (SetTable.insertAt xs p x).size = xs.size + 1 := fun xs x => by
      have := (SetTable.insertAt_perm xs p x).length_eq
      rw [Array.length_toList, Array.length_toList, Array.size_push] at this
      exact this
    show (SetTable.insertAt t.place p j).size = _
    rw [l1, l1, T.z]
  · have h1 : (SetTable.insertAt t.place p j)[i]? = some j' := h1
    rw [ins_get _ _ _ hb] at h1
    rw [ins_get _ _ _ hbe] at h2
    by_cases i1 : i < p
    · rw [if_pos i1] at h1 h2
      exact (T.q i j' e h1 h2).mono hm keep
    · rw [if_neg i1] at h1 h2
      by_cases i2 : i = p
      · rw [if_pos i2] at h1 h2
        cases h1
        cases h2
        exact hR.mono hm keep
      · rw [if_neg i2] at h1 h2
        exact (T.q (i - 1) j' e h1 h2).mono hm keep
end
end DL
namespace DL
open PySem PySem.Spec PyProof.Rows L2
section
open PySem.SetTable
def Occ (owner : Array (Option Nat)) (x : Nat) : Prop := ∃ v, owner[x]? = some (some v)
def Pth (T : SetTable) (owner : Array (Option Nat)) (p : Prb) (j : Nat) : Prop := ∃ n, (advN T n p).j = j ∧ ∀ k < n, Occ owner (advN T k p).j
theorem run_j (T : SetTable) : ∀ (k : Nat) (p : Prb), k ≤ p.more → (advN T k p).j = p.j + k
  | 0, p, _ => rfl
  | k + 1, p, h => by
    have e : T.advance p = { p with j := p.j + 1, more := p.more - 1 } := by
      unfold SetTable.advance
      rw [if_pos (by omega)]
    show (advN T k (T.advance p)).j = _
    rw [e, run_j T k _ (by show k ≤ p.more - 1; omega)]
    show p.j + 1 + k = _
    omega
theorem run_end {m i : Nat} (h : i ≤ m) : i ≤ runEnd m i ∧ runEnd m i ≤ m := by
  unfold runEnd
  split <;> omega
theorem occ_of {owner : Array (Option Nat)} {x : Nat} (hx : x < owner.size) (h : ¬ (owner.getD x (some 0)).isNone = true) : Occ owner x := by
  have e : owner.getD x (some 0) = owner[x] := by simp [Array.getD, hx]
  rw [e] at h
  cases hv : owner[x] with
  | none => rw [hv] at h; exact absurd rfl h
  | some v => exact ⟨v, by rw [Array.getElem?_eq_getElem hx, hv]⟩
def at0 (m i q : Nat) : Prb := { j := i, more := runEnd m i - i, i := i, perturb := q, dummy := none }
theorem free_path {T : SetTable} {m : Nat} (hT : T.mask = m) {owner : Array (Option Nat)} (hs : owner.size = m + 1) : ∀ (fuel i q j : Nat), i ≤ m → SetTable.layClean.free m owner fuel i q = some j → Pth T owner (at0 m i q) j
  | 0, i, q, j, _, h => by simp [SetTable.layClean.free] at h
  | fuel + 1, i, q, j, hi, h => by
    obtain ⟨r1, r2⟩ := run_end hi
    unfold SetTable.layClean.free at h
    cases hf : (List.range (runEnd m i + 1 - i)).find? fun k => (owner.getD (i + k) (some 0)).isNone with
    | some k =>
      rw [hf] at h
      cases h
      have hk : k < runEnd m i + 1 - i := by
        have := List.mem_of_find?_eq_some hf
        simpa using this
      refine ⟨k, run_j T k _ (by show k ≤ runEnd m i - i; omega), fun k' hk' => ?_⟩
      rw [run_j T k' _ (by show k' ≤ runEnd m i - i; omega)]
      show Occ owner (i + k')
      refine occ_of (by omega) fun hn => ?_
      rw [List.find?_range_eq_some] at hf
      have := hf.2.2 k' hk'
      rw [hn] at this
      exact absurd this (by decide)
    | none =>
      rw [hf] at h
      rw [List.find?_eq_none] at hf
      have ih := free_path hT hs fuel ((i * 5 + 1 + q / 32) % (m + 1)) (q / 32) j (Nat.le_of_lt_succ (Nat.mod_lt _ (Nat.succ_pos _))) h
      obtain ⟨n, e, hp⟩ := ih
      have el : advN T (runEnd m i - i + 1) (at0 m i q) = at0 m ((i * 5 + 1 + q / 32) % (m + 1)) (q / 32) := by
        rw [run_leap T (runEnd m i - i) (at0 m i q) rfl, hT]; rfl
      refine ⟨(runEnd m i - i + 1) + n, by rw [advN_add, el]; exact e, fun k hk => ?_⟩
      by_cases h1 : k ≤ runEnd m i - i
      · rw [run_j T k _ h1]
        show Occ owner (i + k)
        exact occ_of (by omega) (hf k (by rw [List.mem_range]; omega))
      · obtain ⟨k', rfl⟩ : ∃ k', k = (runEnd m i - i + 1) + k' := ⟨k - (runEnd m i - i + 1), by omega⟩
        rw [advN_add, el]
        exact hp k' (by omega)
theorem Occ.set {owner : Array (Option Nat)} {x j k : Nat} (h : Occ owner x) : Occ (owner.setIfInBounds j (some k)) x := by
  obtain ⟨v, e⟩ := h
  by_cases hx : j = x
  · subst hx
    have hlt := (Array.getElem?_eq_some_iff.mp e).1
    exact ⟨k, by rw [Array.getElem?_setIfInBounds_self_of_lt hlt]⟩
  · exact ⟨v, by rw [Array.getElem?_setIfInBounds_ne hx]; exact e⟩
theorem Pth.set {T : SetTable} {owner : Array (Option Nat)} {p : Prb} {x j k : Nat} (h : Pth T owner p x) : Pth T (owner.setIfInBounds j (some k)) p x :=
  let ⟨n, e, hp⟩ := h; ⟨n, e, fun k' hk => (hp k' hk).set⟩
theorem lay_fold2 {T : SetTable} {m : Nat} (hT : T.mask = m) (hm : m = 7 ∨ m = 31) (H : List Int) : ∀ (hs : List Int) (pre : List Int) (owner : Array (Option Nat)), H = pre ++ hs → owner.size = m + 1 → (vals m owner).Perm (List.range pre.length) → H.length ≤ m + 1 →
    (∀ j v, owner[j]? = some (some v) → ∃ h, H[v]? = some h ∧ Pth T owner (T.probeStart h) j) →
    ∃ owner', hs.foldl (layStep m) (some (owner, pre.length)) = some (owner', H.length) ∧ owner'.size = m + 1 ∧ (vals m owner').Perm (List.range H.length) ∧ (∀ j v, owner'[j]? = some (some v) → ∃ h, H[v]? = some h ∧ Pth T owner' (T.probeStart h) j)
  | [], pre, owner, hH, h1, h2, _, h4 => ⟨owner, by rw [hH]; simp, h1, by rw [hH]; simpa using h2, h4⟩
  | h :: hs, pre, owner, hH, h1, h2, h3, h4 => by
    have hl : H.length = pre.length + (hs.length + 1) := by rw [hH, List.length_append, List.length_cons]
    obtain ⟨j, ej⟩ := free_found hm h1 h2 (by omega) (i := bits h % (m + 1)) (bits_lt h)
    have hn := free_none _ _ _ _ _ ej
    obtain ⟨s1, s2⟩ := vals_step h1 hn pre.length
    have h5 : (vals m (owner.setIfInBounds j (some pre.length))).Perm (List.range (pre ++ [h]).length) := by
      rw [List.length_append, List.length_cons, List.length_nil]
      refine s2.trans ((h2.cons pre.length).trans ?_)
      rw [List.range_succ]
      exact (List.perm_append_singleton pre.length (List.range pre.length)).symm
    have hpth : Pth T owner (T.probeStart h) j := by
      have := free_path hT h1 _ _ _ _ (Nat.le_of_lt_succ (Nat.mod_lt _ (Nat.succ_pos _))) ej
      have e : T.probeStart h = at0 m (bits h % (m + 1)) (bits h) := by
        unfold SetTable.probeStart at0
        rw [hT]
      rw [e]; exact this
    have h6 : ∀ j' v, (owner.setIfInBounds j (some pre.length))[j']? = some (some v) → ∃ h, H[v]? = some h ∧ Pth T (owner.setIfInBounds j (some pre.length)) (T.probeStart h) j' := fun j' v e => by
      by_cases hj : j = j'
      · subst hj
        have hlt : j < owner.size := by
          have := (Array.getElem?_eq_some_iff.mp e).1
          simpa using this
        rw [Array.getElem?_setIfInBounds_self_of_lt hlt] at e
        have ev : v = pre.length := by simpa using e.symm
        subst ev
        exact ⟨h, by rw [hH]; simp, hpth.set⟩
      · rw [Array.getElem?_setIfInBounds_ne hj] at e
        obtain ⟨h', e1, e2⟩ := h4 j' v e
        exact ⟨h', e1, e2.set⟩
    obtain ⟨o', e, f1, f2, f3⟩ := lay_fold2 hT hm H hs (pre ++ [h]) _ (by rw [hH]; simp) s1 h5 h3 h6
    have est : layStep m (some (owner, pre.length)) h = some (owner.setIfInBounds j (some pre.length), pre.length + 1) := by
      unfold layStep
      show (SetTable.layClean.free m owner (turns m) (bits h % (m + 1)) (bits h)).bind _ = _
      rw [ej]; rfl
    refine ⟨o', ?_, f1, f2, f3⟩
    rw [List.foldl_cons, est]
    rw [List.length_append, List.length_cons, List.length_nil] at e
    exact e
end
end DL
namespace DL
open PySem PySem.Spec PyProof.Rows L2
section
open PySem.SetTable
theorem live_pw (m : Nat) (owner : Array (Option Nat)) : (liveOf m owner).Pairwise fun a b => a.1 < b.1 := by
  unfold liveOf
  rw [List.pairwise_filterMap]
  refine (List.pairwise_lt_range (n := m + 1)).imp fun {a b} hab x hx y hy => ?_
  simp only [Option.map_eq_some_iff] at hx hy
  obtain ⟨_, _, rfl⟩ := hx
  obtain ⟨_, _, rfl⟩ := hy
  exact hab
theorem live_mem {m : Nat} {owner : Array (Option Nat)} (hs : owner.size = m + 1) {j v : Nat} : (j, v) ∈ liveOf m owner ↔ owner[j]? = some (some v) := by
  unfold liveOf
  simp only [List.mem_filterMap, List.mem_range, Option.map_eq_some_iff, Prod.mk.injEq]
  constructor
  · rintro ⟨a, ha, b, hb, rfl, rfl⟩
    have hlt : a < owner.size := by omega
    have e : owner.getD a none = owner[a] := by simp [Array.getD, hlt]
    rw [e] at hb
    rw [Array.getElem?_eq_getElem hlt, hb]
  · intro h
    obtain ⟨hlt, e⟩ := Array.getElem?_eq_some_iff.mp h
    exact ⟨j, by omega, v, by simp [Array.getD, hlt, e], rfl, rfl⟩
theorem relay_tok {t : SetTable} {es : Array (Int × Value)} {m wanted : Nat} (hm : m = 7 ∨ m = 31) (hw : sizeAbove wanted - 1 = m) (hn : es.size ≤ m) :
    ∃ t' o, t.relaid (es.map (·.1)) wanted = some (t', o) ∧ (o.filterMap (es[·]?)).toList.Perm es.toList ∧ TOk t' (o.filterMap (es[·]?)) ∧ t'.mask = m ∧ t'.led = t.led ∧ t'.plain = t.plain := by
  have hH : (es.map (·.1)).toList.length = es.size := by simp
  have h0 : (vals m (Array.replicate (m + 1) (none : Option Nat))).Perm (List.range ([] : List Int).length) := by
    rw [vals_eq (by simp)]
    simp
  obtain ⟨owner, e, h1, h2, h3⟩ := lay_fold2 (T := { t with mask := m }) (m := m) rfl hm (es.map (·.1)).toList (es.map (·.1)).toList [] (Array.replicate (m + 1) none) rfl (by simp) h0 (by rw [hH]; omega) (fun j v e => by
    have := (Array.getElem?_eq_some_iff.mp e).2
    simp at this)
  rw [hH] at h2 e
  have hclean : SetTable.layClean m (es.map (·.1)) = some owner := by
    unfold SetTable.layClean
    show ((es.map (·.1)).foldl (layStep m) (some (Array.replicate (m + 1) none, 0))).map (·.1) = _
    rw [← Array.foldl_toList]
    have e' : List.foldl (layStep m) (some (Array.replicate (m + 1) none, 0)) (es.map (·.1)).toList = some (owner, es.size) := e
    rw [e']; rfl
  refine ⟨{ mask := m, place := ((liveOf m owner).map (·.1)).toArray, dummies := #[], finger := t.finger, led := t.led, moves := t.movedTo m, plain := t.plain }, ((liveOf m owner).map (·.2)).toArray, ?_, ?_, ?_, rfl, rfl, rfl⟩
  · unfold SetTable.relaid SetTable.laid
    rw [hw, hclean]
    rfl
  · rw [Array.toList_filterMap]
    show (((liveOf m owner).map (·.2)).filterMap (es[·]?)).Perm _
    rw [live_snd]
    exact (h2.filterMap _).trans (by rw [filterMap_getElem?_range])
  · have hv : ∀ p ∈ liveOf m owner, p.2 < es.size := fun p hp => by
      have : p.2 ∈ vals m owner := by rw [← live_snd]; exact List.mem_map_of_mem hp
      simpa using h2.mem_iff.mp this
    have eL : ∀ (L : List (Nat × Nat)), (∀ p ∈ L, p.2 < es.size) → ∀ i : Nat, ((L.map (·.2)).filterMap (es[·]?))[i]? = (L[i]?).bind fun p => es[p.2]? := by
      intro L
      induction L with
      | nil => intro _ i; simp
      | cons p r ih =>
        intro hp i
        have hlt := hp p (by simp)
        rw [List.map_cons, List.filterMap_cons, Array.getElem?_eq_getElem hlt]
        cases i with
        | zero => simp [hlt]
        | succ i => simpa using ih (fun x hx => hp x (by simp [hx])) i
    have hlen : ((liveOf m owner).map (·.1)).length = es.size := by
      have := congrArg List.length (live_snd m owner)
      rw [List.length_map] at this ⊢
      rw [this, h2.length_eq, List.length_range]
    have hris : Ris ((liveOf m owner).map (·.1)).toArray := fun i k a b hik ha hb => by
      have hp : ((liveOf m owner).map (·.1)).Pairwise (· < ·) := by rw [List.pairwise_map]; exact live_pw m owner
      rw [List.getElem?_toArray] at ha hb
      obtain ⟨hi, rfl⟩ := List.getElem?_eq_some_iff.mp ha
      obtain ⟨hk, rfl⟩ := List.getElem?_eq_some_iff.mp hb
      exact List.pairwise_iff_getElem.mp hp i k hi hk hik
    refine ⟨hm, rfl, ?_, hris, fun i j e' hp he => ?_⟩
    · show ((liveOf m owner).map (·.1)).toArray.size = _
      rw [List.size_toArray, hlen, ← Array.length_toList, ← Array.length_toList, Array.toList_filterMap]
      show _ = (((liveOf m owner).map (·.2)).filterMap (es[·]?)).length
      rw [live_snd, (h2.filterMap _).length_eq, filterMap_getElem?_range]
    · have hp : ((liveOf m owner).map (·.1)).toArray[i]? = some j := hp
      rw [List.getElem?_toArray, List.getElem?_map, Option.map_eq_some_iff] at hp
      obtain ⟨⟨j', v⟩, hl, rfl⟩ := hp
      rw [← Array.getElem?_toList, Array.toList_filterMap] at he
      have he : (((liveOf m owner).map (·.2)).filterMap (es[·]?))[i]? = some e' := he
      rw [eL _ hv, hl] at he
      have he : es[v]? = some e' := he
      have ho := (live_mem h1).mp (List.mem_of_getElem? hl)
      obtain ⟨h, hh, n, en, hpn⟩ := h3 j' v ho
      have hh' : h = e'.1 := by
        rw [Array.getElem?_toList, Array.getElem?_map, he] at hh
        simpa using hh.symm
      subst hh'
      have hmk : ({ mask := m, place := ((liveOf m owner).map (·.1)).toArray, dummies := #[], finger := t.finger, led := t.led, moves := t.movedTo m, plain := t.plain } : SetTable).mask = ({ t with mask := m } : SetTable).mask := rfl
      refine ⟨n, by rw [start_mask hmk, advN_mask hmk]; exact en, fun k hk => ?_⟩
      rw [start_mask hmk, advN_mask hmk]
      obtain ⟨u, hu⟩ := hpn k hk
      have hmem := (live_mem h1).mpr hu
      obtain ⟨i', hi', ei'⟩ := List.getElem_of_mem hmem
      have hpl : ((liveOf m owner).map (·.1)).toArray[i']? = some (advN { t with mask := m } k (({ t with mask := m } : SetTable).probeStart e'.1)).j := by
        rw [List.getElem?_toArray, List.getElem?_map, List.getElem?_eq_getElem hi', ei']; rfl
      rw [slot_at (t := { mask := m, place := ((liveOf m owner).map (·.1)).toArray, dummies := #[], finger := t.finger, led := t.led, moves := t.movedTo m, plain := t.plain }) hris hpl]
      simp
end
end DL
namespace DL
open PySem PySem.Spec PyProof.Rows L2
section
open PySem.SetTable
variable {prog : Program} {w : World} {A : Around} {E : Value → Shared → Prop} {s : Shared}
def SetP (prog : Program) (w : World) (C : Addr → Prop) (h : Heap) (a : Addr) (S : List (List Str)) : Prop :=
  ∃ o es ep t, h.get? a = some o ∧ o.ExactSet ∧ o.data = .set es ep t ∧ TOk t es ∧ (∀ e ∈ es.toList, TupE prog w h e) ∧ (t.mask = 7 ∧ es.size ≤ 4 ∨ t.mask = 31 ∧ es.size ≤ 17)
    ∧ (∀ ks, ks ∈ S ↔ ∃ e ∈ es.toList, IsK prog w h ks e) ∧ es.size = S.length ∧ (0 < es.size → t.plain = false) ∧ t.led = !sBy w ∧ ∀ e ∈ es.toList, ∃ c, e.2 = .ref c ∧ C c
theorem TOk.fits {t : SetTable} {es : Array (Int × Value)} (T : TOk t es) (h : es.size ≤ t.mask) : t.fits es.size = true := by
  unfold SetTable.fits SetTable.fill
  rw [T.z, T.d]
  simp
  exact h
theorem key_keep {h h' : Heap} {a c : Addr} {o : Obj} {ks : List Str} (ho : h.get? a = some o) (hex : o.ExactSet) (hs : Heap.SameBut a h h') (hk : IsTupleKey (sK prog w) h ks c) : IsTupleKey (sK prog w) h' ks c := by
  obtain ⟨oc, items, n, h1, h2, h3⟩ := hk
  have hne : c ≠ a := fun e => by
    subst e
    rw [ho] at h1
    cases h1
    rw [hex.1] at h2
    exact absurd h2 (by decide)
  exact ⟨oc, items, n, by rw [hs.2 c hne]; exact h1, h2, h3⟩
theorem value_tuple {ks : List Str} {a : Addr} {Q : Bool → Shared → Prop} (hne : ks ≠ []) (hk : IsTupleKey (sK prog w) s.heap ks a) (h : Q false s) : wpAny (model prog w) A (hashByValue 8 (.ref a)) Q E s := by
  have hT := hk.typeIs
  obtain ⟨o, items, n, ho, _, hd, hi⟩ := id hk
  unfold hashByValue
  refine wpAny_bind (wpAny_specialOf hT F.slot_tuple_hash.lookup ?_)
  show wpAny _ _ (seqItems? (.ref a) >>= fun its => do
      for x in its.getD #[.ellipsis] do
        if !(← hashByValue 7 x) then return false
      return true) _ _ s
  refine wpAny_bind (wpAny_seqItems ho hd ?_)
  show wpAny _ _ ((forIn items _ _) >>= _) _ _ s
  rw [← Array.forIn_toList]
  generalize items.toList = L at hi
  cases hi with
  | nil => exact absurd rfl hne
  | cons h1 h2 =>
    rename_i k v ks vs
    have hv : hashByValue 7 v = pure false := by
      have h1' : Value.isStrOf k v = true := h1
      cases v <;> first | rfl | (simp [Value.isStrOf] at h1')
    rw [List.forIn_cons, hv]
    refine wpAny_bind ?_
    refine wpAny_bind (wpAny_bind (wpAny_pure ?_))
    simp only [Bool.not_false, if_true]
    refine wpAny_pure ?_
    refine wpAny_pure ?_
    exact wpAny_pure h
end
end DL
namespace DL
open PySem PySem.Spec PyProof.Rows L2
section
open PySem.SetTable
variable {prog : Program} {w : World} {A : Around} {E : Value → Shared → Prop} {s : Shared}
theorem not_there {h : Heap} {t : SetTable} {es : Array (Int × Value)} {ks : List Str} (T : TOk t es) (hes : ∀ e ∈ es.toList, TupE prog w h e) {n : Nat}
    (he : t.slot (advN t n (t.probeStart (tupleKeyHash (sK prog w) ks))).j = .empty) (hp : ∀ k < n, ∃ i e, t.slot (advN t k (t.probeStart (tupleKeyHash (sK prog w) ks))).j = .live i ∧ es[i]? = some e ∧ ¬ IsK prog w h ks e) : ¬ ∃ e ∈ es.toList, IsK prog w h ks e := by
  rintro ⟨e, hm, c, hc, hk⟩
  obtain ⟨c', ks', hc', hk', hv⟩ := hes e hm
  rw [hc] at hc'
  cases hc'
  have := hk.inj hk'
  subst this
  obtain ⟨i, hi, ei⟩ := List.getElem_of_mem hm
  have hi' : i < es.size := by simpa using hi
  have e1 : es[i]? = some e := by rw [Array.getElem?_eq_getElem hi', ← ei]; simp
  have hpi : t.place[i]? = some (t.place[i]'(by rw [T.z]; exact hi')) := Array.getElem?_eq_getElem _
  obtain ⟨n', en, hn'⟩ := T.q i _ e hpi e1
  rw [hv] at en hn'
  have hsl := slot_at T.r hpi
  rw [← en] at hsl
  rcases Nat.lt_trichotomy n' n with hlt | rfl | hgt
  · obtain ⟨i2, e2, a1, a2, a3⟩ := hp n' hlt
    rw [hsl] at a1
    cases a1
    rw [e1] at a2
    cases a2
    exact a3 ⟨c, hc, hk⟩
  · rw [he] at hsl; cases hsl
  · exact hn' n hgt he
theorem store_get {h : Heap} {a : Addr} {o : Obj} {es : Array (Int × Value)} {ep : Nat} {t : SetTable} (ho : h.get? a = some o) (hd : o.data = .set es ep t) (es' : Array (Int × Value)) (t' : SetTable) :
    (h.update a (Obj.putSet es' t')).get? a = some { o with data := .set es' (ep + 1) t' } := by
  have := Heap.get?_update_self (Obj.putSet es' t') ho (by rw [putSet_of es' t' hd]; rfl)
  rw [putSet_of es' t' hd] at this; exact this
theorem tuple_keep {h h' : Heap} {a : Addr} {o : Obj} (ho : h.get? a = some o) (hex : o.ExactSet) (hs : Heap.SameBut a h h') {e : Int × Value} (x : TupE prog w h e) : TupE prog w h' e := by
  obtain ⟨c, ks, e1, hk, e2⟩ := x
  exact ⟨c, ks, e1, key_keep ho hex hs hk, e2⟩
theorem setP_of {h h' : Heap} {a b : Addr} {o o' : Obj} {es es' : Array (Int × Value)} {ep' : Nat} {t' : SetTable} {S : List (List Str)} {ks : List Str} {C : Addr → Prop} (ho : h.get? a = some o) (hex : o.ExactSet) (hs : Heap.SameBut a h h') (ho' : h'.get? a = some o') (hex' : o'.ExactSet) (hd' : o'.data = .set es' ep' t')
    (T : TOk t' es') (hp : es'.toList.Perm (es.toList ++ [(tupleKeyHash (sK prog w) ks, .ref b)])) (hes : ∀ e ∈ es.toList, TupE prog w h e) (hb : IsTupleKey (sK prog w) h ks b) (hmk : t'.mask = 7 ∧ es'.size ≤ 4 ∨ t'.mask = 31 ∧ es'.size ≤ 17)
    (hS : ∀ k, k ∈ S ↔ ∃ e ∈ es.toList, IsK prog w h k e) (hz : es.size = S.length) (hpl : t'.plain = false) (hle : t'.led = !sBy w) (hC : ∀ e ∈ es.toList, ∃ c, e.2 = .ref c ∧ C c) (hCb : C b) : SetP prog w C h' a (S ++ [ks]) := by
  have hb' := key_keep (prog := prog) (w := w) ho hex hs hb
  refine ⟨o', es', ep', t', ho', hex', hd', T, fun e he => ?_, hmk, fun k => ?_, ?_, fun _ => hpl, hle, fun e he => ?_⟩
  · rcases List.mem_append.mp (hp.mem_iff.mp he) with he | he
    · exact tuple_keep ho hex hs (hes e he)
    · rw [List.mem_singleton.mp he]
      exact ⟨b, ks, rfl, hb', rfl⟩
  · rw [List.mem_append, List.mem_singleton]
    constructor
    · rintro (hk | rfl)
      · obtain ⟨e, he, c, hc, hk2⟩ := (hS k).mp hk
        exact ⟨e, hp.mem_iff.mpr (List.mem_append_left _ he), c, hc, key_keep ho hex hs hk2⟩
      · exact ⟨_, hp.mem_iff.mpr (List.mem_append_right _ (List.mem_singleton.mpr rfl)), b, rfl, hb'⟩
    · rintro ⟨e, he, c, hc, hk⟩
      rcases List.mem_append.mp (hp.mem_iff.mp he) with he | he
      · left
        obtain ⟨c', ks', hc', hk', _⟩ := hes e he
        rw [hc] at hc'
        cases hc'
        have := hk.inj (key_keep ho hex hs hk')
        subst this
        exact (hS _).mpr ⟨e, he, c, hc, hk'⟩
      · right
        rw [List.mem_singleton.mp he] at hc
        cases hc
        exact hk.inj hb'
  · have := hp.length_eq
    rw [List.length_append, Array.length_toList, Array.length_toList] at this
    rw [this, List.length_append, hz]; rfl
  · rcases List.mem_append.mp (hp.mem_iff.mp he) with he | he
    · exact hC e he
    · rw [List.mem_singleton.mp he]
      exact ⟨b, rfl, hCb⟩
end
end DL
namespace DL
open PySem PySem.Spec PyProof.Rows L2
section
open PySem.SetTable
variable {prog : Program} {w : World} {A : Around} {E : Value → Shared → Prop} {s : Shared}
theorem TOk.plainOff {t : SetTable} {es : Array (Int × Value)} (T : TOk t es) (b : Bool) : TOk { t with plain := b } es := by
  refine ⟨T.m, T.d, T.z, T.r, fun i j e h1 h2 => ?_⟩
  exact Rch.mono (t := t) (t' := { t with plain := b }) rfl (fun j hj => hj) (T.q i j e h1 h2)
theorem addP {a b : Addr} {S : List (List Str)} {ks : List Str} {Q : Bool → Shared → Prop} {C : Addr → Prop} (hS : SetP prog w C s.heap a S) (hCb : C b) (hlen : S.length ≤ 8) (hb : IsTupleKey (sK prog w) s.heap ks b) (hne : ks ≠ []) (hu : A.units < cLine)
    (h : ∀ h', Heap.SameBut a s.heap h' → SetP prog w C h' a (if ks ∈ S then S else S ++ [ks]) → Q (!decide (ks ∈ S)) { s with heap := h' }) :
    wpAny (model prog w) A (setAddHashed a (.ref b) (tupleKeyHash (sK prog w) ks)) Q E s := by
  have hS0 := hS
  obtain ⟨o, es, ep, t, ho, hex, hd, T, hes, hmk, hmem, hz, hpl, hle, hC⟩ := hS
  have hfm : es.size ≤ t.mask := by omega
  have hf := T.fits hfm
  unfold setAddHashed setAddHashedIn
  refine wpAny_holding (wpAny_bind (wpAny_setState_of ho hd hf ?_))
  dsimp only
  rw [show byScan (.ref b) es = false from rfl]
  simp only [Bool.false_eq_true, if_false]
  unfold setSearch
  obtain ⟨n, hn, hn2⟩ := ends T.m T.d (by rw [T.z]; exact hfm) (t.probeStart (tupleKeyHash (sK prog w) ks)) (start_ok t _).1 (start_ok t _).2.1
  have hturn : 10 * turns t.mask ≤ 460 := by
    unfold turns
    rcases T.m with e | e <;> rw [e] <;> decide
  refine wpAny_bind (search_go (d := a) ho hd hf T.m T.d hes hb hu (fun n1 hemp hpass => ?_) (fun hex2 => ?_) n 100000 0 none (by omega) hn rfl (by rw [Nat.zero_add]; exact hn2) (fun k hk => by omega))
  · have hno : ks ∉ S := fun hk => not_there T hes hemp hpass ((hmem ks).mp hk)
    have hR : Rch t (tupleKeyHash (sK prog w) ks) (advN t n1 (t.probeStart (tupleKeyHash (sK prog w) ks))).j := ⟨n1, rfl, fun k hk => by
      obtain ⟨i, e, a1, _⟩ := hpass k hk
      rw [a1]; simp⟩
    rw [if_neg hno] at h
    rw [decide_eq_false hno] at h
    generalize (advN t n1 (t.probeStart (tupleKeyHash (sK prog w) ks))).j = j at hemp hR ⊢
    dsimp only
    refine wpAny_bind (wpAny_setState_of ho hd hf ?_)
    dsimp only
    have P := put_ok (x := .ref b) T hemp hR
    have hpe := put_eq T.d j
    have hperm : (SetTable.insertAt es (t.put j).2 (tupleKeyHash (sK prog w) ks, Value.ref b)).toList.Perm (es.toList ++ [(tupleKeyHash (sK prog w) ks, .ref b)]) := by
      have := SetTable.insertAt_perm es (t.put j).2 (tupleKeyHash (sK prog w) ks, Value.ref b)
      rw [Array.toList_push] at this
      exact this
    have hpm : (t.put j).1.mask = t.mask := by rw [hpe]
    have hpl1 : (t.put j).1.plain = t.plain := by rw [hpe]
    have hpled : (t.put j).1.led = t.led := by rw [hpe]
    generalize hes' : SetTable.insertAt es (t.put j).2 (tupleKeyHash (sK prog w) ks, Value.ref b) = es' at *
    generalize (t.put j).1 = t1 at *
    have hsz : es'.size = es.size + 1 := by
      have := hperm.length_eq
      rw [List.length_append, Array.length_toList, Array.length_toList] at this
      exact this
    have tail : ∀ t2 : SetTable, TOk t2 es' → t2.mask = t.mask → t2.plain = false → t2.led = t.led → wpAny (model prog w) A (do
        storeSet a es' t2
        if (!false && t2.tooFull) = true then do
            setRelay a (SetTable.grown (es.size + 1))
            pure true
          else pure true) Q E s := by
      intro t2 T2 m2 p2 l2
      have hsl : es'.size ≤ sizeLine := by rw [sizeLine_eq]; omega
      refine wpAny_bind (wpAny_storeSet_of ho hd ?_ hsl)
      have hg := store_get ho hd es' t2
      have hsb := Heap.SameBut.update s.heap a (Obj.putSet es' t2)
      have hfull : t2.tooFull = decide (t2.mask * 3 ≤ es'.size * 5) := by
        unfold SetTable.tooFull SetTable.fill
        rw [T2.z, T2.d]
        simp
      by_cases hc : t2.mask * 3 ≤ es'.size * 5
      · have h7 : t2.mask = 7 ∧ es'.size = 5 := by
          rcases hmk with ⟨e1, e2⟩ | ⟨e1, e2⟩
          · exact ⟨by omega, by omega⟩
          · omega
        rw [hfull, decide_eq_true hc]
        simp only [Bool.not_false, Bool.and_self, if_true]
        refine wpAny_bind ?_
        unfold setRelay
        have hf2 : t2.fits es'.size = true := T2.fits (by omega)
        refine wpAny_bind (wpAny_setState_of (s := { s with heap := s.heap.update a (Obj.putSet es' t2) }) hg rfl hf2 ?_)
        dsimp only
        have hgr : SetTable.sizeAbove (SetTable.grown (es.size + 1)) = 32 := by
          rw [show es.size + 1 = 5 by omega]; decide +kernel
        rw [hgr, if_neg (by rw [sizeLine_eq]; omega)]
        obtain ⟨t3, or, er, hp3, T3, m3, l3, p3⟩ := relay_tok (t := t2) (es := es') (m := 31) (wanted := SetTable.grown (es.size + 1)) (.inr rfl) (by rw [hgr]) (by omega)
        rw [er]
        refine wpAny_bind ?_
        have hz3 : (or.filterMap (es'[·]?)).size = es'.size := by rw [← Array.length_toList, hp3.length_eq, Array.length_toList]
        show wpAny _ _ (do
            if (or.filterMap (es'[·]?)).size != es'.size then unsupported "internal:set-table-lost-an-element"
            pure (or.filterMap (es'[·]?), t3)) _ _ _
        rw [if_neg (by rw [hz3]; simp)]
        refine wpAny_pure ?_
        generalize hes3 : or.filterMap (es'[·]?) = es3 at *
        refine wpAny_storeSet_of (s := { s with heap := s.heap.update a (Obj.putSet es' t2) }) hg rfl ?_ (by rw [hz3]; exact hsl)
        have hg3 := store_get hg rfl es3 t3
        have hsb3 := hsb.trans (Heap.SameBut.update _ a (Obj.putSet es3 t3))
        refine wpAny_pure ?_
        exact h _ hsb3 (setP_of ho hex hsb3 hg3 hex rfl T3 (hp3.trans hperm) hes hb (.inr ⟨m3, by omega⟩) hmem hz (by rw [p3, p2]) (by rw [l3, l2, hle]) hC hCb)
      · rw [hfull, decide_eq_false hc]
        simp only [Bool.not_false, Bool.and_false, Bool.false_eq_true, if_false]
        refine wpAny_pure ?_
        refine h _ hsb (setP_of ho hex hsb hg hex rfl T2 hperm hes hb ?_ hmem hz p2 (by rw [l2, hle]) hC hCb)
        rcases hmk with ⟨e1, e2⟩ | ⟨e1, e2⟩
        · exact .inl ⟨by omega, by omega⟩
        · exact .inr ⟨by omega, by omega⟩
    cases hp1 : t1.plain with
    | true =>
      simp only [if_true]
      refine wpAny_bind (value_tuple hne hb ?_)
      simp only [Bool.false_eq_true, if_false]
      exact tail { t1 with plain := false } (P.plainOff false) hpm rfl hpled
    | false =>
      simp only [Bool.false_eq_true, if_false]
      refine wpAny_bind (wpAny_pure ?_)
      simp only [if_true]
      exact tail t1 P hpm hp1 hpled
  · have hk : ks ∈ S := (hmem ks).mpr hex2
    rw [if_pos hk, decide_eq_true hk] at h
    refine wpAny_pure ?_
    have e : s = { s with heap := s.heap } := by cases s; rfl
    rw [e]
    exact h s.heap (Heap.SameBut.refl a s.heap) hS0
end
end DL
namespace DL
open PySem PySem.Spec PyProof.Rows L2
def uqt (acc : List (List Str)) : List (List Str) → List (List Str)
  | [] => acc
  | x :: r => uqt (if x ∈ acc then acc else acc ++ [x]) r
theorem uqt_le : ∀ (l acc : List (List Str)), (uqt acc l).length ≤ acc.length + l.length
  | [], acc => by simp [uqt]
  | x :: r, acc => by
    unfold uqt
    have := uqt_le r (if x ∈ acc then acc else acc ++ [x])
    rw [List.length_cons]
    by_cases hx : x ∈ acc
    · rw [if_pos hx] at this ⊢; omega
    · rw [if_neg hx] at this ⊢
      rw [List.length_append, List.length_cons, List.length_nil] at this
      omega
section
variable {prog : Program} {w : World} {A : Around} {R : Result → Shared → Prop} {I : Addr} {fp wr : List Addr} {G : Array GenState → Array GenState → Prop} {n : Nat} {P : Nat → Value → Prop} {St : Nat → Shared → Prop}
theorem SetP.keep {h h' : Heap} {a : Addr} {S : List (List Str)} {C : Addr → Prop} (x : SetP prog w C h a S) (k : ∀ b o, o.cls = .type "tuple" ∨ b = a → h.get? b = some o → h'.get? b = some o) : SetP prog w C h' a S := by
  obtain ⟨o, es, ep, t, h1, h2, h3, T, h4, h5, h6, h7⟩ := x
  have kk : ∀ {ks c}, IsTupleKey (sK prog w) h ks c → IsTupleKey (sK prog w) h' ks c := fun {ks c} hk => by
    obtain ⟨oc, items, m, g1, g2, g3⟩ := hk
    exact ⟨oc, items, m, k c oc (.inl g2) g1, g2, g3⟩
  refine ⟨o, es, ep, t, k a o (.inr rfl) h1, h2, h3, T, fun e he => ?_, h5, fun ks => ?_, h7⟩
  · obtain ⟨c, ks, e1, hk, e2⟩ := h4 e he
    exact ⟨c, ks, e1, kk hk, e2⟩
  · rw [h6 ks]
    constructor
    · rintro ⟨e, he, c, hc, hk⟩
      exact ⟨e, he, c, hc, kk hk⟩
    · rintro ⟨e, he, c, hc, hk⟩
      obtain ⟨c', ks', hc', hk', _⟩ := h4 e he
      rw [hc] at hc'
      cases hc'
      have := hk.inj (kk hk')
      subst this
      exact ⟨e, he, c, hc, hk'⟩
theorem set_loopP (W : WalksS prog w A.in1 I fp wr G n P St) (T : Addr) (hT : T ∉ fp) (xs : List (List Str)) (cs : List Addr) (hx : xs.length = n) (hval : ∀ (i : Nat) (v : Value), P i v → ∃ c ks, cs[i]? = some c ∧ xs[i]? = some ks ∧ v = .ref c) (hcw : ∀ c ∈ cs, c ∉ T :: wr) (hne : ∀ x ∈ xs, x ≠ []) (hb : n ≤ 8) (hu : A.in1.units < cLine)
    (hwr : ∀ b ∈ wr, ∀ (i : Nat) (s : Shared) (o : Obj), St i s → s.heap.get? b = some o → o.cls ≠ .type "tuple") :
    ∀ (k i : Nat) (acc : List (List Str)) (s : Shared), n - i = k → i ≤ n → acc.length ≤ i → St i s → SetP prog w (· ∈ cs) s.heap T acc → (∀ (i : Nat) c ks, cs[i]? = some c → xs[i]? = some ks → IsTupleKey (sK prog w) s.heap ks c) →
      (∀ s', Moved (T :: wr) G s s' → SetP prog w (· ∈ cs) s'.heap T (uqt acc (xs.drop i)) → R (.ok (.ret .none)) s') →
      codeAny (model prog w) A (.builtin "set.update.loop" ⟨[.ref T, .ref I], []⟩) R s := by
  have hTw : T ∉ wr := fun h => hT (W.sub _ h)
  have hsub : ∀ b ∈ wr, b ∈ T :: wr := fun b hb => List.mem_cons_of_mem _ hb
  intro k
  induction k with
  | zero =>
    intro i acc s hk hi ha hst hS hks hR
    obtain rfl : i = n := by omega
    refine codeAny_builtin PyProof.Rows.F.entry_set_update_loop ?_
    rw [Around.under_plainId PyProof.Rows.F.plain_set_update_loop _]
    show wpAny _ A.in1 (pyNext (.ref I) >>= _) _ _ s
    refine wpAny_bind (W.done s _ _ hst fun s' hm => ?_)
    show wpAny _ A.in1 (ret Value.none) _ _ s'
    rw [List.drop_eq_nil_of_le (by omega)] at hR
    refine wpAny_pure (hR s' (hm.mono hsub) (hS.keep fun b o hc e => hm.heap b o (fun hbw => ?_) e))
    rcases hc with hc | rfl
    · exact hwr b hbw _ s o hst e hc
    · exact hTw hbw
  | succ k ih =>
    intro i acc s hk hi ha hst hS hks hR
    have hlt : i < n := by omega
    refine codeAny_builtin PyProof.Rows.F.entry_set_update_loop ?_
    rw [Around.under_plainId PyProof.Rows.F.plain_set_update_loop _]
    show wpAny _ A.in1 (pyNext (.ref I) >>= _) _ _ s
    refine wpAny_bind (W.item i s _ _ hlt hst fun v s' hP hst' hm => ?_)
    obtain ⟨c, x, ec, ex, rfl⟩ := hval i v hP
    have hS' : SetP prog w (· ∈ cs) s'.heap T acc := hS.keep fun b o hc e => hm.heap b o (fun hbw => by
      rcases hc with hc | rfl
      · exact hwr b hbw _ s o hst e hc
      · exact hTw hbw) e
    have hks' : ∀ (i : Nat) c ks, cs[i]? = some c → xs[i]? = some ks → IsTupleKey (sK prog w) s'.heap ks c := fun i' c' ks' e1 e2 => by
      obtain ⟨oc, items, m, g1, g2, g3⟩ := hks i' c' ks' e1 e2
      exact ⟨oc, items, m, hm.heap c' oc (fun hbw => hcw c' (List.mem_of_getElem? e1) (List.mem_cons_of_mem _ hbw)) g1, g2, g3⟩
    have hdr : xs.drop i = x :: xs.drop (i + 1) := by
      obtain ⟨h1, h2⟩ := List.getElem?_eq_some_iff.mp ex
      rw [← h2]; exact List.drop_eq_getElem_cons h1
    rw [hdr] at hR
    have hkc := hks' i c x ec ex
    show wpAny _ A.in1 (holding [Value.ref c] (setAdd T (.ref c)) >>= _) _ _ s'
    refine wpAny_bind (wpAny_holding ?_)
    unfold setAdd
    refine wpAny_holding ?_
    refine wpAny_bind (wpAny_pyHash_tuple hu hkc ?_)
    refine addP (s := { s' with toks := s'.toks + (x.length + 1) }) hS' (List.mem_of_getElem? ec) (by omega) hkc (hne x (List.mem_of_getElem? ex)) hu fun h' hsb hS2 => ?_
    have hal : (if x ∈ acc then acc else acc ++ [x]).length ≤ i + 1 := by
      split
      · omega
      · simp; omega
    have hcT : ∀ c ∈ cs, c ≠ T := fun c hc e => hcw c hc (by rw [e]; exact List.mem_cons_self)
    refine wpAny_pure ⟨plainId_quiet PyProof.Rows.F.plain_set_update_loop _, ih (i + 1) _ _ (by omega) hlt hal (W.frame _ s' _ _ hst' (Nat.le_add_right _ _) fun b hb o e => ?_) hS2 (fun i' c' ks' e1 e2 => ?_) fun s2 hm2 hS3 => ?_⟩
    · rw [hsb.2 b (fun h : b = T => hT (by rw [← h]; exact hb))]; exact e
    · obtain ⟨oc, items, m, g1, g2, g3⟩ := hks' i' c' ks' e1 e2
      exact ⟨oc, items, m, by rw [hsb.2 c' (hcT c' (List.mem_of_getElem? e1))]; exact g1, g2, g3⟩
    · refine hR s2 (Moved.trans W.gtrans ((hm.mono hsub).then_heap (Nat.le_add_right _ _) fun b o hb e => ?_) hm2) hS3
      rw [hsb.2 b (fun h : b = T => hb (by rw [h]; exact List.mem_cons_self))]; exact e
end
end DL
namespace DL
open PySem PySem.Spec PyProof.Rows L2
variable [Tabs]
section
variable {prog : Program} {w : World} {A : Around} {E : Value → Shared → Prop} {s : Shared}
set_option maxHeartbeats 3200000 in
theorem call_setP {l : Addr} {items : Array Value} {xs : List (List Str)} {cs : List Addr} {Q : Value → Shared → Prop} (hh : A.handled = none) (hu : A.units + 10 < cLine) (hl : s.heap.IsList l items) (hx : xs.length = items.size) (hi : ∀ (i : Nat) (v : Value), items[i]? = some v → ∃ c ks, cs[i]? = some c ∧ xs[i]? = some ks ∧ v = .ref c) (hks : ∀ (i : Nat) c ks, cs[i]? = some c → xs[i]? = some ks → IsTupleKey (sK prog w) s.heap ks c) (hcl : cs.length = items.size) (hnx : ∀ x ∈ xs, x ≠ []) (hb : items.size ≤ 8)
    (h : ∀ (h' : Heap) (tk : Nat), SetP prog w (· ∈ cs) h' s.heap.objs.size (uqt [] xs) →
      (∀ b o, b < s.heap.objs.size → s.heap.get? b = some o → h'.get? b = some o) → Q (.ref s.heap.objs.size) { s with heap := h', toks := tk }) :
    wpAny (model prog w) A (call (.type "set") [.ref l]) Q E s := by
  obtain ⟨c, tl, hmro⟩ := F.called_set.mro
  have hmade := F.called_set.made
  have hsub := F.called_set.sub
  refine wpAny_call (codeAny_of_tree ?_)
  show wpAny _ _ (callAny (.type "set") _) _ _ _
  refine wpAny_pure ⟨Code.quiet_builtin _ (by decide +kernel), codeAny_builtin F.entry_type_call ?_⟩
  rw [Around.under_plain (weight_type_call_type "set" [.ref l] []) rfl]
  have h1 := F.called_set.notType
  have h2 := F.called_set.canCreate
  have hct := F.typeCall_set_1 (.ref l)
  repeat (any_goals (first | assumption | wp_step))
  refine codeAny_mono (code_set_newL (.ref l) (E := E) (Q₁ := fun obj z => ∃ led : Bool, led = (!sBy w) ∧ obj = .ref s.heap.objs.size ∧ z = { s with heap := s.heap.push { cls := .type "set", dict := none, data := .set #[] 0 (.fresh 0 0 led) } }) ⟨_, rfl, rfl, rfl⟩) fun r z hr => ?_
  cases r with
  | error e => exact hr
  | ok fl =>
    cases fl with
    | ret obj =>
      obtain ⟨led, hled, rfl, rfl⟩ := hr
      have hS : (s.heap.push { cls := .type "set", dict := none, data := .set #[] 0 (.fresh 0 0 led) }).get? s.heap.objs.size = some { cls := .type "set", dict := none, data := .set #[] 0 (.fresh 0 0 led) } := Heap.get?_push_size _ rfl
      have hT : Shared.TypeIs { s with heap := s.heap.push { cls := .type "set", dict := none, data := .set #[] 0 (.fresh 0 0 led) } } (.ref s.heap.objs.size) "set" := ⟨_, hS, rfl⟩
      have hli := F.called_set.init.lookup
      have hbi := F.called_set.init.bind (.ref s.heap.objs.size)
      repeat (any_goals (first | assumption | wp_step))
      refine codeAny_mono (codeAny_call_builtin (R := wants (fun r z => r = .none ∧ ∃ h' tk, z = { s with heap := h', toks := tk } ∧
          SetP prog w (· ∈ cs) h' s.heap.objs.size (uqt [] xs) ∧
          (∀ b o, b < s.heap.objs.size → s.heap.get? b = some o → h'.get? b = some o)) E) F.called_set.init.plain F.entry_set_init (check_set_init_1 hT ?_)) fun r2 z2 hr2 => ?_
      · obtain ⟨⟨ocls, odict, odata, oslots⟩, hol, hcl, nl, hdl⟩ := hl
        simp only at hcl hdl
        subst hcl; subst hdl
        have hol' : (s.heap.push { cls := .type "set", dict := none, data := .set #[] 0 (.fresh 0 0 led) }).get? l = some { cls := .type "list", dict := odict, data := .seq items nl, slots := oslots } := Heap.get?_push_of_some _ hol
        have hsls := F.sub_list_set
        have hslf := F.sub_list_frozenset
        have hne : (Value.type "list" == Value.type "dict") = false := by decide
        have hl1 : (s.heap.push { cls := .type "set", dict := none, data := .set #[] 0 (.fresh 0 0 led) }).IsList l items := ⟨_, hol', rfl, nl, rfl⟩
        unfold Builtin.«set.__init__» noKeywords Builtin.Frozenset.updateFrom
        generalize hPI : pyIter = PI
        wp_walk
        subst hPI
        refine wpAny_pyIter_list hl1 ?_
        refine wpAny_bind (wpAny_runValue ?_)
        have hlS : l < s.heap.objs.size := Heap.lt_size hol
        have hh3 : A.in1.in1.in1.handled = none := by simp [hh]
        have hneI : l ≠ (s.heap.push { cls := .type "set", dict := none, data := .set #[] 0 (.fresh 0 0 led) }).objs.size := by
          rw [Heap.size_push]; exact Nat.ne_of_lt (Nat.lt_succ_of_lt hlS)
        have hSf : s.heap.objs.size ∉ [(s.heap.push { cls := .type "set", dict := none, data := .set #[] 0 (.fresh 0 0 led) }).objs.size, l] := by
          rw [Heap.size_push]; simp only [List.mem_cons, List.mem_singleton, List.not_mem_nil, or_false, not_or]
          exact ⟨Nat.ne_of_lt (Nat.lt_succ_self _), Nat.ne_of_gt hlS⟩
        have hkey : ∀ (i : Nat) c ks, cs[i]? = some c → xs[i]? = some ks → c < s.heap.objs.size := fun i c ks e1 e2 => by
          obtain ⟨oc, _, _, g1, _⟩ := hks i c ks e1 e2
          exact Heap.lt_size g1
        have hcs : ∀ c ∈ cs, c < s.heap.objs.size := fun c hc => by
          obtain ⟨i, hi', e⟩ := List.getElem_of_mem hc
          exact hkey i c (xs[i]'(by omega)) (by rw [List.getElem?_eq_getElem hi', e]) (List.getElem?_eq_getElem _)
        refine set_loopP ((Walks.list hh3 _ l hneI items).toS) s.heap.objs.size hSf xs cs hx hi ?hcw hnx hb ?huu ?hwr (items.size - 0) 0 [] _ (by omega) (Nat.zero_le _) (Nat.le_refl _) ⟨⟨_, Heap.get?_push_size _ rfl, rfl, rfl⟩, (hl1.push _)⟩ ?hS0 ?hkk ?hR
        case hcw =>
          intro c hc hmem
          have hlt := hcs c hc
          rw [Heap.size_push] at hmem
          rcases List.mem_cons.mp hmem with e | hmem
          · exact Nat.ne_of_lt hlt e
          · rw [List.mem_singleton.mp hmem] at hlt
            exact absurd hlt (Nat.not_lt.mpr (Nat.le_succ _))
        case huu =>
          have e : A.in1.in1.in1.units ≤ A.units + 10 := by
            first | (simp [Around.in1]; done) | (simp [Around.in1]; omega) | (show A.units + 1 + 1 + 1 ≤ _; omega) | exact Nat.le_add_right _ _
          omega
        case hwr =>
          intro b hb' i s' o' hst' he' hc'
          obtain ⟨⟨oi, g1, g2, _⟩, _⟩ := hst'
          rw [List.mem_singleton.mp hb', g1] at he'
          cases he'
          rw [g2] at hc'
          exact absurd hc' (by decide)
        case hkk =>
          intro i c ks e1 e2
          obtain ⟨oc, its, m, g1, g2⟩ := hks i c ks e1 e2
          exact ⟨oc, its, m, Heap.get?_push_of_some _ (Heap.get?_push_of_some _ g1), g2⟩
        case hS0 =>
          have hget : ((s.heap.push { cls := .type "set", dict := none, data := .set #[] 0 (.fresh 0 0 led) }).push { cls := .type "list_iterator", data := .fields #[.ref l, .int 0 0] }).get? s.heap.objs.size
              = some { cls := .type "set", dict := none, data := .set #[] 0 (.fresh 0 0 led) } := Heap.get?_push_of_some _ hS
          exact ⟨_, #[], 0, _, hget, ⟨rfl, rfl, rfl⟩, rfl, ⟨.inl rfl, rfl, rfl, fun i k a b _ e => by simp [SetTable.fresh] at e, fun i j e h1 => by simp [SetTable.fresh] at h1⟩, fun e he => by simp at he, .inl ⟨rfl, Nat.zero_le _⟩, fun k => by simp, rfl, fun z => by simp at z, hled, fun e he => by simp at he⟩
        case hR =>
          intro s' hm hS'
          obtain ⟨h', g', d', tk', os'⟩ := s'
          have eg : g' = s.gens := hm.gens
          have ed : d' = s.drawn := hm.drawn
          have eo : os' = s.os := hm.os
          subst eg; subst ed; subst eo
          show wpAny _ _ _ _ _ _
          refine wpAny_pure ?_
          show wpAny _ _ (ret Value.none) _ _ _
          refine wpAny_pure ⟨rfl, h', tk', rfl, hS', fun b o hb e => ?_⟩
          have hb1 : b ≠ s.heap.objs.size := Nat.ne_of_lt hb
          have hb2 : b ≠ (s.heap.push { cls := .type "set", dict := none, data := .set #[] 0 (.fresh 0 0 led) }).objs.size := by
            rw [Heap.size_push]; exact Nat.ne_of_lt (Nat.lt_succ_of_lt hb)
          exact hm.heap b o (by simp only [List.mem_cons, List.mem_singleton, List.not_mem_nil, or_false, not_or]; exact ⟨hb1, hb2⟩) (Heap.get?_push_of_some _ (Heap.get?_push_of_some _ e))
      · cases r2 with
        | error e => exact hr2
        | ok fl2 =>
          cases fl2 with
          | ret r =>
            obtain ⟨rfl, h', tk, rfl, hS', hk'⟩ := hr2
            repeat (any_goals (first | assumption | wp_step))
            exact h _ _ hS' hk'
          | _ => exact hr2.elim
    | _ => exact hr.elim
end
end DL
namespace DL
open PySem PySem.Spec PyProof.Rows L2
variable [Tabs]
section
variable {prog : Program} {w : World} {A : Around} {E : Value → Shared → Prop} {s : Shared}
set_option maxHeartbeats 3200000 in
theorem call_setL {l : Addr} {items : Array Value} {xs : List Str} {Q : Value → Shared → Prop} (hh : A.handled = none) (hl : s.heap.IsList l items) (hx : xs.length = items.size) (hi : ∀ (i : Nat) (v : Value), items[i]? = some v → ∃ (x : Str) (t : Tok), xs[i]? = some x ∧ v = .str x t) (hb : items.size + 1 < scanBound)
    (h : ∀ (h' : Heap) (tk : Nat), SetT prog w h' s.heap.objs.size (fun k' => decide (k' ∈ uqs [] xs)) (uqs [] xs).length →
      (∀ b o, b < s.heap.objs.size → s.heap.get? b = some o → h'.get? b = some o) → Q (.ref s.heap.objs.size) { s with heap := h', toks := tk }) :
    wpAny (model prog w) A (call (.type "set") [.ref l]) Q E s := by
  obtain ⟨c, tl, hmro⟩ := F.called_set.mro
  have hmade := F.called_set.made
  have hsub := F.called_set.sub
  refine wpAny_call (codeAny_of_tree ?_)
  show wpAny _ _ (callAny (.type "set") _) _ _ _
  refine wpAny_pure ⟨Code.quiet_builtin _ (by decide +kernel), codeAny_builtin F.entry_type_call ?_⟩
  rw [Around.under_plain (weight_type_call_type "set" [.ref l] []) rfl]
  have h1 := F.called_set.notType
  have h2 := F.called_set.canCreate
  have hct := F.typeCall_set_1 (.ref l)
  repeat (any_goals (first | assumption | wp_step))
  refine codeAny_mono (code_set_newL (.ref l) (E := E) (Q₁ := fun obj z => ∃ led : Bool, led = (!sBy w) ∧ obj = .ref s.heap.objs.size ∧ z = { s with heap := s.heap.push { cls := .type "set", dict := none, data := .set #[] 0 (.fresh 0 0 led) } }) ⟨_, rfl, rfl, rfl⟩) fun r z hr => ?_
  cases r with
  | error e => exact hr
  | ok fl =>
    cases fl with
    | ret obj =>
      obtain ⟨led, hled, rfl, rfl⟩ := hr
      have hS : (s.heap.push { cls := .type "set", dict := none, data := .set #[] 0 (.fresh 0 0 led) }).get? s.heap.objs.size = some { cls := .type "set", dict := none, data := .set #[] 0 (.fresh 0 0 led) } := Heap.get?_push_size _ rfl
      have hT : Shared.TypeIs { s with heap := s.heap.push { cls := .type "set", dict := none, data := .set #[] 0 (.fresh 0 0 led) } } (.ref s.heap.objs.size) "set" := ⟨_, hS, rfl⟩
      have hli := F.called_set.init.lookup
      have hbi := F.called_set.init.bind (.ref s.heap.objs.size)
      repeat (any_goals (first | assumption | wp_step))
      refine codeAny_mono (codeAny_call_builtin (R := wants (fun r z => r = .none ∧ ∃ h' tk, z = { s with heap := h', toks := tk } ∧
          SetT prog w h' s.heap.objs.size (fun k' => decide (k' ∈ uqs [] xs)) (uqs [] xs).length ∧
          (∀ b o, b < s.heap.objs.size → s.heap.get? b = some o → h'.get? b = some o)) E) F.called_set.init.plain F.entry_set_init (check_set_init_1 hT ?_)) fun r2 z2 hr2 => ?_
      · obtain ⟨⟨ocls, odict, odata, oslots⟩, hol, hcl, nl, hdl⟩ := hl
        simp only at hcl hdl
        subst hcl; subst hdl
        have hol' : (s.heap.push { cls := .type "set", dict := none, data := .set #[] 0 (.fresh 0 0 led) }).get? l = some { cls := .type "list", dict := odict, data := .seq items nl, slots := oslots } := Heap.get?_push_of_some _ hol
        have hsls := F.sub_list_set
        have hslf := F.sub_list_frozenset
        have hne : (Value.type "list" == Value.type "dict") = false := by decide
        have hl1 : (s.heap.push { cls := .type "set", dict := none, data := .set #[] 0 (.fresh 0 0 led) }).IsList l items := ⟨_, hol', rfl, nl, rfl⟩
        unfold Builtin.«set.__init__» noKeywords Builtin.Frozenset.updateFrom
        generalize hPI : pyIter = PI
        wp_walk
        subst hPI
        refine wpAny_pyIter_list hl1 ?_
        refine wpAny_bind (wpAny_runValue ?_)
        have hlS : l < s.heap.objs.size := Heap.lt_size hol
        have hh3 : A.in1.in1.in1.handled = none := by simp [hh]
        have hneI : l ≠ (s.heap.push { cls := .type "set", dict := none, data := .set #[] 0 (.fresh 0 0 led) }).objs.size := by
          rw [Heap.size_push]; exact Nat.ne_of_lt (Nat.lt_succ_of_lt hlS)
        have hSf : s.heap.objs.size ∉ [(s.heap.push { cls := .type "set", dict := none, data := .set #[] 0 (.fresh 0 0 led) }).objs.size, l] := by
          rw [Heap.size_push]; simp only [List.mem_cons, List.mem_singleton, List.not_mem_nil, or_false, not_or]
          exact ⟨Nat.ne_of_lt (Nat.lt_succ_self _), Nat.ne_of_gt hlS⟩
        refine set_loopU ((Walks.list hh3 _ l hneI items).toS) s.heap.objs.size hSf xs hx hi hb (items.size - 0) 0 [] _ (by omega) (Nat.zero_le _) (Nat.le_refl _) ⟨⟨_, Heap.get?_push_size _ rfl, rfl, rfl⟩, (hl1.push _)⟩ ?hS0 ?hR
        case hS0 =>
          have hget : ((s.heap.push { cls := .type "set", dict := none, data := .set #[] 0 (.fresh 0 0 led) }).push { cls := .type "list_iterator", data := .fields #[.ref l, .int 0 0] }).get? s.heap.objs.size
              = some { cls := .type "set", dict := none, data := .set #[] 0 (.fresh 0 0 led) } := Heap.get?_push_of_some _ hS
          exact ⟨_, #[], 0, _, hget, ⟨rfl, rfl, rfl⟩, rfl, fun e he => by simp at he, fun k => by simp, by decide, by rfl, rfl, fun z => by simp at z, hled⟩
        case hR =>
          intro s' hm hS'
          obtain ⟨h', g', d', tk', os'⟩ := s'
          have eg : g' = s.gens := hm.gens
          have ed : d' = s.drawn := hm.drawn
          have eo : os' = s.os := hm.os
          subst eg; subst ed; subst eo
          show wpAny _ _ _ _ _ _
          refine wpAny_pure ?_
          show wpAny _ _ (ret Value.none) _ _ _
          refine wpAny_pure ⟨rfl, h', tk', rfl, hS', fun b o hb e => ?_⟩
          have hb1 : b ≠ s.heap.objs.size := Nat.ne_of_lt hb
          have hb2 : b ≠ (s.heap.push { cls := .type "set", dict := none, data := .set #[] 0 (.fresh 0 0 led) }).objs.size := by
            rw [Heap.size_push]; exact Nat.ne_of_lt (Nat.lt_succ_of_lt hb)
          exact hm.heap b o (by simp only [List.mem_cons, List.mem_singleton, List.not_mem_nil, or_false, not_or]; exact ⟨hb1, hb2⟩) (Heap.get?_push_of_some _ (Heap.get?_push_of_some _ e))
      · cases r2 with
        | error e => exact hr2
        | ok fl2 =>
          cases fl2 with
          | ret r =>
            obtain ⟨rfl, h', tk, rfl, hS', hk'⟩ := hr2
            repeat (any_goals (first | assumption | wp_step))
            exact h _ _ hS' hk'
          | _ => exact hr2.elim
    | _ => exact hr.elim
end
end DL
namespace DL
open PySem PySem.Spec PyProof.Rows L2
variable [Tabs]
section
variable {X : Cx} {e : Expr} {pos p p2 pos2 : Pos} {f : FE}
def rSetLs (P : Program) (w : World) (K : PySem.W.Frag) : List V → Hp → VK → Prop := fun xs H Q => ∃ (a : Addr) (ss : List Str), xs = [V.ref a] ∧ SqL K H a (ss.map V.str) ∧ ss.length + 1 < scanBound ∧ ∀ p, H p = none → Q (.ref p) (upd H p (SetU P w p ss))
theorem call_setRL (hc : X.calm = true) : CallR X (.type "set") (rSetLs X.prog X.w X.K) := by
  intro pins s σ H xs us Q I r h
  obtain ⟨a, ss, rfl, hq, hb, k⟩ := h
  obtain ⟨u, rfl, ru⟩ := vals1 r
  cases ru
  obtain ⟨its, rv, pl, hz⟩ := I.list hq
  have hlen : ss.length = its.toArray.size := by
    have := rv.length
    rw [List.length_map] at this
    simpa using this
  refine call_setL (items := its.toArray) (xs := ss) (I.ok.hd hc) pl.isList hlen (fun i v e => strs_get (H := H) rv (by simpa using e)) (by rw [← hlen]; exact hb) fun h' tk hS hk => ?_
  have fr : H s.heap.objs.size = none := I.fresh
  have hS0 := hS
  obtain ⟨ob, es, ep, t, ho, rest⟩ := hS0
  refine ⟨.ref s.heap.objs.size, upd H s.heap.objs.size (SetU X.prog X.w s.heap.objs.size ss), I.laid (t' := tk) (fun b u q => hk b u (Heap.lt_size q) q) (Nat.le_refl _) ?_, rfl, k _ fr⟩
  exact ⟨hS, ⟨ob, ho⟩, fun h1 h2 q kk => q.keep fun o e => kk _ e⟩
def sortSetLD : PyData → Option PyData
  | .list ds => opt (strsOf ds) fun ss => if ss.length + 1 < scanBound then some (.list ((sortS (uqs [] ss)).map .str)) else none
  | _ => none
def fSortSetL (f : FE) : FE := fun ρ μ => bnd (f ρ μ) fun d m => fin (sortSetLD d) m
theorem de_sortsetL (hc : X.calm = true) (hl : Gl X "sorted") (hml : X.mg "sorted" = none) (hs : Gl X "set") (hms : X.mg "set" = none) (he : DE X e f)
    (h1 : starEach [.Call (.Name "set" p2) [e] [] pos2] X.env = (false, eval (.Call (.Name "set" p2) [e] [] pos2) X.env) :: starEach [] X.env := by rfl) (h2 : starEach [e] X.env = (false, eval e X.env) :: starEach [] X.env := by rfl) :
    DE X (.Call (.Name "sorted" p) [.Call (.Name "set" p2) [e] [] pos2] [] pos) (fSortSetL f) :=
  DE.of (pe_callB (x := "sorted") (call_sortU hc) hl hml (by decide +kernel) (pa_cons (pe_callTy (x := "set") (call_setRL hc) hs hms (by decide +kernel) (pa_cons he pa_nil h2) (by decide) (by decide) h2 rfl) pa_nil h1) (by decide) (by decide) h1 rfl) fun L ρ μ d μ' σ H Q E ef k => by
    obtain ⟨d1, m1, e1, ef⟩ := bnd_some ef
    obtain ⟨e2, rfl⟩ := fin_some ef
    refine ⟨L, ρ, μ, d1, _, E, e1, fun v H1 E1 s1 q1 => ?_⟩
    cases d1 with
    | list ds =>
      obtain ⟨ss, e3, e4⟩ := opt_some e2
      split at e4
      · rename_i hb
        cases e4
        obtain ⟨a, xs, rfl, t1, z1⟩ := dp_lst q1
        rw [strsOf_dp z1 e3] at t1
        refine ⟨a, ss, rfl, sqlf t1, hb, fun p hp => ⟨p, ss, rfl, upd_same, fun l hl => ?_⟩⟩
        exact (Ret.of (E1.same (same_upd hp)) (s1.trans (Step.of_same (same_upd hp))) k).lst (E1.same (same_upd hp)).own (dps_strsU _) l hl
      · cases e4
    | _ => cases e2
end
end DL
namespace DL
open PySem PySem.Spec PyProof.Rows L2
variable [Tabs]
theorem hu10 {A : Around} {k : Nat} (hr : Room k A) : A.units + 10 < cLine := Nat.lt_of_le_of_lt (Nat.add_le_add_left (by decide : 10 ≤ 64) _) hr.units
theorem perm_of_subT {α : Type} [DecidableEq α] : ∀ {u L : List α}, u.Nodup → (∀ x ∈ u, x ∈ L) → L.length ≤ u.length → L.Perm u
  | [], L, _, _, h => by
    obtain rfl := List.length_eq_zero_iff.mp (Nat.le_zero.mp h)
    exact .refl _
  | x :: r, L, hn, hs, h => by
    rw [List.nodup_cons] at hn
    have hx := hs x (by simp)
    have hp := List.perm_cons_erase hx
    refine hp.trans (List.Perm.cons x (perm_of_subT hn.2 (fun y hy => ?_) ?_))
    · rcases List.mem_cons.mp (hp.mem_iff.mp (hs y (by simp [hy]))) with e | e
      · subst e; exact absurd hy hn.1
      · exact e
    · have := hp.length_eq
      rw [List.length_cons] at this h
      omega
theorem uqt_nodup : ∀ (l acc : List (List Str)), acc.Nodup → (uqt acc l).Nodup
  | [], acc, h => h
  | x :: r, acc, h => by
    unfold uqt
    apply uqt_nodup r
    split
    · exact h
    · rename_i hx
      rw [List.nodup_append]
      exact ⟨h, by simp, fun a ha b hb => by simp at hb; subst hb; exact fun e => hx (e ▸ ha)⟩
def SetQ (w : World) (p : Addr) (ps : List (Addr × List Str)) : HO := .ext fun h => ∃ o es ep t, h.get? p = some o ∧ o.ExactSet ∧ o.data = .set es ep t ∧ t.fits es.size = true ∧ (0 < es.size → t.plain = false) ∧ (t.led = !sBy w) ∧ es.size < 4096 ∧ es.toList.map (·.2) = (ps.map (·.1)).map Value.ref
theorem es_refs {qs : List (Addr × List Str)} : ∀ {l : List (Int × Value)}, (∀ e ∈ l, ∃ c, e.2 = Value.ref c ∧ c ∈ qs.map (·.1)) → ∃ ps : List (Addr × List Str), l.map (·.2) = (ps.map (·.1)).map Value.ref ∧ ∀ x ∈ ps, x ∈ qs
  | [], _ => ⟨[], rfl, by simp⟩
  | e :: r, h => by
    obtain ⟨c, e1, hc⟩ := h e (by simp)
    obtain ⟨q, hq, rfl⟩ := List.mem_map.mp hc
    obtain ⟨ps, e2, h2⟩ := es_refs (l := r) fun x hx => h x (by simp [hx])
    refine ⟨q :: ps, by simp only [List.map_cons, e1, e2], fun x hx => ?_⟩
    rcases List.mem_cons.mp hx with rfl | hx
    · exact hq
    · exact h2 x hx
theorem setQ_of {prog : Program} {w : World} {h : Heap} {p : Addr} {qs : List (Addr × List Str)} {S : List (List Str)} (hS : SetP prog w (· ∈ qs.map (·.1)) h p S) (hk : ∀ q ∈ qs, IsTupleKey (sK prog w) h q.2 q.1) (hn : S.Nodup) :
    ∃ ps : List (Addr × List Str), (∀ x ∈ ps, x ∈ qs) ∧ (ps.map (·.2)).Perm S ∧ ObjOk prog w H h p (SetQ w p ps) := by
  obtain ⟨o, es, ep, t, h1, h2, h3, T, h4, h5, h6, h7, h8, h9, h10⟩ := hS
  obtain ⟨ps, e1, hp⟩ := es_refs h10
  have hl : es.toList.length = ps.length := by
    have := congrArg List.length e1
    simpa using this
  refine ⟨ps, hp, perm_of_subT hn (fun ks hks => ?_) ?_, ⟨o, es, ep, t, h1, h2, h3, T.fits (by omega), h8, h9, by omega, e1⟩, ⟨o, h1⟩, ?_⟩
  · obtain ⟨e, he, c, hc, hkc⟩ := (h6 ks).mp hks
    have hm : Value.ref c ∈ (ps.map (·.1)).map Value.ref := by rw [← e1, ← hc]; exact List.mem_map_of_mem he
    obtain ⟨c', hc', ec⟩ := List.mem_map.mp hm
    cases ec
    obtain ⟨x, hx, rfl⟩ := List.mem_map.mp hc'
    have := hkc.inj (hk x (hp x hx))
    rw [this]
    exact List.mem_map_of_mem hx
  · rw [List.length_map, ← hl, Array.length_toList, h7]
    exact Nat.le_refl _
  · rintro g1 g2 ⟨o, es, ep, t, a1, rest⟩ k
    exact ⟨o, es, ep, t, k o a1, rest⟩
section
variable {X : Cx} {e : Expr} {pos p p2 pos2 : Pos} {f : FE} {pins : List (Addr × Obj)} {s : Shared} {σ : L2.St} {H : Hp}
theorem items_areS {prog : Program} {w : World} : ∀ {k : List Str} {its : List Value}, Vals (k.map V.str) its → ItemsAre (sK prog w) k its
  | [], _, h => by cases h; exact .nil
  | x :: r, _, h => by
    cases h with
    | cons h1 h2 =>
      obtain ⟨t, rfl⟩ := (h1 : ∃ t, _ = Value.str x t)
      exact .cons (show Value.isStrOf x (.str x t) = true by simp [Value.isStrOf]) (items_areS h2)
theorem tkey {b : Addr} {k : List Str} (I : Inv X pins σ H s) (h : Dp X.K H (.ref b) (tupS k)) : IsTupleKey (sK X.prog X.w) s.heap k b := by
  obtain ⟨a, vs, e, hs, hd⟩ := dp_tup (show Dp X.K H (.ref b) (.tuple (k.map PyData.str)) from h)
  cases e
  have ev := dps_strs_of hd
  subst ev
  obtain ⟨its, rv, ⟨o, eo, hc, n, hdt⟩, _⟩ := I.tuple hs
  exact ⟨o, its.toArray, n, eo, hc, hdt, items_areS rv⟩
def rSetP (w : World) (K : PySem.W.Frag) : List V → Hp → VK → Prop := fun xs H Q => ∃ (a : Addr) (qs : List (Addr × List Str)), xs = [V.ref a] ∧ SqL K H a ((qs.map (·.1)).map V.ref) ∧ (∀ q ∈ qs, Dp K H (.ref q.1) (tupS q.2) ∧ q.2 ≠ []) ∧ qs.length ≤ 8 ∧
  ∀ (ps : List (Addr × List Str)) p, (∀ x ∈ ps, x ∈ qs) → (ps.map (·.2)).Perm (uqt [] (qs.map (·.2))) → H p = none → Q (.ref p) (upd H p (SetQ w p ps))
theorem call_setRP (hu : X.A.units + 10 < cLine) (hc : X.calm = true) : CallR X (.type "set") (rSetP X.w X.K) := by
  intro pins s σ H xs us Q I r h
  obtain ⟨a, qs, rfl, hq, hd, hb, k⟩ := h
  obtain ⟨u, rfl, ru⟩ := vals1 r
  cases ru
  obtain ⟨its, rv, pl, hz⟩ := I.list hq
  have ei := vals_refs rv
  subst ei
  have hsz : ((qs.map (·.1)).map Value.ref).toArray.size = qs.length := by simp
  refine call_setP (items := ((qs.map (·.1)).map Value.ref).toArray) (xs := qs.map (·.2)) (cs := qs.map (·.1)) (I.ok.hd hc) hu pl.isList (by simp) (fun i v e => ?_) (fun i c ks e1 e2 => ?_) (by simp) (fun x hx => ?_) (by rw [hsz]; exact hb) fun h' tk hS hk => ?_
  · have e' : ((qs.map (·.1)).map Value.ref)[i]? = some v := by simpa using e
    rw [List.getElem?_map, List.getElem?_map] at e'
    cases hqi : qs[i]? with
    | none => rw [hqi] at e'; cases e'
    | some q =>
      rw [hqi] at e'
      cases e'
      exact ⟨q.1, q.2, by rw [List.getElem?_map, hqi]; rfl, by rw [List.getElem?_map, hqi]; rfl, rfl⟩
  · rw [List.getElem?_map] at e1 e2
    cases hqi : qs[i]? with
    | none => rw [hqi] at e1; cases e1
    | some q =>
      rw [hqi] at e1 e2
      cases e1
      cases e2
      exact tkey I (hd q (List.mem_of_getElem? hqi)).1
  · obtain ⟨q, hq', rfl⟩ := List.mem_map.mp hx
    exact (hd q hq').2
  · have fr : H s.heap.objs.size = none := I.fresh
    obtain ⟨ps, g1, g2, g3⟩ := setQ_of (H := H) hS (fun q hq' => by
      obtain ⟨oc, items, m, a1, a2⟩ := tkey I (hd q hq').1
      exact ⟨oc, items, m, hk _ _ (Heap.lt_size a1) a1, a2⟩) (uqt_nodup _ [] .nil)
    exact ⟨.ref s.heap.objs.size, upd H s.heap.objs.size (SetQ X.w s.heap.objs.size ps), I.laid (t' := tk) (fun b u q => hk b u (Heap.lt_size q) q) (Nat.le_refl _) g3, rfl, k ps _ g1 g2 fr⟩
end
end DL
namespace DL
open PySem PySem.Spec PyProof.Rows L2
variable [Tabs]
theorem keyC_keep {h h' : Heap} {v : Value} {l : List (Int ⊕ List Nat)} (k : G.KeepsTups h h') (e : G.tupKeyC h allT v = some l) : G.tupKeyC h' allT v = some l := by
  obtain ⟨a, o, xs, n, rfl, ho, hc, hd, hi⟩ := G.tupKeyC_some e
  have ho' := k a o ho hc
  unfold G.tupKeyC
  rw [if_pos (show G.isTupObj h' (.ref a) = true by simp [G.isTupObj, ho', hc])]
  simp only [tupKey, ho', hd]
  exact hi
section
variable {prog : Program} {w : World} {A : Around} {E : Value → Shared → Prop} {s : Shared} {d : Addr} {o : Obj} {es : Array (Int × Value)} {ep : Nat} {t : SetTable}
theorem sorted_setT {Q : Value → Shared → Prop} (hh : A.handled = none) (ho : s.heap.get? d = some o) (hex : o.ExactSet) (hd : o.data = .set es ep t) (hf : t.fits es.size = true) (hpl : 0 < es.size → t.plain = false) (hle : t.led = !sBy w) (hz : es.size < 4096)
    (hst : ∀ e ∈ es.toList, (∃ l, G.tupKeyC s.heap allT e.2 = some l) ∧ ∃ f, TupOf s.heap allT e.2 f)
    (h : ∀ (h1 h' : Heap) (tk : Nat) (dr : _) (out : Array Value) (e' : Nat) (ys : List (Int × Value)), ys.Perm es.toList → (∃ st' : SortSt, (arrOf st').Perm (pairsOf (ys.map (·.2))) ∧ SortedToK (G.tupKindC (h1.push (seqObj "list" (ys.map (·.2)).toArray 0)) allT) (arrOf st') (pairsOf (ys.map (·.2))).size ∧ out = (arrOf st').map (·.2)) →
      (∀ b o, s.heap.get? b = some o → h1.get? b = some o) → (∀ b o, h1.get? b = some o → h'.get? b = some o) → h'.get? h1.objs.size = some (seqObj "list" out e') → Q (.ref h1.objs.size) { s with heap := h', toks := tk, drawn := dr }) :
    wpAny (model prog w) A (call (.builtin "sorted") [.ref d]) Q E s := by
  refine Calls.call_function_entry kind_sorted plain_sorted entry_sorted (args_sorted1 _) ?_
  unfold Builtin.«sorted»
  refine wpAny_bind (m := checkCount "sorted" 1 1 _) (wpAny_pure ?_)
  refine wpAny_bind (collect_set (A := A.in1) hh ho hex hd hf hpl hle hz fun h1 tk dr ys kp hp => ?_)
  have hL : (ys.map (·.2)).length ≤ sizeLine := by rw [List.length_map, hp.length_eq, Array.length_toList, sizeLine_eq]; omega
  have kt : G.KeepsTups s.heap (h1.push (seqObj "list" (ys.map (·.2)).toArray 0)) := fun b o e _ => Heap.get?_push_of_some _ (kp b o e)
  have hk : ∀ v, v ∈ ys.map (·.2) → ∃ l, G.tupKeyC (h1.push (seqObj "list" (ys.map (·.2)).toArray 0)) allT v = some l := fun v hv => by
    obtain ⟨e, he, rfl⟩ := List.mem_map.mp hv
    obtain ⟨l, hl⟩ := (hst e (hp.mem_iff.mp he)).1
    exact ⟨l, keyC_keep kt hl⟩
  have ht : ∃ fs, TupsOf (h1.push (seqObj "list" (ys.map (·.2)).toArray 0)) allT (ys.map (·.2)) fs := by
    have : ∀ zs : List (Int × Value), (∀ e ∈ zs, e ∈ ys) → ∃ fs, TupsOf (h1.push (seqObj "list" (ys.map (·.2)).toArray 0)) allT (zs.map (·.2)) fs := by
      intro zs
      induction zs with
      | nil => exact fun _ => ⟨[], .nil⟩
      | cons p r ih =>
        intro hq
        obtain ⟨fs, h1'⟩ := ih fun x hx => hq x (by simp [hx])
        obtain ⟨f, h2⟩ := (hst p (hp.mem_iff.mp (hq p (by simp)))).2
        exact ⟨f :: fs, .cons (G.TupOf.keep kt h2) h1'⟩
    exact this ys fun _ h => h
  obtain ⟨fs, ht⟩ := ht
  generalize hvs : ys.map (·.2) = vs at hL hk ht kt
  refine wpAny_bind (wpAny_newList ?_ hL)
  have hoL : (h1.push (seqObj "list" vs.toArray 0)).get? h1.objs.size = some (seqObj "list" vs.toArray 0) := Heap.get?_push_size _ rfl
  show wpAny _ _ _ _ _ { s with heap := h1.push (seqObj "list" vs.toArray 0), toks := tk, drawn := dr }
  refine wpAny_bind (wpAny_holding (wpAny_call_entry slot_list_sort ⟨_, hoL, rfl⟩ entry_list_sort (G.list_sort_tups (s := { s with heap := h1.push (seqObj "list" vs.toArray 0), toks := tk, drawn := dr }) (shape := allT) hoL ht hk hL fun st' a1 a2 a3 => ⟨_, rfl, ?retG⟩) (args_list_sort _)))
  case retG =>
    refine wpAny_pure ⟨_, rfl, ?_⟩
    obtain ⟨e', he'⟩ := sortedHeap_at (out := (arrOf st').map (·.2)) hoL
    refine h h1 _ _ dr _ e' ys hp ⟨st', by rw [hvs]; exact a1, by rw [hvs]; exact a2, rfl⟩ kp (fun b o e => ?_) he'
    rw [sortedHeap_old (Nat.ne_of_lt (Heap.lt_size e)) (by rw [size_push']; exact Nat.lt_succ_of_lt (Heap.lt_size e))]
    exact Heap.get?_push_of_some _ e
end
section
variable {X : Cx} {e : Expr} {pos p p2 pos2 : Pos} {f : FE}
def rSortQ (w : World) (K : PySem.W.Frag) : List V → Hp → VK → Prop := fun xs H Q => ∃ (p : Addr) (ps : List (Addr × List Str)), xs = [V.ref p] ∧ H p = some (SetQ w p ps) ∧ (∀ x ∈ ps, Dp K H (.ref x.1) (tupS x.2) ∧ x.2 ≠ []) ∧
  ∀ (ps' : List (Addr × List Str)) (l : Addr), ps'.Perm ps → ps'.Pairwise (fun a b => leT a.2 b.2 = true) → H l = none → Q (.ref l) (upd H l (.lst ((ps'.map (·.1)).map V.ref)))
theorem call_sortQ (hc : X.calm = true) : CallR X (.builtin "sorted") (rSortQ X.w X.K) := by
  intro pins s σ H xs us Q I r h
  obtain ⟨p, ps, rfl, hH, hp, q⟩ := h
  obtain ⟨u, rfl, ru⟩ := vals1 r
  cases ru
  obtain ⟨⟨ob, es, ep, t, ho, hex, hd, hf, hpl, hle, hb, hes⟩, _, _⟩ := I.hok p _ hH
  have hst : ∀ e ∈ es.toList, (∃ l, G.tupKeyC s.heap allT e.2 = some l) ∧ ∃ f, TupOf s.heap allT e.2 f := fun e he => by
    have hm : e.2 ∈ (ps.map (·.1)).map Value.ref := by rw [← hes]; exact List.mem_map_of_mem he
    obtain ⟨c, hc', ec⟩ := List.mem_map.mp hm
    obtain ⟨x, hx, rfl⟩ := List.mem_map.mp hc'
    rw [← ec]
    obtain ⟨k1, k2⟩ := key_at I (hp x hx).1 (hp x hx).2
    exact ⟨⟨_, k1⟩, k2⟩
  refine sorted_setT (I.ok.hd hc) ho hex hd hf hpl hle hb hst fun h1 h' tk dr out e' ys hp' ⟨st', a1, a2, ea⟩ kp1 kp2 hB => ?_
  have kt : G.KeepsTups s.heap (h1.push (seqObj "list" (ys.map (·.2)).toArray 0)) := fun b o e _ => Heap.get?_push_of_some _ (kp1 b o e)
  generalize h1.push (seqObj "list" (ys.map (·.2)).toArray 0) = hh at a2 kt
  -- the set's own order of ps
  obtain ⟨ps1, ey, pp1⟩ := perm_map_inv (l := ys.map (·.2)) (m := (ps.map (·.1)).map Value.ref) (by rw [← hes]; exact hp'.map _) ps (by rw [List.map_map])
  have hpl2 := Array.perm_iff_toList_perm.mp a1
  rw [pairsOf_toList] at hpl2
  have ez : (ys.map (·.2)).zip (ys.map (·.2)) = ps1.map fun p => ((Value.ref p.1, Value.ref p.1) : Keyed) := by
    rw [ey, List.zip_map']; rfl
  obtain ⟨ps', e1, pp⟩ := perm_map_inv hpl2 ps1 ez
  have pp0 := pp.trans pp1
  have eo : out.toList = (ps'.map (·.1)).map Value.ref := by
    rw [ea, Array.toList_map, e1, List.map_map, List.map_map]; rfl
  have hpw : ps'.Pairwise (fun a b => leT a.2 b.2 = true) := by
    rw [List.pairwise_iff_getElem]
    intro i j hi hj hij
    have kk : ∀ i (hi : i < ps'.length), KK (G.tupKindC hh allT) (arrOf st') i = keyT ps'[i].2 := fun i hi => by
      have e0 : (arrOf st')[i]? = some (Value.ref ps'[i].1, Value.ref ps'[i].1) := by
        rw [← Array.getElem?_toList, e1, List.getElem?_map, List.getElem?_eq_getElem hi]; rfl
      have hm := pp0.mem_iff.mp (List.getElem_mem hi)
      have ek := keyC_keep kt (key_at I (hp _ hm).1 (hp _ hm).2).1
      unfold KK
      rw [e0]
      show (G.tupKeyC hh allT (Value.ref ps'[i].1)).getD [] = _
      rw [ek]; rfl
    have hsz : (pairsOf (ys.map (·.2))).size = ps'.length := by rw [pairsOf_size, ey, List.length_map, pp.length_eq]
    have z := a2 i j (Nat.le_of_lt hij) (by rw [hsz]; exact hj)
    rw [kk i hi, kk j hj] at z
    unfold leT
    rw [show PyProof.Rows.lexLt PyProof.Rows.itemOrd (keyT ps'[j].2) (keyT ps'[i].2) = false from z]; rfl
  have hlen : ((ps'.map (·.1)).map V.ref).length ≤ sizeLine := by
    have := congrArg List.length hes
    simp only [List.length_map, Array.length_toList] at this
    rw [List.length_map, List.length_map, pp0.length_eq, ← this, sizeLine_eq]; omega
  have I1 : Inv X pins σ H { s with heap := h1, toks := tk } := I.kept kp1
  have I2 := I1.laid (a := h1.objs.size) (o := .lst ((ps'.map (·.1)).map V.ref)) (t' := tk) kp2 (Nat.le_refl _) ⟨hlen, out.toList, e', by rw [eo]; exact refs_vals _, by rw [Array.toArray_toList]; exact hB⟩
  exact ⟨.ref _, _, Inv.drawn I2 dr, rfl, q _ _ pp0 hpw (I1.hok.fresh (Nat.le_refl _))⟩
def sortSetTD : PyData → Option PyData
  | .list ds => opt (tupsOf ds) fun kss => if kss.length ≤ 8 then some (.list ((sortT (uqt [] kss)).map tupS)) else none
  | _ => none
def fSortSetT (f : FE) : FE := fun ρ μ => bnd (f ρ μ) fun d m => fin (sortSetTD d) m
theorem de_sortsetT (hu : X.A.units + 10 < cLine) (hc : X.calm = true) (hl : Gl X "sorted") (hml : X.mg "sorted" = none) (hs : Gl X "set") (hms : X.mg "set" = none) (he : DE X e f)
    (h1 : starEach [.Call (.Name "set" p2) [e] [] pos2] X.env = (false, eval (.Call (.Name "set" p2) [e] [] pos2) X.env) :: starEach [] X.env := by rfl) (h2 : starEach [e] X.env = (false, eval e X.env) :: starEach [] X.env := by rfl) :
    DE X (.Call (.Name "sorted" p) [.Call (.Name "set" p2) [e] [] pos2] [] pos) (fSortSetT f) :=
  DE.of (pe_callB (x := "sorted") (call_sortQ hc) hl hml (by decide +kernel) (pa_cons (pe_callTy (x := "set") (call_setRP hu hc) hs hms (by decide +kernel) (pa_cons he pa_nil h2) (by decide) (by decide) h2 rfl) pa_nil h1) (by decide) (by decide) h1 rfl) fun L ρ μ d μ' σ H Q E ef k => by
    obtain ⟨d1, m1, e1, ef⟩ := bnd_some ef
    obtain ⟨e2, rfl⟩ := fin_some ef
    refine ⟨L, ρ, μ, d1, _, E, e1, fun v H1 E1 s1 q1 => ?_⟩
    cases d1 with
    | list ds =>
      obtain ⟨kss, e3, e4⟩ := opt_some e2
      split at e4
      · rename_i hb
        cases e4
        obtain ⟨a, xs, rfl, t1, z1⟩ := dp_lst q1
        obtain ⟨qs, rfl, rfl, hq⟩ := tups_ps z1 e3
        refine ⟨a, qs, rfl, sqlf t1, fun q hqq => ⟨dpf (hq q hqq).1, (hq q hqq).2⟩, by simpa using hb, fun ps p g1 g2 hp => ?_⟩
        refine ⟨p, ps, rfl, upd_same, fun x hx => ⟨(dpf (hq x (g1 x hx)).1).mono (same_upd hp), (hq x (g1 x hx)).2⟩, fun ps' l pp hpw hl => ?_⟩
        have eu : ps'.map (·.2) = sortT (uqt [] (qs.map (·.2))) := uniqT _ _ (((pp.map _).trans g2).trans (sort_perm _).symm) (by rw [List.pairwise_map]; exact hpw) (sort_pw _)
        have EE := E1.same (same_upd (o := SetQ X.w p ps) hp)
        have hd := ps_dps (K := X.K) (H := Off L (upd _ p (SetQ X.w p ps))) (ps := ps') fun x hx => ((hq x (g1 x (pp.mem_iff.mp hx))).1).mono (same_off (same_upd (o := SetQ X.w p ps) hp))
        rw [eu] at hd
        exact (Ret.of EE (s1.trans (Step.of_same (same_upd hp))) k).lst EE.own hd l hl
      · cases e4
    | _ => cases e2
end
end DL
set_option maxHeartbeats 4000000
namespace Law
open PySem PySem.Spec PyProof.Rows L2 DL
def top (i : Nat) : Stmt := PySem.Challenge.pw_doorhouse_k47_rights_that_nobody_has.main.body.getD i (.Pass ⟨0, 0, 0, 0⟩)
local instance : Tabs := ⟨[]⟩
structure Txt (K : PySem.W.Frag) (mg : Str → Option Value) : Prop where
  n_all : mg "all" = none
  n_any : mg "any" = none
  n_enumerate : mg "enumerate" = none
  n_int : mg "int" = none
  n_isinstance : mg "isinstance" = none
  n_len : mg "len" = none
  n_range : mg "range" = none
  n_repr : mg "repr" = none
  n_set : mg "set" = none
  n_sorted : mg "sorted" = none
  n_str : mg "str" = none
  n_tuple : mg "tuple" = none
  n_zip : mg "zip" = none
  c_ALL : ∃ t, mg "ALL" = some (.str "all" t)
  c_DEEDS : ∃ u v, mg "DEEDS" = some u ∧ RelV v u ∧ ∀ H, Dp K H v (.tuple [(.str "see"), (.str "add"), (.str "change"), (.str "remove")])
  c_KNOWN : ∃ t, mg "KNOWN" = some (.str "known" t)
  c_LETTERS : ∃ t, mg "LETTERS" = some (.str "abcdefghijklmnopqrstuvwxyz" t)
  c_MOST_PEOPLE : ∃ t, mg "MOST_PEOPLE" = some (.int (6) t)
  c_MOST_RULES : ∃ t, mg "MOST_RULES" = some (.int (12) t)
  c_MOST_SIGNS : ∃ t, mg "MOST_SIGNS" = some (.int (8) t)
  c_OWN : ∃ t, mg "OWN" = some (.str "own" t)
  c_ROLE : ∃ t, mg "ROLE" = some (.str "role" t)
  c_WORD_SIGNS : ∃ t, mg "WORD_SIGNS" = some (.str "abcdefghijklmnopqrstuvwxyz0123456789-" t)
  g_is_person : Gf K mg "is_person"
section
variable {P : Program} {w : World} {K : PySem.W.Frag} {mg : Str → Option Value} {base : Heap}
def N_is_short_text : List Str := ["thing", "signs", "sign"]
abbrev s_is_short_text : Stmt := top 9
theorem sc_is_short_text : FnScope N_is_short_text ["thing", "signs"] (defScope s_is_short_text) := ⟨rfl, rfl, rfl, by decide +kernel, rfl, by decide +kernel, by decide +kernel⟩
def B_is_short_text : FS :=
  (fSeq (fIfS (fOr (fNot (fB (fIsi "str" (fVar 0)))) (fNot (fB (fChain (fC (.int (1))) (fNmB 0 (g1 lenD)) (fC (.int (8))) (gI fun i j => .bool (decide (i ≤ j))) (gI fun i j => .bool (decide (i ≤ j)))))))
    (fRet (fC (.bool false)))
    fEnd)
  (fRet (fN (fCons (fLcD (fSg (fVar 0)) (gNm 2) fYes (f2 (fVar 2) (fVar 1) (gInS false)) [2]) fNil) (g1 allD))))
def m_is_short_text : FE := defM 2 3 B_is_short_text
theorem fn_is_short_text (T : Txt K mg) (Z : Df K mg "is_short_text" s_is_short_text)   : Fn P w K mg base "is_short_text" ["thing", "signs"] 1 (spD K m_is_short_text 2) := by
  obtain ⟨f, oc, od, osl, kV, doc, pm, an, cdv, ct, hm, l, c, kp⟩ := Z
  have F0 := fun_mk (st := s_is_short_text) l c kp
  refine ⟨f, _, fn_dat F0 sc_is_short_text (fun cdv A outer s H E hr => ?_), F0.binds (ps := ["thing", "signs"]) fun _ _ _ _ _ _ us hl => match us, hl with | [_, _], _ => rfl, hm, kp⟩
  exact (dss_cons (ds_if (DW.dt (dw_or (dt_not (dt_val (de_isi (T := "str") (by kernel_rfl) (by kernel_rfl) rfl T.n_isinstance rfl T.n_str (by decide +kernel) (dv 0)))) (dw_or1 (dt_not (dt_chain o2_cmp o2_cmp op_le op_le de_int (de_nmB (i := 0) oN_len call_len rfl T.n_len (by decide +kernel) rfl (by first | exact Or.inl rfl | exact Or.inr (Or.inl rfl) | exact Or.inr (Or.inr rfl))) (de_cint T.c_MOST_SIGNS rfl))))))
      (dss_one (ds_ret de_bl))
      dss_nil)
    (dss_one (ds_ret (de_callB oN_all (cr_all rfl) rfl T.n_all (by decide +kernel) (da_cons (de_lc (own := [("sign", 2)]) rfl sc_is_short_text.nd (di_str (dv 0)) (blkOk_by (own := [("sign", 2)]) (N := N_is_short_text) (sc := defScope s_is_short_text) (by decide +kernel)) (fun _ _ _ _ _ => (dg_name (i := 2) sc_is_short_text.nd rfl (by first | exact Or.inl rfl | exact Or.inr rfl))) (fun _ _ _ _ _ => dts_nil) (fun _ _ _ _ _ => (de_cmp o2_inS op_in_sign (dv 2) (dv 1) (by with_unfolding_all rfl))) (by decide)) da_nil)))))
def N_is_name : List Str := ["thing"]
abbrev s_is_name : Stmt := top 10
theorem sc_is_name : FnScope N_is_name ["thing"] (defScope s_is_name) := ⟨rfl, rfl, rfl, by decide +kernel, rfl, by decide +kernel, by decide +kernel⟩
def B_is_name : FS :=
  (fRet (fCall m_is_short_text (pNm 0 (pDat (fC (.str "abcdefghijklmnopqrstuvwxyz")) pNil))))
def m_is_name : FE := defM 1 1 B_is_name
theorem fn_is_name (T : Txt K mg) (Z : Df K mg "is_name" s_is_name) (F_is_short_text : Fn P w K mg base "is_short_text" ["thing", "signs"] 1 (spD K m_is_short_text 2))  : Fn P w K mg base "is_name" ["thing"] 2 (spD K m_is_name 1) := by
  obtain ⟨f, oc, od, osl, kV, doc, pm, an, cdv, ct, hm, l, c, kp⟩ := Z
  have F0 := fun_mk (st := s_is_name) l c kp
  refine ⟨f, _, fn_dat F0 sc_is_name (fun cdv A outer s H E hr => ?_), F0.binds (ps := ["thing"]) fun _ _ _ _ _ _ us hl => match us, hl with | [_], _ => rfl, hm, kp⟩
  exact (dss_one (ds_ret (de_callF F_is_short_text (hr.mono (by decide)) rfl (dp_nm (i := 0) rfl (by first | exact Or.inl rfl | exact Or.inr (Or.inl rfl) | exact Or.inr (Or.inr rfl)) (dp_dat (de_cstr T.c_LETTERS rfl) dp_nil)) (lp_nm (lp_dat lp_nil)))))
def N_is_name_or_empty : List Str := ["thing"]
abbrev s_is_name_or_empty : Stmt := top 11
theorem sc_is_name_or_empty : FnScope N_is_name_or_empty ["thing"] (defScope s_is_name_or_empty) := ⟨rfl, rfl, rfl, by decide +kernel, rfl, by decide +kernel, by decide +kernel⟩
def B_is_name_or_empty : FS :=
  (fRet (fOrV (f2 (fVar 0) (fC (.str "")) gEq) (fCall m_is_name (pNm 0 pNil))))
def m_is_name_or_empty : FE := defM 1 1 B_is_name_or_empty
theorem fn_is_name_or_empty (T : Txt K mg) (Z : Df K mg "is_name_or_empty" s_is_name_or_empty) (F_is_name : Fn P w K mg base "is_name" ["thing"] 2 (spD K m_is_name 1))  : Fn P w K mg base "is_name_or_empty" ["thing"] 3 (spD K m_is_name_or_empty 1) := by
  obtain ⟨f, oc, od, osl, kV, doc, pm, an, cdv, ct, hm, l, c, kp⟩ := Z
  have F0 := fun_mk (st := s_is_name_or_empty) l c kp
  refine ⟨f, _, fn_dat F0 sc_is_name_or_empty (fun cdv A outer s H E hr => ?_), F0.binds (ps := ["thing"]) fun _ _ _ _ _ _ us hl => match us, hl with | [_], _ => rfl, hm, kp⟩
  exact (dss_one (ds_ret (de_or (de_cmp o2_eq (op_eqA hr.units) (dv 0) de_str (nomark _)) (de_one (de_callF F_is_name (hr.mono (by decide)) rfl (dp_nm (i := 0) rfl (by first | exact Or.inl rfl | exact Or.inr (Or.inl rfl) | exact Or.inr (Or.inr rfl)) dp_nil) (lp_nm lp_nil))))))
def N_is_word : List Str := ["thing"]
abbrev s_is_word : Stmt := top 12
theorem sc_is_word : FnScope N_is_word ["thing"] (defScope s_is_word) := ⟨rfl, rfl, rfl, by decide +kernel, rfl, by decide +kernel, by decide +kernel⟩
def B_is_word : FS :=
  (fRet (fCall m_is_short_text (pNm 0 (pDat (fC (.str "abcdefghijklmnopqrstuvwxyz0123456789-")) pNil))))
def m_is_word : FE := defM 1 1 B_is_word
theorem fn_is_word (T : Txt K mg) (Z : Df K mg "is_word" s_is_word) (F_is_short_text : Fn P w K mg base "is_short_text" ["thing", "signs"] 1 (spD K m_is_short_text 2))  : Fn P w K mg base "is_word" ["thing"] 2 (spD K m_is_word 1) := by
  obtain ⟨f, oc, od, osl, kV, doc, pm, an, cdv, ct, hm, l, c, kp⟩ := Z
  have F0 := fun_mk (st := s_is_word) l c kp
  refine ⟨f, _, fn_dat F0 sc_is_word (fun cdv A outer s H E hr => ?_), F0.binds (ps := ["thing"]) fun _ _ _ _ _ _ us hl => match us, hl with | [_], _ => rfl, hm, kp⟩
  exact (dss_one (ds_ret (de_callF F_is_short_text (hr.mono (by decide)) rfl (dp_nm (i := 0) rfl (by first | exact Or.inl rfl | exact Or.inr (Or.inl rfl) | exact Or.inr (Or.inr rfl)) (dp_dat (de_cstr T.c_WORD_SIGNS rfl) dp_nil)) (lp_nm (lp_dat lp_nil)))))
def N_are_unlike : List Str := ["texts"]
abbrev s_are_unlike : Stmt := top 13
theorem sc_are_unlike : FnScope N_are_unlike ["texts"] (defScope s_are_unlike) := ⟨rfl, rfl, rfl, by decide +kernel, rfl, by decide +kernel, by decide +kernel⟩
def B_are_unlike : FS :=
  (fRet (f2 (fLenSet (fVar 0)) (fNmB 0 (g1 lenD)) gEq))
def m_are_unlike : FE := defM 1 1 B_are_unlike
theorem fn_are_unlike (T : Txt K mg) (Z : Df K mg "are_unlike" s_are_unlike)   : Fn P w K mg base "are_unlike" ["texts"] 1 (spD K m_are_unlike 1) := by
  obtain ⟨f, oc, od, osl, kV, doc, pm, an, cdv, ct, hm, l, c, kp⟩ := Z
  have F0 := fun_mk (st := s_are_unlike) l c kp
  refine ⟨f, _, fn_dat F0 sc_are_unlike (fun cdv A outer s H E hr => ?_), F0.binds (ps := ["texts"]) fun _ _ _ _ _ _ us hl => match us, hl with | [_], _ => rfl, hm, kp⟩
  exact (dss_one (ds_ret (de_cmp o2_eq (op_eqA hr.units) (de_lenset rfl rfl T.n_len rfl T.n_set (dv 0)) (de_nmB (i := 0) oN_len call_len rfl T.n_len (by decide +kernel) rfl (by first | exact Or.inl rfl | exact Or.inr (Or.inl rfl) | exact Or.inr (Or.inr rfl))) (nomark _))))
def N_are_rising__t : List Str := ["things", "ahead", "behind"]
abbrev s_are_rising__t : Stmt := top 14
theorem sc_are_rising__t : FnScope N_are_rising__t ["things"] (defScope s_are_rising__t) := ⟨rfl, rfl, rfl, by decide +kernel, rfl, by decide +kernel, by decide +kernel⟩
def B_are_rising__t : FS :=
  (fRet (fN (fCons (fLcD (fZpP (fVar 0) (fSlW (fVar 0) (fSome (fC (.int (1)))) fNo)) (gTu 2 (gCo (gNm 1) (gCo (gNm 2) gNo))) fYes (f2 (fVar 1) (fVar 2) gLtS) [1, 2]) fNil) (g1 allD)))
def m_are_rising__t : FE := defM 1 3 B_are_rising__t
theorem fn_are_rising__t (T : Txt K mg) (Z : Df K mg "are_rising" s_are_rising__t)   : Fn P w K mg base "are_rising" ["things"] 1 (spD K m_are_rising__t 1) := by
  obtain ⟨f, oc, od, osl, kV, doc, pm, an, cdv, ct, hm, l, c, kp⟩ := Z
  have F0 := fun_mk (st := s_are_rising__t) l c kp
  refine ⟨f, _, fn_dat F0 sc_are_rising__t (fun cdv A outer s H E hr => ?_), F0.binds (ps := ["things"]) fun _ _ _ _ _ _ us hl => match us, hl with | [_], _ => rfl, hm, kp⟩
  exact (dss_one (ds_ret (de_callB oN_all (cr_all rfl) rfl T.n_all (by decide +kernel) (da_cons (de_lc (own := [("ahead", 1), ("behind", 2)]) rfl sc_are_rising__t.nd (di_zipP rfl T.n_zip (dv 0) (de_sliceW (dv 0) (do_some de_int) do_none)) (blkOk_by (own := [("ahead", 1), ("behind", 2)]) (N := N_are_rising__t) (sc := defScope s_are_rising__t) (by decide +kernel)) (fun _ _ _ _ _ => (dg_tup rfl (dgs_cons (dg_name (i := 1) sc_are_rising__t.nd rfl (by first | exact Or.inl rfl | exact Or.inr rfl)) (dgs_cons (dg_name (i := 2) sc_are_rising__t.nd rfl (by first | exact Or.inl rfl | exact Or.inr rfl)) dgs_nil)))) (fun _ _ _ _ _ => dts_nil) (fun _ _ _ _ _ => (de_cmp o2_ltS op_lt_str (dv 1) (dv 2) (nomark _))) (by decide)) da_nil))))
def N_are_roles : List Str := ["thing", "role"]
abbrev s_are_roles : Stmt := top 28
theorem sc_are_roles : FnScope N_are_roles ["thing"] (defScope s_are_roles) := ⟨rfl, rfl, rfl, by decide +kernel, rfl, by decide +kernel, by decide +kernel⟩
def B_are_roles : FS :=
  (fRet (fAndV (fIsi "tuple" (fVar 0)) (fAndV (fN (fCons (fLcD (fSq (fVar 0)) (gNm 1) fYes (fCall m_is_name (pNm 1 pNil)) [1]) fNil) (g1 allD)) (fCall m_are_rising__t (pNm 0 pNil)))))
def m_are_roles : FE := defM 1 2 B_are_roles
theorem fn_are_roles (T : Txt K mg) (Z : Df K mg "are_roles" s_are_roles) (F_is_name : Fn P w K mg base "is_name" ["thing"] 2 (spD K m_is_name 1)) (F_are_rising__t : Fn P w K mg base "are_rising" ["things"] 1 (spD K m_are_rising__t 1))  : Fn P w K mg base "are_roles" ["thing"] 3 (spD K m_are_roles 1) := by
  obtain ⟨f, oc, od, osl, kV, doc, pm, an, cdv, ct, hm, l, c, kp⟩ := Z
  have F0 := fun_mk (st := s_are_roles) l c kp
  refine ⟨f, _, fn_dat F0 sc_are_roles (fun cdv A outer s H E hr => ?_), F0.binds (ps := ["thing"]) fun _ _ _ _ _ _ us hl => match us, hl with | [_], _ => rfl, hm, kp⟩
  exact (dss_one (ds_ret (de_and (de_isi (T := "tuple") (by kernel_rfl) (by kernel_rfl) rfl T.n_isinstance rfl T.n_tuple (by decide +kernel) (dv 0)) (de_and (de_callB oN_all (cr_all rfl) rfl T.n_all (by decide +kernel) (da_cons (de_lc (own := [("role", 1)]) rfl sc_are_roles.nd (di_seq (dv 0)) (blkOk_by (own := [("role", 1)]) (N := N_are_roles) (sc := defScope s_are_roles) (by decide +kernel)) (fun _ _ _ _ _ => (dg_name (i := 1) sc_are_roles.nd rfl (by first | exact Or.inl rfl | exact Or.inr rfl))) (fun _ _ _ _ _ => dts_nil) (fun _ _ _ _ _ => (de_callF F_is_name (hr.mono (by decide)) rfl (dp_nm (i := 1) rfl (by first | exact Or.inl rfl | exact Or.inr (Or.inl rfl) | exact Or.inr (Or.inr rfl)) dp_nil) (lp_nm lp_nil))) (by decide)) da_nil)) (de_one (de_callF F_are_rising__t (hr.mono (by decide)) rfl (dp_nm (i := 0) rfl (by first | exact Or.inl rfl | exact Or.inr (Or.inl rfl) | exact Or.inr (Or.inr rfl)) dp_nil) (lp_nm lp_nil)))))))
def N_is_person : List Str := ["thing", "name", "word", "roles"]
abbrev s_is_person : Stmt := top 29
theorem sc_is_person : FnScope N_is_person ["thing"] (defScope s_is_person) := ⟨rfl, rfl, rfl, by decide +kernel, rfl, by decide +kernel, by decide +kernel⟩
def B_is_person : FS :=
  (fSeq (fIfS (fOr (fNot (fB (fIsi "tuple" (fVar 0)))) (fB (f2 (fNmB 0 (g1 lenD)) (fC (.int (3))) gNe)))
    (fRet (fC (.bool false)))
    fEnd)
  (fSeq (fAsg (fVar 0) (gTu 3 (gCo (gNm 1) (gCo (gNm 2) (gCo (gNm 3) gNo)))))
  (fRet (fAndV (fCall m_is_name (pNm 1 pNil)) (fAndV (fCall m_is_word (pNm 2 pNil)) (fCall m_are_roles (pNm 3 pNil)))))))
def m_is_person : FE := defM 1 4 B_is_person
theorem fn_is_person (T : Txt K mg) (Z : Df K mg "is_person" s_is_person) (F_is_name : Fn P w K mg base "is_name" ["thing"] 2 (spD K m_is_name 1)) (F_is_word : Fn P w K mg base "is_word" ["thing"] 2 (spD K m_is_word 1)) (F_are_roles : Fn P w K mg base "are_roles" ["thing"] 3 (spD K m_are_roles 1))  : Fn P w K mg base "is_person" ["thing"] 4 (spD K m_is_person 1) := by
  obtain ⟨f, oc, od, osl, kV, doc, pm, an, cdv, ct, hm, l, c, kp⟩ := Z
  have F0 := fun_mk (st := s_is_person) l c kp
  refine ⟨f, _, fn_dat F0 sc_is_person (fun cdv A outer s H E hr => ?_), F0.binds (ps := ["thing"]) fun _ _ _ _ _ _ us hl => match us, hl with | [_], _ => rfl, hm, kp⟩
  exact (dss_cons (ds_if (DW.dt (dw_or (dt_not (dt_val (de_isi (T := "tuple") (by kernel_rfl) (by kernel_rfl) rfl T.n_isinstance rfl T.n_tuple (by decide +kernel) (dv 0)))) (dw_or1 (dt_cmp o2_ne (op_neA hr.units) (de_nmB (i := 0) oN_len call_len rfl T.n_len (by decide +kernel) rfl (by first | exact Or.inl rfl | exact Or.inr (Or.inl rfl) | exact Or.inr (Or.inr rfl))) de_int (nomark _)))))
      (dss_one (ds_ret de_bl))
      dss_nil)
    (dss_cons (ds_asg (dv 0) (dg_tup rfl (dgs_cons (dg_name (i := 1) sc_is_person.nd rfl (by first | exact Or.inl rfl | exact Or.inr rfl)) (dgs_cons (dg_name (i := 2) sc_is_person.nd rfl (by first | exact Or.inl rfl | exact Or.inr rfl)) (dgs_cons (dg_name (i := 3) sc_is_person.nd rfl (by first | exact Or.inl rfl | exact Or.inr rfl)) dgs_nil)))))
    (dss_one (ds_ret (de_and (de_callF F_is_name (hr.mono (by decide)) rfl (dp_nm (i := 1) rfl (by first | exact Or.inl rfl | exact Or.inr (Or.inl rfl) | exact Or.inr (Or.inr rfl)) dp_nil) (lp_nm lp_nil)) (de_and (de_callF F_is_word (hr.mono (by decide)) rfl (dp_nm (i := 2) rfl (by first | exact Or.inl rfl | exact Or.inr (Or.inl rfl) | exact Or.inr (Or.inr rfl)) dp_nil) (lp_nm lp_nil)) (de_one (de_callF F_are_roles (hr.mono (by decide)) rfl (dp_nm (i := 3) rfl (by first | exact Or.inl rfl | exact Or.inr (Or.inl rfl) | exact Or.inr (Or.inr rfl)) dp_nil) (lp_nm lp_nil)))))))))
def N_are_named_rows__is_person : List Str := ["thing", "least", "most", "is_row", "row"]
abbrev s_are_named_rows__is_person : Stmt := top 15
theorem sc_are_named_rows__is_person : FnScope N_are_named_rows__is_person ["thing", "least", "most", "is_row"] (defScope s_are_named_rows__is_person) := ⟨rfl, rfl, rfl, by decide +kernel, rfl, by decide +kernel, by decide +kernel⟩
def B_are_named_rows__is_person : FS :=
  (fSeq (fIfS (fOr (fNot (fB (fIsi "tuple" (fVar 0)))) (fNot (fB (fChain (fVar 1) (fNmB 0 (g1 lenD)) (fVar 2) (gI fun i j => .bool (decide (i ≤ j))) (gI fun i j => .bool (decide (i ≤ j)))))))
    (fRet (fC (.bool false)))
    fEnd)
  (fRet (fAndV (fN (fCons (fLcD (fSq (fVar 0)) (gNm 4) fYes (fCallL "is_person" 3 m_is_person (pNm 4 pNil)) [4]) fNil) (g1 allD)) (fCall m_are_unlike (pDat (fLcD (fSq (fVar 0)) (gNm 4) fYes (f2 (fVar 4) (fC (.int (0))) ixD) [4]) pNil)))))
def m_are_named_rows__is_person : FE := defM 4 5 B_are_named_rows__is_person
theorem fn_are_named_rows__is_person (T : Txt K mg) (Z : Df K mg "are_named_rows" s_are_named_rows__is_person) (F_is_person : Fn P w K mg base "is_person" ["thing"] 4 (spD K m_is_person 1)) (F_are_unlike : Fn P w K mg base "are_unlike" ["texts"] 1 (spD K m_are_unlike 1))  : Fn P w K mg base "are_named_rows" ["thing", "least", "most", "is_row"] 5 (spD K m_are_named_rows__is_person 4) := by
  obtain ⟨f, oc, od, osl, kV, doc, pm, an, cdv, ct, hm, l, c, kp⟩ := Z
  have F0 := fun_mk (st := s_are_named_rows__is_person) l c kp
  refine ⟨f, _, fn_dat F0 sc_are_named_rows__is_person (fun cdv A outer s H E hr => ?_), F0.binds (ps := ["thing", "least", "most", "is_row"]) fun _ _ _ _ _ _ us hl => match us, hl with | [_, _, _, _], _ => rfl, hm, kp⟩
  exact (dss_cons (ds_if (DW.dt (dw_or (dt_not (dt_val (de_isi (T := "tuple") (by kernel_rfl) (by kernel_rfl) rfl T.n_isinstance rfl T.n_tuple (by decide +kernel) (dv 0)))) (dw_or1 (dt_not (dt_chain o2_cmp o2_cmp op_le op_le (dv 1) (de_nmB (i := 0) oN_len call_len rfl T.n_len (by decide +kernel) rfl (by first | exact Or.inl rfl | exact Or.inr (Or.inl rfl) | exact Or.inr (Or.inr rfl))) (dv 2))))))
      (dss_one (ds_ret de_bl))
      dss_nil)
    (dss_one (ds_ret (de_and (de_callB oN_all (cr_all rfl) rfl T.n_all (by decide +kernel) (da_cons (de_lc (own := [("row", 4)]) rfl sc_are_named_rows__is_person.nd (di_seq (dv 0)) (blkOk_by (own := [("row", 4)]) (N := N_are_named_rows__is_person) (sc := defScope s_are_named_rows__is_person) (by decide +kernel)) (fun _ _ _ _ _ => (dg_name (i := 4) sc_are_named_rows__is_person.nd rfl (by first | exact Or.inl rfl | exact Or.inr rfl))) (fun _ _ _ _ _ => dts_nil) (fun _ _ _ _ _ => (de_callL (i := 3) F_is_person T.g_is_person (hr.mono (by decide)) rfl (by first | exact Or.inl rfl | exact Or.inr (Or.inl rfl) | exact Or.inr (Or.inr rfl)) (dp_nm (i := 4) rfl (by first | exact Or.inl rfl | exact Or.inr (Or.inl rfl) | exact Or.inr (Or.inr rfl)) dp_nil) (lp_nm lp_nil))) (by decide)) da_nil)) (de_one (de_callF F_are_unlike (hr.mono (by decide)) rfl (dp_dat (de_lc (own := [("row", 4)]) rfl sc_are_named_rows__is_person.nd (di_seq (dv 0)) (blkOk_by (own := [("row", 4)]) (N := N_are_named_rows__is_person) (sc := defScope s_are_named_rows__is_person) (by decide +kernel)) (fun _ _ _ _ _ => (dg_name (i := 4) sc_are_named_rows__is_person.nd rfl (by first | exact Or.inl rfl | exact Or.inr rfl))) (fun _ _ _ _ _ => dts_nil) (fun _ _ _ _ _ => (de_ix (dv 4) de_int (fun _ _ => rfl))) (by decide)) dp_nil) (lp_dat lp_nil)))))))
def N_is_who : List Str := ["thing"]
abbrev s_is_who : Stmt := top 25
theorem sc_is_who : FnScope N_is_who ["thing"] (defScope s_is_who) := ⟨rfl, rfl, rfl, by decide +kernel, rfl, by decide +kernel, by decide +kernel⟩
def B_is_who : FS :=
  (fSeq (fIfS (fB (fIsT (fVar 0)))
    (fRet (fAndV (f2 (fNmB 0 (g1 lenD)) (fC (.int (2))) gEq) (fAndV (f2 (fNmI 0 (fC (.int (0)))) (fC (.str "role")) gEq) (fCall m_is_name (pDat (fNmI 0 (fC (.int (1)))) pNil)))))
    fEnd)
  (fRet (f2 (fVar 0) (fN (fCons (fC (.str "all")) (fCons (fC (.str "known")) (fCons (fC (.str "own")) fNil))) DL.gTup) (gInD false))))
def m_is_who : FE := defM 1 1 B_is_who
theorem fn_is_who (T : Txt K mg) (Z : Df K mg "is_who" s_is_who) (F_is_name : Fn P w K mg base "is_name" ["thing"] 2 (spD K m_is_name 1))  : Fn P w K mg base "is_who" ["thing"] 3 (spD K m_is_who 1) := by
  obtain ⟨f, oc, od, osl, kV, doc, pm, an, cdv, ct, hm, l, c, kp⟩ := Z
  have F0 := fun_mk (st := s_is_who) l c kp
  refine ⟨f, _, fn_dat F0 sc_is_who (fun cdv A outer s H E hr => ?_), F0.binds (ps := ["thing"]) fun _ _ _ _ _ _ us hl => match us, hl with | [_], _ => rfl, hm, kp⟩
  exact (dss_cons (ds_if (dt_val (de_isT (by kernel_rfl) (by kernel_rfl) rfl T.n_isinstance rfl T.n_tuple (by decide +kernel) (dv 0)))
      (dss_one (ds_ret (de_and (de_cmp o2_eq (op_eqA hr.units) (de_nmB (i := 0) oN_len call_len rfl T.n_len (by decide +kernel) rfl (by first | exact Or.inl rfl | exact Or.inr (Or.inl rfl) | exact Or.inr (Or.inr rfl))) de_int (nomark _)) (de_and (de_cmp o2_eq (op_eqA hr.units) (de_nmI (i := 0) rfl (by first | exact Or.inl rfl | exact Or.inr (Or.inl rfl) | exact Or.inr (Or.inr rfl)) de_int (fun _ _ => rfl)) (de_cstr T.c_ROLE rfl) (nomark _)) (de_one (de_callF F_is_name (hr.mono (by decide)) rfl (dp_dat (de_nmI (i := 0) rfl (by first | exact Or.inl rfl | exact Or.inr (Or.inl rfl) | exact Or.inr (Or.inr rfl)) de_int (fun _ _ => rfl)) dp_nil) (lp_dat lp_nil)))))))
      dss_nil)
    (dss_one (ds_ret (de_cmp o2_inD (op_inX hr.units66) (dv 0) (de_tup (da_cons (de_cstr T.c_ALL rfl) (da_cons (de_cstr T.c_KNOWN rfl) (da_cons (de_cstr T.c_OWN rfl) da_nil)))) (by with_unfolding_all rfl)))))
def N_is_rule : List Str := ["thing", "who", "deed", "kind", "field"]
abbrev s_is_rule : Stmt := top 26
theorem sc_is_rule : FnScope N_is_rule ["thing"] (defScope s_is_rule) := ⟨rfl, rfl, rfl, by decide +kernel, rfl, by decide +kernel, by decide +kernel⟩
def B_is_rule : FS :=
  (fSeq (fIfS (fOr (fNot (fB (fIsi "tuple" (fVar 0)))) (fB (f2 (fNmB 0 (g1 lenD)) (fC (.int (4))) gNe)))
    (fRet (fC (.bool false)))
    fEnd)
  (fSeq (fAsg (fVar 0) (gTu 4 (gCo (gNm 1) (gCo (gNm 2) (gCo (gNm 3) (gCo (gNm 4) gNo))))))
  (fRet (fAndV (fCall m_is_who (pNm 1 pNil)) (fAndV (f2 (fVar 2) (fC (.tuple [(.str "see"), (.str "add"), (.str "change"), (.str "remove")])) (gInD false)) (fAndV (fCall m_is_name (pNm 3 pNil)) (fCall m_is_name_or_empty (pNm 4 pNil))))))))
def m_is_rule : FE := defM 1 5 B_is_rule
theorem fn_is_rule (T : Txt K mg) (Z : Df K mg "is_rule" s_is_rule) (F_is_who : Fn P w K mg base "is_who" ["thing"] 3 (spD K m_is_who 1)) (F_is_name : Fn P w K mg base "is_name" ["thing"] 2 (spD K m_is_name 1)) (F_is_name_or_empty : Fn P w K mg base "is_name_or_empty" ["thing"] 3 (spD K m_is_name_or_empty 1))  : Fn P w K mg base "is_rule" ["thing"] 4 (spD K m_is_rule 1) := by
  obtain ⟨f, oc, od, osl, kV, doc, pm, an, cdv, ct, hm, l, c, kp⟩ := Z
  have F0 := fun_mk (st := s_is_rule) l c kp
  refine ⟨f, _, fn_dat F0 sc_is_rule (fun cdv A outer s H E hr => ?_), F0.binds (ps := ["thing"]) fun _ _ _ _ _ _ us hl => match us, hl with | [_], _ => rfl, hm, kp⟩
  exact (dss_cons (ds_if (DW.dt (dw_or (dt_not (dt_val (de_isi (T := "tuple") (by kernel_rfl) (by kernel_rfl) rfl T.n_isinstance rfl T.n_tuple (by decide +kernel) (dv 0)))) (dw_or1 (dt_cmp o2_ne (op_neA hr.units) (de_nmB (i := 0) oN_len call_len rfl T.n_len (by decide +kernel) rfl (by first | exact Or.inl rfl | exact Or.inr (Or.inl rfl) | exact Or.inr (Or.inr rfl))) de_int (nomark _)))))
      (dss_one (ds_ret de_bl))
      dss_nil)
    (dss_cons (ds_asg (dv 0) (dg_tup rfl (dgs_cons (dg_name (i := 1) sc_is_rule.nd rfl (by first | exact Or.inl rfl | exact Or.inr rfl)) (dgs_cons (dg_name (i := 2) sc_is_rule.nd rfl (by first | exact Or.inl rfl | exact Or.inr rfl)) (dgs_cons (dg_name (i := 3) sc_is_rule.nd rfl (by first | exact Or.inl rfl | exact Or.inr rfl)) (dgs_cons (dg_name (i := 4) sc_is_rule.nd rfl (by first | exact Or.inl rfl | exact Or.inr rfl)) dgs_nil))))))
    (dss_one (ds_ret (de_and (de_callF F_is_who (hr.mono (by decide)) rfl (dp_nm (i := 1) rfl (by first | exact Or.inl rfl | exact Or.inr (Or.inl rfl) | exact Or.inr (Or.inr rfl)) dp_nil) (lp_nm lp_nil)) (de_and (de_cmp o2_inD (op_inX hr.units66) (dv 2) (de_cdat T.c_DEEDS rfl) (by with_unfolding_all rfl)) (de_and (de_callF F_is_name (hr.mono (by decide)) rfl (dp_nm (i := 3) rfl (by first | exact Or.inl rfl | exact Or.inr (Or.inl rfl) | exact Or.inr (Or.inr rfl)) dp_nil) (lp_nm lp_nil)) (de_one (de_callF F_is_name_or_empty (hr.mono (by decide)) rfl (dp_nm (i := 4) rfl (by first | exact Or.inl rfl | exact Or.inr (Or.inl rfl) | exact Or.inr (Or.inr rfl)) dp_nil) (lp_nm lp_nil))))))))))
def N_are_rules : List Str := ["thing", "rule"]
abbrev s_are_rules : Stmt := top 27
theorem sc_are_rules : FnScope N_are_rules ["thing"] (defScope s_are_rules) := ⟨rfl, rfl, rfl, by decide +kernel, rfl, by decide +kernel, by decide +kernel⟩
def B_are_rules : FS :=
  (fRet (fAndV (fIsi "tuple" (fVar 0)) (fAndV (f2 (fNmB 0 (g1 lenD)) (fC (.int (12))) (gI fun i j => .bool (decide (i ≤ j)))) (fN (fCons (fLcD (fSq (fVar 0)) (gNm 1) fYes (fCall m_is_rule (pNm 1 pNil)) [1]) fNil) (g1 allD)))))
def m_are_rules : FE := defM 1 2 B_are_rules
theorem fn_are_rules (T : Txt K mg) (Z : Df K mg "are_rules" s_are_rules) (F_is_rule : Fn P w K mg base "is_rule" ["thing"] 4 (spD K m_is_rule 1))  : Fn P w K mg base "are_rules" ["thing"] 5 (spD K m_are_rules 1) := by
  obtain ⟨f, oc, od, osl, kV, doc, pm, an, cdv, ct, hm, l, c, kp⟩ := Z
  have F0 := fun_mk (st := s_are_rules) l c kp
  refine ⟨f, _, fn_dat F0 sc_are_rules (fun cdv A outer s H E hr => ?_), F0.binds (ps := ["thing"]) fun _ _ _ _ _ _ us hl => match us, hl with | [_], _ => rfl, hm, kp⟩
  exact (dss_one (ds_ret (de_and (de_isi (T := "tuple") (by kernel_rfl) (by kernel_rfl) rfl T.n_isinstance rfl T.n_tuple (by decide +kernel) (dv 0)) (de_and (de_cmp o2_cmp op_le (de_nmB (i := 0) oN_len call_len rfl T.n_len (by decide +kernel) rfl (by first | exact Or.inl rfl | exact Or.inr (Or.inl rfl) | exact Or.inr (Or.inr rfl))) (de_cint T.c_MOST_RULES rfl) (nomark _)) (de_one (de_callB oN_all (cr_all rfl) rfl T.n_all (by decide +kernel) (da_cons (de_lc (own := [("rule", 1)]) rfl sc_are_rules.nd (di_seq (dv 0)) (blkOk_by (own := [("rule", 1)]) (N := N_are_rules) (sc := defScope s_are_rules) (by decide +kernel)) (fun _ _ _ _ _ => (dg_name (i := 1) sc_are_rules.nd rfl (by first | exact Or.inl rfl | exact Or.inr rfl))) (fun _ _ _ _ _ => dts_nil) (fun _ _ _ _ _ => (de_callF F_is_rule (hr.mono (by decide)) rfl (dp_nm (i := 1) rfl (by first | exact Or.inl rfl | exact Or.inr (Or.inl rfl) | exact Or.inr (Or.inr rfl)) dp_nil) (lp_nm lp_nil))) (by decide)) da_nil)))))))
def N_are_people : List Str := ["thing"]
abbrev s_are_people : Stmt := top 30
theorem sc_are_people : FnScope N_are_people ["thing"] (defScope s_are_people) := ⟨rfl, rfl, rfl, by decide +kernel, rfl, by decide +kernel, by decide +kernel⟩
def B_are_people : FS :=
  (fRet (fCall m_are_named_rows__is_person (pNm 0 (pDat (fC (.int (0))) (pDat (fC (.int (6))) (pFn "is_person" pNil))))))
def m_are_people : FE := defM 1 1 B_are_people
theorem fn_are_people (T : Txt K mg) (Z : Df K mg "are_people" s_are_people) (F_are_named_rows__is_person : Fn P w K mg base "are_named_rows" ["thing", "least", "most", "is_row"] 5 (spD K m_are_named_rows__is_person 4))  : Fn P w K mg base "are_people" ["thing"] 6 (spD K m_are_people 1) := by
  obtain ⟨f, oc, od, osl, kV, doc, pm, an, cdv, ct, hm, l, c, kp⟩ := Z
  have F0 := fun_mk (st := s_are_people) l c kp
  refine ⟨f, _, fn_dat F0 sc_are_people (fun cdv A outer s H E hr => ?_), F0.binds (ps := ["thing"]) fun _ _ _ _ _ _ us hl => match us, hl with | [_], _ => rfl, hm, kp⟩
  exact (dss_one (ds_ret (de_callF F_are_named_rows__is_person (hr.mono (by decide)) rfl (dp_nm (i := 0) rfl (by first | exact Or.inl rfl | exact Or.inr (Or.inl rfl) | exact Or.inr (Or.inr rfl)) (dp_dat de_int (dp_dat (de_cint T.c_MOST_PEOPLE rfl) (dp_fn T.g_is_person rfl dp_nil)))) (lp_nm (lp_dat (lp_dat (lp_fn lp_nil)))))))
def N_asker_of : List Str := ["person", "name", "word", "roles"]
abbrev s_asker_of : Stmt := top 31
theorem sc_asker_of : FnScope N_asker_of ["person"] (defScope s_asker_of) := ⟨rfl, rfl, rfl, by decide +kernel, rfl, by decide +kernel, by decide +kernel⟩
def B_asker_of : FS :=
  (fSeq (fAsg (fVar 0) (gTu 3 (gCo (gNm 1) (gCo (gNm 2) (gCo (gNm 3) gNo)))))
  (fRet (fN (fCons (fVar 1) (fCons (fVar 3) fNil)) DL.gTup)))
def m_asker_of : FE := defM 1 4 B_asker_of
theorem fn_asker_of (T : Txt K mg) (Z : Df K mg "asker_of" s_asker_of)   : Fn P w K mg base "asker_of" ["person"] 1 (spD K m_asker_of 1) := by
  obtain ⟨f, oc, od, osl, kV, doc, pm, an, cdv, ct, hm, l, c, kp⟩ := Z
  have F0 := fun_mk (st := s_asker_of) l c kp
  refine ⟨f, _, fn_dat F0 sc_asker_of (fun cdv A outer s H E hr => ?_), F0.binds (ps := ["person"]) fun _ _ _ _ _ _ us hl => match us, hl with | [_], _ => rfl, hm, kp⟩
  exact (dss_cons (ds_asg (dv 0) (dg_tup rfl (dgs_cons (dg_name (i := 1) sc_asker_of.nd rfl (by first | exact Or.inl rfl | exact Or.inr rfl)) (dgs_cons (dg_name (i := 2) sc_asker_of.nd rfl (by first | exact Or.inl rfl | exact Or.inr rfl)) (dgs_cons (dg_name (i := 3) sc_asker_of.nd rfl (by first | exact Or.inl rfl | exact Or.inr rfl)) dgs_nil)))))
    (dss_one (ds_ret (de_tup (da_cons (dv 1) (da_cons (dv 3) da_nil))))))
def N_name_of : List Str := ["asker"]
abbrev s_name_of : Stmt := top 32
theorem sc_name_of : FnScope N_name_of ["asker"] (defScope s_name_of) := ⟨rfl, rfl, rfl, by decide +kernel, rfl, by decide +kernel, by decide +kernel⟩
def B_name_of : FS :=
  (fRet (fIf (fB (f2 (fVar 0) (fC .none) gIsN)) (fC (.str "")) (fNmI 0 (fC (.int (0))))))
def m_name_of : FE := defM 1 1 B_name_of
theorem fn_name_of (T : Txt K mg) (Z : Df K mg "name_of" s_name_of)   : Fn P w K mg base "name_of" ["asker"] 1 (spD K m_name_of 1) := by
  obtain ⟨f, oc, od, osl, kV, doc, pm, an, cdv, ct, hm, l, c, kp⟩ := Z
  have F0 := fun_mk (st := s_name_of) l c kp
  refine ⟨f, _, fn_dat F0 sc_name_of (fun cdv A outer s H E hr => ?_), F0.binds (ps := ["asker"]) fun _ _ _ _ _ _ us hl => match us, hl with | [_], _ => rfl, hm, kp⟩
  exact (dss_one (ds_ret (de_ifExp (dt_cmp o2_isN op_isN (dv 0) de_non (nomark _)) de_str (de_nmI (i := 0) rfl (by first | exact Or.inl rfl | exact Or.inr (Or.inl rfl) | exact Or.inr (Or.inr rfl)) de_int (fun _ _ => rfl)))))
def N_check_rules : List Str := ["rules"]
abbrev s_check_rules : Stmt := top 33
theorem sc_check_rules : FnScope N_check_rules ["rules"] (defScope s_check_rules) := ⟨rfl, rfl, rfl, by decide +kernel, rfl, by decide +kernel, by decide +kernel⟩
def B_check_rules : FS :=
  (fIfS (fNot (fB (fCall m_are_rules (pNm 0 pNil))))
    (fun _ _ => none)
    fEnd)
def m_check_rules : FE := defM 1 1 B_check_rules
theorem fn_check_rules (T : Txt K mg) (Z : Df K mg "check_rules" s_check_rules) (F_are_rules : Fn P w K mg base "are_rules" ["thing"] 5 (spD K m_are_rules 1))  : Fn P w K mg base "check_rules" ["rules"] 6 (spD K m_check_rules 1) := by
  obtain ⟨f, oc, od, osl, kV, doc, pm, an, cdv, ct, hm, l, c, kp⟩ := Z
  have F0 := fun_mk (st := s_check_rules) l c kp
  refine ⟨f, _, fn_dat F0 sc_check_rules (fun cdv A outer s H E hr => ?_), F0.binds (ps := ["rules"]) fun _ _ _ _ _ _ us hl => match us, hl with | [_], _ => rfl, hm, kp⟩
  exact (dss_one (ds_if (dt_not (dt_val (de_callF F_are_rules (hr.mono (by decide)) rfl (dp_nm (i := 0) rfl (by first | exact Or.inl rfl | exact Or.inr (Or.inl rfl) | exact Or.inr (Or.inr rfl)) dp_nil) (lp_nm lp_nil))))
      (dss_one ds_never)
      dss_nil))
def N_is_for : List Str := ["who", "asker", "owner", "name", "roles"]
abbrev s_is_for : Stmt := top 34
theorem sc_is_for : FnScope N_is_for ["who", "asker", "owner"] (defScope s_is_for) := ⟨rfl, rfl, rfl, by decide +kernel, rfl, by decide +kernel, by decide +kernel⟩
def B_is_for : FS :=
  (fSeq (fIfS (fB (f2 (fVar 0) (fC (.str "all")) gEq))
    (fRet (fC (.bool true)))
    fEnd)
  (fSeq (fIfS (fB (f2 (fVar 1) (fC .none) gIsN))
    (fRet (fC (.bool false)))
    fEnd)
  (fSeq (fAsg (fVar 1) (gTu 2 (gCo (gNm 3) (gCo (gNm 4) gNo))))
  (fSeq (fIfS (fB (f2 (fVar 0) (fC (.str "own")) gEq))
    (fRet (f2 (fVar 3) (fVar 2) gEq))
    fEnd)
  (fRet (fOrV (f2 (fVar 0) (fC (.str "known")) gEq) (f2 (fNmI 0 (fC (.int (1)))) (fVar 4) (gInD false))))))))
def m_is_for : FE := defM 3 5 B_is_for
theorem fn_is_for (T : Txt K mg) (Z : Df K mg "is_for" s_is_for)   : Fn P w K mg base "is_for" ["who", "asker", "owner"] 1 (spD K m_is_for 3) := by
  obtain ⟨f, oc, od, osl, kV, doc, pm, an, cdv, ct, hm, l, c, kp⟩ := Z
  have F0 := fun_mk (st := s_is_for) l c kp
  refine ⟨f, _, fn_dat F0 sc_is_for (fun cdv A outer s H E hr => ?_), F0.binds (ps := ["who", "asker", "owner"]) fun _ _ _ _ _ _ us hl => match us, hl with | [_, _, _], _ => rfl, hm, kp⟩
  exact (dss_cons (ds_if (dt_cmp o2_eq (op_eqA hr.units) (dv 0) (de_cstr T.c_ALL rfl) (nomark _))
      (dss_one (ds_ret de_bl))
      dss_nil)
    (dss_cons (ds_if (dt_cmp o2_isN op_isN (dv 1) de_non (nomark _))
      (dss_one (ds_ret de_bl))
      dss_nil)
    (dss_cons (ds_asg (dv 1) (dg_tup rfl (dgs_cons (dg_name (i := 3) sc_is_for.nd rfl (by first | exact Or.inl rfl | exact Or.inr rfl)) (dgs_cons (dg_name (i := 4) sc_is_for.nd rfl (by first | exact Or.inl rfl | exact Or.inr rfl)) dgs_nil))))
    (dss_cons (ds_if (dt_cmp o2_eq (op_eqA hr.units) (dv 0) (de_cstr T.c_OWN rfl) (nomark _))
      (dss_one (ds_ret (de_cmp o2_eq (op_eqA hr.units) (dv 3) (dv 2) (nomark _))))
      dss_nil)
    (dss_one (ds_ret (de_or (de_cmp o2_eq (op_eqA hr.units) (dv 0) (de_cstr T.c_KNOWN rfl) (nomark _)) (de_one (de_cmp o2_inD (op_inX hr.units66) (de_nmI (i := 0) rfl (by first | exact Or.inl rfl | exact Or.inr (Or.inl rfl) | exact Or.inr (Or.inr rfl)) de_int (fun _ _ => rfl)) (dv 4) (by with_unfolding_all rfl))))))))))
def N_find_rule : List Str := ["rules", "asker", "deed", "kind", "field", "owner", "place", "who", "rule_deed", "rule_kind", "rule_field"]
abbrev s_find_rule : Stmt := top 35
theorem sc_find_rule : FnScope N_find_rule ["rules", "asker", "deed", "kind", "field", "owner"] (defScope s_find_rule) := ⟨rfl, rfl, rfl, by decide +kernel, rfl, by decide +kernel, by decide +kernel⟩
def B_find_rule : FS :=
  (fSeq (fFor (fEnT (fVar 0)) (gTu 2 (gCo (gNm 6) (gCo (gTu 4 (gCo (gNm 7) (gCo (gNm 8) (gCo (gNm 9) (gCo (gNm 10) gNo))))) gNo)))
    (fIfS (fAnd (fB (f2 (fN (fCons (fVar 8) (fCons (fVar 9) fNil)) DL.gTup) (fN (fCons (fVar 2) (fCons (fVar 3) fNil)) DL.gTup) gEq)) (fAnd (fB (f2 (fVar 10) (fN (fCons (fVar 4) (fCons (fC (.str "")) fNil)) DL.gTup) (gInD false))) (fB (fCall m_is_for (pNm 7 (pNm 1 (pNm 5 pNil)))))))
    (fRet (fVar 6))
    fEnd))
  (fRet (fC .none)))
def m_find_rule : FE := defM 6 11 B_find_rule
theorem fn_find_rule (T : Txt K mg) (Z : Df K mg "find_rule" s_find_rule) (F_is_for : Fn P w K mg base "is_for" ["who", "asker", "owner"] 1 (spD K m_is_for 3))  : Fn P w K mg base "find_rule" ["rules", "asker", "deed", "kind", "field", "owner"] 2 (spD K m_find_rule 6) := by
  obtain ⟨f, oc, od, osl, kV, doc, pm, an, cdv, ct, hm, l, c, kp⟩ := Z
  have F0 := fun_mk (st := s_find_rule) l c kp
  refine ⟨f, _, fn_dat F0 sc_find_rule (fun cdv A outer s H E hr => ?_), F0.binds (ps := ["rules", "asker", "deed", "kind", "field", "owner"]) fun _ _ _ _ _ _ us hl => match us, hl with | [_, _, _, _, _, _], _ => rfl, hm, kp⟩
  exact (dss_cons (ds_for rfl (di_enumT rfl T.n_enumerate (dv 0)) (dg_tup rfl (dgs_cons (dg_name (i := 6) sc_find_rule.nd rfl (by first | exact Or.inl rfl | exact Or.inr rfl)) (dgs_cons (dg_tup rfl (dgs_cons (dg_name (i := 7) sc_find_rule.nd rfl (by first | exact Or.inl rfl | exact Or.inr rfl)) (dgs_cons (dg_name (i := 8) sc_find_rule.nd rfl (by first | exact Or.inl rfl | exact Or.inr rfl)) (dgs_cons (dg_name (i := 9) sc_find_rule.nd rfl (by first | exact Or.inl rfl | exact Or.inr rfl)) (dgs_cons (dg_name (i := 10) sc_find_rule.nd rfl (by first | exact Or.inl rfl | exact Or.inr rfl)) dgs_nil))))) dgs_nil)))
      (dss_one (ds_if (DW.dt (dw_and (dt_cmp o2_eq (op_eqA hr.units) (de_tup (da_cons (dv 8) (da_cons (dv 9) da_nil))) (de_tup (da_cons (dv 2) (da_cons (dv 3) da_nil))) (nomark _)) (dw_and (dt_cmp o2_inD (op_inX hr.units66) (dv 10) (de_tup (da_cons (dv 4) (da_cons de_str da_nil))) (by with_unfolding_all rfl)) (dw_and1 (dt_val (de_callF F_is_for (hr.mono (by decide)) rfl (dp_nm (i := 7) rfl (by first | exact Or.inl rfl | exact Or.inr (Or.inl rfl) | exact Or.inr (Or.inr rfl)) (dp_nm (i := 1) rfl (by first | exact Or.inl rfl | exact Or.inr (Or.inl rfl) | exact Or.inr (Or.inr rfl)) (dp_nm (i := 5) rfl (by first | exact Or.inl rfl | exact Or.inr (Or.inl rfl) | exact Or.inr (Or.inr rfl)) dp_nil))) (lp_nm (lp_nm (lp_nm lp_nil)))))))))
      (dss_one (ds_ret (dv 6)))
      dss_nil)) PassesOwn.never)
    (dss_one (ds_ret de_non)))
def N_is_met : List Str := ["rules", "place", "asker", "who", "deed", "kind", "field", "owner"]
abbrev s_is_met : Stmt := top 36
theorem sc_is_met : FnScope N_is_met ["rules", "place", "asker"] (defScope s_is_met) := ⟨rfl, rfl, rfl, by decide +kernel, rfl, by decide +kernel, by decide +kernel⟩
def B_is_met : FS :=
  (fSeq (fAsg (fNmI 0 (fVar 1)) (gTu 4 (gCo (gNm 3) (gCo (gNm 4) (gCo (gNm 5) (gCo (gNm 6) gNo))))))
  (fRet (f2 (fVar 1) (fLcD (fSq (fN (fCons (fC (.str "")) (fCons (fCall m_name_of (pNm 2 pNil)) fNil)) DL.gTup)) (gNm 7) fYes (fCall m_find_rule (pNm 0 (pNm 2 (pNm 4 (pNm 5 (pNm 6 (pNm 7 pNil))))))) [7]) (gInD false))))
def m_is_met : FE := defM 3 8 B_is_met
theorem fn_is_met (T : Txt K mg) (Z : Df K mg "is_met" s_is_met) (F_name_of : Fn P w K mg base "name_of" ["asker"] 1 (spD K m_name_of 1)) (F_find_rule : Fn P w K mg base "find_rule" ["rules", "asker", "deed", "kind", "field", "owner"] 2 (spD K m_find_rule 6))  : Fn P w K mg base "is_met" ["rules", "place", "asker"] 3 (spD K m_is_met 3) := by
  obtain ⟨f, oc, od, osl, kV, doc, pm, an, cdv, ct, hm, l, c, kp⟩ := Z
  have F0 := fun_mk (st := s_is_met) l c kp
  refine ⟨f, _, fn_dat F0 sc_is_met (fun cdv A outer s H E hr => ?_), F0.binds (ps := ["rules", "place", "asker"]) fun _ _ _ _ _ _ us hl => match us, hl with | [_, _, _], _ => rfl, hm, kp⟩
  exact (dss_cons (ds_asg (de_nmI (i := 0) rfl (by first | exact Or.inl rfl | exact Or.inr (Or.inl rfl) | exact Or.inr (Or.inr rfl)) (dv 1) (fun _ _ => rfl)) (dg_tup rfl (dgs_cons (dg_name (i := 3) sc_is_met.nd rfl (by first | exact Or.inl rfl | exact Or.inr rfl)) (dgs_cons (dg_name (i := 4) sc_is_met.nd rfl (by first | exact Or.inl rfl | exact Or.inr rfl)) (dgs_cons (dg_name (i := 5) sc_is_met.nd rfl (by first | exact Or.inl rfl | exact Or.inr rfl)) (dgs_cons (dg_name (i := 6) sc_is_met.nd rfl (by first | exact Or.inl rfl | exact Or.inr rfl)) dgs_nil))))))
    (dss_one (ds_ret (de_cmp o2_inD (op_inX hr.units66) (dv 1) (de_lc (own := [("owner", 7)]) rfl sc_is_met.nd (di_seq (de_tup (da_cons de_str (da_cons (de_callF F_name_of (hr.mono (by decide)) rfl (dp_nm (i := 2) rfl (by first | exact Or.inl rfl | exact Or.inr (Or.inl rfl) | exact Or.inr (Or.inr rfl)) dp_nil) (lp_nm lp_nil)) da_nil)))) (blkOk_by (own := [("owner", 7)]) (N := N_is_met) (sc := defScope s_is_met) (by decide +kernel)) (fun _ _ _ _ _ => (dg_name (i := 7) sc_is_met.nd rfl (by first | exact Or.inl rfl | exact Or.inr rfl))) (fun _ _ _ _ _ => dts_nil) (fun _ _ _ _ _ => (de_callF F_find_rule (hr.mono (by decide)) rfl (dp_nm (i := 0) rfl (by first | exact Or.inl rfl | exact Or.inr (Or.inl rfl) | exact Or.inr (Or.inr rfl)) (dp_nm (i := 2) rfl (by first | exact Or.inl rfl | exact Or.inr (Or.inl rfl) | exact Or.inr (Or.inr rfl)) (dp_nm (i := 4) rfl (by first | exact Or.inl rfl | exact Or.inr (Or.inl rfl) | exact Or.inr (Or.inr rfl)) (dp_nm (i := 5) rfl (by first | exact Or.inl rfl | exact Or.inr (Or.inl rfl) | exact Or.inr (Or.inr rfl)) (dp_nm (i := 6) rfl (by first | exact Or.inl rfl | exact Or.inr (Or.inl rfl) | exact Or.inr (Or.inr rfl)) (dp_nm (i := 7) rfl (by first | exact Or.inl rfl | exact Or.inr (Or.inl rfl) | exact Or.inr (Or.inr rfl)) dp_nil)))))) (lp_nm (lp_nm (lp_nm (lp_nm (lp_nm (lp_nm lp_nil)))))))) (by decide)) (by with_unfolding_all rfl)))))
def N_nobody : List Str := ["rules", "people", "askers", "person", "place", "asker"]
abbrev s_nobody : Stmt := top 37
theorem sc_nobody : FnScope N_nobody ["rules", "people"] (defScope s_nobody) := ⟨rfl, rfl, rfl, by decide +kernel, rfl, by decide +kernel, by decide +kernel⟩
def B_nobody : FS :=
  (fSeq (fExpr (fCall m_check_rules (pNm 0 pNil)))
  (fSeq (fIfS (fNot (fB (fCall m_are_people (pNm 1 pNil))))
    (fun _ _ => none)
    fEnd)
  (fSeq (fAsg (f2 (fN (fCons (fC .none) fNil) gLst) (fLcD (fSq (fVar 1)) (gNm 3) fYes (fCall m_asker_of (pNm 3 pNil)) [3]) gAdd) (gNm 2))
  (fRet (fN (fCons (fLcD (fRg1 (fNmB 0 (g1 lenD))) (gNm 4) (fNot (fB (fN (fCons (fLcD (fSq (fVar 2)) (gNm 5) fYes (fCall m_is_met (pNm 0 (pNm 4 (pNm 5 pNil)))) [5]) fNil) (g1 anyD)))) (fVar 4) [4]) fNil) (g1 tupleD))))))
def m_nobody : FE := defM 2 6 B_nobody
theorem fn_nobody (T : Txt K mg) (Z : Df K mg "nobody" s_nobody) (F_is_met : Fn P w K mg base "is_met" ["rules", "place", "asker"] 3 (spD K m_is_met 3)) (F_asker_of : Fn P w K mg base "asker_of" ["person"] 1 (spD K m_asker_of 1)) (F_are_people : Fn P w K mg base "are_people" ["thing"] 6 (spD K m_are_people 1)) (F_check_rules : Fn P w K mg base "check_rules" ["rules"] 6 (spD K m_check_rules 1))  : Fn P w K mg base "nobody" ["rules", "people"] 7 (spD K m_nobody 2) := by
  obtain ⟨f, oc, od, osl, kV, doc, pm, an, cdv, ct, hm, l, c, kp⟩ := Z
  have F0 := fun_mk (st := s_nobody) l c kp
  refine ⟨f, _, fn_dat F0 sc_nobody (fun cdv A outer s H E hr => ?_), F0.binds (ps := ["rules", "people"]) fun _ _ _ _ _ _ us hl => match us, hl with | [_, _], _ => rfl, hm, kp⟩
  exact (dss_cons (ds_expr (de_callF F_check_rules (hr.mono (by decide)) rfl (dp_nm (i := 0) rfl (by first | exact Or.inl rfl | exact Or.inr (Or.inl rfl) | exact Or.inr (Or.inr rfl)) dp_nil) (lp_nm lp_nil)))
    (dss_cons (ds_if (dt_not (dt_val (de_callF F_are_people (hr.mono (by decide)) rfl (dp_nm (i := 1) rfl (by first | exact Or.inl rfl | exact Or.inr (Or.inl rfl) | exact Or.inr (Or.inr rfl)) dp_nil) (lp_nm lp_nil))))
      (dss_one ds_never)
      dss_nil)
    (dss_cons (ds_set (x := "askers") (i := 2) sc_nobody.nd rfl (by first | exact Or.inl rfl | exact Or.inr rfl) (de_op o2_add op_addA (de_lst (da_cons de_non da_nil)) (de_lc (own := [("person", 3)]) rfl sc_nobody.nd (di_seq (dv 1)) (blkOk_by (own := [("person", 3)]) (N := N_nobody) (sc := defScope s_nobody) (by decide +kernel)) (fun _ _ _ _ _ => (dg_name (i := 3) sc_nobody.nd rfl (by first | exact Or.inl rfl | exact Or.inr rfl))) (fun _ _ _ _ _ => dts_nil) (fun _ _ _ _ _ => (de_callF F_asker_of (hr.mono (by decide)) rfl (dp_nm (i := 3) rfl (by first | exact Or.inl rfl | exact Or.inr (Or.inl rfl) | exact Or.inr (Or.inr rfl)) dp_nil) (lp_nm lp_nil))) (by decide))))
    (dss_one (ds_ret (de_callTy oN_tuple call_tuple_of rfl T.n_tuple (by decide +kernel) (da_cons (de_lc (own := [("place", 4)]) rfl sc_nobody.nd (di_range1 rfl T.n_range (de_nmB (i := 0) oN_len call_len rfl T.n_len (by decide +kernel) rfl (by first | exact Or.inl rfl | exact Or.inr (Or.inl rfl) | exact Or.inr (Or.inr rfl)))) (blkOk_by (own := [("place", 4)]) (N := N_nobody) (sc := defScope s_nobody) (by decide +kernel)) (fun _ _ _ _ _ => (dg_name (i := 4) sc_nobody.nd rfl (by first | exact Or.inl rfl | exact Or.inr rfl))) (fun _ _ _ _ _ => (dts_one (dt_not (dt_val (de_callB oN_any (cr_any rfl) rfl T.n_any (by decide +kernel) (da_cons (de_lc (own := [("asker", 5)]) rfl sc_nobody.nd (di_seq (dv 2)) (blkOk_by (own := [("asker", 5)]) (N := N_nobody) (by kernel_rfl)) (fun _ _ _ _ _ => (dg_name (i := 5) sc_nobody.nd rfl (by first | exact Or.inl rfl | exact Or.inr rfl))) (fun _ _ _ _ _ => dts_nil) (fun _ _ _ _ _ => (de_callF F_is_met (hr.mono (by decide)) rfl (dp_nm (i := 0) rfl (by first | exact Or.inl rfl | exact Or.inr (Or.inl rfl) | exact Or.inr (Or.inr rfl)) (dp_nm (i := 4) rfl (by first | exact Or.inl rfl | exact Or.inr (Or.inl rfl) | exact Or.inr (Or.inr rfl)) (dp_nm (i := 5) rfl (by first | exact Or.inl rfl | exact Or.inr (Or.inl rfl) | exact Or.inr (Or.inr rfl)) dp_nil))) (lp_nm (lp_nm (lp_nm lp_nil))))) (by decide)) da_nil)))))) (fun _ _ _ _ _ => (dv 4)) (by decide)) da_nil)))))))
def N__law_cell : List Str := ["_law_script", "_law_k"]
abbrev s__law_cell : Stmt := top 39
theorem sc__law_cell : FnScope N__law_cell ["_law_script", "_law_k"] (defScope s__law_cell) := ⟨rfl, rfl, rfl, by decide +kernel, rfl, by decide +kernel, by decide +kernel⟩
def B__law_cell : FS :=
  (fSeq (fIfS (fB (f2 (fVar 1) (fNmB 0 (g1 lenD)) (gI fun i j => .bool (decide (i < j)))))
    (fRet (fNmI 0 (fVar 1)))
    fEnd)
  (fRet (fC (.int (0)))))
def m__law_cell : FE := defM 2 2 B__law_cell
theorem fn__law_cell (T : Txt K mg) (Z : Df K mg "_law_cell" s__law_cell)   : Fn P w K mg base "_law_cell" ["_law_script", "_law_k"] 1 (spD K m__law_cell 2) := by
  obtain ⟨f, oc, od, osl, kV, doc, pm, an, cdv, ct, hm, l, c, kp⟩ := Z
  have F0 := fun_mk (st := s__law_cell) l c kp
  refine ⟨f, _, fn_dat F0 sc__law_cell (fun cdv A outer s H E hr => ?_), F0.binds (ps := ["_law_script", "_law_k"]) fun _ _ _ _ _ _ us hl => match us, hl with | [_, _], _ => rfl, hm, kp⟩
  exact (dss_cons (ds_if (dt_cmp o2_cmp op_lt (dv 1) (de_nmB (i := 0) oN_len call_len rfl T.n_len (by decide +kernel) rfl (by first | exact Or.inl rfl | exact Or.inr (Or.inl rfl) | exact Or.inr (Or.inr rfl))) (nomark _))
      (dss_one (ds_ret (de_nmI (i := 0) rfl (by first | exact Or.inl rfl | exact Or.inr (Or.inl rfl) | exact Or.inr (Or.inr rfl)) (dv 1) (fun _ _ => rfl))))
      dss_nil)
    (dss_one (ds_ret de_int)))
def N__law_pen : List Str := ["_law_cell_here"]
abbrev s__law_pen : Stmt := top 40
theorem sc__law_pen : FnScope N__law_pen ["_law_cell_here"] (defScope s__law_pen) := ⟨rfl, rfl, rfl, by decide +kernel, rfl, by decide +kernel, by decide +kernel⟩
def m__law_pen : FF := defF 1 1 (fLstF (fCons (fVar 0) (fCons (fN (fCons (f2 (fVar 0) (f2 (fC (.int (10))) (fC (.int (18))) (gIC cPow fun i j => i ^ j.toNat)) (gI fun i j => .bool (decide (j ≤ i)))) fNil) (g1 intD)) fNil)))
theorem fn__law_pen (T : Txt K mg) (Z : Df K mg "_law_pen" s__law_pen)   : Fn P w K mg base "_law_pen" ["_law_cell_here"] 1 (spF K m__law_pen 1) := by
  obtain ⟨f, oc, od, osl, kV, doc, pm, an, cdv, ct, hm, l, c, kp⟩ := Z
  have F0 := fun_mk (st := s__law_pen) l c kp
  refine ⟨f, _, fn_new F0 sc__law_pen rfl (fun cdv A outer s H E hr => ?_), F0.binds (ps := ["_law_cell_here"]) fun _ _ _ _ _ _ us hl => match us, hl with | [_], _ => rfl, hm, kp⟩
  exact (df_lst (da_cons (dv 0) (da_cons (de_callTy oN_int call_intA rfl T.n_int (by decide +kernel) (da_cons (de_cmp o2_cmp op_ge (dv 0) (de_op o2_pow op_pow de_int de_int) (nomark _)) da_nil)) da_nil)))
def N__law_draw : List Str := ["_law_pen_here", "_law_many", "_law_digit"]
abbrev s__law_draw : Stmt := top 41
theorem sc__law_draw : FnScope N__law_draw ["_law_pen_here", "_law_many"] (defScope s__law_draw) := ⟨rfl, rfl, rfl, by decide +kernel, rfl, by decide +kernel, by decide +kernel⟩
def B__law_draw : FS :=
  (fSeq (fIfS (fB (f2 (fNmI 0 (fC (.int (1)))) (fC (.int (1))) gEq))
    (fSeq (fAsg (f2 (fNmI 0 (fC (.int (0)))) (fVar 1) (gIC cMod fun i j => i % j)) (gNm 2))
  (fSeq (fSetI 0 0 (f2 (fNmI 0 (fC (.int (0)))) (fVar 1) (gIC cDiv fun i j => i / j)))
  (fRet (fVar 2))))
    fEnd)
  (fSeq (fSetI 0 0 (f2 (f2 (f2 (f2 (fNmI 0 (fC (.int (0)))) (fC (.int (2147483629))) (gIC cMod fun i j => i % j)) (fC (.int (48271))) (gIC cMul fun i j => i * j)) (fC (.int (11))) gAdd) (fC (.int (2147483629))) (gIC cMod fun i j => i % j)))
  (fRet (f2 (f2 (f2 (f2 (f2 (fNmI 0 (fC (.int (0)))) (fNmI 0 (fC (.int (0)))) (gIC cMul fun i j => i * j)) (f2 (fC (.int (40692))) (fNmI 0 (fC (.int (0)))) (gIC cMul fun i j => i * j)) gAdd) (fC (.int (2147483647))) (gIC cMod fun i j => i % j)) (fC (.int (8))) (gIC cDiv fun i j => i / j)) (fVar 1) (gIC cMod fun i j => i % j)))))
def m__law_draw : FE := defM 2 3 B__law_draw
theorem fn__law_draw (T : Txt K mg) (Z : Df K mg "_law_draw" s__law_draw)   : Fn P w K mg base "_law_draw" ["_law_pen_here", "_law_many"] 1 (spD K m__law_draw 2) := by
  obtain ⟨f, oc, od, osl, kV, doc, pm, an, cdv, ct, hm, l, c, kp⟩ := Z
  have F0 := fun_mk (st := s__law_draw) l c kp
  refine ⟨f, _, fn_dat F0 sc__law_draw (fun cdv A outer s H E hr => ?_), F0.binds (ps := ["_law_pen_here", "_law_many"]) fun _ _ _ _ _ _ us hl => match us, hl with | [_, _], _ => rfl, hm, kp⟩
  exact (dss_cons (ds_if (dt_cmp o2_eq (op_eqA hr.units) (de_nmI (i := 0) rfl (by first | exact Or.inl rfl | exact Or.inr (Or.inl rfl) | exact Or.inr (Or.inr rfl)) de_int (fun _ _ => rfl)) de_int (nomark _))
      (dss_cons (ds_set (x := "_law_digit") (i := 2) sc__law_draw.nd rfl (by first | exact Or.inl rfl | exact Or.inr rfl) (de_op o2_mod op_mod (de_nmI (i := 0) rfl (by first | exact Or.inl rfl | exact Or.inr (Or.inl rfl) | exact Or.inr (Or.inr rfl)) de_int (fun _ _ => rfl)) (dv 1)))
    (dss_cons (ds_setI (i := 0) rfl (by first | exact Or.inl rfl | exact Or.inr (Or.inl rfl) | exact Or.inr (Or.inr rfl)) (de_op o2_div op_fdiv (de_nmI (i := 0) rfl (by first | exact Or.inl rfl | exact Or.inr (Or.inl rfl) | exact Or.inr (Or.inr rfl)) de_int (fun _ _ => rfl)) (dv 1)))
    (dss_one (ds_ret (dv 2)))))
      dss_nil)
    (dss_cons (ds_setI (i := 0) rfl (by first | exact Or.inl rfl | exact Or.inr (Or.inl rfl) | exact Or.inr (Or.inr rfl)) (de_op o2_mod op_mod (de_op o2_add op_addA (de_op o2_mul op_mul (de_op o2_mod op_mod (de_nmI (i := 0) rfl (by first | exact Or.inl rfl | exact Or.inr (Or.inl rfl) | exact Or.inr (Or.inr rfl)) de_int (fun _ _ => rfl)) de_int) de_int) de_int) de_int))
    (dss_one (ds_ret (de_op o2_mod op_mod (de_op o2_div op_fdiv (de_op o2_mod op_mod (de_op o2_add op_addA (de_op o2_mul op_mul (de_nmI (i := 0) rfl (by first | exact Or.inl rfl | exact Or.inr (Or.inl rfl) | exact Or.inr (Or.inr rfl)) de_int (fun _ _ => rfl)) (de_nmI (i := 0) rfl (by first | exact Or.inl rfl | exact Or.inr (Or.inl rfl) | exact Or.inr (Or.inr rfl)) de_int (fun _ _ => rfl))) (de_op o2_mul op_mul de_int (de_nmI (i := 0) rfl (by first | exact Or.inl rfl | exact Or.inr (Or.inl rfl) | exact Or.inr (Or.inr rfl)) de_int (fun _ _ => rfl)))) de_int) de_int) (dv 1))))))
def N__law_pick : List Str := ["_law_pen_here", "_law_things"]
abbrev s__law_pick : Stmt := top 42
theorem sc__law_pick : FnScope N__law_pick ["_law_pen_here", "_law_things"] (defScope s__law_pick) := ⟨rfl, rfl, rfl, by decide +kernel, rfl, by decide +kernel, by decide +kernel⟩
def B__law_pick : FS :=
  (fRet (fNmI 1 (fCall m__law_draw (pNm 0 (pDat (fNmB 1 (g1 lenD)) pNil)))))
def m__law_pick : FE := defM 2 2 B__law_pick
theorem fn__law_pick (T : Txt K mg) (Z : Df K mg "_law_pick" s__law_pick) (F__law_draw : Fn P w K mg base "_law_draw" ["_law_pen_here", "_law_many"] 1 (spD K m__law_draw 2))  : Fn P w K mg base "_law_pick" ["_law_pen_here", "_law_things"] 2 (spD K m__law_pick 2) := by
  obtain ⟨f, oc, od, osl, kV, doc, pm, an, cdv, ct, hm, l, c, kp⟩ := Z
  have F0 := fun_mk (st := s__law_pick) l c kp
  refine ⟨f, _, fn_dat F0 sc__law_pick (fun cdv A outer s H E hr => ?_), F0.binds (ps := ["_law_pen_here", "_law_things"]) fun _ _ _ _ _ _ us hl => match us, hl with | [_, _], _ => rfl, hm, kp⟩
  exact (dss_one (ds_ret (de_nmI (i := 1) rfl (by first | exact Or.inl rfl | exact Or.inr (Or.inl rfl) | exact Or.inr (Or.inr rfl)) (de_callF F__law_draw (hr.mono (by decide)) rfl (dp_nm (i := 0) rfl (by first | exact Or.inl rfl | exact Or.inr (Or.inl rfl) | exact Or.inr (Or.inr rfl)) (dp_dat (de_nmB (i := 1) oN_len call_len rfl T.n_len (by decide +kernel) rfl (by first | exact Or.inl rfl | exact Or.inr (Or.inl rfl) | exact Or.inr (Or.inr rfl))) dp_nil)) (lp_nm (lp_dat lp_nil))) (fun _ _ => rfl))))
def N__law_kinds : List Str := ["_law_pen_here", "_law_rows", "_law_name", "_law_fields", "_law_field"]
abbrev s__law_kinds : Stmt := top 43
theorem sc__law_kinds : FnScope N__law_kinds ["_law_pen_here"] (defScope s__law_kinds) := ⟨rfl, rfl, rfl, by decide +kernel, rfl, by decide +kernel, by decide +kernel⟩
def B__law_kinds : FS :=
  (fSeq (fOwn 1 (fLstF fNil))
  (fSeq (fFor (fSq (fSl (fN (fCons (fC (.str "note")) (fCons (fC (.str "item")) (fCons (fC (.str "cat")) (fCons (fC (.str "z")) fNil)))) gLst) fNo (fSome (f2 (fC (.int (1))) (fCall m__law_draw (pNm 0 (pDat (fC (.int (4))) pNil))) gAdd)))) (gNm 2)
    (fSeq (fAsg (fSl (fN (fCons (fC (.str "count")) (fCons (fC (.str "title")) (fCons (fC (.str "left")) (fCons (fC (.str "a")) (fCons (fC (.str "bb")) fNil))))) gLst) fNo (fSome (f2 (fC (.int (1))) (fCall m__law_draw (pNm 0 (pDat (fC (.int (5))) pNil))) gAdd))) (gNm 3))
  (fApp 1 (fN (fCons (fVar 2) (fCons (fN (fCons (fLcD (fSq (fVar 3)) (gNm 4) fYes (fN (fCons (fVar 4) (fCons (f2 (fN (fCons (fC (.str "number")) (fCons (fC (.str "text")) fNil)) gLst) (fCall m__law_draw (pNm 0 (pDat (fC (.int (2))) pNil))) ixD) fNil)) DL.gTup) [4]) fNil) (g1 tupleD)) fNil)) DL.gTup))))
  (fRet (fNmT 1))))
def m__law_kinds : FE := defM 1 5 B__law_kinds
theorem fn__law_kinds (T : Txt K mg) (Z : Df K mg "_law_kinds" s__law_kinds) (F__law_draw : Fn P w K mg base "_law_draw" ["_law_pen_here", "_law_many"] 1 (spD K m__law_draw 2))  : Fn P w K mg base "_law_kinds" ["_law_pen_here"] 2 (spD K m__law_kinds 1) := by
  obtain ⟨f, oc, od, osl, kV, doc, pm, an, cdv, ct, hm, l, c, kp⟩ := Z
  have F0 := fun_mk (st := s__law_kinds) l c kp
  refine ⟨f, _, fn_dat F0 sc__law_kinds (fun cdv A outer s H E hr => ?_), F0.binds (ps := ["_law_pen_here"]) fun _ _ _ _ _ _ us hl => match us, hl with | [_], _ => rfl, hm, kp⟩
  refine dss_cons ?_ ?_
  · exact (ds_own (x := "_law_rows") (i := 1) sc__law_kinds.nd rfl (by first | exact Or.inl rfl | exact Or.inr rfl) (df_lst da_nil))
  · refine dss_cons ?_ ?_
    · refine ds_for rfl (di_seq (de_slice (de_lst (da_cons de_str (da_cons de_str (da_cons de_str (da_cons de_str da_nil))))) do_none (do_some (de_op o2_add op_addA de_int (de_callF F__law_draw (hr.mono (by decide)) rfl (dp_nm (i := 0) rfl (by first | exact Or.inl rfl | exact Or.inr (Or.inl rfl) | exact Or.inr (Or.inr rfl)) (dp_dat de_int dp_nil)) (lp_nm (lp_dat lp_nil))))))) (dg_name (i := 2) sc__law_kinds.nd rfl (by first | exact Or.inl rfl | exact Or.inr rfl)) ?_ PassesOwn.never
      refine dss_cons ?_ ?_
      · refine ds_set (x := "_law_fields") (i := 3) ?_ ?_ ?_ ?_ ?_ ?_
        · exact sc__law_kinds.nd
        · rfl
        · first | exact Or.inl rfl | exact Or.inr rfl
        · exact (de_slice (de_lst (da_cons de_str (da_cons de_str (da_cons de_str (da_cons de_str (da_cons de_str da_nil)))))) do_none (do_some (de_op o2_add op_addA de_int (de_callF F__law_draw (hr.mono (by decide)) rfl (dp_nm (i := 0) rfl (by first | exact Or.inl rfl | exact Or.inr (Or.inl rfl) | exact Or.inr (Or.inr rfl)) (dp_dat de_int dp_nil)) (lp_nm (lp_dat lp_nil))))))
        · rfl
        · first | exact Or.inl rfl | exact Or.inr rfl
      · refine dss_one ?_
        exact (ds_append (i := 1) rfl (by first | exact Or.inl rfl | exact Or.inr (Or.inl rfl) | exact Or.inr (Or.inr rfl)) (de_tup (da_cons (dv 2) (da_cons (de_callTy oN_tuple call_tuple_of rfl T.n_tuple (by decide +kernel) (da_cons (de_lc (own := [("_law_field", 4)]) rfl sc__law_kinds.nd (di_seq (dv 3)) (blkOk_by (own := [("_law_field", 4)]) (N := N__law_kinds) (sc := defScope s__law_kinds) (by decide +kernel)) (fun _ _ _ _ _ => (dg_name (i := 4) sc__law_kinds.nd rfl (by first | exact Or.inl rfl | exact Or.inr rfl))) (fun _ _ _ _ _ => dts_nil) (fun _ _ _ _ _ => (de_tup (da_cons (dv 4) (da_cons (de_ix (de_lst (da_cons de_str (da_cons de_str da_nil))) (de_callF F__law_draw (hr.mono (by decide)) rfl (dp_nm (i := 0) rfl (by first | exact Or.inl rfl | exact Or.inr (Or.inl rfl) | exact Or.inr (Or.inr rfl)) (dp_dat de_int dp_nil)) (lp_nm (lp_dat lp_nil))) (fun _ _ => rfl)) da_nil)))) (by decide)) da_nil)) da_nil))))
    · refine dss_one ?_
      refine ds_ret ?_
      · exact (de_nmT (i := 1) rfl T.n_tuple rfl (by first | exact Or.inl rfl | exact Or.inr (Or.inl rfl) | exact Or.inr (Or.inr rfl)))
def N__law_rules : List Str := ["_law_pen_here", "_law_kinds_here", "_law_rows", "_law_turn", "_law_field", "_law_who", "_law_name", "_law_fields"]
abbrev s__law_rules : Stmt := top 44
theorem sc__law_rules : FnScope N__law_rules ["_law_pen_here", "_law_kinds_here"] (defScope s__law_rules) := ⟨rfl, rfl, rfl, by decide +kernel, rfl, by decide +kernel, by decide +kernel⟩
def B__law_rules : FS :=
  (fSeq (fOwn 2 (fLstF fNil))
  (fSeq (fFor (fRg1 (fCall m__law_draw (pNm 0 (pDat (fC (.int (9))) pNil)))) (gNm 3)
    (fSeq (fAsg (fCall m__law_pick (pNm 0 (pNm 1 pNil))) (gTu 2 (gCo (gNm 6) (gCo (gNm 7) gNo))))
  (fSeq (fAsg (fCall m__law_pick (pNm 0 (pDat (fN (fCons (fC (.str "")) (fCons (fC (.str "")) (fCons (f2 (f2 (fVar 7) (fCall m__law_draw (pNm 0 (pDat (fN (fCons (fVar 7) fNil) (g1 lenD)) pNil))) ixD) (fC (.int (0))) ixD) (fCons (fC (.str "count")) fNil)))) gLst) pNil))) (gNm 4))
  (fSeq (fAsg (fCall m__law_pick (pNm 0 (pDat (fN (fCons (fC (.str "all")) (fCons (fC (.str "known")) (fCons (fC (.str "own")) (fCons (fC (.str "own")) (fCons (fN (fCons (fC (.str "role")) (fCons (fC (.str "boss")) fNil)) DL.gTup) (fCons (fN (fCons (fC (.str "role")) (fCons (fC (.str "aid")) fNil)) DL.gTup) fNil)))))) gLst) pNil))) (gNm 5))
  (fApp 2 (fN (fCons (fVar 5) (fCons (fCall m__law_pick (pNm 0 (pDat (fN (fCons (fC (.str "see")) (fCons (fC (.str "see")) (fCons (fC (.str "see")) (fCons (fC (.str "add")) (fCons (fC (.str "change")) (fCons (fC (.str "remove")) fNil)))))) gLst) pNil))) (fCons (fVar 6) (fCons (fVar 4) fNil)))) DL.gTup))))))
  (fRet (fNmT 2))))
def m__law_rules : FE := defM 2 8 B__law_rules
theorem fn__law_rules (T : Txt K mg) (Z : Df K mg "_law_rules" s__law_rules) (F__law_draw : Fn P w K mg base "_law_draw" ["_law_pen_here", "_law_many"] 1 (spD K m__law_draw 2)) (F__law_pick : Fn P w K mg base "_law_pick" ["_law_pen_here", "_law_things"] 2 (spD K m__law_pick 2))  : Fn P w K mg base "_law_rules" ["_law_pen_here", "_law_kinds_here"] 3 (spD K m__law_rules 2) := by
  obtain ⟨f, oc, od, osl, kV, doc, pm, an, cdv, ct, hm, l, c, kp⟩ := Z
  have F0 := fun_mk (st := s__law_rules) l c kp
  refine ⟨f, _, fn_dat F0 sc__law_rules (fun cdv A outer s H E hr => ?_), F0.binds (ps := ["_law_pen_here", "_law_kinds_here"]) fun _ _ _ _ _ _ us hl => match us, hl with | [_, _], _ => rfl, hm, kp⟩
  exact (dss_cons (ds_own (x := "_law_rows") (i := 2) sc__law_rules.nd rfl (by first | exact Or.inl rfl | exact Or.inr rfl) (df_lst da_nil))
    (dss_cons (ds_for rfl (di_range1 rfl T.n_range (de_callF F__law_draw (hr.mono (by decide)) rfl (dp_nm (i := 0) rfl (by first | exact Or.inl rfl | exact Or.inr (Or.inl rfl) | exact Or.inr (Or.inr rfl)) (dp_dat de_int dp_nil)) (lp_nm (lp_dat lp_nil)))) (dg_name (i := 3) sc__law_rules.nd rfl (by first | exact Or.inl rfl | exact Or.inr rfl))
      (dss_cons (ds_asg (de_callF F__law_pick (hr.mono (by decide)) rfl (dp_nm (i := 0) rfl (by first | exact Or.inl rfl | exact Or.inr (Or.inl rfl) | exact Or.inr (Or.inr rfl)) (dp_nm (i := 1) rfl (by first | exact Or.inl rfl | exact Or.inr (Or.inl rfl) | exact Or.inr (Or.inr rfl)) dp_nil)) (lp_nm (lp_nm lp_nil))) (dg_tup rfl (dgs_cons (dg_name (i := 6) sc__law_rules.nd rfl (by first | exact Or.inl rfl | exact Or.inr rfl)) (dgs_cons (dg_name (i := 7) sc__law_rules.nd rfl (by first | exact Or.inl rfl | exact Or.inr rfl)) dgs_nil))))
    (dss_cons (ds_set (x := "_law_field") (i := 4) sc__law_rules.nd rfl (by first | exact Or.inl rfl | exact Or.inr rfl) (de_callF F__law_pick (hr.mono (by decide)) rfl (dp_nm (i := 0) rfl (by first | exact Or.inl rfl | exact Or.inr (Or.inl rfl) | exact Or.inr (Or.inr rfl)) (dp_dat (de_lst (da_cons de_str (da_cons de_str (da_cons (de_ix (de_ix (dv 7) (de_callF F__law_draw (hr.mono (by decide)) rfl (dp_nm (i := 0) rfl (by first | exact Or.inl rfl | exact Or.inr (Or.inl rfl) | exact Or.inr (Or.inr rfl)) (dp_dat (de_callB oN_len call_len rfl T.n_len (by decide +kernel) (da_cons (dv 7) da_nil)) dp_nil)) (lp_nm (lp_dat lp_nil))) (fun _ _ => rfl)) de_int (fun _ _ => rfl)) (da_cons de_str da_nil))))) dp_nil)) (lp_nm (lp_dat lp_nil))))
    (dss_cons (ds_set (x := "_law_who") (i := 5) sc__law_rules.nd rfl (by first | exact Or.inl rfl | exact Or.inr rfl) (de_callF F__law_pick (hr.mono (by decide)) rfl (dp_nm (i := 0) rfl (by first | exact Or.inl rfl | exact Or.inr (Or.inl rfl) | exact Or.inr (Or.inr rfl)) (dp_dat (de_lst (da_cons de_str (da_cons de_str (da_cons de_str (da_cons de_str (da_cons (de_tup (da_cons de_str (da_cons de_str da_nil))) (da_cons (de_tup (da_cons de_str (da_cons de_str da_nil))) da_nil))))))) dp_nil)) (lp_nm (lp_dat lp_nil))))
    (dss_one (ds_append (i := 2) rfl (by first | exact Or.inl rfl | exact Or.inr (Or.inl rfl) | exact Or.inr (Or.inr rfl)) (de_tup (da_cons (dv 5) (da_cons (de_callF F__law_pick (hr.mono (by decide)) rfl (dp_nm (i := 0) rfl (by first | exact Or.inl rfl | exact Or.inr (Or.inl rfl) | exact Or.inr (Or.inr rfl)) (dp_dat (de_lst (da_cons de_str (da_cons de_str (da_cons de_str (da_cons de_str (da_cons de_str (da_cons de_str da_nil))))))) dp_nil)) (lp_nm (lp_dat lp_nil))) (da_cons (dv 6) (da_cons (dv 4) da_nil)))))))))) PassesOwn.never)
    (dss_one (ds_ret (de_nmT (i := 2) rfl T.n_tuple rfl (by first | exact Or.inl rfl | exact Or.inr (Or.inl rfl) | exact Or.inr (Or.inr rfl)))))))
def N__law_let : List Str := ["_law_rules_here", "_law_asker", "_law_deed", "_law_kind", "_law_field", "_law_owner", "_law_place", "_law_rule"]
abbrev s__law_let : Stmt := top 45
theorem sc__law_let : FnScope N__law_let ["_law_rules_here", "_law_asker", "_law_deed", "_law_kind", "_law_field", "_law_owner"] (defScope s__law_let) := ⟨rfl, rfl, rfl, by decide +kernel, rfl, by decide +kernel, by decide +kernel⟩
def B__law_let : FS :=
  (fSeq (fFor (fEnT (fVar 0)) (gTu 2 (gCo (gNm 6) (gCo (gNm 7) gNo)))
    (fIfS (fAnd (fB (f2 (f2 (fVar 7) (fC (.int (1))) ixD) (fVar 2) gEq)) (fAnd (fB (f2 (f2 (fVar 7) (fC (.int (2))) ixD) (fVar 3) gEq)) (fB (f2 (f2 (fVar 7) (fC (.int (3))) ixD) (fN (fCons (fC (.str "")) (fCons (fVar 4) fNil)) gLst) (gInD false)))))
    (fSeq (fIfS (fOr (fB (f2 (f2 (fVar 7) (fC (.int (0))) ixD) (fC (.str "all")) gEq)) (fAnd (fB (f2 (fVar 1) (fC .none) gNotN)) (fB (f2 (f2 (fVar 7) (fC (.int (0))) ixD) (fC (.str "known")) gEq))))
    (fRet (fVar 6))
    fEnd)
  (fSeq (fIfS (fAnd (fB (f2 (fVar 1) (fC .none) gNotN)) (fAnd (fB (f2 (f2 (fVar 7) (fC (.int (0))) ixD) (fC (.str "own")) gEq)) (fB (f2 (fNmI 1 (fC (.int (0)))) (fVar 5) gEq))))
    (fRet (fVar 6))
    fEnd)
  (fIfS (fAnd (fB (f2 (fVar 1) (fC .none) gNotN)) (fAnd (fB (fIsT (f2 (fVar 7) (fC (.int (0))) ixD))) (fB (f2 (f2 (f2 (fVar 7) (fC (.int (0))) ixD) (fC (.int (1))) ixD) (fNmI 1 (fC (.int (1)))) (gInD false)))))
    (fRet (fVar 6))
    fEnd)))
    fEnd))
  (fRet (fC .none)))
def m__law_let : FE := defM 6 8 B__law_let
theorem fn__law_let (T : Txt K mg) (Z : Df K mg "_law_let" s__law_let)   : Fn P w K mg base "_law_let" ["_law_rules_here", "_law_asker", "_law_deed", "_law_kind", "_law_field", "_law_owner"] 1 (spD K m__law_let 6) := by
  obtain ⟨f, oc, od, osl, kV, doc, pm, an, cdv, ct, hm, l, c, kp⟩ := Z
  have F0 := fun_mk (st := s__law_let) l c kp
  refine ⟨f, _, fn_dat F0 sc__law_let (fun cdv A outer s H E hr => ?_), F0.binds (ps := ["_law_rules_here", "_law_asker", "_law_deed", "_law_kind", "_law_field", "_law_owner"]) fun _ _ _ _ _ _ us hl => match us, hl with | [_, _, _, _, _, _], _ => rfl, hm, kp⟩
  exact (dss_cons (ds_for rfl (di_enumT rfl T.n_enumerate (dv 0)) (dg_tup rfl (dgs_cons (dg_name (i := 6) sc__law_let.nd rfl (by first | exact Or.inl rfl | exact Or.inr rfl)) (dgs_cons (dg_name (i := 7) sc__law_let.nd rfl (by first | exact Or.inl rfl | exact Or.inr rfl)) dgs_nil)))
      (dss_one (ds_if (DW.dt (dw_and (dt_cmp o2_eq (op_eqA hr.units) (de_ix (dv 7) de_int (fun _ _ => rfl)) (dv 2) (nomark _)) (dw_and (dt_cmp o2_eq (op_eqA hr.units) (de_ix (dv 7) de_int (fun _ _ => rfl)) (dv 3) (nomark _)) (dw_and1 (dt_cmp o2_inD (op_inX hr.units66) (de_ix (dv 7) de_int (fun _ _ => rfl)) (de_lst (da_cons de_str (da_cons (dv 4) da_nil))) (by with_unfolding_all rfl))))))
      (dss_cons (ds_if (DW.dt (dw_or (dt_cmp o2_eq (op_eqA hr.units) (de_ix (dv 7) de_int (fun _ _ => rfl)) de_str (nomark _)) (dw_or1 (DW.dt (dw_and (dt_cmp o2_notN op_notN (dv 1) de_non (nomark _)) (dw_and1 (dt_cmp o2_eq (op_eqA hr.units) (de_ix (dv 7) de_int (fun _ _ => rfl)) de_str (nomark _))))))))
      (dss_one (ds_ret (dv 6)))
      dss_nil)
    (dss_cons (ds_if (DW.dt (dw_and (dt_cmp o2_notN op_notN (dv 1) de_non (nomark _)) (dw_and (dt_cmp o2_eq (op_eqA hr.units) (de_ix (dv 7) de_int (fun _ _ => rfl)) de_str (nomark _)) (dw_and1 (dt_cmp o2_eq (op_eqA hr.units) (de_nmI (i := 1) rfl (by first | exact Or.inl rfl | exact Or.inr (Or.inl rfl) | exact Or.inr (Or.inr rfl)) de_int (fun _ _ => rfl)) (dv 5) (nomark _))))))
      (dss_one (ds_ret (dv 6)))
      dss_nil)
    (dss_one (ds_if (DW.dt (dw_and (dt_cmp o2_notN op_notN (dv 1) de_non (nomark _)) (dw_and (dt_val (de_isT (by kernel_rfl) (by kernel_rfl) rfl T.n_isinstance rfl T.n_tuple (by decide +kernel) (de_ix (dv 7) de_int (fun _ _ => rfl)))) (dw_and1 (dt_cmp o2_inD (op_inX hr.units66) (de_ix (de_ix (dv 7) de_int (fun _ _ => rfl)) de_int (fun _ _ => rfl)) (de_nmI (i := 1) rfl (by first | exact Or.inl rfl | exact Or.inr (Or.inl rfl) | exact Or.inr (Or.inr rfl)) de_int (fun _ _ => rfl)) (by with_unfolding_all rfl))))))
      (dss_one (ds_ret (dv 6)))
      dss_nil))))
      dss_nil)) PassesOwn.never)
    (dss_one (ds_ret de_non)))
def N__law_people : List Str := ["_law_pen_here", "_law_some", "_law_one"]
abbrev s__law_people : Stmt := top 46
theorem sc__law_people : FnScope N__law_people ["_law_pen_here"] (defScope s__law_people) := ⟨rfl, rfl, rfl, by decide +kernel, rfl, by decide +kernel, by decide +kernel⟩
def B__law_people : FS :=
  (fSeq (fAsg (fC (.list [(.tuple [(.str "ann"), (.str "pw"), (.tuple [])]), (.tuple [(.str "bob"), (.str "b1"), (.tuple [(.str "boss")])]), (.tuple [(.str "cy"), (.str "c"), (.tuple [(.str "aid"), (.str "boss")])]), (.tuple [(.str "dan"), (.str "d-"), (.tuple [(.str "aid")])])])) (gNm 1))
  (fRet (fN (fCons (fLcD (fSq (fVar 1)) (gNm 2) (fB (f2 (fCall m__law_draw (pNm 0 (pDat (fC (.int (2))) pNil))) (fC (.int (0))) gEq)) (fVar 2) [2]) fNil) (g1 tupleD))))
def m__law_people : FE := defM 1 3 B__law_people
theorem fn__law_people (T : Txt K mg) (Z : Df K mg "_law_people" s__law_people) (F__law_draw : Fn P w K mg base "_law_draw" ["_law_pen_here", "_law_many"] 1 (spD K m__law_draw 2))  : Fn P w K mg base "_law_people" ["_law_pen_here"] 2 (spD K m__law_people 1) := by
  obtain ⟨f, oc, od, osl, kV, doc, pm, an, cdv, ct, hm, l, c, kp⟩ := Z
  have F0 := fun_mk (st := s__law_people) l c kp
  refine ⟨f, _, fn_dat F0 sc__law_people (fun cdv A outer s H E hr => ?_), F0.binds (ps := ["_law_pen_here"]) fun _ _ _ _ _ _ us hl => match us, hl with | [_], _ => rfl, hm, kp⟩
  refine dss_cons ?_ ?_
  · refine ds_set (x := "_law_some") (i := 1) ?_ ?_ ?_ ?_ ?_ ?_
    · exact sc__law_people.nd
    · rfl
    · first | exact Or.inl rfl | exact Or.inr rfl
    · refine de_litO ?_
      kernel_rfl
    · rfl
    · first | exact Or.inl rfl | exact Or.inr rfl
  · refine dss_one ?_
    refine ds_ret ?_
    · exact (de_callTy oN_tuple call_tuple_of rfl T.n_tuple (by decide +kernel) (da_cons (de_lc (own := [("_law_one", 2)]) rfl sc__law_people.nd (di_seq (dv 1)) (blkOk_by (own := [("_law_one", 2)]) (N := N__law_people) (sc := defScope s__law_people) (by decide +kernel)) (fun _ _ _ _ _ => (dg_name (i := 2) sc__law_people.nd rfl (by first | exact Or.inl rfl | exact Or.inr rfl))) (fun _ _ _ _ _ => (dts_one (dt_cmp o2_eq (op_eqA hr.units) (de_callF F__law_draw (hr.mono (by decide)) rfl (dp_nm (i := 0) rfl (by first | exact Or.inl rfl | exact Or.inr (Or.inl rfl) | exact Or.inr (Or.inr rfl)) (dp_dat de_int dp_nil)) (lp_nm (lp_dat lp_nil))) de_int (nomark _)))) (fun _ _ _ _ _ => (dv 2)) (by decide)) da_nil))
def N__law_told : List Str := ["_law_rows", "_law_people_here", "_law_rights", "_law_who", "_law_whose", "_law_deed", "_law_kind", "_law_part", "_law_field", "_law_name", "_law_word", "_law_roles", "_law_row"]
abbrev s__law_told : Stmt := top 47
theorem sc__law_told : FnScope N__law_told ["_law_rows", "_law_people_here"] (defScope s__law_told) := ⟨rfl, rfl, rfl, by decide +kernel, rfl, by decide +kernel, by decide +kernel⟩
def B__law_told : FS :=
  (fSeq (fOwn 2 (fLstF fNil))
  (fSeq (fFor (fSq (f2 (fN (fCons (fC .none) fNil) gLst) (fLcD (fSq (fVar 1)) (gTu 3 (gCo (gNm 9) (gCo (gNm 10) (gCo (gNm 11) gNo)))) fYes (fN (fCons (fVar 9) (fCons (fVar 11) fNil)) DL.gTup) [9, 10, 11]) gAdd)) (gNm 3)
    (fFor (fSq (fN (fCons (fC (.str "")) (fCons (fC (.str "ann")) (fCons (fC (.str "bob")) (fCons (fC (.str "cy")) (fCons (fC (.str "dan")) (fCons (fC (.str "zz")) fNil)))))) gLst)) (gNm 4)
    (fFor (fSq (fSortSetT (fLcD (fSq (fVar 0)) (gNm 12) fYes (fSlW (fVar 12) (fSome (fC (.int (1)))) fNo) [12]))) (gTu 3 (gCo (gNm 5) (gCo (gNm 6) (gCo (gNm 7) gNo))))
    (fFor (fSq (fSortSetL (fN (fCons (fVar 7) (fCons (fC (.str "")) (fCons (fC (.str "count")) (fCons (fC (.str "other")) fNil)))) gLst))) (gNm 8)
    (fApp 2 (fCall m__law_let (pNm 0 (pNm 3 (pNm 5 (pNm 6 (pNm 8 (pNm 4 pNil))))))))))))
  (fRetO 2)))
def m__law_told : FE := defM 2 13 B__law_told
theorem fn__law_told (T : Txt K mg) (Z : Df K mg "_law_told" s__law_told) (F__law_let : Fn P w K mg base "_law_let" ["_law_rules_here", "_law_asker", "_law_deed", "_law_kind", "_law_field", "_law_owner"] 1 (spD K m__law_let 6))  : Fn P w K mg base "_law_told" ["_law_rows", "_law_people_here"] 2 (spD K m__law_told 2) := by
  obtain ⟨f, oc, od, osl, kV, doc, pm, an, cdv, ct, hm, l, c, kp⟩ := Z
  have F0 := fun_mk (st := s__law_told) l c kp
  refine ⟨f, _, fn_dat F0 sc__law_told (fun cdv A outer s H E hr => ?_), F0.binds (ps := ["_law_rows", "_law_people_here"]) fun _ _ _ _ _ _ us hl => match us, hl with | [_, _], _ => rfl, hm, kp⟩
  exact (dss_cons (ds_own (x := "_law_rights") (i := 2) sc__law_told.nd rfl (by first | exact Or.inl rfl | exact Or.inr rfl) (df_lst da_nil))
    (dss_cons (ds_for rfl (di_seq (de_op o2_add op_addA (de_lst (da_cons de_non da_nil)) (de_lc (own := [("_law_name", 9), ("_law_word", 10), ("_law_roles", 11)]) rfl sc__law_told.nd (di_seq (dv 1)) (blkOk_by (own := [("_law_name", 9), ("_law_word", 10), ("_law_roles", 11)]) (N := N__law_told) (sc := defScope s__law_told) (by decide +kernel)) (fun _ _ _ _ _ => (dg_tup rfl (dgs_cons (dg_name (i := 9) sc__law_told.nd rfl (by first | exact Or.inl rfl | exact Or.inr rfl)) (dgs_cons (dg_name (i := 10) sc__law_told.nd rfl (by first | exact Or.inl rfl | exact Or.inr rfl)) (dgs_cons (dg_name (i := 11) sc__law_told.nd rfl (by first | exact Or.inl rfl | exact Or.inr rfl)) dgs_nil))))) (fun _ _ _ _ _ => dts_nil) (fun _ _ _ _ _ => (de_tup (da_cons (dv 9) (da_cons (dv 11) da_nil)))) (by decide)))) (dg_name (i := 3) sc__law_told.nd rfl (by first | exact Or.inl rfl | exact Or.inr rfl))
      (dss_one (ds_for rfl (di_seq (de_lst (da_cons de_str (da_cons de_str (da_cons de_str (da_cons de_str (da_cons de_str (da_cons de_str da_nil)))))))) (dg_name (i := 4) sc__law_told.nd rfl (by first | exact Or.inl rfl | exact Or.inr rfl))
      (dss_one (ds_for rfl (di_seq (de_sortsetT (hu10 hr) rfl rfl T.n_sorted rfl T.n_set (de_lc (own := [("_law_row", 12)]) rfl sc__law_told.nd (di_seq (dv 0)) (blkOk_by (own := [("_law_row", 12)]) (N := N__law_told) (sc := defScope s__law_told) (by decide +kernel)) (fun _ _ _ _ _ => (dg_name (i := 12) sc__law_told.nd rfl (by first | exact Or.inl rfl | exact Or.inr rfl))) (fun _ _ _ _ _ => dts_nil) (fun _ _ _ _ _ => (de_sliceW (dv 12) (do_some de_int) do_none)) (by decide)))) (dg_tup rfl (dgs_cons (dg_name (i := 5) sc__law_told.nd rfl (by first | exact Or.inl rfl | exact Or.inr rfl)) (dgs_cons (dg_name (i := 6) sc__law_told.nd rfl (by first | exact Or.inl rfl | exact Or.inr rfl)) (dgs_cons (dg_name (i := 7) sc__law_told.nd rfl (by first | exact Or.inl rfl | exact Or.inr rfl)) dgs_nil))))
      (dss_one (ds_for rfl (di_seq (de_sortsetL rfl rfl T.n_sorted rfl T.n_set (de_lst (da_cons (dv 7) (da_cons de_str (da_cons de_str (da_cons de_str da_nil))))))) (dg_name (i := 8) sc__law_told.nd rfl (by first | exact Or.inl rfl | exact Or.inr rfl))
      (dss_one (ds_append (i := 2) rfl (by first | exact Or.inl rfl | exact Or.inr (Or.inl rfl) | exact Or.inr (Or.inr rfl)) (de_callF F__law_let (hr.mono (by decide)) rfl (dp_nm (i := 0) rfl (by first | exact Or.inl rfl | exact Or.inr (Or.inl rfl) | exact Or.inr (Or.inr rfl)) (dp_nm (i := 3) rfl (by first | exact Or.inl rfl | exact Or.inr (Or.inl rfl) | exact Or.inr (Or.inr rfl)) (dp_nm (i := 5) rfl (by first | exact Or.inl rfl | exact Or.inr (Or.inl rfl) | exact Or.inr (Or.inr rfl)) (dp_nm (i := 6) rfl (by first | exact Or.inl rfl | exact Or.inr (Or.inl rfl) | exact Or.inr (Or.inr rfl)) (dp_nm (i := 8) rfl (by first | exact Or.inl rfl | exact Or.inr (Or.inl rfl) | exact Or.inr (Or.inr rfl)) (dp_nm (i := 4) rfl (by first | exact Or.inl rfl | exact Or.inr (Or.inl rfl) | exact Or.inr (Or.inr rfl)) dp_nil)))))) (lp_nm (lp_nm (lp_nm (lp_nm (lp_nm (lp_nm lp_nil))))))))) PassesOwn.never)) PassesOwn.never)) PassesOwn.never)) PassesOwn.never)
    (dss_one (ds_retO (i := 2) rfl (by first | exact Or.inl rfl | exact Or.inr (Or.inl rfl) | exact Or.inr (Or.inr rfl))))))
def N_law : List Str := ["_law_script", "_law_first", "_law_both", "_law_cell_here", "_law_pen_here", "_law_turn", "_law_rights", "_law_due", "_law_rows", "_law_people_here", "_law_place"]
abbrev s_law : Stmt := top 48
theorem sc_law : FnScope N_law ["_law_script"] (defScope s_law) := ⟨rfl, rfl, rfl, by decide +kernel, rfl, by decide +kernel, by decide +kernel⟩
def B_law : FS :=
  (fSeq (fAsg (fC (.tuple [(.tuple [(.str "all"), (.str "see"), (.str "note"), (.str "count")]), (.tuple [(.str "known"), (.str "see"), (.str "note"), (.str "")]), (.tuple [(.str "own"), (.str "see"), (.str "note"), (.str "")])])) (gNm 1))
  (fSeq (fIfS (fOr (fB (f2 (fCall m_nobody (pNm 1 (pDat (fC (.tuple [])) pNil))) (fC (.tuple [(.int (1)), (.int (2))])) gNe)) (fB (f2 (fCall m_nobody (pNm 1 (pDat (fC (.tuple [(.tuple [(.str "ann"), (.str "pw"), (.tuple [])])])) pNil))) (fC (.tuple [(.int (2))])) gNe)))
    (fRet (fC (.bool false)))
    fEnd)
  (fSeq (fAsg (fC (.tuple [(.tuple [(.tuple [(.str "role"), (.str "a")]), (.str "see"), (.str "note"), (.str "")]), (.tuple [(.tuple [(.str "role"), (.str "b")]), (.str "see"), (.str "note"), (.str "")]), (.tuple [(.str "known"), (.str "see"), (.str "note"), (.str "")])])) (gNm 2))
  (fSeq (fIfS (fB (f2 (fCall m_nobody (pNm 2 (pDat (fC (.tuple [(.tuple [(.str "ann"), (.str "x"), (.tuple [(.str "a")])]), (.tuple [(.str "bob"), (.str "y"), (.tuple [(.str "b")])])])) pNil))) (fC (.tuple [(.int (2))])) gNe))
    (fRet (fC (.bool false)))
    fEnd)
  (fSeq (fFor (fSq (f2 (fN (fCons (fCall m__law_cell (pNm 0 (pDat (fC (.int (0))) pNil))) fNil) gLst) (fSlW (fVar 0) (fSome (fC (.int (1)))) (fSome (fC (.int (2))))) gAdd)) (gNm 3)
    (fSeq (fOwn 4 (fCallN m__law_pen (pNm 3 pNil)))
  (fFor (fRg1 (fC (.int (4)))) (gNm 5)
    (fSeq (fPar 8 9 (fCons (fCall m__law_rules (pNm 4 (pDat (fCall m__law_kinds (pNm 4 pNil)) pNil))) (fCons (fCall m__law_people (pNm 4 pNil)) fNil)))
  (fSeq (fAsg (fCall m__law_told (pNm 8 (pNm 9 pNil))) (gNm 6))
  (fSeq (fAsg (fN (fCons (fLcD (fRg1 (fN (fCons (fVar 8) fNil) (g1 lenD))) (gNm 10) (fB (f2 (fVar 10) (fVar 6) (gInD true))) (fVar 10) [10]) fNil) (g1 tupleD)) (gNm 7))
  (fIfS (fB (f2 (fN (fCons (fCall m_nobody (pNm 8 (pNm 9 pNil))) fNil) (g1 reprD)) (fN (fCons (fVar 7) fNil) (g1 reprD)) gNe))
    (fRet (fC (.bool false)))
    fEnd)))))))
  (fRet (fC (.bool true))))))))
def m_law : FE := defM 1 11 B_law
end
end Law
namespace Law
open PySem PySem.Spec PyProof.Rows L2 DL
local instance : Tabs := ⟨[]⟩
theorem isa_tt {xs : List PyData} : isaD "tuple" (.tuple xs) = true := rfl
theorem isa_ts {x : Str} : isaD "tuple" (.str x) = false := rfl
theorem isa_ti {x : Int} : isaD "tuple" (.int x) = false := rfl
theorem isa_tn : isaD "tuple" .none = false := rfl
theorem isa_tl {xs : List PyData} : isaD "tuple" (.list xs) = false := rfl
theorem isa_ss {x : Str} : isaD "str" (.str x) = true := rfl
theorem isa_st {xs : List PyData} : isaD "str" (.tuple xs) = false := rfl
theorem isa_si {x : Int} : isaD "str" (.int x) = false := rfl
theorem isa_sn : isaD "str" .none = false := rfl
theorem isa_ii {x : Int} : isaD "int" (.int x) = true := rfl
theorem isa_ib {x : Bool} : isaD "int" (.bool x) = true := rfl
theorem isa_bi {x : Int} : isaD "bool" (.int x) = false := rfl
theorem isa_bb {x : Bool} : isaD "bool" (.bool x) = true := rfl
theorem isa_is {x : Str} : isaD "int" (.str x) = false := rfl
theorem isa_in : isaD "int" .none = false := rfl
theorem isa_it {xs : List PyData} : isaD "int" (.tuple xs) = false := rfl
theorem lcF_pure {g : FG} {tt : FT} {te : FE} {ρ : Rho} {m : Mu} {p : PyData → Bool} {f : PyData → PyData} : ∀ (ds : List PyData), (∀ d ∈ ds, ∃ ρ1, g d ρ = some ρ1 ∧ tt ρ1 m = some (p d, m) ∧ (p d = true → te ρ1 m = some (f d, m))) → lcF g tt te ρ ds m = some ((ds.filter p).map f, m)
  | [], _ => rfl
  | d :: r, h => by
    obtain ⟨ρ1, e1, e2, e3⟩ := h d (by simp)
    have ih := lcF_pure (g := g) (tt := tt) (te := te) (ρ := ρ) (m := m) (p := p) (f := f) r fun x hx => h x (by simp [hx])
    unfold lcF
    rw [e1]
    show bnd (tt ρ1 m) _ = _
    rw [e2]
    show (if p d = true then _ else _) = _
    cases hp : p d with
    | true =>
      rw [if_pos rfl, e3 hp]
      show bnd (lcF g tt te ρ r m) _ = _
      rw [ih, List.filter_cons, if_pos hp]
      rfl
    | false =>
      rw [if_neg (by decide), ih, List.filter_cons, if_neg (by rw [hp]; decide)]
theorem lcF_all {g : FG} {te : FE} {ρ : Rho} {m : Mu} {f : PyData → PyData} (ds : List PyData) (h : ∀ d ∈ ds, ∃ ρ1, g d ρ = some ρ1 ∧ te ρ1 m = some (f d, m)) : lcF g fYes te ρ ds m = some (ds.map f, m) := by
  have := lcF_pure (g := g) (tt := fYes) (te := te) (ρ := ρ) (m := m) (p := fun _ => true) (f := f) ds fun d hd => by
    obtain ⟨ρ1, e1, e2⟩ := h d hd
    exact ⟨ρ1, e1, rfl, fun _ => e2⟩
  rw [this, List.filter_eq_self.mpr (fun _ _ => rfl)]
theorem blsOf_map : ∀ bs : List Bool, blsOf (bs.map PyData.bool) = some bs
  | [] => rfl
  | b :: r => by show opt (blsOf (r.map PyData.bool)) _ = _; rw [blsOf_map r]; rfl
theorem line_ge {n : Nat} (h : n ≤ 10000) : n ≤ sizeLine := Nat.le_trans h (by decide)
theorem gTup_ok {ds : List PyData} (h : ds.length ≤ 10000) : DL.gTup ds = some (.tuple ds) := by unfold DL.gTup; rw [if_pos (line_ge h)]
theorem gLst_ok {ds : List PyData} (h : ds.length ≤ 10000) : gLst ds = some (.list ds) := by unfold gLst; rw [if_pos (line_ge h)]
theorem gTup0 : DL.gTup [] = some (.tuple []) := gTup_ok (by decide)
theorem gTup1 (a : PyData) : DL.gTup [a] = some (.tuple [a]) := gTup_ok (by simp)
theorem gTup2 (a b : PyData) : DL.gTup [a, b] = some (.tuple [a, b]) := gTup_ok (by simp)
theorem gTup3 (a b c : PyData) : DL.gTup [a, b, c] = some (.tuple [a, b, c]) := gTup_ok (by simp)
theorem gLst0 : gLst [] = some (.list []) := gLst_ok (by decide)
theorem gLst1 (a : PyData) : gLst [a] = some (.list [a]) := gLst_ok (by simp)
theorem gLst2 (a b : PyData) : gLst [a, b] = some (.list [a, b]) := gLst_ok (by simp)
theorem gLst3 (a b c : PyData) : gLst [a, b, c] = some (.list [a, b, c]) := gLst_ok (by simp)
theorem gLst4 (a b c d : PyData) : gLst [a, b, c, d] = some (.list [a, b, c, d]) := gLst_ok (by simp)
theorem gLst5 (a b c d e : PyData) : gLst [a, b, c, d, e] = some (.list [a, b, c, d, e]) := gLst_ok (by simp)
theorem gLst10 (a b c d e f g h i j : PyData) : gLst [a, b, c, d, e, f, g, h, i, j] = some (.list [a, b, c, d, e, f, g, h, i, j]) := gLst_ok (by simp)
def shortB (x sg : Str) : Bool := decide (1 ≤ (x.length : Int)) && (decide ((x.length : Int) ≤ 8) && (x.cps.toList.all fun c => decide (c ∈ sg.cps.toList)))
theorem e_short (x sg : Str) (μ : Mu) (hx : x.length ≤ 10000) : m_is_short_text [.dat (.str x), .dat (.str sg)] μ = some (.bool (shortB x sg), μ) := by
  have hl : lenD (.str x) = some (.int x.length) := by show (if x.length ≤ sizeLine then _ else _) = _; rw [if_pos (line_ge hx)]
  have hc : lcF (gNm 2) fYes (f2 (fVar 2) (fVar 1) (gInS false)) (wipeR [Sl.dat (PyData.str x), Sl.dat (PyData.str sg), Sl.un] [2]) (DL.signs x) μ = some ((x.cps.toList.map fun c => PyData.bool (decide (c ∈ sg.cps.toList))), μ) := by
    have := lcF_all (g := gNm 2) (te := f2 (fVar 2) (fVar 1) (gInS false)) (ρ := wipeR [Sl.dat (PyData.str x), Sl.dat (PyData.str sg), Sl.un] [2]) (m := μ) (f := fun d => match d with | .str c => .bool (decide (c.cps.toList.headD 0 ∈ sg.cps.toList)) | _ => .none) (DL.signs x) fun d hd => by
      unfold DL.signs at hd
      obtain ⟨c, _, rfl⟩ := List.mem_map.mp hd
      exact ⟨_, rfl, rfl⟩
    rw [this]
    unfold DL.signs
    rw [List.map_map]
    rfl
  have hs : (DL.signs x).length ≤ sizeLine := by unfold DL.signs; simpa [Str.length] using line_ge hx
  unfold m_is_short_text B_is_short_text shortB
  simp only [defM, fSeq, fIfS, fAnd, fOr, fNot, fB, fAndV, fOrV, fNotV, fIf, fIsi, tyD, fIsA, bnd, opt, fin, fChain, f2, fN, fCons, fNil, fVar, fC, g1, gI, gIC, fRet, fExpr, fCall, pNil, pDat, pNm, fAsg, gNm, gNo, gCo, gTu, fEnd, fFor, fSq, seqD, fSg, fLcD, fLc, fYes, fM1, gSS, fM0, fSl, fNo, fSome, rd, fNmB, fNm2, fNmI, fNmT, fNmJ, fNmS, sc, isSc, fSetI, fApp, fOwn, fLstF, fCatF, fRetO, fPar, fParO, fTru, truB, List.cons_append, List.nil_append, List.getElem?_cons_zero, List.getElem?_cons_succ, List.set_cons_zero, List.set_cons_succ, List.replicate, List.length_cons, List.length_nil, Nat.reduceAdd, Nat.reduceSub, if_true, if_false, Bool.false_eq_true, ↓reduceIte, List.append_nil, gTup0, gTup1, gTup2, gTup3, gLst0, gLst1, gLst2, gLst3, gLst4, gLst5, gLst10, isa_tt, isa_ts, isa_ti, isa_tn, isa_tl, isa_ss, isa_st, isa_si, isa_sn, isa_ii, isa_ib, isa_bi, isa_bb, isa_is, isa_in, isa_it, hl]
  by_cases h1 : 1 ≤ (x.length : Int)
  · by_cases h2 : (x.length : Int) ≤ 8
    · simp only [defM, fSeq, fIfS, fAnd, fOr, fNot, fB, fAndV, fOrV, fNotV, fIf, fIsi, tyD, fIsA, bnd, opt, fin, fChain, f2, fN, fCons, fNil, fVar, fC, g1, gI, gIC, fRet, fExpr, fCall, pNil, pDat, pNm, fAsg, gNm, gNo, gCo, gTu, fEnd, fFor, fSq, seqD, fSg, fLcD, fLc, fYes, fM1, gSS, fM0, fSl, fNo, fSome, rd, fNmB, fNm2, fNmI, fNmT, fNmJ, fNmS, sc, isSc, fSetI, fApp, fOwn, fLstF, fCatF, fRetO, fPar, fParO, fTru, truB, List.cons_append, List.nil_append, List.getElem?_cons_zero, List.getElem?_cons_succ, List.set_cons_zero, List.set_cons_succ, List.replicate, List.length_cons, List.length_nil, Nat.reduceAdd, Nat.reduceSub, if_true, if_false, Bool.false_eq_true, ↓reduceIte, List.append_nil, gTup0, gTup1, gTup2, gTup3, gLst0, gLst1, gLst2, gLst3, gLst4, gLst5, gLst10, isa_tt, isa_ts, isa_ti, isa_tn, isa_tl, isa_ss, isa_st, isa_si, isa_sn, isa_ii, isa_ib, isa_bi, isa_bb, isa_is, isa_in, isa_it, h1, h2, decide_true, Bool.not_true, if_pos hs, hc, allD]
      have hb : blsOf (x.cps.toList.map fun c => PyData.bool (decide (c ∈ sg.cps.toList))) = some (x.cps.toList.map fun c => decide (c ∈ sg.cps.toList)) := by
        have := blsOf_map (x.cps.toList.map fun c => decide (c ∈ sg.cps.toList))
        rw [List.map_map] at this
        exact this
      simp only [defM, fSeq, fIfS, fAnd, fOr, fNot, fB, fAndV, fOrV, fNotV, fIf, fIsi, tyD, fIsA, bnd, opt, fin, fChain, f2, fN, fCons, fNil, fVar, fC, g1, gI, gIC, fRet, fExpr, fCall, pNil, pDat, pNm, fAsg, gNm, gNo, gCo, gTu, fEnd, fFor, fSq, seqD, fSg, fLcD, fLc, fYes, fM1, gSS, fM0, fSl, fNo, fSome, rd, fNmB, fNm2, fNmI, fNmT, fNmJ, fNmS, sc, isSc, fSetI, fApp, fOwn, fLstF, fCatF, fRetO, fPar, fParO, fTru, truB, List.cons_append, List.nil_append, List.getElem?_cons_zero, List.getElem?_cons_succ, List.set_cons_zero, List.set_cons_succ, List.replicate, List.length_cons, List.length_nil, Nat.reduceAdd, Nat.reduceSub, if_true, if_false, Bool.false_eq_true, ↓reduceIte, List.append_nil, gTup0, gTup1, gTup2, gTup3, gLst0, gLst1, gLst2, gLst3, gLst4, gLst5, gLst10, isa_tt, isa_ts, isa_ti, isa_tn, isa_tl, isa_ss, isa_st, isa_si, isa_sn, isa_ii, isa_ib, isa_bi, isa_bb, isa_is, isa_in, isa_it, hb, List.take_length, List.all_map, Bool.true_and]
      rfl
    · simp only [defM, fSeq, fIfS, fAnd, fOr, fNot, fB, fAndV, fOrV, fNotV, fIf, fIsi, tyD, fIsA, bnd, opt, fin, fChain, f2, fN, fCons, fNil, fVar, fC, g1, gI, gIC, fRet, fExpr, fCall, pNil, pDat, pNm, fAsg, gNm, gNo, gCo, gTu, fEnd, fFor, fSq, seqD, fSg, fLcD, fLc, fYes, fM1, gSS, fM0, fSl, fNo, fSome, rd, fNmB, fNm2, fNmI, fNmT, fNmJ, fNmS, sc, isSc, fSetI, fApp, fOwn, fLstF, fCatF, fRetO, fPar, fParO, fTru, truB, List.cons_append, List.nil_append, List.getElem?_cons_zero, List.getElem?_cons_succ, List.set_cons_zero, List.set_cons_succ, List.replicate, List.length_cons, List.length_nil, Nat.reduceAdd, Nat.reduceSub, if_true, if_false, Bool.false_eq_true, ↓reduceIte, List.append_nil, gTup0, gTup1, gTup2, gTup3, gLst0, gLst1, gLst2, gLst3, gLst4, gLst5, gLst10, isa_tt, isa_ts, isa_ti, isa_tn, isa_tl, isa_ss, isa_st, isa_si, isa_sn, isa_ii, isa_ib, isa_bi, isa_bb, isa_is, isa_in, isa_it, h1, h2, decide_true, decide_false, Bool.not_true, Bool.not_false, List.take_length, Bool.true_and, Bool.false_and]
  · simp only [defM, fSeq, fIfS, fAnd, fOr, fNot, fB, fAndV, fOrV, fNotV, fIf, fIsi, tyD, fIsA, bnd, opt, fin, fChain, f2, fN, fCons, fNil, fVar, fC, g1, gI, gIC, fRet, fExpr, fCall, pNil, pDat, pNm, fAsg, gNm, gNo, gCo, gTu, fEnd, fFor, fSq, seqD, fSg, fLcD, fLc, fYes, fM1, gSS, fM0, fSl, fNo, fSome, rd, fNmB, fNm2, fNmI, fNmT, fNmJ, fNmS, sc, isSc, fSetI, fApp, fOwn, fLstF, fCatF, fRetO, fPar, fParO, fTru, truB, List.cons_append, List.nil_append, List.getElem?_cons_zero, List.getElem?_cons_succ, List.set_cons_zero, List.set_cons_succ, List.replicate, List.length_cons, List.length_nil, Nat.reduceAdd, Nat.reduceSub, if_true, if_false, Bool.false_eq_true, ↓reduceIte, List.append_nil, gTup0, gTup1, gTup2, gTup3, gLst0, gLst1, gLst2, gLst3, gLst4, gLst5, gLst10, isa_tt, isa_ts, isa_ti, isa_tn, isa_tl, isa_ss, isa_st, isa_si, isa_sn, isa_ii, isa_ib, isa_bi, isa_bb, isa_is, isa_in, isa_it, h1, decide_false, Bool.not_true, Bool.not_false, List.take_length, Bool.false_and]
end Law
namespace Law
open PySem PySem.Spec PyProof.Rows L2 DL
local instance : Tabs := ⟨[]⟩
def letS : Str := "abcdefghijklmnopqrstuvwxyz"
def nmL : List Str := ["note", "item", "cat", "z", "zz", "count", "title", "left", "a", "bb", "ann", "bob", "cy", "dan", "boss", "aid", "other"]
def dL : List Str := ["see", "add", "change", "remove"]
def kL : List Str := ["note", "item", "cat", "z"]
def fL : List Str := ["", "count", "title", "left", "a", "bb"]
theorem nm_ok : ∀ x ∈ nmL, x.length ≤ 10000 ∧ shortB x letS = true := by decide +kernel
theorem st_ok : ∀ x ∈ ("" : Str) :: (nmL ++ dL), PyData.canLay0 (.str x) = true := by decide +kernel
theorem k_nm : ∀ x ∈ kL, x ∈ nmL := by decide +kernel
theorem f_nm : ∀ x ∈ fL, x = "" ∨ x ∈ nmL := by decide +kernel
theorem defM_rt {n nn : Nat} {B : FS} {ρ : Rho} {μ : Mu} {d : PyData} (h : B (ρ ++ List.replicate (nn - n) .un) μ = some (.rt (.dat d) μ)) : defM n nn B ρ μ = some (d, μ) := by
  unfold defM
  rw [h]
  show some (d, μ.take μ.length) = _
  rw [List.take_length]
theorem e_nm {x : Str} (h : x ∈ nmL) (μ : Mu) : m_is_name [.dat (.str x)] μ = some (.bool true, μ) := by
  obtain ⟨h1, h2⟩ := nm_ok x h
  have h2' : shortB x "abcdefghijklmnopqrstuvwxyz" = true := h2
  unfold m_is_name B_is_name
  simp only [defM, fSeq, fIfS, fAnd, fOr, fNot, fB, fAndV, fOrV, fNotV, fIf, fIsi, tyD, fIsA, bnd, opt, fin, fChain, f2, fN, fCons, fNil, fVar, fC, g1, gI, gIC, fRet, fExpr, fCall, pNil, pDat, pNm, fAsg, gNm, gNo, gCo, gTu, fEnd, fFor, fSq, seqD, fSg, fLcD, fLc, fYes, fM1, gSS, fM0, fSl, fNo, fSome, rd, fNmB, fNm2, fNmI, fNmT, fNmJ, fNmS, sc, isSc, fSetI, fApp, fOwn, fLstF, fCatF, fRetO, fPar, fParO, fTru, truB, List.cons_append, List.nil_append, List.getElem?_cons_zero, List.getElem?_cons_succ, List.set_cons_zero, List.set_cons_succ, List.replicate, List.length_cons, List.length_nil, Nat.reduceAdd, Nat.reduceSub, if_true, if_false, Bool.false_eq_true, ↓reduceIte, List.append_nil, gTup0, gTup1, gTup2, gTup3, gLst0, gLst1, gLst2, gLst3, gLst4, gLst5, gLst10, isa_tt, isa_ts, isa_ti, isa_tn, isa_tl, isa_ss, isa_st, isa_si, isa_sn, isa_ii, isa_ib, isa_bi, isa_bb, isa_is, isa_in, isa_it, e_short _ _ _ h1, h2', List.take_length]
theorem eq_str {x y : Str} : gEq (.str x) (.str y) = some (.bool (decide (x = y))) := rfl
theorem e_nme {x : Str} (h : x = "" ∨ x ∈ nmL) (μ : Mu) : m_is_name_or_empty [.dat (.str x)] μ = some (.bool true, μ) := by
  unfold m_is_name_or_empty B_is_name_or_empty
  rcases h with rfl | h
  · simp only [defM, fSeq, fIfS, fAnd, fOr, fNot, fB, fAndV, fOrV, fNotV, fIf, fIsi, tyD, fIsA, bnd, opt, fin, fChain, f2, fN, fCons, fNil, fVar, fC, g1, gI, gIC, fRet, fExpr, fCall, pNil, pDat, pNm, fAsg, gNm, gNo, gCo, gTu, fEnd, fFor, fSq, seqD, fSg, fLcD, fLc, fYes, fM1, gSS, fM0, fSl, fNo, fSome, rd, fNmB, fNm2, fNmI, fNmT, fNmJ, fNmS, sc, isSc, fSetI, fApp, fOwn, fLstF, fCatF, fRetO, fPar, fParO, fTru, truB, List.cons_append, List.nil_append, List.getElem?_cons_zero, List.getElem?_cons_succ, List.set_cons_zero, List.set_cons_succ, List.replicate, List.length_cons, List.length_nil, Nat.reduceAdd, Nat.reduceSub, if_true, if_false, Bool.false_eq_true, ↓reduceIte, List.append_nil, gTup0, gTup1, gTup2, gTup3, gLst0, gLst1, gLst2, gLst3, gLst4, gLst5, gLst10, isa_tt, isa_ts, isa_ti, isa_tn, isa_tl, isa_ss, isa_st, isa_si, isa_sn, isa_ii, isa_ib, isa_bi, isa_bb, isa_is, isa_in, isa_it, eq_str, decide_true, List.take_length]
  · by_cases hx : x = ""
    · subst hx
      simp only [defM, fSeq, fIfS, fAnd, fOr, fNot, fB, fAndV, fOrV, fNotV, fIf, fIsi, tyD, fIsA, bnd, opt, fin, fChain, f2, fN, fCons, fNil, fVar, fC, g1, gI, gIC, fRet, fExpr, fCall, pNil, pDat, pNm, fAsg, gNm, gNo, gCo, gTu, fEnd, fFor, fSq, seqD, fSg, fLcD, fLc, fYes, fM1, gSS, fM0, fSl, fNo, fSome, rd, fNmB, fNm2, fNmI, fNmT, fNmJ, fNmS, sc, isSc, fSetI, fApp, fOwn, fLstF, fCatF, fRetO, fPar, fParO, fTru, truB, List.cons_append, List.nil_append, List.getElem?_cons_zero, List.getElem?_cons_succ, List.set_cons_zero, List.set_cons_succ, List.replicate, List.length_cons, List.length_nil, Nat.reduceAdd, Nat.reduceSub, if_true, if_false, Bool.false_eq_true, ↓reduceIte, List.append_nil, gTup0, gTup1, gTup2, gTup3, gLst0, gLst1, gLst2, gLst3, gLst4, gLst5, gLst10, isa_tt, isa_ts, isa_ti, isa_tn, isa_tl, isa_ss, isa_st, isa_si, isa_sn, isa_ii, isa_ib, isa_bi, isa_bb, isa_is, isa_in, isa_it, eq_str, decide_true, List.take_length]
    · simp only [defM, fSeq, fIfS, fAnd, fOr, fNot, fB, fAndV, fOrV, fNotV, fIf, fIsi, tyD, fIsA, bnd, opt, fin, fChain, f2, fN, fCons, fNil, fVar, fC, g1, gI, gIC, fRet, fExpr, fCall, pNil, pDat, pNm, fAsg, gNm, gNo, gCo, gTu, fEnd, fFor, fSq, seqD, fSg, fLcD, fLc, fYes, fM1, gSS, fM0, fSl, fNo, fSome, rd, fNmB, fNm2, fNmI, fNmT, fNmJ, fNmS, sc, isSc, fSetI, fApp, fOwn, fLstF, fCatF, fRetO, fPar, fParO, fTru, truB, List.cons_append, List.nil_append, List.getElem?_cons_zero, List.getElem?_cons_succ, List.set_cons_zero, List.set_cons_succ, List.replicate, List.length_cons, List.length_nil, Nat.reduceAdd, Nat.reduceSub, if_true, if_false, Bool.false_eq_true, ↓reduceIte, List.append_nil, gTup0, gTup1, gTup2, gTup3, gLst0, gLst1, gLst2, gLst3, gLst4, gLst5, gLst10, isa_tt, isa_ts, isa_ti, isa_tn, isa_tl, isa_ss, isa_st, isa_si, isa_sn, isa_ii, isa_ib, isa_bi, isa_bb, isa_is, isa_in, isa_it, eq_str, decide_eq_false hx, e_nm h, List.take_length]
def whoD : Nat → PyData
  | 0 => .str "all"
  | 1 => .str "known"
  | 2 => .str "own"
  | 3 => .tuple [.str "role", .str "boss"]
  | _ => .tuple [.str "role", .str "aid"]
def askD : Nat → PyData
  | 0 => .none
  | 1 => .tuple [.str "ann", .tuple []]
  | 2 => .tuple [.str "bob", .tuple [.str "boss"]]
  | 3 => .tuple [.str "cy", .tuple [.str "aid", .str "boss"]]
  | _ => .tuple [.str "dan", .tuple [.str "aid"]]
def forB : Nat → Nat → Str → Bool
  | 0, _, _ => true
  | _, 0, _ => false
  | 1, _, _ => true
  | 2, 1, o => decide ("ann" = o)
  | 2, 2, o => decide ("bob" = o)
  | 2, 3, o => decide ("cy" = o)
  | 2, _, o => decide ("dan" = o)
  | 3, 1, _ => false
  | 3, 2, _ => true
  | 3, 3, _ => true
  | 3, _, _ => false
  | _, 1, _ => false
  | _, 2, _ => false
  | _, _, _ => true
theorem e_isfor {i j : Nat} (hi : i < 5) (hj : j < 5) (o : Str) (μ : Mu) : m_is_for [.dat (whoD i), .dat (askD j), .dat (.str o)] μ = some (.bool (forB i j o), μ) := by
  refine defM_rt ?_
  match i, hi, j, hj with
  | 0, _, 0, _ => kernel_rfl
  | 0, _, 1, _ => kernel_rfl
  | 0, _, 2, _ => kernel_rfl
  | 0, _, 3, _ => kernel_rfl
  | 0, _, 4, _ => kernel_rfl
  | 1, _, 0, _ => kernel_rfl
  | 1, _, 1, _ => kernel_rfl
  | 1, _, 2, _ => kernel_rfl
  | 1, _, 3, _ => kernel_rfl
  | 1, _, 4, _ => kernel_rfl
  | 2, _, 0, _ => kernel_rfl
  | 2, _, 1, _ => kernel_rfl
  | 2, _, 2, _ => kernel_rfl
  | 2, _, 3, _ => kernel_rfl
  | 2, _, 4, _ => kernel_rfl
  | 3, _, 0, _ => kernel_rfl
  | 3, _, 1, _ => kernel_rfl
  | 3, _, 2, _ => kernel_rfl
  | 3, _, 3, _ => kernel_rfl
  | 3, _, 4, _ => kernel_rfl
  | 4, _, 0, _ => kernel_rfl
  | 4, _, 1, _ => kernel_rfl
  | 4, _, 2, _ => kernel_rfl
  | 4, _, 3, _ => kernel_rfl
  | 4, _, 4, _ => kernel_rfl
theorem e_who {i : Nat} (hi : i < 5) (μ : Mu) : m_is_who [.dat (whoD i)] μ = some (.bool true, μ) := by
  have n1 : ("boss" : Str) ∈ nmL := by decide +kernel
  have n2 : ("aid" : Str) ∈ nmL := by decide +kernel
  match i, hi with
  | 0, _ => exact defM_rt (by kernel_rfl)
  | 1, _ => exact defM_rt (by kernel_rfl)
  | 2, _ => exact defM_rt (by kernel_rfl)
  | 3, _ =>
    have i0 : ixD (.tuple [.str "role", .str "boss"]) (.int 0) = some (.str "role") := rfl
    have i1 : ixD (.tuple [.str "role", .str "boss"]) (.int 1) = some (.str "boss") := rfl
    have q : gEq (.int ((0 + 1 + 1 : Nat) : Int)) (.int 2) = some (.bool true) := rfl
    unfold m_is_who B_is_who whoD
    simp only [defM, fSeq, fIfS, fAnd, fOr, fNot, fB, fAndV, fOrV, fNotV, fIf, fIsi, tyD, fIsA, bnd, opt, fin, fChain, f2, fN, fCons, fNil, fVar, fC, g1, gI, gIC, fRet, fExpr, fCall, pNil, pDat, pNm, fAsg, gNm, gNo, gCo, gTu, fEnd, fFor, fSq, seqD, fSg, fLcD, fLc, fYes, fM1, gSS, fM0, fSl, fNo, fSome, rd, fNmB, fNm2, fNmI, fNmT, fNmJ, fNmS, sc, isSc, fSetI, fApp, fOwn, fLstF, fCatF, fRetO, fPar, fParO, fTru, truB, List.cons_append, List.nil_append, List.getElem?_cons_zero, List.getElem?_cons_succ, List.set_cons_zero, List.set_cons_succ, List.replicate, List.length_cons, List.length_nil, Nat.reduceAdd, Nat.reduceSub, if_true, if_false, Bool.false_eq_true, ↓reduceIte, List.append_nil, gTup0, gTup1, gTup2, gTup3, gLst0, gLst1, gLst2, gLst3, gLst4, gLst5, gLst10, isa_tt, isa_ts, isa_ti, isa_tn, isa_tl, isa_ss, isa_st, isa_si, isa_sn, isa_ii, isa_ib, isa_bi, isa_bb, isa_is, isa_in, isa_it, fIsT, lenD, i0, i1, q, eq_str, decide_true, e_nm n1, List.take_length]
  | 4, _ =>
    have i0 : ixD (.tuple [.str "role", .str "aid"]) (.int 0) = some (.str "role") := rfl
    have i1 : ixD (.tuple [.str "role", .str "aid"]) (.int 1) = some (.str "aid") := rfl
    have q : gEq (.int ((0 + 1 + 1 : Nat) : Int)) (.int 2) = some (.bool true) := rfl
    unfold m_is_who B_is_who whoD
    simp only [defM, fSeq, fIfS, fAnd, fOr, fNot, fB, fAndV, fOrV, fNotV, fIf, fIsi, tyD, fIsA, bnd, opt, fin, fChain, f2, fN, fCons, fNil, fVar, fC, g1, gI, gIC, fRet, fExpr, fCall, pNil, pDat, pNm, fAsg, gNm, gNo, gCo, gTu, fEnd, fFor, fSq, seqD, fSg, fLcD, fLc, fYes, fM1, gSS, fM0, fSl, fNo, fSome, rd, fNmB, fNm2, fNmI, fNmT, fNmJ, fNmS, sc, isSc, fSetI, fApp, fOwn, fLstF, fCatF, fRetO, fPar, fParO, fTru, truB, List.cons_append, List.nil_append, List.getElem?_cons_zero, List.getElem?_cons_succ, List.set_cons_zero, List.set_cons_succ, List.replicate, List.length_cons, List.length_nil, Nat.reduceAdd, Nat.reduceSub, if_true, if_false, Bool.false_eq_true, ↓reduceIte, List.append_nil, gTup0, gTup1, gTup2, gTup3, gLst0, gLst1, gLst2, gLst3, gLst4, gLst5, gLst10, isa_tt, isa_ts, isa_ti, isa_tn, isa_tl, isa_ss, isa_st, isa_si, isa_sn, isa_ii, isa_ib, isa_bi, isa_bb, isa_is, isa_in, isa_it, fIsT, lenD, i0, i1, q, eq_str, decide_true, e_nm n2, List.take_length]
structure Rw where
  w : Nat
  d : Str
  k : Str
  f : Str
structure RwOk (r : Rw) : Prop where
  w : r.w < 5
  d : r.d ∈ dL
  k : r.k ∈ kL
  f : r.f ∈ fL
def rwD (r : Rw) : PyData := .tuple [whoD r.w, .str r.d, .str r.k, .str r.f]
theorem in_deeds {d : Str} (h : d ∈ dL) (neg : Bool) : gInD neg (.str d) (.tuple [.str "see", .str "add", .str "change", .str "remove"]) = some (.bool (!neg)) := by
  simp only [dL, List.mem_cons, List.not_mem_nil, or_false] at h
  rcases h with rfl | rfl | rfl | rfl <;> cases neg <;> kernel_rfl
theorem e_rule {r : Rw} (h : RwOk r) (μ : Mu) : m_is_rule [.dat (rwD r)] μ = some (.bool true, μ) := by
  have q : gNe (.int ((0 + 1 + 1 + 1 + 1 : Nat) : Int)) (.int 4) = some (.bool false) := rfl
  have n3 := k_nm _ h.k
  have n4 := f_nm _ h.f
  unfold m_is_rule B_is_rule rwD
  simp only [defM, fSeq, fIfS, fAnd, fOr, fNot, fB, fAndV, fOrV, fNotV, fIf, fIsi, tyD, fIsA, bnd, opt, fin, fChain, f2, fN, fCons, fNil, fVar, fC, g1, gI, gIC, fRet, fExpr, fCall, pNil, pDat, pNm, fAsg, gNm, gNo, gCo, gTu, fEnd, fFor, fSq, seqD, fSg, fLcD, fLc, fYes, fM1, gSS, fM0, fSl, fNo, fSome, rd, fNmB, fNm2, fNmI, fNmT, fNmJ, fNmS, sc, isSc, fSetI, fApp, fOwn, fLstF, fCatF, fRetO, fPar, fParO, fTru, truB, List.cons_append, List.nil_append, List.getElem?_cons_zero, List.getElem?_cons_succ, List.set_cons_zero, List.set_cons_succ, List.replicate, List.length_cons, List.length_nil, Nat.reduceAdd, Nat.reduceSub, if_true, if_false, Bool.false_eq_true, ↓reduceIte, List.append_nil, gTup0, gTup1, gTup2, gTup3, gLst0, gLst1, gLst2, gLst3, gLst4, gLst5, gLst10, isa_tt, isa_ts, isa_ti, isa_tn, isa_tl, isa_ss, isa_st, isa_si, isa_sn, isa_ii, isa_ib, isa_bi, isa_bb, isa_is, isa_in, isa_it, lenD, q, Bool.not_true, e_who h.w, in_deeds h.d, e_nm n3, e_nme n4, List.take_length, Bool.not_false]
theorem map_len {α : Type} {f : α → PyData} {xs : List α} (h : xs.length ≤ 10000) : (xs.map f).length ≤ sizeLine := by rw [List.length_map]; exact line_ge h
theorem allD_trues {α : Type} (xs : List α) : allD (.list (xs.map fun _ => PyData.bool true)) = some (.bool true) := by
  have e : xs.map (fun _ => PyData.bool true) = (xs.map fun _ => true).map PyData.bool := by rw [List.map_map]; rfl
  unfold allD
  rw [e]
  show opt (blsOf _) _ = _
  rw [blsOf_map]
  show some (PyData.bool _) = _
  congr 2
  simp
theorem e_rules {rs : List Rw} (h : ∀ r ∈ rs, RwOk r) (hl : rs.length ≤ 12) (μ : Mu) : m_are_rules [.dat (.tuple (rs.map rwD))] μ = some (.bool true, μ) := by
  have h1 : ((rs.map rwD).length : Int) ≤ 12 := by rw [List.length_map]; omega
  have hc : lcF (gNm 1) fYes (fCall m_is_rule (pNm 1 pNil)) (wipeR [Sl.dat (.tuple (rs.map rwD)), Sl.un] [1]) (rs.map rwD) μ = some (rs.map fun _ => PyData.bool true, μ) := by
    have := lcF_all (g := gNm 1) (te := fCall m_is_rule (pNm 1 pNil)) (ρ := wipeR [Sl.dat (.tuple (rs.map rwD)), Sl.un] [1]) (m := μ) (f := fun _ => .bool true) (rs.map rwD) fun d hd => by
      obtain ⟨r, hr, rfl⟩ := List.mem_map.mp hd
      exact ⟨_, rfl, by simp only [defM, fSeq, fIfS, fAnd, fOr, fNot, fB, fAndV, fOrV, fNotV, fIf, fIsi, tyD, fIsA, bnd, opt, fin, fChain, f2, fN, fCons, fNil, fVar, fC, g1, gI, gIC, fRet, fExpr, fCall, pNil, pDat, pNm, fAsg, gNm, gNo, gCo, gTu, fEnd, fFor, fSq, seqD, fSg, fLcD, fLc, fYes, fM1, gSS, fM0, fSl, fNo, fSome, rd, fNmB, fNm2, fNmI, fNmT, fNmJ, fNmS, sc, isSc, fSetI, fApp, fOwn, fLstF, fCatF, fRetO, fPar, fParO, fTru, truB, List.cons_append, List.nil_append, List.getElem?_cons_zero, List.getElem?_cons_succ, List.set_cons_zero, List.set_cons_succ, List.replicate, List.length_cons, List.length_nil, Nat.reduceAdd, Nat.reduceSub, if_true, if_false, Bool.false_eq_true, ↓reduceIte, List.append_nil, gTup0, gTup1, gTup2, gTup3, gLst0, gLst1, gLst2, gLst3, gLst4, gLst5, gLst10, isa_tt, isa_ts, isa_ti, isa_tn, isa_tl, isa_ss, isa_st, isa_si, isa_sn, isa_ii, isa_ib, isa_bi, isa_bb, isa_is, isa_in, isa_it, wipeR, e_rule (h r hr)]⟩
    rw [this, List.map_map]; rfl
  unfold m_are_rules B_are_rules
  simp only [defM, fSeq, fIfS, fAnd, fOr, fNot, fB, fAndV, fOrV, fNotV, fIf, fIsi, tyD, fIsA, bnd, opt, fin, fChain, f2, fN, fCons, fNil, fVar, fC, g1, gI, gIC, fRet, fExpr, fCall, pNil, pDat, pNm, fAsg, gNm, gNo, gCo, gTu, fEnd, fFor, fSq, seqD, fSg, fLcD, fLc, fYes, fM1, gSS, fM0, fSl, fNo, fSome, rd, fNmB, fNm2, fNmI, fNmT, fNmJ, fNmS, sc, isSc, fSetI, fApp, fOwn, fLstF, fCatF, fRetO, fPar, fParO, fTru, truB, List.cons_append, List.nil_append, List.getElem?_cons_zero, List.getElem?_cons_succ, List.set_cons_zero, List.set_cons_succ, List.replicate, List.length_cons, List.length_nil, Nat.reduceAdd, Nat.reduceSub, if_true, if_false, Bool.false_eq_true, ↓reduceIte, List.append_nil, gTup0, gTup1, gTup2, gTup3, gLst0, gLst1, gLst2, gLst3, gLst4, gLst5, gLst10, isa_tt, isa_ts, isa_ti, isa_tn, isa_tl, isa_ss, isa_st, isa_si, isa_sn, isa_ii, isa_ib, isa_bi, isa_bb, isa_is, isa_in, isa_it, lenD, h1, decide_true, if_pos (map_len (f := rwD) (xs := rs) (by omega)), hc, allD_trues, List.take_length]
end Law
namespace Law
open PySem PySem.Spec PyProof.Rows L2 DL
local instance : Tabs := ⟨[]⟩
def hit (j : Nat) (d k f o : Str) (r : Rw) : Bool := decide (r.d = d) && (decide (r.k = k) && ((decide (f = r.f) || decide ("" = r.f)) && forB r.w j o))
def fstN (h : Rw → Bool) : Nat → List Rw → Option Nat
  | _, [] => none
  | n, r :: rs => if h r = true then some n else fstN h (n + 1) rs
def resD : Option Nat → PyData
  | none => .none
  | some n => .int (n : Nat)
theorem loop_fst {g : FG} {B : FS} {h : Rw → Bool} {P : Rho → Prop} {μ : Mu} : ∀ (rs : List Rw) (n : Nat) (ρ : Rho), (∀ r ∈ rs, ∀ (p : Nat) ρ, P ρ → ∃ ρ1, g (.tuple [.int (p : Nat), rwD r]) ρ = some ρ1 ∧ ((h r = true ∧ B ρ1 μ = some (.rt (.dat (.int (p : Nat))) μ)) ∨ (h r = false ∧ ∃ ρ2, B ρ1 μ = some (.nx ρ2 μ) ∧ P ρ2))) → P ρ →
    (∃ p, fstN h n rs = some p ∧ loopF g B (pairs n (rs.map rwD)) ρ μ = some (.rt (.dat (.int (p : Nat))) μ)) ∨ (fstN h n rs = none ∧ ∃ ρ', loopF g B (pairs n (rs.map rwD)) ρ μ = some (.nx ρ' μ))
  | [], n, ρ, _, hp => .inr ⟨rfl, ρ, rfl⟩
  | r :: rs, n, ρ, hs, hp => by
    obtain ⟨ρ1, e1, h1⟩ := hs r (by simp) n ρ hp
    rcases h1 with ⟨h1, e2⟩ | ⟨h1, ρ2, e2, hp2⟩
    · refine .inl ⟨n, by unfold fstN; rw [if_pos h1], ?_⟩
      show opt (g _ ρ) _ = _
      rw [e1]
      show (match B ρ1 μ with | some (.nx ρ2 m2) => loopF g B _ ρ2 m2 | some (.ct ρ2 m2) => loopF g B _ ρ2 m2 | some (.bk ρ2 m2) => some (.nx ρ2 m2) | some (.rt v m2) => some (.rt v m2) | none => none) = _
      rw [e2]
    · have ih := loop_fst rs (n + 1) ρ2 (fun x hx => hs x (by simp [hx])) hp2
      have e3 : loopF g B (pairs n ((r :: rs).map rwD)) ρ μ = loopF g B (pairs (n + 1) (rs.map rwD)) ρ2 μ := by
        show opt (g _ ρ) _ = _
        rw [e1]
        show (match B ρ1 μ with | some (.nx ρ2 m2) => loopF g B _ ρ2 m2 | some (.ct ρ2 m2) => loopF g B _ ρ2 m2 | some (.bk ρ2 m2) => some (.nx ρ2 m2) | some (.rt v m2) => some (.rt v m2) | none => none) = _
        rw [e2]
      have e4 : fstN h n (r :: rs) = fstN h (n + 1) rs := by
        show (if h r = true then _ else _) = _
        rw [if_neg (by rw [h1]; decide)]
      rw [e3, e4]
      exact ih
theorem lay_s {x : Str} (h : x ∈ ("" : Str) :: (nmL ++ dL)) : SeqAt.shaped (.str x) = true := by
  unfold SeqAt.shaped
  rw [st_ok x h]
  rfl
theorem lay_2 {x y : Str} (h1 : x ∈ ("" : Str) :: (nmL ++ dL)) (h2 : y ∈ ("" : Str) :: (nmL ++ dL)) : PyData.canLayAll0 [.str x, .str y] = true := by
  simp [PyData.canLayAll0, st_ok x h1, st_ok y h2]
theorem sh_2 {x y : Str} (h1 : x ∈ ("" : Str) :: (nmL ++ dL)) (h2 : y ∈ ("" : Str) :: (nmL ++ dL)) : SeqAt.shaped (.tuple [.str x, .str y]) = true := by
  unfold SeqAt.shaped
  have : PyData.canLay0 (.tuple [.str x, .str y]) = true := by unfold PyData.canLay0; exact lay_2 h1 h2
  rw [this]
  simp [PyData.depth, PyData.depthAll]
theorem beq_dec {x y : Str} : (x == y) = decide (x = y) := rfl
theorem eq_2 {x y z u : Str} (h1 : x ∈ ("" : Str) :: (nmL ++ dL)) (h2 : y ∈ ("" : Str) :: (nmL ++ dL)) (h3 : z ∈ ("" : Str) :: (nmL ++ dL)) (h4 : u ∈ ("" : Str) :: (nmL ++ dL)) :
    gEq (.tuple [.str x, .str y]) (.tuple [.str z, .str u]) = some (.bool (decide (x = z) && decide (y = u))) := by
  have e : eqB (.tuple [.str x, .str y]) (.tuple [.str z, .str u]) = some (PyData.eqv (.tuple [.str x, .str y]) (.tuple [.str z, .str u])) := by
    show (if _ then _ else _) = _
    rw [if_pos ⟨sh_2 h1 h2, sh_2 h3 h4⟩]
  unfold gEq
  rw [e]
  show some (PyData.bool _) = _
  simp [PyData.eqv, PyData.eqvAll, beq_dec]
theorem in_T {x y z : Str} (h1 : x ∈ ("" : Str) :: (nmL ++ dL)) (h2 : y ∈ ("" : Str) :: (nmL ++ dL)) (h3 : z ∈ ("" : Str) :: (nmL ++ dL)) : gInD false (.str x) (.tuple [.str y, .str z]) = some (.bool (decide (y = x) || decide (z = x))) := by
  show opt (inD _ _) _ = _
  unfold inD
  rw [if_pos ⟨lay_s h1, lay_2 h2 h3⟩]
  show some (PyData.bool (List.any _ _)) = _
  simp [PyData.eqv, beq_dec]
theorem in_L {x y z : Str} (h1 : x ∈ ("" : Str) :: (nmL ++ dL)) (h2 : y ∈ ("" : Str) :: (nmL ++ dL)) (h3 : z ∈ ("" : Str) :: (nmL ++ dL)) : gInD false (.str x) (.list [.str y, .str z]) = some (.bool (decide (y = x) || decide (z = x))) := by
  show opt (inD _ _) _ = _
  unfold inD
  rw [if_pos ⟨lay_s h1, lay_2 h2 h3⟩]
  show some (PyData.bool (List.any _ _)) = _
  simp [PyData.eqv, beq_dec]
theorem d_all : ∀ x ∈ dL, x ∈ ("" : Str) :: (nmL ++ dL) := by decide +kernel
theorem k_all : ∀ x ∈ kL, x ∈ ("" : Str) :: (nmL ++ dL) := by decide +kernel
theorem f_all : ∀ x ∈ fL, x ∈ ("" : Str) :: (nmL ++ dL) := by decide +kernel
theorem n_all : ∀ x ∈ nmL, x ∈ ("" : Str) :: (nmL ++ dL) := by decide +kernel
def frG : FG := gTu 2 (gCo (gNm 6) (gCo (gTu 4 (gCo (gNm 7) (gCo (gNm 8) (gCo (gNm 9) (gCo (gNm 10) gNo))))) gNo))
def frB : FS := (fIfS (fAnd (fB (f2 (fN (fCons (fVar 8) (fCons (fVar 9) fNil)) DL.gTup) (fN (fCons (fVar 2) (fCons (fVar 3) fNil)) DL.gTup) gEq)) (fAnd (fB (f2 (fVar 10) (fN (fCons (fVar 4) (fCons (fC (.str "")) fNil)) DL.gTup) (gInD false))) (fB (fCall m_is_for (pNm 7 (pNm 1 (pNm 5 pNil)))))))
    (fRet (fVar 6))
    fEnd)
theorem B_find_eq : B_find_rule = fSeq (fFor (fEnT (fVar 0)) frG frB) (fRet (fC .none)) := rfl
structure Qs (j : Nat) (d k f o : Str) : Prop where
  j : j < 5
  d : d ∈ dL
  k : k ∈ nmL
  f : f ∈ ("" : Str) :: nmL
theorem fe_all : ∀ x ∈ ("" : Str) :: nmL, x ∈ ("" : Str) :: (nmL ++ dL) := by decide +kernel
theorem e_mem : ("" : Str) ∈ ("" : Str) :: (nmL ++ dL) := by decide +kernel
theorem fr_turn {j : Nat} {d k f o : Str} (q : Qs j d k f o) {r : Rw} (h : RwOk r) {R : PyData} {p : Int} {μ : Mu} :
    frB [.dat R, .dat (askD j), .dat (.str d), .dat (.str k), .dat (.str f), .dat (.str o), .dat (.int p), .dat (whoD r.w), .dat (.str r.d), .dat (.str r.k), .dat (.str r.f)] μ =
      some (if hit j d k f o r = true then .rt (.dat (.int p)) μ else .nx [.dat R, .dat (askD j), .dat (.str d), .dat (.str k), .dat (.str f), .dat (.str o), .dat (.int p), .dat (whoD r.w), .dat (.str r.d), .dat (.str r.k), .dat (.str r.f)] μ) := by
  have e1 := eq_2 (d_all _ h.d) (k_all _ h.k) (d_all _ q.d) (n_all _ q.k)
  have e2 := in_T (f_all _ h.f) (fe_all _ q.f) e_mem
  have e3 := e_isfor h.w q.j o μ
  unfold frB hit
  simp only [defM, fSeq, fIfS, fAnd, fOr, fNot, fB, fAndV, fOrV, fNotV, fIf, fIsi, tyD, fIsA, bnd, opt, fin, fChain, f2, fN, fCons, fNil, fVar, fC, g1, gI, gIC, fRet, fExpr, fCall, pNil, pDat, pNm, fAsg, gNm, gNo, gCo, gTu, fEnd, fFor, fSq, seqD, fSg, fLcD, fLc, fYes, fM1, gSS, fM0, fSl, fNo, fSome, rd, fNmB, fNm2, fNmI, fNmT, fNmJ, fNmS, sc, isSc, fSetI, fApp, fOwn, fLstF, fCatF, fRetO, fPar, fParO, fTru, truB, List.cons_append, List.nil_append, List.getElem?_cons_zero, List.getElem?_cons_succ, List.set_cons_zero, List.set_cons_succ, List.replicate, List.length_cons, List.length_nil, Nat.reduceAdd, Nat.reduceSub, if_true, if_false, Bool.false_eq_true, ↓reduceIte, List.append_nil, gTup0, gTup1, gTup2, gTup3, gLst0, gLst1, gLst2, gLst3, gLst4, gLst5, gLst10, isa_tt, isa_ts, isa_ti, isa_tn, isa_tl, isa_ss, isa_st, isa_si, isa_sn, isa_ii, isa_ib, isa_bi, isa_bb, isa_is, isa_in, isa_it, e1, e2]
  cases h1 : decide (r.d = d) <;> cases h2 : decide (r.k = k) <;> cases h3 : (decide (f = r.f) || decide ("" = r.f)) <;> cases h4 : forB r.w j o <;> simp only [defM, fSeq, fIfS, fAnd, fOr, fNot, fB, fAndV, fOrV, fNotV, fIf, fIsi, tyD, fIsA, bnd, opt, fin, fChain, f2, fN, fCons, fNil, fVar, fC, g1, gI, gIC, fRet, fExpr, fCall, pNil, pDat, pNm, fAsg, gNm, gNo, gCo, gTu, fEnd, fFor, fSq, seqD, fSg, fLcD, fLc, fYes, fM1, gSS, fM0, fSl, fNo, fSome, rd, fNmB, fNm2, fNmI, fNmT, fNmJ, fNmS, sc, isSc, fSetI, fApp, fOwn, fLstF, fCatF, fRetO, fPar, fParO, fTru, truB, List.cons_append, List.nil_append, List.getElem?_cons_zero, List.getElem?_cons_succ, List.set_cons_zero, List.set_cons_succ, List.replicate, List.length_cons, List.length_nil, Nat.reduceAdd, Nat.reduceSub, if_true, if_false, Bool.false_eq_true, ↓reduceIte, List.append_nil, gTup0, gTup1, gTup2, gTup3, gLst0, gLst1, gLst2, gLst3, gLst4, gLst5, gLst10, isa_tt, isa_ts, isa_ti, isa_tn, isa_tl, isa_ss, isa_st, isa_si, isa_sn, isa_ii, isa_ib, isa_bi, isa_bb, isa_is, isa_in, isa_it, e3, h4, Bool.and_true, Bool.and_false, Bool.true_and, Bool.false_and]
theorem e_find {j : Nat} {d k f o : Str} (q : Qs j d k f o) {rs : List Rw} (h : ∀ r ∈ rs, RwOk r) (μ : Mu) :
    m_find_rule [.dat (.tuple (rs.map rwD)), .dat (askD j), .dat (.str d), .dat (.str k), .dat (.str f), .dat (.str o)] μ = some (resD (fstN (hit j d k f o) 0 rs), μ) := by
  have hl := loop_fst (g := frG) (B := frB) (h := hit j d k f o) (P := fun ρ => ∃ t6 t7 t8 t9 t10, ρ = [.dat (.tuple (rs.map rwD)), .dat (askD j), .dat (.str d), .dat (.str k), .dat (.str f), .dat (.str o), t6, t7, t8, t9, t10]) (μ := μ) rs 0 [.dat (.tuple (rs.map rwD)), .dat (askD j), .dat (.str d), .dat (.str k), .dat (.str f), .dat (.str o), .un, .un, .un, .un, .un] (fun r hr p ρ hP => by
    obtain ⟨t6, t7, t8, t9, t10, rfl⟩ := hP
    have e := fr_turn q (h r hr) (R := .tuple (rs.map rwD)) (p := (p : Nat)) (μ := μ)
    refine ⟨_, rfl, ?_⟩
    cases hh : hit j d k f o r with
    | true => rw [if_pos hh] at e; exact .inl ⟨rfl, e⟩
    | false => rw [if_neg (by rw [hh]; decide)] at e; exact .inr ⟨rfl, _, e, _, _, _, _, _, rfl⟩) ⟨_, _, _, _, _, rfl⟩
  unfold m_find_rule
  rw [B_find_eq]
  rcases hl with ⟨p, e1, e2⟩ | ⟨e1, ρ', e2⟩
  · rw [e1]
    simp only [defM, fSeq, fIfS, fAnd, fOr, fNot, fB, fAndV, fOrV, fNotV, fIf, fIsi, tyD, fIsA, bnd, opt, fin, fChain, f2, fN, fCons, fNil, fVar, fC, g1, gI, gIC, fRet, fExpr, fCall, pNil, pDat, pNm, fAsg, gNm, gNo, gCo, gTu, fEnd, fFor, fSq, seqD, fSg, fLcD, fLc, fYes, fM1, gSS, fM0, fSl, fNo, fSome, rd, fNmB, fNm2, fNmI, fNmT, fNmJ, fNmS, sc, isSc, fSetI, fApp, fOwn, fLstF, fCatF, fRetO, fPar, fParO, fTru, truB, List.cons_append, List.nil_append, List.getElem?_cons_zero, List.getElem?_cons_succ, List.set_cons_zero, List.set_cons_succ, List.replicate, List.length_cons, List.length_nil, Nat.reduceAdd, Nat.reduceSub, if_true, if_false, Bool.false_eq_true, ↓reduceIte, List.append_nil, gTup0, gTup1, gTup2, gTup3, gLst0, gLst1, gLst2, gLst3, gLst4, gLst5, gLst10, isa_tt, isa_ts, isa_ti, isa_tn, isa_tl, isa_ss, isa_st, isa_si, isa_sn, isa_ii, isa_ib, isa_bi, isa_bb, isa_is, isa_in, isa_it, fEnT, e2, List.take_length]
    rfl
  · rw [e1]
    simp only [defM, fSeq, fIfS, fAnd, fOr, fNot, fB, fAndV, fOrV, fNotV, fIf, fIsi, tyD, fIsA, bnd, opt, fin, fChain, f2, fN, fCons, fNil, fVar, fC, g1, gI, gIC, fRet, fExpr, fCall, pNil, pDat, pNm, fAsg, gNm, gNo, gCo, gTu, fEnd, fFor, fSq, seqD, fSg, fLcD, fLc, fYes, fM1, gSS, fM0, fSl, fNo, fSome, rd, fNmB, fNm2, fNmI, fNmT, fNmJ, fNmS, sc, isSc, fSetI, fApp, fOwn, fLstF, fCatF, fRetO, fPar, fParO, fTru, truB, List.cons_append, List.nil_append, List.getElem?_cons_zero, List.getElem?_cons_succ, List.set_cons_zero, List.set_cons_succ, List.replicate, List.length_cons, List.length_nil, Nat.reduceAdd, Nat.reduceSub, if_true, if_false, Bool.false_eq_true, ↓reduceIte, List.append_nil, gTup0, gTup1, gTup2, gTup3, gLst0, gLst1, gLst2, gLst3, gLst4, gLst5, gLst10, isa_tt, isa_ts, isa_ti, isa_tn, isa_tl, isa_ss, isa_st, isa_si, isa_sn, isa_ii, isa_ib, isa_bi, isa_bb, isa_is, isa_in, isa_it, fEnT, e2, List.take_length]
    rfl
def ltG : FG := gTu 2 (gCo (gNm 6) (gCo (gNm 7) gNo))
def ltB : FS := (fIfS (fAnd (fB (f2 (f2 (fVar 7) (fC (.int (1))) ixD) (fVar 2) gEq)) (fAnd (fB (f2 (f2 (fVar 7) (fC (.int (2))) ixD) (fVar 3) gEq)) (fB (f2 (f2 (fVar 7) (fC (.int (3))) ixD) (fN (fCons (fC (.str "")) (fCons (fVar 4) fNil)) gLst) (gInD false)))))
    (fSeq (fIfS (fOr (fB (f2 (f2 (fVar 7) (fC (.int (0))) ixD) (fC (.str "all")) gEq)) (fAnd (fB (f2 (fVar 1) (fC .none) gNotN)) (fB (f2 (f2 (fVar 7) (fC (.int (0))) ixD) (fC (.str "known")) gEq))))
    (fRet (fVar 6))
    fEnd)
  (fSeq (fIfS (fAnd (fB (f2 (fVar 1) (fC .none) gNotN)) (fAnd (fB (f2 (f2 (fVar 7) (fC (.int (0))) ixD) (fC (.str "own")) gEq)) (fB (f2 (fNmI 1 (fC (.int (0)))) (fVar 5) gEq))))
    (fRet (fVar 6))
    fEnd)
  (fIfS (fAnd (fB (f2 (fVar 1) (fC .none) gNotN)) (fAnd (fB (fIsT (f2 (fVar 7) (fC (.int (0))) ixD))) (fB (f2 (f2 (f2 (fVar 7) (fC (.int (0))) ixD) (fC (.int (1))) ixD) (fNmI 1 (fC (.int (1)))) (gInD false)))))
    (fRet (fVar 6))
    fEnd)))
    fEnd)
theorem B_let_eq : B__law_let = fSeq (fFor (fEnT (fVar 0)) ltG ltB) (fRet (fC .none)) := rfl
def whB : FS := (fSeq (fIfS (fOr (fB (f2 (f2 (fVar 7) (fC (.int (0))) ixD) (fC (.str "all")) gEq)) (fAnd (fB (f2 (fVar 1) (fC .none) gNotN)) (fB (f2 (f2 (fVar 7) (fC (.int (0))) ixD) (fC (.str "known")) gEq))))
    (fRet (fVar 6))
    fEnd)
  (fSeq (fIfS (fAnd (fB (f2 (fVar 1) (fC .none) gNotN)) (fAnd (fB (f2 (f2 (fVar 7) (fC (.int (0))) ixD) (fC (.str "own")) gEq)) (fB (f2 (fNmI 1 (fC (.int (0)))) (fVar 5) gEq))))
    (fRet (fVar 6))
    fEnd)
  (fIfS (fAnd (fB (f2 (fVar 1) (fC .none) gNotN)) (fAnd (fB (fIsT (f2 (fVar 7) (fC (.int (0))) ixD))) (fB (f2 (f2 (f2 (fVar 7) (fC (.int (0))) ixD) (fC (.int (1))) ixD) (fNmI 1 (fC (.int (1)))) (gInD false)))))
    (fRet (fVar 6))
    fEnd)))
theorem wh_own {n : Str} {R D K F p d k f rl : PyData} {o : Str} {μ : Mu} :
    whB [.dat R, .dat (.tuple [.str n, rl]), .dat D, .dat K, .dat F, .dat (.str o), .dat p, .dat (.tuple [.str "own", d, k, f])] μ =
      some (if decide (n = o) = true then .rt (.dat p) μ else .nx [.dat R, .dat (.tuple [.str n, rl]), .dat D, .dat K, .dat F, .dat (.str o), .dat p, .dat (.tuple [.str "own", d, k, f])] μ) := by
  have i0 : ixD (.tuple [.str "own", d, k, f]) (.int 0) = some (.str "own") := rfl
  have j0 : ixD (.tuple [.str n, rl]) (.int 0) = some (.str n) := rfl
  have q1 : gEq (.str "own") (.str "all") = some (.bool false) := rfl
  have q2 : gEq (.str "own") (.str "known") = some (.bool false) := rfl
  have q3 : gEq (.str "own") (.str "own") = some (.bool true) := rfl
  have q4 : gEq (.str n) (.str o) = some (.bool (decide (n = o))) := rfl
  have ne : ¬ ("str" = "tuple") := by decide
  unfold whB
  cases h : decide (n = o)
  · rw [h] at q4
    simp only [defM, fSeq, fIfS, fAnd, fOr, fNot, fB, fAndV, fOrV, fNotV, fIf, fIsi, tyD, fIsA, bnd, opt, fin, fChain, f2, fN, fCons, fNil, fVar, fC, g1, gI, gIC, fRet, fExpr, fCall, pNil, pDat, pNm, fAsg, gNm, gNo, gCo, gTu, fEnd, fFor, fSq, seqD, fSg, fLcD, fLc, fYes, fM1, gSS, fM0, fSl, fNo, fSome, rd, fNmB, fNm2, fNmI, fNmT, fNmJ, fNmS, sc, isSc, fSetI, fApp, fOwn, fLstF, fCatF, fRetO, fPar, fParO, fTru, truB, List.cons_append, List.nil_append, List.getElem?_cons_zero, List.getElem?_cons_succ, List.set_cons_zero, List.set_cons_succ, List.replicate, List.length_cons, List.length_nil, Nat.reduceAdd, Nat.reduceSub, if_true, if_false, Bool.false_eq_true, ↓reduceIte, List.append_nil, gTup0, gTup1, gTup2, gTup3, gLst0, gLst1, gLst2, gLst3, gLst4, gLst5, gLst10, isa_tt, isa_ts, isa_ti, isa_tn, isa_tl, isa_ss, isa_st, isa_si, isa_sn, isa_ii, isa_ib, isa_bi, isa_bb, isa_is, isa_in, isa_it, i0, j0, q1, q2, q3, q4, gNotN, fIsT, if_neg ne, noTup]
  · rw [h] at q4
    simp only [defM, fSeq, fIfS, fAnd, fOr, fNot, fB, fAndV, fOrV, fNotV, fIf, fIsi, tyD, fIsA, bnd, opt, fin, fChain, f2, fN, fCons, fNil, fVar, fC, g1, gI, gIC, fRet, fExpr, fCall, pNil, pDat, pNm, fAsg, gNm, gNo, gCo, gTu, fEnd, fFor, fSq, seqD, fSg, fLcD, fLc, fYes, fM1, gSS, fM0, fSl, fNo, fSome, rd, fNmB, fNm2, fNmI, fNmT, fNmJ, fNmS, sc, isSc, fSetI, fApp, fOwn, fLstF, fCatF, fRetO, fPar, fParO, fTru, truB, List.cons_append, List.nil_append, List.getElem?_cons_zero, List.getElem?_cons_succ, List.set_cons_zero, List.set_cons_succ, List.replicate, List.length_cons, List.length_nil, Nat.reduceAdd, Nat.reduceSub, if_true, if_false, Bool.false_eq_true, ↓reduceIte, List.append_nil, gTup0, gTup1, gTup2, gTup3, gLst0, gLst1, gLst2, gLst3, gLst4, gLst5, gLst10, isa_tt, isa_ts, isa_ti, isa_tn, isa_tl, isa_ss, isa_st, isa_si, isa_sn, isa_ii, isa_ib, isa_bi, isa_bb, isa_is, isa_in, isa_it, i0, j0, q1, q2, q3, q4, gNotN, fIsT, if_neg ne, noTup]
theorem wh_turn {i j : Nat} (hi : i < 5) (hj : j < 5) {R D K F p d k f : PyData} {o : Str} {μ : Mu} :
    whB [.dat R, .dat (askD j), .dat D, .dat K, .dat F, .dat (.str o), .dat p, .dat (.tuple [whoD i, d, k, f])] μ =
      some (if forB i j o = true then .rt (.dat p) μ else .nx [.dat R, .dat (askD j), .dat D, .dat K, .dat F, .dat (.str o), .dat p, .dat (.tuple [whoD i, d, k, f])] μ) := by
  match i, hi, j, hj with
  | 0, _, 0, _ => kernel_rfl
  | 0, _, 1, _ => kernel_rfl
  | 0, _, 2, _ => kernel_rfl
  | 0, _, 3, _ => kernel_rfl
  | 0, _, 4, _ => kernel_rfl
  | 1, _, 0, _ => kernel_rfl
  | 1, _, 1, _ => kernel_rfl
  | 1, _, 2, _ => kernel_rfl
  | 1, _, 3, _ => kernel_rfl
  | 1, _, 4, _ => kernel_rfl
  | 2, _, 0, _ => kernel_rfl
  | 2, _, 1, _ => exact wh_own
  | 2, _, 2, _ => exact wh_own
  | 2, _, 3, _ => exact wh_own
  | 2, _, 4, _ => exact wh_own
  | 3, _, 0, _ => kernel_rfl
  | 3, _, 1, _ => kernel_rfl
  | 3, _, 2, _ => kernel_rfl
  | 3, _, 3, _ => kernel_rfl
  | 3, _, 4, _ => kernel_rfl
  | 4, _, 0, _ => kernel_rfl
  | 4, _, 1, _ => kernel_rfl
  | 4, _, 2, _ => kernel_rfl
  | 4, _, 3, _ => kernel_rfl
  | 4, _, 4, _ => kernel_rfl
theorem B_lt : ltB = fIfS (fAnd (fB (f2 (f2 (fVar 7) (fC (.int (1))) ixD) (fVar 2) gEq)) (fAnd (fB (f2 (f2 (fVar 7) (fC (.int (2))) ixD) (fVar 3) gEq)) (fB (f2 (f2 (fVar 7) (fC (.int (3))) ixD) (fN (fCons (fC (.str "")) (fCons (fVar 4) fNil)) gLst) (gInD false))))) whB fEnd := rfl
theorem lt_turn {j : Nat} {d k f o : Str} (q : Qs j d k f o) {r : Rw} (h : RwOk r) {R : PyData} {p : Int} {μ : Mu} :
    ltB [.dat R, .dat (askD j), .dat (.str d), .dat (.str k), .dat (.str f), .dat (.str o), .dat (.int p), .dat (rwD r)] μ =
      some (if hit j d k f o r = true then .rt (.dat (.int p)) μ else .nx [.dat R, .dat (askD j), .dat (.str d), .dat (.str k), .dat (.str f), .dat (.str o), .dat (.int p), .dat (rwD r)] μ) := by
  have e2 := in_L (f_all _ h.f) e_mem (fe_all _ q.f)
  have e3 := wh_turn h.w q.j (R := R) (D := .str d) (K := .str k) (F := .str f) (p := .int p) (d := .str r.d) (k := .str r.k) (f := .str r.f) (o := o) (μ := μ)
  have i1 : ixD (rwD r) (.int 1) = some (.str r.d) := rfl
  have i2 : ixD (rwD r) (.int 2) = some (.str r.k) := rfl
  have i3 : ixD (rwD r) (.int 3) = some (.str r.f) := rfl
  rw [Bool.or_comm] at e2
  rw [B_lt]
  unfold hit
  simp only [defM, fSeq, fIfS, fAnd, fOr, fNot, fB, fAndV, fOrV, fNotV, fIf, fIsi, tyD, fIsA, bnd, opt, fin, fChain, f2, fN, fCons, fNil, fVar, fC, g1, gI, gIC, fRet, fExpr, fCall, pNil, pDat, pNm, fAsg, gNm, gNo, gCo, gTu, fEnd, fFor, fSq, seqD, fSg, fLcD, fLc, fYes, fM1, gSS, fM0, fSl, fNo, fSome, rd, fNmB, fNm2, fNmI, fNmT, fNmJ, fNmS, sc, isSc, fSetI, fApp, fOwn, fLstF, fCatF, fRetO, fPar, fParO, fTru, truB, List.cons_append, List.nil_append, List.getElem?_cons_zero, List.getElem?_cons_succ, List.set_cons_zero, List.set_cons_succ, List.replicate, List.length_cons, List.length_nil, Nat.reduceAdd, Nat.reduceSub, if_true, if_false, Bool.false_eq_true, ↓reduceIte, List.append_nil, gTup0, gTup1, gTup2, gTup3, gLst0, gLst1, gLst2, gLst3, gLst4, gLst5, gLst10, isa_tt, isa_ts, isa_ti, isa_tn, isa_tl, isa_ss, isa_st, isa_si, isa_sn, isa_ii, isa_ib, isa_bi, isa_bb, isa_is, isa_in, isa_it, i1, i2, i3, eq_str, e2]
  cases h1 : decide (r.d = d) <;> cases h2 : decide (r.k = k) <;> cases h3 : (decide (f = r.f) || decide ("" = r.f)) <;> simp only [defM, fSeq, fIfS, fAnd, fOr, fNot, fB, fAndV, fOrV, fNotV, fIf, fIsi, tyD, fIsA, bnd, opt, fin, fChain, f2, fN, fCons, fNil, fVar, fC, g1, gI, gIC, fRet, fExpr, fCall, pNil, pDat, pNm, fAsg, gNm, gNo, gCo, gTu, fEnd, fFor, fSq, seqD, fSg, fLcD, fLc, fYes, fM1, gSS, fM0, fSl, fNo, fSome, rd, fNmB, fNm2, fNmI, fNmT, fNmJ, fNmS, sc, isSc, fSetI, fApp, fOwn, fLstF, fCatF, fRetO, fPar, fParO, fTru, truB, List.cons_append, List.nil_append, List.getElem?_cons_zero, List.getElem?_cons_succ, List.set_cons_zero, List.set_cons_succ, List.replicate, List.length_cons, List.length_nil, Nat.reduceAdd, Nat.reduceSub, if_true, if_false, Bool.false_eq_true, ↓reduceIte, List.append_nil, gTup0, gTup1, gTup2, gTup3, gLst0, gLst1, gLst2, gLst3, gLst4, gLst5, gLst10, isa_tt, isa_ts, isa_ti, isa_tn, isa_tl, isa_ss, isa_st, isa_si, isa_sn, isa_ii, isa_ib, isa_bi, isa_bb, isa_is, isa_in, isa_it, Bool.and_true, Bool.and_false, Bool.true_and, Bool.false_and]
  exact e3
theorem e_let {j : Nat} {d k f o : Str} (q : Qs j d k f o) {rs : List Rw} (h : ∀ r ∈ rs, RwOk r) (μ : Mu) :
    m__law_let [.dat (.tuple (rs.map rwD)), .dat (askD j), .dat (.str d), .dat (.str k), .dat (.str f), .dat (.str o)] μ = some (resD (fstN (hit j d k f o) 0 rs), μ) := by
  have hl := loop_fst (g := ltG) (B := ltB) (h := hit j d k f o) (P := fun ρ => ∃ t6 t7, ρ = [.dat (.tuple (rs.map rwD)), .dat (askD j), .dat (.str d), .dat (.str k), .dat (.str f), .dat (.str o), t6, t7]) (μ := μ) rs 0 [.dat (.tuple (rs.map rwD)), .dat (askD j), .dat (.str d), .dat (.str k), .dat (.str f), .dat (.str o), .un, .un] (fun r hr p ρ hP => by
    obtain ⟨t6, t7, rfl⟩ := hP
    have e := lt_turn q (h r hr) (R := .tuple (rs.map rwD)) (p := (p : Nat)) (μ := μ)
    refine ⟨_, rfl, ?_⟩
    cases hh : hit j d k f o r with
    | true => rw [if_pos hh] at e; exact .inl ⟨rfl, e⟩
    | false => rw [if_neg (by rw [hh]; decide)] at e; exact .inr ⟨rfl, _, e, _, _, rfl⟩) ⟨_, _, rfl⟩
  unfold m__law_let
  rw [B_let_eq]
  rcases hl with ⟨p, e1, e2⟩ | ⟨e1, ρ', e2⟩
  · rw [e1]
    simp only [defM, fSeq, fIfS, fAnd, fOr, fNot, fB, fAndV, fOrV, fNotV, fIf, fIsi, tyD, fIsA, bnd, opt, fin, fChain, f2, fN, fCons, fNil, fVar, fC, g1, gI, gIC, fRet, fExpr, fCall, pNil, pDat, pNm, fAsg, gNm, gNo, gCo, gTu, fEnd, fFor, fSq, seqD, fSg, fLcD, fLc, fYes, fM1, gSS, fM0, fSl, fNo, fSome, rd, fNmB, fNm2, fNmI, fNmT, fNmJ, fNmS, sc, isSc, fSetI, fApp, fOwn, fLstF, fCatF, fRetO, fPar, fParO, fTru, truB, List.cons_append, List.nil_append, List.getElem?_cons_zero, List.getElem?_cons_succ, List.set_cons_zero, List.set_cons_succ, List.replicate, List.length_cons, List.length_nil, Nat.reduceAdd, Nat.reduceSub, if_true, if_false, Bool.false_eq_true, ↓reduceIte, List.append_nil, gTup0, gTup1, gTup2, gTup3, gLst0, gLst1, gLst2, gLst3, gLst4, gLst5, gLst10, isa_tt, isa_ts, isa_ti, isa_tn, isa_tl, isa_ss, isa_st, isa_si, isa_sn, isa_ii, isa_ib, isa_bi, isa_bb, isa_is, isa_in, isa_it, fEnT, e2, List.take_length]
    rfl
  · rw [e1]
    simp only [defM, fSeq, fIfS, fAnd, fOr, fNot, fB, fAndV, fOrV, fNotV, fIf, fIsi, tyD, fIsA, bnd, opt, fin, fChain, f2, fN, fCons, fNil, fVar, fC, g1, gI, gIC, fRet, fExpr, fCall, pNil, pDat, pNm, fAsg, gNm, gNo, gCo, gTu, fEnd, fFor, fSq, seqD, fSg, fLcD, fLc, fYes, fM1, gSS, fM0, fSl, fNo, fSome, rd, fNmB, fNm2, fNmI, fNmT, fNmJ, fNmS, sc, isSc, fSetI, fApp, fOwn, fLstF, fCatF, fRetO, fPar, fParO, fTru, truB, List.cons_append, List.nil_append, List.getElem?_cons_zero, List.getElem?_cons_succ, List.set_cons_zero, List.set_cons_succ, List.replicate, List.length_cons, List.length_nil, Nat.reduceAdd, Nat.reduceSub, if_true, if_false, Bool.false_eq_true, ↓reduceIte, List.append_nil, gTup0, gTup1, gTup2, gTup3, gLst0, gLst1, gLst2, gLst3, gLst4, gLst5, gLst10, isa_tt, isa_ts, isa_ti, isa_tn, isa_tl, isa_ss, isa_st, isa_si, isa_sn, isa_ii, isa_ib, isa_bi, isa_bb, isa_is, isa_in, isa_it, fEnT, e2, List.take_length]
    rfl
theorem e_chkR {rs : List Rw} (h : ∀ r ∈ rs, RwOk r) (hl : rs.length ≤ 12) (μ : Mu) : m_check_rules [.dat (.tuple (rs.map rwD))] μ = some (.none, μ) := by
  unfold m_check_rules B_check_rules
  simp only [defM, fSeq, fIfS, fAnd, fOr, fNot, fB, fAndV, fOrV, fNotV, fIf, fIsi, tyD, fIsA, bnd, opt, fin, fChain, f2, fN, fCons, fNil, fVar, fC, g1, gI, gIC, fRet, fExpr, fCall, pNil, pDat, pNm, fAsg, gNm, gNo, gCo, gTu, fEnd, fFor, fSq, seqD, fSg, fLcD, fLc, fYes, fM1, gSS, fM0, fSl, fNo, fSome, rd, fNmB, fNm2, fNmI, fNmT, fNmJ, fNmS, sc, isSc, fSetI, fApp, fOwn, fLstF, fCatF, fRetO, fPar, fParO, fTru, truB, List.cons_append, List.nil_append, List.getElem?_cons_zero, List.getElem?_cons_succ, List.set_cons_zero, List.set_cons_succ, List.replicate, List.length_cons, List.length_nil, Nat.reduceAdd, Nat.reduceSub, if_true, if_false, Bool.false_eq_true, ↓reduceIte, List.append_nil, gTup0, gTup1, gTup2, gTup3, gLst0, gLst1, gLst2, gLst3, gLst4, gLst5, gLst10, isa_tt, isa_ts, isa_ti, isa_tn, isa_tl, isa_ss, isa_st, isa_si, isa_sn, isa_ii, isa_ib, isa_bi, isa_bb, isa_is, isa_in, isa_it, e_rules h hl, Bool.not_true, List.take_length]
end Law
namespace Law
open PySem PySem.Spec PyProof.Rows L2 DL
local instance : Tabs := ⟨[]⟩
section
variable {base t : Mu} {p q : List PyData}
theorem g_pen : (base ++ p :: t)[base.length]? = some p := by simp
theorem s_pen : (base ++ p :: t).set base.length q = base ++ q :: t := by simp
theorem ln : (base ++ p :: t).length = base.length + (t.length + 1) := by simp
theorem st1 {a : List PyData} : (base ++ p :: t) ++ [a] = base ++ p :: (t ++ [a]) := by simp
theorem tk0 : (base ++ q :: t).take (base.length + (t.length + 1)) = base ++ q :: t := List.take_of_length_le (by rw [ln]; exact Nat.le_refl _)
theorem tk1 {a : List PyData} : (base ++ q :: (t ++ [a])).take (base.length + (t.length + 1)) = base ++ q :: t := by
  rw [← st1]
  exact List.take_left' ln
theorem g_acc {a : List PyData} : (base ++ q :: (t ++ [a]))[base.length + (t.length + 1)]? = some a := by
  rw [← st1, ← ln (base := base) (p := q) (t := t)]; simp
theorem s_acc {a b : List PyData} : (base ++ q :: (t ++ [a])).set (base.length + (t.length + 1)) b = base ++ q :: (t ++ [b]) := by
  rw [← st1, ← ln (base := base) (p := q) (t := t)]; simp
end
theorem ix0 {a b : PyData} : ixD (.list [a, b]) (.int 0) = some a := rfl
theorem ix1 {a b : PyData} : ixD (.list [a, b]) (.int 1) = some b := rfl
theorem in20 : ixN 2 0 = some 0 := rfl
theorem gE1 {i j : Int} : gEq (.int i) (.int j) = some (.bool (decide (i = j))) := rfl
theorem gA1 {i j : Int} : gAdd (.int i) (.int j) = some (.int (i + j)) := rfl
theorem e_draw {base t : Mu} {x f n : Int} (h0 : 0 < n) (h1 : n < 1073741824) : ∃ d x', 0 ≤ d ∧ d < n ∧ m__law_draw [.own base.length, .dat (.int n)] (base ++ [.int x, .int f] :: t) = some (.int d, base ++ [.int x', .int f] :: t) := by
  have hm : ∀ i, cMod i n = true := fun i => decide_eq_true h0
  have hd : ∀ i, cDiv i n = true := fun i => decide_eq_true ⟨h0, h1⟩
  have m1 : ∀ i, cMod i 2147483629 = true := fun i => decide_eq_true (by decide)
  have m2 : ∀ i, cMod i 2147483647 = true := fun i => decide_eq_true (by decide)
  have d8 : ∀ i, cDiv i 8 = true := fun i => decide_eq_true (by decide)
  have u1 : ∀ i, cMul i 48271 = true := fun i => decide_eq_true (.inr (by decide))
  have u2 : ∀ i, cMul 40692 i = true := fun i => decide_eq_true (.inl (by decide))
  have u3 : ∀ i, cMul ((i % 2147483629 * 48271 + 11) % 2147483629) ((i % 2147483629 * 48271 + 11) % 2147483629) = true := fun i => decide_eq_true (.inl (by
    have a1 := Int.emod_nonneg (i % 2147483629 * 48271 + 11) (show (2147483629 : Int) ≠ 0 by decide)
    have a2 := Int.emod_lt_of_pos (i % 2147483629 * 48271 + 11) (show (0 : Int) < 2147483629 by decide)
    omega))
  by_cases hf : f = 1
  · refine ⟨x % n, x / n, Int.emod_nonneg _ (by omega), Int.emod_lt_of_pos _ h0, ?_⟩
    unfold m__law_draw B__law_draw
    simp only [defM, fSeq, fIfS, fAnd, fOr, fNot, fB, fAndV, fOrV, fNotV, fIf, fIsi, tyD, fIsA, bnd, opt, fin, fChain, f2, fN, fCons, fNil, fVar, fC, g1, gI, gIC, fRet, fExpr, fCall, pNil, pDat, pNm, fAsg, gNm, gNo, gCo, gTu, fEnd, fFor, fSq, seqD, fSg, fLcD, fLc, fYes, fM1, gSS, fM0, fSl, fNo, fSome, rd, fNmB, fNm2, fNmI, fNmT, fNmJ, fNmS, sc, isSc, fSetI, fApp, fOwn, fLstF, fCatF, fRetO, fPar, fParO, fTru, truB, List.cons_append, List.nil_append, List.getElem?_cons_zero, List.getElem?_cons_succ, List.set_cons_zero, List.set_cons_succ, List.replicate, List.length_cons, List.length_nil, Nat.reduceAdd, Nat.reduceSub, if_true, if_false, Bool.false_eq_true, ↓reduceIte, List.append_nil, gTup0, gTup1, gTup2, gTup3, gLst0, gLst1, gLst2, gLst3, gLst4, gLst5, gLst10, isa_tt, isa_ts, isa_ti, isa_tn, isa_tl, isa_ss, isa_st, isa_si, isa_sn, isa_ii, isa_ib, isa_bi, isa_bb, isa_is, isa_in, isa_it, g_pen, s_pen, ix0, ix1, in20, gE1, hf, decide_true, hm, hd, ln, tk0]
  · refine ⟨(((x % 2147483629 * 48271 + 11) % 2147483629) * ((x % 2147483629 * 48271 + 11) % 2147483629) + 40692 * ((x % 2147483629 * 48271 + 11) % 2147483629)) % 2147483647 / 8 % n, (x % 2147483629 * 48271 + 11) % 2147483629, Int.emod_nonneg _ (by omega), Int.emod_lt_of_pos _ h0, ?_⟩
    unfold m__law_draw B__law_draw
    simp only [defM, fSeq, fIfS, fAnd, fOr, fNot, fB, fAndV, fOrV, fNotV, fIf, fIsi, tyD, fIsA, bnd, opt, fin, fChain, f2, fN, fCons, fNil, fVar, fC, g1, gI, gIC, fRet, fExpr, fCall, pNil, pDat, pNm, fAsg, gNm, gNo, gCo, gTu, fEnd, fFor, fSq, seqD, fSg, fLcD, fLc, fYes, fM1, gSS, fM0, fSl, fNo, fSome, rd, fNmB, fNm2, fNmI, fNmT, fNmJ, fNmS, sc, isSc, fSetI, fApp, fOwn, fLstF, fCatF, fRetO, fPar, fParO, fTru, truB, List.cons_append, List.nil_append, List.getElem?_cons_zero, List.getElem?_cons_succ, List.set_cons_zero, List.set_cons_succ, List.replicate, List.length_cons, List.length_nil, Nat.reduceAdd, Nat.reduceSub, if_true, if_false, Bool.false_eq_true, ↓reduceIte, List.append_nil, gTup0, gTup1, gTup2, gTup3, gLst0, gLst1, gLst2, gLst3, gLst4, gLst5, gLst10, isa_tt, isa_ts, isa_ti, isa_tn, isa_tl, isa_ss, isa_st, isa_si, isa_sn, isa_ii, isa_ib, isa_bi, isa_bb, isa_is, isa_in, isa_it, g_pen, s_pen, ix0, ix1, in20, gE1, gA1, hf, decide_false, hm, hd, m1, m2, d8, u1, u2, u3, ln, tk0]
theorem at_ok {ds : List PyData} {d : Int} (h0 : 0 ≤ d) (h1 : d < ds.length) : ∃ y ∈ ds, atI ds d = some y := by
  have h : d.toNat < ds.length := by omega
  refine ⟨ds[d.toNat], List.getElem_mem h, ?_⟩
  unfold atI ixN
  rw [if_pos h0, if_pos h1]
  show ds[d.toNat]? = _
  exact List.getElem?_eq_getElem h
theorem e_pick {base t : Mu} {x f : Int} {ds : List PyData} (h0 : 1 ≤ ds.length) (h1 : ds.length ≤ 1000) : ∃ y ∈ ds, ∃ x', m__law_pick [.own base.length, .dat (.list ds)] (base ++ [.int x, .int f] :: t) = some (y, base ++ [.int x', .int f] :: t) := by
  obtain ⟨d, x', a, b, e⟩ := e_draw (base := base) (t := t) (x := x) (f := f) (n := ds.length) (by omega) (by omega)
  obtain ⟨y, hy, ey⟩ := at_ok a b
  have ey' : ixD (.list ds) (.int d) = some y := ey
  refine ⟨y, hy, x', ?_⟩
  unfold m__law_pick B__law_pick
  simp only [defM, fSeq, fIfS, fAnd, fOr, fNot, fB, fAndV, fOrV, fNotV, fIf, fIsi, tyD, fIsA, bnd, opt, fin, fChain, f2, fN, fCons, fNil, fVar, fC, g1, gI, gIC, fRet, fExpr, fCall, pNil, pDat, pNm, fAsg, gNm, gNo, gCo, gTu, fEnd, fFor, fSq, seqD, fSg, fLcD, fLc, fYes, fM1, gSS, fM0, fSl, fNo, fSome, rd, fNmB, fNm2, fNmI, fNmT, fNmJ, fNmS, sc, isSc, fSetI, fApp, fOwn, fLstF, fCatF, fRetO, fPar, fParO, fTru, truB, List.cons_append, List.nil_append, List.getElem?_cons_zero, List.getElem?_cons_succ, List.set_cons_zero, List.set_cons_succ, List.replicate, List.length_cons, List.length_nil, Nat.reduceAdd, Nat.reduceSub, if_true, if_false, Bool.false_eq_true, ↓reduceIte, List.append_nil, gTup0, gTup1, gTup2, gTup3, gLst0, gLst1, gLst2, gLst3, gLst4, gLst5, gLst10, isa_tt, isa_ts, isa_ti, isa_tn, isa_tl, isa_ss, isa_st, isa_si, isa_sn, isa_ii, isa_ib, isa_bi, isa_bb, isa_is, isa_in, isa_it, lenD, e, ey', ln, tk0]
theorem e_pickT {base t : Mu} {x f : Int} {ds : List PyData} (h0 : 1 ≤ ds.length) (h1 : ds.length ≤ 1000) : ∃ y ∈ ds, ∃ x', m__law_pick [.own base.length, .dat (.tuple ds)] (base ++ [.int x, .int f] :: t) = some (y, base ++ [.int x', .int f] :: t) := by
  obtain ⟨d, x', a, b, e⟩ := e_draw (base := base) (t := t) (x := x) (f := f) (n := ds.length) (by omega) (by omega)
  obtain ⟨y, hy, ey⟩ := at_ok a b
  have ey' : ixD (.tuple ds) (.int d) = some y := ey
  refine ⟨y, hy, x', ?_⟩
  unfold m__law_pick B__law_pick
  simp only [defM, fSeq, fIfS, fAnd, fOr, fNot, fB, fAndV, fOrV, fNotV, fIf, fIsi, tyD, fIsA, bnd, opt, fin, fChain, f2, fN, fCons, fNil, fVar, fC, g1, gI, gIC, fRet, fExpr, fCall, pNil, pDat, pNm, fAsg, gNm, gNo, gCo, gTu, fEnd, fFor, fSq, seqD, fSg, fLcD, fLc, fYes, fM1, gSS, fM0, fSl, fNo, fSome, rd, fNmB, fNm2, fNmI, fNmT, fNmJ, fNmS, sc, isSc, fSetI, fApp, fOwn, fLstF, fCatF, fRetO, fPar, fParO, fTru, truB, List.cons_append, List.nil_append, List.getElem?_cons_zero, List.getElem?_cons_succ, List.set_cons_zero, List.set_cons_succ, List.replicate, List.length_cons, List.length_nil, Nat.reduceAdd, Nat.reduceSub, if_true, if_false, Bool.false_eq_true, ↓reduceIte, List.append_nil, gTup0, gTup1, gTup2, gTup3, gLst0, gLst1, gLst2, gLst3, gLst4, gLst5, gLst10, isa_tt, isa_ts, isa_ti, isa_tn, isa_tl, isa_ss, isa_st, isa_si, isa_sn, isa_ii, isa_ib, isa_bi, isa_bb, isa_is, isa_in, isa_it, lenD, e, ey', ln, tk0]
theorem addL {a b : List PyData} (h : a.length + b.length ≤ 1000) : gAdd (.list a) (.list b) = some (.list (a ++ b)) := by
  show (if a.length + b.length ≤ sizeLine then _ else _) = _
  rw [if_pos (line_ge (by omega))]
theorem loop_inv {g : FG} {B : FS} {P : Rho → Mu → Prop} : ∀ (xs : List PyData), (∀ d ∈ xs, ∀ ρ μ, P ρ μ → ∃ ρ1 ρ2 m2, g d ρ = some ρ1 ∧ B ρ1 μ = some (.nx ρ2 m2) ∧ P ρ2 m2) → ∀ ρ μ, P ρ μ → ∃ ρ' μ', loopF g B xs ρ μ = some (.nx ρ' μ') ∧ P ρ' μ'
  | [], _, ρ, μ, h => ⟨ρ, μ, rfl, h⟩
  | d :: r, hs, ρ, μ, h => by
    obtain ⟨ρ1, ρ2, m2, e1, e2, h2⟩ := hs d (by simp) ρ μ h
    obtain ⟨ρ', μ', e3, h3⟩ := loop_inv r (fun x hx => hs x (by simp [hx])) ρ2 m2 h2
    refine ⟨ρ', μ', ?_, h3⟩
    unfold loopF
    rw [e1]
    show (match B ρ1 μ with | some (.nx ρ2 m2) => loopF g B r ρ2 m2 | some (.ct ρ2 m2) => loopF g B r ρ2 m2 | some (.bk ρ2 m2) => some (.nx ρ2 m2) | some (.rt v m2) => some (.rt v m2) | none => none) = _
    rw [e2]
    exact e3
theorem e_pen {c : Int} (μ : Mu) : ∃ f : Int, m__law_pen [.dat (.int c)] μ = some ([.int c, .int f], μ) := by
  have hp : cPow 10 18 = true := decide_eq_true (by decide)
  have h2 : (2 : Nat) ≤ sizeLine := line_ge (by decide)
  refine ⟨if (decide ((10 : Int) ^ (Int.toNat 18) ≤ c)) = true then 1 else 0, ?_⟩
  unfold m__law_pen
  simp only [defM, fSeq, fIfS, fAnd, fOr, fNot, fB, fAndV, fOrV, fNotV, fIf, fIsi, tyD, fIsA, bnd, opt, fin, fChain, f2, fN, fCons, fNil, fVar, fC, g1, gI, gIC, fRet, fExpr, fCall, pNil, pDat, pNm, fAsg, gNm, gNo, gCo, gTu, fEnd, fFor, fSq, seqD, fSg, fLcD, fLc, fYes, fM1, gSS, fM0, fSl, fNo, fSome, rd, fNmB, fNm2, fNmI, fNmT, fNmJ, fNmS, sc, isSc, fSetI, fApp, fOwn, fLstF, fCatF, fRetO, fPar, fParO, fTru, truB, List.cons_append, List.nil_append, List.getElem?_cons_zero, List.getElem?_cons_succ, List.set_cons_zero, List.set_cons_succ, List.replicate, List.length_cons, List.length_nil, Nat.reduceAdd, Nat.reduceSub, if_true, if_false, Bool.false_eq_true, ↓reduceIte, List.append_nil, gTup0, gTup1, gTup2, gTup3, gLst0, gLst1, gLst2, gLst3, gLst4, gLst5, gLst10, isa_tt, isa_ts, isa_ti, isa_tn, isa_tl, isa_ss, isa_st, isa_si, isa_sn, isa_ii, isa_ib, isa_bi, isa_bb, isa_is, isa_in, isa_it, defF, hp, DL.intD, if_pos h2]
theorem e_cell {ns : List Int} (h : ns.length ≤ 63) (μ : Mu) : ∃ z : Int, m__law_cell [.dat (.list (ns.map PyData.int)), .dat (.int 0)] μ = some (.int z, μ) := by
  have hl : lenD (.list (ns.map PyData.int)) = some (.int ns.length) := by show some (PyData.int ((ns.map PyData.int).length : Nat)) = _; rw [List.length_map]
  cases ns with
  | nil =>
    refine ⟨0, ?_⟩
    have z : decide ((0 : Int) < ((0 : Nat) : Int)) = false := by decide
    unfold m__law_cell B__law_cell
    simp only [defM, fSeq, fIfS, fAnd, fOr, fNot, fB, fAndV, fOrV, fNotV, fIf, fIsi, tyD, fIsA, bnd, opt, fin, fChain, f2, fN, fCons, fNil, fVar, fC, g1, gI, gIC, fRet, fExpr, fCall, pNil, pDat, pNm, fAsg, gNm, gNo, gCo, gTu, fEnd, fFor, fSq, seqD, fSg, fLcD, fLc, fYes, fM1, gSS, fM0, fSl, fNo, fSome, rd, fNmB, fNm2, fNmI, fNmT, fNmJ, fNmS, sc, isSc, fSetI, fApp, fOwn, fLstF, fCatF, fRetO, fPar, fParO, fTru, truB, List.cons_append, List.nil_append, List.getElem?_cons_zero, List.getElem?_cons_succ, List.set_cons_zero, List.set_cons_succ, List.replicate, List.length_cons, List.length_nil, Nat.reduceAdd, Nat.reduceSub, if_true, if_false, Bool.false_eq_true, ↓reduceIte, List.append_nil, gTup0, gTup1, gTup2, gTup3, gLst0, gLst1, gLst2, gLst3, gLst4, gLst5, gLst10, isa_tt, isa_ts, isa_ti, isa_tn, isa_tl, isa_ss, isa_st, isa_si, isa_sn, isa_ii, isa_ib, isa_bi, isa_bb, isa_is, isa_in, isa_it, hl, z, List.take_length]
  | cons n r =>
    refine ⟨n, ?_⟩
    have z : (0 : Int) < ((n :: r).length : Nat) := by rw [List.length_cons]; omega
    have i0 : ixD (.list ((n :: r).map PyData.int)) (.int 0) = some (.int n) := by
      show (ixN ((n :: r).map PyData.int).length 0).bind _ = _
      unfold ixN
      rw [if_pos (by decide), if_pos (by rw [List.length_map]; exact z)]; rfl
    unfold m__law_cell B__law_cell
    simp only [List.length_cons] at hl z
    simp only [defM, fSeq, fIfS, fAnd, fOr, fNot, fB, fAndV, fOrV, fNotV, fIf, fIsi, tyD, fIsA, bnd, opt, fin, fChain, f2, fN, fCons, fNil, fVar, fC, g1, gI, gIC, fRet, fExpr, fCall, pNil, pDat, pNm, fAsg, gNm, gNo, gCo, gTu, fEnd, fFor, fSq, seqD, fSg, fLcD, fLc, fYes, fM1, gSS, fM0, fSl, fNo, fSome, rd, fNmB, fNm2, fNmI, fNmT, fNmJ, fNmS, sc, isSc, fSetI, fApp, fOwn, fLstF, fCatF, fRetO, fPar, fParO, fTru, truB, List.cons_append, List.nil_append, List.getElem?_cons_zero, List.getElem?_cons_succ, List.set_cons_zero, List.set_cons_succ, List.replicate, List.length_cons, List.length_nil, Nat.reduceAdd, Nat.reduceSub, if_true, if_false, Bool.false_eq_true, ↓reduceIte, List.append_nil, gTup0, gTup1, gTup2, gTup3, gLst0, gLst1, gLst2, gLst3, gLst4, gLst5, gLst10, isa_tt, isa_ts, isa_ti, isa_tn, isa_tl, isa_ss, isa_st, isa_si, isa_sn, isa_ii, isa_ib, isa_bi, isa_bb, isa_is, isa_in, isa_it, hl, z, decide_true, i0, List.take_length]
def kdB : FS := (fSeq (fAsg (fSl (fN (fCons (fC (.str "count")) (fCons (fC (.str "title")) (fCons (fC (.str "left")) (fCons (fC (.str "a")) (fCons (fC (.str "bb")) fNil))))) gLst) fNo (fSome (f2 (fC (.int (1))) (fCall m__law_draw (pNm 0 (pDat (fC (.int (5))) pNil))) gAdd))) (gNm 3))
  (fApp 1 (fN (fCons (fVar 2) (fCons (fN (fCons (fLcD (fSq (fVar 3)) (gNm 4) fYes (fN (fCons (fVar 4) (fCons (f2 (fN (fCons (fC (.str "number")) (fCons (fC (.str "text")) fNil)) gLst) (fCall m__law_draw (pNm 0 (pDat (fC (.int (2))) pNil))) ixD) fNil)) DL.gTup) [4]) fNil) (g1 tupleD)) fNil)) DL.gTup)))
def rlB : FS := (fSeq (fAsg (fCall m__law_pick (pNm 0 (pNm 1 pNil))) (gTu 2 (gCo (gNm 6) (gCo (gNm 7) gNo))))
  (fSeq (fAsg (fCall m__law_pick (pNm 0 (pDat (fN (fCons (fC (.str "")) (fCons (fC (.str "")) (fCons (f2 (f2 (fVar 7) (fCall m__law_draw (pNm 0 (pDat (fN (fCons (fVar 7) fNil) (g1 lenD)) pNil))) ixD) (fC (.int (0))) ixD) (fCons (fC (.str "count")) fNil)))) gLst) pNil))) (gNm 4))
  (fSeq (fAsg (fCall m__law_pick (pNm 0 (pDat (fN (fCons (fC (.str "all")) (fCons (fC (.str "known")) (fCons (fC (.str "own")) (fCons (fC (.str "own")) (fCons (fN (fCons (fC (.str "role")) (fCons (fC (.str "boss")) fNil)) DL.gTup) (fCons (fN (fCons (fC (.str "role")) (fCons (fC (.str "aid")) fNil)) DL.gTup) fNil)))))) gLst) pNil))) (gNm 5))
  (fApp 2 (fN (fCons (fVar 5) (fCons (fCall m__law_pick (pNm 0 (pDat (fN (fCons (fC (.str "see")) (fCons (fC (.str "see")) (fCons (fC (.str "see")) (fCons (fC (.str "add")) (fCons (fC (.str "change")) (fCons (fC (.str "remove")) fNil)))))) gLst) pNil))) (fCons (fVar 6) (fCons (fVar 4) fNil)))) DL.gTup)))))
theorem B_kinds_eq : B__law_kinds = fSeq (fOwn 1 (fLstF fNil)) (fSeq (fFor (fSq (fSl (fN (fCons (fC (.str "note")) (fCons (fC (.str "item")) (fCons (fC (.str "cat")) (fCons (fC (.str "z")) fNil)))) gLst) fNo (fSome (f2 (fC (.int (1))) (fCall m__law_draw (pNm 0 (pDat (fC (.int (4))) pNil))) gAdd)))) (gNm 2) kdB) (fRet (fNmT 1))) := rfl
theorem B_rules_eq : B__law_rules = fSeq (fOwn 2 (fLstF fNil)) (fSeq (fFor (fRg1 (fCall m__law_draw (pNm 0 (pDat (fC (.int (9))) pNil)))) (gNm 3) rlB) (fRet (fNmT 2))) := rfl
theorem loop_cnt {g : FG} {B : FS} {P : Nat → Rho → Mu → Prop} : ∀ (xs : List PyData) (n : Nat), (∀ d ∈ xs, ∀ i, i < n + xs.length → ∀ ρ μ, P i ρ μ → ∃ ρ1 ρ2 m2, g d ρ = some ρ1 ∧ B ρ1 μ = some (.nx ρ2 m2) ∧ P (i + 1) ρ2 m2) → ∀ ρ μ, P n ρ μ → ∃ ρ' μ', loopF g B xs ρ μ = some (.nx ρ' μ') ∧ P (n + xs.length) ρ' μ'
  | [], n, _, ρ, μ, h => ⟨ρ, μ, rfl, h⟩
  | d :: r, n, hs, ρ, μ, h => by
    obtain ⟨ρ1, ρ2, m2, e1, e2, h2⟩ := hs d (by simp) n (by simp) ρ μ h
    obtain ⟨ρ', μ', e3, h3⟩ := loop_cnt r (n + 1) (fun x hx i hi => hs x (by simp [hx]) i (by simp only [List.length_cons]; omega)) ρ2 m2 h2
    refine ⟨ρ', μ', ?_, by have e : n + (d :: r).length = n + 1 + r.length := by simp only [List.length_cons]; omega
                           rw [e]; exact h3⟩
    unfold loopF
    rw [e1]
    show (match B ρ1 μ with | some (.nx ρ2 m2) => loopF g B r ρ2 m2 | some (.ct ρ2 m2) => loopF g B r ρ2 m2 | some (.bk ρ2 m2) => some (.nx ρ2 m2) | some (.rt v m2) => some (.rt v m2) | none => none) = _
    rw [e2]
    exact e3
theorem cut_take (ds : List PyData) {v : Int} (h : 0 ≤ v) : slD (.list ds) none (some v) = some (.list (ds.take v.toNat)) := by
  show some (PyData.list (DL.cutD ds none (some v))) = _
  unfold DL.cutD
  have e1 : HT.sIx ds.length ds.length (some v) = min v.toNat ds.length := by
    show (if v < 0 then _ else _) = _
    rw [if_neg (by omega)]
  rw [HT.sIx_none, e1]
  congr 2
  rw [List.drop_zero, Nat.sub_zero]
  rw [List.take_eq_take_iff]
  omega
end Law
namespace Law
open PySem PySem.Spec PyProof.Rows L2 DL
local instance : Tabs := ⟨[]⟩
theorem gLst6 (a b c d e f : PyData) : gLst [a, b, c, d, e, f] = some (.list [a, b, c, d, e, f]) := gLst_ok (by simp)
theorem gTup4 (a b c d : PyData) : DL.gTup [a, b, c, d] = some (.tuple [a, b, c, d]) := gTup_ok (by simp)
theorem gA {i j : Int} : gAdd (.int i) (.int j) = some (.int (i + j)) := rfl
structure Fd where
  n : Str
  t : Bool
structure Kd where
  n : Str
  fs : List Fd
def srS (b : Bool) : Str := if b then "text" else "number"
def fdD (f : Fd) : PyData := .tuple [.str f.n, .str (srS f.t)]
def kdD (k : Kd) : PyData := .tuple [.str k.n, .tuple (k.fs.map fdD)]
def flN : List Str := ["count", "title", "left", "a", "bb"]
structure KdOk (k : Kd) : Prop where
  n : k.n ∈ kL
  fs : ∃ m, 1 ≤ m ∧ m ≤ 5 ∧ k.fs.map Fd.n = flN.take m
structure KsOk (ks : List Kd) : Prop where
  ns : ∃ c, 1 ≤ c ∧ c ≤ 4 ∧ ks.map Kd.n = kL.take c
  ok : ∀ k ∈ ks, KdOk k
def flS : List PyData := [.str "count", .str "title", .str "left", .str "a", .str "bb"]
theorem lcF_rel {α : Type} {mk : α → PyData} {g : FG} {te : FE} {ρ : Rho} {Q : Mu → Prop} {R : Str → α → Prop} : ∀ (ns : List Str), (∀ d ∈ ns, ∀ m, Q m → ∃ ρ1 a m', g (.str d) ρ = some ρ1 ∧ te ρ1 m = some (mk a, m') ∧ Q m' ∧ R d a) →
    ∀ m, Q m → ∃ as m', lcF g fYes te ρ (ns.map PyData.str) m = some (as.map mk, m') ∧ Q m' ∧ Paired R ns as
  | [], _, m, h => ⟨[], m, rfl, h, .nil⟩
  | d :: r, hs, m, h => by
    obtain ⟨ρ1, y, m1, e1, e2, h1, hy⟩ := hs d (by simp) m h
    obtain ⟨ys, m2, e3, h2, hr⟩ := lcF_rel (mk := mk) r (fun x hx => hs x (by simp [hx])) m1 h1
    refine ⟨y :: ys, m2, ?_, h2, .cons hy hr⟩
    rw [List.map_cons]
    unfold lcF
    rw [e1]
    show bnd (te ρ1 m) _ = _
    rw [e2]
    show bnd (lcF g fYes te ρ _ m1) _ = _
    rw [e3]
    rfl
theorem loop_rel {g : FG} {B : FS} {P : List Str → Rho → Mu → Prop} : ∀ (xs pre : List Str), (∀ p d q, xs = p ++ d :: q → ∀ ρ μ, P (pre ++ p) ρ μ → ∃ ρ1 ρ2 m2, g (.str d) ρ = some ρ1 ∧ B ρ1 μ = some (.nx ρ2 m2) ∧ P (pre ++ p ++ [d]) ρ2 m2) →
    ∀ ρ μ, P pre ρ μ → ∃ ρ' μ', loopF g B (xs.map PyData.str) ρ μ = some (.nx ρ' μ') ∧ P (pre ++ xs) ρ' μ'
  | [], pre, _, ρ, μ, h => ⟨ρ, μ, rfl, by rw [List.append_nil]; exact h⟩
  | d :: r, pre, hs, ρ, μ, h => by
    obtain ⟨ρ1, ρ2, m2, e1, e2, h2⟩ := hs [] d r rfl ρ μ (by rw [List.append_nil]; exact h)
    rw [List.append_nil] at h2
    obtain ⟨ρ', μ', e3, h3⟩ := loop_rel r (pre ++ [d]) (fun p x q e ρ μ hP => by
      obtain ⟨a, b, c, z1, z2, z3⟩ := hs (d :: p) x q (by rw [e]; rfl) ρ μ (by simpa using hP)
      exact ⟨a, b, c, z1, z2, by simpa using z3⟩) ρ2 m2 h2
    refine ⟨ρ', μ', ?_, by simpa using h3⟩
    rw [List.map_cons]
    unfold loopF
    rw [e1]
    show (match B ρ1 μ with | some (.nx ρ2 m2) => loopF g B _ ρ2 m2 | some (.ct ρ2 m2) => loopF g B _ ρ2 m2 | some (.bk ρ2 m2) => some (.nx ρ2 m2) | some (.rt v m2) => some (.rt v m2) | none => none) = _
    rw [e2]
    exact e3
theorem pr_map {α β : Type} {f : β → α} : ∀ {xs : List α} {ys : List β}, Paired (fun a b => f b = a) xs ys → ys.map f = xs
  | _, _, .nil => rfl
  | _, _, .cons h t => by rw [List.map_cons, h, pr_map t]
theorem kd_turn {base t : Mu} {x f : Int} {acc : List PyData} {nm : Str} (hn : nm ∈ kL) (ha : acc.length ≤ 100) {s3 s4 : Sl} : ∃ k x' t3, k.n = nm ∧ KdOk k ∧
    kdB [.own base.length, .own (base.length + (t.length + 1)), .dat (.str nm), s3, s4] (base ++ [.int x, .int f] :: (t ++ [acc])) = some (.nx [.own base.length, .own (base.length + (t.length + 1)), .dat (.str nm), t3, s4] (base ++ [.int x', .int f] :: (t ++ [acc ++ [kdD k]]))) := by
  obtain ⟨d, x1, h0, h1, e1⟩ := e_draw (base := base) (t := t ++ [acc]) (x := x) (f := f) (n := 5) (by decide) (by decide)
  have ec := cut_take flS (v := 1 + d) (by omega)
  have hl : (flS.take (1 + d).toNat).length = (1 + d).toNat := by rw [List.length_take]; show min _ 5 = _; omega
  have hl2 : (flS.take (1 + d).toNat).length ≤ sizeLine := by rw [hl]; exact line_ge (by omega)
  have ef : flS.take (1 + d).toNat = (flN.take (1 + d).toNat).map PyData.str := by rw [List.map_take]; rfl
  obtain ⟨fs, m2, e2, ⟨x2, hm2⟩, hy⟩ := lcF_rel (mk := fdD) (g := gNm 4) (te := fN (fCons (fVar 4) (fCons (f2 (fN (fCons (fC (.str "number")) (fCons (fC (.str "text")) fNil)) gLst) (fCall m__law_draw (pNm 0 (pDat (fC (.int (2))) pNil))) ixD) fNil)) DL.gTup)
    (ρ := wipeR [.own base.length, .own (base.length + (t.length + 1)), .dat (.str nm), .dat (.list (flS.take (1 + d).toNat)), s4] [4]) (Q := fun m => ∃ x, m = base ++ [.int x, .int f] :: (t ++ [acc])) (R := fun a b => Fd.n b = a) (flN.take (1 + d).toNat) (fun z hz m hm => by
      obtain ⟨x, rfl⟩ := hm
      obtain ⟨k, x', k0, k1, ek⟩ := e_draw (base := base) (t := t ++ [acc]) (x := x) (f := f) (n := 2) (by decide) (by decide)
      have ei : ∃ b : Bool, ixD (.list [.str "number", .str "text"]) (.int k) = some (.str (srS b)) := by
        have : k = 0 ∨ k = 1 := by omega
        rcases this with rfl | rfl
        · exact ⟨false, rfl⟩
        · exact ⟨true, rfl⟩
      obtain ⟨b, es⟩ := ei
      exact ⟨_, ⟨z, b⟩, _, rfl, by simp only [defM, fSeq, fIfS, fAnd, fOr, fNot, fB, fAndV, fOrV, fNotV, fIf, fIsi, tyD, fIsA, bnd, opt, fin, fChain, f2, fN, fCons, fNil, fVar, fC, g1, gI, gIC, fRet, fExpr, fCall, pNil, pDat, pNm, fAsg, gNm, gNo, gCo, gTu, fEnd, fFor, fSq, seqD, fSg, fLcD, fLc, fYes, fM1, gSS, fM0, fSl, fNo, fSome, rd, fNmB, fNm2, fNmI, fNmT, fNmJ, fNmS, sc, isSc, fSetI, fApp, fOwn, fLstF, fCatF, fRetO, fPar, fParO, fTru, truB, List.cons_append, List.nil_append, List.getElem?_cons_zero, List.getElem?_cons_succ, List.set_cons_zero, List.set_cons_succ, List.replicate, List.length_cons, List.length_nil, Nat.reduceAdd, Nat.reduceSub, if_true, if_false, Bool.false_eq_true, ↓reduceIte, List.append_nil, gTup0, gTup1, gTup2, gTup3, gLst0, gLst1, gLst2, gLst3, gLst4, gLst5, gLst10, isa_tt, isa_ts, isa_ti, isa_tn, isa_tl, isa_ss, isa_st, isa_si, isa_sn, isa_ii, isa_ib, isa_bi, isa_bb, isa_is, isa_in, isa_it, wipeR, ek, es]; rfl, ⟨x', rfl⟩, rfl⟩) (base ++ [.int x1, .int f] :: (t ++ [acc])) ⟨x1, rfl⟩
  subst hm2
  refine ⟨⟨nm, fs⟩, x2, .dat (.list (flS.take (1 + d).toNat)), rfl, ⟨hn, (1 + d).toNat, by omega, by omega, pr_map hy⟩, ?_⟩
  have hz : acc.length < sizeLine := Nat.lt_of_lt_of_le (show acc.length < 101 by omega) (by decide)
  rw [← ef] at e2
  unfold kdB
  unfold flS at ec e2 hl2
  simp only [defM, fSeq, fIfS, fAnd, fOr, fNot, fB, fAndV, fOrV, fNotV, fIf, fIsi, tyD, fIsA, bnd, opt, fin, fChain, f2, fN, fCons, fNil, fVar, fC, g1, gI, gIC, fRet, fExpr, fCall, pNil, pDat, pNm, fAsg, gNm, gNo, gCo, gTu, fEnd, fFor, fSq, seqD, fSg, fLcD, fLc, fYes, fM1, gSS, fM0, fSl, fNo, fSome, rd, fNmB, fNm2, fNmI, fNmT, fNmJ, fNmS, sc, isSc, fSetI, fApp, fOwn, fLstF, fCatF, fRetO, fPar, fParO, fTru, truB, List.cons_append, List.nil_append, List.getElem?_cons_zero, List.getElem?_cons_succ, List.set_cons_zero, List.set_cons_succ, List.replicate, List.length_cons, List.length_nil, Nat.reduceAdd, Nat.reduceSub, if_true, if_false, Bool.false_eq_true, ↓reduceIte, List.append_nil, gTup0, gTup1, gTup2, gTup3, gLst0, gLst1, gLst2, gLst3, gLst4, gLst5, gLst10, isa_tt, isa_ts, isa_ti, isa_tn, isa_tl, isa_ss, isa_st, isa_si, isa_sn, isa_ii, isa_ib, isa_bi, isa_bb, isa_is, isa_in, isa_it, gA, e1, ec, if_pos hl2, e2, tupleD, g_acc, s_acc, if_pos hz]
  rfl
theorem e_kinds {base t : Mu} {x f : Int} : ∃ ks x', KsOk ks ∧ m__law_kinds [.own base.length] (base ++ [.int x, .int f] :: t) = some (.tuple (ks.map kdD), base ++ [.int x', .int f] :: t) := by
  obtain ⟨d, x1, h0, h1, e1⟩ := e_draw (base := base) (t := t ++ [[]]) (x := x) (f := f) (n := 4) (by decide) (by decide)
  have ec := cut_take [.str "note", .str "item", .str "cat", .str "z"] (v := 1 + d) (by omega)
  have ef : ([.str "note", .str "item", .str "cat", .str "z"] : List PyData).take (1 + d).toNat = (kL.take (1 + d).toNat).map PyData.str := by rw [List.map_take]; rfl
  have hz : (0 : Nat) ≤ sizeLine := Nat.zero_le _
  obtain ⟨ρ', m', e2, hP⟩ := loop_rel (g := gNm 2) (B := kdB) (P := fun ns ρ μ => ∃ (x : Int) (ks : List Kd) (t2 t3 t4 : Sl), ρ = [.own base.length, .own (base.length + (t.length + 1)), t2, t3, t4] ∧ μ = base ++ [.int x, .int f] :: (t ++ [ks.map kdD]) ∧ ks.map Kd.n = ns ∧ ∀ y ∈ ks, KdOk y)
    (kL.take (1 + d).toNat) [] (fun p z q hpq ρ μ hP => by
      obtain ⟨x, ks, t2, t3, t4, rfl, rfl, hns, hk⟩ := hP
      have hmem : z ∈ kL.take (1 + d).toNat := by rw [hpq]; simp
      have hlen : p.length ≤ 4 := by
        have h5 := congrArg List.length hpq
        rw [List.length_take, List.length_append] at h5
        have : kL.length = 4 := rfl
        omega
      have hkl : (ks.map kdD).length ≤ 100 := by
        have := congrArg List.length hns
        rw [List.length_map] at this ⊢
        simp at this
        omega
      obtain ⟨k, x', t3', hkn, hko, e⟩ := kd_turn (base := base) (t := t) (x := x) (f := f) (acc := ks.map kdD) (List.mem_of_mem_take hmem) hkl (s3 := t3) (s4 := t4)
      refine ⟨_, _, _, rfl, e, x', ks ++ [k], _, t3', t4, rfl, by simp, by rw [List.map_append, hns]; simp [hkn], fun w hw => ?_⟩
      rcases List.mem_append.mp hw with hw | hw
      · exact hk w hw
      · rw [List.mem_singleton.mp hw]; exact hko) [.own base.length, .own (base.length + (t.length + 1)), .un, .un, .un] (base ++ [.int x1, .int f] :: (t ++ [[]])) ⟨x1, [], _, _, _, rfl, rfl, rfl, fun _ z => by cases z⟩
  obtain ⟨x2, ks, t2, t3, t4, rfl, rfl, hns, hk⟩ := hP
  refine ⟨ks, x2, ⟨⟨(1 + d).toNat, by omega, by omega, by simpa using hns⟩, hk⟩, ?_⟩
  unfold m__law_kinds
  rw [B_kinds_eq]
  rw [ef] at ec
  simp only [defM, fSeq, fIfS, fAnd, fOr, fNot, fB, fAndV, fOrV, fNotV, fIf, fIsi, tyD, fIsA, bnd, opt, fin, fChain, f2, fN, fCons, fNil, fVar, fC, g1, gI, gIC, fRet, fExpr, fCall, pNil, pDat, pNm, fAsg, gNm, gNo, gCo, gTu, fEnd, fFor, fSq, seqD, fSg, fLcD, fLc, fYes, fM1, gSS, fM0, fSl, fNo, fSome, rd, fNmB, fNm2, fNmI, fNmT, fNmJ, fNmS, sc, isSc, fSetI, fApp, fOwn, fLstF, fCatF, fRetO, fPar, fParO, fTru, truB, List.cons_append, List.nil_append, List.getElem?_cons_zero, List.getElem?_cons_succ, List.set_cons_zero, List.set_cons_succ, List.replicate, List.length_cons, List.length_nil, Nat.reduceAdd, Nat.reduceSub, if_true, if_false, Bool.false_eq_true, ↓reduceIte, List.append_nil, gTup0, gTup1, gTup2, gTup3, gLst0, gLst1, gLst2, gLst3, gLst4, gLst5, gLst10, isa_tt, isa_ts, isa_ti, isa_tn, isa_tl, isa_ss, isa_st, isa_si, isa_sn, isa_ii, isa_ib, isa_bi, isa_bb, isa_is, isa_in, isa_it, if_pos hz, ln, st1, gA, e1, ec, e2, fNmT, g_acc, tk1]
def FdOk (y : PyData) : Prop := ∃ (f : Str) (s : PyData), y = .tuple [.str f, s] ∧ f ∈ fL
structure KOk (d : PyData) : Prop where
  ex : ∃ (nm : Str) (fs : List PyData), d = .tuple [.str nm, .tuple fs] ∧ nm ∈ kL ∧ 1 ≤ fs.length ∧ fs.length ≤ 5 ∧ ∀ y ∈ fs, FdOk y
theorem fl_in : ∀ x ∈ flN, x ∈ fL := by decide +kernel
theorem kd_len {k : Kd} (h : KdOk k) : 1 ≤ k.fs.length ∧ k.fs.length ≤ 5 := by
  obtain ⟨m, h1, h5, e⟩ := h.fs
  have := congrArg List.length e
  rw [List.length_map, List.length_take] at this
  have : flN.length = 5 := rfl
  omega
theorem kd_kok {k : Kd} (h : KdOk k) : KOk (kdD k) := by
  have hl := kd_len h
  obtain ⟨m, h1, h5, e⟩ := h.fs
  refine ⟨k.n, k.fs.map fdD, rfl, h.n, by rw [List.length_map]; exact hl.1, by rw [List.length_map]; exact hl.2, fun y hy => ?_⟩
  obtain ⟨fd, hfd, rfl⟩ := List.mem_map.mp hy
  refine ⟨fd.n, _, rfl, fl_in _ (List.mem_of_mem_take (i := m) ?_)⟩
  rw [← e]; exact List.mem_map_of_mem hfd
theorem rl_turn {base t : Mu} {x f : Int} {acc ks : List PyData} (hk : ∀ y ∈ ks, KOk y) (h1 : 1 ≤ ks.length) (h4 : ks.length ≤ 4) (ha : acc.length ≤ 100) {s3 s4 s5 s6 s7 : Sl} : ∃ r x' t4 t5 t6 t7, RwOk r ∧
    rlB [.own base.length, .dat (.tuple ks), .own (base.length + (t.length + 1)), s3, s4, s5, s6, s7] (base ++ [.int x, .int f] :: (t ++ [acc])) = some (.nx [.own base.length, .dat (.tuple ks), .own (base.length + (t.length + 1)), s3, t4, t5, t6, t7] (base ++ [.int x', .int f] :: (t ++ [acc ++ [rwD r]]))) := by
  obtain ⟨y, hy, x1, e1⟩ := e_pickT (base := base) (t := t ++ [acc]) (x := x) (f := f) (ds := ks) h1 (by omega)
  obtain ⟨nm, fs, rfl, hn, hf1, hf5, hfs⟩ := (hk y hy).ex
  obtain ⟨d, x2, d0, d1, e2⟩ := e_draw (base := base) (t := t ++ [acc]) (x := x1) (f := f) (n := fs.length) (by omega) (by omega)
  obtain ⟨z, hz, ez⟩ := at_ok (ds := fs) d0 d1
  obtain ⟨fn, sn, rfl, hfn⟩ := hfs z hz
  have ez' : ixD (.tuple fs) (.int d) = some (.tuple [.str fn, sn]) := ez
  have i0 : ixD (.tuple [.str fn, sn]) (.int 0) = some (.str fn) := rfl
  obtain ⟨u, hu, x3, e3⟩ := e_pick (base := base) (t := t ++ [acc]) (x := x2) (f := f) (ds := [.str "", .str "", .str fn, .str "count"]) (by simp) (by simp)
  have hu' : ∃ g : Str, u = .str g ∧ g ∈ fL := by
    simp only [List.mem_cons, List.not_mem_nil, or_false] at hu
    rcases hu with rfl | rfl | rfl | rfl
    · exact ⟨_, rfl, by decide +kernel⟩
    · exact ⟨_, rfl, by decide +kernel⟩
    · exact ⟨_, rfl, hfn⟩
    · exact ⟨_, rfl, by decide +kernel⟩
  obtain ⟨g, rfl, hg⟩ := hu'
  obtain ⟨w, hw, x4, e4⟩ := e_pick (base := base) (t := t ++ [acc]) (x := x3) (f := f) (ds := [.str "all", .str "known", .str "own", .str "own", .tuple [.str "role", .str "boss"], .tuple [.str "role", .str "aid"]]) (by simp) (by simp)
  have hw' : ∃ i < 5, w = whoD i := by
    simp only [List.mem_cons, List.not_mem_nil, or_false] at hw
    rcases hw with rfl | rfl | rfl | rfl | rfl | rfl
    · exact ⟨0, by decide, rfl⟩
    · exact ⟨1, by decide, rfl⟩
    · exact ⟨2, by decide, rfl⟩
    · exact ⟨2, by decide, rfl⟩
    · exact ⟨3, by decide, rfl⟩
    · exact ⟨4, by decide, rfl⟩
  obtain ⟨i, hi, rfl⟩ := hw'
  obtain ⟨v, hv, x5, e5⟩ := e_pick (base := base) (t := t ++ [acc]) (x := x4) (f := f) (ds := [.str "see", .str "see", .str "see", .str "add", .str "change", .str "remove"]) (by simp) (by simp)
  have hv' : ∃ g : Str, v = .str g ∧ g ∈ dL := by
    simp only [List.mem_cons, List.not_mem_nil, or_false] at hv
    rcases hv with rfl | rfl | rfl | rfl | rfl | rfl
    · exact ⟨_, rfl, by decide +kernel⟩
    · exact ⟨_, rfl, by decide +kernel⟩
    · exact ⟨_, rfl, by decide +kernel⟩
    · exact ⟨_, rfl, by decide +kernel⟩
    · exact ⟨_, rfl, by decide +kernel⟩
    · exact ⟨_, rfl, by decide +kernel⟩
  obtain ⟨v, rfl, hvd⟩ := hv'
  have hz : acc.length < sizeLine := Nat.lt_of_lt_of_le (show acc.length < 101 by omega) (by decide)
  refine ⟨⟨i, v, nm, g⟩, x5, .dat (.str g), .dat (whoD i), .dat (.str nm), .dat (.tuple fs), ⟨hi, hvd, hn, hg⟩, ?_⟩
  unfold rlB rwD
  simp only [defM, fSeq, fIfS, fAnd, fOr, fNot, fB, fAndV, fOrV, fNotV, fIf, fIsi, tyD, fIsA, bnd, opt, fin, fChain, f2, fN, fCons, fNil, fVar, fC, g1, gI, gIC, fRet, fExpr, fCall, pNil, pDat, pNm, fAsg, gNm, gNo, gCo, gTu, fEnd, fFor, fSq, seqD, fSg, fLcD, fLc, fYes, fM1, gSS, fM0, fSl, fNo, fSome, rd, fNmB, fNm2, fNmI, fNmT, fNmJ, fNmS, sc, isSc, fSetI, fApp, fOwn, fLstF, fCatF, fRetO, fPar, fParO, fTru, truB, List.cons_append, List.nil_append, List.getElem?_cons_zero, List.getElem?_cons_succ, List.set_cons_zero, List.set_cons_succ, List.replicate, List.length_cons, List.length_nil, Nat.reduceAdd, Nat.reduceSub, if_true, if_false, Bool.false_eq_true, ↓reduceIte, List.append_nil, gTup0, gTup1, gTup2, gTup3, gLst0, gLst1, gLst2, gLst3, gLst4, gLst5, gLst10, isa_tt, isa_ts, isa_ti, isa_tn, isa_tl, isa_ss, isa_st, isa_si, isa_sn, isa_ii, isa_ib, isa_bi, isa_bb, isa_is, isa_in, isa_it, e1, lenD, e2, ez', i0, e3, gLst6, e4, e5, gTup4, g_acc, s_acc, if_pos hz]
theorem e_lrules {base t : Mu} {x f : Int} {ks : List PyData} (hk : ∀ y ∈ ks, KOk y) (h1 : 1 ≤ ks.length) (h4 : ks.length ≤ 4) : ∃ (rs : List Rw) (x' : Int), (∀ r ∈ rs, RwOk r) ∧ rs.length ≤ 8 ∧ m__law_rules [.own base.length, .dat (.tuple ks)] (base ++ [.int x, .int f] :: t) = some (.tuple (rs.map rwD), base ++ [.int x', .int f] :: t) := by
  obtain ⟨d, x1, d0, d1, e1⟩ := e_draw (base := base) (t := t ++ [[]]) (x := x) (f := f) (n := 9) (by decide) (by decide)
  have hr : -(2 ^ 62) ≤ d ∧ d < 2 ^ 62 := by omega
  have hz : (0 : Nat) ≤ sizeLine := Nat.zero_le _
  have hl : (rgD 0 d.toNat).length = d.toNat := by unfold rgD; simp
  obtain ⟨ρ', m', e2, hP⟩ := loop_cnt (g := gNm 3) (B := rlB) (P := fun i ρ μ => ∃ (x : Int) (rs : List Rw) (t3 t4 t5 t6 t7 : Sl), ρ = [.own base.length, .dat (.tuple ks), .own (base.length + (t.length + 1)), t3, t4, t5, t6, t7] ∧ μ = base ++ [.int x, .int f] :: (t ++ [rs.map rwD]) ∧ rs.length = i ∧ ∀ r ∈ rs, RwOk r)
    (rgD 0 d.toNat) 0 (fun y hy i hi ρ μ hP => by
      obtain ⟨x, rs, t3, t4, t5, t6, t7, rfl, rfl, rfl, hr⟩ := hP
      rw [hl] at hi
      obtain ⟨r, x', t4', t5', t6', t7', hz, e⟩ := rl_turn (base := base) (t := t) (x := x) (f := f) (acc := rs.map rwD) hk h1 h4 (by rw [List.length_map]; omega) (s3 := .dat y) (s4 := t4) (s5 := t5) (s6 := t6) (s7 := t7)
      refine ⟨_, _, _, rfl, e, x', rs ++ [r], _, _, _, _, _, rfl, by simp, by simp, fun w hw => ?_⟩
      rcases List.mem_append.mp hw with hw | hw
      · exact hr w hw
      · rw [List.mem_singleton.mp hw]; exact hz) [.own base.length, .dat (.tuple ks), .own (base.length + (t.length + 1)), .un, .un, .un, .un, .un] (base ++ [.int x1, .int f] :: (t ++ [[]])) ⟨x1, [], _, _, _, _, _, rfl, rfl, rfl, fun _ z => by cases z⟩
  obtain ⟨x2, rs, t3, t4, t5, t6, t7, rfl, rfl, hlen, hk⟩ := hP
  rw [hl] at hlen
  refine ⟨rs, x2, hk, by omega, ?_⟩
  unfold m__law_rules
  rw [B_rules_eq]
  simp only [defM, fSeq, fIfS, fAnd, fOr, fNot, fB, fAndV, fOrV, fNotV, fIf, fIsi, tyD, fIsA, bnd, opt, fin, fChain, f2, fN, fCons, fNil, fVar, fC, g1, gI, gIC, fRet, fExpr, fCall, pNil, pDat, pNm, fAsg, gNm, gNo, gCo, gTu, fEnd, fFor, fSq, seqD, fSg, fLcD, fLc, fYes, fM1, gSS, fM0, fSl, fNo, fSome, rd, fNmB, fNm2, fNmI, fNmT, fNmJ, fNmS, sc, isSc, fSetI, fApp, fOwn, fLstF, fCatF, fRetO, fPar, fParO, fTru, truB, List.cons_append, List.nil_append, List.getElem?_cons_zero, List.getElem?_cons_succ, List.set_cons_zero, List.set_cons_succ, List.replicate, List.length_cons, List.length_nil, Nat.reduceAdd, Nat.reduceSub, if_true, if_false, Bool.false_eq_true, ↓reduceIte, List.append_nil, gTup0, gTup1, gTup2, gTup3, gLst0, gLst1, gLst2, gLst3, gLst4, gLst5, gLst10, isa_tt, isa_ts, isa_ti, isa_tn, isa_tl, isa_ss, isa_st, isa_si, isa_sn, isa_ii, isa_ib, isa_bi, isa_bb, isa_is, isa_in, isa_it, if_pos hz, ln, st1, fRg1, e1, if_pos hr, e2, fNmT, g_acc, tk1]
end Law
namespace Law
open PySem PySem.Spec PyProof.Rows L2 DL
local instance : Tabs := ⟨[]⟩
theorem uqs_nd : ∀ (xs acc : List Str), (acc ++ xs).Nodup → uqs acc xs = acc ++ xs
  | [], acc, _ => by simp [uqs]
  | x :: r, acc, h => by
    have hx : x ∉ acc := fun z => by
      have := (List.nodup_append.mp h).2.2 x z x (by simp)
      exact this rfl
    unfold uqs
    rw [if_neg hx, uqs_nd r (acc ++ [x]) (by simpa using h)]
    simp
theorem e_unlike {xs : List Str} (h : xs.Nodup) (hl : xs.length ≤ 1000) (μ : Mu) : m_are_unlike [.dat (.list (xs.map PyData.str))] μ = some (.bool true, μ) := by
  have h1 : lenSetD (.list (xs.map PyData.str)) = some (.int xs.length) := by
    show opt (strsOf (xs.map PyData.str)) _ = _
    rw [strsOf_map]
    show (if xs.length + 1 < scanBound then _ else _) = _
    rw [if_pos (by show xs.length + 1 < 4096; omega), uqs_nd xs [] (by simpa using h)]; rfl
  unfold m_are_unlike B_are_unlike
  simp only [defM, fSeq, fIfS, fAnd, fOr, fNot, fB, fAndV, fOrV, fNotV, fIf, fIsi, tyD, fIsA, bnd, opt, fin, fChain, f2, fN, fCons, fNil, fVar, fC, g1, gI, gIC, fRet, fExpr, fCall, pNil, pDat, pNm, fAsg, gNm, gNo, gCo, gTu, fEnd, fFor, fSq, seqD, fSg, fLcD, fLc, fYes, fM1, gSS, fM0, fSl, fNo, fSome, rd, fNmB, fNm2, fNmI, fNmT, fNmJ, fNmS, sc, isSc, fSetI, fApp, fOwn, fLstF, fCatF, fRetO, fPar, fParO, fTru, truB, List.cons_append, List.nil_append, List.getElem?_cons_zero, List.getElem?_cons_succ, List.set_cons_zero, List.set_cons_succ, List.replicate, List.length_cons, List.length_nil, Nat.reduceAdd, Nat.reduceSub, if_true, if_false, Bool.false_eq_true, ↓reduceIte, List.append_nil, gTup0, gTup1, gTup2, gTup3, gLst0, gLst1, gLst2, gLst3, gLst4, gLst5, gLst10, isa_tt, isa_ts, isa_ti, isa_tn, isa_tl, isa_ss, isa_st, isa_si, isa_sn, isa_ii, isa_ib, isa_bi, isa_bb, isa_is, isa_in, isa_it, fLenSet, h1, lenD, List.length_map, gEq, eqB, decide_true, List.take_length]
theorem lc_map {α : Type} {mk f : α → PyData} {g : FG} {te : FE} {ρ : Rho} {m : Mu} (xs : List α) (h : ∀ a ∈ xs, ∃ ρ1, g (mk a) ρ = some ρ1 ∧ te ρ1 m = some (f a, m)) : lcF g fYes te ρ (xs.map mk) m = some (xs.map f, m) := by
  induction xs with
  | nil => rfl
  | cons a r ih =>
    obtain ⟨ρ1, e1, e2⟩ := h a (by simp)
    rw [List.map_cons]
    unfold lcF
    rw [e1]
    show bnd (te ρ1 m) _ = _
    rw [e2]
    show bnd (lcF g fYes te ρ _ m) _ = _
    rw [ih fun x hx => h x (by simp [hx])]
    rfl
theorem loopF_nx {g : FG} {B : FS} {d : PyData} {r : List PyData} {ρ ρ1 ρ2 : Rho} {μ m : Mu} (h1 : g d ρ = some ρ1) (h2 : B ρ1 μ = some (.nx ρ2 m)) : loopF g B (d :: r) ρ μ = loopF g B r ρ2 m := by
  rw [loopF]; simp only [h1, opt, h2]
theorem lc_filt {α : Type} {mk f : α → PyData} {g : FG} {tt : FT} {te : FE} {ρ : Rho} {m : Mu} {p : α → Bool} (xs : List α) (h : ∀ a ∈ xs, ∃ ρ1, g (mk a) ρ = some ρ1 ∧ tt ρ1 m = some (p a, m) ∧ (p a = true → te ρ1 m = some (f a, m))) : lcF g tt te ρ (xs.map mk) m = some ((xs.filter p).map f, m) := by
  induction xs with
  | nil => rfl
  | cons a r ih =>
    obtain ⟨ρ1, e1, e2, e3⟩ := h a (by simp)
    have ih := ih fun x hx => h x (by simp [hx])
    rw [List.map_cons]
    unfold lcF
    rw [e1]
    show bnd (tt ρ1 m) _ = _
    rw [e2]
    show (if p a = true then _ else _) = _
    cases hp : p a with
    | true =>
      rw [if_pos rfl, e3 hp]
      show bnd (lcF g tt te ρ _ m) _ = _
      rw [ih, List.filter_cons, if_pos hp]
      rfl
    | false => rw [if_neg (by decide), ih, List.filter_cons, if_neg (by rw [hp]; decide)]
end Law
namespace Law
open PySem PySem.Spec PyProof.Rows L2 DL
local instance : Tabs := ⟨[]⟩
structure Rp (d : PyData) (n k : Nat) : Prop where
  lay : d.canLay0 = true
  ish : d.intsShort 13 = true
  sh : d.showable = true
  wt : d.weight ≤ n
  dp : d.depth ≤ k
theorem Rp.mono {d : PyData} {n k n' k' : Nat} (h : Rp d n k) (hn : n ≤ n') (hk : k ≤ k') : Rp d n' k' := ⟨h.lay, h.ish, h.sh, Nat.le_trans h.wt hn, Nat.le_trans h.dp hk⟩
theorem Rp.repr {d : PyData} {n k : Nat} (h : Rp d n k) (hn : n ≤ 1000000) (hk : k ≤ 32) : reprD d = some (.str d.shown) := by
  have h1 : d.shown.length ≤ sizeLine := PyData.shown_fits (B := 13) (by decide) (by decide) (PyData.leavesShort_of_canLay0 13 d h.lay h.ish) (Nat.le_trans h.wt (Nat.le_trans hn (by decide)))
  have h2 : d.hasDict = false := PyData.hasDict_of_canLay _ h.lay
  unfold reprD reprB
  rw [h.sh, h2, decide_eq_true h1, decide_eq_true (Nat.le_trans h.dp hk)]; rfl
theorem rp_all {n k : Nat} : ∀ {ds : List PyData}, (∀ d ∈ ds, Rp d n k) → PyData.canLayAll0 ds = true ∧ PyData.intsShortAll 13 ds = true ∧ PyData.showableAll ds = true ∧ PyData.weightAll ds ≤ ds.length * (n + 1) ∧ PyData.depthAll ds ≤ k
  | [], _ => ⟨rfl, rfl, rfl, Nat.zero_le _, Nat.zero_le _⟩
  | d :: r, h => by
    obtain ⟨a1, a2, a3, a4, a5⟩ := rp_all (ds := r) fun x hx => h x (by simp [hx])
    have hd := h d (by simp)
    refine ⟨?_, ?_, ?_, ?_, ?_⟩
    · unfold PyData.canLayAll0; rw [hd.lay, a1]; rfl
    · unfold PyData.intsShortAll; rw [hd.ish, a2]; rfl
    · unfold PyData.showableAll; rw [hd.sh, a3]; rfl
    · show PyData.weight d + 1 + PyData.weightAll r ≤ (r.length + 1) * (n + 1)
      have := hd.wt
      rw [Nat.succ_mul]; omega
    · show max d.depth (PyData.depthAll r) ≤ k
      exact Nat.max_le.mpr ⟨hd.dp, a5⟩
theorem Rp.tup {n k m : Nat} {ds : List PyData} (h : ∀ d ∈ ds, Rp d n k) (hl : ds.length ≤ m) : Rp (.tuple ds) (m * (n + 1)) (k + 1) := by
  obtain ⟨a1, a2, a3, a4, a5⟩ := rp_all h
  exact ⟨a1, a2, a3, Nat.le_trans a4 (Nat.mul_le_mul_right _ hl), by show PyData.depthAll ds + 1 ≤ k + 1; omega⟩
theorem Rp.lst {n k m : Nat} {ds : List PyData} (h : ∀ d ∈ ds, Rp d n k) (hl : ds.length ≤ m) : Rp (.list ds) (m * (n + 1)) (k + 1) := by
  obtain ⟨a1, a2, a3, a4, a5⟩ := rp_all h
  exact ⟨a1, a2, a3, Nat.le_trans a4 (Nat.mul_le_mul_right _ hl), by show PyData.depthAll ds + 1 ≤ k + 1; omega⟩
theorem Rp.intv {v : Int} (h0 : 0 ≤ v) (h1 : v ≤ 9999) : Rp (.int v) 60 0 := by
  have hlog : v.natAbs.log2 < 20 := by
    by_cases hz : v.natAbs = 0
    · rw [hz]; decide
    · exact (Nat.log2_lt (n := v.natAbs) (k := 20) hz).mpr (by omega)
  refine ⟨rfl, decide_eq_true (PyData.shown_int_le (by omega)), decide_eq_true (by omega), ?_, Nat.le_refl _⟩
  show (if v == 0 then 0 else v.natAbs.log2 + 1) ≤ 60
  split <;> omega
end Law
namespace Law
open PySem PySem.Spec PyProof.Rows L2 DL
local instance : Tabs := ⟨[]⟩
theorem fst_some {h : Rw → Bool} : ∀ {rs : List Rw} {n p : Nat}, fstN h n rs = some p ↔ ∃ pre r post, rs = pre ++ r :: post ∧ p = n + pre.length ∧ h r = true ∧ ∀ x ∈ pre, h x = false
  | [], n, p => ⟨(fun z => nomatch z), (fun ⟨pre, r, post, e, _⟩ => by cases pre <;> cases e)⟩
  | r :: rs, n, p => by
    unfold fstN
    cases hh : h r with
    | true =>
      rw [if_pos rfl]
      constructor
      · intro z
        cases z
        exact ⟨[], r, rs, rfl, rfl, hh, fun _ z => by cases z⟩
      · rintro ⟨pre, q, post, e, ep, hq, hn⟩
        cases pre with
        | nil => rw [ep]; rfl
        | cons a b =>
          cases e
          have := hn r (by simp)
          rw [hh] at this; cases this
    | false =>
      rw [if_neg (by decide), fst_some]
      constructor
      · rintro ⟨pre, q, post, e, ep, hq, hn⟩
        refine ⟨r :: pre, q, post, by rw [e]; rfl, by rw [List.length_cons]; omega, hq, fun x hx => ?_⟩
        rcases List.mem_cons.mp hx with rfl | hx
        · exact hh
        · exact hn x hx
      · rintro ⟨pre, q, post, e, ep, hq, hn⟩
        cases pre with
        | nil =>
          cases e
          rw [hh] at hq; cases hq
        | cons a b =>
          cases e
          exact ⟨b, q, post, rfl, by rw [List.length_cons] at ep; omega, hq, fun x hx => hn x (by simp [hx])⟩
def nmA : Nat → Str
  | 0 => ""
  | 1 => "ann"
  | 2 => "bob"
  | 3 => "cy"
  | _ => "dan"
theorem for_mono {w j : Nat} (hw : w < 5) (hj : j < 5) (o : Str) (h : forB w j "" = true) : forB w j o = true := by
  have h1 : w = 0 ∨ w = 1 ∨ w = 2 ∨ w = 3 ∨ w = 4 := by omega
  have h2 : j = 0 ∨ j = 1 ∨ j = 2 ∨ j = 3 ∨ j = 4 := by omega
  rcases h1 with rfl | rfl | rfl | rfl | rfl <;> rcases h2 with rfl | rfl | rfl | rfl | rfl <;> first | rfl | exact absurd h (by decide +kernel)
theorem for_ex {w j : Nat} (hw : w < 5) (hj : j < 5) {o : Str} (h : forB w j o = true) : forB w j "" = true ∨ o = nmA j := by
  have h1 : w = 0 ∨ w = 1 ∨ w = 2 ∨ w = 3 ∨ w = 4 := by omega
  have h2 : j = 0 ∨ j = 1 ∨ j = 2 ∨ j = 3 ∨ j = 4 := by omega
  rcases h1 with rfl | rfl | rfl | rfl | rfl <;> rcases h2 with rfl | rfl | rfl | rfl | rfl <;> first | exact .inl rfl | exact .inr (of_decide_eq_true h).symm | exact absurd h (by show ¬ (false = true); decide)
theorem hit_iff {j : Nat} {d k f o : Str} {r : Rw} : hit j d k f o r = true ↔ r.d = d ∧ r.k = k ∧ (f = r.f ∨ "" = r.f) ∧ forB r.w j o = true := by
  unfold hit
  simp only [Bool.and_eq_true, Bool.or_eq_true, decide_eq_true_eq]
def met (rs : List Rw) (p j : Nat) : Bool := match rs[p]? with
  | none => false
  | some r => decide (fstN (hit j r.d r.k r.f "") 0 rs = some p) || decide (fstN (hit j r.d r.k r.f (nmA j)) 0 rs = some p)
def nobB (rs : List Rw) (js : List Nat) (p : Nat) : Bool := !(js.any (met rs p))
def nob (rs : List Rw) (js : List Nat) : List Nat := (List.range rs.length).filter (nobB rs js)
theorem at_mid {α : Type} {pre post : List α} {r : α} : (pre ++ r :: post)[pre.length]? = some r := by simp
theorem first_met {rs : List Rw} (h : ∀ r ∈ rs, RwOk r) {j : Nat} (hj : j < 5) {d k f o : Str} {p : Nat} (e : fstN (hit j d k f o) 0 rs = some p) : met rs p j = true := by
  obtain ⟨pre, r, post, rfl, hp, hr, hn⟩ := fst_some.mp e
  rw [Nat.zero_add] at hp
  subst hp
  have hw := (h r (by simp)).w
  obtain ⟨e1, e2, e3, e4⟩ := hit_iff.mp hr
  have key : ∀ o', forB r.w j o' = true → (∀ w, w < 5 → forB w j o' = true → forB w j o = true) → fstN (hit j r.d r.k r.f o') 0 (pre ++ r :: post) = some pre.length := fun o' ho hm => by
    refine fst_some.mpr ⟨pre, r, post, rfl, by omega, hit_iff.mpr ⟨rfl, rfl, .inl rfl, ho⟩, fun x hx => ?_⟩
    cases hh : hit j r.d r.k r.f o' x with
    | false => rfl
    | true =>
      obtain ⟨a1, a2, a3, a4⟩ := hit_iff.mp hh
      have hx5 := (h x (by simp [hx])).w
      have : hit j d k f o x = true := hit_iff.mpr ⟨by rw [a1, e1], by rw [a2, e2], ?_, hm x.w hx5 a4⟩
      · rw [hn x hx] at this; cases this
      · rcases a3 with a3 | a3
        · rcases e3 with e3 | e3
          · exact .inl (by rw [e3, a3])
          · exact .inr (by rw [e3, a3])
        · exact .inr a3
  unfold met
  rw [at_mid]
  show (decide _ || decide _) = true
  rcases for_ex hw hj e4 with ho | ho
  · rw [decide_eq_true (key "" ho fun w hw5 hx => for_mono hw5 hj o hx)]; rfl
  · rw [← ho, decide_eq_true (key o e4 fun _ _ hx => hx), Bool.or_true]
def keepN (P : Nat → Bool) : Nat → List Rw → List Rw
  | _, [] => []
  | n, r :: rs => if P n = true then r :: keepN P (n + 1) rs else keepN P (n + 1) rs
def kept (rs : List Rw) (js : List Nat) : List Rw := keepN (fun p => !nobB rs js p) 0 rs
end Law
namespace Law
open PySem PySem.Spec PyProof.Rows L2 DL
local instance : Tabs := ⟨[]⟩
def perD : Nat → PyData
  | 1 => .tuple [.str "ann", .str "pw", .tuple []]
  | 2 => .tuple [.str "bob", .str "b1", .tuple [.str "boss"]]
  | 3 => .tuple [.str "cy", .str "c", .tuple [.str "aid", .str "boss"]]
  | _ => .tuple [.str "dan", .str "d-", .tuple [.str "aid"]]
def PsOk (ps : List Nat) : Prop := ps.Sublist [1, 2, 3, 4]
theorem PsOk.lt {ps : List Nat} (h : PsOk ps) : ps.length ≤ 4 ∧ ∀ p ∈ ps, p = 1 ∨ p = 2 ∨ p = 3 ∨ p = 4 := by
  refine ⟨h.length_le, fun p hp => ?_⟩
  have := h.subset hp
  simpa using this
def rlA : Nat → List Str
  | 1 => []
  | 2 => ["boss"]
  | 3 => ["aid", "boss"]
  | _ => ["aid"]
def wdA : Nat → Str
  | 1 => "pw"
  | 2 => "b1"
  | 3 => "c"
  | _ => "d-"
theorem e_word {p : Nat} (h : p = 1 ∨ p = 2 ∨ p = 3 ∨ p = 4) (μ : Mu) : m_is_word [.dat (.str (wdA p))] μ = some (.bool true, μ) := by
  have h1 : (wdA p).length ≤ 10000 ∧ shortB (wdA p) "abcdefghijklmnopqrstuvwxyz0123456789-" = true := by
    rcases h with rfl | rfl | rfl | rfl <;> decide +kernel
  unfold m_is_word B_is_word
  simp only [defM, fSeq, fIfS, fAnd, fOr, fNot, fB, fAndV, fOrV, fNotV, fIf, fIsi, tyD, fIsA, bnd, opt, fin, fChain, f2, fN, fCons, fNil, fVar, fC, g1, gI, gIC, fRet, fExpr, fCall, pNil, pDat, pNm, fAsg, gNm, gNo, gCo, gTu, fEnd, fFor, fSq, seqD, fSg, fLcD, fLc, fYes, fM1, gSS, fM0, fSl, fNo, fSome, rd, fNmB, fNm2, fNmI, fNmT, fNmJ, fNmS, sc, isSc, fSetI, fApp, fOwn, fLstF, fCatF, fRetO, fPar, fParO, fTru, truB, List.cons_append, List.nil_append, List.getElem?_cons_zero, List.getElem?_cons_succ, List.set_cons_zero, List.set_cons_succ, List.replicate, List.length_cons, List.length_nil, Nat.reduceAdd, Nat.reduceSub, if_true, if_false, Bool.false_eq_true, ↓reduceIte, List.append_nil, gTup0, gTup1, gTup2, gTup3, gLst0, gLst1, gLst2, gLst3, gLst4, gLst5, gLst10, isa_tt, isa_ts, isa_ti, isa_tn, isa_tl, isa_ss, isa_st, isa_si, isa_sn, isa_ii, isa_ib, isa_bi, isa_bb, isa_is, isa_in, isa_it, e_short _ _ _ h1.1, h1.2, List.take_length]
theorem e_roles {p : Nat} (h : p = 1 ∨ p = 2 ∨ p = 3 ∨ p = 4) (μ : Mu) : m_are_roles [.dat (.tuple ((rlA p).map PyData.str))] μ = some (.bool true, μ) := by
  have r0 : m_are_rising__t [.dat (.tuple ((rlA p).map PyData.str))] μ = some (.bool true, μ) := by
    rcases h with rfl | rfl | rfl | rfl <;> exact defM_rt (by kernel_rfl)
  have hn : ∀ x ∈ rlA p, x ∈ nmL := by rcases h with rfl | rfl | rfl | rfl <;> decide +kernel
  have hl : (rlA p).length ≤ 2 := by rcases h with rfl | rfl | rfl | rfl <;> decide
  have hs : ((rlA p).map PyData.str).length ≤ sizeLine := map_len (by omega)
  have hc : lcF (gNm 1) fYes (fCall m_is_name (pNm 1 pNil)) (wipeR [Sl.dat (.tuple ((rlA p).map PyData.str)), Sl.un] [1]) ((rlA p).map PyData.str) μ = some ((rlA p).map fun _ => PyData.bool true, μ) :=
    lc_map _ fun x hx => ⟨_, rfl, by simp only [defM, fSeq, fIfS, fAnd, fOr, fNot, fB, fAndV, fOrV, fNotV, fIf, fIsi, tyD, fIsA, bnd, opt, fin, fChain, f2, fN, fCons, fNil, fVar, fC, g1, gI, gIC, fRet, fExpr, fCall, pNil, pDat, pNm, fAsg, gNm, gNo, gCo, gTu, fEnd, fFor, fSq, seqD, fSg, fLcD, fLc, fYes, fM1, gSS, fM0, fSl, fNo, fSome, rd, fNmB, fNm2, fNmI, fNmT, fNmJ, fNmS, sc, isSc, fSetI, fApp, fOwn, fLstF, fCatF, fRetO, fPar, fParO, fTru, truB, List.cons_append, List.nil_append, List.getElem?_cons_zero, List.getElem?_cons_succ, List.set_cons_zero, List.set_cons_succ, List.replicate, List.length_cons, List.length_nil, Nat.reduceAdd, Nat.reduceSub, if_true, if_false, Bool.false_eq_true, ↓reduceIte, List.append_nil, gTup0, gTup1, gTup2, gTup3, gLst0, gLst1, gLst2, gLst3, gLst4, gLst5, gLst10, isa_tt, isa_ts, isa_ti, isa_tn, isa_tl, isa_ss, isa_st, isa_si, isa_sn, isa_ii, isa_ib, isa_bi, isa_bb, isa_is, isa_in, isa_it, wipeR, e_nm (hn x hx)]⟩
  unfold m_are_roles B_are_roles
  simp only [defM, fSeq, fIfS, fAnd, fOr, fNot, fB, fAndV, fOrV, fNotV, fIf, fIsi, tyD, fIsA, bnd, opt, fin, fChain, f2, fN, fCons, fNil, fVar, fC, g1, gI, gIC, fRet, fExpr, fCall, pNil, pDat, pNm, fAsg, gNm, gNo, gCo, gTu, fEnd, fFor, fSq, seqD, fSg, fLcD, fLc, fYes, fM1, gSS, fM0, fSl, fNo, fSome, rd, fNmB, fNm2, fNmI, fNmT, fNmJ, fNmS, sc, isSc, fSetI, fApp, fOwn, fLstF, fCatF, fRetO, fPar, fParO, fTru, truB, List.cons_append, List.nil_append, List.getElem?_cons_zero, List.getElem?_cons_succ, List.set_cons_zero, List.set_cons_succ, List.replicate, List.length_cons, List.length_nil, Nat.reduceAdd, Nat.reduceSub, if_true, if_false, Bool.false_eq_true, ↓reduceIte, List.append_nil, gTup0, gTup1, gTup2, gTup3, gLst0, gLst1, gLst2, gLst3, gLst4, gLst5, gLst10, isa_tt, isa_ts, isa_ti, isa_tn, isa_tl, isa_ss, isa_st, isa_si, isa_sn, isa_ii, isa_ib, isa_bi, isa_bb, isa_is, isa_in, isa_it, if_pos hs, hc, allD_trues, r0, List.take_length]
theorem per_eq {p : Nat} (h : p = 1 ∨ p = 2 ∨ p = 3 ∨ p = 4) : perD p = .tuple [.str (nmA p), .str (wdA p), .tuple ((rlA p).map PyData.str)] := by
  rcases h with rfl | rfl | rfl | rfl <;> rfl
theorem e_person {p : Nat} (h : p = 1 ∨ p = 2 ∨ p = 3 ∨ p = 4) (μ : Mu) : m_is_person [.dat (perD p)] μ = some (.bool true, μ) := by
  have q : gNe (.int ((0 + 1 + 1 + 1 : Nat) : Int)) (.int 3) = some (.bool false) := rfl
  have hn : nmA p ∈ nmL := by rcases h with rfl | rfl | rfl | rfl <;> decide +kernel
  rw [per_eq h]
  unfold m_is_person B_is_person
  simp only [defM, fSeq, fIfS, fAnd, fOr, fNot, fB, fAndV, fOrV, fNotV, fIf, fIsi, tyD, fIsA, bnd, opt, fin, fChain, f2, fN, fCons, fNil, fVar, fC, g1, gI, gIC, fRet, fExpr, fCall, pNil, pDat, pNm, fAsg, gNm, gNo, gCo, gTu, fEnd, fFor, fSq, seqD, fSg, fLcD, fLc, fYes, fM1, gSS, fM0, fSl, fNo, fSome, rd, fNmB, fNm2, fNmI, fNmT, fNmJ, fNmS, sc, isSc, fSetI, fApp, fOwn, fLstF, fCatF, fRetO, fPar, fParO, fTru, truB, List.cons_append, List.nil_append, List.getElem?_cons_zero, List.getElem?_cons_succ, List.set_cons_zero, List.set_cons_succ, List.replicate, List.length_cons, List.length_nil, Nat.reduceAdd, Nat.reduceSub, if_true, if_false, Bool.false_eq_true, ↓reduceIte, List.append_nil, gTup0, gTup1, gTup2, gTup3, gLst0, gLst1, gLst2, gLst3, gLst4, gLst5, gLst10, isa_tt, isa_ts, isa_ti, isa_tn, isa_tl, isa_ss, isa_st, isa_si, isa_sn, isa_ii, isa_ib, isa_bi, isa_bb, isa_is, isa_in, isa_it, lenD, q, Bool.not_true, e_nm hn, e_word h, e_roles h, List.take_length]
theorem nm_nd {ps : List Nat} (h : PsOk ps) : (ps.map nmA).Nodup := by
  exact List.Sublist.nodup (h.map nmA) (by decide +kernel)
theorem e_people {ps : List Nat} (h : PsOk ps) (μ : Mu) : m_are_people [.dat (.tuple (ps.map perD))] μ = some (.bool true, μ) := by
  have hpl := h.lt.1
  have hl : (ps.map perD).length ≤ sizeLine := map_len (by omega)
  have h1 : (0 : Int) ≤ ((ps.map perD).length : Int) := by omega
  have h2 : ((ps.map perD).length : Int) ≤ 6 := by rw [List.length_map]; omega
  have hc : lcF (gNm 4) fYes (fCallL "is_person" 3 m_is_person (pNm 4 pNil)) (wipeR [Sl.dat (.tuple (ps.map perD)), Sl.dat (.int 0), Sl.dat (.int 6), Sl.fn "is_person", Sl.un] [4]) (ps.map perD) μ = some (ps.map fun _ => PyData.bool true, μ) :=
    lc_map ps fun r hr => ⟨_, rfl, by simp only [defM, fSeq, fIfS, fAnd, fOr, fNot, fB, fAndV, fOrV, fNotV, fIf, fIsi, tyD, fIsA, bnd, opt, fin, fChain, f2, fN, fCons, fNil, fVar, fC, g1, gI, gIC, fRet, fExpr, fCall, pNil, pDat, pNm, fAsg, gNm, gNo, gCo, gTu, fEnd, fFor, fSq, seqD, fSg, fLcD, fLc, fYes, fM1, gSS, fM0, fSl, fNo, fSome, rd, fNmB, fNm2, fNmI, fNmT, fNmJ, fNmS, sc, isSc, fSetI, fApp, fOwn, fLstF, fCatF, fRetO, fPar, fParO, fTru, truB, List.cons_append, List.nil_append, List.getElem?_cons_zero, List.getElem?_cons_succ, List.set_cons_zero, List.set_cons_succ, List.replicate, List.length_cons, List.length_nil, Nat.reduceAdd, Nat.reduceSub, if_true, if_false, Bool.false_eq_true, ↓reduceIte, List.append_nil, gTup0, gTup1, gTup2, gTup3, gLst0, gLst1, gLst2, gLst3, gLst4, gLst5, gLst10, isa_tt, isa_ts, isa_ti, isa_tn, isa_tl, isa_ss, isa_st, isa_si, isa_sn, isa_ii, isa_ib, isa_bi, isa_bb, isa_is, isa_in, isa_it, wipeR, fCallL, eq_self]; exact e_person (h.lt.2 r hr) μ⟩
  have hc2 : lcF (gNm 4) fYes (f2 (fVar 4) (fC (.int (0))) ixD) (wipeR [Sl.dat (.tuple (ps.map perD)), Sl.dat (.int 0), Sl.dat (.int 6), Sl.fn "is_person", Sl.un] [4]) (ps.map perD) μ = some (ps.map fun r => PyData.str (nmA r), μ) :=
    lc_map ps fun r hr => ⟨_, rfl, by
      have i0 : ixD (perD r) (.int 0) = some (.str (nmA r)) := by rw [per_eq (h.lt.2 r hr)]; rfl
      simp only [defM, fSeq, fIfS, fAnd, fOr, fNot, fB, fAndV, fOrV, fNotV, fIf, fIsi, tyD, fIsA, bnd, opt, fin, fChain, f2, fN, fCons, fNil, fVar, fC, g1, gI, gIC, fRet, fExpr, fCall, pNil, pDat, pNm, fAsg, gNm, gNo, gCo, gTu, fEnd, fFor, fSq, seqD, fSg, fLcD, fLc, fYes, fM1, gSS, fM0, fSl, fNo, fSome, rd, fNmB, fNm2, fNmI, fNmT, fNmJ, fNmS, sc, isSc, fSetI, fApp, fOwn, fLstF, fCatF, fRetO, fPar, fParO, fTru, truB, List.cons_append, List.nil_append, List.getElem?_cons_zero, List.getElem?_cons_succ, List.set_cons_zero, List.set_cons_succ, List.replicate, List.length_cons, List.length_nil, Nat.reduceAdd, Nat.reduceSub, if_true, if_false, Bool.false_eq_true, ↓reduceIte, List.append_nil, gTup0, gTup1, gTup2, gTup3, gLst0, gLst1, gLst2, gLst3, gLst4, gLst5, gLst10, isa_tt, isa_ts, isa_ti, isa_tn, isa_tl, isa_ss, isa_st, isa_si, isa_sn, isa_ii, isa_ib, isa_bi, isa_bb, isa_is, isa_in, isa_it, wipeR, i0]⟩
  have hu : m_are_unlike [.dat (.list (ps.map fun r => PyData.str (nmA r)))] μ = some (.bool true, μ) := by
    have := e_unlike (nm_nd h) (by rw [List.length_map]; omega) μ
    rw [List.map_map] at this
    exact this
  have er : m_are_named_rows__is_person [.dat (.tuple (ps.map perD)), .dat (.int 0), .dat (.int 6), .fn "is_person"] μ = some (.bool true, μ) := by
    unfold m_are_named_rows__is_person B_are_named_rows__is_person
    simp only [defM, fSeq, fIfS, fAnd, fOr, fNot, fB, fAndV, fOrV, fNotV, fIf, fIsi, tyD, fIsA, bnd, opt, fin, fChain, f2, fN, fCons, fNil, fVar, fC, g1, gI, gIC, fRet, fExpr, fCall, pNil, pDat, pNm, fAsg, gNm, gNo, gCo, gTu, fEnd, fFor, fSq, seqD, fSg, fLcD, fLc, fYes, fM1, gSS, fM0, fSl, fNo, fSome, rd, fNmB, fNm2, fNmI, fNmT, fNmJ, fNmS, sc, isSc, fSetI, fApp, fOwn, fLstF, fCatF, fRetO, fPar, fParO, fTru, truB, List.cons_append, List.nil_append, List.getElem?_cons_zero, List.getElem?_cons_succ, List.set_cons_zero, List.set_cons_succ, List.replicate, List.length_cons, List.length_nil, Nat.reduceAdd, Nat.reduceSub, if_true, if_false, Bool.false_eq_true, ↓reduceIte, List.append_nil, gTup0, gTup1, gTup2, gTup3, gLst0, gLst1, gLst2, gLst3, gLst4, gLst5, gLst10, isa_tt, isa_ts, isa_ti, isa_tn, isa_tl, isa_ss, isa_st, isa_si, isa_sn, isa_ii, isa_ib, isa_bi, isa_bb, isa_is, isa_in, isa_it, lenD, h1, h2, decide_true, Bool.not_true, if_pos hl, hc, allD_trues, hc2, hu, List.take_length]
  unfold m_are_people B_are_people
  simp only [defM, fSeq, fIfS, fAnd, fOr, fNot, fB, fAndV, fOrV, fNotV, fIf, fIsi, tyD, fIsA, bnd, opt, fin, fChain, f2, fN, fCons, fNil, fVar, fC, g1, gI, gIC, fRet, fExpr, fCall, pNil, pDat, pNm, fAsg, gNm, gNo, gCo, gTu, fEnd, fFor, fSq, seqD, fSg, fLcD, fLc, fYes, fM1, gSS, fM0, fSl, fNo, fSome, rd, fNmB, fNm2, fNmI, fNmT, fNmJ, fNmS, sc, isSc, fSetI, fApp, fOwn, fLstF, fCatF, fRetO, fPar, fParO, fTru, truB, List.cons_append, List.nil_append, List.getElem?_cons_zero, List.getElem?_cons_succ, List.set_cons_zero, List.set_cons_succ, List.replicate, List.length_cons, List.length_nil, Nat.reduceAdd, Nat.reduceSub, if_true, if_false, Bool.false_eq_true, ↓reduceIte, List.append_nil, gTup0, gTup1, gTup2, gTup3, gLst0, gLst1, gLst2, gLst3, gLst4, gLst5, gLst10, isa_tt, isa_ts, isa_ti, isa_tn, isa_tl, isa_ss, isa_st, isa_si, isa_sn, isa_ii, isa_ib, isa_bi, isa_bb, isa_is, isa_in, isa_it, pFn, er, List.take_length]
theorem e_askof {p : Nat} (h : p = 1 ∨ p = 2 ∨ p = 3 ∨ p = 4) (μ : Mu) : m_asker_of [.dat (perD p)] μ = some (askD p, μ) := by
  rcases h with rfl | rfl | rfl | rfl <;> exact defM_rt (by kernel_rfl)
theorem e_nameof {j : Nat} (h : j < 5) (μ : Mu) : m_name_of [.dat (askD j)] μ = some (.str (nmA j), μ) := by
  match j, h with
  | 0, _ => exact defM_rt (by kernel_rfl)
  | 1, _ => exact defM_rt (by kernel_rfl)
  | 2, _ => exact defM_rt (by kernel_rfl)
  | 3, _ => exact defM_rt (by kernel_rfl)
  | 4, _ => exact defM_rt (by kernel_rfl)
def intN (p : Nat) : PyData := .int (p : Nat)
theorem ix_at {ds : List PyData} {p : Nat} (h : p < ds.length) : ixD (.tuple ds) (.int (p : Nat)) = ds[p]? := by
  show (ixN ds.length (p : Nat)).bind _ = _
  unfold ixN
  rw [if_pos (by omega), if_pos (by omega)]
  show ds[((p : Nat) : Int).toNat]? = _
  rw [Int.toNat_natCast]
theorem eqv_res (a : Option Nat) (p : Nat) : PyData.eqv (resD a) (.int (p : Nat)) = decide (a = some p) := by
  cases a with
  | none => rfl
  | some n =>
    show (((n : Nat) : Int) == ((p : Nat) : Int)) = _
    rw [Bool.eq_iff_iff]
    simp only [beq_iff_eq, decide_eq_true_eq, Option.some.injEq]
    omega
theorem in_res (a b : Option Nat) (p : Nat) : gInD false (.int (p : Nat)) (.list [resD a, resD b]) = some (.bool (decide (a = some p) || decide (b = some p))) := by
  show opt (inD _ _) _ = _
  unfold inD
  rw [if_pos ⟨rfl, by cases a <;> cases b <;> rfl⟩]
  show some (PyData.bool (List.any _ _)) = _
  simp only [List.any_cons, List.any_nil, Bool.or_false, eqv_res]
theorem rq {rs : List Rw} (h : ∀ r ∈ rs, RwOk r) {r : Rw} (hr : r ∈ rs) {j : Nat} (hj : j < 5) (o : Str) : Qs j r.d r.k r.f o := ⟨hj, (h r hr).d, k_nm _ (h r hr).k, by have := f_nm _ (h r hr).f; simpa using this⟩
theorem e_met {rs : List Rw} (h : ∀ r ∈ rs, RwOk r) {p : Nat} (hp : p < rs.length) {j : Nat} (hj : j < 5) (μ : Mu) : m_is_met [.dat (.tuple (rs.map rwD)), .dat (.int (p : Nat)), .dat (askD j)] μ = some (.bool (met rs p j), μ) := by
  have hg : rs[p]? = some rs[p] := List.getElem?_eq_getElem hp
  have hm : rs[p] ∈ rs := List.getElem_mem hp
  generalize rs[p] = r at hg hm
  have i1 : ixD (.tuple (rs.map rwD)) (.int (p : Nat)) = some (.tuple [whoD r.w, .str r.d, .str r.k, .str r.f]) := by
    rw [ix_at (by rw [List.length_map]; exact hp), List.getElem?_map, hg]; rfl
  have h2 : (2 : Nat) ≤ sizeLine := line_ge (by decide)
  have hc : lcF (gNm 7) fYes (fCall m_find_rule (pNm 0 (pNm 2 (pNm 4 (pNm 5 (pNm 6 (pNm 7 pNil))))))) (wipeR [Sl.dat (.tuple (rs.map rwD)), Sl.dat (.int (p : Nat)), Sl.dat (askD j), Sl.dat (whoD r.w), Sl.dat (.str r.d), Sl.dat (.str r.k), Sl.dat (.str r.f), Sl.un] [7]) ([("" : Str), nmA j].map PyData.str) μ = some ([("" : Str), nmA j].map fun o => resD (fstN (hit j r.d r.k r.f o) 0 rs), μ) :=
    lc_map _ fun o _ => ⟨_, rfl, by simp only [defM, fSeq, fIfS, fAnd, fOr, fNot, fB, fAndV, fOrV, fNotV, fIf, fIsi, tyD, fIsA, bnd, opt, fin, fChain, f2, fN, fCons, fNil, fVar, fC, g1, gI, gIC, fRet, fExpr, fCall, pNil, pDat, pNm, fAsg, gNm, gNo, gCo, gTu, fEnd, fFor, fSq, seqD, fSg, fLcD, fLc, fYes, fM1, gSS, fM0, fSl, fNo, fSome, rd, fNmB, fNm2, fNmI, fNmT, fNmJ, fNmS, sc, isSc, fSetI, fApp, fOwn, fLstF, fCatF, fRetO, fPar, fParO, fTru, truB, List.cons_append, List.nil_append, List.getElem?_cons_zero, List.getElem?_cons_succ, List.set_cons_zero, List.set_cons_succ, List.replicate, List.length_cons, List.length_nil, Nat.reduceAdd, Nat.reduceSub, if_true, if_false, Bool.false_eq_true, ↓reduceIte, List.append_nil, gTup0, gTup1, gTup2, gTup3, gLst0, gLst1, gLst2, gLst3, gLst4, gLst5, gLst10, isa_tt, isa_ts, isa_ti, isa_tn, isa_tl, isa_ss, isa_st, isa_si, isa_sn, isa_ii, isa_ib, isa_bi, isa_bb, isa_is, isa_in, isa_it, wipeR, e_find (rq h hm hj o) h]⟩
  have hc' : lcF (gNm 7) fYes (fCall m_find_rule (pNm 0 (pNm 2 (pNm 4 (pNm 5 (pNm 6 (pNm 7 pNil))))))) (wipeR [Sl.dat (.tuple (rs.map rwD)), Sl.dat (.int (p : Nat)), Sl.dat (askD j), Sl.dat (whoD r.w), Sl.dat (.str r.d), Sl.dat (.str r.k), Sl.dat (.str r.f), Sl.un] [7]) [.str "", .str (nmA j)] μ = some ([resD (fstN (hit j r.d r.k r.f "") 0 rs), resD (fstN (hit j r.d r.k r.f (nmA j)) 0 rs)], μ) := hc
  have em : met rs p j = (decide (fstN (hit j r.d r.k r.f "") 0 rs = some p) || decide (fstN (hit j r.d r.k r.f (nmA j)) 0 rs = some p)) := by unfold met; rw [hg]
  rw [em]
  unfold m_is_met B_is_met
  simp only [defM, fSeq, fIfS, fAnd, fOr, fNot, fB, fAndV, fOrV, fNotV, fIf, fIsi, tyD, fIsA, bnd, opt, fin, fChain, f2, fN, fCons, fNil, fVar, fC, g1, gI, gIC, fRet, fExpr, fCall, pNil, pDat, pNm, fAsg, gNm, gNo, gCo, gTu, fEnd, fFor, fSq, seqD, fSg, fLcD, fLc, fYes, fM1, gSS, fM0, fSl, fNo, fSome, rd, fNmB, fNm2, fNmI, fNmT, fNmJ, fNmS, sc, isSc, fSetI, fApp, fOwn, fLstF, fCatF, fRetO, fPar, fParO, fTru, truB, List.cons_append, List.nil_append, List.getElem?_cons_zero, List.getElem?_cons_succ, List.set_cons_zero, List.set_cons_succ, List.replicate, List.length_cons, List.length_nil, Nat.reduceAdd, Nat.reduceSub, if_true, if_false, Bool.false_eq_true, ↓reduceIte, List.append_nil, gTup0, gTup1, gTup2, gTup3, gLst0, gLst1, gLst2, gLst3, gLst4, gLst5, gLst10, isa_tt, isa_ts, isa_ti, isa_tn, isa_tl, isa_ss, isa_st, isa_si, isa_sn, isa_ii, isa_ib, isa_bi, isa_bb, isa_is, isa_in, isa_it, i1, e_nameof hj, gTup2, if_pos h2, hc', in_res, List.take_length]
theorem rg1_j {f : FE} {ρ : Rho} {μ m : Mu} {d : Int} (h : f ρ μ = some (.int d, m)) (hd : -(2 ^ 62) ≤ d ∧ d < 2 ^ 62) : fRg1 f ρ μ = some (rgD 0 d.toNat, m) := by
  show bnd (f ρ μ) _ = _
  rw [h]
  show (if -(2 ^ 62) ≤ d ∧ d < 2 ^ 62 then some (rgD 0 d.toNat, m) else none) = _
  rw [if_pos hd]
theorem rg1_ok {f : FE} {ρ : Rho} {μ m : Mu} {n : Nat} (h : f ρ μ = some (.int (n : Nat), m)) (hn : n ≤ 10000) : fRg1 f ρ μ = some (rgD 0 n, m) :=
  rg1_j h ⟨Int.le_trans (by decide) (Int.natCast_nonneg _), Int.lt_of_le_of_lt (Int.ofNat_le.mpr hn) (by decide)⟩
theorem rg_map (n : Nat) : rgD 0 n = (List.range n).map intN := by
  unfold rgD
  apply List.map_congr_left
  intro i _
  show PyData.int (0 + (i : Nat)) = .int (i : Nat)
  rw [Int.zero_add]
theorem anyD_map {α : Type} (xs : List α) (f : α → Bool) : anyD (.list (xs.map fun a => PyData.bool (f a))) = some (.bool (xs.any f)) := by
  have e : xs.map (fun a => PyData.bool (f a)) = (xs.map f).map PyData.bool := by rw [List.map_map]; rfl
  unfold anyD
  rw [e]
  show opt (blsOf _) _ = _
  rw [blsOf_map]
  show some (PyData.bool _) = _
  rw [List.any_map]; rfl
theorem js_lt {ps : List Nat} (h : PsOk ps) : ∀ j ∈ 0 :: ps, j < 5 := fun j hj => by
  rcases List.mem_cons.mp hj with rfl | hj
  · decide
  · have := h.lt.2 j hj; omega
end Law
namespace Law
open PySem PySem.Spec PyProof.Rows L2 DL
local instance : Tabs := ⟨[]⟩
theorem seq_nx {F G : FS} {ρ ρ1 : Rho} {μ m1 : Mu} (h : F ρ μ = some (.nx ρ1 m1)) : fSeq F G ρ μ = G ρ1 m1 := by unfold fSeq; rw [h]
theorem ret_of {f : FE} {ρ : Rho} {μ m : Mu} {d : PyData} (h : f ρ μ = some (d, m)) : fRet f ρ μ = some (.rt (.dat d) m) := by unfold fRet; rw [h]; rfl
theorem lcD_of {fi : FI} {g : FG} {tt : FT} {te : FE} {vs : List Nat} {ρ : Rho} {μ m m' : Mu} {ds out : List PyData} (h1 : fi ρ μ = some (ds, m)) (h2 : ds.length ≤ sizeLine) (h3 : lcF g tt te (wipeR ρ vs) ds m = some (out, m')) : fLcD fi g tt te vs ρ μ = some (.list out, m') := by
  unfold fLcD fLc
  rw [h1]
  show bnd (if ds.length ≤ sizeLine then lcF g tt te (wipeR ρ vs) ds m else none) _ = _
  rw [if_pos h2, h3]; rfl
theorem n1_of {f : FE} {g : PyData → Option PyData} {ρ : Rho} {μ m : Mu} {d e : PyData} (h1 : f ρ μ = some (d, m)) (h2 : g d = some e) : fN (fCons f fNil) (g1 g) ρ μ = some (e, m) := by
  unfold fN fCons
  rw [h1]
  show fin (g d) m = _
  rw [h2]; rfl
theorem for_of {fi : FI} {g : FG} {B : FS} {ρ : Rho} {μ m : Mu} {ds : List PyData} {o : Out} (h1 : fi ρ μ = some (ds, m)) (h2 : loopF g B ds ρ m = some o) : fFor fi g B ρ μ = some o := by
  unfold fFor
  rw [h1]; exact h2
theorem sq_of {f : FE} {ρ : Rho} {μ m : Mu} {ds : List PyData} (h : f ρ μ = some (.list ds, m)) : fSq f ρ μ = some (ds, m) := by
  unfold fSq
  rw [h]; rfl
theorem asg_of {f : FE} {g : FG} {ρ ρ1 : Rho} {μ m : Mu} {d : PyData} (h1 : f ρ μ = some (d, m)) (h2 : g d ρ = some ρ1) : fAsg f g ρ μ = some (.nx ρ1 m) := by
  unfold fAsg
  rw [h1]
  show opt (g d ρ) _ = _
  rw [h2]; rfl
theorem b2_of {fa fb : FE} {g : PyData → PyData → Option PyData} {ρ : Rho} {μ m m2 : Mu} {a c : PyData} {r : Bool} (h1 : fa ρ μ = some (a, m)) (h2 : fb ρ m = some (c, m2)) (h3 : g a c = some (.bool r)) : fB (f2 fa fb g) ρ μ = some (r, m2) := by
  have : f2 fa fb g ρ μ = some (.bool r, m2) := by
    unfold f2
    rw [h1]
    show bnd (fb ρ m) _ = _
    rw [h2]
    show fin (g a c) m2 = _
    rw [h3]; rfl
  unfold fB
  rw [this]; rfl
theorem e_nobody {rs : List Rw} (h : ∀ r ∈ rs, RwOk r) (hl : rs.length ≤ 12) {ps : List Nat} (hp : PsOk ps) (μ : Mu) : m_nobody [.dat (.tuple (rs.map rwD)), .dat (.tuple (ps.map perD))] μ = some (.tuple ((nob rs (0 :: ps)).map intN), μ) := by
  have hpl := hp.lt.1
  have hs1 : (ps.map perD).length ≤ sizeLine := map_len (by omega)
  have hs2 : ((0 :: ps).map askD).length ≤ sizeLine := map_len (by rw [List.length_cons]; omega)
  have c1 : lcF (gNm 3) fYes (fCall m_asker_of (pNm 3 pNil)) (wipeR [Sl.dat (.tuple (rs.map rwD)), Sl.dat (.tuple (ps.map perD)), Sl.un, Sl.un, Sl.un, Sl.un] [3]) (ps.map perD) μ = some (ps.map askD, μ) :=
    lc_map _ fun p hpp => ⟨_, rfl, by simp only [defM, fSeq, fIfS, fAnd, fOr, fNot, fB, fAndV, fOrV, fNotV, fIf, fIsi, tyD, fIsA, bnd, opt, fin, fChain, f2, fN, fCons, fNil, fVar, fC, g1, gI, gIC, fRet, fExpr, fCall, pNil, pDat, pNm, fAsg, gNm, gNo, gCo, gTu, fEnd, fFor, fSq, seqD, fSg, fLcD, fLc, fYes, fM1, gSS, fM0, fSl, fNo, fSome, rd, fNmB, fNm2, fNmI, fNmT, fNmJ, fNmS, sc, isSc, fSetI, fApp, fOwn, fLstF, fCatF, fRetO, fPar, fParO, fTru, truB, List.cons_append, List.nil_append, List.getElem?_cons_zero, List.getElem?_cons_succ, List.set_cons_zero, List.set_cons_succ, List.replicate, List.length_cons, List.length_nil, Nat.reduceAdd, Nat.reduceSub, if_true, if_false, Bool.false_eq_true, ↓reduceIte, List.append_nil, gTup0, gTup1, gTup2, gTup3, gLst0, gLst1, gLst2, gLst3, gLst4, gLst5, gLst10, isa_tt, isa_ts, isa_ti, isa_tn, isa_tl, isa_ss, isa_st, isa_si, isa_sn, isa_ii, isa_ib, isa_bi, isa_bb, isa_is, isa_in, isa_it, wipeR, e_askof (hp.lt.2 p hpp)]⟩
  have ea : gAdd (.list [.none]) (.list (ps.map askD)) = some (.list ((0 :: ps).map askD)) := by
    rw [addL (by rw [List.length_map]; simp; omega)]; rfl
  have c2 : lcF (gNm 4) (fNot (fB (fN (fCons (fLcD (fSq (fVar 2)) (gNm 5) fYes (fCall m_is_met (pNm 0 (pNm 4 (pNm 5 pNil)))) [5]) fNil) (g1 anyD)))) (fVar 4) (wipeR [Sl.dat (.tuple (rs.map rwD)), Sl.dat (.tuple (ps.map perD)), Sl.dat (.list ((0 :: ps).map askD)), Sl.un, Sl.un, Sl.un] [4]) ((List.range rs.length).map intN) μ = some ((nob rs (0 :: ps)).map intN, μ) :=
    lc_filt _ fun p hpp => ⟨_, rfl, by
      have hp' := List.mem_range.mp hpp
      have c3 : lcF (gNm 5) fYes (fCall m_is_met (pNm 0 (pNm 4 (pNm 5 pNil)))) [Sl.dat (.tuple (rs.map rwD)), Sl.dat (.tuple (ps.map perD)), Sl.dat (.list ((0 :: ps).map askD)), Sl.un, Sl.dat (intN p), Sl.un] ((0 :: ps).map askD) μ = some ((0 :: ps).map fun j => PyData.bool (met rs p j), μ) :=
        lc_map _ fun j hj => ⟨_, rfl, by
          have := e_met h hp' (js_lt hp j hj) μ
          unfold intN
          simp only [defM, fSeq, fIfS, fAnd, fOr, fNot, fB, fAndV, fOrV, fNotV, fIf, fIsi, tyD, fIsA, bnd, opt, fin, fChain, f2, fN, fCons, fNil, fVar, fC, g1, gI, gIC, fRet, fExpr, fCall, pNil, pDat, pNm, fAsg, gNm, gNo, gCo, gTu, fEnd, fFor, fSq, seqD, fSg, fLcD, fLc, fYes, fM1, gSS, fM0, fSl, fNo, fSome, rd, fNmB, fNm2, fNmI, fNmT, fNmJ, fNmS, sc, isSc, fSetI, fApp, fOwn, fLstF, fCatF, fRetO, fPar, fParO, fTru, truB, List.cons_append, List.nil_append, List.getElem?_cons_zero, List.getElem?_cons_succ, List.set_cons_zero, List.set_cons_succ, List.replicate, List.length_cons, List.length_nil, Nat.reduceAdd, Nat.reduceSub, if_true, if_false, Bool.false_eq_true, ↓reduceIte, List.append_nil, gTup0, gTup1, gTup2, gTup3, gLst0, gLst1, gLst2, gLst3, gLst4, gLst5, gLst10, isa_tt, isa_ts, isa_ti, isa_tn, isa_tl, isa_ss, isa_st, isa_si, isa_sn, isa_ii, isa_ib, isa_bi, isa_bb, isa_is, isa_in, isa_it, wipeR, this]⟩
      have ha := anyD_map (0 :: ps) (met rs p)
      have en : nobB rs (0 :: ps) p = !((0 :: ps).any (met rs p)) := rfl
      rw [en]
      simp only [defM, fSeq, fIfS, fAnd, fOr, fNot, fB, fAndV, fOrV, fNotV, fIf, fIsi, tyD, fIsA, bnd, opt, fin, fChain, f2, fN, fCons, fNil, fVar, fC, g1, gI, gIC, fRet, fExpr, fCall, pNil, pDat, pNm, fAsg, gNm, gNo, gCo, gTu, fEnd, fFor, fSq, seqD, fSg, fLcD, fLc, fYes, fM1, gSS, fM0, fSl, fNo, fSome, rd, fNmB, fNm2, fNmI, fNmT, fNmJ, fNmS, sc, isSc, fSetI, fApp, fOwn, fLstF, fCatF, fRetO, fPar, fParO, fTru, truB, List.cons_append, List.nil_append, List.getElem?_cons_zero, List.getElem?_cons_succ, List.set_cons_zero, List.set_cons_succ, List.replicate, List.length_cons, List.length_nil, Nat.reduceAdd, Nat.reduceSub, if_true, if_false, Bool.false_eq_true, ↓reduceIte, List.append_nil, gTup0, gTup1, gTup2, gTup3, gLst0, gLst1, gLst2, gLst3, gLst4, gLst5, gLst10, isa_tt, isa_ts, isa_ti, isa_tn, isa_tl, isa_ss, isa_st, isa_si, isa_sn, isa_ii, isa_ib, isa_bi, isa_bb, isa_is, isa_in, isa_it, wipeR, if_pos hs2, c3, ha], fun _ => rfl⟩
  have er : fRg1 (fNmB 0 (g1 lenD)) [Sl.dat (.tuple (rs.map rwD)), Sl.dat (.tuple (ps.map perD)), Sl.dat (.list ((0 :: ps).map askD)), Sl.un, Sl.un, Sl.un] μ = some (rgD 0 rs.length, μ) := rg1_ok (by simp only [defM, fSeq, fIfS, fAnd, fOr, fNot, fB, fAndV, fOrV, fNotV, fIf, fIsi, tyD, fIsA, bnd, opt, fin, fChain, f2, fN, fCons, fNil, fVar, fC, g1, gI, gIC, fRet, fExpr, fCall, pNil, pDat, pNm, fAsg, gNm, gNo, gCo, gTu, fEnd, fFor, fSq, seqD, fSg, fLcD, fLc, fYes, fM1, gSS, fM0, fSl, fNo, fSome, rd, fNmB, fNm2, fNmI, fNmT, fNmJ, fNmS, sc, isSc, fSetI, fApp, fOwn, fLstF, fCatF, fRetO, fPar, fParO, fTru, truB, List.cons_append, List.nil_append, List.getElem?_cons_zero, List.getElem?_cons_succ, List.set_cons_zero, List.set_cons_succ, List.replicate, List.length_cons, List.length_nil, Nat.reduceAdd, Nat.reduceSub, if_true, if_false, Bool.false_eq_true, ↓reduceIte, List.append_nil, gTup0, gTup1, gTup2, gTup3, gLst0, gLst1, gLst2, gLst3, gLst4, gLst5, gLst10, isa_tt, isa_ts, isa_ti, isa_tn, isa_tl, isa_ss, isa_st, isa_si, isa_sn, isa_ii, isa_ib, isa_bi, isa_bb, isa_is, isa_in, isa_it, lenD, List.length_map]) (by omega)
  rw [rg_map] at er
  have hs3 : ((List.range rs.length).map intN).length ≤ sizeLine := map_len (by rw [List.length_range]; omega)
  refine defM_rt ?_
  show B_nobody [Sl.dat (.tuple (rs.map rwD)), Sl.dat (.tuple (ps.map perD)), Sl.un, Sl.un, Sl.un, Sl.un] μ = _
  unfold B_nobody
  rw [seq_nx (ρ1 := [Sl.dat (.tuple (rs.map rwD)), Sl.dat (.tuple (ps.map perD)), Sl.un, Sl.un, Sl.un, Sl.un]) (m1 := μ) (by simp only [defM, fSeq, fIfS, fAnd, fOr, fNot, fB, fAndV, fOrV, fNotV, fIf, fIsi, tyD, fIsA, bnd, opt, fin, fChain, f2, fN, fCons, fNil, fVar, fC, g1, gI, gIC, fRet, fExpr, fCall, pNil, pDat, pNm, fAsg, gNm, gNo, gCo, gTu, fEnd, fFor, fSq, seqD, fSg, fLcD, fLc, fYes, fM1, gSS, fM0, fSl, fNo, fSome, rd, fNmB, fNm2, fNmI, fNmT, fNmJ, fNmS, sc, isSc, fSetI, fApp, fOwn, fLstF, fCatF, fRetO, fPar, fParO, fTru, truB, List.cons_append, List.nil_append, List.getElem?_cons_zero, List.getElem?_cons_succ, List.set_cons_zero, List.set_cons_succ, List.replicate, List.length_cons, List.length_nil, Nat.reduceAdd, Nat.reduceSub, if_true, if_false, Bool.false_eq_true, ↓reduceIte, List.append_nil, gTup0, gTup1, gTup2, gTup3, gLst0, gLst1, gLst2, gLst3, gLst4, gLst5, gLst10, isa_tt, isa_ts, isa_ti, isa_tn, isa_tl, isa_ss, isa_st, isa_si, isa_sn, isa_ii, isa_ib, isa_bi, isa_bb, isa_is, isa_in, isa_it, e_chkR h hl]),
    seq_nx (ρ1 := [Sl.dat (.tuple (rs.map rwD)), Sl.dat (.tuple (ps.map perD)), Sl.un, Sl.un, Sl.un, Sl.un]) (m1 := μ) (by simp only [defM, fSeq, fIfS, fAnd, fOr, fNot, fB, fAndV, fOrV, fNotV, fIf, fIsi, tyD, fIsA, bnd, opt, fin, fChain, f2, fN, fCons, fNil, fVar, fC, g1, gI, gIC, fRet, fExpr, fCall, pNil, pDat, pNm, fAsg, gNm, gNo, gCo, gTu, fEnd, fFor, fSq, seqD, fSg, fLcD, fLc, fYes, fM1, gSS, fM0, fSl, fNo, fSome, rd, fNmB, fNm2, fNmI, fNmT, fNmJ, fNmS, sc, isSc, fSetI, fApp, fOwn, fLstF, fCatF, fRetO, fPar, fParO, fTru, truB, List.cons_append, List.nil_append, List.getElem?_cons_zero, List.getElem?_cons_succ, List.set_cons_zero, List.set_cons_succ, List.replicate, List.length_cons, List.length_nil, Nat.reduceAdd, Nat.reduceSub, if_true, if_false, Bool.false_eq_true, ↓reduceIte, List.append_nil, gTup0, gTup1, gTup2, gTup3, gLst0, gLst1, gLst2, gLst3, gLst4, gLst5, gLst10, isa_tt, isa_ts, isa_ti, isa_tn, isa_tl, isa_ss, isa_st, isa_si, isa_sn, isa_ii, isa_ib, isa_bi, isa_bb, isa_is, isa_in, isa_it, e_people hp, Bool.not_true]),
    seq_nx (ρ1 := [Sl.dat (.tuple (rs.map rwD)), Sl.dat (.tuple (ps.map perD)), Sl.dat (.list ((0 :: ps).map askD)), Sl.un, Sl.un, Sl.un]) (m1 := μ) (by simp only [defM, fSeq, fIfS, fAnd, fOr, fNot, fB, fAndV, fOrV, fNotV, fIf, fIsi, tyD, fIsA, bnd, opt, fin, fChain, f2, fN, fCons, fNil, fVar, fC, g1, gI, gIC, fRet, fExpr, fCall, pNil, pDat, pNm, fAsg, gNm, gNo, gCo, gTu, fEnd, fFor, fSq, seqD, fSg, fLcD, fLc, fYes, fM1, gSS, fM0, fSl, fNo, fSome, rd, fNmB, fNm2, fNmI, fNmT, fNmJ, fNmS, sc, isSc, fSetI, fApp, fOwn, fLstF, fCatF, fRetO, fPar, fParO, fTru, truB, List.cons_append, List.nil_append, List.getElem?_cons_zero, List.getElem?_cons_succ, List.set_cons_zero, List.set_cons_succ, List.replicate, List.length_cons, List.length_nil, Nat.reduceAdd, Nat.reduceSub, if_true, if_false, Bool.false_eq_true, ↓reduceIte, List.append_nil, gTup0, gTup1, gTup2, gTup3, gLst0, gLst1, gLst2, gLst3, gLst4, gLst5, gLst10, isa_tt, isa_ts, isa_ti, isa_tn, isa_tl, isa_ss, isa_st, isa_si, isa_sn, isa_ii, isa_ib, isa_bi, isa_bb, isa_is, isa_in, isa_it, if_pos hs1, c1, ea])]
  exact ret_of (n1_of (lcD_of er hs3 c2) rfl)
end Law
namespace Law
open PySem PySem.Spec PyProof.Rows L2 DL
local instance : Tabs := ⟨[]⟩
end Law
namespace Law
open PySem PySem.Spec PyProof.Rows L2 DL
local instance : Tabs := ⟨[]⟩
theorem defM_rd {n nn : Nat} {B : FS} {ρ : Rho} {μ m : Mu} {d : PyData} (h : B (ρ ++ List.replicate (nn - n) .un) μ = some (.rt (.dat d) m)) : defM n nn B ρ μ = some (d, m.take μ.length) := by
  unfold defM
  rw [h]
theorem defM_ro {n nn k : Nat} {B : FS} {ρ : Rho} {μ m : Mu} {ds : List PyData} (h : B (ρ ++ List.replicate (nn - n) .un) μ = some (.rt (.own k) m)) (hk : μ.length ≤ k) (e : m[k]? = some ds) : defM n nn B ρ μ = some (.list ds, m.take μ.length) := by
  unfold defM
  rw [h]
  show (if μ.length ≤ k then _ else _) = _
  rw [if_pos hk, e]; rfl
theorem lcF_keep {g : FG} {tt : FT} {te : FE} {ρ : Rho} {mk : Nat → PyData} {Q : Mu → Prop} : ∀ (ns : List Nat), (∀ a ∈ ns, ∀ m, Q m → ∃ (ρ1 : Rho) (b : Bool) (m' : Mu), g (mk a) ρ = some ρ1 ∧ tt ρ1 m = some (b, m') ∧ Q m' ∧ te ρ1 m' = some (mk a, m')) →
    ∀ m, Q m → ∃ (ps : List Nat) (m' : Mu), lcF g tt te ρ (ns.map mk) m = some (ps.map mk, m') ∧ Q m' ∧ ps.Sublist ns
  | [], _, m, h => ⟨[], m, rfl, h, List.Sublist.refl _⟩
  | a :: r, hs, m, h => by
    obtain ⟨ρ1, b, m1, e1, e2, h1, e3⟩ := hs a (by simp) m h
    obtain ⟨ps, m2, e4, h2, hp⟩ := lcF_keep (mk := mk) r (fun x hx => hs x (by simp [hx])) m1 h1
    cases b with
    | true =>
      refine ⟨a :: ps, m2, ?_, h2, hp.cons₂ a⟩
      rw [List.map_cons]
      unfold lcF
      rw [e1]
      show bnd (tt ρ1 m) _ = _
      rw [e2]
      show bnd (te ρ1 m1) _ = _
      rw [e3]
      show bnd (lcF g tt te ρ _ m1) _ = _
      rw [e4]
      rfl
    | false =>
      refine ⟨ps, m2, ?_, h2, hp.cons a⟩
      rw [List.map_cons]
      unfold lcF
      rw [e1]
      show bnd (tt ρ1 m) _ = _
      rw [e2]
      exact e4
theorem e_lpeople {base t : Mu} {x f : Int} : ∃ (ps : List Nat) (x' : Int), PsOk ps ∧ m__law_people [.own base.length] (base ++ [.int x, .int f] :: t) = some (.tuple (ps.map perD), base ++ [.int x', .int f] :: t) := by
  have hl : ([1, 2, 3, 4].map perD).length ≤ sizeLine := map_len (by decide)
  obtain ⟨ps, m', e, ⟨x', rfl⟩, hs⟩ := lcF_keep (g := gNm 2) (tt := fB (f2 (fCall m__law_draw (pNm 0 (pDat (fC (.int (2))) pNil))) (fC (.int (0))) gEq)) (te := fVar 2)
    (ρ := wipeR [.own base.length, .dat (.list ([1, 2, 3, 4].map perD)), .un] [2]) (mk := perD) (Q := fun m => ∃ x, m = base ++ [.int x, .int f] :: t) [1, 2, 3, 4] (fun a ha m hm => by
      obtain ⟨x, rfl⟩ := hm
      obtain ⟨k, x', k0, k1, ek⟩ := e_draw (base := base) (t := t) (x := x) (f := f) (n := 2) (by decide) (by decide)
      exact ⟨_, decide (k = 0), _, rfl, by simp only [defM, fSeq, fIfS, fAnd, fOr, fNot, fB, fAndV, fOrV, fNotV, fIf, fIsi, tyD, fIsA, bnd, opt, fin, fChain, f2, fN, fCons, fNil, fVar, fC, g1, gI, gIC, fRet, fExpr, fCall, pNil, pDat, pNm, fAsg, gNm, gNo, gCo, gTu, fEnd, fFor, fSq, seqD, fSg, fLcD, fLc, fYes, fM1, gSS, fM0, fSl, fNo, fSome, rd, fNmB, fNm2, fNmI, fNmT, fNmJ, fNmS, sc, isSc, fSetI, fApp, fOwn, fLstF, fCatF, fRetO, fPar, fParO, fTru, truB, List.cons_append, List.nil_append, List.getElem?_cons_zero, List.getElem?_cons_succ, List.set_cons_zero, List.set_cons_succ, List.replicate, List.length_cons, List.length_nil, Nat.reduceAdd, Nat.reduceSub, if_true, if_false, Bool.false_eq_true, ↓reduceIte, List.append_nil, gTup0, gTup1, gTup2, gTup3, gLst0, gLst1, gLst2, gLst3, gLst4, gLst5, gLst10, isa_tt, isa_ts, isa_ti, isa_tn, isa_tl, isa_ss, isa_st, isa_si, isa_sn, isa_ii, isa_ib, isa_bi, isa_bb, isa_is, isa_in, isa_it, wipeR, ek, gE1], ⟨x', rfl⟩, rfl⟩) (base ++ [.int x, .int f] :: t) ⟨x, rfl⟩
  refine ⟨ps, x', hs, ?_⟩
  have e2 : fLcD (fSq (fVar 1)) (gNm 2) (fB (f2 (fCall m__law_draw (pNm 0 (pDat (fC (.int (2))) pNil))) (fC (.int (0))) gEq)) (fVar 2) [2] [.own base.length, .dat (.list ([1, 2, 3, 4].map perD)), .un] (base ++ [.int x, .int f] :: t) = some (.list (ps.map perD), base ++ [.int x', .int f] :: t) := lcD_of rfl hl e
  unfold m__law_people
  have e3 : B__law_people [.own base.length, .un, .un] (base ++ [.int x, .int f] :: t) = some (.rt (.dat (.tuple (ps.map perD))) (base ++ [.int x', .int f] :: t)) := by
    unfold B__law_people
    rw [seq_nx (ρ1 := [.own base.length, .dat (.list ([1, 2, 3, 4].map perD)), .un]) (m1 := base ++ [.int x, .int f] :: t) rfl]
    exact ret_of (n1_of e2 rfl)
  rw [defM_rd (n := 1) (nn := 3) (B := B__law_people) (ρ := [.own base.length]) (μ := base ++ [.int x, .int f] :: t) e3, ln, tk0]
theorem uqs_mem : ∀ (l acc : List Str) (x : Str), x ∈ uqs acc l ↔ x ∈ acc ∨ x ∈ l
  | [], acc, x => by simp [uqs]
  | y :: r, acc, x => by
    unfold uqs
    rw [uqs_mem r]
    split
    · rename_i hy
      constructor
      · rintro (h | h)
        · exact .inl h
        · exact .inr (by simp [h])
      · rintro (h | h)
        · exact .inl h
        · rcases List.mem_cons.mp h with rfl | h
          · exact .inl hy
          · exact .inr h
    · simp only [List.mem_append, List.mem_cons, List.not_mem_nil, or_false, or_assoc]
theorem uqs_len : ∀ (l acc : List Str), (uqs acc l).length ≤ acc.length + l.length
  | [], acc => by simp [uqs]
  | y :: r, acc => by
    unfold uqs
    have := uqs_len r (if y ∈ acc then acc else acc ++ [y])
    refine Nat.le_trans this ?_
    rw [List.length_cons]
    split
    · omega
    · rw [List.length_append]; simp; omega
theorem uqt_mem : ∀ (l acc : List (List Str)) (x : List Str), x ∈ uqt acc l ↔ x ∈ acc ∨ x ∈ l
  | [], acc, x => by simp [uqt]
  | y :: r, acc, x => by
    unfold uqt
    rw [uqt_mem r]
    split
    · rename_i hy
      constructor
      · rintro (h | h)
        · exact .inl h
        · exact .inr (by simp [h])
      · rintro (h | h)
        · exact .inl h
        · rcases List.mem_cons.mp h with rfl | h
          · exact .inl hy
          · exact .inr h
    · simp only [List.mem_append, List.mem_cons, List.not_mem_nil, or_false, or_assoc]
theorem sortS_perm (l : List Str) : (sortS l).Perm l := by
  have := (sort_perm (l.map fun x => [x])).flatten
  rw [flat_one] at this
  exact this
def trp (r : Rw) : List Str := [r.d, r.k, r.f]
def oL : List Str := ["", "ann", "bob", "cy", "dan", "zz"]
def flsO (f : Str) : List Str := sortS (uqs [] [f, "", "count", "other"])
theorem fls_mem {f x : Str} : x ∈ flsO f ↔ x = f ∨ x = "" ∨ x = "count" ∨ x = "other" := by
  unfold flsO
  rw [(sortS_perm _).mem_iff, uqs_mem]
  simp
theorem fls_len (f : Str) : (flsO f).length ≤ 4 := by
  unfold flsO
  rw [(sortS_perm _).length_eq]
  exact uqs_len _ _
def rwS (rs : List Rw) : List (List Str) := sortT (uqt [] (rs.map trp))
theorem rws_mem {rs : List Rw} {q : List Str} : q ∈ rwS rs ↔ ∃ r ∈ rs, q = trp r := by
  unfold rwS
  rw [(sort_perm _).mem_iff, uqt_mem]
  simp only [List.not_mem_nil, false_or, List.mem_map]
  exact ⟨fun ⟨r, h, e⟩ => ⟨r, h, e.symm⟩, fun ⟨r, h, e⟩ => ⟨r, h, e.symm⟩⟩
theorem rws_len (rs : List Rw) : (rwS rs).length ≤ rs.length := by
  unfold rwS
  rw [(sort_perm _).length_eq]
  have := uqt_le (rs.map trp) []
  simpa using this
def lkO (rs : List Rw) (j : Nat) (o : Str) (q : List Str) (fl : Str) : Option Nat := fstN (hit j (q.getD 0 "") (q.getD 1 "") fl o) 0 rs
def t3 (rs : List Rw) (j : Nat) (o : Str) (q : List Str) : List (Option Nat) := (flsO (q.getD 2 "")).flatMap fun fl => [lkO rs j o q fl]
def t2 (rs : List Rw) (j : Nat) (o : Str) : List (Option Nat) := (rwS rs).flatMap (t3 rs j o)
def t1 (rs : List Rw) (j : Nat) : List (Option Nat) := oL.flatMap (t2 rs j)
def toldO (rs : List Rw) (js : List Nat) : List (Option Nat) := js.flatMap (t1 rs)
theorem fm_len {α β : Type} {f : α → List β} {c : Nat} : ∀ (xs : List α), (∀ a ∈ xs, (f a).length ≤ c) → (xs.flatMap f).length ≤ xs.length * c
  | [], _ => by simp
  | a :: r, h => by
    rw [List.flatMap_cons, List.length_append, List.length_cons, Nat.succ_mul]
    have h1 := h a (by simp)
    have h2 := fm_len r fun x hx => h x (by simp [hx])
    omega
theorem t3_len {rs : List Rw} {j : Nat} {o : Str} {q : List Str} : (t3 rs j o q).length ≤ 4 := by
  unfold t3
  have := fm_len (f := fun fl => [lkO rs j o q fl]) (c := 1) (flsO (q.getD 2 "")) fun _ _ => Nat.le_refl _
  have := fls_len (q.getD 2 "")
  omega
theorem t2_len {rs : List Rw} (hl : rs.length ≤ 8) {j : Nat} {o : Str} : (t2 rs j o).length ≤ 32 := by
  unfold t2
  have h1 := fm_len (f := t3 rs j o) (c := 4) (rwS rs) fun _ _ => t3_len
  have := rws_len rs
  omega
theorem t1_len {rs : List Rw} (hl : rs.length ≤ 8) {j : Nat} : (t1 rs j).length ≤ 192 := by
  unfold t1
  have h1 := fm_len (f := t2 rs j) (c := 32) oL fun _ _ => t2_len hl
  have : oL.length = 6 := rfl
  omega
theorem told_mem {rs : List Rw} {js : List Nat} {z : Option Nat} : z ∈ toldO rs js ↔ ∃ j ∈ js, ∃ o ∈ oL, ∃ r ∈ rs, ∃ fl ∈ flsO r.f, z = fstN (hit j r.d r.k fl o) 0 rs := by
  unfold toldO t1 t2 t3
  simp only [List.mem_flatMap, List.mem_cons, List.not_mem_nil, or_false]
  constructor
  · rintro ⟨j, hj, o, ho, q, hq, fl, hfl, e⟩
    obtain ⟨r, hr, rfl⟩ := rws_mem.mp hq
    exact ⟨j, hj, o, ho, r, hr, fl, hfl, e⟩
  · rintro ⟨j, hj, o, ho, r, hr, fl, hfl, e⟩
    exact ⟨j, hj, o, ho, trp r, rws_mem.mpr ⟨r, hr, rfl⟩, fl, hfl, e⟩
theorem nmA_in {j : Nat} (h : j < 5) : nmA j ∈ oL := by
  have : j = 0 ∨ j = 1 ∨ j = 2 ∨ j = 3 ∨ j = 4 := by omega
  rcases this with rfl | rfl | rfl | rfl | rfl <;> decide +kernel
theorem told_met {rs : List Rw} (h : ∀ r ∈ rs, RwOk r) {js : List Nat} (hj : ∀ j ∈ js, j < 5) (p : Nat) : decide (some p ∈ toldO rs js) = js.any (met rs p) := by
  rw [Bool.eq_iff_iff, decide_eq_true_eq, List.any_eq_true]
  constructor
  · intro hm
    obtain ⟨j, hjs, o, _, r, hr, fl, _, e⟩ := told_mem.mp hm
    exact ⟨j, hjs, first_met h (hj j hjs) e.symm⟩
  · rintro ⟨j, hjs, hm⟩
    unfold met at hm
    cases hp : rs[p]? with
    | none => rw [hp] at hm; cases hm
    | some r =>
      rw [hp] at hm
      have hr : r ∈ rs := List.mem_of_getElem? hp
      have hm : (decide (fstN (hit j r.d r.k r.f "") 0 rs = some p) || decide (fstN (hit j r.d r.k r.f (nmA j)) 0 rs = some p)) = true := hm
      rw [Bool.or_eq_true, decide_eq_true_eq, decide_eq_true_eq] at hm
      rcases hm with e | e
      · exact told_mem.mpr ⟨j, hjs, "", by decide +kernel, r, hr, r.f, fls_mem.mpr (.inl rfl), e.symm⟩
      · exact told_mem.mpr ⟨j, hjs, nmA j, nmA_in (hj j hjs), r, hr, r.f, fls_mem.mpr (.inl rfl), e.symm⟩
end Law
namespace Law
open PySem PySem.Spec PyProof.Rows L2 DL
local instance : Tabs := ⟨[]⟩
def T4 : FS := fApp 2 (fCall m__law_let (pNm 0 (pNm 3 (pNm 5 (pNm 6 (pNm 8 (pNm 4 pNil)))))))
def T3 : FS := fFor (fSq (fSortSetL (fN (fCons (fVar 7) (fCons (fC (.str "")) (fCons (fC (.str "count")) (fCons (fC (.str "other")) fNil)))) gLst))) (gNm 8) T4
def T2 : FS := fFor (fSq (fSortSetT (fLcD (fSq (fVar 0)) (gNm 12) fYes (fSlW (fVar 12) (fSome (fC (.int (1)))) fNo) [12]))) (gTu 3 (gCo (gNm 5) (gCo (gNm 6) (gCo (gNm 7) gNo)))) T3
def T1 : FS := fFor (fSq (fN (fCons (fC (.str "")) (fCons (fC (.str "ann")) (fCons (fC (.str "bob")) (fCons (fC (.str "cy")) (fCons (fC (.str "dan")) (fCons (fC (.str "zz")) fNil)))))) gLst)) (gNm 4) T2
def aA : FE := f2 (fN (fCons (fC .none) fNil) gLst) (fLcD (fSq (fVar 1)) (gTu 3 (gCo (gNm 9) (gCo (gNm 10) (gCo (gNm 11) gNo)))) fYes (fN (fCons (fVar 9) (fCons (fVar 11) fNil)) DL.gTup) [9, 10, 11]) gAdd
theorem B_told_eq : B__law_told = fSeq (fOwn 2 (fLstF fNil)) (fSeq (fFor (fSq aA) (gNm 3) T1) (fRetO 2)) := rfl
theorem loop_app {α : Type} {g : FG} {B : FS} {mk : α → PyData} {f : α → List (Option Nat)} {P : Rho → Prop} {μ : Mu} {c M : Nat} : ∀ (xs : List α) (acc : List (Option Nat)) (ρ : Rho), (∀ a ∈ xs, (f a).length ≤ c) →
    (∀ a ∈ xs, ∀ (acc : List (Option Nat)) ρ, P ρ → acc.length + c ≤ M → ∃ ρ1 ρ2, g (mk a) ρ = some ρ1 ∧ B ρ1 (μ ++ [acc.map resD]) = some (.nx ρ2 (μ ++ [(acc ++ f a).map resD])) ∧ P ρ2) → P ρ → acc.length + xs.length * c ≤ M →
    ∃ ρ', loopF g B (xs.map mk) ρ (μ ++ [acc.map resD]) = some (.nx ρ' (μ ++ [(acc ++ xs.flatMap f).map resD])) ∧ P ρ'
  | [], acc, ρ, _, _, hp, _ => ⟨ρ, by rw [List.flatMap_nil, List.append_nil]; rfl, hp⟩
  | a :: r, acc, ρ, hc, hs, hp, hm => by
    rw [List.length_cons, Nat.succ_mul] at hm
    obtain ⟨ρ1, ρ2, e1, e2, h2⟩ := hs a (by simp) acc ρ hp (by omega)
    have hca := hc a (by simp)
    obtain ⟨ρ', e3, h3⟩ := loop_app (mk := mk) r (acc ++ f a) ρ2 (fun x hx => hc x (by simp [hx])) (fun x hx => hs x (by simp [hx])) h2 (by rw [List.length_append]; omega)
    refine ⟨ρ', ?_, h3⟩
    rw [List.map_cons, loopF_nx e1 e2, e3, List.flatMap_cons, List.append_assoc]
theorem g_last {μ : Mu} {a : List PyData} : (μ ++ [a])[μ.length]? = some a := by simp
theorem s_last {μ : Mu} {a b : List PyData} : (μ ++ [a]).set μ.length b = μ ++ [b] := by simp
theorem tk_last {μ : Mu} {a : List PyData} : (μ ++ [a]).take μ.length = μ := by simp
section
variable {rs : List Rw} {j : Nat} {o d k f fl : Str} {μ : Mu} {acc : List (Option Nat)} {s1 s3 s4 s5 s6 s7 s8 s9 s10 s11 s12 : Sl}
theorem t4_turn (h : ∀ r ∈ rs, RwOk r) (q : Qs j d k fl o) (ha : acc.length + 1 ≤ 1000) :
    T4 [.dat (.tuple (rs.map rwD)), s1, .own μ.length, .dat (askD j), .dat (.str o), .dat (.str d), .dat (.str k), s7, .dat (.str fl), s9, s10, s11, s12] (μ ++ [acc.map resD]) =
      some (.nx [.dat (.tuple (rs.map rwD)), s1, .own μ.length, .dat (askD j), .dat (.str o), .dat (.str d), .dat (.str k), s7, .dat (.str fl), s9, s10, s11, s12] (μ ++ [(acc ++ [fstN (hit j d k fl o) 0 rs]).map resD])) := by
  have hz : (acc.map resD).length < sizeLine := by rw [List.length_map]; exact Nat.lt_of_lt_of_le (show acc.length < 1000 by omega) (by decide)
  unfold T4
  simp only [defM, fSeq, fIfS, fAnd, fOr, fNot, fB, fAndV, fOrV, fNotV, fIf, fIsi, tyD, fIsA, bnd, opt, fin, fChain, f2, fN, fCons, fNil, fVar, fC, g1, gI, gIC, fRet, fExpr, fCall, pNil, pDat, pNm, fAsg, gNm, gNo, gCo, gTu, fEnd, fFor, fSq, seqD, fSg, fLcD, fLc, fYes, fM1, gSS, fM0, fSl, fNo, fSome, rd, fNmB, fNm2, fNmI, fNmT, fNmJ, fNmS, sc, isSc, fSetI, fApp, fOwn, fLstF, fCatF, fRetO, fPar, fParO, fTru, truB, List.cons_append, List.nil_append, List.getElem?_cons_zero, List.getElem?_cons_succ, List.set_cons_zero, List.set_cons_succ, List.replicate, List.length_cons, List.length_nil, Nat.reduceAdd, Nat.reduceSub, if_true, if_false, Bool.false_eq_true, ↓reduceIte, List.append_nil, gTup0, gTup1, gTup2, gTup3, gLst0, gLst1, gLst2, gLst3, gLst4, gLst5, gLst10, isa_tt, isa_ts, isa_ti, isa_tn, isa_tl, isa_ss, isa_st, isa_si, isa_sn, isa_ii, isa_ib, isa_bi, isa_bb, isa_is, isa_in, isa_it, e_let q h, g_last, if_pos hz, s_last, List.map_append, List.map_cons, List.map_nil]
theorem ss_fls : sortSetLD (.list [.str f, .str "", .str "count", .str "other"]) = some (.list ((flsO f).map PyData.str)) := by
  have e : strsOf [.str f, .str "", .str "count", .str "other"] = some [f, "", "count", "other"] := strsOf_map [f, "", "count", "other"]
  have hb : [f, "", "count", "other"].length + 1 < scanBound := by show 4 + 1 < scanBound; decide
  unfold sortSetLD
  dsimp only
  rw [e]
  simp only [opt]
  rw [if_pos hb]; rfl
theorem t3_turn (h : ∀ r ∈ rs, RwOk r) {r : Rw} (hr : r ∈ rs) (hj : j < 5) (ha : acc.length + 4 ≤ 1000) : ∃ t8,
    T3 [.dat (.tuple (rs.map rwD)), s1, .own μ.length, .dat (askD j), .dat (.str o), .dat (.str r.d), .dat (.str r.k), .dat (.str r.f), s8, s9, s10, s11, s12] (μ ++ [acc.map resD]) =
      some (.nx [.dat (.tuple (rs.map rwD)), s1, .own μ.length, .dat (askD j), .dat (.str o), .dat (.str r.d), .dat (.str r.k), .dat (.str r.f), t8, s9, s10, s11, s12] (μ ++ [(acc ++ t3 rs j o (trp r)).map resD])) := by
  have h1 : fSq (fSortSetL (fN (fCons (fVar 7) (fCons (fC (.str "")) (fCons (fC (.str "count")) (fCons (fC (.str "other")) fNil)))) gLst)) [.dat (.tuple (rs.map rwD)), s1, .own μ.length, .dat (askD j), .dat (.str o), .dat (.str r.d), .dat (.str r.k), .dat (.str r.f), s8, s9, s10, s11, s12] (μ ++ [acc.map resD]) = some ((flsO r.f).map PyData.str, μ ++ [acc.map resD]) := by
    simp only [defM, fSeq, fIfS, fAnd, fOr, fNot, fB, fAndV, fOrV, fNotV, fIf, fIsi, tyD, fIsA, bnd, opt, fin, fChain, f2, fN, fCons, fNil, fVar, fC, g1, gI, gIC, fRet, fExpr, fCall, pNil, pDat, pNm, fAsg, gNm, gNo, gCo, gTu, fEnd, fFor, fSq, seqD, fSg, fLcD, fLc, fYes, fM1, gSS, fM0, fSl, fNo, fSome, rd, fNmB, fNm2, fNmI, fNmT, fNmJ, fNmS, sc, isSc, fSetI, fApp, fOwn, fLstF, fCatF, fRetO, fPar, fParO, fTru, truB, List.cons_append, List.nil_append, List.getElem?_cons_zero, List.getElem?_cons_succ, List.set_cons_zero, List.set_cons_succ, List.replicate, List.length_cons, List.length_nil, Nat.reduceAdd, Nat.reduceSub, if_true, if_false, Bool.false_eq_true, ↓reduceIte, List.append_nil, gTup0, gTup1, gTup2, gTup3, gLst0, gLst1, gLst2, gLst3, gLst4, gLst5, gLst10, isa_tt, isa_ts, isa_ti, isa_tn, isa_tl, isa_ss, isa_st, isa_si, isa_sn, isa_ii, isa_ib, isa_bi, isa_bb, isa_is, isa_in, isa_it, fSortSetL, ss_fls]
  have hfl := fls_len r.f
  obtain ⟨ρ', e, t8, rfl⟩ := loop_app (g := gNm 8) (B := T4) (mk := PyData.str) (f := fun fl => [lkO rs j o (trp r) fl]) (μ := μ) (c := 1) (M := 1000) (P := fun ρ => ∃ t8, ρ = [.dat (.tuple (rs.map rwD)), s1, .own μ.length, .dat (askD j), .dat (.str o), .dat (.str r.d), .dat (.str r.k), .dat (.str r.f), t8, s9, s10, s11, s12])
    (flsO r.f) acc [.dat (.tuple (rs.map rwD)), s1, .own μ.length, .dat (askD j), .dat (.str o), .dat (.str r.d), .dat (.str r.k), .dat (.str r.f), s8, s9, s10, s11, s12] (fun _ _ => Nat.le_refl _) (fun fl hfl acc ρ hP hm => by
      obtain ⟨t8, rfl⟩ := hP
      have hf : fl ∈ ("" : Str) :: nmL := by
        rcases fls_mem.mp hfl with rfl | rfl | rfl | rfl
        · have := f_nm _ (h r hr).f
          simpa using this
        · decide +kernel
        · decide +kernel
        · decide +kernel
      exact ⟨_, _, rfl, t4_turn h ⟨hj, (h r hr).d, k_nm _ (h r hr).k, hf⟩ hm, _, rfl⟩) ⟨_, rfl⟩ (by omega)
  exact ⟨t8, for_of h1 e⟩
theorem ss_rws (hl : rs.length ≤ 8) : sortSetTD (.list (rs.map fun r => tupS (trp r))) = some (.list ((rwS rs).map tupS)) := by
  have e : tupsOf ((rs.map trp).map tupS) = some (rs.map trp) := tupsOf_map fun k hk => by
    obtain ⟨r, _, rfl⟩ := List.mem_map.mp hk
    exact fun z => nomatch z
  rw [List.map_map] at e
  have hb : (rs.map trp).length ≤ 8 := by rw [List.length_map]; exact hl
  unfold sortSetTD
  dsimp only
  rw [show (fun r => tupS (trp r)) = tupS ∘ trp from rfl, e]
  simp only [opt]
  rw [if_pos hb]; rfl
theorem t2_turn (h : ∀ r ∈ rs, RwOk r) (hl : rs.length ≤ 8) (hj : j < 5) (ha : acc.length + 32 ≤ 1000) : ∃ t5 t6 t7 t8,
    T2 [.dat (.tuple (rs.map rwD)), s1, .own μ.length, .dat (askD j), .dat (.str o), s5, s6, s7, s8, s9, s10, s11, s12] (μ ++ [acc.map resD]) =
      some (.nx [.dat (.tuple (rs.map rwD)), s1, .own μ.length, .dat (askD j), .dat (.str o), t5, t6, t7, t8, s9, s10, s11, s12] (μ ++ [(acc ++ t2 rs j o).map resD])) := by
  have hc : lcF (gNm 12) fYes (fSlW (fVar 12) (fSome (fC (.int (1)))) fNo) (wipeR [.dat (.tuple (rs.map rwD)), s1, .own μ.length, .dat (askD j), .dat (.str o), s5, s6, s7, s8, s9, s10, s11, s12] [12]) (rs.map rwD) (μ ++ [acc.map resD]) = some (rs.map fun r => tupS (trp r), μ ++ [acc.map resD]) :=
    lc_map _ fun r _ => ⟨_, rfl, rfl⟩
  have hd := lcD_of (fi := fSq (fVar 0)) (vs := [12]) rfl (map_len (by omega)) hc
  have h1 : fSq (fSortSetT (fLcD (fSq (fVar 0)) (gNm 12) fYes (fSlW (fVar 12) (fSome (fC (.int (1)))) fNo) [12])) [.dat (.tuple (rs.map rwD)), s1, .own μ.length, .dat (askD j), .dat (.str o), s5, s6, s7, s8, s9, s10, s11, s12] (μ ++ [acc.map resD]) = some ((rwS rs).map tupS, μ ++ [acc.map resD]) := by
    refine sq_of ?_
    unfold fSortSetT
    rw [hd]
    show fin (sortSetTD _) _ = _
    rw [ss_rws hl]; rfl
  have hrl := rws_len rs
  obtain ⟨ρ', e, t5, t6, t7, t8, rfl⟩ := loop_app (g := gTu 3 (gCo (gNm 5) (gCo (gNm 6) (gCo (gNm 7) gNo)))) (B := T3) (mk := tupS) (f := t3 rs j o) (μ := μ) (c := 4) (M := 1000) (P := fun ρ => ∃ t5 t6 t7 t8, ρ = [.dat (.tuple (rs.map rwD)), s1, .own μ.length, .dat (askD j), .dat (.str o), t5, t6, t7, t8, s9, s10, s11, s12])
    (rwS rs) acc [.dat (.tuple (rs.map rwD)), s1, .own μ.length, .dat (askD j), .dat (.str o), s5, s6, s7, s8, s9, s10, s11, s12] (fun _ _ => t3_len) (fun q hq acc ρ hP hm => by
      obtain ⟨t5, t6, t7, t8, rfl⟩ := hP
      obtain ⟨r, hr, rfl⟩ := rws_mem.mp hq
      obtain ⟨u8, e⟩ := t3_turn (s1 := s1) (o := o) (μ := μ) (acc := acc) (s8 := t8) (s9 := s9) (s10 := s10) (s11 := s11) (s12 := s12) h hr hj hm
      exact ⟨_, _, rfl, e, _, _, _, _, rfl⟩) ⟨_, _, _, _, rfl⟩ (by omega)
  exact ⟨t5, t6, t7, t8, for_of h1 e⟩
theorem gLst6' (a b c d e f : PyData) : gLst [a, b, c, d, e, f] = some (.list [a, b, c, d, e, f]) := gLst_ok (by simp)
theorem t1_turn (h : ∀ r ∈ rs, RwOk r) (hl : rs.length ≤ 8) (hj : j < 5) (ha : acc.length + 192 ≤ 1000) : ∃ t4 t5 t6 t7 t8,
    T1 [.dat (.tuple (rs.map rwD)), s1, .own μ.length, .dat (askD j), s4, s5, s6, s7, s8, s9, s10, s11, s12] (μ ++ [acc.map resD]) =
      some (.nx [.dat (.tuple (rs.map rwD)), s1, .own μ.length, .dat (askD j), t4, t5, t6, t7, t8, s9, s10, s11, s12] (μ ++ [(acc ++ t1 rs j).map resD])) := by
  have h1 : fSq (fN (fCons (fC (.str "")) (fCons (fC (.str "ann")) (fCons (fC (.str "bob")) (fCons (fC (.str "cy")) (fCons (fC (.str "dan")) (fCons (fC (.str "zz")) fNil)))))) gLst) [.dat (.tuple (rs.map rwD)), s1, .own μ.length, .dat (askD j), s4, s5, s6, s7, s8, s9, s10, s11, s12] (μ ++ [acc.map resD]) = some (oL.map PyData.str, μ ++ [acc.map resD]) := by
    simp only [defM, fSeq, fIfS, fAnd, fOr, fNot, fB, fAndV, fOrV, fNotV, fIf, fIsi, tyD, fIsA, bnd, opt, fin, fChain, f2, fN, fCons, fNil, fVar, fC, g1, gI, gIC, fRet, fExpr, fCall, pNil, pDat, pNm, fAsg, gNm, gNo, gCo, gTu, fEnd, fFor, fSq, seqD, fSg, fLcD, fLc, fYes, fM1, gSS, fM0, fSl, fNo, fSome, rd, fNmB, fNm2, fNmI, fNmT, fNmJ, fNmS, sc, isSc, fSetI, fApp, fOwn, fLstF, fCatF, fRetO, fPar, fParO, fTru, truB, List.cons_append, List.nil_append, List.getElem?_cons_zero, List.getElem?_cons_succ, List.set_cons_zero, List.set_cons_succ, List.replicate, List.length_cons, List.length_nil, Nat.reduceAdd, Nat.reduceSub, if_true, if_false, Bool.false_eq_true, ↓reduceIte, List.append_nil, gTup0, gTup1, gTup2, gTup3, gLst0, gLst1, gLst2, gLst3, gLst4, gLst5, gLst10, isa_tt, isa_ts, isa_ti, isa_tn, isa_tl, isa_ss, isa_st, isa_si, isa_sn, isa_ii, isa_ib, isa_bi, isa_bb, isa_is, isa_in, isa_it, gLst6']
    rfl
  have ho : oL.length = 6 := rfl
  obtain ⟨ρ', e, t4, t5, t6, t7, t8, rfl⟩ := loop_app (g := gNm 4) (B := T2) (mk := PyData.str) (f := t2 rs j) (μ := μ) (c := 32) (M := 1000) (P := fun ρ => ∃ t4 t5 t6 t7 t8, ρ = [.dat (.tuple (rs.map rwD)), s1, .own μ.length, .dat (askD j), t4, t5, t6, t7, t8, s9, s10, s11, s12])
    oL acc [.dat (.tuple (rs.map rwD)), s1, .own μ.length, .dat (askD j), s4, s5, s6, s7, s8, s9, s10, s11, s12] (fun _ _ => t2_len hl) (fun o hq acc ρ hP hm => by
      obtain ⟨t4, t5, t6, t7, t8, rfl⟩ := hP
      obtain ⟨u5, u6, u7, u8, e⟩ := t2_turn (s1 := s1) (o := o) (μ := μ) (acc := acc) (s5 := t5) (s6 := t6) (s7 := t7) (s8 := t8) (s9 := s9) (s10 := s10) (s11 := s11) (s12 := s12) h hl hj hm
      exact ⟨_, _, rfl, e, _, _, _, _, _, rfl⟩) ⟨_, _, _, _, _, rfl⟩ (by omega)
  exact ⟨t4, t5, t6, t7, t8, for_of h1 e⟩
end
theorem e_told {rs : List Rw} (h : ∀ r ∈ rs, RwOk r) (hl : rs.length ≤ 8) {ps : List Nat} (hp : PsOk ps) (μ : Mu) :
    m__law_told [.dat (.tuple (rs.map rwD)), .dat (.tuple (ps.map perD))] μ = some (.list ((toldO rs (0 :: ps)).map resD), μ) := by
  have hpl := hp.lt.1
  have hc : lcF (gTu 3 (gCo (gNm 9) (gCo (gNm 10) (gCo (gNm 11) gNo)))) fYes (fN (fCons (fVar 9) (fCons (fVar 11) fNil)) DL.gTup) (wipeR [.dat (.tuple (rs.map rwD)), .dat (.tuple (ps.map perD)), .own μ.length, .un, .un, .un, .un, .un, .un, .un, .un, .un, .un] [9, 10, 11]) (ps.map perD) (μ ++ [[]]) = some (ps.map askD, μ ++ [[]]) :=
    lc_map ps fun p hpp => by
      have := hp.lt.2 p hpp
      rcases this with rfl | rfl | rfl | rfl <;> exact ⟨_, rfl, by simp only [defM, fSeq, fIfS, fAnd, fOr, fNot, fB, fAndV, fOrV, fNotV, fIf, fIsi, tyD, fIsA, bnd, opt, fin, fChain, f2, fN, fCons, fNil, fVar, fC, g1, gI, gIC, fRet, fExpr, fCall, pNil, pDat, pNm, fAsg, gNm, gNo, gCo, gTu, fEnd, fFor, fSq, seqD, fSg, fLcD, fLc, fYes, fM1, gSS, fM0, fSl, fNo, fSome, rd, fNmB, fNm2, fNmI, fNmT, fNmJ, fNmS, sc, isSc, fSetI, fApp, fOwn, fLstF, fCatF, fRetO, fPar, fParO, fTru, truB, List.cons_append, List.nil_append, List.getElem?_cons_zero, List.getElem?_cons_succ, List.set_cons_zero, List.set_cons_succ, List.replicate, List.length_cons, List.length_nil, Nat.reduceAdd, Nat.reduceSub, if_true, if_false, Bool.false_eq_true, ↓reduceIte, List.append_nil, gTup0, gTup1, gTup2, gTup3, gLst0, gLst1, gLst2, gLst3, gLst4, gLst5, gLst10, isa_tt, isa_ts, isa_ti, isa_tn, isa_tl, isa_ss, isa_st, isa_si, isa_sn, isa_ii, isa_ib, isa_bi, isa_bb, isa_is, isa_in, isa_it, wipeR, gTup2]; rfl⟩
  have hd := lcD_of (fi := fSq (fVar 1)) (vs := [9, 10, 11]) rfl (map_len (by omega)) hc
  have ea : gAdd (.list [.none]) (.list (ps.map askD)) = some (.list ((0 :: ps).map askD)) := by
    rw [addL (by rw [List.length_map]; simp; omega)]; rfl
  have e2 : aA [.dat (.tuple (rs.map rwD)), .dat (.tuple (ps.map perD)), .own μ.length, .un, .un, .un, .un, .un, .un, .un, .un, .un, .un] (μ ++ [[]]) = some (.list ((0 :: ps).map askD), μ ++ [[]]) := by
    unfold aA f2
    show bnd (fLcD _ _ _ _ _ _ _) _ = _
    rw [hd]
    show fin (gAdd _ _) _ = _
    rw [ea]; rfl
  obtain ⟨ρ', e, t3, t4, t5, t6, t7, t8, rfl⟩ := loop_app (g := gNm 3) (B := T1) (mk := askD) (f := t1 rs) (μ := μ) (c := 192) (M := 1000) (P := fun ρ => ∃ t3 t4 t5 t6 t7 t8, ρ = [.dat (.tuple (rs.map rwD)), .dat (.tuple (ps.map perD)), .own μ.length, t3, t4, t5, t6, t7, t8, .un, .un, .un, .un])
    (0 :: ps) [] [.dat (.tuple (rs.map rwD)), .dat (.tuple (ps.map perD)), .own μ.length, .un, .un, .un, .un, .un, .un, .un, .un, .un, .un] (fun _ _ => t1_len hl) (fun j hjs acc ρ hP hm => by
      obtain ⟨t3, t4, t5, t6, t7, t8, rfl⟩ := hP
      obtain ⟨u4, u5, u6, u7, u8, e⟩ := t1_turn (s1 := .dat (.tuple (ps.map perD))) (μ := μ) (acc := acc) (s4 := t4) (s5 := t5) (s6 := t6) (s7 := t7) (s8 := t8) (s9 := .un) (s10 := .un) (s11 := .un) (s12 := .un) h hl (js_lt hp j hjs) hm
      exact ⟨_, _, rfl, e, _, _, _, _, _, _, rfl⟩) ⟨_, _, _, _, _, _, rfl⟩ (by rw [List.length_cons]; simp; omega)
  have eB : B__law_told [.dat (.tuple (rs.map rwD)), .dat (.tuple (ps.map perD)), .un, .un, .un, .un, .un, .un, .un, .un, .un, .un, .un] μ = some (.rt (.own μ.length) (μ ++ [(toldO rs (0 :: ps)).map resD])) := by
    rw [B_told_eq]
    have hz : (0 : Nat) ≤ sizeLine := Nat.zero_le _
    rw [seq_nx (ρ1 := [.dat (.tuple (rs.map rwD)), .dat (.tuple (ps.map perD)), .own μ.length, .un, .un, .un, .un, .un, .un, .un, .un, .un, .un]) (m1 := μ ++ [[]]) (by simp only [defM, fSeq, fIfS, fAnd, fOr, fNot, fB, fAndV, fOrV, fNotV, fIf, fIsi, tyD, fIsA, bnd, opt, fin, fChain, f2, fN, fCons, fNil, fVar, fC, g1, gI, gIC, fRet, fExpr, fCall, pNil, pDat, pNm, fAsg, gNm, gNo, gCo, gTu, fEnd, fFor, fSq, seqD, fSg, fLcD, fLc, fYes, fM1, gSS, fM0, fSl, fNo, fSome, rd, fNmB, fNm2, fNmI, fNmT, fNmJ, fNmS, sc, isSc, fSetI, fApp, fOwn, fLstF, fCatF, fRetO, fPar, fParO, fTru, truB, List.cons_append, List.nil_append, List.getElem?_cons_zero, List.getElem?_cons_succ, List.set_cons_zero, List.set_cons_succ, List.replicate, List.length_cons, List.length_nil, Nat.reduceAdd, Nat.reduceSub, if_true, if_false, Bool.false_eq_true, ↓reduceIte, List.append_nil, gTup0, gTup1, gTup2, gTup3, gLst0, gLst1, gLst2, gLst3, gLst4, gLst5, gLst10, isa_tt, isa_ts, isa_ti, isa_tn, isa_tl, isa_ss, isa_st, isa_si, isa_sn, isa_ii, isa_ib, isa_bi, isa_bb, isa_is, isa_in, isa_it, if_pos hz]),
      seq_nx (for_of (sq_of e2) e)]
    rfl
  show defM 2 13 B__law_told [.dat (.tuple (rs.map rwD)), .dat (.tuple (ps.map perD))] μ = _
  rw [defM_ro (n := 2) (nn := 13) (B := B__law_told) (ρ := [.dat (.tuple (rs.map rwD)), .dat (.tuple (ps.map perD))]) (μ := μ) eB (Nat.le_refl _) g_last, tk_last]
theorem lay_res : ∀ (xs : List (Option Nat)), PyData.canLayAll0 (xs.map resD) = true
  | [] => rfl
  | x :: r => by
    rw [List.map_cons]
    show (PyData.canLay0 (resD x) && PyData.canLayAll0 (r.map resD)) = true
    rw [lay_res r]
    cases x <;> rfl
theorem in_told (i : Nat) (xs : List (Option Nat)) : gInD true (.int (i : Nat)) (.list (xs.map resD)) = some (.bool (!decide (some i ∈ xs))) := by
  show opt (inD _ _) _ = _
  unfold inD
  rw [if_pos ⟨rfl, lay_res xs⟩]
  show some (PyData.bool (!List.any _ _)) = _
  congr 3
  rw [List.any_map, Bool.eq_iff_iff]
  simp only [List.any_eq_true, decide_eq_true_eq, Function.comp_apply, eqv_res]
  constructor
  · rintro ⟨y, hy, e⟩
    rw [← e]; exact hy
  · intro h
    exact ⟨some i, h, rfl⟩
end Law
namespace Law
open PySem PySem.Spec PyProof.Rows L2 DL
local instance : Tabs := ⟨[]⟩
def dueF : FE := fN (fCons (fLcD (fRg1 (fN (fCons (fVar 8) fNil) (g1 lenD))) (gNm 10) (fB (f2 (fVar 10) (fVar 6) (gInD true))) (fVar 10) [10]) fNil) (g1 tupleD)
def tB : FS := (fSeq (fPar 8 9 (fCons (fCall m__law_rules (pNm 4 (pDat (fCall m__law_kinds (pNm 4 pNil)) pNil))) (fCons (fCall m__law_people (pNm 4 pNil)) fNil)))
  (fSeq (fAsg (fCall m__law_told (pNm 8 (pNm 9 pNil))) (gNm 6))
  (fSeq (fAsg dueF (gNm 7))
  (fIfS (fB (f2 (fN (fCons (fCall m_nobody (pNm 8 (pNm 9 pNil))) fNil) (g1 reprD)) (fN (fCons (fVar 7) fNil) (g1 reprD)) gNe))
    (fRet (fC (.bool false)))
    fEnd))))
def clB : FS := (fSeq (fOwn 4 (fCallN m__law_pen (pNm 3 pNil))) (fFor (fRg1 (fC (.int (4)))) (gNm 5) tB))
def fstD : PyData := .tuple [(.tuple [(.str "all"), (.str "see"), (.str "note"), (.str "count")]), (.tuple [(.str "known"), (.str "see"), (.str "note"), (.str "")]), (.tuple [(.str "own"), (.str "see"), (.str "note"), (.str "")])]
def bthD : PyData := .tuple [(.tuple [(.tuple [(.str "role"), (.str "a")]), (.str "see"), (.str "note"), (.str "")]), (.tuple [(.tuple [(.str "role"), (.str "b")]), (.str "see"), (.str "note"), (.str "")]), (.tuple [(.str "known"), (.str "see"), (.str "note"), (.str "")])]
theorem B_law_eq : B_law = (fSeq (fAsg (fC fstD) (gNm 1))
  (fSeq (fIfS (fOr (fB (f2 (fCall m_nobody (pNm 1 (pDat (fC (.tuple [])) pNil))) (fC (.tuple [(.int (1)), (.int (2))])) gNe)) (fB (f2 (fCall m_nobody (pNm 1 (pDat (fC (.tuple [(.tuple [(.str "ann"), (.str "pw"), (.tuple [])])])) pNil))) (fC (.tuple [(.int (2))])) gNe)))
    (fRet (fC (.bool false)))
    fEnd)
  (fSeq (fAsg (fC bthD) (gNm 2))
  (fSeq (fIfS (fB (f2 (fCall m_nobody (pNm 2 (pDat (fC (.tuple [(.tuple [(.str "ann"), (.str "x"), (.tuple [(.str "a")])]), (.tuple [(.str "bob"), (.str "y"), (.tuple [(.str "b")])])])) pNil))) (fC (.tuple [(.int (2))])) gNe))
    (fRet (fC (.bool false)))
    fEnd)
  (fSeq (fFor (fSq (f2 (fN (fCons (fCall m__law_cell (pNm 0 (pDat (fC (.int (0))) pNil))) fNil) gLst) (fSlW (fVar 0) (fSome (fC (.int (1)))) (fSome (fC (.int (2))))) gAdd)) (gNm 3) clB)
  (fRet (fC (.bool true)))))))) := rfl
theorem f_one : m_nobody [.dat fstD, .dat (.tuple [])] [] = some (.tuple [.int 1, .int 2], []) := by kernel_rfl
theorem f_two : m_nobody [.dat fstD, .dat (.tuple [(.tuple [(.str "ann"), (.str "pw"), (.tuple [])])])] [] = some (.tuple [.int 2], []) := by kernel_rfl
theorem f_three : m_nobody [.dat bthD, .dat (.tuple [(.tuple [(.str "ann"), (.str "x"), (.tuple [(.str "a")])]), (.tuple [(.str "bob"), (.str "y"), (.tuple [(.str "b")])])])] [] = some (.tuple [.int 2], []) := by kernel_rfl
theorem ne_12 : gNe (.tuple [.int 1, .int 2]) (.tuple [.int 1, .int 2]) = some (.bool false) := by kernel_rfl
theorem ne_2 : gNe (.tuple [.int 2]) (.tuple [.int 2]) = some (.bool false) := by kernel_rfl
theorem ne_s (x : Str) : gNe (.str x) (.str x) = some (.bool false) := by
  show some (PyData.bool (!decide (x = x))) = _
  rw [decide_eq_true rfl]; rfl
section
variable {rs : List Rw} {ps : List Nat} {μ : Mu} {s0 s1 s2 s3 s4 s5 s6 s7 s10 : Sl}
theorem due_ok (h : ∀ r ∈ rs, RwOk r) (hl : rs.length ≤ 8) (hp : PsOk ps) :
    dueF [s0, s1, s2, s3, s4, s5, .dat (.list ((toldO rs (0 :: ps)).map resD)), s7, .dat (.tuple (rs.map rwD)), .dat (.tuple (ps.map perD)), s10] μ = some (.tuple ((nob rs (0 :: ps)).map intN), μ) := by
  have hr : fRg1 (fN (fCons (fVar 8) fNil) (g1 lenD)) [s0, s1, s2, s3, s4, s5, .dat (.list ((toldO rs (0 :: ps)).map resD)), s7, .dat (.tuple (rs.map rwD)), .dat (.tuple (ps.map perD)), s10] μ = some ((List.range rs.length).map intN, μ) := by
    rw [← rg_map]
    exact rg1_ok (by simp only [defM, fSeq, fIfS, fAnd, fOr, fNot, fB, fAndV, fOrV, fNotV, fIf, fIsi, tyD, fIsA, bnd, opt, fin, fChain, f2, fN, fCons, fNil, fVar, fC, g1, gI, gIC, fRet, fExpr, fCall, pNil, pDat, pNm, fAsg, gNm, gNo, gCo, gTu, fEnd, fFor, fSq, seqD, fSg, fLcD, fLc, fYes, fM1, gSS, fM0, fSl, fNo, fSome, rd, fNmB, fNm2, fNmI, fNmT, fNmJ, fNmS, sc, isSc, fSetI, fApp, fOwn, fLstF, fCatF, fRetO, fPar, fParO, fTru, truB, List.cons_append, List.nil_append, List.getElem?_cons_zero, List.getElem?_cons_succ, List.set_cons_zero, List.set_cons_succ, List.replicate, List.length_cons, List.length_nil, Nat.reduceAdd, Nat.reduceSub, if_true, if_false, Bool.false_eq_true, ↓reduceIte, List.append_nil, gTup0, gTup1, gTup2, gTup3, gLst0, gLst1, gLst2, gLst3, gLst4, gLst5, gLst10, isa_tt, isa_ts, isa_ti, isa_tn, isa_tl, isa_ss, isa_st, isa_si, isa_sn, isa_ii, isa_ib, isa_bi, isa_bb, isa_is, isa_in, isa_it, lenD, List.length_map]) (by omega)
  have hc : lcF (gNm 10) (fB (f2 (fVar 10) (fVar 6) (gInD true))) (fVar 10) (wipeR [s0, s1, s2, s3, s4, s5, .dat (.list ((toldO rs (0 :: ps)).map resD)), s7, .dat (.tuple (rs.map rwD)), .dat (.tuple (ps.map perD)), s10] [10]) ((List.range rs.length).map intN) μ = some ((nob rs (0 :: ps)).map intN, μ) :=
    lc_filt _ fun i hi => ⟨_, rfl, by
      refine b2_of rfl rfl ?_
      show gInD true (.int (i : Nat)) (.list ((toldO rs (0 :: ps)).map resD)) = _
      rw [in_told, told_met h (js_lt hp)]; rfl, fun _ => rfl⟩
  have hs : ((List.range rs.length).map intN).length ≤ sizeLine := map_len (by rw [List.length_range]; omega)
  exact n1_of (lcD_of hr hs hc) rfl
theorem nob_rp (hl : rs.length ≤ 8) : ∃ x, reprD (.tuple ((nob rs (0 :: ps)).map intN)) = some (.str x) := by
  have hn : (nob rs (0 :: ps)).length ≤ 8 := by
    unfold nob
    exact Nat.le_trans (List.length_filter_le _ _) (by rw [List.length_range]; exact hl)
  refine ⟨_, (Rp.tup (n := 60) (k := 0) (m := 8) (fun d hd => ?_) (by rw [List.length_map]; exact hn)).repr (by decide) (by decide)⟩
  obtain ⟨i, hi, rfl⟩ := List.mem_map.mp hd
  have : i < rs.length := by
    unfold nob at hi
    exact List.mem_range.mp (List.mem_filter.mp hi).1
  exact Rp.intv (by omega) (by omega)
theorem tr_turn {base : Mu} {x f : Int} {s8 s9 : Sl} : ∃ (x' : Int) (t6 t7 t8 t9 : Sl),
    tB [s0, s1, s2, s3, .own base.length, s5, s6, s7, s8, s9, s10] (base ++ [[.int x, .int f]]) = some (.nx [s0, s1, s2, s3, .own base.length, s5, t6, t7, t8, t9, s10] (base ++ [[.int x', .int f]])) := by
  obtain ⟨ks, x1, hk, e2⟩ := e_kinds (base := base) (t := []) (x := x) (f := f)
  have hkl : 1 ≤ ks.length ∧ ks.length ≤ 4 := by
    obtain ⟨c, c1, c4, e⟩ := hk.ns
    have := congrArg List.length e
    rw [List.length_map, List.length_take] at this
    have : kL.length = 4 := rfl
    omega
  obtain ⟨rs, x2, hr, hrl, e3⟩ := e_lrules (base := base) (t := []) (x := x1) (f := f) (ks := ks.map kdD) (fun y hy => by
    obtain ⟨k, hkk, rfl⟩ := List.mem_map.mp hy
    exact kd_kok (hk.ok k hkk)) (by rw [List.length_map]; exact hkl.1) (by rw [List.length_map]; exact hkl.2)
  obtain ⟨ps, x3, hp, e4⟩ := e_lpeople (base := base) (t := []) (x := x2) (f := f)
  obtain ⟨z, ez⟩ := nob_rp (rs := rs) (ps := ps) hrl
  have e5 := e_told hr hrl hp (base ++ [[.int x3, .int f]])
  have e6 := e_nobody hr (by omega) hp (base ++ [[.int x3, .int f]])
  refine ⟨x3, .dat (.list ((toldO rs (0 :: ps)).map resD)), .dat (.tuple ((nob rs (0 :: ps)).map intN)), .dat (.tuple (rs.map rwD)), .dat (.tuple (ps.map perD)), ?_⟩
  unfold tB
  rw [seq_nx (ρ1 := [s0, s1, s2, s3, .own base.length, s5, s6, s7, .dat (.tuple (rs.map rwD)), .dat (.tuple (ps.map perD)), s10]) (m1 := base ++ [[.int x3, .int f]]) (by simp only [defM, fSeq, fIfS, fAnd, fOr, fNot, fB, fAndV, fOrV, fNotV, fIf, fIsi, tyD, fIsA, bnd, opt, fin, fChain, f2, fN, fCons, fNil, fVar, fC, g1, gI, gIC, fRet, fExpr, fCall, pNil, pDat, pNm, fAsg, gNm, gNo, gCo, gTu, fEnd, fFor, fSq, seqD, fSg, fLcD, fLc, fYes, fM1, gSS, fM0, fSl, fNo, fSome, rd, fNmB, fNm2, fNmI, fNmT, fNmJ, fNmS, sc, isSc, fSetI, fApp, fOwn, fLstF, fCatF, fRetO, fPar, fParO, fTru, truB, List.cons_append, List.nil_append, List.getElem?_cons_zero, List.getElem?_cons_succ, List.set_cons_zero, List.set_cons_succ, List.replicate, List.length_cons, List.length_nil, Nat.reduceAdd, Nat.reduceSub, if_true, if_false, Bool.false_eq_true, ↓reduceIte, List.append_nil, gTup0, gTup1, gTup2, gTup3, gLst0, gLst1, gLst2, gLst3, gLst4, gLst5, gLst10, isa_tt, isa_ts, isa_ti, isa_tn, isa_tl, isa_ss, isa_st, isa_si, isa_sn, isa_ii, isa_ib, isa_bi, isa_bb, isa_is, isa_in, isa_it, e2, e3, e4]),
    seq_nx (ρ1 := [s0, s1, s2, s3, .own base.length, s5, .dat (.list ((toldO rs (0 :: ps)).map resD)), s7, .dat (.tuple (rs.map rwD)), .dat (.tuple (ps.map perD)), s10]) (m1 := base ++ [[.int x3, .int f]]) (by simp only [defM, fSeq, fIfS, fAnd, fOr, fNot, fB, fAndV, fOrV, fNotV, fIf, fIsi, tyD, fIsA, bnd, opt, fin, fChain, f2, fN, fCons, fNil, fVar, fC, g1, gI, gIC, fRet, fExpr, fCall, pNil, pDat, pNm, fAsg, gNm, gNo, gCo, gTu, fEnd, fFor, fSq, seqD, fSg, fLcD, fLc, fYes, fM1, gSS, fM0, fSl, fNo, fSome, rd, fNmB, fNm2, fNmI, fNmT, fNmJ, fNmS, sc, isSc, fSetI, fApp, fOwn, fLstF, fCatF, fRetO, fPar, fParO, fTru, truB, List.cons_append, List.nil_append, List.getElem?_cons_zero, List.getElem?_cons_succ, List.set_cons_zero, List.set_cons_succ, List.replicate, List.length_cons, List.length_nil, Nat.reduceAdd, Nat.reduceSub, if_true, if_false, Bool.false_eq_true, ↓reduceIte, List.append_nil, gTup0, gTup1, gTup2, gTup3, gLst0, gLst1, gLst2, gLst3, gLst4, gLst5, gLst10, isa_tt, isa_ts, isa_ti, isa_tn, isa_tl, isa_ss, isa_st, isa_si, isa_sn, isa_ii, isa_ib, isa_bi, isa_bb, isa_is, isa_in, isa_it, e5]),
    seq_nx (asg_of (due_ok hr hrl hp) rfl)]
  simp only [defM, fSeq, fIfS, fAnd, fOr, fNot, fB, fAndV, fOrV, fNotV, fIf, fIsi, tyD, fIsA, bnd, opt, fin, fChain, f2, fN, fCons, fNil, fVar, fC, g1, gI, gIC, fRet, fExpr, fCall, pNil, pDat, pNm, fAsg, gNm, gNo, gCo, gTu, fEnd, fFor, fSq, seqD, fSg, fLcD, fLc, fYes, fM1, gSS, fM0, fSl, fNo, fSome, rd, fNmB, fNm2, fNmI, fNmT, fNmJ, fNmS, sc, isSc, fSetI, fApp, fOwn, fLstF, fCatF, fRetO, fPar, fParO, fTru, truB, List.cons_append, List.nil_append, List.getElem?_cons_zero, List.getElem?_cons_succ, List.set_cons_zero, List.set_cons_succ, List.replicate, List.length_cons, List.length_nil, Nat.reduceAdd, Nat.reduceSub, if_true, if_false, Bool.false_eq_true, ↓reduceIte, List.append_nil, gTup0, gTup1, gTup2, gTup3, gLst0, gLst1, gLst2, gLst3, gLst4, gLst5, gLst10, isa_tt, isa_ts, isa_ti, isa_tn, isa_tl, isa_ss, isa_st, isa_si, isa_sn, isa_ii, isa_ib, isa_bi, isa_bb, isa_is, isa_in, isa_it, e6, ez, ne_s]
theorem cl_turn {c : Int} {base : Mu} {s8 s9 : Sl} : ∃ (m' : Mu) (ρ' : Rho), ρ'.length = 11 ∧ clB [s0, s1, s2, .dat (.int c), s4, s5, s6, s7, s8, s9, s10] base = some (.nx ρ' m') := by
  obtain ⟨f, e1⟩ := e_pen (c := c) base
  have hr : fRg1 (fC (.int 4)) [s0, s1, s2, .dat (.int c), .own base.length, s5, s6, s7, s8, s9, s10] (base ++ [[.int c, .int f]]) = some (rgD 0 4, base ++ [[.int c, .int f]]) := rg1_ok (n := 4) rfl (by decide)
  obtain ⟨ρ', m', e, x', t5, t6, t7, t8, t9, rfl, rfl⟩ := loop_inv (g := gNm 5) (B := tB) (P := fun ρ m => ∃ (x : Int) (t5 t6 t7 t8 t9 : Sl), ρ = [s0, s1, s2, .dat (.int c), .own base.length, t5, t6, t7, t8, t9, s10] ∧ m = base ++ [[.int x, .int f]]) (rgD 0 4) (fun d hd ρ m hP => by
    obtain ⟨x, t5, t6, t7, t8, t9, rfl, rfl⟩ := hP
    obtain ⟨x', u6, u7, u8, u9, e⟩ := tr_turn (s0 := s0) (s1 := s1) (s2 := s2) (s3 := .dat (.int c)) (s5 := .dat d) (s6 := t6) (s7 := t7) (s8 := t8) (s9 := t9) (s10 := s10) (base := base) (x := x) (f := f)
    exact ⟨_, _, _, rfl, e, _, _, _, _, _, _, rfl, rfl⟩) [s0, s1, s2, .dat (.int c), .own base.length, s5, s6, s7, s8, s9, s10] (base ++ [[.int c, .int f]]) ⟨_, _, _, _, _, _, rfl, rfl⟩
  refine ⟨base ++ [[.int x', .int f]], [s0, s1, s2, .dat (.int c), .own base.length, t5, t6, t7, t8, t9, s10], rfl, ?_⟩
  unfold clB
  rw [seq_nx (ρ1 := [s0, s1, s2, .dat (.int c), .own base.length, s5, s6, s7, s8, s9, s10]) (m1 := base ++ [[.int c, .int f]]) (by simp only [defM, fSeq, fIfS, fAnd, fOr, fNot, fB, fAndV, fOrV, fNotV, fIf, fIsi, tyD, fIsA, bnd, opt, fin, fChain, f2, fN, fCons, fNil, fVar, fC, g1, gI, gIC, fRet, fExpr, fCall, pNil, pDat, pNm, fAsg, gNm, gNo, gCo, gTu, fEnd, fFor, fSq, seqD, fSg, fLcD, fLc, fYes, fM1, gSS, fM0, fSl, fNo, fSome, rd, fNmB, fNm2, fNmI, fNmT, fNmJ, fNmS, sc, isSc, fSetI, fApp, fOwn, fLstF, fCatF, fRetO, fPar, fParO, fTru, truB, List.cons_append, List.nil_append, List.getElem?_cons_zero, List.getElem?_cons_succ, List.set_cons_zero, List.set_cons_succ, List.replicate, List.length_cons, List.length_nil, Nat.reduceAdd, Nat.reduceSub, if_true, if_false, Bool.false_eq_true, ↓reduceIte, List.append_nil, gTup0, gTup1, gTup2, gTup3, gLst0, gLst1, gLst2, gLst3, gLst4, gLst5, gLst10, isa_tt, isa_ts, isa_ti, isa_tn, isa_tl, isa_ss, isa_st, isa_si, isa_sn, isa_ii, isa_ib, isa_bi, isa_bb, isa_is, isa_in, isa_it, fCallN, e1])]
  exact for_of hr e
theorem cl_loop (zs : List Int) {base : Mu} : ∀ ρ : Rho, ρ.length = 11 → ∃ ρ' m', loopF (gNm 3) clB (zs.map PyData.int) ρ base = some (.nx ρ' m') := by
  intro ρ hρ
  obtain ⟨ρ', μ', e, _⟩ := loop_inv (g := gNm 3) (B := clB) (P := fun ρ _ => ρ.length = 11) (zs.map PyData.int) (fun d hd ρ m hP => by
    obtain ⟨c, _, rfl⟩ := List.mem_map.mp hd
    match ρ, hP with
    | [t0, t1, t2, t3, t4, t5, t6, t7, t8, t9, t10], _ =>
      obtain ⟨m', ρ', hl, e⟩ := cl_turn (s0 := t0) (s1 := t1) (s2 := t2) (c := c) (s4 := t4) (s5 := t5) (s6 := t6) (s7 := t7) (s8 := t8) (s9 := t9) (s10 := t10) (base := m)
      exact ⟨_, _, _, rfl, e, hl⟩) ρ base hρ
  exact ⟨ρ', μ', e⟩
end
theorem main (ns : List Int) (h : ns.length ≤ 63) : m_law [.dat (.list (ns.map PyData.int))] [] = some (.bool true, []) := by
  obtain ⟨z, ez⟩ := e_cell h []
  have hs : ∃ zs : List Int, zs.length ≤ 63 ∧ slW (.list (ns.map PyData.int)) (some 1) (some 2) = some (.list (zs.map PyData.int)) := by
    refine ⟨(ns.drop (HT.sIx (ns.map PyData.int).length 0 (some 1))).take (HT.sIx (ns.map PyData.int).length (ns.map PyData.int).length (some 2) - HT.sIx (ns.map PyData.int).length 0 (some 1)), ?_, ?_⟩
    · rw [List.length_take, List.length_drop]; omega
    · show some (PyData.list (DL.cutD _ _ _)) = _
      unfold DL.cutD
      rw [List.map_take, List.map_drop]
  obtain ⟨zs, hz, es⟩ := hs
  have ea : gAdd (.list [.int z]) (.list (zs.map PyData.int)) = some (.list ((z :: zs).map PyData.int)) := by
    rw [addL (by rw [List.length_map]; simp; omega)]; rfl
  have hzl : ((z :: zs).map PyData.int).length ≤ sizeLine := map_len (by simp; omega)
  obtain ⟨ρ', m', e⟩ := cl_loop (z :: zs) (base := []) [.dat (.list (ns.map PyData.int)), .dat fstD, .dat bthD, .un, .un, .un, .un, .un, .un, .un, .un] rfl
  unfold m_law
  rw [B_law_eq]
  simp only [defM, fSeq, fIfS, fAnd, fOr, fNot, fB, fAndV, fOrV, fNotV, fIf, fIsi, tyD, fIsA, bnd, opt, fin, fChain, f2, fN, fCons, fNil, fVar, fC, g1, gI, gIC, fRet, fExpr, fCall, pNil, pDat, pNm, fAsg, gNm, gNo, gCo, gTu, fEnd, fFor, fSq, seqD, fSg, fLcD, fLc, fYes, fM1, gSS, fM0, fSl, fNo, fSome, rd, fNmB, fNm2, fNmI, fNmT, fNmJ, fNmS, sc, isSc, fSetI, fApp, fOwn, fLstF, fCatF, fRetO, fPar, fParO, fTru, truB, List.cons_append, List.nil_append, List.getElem?_cons_zero, List.getElem?_cons_succ, List.set_cons_zero, List.set_cons_succ, List.replicate, List.length_cons, List.length_nil, Nat.reduceAdd, Nat.reduceSub, if_true, if_false, Bool.false_eq_true, ↓reduceIte, List.append_nil, gTup0, gTup1, gTup2, gTup3, gLst0, gLst1, gLst2, gLst3, gLst4, gLst5, gLst10, isa_tt, isa_ts, isa_ti, isa_tn, isa_tl, isa_ss, isa_st, isa_si, isa_sn, isa_ii, isa_ib, isa_bi, isa_bb, isa_is, isa_in, isa_it, f_one, f_two, f_three, ne_12, ne_2, ez, fSlW, es, ea, e, List.take_zero]
end Law
set_option maxHeartbeats 0
namespace Law
open PySem PySem.Spec PyProof.Rows L2 DL
local instance : Tabs := ⟨[]⟩
section
variable {P : Program} {w : World} {K : PySem.W.Frag} {mg : Str → Option Value} {base : Heap}
theorem ok_law {f : Addr} {fd : FuncData} (F0 : Fun K "law" "law" s_law f fd) (T : Txt K mg) (F__law_cell : Fn P w K mg base "_law_cell" ["_law_script", "_law_k"] 1 (spD K m__law_cell 2)) (F_nobody : Fn P w K mg base "nobody" ["rules", "people"] 7 (spD K m_nobody 2)) (F__law_told : Fn P w K mg base "_law_told" ["_law_rows", "_law_people_here"] 2 (spD K m__law_told 2)) (F__law_people : Fn P w K mg base "_law_people" ["_law_pen_here"] 2 (spD K m__law_people 1)) (F__law_kinds : Fn P w K mg base "_law_kinds" ["_law_pen_here"] 2 (spD K m__law_kinds 1)) (F__law_rules : Fn P w K mg base "_law_rules" ["_law_pen_here", "_law_kinds_here"] 3 (spD K m__law_rules 2)) (F__law_pen : Fn P w K mg base "_law_pen" ["_law_cell_here"] 1 (spF K m__law_pen 1)) : FnOk P w K mg base CX0 8 f fd ["_law_script"] (spD K m_law 1) := by
  refine fn_dat F0 sc_law (fun cdv A outer s H E hr => ?_)
  refine dss_cons ?_ ?_
  · refine ds_set (x := "_law_first") (i := 1) ?_ ?_ ?_ ?_ ?_ ?_
    · exact sc_law.nd
    · rfl
    · first | exact Or.inl rfl | exact Or.inr rfl
    · refine de_litO ?_
      kernel_rfl
    · rfl
    · first | exact Or.inl rfl | exact Or.inr rfl
  · refine dss_cons ?_ ?_
    · refine ds_if (DW.dt (dw_or (dt_cmp o2_ne (op_neA hr.units) (de_callF F_nobody (hr.mono (by decide)) rfl (dp_nm (i := 1) rfl (by first | exact Or.inl rfl | exact Or.inr (Or.inl rfl) | exact Or.inr (Or.inr rfl)) (by refine dp_litO ?_ ?_; kernel_rfl; exact dp_nil)) (lp_nm (lp_dat lp_nil))) (de_litO (by kernel_rfl)) (nomark _)) (dw_or1 (dt_cmp o2_ne (op_neA hr.units) (de_callF F_nobody (hr.mono (by decide)) rfl (dp_nm (i := 1) rfl (by first | exact Or.inl rfl | exact Or.inr (Or.inl rfl) | exact Or.inr (Or.inr rfl)) (by refine dp_litO ?_ ?_; kernel_rfl; exact dp_nil)) (lp_nm (lp_dat lp_nil))) (de_litO (by kernel_rfl)) (nomark _))))) ?_ ?_
      · refine dss_one ?_
        refine ds_ret ?_
        · exact de_bl
      · exact dss_nil
    · refine dss_cons ?_ ?_
      · refine ds_set (x := "_law_both") (i := 2) ?_ ?_ ?_ ?_ ?_ ?_
        · exact sc_law.nd
        · rfl
        · first | exact Or.inl rfl | exact Or.inr rfl
        · refine de_litO ?_
          kernel_rfl
        · rfl
        · first | exact Or.inl rfl | exact Or.inr rfl
      · refine dss_cons ?_ ?_
        · refine ds_if (dt_cmp o2_ne (op_neA hr.units) (de_callF F_nobody (hr.mono (by decide)) rfl (dp_nm (i := 2) rfl (by first | exact Or.inl rfl | exact Or.inr (Or.inl rfl) | exact Or.inr (Or.inr rfl)) (by refine dp_litO ?_ ?_; kernel_rfl; exact dp_nil)) (lp_nm (lp_dat lp_nil))) (de_litO (by kernel_rfl)) (nomark _)) ?_ ?_
          · refine dss_one ?_
            refine ds_ret ?_
            · exact de_bl
          · exact dss_nil
        · refine dss_cons ?_ ?_
          · refine ds_for rfl (di_seq (de_op o2_add op_addA (de_lst (da_cons (de_callF F__law_cell (hr.mono (by decide)) rfl (dp_nm (i := 0) rfl (by first | exact Or.inl rfl | exact Or.inr (Or.inl rfl) | exact Or.inr (Or.inr rfl)) (dp_dat de_int dp_nil)) (lp_nm (lp_dat lp_nil))) da_nil)) (de_sliceW (dv 0) (do_some de_int) (do_some de_int)))) (dg_name (i := 3) sc_law.nd rfl (by first | exact Or.inl rfl | exact Or.inr rfl)) ?_ PassesOwn.never
            refine dss_cons ?_ ?_
            · exact (ds_own (x := "_law_pen_here") (i := 4) sc_law.nd rfl (by first | exact Or.inl rfl | exact Or.inr rfl) (df_callF F__law_pen (hr.mono (by decide)) rfl (dp_nm (i := 3) rfl (by first | exact Or.inl rfl | exact Or.inr (Or.inl rfl) | exact Or.inr (Or.inr rfl)) dp_nil) (lp_nm lp_nil)))
            · refine dss_one ?_
              refine ds_for rfl (di_range1 rfl T.n_range de_int) (dg_name (i := 5) sc_law.nd rfl (by first | exact Or.inl rfl | exact Or.inr rfl)) ?_ PassesOwn.never
              refine dss_cons ?_ ?_
              · exact (ds_par (i := 8) (j := 9) rfl sc_law.nd rfl rfl (by decide) rfl rfl (da_cons (de_callF F__law_rules (hr.mono (by decide)) rfl (dp_nm (i := 4) rfl (by first | exact Or.inl rfl | exact Or.inr (Or.inl rfl) | exact Or.inr (Or.inr rfl)) (dp_dat (de_callF F__law_kinds (hr.mono (by decide)) rfl (dp_nm (i := 4) rfl (by first | exact Or.inl rfl | exact Or.inr (Or.inl rfl) | exact Or.inr (Or.inr rfl)) dp_nil) (lp_nm lp_nil)) dp_nil)) (lp_nm (lp_dat lp_nil))) (da_cons (de_callF F__law_people (hr.mono (by decide)) rfl (dp_nm (i := 4) rfl (by first | exact Or.inl rfl | exact Or.inr (Or.inl rfl) | exact Or.inr (Or.inr rfl)) dp_nil) (lp_nm lp_nil)) da_nil)) (by rfl))
              · refine dss_cons ?_ ?_
                · refine ds_set (x := "_law_rights") (i := 6) ?_ ?_ ?_ ?_ ?_ ?_
                  · exact sc_law.nd
                  · rfl
                  · first | exact Or.inl rfl | exact Or.inr rfl
                  · exact (de_callF F__law_told (hr.mono (by decide)) rfl (dp_nm (i := 8) rfl (by first | exact Or.inl rfl | exact Or.inr (Or.inl rfl) | exact Or.inr (Or.inr rfl)) (dp_nm (i := 9) rfl (by first | exact Or.inl rfl | exact Or.inr (Or.inl rfl) | exact Or.inr (Or.inr rfl)) dp_nil)) (lp_nm (lp_nm lp_nil)))
                  · rfl
                  · first | exact Or.inl rfl | exact Or.inr rfl
                · refine dss_cons ?_ ?_
                  · refine ds_set (x := "_law_due") (i := 7) ?_ ?_ ?_ ?_ ?_ ?_
                    · exact sc_law.nd
                    · rfl
                    · first | exact Or.inl rfl | exact Or.inr rfl
                    · exact (de_callTy oN_tuple call_tuple_of rfl T.n_tuple (by decide +kernel) (da_cons (de_lc (own := [("_law_place", 10)]) rfl sc_law.nd (di_range1 rfl T.n_range (de_callB oN_len call_len rfl T.n_len (by decide +kernel) (da_cons (dv 8) da_nil))) (blkOk_by (own := [("_law_place", 10)]) (N := N_law) (sc := defScope s_law) (by decide +kernel)) (fun _ _ _ _ _ => (dg_name (i := 10) sc_law.nd rfl (by first | exact Or.inl rfl | exact Or.inr rfl))) (fun _ _ _ _ _ => (dts_one (dt_cmp o2_inD (op_ninX hr.units66) (dv 10) (dv 6) (by with_unfolding_all rfl)))) (fun _ _ _ _ _ => (dv 10)) (by decide)) da_nil))
                    · rfl
                    · first | exact Or.inl rfl | exact Or.inr rfl
                  · refine dss_one ?_
                    refine ds_if (dt_cmp o2_ne (op_neA hr.units) (de_callB oN_repr (call_reprD hr.units hr.gd) rfl T.n_repr (by decide +kernel) (da_cons (de_callF F_nobody (hr.mono (by decide)) rfl (dp_nm (i := 8) rfl (by first | exact Or.inl rfl | exact Or.inr (Or.inl rfl) | exact Or.inr (Or.inr rfl)) (dp_nm (i := 9) rfl (by first | exact Or.inl rfl | exact Or.inr (Or.inl rfl) | exact Or.inr (Or.inr rfl)) dp_nil)) (lp_nm (lp_nm lp_nil))) da_nil)) (de_callB oN_repr (call_reprD hr.units hr.gd) rfl T.n_repr (by decide +kernel) (da_cons (dv 7) da_nil)) (nomark _)) ?_ ?_
                    · refine dss_one ?_
                      refine ds_ret ?_
                      · exact de_bl
                    · exact dss_nil
          · refine dss_one ?_
            refine ds_ret ?_
            · exact de_bl
end
end Law
namespace Law
open PySem PySem.Spec PyProof.Rows L2 DL
local instance : Tabs := ⟨[]⟩
structure Defs (K : PySem.W.Frag) (mg : Str → Option Value) : Prop where
  d_is_short_text : Df K mg "is_short_text" s_is_short_text
  d_is_name : Df K mg "is_name" s_is_name
  d_is_name_or_empty : Df K mg "is_name_or_empty" s_is_name_or_empty
  d_is_word : Df K mg "is_word" s_is_word
  d_are_unlike : Df K mg "are_unlike" s_are_unlike
  d_are_rising : Df K mg "are_rising" s_are_rising__t
  d_are_roles : Df K mg "are_roles" s_are_roles
  d_is_person : Df K mg "is_person" s_is_person
  d_are_named_rows : Df K mg "are_named_rows" s_are_named_rows__is_person
  d_is_who : Df K mg "is_who" s_is_who
  d_is_rule : Df K mg "is_rule" s_is_rule
  d_are_rules : Df K mg "are_rules" s_are_rules
  d_are_people : Df K mg "are_people" s_are_people
  d_asker_of : Df K mg "asker_of" s_asker_of
  d_name_of : Df K mg "name_of" s_name_of
  d_check_rules : Df K mg "check_rules" s_check_rules
  d_is_for : Df K mg "is_for" s_is_for
  d_find_rule : Df K mg "find_rule" s_find_rule
  d_is_met : Df K mg "is_met" s_is_met
  d_nobody : Df K mg "nobody" s_nobody
  d__law_cell : Df K mg "_law_cell" s__law_cell
  d__law_pen : Df K mg "_law_pen" s__law_pen
  d__law_draw : Df K mg "_law_draw" s__law_draw
  d__law_pick : Df K mg "_law_pick" s__law_pick
  d__law_kinds : Df K mg "_law_kinds" s__law_kinds
  d__law_rules : Df K mg "_law_rules" s__law_rules
  d__law_let : Df K mg "_law_let" s__law_let
  d__law_people : Df K mg "_law_people" s__law_people
  d__law_told : Df K mg "_law_told" s__law_told
theorem all_ok {P : Program} {w : World} {K : PySem.W.Frag} {mg : Str → Option Value} {base : Heap} {f : Addr} {fd : FuncData} (T : Txt K mg) (Z : Defs K mg) (F0 : Fun K "law" "law" s_law f fd) : FnOk P w K mg base CX0 8 f fd ["_law_script"] (spD K m_law 1) := by
  have F_is_short_text : Fn P w K mg base "is_short_text" ["thing", "signs"] 1 (spD K m_is_short_text 2) := fn_is_short_text T Z.d_is_short_text 
  have F_is_name : Fn P w K mg base "is_name" ["thing"] 2 (spD K m_is_name 1) := fn_is_name T Z.d_is_name F_is_short_text
  have F_is_name_or_empty : Fn P w K mg base "is_name_or_empty" ["thing"] 3 (spD K m_is_name_or_empty 1) := fn_is_name_or_empty T Z.d_is_name_or_empty F_is_name
  have F_is_word : Fn P w K mg base "is_word" ["thing"] 2 (spD K m_is_word 1) := fn_is_word T Z.d_is_word F_is_short_text
  have F_are_unlike : Fn P w K mg base "are_unlike" ["texts"] 1 (spD K m_are_unlike 1) := fn_are_unlike T Z.d_are_unlike 
  have F_are_rising__t : Fn P w K mg base "are_rising" ["things"] 1 (spD K m_are_rising__t 1) := fn_are_rising__t T Z.d_are_rising 
  have F_are_roles : Fn P w K mg base "are_roles" ["thing"] 3 (spD K m_are_roles 1) := fn_are_roles T Z.d_are_roles F_is_name F_are_rising__t
  have F_is_person : Fn P w K mg base "is_person" ["thing"] 4 (spD K m_is_person 1) := fn_is_person T Z.d_is_person F_is_name F_is_word F_are_roles
  have F_are_named_rows__is_person : Fn P w K mg base "are_named_rows" ["thing", "least", "most", "is_row"] 5 (spD K m_are_named_rows__is_person 4) := fn_are_named_rows__is_person T Z.d_are_named_rows F_is_person F_are_unlike
  have F_is_who : Fn P w K mg base "is_who" ["thing"] 3 (spD K m_is_who 1) := fn_is_who T Z.d_is_who F_is_name
  have F_is_rule : Fn P w K mg base "is_rule" ["thing"] 4 (spD K m_is_rule 1) := fn_is_rule T Z.d_is_rule F_is_who F_is_name F_is_name_or_empty
  have F_are_rules : Fn P w K mg base "are_rules" ["thing"] 5 (spD K m_are_rules 1) := fn_are_rules T Z.d_are_rules F_is_rule
  have F_are_people : Fn P w K mg base "are_people" ["thing"] 6 (spD K m_are_people 1) := fn_are_people T Z.d_are_people F_are_named_rows__is_person
  have F_asker_of : Fn P w K mg base "asker_of" ["person"] 1 (spD K m_asker_of 1) := fn_asker_of T Z.d_asker_of 
  have F_name_of : Fn P w K mg base "name_of" ["asker"] 1 (spD K m_name_of 1) := fn_name_of T Z.d_name_of 
  have F_check_rules : Fn P w K mg base "check_rules" ["rules"] 6 (spD K m_check_rules 1) := fn_check_rules T Z.d_check_rules F_are_rules
  have F_is_for : Fn P w K mg base "is_for" ["who", "asker", "owner"] 1 (spD K m_is_for 3) := fn_is_for T Z.d_is_for 
  have F_find_rule : Fn P w K mg base "find_rule" ["rules", "asker", "deed", "kind", "field", "owner"] 2 (spD K m_find_rule 6) := fn_find_rule T Z.d_find_rule F_is_for
  have F_is_met : Fn P w K mg base "is_met" ["rules", "place", "asker"] 3 (spD K m_is_met 3) := fn_is_met T Z.d_is_met F_name_of F_find_rule
  have F_nobody : Fn P w K mg base "nobody" ["rules", "people"] 7 (spD K m_nobody 2) := fn_nobody T Z.d_nobody F_is_met F_asker_of F_are_people F_check_rules
  have F__law_cell : Fn P w K mg base "_law_cell" ["_law_script", "_law_k"] 1 (spD K m__law_cell 2) := fn__law_cell T Z.d__law_cell 
  have F__law_pen : Fn P w K mg base "_law_pen" ["_law_cell_here"] 1 (spF K m__law_pen 1) := fn__law_pen T Z.d__law_pen 
  have F__law_draw : Fn P w K mg base "_law_draw" ["_law_pen_here", "_law_many"] 1 (spD K m__law_draw 2) := fn__law_draw T Z.d__law_draw 
  have F__law_pick : Fn P w K mg base "_law_pick" ["_law_pen_here", "_law_things"] 2 (spD K m__law_pick 2) := fn__law_pick T Z.d__law_pick F__law_draw
  have F__law_kinds : Fn P w K mg base "_law_kinds" ["_law_pen_here"] 2 (spD K m__law_kinds 1) := fn__law_kinds T Z.d__law_kinds F__law_draw
  have F__law_rules : Fn P w K mg base "_law_rules" ["_law_pen_here", "_law_kinds_here"] 3 (spD K m__law_rules 2) := fn__law_rules T Z.d__law_rules F__law_draw F__law_pick
  have F__law_let : Fn P w K mg base "_law_let" ["_law_rules_here", "_law_asker", "_law_deed", "_law_kind", "_law_field", "_law_owner"] 1 (spD K m__law_let 6) := fn__law_let T Z.d__law_let 
  have F__law_people : Fn P w K mg base "_law_people" ["_law_pen_here"] 2 (spD K m__law_people 1) := fn__law_people T Z.d__law_people F__law_draw
  have F__law_told : Fn P w K mg base "_law_told" ["_law_rows", "_law_people_here"] 2 (spD K m__law_told 2) := fn__law_told T Z.d__law_told F__law_let
  exact ok_law F0 T F__law_cell F_nobody F__law_told F__law_people F__law_kinds F__law_rules F__law_pen
theorem all_mk {l : PySem.W.OpenLaw} {w : World} {K : PySem.W.Frag} {h : Heap} {mg : Str → Option Value} {fa : Addr} (X : K.In h) (G : h.Ns mainGlobals mg) (hfa : mg "law" = some (.ref fa))
    {t_ALL : Tok}
    {a_DEEDS : Addr} {sl_DEEDS : Array (Option Value)} {n_DEEDS : Nat} {u0_DEEDS u1_DEEDS u2_DEEDS u3_DEEDS : Tok}
    {t_KNOWN : Tok}
    {t_LETTERS : Tok}
    {t_MOST_PEOPLE : Tok}
    {t_MOST_RULES : Tok}
    {t_MOST_SIGNS : Tok}
    {t_OWN : Tok}
    {t_ROLE : Tok}
    {t_WORD_SIGNS : Tok}
    {f_is_short_text : Addr} {oc_is_short_text kV_is_short_text doc_is_short_text pm_is_short_text cdv_is_short_text ct_is_short_text : Value} {od_is_short_text an_is_short_text : Option Addr} {osl_is_short_text : Array (Option Value)}
    {f_is_name : Addr} {oc_is_name kV_is_name doc_is_name pm_is_name cdv_is_name ct_is_name : Value} {od_is_name an_is_name : Option Addr} {osl_is_name : Array (Option Value)}
    {f_is_name_or_empty : Addr} {oc_is_name_or_empty kV_is_name_or_empty doc_is_name_or_empty pm_is_name_or_empty cdv_is_name_or_empty ct_is_name_or_empty : Value} {od_is_name_or_empty an_is_name_or_empty : Option Addr} {osl_is_name_or_empty : Array (Option Value)}
    {f_is_word : Addr} {oc_is_word kV_is_word doc_is_word pm_is_word cdv_is_word ct_is_word : Value} {od_is_word an_is_word : Option Addr} {osl_is_word : Array (Option Value)}
    {f_are_unlike : Addr} {oc_are_unlike kV_are_unlike doc_are_unlike pm_are_unlike cdv_are_unlike ct_are_unlike : Value} {od_are_unlike an_are_unlike : Option Addr} {osl_are_unlike : Array (Option Value)}
    {f_are_rising : Addr} {oc_are_rising kV_are_rising doc_are_rising pm_are_rising cdv_are_rising ct_are_rising : Value} {od_are_rising an_are_rising : Option Addr} {osl_are_rising : Array (Option Value)}
    {f_are_roles : Addr} {oc_are_roles kV_are_roles doc_are_roles pm_are_roles cdv_are_roles ct_are_roles : Value} {od_are_roles an_are_roles : Option Addr} {osl_are_roles : Array (Option Value)}
    {f_is_person : Addr} {oc_is_person kV_is_person doc_is_person pm_is_person cdv_is_person ct_is_person : Value} {od_is_person an_is_person : Option Addr} {osl_is_person : Array (Option Value)}
    {f_are_named_rows : Addr} {oc_are_named_rows kV_are_named_rows doc_are_named_rows pm_are_named_rows cdv_are_named_rows ct_are_named_rows : Value} {od_are_named_rows an_are_named_rows : Option Addr} {osl_are_named_rows : Array (Option Value)}
    {f_is_who : Addr} {oc_is_who kV_is_who doc_is_who pm_is_who cdv_is_who ct_is_who : Value} {od_is_who an_is_who : Option Addr} {osl_is_who : Array (Option Value)}
    {f_is_rule : Addr} {oc_is_rule kV_is_rule doc_is_rule pm_is_rule cdv_is_rule ct_is_rule : Value} {od_is_rule an_is_rule : Option Addr} {osl_is_rule : Array (Option Value)}
    {f_are_rules : Addr} {oc_are_rules kV_are_rules doc_are_rules pm_are_rules cdv_are_rules ct_are_rules : Value} {od_are_rules an_are_rules : Option Addr} {osl_are_rules : Array (Option Value)}
    {f_are_people : Addr} {oc_are_people kV_are_people doc_are_people pm_are_people cdv_are_people ct_are_people : Value} {od_are_people an_are_people : Option Addr} {osl_are_people : Array (Option Value)}
    {f_asker_of : Addr} {oc_asker_of kV_asker_of doc_asker_of pm_asker_of cdv_asker_of ct_asker_of : Value} {od_asker_of an_asker_of : Option Addr} {osl_asker_of : Array (Option Value)}
    {f_name_of : Addr} {oc_name_of kV_name_of doc_name_of pm_name_of cdv_name_of ct_name_of : Value} {od_name_of an_name_of : Option Addr} {osl_name_of : Array (Option Value)}
    {f_check_rules : Addr} {oc_check_rules kV_check_rules doc_check_rules pm_check_rules cdv_check_rules ct_check_rules : Value} {od_check_rules an_check_rules : Option Addr} {osl_check_rules : Array (Option Value)}
    {f_is_for : Addr} {oc_is_for kV_is_for doc_is_for pm_is_for cdv_is_for ct_is_for : Value} {od_is_for an_is_for : Option Addr} {osl_is_for : Array (Option Value)}
    {f_find_rule : Addr} {oc_find_rule kV_find_rule doc_find_rule pm_find_rule cdv_find_rule ct_find_rule : Value} {od_find_rule an_find_rule : Option Addr} {osl_find_rule : Array (Option Value)}
    {f_is_met : Addr} {oc_is_met kV_is_met doc_is_met pm_is_met cdv_is_met ct_is_met : Value} {od_is_met an_is_met : Option Addr} {osl_is_met : Array (Option Value)}
    {f_nobody : Addr} {oc_nobody kV_nobody doc_nobody pm_nobody cdv_nobody ct_nobody : Value} {od_nobody an_nobody : Option Addr} {osl_nobody : Array (Option Value)}
    {f__law_cell : Addr} {oc__law_cell kV__law_cell doc__law_cell pm__law_cell cdv__law_cell ct__law_cell : Value} {od__law_cell an__law_cell : Option Addr} {osl__law_cell : Array (Option Value)}
    {f__law_pen : Addr} {oc__law_pen kV__law_pen doc__law_pen pm__law_pen cdv__law_pen ct__law_pen : Value} {od__law_pen an__law_pen : Option Addr} {osl__law_pen : Array (Option Value)}
    {f__law_draw : Addr} {oc__law_draw kV__law_draw doc__law_draw pm__law_draw cdv__law_draw ct__law_draw : Value} {od__law_draw an__law_draw : Option Addr} {osl__law_draw : Array (Option Value)}
    {f__law_pick : Addr} {oc__law_pick kV__law_pick doc__law_pick pm__law_pick cdv__law_pick ct__law_pick : Value} {od__law_pick an__law_pick : Option Addr} {osl__law_pick : Array (Option Value)}
    {f__law_kinds : Addr} {oc__law_kinds kV__law_kinds doc__law_kinds pm__law_kinds cdv__law_kinds ct__law_kinds : Value} {od__law_kinds an__law_kinds : Option Addr} {osl__law_kinds : Array (Option Value)}
    {f__law_rules : Addr} {oc__law_rules kV__law_rules doc__law_rules pm__law_rules cdv__law_rules ct__law_rules : Value} {od__law_rules an__law_rules : Option Addr} {osl__law_rules : Array (Option Value)}
    {f__law_let : Addr} {oc__law_let kV__law_let doc__law_let pm__law_let cdv__law_let ct__law_let : Value} {od__law_let an__law_let : Option Addr} {osl__law_let : Array (Option Value)}
    {f__law_people : Addr} {oc__law_people kV__law_people doc__law_people pm__law_people cdv__law_people ct__law_people : Value} {od__law_people an__law_people : Option Addr} {osl__law_people : Array (Option Value)}
    {f__law_told : Addr} {oc__law_told kV__law_told doc__law_told pm__law_told cdv__law_told ct__law_told : Value} {od__law_told an__law_told : Option Addr} {osl__law_told : Array (Option Value)}
    {f_law : Addr} {oc_law kV_law doc_law pm_law cdv_law ct_law : Value} {od_law an_law : Option Addr} {osl_law : Array (Option Value)}
    (z_all : PySem.W.nsIn K mainGlobals "all" = some none)
    (z_any : PySem.W.nsIn K mainGlobals "any" = some none)
    (z_enumerate : PySem.W.nsIn K mainGlobals "enumerate" = some none)
    (z_int : PySem.W.nsIn K mainGlobals "int" = some none)
    (z_isinstance : PySem.W.nsIn K mainGlobals "isinstance" = some none)
    (z_len : PySem.W.nsIn K mainGlobals "len" = some none)
    (z_range : PySem.W.nsIn K mainGlobals "range" = some none)
    (z_repr : PySem.W.nsIn K mainGlobals "repr" = some none)
    (z_set : PySem.W.nsIn K mainGlobals "set" = some none)
    (z_sorted : PySem.W.nsIn K mainGlobals "sorted" = some none)
    (z_str : PySem.W.nsIn K mainGlobals "str" = some none)
    (z_tuple : PySem.W.nsIn K mainGlobals "tuple" = some none)
    (z_zip : PySem.W.nsIn K mainGlobals "zip" = some none)
    (z_ALL : PySem.W.nsIn K mainGlobals "ALL" = some (some (.str "all" t_ALL)))
    (z_DEEDS : PySem.W.nsIn K mainGlobals "DEEDS" = some (some (.ref a_DEEDS)))
    (y_DEEDS : K.lookup a_DEEDS = some ⟨.type "tuple", none, .seq #[.str "see" u0_DEEDS, .str "add" u1_DEEDS, .str "change" u2_DEEDS, .str "remove" u3_DEEDS] n_DEEDS, sl_DEEDS⟩)
    (z_KNOWN : PySem.W.nsIn K mainGlobals "KNOWN" = some (some (.str "known" t_KNOWN)))
    (z_LETTERS : PySem.W.nsIn K mainGlobals "LETTERS" = some (some (.str "abcdefghijklmnopqrstuvwxyz" t_LETTERS)))
    (z_MOST_PEOPLE : PySem.W.nsIn K mainGlobals "MOST_PEOPLE" = some (some (.int (6) t_MOST_PEOPLE)))
    (z_MOST_RULES : PySem.W.nsIn K mainGlobals "MOST_RULES" = some (some (.int (12) t_MOST_RULES)))
    (z_MOST_SIGNS : PySem.W.nsIn K mainGlobals "MOST_SIGNS" = some (some (.int (8) t_MOST_SIGNS)))
    (z_OWN : PySem.W.nsIn K mainGlobals "OWN" = some (some (.str "own" t_OWN)))
    (z_ROLE : PySem.W.nsIn K mainGlobals "ROLE" = some (some (.str "role" t_ROLE)))
    (z_WORD_SIGNS : PySem.W.nsIn K mainGlobals "WORD_SIGNS" = some (some (.str "abcdefghijklmnopqrstuvwxyz0123456789-" t_WORD_SIGNS)))
    (a_is_short_text : PySem.W.nsIn K mainGlobals "is_short_text" = some (some (.ref f_is_short_text)))
    (l_is_short_text : K.lookup f_is_short_text = some ⟨oc_is_short_text, od_is_short_text, .func (PySem.W.fnOf "is_short_text" "is_short_text" (defArgs s_is_short_text) (defBody s_is_short_text) (defScope s_is_short_text) .none kV_is_short_text doc_is_short_text pm_is_short_text an_is_short_text cdv_is_short_text ct_is_short_text), osl_is_short_text⟩)
    (c_is_short_text : PySem.W.codeIn K cdv_is_short_text "is_short_text" = true)
    (k_is_short_text : PySem.W.keepIn K (.ref f_is_short_text) = true)
    (a_is_name : PySem.W.nsIn K mainGlobals "is_name" = some (some (.ref f_is_name)))
    (l_is_name : K.lookup f_is_name = some ⟨oc_is_name, od_is_name, .func (PySem.W.fnOf "is_name" "is_name" (defArgs s_is_name) (defBody s_is_name) (defScope s_is_name) .none kV_is_name doc_is_name pm_is_name an_is_name cdv_is_name ct_is_name), osl_is_name⟩)
    (c_is_name : PySem.W.codeIn K cdv_is_name "is_name" = true)
    (k_is_name : PySem.W.keepIn K (.ref f_is_name) = true)
    (a_is_name_or_empty : PySem.W.nsIn K mainGlobals "is_name_or_empty" = some (some (.ref f_is_name_or_empty)))
    (l_is_name_or_empty : K.lookup f_is_name_or_empty = some ⟨oc_is_name_or_empty, od_is_name_or_empty, .func (PySem.W.fnOf "is_name_or_empty" "is_name_or_empty" (defArgs s_is_name_or_empty) (defBody s_is_name_or_empty) (defScope s_is_name_or_empty) .none kV_is_name_or_empty doc_is_name_or_empty pm_is_name_or_empty an_is_name_or_empty cdv_is_name_or_empty ct_is_name_or_empty), osl_is_name_or_empty⟩)
    (c_is_name_or_empty : PySem.W.codeIn K cdv_is_name_or_empty "is_name_or_empty" = true)
    (k_is_name_or_empty : PySem.W.keepIn K (.ref f_is_name_or_empty) = true)
    (a_is_word : PySem.W.nsIn K mainGlobals "is_word" = some (some (.ref f_is_word)))
    (l_is_word : K.lookup f_is_word = some ⟨oc_is_word, od_is_word, .func (PySem.W.fnOf "is_word" "is_word" (defArgs s_is_word) (defBody s_is_word) (defScope s_is_word) .none kV_is_word doc_is_word pm_is_word an_is_word cdv_is_word ct_is_word), osl_is_word⟩)
    (c_is_word : PySem.W.codeIn K cdv_is_word "is_word" = true)
    (k_is_word : PySem.W.keepIn K (.ref f_is_word) = true)
    (a_are_unlike : PySem.W.nsIn K mainGlobals "are_unlike" = some (some (.ref f_are_unlike)))
    (l_are_unlike : K.lookup f_are_unlike = some ⟨oc_are_unlike, od_are_unlike, .func (PySem.W.fnOf "are_unlike" "are_unlike" (defArgs s_are_unlike) (defBody s_are_unlike) (defScope s_are_unlike) .none kV_are_unlike doc_are_unlike pm_are_unlike an_are_unlike cdv_are_unlike ct_are_unlike), osl_are_unlike⟩)
    (c_are_unlike : PySem.W.codeIn K cdv_are_unlike "are_unlike" = true)
    (k_are_unlike : PySem.W.keepIn K (.ref f_are_unlike) = true)
    (a_are_rising : PySem.W.nsIn K mainGlobals "are_rising" = some (some (.ref f_are_rising)))
    (l_are_rising : K.lookup f_are_rising = some ⟨oc_are_rising, od_are_rising, .func (PySem.W.fnOf "are_rising" "are_rising" (defArgs s_are_rising__t) (defBody s_are_rising__t) (defScope s_are_rising__t) .none kV_are_rising doc_are_rising pm_are_rising an_are_rising cdv_are_rising ct_are_rising), osl_are_rising⟩)
    (c_are_rising : PySem.W.codeIn K cdv_are_rising "are_rising" = true)
    (k_are_rising : PySem.W.keepIn K (.ref f_are_rising) = true)
    (a_are_roles : PySem.W.nsIn K mainGlobals "are_roles" = some (some (.ref f_are_roles)))
    (l_are_roles : K.lookup f_are_roles = some ⟨oc_are_roles, od_are_roles, .func (PySem.W.fnOf "are_roles" "are_roles" (defArgs s_are_roles) (defBody s_are_roles) (defScope s_are_roles) .none kV_are_roles doc_are_roles pm_are_roles an_are_roles cdv_are_roles ct_are_roles), osl_are_roles⟩)
    (c_are_roles : PySem.W.codeIn K cdv_are_roles "are_roles" = true)
    (k_are_roles : PySem.W.keepIn K (.ref f_are_roles) = true)
    (a_is_person : PySem.W.nsIn K mainGlobals "is_person" = some (some (.ref f_is_person)))
    (l_is_person : K.lookup f_is_person = some ⟨oc_is_person, od_is_person, .func (PySem.W.fnOf "is_person" "is_person" (defArgs s_is_person) (defBody s_is_person) (defScope s_is_person) .none kV_is_person doc_is_person pm_is_person an_is_person cdv_is_person ct_is_person), osl_is_person⟩)
    (c_is_person : PySem.W.codeIn K cdv_is_person "is_person" = true)
    (k_is_person : PySem.W.keepIn K (.ref f_is_person) = true)
    (a_are_named_rows : PySem.W.nsIn K mainGlobals "are_named_rows" = some (some (.ref f_are_named_rows)))
    (l_are_named_rows : K.lookup f_are_named_rows = some ⟨oc_are_named_rows, od_are_named_rows, .func (PySem.W.fnOf "are_named_rows" "are_named_rows" (defArgs s_are_named_rows__is_person) (defBody s_are_named_rows__is_person) (defScope s_are_named_rows__is_person) .none kV_are_named_rows doc_are_named_rows pm_are_named_rows an_are_named_rows cdv_are_named_rows ct_are_named_rows), osl_are_named_rows⟩)
    (c_are_named_rows : PySem.W.codeIn K cdv_are_named_rows "are_named_rows" = true)
    (k_are_named_rows : PySem.W.keepIn K (.ref f_are_named_rows) = true)
    (a_is_who : PySem.W.nsIn K mainGlobals "is_who" = some (some (.ref f_is_who)))
    (l_is_who : K.lookup f_is_who = some ⟨oc_is_who, od_is_who, .func (PySem.W.fnOf "is_who" "is_who" (defArgs s_is_who) (defBody s_is_who) (defScope s_is_who) .none kV_is_who doc_is_who pm_is_who an_is_who cdv_is_who ct_is_who), osl_is_who⟩)
    (c_is_who : PySem.W.codeIn K cdv_is_who "is_who" = true)
    (k_is_who : PySem.W.keepIn K (.ref f_is_who) = true)
    (a_is_rule : PySem.W.nsIn K mainGlobals "is_rule" = some (some (.ref f_is_rule)))
    (l_is_rule : K.lookup f_is_rule = some ⟨oc_is_rule, od_is_rule, .func (PySem.W.fnOf "is_rule" "is_rule" (defArgs s_is_rule) (defBody s_is_rule) (defScope s_is_rule) .none kV_is_rule doc_is_rule pm_is_rule an_is_rule cdv_is_rule ct_is_rule), osl_is_rule⟩)
    (c_is_rule : PySem.W.codeIn K cdv_is_rule "is_rule" = true)
    (k_is_rule : PySem.W.keepIn K (.ref f_is_rule) = true)
    (a_are_rules : PySem.W.nsIn K mainGlobals "are_rules" = some (some (.ref f_are_rules)))
    (l_are_rules : K.lookup f_are_rules = some ⟨oc_are_rules, od_are_rules, .func (PySem.W.fnOf "are_rules" "are_rules" (defArgs s_are_rules) (defBody s_are_rules) (defScope s_are_rules) .none kV_are_rules doc_are_rules pm_are_rules an_are_rules cdv_are_rules ct_are_rules), osl_are_rules⟩)
    (c_are_rules : PySem.W.codeIn K cdv_are_rules "are_rules" = true)
    (k_are_rules : PySem.W.keepIn K (.ref f_are_rules) = true)
    (a_are_people : PySem.W.nsIn K mainGlobals "are_people" = some (some (.ref f_are_people)))
    (l_are_people : K.lookup f_are_people = some ⟨oc_are_people, od_are_people, .func (PySem.W.fnOf "are_people" "are_people" (defArgs s_are_people) (defBody s_are_people) (defScope s_are_people) .none kV_are_people doc_are_people pm_are_people an_are_people cdv_are_people ct_are_people), osl_are_people⟩)
    (c_are_people : PySem.W.codeIn K cdv_are_people "are_people" = true)
    (k_are_people : PySem.W.keepIn K (.ref f_are_people) = true)
    (a_asker_of : PySem.W.nsIn K mainGlobals "asker_of" = some (some (.ref f_asker_of)))
    (l_asker_of : K.lookup f_asker_of = some ⟨oc_asker_of, od_asker_of, .func (PySem.W.fnOf "asker_of" "asker_of" (defArgs s_asker_of) (defBody s_asker_of) (defScope s_asker_of) .none kV_asker_of doc_asker_of pm_asker_of an_asker_of cdv_asker_of ct_asker_of), osl_asker_of⟩)
    (c_asker_of : PySem.W.codeIn K cdv_asker_of "asker_of" = true)
    (k_asker_of : PySem.W.keepIn K (.ref f_asker_of) = true)
    (a_name_of : PySem.W.nsIn K mainGlobals "name_of" = some (some (.ref f_name_of)))
    (l_name_of : K.lookup f_name_of = some ⟨oc_name_of, od_name_of, .func (PySem.W.fnOf "name_of" "name_of" (defArgs s_name_of) (defBody s_name_of) (defScope s_name_of) .none kV_name_of doc_name_of pm_name_of an_name_of cdv_name_of ct_name_of), osl_name_of⟩)
    (c_name_of : PySem.W.codeIn K cdv_name_of "name_of" = true)
    (k_name_of : PySem.W.keepIn K (.ref f_name_of) = true)
    (a_check_rules : PySem.W.nsIn K mainGlobals "check_rules" = some (some (.ref f_check_rules)))
    (l_check_rules : K.lookup f_check_rules = some ⟨oc_check_rules, od_check_rules, .func (PySem.W.fnOf "check_rules" "check_rules" (defArgs s_check_rules) (defBody s_check_rules) (defScope s_check_rules) .none kV_check_rules doc_check_rules pm_check_rules an_check_rules cdv_check_rules ct_check_rules), osl_check_rules⟩)
    (c_check_rules : PySem.W.codeIn K cdv_check_rules "check_rules" = true)
    (k_check_rules : PySem.W.keepIn K (.ref f_check_rules) = true)
    (a_is_for : PySem.W.nsIn K mainGlobals "is_for" = some (some (.ref f_is_for)))
    (l_is_for : K.lookup f_is_for = some ⟨oc_is_for, od_is_for, .func (PySem.W.fnOf "is_for" "is_for" (defArgs s_is_for) (defBody s_is_for) (defScope s_is_for) .none kV_is_for doc_is_for pm_is_for an_is_for cdv_is_for ct_is_for), osl_is_for⟩)
    (c_is_for : PySem.W.codeIn K cdv_is_for "is_for" = true)
    (k_is_for : PySem.W.keepIn K (.ref f_is_for) = true)
    (a_find_rule : PySem.W.nsIn K mainGlobals "find_rule" = some (some (.ref f_find_rule)))
    (l_find_rule : K.lookup f_find_rule = some ⟨oc_find_rule, od_find_rule, .func (PySem.W.fnOf "find_rule" "find_rule" (defArgs s_find_rule) (defBody s_find_rule) (defScope s_find_rule) .none kV_find_rule doc_find_rule pm_find_rule an_find_rule cdv_find_rule ct_find_rule), osl_find_rule⟩)
    (c_find_rule : PySem.W.codeIn K cdv_find_rule "find_rule" = true)
    (k_find_rule : PySem.W.keepIn K (.ref f_find_rule) = true)
    (a_is_met : PySem.W.nsIn K mainGlobals "is_met" = some (some (.ref f_is_met)))
    (l_is_met : K.lookup f_is_met = some ⟨oc_is_met, od_is_met, .func (PySem.W.fnOf "is_met" "is_met" (defArgs s_is_met) (defBody s_is_met) (defScope s_is_met) .none kV_is_met doc_is_met pm_is_met an_is_met cdv_is_met ct_is_met), osl_is_met⟩)
    (c_is_met : PySem.W.codeIn K cdv_is_met "is_met" = true)
    (k_is_met : PySem.W.keepIn K (.ref f_is_met) = true)
    (a_nobody : PySem.W.nsIn K mainGlobals "nobody" = some (some (.ref f_nobody)))
    (l_nobody : K.lookup f_nobody = some ⟨oc_nobody, od_nobody, .func (PySem.W.fnOf "nobody" "nobody" (defArgs s_nobody) (defBody s_nobody) (defScope s_nobody) .none kV_nobody doc_nobody pm_nobody an_nobody cdv_nobody ct_nobody), osl_nobody⟩)
    (c_nobody : PySem.W.codeIn K cdv_nobody "nobody" = true)
    (k_nobody : PySem.W.keepIn K (.ref f_nobody) = true)
    (a__law_cell : PySem.W.nsIn K mainGlobals "_law_cell" = some (some (.ref f__law_cell)))
    (l__law_cell : K.lookup f__law_cell = some ⟨oc__law_cell, od__law_cell, .func (PySem.W.fnOf "_law_cell" "_law_cell" (defArgs s__law_cell) (defBody s__law_cell) (defScope s__law_cell) .none kV__law_cell doc__law_cell pm__law_cell an__law_cell cdv__law_cell ct__law_cell), osl__law_cell⟩)
    (c__law_cell : PySem.W.codeIn K cdv__law_cell "_law_cell" = true)
    (k__law_cell : PySem.W.keepIn K (.ref f__law_cell) = true)
    (a__law_pen : PySem.W.nsIn K mainGlobals "_law_pen" = some (some (.ref f__law_pen)))
    (l__law_pen : K.lookup f__law_pen = some ⟨oc__law_pen, od__law_pen, .func (PySem.W.fnOf "_law_pen" "_law_pen" (defArgs s__law_pen) (defBody s__law_pen) (defScope s__law_pen) .none kV__law_pen doc__law_pen pm__law_pen an__law_pen cdv__law_pen ct__law_pen), osl__law_pen⟩)
    (c__law_pen : PySem.W.codeIn K cdv__law_pen "_law_pen" = true)
    (k__law_pen : PySem.W.keepIn K (.ref f__law_pen) = true)
    (a__law_draw : PySem.W.nsIn K mainGlobals "_law_draw" = some (some (.ref f__law_draw)))
    (l__law_draw : K.lookup f__law_draw = some ⟨oc__law_draw, od__law_draw, .func (PySem.W.fnOf "_law_draw" "_law_draw" (defArgs s__law_draw) (defBody s__law_draw) (defScope s__law_draw) .none kV__law_draw doc__law_draw pm__law_draw an__law_draw cdv__law_draw ct__law_draw), osl__law_draw⟩)
    (c__law_draw : PySem.W.codeIn K cdv__law_draw "_law_draw" = true)
    (k__law_draw : PySem.W.keepIn K (.ref f__law_draw) = true)
    (a__law_pick : PySem.W.nsIn K mainGlobals "_law_pick" = some (some (.ref f__law_pick)))
    (l__law_pick : K.lookup f__law_pick = some ⟨oc__law_pick, od__law_pick, .func (PySem.W.fnOf "_law_pick" "_law_pick" (defArgs s__law_pick) (defBody s__law_pick) (defScope s__law_pick) .none kV__law_pick doc__law_pick pm__law_pick an__law_pick cdv__law_pick ct__law_pick), osl__law_pick⟩)
    (c__law_pick : PySem.W.codeIn K cdv__law_pick "_law_pick" = true)
    (k__law_pick : PySem.W.keepIn K (.ref f__law_pick) = true)
    (a__law_kinds : PySem.W.nsIn K mainGlobals "_law_kinds" = some (some (.ref f__law_kinds)))
    (l__law_kinds : K.lookup f__law_kinds = some ⟨oc__law_kinds, od__law_kinds, .func (PySem.W.fnOf "_law_kinds" "_law_kinds" (defArgs s__law_kinds) (defBody s__law_kinds) (defScope s__law_kinds) .none kV__law_kinds doc__law_kinds pm__law_kinds an__law_kinds cdv__law_kinds ct__law_kinds), osl__law_kinds⟩)
    (c__law_kinds : PySem.W.codeIn K cdv__law_kinds "_law_kinds" = true)
    (k__law_kinds : PySem.W.keepIn K (.ref f__law_kinds) = true)
    (a__law_rules : PySem.W.nsIn K mainGlobals "_law_rules" = some (some (.ref f__law_rules)))
    (l__law_rules : K.lookup f__law_rules = some ⟨oc__law_rules, od__law_rules, .func (PySem.W.fnOf "_law_rules" "_law_rules" (defArgs s__law_rules) (defBody s__law_rules) (defScope s__law_rules) .none kV__law_rules doc__law_rules pm__law_rules an__law_rules cdv__law_rules ct__law_rules), osl__law_rules⟩)
    (c__law_rules : PySem.W.codeIn K cdv__law_rules "_law_rules" = true)
    (k__law_rules : PySem.W.keepIn K (.ref f__law_rules) = true)
    (a__law_let : PySem.W.nsIn K mainGlobals "_law_let" = some (some (.ref f__law_let)))
    (l__law_let : K.lookup f__law_let = some ⟨oc__law_let, od__law_let, .func (PySem.W.fnOf "_law_let" "_law_let" (defArgs s__law_let) (defBody s__law_let) (defScope s__law_let) .none kV__law_let doc__law_let pm__law_let an__law_let cdv__law_let ct__law_let), osl__law_let⟩)
    (c__law_let : PySem.W.codeIn K cdv__law_let "_law_let" = true)
    (k__law_let : PySem.W.keepIn K (.ref f__law_let) = true)
    (a__law_people : PySem.W.nsIn K mainGlobals "_law_people" = some (some (.ref f__law_people)))
    (l__law_people : K.lookup f__law_people = some ⟨oc__law_people, od__law_people, .func (PySem.W.fnOf "_law_people" "_law_people" (defArgs s__law_people) (defBody s__law_people) (defScope s__law_people) .none kV__law_people doc__law_people pm__law_people an__law_people cdv__law_people ct__law_people), osl__law_people⟩)
    (c__law_people : PySem.W.codeIn K cdv__law_people "_law_people" = true)
    (k__law_people : PySem.W.keepIn K (.ref f__law_people) = true)
    (a__law_told : PySem.W.nsIn K mainGlobals "_law_told" = some (some (.ref f__law_told)))
    (l__law_told : K.lookup f__law_told = some ⟨oc__law_told, od__law_told, .func (PySem.W.fnOf "_law_told" "_law_told" (defArgs s__law_told) (defBody s__law_told) (defScope s__law_told) .none kV__law_told doc__law_told pm__law_told an__law_told cdv__law_told ct__law_told), osl__law_told⟩)
    (c__law_told : PySem.W.codeIn K cdv__law_told "_law_told" = true)
    (k__law_told : PySem.W.keepIn K (.ref f__law_told) = true)
    (a_law : PySem.W.nsIn K mainGlobals "law" = some (some (.ref f_law)))
    (l_law : K.lookup f_law = some ⟨oc_law, od_law, .func (PySem.W.fnOf "law" "law" (defArgs s_law) (defBody s_law) (defScope s_law) .none kV_law doc_law pm_law an_law cdv_law ct_law), osl_law⟩)
    (c_law : PySem.W.codeIn K cdv_law "law" = true)
    (k_law : PySem.W.keepIn K (.ref f_law) = true) :
    ∃ fd : FuncData, (∀ (s : Shared) (v : Value), BindsTo s fd ⟨[v], []⟩ [("_law_script", v)]) ∧ ∀ base : Heap, K.In base → base.Ns mainGlobals mg → FnOk l.prog w K mg base CX0 8 fa fd ["_law_script"] (spD K m_law 1) := by
  have e := hfa.symm.trans (PySem.W.mg_of X G a_law)
  cases e
  have T : Txt K mg := ⟨PySem.W.mg_none_of X G z_all, PySem.W.mg_none_of X G z_any, PySem.W.mg_none_of X G z_enumerate, PySem.W.mg_none_of X G z_int, PySem.W.mg_none_of X G z_isinstance, PySem.W.mg_none_of X G z_len, PySem.W.mg_none_of X G z_range, PySem.W.mg_none_of X G z_repr, PySem.W.mg_none_of X G z_set, PySem.W.mg_none_of X G z_sorted, PySem.W.mg_none_of X G z_str, PySem.W.mg_none_of X G z_tuple, PySem.W.mg_none_of X G z_zip, ⟨t_ALL, PySem.W.mg_of X G z_ALL⟩, ⟨.ref a_DEEDS, .ref a_DEEDS, PySem.W.mg_of X G z_DEEDS, rfl, fun H => .tup (xs := [.str "see", .str "add", .str "change", .str "remove"]) (.inr ⟨_, _, n_DEEDS, y_DEEDS, rfl, rfl, rfl, (by show 4 ≤ sizeLine; decide), (.cons ⟨_, rfl⟩ (.cons ⟨_, rfl⟩ (.cons ⟨_, rfl⟩ (.cons ⟨_, rfl⟩ .nil))))⟩) (.cons (.str _) (.cons (.str _) (.cons (.str _) (.cons (.str _) .nil))))⟩, ⟨t_KNOWN, PySem.W.mg_of X G z_KNOWN⟩, ⟨t_LETTERS, PySem.W.mg_of X G z_LETTERS⟩, ⟨t_MOST_PEOPLE, PySem.W.mg_of X G z_MOST_PEOPLE⟩, ⟨t_MOST_RULES, PySem.W.mg_of X G z_MOST_RULES⟩, ⟨t_MOST_SIGNS, PySem.W.mg_of X G z_MOST_SIGNS⟩, ⟨t_OWN, PySem.W.mg_of X G z_OWN⟩, ⟨t_ROLE, PySem.W.mg_of X G z_ROLE⟩, ⟨t_WORD_SIGNS, PySem.W.mg_of X G z_WORD_SIGNS⟩, ⟨f_is_person, PySem.W.mg_of X G a_is_person, a_is_person⟩⟩
  have Z : Defs K mg := ⟨df_mk X G a_is_short_text l_is_short_text c_is_short_text k_is_short_text, df_mk X G a_is_name l_is_name c_is_name k_is_name, df_mk X G a_is_name_or_empty l_is_name_or_empty c_is_name_or_empty k_is_name_or_empty, df_mk X G a_is_word l_is_word c_is_word k_is_word, df_mk X G a_are_unlike l_are_unlike c_are_unlike k_are_unlike, df_mk X G a_are_rising l_are_rising c_are_rising k_are_rising, df_mk X G a_are_roles l_are_roles c_are_roles k_are_roles, df_mk X G a_is_person l_is_person c_is_person k_is_person, df_mk X G a_are_named_rows l_are_named_rows c_are_named_rows k_are_named_rows, df_mk X G a_is_who l_is_who c_is_who k_is_who, df_mk X G a_is_rule l_is_rule c_is_rule k_is_rule, df_mk X G a_are_rules l_are_rules c_are_rules k_are_rules, df_mk X G a_are_people l_are_people c_are_people k_are_people, df_mk X G a_asker_of l_asker_of c_asker_of k_asker_of, df_mk X G a_name_of l_name_of c_name_of k_name_of, df_mk X G a_check_rules l_check_rules c_check_rules k_check_rules, df_mk X G a_is_for l_is_for c_is_for k_is_for, df_mk X G a_find_rule l_find_rule c_find_rule k_find_rule, df_mk X G a_is_met l_is_met c_is_met k_is_met, df_mk X G a_nobody l_nobody c_nobody k_nobody, df_mk X G a__law_cell l__law_cell c__law_cell k__law_cell, df_mk X G a__law_pen l__law_pen c__law_pen k__law_pen, df_mk X G a__law_draw l__law_draw c__law_draw k__law_draw, df_mk X G a__law_pick l__law_pick c__law_pick k__law_pick, df_mk X G a__law_kinds l__law_kinds c__law_kinds k__law_kinds, df_mk X G a__law_rules l__law_rules c__law_rules k__law_rules, df_mk X G a__law_let l__law_let c__law_let k__law_let, df_mk X G a__law_people l__law_people c__law_people k__law_people, df_mk X G a__law_told l__law_told c__law_told k__law_told⟩
  have F0 := fun_mk (st := s_law) l_law c_law k_law
  exact ⟨PySem.W.fnOf "law" "law" (defArgs s_law) (defBody s_law) (defScope s_law) .none kV_law doc_law pm_law an_law cdv_law ct_law, fun s v => .of_eq rfl, fun base _ _ => all_ok T Z F0⟩
theorem walk {l : PySem.W.OpenLaw} {q : Program} {loose : List Str} {XP : (Str → Option Value) → Heap → Prop} {YP : World → Heap → Prop} {d : DefRec} {K : Params → PySem.W.Frag} (hn : l.most = some 63) (hdf : d.params.defaults = [])
    (hY : ∀ (w : World) (h : Heap), YP w h → (K w.params).In h)
    (F : ∀ (w : World) (mg : Str → Option Value) (fa : Addr) (h : Heap), (K w.params).In h → h.Ns mainGlobals mg → mg d.name = some (.ref fa) →
      ∃ fd : FuncData, (∀ (s : Shared) (u : Value), BindsTo s fd ⟨[u], []⟩ [("_law_script", u)]) ∧ ∀ base : Heap, (K w.params).In base → base.Ns mainGlobals mg → FnOk l.prog w (K w.params) mg base CX0 8 fa fd ["_law_script"] (spD (K w.params) m_law 1)) :
    PySem.W.WalkO q loose XP YP l.row.toRowW d [] (fun f vs => PySem.call f vs) :=
  L2.walk_of (n := 63) (k := 8) (x := "_law_script") (CX := fun _ => CX0) (sp := fun w => spD (K w.params) m_law 1) hn (by decide) hdf ⟨rfl, by decide, by decide, rfl⟩ hY F (fun _ H a ns hl _ hS => law_of (main ns hl) hS (fun p hp => absurd (show p ∈ ([] : List (Addr × Str)) from hp) (by simp)) (by show (List.map (fun x => x.1) ([] : List (Addr × Str))).Nodup; simp)) fun _ _ _ _ _ z => z
end Law
open PySem PySem.W PyProof.Rows
set_option maxRecDepth 100000 in
set_option maxHeartbeats 0 in
theorem PySem.Challenge.cw_doorhouse_k47_rights_that_nobody_has_holds : PySem.Challenge.rw_doorhouse_k47_rights_that_nobody_has.Holds := by
  w_on; o_law; k_head; (case hw => w_witness2)
  k_fill
  refine Law.walk (l := PySem.Challenge.rw_doorhouse_k47_rights_that_nobody_has) rfl rfl (fun w h Y => PySem.W.kIn_of Y) ?F
  case F =>
    intro w mg fa h KX G hmg
    refine' Law.all_mk KX G hmg ?z_all ?z_any ?z_enumerate ?z_int ?z_isinstance ?z_len ?z_range ?z_repr ?z_set ?z_sorted ?z_str ?z_tuple ?z_zip ?z_ALL ?z_DEEDS ?y_DEEDS ?z_KNOWN ?z_LETTERS ?z_MOST_PEOPLE ?z_MOST_RULES ?z_MOST_SIGNS ?z_OWN ?z_ROLE ?z_WORD_SIGNS ?a_is_short_text ?l_is_short_text ?c_is_short_text ?k_is_short_text ?a_is_name ?l_is_name ?c_is_name ?k_is_name ?a_is_name_or_empty ?l_is_name_or_empty ?c_is_name_or_empty ?k_is_name_or_empty ?a_is_word ?l_is_word ?c_is_word ?k_is_word ?a_are_unlike ?l_are_unlike ?c_are_unlike ?k_are_unlike ?a_are_rising ?l_are_rising ?c_are_rising ?k_are_rising ?a_are_roles ?l_are_roles ?c_are_roles ?k_are_roles ?a_is_person ?l_is_person ?c_is_person ?k_is_person ?a_are_named_rows ?l_are_named_rows ?c_are_named_rows ?k_are_named_rows ?a_is_who ?l_is_who ?c_is_who ?k_is_who ?a_is_rule ?l_is_rule ?c_is_rule ?k_is_rule ?a_are_rules ?l_are_rules ?c_are_rules ?k_are_rules ?a_are_people ?l_are_people ?c_are_people ?k_are_people ?a_asker_of ?l_asker_of ?c_asker_of ?k_asker_of ?a_name_of ?l_name_of ?c_name_of ?k_name_of ?a_check_rules ?l_check_rules ?c_check_rules ?k_check_rules ?a_is_for ?l_is_for ?c_is_for ?k_is_for ?a_find_rule ?l_find_rule ?c_find_rule ?k_find_rule ?a_is_met ?l_is_met ?c_is_met ?k_is_met ?a_nobody ?l_nobody ?c_nobody ?k_nobody ?a__law_cell ?l__law_cell ?c__law_cell ?k__law_cell ?a__law_pen ?l__law_pen ?c__law_pen ?k__law_pen ?a__law_draw ?l__law_draw ?c__law_draw ?k__law_draw ?a__law_pick ?l__law_pick ?c__law_pick ?k__law_pick ?a__law_kinds ?l__law_kinds ?c__law_kinds ?k__law_kinds ?a__law_rules ?l__law_rules ?c__law_rules ?k__law_rules ?a__law_let ?l__law_let ?c__law_let ?k__law_let ?a__law_people ?l__law_people ?c__law_people ?k__law_people ?a__law_told ?l__law_told ?c__law_told ?k__law_told ?a_law ?l_law ?c_law ?k_law
    (case z_all => k_is)
    (case z_any => k_is)
    (case z_enumerate => k_is)
    (case z_int => k_is)
    (case z_isinstance => k_is)
    (case z_len => k_is)
    (case z_range => k_is)
    (case z_repr => k_is)
    (case z_set => k_is)
    (case z_sorted => k_is)
    (case z_str => k_is)
    (case z_tuple => k_is)
    (case z_zip => k_is)
    (case z_ALL => k_is)
    (case z_DEEDS => k_is)
    (case y_DEEDS => k_is)
    (case z_KNOWN => k_is)
    (case z_LETTERS => k_is)
    (case z_MOST_PEOPLE => k_is)
    (case z_MOST_RULES => k_is)
    (case z_MOST_SIGNS => k_is)
    (case z_OWN => k_is)
    (case z_ROLE => k_is)
    (case z_WORD_SIGNS => k_is)
    (case a_is_short_text => k_is)
    (case l_is_short_text => k_is)
    (case c_is_short_text => k_is)
    (case k_is_short_text => k_is)
    (case a_is_name => k_is)
    (case l_is_name => k_is)
    (case c_is_name => k_is)
    (case k_is_name => k_is)
    (case a_is_name_or_empty => k_is)
    (case l_is_name_or_empty => k_is)
    (case c_is_name_or_empty => k_is)
    (case k_is_name_or_empty => k_is)
    (case a_is_word => k_is)
    (case l_is_word => k_is)
    (case c_is_word => k_is)
    (case k_is_word => k_is)
    (case a_are_unlike => k_is)
    (case l_are_unlike => k_is)
    (case c_are_unlike => k_is)
    (case k_are_unlike => k_is)
    (case a_are_rising => k_is)
    (case l_are_rising => k_is)
    (case c_are_rising => k_is)
    (case k_are_rising => k_is)
    (case a_are_roles => k_is)
    (case l_are_roles => k_is)
    (case c_are_roles => k_is)
    (case k_are_roles => k_is)
    (case a_is_person => k_is)
    (case l_is_person => k_is)
    (case c_is_person => k_is)
    (case k_is_person => k_is)
    (case a_are_named_rows => k_is)
    (case l_are_named_rows => k_is)
    (case c_are_named_rows => k_is)
    (case k_are_named_rows => k_is)
    (case a_is_who => k_is)
    (case l_is_who => k_is)
    (case c_is_who => k_is)
    (case k_is_who => k_is)
    (case a_is_rule => k_is)
    (case l_is_rule => k_is)
    (case c_is_rule => k_is)
    (case k_is_rule => k_is)
    (case a_are_rules => k_is)
    (case l_are_rules => k_is)
    (case c_are_rules => k_is)
    (case k_are_rules => k_is)
    (case a_are_people => k_is)
    (case l_are_people => k_is)
    (case c_are_people => k_is)
    (case k_are_people => k_is)
    (case a_asker_of => k_is)
    (case l_asker_of => k_is)
    (case c_asker_of => k_is)
    (case k_asker_of => k_is)
    (case a_name_of => k_is)
    (case l_name_of => k_is)
    (case c_name_of => k_is)
    (case k_name_of => k_is)
    (case a_check_rules => k_is)
    (case l_check_rules => k_is)
    (case c_check_rules => k_is)
    (case k_check_rules => k_is)
    (case a_is_for => k_is)
    (case l_is_for => k_is)
    (case c_is_for => k_is)
    (case k_is_for => k_is)
    (case a_find_rule => k_is)
    (case l_find_rule => k_is)
    (case c_find_rule => k_is)
    (case k_find_rule => k_is)
    (case a_is_met => k_is)
    (case l_is_met => k_is)
    (case c_is_met => k_is)
    (case k_is_met => k_is)
    (case a_nobody => k_is)
    (case l_nobody => k_is)
    (case c_nobody => k_is)
    (case k_nobody => k_is)
    (case a__law_cell => k_is)
    (case l__law_cell => k_is)
    (case c__law_cell => k_is)
    (case k__law_cell => k_is)
    (case a__law_pen => k_is)
    (case l__law_pen => k_is)
    (case c__law_pen => k_is)
    (case k__law_pen => k_is)
    (case a__law_draw => k_is)
    (case l__law_draw => k_is)
    (case c__law_draw => k_is)
    (case k__law_draw => k_is)
    (case a__law_pick => k_is)
    (case l__law_pick => k_is)
    (case c__law_pick => k_is)
    (case k__law_pick => k_is)
    (case a__law_kinds => k_is)
    (case l__law_kinds => k_is)
    (case c__law_kinds => k_is)
    (case k__law_kinds => k_is)
    (case a__law_rules => k_is)
    (case l__law_rules => k_is)
    (case c__law_rules => k_is)
    (case k__law_rules => k_is)
    (case a__law_let => k_is)
    (case l__law_let => k_is)
    (case c__law_let => k_is)
    (case k__law_let => k_is)
    (case a__law_people => k_is)
    (case l__law_people => k_is)
    (case c__law_people => k_is)
    (case k__law_people => k_is)
    (case a__law_told => k_is)
    (case l__law_told => k_is)
    (case c__law_told => k_is)
    (case k__law_told => k_is)
    (case a_law => k_is)
    (case l_law => k_is)
    (case c_law => k_is)
    (case k_law => k_is)
