import PyProof.Rows.All
import PyProof.EqKinds
import KE.KEqDict
import Wide.All
import OpenK.AllK
import Wide.FinOn
import PyProof.EqAt
import PyProof.TupleCall
import KE.BitLaws
import PyProof.Rows.NestShow
import KE.KSortTupG
import KE.KSortTup
import KE.KEqDeep
import KE.KIsAll
import KE.KDictSum
import PyProof.StrOps2
import PyProof.ListMulRoad
import KE.KxMul
import PySem.Challenge.RW_doorhouse_k01_paths_patterns_and_routes
namespace PySem.SeqAt
open AutoSeq1 (wpAny_loadPart')
open MeetsSeq
theorem dict_eq_declines_str (l : Addr) (es : Array DictEntry) (n : Nat) (dd : Option Addr) (sl : Array (Option Value)) (b : Str) (u : Tok) :
    Meets (Builtin.«dict.__eq__» ⟨[.ref l, .str b u], []⟩) (fun _ R s => s.heap.get? l = some { cls := .type "dict", dict := dd, data := .dict es n, slots := sl } ∧ R (.ok (.ret .notImplemented)) s) :=
  .of_wp fun prog w A R s h => by obtain ⟨hp, g, d, tk, os⟩ := s; obtain ⟨hl, h⟩ := h; have f1 := F.sub_str_dict; wp_walk using wpAny_loadPart' hl, wpAny_load hl; exact ⟨_, rfl, h⟩
theorem str_eq_declines_dict (b : Str) (u : Tok) (l : Addr) (c : Value) (es : Array DictEntry) (n : Nat) (dd : Option Addr) (sl : Array (Option Value)) :
    Meets (Builtin.«str.__eq__» ⟨[.str b u, .ref l], []⟩) (fun _ R s => s.heap.get? l = some { cls := c, dict := dd, data := .dict es n, slots := sl } ∧ R (.ok (.ret .notImplemented)) s) :=
  .of_wp fun prog w A R s h => by obtain ⟨hp, g, d, tk, os⟩ := s; obtain ⟨hl, h⟩ := h; wp_walk using wpAny_loadPart' hl, wpAny_load hl; exact ⟨_, rfl, h⟩
variable {A : Around} {s : Shared}
theorem RcAt.str_dict {l : Addr} {o : Obj} {es : Array DictEntry} {n : Nat} (b : Str) (u : Tok) (ho : s.heap.get? l = some o) (hc : o.cls = .type "dict") (hd : o.data = .dict es n) (hu : A.units < cLine) : RcAt A s (.str b u) (.ref l) false := fun prog w E Q h => by
  obtain ⟨cls, dd, data, sl⟩ := o
  simp only at hc hd
  subst hc hd
  exact rc_eq_decline_or (k := false) (typeIs_str s b u) ⟨_, ho, rfl⟩ (by decide) F.sub_dict_str F.slot_str_eq F.slot_dict_eq_refl
    (fun _ hq => call_meets F.slot_str_eq (typeIs_str s b u) F.entry_str_eq (F.args_str_eq_2 _ _) (str_eq_declines_dict b u l (.type "dict") es n dd sl) ⟨ho, hq⟩)
    (fun _ hq => call_meets F.slot_dict_eq_refl ⟨_, ho, rfl⟩ F.entry_dict_eq (F.args_dict_eq_2 _ _) (dict_eq_declines_str l es n dd sl b u) ⟨ho, hq⟩)
    (fun _ hq => wpAny_of_eq (rfl : isSame (.str b u) (.ref l) = pure false) hq) (.inr hu) h
theorem EqAt.str_dict {l : Addr} {o : Obj} {es : Array DictEntry} {n : Nat} (b : Str) (u : Tok) (ho : s.heap.get? l = some o) (hc : o.cls = .type "dict") (hd : o.data = .dict es n) (hu : A.units < cLine) : EqAt A s (.str b u) (.ref l) false := fun prog w E Q h => by
  unfold eqBool
  refine wpAny_holding ?_
  refine wpAny_ite_split (fun hab => absurd (eq_of_beq hab) nofun) (fun _ => ?_)
  exact wpAny_bind (RcAt.str_dict b u ho hc hd hu prog w E _ (wpAny_truthy_bool h))
end PySem.SeqAt
-- CHANGE: your row's module here, as the last of these rows
set_option Elab.async false
set_option linter.all false
set_option maxRecDepth 100000
namespace L2
open PySem PySem.Spec PyProof.Rows
abbrev Key := Sum Int Str
def keyIs : Key → Value → Bool
  | .inl k, v => Value.isInt k v
  | .inr x, v => Value.isStrOf x v
def keyH (w : World) : Key → Int
  | .inl k => hashInt k
  | .inr x => hashStr w x
theorem keyIs_shape : ∀ {k : Key} {v : Value}, keyIs k v = true → (∃ i t, k = Sum.inl i ∧ v = Value.int i t) ∨ (∃ x t, k = Sum.inr x ∧ v = Value.str x t)
  | .inl i, v, h => by
    obtain ⟨t, e⟩ := Value.isInt_shape (k := i) (v := v) h
    exact .inl ⟨i, t, rfl, e⟩
  | .inr x, v, h => by
    obtain ⟨t, e⟩ := Value.isStrOf_shape (x := x) (v := v) h
    exact .inr ⟨x, t, rfl, e⟩
theorem key_ll (a b : Int) : decide ((Sum.inl a : Key) = Sum.inl b) = (a == b) := by
  by_cases e : a = b
  · subst e; simp
  · have h : ¬ (Sum.inl a : Key) = Sum.inl b := fun q => e (Sum.inl.inj q)
    rw [decide_eq_false h]
    exact (beq_eq_false_iff_ne.mpr e).symm
theorem key_rr (a b : Str) : decide ((Sum.inr a : Key) = Sum.inr b) = decide (a = b) := by
  by_cases e : a = b
  · subst e; simp
  · have h : ¬ (Sum.inr a : Key) = Sum.inr b := fun q => e (Sum.inr.inj q)
    rw [decide_eq_false h, decide_eq_false e]
theorem key_lr (a : Int) (b : Str) : decide ((Sum.inl a : Key) = Sum.inr b) = false := decide_eq_false (fun q => nomatch q)
theorem key_rl (a : Str) (b : Int) : decide ((Sum.inr a : Key) = Sum.inl b) = false := decide_eq_false (fun q => nomatch q)
def mixKind (prog : Program) (w : World) : PySem.KeyKind prog w Key where
  is := keyIs
  hash := keyH w
  inj := fun v a b ha hb => by
    rcases keyIs_shape ha with ⟨i, t, rfl, rfl⟩ | ⟨x, t, rfl, rfl⟩
    · rcases keyIs_shape hb with ⟨j, u, rfl, e⟩ | ⟨y, u, rfl, e⟩
      · injection e with e1 _; rw [e1]
      · exact nomatch e
    · rcases keyIs_shape hb with ⟨j, u, rfl, e⟩ | ⟨y, u, rfl, e⟩
      · exact nomatch e
      · injection e with e1 _; rw [e1]
  byValue := fun k v h => by
    rcases keyIs_shape h with ⟨i, t, rfl, rfl⟩ | ⟨x, t, rfl, rfl⟩ <;> rfl
  pyHash := fun hv h => by
    rcases keyIs_shape hv with ⟨i, t, rfl, rfl⟩ | ⟨x, t, rfl, rfl⟩
    · exact wpAny_pyHash_int h
    · exact wpAny_pyHash_str h
  eqBool := fun hu hv h => by
    rcases keyIs_shape hu with ⟨i, t, rfl, rfl⟩ | ⟨x, t, rfl, rfl⟩
    · rcases keyIs_shape hv with ⟨j, u, rfl, rfl⟩ | ⟨y, u, rfl, rfl⟩
      · rw [key_ll] at h; exact wpAny_eqBool_int h
      · rw [key_lr] at h; exact SeqAt.EqAt.int_str i t y u _ _ _ _ h
    · rcases keyIs_shape hv with ⟨j, u, rfl, rfl⟩ | ⟨y, u, rfl, rfl⟩
      · rw [key_rl] at h; exact SeqAt.EqAt.str_int x t j u _ _ _ _ h
      · rw [key_rr] at h; exact wpAny_eqBool_str h
  «strs» := fun k x t v h => by
    rcases keyIs_shape h with ⟨i, u, rfl, e⟩ | ⟨y, u, rfl, e⟩
    · exact nomatch e
    · injection e with e1 _
      subst e1
      cases v <;> rfl
end L2
namespace L2
open PySem PySem.Spec PyProof.Rows
inductive V where
  | non | bl (b : Bool) | int (i : Int) | str (x : Str) | byt (b : Array UInt8) | flt (b : UInt64) | ref (a : Addr) | ty (n : String)
  deriving DecidableEq
def RelV : V → Value → Prop
  | .non, u => u = Value.none
  | .bl b, u => u = Value.bool b
  | .int i, u => ∃ t, u = Value.int i t
  | .str x, u => ∃ t, u = Value.str x t
  | .byt b, u => ∃ t, u = Value.bytes b t
  | .flt b, u => ∃ t, u = Value.float b t
  | .ref a, u => u = Value.ref a
  | .ty n, u => u = Value.type n
abbrev Vals : List V → List Value → Prop := Paired RelV
theorem Vals.length {xs : List V} {us : List Value} (r : Vals xs us) : xs.length = us.length := Paired.length r
theorem Vals.get : ∀ {xs : List V} {us : List Value} {i : Nat} {x : V}, Vals xs us → xs[i]? = some x → ∃ u, us[i]? = some u ∧ RelV x u
  | _, _, _, _, .nil, e => by simp at e
  | _, _, 0, _, .cons r _, e => by simp at e; subst e; exact ⟨_, rfl, r⟩
  | _, _, i + 1, x, .cons _ t, e => by
    obtain ⟨u, h1, h2⟩ := Vals.get (i := i) (x := x) t (by simpa using e)
    exact ⟨u, by simpa using h1, h2⟩
theorem Vals.set {x : V} {u : Value} (r : RelV x u) : ∀ {xs : List V} {us : List Value} (i : Nat), Vals xs us → Vals (xs.set i x) (us.set i u)
  | _, _, _, .nil => .nil
  | _, _, 0, .cons _ t => .cons r t
  | _, _, i + 1, .cons q t => .cons q (Vals.set r i t)
theorem Vals.append : ∀ {xs ys : List V} {us ws : List Value}, Vals xs us → Vals ys ws → Vals (xs ++ ys) (us ++ ws)
  | _, _, _, _, .nil, s => s
  | _, _, _, _, .cons r t, s => .cons r (Vals.append t s)
theorem Vals.take : ∀ {xs : List V} {us : List Value} (n : Nat), Vals xs us → Vals (xs.take n) (us.take n)
  | _, _, 0, _ => .nil
  | _, _, _ + 1, .nil => .nil
  | _, _, n + 1, .cons r t => .cons r (Vals.take n t)
theorem Vals.drop : ∀ {xs : List V} {us : List Value} (n : Nat), Vals xs us → Vals (xs.drop n) (us.drop n)
  | _, _, 0, r => r
  | _, _, _ + 1, .nil => .nil
  | _, _, n + 1, .cons _ t => Vals.drop n t
def RelO : Option V → Option Value → Prop
  | some v, some u => RelV v u
  | none, none => True
  | _, _ => False
def KV {κ : Type} : List (κ × V) → List (κ × Value) → Prop := Paired fun (p : κ × V) (q : κ × Value) => p.1 = q.1 ∧ RelV p.2 q.2
def kV : Key → V
  | .inl i => .int i
  | .inr x => .str x
inductive HO where
  /-- a list -/
  | lst (xs : List V)
  /-- a tuple (never changes) -/
  | tup (xs : List V)
  /-- a dict whose keys are ints and texts; one whose keys are tuples of ints and texts (the empty one is both) -/
  | dK (kvs : List (Key × V)) | dT (kvs : List (List Key × V))
  /-- a set of ints: its members, its size -/
  | set (S : Int → Bool) (n : Nat)
  /-- an instance of the class at C, its dict at dx, its attributes -/
  | ins (C dx : Addr) (fs : List (Str × V))
  /-- the dict of the instance at x -/
  | own (x : Addr)
  /-- the dict of an exception -/
  | xd (fs : List (Str × V))
  /-- a bound method, f of x -/
  | met (f x : Addr)
  /-- a range object lo, lo + 1, .. below hi -/
  | rng (lo hi : Int)
  /-- a thing that is known to the object (the script; a dict while a loop walks it): read, never written while it is so -/
  | frz (o : Obj) (u : HO)
  /-- a code object's table -/
  | tbl (ps : Array Value)
  /-- any other thing, by what is true of its one object (a def of one's own: SetO a S n := HO.ext fun h => ..) -/
  | ext (φ : Heap → Prop)
abbrev Hp := Addr → Option HO
def upd (H : Hp) (a : Addr) (o : HO) : Hp := fun b => if b = a then some o else H b
theorem upd_same {H : Hp} {a : Addr} {o : HO} : upd H a o a = some o := by unfold upd; rw [if_pos rfl]
theorem upd_ne {H : Hp} {a b : Addr} {o : HO} (h : b ≠ a) : upd H a o b = H b := by unfold upd; rw [if_neg h]
theorem upd_upd {H : Hp} {a : Addr} {o u : HO} : upd (upd H a o) a u = upd H a u := by
  funext b; unfold upd; split <;> rfl
theorem ne_of_none {H : Hp} {a b : Addr} {o : HO} (h : H a = some o) (h' : H b = none) : a ≠ b := by
  intro e; subst e; rw [h] at h'; cases h'
def TupD (h : Heap) (a : Addr) (items : Array Value) : Prop := ∃ o, h.get? a = some o ∧ o.cls = .type "tuple" ∧ ∃ n, o.data = .seq items n ∧ o.dict = none
theorem TupD.tup {h : Heap} {a : Addr} {items : Array Value} (x : TupD h a items) : IsTup h a items := let ⟨o, e, c, n, d, _⟩ := x; ⟨o, e, c, n, d⟩
theorem TupD.new (h : Heap) (items : Array Value) : TupD (h.push { cls := .type "tuple", data := .seq items }) h.objs.size items := ⟨_, Heap.get?_push_size _ rfl, rfl, _, rfl, rfl⟩
section
variable (P : Program) (w : World)
def ObjOk (H : Hp) (h : Heap) (a : Addr) : HO → Prop
  | .lst xs => xs.length ≤ sizeLine ∧ ∃ (its : List Value) (n : Nat), Vals xs its ∧ h.get? a = some { cls := .type "list", data := .seq its.toArray n }
  | .tup xs => xs.length ≤ sizeLine ∧ ∃ its : List Value, Vals xs its ∧ TupD h a its.toArray
  | .dK kvs => kvs.length ≤ sizeLine ∧ (a == sysModules) = false ∧ ∃ vs, KV kvs vs ∧ h.DictOf (mixKind P w) a vs
  | .dT kvs => kvs.length ≤ sizeLine ∧ (a == sysModules) = false ∧ ∃ xs : List (List Key × Addr × Value),
      Paired (fun (p : List Key × V) (q : List Key × Addr × Value) => p.1 = q.1 ∧ H q.2.1 = some (.tup (p.1.map kV)) ∧ RelV p.2 q.2.2) kvs xs ∧
      ∃ o es ep, h.get? a = some o ∧ o.ExactDict ∧ o.data = .dict es ep ∧ es.toList = xs.map (entryOfKey (tupleKind (mixKind P w))) ∧ (xs.map (·.1)).Nodup
  | .set S n => h.SetOf (intKind P w) a S n
  | .ins C dx fs => H dx = some (.own a) ∧ fs.length ≤ 1000 ∧ dx ≠ a ∧ h.get? a = some (PySem.W.instObj C dx) ∧
      ∃ mA, h.Ns1 dx mA ∧ (∀ f, RelO (fs.lookup f) (mA f)) ∧ PySem.Within mA (fs.map (·.1))
  | .own _ => ∃ o, h.get? a = some o
  | .xd fs => ∃ mA, h.Ns1 a mA ∧ ∀ f, RelO (fs.lookup f) (mA f)
  | .rng lo hi => ∃ t u v, h.get? a = some { cls := .type "range", data := .fields #[.int lo t, .int hi u, .int 1 v] }
  | .frz o u => h.get? a = some o ∧ ObjOk H h a u
  | .tbl ps => h.get? a = some { cls := .none, data := .fields ps }
  | .met f x => h.get? a = some (PySem.W.methodObj (.ref f) (.ref x))
  | .ext φ => φ h ∧ (∃ o, h.get? a = some o) ∧ ∀ h1 h2 : Heap, φ h1 → (∀ o, h1.get? a = some o → h2.get? a = some o) → φ h2
def HOk (H : Hp) (h : Heap) : Prop := ∀ a o, H a = some o → ObjOk P w H h a o
end
section
variable {P : Program} {w : World} {H H' : Hp} {h h' : Heap} {a : Addr} {o : HO}
theorem ObjOk.lt (x : ObjOk P w H h a o) : a < h.objs.size := by
  cases o with
  | lst xs => obtain ⟨_, _, _, _, e⟩ := x; exact Heap.lt_size e
  | tup xs => obtain ⟨_, _, _, p⟩ := x; exact p.tup.lt
  | dK kvs => obtain ⟨_, _, _, _, o, _, _, e, _⟩ := x; exact Heap.lt_size e
  | dT kvs => obtain ⟨_, _, _, _, o, _, _, e, _⟩ := x; exact Heap.lt_size e
  | set S n => obtain ⟨o, _, _, _, e, _⟩ := x; exact Heap.lt_size e
  | ins C dx fs => obtain ⟨_, _, _, e, _⟩ := x; exact Heap.lt_size e
  | own y => obtain ⟨_, e⟩ := x; exact Heap.lt_size e
  | xd fs => obtain ⟨_, ⟨_, _, _, e, _⟩, _⟩ := x; exact Heap.lt_size e
  | rng lo hi => obtain ⟨_, _, _, e⟩ := x; exact Heap.lt_size e
  | frz ob u => obtain ⟨e, _⟩ := x; exact Heap.lt_size e
  | tbl ps => exact Heap.lt_size (show h.get? a = some _ from x)
  | met f y => exact Heap.lt_size (show h.get? a = some _ from x)
  | ext φ => obtain ⟨_, ⟨_, e⟩, _⟩ := x; exact Heap.lt_size e
theorem Paired.mapP {α β : Type} {F G : α → β → Prop} : ∀ {l₁ : List α} {l₂ : List β}, Paired F l₁ l₂ → (∀ a b, F a b → G a b) → Paired G l₁ l₂
  | _, _, .nil, _ => .nil
  | _, _, .cons r t, f => .cons (f _ _ r) (Paired.mapP t f)
theorem ObjOk.stay (x : ObjOk P w H h a o) (k : ∀ b u, (b = a ∨ H b = some (.own a)) → h.get? b = some u → h'.get? b = some u)
    (ho : ∀ b, H b = some (.own a) → H' b = some (.own a)) (ht : ∀ b xs, H b = some (.tup xs) → H' b = some (.tup xs)) : ObjOk P w H' h' a o := by
  induction o with
  | lst xs => obtain ⟨z, its, n, r, e⟩ := x; exact ⟨z, its, n, r, k _ _ (.inl rfl) e⟩
  | tup xs => obtain ⟨z, its, r, ob, e, c⟩ := x; exact ⟨z, its, r, ob, k _ _ (.inl rfl) e, c⟩
  | dK kvs => obtain ⟨z, y, vs, r, ob, es, ep, e, c⟩ := x; exact ⟨z, y, vs, r, ob, es, ep, k _ _ (.inl rfl) e, c⟩
  | dT kvs =>
    obtain ⟨z, y, xs, r, ob, es, ep, e, c⟩ := x
    exact ⟨z, y, xs, Paired.mapP r fun p q z => ⟨z.1, ht _ _ z.2.1, z.2.2⟩, ob, es, ep, k _ _ (.inl rfl) e, c⟩
  | set S n => obtain ⟨ob, es, ep, t, e, c⟩ := x; exact ⟨ob, es, ep, t, k _ _ (.inl rfl) e, c⟩
  | ins C dx fs =>
    obtain ⟨d, z, ne, e, mA, ⟨od, es, ep, e2, c⟩, r⟩ := x
    exact ⟨ho _ d, z, ne, k _ _ (.inl rfl) e, mA, ⟨od, es, ep, k _ _ (.inr d) e2, c⟩, r⟩
  | own y => obtain ⟨ob, e⟩ := x; exact ⟨ob, k _ _ (.inl rfl) e⟩
  | xd fs => obtain ⟨mA, ⟨od, es, ep, e, c⟩, r⟩ := x; exact ⟨mA, ⟨od, es, ep, k _ _ (.inl rfl) e, c⟩, r⟩
  | rng lo hi => obtain ⟨t, u, v, e⟩ := x; exact ⟨t, u, v, k _ _ (.inl rfl) e⟩
  | frz ob u ih => obtain ⟨e, q⟩ := x; exact ⟨k _ _ (.inl rfl) e, ih q⟩
  | tbl ps =>
    have e : h.get? a = some { cls := .none, data := .fields ps } := x
    show h'.get? a = some { cls := .none, data := .fields ps }
    exact k a _ (.inl rfl) e
  | met f y =>
    have e : h.get? a = some (PySem.W.methodObj (.ref f) (.ref y)) := x
    show h'.get? a = some (PySem.W.methodObj (.ref f) (.ref y))
    exact k a _ (.inl rfl) e
  | ext φ => obtain ⟨p, ⟨o, e⟩, st⟩ := x; exact ⟨st _ _ p fun o q => k _ _ (.inl rfl) q, ⟨o, k _ _ (.inl rfl) e⟩, st⟩
theorem HOk.lt (x : HOk P w H h) (e : H a = some o) : a < h.objs.size := (x a o e).lt
theorem HOk.fresh (x : HOk P w H h) (e : h.objs.size ≤ a) : H a = none := by
  cases q : H a with
  | none => rfl
  | some u => exact absurd (Nat.lt_of_lt_of_le (x.lt q) e) (Nat.lt_irrefl _)
theorem HOk.kept (x : HOk P w H h) (k : ∀ b u, h.get? b = some u → h'.get? b = some u) : HOk P w H h' := fun a o e =>
  (x a o e).stay (fun b u _ q => k b u q) (fun _ q => q) fun _ _ q => q
theorem HOk.laid (x : HOk P w H h) (k : ∀ b u, h.get? b = some u → h'.get? b = some u) (hp : h.objs.size ≤ a) (new : ObjOk P w (upd H a o) h' a o) : HOk P w (upd H a o) h' := fun b u e => by
  have hn := x.fresh hp
  by_cases hb : b = a
  · subst hb; rw [upd_same] at e; cases e; exact new
  · rw [upd_ne hb] at e
    exact (x b u e).stay (fun c v _ q => k c v q) (fun c q => by rw [upd_ne (ne_of_none q hn)]; exact q) fun c xs q => by rw [upd_ne (ne_of_none q hn)]; exact q
end
def Rd (H : Hp) (a : Addr) (u : HO) : Prop := H a = some u ∨ ∃ o, H a = some (.frz o u)
theorem Rd.of {H : Hp} {a : Addr} {u : HO} (h : H a = some u) : Rd H a u := .inl h
theorem Rd.ok {P : Program} {w : World} {H : Hp} {h : Heap} {a : Addr} {u : HO} (r : Rd H a u) (x : HOk P w H h) : ObjOk P w H h a u := by
  rcases r with r | ⟨o, r⟩
  · exact x a u r
  · obtain ⟨_, q⟩ := x a _ r
    exact q
def Mut : Option HO → Prop
  | some (.lst _) => True
  | some (.dK _) => True
  | some (.dT _) => True
  | some (.set _ _) => True
  | some (.ins _ _ _) => True
  | some (.ext _) => True
  | _ => False
section
variable {P : Program} {w : World} {H : Hp} {h h' : Heap} {x e : Addr} {o' : HO}
theorem HOk.write (ok : HOk P w H h) (mu : Mut (H x)) (he : e = x ∨ H e = some (.own x)) (k : ∀ b u, b ≠ e → h.get? b = some u → h'.get? b = some u) (heo : ∃ u, h'.get? e = some u)
    (new : ObjOk P w (upd H x o') h' x o') : HOk P w (upd H x o') h' := fun b u q => by
  have nown : ∀ c y, H c = some (.own y) → c ≠ x := fun c y r z => by subst z; rw [r] at mu; exact mu
  have ntup : ∀ c xs, H c = some (.tup xs) → c ≠ x := fun c xs r z => by subst z; rw [r] at mu; exact mu
  by_cases hb : b = x
  · subst hb; rw [upd_same] at q; cases q; exact new
  · rw [upd_ne hb] at q
    by_cases hbe : b = e
    · have q' : H b = some (.own x) := by
        rcases he with z | z
        · exact absurd (hbe.trans z) hb
        · rw [hbe]; exact z
      rw [q] at q'; cases q'
      obtain ⟨v, hv⟩ := heo
      exact ⟨v, by rw [hbe]; exact hv⟩
    · refine (ok b u q).stay (fun c v hc r => k c v ?_ r) (fun c r => by rw [upd_ne (nown c b r)]; exact r) fun c xs r => by rw [upd_ne (ntup c xs r)]; exact r
      rcases hc with rfl | hc
      · exact hbe
      · rintro rfl
        rcases he with z | z
        · exact nown c b hc z
        · rw [hc] at z; cases z; exact hb rfl
end
structure Un (fs ex : List Addr) (H H' : Hp) (h h' : Heap) : Prop where
  keep : ∀ b o, h.get? b = some o → H b = none → b ∉ fs → b ∉ ex → h'.get? b = some o
  slot : ∀ b o, h.get? b = some o → H b = none → b ∈ fs → b ∉ ex → ∃ sl, h'.get? b = some { o with slots := sl }
  free : ∀ b o, h.get? b = some o → H b = none → b ∉ ex → H' b = none
  there : ∀ b o, h.get? b = some o → b ∉ ex → ∃ o', h'.get? b = some o'
  tups : ∀ b xs, H b = some (.tup xs) → H' b = some (.tup xs)
  frzs : ∀ b o u, H b = some (.frz o u) → H' b = some (.frz o u)
  tbls : ∀ b ps, H b = some (.tbl ps) → ∃ more, H' b = some (.tbl (ps ++ more))
section
variable {fs fs' ex ex' : List Addr} {H H1 H2 : Hp} {h h1 h2 h' : Heap} {a x e : Addr} {o : HO}
theorem Un.any (u : Un fs ex H H1 h h1) {b : Addr} {ob : Obj} (q : h.get? b = some ob) (n : H b = none) (hx : b ∉ ex) : ∃ sl, h1.get? b = some { ob with slots := sl } := by
  by_cases hb : b ∈ fs
  · exact u.slot b ob q n hb hx
  · exact ⟨ob.slots, u.keep b ob q n hb hx⟩
theorem Un.trans (a : Un fs ex H H1 h h1) (b : Un fs ex H1 H2 h1 h2) : Un fs ex H H2 h h2 where
  keep := fun c ob q n hc hx => b.keep c ob (a.keep c ob q n hc hx) (a.free c ob q n hx) hc hx
  slot := fun c ob q n hc hx => by
    obtain ⟨sl, e1⟩ := a.slot c ob q n hc hx
    obtain ⟨sl', e2⟩ := b.slot c _ e1 (a.free c ob q n hx) hc hx
    exact ⟨sl', e2⟩
  free := fun c ob q n hx => by
    obtain ⟨o', e1⟩ := a.there c ob q hx
    exact b.free c o' e1 (a.free c ob q n hx) hx
  there := fun c ob q hx => by
    obtain ⟨o', e1⟩ := a.there c ob q hx
    exact b.there c o' e1 hx
  tups := fun c xs q => b.tups c xs (a.tups c xs q)
  frzs := fun c ob xs q => b.frzs c ob xs (a.frzs c ob xs q)
  tbls := fun c ps q => by
    obtain ⟨m1, e1⟩ := a.tbls c ps q
    obtain ⟨m2, e2⟩ := b.tbls c _ e1
    exact ⟨m1 ++ m2, by rw [e2, Array.append_assoc]⟩
theorem Un.kept (k : ∀ b u, h.get? b = some u → h'.get? b = some u) : Un fs ex H H h h' :=
  ⟨fun b ob q _ _ _ => k b ob q, fun b ob q _ _ _ => ⟨ob.slots, k b ob q⟩, fun _ _ _ n _ => n, fun b ob q _ => ⟨ob, k b ob q⟩, fun _ _ q => q, fun _ _ _ q => q, fun _ ps q => ⟨#[], by rw [q]; simp⟩⟩
theorem Un.refl : Un fs ex H H h h := Un.kept fun _ _ q => q
theorem Un.laid (k : ∀ b u, h.get? b = some u → h'.get? b = some u) (hp : h.objs.size ≤ a) (hn : H a = none) : Un fs ex H (upd H a o) h h' where
  keep := fun b u q _ _ _ => k b u q
  slot := fun b u q _ _ _ => ⟨u.slots, k b u q⟩
  free := fun b u q n _ => by rw [upd_ne (Nat.ne_of_lt (Nat.lt_of_lt_of_le (Heap.lt_size q) hp))]; exact n
  there := fun b u q _ => ⟨u, k b u q⟩
  tups := fun b xs q => by rw [upd_ne (ne_of_none q hn)]; exact q
  frzs := fun b u xs q => by rw [upd_ne (ne_of_none q hn)]; exact q
  tbls := fun b ps q => ⟨#[], by rw [upd_ne (ne_of_none q hn), q]; simp⟩
theorem Un.write (mu : Mut (H x)) (he : e = x ∨ H e = some (.own x)) (k : ∀ b u, b ≠ e → h.get? b = some u → h'.get? b = some u) (heo : ∃ u, h'.get? e = some u) : Un fs ex H (upd H x o) h h' := by
  have hx : ∀ b, H b = none → b ≠ x := fun b n z => by subst z; rw [n] at mu; exact mu
  have hb : ∀ b, H b = none → b ≠ e := fun b n z => by
    subst z
    rcases he with r | r
    · exact hx b n r
    · rw [n] at r; cases r
  have hm : ∀ b u, H b = some u → ¬ Mut (some u) → b ≠ x := fun b u q nm z => by subst z; rw [q] at mu; exact nm mu
  refine ⟨fun b u q n _ _ => k b u (hb b n) q, fun b u q n _ _ => ⟨u.slots, k b u (hb b n) q⟩, fun b u q n _ => by rw [upd_ne (hx b n)]; exact n, fun b u q _ => ?_,
    fun b xs q => by rw [upd_ne (hm b _ q fun z => z)]; exact q, fun b u xs q => by rw [upd_ne (hm b _ q fun z => z)]; exact q, fun b ps q => ⟨#[], by rw [upd_ne (hm b _ q fun z => z), q]; simp⟩⟩
  by_cases hbe : b = e
  · subst hbe; exact heo
  · exact ⟨u, k b u hbe q⟩
theorem Un.mono (u : Un fs ex H H1 h h1) (hs : ∀ b ∈ fs, b ∈ fs') (hx : ∀ b ∈ ex, b ∈ ex') : Un fs' ex' H H1 h h1 :=
  ⟨fun b ob q n hb he => u.keep b ob q n (fun z => hb (hs b z)) fun z => he (hx b z), fun _ _ q n _ he => u.any q n fun z => he (hx _ z), fun b ob q n he => u.free b ob q n fun z => he (hx b z), fun b ob q he => u.there b ob q fun z => he (hx b z), u.tups, u.frzs, u.tbls⟩
end
def trk (h : Heap) (H : Hp) : List Addr := (List.range h.objs.size).filter fun a => (H a).isSome
def hidT (h : Heap) (H : Hp) : Heap := PySem.W.hideAll h (trk h H)
theorem hidT_size (h : Heap) (H : Hp) : (hidT h H).objs.size = h.objs.size := PySem.W.hideAll_size _ _
theorem hidT_get {h : Heap} {H : Hp} {b : Addr} {o : Obj} (e : h.get? b = some o) (n : H b = none) : (hidT h H).get? b = some o :=
  PySem.W.hideAll_get _ e fun hm => by
    have q : (H b).isSome = true := (List.mem_filter.mp hm).2
    rw [n] at q; simp at q
theorem of_hidT {h : Heap} {H : Hp} {b : Addr} {o : Obj} (e : (hidT h H).get? b = some o) : h.get? b = some o ∧ H b = none := by
  have e' : h.get? b = some o := PySem.W.of_hideAll (trk h H) e
  refine ⟨e', ?_⟩
  cases q : H b with
  | none => rfl
  | some x =>
    have hm : b ∈ trk h H := List.mem_filter.mpr ⟨List.mem_range.mpr (Heap.lt_size e'), by simp [q]⟩
    have z : (hidT h H).get? b = none := PySem.W.hideAll_none (trk h H) hm
    rw [z] at e; cases e
def allNews (g h : Heap) (L : Addr) : List (Addr × Obj) := (List.range h.objs.size).filterMap fun a => if a = L ∨ (g.get? a).isSome = true then none else (h.get? a).map fun o => (a, o)
def rest (g h : Heap) (L d : Addr) : List (Addr × Obj) := (allNews g h L).filter fun p => decide (p.1 ≠ d)
end L2
namespace L2
open PySem PySem.Spec PyProof.Rows
structure Mod (K : PySem.W.Frag) (mg : Str → Option Value) (base : Heap) : Prop where
  kin : K.In base
  glob : base.Ns mainGlobals mg
  blt : ∃ mb, base.Ns builtinsNs mb ∧ ∀ x : Str, x ≠ "__name__" → mb x = bootBuiltins x
  nolimit : base.NoLimit
structure Cx where
  prog : Program
  w : World
  K : PySem.W.Frag
  mg : Str → Option Value
  base : Heap
  A : Around
  N : List Str
  s_0 : Shared
  H_0 : Hp
  env : Env
  outer : List Env
  stack : List Env
  ex : List Addr
  fn : Str → Bool
  calm : Bool
  pn : List (Addr × Obj)
  xe : Value → Shared → Prop
def frs (l : List Env) : List Addr := l.filterMap (·.frame)
abbrev Cx.fs (X : Cx) : List Addr := frs X.outer
def Vis (sc : Scope) (x : Str) : Prop := sc.names.lookup x = some .local ∨ sc.names.lookup x = some .cell ∨ sc.names.lookup x = some .free
def Loc (sc : Scope) (x : Str) : Prop := sc.names.lookup x = some .local ∨ sc.names.lookup x = some .cell
def Look (env : Env) (h : Heap) (m : Str → Option Value) (x : Str) (u : Value) : Prop :=
  (env.kindOf x = some .local ∧ m x = some u) ∨ ((env.kindOf x = some .cell ∨ env.kindOf x = some .free) ∧ ∃ c, env.cells.lookup x = some c ∧ h.IsCell c (some u))
structure Cx.Ok (X : Cx) : Prop where
  mod : Mod X.K X.mg X.base
  kind : X.env.scope.kind = .function
  glob : X.env.globals = mainGlobals
  blt : X.env.builtins = builtinsNs
  above : X.s_0.heap.objs.size ≤ X.env.locals
  inj : ∀ x y c, X.env.cells.lookup x = some c → X.env.cells.lookup y = some c → x = y
  has : ∀ x, (X.env.kindOf x = some .cell ∨ X.env.kindOf x = some .free) → ∃ c, X.env.cells.lookup x = some c
  cab : ∀ x c, X.fn x = true → X.env.cells.lookup x = some c → X.s_0.heap.objs.size ≤ c
  hd : X.calm = true → X.A.handled = none
  frames : X.A.frames = some X.stack
  stk : X.stack = X.outer ∨ (X.stack = X.env :: X.outer ∧ X.env.frame = some X.env.locals)
  exf : ∀ b ∈ X.ex, b ≠ X.env.locals ∧ ∀ x c, X.env.cells.lookup x = some c → c ≠ b
  bs : ∀ b o, X.base.get? b = some o → X.s_0.heap.get? b = some o ∧ X.H_0 b = none
  bsz : X.base.objs.size ≤ X.s_0.heap.objs.size
  noex : ∀ b o, X.base.get? b = some o → b ∉ X.ex
  exfs : ∀ b ∈ X.ex, b ∉ X.fs
  funs : X.s_0.heap.FunFrames X.base X.outer
  frf : ∀ b ∈ X.fs, X.H_0 b = none
structure Inv (X : Cx) (pins : List (Addr × Obj)) (σ : List (Option V)) (H : Hp) (s : Shared) : Prop where
  ok : X.Ok
  os : s.os = X.s_0.os
  bare : AllBare s.gens
  base : Un X.fs X.ex X.H_0 H X.s_0.heap s.heap
  loc : ∃ m, s.heap.Ns X.env.locals m ∧ ∀ (i : Nat) (x : Str) (v : V), X.N[i]? = some x → σ[i]? = some (some v) → Vis X.env.scope x → ∃ u, RelV v u ∧ Look X.env s.heap m x u
  cell : ∀ x c, X.env.cells.lookup x = some c → ∃ v, s.heap.IsCell c v
  free : H X.env.locals = none
  freeC : ∀ x c, X.env.cells.lookup x = some c → H c = none
  pin : ∀ p ∈ X.pn ++ pins, s.heap.get? p.1 = some p.2 ∧ H p.1 = none ∧ p.1 ≠ X.env.locals ∧ p.1 ∉ X.fs ∧ ∀ v, p.2.data ≠ .cell v
  hok : HOk X.prog X.w H s.heap
  len : σ.length = X.N.length
section
variable {X : Cx} {pins : List (Addr × Obj)} {σ : List (Option V)} {H H' : Hp} {s : Shared} {h' : Heap}
theorem Cx.Ok.nofr (ok : X.Ok) {b : Addr} {o : Obj} (e : X.base.get? b = some o) : b ∉ X.fs := fun hb => by
  have := (ok.funs.mem hb).1
  rw [e] at this; cases this
theorem Inv.bs (I : Inv X pins σ H s) : ∀ b o, X.base.get? b = some o → s.heap.get? b = some o ∧ H b = none := fun b o e =>
  ⟨I.base.keep b o (I.ok.bs b o e).1 (I.ok.bs b o e).2 (I.ok.nofr e) (I.ok.noex b o e), I.base.free b o (I.ok.bs b o e).1 (I.ok.bs b o e).2 (I.ok.noex b o e)⟩
theorem Inv.bk (I : Inv X pins σ H s) : ∀ b o, X.base.get? b = some o → s.heap.get? b = some o := fun b o e => (I.bs b o e).1
theorem Inv.mod (I : Inv X pins σ H s) : Mod X.K X.mg X.base := I.ok.mod
theorem Inv.kIn (I : Inv X pins σ H s) : X.K.In s.heap := I.ok.mod.kin.keeps I.bk
theorem Inv.nolimit (I : Inv X pins σ H s) : s.heap.NoLimit := I.ok.mod.nolimit.keeps I.bk
theorem Inv.fr (I : Inv X pins σ H s) : ∃ m, Fr X.base X.env.locals s.heap m :=
  let ⟨m, hn, _⟩ := I.loc
  ⟨m, hn, I.bk, Nat.le_trans I.ok.bsz I.ok.above⟩
theorem Inv.lt (I : Inv X pins σ H s) : X.env.locals < s.heap.objs.size := let ⟨_, hn, _⟩ := I.loc; hn.lt
theorem Inv.sz (I : Inv X pins σ H s) : X.s_0.heap.objs.size ≤ s.heap.objs.size := Nat.le_trans I.ok.above (Nat.le_of_lt I.lt)
theorem Inv.nofs (I : Inv X pins σ H s) {a : Addr} (h : s.heap.objs.size ≤ a) : a ∉ X.fs := fun hb => by
  obtain ⟨_, o, ho, _⟩ := I.ok.funs.mem hb
  exact absurd (Nat.lt_of_lt_of_le (Heap.lt_size ho) (Nat.le_trans I.sz h)) (Nat.lt_irrefl _)
theorem Inv.cne (I : Inv X pins σ H s) : ∀ x c, X.env.cells.lookup x = some c → c ≠ X.env.locals := fun x c e z => by
  obtain ⟨v, o, ho, hd⟩ := I.cell x c e
  obtain ⟨m, ⟨o', es, ep, ho', hd', _⟩, _⟩ := I.loc
  rw [z, ho'] at ho; cases ho; rw [hd'] at hd; cases hd
theorem Inv.funs (I : Inv X pins σ H s) : s.heap.FunFrames X.base X.outer := by
  have all : ∀ (l : List Env), (∀ b ∈ frs l, b ∈ X.fs) → X.s_0.heap.FunFrames X.base l → s.heap.FunFrames X.base l := by
    intro l
    induction l with
    | nil => intro _ _; trivial
    | cons env r ih =>
      intro hs hl
      obtain ⟨hk, ⟨L, o, hf, hn, ho, hd⟩, hr⟩ := hl
      have hL : L ∈ X.fs := hs L (by unfold frs; rw [List.filterMap_cons, hf]; exact List.mem_cons_self)
      obtain ⟨sl, e⟩ := I.base.slot L o ho (I.ok.frf L hL) hL fun z => I.ok.exfs L z hL
      exact ⟨hk, ⟨L, _, hf, hn, e, hd⟩, ih (fun b hb => hs b (by unfold frs; rw [List.filterMap_cons, hf]; exact List.mem_cons_of_mem _ hb)) hr⟩
  exact all X.outer (fun _ hb => hb) I.ok.funs
theorem Inv.stack (I : Inv X pins σ H s) : s.heap.FunFrames X.base X.stack := by
  rcases I.ok.stk with e | ⟨e, hf⟩
  · rw [e]; exact I.funs
  · rw [e]
    obtain ⟨m, hn, _⟩ := I.loc
    refine .cons (by rw [I.ok.kind]; decide) hf hn ?_ I.funs
    exact Heap.get?_none_of_le (Nat.le_trans I.ok.bsz I.ok.above)
theorem Inv.stkSub (I : Inv X pins σ H s) : ∀ b ∈ frs X.stack, b ∈ X.env.locals :: X.fs := fun b hb => by
  rcases I.ok.stk with e | ⟨e, hf⟩
  · rw [e] at hb; exact List.mem_cons_of_mem _ hb
  · rw [e] at hb
    unfold frs at hb
    rw [List.filterMap_cons, hf] at hb
    exact hb
theorem Inv.stkFree (I : Inv X pins σ H s) : ∀ b ∈ frs X.stack, H b = none := fun b hb => by
  rcases List.mem_cons.mp (I.stkSub b hb) with e | hb
  · rw [e]; exact I.free
  · obtain ⟨_, o, ho, _⟩ := I.ok.funs.mem hb
    exact I.base.free b o ho (I.ok.frf b hb) fun z => I.ok.exfs b z hb
theorem Inv.step {g' : Array GenState} {t' : Nat} {d' : Drawn} {ch : List Addr} (I : Inv X pins σ H s)
    (hch : ∀ b ∈ ch, (b ∈ X.ex ∨ X.s_0.heap.objs.size ≤ b) ∧ b ≠ X.env.locals ∧ (∀ x c, X.env.cells.lookup x = some c → c ≠ b) ∧ ∀ p ∈ X.pn ++ pins, p.1 ≠ b)
    (keep : ∀ b o, b ≠ X.env.locals → b ∉ X.fs → b ∉ ch → s.heap.get? b = some o → H b = none → h'.get? b = some o)
    (slot : ∀ b o, b ≠ X.env.locals → b ∈ X.fs → b ∉ ch → s.heap.get? b = some o → H b = none → ∃ sl, h'.get? b = some { o with slots := sl }) (free : ∀ b o, b ∉ ch → s.heap.get? b = some o → H b = none → H' b = none)
    (there : ∀ b o, b ∉ ch → s.heap.get? b = some o → ∃ o', h'.get? b = some o')
    (tups : ∀ b xs, H b = some (.tup xs) → H' b = some (.tup xs)) (frzs : ∀ b o u, H b = some (.frz o u) → H' b = some (.frz o u)) (tbls : ∀ b ps, H b = some (.tbl ps) → ∃ more, H' b = some (.tbl (ps ++ more)))
    (ns : ∀ m, s.heap.Ns X.env.locals m → h'.Ns X.env.locals m) (hok : HOk X.prog X.w H' h') (hg : AllBare g') :
    Inv X pins σ H' { s with heap := h', gens := g', drawn := d', toks := t' } := by
  have neL : ∀ b o, X.s_0.heap.get? b = some o → b ≠ X.env.locals := fun b o e => Nat.ne_of_lt (Nat.lt_of_lt_of_le (Heap.lt_size e) I.ok.above)
  have neC : ∀ b o, X.s_0.heap.get? b = some o → b ∉ X.ex → b ∉ ch := fun b o e hx hb => by
    rcases (hch b hb).1 with z | z
    · exact hx z
    · exact absurd (Nat.lt_of_lt_of_le (Heap.lt_size e) z) (Nat.lt_irrefl _)
  have cellK : ∀ x c, X.env.cells.lookup x = some c → ∀ v, s.heap.IsCell c v → h'.IsCell c v := fun x c e v ⟨o, ho, hd⟩ => by
    have nch : c ∉ ch := fun z => (hch c z).2.2.1 x c e rfl
    by_cases hc : c ∈ X.fs
    · obtain ⟨sl, q⟩ := slot c o (I.cne x c e) hc nch ho (I.freeC x c e)
      exact ⟨_, q, hd⟩
    · exact ⟨o, keep c o (I.cne x c e) hc nch ho (I.freeC x c e), hd⟩
  refine ⟨I.ok, I.os, hg, ⟨fun b o e n hb hx => ?_, fun b o e n hb hx => ?_, fun b o e n hx => ?_, fun b o e hx => ?_, fun b xs e => tups b xs (I.base.tups b xs e), fun b o xs e => frzs b o xs (I.base.frzs b o xs e), fun b ps e => ?_⟩, ?_, fun x c e => ?_, ?_, fun x c e => ?_, fun p hp => ?_, hok, I.len⟩
  · exact keep b o (neL b o e) hb (neC b o e hx) (I.base.keep b o e n hb hx) (I.base.free b o e n hx)
  · obtain ⟨sl, e1⟩ := I.base.slot b o e n hb hx
    obtain ⟨sl', e2⟩ := slot b _ (neL b o e) hb (neC b o e hx) e1 (I.base.free b o e n hx)
    exact ⟨sl', e2⟩
  · obtain ⟨o', e1⟩ := I.base.there b o e hx
    exact free b o' (neC b o e hx) e1 (I.base.free b o e n hx)
  · obtain ⟨o', e1⟩ := I.base.there b o e hx
    exact there b o' (neC b o e hx) e1
  · obtain ⟨m1, e1⟩ := I.base.tbls b ps e
    obtain ⟨m2, e2⟩ := tbls b _ e1
    exact ⟨m1 ++ m2, by rw [e2, Array.append_assoc]⟩
  · obtain ⟨m, hn, hl⟩ := I.loc
    refine ⟨m, ns m hn, fun i x v e1 e2 e3 => ?_⟩
    obtain ⟨u, r, l⟩ := hl i x v e1 e2 e3
    refine ⟨u, r, ?_⟩
    rcases l with l | ⟨k, c, e, z⟩
    · exact .inl l
    · exact .inr ⟨k, c, e, cellK x c e _ z⟩
  · obtain ⟨v, z⟩ := I.cell x c e
    exact ⟨v, cellK x c e v z⟩
  · obtain ⟨m, ⟨o, _, _, ho, _⟩, _⟩ := I.loc
    exact free _ o (fun z => (hch _ z).2.1 rfl) ho I.free
  · obtain ⟨v, o, ho, hd⟩ := I.cell x c e
    exact free c o (fun z => (hch c z).2.2.1 x c e rfl) ho (I.freeC x c e)
  · obtain ⟨e, n, ne, nf, d⟩ := I.pin p hp
    have nch : p.1 ∉ ch := fun z => (hch p.1 z).2.2.2 p hp rfl
    exact ⟨keep p.1 p.2 ne nf nch e n, free p.1 p.2 nch e n, ne, nf, d⟩
theorem Inv.un {t' : Nat} (I : Inv X pins σ H s) (u : Un X.fs [] H H' s.heap h') (hok : HOk X.prog X.w H' h') : Inv X pins σ H' { s with heap := h', toks := t' } := by
  obtain ⟨m, ⟨o, es, ep, ho, r⟩, _⟩ := id I.loc
  obtain ⟨sl, hL⟩ := u.any ho I.free (by simp)
  exact I.step (g' := s.gens) (d' := s.drawn) (ch := []) (fun _ z => nomatch z) (fun b o _ hb _ e n => u.keep b o e n hb (by simp)) (fun b o _ hb _ e n => u.slot b o e n hb (by simp)) (fun b o _ e n => u.free b o e n (by simp)) (fun b o _ e => u.there b o e (by simp)) u.tups u.frzs u.tbls (fun m' hm => by
    obtain ⟨o', es', ep', ho', r'⟩ := hm
    rw [ho] at ho'; cases ho'
    exact ⟨_, es', ep', hL, r'⟩) hok I.bare
theorem Inv.call {g' : Array GenState} {t' : Nat} {d' : Drawn} {ch : List Addr} (I : Inv X pins σ H s) (u : Un (frs X.stack) ch H H' s.heap h') (hok : HOk X.prog X.w H' h') (hg : AllBare g')
    (hch : ∀ b ∈ ch, (b ∈ X.ex ∨ X.s_0.heap.objs.size ≤ b) ∧ b ≠ X.env.locals ∧ (∀ x c, X.env.cells.lookup x = some c → c ≠ b) ∧ ∀ p ∈ X.pn ++ pins, p.1 ≠ b) :
    Inv X pins σ H' { s with heap := h', gens := g', drawn := d', toks := t' } := by
  obtain ⟨m, ⟨o, es, ep, ho, r⟩, _⟩ := id I.loc
  obtain ⟨sl, hL⟩ := u.any ho I.free fun z => (hch _ z).2.1 rfl
  exact I.step (ch := ch) hch (fun b o hL hb hc e n => u.keep b o e n (fun z => (List.mem_cons.mp (I.stkSub b z)).elim hL hb) hc) (fun b o _ _ hc e n => u.any e n hc) (fun b o hc e n => u.free b o e n hc) (fun b o hc e => u.there b o e hc) u.tups u.frzs u.tbls (fun m' hm => by
    obtain ⟨o', es', ep', ho', r'⟩ := hm
    rw [ho] at ho'; cases ho'
    exact ⟨_, es', ep', hL, r'⟩) hok hg
theorem Inv.turned {t' : Nat} {it : Addr} (I : Inv X pins σ H s) (k : ∀ b o, b ≠ it → s.heap.get? b = some o → h'.get? b = some o) (hn : H it = none) (hL : it ≠ X.env.locals)
    (h1 : it ∈ X.ex ∨ X.s_0.heap.objs.size ≤ it) (h2 : ∀ x c, X.env.cells.lookup x = some c → c ≠ it) (h3 : ∀ p ∈ X.pn ++ pins, p.1 ≠ it) : Inv X pins σ H { s with heap := h', toks := t' } := by
  have nit : ∀ b u, H b = some u → b ≠ it := fun b u e z => by rw [z, hn] at e; cases e
  refine I.step (g' := s.gens) (d' := s.drawn) (ch := [it]) (fun b hb => ?_) (fun b o _ _ hc e _ => k b o (fun z => hc (by simp [z])) e) (fun b o _ _ hc e _ => ⟨o.slots, k b o (fun z => hc (by simp [z])) e⟩) (fun _ _ _ _ n => n)
    (fun b o hc e => ⟨o, k b o (fun z => hc (by simp [z])) e⟩) (fun _ _ e => e) (fun _ _ _ e => e) (fun b ps e => ⟨#[], by rw [e]; simp⟩) (fun m hm => ?_) (fun b u e => ?_) I.bare
  · have e : b = it := by simpa using hb
    subst e
    exact ⟨h1, hL, h2, h3⟩
  · obtain ⟨o, es, ep, ho, r⟩ := hm
    exact ⟨o, es, ep, k _ o (Ne.symm hL) ho, r⟩
  · refine (I.hok b u e).stay (fun c v hc q => k c v ?_ q) (fun _ q => q) fun _ _ q => q
    rcases hc with z | z
    · rw [z]; exact nit b u e
    · exact nit c _ z
theorem Inv.tok (I : Inv X pins σ H s) (t : Nat) : Inv X pins σ H { s with toks := t } := I.un (h' := s.heap) (t' := t) Un.refl I.hok
theorem Inv.kept {t' : Nat} (I : Inv X pins σ H s) (k : ∀ b u, s.heap.get? b = some u → h'.get? b = some u) : Inv X pins σ H { s with heap := h', toks := t' } := I.un (Un.kept k) (I.hok.kept k)
theorem Inv.laid {a : Addr} {o : HO} {t' : Nat} (I : Inv X pins σ H s) (k : ∀ b u, s.heap.get? b = some u → h'.get? b = some u) (hp : s.heap.objs.size ≤ a) (new : ObjOk X.prog X.w (upd H a o) h' a o) :
    Inv X pins σ (upd H a o) { s with heap := h', toks := t' } := I.un (Un.laid k hp (I.hok.fresh hp)) (I.hok.laid k hp new)
theorem Inv.write {x e : Addr} {o : HO} {t' : Nat} (I : Inv X pins σ H s) (mu : Mut (H x)) (he : e = x ∨ H e = some (.own x)) (k : ∀ b u, b ≠ e → s.heap.get? b = some u → h'.get? b = some u) (heo : ∃ u, h'.get? e = some u)
    (new : ObjOk X.prog X.w (upd H x o) h' x o) : Inv X pins σ (upd H x o) { s with heap := h', toks := t' } := I.un (Un.write mu he k heo) (I.hok.write mu he k heo new)
theorem Inv.weak {σ' : List (Option V)} (I : Inv X pins σ H s) (hl : σ'.length = σ.length) (w : ∀ (i : Nat) v, σ'[i]? = some (some v) → σ[i]? = some (some v)) : Inv X pins σ' H s :=
  ⟨I.ok, I.os, I.bare, I.base, let ⟨m, hn, hl'⟩ := I.loc; ⟨m, hn, fun i x v e1 e2 e3 => hl' i x v e1 (w i v e2) e3⟩, I.cell, I.free, I.freeC, I.pin, I.hok, hl.trans I.len⟩
theorem Inv.pins_of {pins' : List (Addr × Obj)} (I : Inv X pins σ H s) (h : ∀ p ∈ pins', s.heap.get? p.1 = some p.2 ∧ H p.1 = none ∧ p.1 ≠ X.env.locals ∧ p.1 ∉ X.fs ∧ ∀ v, p.2.data ≠ .cell v) : Inv X pins' σ H s :=
  ⟨I.ok, I.os, I.bare, I.base, I.loc, I.cell, I.free, I.freeC, fun p hp => (List.mem_append.mp hp).elim (fun z => I.pin p (List.mem_append_left _ z)) (h p), I.hok, I.len⟩
theorem nodup_ix {N : List Str} (hN : N.Nodup) {i j : Nat} {x : Str} (a : N[i]? = some x) (b : N[j]? = some x) : i = j := by
  obtain ⟨h1, e1⟩ := List.getElem?_eq_some_iff.mp a
  obtain ⟨h2, e2⟩ := List.getElem?_eq_some_iff.mp b
  exact (List.getElem_inj hN).mp (e1.trans e2.symm)
theorem store_ok2 {M : Model} {A : Around} {E : Value → Shared → Prop} {i : Nat} {x : Str} {v : V} {u : Value} {Q : Unit → Shared → Prop} (I : Inv X pins σ H s) (hN : X.N.Nodup) (hi : X.N[i]? = some x) (hx : Loc X.env.scope x) (r : RelV v u)
    (h : ∀ s', Inv X pins (σ.set i (some v)) H s' → (∃ a, Heap.SameBut a s.heap s'.heap ∧ (a = X.env.locals ∨ X.env.cells.lookup x = some a)) → Q () s') (hf : X.fn x = true ∨ X.env.scope.names.lookup x = some .local := by first | exact .inl rfl | exact .inr rfl | assumption) : wpAny M A (storeName X.env x u) Q E s := by
  obtain ⟨m, hn, hl⟩ := id I.loc
  have hcls : (X.env.scope.kind == .class || (X.env.scope.kind == .module && X.env.locals != X.env.globals)) = false := by rw [I.ok.kind]; rfl
  have hiσ : i < σ.length := by rw [I.len]; exact (List.getElem?_eq_some_iff.mp hi).1
  have cne := I.cne
  have tracked : ∀ {a : Addr} {h' : Heap}, (∃ o, s.heap.get? a = some o ∧ H a = none) → Heap.SameBut a s.heap h' → HOk X.prog X.w H h' := fun {a h'} ha hs b ob e => by
    obtain ⟨_, _, hfree⟩ := ha
    refine (I.hok b ob e).stay (fun c w' hc q => (hs.2 c ?_).trans q) (fun _ q => q) fun _ _ q => q
    rintro rfl
    rcases hc with rfl | hc
    · rw [hfree] at e; cases e
    · rw [hfree] at hc; cases hc
  rcases hx with hk | hk
  · refine wpAny_storeName_local hk hn (fun h' hn' hs => ?_) hcls
    obtain ⟨oL, _, _, hoL, _⟩ := id hn
    refine h _ ⟨I.ok, I.os, I.bare, ⟨fun b o e n hb hx => ?_, fun b o e n hb hx => ?_, I.base.free, fun b o e hx => ?_, I.base.tups, I.base.frzs, I.base.tbls⟩, ⟨_, hn', fun j y v' e1 e2 e3 => ?_⟩, fun y c e => ?_, I.free, I.freeC, fun p hp => ?_, tracked ⟨oL, hoL, I.free⟩ hs, by simpa using I.len⟩ ⟨_, hs, .inl rfl⟩
    · exact (hs.2 b (Nat.ne_of_lt (Nat.lt_of_lt_of_le (Heap.lt_size e) I.ok.above))).trans (I.base.keep b o e n hb hx)
    · obtain ⟨sl, e1⟩ := I.base.slot b o e n hb hx
      exact ⟨sl, (hs.2 b (Nat.ne_of_lt (Nat.lt_of_lt_of_le (Heap.lt_size e) I.ok.above))).trans e1⟩
    · obtain ⟨o', e1⟩ := I.base.there b o e hx
      exact ⟨o', (hs.2 b (Nat.ne_of_lt (Nat.lt_of_lt_of_le (Heap.lt_size e) I.ok.above))).trans e1⟩
    · by_cases hj : j = i
      · subst hj
        rw [hi] at e1; cases e1
        rw [List.getElem?_set_self hiσ] at e2
        cases e2
        exact ⟨u, r, .inl ⟨hk, by simp⟩⟩
      · rw [List.getElem?_set_ne (Ne.symm hj)] at e2
        obtain ⟨u', r', q⟩ := hl j y v' e1 e2 e3
        refine ⟨u', r', ?_⟩
        rcases q with ⟨k, e⟩ | ⟨k, c, e, z⟩
        · refine .inl ⟨k, ?_⟩
          have : y ≠ x := fun e => hj (nodup_ix hN e1 (e ▸ hi))
          simp [this, e]
        · exact .inr ⟨k, c, e, z.sameBut hs (cne y c e)⟩
    · obtain ⟨w', z⟩ := I.cell y c e
      exact ⟨w', z.sameBut hs (cne y c e)⟩
    · obtain ⟨e, n, ne, nf, d⟩ := I.pin p hp
      exact ⟨(hs.2 p.1 ne).trans e, n, ne, nf, d⟩
  · have hfn : X.fn x = true := by
      rcases hf with z | z
      · exact z
      · rw [z] at hk; cases hk
    obtain ⟨c, hc⟩ := I.ok.has x (.inl hk)
    obtain ⟨w', z⟩ := I.cell x c hc
    refine wpAny_storeName_cell I.ok.kind hk hc z (fun h' hc' hs => ?_)
    obtain ⟨oc, hoc, hocd⟩ := id z
    refine h { s with heap := h' } ⟨I.ok, I.os, I.bare, ⟨fun b o e n hb hx => ?_, fun b o e n hb hx => ?_, I.base.free, fun b o e hx => ?_, I.base.tups, I.base.frzs, I.base.tbls⟩, ⟨m, hn.sameBut hs (Ne.symm (cne x c hc)), fun j y v' e1 e2 e3 => ?_⟩, fun y c' e => ?_, I.free, I.freeC, fun p hp => ?_, tracked ⟨oc, hoc, I.freeC x c hc⟩ hs, by simpa using I.len⟩ ⟨c, hs, .inr hc⟩
    · exact (hs.2 b (Nat.ne_of_lt (Nat.lt_of_lt_of_le (Heap.lt_size e) (I.ok.cab x c hfn hc)))).trans (I.base.keep b o e n hb hx)
    · obtain ⟨sl, e1⟩ := I.base.slot b o e n hb hx
      exact ⟨sl, (hs.2 b (Nat.ne_of_lt (Nat.lt_of_lt_of_le (Heap.lt_size e) (I.ok.cab x c hfn hc)))).trans e1⟩
    · obtain ⟨o', e1⟩ := I.base.there b o e hx
      exact ⟨o', (hs.2 b (Nat.ne_of_lt (Nat.lt_of_lt_of_le (Heap.lt_size e) (I.ok.cab x c hfn hc)))).trans e1⟩
    · by_cases hj : j = i
      · subst hj
        rw [hi] at e1; cases e1
        rw [List.getElem?_set_self hiσ] at e2
        cases e2
        exact ⟨u, r, .inr ⟨.inl hk, c, hc, hc'⟩⟩
      · rw [List.getElem?_set_ne (Ne.symm hj)] at e2
        obtain ⟨u', r', q⟩ := hl j y v' e1 e2 e3
        refine ⟨u', r', ?_⟩
        rcases q with q | ⟨k, c', e, z'⟩
        · exact .inl q
        · refine .inr ⟨k, c', e, z'.sameBut hs ?_⟩
          rintro rfl
          exact hj (nodup_ix hN e1 (I.ok.inj _ _ _ e hc ▸ hi))
    · by_cases hcc : c' = c
      · subst hcc; exact ⟨_, hc'⟩
      · obtain ⟨w2, z2⟩ := I.cell y c' e
        exact ⟨w2, z2.sameBut hs hcc⟩
    · obtain ⟨e, n, ne, nf, d⟩ := I.pin p hp
      refine ⟨(hs.2 p.1 ?_).trans e, n, ne, nf, d⟩
      intro q
      rw [q, hoc] at e
      have q' : oc = p.2 := Option.some.inj e
      exact d w' (by rw [← q']; exact hocd)
theorem store_ok {M : Model} {A : Around} {E : Value → Shared → Prop} {i : Nat} {x : Str} {v : V} {u : Value} {Q : Unit → Shared → Prop} (I : Inv X pins σ H s) (hN : X.N.Nodup) (hi : X.N[i]? = some x) (hx : Loc X.env.scope x) (r : RelV v u)
    (h : ∀ s', Inv X pins (σ.set i (some v)) H s' → Q () s') (hf : X.fn x = true ∨ X.env.scope.names.lookup x = some .local := by first | exact .inl rfl | exact .inr rfl | assumption) : wpAny M A (storeName X.env x u) Q E s :=
  store_ok2 I hN hi hx r (fun s' I' _ => h s' I') hf
theorem Inv.call' {s' : Shared} {ch : List Addr} (I : Inv X pins σ H s) (ho : s'.os = s.os) (u : Un (frs X.stack) ch H H' s.heap s'.heap) (hok : HOk X.prog X.w H' s'.heap) (hg : AllBare s'.gens)
    (hch : ∀ b ∈ ch, (b ∈ X.ex ∨ X.s_0.heap.objs.size ≤ b) ∧ b ≠ X.env.locals ∧ (∀ x c, X.env.cells.lookup x = some c → c ≠ b) ∧ ∀ p ∈ X.pn ++ pins, p.1 ≠ b) : Inv X pins σ H' s' := by
  obtain ⟨h', g', d', t', o'⟩ := s'
  have e : o' = s.os := ho
  subst e
  exact I.call (g' := g') (t' := t') (d' := d') u hok hg hch
end
abbrev XK := Value → Option Addr → Hp → Prop
abbrev St := List (Option V)
abbrev VK := V → Hp → Prop
abbrev TE := St → Hp → VK → Prop
abbrev TT := St → Hp → (Bool → Hp → Prop) → Prop
abbrev TA := St → Hp → (List V → Hp → Prop) → Prop
structure Ends where
  nx : St → Hp → Prop
  rt : VK
  bk : St → Hp → Prop := fun _ _ => False
  ct : St → Hp → Prop := fun _ _ => False
abbrev TS := Ends → St → Hp → Prop
def EP (X : Cx) (pins : List (Addr × Obj)) (σ : St) (Q : VK) (u : Value) (s' : Shared) : Prop := ∃ v H', Inv X pins σ H' s' ∧ RelV v u ∧ Q v H'
def TP (X : Cx) (pins : List (Addr × Obj)) (σ : St) (Q : Bool → Hp → Prop) (b : Bool) (s' : Shared) : Prop := ∃ H', Inv X pins σ H' s' ∧ Q b H'
def AP (X : Cx) (pins : List (Addr × Obj)) (σ : St) (Q : List V → Hp → Prop) (us : List Value) (s' : Shared) : Prop := ∃ vs H', Inv X pins σ H' s' ∧ Vals vs us ∧ Q vs H'
def SP (X : Cx) (pins : List (Addr × Obj)) (D : Ends) (f : Flow) (s' : Shared) : Prop :=
  match f with
  | .next => ∃ σ' H', Inv X pins σ' H' s' ∧ D.nx σ' H'
  | .brk => ∃ σ' H', Inv X pins σ' H' s' ∧ D.bk σ' H'
  | .cont => ∃ σ' H', Inv X pins σ' H' s' ∧ D.ct σ' H'
  | .ret u => ∃ v σ' H', Inv X pins σ' H' s' ∧ RelV v u ∧ D.rt v H'
def PE (X : Cx) (e : Expr) (t : TE) : Prop :=
  ∀ (pins : List (Addr × Obj)) (s : Shared) (σ : St) (H : Hp) (Q : VK), Inv X pins σ H s → t σ H Q → wpAny (model X.prog X.w) X.A (eval e X.env) (EP X pins σ Q) X.xe s
def PT (X : Cx) (e : Expr) (t : TT) : Prop :=
  ∀ (pins : List (Addr × Obj)) (s : Shared) (σ : St) (H : Hp) (Q : Bool → Hp → Prop), Inv X pins σ H s → t σ H Q → wpAny (model X.prog X.w) X.A (isTrue e X.env (eval e X.env)) (TP X pins σ Q) X.xe s
def PW (X : Cx) (e : Expr) (t : TT) : Prop :=
  ∀ (whole : Sem Value) (pins : List (Addr × Obj)) (s : Shared) (σ : St) (H : Hp) (Q : Bool → Hp → Prop), Inv X pins σ H s → t σ H Q → wpAny (model X.prog X.w) X.A (isTrue e X.env whole) (TP X pins σ Q) X.xe s
theorem PW.pt {X : Cx} {e : Expr} {t : TT} (h : PW X e t) : PT X e t := h _
def PA (X : Cx) (es : List Expr) (t : TA) : Prop :=
  ∀ (pos : Pos) (pins : List (Addr × Obj)) (s : Shared) (σ : St) (H : Hp) (Q : List V → Hp → Prop), Inv X pins σ H s → t σ H Q → wpAny (model X.prog X.w) X.A (spliced (backTo pos (starEach es X.env))) (AP X pins σ Q) X.xe s
def PS (X : Cx) (st : Stmt) (t : TS) : Prop :=
  ∀ (pins : List (Addr × Obj)) (s : Shared) (σ : St) (H : Hp) (D : Ends), Inv X pins σ H s → t D σ H → wpAny (model X.prog X.w) X.A (exec st X.env) (SP X pins D) X.xe s
def PSs (X : Cx) (st : List Stmt) (t : TS) : Prop :=
  ∀ (pins : List (Addr × Obj)) (s : Shared) (σ : St) (H : Hp) (D : Ends), Inv X pins σ H s → t D σ H → wpAny (model X.prog X.w) X.A (execs st X.env) (SP X pins D) X.xe s
theorem thn {α : Type} {t : Sem α} {Q Q' : α → Shared → Prop} {M : Model} {A : Around} {E : Value → Shared → Prop} {s : Shared} (h : wpAny M A t Q E s) (hQ : ∀ a s, Q a s → Q' a s) : wpAny M A t Q' E s := wpAny_mono h hQ fun _ _ x => x
end L2
namespace L2
open PySem PySem.Spec PyProof.Rows
section
variable {X : Cx}
def tVar (i : Nat) : TE := fun σ H Q => ∃ v, σ[i]? = some (some v) ∧ Q v H
def tC (v : V) : TE := fun _ H Q => Q v H
theorem pe_var {i : Nat} {x : Str} {pos : Pos} (hN : X.N[i]? = some x) (hv : Vis X.env.scope x) (hd : (x == ("__debug__" : Str)) = false := by decide) (hcd : (x == ("__classdict__" : Str)) = false := by decide) : PE X (.Name x pos) (tVar i) := by
  intro pins s σ H Q I h
  obtain ⟨v, e, h⟩ := h
  obtain ⟨m, hn, hl⟩ := I.loc
  obtain ⟨u, r, l⟩ := hl i x v hN e hv
  have fin : EP X pins σ Q u s := ⟨v, H, I, r, h⟩
  rcases l with ⟨hk, hm⟩ | ⟨hk, c, hc, hcell⟩
  · exact wpAny_Name (wpAny_loadName_local I.ok.kind hk hn hm fin) hd
  · rcases hk with hk | hk
    · exact wpAny_Name (wpAny_loadName_cell I.ok.kind hk hc hcell fin) hd
    · exact wpAny_Name (wpAny_loadName_free I.ok.kind hk hc hcell fin hcd) hd
theorem pe_int {i j pos} : PE X (.Constant (.int i) j pos) (tC (.int i)) := fun _ _ _ H _ I h => wpAny_Constant_int ⟨.int i, H, I.tok _, ⟨_, rfl⟩, h⟩
theorem pe_bl {b j pos} : PE X (.Constant (.bool b) j pos) (tC (.bl b)) := fun _ _ _ H _ I h => Constant_bool ⟨.bl b, H, I, rfl, h⟩
theorem pe_non {j pos} : PE X (.Constant .none j pos) (tC .non) := fun _ _ _ H _ I h => Constant_none ⟨.non, H, I, rfl, h⟩
theorem pe_str {x j pos} : PE X (.Constant (.str x) j pos) (tC (.str x)) := fun _ _ _ H _ I h => Calls.Constant_str ⟨.str x, H, I.tok _, ⟨_, rfl⟩, h⟩
def Gl (X : Cx) (x : Str) : Prop := X.env.kindOf x = some .globalImplicit
theorem ld_glob {E : Value → Shared → Prop} {pins : List (Addr × Obj)} {s : Shared} {σ : St} {H : Hp} {x : Str} {u : Value} {pos : Pos} {Q : Value → Shared → Prop} (I : Inv X pins σ H s) (hg : Gl X x) (hm : X.mg x = some u) (h : Q u s)
    (hd : (x == ("__debug__" : Str)) = false := by decide) : wpAny (model X.prog X.w) X.A (eval (.Name x pos) X.env) Q E s :=
  Calls.Name_function_global I.ok.kind hg (Calls.loadGlobal_global (by rw [I.ok.glob]; exact I.mod.glob.keeps I.bk) hm h) hd
theorem ld_blt {E : Value → Shared → Prop} {pins : List (Addr × Obj)} {s : Shared} {σ : St} {H : Hp} {x : Str} {u : Value} {pos : Pos} {Q : Value → Shared → Prop} (I : Inv X pins σ H s) (hg : Gl X x) (hm : X.mg x = none) (hv : bootBuiltins x = some u) (h : Q u s)
    (hn : x ≠ "__name__" := by decide) (hd : (x == ("__debug__" : Str)) = false := by decide) : wpAny (model X.prog X.w) X.A (eval (.Name x pos) X.env) Q E s := by
  obtain ⟨mb, h1, h2⟩ := I.mod.blt
  exact Calls.Name_function_global I.ok.kind hg (Calls.loadGlobal_builtin (by rw [I.ok.glob]; exact I.mod.glob.keeps I.bk) hm (by rw [I.ok.blt]; exact h1.keeps I.bk) ((h2 x hn).trans hv) h) hd
theorem pe_glob {x : Str} {v : V} {u : Value} {pos : Pos} (hg : Gl X x) (hm : X.mg x = some u) (r : RelV v u) (hd : (x == ("__debug__" : Str)) = false := by decide) : PE X (.Name x pos) (tC v) :=
  fun _ _ _ H _ I h => ld_glob I hg hm ⟨v, H, I, r, h⟩ hd
theorem pe_bltn {x : Str} {v : V} {u : Value} {pos : Pos} (hg : Gl X x) (hm : X.mg x = none) (hv : bootBuiltins x = some u) (r : RelV v u) (hn : x ≠ "__name__" := by decide) (hd : (x == ("__debug__" : Str)) = false := by decide) : PE X (.Name x pos) (tC v) :=
  fun _ _ _ H _ I h => ld_blt I hg hm hv ⟨v, H, I, r, h⟩ hn hd
variable {a b : Expr} {ta tb : TE} {pos : Pos}
def tB (t : TE) : TT := fun σ H Q => t σ H fun x H1 => ∃ c, x = .bl c ∧ Q c H1
theorem pt_val {e : Expr} {t : TE} (h : PE X e t) (he : ∀ whole, isTrue e X.env whole = (do let v ← whole; standAt e.pos; holding [v] (truthy v)) := by intro _; rfl) : PT X e (tB t) := by
  intro pins s σ H Q I hw
  refine isTrue_plain (thn (h pins s σ H _ I hw) fun v s1 ⟨x, H1, I1, r1, q1⟩ => ?_) (he _)
  obtain ⟨d, rfl, q⟩ := q1
  cases r1
  exact wpAny_truthy_bool ⟨H1, I1, q⟩
variable {tA tB' : TT} {rest : List Expr}
def tAnd (t u : TT) : TT := fun σ H Q => t σ H fun c H1 => if c = true then u σ H1 Q else Q false H1
def tOr (t u : TT) : TT := fun σ H Q => t σ H fun c H1 => if c = true then Q true H1 else u σ H1 Q
def tNot (t : TT) : TT := fun σ H Q => t σ H fun c H1 => Q (!c) H1
theorem pw_and1 (ha : PT X a tA) : PW X (.BoolOp .And [a] pos) tA := by
  intro wh pins s σ H Q I h
  refine isTrue_and (thn (ha pins s σ H Q I h) fun c s1 e => ?_)
  cases c with
  | true => exact isTrue_and_nil e
  | false => exact e
theorem pw_or1 (ha : PT X a tA) : PW X (.BoolOp .Or [a] pos) tA := by
  intro wh pins s σ H Q I h
  refine isTrue_or (thn (ha pins s σ H Q I h) fun c s1 e => ?_)
  cases c with
  | false => exact isTrue_or_nil e
  | true => exact e
theorem pw_and (ha : PT X a tA) (hb : PW X (.BoolOp .And (b :: rest) pos) tB') : PW X (.BoolOp .And (a :: b :: rest) pos) (tAnd tA tB') := by
  intro wh pins s σ H Q I h
  refine isTrue_and (thn (ha pins s σ H _ I h) fun c s1 ⟨H1, I1, q1⟩ => ?_)
  cases c with
  | true => exact hb wh pins s1 σ H1 Q I1 q1
  | false => exact ⟨H1, I1, q1⟩
theorem pw_or (ha : PT X a tA) (hb : PW X (.BoolOp .Or (b :: rest) pos) tB') : PW X (.BoolOp .Or (a :: b :: rest) pos) (tOr tA tB') := by
  intro wh pins s σ H Q I h
  refine isTrue_or (thn (ha pins s σ H _ I h) fun c s1 ⟨H1, I1, q1⟩ => ?_)
  cases c with
  | true => exact ⟨H1, I1, q1⟩
  | false => exact hb wh pins s1 σ H1 Q I1 q1
theorem pt_not (ha : PT X a tA) : PT X (.UnaryOp .Not a pos) (tNot tA) := by
  intro pins s σ H Q I h
  exact isTrue_not (ha pins s σ H (fun c H1 => Q (!c) H1) I h)
def tAndV (ta tb : TE) : TE := fun σ H Q => ta σ H fun x H1 => ∃ c, x = .bl c ∧ if c = true then tb σ H1 Q else Q (.bl false) H1
theorem pe_one {op} {t : TE} (h : PE X a t) : PE X (.BoolOp op [a] pos) t := fun pins s σ H Q I hw => BoolOp_one (h pins s σ H Q I hw)
theorem pe_and (ha : PE X a ta) (hb : PE X (.BoolOp .And (b :: rest) pos) tb) : PE X (.BoolOp .And (a :: b :: rest) pos) (tAndV ta tb) := by
  intro pins s σ H Q I h
  refine BoolOp_and (thn (ha pins s σ H _ I h) fun v s1 ⟨x, H1, I1, r1, q1⟩ => ?_)
  obtain ⟨c, rfl, q1⟩ := q1
  cases r1
  refine wpAny_truthy_bool ?_
  cases c with
  | true => exact hb pins s1 σ H1 Q I1 q1
  | false => exact ⟨.bl false, H1, I1, rfl, q1⟩
def tIf (t : TT) (ta tb : TE) : TE := fun σ H Q => t σ H fun c H1 => if c = true then ta σ H1 Q else tb σ H1 Q
theorem pe_ifExp {c : Expr} (hc : PT X c tA) (ha : PE X a ta) (hb : PE X b tb) : PE X (.IfExp c a b pos) (tIf tA ta tb) := by
  intro pins s σ H Q I h
  refine wpAny_IfExp (thn (hc pins s σ H _ I h) fun d s1 ⟨H1, I1, q1⟩ => ?_)
  cases d with
  | true => exact ha pins s1 σ H1 Q I1 q1
  | false => exact hb pins s1 σ H1 Q I1 q1
end
end L2
namespace L2
open PySem PySem.Spec PyProof.Rows
def SqL (K : PySem.W.Frag) (H : Hp) (a : Addr) (xs : List V) : Prop :=
  Rd H a (.lst xs) ∨
    ∃ (o : Obj) (its : Array Value) (n : Nat), K.lookup a = some o ∧ o.cls = .type "list" ∧ o.dict = none ∧ o.data = .seq its n ∧ its.size ≤ sizeLine ∧ Vals xs its.toList
def SqT (K : PySem.W.Frag) (H : Hp) (a : Addr) (xs : List V) : Prop :=
  Rd H a (.tup xs) ∨
    ∃ (o : Obj) (its : Array Value) (n : Nat), K.lookup a = some o ∧ o.cls = .type "tuple" ∧ o.data = .seq its n ∧ o.dict = none ∧ its.size ≤ sizeLine ∧ Vals xs its.toList
def absV : Value → Option V
  | .none => some .non
  | .bool b => some (.bl b)
  | .int i _ => some (.int i)
  | .str x _ => some (.str x)
  | .bytes b _ => some (.byt b)
  | .float b _ => some (.flt b)
  | .ref a => some (.ref a)
  | .type n => some (.ty n)
  | _ => none
theorem RelV.abs {x : V} {u : Value} (r : RelV x u) : absV u = some x := by
  cases x with
  | non => cases r; rfl
  | bl _ => cases r; rfl
  | int _ => obtain ⟨t, rfl⟩ := r; rfl
  | str _ => obtain ⟨t, rfl⟩ := r; rfl
  | byt _ => obtain ⟨t, rfl⟩ := r; rfl
  | flt _ => obtain ⟨t, rfl⟩ := r; rfl
  | ref _ => cases r; rfl
  | ty _ => cases r; rfl
theorem RelV.inj {x y : V} {u : Value} (r : RelV x u) (q : RelV y u) : x = y := Option.some.inj (r.abs.symm.trans q.abs)
theorem Vals.inj : ∀ {xs ys : List V} {us : List Value}, Vals xs us → Vals ys us → xs = ys
  | _, _, _, .nil, .nil => rfl
  | _, _, _, .cons r t, .cons r' t' => by rw [r.inj r', Vals.inj t t']
section
variable {X : Cx} {pins : List (Addr × Obj)} {σ : St} {H : Hp} {s : Shared} {a : Addr} {xs ys : List V}
theorem SqL.of {K : PySem.W.Frag} (h : H a = some (.lst xs)) : SqL K H a xs := .inl (.inl h)
theorem SqT.of {K : PySem.W.Frag} (h : H a = some (.tup xs)) : SqT K H a xs := .inl (.inl h)
theorem Inv.list (I : Inv X pins σ H s) (h : SqL X.K H a xs) : ∃ its : List Value, Vals xs its ∧ PlainL s.heap a its.toArray ∧ xs.length ≤ sizeLine := by
  rcases h with h | ⟨o, its, n, hk, hc, hd, hs, hz, r⟩
  · obtain ⟨z, its, n, r, e⟩ := h.ok I.hok
    exact ⟨its, r, ⟨_, n, e, rfl, rfl, rfl⟩, z⟩
  · refine ⟨its.toList, r, ⟨o, n, I.kIn a o hk, hc, hd, by simpa using hs⟩, ?_⟩
    have e := r.length
    simp only [Array.length_toList] at e
    omega
theorem Inv.tuple (I : Inv X pins σ H s) (h : SqT X.K H a xs) : ∃ its : List Value, Vals xs its ∧ IsTup s.heap a its.toArray ∧ xs.length ≤ sizeLine := by
  rcases h with h | ⟨o, its, n, hk, hc, hs, _, hz, r⟩
  · obtain ⟨z, its, r, p⟩ := h.ok I.hok
    exact ⟨its, r, p.tup, z⟩
  · refine ⟨its.toList, r, ⟨o, I.kIn a o hk, hc, n, by simpa using hs⟩, ?_⟩
    have e := r.length
    simp only [Array.length_toList] at e
    omega
theorem Inv.list_inj (I : Inv X pins σ H s) (h : SqL X.K H a xs) (h' : SqL X.K H a ys) : xs = ys := by
  obtain ⟨its, r, ⟨o, n, e, _, _, d⟩, _⟩ := I.list h
  obtain ⟨its', r', ⟨o', n', e', _, _, d'⟩, _⟩ := I.list h'
  rw [e] at e'; cases e'
  rw [d] at d'
  injection d' with d1 _
  have : its = its' := by simpa using congrArg Array.toList d1
  subst this
  exact r.inj r'
theorem Inv.tuple_inj (I : Inv X pins σ H s) (h : SqT X.K H a xs) (h' : SqT X.K H a ys) : xs = ys := by
  obtain ⟨its, r, ⟨o, e, _, n, d⟩, _⟩ := I.tuple h
  obtain ⟨its', r', ⟨o', e', _, n', d'⟩, _⟩ := I.tuple h'
  rw [e] at e'; cases e'
  rw [d] at d'
  injection d' with d1 _
  have : its = its' := by simpa using congrArg Array.toList d1
  subst this
  exact r.inj r'
end
abbrev Cx.wish (X : Cx) (E : Value → Shared → Prop) : Cx := { X with xe := E }
abbrev Cx.nox (X : Cx) : Cx := X.wish fun _ _ => False
theorem Cx.Ok.wish {X : Cx} (ok : X.Ok) (E : Value → Shared → Prop) : (X.wish E).Ok :=
  ⟨ok.mod, ok.kind, ok.glob, ok.blt, ok.above, ok.inj, ok.has, ok.cab, ok.hd, ok.frames, ok.stk, ok.exf, ok.bs, ok.bsz, ok.noex, ok.exfs, ok.funs, ok.frf⟩
theorem Cx.Ok.unwish {X : Cx} {E : Value → Shared → Prop} (ok : (X.wish E).Ok) : X.Ok :=
  ⟨ok.mod, ok.kind, ok.glob, ok.blt, ok.above, ok.inj, ok.has, ok.cab, ok.hd, ok.frames, ok.stk, ok.exf, ok.bs, ok.bsz, ok.noex, ok.exfs, ok.funs, ok.frf⟩
section
variable {X : Cx} {pins : List (Addr × Obj)} {σ : St} {H : Hp} {s : Shared} {E : Value → Shared → Prop}
theorem Inv.wish (I : Inv X pins σ H s) (E : Value → Shared → Prop) : Inv (X.wish E) pins σ H s := ⟨I.ok.wish E, I.os, I.bare, I.base, I.loc, I.cell, I.free, I.freeC, I.pin, I.hok, I.len⟩
theorem Inv.unwish (I : Inv (X.wish E) pins σ H s) : Inv X pins σ H s := ⟨I.ok.unwish, I.os, I.bare, I.base, I.loc, I.cell, I.free, I.freeC, I.pin, I.hok, I.len⟩
theorem SP.unwish {D : Ends} {f : Flow} {s' : Shared} (h : SP (X.wish E) pins D f s') : SP X pins D f s' := by
  cases f with
  | next => obtain ⟨σ', H', I, q⟩ := h; exact ⟨σ', H', I.unwish, q⟩
  | brk => obtain ⟨σ', H', I, q⟩ := h; exact ⟨σ', H', I.unwish, q⟩
  | cont => obtain ⟨σ', H', I, q⟩ := h; exact ⟨σ', H', I.unwish, q⟩
  | ret u => obtain ⟨v, σ', H', I, r, q⟩ := h; exact ⟨v, σ', H', I.unwish, r, q⟩
theorem PE.nox {e : Expr} {t : TE} (h : PE X.nox e t) : PE X e t := fun pins s σ H Q I hw =>
  wpAny_mono (h pins s σ H Q (I.wish _) hw) (fun _ _ ⟨v, H', I', r, q⟩ => ⟨v, H', I'.unwish, r, q⟩) fun _ _ z => False.elim z
theorem PT.nox {e : Expr} {t : TT} (h : PT X.nox e t) : PT X e t := fun pins s σ H Q I hw =>
  wpAny_mono (h pins s σ H Q (I.wish _) hw) (fun _ _ ⟨H', I', q⟩ => ⟨H', I'.unwish, q⟩) fun _ _ z => False.elim z
theorem PSs.nox {st : List Stmt} {t : TS} (h : PSs X.nox st t) : PSs X st t := fun pins s σ H D I hw =>
  wpAny_mono (h pins s σ H D (I.wish _) hw) (fun _ _ q => q.unwish) fun _ _ z => False.elim z
end
section
variable {X : Cx} {st : Stmt} {rest : List Stmt} {t u : TS} {e : Expr} {te : TE} {pos : Pos}
def tNext : TS := fun D σ H => D.nx σ H
def tSeq (t u : TS) : TS := fun D σ H => t { D with nx := u D } σ H
theorem pss_nil : PSs X [] tNext := fun _ _ σ H _ I h => wpAny_execs_nil ⟨σ, H, I, h⟩
theorem pss_cons (h1 : PS X st t) (h2 : PSs X rest u) : PSs X (st :: rest) (tSeq t u) := by
  intro pins s σ H D I h
  refine wpAny_execs_cons (thn (h1 pins s σ H { D with nx := u D } I h) fun f s1 q => ?_)
  cases f with
  | next =>
    obtain ⟨σ', H', I', q⟩ := q
    exact h2 pins s1 σ' H' D I' q
  | ret v => exact q
  | brk => exact q
  | cont => exact q
theorem pss_one (h1 : PS X st t) : PSs X [st] t := by
  intro pins s σ H D I h
  refine wpAny_execs_cons (thn (h1 pins s σ H D I h) fun f s1 q => ?_)
  cases f with
  | next => exact wpAny_execs_nil q
  | ret v => exact q
  | brk => exact q
  | cont => exact q
theorem Inv.quiet {pins : List (Addr × Obj)} {σ : St} {H : Hp} {s : Shared} (I : Inv X pins σ H s) : interactive X.env = false := by simp [interactive, I.ok.kind]
def tDrop (te : TE) : TS := fun D σ H => te σ H fun _ H1 => D.nx σ H1
theorem ps_expr (he : PE X e te) (hs : swapsWith e none pos.line X.env = pure false := by rfl) : PS X (.Expr e pos) (tDrop te) := by
  intro pins s σ H D I h
  exact wpAny_Expr_any (thn (he pins s σ H _ I h) fun v s1 ⟨x, H1, I1, r1, q1⟩ => ⟨σ, H1, I1, q1⟩) I.quiet hs
def tRet (te : TE) : TS := fun D σ H => te σ H D.rt
theorem ps_ret (he : PE X e te) : PS X (.Return (some e) pos) (tRet te) := by
  intro pins s σ H D I h
  exact wpAny_Return_some (thn (he pins s σ H _ I h) fun v s1 ⟨x, H1, I1, r1, q1⟩ => ⟨x, σ, H1, I1, r1, q1⟩)
def tIfS (c : TT) (t u : TS) : TS := fun D σ H => c σ H fun b H1 => if b = true then t D σ H1 else u D σ H1
theorem ps_if {c : Expr} {a b : List Stmt} {tc : TT} (hc : PT X c tc) (ha : PSs X a t) (hb : PSs X b u) : PS X (.If c a b pos) (tIfS tc t u) := by
  intro pins s σ H D I h
  refine wpAny_If (thn (hc pins s σ H _ I h) fun d s1 ⟨H1, I1, q1⟩ => ?_)
  cases d with
  | true => exact ha pins s1 σ H1 D I1 q1
  | false => exact hb pins s1 σ H1 D I1 q1
end
abbrev TG := V → St → Hp → (St → Hp → Prop) → Prop
abbrev TGs := List V → St → Hp → (St → Hp → Prop) → Prop
def PG (X : Cx) (target : Expr) (t : TG) : Prop :=
  ∀ (pins : List (Addr × Obj)) (s : Shared) (σ : St) (H : Hp) (v : V) (u : Value) (Q : St → Hp → Prop), Inv X pins σ H s → RelV v u → t v σ H Q →
    wpAny (model X.prog X.w) X.A (assign target X.env u) (fun _ s' => ∃ σ' H', Inv X pins σ' H' s' ∧ Q σ' H') X.xe s
def PGs (X : Cx) (ts : List Expr) (t : TGs) : Prop :=
  ∀ (pins : List (Addr × Obj)) (s : Shared) (σ : St) (H : Hp) (vs : List V) (us : List Value) (Q : St → Hp → Prop), Inv X pins σ H s → Vals vs us → t vs σ H Q →
    wpAny (model X.prog X.w) X.A (assignInOrder ((assignEach ts X.env).map (·.2)) us) (fun _ s' => ∃ σ' H', Inv X pins σ' H' s' ∧ Q σ' H') X.xe s
abbrev TSet := V → V → V → Hp → (Hp → Prop) → Prop
def PSet (X : Cx) (t : TSet) : Prop :=
  ∀ (pins : List (Addr × Obj)) (s : Shared) (σ : St) (H : Hp) (o i v : V) (ov iv u : Value) (Q : Hp → Prop), Inv X pins σ H s → RelV o ov → RelV i iv → RelV v u → t o i v H Q →
    wpAny (model X.prog X.w) X.A (setItem ov iv u) (fun _ s' => ∃ H', Inv X pins σ H' s' ∧ Q H') X.xe s
section
variable {X : Cx} {pos : Pos}
def gName (i : Nat) : TG := fun v σ H Q => Q (σ.set i (some v)) H
theorem pg_name {i : Nat} {x : Str} (hN : X.N.Nodup) (hi : X.N[i]? = some x) (hx : Loc X.env.scope x) (hf : X.fn x = true ∨ X.env.scope.names.lookup x = some .local := by first | exact .inl rfl | exact .inr rfl | assumption) : PG X (.Name x pos) (gName i) := by
  intro pins s σ H v u Q I r h
  exact wpAny_assign_Name (store_ok I hN hi hx r (fun s' I' => ⟨_, H, I', h⟩) hf)
def gNil : TGs := fun vs σ H Q => vs = [] ∧ Q σ H
def gCons (t : TG) (u : TGs) : TGs := fun vs σ H Q => ∃ v r, vs = v :: r ∧ t v σ H fun σ' H' => u r σ' H' Q
theorem pgs_nil : PGs X [] gNil := by
  intro pins s σ H vs us Q I r h
  obtain ⟨e, h⟩ := h
  subst e
  cases r
  exact assignInOrder_nil ⟨σ, H, I, h⟩
theorem pgs_cons {e : Expr} {es : List Expr} {t : TG} {u : TGs} (h1 : PG X e t) (h2 : PGs X es u)
    (hs : (assignEach (e :: es) X.env).map (·.2) = assign e X.env :: (assignEach es X.env).map (·.2) := by rfl) : PGs X (e :: es) (gCons t u) := by
  intro pins s σ H vs us Q I r h
  obtain ⟨v, vr, e1, h⟩ := h
  subst e1
  cases r with
  | cons r rr =>
    rw [hs]
    refine assignInOrder_cons (thn (h1 pins s σ H _ _ _ I r h) fun _ s1 ⟨σ1, H1, I1, q1⟩ => ?_)
    exact h2 pins s1 σ1 H1 _ _ Q I1 rr q1
def gTup (K : PySem.W.Frag) (n : Nat) (t : TGs) : TG := fun v σ H Q => ∃ a xs, v = .ref a ∧ SqT K H a xs ∧ xs.length = n ∧ t xs σ H Q
theorem pg_tup {es : List Expr} {k : Nat} {t : TGs} {n : Nat} (hc : X.calm = true) (h : PGs X es t)
    (hn : (assignEach es X.env).length = n := by rfl) (hst : (assignEach es X.env).findIdx? (·.1) = none := by rfl) : PG X (.Tuple es k pos) (gTup X.K n t) := by
  intro pins s σ H v u Q I r hw
  obtain ⟨a, xs, e1, hq, hl, hw⟩ := hw
  subst e1
  cases r
  obtain ⟨its, rv, ht, hz⟩ := I.tuple hq
  refine assign_Tuple_tuple (I.ok.hd hc) ht (by simp [hn, ← hl, rv.length]) hst fun h' hx => ?_
  have I1 : Inv X pins σ H { s with heap := h' } := I.kept (t' := s.toks) fun b o e => hx b o (Nat.ne_of_lt (Heap.lt_size e)) e
  exact h pins _ σ H xs _ Q I1 (by simpa using rv) hw
def gSub (to ti : TE) (t : TSet) : TG := fun v σ H Q => to σ H fun o H1 => ti σ H1 fun i H2 => t o i v H2 fun H3 => Q σ H3
theorem pg_sub {o i : Expr} {to ti : TE} {t : TSet} (ho : PE X o to) (hi : PE X i ti) (hs : PSet X t)
    (ha : ∀ v, assign (.Subscript o i pos) X.env v = (do
      let ov ← holding [v] (eval o X.env)
      let iv ← holding [v, ov] (eval i X.env)
      standAt pos
      holding [v, ov, iv] (setItem ov iv v)
      release [v, ov, iv] []) := by intro _; rfl) : PG X (.Subscript o i pos) (gSub to ti t) := by
  intro pins s σ H v u Q I r h
  rw [ha]
  refine wpAny_bind (wpAny_holding (thn (ho pins s σ H _ I h) fun ov s1 ⟨x, H1, I1, r1, q1⟩ => ?_))
  refine wpAny_bind (wpAny_holding (thn (hi pins s1 σ H1 _ I1 q1) fun iv s2 ⟨y, H2, I2, r2, q2⟩ => ?_))
  refine wpAny_bind (wpAny_standAt (wpAny_bind (wpAny_holding (thn (hs pins s2 σ H2 x y v ov iv u _ I2 r1 r2 r q2) fun _ s3 ⟨H3, I3, q3⟩ => ?_))))
  exact wpAny_release ⟨σ, H3, I3, q3⟩
def tAsg (te : TE) (g : TG) : TS := fun D σ H => te σ H fun x H1 => g x σ H1 D.nx
theorem ps_asg {tg e : Expr} {te : TE} {g : TG} (he : PE X e te) (hg : PG X tg g) (hs : swapsWithSole [tg] e pos.line X.env = pure false := by rfl) (hw : swappedStores [tg] e X.env = pure none := by rfl)
    (h1 : (assignEach [tg] X.env).map (·.2) = [assign tg X.env] := by rfl) : PS X (.Assign [tg] e pos) (tAsg te g) := by
  intro pins s σ H D I h
  refine wpAny_Assign_stores (thn (he pins s σ H _ I h) fun v s1 ⟨x, H1, I1, r1, q1⟩ => ?_) hs hw
  rw [h1]
  exact thn (hg pins s1 σ H1 x v _ I1 r1 q1) fun _ s2 q => q
theorem ps_set {i : Nat} {x : Str} {e : Expr} {te : TE} {pos' : Pos} (hN : X.N.Nodup) (hi : X.N[i]? = some x) (hx : Loc X.env.scope x) (he : PE X e te) (hs : swapsWith e (some (.Name x pos')) pos.line X.env = pure false := by rfl) (hf : X.fn x = true ∨ X.env.scope.names.lookup x = some .local := by first | exact .inl rfl | exact .inr rfl | assumption) :
    PS X (.Assign [.Name x pos'] e pos) (tAsg te (gName i)) := by
  intro pins s σ H D I h
  refine wpAny_Assign_Name (thn (he pins s σ H _ I h) fun v s1 ⟨y, H1, I1, r1, q1⟩ => ?_) hs
  exact store_ok I1 hN hi hx r1 (fun s2 I2 => ⟨_, H1, I2, q1⟩) hf
def tPar (i j : Nat) (ta : TA) : TS := fun D σ H => ta σ H fun vs H1 => ∃ v w, vs = [v, w] ∧ D.nx ((σ.set i (some v)).set j (some w)) H1
theorem ps_par {i j : Nat} {x y : Str} {a b : Expr} {ta : TA} {px py pt : Pos} {kt k2 pt2} (hc : X.calm = true) (hN : X.N.Nodup) (hi : X.N[i]? = some x) (hj : X.N[j]? = some y) (hij : i ≠ j)
    (hx : X.env.scope.names.lookup x = some .local) (hy : X.env.scope.names.lookup y = some .local) (ha : PA X [a, b] ta)
    (hw : swappedStores [.Tuple [.Name x px, .Name y py] kt pt] (.Tuple [a, b] k2 pt2) X.env = pure (some [x, y]))
    (hs : swapsWithSole [.Tuple [.Name x px, .Name y py] kt pt] (.Tuple [a, b] k2 pt2) pos.line X.env = pure false := by rfl) :
    PS X (.Assign [.Tuple [.Name x px, .Name y py] kt pt] (.Tuple [a, b] k2 pt2) pos) (tPar i j ta) := by
  intro pins s σ H D I h
  rw [exec_Assign_arm]
  refine wpAny_bind (wpAny_standAt ?_)
  rw [hs]
  refine wpAny_bind (wpAny_pure ?_)
  rw [if_neg (by decide)]
  refine wpAny_bind (Tuple_ (thn (ha _ pins s σ H _ I h) fun us s1 ⟨vs, H1, I1, r1, q1⟩ => ?_))
  obtain ⟨v, w, e1, q1⟩ := q1
  subst e1
  obtain ⟨u1, u2, rfl, rv, rw'⟩ : ∃ u1 u2, us = [u1, u2] ∧ RelV v u1 ∧ RelV w u2 := by
    cases r1 with
    | cons p q =>
      cases q with
      | cons p' q' =>
        cases q'
        exact ⟨_, _, rfl, p, p'⟩
  refine wpAny_newObj_type ?_ (by show 2 ≤ sizeLine; decide)
  have I2 : Inv X pins σ H1 { s1 with heap := s1.heap.push { cls := .type "tuple", data := .seq [u1, u2].toArray } } := I1.kept (t' := s1.toks) fun b o e => Heap.get?_push_of_some _ e
  rw [hw]
  refine wpAny_bind (wpAny_pure ?_)
  show wpAny (model X.prog X.w) X.A (do rule "assign.swapped-stores"; let items ← unpackItems (.ref s1.heap.objs.size) 2 none; assignInOrder [fun v => bindName X.env y v, fun v => bindName X.env x v] items.reverse; pure Flow.next) _ _ _
  refine wpAny_bind (wpAny_rule (wpAny_bind (unpackItems_tuple (items := #[u1, u2]) (I.ok.hd hc) (IsTup.new s1.heap _) fun h' hx' => ?_)))
  have I3 := I2.kept (h' := h') (t' := s1.toks) fun b o e => hx' b o (Nat.ne_of_lt (Heap.lt_size e)) e
  show wpAny _ _ (assignInOrder [fun v => bindName X.env y v, fun v => bindName X.env x v] [u2, u1] >>= fun _ => pure Flow.next) _ _ _
  refine wpAny_bind (assignInOrder_cons (wpAny_bindName (store_ok I3 hN hj (.inl hy) rw' (fun s2 I4 => ?_) (.inr hy))))
  refine assignInOrder_cons (wpAny_bindName (store_ok I4 hN hi (.inl hx) rv (fun s3 I5 => assignInOrder_nil (wpAny_pure ?_)) (.inr hx)))
  rw [List.set_comm _ _ (Ne.symm hij)] at I5
  exact ⟨_, H1, I5, q1⟩
end
structure It where
  go : Nat → Hp → Prop
  yld : Nat → Hp → V → Hp → Prop
  stop : Nat → Hp → Prop
def FpOk (X : Cx) (pins : List (Addr × Obj)) (H : Hp) (b : Addr) : Prop :=
  H b = none ∧ b ≠ X.env.locals ∧ b ∉ X.fs ∧ (b ∈ X.ex ∨ X.s_0.heap.objs.size ≤ b) ∧ (∀ x c, X.env.cells.lookup x = some c → c ≠ b) ∧ ∀ p ∈ X.pn ++ pins, p.1 ≠ b
theorem Inv.fpOk {X : Cx} {pins : List (Addr × Obj)} {σ : St} {H H' : Hp} {s : Shared} {b : Addr} (I : Inv X pins σ H s) (hb : s.heap.objs.size ≤ b) (hn : H' b = none) : FpOk X pins H' b := by
  refine ⟨hn, Nat.ne_of_gt (Nat.lt_of_lt_of_le I.lt hb), I.nofs hb, .inr (Nat.le_trans I.sz hb), fun x c e z => ?_, fun p hp z => ?_⟩
  · obtain ⟨v, q⟩ := I.cell x c e
    exact absurd (Nat.lt_of_lt_of_le q.lt (by rw [z]; exact hb)) (Nat.lt_irrefl _)
  · exact absurd (Nat.lt_of_lt_of_le (Heap.lt_size (I.pin p hp).1) (by rw [z]; exact hb)) (Nat.lt_irrefl _)
structure Turn (P : Program) (w : World) (K : PySem.W.Frag) (tg : Expr) (J : It) (fp : List Addr) (it : Addr) (tn : Nat → Heap → Prop) : Prop where
  mem : it ∈ fp
  obj : ∀ i h, tn i h → ∀ b ∈ fp, ∃ o, h.get? b = some o ∧ ∀ v, o.data ≠ .cell v
  keep : ∀ i h h', tn i h → (∀ b ∈ fp, ∀ o, h.get? b = some o → h'.get? b = some o) → tn i h'
  item : ∀ (X : Cx), X.prog = P → X.w = w → X.K = K → X.calm = true → ∀ (i : Nat) (pins : List (Addr × Obj)) (s : Shared) (σ : St) (H : Hp) (E : Value → Shared → Prop), Inv X pins σ H s → (∀ b ∈ fp, FpOk X pins H b) → tn i s.heap → J.go i H →
    wpAny (model P w) X.A (pyNext (.ref it)) (fun r s1 => ∃ u, r = some u ∧
      wpAny (model P w) X.A (letOwnedTupleGo tg (.ref it) u) (fun _ s2 => ∃ x H', Inv X pins σ H' s2 ∧ RelV x u ∧ J.yld i H x H' ∧ tn (i + 1) s2.heap ∧ ∀ b ∈ fp, H' b = none) E s1) E s
  done : ∀ (X : Cx), X.prog = P → X.w = w → X.K = K → X.calm = true → ∀ (i : Nat) (pins : List (Addr × Obj)) (s : Shared) (σ : St) (H : Hp) (E : Value → Shared → Prop), Inv X pins σ H s → (∀ b ∈ fp, FpOk X pins H b) → tn i s.heap → J.stop i H →
    wpAny (model P w) X.A (pyNext (.ref it)) (fun r s1 => r = none ∧ Inv X pins σ H s1) E s
  self : ∀ (A : Around) (i : Nat) (s : Shared) (Q : Value → Shared → Prop) (E : Value → Shared → Prop), tn i s.heap → Q (.ref it) s → wpAny (model P w) A (pyIter (.ref it)) Q E s
abbrev TI := St → Hp → (It → Hp → Prop) → Prop
def PIE (X : Cx) (pins : List (Addr × Obj)) (σ : St) (tg : Expr) (R : It → Hp → Prop) (itv : Value) (s2 : Shared) : Prop :=
  ∃ (it : Addr) (fp : List Addr) (tn : Nat → Heap → Prop) (J : It) (H' : Hp), itv = .ref it ∧ Inv X pins σ H' s2 ∧ Turn X.prog X.w X.K tg J fp it tn ∧ tn 0 s2.heap ∧ (∀ b ∈ fp, FpOk X pins H' b) ∧ R J H'
def PI (X : Cx) (tg iter : Expr) (wi : TI) : Prop :=
  ∀ (pins : List (Addr × Obj)) (s : Shared) (σ : St) (H : Hp) (R : It → Hp → Prop), Inv X pins σ H s → wi σ H R →
    wpAny (model X.prog X.w) X.A (eval iter X.env) (fun v s1 => wpAny (model X.prog X.w) X.A (pyIter v) (PIE X pins σ tg R) X.xe s1) X.xe s
theorem go_of {M : Model} {A : Around} {E : Value → Shared → Prop} {s : Shared} {tg : Expr} {it : Addr} {u : Value} {o : Obj} {n : String} {vs : Array Value} {Q : Unit → Shared → Prop} (ho : s.heap.get? it = some o) (hc : o.cls = .type n) (hd : o.data = .fields vs)
    (hn : ["enumerate", "zip", "dict_itemiterator", "dict_reverseitemiterator", "odict_iterator", "itertools.zip_longest", "itertools.pairwise"].contains n = false) (hQ : Q () s) : wpAny M A (letOwnedTupleGo tg (.ref it) u) Q E s := by
  unfold letOwnedTupleGo
  cases tg <;> first
    | exact wpAny_pure hQ
    | (cases u <;> first
        | exact wpAny_pure hQ
        | (refine wpAny_bind (wpAny_load ho ?_)
           rw [hc, hd]
           show wpAny M A (if (["enumerate", "zip", "dict_itemiterator", "dict_reverseitemiterator", "odict_iterator", "itertools.zip_longest", "itertools.pairwise"].contains n && vs[0]? == some (rawInt _)) = true then _ else _) Q E s
           rw [if_neg (by intro h; rw [hn, Bool.false_and] at h; cases h)]
           exact wpAny_pure hQ))
def Itl (K : PySem.W.Frag) (a : Addr) : It :=
  ⟨fun i H => ∃ xs x, SqL K H a xs ∧ xs[i]? = some x, fun i H x H' => H' = H ∧ ∀ xs, SqL K H a xs → xs[i]? = some x, fun i H => ∃ xs, SqL K H a xs ∧ xs.length ≤ i⟩
def Itt (K : PySem.W.Frag) (a : Addr) : It :=
  ⟨fun i H => ∃ xs x, SqT K H a xs ∧ xs[i]? = some x, fun i H x H' => H' = H ∧ ∀ xs, SqT K H a xs → xs[i]? = some x, fun i H => ∃ xs, SqT K H a xs ∧ xs.length ≤ i⟩
def Itr (lo : Int) (n : Nat) : It := ⟨fun i _ => i < n, fun i H x H' => H' = H ∧ x = .int (lo + i), fun i _ => n ≤ i⟩
theorem turn_list {P : Program} {w : World} {K : PySem.W.Frag} {tg : Expr} (a it : Addr) : Turn P w K tg (Itl K a) [it] it (fun i h => h.IsListIter it a i) where
  mem := by simp
  obj := fun i h st b hb => by
    have e : b = it := by simpa using hb
    subst e
    obtain ⟨o, e, c, d⟩ := st
    exact ⟨o, e, fun v z => by rw [d] at z; cases z⟩
  keep := fun i h h' st k => st.at fun o e => k it (by simp) o e
  item := by
    intro X hP hw hK hc i pins s σ H E I hf st hg
    subst hP hw hK
    obtain ⟨xs, x, hq, hx⟩ := hg
    obtain ⟨its, rv, p, hz⟩ := I.list hq
    obtain ⟨u, hu, ru⟩ := rv.get hx
    obtain ⟨f0, f1, f2, f3, f4, f5⟩ := hf it (by simp)
    refine wpAny_pyNext_list_item st p.isList (x := u) (by simpa using hu) fun h' st' sb => ?_
    have I1 : Inv X pins σ H { s with heap := h' } := I.turned (t' := s.toks) (fun b o hb e => (sb.2 b hb).trans e) f0 f1 f3 f4 f5
    obtain ⟨o, e, c, d⟩ := id st'
    exact ⟨u, rfl, go_of (s := { s with heap := h' }) e c d (by decide) ⟨x, H, I1, ru, ⟨rfl, fun ys hy => by rw [I.list_inj hy hq]; exact hx⟩, st', fun b hb => (hf b hb).1⟩⟩
  done := by
    intro X hP hw hK hc i pins s σ H E I hf st hg
    subst hP hw hK
    obtain ⟨xs, hq, hx⟩ := hg
    obtain ⟨its, rv, p, hz⟩ := I.list hq
    obtain ⟨f0, f1, f2, f3, f4, f5⟩ := hf it (by simp)
    have hl := rv.length
    exact wpAny_pyNext_list_end (I.ok.hd hc) st p.isList (by simp; omega) fun h' eb => ⟨rfl, I.turned (t' := s.toks) (fun b o hb e => eb b o hb e) f0 f1 f3 f4 f5⟩
  self := fun _ _ _ _ _ st h => wpAny_pyIter_listiter st h
theorem turn_tuple {P : Program} {w : World} {K : PySem.W.Frag} {tg : Expr} (a it : Addr) : Turn P w K tg (Itt K a) [it] it (fun i h => h.IsTupleIter it a i) where
  mem := by simp
  obj := fun i h st b hb => by
    have e : b = it := by simpa using hb
    subst e
    obtain ⟨o, e, c, d⟩ := st
    exact ⟨o, e, fun v z => by rw [d] at z; cases z⟩
  keep := fun i h h' st k => st.at fun o e => k it (by simp) o e
  item := by
    intro X hP hw hK hc i pins s σ H E I hf st hg
    subst hP hw hK
    obtain ⟨xs, x, hq, hx⟩ := hg
    obtain ⟨its, rv, p, hz⟩ := I.tuple hq
    obtain ⟨u, hu, ru⟩ := rv.get hx
    obtain ⟨f0, f1, f2, f3, f4, f5⟩ := hf it (by simp)
    refine wpAny_pyNext_tuple_item st (show s.heap.IsTuple a its.toArray from p) (x := u) (by simpa using hu) fun h' st' sb => ?_
    have I1 : Inv X pins σ H { s with heap := h' } := I.turned (t' := s.toks) (fun b o hb e => (sb.2 b hb).trans e) f0 f1 f3 f4 f5
    obtain ⟨o, e, c, d⟩ := id st'
    exact ⟨u, rfl, go_of (s := { s with heap := h' }) e c d (by decide) ⟨x, H, I1, ru, ⟨rfl, fun ys hy => by rw [I.tuple_inj hy hq]; exact hx⟩, st', fun b hb => (hf b hb).1⟩⟩
  done := by
    intro X hP hw hK hc i pins s σ H E I hf st hg
    subst hP hw hK
    obtain ⟨xs, hq, hx⟩ := hg
    obtain ⟨its, rv, p, hz⟩ := I.tuple hq
    obtain ⟨f0, f1, f2, f3, f4, f5⟩ := hf it (by simp)
    have hl := rv.length
    exact wpAny_pyNext_tuple_end (I.ok.hd hc) st (show s.heap.IsTuple a its.toArray from p) (by simp; omega) fun h' eb => ⟨rfl, I.turned (t' := s.toks) (fun b o hb e => eb b o hb e) f0 f1 f3 f4 f5⟩
  self := fun _ _ _ _ _ st h => wpAny_pyIter_tupleiter st h
theorem turn_range {P : Program} {w : World} {K : PySem.W.Frag} {tg : Expr} (it : Addr) (lo : Int) (n : Nat) : Turn P w K tg (Itr lo n) [it] it (fun i h => IsRangeIter h it (lo + (i : Nat) * 1) ((n : Int) - (i : Nat)) 1) where
  mem := by simp
  obj := fun i h st b hb => by
    have e : b = it := by simpa using hb
    subst e
    exact ⟨_, st, fun v z => by
      have z' : Data.fields _ = Data.cell v := z
      cases z'⟩
  keep := fun i h h' st k => k it (by simp) _ st
  item := by
    intro X hP hw hK hc i pins s σ H E I hf st hg
    subst hP hw hK
    obtain ⟨f0, f1, f2, f3, f4, f5⟩ := hf it (by simp)
    have W := Walks.range (prog := X.prog) (w := X.w) (I.ok.hd hc) it lo 1 n
    refine W.item i s _ _ hg st fun v h' tk hv st' kk => ?_
    obtain ⟨t, rfl⟩ := hv
    have I1 : Inv X pins σ H { s with heap := h', toks := tk } := I.turned (fun b o hb e => kk b o (by simpa using hb) e) f0 f1 f3 f4 f5
    refine ⟨_, rfl, go_of (s := { s with heap := h', toks := tk }) (n := "range_iterator") st' rfl rfl (by decide) ⟨.int (lo + i), H, I1, ⟨t, ?_⟩, ⟨rfl, rfl⟩, st', fun b hb => (hf b hb).1⟩⟩
    rw [Int.mul_one]
  done := by
    intro X hP hw hK hc i pins s σ H E I hf st hg
    subst hP hw hK
    obtain ⟨f0, f1, f2, f3, f4, f5⟩ := hf it (by simp)
    exact wpAny_pyNext_range_end (I.ok.hd hc) st (by have : n ≤ i := hg; omega) fun h' eb => ⟨rfl, I.turned (t' := s.toks) (fun b o hb e => eb b o hb e) f0 f1 f3 f4 f5⟩
  self := fun _ _ _ _ _ st h => wpAny_pyIter_rangeiter st h
end L2
namespace L2
open PySem PySem.Spec PyProof.Rows
section
variable {X : Cx} {tg : Expr}
def iList (K : PySem.W.Frag) (tl : TE) : TI := fun σ H R => tl σ H fun x H1 => ∃ a, x = .ref a ∧ (∃ xs, SqL K H1 a xs) ∧ R (Itl K a) H1
theorem pi_list {l : Expr} {tl : TE} (hl : PE X l tl) : PI X tg l (iList X.K tl) := by
  intro pins s σ H R I h
  refine thn (hl pins s σ H _ I h) fun v s1 ⟨x, H1, I1, r1, q1⟩ => ?_
  obtain ⟨a, e, ⟨xs, hq⟩, q⟩ := q1
  subst e
  cases r1
  obtain ⟨its, rv, p, hz⟩ := I1.list hq
  refine wpAny_pyIter_list p.isList ?_
  refine ⟨s1.heap.objs.size, [s1.heap.objs.size], _, _, H1, rfl, I1.kept (t' := s1.toks) fun b o e => Heap.get?_push_of_some _ e, turn_list a _, ⟨_, Heap.get?_push_size _ rfl, rfl, rfl⟩, fun b hb => ?_, q⟩
  have e : b = s1.heap.objs.size := by simpa using hb
  subst e
  exact I1.fpOk (Nat.le_refl _) (I1.hok.fresh (Nat.le_refl _))
theorem range_it {pins : List (Addr × Obj)} {σ : St} {H : Hp} {s : Shared} {R : It → Hp → Prop} {E : Value → Shared → Prop} {lo hi : Int} {t u v : Tok} {tk : Nat} (I : Inv X pins σ H s) (h1 : -(2 ^ 62) ≤ lo) (h2 : lo < 2 ^ 62) (h3 : -(2 ^ 62) ≤ hi) (h4 : hi < 2 ^ 62)
    (q : R (Itr lo (hi - lo).toNat) H) : wpAny (model X.prog X.w) X.A (pyIter (.ref s.heap.objs.size)) (PIE X pins σ tg R) E { s with heap := s.heap.push { cls := .type "range", data := .fields #[.int lo t, .int hi u, .int 1 v] }, toks := tk } := by
  refine wpAny_pyIter_range (IsRange.new ..) (small_one h1 h2 h3 h4) ?_
  have I1 : Inv X pins σ H { s with heap := s.heap.push { cls := .type "range", data := .fields #[.int lo t, .int hi u, .int 1 v] }, toks := tk } := I.kept fun b o e => Heap.get?_push_of_some _ e
  refine ⟨(s.heap.push { cls := .type "range", data := .fields #[.int lo t, .int hi u, .int 1 v] }).objs.size, [(s.heap.push { cls := .type "range", data := .fields #[.int lo t, .int hi u, .int 1 v] }).objs.size], _, _, H, rfl,
    I1.kept (t' := tk) fun b o e => Heap.get?_push_of_some _ e, turn_range _ lo (hi - lo).toNat, ?_, fun b hb => ?_, q⟩
  · have e1 : lo + ((0 : Nat) : Int) * 1 = lo := by simp
    have e2 : (((hi - lo).toNat : Nat) : Int) - ((0 : Nat) : Int) = Builtin.Range.rangeSize lo hi 1 := by rw [rangeSize_one]; split <;> omega
    show IsRangeIter _ _ (lo + ((0 : Nat) : Int) * 1) ((((hi - lo).toNat : Nat) : Int) - ((0 : Nat) : Int)) 1
    rw [e1, e2]
    exact Heap.get?_push_size _ rfl
  · have e : b = (s.heap.push { cls := .type "range", data := .fields #[.int lo t, .int hi u, .int 1 v] }).objs.size := by simpa using hb
    subst e
    exact I1.fpOk (Nat.le_refl _) (I1.hok.fresh (Nat.le_refl _))
def iRng1 (ta : TA) : TI := fun σ H R => ta σ H fun vs H1 => ∃ j : Int, vs = [.int j] ∧ -(2 ^ 62) ≤ j ∧ j < 2 ^ 62 ∧ R (Itr 0 j.toNat) H1
theorem pi_range1 {a : Expr} {ta : TA} {p pos : Pos} (hg : Gl X "range") (hm : X.mg "range" = none) (ha : PA X [a] ta) (hs : starEach [a] X.env = [(false, eval a X.env)] := by rfl) : PI X tg (.Call (.Name "range" p) [a] [] pos) (iRng1 ta) := by
  intro pins s σ H R I h
  refine Call_ (ld_blt I hg hm boot_range (PyProof.Rows.callWith_type1 (thn (ha pos pins s σ H _ I h) fun us s1 ⟨vs, H1, I1, r1, q1⟩ => ?_) hs rfl))
  obtain ⟨j, e, q1, q2, q⟩ := q1
  subst e
  cases r1 with
  | cons r rr =>
    cases rr
    obtain ⟨t, rfl⟩ := r
    exact call_range_1 (range_it I1 (by omega) (by omega) q1 q2 (by simpa using q))
def tFor (wi : TI) (g : TG) (tb : TS) : TS := fun D σ H => wi σ H fun J H1 => ∃ W : Nat → Nat → St → Hp → Prop, (∃ m, W 0 m σ H1) ∧ ∀ i m σ H, W i m σ H →
  (J.stop i H ∧ D.nx σ H) ∨ (J.go i H ∧ ∃ N : St → Hp → Prop, (∀ σ' H', N σ' H' → ∃ m', m' < m ∧ W (i + 1) m' σ' H') ∧ ∀ x H', J.yld i H x H' → g x σ H' fun σ2 H2 => tb { D with nx := N, ct := N, bk := D.nx } σ2 H2)
def pinsAt (fp : List Addr) (h : Heap) : List (Addr × Obj) := fp.filterMap fun b => (h.get? b).map fun o => (b, o)
theorem mem_pinsAt {fp : List Addr} {h : Heap} {b : Addr} {o : Obj} (hb : b ∈ fp) (e : h.get? b = some o) : (b, o) ∈ pinsAt fp h := List.mem_filterMap.mpr ⟨b, hb, by rw [e]; rfl⟩
theorem of_pinsAt {fp : List Addr} {h : Heap} {p : Addr × Obj} (hp : p ∈ pinsAt fp h) : p.1 ∈ fp ∧ h.get? p.1 = some p.2 := by
  obtain ⟨b, hb, e⟩ := List.mem_filterMap.mp hp
  cases q : h.get? b with
  | none => rw [q] at e; cases e
  | some o =>
    rw [q] at e
    have e' : (b, o) = p := Option.some.inj e
    subst e'
    exact ⟨hb, q⟩
theorem Inv.pinned {pins : List (Addr × Obj)} {σ : St} {H : Hp} {s : Shared} {fp : List Addr} (I : Inv X pins σ H s) (hf : ∀ b ∈ fp, FpOk X pins H b) (ho : ∀ b ∈ fp, ∃ o, s.heap.get? b = some o ∧ ∀ v, o.data ≠ .cell v) : Inv X (pins ++ pinsAt fp s.heap) σ H s :=
  I.pins_of fun p hp => (List.mem_append.mp hp).elim (fun z => I.pin p (List.mem_append_right _ z)) fun z => by
    obtain ⟨hb, e⟩ := of_pinsAt z
    obtain ⟨f0, f1, f2, _⟩ := hf p.1 hb
    obtain ⟨o, e', d⟩ := ho p.1 hb
    rw [e] at e'; cases e'
    exact ⟨e, f0, f1, f2, d⟩
theorem Inv.unpinned {pins pl : List (Addr × Obj)} {σ : St} {H : Hp} {s : Shared} (I : Inv X (pins ++ pl) σ H s) : Inv X pins σ H s := I.pins_of fun p hp => I.pin p (List.mem_append_right _ (List.mem_append_left _ hp))
theorem ps_for {iter : Expr} {body : List Stmt} {wi : TI} {g : TG} {tb : TS} {pos : Pos} (hp : PassesOwn (model X.prog X.w) X.A X.env X.xe) (hc : X.calm = true) (hi : PI X tg iter wi) (hg : PG X tg g) (hb : PSs X body tb)
    (hs : ∀ x, foldedSetIterable iter X.env x = pure x := by intro _; rfl) : PS X (.For tg iter body [] pos) (tFor wi g tb) := by
  intro pins s σ H D I h
  refine wpAny_For (thn (hi pins s σ H _ I h) fun v s1 h1 => thn h1 fun itv s2 h2 => ?_) hs
  obtain ⟨it, fp, tn, J, H2, e, I2, T, st2, f2, W, ⟨m0, w0⟩, turn⟩ := h2
  subst e
  -- what stays true of the iterator's objects through the loop
  have stat : ∀ {H' : Hp}, (∀ b ∈ fp, H' b = none) → ∀ b ∈ fp, FpOk X pins H' b := fun hn b hb => ⟨hn b hb, (f2 b hb).2⟩
  refine codeAny_forLoop_any (fun n s' => ∃ i σ' H', Inv X pins σ' H' s' ∧ tn i s'.heap ∧ (∀ b ∈ fp, H' b = none) ∧ W i n σ' H') ?_ m0 ⟨0, σ, H2, I2, st2, fun b hb => (f2 b hb).1, w0⟩
  rintro n s3 ⟨i, σ3, H3, I3, st3, fr3, w3⟩
  rcases turn i n σ3 H3 w3 with ⟨stop, qn⟩ | ⟨go, N, hN, step⟩
  · refine wpAny_passesOwn hp (thn (T.done X rfl rfl rfl hc i pins s3 σ3 H3 X.xe I3 (stat fr3) st3 stop) fun r s4 ⟨hr, I4⟩ => ?_)
    subst hr
    exact wpAny_execs_nil ⟨σ3, H3, I4, qn⟩
  · refine wpAny_passesOwn hp (thn (T.item X rfl rfl rfl hc i pins s3 σ3 H3 X.xe I3 (stat fr3) st3 go) fun r s4 ⟨u, hr, h4⟩ => ?_)
    subst hr
    refine wpAny_passesOwn hp (thn h4 fun _ s5 ⟨x, H5, I5, r5, y5, st5, fr5⟩ => ?_)
    have I5' := I5.pinned (stat fr5) (T.obj _ _ st5)
    refine wpAny_passesOwn hp (thn (hg _ s5 σ3 H5 x u _ I5' r5 (step x H5 y5)) fun _ s6 ⟨σ6, H6, I6, q6⟩ => ?_)
    refine wpAny_passesOwn hp (thn (hb _ s6 σ6 H6 _ I6 q6) fun f s7 q7 => ?_)
    have again : ∀ {σ7 : St} {H7 : Hp}, Inv X (pins ++ pinsAt fp s5.heap) σ7 H7 s7 → N σ7 H7 → ∃ m, m < n ∧ ∃ i σ' H', Inv X pins σ' H' s7 ∧ tn i s7.heap ∧ (∀ b ∈ fp, H' b = none) ∧ W i m σ' H' := fun {σ7 H7} I7 n7 => by
      obtain ⟨m', hm, w7⟩ := hN σ7 H7 n7
      refine ⟨m', hm, i + 1, σ7, H7, I7.unpinned, T.keep _ _ _ st5 fun b hb o e => (I7.pin (b, o) (List.mem_append_right _ (List.mem_append_right _ (mem_pinsAt hb e)))).1, fun b hb => ?_, w7⟩
      obtain ⟨o, e, d⟩ := T.obj _ _ st5 b hb
      exact (I7.pin (b, o) (List.mem_append_right _ (List.mem_append_right _ (mem_pinsAt hb e)))).2.1
    cases f with
    | next => obtain ⟨σ7, H7, I7, n7⟩ := q7; exact again I7 n7
    | cont => obtain ⟨σ7, H7, I7, n7⟩ := q7; exact again I7 n7
    | brk => obtain ⟨σ7, H7, I7, q7⟩ := q7; exact ⟨σ7, H7, I7.unpinned, q7⟩
    | ret v => obtain ⟨x7, σ7, H7, I7, r7, q7⟩ := q7; exact ⟨x7, σ7, H7, I7.unpinned, r7, q7⟩
end
end L2
namespace L2
open PySem PySem.Spec PyProof.Rows
abbrev R2 := V → V → Hp → VK → Prop
def OpR (X : Cx) (f : Value → Value → Sem Value) (r : R2) : Prop :=
  ∀ (pins : List (Addr × Obj)) (s : Shared) (σ : St) (H : Hp) (x y : V) (v u : Value) (Q : VK), Inv X pins σ H s → RelV x v → RelV y u → r x y H Q →
    wpAny (model X.prog X.w) X.A (f v u) (EP X pins σ Q) X.xe s
def UnR (X : Cx) (f : Value → Sem Value) (r : V → Hp → VK → Prop) : Prop :=
  ∀ (pins : List (Addr × Obj)) (s : Shared) (σ : St) (H : Hp) (x : V) (v : Value) (Q : VK), Inv X pins σ H s → RelV x v → r x H Q →
    wpAny (model X.prog X.w) X.A (f v) (EP X pins σ Q) X.xe s
def CallR (X : Cx) (f : Value) (r : List V → Hp → VK → Prop) : Prop :=
  ∀ (pins : List (Addr × Obj)) (s : Shared) (σ : St) (H : Hp) (xs : List V) (us : List Value) (Q : VK), Inv X pins σ H s → Vals xs us → r xs H Q →
    wpAny (model X.prog X.w) X.A (call f us) (EP X pins σ Q) X.xe s
def tOp (r : R2) (ta tb : TE) : TE := fun σ H Q => ta σ H fun x H1 => tb σ H1 fun y H2 => r x y H2 Q
def tUn (r : V → Hp → VK → Prop) (ta : TE) : TE := fun σ H Q => ta σ H fun x H1 => r x H1 Q
def rI (C : Int → Int → Prop) (g : Int → Int → V) : R2 := fun x y H Q => ∃ i j, x = .int i ∧ y = .int j ∧ C i j ∧ Q (g i j) H
def rI0 (g : Int → Int → V) : R2 := fun x y H Q => ∃ i j, x = .int i ∧ y = .int j ∧ Q (g i j) H
def rU (g : Int → V) : V → Hp → VK → Prop := fun x H Q => ∃ i, x = .int i ∧ Q (g i) H
section
variable {X : Cx} {a b c : Expr} {ta tb tc : TE} {pos : Pos}
theorem binT (ha : PE X a ta) (hb : PE X b tb) {pins : List (Addr × Obj)} {s : Shared} {σ : St} {H : Hp} {R : V → V → Hp → Prop} (I : Inv X pins σ H s)
    (h : ta σ H fun x H1 => tb σ H1 fun y H2 => R x y H2) {Q : Value → Shared → Prop} {f : Value → Value → Sem Value}
    (hf : ∀ v u s2 x y H2, Inv X pins σ H2 s2 → RelV x v → RelV y u → R x y H2 → wpAny (model X.prog X.w) X.A (f v u) Q X.xe s2) :
    wpAny (model X.prog X.w) X.A (eval a X.env) (fun v s₁ => wpAny (model X.prog X.w) X.A (eval b X.env) (fun u s₂ => wpAny (model X.prog X.w) X.A (f v u) Q X.xe s₂) X.xe s₁) X.xe s := by
  refine thn (ha pins s σ H _ I h) fun v s1 ⟨x, H1, I1, r1, q1⟩ => ?_
  refine thn (hb pins s1 σ H1 _ I1 q1) fun u s2 ⟨y, H2, I2, r2, q2⟩ => ?_
  exact hf v u s2 x y H2 I2 r1 r2 q2
theorem pe_op {op : Operator} {r : R2} (ho : OpR X (binaryOp op) r) (ha : PE X a ta) (hb : PE X b tb) : PE X (.BinOp a op b pos) (tOp r ta tb) := by
  intro pins s σ H Q I h
  exact wpAny_BinOp (binT ha hb I h fun v u s2 x y H2 I2 rx ry q => ho pins s2 σ H2 x y v u Q I2 rx ry q)
theorem pe_un {op : UnaryOp} {r : V → Hp → VK → Prop} (ho : UnR X (unaryOp op) r) (ha : PE X a ta) : PE X (.UnaryOp op a pos) (tUn r ta) := by
  intro pins s σ H Q I h
  exact UnaryOp_ (thn (ha pins s σ H _ I h) fun v s1 ⟨x, H1, I1, r1, q1⟩ => ho pins s1 σ H1 x v Q I1 r1 q1)
theorem opI {f : Value → Value → Sem Value} {C : Int → Int → Prop} {g : Int → Int → Int}
    (rule : ∀ (i j : Int) (t u : Tok) (s : Shared) (Q : Value → Shared → Prop) (E : Value → Shared → Prop), C i j → Q (.int (g i j) s.toks) { s with toks := s.toks + 1 } → wpAny (model X.prog X.w) X.A (f (.int i t) (.int j u)) Q E s) :
    OpR X f (rI C fun i j => .int (g i j)) := by
  intro pins s σ H x y v u Q I rx ry h
  obtain ⟨i, j, rfl, rfl, hc, q⟩ := h
  obtain ⟨t, rfl⟩ := rx
  obtain ⟨t', rfl⟩ := ry
  exact rule i j t t' s _ _ hc ⟨.int (g i j), H, I.tok _, ⟨_, rfl⟩, q⟩
theorem opI0 {f : Value → Value → Sem Value} {g : Int → Int → Int}
    (rule : ∀ (i j : Int) (t u : Tok) (s : Shared) (Q : Value → Shared → Prop) (E : Value → Shared → Prop), Q (.int (g i j) s.toks) { s with toks := s.toks + 1 } → wpAny (model X.prog X.w) X.A (f (.int i t) (.int j u)) Q E s) :
    OpR X f (rI0 fun i j => .int (g i j)) := by
  intro pins s σ H x y v u Q I rx ry h
  obtain ⟨i, j, rfl, rfl, q⟩ := h
  obtain ⟨t, rfl⟩ := rx
  obtain ⟨t', rfl⟩ := ry
  exact rule i j t t' s _ _ ⟨.int (g i j), H, I.tok _, ⟨_, rfl⟩, q⟩
theorem opB0 {f : Value → Value → Sem Value} {g : Int → Int → Bool}
    (rule : ∀ (i j : Int) (t u : Tok) (s : Shared) (Q : Value → Shared → Prop) (E : Value → Shared → Prop), Q (.bool (g i j)) s → wpAny (model X.prog X.w) X.A (f (.int i t) (.int j u)) Q E s) :
    OpR X f (rI0 fun i j => .bl (g i j)) := by
  intro pins s σ H x y v u Q I rx ry h
  obtain ⟨i, j, rfl, rfl, q⟩ := h
  obtain ⟨t, rfl⟩ := rx
  obtain ⟨t', rfl⟩ := ry
  exact rule i j t t' s _ _ ⟨.bl (g i j), H, I, rfl, q⟩
def CDiv (i j : Int) : Prop := 0 < j ∧ j < 1073741824
def CPow (i j : Int) : Prop := 0 ≤ j ∧ j ≤ 1000000 ∧ i.natAbs < 2 ^ 64
def CMul (i j : Int) : Prop := (-(2 ^ 64) < i ∧ i < 2 ^ 64) ∨ (-(2 ^ 64) < j ∧ j < 2 ^ 64)
theorem CMul.ok {i j : Int} (h : CMul i j) : IntMulOk i j := by
  rcases h with ⟨h1, h2⟩ | ⟨h1, h2⟩
  · exact .of_left (intBits_le_64 h1 h2)
  · exact .of_right (intBits_le_64 h1 h2)
theorem op_add : OpR X (binaryOp .Add) (rI0 fun i j => .int (i + j)) := opI0 fun _ _ _ _ _ _ _ q => add_int q
theorem op_mul : OpR X (binaryOp .Mult) (rI CMul fun i j => .int (i * j)) := opI fun _ _ _ _ _ _ _ hc q => mul_int q hc.ok
theorem op_fdiv : OpR X (binaryOp .FloorDiv) (rI CDiv fun i j => .int (i / j)) := opI fun i j _ _ _ _ _ hc q => by
  have h1 : (0 : Int) < j := hc.1
  have h2 : j < 1073741824 := hc.2
  exact floordiv_int (by omega) (by rw [Int.fdiv_eq_ediv_of_nonneg i (by omega)]; exact q) (.inl (PyProof.noPylong_small (by omega)))
theorem op_mod : OpR X (binaryOp .Mod) (rI (fun _ j => 0 < j) fun i j => .int (i % j)) := opI fun i j _ _ _ _ _ hc q => by
  have h1 : (0 : Int) < j := hc
  exact mod_int' (by omega) (by rw [Int.fmod_eq_emod_of_nonneg i (by omega)]; exact q)
theorem op_pow : OpR X (binaryOp .Pow) (rI CPow fun i j => .int (i ^ j.toNat)) := opI fun _ _ _ _ _ _ _ hc q => pow_int_small hc.1 hc.2.1 hc.2.2 q
theorem unI {f : Value → Sem Value} {g : Int → Int}
    (rule : ∀ (i : Int) (t : Tok) (s : Shared) (Q : Value → Shared → Prop) (E : Value → Shared → Prop), Q (.int (g i) s.toks) { s with toks := s.toks + 1 } → wpAny (model X.prog X.w) X.A (f (.int i t)) Q E s) :
    UnR X f (rU fun i => .int (g i)) := by
  intro pins s σ H x v Q I rx h
  obtain ⟨i, rfl, q⟩ := h
  obtain ⟨t, rfl⟩ := rx
  exact rule i t s _ _ ⟨.int (g i), H, I.tok _, ⟨_, rfl⟩, q⟩
theorem un_neg : UnR X (unaryOp .USub) (rU fun i => .int (-i)) := unI fun _ _ _ _ _ q => neg_int q
end
def scal : V → V → Bool
  | .non, .non => true | .non, .int _ => true | .int _, .non => true | .non, .bl _ => true | .bl _, .non => true | .non, .str _ => true | .str _, .non => true
  | .int _, .int _ => true | .bl _, .bl _ => true | .str _, .str _ => true | .byt _, .byt _ => true
  | .int _, .str _ => true | .str _, .int _ => true | .bl _, .str _ => true | .str _, .bl _ => true
  | _, _ => false
def rEq : R2 := fun x y H Q => scal x y = true ∧ Q (.bl (decide (x = y))) H
def rNe : R2 := fun x y H Q => scal x y = true ∧ Q (.bl (!decide (x = y))) H
theorem dec_int {i j : Int} : decide (V.int i = V.int j) = (i == j) := by
  rw [Bool.eq_iff_iff]
  simp
theorem dec_bl {i j : Bool} : decide (V.bl i = V.bl j) = (i == j) := by
  rw [Bool.eq_iff_iff]
  simp
theorem dec_str {i j : Str} : decide (V.str i = V.str j) = (i == j) := by
  rw [Bool.eq_iff_iff]
  simp
theorem dec_byt {i j : Array UInt8} : decide (V.byt i = V.byt j) = (i.toList == j.toList) := by
  rw [Bool.eq_iff_iff]
  cases i
  cases j
  simp
section
variable {X : Cx} {a b c : Expr} {ta tb tc : TE} {pos : Pos}
theorem fin_bl {pins : List (Addr × Obj)} {σ : St} {H : Hp} {s : Shared} {Q : VK} {k k' : Bool} (I : Inv X pins σ H s) (q : Q (.bl k) H) (e : k = k') : EP X pins σ Q (.bool k') s := by
  subst e
  exact ⟨.bl k, H, I, rfl, q⟩
theorem op_eq : OpR X (compareOp .Eq) rEq := by
  intro pins s σ H x y v u Q I rx ry h
  obtain ⟨hs, q⟩ := h
  cases x with
  | non =>
    cases rx
    cases y with
    | non => cases ry; exact PySem.EqNone.eq_none_none (fin_bl I q (by simp))
    | bl j => cases ry; exact PySem.EqNone.eq_none_bool (fin_bl I q (by simp))
    | int j => obtain ⟨t', rfl⟩ := ry; exact PySem.EqNone.eq_none_int (fin_bl I q (by simp))
    | str j => obtain ⟨t', rfl⟩ := ry; exact PySem.EqNone.eq_none_str (fin_bl I q (by simp))
    | _ => exact absurd (show false = true from hs) Bool.false_ne_true
  | bl i =>
    cases rx
    cases y with
    | non => cases ry; exact PySem.EqNone.eq_bool_none (fin_bl I q (by simp))
    | bl j => cases ry; exact eq_bool (fin_bl I q dec_bl)
    | str j => obtain ⟨t', rfl⟩ := ry; exact PySem.EqMixed.eq_bool_str (fin_bl I q (by simp))
    | _ => exact absurd (show false = true from hs) Bool.false_ne_true
  | int i =>
    obtain ⟨t, rfl⟩ := rx
    cases y with
    | non => cases ry; exact PySem.EqNone.eq_int_none (fin_bl I q (by simp))
    | int j => obtain ⟨t', rfl⟩ := ry; exact eq_int (fin_bl I q dec_int)
    | str j => obtain ⟨t', rfl⟩ := ry; exact PySem.EqMixed.eq_int_str (fin_bl I q (by simp))
    | _ => exact absurd (show false = true from hs) Bool.false_ne_true
  | str i =>
    obtain ⟨t, rfl⟩ := rx
    cases y with
    | non => cases ry; exact PySem.EqNone.eq_str_none (fin_bl I q (by simp))
    | bl j => cases ry; exact PySem.EqMixed.eq_str_bool (fin_bl I q (by simp))
    | int j => obtain ⟨t', rfl⟩ := ry; exact PySem.EqMixed.eq_str_int (fin_bl I q (by simp))
    | str j => obtain ⟨t', rfl⟩ := ry; exact eq_str (fin_bl I q dec_str)
    | _ => exact absurd (show false = true from hs) Bool.false_ne_true
  | byt i =>
    obtain ⟨t, rfl⟩ := rx
    cases y with
    | byt j => obtain ⟨t', rfl⟩ := ry; exact PySem.W.eq_bytes (fin_bl I q dec_byt)
    | _ => exact absurd (show false = true from hs) Bool.false_ne_true
  | _ => cases y <;> exact absurd (show false = true from hs) Bool.false_ne_true
theorem op_ne : OpR X (compareOp .NotEq) rNe := by
  intro pins s σ H x y v u Q I rx ry h
  obtain ⟨hs, q⟩ := h
  cases x with
  | non =>
    cases rx
    cases y with
    | non => cases ry; exact PySem.EqNone.ne_none_none (fin_bl I q (by simp))
    | bl j => cases ry; exact PySem.EqNone.ne_none_bool (fin_bl I q (by simp))
    | int j => obtain ⟨t', rfl⟩ := ry; exact PySem.EqNone.ne_none_int (fin_bl I q (by simp))
    | str j => obtain ⟨t', rfl⟩ := ry; exact PySem.EqNone.ne_none_str (fin_bl I q (by simp))
    | _ => exact absurd (show false = true from hs) Bool.false_ne_true
  | bl i =>
    cases rx
    cases y with
    | non => cases ry; exact PySem.EqNone.ne_bool_none (fin_bl I q (by simp))
    | bl j => cases ry; exact ne_bool (fin_bl I q (congrArg not dec_bl))
    | str j => obtain ⟨t', rfl⟩ := ry; exact PySem.EqMixed.ne_bool_str (fin_bl I q (by simp))
    | _ => exact absurd (show false = true from hs) Bool.false_ne_true
  | int i =>
    obtain ⟨t, rfl⟩ := rx
    cases y with
    | non => cases ry; exact PySem.EqNone.ne_int_none (fin_bl I q (by simp))
    | int j => obtain ⟨t', rfl⟩ := ry; exact ne_int (fin_bl I q (congrArg not dec_int))
    | str j => obtain ⟨t', rfl⟩ := ry; exact PySem.EqMixed.ne_int_str (fin_bl I q (by simp))
    | _ => exact absurd (show false = true from hs) Bool.false_ne_true
  | str i =>
    obtain ⟨t, rfl⟩ := rx
    cases y with
    | non => cases ry; exact PySem.EqNone.ne_str_none (fin_bl I q (by simp))
    | bl j => cases ry; exact PySem.EqMixed.ne_str_bool (fin_bl I q (by simp))
    | int j => obtain ⟨t', rfl⟩ := ry; exact PySem.EqMixed.ne_str_int (fin_bl I q (by simp))
    | str j => obtain ⟨t', rfl⟩ := ry; exact ne_str (fin_bl I q (congrArg not dec_str))
    | _ => exact absurd (show false = true from hs) Bool.false_ne_true
  | byt i =>
    obtain ⟨t, rfl⟩ := rx
    cases y with
    | byt j => obtain ⟨t', rfl⟩ := ry; exact PySem.W.ne_bytes (fin_bl I q (congrArg not dec_byt))
    | _ => exact absurd (show false = true from hs) Bool.false_ne_true
  | _ => cases y <;> exact absurd (show false = true from hs) Bool.false_ne_true
theorem op_lt : OpR X (compareOp .Lt) (rI0 fun i j => .bl (decide (i < j))) := opB0 fun _ _ _ _ _ _ _ q => lt_int q
theorem op_le : OpR X (compareOp .LtE) (rI0 fun i j => .bl (decide (i ≤ j))) := opB0 fun _ _ _ _ _ _ _ q => le_int q
theorem op_gt : OpR X (compareOp .Gt) (rI0 fun i j => .bl (decide (j < i))) := opB0 fun _ _ _ _ _ _ _ q => gt_int q
theorem op_ge : OpR X (compareOp .GtE) (rI0 fun i j => .bl (decide (j ≤ i))) := opB0 fun _ _ _ _ _ _ _ q => ge_int q
theorem op_isN : OpR X (compareOp .Is) (fun x y H Q => y = .non ∧ Q (.bl (decide (x = .non))) H) := by
  intro pins s σ H x y v u Q I rx ry h
  obtain ⟨rfl, q⟩ := h
  cases ry
  refine is_none_gen (fin_bl I q ?_)
  cases x <;> first
    | (cases rx; rfl)
    | (obtain ⟨t, rfl⟩ := rx; rfl)
theorem op_notN : OpR X (compareOp .IsNot) (fun x y H Q => y = .non ∧ Q (.bl (!decide (x = .non))) H) := by
  intro pins s σ H x y v u Q I rx ry h
  obtain ⟨rfl, q⟩ := h
  cases ry
  refine isnot_none_gen (fin_bl I q ?_)
  cases x <;> first
    | (cases rx; rfl)
    | (obtain ⟨t, rfl⟩ := rx; rfl)
theorem op_notin_str : OpR X (compareOp .NotIn) (fun x y H Q => ∃ i j, x = .str i ∧ y = .str j ∧ Q (.bl (!(!(Builtin.Str.occurrences j i 0 j.length 1).isEmpty))) H) := by
  intro pins s σ H x y v u Q I rx ry h
  obtain ⟨i, j, rfl, rfl, q⟩ := h
  obtain ⟨t, rfl⟩ := rx
  obtain ⟨t', rfl⟩ := ry
  exact notIn_str (fin_bl I q rfl)
theorem OpR.or {f : Value → Value → Sem Value} {r r' : R2} (h : OpR X f r) (h' : OpR X f r') : OpR X f (fun x y H Q => r x y H Q ∨ r' x y H Q) := by
  intro pins s σ H x y v u Q I rx ry q
  rcases q with q | q
  · exact h pins s σ H x y v u Q I rx ry q
  · exact h' pins s σ H x y v u Q I rx ry q
theorem nomark (b : Expr) {op : CmpOp} (h : op ≠ .In := by decide) (h2 : op ≠ .NotIn := by decide) : behindInMarks op b = false := by
  have e1 : (op == CmpOp.In) = false := by cases op <;> first | rfl | exact absurd rfl h
  have e2 : (op == CmpOp.NotIn) = false := by cases op <;> first | rfl | exact absurd rfl h2
  cases b <;> simp [behindInMarks, e1, e2]
theorem pe_cmpR {op : CmpOp} {r : R2} (ho : OpR X (compareOp op) r) (ha : PE X a ta) (hb : PE X b tb) (hm : behindInMarks op b = false) : PE X (.Compare a [op] [b] pos) (tOp r ta tb) := by
  intro pins s σ H Q I h
  exact wpAny_Compare1 (binT ha hb I h fun v u s2 x y H2 I2 rx ry q => ho pins s2 σ H2 x y v u Q I2 rx ry q) hm
def tTest (t : TE) : TT := fun σ H Q => t σ H fun x H' => ∃ k, x = .bl k ∧ Q k H'
theorem pt_cmpR {op : CmpOp} {r : R2} (ho : OpR X (compareOp op) r) (ha : PE X a ta) (hb : PE X b tb) (hm : behindInMarks op b = false) : PT X (.Compare a [op] [b] pos) (tTest (tOp r ta tb)) := by
  intro pins s σ H Q I h
  refine wpAny_isTrue_Compare1 (thn (ha pins s σ H _ I h) fun v s1 ⟨x, H1, I1, r1, q1⟩ => thn (hb pins s1 σ H1 _ I1 q1) fun u s2 ⟨y, H2, I2, r2, q2⟩ =>
    thn (ho pins s2 σ H2 x y v u _ I2 r1 r2 q2) fun c s3 ⟨z, H3, I3, r3, k, e, q3⟩ => ?_) hm
  subst e
  cases r3
  exact wpAny_truthy_bool ⟨H3, I3, q3⟩
def tChain (r r' : R2) (ta tb tc : TE) : TE := fun σ H Q => ta σ H fun x H1 => tb σ H1 fun y H2 => r x y H2 fun z H3 => ∃ k, z = .bl k ∧
  (if k = true then tc σ H3 fun w' H4 => r' y w' H4 Q else Q (.bl false) H3)
theorem pe_chain {op op' : CmpOp} {r r' : R2} (ho : OpR X (compareOp op) r) (ho' : OpR X (compareOp op') r') (ha : PE X a ta) (hb : PE X b tb) (hc : PE X c tc)
    (hm : lastMarks [op, op'] [b, c] = false := by with_unfolding_all rfl) : PE X (.Compare a [op, op'] [b, c] pos) (tChain r r' ta tb tc) := by
  intro pins s σ H Q I h
  refine Compare_chain (thn (ha pins s σ H _ I h) fun v s1 ⟨x, H1, I1, r1, q1⟩ => chain_link (thn (hb pins s1 σ H1 _ I1 q1) fun u s2 ⟨y, H2, I2, r2, q2⟩ =>
    thn (ho pins s2 σ H2 x y v u _ I2 r1 r2 q2) fun d s3 ⟨z, H3, I3, r3, k, e, q3⟩ => ?_)) hm
  subst e
  cases r3
  refine wpAny_truthy_bool ?_
  cases k with
  | false => exact ite_ff ⟨.bl false, H3, I3, rfl, q3⟩
  | true => exact ite_tt (chain_last (thn (hc pins s3 σ H3 _ I3 q3) fun w' s4 ⟨z', H4, I4, r4, q4⟩ => ho' pins s4 σ H4 y z' u w' Q I4 r2 r4 q4))
theorem pt_chain {op op' : CmpOp} {r r' : R2} (ho : OpR X (compareOp op) r) (ho' : OpR X (compareOp op') r') (ha : PE X a ta) (hb : PE X b tb) (hc : PE X c tc)
    (hm : lastMarks [op, op'] [b, c] = false := by with_unfolding_all rfl) : PT X (.Compare a [op, op'] [b, c] pos) (tTest (tChain r r' ta tb tc)) := by
  intro pins s σ H Q I h
  refine isTrue_chain (thn (ha pins s σ H _ I h) fun v s1 ⟨x, H1, I1, r1, q1⟩ => test_link (thn (hb pins s1 σ H1 _ I1 q1) fun u s2 ⟨y, H2, I2, r2, q2⟩ =>
    thn (ho pins s2 σ H2 x y v u _ I2 r1 r2 q2) fun d s3 ⟨z, H3, I3, r3, k, e, q3⟩ => ?_)) hm
  subst e
  cases r3
  refine wpAny_truthy_bool ?_
  cases k with
  | false =>
    obtain ⟨k', e', q'⟩ := q3
    cases e'
    exact ite_ff ⟨H3, I3, q'⟩
  | true =>
    refine ite_tt (test_last (thn (hc pins s3 σ H3 _ I3 q3) fun w' s4 ⟨z', H4, I4, r4, q4⟩ => thn (ho' pins s4 σ H4 y z' u w' _ I4 r2 r4 q4) fun d' s5 ⟨z2, H5, I5, r5, k2, e2, q5⟩ => ?_))
    subst e2
    cases r5
    exact wpAny_truthy_bool ⟨H5, I5, q5⟩
theorem line63 : (sizeLine : Nat) < 2 ^ 63 := by rw [sizeLine_eq]; decide
theorem op_add_str : OpR X (binaryOp .Add) (fun x y H Q => ∃ i j, x = .str i ∧ y = .str j ∧ i.length + j.length ≤ sizeLine ∧ Q (.str (i ++ j)) H) := by
  intro pins s σ H x y v u Q I rx ry h
  obtain ⟨i, j, rfl, rfl, hz, q⟩ := h
  obtain ⟨t, rfl⟩ := rx
  obtain ⟨t', rfl⟩ := ry
  exact add_str (fun t' tk => ⟨.str (i ++ j), H, I.tok _, ⟨_, rfl⟩, q⟩) hz
theorem vals1 {x : V} {us : List Value} (r : Vals [x] us) : ∃ u, us = [u] ∧ RelV x u := by
  cases r with
  | cons r1 r2 => cases r2; exact ⟨_, rfl, r1⟩
theorem vals2 {x y : V} {us : List Value} (r : Vals [x, y] us) : ∃ u w', us = [u, w'] ∧ RelV x u ∧ RelV y w' := by
  cases r with
  | cons r1 r2 =>
    cases r2 with
    | cons r3 r4 => cases r4; exact ⟨_, _, rfl, r1, r3⟩
theorem call_int1 : CallR X (.type "int") (fun xs H Q => (∃ i, xs = [.int i] ∧ Q (.int i) H) ∨ ∃ k, xs = [.bl k] ∧ Q (.int (if k then 1 else 0)) H) := by
  intro pins s σ H xs us Q I r h
  rcases h with ⟨i, rfl, q⟩ | ⟨k, rfl, q⟩
  · obtain ⟨u, rfl, t, rfl⟩ := vals1 r
    exact call_int_int ⟨.int i, H, I, ⟨_, rfl⟩, q⟩
  · obtain ⟨u, rfl, r1⟩ := vals1 r
    cases r1
    exact call_int_bool ⟨.int (if k then 1 else 0), H, I.tok _, ⟨_, rfl⟩, q⟩
def LenV (K : PySem.W.Frag) (x : V) (H : Hp) (n : Nat) : Prop :=
  match x with
  | .str y => y.length ≤ sizeLine ∧ n = y.length
  | .byt y => y.size ≤ sizeLine ∧ n = y.size
  | .ref p => (∃ xs, SqL K H p xs ∧ n = xs.length) ∨ ∃ xs, SqT K H p xs ∧ n = xs.length
  | _ => False
theorem call_len : CallR X (.builtin "len") (fun xs H Q => ∃ x n, xs = [x] ∧ LenV X.K x H n ∧ Q (.int n) H) := by
  intro pins s σ H xs us Q I r h
  obtain ⟨x, n, rfl, e, q⟩ := h
  obtain ⟨u, rfl, rx⟩ := vals1 r
  have hl := line63
  have hs : sizeLine = 16777216 := sizeLine_eq
  cases x with
  | str y =>
    obtain ⟨t, rfl⟩ := rx
    obtain ⟨hy, e'⟩ : y.length ≤ sizeLine ∧ n = y.length := e
    subst e'
    exact len_str (by omega) ⟨.int _, H, I.tok _, ⟨_, rfl⟩, q⟩
  | byt y =>
    obtain ⟨t, rfl⟩ := rx
    obtain ⟨hy, e'⟩ : y.size ≤ sizeLine ∧ n = y.size := e
    subst e'
    exact PySem.W.len_bytes (by omega) ⟨.int _, H, I.tok _, ⟨_, rfl⟩, q⟩
  | ref p =>
    cases rx
    have e' : (∃ xs, SqL X.K H p xs ∧ n = xs.length) ∨ ∃ xs, SqT X.K H p xs ∧ n = xs.length := e
    rcases e' with ⟨xs, hx, e'⟩ | ⟨xs, hx, e'⟩
    · subst e'
      obtain ⟨its, r', pl, hz⟩ := I.list hx
      have hlen := r'.length
      exact Calls.call_len_list pl.isList (by simp only [List.size_toArray]; omega) ⟨.int xs.length, H, I.tok _, ⟨_, by simp only [List.size_toArray]; rw [hlen]⟩, q⟩
    · subst e'
      obtain ⟨its, r', pl, hz⟩ := I.tuple hx
      have hlen := r'.length
      exact len_tuple pl (by simp only [List.size_toArray]; omega) ⟨.int xs.length, H, I.tok _, ⟨_, by simp only [List.size_toArray]; rw [hlen]⟩, q⟩
  | _ => exact (show False from e).elim
end
end L2
namespace L2
open PySem PySem.Spec PyProof.Rows
structure ObjM (h : Heap) (x dx C : Addr) (mA : Str → Option Value) : Prop where
  obj : h.get? x = some (PySem.W.instObj C dx)
  ns : h.Ns1 dx mA
  ne : dx ≠ x
theorem lookIn_ns {h : Heap} {dx : Addr} {mA : Str → Option Value} (n : h.Ns1 dx mA) : ∃ od, h.get? dx = some od ∧ ∀ name, PySem.W.lookIn name od = some (mA name) := by
  obtain ⟨o, es, ep, ho, hd, hk, _, hm⟩ := n
  refine ⟨o, ho, fun name => ?_⟩
  have e := hm name
  unfold nsFind findBy at e
  rw [← Array.find?_toList] at e
  unfold PySem.W.lookIn
  rw [hd]
  dsimp only
  split
  · rename_i y q
    rw [q] at e
    exact congrArg some e
  · rename_i q
    rw [q] at e
    have a : es.toList.any (·.refKey) = false := by
      rw [List.any_eq_false]
      intro y hy
      obtain ⟨z, t, hkey⟩ := hk y (Array.mem_toList_iff.mp hy)
      simp [DictEntry.refKey, hkey]
    have a' : ¬ es.toList.any (·.refKey) = true := by rw [a]; exact Bool.false_ne_true
    rw [if_neg a']
    exact congrArg some e
theorem ObjM.look {h : Heap} {x dx C : Addr} {mA : Str → Option Value} (I : ObjM h x dx C mA) : ∃ od, PySem.W.InstAt h x (PySem.W.instObj C dx) C (some od) ∧ ∀ name, PySem.W.lookIn name od = some (mA name) :=
  let ⟨od, ho, hl⟩ := lookIn_ns I.ns
  ⟨od, ⟨I.obj, rfl, rfl, ho⟩, hl⟩
structure Cls (K : PySem.W.Frag) (C : Addr) : Prop where
  pg : PySem.W.plainGet K C Str.empty = true
  hd : PySem.W.hasDictIn K C = true
  po : PySem.W.plainOver K C = true
  sa : PySem.W.findIn K (.ref C) "__setattr__" = some (some (.builtin "object.__setattr__"))
theorem Cls.get {K : PySem.W.Frag} {C : Addr} (c : Cls K C) (f : Str) : PySem.W.plainGet K C f = true := c.pg
section
variable {X : Cx} {pins : List (Addr × Obj)} {σ : St} {H : Hp} {s : Shared} {a C dx : Addr} {fs : List (Str × V)} {f : Str} {v : V} {A : Around} {E : Value → Shared → Prop}
theorem Inv.made (I : Inv X pins σ H s) : Inv X pins σ (upd (upd H s.heap.objs.size (.own (s.heap.objs.size + 1))) (s.heap.objs.size + 1) (.ins C s.heap.objs.size []))
    { s with heap := (s.heap.push PySem.W.emptyDict).push (PySem.W.instObj C s.heap.objs.size) } := by
  have e1 : (s.heap.push PySem.W.emptyDict).get? s.heap.objs.size = some PySem.W.emptyDict := Heap.get?_push_size s.heap rfl
  have e2 : ((s.heap.push PySem.W.emptyDict).push (PySem.W.instObj C s.heap.objs.size)).get? (s.heap.objs.size + 1) = some (PySem.W.instObj C s.heap.objs.size) := by
    have := Heap.get?_push_size (s.heap.push PySem.W.emptyDict) (o := PySem.W.instObj C s.heap.objs.size) rfl
    rwa [Heap.size_push] at this
  have e3 : (s.heap.push PySem.W.emptyDict).Ns s.heap.objs.size (fun _ => none) := ⟨PySem.W.emptyDict, #[], _, e1, rfl, (fun e he => absurd he (by simp)), fun _ => rfl⟩
  have I1 := I.laid (a := s.heap.objs.size) (o := .own (s.heap.objs.size + 1)) (h' := s.heap.push PySem.W.emptyDict) (t' := s.toks) (fun b u q => Heap.get?_push_of_some _ q) (Nat.le_refl _) ⟨_, e1⟩
  refine I1.laid (a := s.heap.objs.size + 1) (o := .ins C s.heap.objs.size []) (t' := s.toks) (fun b u q => Heap.get?_push_of_some _ q) (Nat.le_of_eq (Heap.size_push _ _)) ?_
  have ne : s.heap.objs.size ≠ s.heap.objs.size + 1 := Nat.ne_of_lt (Nat.lt_succ_self _)
  refine ⟨by rw [upd_ne ne, upd_same], Nat.zero_le _, ne, e2, fun _ => none, (Heap.Ns1.of_empty e3).at fun o q => Heap.get?_push_of_some _ q, fun _ => True.intro, fun y hy => absurd rfl hy⟩
end
end L2
namespace L2
open PySem PySem.Spec PyProof.Rows
structure Room (k : Nat) (A : Around) : Prop where
  hd : A.handled = none
  dp : A.depth + 3 * k + 5 < recursionLimit
  un : A.units + 16 * k + 200 < cLine
  gd : A.guards = some []
theorem Room.mono {j k : Nat} {A : Around} (r : Room k A) (h : j ≤ k) : Room j A := ⟨r.hd, by have := r.dp; omega, by have := r.un; omega, r.gd⟩
theorem Room.deeper {k : Nat} {A : Around} (r : Room (k + 1) A) (env : Env) : Room k (A.deeper env) :=
  ⟨r.hd, by have := r.dp; show A.depth + 1 + 3 * k + 5 < _; omega, by have := r.un; show A.units + 3 + 16 * k + 200 < _; omega, by first | exact r.gd | simpa [Around.deeper, Around.under, Code.guard] using r.gd⟩
theorem Room.in1 {k : Nat} {A : Around} (r : Room (k + 1) A) : Room k A.in1 :=
  ⟨r.hd, by have := r.dp; show A.depth + 3 * k + 5 < _; omega, by have := r.un; show A.units + 1 + 16 * k + 200 < _; omega, r.gd⟩
theorem Room.depth {k : Nat} {A : Around} (r : Room k A) : A.depth < recursionLimit := by have := r.dp; omega
theorem Room.units {k : Nat} {A : Around} (r : Room k A) : A.units + 64 < cLine := by have := r.un; omega
def tNil : TA := fun _ H Q => Q [] H
def tCons (ta : TE) (tr : TA) : TA := fun σ H Q => ta σ H fun x H1 => tr σ H1 fun xs H2 => Q (x :: xs) H2
section
variable {X : Cx} {e : Expr} {es : List Expr} {te : TE} {t : TA} {pos : Pos}
theorem pa_nil : PA X [] tNil := fun _ _ _ _ H Q I h => Calls.spliced_nil ⟨[], H, I, .nil, h⟩
theorem pa_cons (ha : PE X e te) (hr : PA X es t) (hs : starEach (e :: es) X.env = (false, eval e X.env) :: starEach es X.env := by rfl) : PA X (e :: es) (tCons te t) := by
  intro pos pins s σ H Q I h
  rw [hs]
  show wpAny _ _ (spliced ((false, eval e X.env) :: backTo pos (starEach es X.env))) _ _ s
  refine Calls.spliced_cons (thn (ha pins s σ H _ I h) fun u s1 ⟨x, H1, I1, r1, q1⟩ => ?_)
  exact thn (hr pos pins s1 σ H1 _ I1 q1) fun us s2 ⟨xs, H2, I2, r2, q2⟩ => ⟨x :: xs, H2, I2, .cons r1 r2, q2⟩
def tTup (t : TA) : TE := fun σ H Q => t σ H fun xs H1 => xs.length ≤ sizeLine ∧ ∀ p, H1 p = none → Q (.ref p) (upd H1 p (.tup xs))
def tLst (t : TA) : TE := fun σ H Q => t σ H fun xs H1 => xs.length ≤ sizeLine ∧ ∀ p, H1 p = none → Q (.ref p) (upd H1 p (.lst xs))
theorem pe_tup {x1} (h : PA X es t) : PE X (.Tuple es x1 pos) (tTup t) := by
  intro pins s σ H Q I hq
  refine wpAny_Tuple_spliced (thn (h pos pins s σ H _ I hq) fun us s1 ⟨xs, H1, I1, r, z, q⟩ => ⟨by rw [← r.length]; exact z, ?_⟩)
  have hf : H1 s1.heap.objs.size = none := I1.hok.fresh (Nat.le_refl _)
  refine ⟨.ref s1.heap.objs.size, upd H1 s1.heap.objs.size (.tup xs), I1.laid (t' := s1.toks) (fun b u e => Heap.get?_push_of_some _ e) (Nat.le_refl _) ?_, rfl, q _ hf⟩
  exact ⟨z, us, r, ⟨_, Heap.get?_push_size _ rfl, rfl, _, rfl, rfl⟩⟩
theorem pe_lst (h : PA X es t) : PE X (.List es pos) (tLst t) := by
  intro pins s σ H Q I hq
  refine wpAny_List_spliced (thn (h pos pins s σ H _ I hq) fun us s1 ⟨xs, H1, I1, r, z, q⟩ => ⟨by rw [← r.length]; exact z, ?_⟩)
  have hf : H1 s1.heap.objs.size = none := I1.hok.fresh (Nat.le_refl _)
  refine ⟨.ref s1.heap.objs.size, upd H1 s1.heap.objs.size (.lst xs), I1.laid (t' := s1.toks) (fun b u e => Heap.get?_push_of_some _ e) (Nat.le_refl _) ?_, rfl, q _ hf⟩
  exact ⟨z, us, 0, r, Heap.get?_push_size _ rfl⟩
end
abbrev Sp := List V → Hp → VK → XK → Prop
abbrev CXT := List Env → Hp → Shared → XK → Value → Shared → Prop
structure Env0 (P : Program) (w : World) (K : PySem.W.Frag) (mg : Str → Option Value) (base : Heap) (A : Around) (outer : List Env) (s : Shared) (H : Hp) : Prop where
  frames : A.frames = some outer
  mod : Mod K mg base
  bs : ∀ b o, base.get? b = some o → s.heap.get? b = some o ∧ H b = none
  bsz : base.objs.size ≤ s.heap.objs.size
  funs : s.heap.FunFrames base outer
  frf : ∀ b ∈ frs outer, H b = none
  hok : HOk P w H s.heap
  bare : AllBare s.gens
def CE (outer : List Env) (P : Program) (w : World) (H : Hp) (s : Shared) (Q : VK) (u : Value) (s' : Shared) : Prop :=
  ∃ v H', s'.os = s.os ∧ AllBare s'.gens ∧ Un (frs outer) [] H H' s.heap s'.heap ∧ HOk P w H' s'.heap ∧ RelV v u ∧ Q v H'
def CR (CX : CXT) (outer : List Env) (P : Program) (w : World) (H : Hp) (s : Shared) (Q : VK) (E : XK) (r : Result) (s' : Shared) : Prop :=
  match r with
  | .ok (.ret u) => CE outer P w H s Q u s'
  | .ok _ => False
  | .error e => CX outer H s E e s'
structure FnOk (P : Program) (w : World) (K : PySem.W.Frag) (mg : Str → Option Value) (base : Heap) (CX : CXT) (k : Nat) (f : Addr) (fd : FuncData) (ps : List Str) (sp : Sp) : Prop where
  len : ∀ vs H Q E, sp vs H Q E → vs.length = ps.length
  run : ∀ (A : Around) (outer : List Env) (s : Shared) (H : Hp) (args : Args) (us : List Value) (vs : List V) (Q : VK) (E : XK), Room k A → Env0 P w K mg base A outer s H → BindsTo s fd args (ps.zip us) → Vals vs us → sp vs H Q E →
    codeAny (model P w) A (.call (.ref f) args) (CR CX outer P w H s Q E) s
theorem FnOk.mono {P : Program} {w : World} {K : PySem.W.Frag} {mg : Str → Option Value} {base : Heap} {CX : CXT} {j k : Nat} {f : Addr} {fd : FuncData} {ps : List Str} {sp : Sp} (F : FnOk P w K mg base CX j f fd ps sp) (h : j ≤ k) :
    FnOk P w K mg base CX k f fd ps sp := ⟨F.len, fun A outer s H args us vs Q E hr => F.run A outer s H args us vs Q E (hr.mono h)⟩
theorem FnOk.imp {P : Program} {w : World} {K : PySem.W.Frag} {mg : Str → Option Value} {base : Heap} {CX : CXT} {k : Nat} {f : Addr} {fd : FuncData} {ps : List Str} {sp sp' : Sp} (F : FnOk P w K mg base CX k f fd ps sp)
    (h : ∀ vs H Q E, sp' vs H Q E → sp vs H Q E) : FnOk P w K mg base CX k f fd ps sp' :=
  ⟨fun vs H Q E q => F.len vs H Q E (h _ _ _ _ q), fun A outer s H args us vs Q E hr he hb hv hs => F.run A outer s H args us vs Q E hr he hb hv (h _ _ _ _ hs)⟩
theorem Env0.in1 {P : Program} {w : World} {K : PySem.W.Frag} {mg : Str → Option Value} {base : Heap} {A : Around} {outer : List Env} {s : Shared} {H : Hp} (e : Env0 P w K mg base A outer s H) :
    Env0 P w K mg base A.in1 outer s H := ⟨e.frames, e.mod, e.bs, e.bsz, e.funs, e.frf, e.hok, e.bare⟩
section
variable {X : Cx} {pins : List (Addr × Obj)} {σ : St} {H : Hp} {s s' : Shared}
theorem Inv.env0 (I : Inv X pins σ H s) : Env0 X.prog X.w X.K X.mg X.base X.A X.stack s H :=
  ⟨I.ok.frames, I.ok.mod, I.bs, Nat.le_trans I.ok.bsz I.sz, I.stack, I.stkFree, I.hok, I.bare⟩
theorem Inv.after {Q : VK} {u : Value} (I : Inv X pins σ H s) (h : CE X.stack X.prog X.w H s Q u s') : EP X pins σ Q u s' := by
  obtain ⟨v, H', os, bare, un, hok, r, q⟩ := h
  obtain ⟨hh, g, d, t, os'⟩ := s'
  obtain rfl : os' = s.os := os
  exact ⟨v, H', I.call (h' := hh) (g' := g) (d' := d) (t' := t) (ch := []) un hok bare (fun b z => absurd z (by simp)), r, q⟩
end
def tCall (sp : Sp) (dvs : List V) (E : XK) (t : TA) : TE := fun σ H Q => t σ H fun vs H1 => sp (vs ++ dvs) H1 Q E
def Binds (K : PySem.W.Frag) (fd : FuncData) (ps : List Str) (ds : List Value) : Prop :=
  ∀ (s : Shared) (us : List Value), K.In s.heap → (us ++ ds).length = ps.length → BindsTo s fd ⟨us, []⟩ (ps.zip (us ++ ds))
theorem Binds.all {K : PySem.W.Frag} {fd : FuncData} {ps : List Str} (h : ∀ us : List Value, us.length = ps.length → bindArgs fd ⟨us, []⟩ = pure (ps.zip us)) : Binds K fd ps [] := fun s us _ hl => by
  rw [List.append_nil] at hl ⊢
  exact .of_eq (h us hl)
def Passes (CX : CXT) (X : Cx) (E : XK) : Prop := ∀ (pins : List (Addr × Obj)) (σ : St) (H : Hp) (s : Shared) (e : Value) (s' : Shared), Inv X pins σ H s → CX X.stack H s E e s' → X.xe e s'
section
variable {X : Cx} {CX : CXT} {k : Nat} {f C : Addr} {fd : FuncData} {ps : List Str} {sp : Sp} {dvs : List V} {ds : List Value} {E : XK} {x m : Str} {p pos apos : Pos} {e o : Expr} {es : List Expr} {ta : TE} {t : TA}
theorem run_fn {pins : List (Addr × Obj)} {σ : St} {H : Hp} {s : Shared} {Q : VK} {us : List Value} {vs : List V} (F : FnOk X.prog X.w X.K X.mg X.base CX k f fd ps sp) (hr : Room k X.A) (hb : Binds X.K fd ps ds) (hd : Vals dvs ds) (hx : Passes CX X E)
    (I : Inv X pins σ H s) (r : Vals vs us) (h : sp (vs ++ dvs) H Q E) : wpAny (model X.prog X.w) X.A (call (.ref f) us) (EP X pins σ Q) X.xe s := by
  have r2 : Vals (vs ++ dvs) (us ++ ds) := r.append hd
  have hl : (us ++ ds).length = ps.length := by rw [← r2.length]; exact F.len _ _ _ _ h
  refine wpAny_call (codeAny_mono (F.run X.A X.stack s H ⟨us, []⟩ (us ++ ds) (vs ++ dvs) Q E hr I.env0 (hb s us I.kIn hl) r2 h) fun r s' hq => ?_)
  cases r with
  | error e => exact hx pins σ H s e s' I hq
  | ok fl =>
    cases fl with
    | ret u => exact I.after hq
    | next => exact False.elim hq
    | brk => exact False.elim hq
    | cont => exact False.elim hq
theorem pe_call (F : FnOk X.prog X.w X.K X.mg X.base CX k f fd ps sp) (hr : Room k X.A) (hg : Gl X x) (hm : X.mg x = some (.ref f)) (hk : PySem.W.keepIn X.K (.ref f) = true) (hb : Binds X.K fd ps ds) (hd : Vals dvs ds) (hx : Passes CX X E)
    (ha : PA X (e :: es) t) (hdb : (x == ("__debug__" : Str)) = false := by decide) (he : starEach (e :: es) X.env = (false, eval e X.env) :: starEach es X.env := by rfl) (hpl : (backTo pos (starEach es X.env)).any (·.1) = false := by rfl) :
    PE X (.Call (.Name x p) (e :: es) [] pos) (tCall sp dvs E t) := by
  intro pins s σ H Q I h
  refine wpAny_Call_Name_kw (ld_glob I hg hm ?_ hdb)
  refine PySem.W.callWith_K (h₀ := X.base) I.ok.mod.kin hk (thn (ha pos pins s σ H _ I h) fun us s1 ⟨vs, H1, I1, r, q⟩ => ⟨I1.kIn, ?_⟩) he hpl
  exact run_fn F hr hb hd hx I1 r q
end
structure FnScope (N P : List Str) (sc : Scope) : Prop where
  kind : sc.kind = .function
  co : sc.isCoroutine = false
  gen : sc.isGenerator = false
  nd : N.Nodup
  pre : N.take P.length = P
  par : ∀ x ∈ P, sc.names.lookup x = some .local ∨ sc.names.lookup x = some .cell
  nofree : ∀ y ∈ sc.names, y.2 ≠ .free
theorem bindL_out {kindOf : Str → Option NameKind} {x : Str} : ∀ {binds : List (Str × Value)} {m : Str → Option Value}, (∀ v, (x, v) ∉ binds) → bindL kindOf binds m x = m x
  | [], _, _ => rfl
  | (n, v) :: r, m, h => by
    unfold bindL
    rw [bindL_out fun w hw => h w (List.mem_cons_of_mem _ hw)]
    split
    · have : x ≠ n := by rintro rfl; exact h v List.mem_cons_self
      simp [this]
    · rfl
theorem bindC_out {kindOf : Str → Option NameKind} {x : Str} : ∀ {binds : List (Str × Value)} {m : Str → Option Value}, (∀ v, (x, v) ∉ binds) → bindC kindOf binds m x = m x
  | [], _, _ => rfl
  | (n, v) :: r, m, h => by
    unfold bindC
    rw [bindC_out fun w hw => h w (List.mem_cons_of_mem _ hw)]
    split
    · rfl
    · have : x ≠ n := by rintro rfl; exact h v List.mem_cons_self
      simp [this]
theorem bindL_get {kindOf : Str → Option NameKind} {x : Str} {v : Value} : ∀ {P : List Str} {vs : List Value} {i : Nat} {m : Str → Option Value}, P.Nodup → P[i]? = some x → vs[i]? = some v → kindOf x = some .local →
    bindL kindOf (P.zip vs) m x = some v
  | [], _, _, _, _, h, _, _ => by simp at h
  | _ :: _, [], _, _, _, _, h, _ => by simp at h
  | p :: P, w :: vs, 0, m, nd, h1, h2, hk => by
    simp at h1 h2; subst h1; subst h2
    show bindL kindOf ((p, w) :: P.zip vs) m p = _
    unfold bindL
    rw [bindL_out fun v hv => (List.nodup_cons.mp nd).1 (List.of_mem_zip hv).1, if_pos hk]
    simp
  | p :: P, w :: vs, i + 1, m, nd, h1, h2, hk => by
    show bindL kindOf ((p, w) :: P.zip vs) m x = _
    unfold bindL
    exact bindL_get (i := i) (List.nodup_cons.mp nd).2 (by simpa using h1) (by simpa using h2) hk
theorem bindC_get {kindOf : Str → Option NameKind} {x : Str} {v : Value} : ∀ {P : List Str} {vs : List Value} {i : Nat} {m : Str → Option Value}, P.Nodup → P[i]? = some x → vs[i]? = some v → kindOf x ≠ some .local →
    bindC kindOf (P.zip vs) m x = some v
  | [], _, _, _, _, h, _, _ => by simp at h
  | _ :: _, [], _, _, _, _, h, _ => by simp at h
  | p :: P, w :: vs, 0, m, nd, h1, h2, hk => by
    simp at h1 h2; subst h1; subst h2
    show bindC kindOf ((p, w) :: P.zip vs) m p = _
    unfold bindC
    rw [bindC_out fun v hv => (List.nodup_cons.mp nd).1 (List.of_mem_zip hv).1, if_neg hk]
    simp
  | p :: P, w :: vs, i + 1, m, nd, h1, h2, hk => by
    show bindC kindOf ((p, w) :: P.zip vs) m x = _
    unfold bindC
    exact bindC_get (i := i) (List.nodup_cons.mp nd).2 (by simpa using h1) (by simpa using h2) hk
def start (N : List Str) (vs : List V) : St := vs.map some ++ List.replicate (N.length - vs.length) none
def cxOf (CX : CXT) (P : Program) (w : World) (K : PySem.W.Frag) (mg : Str → Option Value) (base : Heap) (N : List Str) (qual : Str) (scope : Scope) (f : Addr) (cd : Value) (A : Around) (outer : List Env) (s : Shared) (H : Hp) (E : XK) : Cx where
  prog := P
  w := w
  K := K
  mg := mg
  base := base
  A := A.deeper (envOfC qual scope s.heap.objs.size f cd)
  N := N
  s_0 := s
  H_0 := H
  env := envOfC qual scope s.heap.objs.size f cd
  outer := outer
  stack := envOfC qual scope s.heap.objs.size f cd :: outer
  ex := []
  calm := true
  fn := fun _ => true
  pn := []
  xe := fun e s' => wpAny (model P w) (A.deeper (envOfC qual scope s.heap.objs.size f cd)) (leaving (envOfC qual scope s.heap.objs.size f cd) e) (fun _ s'' => CX outer H s E e s'') (fun e' s'' => CX outer H s E e' s'') s'
theorem cell_has {sc : Scope} {n : Nat} {x : Str} (h : sc.names.lookup x = some .cell) : ∃ c, (cellsFrom n sc.names []).lookup x = some c := by
  have q := PySem.W.cellsFrom_some sc.names n [] (.inl h)
  exact Option.isSome_iff_exists.mp q
theorem inv_start {CX : CXT} {P : Program} {w : World} {K : PySem.W.Frag} {mg : Str → Option Value} {base : Heap} {N ps : List Str} {qual : Str} {scope : Scope} {f : Addr} {cd : Value} {A : Around} {outer : List Env} {s s1 : Shared} {H : Hp} {E : XK} {us : List Value} {vs : List V}
    (S : FnScope N ps scope) (hd : A.handled = none) (e0 : Env0 P w K mg base A outer s H) (hl : vs.length = ps.length) (r : Vals vs us)
    (x : InCallC s s.heap.objs.size (bindL (envOfC qual scope s.heap.objs.size f cd).kindOf (ps.zip us) fun _ => none) (cellsFrom (s.heap.objs.size + 1) scope.names []) (bindC (envOfC qual scope s.heap.objs.size f cd).kindOf (ps.zip us) fun _ => none) s1) :
    Inv (cxOf CX P w K mg base N qual scope f cd A outer s H E) [] (start N vs) H s1 := by
  have hpl : ps.length ≤ N.length := by have := congrArg List.length S.pre; rw [List.length_take] at this; omega
  obtain ⟨h1, tk, rfl, hk⟩ := x.done
  have noA : ∀ b : Addr, b ∉ (cxOf CX P w K mg base N qual scope f cd A outer s H E).ex := fun b z => absurd (show b ∈ ([] : List Addr) from z) (by simp)
  refine ⟨⟨e0.mod, S.kind, rfl, rfl, Nat.le_refl _, fun y z c h1 h2 => ?_, fun y hy => ?_, fun y c _ h => ?_, fun _ => hd, Around.frames_deeper e0.frames, .inr ⟨rfl, rfl⟩, fun b z => absurd z (noA b), e0.bs, e0.bsz, fun b _ _ => noA b, fun b z => absurd z (noA b), e0.funs, e0.frf⟩,
    rfl, e0.bare, Un.kept hk, ⟨_, x.toInCall.ns, fun i y v h1 h2 h3 => ?_⟩, fun y c h => ⟨_, x.cell y c h⟩, e0.hok.fresh (Nat.le_refl _), fun y c h => ?_, fun p hp => absurd (show p ∈ ([] : List (Addr × Obj)) from hp) (by simp), e0.hok.kept hk, ?_⟩
  · exact name_of_addr x.apart (PySem.mem_of_lookup h1) (PySem.mem_of_lookup h2)
  · have hy : scope.names.lookup y = some .cell ∨ scope.names.lookup y = some .free := hy
    rcases hy with hy | hy
    · exact cell_has hy
    · exact absurd rfl (S.nofree _ (PySem.mem_of_lookup hy))
  · exact Nat.le_of_lt (x.above y c (PySem.mem_of_lookup h))
  · have hi : i < vs.length := by
      unfold start at h2
      by_cases hi : i < vs.length
      · exact hi
      · rw [List.getElem?_append_right (by simpa using hi)] at h2
        rw [List.getElem?_replicate] at h2
        split at h2 <;> cases h2
    have ha : vs[i]? = some v := by
      unfold start at h2
      rw [List.getElem?_append_left (by simpa using hi), List.getElem?_map] at h2
      cases e : vs[i]? with
      | none => rw [e] at h2; cases h2
      | some a => rw [e] at h2; cases h2; rfl
    obtain ⟨u, hu, rv⟩ := r.get ha
    have hp : ps[i]? = some y := by
      rw [← S.pre, List.getElem?_take_of_lt (by omega)]; exact h1
    have ndP : ps.Nodup := by rw [← S.pre]; exact S.nd.sublist (List.take_sublist _ _)
    refine ⟨u, rv, ?_⟩
    rcases S.par y (List.mem_of_getElem? hp) with k | k
    · exact .inl ⟨k, bindL_get ndP hp hu k⟩
    · obtain ⟨c, e⟩ := cell_has (n := s.heap.objs.size + 1) k
      refine .inr ⟨.inl k, c, e, ?_⟩
      have q := x.cell y c e
      rw [bindC_get ndP hp hu (by show scope.names.lookup y ≠ _; rw [k]; decide)] at q
      exact q
  · exact e0.hok.fresh (Nat.le_of_lt (x.above y c (PySem.mem_of_lookup h)))
  · unfold start
    show _ = N.length
    rw [List.length_append, List.length_map, List.length_replicate]
    omega
theorem fn_of {CX : CXT} {P : Program} {w : World} {K : PySem.W.Frag} {mg : Str → Option Value} {base : Heap} {k : Nat} {f : Addr} {name qual : Str} {params : Arguments} {body : List Stmt} {scope : Scope} {dV kV doc pm cdv ct oc : Value} {an od : Option Addr}
    {osl : Array (Option Value)} {N ps : List Str} {sp : Sp} (lk : K.lookup f = some ⟨oc, od, .func (PySem.W.fnOf name qual params body scope dV kV doc pm an cdv ct), osl⟩) (hcd : PySem.W.codeIn K cdv qual = true) (S : FnScope N ps scope)
    (len : ∀ vs H Q E, sp vs H Q E → vs.length = ps.length)
    (hbody : ∀ (A : Around) (outer : List Env) (s : Shared) (H : Hp) (vs : List V) (Q : VK) (E : XK), Room k (A.deeper (envOfC qual scope s.heap.objs.size f cdv)) → sp vs H Q E →
      ∃ t, PSs (cxOf CX P w K mg base N qual scope f cdv A outer s H E) body t ∧ t { nx := fun _ H' => Q .non H', rt := Q } (start N vs) H) :
    FnOk P w K mg base CX (k + 1) f (PySem.W.fnOf name qual params body scope dV kV doc pm an cdv ct) ps sp := by
  refine ⟨len, fun A outer s H args us vs Q E hr e0 hb r hsp => ?_⟩
  have hl := len _ _ _ _ hsp
  have KX : K.In s.heap := e0.mod.kin.keeps fun b o e => (e0.bs b o e).1
  have lim : s.heap.NoLimit := e0.mod.nolimit.keeps fun b o e => (e0.bs b o e).1
  have hkind : ∀ y ∈ ps.zip us, scope.names.lookup y.1 = some .local ∨ (scope.names.lookup y.1 = some .cell ∧ ((cellsFrom (s.heap.objs.size + 1) scope.names []).lookup y.1).isSome = true) := fun ⟨n, v⟩ hy => by
    rcases S.par n (List.of_mem_zip hy).1 with q | q
    · exact .inl q
    · exact .inr ⟨q, PySem.W.cellsFrom_some _ _ _ (.inl q)⟩
  refine codeAny_call_function hr.depth (KX _ _ lk) rfl S.co S.gen rfl (PySem.W.codeRec_of KX hcd) (hb _ _ _ _ ?_)
  refine wpAny_newFunctionEnv_cells S.kind hkind fun env he s1 x => ?_
  subst he
  refine ⟨lim.keeps x.toInCall.keep, codeAny_func ?_⟩
  obtain ⟨t, ht, hq⟩ := hbody A outer s H vs Q E (hr.deeper _) hsp
  have I : Inv (cxOf CX P w K mg base N qual scope f cdv A outer s H E) [] (start N vs) H s1 := inv_start S hr.hd e0 hl r x
  refine wpAny_mono (ht [] s1 (start N vs) H _ I hq) (fun fl s' hs => ?_) fun e s' hs => hs
  have fin : ∀ {σ' : St} {H' : Hp} {v : V} {u : Value}, Inv (cxOf CX P w K mg base N qual scope f cdv A outer s H E) [] σ' H' s' → RelV v u → Q v H' → CE outer P w H s Q u s' :=
    fun {σ' H' v u} J rv q => ⟨v, H', J.os, J.bare, J.base, J.hok, rv, q⟩
  cases fl with
  | ret u =>
    obtain ⟨v, σ', H', J, rv, q⟩ := hs
    exact fin J rv q
  | next =>
    obtain ⟨σ', H', J, q⟩ := hs
    exact fin (v := V.non) (u := Value.none) J rfl q
  | brk =>
    obtain ⟨_, _, _, q⟩ := hs
    exact False.elim q
  | cont =>
    obtain ⟨_, _, _, q⟩ := hs
    exact False.elim q
end L2
namespace L2
open PySem PySem.Spec PyProof.Rows
section
variable {X : Cx} {x : Str} {p pos : Pos} {e : Expr} {es : List Expr} {t : TA} {id T : String} {r : List V → Hp → VK → Prop}
def tCB (r : List V → Hp → VK → Prop) (t : TA) : TE := fun σ H Q => t σ H fun vs H1 => r vs H1 Q
theorem pe_callB (hc : CallR X (.builtin id) r) (hg : Gl X x) (hm : X.mg x = none) (hv : bootBuiltins x = some (.builtin id)) (ha : PA X (e :: es) t) (hn : x ≠ "__name__" := by decide) (hdb : (x == ("__debug__" : Str)) = false := by decide)
    (he : starEach (e :: es) X.env = (false, eval e X.env) :: starEach es X.env := by rfl) (hpl : (backTo pos (starEach es X.env)).any (·.1) = false := by rfl) : PE X (.Call (.Name x p) (e :: es) [] pos) (tCB r t) := by
  intro pins s σ H Q I h
  refine wpAny_Call_Name_kw (ld_blt I hg hm hv ?_ hn hdb)
  exact PyProof.Rows.callWith_builtin1 (thn (ha pos pins s σ H _ I h) fun us s1 ⟨vs, H1, I1, r1, q1⟩ => hc pins s1 σ H1 vs us Q I1 r1 q1) he hpl
theorem pe_callTy (hc : CallR X (.type T) r) (hg : Gl X x) (hm : X.mg x = none) (hv : bootBuiltins x = some (.type T)) (ha : PA X (e :: es) t) (hn : x ≠ "__name__" := by decide) (hdb : (x == ("__debug__" : Str)) = false := by decide)
    (he : starEach (e :: es) X.env = (false, eval e X.env) :: starEach es X.env := by rfl) (hpl : (backTo pos (starEach es X.env)).any (·.1) = false := by rfl) : PE X (.Call (.Name x p) (e :: es) [] pos) (tCB r t) := by
  intro pins s σ H Q I h
  refine wpAny_Call_Name_kw (ld_blt I hg hm hv ?_ hn hdb)
  exact PyProof.Rows.callWith_type1 (thn (ha pos pins s σ H _ I h) fun us s1 ⟨vs, H1, I1, r1, q1⟩ => hc pins s1 σ H1 vs us Q I1 r1 q1) he hpl
end
end L2
namespace HT
open PySem PyProof.Rows
def lexLt : List Int → List Int → Bool
  | [], [] => false
  | [], _ :: _ => true
  | _ :: _, [] => false
  | x :: xs, y :: ys => if x = y then lexLt xs ys else decide (x < y)
section
open PySem.SeqAt
open PySem.AutoSeq1 (wpAny_loadPart')
open PySem.MeetsSeq PySem.MeetsSeq2 PySem.MeetsSeq3
end
section
variable {prog : Program} {w : World} {A : Around} {E : Value → Shared → Prop} {s : Shared}
theorem cat_tup {t b : Addr} {vs ws : List Value} {Q : Value → Shared → Prop} (ht : IsTup s.heap t vs.toArray) (hb : IsTup s.heap b ws.toArray) (hv : vs ≠ [])
    (h1 : ws = [] → Q (.ref t) s) (h2 : ws ≠ [] → Q (.ref s.heap.objs.size) { s with heap := s.heap.push { cls := .type "tuple", data := .seq (vs ++ ws).toArray } })
    (hsz : vs.length + ws.length ≤ sizeLine) : wpAny (model prog w) A (binaryOp .Add (.ref t) (.ref b)) Q E s := by
  obtain ⟨⟨cls, dd, data, sl⟩, ho, hc, n, hd⟩ := id ht
  obtain ⟨⟨cls2, dd2, data2, sl2⟩, ho2, hc2, n2, hd2⟩ := id hb
  simp only at hc hd hc2 hd2
  subst hc hd hc2 hd2
  have e : vs.toArray ++ ws.toArray = (vs ++ ws).toArray := by simp
  by_cases hw : ws = []
  · exact concat_meets ⟨_, ho, rfl⟩ ⟨_, ho2, rfl⟩ noFill_tuple_add seq_tuple_add PySem.F.slot_tuple_add PySem.F.entry_tuple_add (PySem.F.args_tuple_add_2 _ _)
      (tuple_addW1 t b vs.toArray ws.toArray n n2 dd dd2 sl sl2 (by simpa using hv) (by simp [hw])) ⟨ho, ho2, h1 hw⟩
  · refine concat_meets ⟨_, ho, rfl⟩ ⟨_, ho2, rfl⟩ noFill_tuple_add seq_tuple_add PySem.F.slot_tuple_add PySem.F.entry_tuple_add (PySem.F.args_tuple_add_2 _ _)
      (tuple_addW2 t b vs.toArray ws.toArray n n2 dd dd2 sl sl2 (by simpa using hv) (by simpa using hw) (by rw [List.size_toArray, List.size_toArray]; exact hsz)) ⟨ho, ho2, ?_⟩
    rw [e]
    exact h2 hw
def sIx (n d : Nat) : Option Int → Nat
  | none => d
  | some v => if v < 0 then (v + (n : Int)).toNat else min v.toNat n
theorem sIx_none (n d : Nat) : sIx n d none = d := rfl
theorem sIx_nat (n d k : Nat) : sIx n d (some (k : Int)) = min k n := by
  show (if (k : Int) < 0 then ((k : Int) + (n : Int)).toNat else min (k : Int).toNat n) = min k n
  rw [if_neg (by omega), Int.toNat_natCast]
theorem sIx_le (n d : Nat) (hd : d ≤ n) (o : Option Int) : sIx n d o ≤ n := by
  cases o with
  | none => exact hd
  | some v =>
    show (if v < 0 then (v + (n : Int)).toNat else min v.toNat n) ≤ n
    by_cases hv : v < 0
    · rw [if_pos hv]; omega
    · rw [if_neg hv]; exact Nat.min_le_right _ _
theorem clip_eq (v : Int) (n d : Nat) : (if v < 0 then max (v + (n : Int)) 0 else min v (n : Int)) = ((sIx n d (some v) : Nat) : Int) := by
  show (if v < 0 then max (v + (n : Int)) 0 else min v (n : Int)) = (((if v < 0 then (v + (n : Int)).toNat else min v.toNat n) : Nat) : Int)
  by_cases hv : v < 0
  · simp only [if_pos hv]; omega
  · simp only [if_neg hv]; omega
theorem adjust_gen (lo hi : Option Int) (n : Nat) : Builtin.Slice.sliceAdjust lo hi 1 (n : Int) = (((sIx n 0 lo : Nat) : Int), ((sIx n n hi : Nat) : Int)) := by
  have h1 : ¬ ((1 : Int) < 0) := by omega
  unfold Builtin.Slice.sliceAdjust
  simp only [h1, if_false]
  refine Prod.ext ?_ ?_
  · cases lo with
    | none => rfl
    | some v => exact clip_eq v n 0
  · cases hi with
    | none => rfl
    | some v => exact clip_eq v n n
theorem places_gen (i j : Nat) : Builtin.Slice.slicePlaces (i : Int) (j : Int) 1 = j - i := by
  unfold Builtin.Slice.slicePlaces
  have h1 : (1 : Int) > 0 := by omega
  simp only [h1, if_true, Int.ediv_one]
  split <;> omega
theorem slicePart_ {v : Value} {o : Option Int} {Q : Option Int → Shared → Prop} (p : IsPart v o) (h : Q o s) : wpAny (model prog w) A (Builtin.Slice.slicePartIndex v) Q E s := by
  cases p with
  | none => exact slicePart_none h
  | int i t => exact slicePart_int h
theorem sliceApplied_gen {sl : Addr} {vl vu : Value} {lo hi : Option Int} {n : Nat} {Q : Int × Int × Nat → Shared → Prop} (hs : s.heap.IsSliceOf sl vl vu .none) (pl : IsPart vl lo) (pu : IsPart vu hi)
    (h : Q (((sIx n 0 lo : Nat) : Int), 1, sIx n n hi - sIx n 0 lo) s) : wpAny (model prog w) A (Builtin.Slice.sliceApplied (.ref sl) (pure (n : Int))) Q E s := by
  obtain ⟨os, hos, hcs, hds⟩ := id hs
  unfold Builtin.Slice.sliceApplied Builtin.Slice.sliceFields
  refine wpAny_bind (wpAny_bind (wpAny_field hos hds (x := vl) rfl (wpAny_bind (wpAny_field hos hds (x := vu) rfl (wpAny_bind (wpAny_field hos hds (x := .none) rfl (wpAny_pure ?_)))))))
  refine wpAny_bind (slicePart_none ?_)
  show wpAny _ _ (if ((1 : Int) == 0) = true then _ else _) _ _ s
  rw [if_neg (by decide)]
  refine wpAny_bind (slicePart_ pl (wpAny_bind (slicePart_ pu (wpAny_bind (wpAny_pure ?_)))))
  show wpAny _ _ (match Builtin.Slice.sliceAdjust lo hi 1 (n : Int) with | (lo, hi) => pure (lo, (1 : Int), Builtin.Slice.slicePlaces lo hi 1)) _ _ s
  rw [adjust_gen lo hi n]
  show wpAny _ _ (pure (((sIx n 0 lo : Nat) : Int), (1 : Int), Builtin.Slice.slicePlaces ((sIx n 0 lo : Nat) : Int) ((sIx n n hi : Nat) : Int) 1)) _ _ s
  rw [places_gen]
  exact wpAny_pure h
theorem pick_gen (xs : Array Value) (i k : Nat) : ((List.range k).filterMap fun (m : Nat) => xs[((i : Int) + (m : Int) * 1).toNat]?).toArray = ((xs.toList.drop i).take k).toArray := by
  have e : (fun (m : Nat) => xs[((i : Int) + (m : Int) * 1).toNat]?) = fun m => xs[i + m]? := by
    funext m
    have : ((i : Int) + (m : Int) * 1).toNat = i + m := by omega
    rw [this]
  rw [e]
  have := pick_run xs i k
  rw [List.filterMap_map] at this
  have e2 : ((fun x => xs[x]?) ∘ fun x => i + x) = fun m => xs[i + m]? := rfl
  rw [e2] at this
  rw [this]
theorem getItem_tuple_cut {t sl : Addr} {items : Array Value} {vl vu : Value} {lo hi : Option Int} {Q : Value → Shared → Prop} (ht : IsTup s.heap t items) (hs : s.heap.IsSliceOf sl vl vu .none) (pl : IsPart vl lo) (pu : IsPart vu hi)
    (hw : ¬ (sIx items.size 0 lo = 0 ∧ sIx items.size items.size hi = items.size))
    (h : Q (.ref s.heap.objs.size) { s with heap := s.heap.push { cls := .type "tuple", data := .seq ((items.toList.drop (sIx items.size 0 lo)).take (sIx items.size items.size hi - sIx items.size 0 lo)).toArray } })
    (hsz : items.size ≤ sizeLine) : wpAny (model prog w) A (getItem (.ref t) (.ref sl)) Q E s := by
  have htake : sizeOk (.seq ((items.toList.drop (sIx items.size 0 lo)).take (sIx items.size items.size hi - sIx items.size 0 lo)).toArray) := by
    show ((items.toList.drop (sIx items.size 0 lo)).take (sIx items.size items.size hi - sIx items.size 0 lo)).toArray.size ≤ sizeLine
    rw [List.size_toArray, List.length_take, List.length_drop, Array.length_toList]
    omega
  have hj : sIx items.size items.size hi ≤ items.size := sIx_le _ _ (Nat.le_refl _) hi
  obtain ⟨os, hos, hcs, hds⟩ := id hs
  have hTs : s.TypeIs (.ref sl) "slice" := ⟨os, hos, hcs⟩
  unfold getItem
  try with_reducible refine wpAny_holding ?_
  first | refine wpAny_bind (wpAny_pure ?_) | skip
  refine wpAny_bind (wpAny_sequenceKey ht.typeIs (by decide) ?_)
  refine wpAny_bind (wpAny_callSpecial?_slot (name := Str.ofString "__getitem__") ht.typeIs PyProof.Rows.slot_tuple_getitem
    (wpAny_call_entry PyProof.Rows.slot_tuple_getitem ht.typeIs entry_tuple_getitem ?_ (args_tuple_getitem _ _)))
  show wpAny _ _ (Builtin.Tuple.tupleItemsOf (.ref t) >>= _) _ _ s
  refine wpAny_bind (tupleItemsOf_ ht ?_)
  refine wpAny_bind (wpAny_typeOf hTs ?_)
  rw [if_pos (by decide)]
  refine wpAny_bind (sliceApplied_gen hs pl pu ?_)
  have hno : ¬ ((((sIx items.size 0 lo : Nat) : Int) == 0 && (1 : Int) == 1 && (sIx items.size items.size hi - sIx items.size 0 lo) == items.size) = true) := by
    intro q
    rw [Bool.and_eq_true, Bool.and_eq_true] at q
    have q1 : ((sIx items.size 0 lo : Nat) : Int) = 0 := eq_of_beq q.1.1
    have q2 : sIx items.size items.size hi - sIx items.size 0 lo = items.size := eq_of_beq q.2
    exact hw ⟨by omega, by omega⟩
  show wpAny _ _ (if (((sIx items.size 0 lo : Nat) : Int) == 0 && (1 : Int) == 1 && (sIx items.size items.size hi - sIx items.size 0 lo) == items.size) = true then _ else _) _ _ s
  rw [if_neg hno, pick_gen]
  first
    | exact wpAny_bind (m := Builtin.Tuple.tupleExact _) (wpAny_newObj_type (wpAny_pure ⟨_, rfl, wpAny_pure h⟩) htake)
    | exact wpAny_bind (m := Builtin.Tuple.tupleExact _) (wpAny_newObj_type (wpAny_bind (wpAny_pure (wpAny_pure ⟨_, rfl, wpAny_pure h⟩))) htake)
    | exact wpAny_bind (wpAny_bind (m := Builtin.Tuple.tupleExact _) (wpAny_newObj_type (wpAny_pure (wpAny_pure ⟨_, rfl, wpAny_pure h⟩)) htake))
    | exact wpAny_bind (wpAny_bind (m := Builtin.Tuple.tupleExact _) (wpAny_newObj_type (wpAny_pure ⟨_, rfl, wpAny_pure h⟩) htake))
end
end HT
namespace L2
open PySem PySem.Spec PyProof.Rows
abbrev TO := St → Hp → (Option Int → Hp → Prop) → Prop
def PO (X : Cx) (e : Option Expr) (t : TO) : Prop :=
  ∀ (pins : List (Addr × Obj)) (s : Shared) (σ : St) (H : Hp) (Q : Option Int → Hp → Prop), Inv X pins σ H s → t σ H Q →
    wpAny (model X.prog X.w) X.A (evalPart e X.env) (fun u s' => ∃ o H', Inv X pins σ H' s' ∧ IsPart u o ∧ Q o H') X.xe s
def tNoPart : TO := fun _ H Q => Q none H
def tPart (t : TE) : TO := fun σ H Q => t σ H fun x H1 => ∃ i, x = .int i ∧ Q (some i) H1
section
variable {X : Cx} {e : Expr} {te : TE} {lo hi : Option Expr} {tl th : TO} {pos p2 : Pos}
theorem po_none : PO X none tNoPart := by
  intro pins s σ H Q I h
  rw [evalPart_none]
  exact wpAny_pure ⟨none, H, I, .none, h⟩
theorem po_some (h : PE X e te) : PO X (some e) (tPart te) := by
  intro pins s σ H Q I hw
  rw [evalPart_some]
  refine thn (h pins s σ H _ I hw) fun u s1 ⟨x, H1, I1, r1, q1⟩ => ?_
  obtain ⟨i, rfl, q⟩ := q1
  obtain ⟨t, rfl⟩ := r1
  exact ⟨some i, H1, I1, .int i t, q⟩
def SlR (X : Cx) (r : V → Option Int → Option Int → Hp → VK → Prop) : Prop :=
  ∀ (pins : List (Addr × Obj)) (s : Shared) (σ : St) (H : Hp) (x : V) (v vl vu : Value) (lo hi : Option Int) (sl : Addr) (Q : VK), Inv X pins σ H s → RelV x v → s.heap.IsSliceOf sl vl vu .none → IsPart vl lo → IsPart vu hi → r x lo hi H Q →
    ∃ T id, typeLookup (.type T) "__getitem__" = pure (some (.builtin id)) ∧ s.TypeIs v T ∧ wpAny (model X.prog X.w) X.A (getItem v (.ref sl)) (EP X pins σ Q) X.xe s
theorem SlR.or {r r' : V → Option Int → Option Int → Hp → VK → Prop} (h : SlR X r) (h' : SlR X r') : SlR X (fun x lo hi H Q => r x lo hi H Q ∨ r' x lo hi H Q) := by
  intro pins s σ H x v vl vu lo hi sl Q I rx hs pl pu q
  rcases q with q | q
  · exact h pins s σ H x v vl vu lo hi sl Q I rx hs pl pu q
  · exact h' pins s σ H x v vl vu lo hi sl Q I rx hs pl pu q
def tSl (r : V → Option Int → Option Int → Hp → VK → Prop) (te : TE) (tl th : TO) : TE := fun σ H Q => te σ H fun x H1 => tl σ H1 fun l H2 => th σ H2 fun u H3 => r x l u H3 Q
theorem pe_slice {r : V → Option Int → Option Int → Hp → VK → Prop} (hr : SlR X r) (he : PE X e te) (hl : PO X lo tl) (hu : PO X hi th) : PE X (.Subscript e (.Slice lo hi none p2) pos) (tSl r te tl th) := by
  intro pins s σ H Q I h
  refine Subscript_ (thn (he pins s σ H _ I h) fun v s1 ⟨x, H1, I1, r1, q1⟩ => ?_)
  refine wpAny_Slice (thn (hl pins s1 σ H1 _ I1 q1) fun vl s2 ⟨l, H2, I2, pl, q2⟩ => thn (hu pins s2 σ H2 _ I2 q2) fun vu s3 ⟨u, H3, I3, pu, q3⟩ => ?_)
  rw [evalPart_none]
  refine wpAny_pure ?_
  have I4 : Inv X pins σ H3 { s3 with heap := s3.heap.push { cls := .type "slice", data := .fields #[vl, vu, .none] } } := I3.kept (t' := s3.toks) fun b ob q => Heap.get?_push_of_some _ q
  obtain ⟨T, id, hT, ht, hg⟩ := hr pins { s3 with heap := s3.heap.push { cls := .type "slice", data := .fields #[vl, vu, .none] } } σ H3 x v vl vu l u s3.heap.objs.size Q I4 r1 (Heap.IsSliceOf.new ..) pl pu q3
  show wpAny (model X.prog X.w) X.A (subscriptTail e (.Slice lo hi none p2) v (.ref s3.heap.objs.size)) (EP X pins σ Q) X.xe { s3 with heap := s3.heap.push { cls := .type "slice", data := .fields #[vl, vu, .none] } }
  exact tail_any (ops := [.ref s3.heap.objs.size, v]) ht hT hg (by with_unfolding_all rfl)
def cutV (xs : List V) (lo hi : Option Int) : List V := (xs.drop (HT.sIx xs.length 0 lo)).take (HT.sIx xs.length xs.length hi - HT.sIx xs.length 0 lo)
theorem cutV_length (xs : List V) (lo hi : Option Int) : (cutV xs lo hi).length ≤ xs.length := by
  unfold cutV
  rw [List.length_take, List.length_drop]
  omega
def rSlT (K : PySem.W.Frag) : V → Option Int → Option Int → Hp → VK → Prop := fun x lo hi H Q => ∃ a xs, x = .ref a ∧ SqT K H a xs ∧
  ¬ (HT.sIx xs.length 0 lo = 0 ∧ HT.sIx xs.length xs.length hi = xs.length) ∧ ∀ p, H p = none → Q (.ref p) (upd H p (.tup (cutV xs lo hi)))
theorem sl_tup : SlR X (rSlT X.K) := by
  intro pins s σ H x v vl vu lo hi sl Q I rx hs pl pu h
  obtain ⟨a, xs, rfl, hx, hw, q⟩ := h
  cases rx
  obtain ⟨its, r, ht, hz⟩ := I.tuple hx
  have hlen : its.toArray.size = xs.length := by rw [List.size_toArray]; exact r.length.symm
  refine ⟨"tuple", _, PyProof.Rows.slot_tuple_getitem.lookup, ht.typeIs, ?_⟩
  refine HT.getItem_tuple_cut ht hs pl pu (by rw [hlen]; exact hw) ?_ (by rw [hlen]; exact hz)
  rw [hlen]
  refine ⟨.ref s.heap.objs.size, _, I.laid (t' := s.toks) (o := .tup (cutV xs lo hi)) (fun b ob q => Heap.get?_push_of_some _ q) (Nat.le_refl _) ?_, rfl, q _ (I.hok.fresh (Nat.le_refl _))⟩
  exact ⟨Nat.le_trans (cutV_length xs lo hi) hz, _, (r.drop (HT.sIx xs.length 0 lo)).take (HT.sIx xs.length xs.length hi - HT.sIx xs.length 0 lo), TupD.new _ _⟩
def rCatT (K : PySem.W.Frag) : R2 := fun x y H Q => ∃ a b xs ys, x = .ref a ∧ y = .ref b ∧ SqT K H a xs ∧ SqT K H b ys ∧ xs ≠ [] ∧ xs.length + ys.length ≤ sizeLine ∧
  (ys = [] → Q (.ref a) H) ∧ (ys ≠ [] → ∀ p, H p = none → Q (.ref p) (upd H p (.tup (xs ++ ys))))
theorem Vals.nil_iff {xs : List V} {us : List Value} (r : Vals xs us) : us = [] ↔ xs = [] := by
  cases r with
  | nil => simp
  | cons _ _ => simp
theorem op_catT : OpR X (binaryOp .Add) (rCatT X.K) := by
  intro pins s σ H x y v u Q I rx ry h
  obtain ⟨a, b, xs, ys, rfl, rfl, ha, hb, hx, hz, q1, q2⟩ := h
  cases rx
  cases ry
  obtain ⟨its, r1, p1, _⟩ := I.tuple ha
  obtain ⟨its2, r2, p2, _⟩ := I.tuple hb
  refine HT.cat_tup p1 p2 (fun z => hx (r1.nil_iff.mp z)) (fun z => ⟨.ref a, H, I, rfl, q1 (r2.nil_iff.mp z)⟩) (fun z => ?_) (by rw [← r1.length, ← r2.length]; exact hz)
  refine ⟨.ref s.heap.objs.size, _, I.laid (t' := s.toks) (o := .tup (xs ++ ys)) (fun b ob q => Heap.get?_push_of_some _ q) (Nat.le_refl _) ?_, rfl, q2 (fun w => z (r2.nil_iff.mpr w)) _ (I.hok.fresh (Nat.le_refl _))⟩
  exact ⟨by rw [List.length_append]; exact hz, _, r1.append r2, TupD.new _ _⟩
end
end L2
namespace L2
open PySem PySem.Spec PyProof.Rows
def ixN (n : Nat) (i : Int) : Option Nat := if 0 ≤ i then (if i < n then some i.toNat else none) else if -(n : Int) ≤ i then some (i + n).toNat else none
def atI {α : Type} (xs : List α) (i : Int) : Option α := (ixN xs.length i).bind fun j => xs[j]?
theorem ixN_seq {n : Nat} {i : Int} {j : Nat} (h : ixN n i = some j) : seqIndex? i n = some j ∧ j < n ∧ -(n : Int) ≤ i ∧ i < n := by
  unfold ixN at h
  by_cases h0 : 0 ≤ i
  · rw [if_pos h0] at h
    by_cases h1 : i < n
    · rw [if_pos h1] at h
      have e : i.toNat = j := Option.some.inj h
      exact ⟨by rw [seqIndex_of h0 h1, e], by omega, by omega, h1⟩
    · rw [if_neg h1] at h; cases h
  · rw [if_neg h0] at h
    by_cases h1 : -(n : Int) ≤ i
    · rw [if_pos h1] at h
      have e : (i + n).toNat = j := Option.some.inj h
      exact ⟨by rw [seqIndex_neg (by omega) h1, e], by omega, h1, by omega⟩
    · rw [if_neg h1] at h; cases h
theorem atI_get {α : Type} {xs : List α} {i : Int} {v : α} (h : atI xs i = some v) : ∃ j, seqIndex? i xs.length = some j ∧ xs[j]? = some v ∧ j < xs.length ∧ -(xs.length : Int) ≤ i ∧ i < xs.length := by
  unfold atI at h
  cases e : ixN xs.length i with
  | none => rw [e] at h; cases h
  | some j =>
    rw [e] at h
    obtain ⟨h1, h2, h3, h4⟩ := ixN_seq e
    exact ⟨j, h1, h, h2, h3, h4⟩
def PlainIx (b : Expr) : Prop := ∀ o i, subscripted b false o i = operate [o, i] (getItem o i)
def IxR (X : Cx) (r : R2) : Prop :=
  ∀ (value slice : Expr) (pins : List (Addr × Obj)) (s : Shared) (σ : St) (H : Hp) (x y : V) (v u : Value) (Q : VK), Inv X pins σ H s → RelV x v → RelV y u → r x y H Q →
    subscripted slice false v u = operate [v, u] (getItem v u) → wpAny (model X.prog X.w) X.A (subscriptTail value slice v u) (EP X pins σ Q) X.xe s
def MtR (X : Cx) (id : String) (r : V → List V → Hp → VK → Prop) : Prop :=
  ∀ (pins : List (Addr × Obj)) (s : Shared) (σ : St) (H : Hp) (x : V) (xs : List V) (v : Value) (us : List Value) (Q : VK), Inv X pins σ H s → RelV x v → Vals xs us → r x xs H Q →
    wpAny (model X.prog X.w) X.A (call (.builtin id) (v :: us)) (EP X pins σ Q) X.xe s
section
variable {X : Cx} {a b : Expr} {ta tb : TE} {pos : Pos}
theorem IxR.or {r r' : R2} (h : IxR X r) (h' : IxR X r') : IxR X (fun x y H Q => r x y H Q ∨ r' x y H Q) := by
  intro value slice pins s σ H x y v u Q I rx ry q hs
  rcases q with q | q
  · exact h value slice pins s σ H x y v u Q I rx ry q hs
  · exact h' value slice pins s σ H x y v u Q I rx ry q hs
theorem MtR.or {id : String} {r r' : V → List V → Hp → VK → Prop} (h : MtR X id r) (h' : MtR X id r') : MtR X id (fun x xs H Q => r x xs H Q ∨ r' x xs H Q) := by
  intro pins s σ H x xs v us Q I rx rs q
  rcases q with q | q
  · exact h pins s σ H x xs v us Q I rx rs q
  · exact h' pins s σ H x xs v us Q I rx rs q
theorem pe_ix {r : R2} (hr : IxR X r) (ha : PE X a ta) (hb : PE X b tb) (hs : PlainIx b) : PE X (.Subscript a b pos) (tOp r ta tb) := by
  intro pins s σ H Q I h
  exact Subscript_ (binT ha hb I h fun v u s2 x y H2 I2 rx ry q => hr a b pins s2 σ H2 x y v u Q I2 rx ry q (hs _ _))
def rIxL (K : PySem.W.Frag) : R2 := fun x y H Q => ∃ p xs i v, x = .ref p ∧ y = .int i ∧ SqL K H p xs ∧ atI xs i = some v ∧ Q v H
def rIxT (K : PySem.W.Frag) : R2 := fun x y H Q => ∃ p xs i v, x = .ref p ∧ y = .int i ∧ SqT K H p xs ∧ atI xs i = some v ∧ Q v H
def rIxS : R2 := fun x y H Q => ∃ z i c, x = .str z ∧ y = .int i ∧ z.length ≤ sizeLine ∧ atI z.cps.toList i = some c ∧ Q (.str ⟨#[c]⟩) H
theorem ix_list : IxR X (rIxL X.K) := by
  intro value slice pins s σ H x y v u Q I rx ry h hs
  obtain ⟨p, xs, i, z, rfl, rfl, hq, he, q⟩ := h
  cases rx
  obtain ⟨t, rfl⟩ := ry
  obtain ⟨its, r, pl, hz⟩ := I.list hq
  obtain ⟨j, h1, h2, h3, h4, h5⟩ := atI_get he
  obtain ⟨w, ew, rw'⟩ := r.get h2
  have hl := r.length
  have hn := line63
  have fin : EP X pins σ Q w s := ⟨z, H, I, rw', q⟩
  by_cases h0 : 0 ≤ i
  · have hj : i.toNat = j := by
      rw [seqIndex_of h0 h5] at h1
      exact Option.some.inj h1
    exact item_listR pl.isList h0 (by omega) (by rw [hj]; simpa using ew) fin hs
  · have hj : (i + (its.toArray.size : Int)).toNat = j := by
      rw [seqIndex_neg (by omega) h4] at h1
      rw [List.size_toArray, ← hl]
      exact Option.some.inj h1
    exact subscriptTail_builtinR (x := w) pl.isList.typeIs slot_list_getitem.lookup
      (wpAny_getItem_list_neg (Q := fun r s' => r = w ∧ EP X pins σ Q r s') pl.isList (by omega) (by rw [List.size_toArray] <;> omega) (by omega) (by rw [hj]; simpa using ew) ⟨rfl, fin⟩) hs
theorem ix_tup : IxR X (rIxT X.K) := by
  intro value slice pins s σ H x y v u Q I rx ry h hs
  obtain ⟨p, xs, i, z, rfl, rfl, hq, he, q⟩ := h
  cases rx
  obtain ⟨t, rfl⟩ := ry
  obtain ⟨its, r, pl, hz⟩ := I.tuple hq
  obtain ⟨j, h1, h2, h3, h4, h5⟩ := atI_get he
  obtain ⟨w, ew, rw'⟩ := r.get h2
  have hl := r.length
  have hn := line63
  have fin : EP X pins σ Q w s := ⟨z, H, I, rw', q⟩
  exact subscriptTail_builtinR (x := w) pl.typeIs slot_tuple_getitem.lookup
    (getItem_tuple (j := j) (Q := fun r s' => r = w ∧ EP X pins σ Q r s') pl (by omega) (by omega) (by rw [List.size_toArray, ← hl]; exact h1) (by simpa using ew) ⟨rfl, fin⟩) hs
theorem ix_str : IxR X rIxS := by
  intro value slice pins s σ H x y v u Q I rx ry h hs
  obtain ⟨z, i, c, rfl, rfl, hz, he, q⟩ := h
  obtain ⟨t, rfl⟩ := rx
  obtain ⟨t', rfl⟩ := ry
  obtain ⟨j, h1, h2, h3, h4, h5⟩ := atI_get he
  have hl : z.cps.toList.length = z.length := by simp [Str.length]
  rw [hl] at h1 h4 h5
  have hn := line63
  exact tail_any (typeIs_str s z t) slot_str_getitem.lookup (getItem_str (c := c) (by
    have e1 : decide (i < -(2 ^ 63 : Int)) = false := decide_eq_false (by omega)
    have e2 : decide (i ≥ 2 ^ 63) = false := decide_eq_false (by omega)
    rw [e1, e2, Bool.or_false]) (by rw [h1]; simpa using h2) ⟨.str ⟨#[c]⟩, H, I.tok _, ⟨_, rfl⟩, q⟩) hs
def rIx (K : PySem.W.Frag) : R2 := fun x y H Q => rIxL K x y H Q ∨ rIxT K x y H Q ∨ rIxS x y H Q
theorem ix_seq : IxR X (rIx X.K) := ix_list.or (ix_tup.or ix_str)
theorem mapSeq_set (its : List Value) (n j : Nat) (u : Value) : Obj.mapSeq (·.setIfInBounds j u) { cls := .type "list", data := .seq its.toArray n } = { cls := .type "list", data := .seq (its.set j u).toArray n } := by
  simp [Obj.mapSeq]
theorem Inv.lst {pins : List (Addr × Obj)} {σ : St} {H : Hp} {s : Shared} {p : Addr} {xs : List V} (I : Inv X pins σ H s) (h : H p = some (.lst xs)) :
    ∃ (its : List Value) (n : Nat), Vals xs its ∧ s.heap.get? p = some { cls := .type "list", data := .seq its.toArray n } ∧ xs.length ≤ sizeLine := by
  obtain ⟨z, its, n, r, e⟩ := I.hok p _ h
  exact ⟨its, n, r, e, z⟩
theorem Inv.lstUpd {pins : List (Addr × Obj)} {σ : St} {H : Hp} {s : Shared} {p : Addr} {xs ys : List V} {its its' : List Value} {n n' : Nat} {f : Obj → Obj} (I : Inv X pins σ H s) (h : H p = some (.lst xs))
    (ho : s.heap.get? p = some { cls := .type "list", data := .seq its.toArray n }) (hf : f { cls := .type "list", data := .seq its.toArray n } = { cls := .type "list", data := .seq its'.toArray n' }) (r : Vals ys its') (hz : ys.length ≤ sizeLine) (t : Nat) :
    Inv X pins σ (upd H p (.lst ys)) { s with heap := s.heap.update p f, toks := t } := by
  have e : (s.heap.update p f).get? p = some { cls := .type "list", data := .seq its'.toArray n' } := by
    rw [Heap.get?_update_self f ho (by rw [hf] <;> rfl), hf]
  refine I.write (x := p) (e := p) (by rw [h]; trivial) (.inl rfl) (fun b u hb q => (Heap.get?_update_other _ _ (Ne.symm hb)).trans q) ⟨_, e⟩ ?_
  exact ⟨hz, its', n', r, e⟩
def rSetL : V → V → V → Hp → (Hp → Prop) → Prop := fun o i v H Q => ∃ p xs k j, o = .ref p ∧ i = .int k ∧ H p = some (.lst xs) ∧ ixN xs.length k = some j ∧ Q (upd H p (.lst (xs.set j v)))
theorem set_list : PSet X rSetL := by
  intro pins s σ H o i v ov iv u Q I ro ri rv h
  obtain ⟨p, xs, k, j, rfl, rfl, hp, hj, q⟩ := h
  cases ro
  obtain ⟨t, rfl⟩ := ri
  obtain ⟨its, n, r, ho, hz⟩ := I.lst hp
  obtain ⟨h1, h2, h3, h4⟩ := ixN_seq hj
  have hl := r.length
  have hn := line63
  have I' : Inv X pins σ (upd H p (.lst (xs.set j v))) { s with heap := s.heap.update p (Obj.mapSeq (·.setIfInBounds j u)) } :=
    I.lstUpd hp ho (mapSeq_set its n j u) (r.set rv j) (by rw [List.length_set]; exact hz) s.toks
  by_cases h0 : 0 ≤ k
  · have hk : k.toNat = j := by
      rw [seqIndex_of h0 h4] at h1
      exact Option.some.inj h1
    exact PySem.W.ki_setAt ho h0 (by omega) (by rw [List.size_toArray, ← hl]; exact h4) (by rw [hk]; exact ⟨_, I', q⟩)
  · have hk : (k + (its.toArray.size : Int)).toNat = j := by
      rw [seqIndex_neg (by omega) h3] at h1
      rw [List.size_toArray, ← hl]
      exact Option.some.inj h1
    exact PySem.W.ki_setBack ho (by omega) (by rw [List.size_toArray, ← hl]; exact h3) (by omega) (by rw [hk]; exact ⟨_, I', q⟩)
theorem slice_bounds (lo hi : Option Int) (n : Nat) : (sliceBounds lo hi none n).1 = ((HT.sIx n 0 lo : Nat) : Int) ∧ (sliceBounds lo hi none n).2.1 = ((HT.sIx n n hi : Nat) : Int) ∧ (sliceBounds lo hi none n).2.2 = 1 := by
  refine ⟨?_, ?_, rfl⟩
  · cases lo with
    | none => simp [sliceBounds, HT.sIx]
    | some i =>
      simp only [sliceBounds, HT.sIx, Option.getD_none, show (1 : Int) > 0 by decide, if_true]
      by_cases h : i < 0
      · simp only [h, if_true] <;> omega
      · simp only [h, if_false] <;> omega
  · cases hi with
    | none => simp [sliceBounds, HT.sIx]
    | some i =>
      simp only [sliceBounds, HT.sIx, Option.getD_none, show (1 : Int) > 0 by decide, if_true]
      by_cases h : i < 0
      · simp only [h, if_true] <;> omega
      · simp only [h, if_false] <;> omega
theorem slicePick_cut (its : List Value) (lo hi : Option Int) : slicePick its.toArray lo hi none = ((its.drop (HT.sIx its.length 0 lo)).take (HT.sIx its.length its.length hi - HT.sIx its.length 0 lo)).toArray := by
  obtain ⟨h1, h2, h3⟩ := slice_bounds lo hi its.toArray.size
  unfold slicePick
  rw [h1, h2, h3]
  simp only [sliceRange_one, pick_run, List.size_toArray] <;> rfl
def rSlL (K : PySem.W.Frag) : V → Option Int → Option Int → Hp → VK → Prop := fun x lo hi H Q => ∃ a xs, x = .ref a ∧ SqL K H a xs ∧ ∀ p, H p = none → Q (.ref p) (upd H p (.lst (cutV xs lo hi)))
theorem sl_list : SlR X (rSlL X.K) := by
  intro pins s σ H x v vl vu lo hi sl Q I rx hs pl pu h
  obtain ⟨a, xs, rfl, hx, q⟩ := h
  cases rx
  obtain ⟨its, r, ht, hz⟩ := I.list hx
  have hlen := r.length
  refine ⟨"list", _, slot_list_getitem.lookup, ht.isList.typeIs, ?_⟩
  refine wpAny_getItem_list_slice ht.isList hs pl pu .none (by simp) ?_ (by rw [List.size_toArray] <;> omega)
  rw [slicePick_cut, ← hlen]
  refine ⟨.ref s.heap.objs.size, _, I.laid (t' := s.toks) (o := .lst (cutV xs lo hi)) (fun b ob q => Heap.get?_push_of_some _ q) (Nat.le_refl _) ?_, rfl, q _ (I.hok.fresh (Nat.le_refl _))⟩
  exact ⟨Nat.le_trans (cutV_length xs lo hi) hz, _, 0, (r.drop (HT.sIx xs.length 0 lo)).take (HT.sIx xs.length xs.length hi - HT.sIx xs.length 0 lo), Heap.get?_push_size _ rfl⟩
theorem CallR.or {f : Value} {r r' : List V → Hp → VK → Prop} (h : CallR X f r) (h' : CallR X f r') : CallR X f (fun xs H Q => r xs H Q ∨ r' xs H Q) := by
  intro pins s σ H xs us Q I rs q
  rcases q with q | q
  · exact h pins s σ H xs us Q I rs q
  · exact h' pins s σ H xs us Q I rs q
theorem call_list_of : CallR X (.type "list") (fun xs H Q => ∃ p ys, xs = [.ref p] ∧ (SqL X.K H p ys ∨ SqT X.K H p ys) ∧ ∀ l, H l = none → Q (.ref l) (upd H l (.lst ys))) := by
  intro pins s σ H xs us Q I r h
  obtain ⟨p, ys, rfl, hq, q⟩ := h
  obtain ⟨u, rfl, rx⟩ := vals1 r
  cases rx
  have fin : ∀ (its : List Value), Vals ys its → ys.length ≤ sizeLine → ∀ (h' : Heap) (c' : Nat), (∀ b o', s.heap.get? b = some o' → h'.get? b = some o') →
      h'.get? s.heap.objs.size = some { cls := .type "list", dict := none, data := .seq its.toArray c', slots := #[] } → EP X pins σ Q (.ref s.heap.objs.size) { s with heap := h' } := fun its r' hz h' c' kp e =>
    ⟨.ref s.heap.objs.size, _, I.laid (t' := s.toks) kp (Nat.le_refl _) (show ObjOk X.prog X.w _ h' _ (.lst ys) from ⟨hz, its, c', r', e⟩), rfl, q _ (I.hok.fresh (Nat.le_refl _))⟩
  rcases hq with hq | hq
  · obtain ⟨its, r', pl, hz⟩ := I.list hq
    have hlen := r'.length
    obtain ⟨o, ho, hc, n, hd⟩ := pl.isList
    exact call_list_seq p (.inl rfl) ho hc hd (fun h' c' kp e => fin its r' hz h' c' kp e) (by simp only [List.size_toArray] <;> omega)
  · obtain ⟨its, r', pl, hz⟩ := I.tuple hq
    have hlen := r'.length
    obtain ⟨o, ho, hc, n, hd⟩ := pl
    exact call_list_seq p (.inr rfl) ho hc hd (fun h' c' kp e => fin its r' hz h' c' kp e) (by simp only [List.size_toArray] <;> omega)
theorem call_tuple_of : CallR X (.type "tuple") (fun xs H Q => ∃ p ys, xs = [.ref p] ∧ ((SqL X.K H p ys ∧ ∀ l, H l = none → Q (.ref l) (upd H l (.tup ys))) ∨ (SqT X.K H p ys ∧ Q (.ref p) H))) := by
  intro pins s σ H xs us Q I r h
  obtain ⟨p, ys, rfl, h⟩ := h
  obtain ⟨u, rfl, rx⟩ := vals1 r
  cases rx
  rcases h with ⟨hq, q⟩ | ⟨hq, q⟩
  · obtain ⟨its, r', pl, hz⟩ := I.list hq
    have hlen := r'.length
    refine call_tuple_list pl.isList (fun h' kp => ?_) (by simp only [List.size_toArray] <;> omega)
    have I1 : Inv X pins σ H { s with heap := h' } := I.kept (t' := s.toks) kp
    have I2 : Inv X pins σ (upd H h'.objs.size (.tup ys)) { s with heap := h'.push { cls := .type "tuple", data := .seq its.toArray } } :=
      I1.laid (t' := s.toks) (fun b o e => Heap.get?_push_of_some _ e) (Nat.le_refl _) (show ObjOk X.prog X.w _ _ _ (.tup ys) from ⟨hz, its, r', TupD.new _ _⟩)
    exact ⟨.ref h'.objs.size, _, I2, rfl, q _ (I1.hok.fresh (Nat.le_refl _))⟩
  · obtain ⟨its, r', pl, hz⟩ := I.tuple hq
    exact call_tuple_same pl ⟨.ref p, H, I, rfl, q⟩
def tyV (K : PySem.W.Frag) (T : String) (x : V) (H : Hp) : Prop := match x with
  | .str _ => T = "str"
  | .int _ => T = "int"
  | .ref p => (T = "list" ∧ ∃ xs, SqL K H p xs) ∨ (T = "tuple" ∧ ∃ o, K.lookup p = some o ∧ o.cls = .type "tuple" ∧ o.dict = none) ∨
      (T = "dict" ∧ ((∃ kvs, H p = some (.dK kvs)) ∨ ∃ kvs, H p = some (.dT kvs))) ∨ (T = "set" ∧ ∃ S n, H p = some (.set S n))
  | _ => False
theorem tyV_is {pins : List (Addr × Obj)} {σ : St} {H : Hp} {s : Shared} {T : String} {x : V} {v : Value} (I : Inv X pins σ H s) (r : RelV x v) (ty : tyV X.K T x H) :
    s.TypeIs v T ∧ ∀ a, v = .ref a → ∃ ob, s.heap.get? a = some ob ∧ ob.dict = none := by
  cases x with
  | str z =>
    obtain ⟨t, rfl⟩ := r
    cases (show T = "str" from ty)
    exact ⟨typeIs_str s z t, fun _ e => nomatch e⟩
  | int i =>
    obtain ⟨t, rfl⟩ := r
    cases (show T = "int" from ty)
    exact ⟨typeIs_int s i t, fun _ e => nomatch e⟩
  | ref p =>
    cases r
    rcases ty with ⟨rfl, xs, hq⟩ | ⟨rfl, o, hk, hc, hd⟩ | ⟨rfl, hk⟩ | ⟨rfl, S, n, hk⟩
    · obtain ⟨its, _, pl, _⟩ := I.list hq
      refine ⟨pl.isList.typeIs, fun a e => ?_⟩
      cases e
      obtain ⟨o, n, e, c, hd, _⟩ := pl
      exact ⟨o, e, hd⟩
    · refine ⟨⟨o, I.kIn p o hk, hc⟩, fun a e => ?_⟩
      cases e
      exact ⟨o, I.kIn _ o hk, hd⟩
    · have z : ∃ o, s.heap.get? p = some o ∧ o.ExactDict := by
        rcases hk with ⟨kvs, hk⟩ | ⟨kvs, hk⟩
        · obtain ⟨_, _, _, _, o, _, _, e, ex, _⟩ := I.hok p _ hk
          exact ⟨o, e, ex⟩
        · obtain ⟨_, _, _, _, o, _, _, e, ex, _⟩ := I.hok p _ hk
          exact ⟨o, e, ex⟩
      obtain ⟨o, e, ex⟩ := z
      refine ⟨⟨o, e, ex.1⟩, fun a e2 => ?_⟩
      cases e2
      exact ⟨o, e, ex.2.1⟩
    · obtain ⟨o, _, _, _, e, ex, _⟩ := I.hok p _ hk
      refine ⟨⟨o, e, ex.1⟩, fun a e2 => ?_⟩
      cases e2
      exact ⟨o, e, ex.2.1⟩
  | _ => exact False.elim ty
def tBM (K : PySem.W.Frag) (T : String) (r : V → List V → Hp → VK → Prop) (to : TE) (t : TA) : TE := fun σ H Q => to σ H fun x H1 => tyV K T x H1 ∧ t σ H1 fun xs H2 => r x xs H2 Q
variable {o e : Expr} {es : List Expr} {to : TE} {t : TA} {name : Str} {apos cpos : Pos} {T id : String} {r : V → List V → Hp → VK → Prop}
theorem pe_bm (pa : PlainAttrs T) (slot : Slot T name id) (hty : typeOf (.builtin id) = pure (.type "method_descriptor")) (hm : MtR X id r) (ho : PE X o to) (ha : PA X (e :: es) t)
    (hbase : attributeBase o name X.env (eval o X.env) = eval o X.env := by rfl)
    (hfew : ((backTo cpos (starEach (e :: es) X.env)).all (fun x => !x.1) && (backToKw cpos (keywordEach [] X.env)).all (fun x => x.1.isSome)
      && decide ((e :: es).length + ([] : List Keyword).length + (if ([] : List Keyword).isEmpty then 0 else 1) < 30)) = true := by rfl)
    (hline : (apos.endLine == cpos.line) = true := by rfl) (hs : starEach (e :: es) X.env = (false, eval e X.env) :: starEach es X.env := by rfl) (hplain : (backTo cpos (starEach es X.env)).any (·.1) = false := by rfl) :
    PE X (.Call (.Attribute o name apos) (e :: es) [] cpos) (tBM X.K T r to t) := by
  intro pins s σ H Q I h
  refine wpAny_Call_method_late hbase hfew hline rfl (thn (ho pins s σ H _ I h) fun v s1 ⟨x, H1, I1, r1, ty, q1⟩ => ?_)
  obtain ⟨h1, h2⟩ := tyV_is I1 r1 ty
  refine ⟨T, id, pa, slot, hty, h1, h2, ?_⟩
  have hA := ha cpos pins s1 σ H1 _ I1 q1
  rw [hs] at hA ⊢
  refine Calls.callWith_builtin (by show (false || (backTo cpos (starEach es X.env)).any (·.1)) = false; rw [hplain] <;> rfl) (Calls.evalArgs_plain ?_)
  exact thn hA fun us s2 ⟨vs, H2, I2, r2, q2⟩ => hm pins s2 σ H2 x vs v us Q I2 r1 r2 q2
end
end L2
namespace L2
open PySem PySem.Spec PyProof.Rows
def MtM (X : Cx) (id : String) (r : V → List V → Hp → VK → Prop) : Prop :=
  ∀ (pins : List (Addr × Obj)) (s : Shared) (σ : St) (H : Hp) (x : V) (xs : List V) (v : Value) (us : List Value) (Q : VK), Inv X pins σ H s → RelV x v → Vals xs us → r x xs H Q →
    wpAny (model X.prog X.w) X.A (call (.builtin id) (v :: us)) (EP X pins σ Q) X.xe s
theorem Vals.one : ∀ {x : V} {us : List Value}, Vals [x] us → ∃ u, us = [u] ∧ RelV x u
  | _, _, .cons r .nil => ⟨_, rfl, r⟩
theorem Vals.two : ∀ {x y : V} {us : List Value}, Vals [x, y] us → ∃ u v, us = [u, v] ∧ RelV x u ∧ RelV y v
  | _, _, _, .cons r (.cons q .nil) => ⟨_, _, rfl, r, q⟩
theorem Vals.zero : ∀ {us : List Value}, Vals [] us → us = []
  | _, .nil => rfl
theorem Vals.dropLast {xs : List V} {us : List Value} (h : Vals xs us) : Vals xs.dropLast us.dropLast := by
  induction h with
  | nil => exact .nil
  | cons r t ih =>
    cases t with
    | nil => exact .nil
    | cons q t' => exact .cons r ih
theorem Vals.reverse {xs : List V} {us : List Value} (h : Vals xs us) : Vals xs.reverse us.reverse := by
  induction h with
  | nil => exact .nil
  | cons r t ih => rw [List.reverse_cons, List.reverse_cons]; exact Vals.append ih (.cons r .nil)
section
variable {X : Cx} {pins : List (Addr × Obj)} {σ : St} {H : Hp} {s : Shared} {l b : Addr} {xs ys zs : List V}
theorem Inv.lset {its its' : List Value} {n : Nat} {f : Array Value → Array Value} {t' : Nat} (I : Inv X pins σ H s) (hH : H l = some (.lst xs))
    (e : s.heap.get? l = some { cls := .type "list", data := .seq its.toArray n }) (hf : f its.toArray = its'.toArray) (hv : Vals ys its') (hz : ys.length ≤ sizeLine) :
    Inv X pins σ (upd H l (.lst ys)) { s with heap := s.heap.update l (Obj.mapSeq f), toks := t' } := by
  have q := PySem.IsL.update e f
  rw [hf] at q
  refine I.write (x := l) (e := l) (by rw [hH]; exact trivial) (.inl rfl) (fun b' u hb hu => (Heap.get?_update_other s.heap (Obj.mapSeq f) (Ne.symm hb)).trans hu) ⟨_, q⟩ ?_
  exact ⟨hz, its', _, hv, q⟩
theorem Inv.lnew {its : List Value} {t' : Nat} (I : Inv X pins σ H s) (hv : Vals ys its) (hz : ys.length ≤ sizeLine) :
    Inv X pins σ (upd H s.heap.objs.size (.lst ys)) { s with heap := s.heap.push { cls := .type "list", data := .seq its.toArray }, toks := t' } :=
  I.laid (fun _ _ q => Heap.get?_push_of_some _ q) (Nat.le_refl _) ⟨hz, its, 0, hv, Heap.get?_push_size _ rfl⟩
theorem Inv.fresh (I : Inv X pins σ H s) : H s.heap.objs.size = none := I.hok.fresh (Nat.le_refl _)
theorem Inv.lstM (I : Inv X pins σ H s) (hH : H l = some (.lst xs)) : xs.length ≤ sizeLine ∧ ∃ (its : List Value) (n : Nat), Vals xs its ∧ xs.length = its.length ∧ s.heap.get? l = some { cls := .type "list", data := .seq its.toArray n } := by
  obtain ⟨z, its, n, r, e⟩ := I.hok l _ hH
  exact ⟨z, its, n, r, r.length, e⟩
end
section
variable {X : Cx}
def rAppend : V → List V → Hp → VK → Prop := fun x vs H Q => ∃ l xs y, x = .ref l ∧ vs = [y] ∧ H l = some (.lst xs) ∧ xs.length < sizeLine ∧ Q .non (upd H l (.lst (xs ++ [y])))
theorem mt_append : MtM X "list.append" rAppend := by
  intro pins s σ H x vs v us Q I rx rv h
  obtain ⟨l, xs, y, rfl, rfl, hH, hz, q⟩ := h
  cases rx
  obtain ⟨u, rfl, ru⟩ := rv.one
  obtain ⟨z, its, n, r, hl, e⟩ := I.lstM hH
  refine call_meets F.slot_list_append ⟨_, e, rfl⟩ F.entry_list_append (F.args_list_append_2 _ _) (PySem.list_append l its.toArray n u (by rw [List.size_toArray]; omega)) ⟨e, ?_⟩
  refine ⟨.non, _, I.lset (its' := its ++ [u]) hH e (by simp) (r.append (.cons ru .nil)) ?_, rfl, q⟩
  rw [List.length_append, List.length_singleton]
  omega
end
end L2
namespace L2
open PySem PySem.Spec PyProof.Rows
theorem Vals.ints : ∀ {ns : List Int} {us : List Value}, Vals (ns.map V.int) us → IntsAre us ns
  | [], us, h => by
    rw [List.map_nil] at h
    cases h
    exact IntsAre.nil
  | n :: ns, us, h => by
    rw [List.map_cons] at h
    cases h with
    | cons r t =>
      obtain ⟨k, rfl⟩ := r
      exact IntsAre.cons n k (Vals.ints t)
theorem Vals.bls : ∀ {bs : List Bool} {us : List Value}, Vals (bs.map V.bl) us → us = bs.map Value.bool
  | [], us, h => by
    rw [List.map_nil] at h
    cases h
    rfl
  | b :: bs, us, h => by
    rw [List.map_cons] at h
    cases h with
    | cons r t =>
      cases r
      rw [Vals.bls t, List.map_cons]
theorem Vals.ref1 {a : Addr} {us : List Value} (r : Vals [V.ref a] us) : us = [Value.ref a] := by
  cases r with
  | cons r t =>
    cases t
    cases r
    rfl
theorem iter_any {prog : Program} {w : World} {A : Around} {E : Value → Shared → Prop} {s : Shared} {l : Addr} {items : Array Value} {Q : Value → Shared → Prop} (hl : s.heap.IsList l items)
    (h : ∀ s₂ : Shared, s₂ = { s with heap := s.heap.push { cls := .type "list_iterator", data := .fields #[.ref l, .int 0 0] } } →
      (s₂.heap.IsListIter s.heap.objs.size l 0 ∧ s₂.heap.IsList l items) → l ≠ s.heap.objs.size → Q (.ref s.heap.objs.size) s₂) : wpAny (model prog w) A (pyIter (.ref l)) Q E s := by
  have hlt : l < s.heap.objs.size := by obtain ⟨_, e, _⟩ := hl; exact Heap.lt_size e
  exact wpAny_pyIter_list hl (h _ rfl ⟨⟨_, Heap.get?_push_size _ rfl, rfl, rfl⟩, hl.push _⟩ (Nat.ne_of_lt hlt))
theorem truth_bools {prog : Program} {w : World} {A : Around} {bs : List Bool} {its : List Value} (e : its = bs.map Value.bool) :
    TruthOf prog w A (fun i v => its.toArray[i]? = some v) (fun i => bs.getD i false) := fun i v s Q E hv hq => by
  have hv' : its[i]? = some v := by simpa using hv
  rw [e, List.getElem?_map] at hv'
  obtain ⟨b, hb, rfl⟩ := Option.map_eq_some_iff.mp hv'
  have hg : bs.getD i false = b := by rw [List.getD_eq_getElem?_getD, hb] <;> rfl
  have hq' : Q (bs.getD i false) s := hq
  rw [hg] at hq'
  exact wpAny_truthy_bool hq'
theorem all_range : ∀ bs : List Bool, (List.range bs.length).all (fun i => bs.getD i false) = bs.all id
  | [] => rfl
  | b :: bs => by
    rw [List.length_cons, List.range_succ_eq_map, List.all_cons, List.all_map, List.all_cons, ← all_range bs]
    all_goals rfl
section
variable {X : Cx}
def rAll (K : PySem.W.Frag) : List V → Hp → VK → Prop := fun vs H Q => ∃ (a : Addr) (bs : List Bool), vs = [V.ref a] ∧ SqL K H a (bs.map V.bl) ∧ Q (.bl (bs.all id)) H
theorem cr_all (hc : X.calm = true) : CallR X (.builtin "all") (rAll X.K) := by
  intro pins s σ H vs us Q I r h
  obtain ⟨a, bs, rfl, hs, q⟩ := h
  obtain ⟨its, rv, hl, _⟩ := I.list hs
  rw [Vals.ref1 r]
  have hb := rv.bls
  refine call_all_walk (iter_any hl.isList fun s₂ e2 st hne => ?_)
  subst e2
  refine ⟨_, _, _, _, _, _, _, rfl, Walks.list (A := X.A.in1) (I.ok.hd hc) _ a hne its.toArray, st, truth_bools hb, fun h' tk hk => ?_⟩
  refine ⟨.bl _, H, I.kept fun b o eo => hk b o (fun hmem => ?_) (Heap.get?_push_of_some _ eo), ?_, q⟩
  · rcases List.mem_cons.mp hmem with e1 | hmem
    · exact absurd (e1 ▸ Heap.lt_size eo) (Nat.lt_irrefl _)
    · cases hmem
  · show Value.bool _ = Value.bool _
    rw [← all_range, hb, List.size_toArray, List.length_map]
end
mutual
inductive Dp (K : PySem.W.Frag) (H : Hp) : V → PyData → Prop
  | non : Dp K H .non .none
  | bl (b : Bool) : Dp K H (.bl b) (.bool b)
  | int (i : Int) : Dp K H (.int i) (.int i)
  | str (x : Str) : Dp K H (.str x) (.str x)
  | lst {a : Addr} {xs : List V} {ds : List PyData} : SqL K H a xs → DpAll K H xs ds → Dp K H (.ref a) (.list ds)
  | tup {a : Addr} {xs : List V} {ds : List PyData} : SqT K H a xs → DpAll K H xs ds → Dp K H (.ref a) (.tuple ds)
  | dct {a : Addr} {ns : List (Int × Int)} : H a = some (.dK (ns.map fun p => (Sum.inl p.1, V.int p.2))) → Dp K H (.ref a) (.dict (ns.map fun p => (PyData.int p.1, PyData.int p.2)))
inductive DpAll (K : PySem.W.Frag) (H : Hp) : List V → List PyData → Prop
  | nil : DpAll K H [] []
  | cons {v : V} {vs : List V} {d : PyData} {ds : List PyData} : Dp K H v d → DpAll K H vs ds → DpAll K H (v :: vs) (d :: ds)
end
section
variable {X : Cx} {pins : List (Addr × Obj)} {σ : St} {H : Hp} {s : Shared}
theorem prs_reads {P : Program} {w : World} {h : Heap} : ∀ {ns : List (Int × Int)} {es : List DictEntry} {vs : List (Key × Value)}, KV (ns.map fun p => ((Sum.inl p.1 : Key), V.int p.2)) vs → Pairs (mixKind P w) es vs → ReadsAll h (es.map (·.key)) ((ns.map fun p => (PyData.int p.1, PyData.int p.2)).map (·.1)) [] ∧ ReadsAll h (es.map (·.val)) ((ns.map fun p => (PyData.int p.1, PyData.int p.2)).map (·.2)) []
  | [], _, _, r, p => by
    cases r
    cases p
    exact ⟨.nil, .nil⟩
  | n :: ns, _, _, r, p => by
    cases r with
    | cons r1 r2 =>
      cases p with
      | cons p1 p2 p3 =>
        obtain ⟨a1, a2⟩ := prs_reads r2 p3
        obtain ⟨e1, t, e2⟩ := r1
        rw [← e1] at p1
        have p1 : keyIs (Sum.inl n.1) _ = true := p1
        rcases keyIs_shape p1 with ⟨i, u, e3, e4⟩ | ⟨x, u, e3, e4⟩
        · have e5 : n.1 = i := Sum.inl.inj e3
          have k1 : Reads h (Value.int i u) (PyData.int n.1) [] := by rw [e5]; exact Reads.int i u
          have k2 : Reads h (Value.int n.2 t) (PyData.int n.2) [] := Reads.int _ t
          rw [← e4] at k1
          rw [← e2, ← p2] at k2
          exact ⟨ReadsAll.cons k1 a1, ReadsAll.cons k2 a2⟩
        · cases e3
theorem dk_reads {P : Program} {w : World} {h : Heap} {a : Addr} {ns : List (Int × Int)} (x : ObjOk P w H h a (.dK (ns.map fun p => (Sum.inl p.1, V.int p.2)))) : Reads h (.ref a) (.dict (ns.map fun p => (PyData.int p.1, PyData.int p.2))) [a] ∧ a ≠ sysModules := by
  obtain ⟨_, hS, vs, r, o, es, ep, e, c, d, _, p, _⟩ := x
  obtain ⟨a1, a2⟩ := prs_reads (h := h) r p
  exact ⟨Reads.dict e c.1 d a1 a2, by simpa using hS⟩
mutual
theorem Dp.reads (I : Inv X pins σ H s) : ∀ (d : PyData) (v : V) (u : Value), Dp X.K H v d → RelV v u → ∃ as, Reads s.heap u d as
  | .none, _, _, h, r => by
    cases h
    cases r
    exact ⟨_, Reads.none⟩
  | .bool b, _, _, h, r => by
    cases h
    cases r
    exact ⟨_, Reads.bool b⟩
  | .int i, _, _, h, r => by
    cases h
    obtain ⟨t, rfl⟩ := r
    exact ⟨_, Reads.int i t⟩
  | .str x, _, _, h, r => by
    cases h
    obtain ⟨t, rfl⟩ := r
    exact ⟨_, Reads.str x t⟩
  | .list ds, _, _, h, r => by
    cases h with
    | lst hs ha =>
      cases r
      obtain ⟨its, rv, ⟨o, n, ho, hc, _, hd⟩, _⟩ := I.list hs
      obtain ⟨as, hr⟩ := Dp.readsAll I ds _ its ha rv
      exact ⟨_, Reads.list ho hc hd hr⟩
  | .tuple ds, _, _, h, r => by
    cases h with
    | tup hs ha =>
      cases r
      obtain ⟨its, rv, ⟨o, ho, hc, n, hd⟩, _⟩ := I.tuple hs
      obtain ⟨as, hr⟩ := Dp.readsAll I ds _ its ha rv
      exact ⟨_, Reads.tuple ho hc hd hr⟩
  | .dict _, _, _, h, r => by
    cases h with
    | dct e =>
      cases r
      exact ⟨_, (dk_reads (I.hok _ _ e)).1⟩
theorem Dp.readsAll (I : Inv X pins σ H s) : ∀ (ds : List PyData) (vs : List V) (us : List Value), DpAll X.K H vs ds → Vals vs us → ∃ as, ReadsAll s.heap us ds as
  | [], _, _, h, r => by
    cases h
    cases r
    exact ⟨_, ReadsAll.nil⟩
  | d :: ds, _, _, h, r => by
    cases h with
    | cons h1 h2 =>
      cases r with
      | cons r1 r2 =>
        obtain ⟨as, q1⟩ := Dp.reads I d _ _ h1 r1
        obtain ⟨bs, q2⟩ := Dp.readsAll I ds _ _ h2 r2
        exact ⟨_, ReadsAll.cons q1 q2⟩
end
end
section
variable {X : Cx}
def rEqD (K : PySem.W.Frag) : R2 := fun x y H Q => ∃ d e, Dp K H x d ∧ Dp K H y e ∧ SeqAt.shaped d = true ∧ SeqAt.shaped e = true ∧ Q (.bl (PyData.eqv d e)) H
def rNeD (K : PySem.W.Frag) : R2 := fun x y H Q => ∃ d e, Dp K H x d ∧ Dp K H y e ∧ SeqAt.shaped d = true ∧ SeqAt.shaped e = true ∧ Q (.bl (!PyData.eqv d e)) H
theorem op_eqD (hu : X.A.units + 64 < cLine) : OpR X (compareOp .Eq) (rEqD X.K) := by
  intro pins s σ H x y v u Q I rx ry h
  obtain ⟨d, e, hd, he, sd, se, q⟩ := h
  obtain ⟨as, r1⟩ := Dp.reads I d x v hd rx
  obtain ⟨bs, r2⟩ := Dp.reads I e y u he ry
  exact SeqAt.compareEq_shaped r1 r2 sd se hu ⟨.bl _, H, I, rfl, q⟩
theorem op_neD (hu : X.A.units + 64 < cLine) : OpR X (compareOp .NotEq) (rNeD X.K) := by
  intro pins s σ H x y v u Q I rx ry h
  obtain ⟨d, e, hd, he, sd, se, q⟩ := h
  obtain ⟨as, r1⟩ := Dp.reads I d x v hd rx
  obtain ⟨bs, r2⟩ := Dp.reads I e y u he ry
  exact SeqAt.compareNe_shaped r1 r2 sd se hu ⟨.bl _, H, I, rfl, q⟩
end
end L2
namespace L2
open PySem PySem.Spec PyProof.Rows
abbrev CellAt (h : Heap) (c : Addr) (v : Option Value) : Prop := h.IsCell c v
def relS (scope sc : Scope) : Scope :=
  { scope with names := scope.names.map fun (n, k) => if (k == .free && sc.kind == .function && sc.names.lookup n == some .cell) then (n, .cell) else (n, k) }
def cloFrom (cells : List (Str × Addr)) : List (Str × NameKind) → List (Str × Addr) → List (Str × Addr)
  | [], acc => acc
  | (n, k) :: r, acc => if k == .free then cloFrom cells r ((n, (cells.lookup n).getD 0) :: acc) else cloFrom cells r acc
theorem closure_loop (env : Env) (f : Str × NameKind → List (Str × Addr) → Sem (ForInStep (List (Str × Addr))))
    (hf : ∀ n k c, f (n, k) c = if k == .free then (do let a ← cellOf env n; pure (.yield ((n, a) :: c))) else pure (.yield c)) :
    ∀ (names : List (Str × NameKind)) (acc : List (Str × Addr)), (∀ y ∈ names, y.2 = .free → ∃ c, env.cells.lookup y.1 = some c) → forIn names acc f = pure (cloFrom env.cells names acc)
  | [], acc, _ => by rw [List.forIn_nil]; rfl
  | (n, k) :: r, acc, h => by
    rw [List.forIn_cons, hf]
    have ih := fun acc => closure_loop env f hf r acc fun y hy => h y (List.mem_cons_of_mem _ hy)
    unfold cloFrom
    by_cases hk : (k == NameKind.free) = true
    · rw [if_pos hk, if_pos hk]
      obtain ⟨c, hc⟩ := h (n, k) List.mem_cons_self (by simpa using hk)
      have e : cellOf env n = pure c := by unfold cellOf; rw [hc]
      rw [e]
      have e2 : (env.cells.lookup n).getD 0 = c := by rw [hc]; rfl
      rw [e2]
      exact ih _
    · rw [if_neg hk, if_neg hk]
      exact ih _
theorem closure_ok {scope : Scope} {env : Env} (h : ∀ y ∈ scope.names, y.2 = .free → ∃ c, env.cells.lookup y.1 = some c) : closureFor scope env = pure (cloFrom env.cells scope.names []) := by
  simp only [closureFor]
  rw [closure_loop env _ (fun n k c => rfl) scope.names [] h]
  rfl
theorem mem_lookup {α : Type} : ∀ {l : List (Str × α)} {n : Str} {c : α}, (n, c) ∈ l → ∃ c', l.lookup n = some c'
  | (k, v) :: r, n, c, h => by
    rw [List.lookup_cons]
    cases hb : n == k with
    | true => exact ⟨_, rfl⟩
    | false =>
      rcases List.mem_cons.mp h with e | h
      · cases e; simp at hb
      · exact mem_lookup h
theorem cloFrom_mem {cells : List (Str × Addr)} : ∀ {names : List (Str × NameKind)} {acc : List (Str × Addr)} {n : Str} {c : Addr}, (n, c) ∈ cloFrom cells names acc → (n, c) ∈ acc ∨ ((n, .free) ∈ names ∧ c = (cells.lookup n).getD 0)
  | [], _, _, _, h => .inl h
  | (m, k) :: r, acc, n, c, h => by
    unfold cloFrom at h
    split at h
    · rename_i hk
      have hk : k = .free := by simpa using hk
      rcases cloFrom_mem h with h | ⟨h1, h2⟩
      · rcases List.mem_cons.mp h with e | h
        · cases e; exact .inr ⟨hk ▸ List.mem_cons_self, rfl⟩
        · exact .inl h
      · exact .inr ⟨List.mem_cons_of_mem _ h1, h2⟩
    · rcases cloFrom_mem h with h | ⟨h1, h2⟩
      · exact .inl h
      · exact .inr ⟨List.mem_cons_of_mem _ h1, h2⟩
theorem cloFrom_acc {cells : List (Str × Addr)} : ∀ {names : List (Str × NameKind)} {acc : List (Str × Addr)} {p : Str × Addr}, p ∈ acc → p ∈ cloFrom cells names acc
  | [], _, _, h => h
  | (m, k) :: r, acc, p, h => by
    unfold cloFrom
    split
    · exact cloFrom_acc (List.mem_cons_of_mem _ h)
    · exact cloFrom_acc h
theorem cloFrom_has {cells : List (Str × Addr)} : ∀ {names : List (Str × NameKind)} {acc : List (Str × Addr)} {n : Str}, (n, .free) ∈ names → (n, (cells.lookup n).getD 0) ∈ cloFrom cells names acc
  | (m, k) :: r, acc, n, h => by
    unfold cloFrom
    rcases List.mem_cons.mp h with e | h
    · cases e
      exact cloFrom_acc List.mem_cons_self
    · split
      · exact cloFrom_has h
      · exact cloFrom_has h
theorem cells_mem : ∀ {names : List (Str × NameKind)} {h : Heap} {acc : List (Str × Addr)} {x : Str} {c : Addr}, (x, c) ∈ cellsFrom h.objs.size names acc →
    (x, c) ∈ acc ∨ ((x, .cell) ∈ names ∧ h.objs.size ≤ c ∧ CellAt (pushCells h names) c none)
  | [], _, _, _, _, h => .inl h
  | (n, k) :: r, h, acc, x, c, hm => by
    unfold cellsFrom at hm
    unfold pushCells
    split at hm
    · rename_i hk
      rw [if_pos hk]
      have hk : k = .cell := by simpa using hk
      rw [← Heap.size_push h { cls := .type "cell", data := .cell none }] at hm
      rcases cells_mem hm with hm | ⟨h1, h2, h3⟩
      · rcases List.mem_cons.mp hm with e | hm
        · cases e
          exact .inr ⟨hk ▸ List.mem_cons_self, Nat.le_refl _, _, pushCells_keeps r _ _ _ (Heap.get?_push_size _ rfl), rfl⟩
        · exact .inl hm
      · rw [Heap.size_push] at h2
        exact .inr ⟨List.mem_cons_of_mem _ h1, Nat.le_of_succ_le h2, h3⟩
    · rename_i hk
      rw [if_neg hk]
      rcases cells_mem hm with hm | ⟨h1, h2, h3⟩
      · exact .inl hm
      · exact .inr ⟨List.mem_cons_of_mem _ h1, h2, h3⟩
theorem cells_acc : ∀ {names : List (Str × NameKind)} {n : Nat} {acc : List (Str × Addr)} {p : Str × Addr}, p ∈ acc → p ∈ cellsFrom n names acc
  | [], _, _, _, h => h
  | (m, k) :: r, n, acc, p, h => by
    unfold cellsFrom
    split
    · exact cells_acc (List.mem_cons_of_mem _ h)
    · exact cells_acc h
theorem cells_has : ∀ {names : List (Str × NameKind)} {n : Nat} {acc : List (Str × Addr)} {x : Str}, (x, .cell) ∈ names → ∃ c, (x, c) ∈ cellsFrom n names acc
  | (m, k) :: r, n, acc, x, h => by
    unfold cellsFrom
    rcases List.mem_cons.mp h with e | h
    · cases e
      exact ⟨n, cells_acc List.mem_cons_self⟩
    · split
      · exact cells_has h
      · exact cells_has h
theorem cells_inj : ∀ {names : List (Str × NameKind)} {h : Heap} {acc : List (Str × Addr)} {x y : Str} {c : Addr}, (∀ p ∈ acc, p.2 < h.objs.size) → (∀ x y c, (x, c) ∈ acc → (y, c) ∈ acc → x = y) →
    (x, c) ∈ cellsFrom h.objs.size names acc → (y, c) ∈ cellsFrom h.objs.size names acc → x = y
  | [], _, _, _, _, _, _, hi, h1, h2 => hi _ _ _ h1 h2
  | (n, k) :: r, h, acc, x, y, c, hl, hi, h1, h2 => by
    unfold cellsFrom at h1 h2
    split at h1
    · rename_i hk
      rw [if_pos hk] at h2
      rw [← Heap.size_push h { cls := .type "cell", data := .cell none }] at h1 h2
      refine cells_inj (h := h.push _) (fun p hp => ?_) (fun x y c a b => ?_) h1 h2
      · rw [Heap.size_push]
        rcases List.mem_cons.mp hp with rfl | hp
        · exact Nat.lt_succ_self _
        · exact Nat.lt_succ_of_lt (hl p hp)
      · rcases List.mem_cons.mp a with e | a <;> rcases List.mem_cons.mp b with e' | b
        · cases e; cases e'; rfl
        · cases e; exact absurd (hl _ b) (Nat.lt_irrefl _)
        · cases e'; exact absurd (hl _ a) (Nat.lt_irrefl _)
        · exact hi _ _ _ a b
    · rename_i hk
      rw [if_neg hk] at h2
      exact cells_inj hl hi h1 h2
theorem newEnv_comp {M : Model} {A : Around} {E : Value → Shared → Prop} {s : Shared} {scope : Scope} {globals : Addr} {closure : List (Str × Addr)} {qual : Str} {func : Option Addr} {code : Value} {around : Env} {builtins : Addr} {Q : Env → Shared → Prop}
    (h : Q (newEnv scope s.heap.objs.size globals (cellsFrom (s.heap.objs.size + 1) scope.names closure) qual func code (some around) builtins)
      { s with heap := pushCells (s.heap.push { cls := .type "dict", data := .dict #[] }) scope.names }) :
    wpAny M A (newFunctionEnv scope globals closure [] qual func code (some around) builtins) Q E s := by
  simp only [newFunctionEnv, Option.isSome_some, if_true]
  refine wpAny_bind (wpAny_alloc ?_)
  refine wpAny_bind (wpAny_layCells _ (fun n k c => rfl) scope.names closure _ _ ?_)
  rw [show ({ s with heap := s.heap.push { cls := .type "dict", data := .dict #[] } } : Shared).heap.objs.size = s.heap.objs.size + 1 from Heap.size_push ..]
  rw [List.forIn_nil]
  exact wpAny_bind (wpAny_pure (wpAny_pure h))
theorem lookup_relS {sc : Scope} : ∀ {names : List (Str × NameKind)} {x : Str} {k : NameKind},
    (names.map fun (n, k) => if (k == NameKind.free && sc.kind == .function && sc.names.lookup n == some .cell) then (n, NameKind.cell) else (n, k)).lookup x = some k →
    ∃ k', names.lookup x = some k' ∧ (k = k' ∨ (k' = .free ∧ k = .cell))
  | [], _, _, h => by simp at h
  | (n, k₀) :: r, x, k, h => by
    have ih := @lookup_relS sc r x k
    have h' : List.lookup x ((if (k₀ == NameKind.free && sc.kind == .function && sc.names.lookup n == some .cell) = true then (n, NameKind.cell) else (n, k₀)) :: (r.map _)) = some k := h
    cases hx : x == n with
    | true =>
      simp only [List.lookup_cons, hx]
      by_cases hc : (k₀ == NameKind.free && sc.kind == .function && sc.names.lookup n == some .cell) = true
      · rw [if_pos hc] at h'
        simp only [List.lookup_cons, hx] at h'
        cases h'
        simp only [Bool.and_eq_true, beq_iff_eq] at hc
        exact ⟨k₀, rfl, .inr ⟨hc.1.1, rfl⟩⟩
      · rw [if_neg hc] at h'
        simp only [List.lookup_cons, hx] at h'
        cases h'
        exact ⟨_, rfl, .inl rfl⟩
    | false =>
      simp only [List.lookup_cons, hx]
      by_cases hc : (k₀ == NameKind.free && sc.kind == .function && sc.names.lookup n == some .cell) = true
      · rw [if_pos hc] at h'
        simp only [List.lookup_cons, hx] at h'
        exact ih h'
      · rw [if_neg hc] at h'
        simp only [List.lookup_cons, hx] at h'
        exact ih h'
structure BlkOk (N : List Str) (sc scope : Scope) (own : List (Str × Nat)) : Prop where
  kind : scope.kind = .function
  uniq : ∀ y ∈ scope.names, scope.names.lookup y.1 = some y.2
  ix : ∀ p ∈ own, N[p.2]? = some p.1
  free : ∀ y ∈ scope.names, y.2 = .free → sc.names.lookup y.1 = some .cell ∨ sc.names.lookup y.1 = some .free
  own : ∀ y ∈ scope.names, y.2 = .local ∨ y.2 = .cell → y.1 ∈ own.map (·.1) ∨ y.1 ∉ N
def wipe (σ : St) : List Nat → St
  | [] => σ
  | v :: vs => (wipe σ vs).set v none
theorem wipe_length (σ : St) : ∀ vs : List Nat, (wipe σ vs).length = σ.length
  | [] => rfl
  | v :: vs => by unfold wipe; rw [List.length_set, wipe_length σ vs]
theorem wipe_some {σ : St} {i : Nat} {x : V} : ∀ {vs : List Nat}, (wipe σ vs)[i]? = some (some x) → σ[i]? = some (some x) ∧ i ∉ vs
  | [], h => ⟨h, by simp⟩
  | v :: vs, h => by
    unfold wipe at h
    by_cases hi : v = i
    · subst hi
      by_cases hv : v < (wipe σ vs).length
      · rw [List.getElem?_set_self hv] at h; cases h
      · rw [List.getElem?_eq_none (by simpa using hv)] at h; cases h
    · rw [List.getElem?_set_ne hi] at h
      obtain ⟨h1, h2⟩ := wipe_some h
      exact ⟨h1, by simp only [List.mem_cons, not_or]; exact ⟨fun e => hi e.symm, h2⟩⟩
abbrev Cx.blk (X : Cx) (s : Shared) (H : Hp) (scope : Scope) (cenv : Env) (fp : List Addr) : Cx := { X with s_0 := s, H_0 := H, env := cenv, outer := X.stack, ex := fp, fn := fun x => scope.names.lookup x == some .cell, pn := [], xe := fun _ _ => False }
section
variable {X : Cx} {pins : List (Addr × Obj)} {σ : St} {H : Hp} {s : Shared}
theorem block_start {scope : Scope} {own : List (Str × Nat)} {fp : List Addr} (I : Inv X pins σ H s) (ok : BlkOk X.N X.env.scope scope own) (hN : X.N.Nodup) (hfp : ∀ b ∈ fp, FpOk X pins H b ∧ b < s.heap.objs.size) :
    Inv (X.blk s H scope (compEnvC scope (cellsFrom (s.heap.objs.size + 1) scope.names (cloFrom X.env.cells scope.names [])) s.heap.objs.size X.env) fp) [] (wipe σ (own.map (·.2))) H { s with heap := pushCells (s.heap.push { cls := .type "dict", data := .dict #[] }) scope.names } := by
  have hfree : ∀ y ∈ scope.names, y.2 = .free → ∃ c, X.env.cells.lookup y.1 = some c := fun y hy e => by
    rcases ok.free y hy e with k | k
    · exact I.ok.has _ (.inl k)
    · exact I.ok.has _ (.inr k)
  generalize hcenv : compEnvC scope (cellsFrom (s.heap.objs.size + 1) scope.names (cloFrom X.env.cells scope.names [])) s.heap.objs.size X.env = cenv
  have kp : ∀ b o, s.heap.get? b = some o → (pushCells (s.heap.push { cls := .type "dict", data := .dict #[] }) scope.names).get? b = some o := fun b o e => pushCells_keeps _ _ _ _ (Heap.get?_push_of_some _ e)
  have hL : cenv.locals = s.heap.objs.size := by rw [← hcenv]; rfl
  have hcl : cenv.cells = cellsFrom (s.heap.objs.size + 1) scope.names (cloFrom X.env.cells scope.names []) := by rw [← hcenv]; rfl
  have hsc : cenv.scope = relS scope X.env.scope := by rw [← hcenv]; rfl
  rw [← Heap.size_push s.heap { cls := .type "dict", data := .dict #[] }] at hcl
  have cm : ∀ {y c}, (y, c) ∈ cloFrom X.env.cells scope.names [] → X.env.cells.lookup y = some c ∧ c < s.heap.objs.size := fun {y c} hm => by
    rcases cloFrom_mem hm with hm | ⟨h1, rfl⟩
    · cases hm
    · obtain ⟨c, hc⟩ := hfree _ h1 rfl
      rw [hc]
      obtain ⟨w, z⟩ := I.cell _ _ hc
      exact ⟨rfl, z.lt⟩
  have mem : ∀ {y c}, cenv.cells.lookup y = some c → (X.env.cells.lookup y = some c ∧ c < s.heap.objs.size) ∨ (s.heap.objs.size + 1 ≤ c ∧ CellAt (pushCells (s.heap.push { cls := .type "dict", data := .dict #[] }) scope.names) c none) := fun {y c} e => by
    rw [hcl] at e
    rcases cells_mem (PySem.mem_of_lookup e) with hm | ⟨_, h2, h3⟩
    · exact .inl (cm hm)
    · rw [Heap.size_push] at h2; exact .inr ⟨h2, h3⟩
  have look : ∀ {y}, scope.names.lookup y = some .free → ∃ c, cenv.cells.lookup y = some c ∧ X.env.cells.lookup y = some c := fun {y} hl => by
    have hy : (y, NameKind.free) ∈ scope.names := PySem.mem_of_lookup hl
    obtain ⟨c', e'⟩ := mem_lookup (cells_acc (names := scope.names) (n := (s.heap.push { cls := .type "dict", data := .dict #[] }).objs.size) (cloFrom_has (cells := X.env.cells) (acc := []) hy))
    rw [← hcl] at e'
    refine ⟨c', e', ?_⟩
    rw [hcl] at e'
    rcases cells_mem (PySem.mem_of_lookup e') with hm | ⟨h1, _, _⟩
    · exact (cm hm).1
    · have := ok.uniq _ h1
      rw [hl] at this; cases this
  have okB : (X.blk s H scope cenv fp).Ok := by
    refine ⟨I.ok.mod, by show cenv.scope.kind = _; rw [hsc]; exact ok.kind, by show cenv.globals = _; rw [← hcenv]; exact I.ok.glob, by show cenv.builtins = _; rw [← hcenv]; exact I.ok.blt, by show s.heap.objs.size ≤ cenv.locals; rw [hL]; exact Nat.le_refl _,
      fun y z c e1 e2 => ?_, fun y hy => ?_, fun y c z e => ?_, I.ok.hd, I.ok.frames, .inl rfl, fun b hb => ⟨?_, fun y c e z => ?_⟩, I.bs, Nat.le_trans I.ok.bsz I.sz, fun b o e hb => ?_, fun b hb z => ?_, I.stack, I.stkFree⟩
    · have e1 : cenv.cells.lookup y = some c := e1
      have e2 : cenv.cells.lookup z = some c := e2
      rw [hcl] at e1 e2
      refine cells_inj (fun p hp => ?_) (fun y z c a b => I.ok.inj y z c (cm a).1 (cm b).1) (PySem.mem_of_lookup e1) (PySem.mem_of_lookup e2)
      rw [Heap.size_push]
      exact Nat.lt_succ_of_lt (cm (y := p.1) (c := p.2) hp).2
    · show ∃ c, cenv.cells.lookup y = some c
      have key : ∀ k, cenv.kindOf y = some k → (k = .cell ∨ k = .free) → ∃ c, cenv.cells.lookup y = some c := fun k hk hk' => by
        unfold Env.kindOf at hk
        rw [hsc] at hk
        obtain ⟨k', e, r⟩ := lookup_relS hk
        have : k' = .cell ∨ k' = .free := by
          rcases r with rfl | ⟨rfl, _⟩
          · exact hk'
          · exact .inr rfl
        rcases this with rfl | rfl
        · obtain ⟨c, hm⟩ := cells_has (n := (s.heap.push { cls := .type "dict", data := .dict #[] }).objs.size) (acc := cloFrom X.env.cells scope.names []) (PySem.mem_of_lookup e)
          obtain ⟨c', e'⟩ := mem_lookup hm
          exact ⟨c', by rw [hcl]; exact e'⟩
        · obtain ⟨c, h1, _⟩ := look e
          exact ⟨c, h1⟩
      rcases hy with hy | hy
      · exact key _ hy (.inl rfl)
      · exact key _ hy (.inr rfl)
    · have z : (scope.names.lookup y == some NameKind.cell) = true := z
      have z : scope.names.lookup y = some .cell := by simpa using z
      have e : cenv.cells.lookup y = some c := e
      rw [hcl] at e
      rcases cells_mem (PySem.mem_of_lookup e) with hm | ⟨_, h2, _⟩
      · rcases cloFrom_mem hm with hm | ⟨h1, _⟩
        · cases hm
        · have q := ok.uniq _ h1
          rw [z] at q; cases q
      · rw [Heap.size_push] at h2
        exact Nat.le_of_succ_le h2
    · show b ≠ cenv.locals
      rw [hL]; exact Nat.ne_of_lt (hfp b hb).2
    · have e : cenv.cells.lookup y = some c := e
      rcases mem e with ⟨h1, _⟩ | ⟨h1, _⟩
      · exact (hfp b hb).1.2.2.2.2.1 y c h1 z
      · have h2 : s.heap.objs.size + 1 ≤ b := by rw [← z]; exact h1
        exact absurd (Nat.lt_of_lt_of_le (hfp b hb).2 (Nat.le_of_succ_le h2)) (Nat.lt_irrefl _)
    · rcases (hfp b hb).1.2.2.2.1 with z | z
      · exact I.ok.noex b o e z
      · exact absurd (Nat.lt_of_lt_of_le (Heap.lt_size e) (Nat.le_trans I.ok.bsz z)) (Nat.lt_irrefl _)
    · rcases List.mem_cons.mp (I.stkSub b z) with z | z
      · exact (hfp b hb).1.2.1 z
      · exact (hfp b hb).1.2.2.1 z
  refine ⟨okB, rfl, I.bare, Un.kept kp, ⟨fun _ => none, ?_, fun i y av e1 e2 e3 => ?_⟩, fun y c e => ?_, ?_, fun y c e => ?_, fun p hp => ?_, I.hok.kept kp, by rw [wipe_length]; exact I.len⟩
  · show Heap.Ns _ cenv.locals _
    rw [hL]
    exact Heap.Ns.keeps (Heap.Ns.new ..) fun b o e => pushCells_keeps _ _ _ _ e
  · obtain ⟨e2, hne⟩ := wipe_some e2
    have hfr : scope.names.lookup y = some .free ∧ (cenv.kindOf y = some .cell ∨ cenv.kindOf y = some .free) := by
      have key : ∀ k, cenv.scope.names.lookup y = some k → k = .local ∨ k = .cell ∨ k = .free → scope.names.lookup y = some .free ∧ (cenv.kindOf y = some .cell ∨ cenv.kindOf y = some .free) := fun k hk hk' => by
        have hk0 := hk
        rw [hsc] at hk
        obtain ⟨k', e, r⟩ := lookup_relS hk
        have no : ¬ (k' = .local ∨ k' = .cell) := fun hh => by
          rcases ok.own _ (PySem.mem_of_lookup e) hh with e' | e'
          · obtain ⟨p, hp, hpy⟩ := List.mem_map.mp e'
            have e3 := ok.ix p hp
            have : p.1 = y := hpy
            rw [this] at e3
            exact hne (List.mem_map.mpr ⟨p, hp, nodup_ix hN e3 e1⟩)
          · exact e' (List.mem_of_getElem? e1)
        rcases r with rfl | ⟨rfl, rfl⟩
        · rcases hk' with rfl | rfl | rfl
          · exact absurd (.inl rfl) no
          · exact absurd (.inr rfl) no
          · exact ⟨e, .inr hk0⟩
        · exact ⟨e, .inl hk0⟩
      have e3 : Vis cenv.scope y := e3
      rcases e3 with e3 | e3 | e3
      · exact key _ e3 (.inl rfl)
      · exact key _ e3 (.inr (.inl rfl))
      · exact key _ e3 (.inr (.inr rfl))
    obtain ⟨m, hn, hl⟩ := I.loc
    have hvis : Vis X.env.scope y := (ok.free _ (PySem.mem_of_lookup hfr.1) rfl).elim (fun k => .inr (.inl k)) (fun k => .inr (.inr k))
    obtain ⟨w, r, q⟩ := hl i y av e1 e2 hvis
    refine ⟨w, r, .inr ⟨hfr.2, ?_⟩⟩
    obtain ⟨c, h1, h2⟩ := look hfr.1
    rcases q with ⟨k, _⟩ | ⟨_, c', e', z⟩
    · have k : X.env.scope.names.lookup y = some .local := k
      rcases ok.free _ (PySem.mem_of_lookup hfr.1) rfl with k' | k' <;> rw [show X.env.scope.names.lookup y = _ from k'] at k <;> cases k
    · rw [h2] at e'; cases e'
      exact ⟨c, h1, z.keeps kp⟩
  · have e : cenv.cells.lookup y = some c := e
    rcases mem e with ⟨h1, _⟩ | ⟨_, z⟩
    · obtain ⟨w, z⟩ := I.cell y c h1
      exact ⟨w, z.keeps kp⟩
    · exact ⟨_, z⟩
  · show H cenv.locals = none
    rw [hL]; exact I.hok.fresh (Nat.le_refl _)
  · have e : cenv.cells.lookup y = some c := e
    rcases mem e with ⟨h1, _⟩ | ⟨h1, _⟩
    · exact I.freeC y c h1
    · exact I.hok.fresh (Nat.le_of_succ_le h1)
  · exact absurd (show p ∈ ([] : List (Addr × Obj)) ++ [] from hp) (by simp)
theorem app_ok {E : Value → Shared → Prop} {D : Addr} {xs : List V} {y : V} {v : Value} {Q : Value → Shared → Prop} (I : Inv X pins σ H s) (hD : H D = some (.lst xs)) (hz : xs.length < sizeLine) (r : RelV y v)
    (h : ∀ s', Inv X pins σ (upd H D (.lst (xs ++ [y]))) s' → Q .none s') : wpAny (model X.prog X.w) X.A (call (.builtin "list.append") [.ref D, v]) Q E s := by
  obtain ⟨hz', its, n, ri, e⟩ := I.hok D _ hD
  have hl := ri.length
  refine append_at (hsz := by rw [List.size_toArray]; omega) e fun h' sb ho' => ?_
  refine h { s with heap := h' } (I.write (t' := s.toks) (by rw [hD]; trivial) (.inl rfl) (fun b u hb q => (sb.2 b hb).trans q) ⟨_, ho'⟩ ⟨by rw [List.length_append]; exact hz, its ++ [v], n + 1, ri.append (.cons r .nil), ?_⟩)
  rw [ho']
  simp
def PTs (X : Cx) (ifs : List Expr) (t : TT) : Prop :=
  ∀ (pins : List (Addr × Obj)) (s : Shared) (σ : St) (H : Hp) (Q : Bool → Hp → Prop), Inv X pins σ H s → t σ H Q →
    wpAny (model X.prog X.w) X.A (forIn ifs true fun c r => if r = true then do let ok ← isTrue c X.env (eval c X.env); pure (ForInStep.yield ok) else pure (ForInStep.yield r)) (TP X pins σ Q) X.xe s
def tYes : TT := fun _ H Q => Q true H
theorem pts_nil : PTs X [] tYes := fun _ _ _ H _ I h => wpAny_tests_nil ⟨H, I, h⟩
theorem pts_one {c : Expr} {t : TT} (h : PT X c t) : PTs X [c] t := fun pins s σ H Q I hw => wpAny_tests_one (h pins s σ H Q I hw)
end
theorem thnF {α : Type} {t : Sem α} {Q Q' : α → Shared → Prop} {M : Model} {A : Around} {E : Value → Shared → Prop} {s : Shared} (h : wpAny M A t Q (fun _ _ => False) s) (hQ : ∀ a s, Q a s → Q' a s) : wpAny M A t Q' E s := wpAny_mono h hQ fun _ _ z => False.elim z
theorem compLoop_any {prog : Program} {w : World} {A : Around} {R : Result → Shared → Prop} {s : Shared} {elt target iter : Expr} {ifs : List Expr} {scope : Scope} {pos : Pos} {it acc : Value} {env : Env} (I : Nat → Shared → Prop)
    (turn : ∀ n s, I n s → wpAny (model prog w) A (pyNext it) (fun r s₁ => match r with
      | none => R (.ok .next) s₁
      | some v => wpAny (model prog w) A (letOwnedTupleGo target it v) (fun _ s₁' => wpAny (model prog w) A (assign target env v) (fun _ s₂ =>
          wpAny (model prog w) A (forIn ifs true fun c r => if r = true then do let ok ← isTrue c env (eval c env); pure (ForInStep.yield ok) else pure (ForInStep.yield r)) (fun ok s₃ =>
            if ok = true then wpAny (model prog w) A (eval elt env) (fun x s₄ =>
              wpAny (model prog w) A (call (.builtin "list.append") [acc, x]) (fun _ s₅ => ∃ m, m < n ∧ I m s₅) (notedBy (model prog w) A env fun e s' => R (.error e) s') s₄) (notedBy (model prog w) A env fun e s' => R (.error e) s') s₃
            else ∃ m, m < n ∧ I m s₃) (notedBy (model prog w) A env fun e s' => R (.error e) s') s₂) (notedBy (model prog w) A env fun e s' => R (.error e) s') s₁') (notedBy (model prog w) A env fun e s' => R (.error e) s') s₁) (notedBy (model prog w) A env fun e s' => R (.error e) s') s)
    (n : Nat) (h : I n s) :
    codeAny (model prog w) A (.compLoop (.ListComp elt [⟨target, iter, ifs, 0⟩] scope pos) 0 it acc env) R s := by
  refine codeAny_loop rfl I (fun n s hI => ?_) n h
  show wpAny _ A ((compTurn (.ListComp elt [⟨target, iter, ifs, 0⟩] scope pos) 0 it acc env).onRaise (fun x => do noteFrame x env; theTreesLotGoes x)) _ _ s
  refine wpAny_noted ?_
  rw [compTurn_list]
  refine wpAny_bind (wpAny_standAt (wpAny_bind (wpAny_mono (turn n s hI) (fun r s₁ h₁ => ?_) fun _ _ h' => h')))
  cases r with
  | none => exact wpAny_pure h₁
  | some v =>
    refine wpAny_bind (wpAny_mono h₁ (fun _ s₁' h₁' => ?_) fun _ _ h' => h')
    refine wpAny_bind (wpAny_mono h₁' (fun _ s₂ h₂ => wpAny_bind (wpAny_mono h₂ (fun ok s₃ h₃ => ?_) fun _ _ h' => h')) fun _ _ h' => h')
    cases ok with
    | false => exact wpAny_pure ⟨rfl, h₃⟩
    | true =>
      exact wpAny_bind (wpAny_bind (wpAny_mono h₃ (fun x s₄ h₄ => wpAny_bind (wpAny_mono h₄ (fun _ s₅ h₅ => wpAny_pure (wpAny_pure ⟨rfl, h₅⟩)) fun _ _ h' => h')) fun _ _ h' => h'))
section
variable {X : Cx}
def tLc (wi : TI) (g : TG) (tt : TT) (te : TE) (vs : List Nat) : TE := fun σ H Q => wi σ H fun J H1 => ∀ D, H1 D = none → ∃ W : Nat → Nat → Hp → Prop, (∃ m, W 0 m (upd H1 D (.lst []))) ∧ ∀ i m H, W i m H →
  (J.stop i H ∧ Q (.ref D) H) ∨ (J.go i H ∧ ∃ Nx : Hp → Prop, (∀ H', Nx H' → ∃ m', m' < m ∧ W (i + 1) m' H') ∧ ∀ x H', J.yld i H x H' → g x (wipe σ vs) H' fun σ2 H2 => wipe σ2 vs = wipe σ vs ∧ tt σ2 H2 fun b H3 =>
    if b = true then te σ2 H3 fun y H4 => ∃ acc, H4 D = some (.lst acc) ∧ acc.length < sizeLine ∧ Nx (upd H4 D (.lst (acc ++ [y]))) else Nx H3)
theorem lc_core {pins : List (Addr × Obj)} {s : Shared} {σ : St} {H : Hp} {Q : VK} {elt tg iter : Expr} {ifs : List Expr} {scope : Scope} {own : List (Str × Nat)} {pos pos' : Pos} {wi : TI} {g : TG} {tt : TT} {te : TE} {use : Option (Value → Sem Unit)} {Qf : Value → Shared → Prop}
    (hc : X.calm = true) (hN : X.N.Nodup) (I : Inv X pins σ H s) (hi : PI X tg iter wi) (ok : BlkOk X.N X.env.scope scope own)
    (hg : ∀ (s : Shared) (H : Hp) (C : Addr) (cl : List (Str × Addr)) (fp : List Addr), PG (X.blk s H scope (compEnvC scope cl C X.env) fp) tg g) (ht : ∀ (s : Shared) (H : Hp) (C : Addr) (cl : List (Str × Addr)) (fp : List Addr), PTs (X.blk s H scope (compEnvC scope cl C X.env) fp) ifs tt)
    (he : ∀ (s : Shared) (H : Hp) (C : Addr) (cl : List (Str × Addr)) (fp : List Addr), PE (X.blk s H scope (compEnvC scope cl C X.env) fp) elt te) (hs : ∀ x, foldedSetIterable iter X.env x = pure x)
    (h : tLc wi g tt te (own.map (·.2)) σ H Q)
    (hRR : ∀ D C s' m H', Inv X pins σ H' s' → Q (.ref D) H' → s'.heap.Ns C m → FpOk X pins H' C → compPost (model X.prog X.w) X.A X.xe use Qf (.ref D) C (.ok .next) s') :
    wpAny (model X.prog X.w) X.A (comprehension (.ListComp elt [⟨tg, iter, ifs, 0⟩] scope pos) scope X.env pos' (newList []) false (eval iter X.env) use) Qf X.xe s := by
  have hfree : ∀ y ∈ scope.names, y.2 = .free → ∃ c, X.env.cells.lookup y.1 = some c := fun y hy e => by
    rcases ok.free y hy e with k | k
    · exact I.ok.has _ (.inl k)
    · exact I.ok.has _ (.inr k)
  refine wpAny_comprehension_free (use := use) rfl hs (closure_ok hfree) ok.kind (fun y hy e => by rw [ok.uniq y hy, e])
    (thn (hi pins s σ H _ I h) fun xv s1 hx => thn hx fun itv s2 h2 => ?_)
  obtain ⟨it, fp, tn, J, H2, e, I2, T, st2, f2, q⟩ := h2
  subst e
  refine wpAny_newObj_type (newEnv_comp ?_) (by show 0 ≤ sizeLine; decide)
  generalize hD : s2.heap.objs.size = D
  have hDn : H2 D = none := I2.hok.fresh (Nat.le_of_eq hD)
  obtain ⟨W, ⟨m0, w0⟩, turn⟩ := q D hDn
  -- the new list
  generalize hs3 : ({ s2 with heap := s2.heap.push { cls := .type "list", data := .seq ([] : List Value).toArray } } : Shared) = s3
  have I3 : Inv X pins σ (upd H2 D (.lst [])) s3 := by
    rw [← hs3]
    refine I2.laid (t' := s2.toks) (fun b o e => Heap.get?_push_of_some _ e) (Nat.le_of_eq hD) ⟨Nat.zero_le _, [], 0, .nil, ?_⟩
    rw [← hD]
    exact Heap.get?_push_size _ rfl
  have h3 : s3.heap = s2.heap.push { cls := .type "list", data := .seq ([] : List Value).toArray } := by rw [← hs3]
  have sz : ∀ b ∈ fp, b < s2.heap.objs.size := fun b hb => by
    obtain ⟨o, e, _⟩ := T.obj _ _ st2 b hb
    exact Heap.lt_size e
  have f3 : ∀ b ∈ fp, FpOk X pins (upd H2 D (.lst [])) b ∧ b < s3.heap.objs.size := fun b hb => by
    have hlt := sz b hb
    refine ⟨⟨?_, (f2 b hb).2⟩, by rw [h3, Heap.size_push]; exact Nat.lt_succ_of_lt hlt⟩
    rw [upd_ne (by rw [← hD]; exact Nat.ne_of_lt hlt)]
    exact (f2 b hb).1
  have st3 : tn 0 s3.heap := T.keep _ _ _ st2 fun b _ o e => by rw [h3]; exact Heap.get?_push_of_some _ e
  have I4 := block_start I3 ok hN f3
  have pg := hg s3 (upd H2 D (.lst [])) s3.heap.objs.size (cellsFrom (s3.heap.objs.size + 1) scope.names (cloFrom X.env.cells scope.names [])) fp
  have pt := ht s3 (upd H2 D (.lst [])) s3.heap.objs.size (cellsFrom (s3.heap.objs.size + 1) scope.names (cloFrom X.env.cells scope.names [])) fp
  have pe := he s3 (upd H2 D (.lst [])) s3.heap.objs.size (cellsFrom (s3.heap.objs.size + 1) scope.names (cloFrom X.env.cells scope.names [])) fp
  show codeAny _ _ (.compStart (.ListComp elt [⟨tg, iter, ifs, 0⟩] scope pos) 0 (.ref it) (.ref D) (compEnvC scope (cellsFrom (s3.heap.objs.size + 1) scope.names (cloFrom X.env.cells scope.names [])) s3.heap.objs.size X.env)) (compPost (model X.prog X.w) X.A X.xe use Qf (.ref D) s3.heap.objs.size) { s3 with heap := pushCells (s3.heap.push { cls := .type "dict", data := .dict #[] }) scope.names }
  have nfp : ∀ b ∈ fp, (upd H2 D (.lst [])) b = none := fun b hb => (f3 b hb).1.1
  generalize hce : compEnvC scope (cellsFrom (s3.heap.objs.size + 1) scope.names (cloFrom X.env.cells scope.names [])) s3.heap.objs.size X.env = ce at I4 pg pt pe ⊢
  have cL : ce.locals = s3.heap.objs.size := by subst hce; rfl
  generalize hH3 : upd H2 D (.lst []) = H3 at I3 I4 pg pt pe w0 nfp f3
  generalize hs4 : ({ s3 with heap := pushCells (s3.heap.push { cls := .type "dict", data := .dict #[] }) scope.names } : Shared) = s4 at I4 ⊢
  have st4 : tn 0 s4.heap := T.keep _ _ _ st3 fun b _ o e => by rw [← hs4]; exact pushCells_keeps _ _ _ _ (Heap.get?_push_of_some _ e)
  have stat : ∀ {σ' : St} {H' : Hp} {s' : Shared}, Inv (X.blk s3 H3 scope ce fp) [] σ' H' s' → (∀ b ∈ fp, H' b = none) → ∀ b ∈ fp, FpOk (X.blk s3 H3 scope ce fp) [] H' b := fun {σ' H' s'} I' hn b hb =>
    ⟨hn b hb, (I'.ok.exf b hb).1, I'.ok.exfs b hb, .inl hb, fun x c e => (I'.ok.exf b hb).2 x c e, fun p hp => absurd (show p ∈ ([] : List (Addr × Obj)) ++ [] from hp) (by simp)⟩
  have loop : codeAny (model X.prog X.w) X.A (.compLoop (.ListComp elt [⟨tg, iter, ifs, 0⟩] scope pos) 0 (.ref it) (.ref D) ce) (compPost (model X.prog X.w) X.A X.xe use Qf (.ref D) s3.heap.objs.size) s4 := by
    refine compLoop_any (fun n s' => ∃ i H', Inv (X.blk s3 H3 scope ce fp) [] (wipe σ (own.map (·.2))) H' s' ∧ tn i s'.heap ∧ (∀ b ∈ fp, H' b = none) ∧ W i n H') ?_ m0 ⟨0, H3, I4, st4, nfp, w0⟩
    rintro n s5 ⟨i, H5, I5, st5, n5, w5⟩
    rcases turn i n H5 w5 with ⟨stop, qq⟩ | ⟨go, Nx, hNx, step⟩
    · have td := T.done (X.blk s3 H3 scope ce fp) rfl rfl rfl hc i [] s5 _ H5 (fun _ _ => False) I5 (stat I5 n5) st5 stop
      refine thnF td fun r s6 ⟨hr, I6⟩ => ?_
      subst hr
      -- back in the def's context
      have I7 : Inv X pins σ H5 s6 := I3.call' (ch := fp) I6.os I6.base I6.hok I6.bare fun b hb => ⟨(f3 b hb).1.2.2.2.1, (f3 b hb).1.2.1, (f3 b hb).1.2.2.2.2.1, (f3 b hb).1.2.2.2.2.2⟩
      have nC : H5 s3.heap.objs.size = none := by
        have z : H5 ce.locals = none := I6.free
        rw [cL] at z
        exact z
      obtain ⟨m, hn, _⟩ := I6.loc
      have hn : s6.heap.Ns ce.locals m := hn
      rw [cL] at hn
      exact hRR D s3.heap.objs.size s6 m H5 I7 qq hn (I3.fpOk (Nat.le_refl _) nC)
    · have ti := T.item (X.blk s3 H3 scope ce fp) rfl rfl rfl hc i [] s5 _ H5 (fun _ _ => False) I5 (stat I5 n5) st5 go
      refine thnF ti fun r s6 ⟨u, hr, h6⟩ => ?_
      subst hr
      refine thnF h6 fun _ s7 ⟨x, H7, I7, r7, y7, st7, n7⟩ => ?_
      have I7' := I7.pinned (stat I7 n7) (T.obj _ _ st7)
      refine thnF (pg _ s7 _ H7 x u _ I7' r7 (step x H7 y7)) fun _ s8 ⟨σ8, H8, I8, hw8, q8⟩ => ?_
      refine thnF (pt _ s8 σ8 H8 _ I8 q8) fun b s9 ⟨H9, I9, q9⟩ => ?_
      -- the turn's end
      have fin : ∀ {s' : Shared} {H' : Hp}, Inv (X.blk s3 H3 scope ce fp) ([] ++ pinsAt fp s7.heap) σ8 H' s' → Nx H' → ∃ m, m < n ∧ ∃ i H', Inv (X.blk s3 H3 scope ce fp) [] (wipe σ (own.map (·.2))) H' s' ∧ tn i s'.heap ∧ (∀ b ∈ fp, H' b = none) ∧ W i m H' := fun {s' H'} I' nx => by
        obtain ⟨m', hm, w'⟩ := hNx H' nx
        have pin' : ∀ b ∈ fp, ∀ o, s7.heap.get? b = some o → s'.heap.get? b = some o ∧ H' b = none := fun b hb o e =>
          let z := I'.pin (b, o) (List.mem_append_right _ (List.mem_append_right _ (mem_pinsAt hb e)))
          ⟨z.1, z.2.1⟩
        have hl : (wipe σ (own.map (·.2))).length = σ8.length := by rw [← hw8, wipe_length]
        refine ⟨m', hm, i + 1, H', (I'.unpinned (pins := [])).weak hl (fun j v e => ?_), T.keep _ _ _ st7 fun b hb o e => (pin' b hb o e).1, fun b hb => ?_, w'⟩
        · rw [← hw8] at e
          exact (wipe_some e).1
        · obtain ⟨o, e, _⟩ := T.obj _ _ st7 b hb
          exact (pin' b hb o e).2
      cases b with
      | false =>
        simp only [Bool.false_eq_true, if_false] at q9 ⊢
        exact fin I9 q9
      | true =>
        simp only [if_true] at q9 ⊢
        refine thnF (pe _ s9 σ8 H9 _ I9 q9) fun z s10 ⟨yv, H10, I10, r10, acc, hD10, hz10, nx⟩ => ?_
        exact app_ok (X := X.blk s3 H3 scope ce fp) I10 hD10 hz10 r10 fun s11 I11 => fin I11 nx
  exact codeAny_compStart_list loop (T.self X.A 0 _ _ _ st4 loop)
theorem pe_lc {elt tg iter : Expr} {ifs : List Expr} {scope : Scope} {own : List (Str × Nat)} {pos : Pos} {wi : TI} {g : TG} {tt : TT} {te : TE} (hc : X.calm = true) (hN : X.N.Nodup) (hi : PI X tg iter wi) (ok : BlkOk X.N X.env.scope scope own)
    (hg : ∀ (s : Shared) (H : Hp) (C : Addr) (cl : List (Str × Addr)) (fp : List Addr), PG (X.blk s H scope (compEnvC scope cl C X.env) fp) tg g) (ht : ∀ (s : Shared) (H : Hp) (C : Addr) (cl : List (Str × Addr)) (fp : List Addr), PTs (X.blk s H scope (compEnvC scope cl C X.env) fp) ifs tt)
    (he : ∀ (s : Shared) (H : Hp) (C : Addr) (cl : List (Str × Addr)) (fp : List Addr), PE (X.blk s H scope (compEnvC scope cl C X.env) fp) elt te) (hs : ∀ x, foldedSetIterable iter X.env x = pure x := by intro _; rfl) :
    PE X (.ListComp elt [⟨tg, iter, ifs, 0⟩] scope pos) (tLc wi g tt te (own.map (·.2))) := by
  intro pins s σ H Q I h
  rw [eval_ListComp]
  refine lc_core hc hN I hi ok hg ht he hs h fun D C s' m H' I' q hn f => ⟨m, hn, fun h'' sb => ?_⟩
  obtain ⟨f0, f1, f2, f3, f4, f5⟩ := f
  exact ⟨.ref D, H', I'.turned (t' := s'.toks) (fun b o hb e => (sb.2 b hb).trans e) f0 f1 f3 f4 f5, rfl, q⟩
theorem ps_setLc {i : Nat} {y : Str} {py : Pos} {elt tg iter : Expr} {ifs : List Expr} {scope : Scope} {own : List (Str × Nat)} {pos spos : Pos} {wi : TI} {g : TG} {tt : TT} {te : TE} (hc : X.calm = true) (hN : X.N.Nodup) (hy : X.N[i]? = some y) (hyl : X.env.scope.names.lookup y = some .local)
    (hsw : swapsWith (.ListComp elt [⟨tg, iter, ifs, 0⟩] scope pos) (some (.Name y py)) spos.line X.env = pure true) (hi : PI X tg iter wi) (ok : BlkOk X.N X.env.scope scope own)
    (hg : ∀ (s : Shared) (H : Hp) (C : Addr) (cl : List (Str × Addr)) (fp : List Addr), PG (X.blk s H scope (compEnvC scope cl C X.env) fp) tg g) (ht : ∀ (s : Shared) (H : Hp) (C : Addr) (cl : List (Str × Addr)) (fp : List Addr), PTs (X.blk s H scope (compEnvC scope cl C X.env) fp) ifs tt)
    (he : ∀ (s : Shared) (H : Hp) (C : Addr) (cl : List (Str × Addr)) (fp : List Addr), PE (X.blk s H scope (compEnvC scope cl C X.env) fp) elt te) (hs : ∀ x, foldedSetIterable iter X.env x = pure x := by intro _; rfl) :
    PS X (.Assign [.Name y py] (.ListComp elt [⟨tg, iter, ifs, 0⟩] scope pos) spos) (tAsg (tLc wi g tt te (own.map (·.2))) (gName i)) := by
  intro pins s σ H D I h
  rw [exec_Assign_Name_used _ _ _ _ hsw]
  refine wpAny_bind (wpAny_standAt (wpAny_bind ?_))
  show wpAny _ X.A (do let _ ← comprehension (.ListComp elt [⟨tg, iter, ifs, 0⟩] scope pos) scope X.env (firstIterPos [⟨tg, iter, ifs, 0⟩] pos) (newList []) false (eval iter X.env) (some (assign (.Name y py) X.env))) _ _ s
  have h : tLc wi g tt te (own.map (·.2)) σ H (fun x H1 => gName i x σ H1 D.nx) := h
  refine wpAny_bind (thn (lc_core (Qf := fun _ s' => SP X pins D .next s') hc hN I hi ok hg ht he hs h fun L C s' m H' I' q hn f => ?_) fun _ s' hq => wpAny_pure (wpAny_pure hq))
  show wpAny _ _ (assign (.Name y py) X.env (.ref L)) _ _ _
  refine wpAny_assign_Name (store_ok2 (v := V.ref L) I' hN hy (.inl hyl) rfl (fun s2 I2 ⟨a, sb, ha⟩ => ?_) (.inr hyl))
  obtain ⟨f0, f1, f2, f3, f4, f5⟩ := f
  have haC : C ≠ a := by
    rcases ha with z | z
    · rw [z]; exact f1
    · exact fun e => f4 y a z e.symm
  refine ⟨m, hn.sameBut sb haC, fun h3 sb3 => ?_⟩
  exact ⟨_, H', I2.turned (t' := s2.toks) (fun b o hb e => (sb3.2 b hb).trans e) f0 f1 f3 f4 f5, q⟩
theorem sw_true {elt : Expr} {gs : List Comprehension} {scope : Scope} {pos py : Pos} {y : Str} {l : Nat} {env : Env} (hk : env.scope.kind = .function) (hy : env.scope.names.lookup y = some .local) (hl : (py.line == pos.line) = true)
    (ha : (scope.names.any fun (n, k) => n == y && (k == .local || k == .cell)) = false) : swapsWith (.ListComp elt gs scope pos) (some (.Name y py)) l env = pure true := by
  have ky : env.kindOf y = some .local := hy
  have hb : env.blockKind = .function := by unfold Env.blockKind; rw [hk]; rfl
  unfold swapsWith
  simp only [hb, ky, ha, Expr.pos, hl]
  rfl
end
def blkC (N : List Str) (sc scope : Scope) (own : List (Str × Nat)) : Bool :=
  (match scope.kind with | .function => true | _ => false) && (scope.names.all fun y => decide (scope.names.lookup y.1 = some y.2)) && (own.all fun p => decide (N[p.2]? = some p.1)) &&
    (scope.names.all fun y => match y.2 with
      | .free => (match sc.names.lookup y.1 with | some .cell => true | some .free => true | _ => false)
      | .local => decide (y.1 ∈ own.map (·.1)) || decide (y.1 ∉ N)
      | .cell => decide (y.1 ∈ own.map (·.1)) || decide (y.1 ∉ N)
      | _ => true)
theorem blkOk_by {N : List Str} {sc scope : Scope} {own : List (Str × Nat)} (h : blkC N sc scope own = true) : BlkOk N sc scope own := by
  unfold blkC at h
  simp only [Bool.and_eq_true, List.all_eq_true, decide_eq_true_eq] at h
  obtain ⟨⟨⟨h1, h2⟩, h3⟩, h4⟩ := h
  refine ⟨?_, h2, h3, fun y hy e => ?_, fun y hy e => ?_⟩
  · split at h1
    · assumption
    · cases h1
  · have q := h4 y hy
    simp only [e] at q
    split at q <;> first | exact .inl (by assumption) | exact .inr (by assumption) | cases q
  · have q := h4 y hy
    rcases e with e | e <;> (simp only [e, Bool.or_eq_true, decide_eq_true_eq] at q; exact q)
end L2
namespace L2
open PySem PySem.Spec PyProof.Rows
end L2
namespace L2
open PySem PySem.Spec PyProof.Rows
section
variable {κ : Type} [DecidableEq κ]
def valV (kvs : List (κ × V)) (k : κ) : Option V := (kvs.find? fun kv => decide (kv.1 = k)).map (·.2)
def putK (kvs : List (κ × V)) (k : κ) (v : V) : List (κ × V) :=
  if (kvs.any fun kv => decide (kv.1 = k)) = true then kvs.map (fun kv => if kv.1 = k then (kv.1, v) else kv) else kvs ++ [(k, v)]
def dropK (kvs : List (κ × V)) (k : κ) : List (κ × V) := kvs.filter fun kv => decide (kv.1 ≠ k)
theorem valV_pos {p : κ × V} {r : List (κ × V)} {k : κ} (e : p.1 = k) : valV (p :: r) k = some p.2 := by simp [valV, List.find?_cons, e]
theorem valV_neg {p : κ × V} {r : List (κ × V)} {k : κ} (e : ¬ p.1 = k) : valV (p :: r) k = valV r k := by simp [valV, List.find?_cons, e]
theorem valV_any (k : κ) : ∀ kvs : List (κ × V), (kvs.any fun kv => decide (kv.1 = k)) = (valV kvs k).isSome
  | [] => rfl
  | p :: r => by
    rw [List.any_cons]
    by_cases e : p.1 = k
    · simp only [valV_pos e, decide_eq_true e, Bool.true_or, Option.isSome_some]
    · rw [valV_neg e, decide_eq_false e, Bool.false_or]; exact valV_any k r
theorem RelO.isSome_eq {o : Option V} {u : Option Value} (r : RelO o u) : o.isSome = u.isSome := by
  cases o with
  | none => cases u with
    | none => rfl
    | some _ => exact (show False from r).elim
  | some _ => cases u with
    | none => exact (show False from r).elim
    | some _ => rfl
theorem RelO.getD {o : Option V} {u : Option Value} {d : V} {d' : Value} (r : RelO o u) (rd : RelV d d') : RelV (o.getD d) (u.getD d') := by
  cases o with
  | none => cases u with
    | none => exact rd
    | some _ => exact (show False from r).elim
  | some _ => cases u with
    | none => exact (show False from r).elim
    | some _ => exact r
theorem KV.val {kvs : List (κ × V)} {vs : List (κ × Value)} (r : KV kvs vs) (k : κ) : RelO (valV kvs k) (valueAt vs k) := by
  unfold KV at r
  induction r with
  | nil => exact True.intro
  | @cons p q ps qs h t ih =>
    obtain ⟨h1, h2⟩ := h
    by_cases e : p.1 = k
    · have e' : q.1 = k := h1.symm.trans e
      have b : valueAt (q :: qs) k = some q.2 := by simp [valueAt, List.find?_cons, e']
      rw [valV_pos e, b]; exact h2
    · have e' : ¬ q.1 = k := fun z => e (h1.trans z)
      have b : valueAt (q :: qs) k = valueAt qs k := by simp [valueAt, List.find?_cons, e']
      rw [valV_neg e, b]; exact ih
theorem KV.any {kvs : List (κ × V)} {vs : List (κ × Value)} (r : KV kvs vs) (k : κ) : (kvs.any fun kv => decide (kv.1 = k)) = vs.any fun kv => decide (kv.1 = k) := by
  unfold KV at r
  induction r with
  | nil => rfl
  | cons h t ih => rw [List.any_cons, List.any_cons, ih, h.1]
theorem KV.repl {kvs : List (κ × V)} {vs : List (κ × Value)} (r : KV kvs vs) (k : κ) {y : V} {u : Value} (ry : RelV y u) :
    KV (kvs.map fun kv => if kv.1 = k then (kv.1, y) else kv) (vs.map fun kv => if kv.1 = k then (kv.1, u) else kv) := by
  unfold KV at r ⊢
  induction r with
  | nil => exact .nil
  | @cons p q ps qs h t ih =>
    rw [List.map_cons, List.map_cons]
    refine .cons ?_ ih
    obtain ⟨h1, h2⟩ := h
    by_cases e : p.1 = k
    · rw [if_pos e, if_pos (h1.symm.trans e)]; exact ⟨h1, ry⟩
    · rw [if_neg e, if_neg (fun z => e (h1.trans z))]; exact ⟨h1, h2⟩
theorem KV.put {kvs : List (κ × V)} {vs : List (κ × Value)} (r : KV kvs vs) (k : κ) {y : V} {u : Value} (ry : RelV y u) : KV (putK kvs k y) (stored vs k u) := by
  unfold putK stored
  rw [r.any k]
  by_cases e : (vs.any fun kv => decide (kv.1 = k)) = true
  · rw [if_pos e, if_pos e]; exact r.repl k ry
  · rw [if_neg e, if_neg e]; exact Paired.snoc r ⟨rfl, ry⟩
theorem KV.drop {kvs : List (κ × V)} {vs : List (κ × Value)} (r : KV kvs vs) (k : κ) : KV (dropK kvs k) (without vs k) := by
  unfold KV at r ⊢
  unfold dropK without
  induction r with
  | nil => exact .nil
  | @cons p q ps qs h t ih =>
    obtain ⟨h1, h2⟩ := h
    rw [List.filter_cons, List.filter_cons]
    by_cases e : p.1 = k
    · have a : ¬ decide (p.1 ≠ k) = true := by simp [e]
      have b : ¬ decide (q.1 ≠ k) = true := by simp [h1.symm.trans e]
      rw [if_neg a, if_neg b]; exact ih
    · have e' : ¬ q.1 = k := fun z => e (h1.trans z)
      have a : decide (p.1 ≠ k) = true := by simp [e]
      have b : decide (q.1 ≠ k) = true := by simp [e']
      rw [if_pos a, if_pos b]; exact .cons ⟨h1, h2⟩ ih
theorem KV.keys {kvs : List (κ × V)} {vs : List (κ × Value)} (r : KV kvs vs) : kvs.map (·.1) = vs.map (·.1) := by
  unfold KV at r
  induction r with
  | nil => rfl
  | cons h t ih => rw [List.map_cons, List.map_cons, ih, h.1]
theorem KV.length {kvs : List (κ × V)} {vs : List (κ × Value)} (r : KV kvs vs) : kvs.length = vs.length := Paired.length r
end
abbrev KT (H : Hp) : List (List Key × V) → List (List Key × Addr × Value) → Prop := Paired fun p q => p.1 = q.1 ∧ H q.2.1 = some (.tup (p.1.map kV)) ∧ RelV p.2 q.2.2
theorem KT.val {H : Hp} {kvs : List (List Key × V)} {xs : List (List Key × Addr × Value)} (r : KT H kvs xs) (k : List Key) : RelO (valV kvs k) ((atKey xs k).map (·.2)) := by
  induction r with
  | nil => exact True.intro
  | @cons p q ps qs h t ih =>
    obtain ⟨h1, _, h2⟩ := h
    by_cases e : p.1 = k
    · have e' : q.1 = k := h1.symm.trans e
      have b : atKey (q :: qs) k = some q.2 := by simp [atKey, List.find?_cons, e']
      rw [valV_pos e, b]; exact h2
    · have e' : ¬ q.1 = k := fun z => e (h1.trans z)
      have b : atKey (q :: qs) k = atKey qs k := by simp [atKey, List.find?_cons, e']
      rw [valV_neg e, b]; exact ih
theorem KT.repl {H : Hp} {kvs : List (List Key × V)} {xs : List (List Key × Addr × Value)} (r : KT H kvs xs) (k : List Key) {y : V} {u : Value} (ry : RelV y u) :
    KT H (kvs.map fun kv => if kv.1 = k then (kv.1, y) else kv) (xs.map (putAt k u)) := by
  induction r with
  | nil => exact .nil
  | @cons p q ps qs h t ih =>
    rw [List.map_cons, List.map_cons]
    refine .cons ?_ ih
    obtain ⟨h1, h2, h3⟩ := h
    unfold putAt
    by_cases e : p.1 = k
    · rw [if_pos e, if_pos (h1.symm.trans e)]; exact ⟨h1, h2, ry⟩
    · rw [if_neg e, if_neg (fun z => e (h1.trans z))]; exact ⟨h1, h2, h3⟩
theorem KT.put {H : Hp} {kvs : List (List Key × V)} {xs : List (List Key × Addr × Value)} (r : KT H kvs xs) (k : List Key) {b : Addr} {y : V} {u : Value} (hb : H b = some (.tup (k.map kV))) (ry : RelV y u) :
    KT H (putK kvs k y) (storedH xs k b u) := by
  have e : (kvs.any fun kv => decide (kv.1 = k)) = (atKey xs k).isSome := by
    rw [valV_any, (r.val k).isSome_eq, Option.isSome_map]
  unfold putK storedH
  rw [e]
  by_cases q : (atKey xs k).isSome = true
  · rw [if_pos q, if_pos q]; exact r.repl k ry
  · rw [if_neg q, if_neg q]; exact Paired.snoc r ⟨rfl, hb, ry⟩
theorem KT.keeps {H H' : Hp} {kvs : List (List Key × V)} {xs : List (List Key × Addr × Value)} (r : KT H kvs xs) (ht : ∀ b ys, H b = some (.tup ys) → H' b = some (.tup ys)) : KT H' kvs xs :=
  Paired.mapP r fun _ _ z => ⟨z.1, ht _ _ z.2.1, z.2.2⟩
def DGet (H : Hp) (a : Addr) (y : V) (r : Option V) : Prop :=
  (∃ kvs k, Rd H a (.dK kvs) ∧ y = kV k ∧ r = valV kvs k) ∨ ∃ kvs k b, Rd H a (.dT kvs) ∧ y = .ref b ∧ H b = some (.tup (k.map kV)) ∧ r = valV kvs k
def DPut (H : Hp) (a : Addr) (y v : V) (H' : Hp) : Prop :=
  (∃ kvs k, H a = some (.dK kvs) ∧ y = kV k ∧ kvs.length < sizeLine ∧ H' = upd H a (.dK (putK kvs k v))) ∨
  ∃ kvs k b, H a = some (.dT kvs) ∧ y = .ref b ∧ H b = some (.tup (k.map kV)) ∧ kvs.length < sizeLine ∧ H' = upd H a (.dT (putK kvs k v))
theorem DGet.k {H : Hp} {a : Addr} {kvs : List (Key × V)} {k : Key} (e : H a = some (.dK kvs)) : DGet H a (kV k) (valV kvs k) := .inl ⟨kvs, k, .inl e, rfl, rfl⟩
theorem DGet.t {H : Hp} {a b : Addr} {kvs : List (List Key × V)} {k : List Key} (e : H a = some (.dT kvs)) (eb : H b = some (.tup (k.map kV))) : DGet H a (.ref b) (valV kvs k) := .inr ⟨kvs, k, b, .inl e, rfl, eb, rfl⟩
theorem DPut.k {H : Hp} {a : Addr} {kvs : List (Key × V)} {k : Key} {v : V} (e : H a = some (.dK kvs)) (hl : kvs.length < sizeLine) : DPut H a (kV k) v (upd H a (.dK (putK kvs k v))) := .inl ⟨kvs, k, e, rfl, hl, rfl⟩
theorem DPut.t {H : Hp} {a b : Addr} {kvs : List (List Key × V)} {k : List Key} {v : V} (e : H a = some (.dT kvs)) (eb : H b = some (.tup (k.map kV))) (hl : kvs.length < sizeLine) :
    DPut H a (.ref b) v (upd H a (.dT (putK kvs k v))) := .inr ⟨kvs, k, b, e, rfl, eb, hl, rfl⟩
section
variable {X : Cx} {pins : List (Addr × Obj)} {σ : St} {H : Hp} {s : Shared} {a : Addr} {y v : V} {u r : Value} {o : Option V} {A : Around} {E : Value → Shared → Prop}
theorem Inv.big (I : Inv X pins σ H s) : sysModules < s.heap.objs.size := by
  have h : mainGlobals < s.heap.objs.size := (I.mod.glob.keeps I.bk).lt
  exact Nat.lt_trans (by decide) h
end
theorem dk_empty {P : Program} {w : World} {H : Hp} (h : Heap) (hb : sysModules < h.objs.size) : ObjOk P w H (h.push { cls := .type "dict", data := .dict #[] }) h.objs.size (.dK []) :=
  ⟨Nat.zero_le _, beq_eq_false_iff_ne.mpr (Ne.symm (Nat.ne_of_lt hb)), [], .nil, Heap.DictOf.new h⟩
def tDNewK : TE := fun _ H Q => ∀ p, H p = none → Q (.ref p) (upd H p (.dK []))
section
variable {X : Cx} {pos : Pos}
theorem pe_dnewK : PE X (.Dict [] [] pos) tDNewK := fun pins s σ H Q I h =>
  wpAny_Dict_empty ⟨.ref s.heap.objs.size, _, I.laid (a := s.heap.objs.size) (o := .dK []) (t' := s.toks) (fun _ _ q => Heap.get?_push_of_some _ q) (Nat.le_refl _) (dk_empty s.heap I.big), rfl, h _ (I.hok.fresh (Nat.le_refl _))⟩
end
end L2
namespace L2
open PySem PySem.Spec PyProof.Rows
end L2
namespace L2
open PySem PySem.Spec PyProof.Rows
section
variable {X : Cx} {pins : List (Addr × Obj)} {σ : St} {H : Hp} {s : Shared} {h' : Heap}
theorem Inv.lock {d : Addr} {u : HO} (I : Inv X pins σ H s) (h : H d = some u) (mu : Mut (some u)) : ∃ od, Inv X pins σ (upd H d (.frz od u)) s := by
  have x := I.hok d u h
  have ex : ∃ od, s.heap.get? d = some od := by
    cases u with
    | lst xs => obtain ⟨_, _, _, _, e⟩ := x; exact ⟨_, e⟩
    | dK kvs => obtain ⟨_, _, _, _, o, _, _, e, _⟩ := x; exact ⟨o, e⟩
    | dT kvs => obtain ⟨_, _, _, _, o, _, _, e, _⟩ := x; exact ⟨o, e⟩
    | set S n => obtain ⟨o, _, _, _, e, _⟩ := x; exact ⟨o, e⟩
    | ins C dx fs => obtain ⟨_, _, _, e, _⟩ := x; exact ⟨_, e⟩
    | ext φ => obtain ⟨_, ⟨_, e⟩, _⟩ := x; exact ⟨_, e⟩
    | _ => exact False.elim mu
  obtain ⟨od, e⟩ := ex
  have new : ObjOk X.prog X.w (upd H d (.frz od u)) s.heap d (.frz od u) := by
    refine ⟨e, x.stay (fun b v _ q => q) (fun b q => ?_) fun b xs q => ?_⟩
    · rw [upd_ne (fun z => by rw [z, h] at q; cases q; exact mu)]; exact q
    · rw [upd_ne (fun z => by rw [z, h] at q; cases q; exact mu)]; exact q
  exact ⟨od, I.write (x := d) (e := d) (t' := s.toks) (h' := s.heap) (by rw [h]; exact mu) (.inl rfl) (fun b v _ q => q) ⟨od, e⟩ new⟩
end
section
variable {X : Cx}
theorem pi_one {tg : Expr} {pins : List (Addr × Obj)} {σ : St} {H : Hp} {s : Shared} {R : It → Hp → Prop} {J : It} {tn : Nat → Heap → Prop} {tk : Nat} (I : Inv X pins σ H s) (o : Obj)
    (T : Turn X.prog X.w X.K tg J [s.heap.objs.size] s.heap.objs.size tn) (st : tn 0 (s.heap.push o)) (q : R J H) : PIE X pins σ tg R (.ref s.heap.objs.size) { s with heap := s.heap.push o, toks := tk } := by
  refine ⟨s.heap.objs.size, [s.heap.objs.size], tn, J, H, rfl, I.kept fun b ob e => Heap.get?_push_of_some _ e, T, st, fun b hb => ?_, q⟩
  have e : b = s.heap.objs.size := by simpa using hb
  subst e
  exact I.fpOk (Nat.le_refl _) (I.hok.fresh (Nat.le_refl _))
end
def RgC (i j c : Int) (n : Nat) : Prop := c ≠ 0 ∧ c.natAbs < 1073741824 ∧ Builtin.Range.small i j c = true ∧ Builtin.Range.rangeSize i j c = n
theorem RgC.neg {i j : Int} (ha : -(2 ^ 62) ≤ i) (ha' : i < 2 ^ 62) (hb : -(2 ^ 62) ≤ j) (hb' : j < 2 ^ 62) : RgC i j (-1) (i - j).toNat :=
  ⟨by decide, by decide, PySem.W.small_down ha ha' hb hb', PySem.W.rangeSize_downNat i j⟩
def Its (x : Str) : It := ⟨fun i _ => i < x.cps.size, fun i H v H' => H' = H ∧ ∃ c, x.cps[i]? = some c ∧ v = .str ⟨#[c]⟩, fun i _ => x.cps.size ≤ i⟩
theorem turn_str {P : Program} {w : World} {K : PySem.W.Frag} {tg : Expr} (it : Addr) (x : Str) (t : Tok) (ty : String) (hty : ty = "str_ascii_iterator" ∨ ty = "str_iterator") :
    Turn P w K tg (Its x) [it] it (fun i h => h.IsStrIter it ty x t i) where
  mem := by simp
  obj := fun i h st b hb => by
    have e : b = it := by simpa using hb
    subst e
    obtain ⟨o, e, c, d⟩ := st
    exact ⟨o, e, fun v z => by rw [d] at z; cases z⟩
  keep := fun i h h' st k => let ⟨o, ho, r⟩ := st; ⟨o, k it (by simp) o ho, r⟩
  item := by
    intro X hP hw hK hc i pins s σ H E I hf st hg
    subst hP hw hK
    obtain ⟨f0, f1, f2, f3, f4, f5⟩ := hf it (by simp)
    have W : Walks X.prog X.w X.A it [it] [it] x.cps.size (SignAt x) (fun i h => h.IsStrIter it ty x t i) := by
      rcases hty with e | e
      · rw [e]; exact Walks.strAscii (I.ok.hd hc) it x t
      · rw [e]; exact Walks.strWide (I.ok.hd hc) it x t
    have hno : ["enumerate", "zip", "dict_itemiterator", "dict_reverseitemiterator", "odict_iterator", "itertools.zip_longest", "itertools.pairwise"].contains ty = false := by
      rcases hty with e | e
      · rw [e]; decide
      · rw [e]; decide
    refine W.item i s _ _ hg st fun v h' tk hv st' kk => ?_
    obtain ⟨c, u, hcx, rfl⟩ := hv
    have I1 : Inv X pins σ H { s with heap := h', toks := tk } := I.turned (fun b o hb e => kk b o (by simpa using hb) e) f0 f1 f3 f4 f5
    obtain ⟨oi, e, cc, dd⟩ := id st'
    exact ⟨_, rfl, go_of (s := { s with heap := h', toks := tk }) e cc dd hno ⟨.str ⟨#[c]⟩, H, I1, ⟨u, rfl⟩, ⟨rfl, c, hcx, rfl⟩, st', fun b hb => (hf b hb).1⟩⟩
  done := by
    intro X hP hw hK hc i pins s σ H E I hf st hg
    subst hP hw hK
    obtain ⟨f0, f1, f2, f3, f4, f5⟩ := hf it (by simp)
    have hx : x.cps[i]? = none := Array.getElem?_eq_none hg
    rcases hty with e | e
    · rw [e] at st
      exact wpAny_pyNext_ascii_end (I.ok.hd hc) st hx fun h' eb => ⟨rfl, I.turned (t' := s.toks) (fun b o hb e => eb b o hb e) f0 f1 f3 f4 f5⟩
    · rw [e] at st
      exact wpAny_pyNext_wide_end (I.ok.hd hc) st hx fun h' eb => ⟨rfl, I.turned (t' := s.toks) (fun b o hb e => eb b o hb e) f0 f1 f3 f4 f5⟩
  self := fun A i s Q E st h => by
    rcases hty with e | e
    · rw [e] at st; exact wpAny_pyIter_striter_ascii st h
    · rw [e] at st; exact wpAny_pyIter_striter_wide st h
def iStr (te : TE) : TI := fun σ H R => te σ H fun v H1 => ∃ x, v = .str x ∧ R (Its x) H1
theorem pi_str {X : Cx} {tg e : Expr} {te : TE} (he : PE X e te) : PI X tg e (iStr te) := by
  intro pins s σ H R I h
  refine thn (he pins s σ H _ I h) fun v s1 ⟨y, H1, I1, r1, x, ex, q⟩ => ?_
  subst ex
  obtain ⟨t, rfl⟩ := r1
  cases ha : x.cps.all (· < 128)
  · exact wpAny_pyIter_wide ha (pi_one (tk := s1.toks) I1 _ (turn_str _ x t "str_iterator" (.inr rfl)) ⟨_, Heap.get?_push_size _ rfl, rfl, rfl⟩ q)
  · exact wpAny_pyIter_ascii ha (pi_one (tk := s1.toks) I1 _ (turn_str _ x t "str_ascii_iterator" (.inl rfl)) ⟨_, Heap.get?_push_size _ rfl, rfl, rfl⟩ q)
end L2
section 
namespace Bits
open PySem PyProof.Rows
end Bits
end 
section 
namespace TL
open PySem PySem.Builtin PySem.Builtin.Str PySem.StrLaws
abbrev tl (x : Str) : List Nat := x.cps.toList
theorem len_tl (x : Str) : x.length = (tl x).length := by simp [tl, Str.length]
theorem ext_tl {x y : Str} (h : tl x = tl y) : x = y := Str.ext' (Array.toList_inj.mp h)
theorem tl_append (x y : Str) : tl (x ++ y) = tl x ++ tl y := by
  show (x ++ y).cps.toList = _
  rw [Str.cps_append, Array.toList_append]
def pre (S l : List Nat) : Bool := l.take S.length == S
def spl (S : List Nat) : Nat → List Nat → List Nat → List (List Nat)
  | _, acc, [] => [acc]
  | 0, acc, c :: r => if pre S (c :: r) = true then acc :: spl S (S.length - 1) [] r else spl S 0 (acc ++ [c]) r
  | k + 1, acc, _ :: r => spl S k acc r
def par (S : List Nat) : List Nat → List Nat → Option (List Nat × List Nat)
  | _, [] => none
  | acc, c :: r => if pre S (c :: r) = true then some (acc, (c :: r).drop S.length) else par S (acc ++ [c]) r
theorem spl_nil (S : List Nat) (k : Nat) (acc : List Nat) : spl S k acc [] = [acc] := by cases k <;> rfl
theorem spl_hit {S acc r : List Nat} {c : Nat} (h : pre S (c :: r) = true) : spl S 0 acc (c :: r) = acc :: spl S (S.length - 1) [] r := by
  show (if pre S (c :: r) = true then acc :: spl S (S.length - 1) [] r else spl S 0 (acc ++ [c]) r) = _
  rw [if_pos h]
theorem spl_miss {S acc r : List Nat} {c : Nat} (h : pre S (c :: r) = false) : spl S 0 acc (c :: r) = spl S 0 (acc ++ [c]) r := by
  show (if pre S (c :: r) = true then acc :: spl S (S.length - 1) [] r else spl S 0 (acc ++ [c]) r) = _
  rw [if_neg (by rw [h]; exact Bool.false_ne_true)]
theorem spl_pass (S : List Nat) : ∀ (k : Nat) (acc l : List Nat), spl S k acc l = spl S 0 acc (l.drop k)
  | 0, _, _ => by rw [List.drop_zero]
  | k + 1, acc, [] => by rw [List.drop_nil, spl_nil, spl_nil]
  | k + 1, acc, c :: r => by
    show spl S k acc r = spl S 0 acc (r.drop k)
    exact spl_pass S k acc r
theorem pre_nil {S : List Nat} (hS : S ≠ []) : pre S [] = false := by
  cases S with
  | nil => exact absurd rfl hS
  | cons s S => rfl
theorem getElem_drop_cons {L : List Nat} {a : Nat} (h : a < L.length) : ∃ c, L.drop a = c :: L.drop (a + 1) := ⟨L[a], List.drop_eq_getElem_cons h⟩
theorem spl_run (S L : List Nat) : ∀ (m a : Nat) (acc : List Nat), a + m ≤ L.length → (∀ k, a ≤ k → k < a + m → pre S (L.drop k) = false) →
    spl S 0 acc (L.drop a) = spl S 0 (acc ++ (L.drop a).take m) (L.drop (a + m))
  | 0, a, acc, _, _ => by rw [List.take_zero, List.append_nil, Nat.add_zero]
  | m + 1, a, acc, h, hn => by
    have hlt : a < L.length := by omega
    obtain ⟨c, e⟩ := getElem_drop_cons hlt
    have h0 := hn a (Nat.le_refl _) (by omega)
    have ih := spl_run S L m (a + 1) (acc ++ [c]) (by omega) (fun k h1 h2 => hn k (by omega) (by omega))
    have e2 : a + 1 + m = a + (m + 1) := by omega
    rw [e2] at ih
    rw [e] at h0
    rw [e, spl_miss h0, ih, List.take_succ_cons, List.append_assoc] <;> rfl
theorem drop_two (L : List Nat) (a b : Nat) : (L.drop a).drop b = L.drop (a + b) := by
  first
    | rw [List.drop_drop]
    | rw [List.drop_drop, Nat.add_comm]
theorem spl_at {S L : List Nat} (hS : S ≠ []) {c : Nat} {acc : List Nat} (h : pre S (L.drop c) = true) : spl S 0 acc (L.drop c) = acc :: spl S 0 [] (L.drop (c + S.length)) := by
  rw [← drop_two]
  cases e : L.drop c with
  | nil => rw [e, pre_nil hS] at h; cases h
  | cons d r =>
    rw [e] at h
    rw [spl_hit h, spl_pass]
    cases S with
    | nil => exact absurd rfl hS
    | cons s S => rfl
theorem at_iff {x y : Str} (hy : tl y ≠ []) (i : Nat) : At x y x.length i ↔ pre (tl y) ((tl x).drop i) = true := by
  have hx := len_tl x
  have hl := len_tl y
  constructor
  · intro h
    have h2 := h.2
    rw [subAt_eq, hl] at h2
    exact h2
  · intro h
    have e : ((tl x).drop i).take (tl y).length = tl y := eq_of_beq h
    have e1 := congrArg List.length e
    rw [List.length_take, List.length_drop] at e1
    have e2 : 0 < (tl y).length := List.length_pos_iff.mpr hy
    refine ⟨by omega, ?_⟩
    rw [subAt_eq, hl]
    exact h
theorem no_at {x y : Str} (hy : tl y ≠ []) {i : Nat} (h : ¬ At x y x.length i) : pre (tl y) ((tl x).drop i) = false := by
  cases hp : pre (tl y) ((tl x).drop i) with
  | false => rfl
  | true => exact absurd ((at_iff hy i).mpr hp) h
theorem len1 {y : Str} (hy : tl y ≠ []) : 1 ≤ y.length := by
  have e2 : 0 < (tl y).length := List.length_pos_iff.mpr hy
  rw [len_tl y]
  exact e2
theorem tl_strSub (x : Str) (i j : Nat) : tl (strSub x i j) = ((tl x).drop i).take (j - i) := strSub_toList x i j
theorem tl_strSub_end (x : Str) (i : Nat) : tl (strSub x i x.length) = (tl x).drop i := by
  rw [tl_strSub, len_tl x]
  exact List.take_of_length_le (by rw [List.length_drop] <;> omega)
theorem parts_spl {x y : Str} (hy : tl y ≠ []) : ∀ (cuts : List Nat) (a f : Nat), a ≤ (tl x).length → ChainG x y x.length a cuts f → (∀ k, f ≤ k → ¬ At x y x.length k) →
    (partsFrom x y.length a cuts).map tl = spl (tl y) 0 [] ((tl x).drop a)
  | [], a, f, ha, h, hn => by
    have e : f = a := h
    subst e
    show [tl (strSub x f x.length)] = _
    have run := spl_run (tl y) (tl x) ((tl x).length - f) f [] (by omega) (fun k h1 _ => no_at hy (hn k h1))
    have e2 : f + ((tl x).length - f) = (tl x).length := by omega
    rw [e2, List.drop_length, spl_nil, List.nil_append, List.take_of_length_le (by rw [List.length_drop] <;> omega)] at run
    rw [run, tl_strSub_end]
  | c :: r, a, f, ha, h, hn => by
    obtain ⟨h1, h2, h3, h4⟩ := h
    have hc : c + y.length ≤ x.length := h2.1
    have hx := len_tl x
    have hl := len_tl y
    have ih := parts_spl hy r (c + y.length) f (by omega) h4 hn
    show tl (strSub x a c) :: (partsFrom x y.length (c + y.length) r).map tl = _
    have run := spl_run (tl y) (tl x) (c - a) a [] (by omega) (fun k k1 k2 => no_at hy (h3 k k1 (by omega)))
    have e2 : a + (c - a) = c := by omega
    rw [e2, List.nil_append, spl_at hy ((at_iff hy c).mp h2)] at run
    rw [run, ih, tl_strSub, hl]
theorem split_spl (x y : Str) (hy : tl y ≠ []) (hk : ¬ Builtin.Str.strKind x < Builtin.Str.strKind y) : (Txt.split x y).map tl = spl (tl y) 0 [] (tl x) := by
  obtain ⟨f, g, hn⟩ := occ_tight x y (len1 hy)
  have key := parts_spl hy _ 0 f (Nat.zero_le _) g hn
  rw [List.drop_zero] at key
  have none_case : occurrences x y 0 x.length (x.length + 1) = [] → [x].map tl = spl (tl y) 0 [] (tl x) := fun ho => by
    rw [ho] at key
    rw [← key]
    show [tl x] = [tl (strSub x 0 x.length)]
    rw [sub_whole]
  unfold Txt.split
  by_cases h1 : (decide (x.length < y.length) || decide (Builtin.Str.strKind x < Builtin.Str.strKind y)) = true
  · rw [if_pos h1]
    have hlt : x.length < y.length := by
      simp only [Bool.or_eq_true, decide_eq_true_eq] at h1
      rcases h1 with h | h
      · exact h
      · exact absurd h hk
    refine none_case ?_
    cases ho : occurrences x y 0 x.length (x.length + 1) with
    | nil => rfl
    | cons c r =>
      rw [ho] at g
      have hc : c + y.length ≤ x.length := g.2.1.1
      omega
  · rw [if_neg h1]
    by_cases h2 : (occurrences x y 0 x.length (x.length + 1)).isEmpty = true
    · rw [if_pos h2]
      exact none_case (List.isEmpty_iff.mp h2)
    · rw [if_neg h2, partsBetween_eq]
      exact key
theorem kind_ok {x y : Str} (h : y.cps.all (· < 256) = true) : ¬ Builtin.Str.strKind x < Builtin.Str.strKind y := by
  have e : Builtin.Str.strKind y = 1 := by unfold PySem.Builtin.Str.strKind; rw [if_pos h]
  rw [e]
  unfold PySem.Builtin.Str.strKind
  split
  · omega
  · split <;> omega
def joinL (S : List Nat) : List (List Nat) → List Nat
  | [] => []
  | [p] => p
  | p :: q :: r => p ++ (S ++ joinL S (q :: r))
theorem tl_join (y : Str) : ∀ parts : List Str, tl (Str.join y parts) = joinL (tl y) (parts.map tl)
  | [] => rfl
  | [_] => rfl
  | x :: z :: r => by
    show tl (x ++ y ++ Str.join y (z :: r)) = tl x ++ (tl y ++ joinL (tl y) ((z :: r).map tl))
    rw [tl_append, tl_append, tl_join y (z :: r), List.append_assoc]
theorem join_eq (y : Str) (parts : List Str) : Txt.join y parts = Str.join y parts := glued_eq_join y parts
end TL
end 
namespace L2
open PySem PySem.Spec PyProof.Rows
theorem vals_strs : ∀ l : List (Str × Tok), Vals ((l.map (·.1)).map V.str) (strValues l)
  | [] => .nil
  | p :: r => .cons ⟨p.2, rfl⟩ (vals_strs r)
theorem strs_of_vals : ∀ {ys : List Str} {us : List Value}, Vals (ys.map V.str) us → StrsAre us ys
  | [], _, .nil => .nil
  | y :: ys, _, .cons r t => by
    obtain ⟨k, rfl⟩ := r
    exact .cons y k (strs_of_vals t)
def rNewStrs (ys : List Str) : Hp → VK → Prop := fun H Q => ∀ p, H p = none → Q (.ref p) (upd H p (.lst (ys.map V.str)))
section
variable {X : Cx} {pins : List (Addr × Obj)} {σ : St} {H : Hp} {s : Shared} {Q : VK}
theorem laid_strs {l : List (Str × Tok)} {ys : List Str} {k : Nat} (I : Inv X pins σ H s) (e : l.map (·.1) = ys) (hz : ys.length ≤ sizeLine) (h : rNewStrs ys H Q) :
    EP X pins σ Q (.ref s.heap.objs.size) { s with toks := k, heap := s.heap.push { cls := .type "list", data := .seq (strValues l).toArray } } := by
  have hp := I.hok.fresh (Nat.le_refl _)
  refine ⟨.ref s.heap.objs.size, upd H s.heap.objs.size (.lst (ys.map V.str)), I.laid (fun b u q => Heap.get?_push_of_some _ q) (Nat.le_refl _) ⟨by rw [List.length_map]; exact hz, strValues l, _, ?_, Heap.get?_push_size _ rfl⟩, rfl, h _ hp⟩
  rw [← e]
  exact vals_strs l
end
section
variable {X : Cx}
theorem mt_split : MtR X "str.split" (fun x xs H Q => ∃ a b, x = .str a ∧ xs = [.str b] ∧ (b.length == 0) = false ∧ a.length + 2 ≤ sizeLine ∧ rNewStrs (Txt.split a b) H Q) := by
  intro pins s σ H x xs v us Q I rx rs h
  obtain ⟨a, b, rfl, rfl, hb, hz, h⟩ := h
  obtain ⟨t, rfl⟩ := rx
  cases rs with
  | cons r1 rs =>
    cases rs
    obtain ⟨u, rfl⟩ := r1
    have hl : (Txt.split a b).length ≤ sizeLine := Nat.le_trans (PyProof.Rows.split_le a b) hz
    have hn : (Builtin.Str.partsBetween a (Builtin.Str.occurrences a b 0 a.length (a.length + 1)) b.length).length ≤ sizeLine := by
      have e1 := StrLaws.occ_length_le a b 0 a.length (a.length + 1)
      rw [length_partsBetween]; omega
    cases h1 : (decide (a.length < b.length) || decide (Builtin.Str.strKind a < Builtin.Str.strKind b))
    · cases hf : (Builtin.Str.occurrences a b 0 a.length (a.length + 1)).isEmpty
      · refine call_meets F.slot_str_split (typeIs_str _ _ _) F.entry_str_split (F.args_str_split_2 _ _) (meets_str_split_sep a b t u h1 hb hf (by omega) hn) ?_
        show EP X pins σ Q (.ref s.heap.objs.size) { s with toks := _, heap := s.heap.push { cls := .type "list", data := .seq (strsFrom s.toks (Builtin.Str.partsBetween a (Builtin.Str.occurrences a b 0 a.length (a.length + 1)) b.length)).toArray } }
        rw [strsFrom_eq]
        exact laid_strs (ys := Txt.split a b) I ((numbered_texts _ _).trans ((if_neg (ne_true_of_eq_false h1)).trans (if_neg (ne_true_of_eq_false hf))).symm) hl h
      · refine call_meets F.slot_str_split (typeIs_str _ _ _) F.entry_str_split (F.args_str_split_2 _ _) (meets_str_split_not_found a b t u h1 hb hf) ?_
        exact laid_strs (l := [(a, t)]) (ys := Txt.split a b) (k := s.toks) I ((if_neg (ne_true_of_eq_false h1)).trans (if_pos hf)).symm hl h
    · refine call_meets F.slot_str_split (typeIs_str _ _ _) F.entry_str_split (F.args_str_split_2 _ _) (meets_str_split_cannot_occur a b t u h1) ?_
      exact laid_strs (l := [(a, t)]) (ys := Txt.split a b) (k := s.toks) I (if_pos h1).symm hl h
theorem mt_join : MtR X "str.join" (fun x xs H Q => ∃ a p, ∃ ys : List Str, x = .str a ∧ xs = [.ref p] ∧ (SqL X.K H p (ys.map V.str) ∨ SqT X.K H p (ys.map V.str)) ∧
    (ys.map (·.length)).sum + ys.length * a.length ≤ 16777216 ∧ Q (.str (Txt.join a ys)) H) := by
  intro pins s σ H x xs v us Q I rx rs h
  obtain ⟨a, p, ys, rfl, rfl, hp, hz, h⟩ := h
  obtain ⟨t, rfl⟩ := rx
  cases rs with
  | cons r1 rs =>
    cases rs
    cases r1
    rcases hp with hp | hp
    · obtain ⟨its, r, ⟨o, n, ho, hc, _, hd⟩, _⟩ := I.list hp
      exact PyProof.Rows.join_list (items := its.toArray) ⟨o, ho, hc, n, hd⟩ (by rw [List.toList_toArray]; exact strs_of_vals r) hz fun t' k => ⟨.str _, H, I.tok k, ⟨t', rfl⟩, h⟩
    · obtain ⟨its, r, ht, _⟩ := I.tuple hp
      exact PyProof.Rows.join_tuple (items := its.toArray) ht (by rw [List.toList_toArray]; exact strs_of_vals r) hz fun t' k => ⟨.str _, H, I.tok k, ⟨t', rfl⟩, h⟩
theorem mt1 {id : String} {g : Str → Str → V} (rule : ∀ (a b : Str) (t u : Tok) (s : Shared) (Q : Value → Shared → Prop), (∀ (v : Value) (k : Nat), RelV (g a b) v → Q v { s with toks := k }) →
    wpAny (model X.prog X.w) X.A (call (.builtin id) [.str a t, .str b u]) Q X.xe s) : MtR X id (fun x xs H Q => ∃ a b, x = .str a ∧ xs = [.str b] ∧ Q (g a b) H) := by
  intro pins s σ H x xs v us Q I rx rs h
  obtain ⟨a, b, rfl, rfl, h⟩ := h
  obtain ⟨t, rfl⟩ := rx
  cases rs with
  | cons r1 rs =>
    cases rs
    obtain ⟨u, rfl⟩ := r1
    exact rule a b t u s _ fun v k r => ⟨g a b, H, I.tok k, r, h⟩
theorem mt_startswith : MtR X "str.startswith" (fun x xs H Q => ∃ a b, x = .str a ∧ xs = [.str b] ∧ Q (.bl (Txt.startswith a b)) H) :=
  mt1 (g := fun a b => .bl (Txt.startswith a b)) fun _ _ _ _ s _ h => PySem.SC.startswith (h _ s.toks rfl)
theorem mt_endswith : MtR X "str.endswith" (fun x xs H Q => ∃ a b, x = .str a ∧ xs = [.str b] ∧ Q (.bl (Txt.endswith a b)) H) :=
  mt1 (g := fun a b => .bl (Txt.endswith a b)) fun _ _ _ _ s _ h => PySem.SC.endswith (h _ s.toks rfl)
theorem call_int_str : CallR X (.type "int") (fun xs H Q => ∃ a n, xs = [.str a] ∧ PySem.intText? a = some n ∧ a.length ≤ 640 ∧ Q (.int n) H) := by
  intro pins s σ H xs us Q I rs h
  obtain ⟨a, n, rfl, hn, hl, h⟩ := h
  cases rs with
  | cons r1 rs =>
    cases rs
    obtain ⟨t, rfl⟩ := r1
    exact PySem.W.KIN.call_text hn hl ⟨.int n, H, I.tok _, ⟨_, rfl⟩, h⟩
end
section
variable {X : Cx} {o e : Expr} {to te : TE}
def tM1 (r : V → List V → Hp → VK → Prop) (to te : TE) : TE := fun σ H Q => to σ H fun x H1 => (∃ a, x = .str a) ∧ te σ H1 fun y H2 => r x [y] H2 Q
theorem pe_m1 {id : String} {name : Str} {apos pos : Pos} {r : V → List V → Hp → VK → Prop} (slot : Slot "str" name id) (ty : typeOf (.builtin id) = pure (.type "method_descriptor")) (rule : MtR X id r) (ho : PE X o to) (he : PE X e te)
    (hs : starEach [e] X.env = [(false, eval e X.env)] := by rfl) (hbase : attributeBase o name X.env (eval o X.env) = eval o X.env := by rfl) (hline : (apos.endLine == pos.line) = true := by rfl) :
    PE X (.Call (.Attribute o name apos) [e] [] pos) (tM1 r to te) := by
  intro pins s σ H Q I h
  refine PySem.Call_method1 hbase hs hline (thn (ho pins s σ H _ I h) fun v s1 ⟨x, H1, I1, r1, q1⟩ => ?_)
  obtain ⟨⟨a, rfl⟩, q1⟩ := q1
  obtain ⟨t, rfl⟩ := _root_.id r1
  refine ⟨"str", _, F.plainAttrs_str, slot, ty, typeIs_str _ _ _, (fun _ e => nomatch e), Calls.callWith_builtin rfl (Calls.evalArgs_plain (Calls.spliced_cons ?_))⟩
  exact thn (he pins s1 σ H1 _ I1 q1) fun u s2 ⟨y, H2, I2, r2, q2⟩ => Calls.spliced_nil (rule pins s2 σ H2 _ [y] _ [u] Q I2 r1 (.cons r2 .nil) q2)
theorem pe_join {apos pos : Pos} (ho : PE X o to) (he : PE X e te) (hs : starEach [e] X.env = [(false, eval e X.env)] := by rfl) (hbase : attributeBase o "join" X.env (eval o X.env) = eval o X.env := by rfl) (hline : (apos.endLine == pos.line) = true := by rfl) :
    PE X (.Call (.Attribute o "join" apos) [e] [] pos) (tM1 (fun x xs H Q => ∃ a p, ∃ ys : List Str, x = .str a ∧ xs = [.ref p] ∧ (SqL X.K H p (ys.map V.str) ∨ SqT X.K H p (ys.map V.str)) ∧
      (ys.map (·.length)).sum + ys.length * a.length ≤ 16777216 ∧ Q (.str (Txt.join a ys)) H) to te) :=
  pe_m1 F.slot_str_join F.type_str_join mt_join ho he hs hbase hline
end
end L2
namespace L2
open PySem PySem.Spec PyProof.Rows
section
variable {X : Cx}
theorem op_in_sign : OpR X (compareOp .In) (fun x y H Q => ∃ (c : Nat) (z : Str), x = .str ⟨#[c]⟩ ∧ y = .str z ∧ Q (.bl (decide (c ∈ z.cps.toList))) H) := by
  intro pins s σ H x y v u Q I rx ry h
  obtain ⟨c, z, rfl, rfl, q⟩ := h
  obtain ⟨t, rfl⟩ := rx
  obtain ⟨t', rfl⟩ := ry
  exact PyProof.Rows.in_str (fin_bl I q (PySem.StrLaws.found_one z c).symm)
theorem op_notIn_sign : OpR X (compareOp .NotIn) (fun x y H Q => ∃ (c : Nat) (z : Str), x = .str ⟨#[c]⟩ ∧ y = .str z ∧ Q (.bl (!decide (c ∈ z.cps.toList))) H) := by
  intro pins s σ H x y v u Q I rx ry h
  obtain ⟨c, z, rfl, rfl, q⟩ := h
  obtain ⟨t, rfl⟩ := rx
  obtain ⟨t', rfl⟩ := ry
  exact PyProof.Rows.notIn_str (fin_bl I q (congrArg Bool.not (PySem.StrLaws.found_one z c).symm))
end
theorem IsPart.raw {v : Value} {o : Option Int} (p : IsPart v o) : ∃ l : Option (Int × Tok), v = partValue l ∧ l.map (·.1) = o := by
  cases p with
  | none => exact ⟨none, rfl, rfl⟩
  | int i t => exact ⟨some (i, t), rfl, rfl⟩
def clipS (n d : Nat) : Option Int → Int
  | none => (d : Int)
  | some i => max 0 (min (if i < 0 then i + (n : Int) else i) (n : Int))
theorem clipS_eq (n d : Nat) (o : Option Int) : clipS n d o = ((HT.sIx n d o : Nat) : Int) := by
  cases o with
  | none => rfl
  | some v =>
    show max (0 : Int) (min (if v < 0 then v + (n : Int) else v) (n : Int)) = (((if v < 0 then (v + (n : Int)).toNat else min v.toNat n) : Nat) : Int)
    by_cases hv : v < 0
    · simp only [if_pos hv]
      omega
    · simp only [if_neg hv]
      omega
theorem sidx_clip (a b : Option Int) (n : Nat) : Builtin.Str.strSliceIndices a b 1 n = sliceRange (clipS n 0 a) (clipS n n b) 1 := by
  have h1 : ((1 : Int) > 0) = True := by simp
  cases a <;> cases b <;> first
    | rfl
    | (simp only [Builtin.Str.strSliceIndices, clipS, h1, if_true]; rfl)
    | simp [Builtin.Str.strSliceIndices, clipS]
theorem sidx (a b : Option Int) (n : Nat) : Builtin.Str.strSliceIndices a b 1 n = (List.range (HT.sIx n n b - HT.sIx n 0 a)).map (fun k => HT.sIx n 0 a + k) := by
  rw [sidx_clip, clipS_eq, clipS_eq]
  generalize HT.sIx n 0 a = p
  generalize HT.sIx n n b = q
  simp only [sliceRange, show ((1 : Int) > 0) = True from by simp, if_true]
  by_cases hlt : (p : Int) < q
  · have e3 : (((q : Int) - p + 1 - 1) / 1).toNat = q - p := by first | omega | (simp; done) | (simp; omega)
    simp only [hlt, if_true, e3]
    refine List.map_congr_left fun k _ => ?_
    omega
  · have : q - p = 0 := by omega
    simp [hlt, this]
def cutS (z : Str) (lo hi : Option Int) : Str :=
  ⟨((z.cps.toList.drop (HT.sIx z.length 0 lo)).take (HT.sIx z.length z.length hi - HT.sIx z.length 0 lo)).toArray⟩
theorem sliceText_cut (z : Str) (lo hi : Option Int) : PySem.StrLaws.sliceText z lo hi = cutS z lo hi := by
  have h1 : HT.sIx z.length 0 lo ≤ z.length := HT.sIx_le _ _ (Nat.zero_le _) _
  have h2 : HT.sIx z.length z.length hi ≤ z.length := HT.sIx_le _ _ (Nat.le_refl _) _
  have hp : HT.sIx z.length 0 lo ≤ max (HT.sIx z.length 0 lo) (HT.sIx z.length z.length hi) := Nat.le_max_left _ _
  have hq : max (HT.sIx z.length 0 lo) (HT.sIx z.length z.length hi) ≤ z.length := Nat.max_le.mpr ⟨h1, h2⟩
  have hd : max (HT.sIx z.length 0 lo) (HT.sIx z.length z.length hi) - HT.sIx z.length 0 lo = HT.sIx z.length z.length hi - HT.sIx z.length 0 lo := by omega
  have e : Builtin.Str.strSliceIndices lo hi 1 z.length =
      Builtin.Str.strSliceIndices (some ((HT.sIx z.length 0 lo : Nat) : Int)) (some ((max (HT.sIx z.length 0 lo) (HT.sIx z.length z.length hi) : Nat) : Int)) 1 z.length := by
    rw [PySem.StrLaws.strSliceIndices_plain hp hq, hd, sidx]
  have e2 : PySem.StrLaws.sliceText z lo hi =
      PySem.StrLaws.sliceText z (some ((HT.sIx z.length 0 lo : Nat) : Int)) (some ((max (HT.sIx z.length 0 lo) (HT.sIx z.length z.length hi) : Nat) : Int)) := by
    unfold PySem.StrLaws.sliceText
    rw [e]
  rw [e2, PySem.StrLaws.sliceText_nat z hp hq, hd]
  rfl
theorem cutS_length (z : Str) (lo hi : Option Int) : (cutS z lo hi).length ≤ z.length := by
  show (((z.cps.toList.drop (HT.sIx z.length 0 lo)).take (HT.sIx z.length z.length hi - HT.sIx z.length 0 lo)).toArray).size ≤ z.cps.size
  rw [List.size_toArray, List.length_take, List.length_drop, Array.length_toList]
  omega
def rSlS : V → Option Int → Option Int → Hp → VK → Prop := fun x lo hi H Q => ∃ z, x = .str z ∧ z.length ≤ sizeLine ∧ Q (.str (cutS z lo hi)) H
theorem sl_str {X : Cx} : SlR X rSlS := by
  intro pins s σ H x v vl vu lo hi sl Q I rx hs pl pu h
  obtain ⟨z, rfl, hz, q⟩ := h
  obtain ⟨t, rfl⟩ := rx
  obtain ⟨os, hos, hcs, hds⟩ := hs
  obtain ⟨l, rfl, rfl⟩ := IsPart.raw pl
  obtain ⟨u, rfl, rfl⟩ := IsPart.raw pu
  refine ⟨"str", _, F.slot_str_getitem.lookup, typeIs_str _ _ _, ?_⟩
  refine wpAny_getItem_str_slice (l := l) (u := u) (st := none) ⟨os, hos, hcs, hds⟩ rfl ?_
  have hl : (PySem.StrLaws.sliceText z (l.map (·.1)) (u.map (·.1))).length ≤ sizeLine := by
    rw [sliceText_cut]
    exact Nat.le_trans (cutS_length z _ _) hz
  rw [← sliceText_cut] at q
  unfold PySem.StrLaws.sliceText at q hl
  show Made.post (if ((1 : Int) == 1 && (Builtin.Str.strSliceIndices (l.map (·.1)) (u.map (·.1)) 1 z.length).length == z.length) = true then Made.val (.str z t)
    else Made.str ⟨((Builtin.Str.strSliceIndices (l.map (·.1)) (u.map (·.1)) 1 z.length).filterMap (z.cps[·]?)).toArray⟩) (EP X pins σ Q) s
  by_cases c : ((1 : Int) == 1 && (Builtin.Str.strSliceIndices (l.map (·.1)) (u.map (·.1)) 1 z.length).length == z.length) = true
  · rw [if_pos c] at q ⊢
    exact ⟨.str z, H, I, ⟨t, rfl⟩, q⟩
  · rw [if_neg c] at q hl ⊢
    exact ⟨hl, .str _, H, I.tok _, ⟨_, rfl⟩, q⟩
end L2
namespace Att
open PySem PySem.W PySem.Calls PyProof.Rows
theorem ints_of_wellAll {P : Params} {h : Heap} : ∀ (ns : List Int) (vs : List Value), WellAll P h vs (ns.map WData.int) → IntsAre vs ns := by
  intro ns
  induction ns with
  | nil =>
    intro vs w
    rw [List.map_nil] at w
    cases w
    exact .nil
  | cons n ns ih =>
    intro vs w
    rw [List.map_cons] at w
    cases w with
    | cons a b =>
      cases a
      exact .cons _ _ (ih _ b)
theorem script_of {l : OpenLaw} {n : Nat} (hn : l.most = some n) {P : Params} {h : Heap} {args : List WData} {vals : List Value}
    (hpre : l.row.toRowW.claim.pre args = true) (hwl : WellAll P h vals args) :
    ∃ a vs ns, vals = [Value.ref a] ∧ args = [WData.list (ns.map WData.int)] ∧ h.get? a = some { cls := .type "list", data := .seq vs.toArray } ∧ IntsAre vs ns ∧ ns.length ≤ n := by
  have hsh : WShape.hasAll [] args [.list .int] = true := (pre_splitW hpre).1
  have hc : l.pre.holds [] { args := args } = true := (pre_splitW hpre).2
  obtain ⟨d, r, rfl, h1, h2⟩ := hasAllW_cons hsh
  obtain rfl := hasAllW_nil h2
  obtain ⟨xs, rfl, h3⟩ := hasW_list h1
  obtain ⟨ns, rfl⟩ := items_int h3
  have hlen : ns.length ≤ n := by
    unfold OpenLaw.pre at hc
    have h4 : (WTm.not (.lt (.lit (.int (n : Int))) (.len (.arg 0)))).holds [] { args := [.list (ns.map .int)] } = true := by
      have h4 := (holds_andW hc).1
      rw [hn] at h4
      exact h4
    have h5 := condW_of h4 (w_not (w_lt w_lit (w_len_list (w_arg rfl))))
    rw [List.length_map] at h5
    refine Nat.le_of_not_lt fun q => ?_
    have q' : (n : Int) < ((ns.length : Nat) : Int) := by omega
    first
      | (rw [decide_eq_true q'] at h5; exact absurd h5 (by decide))
      | (simp at h5; omega)
  cases hwl with
  | cons w1 w2 =>
    cases w2
    cases w1 with
    | list ho hall => exact ⟨_, _, ns, rfl, rfl, ho, ints_of_wellAll ns _ hall, hlen⟩
theorem post_true (l : OpenLaw) (args : List WData) : l.row.toRowW.claim.post args (.bool true) args = true :=
  postW_of (r := l.row.toRowW) (X := (true == true))
    (show WShape.has [] (.bool true) .bool = true by first | rfl | decide | simp [WShape.has, WShape.arms, WShape.armsAll])
    (show (WTm.eq .res (.lit (.bool true))).value [] { args := args, res := some (.bool true), after := args } = some (.bool (true == true)) from w_eq_bool (w_res rfl) w_lit) rfl
theorem attach_call {l : OpenLaw} {n : Nat} {q : Program} {loose : List Str} {XP : (Str → Option Value) → Heap → Prop} {YP : World → Heap → Prop} {d : DefRec}
    (hn : l.most = some n) (hdf : d.params.defaults = [])
    (call : ∀ (w : World) (s₀ s₁ : Shared) (mg mb : Str → Option Value) (fa : Addr) (o : Obj) (pm cd doc : Value) (a : Addr) (vs : List Value) (ns : List Int),
      Ground q loose [] XP w s₀ mg mb s₁.heap → YP w s₁.heap →
      s₁.heap.get? fa = some o → o.data = .func (docDef d.name d.params d.body d.scope pm cd doc) → s₁.heap.CodeRec cd d.name → mg d.name = some (.ref fa) →
      s₁.heap.get? a = some { cls := .type "list", data := .seq vs.toArray } → IntsAre vs ns → ns.length ≤ n → s₁.gens = #[] →
      codeAny (model l.prog w) callerA (.call (.ref fa) ⟨[.ref a], []⟩) (fun r s' => r = .ok (.ret (.bool true)) ∧ OldK s₁.heap s'.heap ∧ s'.os = s₁.os ∧ AllBare s'.gens) s₁) :
    WalkO q loose XP YP l.row.toRowW d [] (fun f vs => PySem.call f vs) := by
  intro w s₀ s₁ mg mb G Y fa o pm cd doc dV kV ho hd hcd hD hmg hg args vals as hpre hlay hrd hwl hlo
  obtain rfl : dV = .none := Dflts.none hD hdf
  obtain rfl : kV = .none := Dflts.noKw hD
  obtain ⟨a, vs, ns, rfl, rfl, hobj, hints, hlen⟩ := script_of hn hpre hwl
  refine enter_call (codeAny_mono (call w s₀ s₁ mg mb fa o pm cd doc a vs ns G Y ho (fd_plain hd) hcd hmg hobj hints hlen hg) fun r s' hq => ?_)
  obtain ⟨rfl, h2, h3, h4⟩ := hq
  exact ⟨.inl ⟨.bool true, .bool true, [], rfl, fun _ => rfl, .bool true, post_true l _, fun _ => ⟨List.Pairwise.nil, fun _ hm => (nomatch hm)⟩⟩, h2, h3, h4⟩
end Att
namespace L2
open PySem PySem.Spec PyProof.Rows
theorem vals_ints : ∀ {vs : List Value} {ns : List Int}, IntsAre vs ns → Vals (ns.map V.int) vs
  | _, _, .nil => .nil
  | _, _, .cons n t h => .cons ⟨t, rfl⟩ (vals_ints h)
def Only (H : Hp) : Prop := ∀ b, H b = none ∨ ∃ o xs, H b = some (.frz o (.lst xs))
theorem law_call {P : Program} {w : World} {K : PySem.W.Frag} {mg mb : Str → Option Value} {CX : CXT} {k : Nat} {fa a : Addr} {fd : FuncData} {x : Str} {sp : Sp} {s₁ : Shared} {vs : List Value} {ns : List Int}
    (KX : K.In s₁.heap) (hns : s₁.heap.Ns mainGlobals mg) (hb : s₁.heap.Ns builtinsNs mb) (hbb : ∀ x : Str, x ≠ "__name__" → mb x = bootBuiltins x) (hlim : s₁.heap.NoLimit) (hg : s₁.gens = #[])
    (ha : s₁.heap.get? a = some { cls := .type "list", data := .seq vs.toArray }) (hi : IntsAre vs ns) (hl : ns.length ≤ sizeLine) (hr : Room k callerA)
    (F : ∀ base : Heap, K.In base → base.Ns mainGlobals mg → FnOk P w K mg base CX k fa fd [x] sp) (hbind : ∀ (s : Shared) (u : Value), BindsTo s fd ⟨[u], []⟩ [(x, u)])
    (hsp : ∀ H : Hp, Only H → SqL K H a (ns.map V.int) → sp [.ref a] H (fun v _ => v = .bl true) fun _ _ _ => False)
    (hCX : ∀ H e s', CX [] H s₁ (fun _ _ _ => False) e s' → False) :
    codeAny (model P w) callerA (.call (.ref fa) ⟨[.ref a], []⟩) (fun r s' => r = .ok (.ret (.bool true)) ∧ OldK s₁.heap s'.heap ∧ s'.os = s₁.os ∧ AllBare s'.gens) s₁ := by
  have rv := vals_ints hi
  have lenV := hi.length
  -- from an abstract heap in which nothing but the script may be tracked
  have core : ∀ H : Hp, Only H → SqL K H a (ns.map V.int) → HOk P w H s₁.heap → (∀ b, H b ≠ none → b = a) → (H a ≠ none → K.lookup a = none) →
      codeAny (model P w) callerA (.call (.ref fa) ⟨[.ref a], []⟩) (fun r s' => r = .ok (.ret (.bool true)) ∧ OldK s₁.heap s'.heap ∧ s'.os = s₁.os ∧ AllBare s'.gens) s₁ := by
    intro H hO hS hok hA hK
    have base_of : ∀ {b : Addr} {o : Obj}, s₁.heap.get? b = some o → H b = none → (hidT s₁.heap H).get? b = some o := fun e n => hidT_get e n
    have noA : ∀ {b : Addr} {o : Obj} {es : Array DictEntry} {ep : Nat}, s₁.heap.get? b = some o → o.data = .dict es ep → H b = none := fun {b o es ep} e d => by
      cases q : H b with
      | none => rfl
      | some u =>
        have e' : b = a := hA b (by rw [q]; simp)
        subst e'
        rw [ha] at e; cases e
        have d' : Data.seq vs.toArray _ = Data.dict es ep := d
        cases d'
    have nsK : ∀ {b : Addr} {m : Str → Option Value}, s₁.heap.Ns b m → (hidT s₁.heap H).Ns b m := fun {b m} ⟨o, es, ep, e, d, r⟩ => ⟨o, es, ep, base_of e (noA e d), d, r⟩
    have hKb : K.In (hidT s₁.heap H) := fun b o e => base_of (KX b o e) (by
      cases q : H b with
      | none => rfl
      | some u =>
        have e' : b = a := hA b (by rw [q]; simp)
        subst e'
        rw [hK (by rw [q]; simp)] at e; cases e)
    have hM : Mod K mg (hidT s₁.heap H) := ⟨hKb, nsK hns, ⟨mb, nsK hb, hbb⟩, let ⟨mc, h1, h2⟩ := hlim; ⟨mc, nsK h1, h2⟩⟩
    have e0 : Env0 P w K mg (hidT s₁.heap H) callerA [] s₁ H := ⟨rfl, hM, fun b o e => of_hidT e, Nat.le_of_eq (hidT_size _ _), trivial, fun b hb => absurd (show b ∈ ([] : List Addr) from hb) (by simp), hok, .of_eq hg⟩
    refine codeAny_mono ((F _ hKb (nsK hns)).run callerA [] s₁ H ⟨[.ref a], []⟩ [.ref a] [.ref a] _ _ hr e0 (hbind s₁ (.ref a)) (.cons rfl .nil) (hsp H hO hS)) fun r s' h => ?_
    cases r with
    | error e => exact (hCX H e s' h).elim
    | ok fl =>
      cases fl with
      | next => exact False.elim h
      | brk => exact False.elim h
      | cont => exact False.elim h
      | ret u =>
        obtain ⟨v, H', os, bare, un, hok', r', q⟩ := h
        have q' : v = .bl true := q
        subst q'
        obtain rfl : u = Value.bool true := r'
        refine ⟨rfl, OldK.of_keep fun b o e => ?_, os, bare⟩
        cases q : H b with
        | none => exact un.keep b o e q (by intro z; exact absurd (show b ∈ ([] : List Addr) from z) (by simp)) (by simp)
        | some u =>
          rcases hO b with z | ⟨ob, xs, z⟩
          · rw [q] at z; cases z
          · have z2 := un.frzs b ob _ z
            obtain ⟨e1, _⟩ := hok b _ z
            obtain ⟨e2, _⟩ := hok' b _ z2
            rw [e] at e1; cases e1
            exact e2
  cases hk : K.lookup a with
  | some o =>
    -- the script is one of the module's own objects
    have e := KX a o hk
    rw [ha] at e
    cases e
    refine core (fun _ => none) (fun _ => .inl rfl) (.inr ⟨_, vs.toArray, _, hk, rfl, rfl, rfl, by rw [List.size_toArray, lenV]; exact hl, by simpa using rv⟩) (fun b u z => by have z' : (none : Option HO) = some u := z; cases z') (fun b z => absurd rfl z) fun z => absurd rfl z
  | none =>
    refine core (fun b => if b = a then some (.frz { cls := .type "list", data := .seq vs.toArray } (.lst (ns.map V.int))) else none) (fun b => ?_) (.inl (.inr ⟨{ cls := .type "list", data := .seq vs.toArray }, if_pos rfl⟩)) (fun b u z => ?_) (fun b z => ?_) fun _ => hk
    · by_cases hb : b = a
      · exact .inr ⟨_, _, if_pos hb⟩
      · exact .inl (if_neg hb)
    · by_cases hb : b = a
      · have z' := (if_pos hb).symm.trans z
        cases z'
        subst hb
        exact ⟨ha, by rw [List.length_map]; exact hl, vs, _, rv, ha⟩
      · have z' := (if_neg hb).symm.trans z
        cases z'
    · by_cases hb : b = a
      · exact hb
      · exact absurd (if_neg hb) z
end L2
namespace L2
open PySem PySem.Spec PyProof.Rows
theorem walk_of {l : PySem.W.OpenLaw} {n k : Nat} {q : Program} {loose : List Str} {XP : (Str → Option Value) → Heap → Prop} {YP : World → Heap → Prop} {d : DefRec} {K : Params → PySem.W.Frag} {CX : World → CXT} {sp : World → Sp} {x : Str}
    (hn : l.most = some n) (hn2 : n ≤ sizeLine) (hdf : d.params.defaults = []) (hr : Room k callerA)
    (hY : ∀ (w : World) (h : Heap), YP w h → (K w.params).In h)
    (F : ∀ (w : World) (mg : Str → Option Value) (fa : Addr) (h : Heap), (K w.params).In h → h.Ns mainGlobals mg → mg d.name = some (.ref fa) →
      ∃ fd : FuncData, (∀ (s : Shared) (u : Value), BindsTo s fd ⟨[u], []⟩ [(x, u)]) ∧
        ∀ base : Heap, (K w.params).In base → base.Ns mainGlobals mg → FnOk l.prog w (K w.params) mg base (CX w) k fa fd [x] (sp w))
    (hsp : ∀ (w : World) (H : Hp) (a : Addr) (ns : List Int), ns.length ≤ n → Only H → SqL (K w.params) H a (ns.map V.int) → sp w [.ref a] H (fun v _ => v = .bl true) fun _ _ _ => False)
    (hCX : ∀ (w : World) (H : Hp) (s : Shared) (e : Value) (s' : Shared), CX w [] H s (fun _ _ _ => False) e s' → False) :
    PySem.W.WalkO q loose XP YP l.row.toRowW d [] (fun f vs => PySem.call f vs) := by
  refine Att.attach_call hn hdf fun w s₀ s₁ mg mb fa o pm cd doc a vs ns G Y ho hd hcd hmg hobj hints hlen hg => ?_
  have KX := hY w _ Y
  obtain ⟨fd, hb, hF⟩ := F w mg fa _ KX G.T.g hmg
  exact law_call KX G.T.g G.T.b G.T.builtins G.T.nolimit hg hobj hints (Nat.le_trans hlen hn2) hr hF hb (fun H hO hS => hsp w H a ns hlen hO hS) fun H e s' => hCX w H s₁ e s'
end L2
namespace L2
open PySem PySem.Spec PyProof.Rows
def defArgs (s : Stmt) : Arguments := match s with
  | .FunctionDef _ a _ _ _ _ _ _ _ _ => a
  | _ => { posonlyargs := [], args := [], vararg := none, kwonlyargs := [], kw_defaults := [], kwarg := none, defaults := [] }
def defBody (s : Stmt) : List Stmt := match s with
  | .FunctionDef _ _ b _ _ _ _ _ _ _ => b
  | _ => []
def defScope (s : Stmt) : Scope := match s with
  | .FunctionDef _ _ _ _ _ _ sc _ _ _ => sc
  | _ => { kind := .function, names := [], isGenerator := false, isCoroutine := false }
abbrev CX0 : CXT := fun _ _ _ _ _ _ => False
abbrev E0 : XK := fun _ _ _ => False
theorem pass0 {X : Cx} : Passes CX0 X E0 := fun _ _ _ _ _ _ _ h => h.elim
structure Fun (K : PySem.W.Frag) (x qual : Str) (st : Stmt) (f : Addr) (fd : FuncData) : Prop where
  ex : ∃ (oc : Value) (od : Option Addr) (kV doc pm : Value) (an : Option Addr) (cdv ct : Value) (osl : Array (Option Value)),
    fd = PySem.W.fnOf x qual (defArgs st) (defBody st) (defScope st) .none kV doc pm an cdv ct ∧ K.lookup f = some ⟨oc, od, .func fd, osl⟩ ∧ PySem.W.codeIn K cdv qual = true
  kp : PySem.W.keepIn K (.ref f) = true
section
variable {P : Program} {w : World} {K : PySem.W.Frag} {mg : Str → Option Value} {base : Heap}
theorem Fun.ok {x qual : Str} {st : Stmt} {f : Addr} {fd : FuncData} {N ps : List Str} {k : Nat} {sp : Sp} (F : Fun K x qual st f fd) (S : FnScope N ps (defScope st)) (len : ∀ vs H Q E, sp vs H Q E → vs.length = ps.length)
    (hbody : ∀ (cdv : Value) (A : Around) (outer : List Env) (s : Shared) (H : Hp) (vs : List V) (Q : VK) (E : XK), Room k (A.deeper (envOfC qual (defScope st) s.heap.objs.size f cdv)) → sp vs H Q E →
      ∃ t, PSs (cxOf CX0 P w K mg base N qual (defScope st) f cdv A outer s H E).nox (defBody st) t ∧ t { nx := fun _ H' => Q .non H', rt := Q } (start N vs) H) : FnOk P w K mg base CX0 (k + 1) f fd ps sp := by
  obtain ⟨oc, od, kV, doc, pm, an, cdv, ct, osl, rfl, lk, hcd⟩ := F.ex
  refine fn_of lk hcd S len fun A outer s H vs Q E hr hsp => ?_
  obtain ⟨t, h, q⟩ := hbody cdv A outer s H vs Q E hr hsp
  exact ⟨t, h.nox, q⟩
theorem Fun.binds {x qual : Str} {st : Stmt} {f : Addr} {fd : FuncData} {ps : List Str} (F : Fun K x qual st f fd)
    (h : ∀ (kV doc pm : Value) (an : Option Addr) (cdv ct : Value) (us : List Value), us.length = ps.length → bindArgs (PySem.W.fnOf x qual (defArgs st) (defBody st) (defScope st) .none kV doc pm an cdv ct) ⟨us, []⟩ = pure (ps.zip us)) : Binds K fd ps [] := by
  obtain ⟨oc, od, kV, doc, pm, an, cdv, ct, osl, rfl, lk, hcd⟩ := F.ex
  exact .all (h kV doc pm an cdv ct)
theorem fun_mk {x qual : Str} {st : Stmt} {f : Addr} {oc : Value} {od an : Option Addr} {osl : Array (Option Value)} {kV doc pm cdv ct : Value} (l : K.lookup f = some ⟨oc, od, .func (PySem.W.fnOf x qual (defArgs st) (defBody st) (defScope st) .none kV doc pm an cdv ct), osl⟩)
    (c : PySem.W.codeIn K cdv qual = true) (k : PySem.W.keepIn K (.ref f) = true) : Fun K x qual st f (PySem.W.fnOf x qual (defArgs st) (defBody st) (defScope st) .none kV doc pm an cdv ct) := ⟨⟨oc, od, kV, doc, pm, an, cdv, ct, osl, rfl, l, c⟩, k⟩
end
theorem iteF {A B : Prop} (h : B) : if false = true then A else B := by
  rw [if_neg Bool.false_ne_true]
  exact h
theorem iteT {A B : Prop} (h : A) : if true = true then A else B := by
  rw [if_pos rfl]
  exact h
def Same (H H' : Hp) : Prop := ∀ b o, H b = some o → H' b = some o
theorem Same.refl (H : Hp) : Same H H := fun _ _ h => h
theorem Same.trans {H H1 H2 : Hp} (a : Same H H1) (b : Same H1 H2) : Same H H2 := fun c o h => b c o (a c o h)
theorem Same.free {H H' : Hp} (e : Same H H') {l : Addr} (h : H' l = Option.none) : H l = Option.none := by
  cases q : H l with
  | none => rfl
  | some o =>
    rw [e l o q] at h
    cases h
theorem Same.seq {K : PySem.W.Frag} {H H' : Hp} {a : Addr} {xs : List V} (e : Same H H') (h : SqL K H a xs) : SqL K H' a xs := by
  rcases h with (h | ⟨o, h⟩) | h
  · exact .inl (.inl (e _ _ h))
  · exact .inl (.inr ⟨o, e _ _ h⟩)
  · exact .inr h
theorem nd_ix {α : Type} {l : List α} (hN : l.Nodup) {i j : Nat} {x : α} (a : l[i]? = some x) (b : l[j]? = some x) : i = j := by
  obtain ⟨h1, e1⟩ := List.getElem?_eq_some_iff.mp a
  obtain ⟨h2, e2⟩ := List.getElem?_eq_some_iff.mp b
  exact (List.getElem_inj hN).mp (e1.trans e2.symm)
theorem Same.made {H H1 : Hp} {x dx C : Addr} (nx : H x = Option.none) (nd : H dx = Option.none) (k : ∀ b o, (upd (upd H dx (.own x)) x (.ins C dx [])) b = some o → b ≠ x → H1 b = some o) : Same H H1 := fun b o e =>
  k b o (by rw [upd_ne (ne_of_none e nx), upd_ne (ne_of_none e nd)]; exact e) (ne_of_none e nx)
end L2
namespace L2
open PySem PySem.Spec PyProof.Rows
def xcO (a : Addr) (cls : Value) (dx : Option Addr) (tb : Value) : HO := .ext fun h => ∃ o vs, h.get? a = some o ∧ (o.cls = cls ∧ o.dict = dx) ∧ o.data = .fields vs ∧ vs[1]? = some tb
def tbO (T : Addr) : HO := .ext fun h => ∃ o ts, h.get? T = some o ∧ o.data = .fields ts ∧ ts[3]? = some .none
def Fly (H : Hp) (e : Addr) (cls : Value) (dx : Option Addr) : Prop := H e = some (xcO e cls dx .none) ∨ ∃ T, T ≠ e ∧ H e = some (xcO e cls dx (.ref T)) ∧ H T = some (tbO T)
end L2
namespace L2
open PySem PySem.Spec PyProof.Rows
theorem Fly.ext {H : Hp} {e : Addr} {cls : Value} {dx : Option Addr} (f : Fly H e cls dx) : ∃ φ, H e = some (.ext φ) := by
  rcases f with f | ⟨T, _, f, _⟩
  · exact ⟨_, f⟩
  · exact ⟨_, f⟩
end L2
namespace L2
open PySem PySem.Spec PyProof.Rows
theorem ObjOk.get {P : Program} {w : World} {H : Hp} {h : Heap} {a : Addr} {o : HO} (x : ObjOk P w H h a o) : ∃ ob, h.get? a = some ob := by
  cases o with
  | lst xs => obtain ⟨_, _, _, _, e⟩ := x; exact ⟨_, e⟩
  | tup xs => obtain ⟨_, _, _, ob, e, _⟩ := x; exact ⟨_, e⟩
  | dK kvs => obtain ⟨_, _, _, _, o, _, _, e, _⟩ := x; exact ⟨_, e⟩
  | dT kvs => obtain ⟨_, _, _, _, o, _, _, e, _⟩ := x; exact ⟨_, e⟩
  | set S n => obtain ⟨o, _, _, _, e, _⟩ := x; exact ⟨_, e⟩
  | ins C dx fs => obtain ⟨_, _, _, e, _⟩ := x; exact ⟨_, e⟩
  | own y => exact x
  | xd fs => obtain ⟨_, ⟨_, _, _, e, _⟩, _⟩ := x; exact ⟨_, e⟩
  | rng lo hi => obtain ⟨_, _, _, e⟩ := x; exact ⟨_, e⟩
  | frz ob u => exact ⟨_, x.1⟩
  | tbl ps => exact ⟨_, x⟩
  | met f y => exact ⟨_, x⟩
  | ext φ => exact x.2.1
abbrev veM : List Value := [.type "ValueError", .type "Exception", .type "BaseException", .type "object"]
abbrev Own (mg : Str → Option Value) (base : Heap) (x : Str) (C : Addr) : Prop := OwnCls x C veM "ValueError.__new__" mg base
end L2
namespace L2
open PySem PySem.Spec PySem.Calls PyProof.Rows PySem.W
end L2
namespace L2
open PySem PySem.Spec PyProof.Rows
end L2
namespace L2
open PySem PySem.Spec PyProof.Rows
end L2
namespace L2
open PySem PySem.Spec PyProof.Rows
def behind (i : Nat) (D : Ends) : Ends := { nx := fun σ H => D.nx (σ.set i none) H, rt := D.rt, bk := fun σ H => D.bk (σ.set i none) H, ct := fun σ H => D.ct (σ.set i none) H }
end L2
namespace L2
open PySem PySem.Spec PyProof.Rows
end L2
namespace L2
open PySem PySem.Spec PyProof.Rows PySem.W
def cdO (c : Addr) (qual : Str) : HO := .ext fun h => ∃ o vs t, h.get? c = some o ∧ o.data = .fields vs ∧ vs[1]? = some (.str qual t)
theorem HOk.grow {P' : Program} {w : World} {H H3 : Hp} {h h' : Heap} {P : Addr} {ps : Array Value} (ok : HOk P' w H h) (hP : H P = some (.tbl ps)) (kp : ∀ b u, b ≠ P → h.get? b = some u → h'.get? b = some u) (same : ∀ b o, b ≠ P → H b = some o → H3 b = some o)
    (new : ∀ b o, H3 b = some o → (H b = some o ∧ b ≠ P) ∨ ObjOk P' w H3 h' b o) : HOk P' w H3 h' := fun b o e => by
  rcases new b o e with ⟨e1, hb⟩ | q
  · refine (ok b o e1).stay (fun c u hc q => kp c u ?_ q) (fun c q => same c _ (fun z => by rw [z, hP] at q; cases q) q) fun c xs q => same c _ (fun z => by rw [z, hP] at q; cases q) q
    rcases hc with rfl | hc
    · exact hb
    · rintro rfl; rw [hP] at hc; cases hc
  · exact q
theorem Un.grow {fs : List Addr} {H H3 : Hp} {h h' : Heap} {P : Addr} {ps more : Array Value} (hP : H P = some (.tbl ps)) (kp : ∀ b u, b ≠ P → h.get? b = some u → h'.get? b = some u) (same : ∀ b o, b ≠ P → H b = some o → H3 b = some o) (hP3 : H3 P = some (.tbl (ps ++ more)))
    (hPh : ∃ o, h'.get? P = some o) (free : ∀ b o, h.get? b = some o → H b = none → H3 b = none) : Un fs [] H H3 h h' where
  keep := fun b o q n _ _ => kp b o (fun z => by rw [z, hP] at n; cases n) q
  slot := fun b o q n _ _ => ⟨o.slots, kp b o (fun z => by rw [z, hP] at n; cases n) q⟩
  free := fun b o q n _ => free b o q n
  there := fun b o q _ => by
    by_cases hb : b = P
    · subst hb; exact hPh
    · exact ⟨o, kp b o hb q⟩
  tups := fun b xs q => same b _ (fun z => by rw [z, hP] at q; cases q) q
  frzs := fun b o u q => same b _ (fun z => by rw [z, hP] at q; cases q) q
  tbls := fun b qs q => by
    by_cases hb : b = P
    · subst hb; rw [hP] at q; cases q; exact ⟨more, hP3⟩
    · exact ⟨#[], by rw [same b _ hb q]; simp⟩
def TabOk (H : Hp) (P : Addr) (qual : Str) : Prop := ∃ ps, H P = some (.tbl ps) ∧ TriplesOk ps.toList ∧ ∀ pos cv, codeAmong pos ps.toList = some cv → ∃ c, cv = .ref c ∧ H c = some (cdO c qual)
end L2
namespace L2
open PySem PySem.Spec PyProof.Rows PySem.W
end L2
namespace L2
open PySem PySem.Spec PyProof.Rows
def celO (c : Addr) (ob : Obj) : HO := .ext fun h => h.get? c = some ob
def trackL (H : Hp) (cs : List (Addr × Obj)) : Hp := fun b => match cs.lookup b with
  | some ob => some (celO b ob)
  | none => H b
def dropL (H : Hp) (cs : List (Addr × Obj)) : Hp := fun b => match cs.lookup b with
  | some _ => none
  | none => H b
section
variable {H : Hp} {cs : List (Addr × Obj)} {b : Addr} {ob : Obj}
theorem trackL_out (h : cs.lookup b = none) : trackL H cs b = H b := by unfold trackL; rw [h]
theorem dropL_in (h : cs.lookup b = some ob) : dropL H cs b = none := by unfold dropL; rw [h]
theorem dropL_out (h : cs.lookup b = none) : dropL H cs b = H b := by unfold dropL; rw [h]
end
section
variable {P : Program} {w : World} {H H' : Hp} {h h' : Heap} {cs : List (Addr × Obj)} {fs : List Addr}
theorem lk_none (hn : ∀ b ob, cs.lookup b = some ob → H b = none) {b : Addr} {o : HO} (e : H b = some o) : cs.lookup b = none := by
  cases q : cs.lookup b with
  | none => rfl
  | some ob => rw [hn b ob q] at e; cases e
theorem lk_none' (ht : ∀ b ob, cs.lookup b = some ob → H b = some (celO b ob)) {b : Addr} {o : HO} (e : H b = some o) (d : ∀ ob, o ≠ celO b ob) : cs.lookup b = none := by
  cases q : cs.lookup b with
  | none => rfl
  | some ob => rw [ht b ob q] at e; cases e; exact absurd rfl (d ob)
theorem HOk.drop (ok : HOk P w H h) (ht : ∀ b ob, cs.lookup b = some ob → H b = some (celO b ob)) : HOk P w (dropL H cs) h := fun b o e => by
  cases q : cs.lookup b with
  | some ob => rw [dropL_in q] at e; cases e
  | none =>
    rw [dropL_out q] at e
    exact (ok b o e).stay (fun _ _ _ r => r) (fun c r => by rw [dropL_out (lk_none' ht r (fun _ z => nomatch z))]; exact r) fun c xs r => by rw [dropL_out (lk_none' ht r (fun _ z => nomatch z))]; exact r
theorem Un.behind (u : Un fs [] (trackL H cs) H' h h') (hg : ∀ b ob, cs.lookup b = some ob → h.get? b = some ob) (hn : ∀ b ob, cs.lookup b = some ob → H b = none) (ht : ∀ b ob, cs.lookup b = some ob → H' b = some (celO b ob)) (ok : HOk P w H' h') : Un fs [] H (dropL H' cs) h h' where
  keep := fun b o q n hb hx => by
    cases z : cs.lookup b with
    | some ob => obtain ⟨e, _⟩ := ok b _ (ht b ob z); rw [hg b ob z] at q; cases q; exact e
    | none => exact u.keep b o q (by rw [trackL_out z]; exact n) hb hx
  slot := fun b o q n hb hx => by
    cases z : cs.lookup b with
    | some ob => obtain ⟨e, _⟩ := ok b _ (ht b ob z); rw [hg b ob z] at q; cases q; exact ⟨o.slots, e⟩
    | none => exact u.slot b o q (by rw [trackL_out z]; exact n) hb hx
  free := fun b o q n hx => by
    cases z : cs.lookup b with
    | some ob => exact dropL_in z
    | none => rw [dropL_out z]; exact u.free b o q (by rw [trackL_out z]; exact n) hx
  there := u.there
  tups := fun b xs e => by
    have z := lk_none hn e
    rw [dropL_out z]; exact u.tups b xs (by rw [trackL_out z]; exact e)
  frzs := fun b o x e => by
    have z := lk_none hn e
    rw [dropL_out z]; exact u.frzs b o x (by rw [trackL_out z]; exact e)
  tbls := fun b ps e => by
    have z := lk_none hn e
    rw [dropL_out z]; exact u.tbls b ps (by rw [trackL_out z]; exact e)
end
end L2
namespace L2
open PySem PySem.Spec PyProof.Rows PySem.W
end L2
namespace L2
open PySem PySem.Spec PyProof.Rows PySem.W
end L2
namespace L2
open PySem PySem.Spec PyProof.Rows PySem.W
structure Room0 (k : Nat) (A : Around) : Prop where
  dp : A.depth + 3 * k + 5 < recursionLimit
  un : A.units + 16 * k + 200 < cLine
  gd : A.guards = some []
theorem Room0.calm {k : Nat} {A : Around} (r : Room0 k A) : Room k { A with handled := none } := ⟨rfl, r.dp, r.un, r.gd⟩
end L2
namespace L2
open PySem PySem.Spec PyProof.Rows PySem.W
end L2
namespace L2
open PySem PySem.Spec PyProof.Rows PySem.W
end L2
namespace DL
open PySem PySem.Spec PyProof.Rows L2
structure OW where
  /-- the owned lists, by places; locked ones (a comprehension's own list while it is made) -/
  o : List Addr
  k : List Addr
  /-- of a locked table: the name of the lambdas in it -/
  q : Addr → Option Str
def OW.has (L : OW) (a : Addr) : Prop := a ∈ L.o ∨ a ∈ L.k
instance (L : OW) (a : Addr) : Decidable (L.has a) := inferInstanceAs (Decidable (_ ∨ _))
def Off (L : OW) (H : Hp) : Hp := fun a => if L.has a then none else H a
theorem off_some {L : OW} {H : Hp} {b : Addr} {o : HO} : Off L H b = some o ↔ ¬ L.has b ∧ H b = some o := by
  unfold Off; by_cases h : L.has b <;> simp [h]
theorem off_same (L : OW) (H : Hp) : Same (Off L H) H := fun _ _ h => (off_some.mp h).2
theorem seqT {K : PySem.W.Frag} {H H' : Hp} {a : Addr} {xs : List V} (e : Same H H') (h : SqT K H a xs) : SqT K H' a xs := by
  rcases h with (h | ⟨o, h⟩) | h
  · exact .inl (.inl (e _ _ h))
  · exact .inl (.inr ⟨o, e _ _ h⟩)
  · exact .inr h
mutual
theorem dp_mono {K : PySem.W.Frag} {H H' : Hp} (s : Same H H') : ∀ (d : PyData) (v : V), Dp K H v d → Dp K H' v d
  | .none, _, h => by cases h; exact .non
  | .bool b, _, h => by cases h; exact .bl b
  | .int i, _, h => by cases h; exact .int i
  | .str x, _, h => by cases h; exact .str x
  | .list ds, _, h => by
    cases h with
    | lst hs ha => exact .lst (s.seq hs) (dps_mono s ds _ ha)
  | .tuple ds, _, h => by
    cases h with
    | tup hs ha => exact .tup (seqT s hs) (dps_mono s ds _ ha)
  | .dict _, _, h => by
    cases h with
    | dct e => exact .dct (s _ _ e)
theorem dps_mono {K : PySem.W.Frag} {H H' : Hp} (s : Same H H') : ∀ (ds : List PyData) (vs : List V), DpAll K H vs ds → DpAll K H' vs ds
  | [], _, h => by cases h; exact .nil
  | d :: ds, _, h => by
    cases h with
    | cons h1 h2 => exact .cons (dp_mono s d _ h1) (dps_mono s ds _ h2)
end
theorem _root_.L2.Dp.mono {K : PySem.W.Frag} {H H' : Hp} {v : V} {d : PyData} (s : Same H H') (h : Dp K H v d) : Dp K H' v d := dp_mono s d v h
theorem _root_.L2.DpAll.mono {K : PySem.W.Frag} {H H' : Hp} {vs : List V} {ds : List PyData} (s : Same H H') (h : DpAll K H vs ds) : DpAll K H' vs ds := dps_mono s ds vs h
theorem dps_len {K : PySem.W.Frag} {H : Hp} : ∀ {vs : List V} {ds : List PyData}, DpAll K H vs ds → vs.length = ds.length
  | _, _, .nil => rfl
  | _, _, .cons _ h => by simp [dps_len h]
theorem dps_app {K : PySem.W.Frag} {H : Hp} : ∀ {vs ws : List V} {ds es : List PyData}, DpAll K H vs ds → DpAll K H ws es → DpAll K H (vs ++ ws) (ds ++ es)
  | _, _, _, _, .nil, h => h
  | _, _, _, _, .cons a r, h => .cons a (dps_app r h)
theorem dps_get {K : PySem.W.Frag} {H : Hp} : ∀ {vs : List V} {ds : List PyData} {i : Nat} {d : PyData}, DpAll K H vs ds → ds[i]? = some d → ∃ v, vs[i]? = some v ∧ Dp K H v d
  | _, _, _, _, .nil, e => by simp at e
  | _, _, 0, _, .cons a _, e => by simp at e; subst e; exact ⟨_, rfl, a⟩
  | _, _, i + 1, d, .cons _ r, e => by
    obtain ⟨u, h1, h2⟩ := dps_get (i := i) (d := d) r (by simpa using e)
    exact ⟨u, by simpa using h1, h2⟩
theorem dps_take {K : PySem.W.Frag} {H : Hp} (n : Nat) : ∀ {vs : List V} {ds : List PyData}, DpAll K H vs ds → DpAll K H (vs.take n) (ds.take n) := by
  induction n with
  | zero => intro vs ds _; simpa using DpAll.nil
  | succ n ih => intro vs ds h; cases h with
    | nil => exact .nil
    | cons a r => exact .cons a (ih r)
theorem dps_drop {K : PySem.W.Frag} {H : Hp} (n : Nat) : ∀ {vs : List V} {ds : List PyData}, DpAll K H vs ds → DpAll K H (vs.drop n) (ds.drop n) := by
  induction n with
  | zero => intro vs ds h; exact h
  | succ n ih => intro vs ds h; cases h with
    | nil => exact .nil
    | cons a r => exact ih r
theorem dps_set {K : PySem.W.Frag} {H : Hp} {v : V} {d : PyData} (hv : Dp K H v d) : ∀ {vs : List V} {ds : List PyData} (i : Nat), DpAll K H vs ds → DpAll K H (vs.set i v) (ds.set i d)
  | _, _, _, .nil => .nil
  | _, _, 0, .cons _ r => .cons hv r
  | _, _, i + 1, .cons a r => .cons a (dps_set hv i r)
structure Step (L : OW) (H : Hp) (L' : OW) (H' : Hp) : Prop where
  ext : ∃ M, L'.o = L.o ++ M ∧ ∀ l ∈ M, H l = none
  lk : L'.k = L.k ∧ L'.q = L.q
  keep : ∀ b o, b ∉ L.o → (b ∈ L.k → ∃ xs, o = .lst xs) → H b = some o → H' b = some o
  grow : ∀ b, H' b = none → H b = none
  tab : ∀ b q, b ∈ L.k → L.q b = some q → TabOk H b q → TabOk H' b q
theorem tab_same {H H' : Hp} {b : Addr} {q : Str} (s : Same H H') (h : TabOk H b q) : TabOk H' b q := by
  obtain ⟨ps, e, t, c⟩ := h
  exact ⟨ps, s _ _ e, t, fun pos cv z => let ⟨c', e1, e2⟩ := c pos cv z; ⟨c', e1, s _ _ e2⟩⟩
theorem tab_keep {H H' : Hp} {a b : Addr} {q : Str} {o : HO} (ha : H a = some o) (h1 : ∀ ps, o ≠ .tbl ps) (h2 : ∀ φ, o ≠ .ext φ) (k : ∀ c u, c ≠ a → H c = some u → H' c = some u) (h : TabOk H b q) : TabOk H' b q := by
  obtain ⟨ps, e, t, c⟩ := h
  refine ⟨ps, k _ _ (fun z => by rw [z, ha] at e; cases e; exact h1 _ rfl) e, t, fun pos cv z => ?_⟩
  obtain ⟨c', e1, e2⟩ := c pos cv z
  exact ⟨c', e1, k _ _ (fun z => by rw [z, ha] at e2; cases e2; exact h2 _ rfl) e2⟩
theorem tab_upd {H : Hp} {a b : Addr} {q : Str} {o o' : HO} (ha : H a = some o) (h1 : ∀ ps, o ≠ .tbl ps) (h2 : ∀ φ, o ≠ .ext φ) (h : TabOk H b q) : TabOk (upd H a o') b q :=
  tab_keep ha h1 h2 (fun c u hc e => by rw [upd_ne hc]; exact e) h
theorem Step.refl (L : OW) (H : Hp) : Step L H L H := ⟨⟨[], by simp, by simp⟩, ⟨rfl, rfl⟩, fun _ _ _ _ h => h, fun _ h => h, fun _ _ _ _ e => e⟩
theorem Step.trans {L L1 L2 : OW} {H H1 H2 : Hp} (a : Step L H L1 H1) (b : Step L1 H1 L2 H2) : Step L H L2 H2 := by
  obtain ⟨M, e, hM⟩ := a.ext
  obtain ⟨M', e', hM'⟩ := b.ext
  refine ⟨⟨M ++ M', by rw [e', e, List.append_assoc], fun l hl => ?_⟩, ⟨b.lk.1.trans a.lk.1, b.lk.2.trans a.lk.2⟩, fun c o hc hk h => ?_, fun c h => a.grow c (b.grow c h), fun c q hc hq h => b.tab c q (by rw [a.lk.1]; exact hc) (by rw [a.lk.2]; exact hq) (a.tab c q hc hq h)⟩
  · rcases List.mem_append.mp hl with z | z
    · exact hM l z
    · exact a.grow l (hM' l z)
  · refine b.keep c o (fun z => ?_) (fun z => hk (by rw [← a.lk.1]; exact z)) (a.keep c o hc hk h)
    rw [e] at z
    rcases List.mem_append.mp z with z | z
    · exact hc z
    · rw [hM c z] at h; cases h
theorem Step.same {L L' : OW} {H H' : Hp} (a : Step L H L' H') : Same (Off L H) (Off L' H') := fun b o h => by
  obtain ⟨hb, e⟩ := off_some.mp h
  obtain ⟨M, eM, hM⟩ := a.ext
  refine off_some.mpr ⟨fun z => ?_, a.keep b o (fun z => hb (.inl z)) (fun z => absurd (.inr z) hb) e⟩
  rcases z with z | z
  · rw [eM] at z
    rcases List.mem_append.mp z with z | z
    · exact hb (.inl z)
    · rw [hM b z] at e; cases e
  · rw [a.lk.1] at z; exact hb (.inr z)
theorem Step.of_same {L : OW} {H H' : Hp} (s : Same H H') : Step L H L H' := ⟨⟨[], by simp, by simp⟩, ⟨rfl, rfl⟩, fun b o _ _ h => s b o h, fun b h => s.free h, fun b q _ _ e => tab_same s e⟩
theorem same_upd {H : Hp} {p : Addr} {o : HO} (h : H p = none) : Same H (upd H p o) := fun b u e => by rw [upd_ne (ne_of_none e h)]; exact e
inductive Sl where
  | un | dat (d : PyData) | own (k : Nat) | fn (x : Str) | dct (kvs : List (Key × PyData)) | dtt (kvs : List (List Key × PyData)) | exc (x : Str)
abbrev Rho := List Sl
abbrev Mu := List (List PyData)
def SlotR (K : PySem.W.Frag) (L : OW) (H : Hp) : Option V → Sl → Prop
  | _, .un => True
  | o, .dat d => ∃ v, o = some v ∧ Dp K (Off L H) v d
  | o, .own k => ∃ l, L.o[k]? = some l ∧ o = some (.ref l)
  | o, .fn x => ∃ f, o = some (.ref f) ∧ PySem.W.nsIn K mainGlobals x = some (some (.ref f))
  | o, .dct kvs => ∃ a vs, o = some (.ref a) ∧ Off L H a = some (.dK vs) ∧ Paired (fun (p : Key × V) (q : Key × PyData) => p.1 = q.1 ∧ Dp K (Off L H) p.2 q.2) vs kvs
  | o, .exc x => ∃ a C tb, o = some (.ref a) ∧ PySem.W.nsIn K mainGlobals x = some (some (.ref C)) ∧ Off L H a = some (xcO a (.ref C) none tb)
  | o, .dtt kvs => ∃ a vs, o = some (.ref a) ∧ Off L H a = some (.dT vs) ∧ Paired (fun (p : List Key × V) (q : List Key × PyData) => p.1 = q.1 ∧ Dp K (Off L H) p.2 q.2) vs kvs
def StoreR (K : PySem.W.Frag) (L : OW) (H : Hp) (mu : Mu) : Prop := Paired (fun l ds => ∃ vs, H l = some (.lst vs) ∧ DpAll K (Off L H) vs ds) L.o mu
class Tabs where
  t : List (Addr × Str)
variable [Tabs]
structure EnvR (K : PySem.W.Frag) (L : OW) (H : Hp) (σ : L2.St) (ρ : Rho) (μ : Mu) : Prop where
  nd : L.o.Nodup ∧ ∀ p ∈ Tabs.t, p.1 ∈ L.k ∧ L.q p.1 = some p.2
  lk : ∀ l ∈ L.k, l ∉ L.o ∧ (((∃ xs, H l = some (.lst xs)) ∧ ∀ q, (l, q) ∉ Tabs.t) ∨ ∃ q, L.q l = some q ∧ TabOk H l q)
  sl : Paired (SlotR K L H) σ ρ
  st : StoreR K L H μ
theorem pr_len {α β : Type} {R : α → β → Prop} : ∀ {xs : List α} {ys : List β}, Paired R xs ys → xs.length = ys.length
  | _, _, .nil => rfl
  | _, _, .cons _ h => by simp [pr_len h]
theorem pr_get {α β : Type} {R : α → β → Prop} : ∀ {xs : List α} {ys : List β} {i : Nat} {y : β}, Paired R xs ys → ys[i]? = some y → ∃ x, xs[i]? = some x ∧ R x y
  | _, _, _, _, .nil, e => by simp at e
  | _, _, 0, _, .cons a _, e => by simp at e; subst e; exact ⟨_, rfl, a⟩
  | _, _, i + 1, y, .cons _ r, e => by
    obtain ⟨u, h1, h2⟩ := pr_get (i := i) (y := y) r (by simpa using e)
    exact ⟨u, by simpa using h1, h2⟩
theorem pr_get' {α β : Type} {R : α → β → Prop} : ∀ {xs : List α} {ys : List β} {i : Nat} {x : α}, Paired R xs ys → xs[i]? = some x → ∃ y, ys[i]? = some y ∧ R x y
  | _, _, _, _, .nil, e => by simp at e
  | _, _, 0, _, .cons a _, e => by simp at e; subst e; exact ⟨_, rfl, a⟩
  | _, _, i + 1, y, .cons _ r, e => by
    obtain ⟨u, h1, h2⟩ := pr_get' (i := i) (x := y) r (by simpa using e)
    exact ⟨u, by simpa using h1, h2⟩
theorem pr_set {α β : Type} {R : α → β → Prop} {x : α} {y : β} (r : R x y) : ∀ {xs : List α} {ys : List β} (i : Nat), Paired R xs ys → Paired R (xs.set i x) (ys.set i y)
  | _, _, _, .nil => .nil
  | _, _, 0, .cons _ t => .cons r t
  | _, _, i + 1, .cons q t => .cons q (pr_set r i t)
theorem pr_imp {α β : Type} {R S : α → β → Prop} (f : ∀ a b, R a b → S a b) : ∀ {xs : List α} {ys : List β}, Paired R xs ys → Paired S xs ys
  | _, _, .nil => .nil
  | _, _, .cons a r => .cons (f _ _ a) (pr_imp f r)
theorem pr_imp_mem {α β : Type} {R S : α → β → Prop} : ∀ {xs : List α} {ys : List β}, (∀ a b, a ∈ xs → R a b → S a b) → Paired R xs ys → Paired S xs ys
  | _, _, _, .nil => .nil
  | _, _, f, .cons a r => .cons (f _ _ (by simp) a) (pr_imp_mem (fun x y hx => f x y (by simp [hx])) r)
theorem pr_app {α β : Type} {R : α → β → Prop} : ∀ {xs xs' : List α} {ys ys' : List β}, Paired R xs ys → Paired R xs' ys' → Paired R (xs ++ xs') (ys ++ ys')
  | _, _, _, _, .nil, h => h
  | _, _, _, _, .cons a r, h => .cons a (pr_app r h)
theorem pr_take {α β : Type} {R : α → β → Prop} (n : Nat) : ∀ {xs : List α} {ys : List β}, Paired R xs ys → Paired R (xs.take n) (ys.take n) := by
  induction n with
  | zero => intro xs ys _; simpa using Paired.nil
  | succ n ih => intro xs ys h; cases h with
    | nil => exact .nil
    | cons a r => exact .cons a (ih r)
theorem StoreR.has {K : PySem.W.Frag} {L : OW} {H : Hp} {μ : Mu} (h : StoreR K L H μ) : ∀ l ∈ L.o, H l ≠ none := fun l hl z => by
  obtain ⟨i, e⟩ := List.getElem?_of_mem hl
  obtain ⟨ds, _, vs, q, _⟩ := pr_get' h e
  rw [q] at z; cases z
theorem StoreR.same {K : PySem.W.Frag} {L : OW} {H H' : Hp} {μ : Mu} (h : StoreR K L H μ) (s : Same H H') : StoreR K L H' μ :=
  pr_imp (fun l ds ⟨vs, e, q⟩ => ⟨vs, s _ _ e, q.mono (Step.of_same s).same⟩) h
theorem SlotR.step {K : PySem.W.Frag} {L L' : OW} {H H' : Hp} {o : Option V} {x : Sl} (h : SlotR K L H o x) (s : Step L H L' H') : SlotR K L' H' o x := by
  cases x with
  | un => trivial
  | fn x => exact h
  | dat d => obtain ⟨v, e, q⟩ := h; exact ⟨v, e, q.mono s.same⟩
  | dct kvs => obtain ⟨a, vs, e, ea, q⟩ := h; exact ⟨a, vs, e, s.same _ _ ea, Paired.mapP q fun _ _ z => ⟨z.1, z.2.mono s.same⟩⟩
  | exc x => obtain ⟨a, C, tb, e, ec, q⟩ := h; exact ⟨a, C, tb, e, ec, s.same _ _ q⟩
  | dtt kvs => obtain ⟨a, vs, e, ea, q⟩ := h; exact ⟨a, vs, e, s.same _ _ ea, Paired.mapP q fun _ _ z => ⟨z.1, z.2.mono s.same⟩⟩
  | own k =>
    obtain ⟨l, e, q⟩ := h
    obtain ⟨M, eM, _⟩ := s.ext
    refine ⟨l, ?_, q⟩
    rw [eM, List.getElem?_append_left (List.getElem?_eq_some_iff.mp e).1]; exact e
theorem EnvR.step {K : PySem.W.Frag} {L : OW} {H H' : Hp} {σ : L2.St} {ρ : Rho} {μ μ' : Mu} (h : EnvR K L H σ ρ μ) (s : Step L H L H') (st : StoreR K L H' μ') : EnvR K L H' σ ρ μ' :=
  ⟨h.nd, fun l hl => ⟨(h.lk l hl).1, (h.lk l hl).2.elim (fun ⟨⟨xs, e⟩, z⟩ => .inl ⟨⟨xs, s.keep l _ (h.lk l hl).1 (fun _ => ⟨xs, rfl⟩) e⟩, z⟩) fun ⟨q, hq, e⟩ => .inr ⟨q, hq, s.tab l q hl hq e⟩⟩, pr_imp (fun _ _ q => SlotR.step q s) h.sl, st⟩
theorem lt_keep {H H' : Hp} {l : Addr} {f : Addr → Option Str} (k : ∀ o, H l = some o → H' l = some o) (t : ∀ q, TabOk H l q → TabOk H' l q) (h : ((∃ xs, H l = some (.lst xs)) ∧ ∀ q, (l, q) ∉ Tabs.t) ∨ ∃ q, f l = some q ∧ TabOk H l q) : ((∃ xs, H' l = some (.lst xs)) ∧ ∀ q, (l, q) ∉ Tabs.t) ∨ ∃ q, f l = some q ∧ TabOk H' l q := h.elim (fun ⟨⟨xs, e⟩, z⟩ => .inl ⟨⟨xs, k _ e⟩, z⟩) fun ⟨q, hq, e⟩ => .inr ⟨q, hq, t q e⟩
theorem lt_ne {H : Hp} {l : Addr} {f : Addr → Option Str} (h : ((∃ xs, H l = some (.lst xs)) ∧ ∀ q, (l, q) ∉ Tabs.t) ∨ ∃ q, f l = some q ∧ TabOk H l q) : H l ≠ none := fun z => by
  rcases h with ⟨⟨xs, e⟩, _⟩ | ⟨_, _, ps, e, _⟩ <;> (rw [z] at e; cases e)
theorem EnvR.same {K : PySem.W.Frag} {L : OW} {H H' : Hp} {σ : L2.St} {ρ : Rho} {μ : Mu} (h : EnvR K L H σ ρ μ) (s : Same H H') : EnvR K L H' σ ρ μ := h.step (Step.of_same s) (h.st.same s)
abbrev FE := Rho → Mu → Option (PyData × Mu)
abbrev FT := Rho → Mu → Option (Bool × Mu)
abbrev FA := Rho → Mu → Option (List PyData × Mu)
def bnd {α β : Type} (x : Option (α × Mu)) (k : α → Mu → Option β) : Option β := match x with
  | some (d, m) => k d m
  | none => none
theorem bnd_some {α β : Type} {x : Option (α × Mu)} {k : α → Mu → Option β} {r : β} (h : bnd x k = some r) : ∃ d m, x = some (d, m) ∧ k d m = some r := by
  cases x with
  | none => cases h
  | some p => exact ⟨p.1, p.2, rfl, h⟩
def opt {α β : Type} (x : Option α) (k : α → Option β) : Option β := match x with
  | some d => k d
  | none => none
theorem opt_some {α β : Type} {x : Option α} {k : α → Option β} {r : β} (h : opt x k = some r) : ∃ d, x = some d ∧ k d = some r := by
  cases x with
  | none => cases h
  | some p => exact ⟨p, rfl, h⟩
def fin {α : Type} (x : Option α) (m : Mu) : Option (α × Mu) := match x with
  | some d => some (d, m)
  | none => none
theorem fin_some {α : Type} {x : Option α} {m m' : Mu} {d : α} (h : fin x m = some (d, m')) : x = some d ∧ m' = m := by
  cases x with
  | none => cases h
  | some p => cases h; exact ⟨rfl, rfl⟩
def tD (K : PySem.W.Frag) (f : FE) : TE := fun σ H Q => ∃ L ρ μ d μ', EnvR K L H σ ρ μ ∧ f ρ μ = some (d, μ') ∧ ∀ v H', EnvR K L H' σ ρ μ' → Step L H L H' → Dp K (Off L H') v d → Q v H'
def tDT (K : PySem.W.Frag) (f : FT) : TT := fun σ H Q => ∃ L ρ μ d μ', EnvR K L H σ ρ μ ∧ f ρ μ = some (d, μ') ∧ ∀ H', EnvR K L H' σ ρ μ' → Step L H L H' → Q d H'
def tDA (K : PySem.W.Frag) (f : FA) : TA := fun σ H Q => ∃ L ρ μ ds μ', EnvR K L H σ ρ μ ∧ f ρ μ = some (ds, μ') ∧ ∀ vs H', EnvR K L H' σ ρ μ' → Step L H L H' → DpAll K (Off L H') vs ds → Q vs H'
def DE (X : Cx) (e : Expr) (f : FE) : Prop := PE X e (tD X.K f)
def DT (X : Cx) (e : Expr) (f : FT) : Prop := PT X e (tDT X.K f)
def DW (X : Cx) (e : Expr) (f : FT) : Prop := PW X e (tDT X.K f)
def DA (X : Cx) (es : List Expr) (f : FA) : Prop := PA X es (tDA X.K f)
section
variable {X : Cx} {e a b c : Expr} {es : List Expr} {pos : Pos} {fa fb fc : FE}
theorem DE.of {t : TE} {f : FE} (h : PE X e t) (imp : ∀ L ρ μ d μ' σ H Q, EnvR X.K L H σ ρ μ → f ρ μ = some (d, μ') → (∀ v H', EnvR X.K L H' σ ρ μ' → Step L H L H' → Dp X.K (Off L H') v d → Q v H') → t σ H Q) : DE X e f :=
  fun pins s σ H Q I ⟨L, ρ, μ, d, μ', E, ef, k⟩ => h pins s σ H Q I (imp L ρ μ d μ' σ H Q E ef k)
theorem DT.of {t : TT} {f : FT} (h : PT X e t) (imp : ∀ L ρ μ d μ' σ H Q, EnvR X.K L H σ ρ μ → f ρ μ = some (d, μ') → (∀ H', EnvR X.K L H' σ ρ μ' → Step L H L H' → Q d H') → t σ H Q) : DT X e f :=
  fun pins s σ H Q I ⟨L, ρ, μ, d, μ', E, ef, k⟩ => h pins s σ H Q I (imp L ρ μ d μ' σ H Q E ef k)
theorem DW.of {t : TT} {f : FT} (h : PW X e t) (imp : ∀ L ρ μ d μ' σ H Q, EnvR X.K L H σ ρ μ → f ρ μ = some (d, μ') → (∀ H', EnvR X.K L H' σ ρ μ' → Step L H L H' → Q d H') → t σ H Q) : DW X e f :=
  fun wh pins s σ H Q I ⟨L, ρ, μ, d, μ', E, ef, k⟩ => h wh pins s σ H Q I (imp L ρ μ d μ' σ H Q E ef k)
theorem DW.dt {f : FT} (h : DW X e f) : DT X e f := PW.pt h
def fVar (i : Nat) : FE := fun ρ μ => match ρ[i]? with
  | some (.dat d) => some (d, μ)
  | _ => none
theorem de_var {i : Nat} {x : Str} (hN : X.N[i]? = some x) (hv : Vis X.env.scope x) (hd : (x == ("__debug__" : Str)) = false := by decide) (hcd : (x == ("__classdict__" : Str)) = false := by decide) : DE X (.Name x pos) (fVar i) := by
  refine DE.of (pe_var hN hv hd hcd) fun L ρ μ d μ' σ H Q E ef k => ?_
  unfold fVar at ef
  cases er : ρ[i]? with
  | none => rw [er] at ef; cases ef
  | some y =>
    rw [er] at ef
    cases y with
    | un => cases ef
    | fn _ => cases ef
    | dct _ => cases ef
    | dtt _ => cases ef
    | exc _ => cases ef
    | own _ => cases ef
    | dat d' =>
      cases ef
      obtain ⟨o, eo, v, rfl, q⟩ := pr_get E.sl er
      exact ⟨v, eo, k v H E (Step.refl _ _) q⟩
def fC (d : PyData) : FE := fun _ μ => some (d, μ)
theorem de_int {i : Int} {j} : DE X (.Constant (.int i) j pos) (fC (.int i)) := DE.of pe_int fun L ρ μ d μ' σ H Q E ef k => by cases ef; exact k _ H E (Step.refl _ _) (.int i)
theorem de_bl {i : Bool} {j} : DE X (.Constant (.bool i) j pos) (fC (.bool i)) := DE.of pe_bl fun L ρ μ d μ' σ H Q E ef k => by cases ef; exact k _ H E (Step.refl _ _) (.bl i)
theorem de_str {i : Str} {j} : DE X (.Constant (.str i) j pos) (fC (.str i)) := DE.of pe_str fun L ρ μ d μ' σ H Q E ef k => by cases ef; exact k _ H E (Step.refl _ _) (.str i)
theorem de_non {j} : DE X (.Constant .none j pos) (fC .none) := DE.of pe_non fun L ρ μ d μ' σ H Q E ef k => by cases ef; exact k _ H E (Step.refl _ _) .non
theorem de_glob {x : Str} {v : V} {u : Value} {d : PyData} (hg : Gl X x) (hm : X.mg x = some u) (r : RelV v u) (hp : ∀ H, Dp X.K H v d) (hd : (x == ("__debug__" : Str)) = false := by decide) : DE X (.Name x pos) (fC d) :=
  DE.of (pe_glob hg hm r hd) fun L ρ μ d μ' σ H Q E ef k => by cases ef; exact k _ H E (Step.refl _ _) (hp _)
def Ret (K : PySem.W.Frag) (L : OW) (H : Hp) (d : PyData) (Q : VK) : Prop := ∀ v H', Same H H' → Dp K (Off L H') v d → Q v H'
def Own (L : OW) (H : Hp) : Prop := ∀ l, L.has l → H l ≠ none
theorem EnvR.own {K : PySem.W.Frag} {L : OW} {H : Hp} {σ : L2.St} {ρ : Rho} {μ : Mu} (h : EnvR K L H σ ρ μ) : Own L H := fun l z => z.elim (h.st.has l) fun y q => by obtain ⟨_, ⟨⟨xs, e⟩, _⟩ | ⟨_, _, xs, e, _⟩⟩ := h.lk l y <;> (rw [q] at e; cases e)
theorem EnvR.lists {K : PySem.W.Frag} {L : OW} {H : Hp} {σ : L2.St} {ρ : Rho} {μ : Mu} (h : EnvR K L H σ ρ μ) {l : Addr} (z : L.has l) : (∃ xs, H l = some (.lst xs)) ∨ ∃ ps, H l = some (.tbl ps) := by
  rcases z with z | z
  · obtain ⟨i, e⟩ := List.getElem?_of_mem z
    obtain ⟨ds, _, vs, q, _⟩ := pr_get' h.st e
    exact .inl ⟨vs, q⟩
  · exact (h.lk l z).2.elim (fun y => .inl y.1) fun ⟨_, _, ps, e, _⟩ => .inr ⟨ps, e⟩
def Op2 (K : PySem.W.Frag) (r : R2) (g : PyData → PyData → Option PyData) : Prop := ∀ (L : OW) (H : Hp) (x y : V) (d e z : PyData) (Q : VK), Own L H → Dp K (Off L H) x d → Dp K (Off L H) y e → g d e = some z → Ret K L H z Q → r x y H Q
def OpN (K : PySem.W.Frag) (r : List V → Hp → VK → Prop) (g : List PyData → Option PyData) : Prop := ∀ (L : OW) (H : Hp) (xs : List V) (ds : List PyData) (z : PyData) (Q : VK), Own L H → DpAll K (Off L H) xs ds → g ds = some z → Ret K L H z Q → r xs H Q
theorem Ret.of {K : PySem.W.Frag} {L : OW} {H0 H : Hp} {σ : L2.St} {ρ : Rho} {μ : Mu} {d : PyData} {Q : VK} (E : EnvR K L H σ ρ μ) (s0 : Step L H0 L H) (k : ∀ v H', EnvR K L H' σ ρ μ → Step L H0 L H' → Dp K (Off L H') v d → Q v H') : Ret K L H d Q :=
  fun v H' s q => k v H' (E.same s) (s0.trans (Step.of_same s)) q
def f2 (fa fb : FE) (g : PyData → PyData → Option PyData) : FE := fun ρ μ => bnd (fa ρ μ) fun d m => bnd (fb ρ m) fun e m' => fin (g d e) m'
theorem d2 {t : TE} {r : R2} {g : PyData → PyData → Option PyData} (o : Op2 X.K r g) : ∀ L ρ μ d μ' σ H Q, EnvR X.K L H σ ρ μ → f2 fa fb g ρ μ = some (d, μ') → (∀ v H', EnvR X.K L H' σ ρ μ' → Step L H L H' → Dp X.K (Off L H') v d → Q v H') →
    tD X.K fa σ H fun x H1 => tD X.K fb σ H1 fun y H2 => r x y H2 Q := fun L ρ μ d μ' σ H Q E ef k => by
  obtain ⟨d1, m1, e1, ef⟩ := bnd_some ef
  obtain ⟨d2, m2, e2, ef⟩ := bnd_some ef
  obtain ⟨e3, rfl⟩ := fin_some ef
  refine ⟨L, ρ, μ, d1, m1, E, e1, fun v H1 E1 s1 q1 => ⟨L, ρ, m1, d2, _, E1, e2, fun u H2 E2 s2 q2 => ?_⟩⟩
  exact o L H2 v u d1 d2 d Q E2.own (q1.mono s2.same) q2 e3 (Ret.of E2 (s1.trans s2) k)
theorem de_op {op : Operator} {r : R2} {g : PyData → PyData → Option PyData} (o : Op2 X.K r g) (ho : OpR X (binaryOp op) r) (ha : DE X a fa) (hb : DE X b fb) : DE X (.BinOp a op b pos) (f2 fa fb g) :=
  DE.of (pe_op ho ha hb) (d2 (t := tOp r (tD X.K fa) (tD X.K fb)) o)
end
end DL
namespace DL
open PySem PySem.Spec PyProof.Rows L2
variable [Tabs]
section
variable {K : PySem.W.Frag} {L : OW} {H : Hp} {v : V} {x : Str} {i : Int} {b : Bool} {d : PyData} {ds : List PyData}
theorem dp_int (h : Dp K H v (.int i)) : v = .int i := by cases h; rfl
theorem dp_str (h : Dp K H v (.str x)) : v = .str x := by cases h; rfl
theorem dp_bl (h : Dp K H v (.bool b)) : v = .bl b := by cases h; rfl
theorem dp_non (h : Dp K H v .none) : v = .non := by cases h; rfl
theorem dp_lst (h : Dp K H v (.list ds)) : ∃ a xs, v = .ref a ∧ SqL K H a xs ∧ DpAll K H xs ds := by cases h with | lst h1 h2 => exact ⟨_, _, rfl, h1, h2⟩
theorem dp_tup (h : Dp K H v (.tuple ds)) : ∃ a xs, v = .ref a ∧ SqT K H a xs ∧ DpAll K H xs ds := by cases h with | tup h1 h2 => exact ⟨_, _, rfl, h1, h2⟩
theorem dpf (h : Dp K (Off L H) v d) : Dp K H v d := h.mono (off_same L H)
theorem dpsf {xs : List V} (h : DpAll K (Off L H) xs ds) : DpAll K H xs ds := h.mono (off_same L H)
theorem sqlf {a : Addr} {xs : List V} (h : SqL K (Off L H) a xs) : SqL K H a xs := (off_same L H).seq h
theorem sqtf {a : Addr} {xs : List V} (h : SqT K (Off L H) a xs) : SqT K H a xs := seqT (off_same L H) h
theorem off_upd {p : Addr} {o : HO} (hL : Own L H) (h : H p = none) : Off L (upd H p o) p = some o := off_some.mpr ⟨fun z => hL p z h, upd_same⟩
theorem same_off {H' : Hp} (s : Same H H') : Same (Off L H) (Off L H') := (Step.of_same s).same
theorem new_tup {p : Addr} {xs : List V} (hL : Own L H) (h : H p = none) (q : DpAll K (Off L H) xs ds) : Dp K (Off L (upd H p (.tup xs))) (.ref p) (.tuple ds) :=
  .tup (SqT.of (off_upd hL h)) (q.mono (same_off (same_upd h)))
theorem new_lst {p : Addr} {xs : List V} (hL : Own L H) (h : H p = none) (q : DpAll K (Off L H) xs ds) : Dp K (Off L (upd H p (.lst xs))) (.ref p) (.list ds) :=
  .lst (SqL.of (off_upd hL h)) (q.mono (same_off (same_upd h)))
theorem Ret.int {Q : VK} (k : Ret K L H (.int i) Q) : Q (.int i) H := k _ H (Same.refl H) (.int i)
theorem Ret.str {Q : VK} (k : Ret K L H (.str x) Q) : Q (.str x) H := k _ H (Same.refl H) (.str x)
theorem Ret.bl {Q : VK} (k : Ret K L H (.bool b) Q) : Q (.bl b) H := k _ H (Same.refl H) (.bl b)
theorem Ret.tup {Q : VK} {xs : List V} (hL : Own L H) (q : DpAll K (Off L H) xs ds) (k : Ret K L H (.tuple ds) Q) : ∀ p, H p = none → Q (.ref p) (upd H p (.tup xs)) := fun p h => k _ _ (same_upd h) (new_tup hL h q)
theorem Ret.lst {Q : VK} {xs : List V} (hL : Own L H) (q : DpAll K (Off L H) xs ds) (k : Ret K L H (.list ds) Q) : ∀ p, H p = none → Q (.ref p) (upd H p (.lst xs)) := fun p h => k _ _ (same_upd h) (new_lst hL h q)
def gI (g : Int → Int → PyData) (d e : PyData) : Option PyData := match d, e with
  | .int i, .int j => some (g i j)
  | _, _ => none
theorem gI_some {g : Int → Int → PyData} {d e z : PyData} (h : gI g d e = some z) : ∃ i j, d = .int i ∧ e = .int j ∧ z = g i j := by
  unfold gI at h
  split at h
  · exact ⟨_, _, rfl, rfl, (Option.some.inj h).symm⟩
  · cases h
theorem o2_cmp {g : Int → Int → Bool} : Op2 K (rI0 fun i j => .bl (g i j)) (gI fun i j => .bool (g i j)) := fun L H x y d e z Q hL h1 h2 hg k => by
  obtain ⟨i, j, rfl, rfl, rfl⟩ := gI_some hg
  exact ⟨i, j, dp_int h1, dp_int h2, k.bl⟩
def gIC (c : Int → Int → Bool) (g : Int → Int → Int) (d e : PyData) : Option PyData := match d, e with
  | .int i, .int j => if c i j = true then some (.int (g i j)) else none
  | _, _ => none
theorem o2_intC {C : Int → Int → Prop} {c : Int → Int → Bool} {g : Int → Int → Int} (hc : ∀ i j, c i j = true → C i j) : Op2 K (rI C fun i j => .int (g i j)) (gIC c g) := fun L H x y d e z Q hL h1 h2 hg k => by
  unfold gIC at hg
  split at hg
  · rename_i i j
    by_cases q : c i j = true
    · rw [if_pos q] at hg; cases hg
      exact ⟨i, j, dp_int h1, dp_int h2, hc i j q, k.int⟩
    · rw [if_neg q] at hg; cases hg
  · cases hg
def gAdd (d e : PyData) : Option PyData := match d, e with
  | .int i, .int j => some (.int (i + j))
  | .str x, .str y => if x.length + y.length ≤ sizeLine then some (.str (x ++ y)) else none
  | .list xs, .list ys => if xs.length + ys.length ≤ sizeLine then some (.list (xs ++ ys)) else none
  | _, _ => none
end
section
variable {X : Cx}
def rCatR (K : PySem.W.Frag) : R2 := fun x y H Q => ∃ l b xs zs, x = .ref l ∧ y = .ref b ∧ SqL K H l xs ∧ SqL K H b zs ∧ xs.length + zs.length ≤ sizeLine ∧ ∀ p, H p = none → Q (.ref p) (upd H p (.lst (xs ++ zs)))
theorem op_catR : OpR X (binaryOp .Add) (rCatR X.K) := by
  intro pins s σ H x y v u Q I rx ry h
  obtain ⟨l, b, xs, zs, rfl, rfl, hH, hB, hz, q⟩ := h
  cases rx
  cases ry
  obtain ⟨its, r, hl, z1⟩ := I.list hH
  obtain ⟨its2, r2, hl2, z2⟩ := I.list hB
  obtain ⟨⟨cls, dd, data, sl⟩, n1, ho, hc, hx, hd⟩ := hl
  obtain ⟨⟨cls2, dd2, data2, sl2⟩, n2, ho2, hc2, hx2, hd2⟩ := hl2
  simp only at hc hd hc2 hd2
  subst hc hd hc2 hd2
  refine concat_meets ⟨_, ho, rfl⟩ ⟨_, ho2, rfl⟩ noFill_list_add seq_list_add PySem.F.slot_list_add PySem.F.entry_list_add (PySem.F.args_list_add_2 _ _) (list_addW l b its.toArray its2.toArray n1 n2 dd dd2 sl sl2 (by rw [List.size_toArray, List.size_toArray, ← r.length, ← r2.length]; exact hz)) ⟨ho, ho2, ?_⟩
  have ea : its.toArray ++ its2.toArray = (its ++ its2).toArray := by simp
  rw [ea]
  exact ⟨.ref _, _, I.lnew (t' := s.toks) (r.append r2) (by rw [List.length_append]; omega), rfl, q _ I.fresh⟩
def rAddA (K : PySem.W.Frag) : R2 := fun x y H Q => (rI0 fun i j => .int (i + j)) x y H Q ∨ (∃ i j, x = .str i ∧ y = .str j ∧ i.length + j.length ≤ sizeLine ∧ Q (.str (i ++ j)) H) ∨ rCatR K x y H Q
theorem op_addA : OpR X (binaryOp .Add) (rAddA X.K) := op_add.or (op_add_str.or op_catR)
end
section
variable {K : PySem.W.Frag}
theorem o2_add : Op2 K (rAddA K) gAdd := fun L H x y d e z Q hL h1 h2 hg k => by
  unfold gAdd at hg
  split at hg
  · cases hg; exact .inl ⟨_, _, dp_int h1, dp_int h2, k.int⟩
  · split at hg
    · cases hg; exact .inr (.inl ⟨_, _, dp_str h1, dp_str h2, by assumption, k.str⟩)
    · cases hg
  · split at hg
    · cases hg
      obtain ⟨a, xs, rfl, s1, q1⟩ := dp_lst h1
      obtain ⟨b, ys, rfl, s2, q2⟩ := dp_lst h2
      refine .inr (.inr ⟨a, b, xs, ys, rfl, rfl, sqlf s1, sqlf s2, by rw [dps_len q1, dps_len q2]; assumption, k.lst hL (dps_app q1 q2)⟩)
    · cases hg
  · cases hg
def cDiv (i j : Int) : Bool := decide (0 < j ∧ j < 1073741824)
def cMod (i j : Int) : Bool := decide (0 < j)
def cPow (i j : Int) : Bool := decide (0 ≤ j ∧ j ≤ 1000000 ∧ i.natAbs < 2 ^ 64)
def cMul (i j : Int) : Bool := decide ((-(2 ^ 64) < i ∧ i < 2 ^ 64) ∨ (-(2 ^ 64) < j ∧ j < 2 ^ 64))
theorem o2_div : Op2 K (rI CDiv fun i j => .int (i / j)) (gIC cDiv fun i j => i / j) := o2_intC fun _ _ h => by unfold CDiv; exact of_decide_eq_true h
theorem o2_mod : Op2 K (rI (fun _ j => 0 < j) fun i j => .int (i % j)) (gIC cMod fun i j => i % j) := o2_intC fun _ _ h => of_decide_eq_true h
theorem o2_pow : Op2 K (rI CPow fun i j => .int (i ^ j.toNat)) (gIC cPow fun i j => i ^ j.toNat) := o2_intC fun _ _ h => by unfold CPow; exact of_decide_eq_true h
theorem o2_mul : Op2 K (rI CMul fun i j => .int (i * j)) (gIC cMul fun i j => i * j) := o2_intC fun _ _ h => by unfold CMul; exact of_decide_eq_true h
def eqB (d e : PyData) : Option Bool := match d, e with
  | .int i, .int j => some (decide (i = j))
  | .str x, .str y => some (decide (x = y))
  | .bool x, .bool y => some (decide (x = y))
  | d, e => if SeqAt.shaped d = true ∧ SeqAt.shaped e = true then some (PyData.eqv d e) else none
def gEq (d e : PyData) : Option PyData := opt (eqB d e) fun b => some (.bool b)
def gNe (d e : PyData) : Option PyData := opt (eqB d e) fun b => some (.bool (!b))
theorem eqB_some {K : PySem.W.Frag} {H : Hp} {x y : V} {d e : PyData} {b : Bool} (h1 : Dp K H x d) (h2 : Dp K H y e) (h : eqB d e = some b) : (scal x y = true ∧ b = decide (x = y)) ∨ (SeqAt.shaped d = true ∧ SeqAt.shaped e = true ∧ b = PyData.eqv d e) := by
  unfold eqB at h
  split at h
  · rename_i i j
    have e1 := dp_int h1; have e2 := dp_int h2; subst e1 e2
    refine .inl ⟨rfl, ?_⟩
    rw [← Option.some.inj h]
    by_cases q : i = j
    · subst q; simp
    · rw [decide_eq_false q, decide_eq_false fun z => q (V.int.inj z)]
  · rename_i i j
    have e1 := dp_str h1; have e2 := dp_str h2; subst e1 e2
    refine .inl ⟨rfl, ?_⟩
    rw [← Option.some.inj h]
    by_cases q : i = j
    · subst q; simp
    · rw [decide_eq_false q, decide_eq_false fun z => q (V.str.inj z)]
  · rename_i i j
    have e1 := dp_bl h1; have e2 := dp_bl h2; subst e1 e2
    refine .inl ⟨rfl, ?_⟩
    rw [← Option.some.inj h]
    by_cases q : i = j
    · subst q; simp
    · rw [decide_eq_false q, decide_eq_false fun z => q (V.bl.inj z)]
  · split at h
    · rename_i q; exact .inr ⟨q.1, q.2, (Option.some.inj h).symm⟩
    · cases h
def rEqA (K : PySem.W.Frag) : R2 := fun x y H Q => rEq x y H Q ∨ rEqD K x y H Q
def rNeA (K : PySem.W.Frag) : R2 := fun x y H Q => rNe x y H Q ∨ rNeD K x y H Q
theorem op_eqA {X : Cx} (hu : X.A.units + 64 < cLine) : OpR X (compareOp .Eq) (rEqA X.K) := op_eq.or (op_eqD hu)
theorem op_neA {X : Cx} (hu : X.A.units + 64 < cLine) : OpR X (compareOp .NotEq) (rNeA X.K) := op_ne.or (op_neD hu)
theorem o2_eq : Op2 K (rEqA K) gEq := fun L H x y d e z Q hL h1 h2 hg k => by
  obtain ⟨b, e1, e2⟩ := opt_some hg
  cases e2
  rcases eqB_some h1 h2 e1 with ⟨s, rfl⟩ | ⟨s1, s2, rfl⟩
  · exact .inl ⟨s, k.bl⟩
  · exact .inr ⟨d, e, dpf h1, dpf h2, s1, s2, k.bl⟩
theorem o2_ne : Op2 K (rNeA K) gNe := fun L H x y d e z Q hL h1 h2 hg k => by
  obtain ⟨b, e1, e2⟩ := opt_some hg
  cases e2
  rcases eqB_some h1 h2 e1 with ⟨s, rfl⟩ | ⟨s1, s2, rfl⟩
  · exact .inl ⟨s, k.bl⟩
  · exact .inr ⟨d, e, dpf h1, dpf h2, s1, s2, k.bl⟩
def gIsN (d e : PyData) : Option PyData := match d, e with
  | .none, .none => some (.bool true)
  | _, .none => some (.bool false)
  | _, _ => none
def gNotN (d e : PyData) : Option PyData := match d, e with
  | .none, .none => some (.bool false)
  | _, .none => some (.bool true)
  | _, _ => none
theorem o2_isN : Op2 K (fun x y H Q => y = .non ∧ Q (.bl (decide (x = .non))) H) gIsN := fun L H x y d e z Q hL h1 h2 hg k => by
  unfold gIsN at hg
  split at hg
  · cases hg
    refine ⟨dp_non h2, ?_⟩
    rw [dp_non h1]; exact k.bl
  · rename_i hd
    cases hg
    refine ⟨dp_non h2, ?_⟩
    have : decide (x = V.non) = false := decide_eq_false fun z => by subst z; cases h1; exact hd rfl
    rw [this]; exact k.bl
  · cases hg
theorem o2_notN : Op2 K (fun x y H Q => y = .non ∧ Q (.bl (!decide (x = .non))) H) gNotN := fun L H x y d e z Q hL h1 h2 hg k => by
  unfold gNotN at hg
  split at hg
  · cases hg
    refine ⟨dp_non h2, ?_⟩
    rw [dp_non h1]; exact k.bl
  · rename_i hd
    cases hg
    refine ⟨dp_non h2, ?_⟩
    have : decide (x = V.non) = false := decide_eq_false fun z => by subst z; cases h1; exact hd rfl
    rw [this]; exact k.bl
  · cases hg
def gInS (neg : Bool) (d e : PyData) : Option PyData := match d, e with
  | .str c, .str z => match c.cps.toList with
    | [n] => some (.bool (if neg then !decide (n ∈ z.cps.toList) else decide (n ∈ z.cps.toList)))
    | _ => none
  | _, _ => none
theorem gInS_some {neg : Bool} {d e z : PyData} (h : gInS neg d e = some z) : ∃ (n : Nat) (t : Str), d = .str ⟨#[n]⟩ ∧ e = .str t ∧ z = .bool (if neg then !decide (n ∈ t.cps.toList) else decide (n ∈ t.cps.toList)) := by
  unfold gInS at h
  split at h
  · rename_i c t
    split at h
    · rename_i n hn
      refine ⟨n, t, ?_, rfl, (Option.some.inj h).symm⟩
      obtain ⟨⟨l⟩⟩ := c
      have : l = [n] := hn
      subst this; rfl
    · cases h
  · cases h
theorem o2_inS : Op2 K (fun x y H Q => ∃ (c : Nat) (z : Str), x = .str ⟨#[c]⟩ ∧ y = .str z ∧ Q (.bl (decide (c ∈ z.cps.toList))) H) (gInS false) := fun L H x y d e z Q hL h1 h2 hg k => by
  obtain ⟨n, t, rfl, rfl, rfl⟩ := gInS_some hg
  exact ⟨n, t, dp_str h1, dp_str h2, k.bl⟩
theorem o2_ninS : Op2 K (fun x y H Q => ∃ (c : Nat) (z : Str), x = .str ⟨#[c]⟩ ∧ y = .str z ∧ Q (.bl (!decide (c ∈ z.cps.toList))) H) (gInS true) := fun L H x y d e z Q hL h1 h2 hg k => by
  obtain ⟨n, t, rfl, rfl, rfl⟩ := gInS_some hg
  exact ⟨n, t, dp_str h1, dp_str h2, k.bl⟩
def inT (a b : Str) : Bool := !(Builtin.Str.occurrences b a 0 b.length 1).isEmpty
def gInT (neg : Bool) (d e : PyData) : Option PyData := match d, e with
  | .str a, .str b => some (.bool (if neg then !inT a b else inT a b))
  | _, _ => none
theorem o2_ninT : Op2 K (fun x y H Q => ∃ i j, x = .str i ∧ y = .str j ∧ Q (.bl (!(!(Builtin.Str.occurrences j i 0 j.length 1).isEmpty))) H) (gInT true) := fun L H x y d e z Q hL h1 h2 hg k => by
  unfold gInT at hg
  split at hg
  · cases hg; exact ⟨_, _, dp_str h1, dp_str h2, k.bl⟩
  · cases hg
end
def rInD (K : PySem.W.Frag) (neg : Bool) : R2 := fun x y H Q => ∃ d ds, Dp K H x d ∧ (Dp K H y (.list ds) ∨ Dp K H y (.tuple ds)) ∧ SeqAt.shaped d = true ∧ PyData.canLayAll0 ds = true ∧ Q (.bl (if neg then !ds.any (fun y => PyData.eqv y d) else ds.any (fun y => PyData.eqv y d))) H
def isStrD : PyData → Bool
  | .str _ => true
  | _ => false
def rInX (K : PySem.W.Frag) (neg : Bool) : R2 := fun x y H Q => rInD K neg x y H Q ∨ ∃ d ds, Dp K H x d ∧ (Dp K H y (.list ds) ∨ Dp K H y (.tuple ds)) ∧ ds.all isStrD = true ∧ Q (.bl (if neg then !ds.any (fun y => PyData.eqv y d) else ds.any (fun y => PyData.eqv y d))) H
def eqW (d : PyData) : Value → Bool
  | .str b _ => PyData.eqv (.str b) d
  | _ => false
theorem strs_vals {K : PySem.W.Frag} {H : Hp} {d0 : PyData} : ∀ {ds : List PyData} {xs : List V} {its : List Value}, ds.all isStrD = true → DpAll K H xs ds → Vals xs its → (∀ w ∈ its, ∃ b u, w = Value.str b u) ∧ its.any (eqW d0) = ds.any (fun y => PyData.eqv y d0)
  | [], _, _, _, h, r => by cases h; cases r; exact ⟨fun w hw => (by cases hw), rfl⟩
  | d :: ds, _, _, e, h, r => by
    cases h with
    | cons h1 h2 =>
      cases r with
      | cons r1 r2 =>
        rw [List.all_cons, Bool.and_eq_true] at e
        obtain ⟨i1, i2⟩ := strs_vals (d0 := d0) e.2 h2 r2
        cases d with
        | str x =>
          cases h1
          obtain ⟨t, rfl⟩ := r1
          refine ⟨fun w hw => ?_, ?_⟩
          · rcases List.mem_cons.mp hw with rfl | hw
            · exact ⟨_, _, rfl⟩
            · exact i1 w hw
          · rw [List.any_cons, List.any_cons, i2]; rfl
        | none => cases e.1
        | bool _ => cases e.1
        | int _ => cases e.1
        | list _ => cases e.1
        | tuple _ => cases e.1
        | dict _ => cases e.1
theorem eqAt_str {X : Cx} {pins : List (Addr × Obj)} {σ : L2.St} {H : Hp} {s : Shared} {A : Around} (I : Inv X pins σ H s) {x : V} {v : Value} {d : PyData} (hd : Dp X.K H x d) (rx : RelV x v) (hu : A.units < cLine) (b : Str) (t : Tok) : SeqAt.EqAt A s (.str b t) v (PyData.eqv (.str b) d) := by
  cases hd with
  | non => cases rx; exact SeqAt.EqAt.str_none b t
  | bl c => cases rx; exact SeqAt.EqAt.str_bool b t c
  | int i => obtain ⟨u, rfl⟩ := rx; exact SeqAt.EqAt.str_int b t i u
  | str y => obtain ⟨u, rfl⟩ := rx; exact SeqAt.EqAt.str_str b t y u
  | lst s1 q1 => cases rx; obtain ⟨its, _, pl, _⟩ := I.list s1; exact SeqAt.EqAt.str_list b t pl.isList hu
  | tup s1 q1 => cases rx; obtain ⟨its, _, pl, _⟩ := I.tuple s1; exact SeqAt.EqAt.str_tuple b t pl hu
  | dct e => cases rx; obtain ⟨_, _, vs, _, o, es, ep, ho, hc, hd, _⟩ := I.hok _ _ e; exact SeqAt.EqAt.str_dict b t ho hc.1 hd hu
theorem lay_of_shaped {d : PyData} (h : SeqAt.shaped d = true) : d.canLay0 = true := by
  unfold SeqAt.shaped at h; simp only [Bool.and_eq_true] at h; exact h.1
theorem dep_of_shaped {d : PyData} (h : SeqAt.shaped d = true) : d.depth ≤ 64 := by
  unfold SeqAt.shaped at h; simp only [Bool.and_eq_true, decide_eq_true_eq] at h; exact h.2
section
variable {X : Cx}
theorem op_inD (hu : X.A.units + 66 < cLine) : OpR X (compareOp .In) (rInD X.K false) := by
  intro pins s σ H x y v u Q I rx ry h
  obtain ⟨d, ds, hd, hs, sd, sl, q⟩ := h
  obtain ⟨as, r1⟩ := Dp.reads I d x v hd rx
  have hdep := dep_of_shaped sd
  have hm : min (PyData.depthAll ds) d.depth ≤ d.depth := Nat.min_le_right _ _
  rcases hs with hs | hs
  · obtain ⟨bs, r2⟩ := Dp.reads I _ y u hs ry
    exact SeqAt.in_list_reads r2 r1 (by simpa [PyData.canLay0] using sl) (lay_of_shaped sd) (by omega) ⟨.bl _, H, I, rfl, q⟩
  · obtain ⟨bs, r2⟩ := Dp.reads I _ y u hs ry
    exact SeqAt.in_tuple_reads r2 r1 (by simpa [PyData.canLay0] using sl) (lay_of_shaped sd) (by omega) ⟨.bl _, H, I, rfl, q⟩
theorem op_ninD (hu : X.A.units + 66 < cLine) : OpR X (compareOp .NotIn) (rInD X.K true) := by
  intro pins s σ H x y v u Q I rx ry h
  obtain ⟨d, ds, hd, hs, sd, sl, q⟩ := h
  obtain ⟨as, r1⟩ := Dp.reads I d x v hd rx
  have hdep := dep_of_shaped sd
  have hm : min (PyData.depthAll ds) d.depth ≤ d.depth := Nat.min_le_right _ _
  rcases hs with hs | hs
  · obtain ⟨bs, r2⟩ := Dp.reads I _ y u hs ry
    exact SeqAt.notIn_list_reads r2 r1 (by simpa [PyData.canLay0] using sl) (lay_of_shaped sd) (by omega) ⟨.bl _, H, I, rfl, q⟩
  · obtain ⟨bs, r2⟩ := Dp.reads I _ y u hs ry
    exact SeqAt.notIn_tuple_reads r2 r1 (by simpa [PyData.canLay0] using sl) (lay_of_shaped sd) (by omega) ⟨.bl _, H, I, rfl, q⟩
theorem op_inX (hu : X.A.units + 66 < cLine) : OpR X (compareOp .In) (rInX X.K false) := by
  intro pins s σ H x y v u Q I rx ry h
  rcases h with h | ⟨d, ds, hd, hs, al, q⟩
  · exact op_inD hu pins s σ H x y v u Q I rx ry h
  have h1 : X.A.in1.units < cLine := by show X.A.units + 1 < cLine; omega
  rcases hs with hs | hs
  · cases hs with
    | lst s1 q1 =>
      cases ry
      obtain ⟨its, rv, pl, hz⟩ := I.list s1
      obtain ⟨i1, i2⟩ := strs_vals (d0 := d) al q1 rv
      have ea : its.toArray.any (eqW d) = ds.any (fun y => PyData.eqv y d) := by rw [← i2]; simp
      refine SeqAt.in_listAt (eqW d) pl.isList (fun w hw => ?_) ⟨.bl _, H, I, rfl, by rw [ea]; exact q⟩
      obtain ⟨b, t, rfl⟩ := i1 w (by simpa using hw)
      exact eqAt_str I hd rx h1 b t
  · cases hs with
    | tup s1 q1 =>
      cases ry
      obtain ⟨its, rv, pl, hz⟩ := I.tuple s1
      obtain ⟨i1, i2⟩ := strs_vals (d0 := d) al q1 rv
      have ea : its.toArray.any (eqW d) = ds.any (fun y => PyData.eqv y d) := by rw [← i2]; simp
      refine SeqAt.in_tupleAt (eqW d) pl (fun w hw => ?_) ⟨.bl _, H, I, rfl, by rw [ea]; exact q⟩
      obtain ⟨b, t, rfl⟩ := i1 w (by simpa using hw)
      exact eqAt_str I hd rx h1 b t
theorem op_ninX (hu : X.A.units + 66 < cLine) : OpR X (compareOp .NotIn) (rInX X.K true) := by
  intro pins s σ H x y v u Q I rx ry h
  rcases h with h | ⟨d, ds, hd, hs, al, q⟩
  · exact op_ninD hu pins s σ H x y v u Q I rx ry h
  have h1 : X.A.in1.units < cLine := by show X.A.units + 1 < cLine; omega
  rcases hs with hs | hs
  · cases hs with
    | lst s1 q1 =>
      cases ry
      obtain ⟨its, rv, pl, hz⟩ := I.list s1
      obtain ⟨i1, i2⟩ := strs_vals (d0 := d) al q1 rv
      have ea : its.toArray.any (eqW d) = ds.any (fun y => PyData.eqv y d) := by rw [← i2]; simp
      refine SeqAt.notIn_listAt (eqW d) pl.isList (fun w hw => ?_) ⟨.bl _, H, I, rfl, by rw [ea]; exact q⟩
      obtain ⟨b, t, rfl⟩ := i1 w (by simpa using hw)
      exact eqAt_str I hd rx h1 b t
  · cases hs with
    | tup s1 q1 =>
      cases ry
      obtain ⟨its, rv, pl, hz⟩ := I.tuple s1
      obtain ⟨i1, i2⟩ := strs_vals (d0 := d) al q1 rv
      have ea : its.toArray.any (eqW d) = ds.any (fun y => PyData.eqv y d) := by rw [← i2]; simp
      refine SeqAt.notIn_tupleAt (eqW d) pl (fun w hw => ?_) ⟨.bl _, H, I, rfl, by rw [ea]; exact q⟩
      obtain ⟨b, t, rfl⟩ := i1 w (by simpa using hw)
      exact eqAt_str I hd rx h1 b t
end
def inD (d : PyData) (ds : List PyData) : Option Bool := if SeqAt.shaped d = true ∧ PyData.canLayAll0 ds = true then some (ds.any fun y => PyData.eqv y d) else if ds.all isStrD = true then some (ds.any fun y => PyData.eqv y d) else none
def gInD (neg : Bool) (d e : PyData) : Option PyData := match e with
  | .list ds => opt (inD d ds) fun b => some (.bool (if neg then !b else b))
  | .tuple ds => opt (inD d ds) fun b => some (.bool (if neg then !b else b))
  | _ => none
theorem o2_inD {K : PySem.W.Frag} {neg : Bool} : Op2 K (rInX K neg) (gInD neg) := fun L H x y d e z Q hL h1 h2 hg k => by
  have inD_some : ∀ {ds b}, inD d ds = some b → ((SeqAt.shaped d = true ∧ PyData.canLayAll0 ds = true) ∨ ds.all isStrD = true) ∧ b = ds.any (fun y => PyData.eqv y d) := fun {ds b} h => by
    unfold inD at h
    split at h
    · rename_i q; exact ⟨.inl q, (Option.some.inj h).symm⟩
    · split at h
      · rename_i q; exact ⟨.inr q, (Option.some.inj h).symm⟩
      · cases h
  unfold gInD at hg
  split at hg
  · obtain ⟨b, e1, e2⟩ := opt_some hg
    obtain ⟨s1, rfl⟩ := inD_some e1
    cases e2
    rcases s1 with ⟨s1, s2⟩ | s1
    · exact .inl ⟨d, _, dpf h1, .inl (dpf h2), s1, s2, k.bl⟩
    · exact .inr ⟨d, _, dpf h1, .inl (dpf h2), s1, k.bl⟩
  · obtain ⟨b, e1, e2⟩ := opt_some hg
    obtain ⟨s1, rfl⟩ := inD_some e1
    cases e2
    rcases s1 with ⟨s1, s2⟩ | s1
    · exact .inl ⟨d, _, dpf h1, .inr (dpf h2), s1, s2, k.bl⟩
    · exact .inr ⟨d, _, dpf h1, .inr (dpf h2), s1, k.bl⟩
  · cases hg
section
variable {X : Cx} {a b c e : Expr} {es rest : List Expr} {pos : Pos} {fa fb fc f : FE} {ta tb tc : FT}
def fB (f : FE) : FT := fun ρ μ => bnd (f ρ μ) fun d m => match d with
  | .bool b => some (b, m)
  | _ => none
theorem fB_some {f : FE} {ρ : Rho} {μ m : Mu} {b : Bool} (h : fB f ρ μ = some (b, m)) : f ρ μ = some (.bool b, m) := by
  obtain ⟨d, m1, e1, h⟩ := bnd_some h
  cases d <;> first | (cases h; exact e1) | cases h
theorem de_cmp {op : CmpOp} {r : R2} {g : PyData → PyData → Option PyData} (o : Op2 X.K r g) (ho : OpR X (compareOp op) r) (ha : DE X a fa) (hb : DE X b fb) (hm : behindInMarks op b = false) : DE X (.Compare a [op] [b] pos) (f2 fa fb g) :=
  DE.of (pe_cmpR ho ha hb hm) (d2 (t := tOp r (tD X.K fa) (tD X.K fb)) o)
theorem dt_cmp {op : CmpOp} {r : R2} {g : PyData → PyData → Option PyData} (o : Op2 X.K r g) (ho : OpR X (compareOp op) r) (ha : DE X a fa) (hb : DE X b fb) (hm : behindInMarks op b = false) : DT X (.Compare a [op] [b] pos) (fB (f2 fa fb g)) :=
  DT.of (pt_cmpR ho ha hb hm) fun L ρ μ d μ' σ H Q E ef k => d2 (t := tOp r (tD X.K fa) (tD X.K fb)) o L ρ μ _ μ' σ H _ E (fB_some ef) fun v H' E' s' q => ⟨d, dp_bl q, k H' E' s'⟩
def fChain (fa fb fc : FE) (g g' : PyData → PyData → Option PyData) : FE := fun ρ μ => bnd (fa ρ μ) fun d m => bnd (fb ρ m) fun e m' => opt (g d e) fun z => match z with
  | .bool true => bnd (fc ρ m') fun w m'' => fin (g' e w) m''
  | .bool false => some (.bool false, m')
  | _ => none
theorem d_chain {r r' : R2} {g g' : PyData → PyData → Option PyData} (o : Op2 X.K r g) (o' : Op2 X.K r' g') : ∀ L ρ μ d μ' σ H Q, EnvR X.K L H σ ρ μ → fChain fa fb fc g g' ρ μ = some (d, μ') → (∀ v H', EnvR X.K L H' σ ρ μ' → Step L H L H' → Dp X.K (Off L H') v d → Q v H') →
    tChain r r' (tD X.K fa) (tD X.K fb) (tD X.K fc) σ H Q := fun L ρ μ d μ' σ H Q E ef k => by
  obtain ⟨d1, m1, e1, ef⟩ := bnd_some ef
  obtain ⟨d2, m2, e2, ef⟩ := bnd_some ef
  obtain ⟨z, e3, ef⟩ := opt_some ef
  refine ⟨L, ρ, μ, d1, m1, E, e1, fun v H1 E1 s1 q1 => ⟨L, ρ, m1, d2, m2, E1, e2, fun u H2 E2 s2 q2 => ?_⟩⟩
  refine o L H2 v u d1 d2 z _ E2.own (q1.mono s2.same) q2 e3 fun w H3 s3 q3 => ?_
  have E3 := E2.same s3
  have st3 := (s1.trans s2).trans (Step.of_same (L := L) s3)
  split at ef
  · refine ⟨true, dp_bl q3, ?_⟩
    rw [if_pos rfl]
    obtain ⟨d4, m4, e4, ef⟩ := bnd_some ef
    obtain ⟨e5, rfl⟩ := fin_some ef
    refine ⟨L, ρ, m2, d4, _, E3, e4, fun t H4 E4 s4 q4 => ?_⟩
    exact o' L H4 u t d2 d4 d Q E4.own (q2.mono ((Step.of_same s3).trans s4).same) q4 e5 (Ret.of E4 (st3.trans s4) k)
  · refine ⟨false, dp_bl q3, ?_⟩
    rw [if_neg (by decide)]
    cases ef
    exact k _ H3 E3 st3 (.bl false)
  · cases ef
theorem de_chain {op op' : CmpOp} {r r' : R2} {g g' : PyData → PyData → Option PyData} (o : Op2 X.K r g) (o' : Op2 X.K r' g') (ho : OpR X (compareOp op) r) (ho' : OpR X (compareOp op') r') (ha : DE X a fa) (hb : DE X b fb) (hc : DE X c fc)
    (hm : lastMarks [op, op'] [b, c] = false := by with_unfolding_all rfl) : DE X (.Compare a [op, op'] [b, c] pos) (fChain fa fb fc g g') := DE.of (pe_chain ho ho' ha hb hc hm) (d_chain o o')
theorem dt_chain {op op' : CmpOp} {r r' : R2} {g g' : PyData → PyData → Option PyData} (o : Op2 X.K r g) (o' : Op2 X.K r' g') (ho : OpR X (compareOp op) r) (ho' : OpR X (compareOp op') r') (ha : DE X a fa) (hb : DE X b fb) (hc : DE X c fc)
    (hm : lastMarks [op, op'] [b, c] = false := by with_unfolding_all rfl) : DT X (.Compare a [op, op'] [b, c] pos) (fB (fChain fa fb fc g g')) :=
  DT.of (pt_chain ho ho' ha hb hc hm) fun L ρ μ d μ' σ H Q E ef k => d_chain o o' L ρ μ _ μ' σ H _ E (fB_some ef) fun v H' E' s' q => ⟨d, dp_bl q, k H' E' s'⟩
theorem dt_val (h : DE X e f) (he : ∀ whole, isTrue e X.env whole = (do let v ← whole; standAt e.pos; holding [v] (truthy v)) := by intro _; rfl) : DT X e (fB f) :=
  DT.of (pt_val h he) fun L ρ μ d μ' σ H Q E ef k => ⟨L, ρ, μ, _, μ', E, fB_some ef, fun v H' E' s' q => ⟨d, dp_bl q, k H' E' s'⟩⟩
def truB : PyData → Option Bool
  | .none => some false
  | .bool b => some b
  | .int i => some (i != 0)
  | .str x => if x.length ≤ sizeLine then some ((x.length : Int) != 0) else none
  | .list ds => some (!ds.isEmpty)
  | .tuple ds => some (!ds.isEmpty)
  | .dict _ => none
def fTru (f : FE) : FT := fun ρ μ => bnd (f ρ μ) fun d m => fin (truB d) m
def fAnd (ta tb : FT) : FT := fun ρ μ => bnd (ta ρ μ) fun b m => if b = true then tb ρ m else some (false, m)
def fOr (ta tb : FT) : FT := fun ρ μ => bnd (ta ρ μ) fun b m => if b = true then some (true, m) else tb ρ m
def fNot (ta : FT) : FT := fun ρ μ => bnd (ta ρ μ) fun b m => some (!b, m)
theorem dw_and1 (h : DT X a ta) : DW X (.BoolOp .And [a] pos) ta := pw_and1 h
theorem dw_or1 (h : DT X a ta) : DW X (.BoolOp .Or [a] pos) ta := pw_or1 h
theorem dw_and (ha : DT X a ta) (hb : DW X (.BoolOp .And (b :: rest) pos) tb) : DW X (.BoolOp .And (a :: b :: rest) pos) (fAnd ta tb) :=
  DW.of (pw_and ha hb) fun L ρ μ d μ' σ H Q E ef k => by
    obtain ⟨x, m, e1, ef⟩ := bnd_some ef
    refine ⟨L, ρ, μ, x, m, E, e1, fun H1 E1 s1 => ?_⟩
    cases x with
    | true => rw [if_pos rfl]; exact ⟨L, ρ, m, d, μ', E1, ef, fun H2 E2 s2 => k H2 E2 (s1.trans s2)⟩
    | false => rw [if_neg (by decide)]; cases ef; exact k H1 E1 s1
theorem dw_or (ha : DT X a ta) (hb : DW X (.BoolOp .Or (b :: rest) pos) tb) : DW X (.BoolOp .Or (a :: b :: rest) pos) (fOr ta tb) :=
  DW.of (pw_or ha hb) fun L ρ μ d μ' σ H Q E ef k => by
    obtain ⟨x, m, e1, ef⟩ := bnd_some ef
    refine ⟨L, ρ, μ, x, m, E, e1, fun H1 E1 s1 => ?_⟩
    cases x with
    | false => rw [if_neg (by decide)]; exact ⟨L, ρ, m, d, μ', E1, ef, fun H2 E2 s2 => k H2 E2 (s1.trans s2)⟩
    | true => rw [if_pos rfl]; cases ef; exact k H1 E1 s1
theorem dt_not (h : DT X a ta) : DT X (.UnaryOp .Not a pos) (fNot ta) :=
  DT.of (pt_not h) fun L ρ μ d μ' σ H Q E ef k => by
    obtain ⟨x, m, e1, ef⟩ := bnd_some ef
    cases ef
    exact ⟨L, ρ, μ, x, _, E, e1, fun H1 E1 s1 => k H1 E1 s1⟩
def fAndV (fa fb : FE) : FE := fun ρ μ => bnd (fB fa ρ μ) fun b m => if b = true then fb ρ m else some (.bool false, m)
def fOrV (fa fb : FE) : FE := fun ρ μ => bnd (fB fa ρ μ) fun b m => if b = true then some (.bool true, m) else fb ρ m
def fNotV (fa : FE) : FE := fun ρ μ => bnd (fB fa ρ μ) fun b m => some (.bool (!b), m)
theorem de_one {op} (h : DE X a f) : DE X (.BoolOp op [a] pos) f := pe_one h
theorem de_and (ha : DE X a fa) (hb : DE X (.BoolOp .And (b :: rest) pos) fb) : DE X (.BoolOp .And (a :: b :: rest) pos) (fAndV fa fb) :=
  DE.of (pe_and ha hb) fun L ρ μ d μ' σ H Q E ef k => by
    obtain ⟨x, m, e1, ef⟩ := bnd_some ef
    refine ⟨L, ρ, μ, _, m, E, fB_some e1, fun v H1 E1 s1 q1 => ⟨x, dp_bl q1, ?_⟩⟩
    cases x with
    | true => rw [if_pos rfl]; exact ⟨L, ρ, m, d, μ', E1, ef, fun u H2 E2 s2 q2 => k u H2 E2 (s1.trans s2) q2⟩
    | false => rw [if_neg (by decide)]; cases ef; exact k _ H1 E1 s1 (.bl false)
def fIf (t : FT) (fa fb : FE) : FE := fun ρ μ => bnd (t ρ μ) fun b m => if b = true then fa ρ m else fb ρ m
theorem de_ifExp (hc : DT X c tc) (ha : DE X a fa) (hb : DE X b fb) : DE X (.IfExp c a b pos) (fIf tc fa fb) :=
  DE.of (pe_ifExp hc ha hb) fun L ρ μ d μ' σ H Q E ef k => by
    obtain ⟨x, m, e1, ef⟩ := bnd_some ef
    refine ⟨L, ρ, μ, x, m, E, e1, fun H1 E1 s1 => ?_⟩
    cases x with
    | true => rw [if_pos rfl]; exact ⟨L, ρ, m, d, μ', E1, ef, fun u H2 E2 s2 q2 => k u H2 E2 (s1.trans s2) q2⟩
    | false => rw [if_neg (by decide)]; exact ⟨L, ρ, m, d, μ', E1, ef, fun u H2 E2 s2 q2 => k u H2 E2 (s1.trans s2) q2⟩
end
end DL
namespace DL
open PySem PySem.Spec PyProof.Rows L2
variable [Tabs]
section
variable {X : Cx} {e a b o : Expr} {es : List Expr} {pos apos p : Pos} {fa fb f fo : FE} {fs : FA}
def fNil : FA := fun _ μ => some ([], μ)
def fCons (f : FE) (fs : FA) : FA := fun ρ μ => bnd (f ρ μ) fun d m => bnd (fs ρ m) fun ds m' => some (d :: ds, m')
theorem DA.of {t : TA} {f : FA} (h : PA X es t) (imp : ∀ L ρ μ d μ' σ H Q, EnvR X.K L H σ ρ μ → f ρ μ = some (d, μ') → (∀ v H', EnvR X.K L H' σ ρ μ' → Step L H L H' → DpAll X.K (Off L H') v d → Q v H') → t σ H Q) : DA X es f :=
  fun pos pins s σ H Q I ⟨L, ρ, μ, d, μ', E, ef, k⟩ => h pos pins s σ H Q I (imp L ρ μ d μ' σ H Q E ef k)
theorem da_nil : DA X [] fNil := DA.of pa_nil fun L ρ μ d μ' σ H Q E ef k => by cases ef; exact k [] H E (Step.refl _ _) .nil
theorem da_cons (ha : DE X e f) (hr : DA X es fs) (hs : starEach (e :: es) X.env = (false, eval e X.env) :: starEach es X.env := by rfl) : DA X (e :: es) (fCons f fs) :=
  DA.of (pa_cons ha hr hs) fun L ρ μ d μ' σ H Q E ef k => by
    obtain ⟨d1, m1, e1, ef⟩ := bnd_some ef
    obtain ⟨ds, m2, e2, ef⟩ := bnd_some ef
    cases ef
    exact ⟨L, ρ, μ, d1, m1, E, e1, fun v H1 E1 s1 q1 => ⟨L, ρ, m1, ds, _, E1, e2, fun vs H2 E2 s2 q2 => k (v :: vs) H2 E2 (s1.trans s2) (.cons (q1.mono s2.same) q2)⟩⟩
def fN (fs : FA) (g : List PyData → Option PyData) : FE := fun ρ μ => bnd (fs ρ μ) fun ds m => fin (g ds) m
theorem dN {r : List V → Hp → VK → Prop} {g : List PyData → Option PyData} (o : OpN X.K r g) : ∀ L ρ μ d μ' σ H Q, EnvR X.K L H σ ρ μ → fN fs g ρ μ = some (d, μ') → (∀ v H', EnvR X.K L H' σ ρ μ' → Step L H L H' → Dp X.K (Off L H') v d → Q v H') →
    tDA X.K fs σ H fun vs H1 => r vs H1 Q := fun L ρ μ d μ' σ H Q E ef k => by
  obtain ⟨ds, m1, e1, ef⟩ := bnd_some ef
  obtain ⟨e3, rfl⟩ := fin_some ef
  exact ⟨L, ρ, μ, ds, _, E, e1, fun vs H1 E1 s1 q1 => o L H1 vs ds d Q E1.own q1 e3 (Ret.of E1 s1 k)⟩
def gTup (ds : List PyData) : Option PyData := if ds.length ≤ sizeLine then some (.tuple ds) else none
def gLst (ds : List PyData) : Option PyData := if ds.length ≤ sizeLine then some (.list ds) else none
theorem oN_tup {K : PySem.W.Frag} : OpN K (fun xs H Q => xs.length ≤ sizeLine ∧ ∀ p, H p = none → Q (.ref p) (upd H p (.tup xs))) gTup := fun L H xs ds z Q hL h hg k => by
  unfold gTup at hg
  split at hg
  · cases hg; exact ⟨by rw [dps_len h]; assumption, k.tup hL h⟩
  · cases hg
theorem oN_lst {K : PySem.W.Frag} : OpN K (fun xs H Q => xs.length ≤ sizeLine ∧ ∀ p, H p = none → Q (.ref p) (upd H p (.lst xs))) gLst := fun L H xs ds z Q hL h hg k => by
  unfold gLst at hg
  split at hg
  · cases hg; exact ⟨by rw [dps_len h]; assumption, k.lst hL h⟩
  · cases hg
theorem de_tup {x1} (h : DA X es fs) : DE X (.Tuple es x1 pos) (fN fs DL.gTup) := DE.of (pe_tup h) (dN oN_tup)
theorem de_lst (h : DA X es fs) : DE X (.List es pos) (fN fs gLst) := DE.of (pe_lst h) (dN oN_lst)
theorem de_callB {x : Str} {id : String} {r : List V → Hp → VK → Prop} {g : List PyData → Option PyData} (oN : OpN X.K r g) (hc : CallR X (.builtin id) r) (hg : Gl X x) (hm : X.mg x = none) (hv : bootBuiltins x = some (.builtin id)) (ha : DA X (e :: es) fs)
    (hn : x ≠ "__name__" := by decide) (hdb : (x == ("__debug__" : Str)) = false := by decide)
    (he : starEach (e :: es) X.env = (false, eval e X.env) :: starEach es X.env := by rfl) (hpl : (backTo pos (starEach es X.env)).any (·.1) = false := by rfl) : DE X (.Call (.Name x p) (e :: es) [] pos) (fN fs g) :=
  DE.of (pe_callB hc hg hm hv ha hn hdb he hpl) (dN oN)
theorem de_callTy {x : Str} {T : String} {r : List V → Hp → VK → Prop} {g : List PyData → Option PyData} (oN : OpN X.K r g) (hc : CallR X (.type T) r) (hg : Gl X x) (hm : X.mg x = none) (hv : bootBuiltins x = some (.type T)) (ha : DA X (e :: es) fs)
    (hn : x ≠ "__name__" := by decide) (hdb : (x == ("__debug__" : Str)) = false := by decide)
    (he : starEach (e :: es) X.env = (false, eval e X.env) :: starEach es X.env := by rfl) (hpl : (backTo pos (starEach es X.env)).any (·.1) = false := by rfl) : DE X (.Call (.Name x p) (e :: es) [] pos) (fN fs g) :=
  DE.of (pe_callTy hc hg hm hv ha hn hdb he hpl) (dN oN)
def lenD : PyData → Option PyData
  | .str x => if x.length ≤ sizeLine then some (.int x.length) else none
  | .list ds => some (.int ds.length)
  | .tuple ds => some (.int ds.length)
  | _ => none
def g1 (g : PyData → Option PyData) : List PyData → Option PyData
  | [d] => g d
  | _ => none
theorem oN_len {K : PySem.W.Frag} : OpN K (fun xs H Q => ∃ x n, xs = [x] ∧ LenV K x H n ∧ Q (.int n) H) (g1 lenD) := fun L H xs ds z Q hL h hg k => by
  unfold g1 at hg
  split at hg
  · rename_i d
    cases h with
    | cons h1 h2 =>
      cases h2
      cases d with
      | str x =>
        have hg : (if x.length ≤ sizeLine then some (PyData.int x.length) else none) = some z := hg
        by_cases q : x.length ≤ sizeLine
        · rw [if_pos q] at hg; cases hg
          rw [dp_str h1]
          exact ⟨_, x.length, rfl, ⟨q, rfl⟩, k.int⟩
        · rw [if_neg q] at hg; cases hg
      | list ds =>
        cases hg
        obtain ⟨a, xs, rfl, s1, q1⟩ := dp_lst h1
        exact ⟨_, ds.length, rfl, .inl ⟨xs, sqlf s1, (dps_len q1).symm⟩, k.int⟩
      | tuple ds =>
        cases hg
        obtain ⟨a, xs, rfl, s1, q1⟩ := dp_tup h1
        exact ⟨_, ds.length, rfl, .inr ⟨xs, sqtf s1, (dps_len q1).symm⟩, k.int⟩
      | _ => cases hg
  · cases hg
def blsOf : List PyData → Option (List Bool)
  | [] => some []
  | .bool b :: r => opt (blsOf r) fun bs => some (b :: bs)
  | _ :: _ => none
theorem blsOf_dp {K : PySem.W.Frag} {H : Hp} : ∀ {ds : List PyData} {xs : List V} {bs : List Bool}, DpAll K H xs ds → blsOf ds = some bs → xs = bs.map V.bl
  | [], _, _, h, e => by cases e; cases h; rfl
  | .bool b :: r, _, _, h, e => by
    obtain ⟨bs, e1, e2⟩ := opt_some e
    cases e2
    cases h with
    | cons h1 h2 => rw [dp_bl h1, blsOf_dp h2 e1]; rfl
  | .none :: _, _, _, _, e => by cases e
  | .int _ :: _, _, _, _, e => by cases e
  | .str _ :: _, _, _, _, e => by cases e
  | .list _ :: _, _, _, _, e => by cases e
  | .tuple _ :: _, _, _, _, e => by cases e
  | .dict _ :: _, _, _, _, e => by cases e
def allD : PyData → Option PyData
  | .list ds => opt (blsOf ds) fun bs => some (.bool (bs.all id))
  | _ => none
theorem oN_all {K : PySem.W.Frag} : OpN K (rAll K) (g1 allD) := fun L H xs ds z Q hL h hg k => by
  unfold g1 at hg
  split at hg
  · rename_i d
    cases h with
    | cons h1 h2 =>
      cases h2
      cases d with
      | list ds =>
        obtain ⟨bs, e1, e2⟩ := opt_some hg
        cases e2
        obtain ⟨a, xs, rfl, s1, q1⟩ := dp_lst h1
        rw [blsOf_dp q1 e1] at s1
        exact ⟨a, bs, rfl, sqlf s1, k.bl⟩
      | _ => cases hg
  · cases hg
def listD : PyData → Option PyData
  | .list ds => some (.list ds)
  | .tuple ds => some (.list ds)
  | _ => none
theorem oN_list {K : PySem.W.Frag} : OpN K (fun xs H Q => ∃ p ys, xs = [.ref p] ∧ (SqL K H p ys ∨ SqT K H p ys) ∧ ∀ l, H l = none → Q (.ref l) (upd H l (.lst ys))) (g1 listD) := fun L H xs ds z Q hL h hg k => by
  unfold g1 at hg
  split at hg
  · rename_i d
    cases h with
    | cons h1 h2 =>
      cases h2
      cases d with
      | list ds =>
        cases hg
        obtain ⟨a, xs, rfl, s1, q1⟩ := dp_lst h1
        exact ⟨a, xs, rfl, .inl (sqlf s1), k.lst hL q1⟩
      | tuple ds =>
        cases hg
        obtain ⟨a, xs, rfl, s1, q1⟩ := dp_tup h1
        exact ⟨a, xs, rfl, .inr (sqtf s1), k.lst hL q1⟩
      | _ => cases hg
  · cases hg
theorem CallR.or {f : Value} {r r' : List V → Hp → VK → Prop} (h : CallR X f r) (h' : CallR X f r') : CallR X f (fun xs H Q => r xs H Q ∨ r' xs H Q) := by
  intro pins s σ H xs us Q I rs q
  rcases q with q | q
  · exact h pins s σ H xs us Q I rs q
  · exact h' pins s σ H xs us Q I rs q
def intD : PyData → Option PyData
  | .int i => some (.int i)
  | .bool b => some (.int (if b then 1 else 0))
  | .str a => if a.length ≤ 640 then opt (PySem.intText? a) fun n => some (.int n) else none
  | _ => none
def rInt : List V → Hp → VK → Prop := fun xs H Q => ((∃ i, xs = [.int i] ∧ Q (.int i) H) ∨ ∃ k, xs = [.bl k] ∧ Q (.int (if k then 1 else 0)) H) ∨ (∃ a n, xs = [.str a] ∧ PySem.intText? a = some n ∧ a.length ≤ 640 ∧ Q (.int n) H)
theorem call_intA : CallR X (.type "int") rInt := CallR.or call_int1 call_int_str
theorem oN_int {K : PySem.W.Frag} : OpN K rInt (g1 intD) := fun L H xs ds z Q hL h hg k => by
  unfold g1 at hg
  split at hg
  · rename_i d
    cases h with
    | cons h1 h2 =>
      cases h2
      cases d with
      | int i => cases hg; rw [dp_int h1]; exact .inl (.inl ⟨i, rfl, k.int⟩)
      | bool i => cases hg; rw [dp_bl h1]; exact .inl (.inr ⟨i, rfl, k.int⟩)
      | str a =>
        have hg : (if a.length ≤ 640 then opt (PySem.intText? a) fun n => some (PyData.int n) else none) = some z := hg
        by_cases q : a.length ≤ 640
        · rw [if_pos q] at hg
          obtain ⟨n, e1, e2⟩ := opt_some hg
          cases e2
          rw [dp_str h1]
          exact .inr ⟨a, n, rfl, e1, q, k.int⟩
        · rw [if_neg q] at hg; cases hg
      | _ => cases hg
  · cases hg
def fM1 (fo fe : FE) (g : Str → PyData → Option PyData) : FE := fun ρ μ => bnd (fo ρ μ) fun d m => match d with
  | .str a => bnd (fe ρ m) fun e m' => fin (g a e) m'
  | _ => none
def OpM1 (K : PySem.W.Frag) (r : V → List V → Hp → VK → Prop) (g : Str → PyData → Option PyData) : Prop := ∀ (L : OW) (H : Hp) (a : Str) (y : V) (e z : PyData) (Q : VK), Own L H → Dp K (Off L H) y e → g a e = some z → Ret K L H z Q → r (.str a) [y] H Q
theorem de_m1 {id : String} {name : Str} {r : V → List V → Hp → VK → Prop} {g : Str → PyData → Option PyData} (om : OpM1 X.K r g) (slot : Slot "str" name id) (ty : typeOf (.builtin id) = pure (.type "method_descriptor")) (rule : MtR X id r) (ho : DE X o fo) (he : DE X e f)
    (hs : starEach [e] X.env = [(false, eval e X.env)] := by rfl) (hbase : attributeBase o name X.env (eval o X.env) = eval o X.env := by rfl) (hline : (apos.endLine == pos.line) = true := by rfl) :
    DE X (.Call (.Attribute o name apos) [e] [] pos) (fM1 fo f g) := DE.of (pe_m1 slot ty rule ho he hs hbase hline) fun L ρ μ d μ' σ H Q E ef k => by
  obtain ⟨d1, m1, e1, ef⟩ := bnd_some ef
  split at ef
  · rename_i a
    obtain ⟨d2, m2, e2, ef⟩ := bnd_some ef
    obtain ⟨e3, rfl⟩ := fin_some ef
    refine ⟨L, ρ, μ, _, m1, E, e1, fun v H1 E1 s1 q1 => ⟨⟨a, dp_str q1⟩, L, ρ, m1, d2, _, E1, e2, fun u H2 E2 s2 q2 => ?_⟩⟩
    rw [dp_str q1]
    exact om L H2 a u d2 d Q E2.own q2 e3 (Ret.of E2 (s1.trans s2) k)
  · cases ef
def fM0 (fo : FE) (g : Str → Option PyData) : FE := fun ρ μ => bnd (fo ρ μ) fun d m => match d with
  | .str a => fin (g a) m
  | _ => none
def gSS (g : Str → Str → PyData) (a : Str) (e : PyData) : Option PyData := match e with
  | .str b => some (g a b)
  | _ => none
theorem om_bl {K : PySem.W.Frag} {g : Str → Str → Bool} : OpM1 K (fun x xs H Q => ∃ a b, x = .str a ∧ xs = [.str b] ∧ Q (.bl (g a b)) H) (gSS fun a b => .bool (g a b)) := fun L H a y e z Q hL h hg k => by
  unfold gSS at hg
  split at hg
  · cases hg; rw [dp_str h]; exact ⟨_, _, rfl, rfl, k.bl⟩
  · cases hg
def splitD (a : Str) (e : PyData) : Option PyData := match e with
  | .str b => if (b.length == 0) = false ∧ a.length + 2 ≤ sizeLine then some (.list ((Txt.split a b).map PyData.str)) else none
  | _ => none
theorem dps_strs {K : PySem.W.Frag} {H : Hp} : ∀ (ys : List Str), DpAll K H (ys.map V.str) (ys.map PyData.str)
  | [] => .nil
  | x :: r => .cons (.str x) (dps_strs r)
theorem om_split {K : PySem.W.Frag} : OpM1 K (fun x xs H Q => ∃ a b, x = .str a ∧ xs = [.str b] ∧ (b.length == 0) = false ∧ a.length + 2 ≤ sizeLine ∧ rNewStrs (Txt.split a b) H Q) splitD := fun L H a y e z Q hL h hg k => by
  unfold splitD at hg
  split at hg
  · split at hg
    · rename_i q; cases hg; rw [dp_str h]; exact ⟨_, _, rfl, rfl, q.1, q.2, k.lst hL (dps_strs _)⟩
    · cases hg
  · cases hg
def strsOf : List PyData → Option (List Str)
  | [] => some []
  | .str b :: r => opt (strsOf r) fun bs => some (b :: bs)
  | _ :: _ => none
theorem strsOf_map : ∀ ys : List Str, strsOf (ys.map PyData.str) = some ys
  | [] => rfl
  | y :: r => by show opt (strsOf (r.map PyData.str)) _ = _; rw [strsOf_map r]; rfl
theorem strsOf_dp {K : PySem.W.Frag} {H : Hp} : ∀ {ds : List PyData} {xs : List V} {bs : List Str}, DpAll K H xs ds → strsOf ds = some bs → xs = bs.map V.str
  | [], _, _, h, e => by cases e; cases h; rfl
  | .str b :: r, _, _, h, e => by
    obtain ⟨bs, e1, e2⟩ := opt_some e
    cases e2
    cases h with
    | cons h1 h2 => rw [dp_str h1, strsOf_dp h2 e1]; rfl
  | .none :: _, _, _, _, e => by cases e
  | .int _ :: _, _, _, _, e => by cases e
  | .bool _ :: _, _, _, _, e => by cases e
  | .list _ :: _, _, _, _, e => by cases e
  | .tuple _ :: _, _, _, _, e => by cases e
  | .dict _ :: _, _, _, _, e => by cases e
def joinT (a : Str) (ys : List Str) : Option PyData := if (ys.map (·.length)).sum + ys.length * a.length ≤ 16777216 then some (.str (Txt.join a ys)) else none
def joinD (a : Str) (e : PyData) : Option PyData := match e with
  | .list ds => opt (strsOf ds) fun ys => joinT a ys
  | .tuple ds => opt (strsOf ds) fun ys => joinT a ys
  | _ => none
theorem om_join {K : PySem.W.Frag} : OpM1 K (fun x xs H Q => ∃ a p, ∃ ys : List Str, x = .str a ∧ xs = [.ref p] ∧ (SqL K H p (ys.map V.str) ∨ SqT K H p (ys.map V.str)) ∧
      (ys.map (·.length)).sum + ys.length * a.length ≤ 16777216 ∧ Q (.str (Txt.join a ys)) H) joinD := fun L H a y e z Q hL h hg k => by
  unfold joinD at hg
  split at hg
  · obtain ⟨ys, e1, e2⟩ := opt_some hg
    unfold joinT at e2
    split at e2
    · cases e2
      obtain ⟨p, xs, rfl, s1, q1⟩ := dp_lst h
      rw [strsOf_dp q1 e1] at s1
      exact ⟨a, p, ys, rfl, rfl, .inl (sqlf s1), by assumption, k.str⟩
    · cases e2
  · obtain ⟨ys, e1, e2⟩ := opt_some hg
    unfold joinT at e2
    split at e2
    · cases e2
      obtain ⟨p, xs, rfl, s1, q1⟩ := dp_tup h
      rw [strsOf_dp q1 e1] at s1
      exact ⟨a, p, ys, rfl, rfl, .inr (sqtf s1), by assumption, k.str⟩
    · cases e2
  · cases hg
def rRemS : V → List V → Hp → VK → Prop := fun x xs H Q => ∃ a b, x = .str a ∧ xs = [.str b] ∧ a.length ≤ sizeLine ∧ Q (.str (Txt.removesuffix a b)) H
theorem mt_removesuffix : MtR X "str.removesuffix" rRemS := by
  intro pins s σ H x xs v us Q I rx rs h
  obtain ⟨a, b, rfl, rfl, hz, h⟩ := h
  obtain ⟨t, rfl⟩ := rx
  cases rs with
  | cons r1 rs =>
    cases rs
    obtain ⟨u, rfl⟩ := r1
    exact PySem.SC.removesuffix (fun t' k => ⟨.str (Txt.removesuffix a b), H, I.tok k, ⟨t', rfl⟩, h⟩) hz
def remSD (a : Str) (e : PyData) : Option PyData := match e with
  | .str b => if a.length ≤ sizeLine then some (.str (Txt.removesuffix a b)) else none
  | _ => none
theorem om_remS {K : PySem.W.Frag} : OpM1 K rRemS remSD := fun L H a y e z Q hL h hg k => by
  unfold remSD at hg
  split at hg
  · split at hg
    · cases hg; rw [dp_str h]; exact ⟨_, _, rfl, rfl, by assumption, k.str⟩
    · cases hg
  · cases hg
def ixD (d e : PyData) : Option PyData := match d, e with
  | .list ds, .int i => atI ds i
  | .tuple ds, .int i => atI ds i
  | .str z, .int i => if z.length ≤ sizeLine then opt (atI z.cps.toList i) fun c => some (.str ⟨#[c]⟩) else none
  | _, _ => none
theorem at_dp {K : PySem.W.Frag} {H : Hp} {xs : List V} {ds : List PyData} {i : Int} {d : PyData} (h : DpAll K H xs ds) (e : atI ds i = some d) : ∃ v, atI xs i = some v ∧ Dp K H v d := by
  unfold atI at e ⊢
  rw [dps_len h]
  cases q : ixN ds.length i with
  | none => rw [q] at e; cases e
  | some j =>
    rw [q] at e
    exact dps_get h e
theorem o2_ix {K : PySem.W.Frag} : Op2 K (rIx K) ixD := fun L H x y d e z Q hL h1 h2 hg k => by
  unfold ixD at hg
  split at hg
  · obtain ⟨a, xs, rfl, s1, q1⟩ := dp_lst h1
    obtain ⟨v, e1, e2⟩ := at_dp q1 hg
    exact .inl ⟨a, xs, _, v, rfl, dp_int h2, sqlf s1, e1, k _ H (Same.refl H) e2⟩
  · obtain ⟨a, xs, rfl, s1, q1⟩ := dp_tup h1
    obtain ⟨v, e1, e2⟩ := at_dp q1 hg
    exact .inr (.inl ⟨a, xs, _, v, rfl, dp_int h2, sqtf s1, e1, k _ H (Same.refl H) e2⟩)
  · split at hg
    · obtain ⟨c, e1, e2⟩ := opt_some hg
      cases e2
      exact .inr (.inr ⟨_, _, c, dp_str h1, dp_int h2, by assumption, e1, k.str⟩)
    · cases hg
  · cases hg
theorem de_ix (ha : DE X a fa) (hb : DE X b fb) (hs : PlainIx b) : DE X (.Subscript a b pos) (f2 fa fb ixD) :=
  DE.of (pe_ix ix_seq ha hb hs) (d2 (t := tOp (rIx X.K) (tD X.K fa) (tD X.K fb)) o2_ix)
abbrev FO := Rho → Mu → Option (Option Int × Mu)
def tDO (K : PySem.W.Frag) (f : FO) : TO := fun σ H Q => ∃ L ρ μ d μ', EnvR K L H σ ρ μ ∧ f ρ μ = some (d, μ') ∧ ∀ H', EnvR K L H' σ ρ μ' → Step L H L H' → Q d H'
def DO (X : Cx) (e : Option Expr) (f : FO) : Prop := PO X e (tDO X.K f)
def fNo : FO := fun _ μ => some (none, μ)
def fSome (f : FE) : FO := fun ρ μ => bnd (f ρ μ) fun d m => match d with
  | .int i => some (some i, m)
  | _ => none
theorem do_none : DO X none fNo := fun pins s σ H Q I ⟨L, ρ, μ, d, μ', E, ef, k⟩ => po_none pins s σ H Q I (by cases ef; exact k H E (Step.refl _ _))
theorem do_some (h : DE X e f) : DO X (some e) (fSome f) := fun pins s σ H Q I ⟨L, ρ, μ, d, μ', E, ef, k⟩ => po_some h pins s σ H Q I (by
  obtain ⟨d1, m1, e1, ef⟩ := bnd_some ef
  split at ef
  · cases ef
    exact ⟨L, ρ, μ, _, _, E, e1, fun v H1 E1 s1 q1 => ⟨_, dp_int q1, k H1 E1 s1⟩⟩
  · cases ef)
def cutD (xs : List PyData) (lo hi : Option Int) : List PyData := (xs.drop (HT.sIx xs.length 0 lo)).take (HT.sIx xs.length xs.length hi - HT.sIx xs.length 0 lo)
theorem cut_dp {K : PySem.W.Frag} {H : Hp} {xs : List V} {ds : List PyData} (lo hi : Option Int) (h : DpAll K H xs ds) : DpAll K H (cutV xs lo hi) (cutD ds lo hi) := by
  unfold cutV cutD
  rw [dps_len h]
  exact dps_take _ (dps_drop _ h)
def slD (d : PyData) (lo hi : Option Int) : Option PyData := match d with
  | .list ds => some (.list (cutD ds lo hi))
  | .tuple ds => if HT.sIx ds.length 0 lo = 0 ∧ HT.sIx ds.length ds.length hi = ds.length then none else some (.tuple (cutD ds lo hi))
  | .str z => if z.length ≤ sizeLine then some (.str (cutS z lo hi)) else none
  | _ => none
def rSlA (K : PySem.W.Frag) : V → Option Int → Option Int → Hp → VK → Prop := fun x lo hi H Q => rSlL K x lo hi H Q ∨ rSlT K x lo hi H Q ∨ rSlS x lo hi H Q
theorem sl_all : L2.SlR X (rSlA X.K) := sl_list.or (sl_tup.or sl_str)
theorem o_sl {K : PySem.W.Frag} {L : OW} {H : Hp} {x : V} {d z : PyData} {lo hi : Option Int} {Q : VK} (hL : Own L H) (h : Dp K (Off L H) x d) (hg : slD d lo hi = some z) (k : Ret K L H z Q) : rSlA K x lo hi H Q := by
  unfold slD at hg
  split at hg
  · cases hg
    obtain ⟨a, xs, rfl, s1, q1⟩ := dp_lst h
    exact .inl ⟨a, xs, rfl, sqlf s1, k.lst hL (cut_dp lo hi q1)⟩
  · split at hg
    · cases hg
    · rename_i hw
      cases hg
      obtain ⟨a, xs, rfl, s1, q1⟩ := dp_tup h
      exact .inr (.inl ⟨a, xs, rfl, sqtf s1, by rw [dps_len q1]; exact hw, k.tup hL (cut_dp lo hi q1)⟩)
  · split at hg
    · cases hg
      exact .inr (.inr ⟨_, dp_str h, by assumption, k.str⟩)
    · cases hg
  · cases hg
def fSl (f : FE) (fl fh : FO) : FE := fun ρ μ => bnd (f ρ μ) fun d m => bnd (fl ρ m) fun lo m' => bnd (fh ρ m') fun hi m'' => fin (slD d lo hi) m''
theorem de_slice {lo hi : Option Expr} {fl fh : FO} {p2 : Pos} (he : DE X e f) (hl : DO X lo fl) (hh : DO X hi fh) : DE X (.Subscript e (.Slice lo hi none p2) pos) (fSl f fl fh) :=
  DE.of (pe_slice sl_all he hl hh) fun L ρ μ d μ' σ H Q E ef k => by
    obtain ⟨d1, m1, e1, ef⟩ := bnd_some ef
    obtain ⟨lo, m2, e2, ef⟩ := bnd_some ef
    obtain ⟨hi, m3, e3, ef⟩ := bnd_some ef
    obtain ⟨e4, rfl⟩ := fin_some ef
    refine ⟨L, ρ, μ, d1, m1, E, e1, fun v H1 E1 s1 q1 => ⟨L, ρ, m1, lo, m2, E1, e2, fun H2 E2 s2 => ⟨L, ρ, m2, hi, _, E2, e3, fun H3 E3 s3 => ?_⟩⟩⟩
    exact o_sl E3.own (q1.mono (s2.trans s3).same) e4 (Ret.of E3 ((s1.trans s2).trans s3) k)
def tyD : PyData → String
  | .none => "NoneType"
  | .bool _ => "bool"
  | .int _ => "int"
  | .str _ => "str"
  | .list _ => "list"
  | .tuple _ => "tuple"
  | .dict _ => "dict"
theorem vals2 {x y : V} {us : List Value} (r : Vals [x, y] us) : ∃ u w, us = [u, w] ∧ RelV x u ∧ RelV y w := by
  cases r with
  | cons r1 r2 =>
    cases r2 with
    | cons r2 r3 => cases r3; exact ⟨_, _, rfl, r1, r2⟩
def fIsi (T : String) (f : FE) : FE := fun ρ μ => bnd (f ρ μ) fun d m => if tyD d = T then some (.bool true, m) else none
end
end DL
namespace DL
open PySem PySem.Spec PyProof.Rows L2
variable [Tabs]
inductive RV where
  | dat (d : PyData) | own (k : Nat)
inductive Out where
  | nx (r : Rho) (m : Mu) | rt (v : RV) (m : Mu) | bk (r : Rho) (m : Mu) | ct (r : Rho) (m : Mu)
abbrev FS := Rho → Mu → Option Out
def RvR (K : PySem.W.Frag) (L : OW) (H : Hp) (v : V) : RV → Prop
  | .dat d => Dp K (Off L H) v d
  | .own k => ∃ l, L.o[k]? = some l ∧ v = .ref l
def OutOk (K : PySem.W.Frag) (L : OW) (H : Hp) (D : Ends) : Out → Prop
  | .nx r m => ∀ σ' H' L', EnvR K L' H' σ' r m → Step L H L' H' → D.nx σ' H'
  | .bk r m => ∀ σ' H' L', EnvR K L' H' σ' r m → Step L H L' H' → D.bk σ' H'
  | .ct r m => ∀ σ' H' L', EnvR K L' H' σ' r m → Step L H L' H' → D.ct σ' H'
  | .rt v m => ∀ u H' L', L'.o.Nodup → StoreR K L' H' m → Step L H L' H' → RvR K L' H' u v → D.rt u H'
theorem OutOk.step {K : PySem.W.Frag} {L L1 : OW} {H H1 : Hp} {D : Ends} {o : Out} (s : Step L H L1 H1) (h : OutOk K L H D o) : OutOk K L1 H1 D o := by
  cases o with
  | nx r m => exact fun σ' H' L' E st => h σ' H' L' E (s.trans st)
  | bk r m => exact fun σ' H' L' E st => h σ' H' L' E (s.trans st)
  | ct r m => exact fun σ' H' L' E st => h σ' H' L' E (s.trans st)
  | rt v m => exact fun u H' L' n E st => h u H' L' n E (s.trans st)
def tDS (K : PySem.W.Frag) (F : FS) : TS := fun D σ H => ∃ L ρ μ o, EnvR K L H σ ρ μ ∧ F ρ μ = some o ∧ OutOk K L H D o
def DS (X : Cx) (st : Stmt) (F : FS) : Prop := PS X st (tDS X.K F)
def DSs (X : Cx) (sts : List Stmt) (F : FS) : Prop := PSs X sts (tDS X.K F)
section
variable {X : Cx} {st : Stmt} {rest : List Stmt} {e a b c tg : Expr} {pos : Pos} {f fa fb : FE} {tc : FT} {F G : FS}
theorem DS.of {t : TS} (h : PS X st t) (imp : ∀ L ρ μ o σ H D, EnvR X.K L H σ ρ μ → F ρ μ = some o → OutOk X.K L H D o → t D σ H) : DS X st F :=
  fun pins s σ H D I ⟨L, ρ, μ, o, E, ef, k⟩ => h pins s σ H D I (imp L ρ μ o σ H D E ef k)
theorem DSs.of {t : TS} (h : PSs X rest t) (imp : ∀ L ρ μ o σ H D, EnvR X.K L H σ ρ μ → F ρ μ = some o → OutOk X.K L H D o → t D σ H) : DSs X rest F :=
  fun pins s σ H D I ⟨L, ρ, μ, o, E, ef, k⟩ => h pins s σ H D I (imp L ρ μ o σ H D E ef k)
def fEnd : FS := fun ρ μ => some (.nx ρ μ)
def fSeq (F G : FS) : FS := fun ρ μ => match F ρ μ with
  | some (.nx r m) => G r m
  | r => r
theorem dss_nil : DSs X [] fEnd := DSs.of pss_nil fun L ρ μ o σ H D E ef k => by cases ef; exact k σ H L E (Step.refl _ _)
theorem dss_one (h : DS X st F) : DSs X [st] F := pss_one h
theorem dss_cons (h1 : DS X st F) (h2 : DSs X rest G) : DSs X (st :: rest) (fSeq F G) := DSs.of (pss_cons h1 h2) fun L ρ μ o σ H D E ef k => by
  unfold fSeq at ef
  cases q : F ρ μ with
  | none => rw [q] at ef; cases ef
  | some o1 =>
    rw [q] at ef
    refine ⟨L, ρ, μ, o1, E, q, ?_⟩
    cases o1 with
    | nx r m => exact fun σ' H' L' E' s' => ⟨L', r, m, o, E', ef, k.step s'⟩
    | rt v m => cases ef; exact k
    | bk r m => cases ef; exact k
    | ct r m => cases ef; exact k
def fExpr (f : FE) : FS := fun ρ μ => bnd (f ρ μ) fun _ m => some (.nx ρ m)
def fRet (f : FE) : FS := fun ρ μ => bnd (f ρ μ) fun d m => some (.rt (.dat d) m)
theorem ds_ret (he : DE X e f) : DS X (.Return (some e) pos) (fRet f) := DS.of (ps_ret he) fun L ρ μ o σ H D E ef k => by
  obtain ⟨d, m, e1, ef⟩ := bnd_some ef
  cases ef
  exact ⟨L, ρ, μ, d, m, E, e1, fun v H' E' s' q => k v H' L E'.nd.1 E'.st s' q⟩
def fRetO (i : Nat) : FS := fun ρ μ => match ρ[i]? with
  | some (.own k) => some (.rt (.own k) μ)
  | _ => none
def fIfS (t : FT) (F G : FS) : FS := fun ρ μ => bnd (t ρ μ) fun b m => if b = true then F ρ m else G ρ m
theorem ds_if {x y : List Stmt} (hc : DT X c tc) (ha : DSs X x F) (hb : DSs X y G) : DS X (.If c x y pos) (fIfS tc F G) := DS.of (ps_if hc ha hb) fun L ρ μ o σ H D E ef k => by
  obtain ⟨b, m, e1, ef⟩ := bnd_some ef
  refine ⟨L, ρ, μ, b, m, E, e1, fun H1 E1 s1 => ?_⟩
  cases b with
  | true => rw [if_pos rfl]; exact ⟨L, ρ, m, o, E1, ef, k.step s1⟩
  | false => rw [if_neg (by decide)]; exact ⟨L, ρ, m, o, E1, ef, k.step s1⟩
abbrev FG := PyData → Rho → Option Rho
def But (is : List Nat) (σ σ' : L2.St) : Prop := σ'.length = σ.length ∧ ∀ j, j ∉ is → σ'[j]? = σ[j]?
def tDG (K : PySem.W.Frag) (is : List Nat) (g : FG) : TG := fun v σ H Q => ∃ L ρ μ d ρ', EnvR K L H σ ρ μ ∧ Dp K (Off L H) v d ∧ g d ρ = some ρ' ∧ ∀ σ', But is σ σ' → EnvR K L H σ' ρ' μ → Q σ' H
def tDGs (K : PySem.W.Frag) (is : List Nat) (g : List PyData → Rho → Option Rho) : TGs := fun vs σ H Q => ∃ L ρ μ ds ρ', EnvR K L H σ ρ μ ∧ DpAll K (Off L H) vs ds ∧ g ds ρ = some ρ' ∧ ∀ σ', But is σ σ' → EnvR K L H σ' ρ' μ → Q σ' H
def DG (X : Cx) (tg : Expr) (is : List Nat) (g : FG) : Prop := PG X tg (tDG X.K is g)
def DGs (X : Cx) (tgs : List Expr) (is : List Nat) (g : List PyData → Rho → Option Rho) : Prop := PGs X tgs (tDGs X.K is g)
theorem EnvR.put {K : PySem.W.Frag} {L : OW} {H : Hp} {σ : L2.St} {ρ : Rho} {μ : Mu} {v : V} {d : PyData} (E : EnvR K L H σ ρ μ) (i : Nat) (q : Dp K (Off L H) v d) : EnvR K L H (σ.set i (some v)) (ρ.set i (.dat d)) μ :=
  ⟨E.nd, E.lk, pr_set (R := SlotR K L H) (show SlotR K L H (some v) (.dat d) from ⟨v, rfl, q⟩) i E.sl, E.st⟩
theorem But.set {σ : L2.St} {i : Nat} {o : Option V} : But [i] σ (σ.set i o) := ⟨by simp, fun j hj => by
  have : i ≠ j := fun z => hj (by simp [z])
  rw [List.getElem?_set_ne this]⟩
theorem But.trans {is js : List Nat} {σ σ1 σ2 : L2.St} (a : But is σ σ1) (b : But js σ1 σ2) : But (is ++ js) σ σ2 := ⟨b.1.trans a.1, fun j hj => by
  rw [List.mem_append, not_or] at hj
  rw [b.2 j hj.2, a.2 j hj.1]⟩
theorem But.refl (σ : L2.St) : But [] σ σ := ⟨rfl, fun _ _ => rfl⟩
def gNm (i : Nat) : FG := fun d ρ => some (ρ.set i (.dat d))
theorem dg_name {i : Nat} {x : Str} (hN : X.N.Nodup) (hi : X.N[i]? = some x) (hx : Loc X.env.scope x) (hf : X.fn x = true ∨ X.env.scope.names.lookup x = some .local := by first | exact .inl rfl | exact .inr rfl | assumption) : DG X (.Name x pos) [i] (gNm i) :=
  fun pins s σ H v u Q I r ⟨L, ρ, μ, d, ρ', E, q, eg, k⟩ => pg_name hN hi hx hf pins s σ H v u Q I r (by cases eg; exact k _ But.set (E.put i q))
def gNo : List PyData → Rho → Option Rho := fun ds ρ => match ds with
  | [] => some ρ
  | _ => none
def gCo (g : FG) (gs : List PyData → Rho → Option Rho) : List PyData → Rho → Option Rho := fun ds ρ => match ds with
  | d :: r => opt (g d ρ) fun ρ' => gs r ρ'
  | _ => none
theorem dgs_nil : DGs X [] [] gNo := fun pins s σ H vs us Q I r ⟨L, ρ, μ, ds, ρ', E, q, eg, k⟩ => pgs_nil pins s σ H vs us Q I r (by
  cases q with
  | nil => cases eg; exact ⟨rfl, k σ (But.refl σ) E⟩
  | cons _ _ => cases eg)
theorem dgs_cons {es : List Expr} {is js : List Nat} {g : FG} {gs : List PyData → Rho → Option Rho} (h1 : DG X e is g) (h2 : DGs X es js gs)
    (hs : (assignEach (e :: es) X.env).map (·.2) = assign e X.env :: (assignEach es X.env).map (·.2) := by rfl) : DGs X (e :: es) (is ++ js) (gCo g gs) :=
  fun pins s σ H vs us Q I r ⟨L, ρ, μ, ds, ρ', E, q, eg, k⟩ => pgs_cons h1 h2 hs pins s σ H vs us Q I r (by
    cases q with
    | nil => cases eg
    | cons q1 q2 =>
      obtain ⟨ρ1, e1, e2⟩ := opt_some eg
      exact ⟨_, _, rfl, L, ρ, μ, _, ρ1, E, q1, e1, fun σ1 b1 E1 => ⟨L, ρ1, μ, _, ρ', E1, q2, e2, fun σ2 b2 E2 => k σ2 (b1.trans b2) E2⟩⟩)
def gTu (n : Nat) (gs : List PyData → Rho → Option Rho) : FG := fun d ρ => match d with
  | .tuple ds => if ds.length = n then gs ds ρ else none
  | _ => none
theorem dg_tup {es : List Expr} {k : Nat} {gs : List PyData → Rho → Option Rho} {n : Nat} {is : List Nat} (hc : X.calm = true) (h : DGs X es is gs)
    (hn : (assignEach es X.env).length = n := by rfl) (hst : (assignEach es X.env).findIdx? (·.1) = none := by rfl) : DG X (.Tuple es k pos) is (gTu n gs) :=
  fun pins s σ H v u Q I r ⟨L, ρ, μ, d, ρ', E, q, eg, k⟩ => pg_tup hc h hn hst pins s σ H v u Q I r (by
    cases d with
    | tuple ds =>
      have eg : (if ds.length = n then gs ds ρ else none) = some ρ' := eg
      by_cases z : ds.length = n
      · rw [if_pos z] at eg
        obtain ⟨a, xs, rfl, s1, q1⟩ := dp_tup q
        exact ⟨a, xs, rfl, sqtf s1, by rw [dps_len q1]; exact z, L, ρ, μ, ds, ρ', E, q1, eg, k⟩
      · rw [if_neg z] at eg; cases eg
    | _ => cases eg)
def fAsg (f : FE) (g : FG) : FS := fun ρ μ => bnd (f ρ μ) fun d m => opt (g d ρ) fun ρ' => some (.nx ρ' m)
theorem d_asg {g : FG} {is : List Nat} : ∀ L ρ μ o σ H D, EnvR X.K L H σ ρ μ → fAsg f g ρ μ = some o → OutOk X.K L H D o → tAsg (tD X.K f) (tDG X.K is g) D σ H := fun L ρ μ o σ H D E ef k => by
  obtain ⟨d, m, e1, ef⟩ := bnd_some ef
  obtain ⟨ρ', e2, ef⟩ := opt_some ef
  cases ef
  exact ⟨L, ρ, μ, d, m, E, e1, fun v H1 E1 s1 q1 => ⟨L, ρ, m, d, ρ', E1, q1, e2, fun σ' _ E' => k σ' H1 L E' s1⟩⟩
theorem ds_asg {g : FG} {is : List Nat} (he : DE X e f) (hg : DG X tg is g) (hs : swapsWithSole [tg] e pos.line X.env = pure false := by rfl) (hw : swappedStores [tg] e X.env = pure none := by rfl)
    (h1 : (assignEach [tg] X.env).map (·.2) = [assign tg X.env] := by rfl) : DS X (.Assign [tg] e pos) (fAsg f g) := DS.of (ps_asg he hg hs hw h1) d_asg
theorem ds_set {i : Nat} {x : Str} {pos' : Pos} (hN : X.N.Nodup) (hi : X.N[i]? = some x) (hx : Loc X.env.scope x) (he : DE X e f) (hs : swapsWith e (some (.Name x pos')) pos.line X.env = pure false := by rfl) (hf : X.fn x = true ∨ X.env.scope.names.lookup x = some .local := by first | exact .inl rfl | exact .inr rfl | assumption) :
    DS X (.Assign [.Name x pos'] e pos) (fAsg f (gNm i)) := DS.of (ps_set hN hi hx he hs hf) fun L ρ μ o σ H D E ef k => by
  obtain ⟨d, m, e1, ef⟩ := bnd_some ef
  cases ef
  exact ⟨L, ρ, μ, d, m, E, e1, fun v H1 E1 s1 q1 => k _ H1 L (E1.put i q1) s1⟩
def fPar (i j : Nat) (fs : FA) : FS := fun ρ μ => bnd (fs ρ μ) fun ds m => match ds with
  | [d, e] => some (.nx ((ρ.set i (.dat d)).set j (.dat e)) m)
  | _ => none
theorem ds_par {i j : Nat} {x y : Str} {fs : FA} {px py pt : Pos} {kt k2 pt2} (hc : X.calm = true) (hN : X.N.Nodup) (hi : X.N[i]? = some x) (hj : X.N[j]? = some y) (hij : i ≠ j)
    (hx : X.env.scope.names.lookup x = some .local) (hy : X.env.scope.names.lookup y = some .local) (ha : DA X [a, b] fs)
    (hw : swappedStores [.Tuple [.Name x px, .Name y py] kt pt] (.Tuple [a, b] k2 pt2) X.env = pure (some [x, y]))
    (hs : swapsWithSole [.Tuple [.Name x px, .Name y py] kt pt] (.Tuple [a, b] k2 pt2) pos.line X.env = pure false := by rfl) :
    DS X (.Assign [.Tuple [.Name x px, .Name y py] kt pt] (.Tuple [a, b] k2 pt2) pos) (fPar i j fs) := DS.of (ps_par hc hN hi hj hij hx hy ha hw hs) fun L ρ μ o σ H D E ef k => by
  obtain ⟨ds, m, e1, ef⟩ := bnd_some ef
  split at ef
  · cases ef
    refine ⟨L, ρ, μ, _, m, E, e1, fun vs H1 E1 s1 q1 => ?_⟩
    cases q1 with
    | cons a1 q1 =>
      cases q1 with
      | cons a2 q1 =>
        cases q1
        exact ⟨_, _, rfl, k _ H1 L ((E1.put i a1).put j a2) s1⟩
  · cases ef
theorem EnvR.ownNew {K : PySem.W.Frag} {L : OW} {H : Hp} {σ : L2.St} {ρ : Rho} {μ : Mu} {p : Addr} {vs : List V} {ds : List PyData} (E : EnvR K L H σ ρ μ) (i : Nat) (h : H p = none) (q : DpAll K (Off L H) vs ds) :
    EnvR K ⟨L.o ++ [p], L.k, L.q⟩ (upd H p (.lst vs)) (σ.set i (some (.ref p))) (ρ.set i (.own μ.length)) (μ ++ [ds]) ∧ Step L H ⟨L.o ++ [p], L.k, L.q⟩ (upd H p (.lst vs)) := by
  have st : Step L H ⟨L.o ++ [p], L.k, L.q⟩ (upd H p (.lst vs)) := ⟨⟨[p], rfl, fun l hl => by rw [List.mem_singleton.mp hl]; exact h⟩, ⟨rfl, rfl⟩, fun b o _ _ e => same_upd h b o e, fun b e => (same_upd (o := .lst vs) h).free e, fun b q _ _ e => tab_same (same_upd h) e⟩
  refine ⟨⟨?_, fun l hl => ?_, ?_, ?_⟩, st⟩
  rotate_left
  · obtain ⟨a, e⟩ := E.lk l hl
    refine ⟨fun z => ?_, lt_keep (fun o q => same_upd h _ _ q) (fun q e => tab_same (same_upd h) e) e⟩
    rcases List.mem_append.mp z with z | z
    · exact a z
    · rw [List.mem_singleton.mp z] at e; exact lt_ne e h
  rotate_right
  · refine ⟨List.nodup_append.mpr ⟨E.nd.1, by simp, fun a ha b hb z => ?_⟩, E.nd.2⟩
    rw [List.mem_singleton.mp hb] at z
    subst z
    exact E.st.has _ ha h
  · have e0 : L.o.length = μ.length := pr_len E.st
    have el : (L.o ++ [p])[μ.length]? = some p := by rw [← e0]; simp
    exact pr_set (R := SlotR K ⟨L.o ++ [p], L.k, L.q⟩ (upd H p (.lst vs))) (show SlotR K ⟨L.o ++ [p], L.k, L.q⟩ (upd H p (.lst vs)) (some (.ref p)) (.own μ.length) from ⟨p, el, rfl⟩) i (pr_imp (fun _ _ q => SlotR.step q st) E.sl)
  · refine pr_app (pr_imp (fun l ds ⟨ws, e, z⟩ => ⟨ws, same_upd h _ _ e, z.mono st.same⟩) E.st) (.cons ⟨vs, upd_same, q.mono st.same⟩ .nil)
abbrev FF := Rho → Mu → Option (List PyData × Mu)
def tDF (K : PySem.W.Frag) (f : FF) : TE := fun σ H Q => ∃ L ρ μ ds μ', EnvR K L H σ ρ μ ∧ f ρ μ = some (ds, μ') ∧ ∀ p vs H', EnvR K L H' σ ρ μ' → Step L H L H' → H' p = none → DpAll K (Off L H') vs ds → Q (.ref p) (upd H' p (.lst vs))
def DF (X : Cx) (e : Expr) (f : FF) : Prop := PE X e (tDF X.K f)
def fLstF (fs : FA) : FF := fun ρ μ => bnd (fs ρ μ) fun ds m => if ds.length ≤ sizeLine then some (ds, m) else none
theorem df_lst {es : List Expr} {fs : FA} (h : DA X es fs) : DF X (.List es pos) (fLstF fs) := fun pins s σ H Q I ⟨L, ρ, μ, ds, μ', E, ef, k⟩ => pe_lst h pins s σ H Q I (by
  obtain ⟨d, m, e1, ef⟩ := bnd_some ef
  split at ef
  · cases ef
    exact ⟨L, ρ, μ, ds, _, E, e1, fun vs H1 E1 s1 q1 => ⟨by rw [dps_len q1]; assumption, fun p hp => k p vs H1 E1 s1 hp q1⟩⟩
  · cases ef)
def fCatF (fa fb : FE) : FF := fun ρ μ => bnd (fa ρ μ) fun d m => bnd (fb ρ m) fun e m' => match d, e with
  | .list xs, .list ys => if xs.length + ys.length ≤ sizeLine then some (xs ++ ys, m') else none
  | _, _ => none
theorem df_cat (ha : DE X a fa) (hb : DE X b fb) : DF X (.BinOp a .Add b pos) (fCatF fa fb) := fun pins s σ H Q I ⟨L, ρ, μ, ds, μ', E, ef, k⟩ => pe_op op_catR ha hb pins s σ H Q I (by
  obtain ⟨d1, m1, e1, ef⟩ := bnd_some ef
  obtain ⟨d2, m2, e2, ef⟩ := bnd_some ef
  split at ef
  · split at ef
    · cases ef
      refine ⟨L, ρ, μ, _, m1, E, e1, fun v H1 E1 s1 q1 => ⟨L, ρ, m1, _, _, E1, e2, fun u H2 E2 s2 q2 => ?_⟩⟩
      obtain ⟨a, xs, rfl, t1, z1⟩ := dp_lst (q1.mono s2.same)
      obtain ⟨b, ys, rfl, t2, z2⟩ := dp_lst q2
      exact ⟨a, b, xs, ys, rfl, rfl, sqlf t1, sqlf t2, by rw [dps_len z1, dps_len z2]; assumption, fun p hp => k p _ H2 E2 (s1.trans s2) hp (dps_app z1 z2)⟩
    · cases ef
  · cases ef)
def fOwn (i : Nat) (f : FF) : FS := fun ρ μ => bnd (f ρ μ) fun ds m => some (.nx (ρ.set i (.own m.length)) (m ++ [ds]))
theorem ds_own {i : Nat} {x : Str} {pos' : Pos} {ff : FF} (hN : X.N.Nodup) (hi : X.N[i]? = some x) (hx : Loc X.env.scope x) (he : DF X e ff) (hs : swapsWith e (some (.Name x pos')) pos.line X.env = pure false := by rfl) (hf : X.fn x = true ∨ X.env.scope.names.lookup x = some .local := by first | exact .inl rfl | exact .inr rfl | assumption) :
    DS X (.Assign [.Name x pos'] e pos) (fOwn i ff) := DS.of (ps_set hN hi hx he hs hf) fun L ρ μ o σ H D E ef k => by
  obtain ⟨ds, m, e1, ef⟩ := bnd_some ef
  cases ef
  refine ⟨L, ρ, μ, ds, m, E, e1, fun p vs H1 E1 s1 hp q1 => ?_⟩
  obtain ⟨E2, s2⟩ := E1.ownNew i hp q1
  exact k _ _ _ E2 (s1.trans s2)
theorem EnvR.at {K : PySem.W.Frag} {L : OW} {H : Hp} {σ : L2.St} {ρ : Rho} {μ : Mu} {k : Nat} {ds : List PyData} {l : Addr} (E : EnvR K L H σ ρ μ) (e : μ[k]? = some ds) (el : L.o[k]? = some l) : ∃ vs, H l = some (.lst vs) ∧ DpAll K (Off L H) vs ds := by
  obtain ⟨l', e', vs, h, q⟩ := pr_get E.st e
  rw [el] at e'; cases e'
  exact ⟨vs, h, q⟩
theorem EnvR.ownSet {K : PySem.W.Frag} {L : OW} {H : Hp} {σ : L2.St} {ρ : Rho} {μ : Mu} {k : Nat} {l : Addr} {vs : List V} {ds : List PyData} (E : EnvR K L H σ ρ μ) (el : L.o[k]? = some l) (q : DpAll K (Off L H) vs ds) :
    EnvR K L (upd H l (.lst vs)) σ ρ (μ.set k ds) ∧ Step L H L (upd H l (.lst vs)) := by
  have hl : l ∈ L.o := List.mem_of_getElem? el
  have st : Step L H L (upd H l (.lst vs)) := ⟨⟨[], by simp, by simp⟩, ⟨rfl, rfl⟩, fun b o hb _ e => by rw [upd_ne (fun z => hb (by rw [z]; exact hl))]; exact e, fun b e => by
    unfold upd at e
    split at e
    · cases e
    · exact e, fun b q hb _ e => let ⟨_, _, _, z, _⟩ := pr_get' E.st el; tab_upd z (fun _ z => nomatch z) (fun _ z => nomatch z) e⟩
  refine ⟨E.step st ?_, st⟩
  have h0 := E.st
  have nd := E.nd.1
  unfold StoreR at h0 ⊢
  have gen : ∀ (Ls : List Addr) (ms : Mu) (j : Nat), Ls[j]? = some l → Ls.Nodup → Paired (fun l ds => ∃ vs, H l = some (.lst vs) ∧ DpAll K (Off L H) vs ds) Ls ms →
      Paired (fun l' ds => ∃ ws, (upd H l (.lst vs)) l' = some (.lst ws) ∧ DpAll K (Off L (upd H l (.lst vs))) ws ds) Ls (ms.set j ds) := by
    intro Ls
    induction Ls with
    | nil => intro ms j ej _ _; simp at ej
    | cons a r ih =>
      intro ms j ej nd' hp
      cases hp with
      | cons ha hr =>
        obtain ⟨n1, n2⟩ := List.nodup_cons.mp nd'
        cases j with
        | zero =>
          have e : a = l := by simpa using ej
          subst e
          refine .cons ⟨vs, upd_same, q.mono st.same⟩ (pr_imp_mem (fun b d hb ⟨ws, e, z⟩ => ⟨ws, ?_, z.mono st.same⟩) hr)
          rw [upd_ne (fun z => n1 (by rw [← z]; exact hb))]; exact e
        | succ j =>
          have ej' : r[j]? = some l := by simpa using ej
          obtain ⟨ws, e, z⟩ := ha
          refine .cons ⟨ws, ?_, z.mono st.same⟩ (ih _ j ej' n2 hr)
          rw [upd_ne (fun z => n1 (by rw [z]; exact List.mem_of_getElem? ej'))]; exact e
  exact gen L.o μ k el nd h0
def fApp (i : Nat) (f : FE) : FS := fun ρ μ => match ρ[i]? with
  | some (.own k) => bnd (f ρ μ) fun d m => opt (m[k]?) fun ds => if ds.length < sizeLine then some (.nx ρ (m.set k (ds ++ [d]))) else none
  | _ => none
theorem ds_append {i : Nat} {x : Str} {p apos cpos : Pos} (hN : X.N[i]? = some x) (hv : Vis X.env.scope x) (he : DE X e f) (hd : (x == ("__debug__" : Str)) = false := by decide) (hcd : (x == ("__classdict__" : Str)) = false := by decide)
    (hs : swapsWith (.Call (.Attribute (.Name x p) "append" apos) [e] [] cpos) none pos.line X.env = pure false := by rfl)
    (hbase : attributeBase (.Name x p) "append" X.env (eval (.Name x p) X.env) = eval (.Name x p) X.env := by rfl)
    (hfew : ((backTo cpos (starEach [e] X.env)).all (fun x => !x.1) && (backToKw cpos (keywordEach [] X.env)).all (fun x => x.1.isSome)
      && decide ([e].length + ([] : List Keyword).length + (if ([] : List Keyword).isEmpty then 0 else 1) < 30)) = true := by rfl)
    (hline : (apos.endLine == cpos.line) = true := by rfl) (hse : starEach [e] X.env = (false, eval e X.env) :: starEach [] X.env := by rfl) :
    DS X (.Expr (.Call (.Attribute (.Name x p) "append" apos) [e] [] cpos) pos) (fApp i f) :=
  DS.of (ps_expr (pe_bm PySem.F.plainAttrs_list PySem.F.slot_list_append PySem.F.type_list_append mt_append (pe_var hN hv hd hcd) (pa_cons he pa_nil hse) hbase hfew hline hse) hs) fun L ρ μ o σ H D E ef k => by
    unfold fApp at ef
    split at ef
    · rename_i k' er
      obtain ⟨d, m, e1, ef⟩ := bnd_some ef
      obtain ⟨ds, e2, ef⟩ := opt_some ef
      split at ef
      · rename_i hz
        cases ef
        obtain ⟨ov, eo, l, el, rfl⟩ := pr_get E.sl er
        refine ⟨.ref l, eo, .inl ⟨rfl, ?_⟩, L, ρ, μ, d, m, E, e1, fun v H1 E1 s1 q1 => ?_⟩
        · have hl : l ∈ L.o := List.mem_of_getElem? el
          obtain ⟨ds0, _, vs0, hH, _⟩ := pr_get' E.st el
          exact ⟨vs0, SqL.of hH⟩
        · obtain ⟨vs, hH, qs⟩ := E1.at e2 el
          obtain ⟨E2, s2⟩ := E1.ownSet el (dps_app qs (.cons q1 .nil))
          exact ⟨l, vs, v, rfl, rfl, hH, by rw [dps_len qs]; exact hz, k _ _ L E2 (s1.trans s2)⟩
      · cases ef
    · cases ef
end
end DL
namespace DL
open PySem PySem.Spec PyProof.Rows L2
variable [Tabs]
def ItD (K : PySem.W.Frag) (J : It) (ds : List PyData) (L : OW) (H : Hp) : Prop := ∀ (L' : OW) (H1 : Hp), Same (Off L H) (Off L' H1) → Own L' H1 → ∀ i,
  (i < ds.length → J.go i H1 ∧ ∀ x H2, J.yld i H1 x H2 → Same H1 H2 ∧ ∃ d, ds[i]? = some d ∧ Dp K (Off L' H2) x d) ∧ (ds.length ≤ i → J.stop i H1)
abbrev FI := Rho → Mu → Option (List PyData × Mu)
def tDI (K : PySem.W.Frag) (f : FI) : TI := fun σ H R => ∃ L ρ μ ds μ', EnvR K L H σ ρ μ ∧ f ρ μ = some (ds, μ') ∧ ∀ J H', EnvR K L H' σ ρ μ' → Step L H L H' → ItD K J ds L H' → R J H'
def DI (X : Cx) (tg iter : Expr) (f : FI) : Prop := PI X tg iter (tDI X.K f)
section
variable {X : Cx} {tg e a b : Expr} {pos p : Pos} {f fa fb : FE} {fs : FA}
theorem DI.of {t : TI} {f : FI} (h : PI X tg e t) (imp : ∀ L ρ μ d μ' σ H R, EnvR X.K L H σ ρ μ → f ρ μ = some (d, μ') → (∀ J H', EnvR X.K L H' σ ρ μ' → Step L H L H' → ItD X.K J d L H' → R J H') → t σ H R) : DI X tg e f :=
  fun pins s σ H R I ⟨L, ρ, μ, d, μ', E, ef, k⟩ => h pins s σ H R I (imp L ρ μ d μ' σ H R E ef k)
theorem itd_list {K : PySem.W.Frag} {L : OW} {H : Hp} {a : Addr} {xs : List V} {ds : List PyData} (s : SqL K (Off L H) a xs) (q : DpAll K (Off L H) xs ds) : ItD K (Itl K a) ds L H := fun L' H1 sm _ i => by
  have s1 := sqlf (sm.seq s)
  refine ⟨fun hi => ?_, fun hi => ⟨xs, s1, by rw [dps_len q]; exact hi⟩⟩
  have e : ds[i]? = some ds[i] := List.getElem?_eq_getElem hi
  obtain ⟨v, ev, dv⟩ := dps_get q e
  refine ⟨⟨xs, v, s1, ev⟩, fun x H2 ⟨e2, y⟩ => ?_⟩
  subst e2
  refine ⟨Same.refl _, _, e, ?_⟩
  have := y xs s1
  rw [ev] at this; cases this
  exact dv.mono sm
theorem itd_tup {K : PySem.W.Frag} {L : OW} {H : Hp} {a : Addr} {xs : List V} {ds : List PyData} (s : SqT K (Off L H) a xs) (q : DpAll K (Off L H) xs ds) : ItD K (Itt K a) ds L H := fun L' H1 sm _ i => by
  have s1 := sqtf (seqT sm s)
  refine ⟨fun hi => ?_, fun hi => ⟨xs, s1, by rw [dps_len q]; exact hi⟩⟩
  have e : ds[i]? = some ds[i] := List.getElem?_eq_getElem hi
  obtain ⟨v, ev, dv⟩ := dps_get q e
  refine ⟨⟨xs, v, s1, ev⟩, fun x H2 ⟨e2, y⟩ => ?_⟩
  subst e2
  refine ⟨Same.refl _, _, e, ?_⟩
  have := y xs s1
  rw [ev] at this; cases this
  exact dv.mono sm
def signs (x : Str) : List PyData := x.cps.toList.map fun c => .str ⟨#[c]⟩
theorem itd_str {K : PySem.W.Frag} {L : OW} {H : Hp} {x : Str} : ItD K (Its x) (signs x) L H := fun L' H1 sm _ i => by
  have hl : (signs x).length = x.cps.size := by simp [signs]
  refine ⟨fun hi => ⟨by show i < x.cps.size; rw [← hl]; exact hi, fun y H2 ⟨e2, c, ec, ey⟩ => ?_⟩, fun hi => by show x.cps.size ≤ i; rw [← hl]; exact hi⟩
  subst e2 ey
  refine ⟨Same.refl _, .str ⟨#[c]⟩, ?_, .str _⟩
  unfold signs
  rw [List.getElem?_map, Array.getElem?_toList, ec]; rfl
def rgD (lo : Int) (n : Nat) : List PyData := (List.range n).map fun i => .int (lo + (i : Nat))
theorem itd_range {K : PySem.W.Frag} {L : OW} {H : Hp} {lo : Int} {n : Nat} : ItD K (Itr lo n) (rgD lo n) L H := fun L' H1 sm _ i => by
  have hl : (rgD lo n).length = n := by simp [rgD]
  refine ⟨fun hi => ⟨by show i < n; rw [← hl]; exact hi, fun y H2 ⟨e2, ey⟩ => ?_⟩, fun hi => by show n ≤ i; rw [← hl]; exact hi⟩
  subst e2 ey
  refine ⟨Same.refl _, .int (lo + i), ?_, .int _⟩
  rw [hl] at hi
  unfold rgD
  rw [List.getElem?_map, List.getElem?_range hi]; rfl
def iSeq (K : PySem.W.Frag) (tl : TE) : TI := fun σ H R => tl σ H fun x H1 => (∃ a, x = .ref a ∧ (∃ xs, SqL K H1 a xs) ∧ R (Itl K a) H1) ∨ ∃ a, x = .ref a ∧ (∃ xs, SqT K H1 a xs) ∧ R (Itt K a) H1
theorem pi_seq {l : Expr} {tl : TE} (hl : PE X l tl) : PI X tg l (iSeq X.K tl) := by
  intro pins s σ H R I h
  refine thn (hl pins s σ H _ I h) fun v s1 ⟨x, H1, I1, r1, q1⟩ => ?_
  have fp : ∀ b ∈ [s1.heap.objs.size], FpOk X pins H1 b := fun b hb => by
    have z : b = s1.heap.objs.size := by simpa using hb
    rw [z]; exact I1.fpOk (Nat.le_refl _) I1.fresh
  rcases q1 with ⟨a, rfl, ⟨xs, hq⟩, q⟩ | ⟨a, rfl, ⟨xs, hq⟩, q⟩
  · cases r1
    obtain ⟨its, rv, pl, hz⟩ := I1.list hq
    exact wpAny_pyIter_list pl.isList ⟨_, [_], _, _, H1, rfl, I1.kept (t' := s1.toks) fun b o e => Heap.get?_push_of_some _ e, turn_list a _, ⟨_, Heap.get?_push_size _ rfl, rfl, rfl⟩, fp, q⟩
  · cases r1
    obtain ⟨its, rv, pl, hz⟩ := I1.tuple hq
    exact wpAny_pyIter_tuple (show s1.heap.IsTuple a its.toArray from pl) ⟨_, [_], _, _, H1, rfl, I1.kept (t' := s1.toks) fun b o e => Heap.get?_push_of_some _ e, turn_tuple a _, ⟨_, Heap.get?_push_size _ rfl, rfl, rfl⟩, fp, q⟩
def seqD : PyData → Option (List PyData)
  | .list ds => some ds
  | .tuple ds => some ds
  | _ => none
def fSq (f : FE) : FI := fun ρ μ => bnd (f ρ μ) fun d m => fin (seqD d) m
theorem di_seq (h : DE X e f) : DI X tg e (fSq f) := DI.of (pi_seq h) fun L ρ μ ds μ' σ H R E ef k => by
  obtain ⟨d, m, e1, ef⟩ := bnd_some ef
  obtain ⟨e2, rfl⟩ := fin_some ef
  refine ⟨L, ρ, μ, d, _, E, e1, fun v H1 E1 s1 q1 => ?_⟩
  cases d with
  | list es =>
    cases e2
    obtain ⟨a, xs, rfl, t1, z1⟩ := dp_lst q1
    exact .inl ⟨a, rfl, ⟨xs, sqlf t1⟩, k _ H1 E1 s1 (itd_list t1 z1)⟩
  | tuple es =>
    cases e2
    obtain ⟨a, xs, rfl, t1, z1⟩ := dp_tup q1
    exact .inr ⟨a, rfl, ⟨xs, sqtf t1⟩, k _ H1 E1 s1 (itd_tup t1 z1)⟩
  | _ => cases e2
def fSg (f : FE) : FI := fun ρ μ => bnd (f ρ μ) fun d m => match d with
  | .str x => some (signs x, m)
  | _ => none
theorem di_str (h : DE X e f) : DI X tg e (fSg f) := DI.of (pi_str h) fun L ρ μ ds μ' σ H R E ef k => by
  obtain ⟨d, m, e1, ef⟩ := bnd_some ef
  split at ef
  · rename_i x
    cases ef
    exact ⟨L, ρ, μ, _, _, E, e1, fun v H1 E1 s1 q1 => ⟨x, dp_str q1, k _ H1 E1 s1 itd_str⟩⟩
  · cases ef
def fRg1 (f : FE) : FI := fun ρ μ => bnd (f ρ μ) fun d m => match d with
  | .int j => if -(2 ^ 62) ≤ j ∧ j < 2 ^ 62 then some (rgD 0 j.toNat, m) else none
  | _ => none
theorem di_range1 (hg : Gl X "range") (hm : X.mg "range" = none) (ha : DE X a fa) (hs : starEach [a] X.env = [(false, eval a X.env)] := by rfl) (hs' : starEach [a] X.env = (false, eval a X.env) :: starEach [] X.env := by rfl) : DI X tg (.Call (.Name "range" p) [a] [] pos) (fRg1 fa) :=
  DI.of (pi_range1 hg hm (pa_cons ha pa_nil hs') hs) fun L ρ μ ds μ' σ H R E ef k => by
    obtain ⟨d, m, e1, ef⟩ := bnd_some ef
    split at ef
    · split at ef
      · rename_i j hj
        cases ef
        exact ⟨L, ρ, μ, _, _, E, e1, fun v H1 E1 s1 q1 => ⟨j, by rw [dp_int q1], hj.1, hj.2, k _ H1 E1 s1 itd_range⟩⟩
      · cases ef
    · cases ef
def loopF (g : FG) (B : FS) : List PyData → FS
  | [], ρ, μ => some (.nx ρ μ)
  | d :: r, ρ, μ => opt (g d ρ) fun ρ1 => match B ρ1 μ with
    | some (.nx ρ2 m2) => loopF g B r ρ2 m2
    | some (.ct ρ2 m2) => loopF g B r ρ2 m2
    | some (.bk ρ2 m2) => some (.nx ρ2 m2)
    | some (.rt v m2) => some (.rt v m2)
    | none => none
def fFor (fi : FI) (g : FG) (B : FS) : FS := fun ρ μ => bnd (fi ρ μ) fun ds m => loopF g B ds ρ m
theorem drop_get {ds : List PyData} {i : Nat} {d : PyData} (h : ds[i]? = some d) : ds.drop i = d :: ds.drop (i + 1) := by
  obtain ⟨hi, e⟩ := List.getElem?_eq_some_iff.mp h
  rw [← e]; exact List.drop_eq_getElem_cons hi
theorem ds_for {iter : Expr} {body : List Stmt} {fi : FI} {g : FG} {is : List Nat} {B : FS} (hc : X.calm = true) (hi : DI X tg iter fi) (hg : DG X tg is g) (hb : DSs X body B) (hp : PassesOwn (model X.prog X.w) X.A X.env X.xe)
    (hs : ∀ x, foldedSetIterable iter X.env x = pure x := by intro _; rfl) : DS X (.For tg iter body [] pos) (fFor fi g B) := DS.of (ps_for hp hc hi hg hb hs) fun L ρ μ o σ H D E ef k => by
  obtain ⟨ds, m, e1, ef⟩ := bnd_some ef
  refine ⟨L, ρ, μ, ds, m, E, e1, fun J H1 E1 s1 hJ => ?_⟩
  refine ⟨fun i n σ' H' => n = ds.length - i ∧ i ≤ ds.length ∧ ∃ L' ρ' μ', EnvR X.K L' H' σ' ρ' μ' ∧ loopF g B (ds.drop i) ρ' μ' = some o ∧ Step L H1 L' H', ⟨ds.length, by simp, Nat.zero_le _, L, ρ, m, E1, by simpa using ef, Step.refl _ _⟩, ?_⟩
  rintro i n σ' H' ⟨rfl, hi, L', ρ', μ', E', ef', s'⟩
  have hJ' := hJ L' H' s'.same E'.own i
  by_cases hlt : i < ds.length
  · refine .inr ⟨(hJ'.1 hlt).1, fun σ2 H2 => i + 1 ≤ ds.length ∧ ∃ L2 ρ2 μ2, EnvR X.K L2 H2 σ2 ρ2 μ2 ∧ loopF g B (ds.drop (i + 1)) ρ2 μ2 = some o ∧ Step L H1 L2 H2, fun σ2 H2 ⟨h1, h2⟩ => ⟨ds.length - (i + 1), by omega, rfl, h1, h2⟩, fun x H2 y => ?_⟩
    obtain ⟨sm, d, ed, dx⟩ := (hJ'.1 hlt).2 x H2 y
    have E2 := E'.same sm
    rw [drop_get ed] at ef'
    obtain ⟨ρ1, eg, ef2⟩ := opt_some ef'
    refine ⟨L', ρ', μ', d, ρ1, E2, dx, eg, fun σ3 _ E3 => ?_⟩
    cases hB : B ρ1 μ' with
    | none => rw [hB] at ef2; cases ef2
    | some ob =>
      rw [hB] at ef2
      have s2 : Step L H1 L' H2 := s'.trans (Step.of_same sm)
      refine ⟨L', ρ1, μ', ob, E3, hB, ?_⟩
      cases ob with
      | nx r m2 => exact fun σ4 H4 L4 E4 s4 => ⟨hlt, L4, r, m2, E4, ef2, s2.trans s4⟩
      | ct r m2 => exact fun σ4 H4 L4 E4 s4 => ⟨hlt, L4, r, m2, E4, ef2, s2.trans s4⟩
      | bk r m2 => cases ef2; exact fun σ4 H4 L4 E4 s4 => k σ4 H4 L4 E4 (s1.trans (s2.trans s4))
      | rt v m2 => cases ef2; exact fun u H4 L4 n4 E4 s4 q4 => k u H4 L4 n4 E4 (s1.trans (s2.trans s4)) q4
  · have e : i = ds.length := by omega
    subst e
    refine .inl ⟨hJ'.2 (Nat.le_refl _), ?_⟩
    rw [List.drop_length] at ef'
    cases ef'
    exact k σ' H' L' E' (s1.trans s')
end
end DL
namespace DL
open PySem PySem.Spec PyProof.Rows L2
variable [Tabs]
def wipeR (ρ : Rho) : List Nat → Rho
  | [] => ρ
  | v :: vs => (wipeR ρ vs).set v .un
theorem EnvR.wipe {K : PySem.W.Frag} {L : OW} {H : Hp} {σ : L2.St} {ρ : Rho} {μ : Mu} (E : EnvR K L H σ ρ μ) : ∀ vs : List Nat, EnvR K L H (L2.wipe σ vs) (wipeR ρ vs) μ
  | [] => E
  | v :: vs => by
    have E' := EnvR.wipe E vs
    unfold L2.wipe wipeR
    exact ⟨E'.nd, E'.lk, pr_set (R := SlotR K L H) (show SlotR K L H none .un from trivial) v E'.sl, E'.st⟩
theorem wipe_get {σ : L2.St} : ∀ (vs : List Nat) (j : Nat), (wipe σ vs)[j]? = if j ∈ vs ∧ j < σ.length then some none else σ[j]?
  | [], j => by simp [wipe]
  | v :: vs, j => by
    unfold wipe
    have hl : ∀ ws : List Nat, (wipe σ ws).length = σ.length := fun ws => by
      induction ws with
      | nil => rfl
      | cons a r ih => unfold wipe; simp [ih]
    by_cases h : v = j
    · subst h
      by_cases hv : v < σ.length
      · rw [List.getElem?_set_self (by rw [hl]; exact hv)]; simp [hv]
      · rw [List.getElem?_eq_none (by rw [List.length_set, hl]; omega)]; simp [hv]
    · rw [List.getElem?_set_ne h, wipe_get vs j]
      simp only [List.mem_cons]
      have : ¬ j = v := fun z => h z.symm
      simp [this]
theorem wipe_len {σ : L2.St} : ∀ ws : List Nat, (wipe σ ws).length = σ.length
  | [] => rfl
  | a :: r => by unfold wipe; simp [wipe_len r]
theorem wipe_but {σ σ2 : L2.St} {vs is : List Nat} (hs : ∀ i ∈ is, i ∈ vs) (b : But is (wipe σ vs) σ2) : wipe σ2 vs = wipe σ vs := by
  apply List.ext_getElem?
  intro j
  have hl : σ2.length = σ.length := by rw [b.1, wipe_len]
  rw [wipe_get, wipe_get, hl]
  by_cases h : j ∈ vs ∧ j < σ.length
  · rw [if_pos h, if_pos h]
  · rw [if_neg h, if_neg h]
    by_cases hj : j < σ.length
    · have hv : j ∉ vs := fun z => h ⟨z, hj⟩
      rw [b.2 j (fun z => hv (hs j z)), wipe_get, if_neg h]
    · rw [List.getElem?_eq_none (by omega), List.getElem?_eq_none (by omega)]
def lcF (g : FG) (tt : FT) (te : FE) (ρ : Rho) : List PyData → Mu → Option (List PyData × Mu)
  | [], m => some ([], m)
  | d :: r, m => opt (g d ρ) fun ρ1 => bnd (tt ρ1 m) fun b m1 => if b = true then bnd (te ρ1 m1) fun y m2 => bnd (lcF g tt te ρ r m2) fun ys m3 => some (y :: ys, m3) else lcF g tt te ρ r m1
def fLc (fi : FI) (g : FG) (tt : FT) (te : FE) (vs : List Nat) : FF := fun ρ μ => bnd (fi ρ μ) fun ds m => if ds.length ≤ sizeLine then lcF g tt te (wipeR ρ vs) ds m else none
theorem EnvR.lock {K : PySem.W.Frag} {L : OW} {H : Hp} {σ : L2.St} {ρ : Rho} {μ : Mu} {D : Addr} {ys : List V} (E : EnvR K L H σ ρ μ) (h : H D = none) : EnvR K ⟨L.o, D :: L.k, L.q⟩ (upd H D (.lst ys)) σ ρ μ := by
  have sm : Same (Off L H) (Off ⟨L.o, D :: L.k, L.q⟩ (upd H D (.lst ys))) := fun b u e => by
    obtain ⟨h1, h2⟩ := off_some.mp e
    refine off_some.mpr ⟨fun z => ?_, same_upd h b u h2⟩
    rcases z with z | z
    · exact h1 (.inl z)
    · rcases List.mem_cons.mp z with z | z
      · subst z; rw [h] at h2; cases h2
      · exact h1 (.inr z)
  refine ⟨⟨E.nd.1, fun p hp => ⟨List.mem_cons_of_mem _ (E.nd.2 p hp).1, (E.nd.2 p hp).2⟩⟩, fun l hl => ?_, pr_imp (fun o x q => ?_) E.sl, pr_imp (fun l ds ⟨vs, e, q⟩ => ⟨vs, same_upd h _ _ e, q.mono sm⟩) E.st⟩
  · rcases List.mem_cons.mp hl with e | e
    · subst e; exact ⟨fun z => E.st.has _ z h, .inl ⟨⟨ys, upd_same⟩, fun q hq => E.own _ (.inr (E.nd.2 _ hq).1) h⟩⟩
    · obtain ⟨a, e2⟩ := E.lk l e
      exact ⟨a, lt_keep (fun o q => same_upd h _ _ q) (fun q e => tab_same (same_upd h) e) e2⟩
  · cases x with
    | un => trivial
    | fn x => exact q
    | dat d => obtain ⟨v, e, z⟩ := q; exact ⟨v, e, z.mono sm⟩
    | dct kvs => obtain ⟨a, vs, e, ea, z⟩ := q; exact ⟨a, vs, e, sm _ _ ea, Paired.mapP z fun _ _ y => ⟨y.1, y.2.mono sm⟩⟩
    | exc x => obtain ⟨a, C, tb, e, ec, z⟩ := q; exact ⟨a, C, tb, e, ec, sm _ _ z⟩
    | dtt kvs => obtain ⟨a, vs, e, ea, z⟩ := q; exact ⟨a, vs, e, sm _ _ ea, Paired.mapP z fun _ _ y => ⟨y.1, y.2.mono sm⟩⟩
    | own k => exact q
section
variable {X : Cx} {tg e a b : Expr} {pos p : Pos} {f fa fb te : FE} {tt : FT} {fs : FA}
def DTs (X : Cx) (ifs : List Expr) (t : FT) : Prop := PTs X ifs (tDT X.K t)
def fYes : FT := fun _ μ => some (true, μ)
theorem dts_nil : DTs X [] fYes := fun pins s σ H Q I ⟨L, ρ, μ, d, μ', E, ef, k⟩ => pts_nil pins s σ H Q I (by cases ef; exact k H E (Step.refl _ _))
theorem dts_one (h : DT X a tt) : DTs X [a] tt := pts_one h
theorem d_lc {fi : FI} {g : FG} {is vs : List Nat} (hv : ∀ i ∈ is, i ∈ vs) : ∀ L ρ μ ds μ' σ H Q, EnvR X.K L H σ ρ μ → fLc fi g tt te vs ρ μ = some (ds, μ') → (∀ p xs H', EnvR X.K L H' σ ρ μ' → Step L H L H' → H' p = none → DpAll X.K (Off L H') xs ds → Q (.ref p) (upd H' p (.lst xs))) →
    tLc (tDI X.K fi) (tDG X.K is g) (tDT X.K tt) (tD X.K te) vs σ H Q := fun L ρ μ out μ' σ H Q E ef k => by
  obtain ⟨ds, m, e1, ef⟩ := bnd_some ef
  split at ef
  case isFalse => cases ef
  rename_i hsz
  refine ⟨L, ρ, μ, ds, m, E, e1, fun J H1 E1 s1 hJ D hD => ?_⟩
  have hDo : D ∉ L.o := fun z => E1.own D (.inl z) hD
  -- what stands at turn i: the heap is some H' with D's list laid upon it
  refine ⟨fun i n H2 => n = ds.length - i ∧ i ≤ ds.length ∧ ∃ H' μ2 acc xs rest, H2 = upd H' D (.lst xs) ∧ H' D = none ∧ EnvR X.K L H' σ ρ μ2 ∧ Step L H1 L H' ∧ DpAll X.K (Off L H') xs acc ∧ acc.length ≤ i ∧
    lcF g tt te (wipeR ρ vs) (ds.drop i) μ2 = some (rest, μ') ∧ out = acc ++ rest, ⟨ds.length, by simp, Nat.zero_le _, H1, m, [], [], out, rfl, hD, E1, Step.refl _ _, .nil, Nat.le_refl _, by simpa using ef, rfl⟩, ?_⟩
  rintro i n H2 ⟨rfl, hi, H', μ2, acc, xs, rest, rfl, hD', E', s', qa, hacc, ef', eout⟩
  have EL := E'.lock (ys := xs) hD'
  have smL : Same (Off L H') (Off ⟨L.o, D :: L.k, L.q⟩ (upd H' D (.lst xs))) := fun b u e => by
    obtain ⟨h1, h2⟩ := off_some.mp e
    refine off_some.mpr ⟨fun z => ?_, same_upd hD' b u h2⟩
    rcases z with z | z
    · exact h1 (.inl z)
    · rcases List.mem_cons.mp z with z | z
      · subst z; rw [hD'] at h2; cases h2
      · exact h1 (.inr z)
  have hJ' := hJ ⟨L.o, D :: L.k, L.q⟩ (upd H' D (.lst xs)) (s'.same.trans smL) EL.own i
  by_cases hlt : i < ds.length
  case neg =>
    have e : i = ds.length := by omega
    subst e
    refine .inl ⟨hJ'.2 (Nat.le_refl _), ?_⟩
    rw [List.drop_length] at ef'
    cases ef'
    rw [List.append_nil] at eout
    subst eout
    exact k D xs H' E' (s1.trans s') hD' qa
  refine .inr ⟨(hJ'.1 hlt).1, fun H2 => i + 1 ≤ ds.length ∧ ∃ H' μ2 acc xs rest, H2 = upd H' D (.lst xs) ∧ H' D = none ∧ EnvR X.K L H' σ ρ μ2 ∧ Step L H1 L H' ∧ DpAll X.K (Off L H') xs acc ∧ acc.length ≤ i + 1 ∧
    lcF g tt te (wipeR ρ vs) (ds.drop (i + 1)) μ2 = some (rest, μ') ∧ out = acc ++ rest, fun H2 ⟨h1, h2⟩ => ⟨ds.length - (i + 1), by omega, rfl, h1, h2⟩, fun x H3 y => ?_⟩
  obtain ⟨sm3, d, ed, dx⟩ := (hJ'.1 hlt).2 x H3 y
  rw [drop_get ed] at ef'
  obtain ⟨ρ1, eg, ef2⟩ := opt_some ef'
  obtain ⟨bt, m1, et, ef3⟩ := bnd_some ef2
  have E3 := (EL.same sm3).wipe vs
  -- the heap without D
  have drop : ∀ {H5 : Hp} {ws : List V}, Step ⟨L.o, D :: L.k, L.q⟩ (upd H' D (.lst xs)) ⟨L.o, D :: L.k, L.q⟩ H5 → H5 D = some (.lst ws) →
      ∃ H6 : Hp, H6 D = none ∧ H5 = upd H6 D (.lst ws) ∧ Step L H1 L H6 ∧ (∀ b u, ¬ (⟨L.o, D :: L.k, L.q⟩ : OW).has b → H5 b = some u → ¬ L.has b ∧ H6 b = some u) ∧ (∀ b u, b ≠ D → H5 b = some u → H6 b = some u) := fun {H5 ws} s5 h5 => by
    refine ⟨fun b => if b = D then none else H5 b, by simp, ?_, ?_, ?_, ?_⟩
    · funext b
      unfold upd
      by_cases hb : b = D
      · subst hb; simp [h5]
      · simp [hb]
    · refine s'.trans ⟨⟨[], by simp, by simp⟩, ⟨rfl, rfl⟩, fun b o hb hk e => ?_, fun b e => ?_, fun b q hb hq e => ?_⟩
      rotate_right
      · exact tab_keep h5 (fun _ z => nomatch z) (fun _ z => nomatch z) (fun c u hc z => by show (if c = D then none else H5 c) = some u; rw [if_neg hc]; exact z) (s5.tab b q (List.mem_cons_of_mem _ hb) hq (tab_same (same_upd hD') e))
      · have hbD : b ≠ D := fun z => by subst z; rw [hD'] at e; cases e
        show (if b = D then none else H5 b) = some o
        rw [if_neg hbD]
        exact s5.keep b o hb (fun z => (List.mem_cons.mp z).elim (fun z => absurd z hbD) hk) (by rw [upd_ne hbD]; exact e)
      · by_cases hb : b = D
        · subst hb; exact hD'
        · have e' : H5 b = none := by
            have e0 : (if b = D then none else H5 b) = none := e
            rw [if_neg hb] at e0; exact e0
          have := s5.grow b e'
          rw [upd_ne hb] at this; exact this
    · intro b u hb e
      have hbD : b ≠ D := fun z => hb (.inr (by rw [z]; exact List.mem_cons_self))
      exact ⟨fun z => hb (z.elim .inl fun z => .inr (List.mem_cons_of_mem _ z)), by show (if b = D then none else H5 b) = some u; rw [if_neg hbD]; exact e⟩
    · intro b u hb e
      show (if b = D then none else H5 b) = some u
      rw [if_neg hb]; exact e
  have envd : ∀ {H5 H6 : Hp} {σ5 : L2.St} {ρ5 : Rho} {μ5 : Mu}, EnvR X.K ⟨L.o, D :: L.k, L.q⟩ H5 σ5 ρ5 μ5 → (∀ b u, ¬ (⟨L.o, D :: L.k, L.q⟩ : OW).has b → H5 b = some u → ¬ L.has b ∧ H6 b = some u) → (∀ b u, b ≠ D → H5 b = some u → H6 b = some u) → Step L H1 L H6 → EnvR X.K L H6 σ ρ μ5 := fun {H5 H6 σ5 ρ5 μ5} E5 hs ha s6 => by
    have sm : Same (Off ⟨L.o, D :: L.k, L.q⟩ H5) (Off L H6) := fun b u e => by
      obtain ⟨h1, h2⟩ := off_some.mp e
      exact off_some.mpr (hs b u h1 h2)
    refine E1.step s6 ?_
    refine pr_imp_mem (fun l ds hl ⟨ws, e, q⟩ => ⟨ws, ha l _ (fun z => hDo (by rw [← z]; exact hl)) e, q.mono sm⟩) E5.st
  have dof : ∀ {H5 H6 : Hp}, (∀ b u, ¬ (⟨L.o, D :: L.k, L.q⟩ : OW).has b → H5 b = some u → ¬ L.has b ∧ H6 b = some u) → Same (Off ⟨L.o, D :: L.k, L.q⟩ H5) (Off L H6) := fun {H5 H6} hs b u e => by
    obtain ⟨h1, h2⟩ := off_some.mp e
    exact off_some.mpr (hs b u h1 h2)
  refine ⟨⟨L.o, D :: L.k, L.q⟩, wipeR ρ vs, μ2, d, ρ1, E3, dx, eg, fun σ4 b4 E4 => ⟨wipe_but hv b4, ⟨⟨L.o, D :: L.k, L.q⟩, ρ1, μ2, bt, m1, E4, et, fun H5 E5 s5 => ?_⟩⟩⟩
  have st5 : Step ⟨L.o, D :: L.k, L.q⟩ (upd H' D (.lst xs)) ⟨L.o, D :: L.k, L.q⟩ H5 := (Step.of_same sm3).trans s5
  have hD5 : H5 D = some (.lst xs) := st5.keep D _ hDo (fun _ => ⟨_, rfl⟩) upd_same
  cases bt with
  | false =>
    rw [if_neg (by decide)] at ef3
    refine iteF ?_
    obtain ⟨H6, h6, e6, s6, hs6, ha6⟩ := drop st5 hD5
    refine ⟨hlt, H6, m1, acc, xs, rest, e6, h6, envd E5 hs6 ha6 s6, s6, (qa.mono (smL.trans st5.same)).mono (dof hs6), by omega, ef3, eout⟩
  | true =>
    rw [if_pos rfl] at ef3
    refine iteT ?_
    obtain ⟨y, m2, ey, ef4⟩ := bnd_some ef3
    obtain ⟨ys, m3, eys, ef5⟩ := bnd_some ef4
    cases ef5
    refine ⟨⟨L.o, D :: L.k, L.q⟩, ρ1, m1, y, m2, E5, ey, fun v H7 E7 s7 q7 => ?_⟩
    have st7 := st5.trans s7
    have hD7 : H7 D = some (.lst xs) := st7.keep D _ hDo (fun _ => ⟨_, rfl⟩) upd_same
    have hlx := dps_len qa
    refine ⟨xs, hD7, by omega, hlt, ?_⟩
    obtain ⟨H6, h6, e6, s6, hs6, ha6⟩ := drop st7 hD7
    refine ⟨H6, m2, acc ++ [y], xs ++ [v], ys, ?_, h6, envd E7 hs6 ha6 s6, s6, dps_app ((qa.mono (smL.trans st7.same)).mono (dof hs6)) (.cons (q7.mono (dof hs6)) .nil), by simp; omega, eys, by rw [eout]; simp⟩
    rw [e6, upd_upd]
def fLcD (fi : FI) (g : FG) (tt : FT) (te : FE) (vs : List Nat) : FE := fun ρ μ => bnd (fLc fi g tt te vs ρ μ) fun ds m => some (.list ds, m)
theorem de_lc {elt iter : Expr} {ifs : List Expr} {scope : Scope} {own : List (Str × Nat)} {fi : FI} {g : FG} {is : List Nat} (hc : X.calm = true) (hN : X.N.Nodup) (hi : DI X tg iter fi) (ok : BlkOk X.N X.env.scope scope own)
    (hg : ∀ (s : Shared) (H : Hp) (C : Addr) (cl : List (Str × Addr)) (fp : List Addr), DG (X.blk s H scope (compEnvC scope cl C X.env) fp) tg is g) (ht : ∀ (s : Shared) (H : Hp) (C : Addr) (cl : List (Str × Addr)) (fp : List Addr), DTs (X.blk s H scope (compEnvC scope cl C X.env) fp) ifs tt)
    (he : ∀ (s : Shared) (H : Hp) (C : Addr) (cl : List (Str × Addr)) (fp : List Addr), DE (X.blk s H scope (compEnvC scope cl C X.env) fp) elt te) (hv : ∀ i ∈ is, i ∈ own.map (·.2)) (hs : ∀ x, foldedSetIterable iter X.env x = pure x := by intro _; rfl) :
    DE X (.ListComp elt [⟨tg, iter, ifs, 0⟩] scope pos) (fLcD fi g tt te (own.map (·.2))) := DE.of (pe_lc (wi := tDI X.K fi) (g := tDG X.K is g) (tt := tDT X.K tt) (te := tD X.K te) hc hN hi ok hg ht he hs) fun L ρ μ d μ' σ H Q E ef k => by
  obtain ⟨ds, m, e1, ef⟩ := bnd_some ef
  cases ef
  refine d_lc hv L ρ μ ds _ σ H Q E e1 fun p xs H' E' s' hp q => ?_
  exact k _ _ (E'.same (same_upd hp)) (s'.trans (Step.of_same (same_upd hp))) (new_lst E'.own hp q)
theorem ds_setLc {i : Nat} {y : Str} {py spos : Pos} {elt iter : Expr} {ifs : List Expr} {scope : Scope} {own : List (Str × Nat)} {fi : FI} {g : FG} {is : List Nat} (hc : X.calm = true) (hN : X.N.Nodup) (hy : X.N[i]? = some y) (hyl : X.env.scope.names.lookup y = some .local)
    (hsw : swapsWith (.ListComp elt [⟨tg, iter, ifs, 0⟩] scope pos) (some (.Name y py)) spos.line X.env = pure true) (hi : DI X tg iter fi) (ok : BlkOk X.N X.env.scope scope own)
    (hg : ∀ (s : Shared) (H : Hp) (C : Addr) (cl : List (Str × Addr)) (fp : List Addr), DG (X.blk s H scope (compEnvC scope cl C X.env) fp) tg is g) (ht : ∀ (s : Shared) (H : Hp) (C : Addr) (cl : List (Str × Addr)) (fp : List Addr), DTs (X.blk s H scope (compEnvC scope cl C X.env) fp) ifs tt)
    (he : ∀ (s : Shared) (H : Hp) (C : Addr) (cl : List (Str × Addr)) (fp : List Addr), DE (X.blk s H scope (compEnvC scope cl C X.env) fp) elt te) (hv : ∀ i ∈ is, i ∈ own.map (·.2)) (hs : ∀ x, foldedSetIterable iter X.env x = pure x := by intro _; rfl) :
    DS X (.Assign [.Name y py] (.ListComp elt [⟨tg, iter, ifs, 0⟩] scope pos) spos) (fAsg (fLcD fi g tt te (own.map (·.2))) (gNm i)) := DS.of (ps_setLc (wi := tDI X.K fi) (g := tDG X.K is g) (tt := tDT X.K tt) (te := tD X.K te) hc hN hy hyl hsw hi ok hg ht he hs) fun L ρ μ o σ H D E ef k => by
  obtain ⟨d, m, e1, ef⟩ := bnd_some ef
  cases ef
  obtain ⟨ds, m', e2, e3⟩ := bnd_some e1
  cases e3
  refine d_lc hv L ρ μ ds _ σ H _ E e2 fun p xs H' E' s' hp q => ?_
  exact k _ _ L ((E'.same (same_upd hp)).put i (new_lst E'.own hp q)) (s'.trans (Step.of_same (same_upd hp)))
end
end DL
namespace DL
open PySem PySem.Spec PyProof.Rows L2
variable [Tabs]
def defM (n nn : Nat) (B : FS) : FE := fun ρ μ => match B (ρ ++ List.replicate (nn - n) .un) μ with
  | some (.rt (.dat d) m) => some (d, m.take μ.length)
  | some (.rt (.own k) m) => if μ.length ≤ k then opt (m[k]?) fun ds => some (.list ds, m.take μ.length) else none
  | some (.nx _ m) => some (.none, m.take μ.length)
  | _ => none
def spD (K : PySem.W.Frag) (m : FE) (n : Nat) : Sp := fun vs H Q _ => ∃ L ρ μ d μ', vs.length = n ∧ EnvR K L H (vs.map some) ρ μ ∧ m ρ μ = some (d, μ') ∧ ∀ v H', StoreR K L H' μ' → Step L H L H' → Dp K (Off L H') v d → Q v H'
theorem StoreR.pre {K : PySem.W.Frag} {L L' : OW} {H H' : Hp} {μ μ' : Mu} (h0 : StoreR K L H μ) (h : StoreR K L' H' μ') (s : Step L H L' H') : StoreR K L H' (μ'.take μ.length) ∧ Same (Off L' H') (Off L H') := by
  obtain ⟨M, e, _⟩ := s.ext
  have sm : Same (Off L' H') (Off L H') := fun b u q => by
    obtain ⟨h1, h2⟩ := off_some.mp q
    refine off_some.mpr ⟨fun z => h1 ?_, h2⟩
    rcases z with z | z
    · exact .inl (by rw [e]; exact List.mem_append_left _ z)
    · exact .inr (by rw [s.lk.1]; exact z)
  refine ⟨?_, sm⟩
  have hl : L.o.length = μ.length := pr_len h0
  have ht := pr_take μ.length h
  rw [e, ← hl, List.take_left] at ht
  rw [← hl]
  exact pr_imp (fun l ds ⟨vs, q1, q2⟩ => ⟨vs, q1, q2.mono sm⟩) ht
theorem Step.cut {L L' : OW} {H H' : Hp} (s : Step L H L' H') : Step L H L H' := ⟨⟨[], by simp, by simp⟩, ⟨rfl, rfl⟩, s.keep, s.grow, s.tab⟩
theorem fn_dat {P : Program} {w : World} {K : PySem.W.Frag} {mg : Str → Option Value} {base : Heap} {x qual : Str} {st : Stmt} {f : Addr} {fd : FuncData} {N ps : List Str} {k : Nat} {B : FS} (F : Fun K x qual st f fd) (S : FnScope N ps (defScope st))
    (hb : ∀ (cdv : Value) (A : Around) (outer : List Env) (s : Shared) (H : Hp) (E : XK), Room k (A.deeper (envOfC qual (defScope st) s.heap.objs.size f cdv)) → DSs (cxOf CX0 P w K mg base N qual (defScope st) f cdv A outer s H E).nox (defBody st) B) :
    FnOk P w K mg base CX0 (k + 1) f fd ps (spD K (defM ps.length N.length B) ps.length) := by
  refine F.ok S (fun vs H Q E h => ?_) (fun cdv A outer s H vs Q E hr h => ⟨_, hb cdv A outer s H E hr, ?_⟩)
  · obtain ⟨L, ρ, μ, d, μ', hn, _⟩ := h
    exact hn
  · obtain ⟨L, ρ, μ, d, μ', hn, E0, ef, kk⟩ := h
    have E1 : EnvR K L H (L2.start N vs) (ρ ++ List.replicate (N.length - ps.length) .un) μ := by
      refine ⟨E0.nd, E0.lk, ?_, E0.st⟩
      unfold L2.start
      rw [hn]
      refine pr_app E0.sl ?_
      generalize N.length - ps.length = j
      induction j with
      | zero => exact .nil
      | succ j ih => exact .cons (show SlotR K L H none .un from trivial) ih
    unfold defM at ef
    cases hB : B (ρ ++ List.replicate (N.length - ps.length) .un) μ with
    | none => rw [hB] at ef; cases ef
    | some o =>
      rw [hB] at ef
      refine ⟨L, _, μ, o, E1, hB, ?_⟩
      cases o with
      | nx r m =>
        cases ef
        exact fun σ' H' L' E' s' => kk .non H' (E0.st.pre E'.st s').1 s'.cut .non
      | bk r m => cases ef
      | ct r m => cases ef
      | rt v m =>
        intro u H' L' nd' st' s' q
        obtain ⟨h1, sm⟩ := E0.st.pre st' s'
        cases v with
        | dat d' =>
          cases ef
          exact kk u H' h1 s'.cut (q.mono sm)
        | own j =>
          have ef : (if μ.length ≤ j then opt (m[j]?) fun ds => some (PyData.list ds, m.take μ.length) else none) = some (d, μ') := ef
          by_cases hj : μ.length ≤ j
          · rw [if_pos hj] at ef
            obtain ⟨ds, e1, e2⟩ := opt_some ef
            cases e2
            obtain ⟨l, el, rfl⟩ := q
            obtain ⟨l', el', vs', hH, qs⟩ := pr_get st' e1
            rw [el] at el'; cases el'
            refine kk _ H' h1 s'.cut (.lst (xs := vs') (SqL.of (off_some.mpr ⟨fun z => ?_, hH⟩)) (qs.mono sm))
            obtain ⟨M, eM, hM⟩ := s'.ext
            rcases z with z | z
            · -- the place lies behind the lent ones
              obtain ⟨i, hi⟩ := List.getElem?_of_mem z
              have hi' : L'.o[i]? = some l := by rw [eM, List.getElem?_append_left (List.getElem?_eq_some_iff.mp hi).1]; exact hi
              have := nd_ix nd' hi' el
              have h2 := (List.getElem?_eq_some_iff.mp hi).1
              have h3 : L.o.length = μ.length := pr_len E0.st
              omega
            · have hj2 : l ∈ M := by
                have hj3 : L.o.length ≤ j := by rw [pr_len E0.st]; exact hj
                rw [eM, List.getElem?_append_right hj3] at el
                exact List.mem_of_getElem? el
              exact lt_ne (E0.lk l z).2 (hM l hj2)
          · rw [if_neg hj] at ef; cases ef
section
variable {X : Cx} {tg e a b o : Expr} {es : List Expr} {pos p apos : Pos} {f fa fb te fo : FE} {tt : FT} {fs : FA}
abbrev FP := Rho → Mu → Option (Rho × Mu)
def tDP (K : PySem.W.Frag) (f : FP) : TA := fun σ H Q => ∃ L ρ μ sl μ', EnvR K L H σ ρ μ ∧ f ρ μ = some (sl, μ') ∧ ∀ vs H', EnvR K L H' σ ρ μ' → Step L H L H' → Paired (SlotR K L H') (vs.map some) sl → Q vs H'
def DP (X : Cx) (es : List Expr) (f : FP) : Prop := PA X es (tDP X.K f)
theorem DP.of {t : TA} {f : FP} (h : PA X es t) (imp : ∀ L ρ μ d μ' σ H Q, EnvR X.K L H σ ρ μ → f ρ μ = some (d, μ') → (∀ v H', EnvR X.K L H' σ ρ μ' → Step L H L H' → Paired (SlotR X.K L H') (v.map some) d → Q v H') → t σ H Q) : DP X es f :=
  fun pos pins s σ H Q I ⟨L, ρ, μ, d, μ', E, ef, k⟩ => h pos pins s σ H Q I (imp L ρ μ d μ' σ H Q E ef k)
def pNil : FP := fun _ μ => some ([], μ)
def pDat (f : FE) (g : FP) : FP := fun ρ μ => bnd (f ρ μ) fun d m => bnd (g ρ m) fun r m' => some (.dat d :: r, m')
def pNm (i : Nat) (g : FP) : FP := fun ρ μ => match ρ[i]? with
  | some (.own k) => bnd (g ρ μ) fun r m' => some (.own k :: r, m')
  | some (.dat d) => bnd (g ρ μ) fun r m' => some (.dat d :: r, m')
  | _ => none
theorem dp_nil : DP X [] pNil := DP.of pa_nil fun L ρ μ d μ' σ H Q E ef k => by cases ef; exact k [] H E (Step.refl _ _) .nil
theorem dp_dat {g : FP} (ha : DE X e f) (hr : DP X es g) (hs : starEach (e :: es) X.env = (false, eval e X.env) :: starEach es X.env := by rfl) : DP X (e :: es) (pDat f g) :=
  DP.of (pa_cons ha hr hs) fun L ρ μ d μ' σ H Q E ef k => by
    obtain ⟨d1, m1, e1, ef⟩ := bnd_some ef
    obtain ⟨ds, m2, e2, ef⟩ := bnd_some ef
    cases ef
    exact ⟨L, ρ, μ, d1, m1, E, e1, fun v H1 E1 s1 q1 => ⟨L, ρ, m1, ds, _, E1, e2, fun vs H2 E2 s2 q2 => k (v :: vs) H2 E2 (s1.trans s2) (.cons ⟨v, rfl, q1.mono s2.same⟩ q2)⟩⟩
theorem dp_nm {i : Nat} {x : Str} {g : FP} (hN : X.N[i]? = some x) (hv : Vis X.env.scope x) (hr : DP X es g) (hd : (x == ("__debug__" : Str)) = false := by decide) (hcd : (x == ("__classdict__" : Str)) = false := by decide)
    (hs : starEach (.Name x p :: es) X.env = (false, eval (.Name x p) X.env) :: starEach es X.env := by rfl) : DP X (.Name x p :: es) (pNm i g) :=
  DP.of (pa_cons (pe_var hN hv hd hcd) hr hs) fun L ρ μ d μ' σ H Q E ef k => by
    unfold pNm at ef
    split at ef
    · rename_i k' er
      obtain ⟨r, m, e1, ef⟩ := bnd_some ef
      cases ef
      obtain ⟨ov, eo, l, el, rfl⟩ := pr_get E.sl er
      exact ⟨_, eo, L, ρ, μ, r, _, E, e1, fun vs H1 E1 s1 q1 => k (_ :: vs) H1 E1 s1 (.cons ⟨l, el, rfl⟩ q1)⟩
    · rename_i d' er
      obtain ⟨r, m, e1, ef⟩ := bnd_some ef
      cases ef
      obtain ⟨ov, eo, v, rfl, q⟩ := pr_get E.sl er
      exact ⟨_, eo, L, ρ, μ, r, _, E, e1, fun vs H1 E1 s1 q1 => k (_ :: vs) H1 E1 s1 (.cons ⟨v, rfl, q.mono s1.same⟩ q1)⟩
    · cases ef
def fCall (m : FE) (g : FP) : FE := fun ρ μ => bnd (g ρ μ) fun sl m' => m sl m'
theorem de_call {k n : Nat} {fA : Addr} {fd : FuncData} {ps : List Str} {m : FE} {x : Str} {g : FP} (F : FnOk X.prog X.w X.K X.mg X.base CX0 k fA fd ps (spD X.K m n)) (hr : Room k X.A) (hg : Gl X x) (hm : X.mg x = some (.ref fA)) (hk : PySem.W.keepIn X.K (.ref fA) = true) (hb : Binds X.K fd ps [])
    (ha : DP X (e :: es) g) (hn : ∀ ρ μ sl m', g ρ μ = some (sl, m') → sl.length = n) (hdb : (x == ("__debug__" : Str)) = false := by decide) (he : starEach (e :: es) X.env = (false, eval e X.env) :: starEach es X.env := by rfl) (hpl : (backTo pos (starEach es X.env)).any (·.1) = false := by rfl) :
    DE X (.Call (.Name x p) (e :: es) [] pos) (fCall m g) := DE.of (pe_call F hr hg hm hk hb .nil pass0 ha hdb he hpl) fun L ρ μ d μ' σ H Q E ef k => by
  obtain ⟨sl, m1, e1, e2⟩ := bnd_some ef
  refine ⟨L, ρ, μ, sl, m1, E, e1, fun vs H1 E1 s1 q1 => ?_⟩
  show spD X.K m n (vs ++ []) H1 Q E0
  rw [List.append_nil]
  refine ⟨L, sl, m1, d, μ', ?_, ⟨E1.nd, E1.lk, q1, E1.st⟩, e2, fun v H2 st2 s2 q2 => k v H2 (E1.step s2 st2) (s1.trans s2) q2⟩
  have := pr_len q1
  rw [List.length_map] at this
  rw [this]; exact hn _ _ _ _ e1
def rd (ρ : Rho) (μ : Mu) (i : Nat) : Option PyData := match ρ[i]? with
  | some (.dat d) => some d
  | some (.own k) => opt (μ[k]?) fun ds => some (.list ds)
  | _ => none
theorem rd_dp {K : PySem.W.Frag} {L : OW} {H : Hp} {σ : L2.St} {ρ : Rho} {μ : Mu} {i : Nat} {d : PyData} (E : EnvR K L H σ ρ μ) (h : rd ρ μ i = some d) : ∃ v, σ[i]? = some (some v) ∧ Dp K H v d := by
  unfold rd at h
  split at h
  · rename_i d' er
    cases h
    obtain ⟨ov, eo, v, rfl, q⟩ := pr_get E.sl er
    exact ⟨v, eo, dpf q⟩
  · rename_i k er
    obtain ⟨ds, e1, e2⟩ := opt_some h
    cases e2
    obtain ⟨ov, eo, l, el, rfl⟩ := pr_get E.sl er
    obtain ⟨vs, hH, q⟩ := E.at e1 el
    exact ⟨_, eo, .lst (SqL.of hH) (dpsf q)⟩
  · cases h
theorem rd_dp' {K : PySem.W.Frag} {L : OW} {H H' : Hp} {σ : L2.St} {ρ : Rho} {μ μ' : Mu} {i : Nat} {d : PyData} {v : V} (E : EnvR K L H σ ρ μ) (e : σ[i]? = some (some v)) (E' : EnvR K L H' σ ρ μ') (h : rd ρ μ' i = some d) : Dp K H' v d := by
  obtain ⟨u, e', q⟩ := rd_dp E' h
  rw [e] at e'; cases e'
  exact q
theorem rd_some {K : PySem.W.Frag} {L : OW} {H : Hp} {σ : L2.St} {ρ : Rho} {μ μ' : Mu} {i : Nat} {d : PyData} (E : EnvR K L H σ ρ μ) (h : rd ρ μ' i = some d) : ∃ v, σ[i]? = some (some v) := by
  unfold rd at h
  split at h
  · rename_i d' er
    obtain ⟨ov, eo, v, rfl, q⟩ := pr_get E.sl er
    exact ⟨v, eo⟩
  · rename_i k er
    obtain ⟨ov, eo, l, el, rfl⟩ := pr_get E.sl er
    exact ⟨_, eo⟩
  · cases h
def isSc : PyData → Bool
  | .none => true
  | .bool _ => true
  | .int _ => true
  | .str _ => true
  | _ => false
theorem sc_dp {K : PySem.W.Frag} {H H' : Hp} {v : V} {d : PyData} (h : isSc d = true) (q : Dp K H v d) : Dp K H' v d := by
  cases q with
  | non => exact .non
  | bl b => exact .bl b
  | int i => exact .int i
  | str x => exact .str x
  | lst _ _ => cases h
  | tup _ _ => cases h
  | dct _ => cases h
theorem off_nil (H : Hp) : Off ⟨[], [], fun _ => none⟩ H = H := by
  funext a; unfold Off OW.has; simp
theorem own_nil (H : Hp) : Own ⟨[], [], fun _ => none⟩ H := fun l z => by unfold OW.has at z; simp at z
theorem Ret.sc {K : PySem.W.Frag} {L : OW} {H0 H : Hp} {σ : L2.St} {ρ : Rho} {μ : Mu} {d : PyData} {Q : VK} (hs : isSc d = true) (E : EnvR K L H σ ρ μ) (s0 : Step L H0 L H) (k : ∀ v H', EnvR K L H' σ ρ μ → Step L H0 L H' → Dp K (Off L H') v d → Q v H') : Ret K ⟨[], [], fun _ => none⟩ H d Q :=
  fun v H' s q => k v H' (E.same s) (s0.trans (Step.of_same s)) (sc_dp hs q)
def sc (z : Option PyData) : Option PyData := opt z fun d => if isSc d = true then some d else none
theorem sc_some {z : Option PyData} {d : PyData} (h : sc z = some d) : z = some d ∧ isSc d = true := by
  obtain ⟨d', e, h⟩ := opt_some h
  split at h
  · cases h; exact ⟨e, by assumption⟩
  · cases h
def fNmB (i : Nat) (g : List PyData → Option PyData) : FE := fun ρ μ => opt (rd ρ μ i) fun d => fin (sc (g [d])) μ
theorem de_nmB {i : Nat} {y x : Str} {id : String} {r : List V → Hp → VK → Prop} {g : List PyData → Option PyData} {p2 : Pos} (oN : OpN X.K r g) (hc : CallR X (.builtin id) r) (hg : Gl X x) (hm : X.mg x = none) (hv : bootBuiltins x = some (.builtin id)) (hN : X.N[i]? = some y) (hvy : Vis X.env.scope y)
    (hn : x ≠ "__name__" := by decide) (hdb : (x == ("__debug__" : Str)) = false := by decide) (hd : (y == ("__debug__" : Str)) = false := by decide) (hcd : (y == ("__classdict__" : Str)) = false := by decide)
    (he : starEach [.Name y p2] X.env = (false, eval (.Name y p2) X.env) :: starEach [] X.env := by rfl) (hpl : (backTo pos (starEach [] X.env)).any (·.1) = false := by rfl) : DE X (.Call (.Name x p) [.Name y p2] [] pos) (fNmB i g) :=
  DE.of (pe_callB hc hg hm hv (pa_cons (pe_var hN hvy hd hcd) pa_nil he) hn hdb he hpl) fun L ρ μ d μ' σ H Q E ef k => by
    obtain ⟨d1, e1, ef⟩ := opt_some ef
    obtain ⟨e2, rfl⟩ := fin_some ef
    obtain ⟨e3, hs⟩ := sc_some e2
    obtain ⟨v, ev, q⟩ := rd_dp E e1
    exact ⟨v, ev, oN ⟨[], [], fun _ => none⟩ H [v] [d1] d Q (own_nil H) (by rw [off_nil]; exact .cons q .nil) e3 (Ret.sc hs E (Step.refl _ _) k)⟩
def fNm2 (i : Nat) (fb : FE) (g : PyData → PyData → Option PyData) : FE := fun ρ μ => bnd (fb ρ μ) fun e m => opt (rd ρ m i) fun d => fin (sc (g d e)) m
theorem d_nm2 {i : Nat} {r : R2} {g : PyData → PyData → Option PyData} (o2 : Op2 X.K r g) : ∀ L ρ μ d μ' σ H Q, EnvR X.K L H σ ρ μ → fNm2 i fb g ρ μ = some (d, μ') → (∀ v H', EnvR X.K L H' σ ρ μ' → Step L H L H' → Dp X.K (Off L H') v d → Q v H') →
    tOp r (tVar i) (tD X.K fb) σ H Q := fun L ρ μ d μ' σ H Q E ef k => by
  obtain ⟨d2, m2, e2, ef⟩ := bnd_some ef
  obtain ⟨d1, e1, ef⟩ := opt_some ef
  obtain ⟨e3, rfl⟩ := fin_some ef
  obtain ⟨e4, hs⟩ := sc_some e3
  obtain ⟨v, ev⟩ := rd_some E e1
  refine ⟨v, ev, L, ρ, μ, d2, _, E, e2, fun u H2 E2 s2 q2 => ?_⟩
  exact o2 ⟨[], [], fun _ => none⟩ H2 v u d1 d2 d Q (own_nil H2) (by rw [off_nil]; exact rd_dp' E ev E2 e1) (by rw [off_nil]; exact dpf q2) e4 (Ret.sc hs E2 s2 k)
theorem dt_nmC {op : CmpOp} {i : Nat} {y : Str} {r : R2} {g : PyData → PyData → Option PyData} {p2 : Pos} (o2 : Op2 X.K r g) (ho : OpR X (compareOp op) r) (hN : X.N[i]? = some y) (hvy : Vis X.env.scope y) (hb : DE X b fb) (hm : behindInMarks op b = false)
    (hd : (y == ("__debug__" : Str)) = false := by decide) (hcd : (y == ("__classdict__" : Str)) = false := by decide) : DT X (.Compare (.Name y p2) [op] [b] pos) (fB (fNm2 i fb g)) :=
  DT.of (pt_cmpR ho (pe_var hN hvy hd hcd) hb hm) fun L ρ μ d μ' σ H Q E ef k => d_nm2 o2 L ρ μ _ μ' σ H _ E (fB_some ef) fun v H' E' s' q => ⟨d, dp_bl q, k H' E' s'⟩
def fNmI (i : Nat) (fb : FE) : FE := fun ρ μ => bnd (fb ρ μ) fun e m => match ρ[i]? with
  | some (.dat d) => fin (ixD d e) m
  | some (.own k) => opt (m[k]?) fun ds => fin (ixD (.list ds) e) m
  | _ => none
theorem de_nmI {i : Nat} {y : Str} {p2 : Pos} (hN : X.N[i]? = some y) (hvy : Vis X.env.scope y) (hb : DE X b fb) (hs : PlainIx b) (hd : (y == ("__debug__" : Str)) = false := by decide) (hcd : (y == ("__classdict__" : Str)) = false := by decide) : DE X (.Subscript (.Name y p2) b pos) (fNmI i fb) :=
  DE.of (pe_ix ix_seq (pe_var hN hvy hd hcd) hb hs) fun L ρ μ d μ' σ H Q E ef k => by
    obtain ⟨d2, m2, e2, ef⟩ := bnd_some ef
    split at ef
    · rename_i d' er
      obtain ⟨e3, rfl⟩ := fin_some ef
      obtain ⟨ov, eo, v, rfl, q⟩ := pr_get E.sl er
      exact ⟨v, eo, L, ρ, μ, d2, _, E, e2, fun u H2 E2 s2 q2 => o2_ix L H2 v u d' d2 d Q E2.own (q.mono s2.same) q2 e3 (Ret.of E2 s2 k)⟩
    · rename_i k' er
      obtain ⟨ds, e1, ef⟩ := opt_some ef
      obtain ⟨e3, rfl⟩ := fin_some ef
      obtain ⟨ov, eo, l, el, rfl⟩ := pr_get E.sl er
      refine ⟨_, eo, L, ρ, μ, d2, _, E, e2, fun u H2 E2 s2 q2 => ?_⟩
      obtain ⟨vs, hH, q⟩ := E2.at e1 el
      cases d2 with
      | int j =>
        obtain ⟨v, e4, e5⟩ := at_dp q (show atI ds j = some d from e3)
        exact .inl ⟨l, vs, j, v, rfl, dp_int q2, SqL.of hH, e4, k v H2 E2 s2 e5⟩
      | _ => cases e3
    · cases ef
def fNmT (i : Nat) : FE := fun ρ μ => match ρ[i]? with
  | some (.own k) => opt (μ[k]?) fun ds => some (.tuple ds, μ)
  | _ => none
theorem de_nmT {i : Nat} {y : Str} {p2 : Pos} (hg : Gl X "tuple") (hm : X.mg "tuple" = none) (hN : X.N[i]? = some y) (hvy : Vis X.env.scope y) (hd : (y == ("__debug__" : Str)) = false := by decide) (hcd : (y == ("__classdict__" : Str)) = false := by decide)
    (he : starEach [.Name y p2] X.env = (false, eval (.Name y p2) X.env) :: starEach [] X.env := by rfl) (hpl : (backTo pos (starEach [] X.env)).any (·.1) = false := by rfl) : DE X (.Call (.Name "tuple" p) [.Name y p2] [] pos) (fNmT i) :=
  DE.of (pe_callTy call_tuple_of hg hm (by decide +kernel) (pa_cons (pe_var hN hvy hd hcd) pa_nil he) (by decide) (by decide) he hpl) fun L ρ μ d μ' σ H Q E ef k => by
    unfold fNmT at ef
    split at ef
    · rename_i k' er
      obtain ⟨ds, e1, ef⟩ := opt_some ef
      cases ef
      obtain ⟨ov, eo, l, el, rfl⟩ := pr_get E.sl er
      obtain ⟨vs, hH, q⟩ := E.at e1 el
      refine ⟨_, eo, l, vs, rfl, .inl ⟨SqL.of hH, ?_⟩⟩
      exact Ret.tup E.own q (Ret.of E (Step.refl _ _) k)
    · cases ef
def fNmJ (fo : FE) (i : Nat) : FE := fun ρ μ => bnd (fo ρ μ) fun d m => match d with
  | .str a => opt (rd ρ m i) fun e => fin (joinD a e) m
  | _ => none
theorem de_nmJ {i : Nat} {y : Str} {p2 : Pos} (ho : DE X o fo) (hN : X.N[i]? = some y) (hvy : Vis X.env.scope y) (hd : (y == ("__debug__" : Str)) = false := by decide) (hcd : (y == ("__classdict__" : Str)) = false := by decide)
    (hs : starEach [.Name y p2] X.env = [(false, eval (.Name y p2) X.env)] := by rfl) (hbase : attributeBase o "join" X.env (eval o X.env) = eval o X.env := by rfl) (hline : (apos.endLine == pos.line) = true := by rfl) :
    DE X (.Call (.Attribute o "join" apos) [.Name y p2] [] pos) (fNmJ fo i) := DE.of (pe_join ho (pe_var hN hvy hd hcd) hs hbase hline) fun L ρ μ d μ' σ H Q E ef k => by
  obtain ⟨d1, m1, e1, ef⟩ := bnd_some ef
  split at ef
  · rename_i a
    obtain ⟨d2, e2, ef⟩ := opt_some ef
    obtain ⟨e3, rfl⟩ := fin_some ef
    obtain ⟨v, ev⟩ := rd_some E e2
    refine ⟨L, ρ, μ, _, _, E, e1, fun u H1 E1 s1 q1 => ⟨⟨a, dp_str q1⟩, v, ev, ?_⟩⟩
    rw [dp_str q1]
    have hsc : isSc d = true := by
      unfold joinD at e3
      split at e3
      · obtain ⟨ys, _, e4⟩ := opt_some e3; unfold joinT at e4; split at e4 <;> cases e4; rfl
      · obtain ⟨ys, _, e4⟩ := opt_some e3; unfold joinT at e4; split at e4 <;> cases e4; rfl
      · cases e3
    exact om_join ⟨[], [], fun _ => none⟩ H1 a v d2 d Q (own_nil H1) (by rw [off_nil]; exact rd_dp' E ev E1 e2) e3 (Ret.sc hsc E1 s1 k)
  · cases ef
def fSetI (i : Nat) (j : Int) (f : FE) : FS := fun ρ μ => bnd (f ρ μ) fun d m => match ρ[i]? with
  | some (.own k) => opt (m[k]?) fun ds => opt (ixN ds.length j) fun n => some (.nx ρ (m.set k (ds.set n d)))
  | _ => none
theorem ds_setI {i : Nat} {y : Str} {p2 p3 : Pos} {j : Int} {jk} (hN : X.N[i]? = some y) (hvy : Vis X.env.scope y) (he : DE X e f) (hd : (y == ("__debug__" : Str)) = false := by decide) (hcd : (y == ("__classdict__" : Str)) = false := by decide)
    (ha : ∀ v, assign (.Subscript (.Name y p2) (.Constant (.int j) jk p3) p) X.env v = (do
      let ov ← holding [v] (eval (.Name y p2) X.env)
      let iv ← holding [v, ov] (eval (.Constant (.int j) jk p3) X.env)
      standAt p
      holding [v, ov, iv] (setItem ov iv v)
      release [v, ov, iv] []) := by intro _; rfl)
    (hs : swapsWithSole [.Subscript (.Name y p2) (.Constant (.int j) jk p3) p] e pos.line X.env = pure false := by rfl) (hw : swappedStores [.Subscript (.Name y p2) (.Constant (.int j) jk p3) p] e X.env = pure none := by rfl)
    (h1 : (assignEach [.Subscript (.Name y p2) (.Constant (.int j) jk p3) p] X.env).map (·.2) = [assign (.Subscript (.Name y p2) (.Constant (.int j) jk p3) p) X.env] := by rfl) :
    DS X (.Assign [.Subscript (.Name y p2) (.Constant (.int j) jk p3) p] e pos) (fSetI i j f) := DS.of (ps_asg he (pg_sub (pe_var hN hvy hd hcd) pe_int set_list ha) hs hw h1) fun L ρ μ o σ H D E ef k => by
  obtain ⟨d, m, e1, ef⟩ := bnd_some ef
  split at ef
  · rename_i k' er
    obtain ⟨ds, e2, ef⟩ := opt_some ef
    obtain ⟨n, e3, ef⟩ := opt_some ef
    cases ef
    refine ⟨L, ρ, μ, d, m, E, e1, fun v H1 E1 s1 q1 => ?_⟩
    obtain ⟨ov, eo, l, el, rfl⟩ := pr_get E.sl er
    obtain ⟨vs, hH, q⟩ := E1.at e2 el
    obtain ⟨E2, s2⟩ := E1.ownSet el (dps_set q1 n q)
    exact ⟨_, eo, l, vs, j, n, rfl, rfl, hH, by rw [dps_len q]; exact e3, k _ _ L E2 (s1.trans s2)⟩
  · cases ef
end
end DL
namespace DL
open PySem PySem.Spec PyProof.Rows L2
variable [Tabs]
mutual
def noLst : PyData → Bool
  | .list _ => false
  | .tuple xs => noLstAll xs
  | _ => true
def noLstAll : List PyData → Bool
  | [] => true
  | x :: r => noLst x && noLstAll r
end
section
variable {X : Cx} {pins : List (Addr × Obj)} {σ : L2.St} {H : Hp} {s : Shared}
mutual
theorem dp_readsS (I : Inv X pins σ H s) : ∀ (d : PyData) (v : V) (u : Value), noLst d = true → Dp X.K H v d → RelV v u → ∃ as, Reads s.heap u d as ∧ sysModules ∉ as
  | .none, _, _, _, h, r => by
    cases h
    cases r
    exact ⟨_, Reads.none, by simp⟩
  | .bool b, _, _, _, h, r => by
    cases h
    cases r
    exact ⟨_, Reads.bool b, by simp⟩
  | .int i, _, _, _, h, r => by
    cases h
    obtain ⟨t, rfl⟩ := r
    exact ⟨_, Reads.int i t, by simp⟩
  | .str x, _, _, _, h, r => by
    cases h
    obtain ⟨t, rfl⟩ := r
    exact ⟨_, Reads.str x t, by simp⟩
  | .list ds, _, _, e, _, _ => by simp [noLst] at e
  | .tuple ds, _, _, e, h, r => by
    cases h with
    | tup hs ha =>
      cases r
      obtain ⟨its, rv, ⟨o, ho, hc, n, hd⟩, _⟩ := I.tuple hs
      obtain ⟨as, hr, hn⟩ := dp_readsAllS I ds _ its (by simpa [noLst] using e) ha rv
      exact ⟨_, Reads.tuple ho hc hd hr, hn⟩
  | .dict _, _, _, _, h, r => by
    cases h with
    | dct e =>
      cases r
      obtain ⟨q1, q2⟩ := dk_reads (I.hok _ _ e)
      exact ⟨_, q1, by simpa using Ne.symm q2⟩
theorem dp_readsAllS (I : Inv X pins σ H s) : ∀ (ds : List PyData) (vs : List V) (us : List Value), noLstAll ds = true → DpAll X.K H vs ds → Vals vs us → ∃ as, ReadsAll s.heap us ds as ∧ sysModules ∉ as
  | [], _, _, _, h, r => by
    cases h
    cases r
    exact ⟨_, ReadsAll.nil, by simp⟩
  | d :: ds, _, _, e, h, r => by
    cases h with
    | cons h1 h2 =>
      cases r with
      | cons r1 r2 =>
        simp only [noLstAll, Bool.and_eq_true] at e
        obtain ⟨as, q1, n1⟩ := dp_readsS I d _ _ e.1 h1 r1
        obtain ⟨bs, q2, n2⟩ := dp_readsAllS I ds _ _ e.2 h2 r2
        exact ⟨_, ReadsAll.cons q1 q2, by simp [n1, n2]⟩
end
end
def reprB (d : PyData) : Bool := d.showable && (!d.hasDict || noLst d) && decide (d.shown.length ≤ sizeLine) && decide (d.depth ≤ 32)
def reprD (d : PyData) : Option PyData := if reprB d = true then some (.str d.shown) else none
def rRepr (K : PySem.W.Frag) : List V → Hp → VK → Prop := fun xs H Q => ∃ x d, xs = [x] ∧ Dp K H x d ∧ reprB d = true ∧ Q (.str d.shown) H
section
variable {X : Cx} {tg e a b o : Expr} {es : List Expr} {pos p apos : Pos} {f fa fb te fo : FE} {tt : FT} {fs : FA}
theorem call_reprD (hu : X.A.units + 64 < cLine) (hg : X.A.guards = some []) : CallR X (.builtin "repr") (rRepr X.K) := by
  intro pins s σ H xs us Q I rs h
  obtain ⟨x, d, rfl, hd, hb, q⟩ := h
  obtain ⟨u, rfl, ru⟩ := vals1 rs
  obtain ⟨as, r⟩ := Dp.reads I d x u hd ru
  unfold reprB at hb
  simp only [Bool.and_eq_true, decide_eq_true_eq, Bool.or_eq_true, Bool.not_eq_true'] at hb
  obtain ⟨⟨⟨h1, h2⟩, h3⟩, h4⟩ := hb
  have r' : ∃ as, Reads s.heap u d as ∧ (d.hasDict = true → sysModules ∉ as) := by
    rcases h2 with h2 | h2
    · exact ⟨as, r, PyData.noDict_hsm h2⟩
    · obtain ⟨as', q1, q2⟩ := dp_readsS I d x u h2 hd ru
      exact ⟨as', q1, fun _ => q2⟩
  clear r
  obtain ⟨as, r, hsm⟩ := r'
  cases hd with
  | non => cases ru; exact PySem.P.repr_of_none ⟨.str _, H, I.tok _, ⟨_, rfl⟩, by simpa [PyData.shown] using q⟩
  | bl b => cases ru; exact PySem.P.repr_of_bool ⟨.str _, H, I.tok _, ⟨_, rfl⟩, by simpa [PyData.shown] using q⟩
  | int i => obtain ⟨t, rfl⟩ := ru; exact PySem.P.repr_of_int (by simpa [PyData.showable] using h1) ⟨.str _, H, I.tok _, ⟨_, rfl⟩, by simpa [PyData.shown] using q⟩
  | str y => obtain ⟨t, rfl⟩ := ru; exact PySem.P.repr_of_str ⟨.str _, H, I.tok _, ⟨_, rfl⟩, by simpa [PyData.shown] using q⟩ (by simpa [PyData.shown] using h3)
  | lst s1 q1 => cases ru; exact repr_of_reads' r h1 hsm hg (by omega) (fun _ _ e => e) (fun h' u tk hk => ⟨.str _, H, I.kept hk, ⟨u, rfl⟩, q⟩) h3
  | tup s1 q1 => cases ru; exact repr_of_reads' r h1 hsm hg (by omega) (fun _ _ e => e) (fun h' u tk hk => ⟨.str _, H, I.kept hk, ⟨u, rfl⟩, q⟩) h3
  | dct e => cases ru; exact repr_of_reads' r h1 hsm hg (by omega) (fun _ _ e => e) (fun h' u tk hk => ⟨.str _, H, I.kept hk, ⟨u, rfl⟩, q⟩) h3
theorem oN_repr {K : PySem.W.Frag} : OpN K (rRepr K) (g1 reprD) := fun L H xs ds z Q hL h hg k => by
  unfold g1 at hg
  split at hg
  · rename_i d
    cases h with
    | cons h1 h2 =>
      cases h2
      unfold reprD at hg
      split at hg
      · cases hg; exact ⟨_, d, rfl, dpf h1, by assumption, k.str⟩
      · cases hg
  · cases hg
def hideR (n : Nat) : Rho → Rho := List.map fun s => match s with
  | .own k => if k < n then .own k else .un
  | s => s
theorem EnvR.hide {K : PySem.W.Frag} {L : OW} {H : Hp} {σ : L2.St} {ρ : Rho} {μ : Mu} (E : EnvR K L H σ ρ μ) (n : Nat) : EnvR K ⟨L.o.take n, L.o.drop n ++ L.k, L.q⟩ H σ (hideR n ρ) (μ.take n) := by
  have hs : ∀ b, (⟨L.o.take n, L.o.drop n ++ L.k, L.q⟩ : OW).has b ↔ L.has b := fun b => by
    unfold OW.has
    simp only [List.mem_append]
    have : b ∈ L.o ↔ b ∈ L.o.take n ∨ b ∈ L.o.drop n := by
      conv => lhs; rw [← List.take_append_drop n L.o]
      exact List.mem_append
    rw [this]
    constructor
    · rintro (h | h | h)
      · exact .inl (.inl h)
      · exact .inl (.inr h)
      · exact .inr h
    · rintro ((h | h) | h)
      · exact .inl h
      · exact .inr (.inl h)
      · exact .inr (.inr h)
  have eo : Off ⟨L.o.take n, L.o.drop n ++ L.k, L.q⟩ H = Off L H := by
    funext b; unfold Off
    by_cases h : L.has b
    · rw [if_pos h, if_pos ((hs b).mpr h)]
    · rw [if_neg h, if_neg fun z => h ((hs b).mp z)]
  refine ⟨⟨(List.take_sublist n L.o).nodup E.nd.1, fun p hp => ⟨List.mem_append_right _ (E.nd.2 p hp).1, (E.nd.2 p hp).2⟩⟩, fun l hl => ?_, ?_, ?_⟩
  · rcases List.mem_append.mp hl with h | h
    · obtain ⟨i, ei⟩ := List.getElem?_of_mem (List.mem_of_mem_drop h)
      obtain ⟨_, _, xs, e, _⟩ := pr_get' E.st ei
      refine ⟨fun z => ?_, .inl ⟨⟨xs, e⟩, fun q hq => (E.lk l (E.nd.2 _ hq).1).1 (List.mem_of_mem_drop h)⟩⟩
      have nd := E.nd.1
      rw [← List.take_append_drop n L.o] at nd
      exact (List.nodup_append.mp nd).2.2 l z l h rfl
    · obtain ⟨a, e⟩ := E.lk l h
      exact ⟨fun z => a (List.mem_of_mem_take z), e⟩
  · have gen : ∀ {σ : L2.St} {ρ : Rho}, Paired (SlotR K L H) σ ρ → Paired (SlotR K ⟨L.o.take n, L.o.drop n ++ L.k, L.q⟩ H) σ (hideR n ρ) := fun h => by
      induction h with
      | nil => exact .nil
      | cons a r ih =>
        rename_i o x _ _
        refine .cons ?_ ih
        cases x with
        | un => exact trivial
        | fn x => exact a
        | dat d => obtain ⟨v, e, q⟩ := a; exact ⟨v, e, by rw [eo]; exact q⟩
        | dct kvs => obtain ⟨b, vs, e, eb, q⟩ := a; exact ⟨b, vs, e, by rw [eo]; exact eb, by rw [eo]; exact q⟩
        | exc x => obtain ⟨b, C, tb, e, ec, q⟩ := a; exact ⟨b, C, tb, e, ec, by rw [eo]; exact q⟩
        | dtt kvs => obtain ⟨b, vs, e, eb, q⟩ := a; exact ⟨b, vs, e, by rw [eo]; exact eb, by rw [eo]; exact q⟩
        | own k =>
          obtain ⟨l, e, q⟩ := a
          show SlotR K ⟨L.o.take n, L.o.drop n ++ L.k, L.q⟩ H o (if k < n then .own k else .un)
          by_cases hk : k < n
          · rw [if_pos hk]; exact ⟨l, by show (L.o.take n)[k]? = some l; rw [List.getElem?_take_of_lt hk]; exact e, q⟩
          · rw [if_neg hk]; exact trivial
    exact gen E.sl
  · unfold StoreR
    rw [eo]
    exact pr_take n E.st
theorem EnvR.unhide {K : PySem.W.Frag} {L : OW} {H H' : Hp} {σ : L2.St} {ρ : Rho} {μ μ' : Mu} {n : Nat} (E : EnvR K L H σ ρ μ) (h' : StoreR K ⟨L.o.take n, L.o.drop n ++ L.k, L.q⟩ H' μ') (s : Step ⟨L.o.take n, L.o.drop n ++ L.k, L.q⟩ H ⟨L.o.take n, L.o.drop n ++ L.k, L.q⟩ H') :
    EnvR K L H' σ ρ (μ' ++ μ.drop n) ∧ Step L H L H' ∧ Same (Off ⟨L.o.take n, L.o.drop n ++ L.k, L.q⟩ H') (Off L H') := by
  have st : Step L H L H' := ⟨⟨[], by simp, by simp⟩, ⟨rfl, rfl⟩, fun b o hb hk e => s.keep b o (fun z => hb (List.mem_of_mem_take z)) (fun z => (List.mem_append.mp z).elim (fun z => absurd (List.mem_of_mem_drop z) hb) hk) e, s.grow, fun b q hb hq e => s.tab b q (List.mem_append_right _ hb) hq e⟩
  have sm : Same (Off ⟨L.o.take n, L.o.drop n ++ L.k, L.q⟩ H') (Off L H') := fun b u e => by
    obtain ⟨h1, h2⟩ := off_some.mp e
    refine off_some.mpr ⟨fun z => h1 ?_, h2⟩
    rcases z with z | z
    · rw [← List.take_append_drop n L.o] at z
      rcases List.mem_append.mp z with z | z
      · exact .inl z
      · exact .inr (List.mem_append_left _ z)
    · exact .inr (List.mem_append_right _ z)
  refine ⟨E.step st ?_, st, sm⟩
  have h1 : Paired (fun l ds => ∃ vs, H' l = some (.lst vs) ∧ DpAll K (Off L H') vs ds) (L.o.take n) μ' := pr_imp (fun l ds ⟨vs, e, q⟩ => ⟨vs, e, q.mono sm⟩) h'
  have h2 : ∀ {Ls : List Addr} {ms : Mu} (j : Nat), Ls.Nodup → (∀ l ∈ Ls.drop j, l ∉ L.o.take n) → Paired (fun l ds => ∃ vs, H l = some (.lst vs) ∧ DpAll K (Off L H) vs ds) Ls ms → Paired (fun l ds => ∃ vs, H' l = some (.lst vs) ∧ DpAll K (Off L H') vs ds) (Ls.drop j) (ms.drop j) := fun {Ls ms} j nd hl hp => by
    have hd : Paired (fun l ds => ∃ vs, H l = some (.lst vs) ∧ DpAll K (Off L H) vs ds) (Ls.drop j) (ms.drop j) := by
      clear hl nd
      induction j generalizing Ls ms with
      | zero => exact hp
      | succ j ih =>
        cases hp with
        | nil => exact .nil
        | cons a r => exact ih r
    exact pr_imp_mem (fun l ds hm ⟨vs, e, q⟩ => ⟨vs, s.keep l _ (hl l hm) (fun _ => ⟨_, rfl⟩) e, q.mono st.same⟩) hd
  have h3 := h2 n E.nd.1 (fun l hl z => by
    have := E.nd.1
    rw [← List.take_append_drop n L.o] at this
    exact (List.nodup_append.mp this).2.2 l z l hl rfl) E.st
  have := pr_app h1 h3
  rw [List.take_append_drop] at this
  exact this
def ItO (K : PySem.W.Frag) (J : It) (ds : List PyData) (l : Addr) (vs : List V) (L : OW) (H : Hp) : Prop := ∀ (L' : OW) (H1 : Hp), Same (Off L H) (Off L' H1) → Own L' H1 → H1 l = some (.lst vs) → ∀ i,
  (i < ds.length → J.go i H1 ∧ ∀ x H2, J.yld i H1 x H2 → Same H1 H2 ∧ ∃ d, ds[i]? = some d ∧ Dp K (Off L' H2) x d) ∧ (ds.length ≤ i → J.stop i H1)
theorem ito_list {K : PySem.W.Frag} {L : OW} {H : Hp} {l : Addr} {vs : List V} {ds : List PyData} (q : DpAll K (Off L H) vs ds) : ItO K (Itl K l) ds l vs L H := fun L' H1 sm _ hl i => by
  have s1 : SqL K H1 l vs := SqL.of hl
  refine ⟨fun hi => ?_, fun hi => ⟨vs, s1, by rw [dps_len q]; exact hi⟩⟩
  have e : ds[i]? = some ds[i] := List.getElem?_eq_getElem hi
  obtain ⟨v, ev, dv⟩ := dps_get q e
  refine ⟨⟨vs, v, s1, ev⟩, fun x H2 ⟨e2, y⟩ => ?_⟩
  subst e2
  refine ⟨Same.refl _, _, e, ?_⟩
  have := y vs s1
  rw [ev] at this; cases this
  exact dv.mono sm
def fLcN (i : Nat) (g : FG) (tt : FT) (te : FE) (vs : List Nat) : FF := fun ρ μ => match ρ[i]? with
  | some (.own k) => opt (μ[k]?) fun ds => if ds.length ≤ sizeLine then bnd (lcF g tt te (wipeR (hideR k ρ) vs) ds (μ.take k)) fun out m => some (out, m ++ μ.drop k) else none
  | _ => none
end
theorem lc_own {K : PySem.W.Frag} {g : FG} {is vs : List Nat} {tt : FT} {te : FE} (hv : ∀ i ∈ is, i ∈ vs) {L : OW} {ρ : Rho} {m μ' : Mu} {ds out : List PyData} {σ : L2.St} {H1 : Hp} {J : It} {l : Addr} {ws : List V} {D : Addr} {Q : Hp → Prop} (E1 : EnvR K L H1 σ ρ m) (hsz : ds.length ≤ sizeLine)
    (ef : lcF g tt te (wipeR ρ vs) ds m = some (out, μ')) (hJ : ItO K J ds l ws L H1) (hlo : l ∉ L.o) (hl1 : H1 l = some (.lst ws)) (hD : H1 D = none)
    (k : ∀ xs H', EnvR K L H' σ ρ μ' → Step L H1 L H' → H' D = none → DpAll K (Off L H') xs out → Q (upd H' D (.lst xs))) :
    ∃ W : Nat → Nat → Hp → Prop, (∃ m, W 0 m (upd H1 D (.lst []))) ∧ ∀ i m H, W i m H →
      (J.stop i H ∧ Q H) ∨ (J.go i H ∧ ∃ Nx : Hp → Prop, (∀ H', Nx H' → ∃ m', m' < m ∧ W (i + 1) m' H') ∧ ∀ x H', J.yld i H x H' → tDG K is g x (wipe σ vs) H' fun σ2 H2 => wipe σ2 vs = wipe σ vs ∧ tDT K tt σ2 H2 fun b H3 =>
        if b = true then tD K te σ2 H3 fun y H4 => ∃ acc, H4 D = some (.lst acc) ∧ acc.length < sizeLine ∧ Nx (upd H4 D (.lst (acc ++ [y]))) else Nx H3) := by
  have hDo : D ∉ L.o := fun z => E1.own D (.inl z) hD
  -- what stands at turn i: the heap is some H' with D's list laid upon it
  refine ⟨fun i n H2 => n = ds.length - i ∧ i ≤ ds.length ∧ ∃ H' μ2 acc xs rest, H2 = upd H' D (.lst xs) ∧ H' D = none ∧ EnvR K L H' σ ρ μ2 ∧ Step L H1 L H' ∧ DpAll K (Off L H') xs acc ∧ acc.length ≤ i ∧
    lcF g tt te (wipeR ρ vs) (ds.drop i) μ2 = some (rest, μ') ∧ out = acc ++ rest, ⟨ds.length, by simp, Nat.zero_le _, H1, m, [], [], out, rfl, hD, E1, Step.refl _ _, .nil, Nat.le_refl _, by simpa using ef, rfl⟩, ?_⟩
  rintro i n H2 ⟨rfl, hi, H', μ2, acc, xs, rest, rfl, hD', E', s', qa, hacc, ef', eout⟩
  have EL := E'.lock (ys := xs) hD'
  have smL : Same (Off L H') (Off ⟨L.o, D :: L.k, L.q⟩ (upd H' D (.lst xs))) := fun b u e => by
    obtain ⟨h1, h2⟩ := off_some.mp e
    refine off_some.mpr ⟨fun z => ?_, same_upd hD' b u h2⟩
    rcases z with z | z
    · exact h1 (.inl z)
    · rcases List.mem_cons.mp z with z | z
      · subst z; rw [hD'] at h2; cases h2
      · exact h1 (.inr z)
  have hl2 : (upd H' D (.lst xs)) l = some (.lst ws) := by rw [upd_ne (ne_of_none hl1 hD)]; exact s'.keep l _ hlo (fun _ => ⟨_, rfl⟩) hl1
  have hJ' := hJ ⟨L.o, D :: L.k, L.q⟩ (upd H' D (.lst xs)) (s'.same.trans smL) EL.own hl2 i
  by_cases hlt : i < ds.length
  case neg =>
    have e : i = ds.length := by omega
    subst e
    refine .inl ⟨hJ'.2 (Nat.le_refl _), ?_⟩
    rw [List.drop_length] at ef'
    cases ef'
    rw [List.append_nil] at eout
    subst eout
    exact k xs H' E' s' hD' qa
  refine .inr ⟨(hJ'.1 hlt).1, fun H2 => i + 1 ≤ ds.length ∧ ∃ H' μ2 acc xs rest, H2 = upd H' D (.lst xs) ∧ H' D = none ∧ EnvR K L H' σ ρ μ2 ∧ Step L H1 L H' ∧ DpAll K (Off L H') xs acc ∧ acc.length ≤ i + 1 ∧
    lcF g tt te (wipeR ρ vs) (ds.drop (i + 1)) μ2 = some (rest, μ') ∧ out = acc ++ rest, fun H2 ⟨h1, h2⟩ => ⟨ds.length - (i + 1), by omega, rfl, h1, h2⟩, fun x H3 y => ?_⟩
  obtain ⟨sm3, d, ed, dx⟩ := (hJ'.1 hlt).2 x H3 y
  rw [drop_get ed] at ef'
  obtain ⟨ρ1, eg, ef2⟩ := opt_some ef'
  obtain ⟨bt, m1, et, ef3⟩ := bnd_some ef2
  have E3 := (EL.same sm3).wipe vs
  -- the heap without D
  have drop : ∀ {H5 : Hp} {ws : List V}, Step ⟨L.o, D :: L.k, L.q⟩ (upd H' D (.lst xs)) ⟨L.o, D :: L.k, L.q⟩ H5 → H5 D = some (.lst ws) →
      ∃ H6 : Hp, H6 D = none ∧ H5 = upd H6 D (.lst ws) ∧ Step L H1 L H6 ∧ (∀ b u, ¬ (⟨L.o, D :: L.k, L.q⟩ : OW).has b → H5 b = some u → ¬ L.has b ∧ H6 b = some u) ∧ (∀ b u, b ≠ D → H5 b = some u → H6 b = some u) := fun {H5 ws} s5 h5 => by
    refine ⟨fun b => if b = D then none else H5 b, by simp, ?_, ?_, ?_, ?_⟩
    · funext b
      unfold upd
      by_cases hb : b = D
      · subst hb; simp [h5]
      · simp [hb]
    · refine s'.trans ⟨⟨[], by simp, by simp⟩, ⟨rfl, rfl⟩, fun b o hb hk e => ?_, fun b e => ?_, fun b q hb hq e => ?_⟩
      rotate_right
      · exact tab_keep h5 (fun _ z => nomatch z) (fun _ z => nomatch z) (fun c u hc z => by show (if c = D then none else H5 c) = some u; rw [if_neg hc]; exact z) (s5.tab b q (List.mem_cons_of_mem _ hb) hq (tab_same (same_upd hD') e))
      · have hbD : b ≠ D := fun z => by subst z; rw [hD'] at e; cases e
        show (if b = D then none else H5 b) = some o
        rw [if_neg hbD]
        exact s5.keep b o hb (fun z => (List.mem_cons.mp z).elim (fun z => absurd z hbD) hk) (by rw [upd_ne hbD]; exact e)
      · by_cases hb : b = D
        · subst hb; exact hD'
        · have e' : H5 b = none := by
            have e0 : (if b = D then none else H5 b) = none := e
            rw [if_neg hb] at e0; exact e0
          have := s5.grow b e'
          rw [upd_ne hb] at this; exact this
    · intro b u hb e
      have hbD : b ≠ D := fun z => hb (.inr (by rw [z]; exact List.mem_cons_self))
      exact ⟨fun z => hb (z.elim .inl fun z => .inr (List.mem_cons_of_mem _ z)), by show (if b = D then none else H5 b) = some u; rw [if_neg hbD]; exact e⟩
    · intro b u hb e
      show (if b = D then none else H5 b) = some u
      rw [if_neg hb]; exact e
  have envd : ∀ {H5 H6 : Hp} {σ5 : L2.St} {ρ5 : Rho} {μ5 : Mu}, EnvR K ⟨L.o, D :: L.k, L.q⟩ H5 σ5 ρ5 μ5 → (∀ b u, ¬ (⟨L.o, D :: L.k, L.q⟩ : OW).has b → H5 b = some u → ¬ L.has b ∧ H6 b = some u) → (∀ b u, b ≠ D → H5 b = some u → H6 b = some u) → Step L H1 L H6 → EnvR K L H6 σ ρ μ5 := fun {H5 H6 σ5 ρ5 μ5} E5 hs ha s6 => by
    have sm : Same (Off ⟨L.o, D :: L.k, L.q⟩ H5) (Off L H6) := fun b u e => by
      obtain ⟨h1, h2⟩ := off_some.mp e
      exact off_some.mpr (hs b u h1 h2)
    refine E1.step s6 ?_
    refine pr_imp_mem (fun l ds hl ⟨ws, e, q⟩ => ⟨ws, ha l _ (fun z => hDo (by rw [← z]; exact hl)) e, q.mono sm⟩) E5.st
  have dof : ∀ {H5 H6 : Hp}, (∀ b u, ¬ (⟨L.o, D :: L.k, L.q⟩ : OW).has b → H5 b = some u → ¬ L.has b ∧ H6 b = some u) → Same (Off ⟨L.o, D :: L.k, L.q⟩ H5) (Off L H6) := fun {H5 H6} hs b u e => by
    obtain ⟨h1, h2⟩ := off_some.mp e
    exact off_some.mpr (hs b u h1 h2)
  refine ⟨⟨L.o, D :: L.k, L.q⟩, wipeR ρ vs, μ2, d, ρ1, E3, dx, eg, fun σ4 b4 E4 => ⟨wipe_but hv b4, ⟨⟨L.o, D :: L.k, L.q⟩, ρ1, μ2, bt, m1, E4, et, fun H5 E5 s5 => ?_⟩⟩⟩
  have st5 : Step ⟨L.o, D :: L.k, L.q⟩ (upd H' D (.lst xs)) ⟨L.o, D :: L.k, L.q⟩ H5 := (Step.of_same sm3).trans s5
  have hD5 : H5 D = some (.lst xs) := st5.keep D _ hDo (fun _ => ⟨_, rfl⟩) upd_same
  cases bt with
  | false =>
    rw [if_neg (by decide)] at ef3
    refine iteF ?_
    obtain ⟨H6, h6, e6, s6, hs6, ha6⟩ := drop st5 hD5
    refine ⟨hlt, H6, m1, acc, xs, rest, e6, h6, envd E5 hs6 ha6 s6, s6, (qa.mono (smL.trans st5.same)).mono (dof hs6), by omega, ef3, eout⟩
  | true =>
    rw [if_pos rfl] at ef3
    refine iteT ?_
    obtain ⟨y, m2, ey, ef4⟩ := bnd_some ef3
    obtain ⟨ys, m3, eys, ef5⟩ := bnd_some ef4
    cases ef5
    refine ⟨⟨L.o, D :: L.k, L.q⟩, ρ1, m1, y, m2, E5, ey, fun v H7 E7 s7 q7 => ?_⟩
    have st7 := st5.trans s7
    have hD7 : H7 D = some (.lst xs) := st7.keep D _ hDo (fun _ => ⟨_, rfl⟩) upd_same
    have hlx := dps_len qa
    refine ⟨xs, hD7, by omega, hlt, ?_⟩
    obtain ⟨H6, h6, e6, s6, hs6, ha6⟩ := drop st7 hD7
    refine ⟨H6, m2, acc ++ [y], xs ++ [v], ys, ?_, h6, envd E7 hs6 ha6 s6, s6, dps_app ((qa.mono (smL.trans st7.same)).mono (dof hs6)) (.cons (q7.mono (dof hs6)) .nil), by simp; omega, eys, by rw [eout]; simp⟩
    rw [e6, upd_upd]
section
variable {X : Cx} {tg e a b o : Expr} {pos p apos p2 : Pos} {f te : FE} {tt : FT}
theorem d_lcN {g : FG} {is vs : List Nat} {i : Nat} (hv : ∀ i ∈ is, i ∈ vs) : ∀ L ρ μ ds μ' σ H Q, EnvR X.K L H σ ρ μ → fLcN i g tt te vs ρ μ = some (ds, μ') → (∀ p xs H', EnvR X.K L H' σ ρ μ' → Step L H L H' → H' p = none → DpAll X.K (Off L H') xs ds → Q (.ref p) (upd H' p (.lst xs))) →
    tLc (iList X.K (tVar i)) (tDG X.K is g) (tDT X.K tt) (tD X.K te) vs σ H Q := fun L ρ μ out μ' σ H Q E ef kk => by
  unfold fLcN at ef
  split at ef
  · rename_i k er
    obtain ⟨ds, e1, ef⟩ := opt_some ef
    split at ef
    · rename_i hsz
      obtain ⟨out', m, e2, ef⟩ := bnd_some ef
      cases ef
      obtain ⟨ov, eo, l, el, rfl⟩ := pr_get E.sl er
      obtain ⟨ws, hH, q⟩ := E.at e1 el
      have eO : ∀ {x : V}, True := fun {_} => trivial
      have Eh := E.hide k
      have qh : DpAll X.K (Off ⟨L.o.take k, L.o.drop k ++ L.k, L.q⟩ H) ws ds := by
        obtain ⟨_, _, sm⟩ := E.unhide (n := k) (H' := H) Eh.st (Step.refl _ _)
        refine q.mono fun b u z => ?_
        obtain ⟨h1, h2⟩ := off_some.mp z
        refine off_some.mpr ⟨fun z => h1 ?_, h2⟩
        rcases z with z | z
        · exact .inl (List.mem_of_mem_take z)
        · rcases List.mem_append.mp z with z | z
          · exact .inl (List.mem_of_mem_drop z)
          · exact .inr z
      have hlo : l ∉ L.o.take k := fun z => by
        obtain ⟨j, hj⟩ := List.getElem?_of_mem z
        have hjk : j < k := by
          have := (List.getElem?_eq_some_iff.mp hj).1
          rw [List.length_take] at this; omega
        rw [List.getElem?_take_of_lt hjk] at hj
        have := nd_ix E.nd.1 hj el
        omega
      refine ⟨_, eo, l, rfl, ⟨ws, SqL.of hH⟩, fun D hD => ?_⟩
      refine lc_own (K := X.K) (Q := fun H => Q (.ref D) H) hv Eh hsz e2 (ito_list qh) hlo hH hD fun xs H' E' s' hD' qx => ?_
      obtain ⟨E2, s2, sm⟩ := E.unhide E'.st s'
      exact kk D xs H' E2 s2 hD' (qx.mono sm)
    · cases ef
  · cases ef
def fLcND (i : Nat) (g : FG) (tt : FT) (te : FE) (vs : List Nat) : FE := fun ρ μ => bnd (fLcN i g tt te vs ρ μ) fun ds m => some (.list ds, m)
theorem de_lcN {elt : Expr} {i : Nat} {y : Str} {ifs : List Expr} {scope : Scope} {own : List (Str × Nat)} {g : FG} {is : List Nat} (hc : X.calm = true) (hN : X.N.Nodup) (hi : X.N[i]? = some y) (hvy : Vis X.env.scope y) (ok : BlkOk X.N X.env.scope scope own)
    (hg : ∀ (s : Shared) (H : Hp) (C : Addr) (cl : List (Str × Addr)) (fp : List Addr), DG (X.blk s H scope (compEnvC scope cl C X.env) fp) tg is g) (ht : ∀ (s : Shared) (H : Hp) (C : Addr) (cl : List (Str × Addr)) (fp : List Addr), DTs (X.blk s H scope (compEnvC scope cl C X.env) fp) ifs tt)
    (he : ∀ (s : Shared) (H : Hp) (C : Addr) (cl : List (Str × Addr)) (fp : List Addr), DE (X.blk s H scope (compEnvC scope cl C X.env) fp) elt te) (hv : ∀ i ∈ is, i ∈ own.map (·.2)) (hd : (y == ("__debug__" : Str)) = false := by decide) (hcd : (y == ("__classdict__" : Str)) = false := by decide)
    (hs : ∀ x, foldedSetIterable (.Name y p2) X.env x = pure x := by intro _; rfl) :
    DE X (.ListComp elt [⟨tg, .Name y p2, ifs, 0⟩] scope pos) (fLcND i g tt te (own.map (·.2))) := DE.of (pe_lc (wi := iList X.K (tVar i)) (g := tDG X.K is g) (tt := tDT X.K tt) (te := tD X.K te) hc hN (pi_list (pe_var hi hvy hd hcd)) ok hg ht he hs) fun L ρ μ d μ' σ H Q E ef k => by
  obtain ⟨ds, m, e1, ef⟩ := bnd_some ef
  cases ef
  refine d_lcN hv L ρ μ ds _ σ H Q E e1 fun p xs H' E' s' hp q => ?_
  exact k _ _ (E'.same (same_upd hp)) (s'.trans (Step.of_same (same_upd hp))) (new_lst E'.own hp q)
end
end DL
namespace DL
open PySem PySem.Spec PyProof.Rows L2
variable [Tabs]
section
open PySem.SeqAt PySem.MeetsSeq PySem.MeetsSeq2 PySem.MeetsSeq3
open PySem.AutoSeq1 (wpAny_loadPart')
end
end DL
namespace DL
open PySem PySem.Spec PyProof.Rows L2
variable [Tabs]
end DL
namespace DL
open PySem PySem.Spec PyProof.Rows L2
variable [Tabs]
def uqs : List Str → List Str → List Str
  | acc, [] => acc
  | acc, x :: r => uqs (if x ∈ acc then acc else acc ++ [x]) r
section
variable {prog : Program} {w : World} {A : Around} {R : Result → Shared → Prop} {I : Addr} {fp wr : List Addr} {G : Array GenState → Array GenState → Prop} {n : Nat} {P : Nat → Value → Prop} {St : Nat → Shared → Prop}
theorem setOf_to {K : Type} [DecidableEq K] {knd : PySem.KeyKind prog w K} {h : Heap} {a : Addr} {S S' : K → Bool} {n n' : Nat} (hS : h.SetOf knd a S n) (e : S = S') (en : n = n') : h.SetOf knd a S' n' := by
  subst e en; exact hS
theorem set_loopT (W : WalksS prog w A.in1 I fp wr G n P St) (T : Addr) (hT : T ∉ fp) (xs : List Str) (hx : xs.length = n) (hval : ∀ (i : Nat) (v : Value), P i v → ∃ (x : Str) (t : Tok), xs[i]? = some x ∧ v = .str x t) (hb : n + 1 < scanBound) :
    ∀ (k i : Nat) (acc : List Str) (s : Shared), n - i = k → i ≤ n → acc.length ≤ i → St i s → s.heap.SetOf (PySem.strKind prog w) T (fun k' => decide (k' ∈ acc)) acc.length →
      (∀ s', Moved (T :: wr) G s s' → s'.heap.SetOf (PySem.strKind prog w) T (fun k' => decide (k' ∈ uqs acc (xs.drop i))) (uqs acc (xs.drop i)).length → R (.ok (.ret .none)) s') →
      codeAny (model prog w) A (.builtin "set.update.loop" ⟨[.ref T, .ref I], []⟩) R s := by
  have hTw : T ∉ wr := fun h => hT (W.sub _ h)
  have hsub : ∀ b ∈ wr, b ∈ T :: wr := fun b hb => List.mem_cons_of_mem _ hb
  intro k
  induction k with
  | zero =>
    intro i acc s hk hi ha hst hS hR
    obtain rfl : i = n := by omega
    refine codeAny_builtin PyProof.Rows.F.entry_set_update_loop ?_
    rw [Around.under_plainId PyProof.Rows.F.plain_set_update_loop _]
    show wpAny _ A.in1 (pyNext (.ref I) >>= _) _ _ s
    refine wpAny_bind (W.done s _ _ hst fun s' hm => ?_)
    show wpAny _ A.in1 (ret Value.none) _ _ s'
    rw [List.drop_eq_nil_of_le (by omega)] at hR
    obtain ⟨o, es, ep, t, ho, rest⟩ := hS
    exact wpAny_pure (hR s' (hm.mono hsub) ⟨o, es, ep, t, hm.heap T _ hTw ho, rest⟩)
  | succ k ih =>
    intro i acc s hk hi ha hst hS hR
    have hlt : i < n := by omega
    refine codeAny_builtin PyProof.Rows.F.entry_set_update_loop ?_
    rw [Around.under_plainId PyProof.Rows.F.plain_set_update_loop _]
    show wpAny _ A.in1 (pyNext (.ref I) >>= _) _ _ s
    refine wpAny_bind (W.item i s _ _ hlt hst fun v s' hP hst' hm => ?_)
    obtain ⟨x, t, ex, rfl⟩ := hval i v hP
    obtain ⟨o, es, ep, tb, ho, rest⟩ := hS
    have hS' : s'.heap.SetOf (PySem.strKind prog w) T (fun k' => decide (k' ∈ acc)) acc.length := ⟨o, es, ep, tb, hm.heap T _ hTw ho, rest⟩
    have hdr : xs.drop i = x :: xs.drop (i + 1) := by
      obtain ⟨h1, h2⟩ := List.getElem?_eq_some_iff.mp ex
      rw [← h2]; exact List.drop_eq_getElem_cons h1
    rw [hdr] at hR
    have his : (PySem.strKind prog w).is x (.str x t) = true := by show Value.isStrOf x (.str x t) = true; simp [Value.isStrOf]
    show wpAny _ A.in1 (holding [Value.str x t] (setAdd T (.str x t)) >>= _) _ _ s'
    refine wpAny_bind (wpAny_holding ?_)
    unfold setAdd
    refine wpAny_holding ?_
    refine wpAny_bind ((PySem.strKind prog w).pyHash (k := x) his ?_)
    refine wpAny_setAddHashed_of (knd := PySem.strKind prog w) (s := { s' with toks := s'.toks + 1 }) his rfl hS' (by omega) fun h' hsb hS2 => ?_
    have hSi : h'.SetOf (PySem.strKind prog w) T (fun k' => decide (k' ∈ if x ∈ acc then acc else acc ++ [x])) (if x ∈ acc then acc else acc ++ [x]).length := by
      refine setOf_to hS2 ?_ ?_
      · funext k'
        by_cases hm : x ∈ acc
        · by_cases hk : k' = x
          · subst hk; simp [hm]
          · simp [hm, hk]
        · simp [hm]
      · by_cases hm : x ∈ acc
        · simp [hm]
        · simp [hm]
    have hal : (if x ∈ acc then acc else acc ++ [x]).length ≤ i + 1 := by
      split
      · omega
      · simp; omega
    refine wpAny_pure ⟨plainId_quiet PyProof.Rows.F.plain_set_update_loop _, ih (i + 1) _ _ (by omega) hlt hal (W.frame _ s' _ _ hst' (Nat.le_succ _) fun b hb o e => ?_) hSi fun s2 hm2 hS3 => ?_⟩
    · rw [hsb.2 b (fun h : b = T => hT (by rw [← h]; exact hb))]; exact e
    · refine hR s2 (Moved.trans W.gtrans ((hm.mono hsub).then_heap (Nat.le_succ _) fun b o hb e => ?_) hm2) hS3
      rw [hsb.2 b (fun h : b = T => hb (by rw [h]; exact List.mem_cons_self))]; exact e
end
section
variable {prog : Program} {w : World} {A : Around} {E : Value → Shared → Prop} {s : Shared}
set_option maxHeartbeats 3200000 in
theorem call_setT {l : Addr} {items : Array Value} {xs : List Str} {Q : Value → Shared → Prop} (hh : A.handled = none) (hl : s.heap.IsList l items) (hx : xs.length = items.size) (hi : ∀ (i : Nat) (v : Value), items[i]? = some v → ∃ (x : Str) (t : Tok), xs[i]? = some x ∧ v = .str x t) (hb : items.size + 1 < scanBound)
    (h : ∀ (h' : Heap) (tk : Nat), h'.SetOf (PySem.strKind prog w) s.heap.objs.size (fun k' => decide (k' ∈ uqs [] xs)) (uqs [] xs).length →
      (∀ b o, b < s.heap.objs.size → s.heap.get? b = some o → h'.get? b = some o) → Q (.ref s.heap.objs.size) { s with heap := h', toks := tk }) :
    wpAny (model prog w) A (call (.type "set") [.ref l]) Q E s := by
  obtain ⟨c, tl, hmro⟩ := F.called_set.mro
  have hmade := F.called_set.made
  have hsub := F.called_set.sub
  refine wpAny_call (codeAny_of_tree ?_)
  show wpAny _ _ (callAny (.type "set") _) _ _ _
  refine wpAny_pure ⟨Code.quiet_builtin _ (by decide +kernel), codeAny_builtin F.entry_type_call ?_⟩
  rw [Around.under_plain (weight_type_call_type "set" [.ref l] []) rfl]
  have h1 := F.called_set.notType
  have h2 := F.called_set.canCreate
  have hct := F.typeCall_set_1 (.ref l)
  repeat (any_goals (first | assumption | wp_step))
  refine codeAny_mono (code_set_new_1 (.ref l) (E := E) (Q₁ := fun obj z => ∃ led : Bool, obj = .ref s.heap.objs.size ∧ z = { s with heap := s.heap.push { cls := .type "set", dict := none, data := .set #[] 0 (.fresh 0 0 led) } }) fun led => ⟨led, rfl, rfl⟩) fun r z hr => ?_
  cases r with
  | error e => exact hr
  | ok fl =>
    cases fl with
    | ret obj =>
      obtain ⟨led, rfl, rfl⟩ := hr
      have hS : (s.heap.push { cls := .type "set", dict := none, data := .set #[] 0 (.fresh 0 0 led) }).get? s.heap.objs.size = some { cls := .type "set", dict := none, data := .set #[] 0 (.fresh 0 0 led) } := Heap.get?_push_size _ rfl
      have hT : Shared.TypeIs { s with heap := s.heap.push { cls := .type "set", dict := none, data := .set #[] 0 (.fresh 0 0 led) } } (.ref s.heap.objs.size) "set" := ⟨_, hS, rfl⟩
      have hli := F.called_set.init.lookup
      have hbi := F.called_set.init.bind (.ref s.heap.objs.size)
      repeat (any_goals (first | assumption | wp_step))
      refine codeAny_mono (codeAny_call_builtin (R := wants (fun r z => r = .none ∧ ∃ h' tk, z = { s with heap := h', toks := tk } ∧
          h'.SetOf (PySem.strKind prog w) s.heap.objs.size (fun k' => decide (k' ∈ uqs [] xs)) (uqs [] xs).length ∧
          (∀ b o, b < s.heap.objs.size → s.heap.get? b = some o → h'.get? b = some o)) E) F.called_set.init.plain F.entry_set_init (check_set_init_1 hT ?_)) fun r2 z2 hr2 => ?_
      · obtain ⟨⟨ocls, odict, odata, oslots⟩, hol, hcl, nl, hdl⟩ := hl
        simp only at hcl hdl
        subst hcl; subst hdl
        have hol' : (s.heap.push { cls := .type "set", dict := none, data := .set #[] 0 (.fresh 0 0 led) }).get? l = some { cls := .type "list", dict := odict, data := .seq items nl, slots := oslots } := Heap.get?_push_of_some _ hol
        have hsls := F.sub_list_set
        have hslf := F.sub_list_frozenset
        have hne : (Value.type "list" == Value.type "dict") = false := by decide
        have hl1 : (s.heap.push { cls := .type "set", dict := none, data := .set #[] 0 (.fresh 0 0 led) }).IsList l items := ⟨_, hol', rfl, nl, rfl⟩
        unfold Builtin.«set.__init__» noKeywords Builtin.Frozenset.updateFrom
        generalize hPI : pyIter = PI
        wp_walk
        subst hPI
        refine wpAny_pyIter_list hl1 ?_
        refine wpAny_bind (wpAny_runValue ?_)
        have hlS : l < s.heap.objs.size := Heap.lt_size hol
        have hh3 : A.in1.in1.in1.handled = none := by simp [hh]
        have hneI : l ≠ (s.heap.push { cls := .type "set", dict := none, data := .set #[] 0 (.fresh 0 0 led) }).objs.size := by
          rw [Heap.size_push]; exact Nat.ne_of_lt (Nat.lt_succ_of_lt hlS)
        have hSf : s.heap.objs.size ∉ [(s.heap.push { cls := .type "set", dict := none, data := .set #[] 0 (.fresh 0 0 led) }).objs.size, l] := by
          rw [Heap.size_push]; simp only [List.mem_cons, List.mem_singleton, List.not_mem_nil, or_false, not_or]
          exact ⟨Nat.ne_of_lt (Nat.lt_succ_self _), Nat.ne_of_gt hlS⟩
        refine set_loopT ((Walks.list hh3 _ l hneI items).toS) s.heap.objs.size hSf xs hx hi hb (items.size - 0) 0 [] _ (by omega) (Nat.zero_le _) (Nat.le_refl _) ⟨⟨_, Heap.get?_push_size _ rfl, rfl, rfl⟩, (hl1.push _)⟩ ?hS0 ?hR
        case hS0 =>
          have hget : ((s.heap.push { cls := .type "set", dict := none, data := .set #[] 0 (.fresh 0 0 led) }).push { cls := .type "list_iterator", data := .fields #[.ref l, .int 0 0] }).get? s.heap.objs.size
              = some { cls := .type "set", dict := none, data := .set #[] 0 (.fresh 0 0 led) } := Heap.get?_push_of_some _ hS
          exact setOf_to ((setObjOf_fresh (knd := PySem.strKind prog w) led).setOf hget (by unfold scanBound; omega)) (by funext k'; simp) rfl
        case hR =>
          intro s' hm hS'
          obtain ⟨h', g', d', tk', os'⟩ := s'
          have eg : g' = s.gens := hm.gens
          have ed : d' = s.drawn := hm.drawn
          have eo : os' = s.os := hm.os
          subst eg; subst ed; subst eo
          show wpAny _ _ _ _ _ _
          refine wpAny_pure ?_
          show wpAny _ _ (ret Value.none) _ _ _
          refine wpAny_pure ⟨rfl, h', tk', rfl, hS', fun b o hb e => ?_⟩
          have hb1 : b ≠ s.heap.objs.size := Nat.ne_of_lt hb
          have hb2 : b ≠ (s.heap.push { cls := .type "set", dict := none, data := .set #[] 0 (.fresh 0 0 led) }).objs.size := by
            rw [Heap.size_push]; exact Nat.ne_of_lt (Nat.lt_succ_of_lt hb)
          exact hm.heap b o (by simp only [List.mem_cons, List.mem_singleton, List.not_mem_nil, or_false, not_or]; exact ⟨hb1, hb2⟩) (Heap.get?_push_of_some _ (Heap.get?_push_of_some _ e))
      · cases r2 with
        | error e => exact hr2
        | ok fl2 =>
          cases fl2 with
          | ret r =>
            obtain ⟨rfl, h', tk, rfl, hS', hk'⟩ := hr2
            repeat (any_goals (first | assumption | wp_step))
            exact h _ _ hS' hk'
          | _ => exact hr2.elim
    | _ => exact hr.elim
end
end DL
namespace DL
open PySem PySem.Spec PyProof.Rows L2
variable [Tabs]
section
variable {X : Cx} {tg e a b o : Expr} {es : List Expr} {pos p apos p2 pos2 : Pos} {f fa fb te fo : FE} {tt : FT} {fs : FA}
def SetX (P : Program) (w : World) (p : Addr) (ss : List Str) : HO := .ext fun h => h.SetOf (PySem.strKind P w) p (fun k => decide (k ∈ uqs [] ss)) (uqs [] ss).length
def rSetT (P : Program) (w : World) (K : PySem.W.Frag) : List V → Hp → VK → Prop := fun xs H Q => ∃ (a : Addr) (ss : List Str), xs = [V.ref a] ∧ SqL K H a (ss.map V.str) ∧ ss.length + 1 < scanBound ∧ ∀ p, H p = none → Q (.ref p) (upd H p (SetX P w p ss))
theorem strs_get {H : Hp} : ∀ {ss : List Str} {us : List Value} {i : Nat} {v : Value}, Vals (ss.map V.str) us → us[i]? = some v → ∃ (x : Str) (t : Tok), ss[i]? = some x ∧ v = .str x t
  | [], _, _, _, r, e => by cases r; simp at e
  | x :: ss, _, 0, v, r, e => by
    cases r with
    | cons r1 r2 =>
      obtain ⟨t, rfl⟩ := r1
      simp at e; subst e
      exact ⟨x, t, rfl, rfl⟩
  | x :: ss, _, i + 1, v, r, e => by
    cases r with
    | cons r1 r2 =>
      obtain ⟨y, t, e1, e2⟩ := strs_get (H := H) (i := i) r2 (by simpa using e)
      exact ⟨y, t, by simpa using e1, e2⟩
theorem call_setR (hc : X.calm = true) : CallR X (.type "set") (rSetT X.prog X.w X.K) := by
  intro pins s σ H xs us Q I r h
  obtain ⟨a, ss, rfl, hq, hb, k⟩ := h
  obtain ⟨u, rfl, ru⟩ := vals1 r
  cases ru
  obtain ⟨its, rv, pl, hz⟩ := I.list hq
  have hlen : ss.length = its.toArray.size := by
    have := rv.length
    rw [List.length_map] at this
    simpa using this
  refine call_setT (items := its.toArray) (xs := ss) (I.ok.hd hc) pl.isList hlen (fun i v e => strs_get (H := H) rv (by simpa using e)) (by rw [← hlen]; exact hb) fun h' tk hS hk => ?_
  have fr : H s.heap.objs.size = none := I.fresh
  have hS0 := hS
  obtain ⟨ob, es, ep, t, ho, rest⟩ := hS0
  refine ⟨.ref s.heap.objs.size, upd H s.heap.objs.size (SetX X.prog X.w s.heap.objs.size ss), I.laid (t' := tk) (fun b u q => hk b u (Heap.lt_size q) q) (Nat.le_refl _) ?_, rfl, k _ fr⟩
  refine ⟨hS, ⟨ob, ho⟩, fun h1 h2 q kk => ?_⟩
  obtain ⟨o1, es1, ep1, t1, ho1, rest1⟩ := q
  exact ⟨o1, es1, ep1, t1, kk _ ho1, rest1⟩
def rLenX (P : Program) (w : World) : List V → Hp → VK → Prop := fun xs H Q => ∃ (p : Addr) (ss : List Str), xs = [V.ref p] ∧ H p = some (SetX P w p ss) ∧ Q (.int (uqs [] ss).length) H
theorem call_lenX : CallR X (.builtin "len") (rLenX X.prog X.w) := by
  intro pins s σ H xs us Q I r h
  obtain ⟨p, ss, rfl, hp, q⟩ := h
  obtain ⟨u, rfl, ru⟩ := vals1 r
  cases ru
  obtain ⟨hS, _, _⟩ := I.hok p _ hp
  obtain ⟨ob, es, ep, t, ho, hex, hd, hel, hmem, hb, hf, hn⟩ := hS
  have hb' : es.size < 4096 := hb
  refine call_len_set ho hex hd hf (by omega) ?_
  rw [hn]
  exact ⟨.int _, H, I.tok _, ⟨_, rfl⟩, q⟩
def lenSetD : PyData → Option PyData
  | .list ds => opt (strsOf ds) fun ss => if ss.length + 1 < scanBound then some (.int (uqs [] ss).length) else none
  | _ => none
def fLenSet (f : FE) : FE := fun ρ μ => bnd (f ρ μ) fun d m => fin (lenSetD d) m
theorem de_lenset (hc : X.calm = true) (hl : Gl X "len") (hml : X.mg "len" = none) (hs : Gl X "set") (hms : X.mg "set" = none) (he : DE X e f)
    (h1 : starEach [.Call (.Name "set" p2) [e] [] pos2] X.env = (false, eval (.Call (.Name "set" p2) [e] [] pos2) X.env) :: starEach [] X.env := by rfl) (h2 : starEach [e] X.env = (false, eval e X.env) :: starEach [] X.env := by rfl) :
    DE X (.Call (.Name "len" p) [.Call (.Name "set" p2) [e] [] pos2] [] pos) (fLenSet f) :=
  DE.of (pe_callB (x := "len") call_lenX hl hml (by decide +kernel) (pa_cons (pe_callTy (x := "set") (call_setR hc) hs hms (by decide +kernel) (pa_cons he pa_nil h2) (by decide) (by decide) h2 rfl) pa_nil h1) (by decide) (by decide) h1 rfl) fun L ρ μ d μ' σ H Q E ef k => by
    obtain ⟨d1, m1, e1, ef⟩ := bnd_some ef
    obtain ⟨e2, rfl⟩ := fin_some ef
    refine ⟨L, ρ, μ, d1, _, E, e1, fun v H1 E1 s1 q1 => ?_⟩
    cases d1 with
    | list ds =>
      obtain ⟨ss, e3, e4⟩ := opt_some e2
      split at e4
      · rename_i hb
        cases e4
        obtain ⟨a, xs, rfl, t1, z1⟩ := dp_lst q1
        rw [strsOf_dp z1 e3] at t1
        refine ⟨a, ss, rfl, sqlf t1, hb, fun p hp => ⟨p, ss, rfl, upd_same, ?_⟩⟩
        exact k _ _ (E1.same (same_upd hp)) (s1.trans (Step.of_same (same_upd hp))) (.int _)
      · cases e4
    | _ => cases e2
end
end DL
namespace DL
open PySem PySem.Spec PyProof.Rows L2
variable [Tabs]
theorem runs_toks {M : Model} {Γ : PySem.Ctx} {p : Pos} {t : Sem PySem.Fin} {fs : List Frame} {s s' : Shared} {e : End} (h : Runs M Γ p t fs s e s') : s.toks ≤ s'.toks := by
  induction h <;> first
    | exact Nat.le_refl _
    | assumption
    | (rename_i ih; exact Nat.le_of_succ_le ih)
    | (rename_i ih1 ih2; exact Nat.le_trans ih1 ih2)
    | skip
theorem wakes_toks {M : Model} {Γ : PySem.Ctx} {p : Pos} {g : Nat} {r : Resume} {s s' : Shared} {res : GenResult} (h : Wakes M Γ p g r s res s') : s.toks ≤ s'.toks := by
  unfold Wakes at h
  split at h
  · exact h.elim
  · split at h
    · obtain ⟨e1, s1, hr, _, _, rfl⟩ := h
      have z := runs_toks hr
      exact z
    · obtain ⟨_, rfl⟩ := h; exact Nat.le_refl _
    · obtain ⟨_, rfl⟩ := h; exact Nat.le_refl _
  · obtain ⟨e1, s1, hr, _, _, rfl⟩ := h
    have z := runs_toks hr
    exact z
  · obtain ⟨_, rfl⟩ := h; exact Nat.le_refl _
  · obtain ⟨_, rfl⟩ := h; exact Nat.le_refl _
theorem wp_toks {α : Type} (M : Model) (Γ : PySem.Ctx) (n : Nat) (Q : α → Pos → Shared → Prop) (E : Value → Pos → Shared → Prop) (t : Sem α) : ∀ (p : Pos) (s : Shared), n ≤ s.toks → Sem.wp M Γ t Q E p s →
    Sem.wp M Γ t (fun a p' s' => Q a p' s' ∧ n ≤ s'.toks) (fun e p' s' => E e p' s' ∧ n ≤ s'.toks) p s := by
  induction t with
  | pure a => intro p s hn h; rw [Sem.wp] at h ⊢; exact ⟨h, hn⟩
  | raise e => intro p s hn h; rw [Sem.wp] at h ⊢; exact ⟨h, hn⟩
  | unsupported _ => intro p s hn h; rw [Sem.wp] at h; exact h.elim
  | finish _ => intro p s hn h; rw [Sem.wp] at h; exact h.elim
  | rule tag k ih => intro p s hn h; rw [Sem.wp] at h ⊢; exact ih _ _ _ hn h
  | «at» p' k ih => intro p s hn h; rw [Sem.wp] at h ⊢; exact ih _ _ _ hn h
  | load a part k ih => intro p s hn h; rw [Sem.wp] at h ⊢; obtain ⟨o, ho, h⟩ := h; exact ⟨o, ho, ih _ _ _ hn h⟩
  | update a part f k ih => intro p s hn h; rw [Sem.wp] at h ⊢; exact ⟨h.1, ih _ _ _ hn h.2⟩
  | alloc o k ih => intro p s hn h; rw [Sem.wp] at h ⊢; exact ih _ _ _ hn h
  | loadIfAlive a k ih => intro p s hn h; rw [Sem.wp] at h ⊢; exact ih _ _ _ hn h
  | point l k ih => intro p s hn h; rw [Sem.wp] at h ⊢; exact ih _ _ _ hn h
  | register a k ih => intro p s hn h; rw [Sem.wp] at h; exact h.elim
  | fresh k ih => intro p s hn h; rw [Sem.wp] at h ⊢; exact ih _ _ _ (Nat.le_succ_of_le hn) h
  | ask k ih => intro p s hn h; rw [Sem.wp] at h ⊢; exact ih _ _ _ hn h
  | choose src m k ih => intro p s hn h; rw [Sem.wp] at h ⊢; exact ⟨h.1, ih _ _ _ hn h.2⟩
  | os q l k ih => intro p s hn h; rw [Sem.wp] at h ⊢; exact ih _ _ _ hn h
  | call c hd g l k ih =>
    intro p s hn h
    rw [Sem.wp] at h ⊢
    obtain ⟨r, s', hr, h⟩ := h
    exact ⟨r, s', hr, ih _ _ _ (Nat.le_trans hn (runs_toks hr)) h⟩
  | handled own k ih => intro p s hn h; rw [Sem.wp] at h ⊢; exact ih _ _ _ hn h
  | newGen c k ih => intro p s hn h; rw [Sem.wp] at h ⊢; exact ih _ _ _ hn h
  | genState g k ih => intro p s hn h; rw [Sem.wp] at h ⊢; obtain ⟨st, hs, h⟩ := h; exact ⟨st, hs, ih _ _ _ hn h⟩
  | resume g r l k ih =>
    intro p s hn h
    rw [Sem.wp] at h ⊢
    obtain ⟨res, s', hw, h⟩ := h
    exact ⟨res, s', hw, ih _ _ _ (Nat.le_trans hn (wakes_toks hw)) h⟩
  | yield v g l k ih => intro p s hn h; rw [Sem.wp] at h; exact h.elim
  | stack k ih => intro p s hn h; rw [Sem.wp] at h ⊢; exact ih _ _ _ hn h
  | fork c k ih => intro p s hn h; rw [Sem.wp] at h; exact h.elim
  | thread k ih => intro p s hn h; rw [Sem.wp] at h ⊢; exact ih _ _ _ hn h
  | await => intro p s hn h; rw [Sem.wp] at h; exact h.elim
theorem any_toks {α : Type} {M : Model} {A : Around} {t : Sem α} {Q : α → Shared → Prop} {E : Value → Shared → Prop} {s : Shared} (h : wpAny M A t Q E s) : wpAny M A t (fun a s' => Q a s' ∧ s.toks ≤ s'.toks) E s := fun Γ p hΓ =>
  Sem.wp_mono M Γ t (fun a _ s' z => z) (fun e _ s' z => z.1) p s (wp_toks M Γ s.toks _ _ t p s (Nat.le_refl _) (h Γ p hΓ))
theorem thnT {α : Type} {t : Sem α} {Q Q' : α → Shared → Prop} {M : Model} {A : Around} {E : Value → Shared → Prop} {s : Shared} (h : wpAny M A t Q E s) (h0 : 0 < s.toks) (hQ : ∀ a s', 0 < s'.toks → Q a s' → Q' a s') : wpAny M A t Q' E s :=
  thn (any_toks h) fun a s' ⟨q, l⟩ => hQ a s' (Nat.lt_of_lt_of_le h0 l) q
section
variable {X : Cx} {st : Stmt} {rest body : List Stmt} {e a b c o tg iter : Expr} {es : List Expr} {pos p apos : Pos} {t u tb : TS} {te ta : TE} {tc : TT} {tA : TA}
def PSt (X : Cx) (st : Stmt) (t : TS) : Prop := ∀ (pins : List (Addr × Obj)) (s : Shared) (σ : L2.St) (H : Hp) (D : Ends), Inv X pins σ H s → 0 < s.toks → t D σ H → wpAny (model X.prog X.w) X.A (exec st X.env) (SP X pins D) X.xe s
def PSst (X : Cx) (sts : List Stmt) (t : TS) : Prop := ∀ (pins : List (Addr × Obj)) (s : Shared) (σ : L2.St) (H : Hp) (D : Ends), Inv X pins σ H s → 0 < s.toks → t D σ H → wpAny (model X.prog X.w) X.A (execs sts X.env) (SP X pins D) X.xe s
def PEt (X : Cx) (e : Expr) (t : TE) : Prop := ∀ (pins : List (Addr × Obj)) (s : Shared) (σ : L2.St) (H : Hp) (Q : VK), Inv X pins σ H s → 0 < s.toks → t σ H Q → wpAny (model X.prog X.w) X.A (eval e X.env) (EP X pins σ Q) X.xe s
theorem pst_of (h : PS X st t) : PSt X st t := fun pins s σ H D I _ q => h pins s σ H D I q
theorem psst_of (h : PSs X rest t) : PSst X rest t := fun pins s σ H D I _ q => h pins s σ H D I q
theorem psst_cons (h1 : PSt X st t) (h2 : PSst X rest u) : PSst X (st :: rest) (tSeq t u) := by
  intro pins s σ H D I h0 h
  refine wpAny_execs_cons (thnT (h1 pins s σ H { D with nx := u D } I h0 h) h0 fun f s1 z q => ?_)
  cases f with
  | next => obtain ⟨σ', H', I', q⟩ := q; exact h2 pins s1 σ' H' D I' z q
  | ret v => exact q
  | brk => exact q
  | cont => exact q
theorem psst_one (h1 : PSt X st t) : PSst X [st] t := by
  intro pins s σ H D I h0 h
  refine wpAny_execs_cons (thn (h1 pins s σ H D I h0 h) fun f s1 q => ?_)
  cases f with
  | next => exact wpAny_execs_nil q
  | ret v => exact q
  | brk => exact q
  | cont => exact q
theorem pst_if {x y : List Stmt} (hc : PT X c tc) (ha : PSst X x t) (hb : PSst X y u) : PSt X (.If c x y pos) (tIfS tc t u) := by
  intro pins s σ H D I h0 h
  refine wpAny_If (thnT (hc pins s σ H _ I h) h0 fun d s1 z ⟨H1, I1, q1⟩ => ?_)
  cases d with
  | true => exact ha pins s1 σ H1 D I1 z q1
  | false => exact hb pins s1 σ H1 D I1 z q1
theorem pst_set {i : Nat} {x : Str} {pos' : Pos} (hN : X.N.Nodup) (hi : X.N[i]? = some x) (hx : Loc X.env.scope x) (he : PEt X e te) (hs : swapsWith e (some (.Name x pos')) pos.line X.env = pure false := by rfl) (hf : X.fn x = true ∨ X.env.scope.names.lookup x = some .local := by first | exact .inl rfl | exact .inr rfl | assumption) :
    PSt X (.Assign [.Name x pos'] e pos) (tAsg te (gName i)) := by
  intro pins s σ H D I h0 h
  refine wpAny_Assign_Name (thn (he pins s σ H _ I h0 h) fun v s1 ⟨y, H1, I1, r1, q1⟩ => ?_) hs
  exact store_ok I1 hN hi hx r1 (fun s2 I2 => ⟨_, H1, I2, q1⟩) hf
theorem pst_for {wi : TI} {g : TG} (hp : PassesOwn (model X.prog X.w) X.A X.env X.xe) (hc : X.calm = true) (hi : PI X tg iter wi) (hg : PG X tg g) (hb : PSst X body tb)
    (hs : ∀ x, foldedSetIterable iter X.env x = pure x := by intro _; rfl) : PSt X (.For tg iter body [] pos) (tFor wi g tb) := by
  intro pins s σ H D I h0 h
  refine wpAny_For (thnT (hi pins s σ H _ I h) h0 fun v s1 z1 h1 => thnT h1 z1 fun itv s2 z2 h2 => ?_) hs
  obtain ⟨it, fp, tn, J, H2, e, I2, T, st2, f2, W, ⟨m0, w0⟩, turn⟩ := h2
  subst e
  have stat : ∀ {H' : Hp}, (∀ b ∈ fp, H' b = none) → ∀ b ∈ fp, FpOk X pins H' b := fun hn b hb => ⟨hn b hb, (f2 b hb).2⟩
  refine codeAny_forLoop_any (fun n s' => 0 < s'.toks ∧ ∃ i σ' H', Inv X pins σ' H' s' ∧ tn i s'.heap ∧ (∀ b ∈ fp, H' b = none) ∧ W i n σ' H') ?_ m0 ⟨z2, 0, σ, H2, I2, st2, fun b hb => (f2 b hb).1, w0⟩
  rintro n s3 ⟨z3, i, σ3, H3, I3, st3, fr3, w3⟩
  rcases turn i n σ3 H3 w3 with ⟨stop, qn⟩ | ⟨go, N, hN, step⟩
  · refine wpAny_passesOwn hp (thn (T.done X rfl rfl rfl hc i pins s3 σ3 H3 X.xe I3 (stat fr3) st3 stop) fun r s4 ⟨hr, I4⟩ => ?_)
    subst hr
    exact wpAny_execs_nil ⟨σ3, H3, I4, qn⟩
  · refine wpAny_passesOwn hp (thnT (T.item X rfl rfl rfl hc i pins s3 σ3 H3 X.xe I3 (stat fr3) st3 go) z3 fun r s4 z4 ⟨u, hr, h4⟩ => ?_)
    subst hr
    refine wpAny_passesOwn hp (thnT h4 z4 fun _ s5 z5 ⟨x, H5, I5, r5, y5, st5, fr5⟩ => ?_)
    have I5' := I5.pinned (stat fr5) (T.obj _ _ st5)
    refine wpAny_passesOwn hp (thnT (hg _ s5 σ3 H5 x u _ I5' r5 (step x H5 y5)) z5 fun _ s6 z6 ⟨σ6, H6, I6, q6⟩ => ?_)
    refine wpAny_passesOwn hp (thnT (hb _ s6 σ6 H6 _ I6 z6 q6) z6 fun f s7 z7 q7 => ?_)
    have again : ∀ {σ7 : L2.St} {H7 : Hp}, Inv X (pins ++ pinsAt fp s5.heap) σ7 H7 s7 → N σ7 H7 → ∃ m, m < n ∧ 0 < s7.toks ∧ ∃ i σ' H', Inv X pins σ' H' s7 ∧ tn i s7.heap ∧ (∀ b ∈ fp, H' b = none) ∧ W i m σ' H' := fun {σ7 H7} I7 n7 => by
      obtain ⟨m', hm, w7⟩ := hN σ7 H7 n7
      have pin : ∀ b o, b ∈ fp → s5.heap.get? b = some o → s7.heap.get? b = some o ∧ H7 b = none := fun b o hb e => by
        have q := I7.pin (b, o) (List.mem_append_right _ (List.mem_append_right _ (mem_pinsAt hb e)))
        exact ⟨q.1, q.2.1⟩
      refine ⟨m', hm, z7, i + 1, σ7, H7, I7.unpinned, T.keep _ _ _ st5 fun b hb o e => (pin b o hb e).1, fun b hb => ?_, w7⟩
      obtain ⟨o, e, d⟩ := T.obj _ _ st5 b hb
      exact (pin b o hb e).2
    cases f with
    | next => obtain ⟨σ7, H7, I7, n7⟩ := q7; exact again I7 n7
    | cont => obtain ⟨σ7, H7, I7, n7⟩ := q7; exact again I7 n7
    | brk => obtain ⟨σ7, H7, I7, q7⟩ := q7; exact ⟨σ7, H7, I7.unpinned, q7⟩
    | ret v => obtain ⟨x7, σ7, H7, I7, r7, q7⟩ := q7; exact ⟨x7, σ7, H7, I7.unpinned, r7, q7⟩
def PSg (X : Cx) (st : Stmt) (t : TS) : Prop := ∀ (pins : List (Addr × Obj)) (s : Shared) (σ : L2.St) (H : Hp) (D : Ends), Inv X pins σ H s → t D σ H → wpAny (model X.prog X.w) X.A (exec st X.env) (fun f s' => SP X pins D f s' ∧ 0 < s'.toks) X.xe s
def PEg (X : Cx) (e : Expr) (t : TE) : Prop := ∀ (pins : List (Addr × Obj)) (s : Shared) (σ : L2.St) (H : Hp) (Q : VK), Inv X pins σ H s → t σ H Q → wpAny (model X.prog X.w) X.A (eval e X.env) (fun u s' => EP X pins σ Q u s' ∧ 0 < s'.toks) X.xe s
def PAg (X : Cx) (es : List Expr) (t : TA) : Prop := ∀ (pos : Pos) (pins : List (Addr × Obj)) (s : Shared) (σ : L2.St) (H : Hp) (Q : List V → Hp → Prop), Inv X pins σ H s → t σ H Q → wpAny (model X.prog X.w) X.A (spliced (backTo pos (starEach es X.env))) (fun us s' => AP X pins σ Q us s' ∧ 0 < s'.toks) X.xe s
theorem pss_up (h1 : PSg X st t) (h2 : PSst X rest u) : PSs X (st :: rest) (tSeq t u) := by
  intro pins s σ H D I h
  refine wpAny_execs_cons (thn (h1 pins s σ H { D with nx := u D } I h) fun f s1 ⟨q, z⟩ => ?_)
  cases f with
  | next => obtain ⟨σ', H', I', q⟩ := q; exact h2 pins s1 σ' H' D I' z q
  | ret v => exact q
  | brk => exact q
  | cont => exact q
theorem pag_str {x : Str} {j} {p1 : Pos} (hr : PA X es tA) (hs : starEach (.Constant (.str x) j p1 :: es) X.env = (false, eval (.Constant (.str x) j p1) X.env) :: starEach es X.env := by rfl) : PAg X (.Constant (.str x) j p1 :: es) (tCons (tC (.str x)) tA) := by
  intro pos pins s σ H Q I h
  rw [hs]
  show wpAny _ _ (spliced ((false, eval (.Constant (.str x) j p1) X.env) :: backTo pos (starEach es X.env))) _ _ s
  refine Calls.spliced_cons (Calls.Constant_str ?_)
  refine thn (any_toks (hr pos pins { s with toks := s.toks + 1 } σ H _ (I.tok _) h)) fun us s2 ⟨⟨xs, H2, I2, r2, q2⟩, l⟩ => ?_
  exact ⟨⟨.str x :: xs, H2, I2, .cons ⟨_, rfl⟩ r2, q2⟩, Nat.lt_of_lt_of_le (Nat.succ_pos _) l⟩
theorem peg_lst (h : PAg X es tA) : PEg X (.List es pos) (tLst tA) := by
  intro pins s σ H Q I hq
  refine wpAny_List_spliced (thn (h pos pins s σ H _ I hq) fun us s1 ⟨⟨xs, H1, I1, r, z, q⟩, l⟩ => ⟨by rw [← r.length]; exact z, ?_⟩)
  exact ⟨⟨.ref s1.heap.objs.size, _, I1.lnew (t' := s1.toks) r z, rfl, q _ I1.fresh⟩, l⟩
theorem psg_set {i : Nat} {x : Str} {pos' : Pos} (hN : X.N.Nodup) (hi : X.N[i]? = some x) (hx : Loc X.env.scope x) (he : PEg X e te) (hs : swapsWith e (some (.Name x pos')) pos.line X.env = pure false := by rfl) (hf : X.fn x = true ∨ X.env.scope.names.lookup x = some .local := by first | exact .inl rfl | exact .inr rfl | assumption) :
    PSg X (.Assign [.Name x pos'] e pos) (tAsg te (gName i)) := by
  intro pins s σ H D I h
  refine wpAny_Assign_Name (thn (he pins s σ H _ I h) fun v s1 ⟨⟨y, H1, I1, r1, q1⟩, l⟩ => ?_) hs
  refine thnT (Q := fun _ s' => SP X pins D .next s') (store_ok I1 hN hi hx r1 (fun s2 I2 => ⟨_, H1, I2, q1⟩) hf) l fun _ s2 z q => ⟨q, z⟩
def tRepl (y z : Str) (to : TE) : TE := fun σ H Q => to σ H fun x H1 => ∃ a, x = .str a ∧ a.length + (a.length + 1) * z.length ≤ 16777216 ∧ Q (.str (Txt.replace a y z)) H1
theorem pet_replace {to : TE} {y z : Str} {j1 j2} {p1 p2 : Pos} (hyz : (y == z) = false) (ho : PE X o to)
    (hs : starEach [.Constant (.str y) j1 p1, .Constant (.str z) j2 p2] X.env = [(false, eval (.Constant (.str y) j1 p1) X.env), (false, eval (.Constant (.str z) j2 p2) X.env)] := by rfl)
    (hbase : attributeBase o "replace" X.env (eval o X.env) = eval o X.env := by rfl)
    (hfew : ((backTo pos (starEach [.Constant (.str y) j1 p1, .Constant (.str z) j2 p2] X.env)).all (fun x => !x.1) && (backToKw pos (keywordEach [] X.env)).all (fun x => x.1.isSome)
      && decide (([.Constant (.str y) j1 p1, .Constant (.str z) j2 p2] : List Expr).length + ([] : List Keyword).length + (if ([] : List Keyword).isEmpty then 0 else 1) < 30)) = true := by rfl) (hline : (apos.endLine == pos.line) = true := by rfl) :
    PEt X (.Call (.Attribute o "replace" apos) [.Constant (.str y) j1 p1, .Constant (.str z) j2 p2] [] pos) (tRepl y z to) := by
  intro pins s σ H Q I h0 h
  refine wpAny_Call_method_late hbase hfew hline rfl (thnT (ho pins s σ H _ I h) h0 fun v s1 z1 ⟨x, H1, I1, r1, q1⟩ => ?_)
  obtain ⟨a, rfl, hb, q⟩ := q1
  obtain ⟨t, rfl⟩ := r1
  refine ⟨"str", _, F.plainAttrs_str, F.slot_str_replace, F.type_str_replace, typeIs_str _ _ _, (fun _ e => nomatch e), ?_⟩
  rw [hs]
  refine Calls.callWith_builtin rfl (Calls.evalArgs_plain (Calls.spliced_cons (Calls.Constant_str (k := j1) (pos := p1) ?_)))
  refine Calls.spliced_cons (Calls.Constant_str (k := j2) (pos := p2) (Calls.spliced_nil ?_))
  have u0 : s1.toks ≠ 0 := Nat.ne_of_gt z1
  have v0 : s1.toks + 1 ≠ 0 := Nat.succ_ne_zero _
  have uv : s1.toks ≠ s1.toks + 1 := Nat.ne_of_lt (Nat.lt_succ_self _)
  exact PySem.SC.replace u0 v0 uv hyz hb fun t' k => ⟨.str _, H1, (I1.tok (s1.toks + 1 + 1)).tok k, ⟨t', rfl⟩, q⟩
end
end DL
namespace DL
open PySem PySem.Spec PyProof.Rows L2
variable [Tabs]
def DSt (X : Cx) (st : Stmt) (F : FS) : Prop := PSt X st (tDS X.K F)
def DSst (X : Cx) (sts : List Stmt) (F : FS) : Prop := PSst X sts (tDS X.K F)
def DEt (X : Cx) (e : Expr) (f : FE) : Prop := PEt X e (tD X.K f)
def DSg (X : Cx) (st : Stmt) (F : FS) : Prop := PSg X st (tDS X.K F)
section
variable {X : Cx} {st : Stmt} {rest body : List Stmt} {e a b c o tg iter : Expr} {es : List Expr} {pos p apos : Pos} {f fo : FE} {fs : FA} {tc : FT} {F G : FS}
theorem DSt.of {t : TS} (h : PSt X st t) (imp : ∀ L ρ μ o σ H D, EnvR X.K L H σ ρ μ → F ρ μ = some o → OutOk X.K L H D o → t D σ H) : DSt X st F :=
  fun pins s σ H D I h0 ⟨L, ρ, μ, o, E, ef, k⟩ => h pins s σ H D I h0 (imp L ρ μ o σ H D E ef k)
theorem DSst.of {t : TS} (h : PSst X rest t) (imp : ∀ L ρ μ o σ H D, EnvR X.K L H σ ρ μ → F ρ μ = some o → OutOk X.K L H D o → t D σ H) : DSst X rest F :=
  fun pins s σ H D I h0 ⟨L, ρ, μ, o, E, ef, k⟩ => h pins s σ H D I h0 (imp L ρ μ o σ H D E ef k)
theorem dst_of (h : DS X st F) : DSt X st F := pst_of h
theorem dsst_of (h : DSs X rest F) : DSst X rest F := psst_of h
theorem d_seq : ∀ L ρ μ o σ H D, EnvR X.K L H σ ρ μ → fSeq F G ρ μ = some o → OutOk X.K L H D o → tSeq (tDS X.K F) (tDS X.K G) D σ H := fun L ρ μ o σ H D E ef k => by
  unfold fSeq at ef
  cases q : F ρ μ with
  | none => rw [q] at ef; cases ef
  | some o1 =>
    rw [q] at ef
    refine ⟨L, ρ, μ, o1, E, q, ?_⟩
    cases o1 with
    | nx r m => exact fun σ' H' L' E' s' => ⟨L', r, m, o, E', ef, k.step s'⟩
    | rt v m => cases ef; exact k
    | bk r m => cases ef; exact k
    | ct r m => cases ef; exact k
theorem dsst_cons (h1 : DSt X st F) (h2 : DSst X rest G) : DSst X (st :: rest) (fSeq F G) := DSst.of (psst_cons h1 h2) d_seq
theorem dsst_one (h : DSt X st F) : DSst X [st] F := psst_one h
theorem dss_up (h1 : DSg X st F) (h2 : DSst X rest G) : DSs X (st :: rest) (fSeq F G) := DSs.of (pss_up h1 h2) d_seq
theorem dst_if {x y : List Stmt} (hc : DT X c tc) (ha : DSst X x F) (hb : DSst X y G) : DSt X (.If c x y pos) (fIfS tc F G) := DSt.of (pst_if hc ha hb) fun L ρ μ o σ H D E ef k => by
  obtain ⟨b, m, e1, ef⟩ := bnd_some ef
  refine ⟨L, ρ, μ, b, m, E, e1, fun H1 E1 s1 => ?_⟩
  cases b with
  | true => rw [if_pos rfl]; exact ⟨L, ρ, m, o, E1, ef, k.step s1⟩
  | false => rw [if_neg (by decide)]; exact ⟨L, ρ, m, o, E1, ef, k.step s1⟩
theorem dst_set {i : Nat} {x : Str} {pos' : Pos} (hN : X.N.Nodup) (hi : X.N[i]? = some x) (hx : Loc X.env.scope x) (he : DEt X e f) (hs : swapsWith e (some (.Name x pos')) pos.line X.env = pure false := by rfl) (hf : X.fn x = true ∨ X.env.scope.names.lookup x = some .local := by first | exact .inl rfl | exact .inr rfl | assumption) :
    DSt X (.Assign [.Name x pos'] e pos) (fAsg f (gNm i)) := DSt.of (pst_set hN hi hx he hs hf) fun L ρ μ o σ H D E ef k => by
  obtain ⟨d, m, e1, ef⟩ := bnd_some ef
  cases ef
  exact ⟨L, ρ, μ, d, m, E, e1, fun v H1 E1 s1 q1 => k _ H1 L (E1.put i q1) s1⟩
theorem d_for {fi : FI} {g : FG} {is : List Nat} {B : FS} : ∀ L ρ μ o σ H D, EnvR X.K L H σ ρ μ → fFor fi g B ρ μ = some o → OutOk X.K L H D o → tFor (tDI X.K fi) (tDG X.K is g) (tDS X.K B) D σ H := fun L ρ μ o σ H D E ef k => by
  obtain ⟨ds, m, e1, ef⟩ := bnd_some ef
  refine ⟨L, ρ, μ, ds, m, E, e1, fun J H1 E1 s1 hJ => ?_⟩
  refine ⟨fun i n σ' H' => n = ds.length - i ∧ i ≤ ds.length ∧ ∃ L' ρ' μ', EnvR X.K L' H' σ' ρ' μ' ∧ loopF g B (ds.drop i) ρ' μ' = some o ∧ Step L H1 L' H', ⟨ds.length, by simp, Nat.zero_le _, L, ρ, m, E1, by simpa using ef, Step.refl _ _⟩, ?_⟩
  rintro i n σ' H' ⟨rfl, hi, L', ρ', μ', E', ef', s'⟩
  have hJ' := hJ L' H' s'.same E'.own i
  by_cases hlt : i < ds.length
  · refine .inr ⟨(hJ'.1 hlt).1, fun σ2 H2 => i + 1 ≤ ds.length ∧ ∃ L2 ρ2 μ2, EnvR X.K L2 H2 σ2 ρ2 μ2 ∧ loopF g B (ds.drop (i + 1)) ρ2 μ2 = some o ∧ Step L H1 L2 H2, fun σ2 H2 ⟨h1, h2⟩ => ⟨ds.length - (i + 1), by omega, rfl, h1, h2⟩, fun x H2 y => ?_⟩
    obtain ⟨sm, d, ed, dx⟩ := (hJ'.1 hlt).2 x H2 y
    have E2 := E'.same sm
    rw [drop_get ed] at ef'
    obtain ⟨ρ1, eg, ef2⟩ := opt_some ef'
    refine ⟨L', ρ', μ', d, ρ1, E2, dx, eg, fun σ3 _ E3 => ?_⟩
    cases hB : B ρ1 μ' with
    | none => rw [hB] at ef2; cases ef2
    | some ob =>
      rw [hB] at ef2
      have s2 : Step L H1 L' H2 := s'.trans (Step.of_same sm)
      refine ⟨L', ρ1, μ', ob, E3, hB, ?_⟩
      cases ob with
      | nx r m2 => exact fun σ4 H4 L4 E4 s4 => ⟨hlt, L4, r, m2, E4, ef2, s2.trans s4⟩
      | ct r m2 => exact fun σ4 H4 L4 E4 s4 => ⟨hlt, L4, r, m2, E4, ef2, s2.trans s4⟩
      | bk r m2 => cases ef2; exact fun σ4 H4 L4 E4 s4 => k σ4 H4 L4 E4 (s1.trans (s2.trans s4))
      | rt v m2 => cases ef2; exact fun u H4 L4 n4 E4 s4 q4 => k u H4 L4 n4 E4 (s1.trans (s2.trans s4)) q4
  · have e : i = ds.length := by omega
    subst e
    refine .inl ⟨hJ'.2 (Nat.le_refl _), ?_⟩
    rw [List.drop_length] at ef'
    cases ef'
    exact k σ' H' L' E' (s1.trans s')
theorem dst_for {fi : FI} {g : FG} {is : List Nat} {B : FS} (hc : X.calm = true) (hi : DI X tg iter fi) (hg : DG X tg is g) (hb : DSst X body B) (hp : PassesOwn (model X.prog X.w) X.A X.env X.xe)
    (hs : ∀ x, foldedSetIterable iter X.env x = pure x := by intro _; rfl) : DSt X (.For tg iter body [] pos) (fFor fi g B) := DSt.of (pst_for hp hc hi hg hb hs) d_for
def replD (y z : Str) : PyData → Option PyData
  | .str a => if a.length + (a.length + 1) * z.length ≤ 16777216 then some (.str (Txt.replace a y z)) else none
  | _ => none
def fRepl (y z : Str) (f : FE) : FE := fun ρ μ => bnd (f ρ μ) fun d m => fin (replD y z d) m
theorem det_replace {y z : Str} {j1 j2} {p1 p2 : Pos} (hyz : (y == z) = false) (ho : DE X o fo)
    (hs : starEach [.Constant (.str y) j1 p1, .Constant (.str z) j2 p2] X.env = [(false, eval (.Constant (.str y) j1 p1) X.env), (false, eval (.Constant (.str z) j2 p2) X.env)] := by rfl)
    (hbase : attributeBase o "replace" X.env (eval o X.env) = eval o X.env := by rfl)
    (hfew : ((backTo pos (starEach [.Constant (.str y) j1 p1, .Constant (.str z) j2 p2] X.env)).all (fun x => !x.1) && (backToKw pos (keywordEach [] X.env)).all (fun x => x.1.isSome)
      && decide (([.Constant (.str y) j1 p1, .Constant (.str z) j2 p2] : List Expr).length + ([] : List Keyword).length + (if ([] : List Keyword).isEmpty then 0 else 1) < 30)) = true := by rfl) (hline : (apos.endLine == pos.line) = true := by rfl) :
    DEt X (.Call (.Attribute o "replace" apos) [.Constant (.str y) j1 p1, .Constant (.str z) j2 p2] [] pos) (fRepl y z fo) := fun pins s σ H Q I h0 ⟨L, ρ, μ, d, μ', E, ef, k⟩ =>
  pet_replace hyz ho hs hbase hfew hline pins s σ H Q I h0 (by
    obtain ⟨d1, m1, e1, ef⟩ := bnd_some ef
    obtain ⟨e2, rfl⟩ := fin_some ef
    refine ⟨L, ρ, μ, d1, _, E, e1, fun v H1 E1 s1 q1 => ?_⟩
    cases d1 with
    | str x =>
      have e2 : (if x.length + (x.length + 1) * z.length ≤ 16777216 then some (PyData.str (Txt.replace x y z)) else none) = some d := e2
      by_cases hb : x.length + (x.length + 1) * z.length ≤ 16777216
      · rw [if_pos hb] at e2; cases e2
        exact ⟨x, dp_str q1, hb, k _ H1 E1 s1 (.str _)⟩
      · rw [if_neg hb] at e2; cases e2
    | _ => cases e2)
end
end DL
namespace DL
open PySem PySem.Spec PyProof.Rows L2
variable [Tabs]
section
variable {X : Cx} {st : Stmt} {e a b c o tg iter : Expr} {es : List Expr} {pos p apos p2 : Pos} {f fa fb fo : FE} {fs : FA} {tc : FT} {F G : FS}
theorem dv (i : Nat) {x : Str} (hN : X.N[i]? = some x := by rfl) (hv : Vis X.env.scope x := by first | exact Or.inl rfl | exact Or.inr (Or.inl rfl) | exact Or.inr (Or.inr rfl)) (hd : (x == ("__debug__" : Str)) = false := by decide)
    (hcd : (x == ("__classdict__" : Str)) = false := by decide) : DE X (.Name x pos) (fVar i) := de_var hN hv hd hcd
def fNmS (i : Nat) (fl fh : FO) : FE := fun ρ μ => bnd (fl ρ μ) fun lo m => bnd (fh ρ m) fun hi m' => match ρ[i]? with
  | some (.dat d) => fin (slD d lo hi) m'
  | some (.own k) => opt (m'[k]?) fun ds => some (.list (cutD ds lo hi), m')
  | _ => none
theorem de_nmS {i : Nat} {y : Str} {lo hi : Option Expr} {fl fh : FO} {p3 : Pos} (hN : X.N[i]? = some y) (hvy : Vis X.env.scope y) (hl : DO X lo fl) (hh : DO X hi fh) (hd : (y == ("__debug__" : Str)) = false := by decide) (hcd : (y == ("__classdict__" : Str)) = false := by decide) :
    DE X (.Subscript (.Name y p2) (.Slice lo hi none p3) pos) (fNmS i fl fh) := DE.of (pe_slice sl_all (pe_var hN hvy hd hcd) hl hh) fun L ρ μ d μ' σ H Q E ef k => by
  obtain ⟨lo, m2, e2, ef⟩ := bnd_some ef
  obtain ⟨hi, m3, e3, ef⟩ := bnd_some ef
  split at ef
  · rename_i d' er
    obtain ⟨e4, rfl⟩ := fin_some ef
    obtain ⟨ov, eo, v, rfl, q⟩ := pr_get E.sl er
    refine ⟨v, eo, L, ρ, μ, lo, m2, E, e2, fun H2 E2 s2 => ⟨L, ρ, m2, hi, _, E2, e3, fun H3 E3 s3 => ?_⟩⟩
    exact o_sl E3.own (q.mono (s2.trans s3).same) e4 (Ret.of E3 (s2.trans s3) k)
  · rename_i k' er
    obtain ⟨ds, e1, ef⟩ := opt_some ef
    cases ef
    obtain ⟨ov, eo, l, el, rfl⟩ := pr_get E.sl er
    refine ⟨_, eo, L, ρ, μ, lo, m2, E, e2, fun H2 E2 s2 => ⟨L, ρ, m2, hi, _, E2, e3, fun H3 E3 s3 => ?_⟩⟩
    obtain ⟨vs, hH, q⟩ := E3.at e1 el
    exact .inl ⟨l, vs, rfl, SqL.of hH, Ret.lst E3.own (cut_dp lo hi q) (Ret.of E3 (s2.trans s3) k)⟩
  · cases ef
def fParO (i j : Nat) (f : FE) (ff : FF) : FS := fun ρ μ => bnd (f ρ μ) fun d m => bnd (ff ρ m) fun ds m' => some (.nx ((ρ.set i (.dat d)).set j (.own m'.length)) (m' ++ [ds]))
theorem ds_parO {i j : Nat} {x y : Str} {ff : FF} {px py pt : Pos} {kt k2 pt2} (hc : X.calm = true) (hN : X.N.Nodup) (hi : X.N[i]? = some x) (hj : X.N[j]? = some y) (hij : i ≠ j)
    (hx : X.env.scope.names.lookup x = some .local) (hy : X.env.scope.names.lookup y = some .local) (ha : DE X a f) (hb : DF X b ff)
    (hw : swappedStores [.Tuple [.Name x px, .Name y py] kt pt] (.Tuple [a, b] k2 pt2) X.env = pure (some [x, y]))
    (hs : swapsWithSole [.Tuple [.Name x px, .Name y py] kt pt] (.Tuple [a, b] k2 pt2) pos.line X.env = pure false := by rfl)
    (h1 : starEach [a, b] X.env = (false, eval a X.env) :: starEach [b] X.env := by rfl) (h2 : starEach [b] X.env = (false, eval b X.env) :: starEach [] X.env := by rfl) :
    DS X (.Assign [.Tuple [.Name x px, .Name y py] kt pt] (.Tuple [a, b] k2 pt2) pos) (fParO i j f ff) := DS.of (ps_par hc hN hi hj hij hx hy (pa_cons ha (pa_cons hb pa_nil h2) h1) hw hs) fun L ρ μ o σ H D E ef k => by
  obtain ⟨d, m, e1, ef⟩ := bnd_some ef
  obtain ⟨ds, m2, e2, ef⟩ := bnd_some ef
  cases ef
  refine ⟨L, ρ, μ, d, m, E, e1, fun v H1 E1 s1 q1 => ⟨L, ρ, m, ds, m2, E1, e2, fun p vs H2 E2 s2 hp q2 => ⟨v, _, rfl, ?_⟩⟩⟩
  obtain ⟨E3, s3⟩ := (E2.put i (q1.mono s2.same)).ownNew j hp q2
  exact k _ _ _ E3 ((s1.trans s2).trans s3)
end
def Fn (P : Program) (w : World) (K : PySem.W.Frag) (mg : Str → Option Value) (base : Heap) (x : Str) (ps : List Str) (k : Nat) (sp : Sp) : Prop :=
  ∃ (f : Addr) (fd : FuncData), FnOk P w K mg base CX0 k f fd ps sp ∧ Binds K fd ps [] ∧ mg x = some (.ref f) ∧ PySem.W.keepIn K (.ref f) = true
def spF (K : PySem.W.Frag) (m : FF) (n : Nat) : Sp := fun vs H Q _ => ∃ L ρ μ ds μ', vs.length = n ∧ EnvR K L H (vs.map some) ρ μ ∧ m ρ μ = some (ds, μ') ∧ ∀ p xs H', StoreR K L H' μ' → Step L H L H' → H' p = none → DpAll K (Off L H') xs ds → Q (.ref p) (upd H' p (.lst xs))
def LenP (g : FP) (n : Nat) : Prop := ∀ ρ μ sl m', g ρ μ = some (sl, m') → sl.length = n
theorem lp_nil : LenP pNil 0 := fun ρ μ sl m' h => by cases h; rfl
theorem lp_dat {f : FE} {g : FP} {n : Nat} (h : LenP g n) : LenP (pDat f g) (n + 1) := fun ρ μ sl m' e => by
  obtain ⟨d, m, _, e⟩ := bnd_some e
  obtain ⟨r, m2, e2, e⟩ := bnd_some e
  cases e
  simp [h _ _ _ _ e2]
theorem lp_nm {i : Nat} {g : FP} {n : Nat} (h : LenP g n) : LenP (pNm i g) (n + 1) := fun ρ μ sl m' e => by
  unfold pNm at e
  split at e
  · obtain ⟨r, m2, e2, e⟩ := bnd_some e
    cases e
    simp [h _ _ _ _ e2]
  · obtain ⟨r, m2, e2, e⟩ := bnd_some e
    cases e
    simp [h _ _ _ _ e2]
  · cases e
section
variable {X : Cx} {e : Expr} {es : List Expr} {pos p : Pos}
theorem de_callF {k : Nat} {ps : List Str} {m : FE} {x : Str} {g : FP} (F : Fn X.prog X.w X.K X.mg X.base x ps k (spD X.K m ps.length)) (hr : Room k X.A) (hg : Gl X x) (ha : DP X (e :: es) g) (hn : LenP g ps.length)
    (hdb : (x == ("__debug__" : Str)) = false := by decide) (he : starEach (e :: es) X.env = (false, eval e X.env) :: starEach es X.env := by rfl) (hpl : (backTo pos (starEach es X.env)).any (·.1) = false := by rfl) :
    DE X (.Call (.Name x p) (e :: es) [] pos) (fCall m g) := by
  obtain ⟨f, fd, G, hb, hm, hk⟩ := F
  exact de_call G hr hg hm hk hb ha hn hdb he hpl
def fCallN (m : FF) (g : FP) : FF := fun ρ μ => bnd (g ρ μ) fun sl m' => m sl m'
theorem df_callF {k : Nat} {ps : List Str} {m : FF} {x : Str} {g : FP} (F : Fn X.prog X.w X.K X.mg X.base x ps k (spF X.K m ps.length)) (hr : Room k X.A) (hg : Gl X x) (ha : DP X (e :: es) g) (hn : LenP g ps.length)
    (hdb : (x == ("__debug__" : Str)) = false := by decide) (he : starEach (e :: es) X.env = (false, eval e X.env) :: starEach es X.env := by rfl) (hpl : (backTo pos (starEach es X.env)).any (·.1) = false := by rfl) :
    DF X (.Call (.Name x p) (e :: es) [] pos) (fCallN m g) := fun pins s σ H Q I ⟨L, ρ, μ, ds, μ', E, ef, kk⟩ => by
  obtain ⟨f, fd, G, hb, hm, hk⟩ := F
  refine pe_call G hr hg hm hk hb .nil pass0 ha hdb he hpl pins s σ H Q I ?_
  obtain ⟨sl, m1, e1, e2⟩ := bnd_some ef
  refine ⟨L, ρ, μ, sl, m1, E, e1, fun vs H1 E1 s1 q1 => ?_⟩
  show spF X.K m ps.length (vs ++ []) H1 Q E0
  rw [List.append_nil]
  refine ⟨L, sl, m1, ds, μ', ?_, ⟨E1.nd, E1.lk, q1, E1.st⟩, e2, fun p xs H2 st2 s2 hp q2 => kk p xs H2 (E1.step s2 st2) (s1.trans s2) hp q2⟩
  have := pr_len q1
  rw [List.length_map] at this
  rw [this]; exact hn _ _ _ _ e1
end
def defF (n nn : Nat) (f : FF) : FF := fun ρ μ => bnd (f (ρ ++ List.replicate (nn - n) .un) μ) fun ds m => some (ds, m)
theorem env_start {K : PySem.W.Frag} {L : OW} {H : Hp} {vs : List V} {ρ : Rho} {μ : Mu} {N : List Str} {n : Nat} (hn : vs.length = n) (E0 : EnvR K L H (vs.map some) ρ μ) : EnvR K L H (L2.start N vs) (ρ ++ List.replicate (N.length - n) .un) μ := by
  refine ⟨E0.nd, E0.lk, ?_, E0.st⟩
  unfold L2.start
  rw [hn]
  refine pr_app E0.sl ?_
  generalize N.length - n = j
  induction j with
  | zero => exact .nil
  | succ j ih => exact .cons (show SlotR K L H none .un from trivial) ih
theorem fn_new {P : Program} {w : World} {K : PySem.W.Frag} {mg : Str → Option Value} {base : Heap} {x qual : Str} {st : Stmt} {f : Addr} {fd : FuncData} {N ps : List Str} {k : Nat} {ff : FF} {e : Expr} {pos : Pos} (F : Fun K x qual st f fd) (S : FnScope N ps (defScope st)) (hbd : defBody st = [.Return (some e) pos])
    (hb : ∀ (cdv : Value) (A : Around) (outer : List Env) (s : Shared) (H : Hp) (E : XK), Room k (A.deeper (envOfC qual (defScope st) s.heap.objs.size f cdv)) → DF (cxOf CX0 P w K mg base N qual (defScope st) f cdv A outer s H E).nox e ff) :
    FnOk P w K mg base CX0 (k + 1) f fd ps (spF K (defF ps.length N.length ff) ps.length) := by
  refine F.ok S (fun vs H Q E h => ?_) (fun cdv A outer s H vs Q E hr h => ?_)
  · obtain ⟨L, ρ, μ, d, μ', hn, _⟩ := h
    exact hn
  · rw [hbd]
    refine ⟨_, pss_one (ps_ret (hb cdv A outer s H E hr)), ?_⟩
    obtain ⟨L, ρ, μ, ds, μ', hn, E0, ef, kk⟩ := h
    obtain ⟨ds', m, e1, ef⟩ := bnd_some ef
    cases ef
    exact ⟨L, _, μ, ds, _, env_start hn E0, e1, fun p xs H' E' s' hp q => kk p xs H' E'.st s' hp q⟩
theorem lookup_mem {β : Type} : ∀ {l : List (Addr × β)} {p : Addr × β}, (l.map (·.1)).Nodup → p ∈ l → l.lookup p.1 = some p.2
  | [], _, _, h => by cases h
  | q :: r, p, hn, h => by
    rw [List.map_cons, List.nodup_cons] at hn
    rw [List.lookup_cons]
    rcases List.mem_cons.mp h with rfl | h
    · simp
    · have : p.1 ≠ q.1 := fun z => hn.1 (by rw [← z]; exact List.mem_map.mpr ⟨p, h, rfl⟩)
      have e : (p.1 == q.1) = false := by simpa using this
      rw [e]
      exact lookup_mem hn.2 h
theorem law_of {K : PySem.W.Frag} {m : FE} {H : Hp} {a : Addr} {ns : List Int} (h : m [.dat (.list (ns.map PyData.int))] [] = some (.bool true, [])) (hS : SqL K H a (ns.map V.int)) (hT : ∀ p ∈ Tabs.t, TabOk H p.1 p.2) (hn : (Tabs.t.map (·.1)).Nodup) : spD K m 1 [.ref a] H (fun v _ => v = .bl true) fun _ _ _ => False := by
  have hno : ∀ b, (⟨[], Tabs.t.map (·.1), fun b => Tabs.t.lookup b⟩ : OW).has b → ∃ ps, H b = some (.tbl ps) := fun b z => by
    have z : b ∈ ([] : List Addr) ∨ b ∈ Tabs.t.map (·.1) := z
    rcases z with z | z
    · exact absurd z (by simp)
    · obtain ⟨p, hp, rfl⟩ := List.mem_map.mp z
      obtain ⟨ps, e, _⟩ := hT p hp
      exact ⟨ps, e⟩
  have hS' : SqL K (Off ⟨[], Tabs.t.map (·.1), fun b => Tabs.t.lookup b⟩ H) a (ns.map V.int) := by
    rcases hS with (z | ⟨o, z⟩) | z
    · exact .inl (.inl (off_some.mpr ⟨fun y => (by obtain ⟨ps, e⟩ := hno _ y; rw [z] at e; cases e), z⟩))
    · exact .inl (.inr ⟨o, off_some.mpr ⟨fun y => (by obtain ⟨ps, e⟩ := hno _ y; rw [z] at e; cases e), z⟩⟩)
    · exact .inr z
  have hD : Dp K (Off ⟨[], Tabs.t.map (·.1), fun b => Tabs.t.lookup b⟩ H) (.ref a) (.list (ns.map PyData.int)) := by
    refine .lst hS' ?_
    clear hS hS' h
    induction ns with
    | nil => exact .nil
    | cons n r ih => exact .cons (.int n) ih
  have hsl : SlotR K ⟨[], Tabs.t.map (·.1), fun b => Tabs.t.lookup b⟩ H (some (.ref a)) (.dat (.list (ns.map PyData.int))) := ⟨_, rfl, hD⟩
  refine ⟨⟨[], Tabs.t.map (·.1), fun b => Tabs.t.lookup b⟩, _, [], _, [], rfl, ⟨⟨.nil, fun p hp => ⟨List.mem_map.mpr ⟨p, hp, rfl⟩, lookup_mem hn hp⟩⟩, fun l hl => ⟨by simp, .inr ?_⟩, .cons hsl .nil, .nil⟩, h, fun v H' _ _ q => dp_bl q⟩
  obtain ⟨p, hp, rfl⟩ := List.mem_map.mp hl
  exact ⟨p.2, lookup_mem hn hp, hT p hp⟩
end DL
theorem L2.Room.units66 {k : Nat} {A : PySem.Around} (r : L2.Room k A) : A.units + 66 < PySem.cLine := by have := r.un; omega
namespace DL
open PySem PySem.Spec PyProof.Rows L2
variable [Tabs]
section
variable {X : Cx} {pos : Pos} {x : Str} {a : Expr} {fa : FE}
theorem de_cint {i : Int} (h : ∃ t, X.mg x = some (.int i t)) (hg : Gl X x) (hd : (x == ("__debug__" : Str)) = false := by decide) : DE X (.Name x pos) (fC (.int i)) := by
  obtain ⟨t, h⟩ := h
  exact de_glob (v := .int i) hg h ⟨t, rfl⟩ (fun H => .int i) hd
theorem de_cstr {i : Str} (h : ∃ t, X.mg x = some (.str i t)) (hg : Gl X x) (hd : (x == ("__debug__" : Str)) = false := by decide) : DE X (.Name x pos) (fC (.str i)) := by
  obtain ⟨t, h⟩ := h
  exact de_glob (v := .str i) hg h ⟨t, rfl⟩ (fun H => .str i) hd
theorem de_cdat {d : PyData} (h : ∃ u v, X.mg x = some u ∧ RelV v u ∧ ∀ H, Dp X.K H v d) (hg : Gl X x) (hd : (x == ("__debug__" : Str)) = false := by decide) : DE X (.Name x pos) (fC d) := by
  obtain ⟨u, v, h, r, q⟩ := h
  exact de_glob hg h r q hd
def f1I (g : Int → Int) (f : FE) : FE := fun ρ μ => bnd (f ρ μ) fun d m => match d with
  | .int i => some (.int (g i), m)
  | _ => none
theorem de_neg (ha : DE X a fa) : DE X (.UnaryOp .USub a pos) (f1I (fun i => -i) fa) := DE.of (pe_un un_neg ha) fun L ρ μ d μ' σ H Q E ef k => by
  obtain ⟨d1, m1, e1, ef⟩ := bnd_some ef
  split at ef
  · cases ef
    exact ⟨L, ρ, μ, _, _, E, e1, fun v H1 E1 s1 q1 => ⟨_, dp_int q1, k _ H1 E1 s1 (.int _)⟩⟩
  · cases ef
end
def Df (K : PySem.W.Frag) (mg : Str → Option Value) (x : Str) (st : Stmt) : Prop :=
  ∃ (f : Addr) (oc : Value) (od : Option Addr) (osl : Array (Option Value)) (kV doc pm : Value) (an : Option Addr) (cdv ct : Value), mg x = some (.ref f) ∧
    K.lookup f = some ⟨oc, od, .func (PySem.W.fnOf x x (defArgs st) (defBody st) (defScope st) .none kV doc pm an cdv ct), osl⟩ ∧ PySem.W.codeIn K cdv x = true ∧ PySem.W.keepIn K (.ref f) = true
theorem df_mk {K : PySem.W.Frag} {h : Heap} {mg : Str → Option Value} {x : Str} {st : Stmt} {f : Addr} {oc : Value} {od an : Option Addr} {osl : Array (Option Value)} {kV doc pm cdv ct : Value} (X : K.In h) (G : h.Ns mainGlobals mg) (a : PySem.W.nsIn K mainGlobals x = some (some (.ref f)))
    (l : K.lookup f = some ⟨oc, od, .func (PySem.W.fnOf x x (defArgs st) (defBody st) (defScope st) .none kV doc pm an cdv ct), osl⟩) (c : PySem.W.codeIn K cdv x = true) (k : PySem.W.keepIn K (.ref f) = true) : Df K mg x st :=
  ⟨f, oc, od, osl, kV, doc, pm, an, cdv, ct, PySem.W.mg_of X G a, l, c, k⟩
end DL
namespace DL
open PySem PySem.Spec PyProof.Rows L2
variable [Tabs]
end DL
namespace DL
open PySem PySem.Spec PyProof.Rows L2
variable [Tabs]
end DL
namespace DL
open PySem PySem.Spec PyProof.Rows L2
variable [Tabs]
end DL
namespace L2
open PySem PySem.Spec PyProof.Rows
theorem pe_callL {X : Cx} {CX : CXT} {k i : Nat} {f : Addr} {fd : FuncData} {ps : List Str} {sp : Sp} {ds : List Value} {dvs : List V} {E : XK} {e : Expr} {es : List Expr} {t : TA} {y : Str} {p pos : Pos} (F : FnOk X.prog X.w X.K X.mg X.base CX k f fd ps sp) (hr : Room k X.A) (hN : X.N[i]? = some y) (hv : Vis X.env.scope y) (hk : PySem.W.keepIn X.K (.ref f) = true) (hb : Binds X.K fd ps ds) (hd : Vals dvs ds) (hx : Passes CX X E)
    (ha : PA X (e :: es) t) (hdb : (y == ("__debug__" : Str)) = false := by decide) (hcd : (y == ("__classdict__" : Str)) = false := by decide) (he : starEach (e :: es) X.env = (false, eval e X.env) :: starEach es X.env := by rfl) (hpl : (backTo pos (starEach es X.env)).any (·.1) = false := by rfl) :
    PE X (.Call (.Name y p) (e :: es) [] pos) (fun σ H Q => σ[i]? = some (some (.ref f)) ∧ tCall sp dvs E t σ H Q) := by
  intro pins s σ H Q I h
  obtain ⟨hσ, h⟩ := h
  obtain ⟨m, hn, hl⟩ := I.loc
  obtain ⟨u, r, l⟩ := hl i y (.ref f) hN hσ hv
  obtain rfl : u = Value.ref f := r
  have fin := PySem.W.callWith_K (pos := pos) (first := []) (h₀ := X.base) I.ok.mod.kin hk (thn (ha pos pins s σ H _ I h) fun us s1 ⟨vs, H1, I1, r, q⟩ => ⟨I1.kIn, run_fn F hr hb hd hx I1 r q⟩) he hpl
  refine wpAny_Call_Name_kw ?_
  rcases l with ⟨hk', hm⟩ | ⟨hk', c, hc, hcell⟩
  · exact wpAny_Name (wpAny_loadName_local I.ok.kind hk' hn hm fin) hdb
  · rcases hk' with hk' | hk'
    · exact wpAny_Name (wpAny_loadName_cell I.ok.kind hk' hc hcell fin) hdb
    · exact wpAny_Name (wpAny_loadName_free I.ok.kind hk' hc hcell fin hcd) hdb
end L2
namespace DL
open PySem PySem.Spec PyProof.Rows L2
variable [Tabs]
def Gf (K : PySem.W.Frag) (mg : Str → Option Value) (x : Str) : Prop := ∃ f : Addr, mg x = some (.ref f) ∧ PySem.W.nsIn K mainGlobals x = some (some (.ref f))
section
variable {X : Cx} {pos p : Pos} {e : Expr} {es : List Expr}
def pFn (x : Str) (g : FP) : FP := fun ρ μ => bnd (g ρ μ) fun r m' => some (.fn x :: r, m')
theorem dp_fn {x : Str} {g : FP} (h : Gf X.K X.mg x) (hg : Gl X x) (hr : DP X es g) (hd : (x == ("__debug__" : Str)) = false := by decide)
    (hs : starEach (.Name x p :: es) X.env = (false, eval (.Name x p) X.env) :: starEach es X.env := by rfl) : DP X (.Name x p :: es) (pFn x g) := by
  obtain ⟨f, hm, hn⟩ := h
  exact DP.of (pa_cons (pe_glob (v := .ref f) hg hm rfl hd) hr hs) fun L ρ μ d μ' σ H Q E ef k => by
    obtain ⟨r, m, e1, ef⟩ := bnd_some ef
    cases ef
    exact ⟨L, ρ, μ, r, _, E, e1, fun vs H1 E1 s1 q1 => k (_ :: vs) H1 E1 s1 (.cons ⟨f, rfl, hn⟩ q1)⟩
theorem lp_fn {x : Str} {g : FP} {n : Nat} (h : LenP g n) : LenP (pFn x g) (n + 1) := fun ρ μ sl m' e => by
  obtain ⟨r, m, e1, e⟩ := bnd_some e
  cases e
  show _ = n + 1
  rw [← h _ _ _ _ e1]; rfl
def fCallL (x : Str) (i : Nat) (m : FE) (g : FP) : FE := fun ρ μ => match ρ[i]? with
  | some (.fn z) => if z = x then fCall m g ρ μ else none
  | _ => none
theorem de_callL {k i : Nat} {ps : List Str} {m : FE} {x y : Str} {g : FP} (F : Fn X.prog X.w X.K X.mg X.base x ps k (spD X.K m ps.length)) (h : Gf X.K X.mg x) (hr : Room k X.A) (hN : X.N[i]? = some y) (hv : Vis X.env.scope y) (ha : DP X (e :: es) g) (hn : LenP g ps.length)
    (hdb : (y == ("__debug__" : Str)) = false := by decide) (hcd : (y == ("__classdict__" : Str)) = false := by decide) (he : starEach (e :: es) X.env = (false, eval e X.env) :: starEach es X.env := by rfl) (hpl : (backTo pos (starEach es X.env)).any (·.1) = false := by rfl) :
    DE X (.Call (.Name y p) (e :: es) [] pos) (fCallL x i m g) := by
  obtain ⟨f, fd, G, hb, hm, hk⟩ := F
  obtain ⟨f', hm', hn'⟩ := h
  obtain rfl : f' = f := by rw [hm] at hm'; cases hm'; rfl
  exact DE.of (pe_callL G hr hN hv hk hb .nil pass0 ha hdb hcd he hpl) fun L ρ μ d μ' σ H Q E ef kk => by
    unfold fCallL at ef
    split at ef
    · rename_i z er
      split at ef
      · rename_i hz
        subst hz
        obtain ⟨ov, eo, f2, e2, n2⟩ := pr_get E.sl er
        rw [hn'] at n2
        cases n2
        subst e2
        refine ⟨eo, ?_⟩
        obtain ⟨sl, m1, e1, e2⟩ := bnd_some ef
        refine ⟨L, ρ, μ, sl, m1, E, e1, fun vs H1 E1 s1 q1 => ?_⟩
        show spD X.K m ps.length (vs ++ []) H1 Q E0
        rw [List.append_nil]
        refine ⟨L, sl, m1, d, μ', ?_, ⟨E1.nd, E1.lk, q1, E1.st⟩, e2, fun v H2 st2 s2 q2 => kk v H2 (E1.step s2 st2) (s1.trans s2) q2⟩
        have := pr_len q1
        rw [List.length_map] at this
        rw [this]; exact hn _ _ _ _ e1
      · cases ef
    · cases ef
end
end DL
namespace ST
open PySem PySem.W PyProof.Rows
def Ok {α : Type} (o : Nat → Nat → Bool) (n : Nat) : KasT α → (α → Prop) → Prop
  | .ret a, P => P a
  | .ask i j k, P => i < n ∧ j < n ∧ Ok o n (k (o i j)) P
section
variable {o : Nat → Nat → Bool} {n : Nat}
abbrev g (p : Array Nat) (i : Nat) : Nat := p.getD i 0
theorem g_eq (p : Array Nat) (i : Nat) : g p i = (p[i]?).getD 0 := Array.getD_eq_getD_getElem? ..
def Pm (n : Nat) (p : Array Nat) : Prop := p.Perm (List.toArray (List.range n))
theorem Pm.sz {p : Array Nat} (h : Pm n p) : p.size = n := by have := h.size_eq; simpa using this
theorem Pm.tl {p : Array Nat} (h : Pm n p) : p.toList.Perm (List.range n) := Array.perm_iff_toList_perm.mp h
theorem g_tl {p : Array Nat} {i : Nat} (hi : i < p.toList.length) : g p i = p.toList[i] := by
  rw [g_eq, ← Array.getElem?_toList, List.getElem?_eq_getElem hi]; rfl
theorem Pm.lt {p : Array Nat} (h : Pm n p) (i : Nat) (hi : i < n) : g p i < n := by
  have hl : i < p.toList.length := by rw [Array.length_toList, h.sz]; exact hi
  rw [g_tl hl]
  exact List.mem_range.mp (h.tl.mem_iff.mp (List.getElem_mem hl))
theorem Pm.inj {p : Array Nat} (h : Pm n p) (i j : Nat) (hi : i < n) (hj : j < n) (e : g p i = g p j) : i = j := by
  have hl : i < p.toList.length := by rw [Array.length_toList, h.sz]; exact hi
  have hk : j < p.toList.length := by rw [Array.length_toList, h.sz]; exact hj
  rw [g_tl hl, g_tl hk] at e
  have nd : p.toList.Nodup := h.tl.nodup_iff.mpr List.nodup_range
  exact (List.getElem_inj nd).mp e
end
end ST
namespace ST
open PySem PySem.W PySem.Calls PyProof.Rows
end ST
namespace DL
open PySem PySem.Spec PyProof.Rows L2
variable [Tabs]
abbrev LP := List Int × Int
def ltP (a b : LP) : Bool := if a.1 = b.1 then decide (a.2 < b.2) else HT.lexLt a.1 b.1
def TPk (h : Heap) (v : Value) (k : LP) : Prop :=
  ∃ (b : Addr) (o : Obj) (n : Nat) (la : Addr) (tk : Tok) (dl : Option Addr) (xs : Array Value) (nl : Nat) (sl : Array (Option Value)) (as : List Addr), v = .ref b ∧ h.get? b = some o ∧ o.cls = .type "tuple" ∧ o.data = .seq #[.ref la, .int k.2 tk] n ∧
    h.get? la = some { cls := .type "list", dict := dl, data := .seq xs nl, slots := sl } ∧ IntsAre xs.toList k.1 ∧ Reads h (.ref la) (.list (k.1.map PyData.int)) as
theorem TPk.keep {h h' : Heap} {v : Value} {k : LP} (hk : ∀ b o, h.get? b = some o → h'.get? b = some o) (p : TPk h v k) : TPk h' v k := by
  obtain ⟨b, o, n, la, tk, dl, xs, nl, sl, as, e, h1, h2, h3, h4, h5, h6⟩ := p
  exact ⟨b, o, n, la, tk, dl, xs, nl, sl, as, e, hk _ _ h1, h2, h3, hk _ _ h4, h5, PyProof.Rows.Reads.keeps hk h6⟩
end DL
namespace DL
open PySem PySem.Spec PyProof.Rows L2
variable [Tabs]
def leP (a b : LP) : Bool := !ltP b a
def sortP (ks : List LP) : List LP := ks.mergeSort leP
end DL
namespace L2
open PySem PySem.Spec PyProof.Rows
end L2
namespace DL
open PySem PySem.Spec PyProof.Rows L2
variable [Tabs]
end DL
namespace ZT
open PySem PyProof.Rows
end ZT
namespace ZT
open PySem PyProof.Rows
end ZT
namespace ZT
open PySem PyProof.Rows
abbrev g1 (h : Heap) (t : Addr) : Heap := h.push { cls := .type "tuple_iterator", data := .fields #[.ref t, .int 0 0] }
abbrev g2 (h : Heap) (t l : Addr) : Heap := (g1 h t).push { cls := .type "list_iterator", data := .fields #[.ref l, .int 0 0] }
end ZT
namespace L2
open PySem PySem.Spec PyProof.Rows
end L2
namespace DL
open PySem PySem.Spec PyProof.Rows L2
variable [Tabs]
theorem sqT_off {K : PySem.W.Frag} {L : OW} {H : Hp} {a : Addr} {xs : List V} (h : SqT K (Off L H) a xs) : SqT K H a xs := seqT (off_same L H) h
end DL
namespace DL
open PySem PySem.Spec PyProof.Rows L2
variable [Tabs]
end DL
namespace ZT
open PySem PyProof.Rows
end ZT
namespace ZT
open PySem PyProof.Rows
abbrev j1 (h : Heap) (t : Addr) : Heap := h.push { cls := .type "list_iterator", data := .fields #[.ref t, .int 0 0] }
abbrev j2 (h : Heap) (t l : Addr) : Heap := (j1 h t).push { cls := .type "tuple_iterator", data := .fields #[.ref l, .int 0 0] }
end ZT
namespace L2
open PySem PySem.Spec PyProof.Rows
end L2
namespace DL
open PySem PySem.Spec PyProof.Rows L2
variable [Tabs]
def gCatT (d e : PyData) : Option PyData := match d, e with
  | .tuple (x :: xs), .tuple ys => if (x :: xs).length + ys.length ≤ sizeLine then some (.tuple (x :: xs ++ ys)) else none
  | _, _ => none
theorem o2_catT {K : PySem.W.Frag} : Op2 K (rCatT K) gCatT := fun L H x y d e z Q hL h1 h2 hg k => by
  unfold gCatT at hg
  split at hg
  · rename_i c cs es
    split at hg
    · rename_i hz
      cases hg
      obtain ⟨a, vs, rfl, s1, q1⟩ := dp_tup h1
      obtain ⟨b, us, rfl, s2, q2⟩ := dp_tup h2
      have l1 := dps_len q1
      have l2 := dps_len q2
      refine ⟨a, b, vs, us, rfl, rfl, sqT_off s1, sqT_off s2, fun e => by rw [e] at l1; simp at l1, by rw [l1, l2]; exact hz, fun e => ?_, fun _ => ?_⟩
      · subst e
        have : es = [] := by cases es with
          | nil => rfl
          | cons _ _ => simp at l2
        subst this
        rw [List.append_nil] at k
        exact k _ _ (fun _ _ h => h) h1
      · exact k.tup hL (dps_app q1 q2)
    · cases hg
  · cases hg
end DL
namespace ZT
open PySem PyProof.Rows
end ZT
namespace ZT
open PySem PyProof.Rows
abbrev y1 (h : Heap) (t : Addr) : Heap := h.push { cls := .type "tuple_iterator", data := .fields #[.ref t, .int 0 0] }
abbrev y2 (h : Heap) (t l : Addr) : Heap := (y1 h t).push { cls := .type "tuple_iterator", data := .fields #[.ref l, .int 0 0] }
abbrev y3 (h : Heap) (t l : Addr) : Heap := (y2 h t l).push { cls := .type "tuple", data := .seq #[.ref h.objs.size, .ref (y1 h t).objs.size] }
abbrev y4 (h : Heap) (t l : Addr) : Heap := (y3 h t l).push { cls := .type "tuple", data := .seq #[.none, .none] }
abbrev y5 (h : Heap) (t l : Addr) : Heap := (y4 h t l).push { cls := .type "zip", data := .fields #[.none, .bool false, .bool false, .ref (y2 h t l).objs.size, .ref (y3 h t l).objs.size] }
end ZT
namespace L2
open PySem PySem.Spec PyProof.Rows
end L2
namespace DL
open PySem PySem.Spec PyProof.Rows L2
variable [Tabs]
end DL
namespace DL
open PySem PySem.Spec PyProof.Rows L2
variable [Tabs]
end DL
namespace SW
open PySem PyProof.Rows L2 HT
section
variable {prog : Program} {w : World} {A : Around} {E : Value → Shared → Prop} {s : Shared}
theorem whole {t c : Addr} {xs : Array Value} {vl vu : Value} {lo hi : Option Int} {Q : Value → Shared → Prop} (ht : IsTup s.heap t xs) (hs : s.heap.IsSliceOf c vl vu .none) (pl : IsPart vl lo) (pu : IsPart vu hi)
    (hw : sIx xs.size 0 lo = 0 ∧ sIx xs.size xs.size hi = xs.size) (h : Q (.ref t) s) : wpAny (model prog w) A (getItem (.ref t) (.ref c)) Q E s := by
  obtain ⟨os, e1, e2, e3⟩ := id hs
  have tc : s.TypeIs (.ref c) "slice" := ⟨os, e1, e2⟩
  unfold getItem
  try with_reducible refine wpAny_holding ?_
  first | refine wpAny_bind (wpAny_pure ?_) | skip
  refine wpAny_bind (wpAny_sequenceKey ht.typeIs (by decide) (wpAny_bind (wpAny_callSpecial?_slot (name := Str.ofString "__getitem__") ht.typeIs slot_tuple_getitem (wpAny_call_entry slot_tuple_getitem ht.typeIs entry_tuple_getitem ?_ (args_tuple_getitem _ _)))))
  show wpAny _ _ (Builtin.Tuple.tupleItemsOf (.ref t) >>= _) _ E s
  refine wpAny_bind (tupleItemsOf_ ht (wpAny_bind (wpAny_typeOf tc ?_)))
  rw [if_pos (by decide)]
  refine wpAny_bind (sliceApplied_gen hs pl pu ?_)
  rw [hw.1, hw.2]
  show wpAny _ _ (if (((0 : Nat) : Int) == 0 && (1 : Int) == 1 && xs.size - 0 == xs.size) = true then _ else _) _ E s
  rw [if_pos (by simp)]
  show wpAny _ _ (Builtin.Tuple.tupleIsExact (.ref t) >>= _) _ E s
  unfold Builtin.Tuple.tupleIsExact
  refine wpAny_bind (wpAny_bind (wpAny_typeOf ht.typeIs (wpAny_pure ?_)))
  rw [if_pos (by decide)]
  first
    | exact wpAny_bind (wpAny_rule (wpAny_pure ⟨_, rfl, wpAny_pure h⟩))
    | exact wpAny_bind (wpAny_rule (wpAny_bind (wpAny_pure (wpAny_pure ⟨_, rfl, wpAny_pure h⟩))))
    | exact wpAny_bind (wpAny_rule (wpAny_pure (wpAny_pure ⟨_, rfl, wpAny_pure h⟩)))
    | exact wpAny_bind (wpAny_bind (wpAny_rule (wpAny_pure ⟨_, rfl, wpAny_pure h⟩)))
end
end SW
namespace DL
open PySem PySem.Spec PyProof.Rows L2
variable [Tabs]
def rSlW (K : PySem.W.Frag) : V → Option Int → Option Int → Hp → VK → Prop := fun x lo hi H Q => ∃ a xs, x = .ref a ∧ SqT K H a xs ∧ (HT.sIx xs.length 0 lo = 0 ∧ HT.sIx xs.length xs.length hi = xs.length) ∧ Q (.ref a) H
section
variable {X : Cx} {e : Expr} {f : FE} {pos : Pos}
theorem sl_whole : L2.SlR X (rSlW X.K) := by
  intro pins s σ H x v vl vu lo hi c Q I rx hs pl pu h
  obtain ⟨a, xs, rfl, hx, hw, q⟩ := h
  cases rx
  obtain ⟨its, r, ht, hz⟩ := I.tuple hx
  have hl : its.toArray.size = xs.length := by rw [List.size_toArray]; exact r.length.symm
  exact ⟨"tuple", _, PyProof.Rows.slot_tuple_getitem.lookup, ht.typeIs, SW.whole ht hs pl pu (by rw [hl]; exact hw) ⟨.ref a, H, I, rfl, q⟩⟩
def slW (d : PyData) (lo hi : Option Int) : Option PyData := match d with
  | .tuple ds => some (.tuple (cutD ds lo hi))
  | d => slD d lo hi
def rSlB (K : PySem.W.Frag) : V → Option Int → Option Int → Hp → VK → Prop := fun x lo hi H Q => rSlA K x lo hi H Q ∨ rSlW K x lo hi H Q
theorem sl_both : L2.SlR X (rSlB X.K) := sl_all.or sl_whole
theorem o_slW {K : PySem.W.Frag} {L : OW} {H : Hp} {x : V} {d z : PyData} {lo hi : Option Int} {Q : VK} (hL : Own L H) (h : Dp K (Off L H) x d) (hg : slW d lo hi = some z) (k : Ret K L H z Q) : rSlB K x lo hi H Q := by
  unfold slW at hg
  split at hg
  · rename_i ds
    cases hg
    by_cases hw : HT.sIx ds.length 0 lo = 0 ∧ HT.sIx ds.length ds.length hi = ds.length
    · obtain ⟨a, xs, rfl, s1, q1⟩ := dp_tup h
      have e : cutD ds lo hi = ds := by unfold cutD; rw [hw.1, hw.2]; simp
      rw [e] at k
      refine .inr ⟨a, xs, rfl, sqtf s1, by rw [dps_len q1]; exact hw, k _ _ (fun _ _ z => z) h⟩
    · exact .inl (o_sl hL h (show slD (.tuple ds) lo hi = _ by show (if _ then _ else _) = _; rw [if_neg hw]) k)
  · exact .inl (o_sl hL h hg k)
def fSlW (f : FE) (fl fh : FO) : FE := fun ρ μ => bnd (f ρ μ) fun d m => bnd (fl ρ m) fun lo m' => bnd (fh ρ m') fun hi m'' => fin (slW d lo hi) m''
theorem de_sliceW {lo hi : Option Expr} {fl fh : FO} {p2 : Pos} (he : DE X e f) (hl : DO X lo fl) (hh : DO X hi fh) : DE X (.Subscript e (.Slice lo hi none p2) pos) (fSlW f fl fh) :=
  DE.of (pe_slice sl_both he hl hh) fun L ρ μ d μ' σ H Q E ef k => by
    obtain ⟨d1, m1, e1, ef⟩ := bnd_some ef
    obtain ⟨lo, m2, e2, ef⟩ := bnd_some ef
    obtain ⟨hi, m3, e3, ef⟩ := bnd_some ef
    obtain ⟨e4, rfl⟩ := fin_some ef
    refine ⟨L, ρ, μ, d1, m1, E, e1, fun v H1 E1 s1 q1 => ⟨L, ρ, m1, lo, m2, E1, e2, fun H2 E2 s2 => ⟨L, ρ, m2, hi, _, E2, e3, fun H3 E3 s3 => ?_⟩⟩⟩
    exact o_slW E3.own (q1.mono (s2.trans s3).same) e4 (Ret.of E3 ((s1.trans s2).trans s3) k)
end
end DL
namespace L2
open PySem PySem.Spec PyProof.Rows
end L2
namespace DL
open PySem PySem.Spec PyProof.Rows L2
variable [Tabs]
end DL
namespace DL
open PySem PySem.Spec PyProof.Rows L2
variable [Tabs]
end DL
namespace DL
open PySem PySem.Spec PyProof.Rows L2
variable [Tabs]
end DL
namespace DL
open PySem PySem.Spec PyProof.Rows L2
variable [Tabs]
abbrev SI := Str × Int
end DL
namespace DL
open PySem PySem.Spec PyProof.Rows L2
variable [Tabs]
section
variable {X : Cx}
def gCatTT (d e : PyData) : Option PyData := match d, e with
  | .tuple xs, .tuple ys => if xs.length + ys.length ≤ sizeLine then some (.tuple (xs ++ ys)) else none
  | _, _ => none
def rCatTT (K : PySem.W.Frag) : R2 := fun x y H Q => rCatT K x y H Q ∨ ∃ a b ys, x = .ref a ∧ y = .ref b ∧ SqT K H a [] ∧ SqT K H b ys ∧ Q (.ref b) H
theorem op_catTT : OpR X (binaryOp .Add) (rCatTT X.K) := by
  intro pins s σ H x y v u Q I rx ry h
  rcases h with h | ⟨a, b, ys, rfl, rfl, ha, hb, q⟩
  · exact op_catT pins s σ H x y v u Q I rx ry h
  · cases rx
    cases ry
    obtain ⟨its, r1, p1, _⟩ := I.tuple ha
    obtain ⟨its2, r2, p2, _⟩ := I.tuple hb
    cases r1
    obtain ⟨⟨cls, dd, data, sl⟩, ho, hc, n, hd⟩ := id p1
    obtain ⟨⟨cls2, dd2, data2, sl2⟩, ho2, hc2, n2, hd2⟩ := id p2
    simp only at hc hd hc2 hd2
    subst hc hd hc2 hd2
    exact concat_meets ⟨_, ho, rfl⟩ ⟨_, ho2, rfl⟩ noFill_tuple_add seq_tuple_add PySem.F.slot_tuple_add PySem.F.entry_tuple_add (PySem.F.args_tuple_add_2 _ _)
      (tuple_addW0 a b _ _ n n2 dd dd2 sl sl2 (by rfl)) ⟨ho, ho2, ⟨.ref b, H, I, rfl, q⟩⟩
theorem o2_catTT {K : PySem.W.Frag} : Op2 K (rCatTT K) gCatTT := fun L H x y d e z Q hL h1 h2 hg k => by
  unfold gCatTT at hg
  split at hg
  · rename_i xs ys
    cases xs with
    | nil =>
      split at hg
      · cases hg
        obtain ⟨a, vs, rfl, s1, q1⟩ := dp_tup h1
        have h2' := h2
        obtain ⟨b, us, rfl, s2, q2⟩ := dp_tup h2
        cases q1
        exact .inr ⟨a, b, us, rfl, rfl, sqT_off s1, sqT_off s2, k _ _ (fun _ _ h => h) h2'⟩
      · cases hg
    | cons c cs => exact .inl (o2_catT L H x y _ _ z Q hL h1 h2 (by unfold gCatT; exact hg) k)
  · cases hg
end
end DL
namespace HK
open PySem PyProof.Rows L2
section
open PySem.SeqAt
open PySem.AutoSeq1 (wpAny_loadPart')
open PySem.MeetsSeq PySem.MeetsSeq2 PySem.MeetsSeq3
end
end HK
namespace DL
open PySem PySem.Spec PyProof.Rows L2
variable [Tabs]
end DL
namespace DL
open PySem PySem.Spec PyProof.Rows L2
variable [Tabs]
mutual
inductive Lit : Expr → PyData → Prop
  | non {j pos} : Lit (.Constant .none j pos) .none
  | bl {b : Bool} {j pos} : Lit (.Constant (.bool b) j pos) (.bool b)
  | int {i : Int} {j pos} : Lit (.Constant (.int i) j pos) (.int i)
  | str {x : Str} {j pos} : Lit (.Constant (.str x) j pos) (.str x)
  | tup {es : List Expr} {c pos} {ds : List PyData} : Lits es ds → ds.length ≤ 1000 → Lit (.Tuple es c pos) (.tuple ds)
  | lst {es : List Expr} {pos} {ds : List PyData} : Lits es ds → ds.length ≤ 1000 → Lit (.List es pos) (.list ds)
inductive Lits : List Expr → List PyData → Prop
  | nil : Lits [] []
  | cons {e : Expr} {es : List Expr} {d : PyData} {ds : List PyData} : Lit e d → Lits es ds → Lits (e :: es) (d :: ds)
end
section
variable {X : Cx}
theorem lit_star {e : Expr} {d : PyData} (h : Lit e d) (es : List Expr) : starEach (e :: es) X.env = (false, eval e X.env) :: starEach es X.env := by
  cases h <;> rfl
mutual
theorem de_lit : ∀ {e : Expr} {d : PyData}, Lit e d → DE X e (fC d)
  | _, _, .non => de_non
  | _, _, .bl => de_bl
  | _, _, .int => de_int
  | _, _, .str => de_str
  | _, _, .tup (ds := ds) h hl => by
    have e : (fN (fun _ μ => some (ds, μ)) DL.gTup) = fC (.tuple ds) := by
      funext ρ μ
      show fin (DL.gTup ds) μ = _
      unfold DL.gTup
      rw [if_pos (Nat.le_trans hl (by decide))]; rfl
    rw [← e]
    exact de_tup (da_lit h)
  | _, _, .lst (ds := ds) h hl => by
    have e : (fN (fun _ μ => some (ds, μ)) gLst) = fC (.list ds) := by
      funext ρ μ
      show fin (gLst ds) μ = _
      unfold gLst
      rw [if_pos (Nat.le_trans hl (by decide))]; rfl
    rw [← e]
    exact de_lst (da_lit h)
theorem da_lit : ∀ {es : List Expr} {ds : List PyData}, Lits es ds → DA X es (fun _ μ => some (ds, μ))
  | _, _, .nil => da_nil
  | _, _, .cons h t => da_cons (de_lit h) (da_lit t) (lit_star h _)
end
end
def litsW (f : Expr → Option PyData) : List Expr → Option (List PyData)
  | [] => some []
  | e :: es => match f e with
    | some d => match litsW f es with
      | some ds => some (d :: ds)
      | none => none
    | none => none
def litO : Nat → Expr → Option PyData
  | n + 1, .Constant .none _ _ => some .none
  | n + 1, .Constant (.bool b) _ _ => some (.bool b)
  | n + 1, .Constant (.int i) _ _ => some (.int i)
  | n + 1, .Constant (.str x) _ _ => some (.str x)
  | n + 1, .Tuple es _ _ => match litsW (litO n) es with
    | some ds => if ds.length ≤ 1000 then some (.tuple ds) else none
    | none => none
  | n + 1, .List es _ => match litsW (litO n) es with
    | some ds => if ds.length ≤ 1000 then some (.list ds) else none
    | none => none
  | _, _ => none
theorem lits_of {f : Expr → Option PyData} (hf : ∀ e d, f e = some d → Lit e d) : ∀ (es : List Expr) (ds : List PyData), litsW f es = some ds → Lits es ds
  | [], ds, h => by cases h; exact .nil
  | e :: es, ds, h => by
    unfold litsW at h
    split at h
    · rename_i d h1
      split at h
      · rename_i ds' h2
        cases h
        exact .cons (hf e d h1) (lits_of hf es ds' h2)
      · cases h
    · cases h
theorem lit_of : ∀ (n : Nat) (e : Expr) (d : PyData), litO n e = some d → Lit e d
  | 0, e, d, h => by unfold litO at h; cases h
  | n + 1, e, d, h => by
    unfold litO at h
    split at h
    · cases h; exact .non
    · cases h; exact .bl
    · cases h; exact .int
    · cases h; exact .str
    · rename_i n' es _ _ hn
      cases hn
      split at h
      · rename_i ds h2
        split at h
        · rename_i h3
          cases h
          exact .tup (lits_of (lit_of n) es ds h2) h3
        · cases h
      · cases h
    · rename_i n' es _ hn
      cases hn
      split at h
      · rename_i ds h2
        split at h
        · rename_i h3
          cases h
          exact .lst (lits_of (lit_of n) es ds h2) h3
        · cases h
      · cases h
    · cases h
section
variable {X : Cx}
theorem de_litO {e : Expr} {d : PyData} (h : litO 9 e = some d) : DE X e (fC d) := de_lit (lit_of 9 e d h)
theorem da_litO {e : Expr} {es : List Expr} {d : PyData} {f : FA} (h : litO 9 e = some d) (t : DA X es f) : DA X (e :: es) (fCons (fC d) f) := da_cons (de_litO h) t (lit_star (lit_of 9 e d h) _)
end
end DL
namespace DL
open PySem PySem.Spec PyProof.Rows L2
variable [Tabs]
def THk (h : Heap) (v : Value) (k : SI) : Prop :=
  ∃ (b : Addr) (o : Obj) (n : Nat) (t1 t2 : Tok) (rest : List Value), v = .ref b ∧ h.get? b = some o ∧ o.cls = .type "tuple" ∧ o.data = .seq (List.toArray (.str k.1 t1 :: .int k.2 t2 :: rest)) n
theorem THk.keep {h h' : Heap} {v : Value} {k : SI} (hk : ∀ b o, h.get? b = some o → h'.get? b = some o) (p : THk h v k) : THk h' v k := by
  obtain ⟨b, o, n, t1, t2, rest, e, h1, h2, h3⟩ := p
  exact ⟨b, o, n, t1, t2, rest, e, hk _ _ h1, h2, h3⟩
end DL
namespace L2
open PySem PySem.Spec PyProof.Rows
end L2
namespace DL
open PySem PySem.Spec PyProof.Rows L2
variable [Tabs]
end DL
namespace DL
open PySem PySem.Spec PyProof.Rows L2
variable [Tabs]
end DL
namespace DL
open PySem PySem.Spec PyProof.Rows L2
variable [Tabs]
def Lay (P : Program) (w : World) (H : Hp) : Prop := ∃ h, HOk P w H h
abbrev FX := Rho → Mu → Option (Str × Mu)
def XWish (P : Program) (w : World) (K : PySem.W.Frag) (mg : Str → Option Value) (L : OW) (H : Hp) (x : Str) (μ' : Mu) (R : Addr → Addr → Hp → Prop) : Prop :=
  ∀ (a C : Addr) (H' : Hp) (L' : OW), H a = none → mg x = some (.ref C) → Fly H' a (.ref C) none → Lay P w H' → Step L H L' H' → StoreR K L' H' μ' → R a C H'
theorem XWish.step {P : Program} {w : World} {K : PySem.W.Frag} {mg : Str → Option Value} {L L1 : OW} {H H1 : Hp} {x : Str} {μ' : Mu} {R : Addr → Addr → Hp → Prop} (k : XWish P w K mg L H x μ' R) (s : Step L H L1 H1) : XWish P w K mg L1 H1 x μ' R :=
  fun a C H' L' hn hm fl ly st sr => k a C H' L' (s.grow a hn) hm fl ly (s.trans st) sr
end DL
namespace DL
open PySem PySem.Spec PyProof.Rows L2
variable [Tabs]
def isaD (T : String) (d : PyData) : Bool := tyD d == T || (T == "int" && tyD d == "bool")
def isaT (T : String) : Prop := T = "tuple" ∨ T = "str" ∨ T = "int" ∨ T = "bool"
def rIsA (K : PySem.W.Frag) (T : String) : List V → Hp → VK → Prop := fun xs H Q => ∃ x d, xs = [x, .ty T] ∧ Dp K H x d ∧ Q (.bl (isaD T d)) H
section
variable {X : Cx} {a e o : Expr} {fa fe fo : FE} {pos p apos : Pos}
theorem call_isA {T : String} (hT : isaT T) : CallR X (.builtin "isinstance") (rIsA X.K T) := by
  intro pins s σ H xs us Q I rs h
  obtain ⟨x, d, rfl, hd, q⟩ := h
  obtain ⟨u, w, rfl, r1, r2⟩ := vals2 rs
  cases r2
  have f0 : EP X pins σ Q (.bool (isaD T d)) s := ⟨.bl _, H, I, rfl, q⟩
  have f1 : EP X pins σ Q (.bool (isaD T d)) { s with toks := s.toks + 1 } := ⟨.bl _, H, I.tok _, rfl, q⟩
  cases hd with
  | non =>
    cases r1
    rcases hT with rfl | rfl | rfl | rfl
    · exact IsiPair.NoneType_tuple f1
    · exact IsiPair.NoneType_str f1
    · exact IsiPair.NoneType_int f1
    · exact IsiPair.NoneType_bool f1
  | bl b =>
    cases r1
    rcases hT with rfl | rfl | rfl | rfl
    · exact IsiPair.bool_tuple f1
    · exact IsiPair.bool_str f1
    · exact IsiPair.bool_int f0
    · exact IsiPair.bool_bool f0
  | int i =>
    obtain ⟨t, rfl⟩ := r1
    rcases hT with rfl | rfl | rfl | rfl
    · exact IsiPair.int_tuple f1
    · exact IsiPair.int_str f1
    · exact IsiPair.int_int f0
    · exact IsiPair.int_bool f1
  | str i =>
    obtain ⟨t, rfl⟩ := r1
    rcases hT with rfl | rfl | rfl | rfl
    · exact IsiPair.str_tuple f1
    · exact IsiPair.str_str f0
    · exact IsiPair.str_int f1
    · exact IsiPair.str_bool f1
  | lst s1 q1 =>
    cases r1
    obtain ⟨its, _, hl, _⟩ := I.list s1
    obtain ⟨ob, ho, hc, _⟩ := hl.isList
    rcases hT with rfl | rfl | rfl | rfl
    · exact IsiPair.list_tuple ho hc f1
    · exact IsiPair.list_str ho hc f1
    · exact IsiPair.list_int ho hc f1
    · exact IsiPair.list_bool ho hc f1
  | tup s1 q1 =>
    cases r1
    obtain ⟨its, _, ⟨ob, ho, hc, _⟩, _⟩ := I.tuple s1
    rcases hT with rfl | rfl | rfl | rfl
    · exact IsiPair.tuple_tuple ho hc f0
    · exact IsiPair.tuple_str ho hc f1
    · exact IsiPair.tuple_int ho hc f1
    · exact IsiPair.tuple_bool ho hc f1
  | dct e =>
    cases r1
    obtain ⟨_, _, vs, _, o, es, ep, ho, hc, _⟩ := I.hok _ _ e
    rcases hT with rfl | rfl | rfl | rfl
    · exact IsiPair.dict_tuple ho hc.1 f1
    · exact IsiPair.dict_str ho hc.1 f1
    · exact IsiPair.dict_int ho hc.1 f1
    · exact IsiPair.dict_bool ho hc.1 f1
def fIsA (T : String) (f : FE) : FE := fun ρ μ => bnd (f ρ μ) fun d m => some (.bool (isaD T d), m)
theorem de_isA {T : String} {x : Str} {p1 p2 : Pos} (hT : isaT T) (hi : Gl X "isinstance") (hmi : X.mg "isinstance" = none) (hg : Gl X x) (hm : X.mg x = none) (hv : bootBuiltins x = some (.type T)) (ha : DE X a fa) (hn : x ≠ "__name__" := by decide) (hdb : (x == ("__debug__" : Str)) = false := by decide)
    (he : starEach [a, .Name x p2] X.env = (false, eval a X.env) :: starEach [.Name x p2] X.env := by rfl) (he2 : starEach [.Name x p2] X.env = (false, eval (.Name x p2) X.env) :: starEach [] X.env := by rfl) (hpl : (backTo pos (starEach [.Name x p2] X.env)).any (·.1) = false := by rfl) :
    DE X (.Call (.Name "isinstance" p1) [a, .Name x p2] [] pos) (fIsA T fa) :=
  DE.of (pe_callB (call_isA hT) hi hmi (by decide +kernel) (pa_cons ha (pa_cons (pe_bltn hg hm hv (show RelV (.ty T) (.type T) from rfl) hn hdb) pa_nil he2) he) (by decide) (by decide) he hpl) fun L ρ μ d μ' σ H Q E ef k => by
    obtain ⟨d1, m1, e1, ef⟩ := bnd_some ef
    cases ef
    exact ⟨L, ρ, μ, d1, _, E, e1, fun v H1 E1 s1 q1 => ⟨v, d1, rfl, dpf q1, k _ H1 E1 s1 (.bl _)⟩⟩
end
end DL
namespace DL
open PySem PySem.Spec PyProof.Rows L2
variable [Tabs]
end DL
namespace DL
open PySem PySem.Spec PyProof.Rows L2 PySem.W
variable [Tabs]
end DL
namespace DL
open PySem PySem.Spec PyProof.Rows L2 PySem.W
variable [Tabs]
inductive Alls {α : Type} (P : α → Prop) : List α → Prop
  | nil : Alls P []
  | cons {a : α} {l : List α} : P a → Alls P l → Alls P (a :: l)
theorem Alls.mem {α : Type} {P : α → Prop} : ∀ {l : List α}, Alls P l → ∀ a ∈ l, P a
  | _, .nil, _, h => by cases h
  | _, .cons h t, a, ha => by
    rcases List.mem_cons.mp ha with rfl | ha
    · exact h
    · exact t.mem a ha
end DL
namespace DL
open PySem PySem.Spec PyProof.Rows L2 PySem.W
variable [Tabs]
end DL
namespace DL
open PySem PySem.Spec PyProof.Rows L2 PySem.W
variable [Tabs]
end DL
namespace DL
open PySem PySem.Spec PyProof.Rows L2 PySem.W
variable [Tabs]
end DL
namespace DL
open PySem PySem.Spec PyProof.Rows L2 PySem.W
variable [Tabs]
end DL
namespace DL
open PySem PySem.Spec PyProof.Rows L2 PySem.W
variable [Tabs]
end DL
namespace DL
open PySem PySem.Spec PyProof.Rows L2 PySem.W
variable [Tabs]
end DL
namespace DL
open PySem PySem.Spec PyProof.Rows L2
variable [Tabs]
section
variable {X : Cx} {pos p1 p2 : Pos} {e : Expr} {f : FE}
theorem new_dct {K : PySem.W.Frag} {L : OW} {H : Hp} {p : Addr} {ns : List (Int × Int)} (hL : Own L H) (h : H p = none) : Dp K (Off L (upd H p (.dK (ns.map fun q => (Sum.inl q.1, V.int q.2))))) (.ref p) (.dict (ns.map fun q => (PyData.int q.1, PyData.int q.2))) := .dct (off_upd hL h)
theorem de_dct0 : DE X (.Dict [] [] pos) (fC (.dict [])) := DE.of pe_dnewK fun L ρ μ d μ' σ H Q E ef k => by
  cases ef
  intro p hp
  exact k (.ref p) _ (E.same (same_upd hp)) (Step.of_same (same_upd hp)) (new_dct (ns := []) E.own hp)
end
end DL
namespace PySem.SeqAt
variable {A : Around} {s : Shared}
theorem RcAt.dict_str {l : Addr} {o : Obj} {es : Array DictEntry} {n : Nat} (b : Str) (u : Tok) (ho : s.heap.get? l = some o) (hc : o.cls = .type "dict") (hd : o.data = .dict es n) (hu : A.units < cLine) : RcAt A s (.ref l) (.str b u) false := fun prog w E Q h => by
  obtain ⟨cls, dd, data, sl⟩ := o
  simp only at hc hd
  subst hc hd
  exact rc_eq_decline_or (k := false) ⟨_, ho, rfl⟩ (typeIs_str s b u) (by decide) F.sub_str_dict F.slot_dict_eq F.slot_str_eq_refl
    (fun _ hq => call_meets F.slot_dict_eq ⟨_, ho, rfl⟩ F.entry_dict_eq (F.args_dict_eq_2 _ _) (dict_eq_declines_str l es n dd sl b u) ⟨ho, hq⟩)
    (fun _ hq => call_meets F.slot_str_eq_refl (typeIs_str s b u) F.entry_str_eq (F.args_str_eq_2 _ _) (str_eq_declines_dict b u l (.type "dict") es n dd sl) ⟨ho, hq⟩)
    (fun _ hq => wpAny_of_eq (rfl : isSame (.ref l) (.str b u) = pure false) hq) (.inr hu) h
end PySem.SeqAt
namespace DL
open PySem PySem.Spec PyProof.Rows L2
variable [Tabs]
def gEqT (d e : PyData) : Option PyData := match e with
  | .str y => some (.bool (PyData.eqv d (.str y)))
  | _ => none
def rEqT (K : PySem.W.Frag) : R2 := fun x y H Q => ∃ d z, Dp K H x d ∧ y = .str z ∧ Q (.bl (PyData.eqv d (.str z))) H
theorem op_eqT {X : Cx} (hu : X.A.units + 64 < cLine) : OpR X (compareOp .Eq) (rEqT X.K) := by
  intro pins s σ H x y v u Q I rx ry h
  obtain ⟨d, z, hd, rfl, q⟩ := h
  obtain ⟨t, rfl⟩ := ry
  have h1 : X.A.units < cLine := by omega
  have key : SeqAt.RcAt X.A s v (.str z t) (PyData.eqv d (.str z)) := by
    cases hd with
    | non => cases rx; exact SeqAt.RcAt.none_str z t
    | bl c => cases rx; exact SeqAt.RcAt.bool_str c z t
    | int i => obtain ⟨w, rfl⟩ := rx; exact SeqAt.RcAt.int_str i w z t
    | str y => obtain ⟨w, rfl⟩ := rx; exact SeqAt.RcAt.str_str y w z t
    | lst s1 q1 => cases rx; obtain ⟨its, _, pl, _⟩ := I.list s1; exact SeqAt.RcAt.list_str z t pl.isList h1
    | tup s1 q1 => cases rx; obtain ⟨its, _, pl, _⟩ := I.tuple s1; exact SeqAt.RcAt.tuple_str z t pl h1
    | dct e => cases rx; obtain ⟨_, _, vs, _, o, es, ep, ho, hc, hd, _⟩ := I.hok _ _ e; exact SeqAt.RcAt.dict_str z t ho hc.1 hd h1
  exact key X.prog X.w _ _ ⟨.bl _, H, I, rfl, q⟩
theorem o2_eqT {K : PySem.W.Frag} : Op2 K (rEqT K) gEqT := fun L H x y d e z Q hL h1 h2 hg k => by
  unfold gEqT at hg
  split at hg
  · cases hg; exact ⟨d, _, dpf h1, dp_str h2, k.bl⟩
  · cases hg
end DL
namespace DL
open PySem PySem.Spec PyProof.Rows L2
variable [Tabs]
def sBy (w : World) : Bool := w.params.followText "set-order"
section
variable {prog : Program} {w : World} {A : Around} {E : Value → Shared → Prop} {s : Shared}
abbrev sK (prog : Program) (w : World) := PySem.strKind prog w
def SetT (prog : Program) (w : World) (h : Heap) (a : Addr) (S : Str → Bool) (n : Nat) : Prop :=
  ∃ o es ep t, h.get? a = some o ∧ o.ExactSet ∧ o.data = .set es ep t ∧ ElemsOf (sK prog w) es.toList ∧ (∀ k, S k = true ↔ ∃ e ∈ es.toList, (sK prog w).is k e.2 = true)
    ∧ es.size < scanBound ∧ t.fits es.size = true ∧ es.size = n ∧ (0 < es.size → t.plain = false) ∧ t.led = !sBy w
theorem SetT.of {h : Heap} {a : Addr} {S : Str → Bool} {n : Nat} (x : SetT prog w h a S n) : h.SetOf (sK prog w) a S n :=
  let ⟨o, es, ep, t, h1, h2, h3, h4, h5, h6, h7, h8, _⟩ := x; ⟨o, es, ep, t, h1, h2, h3, h4, h5, h6, h7, h8⟩
theorem SetT.keep {h h' : Heap} {a : Addr} {S : Str → Bool} {n : Nat} (x : SetT prog w h a S n) (k : ∀ o, h.get? a = some o → h'.get? a = some o) : SetT prog w h' a S n :=
  let ⟨o, es, ep, t, h1, r⟩ := x; ⟨o, es, ep, t, k o h1, r⟩
end
end DL
namespace DL
open PySem PySem.Spec PyProof.Rows L2
variable [Tabs]
end DL
namespace DL
open PySem PySem.Spec PyProof.Rows L2
variable [Tabs]
end DL
namespace DL
open PySem PySem.Spec PyProof.Rows L2
variable [Tabs]
def IsSetIter (h : Heap) (I : Addr) (first : Value) (i : Nat) (d : Addr) (n ep : Nat) : Prop := ∃ o, h.get? I = some o ∧ o.cls = .type "set_iterator" ∧ o.data = .fields #[first, .int i 0, .ref d, .int n 0, .int ep 0]
section
variable {prog : Program} {w : World} {A : Around} {E : Value → Shared → Prop} {s : Shared} {d I tp : Addr} {o : Obj} {es : Array (Int × Value)} {ep : Nat} {t : SetTable} {first : Value} {i n : Nat}
theorem IsSetIter.typeIs (x : IsSetIter s.heap I first i d n ep) : s.TypeIs (.ref I) "set_iterator" := let ⟨o, ho, hc, _⟩ := x; ⟨o, ho, hc⟩
theorem IsSetIter.at {h h' : Heap} (x : IsSetIter h I first i d n ep) (e : ∀ o, h.get? I = some o → h'.get? I = some o) : IsSetIter h' I first i d n ep := let ⟨o, ho, r⟩ := x; ⟨o, e _ ho, r⟩
end
end DL
namespace DL
open PySem PySem.Spec PyProof.Rows L2
variable [Tabs]
end DL
namespace DL
open PySem PySem.Spec PyProof.Rows L2
variable [Tabs]
end DL
namespace DL
open PySem PySem.Spec PyProof.Rows L2
variable [Tabs]
theorem Inv.drawn {X : Cx} {pins : List (Addr × Obj)} {σ : L2.St} {H : Hp} {s : Shared} (I : Inv X pins σ H s) (dr : _) : Inv X pins σ H { s with drawn := dr } :=
  ⟨I.ok, I.os, I.bare, I.base, I.loc, I.cell, I.free, I.freeC, I.pin, I.hok, I.len⟩
end DL
namespace DL
open PySem PySem.Spec PyProof.Rows L2
variable [Tabs]
end DL
namespace DL
open PySem PySem.Spec PyProof.Rows L2
variable [Tabs]
section
variable {X : Cx} {st : Stmt} {e a b c o tg iter : Expr} {es : List Expr} {pos p apos p2 : Pos} {f fa fb fo : FE} {fs : FA} {tc : FT} {F G : FS}
theorem dsg_own {i : Nat} {x y : Str} {pos' p1 p2 : Pos} {j} (hN : X.N.Nodup) (hi : X.N[i]? = some x) (hx : Loc X.env.scope x) (hr : DA X es fs) (hss : starEach (.Constant (.str y) j p1 :: es) X.env = (false, eval (.Constant (.str y) j p1) X.env) :: starEach es X.env := by rfl)
    (hs : swapsWith (.List (.Constant (.str y) j p1 :: es) p2) (some (.Name x pos')) pos.line X.env = pure false := by rfl) (hf : X.fn x = true ∨ X.env.scope.names.lookup x = some .local := by first | exact .inl rfl | exact .inr rfl | assumption) :
    DSg X (.Assign [.Name x pos'] (.List (.Constant (.str y) j p1 :: es) p2) pos) (fOwn i (fLstF (fCons (fC (.str y)) fs))) := fun pins s σ H D I ⟨L, ρ, μ, o, E, ef, k⟩ =>
  psg_set hN hi hx (peg_lst (pag_str hr hss)) hs hf pins s σ H D I (by
    obtain ⟨ds, m, e1, ef⟩ := bnd_some ef
    cases ef
    obtain ⟨ds2, m2, e2, e3⟩ := bnd_some e1
    obtain ⟨d0, m0, e0, e4⟩ := bnd_some e2
    cases e0
    obtain ⟨ds1, m3, e5, e6⟩ := bnd_some e4
    cases e6
    split at e3
    · rename_i hz
      cases e3
      refine ⟨L, ρ, μ, ds1, _, E, e5, fun vs H1 E1 s1 q1 => ⟨by rw [List.length_cons, dps_len q1]; exact hz, fun p hp => ?_⟩⟩
      obtain ⟨E2, s2⟩ := E1.ownNew (ds := .str y :: ds1) i hp (.cons (.str y) q1)
      exact k _ _ _ E2 (s1.trans s2)
    · cases e3)
end
end DL
set_option maxHeartbeats 4000000
namespace Law
open PySem PySem.Spec PyProof.Rows L2 DL
def top (i : Nat) : Stmt := PySem.Challenge.pw_doorhouse_k01_paths_patterns_and_routes.main.body.getD i (.Pass ⟨0, 0, 0, 0⟩)
local instance : Tabs := ⟨[]⟩
structure Txt (K : PySem.W.Frag) (mg : Str → Option Value) : Prop where
  n_all : mg "all" = none
  n_int : mg "int" = none
  n_isinstance : mg "isinstance" = none
  n_len : mg "len" = none
  n_list : mg "list" = none
  n_range : mg "range" = none
  n_repr : mg "repr" = none
  n_set : mg "set" = none
  n_str : mg "str" = none
  n_tuple : mg "tuple" = none
  c_LETTERS : ∃ t, mg "LETTERS" = some (.str "abcdefghijklmnopqrstuvwxyz" t)
  c_MOST_PARTS : ∃ t, mg "MOST_PARTS" = some (.int (5) t)
  c_MOST_ROUTES : ∃ t, mg "MOST_ROUTES" = some (.int (10) t)
  c_MOST_SIGNS : ∃ t, mg "MOST_SIGNS" = some (.int (8) t)
  c_NUMBER_HOLE : ∃ t, mg "NUMBER_HOLE" = some (.int (1) t)
  c_NUMBER_MARK : ∃ t, mg "NUMBER_MARK" = some (.str ":n" t)
  c_VERBS : ∃ u v, mg "VERBS" = some u ∧ RelV v u ∧ ∀ H, Dp K H v (.tuple [(.str "get"), (.str "post")])
  c_WORD : ∃ t, mg "WORD" = some (.int (0) t)
  c_WORD_HOLE : ∃ t, mg "WORD_HOLE" = some (.int (2) t)
  c_WORD_SIGNS : ∃ t, mg "WORD_SIGNS" = some (.str "abcdefghijklmnopqrstuvwxyz0123456789-" t)
  g_is_route : Gf K mg "is_route"
section
variable {P : Program} {w : World} {K : PySem.W.Frag} {mg : Str → Option Value} {base : Heap}
def N_is_short_text : List Str := ["thing", "signs", "sign"]
abbrev s_is_short_text : Stmt := top 5
theorem sc_is_short_text : FnScope N_is_short_text ["thing", "signs"] (defScope s_is_short_text) := ⟨rfl, rfl, rfl, by decide +kernel, rfl, by decide +kernel, by decide +kernel⟩
def B_is_short_text : FS :=
  (fSeq (fIfS (fOr (fNot (fB (fIsA "str" (fVar 0)))) (fNot (fB (fChain (fC (.int (1))) (fNmB 0 (g1 lenD)) (fC (.int (8))) (gI fun i j => .bool (decide (i ≤ j))) (gI fun i j => .bool (decide (i ≤ j)))))))
    (fRet (fC (.bool false)))
    fEnd)
  (fRet (fN (fCons (fLcD (fSg (fVar 0)) (gNm 2) fYes (f2 (fVar 2) (fVar 1) (gInS false)) [2]) fNil) (g1 allD))))
def m_is_short_text : FE := defM 2 3 B_is_short_text
theorem fn_is_short_text (T : Txt K mg) (Z : Df K mg "is_short_text" s_is_short_text)   : Fn P w K mg base "is_short_text" ["thing", "signs"] 1 (spD K m_is_short_text 2) := by
  obtain ⟨f, oc, od, osl, kV, doc, pm, an, cdv, ct, hm, l, c, kp⟩ := Z
  have F0 := fun_mk (st := s_is_short_text) l c kp
  refine ⟨f, _, fn_dat F0 sc_is_short_text (fun cdv A outer s H E hr => ?_), F0.binds (ps := ["thing", "signs"]) fun _ _ _ _ _ _ us hl => match us, hl with | [_, _], _ => rfl, hm, kp⟩
  exact (dss_cons (ds_if (DW.dt (dw_or (dt_not (dt_val (de_isA (T := "str") (.inr (.inl rfl)) rfl T.n_isinstance rfl T.n_str (by decide +kernel) (dv 0)))) (dw_or1 (dt_not (dt_chain o2_cmp o2_cmp op_le op_le de_int (de_nmB (i := 0) oN_len call_len rfl T.n_len (by decide +kernel) rfl (by first | exact Or.inl rfl | exact Or.inr (Or.inl rfl) | exact Or.inr (Or.inr rfl))) (de_cint T.c_MOST_SIGNS rfl))))))
      (dss_one (ds_ret de_bl))
      dss_nil)
    (dss_one (ds_ret (de_callB oN_all (cr_all rfl) rfl T.n_all (by decide +kernel) (da_cons (de_lc (own := [("sign", 2)]) rfl sc_is_short_text.nd (di_str (dv 0)) (blkOk_by (own := [("sign", 2)]) (N := N_is_short_text) (sc := defScope s_is_short_text) (by decide +kernel)) (fun _ _ _ _ _ => (dg_name (i := 2) sc_is_short_text.nd rfl (by first | exact Or.inl rfl | exact Or.inr rfl))) (fun _ _ _ _ _ => dts_nil) (fun _ _ _ _ _ => (de_cmp o2_inS op_in_sign (dv 2) (dv 1) (by with_unfolding_all rfl))) (by decide)) da_nil)))))
def N_is_name : List Str := ["thing"]
abbrev s_is_name : Stmt := top 6
theorem sc_is_name : FnScope N_is_name ["thing"] (defScope s_is_name) := ⟨rfl, rfl, rfl, by decide +kernel, rfl, by decide +kernel, by decide +kernel⟩
def B_is_name : FS :=
  (fRet (fCall m_is_short_text (pNm 0 (pDat (fC (.str "abcdefghijklmnopqrstuvwxyz")) pNil))))
def m_is_name : FE := defM 1 1 B_is_name
theorem fn_is_name (T : Txt K mg) (Z : Df K mg "is_name" s_is_name) (F_is_short_text : Fn P w K mg base "is_short_text" ["thing", "signs"] 1 (spD K m_is_short_text 2))  : Fn P w K mg base "is_name" ["thing"] 2 (spD K m_is_name 1) := by
  obtain ⟨f, oc, od, osl, kV, doc, pm, an, cdv, ct, hm, l, c, kp⟩ := Z
  have F0 := fun_mk (st := s_is_name) l c kp
  refine ⟨f, _, fn_dat F0 sc_is_name (fun cdv A outer s H E hr => ?_), F0.binds (ps := ["thing"]) fun _ _ _ _ _ _ us hl => match us, hl with | [_], _ => rfl, hm, kp⟩
  exact (dss_one (ds_ret (de_callF F_is_short_text (hr.mono (by decide)) rfl (dp_nm (i := 0) rfl (by first | exact Or.inl rfl | exact Or.inr (Or.inl rfl) | exact Or.inr (Or.inr rfl)) (dp_dat (de_cstr T.c_LETTERS rfl) dp_nil)) (lp_nm (lp_dat lp_nil)))))
def N_is_word : List Str := ["thing"]
abbrev s_is_word : Stmt := top 7
theorem sc_is_word : FnScope N_is_word ["thing"] (defScope s_is_word) := ⟨rfl, rfl, rfl, by decide +kernel, rfl, by decide +kernel, by decide +kernel⟩
def B_is_word : FS :=
  (fRet (fCall m_is_short_text (pNm 0 (pDat (fC (.str "abcdefghijklmnopqrstuvwxyz0123456789-")) pNil))))
def m_is_word : FE := defM 1 1 B_is_word
theorem fn_is_word (T : Txt K mg) (Z : Df K mg "is_word" s_is_word) (F_is_short_text : Fn P w K mg base "is_short_text" ["thing", "signs"] 1 (spD K m_is_short_text 2))  : Fn P w K mg base "is_word" ["thing"] 2 (spD K m_is_word 1) := by
  obtain ⟨f, oc, od, osl, kV, doc, pm, an, cdv, ct, hm, l, c, kp⟩ := Z
  have F0 := fun_mk (st := s_is_word) l c kp
  refine ⟨f, _, fn_dat F0 sc_is_word (fun cdv A outer s H E hr => ?_), F0.binds (ps := ["thing"]) fun _ _ _ _ _ _ us hl => match us, hl with | [_], _ => rfl, hm, kp⟩
  exact (dss_one (ds_ret (de_callF F_is_short_text (hr.mono (by decide)) rfl (dp_nm (i := 0) rfl (by first | exact Or.inl rfl | exact Or.inr (Or.inl rfl) | exact Or.inr (Or.inr rfl)) (dp_dat (de_cstr T.c_WORD_SIGNS rfl) dp_nil)) (lp_nm (lp_dat lp_nil)))))
def N_are_unlike : List Str := ["texts"]
abbrev s_are_unlike : Stmt := top 8
theorem sc_are_unlike : FnScope N_are_unlike ["texts"] (defScope s_are_unlike) := ⟨rfl, rfl, rfl, by decide +kernel, rfl, by decide +kernel, by decide +kernel⟩
def B_are_unlike : FS :=
  (fRet (f2 (fLenSet (fVar 0)) (fNmB 0 (g1 lenD)) gEq))
def m_are_unlike : FE := defM 1 1 B_are_unlike
theorem fn_are_unlike (T : Txt K mg) (Z : Df K mg "are_unlike" s_are_unlike)   : Fn P w K mg base "are_unlike" ["texts"] 1 (spD K m_are_unlike 1) := by
  obtain ⟨f, oc, od, osl, kV, doc, pm, an, cdv, ct, hm, l, c, kp⟩ := Z
  have F0 := fun_mk (st := s_are_unlike) l c kp
  refine ⟨f, _, fn_dat F0 sc_are_unlike (fun cdv A outer s H E hr => ?_), F0.binds (ps := ["texts"]) fun _ _ _ _ _ _ us hl => match us, hl with | [_], _ => rfl, hm, kp⟩
  exact (dss_one (ds_ret (de_cmp o2_eq (op_eqA hr.units) (de_lenset rfl rfl T.n_len rfl T.n_set (dv 0)) (de_nmB (i := 0) oN_len call_len rfl T.n_len (by decide +kernel) rfl (by first | exact Or.inl rfl | exact Or.inr (Or.inl rfl) | exact Or.inr (Or.inr rfl))) (nomark _))))
def N_is_verb : List Str := ["thing"]
abbrev s_is_verb : Stmt := top 25
theorem sc_is_verb : FnScope N_is_verb ["thing"] (defScope s_is_verb) := ⟨rfl, rfl, rfl, by decide +kernel, rfl, by decide +kernel, by decide +kernel⟩
def B_is_verb : FS :=
  (fRet (fAndV (fIsA "str" (fVar 0)) (f2 (fVar 0) (fC (.tuple [(.str "get"), (.str "post")])) (gInD false))))
def m_is_verb : FE := defM 1 1 B_is_verb
theorem fn_is_verb (T : Txt K mg) (Z : Df K mg "is_verb" s_is_verb)   : Fn P w K mg base "is_verb" ["thing"] 1 (spD K m_is_verb 1) := by
  obtain ⟨f, oc, od, osl, kV, doc, pm, an, cdv, ct, hm, l, c, kp⟩ := Z
  have F0 := fun_mk (st := s_is_verb) l c kp
  refine ⟨f, _, fn_dat F0 sc_is_verb (fun cdv A outer s H E hr => ?_), F0.binds (ps := ["thing"]) fun _ _ _ _ _ _ us hl => match us, hl with | [_], _ => rfl, hm, kp⟩
  exact (dss_one (ds_ret (de_and (de_isA (T := "str") (.inr (.inl rfl)) rfl T.n_isinstance rfl T.n_str (by decide +kernel) (dv 0)) (de_one (de_cmp o2_inD (op_inX hr.units66) (dv 0) (de_cdat T.c_VERBS rfl) (by with_unfolding_all rfl))))))
def N_pieces_of : List Str := ["thing", "pieces"]
abbrev s_pieces_of : Stmt := top 20
theorem sc_pieces_of : FnScope N_pieces_of ["thing"] (defScope s_pieces_of) := ⟨rfl, rfl, rfl, by decide +kernel, rfl, by decide +kernel, by decide +kernel⟩
def B_pieces_of : FS :=
  (fSeq (fIfS (fOr (fNot (fB (fIsA "str" (fVar 0)))) (fNot (fB (fM1 (fVar 0) (fC (.str "/")) (gSS fun a b => .bool (Txt.startswith a b))))))
    (fRet (fC .none))
    fEnd)
  (fSeq (fIfS (fB (f2 (fVar 0) (fC (.str "/")) gEqT))
    (fRet (fN fNil gLst))
    fEnd)
  (fSeq (fAsg (fM1 (fSl (fVar 0) (fSome (fC (.int (1)))) fNo) (fC (.str "/")) splitD) (gNm 1))
  (fRet (fIf (fB (f2 (fN (fCons (fVar 1) fNil) (g1 lenD)) (fC (.int (5))) (gI fun i j => .bool (decide (i ≤ j))))) (fVar 1) (fC .none))))))
def m_pieces_of : FE := defM 1 2 B_pieces_of
theorem fn_pieces_of (T : Txt K mg) (Z : Df K mg "pieces_of" s_pieces_of)   : Fn P w K mg base "pieces_of" ["thing"] 1 (spD K m_pieces_of 1) := by
  obtain ⟨f, oc, od, osl, kV, doc, pm, an, cdv, ct, hm, l, c, kp⟩ := Z
  have F0 := fun_mk (st := s_pieces_of) l c kp
  refine ⟨f, _, fn_dat F0 sc_pieces_of (fun cdv A outer s H E hr => ?_), F0.binds (ps := ["thing"]) fun _ _ _ _ _ _ us hl => match us, hl with | [_], _ => rfl, hm, kp⟩
  exact (dss_cons (ds_if (DW.dt (dw_or (dt_not (dt_val (de_isA (T := "str") (.inr (.inl rfl)) rfl T.n_isinstance rfl T.n_str (by decide +kernel) (dv 0)))) (dw_or1 (dt_not (dt_val (de_m1 om_bl PySem.F.slot_str_startswith PySem.F.type_str_startswith mt_startswith (dv 0) de_str))))))
      (dss_one (ds_ret de_non))
      dss_nil)
    (dss_cons (ds_if (dt_cmp o2_eqT (op_eqT hr.units) (dv 0) de_str (nomark _))
      (dss_one (ds_ret (de_lst da_nil)))
      dss_nil)
    (dss_cons (ds_set (x := "pieces") (i := 1) sc_pieces_of.nd rfl (by first | exact Or.inl rfl | exact Or.inr rfl) (de_m1 om_split PySem.F.slot_str_split PySem.F.type_str_split mt_split (de_slice (dv 0) (do_some de_int) do_none) de_str))
    (dss_one (ds_ret (de_ifExp (dt_cmp o2_cmp op_le (de_callB oN_len call_len rfl T.n_len (by decide +kernel) (da_cons (dv 1) da_nil)) (de_cint T.c_MOST_PARTS rfl) (nomark _)) (dv 1) de_non))))))
def N_read_part : List Str := ["piece", "inner", "name"]
abbrev s_read_part : Stmt := top 22
theorem sc_read_part : FnScope N_read_part ["piece"] (defScope s_read_part) := ⟨rfl, rfl, rfl, by decide +kernel, rfl, by decide +kernel, by decide +kernel⟩
def B_read_part : FS :=
  (fSeq (fIfS (fB (fCall m_is_word (pNm 0 pNil)))
    (fRet (fN (fCons (fC (.int (0))) (fCons (fVar 0) fNil)) DL.gTup))
    fEnd)
  (fSeq (fIfS (fOr (fNot (fB (fM1 (fVar 0) (fC (.str "{")) (gSS fun a b => .bool (Txt.startswith a b))))) (fNot (fB (fM1 (fVar 0) (fC (.str "}")) (gSS fun a b => .bool (Txt.endswith a b))))))
    (fRet (fC .none))
    fEnd)
  (fSeq (fAsg (fSl (fVar 0) (fSome (fC (.int (1)))) (fSome (f1I (fun i => -i) (fC (.int (1)))))) (gNm 1))
  (fSeq (fIfS (fB (fCall m_is_name (pNm 1 pNil)))
    (fRet (fN (fCons (fC (.int (2))) (fCons (fVar 1) fNil)) DL.gTup))
    fEnd)
  (fSeq (fAsg (fM1 (fVar 1) (fC (.str ":n")) remSD) (gNm 2))
  (fRet (fIf (fB (fCall m_is_name (pNm 2 pNil))) (fN (fCons (fC (.int (1))) (fCons (fVar 2) fNil)) DL.gTup) (fC .none))))))))
def m_read_part : FE := defM 1 3 B_read_part
theorem fn_read_part (T : Txt K mg) (Z : Df K mg "read_part" s_read_part) (F_is_name : Fn P w K mg base "is_name" ["thing"] 2 (spD K m_is_name 1)) (F_is_word : Fn P w K mg base "is_word" ["thing"] 2 (spD K m_is_word 1))  : Fn P w K mg base "read_part" ["piece"] 3 (spD K m_read_part 1) := by
  obtain ⟨f, oc, od, osl, kV, doc, pm, an, cdv, ct, hm, l, c, kp⟩ := Z
  have F0 := fun_mk (st := s_read_part) l c kp
  refine ⟨f, _, fn_dat F0 sc_read_part (fun cdv A outer s H E hr => ?_), F0.binds (ps := ["piece"]) fun _ _ _ _ _ _ us hl => match us, hl with | [_], _ => rfl, hm, kp⟩
  exact (dss_cons (ds_if (dt_val (de_callF F_is_word (hr.mono (by decide)) rfl (dp_nm (i := 0) rfl (by first | exact Or.inl rfl | exact Or.inr (Or.inl rfl) | exact Or.inr (Or.inr rfl)) dp_nil) (lp_nm lp_nil)))
      (dss_one (ds_ret (de_tup (da_cons (de_cint T.c_WORD rfl) (da_cons (dv 0) da_nil)))))
      dss_nil)
    (dss_cons (ds_if (DW.dt (dw_or (dt_not (dt_val (de_m1 om_bl PySem.F.slot_str_startswith PySem.F.type_str_startswith mt_startswith (dv 0) de_str))) (dw_or1 (dt_not (dt_val (de_m1 om_bl PySem.F.slot_str_endswith PySem.F.type_str_endswith mt_endswith (dv 0) de_str))))))
      (dss_one (ds_ret de_non))
      dss_nil)
    (dss_cons (ds_set (x := "inner") (i := 1) sc_read_part.nd rfl (by first | exact Or.inl rfl | exact Or.inr rfl) (de_slice (dv 0) (do_some de_int) (do_some (de_neg de_int))))
    (dss_cons (ds_if (dt_val (de_callF F_is_name (hr.mono (by decide)) rfl (dp_nm (i := 1) rfl (by first | exact Or.inl rfl | exact Or.inr (Or.inl rfl) | exact Or.inr (Or.inr rfl)) dp_nil) (lp_nm lp_nil)))
      (dss_one (ds_ret (de_tup (da_cons (de_cint T.c_WORD_HOLE rfl) (da_cons (dv 1) da_nil)))))
      dss_nil)
    (dss_cons (ds_set (x := "name") (i := 2) sc_read_part.nd rfl (by first | exact Or.inl rfl | exact Or.inr rfl) (de_m1 om_remS PySem.F.slot_str_removesuffix PySem.F.type_str_removesuffix mt_removesuffix (dv 1) (de_cstr T.c_NUMBER_MARK rfl)))
    (dss_one (ds_ret (de_ifExp (dt_val (de_callF F_is_name (hr.mono (by decide)) rfl (dp_nm (i := 2) rfl (by first | exact Or.inl rfl | exact Or.inr (Or.inl rfl) | exact Or.inr (Or.inr rfl)) dp_nil) (lp_nm lp_nil))) (de_tup (da_cons (de_cint T.c_NUMBER_HOLE rfl) (da_cons (dv 2) da_nil))) de_non))))))))
def N_holes_in : List Str := ["parts", "part"]
abbrev s_holes_in : Stmt := top 23
theorem sc_holes_in : FnScope N_holes_in ["parts"] (defScope s_holes_in) := ⟨rfl, rfl, rfl, by decide +kernel, rfl, by decide +kernel, by decide +kernel⟩
def B_holes_in : FS :=
  (fRet (fLcD (fSq (fVar 0)) (gNm 1) (fB (f2 (f2 (fVar 1) (fC (.int (0))) ixD) (fC (.int (0))) gNe)) (fVar 1) [1]))
def m_holes_in : FE := defM 1 2 B_holes_in
theorem fn_holes_in (T : Txt K mg) (Z : Df K mg "holes_in" s_holes_in)   : Fn P w K mg base "holes_in" ["parts"] 1 (spD K m_holes_in 1) := by
  obtain ⟨f, oc, od, osl, kV, doc, pm, an, cdv, ct, hm, l, c, kp⟩ := Z
  have F0 := fun_mk (st := s_holes_in) l c kp
  refine ⟨f, _, fn_dat F0 sc_holes_in (fun cdv A outer s H E hr => ?_), F0.binds (ps := ["parts"]) fun _ _ _ _ _ _ us hl => match us, hl with | [_], _ => rfl, hm, kp⟩
  exact (dss_one (ds_ret (de_lc (own := [("part", 1)]) rfl sc_holes_in.nd (di_seq (dv 0)) (blkOk_by (own := [("part", 1)]) (N := N_holes_in) (sc := defScope s_holes_in) (by decide +kernel)) (fun _ _ _ _ _ => (dg_name (i := 1) sc_holes_in.nd rfl (by first | exact Or.inl rfl | exact Or.inr rfl))) (fun _ _ _ _ _ => (dts_one (dt_cmp o2_ne (op_neA hr.units) (de_ix (dv 1) de_int (fun _ _ => rfl)) (de_cint T.c_WORD rfl) (nomark _)))) (fun _ _ _ _ _ => (dv 1)) (by decide))))
def N_is_pattern : List Str := ["thing", "pieces", "parts", "piece", "sort", "name"]
abbrev s_is_pattern : Stmt := top 24
theorem sc_is_pattern : FnScope N_is_pattern ["thing"] (defScope s_is_pattern) := ⟨rfl, rfl, rfl, by decide +kernel, rfl, by decide +kernel, by decide +kernel⟩
def B_is_pattern : FS :=
  (fSeq (fAsg (fCall m_pieces_of (pNm 0 pNil)) (gNm 1))
  (fSeq (fIfS (fB (f2 (fVar 1) (fC .none) gIsN))
    (fRet (fC (.bool false)))
    fEnd)
  (fSeq (fAsg (fLcD (fSq (fVar 1)) (gNm 3) fYes (fCall m_read_part (pNm 3 pNil)) [3]) (gNm 2))
  (fRet (fAndV (f2 (fC .none) (fVar 2) (gInD true)) (fCall m_are_unlike (pDat (fLcD (fSq (fCall m_holes_in (pNm 2 pNil))) (gTu 2 (gCo (gNm 4) (gCo (gNm 5) gNo))) fYes (fVar 5) [4, 5]) pNil)))))))
def m_is_pattern : FE := defM 1 6 B_is_pattern
theorem fn_is_pattern (T : Txt K mg) (Z : Df K mg "is_pattern" s_is_pattern) (F_holes_in : Fn P w K mg base "holes_in" ["parts"] 1 (spD K m_holes_in 1)) (F_are_unlike : Fn P w K mg base "are_unlike" ["texts"] 1 (spD K m_are_unlike 1)) (F_read_part : Fn P w K mg base "read_part" ["piece"] 3 (spD K m_read_part 1)) (F_pieces_of : Fn P w K mg base "pieces_of" ["thing"] 1 (spD K m_pieces_of 1))  : Fn P w K mg base "is_pattern" ["thing"] 4 (spD K m_is_pattern 1) := by
  obtain ⟨f, oc, od, osl, kV, doc, pm, an, cdv, ct, hm, l, c, kp⟩ := Z
  have F0 := fun_mk (st := s_is_pattern) l c kp
  refine ⟨f, _, fn_dat F0 sc_is_pattern (fun cdv A outer s H E hr => ?_), F0.binds (ps := ["thing"]) fun _ _ _ _ _ _ us hl => match us, hl with | [_], _ => rfl, hm, kp⟩
  exact (dss_cons (ds_set (x := "pieces") (i := 1) sc_is_pattern.nd rfl (by first | exact Or.inl rfl | exact Or.inr rfl) (de_callF F_pieces_of (hr.mono (by decide)) rfl (dp_nm (i := 0) rfl (by first | exact Or.inl rfl | exact Or.inr (Or.inl rfl) | exact Or.inr (Or.inr rfl)) dp_nil) (lp_nm lp_nil)))
    (dss_cons (ds_if (dt_cmp o2_isN op_isN (dv 1) de_non (nomark _))
      (dss_one (ds_ret de_bl))
      dss_nil)
    (dss_cons (ds_setLc (i := 2) (own := [("piece", 3)]) rfl sc_is_pattern.nd rfl rfl (sw_true rfl rfl rfl (by decide +kernel)) (di_seq (dv 1)) (blkOk_by (own := [("piece", 3)]) (N := N_is_pattern) (sc := defScope s_is_pattern) (by decide +kernel)) (fun _ _ _ _ _ => (dg_name (i := 3) sc_is_pattern.nd rfl (by first | exact Or.inl rfl | exact Or.inr rfl))) (fun _ _ _ _ _ => dts_nil) (fun _ _ _ _ _ => (de_callF F_read_part (hr.mono (by decide)) rfl (dp_nm (i := 3) rfl (by first | exact Or.inl rfl | exact Or.inr (Or.inl rfl) | exact Or.inr (Or.inr rfl)) dp_nil) (lp_nm lp_nil))) (by decide))
    (dss_one (ds_ret (de_and (de_cmp o2_inD (op_ninX hr.units66) de_non (dv 2) (by with_unfolding_all rfl)) (de_one (de_callF F_are_unlike (hr.mono (by decide)) rfl (dp_dat (de_lc (own := [("sort", 4), ("name", 5)]) rfl sc_is_pattern.nd (di_seq (de_callF F_holes_in (hr.mono (by decide)) rfl (dp_nm (i := 2) rfl (by first | exact Or.inl rfl | exact Or.inr (Or.inl rfl) | exact Or.inr (Or.inr rfl)) dp_nil) (lp_nm lp_nil))) (blkOk_by (own := [("sort", 4), ("name", 5)]) (N := N_is_pattern) (sc := defScope s_is_pattern) (by decide +kernel)) (fun _ _ _ _ _ => (dg_tup rfl (dgs_cons (dg_name (i := 4) sc_is_pattern.nd rfl (by first | exact Or.inl rfl | exact Or.inr rfl)) (dgs_cons (dg_name (i := 5) sc_is_pattern.nd rfl (by first | exact Or.inl rfl | exact Or.inr rfl)) dgs_nil)))) (fun _ _ _ _ _ => dts_nil) (fun _ _ _ _ _ => (dv 5)) (by decide)) dp_nil) (lp_dat lp_nil)))))))))
def N_is_route : List Str := ["thing", "name", "verb", "pattern"]
abbrev s_is_route : Stmt := top 26
theorem sc_is_route : FnScope N_is_route ["thing"] (defScope s_is_route) := ⟨rfl, rfl, rfl, by decide +kernel, rfl, by decide +kernel, by decide +kernel⟩
def B_is_route : FS :=
  (fSeq (fIfS (fOr (fNot (fB (fIsA "tuple" (fVar 0)))) (fB (f2 (fNmB 0 (g1 lenD)) (fC (.int (3))) gNe)))
    (fRet (fC (.bool false)))
    fEnd)
  (fSeq (fAsg (fVar 0) (gTu 3 (gCo (gNm 1) (gCo (gNm 2) (gCo (gNm 3) gNo)))))
  (fRet (fAndV (fCall m_is_name (pNm 1 pNil)) (fAndV (fCall m_is_verb (pNm 2 pNil)) (fCall m_is_pattern (pNm 3 pNil)))))))
def m_is_route : FE := defM 1 4 B_is_route
theorem fn_is_route (T : Txt K mg) (Z : Df K mg "is_route" s_is_route) (F_is_name : Fn P w K mg base "is_name" ["thing"] 2 (spD K m_is_name 1)) (F_is_verb : Fn P w K mg base "is_verb" ["thing"] 1 (spD K m_is_verb 1)) (F_is_pattern : Fn P w K mg base "is_pattern" ["thing"] 4 (spD K m_is_pattern 1))  : Fn P w K mg base "is_route" ["thing"] 5 (spD K m_is_route 1) := by
  obtain ⟨f, oc, od, osl, kV, doc, pm, an, cdv, ct, hm, l, c, kp⟩ := Z
  have F0 := fun_mk (st := s_is_route) l c kp
  refine ⟨f, _, fn_dat F0 sc_is_route (fun cdv A outer s H E hr => ?_), F0.binds (ps := ["thing"]) fun _ _ _ _ _ _ us hl => match us, hl with | [_], _ => rfl, hm, kp⟩
  exact (dss_cons (ds_if (DW.dt (dw_or (dt_not (dt_val (de_isA (T := "tuple") (.inl rfl) rfl T.n_isinstance rfl T.n_tuple (by decide +kernel) (dv 0)))) (dw_or1 (dt_cmp o2_ne (op_neA hr.units) (de_nmB (i := 0) oN_len call_len rfl T.n_len (by decide +kernel) rfl (by first | exact Or.inl rfl | exact Or.inr (Or.inl rfl) | exact Or.inr (Or.inr rfl))) de_int (nomark _)))))
      (dss_one (ds_ret de_bl))
      dss_nil)
    (dss_cons (ds_asg (dv 0) (dg_tup rfl (dgs_cons (dg_name (i := 1) sc_is_route.nd rfl (by first | exact Or.inl rfl | exact Or.inr rfl)) (dgs_cons (dg_name (i := 2) sc_is_route.nd rfl (by first | exact Or.inl rfl | exact Or.inr rfl)) (dgs_cons (dg_name (i := 3) sc_is_route.nd rfl (by first | exact Or.inl rfl | exact Or.inr rfl)) dgs_nil)))))
    (dss_one (ds_ret (de_and (de_callF F_is_name (hr.mono (by decide)) rfl (dp_nm (i := 1) rfl (by first | exact Or.inl rfl | exact Or.inr (Or.inl rfl) | exact Or.inr (Or.inr rfl)) dp_nil) (lp_nm lp_nil)) (de_and (de_callF F_is_verb (hr.mono (by decide)) rfl (dp_nm (i := 2) rfl (by first | exact Or.inl rfl | exact Or.inr (Or.inl rfl) | exact Or.inr (Or.inr rfl)) dp_nil) (lp_nm lp_nil)) (de_one (de_callF F_is_pattern (hr.mono (by decide)) rfl (dp_nm (i := 3) rfl (by first | exact Or.inl rfl | exact Or.inr (Or.inl rfl) | exact Or.inr (Or.inr rfl)) dp_nil) (lp_nm lp_nil)))))))))
def N_are_named_rows__is_route : List Str := ["thing", "least", "most", "is_row", "row"]
abbrev s_are_named_rows__is_route : Stmt := top 9
theorem sc_are_named_rows__is_route : FnScope N_are_named_rows__is_route ["thing", "least", "most", "is_row"] (defScope s_are_named_rows__is_route) := ⟨rfl, rfl, rfl, by decide +kernel, rfl, by decide +kernel, by decide +kernel⟩
def B_are_named_rows__is_route : FS :=
  (fSeq (fIfS (fOr (fNot (fB (fIsA "tuple" (fVar 0)))) (fNot (fB (fChain (fVar 1) (fNmB 0 (g1 lenD)) (fVar 2) (gI fun i j => .bool (decide (i ≤ j))) (gI fun i j => .bool (decide (i ≤ j)))))))
    (fRet (fC (.bool false)))
    fEnd)
  (fRet (fAndV (fN (fCons (fLcD (fSq (fVar 0)) (gNm 4) fYes (fCallL "is_route" 3 m_is_route (pNm 4 pNil)) [4]) fNil) (g1 allD)) (fCall m_are_unlike (pDat (fLcD (fSq (fVar 0)) (gNm 4) fYes (f2 (fVar 4) (fC (.int (0))) ixD) [4]) pNil)))))
def m_are_named_rows__is_route : FE := defM 4 5 B_are_named_rows__is_route
theorem fn_are_named_rows__is_route (T : Txt K mg) (Z : Df K mg "are_named_rows" s_are_named_rows__is_route) (F_is_route : Fn P w K mg base "is_route" ["thing"] 5 (spD K m_is_route 1)) (F_are_unlike : Fn P w K mg base "are_unlike" ["texts"] 1 (spD K m_are_unlike 1))  : Fn P w K mg base "are_named_rows" ["thing", "least", "most", "is_row"] 6 (spD K m_are_named_rows__is_route 4) := by
  obtain ⟨f, oc, od, osl, kV, doc, pm, an, cdv, ct, hm, l, c, kp⟩ := Z
  have F0 := fun_mk (st := s_are_named_rows__is_route) l c kp
  refine ⟨f, _, fn_dat F0 sc_are_named_rows__is_route (fun cdv A outer s H E hr => ?_), F0.binds (ps := ["thing", "least", "most", "is_row"]) fun _ _ _ _ _ _ us hl => match us, hl with | [_, _, _, _], _ => rfl, hm, kp⟩
  exact (dss_cons (ds_if (DW.dt (dw_or (dt_not (dt_val (de_isA (T := "tuple") (.inl rfl) rfl T.n_isinstance rfl T.n_tuple (by decide +kernel) (dv 0)))) (dw_or1 (dt_not (dt_chain o2_cmp o2_cmp op_le op_le (dv 1) (de_nmB (i := 0) oN_len call_len rfl T.n_len (by decide +kernel) rfl (by first | exact Or.inl rfl | exact Or.inr (Or.inl rfl) | exact Or.inr (Or.inr rfl))) (dv 2))))))
      (dss_one (ds_ret de_bl))
      dss_nil)
    (dss_one (ds_ret (de_and (de_callB oN_all (cr_all rfl) rfl T.n_all (by decide +kernel) (da_cons (de_lc (own := [("row", 4)]) rfl sc_are_named_rows__is_route.nd (di_seq (dv 0)) (blkOk_by (own := [("row", 4)]) (N := N_are_named_rows__is_route) (sc := defScope s_are_named_rows__is_route) (by decide +kernel)) (fun _ _ _ _ _ => (dg_name (i := 4) sc_are_named_rows__is_route.nd rfl (by first | exact Or.inl rfl | exact Or.inr rfl))) (fun _ _ _ _ _ => dts_nil) (fun _ _ _ _ _ => (de_callL (i := 3) F_is_route T.g_is_route (hr.mono (by decide)) rfl (by first | exact Or.inl rfl | exact Or.inr (Or.inl rfl) | exact Or.inr (Or.inr rfl)) (dp_nm (i := 4) rfl (by first | exact Or.inl rfl | exact Or.inr (Or.inl rfl) | exact Or.inr (Or.inr rfl)) dp_nil) (lp_nm lp_nil))) (by decide)) da_nil)) (de_one (de_callF F_are_unlike (hr.mono (by decide)) rfl (dp_dat (de_lc (own := [("row", 4)]) rfl sc_are_named_rows__is_route.nd (di_seq (dv 0)) (blkOk_by (own := [("row", 4)]) (N := N_are_named_rows__is_route) (sc := defScope s_are_named_rows__is_route) (by decide +kernel)) (fun _ _ _ _ _ => (dg_name (i := 4) sc_are_named_rows__is_route.nd rfl (by first | exact Or.inl rfl | exact Or.inr rfl))) (fun _ _ _ _ _ => dts_nil) (fun _ _ _ _ _ => (de_ix (dv 4) de_int (fun _ _ => rfl))) (by decide)) dp_nil) (lp_dat lp_nil)))))))
def N_is_path : List Str := ["thing", "pieces", "piece"]
abbrev s_is_path : Stmt := top 21
theorem sc_is_path : FnScope N_is_path ["thing"] (defScope s_is_path) := ⟨rfl, rfl, rfl, by decide +kernel, rfl, by decide +kernel, by decide +kernel⟩
def B_is_path : FS :=
  (fSeq (fAsg (fCall m_pieces_of (pNm 0 pNil)) (gNm 1))
  (fRet (fAndV (f2 (fVar 1) (fC .none) gNotN) (fN (fCons (fLcD (fSq (fVar 1)) (gNm 2) fYes (fCall m_is_word (pNm 2 pNil)) [2]) fNil) (g1 allD)))))
def m_is_path : FE := defM 1 3 B_is_path
theorem fn_is_path (T : Txt K mg) (Z : Df K mg "is_path" s_is_path) (F_is_word : Fn P w K mg base "is_word" ["thing"] 2 (spD K m_is_word 1)) (F_pieces_of : Fn P w K mg base "pieces_of" ["thing"] 1 (spD K m_pieces_of 1))  : Fn P w K mg base "is_path" ["thing"] 3 (spD K m_is_path 1) := by
  obtain ⟨f, oc, od, osl, kV, doc, pm, an, cdv, ct, hm, l, c, kp⟩ := Z
  have F0 := fun_mk (st := s_is_path) l c kp
  refine ⟨f, _, fn_dat F0 sc_is_path (fun cdv A outer s H E hr => ?_), F0.binds (ps := ["thing"]) fun _ _ _ _ _ _ us hl => match us, hl with | [_], _ => rfl, hm, kp⟩
  exact (dss_cons (ds_set (x := "pieces") (i := 1) sc_is_path.nd rfl (by first | exact Or.inl rfl | exact Or.inr rfl) (de_callF F_pieces_of (hr.mono (by decide)) rfl (dp_nm (i := 0) rfl (by first | exact Or.inl rfl | exact Or.inr (Or.inl rfl) | exact Or.inr (Or.inr rfl)) dp_nil) (lp_nm lp_nil)))
    (dss_one (ds_ret (de_and (de_cmp o2_notN op_notN (dv 1) de_non (nomark _)) (de_one (de_callB oN_all (cr_all rfl) rfl T.n_all (by decide +kernel) (da_cons (de_lc (own := [("piece", 2)]) rfl sc_is_path.nd (di_seq (dv 1)) (blkOk_by (own := [("piece", 2)]) (N := N_is_path) (sc := defScope s_is_path) (by decide +kernel)) (fun _ _ _ _ _ => (dg_name (i := 2) sc_is_path.nd rfl (by first | exact Or.inl rfl | exact Or.inr rfl))) (fun _ _ _ _ _ => dts_nil) (fun _ _ _ _ _ => (de_callF F_is_word (hr.mono (by decide)) rfl (dp_nm (i := 2) rfl (by first | exact Or.inl rfl | exact Or.inr (Or.inl rfl) | exact Or.inr (Or.inr rfl)) dp_nil) (lp_nm lp_nil))) (by decide)) da_nil)))))))
def N_are_routes : List Str := ["thing"]
abbrev s_are_routes : Stmt := top 27
theorem sc_are_routes : FnScope N_are_routes ["thing"] (defScope s_are_routes) := ⟨rfl, rfl, rfl, by decide +kernel, rfl, by decide +kernel, by decide +kernel⟩
def B_are_routes : FS :=
  (fRet (fCall m_are_named_rows__is_route (pNm 0 (pDat (fC (.int (1))) (pDat (fC (.int (10))) (pFn "is_route" pNil))))))
def m_are_routes : FE := defM 1 1 B_are_routes
theorem fn_are_routes (T : Txt K mg) (Z : Df K mg "are_routes" s_are_routes) (F_are_named_rows__is_route : Fn P w K mg base "are_named_rows" ["thing", "least", "most", "is_row"] 6 (spD K m_are_named_rows__is_route 4))  : Fn P w K mg base "are_routes" ["thing"] 7 (spD K m_are_routes 1) := by
  obtain ⟨f, oc, od, osl, kV, doc, pm, an, cdv, ct, hm, l, c, kp⟩ := Z
  have F0 := fun_mk (st := s_are_routes) l c kp
  refine ⟨f, _, fn_dat F0 sc_are_routes (fun cdv A outer s H E hr => ?_), F0.binds (ps := ["thing"]) fun _ _ _ _ _ _ us hl => match us, hl with | [_], _ => rfl, hm, kp⟩
  exact (dss_one (ds_ret (de_callF F_are_named_rows__is_route (hr.mono (by decide)) rfl (dp_nm (i := 0) rfl (by first | exact Or.inl rfl | exact Or.inr (Or.inl rfl) | exact Or.inr (Or.inr rfl)) (dp_dat de_int (dp_dat (de_cint T.c_MOST_ROUTES rfl) (dp_fn T.g_is_route rfl dp_nil)))) (lp_nm (lp_dat (lp_dat (lp_fn lp_nil)))))))
def N__law_cell : List Str := ["_law_script", "_law_k"]
abbrev s__law_cell : Stmt := top 29
theorem sc__law_cell : FnScope N__law_cell ["_law_script", "_law_k"] (defScope s__law_cell) := ⟨rfl, rfl, rfl, by decide +kernel, rfl, by decide +kernel, by decide +kernel⟩
def B__law_cell : FS :=
  (fSeq (fIfS (fB (f2 (fVar 1) (fNmB 0 (g1 lenD)) (gI fun i j => .bool (decide (i < j)))))
    (fRet (fNmI 0 (fVar 1)))
    fEnd)
  (fRet (fC (.int (0)))))
def m__law_cell : FE := defM 2 2 B__law_cell
theorem fn__law_cell (T : Txt K mg) (Z : Df K mg "_law_cell" s__law_cell)   : Fn P w K mg base "_law_cell" ["_law_script", "_law_k"] 1 (spD K m__law_cell 2) := by
  obtain ⟨f, oc, od, osl, kV, doc, pm, an, cdv, ct, hm, l, c, kp⟩ := Z
  have F0 := fun_mk (st := s__law_cell) l c kp
  refine ⟨f, _, fn_dat F0 sc__law_cell (fun cdv A outer s H E hr => ?_), F0.binds (ps := ["_law_script", "_law_k"]) fun _ _ _ _ _ _ us hl => match us, hl with | [_, _], _ => rfl, hm, kp⟩
  exact (dss_cons (ds_if (dt_cmp o2_cmp op_lt (dv 1) (de_nmB (i := 0) oN_len call_len rfl T.n_len (by decide +kernel) rfl (by first | exact Or.inl rfl | exact Or.inr (Or.inl rfl) | exact Or.inr (Or.inr rfl))) (nomark _))
      (dss_one (ds_ret (de_nmI (i := 0) rfl (by first | exact Or.inl rfl | exact Or.inr (Or.inl rfl) | exact Or.inr (Or.inr rfl)) (dv 1) (fun _ _ => rfl))))
      dss_nil)
    (dss_one (ds_ret de_int)))
def N__law_pen : List Str := ["_law_cell_here"]
abbrev s__law_pen : Stmt := top 30
theorem sc__law_pen : FnScope N__law_pen ["_law_cell_here"] (defScope s__law_pen) := ⟨rfl, rfl, rfl, by decide +kernel, rfl, by decide +kernel, by decide +kernel⟩
def m__law_pen : FF := defF 1 1 (fLstF (fCons (fVar 0) (fCons (fN (fCons (f2 (fVar 0) (f2 (fC (.int (10))) (fC (.int (18))) (gIC cPow fun i j => i ^ j.toNat)) (gI fun i j => .bool (decide (j ≤ i)))) fNil) (g1 intD)) fNil)))
theorem fn__law_pen (T : Txt K mg) (Z : Df K mg "_law_pen" s__law_pen)   : Fn P w K mg base "_law_pen" ["_law_cell_here"] 1 (spF K m__law_pen 1) := by
  obtain ⟨f, oc, od, osl, kV, doc, pm, an, cdv, ct, hm, l, c, kp⟩ := Z
  have F0 := fun_mk (st := s__law_pen) l c kp
  refine ⟨f, _, fn_new F0 sc__law_pen rfl (fun cdv A outer s H E hr => ?_), F0.binds (ps := ["_law_cell_here"]) fun _ _ _ _ _ _ us hl => match us, hl with | [_], _ => rfl, hm, kp⟩
  exact (df_lst (da_cons (dv 0) (da_cons (de_callTy oN_int call_intA rfl T.n_int (by decide +kernel) (da_cons (de_cmp o2_cmp op_ge (dv 0) (de_op o2_pow op_pow de_int de_int) (nomark _)) da_nil)) da_nil)))
def N__law_draw : List Str := ["_law_pen_here", "_law_many", "_law_digit"]
abbrev s__law_draw : Stmt := top 31
theorem sc__law_draw : FnScope N__law_draw ["_law_pen_here", "_law_many"] (defScope s__law_draw) := ⟨rfl, rfl, rfl, by decide +kernel, rfl, by decide +kernel, by decide +kernel⟩
def B__law_draw : FS :=
  (fSeq (fIfS (fB (f2 (fNmI 0 (fC (.int (1)))) (fC (.int (1))) gEq))
    (fSeq (fAsg (f2 (fNmI 0 (fC (.int (0)))) (fVar 1) (gIC cMod fun i j => i % j)) (gNm 2))
  (fSeq (fSetI 0 0 (f2 (fNmI 0 (fC (.int (0)))) (fVar 1) (gIC cDiv fun i j => i / j)))
  (fRet (fVar 2))))
    fEnd)
  (fSeq (fSetI 0 0 (f2 (f2 (f2 (f2 (fNmI 0 (fC (.int (0)))) (fC (.int (2147483629))) (gIC cMod fun i j => i % j)) (fC (.int (48271))) (gIC cMul fun i j => i * j)) (fC (.int (11))) gAdd) (fC (.int (2147483629))) (gIC cMod fun i j => i % j)))
  (fRet (f2 (f2 (f2 (f2 (f2 (fNmI 0 (fC (.int (0)))) (fNmI 0 (fC (.int (0)))) (gIC cMul fun i j => i * j)) (f2 (fC (.int (40692))) (fNmI 0 (fC (.int (0)))) (gIC cMul fun i j => i * j)) gAdd) (fC (.int (2147483647))) (gIC cMod fun i j => i % j)) (fC (.int (8))) (gIC cDiv fun i j => i / j)) (fVar 1) (gIC cMod fun i j => i % j)))))
def m__law_draw : FE := defM 2 3 B__law_draw
theorem fn__law_draw (T : Txt K mg) (Z : Df K mg "_law_draw" s__law_draw)   : Fn P w K mg base "_law_draw" ["_law_pen_here", "_law_many"] 1 (spD K m__law_draw 2) := by
  obtain ⟨f, oc, od, osl, kV, doc, pm, an, cdv, ct, hm, l, c, kp⟩ := Z
  have F0 := fun_mk (st := s__law_draw) l c kp
  refine ⟨f, _, fn_dat F0 sc__law_draw (fun cdv A outer s H E hr => ?_), F0.binds (ps := ["_law_pen_here", "_law_many"]) fun _ _ _ _ _ _ us hl => match us, hl with | [_, _], _ => rfl, hm, kp⟩
  exact (dss_cons (ds_if (dt_cmp o2_eq (op_eqA hr.units) (de_nmI (i := 0) rfl (by first | exact Or.inl rfl | exact Or.inr (Or.inl rfl) | exact Or.inr (Or.inr rfl)) de_int (fun _ _ => rfl)) de_int (nomark _))
      (dss_cons (ds_set (x := "_law_digit") (i := 2) sc__law_draw.nd rfl (by first | exact Or.inl rfl | exact Or.inr rfl) (de_op o2_mod op_mod (de_nmI (i := 0) rfl (by first | exact Or.inl rfl | exact Or.inr (Or.inl rfl) | exact Or.inr (Or.inr rfl)) de_int (fun _ _ => rfl)) (dv 1)))
    (dss_cons (ds_setI (i := 0) rfl (by first | exact Or.inl rfl | exact Or.inr (Or.inl rfl) | exact Or.inr (Or.inr rfl)) (de_op o2_div op_fdiv (de_nmI (i := 0) rfl (by first | exact Or.inl rfl | exact Or.inr (Or.inl rfl) | exact Or.inr (Or.inr rfl)) de_int (fun _ _ => rfl)) (dv 1)))
    (dss_one (ds_ret (dv 2)))))
      dss_nil)
    (dss_cons (ds_setI (i := 0) rfl (by first | exact Or.inl rfl | exact Or.inr (Or.inl rfl) | exact Or.inr (Or.inr rfl)) (de_op o2_mod op_mod (de_op o2_add op_addA (de_op o2_mul op_mul (de_op o2_mod op_mod (de_nmI (i := 0) rfl (by first | exact Or.inl rfl | exact Or.inr (Or.inl rfl) | exact Or.inr (Or.inr rfl)) de_int (fun _ _ => rfl)) de_int) de_int) de_int) de_int))
    (dss_one (ds_ret (de_op o2_mod op_mod (de_op o2_div op_fdiv (de_op o2_mod op_mod (de_op o2_add op_addA (de_op o2_mul op_mul (de_nmI (i := 0) rfl (by first | exact Or.inl rfl | exact Or.inr (Or.inl rfl) | exact Or.inr (Or.inr rfl)) de_int (fun _ _ => rfl)) (de_nmI (i := 0) rfl (by first | exact Or.inl rfl | exact Or.inr (Or.inl rfl) | exact Or.inr (Or.inr rfl)) de_int (fun _ _ => rfl))) (de_op o2_mul op_mul de_int (de_nmI (i := 0) rfl (by first | exact Or.inl rfl | exact Or.inr (Or.inl rfl) | exact Or.inr (Or.inr rfl)) de_int (fun _ _ => rfl)))) de_int) de_int) (dv 1))))))
def N__law_pick : List Str := ["_law_pen_here", "_law_things"]
abbrev s__law_pick : Stmt := top 32
theorem sc__law_pick : FnScope N__law_pick ["_law_pen_here", "_law_things"] (defScope s__law_pick) := ⟨rfl, rfl, rfl, by decide +kernel, rfl, by decide +kernel, by decide +kernel⟩
def B__law_pick : FS :=
  (fRet (fNmI 1 (fCall m__law_draw (pNm 0 (pDat (fNmB 1 (g1 lenD)) pNil)))))
def m__law_pick : FE := defM 2 2 B__law_pick
theorem fn__law_pick (T : Txt K mg) (Z : Df K mg "_law_pick" s__law_pick) (F__law_draw : Fn P w K mg base "_law_draw" ["_law_pen_here", "_law_many"] 1 (spD K m__law_draw 2))  : Fn P w K mg base "_law_pick" ["_law_pen_here", "_law_things"] 2 (spD K m__law_pick 2) := by
  obtain ⟨f, oc, od, osl, kV, doc, pm, an, cdv, ct, hm, l, c, kp⟩ := Z
  have F0 := fun_mk (st := s__law_pick) l c kp
  refine ⟨f, _, fn_dat F0 sc__law_pick (fun cdv A outer s H E hr => ?_), F0.binds (ps := ["_law_pen_here", "_law_things"]) fun _ _ _ _ _ _ us hl => match us, hl with | [_, _], _ => rfl, hm, kp⟩
  exact (dss_one (ds_ret (de_nmI (i := 1) rfl (by first | exact Or.inl rfl | exact Or.inr (Or.inl rfl) | exact Or.inr (Or.inr rfl)) (de_callF F__law_draw (hr.mono (by decide)) rfl (dp_nm (i := 0) rfl (by first | exact Or.inl rfl | exact Or.inr (Or.inl rfl) | exact Or.inr (Or.inr rfl)) (dp_dat (de_nmB (i := 1) oN_len call_len rfl T.n_len (by decide +kernel) rfl (by first | exact Or.inl rfl | exact Or.inr (Or.inl rfl) | exact Or.inr (Or.inr rfl))) dp_nil)) (lp_nm (lp_dat lp_nil))) (fun _ _ => rfl))))
def N__law_pattern : List Str := ["_law_pen_here", "_law_made", "_law_turn", "_law_name", "_law_holes"]
abbrev s__law_pattern : Stmt := top 33
theorem sc__law_pattern : FnScope N__law_pattern ["_law_pen_here"] (defScope s__law_pattern) := ⟨rfl, rfl, rfl, by decide +kernel, rfl, by decide +kernel, by decide +kernel⟩
def B__law_pattern : FS :=
  (fSeq (fOwn 1 (fLstF fNil))
  (fSeq (fFor (fRg1 (f2 (fCall m__law_draw (pNm 0 (pDat (fC (.int (4))) pNil))) (fCall m__law_draw (pNm 0 (pDat (fC (.int (3))) pNil))) gAdd)) (gNm 2)
    (fSeq (fAsg (f2 (fN (fCons (fC (.str "a")) (fCons (fC (.str "id")) (fCons (fC (.str "x")) (fCons (fC (.str "eighteen")) (fCons (fC (.str "n")) fNil))))) gLst) (fVar 2) ixD) (gNm 3))
  (fSeq (fAsg (fN (fCons (f2 (f2 (fC (.str "{")) (fVar 3) gAdd) (fC (.str "}")) gAdd) (fCons (f2 (f2 (fC (.str "{")) (fVar 3) gAdd) (fC (.str ":n}")) gAdd) (fCons (f2 (f2 (fC (.str "{")) (fVar 3) gAdd) (fC (.str ":n}")) gAdd) fNil))) gLst) (gNm 4))
  (fApp 1 (fCall m__law_pick (pNm 0 (pDat (f2 (fN (fCons (fC (.str "a")) (fCons (fC (.str "b")) (fCons (fC (.str "7")) (fCons (fC (.str "no")) fNil)))) gLst) (fVar 4) gAdd) pNil)))))))
  (fRet (f2 (fC (.str "/")) (fNmJ (fC (.str "/")) 1) gAdd))))
def m__law_pattern : FE := defM 1 5 B__law_pattern
theorem fn__law_pattern (T : Txt K mg) (Z : Df K mg "_law_pattern" s__law_pattern) (F__law_draw : Fn P w K mg base "_law_draw" ["_law_pen_here", "_law_many"] 1 (spD K m__law_draw 2)) (F__law_pick : Fn P w K mg base "_law_pick" ["_law_pen_here", "_law_things"] 2 (spD K m__law_pick 2))  : Fn P w K mg base "_law_pattern" ["_law_pen_here"] 3 (spD K m__law_pattern 1) := by
  obtain ⟨f, oc, od, osl, kV, doc, pm, an, cdv, ct, hm, l, c, kp⟩ := Z
  have F0 := fun_mk (st := s__law_pattern) l c kp
  refine ⟨f, _, fn_dat F0 sc__law_pattern (fun cdv A outer s H E hr => ?_), F0.binds (ps := ["_law_pen_here"]) fun _ _ _ _ _ _ us hl => match us, hl with | [_], _ => rfl, hm, kp⟩
  exact (dss_cons (ds_own (x := "_law_made") (i := 1) sc__law_pattern.nd rfl (by first | exact Or.inl rfl | exact Or.inr rfl) (df_lst da_nil))
    (dss_cons (ds_for rfl (di_range1 rfl T.n_range (de_op o2_add op_addA (de_callF F__law_draw (hr.mono (by decide)) rfl (dp_nm (i := 0) rfl (by first | exact Or.inl rfl | exact Or.inr (Or.inl rfl) | exact Or.inr (Or.inr rfl)) (dp_dat de_int dp_nil)) (lp_nm (lp_dat lp_nil))) (de_callF F__law_draw (hr.mono (by decide)) rfl (dp_nm (i := 0) rfl (by first | exact Or.inl rfl | exact Or.inr (Or.inl rfl) | exact Or.inr (Or.inr rfl)) (dp_dat de_int dp_nil)) (lp_nm (lp_dat lp_nil))))) (dg_name (i := 2) sc__law_pattern.nd rfl (by first | exact Or.inl rfl | exact Or.inr rfl))
      (dss_cons (ds_set (x := "_law_name") (i := 3) sc__law_pattern.nd rfl (by first | exact Or.inl rfl | exact Or.inr rfl) (de_ix (de_lst (da_cons de_str (da_cons de_str (da_cons de_str (da_cons de_str (da_cons de_str da_nil)))))) (dv 2) (fun _ _ => rfl)))
    (dss_cons (ds_set (x := "_law_holes") (i := 4) sc__law_pattern.nd rfl (by first | exact Or.inl rfl | exact Or.inr rfl) (de_lst (da_cons (de_op o2_add op_addA (de_op o2_add op_addA de_str (dv 3)) de_str) (da_cons (de_op o2_add op_addA (de_op o2_add op_addA de_str (dv 3)) de_str) (da_cons (de_op o2_add op_addA (de_op o2_add op_addA de_str (dv 3)) de_str) da_nil)))))
    (dss_one (ds_append (i := 1) rfl (by first | exact Or.inl rfl | exact Or.inr (Or.inl rfl) | exact Or.inr (Or.inr rfl)) (de_callF F__law_pick (hr.mono (by decide)) rfl (dp_nm (i := 0) rfl (by first | exact Or.inl rfl | exact Or.inr (Or.inl rfl) | exact Or.inr (Or.inr rfl)) (dp_dat (de_op o2_add op_addA (de_lst (da_cons de_str (da_cons de_str (da_cons de_str (da_cons de_str da_nil))))) (dv 4)) dp_nil)) (lp_nm (lp_dat lp_nil))))))) PassesOwn.never)
    (dss_one (ds_ret (de_op o2_add op_addA de_str (de_nmJ (i := 1) de_str rfl (by first | exact Or.inl rfl | exact Or.inr (Or.inl rfl) | exact Or.inr (Or.inr rfl))))))))
def N__law_routes : List Str := ["_law_pen_here", "_law_made", "_law_names", "_law_name", "_law_pattern_here"]
abbrev s__law_routes : Stmt := top 34
theorem sc__law_routes : FnScope N__law_routes ["_law_pen_here"] (defScope s__law_routes) := ⟨rfl, rfl, rfl, by decide +kernel, rfl, by decide +kernel, by decide +kernel⟩
def B__law_routes : FS :=
  (fSeq (fOwn 1 (fLstF fNil))
  (fSeq (fOwn 2 (fLstF (fCons (fC (.str "one")) (fCons (fC (.str "two")) (fCons (fC (.str "three")) (fCons (fC (.str "four")) (fCons (fC (.str "five")) (fCons (fC (.str "six")) (fCons (fC (.str "seven")) (fCons (fC (.str "eight")) (fCons (fC (.str "nine")) (fCons (fC (.str "ten")) fNil))))))))))))
  (fSeq (fApp 2 (fC (.str "eleven")))
  (fSeq (fFor (fSq (fNmS 2 fNo (fSome (f2 (fC (.int (1))) (fCall m__law_draw (pNm 0 (pDat (fC (.int (11))) pNil))) gAdd)))) (gNm 3)
    (fSeq (fAsg (fCall m__law_pattern (pNm 0 pNil)) (gNm 4))
  (fSeq (fIfS (fAnd (fB (fNm2 1 (fN fNil gLst) gNe)) (fB (f2 (fCall m__law_draw (pNm 0 (pDat (fC (.int (4))) pNil))) (fC (.int (0))) gEq)))
    (fSeq (fAsg (f2 (fCall m__law_pick (pNm 0 (pNm 1 pNil))) (fC (.int (2))) ixD) (gNm 4))
  (fIfS (fAnd (fB (f2 (fCall m__law_draw (pNm 0 (pDat (fC (.int (2))) pNil))) (fC (.int (0))) gEq)) (fB (f2 (fC (.str "{xx")) (fVar 4) (gInT true))))
    (fAsg (fRepl "{x" "{xx" (fVar 4)) (gNm 4))
    fEnd))
    fEnd)
  (fApp 1 (fN (fCons (fVar 3) (fCons (fCall m__law_pick (pNm 0 (pDat (fN (fCons (fC (.str "get")) (fCons (fC (.str "get")) (fCons (fC (.str "post")) fNil))) gLst) pNil))) (fCons (fVar 4) fNil))) DL.gTup)))))
  (fRet (fNmT 1))))))
def m__law_routes : FE := defM 1 5 B__law_routes
theorem fn__law_routes (T : Txt K mg) (Z : Df K mg "_law_routes" s__law_routes) (F__law_draw : Fn P w K mg base "_law_draw" ["_law_pen_here", "_law_many"] 1 (spD K m__law_draw 2)) (F__law_pick : Fn P w K mg base "_law_pick" ["_law_pen_here", "_law_things"] 2 (spD K m__law_pick 2)) (F__law_pattern : Fn P w K mg base "_law_pattern" ["_law_pen_here"] 3 (spD K m__law_pattern 1))  : Fn P w K mg base "_law_routes" ["_law_pen_here"] 4 (spD K m__law_routes 1) := by
  obtain ⟨f, oc, od, osl, kV, doc, pm, an, cdv, ct, hm, l, c, kp⟩ := Z
  have F0 := fun_mk (st := s__law_routes) l c kp
  refine ⟨f, _, fn_dat F0 sc__law_routes (fun cdv A outer s H E hr => ?_), F0.binds (ps := ["_law_pen_here"]) fun _ _ _ _ _ _ us hl => match us, hl with | [_], _ => rfl, hm, kp⟩
  exact (dss_cons (ds_own (x := "_law_made") (i := 1) sc__law_routes.nd rfl (by first | exact Or.inl rfl | exact Or.inr rfl) (df_lst da_nil))
    (dss_up (dsg_own (i := 2) sc__law_routes.nd rfl (by first | exact Or.inl rfl | exact Or.inr rfl) (da_cons de_str (da_cons de_str (da_cons de_str (da_cons de_str (da_cons de_str (da_cons de_str (da_cons de_str (da_cons de_str (da_cons de_str da_nil))))))))))
    (dsst_cons (dst_of (ds_append (i := 2) rfl (by first | exact Or.inl rfl | exact Or.inr (Or.inl rfl) | exact Or.inr (Or.inr rfl)) de_str))
    (dsst_cons (dst_for rfl (di_seq (de_nmS (i := 2) rfl (by first | exact Or.inl rfl | exact Or.inr (Or.inl rfl) | exact Or.inr (Or.inr rfl)) do_none (do_some (de_op o2_add op_addA de_int (de_callF F__law_draw (hr.mono (by decide)) rfl (dp_nm (i := 0) rfl (by first | exact Or.inl rfl | exact Or.inr (Or.inl rfl) | exact Or.inr (Or.inr rfl)) (dp_dat de_int dp_nil)) (lp_nm (lp_dat lp_nil))))))) (dg_name (i := 3) sc__law_routes.nd rfl (by first | exact Or.inl rfl | exact Or.inr rfl))
      (dsst_cons (dst_of (ds_set (x := "_law_pattern_here") (i := 4) sc__law_routes.nd rfl (by first | exact Or.inl rfl | exact Or.inr rfl) (de_callF F__law_pattern (hr.mono (by decide)) rfl (dp_nm (i := 0) rfl (by first | exact Or.inl rfl | exact Or.inr (Or.inl rfl) | exact Or.inr (Or.inr rfl)) dp_nil) (lp_nm lp_nil))))
    (dsst_cons (dst_if (DW.dt (dw_and (dt_nmC (i := 1) o2_ne (op_neA hr.units) rfl (by first | exact Or.inl rfl | exact Or.inr (Or.inl rfl) | exact Or.inr (Or.inr rfl)) (de_lst da_nil) (nomark _)) (dw_and1 (dt_cmp o2_eq (op_eqA hr.units) (de_callF F__law_draw (hr.mono (by decide)) rfl (dp_nm (i := 0) rfl (by first | exact Or.inl rfl | exact Or.inr (Or.inl rfl) | exact Or.inr (Or.inr rfl)) (dp_dat de_int dp_nil)) (lp_nm (lp_dat lp_nil))) de_int (nomark _)))))
      (dsst_cons (dst_of (ds_set (x := "_law_pattern_here") (i := 4) sc__law_routes.nd rfl (by first | exact Or.inl rfl | exact Or.inr rfl) (de_ix (de_callF F__law_pick (hr.mono (by decide)) rfl (dp_nm (i := 0) rfl (by first | exact Or.inl rfl | exact Or.inr (Or.inl rfl) | exact Or.inr (Or.inr rfl)) (dp_nm (i := 1) rfl (by first | exact Or.inl rfl | exact Or.inr (Or.inl rfl) | exact Or.inr (Or.inr rfl)) dp_nil)) (lp_nm (lp_nm lp_nil))) de_int (fun _ _ => rfl))))
    (dsst_one (dst_if (DW.dt (dw_and (dt_cmp o2_eq (op_eqA hr.units) (de_callF F__law_draw (hr.mono (by decide)) rfl (dp_nm (i := 0) rfl (by first | exact Or.inl rfl | exact Or.inr (Or.inl rfl) | exact Or.inr (Or.inr rfl)) (dp_dat de_int dp_nil)) (lp_nm (lp_dat lp_nil))) de_int (nomark _)) (dw_and1 (dt_cmp o2_ninT op_notin_str de_str (dv 4) (by with_unfolding_all rfl)))))
      (dsst_one (dst_set (i := 4) sc__law_routes.nd rfl (by first | exact Or.inl rfl | exact Or.inr rfl) (det_replace (by decide +kernel) (dv 4))))
      (dsst_of dss_nil))))
      (dsst_of dss_nil))
    (dsst_one (dst_of (ds_append (i := 1) rfl (by first | exact Or.inl rfl | exact Or.inr (Or.inl rfl) | exact Or.inr (Or.inr rfl)) (de_tup (da_cons (dv 3) (da_cons (de_callF F__law_pick (hr.mono (by decide)) rfl (dp_nm (i := 0) rfl (by first | exact Or.inl rfl | exact Or.inr (Or.inl rfl) | exact Or.inr (Or.inr rfl)) (dp_dat (de_lst (da_cons de_str (da_cons de_str (da_cons de_str da_nil)))) dp_nil)) (lp_nm (lp_dat lp_nil))) (da_cons (dv 4) da_nil))))))))) PassesOwn.never)
    (dsst_one (dst_of (ds_ret (de_nmT (i := 1) rfl T.n_tuple rfl (by first | exact Or.inl rfl | exact Or.inr (Or.inl rfl) | exact Or.inr (Or.inr rfl))))))))))
def N__law_path : List Str := ["_law_pen_here", "_law_routes_here", "_law_part", "_law_parts", "_law_made", "_law_word"]
abbrev s__law_path : Stmt := top 35
theorem sc__law_path : FnScope N__law_path ["_law_pen_here", "_law_routes_here"] (defScope s__law_path) := ⟨rfl, rfl, rfl, by decide +kernel, rfl, by decide +kernel, by decide +kernel⟩
def B__law_path : FS :=
  (fSeq (fParO 3 4 (fSl (fM1 (f2 (fCall m__law_pick (pNm 0 (pNm 1 pNil))) (fC (.int (2))) ixD) (fC (.str "/")) splitD) (fSome (fC (.int (1)))) fNo) (fLstF fNil))
  (fSeq (fFor (fSq (fVar 3)) (gNm 2)
    (fSeq (fAsg (fCall m__law_pick (pNm 0 (pDat (fN (fCons (fC (.str "a")) (fCons (fC (.str "b")) (fCons (fC (.str "7")) (fCons (fC (.str "no")) (fCons (fC (.str "0")) (fCons (fC (.str "12")) (fCons (fC (.str "9999")) (fCons (fC (.str "00")) (fCons (fC (.str "10000")) (fCons (fC (.str "x-9")) fNil)))))))))) gLst) pNil))) (gNm 5))
  (fApp 4 (fIf (fOr (fB (f2 (fSl (fVar 2) fNo (fSome (fC (.int (1))))) (fC (.str "{")) gEq)) (fB (f2 (fCall m__law_draw (pNm 0 (pDat (fC (.int (9))) pNil))) (fC (.int (0))) gEq))) (fVar 5) (fVar 2)))))
  (fSeq (fIfS (fB (f2 (fCall m__law_draw (pNm 0 (pDat (fC (.int (8))) pNil))) (fC (.int (0))) gEq))
    (fOwn 4 (fCatF (fNmS 4 (fSome (fC (.int (1)))) fNo) (fN (fCons (fC (.str "a")) fNil) gLst)))
    fEnd)
  (fRet (f2 (fC (.str "/")) (fM1 (fC (.str "/")) (fSl (fLcND 4 (gNm 5) (fB (f2 (fVar 5) (fC (.str "")) gNe)) (fVar 5) [5]) fNo (fSome (fC (.int (5))))) joinD) gAdd)))))
def m__law_path : FE := defM 2 6 B__law_path
theorem fn__law_path (T : Txt K mg) (Z : Df K mg "_law_path" s__law_path) (F__law_draw : Fn P w K mg base "_law_draw" ["_law_pen_here", "_law_many"] 1 (spD K m__law_draw 2)) (F__law_pick : Fn P w K mg base "_law_pick" ["_law_pen_here", "_law_things"] 2 (spD K m__law_pick 2))  : Fn P w K mg base "_law_path" ["_law_pen_here", "_law_routes_here"] 3 (spD K m__law_path 2) := by
  obtain ⟨f, oc, od, osl, kV, doc, pm, an, cdv, ct, hm, l, c, kp⟩ := Z
  have F0 := fun_mk (st := s__law_path) l c kp
  refine ⟨f, _, fn_dat F0 sc__law_path (fun cdv A outer s H E hr => ?_), F0.binds (ps := ["_law_pen_here", "_law_routes_here"]) fun _ _ _ _ _ _ us hl => match us, hl with | [_, _], _ => rfl, hm, kp⟩
  exact (dss_cons (ds_parO (i := 3) (j := 4) rfl sc__law_path.nd rfl rfl (by decide) rfl rfl (de_slice (de_m1 om_split PySem.F.slot_str_split PySem.F.type_str_split mt_split (de_ix (de_callF F__law_pick (hr.mono (by decide)) rfl (dp_nm (i := 0) rfl (by first | exact Or.inl rfl | exact Or.inr (Or.inl rfl) | exact Or.inr (Or.inr rfl)) (dp_nm (i := 1) rfl (by first | exact Or.inl rfl | exact Or.inr (Or.inl rfl) | exact Or.inr (Or.inr rfl)) dp_nil)) (lp_nm (lp_nm lp_nil))) de_int (fun _ _ => rfl)) de_str) (do_some de_int) do_none) (df_lst da_nil) (by rfl))
    (dss_cons (ds_for rfl (di_seq (dv 3)) (dg_name (i := 2) sc__law_path.nd rfl (by first | exact Or.inl rfl | exact Or.inr rfl))
      (dss_cons (ds_set (x := "_law_word") (i := 5) sc__law_path.nd rfl (by first | exact Or.inl rfl | exact Or.inr rfl) (de_callF F__law_pick (hr.mono (by decide)) rfl (dp_nm (i := 0) rfl (by first | exact Or.inl rfl | exact Or.inr (Or.inl rfl) | exact Or.inr (Or.inr rfl)) (dp_dat (de_lst (da_cons de_str (da_cons de_str (da_cons de_str (da_cons de_str (da_cons de_str (da_cons de_str (da_cons de_str (da_cons de_str (da_cons de_str (da_cons de_str da_nil))))))))))) dp_nil)) (lp_nm (lp_dat lp_nil))))
    (dss_one (ds_append (i := 4) rfl (by first | exact Or.inl rfl | exact Or.inr (Or.inl rfl) | exact Or.inr (Or.inr rfl)) (de_ifExp (DW.dt (dw_or (dt_cmp o2_eq (op_eqA hr.units) (de_slice (dv 2) do_none (do_some de_int)) de_str (nomark _)) (dw_or1 (dt_cmp o2_eq (op_eqA hr.units) (de_callF F__law_draw (hr.mono (by decide)) rfl (dp_nm (i := 0) rfl (by first | exact Or.inl rfl | exact Or.inr (Or.inl rfl) | exact Or.inr (Or.inr rfl)) (dp_dat de_int dp_nil)) (lp_nm (lp_dat lp_nil))) de_int (nomark _))))) (dv 5) (dv 2))))) PassesOwn.never)
    (dss_cons (ds_if (dt_cmp o2_eq (op_eqA hr.units) (de_callF F__law_draw (hr.mono (by decide)) rfl (dp_nm (i := 0) rfl (by first | exact Or.inl rfl | exact Or.inr (Or.inl rfl) | exact Or.inr (Or.inr rfl)) (dp_dat de_int dp_nil)) (lp_nm (lp_dat lp_nil))) de_int (nomark _))
      (dss_one (ds_own (x := "_law_made") (i := 4) sc__law_path.nd rfl (by first | exact Or.inl rfl | exact Or.inr rfl) (df_cat (de_nmS (i := 4) rfl (by first | exact Or.inl rfl | exact Or.inr (Or.inl rfl) | exact Or.inr (Or.inr rfl)) (do_some de_int) do_none) (de_lst (da_cons de_str da_nil)))))
      dss_nil)
    (dss_one (ds_ret (de_op o2_add op_addA de_str (de_m1 om_join PySem.F.slot_str_join PySem.F.type_str_join mt_join de_str (de_slice (de_lcN (own := [("_law_word", 5)]) rfl sc__law_path.nd (i := 4) rfl (by first | exact Or.inl rfl | exact Or.inr (Or.inl rfl) | exact Or.inr (Or.inr rfl)) (blkOk_by (own := [("_law_word", 5)]) (N := N__law_path) (sc := defScope s__law_path) (by decide +kernel)) (fun _ _ _ _ _ => (dg_name (i := 5) sc__law_path.nd rfl (by first | exact Or.inl rfl | exact Or.inr rfl))) (fun _ _ _ _ _ => (dts_one (dt_cmp o2_ne (op_neA hr.units) (dv 5) de_str (nomark _)))) (fun _ _ _ _ _ => (dv 5)) (by decide)) do_none (do_some de_int)))))))))
def N__law_is_made : List Str := ["_law_thing", "_law_signs", "_law_sign"]
abbrev s__law_is_made : Stmt := top 36
theorem sc__law_is_made : FnScope N__law_is_made ["_law_thing", "_law_signs"] (defScope s__law_is_made) := ⟨rfl, rfl, rfl, by decide +kernel, rfl, by decide +kernel, by decide +kernel⟩
def B__law_is_made : FS :=
  (fRet (fAndV (fIsA "str" (fVar 0)) (fAndV (fChain (fC (.int (1))) (fNmB 0 (g1 lenD)) (fC (.int (8))) (gI fun i j => .bool (decide (i ≤ j))) (gI fun i j => .bool (decide (i ≤ j)))) (f2 (fLcD (fSg (fVar 0)) (gNm 2) (fB (f2 (fVar 2) (fVar 1) (gInS true))) (fVar 2) [2]) (fN fNil gLst) gEq))))
def m__law_is_made : FE := defM 2 3 B__law_is_made
theorem fn__law_is_made (T : Txt K mg) (Z : Df K mg "_law_is_made" s__law_is_made)   : Fn P w K mg base "_law_is_made" ["_law_thing", "_law_signs"] 1 (spD K m__law_is_made 2) := by
  obtain ⟨f, oc, od, osl, kV, doc, pm, an, cdv, ct, hm, l, c, kp⟩ := Z
  have F0 := fun_mk (st := s__law_is_made) l c kp
  refine ⟨f, _, fn_dat F0 sc__law_is_made (fun cdv A outer s H E hr => ?_), F0.binds (ps := ["_law_thing", "_law_signs"]) fun _ _ _ _ _ _ us hl => match us, hl with | [_, _], _ => rfl, hm, kp⟩
  exact (dss_one (ds_ret (de_and (de_isA (T := "str") (.inr (.inl rfl)) rfl T.n_isinstance rfl T.n_str (by decide +kernel) (dv 0)) (de_and (de_chain o2_cmp o2_cmp op_le op_le de_int (de_nmB (i := 0) oN_len call_len rfl T.n_len (by decide +kernel) rfl (by first | exact Or.inl rfl | exact Or.inr (Or.inl rfl) | exact Or.inr (Or.inr rfl))) de_int) (de_one (de_cmp o2_eq (op_eqA hr.units) (de_lc (own := [("_law_sign", 2)]) rfl sc__law_is_made.nd (di_str (dv 0)) (blkOk_by (own := [("_law_sign", 2)]) (N := N__law_is_made) (sc := defScope s__law_is_made) (by decide +kernel)) (fun _ _ _ _ _ => (dg_name (i := 2) sc__law_is_made.nd rfl (by first | exact Or.inl rfl | exact Or.inr rfl))) (fun _ _ _ _ _ => (dts_one (dt_cmp o2_ninS op_notIn_sign (dv 2) (dv 1) (by with_unfolding_all rfl)))) (fun _ _ _ _ _ => (dv 2)) (by decide)) (de_lst da_nil) (nomark _)))))))
def N__law_is_name : List Str := ["_law_thing"]
abbrev s__law_is_name : Stmt := top 37
theorem sc__law_is_name : FnScope N__law_is_name ["_law_thing"] (defScope s__law_is_name) := ⟨rfl, rfl, rfl, by decide +kernel, rfl, by decide +kernel, by decide +kernel⟩
def B__law_is_name : FS :=
  (fRet (fCall m__law_is_made (pNm 0 (pDat (fC (.str "abcdefghijklmnopqrstuvwxyz")) pNil))))
def m__law_is_name : FE := defM 1 1 B__law_is_name
theorem fn__law_is_name (T : Txt K mg) (Z : Df K mg "_law_is_name" s__law_is_name) (F__law_is_made : Fn P w K mg base "_law_is_made" ["_law_thing", "_law_signs"] 1 (spD K m__law_is_made 2))  : Fn P w K mg base "_law_is_name" ["_law_thing"] 2 (spD K m__law_is_name 1) := by
  obtain ⟨f, oc, od, osl, kV, doc, pm, an, cdv, ct, hm, l, c, kp⟩ := Z
  have F0 := fun_mk (st := s__law_is_name) l c kp
  refine ⟨f, _, fn_dat F0 sc__law_is_name (fun cdv A outer s H E hr => ?_), F0.binds (ps := ["_law_thing"]) fun _ _ _ _ _ _ us hl => match us, hl with | [_], _ => rfl, hm, kp⟩
  exact (dss_one (ds_ret (de_callF F__law_is_made (hr.mono (by decide)) rfl (dp_nm (i := 0) rfl (by first | exact Or.inl rfl | exact Or.inr (Or.inl rfl) | exact Or.inr (Or.inr rfl)) (dp_dat de_str dp_nil)) (lp_nm (lp_dat lp_nil)))))
def N__law_is_word : List Str := ["_law_thing"]
abbrev s__law_is_word : Stmt := top 38
theorem sc__law_is_word : FnScope N__law_is_word ["_law_thing"] (defScope s__law_is_word) := ⟨rfl, rfl, rfl, by decide +kernel, rfl, by decide +kernel, by decide +kernel⟩
def B__law_is_word : FS :=
  (fRet (fCall m__law_is_made (pNm 0 (pDat (fC (.str "abcdefghijklmnopqrstuvwxyz0123456789-")) pNil))))
def m__law_is_word : FE := defM 1 1 B__law_is_word
theorem fn__law_is_word (T : Txt K mg) (Z : Df K mg "_law_is_word" s__law_is_word) (F__law_is_made : Fn P w K mg base "_law_is_made" ["_law_thing", "_law_signs"] 1 (spD K m__law_is_made 2))  : Fn P w K mg base "_law_is_word" ["_law_thing"] 2 (spD K m__law_is_word 1) := by
  obtain ⟨f, oc, od, osl, kV, doc, pm, an, cdv, ct, hm, l, c, kp⟩ := Z
  have F0 := fun_mk (st := s__law_is_word) l c kp
  refine ⟨f, _, fn_dat F0 sc__law_is_word (fun cdv A outer s H E hr => ?_), F0.binds (ps := ["_law_thing"]) fun _ _ _ _ _ _ us hl => match us, hl with | [_], _ => rfl, hm, kp⟩
  exact (dss_one (ds_ret (de_callF F__law_is_made (hr.mono (by decide)) rfl (dp_nm (i := 0) rfl (by first | exact Or.inl rfl | exact Or.inr (Or.inl rfl) | exact Or.inr (Or.inr rfl)) (dp_dat de_str dp_nil)) (lp_nm (lp_dat lp_nil)))))
def N__law_name_in : List Str := ["_law_part", "_law_name"]
abbrev s__law_name_in : Stmt := top 39
theorem sc__law_name_in : FnScope N__law_name_in ["_law_part"] (defScope s__law_name_in) := ⟨rfl, rfl, rfl, by decide +kernel, rfl, by decide +kernel, by decide +kernel⟩
def B__law_name_in : FS :=
  (fSeq (fIfS (fOr (fB (f2 (fSl (fVar 0) fNo (fSome (fC (.int (1))))) (fC (.str "{")) gNe)) (fB (f2 (fSl (fVar 0) (fSome (f1I (fun i => -i) (fC (.int (1))))) fNo) (fC (.str "}")) gNe)))
    (fRet (fC .none))
    fEnd)
  (fSeq (fAsg (fIf (fB (f2 (fSl (fVar 0) (fSome (f1I (fun i => -i) (fC (.int (3))))) fNo) (fC (.str ":n}")) gEq)) (fSl (fVar 0) (fSome (fC (.int (1)))) (fSome (f1I (fun i => -i) (fC (.int (3)))))) (fSl (fVar 0) (fSome (fC (.int (1)))) (fSome (f1I (fun i => -i) (fC (.int (1))))))) (gNm 1))
  (fRet (fIf (fB (fCall m__law_is_name (pNm 1 pNil))) (fVar 1) (fC .none)))))
def m__law_name_in : FE := defM 1 2 B__law_name_in
theorem fn__law_name_in (T : Txt K mg) (Z : Df K mg "_law_name_in" s__law_name_in) (F__law_is_name : Fn P w K mg base "_law_is_name" ["_law_thing"] 2 (spD K m__law_is_name 1))  : Fn P w K mg base "_law_name_in" ["_law_part"] 3 (spD K m__law_name_in 1) := by
  obtain ⟨f, oc, od, osl, kV, doc, pm, an, cdv, ct, hm, l, c, kp⟩ := Z
  have F0 := fun_mk (st := s__law_name_in) l c kp
  refine ⟨f, _, fn_dat F0 sc__law_name_in (fun cdv A outer s H E hr => ?_), F0.binds (ps := ["_law_part"]) fun _ _ _ _ _ _ us hl => match us, hl with | [_], _ => rfl, hm, kp⟩
  exact (dss_cons (ds_if (DW.dt (dw_or (dt_cmp o2_ne (op_neA hr.units) (de_slice (dv 0) do_none (do_some de_int)) de_str (nomark _)) (dw_or1 (dt_cmp o2_ne (op_neA hr.units) (de_slice (dv 0) (do_some (de_neg de_int)) do_none) de_str (nomark _)))))
      (dss_one (ds_ret de_non))
      dss_nil)
    (dss_cons (ds_set (x := "_law_name") (i := 1) sc__law_name_in.nd rfl (by first | exact Or.inl rfl | exact Or.inr rfl) (de_ifExp (dt_cmp o2_eq (op_eqA hr.units) (de_slice (dv 0) (do_some (de_neg de_int)) do_none) de_str (nomark _)) (de_slice (dv 0) (do_some de_int) (do_some (de_neg de_int))) (de_slice (dv 0) (do_some de_int) (do_some (de_neg de_int)))))
    (dss_one (ds_ret (de_ifExp (dt_val (de_callF F__law_is_name (hr.mono (by decide)) rfl (dp_nm (i := 1) rfl (by first | exact Or.inl rfl | exact Or.inr (Or.inl rfl) | exact Or.inr (Or.inr rfl)) dp_nil) (lp_nm lp_nil))) (dv 1) de_non)))))
def N__law_is_path : List Str := ["_law_thing", "_law_parts", "_law_part"]
abbrev s__law_is_path : Stmt := top 40
theorem sc__law_is_path : FnScope N__law_is_path ["_law_thing"] (defScope s__law_is_path) := ⟨rfl, rfl, rfl, by decide +kernel, rfl, by decide +kernel, by decide +kernel⟩
def B__law_is_path : FS :=
  (fSeq (fIfS (fB (f2 (fVar 0) (fC (.str "/")) gEqT))
    (fRet (fC (.bool true)))
    fEnd)
  (fSeq (fIfS (fOr (fNot (fB (fIsA "str" (fVar 0)))) (fB (f2 (fSl (fVar 0) fNo (fSome (fC (.int (1))))) (fC (.str "/")) gNe)))
    (fRet (fC (.bool false)))
    fEnd)
  (fSeq (fAsg (fSl (fM1 (fVar 0) (fC (.str "/")) splitD) (fSome (fC (.int (1)))) fNo) (gNm 1))
  (fRet (fAndV (f2 (fN (fCons (fVar 1) fNil) (g1 lenD)) (fC (.int (5))) (gI fun i j => .bool (decide (i ≤ j)))) (f2 (fLcD (fSq (fVar 1)) (gNm 2) (fNot (fB (fCall m__law_is_word (pNm 2 pNil)))) (fVar 2) [2]) (fN fNil gLst) gEq))))))
def m__law_is_path : FE := defM 1 3 B__law_is_path
theorem fn__law_is_path (T : Txt K mg) (Z : Df K mg "_law_is_path" s__law_is_path) (F__law_is_word : Fn P w K mg base "_law_is_word" ["_law_thing"] 2 (spD K m__law_is_word 1))  : Fn P w K mg base "_law_is_path" ["_law_thing"] 3 (spD K m__law_is_path 1) := by
  obtain ⟨f, oc, od, osl, kV, doc, pm, an, cdv, ct, hm, l, c, kp⟩ := Z
  have F0 := fun_mk (st := s__law_is_path) l c kp
  refine ⟨f, _, fn_dat F0 sc__law_is_path (fun cdv A outer s H E hr => ?_), F0.binds (ps := ["_law_thing"]) fun _ _ _ _ _ _ us hl => match us, hl with | [_], _ => rfl, hm, kp⟩
  exact (dss_cons (ds_if (dt_cmp o2_eqT (op_eqT hr.units) (dv 0) de_str (nomark _))
      (dss_one (ds_ret de_bl))
      dss_nil)
    (dss_cons (ds_if (DW.dt (dw_or (dt_not (dt_val (de_isA (T := "str") (.inr (.inl rfl)) rfl T.n_isinstance rfl T.n_str (by decide +kernel) (dv 0)))) (dw_or1 (dt_cmp o2_ne (op_neA hr.units) (de_slice (dv 0) do_none (do_some de_int)) de_str (nomark _)))))
      (dss_one (ds_ret de_bl))
      dss_nil)
    (dss_cons (ds_set (x := "_law_parts") (i := 1) sc__law_is_path.nd rfl (by first | exact Or.inl rfl | exact Or.inr rfl) (de_slice (de_m1 om_split PySem.F.slot_str_split PySem.F.type_str_split mt_split (dv 0) de_str) (do_some de_int) do_none))
    (dss_one (ds_ret (de_and (de_cmp o2_cmp op_le (de_callB oN_len call_len rfl T.n_len (by decide +kernel) (da_cons (dv 1) da_nil)) de_int (nomark _)) (de_one (de_cmp o2_eq (op_eqA hr.units) (de_lc (own := [("_law_part", 2)]) rfl sc__law_is_path.nd (di_seq (dv 1)) (blkOk_by (own := [("_law_part", 2)]) (N := N__law_is_path) (sc := defScope s__law_is_path) (by decide +kernel)) (fun _ _ _ _ _ => (dg_name (i := 2) sc__law_is_path.nd rfl (by first | exact Or.inl rfl | exact Or.inr rfl))) (fun _ _ _ _ _ => (dts_one (dt_not (dt_val (de_callF F__law_is_word (hr.mono (by decide)) rfl (dp_nm (i := 2) rfl (by first | exact Or.inl rfl | exact Or.inr (Or.inl rfl) | exact Or.inr (Or.inr rfl)) dp_nil) (lp_nm lp_nil)))))) (fun _ _ _ _ _ => (dv 2)) (by decide)) (de_lst da_nil) (nomark _)))))))))
def N__law_is_pattern : List Str := ["_law_thing", "_law_parts", "_law_names", "_law_part"]
abbrev s__law_is_pattern : Stmt := top 41
theorem sc__law_is_pattern : FnScope N__law_is_pattern ["_law_thing"] (defScope s__law_is_pattern) := ⟨rfl, rfl, rfl, by decide +kernel, rfl, by decide +kernel, by decide +kernel⟩
def B__law_is_pattern : FS :=
  (fSeq (fIfS (fB (f2 (fVar 0) (fC (.str "/")) gEqT))
    (fRet (fC (.bool true)))
    fEnd)
  (fSeq (fIfS (fOr (fNot (fB (fIsA "str" (fVar 0)))) (fB (f2 (fSl (fVar 0) fNo (fSome (fC (.int (1))))) (fC (.str "/")) gNe)))
    (fRet (fC (.bool false)))
    fEnd)
  (fSeq (fAsg (fSl (fM1 (fVar 0) (fC (.str "/")) splitD) (fSome (fC (.int (1)))) fNo) (gNm 1))
  (fSeq (fAsg (fLcD (fSq (fVar 1)) (gNm 3) (fNot (fB (fCall m__law_is_word (pNm 3 pNil)))) (fCall m__law_name_in (pNm 3 pNil)) [3]) (gNm 2))
  (fRet (fAndV (f2 (fN (fCons (fVar 1) fNil) (g1 lenD)) (fC (.int (5))) (gI fun i j => .bool (decide (i ≤ j)))) (fAndV (f2 (fC .none) (fVar 2) (gInD true)) (f2 (fLenSet (fVar 2)) (fN (fCons (fVar 2) fNil) (g1 lenD)) gEq))))))))
def m__law_is_pattern : FE := defM 1 4 B__law_is_pattern
theorem fn__law_is_pattern (T : Txt K mg) (Z : Df K mg "_law_is_pattern" s__law_is_pattern) (F__law_is_word : Fn P w K mg base "_law_is_word" ["_law_thing"] 2 (spD K m__law_is_word 1)) (F__law_name_in : Fn P w K mg base "_law_name_in" ["_law_part"] 3 (spD K m__law_name_in 1))  : Fn P w K mg base "_law_is_pattern" ["_law_thing"] 4 (spD K m__law_is_pattern 1) := by
  obtain ⟨f, oc, od, osl, kV, doc, pm, an, cdv, ct, hm, l, c, kp⟩ := Z
  have F0 := fun_mk (st := s__law_is_pattern) l c kp
  refine ⟨f, _, fn_dat F0 sc__law_is_pattern (fun cdv A outer s H E hr => ?_), F0.binds (ps := ["_law_thing"]) fun _ _ _ _ _ _ us hl => match us, hl with | [_], _ => rfl, hm, kp⟩
  exact (dss_cons (ds_if (dt_cmp o2_eqT (op_eqT hr.units) (dv 0) de_str (nomark _))
      (dss_one (ds_ret de_bl))
      dss_nil)
    (dss_cons (ds_if (DW.dt (dw_or (dt_not (dt_val (de_isA (T := "str") (.inr (.inl rfl)) rfl T.n_isinstance rfl T.n_str (by decide +kernel) (dv 0)))) (dw_or1 (dt_cmp o2_ne (op_neA hr.units) (de_slice (dv 0) do_none (do_some de_int)) de_str (nomark _)))))
      (dss_one (ds_ret de_bl))
      dss_nil)
    (dss_cons (ds_set (x := "_law_parts") (i := 1) sc__law_is_pattern.nd rfl (by first | exact Or.inl rfl | exact Or.inr rfl) (de_slice (de_m1 om_split PySem.F.slot_str_split PySem.F.type_str_split mt_split (dv 0) de_str) (do_some de_int) do_none))
    (dss_cons (ds_setLc (i := 2) (own := [("_law_part", 3)]) rfl sc__law_is_pattern.nd rfl rfl (sw_true rfl rfl rfl (by decide +kernel)) (di_seq (dv 1)) (blkOk_by (own := [("_law_part", 3)]) (N := N__law_is_pattern) (sc := defScope s__law_is_pattern) (by decide +kernel)) (fun _ _ _ _ _ => (dg_name (i := 3) sc__law_is_pattern.nd rfl (by first | exact Or.inl rfl | exact Or.inr rfl))) (fun _ _ _ _ _ => (dts_one (dt_not (dt_val (de_callF F__law_is_word (hr.mono (by decide)) rfl (dp_nm (i := 3) rfl (by first | exact Or.inl rfl | exact Or.inr (Or.inl rfl) | exact Or.inr (Or.inr rfl)) dp_nil) (lp_nm lp_nil)))))) (fun _ _ _ _ _ => (de_callF F__law_name_in (hr.mono (by decide)) rfl (dp_nm (i := 3) rfl (by first | exact Or.inl rfl | exact Or.inr (Or.inl rfl) | exact Or.inr (Or.inr rfl)) dp_nil) (lp_nm lp_nil))) (by decide))
    (dss_one (ds_ret (de_and (de_cmp o2_cmp op_le (de_callB oN_len call_len rfl T.n_len (by decide +kernel) (da_cons (dv 1) da_nil)) de_int (nomark _)) (de_and (de_cmp o2_inD (op_ninX hr.units66) de_non (dv 2) (by with_unfolding_all rfl)) (de_one (de_cmp o2_eq (op_eqA hr.units) (de_lenset rfl rfl T.n_len rfl T.n_set (dv 2)) (de_callB oN_len call_len rfl T.n_len (by decide +kernel) (da_cons (dv 2) da_nil)) (nomark _)))))))))))
def N__law_are_routes : List Str := ["_law_thing", "_law_one"]
abbrev s__law_are_routes : Stmt := top 42
theorem sc__law_are_routes : FnScope N__law_are_routes ["_law_thing"] (defScope s__law_are_routes) := ⟨rfl, rfl, rfl, by decide +kernel, rfl, by decide +kernel, by decide +kernel⟩
def B__law_are_routes : FS :=
  (fSeq (fIfS (fOr (fNot (fB (fIsA "tuple" (fVar 0)))) (fNot (fB (fChain (fC (.int (1))) (fNmB 0 (g1 lenD)) (fC (.int (10))) (gI fun i j => .bool (decide (i ≤ j))) (gI fun i j => .bool (decide (i ≤ j)))))))
    (fRet (fC (.bool false)))
    fEnd)
  (fSeq (fFor (fSq (fVar 0)) (gNm 1)
    (fSeq (fIfS (fOr (fNot (fB (fIsA "tuple" (fVar 1)))) (fOr (fB (f2 (fN (fCons (fVar 1) fNil) (g1 lenD)) (fC (.int (3))) gNe)) (fNot (fB (fCall m__law_is_name (pDat (f2 (fVar 1) (fC (.int (0))) ixD) pNil))))))
    (fRet (fC (.bool false)))
    fEnd)
  (fIfS (fOr (fB (f2 (f2 (fVar 1) (fC (.int (1))) ixD) (fN (fCons (fC (.str "get")) (fCons (fC (.str "post")) fNil)) gLst) (gInD true))) (fNot (fB (fCall m__law_is_pattern (pDat (f2 (fVar 1) (fC (.int (2))) ixD) pNil)))))
    (fRet (fC (.bool false)))
    fEnd)))
  (fRet (f2 (fLenSet (fLcD (fSq (fVar 0)) (gNm 1) fYes (f2 (fVar 1) (fC (.int (0))) ixD) [1])) (fNmB 0 (g1 lenD)) gEq))))
def m__law_are_routes : FE := defM 1 2 B__law_are_routes
theorem fn__law_are_routes (T : Txt K mg) (Z : Df K mg "_law_are_routes" s__law_are_routes) (F__law_is_pattern : Fn P w K mg base "_law_is_pattern" ["_law_thing"] 4 (spD K m__law_is_pattern 1)) (F__law_is_name : Fn P w K mg base "_law_is_name" ["_law_thing"] 2 (spD K m__law_is_name 1))  : Fn P w K mg base "_law_are_routes" ["_law_thing"] 5 (spD K m__law_are_routes 1) := by
  obtain ⟨f, oc, od, osl, kV, doc, pm, an, cdv, ct, hm, l, c, kp⟩ := Z
  have F0 := fun_mk (st := s__law_are_routes) l c kp
  refine ⟨f, _, fn_dat F0 sc__law_are_routes (fun cdv A outer s H E hr => ?_), F0.binds (ps := ["_law_thing"]) fun _ _ _ _ _ _ us hl => match us, hl with | [_], _ => rfl, hm, kp⟩
  exact (dss_cons (ds_if (DW.dt (dw_or (dt_not (dt_val (de_isA (T := "tuple") (.inl rfl) rfl T.n_isinstance rfl T.n_tuple (by decide +kernel) (dv 0)))) (dw_or1 (dt_not (dt_chain o2_cmp o2_cmp op_le op_le de_int (de_nmB (i := 0) oN_len call_len rfl T.n_len (by decide +kernel) rfl (by first | exact Or.inl rfl | exact Or.inr (Or.inl rfl) | exact Or.inr (Or.inr rfl))) de_int)))))
      (dss_one (ds_ret de_bl))
      dss_nil)
    (dss_cons (ds_for rfl (di_seq (dv 0)) (dg_name (i := 1) sc__law_are_routes.nd rfl (by first | exact Or.inl rfl | exact Or.inr rfl))
      (dss_cons (ds_if (DW.dt (dw_or (dt_not (dt_val (de_isA (T := "tuple") (.inl rfl) rfl T.n_isinstance rfl T.n_tuple (by decide +kernel) (dv 1)))) (dw_or (dt_cmp o2_ne (op_neA hr.units) (de_callB oN_len call_len rfl T.n_len (by decide +kernel) (da_cons (dv 1) da_nil)) de_int (nomark _)) (dw_or1 (dt_not (dt_val (de_callF F__law_is_name (hr.mono (by decide)) rfl (dp_dat (de_ix (dv 1) de_int (fun _ _ => rfl)) dp_nil) (lp_dat lp_nil))))))))
      (dss_one (ds_ret de_bl))
      dss_nil)
    (dss_one (ds_if (DW.dt (dw_or (dt_cmp o2_inD (op_ninX hr.units66) (de_ix (dv 1) de_int (fun _ _ => rfl)) (de_lst (da_cons de_str (da_cons de_str da_nil))) (by with_unfolding_all rfl)) (dw_or1 (dt_not (dt_val (de_callF F__law_is_pattern (hr.mono (by decide)) rfl (dp_dat (de_ix (dv 1) de_int (fun _ _ => rfl)) dp_nil) (lp_dat lp_nil)))))))
      (dss_one (ds_ret de_bl))
      dss_nil))) PassesOwn.never)
    (dss_one (ds_ret (de_cmp o2_eq (op_eqA hr.units) (de_lenset rfl rfl T.n_len rfl T.n_set (de_lc (own := [("_law_one", 1)]) rfl sc__law_are_routes.nd (di_seq (dv 0)) (blkOk_by (own := [("_law_one", 1)]) (N := N__law_are_routes) (sc := defScope s__law_are_routes) (by decide +kernel)) (fun _ _ _ _ _ => (dg_name (i := 1) sc__law_are_routes.nd rfl (by first | exact Or.inl rfl | exact Or.inr rfl))) (fun _ _ _ _ _ => dts_nil) (fun _ _ _ _ _ => (de_ix (dv 1) de_int (fun _ _ => rfl))) (by decide))) (de_nmB (i := 0) oN_len call_len rfl T.n_len (by decide +kernel) rfl (by first | exact Or.inl rfl | exact Or.inr (Or.inl rfl) | exact Or.inr (Or.inr rfl))) (nomark _))))))
def N__law_odd : List Str := ["_law_pen_here", "_law_some"]
abbrev s__law_odd : Stmt := top 43
theorem sc__law_odd : FnScope N__law_odd ["_law_pen_here"] (defScope s__law_odd) := ⟨rfl, rfl, rfl, by decide +kernel, rfl, by decide +kernel, by decide +kernel⟩
def B__law_odd : FS :=
  (fSeq (fAsg (fN (fCons (fC .none) (fCons (fC (.bool true)) (fCons (fC (.int (0))) (fCons (fC (.int (7))) (fCons (f1I (fun i => -i) (fC (.int (1)))) (fCons (f2 (fC (.int (10))) (fC (.int (39))) (gIC cPow fun i j => i ^ j.toNat)) (fCons (fC (.str "")) (fCons (fC (.str "/")) (fCons (fC (.str "get")) (fCons (fC (.tuple [])) (fCons (fC (.list [])) (fCons (fC (.dict [])) (fCons (fC (.tuple [(.str "a")])) (fCons (fC (.str "{a}")) (fCons (fC (.str "/{a}")) (fCons (fC (.tuple [(.str "a"), (.str "get"), (.str "/")])) (fCons (fC (.str " ")) fNil))))))))))))))))) gLst) (gNm 1))
  (fRet (f2 (f2 (fVar 1) (fC (.list [(.tuple [(.tuple [(.str "a"), (.str "get"), (.str "/")])]), (.list [(.tuple [(.str "a"), (.str "get"), (.str "/")])]), (.str "{a:n}"), (.str "//"), (.str "/a/")])) gAdd) (fCall m__law_draw (pNm 0 (pDat (fC (.int (22))) pNil))) ixD)))
def m__law_odd : FE := defM 1 2 B__law_odd
theorem fn__law_odd (T : Txt K mg) (Z : Df K mg "_law_odd" s__law_odd) (F__law_draw : Fn P w K mg base "_law_draw" ["_law_pen_here", "_law_many"] 1 (spD K m__law_draw 2))  : Fn P w K mg base "_law_odd" ["_law_pen_here"] 2 (spD K m__law_odd 1) := by
  obtain ⟨f, oc, od, osl, kV, doc, pm, an, cdv, ct, hm, l, c, kp⟩ := Z
  have F0 := fun_mk (st := s__law_odd) l c kp
  refine ⟨f, _, fn_dat F0 sc__law_odd (fun cdv A outer s H E hr => ?_), F0.binds (ps := ["_law_pen_here"]) fun _ _ _ _ _ _ us hl => match us, hl with | [_], _ => rfl, hm, kp⟩
  refine dss_cons ?_ ?_
  · refine ds_set (x := "_law_some") (i := 1) ?_ ?_ ?_ ?_ ?_ ?_
    · exact sc__law_odd.nd
    · rfl
    · first | exact Or.inl rfl | exact Or.inr rfl
    · refine de_lst ?_
      refine da_cons ?_ ?_
      · exact de_non
      refine da_cons ?_ ?_
      · exact de_bl
      refine da_cons ?_ ?_
      · exact de_int
      refine da_cons ?_ ?_
      · exact de_int
      refine da_cons ?_ ?_
      · exact (de_neg de_int)
      refine da_cons ?_ ?_
      · exact (de_op o2_pow op_pow de_int de_int)
      refine da_cons ?_ ?_
      · exact de_str
      refine da_cons ?_ ?_
      · exact de_str
      refine da_cons ?_ ?_
      · exact de_str
      refine da_litO ?_ ?_
      · kernel_rfl
      refine da_litO ?_ ?_
      · kernel_rfl
      refine da_cons ?_ ?_
      · exact de_dct0
      refine da_litO ?_ ?_
      · kernel_rfl
      refine da_cons ?_ ?_
      · exact de_str
      refine da_cons ?_ ?_
      · exact de_str
      refine da_litO ?_ ?_
      · kernel_rfl
      refine da_cons ?_ ?_
      · exact de_str
      exact da_nil
    · rfl
    · first | exact Or.inl rfl | exact Or.inr rfl
  · refine dss_one ?_
    refine ds_ret ?_
    · exact (de_ix (de_op o2_add op_addA (dv 1) (de_litO (by kernel_rfl))) (de_callF F__law_draw (hr.mono (by decide)) rfl (dp_nm (i := 0) rfl (by first | exact Or.inl rfl | exact Or.inr (Or.inl rfl) | exact Or.inr (Or.inr rfl)) (dp_dat de_int dp_nil)) (lp_nm (lp_dat lp_nil))) (fun _ _ => rfl))
def N__law_bent : List Str := ["_law_pen_here", "_law_text", "_law_signs", "_law_at", "_law_sign", "_law_way"]
abbrev s__law_bent : Stmt := top 44
theorem sc__law_bent : FnScope N__law_bent ["_law_pen_here", "_law_text"] (defScope s__law_bent) := ⟨rfl, rfl, rfl, by decide +kernel, rfl, by decide +kernel, by decide +kernel⟩
def B__law_bent : FS :=
  (fSeq (fPar 2 3 (fCons (fC (.str "/{}:n-aZ 0_")) (fCons (fCall m__law_draw (pNm 0 (pDat (f2 (fNmB 1 (g1 lenD)) (fC (.int (1))) gAdd) pNil))) fNil)))
  (fSeq (fPar 4 5 (fCons (f2 (fVar 2) (fCall m__law_draw (pNm 0 (pDat (fC (.int (11))) pNil))) ixD) (fCons (fCall m__law_draw (pNm 0 (pDat (fC (.int (3))) pNil))) fNil)))
  (fRet (f2 (f2 (fSl (fVar 1) fNo (fSome (fVar 3))) (f2 (fN (fCons (fVar 4) (fCons (fC (.str "")) (fCons (fVar 4) fNil))) gLst) (fVar 5) ixD) gAdd) (fSl (fVar 1) (fSome (f2 (fVar 3) (fN (fCons (f2 (fVar 5) (fC (.int (0))) (gI fun i j => .bool (decide (j < i)))) fNil) (g1 intD)) gAdd)) fNo) gAdd))))
def m__law_bent : FE := defM 2 6 B__law_bent
theorem fn__law_bent (T : Txt K mg) (Z : Df K mg "_law_bent" s__law_bent) (F__law_draw : Fn P w K mg base "_law_draw" ["_law_pen_here", "_law_many"] 1 (spD K m__law_draw 2))  : Fn P w K mg base "_law_bent" ["_law_pen_here", "_law_text"] 2 (spD K m__law_bent 2) := by
  obtain ⟨f, oc, od, osl, kV, doc, pm, an, cdv, ct, hm, l, c, kp⟩ := Z
  have F0 := fun_mk (st := s__law_bent) l c kp
  refine ⟨f, _, fn_dat F0 sc__law_bent (fun cdv A outer s H E hr => ?_), F0.binds (ps := ["_law_pen_here", "_law_text"]) fun _ _ _ _ _ _ us hl => match us, hl with | [_, _], _ => rfl, hm, kp⟩
  exact (dss_cons (ds_par (i := 2) (j := 3) rfl sc__law_bent.nd rfl rfl (by decide) rfl rfl (da_cons de_str (da_cons (de_callF F__law_draw (hr.mono (by decide)) rfl (dp_nm (i := 0) rfl (by first | exact Or.inl rfl | exact Or.inr (Or.inl rfl) | exact Or.inr (Or.inr rfl)) (dp_dat (de_op o2_add op_addA (de_nmB (i := 1) oN_len call_len rfl T.n_len (by decide +kernel) rfl (by first | exact Or.inl rfl | exact Or.inr (Or.inl rfl) | exact Or.inr (Or.inr rfl))) de_int) dp_nil)) (lp_nm (lp_dat lp_nil))) da_nil)) (by rfl))
    (dss_cons (ds_par (i := 4) (j := 5) rfl sc__law_bent.nd rfl rfl (by decide) rfl rfl (da_cons (de_ix (dv 2) (de_callF F__law_draw (hr.mono (by decide)) rfl (dp_nm (i := 0) rfl (by first | exact Or.inl rfl | exact Or.inr (Or.inl rfl) | exact Or.inr (Or.inr rfl)) (dp_dat de_int dp_nil)) (lp_nm (lp_dat lp_nil))) (fun _ _ => rfl)) (da_cons (de_callF F__law_draw (hr.mono (by decide)) rfl (dp_nm (i := 0) rfl (by first | exact Or.inl rfl | exact Or.inr (Or.inl rfl) | exact Or.inr (Or.inr rfl)) (dp_dat de_int dp_nil)) (lp_nm (lp_dat lp_nil))) da_nil)) (by rfl))
    (dss_one (ds_ret (de_op o2_add op_addA (de_op o2_add op_addA (de_slice (dv 1) do_none (do_some (dv 3))) (de_ix (de_lst (da_cons (dv 4) (da_cons de_str (da_cons (dv 4) da_nil)))) (dv 5) (fun _ _ => rfl))) (de_slice (dv 1) (do_some (de_op o2_add op_addA (dv 3) (de_callTy oN_int call_intA rfl T.n_int (by decide +kernel) (da_cons (de_cmp o2_cmp op_gt (dv 5) de_int (nomark _)) da_nil)))) do_none))))))
def N__law_spoilt : List Str := ["_law_pen_here", "_law_routes_here", "_law_one", "_law_two", "_law_rows", "_law_at", "_law_spot"]
abbrev s__law_spoilt : Stmt := top 45
theorem sc__law_spoilt : FnScope N__law_spoilt ["_law_pen_here", "_law_routes_here"] (defScope s__law_spoilt) := ⟨rfl, rfl, rfl, by decide +kernel, rfl, by decide +kernel, by decide +kernel⟩
def B__law_spoilt : FS :=
  (fSeq (fPar 5 6 (fCons (fCall m__law_draw (pNm 0 (pDat (fNmB 1 (g1 lenD)) pNil))) (fCons (fCall m__law_draw (pNm 0 (pDat (fC (.int (3))) pNil))) fNil)))
  (fSeq (fAsg (f2 (f2 (fSlW (fNmI 1 (fVar 5)) fNo (fSome (fVar 6))) (fN (fCons (fCall m__law_odd (pNm 0 pNil)) fNil) DL.gTup) gCatTT) (fSlW (fNmI 1 (fVar 5)) (fSome (f2 (fVar 6) (fC (.int (1))) gAdd)) fNo) gCatTT) (gNm 2))
  (fSeq (fAsg (f2 (fSlW (fNmI 1 (fVar 5)) fNo (fSome (fC (.int (2))))) (fN (fCons (fCall m__law_bent (pNm 0 (pDat (f2 (fNmI 1 (fVar 5)) (fC (.int (2))) ixD) pNil))) fNil) DL.gTup) gCatTT) (gNm 3))
  (fSeq (fAsg (fN (fCons (fN (fCons (fVar 2) fNil) DL.gTup) (fCons (fN (fCons (fVar 3) fNil) DL.gTup) (fCons (fN (fCons (fVar 3) fNil) DL.gTup) (fCons (fN (fCons (fNmI 1 (fVar 5)) (fCons (fNmI 1 (fVar 5)) fNil)) DL.gTup) (fCons (fN (fCons (fN (fCons (fNmI 1 (fVar 5)) fNil) (g1 listD)) fNil) DL.gTup) (fCons (fN (fCons (fSlW (fNmI 1 (fVar 5)) fNo (fSome (fC (.int (2))))) fNil) DL.gTup) (fCons (fN fNil DL.gTup) fNil))))))) gLst) (gNm 4))
  (fRet (fCall m__law_pick (pNm 0 (pDat (fN (fCons (f2 (f2 (fSlW (fVar 1) fNo (fSome (fVar 5))) (fCall m__law_pick (pNm 0 (pNm 4 pNil))) gCatTT) (fSlW (fVar 1) (fSome (f2 (fVar 5) (fC (.int (1))) gAdd)) fNo) gCatTT) (fCons (fN (fCons (fVar 1) fNil) (g1 listD)) (fCons (f2 (fVar 1) (fSlW (fVar 1) fNo (fSome (fC (.int (1))))) gCatTT) fNil))) gLst) pNil))))))))
def m__law_spoilt : FE := defM 2 7 B__law_spoilt
theorem fn__law_spoilt (T : Txt K mg) (Z : Df K mg "_law_spoilt" s__law_spoilt) (F__law_pick : Fn P w K mg base "_law_pick" ["_law_pen_here", "_law_things"] 2 (spD K m__law_pick 2)) (F__law_bent : Fn P w K mg base "_law_bent" ["_law_pen_here", "_law_text"] 2 (spD K m__law_bent 2)) (F__law_odd : Fn P w K mg base "_law_odd" ["_law_pen_here"] 2 (spD K m__law_odd 1)) (F__law_draw : Fn P w K mg base "_law_draw" ["_law_pen_here", "_law_many"] 1 (spD K m__law_draw 2))  : Fn P w K mg base "_law_spoilt" ["_law_pen_here", "_law_routes_here"] 3 (spD K m__law_spoilt 2) := by
  obtain ⟨f, oc, od, osl, kV, doc, pm, an, cdv, ct, hm, l, c, kp⟩ := Z
  have F0 := fun_mk (st := s__law_spoilt) l c kp
  refine ⟨f, _, fn_dat F0 sc__law_spoilt (fun cdv A outer s H E hr => ?_), F0.binds (ps := ["_law_pen_here", "_law_routes_here"]) fun _ _ _ _ _ _ us hl => match us, hl with | [_, _], _ => rfl, hm, kp⟩
  exact (dss_cons (ds_par (i := 5) (j := 6) rfl sc__law_spoilt.nd rfl rfl (by decide) rfl rfl (da_cons (de_callF F__law_draw (hr.mono (by decide)) rfl (dp_nm (i := 0) rfl (by first | exact Or.inl rfl | exact Or.inr (Or.inl rfl) | exact Or.inr (Or.inr rfl)) (dp_dat (de_nmB (i := 1) oN_len call_len rfl T.n_len (by decide +kernel) rfl (by first | exact Or.inl rfl | exact Or.inr (Or.inl rfl) | exact Or.inr (Or.inr rfl))) dp_nil)) (lp_nm (lp_dat lp_nil))) (da_cons (de_callF F__law_draw (hr.mono (by decide)) rfl (dp_nm (i := 0) rfl (by first | exact Or.inl rfl | exact Or.inr (Or.inl rfl) | exact Or.inr (Or.inr rfl)) (dp_dat de_int dp_nil)) (lp_nm (lp_dat lp_nil))) da_nil)) (by rfl))
    (dss_cons (ds_set (x := "_law_one") (i := 2) sc__law_spoilt.nd rfl (by first | exact Or.inl rfl | exact Or.inr rfl) (de_op o2_catTT op_catTT (de_op o2_catTT op_catTT (de_sliceW (de_nmI (i := 1) rfl (by first | exact Or.inl rfl | exact Or.inr (Or.inl rfl) | exact Or.inr (Or.inr rfl)) (dv 5) (fun _ _ => rfl)) do_none (do_some (dv 6))) (de_tup (da_cons (de_callF F__law_odd (hr.mono (by decide)) rfl (dp_nm (i := 0) rfl (by first | exact Or.inl rfl | exact Or.inr (Or.inl rfl) | exact Or.inr (Or.inr rfl)) dp_nil) (lp_nm lp_nil)) da_nil))) (de_sliceW (de_nmI (i := 1) rfl (by first | exact Or.inl rfl | exact Or.inr (Or.inl rfl) | exact Or.inr (Or.inr rfl)) (dv 5) (fun _ _ => rfl)) (do_some (de_op o2_add op_addA (dv 6) de_int)) do_none)))
    (dss_cons (ds_set (x := "_law_two") (i := 3) sc__law_spoilt.nd rfl (by first | exact Or.inl rfl | exact Or.inr rfl) (de_op o2_catTT op_catTT (de_sliceW (de_nmI (i := 1) rfl (by first | exact Or.inl rfl | exact Or.inr (Or.inl rfl) | exact Or.inr (Or.inr rfl)) (dv 5) (fun _ _ => rfl)) do_none (do_some de_int)) (de_tup (da_cons (de_callF F__law_bent (hr.mono (by decide)) rfl (dp_nm (i := 0) rfl (by first | exact Or.inl rfl | exact Or.inr (Or.inl rfl) | exact Or.inr (Or.inr rfl)) (dp_dat (de_ix (de_nmI (i := 1) rfl (by first | exact Or.inl rfl | exact Or.inr (Or.inl rfl) | exact Or.inr (Or.inr rfl)) (dv 5) (fun _ _ => rfl)) de_int (fun _ _ => rfl)) dp_nil)) (lp_nm (lp_dat lp_nil))) da_nil))))
    (dss_cons (ds_set (x := "_law_rows") (i := 4) sc__law_spoilt.nd rfl (by first | exact Or.inl rfl | exact Or.inr rfl) (de_lst (da_cons (de_tup (da_cons (dv 2) da_nil)) (da_cons (de_tup (da_cons (dv 3) da_nil)) (da_cons (de_tup (da_cons (dv 3) da_nil)) (da_cons (de_tup (da_cons (de_nmI (i := 1) rfl (by first | exact Or.inl rfl | exact Or.inr (Or.inl rfl) | exact Or.inr (Or.inr rfl)) (dv 5) (fun _ _ => rfl)) (da_cons (de_nmI (i := 1) rfl (by first | exact Or.inl rfl | exact Or.inr (Or.inl rfl) | exact Or.inr (Or.inr rfl)) (dv 5) (fun _ _ => rfl)) da_nil))) (da_cons (de_tup (da_cons (de_callTy oN_list call_list_of rfl T.n_list (by decide +kernel) (da_cons (de_nmI (i := 1) rfl (by first | exact Or.inl rfl | exact Or.inr (Or.inl rfl) | exact Or.inr (Or.inr rfl)) (dv 5) (fun _ _ => rfl)) da_nil)) da_nil)) (da_cons (de_tup (da_cons (de_sliceW (de_nmI (i := 1) rfl (by first | exact Or.inl rfl | exact Or.inr (Or.inl rfl) | exact Or.inr (Or.inr rfl)) (dv 5) (fun _ _ => rfl)) do_none (do_some de_int)) da_nil)) (da_cons (de_tup da_nil) da_nil)))))))))
    (dss_one (ds_ret (de_callF F__law_pick (hr.mono (by decide)) rfl (dp_nm (i := 0) rfl (by first | exact Or.inl rfl | exact Or.inr (Or.inl rfl) | exact Or.inr (Or.inr rfl)) (dp_dat (de_lst (da_cons (de_op o2_catTT op_catTT (de_op o2_catTT op_catTT (de_sliceW (dv 1) do_none (do_some (dv 5))) (de_callF F__law_pick (hr.mono (by decide)) rfl (dp_nm (i := 0) rfl (by first | exact Or.inl rfl | exact Or.inr (Or.inl rfl) | exact Or.inr (Or.inr rfl)) (dp_nm (i := 4) rfl (by first | exact Or.inl rfl | exact Or.inr (Or.inl rfl) | exact Or.inr (Or.inr rfl)) dp_nil)) (lp_nm (lp_nm lp_nil)))) (de_sliceW (dv 1) (do_some (de_op o2_add op_addA (dv 5) de_int)) do_none)) (da_cons (de_callTy oN_list call_list_of rfl T.n_list (by decide +kernel) (da_cons (dv 1) da_nil)) (da_cons (de_op o2_catTT op_catTT (dv 1) (de_sliceW (dv 1) do_none (do_some de_int))) da_nil)))) dp_nil)) (lp_nm (lp_dat lp_nil)))))))))
def N_law : List Str := ["_law_script", "_law_some", "_law_thing", "_law_cell_here", "_law_pen_here", "_law_lap", "_law_routes_here", "_law_path_here", "_law_stays", "_law_told"]
abbrev s_law : Stmt := top 46
theorem sc_law : FnScope N_law ["_law_script"] (defScope s_law) := ⟨rfl, rfl, rfl, by decide +kernel, rfl, by decide +kernel, by decide +kernel⟩
def B_law : FS :=
  (fSeq (fAsg (fC (.list [(.str "/"), (.str "//"), (.str "/a/b/c/d/e"), (.str "/a/b/c/d/e/f"), (.str "/abcdefgh"), (.str "/abcdefghi"), (.str "/a-9"), (.str "/A"), (.str "a"), (.str "")])) (gNm 1))
  (fSeq (fAsg (f2 (fVar 1) (fC (.list [(.str "/a/"), (.str "/{a}/{a}")])) gAdd) (gNm 1))
  (fSeq (fAsg (f2 (fVar 1) (fC (.list [(.str "/{a}"), (.str "/{a:n}"), (.str "/{a:m}"), (.str "/{:n}"), (.str "/{}"), (.str "/{a}b"), (.str "/x{a}"), (.str "/{a}/{b:n}/c/{d}/{e}")])) gAdd) (gNm 1))
  (fSeq (fAsg (f2 (fVar 1) (fC (.list [(.str "/{abcdefghi}"), (.str "/{a-b}")])) gAdd) (gNm 1))
  (fSeq (fFor (fSq (f2 (fVar 1) (fC (.list [.none, (.int (5)), (.tuple [(.str "/")]), (.list [(.str "/")])])) gAdd)) (gNm 2)
    (fIfS (fB (f2 (fN (fCons (fN (fCons (fCall m_is_path (pNm 2 pNil)) (fCons (fCall m_is_pattern (pNm 2 pNil)) fNil)) DL.gTup) fNil) (g1 reprD)) (fN (fCons (fN (fCons (fCall m__law_is_path (pNm 2 pNil)) (fCons (fCall m__law_is_pattern (pNm 2 pNil)) fNil)) DL.gTup) fNil) (g1 reprD)) gNe))
    (fRet (fC (.bool false)))
    fEnd))
  (fSeq (fFor (fSq (f2 (fN (fCons (fCall m__law_cell (pNm 0 (pDat (fC (.int (0))) pNil))) fNil) gLst) (fSl (fVar 0) (fSome (fC (.int (1)))) (fSome (fC (.int (4))))) gAdd)) (gNm 3)
    (fSeq (fOwn 4 (fCallN m__law_pen (pNm 3 pNil)))
  (fFor (fRg1 (fC (.int (3)))) (gNm 5)
    (fSeq (fAsg (fCall m__law_routes (pNm 4 pNil)) (gNm 6))
  (fSeq (fAsg (fCall m__law_path (pNm 4 (pNm 6 pNil))) (gNm 7))
  (fSeq (fFor (fSq (fN (fCons (fVar 7) (fCons (fCall m__law_bent (pNm 4 (pNm 7 pNil))) (fCons (fCall m__law_bent (pNm 4 (pDat (f2 (f2 (fVar 6) (fC (.int (0))) ixD) (fC (.int (2))) ixD) pNil))) (fCons (f2 (f2 (fVar 6) (f1I (fun i => -i) (fC (.int (1)))) ixD) (fC (.int (2))) ixD) (fCons (fCall m__law_odd (pNm 4 pNil)) fNil))))) gLst)) (gNm 2)
    (fIfS (fB (f2 (fN (fCons (fN (fCons (fCall m_is_path (pNm 2 pNil)) (fCons (fCall m_is_pattern (pNm 2 pNil)) fNil)) DL.gTup) fNil) (g1 reprD)) (fN (fCons (fN (fCons (fCall m__law_is_path (pNm 2 pNil)) (fCons (fCall m__law_is_pattern (pNm 2 pNil)) fNil)) DL.gTup) fNil) (g1 reprD)) gNe))
    (fRet (fC (.bool false)))
    fEnd))
  (fFor (fSq (fN (fCons (fVar 6) (fCons (fCall m__law_spoilt (pNm 4 (pNm 6 pNil))) (fCons (fCall m__law_spoilt (pNm 4 (pNm 6 pNil))) (fCons (fCall m__law_odd (pNm 4 pNil)) fNil)))) gLst)) (gNm 2)
    (fSeq (fPar 8 9 (fCons (fN (fCons (fVar 2) fNil) (g1 reprD)) (fCons (fCall m_are_routes (pNm 2 pNil)) fNil)))
  (fIfS (fOr (fB (f2 (fN (fCons (fVar 9) fNil) (g1 reprD)) (fN (fCons (fCall m__law_are_routes (pNm 2 pNil)) fNil) (g1 reprD)) gNe)) (fB (f2 (fN (fCons (fVar 2) fNil) (g1 reprD)) (fVar 8) gNe)))
    (fRet (fC (.bool false)))
    fEnd)))))))))
  (fRet (fC (.bool true)))))))))
def m_law : FE := defM 1 10 B_law
end
end Law
namespace Law
open PySem PySem.Spec PyProof.Rows L2 DL
local instance : Tabs := ⟨[]⟩
theorem isa_tt {xs : List PyData} : isaD "tuple" (.tuple xs) = true := rfl
theorem isa_ts {x : Str} : isaD "tuple" (.str x) = false := rfl
theorem isa_ti {x : Int} : isaD "tuple" (.int x) = false := rfl
theorem isa_tn : isaD "tuple" .none = false := rfl
theorem isa_tl {xs : List PyData} : isaD "tuple" (.list xs) = false := rfl
theorem isa_ss {x : Str} : isaD "str" (.str x) = true := rfl
theorem isa_st {xs : List PyData} : isaD "str" (.tuple xs) = false := rfl
theorem isa_si {x : Int} : isaD "str" (.int x) = false := rfl
theorem isa_sn : isaD "str" .none = false := rfl
theorem isa_ii {x : Int} : isaD "int" (.int x) = true := rfl
theorem isa_ib {x : Bool} : isaD "int" (.bool x) = true := rfl
theorem isa_bi {x : Int} : isaD "bool" (.int x) = false := rfl
theorem isa_bb {x : Bool} : isaD "bool" (.bool x) = true := rfl
theorem isa_is {x : Str} : isaD "int" (.str x) = false := rfl
theorem isa_in : isaD "int" .none = false := rfl
theorem isa_it {xs : List PyData} : isaD "int" (.tuple xs) = false := rfl
theorem lcF_pure {g : FG} {tt : FT} {te : FE} {ρ : Rho} {m : Mu} {p : PyData → Bool} {f : PyData → PyData} : ∀ (ds : List PyData), (∀ d ∈ ds, ∃ ρ1, g d ρ = some ρ1 ∧ tt ρ1 m = some (p d, m) ∧ (p d = true → te ρ1 m = some (f d, m))) → lcF g tt te ρ ds m = some ((ds.filter p).map f, m)
  | [], _ => rfl
  | d :: r, h => by
    obtain ⟨ρ1, e1, e2, e3⟩ := h d (by simp)
    have ih := lcF_pure (g := g) (tt := tt) (te := te) (ρ := ρ) (m := m) (p := p) (f := f) r fun x hx => h x (by simp [hx])
    unfold lcF
    rw [e1]
    show bnd (tt ρ1 m) _ = _
    rw [e2]
    show (if p d = true then _ else _) = _
    cases hp : p d with
    | true =>
      rw [if_pos rfl, e3 hp]
      show bnd (lcF g tt te ρ r m) _ = _
      rw [ih, List.filter_cons, if_pos hp]
      rfl
    | false =>
      rw [if_neg (by decide), ih, List.filter_cons, if_neg (by rw [hp]; decide)]
theorem lcF_all {g : FG} {te : FE} {ρ : Rho} {m : Mu} {f : PyData → PyData} (ds : List PyData) (h : ∀ d ∈ ds, ∃ ρ1, g d ρ = some ρ1 ∧ te ρ1 m = some (f d, m)) : lcF g fYes te ρ ds m = some (ds.map f, m) := by
  have := lcF_pure (g := g) (tt := fYes) (te := te) (ρ := ρ) (m := m) (p := fun _ => true) (f := f) ds fun d hd => by
    obtain ⟨ρ1, e1, e2⟩ := h d hd
    exact ⟨ρ1, e1, rfl, fun _ => e2⟩
  rw [this, List.filter_eq_self.mpr (fun _ _ => rfl)]
theorem blsOf_map : ∀ bs : List Bool, blsOf (bs.map PyData.bool) = some bs
  | [] => rfl
  | b :: r => by show opt (blsOf (r.map PyData.bool)) _ = _; rw [blsOf_map r]; rfl
theorem line_ge {n : Nat} (h : n ≤ 200000) : n ≤ sizeLine := Nat.le_trans h (by decide)
theorem gTup_ok {ds : List PyData} (h : ds.length ≤ 200000) : DL.gTup ds = some (.tuple ds) := by unfold DL.gTup; rw [if_pos (line_ge h)]
theorem gLst_ok {ds : List PyData} (h : ds.length ≤ 200000) : gLst ds = some (.list ds) := by unfold gLst; rw [if_pos (line_ge h)]
theorem gTup0 : DL.gTup [] = some (.tuple []) := gTup_ok (by decide)
theorem gTup1 (a : PyData) : DL.gTup [a] = some (.tuple [a]) := gTup_ok (by simp)
theorem gTup2 (a b : PyData) : DL.gTup [a, b] = some (.tuple [a, b]) := gTup_ok (by simp)
theorem gTup3 (a b c : PyData) : DL.gTup [a, b, c] = some (.tuple [a, b, c]) := gTup_ok (by simp)
theorem gLst0 : gLst [] = some (.list []) := gLst_ok (by decide)
theorem gLst1 (a : PyData) : gLst [a] = some (.list [a]) := gLst_ok (by simp)
theorem gLst2 (a b : PyData) : gLst [a, b] = some (.list [a, b]) := gLst_ok (by simp)
theorem gLst3 (a b c : PyData) : gLst [a, b, c] = some (.list [a, b, c]) := gLst_ok (by simp)
theorem gLst4 (a b c d : PyData) : gLst [a, b, c, d] = some (.list [a, b, c, d]) := gLst_ok (by simp)
theorem gLst5 (a b c d e : PyData) : gLst [a, b, c, d, e] = some (.list [a, b, c, d, e]) := gLst_ok (by simp)
theorem gLst10 (a b c d e f g h i j : PyData) : gLst [a, b, c, d, e, f, g, h, i, j] = some (.list [a, b, c, d, e, f, g, h, i, j]) := gLst_ok (by simp)
def shortB (x sg : Str) : Bool := decide (1 ≤ (x.length : Int)) && (decide ((x.length : Int) ≤ 8) && (x.cps.toList.all fun c => decide (c ∈ sg.cps.toList)))
theorem e_short (x sg : Str) (μ : Mu) (hx : x.length ≤ 200000) : m_is_short_text [.dat (.str x), .dat (.str sg)] μ = some (.bool (shortB x sg), μ) := by
  have hl : lenD (.str x) = some (.int x.length) := by show (if x.length ≤ sizeLine then _ else _) = _; rw [if_pos (line_ge hx)]
  have hc : lcF (gNm 2) fYes (f2 (fVar 2) (fVar 1) (gInS false)) (wipeR [Sl.dat (PyData.str x), Sl.dat (PyData.str sg), Sl.un] [2]) (DL.signs x) μ = some ((x.cps.toList.map fun c => PyData.bool (decide (c ∈ sg.cps.toList))), μ) := by
    have := lcF_all (g := gNm 2) (te := f2 (fVar 2) (fVar 1) (gInS false)) (ρ := wipeR [Sl.dat (PyData.str x), Sl.dat (PyData.str sg), Sl.un] [2]) (m := μ) (f := fun d => match d with | .str c => .bool (decide (c.cps.toList.headD 0 ∈ sg.cps.toList)) | _ => .none) (DL.signs x) fun d hd => by
      unfold DL.signs at hd
      obtain ⟨c, _, rfl⟩ := List.mem_map.mp hd
      exact ⟨_, rfl, rfl⟩
    rw [this]
    unfold DL.signs
    rw [List.map_map]
    rfl
  have hs : (DL.signs x).length ≤ sizeLine := by unfold DL.signs; simpa [Str.length] using line_ge hx
  unfold m_is_short_text B_is_short_text shortB
  simp only [defM, fSeq, fIfS, fAnd, fOr, fNot, fB, fAndV, fOrV, fNotV, fIf, fIsi, tyD, fIsA, bnd, opt, fin, fChain, f2, fN, fCons, fNil, fVar, fC, g1, gI, gIC, fRet, fExpr, fCall, pNil, pDat, pNm, fAsg, gNm, gNo, gCo, gTu, fEnd, fFor, fSq, seqD, fSg, fLcD, fLc, fYes, fM1, gSS, fM0, fSl, fNo, fSome, rd, fNmB, fNm2, fNmI, fNmT, fNmJ, fNmS, sc, isSc, fSetI, fApp, fOwn, fLstF, fCatF, fRetO, fPar, fParO, fTru, truB, List.cons_append, List.nil_append, List.getElem?_cons_zero, List.getElem?_cons_succ, List.set_cons_zero, List.set_cons_succ, List.replicate, List.length_cons, List.length_nil, Nat.reduceAdd, Nat.reduceSub, if_true, if_false, Bool.false_eq_true, ↓reduceIte, List.append_nil, gTup0, gTup1, gTup2, gTup3, gLst0, gLst1, gLst2, gLst3, gLst4, gLst5, gLst10, isa_tt, isa_ts, isa_ti, isa_tn, isa_tl, isa_ss, isa_st, isa_si, isa_sn, isa_ii, isa_ib, isa_bi, isa_bb, isa_is, isa_in, isa_it, hl]
  by_cases h1 : 1 ≤ (x.length : Int)
  · by_cases h2 : (x.length : Int) ≤ 8
    · simp only [defM, fSeq, fIfS, fAnd, fOr, fNot, fB, fAndV, fOrV, fNotV, fIf, fIsi, tyD, fIsA, bnd, opt, fin, fChain, f2, fN, fCons, fNil, fVar, fC, g1, gI, gIC, fRet, fExpr, fCall, pNil, pDat, pNm, fAsg, gNm, gNo, gCo, gTu, fEnd, fFor, fSq, seqD, fSg, fLcD, fLc, fYes, fM1, gSS, fM0, fSl, fNo, fSome, rd, fNmB, fNm2, fNmI, fNmT, fNmJ, fNmS, sc, isSc, fSetI, fApp, fOwn, fLstF, fCatF, fRetO, fPar, fParO, fTru, truB, List.cons_append, List.nil_append, List.getElem?_cons_zero, List.getElem?_cons_succ, List.set_cons_zero, List.set_cons_succ, List.replicate, List.length_cons, List.length_nil, Nat.reduceAdd, Nat.reduceSub, if_true, if_false, Bool.false_eq_true, ↓reduceIte, List.append_nil, gTup0, gTup1, gTup2, gTup3, gLst0, gLst1, gLst2, gLst3, gLst4, gLst5, gLst10, isa_tt, isa_ts, isa_ti, isa_tn, isa_tl, isa_ss, isa_st, isa_si, isa_sn, isa_ii, isa_ib, isa_bi, isa_bb, isa_is, isa_in, isa_it, h1, h2, decide_true, Bool.not_true, if_pos hs, hc, allD]
      have hb : blsOf (x.cps.toList.map fun c => PyData.bool (decide (c ∈ sg.cps.toList))) = some (x.cps.toList.map fun c => decide (c ∈ sg.cps.toList)) := by
        have := blsOf_map (x.cps.toList.map fun c => decide (c ∈ sg.cps.toList))
        rw [List.map_map] at this
        exact this
      simp only [defM, fSeq, fIfS, fAnd, fOr, fNot, fB, fAndV, fOrV, fNotV, fIf, fIsi, tyD, fIsA, bnd, opt, fin, fChain, f2, fN, fCons, fNil, fVar, fC, g1, gI, gIC, fRet, fExpr, fCall, pNil, pDat, pNm, fAsg, gNm, gNo, gCo, gTu, fEnd, fFor, fSq, seqD, fSg, fLcD, fLc, fYes, fM1, gSS, fM0, fSl, fNo, fSome, rd, fNmB, fNm2, fNmI, fNmT, fNmJ, fNmS, sc, isSc, fSetI, fApp, fOwn, fLstF, fCatF, fRetO, fPar, fParO, fTru, truB, List.cons_append, List.nil_append, List.getElem?_cons_zero, List.getElem?_cons_succ, List.set_cons_zero, List.set_cons_succ, List.replicate, List.length_cons, List.length_nil, Nat.reduceAdd, Nat.reduceSub, if_true, if_false, Bool.false_eq_true, ↓reduceIte, List.append_nil, gTup0, gTup1, gTup2, gTup3, gLst0, gLst1, gLst2, gLst3, gLst4, gLst5, gLst10, isa_tt, isa_ts, isa_ti, isa_tn, isa_tl, isa_ss, isa_st, isa_si, isa_sn, isa_ii, isa_ib, isa_bi, isa_bb, isa_is, isa_in, isa_it, hb, List.take_length, List.all_map, Bool.true_and]
      rfl
    · simp only [defM, fSeq, fIfS, fAnd, fOr, fNot, fB, fAndV, fOrV, fNotV, fIf, fIsi, tyD, fIsA, bnd, opt, fin, fChain, f2, fN, fCons, fNil, fVar, fC, g1, gI, gIC, fRet, fExpr, fCall, pNil, pDat, pNm, fAsg, gNm, gNo, gCo, gTu, fEnd, fFor, fSq, seqD, fSg, fLcD, fLc, fYes, fM1, gSS, fM0, fSl, fNo, fSome, rd, fNmB, fNm2, fNmI, fNmT, fNmJ, fNmS, sc, isSc, fSetI, fApp, fOwn, fLstF, fCatF, fRetO, fPar, fParO, fTru, truB, List.cons_append, List.nil_append, List.getElem?_cons_zero, List.getElem?_cons_succ, List.set_cons_zero, List.set_cons_succ, List.replicate, List.length_cons, List.length_nil, Nat.reduceAdd, Nat.reduceSub, if_true, if_false, Bool.false_eq_true, ↓reduceIte, List.append_nil, gTup0, gTup1, gTup2, gTup3, gLst0, gLst1, gLst2, gLst3, gLst4, gLst5, gLst10, isa_tt, isa_ts, isa_ti, isa_tn, isa_tl, isa_ss, isa_st, isa_si, isa_sn, isa_ii, isa_ib, isa_bi, isa_bb, isa_is, isa_in, isa_it, h1, h2, decide_true, decide_false, Bool.not_true, Bool.not_false, List.take_length, Bool.true_and, Bool.false_and]
  · simp only [defM, fSeq, fIfS, fAnd, fOr, fNot, fB, fAndV, fOrV, fNotV, fIf, fIsi, tyD, fIsA, bnd, opt, fin, fChain, f2, fN, fCons, fNil, fVar, fC, g1, gI, gIC, fRet, fExpr, fCall, pNil, pDat, pNm, fAsg, gNm, gNo, gCo, gTu, fEnd, fFor, fSq, seqD, fSg, fLcD, fLc, fYes, fM1, gSS, fM0, fSl, fNo, fSome, rd, fNmB, fNm2, fNmI, fNmT, fNmJ, fNmS, sc, isSc, fSetI, fApp, fOwn, fLstF, fCatF, fRetO, fPar, fParO, fTru, truB, List.cons_append, List.nil_append, List.getElem?_cons_zero, List.getElem?_cons_succ, List.set_cons_zero, List.set_cons_succ, List.replicate, List.length_cons, List.length_nil, Nat.reduceAdd, Nat.reduceSub, if_true, if_false, Bool.false_eq_true, ↓reduceIte, List.append_nil, gTup0, gTup1, gTup2, gTup3, gLst0, gLst1, gLst2, gLst3, gLst4, gLst5, gLst10, isa_tt, isa_ts, isa_ti, isa_tn, isa_tl, isa_ss, isa_st, isa_si, isa_sn, isa_ii, isa_ib, isa_bi, isa_bb, isa_is, isa_in, isa_it, h1, decide_false, Bool.not_true, Bool.not_false, List.take_length, Bool.false_and]
end Law
namespace Law
open PySem PySem.Spec PyProof.Rows L2 DL
local instance : Tabs := ⟨[]⟩
def nameB (x : Str) : Bool := shortB x "abcdefghijklmnopqrstuvwxyz"
def wordB (x : Str) : Bool := shortB x "abcdefghijklmnopqrstuvwxyz0123456789-"
theorem e_name (x : Str) (μ : Mu) (hx : x.length ≤ 200000) : m_is_name [.dat (.str x)] μ = some (.bool (nameB x), μ) := by
  unfold m_is_name B_is_name nameB
  simp only [defM, fSeq, fIfS, fAnd, fOr, fNot, fB, fAndV, fOrV, fNotV, fIf, fIsi, tyD, fIsA, bnd, opt, fin, fChain, f2, fN, fCons, fNil, fVar, fC, g1, gI, gIC, fRet, fExpr, fCall, pNil, pDat, pNm, fAsg, gNm, gNo, gCo, gTu, fEnd, fFor, fSq, seqD, fSg, fLcD, fLc, fYes, fM1, gSS, fM0, fSl, fNo, fSome, rd, fNmB, fNm2, fNmI, fNmT, fNmJ, fNmS, sc, isSc, fSetI, fApp, fOwn, fLstF, fCatF, fRetO, fPar, fParO, fTru, truB, List.cons_append, List.nil_append, List.getElem?_cons_zero, List.getElem?_cons_succ, List.set_cons_zero, List.set_cons_succ, List.replicate, List.length_cons, List.length_nil, Nat.reduceAdd, Nat.reduceSub, if_true, if_false, Bool.false_eq_true, ↓reduceIte, List.append_nil, gTup0, gTup1, gTup2, gTup3, gLst0, gLst1, gLst2, gLst3, gLst4, gLst5, gLst10, isa_tt, isa_ts, isa_ti, isa_tn, isa_tl, isa_ss, isa_st, isa_si, isa_sn, isa_ii, isa_ib, isa_bi, isa_bb, isa_is, isa_in, isa_it, e_short _ _ _ hx, List.take_length]
theorem e_word (x : Str) (μ : Mu) (hx : x.length ≤ 200000) : m_is_word [.dat (.str x)] μ = some (.bool (wordB x), μ) := by
  unfold m_is_word B_is_word wordB
  simp only [defM, fSeq, fIfS, fAnd, fOr, fNot, fB, fAndV, fOrV, fNotV, fIf, fIsi, tyD, fIsA, bnd, opt, fin, fChain, f2, fN, fCons, fNil, fVar, fC, g1, gI, gIC, fRet, fExpr, fCall, pNil, pDat, pNm, fAsg, gNm, gNo, gCo, gTu, fEnd, fFor, fSq, seqD, fSg, fLcD, fLc, fYes, fM1, gSS, fM0, fSl, fNo, fSome, rd, fNmB, fNm2, fNmI, fNmT, fNmJ, fNmS, sc, isSc, fSetI, fApp, fOwn, fLstF, fCatF, fRetO, fPar, fParO, fTru, truB, List.cons_append, List.nil_append, List.getElem?_cons_zero, List.getElem?_cons_succ, List.set_cons_zero, List.set_cons_succ, List.replicate, List.length_cons, List.length_nil, Nat.reduceAdd, Nat.reduceSub, if_true, if_false, Bool.false_eq_true, ↓reduceIte, List.append_nil, gTup0, gTup1, gTup2, gTup3, gLst0, gLst1, gLst2, gLst3, gLst4, gLst5, gLst10, isa_tt, isa_ts, isa_ti, isa_tn, isa_tl, isa_ss, isa_st, isa_si, isa_sn, isa_ii, isa_ib, isa_bi, isa_bb, isa_is, isa_in, isa_it, e_short _ _ _ hx, List.take_length]
def tx : Nat → Str
  | 0 => "a" | 1 => "b" | 2 => "7" | 3 => "no"
  | 4 => "{a}" | 5 => "{id}" | 6 => "{x}" | 7 => "{eighteen}" | 8 => "{n}" | 9 => "{xx}"
  | 10 => "{a:n}" | 11 => "{id:n}" | 12 => "{x:n}" | 13 => "{eighteen:n}" | 14 => "{n:n}" | 15 => "{xx:n}"
  | 16 => "0" | 17 => "12" | 18 => "9999" | 19 => "00" | 20 => "10000" | _ => "x-9"
def so : Nat → Int
  | 0 => 0 | 1 => 0 | 2 => 0 | 3 => 0 | 4 => 2 | 5 => 2 | 6 => 2 | 7 => 2 | 8 => 2 | 9 => 2 | 10 => 1 | 11 => 1 | 12 => 1 | 13 => 1 | 14 => 1 | 15 => 1 | _ => 0
def nm : Nat → Str
  | 0 => "a" | 1 => "b" | 2 => "7" | 3 => "no"
  | 4 => "a" | 5 => "id" | 6 => "x" | 7 => "eighteen" | 8 => "n" | 9 => "xx"
  | 10 => "a" | 11 => "id" | 12 => "x" | 13 => "eighteen" | 14 => "n" | 15 => "xx"
  | 16 => "0" | 17 => "12" | 18 => "9999" | 19 => "00" | 20 => "10000" | _ => "x-9"
theorem tx_len : ∀ c, (tx c).length ≤ 20
  | 0 | 1 | 2 | 3 | 4 | 5 | 6 | 7 | 8 | 9 | 10 | 11 | 12 | 13 | 14 | 15 | 16 | 17 | 18 | 19 | 20 => by decide +kernel
  | _ + 21 => by show (Str.ofString "x-9").length ≤ 20; decide +kernel
theorem lt16 {P : Nat → Prop} {c : Nat} (h : c < 22) (h0 : P 0) (h1 : P 1) (h2 : P 2) (h3 : P 3) (h4 : P 4) (h5 : P 5) (h6 : P 6) (h7 : P 7) (h8 : P 8) (h9 : P 9) (h10 : P 10) (h11 : P 11) (h12 : P 12) (h13 : P 13) (h14 : P 14) (h15 : P 15) (h16 : P 16) (h17 : P 17) (h18 : P 18) (h19 : P 19) (h20 : P 20) (h21 : P 21) : P c := by
  match c, h with
  | 0, _ => exact h0
  | 1, _ => exact h1
  | 2, _ => exact h2
  | 3, _ => exact h3
  | 4, _ => exact h4
  | 5, _ => exact h5
  | 6, _ => exact h6
  | 7, _ => exact h7
  | 8, _ => exact h8
  | 9, _ => exact h9
  | 10, _ => exact h10
  | 11, _ => exact h11
  | 12, _ => exact h12
  | 13, _ => exact h13
  | 14, _ => exact h14
  | 15, _ => exact h15
  | 16, _ => exact h16
  | 17, _ => exact h17
  | 18, _ => exact h18
  | 19, _ => exact h19
  | 20, _ => exact h20
  | 21, _ => exact h21
  | n + 22, h => omega
end Law
namespace Law
open PySem PySem.Spec PyProof.Rows L2 DL
local instance : Tabs := ⟨[]⟩
open TL
def pathS (ps : List Str) : Str := "/" ++ Txt.join "/" ps
structure Pcs (ps : List Str) : Prop where
  len : ps.length ≤ 5
  one : ∀ p ∈ ps, p.length ≤ 20
  ne : ∀ p ∈ ps, tl p ≠ []
  no : ∀ p ∈ ps, 47 ∉ tl p
theorem tl_slash : tl ("/" : Str) = [47] := by decide +kernel
theorem tl_pathS (ps : List Str) : tl (pathS ps) = 47 :: tl (Txt.join "/" ps) := by
  unfold pathS
  rw [tl_append, tl_slash]; rfl
theorem cut1 (x : Str) (c : Nat) (y : Str) (h : tl x = c :: tl y) : cutS x (some 1) none = y := by
  apply ext_tl
  have hl : x.length = (tl y).length + 1 := by rw [len_tl, h]; rfl
  unfold cutS
  show ((tl x).drop (HT.sIx x.length 0 (some 1))).take (HT.sIx x.length x.length none - HT.sIx x.length 0 (some 1)) = tl y
  have e1 : HT.sIx x.length 0 (some 1) = 1 := by
    have z : HT.sIx x.length 0 (some ((1 : Nat) : Int)) = min 1 x.length := HT.sIx_nat _ _ _
    have z2 : HT.sIx x.length 0 (some 1) = min 1 x.length := z
    rw [z2]; omega
  have e2 : HT.sIx x.length x.length none = x.length := rfl
  rw [e1, e2, h, hl]
  show ((tl y)).take ((tl y).length + 1 - 1) = tl y
  rw [Nat.add_sub_cancel, List.take_length]
theorem join_nil (y : Str) : Txt.join y [] = "" := by rw [join_eq]; rfl
theorem pathS_nil : pathS [] = "/" := by unfold pathS; rw [join_nil]; decide +kernel
theorem joinL_cc (S p q : List Nat) (r : List (List Nat)) : joinL S (p :: q :: r) = p ++ (S ++ joinL S (q :: r)) := by simp [joinL]
theorem joinL_len (S : List Nat) : ∀ ps : List (List Nat), (joinL S ps).length ≤ (ps.map List.length).sum + ps.length * S.length
  | [] => by simp [joinL]
  | [p] => by simp [joinL]
  | p :: q :: r => by
    have := joinL_len S (q :: r)
    rw [joinL_cc]
    simp only [List.length_append, List.map_cons, List.sum_cons, List.length_cons] at this ⊢
    have e : (r.length + 1 + 1) * S.length = (r.length + 1) * S.length + S.length := by rw [Nat.succ_mul]
    omega
theorem sum_le {ps : List Str} (h : ∀ p ∈ ps, p.length ≤ 20) : (ps.map (·.length)).sum ≤ ps.length * 20 := by
  induction ps with
  | nil => simp
  | cons p r ih =>
    have h1 := h p (by simp)
    have h2 := ih fun q hq => h q (by simp [hq])
    simp only [List.map_cons, List.sum_cons, List.length_cons]
    have e : (r.length + 1) * 20 = r.length * 20 + 20 := by rw [Nat.succ_mul]
    omega
theorem join_lenW {ps : List Str} (hl : ps.length ≤ 5) (ho : ∀ p ∈ ps, p.length ≤ 20) : (Txt.join "/" ps).length ≤ 105 := by
  rw [len_tl, join_eq, tl_join, tl_slash]
  have h1 := joinL_len (tl "/") (ps.map tl)
  have e1 : ((ps.map tl).map List.length).sum = (ps.map (·.length)).sum := by
    congr 1
    rw [List.map_map]
    apply List.map_congr_left
    intro p _
    exact (len_tl p).symm
  have h2 := sum_le ho
  rw [e1, List.length_map, tl_slash] at h1
  have h3 := hl
  simp only [List.length_cons, List.length_nil] at h1
  have e2 : ps.length * 20 ≤ 5 * 20 := Nat.mul_le_mul_right _ h3
  omega
theorem join_len {ps : List Str} (h : Pcs ps) : (Txt.join "/" ps).length ≤ 105 := join_lenW h.len h.one
theorem pathS_len {ps : List Str} (h : Pcs ps) : (pathS ps).length ≤ 106 := by
  rw [len_tl, tl_pathS, List.length_cons, ← len_tl]
  have := join_len h
  omega
end Law
namespace Law
open PySem PySem.Spec PyProof.Rows L2 DL
local instance : Tabs := ⟨[]⟩
theorem map_len {α : Type} {f : α → PyData} {xs : List α} (h : xs.length ≤ 200000) : (xs.map f).length ≤ sizeLine := by rw [List.length_map]; exact line_ge h
theorem lc_map {α : Type} {mk f : α → PyData} {g : FG} {te : FE} {ρ : Rho} {m : Mu} (xs : List α) (h : ∀ a ∈ xs, ∃ ρ1, g (mk a) ρ = some ρ1 ∧ te ρ1 m = some (f a, m)) : lcF g fYes te ρ (xs.map mk) m = some (xs.map f, m) := by
  induction xs with
  | nil => rfl
  | cons a r ih =>
    obtain ⟨ρ1, e1, e2⟩ := h a (by simp)
    rw [List.map_cons]
    unfold lcF
    rw [e1]
    show bnd (te ρ1 m) _ = _
    rw [e2]
    show bnd (lcF g fYes te ρ _ m) _ = _
    rw [ih fun x hx => h x (by simp [hx])]
    rfl
theorem lc_filt {α : Type} {mk f : α → PyData} {g : FG} {tt : FT} {te : FE} {ρ : Rho} {m : Mu} {p : α → Bool} (xs : List α) (h : ∀ a ∈ xs, ∃ ρ1, g (mk a) ρ = some ρ1 ∧ tt ρ1 m = some (p a, m) ∧ (p a = true → te ρ1 m = some (f a, m))) : lcF g tt te ρ (xs.map mk) m = some ((xs.filter p).map f, m) := by
  induction xs with
  | nil => rfl
  | cons a r ih =>
    obtain ⟨ρ1, e1, e2, e3⟩ := h a (by simp)
    have ih := ih fun x hx => h x (by simp [hx])
    rw [List.map_cons]
    unfold lcF
    rw [e1]
    show bnd (tt ρ1 m) _ = _
    rw [e2]
    show (if p a = true then _ else _) = _
    cases hp : p a with
    | true =>
      rw [if_pos rfl, e3 hp]
      show bnd (lcF g tt te ρ _ m) _ = _
      rw [ih, List.filter_cons, if_pos hp]
      rfl
    | false => rw [if_neg (by decide), ih, List.filter_cons, if_neg (by rw [hp]; decide)]
mutual
def fit : PyData → Bool
  | .none => true
  | .bool _ => true
  | .int i => decide (i.natAbs.log2 < 200) && decide ((PyData.shown (.int i)).length ≤ 41)
  | .str x => x.cps.toList.all fun c => decide (c < 0x110000)
  | .list xs => fitAll xs
  | .tuple xs => decide (xs.length ≤ 1000) && fitAll xs
  | .dict kvs => PyData.showable (.dict kvs) && PyData.leavesShort 41 (.dict kvs)
def fitAll : List PyData → Bool
  | [] => true
  | x :: r => fit x && fitAll r
end
mutual
theorem fit_sh : ∀ d : PyData, fit d = true → d.showable = true ∧ d.leavesShort 41 = true
  | .none, _ => ⟨rfl, rfl⟩
  | .bool _, _ => ⟨rfl, rfl⟩
  | .int i, h => by
    unfold fit at h
    simp only [Bool.and_eq_true, decide_eq_true_eq] at h
    exact ⟨decide_eq_true (by omega), decide_eq_true h.2⟩
  | .str x, h => by
    unfold fit at h
    refine ⟨rfl, ?_⟩
    unfold PyData.leavesShort
    rw [List.all_eq_true] at h ⊢
    intro c hc
    have := of_decide_eq_true (h c hc)
    exact decide_eq_true (Nat.lt_trans this (by decide))
  | .list xs, h => by
    unfold fit at h
    have := fitAll_sh xs h
    exact ⟨this.1, this.2⟩
  | .tuple xs, h => by
    unfold fit at h
    rw [Bool.and_eq_true] at h
    have := fitAll_sh xs h.2
    exact ⟨this.1, this.2⟩
  | .dict kvs, h => by
    unfold fit at h
    simpa only [Bool.and_eq_true] using h
theorem fitAll_sh : ∀ xs : List PyData, fitAll xs = true → PyData.showableAll xs = true ∧ PyData.leavesShortAll 41 xs = true
  | [], _ => ⟨rfl, rfl⟩
  | x :: r, h => by
    unfold fitAll at h
    rw [Bool.and_eq_true] at h
    obtain ⟨a1, a2⟩ := fit_sh x h.1
    obtain ⟨b1, b2⟩ := fitAll_sh r h.2
    refine ⟨?_, ?_⟩
    · unfold PyData.showableAll; rw [a1, b1]; rfl
    · unfold PyData.leavesShortAll; rw [a2, b2]; rfl
end
theorem fitAll_mem : ∀ {xs : List PyData}, fitAll xs = true → ∀ x ∈ xs, fit x = true
  | y :: r, h, x, hx => by
    unfold fitAll at h
    rw [Bool.and_eq_true] at h
    rcases List.mem_cons.mp hx with rfl | hx
    · exact h.1
    · exact fitAll_mem h.2 x hx
theorem fitAll_of : ∀ {xs : List PyData}, (∀ x ∈ xs, fit x = true) → fitAll xs = true
  | [], _ => rfl
  | y :: r, h => by
    unfold fitAll
    rw [h y (by simp), fitAll_of fun x hx => h x (by simp [hx])]; rfl
theorem wt_mem : ∀ {xs : List PyData} {x : PyData}, x ∈ xs → x.weight + 1 ≤ PyData.weightAll xs
  | y :: r, x, hx => by
    show x.weight + 1 ≤ y.weight + 1 + PyData.weightAll r
    rcases List.mem_cons.mp hx with rfl | hx
    · omega
    · have := wt_mem hx; omega
theorem len_wt : ∀ xs : List PyData, xs.length ≤ PyData.weightAll xs
  | [] => Nat.zero_le _
  | y :: r => by
    show r.length + 1 ≤ y.weight + 1 + PyData.weightAll r
    have := len_wt r; omega
structure Sm (d : PyData) : Prop where
  f : fit d = true
  w : d.weight ≤ 200000
theorem Sm.tup {xs : List PyData} (h : Sm (.tuple xs)) : xs.length ≤ 1000 ∧ ∀ x ∈ xs, Sm x := by
  have hw : PyData.weightAll xs ≤ 200000 := h.w
  have hf := h.f
  unfold fit at hf
  rw [Bool.and_eq_true, decide_eq_true_eq] at hf
  have hl := len_wt xs
  exact ⟨hf.1, fun x hx => ⟨fitAll_mem hf.2 x hx, by have := wt_mem hx; omega⟩⟩
theorem Sm.len {x : Str} (h : Sm (.str x)) : x.length ≤ 200000 := h.w
def okR (d : PyData) : Bool := !d.hasDict || noLst d
theorem e_repr {d : PyData} (h : Sm d) (hd : d.depth ≤ 32) (ho : okR d = true) : reprD d = some (.str d.shown) := by
  obtain ⟨h1, h2⟩ := fit_sh d h.f
  have h3 : d.shown.length ≤ sizeLine := by
    have := PyData.shown_le 41 (by decide) d h2
    have hw := h.w
    have e : (41 + 2) * d.weight ≤ 43 * 200000 := Nat.mul_le_mul_left _ hw
    rw [sizeLine_eq]
    omega
  unfold okR at ho
  unfold reprD reprB
  rw [h1, ho, decide_eq_true h3, decide_eq_true hd]; rfl
def nameD : PyData → Bool
  | .str x => shortB x "abcdefghijklmnopqrstuvwxyz"
  | _ => false
theorem short_not {d sg : PyData} (hs : isaD "str" d = false) (μ : Mu) : m_is_short_text [.dat d, .dat sg] μ = some (.bool false, μ) := by
  unfold m_is_short_text B_is_short_text
  simp only [defM, fSeq, fIfS, fAnd, fOr, fNot, fB, fAndV, fOrV, fNotV, fIf, fIsi, tyD, fIsA, bnd, opt, fin, fChain, f2, fN, fCons, fNil, fVar, fC, g1, gI, gIC, fRet, fExpr, fCall, pNil, pDat, pNm, fAsg, gNm, gNo, gCo, gTu, fEnd, fFor, fSq, seqD, fSg, fLcD, fLc, fYes, fM1, gSS, fM0, fSl, fNo, fSome, rd, fNmB, fNm2, fNmI, fNmT, fNmJ, fNmS, sc, isSc, fSetI, fApp, fOwn, fLstF, fCatF, fRetO, fPar, fParO, fTru, truB, List.cons_append, List.nil_append, List.getElem?_cons_zero, List.getElem?_cons_succ, List.set_cons_zero, List.set_cons_succ, List.replicate, List.length_cons, List.length_nil, Nat.reduceAdd, Nat.reduceSub, if_true, if_false, Bool.false_eq_true, ↓reduceIte, List.append_nil, gTup0, gTup1, gTup2, gTup3, gLst0, gLst1, gLst2, gLst3, gLst4, gLst5, gLst10, isa_tt, isa_ts, isa_ti, isa_tn, isa_tl, isa_ss, isa_st, isa_si, isa_sn, isa_ii, isa_ib, isa_bi, isa_bb, isa_is, isa_in, isa_it, hs, Bool.not_false, List.take_length]
theorem e_nameD {d : PyData} (h : Sm d) (μ : Mu) : m_is_name [.dat d] μ = some (.bool (nameD d), μ) := by
  have key : m_is_short_text [.dat d, .dat (.str "abcdefghijklmnopqrstuvwxyz")] μ = some (.bool (nameD d), μ) := by
    cases d with
    | str x => exact e_short x _ μ h.len
    | none => exact short_not rfl μ
    | bool _ => exact short_not rfl μ
    | int _ => exact short_not rfl μ
    | list _ => exact short_not rfl μ
    | tuple _ => exact short_not rfl μ
    | dict _ => exact short_not rfl μ
  unfold m_is_name B_is_name
  simp only [defM, fSeq, fIfS, fAnd, fOr, fNot, fB, fAndV, fOrV, fNotV, fIf, fIsi, tyD, fIsA, bnd, opt, fin, fChain, f2, fN, fCons, fNil, fVar, fC, g1, gI, gIC, fRet, fExpr, fCall, pNil, pDat, pNm, fAsg, gNm, gNo, gCo, gTu, fEnd, fFor, fSq, seqD, fSg, fLcD, fLc, fYes, fM1, gSS, fM0, fSl, fNo, fSome, rd, fNmB, fNm2, fNmI, fNmT, fNmJ, fNmS, sc, isSc, fSetI, fApp, fOwn, fLstF, fCatF, fRetO, fPar, fParO, fTru, truB, List.cons_append, List.nil_append, List.getElem?_cons_zero, List.getElem?_cons_succ, List.set_cons_zero, List.set_cons_succ, List.replicate, List.length_cons, List.length_nil, Nat.reduceAdd, Nat.reduceSub, if_true, if_false, Bool.false_eq_true, ↓reduceIte, List.append_nil, gTup0, gTup1, gTup2, gTup3, gLst0, gLst1, gLst2, gLst3, gLst4, gLst5, gLst10, isa_tt, isa_ts, isa_ti, isa_tn, isa_tl, isa_ss, isa_st, isa_si, isa_sn, isa_ii, isa_ib, isa_bi, isa_bb, isa_is, isa_in, isa_it, key, List.take_length]
theorem nil_eq {L : List PyData} (h : PyData.canLayAll0 L = true) (hd : PyData.depthAll L ≤ 10) : gEq (.list L) (.list []) = some (.bool L.isEmpty) := by
  have h1 : SeqAt.shaped (.list L) = true := by
    have e : PyData.canLay0 (.list L) = true := by unfold PyData.canLay0; exact h
    unfold SeqAt.shaped
    rw [e]
    simp only [Bool.true_and, decide_eq_true_eq]
    show PyData.depthAll L + 1 ≤ 64
    omega
  have h2 : SeqAt.shaped (.list []) = true := by decide +kernel
  have e : eqB (.list L) (.list []) = some (PyData.eqv (.list L) (.list [])) := by
    show (if _ then _ else _) = _
    rw [if_pos ⟨h1, h2⟩]
  unfold gEq
  rw [e]
  cases L with
  | nil => show some (PyData.bool _) = _; simp [PyData.eqv, PyData.eqvAll]
  | cons p r => show some (PyData.bool _) = _; simp [PyData.eqv, PyData.eqvAll]
theorem lay_of : ∀ {xs : List PyData}, (∀ x ∈ xs, x.canLay0 = true) → PyData.canLayAll0 xs = true
  | [], _ => rfl
  | y :: r, h => by
    unfold PyData.canLayAll0
    rw [h y (by simp), lay_of fun x hx => h x (by simp [hx])]; rfl
theorem dep_of {k : Nat} : ∀ {xs : List PyData}, (∀ x ∈ xs, x.depth ≤ k) → PyData.depthAll xs ≤ k
  | [], _ => Nat.zero_le _
  | y :: r, h => by
    show max y.depth (PyData.depthAll r) ≤ k
    exact Nat.max_le.mpr ⟨h y (by simp), dep_of fun x hx => h x (by simp [hx])⟩
def sgn (c : Nat) : PyData := .str ⟨#[c]⟩
end Law
namespace Law
open PySem PySem.Spec PyProof.Rows L2 DL
local instance : Tabs := ⟨[]⟩
open TL
def mkS (l : List Nat) : Str := ⟨l.toArray⟩
theorem tl_mkS (l : List Nat) : tl (mkS l) = l := rfl
theorem mk_of {x : Str} {l : List Nat} (h : tl x = l) : x = mkS l := ext_tl (by rw [h, tl_mkS])
theorem tl_cut (z : Str) (lo hi : Option Int) : tl (cutS z lo hi) = ((tl z).drop (HT.sIx z.length 0 lo)).take (HT.sIx z.length z.length hi - HT.sIx z.length 0 lo) := rfl
theorem sub_at (x y : Str) (i : Nat) : Builtin.Str.subAt x y i = decide (((tl x).drop i).take y.length = tl y) := by
  unfold Builtin.Str.subAt
  have e : (x.cps.extract i (i + y.length)).toList = ((tl x).drop i).take y.length := by
    rw [Array.toList_extract]
    show ((tl x).drop i).take (i + y.length - i) = _
    rw [Nat.add_sub_cancel_left]
  rw [Bool.eq_iff_iff, beq_iff_eq, decide_eq_true_eq, ← e, Array.toList_inj]
theorem starts1 {x y : Str} {c : Nat} (hy : tl y = [c]) : Txt.startswith x y = decide ((tl x).head? = some c) := by
  have hl : y.length = 1 := by rw [len_tl, hy]; rfl
  show (decide (0 + y.length ≤ x.length) && Builtin.Str.subAt x y 0) = _
  rw [sub_at, hl, hy, List.drop_zero, len_tl x]
  cases tl x with
  | nil => rfl
  | cons a r =>
    rw [Bool.eq_iff_iff]
    simp
theorem ends1 {x y : Str} {c : Nat} (hy : tl y = [c]) : Txt.endswith x y = decide ((tl x).getLast? = some c) := by
  have hl : y.length = 1 := by rw [len_tl, hy]; rfl
  show (decide (0 + y.length ≤ x.length) && Builtin.Str.subAt x y (x.length - y.length)) = _
  rw [sub_at, hl, hy, len_tl x]
  rcases List.eq_nil_or_concat (tl x) with h | ⟨r, a, h⟩
  · rw [h]; rfl
  · rw [h, Bool.eq_iff_iff]
    simp
theorem hd_cut {x y : Str} {c : Nat} (hy : tl y = [c]) : decide (cutS x none (some 1) = y) = decide ((tl x).head? = some c) := by
  have e1 : HT.sIx x.length x.length (some 1) = min 1 x.length := HT.sIx_nat _ _ 1
  have h : cutS x none (some 1) = y ↔ (tl x).take 1 = [c] := by
    constructor
    · intro h
      have h2 := congrArg tl h
      rw [tl_cut, hy, HT.sIx_none, e1, List.drop_zero, Nat.sub_zero] at h2
      rw [← h2, len_tl x, List.take_eq_take_iff]; omega
    · intro h
      refine ext_tl ?_
      rw [tl_cut, hy, HT.sIx_none, e1, List.drop_zero, Nat.sub_zero, ← h, len_tl x, List.take_eq_take_iff]; omega
  rw [Bool.eq_iff_iff, decide_eq_true_eq, decide_eq_true_eq, h]
  cases tl x with
  | nil => simp
  | cons a r => simp
theorem neg_ix (n : Nat) (d k : Nat) (hk : 0 < k) : HT.sIx n d (some (-(k : Int))) = n - k := by
  show (if -(k : Int) < 0 then (-(k : Int) + (n : Int)).toNat else _) = _
  rw [if_pos (by omega)]; omega
theorem ls_cut {x y : Str} {c : Nat} (hy : tl y = [c]) : decide (cutS x (some (-1)) none = y) = decide ((tl x).getLast? = some c) := by
  have e1 : HT.sIx x.length 0 (some (-1)) = x.length - 1 := neg_ix _ _ 1 (by decide)
  have h : cutS x (some (-1)) none = y ↔ (tl x).drop ((tl x).length - 1) = [c] := by
    have e2 : tl (cutS x (some (-1)) none) = (tl x).drop ((tl x).length - 1) := by
      rw [tl_cut, HT.sIx_none, e1, len_tl x, List.take_of_length_le (by rw [List.length_drop]; exact Nat.le_refl _)]
    exact ⟨fun h => by rw [← e2, h, hy], fun h => ext_tl (by rw [e2, h, hy])⟩
  rw [Bool.eq_iff_iff, decide_eq_true_eq, decide_eq_true_eq, h]
  rcases List.eq_nil_or_concat (tl x) with h | ⟨r, a, h⟩
  · rw [h]; simp
  · rw [h]; simp
theorem cut_one {x : Str} {c : Nat} {l : List Nat} (h : tl x = c :: l) : cutS x (some 1) none = mkS l := cut1 x c (mkS l) h
def pcs (l : List Nat) : List Str := (spl [47] 0 [] l).map mkS
theorem tl_sl : tl ("/" : Str) = [47] := by decide +kernel
theorem split_mk (l : List Nat) : Txt.split (mkS l) "/" = pcs l := by
  have h := split_spl (mkS l) "/" (by rw [tl_sl]; simp) (TL.kind_ok (by decide +kernel))
  rw [tl_sl, tl_mkS] at h
  unfold pcs
  rw [← h, List.map_map]
  exact (List.map_id'' (fun x => ext_tl rfl) _).symm
theorem split_all {x : Str} {l : List Nat} (h : tl x = 47 :: l) : Txt.split x "/" = ("" : Str) :: pcs l := by
  rw [mk_of h, split_mk]
  unfold pcs
  show (if pre [47] (47 :: l) = true then _ else _ : List (List Nat)).map mkS = _
  have hp : pre [47] (47 :: l) = true := by
    unfold pre
    simp
  rw [if_pos hp]
  rfl
theorem spl_in : ∀ (l acc p : List Nat), p ∈ spl [47] 0 acc l → p.length ≤ acc.length + l.length ∧ ∀ c ∈ p, c ∈ acc ∨ c ∈ l
  | [], acc, p, h => by
    rw [spl_nil] at h
    rw [List.mem_singleton.mp h]
    exact ⟨Nat.le_refl _, fun c hc => .inl hc⟩
  | a :: r, acc, p, h => by
    have h : p ∈ (if pre [47] (a :: r) = true then acc :: spl [47] 0 [] r else spl [47] 0 (acc ++ [a]) r) := h
    split at h
    · rcases List.mem_cons.mp h with rfl | h
      · exact ⟨Nat.le_add_right _ _, fun c hc => .inl hc⟩
      · obtain ⟨h1, h2⟩ := spl_in r [] p h
        refine ⟨by simp at h1 ⊢; omega, fun c hc => ?_⟩
        rcases h2 c hc with h | h
        · cases h
        · exact .inr (List.mem_cons_of_mem _ h)
    · obtain ⟨h1, h2⟩ := spl_in r (acc ++ [a]) p h
      refine ⟨by simp at h1 ⊢; omega, fun c hc => ?_⟩
      rcases h2 c hc with h | h
      · rcases List.mem_append.mp h with h | h
        · exact .inl h
        · exact .inr (by rw [List.mem_singleton.mp h]; simp)
      · exact .inr (List.mem_cons_of_mem _ h)
theorem spl_cnt : ∀ (l acc : List Nat), (spl [47] 0 acc l).length ≤ l.length + 1
  | [], acc => by rw [spl_nil]; exact Nat.le_refl _
  | a :: r, acc => by
    show (if pre [47] (a :: r) = true then acc :: spl [47] 0 [] r else spl [47] 0 (acc ++ [a]) r).length ≤ _
    split
    · have := spl_cnt r []
      rw [List.length_cons, List.length_cons]; omega
    · have := spl_cnt r (acc ++ [a])
      rw [List.length_cons]; omega
theorem fit_str {x : Str} : fit (.str x) = true ↔ ∀ c ∈ tl x, c < 0x110000 := by
  unfold fit
  rw [List.all_eq_true]
  exact ⟨fun h c hc => of_decide_eq_true (h c hc), fun h c hc => decide_eq_true (h c hc)⟩
theorem Sm.sub {x y : Str} (h : Sm (.str x)) (h1 : ∀ c ∈ tl y, c ∈ tl x) (h2 : y.length ≤ x.length) : Sm (.str y) :=
  ⟨fit_str.mpr fun c hc => fit_str.mp h.f c (h1 c hc), Nat.le_trans h2 h.w⟩
theorem Sm.pcs {x : Str} {l : List Nat} (h : Sm (.str x)) (e : tl x = 47 :: l) : ∀ p ∈ pcs l, Sm (.str p) := fun p hp => by
  unfold Law.pcs at hp
  obtain ⟨q, hq, rfl⟩ := List.mem_map.mp hp
  obtain ⟨h1, h2⟩ := spl_in l [] q hq
  refine h.sub (fun c hc => ?_) ?_
  · rcases h2 c hc with h | h
    · cases h
    · rw [e]; exact List.mem_cons_of_mem _ h
  · rw [len_tl, len_tl x, e, tl_mkS]; simp at h1 ⊢; omega
def innerL : List Nat → Option (List Nat)
  | 123 :: r => if r.getLast? = some 125 then some r.dropLast else none
  | _ => none
theorem inner_some {l m : List Nat} (h : innerL l = some m) : l = 123 :: (m ++ [125]) := by
  unfold innerL at h
  split at h
  · split at h
    · rename_i r hr
      cases h
      rcases List.eq_nil_or_concat r with e | ⟨q, a, e⟩
      · rw [e] at hr; cases hr
      · rw [e] at hr ⊢
        simp at hr
        rw [hr, List.concat_eq_append, List.dropLast_concat]
    · cases h
  · cases h
theorem inner_hd {l : List Nat} (h : innerL l = none) : ¬ (l.head? = some 123 ∧ l.getLast? = some 125) := by
  rintro ⟨h1, h2⟩
  cases l with
  | nil => cases h1
  | cons a r =>
    cases h1
    cases r with
    | nil => cases h2
    | cons b r =>
      rw [List.getLast?_cons_cons] at h2
      have : innerL (123 :: b :: r) = if (b :: r).getLast? = some 125 then some (b :: r).dropLast else none := rfl
      rw [this, if_pos h2] at h
      cases h
theorem inner_ends {l m : List Nat} (h : innerL l = some m) : l.head? = some 123 ∧ l.getLast? = some 125 := by
  rw [inner_some h]
  exact ⟨rfl, by rw [← List.cons_append, List.getLast?_concat]⟩
def sufL (m : List Nat) : List Nat := if m.drop (m.length - 2) = [58, 110] then m.take (m.length - 2) else m
theorem name_no {m : List Nat} (h : nameB (mkS m) = true) : sufL m = m := by
  unfold sufL
  split
  · rename_i e
    exfalso
    unfold nameB shortB at h
    simp only [Bool.and_eq_true, List.all_eq_true, decide_eq_true_eq] at h
    have h58 : 58 ∈ m := List.mem_of_mem_drop (i := m.length - 2) (by rw [e]; simp)
    have := h.2.2 58 h58
    revert this
    decide +kernel
  · rfl
theorem suf_le (m : List Nat) : (sufL m).length ≤ m.length := by
  unfold sufL
  split
  · rw [List.length_take]; omega
  · exact Nat.le_refl _
theorem suf_in (m : List Nat) : ∀ c ∈ sufL m, c ∈ m := fun c hc => by
  unfold sufL at hc
  split at hc
  · exact List.mem_of_mem_take hc
  · exact hc
theorem tl_n : tl (":n" : Str) = [58, 110] := by decide +kernel
theorem tl_n3 : tl (":n}" : Str) = [58, 110, 125] := by decide +kernel
theorem rem_suf (m : List Nat) : Txt.removesuffix (mkS m) ":n" = mkS (sufL m) := by
  have hl : (":n" : Str).length = 2 := by decide +kernel
  have hm : (mkS m).length = m.length := by rw [len_tl, tl_mkS]
  unfold Txt.removesuffix
  rw [sub_at, hl, hm, tl_mkS, tl_n]
  unfold sufL
  by_cases h : m.drop (m.length - 2) = [58, 110]
  · have h2 : 2 ≤ m.length := by
      have := congrArg List.length h
      rw [List.length_drop] at this
      simp at this; omega
    rw [if_pos h, h]
    rw [if_pos (by simp [h2])]
    show (if m.length - 2 - 0 == (mkS m).length then mkS m else PySem.Builtin.Str.strSub (mkS m) 0 (m.length - 2)) = _
    rw [if_neg (by rw [hm]; simp; omega)]
    refine ext_tl ?_
    show ((mkS m).cps.extract 0 (m.length - 2)).toList = _
    rw [Array.toList_extract]
    show (m.drop 0).take (m.length - 2 - 0) = _
    rw [tl_mkS]; rfl
  · rw [if_neg h]
    have : ¬ ((m.drop (m.length - 2)).take 2 = [58, 110]) := fun z => h (by rw [← z, List.take_of_length_le (by rw [List.length_drop]; omega)])
    rw [if_neg (by simp [this])]
    rfl
theorem cut_in {p : Str} {m : List Nat} (h : tl p = 123 :: (m ++ [125])) : cutS p (some 1) (some (-1)) = mkS m := by
  have hl : p.length = m.length + 2 := by rw [len_tl, h]; simp
  refine ext_tl ?_
  have e1 : HT.sIx p.length 0 (some 1) = min 1 p.length := HT.sIx_nat _ _ 1
  have e2 : HT.sIx p.length p.length (some (-1)) = p.length - 1 := neg_ix _ _ 1 (by decide)
  rw [tl_cut, e1, e2, h, hl, Nat.min_eq_left (by omega)]
  show (m ++ [125]).take (m.length + 2 - 1 - 1) = m
  rw [show m.length + 2 - 1 - 1 = m.length by omega, List.take_left' rfl]
theorem cut_suf {p : Str} {m : List Nat} (h : tl p = 123 :: (m ++ [125])) : (if cutS p (some (-3)) none = ":n}" then cutS p (some 1) (some (-3)) else cutS p (some 1) (some (-1))) = mkS (sufL m) := by
  have hl : p.length = m.length + 2 := by rw [len_tl, h]; simp
  have e1 : HT.sIx p.length 0 (some 1) = min 1 p.length := HT.sIx_nat _ _ 1
  have e3 : ∀ d, HT.sIx p.length d (some (-3)) = p.length - 3 := fun d => neg_ix _ _ 3 (by decide)
  have hc : tl (cutS p (some (-3)) none) = (123 :: (m ++ [125])).drop (m.length - 1) := by
    rw [tl_cut, HT.sIx_none, e3, h, hl, List.take_of_length_le (by rw [List.length_drop]; simp)]
    rw [show m.length + 2 - 3 = m.length - 1 by omega]
  have hd : cutS p (some (-3)) none = ":n}" ↔ m.drop (m.length - 2) = [58, 110] := by
    have : cutS p (some (-3)) none = ":n}" ↔ (123 :: (m ++ [125])).drop (m.length - 1) = [58, 110, 125] :=
      ⟨fun z => by rw [← hc, z, tl_n3], fun z => ext_tl (by rw [hc, z, tl_n3])⟩
    rw [this]
    match m with
    | [] => simp
    | [a] => simp
    | a :: b :: r =>
      rw [show (a :: b :: r).length - 1 = r.length + 1 by simp, show (a :: b :: r).length - 2 = r.length by simp, List.drop_succ_cons, List.drop_append_of_le_length (by simp; omega)]
      constructor
      · intro z
        have z : (a :: b :: r).drop r.length ++ [125] = [58, 110] ++ [125] := z
        exact List.append_cancel_right z
      · intro z
        rw [z]; rfl
  unfold sufL
  by_cases hz : m.drop (m.length - 2) = [58, 110]
  · rw [if_pos hz, if_pos (hd.mpr hz)]
    refine ext_tl ?_
    rw [tl_cut, e1, e3, h, hl, Nat.min_eq_left (by omega), tl_mkS]
    show (m ++ [125]).take (m.length + 2 - 3 - 1) = _
    have h2 : 2 ≤ m.length := by
      have := congrArg List.length hz
      rw [List.length_drop] at this
      simp at this; omega
    rw [show m.length + 2 - 3 - 1 = m.length - 2 by omega, List.take_append_of_le_length (by omega)]
  · rw [if_neg hz, if_neg (fun z => hz (hd.mp z)), cut_in h]
end Law
namespace Law
open PySem PySem.Spec PyProof.Rows L2 DL
local instance : Tabs := ⟨[]⟩
open TL
theorem defM_rt {n nn : Nat} {B : FS} {ρ : Rho} {μ : Mu} {d : PyData} (h : B (ρ ++ List.replicate (nn - n) .un) μ = some (.rt (.dat d) μ)) : defM n nn B ρ μ = some (d, μ) := by
  unfold defM
  rw [h]
  show some (d, μ.take μ.length) = _
  rw [List.take_length]
theorem gET {d : PyData} {y : Str} : gEqT d (.str y) = some (.bool (PyData.eqv d (.str y))) := rfl
theorem allD_eq {α : Type} {f : α → Bool} (xs : List α) : allD (.list (xs.map fun x => .bool (f x))) = some (.bool (xs.all f)) := by
  have e : (xs.map fun x => PyData.bool (f x)) = (xs.map f).map PyData.bool := by rw [List.map_map]; rfl
  show opt (blsOf (xs.map fun x => PyData.bool (f x))) _ = _
  rw [e, blsOf_map]
  show some (PyData.bool ((xs.map f).all id)) = _
  rw [List.all_map]; rfl
theorem head_c {L : List Nat} {c : Nat} (h : L.head? = some c) : ∃ l, L = c :: l := by
  cases L with
  | nil => cases h
  | cons a r => cases h; exact ⟨r, rfl⟩
def pcL : List Nat → PyData
  | 47 :: l => if l = [] then .list [] else if (pcs l).length ≤ 5 then .list ((pcs l).map PyData.str) else .none
  | _ => .none
theorem pcL_c (l : List Nat) : pcL (47 :: l) = if l = [] then .list [] else if (pcs l).length ≤ 5 then .list ((pcs l).map PyData.str) else .none := rfl
theorem pcL_no {L : List Nat} (h : ¬ L.head? = some 47) : pcL L = .none := by
  unfold pcL
  split
  · exact absurd rfl h
  · rfl
theorem sl_one {x : Str} {l : List Nat} (hx : x.length ≤ 200000) (el : tl x = 47 :: l) : slD (.str x) (some 1) none = some (.str (mkS l)) := by
  show (if x.length ≤ sizeLine then _ else _) = _
  rw [if_pos (line_ge hx), cut_one el]
theorem mk_len {x : Str} {l : List Nat} (hx : x.length ≤ 200000) (el : tl x = 47 :: l) : (mkS l).length ≤ 200000 := by
  rw [len_tl, el, List.length_cons] at hx
  rw [len_tl, tl_mkS]; omega
theorem sp_mk {l : List Nat} (h : (mkS l).length ≤ 200000) : splitD (mkS l) (.str "/") = some (.list ((pcs l).map PyData.str)) := by
  show (if (("/" : Str).length == 0) = false ∧ (mkS l).length + 2 ≤ sizeLine then _ else _) = _
  rw [if_pos ⟨by decide +kernel, Nat.le_trans (show (mkS l).length + 2 ≤ 200002 by omega) (by decide)⟩, split_mk]
theorem pieces_not {d : PyData} (hs : isaD "str" d = false) (μ : Mu) : m_pieces_of [.dat d] μ = some (.none, μ) := by
  unfold m_pieces_of B_pieces_of
  simp only [defM, fSeq, fIfS, fAnd, fOr, fNot, fB, fAndV, fOrV, fNotV, fIf, fIsi, tyD, fIsA, bnd, opt, fin, fChain, f2, fN, fCons, fNil, fVar, fC, g1, gI, gIC, fRet, fExpr, fCall, pNil, pDat, pNm, fAsg, gNm, gNo, gCo, gTu, fEnd, fFor, fSq, seqD, fSg, fLcD, fLc, fYes, fM1, gSS, fM0, fSl, fNo, fSome, rd, fNmB, fNm2, fNmI, fNmT, fNmJ, fNmS, sc, isSc, fSetI, fApp, fOwn, fLstF, fCatF, fRetO, fPar, fParO, fTru, truB, List.cons_append, List.nil_append, List.getElem?_cons_zero, List.getElem?_cons_succ, List.set_cons_zero, List.set_cons_succ, List.replicate, List.length_cons, List.length_nil, Nat.reduceAdd, Nat.reduceSub, if_true, if_false, Bool.false_eq_true, ↓reduceIte, List.append_nil, gTup0, gTup1, gTup2, gTup3, gLst0, gLst1, gLst2, gLst3, gLst4, gLst5, gLst10, isa_tt, isa_ts, isa_ti, isa_tn, isa_tl, isa_ss, isa_st, isa_si, isa_sn, isa_ii, isa_ib, isa_bi, isa_bb, isa_is, isa_in, isa_it, hs, Bool.not_false, List.take_length]
theorem e_pieces {x : Str} (h : Sm (.str x)) (μ : Mu) : m_pieces_of [.dat (.str x)] μ = some (pcL (tl x), μ) := by
  have hx := h.len
  have hs := starts1 (x := x) tl_sl
  by_cases h1 : (tl x).head? = some 47
  · obtain ⟨l, el⟩ := head_c h1
    have hs' : Txt.startswith x "/" = true := by rw [hs, decide_eq_true h1]
    by_cases hl : l = []
    · subst hl
      have : x = "/" := ext_tl (by rw [el, tl_sl])
      subst this
      exact defM_rt (by kernel_rfl)
    · have hq : gEqT (.str x) (.str "/") = some (.bool false) := by
        show some (PyData.bool (decide (x = "/"))) = _
        rw [decide_eq_false fun z => hl (by have := congrArg tl z; rw [el, tl_sl] at this; injection this)]
      have hc := sl_one hx el
      have hsp := sp_mk (mk_len hx el)
      rw [el, pcL_c, if_neg hl]
      unfold m_pieces_of B_pieces_of
      by_cases h5 : (pcs l).length ≤ 5
      · have i5 : ((pcs l).length : Int) ≤ 5 := by omega
        simp only [defM, fSeq, fIfS, fAnd, fOr, fNot, fB, fAndV, fOrV, fNotV, fIf, fIsi, tyD, fIsA, bnd, opt, fin, fChain, f2, fN, fCons, fNil, fVar, fC, g1, gI, gIC, fRet, fExpr, fCall, pNil, pDat, pNm, fAsg, gNm, gNo, gCo, gTu, fEnd, fFor, fSq, seqD, fSg, fLcD, fLc, fYes, fM1, gSS, fM0, fSl, fNo, fSome, rd, fNmB, fNm2, fNmI, fNmT, fNmJ, fNmS, sc, isSc, fSetI, fApp, fOwn, fLstF, fCatF, fRetO, fPar, fParO, fTru, truB, List.cons_append, List.nil_append, List.getElem?_cons_zero, List.getElem?_cons_succ, List.set_cons_zero, List.set_cons_succ, List.replicate, List.length_cons, List.length_nil, Nat.reduceAdd, Nat.reduceSub, if_true, if_false, Bool.false_eq_true, ↓reduceIte, List.append_nil, gTup0, gTup1, gTup2, gTup3, gLst0, gLst1, gLst2, gLst3, gLst4, gLst5, gLst10, isa_tt, isa_ts, isa_ti, isa_tn, isa_tl, isa_ss, isa_st, isa_si, isa_sn, isa_ii, isa_ib, isa_bi, isa_bb, isa_is, isa_in, isa_it, hs', hq, hc, hsp, lenD, List.length_map, i5, h5, decide_true, Bool.not_true, List.take_length]
      · have i5 : ¬ ((pcs l).length : Int) ≤ 5 := by omega
        simp only [defM, fSeq, fIfS, fAnd, fOr, fNot, fB, fAndV, fOrV, fNotV, fIf, fIsi, tyD, fIsA, bnd, opt, fin, fChain, f2, fN, fCons, fNil, fVar, fC, g1, gI, gIC, fRet, fExpr, fCall, pNil, pDat, pNm, fAsg, gNm, gNo, gCo, gTu, fEnd, fFor, fSq, seqD, fSg, fLcD, fLc, fYes, fM1, gSS, fM0, fSl, fNo, fSome, rd, fNmB, fNm2, fNmI, fNmT, fNmJ, fNmS, sc, isSc, fSetI, fApp, fOwn, fLstF, fCatF, fRetO, fPar, fParO, fTru, truB, List.cons_append, List.nil_append, List.getElem?_cons_zero, List.getElem?_cons_succ, List.set_cons_zero, List.set_cons_succ, List.replicate, List.length_cons, List.length_nil, Nat.reduceAdd, Nat.reduceSub, if_true, if_false, Bool.false_eq_true, ↓reduceIte, List.append_nil, gTup0, gTup1, gTup2, gTup3, gLst0, gLst1, gLst2, gLst3, gLst4, gLst5, gLst10, isa_tt, isa_ts, isa_ti, isa_tn, isa_tl, isa_ss, isa_st, isa_si, isa_sn, isa_ii, isa_ib, isa_bi, isa_bb, isa_is, isa_in, isa_it, hs', hq, hc, hsp, lenD, List.length_map, i5, h5, decide_false, Bool.not_true, List.take_length]
  · have hs' : Txt.startswith x "/" = false := by rw [hs, decide_eq_false h1]
    rw [pcL_no h1]
    unfold m_pieces_of B_pieces_of
    simp only [defM, fSeq, fIfS, fAnd, fOr, fNot, fB, fAndV, fOrV, fNotV, fIf, fIsi, tyD, fIsA, bnd, opt, fin, fChain, f2, fN, fCons, fNil, fVar, fC, g1, gI, gIC, fRet, fExpr, fCall, pNil, pDat, pNm, fAsg, gNm, gNo, gCo, gTu, fEnd, fFor, fSq, seqD, fSg, fLcD, fLc, fYes, fM1, gSS, fM0, fSl, fNo, fSome, rd, fNmB, fNm2, fNmI, fNmT, fNmJ, fNmS, sc, isSc, fSetI, fApp, fOwn, fLstF, fCatF, fRetO, fPar, fParO, fTru, truB, List.cons_append, List.nil_append, List.getElem?_cons_zero, List.getElem?_cons_succ, List.set_cons_zero, List.set_cons_succ, List.replicate, List.length_cons, List.length_nil, Nat.reduceAdd, Nat.reduceSub, if_true, if_false, Bool.false_eq_true, ↓reduceIte, List.append_nil, gTup0, gTup1, gTup2, gTup3, gLst0, gLst1, gLst2, gLst3, gLst4, gLst5, gLst10, isa_tt, isa_ts, isa_ti, isa_tn, isa_tl, isa_ss, isa_st, isa_si, isa_sn, isa_ii, isa_ib, isa_bi, isa_bb, isa_is, isa_in, isa_it, hs', Bool.not_false, Bool.not_true, List.take_length]
def pathL : List Nat → Bool
  | 47 :: l => if l = [] then true else decide ((pcs l).length ≤ 5) && (pcs l).all wordB
  | _ => false
theorem pathL_c (l : List Nat) : pathL (47 :: l) = if l = [] then true else decide ((pcs l).length ≤ 5) && (pcs l).all wordB := rfl
theorem pathL_no {L : List Nat} (h : ¬ L.head? = some 47) : pathL L = false := by
  unfold pathL
  split
  · exact absurd rfl h
  · rfl
def pathD : PyData → Bool
  | .str x => pathL (tl x)
  | _ => false
theorem ispath_none {d : PyData} (h : ∀ μ, m_pieces_of [.dat d] μ = some (.none, μ)) (μ : Mu) : m_is_path [.dat d] μ = some (.bool false, μ) := by
  have hg : gNotN .none .none = some (.bool false) := rfl
  unfold m_is_path B_is_path
  simp only [defM, fSeq, fIfS, fAnd, fOr, fNot, fB, fAndV, fOrV, fNotV, fIf, fIsi, tyD, fIsA, bnd, opt, fin, fChain, f2, fN, fCons, fNil, fVar, fC, g1, gI, gIC, fRet, fExpr, fCall, pNil, pDat, pNm, fAsg, gNm, gNo, gCo, gTu, fEnd, fFor, fSq, seqD, fSg, fLcD, fLc, fYes, fM1, gSS, fM0, fSl, fNo, fSome, rd, fNmB, fNm2, fNmI, fNmT, fNmJ, fNmS, sc, isSc, fSetI, fApp, fOwn, fLstF, fCatF, fRetO, fPar, fParO, fTru, truB, List.cons_append, List.nil_append, List.getElem?_cons_zero, List.getElem?_cons_succ, List.set_cons_zero, List.set_cons_succ, List.replicate, List.length_cons, List.length_nil, Nat.reduceAdd, Nat.reduceSub, if_true, if_false, Bool.false_eq_true, ↓reduceIte, List.append_nil, gTup0, gTup1, gTup2, gTup3, gLst0, gLst1, gLst2, gLst3, gLst4, gLst5, gLst10, isa_tt, isa_ts, isa_ti, isa_tn, isa_tl, isa_ss, isa_st, isa_si, isa_sn, isa_ii, isa_ib, isa_bi, isa_bb, isa_is, isa_in, isa_it, h, hg, List.take_length]
theorem ispath_list {d : PyData} {ps : List Str} (h : ∀ μ, m_pieces_of [.dat d] μ = some (.list (ps.map PyData.str), μ)) (hp : ∀ p ∈ ps, p.length ≤ 200000) (hl : ps.length ≤ 5) (μ : Mu) : m_is_path [.dat d] μ = some (.bool (ps.all wordB), μ) := by
  have hg : gNotN (.list (ps.map PyData.str)) .none = some (.bool true) := rfl
  have hz : (ps.map PyData.str).length ≤ sizeLine := map_len (by omega)
  have hc : lcF (gNm 2) fYes (fCall m_is_word (pNm 2 pNil)) (wipeR [Sl.dat d, Sl.dat (.list (ps.map PyData.str)), Sl.un] [2]) (ps.map PyData.str) μ = some (ps.map fun p => PyData.bool (wordB p), μ) :=
    lc_map ps fun p hpp => ⟨_, rfl, by simp only [defM, fSeq, fIfS, fAnd, fOr, fNot, fB, fAndV, fOrV, fNotV, fIf, fIsi, tyD, fIsA, bnd, opt, fin, fChain, f2, fN, fCons, fNil, fVar, fC, g1, gI, gIC, fRet, fExpr, fCall, pNil, pDat, pNm, fAsg, gNm, gNo, gCo, gTu, fEnd, fFor, fSq, seqD, fSg, fLcD, fLc, fYes, fM1, gSS, fM0, fSl, fNo, fSome, rd, fNmB, fNm2, fNmI, fNmT, fNmJ, fNmS, sc, isSc, fSetI, fApp, fOwn, fLstF, fCatF, fRetO, fPar, fParO, fTru, truB, List.cons_append, List.nil_append, List.getElem?_cons_zero, List.getElem?_cons_succ, List.set_cons_zero, List.set_cons_succ, List.replicate, List.length_cons, List.length_nil, Nat.reduceAdd, Nat.reduceSub, if_true, if_false, Bool.false_eq_true, ↓reduceIte, List.append_nil, gTup0, gTup1, gTup2, gTup3, gLst0, gLst1, gLst2, gLst3, gLst4, gLst5, gLst10, isa_tt, isa_ts, isa_ti, isa_tn, isa_tl, isa_ss, isa_st, isa_si, isa_sn, isa_ii, isa_ib, isa_bi, isa_bb, isa_is, isa_in, isa_it, wipeR, e_word p μ (hp p hpp)]⟩
  have ha := allD_eq (f := wordB) ps
  unfold m_is_path B_is_path
  simp only [defM, fSeq, fIfS, fAnd, fOr, fNot, fB, fAndV, fOrV, fNotV, fIf, fIsi, tyD, fIsA, bnd, opt, fin, fChain, f2, fN, fCons, fNil, fVar, fC, g1, gI, gIC, fRet, fExpr, fCall, pNil, pDat, pNm, fAsg, gNm, gNo, gCo, gTu, fEnd, fFor, fSq, seqD, fSg, fLcD, fLc, fYes, fM1, gSS, fM0, fSl, fNo, fSome, rd, fNmB, fNm2, fNmI, fNmT, fNmJ, fNmS, sc, isSc, fSetI, fApp, fOwn, fLstF, fCatF, fRetO, fPar, fParO, fTru, truB, List.cons_append, List.nil_append, List.getElem?_cons_zero, List.getElem?_cons_succ, List.set_cons_zero, List.set_cons_succ, List.replicate, List.length_cons, List.length_nil, Nat.reduceAdd, Nat.reduceSub, if_true, if_false, Bool.false_eq_true, ↓reduceIte, List.append_nil, gTup0, gTup1, gTup2, gTup3, gLst0, gLst1, gLst2, gLst3, gLst4, gLst5, gLst10, isa_tt, isa_ts, isa_ti, isa_tn, isa_tl, isa_ss, isa_st, isa_si, isa_sn, isa_ii, isa_ib, isa_bi, isa_bb, isa_is, isa_in, isa_it, h, hg, if_pos hz, hc, ha, List.take_length]
theorem e_path {d : PyData} (h : Sm d) (μ : Mu) : m_is_path [.dat d] μ = some (.bool (pathD d), μ) := by
  cases d with
  | str x =>
    show _ = some (PyData.bool (pathL (tl x)), μ)
    by_cases h1 : (tl x).head? = some 47
    · obtain ⟨l, el⟩ := head_c h1
      have hsm := h.pcs el
      have e := fun μ => e_pieces h μ
      rw [el]; simp only [el] at e
      rw [pathL_c]
      simp only [pcL_c] at e
      by_cases hl : l = []
      · rw [if_pos hl]; simp only [if_pos hl] at e
        exact ispath_list (ps := []) e (by simp) (by simp) μ
      · rw [if_neg hl]; simp only [if_neg hl] at e
        by_cases h5 : (pcs l).length ≤ 5
        · simp only [if_pos h5] at e
          rw [decide_eq_true h5, Bool.true_and]
          exact ispath_list e (fun p hp => (hsm p hp).len) h5 μ
        · simp only [if_neg h5] at e
          rw [decide_eq_false h5, Bool.false_and]
          exact ispath_none e μ
    · rw [pathL_no h1]
      exact ispath_none (fun μ => by rw [e_pieces h, pcL_no h1]) μ
  | none => exact ispath_none (pieces_not rfl) μ
  | bool _ => exact ispath_none (pieces_not rfl) μ
  | int _ => exact ispath_none (pieces_not rfl) μ
  | list _ => exact ispath_none (pieces_not rfl) μ
  | tuple _ => exact ispath_none (pieces_not rfl) μ
  | dict _ => exact ispath_none (pieces_not rfl) μ
def nameO (p : Str) : Option Str := match innerL (tl p) with
  | none => none
  | some m => if nameB (mkS (sufL m)) = true then some (mkS (sufL m)) else none
def okP (p : Str) : Bool := wordB p || (nameO p).isSome
def hoN (p : Str) : Str := (nameO p).getD ""
def sortP (p : Str) : Int := if wordB p = true then 0 else match innerL (tl p) with
  | none => 1
  | some m => if nameB (mkS m) = true then 2 else 1
def partP (p : Str) : PyData := if wordB p = true then .tuple [.int 0, .str p] else if (nameO p).isSome = true then .tuple [.int (sortP p), .str (hoN p)] else .none
theorem inner_sm {p : Str} {m : List Nat} (h : Sm (.str p)) (e : innerL (tl p) = some m) : Sm (.str (mkS m)) ∧ Sm (.str (mkS (sufL m))) := by
  have ep := inner_some e
  have hl : p.length = m.length + 2 := by rw [len_tl, ep]; simp
  have h1 : ∀ c ∈ m, c ∈ tl p := fun c hc => by rw [ep]; simp [hc]
  refine ⟨h.sub h1 (by rw [len_tl, tl_mkS]; omega), h.sub (fun c hc => h1 c (suf_in m c hc)) ?_⟩
  have := suf_le m
  rw [len_tl, tl_mkS]; omega
theorem sl_in {p : Str} {m : List Nat} (hx : p.length ≤ 200000) (e : tl p = 123 :: (m ++ [125])) : slD (.str p) (some 1) (some (-1)) = some (.str (mkS m)) := by
  show (if p.length ≤ sizeLine then _ else _) = _
  rw [if_pos (line_ge hx), cut_in e]
theorem e_part {p : Str} (h : Sm (.str p)) (μ : Mu) : m_read_part [.dat (.str p)] μ = some (partP p, μ) := by
  have hx := h.len
  have hw := e_word p μ hx
  unfold partP
  cases hwb : wordB p with
  | true =>
    rw [hwb] at hw
    unfold m_read_part B_read_part
    simp only [defM, fSeq, fIfS, fAnd, fOr, fNot, fB, fAndV, fOrV, fNotV, fIf, fIsi, tyD, fIsA, bnd, opt, fin, fChain, f2, fN, fCons, fNil, fVar, fC, g1, gI, gIC, fRet, fExpr, fCall, pNil, pDat, pNm, fAsg, gNm, gNo, gCo, gTu, fEnd, fFor, fSq, seqD, fSg, fLcD, fLc, fYes, fM1, gSS, fM0, fSl, fNo, fSome, rd, fNmB, fNm2, fNmI, fNmT, fNmJ, fNmS, sc, isSc, fSetI, fApp, fOwn, fLstF, fCatF, fRetO, fPar, fParO, fTru, truB, List.cons_append, List.nil_append, List.getElem?_cons_zero, List.getElem?_cons_succ, List.set_cons_zero, List.set_cons_succ, List.replicate, List.length_cons, List.length_nil, Nat.reduceAdd, Nat.reduceSub, if_true, if_false, Bool.false_eq_true, ↓reduceIte, List.append_nil, gTup0, gTup1, gTup2, gTup3, gLst0, gLst1, gLst2, gLst3, gLst4, gLst5, gLst10, isa_tt, isa_ts, isa_ti, isa_tn, isa_tl, isa_ss, isa_st, isa_si, isa_sn, isa_ii, isa_ib, isa_bi, isa_bb, isa_is, isa_in, isa_it, hw, List.take_length]
  | false =>
    rw [hwb] at hw
    have t1 : tl ("{" : Str) = [123] := by decide +kernel
    have t2 : tl ("}" : Str) = [125] := by decide +kernel
    have s1 := starts1 (x := p) t1
    have s2 := ends1 (x := p) t2
    cases e : innerL (tl p) with
    | none =>
      have hno : nameO p = none := by unfold nameO; rw [e]
      rw [hno]
      have hh := inner_hd e
      by_cases c1 : (tl p).head? = some 123
      · have c2 : ¬ (tl p).getLast? = some 125 := fun z => hh ⟨c1, z⟩
        rw [decide_eq_true c1] at s1
        rw [decide_eq_false c2] at s2
        unfold m_read_part B_read_part
        simp only [defM, fSeq, fIfS, fAnd, fOr, fNot, fB, fAndV, fOrV, fNotV, fIf, fIsi, tyD, fIsA, bnd, opt, fin, fChain, f2, fN, fCons, fNil, fVar, fC, g1, gI, gIC, fRet, fExpr, fCall, pNil, pDat, pNm, fAsg, gNm, gNo, gCo, gTu, fEnd, fFor, fSq, seqD, fSg, fLcD, fLc, fYes, fM1, gSS, fM0, fSl, fNo, fSome, rd, fNmB, fNm2, fNmI, fNmT, fNmJ, fNmS, sc, isSc, fSetI, fApp, fOwn, fLstF, fCatF, fRetO, fPar, fParO, fTru, truB, List.cons_append, List.nil_append, List.getElem?_cons_zero, List.getElem?_cons_succ, List.set_cons_zero, List.set_cons_succ, List.replicate, List.length_cons, List.length_nil, Nat.reduceAdd, Nat.reduceSub, if_true, if_false, Bool.false_eq_true, ↓reduceIte, List.append_nil, gTup0, gTup1, gTup2, gTup3, gLst0, gLst1, gLst2, gLst3, gLst4, gLst5, gLst10, isa_tt, isa_ts, isa_ti, isa_tn, isa_tl, isa_ss, isa_st, isa_si, isa_sn, isa_ii, isa_ib, isa_bi, isa_bb, isa_is, isa_in, isa_it, hw, s1, s2, Bool.not_true, Bool.not_false, List.take_length, Option.isSome_none]
      · rw [decide_eq_false c1] at s1
        unfold m_read_part B_read_part
        simp only [defM, fSeq, fIfS, fAnd, fOr, fNot, fB, fAndV, fOrV, fNotV, fIf, fIsi, tyD, fIsA, bnd, opt, fin, fChain, f2, fN, fCons, fNil, fVar, fC, g1, gI, gIC, fRet, fExpr, fCall, pNil, pDat, pNm, fAsg, gNm, gNo, gCo, gTu, fEnd, fFor, fSq, seqD, fSg, fLcD, fLc, fYes, fM1, gSS, fM0, fSl, fNo, fSome, rd, fNmB, fNm2, fNmI, fNmT, fNmJ, fNmS, sc, isSc, fSetI, fApp, fOwn, fLstF, fCatF, fRetO, fPar, fParO, fTru, truB, List.cons_append, List.nil_append, List.getElem?_cons_zero, List.getElem?_cons_succ, List.set_cons_zero, List.set_cons_succ, List.replicate, List.length_cons, List.length_nil, Nat.reduceAdd, Nat.reduceSub, if_true, if_false, Bool.false_eq_true, ↓reduceIte, List.append_nil, gTup0, gTup1, gTup2, gTup3, gLst0, gLst1, gLst2, gLst3, gLst4, gLst5, gLst10, isa_tt, isa_ts, isa_ti, isa_tn, isa_tl, isa_ss, isa_st, isa_si, isa_sn, isa_ii, isa_ib, isa_bi, isa_bb, isa_is, isa_in, isa_it, hw, s1, Bool.not_true, Bool.not_false, List.take_length, Option.isSome_none]
    | some m =>
      have ep := inner_some e
      obtain ⟨c1, c2⟩ := inner_ends e
      rw [decide_eq_true c1] at s1
      rw [decide_eq_true c2] at s2
      obtain ⟨m1, m2⟩ := inner_sm h e
      have hc := sl_in hx ep
      have hn1 := e_name (mkS m) μ m1.len
      have hn2 := e_name (mkS (sufL m)) μ m2.len
      have hr : remSD (mkS m) (.str ":n") = some (.str (mkS (sufL m))) := by
        show (if (mkS m).length ≤ sizeLine then _ else _) = _
        rw [if_pos (line_ge m1.len), rem_suf]
      have hno : nameO p = if nameB (mkS (sufL m)) = true then some (mkS (sufL m)) else none := by unfold nameO; rw [e]
      have hso : sortP p = if nameB (mkS m) = true then 2 else 1 := by unfold sortP; rw [hwb, if_neg (by decide), e]
      cases b1 : nameB (mkS m) with
      | true =>
        have hs := name_no b1
        have hno' : nameO p = some (mkS m) := by rw [hno, hs, b1]; rfl
        rw [b1] at hn1
        unfold hoN
        rw [hno', hso, b1]
        unfold m_read_part B_read_part
        simp only [defM, fSeq, fIfS, fAnd, fOr, fNot, fB, fAndV, fOrV, fNotV, fIf, fIsi, tyD, fIsA, bnd, opt, fin, fChain, f2, fN, fCons, fNil, fVar, fC, g1, gI, gIC, fRet, fExpr, fCall, pNil, pDat, pNm, fAsg, gNm, gNo, gCo, gTu, fEnd, fFor, fSq, seqD, fSg, fLcD, fLc, fYes, fM1, gSS, fM0, fSl, fNo, fSome, rd, fNmB, fNm2, fNmI, fNmT, fNmJ, fNmS, sc, isSc, fSetI, fApp, fOwn, fLstF, fCatF, fRetO, fPar, fParO, fTru, truB, List.cons_append, List.nil_append, List.getElem?_cons_zero, List.getElem?_cons_succ, List.set_cons_zero, List.set_cons_succ, List.replicate, List.length_cons, List.length_nil, Nat.reduceAdd, Nat.reduceSub, if_true, if_false, Bool.false_eq_true, ↓reduceIte, List.append_nil, gTup0, gTup1, gTup2, gTup3, gLst0, gLst1, gLst2, gLst3, gLst4, gLst5, gLst10, isa_tt, isa_ts, isa_ti, isa_tn, isa_tl, isa_ss, isa_st, isa_si, isa_sn, isa_ii, isa_ib, isa_bi, isa_bb, isa_is, isa_in, isa_it, hw, s1, s2, Bool.not_true, f1I, hc, hn1, List.take_length, Option.isSome_some, Option.getD_some]
      | false =>
        rw [b1] at hn1
        unfold hoN
        cases b2 : nameB (mkS (sufL m)) with
        | true =>
          rw [b2] at hn2
          have hno' : nameO p = some (mkS (sufL m)) := by rw [hno, b2]; rfl
          rw [hno', hso, b1]
          unfold m_read_part B_read_part
          simp only [defM, fSeq, fIfS, fAnd, fOr, fNot, fB, fAndV, fOrV, fNotV, fIf, fIsi, tyD, fIsA, bnd, opt, fin, fChain, f2, fN, fCons, fNil, fVar, fC, g1, gI, gIC, fRet, fExpr, fCall, pNil, pDat, pNm, fAsg, gNm, gNo, gCo, gTu, fEnd, fFor, fSq, seqD, fSg, fLcD, fLc, fYes, fM1, gSS, fM0, fSl, fNo, fSome, rd, fNmB, fNm2, fNmI, fNmT, fNmJ, fNmS, sc, isSc, fSetI, fApp, fOwn, fLstF, fCatF, fRetO, fPar, fParO, fTru, truB, List.cons_append, List.nil_append, List.getElem?_cons_zero, List.getElem?_cons_succ, List.set_cons_zero, List.set_cons_succ, List.replicate, List.length_cons, List.length_nil, Nat.reduceAdd, Nat.reduceSub, if_true, if_false, Bool.false_eq_true, ↓reduceIte, List.append_nil, gTup0, gTup1, gTup2, gTup3, gLst0, gLst1, gLst2, gLst3, gLst4, gLst5, gLst10, isa_tt, isa_ts, isa_ti, isa_tn, isa_tl, isa_ss, isa_st, isa_si, isa_sn, isa_ii, isa_ib, isa_bi, isa_bb, isa_is, isa_in, isa_it, hw, s1, s2, Bool.not_true, f1I, hc, hn1, hr, hn2, List.take_length, Option.isSome_some, Option.getD_some]
        | false =>
          rw [b2] at hn2
          have hno' : nameO p = none := by rw [hno, b2]; rfl
          rw [hno']
          unfold m_read_part B_read_part
          simp only [defM, fSeq, fIfS, fAnd, fOr, fNot, fB, fAndV, fOrV, fNotV, fIf, fIsi, tyD, fIsA, bnd, opt, fin, fChain, f2, fN, fCons, fNil, fVar, fC, g1, gI, gIC, fRet, fExpr, fCall, pNil, pDat, pNm, fAsg, gNm, gNo, gCo, gTu, fEnd, fFor, fSq, seqD, fSg, fLcD, fLc, fYes, fM1, gSS, fM0, fSl, fNo, fSome, rd, fNmB, fNm2, fNmI, fNmT, fNmJ, fNmS, sc, isSc, fSetI, fApp, fOwn, fLstF, fCatF, fRetO, fPar, fParO, fTru, truB, List.cons_append, List.nil_append, List.getElem?_cons_zero, List.getElem?_cons_succ, List.set_cons_zero, List.set_cons_succ, List.replicate, List.length_cons, List.length_nil, Nat.reduceAdd, Nat.reduceSub, if_true, if_false, Bool.false_eq_true, ↓reduceIte, List.append_nil, gTup0, gTup1, gTup2, gTup3, gLst0, gLst1, gLst2, gLst3, gLst4, gLst5, gLst10, isa_tt, isa_ts, isa_ti, isa_tn, isa_tl, isa_ss, isa_st, isa_si, isa_sn, isa_ii, isa_ib, isa_bi, isa_bb, isa_is, isa_in, isa_it, hw, s1, s2, Bool.not_true, f1I, hc, hn1, hr, hn2, List.take_length, Option.isSome_none]
theorem part_ok {p : Str} (h : okP p = true) : ∃ k n, partP p = .tuple [.int k, .str n] ∧ decide (k = 0) = wordB p ∧ (wordB p = false → n = hoN p) := by
  unfold partP
  cases hw : wordB p with
  | true => exact ⟨0, p, by simp, rfl, fun z => by cases z⟩
  | false =>
    unfold okP at h
    rw [hw, Bool.false_or] at h
    refine ⟨sortP p, hoN p, by rw [if_neg (by decide), if_pos h], ?_, fun _ => rfl⟩
    refine decide_eq_false fun z => ?_
    unfold sortP at z
    rw [hw, if_neg (by decide)] at z
    split at z
    · cases z
    · split at z <;> cases z
theorem part_no {p : Str} (h : okP p = false) : partP p = .none := by
  unfold okP at h
  rw [Bool.or_eq_false_iff] at h
  unfold partP
  rw [h.1, h.2]; rfl
theorem str_lay {x : Str} (h : Sm (.str x)) : PyData.canLay0 (.str x) = true := by
  show PyData.strOk x = true
  unfold PyData.strOk
  rw [← Array.all_toList, List.all_eq_true]
  exact fun c hc => decide_eq_true (fit_str.mp h.f c hc)
theorem sm_hoN {p : Str} (h : Sm (.str p)) : Sm (.str (hoN p)) := by
  unfold hoN nameO
  split
  · exact ⟨rfl, by decide⟩
  · rename_i m e
    split
    · exact (inner_sm h e).2
    · exact ⟨rfl, by decide⟩
theorem part_lay {p : Str} (h : Sm (.str p)) : (partP p).canLay0 = true := by
  unfold partP
  split
  · show PyData.canLayAll0 [.int 0, .str p] = true
    simp only [PyData.canLayAll0, str_lay h]; rfl
  · split
    · show PyData.canLayAll0 [.int (sortP p), .str (hoN p)] = true
      simp only [PyData.canLayAll0, str_lay (sm_hoN h)]; rfl
    · rfl
theorem none_in {α : Type} {f : α → PyData} {ok : α → Bool} (xs : List α) (hl : ∀ x ∈ xs, (f x).canLay0 = true) (h : ∀ x ∈ xs, PyData.eqv (f x) .none = !ok x) : gInD true .none (.list (xs.map f)) = some (.bool (xs.all ok)) := by
  have h1 : PyData.canLayAll0 (xs.map f) = true := lay_of fun y hy => by
    obtain ⟨x, hx, rfl⟩ := List.mem_map.mp hy
    exact hl x hx
  show opt (inD .none (xs.map f)) _ = _
  unfold inD
  rw [if_pos ⟨rfl, h1⟩]
  show some (PyData.bool (!((xs.map f).any fun y => PyData.eqv y .none))) = _
  congr 2
  rw [List.any_map]
  clear h1 hl
  induction xs with
  | nil => rfl
  | cons a r ih =>
    rw [List.any_cons, List.all_cons, Bool.not_or, ih fun x hx => h x (by simp [hx])]
    show (!PyData.eqv (f a) .none && _) = _
    rw [h a (by simp), Bool.not_not]
def unB (xs : List Str) : Bool := decide (((uqs [] xs).length : Int) = (xs.length : Int))
theorem ls_unl {xs : List Str} (hl : xs.length ≤ 1000) : lenSetD (.list (xs.map PyData.str)) = some (.int ((uqs [] xs).length : Nat)) := by
  show opt (strsOf (xs.map PyData.str)) _ = _
  rw [strsOf_map]
  show (if xs.length + 1 < scanBound then _ else _) = _
  rw [if_pos (by show xs.length + 1 < 4096; omega)]
theorem e_unl {xs : List Str} (hl : xs.length ≤ 1000) (μ : Mu) : m_are_unlike [.dat (.list (xs.map PyData.str))] μ = some (.bool (unB xs), μ) := by
  unfold m_are_unlike B_are_unlike unB
  simp only [defM, fSeq, fIfS, fAnd, fOr, fNot, fB, fAndV, fOrV, fNotV, fIf, fIsi, tyD, fIsA, bnd, opt, fin, fChain, f2, fN, fCons, fNil, fVar, fC, g1, gI, gIC, fRet, fExpr, fCall, pNil, pDat, pNm, fAsg, gNm, gNo, gCo, gTu, fEnd, fFor, fSq, seqD, fSg, fLcD, fLc, fYes, fM1, gSS, fM0, fSl, fNo, fSome, rd, fNmB, fNm2, fNmI, fNmT, fNmJ, fNmS, sc, isSc, fSetI, fApp, fOwn, fLstF, fCatF, fRetO, fPar, fParO, fTru, truB, List.cons_append, List.nil_append, List.getElem?_cons_zero, List.getElem?_cons_succ, List.set_cons_zero, List.set_cons_succ, List.replicate, List.length_cons, List.length_nil, Nat.reduceAdd, Nat.reduceSub, if_true, if_false, Bool.false_eq_true, ↓reduceIte, List.append_nil, gTup0, gTup1, gTup2, gTup3, gLst0, gLst1, gLst2, gLst3, gLst4, gLst5, gLst10, isa_tt, isa_ts, isa_ti, isa_tn, isa_tl, isa_ss, isa_st, isa_si, isa_sn, isa_ii, isa_ib, isa_bi, isa_bb, isa_is, isa_in, isa_it, fLenSet, ls_unl hl, lenD, List.length_map, gEq, eqB, List.take_length]
def nms (ps : List Str) : List Str := (ps.filter fun p => !wordB p).map hoN
def patL : List Nat → Bool
  | 47 :: l => if l = [] then true else decide ((pcs l).length ≤ 5) && ((pcs l).all okP && unB (nms (pcs l)))
  | _ => false
theorem patL_c (l : List Nat) : patL (47 :: l) = if l = [] then true else decide ((pcs l).length ≤ 5) && ((pcs l).all okP && unB (nms (pcs l))) := rfl
theorem patL_no {L : List Nat} (h : ¬ L.head? = some 47) : patL L = false := by
  unfold patL
  split
  · exact absurd rfl h
  · rfl
def patD : PyData → Bool
  | .str x => patL (tl x)
  | _ => false
theorem pat_none {d : PyData} (h : ∀ μ, m_pieces_of [.dat d] μ = some (.none, μ)) (μ : Mu) : m_is_pattern [.dat d] μ = some (.bool false, μ) := by
  have hg : gIsN .none .none = some (.bool true) := rfl
  unfold m_is_pattern B_is_pattern
  simp only [defM, fSeq, fIfS, fAnd, fOr, fNot, fB, fAndV, fOrV, fNotV, fIf, fIsi, tyD, fIsA, bnd, opt, fin, fChain, f2, fN, fCons, fNil, fVar, fC, g1, gI, gIC, fRet, fExpr, fCall, pNil, pDat, pNm, fAsg, gNm, gNo, gCo, gTu, fEnd, fFor, fSq, seqD, fSg, fLcD, fLc, fYes, fM1, gSS, fM0, fSl, fNo, fSome, rd, fNmB, fNm2, fNmI, fNmT, fNmJ, fNmS, sc, isSc, fSetI, fApp, fOwn, fLstF, fCatF, fRetO, fPar, fParO, fTru, truB, List.cons_append, List.nil_append, List.getElem?_cons_zero, List.getElem?_cons_succ, List.set_cons_zero, List.set_cons_succ, List.replicate, List.length_cons, List.length_nil, Nat.reduceAdd, Nat.reduceSub, if_true, if_false, Bool.false_eq_true, ↓reduceIte, List.append_nil, gTup0, gTup1, gTup2, gTup3, gLst0, gLst1, gLst2, gLst3, gLst4, gLst5, gLst10, isa_tt, isa_ts, isa_ti, isa_tn, isa_tl, isa_ss, isa_st, isa_si, isa_sn, isa_ii, isa_ib, isa_bi, isa_bb, isa_is, isa_in, isa_it, h, hg, List.take_length]
theorem e_holes {ps : List Str} (hl : ps.length ≤ 5) (ho : ∀ p ∈ ps, okP p = true) (μ : Mu) : m_holes_in [.dat (.list (ps.map partP))] μ = some (.list ((ps.filter fun p => !wordB p).map partP), μ) := by
  have hz : (ps.map partP).length ≤ sizeLine := map_len (by omega)
  have hc : lcF (gNm 1) (fB (f2 (f2 (fVar 1) (fC (.int (0))) ixD) (fC (.int (0))) gNe)) (fVar 1) (wipeR [Sl.dat (.list (ps.map partP)), Sl.un] [1]) (ps.map partP) μ = some ((ps.filter fun p => !wordB p).map partP, μ) :=
    lc_filt (mk := partP) (f := partP) ps fun p hp => by
      obtain ⟨k, n, e, hk, _⟩ := part_ok (ho p hp)
      have i0 : ixD (partP p) (.int 0) = some (.int k) := by rw [e]; rfl
      have g : gNe (.int k) (.int 0) = some (.bool (!wordB p)) := by
        show some (PyData.bool (!decide (k = 0))) = _
        rw [hk]
      exact ⟨_, rfl, by simp only [defM, fSeq, fIfS, fAnd, fOr, fNot, fB, fAndV, fOrV, fNotV, fIf, fIsi, tyD, fIsA, bnd, opt, fin, fChain, f2, fN, fCons, fNil, fVar, fC, g1, gI, gIC, fRet, fExpr, fCall, pNil, pDat, pNm, fAsg, gNm, gNo, gCo, gTu, fEnd, fFor, fSq, seqD, fSg, fLcD, fLc, fYes, fM1, gSS, fM0, fSl, fNo, fSome, rd, fNmB, fNm2, fNmI, fNmT, fNmJ, fNmS, sc, isSc, fSetI, fApp, fOwn, fLstF, fCatF, fRetO, fPar, fParO, fTru, truB, List.cons_append, List.nil_append, List.getElem?_cons_zero, List.getElem?_cons_succ, List.set_cons_zero, List.set_cons_succ, List.replicate, List.length_cons, List.length_nil, Nat.reduceAdd, Nat.reduceSub, if_true, if_false, Bool.false_eq_true, ↓reduceIte, List.append_nil, gTup0, gTup1, gTup2, gTup3, gLst0, gLst1, gLst2, gLst3, gLst4, gLst5, gLst10, isa_tt, isa_ts, isa_ti, isa_tn, isa_tl, isa_ss, isa_st, isa_si, isa_sn, isa_ii, isa_ib, isa_bi, isa_bb, isa_is, isa_in, isa_it, wipeR, i0, g], fun _ => rfl⟩
  unfold m_holes_in B_holes_in
  simp only [defM, fSeq, fIfS, fAnd, fOr, fNot, fB, fAndV, fOrV, fNotV, fIf, fIsi, tyD, fIsA, bnd, opt, fin, fChain, f2, fN, fCons, fNil, fVar, fC, g1, gI, gIC, fRet, fExpr, fCall, pNil, pDat, pNm, fAsg, gNm, gNo, gCo, gTu, fEnd, fFor, fSq, seqD, fSg, fLcD, fLc, fYes, fM1, gSS, fM0, fSl, fNo, fSome, rd, fNmB, fNm2, fNmI, fNmT, fNmJ, fNmS, sc, isSc, fSetI, fApp, fOwn, fLstF, fCatF, fRetO, fPar, fParO, fTru, truB, List.cons_append, List.nil_append, List.getElem?_cons_zero, List.getElem?_cons_succ, List.set_cons_zero, List.set_cons_succ, List.replicate, List.length_cons, List.length_nil, Nat.reduceAdd, Nat.reduceSub, if_true, if_false, Bool.false_eq_true, ↓reduceIte, List.append_nil, gTup0, gTup1, gTup2, gTup3, gLst0, gLst1, gLst2, gLst3, gLst4, gLst5, gLst10, isa_tt, isa_ts, isa_ti, isa_tn, isa_tl, isa_ss, isa_st, isa_si, isa_sn, isa_ii, isa_ib, isa_bi, isa_bb, isa_is, isa_in, isa_it, if_pos hz, hc, List.take_length]
theorem pat_list {d : PyData} {ps : List Str} (h : ∀ μ, m_pieces_of [.dat d] μ = some (.list (ps.map PyData.str), μ)) (hp : ∀ p ∈ ps, Sm (.str p)) (hl : ps.length ≤ 5) (μ : Mu) : m_is_pattern [.dat d] μ = some (.bool (ps.all okP && unB (nms ps)), μ) := by
  have hg : gIsN (.list (ps.map PyData.str)) .none = some (.bool false) := rfl
  have hz : (ps.map PyData.str).length ≤ sizeLine := map_len (by omega)
  have hc : lcF (gNm 3) fYes (fCall m_read_part (pNm 3 pNil)) (wipeR [Sl.dat d, Sl.dat (.list (ps.map PyData.str)), Sl.un, Sl.un, Sl.un, Sl.un] [3]) (ps.map PyData.str) μ = some (ps.map partP, μ) :=
    lc_map ps fun p hpp => ⟨_, rfl, by simp only [defM, fSeq, fIfS, fAnd, fOr, fNot, fB, fAndV, fOrV, fNotV, fIf, fIsi, tyD, fIsA, bnd, opt, fin, fChain, f2, fN, fCons, fNil, fVar, fC, g1, gI, gIC, fRet, fExpr, fCall, pNil, pDat, pNm, fAsg, gNm, gNo, gCo, gTu, fEnd, fFor, fSq, seqD, fSg, fLcD, fLc, fYes, fM1, gSS, fM0, fSl, fNo, fSome, rd, fNmB, fNm2, fNmI, fNmT, fNmJ, fNmS, sc, isSc, fSetI, fApp, fOwn, fLstF, fCatF, fRetO, fPar, fParO, fTru, truB, List.cons_append, List.nil_append, List.getElem?_cons_zero, List.getElem?_cons_succ, List.set_cons_zero, List.set_cons_succ, List.replicate, List.length_cons, List.length_nil, Nat.reduceAdd, Nat.reduceSub, if_true, if_false, Bool.false_eq_true, ↓reduceIte, List.append_nil, gTup0, gTup1, gTup2, gTup3, gLst0, gLst1, gLst2, gLst3, gLst4, gLst5, gLst10, isa_tt, isa_ts, isa_ti, isa_tn, isa_tl, isa_ss, isa_st, isa_si, isa_sn, isa_ii, isa_ib, isa_bi, isa_bb, isa_is, isa_in, isa_it, wipeR, e_part (hp p hpp) μ]⟩
  have hn := none_in (f := partP) (ok := okP) ps (fun p hpp => part_lay (hp p hpp)) fun p _ => by
    cases ho : okP p with
    | true =>
      obtain ⟨k, n, e, _, _⟩ := part_ok ho
      rw [e]; rfl
    | false => rw [part_no ho]; rfl
  cases ha : ps.all okP with
  | false =>
    rw [ha] at hn
    unfold m_is_pattern B_is_pattern
    simp only [defM, fSeq, fIfS, fAnd, fOr, fNot, fB, fAndV, fOrV, fNotV, fIf, fIsi, tyD, fIsA, bnd, opt, fin, fChain, f2, fN, fCons, fNil, fVar, fC, g1, gI, gIC, fRet, fExpr, fCall, pNil, pDat, pNm, fAsg, gNm, gNo, gCo, gTu, fEnd, fFor, fSq, seqD, fSg, fLcD, fLc, fYes, fM1, gSS, fM0, fSl, fNo, fSome, rd, fNmB, fNm2, fNmI, fNmT, fNmJ, fNmS, sc, isSc, fSetI, fApp, fOwn, fLstF, fCatF, fRetO, fPar, fParO, fTru, truB, List.cons_append, List.nil_append, List.getElem?_cons_zero, List.getElem?_cons_succ, List.set_cons_zero, List.set_cons_succ, List.replicate, List.length_cons, List.length_nil, Nat.reduceAdd, Nat.reduceSub, if_true, if_false, Bool.false_eq_true, ↓reduceIte, List.append_nil, gTup0, gTup1, gTup2, gTup3, gLst0, gLst1, gLst2, gLst3, gLst4, gLst5, gLst10, isa_tt, isa_ts, isa_ti, isa_tn, isa_tl, isa_ss, isa_st, isa_si, isa_sn, isa_ii, isa_ib, isa_bi, isa_bb, isa_is, isa_in, isa_it, h, hg, if_pos hz, hc, hn, List.take_length, Bool.false_and]
  | true =>
    rw [ha] at hn
    have ho : ∀ p ∈ ps, okP p = true := List.all_eq_true.mp ha
    have hh := e_holes hl ho
    have hlf : (ps.filter fun p => !wordB p).length ≤ 5 := Nat.le_trans (List.length_filter_le _ _) hl
    have hz2 : ((ps.filter fun p => !wordB p).map partP).length ≤ sizeLine := map_len (by omega)
    have hc2 : lcF (gTu 2 (gCo (gNm 4) (gCo (gNm 5) gNo))) fYes (fVar 5) (wipeR [Sl.dat d, Sl.dat (.list (ps.map PyData.str)), Sl.dat (.list (ps.map partP)), Sl.un, Sl.un, Sl.un] [4, 5]) ((ps.filter fun p => !wordB p).map partP) μ = some ((ps.filter fun p => !wordB p).map fun p => PyData.str (hoN p), μ) :=
      lc_map (mk := partP) (f := fun p => PyData.str (hoN p)) _ fun p hpp => by
        obtain ⟨hp1, hp2⟩ := List.mem_filter.mp hpp
        obtain ⟨k, n, e, _, hnn⟩ := part_ok (ho p hp1)
        have := hnn (by simpa using hp2)
        subst this
        rw [e]
        exact ⟨_, rfl, rfl⟩
    have hu : m_are_unlike [.dat (.list ((ps.filter fun p => !wordB p).map fun p => PyData.str (hoN p)))] μ = some (.bool (unB (nms ps)), μ) := by
      have := e_unl (xs := nms ps) (by unfold nms; rw [List.length_map]; omega) μ
      unfold nms at this
      rw [List.map_map] at this
      exact this
    unfold m_is_pattern B_is_pattern
    simp only [defM, fSeq, fIfS, fAnd, fOr, fNot, fB, fAndV, fOrV, fNotV, fIf, fIsi, tyD, fIsA, bnd, opt, fin, fChain, f2, fN, fCons, fNil, fVar, fC, g1, gI, gIC, fRet, fExpr, fCall, pNil, pDat, pNm, fAsg, gNm, gNo, gCo, gTu, fEnd, fFor, fSq, seqD, fSg, fLcD, fLc, fYes, fM1, gSS, fM0, fSl, fNo, fSome, rd, fNmB, fNm2, fNmI, fNmT, fNmJ, fNmS, sc, isSc, fSetI, fApp, fOwn, fLstF, fCatF, fRetO, fPar, fParO, fTru, truB, List.cons_append, List.nil_append, List.getElem?_cons_zero, List.getElem?_cons_succ, List.set_cons_zero, List.set_cons_succ, List.replicate, List.length_cons, List.length_nil, Nat.reduceAdd, Nat.reduceSub, if_true, if_false, Bool.false_eq_true, ↓reduceIte, List.append_nil, gTup0, gTup1, gTup2, gTup3, gLst0, gLst1, gLst2, gLst3, gLst4, gLst5, gLst10, isa_tt, isa_ts, isa_ti, isa_tn, isa_tl, isa_ss, isa_st, isa_si, isa_sn, isa_ii, isa_ib, isa_bi, isa_bb, isa_is, isa_in, isa_it, h, hg, if_pos hz, hc, hn, hh, if_pos hz2, hc2, hu, List.take_length, Bool.true_and]
theorem e_pat {d : PyData} (h : Sm d) (μ : Mu) : m_is_pattern [.dat d] μ = some (.bool (patD d), μ) := by
  cases d with
  | str x =>
    show _ = some (PyData.bool (patL (tl x)), μ)
    by_cases h1 : (tl x).head? = some 47
    · obtain ⟨l, el⟩ := head_c h1
      have hsm := h.pcs el
      have e := fun μ => e_pieces h μ
      rw [el]; simp only [el] at e
      rw [patL_c]
      simp only [pcL_c] at e
      by_cases hl : l = []
      · rw [if_pos hl]; simp only [if_pos hl] at e
        exact pat_list (ps := []) e (by simp) (by simp) μ
      · rw [if_neg hl]; simp only [if_neg hl] at e
        by_cases h5 : (pcs l).length ≤ 5
        · simp only [if_pos h5] at e
          rw [decide_eq_true h5, Bool.true_and]
          exact pat_list e hsm h5 μ
        · simp only [if_neg h5] at e
          rw [decide_eq_false h5, Bool.false_and]
          exact pat_none e μ
    · rw [patL_no h1]
      exact pat_none (fun μ => by rw [e_pieces h, pcL_no h1]) μ
  | none => exact pat_none (pieces_not rfl) μ
  | bool _ => exact pat_none (pieces_not rfl) μ
  | int _ => exact pat_none (pieces_not rfl) μ
  | list _ => exact pat_none (pieces_not rfl) μ
  | tuple _ => exact pat_none (pieces_not rfl) μ
  | dict _ => exact pat_none (pieces_not rfl) μ
def vbL : List PyData := [.str "get", .str "post"]
def verbD (d : PyData) : Bool := vbL.any fun y => PyData.eqv y d
def routeD : PyData → Bool
  | .tuple [n, v, p] => nameD n && (verbD v && patD p)
  | _ => false
def nmOf : PyData → Str
  | .tuple (.str n :: _) => n
  | _ => ""
def routesD : PyData → Bool
  | .tuple xs => decide (1 ≤ (xs.length : Int)) && (decide ((xs.length : Int) ≤ 10) && (xs.all routeD && unB (xs.map nmOf)))
  | _ => false
theorem in_vb (s : PyData) : inD s vbL = some (verbD s) := by
  unfold inD
  split
  · rfl
  · rw [if_pos (by decide)]; rfl
theorem in_v1 (s : PyData) : gInD false s (.tuple [.str "get", .str "post"]) = some (.bool (verbD s)) := by
  show opt (inD s vbL) _ = _
  rw [in_vb]; rfl
theorem in_v2 (s : PyData) : gInD true s (.list [.str "get", .str "post"]) = some (.bool (!verbD s)) := by
  show opt (inD s vbL) _ = _
  rw [in_vb]; rfl
theorem verb_not {d : PyData} (hs : isaD "str" d = false) (hv : verbD d = false) (μ : Mu) : m_is_verb [.dat d] μ = some (.bool (verbD d), μ) := by
  unfold m_is_verb B_is_verb
  rw [hv]
  simp only [defM, fSeq, fIfS, fAnd, fOr, fNot, fB, fAndV, fOrV, fNotV, fIf, fIsi, tyD, fIsA, bnd, opt, fin, fChain, f2, fN, fCons, fNil, fVar, fC, g1, gI, gIC, fRet, fExpr, fCall, pNil, pDat, pNm, fAsg, gNm, gNo, gCo, gTu, fEnd, fFor, fSq, seqD, fSg, fLcD, fLc, fYes, fM1, gSS, fM0, fSl, fNo, fSome, rd, fNmB, fNm2, fNmI, fNmT, fNmJ, fNmS, sc, isSc, fSetI, fApp, fOwn, fLstF, fCatF, fRetO, fPar, fParO, fTru, truB, List.cons_append, List.nil_append, List.getElem?_cons_zero, List.getElem?_cons_succ, List.set_cons_zero, List.set_cons_succ, List.replicate, List.length_cons, List.length_nil, Nat.reduceAdd, Nat.reduceSub, if_true, if_false, Bool.false_eq_true, ↓reduceIte, List.append_nil, gTup0, gTup1, gTup2, gTup3, gLst0, gLst1, gLst2, gLst3, gLst4, gLst5, gLst10, isa_tt, isa_ts, isa_ti, isa_tn, isa_tl, isa_ss, isa_st, isa_si, isa_sn, isa_ii, isa_ib, isa_bi, isa_bb, isa_is, isa_in, isa_it, hs, List.take_length]
theorem e_verb (d : PyData) (μ : Mu) : m_is_verb [.dat d] μ = some (.bool (verbD d), μ) := by
  cases d with
  | str x =>
    unfold m_is_verb B_is_verb
    simp only [defM, fSeq, fIfS, fAnd, fOr, fNot, fB, fAndV, fOrV, fNotV, fIf, fIsi, tyD, fIsA, bnd, opt, fin, fChain, f2, fN, fCons, fNil, fVar, fC, g1, gI, gIC, fRet, fExpr, fCall, pNil, pDat, pNm, fAsg, gNm, gNo, gCo, gTu, fEnd, fFor, fSq, seqD, fSg, fLcD, fLc, fYes, fM1, gSS, fM0, fSl, fNo, fSome, rd, fNmB, fNm2, fNmI, fNmT, fNmJ, fNmS, sc, isSc, fSetI, fApp, fOwn, fLstF, fCatF, fRetO, fPar, fParO, fTru, truB, List.cons_append, List.nil_append, List.getElem?_cons_zero, List.getElem?_cons_succ, List.set_cons_zero, List.set_cons_succ, List.replicate, List.length_cons, List.length_nil, Nat.reduceAdd, Nat.reduceSub, if_true, if_false, Bool.false_eq_true, ↓reduceIte, List.append_nil, gTup0, gTup1, gTup2, gTup3, gLst0, gLst1, gLst2, gLst3, gLst4, gLst5, gLst10, isa_tt, isa_ts, isa_ti, isa_tn, isa_tl, isa_ss, isa_st, isa_si, isa_sn, isa_ii, isa_ib, isa_bi, isa_bb, isa_is, isa_in, isa_it, in_v1, List.take_length]
  | none => exact verb_not rfl rfl μ
  | bool _ => exact verb_not rfl rfl μ
  | int _ => exact verb_not rfl rfl μ
  | list _ => exact verb_not rfl rfl μ
  | tuple _ => exact verb_not rfl rfl μ
  | dict _ => exact verb_not rfl rfl μ
theorem three {xs : List PyData} (h : ¬ xs.length = 3) : gNe (.int (xs.length : Nat)) (.int 3) = some (.bool true) := by
  show some (PyData.bool (!decide (_ = _))) = _
  rw [decide_eq_false (by omega)]; rfl
theorem three' : gNe (.int ((0 + 1 + 1 + 1 : Nat) : Int)) (.int 3) = some (.bool false) := rfl
theorem len3 {xs : List PyData} (h : xs.length = 3) : ∃ a b c, xs = [a, b, c] := by
  match xs, h with
  | [a, b, c], _ => exact ⟨a, b, c, rfl⟩
theorem route_len {xs : List PyData} (h : ¬ xs.length = 3) : routeD (.tuple xs) = false := by
  match xs, h with
  | [], _ => rfl
  | [_], _ => rfl
  | [_, _], _ => rfl
  | [_, _, _], h => exact absurd rfl h
  | _ :: _ :: _ :: _ :: _, _ => rfl
theorem route_not {d : PyData} (hs : isaD "tuple" d = false) (μ : Mu) : m_is_route [.dat d] μ = some (.bool false, μ) := by
  unfold m_is_route B_is_route
  simp only [defM, fSeq, fIfS, fAnd, fOr, fNot, fB, fAndV, fOrV, fNotV, fIf, fIsi, tyD, fIsA, bnd, opt, fin, fChain, f2, fN, fCons, fNil, fVar, fC, g1, gI, gIC, fRet, fExpr, fCall, pNil, pDat, pNm, fAsg, gNm, gNo, gCo, gTu, fEnd, fFor, fSq, seqD, fSg, fLcD, fLc, fYes, fM1, gSS, fM0, fSl, fNo, fSome, rd, fNmB, fNm2, fNmI, fNmT, fNmJ, fNmS, sc, isSc, fSetI, fApp, fOwn, fLstF, fCatF, fRetO, fPar, fParO, fTru, truB, List.cons_append, List.nil_append, List.getElem?_cons_zero, List.getElem?_cons_succ, List.set_cons_zero, List.set_cons_succ, List.replicate, List.length_cons, List.length_nil, Nat.reduceAdd, Nat.reduceSub, if_true, if_false, Bool.false_eq_true, ↓reduceIte, List.append_nil, gTup0, gTup1, gTup2, gTup3, gLst0, gLst1, gLst2, gLst3, gLst4, gLst5, gLst10, isa_tt, isa_ts, isa_ti, isa_tn, isa_tl, isa_ss, isa_st, isa_si, isa_sn, isa_ii, isa_ib, isa_bi, isa_bb, isa_is, isa_in, isa_it, hs, Bool.not_false, List.take_length]
theorem e_route {d : PyData} (h : Sm d) (μ : Mu) : m_is_route [.dat d] μ = some (.bool (routeD d), μ) := by
  cases d with
  | tuple xs =>
    by_cases hl : xs.length = 3
    · obtain ⟨n, v, p, rfl⟩ := len3 hl
      have hn := h.tup.2 n (by simp)
      have hp := h.tup.2 p (by simp)
      unfold m_is_route B_is_route routeD
      cases h1 : nameD n with
      | false => simp only [defM, fSeq, fIfS, fAnd, fOr, fNot, fB, fAndV, fOrV, fNotV, fIf, fIsi, tyD, fIsA, bnd, opt, fin, fChain, f2, fN, fCons, fNil, fVar, fC, g1, gI, gIC, fRet, fExpr, fCall, pNil, pDat, pNm, fAsg, gNm, gNo, gCo, gTu, fEnd, fFor, fSq, seqD, fSg, fLcD, fLc, fYes, fM1, gSS, fM0, fSl, fNo, fSome, rd, fNmB, fNm2, fNmI, fNmT, fNmJ, fNmS, sc, isSc, fSetI, fApp, fOwn, fLstF, fCatF, fRetO, fPar, fParO, fTru, truB, List.cons_append, List.nil_append, List.getElem?_cons_zero, List.getElem?_cons_succ, List.set_cons_zero, List.set_cons_succ, List.replicate, List.length_cons, List.length_nil, Nat.reduceAdd, Nat.reduceSub, if_true, if_false, Bool.false_eq_true, ↓reduceIte, List.append_nil, gTup0, gTup1, gTup2, gTup3, gLst0, gLst1, gLst2, gLst3, gLst4, gLst5, gLst10, isa_tt, isa_ts, isa_ti, isa_tn, isa_tl, isa_ss, isa_st, isa_si, isa_sn, isa_ii, isa_ib, isa_bi, isa_bb, isa_is, isa_in, isa_it, lenD, three', Bool.not_true, e_nameD hn, h1, List.take_length, Bool.false_and]
      | true =>
        cases h2 : verbD v with
        | false => simp only [defM, fSeq, fIfS, fAnd, fOr, fNot, fB, fAndV, fOrV, fNotV, fIf, fIsi, tyD, fIsA, bnd, opt, fin, fChain, f2, fN, fCons, fNil, fVar, fC, g1, gI, gIC, fRet, fExpr, fCall, pNil, pDat, pNm, fAsg, gNm, gNo, gCo, gTu, fEnd, fFor, fSq, seqD, fSg, fLcD, fLc, fYes, fM1, gSS, fM0, fSl, fNo, fSome, rd, fNmB, fNm2, fNmI, fNmT, fNmJ, fNmS, sc, isSc, fSetI, fApp, fOwn, fLstF, fCatF, fRetO, fPar, fParO, fTru, truB, List.cons_append, List.nil_append, List.getElem?_cons_zero, List.getElem?_cons_succ, List.set_cons_zero, List.set_cons_succ, List.replicate, List.length_cons, List.length_nil, Nat.reduceAdd, Nat.reduceSub, if_true, if_false, Bool.false_eq_true, ↓reduceIte, List.append_nil, gTup0, gTup1, gTup2, gTup3, gLst0, gLst1, gLst2, gLst3, gLst4, gLst5, gLst10, isa_tt, isa_ts, isa_ti, isa_tn, isa_tl, isa_ss, isa_st, isa_si, isa_sn, isa_ii, isa_ib, isa_bi, isa_bb, isa_is, isa_in, isa_it, lenD, three', Bool.not_true, e_nameD hn, h1, e_verb, h2, List.take_length, Bool.false_and, Bool.true_and]
        | true => simp only [defM, fSeq, fIfS, fAnd, fOr, fNot, fB, fAndV, fOrV, fNotV, fIf, fIsi, tyD, fIsA, bnd, opt, fin, fChain, f2, fN, fCons, fNil, fVar, fC, g1, gI, gIC, fRet, fExpr, fCall, pNil, pDat, pNm, fAsg, gNm, gNo, gCo, gTu, fEnd, fFor, fSq, seqD, fSg, fLcD, fLc, fYes, fM1, gSS, fM0, fSl, fNo, fSome, rd, fNmB, fNm2, fNmI, fNmT, fNmJ, fNmS, sc, isSc, fSetI, fApp, fOwn, fLstF, fCatF, fRetO, fPar, fParO, fTru, truB, List.cons_append, List.nil_append, List.getElem?_cons_zero, List.getElem?_cons_succ, List.set_cons_zero, List.set_cons_succ, List.replicate, List.length_cons, List.length_nil, Nat.reduceAdd, Nat.reduceSub, if_true, if_false, Bool.false_eq_true, ↓reduceIte, List.append_nil, gTup0, gTup1, gTup2, gTup3, gLst0, gLst1, gLst2, gLst3, gLst4, gLst5, gLst10, isa_tt, isa_ts, isa_ti, isa_tn, isa_tl, isa_ss, isa_st, isa_si, isa_sn, isa_ii, isa_ib, isa_bi, isa_bb, isa_is, isa_in, isa_it, lenD, three', Bool.not_true, e_nameD hn, h1, e_verb, h2, e_pat hp, List.take_length, Bool.true_and]
    · have hq := three hl
      rw [route_len hl]
      generalize hL : xs.length = L at hq
      have hLn : lenD (.tuple xs) = some (.int (L : Nat)) := by rw [← hL]; rfl
      unfold m_is_route B_is_route
      simp only [defM, fSeq, fIfS, fAnd, fOr, fNot, fB, fAndV, fOrV, fNotV, fIf, fIsi, tyD, fIsA, bnd, opt, fin, fChain, f2, fN, fCons, fNil, fVar, fC, g1, gI, gIC, fRet, fExpr, fCall, pNil, pDat, pNm, fAsg, gNm, gNo, gCo, gTu, fEnd, fFor, fSq, seqD, fSg, fLcD, fLc, fYes, fM1, gSS, fM0, fSl, fNo, fSome, rd, fNmB, fNm2, fNmI, fNmT, fNmJ, fNmS, sc, isSc, fSetI, fApp, fOwn, fLstF, fCatF, fRetO, fPar, fParO, fTru, truB, List.cons_append, List.nil_append, List.getElem?_cons_zero, List.getElem?_cons_succ, List.set_cons_zero, List.set_cons_succ, List.replicate, List.length_cons, List.length_nil, Nat.reduceAdd, Nat.reduceSub, if_true, if_false, Bool.false_eq_true, ↓reduceIte, List.append_nil, gTup0, gTup1, gTup2, gTup3, gLst0, gLst1, gLst2, gLst3, gLst4, gLst5, gLst10, isa_tt, isa_ts, isa_ti, isa_tn, isa_tl, isa_ss, isa_st, isa_si, isa_sn, isa_ii, isa_ib, isa_bi, isa_bb, isa_is, isa_in, isa_it, hLn, hq, Bool.not_true, List.take_length]
  | none => exact route_not rfl μ
  | bool _ => exact route_not rfl μ
  | int _ => exact route_not rfl μ
  | str _ => exact route_not rfl μ
  | list _ => exact route_not rfl μ
  | dict _ => exact route_not rfl μ
theorem route_nm {d : PyData} (h : routeD d = true) : ixD d (.int 0) = some (.str (nmOf d)) ∧ isaD "tuple" d = true := by
  unfold routeD at h
  split at h
  · rename_i n v p
    rw [Bool.and_eq_true] at h
    cases n with
    | str x => exact ⟨rfl, rfl⟩
    | none => cases h.1
    | bool _ => cases h.1
    | int _ => cases h.1
    | list _ => cases h.1
    | tuple _ => cases h.1
    | dict _ => cases h.1
  · cases h
theorem nrows_not {d : PyData} (hs : isaD "tuple" d = false) (μ : Mu) : m_are_named_rows__is_route [.dat d, .dat (.int 1), .dat (.int 10), .fn "is_route"] μ = some (.bool false, μ) := by
  unfold m_are_named_rows__is_route B_are_named_rows__is_route
  simp only [defM, fSeq, fIfS, fAnd, fOr, fNot, fB, fAndV, fOrV, fNotV, fIf, fIsi, tyD, fIsA, bnd, opt, fin, fChain, f2, fN, fCons, fNil, fVar, fC, g1, gI, gIC, fRet, fExpr, fCall, pNil, pDat, pNm, fAsg, gNm, gNo, gCo, gTu, fEnd, fFor, fSq, seqD, fSg, fLcD, fLc, fYes, fM1, gSS, fM0, fSl, fNo, fSome, rd, fNmB, fNm2, fNmI, fNmT, fNmJ, fNmS, sc, isSc, fSetI, fApp, fOwn, fLstF, fCatF, fRetO, fPar, fParO, fTru, truB, List.cons_append, List.nil_append, List.getElem?_cons_zero, List.getElem?_cons_succ, List.set_cons_zero, List.set_cons_succ, List.replicate, List.length_cons, List.length_nil, Nat.reduceAdd, Nat.reduceSub, if_true, if_false, Bool.false_eq_true, ↓reduceIte, List.append_nil, gTup0, gTup1, gTup2, gTup3, gLst0, gLst1, gLst2, gLst3, gLst4, gLst5, gLst10, isa_tt, isa_ts, isa_ti, isa_tn, isa_tl, isa_ss, isa_st, isa_si, isa_sn, isa_ii, isa_ib, isa_bi, isa_bb, isa_is, isa_in, isa_it, hs, Bool.not_false, List.take_length]
theorem eq_self' {x : Str} : (x == x) = true := by simp
theorem e_nrows {d : PyData} (h : Sm d) (μ : Mu) : m_are_named_rows__is_route [.dat d, .dat (.int 1), .dat (.int 10), .fn "is_route"] μ = some (.bool (routesD d), μ) := by
  cases d with
  | tuple xs =>
    obtain ⟨hl, hs⟩ := h.tup
    have hLn : lenD (.tuple xs) = some (.int (xs.length : Nat)) := rfl
    show _ = some (PyData.bool (decide (1 ≤ (xs.length : Int)) && (decide ((xs.length : Int) ≤ 10) && (xs.all routeD && unB (xs.map nmOf)))), μ)
    by_cases h1 : 1 ≤ (xs.length : Int)
    · by_cases h2 : (xs.length : Int) ≤ 10
      · have hz : xs.length ≤ sizeLine := line_ge (by omega)
        have hc : lcF (gNm 4) fYes (fCallL "is_route" 3 m_is_route (pNm 4 pNil)) (wipeR [Sl.dat (.tuple xs), Sl.dat (.int 1), Sl.dat (.int 10), Sl.fn "is_route", Sl.un] [4]) xs μ = some (xs.map fun r => PyData.bool (routeD r), μ) :=
          lcF_all xs fun r hr => ⟨_, rfl, by simp only [defM, fSeq, fIfS, fAnd, fOr, fNot, fB, fAndV, fOrV, fNotV, fIf, fIsi, tyD, fIsA, bnd, opt, fin, fChain, f2, fN, fCons, fNil, fVar, fC, g1, gI, gIC, fRet, fExpr, fCall, pNil, pDat, pNm, fAsg, gNm, gNo, gCo, gTu, fEnd, fFor, fSq, seqD, fSg, fLcD, fLc, fYes, fM1, gSS, fM0, fSl, fNo, fSome, rd, fNmB, fNm2, fNmI, fNmT, fNmJ, fNmS, sc, isSc, fSetI, fApp, fOwn, fLstF, fCatF, fRetO, fPar, fParO, fTru, truB, List.cons_append, List.nil_append, List.getElem?_cons_zero, List.getElem?_cons_succ, List.set_cons_zero, List.set_cons_succ, List.replicate, List.length_cons, List.length_nil, Nat.reduceAdd, Nat.reduceSub, if_true, if_false, Bool.false_eq_true, ↓reduceIte, List.append_nil, gTup0, gTup1, gTup2, gTup3, gLst0, gLst1, gLst2, gLst3, gLst4, gLst5, gLst10, isa_tt, isa_ts, isa_ti, isa_tn, isa_tl, isa_ss, isa_st, isa_si, isa_sn, isa_ii, isa_ib, isa_bi, isa_bb, isa_is, isa_in, isa_it, wipeR, fCallL, eq_self']; exact e_route (hs r hr) μ⟩
        have ha := allD_eq (f := routeD) xs
        cases hb : xs.all routeD with
        | false =>
          rw [hb] at ha
          unfold m_are_named_rows__is_route B_are_named_rows__is_route
          simp only [defM, fSeq, fIfS, fAnd, fOr, fNot, fB, fAndV, fOrV, fNotV, fIf, fIsi, tyD, fIsA, bnd, opt, fin, fChain, f2, fN, fCons, fNil, fVar, fC, g1, gI, gIC, fRet, fExpr, fCall, pNil, pDat, pNm, fAsg, gNm, gNo, gCo, gTu, fEnd, fFor, fSq, seqD, fSg, fLcD, fLc, fYes, fM1, gSS, fM0, fSl, fNo, fSome, rd, fNmB, fNm2, fNmI, fNmT, fNmJ, fNmS, sc, isSc, fSetI, fApp, fOwn, fLstF, fCatF, fRetO, fPar, fParO, fTru, truB, List.cons_append, List.nil_append, List.getElem?_cons_zero, List.getElem?_cons_succ, List.set_cons_zero, List.set_cons_succ, List.replicate, List.length_cons, List.length_nil, Nat.reduceAdd, Nat.reduceSub, if_true, if_false, Bool.false_eq_true, ↓reduceIte, List.append_nil, gTup0, gTup1, gTup2, gTup3, gLst0, gLst1, gLst2, gLst3, gLst4, gLst5, gLst10, isa_tt, isa_ts, isa_ti, isa_tn, isa_tl, isa_ss, isa_st, isa_si, isa_sn, isa_ii, isa_ib, isa_bi, isa_bb, isa_is, isa_in, isa_it, hLn, h1, h2, decide_true, Bool.not_true, if_pos hz, hc, ha, List.take_length, Bool.false_and, Bool.and_false, Bool.and_true]
        | true =>
          rw [hb] at ha
          have hr := List.all_eq_true.mp hb
          have hc2 : lcF (gNm 4) fYes (f2 (fVar 4) (fC (.int (0))) ixD) (wipeR [Sl.dat (.tuple xs), Sl.dat (.int 1), Sl.dat (.int 10), Sl.fn "is_route", Sl.un] [4]) xs μ = some (xs.map fun r => PyData.str (nmOf r), μ) :=
            lcF_all xs fun r hrr => ⟨_, rfl, by simp only [defM, fSeq, fIfS, fAnd, fOr, fNot, fB, fAndV, fOrV, fNotV, fIf, fIsi, tyD, fIsA, bnd, opt, fin, fChain, f2, fN, fCons, fNil, fVar, fC, g1, gI, gIC, fRet, fExpr, fCall, pNil, pDat, pNm, fAsg, gNm, gNo, gCo, gTu, fEnd, fFor, fSq, seqD, fSg, fLcD, fLc, fYes, fM1, gSS, fM0, fSl, fNo, fSome, rd, fNmB, fNm2, fNmI, fNmT, fNmJ, fNmS, sc, isSc, fSetI, fApp, fOwn, fLstF, fCatF, fRetO, fPar, fParO, fTru, truB, List.cons_append, List.nil_append, List.getElem?_cons_zero, List.getElem?_cons_succ, List.set_cons_zero, List.set_cons_succ, List.replicate, List.length_cons, List.length_nil, Nat.reduceAdd, Nat.reduceSub, if_true, if_false, Bool.false_eq_true, ↓reduceIte, List.append_nil, gTup0, gTup1, gTup2, gTup3, gLst0, gLst1, gLst2, gLst3, gLst4, gLst5, gLst10, isa_tt, isa_ts, isa_ti, isa_tn, isa_tl, isa_ss, isa_st, isa_si, isa_sn, isa_ii, isa_ib, isa_bi, isa_bb, isa_is, isa_in, isa_it, wipeR, (route_nm (hr r hrr)).1]⟩
          have hu : m_are_unlike [.dat (.list (xs.map fun r => PyData.str (nmOf r)))] μ = some (.bool (unB (xs.map nmOf)), μ) := by
            have := e_unl (xs := xs.map nmOf) (by rw [List.length_map]; omega) μ
            rw [List.map_map] at this
            exact this
          unfold m_are_named_rows__is_route B_are_named_rows__is_route
          simp only [defM, fSeq, fIfS, fAnd, fOr, fNot, fB, fAndV, fOrV, fNotV, fIf, fIsi, tyD, fIsA, bnd, opt, fin, fChain, f2, fN, fCons, fNil, fVar, fC, g1, gI, gIC, fRet, fExpr, fCall, pNil, pDat, pNm, fAsg, gNm, gNo, gCo, gTu, fEnd, fFor, fSq, seqD, fSg, fLcD, fLc, fYes, fM1, gSS, fM0, fSl, fNo, fSome, rd, fNmB, fNm2, fNmI, fNmT, fNmJ, fNmS, sc, isSc, fSetI, fApp, fOwn, fLstF, fCatF, fRetO, fPar, fParO, fTru, truB, List.cons_append, List.nil_append, List.getElem?_cons_zero, List.getElem?_cons_succ, List.set_cons_zero, List.set_cons_succ, List.replicate, List.length_cons, List.length_nil, Nat.reduceAdd, Nat.reduceSub, if_true, if_false, Bool.false_eq_true, ↓reduceIte, List.append_nil, gTup0, gTup1, gTup2, gTup3, gLst0, gLst1, gLst2, gLst3, gLst4, gLst5, gLst10, isa_tt, isa_ts, isa_ti, isa_tn, isa_tl, isa_ss, isa_st, isa_si, isa_sn, isa_ii, isa_ib, isa_bi, isa_bb, isa_is, isa_in, isa_it, hLn, h1, h2, decide_true, Bool.not_true, if_pos hz, hc, ha, hc2, hu, List.take_length, Bool.true_and]
      · unfold m_are_named_rows__is_route B_are_named_rows__is_route
        simp only [defM, fSeq, fIfS, fAnd, fOr, fNot, fB, fAndV, fOrV, fNotV, fIf, fIsi, tyD, fIsA, bnd, opt, fin, fChain, f2, fN, fCons, fNil, fVar, fC, g1, gI, gIC, fRet, fExpr, fCall, pNil, pDat, pNm, fAsg, gNm, gNo, gCo, gTu, fEnd, fFor, fSq, seqD, fSg, fLcD, fLc, fYes, fM1, gSS, fM0, fSl, fNo, fSome, rd, fNmB, fNm2, fNmI, fNmT, fNmJ, fNmS, sc, isSc, fSetI, fApp, fOwn, fLstF, fCatF, fRetO, fPar, fParO, fTru, truB, List.cons_append, List.nil_append, List.getElem?_cons_zero, List.getElem?_cons_succ, List.set_cons_zero, List.set_cons_succ, List.replicate, List.length_cons, List.length_nil, Nat.reduceAdd, Nat.reduceSub, if_true, if_false, Bool.false_eq_true, ↓reduceIte, List.append_nil, gTup0, gTup1, gTup2, gTup3, gLst0, gLst1, gLst2, gLst3, gLst4, gLst5, gLst10, isa_tt, isa_ts, isa_ti, isa_tn, isa_tl, isa_ss, isa_st, isa_si, isa_sn, isa_ii, isa_ib, isa_bi, isa_bb, isa_is, isa_in, isa_it, hLn, h1, h2, decide_true, decide_false, Bool.not_true, Bool.not_false, List.take_length, Bool.false_and, Bool.true_and]
    · unfold m_are_named_rows__is_route B_are_named_rows__is_route
      simp only [defM, fSeq, fIfS, fAnd, fOr, fNot, fB, fAndV, fOrV, fNotV, fIf, fIsi, tyD, fIsA, bnd, opt, fin, fChain, f2, fN, fCons, fNil, fVar, fC, g1, gI, gIC, fRet, fExpr, fCall, pNil, pDat, pNm, fAsg, gNm, gNo, gCo, gTu, fEnd, fFor, fSq, seqD, fSg, fLcD, fLc, fYes, fM1, gSS, fM0, fSl, fNo, fSome, rd, fNmB, fNm2, fNmI, fNmT, fNmJ, fNmS, sc, isSc, fSetI, fApp, fOwn, fLstF, fCatF, fRetO, fPar, fParO, fTru, truB, List.cons_append, List.nil_append, List.getElem?_cons_zero, List.getElem?_cons_succ, List.set_cons_zero, List.set_cons_succ, List.replicate, List.length_cons, List.length_nil, Nat.reduceAdd, Nat.reduceSub, if_true, if_false, Bool.false_eq_true, ↓reduceIte, List.append_nil, gTup0, gTup1, gTup2, gTup3, gLst0, gLst1, gLst2, gLst3, gLst4, gLst5, gLst10, isa_tt, isa_ts, isa_ti, isa_tn, isa_tl, isa_ss, isa_st, isa_si, isa_sn, isa_ii, isa_ib, isa_bi, isa_bb, isa_is, isa_in, isa_it, hLn, h1, decide_false, Bool.not_true, Bool.not_false, List.take_length, Bool.false_and]
  | none => exact nrows_not rfl μ
  | bool _ => exact nrows_not rfl μ
  | int _ => exact nrows_not rfl μ
  | str _ => exact nrows_not rfl μ
  | list _ => exact nrows_not rfl μ
  | dict _ => exact nrows_not rfl μ
theorem e_routes {d : PyData} (h : Sm d) (μ : Mu) : m_are_routes [.dat d] μ = some (.bool (routesD d), μ) := by
  unfold m_are_routes B_are_routes
  simp only [defM, fSeq, fIfS, fAnd, fOr, fNot, fB, fAndV, fOrV, fNotV, fIf, fIsi, tyD, fIsA, bnd, opt, fin, fChain, f2, fN, fCons, fNil, fVar, fC, g1, gI, gIC, fRet, fExpr, fCall, pNil, pDat, pNm, fAsg, gNm, gNo, gCo, gTu, fEnd, fFor, fSq, seqD, fSg, fLcD, fLc, fYes, fM1, gSS, fM0, fSl, fNo, fSome, rd, fNmB, fNm2, fNmI, fNmT, fNmJ, fNmS, sc, isSc, fSetI, fApp, fOwn, fLstF, fCatF, fRetO, fPar, fParO, fTru, truB, List.cons_append, List.nil_append, List.getElem?_cons_zero, List.getElem?_cons_succ, List.set_cons_zero, List.set_cons_succ, List.replicate, List.length_cons, List.length_nil, Nat.reduceAdd, Nat.reduceSub, if_true, if_false, Bool.false_eq_true, ↓reduceIte, List.append_nil, gTup0, gTup1, gTup2, gTup3, gLst0, gLst1, gLst2, gLst3, gLst4, gLst5, gLst10, isa_tt, isa_ts, isa_ti, isa_tn, isa_tl, isa_ss, isa_st, isa_si, isa_sn, isa_ii, isa_ib, isa_bi, isa_bb, isa_is, isa_in, isa_it, pFn, e_nrows h, List.take_length]
end Law
namespace Law
open PySem PySem.Spec PyProof.Rows L2 DL
local instance : Tabs := ⟨[]⟩
open TL
theorem lmade_not {d : PyData} (hs : isaD "str" d = false) (sg : PyData) (μ : Mu) : m__law_is_made [.dat d, .dat sg] μ = some (.bool false, μ) := by
  unfold m__law_is_made B__law_is_made
  simp only [defM, fSeq, fIfS, fAnd, fOr, fNot, fB, fAndV, fOrV, fNotV, fIf, fIsi, tyD, fIsA, bnd, opt, fin, fChain, f2, fN, fCons, fNil, fVar, fC, g1, gI, gIC, fRet, fExpr, fCall, pNil, pDat, pNm, fAsg, gNm, gNo, gCo, gTu, fEnd, fFor, fSq, seqD, fSg, fLcD, fLc, fYes, fM1, gSS, fM0, fSl, fNo, fSome, rd, fNmB, fNm2, fNmI, fNmT, fNmJ, fNmS, sc, isSc, fSetI, fApp, fOwn, fLstF, fCatF, fRetO, fPar, fParO, fTru, truB, List.cons_append, List.nil_append, List.getElem?_cons_zero, List.getElem?_cons_succ, List.set_cons_zero, List.set_cons_succ, List.replicate, List.length_cons, List.length_nil, Nat.reduceAdd, Nat.reduceSub, if_true, if_false, Bool.false_eq_true, ↓reduceIte, List.append_nil, gTup0, gTup1, gTup2, gTup3, gLst0, gLst1, gLst2, gLst3, gLst4, gLst5, gLst10, isa_tt, isa_ts, isa_ti, isa_tn, isa_tl, isa_ss, isa_st, isa_si, isa_sn, isa_ii, isa_ib, isa_bi, isa_bb, isa_is, isa_in, isa_it, hs, List.take_length]
theorem e_lmade {x : Str} (h : Sm (.str x)) (sg : Str) (μ : Mu) : m__law_is_made [.dat (.str x), .dat (.str sg)] μ = some (.bool (shortB x sg), μ) := by
  have hx := h.len
  have hl : lenD (.str x) = some (.int x.length) := by show (if x.length ≤ sizeLine then _ else _) = _; rw [if_pos (line_ge hx)]
  have hs : (DL.signs x).length ≤ sizeLine := by unfold DL.signs; simpa [Str.length] using line_ge hx
  have hc : lcF (gNm 2) (fB (f2 (fVar 2) (fVar 1) (gInS true))) (fVar 2) (wipeR [Sl.dat (.str x), Sl.dat (.str sg), Sl.un] [2]) (DL.signs x) μ = some ((x.cps.toList.filter fun c => !decide (c ∈ sg.cps.toList)).map sgn, μ) := by
    have : DL.signs x = x.cps.toList.map sgn := rfl
    rw [this]
    exact lc_filt (mk := sgn) (f := sgn) x.cps.toList fun c hcx => ⟨_, rfl, rfl, fun _ => rfl⟩
  have hf := fit_str.mp h.f
  have hE : gEq (.list ((x.cps.toList.filter fun c => !decide (c ∈ sg.cps.toList)).map sgn)) (.list []) = some (.bool ((x.cps.toList.filter fun c => !decide (c ∈ sg.cps.toList)).map sgn).isEmpty) := by
    refine nil_eq (lay_of fun y hy => ?_) (dep_of fun y hy => ?_)
    · obtain ⟨c, hc, rfl⟩ := List.mem_map.mp hy
      have := hf c (List.mem_filter.mp hc).1
      show (Array.all #[c] fun c => decide (c < 0x110000)) = true
      simp [this]
    · obtain ⟨c, hc, rfl⟩ := List.mem_map.mp hy
      exact Nat.zero_le _
  have hB : ((x.cps.toList.filter fun c => !decide (c ∈ sg.cps.toList)).map sgn).isEmpty = (x.cps.toList.all fun c => decide (c ∈ sg.cps.toList)) := by
    rw [Bool.eq_iff_iff, List.isEmpty_iff, List.map_eq_nil_iff, List.filter_eq_nil_iff, List.all_eq_true]
    simp
  rw [hB] at hE
  unfold m__law_is_made B__law_is_made shortB
  by_cases h1 : 1 ≤ (x.length : Int)
  · by_cases h2 : (x.length : Int) ≤ 8
    · simp only [defM, fSeq, fIfS, fAnd, fOr, fNot, fB, fAndV, fOrV, fNotV, fIf, fIsi, tyD, fIsA, bnd, opt, fin, fChain, f2, fN, fCons, fNil, fVar, fC, g1, gI, gIC, fRet, fExpr, fCall, pNil, pDat, pNm, fAsg, gNm, gNo, gCo, gTu, fEnd, fFor, fSq, seqD, fSg, fLcD, fLc, fYes, fM1, gSS, fM0, fSl, fNo, fSome, rd, fNmB, fNm2, fNmI, fNmT, fNmJ, fNmS, sc, isSc, fSetI, fApp, fOwn, fLstF, fCatF, fRetO, fPar, fParO, fTru, truB, List.cons_append, List.nil_append, List.getElem?_cons_zero, List.getElem?_cons_succ, List.set_cons_zero, List.set_cons_succ, List.replicate, List.length_cons, List.length_nil, Nat.reduceAdd, Nat.reduceSub, if_true, if_false, Bool.false_eq_true, ↓reduceIte, List.append_nil, gTup0, gTup1, gTup2, gTup3, gLst0, gLst1, gLst2, gLst3, gLst4, gLst5, gLst10, isa_tt, isa_ts, isa_ti, isa_tn, isa_tl, isa_ss, isa_st, isa_si, isa_sn, isa_ii, isa_ib, isa_bi, isa_bb, isa_is, isa_in, isa_it, hl, h1, h2, decide_true, if_pos hs, hc, hE, List.take_length, Bool.true_and]
    · simp only [defM, fSeq, fIfS, fAnd, fOr, fNot, fB, fAndV, fOrV, fNotV, fIf, fIsi, tyD, fIsA, bnd, opt, fin, fChain, f2, fN, fCons, fNil, fVar, fC, g1, gI, gIC, fRet, fExpr, fCall, pNil, pDat, pNm, fAsg, gNm, gNo, gCo, gTu, fEnd, fFor, fSq, seqD, fSg, fLcD, fLc, fYes, fM1, gSS, fM0, fSl, fNo, fSome, rd, fNmB, fNm2, fNmI, fNmT, fNmJ, fNmS, sc, isSc, fSetI, fApp, fOwn, fLstF, fCatF, fRetO, fPar, fParO, fTru, truB, List.cons_append, List.nil_append, List.getElem?_cons_zero, List.getElem?_cons_succ, List.set_cons_zero, List.set_cons_succ, List.replicate, List.length_cons, List.length_nil, Nat.reduceAdd, Nat.reduceSub, if_true, if_false, Bool.false_eq_true, ↓reduceIte, List.append_nil, gTup0, gTup1, gTup2, gTup3, gLst0, gLst1, gLst2, gLst3, gLst4, gLst5, gLst10, isa_tt, isa_ts, isa_ti, isa_tn, isa_tl, isa_ss, isa_st, isa_si, isa_sn, isa_ii, isa_ib, isa_bi, isa_bb, isa_is, isa_in, isa_it, hl, h1, h2, decide_true, decide_false, List.take_length, Bool.true_and, Bool.false_and]
  · simp only [defM, fSeq, fIfS, fAnd, fOr, fNot, fB, fAndV, fOrV, fNotV, fIf, fIsi, tyD, fIsA, bnd, opt, fin, fChain, f2, fN, fCons, fNil, fVar, fC, g1, gI, gIC, fRet, fExpr, fCall, pNil, pDat, pNm, fAsg, gNm, gNo, gCo, gTu, fEnd, fFor, fSq, seqD, fSg, fLcD, fLc, fYes, fM1, gSS, fM0, fSl, fNo, fSome, rd, fNmB, fNm2, fNmI, fNmT, fNmJ, fNmS, sc, isSc, fSetI, fApp, fOwn, fLstF, fCatF, fRetO, fPar, fParO, fTru, truB, List.cons_append, List.nil_append, List.getElem?_cons_zero, List.getElem?_cons_succ, List.set_cons_zero, List.set_cons_succ, List.replicate, List.length_cons, List.length_nil, Nat.reduceAdd, Nat.reduceSub, if_true, if_false, Bool.false_eq_true, ↓reduceIte, List.append_nil, gTup0, gTup1, gTup2, gTup3, gLst0, gLst1, gLst2, gLst3, gLst4, gLst5, gLst10, isa_tt, isa_ts, isa_ti, isa_tn, isa_tl, isa_ss, isa_st, isa_si, isa_sn, isa_ii, isa_ib, isa_bi, isa_bb, isa_is, isa_in, isa_it, hl, h1, decide_false, List.take_length, Bool.false_and]
theorem e_lname {d : PyData} (h : Sm d) (μ : Mu) : m__law_is_name [.dat d] μ = some (.bool (nameD d), μ) := by
  have key : m__law_is_made [.dat d, .dat (.str "abcdefghijklmnopqrstuvwxyz")] μ = some (.bool (nameD d), μ) := by
    cases d with
    | str x => exact e_lmade h _ μ
    | none => exact lmade_not rfl _ μ
    | bool _ => exact lmade_not rfl _ μ
    | int _ => exact lmade_not rfl _ μ
    | list _ => exact lmade_not rfl _ μ
    | tuple _ => exact lmade_not rfl _ μ
    | dict _ => exact lmade_not rfl _ μ
  unfold m__law_is_name B__law_is_name
  simp only [defM, fSeq, fIfS, fAnd, fOr, fNot, fB, fAndV, fOrV, fNotV, fIf, fIsi, tyD, fIsA, bnd, opt, fin, fChain, f2, fN, fCons, fNil, fVar, fC, g1, gI, gIC, fRet, fExpr, fCall, pNil, pDat, pNm, fAsg, gNm, gNo, gCo, gTu, fEnd, fFor, fSq, seqD, fSg, fLcD, fLc, fYes, fM1, gSS, fM0, fSl, fNo, fSome, rd, fNmB, fNm2, fNmI, fNmT, fNmJ, fNmS, sc, isSc, fSetI, fApp, fOwn, fLstF, fCatF, fRetO, fPar, fParO, fTru, truB, List.cons_append, List.nil_append, List.getElem?_cons_zero, List.getElem?_cons_succ, List.set_cons_zero, List.set_cons_succ, List.replicate, List.length_cons, List.length_nil, Nat.reduceAdd, Nat.reduceSub, if_true, if_false, Bool.false_eq_true, ↓reduceIte, List.append_nil, gTup0, gTup1, gTup2, gTup3, gLst0, gLst1, gLst2, gLst3, gLst4, gLst5, gLst10, isa_tt, isa_ts, isa_ti, isa_tn, isa_tl, isa_ss, isa_st, isa_si, isa_sn, isa_ii, isa_ib, isa_bi, isa_bb, isa_is, isa_in, isa_it, key, List.take_length]
theorem e_lword {x : Str} (h : Sm (.str x)) (μ : Mu) : m__law_is_word [.dat (.str x)] μ = some (.bool (wordB x), μ) := by
  unfold m__law_is_word B__law_is_word wordB
  simp only [defM, fSeq, fIfS, fAnd, fOr, fNot, fB, fAndV, fOrV, fNotV, fIf, fIsi, tyD, fIsA, bnd, opt, fin, fChain, f2, fN, fCons, fNil, fVar, fC, g1, gI, gIC, fRet, fExpr, fCall, pNil, pDat, pNm, fAsg, gNm, gNo, gCo, gTu, fEnd, fFor, fSq, seqD, fSg, fLcD, fLc, fYes, fM1, gSS, fM0, fSl, fNo, fSome, rd, fNmB, fNm2, fNmI, fNmT, fNmJ, fNmS, sc, isSc, fSetI, fApp, fOwn, fLstF, fCatF, fRetO, fPar, fParO, fTru, truB, List.cons_append, List.nil_append, List.getElem?_cons_zero, List.getElem?_cons_succ, List.set_cons_zero, List.set_cons_succ, List.replicate, List.length_cons, List.length_nil, Nat.reduceAdd, Nat.reduceSub, if_true, if_false, Bool.false_eq_true, ↓reduceIte, List.append_nil, gTup0, gTup1, gTup2, gTup3, gLst0, gLst1, gLst2, gLst3, gLst4, gLst5, gLst10, isa_tt, isa_ts, isa_ti, isa_tn, isa_tl, isa_ss, isa_st, isa_si, isa_sn, isa_ii, isa_ib, isa_bi, isa_bb, isa_is, isa_in, isa_it, e_lmade h, List.take_length]
theorem sl_ok {x : Str} (hx : x.length ≤ 200000) (lo hi : Option Int) : slD (.str x) lo hi = some (.str (cutS x lo hi)) := by
  show (if x.length ≤ sizeLine then _ else _) = _
  rw [if_pos (line_ge hx)]
theorem gN2 {x y : Str} : gNe (.str x) (.str y) = some (.bool (!decide (x = y))) := rfl
theorem gE2 {x y : Str} : gEq (.str x) (.str y) = some (.bool (decide (x = y))) := rfl
def oS : Option Str → PyData
  | none => .none
  | some x => .str x
theorem e_lnamein {p : Str} (h : Sm (.str p)) (μ : Mu) : m__law_name_in [.dat (.str p)] μ = some (oS (nameO p), μ) := by
  have hx := h.len
  have t1 : tl ("{" : Str) = [123] := by decide +kernel
  have t2 : tl ("}" : Str) = [125] := by decide +kernel
  have s1 := hd_cut (x := p) t1
  have s2 := ls_cut (x := p) t2
  have c0 := sl_ok hx none (some 1)
  have c1 := sl_ok hx (some (-1)) none
  have c2 := sl_ok hx (some (-3)) none
  have c3 := sl_ok hx (some 1) (some (-3))
  have c4 := sl_ok hx (some 1) (some (-1))
  cases e : innerL (tl p) with
  | none =>
    have hno : nameO p = none := by unfold nameO; rw [e]
    rw [hno]
    have hh := inner_hd e
    by_cases d1 : (tl p).head? = some 123
    · have d2 : ¬ (tl p).getLast? = some 125 := fun z => hh ⟨d1, z⟩
      rw [decide_eq_true d1] at s1
      rw [decide_eq_false d2] at s2
      unfold m__law_name_in B__law_name_in
      simp only [defM, fSeq, fIfS, fAnd, fOr, fNot, fB, fAndV, fOrV, fNotV, fIf, fIsi, tyD, fIsA, bnd, opt, fin, fChain, f2, fN, fCons, fNil, fVar, fC, g1, gI, gIC, fRet, fExpr, fCall, pNil, pDat, pNm, fAsg, gNm, gNo, gCo, gTu, fEnd, fFor, fSq, seqD, fSg, fLcD, fLc, fYes, fM1, gSS, fM0, fSl, fNo, fSome, rd, fNmB, fNm2, fNmI, fNmT, fNmJ, fNmS, sc, isSc, fSetI, fApp, fOwn, fLstF, fCatF, fRetO, fPar, fParO, fTru, truB, List.cons_append, List.nil_append, List.getElem?_cons_zero, List.getElem?_cons_succ, List.set_cons_zero, List.set_cons_succ, List.replicate, List.length_cons, List.length_nil, Nat.reduceAdd, Nat.reduceSub, if_true, if_false, Bool.false_eq_true, ↓reduceIte, List.append_nil, gTup0, gTup1, gTup2, gTup3, gLst0, gLst1, gLst2, gLst3, gLst4, gLst5, gLst10, isa_tt, isa_ts, isa_ti, isa_tn, isa_tl, isa_ss, isa_st, isa_si, isa_sn, isa_ii, isa_ib, isa_bi, isa_bb, isa_is, isa_in, isa_it, c0, gN2, s1, f1I, c1, s2, Bool.not_true, Bool.not_false, List.take_length, oS]
    · rw [decide_eq_false d1] at s1
      unfold m__law_name_in B__law_name_in
      simp only [defM, fSeq, fIfS, fAnd, fOr, fNot, fB, fAndV, fOrV, fNotV, fIf, fIsi, tyD, fIsA, bnd, opt, fin, fChain, f2, fN, fCons, fNil, fVar, fC, g1, gI, gIC, fRet, fExpr, fCall, pNil, pDat, pNm, fAsg, gNm, gNo, gCo, gTu, fEnd, fFor, fSq, seqD, fSg, fLcD, fLc, fYes, fM1, gSS, fM0, fSl, fNo, fSome, rd, fNmB, fNm2, fNmI, fNmT, fNmJ, fNmS, sc, isSc, fSetI, fApp, fOwn, fLstF, fCatF, fRetO, fPar, fParO, fTru, truB, List.cons_append, List.nil_append, List.getElem?_cons_zero, List.getElem?_cons_succ, List.set_cons_zero, List.set_cons_succ, List.replicate, List.length_cons, List.length_nil, Nat.reduceAdd, Nat.reduceSub, if_true, if_false, Bool.false_eq_true, ↓reduceIte, List.append_nil, gTup0, gTup1, gTup2, gTup3, gLst0, gLst1, gLst2, gLst3, gLst4, gLst5, gLst10, isa_tt, isa_ts, isa_ti, isa_tn, isa_tl, isa_ss, isa_st, isa_si, isa_sn, isa_ii, isa_ib, isa_bi, isa_bb, isa_is, isa_in, isa_it, c0, gN2, s1, Bool.not_true, Bool.not_false, List.take_length, oS]
  | some m =>
    have ep := inner_some e
    obtain ⟨d1, d2⟩ := inner_ends e
    rw [decide_eq_true d1] at s1
    rw [decide_eq_true d2] at s2
    obtain ⟨m1, m2⟩ := inner_sm h e
    have hcs := cut_suf ep
    have hn := e_lname m2 μ
    have hno : nameO p = if nameB (mkS (sufL m)) = true then some (mkS (sufL m)) else none := by unfold nameO; rw [e]
    have hnd : nameD (.str (mkS (sufL m))) = nameB (mkS (sufL m)) := rfl
    rw [hnd] at hn
    by_cases d3 : cutS p (some (-3)) none = ":n}"
    · rw [if_pos d3] at hcs
      cases b : nameB (mkS (sufL m)) with
      | true =>
        rw [b] at hn hno
        rw [hno]
        unfold m__law_name_in B__law_name_in
        simp only [defM, fSeq, fIfS, fAnd, fOr, fNot, fB, fAndV, fOrV, fNotV, fIf, fIsi, tyD, fIsA, bnd, opt, fin, fChain, f2, fN, fCons, fNil, fVar, fC, g1, gI, gIC, fRet, fExpr, fCall, pNil, pDat, pNm, fAsg, gNm, gNo, gCo, gTu, fEnd, fFor, fSq, seqD, fSg, fLcD, fLc, fYes, fM1, gSS, fM0, fSl, fNo, fSome, rd, fNmB, fNm2, fNmI, fNmT, fNmJ, fNmS, sc, isSc, fSetI, fApp, fOwn, fLstF, fCatF, fRetO, fPar, fParO, fTru, truB, List.cons_append, List.nil_append, List.getElem?_cons_zero, List.getElem?_cons_succ, List.set_cons_zero, List.set_cons_succ, List.replicate, List.length_cons, List.length_nil, Nat.reduceAdd, Nat.reduceSub, if_true, if_false, Bool.false_eq_true, ↓reduceIte, List.append_nil, gTup0, gTup1, gTup2, gTup3, gLst0, gLst1, gLst2, gLst3, gLst4, gLst5, gLst10, isa_tt, isa_ts, isa_ti, isa_tn, isa_tl, isa_ss, isa_st, isa_si, isa_sn, isa_ii, isa_ib, isa_bi, isa_bb, isa_is, isa_in, isa_it, c0, gN2, gE2, s1, f1I, c1, s2, Bool.not_true, c2, d3, decide_true, c3, hcs, hn, List.take_length, oS]
      | false =>
        rw [b] at hn hno
        rw [hno]
        unfold m__law_name_in B__law_name_in
        simp only [defM, fSeq, fIfS, fAnd, fOr, fNot, fB, fAndV, fOrV, fNotV, fIf, fIsi, tyD, fIsA, bnd, opt, fin, fChain, f2, fN, fCons, fNil, fVar, fC, g1, gI, gIC, fRet, fExpr, fCall, pNil, pDat, pNm, fAsg, gNm, gNo, gCo, gTu, fEnd, fFor, fSq, seqD, fSg, fLcD, fLc, fYes, fM1, gSS, fM0, fSl, fNo, fSome, rd, fNmB, fNm2, fNmI, fNmT, fNmJ, fNmS, sc, isSc, fSetI, fApp, fOwn, fLstF, fCatF, fRetO, fPar, fParO, fTru, truB, List.cons_append, List.nil_append, List.getElem?_cons_zero, List.getElem?_cons_succ, List.set_cons_zero, List.set_cons_succ, List.replicate, List.length_cons, List.length_nil, Nat.reduceAdd, Nat.reduceSub, if_true, if_false, Bool.false_eq_true, ↓reduceIte, List.append_nil, gTup0, gTup1, gTup2, gTup3, gLst0, gLst1, gLst2, gLst3, gLst4, gLst5, gLst10, isa_tt, isa_ts, isa_ti, isa_tn, isa_tl, isa_ss, isa_st, isa_si, isa_sn, isa_ii, isa_ib, isa_bi, isa_bb, isa_is, isa_in, isa_it, c0, gN2, gE2, s1, f1I, c1, s2, Bool.not_true, c2, d3, decide_true, c3, hcs, hn, List.take_length, oS]
    · rw [if_neg d3] at hcs
      cases b : nameB (mkS (sufL m)) with
      | true =>
        rw [b] at hn hno
        rw [hno]
        unfold m__law_name_in B__law_name_in
        simp only [defM, fSeq, fIfS, fAnd, fOr, fNot, fB, fAndV, fOrV, fNotV, fIf, fIsi, tyD, fIsA, bnd, opt, fin, fChain, f2, fN, fCons, fNil, fVar, fC, g1, gI, gIC, fRet, fExpr, fCall, pNil, pDat, pNm, fAsg, gNm, gNo, gCo, gTu, fEnd, fFor, fSq, seqD, fSg, fLcD, fLc, fYes, fM1, gSS, fM0, fSl, fNo, fSome, rd, fNmB, fNm2, fNmI, fNmT, fNmJ, fNmS, sc, isSc, fSetI, fApp, fOwn, fLstF, fCatF, fRetO, fPar, fParO, fTru, truB, List.cons_append, List.nil_append, List.getElem?_cons_zero, List.getElem?_cons_succ, List.set_cons_zero, List.set_cons_succ, List.replicate, List.length_cons, List.length_nil, Nat.reduceAdd, Nat.reduceSub, if_true, if_false, Bool.false_eq_true, ↓reduceIte, List.append_nil, gTup0, gTup1, gTup2, gTup3, gLst0, gLst1, gLst2, gLst3, gLst4, gLst5, gLst10, isa_tt, isa_ts, isa_ti, isa_tn, isa_tl, isa_ss, isa_st, isa_si, isa_sn, isa_ii, isa_ib, isa_bi, isa_bb, isa_is, isa_in, isa_it, c0, gN2, gE2, s1, f1I, c1, s2, Bool.not_true, c2, d3, decide_false, c4, hcs, hn, List.take_length, oS]
      | false =>
        rw [b] at hn hno
        rw [hno]
        unfold m__law_name_in B__law_name_in
        simp only [defM, fSeq, fIfS, fAnd, fOr, fNot, fB, fAndV, fOrV, fNotV, fIf, fIsi, tyD, fIsA, bnd, opt, fin, fChain, f2, fN, fCons, fNil, fVar, fC, g1, gI, gIC, fRet, fExpr, fCall, pNil, pDat, pNm, fAsg, gNm, gNo, gCo, gTu, fEnd, fFor, fSq, seqD, fSg, fLcD, fLc, fYes, fM1, gSS, fM0, fSl, fNo, fSome, rd, fNmB, fNm2, fNmI, fNmT, fNmJ, fNmS, sc, isSc, fSetI, fApp, fOwn, fLstF, fCatF, fRetO, fPar, fParO, fTru, truB, List.cons_append, List.nil_append, List.getElem?_cons_zero, List.getElem?_cons_succ, List.set_cons_zero, List.set_cons_succ, List.replicate, List.length_cons, List.length_nil, Nat.reduceAdd, Nat.reduceSub, if_true, if_false, Bool.false_eq_true, ↓reduceIte, List.append_nil, gTup0, gTup1, gTup2, gTup3, gLst0, gLst1, gLst2, gLst3, gLst4, gLst5, gLst10, isa_tt, isa_ts, isa_ti, isa_tn, isa_tl, isa_ss, isa_st, isa_si, isa_sn, isa_ii, isa_ib, isa_bi, isa_bb, isa_is, isa_in, isa_it, c0, gN2, gE2, s1, f1I, c1, s2, Bool.not_true, c2, d3, decide_false, c4, hcs, hn, List.take_length, oS]
theorem sp_all {x : Str} {l : List Nat} (hx : x.length ≤ 200000) (el : tl x = 47 :: l) : splitD x (.str "/") = some (.list (.str "" :: (pcs l).map PyData.str)) := by
  show (if (("/" : Str).length == 0) = false ∧ x.length + 2 ≤ sizeLine then _ else _) = _
  rw [if_pos ⟨by decide +kernel, Nat.le_trans (show x.length + 2 ≤ 200002 by omega) (by decide)⟩, split_all el]; rfl
theorem cut_tail {x : PyData} {l : List PyData} : slD (.list (x :: l)) (some 1) none = some (.list l) := by
  show some (PyData.list (DL.cutD (x :: l) (some 1) none)) = _
  unfold DL.cutD
  have e1 : HT.sIx (x :: l).length 0 (some 1) = min 1 (x :: l).length := HT.sIx_nat _ _ 1
  rw [HT.sIx_none, e1, List.length_cons, Nat.min_eq_left (by omega)]
  show some (PyData.list (l.take (l.length + 1 - 1))) = _
  rw [Nat.add_sub_cancel, List.take_length]
theorem pcs_len {x : Str} {l : List Nat} (hx : x.length ≤ 200000) (el : tl x = 47 :: l) : (pcs l).length ≤ 200000 := by
  unfold pcs
  have := spl_cnt l []
  rw [List.length_map]
  rw [len_tl, el, List.length_cons] at hx
  omega
theorem beq_eqT {d : PyData} (hs : isaD "str" d = false) : gEqT d (.str "/") = some (.bool false) := by
  rw [gET]
  cases d <;> first | rfl | cases hs
theorem lpath_not {d : PyData} (hs : isaD "str" d = false) (μ : Mu) : m__law_is_path [.dat d] μ = some (.bool false, μ) := by
  unfold m__law_is_path B__law_is_path
  simp only [defM, fSeq, fIfS, fAnd, fOr, fNot, fB, fAndV, fOrV, fNotV, fIf, fIsi, tyD, fIsA, bnd, opt, fin, fChain, f2, fN, fCons, fNil, fVar, fC, g1, gI, gIC, fRet, fExpr, fCall, pNil, pDat, pNm, fAsg, gNm, gNo, gCo, gTu, fEnd, fFor, fSq, seqD, fSg, fLcD, fLc, fYes, fM1, gSS, fM0, fSl, fNo, fSome, rd, fNmB, fNm2, fNmI, fNmT, fNmJ, fNmS, sc, isSc, fSetI, fApp, fOwn, fLstF, fCatF, fRetO, fPar, fParO, fTru, truB, List.cons_append, List.nil_append, List.getElem?_cons_zero, List.getElem?_cons_succ, List.set_cons_zero, List.set_cons_succ, List.replicate, List.length_cons, List.length_nil, Nat.reduceAdd, Nat.reduceSub, if_true, if_false, Bool.false_eq_true, ↓reduceIte, List.append_nil, gTup0, gTup1, gTup2, gTup3, gLst0, gLst1, gLst2, gLst3, gLst4, gLst5, gLst10, isa_tt, isa_ts, isa_ti, isa_tn, isa_tl, isa_ss, isa_st, isa_si, isa_sn, isa_ii, isa_ib, isa_bi, isa_bb, isa_is, isa_in, isa_it, beq_eqT hs, hs, Bool.not_false, List.take_length]
theorem lpat_not {d : PyData} (hs : isaD "str" d = false) (μ : Mu) : m__law_is_pattern [.dat d] μ = some (.bool false, μ) := by
  unfold m__law_is_pattern B__law_is_pattern
  simp only [defM, fSeq, fIfS, fAnd, fOr, fNot, fB, fAndV, fOrV, fNotV, fIf, fIsi, tyD, fIsA, bnd, opt, fin, fChain, f2, fN, fCons, fNil, fVar, fC, g1, gI, gIC, fRet, fExpr, fCall, pNil, pDat, pNm, fAsg, gNm, gNo, gCo, gTu, fEnd, fFor, fSq, seqD, fSg, fLcD, fLc, fYes, fM1, gSS, fM0, fSl, fNo, fSome, rd, fNmB, fNm2, fNmI, fNmT, fNmJ, fNmS, sc, isSc, fSetI, fApp, fOwn, fLstF, fCatF, fRetO, fPar, fParO, fTru, truB, List.cons_append, List.nil_append, List.getElem?_cons_zero, List.getElem?_cons_succ, List.set_cons_zero, List.set_cons_succ, List.replicate, List.length_cons, List.length_nil, Nat.reduceAdd, Nat.reduceSub, if_true, if_false, Bool.false_eq_true, ↓reduceIte, List.append_nil, gTup0, gTup1, gTup2, gTup3, gLst0, gLst1, gLst2, gLst3, gLst4, gLst5, gLst10, isa_tt, isa_ts, isa_ti, isa_tn, isa_tl, isa_ss, isa_st, isa_si, isa_sn, isa_ii, isa_ib, isa_bi, isa_bb, isa_is, isa_in, isa_it, beq_eqT hs, hs, Bool.not_false, List.take_length]
theorem sl_ne {x : Str} {l : List Nat} (el : tl x = 47 :: l) (hl : ¬ l = []) : gEqT (.str x) (.str "/") = some (.bool false) := by
  show some (PyData.bool (decide (x = "/"))) = _
  rw [decide_eq_false fun z => hl (by have := congrArg tl z; rw [el, tl_sl] at this; injection this)]
theorem sl_hd {x : Str} (h1 : ¬ (tl x).head? = some 47) : gEqT (.str x) (.str "/") = some (.bool false) := by
  show some (PyData.bool (decide (x = "/"))) = _
  rw [decide_eq_false fun z => h1 (by rw [z, tl_sl]; rfl)]
theorem sl_eq {x : Str} (el : tl x = 47 :: []) : gEqT (.str x) (.str "/") = some (.bool true) := by
  have : x = "/" := ext_tl (by rw [el, tl_sl])
  subst this; rfl
theorem all_not (ps : List Str) (hl : ∀ p ∈ ps, Sm (.str p)) : gEq (.list ((ps.filter fun p => !wordB p).map PyData.str)) (.list []) = some (.bool (ps.all wordB)) := by
  have h1 := nil_eq (L := (ps.filter fun p => !wordB p).map PyData.str) (lay_of fun y hy => by
    obtain ⟨p, hp, rfl⟩ := List.mem_map.mp hy
    exact str_lay (hl p (List.mem_filter.mp hp).1)) (dep_of fun y hy => by
    obtain ⟨p, hp, rfl⟩ := List.mem_map.mp hy
    exact Nat.zero_le _)
  rw [h1]
  congr 2
  rw [Bool.eq_iff_iff, List.isEmpty_iff, List.map_eq_nil_iff, List.filter_eq_nil_iff, List.all_eq_true]
  simp
theorem e_lpath {d : PyData} (h : Sm d) (μ : Mu) : m__law_is_path [.dat d] μ = some (.bool (pathD d), μ) := by
  cases d with
  | str x =>
    have hx := h.len
    have s1 := hd_cut (x := x) tl_sl
    have c0 := sl_ok hx none (some 1)
    show _ = some (PyData.bool (pathL (tl x)), μ)
    by_cases h1 : (tl x).head? = some 47
    · obtain ⟨l, el⟩ := head_c h1
      rw [decide_eq_true h1] at s1
      have hsm := h.pcs el
      rw [el, pathL_c]
      by_cases hl : l = []
      · subst hl
        rw [if_pos rfl]
        unfold m__law_is_path B__law_is_path
        simp only [defM, fSeq, fIfS, fAnd, fOr, fNot, fB, fAndV, fOrV, fNotV, fIf, fIsi, tyD, fIsA, bnd, opt, fin, fChain, f2, fN, fCons, fNil, fVar, fC, g1, gI, gIC, fRet, fExpr, fCall, pNil, pDat, pNm, fAsg, gNm, gNo, gCo, gTu, fEnd, fFor, fSq, seqD, fSg, fLcD, fLc, fYes, fM1, gSS, fM0, fSl, fNo, fSome, rd, fNmB, fNm2, fNmI, fNmT, fNmJ, fNmS, sc, isSc, fSetI, fApp, fOwn, fLstF, fCatF, fRetO, fPar, fParO, fTru, truB, List.cons_append, List.nil_append, List.getElem?_cons_zero, List.getElem?_cons_succ, List.set_cons_zero, List.set_cons_succ, List.replicate, List.length_cons, List.length_nil, Nat.reduceAdd, Nat.reduceSub, if_true, if_false, Bool.false_eq_true, ↓reduceIte, List.append_nil, gTup0, gTup1, gTup2, gTup3, gLst0, gLst1, gLst2, gLst3, gLst4, gLst5, gLst10, isa_tt, isa_ts, isa_ti, isa_tn, isa_tl, isa_ss, isa_st, isa_si, isa_sn, isa_ii, isa_ib, isa_bi, isa_bb, isa_is, isa_in, isa_it, sl_eq el, List.take_length]
      · have hsp := sp_all hx el
        have hne := sl_ne el hl
        have hz : (pcs l).length ≤ sizeLine := line_ge (pcs_len hx el)
        have ha := all_not (pcs l) hsm
        rw [if_neg hl]
        have hc : lcF (gNm 2) (fNot (fB (fCall m__law_is_word (pNm 2 pNil)))) (fVar 2) (wipeR [Sl.dat (.str x), Sl.dat (.list ((pcs l).map PyData.str)), Sl.un] [2]) ((pcs l).map PyData.str) μ = some (((pcs l).filter fun p => !wordB p).map PyData.str, μ) :=
          lc_filt (pcs l) fun p hp => ⟨_, rfl, by simp only [defM, fSeq, fIfS, fAnd, fOr, fNot, fB, fAndV, fOrV, fNotV, fIf, fIsi, tyD, fIsA, bnd, opt, fin, fChain, f2, fN, fCons, fNil, fVar, fC, g1, gI, gIC, fRet, fExpr, fCall, pNil, pDat, pNm, fAsg, gNm, gNo, gCo, gTu, fEnd, fFor, fSq, seqD, fSg, fLcD, fLc, fYes, fM1, gSS, fM0, fSl, fNo, fSome, rd, fNmB, fNm2, fNmI, fNmT, fNmJ, fNmS, sc, isSc, fSetI, fApp, fOwn, fLstF, fCatF, fRetO, fPar, fParO, fTru, truB, List.cons_append, List.nil_append, List.getElem?_cons_zero, List.getElem?_cons_succ, List.set_cons_zero, List.set_cons_succ, List.replicate, List.length_cons, List.length_nil, Nat.reduceAdd, Nat.reduceSub, if_true, if_false, Bool.false_eq_true, ↓reduceIte, List.append_nil, gTup0, gTup1, gTup2, gTup3, gLst0, gLst1, gLst2, gLst3, gLst4, gLst5, gLst10, isa_tt, isa_ts, isa_ti, isa_tn, isa_tl, isa_ss, isa_st, isa_si, isa_sn, isa_ii, isa_ib, isa_bi, isa_bb, isa_is, isa_in, isa_it, wipeR, e_lword (hsm p hp)], fun _ => rfl⟩
        by_cases h5 : (pcs l).length ≤ 5
        · have i5 : ((pcs l).length : Int) ≤ 5 := by omega
          unfold m__law_is_path B__law_is_path
          simp only [defM, fSeq, fIfS, fAnd, fOr, fNot, fB, fAndV, fOrV, fNotV, fIf, fIsi, tyD, fIsA, bnd, opt, fin, fChain, f2, fN, fCons, fNil, fVar, fC, g1, gI, gIC, fRet, fExpr, fCall, pNil, pDat, pNm, fAsg, gNm, gNo, gCo, gTu, fEnd, fFor, fSq, seqD, fSg, fLcD, fLc, fYes, fM1, gSS, fM0, fSl, fNo, fSome, rd, fNmB, fNm2, fNmI, fNmT, fNmJ, fNmS, sc, isSc, fSetI, fApp, fOwn, fLstF, fCatF, fRetO, fPar, fParO, fTru, truB, List.cons_append, List.nil_append, List.getElem?_cons_zero, List.getElem?_cons_succ, List.set_cons_zero, List.set_cons_succ, List.replicate, List.length_cons, List.length_nil, Nat.reduceAdd, Nat.reduceSub, if_true, if_false, Bool.false_eq_true, ↓reduceIte, List.append_nil, gTup0, gTup1, gTup2, gTup3, gLst0, gLst1, gLst2, gLst3, gLst4, gLst5, gLst10, isa_tt, isa_ts, isa_ti, isa_tn, isa_tl, isa_ss, isa_st, isa_si, isa_sn, isa_ii, isa_ib, isa_bi, isa_bb, isa_is, isa_in, isa_it, hne, c0, gN2, s1, hsp, cut_tail, lenD, List.length_map, i5, h5, decide_true, Bool.not_true, if_pos hz, hc, ha, List.take_length, Bool.true_and]
        · have i5 : ¬ ((pcs l).length : Int) ≤ 5 := by omega
          unfold m__law_is_path B__law_is_path
          simp only [defM, fSeq, fIfS, fAnd, fOr, fNot, fB, fAndV, fOrV, fNotV, fIf, fIsi, tyD, fIsA, bnd, opt, fin, fChain, f2, fN, fCons, fNil, fVar, fC, g1, gI, gIC, fRet, fExpr, fCall, pNil, pDat, pNm, fAsg, gNm, gNo, gCo, gTu, fEnd, fFor, fSq, seqD, fSg, fLcD, fLc, fYes, fM1, gSS, fM0, fSl, fNo, fSome, rd, fNmB, fNm2, fNmI, fNmT, fNmJ, fNmS, sc, isSc, fSetI, fApp, fOwn, fLstF, fCatF, fRetO, fPar, fParO, fTru, truB, List.cons_append, List.nil_append, List.getElem?_cons_zero, List.getElem?_cons_succ, List.set_cons_zero, List.set_cons_succ, List.replicate, List.length_cons, List.length_nil, Nat.reduceAdd, Nat.reduceSub, if_true, if_false, Bool.false_eq_true, ↓reduceIte, List.append_nil, gTup0, gTup1, gTup2, gTup3, gLst0, gLst1, gLst2, gLst3, gLst4, gLst5, gLst10, isa_tt, isa_ts, isa_ti, isa_tn, isa_tl, isa_ss, isa_st, isa_si, isa_sn, isa_ii, isa_ib, isa_bi, isa_bb, isa_is, isa_in, isa_it, hne, c0, gN2, s1, hsp, cut_tail, lenD, List.length_map, i5, h5, decide_false, Bool.not_true, List.take_length, Bool.false_and]
    · rw [decide_eq_false h1] at s1
      rw [pathL_no h1]
      unfold m__law_is_path B__law_is_path
      simp only [defM, fSeq, fIfS, fAnd, fOr, fNot, fB, fAndV, fOrV, fNotV, fIf, fIsi, tyD, fIsA, bnd, opt, fin, fChain, f2, fN, fCons, fNil, fVar, fC, g1, gI, gIC, fRet, fExpr, fCall, pNil, pDat, pNm, fAsg, gNm, gNo, gCo, gTu, fEnd, fFor, fSq, seqD, fSg, fLcD, fLc, fYes, fM1, gSS, fM0, fSl, fNo, fSome, rd, fNmB, fNm2, fNmI, fNmT, fNmJ, fNmS, sc, isSc, fSetI, fApp, fOwn, fLstF, fCatF, fRetO, fPar, fParO, fTru, truB, List.cons_append, List.nil_append, List.getElem?_cons_zero, List.getElem?_cons_succ, List.set_cons_zero, List.set_cons_succ, List.replicate, List.length_cons, List.length_nil, Nat.reduceAdd, Nat.reduceSub, if_true, if_false, Bool.false_eq_true, ↓reduceIte, List.append_nil, gTup0, gTup1, gTup2, gTup3, gLst0, gLst1, gLst2, gLst3, gLst4, gLst5, gLst10, isa_tt, isa_ts, isa_ti, isa_tn, isa_tl, isa_ss, isa_st, isa_si, isa_sn, isa_ii, isa_ib, isa_bi, isa_bb, isa_is, isa_in, isa_it, sl_hd h1, c0, gN2, s1, Bool.not_true, Bool.not_false, List.take_length]
  | none => exact lpath_not rfl μ
  | bool _ => exact lpath_not rfl μ
  | int _ => exact lpath_not rfl μ
  | list _ => exact lpath_not rfl μ
  | tuple _ => exact lpath_not rfl μ
  | dict _ => exact lpath_not rfl μ
theorem oS_lay {p : Str} (h : Sm (.str p)) : (oS (nameO p)).canLay0 = true := by
  have := str_lay (sm_hoN h)
  unfold hoN at this
  cases e : nameO p with
  | none => rfl
  | some y => rw [e] at this; exact this
theorem all_okP (ps : List Str) : ((ps.filter fun p => !wordB p).all fun p => (nameO p).isSome) = ps.all okP := by
  induction ps with
  | nil => rfl
  | cons p r ih =>
    rw [List.filter_cons, List.all_cons]
    unfold okP
    cases hw : wordB p with
    | true =>
      rw [if_neg (by decide), ih, Bool.true_or, Bool.true_and]; rfl
    | false =>
      rw [if_pos (by decide), List.all_cons, ih, Bool.false_or]; rfl
theorem e_lpat {d : PyData} (h : Sm d) (μ : Mu) : m__law_is_pattern [.dat d] μ = some (.bool (patD d), μ) := by
  cases d with
  | str x =>
    have hx := h.len
    have s1 := hd_cut (x := x) tl_sl
    have c0 := sl_ok hx none (some 1)
    show _ = some (PyData.bool (patL (tl x)), μ)
    by_cases h1 : (tl x).head? = some 47
    · obtain ⟨l, el⟩ := head_c h1
      rw [decide_eq_true h1] at s1
      have hsm := h.pcs el
      rw [el, patL_c]
      by_cases hl : l = []
      · subst hl
        rw [if_pos rfl]
        unfold m__law_is_pattern B__law_is_pattern
        simp only [defM, fSeq, fIfS, fAnd, fOr, fNot, fB, fAndV, fOrV, fNotV, fIf, fIsi, tyD, fIsA, bnd, opt, fin, fChain, f2, fN, fCons, fNil, fVar, fC, g1, gI, gIC, fRet, fExpr, fCall, pNil, pDat, pNm, fAsg, gNm, gNo, gCo, gTu, fEnd, fFor, fSq, seqD, fSg, fLcD, fLc, fYes, fM1, gSS, fM0, fSl, fNo, fSome, rd, fNmB, fNm2, fNmI, fNmT, fNmJ, fNmS, sc, isSc, fSetI, fApp, fOwn, fLstF, fCatF, fRetO, fPar, fParO, fTru, truB, List.cons_append, List.nil_append, List.getElem?_cons_zero, List.getElem?_cons_succ, List.set_cons_zero, List.set_cons_succ, List.replicate, List.length_cons, List.length_nil, Nat.reduceAdd, Nat.reduceSub, if_true, if_false, Bool.false_eq_true, ↓reduceIte, List.append_nil, gTup0, gTup1, gTup2, gTup3, gLst0, gLst1, gLst2, gLst3, gLst4, gLst5, gLst10, isa_tt, isa_ts, isa_ti, isa_tn, isa_tl, isa_ss, isa_st, isa_si, isa_sn, isa_ii, isa_ib, isa_bi, isa_bb, isa_is, isa_in, isa_it, sl_eq el, List.take_length]
      · have hsp := sp_all hx el
        have hne := sl_ne el hl
        have hz : (pcs l).length ≤ sizeLine := line_ge (pcs_len hx el)
        rw [if_neg hl]
        have hc : lcF (gNm 3) (fNot (fB (fCall m__law_is_word (pNm 3 pNil)))) (fCall m__law_name_in (pNm 3 pNil)) (wipeR [Sl.dat (.str x), Sl.dat (.list ((pcs l).map PyData.str)), Sl.un, Sl.un] [3]) ((pcs l).map PyData.str) μ = some (((pcs l).filter fun p => !wordB p).map fun p => oS (nameO p), μ) :=
          lc_filt (f := fun p => oS (nameO p)) (pcs l) fun p hp => ⟨_, rfl, by simp only [defM, fSeq, fIfS, fAnd, fOr, fNot, fB, fAndV, fOrV, fNotV, fIf, fIsi, tyD, fIsA, bnd, opt, fin, fChain, f2, fN, fCons, fNil, fVar, fC, g1, gI, gIC, fRet, fExpr, fCall, pNil, pDat, pNm, fAsg, gNm, gNo, gCo, gTu, fEnd, fFor, fSq, seqD, fSg, fLcD, fLc, fYes, fM1, gSS, fM0, fSl, fNo, fSome, rd, fNmB, fNm2, fNmI, fNmT, fNmJ, fNmS, sc, isSc, fSetI, fApp, fOwn, fLstF, fCatF, fRetO, fPar, fParO, fTru, truB, List.cons_append, List.nil_append, List.getElem?_cons_zero, List.getElem?_cons_succ, List.set_cons_zero, List.set_cons_succ, List.replicate, List.length_cons, List.length_nil, Nat.reduceAdd, Nat.reduceSub, if_true, if_false, Bool.false_eq_true, ↓reduceIte, List.append_nil, gTup0, gTup1, gTup2, gTup3, gLst0, gLst1, gLst2, gLst3, gLst4, gLst5, gLst10, isa_tt, isa_ts, isa_ti, isa_tn, isa_tl, isa_ss, isa_st, isa_si, isa_sn, isa_ii, isa_ib, isa_bi, isa_bb, isa_is, isa_in, isa_it, wipeR, e_lword (hsm p hp)], fun _ => by simp only [defM, fSeq, fIfS, fAnd, fOr, fNot, fB, fAndV, fOrV, fNotV, fIf, fIsi, tyD, fIsA, bnd, opt, fin, fChain, f2, fN, fCons, fNil, fVar, fC, g1, gI, gIC, fRet, fExpr, fCall, pNil, pDat, pNm, fAsg, gNm, gNo, gCo, gTu, fEnd, fFor, fSq, seqD, fSg, fLcD, fLc, fYes, fM1, gSS, fM0, fSl, fNo, fSome, rd, fNmB, fNm2, fNmI, fNmT, fNmJ, fNmS, sc, isSc, fSetI, fApp, fOwn, fLstF, fCatF, fRetO, fPar, fParO, fTru, truB, List.cons_append, List.nil_append, List.getElem?_cons_zero, List.getElem?_cons_succ, List.set_cons_zero, List.set_cons_succ, List.replicate, List.length_cons, List.length_nil, Nat.reduceAdd, Nat.reduceSub, if_true, if_false, Bool.false_eq_true, ↓reduceIte, List.append_nil, gTup0, gTup1, gTup2, gTup3, gLst0, gLst1, gLst2, gLst3, gLst4, gLst5, gLst10, isa_tt, isa_ts, isa_ti, isa_tn, isa_tl, isa_ss, isa_st, isa_si, isa_sn, isa_ii, isa_ib, isa_bi, isa_bb, isa_is, isa_in, isa_it, wipeR, e_lnamein (hsm p hp)]⟩
        have hn := none_in (f := fun p => oS (nameO p)) (ok := fun p => (nameO p).isSome) ((pcs l).filter fun p => !wordB p) (fun p hp => oS_lay (hsm p (List.mem_filter.mp hp).1)) fun p _ => by cases nameO p <;> rfl
        rw [all_okP] at hn
        by_cases h5 : (pcs l).length ≤ 5
        · have i5 : ((pcs l).length : Int) ≤ 5 := by omega
          cases ha : (pcs l).all okP with
          | false =>
            rw [ha] at hn
            unfold m__law_is_pattern B__law_is_pattern
            simp only [defM, fSeq, fIfS, fAnd, fOr, fNot, fB, fAndV, fOrV, fNotV, fIf, fIsi, tyD, fIsA, bnd, opt, fin, fChain, f2, fN, fCons, fNil, fVar, fC, g1, gI, gIC, fRet, fExpr, fCall, pNil, pDat, pNm, fAsg, gNm, gNo, gCo, gTu, fEnd, fFor, fSq, seqD, fSg, fLcD, fLc, fYes, fM1, gSS, fM0, fSl, fNo, fSome, rd, fNmB, fNm2, fNmI, fNmT, fNmJ, fNmS, sc, isSc, fSetI, fApp, fOwn, fLstF, fCatF, fRetO, fPar, fParO, fTru, truB, List.cons_append, List.nil_append, List.getElem?_cons_zero, List.getElem?_cons_succ, List.set_cons_zero, List.set_cons_succ, List.replicate, List.length_cons, List.length_nil, Nat.reduceAdd, Nat.reduceSub, if_true, if_false, Bool.false_eq_true, ↓reduceIte, List.append_nil, gTup0, gTup1, gTup2, gTup3, gLst0, gLst1, gLst2, gLst3, gLst4, gLst5, gLst10, isa_tt, isa_ts, isa_ti, isa_tn, isa_tl, isa_ss, isa_st, isa_si, isa_sn, isa_ii, isa_ib, isa_bi, isa_bb, isa_is, isa_in, isa_it, hne, c0, gN2, s1, hsp, cut_tail, lenD, List.length_map, i5, h5, decide_true, Bool.not_true, if_pos hz, hc, hn, List.take_length, Bool.true_and, Bool.false_and]
          | true =>
            rw [ha] at hn
            have hm : (((pcs l).filter fun p => !wordB p).map fun p => oS (nameO p)) = (nms (pcs l)).map PyData.str := by
              unfold nms
              rw [List.map_map]
              apply List.map_congr_left
              intro p hp
              obtain ⟨hp1, hp2⟩ := List.mem_filter.mp hp
              have ho := List.all_eq_true.mp ha p hp1
              unfold okP at ho
              rw [show wordB p = false by simpa using hp2, Bool.false_or] at ho
              obtain ⟨y, ey⟩ := Option.isSome_iff_exists.mp ho
              show oS (nameO p) = .str (hoN p)
              unfold hoN
              rw [ey]; rfl
            have hnl : (nms (pcs l)).length ≤ 5 := by
              unfold nms
              rw [List.length_map]
              exact Nat.le_trans (List.length_filter_le _ _) h5
            have hu := ls_unl (xs := nms (pcs l)) (by omega)
            rw [hm] at hn hc
            unfold m__law_is_pattern B__law_is_pattern unB
            simp only [defM, fSeq, fIfS, fAnd, fOr, fNot, fB, fAndV, fOrV, fNotV, fIf, fIsi, tyD, fIsA, bnd, opt, fin, fChain, f2, fN, fCons, fNil, fVar, fC, g1, gI, gIC, fRet, fExpr, fCall, pNil, pDat, pNm, fAsg, gNm, gNo, gCo, gTu, fEnd, fFor, fSq, seqD, fSg, fLcD, fLc, fYes, fM1, gSS, fM0, fSl, fNo, fSome, rd, fNmB, fNm2, fNmI, fNmT, fNmJ, fNmS, sc, isSc, fSetI, fApp, fOwn, fLstF, fCatF, fRetO, fPar, fParO, fTru, truB, List.cons_append, List.nil_append, List.getElem?_cons_zero, List.getElem?_cons_succ, List.set_cons_zero, List.set_cons_succ, List.replicate, List.length_cons, List.length_nil, Nat.reduceAdd, Nat.reduceSub, if_true, if_false, Bool.false_eq_true, ↓reduceIte, List.append_nil, gTup0, gTup1, gTup2, gTup3, gLst0, gLst1, gLst2, gLst3, gLst4, gLst5, gLst10, isa_tt, isa_ts, isa_ti, isa_tn, isa_tl, isa_ss, isa_st, isa_si, isa_sn, isa_ii, isa_ib, isa_bi, isa_bb, isa_is, isa_in, isa_it, hne, c0, gN2, s1, hsp, cut_tail, lenD, List.length_map, i5, h5, decide_true, Bool.not_true, if_pos hz, hc, hn, fLenSet, hu, gEq, eqB, List.take_length, Bool.true_and]
        · have i5 : ¬ ((pcs l).length : Int) ≤ 5 := by omega
          unfold m__law_is_pattern B__law_is_pattern
          simp only [defM, fSeq, fIfS, fAnd, fOr, fNot, fB, fAndV, fOrV, fNotV, fIf, fIsi, tyD, fIsA, bnd, opt, fin, fChain, f2, fN, fCons, fNil, fVar, fC, g1, gI, gIC, fRet, fExpr, fCall, pNil, pDat, pNm, fAsg, gNm, gNo, gCo, gTu, fEnd, fFor, fSq, seqD, fSg, fLcD, fLc, fYes, fM1, gSS, fM0, fSl, fNo, fSome, rd, fNmB, fNm2, fNmI, fNmT, fNmJ, fNmS, sc, isSc, fSetI, fApp, fOwn, fLstF, fCatF, fRetO, fPar, fParO, fTru, truB, List.cons_append, List.nil_append, List.getElem?_cons_zero, List.getElem?_cons_succ, List.set_cons_zero, List.set_cons_succ, List.replicate, List.length_cons, List.length_nil, Nat.reduceAdd, Nat.reduceSub, if_true, if_false, Bool.false_eq_true, ↓reduceIte, List.append_nil, gTup0, gTup1, gTup2, gTup3, gLst0, gLst1, gLst2, gLst3, gLst4, gLst5, gLst10, isa_tt, isa_ts, isa_ti, isa_tn, isa_tl, isa_ss, isa_st, isa_si, isa_sn, isa_ii, isa_ib, isa_bi, isa_bb, isa_is, isa_in, isa_it, hne, c0, gN2, s1, hsp, cut_tail, lenD, List.length_map, i5, h5, decide_false, Bool.not_true, if_pos hz, hc, List.take_length, Bool.false_and]
    · rw [decide_eq_false h1] at s1
      rw [patL_no h1]
      unfold m__law_is_pattern B__law_is_pattern
      simp only [defM, fSeq, fIfS, fAnd, fOr, fNot, fB, fAndV, fOrV, fNotV, fIf, fIsi, tyD, fIsA, bnd, opt, fin, fChain, f2, fN, fCons, fNil, fVar, fC, g1, gI, gIC, fRet, fExpr, fCall, pNil, pDat, pNm, fAsg, gNm, gNo, gCo, gTu, fEnd, fFor, fSq, seqD, fSg, fLcD, fLc, fYes, fM1, gSS, fM0, fSl, fNo, fSome, rd, fNmB, fNm2, fNmI, fNmT, fNmJ, fNmS, sc, isSc, fSetI, fApp, fOwn, fLstF, fCatF, fRetO, fPar, fParO, fTru, truB, List.cons_append, List.nil_append, List.getElem?_cons_zero, List.getElem?_cons_succ, List.set_cons_zero, List.set_cons_succ, List.replicate, List.length_cons, List.length_nil, Nat.reduceAdd, Nat.reduceSub, if_true, if_false, Bool.false_eq_true, ↓reduceIte, List.append_nil, gTup0, gTup1, gTup2, gTup3, gLst0, gLst1, gLst2, gLst3, gLst4, gLst5, gLst10, isa_tt, isa_ts, isa_ti, isa_tn, isa_tl, isa_ss, isa_st, isa_si, isa_sn, isa_ii, isa_ib, isa_bi, isa_bb, isa_is, isa_in, isa_it, sl_hd h1, c0, gN2, s1, Bool.not_true, Bool.not_false, List.take_length]
  | none => exact lpat_not rfl μ
  | bool _ => exact lpat_not rfl μ
  | int _ => exact lpat_not rfl μ
  | list _ => exact lpat_not rfl μ
  | tuple _ => exact lpat_not rfl μ
  | dict _ => exact lpat_not rfl μ
def lrB : FS := (fSeq (fIfS (fOr (fNot (fB (fIsA "tuple" (fVar 1)))) (fOr (fB (f2 (fN (fCons (fVar 1) fNil) (g1 lenD)) (fC (.int (3))) gNe)) (fNot (fB (fCall m__law_is_name (pDat (f2 (fVar 1) (fC (.int (0))) ixD) pNil))))))
    (fRet (fC (.bool false)))
    fEnd)
  (fIfS (fOr (fB (f2 (f2 (fVar 1) (fC (.int (1))) ixD) (fN (fCons (fC (.str "get")) (fCons (fC (.str "post")) fNil)) gLst) (gInD true))) (fNot (fB (fCall m__law_is_pattern (pDat (f2 (fVar 1) (fC (.int (2))) ixD) pNil)))))
    (fRet (fC (.bool false)))
    fEnd))
theorem B_lroutes_eq : B__law_are_routes = (fSeq (fIfS (fOr (fNot (fB (fIsA "tuple" (fVar 0)))) (fNot (fB (fChain (fC (.int (1))) (fNmB 0 (g1 lenD)) (fC (.int (10))) (gI fun i j => .bool (decide (i ≤ j))) (gI fun i j => .bool (decide (i ≤ j)))))))
    (fRet (fC (.bool false)))
    fEnd)
  (fSeq (fFor (fSq (fVar 0)) (gNm 1) lrB)
  (fRet (f2 (fLenSet (fLcD (fSq (fVar 0)) (gNm 1) fYes (f2 (fVar 1) (fC (.int (0))) ixD) [1])) (fNmB 0 (g1 lenD)) gEq)))) := rfl
theorem i30 {a b c : PyData} : ixD (.tuple [a, b, c]) (.int 0) = some a := rfl
theorem i31 {a b c : PyData} : ixD (.tuple [a, b, c]) (.int 1) = some b := rfl
theorem i32 {a b c : PyData} : ixD (.tuple [a, b, c]) (.int 2) = some c := rfl
theorem lr_not {T d : PyData} (hs : isaD "tuple" d = false) (μ : Mu) : lrB [.dat T, .dat d] μ = some (.rt (.dat (.bool false)) μ) := by
  unfold lrB
  simp only [defM, fSeq, fIfS, fAnd, fOr, fNot, fB, fAndV, fOrV, fNotV, fIf, fIsi, tyD, fIsA, bnd, opt, fin, fChain, f2, fN, fCons, fNil, fVar, fC, g1, gI, gIC, fRet, fExpr, fCall, pNil, pDat, pNm, fAsg, gNm, gNo, gCo, gTu, fEnd, fFor, fSq, seqD, fSg, fLcD, fLc, fYes, fM1, gSS, fM0, fSl, fNo, fSome, rd, fNmB, fNm2, fNmI, fNmT, fNmJ, fNmS, sc, isSc, fSetI, fApp, fOwn, fLstF, fCatF, fRetO, fPar, fParO, fTru, truB, List.cons_append, List.nil_append, List.getElem?_cons_zero, List.getElem?_cons_succ, List.set_cons_zero, List.set_cons_succ, List.replicate, List.length_cons, List.length_nil, Nat.reduceAdd, Nat.reduceSub, if_true, if_false, Bool.false_eq_true, ↓reduceIte, List.append_nil, gTup0, gTup1, gTup2, gTup3, gLst0, gLst1, gLst2, gLst3, gLst4, gLst5, gLst10, isa_tt, isa_ts, isa_ti, isa_tn, isa_tl, isa_ss, isa_st, isa_si, isa_sn, isa_ii, isa_ib, isa_bi, isa_bb, isa_is, isa_in, isa_it, hs, Bool.not_false]
theorem lr_turn {T d : PyData} (h : Sm d) (μ : Mu) : lrB [.dat T, .dat d] μ = some (if routeD d = true then .nx [.dat T, .dat d] μ else .rt (.dat (.bool false)) μ) := by
  cases d with
  | tuple xs =>
    by_cases hl : xs.length = 3
    · obtain ⟨n, v, p, rfl⟩ := len3 hl
      have hn := h.tup.2 n (by simp)
      have hp := h.tup.2 p (by simp)
      unfold lrB routeD
      cases h1 : nameD n with
      | false => simp only [defM, fSeq, fIfS, fAnd, fOr, fNot, fB, fAndV, fOrV, fNotV, fIf, fIsi, tyD, fIsA, bnd, opt, fin, fChain, f2, fN, fCons, fNil, fVar, fC, g1, gI, gIC, fRet, fExpr, fCall, pNil, pDat, pNm, fAsg, gNm, gNo, gCo, gTu, fEnd, fFor, fSq, seqD, fSg, fLcD, fLc, fYes, fM1, gSS, fM0, fSl, fNo, fSome, rd, fNmB, fNm2, fNmI, fNmT, fNmJ, fNmS, sc, isSc, fSetI, fApp, fOwn, fLstF, fCatF, fRetO, fPar, fParO, fTru, truB, List.cons_append, List.nil_append, List.getElem?_cons_zero, List.getElem?_cons_succ, List.set_cons_zero, List.set_cons_succ, List.replicate, List.length_cons, List.length_nil, Nat.reduceAdd, Nat.reduceSub, if_true, if_false, Bool.false_eq_true, ↓reduceIte, List.append_nil, gTup0, gTup1, gTup2, gTup3, gLst0, gLst1, gLst2, gLst3, gLst4, gLst5, gLst10, isa_tt, isa_ts, isa_ti, isa_tn, isa_tl, isa_ss, isa_st, isa_si, isa_sn, isa_ii, isa_ib, isa_bi, isa_bb, isa_is, isa_in, isa_it, lenD, three', Bool.not_true, Bool.not_false, i30, e_lname hn, h1, Bool.false_and]
      | true =>
        cases h2 : verbD v with
        | false => simp only [defM, fSeq, fIfS, fAnd, fOr, fNot, fB, fAndV, fOrV, fNotV, fIf, fIsi, tyD, fIsA, bnd, opt, fin, fChain, f2, fN, fCons, fNil, fVar, fC, g1, gI, gIC, fRet, fExpr, fCall, pNil, pDat, pNm, fAsg, gNm, gNo, gCo, gTu, fEnd, fFor, fSq, seqD, fSg, fLcD, fLc, fYes, fM1, gSS, fM0, fSl, fNo, fSome, rd, fNmB, fNm2, fNmI, fNmT, fNmJ, fNmS, sc, isSc, fSetI, fApp, fOwn, fLstF, fCatF, fRetO, fPar, fParO, fTru, truB, List.cons_append, List.nil_append, List.getElem?_cons_zero, List.getElem?_cons_succ, List.set_cons_zero, List.set_cons_succ, List.replicate, List.length_cons, List.length_nil, Nat.reduceAdd, Nat.reduceSub, if_true, if_false, Bool.false_eq_true, ↓reduceIte, List.append_nil, gTup0, gTup1, gTup2, gTup3, gLst0, gLst1, gLst2, gLst3, gLst4, gLst5, gLst10, isa_tt, isa_ts, isa_ti, isa_tn, isa_tl, isa_ss, isa_st, isa_si, isa_sn, isa_ii, isa_ib, isa_bi, isa_bb, isa_is, isa_in, isa_it, lenD, three', Bool.not_true, Bool.not_false, i30, i31, e_lname hn, h1, in_v2, h2, Bool.false_and, Bool.true_and]
        | true =>
          cases h3 : patD p with
          | false => simp only [defM, fSeq, fIfS, fAnd, fOr, fNot, fB, fAndV, fOrV, fNotV, fIf, fIsi, tyD, fIsA, bnd, opt, fin, fChain, f2, fN, fCons, fNil, fVar, fC, g1, gI, gIC, fRet, fExpr, fCall, pNil, pDat, pNm, fAsg, gNm, gNo, gCo, gTu, fEnd, fFor, fSq, seqD, fSg, fLcD, fLc, fYes, fM1, gSS, fM0, fSl, fNo, fSome, rd, fNmB, fNm2, fNmI, fNmT, fNmJ, fNmS, sc, isSc, fSetI, fApp, fOwn, fLstF, fCatF, fRetO, fPar, fParO, fTru, truB, List.cons_append, List.nil_append, List.getElem?_cons_zero, List.getElem?_cons_succ, List.set_cons_zero, List.set_cons_succ, List.replicate, List.length_cons, List.length_nil, Nat.reduceAdd, Nat.reduceSub, if_true, if_false, Bool.false_eq_true, ↓reduceIte, List.append_nil, gTup0, gTup1, gTup2, gTup3, gLst0, gLst1, gLst2, gLst3, gLst4, gLst5, gLst10, isa_tt, isa_ts, isa_ti, isa_tn, isa_tl, isa_ss, isa_st, isa_si, isa_sn, isa_ii, isa_ib, isa_bi, isa_bb, isa_is, isa_in, isa_it, lenD, three', Bool.not_true, Bool.not_false, i30, i31, i32, e_lname hn, h1, in_v2, h2, e_lpat hp, h3, Bool.false_and, Bool.true_and]
          | true => simp only [defM, fSeq, fIfS, fAnd, fOr, fNot, fB, fAndV, fOrV, fNotV, fIf, fIsi, tyD, fIsA, bnd, opt, fin, fChain, f2, fN, fCons, fNil, fVar, fC, g1, gI, gIC, fRet, fExpr, fCall, pNil, pDat, pNm, fAsg, gNm, gNo, gCo, gTu, fEnd, fFor, fSq, seqD, fSg, fLcD, fLc, fYes, fM1, gSS, fM0, fSl, fNo, fSome, rd, fNmB, fNm2, fNmI, fNmT, fNmJ, fNmS, sc, isSc, fSetI, fApp, fOwn, fLstF, fCatF, fRetO, fPar, fParO, fTru, truB, List.cons_append, List.nil_append, List.getElem?_cons_zero, List.getElem?_cons_succ, List.set_cons_zero, List.set_cons_succ, List.replicate, List.length_cons, List.length_nil, Nat.reduceAdd, Nat.reduceSub, if_true, if_false, Bool.false_eq_true, ↓reduceIte, List.append_nil, gTup0, gTup1, gTup2, gTup3, gLst0, gLst1, gLst2, gLst3, gLst4, gLst5, gLst10, isa_tt, isa_ts, isa_ti, isa_tn, isa_tl, isa_ss, isa_st, isa_si, isa_sn, isa_ii, isa_ib, isa_bi, isa_bb, isa_is, isa_in, isa_it, lenD, three', Bool.not_true, Bool.not_false, i30, i31, i32, e_lname hn, h1, in_v2, h2, e_lpat hp, h3, Bool.false_and, Bool.true_and]
    · have hq := three hl
      rw [route_len hl]
      generalize hL : xs.length = L at hq
      have hLn : lenD (.tuple xs) = some (.int (L : Nat)) := by rw [← hL]; rfl
      unfold lrB
      simp only [defM, fSeq, fIfS, fAnd, fOr, fNot, fB, fAndV, fOrV, fNotV, fIf, fIsi, tyD, fIsA, bnd, opt, fin, fChain, f2, fN, fCons, fNil, fVar, fC, g1, gI, gIC, fRet, fExpr, fCall, pNil, pDat, pNm, fAsg, gNm, gNo, gCo, gTu, fEnd, fFor, fSq, seqD, fSg, fLcD, fLc, fYes, fM1, gSS, fM0, fSl, fNo, fSome, rd, fNmB, fNm2, fNmI, fNmT, fNmJ, fNmS, sc, isSc, fSetI, fApp, fOwn, fLstF, fCatF, fRetO, fPar, fParO, fTru, truB, List.cons_append, List.nil_append, List.getElem?_cons_zero, List.getElem?_cons_succ, List.set_cons_zero, List.set_cons_succ, List.replicate, List.length_cons, List.length_nil, Nat.reduceAdd, Nat.reduceSub, if_true, if_false, Bool.false_eq_true, ↓reduceIte, List.append_nil, gTup0, gTup1, gTup2, gTup3, gLst0, gLst1, gLst2, gLst3, gLst4, gLst5, gLst10, isa_tt, isa_ts, isa_ti, isa_tn, isa_tl, isa_ss, isa_st, isa_si, isa_sn, isa_ii, isa_ib, isa_bi, isa_bb, isa_is, isa_in, isa_it, hLn, hq, Bool.not_true]
  | none => exact lr_not rfl μ
  | bool _ => exact lr_not rfl μ
  | int _ => exact lr_not rfl μ
  | str _ => exact lr_not rfl μ
  | list _ => exact lr_not rfl μ
  | dict _ => exact lr_not rfl μ
theorem lr_loop {T : PyData} {μ : Mu} : ∀ (xs : List PyData), (∀ x ∈ xs, Sm x) → ∀ s : Sl, ∃ t : Sl, loopF (gNm 1) lrB xs [.dat T, s] μ = some (if xs.all routeD = true then .nx [.dat T, t] μ else .rt (.dat (.bool false)) μ)
  | [], _, s => ⟨s, rfl⟩
  | x :: r, hs, s => by
    obtain ⟨t, e⟩ := lr_loop (T := T) (μ := μ) r (fun y hy => hs y (by simp [hy])) (.dat x)
    refine ⟨t, ?_⟩
    have e1 := lr_turn (T := T) (hs x (by simp)) μ
    show (match lrB [.dat T, .dat x] μ with | some (.nx ρ2 m2) => loopF (gNm 1) lrB r ρ2 m2 | some (.ct ρ2 m2) => loopF (gNm 1) lrB r ρ2 m2 | some (.bk ρ2 m2) => some (.nx ρ2 m2) | some (.rt v m2) => some (.rt v m2) | none => none) = _
    rw [e1, List.all_cons]
    cases hb : routeD x with
    | true =>
      rw [if_pos rfl, Bool.true_and]
      exact e
    | false =>
      rw [if_neg (by decide), Bool.false_and, if_neg (by decide)]
theorem lroutes_not {d : PyData} (hs : isaD "tuple" d = false) (μ : Mu) : m__law_are_routes [.dat d] μ = some (.bool false, μ) := by
  unfold m__law_are_routes B__law_are_routes
  simp only [defM, fSeq, fIfS, fAnd, fOr, fNot, fB, fAndV, fOrV, fNotV, fIf, fIsi, tyD, fIsA, bnd, opt, fin, fChain, f2, fN, fCons, fNil, fVar, fC, g1, gI, gIC, fRet, fExpr, fCall, pNil, pDat, pNm, fAsg, gNm, gNo, gCo, gTu, fEnd, fFor, fSq, seqD, fSg, fLcD, fLc, fYes, fM1, gSS, fM0, fSl, fNo, fSome, rd, fNmB, fNm2, fNmI, fNmT, fNmJ, fNmS, sc, isSc, fSetI, fApp, fOwn, fLstF, fCatF, fRetO, fPar, fParO, fTru, truB, List.cons_append, List.nil_append, List.getElem?_cons_zero, List.getElem?_cons_succ, List.set_cons_zero, List.set_cons_succ, List.replicate, List.length_cons, List.length_nil, Nat.reduceAdd, Nat.reduceSub, if_true, if_false, Bool.false_eq_true, ↓reduceIte, List.append_nil, gTup0, gTup1, gTup2, gTup3, gLst0, gLst1, gLst2, gLst3, gLst4, gLst5, gLst10, isa_tt, isa_ts, isa_ti, isa_tn, isa_tl, isa_ss, isa_st, isa_si, isa_sn, isa_ii, isa_ib, isa_bi, isa_bb, isa_is, isa_in, isa_it, hs, Bool.not_false, List.take_length]
theorem e_lroutes {d : PyData} (h : Sm d) (μ : Mu) : m__law_are_routes [.dat d] μ = some (.bool (routesD d), μ) := by
  cases d with
  | tuple xs =>
    obtain ⟨hl, hs⟩ := h.tup
    have hLn : lenD (.tuple xs) = some (.int (xs.length : Nat)) := rfl
    show _ = some (PyData.bool (decide (1 ≤ (xs.length : Int)) && (decide ((xs.length : Int) ≤ 10) && (xs.all routeD && unB (xs.map nmOf)))), μ)
    by_cases h1 : 1 ≤ (xs.length : Int)
    · by_cases h2 : (xs.length : Int) ≤ 10
      · have hz : xs.length ≤ sizeLine := line_ge (by omega)
        obtain ⟨t, e⟩ := lr_loop (T := .tuple xs) (μ := μ) xs hs .un
        unfold m__law_are_routes
        rw [B_lroutes_eq]
        cases hb : xs.all routeD with
        | false =>
          rw [hb] at e
          simp only [defM, fSeq, fIfS, fAnd, fOr, fNot, fB, fAndV, fOrV, fNotV, fIf, fIsi, tyD, fIsA, bnd, opt, fin, fChain, f2, fN, fCons, fNil, fVar, fC, g1, gI, gIC, fRet, fExpr, fCall, pNil, pDat, pNm, fAsg, gNm, gNo, gCo, gTu, fEnd, fFor, fSq, seqD, fSg, fLcD, fLc, fYes, fM1, gSS, fM0, fSl, fNo, fSome, rd, fNmB, fNm2, fNmI, fNmT, fNmJ, fNmS, sc, isSc, fSetI, fApp, fOwn, fLstF, fCatF, fRetO, fPar, fParO, fTru, truB, List.cons_append, List.nil_append, List.getElem?_cons_zero, List.getElem?_cons_succ, List.set_cons_zero, List.set_cons_succ, List.replicate, List.length_cons, List.length_nil, Nat.reduceAdd, Nat.reduceSub, if_true, if_false, Bool.false_eq_true, ↓reduceIte, List.append_nil, gTup0, gTup1, gTup2, gTup3, gLst0, gLst1, gLst2, gLst3, gLst4, gLst5, gLst10, isa_tt, isa_ts, isa_ti, isa_tn, isa_tl, isa_ss, isa_st, isa_si, isa_sn, isa_ii, isa_ib, isa_bi, isa_bb, isa_is, isa_in, isa_it, hLn, h1, h2, decide_true, Bool.not_true, e, List.take_length, Bool.false_and, Bool.true_and]
        | true =>
          rw [hb] at e
          have hr := List.all_eq_true.mp hb
          have hc2 : lcF (gNm 1) fYes (f2 (fVar 1) (fC (.int (0))) ixD) (wipeR [Sl.dat (.tuple xs), t] [1]) xs μ = some (xs.map fun r => PyData.str (nmOf r), μ) :=
            lcF_all xs fun r hrr => ⟨_, rfl, by simp only [defM, fSeq, fIfS, fAnd, fOr, fNot, fB, fAndV, fOrV, fNotV, fIf, fIsi, tyD, fIsA, bnd, opt, fin, fChain, f2, fN, fCons, fNil, fVar, fC, g1, gI, gIC, fRet, fExpr, fCall, pNil, pDat, pNm, fAsg, gNm, gNo, gCo, gTu, fEnd, fFor, fSq, seqD, fSg, fLcD, fLc, fYes, fM1, gSS, fM0, fSl, fNo, fSome, rd, fNmB, fNm2, fNmI, fNmT, fNmJ, fNmS, sc, isSc, fSetI, fApp, fOwn, fLstF, fCatF, fRetO, fPar, fParO, fTru, truB, List.cons_append, List.nil_append, List.getElem?_cons_zero, List.getElem?_cons_succ, List.set_cons_zero, List.set_cons_succ, List.replicate, List.length_cons, List.length_nil, Nat.reduceAdd, Nat.reduceSub, if_true, if_false, Bool.false_eq_true, ↓reduceIte, List.append_nil, gTup0, gTup1, gTup2, gTup3, gLst0, gLst1, gLst2, gLst3, gLst4, gLst5, gLst10, isa_tt, isa_ts, isa_ti, isa_tn, isa_tl, isa_ss, isa_st, isa_si, isa_sn, isa_ii, isa_ib, isa_bi, isa_bb, isa_is, isa_in, isa_it, wipeR, (route_nm (hr r hrr)).1]⟩
          have hu : lenSetD (.list (xs.map fun r => PyData.str (nmOf r))) = some (.int ((uqs [] (xs.map nmOf)).length : Nat)) := by
            have := ls_unl (xs := xs.map nmOf) (by rw [List.length_map]; omega)
            rw [List.map_map] at this
            exact this
          unfold unB
          simp only [defM, fSeq, fIfS, fAnd, fOr, fNot, fB, fAndV, fOrV, fNotV, fIf, fIsi, tyD, fIsA, bnd, opt, fin, fChain, f2, fN, fCons, fNil, fVar, fC, g1, gI, gIC, fRet, fExpr, fCall, pNil, pDat, pNm, fAsg, gNm, gNo, gCo, gTu, fEnd, fFor, fSq, seqD, fSg, fLcD, fLc, fYes, fM1, gSS, fM0, fSl, fNo, fSome, rd, fNmB, fNm2, fNmI, fNmT, fNmJ, fNmS, sc, isSc, fSetI, fApp, fOwn, fLstF, fCatF, fRetO, fPar, fParO, fTru, truB, List.cons_append, List.nil_append, List.getElem?_cons_zero, List.getElem?_cons_succ, List.set_cons_zero, List.set_cons_succ, List.replicate, List.length_cons, List.length_nil, Nat.reduceAdd, Nat.reduceSub, if_true, if_false, Bool.false_eq_true, ↓reduceIte, List.append_nil, gTup0, gTup1, gTup2, gTup3, gLst0, gLst1, gLst2, gLst3, gLst4, gLst5, gLst10, isa_tt, isa_ts, isa_ti, isa_tn, isa_tl, isa_ss, isa_st, isa_si, isa_sn, isa_ii, isa_ib, isa_bi, isa_bb, isa_is, isa_in, isa_it, hLn, h1, h2, decide_true, Bool.not_true, e, if_pos hz, hc2, fLenSet, hu, gEq, eqB, List.length_map, List.take_length, Bool.true_and]
      · unfold m__law_are_routes B__law_are_routes
        simp only [defM, fSeq, fIfS, fAnd, fOr, fNot, fB, fAndV, fOrV, fNotV, fIf, fIsi, tyD, fIsA, bnd, opt, fin, fChain, f2, fN, fCons, fNil, fVar, fC, g1, gI, gIC, fRet, fExpr, fCall, pNil, pDat, pNm, fAsg, gNm, gNo, gCo, gTu, fEnd, fFor, fSq, seqD, fSg, fLcD, fLc, fYes, fM1, gSS, fM0, fSl, fNo, fSome, rd, fNmB, fNm2, fNmI, fNmT, fNmJ, fNmS, sc, isSc, fSetI, fApp, fOwn, fLstF, fCatF, fRetO, fPar, fParO, fTru, truB, List.cons_append, List.nil_append, List.getElem?_cons_zero, List.getElem?_cons_succ, List.set_cons_zero, List.set_cons_succ, List.replicate, List.length_cons, List.length_nil, Nat.reduceAdd, Nat.reduceSub, if_true, if_false, Bool.false_eq_true, ↓reduceIte, List.append_nil, gTup0, gTup1, gTup2, gTup3, gLst0, gLst1, gLst2, gLst3, gLst4, gLst5, gLst10, isa_tt, isa_ts, isa_ti, isa_tn, isa_tl, isa_ss, isa_st, isa_si, isa_sn, isa_ii, isa_ib, isa_bi, isa_bb, isa_is, isa_in, isa_it, hLn, h1, h2, decide_true, decide_false, Bool.not_true, Bool.not_false, List.take_length, Bool.false_and, Bool.true_and]
    · unfold m__law_are_routes B__law_are_routes
      simp only [defM, fSeq, fIfS, fAnd, fOr, fNot, fB, fAndV, fOrV, fNotV, fIf, fIsi, tyD, fIsA, bnd, opt, fin, fChain, f2, fN, fCons, fNil, fVar, fC, g1, gI, gIC, fRet, fExpr, fCall, pNil, pDat, pNm, fAsg, gNm, gNo, gCo, gTu, fEnd, fFor, fSq, seqD, fSg, fLcD, fLc, fYes, fM1, gSS, fM0, fSl, fNo, fSome, rd, fNmB, fNm2, fNmI, fNmT, fNmJ, fNmS, sc, isSc, fSetI, fApp, fOwn, fLstF, fCatF, fRetO, fPar, fParO, fTru, truB, List.cons_append, List.nil_append, List.getElem?_cons_zero, List.getElem?_cons_succ, List.set_cons_zero, List.set_cons_succ, List.replicate, List.length_cons, List.length_nil, Nat.reduceAdd, Nat.reduceSub, if_true, if_false, Bool.false_eq_true, ↓reduceIte, List.append_nil, gTup0, gTup1, gTup2, gTup3, gLst0, gLst1, gLst2, gLst3, gLst4, gLst5, gLst10, isa_tt, isa_ts, isa_ti, isa_tn, isa_tl, isa_ss, isa_st, isa_si, isa_sn, isa_ii, isa_ib, isa_bi, isa_bb, isa_is, isa_in, isa_it, hLn, h1, decide_false, Bool.not_true, Bool.not_false, List.take_length, Bool.false_and]
  | none => exact lroutes_not rfl μ
  | bool _ => exact lroutes_not rfl μ
  | int _ => exact lroutes_not rfl μ
  | str _ => exact lroutes_not rfl μ
  | list _ => exact lroutes_not rfl μ
  | dict _ => exact lroutes_not rfl μ
end Law
namespace Law
open PySem PySem.Spec PyProof.Rows L2 DL
local instance : Tabs := ⟨[]⟩
open TL
structure Cs (cs : List Nat) : Prop where
  len : cs.length ≤ 5
  lt : ∀ c ∈ cs, c < 22
theorem tx_ok {c : Nat} (h : c < 22) : tl (tx c) ≠ [] ∧ 47 ∉ tl (tx c) := by
  refine lt16 (P := fun c => tl (tx c) ≠ [] ∧ 47 ∉ tl (tx c)) h ?_ ?_ ?_ ?_ ?_ ?_ ?_ ?_ ?_ ?_ ?_ ?_ ?_ ?_ ?_ ?_ ?_ ?_ ?_ ?_ ?_ ?_ <;> decide +kernel
theorem Cs.pcs {cs : List Nat} (h : Cs cs) : Pcs (cs.map tx) := by
  refine ⟨by rw [List.length_map]; exact h.len, fun p hp => ?_, fun p hp => ?_, fun p hp => ?_⟩ <;> obtain ⟨c, hc, rfl⟩ := List.mem_map.mp hp
  · exact tx_len c
  · exact (tx_ok (h.lt c hc)).1
  · exact (tx_ok (h.lt c hc)).2
def patS (cs : List Nat) : Str := pathS (cs.map tx)
def okAt (i c : Nat) : Bool := decide (c < 4) || (decide (c = 4 + i) || (decide (c = 10 + i) || (decide (i = 2) && (decide (c = 9) || decide (c = 15)))))
def PatOk : Nat → List Nat → Prop
  | _, [] => True
  | i, c :: r => okAt i c = true ∧ PatOk (i + 1) r
theorem pat_snoc : ∀ (cs : List Nat) (i c : Nat), PatOk i cs → okAt (i + cs.length) c = true → PatOk i (cs ++ [c])
  | [], i, c, _, h => ⟨h, trivial⟩
  | d :: r, i, c, h, hc => ⟨h.1, pat_snoc r (i + 1) c h.2 (by rw [List.length_cons] at hc; rw [show i + 1 + r.length = i + (r.length + 1) by omega]; exact hc)⟩
theorem ok_lt : ∀ i < 5, ∀ c, okAt i c = true → c < 16 := by
  intro i hi c h
  unfold okAt at h
  simp only [Bool.or_eq_true, Bool.and_eq_true, decide_eq_true_eq] at h
  omega
theorem pat_lt : ∀ (cs : List Nat) (i : Nat), i + cs.length ≤ 5 → PatOk i cs → ∀ c ∈ cs, c < 16
  | [], _, _, _, _, h => by simp at h
  | d :: r, i, hl, h, c, hc => by
    rw [List.length_cons] at hl
    rcases List.mem_cons.mp hc with rfl | hc
    · exact ok_lt i (by omega) _ h.1
    · exact pat_lt r (i + 1) (by omega) h.2 c hc
structure Pt (cs : List Nat) : Prop where
  len : cs.length ≤ 5
  ok : PatOk 0 cs
theorem Pt.cs {cs : List Nat} (h : Pt cs) : Cs cs := ⟨h.len, fun c hc => Nat.lt_trans (pat_lt cs 0 (by have := h.len; omega) h.ok c hc) (by decide)⟩
def sub (c : Nat) : Nat := if c = 6 then 9 else if c = 12 then 15 else c
theorem ok_sub : ∀ i < 5, ∀ c < 16, okAt i c = true → okAt i (sub c) = true := by decide +kernel
theorem pat_sub : ∀ (cs : List Nat) (i : Nat), i + cs.length ≤ 5 → PatOk i cs → PatOk i (cs.map sub)
  | [], _, _, _ => trivial
  | d :: r, i, hl, h => by
    rw [List.length_cons] at hl
    exact ⟨ok_sub i (by omega) d (ok_lt i (by omega) d h.1) h.1, pat_sub r (i + 1) (by omega) h.2⟩
theorem Pt.sub {cs : List Nat} (h : Pt cs) : Pt (cs.map sub) := ⟨by rw [List.length_map]; exact h.len, pat_sub cs 0 (by have := h.len; omega) h.ok⟩
def flat : List Nat → List Nat
  | [] => []
  | c :: r => 47 :: (tl (tx c) ++ flat r)
theorem flat_join : ∀ (c : Nat) (r : List Nat), 47 :: joinL [47] (((c :: r).map tx).map tl) = flat (c :: r)
  | c, [] => by simp [flat, joinL]
  | c, d :: r => by
    have ih := flat_join d r
    simp only [List.map_cons] at ih ⊢
    rw [joinL_cc]
    show 47 :: (tl (tx c) ++ (47 :: joinL [47] _)) = 47 :: (tl (tx c) ++ flat (d :: r))
    rw [ih]
theorem tl_pat (c : Nat) (r : List Nat) : tl (patS (c :: r)) = flat (c :: r) := by
  unfold patS
  rw [tl_pathS, join_eq, tl_join, tl_slash, flat_join]
def freeB : List Nat → Bool
  | [] => true
  | c :: r => (c != 123 || (match r with | [] => false | d :: _ => d != 120)) && freeB r
theorem pre2 {c d : Nat} {l : List Nat} (h : c ≠ 123 ∨ d ≠ 120) : pre [123, 120] (c :: d :: l) = false := by
  show ([c, d] == [123, 120]) = false
  rcases h with h | h <;> simp [h]
theorem pre1 {c : Nat} {l : List Nat} (h : c ≠ 123) : pre [123, 120] (c :: l) = false := by
  cases l with
  | nil => show ([c] == [123, 120]) = false; simp
  | cons d l => exact pre2 (.inl h)
theorem spl_free : ∀ (p acc rest : List Nat), freeB p = true → spl [123, 120] 0 acc (p ++ rest) = spl [123, 120] 0 (acc ++ p) rest
  | [], acc, rest, _ => by simp
  | c :: r, acc, rest, h => by
    unfold freeB at h
    simp only [Bool.and_eq_true, Bool.or_eq_true, bne_iff_ne, ne_eq] at h
    have hp : pre [123, 120] (c :: (r ++ rest)) = false := by
      rcases h.1 with h1 | h1
      · exact pre1 h1
      · cases r with
        | nil => cases h1
        | cons d r => exact pre2 (.inr (by simpa using h1))
    show spl _ 0 acc (c :: (r ++ rest)) = _
    rw [spl_miss hp, spl_free r _ rest h.2, List.append_assoc]; rfl
theorem joinL_c {Z a : List Nat} {L : List (List Nat)} (h : L ≠ []) : joinL Z (a :: L) = a ++ (Z ++ joinL Z L) := by
  cases L with
  | nil => exact absurd rfl h
  | cons b L => exact joinL_cc Z a b L
theorem spl_ne (S : List Nat) : ∀ (l acc : List Nat) (k : Nat), spl S k acc l ≠ []
  | [], acc, k => by rw [spl_nil]; simp
  | c :: r, acc, 0 => by
    unfold spl
    split
    · simp
    · exact spl_ne S r _ _
  | c :: r, acc, k + 1 => by unfold spl; exact spl_ne S r _ _
theorem tx_fr : ∀ c < 22, c ≠ 6 → c ≠ 12 → c ≠ 9 → c ≠ 15 → freeB (47 :: tl (tx c)) = true := by decide +kernel
theorem rep_flat : ∀ (cs acc : List Nat), (∀ c ∈ cs, c < 22) → 9 ∉ cs → 15 ∉ cs → joinL [123, 120, 120] (spl [123, 120] 0 acc (flat cs)) = acc ++ flat (cs.map sub)
  | [], acc, _, _, _ => by show joinL _ (spl _ 0 acc []) = _; rw [spl_nil]; simp [joinL, flat]
  | c :: r, acc, hl, h9, h15 => by
    have ih := rep_flat r
    have hr : ∀ c ∈ r, c < 22 := fun x hx => hl x (by simp [hx])
    have h9' : 9 ∉ r := fun h => h9 (by simp [h])
    have h15' : 15 ∉ r := fun h => h15 (by simp [h])
    have key : ∀ (q : List Nat), freeB q = true → tl (tx c) = 123 :: 120 :: q → tl (tx (sub c)) = 123 :: 120 :: 120 :: q → joinL [123, 120, 120] (spl [123, 120] 0 acc (flat (c :: r))) = acc ++ flat ((c :: r).map sub) := fun q hq e1 e2 => by
      show joinL _ (spl _ 0 acc (47 :: (tl (tx c) ++ flat r))) = acc ++ (47 :: (tl (tx (sub c)) ++ flat (r.map sub)))
      rw [e1, e2, spl_miss (pre1 (by decide))]
      show joinL _ (spl _ 0 (acc ++ [47]) (123 :: (120 :: q ++ flat r))) = _
      rw [spl_hit (show pre [123, 120] (123 :: (120 :: q ++ flat r)) = true from rfl)]
      show joinL _ ((acc ++ [47]) :: spl _ 0 [] (q ++ flat r)) = _
      rw [joinL_c (spl_ne _ _ _ _), spl_free q [] _ hq, List.nil_append, ih q hr h9' h15']
      simp
    by_cases h6 : c = 6
    · subst h6; exact key [125] (by decide) (by decide +kernel) (by decide +kernel)
    · by_cases h12 : c = 12
      · subst h12; exact key [58, 110, 125] (by decide) (by decide +kernel) (by decide +kernel)
      · have es : sub c = c := by unfold sub; rw [if_neg h6, if_neg h12]
        have hf := tx_fr c (hl c (by simp)) h6 h12 (fun e => h9 (by simp [e])) (fun e => h15 (by simp [e]))
        show joinL _ (spl _ 0 acc (47 :: (tl (tx c) ++ flat r))) = acc ++ (47 :: (tl (tx (sub c)) ++ flat (r.map sub)))
        rw [es]
        have z := spl_free (47 :: tl (tx c)) acc (flat r) hf
        rw [show 47 :: (tl (tx c) ++ flat r) = 47 :: tl (tx c) ++ flat r from rfl, z, ih _ hr h9' h15']
        simp
theorem rep_join {x y z : Str} (hy : tl y ≠ []) (hl : y.length ≤ x.length) (hk : ¬ Builtin.Str.strKind x < Builtin.Str.strKind y) : tl (Txt.replace x y z) = joinL (tl z) (spl (tl y) 0 [] (tl x)) := by
  rw [← split_spl x y hy hk, ← tl_join, ← join_eq]
  have h0 : (y.length == 0) = false := by have := len1 hy; simp; omega
  have h1 : ¬ (decide (x.length < y.length) || decide (Builtin.Str.strKind x < Builtin.Str.strKind y)) = true := by
    simp only [Bool.or_eq_true, decide_eq_true_eq]
    omega
  unfold Txt.replace Txt.split
  rw [if_neg h1, h0, Bool.false_and, Bool.or_false]
  split
  · rw [join_eq]; rfl
  · rfl
theorem e_repl {cs : List Nat} (h : Cs cs) (h9 : 9 ∉ cs) (h15 : 15 ∉ cs) : Txt.replace (patS cs) "{x" "{xx" = patS (cs.map sub) := by
  have e1 : tl ("{x" : Str) = [123, 120] := by decide +kernel
  have e2 : tl ("{xx" : Str) = [123, 120, 120] := by decide +kernel
  cases cs with
  | nil => unfold patS; rw [List.map_nil, List.map_nil, List.map_nil, pathS_nil]; decide +kernel
  | cons c r =>
    apply ext_tl
    have hc := (tx_ok (h.lt c (by simp))).1
    have hlen : ("{x" : Str).length ≤ (patS (c :: r)).length := by
      rw [len_tl (patS _), tl_pat]
      show _ ≤ (47 :: (tl (tx c) ++ flat r)).length
      rw [List.length_cons, List.length_append]
      have : 0 < (tl (tx c)).length := List.length_pos_iff.mpr hc
      have e3 : ("{x" : Str).length = 2 := by decide +kernel
      omega
    rw [rep_join (by rw [e1]; simp) hlen (TL.kind_ok (by decide +kernel)), tl_pat, e1, e2, rep_flat _ _ h.lt h9 h15, List.nil_append, List.map_cons, tl_pat]
theorem flat_app : ∀ (a b : List Nat), flat (a ++ b) = flat a ++ flat b
  | [], _ => rfl
  | c :: r, b => by
    show 47 :: (tl (tx c) ++ flat (r ++ b)) = 47 :: (tl (tx c) ++ flat r) ++ flat b
    rw [flat_app r b]; simp
theorem has_xx {cs : List Nat} {c : Nat} {q : List Nat} (hq : tl (tx c) = 123 :: 120 :: 120 :: q) (hc : c ∈ cs) : inT "{xx" (patS cs) = true := by
  have e2 : tl ("{xx" : Str) = [123, 120, 120] := by decide +kernel
  obtain ⟨a, b, rfl⟩ := List.append_of_mem hc
  have e : tl (patS (a ++ c :: b)) = flat (a ++ c :: b) := by
    cases a with
    | nil => exact tl_pat c b
    | cons d a => exact tl_pat d (a ++ c :: b)
  unfold inT
  refine (StrLaws.found_iff _ _).mpr ⟨(flat a).length + 1, ?_⟩
  refine (at_iff (by rw [e2]; simp) _).mpr ?_
  rw [e, flat_app, e2]
  show pre _ ((flat a ++ (47 :: (tl (tx c) ++ flat b))).drop ((flat a).length + 1)) = true
  rw [← List.drop_drop, List.drop_left, List.drop_one, List.tail_cons, hq]
  rfl
theorem no_xx {cs : List Nat} (h : inT "{xx" (patS cs) = false) : 9 ∉ cs ∧ 15 ∉ cs := by
  constructor
  · intro hc
    have := has_xx (c := 9) (q := [125]) (by decide +kernel) hc
    rw [h] at this; cases this
  · intro hc
    have := has_xx (c := 15) (q := [58, 110, 125]) (by decide +kernel) hc
    rw [h] at this; cases this
end Law
namespace Law
open PySem PySem.Spec PyProof.Rows L2 DL
local instance : Tabs := ⟨[]⟩
open TL
section
variable {base t : Mu} {p q : List PyData}
theorem g_pen : (base ++ p :: t)[base.length]? = some p := by simp
theorem s_pen : (base ++ p :: t).set base.length q = base ++ q :: t := by simp
theorem ln : (base ++ p :: t).length = base.length + (t.length + 1) := by simp
theorem st1 {a : List PyData} : (base ++ p :: t) ++ [a] = base ++ p :: (t ++ [a]) := by simp
theorem tk0 : (base ++ q :: t).take (base.length + (t.length + 1)) = base ++ q :: t := List.take_of_length_le (by rw [ln]; exact Nat.le_refl _)
theorem tk1 {a : List PyData} : (base ++ q :: (t ++ [a])).take (base.length + (t.length + 1)) = base ++ q :: t := by
  rw [← st1]
  exact List.take_left' ln
theorem g_acc {a : List PyData} : (base ++ q :: (t ++ [a]))[base.length + (t.length + 1)]? = some a := by
  rw [← st1, ← ln (base := base) (p := q) (t := t)]; simp
theorem s_acc {a b : List PyData} : (base ++ q :: (t ++ [a])).set (base.length + (t.length + 1)) b = base ++ q :: (t ++ [b]) := by
  rw [← st1, ← ln (base := base) (p := q) (t := t)]; simp
end
theorem ix0 {a b : PyData} : ixD (.list [a, b]) (.int 0) = some a := rfl
theorem ix1 {a b : PyData} : ixD (.list [a, b]) (.int 1) = some b := rfl
theorem in20 : ixN 2 0 = some 0 := rfl
theorem gE1 {i j : Int} : gEq (.int i) (.int j) = some (.bool (decide (i = j))) := rfl
theorem gA1 {i j : Int} : gAdd (.int i) (.int j) = some (.int (i + j)) := rfl
theorem e_draw {base t : Mu} {x f n : Int} (h0 : 0 < n) (h1 : n < 1073741824) : ∃ d x', 0 ≤ d ∧ d < n ∧ m__law_draw [.own base.length, .dat (.int n)] (base ++ [.int x, .int f] :: t) = some (.int d, base ++ [.int x', .int f] :: t) := by
  have hm : ∀ i, cMod i n = true := fun i => decide_eq_true h0
  have hd : ∀ i, cDiv i n = true := fun i => decide_eq_true ⟨h0, h1⟩
  have m1 : ∀ i, cMod i 2147483629 = true := fun i => decide_eq_true (by decide)
  have m2 : ∀ i, cMod i 2147483647 = true := fun i => decide_eq_true (by decide)
  have d8 : ∀ i, cDiv i 8 = true := fun i => decide_eq_true (by decide)
  have u1 : ∀ i, cMul i 48271 = true := fun i => decide_eq_true (.inr (by decide))
  have u2 : ∀ i, cMul 40692 i = true := fun i => decide_eq_true (.inl (by decide))
  have u3 : ∀ i, cMul ((i % 2147483629 * 48271 + 11) % 2147483629) ((i % 2147483629 * 48271 + 11) % 2147483629) = true := fun i => decide_eq_true (.inl (by
    have a1 := Int.emod_nonneg (i % 2147483629 * 48271 + 11) (show (2147483629 : Int) ≠ 0 by decide)
    have a2 := Int.emod_lt_of_pos (i % 2147483629 * 48271 + 11) (show (0 : Int) < 2147483629 by decide)
    omega))
  by_cases hf : f = 1
  · refine ⟨x % n, x / n, Int.emod_nonneg _ (by omega), Int.emod_lt_of_pos _ h0, ?_⟩
    unfold m__law_draw B__law_draw
    simp only [defM, fSeq, fIfS, fAnd, fOr, fNot, fB, fAndV, fOrV, fNotV, fIf, fIsi, tyD, fIsA, bnd, opt, fin, fChain, f2, fN, fCons, fNil, fVar, fC, g1, gI, gIC, fRet, fExpr, fCall, pNil, pDat, pNm, fAsg, gNm, gNo, gCo, gTu, fEnd, fFor, fSq, seqD, fSg, fLcD, fLc, fYes, fM1, gSS, fM0, fSl, fNo, fSome, rd, fNmB, fNm2, fNmI, fNmT, fNmJ, fNmS, sc, isSc, fSetI, fApp, fOwn, fLstF, fCatF, fRetO, fPar, fParO, fTru, truB, List.cons_append, List.nil_append, List.getElem?_cons_zero, List.getElem?_cons_succ, List.set_cons_zero, List.set_cons_succ, List.replicate, List.length_cons, List.length_nil, Nat.reduceAdd, Nat.reduceSub, if_true, if_false, Bool.false_eq_true, ↓reduceIte, List.append_nil, gTup0, gTup1, gTup2, gTup3, gLst0, gLst1, gLst2, gLst3, gLst4, gLst5, gLst10, isa_tt, isa_ts, isa_ti, isa_tn, isa_tl, isa_ss, isa_st, isa_si, isa_sn, isa_ii, isa_ib, isa_bi, isa_bb, isa_is, isa_in, isa_it, g_pen, s_pen, ix0, ix1, in20, gE1, hf, decide_true, hm, hd, ln, tk0]
  · refine ⟨(((x % 2147483629 * 48271 + 11) % 2147483629) * ((x % 2147483629 * 48271 + 11) % 2147483629) + 40692 * ((x % 2147483629 * 48271 + 11) % 2147483629)) % 2147483647 / 8 % n, (x % 2147483629 * 48271 + 11) % 2147483629, Int.emod_nonneg _ (by omega), Int.emod_lt_of_pos _ h0, ?_⟩
    unfold m__law_draw B__law_draw
    simp only [defM, fSeq, fIfS, fAnd, fOr, fNot, fB, fAndV, fOrV, fNotV, fIf, fIsi, tyD, fIsA, bnd, opt, fin, fChain, f2, fN, fCons, fNil, fVar, fC, g1, gI, gIC, fRet, fExpr, fCall, pNil, pDat, pNm, fAsg, gNm, gNo, gCo, gTu, fEnd, fFor, fSq, seqD, fSg, fLcD, fLc, fYes, fM1, gSS, fM0, fSl, fNo, fSome, rd, fNmB, fNm2, fNmI, fNmT, fNmJ, fNmS, sc, isSc, fSetI, fApp, fOwn, fLstF, fCatF, fRetO, fPar, fParO, fTru, truB, List.cons_append, List.nil_append, List.getElem?_cons_zero, List.getElem?_cons_succ, List.set_cons_zero, List.set_cons_succ, List.replicate, List.length_cons, List.length_nil, Nat.reduceAdd, Nat.reduceSub, if_true, if_false, Bool.false_eq_true, ↓reduceIte, List.append_nil, gTup0, gTup1, gTup2, gTup3, gLst0, gLst1, gLst2, gLst3, gLst4, gLst5, gLst10, isa_tt, isa_ts, isa_ti, isa_tn, isa_tl, isa_ss, isa_st, isa_si, isa_sn, isa_ii, isa_ib, isa_bi, isa_bb, isa_is, isa_in, isa_it, g_pen, s_pen, ix0, ix1, in20, gE1, gA1, hf, decide_false, hm, hd, m1, m2, d8, u1, u2, u3, ln, tk0]
theorem at_ok {ds : List PyData} {d : Int} (h0 : 0 ≤ d) (h1 : d < ds.length) : ∃ y ∈ ds, atI ds d = some y := by
  have h : d.toNat < ds.length := by omega
  refine ⟨ds[d.toNat], List.getElem_mem h, ?_⟩
  unfold atI ixN
  rw [if_pos h0, if_pos h1]
  show ds[d.toNat]? = _
  exact List.getElem?_eq_getElem h
theorem e_pick {base t : Mu} {x f : Int} {ds : List PyData} (h0 : 1 ≤ ds.length) (h1 : ds.length ≤ 1000) : ∃ y ∈ ds, ∃ x', m__law_pick [.own base.length, .dat (.list ds)] (base ++ [.int x, .int f] :: t) = some (y, base ++ [.int x', .int f] :: t) := by
  obtain ⟨d, x', a, b, e⟩ := e_draw (base := base) (t := t) (x := x) (f := f) (n := ds.length) (by omega) (by omega)
  obtain ⟨y, hy, ey⟩ := at_ok a b
  have ey' : ixD (.list ds) (.int d) = some y := ey
  refine ⟨y, hy, x', ?_⟩
  unfold m__law_pick B__law_pick
  simp only [defM, fSeq, fIfS, fAnd, fOr, fNot, fB, fAndV, fOrV, fNotV, fIf, fIsi, tyD, fIsA, bnd, opt, fin, fChain, f2, fN, fCons, fNil, fVar, fC, g1, gI, gIC, fRet, fExpr, fCall, pNil, pDat, pNm, fAsg, gNm, gNo, gCo, gTu, fEnd, fFor, fSq, seqD, fSg, fLcD, fLc, fYes, fM1, gSS, fM0, fSl, fNo, fSome, rd, fNmB, fNm2, fNmI, fNmT, fNmJ, fNmS, sc, isSc, fSetI, fApp, fOwn, fLstF, fCatF, fRetO, fPar, fParO, fTru, truB, List.cons_append, List.nil_append, List.getElem?_cons_zero, List.getElem?_cons_succ, List.set_cons_zero, List.set_cons_succ, List.replicate, List.length_cons, List.length_nil, Nat.reduceAdd, Nat.reduceSub, if_true, if_false, Bool.false_eq_true, ↓reduceIte, List.append_nil, gTup0, gTup1, gTup2, gTup3, gLst0, gLst1, gLst2, gLst3, gLst4, gLst5, gLst10, isa_tt, isa_ts, isa_ti, isa_tn, isa_tl, isa_ss, isa_st, isa_si, isa_sn, isa_ii, isa_ib, isa_bi, isa_bb, isa_is, isa_in, isa_it, lenD, e, ey', ln, tk0]
theorem e_pickT {base t : Mu} {x f : Int} {ds : List PyData} (h0 : 1 ≤ ds.length) (h1 : ds.length ≤ 1000) : ∃ y ∈ ds, ∃ x', m__law_pick [.own base.length, .dat (.tuple ds)] (base ++ [.int x, .int f] :: t) = some (y, base ++ [.int x', .int f] :: t) := by
  obtain ⟨d, x', a, b, e⟩ := e_draw (base := base) (t := t) (x := x) (f := f) (n := ds.length) (by omega) (by omega)
  obtain ⟨y, hy, ey⟩ := at_ok a b
  have ey' : ixD (.tuple ds) (.int d) = some y := ey
  refine ⟨y, hy, x', ?_⟩
  unfold m__law_pick B__law_pick
  simp only [defM, fSeq, fIfS, fAnd, fOr, fNot, fB, fAndV, fOrV, fNotV, fIf, fIsi, tyD, fIsA, bnd, opt, fin, fChain, f2, fN, fCons, fNil, fVar, fC, g1, gI, gIC, fRet, fExpr, fCall, pNil, pDat, pNm, fAsg, gNm, gNo, gCo, gTu, fEnd, fFor, fSq, seqD, fSg, fLcD, fLc, fYes, fM1, gSS, fM0, fSl, fNo, fSome, rd, fNmB, fNm2, fNmI, fNmT, fNmJ, fNmS, sc, isSc, fSetI, fApp, fOwn, fLstF, fCatF, fRetO, fPar, fParO, fTru, truB, List.cons_append, List.nil_append, List.getElem?_cons_zero, List.getElem?_cons_succ, List.set_cons_zero, List.set_cons_succ, List.replicate, List.length_cons, List.length_nil, Nat.reduceAdd, Nat.reduceSub, if_true, if_false, Bool.false_eq_true, ↓reduceIte, List.append_nil, gTup0, gTup1, gTup2, gTup3, gLst0, gLst1, gLst2, gLst3, gLst4, gLst5, gLst10, isa_tt, isa_ts, isa_ti, isa_tn, isa_tl, isa_ss, isa_st, isa_si, isa_sn, isa_ii, isa_ib, isa_bi, isa_bb, isa_is, isa_in, isa_it, lenD, e, ey', ln, tk0]
def nmP : Nat → Str
  | 0 => "a" | 1 => "id" | 2 => "x" | 3 => "eighteen" | _ => "n"
theorem hole_tx : ∀ i < 5, (("{" : Str) ++ nmP i) ++ "}" = tx (4 + i) ∧ (("{" : Str) ++ nmP i) ++ ":n}" = tx (10 + i) ∧ (nmP i).length ≤ 50 := by decide +kernel
theorem nm_at : ∀ i < 5, ixD (.list [.str "a", .str "id", .str "x", .str "eighteen", .str "n"]) (.int (0 + (i : Nat))) = some (.str (nmP i)) := by
  intro i hi
  match i, hi with
  | 0, _ => rfl
  | 1, _ => rfl
  | 2, _ => rfl
  | 3, _ => rfl
  | 4, _ => rfl
  | n + 5, h => omega
theorem addS {x y : Str} (hx : x.length ≤ 1000) (hy : y.length ≤ 1000) : gAdd (.str x) (.str y) = some (.str (x ++ y)) := by
  show (if x.length + y.length ≤ sizeLine then _ else _) = _
  rw [if_pos (line_ge (by omega))]
theorem addL {a b : List PyData} (h : a.length + b.length ≤ 1000) : gAdd (.list a) (.list b) = some (.list (a ++ b)) := by
  show (if a.length + b.length ≤ sizeLine then _ else _) = _
  rw [if_pos (line_ge (by omega))]
theorem len_app (x y : Str) : (x ++ y).length = x.length + y.length := by rw [len_tl, len_tl x, len_tl y, tl_append, List.length_append]
def ptB : FS := (fSeq (fAsg (f2 (fN (fCons (fC (.str "a")) (fCons (fC (.str "id")) (fCons (fC (.str "x")) (fCons (fC (.str "eighteen")) (fCons (fC (.str "n")) fNil))))) gLst) (fVar 2) ixD) (gNm 3))
  (fSeq (fAsg (fN (fCons (f2 (f2 (fC (.str "{")) (fVar 3) gAdd) (fC (.str "}")) gAdd) (fCons (f2 (f2 (fC (.str "{")) (fVar 3) gAdd) (fC (.str ":n}")) gAdd) (fCons (f2 (f2 (fC (.str "{")) (fVar 3) gAdd) (fC (.str ":n}")) gAdd) fNil))) gLst) (gNm 4))
  (fApp 1 (fCall m__law_pick (pNm 0 (pDat (f2 (fN (fCons (fC (.str "a")) (fCons (fC (.str "b")) (fCons (fC (.str "7")) (fCons (fC (.str "no")) fNil)))) gLst) (fVar 4) gAdd) pNil))))))
def txL (cs : List Nat) : List PyData := cs.map fun c => .str (tx c)
theorem pt_turn {base t : Mu} {x f : Int} {cs : List Nat} {s3 s4 : Sl} {i : Nat} (hi : i < 5) (hl : cs.length ≤ 5) : ∃ c x' t3 t4, okAt i c = true ∧
    ptB [.own base.length, .own (base.length + (t.length + 1)), .dat (.int (0 + (i : Nat))), s3, s4] (base ++ [.int x, .int f] :: (t ++ [txL cs])) = some (.nx [.own base.length, .own (base.length + (t.length + 1)), .dat (.int (0 + (i : Nat))), t3, t4] (base ++ [.int x', .int f] :: (t ++ [txL (cs ++ [c])]))) := by
  obtain ⟨e1, e2, e3⟩ := hole_tx i hi
  have l1 : ("{" : Str).length = 1 := by decide +kernel
  have l2 : ("}" : Str).length = 1 := by decide +kernel
  have l3 : (":n}" : Str).length = 3 := by decide +kernel
  have a1 : gAdd (.str "{") (.str (nmP i)) = some (.str ("{" ++ nmP i)) := addS (by omega) (by omega)
  have a2 : gAdd (.str ("{" ++ nmP i)) (.str "}") = some (.str (tx (4 + i))) := by rw [addS (by rw [len_app]; omega) (by omega), e1]
  have a3 : gAdd (.str ("{" ++ nmP i)) (.str ":n}") = some (.str (tx (10 + i))) := by rw [addS (by rw [len_app]; omega) (by omega), e2]
  have a4 : gAdd (.list [.str "a", .str "b", .str "7", .str "no"]) (.list [.str (tx (4 + i)), .str (tx (10 + i)), .str (tx (10 + i))]) = some (.list [.str "a", .str "b", .str "7", .str "no", .str (tx (4 + i)), .str (tx (10 + i)), .str (tx (10 + i))]) := addL (by simp)
  obtain ⟨y, hy, x', e⟩ := e_pick (base := base) (t := t ++ [txL cs]) (x := x) (f := f) (ds := [.str "a", .str "b", .str "7", .str "no", .str (tx (4 + i)), .str (tx (10 + i)), .str (tx (10 + i))]) (by simp) (by simp)
  have hz : (txL cs).length < sizeLine := Nat.lt_of_lt_of_le (show (txL cs).length < 6 by unfold txL; rw [List.length_map]; omega) (by decide)
  have hc : ∃ c, okAt i c = true ∧ y = .str (tx c) := by
    simp only [List.mem_cons, List.not_mem_nil, or_false] at hy
    rcases hy with rfl | rfl | rfl | rfl | rfl | rfl | rfl
    · exact ⟨0, by simp [okAt], rfl⟩
    · exact ⟨1, by simp [okAt], rfl⟩
    · exact ⟨2, by simp [okAt], rfl⟩
    · exact ⟨3, by simp [okAt], rfl⟩
    · exact ⟨4 + i, by simp [okAt], rfl⟩
    · exact ⟨10 + i, by simp [okAt], rfl⟩
    · exact ⟨10 + i, by simp [okAt], rfl⟩
  obtain ⟨c, hok, rfl⟩ := hc
  refine ⟨c, x', .dat (.str (nmP i)), .dat (.list [.str (tx (4 + i)), .str (tx (10 + i)), .str (tx (10 + i))]), hok, ?_⟩
  have es : txL (cs ++ [c]) = txL cs ++ [.str (tx c)] := by unfold txL; simp
  rw [es]
  unfold ptB
  simp only [defM, fSeq, fIfS, fAnd, fOr, fNot, fB, fAndV, fOrV, fNotV, fIf, fIsi, tyD, fIsA, bnd, opt, fin, fChain, f2, fN, fCons, fNil, fVar, fC, g1, gI, gIC, fRet, fExpr, fCall, pNil, pDat, pNm, fAsg, gNm, gNo, gCo, gTu, fEnd, fFor, fSq, seqD, fSg, fLcD, fLc, fYes, fM1, gSS, fM0, fSl, fNo, fSome, rd, fNmB, fNm2, fNmI, fNmT, fNmJ, fNmS, sc, isSc, fSetI, fApp, fOwn, fLstF, fCatF, fRetO, fPar, fParO, fTru, truB, List.cons_append, List.nil_append, List.getElem?_cons_zero, List.getElem?_cons_succ, List.set_cons_zero, List.set_cons_succ, List.replicate, List.length_cons, List.length_nil, Nat.reduceAdd, Nat.reduceSub, if_true, if_false, Bool.false_eq_true, ↓reduceIte, List.append_nil, gTup0, gTup1, gTup2, gTup3, gLst0, gLst1, gLst2, gLst3, gLst4, gLst5, gLst10, isa_tt, isa_ts, isa_ti, isa_tn, isa_tl, isa_ss, isa_st, isa_si, isa_sn, isa_ii, isa_ib, isa_bi, isa_bb, isa_is, isa_in, isa_it, nm_at i hi, a1, a2, a3, a4, e, g_acc, s_acc, if_pos hz]
theorem pt_loop {base t : Mu} {f : Int} : ∀ (m : Nat) (cs : List Nat) (x : Int) (s2 s3 s4 : Sl), cs.length + m ≤ 5 → PatOk 0 cs → ∃ cs' x' t2 t3 t4, cs'.length = cs.length + m ∧ PatOk 0 cs' ∧
    loopF (gNm 2) ptB ((List.range' cs.length m).map fun i => .int (0 + (i : Nat))) [.own base.length, .own (base.length + (t.length + 1)), s2, s3, s4] (base ++ [.int x, .int f] :: (t ++ [txL cs])) = some (.nx [.own base.length, .own (base.length + (t.length + 1)), t2, t3, t4] (base ++ [.int x', .int f] :: (t ++ [txL cs'])))
  | 0, cs, x, s2, s3, s4, _, h => ⟨cs, x, s2, s3, s4, rfl, h, rfl⟩
  | m + 1, cs, x, s2, s3, s4, hl, h => by
    obtain ⟨c, x1, t3, t4, hok, e1⟩ := pt_turn (base := base) (t := t) (x := x) (f := f) (cs := cs) (s3 := s3) (s4 := s4) (i := cs.length) (by omega) (by omega)
    have hl2 : (cs ++ [c]).length = cs.length + 1 := by simp
    obtain ⟨cs', x', t2', t3', t4', h1, h2, e2⟩ := pt_loop (base := base) (t := t) (f := f) m (cs ++ [c]) x1 (.dat (.int (0 + (cs.length : Nat)))) t3 t4 (by omega) (pat_snoc cs 0 c h (by rw [Nat.zero_add]; exact hok))
    refine ⟨cs', x', t2', t3', t4', by omega, h2, ?_⟩
    rw [List.range'_succ, List.map_cons]
    unfold loopF
    have hg : gNm 2 (.int (0 + (cs.length : Nat))) [.own base.length, .own (base.length + (t.length + 1)), s2, s3, s4] = some [.own base.length, .own (base.length + (t.length + 1)), .dat (.int (0 + (cs.length : Nat))), s3, s4] := rfl
    rw [hg]
    show (match ptB _ _ with | some (.nx ρ2 m2) => loopF (gNm 2) ptB _ ρ2 m2 | some (.ct ρ2 m2) => loopF (gNm 2) ptB _ ρ2 m2 | some (.bk ρ2 m2) => some (.nx ρ2 m2) | some (.rt v m2) => some (.rt v m2) | none => none) = _
    rw [e1]
    rw [hl2] at e2
    exact e2
theorem join_pat {cs : List Nat} (h : Cs cs) : joinD "/" (.list (txL cs)) = some (.str (Txt.join "/" (cs.map tx))) := by
  show opt (strsOf (txL cs)) _ = _
  have e : txL cs = (cs.map tx).map PyData.str := by unfold txL; rw [List.map_map]; rfl
  rw [e, strsOf_map]
  show (if ((cs.map tx).map (·.length)).sum + (cs.map tx).length * ("/" : Str).length ≤ 16777216 then _ else _) = _
  have h1 := sum_le h.pcs.one
  have h2 : (cs.map tx).length ≤ 5 := h.pcs.len
  have l1 : ("/" : Str).length = 1 := by decide +kernel
  rw [if_pos (by rw [l1]; omega)]
theorem e_lpattern {base t : Mu} {x f : Int} : ∃ cs x', Pt cs ∧ m__law_pattern [.own base.length] (base ++ [.int x, .int f] :: t) = some (.str (patS cs), base ++ [.int x', .int f] :: t) := by
  obtain ⟨d1, x1, a1, b1, e1⟩ := e_draw (base := base) (t := t ++ [[]]) (x := x) (f := f) (n := 4) (by decide) (by decide)
  obtain ⟨d2, x2, a2, b2, e2⟩ := e_draw (base := base) (t := t ++ [[]]) (x := x1) (f := f) (n := 3) (by decide) (by decide)
  obtain ⟨cs, x3, t2, t3, t4, hl, hp, e3⟩ := pt_loop (base := base) (t := t) (f := f) (d1 + d2).toNat [] x2 .un .un .un (by simp; omega) trivial
  have pt : Pt cs := ⟨by rw [hl]; simp; omega, hp⟩
  refine ⟨cs, x3, pt, ?_⟩
  have hb : (0 : Nat) ≤ sizeLine := Nat.zero_le _
  have hr : -(2 ^ 62) ≤ d1 + d2 ∧ d1 + d2 < 2 ^ 62 := by omega
  have er : rgD 0 (d1 + d2).toNat = (List.range' ([] : List Nat).length (d1 + d2).toNat).map fun i => .int (0 + (i : Nat)) := by
    unfold rgD; rw [List.range_eq_range']; rfl
  have hj := join_len pt.cs.pcs
  have ea : gAdd (.str "/") (.str (Txt.join "/" (cs.map tx))) = some (.str (patS cs)) := addS (by decide +kernel) (by omega)
  unfold ptB at e3
  have e3' := e3
  rw [← er] at e3'
  unfold txL at e3'
  have jp := join_pat pt.cs
  unfold txL at jp
  rw [List.map_nil] at e3'
  unfold m__law_pattern B__law_pattern
  simp only [defM, fSeq, fIfS, fAnd, fOr, fNot, fB, fAndV, fOrV, fNotV, fIf, fIsi, tyD, fIsA, bnd, opt, fin, fChain, f2, fN, fCons, fNil, fVar, fC, g1, gI, gIC, fRet, fExpr, fCall, pNil, pDat, pNm, fAsg, gNm, gNo, gCo, gTu, fEnd, fFor, fSq, seqD, fSg, fLcD, fLc, fYes, fM1, gSS, fM0, fSl, fNo, fSome, rd, fNmB, fNm2, fNmI, fNmT, fNmJ, fNmS, sc, isSc, fSetI, fApp, fOwn, fLstF, fCatF, fRetO, fPar, fParO, fTru, truB, List.cons_append, List.nil_append, List.getElem?_cons_zero, List.getElem?_cons_succ, List.set_cons_zero, List.set_cons_succ, List.replicate, List.length_cons, List.length_nil, Nat.reduceAdd, Nat.reduceSub, if_true, if_false, Bool.false_eq_true, ↓reduceIte, List.append_nil, gTup0, gTup1, gTup2, gTup3, gLst0, gLst1, gLst2, gLst3, gLst4, gLst5, gLst10, isa_tt, isa_ts, isa_ti, isa_tn, isa_tl, isa_ss, isa_st, isa_si, isa_sn, isa_ii, isa_ib, isa_bi, isa_bb, isa_is, isa_in, isa_it, if_pos hb, ln, st1, e1, e2, gA1, fRg1, if_pos hr, e3', g_acc, jp, ea, tk1]
end Law
namespace Law
open PySem PySem.Spec PyProof.Rows L2 DL
local instance : Tabs := ⟨[]⟩
open TL
def nmL : List Str := ["one", "two", "three", "four", "five", "six", "seven", "eight", "nine", "ten", "eleven"]
structure Rt where
  nm : Str
  vb : Str
  cs : List Nat
def rtD (r : Rt) : PyData := .tuple [.str r.nm, .str r.vb, .str (patS r.cs)]
structure RtG (r : Rt) : Prop where
  nm : r.nm ∈ nmL
  vb : r.vb = "get" ∨ r.vb = "post"
  pt : Pt r.cs
theorem tx_lo : ∀ c < 22, ((tl (tx c)).all fun n => decide (n < 0x110000)) = true := by decide +kernel
theorem flat_lo : ∀ (cs : List Nat), (∀ c ∈ cs, c < 22) → ((flat cs).all fun n => decide (n < 0x110000)) = true
  | [], _ => rfl
  | c :: r, h => by
    show (decide (47 < 0x110000) && ((tl (tx c) ++ flat r).all fun n => decide (n < 0x110000))) = true
    rw [List.all_append, tx_lo c (h c (by simp)), flat_lo r fun x hx => h x (by simp [hx])]; rfl
theorem pat_sm {cs : List Nat} (h : Cs cs) : fit (.str (patS cs)) = true ∧ (patS cs).length ≤ 106 := by
  refine ⟨?_, pathS_len h.pcs⟩
  show ((tl (patS cs)).all fun n => decide (n < 0x110000)) = true
  cases cs with
  | nil => unfold patS; rw [List.map_nil, pathS_nil]; decide +kernel
  | cons c r => rw [tl_pat]; exact flat_lo _ h.lt
theorem nm_sm : ∀ n ∈ nmL, fit (.str n) = true ∧ n.length ≤ 106 := by decide +kernel
theorem vb_sm {v : Str} (h : v = "get" ∨ v = "post") : fit (.str v) = true ∧ v.length ≤ 106 := by rcases h with rfl | rfl <;> decide +kernel
theorem rt_lay {r : Rt} (h : RtG r) : (rtD r).canLay0 = true := by
  have hp := pat_sm h.pt.cs
  have hn := nm_sm _ h.nm
  have hv := vb_sm h.vb
  show PyData.canLayAll0 [.str r.nm, .str r.vb, .str (patS r.cs)] = true
  simp only [PyData.canLayAll0, str_lay (x := r.nm) ⟨hn.1, Nat.le_trans hn.2 (by decide)⟩, str_lay (x := r.vb) ⟨hv.1, Nat.le_trans hv.2 (by decide)⟩, str_lay (x := patS r.cs) ⟨hp.1, Nat.le_trans hp.2 (by decide)⟩]
  rfl
theorem neL {rs : List Rt} (h : ∀ r ∈ rs, RtG r) : gNe (.list (rs.map rtD)) (.list []) = some (.bool (!rs.isEmpty)) := by
  have h2 := nil_eq (L := rs.map rtD) (lay_of fun y hy => by
    obtain ⟨r, hr, rfl⟩ := List.mem_map.mp hy
    exact rt_lay (h r hr)) (dep_of fun y hy => by
    obtain ⟨r, hr, rfl⟩ := List.mem_map.mp hy
    show (max 0 (max 0 (max 0 0)) + 1) ≤ 10
    decide)
  unfold gEq at h2
  unfold gNe
  cases e : eqB (.list (rs.map rtD)) (.list []) with
  | none => rw [e] at h2; cases h2
  | some b =>
    rw [e] at h2
    have h3 : b = (rs.map rtD).isEmpty := by injection h2 with h2; injection h2
    rw [h3]
    show some (PyData.bool (!(rs.map rtD).isEmpty)) = _
    cases rs <;> rfl
def rtI : FS := (fIfS (fAnd (fB (fNm2 1 (fN fNil gLst) gNe)) (fB (f2 (fCall m__law_draw (pNm 0 (pDat (fC (.int (4))) pNil))) (fC (.int (0))) gEq)))
    (fSeq (fAsg (f2 (fCall m__law_pick (pNm 0 (pNm 1 pNil))) (fC (.int (2))) ixD) (gNm 4))
  (fIfS (fAnd (fB (f2 (fCall m__law_draw (pNm 0 (pDat (fC (.int (2))) pNil))) (fC (.int (0))) gEq)) (fB (f2 (fC (.str "{xx")) (fVar 4) (gInT true))))
    (fAsg (fRepl "{x" "{xx" (fVar 4)) (gNm 4))
    fEnd))
    fEnd)
def rtB : FS := (fSeq (fAsg (fCall m__law_pattern (pNm 0 pNil)) (gNm 4))
  (fSeq rtI
  (fApp 1 (fN (fCons (fVar 3) (fCons (fCall m__law_pick (pNm 0 (pDat (fN (fCons (fC (.str "get")) (fCons (fC (.str "get")) (fCons (fC (.str "post")) fNil))) gLst) pNil))) (fCons (fVar 4) fNil))) DL.gTup))))
section
variable {base t : Mu} {f : Int} {NM : List PyData}
theorem st2 {p : List PyData} {a b : List PyData} : base ++ p :: (t ++ [a, b]) = (base ++ p :: t) ++ [a, b] := by simp
theorem g_mid {p a b : List PyData} : (base ++ p :: (t ++ [a, b]))[base.length + (t.length + 1)]? = some a := by
  rw [st2, ← ln (base := base) (p := p) (t := t)]; simp
theorem s_mid {p a b c : List PyData} : (base ++ p :: (t ++ [a, b])).set (base.length + (t.length + 1)) c = base ++ p :: (t ++ [c, b]) := by
  rw [st2, ← ln (base := base) (p := p) (t := t)]; simp
theorem g_end {p a b : List PyData} : (base ++ p :: (t ++ [a, b]))[base.length + (t.length + 2)]? = some b := by
  rw [st2, show base.length + (t.length + 2) = (base ++ p :: t).length + 1 by rw [ln]; omega, List.getElem?_append_right (Nat.le_succ _), show (base ++ p :: t).length.succ - (base ++ p :: t).length = 1 by omega]; rfl
theorem s_end {p a b c : List PyData} : (base ++ p :: (t ++ [a, b])).set (base.length + (t.length + 2)) c = base ++ p :: (t ++ [a, c]) := by
  rw [st2, show base.length + (t.length + 2) = (base ++ p :: t).length + 1 by rw [ln]; omega, List.set_append_right _ _ (Nat.le_succ _), show (base ++ p :: t).length.succ - (base ++ p :: t).length = 1 by omega, st2]; rfl
theorem tk3 {p a b : List PyData} : (base ++ p :: (t ++ [a, b])).take (base.length + (t.length + 1)) = base ++ p :: t := by
  rw [st2]; exact List.take_left' ln
theorem e_pickM {x : Int} {ds : List PyData} (h0 : 1 ≤ ds.length) (h1 : ds.length ≤ 1000) : ∃ y ∈ ds, ∃ x', m__law_pick [.own base.length, .own (base.length + (t.length + 1))] (base ++ [.int x, .int f] :: (t ++ [ds, NM])) = some (y, base ++ [.int x', .int f] :: (t ++ [ds, NM])) := by
  obtain ⟨d, x', a, b, e⟩ := e_draw (base := base) (t := t ++ [ds, NM]) (x := x) (f := f) (n := ds.length) (by omega) (by omega)
  obtain ⟨y, hy, ey⟩ := at_ok a b
  have ey' : ixD (.list ds) (.int d) = some y := ey
  refine ⟨y, hy, x', ?_⟩
  have hk : (base ++ [PyData.int x', .int f] :: (t ++ [ds, NM])).take (base ++ [PyData.int x, .int f] :: (t ++ [ds, NM])).length = base ++ [.int x', .int f] :: (t ++ [ds, NM]) := List.take_of_length_le (by simp)
  generalize hT : t ++ [ds, NM] = T at *
  have hg : ∀ z : Int, (base ++ [PyData.int z, .int f] :: T)[base.length + (t.length + 1)]? = some ds := fun z => by rw [← hT]; exact g_mid
  unfold m__law_pick B__law_pick
  simp only [defM, fSeq, fIfS, fAnd, fOr, fNot, fB, fAndV, fOrV, fNotV, fIf, fIsi, tyD, fIsA, bnd, opt, fin, fChain, f2, fN, fCons, fNil, fVar, fC, g1, gI, gIC, fRet, fExpr, fCall, pNil, pDat, pNm, fAsg, gNm, gNo, gCo, gTu, fEnd, fFor, fSq, seqD, fSg, fLcD, fLc, fYes, fM1, gSS, fM0, fSl, fNo, fSome, rd, fNmB, fNm2, fNmI, fNmT, fNmJ, fNmS, sc, isSc, fSetI, fApp, fOwn, fLstF, fCatF, fRetO, fPar, fParO, fTru, truB, List.cons_append, List.nil_append, List.getElem?_cons_zero, List.getElem?_cons_succ, List.set_cons_zero, List.set_cons_succ, List.replicate, List.length_cons, List.length_nil, Nat.reduceAdd, Nat.reduceSub, if_true, if_false, Bool.false_eq_true, ↓reduceIte, List.append_nil, gTup0, gTup1, gTup2, gTup3, gLst0, gLst1, gLst2, gLst3, gLst4, gLst5, gLst10, isa_tt, isa_ts, isa_ti, isa_tn, isa_tl, isa_ss, isa_st, isa_si, isa_sn, isa_ii, isa_ib, isa_bi, isa_bb, isa_is, isa_in, isa_it, hg, lenD, e, ey', hk]
theorem e_replD {cs : List Nat} (h : Pt cs) (h9 : inT "{xx" (patS cs) = false) : replD "{x" "{xx" (.str (patS cs)) = some (.str (patS (cs.map sub))) := by
  have hp := pathS_len h.cs.pcs
  have l1 : ("{xx" : Str).length = 3 := by decide +kernel
  show (if (patS cs).length + ((patS cs).length + 1) * ("{xx" : Str).length ≤ 16777216 then _ else _) = _
  have hp' : (patS cs).length ≤ 106 := hp
  rw [if_pos (by rw [l1]; omega), e_repl h.cs (no_xx h9).1 (no_xx h9).2]
theorem rt_if {x : Int} {rs : List Rt} {cs : List Nat} {A B : Sl} (h : ∀ r ∈ rs, RtG r) (hl : rs.length ≤ 11) (hp : Pt cs) : ∃ cs' x', Pt cs' ∧
    rtI [.own base.length, .own (base.length + (t.length + 1)), A, B, .dat (.str (patS cs))] (base ++ [.int x, .int f] :: (t ++ [rs.map rtD, NM])) = some (.nx [.own base.length, .own (base.length + (t.length + 1)), A, B, .dat (.str (patS cs'))] (base ++ [.int x', .int f] :: (t ++ [rs.map rtD, NM]))) := by
  have en := neL h
  have hg : ∀ z : Int, (base ++ [PyData.int z, .int f] :: (t ++ [rs.map rtD, NM]))[base.length + (t.length + 1)]? = some (rs.map rtD) := fun z => g_mid
  cases hrs : rs with
  | nil =>
    rw [hrs] at en
    refine ⟨cs, x, hp, ?_⟩
    unfold rtI
    rw [hrs] at hg
    generalize t ++ [([] : List Rt).map rtD, NM] = T at *
    simp only [defM, fSeq, fIfS, fAnd, fOr, fNot, fB, fAndV, fOrV, fNotV, fIf, fIsi, tyD, fIsA, bnd, opt, fin, fChain, f2, fN, fCons, fNil, fVar, fC, g1, gI, gIC, fRet, fExpr, fCall, pNil, pDat, pNm, fAsg, gNm, gNo, gCo, gTu, fEnd, fFor, fSq, seqD, fSg, fLcD, fLc, fYes, fM1, gSS, fM0, fSl, fNo, fSome, rd, fNmB, fNm2, fNmI, fNmT, fNmJ, fNmS, sc, isSc, fSetI, fApp, fOwn, fLstF, fCatF, fRetO, fPar, fParO, fTru, truB, List.cons_append, List.nil_append, List.getElem?_cons_zero, List.getElem?_cons_succ, List.set_cons_zero, List.set_cons_succ, List.replicate, List.length_cons, List.length_nil, Nat.reduceAdd, Nat.reduceSub, if_true, if_false, Bool.false_eq_true, ↓reduceIte, List.append_nil, gTup0, gTup1, gTup2, gTup3, gLst0, gLst1, gLst2, gLst3, gLst4, gLst5, gLst10, isa_tt, isa_ts, isa_ti, isa_tn, isa_tl, isa_ss, isa_st, isa_si, isa_sn, isa_ii, isa_ib, isa_bi, isa_bb, isa_is, isa_in, isa_it, hg, en, List.isEmpty_nil, Bool.not_true]
  | cons r0 l =>
    rw [← hrs]
    have hne : rs.isEmpty = false := by rw [hrs]; rfl
    rw [hne] at en
    obtain ⟨d1, x1, _, _, e1⟩ := e_draw (base := base) (t := t ++ [rs.map rtD, NM]) (x := x) (f := f) (n := 4) (by decide) (by decide)
    by_cases h1 : d1 = 0
    · subst h1
      obtain ⟨y, hy, x2, e2⟩ := e_pickM (base := base) (t := t) (x := x1) (f := f) (NM := NM) (ds := rs.map rtD) (by rw [List.length_map, hrs]; simp) (by rw [List.length_map]; omega)
      obtain ⟨q, hq, rfl⟩ := List.mem_map.mp hy
      have hqg := h q hq
      have i2 : ixD (rtD q) (.int 2) = some (.str (patS q.cs)) := rfl
      obtain ⟨d2, x3, _, _, e3⟩ := e_draw (base := base) (t := t ++ [rs.map rtD, NM]) (x := x2) (f := f) (n := 2) (by decide) (by decide)
      have g2 : gInT true (.str "{xx") (.str (patS q.cs)) = some (.bool (!inT "{xx" (patS q.cs))) := rfl
      generalize t ++ [rs.map rtD, NM] = T at *
      by_cases h2 : d2 = 0
      · subst h2
        cases hx : inT "{xx" (patS q.cs) with
        | false =>
          rw [hx] at g2
          have er := e_replD hqg.pt hx
          refine ⟨q.cs.map sub, x3, hqg.pt.sub, ?_⟩
          unfold rtI
          simp only [defM, fSeq, fIfS, fAnd, fOr, fNot, fB, fAndV, fOrV, fNotV, fIf, fIsi, tyD, fIsA, bnd, opt, fin, fChain, f2, fN, fCons, fNil, fVar, fC, g1, gI, gIC, fRet, fExpr, fCall, pNil, pDat, pNm, fAsg, gNm, gNo, gCo, gTu, fEnd, fFor, fSq, seqD, fSg, fLcD, fLc, fYes, fM1, gSS, fM0, fSl, fNo, fSome, rd, fNmB, fNm2, fNmI, fNmT, fNmJ, fNmS, sc, isSc, fSetI, fApp, fOwn, fLstF, fCatF, fRetO, fPar, fParO, fTru, truB, List.cons_append, List.nil_append, List.getElem?_cons_zero, List.getElem?_cons_succ, List.set_cons_zero, List.set_cons_succ, List.replicate, List.length_cons, List.length_nil, Nat.reduceAdd, Nat.reduceSub, if_true, if_false, Bool.false_eq_true, ↓reduceIte, List.append_nil, gTup0, gTup1, gTup2, gTup3, gLst0, gLst1, gLst2, gLst3, gLst4, gLst5, gLst10, isa_tt, isa_ts, isa_ti, isa_tn, isa_tl, isa_ss, isa_st, isa_si, isa_sn, isa_ii, isa_ib, isa_bi, isa_bb, isa_is, isa_in, isa_it, hg, en, Bool.not_false, e1, gE1, decide_true, e2, i2, e3, g2, fRepl, er]
        | true =>
          rw [hx] at g2
          refine ⟨q.cs, x3, hqg.pt, ?_⟩
          unfold rtI
          simp only [defM, fSeq, fIfS, fAnd, fOr, fNot, fB, fAndV, fOrV, fNotV, fIf, fIsi, tyD, fIsA, bnd, opt, fin, fChain, f2, fN, fCons, fNil, fVar, fC, g1, gI, gIC, fRet, fExpr, fCall, pNil, pDat, pNm, fAsg, gNm, gNo, gCo, gTu, fEnd, fFor, fSq, seqD, fSg, fLcD, fLc, fYes, fM1, gSS, fM0, fSl, fNo, fSome, rd, fNmB, fNm2, fNmI, fNmT, fNmJ, fNmS, sc, isSc, fSetI, fApp, fOwn, fLstF, fCatF, fRetO, fPar, fParO, fTru, truB, List.cons_append, List.nil_append, List.getElem?_cons_zero, List.getElem?_cons_succ, List.set_cons_zero, List.set_cons_succ, List.replicate, List.length_cons, List.length_nil, Nat.reduceAdd, Nat.reduceSub, if_true, if_false, Bool.false_eq_true, ↓reduceIte, List.append_nil, gTup0, gTup1, gTup2, gTup3, gLst0, gLst1, gLst2, gLst3, gLst4, gLst5, gLst10, isa_tt, isa_ts, isa_ti, isa_tn, isa_tl, isa_ss, isa_st, isa_si, isa_sn, isa_ii, isa_ib, isa_bi, isa_bb, isa_is, isa_in, isa_it, hg, en, Bool.not_false, Bool.not_true, e1, gE1, decide_true, e2, i2, e3, g2]
      · refine ⟨q.cs, x3, hqg.pt, ?_⟩
        unfold rtI
        simp only [defM, fSeq, fIfS, fAnd, fOr, fNot, fB, fAndV, fOrV, fNotV, fIf, fIsi, tyD, fIsA, bnd, opt, fin, fChain, f2, fN, fCons, fNil, fVar, fC, g1, gI, gIC, fRet, fExpr, fCall, pNil, pDat, pNm, fAsg, gNm, gNo, gCo, gTu, fEnd, fFor, fSq, seqD, fSg, fLcD, fLc, fYes, fM1, gSS, fM0, fSl, fNo, fSome, rd, fNmB, fNm2, fNmI, fNmT, fNmJ, fNmS, sc, isSc, fSetI, fApp, fOwn, fLstF, fCatF, fRetO, fPar, fParO, fTru, truB, List.cons_append, List.nil_append, List.getElem?_cons_zero, List.getElem?_cons_succ, List.set_cons_zero, List.set_cons_succ, List.replicate, List.length_cons, List.length_nil, Nat.reduceAdd, Nat.reduceSub, if_true, if_false, Bool.false_eq_true, ↓reduceIte, List.append_nil, gTup0, gTup1, gTup2, gTup3, gLst0, gLst1, gLst2, gLst3, gLst4, gLst5, gLst10, isa_tt, isa_ts, isa_ti, isa_tn, isa_tl, isa_ss, isa_st, isa_si, isa_sn, isa_ii, isa_ib, isa_bi, isa_bb, isa_is, isa_in, isa_it, hg, en, Bool.not_false, e1, gE1, decide_true, e2, i2, e3, h2, decide_false]
    · refine ⟨cs, x1, hp, ?_⟩
      generalize t ++ [rs.map rtD, NM] = T at *
      unfold rtI
      simp only [defM, fSeq, fIfS, fAnd, fOr, fNot, fB, fAndV, fOrV, fNotV, fIf, fIsi, tyD, fIsA, bnd, opt, fin, fChain, f2, fN, fCons, fNil, fVar, fC, g1, gI, gIC, fRet, fExpr, fCall, pNil, pDat, pNm, fAsg, gNm, gNo, gCo, gTu, fEnd, fFor, fSq, seqD, fSg, fLcD, fLc, fYes, fM1, gSS, fM0, fSl, fNo, fSome, rd, fNmB, fNm2, fNmI, fNmT, fNmJ, fNmS, sc, isSc, fSetI, fApp, fOwn, fLstF, fCatF, fRetO, fPar, fParO, fTru, truB, List.cons_append, List.nil_append, List.getElem?_cons_zero, List.getElem?_cons_succ, List.set_cons_zero, List.set_cons_succ, List.replicate, List.length_cons, List.length_nil, Nat.reduceAdd, Nat.reduceSub, if_true, if_false, Bool.false_eq_true, ↓reduceIte, List.append_nil, gTup0, gTup1, gTup2, gTup3, gLst0, gLst1, gLst2, gLst3, gLst4, gLst5, gLst10, isa_tt, isa_ts, isa_ti, isa_tn, isa_tl, isa_ss, isa_st, isa_si, isa_sn, isa_ii, isa_ib, isa_bi, isa_bb, isa_is, isa_in, isa_it, hg, en, Bool.not_false, e1, gE1, h1, decide_false]
theorem rt_turn {x : Int} {rs : List Rt} {n : Str} {A : Sl} {s4 : Sl} (h : ∀ r ∈ rs, RtG r) (hl : rs.length ≤ 11) (hn : n ∈ nmL) : ∃ (r : Rt) (x' : Int) (t4 : Sl), RtG r ∧ r.nm = n ∧
    rtB [.own base.length, .own (base.length + (t.length + 1)), A, .dat (.str n), s4] (base ++ [.int x, .int f] :: (t ++ [rs.map rtD, NM])) = some (.nx [.own base.length, .own (base.length + (t.length + 1)), A, .dat (.str n), t4] (base ++ [.int x', .int f] :: (t ++ [(rs ++ [r]).map rtD, NM]))) := by
  obtain ⟨cs, x1, hp, e1⟩ := e_lpattern (base := base) (t := t ++ [rs.map rtD, NM]) (x := x) (f := f)
  obtain ⟨cs', x2, hp', e2⟩ := rt_if (base := base) (t := t) (f := f) (x := x1) (A := A) (B := .dat (.str n)) (NM := NM) h hl hp
  obtain ⟨y, hy, x3, e3⟩ := e_pick (base := base) (t := t ++ [rs.map rtD, NM]) (x := x2) (f := f) (ds := [.str "get", .str "get", .str "post"]) (by simp) (by simp)
  have hv : ∃ v : Str, (v = "get" ∨ v = "post") ∧ y = .str v := by
    simp only [List.mem_cons, List.not_mem_nil, or_false] at hy
    rcases hy with rfl | rfl | rfl
    · exact ⟨_, .inl rfl, rfl⟩
    · exact ⟨_, .inl rfl, rfl⟩
    · exact ⟨_, .inr rfl, rfl⟩
  obtain ⟨v, hv, rfl⟩ := hv
  have hz : (rs.map rtD).length < sizeLine := Nat.lt_of_lt_of_le (show (rs.map rtD).length < 12 by rw [List.length_map]; omega) (by decide)
  refine ⟨⟨n, v, cs'⟩, x3, .dat (.str (patS cs')), ⟨hn, hv, hp'⟩, rfl, ?_⟩
  have es : (rs ++ [(⟨n, v, cs'⟩ : Rt)]).map rtD = rs.map rtD ++ [.tuple [.str n, .str v, .str (patS cs')]] := by simp [rtD]
  rw [es]
  have hg : ∀ z : Int, (base ++ [PyData.int z, .int f] :: (t ++ [rs.map rtD, NM]))[base.length + (t.length + 1)]? = some (rs.map rtD) := fun z => g_mid
  have hs : ∀ (z : Int) (c : List PyData), (base ++ [PyData.int z, .int f] :: (t ++ [rs.map rtD, NM])).set (base.length + (t.length + 1)) c = base ++ [.int z, .int f] :: (t ++ [c, NM]) := fun z c => s_mid
  generalize t ++ [rs.map rtD, NM] = T at *
  unfold rtB
  simp only [defM, fSeq, fIfS, fAnd, fOr, fNot, fB, fAndV, fOrV, fNotV, fIf, fIsi, tyD, fIsA, bnd, opt, fin, fChain, f2, fN, fCons, fNil, fVar, fC, g1, gI, gIC, fRet, fExpr, fCall, pNil, pDat, pNm, fAsg, gNm, gNo, gCo, gTu, fEnd, fFor, fSq, seqD, fSg, fLcD, fLc, fYes, fM1, gSS, fM0, fSl, fNo, fSome, rd, fNmB, fNm2, fNmI, fNmT, fNmJ, fNmS, sc, isSc, fSetI, fApp, fOwn, fLstF, fCatF, fRetO, fPar, fParO, fTru, truB, List.cons_append, List.nil_append, List.getElem?_cons_zero, List.getElem?_cons_succ, List.set_cons_zero, List.set_cons_succ, List.replicate, List.length_cons, List.length_nil, Nat.reduceAdd, Nat.reduceSub, if_true, if_false, Bool.false_eq_true, ↓reduceIte, List.append_nil, gTup0, gTup1, gTup2, gTup3, gLst0, gLst1, gLst2, gLst3, gLst4, gLst5, gLst10, isa_tt, isa_ts, isa_ti, isa_tn, isa_tl, isa_ss, isa_st, isa_si, isa_sn, isa_ii, isa_ib, isa_bi, isa_bb, isa_is, isa_in, isa_it, e1, e2, e3, hg, hs, if_pos hz]
theorem rt_loop {A : Sl} : ∀ (ns : List Str) (rs : List Rt) (x : Int) (s3 s4 : Sl), (∀ n ∈ ns, n ∈ nmL) → (∀ r ∈ rs, RtG r) → rs.length + ns.length ≤ 11 → ∃ (rs' : List Rt) (x' : Int) (t3 t4 : Sl), rs'.map Rt.nm = rs.map Rt.nm ++ ns ∧ (∀ r ∈ rs', RtG r) ∧
    loopF (gNm 3) rtB (ns.map PyData.str) [.own base.length, .own (base.length + (t.length + 1)), A, s3, s4] (base ++ [.int x, .int f] :: (t ++ [rs.map rtD, NM])) = some (.nx [.own base.length, .own (base.length + (t.length + 1)), A, t3, t4] (base ++ [.int x', .int f] :: (t ++ [rs'.map rtD, NM])))
  | [], rs, x, s3, s4, _, h, _ => ⟨rs, x, s3, s4, by simp, h, rfl⟩
  | n :: ns, rs, x, s3, s4, hn, h, hl => by
    rw [List.length_cons] at hl
    obtain ⟨r, x1, t4, hr, er, e1⟩ := rt_turn (base := base) (t := t) (f := f) (NM := NM) (x := x) (n := n) (A := A) (s4 := s4) h (by omega) (hn n (by simp))
    obtain ⟨rs', x', t3', t4', h1, h2, e2⟩ := rt_loop (A := A) ns (rs ++ [r]) x1 (.dat (.str n)) t4 (fun m hm => hn m (by simp [hm])) (fun q hq => by
      rcases List.mem_append.mp hq with hq | hq
      · exact h q hq
      · rw [show q = r by simpa using hq]; exact hr) (by rw [List.length_append]; simp; omega)
    refine ⟨rs', x', t3', t4', by rw [h1, List.map_append, List.append_assoc, List.map_cons, List.map_nil, er]; rfl, h2, ?_⟩
    rw [List.map_cons]
    unfold loopF
    have hg : gNm 3 (.str n) [.own base.length, .own (base.length + (t.length + 1)), A, s3, s4] = some [.own base.length, .own (base.length + (t.length + 1)), A, .dat (.str n), s4] := rfl
    rw [hg]
    show (match rtB _ _ with | some (.nx ρ2 m2) => loopF (gNm 3) rtB _ ρ2 m2 | some (.ct ρ2 m2) => loopF (gNm 3) rtB _ ρ2 m2 | some (.bk ρ2 m2) => some (.nx ρ2 m2) | some (.rt v m2) => some (.rt v m2) | none => none) = _
    rw [e1]
    exact e2
structure RtsG (rs : List Rt) : Prop where
  one : 1 ≤ rs.length
  ten : rs.length ≤ 11
  ok : ∀ r ∈ rs, RtG r
theorem B_lroutes2_eq : B__law_routes = (fSeq (fOwn 1 (fLstF fNil))
  (fSeq (fOwn 2 (fLstF (fCons (fC (.str "one")) (fCons (fC (.str "two")) (fCons (fC (.str "three")) (fCons (fC (.str "four")) (fCons (fC (.str "five")) (fCons (fC (.str "six")) (fCons (fC (.str "seven")) (fCons (fC (.str "eight")) (fCons (fC (.str "nine")) (fCons (fC (.str "ten")) fNil))))))))))))
  (fSeq (fApp 2 (fC (.str "eleven")))
  (fSeq (fFor (fSq (fNmS 2 fNo (fSome (f2 (fC (.int (1))) (fCall m__law_draw (pNm 0 (pDat (fC (.int (11))) pNil))) gAdd)))) (gNm 3) rtB)
  (fRet (fNmT 1)))))) := rfl
def nm10 : List PyData := [.str "one", .str "two", .str "three", .str "four", .str "five", .str "six", .str "seven", .str "eight", .str "nine", .str "ten"]
theorem seq_nx {F G : FS} {ρ ρ1 : Rho} {μ m1 : Mu} (h : F ρ μ = some (.nx ρ1 m1)) : fSeq F G ρ μ = G ρ1 m1 := by unfold fSeq; rw [h]
theorem for_of {fi : FI} {g : FG} {B : FS} {ρ : Rho} {μ m : Mu} {ds : List PyData} {o : Out} (h1 : fi ρ μ = some (ds, m)) (h2 : loopF g B ds ρ m = some o) : fFor fi g B ρ μ = some o := by
  unfold fFor
  rw [h1]; exact h2
theorem app_of {i k : Nat} {f : FE} {ρ : Rho} {μ m : Mu} {xs : List PyData} {d : PyData} (h : f ρ μ = some (d, m)) (hi : ρ[i]? = some (.own k)) (hk : m[k]? = some xs) (hl : xs.length < 200000) : fApp i f ρ μ = some (.nx ρ (m.set k (xs ++ [d]))) := by
  unfold fApp
  rw [hi]
  show bnd (f ρ μ) _ = _
  rw [h]
  show opt (m[k]?) _ = _
  rw [hk]
  show (if xs.length < sizeLine then _ else _) = _
  rw [if_pos (Nat.lt_of_lt_of_le hl (by decide))]
theorem defM_rd {n nn : Nat} {B : FS} {ρ : Rho} {μ m : Mu} {d : PyData} (h : B (ρ ++ List.replicate (nn - n) .un) μ = some (.rt (.dat d) m)) : defM n nn B ρ μ = some (d, m.take μ.length) := by
  unfold defM
  rw [h]
theorem cut_nm {d : Int} (h0 : 0 ≤ d) (h1 : d < 11) : DL.cutD (nm10 ++ [.str "eleven"]) none (some (1 + d)) = (nmL.take (1 + d).toNat).map PyData.str := by
  show DL.cutD (nmL.map PyData.str) none (some (1 + d)) = _
  unfold DL.cutD
  have e1 : HT.sIx (nmL.map PyData.str).length (nmL.map PyData.str).length (some (1 + d)) = (1 + d).toNat := by
    show (if 1 + d < 0 then _ else min (1 + d).toNat (nmL.map PyData.str).length) = _
    rw [if_neg (by omega)]
    show min (1 + d).toNat 11 = _
    omega
  rw [e1, HT.sIx_none, List.drop_zero, Nat.sub_zero, List.map_take]
theorem e_lrts {x : Int} : ∃ (rs : List Rt) (x' : Int), RtsG rs ∧ m__law_routes [.own base.length] (base ++ [.int x, .int f] :: t) = some (.tuple (rs.map rtD), base ++ [.int x', .int f] :: t) := by
  have hz : (0 : Nat) ≤ sizeLine := Nat.zero_le _
  have h1 : fOwn 1 (fLstF fNil) [.own base.length, .un, .un, .un, .un] (base ++ [.int x, .int f] :: t) = some (.nx [.own base.length, .own (base.length + (t.length + 1)), .un, .un, .un] (base ++ [.int x, .int f] :: (t ++ [[]]))) := by
    simp only [defM, fSeq, fIfS, fAnd, fOr, fNot, fB, fAndV, fOrV, fNotV, fIf, fIsi, tyD, fIsA, bnd, opt, fin, fChain, f2, fN, fCons, fNil, fVar, fC, g1, gI, gIC, fRet, fExpr, fCall, pNil, pDat, pNm, fAsg, gNm, gNo, gCo, gTu, fEnd, fFor, fSq, seqD, fSg, fLcD, fLc, fYes, fM1, gSS, fM0, fSl, fNo, fSome, rd, fNmB, fNm2, fNmI, fNmT, fNmJ, fNmS, sc, isSc, fSetI, fApp, fOwn, fLstF, fCatF, fRetO, fPar, fParO, fTru, truB, List.cons_append, List.nil_append, List.getElem?_cons_zero, List.getElem?_cons_succ, List.set_cons_zero, List.set_cons_succ, List.replicate, List.length_cons, List.length_nil, Nat.reduceAdd, Nat.reduceSub, if_true, if_false, Bool.false_eq_true, ↓reduceIte, List.append_nil, gTup0, gTup1, gTup2, gTup3, gLst0, gLst1, gLst2, gLst3, gLst4, gLst5, gLst10, isa_tt, isa_ts, isa_ti, isa_tn, isa_tl, isa_ss, isa_st, isa_si, isa_sn, isa_ii, isa_ib, isa_bi, isa_bb, isa_is, isa_in, isa_it, if_pos hz, ln, st1]
  have h2 : fOwn 2 (fLstF (fCons (fC (.str "one")) (fCons (fC (.str "two")) (fCons (fC (.str "three")) (fCons (fC (.str "four")) (fCons (fC (.str "five")) (fCons (fC (.str "six")) (fCons (fC (.str "seven")) (fCons (fC (.str "eight")) (fCons (fC (.str "nine")) (fCons (fC (.str "ten")) fNil))))))))))) [.own base.length, .own (base.length + (t.length + 1)), .un, .un, .un] (base ++ [.int x, .int f] :: (t ++ [[]])) = some (.nx [.own base.length, .own (base.length + (t.length + 1)), .own (base.length + (t.length + 2)), .un, .un] (base ++ [.int x, .int f] :: (t ++ [[], nm10]))) := by
    have hz : (10 : Nat) ≤ sizeLine := line_ge (by decide)
    have e : (base ++ [PyData.int x, .int f] :: (t ++ [[]])) ++ [nm10] = base ++ [.int x, .int f] :: (t ++ [[], nm10]) := by simp
    have el : (base ++ [PyData.int x, .int f] :: (t ++ [[]])).length = base.length + (t.length + 2) := by simp
    unfold fOwn
    have : fLstF (fCons (fC (.str "one")) (fCons (fC (.str "two")) (fCons (fC (.str "three")) (fCons (fC (.str "four")) (fCons (fC (.str "five")) (fCons (fC (.str "six")) (fCons (fC (.str "seven")) (fCons (fC (.str "eight")) (fCons (fC (.str "nine")) (fCons (fC (.str "ten")) fNil)))))))))) [.own base.length, .own (base.length + (t.length + 1)), .un, .un, .un] (base ++ [.int x, .int f] :: (t ++ [[]])) = some (nm10, base ++ [.int x, .int f] :: (t ++ [[]])) := by
      show (if (10 : Nat) ≤ sizeLine then some (nm10, base ++ [PyData.int x, .int f] :: (t ++ [[]])) else none) = _
      rw [if_pos hz]
    rw [this]
    show some (Out.nx [.own base.length, .own (base.length + (t.length + 1)), .own (base ++ [PyData.int x, .int f] :: (t ++ [[]])).length, .un, .un] ((base ++ [PyData.int x, .int f] :: (t ++ [[]])) ++ [nm10])) = _
    rw [e, el]
  have h3 : fApp 2 (fC (.str "eleven")) [.own base.length, .own (base.length + (t.length + 1)), .own (base.length + (t.length + 2)), .un, .un] (base ++ [.int x, .int f] :: (t ++ [[], nm10])) = some (.nx [.own base.length, .own (base.length + (t.length + 1)), .own (base.length + (t.length + 2)), .un, .un] (base ++ [.int x, .int f] :: (t ++ [[], nm10 ++ [.str "eleven"]]))) := by
    have hz : nm10.length < sizeLine := Nat.lt_of_lt_of_le (show nm10.length < 11 by decide) (by decide)
    have hg : (base ++ [PyData.int x, .int f] :: (t ++ [[], nm10]))[base.length + (t.length + 2)]? = some nm10 := g_end
    have hs : (base ++ [PyData.int x, .int f] :: (t ++ [[], nm10])).set (base.length + (t.length + 2)) (nm10 ++ [.str "eleven"]) = base ++ [.int x, .int f] :: (t ++ [[], nm10 ++ [.str "eleven"]]) := s_end
    have := app_of (i := 2) (f := fC (.str "eleven")) (d := .str "eleven") (ρ := [.own base.length, .own (base.length + (t.length + 1)), .own (base.length + (t.length + 2)), .un, .un]) (μ := base ++ [PyData.int x, .int f] :: (t ++ [[], nm10])) rfl rfl hg (Nat.lt_of_lt_of_le (show nm10.length < 11 by decide) (by decide))
    rw [hs] at this
    exact this
  obtain ⟨d, x1, a1, b1, e1⟩ := e_draw (base := base) (t := t ++ [[], nm10 ++ [.str "eleven"]]) (x := x) (f := f) (n := 11) (by decide) (by decide)
  have hl : (nmL.take (1 + d).toNat).length = (1 + d).toNat := by
    rw [List.length_take]
    show min (1 + d).toNat 11 = _
    omega
  obtain ⟨rs, x2, t3, t4, hn, hg, e2⟩ := rt_loop (base := base) (t := t) (f := f) (NM := nm10 ++ [.str "eleven"]) (A := .own (base.length + (t.length + 2))) (nmL.take (1 + d).toNat) [] x1 .un .un (fun n hn => List.mem_of_mem_take hn) (fun _ h => by simp at h) (by rw [hl]; simp; omega)
  have hn' : rs.map Rt.nm = nmL.take (1 + d).toNat := by simpa using hn
  have hlen : rs.length = (1 + d).toNat := by have := congrArg List.length hn'; rw [List.length_map, hl] at this; exact this
  have h4 : fSq (fNmS 2 fNo (fSome (f2 (fC (.int (1))) (fCall m__law_draw (pNm 0 (pDat (fC (.int (11))) pNil))) gAdd))) [.own base.length, .own (base.length + (t.length + 1)), .own (base.length + (t.length + 2)), .un, .un] (base ++ [.int x, .int f] :: (t ++ [[], nm10 ++ [.str "eleven"]])) = some ((nmL.take (1 + d).toNat).map PyData.str, base ++ [.int x1, .int f] :: (t ++ [[], nm10 ++ [.str "eleven"]])) := by
    have hg : (base ++ [PyData.int x1, .int f] :: (t ++ [[], nm10 ++ [.str "eleven"]]))[base.length + (t.length + 2)]? = some (nm10 ++ [.str "eleven"]) := g_end
    have hc := cut_nm a1 b1
    generalize nm10 ++ [.str "eleven"] = NM at *
    generalize t ++ [[], NM] = T at *
    simp only [defM, fSeq, fIfS, fAnd, fOr, fNot, fB, fAndV, fOrV, fNotV, fIf, fIsi, tyD, fIsA, bnd, opt, fin, fChain, f2, fN, fCons, fNil, fVar, fC, g1, gI, gIC, fRet, fExpr, fCall, pNil, pDat, pNm, fAsg, gNm, gNo, gCo, gTu, fEnd, fFor, fSq, seqD, fSg, fLcD, fLc, fYes, fM1, gSS, fM0, fSl, fNo, fSome, rd, fNmB, fNm2, fNmI, fNmT, fNmJ, fNmS, sc, isSc, fSetI, fApp, fOwn, fLstF, fCatF, fRetO, fPar, fParO, fTru, truB, List.cons_append, List.nil_append, List.getElem?_cons_zero, List.getElem?_cons_succ, List.set_cons_zero, List.set_cons_succ, List.replicate, List.length_cons, List.length_nil, Nat.reduceAdd, Nat.reduceSub, if_true, if_false, Bool.false_eq_true, ↓reduceIte, List.append_nil, gTup0, gTup1, gTup2, gTup3, gLst0, gLst1, gLst2, gLst3, gLst4, gLst5, gLst10, isa_tt, isa_ts, isa_ti, isa_tn, isa_tl, isa_ss, isa_st, isa_si, isa_sn, isa_ii, isa_ib, isa_bi, isa_bb, isa_is, isa_in, isa_it, e1, gA1, hg, hc]
  refine ⟨rs, x2, ⟨by omega, by omega, hg⟩, ?_⟩
  have eB : B__law_routes [.own base.length, .un, .un, .un, .un] (base ++ [.int x, .int f] :: t) = some (.rt (.dat (.tuple (rs.map rtD))) (base ++ [.int x2, .int f] :: (t ++ [rs.map rtD, nm10 ++ [.str "eleven"]]))) := by
    rw [B_lroutes2_eq, seq_nx h1, seq_nx h2, seq_nx h3, seq_nx (for_of h4 e2)]
    have hg : (base ++ [PyData.int x2, .int f] :: (t ++ [rs.map rtD, nm10 ++ [.str "eleven"]]))[base.length + (t.length + 1)]? = some (rs.map rtD) := g_mid
    generalize nm10 ++ [.str "eleven"] = NM at *
    generalize t ++ [rs.map rtD, NM] = T at *
    simp only [defM, fSeq, fIfS, fAnd, fOr, fNot, fB, fAndV, fOrV, fNotV, fIf, fIsi, tyD, fIsA, bnd, opt, fin, fChain, f2, fN, fCons, fNil, fVar, fC, g1, gI, gIC, fRet, fExpr, fCall, pNil, pDat, pNm, fAsg, gNm, gNo, gCo, gTu, fEnd, fFor, fSq, seqD, fSg, fLcD, fLc, fYes, fM1, gSS, fM0, fSl, fNo, fSome, rd, fNmB, fNm2, fNmI, fNmT, fNmJ, fNmS, sc, isSc, fSetI, fApp, fOwn, fLstF, fCatF, fRetO, fPar, fParO, fTru, truB, List.cons_append, List.nil_append, List.getElem?_cons_zero, List.getElem?_cons_succ, List.set_cons_zero, List.set_cons_succ, List.replicate, List.length_cons, List.length_nil, Nat.reduceAdd, Nat.reduceSub, if_true, if_false, Bool.false_eq_true, ↓reduceIte, List.append_nil, gTup0, gTup1, gTup2, gTup3, gLst0, gLst1, gLst2, gLst3, gLst4, gLst5, gLst10, isa_tt, isa_ts, isa_ti, isa_tn, isa_tl, isa_ss, isa_st, isa_si, isa_sn, isa_ii, isa_ib, isa_bi, isa_bb, isa_is, isa_in, isa_it, hg]
  have := defM_rd (n := 1) (nn := 5) (B := B__law_routes) (ρ := [.own base.length]) (μ := base ++ [.int x, .int f] :: t) eB
  rw [ln, tk3] at this
  exact this
end
end Law
namespace Law
open PySem PySem.Spec PyProof.Rows L2 DL
local instance : Tabs := ⟨[]⟩
open TL
structure Gs (n : Nat) (x : Str) : Prop where
  f : fit (.str x) = true
  l : x.length ≤ n
theorem Gs.sm {n : Nat} {x : Str} (h : Gs n x) (hn : n ≤ 200000) : Sm (.str x) := ⟨h.f, Nat.le_trans h.l hn⟩
theorem pcs_le {l : List Nat} {p : Str} (hp : p ∈ pcs l) : p.length ≤ l.length := by
  unfold pcs at hp
  obtain ⟨q, hq, rfl⟩ := List.mem_map.mp hp
  have := (spl_in l [] q hq).1
  rw [len_tl, tl_mkS]; simpa using this
theorem pat_parts {cs : List Nat} (h : Cs cs) : ∃ ps : List Str, splitD (patS cs) (.str "/") = some (.list (.str "" :: ps.map PyData.str)) ∧ ps.length ≤ 107 ∧ ∀ p ∈ ps, Gs 106 p := by
  have hs := pat_sm h
  have el : tl (patS cs) = 47 :: tl (Txt.join "/" (cs.map tx)) := tl_pathS _
  generalize hL : tl (Txt.join "/" (cs.map tx)) = l at el
  have hsm : Sm (.str (patS cs)) := ⟨hs.1, Nat.le_trans hs.2 (by decide)⟩
  have hl : l.length ≤ 105 := by
    have := hs.2
    rw [len_tl, el, List.length_cons] at this
    omega
  refine ⟨pcs l, sp_all hsm.len el, ?_, fun p hp => ⟨(hsm.pcs el p hp).f, ?_⟩⟩
  · unfold pcs
    have := spl_cnt l []
    rw [List.length_map]; omega
  · have := pcs_le hp
    omega
def paB : FS := (fSeq (fAsg (fCall m__law_pick (pNm 0 (pDat (fN (fCons (fC (.str "a")) (fCons (fC (.str "b")) (fCons (fC (.str "7")) (fCons (fC (.str "no")) (fCons (fC (.str "0")) (fCons (fC (.str "12")) (fCons (fC (.str "9999")) (fCons (fC (.str "00")) (fCons (fC (.str "10000")) (fCons (fC (.str "x-9")) fNil)))))))))) gLst) pNil))) (gNm 5))
  (fApp 4 (fIf (fOr (fB (f2 (fSl (fVar 2) fNo (fSome (fC (.int (1))))) (fC (.str "{")) gEq)) (fB (f2 (fCall m__law_draw (pNm 0 (pDat (fC (.int (9))) pNil))) (fC (.int (0))) gEq))) (fVar 5) (fVar 2))))
def paI : FS := (fIfS (fB (f2 (fCall m__law_draw (pNm 0 (pDat (fC (.int (8))) pNil))) (fC (.int (0))) gEq))
    (fOwn 4 (fCatF (fNmS 4 (fSome (fC (.int (1)))) fNo) (fN (fCons (fC (.str "a")) fNil) gLst)))
    fEnd)
def paR : FE := (f2 (fC (.str "/")) (fM1 (fC (.str "/")) (fSl (fLcND 4 (gNm 5) (fB (f2 (fVar 5) (fC (.str "")) gNe)) (fVar 5) [5]) fNo (fSome (fC (.int (5))))) joinD) gAdd)
def paS : FE := (fSl (fM1 (f2 (fCall m__law_pick (pNm 0 (pNm 1 pNil))) (fC (.int (2))) ixD) (fC (.str "/")) splitD) (fSome (fC (.int (1)))) fNo)
theorem B_path_eq : B__law_path = fSeq (fParO 3 4 paS (fLstF fNil)) (fSeq (fFor (fSq (fVar 3)) (gNm 2) paB) (fSeq paI (fRet paR))) := rfl
def wdL : List PyData := [.str "a", .str "b", .str "7", .str "no", .str "0", .str "12", .str "9999", .str "00", .str "10000", .str "x-9"]
theorem wd_gs : ∀ y ∈ wdL, ∃ w : Str, Gs 106 w ∧ y = .str w := by
  intro y hy
  simp only [wdL, List.mem_cons, List.not_mem_nil, or_false] at hy
  rcases hy with rfl | rfl | rfl | rfl | rfl | rfl | rfl | rfl | rfl | rfl <;> exact ⟨_, ⟨by decide +kernel, by decide +kernel⟩, rfl⟩
theorem cut_gs {x : Str} {n : Nat} (h : Gs n x) (lo hi : Option Int) : Gs n (cutS x lo hi) := by
  refine ⟨fit_str.mpr fun c hc => fit_str.mp h.f c ?_, Nat.le_trans (cutS_length x lo hi) h.l⟩
  rw [tl_cut] at hc
  exact List.mem_of_mem_drop (List.mem_of_mem_take hc)
theorem app_gs {x y : Str} {n m : Nat} (h : Gs n x) (h2 : Gs m y) : Gs (n + m) (x ++ y) := by
  refine ⟨fit_str.mpr fun c hc => ?_, by rw [len_app]; exact Nat.add_le_add h.l h2.l⟩
  rw [tl_append] at hc
  rcases List.mem_append.mp hc with hc | hc
  · exact fit_str.mp h.f c hc
  · exact fit_str.mp h2.f c hc
section
variable {base t : Mu} {f : Int}
theorem pa_turn {x : Int} {p : Str} {ws : List Str} {R : PyData} {s3 s5 : Sl} (hp : Gs 106 p) (hw : ∀ w ∈ ws, Gs 106 w) (hl : ws.length ≤ 1000) : ∃ (w : Str) (x' : Int) (t5 : Sl), Gs 106 w ∧
    paB [.own base.length, .dat R, .dat (.str p), s3, .own (base.length + (t.length + 1)), s5] (base ++ [.int x, .int f] :: (t ++ [ws.map PyData.str])) = some (.nx [.own base.length, .dat R, .dat (.str p), s3, .own (base.length + (t.length + 1)), t5] (base ++ [.int x', .int f] :: (t ++ [(ws ++ [w]).map PyData.str]))) := by
  obtain ⟨y, hy, x1, e1⟩ := e_pick (base := base) (t := t ++ [ws.map PyData.str]) (x := x) (f := f) (ds := wdL) (by decide) (by decide)
  obtain ⟨w, hw1, rfl⟩ := wd_gs y hy
  obtain ⟨d, x2, d0, d1, e2⟩ := e_draw (base := base) (t := t ++ [ws.map PyData.str]) (x := x1) (f := f) (n := 9) (by decide) (by decide)
  have hz : (ws.map PyData.str).length < sizeLine := Nat.lt_of_lt_of_le (show (ws.map PyData.str).length < 1001 by rw [List.length_map]; omega) (by decide)
  have c0 := sl_ok (x := p) (Nat.le_trans hp.l (by decide)) none (some 1)
  have hE : gEq (.str (cutS p none (some 1))) (.str "{") = some (.bool (decide (cutS p none (some 1) = "{"))) := rfl
  unfold wdL at e1
  by_cases h1 : cutS p none (some 1) = "{"
  · refine ⟨w, x1, .dat (.str w), hw1, ?_⟩
    unfold paB
    simp only [defM, fSeq, fIfS, fAnd, fOr, fNot, fB, fAndV, fOrV, fNotV, fIf, fIsi, tyD, fIsA, bnd, opt, fin, fChain, f2, fN, fCons, fNil, fVar, fC, g1, gI, gIC, fRet, fExpr, fCall, pNil, pDat, pNm, fAsg, gNm, gNo, gCo, gTu, fEnd, fFor, fSq, seqD, fSg, fLcD, fLc, fYes, fM1, gSS, fM0, fSl, fNo, fSome, rd, fNmB, fNm2, fNmI, fNmT, fNmJ, fNmS, sc, isSc, fSetI, fApp, fOwn, fLstF, fCatF, fRetO, fPar, fParO, fTru, truB, List.cons_append, List.nil_append, List.getElem?_cons_zero, List.getElem?_cons_succ, List.set_cons_zero, List.set_cons_succ, List.replicate, List.length_cons, List.length_nil, Nat.reduceAdd, Nat.reduceSub, if_true, if_false, Bool.false_eq_true, ↓reduceIte, List.append_nil, gTup0, gTup1, gTup2, gTup3, gLst0, gLst1, gLst2, gLst3, gLst4, gLst5, gLst10, isa_tt, isa_ts, isa_ti, isa_tn, isa_tl, isa_ss, isa_st, isa_si, isa_sn, isa_ii, isa_ib, isa_bi, isa_bb, isa_is, isa_in, isa_it, e1, c0, gE2, h1, decide_true, g_acc, if_pos hz, s_acc, List.map_append, List.map_cons, List.map_nil]
  · by_cases h2 : d = 0
    · subst h2
      refine ⟨w, x2, .dat (.str w), hw1, ?_⟩
      unfold paB
      simp only [defM, fSeq, fIfS, fAnd, fOr, fNot, fB, fAndV, fOrV, fNotV, fIf, fIsi, tyD, fIsA, bnd, opt, fin, fChain, f2, fN, fCons, fNil, fVar, fC, g1, gI, gIC, fRet, fExpr, fCall, pNil, pDat, pNm, fAsg, gNm, gNo, gCo, gTu, fEnd, fFor, fSq, seqD, fSg, fLcD, fLc, fYes, fM1, gSS, fM0, fSl, fNo, fSome, rd, fNmB, fNm2, fNmI, fNmT, fNmJ, fNmS, sc, isSc, fSetI, fApp, fOwn, fLstF, fCatF, fRetO, fPar, fParO, fTru, truB, List.cons_append, List.nil_append, List.getElem?_cons_zero, List.getElem?_cons_succ, List.set_cons_zero, List.set_cons_succ, List.replicate, List.length_cons, List.length_nil, Nat.reduceAdd, Nat.reduceSub, if_true, if_false, Bool.false_eq_true, ↓reduceIte, List.append_nil, gTup0, gTup1, gTup2, gTup3, gLst0, gLst1, gLst2, gLst3, gLst4, gLst5, gLst10, isa_tt, isa_ts, isa_ti, isa_tn, isa_tl, isa_ss, isa_st, isa_si, isa_sn, isa_ii, isa_ib, isa_bi, isa_bb, isa_is, isa_in, isa_it, e1, c0, gE2, h1, decide_false, e2, gE1, decide_true, g_acc, if_pos hz, s_acc, List.map_append, List.map_cons, List.map_nil]
    · refine ⟨p, x2, .dat (.str w), hp, ?_⟩
      unfold paB
      simp only [defM, fSeq, fIfS, fAnd, fOr, fNot, fB, fAndV, fOrV, fNotV, fIf, fIsi, tyD, fIsA, bnd, opt, fin, fChain, f2, fN, fCons, fNil, fVar, fC, g1, gI, gIC, fRet, fExpr, fCall, pNil, pDat, pNm, fAsg, gNm, gNo, gCo, gTu, fEnd, fFor, fSq, seqD, fSg, fLcD, fLc, fYes, fM1, gSS, fM0, fSl, fNo, fSome, rd, fNmB, fNm2, fNmI, fNmT, fNmJ, fNmS, sc, isSc, fSetI, fApp, fOwn, fLstF, fCatF, fRetO, fPar, fParO, fTru, truB, List.cons_append, List.nil_append, List.getElem?_cons_zero, List.getElem?_cons_succ, List.set_cons_zero, List.set_cons_succ, List.replicate, List.length_cons, List.length_nil, Nat.reduceAdd, Nat.reduceSub, if_true, if_false, Bool.false_eq_true, ↓reduceIte, List.append_nil, gTup0, gTup1, gTup2, gTup3, gLst0, gLst1, gLst2, gLst3, gLst4, gLst5, gLst10, isa_tt, isa_ts, isa_ti, isa_tn, isa_tl, isa_ss, isa_st, isa_si, isa_sn, isa_ii, isa_ib, isa_bi, isa_bb, isa_is, isa_in, isa_it, e1, c0, gE2, h1, decide_false, e2, gE1, h2, g_acc, if_pos hz, s_acc, List.map_append, List.map_cons, List.map_nil]
theorem pa_loop {R : PyData} {s3 : Sl} : ∀ (ps : List Str) (ws : List Str) (x : Int) (s2 s5 : Sl), (∀ p ∈ ps, Gs 106 p) → (∀ w ∈ ws, Gs 106 w) → ws.length + ps.length ≤ 1000 → ∃ (ws' : List Str) (x' : Int) (t2 t5 : Sl), (∀ w ∈ ws', Gs 106 w) ∧ ws'.length = ws.length + ps.length ∧
    loopF (gNm 2) paB (ps.map PyData.str) [.own base.length, .dat R, s2, s3, .own (base.length + (t.length + 1)), s5] (base ++ [.int x, .int f] :: (t ++ [ws.map PyData.str])) = some (.nx [.own base.length, .dat R, t2, s3, .own (base.length + (t.length + 1)), t5] (base ++ [.int x', .int f] :: (t ++ [ws'.map PyData.str])))
  | [], ws, x, s2, s5, _, hw, _ => ⟨ws, x, s2, s5, hw, rfl, rfl⟩
  | p :: ps, ws, x, s2, s5, hp, hw, hl => by
    rw [List.length_cons] at hl
    obtain ⟨w, x1, t5, hw1, e1⟩ := pa_turn (base := base) (t := t) (f := f) (x := x) (R := R) (s3 := s3) (s5 := s5) (hp p (by simp)) hw (by omega)
    obtain ⟨ws', x2, t2, t5', h1, h2, e2⟩ := pa_loop (R := R) (s3 := s3) ps (ws ++ [w]) x1 (.dat (.str p)) t5 (fun q hq => hp q (by simp [hq])) (fun q hq => by
      rcases List.mem_append.mp hq with hq | hq
      · exact hw q hq
      · rw [List.mem_singleton.mp hq]; exact hw1) (by rw [List.length_append]; simp; omega)
    refine ⟨ws', x2, t2, t5', h1, by rw [h2, List.length_append, List.length_cons, List.length_cons, List.length_nil]; omega, ?_⟩
    rw [List.map_cons]
    show (match paB [.own base.length, .dat R, .dat (.str p), s3, .own (base.length + (t.length + 1)), s5] _ with | some (.nx ρ2 m2) => loopF (gNm 2) paB (ps.map PyData.str) ρ2 m2 | some (.ct ρ2 m2) => loopF (gNm 2) paB (ps.map PyData.str) ρ2 m2 | some (.bk ρ2 m2) => some (.nx ρ2 m2) | some (.rt v m2) => some (.rt v m2) | none => none) = _
    rw [e1]
    exact e2
theorem cut_take (ds : List PyData) {v : Int} (h : 0 ≤ v) : slD (.list ds) none (some v) = some (.list (ds.take v.toNat)) := by
  show some (PyData.list (DL.cutD ds none (some v))) = _
  unfold DL.cutD
  have e1 : HT.sIx ds.length ds.length (some v) = min v.toNat ds.length := by
    show (if v < 0 then _ else _) = _
    rw [if_neg (by omega)]
  rw [HT.sIx_none, e1]
  congr 2
  rw [List.drop_zero, Nat.sub_zero]
  rw [List.take_eq_take_iff]
  omega
theorem joinL_in (S : List Nat) : ∀ (ps : List (List Nat)) (c : Nat), c ∈ joinL S ps → c ∈ S ∨ ∃ p ∈ ps, c ∈ p
  | [], c, h => by cases h
  | [p], c, h => .inr ⟨p, by simp, h⟩
  | p :: q :: r, c, h => by
    rw [joinL_cc] at h
    rcases List.mem_append.mp h with h | h
    · exact .inr ⟨p, by simp, h⟩
    · rcases List.mem_append.mp h with h | h
      · exact .inl h
      · rcases joinL_in S (q :: r) c h with h | ⟨z, hz, h⟩
        · exact .inl h
        · exact .inr ⟨z, List.mem_cons_of_mem _ hz, h⟩
theorem join_gs {ws : List Str} (hw : ∀ w ∈ ws, Gs 106 w) (hl : ws.length ≤ 5) : joinD "/" (.list (ws.map PyData.str)) = some (.str (Txt.join "/" ws)) ∧ Gs 600 (Txt.join "/" ws) := by
  have l1 : ("/" : Str).length = 1 := by decide +kernel
  have hs : ∀ (zs : List Str), (∀ w ∈ zs, Gs 106 w) → (zs.map (·.length)).sum ≤ zs.length * 106 := by
    intro zs
    induction zs with
    | nil => exact fun _ => Nat.le_refl _
    | cons a r ih =>
      intro h
      have h1 := (h a (by simp)).l
      have h2 := ih fun z hz => h z (by simp [hz])
      rw [List.map_cons, List.sum_cons, List.length_cons, Nat.succ_mul]; omega
  have h1 := hs ws hw
  have h2 : ws.length * 106 ≤ 5 * 106 := Nat.mul_le_mul_right _ hl
  refine ⟨?_, fit_str.mpr fun c hc => ?_, ?_⟩
  · show opt (strsOf (ws.map PyData.str)) _ = _
    rw [strsOf_map]
    show (if (ws.map (·.length)).sum + ws.length * ("/" : Str).length ≤ 16777216 then some (PyData.str (Txt.join "/" ws)) else none) = _
    rw [if_pos (by rw [l1]; omega)]
  · rw [join_eq, tl_join] at hc
    rcases joinL_in _ _ _ hc with hc | ⟨p, hp, hc⟩
    · rw [tl_sl] at hc
      rw [List.mem_singleton.mp hc]; decide
    · obtain ⟨w, hww, rfl⟩ := List.mem_map.mp hp
      exact fit_str.mp (hw w hww).f c hc
  · rw [len_tl, join_eq, tl_join, tl_sl]
    have h3 := joinL_len [47] (ws.map tl)
    have e1 : ((ws.map tl).map List.length).sum = (ws.map (·.length)).sum := by
      congr 1
      rw [List.map_map]
      apply List.map_congr_left
      intro p _
      exact (len_tl p).symm
    rw [e1, List.length_map] at h3
    simp only [List.length_cons, List.length_nil] at h3
    omega
theorem pa_ret {ρ : Rho} {k : Nat} {m : Mu} {ws : List Str} (hρ : ∃ a b c d z, ρ = [a, b, c, d, .own k, z]) (hk : m[k]? = some (ws.map PyData.str)) (hw : ∀ w ∈ ws, Gs 106 w) (hl : ws.length ≤ 1000) : ∃ y, Gs 601 y ∧ paR ρ m = some (.str y, m) := by
  obtain ⟨a, b, c, d, z, rfl⟩ := hρ
  have hz : (ws.map PyData.str).length ≤ sizeLine := map_len (by omega)
  have hc : lcF (gNm 5) (fB (f2 (fVar 5) (fC (.str "")) gNe)) (fVar 5) (wipeR (hideR k [a, b, c, d, .own k, z]) [5]) (ws.map PyData.str) (m.take k) = some ((ws.filter fun w => !decide (w = ("" : Str))).map PyData.str, m.take k) :=
    lc_filt ws fun w hww => by
      have hh : (hideR k [a, b, c, d, .own k, z]).length = 6 := by unfold hideR; simp
      generalize hideR k [a, b, c, d, .own k, z] = r at hh
      match r, hh with
      | [r0, r1, r2, r3, r4, r5], _ => exact ⟨[r0, r1, r2, r3, r4, .dat (.str w)], rfl, rfl, fun _ => rfl⟩
  have h1 : fLcND 4 (gNm 5) (fB (f2 (fVar 5) (fC (.str "")) gNe)) (fVar 5) [5] [a, b, c, d, .own k, z] m = some (.list ((ws.filter fun w => !decide (w = ("" : Str))).map PyData.str), m) := by
    unfold fLcND
    have : fLcN 4 (gNm 5) (fB (f2 (fVar 5) (fC (.str "")) gNe)) (fVar 5) [5] [a, b, c, d, .own k, z] m = some ((ws.filter fun w => !decide (w = ("" : Str))).map PyData.str, m) := by
      show opt (m[k]?) _ = _
      rw [hk]
      show (if (ws.map PyData.str).length ≤ sizeLine then bnd (lcF (gNm 5) (fB (f2 (fVar 5) (fC (.str "")) gNe)) (fVar 5) (wipeR (hideR k [a, b, c, d, .own k, z]) [5]) (ws.map PyData.str) (m.take k)) (fun out m' => some (out, m' ++ m.drop k)) else none) = _
      rw [if_pos hz, hc]
      show some ((ws.filter fun w => !decide (w = ("" : Str))).map PyData.str, m.take k ++ m.drop k) = _
      rw [List.take_append_drop]
    rw [this]; rfl
  have h2 := cut_take ((ws.filter fun w => !decide (w = ("" : Str))).map PyData.str) (v := 5) (by decide)
  rw [← List.map_take] at h2
  have hj := join_gs (ws := (ws.filter fun w => !decide (w = ("" : Str))).take 5) (fun w hww => hw w (List.mem_filter.mp (List.mem_of_mem_take hww)).1) (by rw [List.length_take]; omega)
  have k1 : Gs 1 "/" := ⟨by decide +kernel, by decide +kernel⟩
  refine ⟨"/" ++ Txt.join "/" ((ws.filter fun w => !decide (w = ("" : Str))).take 5), by have := app_gs k1 hj.2; exact ⟨this.f, Nat.le_trans this.l (by decide)⟩, ?_⟩
  have ha : gAdd (.str "/") (.str (Txt.join "/" ((ws.filter fun w => !decide (w = ("" : Str))).take 5))) = some (.str ("/" ++ Txt.join "/" ((ws.filter fun w => !decide (w = ("" : Str))).take 5))) := addS (Nat.le_trans k1.l (by decide)) (Nat.le_trans hj.2.l (by decide))
  have hj1 := hj.1
  have h5 : (5 : Int).toNat = 5 := rfl
  rw [h5] at h2
  generalize (ws.filter fun w => !decide (w = ("" : Str))).take 5 = W at *
  unfold paR
  simp only [defM, fSeq, fIfS, fAnd, fOr, fNot, fB, fAndV, fOrV, fNotV, fIf, fIsi, tyD, fIsA, bnd, opt, fin, fChain, f2, fN, fCons, fNil, fVar, fC, g1, gI, gIC, fRet, fExpr, fCall, pNil, pDat, pNm, fAsg, gNm, gNo, gCo, gTu, fEnd, fFor, fSq, seqD, fSg, fLcD, fLc, fYes, fM1, gSS, fM0, fSl, fNo, fSome, rd, fNmB, fNm2, fNmI, fNmT, fNmJ, fNmS, sc, isSc, fSetI, fApp, fOwn, fLstF, fCatF, fRetO, fPar, fParO, fTru, truB, List.cons_append, List.nil_append, List.getElem?_cons_zero, List.getElem?_cons_succ, List.set_cons_zero, List.set_cons_succ, List.replicate, List.length_cons, List.length_nil, Nat.reduceAdd, Nat.reduceSub, if_true, if_false, Bool.false_eq_true, ↓reduceIte, List.append_nil, gTup0, gTup1, gTup2, gTup3, gLst0, gLst1, gLst2, gLst3, gLst4, gLst5, gLst10, isa_tt, isa_ts, isa_ti, isa_tn, isa_tl, isa_ss, isa_st, isa_si, isa_sn, isa_ii, isa_ib, isa_bi, isa_bb, isa_is, isa_in, isa_it, h1, h2, hj1, ha]
theorem e_lpathd {x : Int} {rs : List Rt} (h : RtsG rs) : ∃ (y : Str) (x' : Int), Gs 601 y ∧ m__law_path [.own base.length, .dat (.tuple (rs.map rtD))] (base ++ [.int x, .int f] :: t) = some (.str y, base ++ [.int x', .int f] :: t) := by
  obtain ⟨z, hz, x1, e1⟩ := e_pickT (base := base) (t := t) (x := x) (f := f) (ds := rs.map rtD) (by rw [List.length_map]; exact h.one) (by rw [List.length_map]; have := h.ten; omega)
  obtain ⟨r, hr, rfl⟩ := List.mem_map.mp hz
  obtain ⟨ps, e2, hl, hp⟩ := pat_parts (h.ok r hr).pt.cs
  have i2 : ixD (rtD r) (.int 2) = some (.str (patS r.cs)) := rfl
  have hz0 : (0 : Nat) ≤ sizeLine := Nat.zero_le _
  have s1 : fParO 3 4 paS (fLstF fNil) [.own base.length, .dat (.tuple (rs.map rtD)), .un, .un, .un, .un] (base ++ [.int x, .int f] :: t) = some (.nx [.own base.length, .dat (.tuple (rs.map rtD)), .un, .dat (.list (ps.map PyData.str)), .own (base.length + (t.length + 1)), .un] (base ++ [.int x1, .int f] :: (t ++ [[]]))) := by
    unfold paS
    simp only [defM, fSeq, fIfS, fAnd, fOr, fNot, fB, fAndV, fOrV, fNotV, fIf, fIsi, tyD, fIsA, bnd, opt, fin, fChain, f2, fN, fCons, fNil, fVar, fC, g1, gI, gIC, fRet, fExpr, fCall, pNil, pDat, pNm, fAsg, gNm, gNo, gCo, gTu, fEnd, fFor, fSq, seqD, fSg, fLcD, fLc, fYes, fM1, gSS, fM0, fSl, fNo, fSome, rd, fNmB, fNm2, fNmI, fNmT, fNmJ, fNmS, sc, isSc, fSetI, fApp, fOwn, fLstF, fCatF, fRetO, fPar, fParO, fTru, truB, List.cons_append, List.nil_append, List.getElem?_cons_zero, List.getElem?_cons_succ, List.set_cons_zero, List.set_cons_succ, List.replicate, List.length_cons, List.length_nil, Nat.reduceAdd, Nat.reduceSub, if_true, if_false, Bool.false_eq_true, ↓reduceIte, List.append_nil, gTup0, gTup1, gTup2, gTup3, gLst0, gLst1, gLst2, gLst3, gLst4, gLst5, gLst10, isa_tt, isa_ts, isa_ti, isa_tn, isa_tl, isa_ss, isa_st, isa_si, isa_sn, isa_ii, isa_ib, isa_bi, isa_bb, isa_is, isa_in, isa_it, e1, i2, e2, cut_tail, if_pos hz0, ln, st1]
  obtain ⟨ws, x2, t2, t5, hw, hwl, e3⟩ := pa_loop (base := base) (t := t) (f := f) (R := .tuple (rs.map rtD)) (s3 := .dat (.list (ps.map PyData.str))) ps [] x1 .un .un hp (by simp) (by simp; omega)
  have hwl' : ws.length ≤ 107 := by simp at hwl; omega
  obtain ⟨d, x3, d0, d1, e4⟩ := e_draw (base := base) (t := t ++ [ws.map PyData.str]) (x := x2) (f := f) (n := 8) (by decide) (by decide)
  have fin_ : ∀ (ρ : Rho) (m : Mu) (y : Str), paI [.own base.length, .dat (.tuple (rs.map rtD)), t2, .dat (.list (ps.map PyData.str)), .own (base.length + (t.length + 1)), t5] (base ++ [.int x2, .int f] :: (t ++ [ws.map PyData.str])) = some (.nx ρ m) → paR ρ m = some (.str y, m) → m.take (base ++ [PyData.int x, .int f] :: t).length = base ++ [.int x3, .int f] :: t → m__law_path [.own base.length, .dat (.tuple (rs.map rtD))] (base ++ [.int x, .int f] :: t) = some (.str y, base ++ [.int x3, .int f] :: t) := fun ρ m y q1 q2 q3 => by
    have eB : B__law_path [.own base.length, .dat (.tuple (rs.map rtD)), .un, .un, .un, .un] (base ++ [.int x, .int f] :: t) = some (.rt (.dat (.str y)) m) := by
      rw [B_path_eq, seq_nx s1, seq_nx (for_of rfl e3), seq_nx q1]
      unfold fRet
      rw [q2]; rfl
    have := defM_rd (n := 2) (nn := 6) (B := B__law_path) (ρ := [.own base.length, .dat (.tuple (rs.map rtD))]) (μ := base ++ [.int x, .int f] :: t) eB
    rw [q3] at this
    exact this
  by_cases h0 : d = 0
  · subst h0
    have hN : DL.cutD (ws.map PyData.str) (some 1) none = (ws.drop 1).map PyData.str := by
      unfold DL.cutD
      have e1 : HT.sIx (ws.map PyData.str).length 0 (some 1) = min 1 (ws.map PyData.str).length := HT.sIx_nat _ _ 1
      rw [HT.sIx_none, e1, List.map_drop, List.take_of_length_le (by rw [List.length_drop]; exact Nat.le_refl _)]
      cases ws with
      | nil => rfl
      | cons a r => rw [Nat.min_eq_left (by simp)]
    have hz1 : ((ws.drop 1).map PyData.str).length + 1 ≤ sizeLine := by rw [List.length_map, List.length_drop]; exact Nat.le_trans (show _ ≤ 200 by omega) (by decide)
    have q1 : paI [.own base.length, .dat (.tuple (rs.map rtD)), t2, .dat (.list (ps.map PyData.str)), .own (base.length + (t.length + 1)), t5] (base ++ [.int x2, .int f] :: (t ++ [ws.map PyData.str])) = some (.nx [.own base.length, .dat (.tuple (rs.map rtD)), t2, .dat (.list (ps.map PyData.str)), .own (base.length + (t.length + 2)), t5] (base ++ [.int x3, .int f] :: (t ++ [ws.map PyData.str, (ws.drop 1 ++ [("a" : Str)]).map PyData.str]))) := by
      have ea : (ws.drop 1).map PyData.str ++ [.str "a"] = (ws.drop 1 ++ [("a" : Str)]).map PyData.str := by rw [List.map_append]; rfl
      have el : base.length + ((t ++ [ws.map PyData.str]).length + 1) = base.length + (t.length + 2) := by simp
      have es : (base ++ [PyData.int x3, .int f] :: (t ++ [ws.map PyData.str])) ++ [(ws.drop 1 ++ [("a" : Str)]).map PyData.str] = base ++ [.int x3, .int f] :: (t ++ [ws.map PyData.str, (ws.drop 1 ++ [("a" : Str)]).map PyData.str]) := by simp
      have hg : (base ++ [PyData.int x3, .int f] :: (t ++ [ws.map PyData.str]))[base.length + (t.length + 1)]? = some (ws.map PyData.str) := g_acc
      have q : fOwn 4 (fCatF (fNmS 4 (fSome (fC (.int (1)))) fNo) (fN (fCons (fC (.str "a")) fNil) gLst)) [.own base.length, .dat (.tuple (rs.map rtD)), t2, .dat (.list (ps.map PyData.str)), .own (base.length + (t.length + 1)), t5] (base ++ [.int x3, .int f] :: (t ++ [ws.map PyData.str])) = some (.nx [.own base.length, .dat (.tuple (rs.map rtD)), t2, .dat (.list (ps.map PyData.str)), .own (base.length + (t.length + 2)), t5] (base ++ [.int x3, .int f] :: (t ++ [ws.map PyData.str, (ws.drop 1 ++ [("a" : Str)]).map PyData.str]))) := by
        have qc : fCatF (fNmS 4 (fSome (fC (.int (1)))) fNo) (fN (fCons (fC (.str "a")) fNil) gLst) [.own base.length, .dat (.tuple (rs.map rtD)), t2, .dat (.list (ps.map PyData.str)), .own (base.length + (t.length + 1)), t5] (base ++ [.int x3, .int f] :: (t ++ [ws.map PyData.str])) = some ((ws.drop 1 ++ [("a" : Str)]).map PyData.str, base ++ [.int x3, .int f] :: (t ++ [ws.map PyData.str])) := by
          generalize t ++ [ws.map PyData.str] = T at *
          simp only [defM, fSeq, fIfS, fAnd, fOr, fNot, fB, fAndV, fOrV, fNotV, fIf, fIsi, tyD, fIsA, bnd, opt, fin, fChain, f2, fN, fCons, fNil, fVar, fC, g1, gI, gIC, fRet, fExpr, fCall, pNil, pDat, pNm, fAsg, gNm, gNo, gCo, gTu, fEnd, fFor, fSq, seqD, fSg, fLcD, fLc, fYes, fM1, gSS, fM0, fSl, fNo, fSome, rd, fNmB, fNm2, fNmI, fNmT, fNmJ, fNmS, sc, isSc, fSetI, fApp, fOwn, fLstF, fCatF, fRetO, fPar, fParO, fTru, truB, List.cons_append, List.nil_append, List.getElem?_cons_zero, List.getElem?_cons_succ, List.set_cons_zero, List.set_cons_succ, List.replicate, List.length_cons, List.length_nil, Nat.reduceAdd, Nat.reduceSub, if_true, if_false, Bool.false_eq_true, ↓reduceIte, List.append_nil, gTup0, gTup1, gTup2, gTup3, gLst0, gLst1, gLst2, gLst3, gLst4, gLst5, gLst10, isa_tt, isa_ts, isa_ti, isa_tn, isa_tl, isa_ss, isa_st, isa_si, isa_sn, isa_ii, isa_ib, isa_bi, isa_bb, isa_is, isa_in, isa_it, fNmS, hg, hN, if_pos hz1, ea]
        unfold fOwn
        rw [qc]
        show some (Out.nx [.own base.length, .dat (.tuple (rs.map rtD)), t2, .dat (.list (ps.map PyData.str)), .own (base ++ [PyData.int x3, .int f] :: (t ++ [ws.map PyData.str])).length, t5] ((base ++ [PyData.int x3, .int f] :: (t ++ [ws.map PyData.str])) ++ [(ws.drop 1 ++ [("a" : Str)]).map PyData.str])) = _
        rw [es, ln, el]
      unfold paI fIfS
      have qd : fB (f2 (fCall m__law_draw (pNm 0 (pDat (fC (.int (8))) pNil))) (fC (.int (0))) gEq) [.own base.length, .dat (.tuple (rs.map rtD)), t2, .dat (.list (ps.map PyData.str)), .own (base.length + (t.length + 1)), t5] (base ++ [.int x2, .int f] :: (t ++ [ws.map PyData.str])) = some (true, base ++ [.int x3, .int f] :: (t ++ [ws.map PyData.str])) := by
        generalize t ++ [ws.map PyData.str] = T at *
        simp only [defM, fSeq, fIfS, fAnd, fOr, fNot, fB, fAndV, fOrV, fNotV, fIf, fIsi, tyD, fIsA, bnd, opt, fin, fChain, f2, fN, fCons, fNil, fVar, fC, g1, gI, gIC, fRet, fExpr, fCall, pNil, pDat, pNm, fAsg, gNm, gNo, gCo, gTu, fEnd, fFor, fSq, seqD, fSg, fLcD, fLc, fYes, fM1, gSS, fM0, fSl, fNo, fSome, rd, fNmB, fNm2, fNmI, fNmT, fNmJ, fNmS, sc, isSc, fSetI, fApp, fOwn, fLstF, fCatF, fRetO, fPar, fParO, fTru, truB, List.cons_append, List.nil_append, List.getElem?_cons_zero, List.getElem?_cons_succ, List.set_cons_zero, List.set_cons_succ, List.replicate, List.length_cons, List.length_nil, Nat.reduceAdd, Nat.reduceSub, if_true, if_false, Bool.false_eq_true, ↓reduceIte, List.append_nil, gTup0, gTup1, gTup2, gTup3, gLst0, gLst1, gLst2, gLst3, gLst4, gLst5, gLst10, isa_tt, isa_ts, isa_ti, isa_tn, isa_tl, isa_ss, isa_st, isa_si, isa_sn, isa_ii, isa_ib, isa_bi, isa_bb, isa_is, isa_in, isa_it, e4, gE1, decide_true]
      rw [qd]
      exact q
    have ga : Gs 106 "a" := ⟨by decide +kernel, by decide +kernel⟩
    obtain ⟨y, hy, q2⟩ := pa_ret (ρ := [.own base.length, .dat (.tuple (rs.map rtD)), t2, .dat (.list (ps.map PyData.str)), .own (base.length + (t.length + 2)), t5]) (k := base.length + (t.length + 2)) (m := base ++ [.int x3, .int f] :: (t ++ [ws.map PyData.str, (ws.drop 1 ++ [("a" : Str)]).map PyData.str])) (ws := ws.drop 1 ++ [("a" : Str)]) ⟨_, _, _, _, _, rfl⟩ g_end (fun w hww => by
      rcases List.mem_append.mp hww with hww | hww
      · exact hw w (List.mem_of_mem_drop hww)
      · rw [List.mem_singleton.mp hww]; exact ga) (by rw [List.length_append, List.length_drop]; simp; omega)
    exact ⟨y, x3, hy, fin_ _ _ y q1 q2 (by rw [ln, tk3])⟩
  · have q1 : paI [.own base.length, .dat (.tuple (rs.map rtD)), t2, .dat (.list (ps.map PyData.str)), .own (base.length + (t.length + 1)), t5] (base ++ [.int x2, .int f] :: (t ++ [ws.map PyData.str])) = some (.nx [.own base.length, .dat (.tuple (rs.map rtD)), t2, .dat (.list (ps.map PyData.str)), .own (base.length + (t.length + 1)), t5] (base ++ [.int x3, .int f] :: (t ++ [ws.map PyData.str]))) := by
      generalize t ++ [ws.map PyData.str] = T at *
      unfold paI
      simp only [defM, fSeq, fIfS, fAnd, fOr, fNot, fB, fAndV, fOrV, fNotV, fIf, fIsi, tyD, fIsA, bnd, opt, fin, fChain, f2, fN, fCons, fNil, fVar, fC, g1, gI, gIC, fRet, fExpr, fCall, pNil, pDat, pNm, fAsg, gNm, gNo, gCo, gTu, fEnd, fFor, fSq, seqD, fSg, fLcD, fLc, fYes, fM1, gSS, fM0, fSl, fNo, fSome, rd, fNmB, fNm2, fNmI, fNmT, fNmJ, fNmS, sc, isSc, fSetI, fApp, fOwn, fLstF, fCatF, fRetO, fPar, fParO, fTru, truB, List.cons_append, List.nil_append, List.getElem?_cons_zero, List.getElem?_cons_succ, List.set_cons_zero, List.set_cons_succ, List.replicate, List.length_cons, List.length_nil, Nat.reduceAdd, Nat.reduceSub, if_true, if_false, Bool.false_eq_true, ↓reduceIte, List.append_nil, gTup0, gTup1, gTup2, gTup3, gLst0, gLst1, gLst2, gLst3, gLst4, gLst5, gLst10, isa_tt, isa_ts, isa_ti, isa_tn, isa_tl, isa_ss, isa_st, isa_si, isa_sn, isa_ii, isa_ib, isa_bi, isa_bb, isa_is, isa_in, isa_it, e4, gE1, h0, decide_false]
    obtain ⟨y, hy, q2⟩ := pa_ret (ρ := [.own base.length, .dat (.tuple (rs.map rtD)), t2, .dat (.list (ps.map PyData.str)), .own (base.length + (t.length + 1)), t5]) (k := base.length + (t.length + 1)) (m := base ++ [.int x3, .int f] :: (t ++ [ws.map PyData.str])) (ws := ws) ⟨_, _, _, _, _, rfl⟩ g_acc hw (by omega)
    exact ⟨y, x3, hy, fin_ _ _ y q1 q2 (by rw [ln, tk1])⟩
def sgS : Str := "/{}:n-aZ 0_"
theorem sg_lo : ∀ c ∈ sgS.cps.toList, c < 0x110000 := by decide +kernel
theorem sg_len : sgS.cps.toList.length = 11 := by decide +kernel
theorem atI_ok {α : Type} {ds : List α} {d : Int} (h0 : 0 ≤ d) (h1 : d < ds.length) : ∃ y ∈ ds, atI ds d = some y := by
  have h : d.toNat < ds.length := by omega
  refine ⟨ds[d.toNat], List.getElem_mem h, ?_⟩
  unfold atI ixN
  rw [if_pos h0, if_pos h1]
  show ds[d.toNat]? = _
  exact List.getElem?_eq_getElem h
theorem e_bent {x : Int} {T : Str} {n : Nat} (h : Gs n T) (hn : n ≤ 900) : ∃ (y : Str) (x' : Int), Gs (n + (1 + n)) y ∧ m__law_bent [.own base.length, .dat (.str T)] (base ++ [.int x, .int f] :: t) = some (.str y, base ++ [.int x', .int f] :: t) := by
  have hT := h.l
  have hl : lenD (.str T) = some (.int T.length) := by show (if T.length ≤ sizeLine then _ else _) = _; rw [if_pos (line_ge (by omega))]
  obtain ⟨a, x1, a0, a1, e1⟩ := e_draw (base := base) (t := t) (x := x) (f := f) (n := (T.length : Nat) + 1) (by omega) (by omega)
  obtain ⟨b, x2, b0, b1, e2⟩ := e_draw (base := base) (t := t) (x := x1) (f := f) (n := 11) (by decide) (by decide)
  obtain ⟨w, x3, w0, w1, e3⟩ := e_draw (base := base) (t := t) (x := x2) (f := f) (n := 3) (by decide) (by decide)
  obtain ⟨c, hc, ec⟩ := atI_ok (ds := sgS.cps.toList) (d := b) b0 (by rw [sg_len]; omega)
  have i1 : ixD (.str "/{}:n-aZ 0_") (.int b) = some (.str ⟨#[c]⟩) := by
    show (if sgS.length ≤ sizeLine then opt (atI sgS.cps.toList b) _ else none) = _
    rw [if_pos (by rw [len_tl, sg_len]; exact line_ge (by decide)), ec]; rfl
  have gc : Gs 1 ⟨#[c]⟩ := ⟨fit_str.mpr fun z hz => by
    have : z = c := by simpa [tl] using hz
    rw [this]; exact sg_lo c hc, Nat.le_refl _⟩
  have ge : Gs 1 "" := ⟨by decide +kernel, by decide +kernel⟩
  obtain ⟨v, hv, ev⟩ := at_ok (ds := [.str ⟨#[c]⟩, .str "", .str ⟨#[c]⟩]) (d := w) w0 (by simpa using w1)
  have hv' : ∃ s : Str, Gs 1 s ∧ v = .str s := by
    simp only [List.mem_cons, List.not_mem_nil, or_false] at hv
    rcases hv with rfl | rfl | rfl
    · exact ⟨_, gc, rfl⟩
    · exact ⟨_, ge, rfl⟩
    · exact ⟨_, gc, rfl⟩
  obtain ⟨s, gs, rfl⟩ := hv'
  have ev' : ixD (.list [.str ⟨#[c]⟩, .str "", .str ⟨#[c]⟩]) (.int w) = some (.str s) := ev
  have k1 := cut_gs h none (some a)
  have c1 := sl_ok (x := T) (by omega) none (some a)
  have k2 := cut_gs h (some (a + (if decide (0 < w) = true then 1 else 0))) none
  have c2 := sl_ok (x := T) (by omega) (some (a + (if decide (0 < w) = true then 1 else 0))) none
  have p1 : gAdd (.str (cutS T none (some a))) (.str s) = some (.str (cutS T none (some a) ++ s)) := addS (by have := k1.l; omega) (by have := gs.l; omega)
  have k12 := app_gs k1 gs
  have p2 : gAdd (.str (cutS T none (some a) ++ s)) (.str (cutS T (some (a + (if decide (0 < w) = true then 1 else 0))) none)) = some (.str ((cutS T none (some a) ++ s) ++ cutS T (some (a + (if decide (0 < w) = true then 1 else 0))) none)) := addS (by have := k12.l; omega) (by have := k2.l; omega)
  refine ⟨(cutS T none (some a) ++ s) ++ cutS T (some (a + (if decide (0 < w) = true then 1 else 0))) none, x3, ?_, ?_⟩
  · have := app_gs k12 k2
    exact ⟨this.f, Nat.le_trans this.l (by omega)⟩
  · generalize hif : (if decide (0 < w) = true then (1 : Int) else 0) = q at *
    have hid : DL.intD (.bool (decide (0 < w))) = some (.int q) := by rw [← hif]; rfl
    unfold m__law_bent B__law_bent
    simp only [defM, fSeq, fIfS, fAnd, fOr, fNot, fB, fAndV, fOrV, fNotV, fIf, fIsi, tyD, fIsA, bnd, opt, fin, fChain, f2, fN, fCons, fNil, fVar, fC, g1, gI, gIC, fRet, fExpr, fCall, pNil, pDat, pNm, fAsg, gNm, gNo, gCo, gTu, fEnd, fFor, fSq, seqD, fSg, fLcD, fLc, fYes, fM1, gSS, fM0, fSl, fNo, fSome, rd, fNmB, fNm2, fNmI, fNmT, fNmJ, fNmS, sc, isSc, fSetI, fApp, fOwn, fLstF, fCatF, fRetO, fPar, fParO, fTru, truB, List.cons_append, List.nil_append, List.getElem?_cons_zero, List.getElem?_cons_succ, List.set_cons_zero, List.set_cons_succ, List.replicate, List.length_cons, List.length_nil, Nat.reduceAdd, Nat.reduceSub, if_true, if_false, Bool.false_eq_true, ↓reduceIte, List.append_nil, gTup0, gTup1, gTup2, gTup3, gLst0, gLst1, gLst2, gLst3, gLst4, gLst5, gLst10, isa_tt, isa_ts, isa_ti, isa_tn, isa_tl, isa_ss, isa_st, isa_si, isa_sn, isa_ii, isa_ib, isa_bi, isa_bb, isa_is, isa_in, isa_it, hl, gA1, e1, i1, e2, e3, c1, ev', p1, hid, c2, p2, ln, tk0]
end
end Law
namespace Law
open PySem PySem.Spec PyProof.Rows L2 DL
local instance : Tabs := ⟨[]⟩
open TL
structure Th (y : PyData) : Prop where
  s : Sm y
  d : y.depth ≤ 32
  o : okR y = true
structure It (d : PyData) : Prop where
  f : fit d = true
  w : d.weight ≤ 1000
  d : d.depth ≤ 6
def Al (L : List PyData) : Prop := (∀ d ∈ L, d.hasDict = false) ∨ (∀ d ∈ L, noLst d = true)
theorem hd_all : ∀ {L : List PyData}, (∀ d ∈ L, d.hasDict = false) → PyData.hasDictAll L = false
  | [], _ => rfl
  | a :: r, h => by
    unfold PyData.hasDictAll
    rw [h a (by simp), hd_all fun x hx => h x (by simp [hx])]; rfl
theorem nl_all : ∀ {L : List PyData}, (∀ d ∈ L, noLst d = true) → noLstAll L = true
  | [], _ => rfl
  | a :: r, h => by
    unfold noLstAll
    rw [h a (by simp), nl_all fun x hx => h x (by simp [hx])]; rfl
theorem Al.okR {L : List PyData} (h : Al L) : Law.okR (.tuple L) = true := by
  unfold Law.okR
  rcases h with h | h
  · have : PyData.hasDict (.tuple L) = false := hd_all h
    rw [this]; rfl
  · have : noLst (.tuple L) = true := nl_all h
    rw [this, Bool.or_true]
theorem wt_all {n : Nat} : ∀ {L : List PyData}, (∀ d ∈ L, d.weight ≤ n) → PyData.weightAll L ≤ L.length * (n + 1)
  | [], _ => Nat.zero_le _
  | a :: r, h => by
    have h1 := h a (by simp)
    have h2 := wt_all (L := r) fun x hx => h x (by simp [hx])
    show a.weight + 1 + PyData.weightAll r ≤ (r.length + 1) * (n + 1)
    rw [Nat.succ_mul]; omega
theorem fit_tup {L : List PyData} (h : ∀ d ∈ L, fit d = true) (hl : L.length ≤ 1000) : fit (.tuple L) = true := by
  unfold fit
  rw [decide_eq_true hl, fitAll_of h]; rfl
theorem fit_lst {L : List PyData} (h : ∀ d ∈ L, fit d = true) : fit (.list L) = true := by
  unfold fit
  exact fitAll_of h
theorem dep_tup {k : Nat} {L : List PyData} (h : ∀ d ∈ L, d.depth ≤ k) : (PyData.tuple L).depth ≤ k + 1 := by
  have : PyData.depthAll L ≤ k := dep_of h
  show PyData.depthAll L + 1 ≤ k + 1
  omega
theorem th_tup {L : List PyData} (h : ∀ d ∈ L, It d) (hl : L.length ≤ 100) (ha : Al L) : Th (.tuple L) := by
  refine ⟨⟨fit_tup (fun d hd => (h d hd).f) (by omega), ?_⟩, Nat.le_trans (dep_tup fun d hd => (h d hd).d) (by decide), ha.okR⟩
  have : PyData.weightAll L ≤ L.length * 1001 := wt_all fun d hd => (h d hd).w
  have h2 : L.length * 1001 ≤ 100 * 1001 := Nat.mul_le_mul_right _ hl
  show PyData.weightAll L ≤ 200000
  omega
theorem th_lst {L : List PyData} (h : ∀ d ∈ L, It d) (hl : L.length ≤ 100) (ha : ∀ d ∈ L, d.hasDict = false) : Th (.list L) := by
  refine ⟨⟨fit_lst (fun d hd => (h d hd).f), ?_⟩, Nat.le_trans (dep_tup fun d hd => (h d hd).d) (by decide), ?_⟩
  · have : PyData.weightAll L ≤ L.length * 1001 := wt_all fun d hd => (h d hd).w
    have h2 : L.length * 1001 ≤ 100 * 1001 := Nat.mul_le_mul_right _ hl
    show PyData.weightAll L ≤ 200000
    omega
  · have : PyData.hasDict (.list L) = false := hd_all ha
    unfold okR
    rw [this]; rfl
def odd17 : List PyData := [.none, .bool true, .int 0, .int 7, .int (-1), .int 1000000000000000000000000000000000000000, .str "", .str "/", .str "get", .tuple [], .list [], .dict [], .tuple [.str "a"], .str "{a}", .str "/{a}", .tuple [.str "a", .str "get", .str "/"], .str " "]
def odd5 : List PyData := [.tuple [.tuple [.str "a", .str "get", .str "/"]], .list [.tuple [.str "a", .str "get", .str "/"]], .str "{a:n}", .str "//", .str "/a/"]
def chk (y : PyData) : Bool := fit y && (okR y && (decide (y.weight ≤ 140) && decide (y.depth ≤ 3)))
theorem odd_chk : (odd17 ++ odd5).all chk = true := by decide +kernel
structure Od (y : PyData) : Prop where
  f : fit y = true
  o : okR y = true
  w : y.weight ≤ 140
  d : y.depth ≤ 3
theorem Od.th {y : PyData} (h : Od y) : Th y := ⟨⟨h.f, Nat.le_trans h.w (by decide)⟩, Nat.le_trans h.d (by decide), h.o⟩
theorem ret_of {f : FE} {ρ : Rho} {μ m : Mu} {d : PyData} (h : f ρ μ = some (d, m)) : fRet f ρ μ = some (.rt (.dat d) m) := by unfold fRet; rw [h]; rfl
theorem catTT {a b : List PyData} (h : a.length + b.length ≤ 1000) : gCatTT (.tuple a) (.tuple b) = some (.tuple (a ++ b)) := by
  show (if a.length + b.length ≤ sizeLine then _ else _) = _
  rw [if_pos (line_ge (by omega))]
theorem cutD_mem {ds : List PyData} {lo hi : Option Int} : ∀ d ∈ DL.cutD ds lo hi, d ∈ ds := fun d hd => by
  unfold DL.cutD at hd
  exact List.mem_of_mem_drop (List.mem_of_mem_take hd)
theorem cutD_len (ds : List PyData) (lo hi : Option Int) : (DL.cutD ds lo hi).length ≤ ds.length := by
  unfold DL.cutD
  rw [List.length_take, List.length_drop]; omega
theorem slW_t (ds : List PyData) (lo hi : Option Int) : slW (.tuple ds) lo hi = some (.tuple (DL.cutD ds lo hi)) := rfl
section
variable {base t : Mu} {f : Int}
theorem e_odd {x : Int} : ∃ (y : PyData) (x' : Int), Od y ∧ m__law_odd [.own base.length] (base ++ [.int x, .int f] :: t) = some (y, base ++ [.int x', .int f] :: t) := by
  obtain ⟨d, x', d0, d1, ed⟩ := e_draw (base := base) (t := t) (x := x) (f := f) (n := 22) (by decide) (by decide)
  obtain ⟨y, hy, ey⟩ := at_ok (ds := odd17 ++ odd5) d0 (by show d < ((22 : Nat) : Int); omega)
  have hc := List.all_eq_true.mp odd_chk y hy
  unfold chk at hc
  simp only [Bool.and_eq_true, decide_eq_true_eq] at hc
  refine ⟨y, x', ⟨hc.1, hc.2.1, hc.2.2.1, hc.2.2.2⟩, ?_⟩
  have ey' : ixD (.list (odd17 ++ odd5)) (.int d) = some y := ey
  have h1 : (fAsg (fN (fCons (fC .none) (fCons (fC (.bool true)) (fCons (fC (.int (0))) (fCons (fC (.int (7))) (fCons (f1I (fun i => -i) (fC (.int (1)))) (fCons (f2 (fC (.int (10))) (fC (.int (39))) (gIC cPow fun i j => i ^ j.toNat)) (fCons (fC (.str "")) (fCons (fC (.str "/")) (fCons (fC (.str "get")) (fCons (fC (.tuple [])) (fCons (fC (.list [])) (fCons (fC (.dict [])) (fCons (fC (.tuple [(.str "a")])) (fCons (fC (.str "{a}")) (fCons (fC (.str "/{a}")) (fCons (fC (.tuple [(.str "a"), (.str "get"), (.str "/")])) (fCons (fC (.str " ")) fNil))))))))))))))))) gLst) (gNm 1)) [.own base.length, .un] (base ++ [.int x, .int f] :: t) = some (.nx [.own base.length, .dat (.list odd17)] (base ++ [.int x, .int f] :: t)) := by kernel_rfl
  have h2 : gAdd (.list odd17) (.list odd5) = some (.list (odd17 ++ odd5)) := addL (by decide)
  have h3 : (f2 (f2 (fVar 1) (fC (.list [(.tuple [(.tuple [(.str "a"), (.str "get"), (.str "/")])]), (.list [(.tuple [(.str "a"), (.str "get"), (.str "/")])]), (.str "{a:n}"), (.str "//"), (.str "/a/")])) gAdd) (fCall m__law_draw (pNm 0 (pDat (fC (.int (22))) pNil))) ixD) [.own base.length, .dat (.list odd17)] (base ++ [.int x, .int f] :: t) = some (y, base ++ [.int x', .int f] :: t) := by
    show (f2 (f2 (fVar 1) (fC (.list odd5)) gAdd) (fCall m__law_draw (pNm 0 (pDat (fC (.int (22))) pNil))) ixD) [.own base.length, .dat (.list odd17)] (base ++ [.int x, .int f] :: t) = _
    generalize odd17 = A at *
    generalize odd5 = B at *
    simp only [defM, fSeq, fIfS, fAnd, fOr, fNot, fB, fAndV, fOrV, fNotV, fIf, fIsi, tyD, fIsA, bnd, opt, fin, fChain, f2, fN, fCons, fNil, fVar, fC, g1, gI, gIC, fRet, fExpr, fCall, pNil, pDat, pNm, fAsg, gNm, gNo, gCo, gTu, fEnd, fFor, fSq, seqD, fSg, fLcD, fLc, fYes, fM1, gSS, fM0, fSl, fNo, fSome, rd, fNmB, fNm2, fNmI, fNmT, fNmJ, fNmS, sc, isSc, fSetI, fApp, fOwn, fLstF, fCatF, fRetO, fPar, fParO, fTru, truB, List.cons_append, List.nil_append, List.getElem?_cons_zero, List.getElem?_cons_succ, List.set_cons_zero, List.set_cons_succ, List.replicate, List.length_cons, List.length_nil, Nat.reduceAdd, Nat.reduceSub, if_true, if_false, Bool.false_eq_true, ↓reduceIte, List.append_nil, gTup0, gTup1, gTup2, gTup3, gLst0, gLst1, gLst2, gLst3, gLst4, gLst5, gLst10, isa_tt, isa_ts, isa_ti, isa_tn, isa_tl, isa_ss, isa_st, isa_si, isa_sn, isa_ii, isa_ib, isa_bi, isa_bb, isa_is, isa_in, isa_it, h2, ed, ey']
  have eB : B__law_odd [.own base.length, .un] (base ++ [.int x, .int f] :: t) = some (.rt (.dat y) (base ++ [.int x', .int f] :: t)) := by
    unfold B__law_odd
    rw [seq_nx h1]
    exact ret_of h3
  have := defM_rd (n := 1) (nn := 2) (B := B__law_odd) (ρ := [.own base.length]) (μ := base ++ [.int x, .int f] :: t) eB
  rw [ln, tk0] at this
  exact this
structure Sx (n : Nat) (d : PyData) : Prop where
  f : fit d = true
  w : d.weight ≤ n
  h : d.hasDict = false
  l : noLst d = true
  d : d.depth ≤ 0
theorem sx_str {x : Str} {n : Nat} (h : Gs n x) : Sx n (.str x) := ⟨h.f, h.l, rfl, rfl, Nat.le_refl _⟩
theorem rt_sx {r : Rt} (h : RtG r) : ∀ d ∈ ([.str r.nm, .str r.vb, .str (patS r.cs)] : List PyData), Sx 106 d := fun d hd => by
  simp only [List.mem_cons, List.not_mem_nil, or_false] at hd
  have h1 := nm_sm _ h.nm
  have h2 := vb_sm h.vb
  have h3 := pat_sm h.pt.cs
  rcases hd with rfl | rfl | rfl
  · exact sx_str ⟨h1.1, h1.2⟩
  · exact sx_str ⟨h2.1, h2.2⟩
  · exact sx_str ⟨h3.1, h3.2⟩
structure Pl (d : PyData) : Prop where
  i : It d
  h : d.hasDict = false
  l : noLst d = true
theorem pl_tup {L : List PyData} (h : ∀ d ∈ L, Sx 214 d) (hl : L.length ≤ 4) : Pl (.tuple L) := by
  refine ⟨⟨fit_tup (fun d hd => (h d hd).f) (by omega), ?_, Nat.le_trans (dep_tup (k := 0) fun d hd => (h d hd).d) (by decide)⟩, hd_all fun d hd => (h d hd).h, nl_all fun d hd => (h d hd).l⟩
  have : PyData.weightAll L ≤ L.length * 215 := wt_all fun d hd => (h d hd).w
  have h2 : L.length * 215 ≤ 4 * 215 := Nat.mul_le_mul_right _ hl
  show PyData.weightAll L ≤ 1000
  omega
theorem Sx.up {n m : Nat} {d : PyData} (h : Sx n d) (hn : n ≤ m) : Sx m d := ⟨h.f, Nat.le_trans h.w hn, h.h, h.l, h.d⟩
theorem rt_pl {r : Rt} (h : RtG r) : Pl (rtD r) := pl_tup (fun d hd => (rt_sx h d hd).up (by decide)) (by simp)
theorem one_it {L : List PyData} {o : PyData} (h : ∀ d ∈ L, Sx 106 d ∨ d = o) (ho : Od o) (hl : L.length ≤ 7) : It (.tuple L) ∧ Al [.tuple L] := by
  have hf : ∀ d ∈ L, fit d = true := fun d hd => by
    rcases h d hd with h | rfl
    · exact h.f
    · exact ho.f
  have hw : ∀ d ∈ L, d.weight ≤ 140 := fun d hd => by
    rcases h d hd with h | rfl
    · exact Nat.le_trans h.w (by decide)
    · exact ho.w
  have hdp : ∀ d ∈ L, d.depth ≤ 3 := fun d hd => by
    rcases h d hd with h | rfl
    · exact Nat.le_trans h.d (by decide)
    · exact ho.d
  refine ⟨⟨fit_tup hf (by omega), ?_, Nat.le_trans (dep_tup hdp) (by decide)⟩, ?_⟩
  · have : PyData.weightAll L ≤ L.length * 141 := wt_all hw
    have h2 : L.length * 141 ≤ 7 * 141 := Nat.mul_le_mul_right _ hl
    show PyData.weightAll L ≤ 1000
    omega
  · have hoo := ho.o
    unfold okR at hoo
    rw [Bool.or_eq_true] at hoo
    rcases hoo with z | z
    · refine .inl fun y hy => ?_
      rw [List.mem_singleton.mp hy]
      refine hd_all fun d hd => ?_
      rcases h d hd with h | rfl
      · exact h.h
      · simpa using z
    · refine .inr fun y hy => ?_
      rw [List.mem_singleton.mp hy]
      refine nl_all fun d hd => ?_
      rcases h d hd with h | rfl
      · exact h.l
      · exact z
theorem lst_it {r : Rt} (h : RtG r) : It (.list [.str r.nm, .str r.vb, .str (patS r.cs)]) ∧ PyData.hasDict (.list [.str r.nm, .str r.vb, .str (patS r.cs)]) = false := by
  have hp := rt_pl h
  exact ⟨⟨fit_lst fun d hd => (rt_sx h d hd).f, hp.i.w, hp.i.d⟩, hp.h⟩
structure Row (L : List PyData) : Prop where
  i : ∀ d ∈ L, It d
  a : Al L
  l : L.length ≤ 2
theorem row_pl {L : List PyData} (h : ∀ d ∈ L, Pl d) (hl : L.length ≤ 2) : Row L := ⟨fun d hd => (h d hd).i, .inl fun d hd => (h d hd).h, hl⟩
theorem mix_al {A B C : List PyData} (hA : ∀ d ∈ A, Pl d) (hB : Row B) (hC : ∀ d ∈ C, Pl d) : (∀ d ∈ (A ++ B) ++ C, It d) ∧ Al ((A ++ B) ++ C) := by
  refine ⟨fun d hd => ?_, ?_⟩
  · rcases List.mem_append.mp hd with hd | hd
    · rcases List.mem_append.mp hd with hd | hd
      · exact (hA d hd).i
      · exact hB.i d hd
    · exact (hC d hd).i
  · rcases hB.a with z | z
    · refine .inl fun d hd => ?_
      rcases List.mem_append.mp hd with hd | hd
      · rcases List.mem_append.mp hd with hd | hd
        · exact (hA d hd).h
        · exact z d hd
      · exact (hC d hd).h
    · refine .inr fun d hd => ?_
      rcases List.mem_append.mp hd with hd | hd
      · rcases List.mem_append.mp hd with hd | hd
        · exact (hA d hd).l
        · exact z d hd
      · exact (hC d hd).l
theorem gLst7 (a b c d e g h : PyData) : gLst [a, b, c, d, e, g, h] = some (.list [a, b, c, d, e, g, h]) := gLst_ok (by simp)
def oneF : FE := (f2 (f2 (fSlW (fNmI 1 (fVar 5)) fNo (fSome (fVar 6))) (fN (fCons (fCall m__law_odd (pNm 0 pNil)) fNil) DL.gTup) gCatTT) (fSlW (fNmI 1 (fVar 5)) (fSome (f2 (fVar 6) (fC (.int (1))) gAdd)) fNo) gCatTT)
def twoF : FE := (f2 (fSlW (fNmI 1 (fVar 5)) fNo (fSome (fC (.int (2))))) (fN (fCons (fCall m__law_bent (pNm 0 (pDat (f2 (fNmI 1 (fVar 5)) (fC (.int (2))) ixD) pNil))) fNil) DL.gTup) gCatTT)
def rowF : FE := (fN (fCons (fN (fCons (fVar 2) fNil) DL.gTup) (fCons (fN (fCons (fVar 3) fNil) DL.gTup) (fCons (fN (fCons (fVar 3) fNil) DL.gTup) (fCons (fN (fCons (fNmI 1 (fVar 5)) (fCons (fNmI 1 (fVar 5)) fNil)) DL.gTup) (fCons (fN (fCons (fN (fCons (fNmI 1 (fVar 5)) fNil) (g1 listD)) fNil) DL.gTup) (fCons (fN (fCons (fSlW (fNmI 1 (fVar 5)) fNo (fSome (fC (.int (2))))) fNil) DL.gTup) (fCons (fN fNil DL.gTup) fNil))))))) gLst)
def threeF : FE := (fN (fCons (f2 (f2 (fSlW (fVar 1) fNo (fSome (fVar 5))) (fCall m__law_pick (pNm 0 (pNm 4 pNil))) gCatTT) (fSlW (fVar 1) (fSome (f2 (fVar 5) (fC (.int (1))) gAdd)) fNo) gCatTT) (fCons (fN (fCons (fVar 1) fNil) (g1 listD)) (fCons (f2 (fVar 1) (fSlW (fVar 1) fNo (fSome (fC (.int (1))))) gCatTT) fNil))) gLst)
def drF : FS := (fPar 5 6 (fCons (fCall m__law_draw (pNm 0 (pDat (fNmB 1 (g1 lenD)) pNil))) (fCons (fCall m__law_draw (pNm 0 (pDat (fC (.int (3))) pNil))) fNil)))
theorem B_spoilt_eq : B__law_spoilt = fSeq drF (fSeq (fAsg oneF (gNm 2)) (fSeq (fAsg twoF (gNm 3)) (fSeq (fAsg rowF (gNm 4)) (fRet (fCall m__law_pick (pNm 0 (pDat threeF pNil))))))) := rfl
theorem asg_of {f : FE} {g : FG} {ρ ρ1 : Rho} {μ m : Mu} {d : PyData} (h1 : f ρ μ = some (d, m)) (h2 : g d ρ = some ρ1) : fAsg f g ρ μ = some (.nx ρ1 m) := by
  unfold fAsg
  rw [h1]
  show opt (g d ρ) _ = _
  rw [h2]; rfl
theorem e_spoilt {x : Int} {rs : List Rt} (h : RtsG rs) : ∃ (y : PyData) (x' : Int), Th y ∧ m__law_spoilt [.own base.length, .dat (.tuple (rs.map rtD))] (base ++ [.int x, .int f] :: t) = some (y, base ++ [.int x', .int f] :: t) := by
  have h11 := h.ten
  have hRp : ∀ d ∈ rs.map rtD, Pl d := fun d hd => by
    obtain ⟨r, hr, rfl⟩ := List.mem_map.mp hd
    exact rt_pl (h.ok r hr)
  have hRl : (rs.map rtD).length = rs.length := List.length_map ..
  obtain ⟨a, x1, a0, a1, e1⟩ := e_draw (base := base) (t := t) (x := x) (f := f) (n := ((rs.map rtD).length : Nat)) (by have := h.one; omega) (by omega)
  obtain ⟨s, x2, s0, s1, e2⟩ := e_draw (base := base) (t := t) (x := x1) (f := f) (n := 3) (by decide) (by decide)
  obtain ⟨z, hz, ez⟩ := at_ok (ds := rs.map rtD) a0 a1
  obtain ⟨r, hr, rfl⟩ := List.mem_map.mp hz
  have hrg := h.ok r hr
  have hsx := rt_sx hrg
  have ez' : ixD (.tuple (rs.map rtD)) (.int a) = some (.tuple [.str r.nm, .str r.vb, .str (patS r.cs)]) := ez
  have hl3 : ([.str r.nm, .str r.vb, .str (patS r.cs)] : List PyData).length = 3 := rfl
  have i2 : ixD (.tuple [.str r.nm, .str r.vb, .str (patS r.cs)]) (.int 2) = some (.str (patS r.cs)) := rfl
  have hld : listD (.tuple [.str r.nm, .str r.vb, .str (patS r.cs)]) = some (.list [.str r.nm, .str r.vb, .str (patS r.cs)]) := rfl
  have hli := lst_it hrg
  have hrp : Pl (.tuple [.str r.nm, .str r.vb, .str (patS r.cs)]) := rt_pl hrg
  obtain ⟨o, x3, ho, e3⟩ := e_odd (base := base) (t := t) (x := x2) (f := f)
  obtain ⟨b, x4, hb, e4⟩ := e_bent (base := base) (t := t) (x := x3) (f := f) (T := patS r.cs) (n := 106) ⟨(pat_sm hrg.pt.cs).1, (pat_sm hrg.pt.cs).2⟩ (by decide)
  generalize hD : ([.str r.nm, .str r.vb, .str (patS r.cs)] : List PyData) = D at *
  generalize hR : rs.map rtD = R at *
  have c1 := cutD_len D none (some s)
  have c2 := cutD_len D (some (s + 1)) none
  have c3 := cutD_len D none (some 2)
  have k1 : gCatTT (.tuple (DL.cutD D none (some s))) (.tuple [o]) = some (.tuple (DL.cutD D none (some s) ++ [o])) := catTT (by simp; omega)
  have k2 : gCatTT (.tuple (DL.cutD D none (some s) ++ [o])) (.tuple (DL.cutD D (some (s + 1)) none)) = some (.tuple ((DL.cutD D none (some s) ++ [o]) ++ DL.cutD D (some (s + 1)) none)) := catTT (by simp; omega)
  have k3 : gCatTT (.tuple (DL.cutD D none (some 2))) (.tuple [.str b]) = some (.tuple (DL.cutD D none (some 2) ++ [.str b])) := catTT (by simp; omega)
  have hone := one_it (L := (DL.cutD D none (some s) ++ [o]) ++ DL.cutD D (some (s + 1)) none) (o := o) (fun d hd => by
    rcases List.mem_append.mp hd with hd | hd
    · rcases List.mem_append.mp hd with hd | hd
      · exact .inl (hsx d (cutD_mem d hd))
      · exact .inr (List.mem_singleton.mp hd)
    · exact .inl (hsx d (cutD_mem d hd))) ho (by simp; omega)
  have htwo : Pl (.tuple (DL.cutD D none (some 2) ++ [.str b])) := pl_tup (fun d hd => by
    rcases List.mem_append.mp hd with hd | hd
    · exact (hsx d (cutD_mem d hd)).up (by decide)
    · rw [List.mem_singleton.mp hd]; exact (sx_str hb).up (by decide)) (by simp; omega)
  have hcut : Pl (.tuple (DL.cutD D none (some 2))) := pl_tup (fun d hd => (hsx d (cutD_mem d hd)).up (by decide)) (by omega)
  have q0 : drF [.own base.length, .dat (.tuple R), .un, .un, .un, .un, .un] (base ++ [.int x, .int f] :: t) = some (.nx [.own base.length, .dat (.tuple R), .un, .un, .un, .dat (.int a), .dat (.int s)] (base ++ [.int x2, .int f] :: t)) := by
    have hlen : lenD (.tuple R) = some (.int (R.length : Nat)) := rfl
    unfold drF
    simp only [defM, fSeq, fIfS, fAnd, fOr, fNot, fB, fAndV, fOrV, fNotV, fIf, fIsi, tyD, fIsA, bnd, opt, fin, fChain, f2, fN, fCons, fNil, fVar, fC, g1, gI, gIC, fRet, fExpr, fCall, pNil, pDat, pNm, fAsg, gNm, gNo, gCo, gTu, fEnd, fFor, fSq, seqD, fSg, fLcD, fLc, fYes, fM1, gSS, fM0, fSl, fNo, fSome, rd, fNmB, fNm2, fNmI, fNmT, fNmJ, fNmS, sc, isSc, fSetI, fApp, fOwn, fLstF, fCatF, fRetO, fPar, fParO, fTru, truB, List.cons_append, List.nil_append, List.getElem?_cons_zero, List.getElem?_cons_succ, List.set_cons_zero, List.set_cons_succ, List.replicate, List.length_cons, List.length_nil, Nat.reduceAdd, Nat.reduceSub, if_true, if_false, Bool.false_eq_true, ↓reduceIte, List.append_nil, gTup0, gTup1, gTup2, gTup3, gLst0, gLst1, gLst2, gLst3, gLst4, gLst5, gLst10, isa_tt, isa_ts, isa_ti, isa_tn, isa_tl, isa_ss, isa_st, isa_si, isa_sn, isa_ii, isa_ib, isa_bi, isa_bb, isa_is, isa_in, isa_it, hlen, e1, e2]
  have q1 : oneF [.own base.length, .dat (.tuple R), .un, .un, .un, .dat (.int a), .dat (.int s)] (base ++ [.int x2, .int f] :: t) = some (.tuple ((DL.cutD D none (some s) ++ [o]) ++ DL.cutD D (some (s + 1)) none), base ++ [.int x3, .int f] :: t) := by
    unfold oneF
    simp only [defM, fSeq, fIfS, fAnd, fOr, fNot, fB, fAndV, fOrV, fNotV, fIf, fIsi, tyD, fIsA, bnd, opt, fin, fChain, f2, fN, fCons, fNil, fVar, fC, g1, gI, gIC, fRet, fExpr, fCall, pNil, pDat, pNm, fAsg, gNm, gNo, gCo, gTu, fEnd, fFor, fSq, seqD, fSg, fLcD, fLc, fYes, fM1, gSS, fM0, fSl, fNo, fSome, rd, fNmB, fNm2, fNmI, fNmT, fNmJ, fNmS, sc, isSc, fSetI, fApp, fOwn, fLstF, fCatF, fRetO, fPar, fParO, fTru, truB, List.cons_append, List.nil_append, List.getElem?_cons_zero, List.getElem?_cons_succ, List.set_cons_zero, List.set_cons_succ, List.replicate, List.length_cons, List.length_nil, Nat.reduceAdd, Nat.reduceSub, if_true, if_false, Bool.false_eq_true, ↓reduceIte, List.append_nil, gTup0, gTup1, gTup2, gTup3, gLst0, gLst1, gLst2, gLst3, gLst4, gLst5, gLst10, isa_tt, isa_ts, isa_ti, isa_tn, isa_tl, isa_ss, isa_st, isa_si, isa_sn, isa_ii, isa_ib, isa_bi, isa_bb, isa_is, isa_in, isa_it, fSlW, ez', slW_t, e3, k1, gA1, k2]
  generalize hO : (DL.cutD D none (some s) ++ [o]) ++ DL.cutD D (some (s + 1)) none = O at *
  have q2 : twoF [.own base.length, .dat (.tuple R), .dat (.tuple O), .un, .un, .dat (.int a), .dat (.int s)] (base ++ [.int x3, .int f] :: t) = some (.tuple (DL.cutD D none (some 2) ++ [.str b]), base ++ [.int x4, .int f] :: t) := by
    unfold twoF
    simp only [defM, fSeq, fIfS, fAnd, fOr, fNot, fB, fAndV, fOrV, fNotV, fIf, fIsi, tyD, fIsA, bnd, opt, fin, fChain, f2, fN, fCons, fNil, fVar, fC, g1, gI, gIC, fRet, fExpr, fCall, pNil, pDat, pNm, fAsg, gNm, gNo, gCo, gTu, fEnd, fFor, fSq, seqD, fSg, fLcD, fLc, fYes, fM1, gSS, fM0, fSl, fNo, fSome, rd, fNmB, fNm2, fNmI, fNmT, fNmJ, fNmS, sc, isSc, fSetI, fApp, fOwn, fLstF, fCatF, fRetO, fPar, fParO, fTru, truB, List.cons_append, List.nil_append, List.getElem?_cons_zero, List.getElem?_cons_succ, List.set_cons_zero, List.set_cons_succ, List.replicate, List.length_cons, List.length_nil, Nat.reduceAdd, Nat.reduceSub, if_true, if_false, Bool.false_eq_true, ↓reduceIte, List.append_nil, gTup0, gTup1, gTup2, gTup3, gLst0, gLst1, gLst2, gLst3, gLst4, gLst5, gLst10, isa_tt, isa_ts, isa_ti, isa_tn, isa_tl, isa_ss, isa_st, isa_si, isa_sn, isa_ii, isa_ib, isa_bi, isa_bb, isa_is, isa_in, isa_it, fSlW, ez', slW_t, i2, e4, k3]
  generalize hW : DL.cutD D none (some 2) ++ [PyData.str b] = W at *
  generalize hC : DL.cutD D none (some 2) = C at *
  have q3 : rowF [.own base.length, .dat (.tuple R), .dat (.tuple O), .dat (.tuple W), .un, .dat (.int a), .dat (.int s)] (base ++ [.int x4, .int f] :: t) = some (.list [.tuple [.tuple O], .tuple [.tuple W], .tuple [.tuple W], .tuple [.tuple D, .tuple D], .tuple [.list D], .tuple [.tuple C], .tuple []], base ++ [.int x4, .int f] :: t) := by
    unfold rowF
    simp only [defM, fSeq, fIfS, fAnd, fOr, fNot, fB, fAndV, fOrV, fNotV, fIf, fIsi, tyD, fIsA, bnd, opt, fin, fChain, f2, fN, fCons, fNil, fVar, fC, g1, gI, gIC, fRet, fExpr, fCall, pNil, pDat, pNm, fAsg, gNm, gNo, gCo, gTu, fEnd, fFor, fSq, seqD, fSg, fLcD, fLc, fYes, fM1, gSS, fM0, fSl, fNo, fSome, rd, fNmB, fNm2, fNmI, fNmT, fNmJ, fNmS, sc, isSc, fSetI, fApp, fOwn, fLstF, fCatF, fRetO, fPar, fParO, fTru, truB, List.cons_append, List.nil_append, List.getElem?_cons_zero, List.getElem?_cons_succ, List.set_cons_zero, List.set_cons_succ, List.replicate, List.length_cons, List.length_nil, Nat.reduceAdd, Nat.reduceSub, if_true, if_false, Bool.false_eq_true, ↓reduceIte, List.append_nil, gTup0, gTup1, gTup2, gTup3, gLst0, gLst1, gLst2, gLst3, gLst4, gLst5, gLst10, isa_tt, isa_ts, isa_ti, isa_tn, isa_tl, isa_ss, isa_st, isa_si, isa_sn, isa_ii, isa_ib, isa_bi, isa_bb, isa_is, isa_in, isa_it, fSlW, ez', slW_t, hld, hC, gLst7]
  have hrows : ∀ y ∈ ([.tuple [.tuple O], .tuple [.tuple W], .tuple [.tuple W], .tuple [.tuple D, .tuple D], .tuple [.list D], .tuple [.tuple C], .tuple []] : List PyData), ∃ L, y = .tuple L ∧ Row L := fun y hy => by
    have two : Row [.tuple W] := row_pl (fun d hd => by rw [List.mem_singleton.mp hd]; exact htwo) (by simp)
    simp only [List.mem_cons, List.not_mem_nil, or_false] at hy
    rcases hy with rfl | rfl | rfl | rfl | rfl | rfl | rfl
    · exact ⟨_, rfl, fun d hd => by rw [List.mem_singleton.mp hd]; exact hone.1, hone.2, by simp⟩
    · exact ⟨_, rfl, two⟩
    · exact ⟨_, rfl, two⟩
    · exact ⟨_, rfl, row_pl (fun d hd => by
        simp only [List.mem_cons, List.not_mem_nil, or_false] at hd
        rcases hd with rfl | rfl <;> exact hrp) (by simp)⟩
    · exact ⟨_, rfl, fun d hd => by rw [List.mem_singleton.mp hd]; exact hli.1, .inl fun d hd => by rw [List.mem_singleton.mp hd]; exact hli.2, by simp⟩
    · exact ⟨_, rfl, row_pl (fun d hd => by rw [List.mem_singleton.mp hd]; exact hcut) (by simp)⟩
    · exact ⟨_, rfl, row_pl (fun d hd => by cases hd) (by simp)⟩
  obtain ⟨y, hy, x5, e5⟩ := e_pick (base := base) (t := t) (x := x4) (f := f) (ds := [.tuple [.tuple O], .tuple [.tuple W], .tuple [.tuple W], .tuple [.tuple D, .tuple D], .tuple [.list D], .tuple [.tuple C], .tuple []]) (by simp) (by simp)
  obtain ⟨L, rfl, hL⟩ := hrows y hy
  have hLl := hL.l
  have c4 := cutD_len R none (some a)
  have c5 := cutD_len R (some (a + 1)) none
  have c6 := cutD_len R none (some 1)
  have k4 : gCatTT (.tuple (DL.cutD R none (some a))) (.tuple L) = some (.tuple (DL.cutD R none (some a) ++ L)) := catTT (by omega)
  have k5 : gCatTT (.tuple (DL.cutD R none (some a) ++ L)) (.tuple (DL.cutD R (some (a + 1)) none)) = some (.tuple ((DL.cutD R none (some a) ++ L) ++ DL.cutD R (some (a + 1)) none)) := catTT (by rw [List.length_append]; omega)
  have k6 : gCatTT (.tuple R) (.tuple (DL.cutD R none (some 1))) = some (.tuple (R ++ DL.cutD R none (some 1))) := catTT (by omega)
  have hmix := mix_al (A := DL.cutD R none (some a)) (B := L) (C := DL.cutD R (some (a + 1)) none) (fun d hd => hRp d (cutD_mem d hd)) hL (fun d hd => hRp d (cutD_mem d hd))
  have t1 : Th (.tuple ((DL.cutD R none (some a) ++ L) ++ DL.cutD R (some (a + 1)) none)) := th_tup hmix.1 (by rw [List.length_append, List.length_append]; omega) hmix.2
  have t2 : Th (.list R) := th_lst (fun d hd => (hRp d hd).i) (by omega) (fun d hd => (hRp d hd).h)
  have hR3 : ∀ d ∈ R ++ DL.cutD R none (some 1), Pl d := fun d hd => by
    rcases List.mem_append.mp hd with hd | hd
    · exact hRp d hd
    · exact hRp d (cutD_mem d hd)
  have t3 : Th (.tuple (R ++ DL.cutD R none (some 1))) := th_tup (fun d hd => (hR3 d hd).i) (by rw [List.length_append]; omega) (.inl fun d hd => (hR3 d hd).h)
  have hlR : listD (.tuple R) = some (.list R) := rfl
  generalize hX : ([.tuple [.tuple O], .tuple [.tuple W], .tuple [.tuple W], .tuple [.tuple D, .tuple D], .tuple [.list D], .tuple [.tuple C], .tuple []] : List PyData) = X at *
  have q4 : threeF [.own base.length, .dat (.tuple R), .dat (.tuple O), .dat (.tuple W), .dat (.list X), .dat (.int a), .dat (.int s)] (base ++ [.int x4, .int f] :: t) = some (.list [.tuple ((DL.cutD R none (some a) ++ L) ++ DL.cutD R (some (a + 1)) none), .list R, .tuple (R ++ DL.cutD R none (some 1))], base ++ [.int x5, .int f] :: t) := by
    unfold threeF
    simp only [defM, fSeq, fIfS, fAnd, fOr, fNot, fB, fAndV, fOrV, fNotV, fIf, fIsi, tyD, fIsA, bnd, opt, fin, fChain, f2, fN, fCons, fNil, fVar, fC, g1, gI, gIC, fRet, fExpr, fCall, pNil, pDat, pNm, fAsg, gNm, gNo, gCo, gTu, fEnd, fFor, fSq, seqD, fSg, fLcD, fLc, fYes, fM1, gSS, fM0, fSl, fNo, fSome, rd, fNmB, fNm2, fNmI, fNmT, fNmJ, fNmS, sc, isSc, fSetI, fApp, fOwn, fLstF, fCatF, fRetO, fPar, fParO, fTru, truB, List.cons_append, List.nil_append, List.getElem?_cons_zero, List.getElem?_cons_succ, List.set_cons_zero, List.set_cons_succ, List.replicate, List.length_cons, List.length_nil, Nat.reduceAdd, Nat.reduceSub, if_true, if_false, Bool.false_eq_true, ↓reduceIte, List.append_nil, gTup0, gTup1, gTup2, gTup3, gLst0, gLst1, gLst2, gLst3, gLst4, gLst5, gLst10, isa_tt, isa_ts, isa_ti, isa_tn, isa_tl, isa_ss, isa_st, isa_si, isa_sn, isa_ii, isa_ib, isa_bi, isa_bb, isa_is, isa_in, isa_it, fSlW, slW_t, e5, k4, gA1, k5, hlR, k6]
  generalize (DL.cutD R none (some a) ++ L) ++ DL.cutD R (some (a + 1)) none = Y1 at *
  generalize R ++ DL.cutD R none (some 1) = Y3 at *
  obtain ⟨y, hy, x6, e6⟩ := e_pick (base := base) (t := t) (x := x5) (f := f) (ds := [.tuple Y1, .list R, .tuple Y3]) (by simp) (by simp)
  have hyT : Th y := by
    simp only [List.mem_cons, List.not_mem_nil, or_false] at hy
    rcases hy with rfl | rfl | rfl
    · exact t1
    · exact t2
    · exact t3
  refine ⟨y, x6, hyT, ?_⟩
  have q5 : (fCall m__law_pick (pNm 0 (pDat threeF pNil))) [.own base.length, .dat (.tuple R), .dat (.tuple O), .dat (.tuple W), .dat (.list X), .dat (.int a), .dat (.int s)] (base ++ [.int x4, .int f] :: t) = some (y, base ++ [.int x6, .int f] :: t) := by
    simp only [defM, fSeq, fIfS, fAnd, fOr, fNot, fB, fAndV, fOrV, fNotV, fIf, fIsi, tyD, fIsA, bnd, opt, fin, fChain, f2, fN, fCons, fNil, fVar, fC, g1, gI, gIC, fRet, fExpr, fCall, pNil, pDat, pNm, fAsg, gNm, gNo, gCo, gTu, fEnd, fFor, fSq, seqD, fSg, fLcD, fLc, fYes, fM1, gSS, fM0, fSl, fNo, fSome, rd, fNmB, fNm2, fNmI, fNmT, fNmJ, fNmS, sc, isSc, fSetI, fApp, fOwn, fLstF, fCatF, fRetO, fPar, fParO, fTru, truB, List.cons_append, List.nil_append, List.getElem?_cons_zero, List.getElem?_cons_succ, List.set_cons_zero, List.set_cons_succ, List.replicate, List.length_cons, List.length_nil, Nat.reduceAdd, Nat.reduceSub, if_true, if_false, Bool.false_eq_true, ↓reduceIte, List.append_nil, gTup0, gTup1, gTup2, gTup3, gLst0, gLst1, gLst2, gLst3, gLst4, gLst5, gLst10, isa_tt, isa_ts, isa_ti, isa_tn, isa_tl, isa_ss, isa_st, isa_si, isa_sn, isa_ii, isa_ib, isa_bi, isa_bb, isa_is, isa_in, isa_it, q4, e6]
  have eB : B__law_spoilt [.own base.length, .dat (.tuple R), .un, .un, .un, .un, .un] (base ++ [.int x, .int f] :: t) = some (.rt (.dat y) (base ++ [.int x6, .int f] :: t)) := by
    rw [B_spoilt_eq, seq_nx q0, seq_nx (ρ1 := [.own base.length, .dat (.tuple R), .dat (.tuple O), .un, .un, .dat (.int a), .dat (.int s)]) (asg_of q1 rfl),
      seq_nx (ρ1 := [.own base.length, .dat (.tuple R), .dat (.tuple O), .dat (.tuple W), .un, .dat (.int a), .dat (.int s)]) (asg_of q2 rfl),
      seq_nx (ρ1 := [.own base.length, .dat (.tuple R), .dat (.tuple O), .dat (.tuple W), .dat (.list X), .dat (.int a), .dat (.int s)]) (asg_of q3 rfl)]
    exact ret_of q5
  have := defM_rd (n := 2) (nn := 7) (B := B__law_spoilt) (ρ := [.own base.length, .dat (.tuple R)]) (μ := base ++ [.int x, .int f] :: t) eB
  rw [ln, tk0] at this
  exact this
end
end Law
namespace Law
open PySem PySem.Spec PyProof.Rows L2 DL
local instance : Tabs := ⟨[]⟩
open TL
theorem call_of {m : FE} {g : FP} {ρ : Rho} {μ m1 : Mu} {sl : List Sl} {r : Option (PyData × Mu)} (h : g ρ μ = some (sl, m1)) (h2 : m sl m1 = r) : fCall m g ρ μ = r := by
  unfold fCall
  rw [h]; exact h2
theorem if_nx {tc : FT} {F G : FS} {ρ : Rho} {μ m : Mu} {b : Bool} (h : tc ρ μ = some (b, m)) : fIfS tc F G ρ μ = if b = true then F ρ m else G ρ m := by
  unfold fIfS
  rw [h]; rfl
theorem fB_ne {e fb : FE} {ρ : Rho} {μ m m2 : Mu} {d c : PyData} {b : Bool} (h : e ρ μ = some (d, m)) (hb : fb ρ m = some (c, m2)) (h2 : gNe d c = some (.bool b)) : fB (f2 e fb gNe) ρ μ = some (b, m2) := by
  unfold fB f2
  rw [h]
  show bnd (bnd (fb ρ m) _) _ = _
  rw [hb]
  show bnd (fin (gNe d c) m2) _ = _
  rw [h2]; rfl
theorem no_turn {tc : FT} {F : FS} {ρ : Rho} {μ m : Mu} (h : tc ρ μ = some (false, m)) : fIfS tc F fEnd ρ μ = some (.nx ρ m) := by
  rw [if_nx h]; rfl
theorem or_no {t1 t2 : FT} {ρ : Rho} {μ m m2 : Mu} (h1 : t1 ρ μ = some (false, m)) (h2 : t2 ρ m = some (false, m2)) : fOr t1 t2 ρ μ = some (false, m2) := by
  unfold fOr
  rw [h1]; exact h2
theorem n1_of {f : FE} {g : PyData → Option PyData} {ρ : Rho} {μ m : Mu} {d e : PyData} (h1 : f ρ μ = some (d, m)) (h2 : g d = some e) : fN (fCons f fNil) (g1 g) ρ μ = some (e, m) := by
  unfold fN fCons
  rw [h1]
  show fin (g d) m = _
  rw [h2]; rfl
theorem ne_same {x : Str} : gNe (.str x) (.str x) = some (.bool false) := by rw [gN2, decide_eq_true rfl]; rfl
theorem own_of {i : Nat} {f : FF} {ρ : Rho} {μ m : Mu} {ds : List PyData} (h : f ρ μ = some (ds, m)) : fOwn i f ρ μ = some (.nx (ρ.set i (.own m.length)) (m ++ [ds])) := by
  unfold fOwn
  rw [h]; rfl
theorem loop_inv {g : FG} {B : FS} {P : Rho → Mu → Prop} : ∀ (xs : List PyData), (∀ d ∈ xs, ∀ ρ μ, P ρ μ → ∃ ρ1 ρ2 m2, g d ρ = some ρ1 ∧ B ρ1 μ = some (.nx ρ2 m2) ∧ P ρ2 m2) → ∀ ρ μ, P ρ μ → ∃ ρ' μ', loopF g B xs ρ μ = some (.nx ρ' μ') ∧ P ρ' μ'
  | [], _, ρ, μ, h => ⟨ρ, μ, rfl, h⟩
  | d :: r, hs, ρ, μ, h => by
    obtain ⟨ρ1, ρ2, m2, e1, e2, h2⟩ := hs d (by simp) ρ μ h
    obtain ⟨ρ', μ', e3, h3⟩ := loop_inv r (fun x hx => hs x (by simp [hx])) ρ2 m2 h2
    refine ⟨ρ', μ', ?_, h3⟩
    unfold loopF
    rw [e1]
    show (match B ρ1 μ with | some (.nx ρ2 m2) => loopF g B r ρ2 m2 | some (.ct ρ2 m2) => loopF g B r ρ2 m2 | some (.bk ρ2 m2) => some (.nx ρ2 m2) | some (.rt v m2) => some (.rt v m2) | none => none) = _
    rw [e2]
    exact e3
theorem e_pen {c : Int} (μ : Mu) : ∃ f : Int, m__law_pen [.dat (.int c)] μ = some ([.int c, .int f], μ) := by
  have hp : cPow 10 18 = true := decide_eq_true (by decide)
  have h2 : (2 : Nat) ≤ sizeLine := line_ge (by decide)
  refine ⟨if (decide ((10 : Int) ^ (Int.toNat 18) ≤ c)) = true then 1 else 0, ?_⟩
  unfold m__law_pen
  simp only [defM, fSeq, fIfS, fAnd, fOr, fNot, fB, fAndV, fOrV, fNotV, fIf, fIsi, tyD, fIsA, bnd, opt, fin, fChain, f2, fN, fCons, fNil, fVar, fC, g1, gI, gIC, fRet, fExpr, fCall, pNil, pDat, pNm, fAsg, gNm, gNo, gCo, gTu, fEnd, fFor, fSq, seqD, fSg, fLcD, fLc, fYes, fM1, gSS, fM0, fSl, fNo, fSome, rd, fNmB, fNm2, fNmI, fNmT, fNmJ, fNmS, sc, isSc, fSetI, fApp, fOwn, fLstF, fCatF, fRetO, fPar, fParO, fTru, truB, List.cons_append, List.nil_append, List.getElem?_cons_zero, List.getElem?_cons_succ, List.set_cons_zero, List.set_cons_succ, List.replicate, List.length_cons, List.length_nil, Nat.reduceAdd, Nat.reduceSub, if_true, if_false, Bool.false_eq_true, ↓reduceIte, List.append_nil, gTup0, gTup1, gTup2, gTup3, gLst0, gLst1, gLst2, gLst3, gLst4, gLst5, gLst10, isa_tt, isa_ts, isa_ti, isa_tn, isa_tl, isa_ss, isa_st, isa_si, isa_sn, isa_ii, isa_ib, isa_bi, isa_bb, isa_is, isa_in, isa_it, defF, hp, DL.intD, if_pos h2]
theorem e_cell {ns : List Int} (h : ns.length ≤ 63) (μ : Mu) : ∃ z : Int, m__law_cell [.dat (.list (ns.map PyData.int)), .dat (.int 0)] μ = some (.int z, μ) := by
  have hl : lenD (.list (ns.map PyData.int)) = some (.int ns.length) := by show some (PyData.int ((ns.map PyData.int).length : Nat)) = _; rw [List.length_map]
  cases ns with
  | nil =>
    refine ⟨0, ?_⟩
    have z : decide ((0 : Int) < ((0 : Nat) : Int)) = false := by decide
    unfold m__law_cell B__law_cell
    simp only [defM, fSeq, fIfS, fAnd, fOr, fNot, fB, fAndV, fOrV, fNotV, fIf, fIsi, tyD, fIsA, bnd, opt, fin, fChain, f2, fN, fCons, fNil, fVar, fC, g1, gI, gIC, fRet, fExpr, fCall, pNil, pDat, pNm, fAsg, gNm, gNo, gCo, gTu, fEnd, fFor, fSq, seqD, fSg, fLcD, fLc, fYes, fM1, gSS, fM0, fSl, fNo, fSome, rd, fNmB, fNm2, fNmI, fNmT, fNmJ, fNmS, sc, isSc, fSetI, fApp, fOwn, fLstF, fCatF, fRetO, fPar, fParO, fTru, truB, List.cons_append, List.nil_append, List.getElem?_cons_zero, List.getElem?_cons_succ, List.set_cons_zero, List.set_cons_succ, List.replicate, List.length_cons, List.length_nil, Nat.reduceAdd, Nat.reduceSub, if_true, if_false, Bool.false_eq_true, ↓reduceIte, List.append_nil, gTup0, gTup1, gTup2, gTup3, gLst0, gLst1, gLst2, gLst3, gLst4, gLst5, gLst10, isa_tt, isa_ts, isa_ti, isa_tn, isa_tl, isa_ss, isa_st, isa_si, isa_sn, isa_ii, isa_ib, isa_bi, isa_bb, isa_is, isa_in, isa_it, hl, z, List.take_length]
  | cons n r =>
    refine ⟨n, ?_⟩
    have z : (0 : Int) < ((n :: r).length : Nat) := by rw [List.length_cons]; omega
    have i0 : ixD (.list ((n :: r).map PyData.int)) (.int 0) = some (.int n) := by
      show (ixN ((n :: r).map PyData.int).length 0).bind _ = _
      unfold ixN
      rw [if_pos (by decide), if_pos (by rw [List.length_map]; exact z)]; rfl
    unfold m__law_cell B__law_cell
    simp only [List.length_cons] at hl z
    simp only [defM, fSeq, fIfS, fAnd, fOr, fNot, fB, fAndV, fOrV, fNotV, fIf, fIsi, tyD, fIsA, bnd, opt, fin, fChain, f2, fN, fCons, fNil, fVar, fC, g1, gI, gIC, fRet, fExpr, fCall, pNil, pDat, pNm, fAsg, gNm, gNo, gCo, gTu, fEnd, fFor, fSq, seqD, fSg, fLcD, fLc, fYes, fM1, gSS, fM0, fSl, fNo, fSome, rd, fNmB, fNm2, fNmI, fNmT, fNmJ, fNmS, sc, isSc, fSetI, fApp, fOwn, fLstF, fCatF, fRetO, fPar, fParO, fTru, truB, List.cons_append, List.nil_append, List.getElem?_cons_zero, List.getElem?_cons_succ, List.set_cons_zero, List.set_cons_succ, List.replicate, List.length_cons, List.length_nil, Nat.reduceAdd, Nat.reduceSub, if_true, if_false, Bool.false_eq_true, ↓reduceIte, List.append_nil, gTup0, gTup1, gTup2, gTup3, gLst0, gLst1, gLst2, gLst3, gLst4, gLst5, gLst10, isa_tt, isa_ts, isa_ti, isa_tn, isa_tl, isa_ss, isa_st, isa_si, isa_sn, isa_ii, isa_ib, isa_bi, isa_bb, isa_is, isa_in, isa_it, hl, z, decide_true, i0, List.take_length]
theorem b_repr (b : Bool) : reprD (.bool b) = some (.str (PyData.shown (.bool b))) := e_repr ⟨rfl, Nat.zero_le _⟩ (Nat.zero_le _) rfl
theorem b2_repr (a b : Bool) : reprD (.tuple [.bool a, .bool b]) = some (.str (PyData.shown (.tuple [.bool a, .bool b]))) := by
  refine e_repr ⟨?_, ?_⟩ ?_ ?_ <;> cases a <;> cases b <;> decide +kernel
def k1B : FS := (fIfS (fB (f2 (fN (fCons (fN (fCons (fCall m_is_path (pNm 2 pNil)) (fCons (fCall m_is_pattern (pNm 2 pNil)) fNil)) DL.gTup) fNil) (g1 reprD)) (fN (fCons (fN (fCons (fCall m__law_is_path (pNm 2 pNil)) (fCons (fCall m__law_is_pattern (pNm 2 pNil)) fNil)) DL.gTup) fNil) (g1 reprD)) gNe))
    (fRet (fC (.bool false)))
    fEnd)
def k2B : FS := (fSeq (fPar 8 9 (fCons (fN (fCons (fVar 2) fNil) (g1 reprD)) (fCons (fCall m_are_routes (pNm 2 pNil)) fNil)))
  (fIfS (fOr (fB (f2 (fN (fCons (fVar 9) fNil) (g1 reprD)) (fN (fCons (fCall m__law_are_routes (pNm 2 pNil)) fNil) (g1 reprD)) gNe)) (fB (f2 (fN (fCons (fVar 2) fNil) (g1 reprD)) (fVar 8) gNe)))
    (fRet (fC (.bool false)))
    fEnd))
def t1E : FE := (fN (fCons (fVar 7) (fCons (fCall m__law_bent (pNm 4 (pNm 7 pNil))) (fCons (fCall m__law_bent (pNm 4 (pDat (f2 (f2 (fVar 6) (fC (.int (0))) ixD) (fC (.int (2))) ixD) pNil))) (fCons (f2 (f2 (fVar 6) (f1I (fun i => -i) (fC (.int (1)))) ixD) (fC (.int (2))) ixD) (fCons (fCall m__law_odd (pNm 4 pNil)) fNil))))) gLst)
def t2E : FE := (fN (fCons (fVar 6) (fCons (fCall m__law_spoilt (pNm 4 (pNm 6 pNil))) (fCons (fCall m__law_spoilt (pNm 4 (pNm 6 pNil))) (fCons (fCall m__law_odd (pNm 4 pNil)) fNil)))) gLst)
def lpB : FS := (fSeq (fAsg (fCall m__law_routes (pNm 4 pNil)) (gNm 6))
  (fSeq (fAsg (fCall m__law_path (pNm 4 (pNm 6 pNil))) (gNm 7))
  (fSeq (fFor (fSq t1E) (gNm 2) k1B) (fFor (fSq t2E) (gNm 2) k2B))))
def clB : FS := (fSeq (fOwn 4 (fCallN m__law_pen (pNm 3 pNil))) (fFor (fRg1 (fC (.int (3)))) (gNm 5) lpB))
def w10 : List PyData := [(.str "/"), (.str "//"), (.str "/a/b/c/d/e"), (.str "/a/b/c/d/e/f"), (.str "/abcdefgh"), (.str "/abcdefghi"), (.str "/a-9"), (.str "/A"), (.str "a"), (.str "")]
def w2 : List PyData := [(.str "/a/"), (.str "/{a}/{a}")]
def w8 : List PyData := [(.str "/{a}"), (.str "/{a:n}"), (.str "/{a:m}"), (.str "/{:n}"), (.str "/{}"), (.str "/{a}b"), (.str "/x{a}"), (.str "/{a}/{b:n}/c/{d}/{e}")]
def w22 : List PyData := [(.str "/{abcdefghi}"), (.str "/{a-b}")]
def w4 : List PyData := [.none, (.int (5)), (.tuple [(.str "/")]), (.list [(.str "/")])]
def wAll : List PyData := (((w10 ++ w2) ++ w8) ++ w22) ++ w4
theorem w_ok : (wAll.all fun d => fit d && decide (d.weight ≤ 200000)) = true := by decide +kernel
theorem B_law_eq : B_law = (fSeq (fAsg (fC (.list w10)) (gNm 1)) (fSeq (fAsg (f2 (fVar 1) (fC (.list w2)) gAdd) (gNm 1)) (fSeq (fAsg (f2 (fVar 1) (fC (.list w8)) gAdd) (gNm 1)) (fSeq (fAsg (f2 (fVar 1) (fC (.list w22)) gAdd) (gNm 1))
  (fSeq (fFor (fSq (f2 (fVar 1) (fC (.list w4)) gAdd)) (gNm 2) k1B)
  (fSeq (fFor (fSq (f2 (fN (fCons (fCall m__law_cell (pNm 0 (pDat (fC (.int (0))) pNil))) fNil) gLst) (fSl (fVar 0) (fSome (fC (.int (1)))) (fSome (fC (.int (4))))) gAdd)) (gNm 3) clB)
  (fRet (fC (.bool true))))))))) := rfl
section
variable {s0 s1 s2 s3 s4 s5 s6 s7 s8 s9 : Sl} {y : PyData} {μ : Mu}
theorem two_of (h : Sm y) : (fN (fCons (fCall m_is_path (pNm 2 pNil)) (fCons (fCall m_is_pattern (pNm 2 pNil)) fNil)) DL.gTup) [s0, s1, .dat y, s3, s4, s5, s6, s7, s8, s9] μ = some (.tuple [.bool (pathD y), .bool (patD y)], μ) := by
  simp only [defM, fSeq, fIfS, fAnd, fOr, fNot, fB, fAndV, fOrV, fNotV, fIf, fIsi, tyD, fIsA, bnd, opt, fin, fChain, f2, fN, fCons, fNil, fVar, fC, g1, gI, gIC, fRet, fExpr, fCall, pNil, pDat, pNm, fAsg, gNm, gNo, gCo, gTu, fEnd, fFor, fSq, seqD, fSg, fLcD, fLc, fYes, fM1, gSS, fM0, fSl, fNo, fSome, rd, fNmB, fNm2, fNmI, fNmT, fNmJ, fNmS, sc, isSc, fSetI, fApp, fOwn, fLstF, fCatF, fRetO, fPar, fParO, fTru, truB, List.cons_append, List.nil_append, List.getElem?_cons_zero, List.getElem?_cons_succ, List.set_cons_zero, List.set_cons_succ, List.replicate, List.length_cons, List.length_nil, Nat.reduceAdd, Nat.reduceSub, if_true, if_false, Bool.false_eq_true, ↓reduceIte, List.append_nil, gTup0, gTup1, gTup2, gTup3, gLst0, gLst1, gLst2, gLst3, gLst4, gLst5, gLst10, isa_tt, isa_ts, isa_ti, isa_tn, isa_tl, isa_ss, isa_st, isa_si, isa_sn, isa_ii, isa_ib, isa_bi, isa_bb, isa_is, isa_in, isa_it, e_path h, e_pat h]
theorem ltwo_of (h : Sm y) : (fN (fCons (fCall m__law_is_path (pNm 2 pNil)) (fCons (fCall m__law_is_pattern (pNm 2 pNil)) fNil)) DL.gTup) [s0, s1, .dat y, s3, s4, s5, s6, s7, s8, s9] μ = some (.tuple [.bool (pathD y), .bool (patD y)], μ) := by
  simp only [defM, fSeq, fIfS, fAnd, fOr, fNot, fB, fAndV, fOrV, fNotV, fIf, fIsi, tyD, fIsA, bnd, opt, fin, fChain, f2, fN, fCons, fNil, fVar, fC, g1, gI, gIC, fRet, fExpr, fCall, pNil, pDat, pNm, fAsg, gNm, gNo, gCo, gTu, fEnd, fFor, fSq, seqD, fSg, fLcD, fLc, fYes, fM1, gSS, fM0, fSl, fNo, fSome, rd, fNmB, fNm2, fNmI, fNmT, fNmJ, fNmS, sc, isSc, fSetI, fApp, fOwn, fLstF, fCatF, fRetO, fPar, fParO, fTru, truB, List.cons_append, List.nil_append, List.getElem?_cons_zero, List.getElem?_cons_succ, List.set_cons_zero, List.set_cons_succ, List.replicate, List.length_cons, List.length_nil, Nat.reduceAdd, Nat.reduceSub, if_true, if_false, Bool.false_eq_true, ↓reduceIte, List.append_nil, gTup0, gTup1, gTup2, gTup3, gLst0, gLst1, gLst2, gLst3, gLst4, gLst5, gLst10, isa_tt, isa_ts, isa_ti, isa_tn, isa_tl, isa_ss, isa_st, isa_si, isa_sn, isa_ii, isa_ib, isa_bi, isa_bb, isa_is, isa_in, isa_it, e_lpath h, e_lpat h]
theorem k1_turn (h : Sm y) : k1B [s0, s1, .dat y, s3, s4, s5, s6, s7, s8, s9] μ = some (.nx [s0, s1, .dat y, s3, s4, s5, s6, s7, s8, s9] μ) :=
  no_turn (fB_ne (n1_of (two_of h) (b2_repr _ _)) (n1_of (ltwo_of h) (b2_repr _ _)) ne_same)
theorem k2_turn (h : Th y) : ∃ t8 t9, k2B [s0, s1, .dat y, s3, s4, s5, s6, s7, s8, s9] μ = some (.nx [s0, s1, .dat y, s3, s4, s5, s6, s7, t8, t9] μ) := by
  have hr := e_repr h.s h.d h.o
  have h1 : fPar 8 9 (fCons (fN (fCons (fVar 2) fNil) (g1 reprD)) (fCons (fCall m_are_routes (pNm 2 pNil)) fNil)) [s0, s1, .dat y, s3, s4, s5, s6, s7, s8, s9] μ = some (.nx [s0, s1, .dat y, s3, s4, s5, s6, s7, .dat (.str y.shown), .dat (.bool (routesD y))] μ) := by
    simp only [defM, fSeq, fIfS, fAnd, fOr, fNot, fB, fAndV, fOrV, fNotV, fIf, fIsi, tyD, fIsA, bnd, opt, fin, fChain, f2, fN, fCons, fNil, fVar, fC, g1, gI, gIC, fRet, fExpr, fCall, pNil, pDat, pNm, fAsg, gNm, gNo, gCo, gTu, fEnd, fFor, fSq, seqD, fSg, fLcD, fLc, fYes, fM1, gSS, fM0, fSl, fNo, fSome, rd, fNmB, fNm2, fNmI, fNmT, fNmJ, fNmS, sc, isSc, fSetI, fApp, fOwn, fLstF, fCatF, fRetO, fPar, fParO, fTru, truB, List.cons_append, List.nil_append, List.getElem?_cons_zero, List.getElem?_cons_succ, List.set_cons_zero, List.set_cons_succ, List.replicate, List.length_cons, List.length_nil, Nat.reduceAdd, Nat.reduceSub, if_true, if_false, Bool.false_eq_true, ↓reduceIte, List.append_nil, gTup0, gTup1, gTup2, gTup3, gLst0, gLst1, gLst2, gLst3, gLst4, gLst5, gLst10, isa_tt, isa_ts, isa_ti, isa_tn, isa_tl, isa_ss, isa_st, isa_si, isa_sn, isa_ii, isa_ib, isa_bi, isa_bb, isa_is, isa_in, isa_it, hr, e_routes h.s]
  refine ⟨.dat (.str y.shown), .dat (.bool (routesD y)), ?_⟩
  unfold k2B
  rw [seq_nx h1]
  exact no_turn (or_no (fB_ne (n1_of (f := fVar 9) rfl (b_repr _)) (n1_of (call_of (sl := [.dat y]) rfl (e_lroutes h.s μ)) (b_repr _)) ne_same) (fB_ne (n1_of (f := fVar 2) rfl hr) rfl ne_same))
theorem k1_loop (ys : List PyData) (hs : ∀ y ∈ ys, Sm y) : ∃ t2, loopF (gNm 2) k1B ys [s0, s1, s2, s3, s4, s5, s6, s7, s8, s9] μ = some (.nx [s0, s1, t2, s3, s4, s5, s6, s7, s8, s9] μ) := by
  obtain ⟨ρ', μ', e, ⟨t2, rfl⟩, rfl⟩ := loop_inv (g := gNm 2) (B := k1B) (P := fun ρ m => (∃ t2, ρ = [s0, s1, t2, s3, s4, s5, s6, s7, s8, s9]) ∧ m = μ) ys (fun y hy ρ m hP => by
    obtain ⟨⟨t2, rfl⟩, rfl⟩ := hP
    exact ⟨_, _, _, rfl, k1_turn (hs y hy), ⟨_, rfl⟩, rfl⟩) [s0, s1, s2, s3, s4, s5, s6, s7, s8, s9] μ ⟨⟨_, rfl⟩, rfl⟩
  exact ⟨t2, e⟩
theorem k2_loop (ys : List PyData) (hs : ∀ y ∈ ys, Th y) : ∃ t2 t8 t9, loopF (gNm 2) k2B ys [s0, s1, s2, s3, s4, s5, s6, s7, s8, s9] μ = some (.nx [s0, s1, t2, s3, s4, s5, s6, s7, t8, t9] μ) := by
  obtain ⟨ρ', μ', e, ⟨t2, t8, t9, rfl⟩, rfl⟩ := loop_inv (g := gNm 2) (B := k2B) (P := fun ρ m => (∃ t2 t8 t9, ρ = [s0, s1, t2, s3, s4, s5, s6, s7, t8, t9]) ∧ m = μ) ys (fun y hy ρ m hP => by
    obtain ⟨⟨t2, t8, t9, rfl⟩, rfl⟩ := hP
    obtain ⟨u8, u9, e⟩ := k2_turn (s0 := s0) (s1 := s1) (s3 := s3) (s4 := s4) (s5 := s5) (s6 := s6) (s7 := s7) (s8 := t8) (s9 := t9) (μ := m) (hs y hy)
    exact ⟨_, _, _, rfl, e, ⟨_, _, _, rfl⟩, rfl⟩) [s0, s1, s2, s3, s4, s5, s6, s7, s8, s9] μ ⟨⟨_, _, _, rfl⟩, rfl⟩
  exact ⟨t2, t8, t9, e⟩
end
theorem at_neg {R : List PyData} (h : 1 ≤ R.length) : ∃ y ∈ R, atI R (-1) = some y := by
  have hl : R.length - 1 < R.length := by omega
  refine ⟨R[R.length - 1], List.getElem_mem hl, ?_⟩
  have e : ixN R.length (-1) = some (R.length - 1) := by
    unfold ixN
    rw [if_neg (by decide), if_pos (by omega)]
    congr 1
    omega
  unfold atI
  rw [e]
  show R[R.length - 1]? = _
  exact List.getElem?_eq_getElem hl
section
variable {base : Mu} {f : Int} {s0 s1 s2 s3 s5 s6 s7 s8 s9 : Sl}
theorem lp_turn {x : Int} : ∃ x' t2 t6 t7 t8 t9, lpB [s0, s1, s2, s3, .own base.length, s5, s6, s7, s8, s9] (base ++ [[.int x, .int f]]) = some (.nx [s0, s1, t2, s3, .own base.length, s5, t6, t7, t8, t9] (base ++ [[.int x', .int f]])) := by
  obtain ⟨rs, x1, hrs, e1⟩ := e_lrts (base := base) (t := []) (f := f) (x := x)
  obtain ⟨p, x2, hp, e2⟩ := e_lpathd (base := base) (t := []) (f := f) (x := x1) hrs
  obtain ⟨b1, x3, hb1, e3⟩ := e_bent (base := base) (t := []) (f := f) (x := x2) hp (by decide)
  have hR1 : 1 ≤ (rs.map rtD).length := by rw [List.length_map]; exact hrs.one
  obtain ⟨z, hz, ez⟩ := at_ok (ds := rs.map rtD) (d := 0) (by decide) (by omega)
  obtain ⟨r0, hr0, rfl⟩ := List.mem_map.mp hz
  obtain ⟨z, hz, ez2⟩ := at_neg hR1
  obtain ⟨r9, hr9, rfl⟩ := List.mem_map.mp hz
  have hp0 := pat_sm (hrs.ok r0 hr0).pt.cs
  have hp9 := pat_sm (hrs.ok r9 hr9).pt.cs
  obtain ⟨b2, x4, hb2, e4⟩ := e_bent (base := base) (t := []) (f := f) (x := x3) (T := patS r0.cs) (n := 106) ⟨hp0.1, hp0.2⟩ (by decide)
  obtain ⟨o1, x5, ho1, e5⟩ := e_odd (base := base) (t := []) (f := f) (x := x4)
  obtain ⟨y1, x6, hy1, e6⟩ := e_spoilt (base := base) (t := []) (f := f) (x := x5) hrs
  obtain ⟨y2, x7, hy2, e7⟩ := e_spoilt (base := base) (t := []) (f := f) (x := x6) hrs
  obtain ⟨o2, x8, ho2, e8⟩ := e_odd (base := base) (t := []) (f := f) (x := x7)
  have i0 : ixD (.tuple (rs.map rtD)) (.int 0) = some (rtD r0) := ez
  have i9 : ixD (.tuple (rs.map rtD)) (.int (-1)) = some (rtD r9) := ez2
  have j0 : ixD (rtD r0) (.int 2) = some (.str (patS r0.cs)) := rfl
  have j9 : ixD (rtD r9) (.int 2) = some (.str (patS r9.cs)) := rfl
  have q1 : fSq t1E [s0, s1, s2, s3, .own base.length, s5, .dat (.tuple (rs.map rtD)), .dat (.str p), s8, s9] (base ++ [[.int x2, .int f]]) = some ([.str p, .str b1, .str b2, .str (patS r9.cs), o1], base ++ [[.int x5, .int f]]) := by
    generalize rs.map rtD = R at *
    unfold t1E
    simp only [defM, fSeq, fIfS, fAnd, fOr, fNot, fB, fAndV, fOrV, fNotV, fIf, fIsi, tyD, fIsA, bnd, opt, fin, fChain, f2, fN, fCons, fNil, fVar, fC, g1, gI, gIC, fRet, fExpr, fCall, pNil, pDat, pNm, fAsg, gNm, gNo, gCo, gTu, fEnd, fFor, fSq, seqD, fSg, fLcD, fLc, fYes, fM1, gSS, fM0, fSl, fNo, fSome, rd, fNmB, fNm2, fNmI, fNmT, fNmJ, fNmS, sc, isSc, fSetI, fApp, fOwn, fLstF, fCatF, fRetO, fPar, fParO, fTru, truB, List.cons_append, List.nil_append, List.getElem?_cons_zero, List.getElem?_cons_succ, List.set_cons_zero, List.set_cons_succ, List.replicate, List.length_cons, List.length_nil, Nat.reduceAdd, Nat.reduceSub, if_true, if_false, Bool.false_eq_true, ↓reduceIte, List.append_nil, gTup0, gTup1, gTup2, gTup3, gLst0, gLst1, gLst2, gLst3, gLst4, gLst5, gLst10, isa_tt, isa_ts, isa_ti, isa_tn, isa_tl, isa_ss, isa_st, isa_si, isa_sn, isa_ii, isa_ib, isa_bi, isa_bb, isa_is, isa_in, isa_it, e3, i0, j0, e4, f1I, i9, j9, e5]
  obtain ⟨t2, l1⟩ := k1_loop (s0 := s0) (s1 := s1) (s2 := s2) (s3 := s3) (s4 := .own base.length) (s5 := s5) (s6 := .dat (.tuple (rs.map rtD))) (s7 := .dat (.str p)) (s8 := s8) (s9 := s9) (μ := base ++ [[.int x5, .int f]]) [.str p, .str b1, .str b2, .str (patS r9.cs), o1] (fun y hy => by
    simp only [List.mem_cons, List.not_mem_nil, or_false] at hy
    rcases hy with rfl | rfl | rfl | rfl | rfl
    · exact hp.sm (by decide)
    · exact hb1.sm (by decide)
    · exact hb2.sm (by decide)
    · exact ⟨hp9.1, Nat.le_trans hp9.2 (by decide)⟩
    · exact ho1.th.s)
  have q2 : fSq t2E [s0, s1, t2, s3, .own base.length, s5, .dat (.tuple (rs.map rtD)), .dat (.str p), s8, s9] (base ++ [[.int x5, .int f]]) = some ([.tuple (rs.map rtD), y1, y2, o2], base ++ [[.int x8, .int f]]) := by
    generalize rs.map rtD = R at *
    unfold t2E
    simp only [defM, fSeq, fIfS, fAnd, fOr, fNot, fB, fAndV, fOrV, fNotV, fIf, fIsi, tyD, fIsA, bnd, opt, fin, fChain, f2, fN, fCons, fNil, fVar, fC, g1, gI, gIC, fRet, fExpr, fCall, pNil, pDat, pNm, fAsg, gNm, gNo, gCo, gTu, fEnd, fFor, fSq, seqD, fSg, fLcD, fLc, fYes, fM1, gSS, fM0, fSl, fNo, fSome, rd, fNmB, fNm2, fNmI, fNmT, fNmJ, fNmS, sc, isSc, fSetI, fApp, fOwn, fLstF, fCatF, fRetO, fPar, fParO, fTru, truB, List.cons_append, List.nil_append, List.getElem?_cons_zero, List.getElem?_cons_succ, List.set_cons_zero, List.set_cons_succ, List.replicate, List.length_cons, List.length_nil, Nat.reduceAdd, Nat.reduceSub, if_true, if_false, Bool.false_eq_true, ↓reduceIte, List.append_nil, gTup0, gTup1, gTup2, gTup3, gLst0, gLst1, gLst2, gLst3, gLst4, gLst5, gLst10, isa_tt, isa_ts, isa_ti, isa_tn, isa_tl, isa_ss, isa_st, isa_si, isa_sn, isa_ii, isa_ib, isa_bi, isa_bb, isa_is, isa_in, isa_it, e6, e7, e8]
  have hRt : Th (.tuple (rs.map rtD)) := th_tup (fun d hd => by
    obtain ⟨r, hr, rfl⟩ := List.mem_map.mp hd
    exact (rt_pl (hrs.ok r hr)).i) (by rw [List.length_map]; have := hrs.ten; omega) (.inl fun d hd => by
    obtain ⟨r, hr, rfl⟩ := List.mem_map.mp hd
    exact (rt_pl (hrs.ok r hr)).h)
  obtain ⟨u2, u8, u9, l2⟩ := k2_loop (s0 := s0) (s1 := s1) (s2 := t2) (s3 := s3) (s4 := .own base.length) (s5 := s5) (s6 := .dat (.tuple (rs.map rtD))) (s7 := .dat (.str p)) (s8 := s8) (s9 := s9) (μ := base ++ [[.int x8, .int f]]) [.tuple (rs.map rtD), y1, y2, o2] (fun y hy => by
    simp only [List.mem_cons, List.not_mem_nil, or_false] at hy
    rcases hy with rfl | rfl | rfl | rfl
    · exact hRt
    · exact hy1
    · exact hy2
    · exact ho2.th)
  refine ⟨x8, u2, .dat (.tuple (rs.map rtD)), .dat (.str p), u8, u9, ?_⟩
  unfold lpB
  rw [seq_nx (ρ1 := [s0, s1, s2, s3, .own base.length, s5, .dat (.tuple (rs.map rtD)), s7, s8, s9]) (asg_of (call_of (sl := [.own base.length]) rfl e1) rfl),
    seq_nx (ρ1 := [s0, s1, s2, s3, .own base.length, s5, .dat (.tuple (rs.map rtD)), .dat (.str p), s8, s9]) (asg_of (call_of (sl := [.own base.length, .dat (.tuple (rs.map rtD))]) rfl e2) rfl),
    seq_nx (for_of q1 l1)]
  exact for_of q2 l2
end
theorem rg3 {ρ : Rho} {μ : Mu} : fRg1 (fC (.int 3)) ρ μ = some (rgD 0 3, μ) := by kernel_rfl
theorem cl_turn {c : Int} {base : Mu} {s0 s1 s2 s4 s5 s6 s7 s8 s9 : Sl} : ∃ (m' : Mu) (ρ' : Rho), ρ'.length = 10 ∧ clB [s0, s1, s2, .dat (.int c), s4, s5, s6, s7, s8, s9] base = some (.nx ρ' m') := by
  obtain ⟨f, e1⟩ := e_pen (c := c) base
  have h1 : fOwn 4 (fCallN m__law_pen (pNm 3 pNil)) [s0, s1, s2, .dat (.int c), s4, s5, s6, s7, s8, s9] base = some (.nx [s0, s1, s2, .dat (.int c), .own base.length, s5, s6, s7, s8, s9] (base ++ [[.int c, .int f]])) := own_of (show m__law_pen [.dat (.int c)] base = _ from e1)
  obtain ⟨ρ', m', e, x', t2, t5, t6, t7, t8, t9, rfl, rfl⟩ := loop_inv (g := gNm 5) (B := lpB) (P := fun ρ m => ∃ (x : Int) (t2 t5 t6 t7 t8 t9 : Sl), ρ = [s0, s1, t2, .dat (.int c), .own base.length, t5, t6, t7, t8, t9] ∧ m = base ++ [[.int x, .int f]]) (rgD 0 3) (fun d hd ρ m hP => by
    obtain ⟨x, t2, t5, t6, t7, t8, t9, rfl, rfl⟩ := hP
    obtain ⟨x', u2, u6, u7, u8, u9, e⟩ := lp_turn (s0 := s0) (s1 := s1) (s2 := t2) (s3 := .dat (.int c)) (s5 := .dat d) (s6 := t6) (s7 := t7) (s8 := t8) (s9 := t9) (base := base) (x := x) (f := f)
    exact ⟨_, _, _, rfl, e, _, _, _, _, _, _, _, rfl, rfl⟩) [s0, s1, s2, .dat (.int c), .own base.length, s5, s6, s7, s8, s9] (base ++ [[.int c, .int f]]) ⟨_, _, _, _, _, _, _, rfl, rfl⟩
  refine ⟨base ++ [[.int x', .int f]], [s0, s1, t2, .dat (.int c), .own base.length, t5, t6, t7, t8, t9], rfl, ?_⟩
  unfold clB
  rw [seq_nx h1]
  exact for_of rg3 e
theorem cl_loop (zs : List Int) {base : Mu} : ∀ ρ : Rho, ρ.length = 10 → ∃ ρ' m', loopF (gNm 3) clB (zs.map PyData.int) ρ base = some (.nx ρ' m') := by
  intro ρ hρ
  obtain ⟨ρ', μ', e, _⟩ := loop_inv (g := gNm 3) (B := clB) (P := fun ρ _ => ρ.length = 10) (zs.map PyData.int) (fun d hd ρ m hP => by
    obtain ⟨c, _, rfl⟩ := List.mem_map.mp hd
    match ρ, hP with
    | [t0, t1, t2, t3, t4, t5, t6, t7, t8, t9], _ =>
      obtain ⟨m', ρ', hl, e⟩ := cl_turn (s0 := t0) (s1 := t1) (s2 := t2) (c := c) (s4 := t4) (s5 := t5) (s6 := t6) (s7 := t7) (s8 := t8) (s9 := t9) (base := m)
      exact ⟨_, _, _, rfl, e, hl⟩) ρ base hρ
  exact ⟨ρ', μ', e⟩
theorem main (ns : List Int) (h : ns.length ≤ 63) : m_law [.dat (.list (ns.map PyData.int))] [] = some (.bool true, []) := by
  obtain ⟨z, ez⟩ := e_cell h []
  have hs : ∃ zs : List Int, zs.length ≤ 63 ∧ slD (.list (ns.map PyData.int)) (some 1) (some 4) = some (.list (zs.map PyData.int)) := by
    refine ⟨(ns.drop (HT.sIx (ns.map PyData.int).length 0 (some 1))).take (HT.sIx (ns.map PyData.int).length (ns.map PyData.int).length (some 4) - HT.sIx (ns.map PyData.int).length 0 (some 1)), ?_, ?_⟩
    · rw [List.length_take, List.length_drop]; omega
    · show some (PyData.list (DL.cutD _ _ _)) = _
      unfold DL.cutD
      rw [List.map_take, List.map_drop]
  obtain ⟨zs, hz, es⟩ := hs
  generalize hS : PyData.list (ns.map PyData.int) = S at *
  have ea : gAdd (.list [.int z]) (.list (zs.map PyData.int)) = some (.list ((z :: zs).map PyData.int)) := by
    rw [addL (by rw [List.length_map]; simp; omega)]; rfl
  have h1 : fAsg (fC (.list w10)) (gNm 1) [.dat S, .un, .un, .un, .un, .un, .un, .un, .un, .un] [] = some (.nx [.dat S, .dat (.list w10), .un, .un, .un, .un, .un, .un, .un, .un] []) := rfl
  have a2 : gAdd (.list w10) (.list w2) = some (.list (w10 ++ w2)) := addL (by decide)
  have a3 : gAdd (.list (w10 ++ w2)) (.list w8) = some (.list ((w10 ++ w2) ++ w8)) := addL (by decide)
  have a4 : gAdd (.list ((w10 ++ w2) ++ w8)) (.list w22) = some (.list (((w10 ++ w2) ++ w8) ++ w22)) := addL (by decide)
  have a5 : gAdd (.list (((w10 ++ w2) ++ w8) ++ w22)) (.list w4) = some (.list wAll) := addL (by decide)
  have b2 : ∀ {A B C : List PyData} {ρ : Rho}, gAdd (.list A) (.list B) = some (.list C) → f2 (fVar 1) (fC (.list B)) gAdd [.dat S, .dat (.list A), .un, .un, .un, .un, .un, .un, .un, .un] [] = some (.list C, []) := fun {A B C ρ} h => by
    show fin (gAdd (.list A) (.list B)) [] = _
    rw [h]; rfl
  have hw : ∀ y ∈ wAll, Sm y := fun y hy => by
    have := List.all_eq_true.mp w_ok y hy
    simp only [Bool.and_eq_true, decide_eq_true_eq] at this
    exact ⟨this.1, this.2⟩
  obtain ⟨t2, l1⟩ := k1_loop (s0 := .dat S) (s1 := .dat (.list (((w10 ++ w2) ++ w8) ++ w22))) (s2 := .un) (s3 := .un) (s4 := .un) (s5 := .un) (s6 := .un) (s7 := .un) (s8 := .un) (s9 := .un) (μ := []) wAll hw
  have hq : fSq (f2 (fVar 1) (fC (.list w4)) gAdd) [.dat S, .dat (.list (((w10 ++ w2) ++ w8) ++ w22)), .un, .un, .un, .un, .un, .un, .un, .un] [] = some (wAll, []) := by
    unfold fSq
    rw [b2 (ρ := []) a5]; rfl
  obtain ⟨ρ', m', e⟩ := cl_loop (z :: zs) (base := []) [.dat S, .dat (.list (((w10 ++ w2) ++ w8) ++ w22)), t2, .un, .un, .un, .un, .un, .un, .un] rfl
  generalize hV : ((w10 ++ w2) ++ w8) ++ w22 = V at *
  have h4 : fSq (f2 (fN (fCons (fCall m__law_cell (pNm 0 (pDat (fC (.int (0))) pNil))) fNil) gLst) (fSl (fVar 0) (fSome (fC (.int (1)))) (fSome (fC (.int (4))))) gAdd) [.dat S, .dat (.list V), t2, .un, .un, .un, .un, .un, .un, .un] [] = some ((z :: zs).map PyData.int, []) := by
    simp only [defM, fSeq, fIfS, fAnd, fOr, fNot, fB, fAndV, fOrV, fNotV, fIf, fIsi, tyD, fIsA, bnd, opt, fin, fChain, f2, fN, fCons, fNil, fVar, fC, g1, gI, gIC, fRet, fExpr, fCall, pNil, pDat, pNm, fAsg, gNm, gNo, gCo, gTu, fEnd, fFor, fSq, seqD, fSg, fLcD, fLc, fYes, fM1, gSS, fM0, fSl, fNo, fSome, rd, fNmB, fNm2, fNmI, fNmT, fNmJ, fNmS, sc, isSc, fSetI, fApp, fOwn, fLstF, fCatF, fRetO, fPar, fParO, fTru, truB, List.cons_append, List.nil_append, List.getElem?_cons_zero, List.getElem?_cons_succ, List.set_cons_zero, List.set_cons_succ, List.replicate, List.length_cons, List.length_nil, Nat.reduceAdd, Nat.reduceSub, if_true, if_false, Bool.false_eq_true, ↓reduceIte, List.append_nil, gTup0, gTup1, gTup2, gTup3, gLst0, gLst1, gLst2, gLst3, gLst4, gLst5, gLst10, isa_tt, isa_ts, isa_ti, isa_tn, isa_tl, isa_ss, isa_st, isa_si, isa_sn, isa_ii, isa_ib, isa_bi, isa_bb, isa_is, isa_in, isa_it, ez, es, ea]
  have eB : B_law ([.dat S] ++ List.replicate (10 - 1) Sl.un) [] = some (.rt (.dat (.bool true)) m') := by
    rw [B_law_eq]
    show fSeq _ _ [.dat S, .un, .un, .un, .un, .un, .un, .un, .un, .un] [] = _
    rw [seq_nx h1, seq_nx (ρ1 := [.dat S, .dat (.list (w10 ++ w2)), .un, .un, .un, .un, .un, .un, .un, .un]) (asg_of (b2 (ρ := []) a2) rfl),
      seq_nx (ρ1 := [.dat S, .dat (.list ((w10 ++ w2) ++ w8)), .un, .un, .un, .un, .un, .un, .un, .un]) (asg_of (b2 (ρ := []) a3) rfl),
      seq_nx (ρ1 := [.dat S, .dat (.list V), .un, .un, .un, .un, .un, .un, .un, .un]) (asg_of (b2 (ρ := []) a4) rfl),
      seq_nx (for_of hq l1), seq_nx (for_of h4 e)]
    rfl
  have := defM_rd (n := 1) (nn := 10) (B := B_law) (ρ := [.dat S]) (μ := []) eB
  rw [List.length_nil, List.take_zero] at this
  exact this
end Law
set_option maxHeartbeats 0
namespace Law
open PySem PySem.Spec PyProof.Rows L2 DL
local instance : Tabs := ⟨[]⟩
section
variable {P : Program} {w : World} {K : PySem.W.Frag} {mg : Str → Option Value} {base : Heap}
theorem ok_law {f : Addr} {fd : FuncData} (F0 : Fun K "law" "law" s_law f fd) (T : Txt K mg) (F__law_cell : Fn P w K mg base "_law_cell" ["_law_script", "_law_k"] 1 (spD K m__law_cell 2)) (F__law_odd : Fn P w K mg base "_law_odd" ["_law_pen_here"] 2 (spD K m__law_odd 1)) (F__law_spoilt : Fn P w K mg base "_law_spoilt" ["_law_pen_here", "_law_routes_here"] 3 (spD K m__law_spoilt 2)) (F__law_are_routes : Fn P w K mg base "_law_are_routes" ["_law_thing"] 5 (spD K m__law_are_routes 1)) (F_are_routes : Fn P w K mg base "are_routes" ["thing"] 7 (spD K m_are_routes 1)) (F__law_bent : Fn P w K mg base "_law_bent" ["_law_pen_here", "_law_text"] 2 (spD K m__law_bent 2)) (F__law_is_pattern : Fn P w K mg base "_law_is_pattern" ["_law_thing"] 4 (spD K m__law_is_pattern 1)) (F__law_is_path : Fn P w K mg base "_law_is_path" ["_law_thing"] 3 (spD K m__law_is_path 1)) (F_is_pattern : Fn P w K mg base "is_pattern" ["thing"] 4 (spD K m_is_pattern 1)) (F_is_path : Fn P w K mg base "is_path" ["thing"] 3 (spD K m_is_path 1)) (F__law_path : Fn P w K mg base "_law_path" ["_law_pen_here", "_law_routes_here"] 3 (spD K m__law_path 2)) (F__law_routes : Fn P w K mg base "_law_routes" ["_law_pen_here"] 4 (spD K m__law_routes 1)) (F__law_pen : Fn P w K mg base "_law_pen" ["_law_cell_here"] 1 (spF K m__law_pen 1)) : FnOk P w K mg base CX0 8 f fd ["_law_script"] (spD K m_law 1) := by
  refine fn_dat F0 sc_law (fun cdv A outer s H E hr => ?_)
  refine dss_cons ?_ ?_
  · refine ds_set (x := "_law_some") (i := 1) ?_ ?_ ?_ ?_ ?_ ?_
    · exact sc_law.nd
    · rfl
    · first | exact Or.inl rfl | exact Or.inr rfl
    · refine de_litO ?_
      kernel_rfl
    · rfl
    · first | exact Or.inl rfl | exact Or.inr rfl
  · refine dss_cons ?_ ?_
    · refine ds_set (x := "_law_some") (i := 1) ?_ ?_ ?_ ?_ ?_ ?_
      · exact sc_law.nd
      · rfl
      · first | exact Or.inl rfl | exact Or.inr rfl
      · refine de_op o2_add op_addA ?_ ?_
        · exact (dv 1)
        · refine de_litO ?_
          kernel_rfl
      · rfl
      · first | exact Or.inl rfl | exact Or.inr rfl
    · refine dss_cons ?_ ?_
      · refine ds_set (x := "_law_some") (i := 1) ?_ ?_ ?_ ?_ ?_ ?_
        · exact sc_law.nd
        · rfl
        · first | exact Or.inl rfl | exact Or.inr rfl
        · refine de_op o2_add op_addA ?_ ?_
          · exact (dv 1)
          · refine de_litO ?_
            kernel_rfl
        · rfl
        · first | exact Or.inl rfl | exact Or.inr rfl
      · refine dss_cons ?_ ?_
        · refine ds_set (x := "_law_some") (i := 1) ?_ ?_ ?_ ?_ ?_ ?_
          · exact sc_law.nd
          · rfl
          · first | exact Or.inl rfl | exact Or.inr rfl
          · refine de_op o2_add op_addA ?_ ?_
            · exact (dv 1)
            · refine de_litO ?_
              kernel_rfl
          · rfl
          · first | exact Or.inl rfl | exact Or.inr rfl
        · refine dss_cons ?_ ?_
          · refine ds_for rfl (di_seq (de_op o2_add op_addA (dv 1) (de_litO (by kernel_rfl)))) (dg_name (i := 2) sc_law.nd rfl (by first | exact Or.inl rfl | exact Or.inr rfl)) ?_ PassesOwn.never
            refine dss_one ?_
            refine ds_if (dt_cmp o2_ne (op_neA hr.units) (de_callB oN_repr (call_reprD hr.units hr.gd) rfl T.n_repr (by decide +kernel) (da_cons (de_tup (da_cons (de_callF F_is_path (hr.mono (by decide)) rfl (dp_nm (i := 2) rfl (by first | exact Or.inl rfl | exact Or.inr (Or.inl rfl) | exact Or.inr (Or.inr rfl)) dp_nil) (lp_nm lp_nil)) (da_cons (de_callF F_is_pattern (hr.mono (by decide)) rfl (dp_nm (i := 2) rfl (by first | exact Or.inl rfl | exact Or.inr (Or.inl rfl) | exact Or.inr (Or.inr rfl)) dp_nil) (lp_nm lp_nil)) da_nil))) da_nil)) (de_callB oN_repr (call_reprD hr.units hr.gd) rfl T.n_repr (by decide +kernel) (da_cons (de_tup (da_cons (de_callF F__law_is_path (hr.mono (by decide)) rfl (dp_nm (i := 2) rfl (by first | exact Or.inl rfl | exact Or.inr (Or.inl rfl) | exact Or.inr (Or.inr rfl)) dp_nil) (lp_nm lp_nil)) (da_cons (de_callF F__law_is_pattern (hr.mono (by decide)) rfl (dp_nm (i := 2) rfl (by first | exact Or.inl rfl | exact Or.inr (Or.inl rfl) | exact Or.inr (Or.inr rfl)) dp_nil) (lp_nm lp_nil)) da_nil))) da_nil)) (nomark _)) ?_ ?_
            · refine dss_one ?_
              refine ds_ret ?_
              · exact de_bl
            · exact dss_nil
          · refine dss_cons ?_ ?_
            · refine ds_for rfl (di_seq (de_op o2_add op_addA (de_lst (da_cons (de_callF F__law_cell (hr.mono (by decide)) rfl (dp_nm (i := 0) rfl (by first | exact Or.inl rfl | exact Or.inr (Or.inl rfl) | exact Or.inr (Or.inr rfl)) (dp_dat de_int dp_nil)) (lp_nm (lp_dat lp_nil))) da_nil)) (de_slice (dv 0) (do_some de_int) (do_some de_int)))) (dg_name (i := 3) sc_law.nd rfl (by first | exact Or.inl rfl | exact Or.inr rfl)) ?_ PassesOwn.never
              refine dss_cons ?_ ?_
              · exact (ds_own (x := "_law_pen_here") (i := 4) sc_law.nd rfl (by first | exact Or.inl rfl | exact Or.inr rfl) (df_callF F__law_pen (hr.mono (by decide)) rfl (dp_nm (i := 3) rfl (by first | exact Or.inl rfl | exact Or.inr (Or.inl rfl) | exact Or.inr (Or.inr rfl)) dp_nil) (lp_nm lp_nil)))
              · refine dss_one ?_
                refine ds_for rfl (di_range1 rfl T.n_range de_int) (dg_name (i := 5) sc_law.nd rfl (by first | exact Or.inl rfl | exact Or.inr rfl)) ?_ PassesOwn.never
                refine dss_cons ?_ ?_
                · refine ds_set (x := "_law_routes_here") (i := 6) ?_ ?_ ?_ ?_ ?_ ?_
                  · exact sc_law.nd
                  · rfl
                  · first | exact Or.inl rfl | exact Or.inr rfl
                  · exact (de_callF F__law_routes (hr.mono (by decide)) rfl (dp_nm (i := 4) rfl (by first | exact Or.inl rfl | exact Or.inr (Or.inl rfl) | exact Or.inr (Or.inr rfl)) dp_nil) (lp_nm lp_nil))
                  · rfl
                  · first | exact Or.inl rfl | exact Or.inr rfl
                · refine dss_cons ?_ ?_
                  · refine ds_set (x := "_law_path_here") (i := 7) ?_ ?_ ?_ ?_ ?_ ?_
                    · exact sc_law.nd
                    · rfl
                    · first | exact Or.inl rfl | exact Or.inr rfl
                    · exact (de_callF F__law_path (hr.mono (by decide)) rfl (dp_nm (i := 4) rfl (by first | exact Or.inl rfl | exact Or.inr (Or.inl rfl) | exact Or.inr (Or.inr rfl)) (dp_nm (i := 6) rfl (by first | exact Or.inl rfl | exact Or.inr (Or.inl rfl) | exact Or.inr (Or.inr rfl)) dp_nil)) (lp_nm (lp_nm lp_nil)))
                    · rfl
                    · first | exact Or.inl rfl | exact Or.inr rfl
                  · refine dss_cons ?_ ?_
                    · refine ds_for rfl (di_seq (de_lst (da_cons (dv 7) (da_cons (de_callF F__law_bent (hr.mono (by decide)) rfl (dp_nm (i := 4) rfl (by first | exact Or.inl rfl | exact Or.inr (Or.inl rfl) | exact Or.inr (Or.inr rfl)) (dp_nm (i := 7) rfl (by first | exact Or.inl rfl | exact Or.inr (Or.inl rfl) | exact Or.inr (Or.inr rfl)) dp_nil)) (lp_nm (lp_nm lp_nil))) (da_cons (de_callF F__law_bent (hr.mono (by decide)) rfl (dp_nm (i := 4) rfl (by first | exact Or.inl rfl | exact Or.inr (Or.inl rfl) | exact Or.inr (Or.inr rfl)) (dp_dat (de_ix (de_ix (dv 6) de_int (fun _ _ => rfl)) de_int (fun _ _ => rfl)) dp_nil)) (lp_nm (lp_dat lp_nil))) (da_cons (de_ix (de_ix (dv 6) (de_neg de_int) (fun _ _ => rfl)) de_int (fun _ _ => rfl)) (da_cons (de_callF F__law_odd (hr.mono (by decide)) rfl (dp_nm (i := 4) rfl (by first | exact Or.inl rfl | exact Or.inr (Or.inl rfl) | exact Or.inr (Or.inr rfl)) dp_nil) (lp_nm lp_nil)) da_nil))))))) (dg_name (i := 2) sc_law.nd rfl (by first | exact Or.inl rfl | exact Or.inr rfl)) ?_ PassesOwn.never
                      refine dss_one ?_
                      refine ds_if (dt_cmp o2_ne (op_neA hr.units) (de_callB oN_repr (call_reprD hr.units hr.gd) rfl T.n_repr (by decide +kernel) (da_cons (de_tup (da_cons (de_callF F_is_path (hr.mono (by decide)) rfl (dp_nm (i := 2) rfl (by first | exact Or.inl rfl | exact Or.inr (Or.inl rfl) | exact Or.inr (Or.inr rfl)) dp_nil) (lp_nm lp_nil)) (da_cons (de_callF F_is_pattern (hr.mono (by decide)) rfl (dp_nm (i := 2) rfl (by first | exact Or.inl rfl | exact Or.inr (Or.inl rfl) | exact Or.inr (Or.inr rfl)) dp_nil) (lp_nm lp_nil)) da_nil))) da_nil)) (de_callB oN_repr (call_reprD hr.units hr.gd) rfl T.n_repr (by decide +kernel) (da_cons (de_tup (da_cons (de_callF F__law_is_path (hr.mono (by decide)) rfl (dp_nm (i := 2) rfl (by first | exact Or.inl rfl | exact Or.inr (Or.inl rfl) | exact Or.inr (Or.inr rfl)) dp_nil) (lp_nm lp_nil)) (da_cons (de_callF F__law_is_pattern (hr.mono (by decide)) rfl (dp_nm (i := 2) rfl (by first | exact Or.inl rfl | exact Or.inr (Or.inl rfl) | exact Or.inr (Or.inr rfl)) dp_nil) (lp_nm lp_nil)) da_nil))) da_nil)) (nomark _)) ?_ ?_
                      · refine dss_one ?_
                        refine ds_ret ?_
                        · exact de_bl
                      · exact dss_nil
                    · refine dss_one ?_
                      refine ds_for rfl (di_seq (de_lst (da_cons (dv 6) (da_cons (de_callF F__law_spoilt (hr.mono (by decide)) rfl (dp_nm (i := 4) rfl (by first | exact Or.inl rfl | exact Or.inr (Or.inl rfl) | exact Or.inr (Or.inr rfl)) (dp_nm (i := 6) rfl (by first | exact Or.inl rfl | exact Or.inr (Or.inl rfl) | exact Or.inr (Or.inr rfl)) dp_nil)) (lp_nm (lp_nm lp_nil))) (da_cons (de_callF F__law_spoilt (hr.mono (by decide)) rfl (dp_nm (i := 4) rfl (by first | exact Or.inl rfl | exact Or.inr (Or.inl rfl) | exact Or.inr (Or.inr rfl)) (dp_nm (i := 6) rfl (by first | exact Or.inl rfl | exact Or.inr (Or.inl rfl) | exact Or.inr (Or.inr rfl)) dp_nil)) (lp_nm (lp_nm lp_nil))) (da_cons (de_callF F__law_odd (hr.mono (by decide)) rfl (dp_nm (i := 4) rfl (by first | exact Or.inl rfl | exact Or.inr (Or.inl rfl) | exact Or.inr (Or.inr rfl)) dp_nil) (lp_nm lp_nil)) da_nil)))))) (dg_name (i := 2) sc_law.nd rfl (by first | exact Or.inl rfl | exact Or.inr rfl)) ?_ PassesOwn.never
                      refine dss_cons ?_ ?_
                      · exact (ds_par (i := 8) (j := 9) rfl sc_law.nd rfl rfl (by decide) rfl rfl (da_cons (de_callB oN_repr (call_reprD hr.units hr.gd) rfl T.n_repr (by decide +kernel) (da_cons (dv 2) da_nil)) (da_cons (de_callF F_are_routes (hr.mono (by decide)) rfl (dp_nm (i := 2) rfl (by first | exact Or.inl rfl | exact Or.inr (Or.inl rfl) | exact Or.inr (Or.inr rfl)) dp_nil) (lp_nm lp_nil)) da_nil)) (by rfl))
                      · refine dss_one ?_
                        refine ds_if (DW.dt (dw_or (dt_cmp o2_ne (op_neA hr.units) (de_callB oN_repr (call_reprD hr.units hr.gd) rfl T.n_repr (by decide +kernel) (da_cons (dv 9) da_nil)) (de_callB oN_repr (call_reprD hr.units hr.gd) rfl T.n_repr (by decide +kernel) (da_cons (de_callF F__law_are_routes (hr.mono (by decide)) rfl (dp_nm (i := 2) rfl (by first | exact Or.inl rfl | exact Or.inr (Or.inl rfl) | exact Or.inr (Or.inr rfl)) dp_nil) (lp_nm lp_nil)) da_nil)) (nomark _)) (dw_or1 (dt_cmp o2_ne (op_neA hr.units) (de_callB oN_repr (call_reprD hr.units hr.gd) rfl T.n_repr (by decide +kernel) (da_cons (dv 2) da_nil)) (dv 8) (nomark _))))) ?_ ?_
                        · refine dss_one ?_
                          refine ds_ret ?_
                          · exact de_bl
                        · exact dss_nil
            · refine dss_one ?_
              refine ds_ret ?_
              · exact de_bl
end
end Law
namespace Law
open PySem PySem.Spec PyProof.Rows L2 DL
local instance : Tabs := ⟨[]⟩
structure Defs (K : PySem.W.Frag) (mg : Str → Option Value) : Prop where
  d_is_short_text : Df K mg "is_short_text" s_is_short_text
  d_is_name : Df K mg "is_name" s_is_name
  d_is_word : Df K mg "is_word" s_is_word
  d_are_unlike : Df K mg "are_unlike" s_are_unlike
  d_is_verb : Df K mg "is_verb" s_is_verb
  d_pieces_of : Df K mg "pieces_of" s_pieces_of
  d_read_part : Df K mg "read_part" s_read_part
  d_holes_in : Df K mg "holes_in" s_holes_in
  d_is_pattern : Df K mg "is_pattern" s_is_pattern
  d_is_route : Df K mg "is_route" s_is_route
  d_are_named_rows : Df K mg "are_named_rows" s_are_named_rows__is_route
  d_is_path : Df K mg "is_path" s_is_path
  d_are_routes : Df K mg "are_routes" s_are_routes
  d__law_cell : Df K mg "_law_cell" s__law_cell
  d__law_pen : Df K mg "_law_pen" s__law_pen
  d__law_draw : Df K mg "_law_draw" s__law_draw
  d__law_pick : Df K mg "_law_pick" s__law_pick
  d__law_pattern : Df K mg "_law_pattern" s__law_pattern
  d__law_routes : Df K mg "_law_routes" s__law_routes
  d__law_path : Df K mg "_law_path" s__law_path
  d__law_is_made : Df K mg "_law_is_made" s__law_is_made
  d__law_is_name : Df K mg "_law_is_name" s__law_is_name
  d__law_is_word : Df K mg "_law_is_word" s__law_is_word
  d__law_name_in : Df K mg "_law_name_in" s__law_name_in
  d__law_is_path : Df K mg "_law_is_path" s__law_is_path
  d__law_is_pattern : Df K mg "_law_is_pattern" s__law_is_pattern
  d__law_are_routes : Df K mg "_law_are_routes" s__law_are_routes
  d__law_odd : Df K mg "_law_odd" s__law_odd
  d__law_bent : Df K mg "_law_bent" s__law_bent
  d__law_spoilt : Df K mg "_law_spoilt" s__law_spoilt
theorem all_ok {P : Program} {w : World} {K : PySem.W.Frag} {mg : Str → Option Value} {base : Heap} {f : Addr} {fd : FuncData} (T : Txt K mg) (Z : Defs K mg) (F0 : Fun K "law" "law" s_law f fd) : FnOk P w K mg base CX0 8 f fd ["_law_script"] (spD K m_law 1) := by
  have F_is_short_text : Fn P w K mg base "is_short_text" ["thing", "signs"] 1 (spD K m_is_short_text 2) := fn_is_short_text T Z.d_is_short_text 
  have F_is_name : Fn P w K mg base "is_name" ["thing"] 2 (spD K m_is_name 1) := fn_is_name T Z.d_is_name F_is_short_text
  have F_is_word : Fn P w K mg base "is_word" ["thing"] 2 (spD K m_is_word 1) := fn_is_word T Z.d_is_word F_is_short_text
  have F_are_unlike : Fn P w K mg base "are_unlike" ["texts"] 1 (spD K m_are_unlike 1) := fn_are_unlike T Z.d_are_unlike 
  have F_is_verb : Fn P w K mg base "is_verb" ["thing"] 1 (spD K m_is_verb 1) := fn_is_verb T Z.d_is_verb 
  have F_pieces_of : Fn P w K mg base "pieces_of" ["thing"] 1 (spD K m_pieces_of 1) := fn_pieces_of T Z.d_pieces_of 
  have F_read_part : Fn P w K mg base "read_part" ["piece"] 3 (spD K m_read_part 1) := fn_read_part T Z.d_read_part F_is_name F_is_word
  have F_holes_in : Fn P w K mg base "holes_in" ["parts"] 1 (spD K m_holes_in 1) := fn_holes_in T Z.d_holes_in 
  have F_is_pattern : Fn P w K mg base "is_pattern" ["thing"] 4 (spD K m_is_pattern 1) := fn_is_pattern T Z.d_is_pattern F_holes_in F_are_unlike F_read_part F_pieces_of
  have F_is_route : Fn P w K mg base "is_route" ["thing"] 5 (spD K m_is_route 1) := fn_is_route T Z.d_is_route F_is_name F_is_verb F_is_pattern
  have F_are_named_rows__is_route : Fn P w K mg base "are_named_rows" ["thing", "least", "most", "is_row"] 6 (spD K m_are_named_rows__is_route 4) := fn_are_named_rows__is_route T Z.d_are_named_rows F_is_route F_are_unlike
  have F_is_path : Fn P w K mg base "is_path" ["thing"] 3 (spD K m_is_path 1) := fn_is_path T Z.d_is_path F_is_word F_pieces_of
  have F_are_routes : Fn P w K mg base "are_routes" ["thing"] 7 (spD K m_are_routes 1) := fn_are_routes T Z.d_are_routes F_are_named_rows__is_route
  have F__law_cell : Fn P w K mg base "_law_cell" ["_law_script", "_law_k"] 1 (spD K m__law_cell 2) := fn__law_cell T Z.d__law_cell 
  have F__law_pen : Fn P w K mg base "_law_pen" ["_law_cell_here"] 1 (spF K m__law_pen 1) := fn__law_pen T Z.d__law_pen 
  have F__law_draw : Fn P w K mg base "_law_draw" ["_law_pen_here", "_law_many"] 1 (spD K m__law_draw 2) := fn__law_draw T Z.d__law_draw 
  have F__law_pick : Fn P w K mg base "_law_pick" ["_law_pen_here", "_law_things"] 2 (spD K m__law_pick 2) := fn__law_pick T Z.d__law_pick F__law_draw
  have F__law_pattern : Fn P w K mg base "_law_pattern" ["_law_pen_here"] 3 (spD K m__law_pattern 1) := fn__law_pattern T Z.d__law_pattern F__law_draw F__law_pick
  have F__law_routes : Fn P w K mg base "_law_routes" ["_law_pen_here"] 4 (spD K m__law_routes 1) := fn__law_routes T Z.d__law_routes F__law_draw F__law_pick F__law_pattern
  have F__law_path : Fn P w K mg base "_law_path" ["_law_pen_here", "_law_routes_here"] 3 (spD K m__law_path 2) := fn__law_path T Z.d__law_path F__law_draw F__law_pick
  have F__law_is_made : Fn P w K mg base "_law_is_made" ["_law_thing", "_law_signs"] 1 (spD K m__law_is_made 2) := fn__law_is_made T Z.d__law_is_made 
  have F__law_is_name : Fn P w K mg base "_law_is_name" ["_law_thing"] 2 (spD K m__law_is_name 1) := fn__law_is_name T Z.d__law_is_name F__law_is_made
  have F__law_is_word : Fn P w K mg base "_law_is_word" ["_law_thing"] 2 (spD K m__law_is_word 1) := fn__law_is_word T Z.d__law_is_word F__law_is_made
  have F__law_name_in : Fn P w K mg base "_law_name_in" ["_law_part"] 3 (spD K m__law_name_in 1) := fn__law_name_in T Z.d__law_name_in F__law_is_name
  have F__law_is_path : Fn P w K mg base "_law_is_path" ["_law_thing"] 3 (spD K m__law_is_path 1) := fn__law_is_path T Z.d__law_is_path F__law_is_word
  have F__law_is_pattern : Fn P w K mg base "_law_is_pattern" ["_law_thing"] 4 (spD K m__law_is_pattern 1) := fn__law_is_pattern T Z.d__law_is_pattern F__law_is_word F__law_name_in
  have F__law_are_routes : Fn P w K mg base "_law_are_routes" ["_law_thing"] 5 (spD K m__law_are_routes 1) := fn__law_are_routes T Z.d__law_are_routes F__law_is_pattern F__law_is_name
  have F__law_odd : Fn P w K mg base "_law_odd" ["_law_pen_here"] 2 (spD K m__law_odd 1) := fn__law_odd T Z.d__law_odd F__law_draw
  have F__law_bent : Fn P w K mg base "_law_bent" ["_law_pen_here", "_law_text"] 2 (spD K m__law_bent 2) := fn__law_bent T Z.d__law_bent F__law_draw
  have F__law_spoilt : Fn P w K mg base "_law_spoilt" ["_law_pen_here", "_law_routes_here"] 3 (spD K m__law_spoilt 2) := fn__law_spoilt T Z.d__law_spoilt F__law_pick F__law_bent F__law_odd F__law_draw
  exact ok_law F0 T F__law_cell F__law_odd F__law_spoilt F__law_are_routes F_are_routes F__law_bent F__law_is_pattern F__law_is_path F_is_pattern F_is_path F__law_path F__law_routes F__law_pen
theorem all_mk {l : PySem.W.OpenLaw} {w : World} {K : PySem.W.Frag} {h : Heap} {mg : Str → Option Value} {fa : Addr} (X : K.In h) (G : h.Ns mainGlobals mg) (hfa : mg "law" = some (.ref fa))
    {t_LETTERS : Tok}
    {t_MOST_PARTS : Tok}
    {t_MOST_ROUTES : Tok}
    {t_MOST_SIGNS : Tok}
    {t_NUMBER_HOLE : Tok}
    {t_NUMBER_MARK : Tok}
    {a_VERBS : Addr} {sl_VERBS : Array (Option Value)} {n_VERBS : Nat} {u0_VERBS u1_VERBS : Tok}
    {t_WORD : Tok}
    {t_WORD_HOLE : Tok}
    {t_WORD_SIGNS : Tok}
    {f_is_short_text : Addr} {oc_is_short_text kV_is_short_text doc_is_short_text pm_is_short_text cdv_is_short_text ct_is_short_text : Value} {od_is_short_text an_is_short_text : Option Addr} {osl_is_short_text : Array (Option Value)}
    {f_is_name : Addr} {oc_is_name kV_is_name doc_is_name pm_is_name cdv_is_name ct_is_name : Value} {od_is_name an_is_name : Option Addr} {osl_is_name : Array (Option Value)}
    {f_is_word : Addr} {oc_is_word kV_is_word doc_is_word pm_is_word cdv_is_word ct_is_word : Value} {od_is_word an_is_word : Option Addr} {osl_is_word : Array (Option Value)}
    {f_are_unlike : Addr} {oc_are_unlike kV_are_unlike doc_are_unlike pm_are_unlike cdv_are_unlike ct_are_unlike : Value} {od_are_unlike an_are_unlike : Option Addr} {osl_are_unlike : Array (Option Value)}
    {f_is_verb : Addr} {oc_is_verb kV_is_verb doc_is_verb pm_is_verb cdv_is_verb ct_is_verb : Value} {od_is_verb an_is_verb : Option Addr} {osl_is_verb : Array (Option Value)}
    {f_pieces_of : Addr} {oc_pieces_of kV_pieces_of doc_pieces_of pm_pieces_of cdv_pieces_of ct_pieces_of : Value} {od_pieces_of an_pieces_of : Option Addr} {osl_pieces_of : Array (Option Value)}
    {f_read_part : Addr} {oc_read_part kV_read_part doc_read_part pm_read_part cdv_read_part ct_read_part : Value} {od_read_part an_read_part : Option Addr} {osl_read_part : Array (Option Value)}
    {f_holes_in : Addr} {oc_holes_in kV_holes_in doc_holes_in pm_holes_in cdv_holes_in ct_holes_in : Value} {od_holes_in an_holes_in : Option Addr} {osl_holes_in : Array (Option Value)}
    {f_is_pattern : Addr} {oc_is_pattern kV_is_pattern doc_is_pattern pm_is_pattern cdv_is_pattern ct_is_pattern : Value} {od_is_pattern an_is_pattern : Option Addr} {osl_is_pattern : Array (Option Value)}
    {f_is_route : Addr} {oc_is_route kV_is_route doc_is_route pm_is_route cdv_is_route ct_is_route : Value} {od_is_route an_is_route : Option Addr} {osl_is_route : Array (Option Value)}
    {f_are_named_rows : Addr} {oc_are_named_rows kV_are_named_rows doc_are_named_rows pm_are_named_rows cdv_are_named_rows ct_are_named_rows : Value} {od_are_named_rows an_are_named_rows : Option Addr} {osl_are_named_rows : Array (Option Value)}
    {f_is_path : Addr} {oc_is_path kV_is_path doc_is_path pm_is_path cdv_is_path ct_is_path : Value} {od_is_path an_is_path : Option Addr} {osl_is_path : Array (Option Value)}
    {f_are_routes : Addr} {oc_are_routes kV_are_routes doc_are_routes pm_are_routes cdv_are_routes ct_are_routes : Value} {od_are_routes an_are_routes : Option Addr} {osl_are_routes : Array (Option Value)}
    {f__law_cell : Addr} {oc__law_cell kV__law_cell doc__law_cell pm__law_cell cdv__law_cell ct__law_cell : Value} {od__law_cell an__law_cell : Option Addr} {osl__law_cell : Array (Option Value)}
    {f__law_pen : Addr} {oc__law_pen kV__law_pen doc__law_pen pm__law_pen cdv__law_pen ct__law_pen : Value} {od__law_pen an__law_pen : Option Addr} {osl__law_pen : Array (Option Value)}
    {f__law_draw : Addr} {oc__law_draw kV__law_draw doc__law_draw pm__law_draw cdv__law_draw ct__law_draw : Value} {od__law_draw an__law_draw : Option Addr} {osl__law_draw : Array (Option Value)}
    {f__law_pick : Addr} {oc__law_pick kV__law_pick doc__law_pick pm__law_pick cdv__law_pick ct__law_pick : Value} {od__law_pick an__law_pick : Option Addr} {osl__law_pick : Array (Option Value)}
    {f__law_pattern : Addr} {oc__law_pattern kV__law_pattern doc__law_pattern pm__law_pattern cdv__law_pattern ct__law_pattern : Value} {od__law_pattern an__law_pattern : Option Addr} {osl__law_pattern : Array (Option Value)}
    {f__law_routes : Addr} {oc__law_routes kV__law_routes doc__law_routes pm__law_routes cdv__law_routes ct__law_routes : Value} {od__law_routes an__law_routes : Option Addr} {osl__law_routes : Array (Option Value)}
    {f__law_path : Addr} {oc__law_path kV__law_path doc__law_path pm__law_path cdv__law_path ct__law_path : Value} {od__law_path an__law_path : Option Addr} {osl__law_path : Array (Option Value)}
    {f__law_is_made : Addr} {oc__law_is_made kV__law_is_made doc__law_is_made pm__law_is_made cdv__law_is_made ct__law_is_made : Value} {od__law_is_made an__law_is_made : Option Addr} {osl__law_is_made : Array (Option Value)}
    {f__law_is_name : Addr} {oc__law_is_name kV__law_is_name doc__law_is_name pm__law_is_name cdv__law_is_name ct__law_is_name : Value} {od__law_is_name an__law_is_name : Option Addr} {osl__law_is_name : Array (Option Value)}
    {f__law_is_word : Addr} {oc__law_is_word kV__law_is_word doc__law_is_word pm__law_is_word cdv__law_is_word ct__law_is_word : Value} {od__law_is_word an__law_is_word : Option Addr} {osl__law_is_word : Array (Option Value)}
    {f__law_name_in : Addr} {oc__law_name_in kV__law_name_in doc__law_name_in pm__law_name_in cdv__law_name_in ct__law_name_in : Value} {od__law_name_in an__law_name_in : Option Addr} {osl__law_name_in : Array (Option Value)}
    {f__law_is_path : Addr} {oc__law_is_path kV__law_is_path doc__law_is_path pm__law_is_path cdv__law_is_path ct__law_is_path : Value} {od__law_is_path an__law_is_path : Option Addr} {osl__law_is_path : Array (Option Value)}
    {f__law_is_pattern : Addr} {oc__law_is_pattern kV__law_is_pattern doc__law_is_pattern pm__law_is_pattern cdv__law_is_pattern ct__law_is_pattern : Value} {od__law_is_pattern an__law_is_pattern : Option Addr} {osl__law_is_pattern : Array (Option Value)}
    {f__law_are_routes : Addr} {oc__law_are_routes kV__law_are_routes doc__law_are_routes pm__law_are_routes cdv__law_are_routes ct__law_are_routes : Value} {od__law_are_routes an__law_are_routes : Option Addr} {osl__law_are_routes : Array (Option Value)}
    {f__law_odd : Addr} {oc__law_odd kV__law_odd doc__law_odd pm__law_odd cdv__law_odd ct__law_odd : Value} {od__law_odd an__law_odd : Option Addr} {osl__law_odd : Array (Option Value)}
    {f__law_bent : Addr} {oc__law_bent kV__law_bent doc__law_bent pm__law_bent cdv__law_bent ct__law_bent : Value} {od__law_bent an__law_bent : Option Addr} {osl__law_bent : Array (Option Value)}
    {f__law_spoilt : Addr} {oc__law_spoilt kV__law_spoilt doc__law_spoilt pm__law_spoilt cdv__law_spoilt ct__law_spoilt : Value} {od__law_spoilt an__law_spoilt : Option Addr} {osl__law_spoilt : Array (Option Value)}
    {f_law : Addr} {oc_law kV_law doc_law pm_law cdv_law ct_law : Value} {od_law an_law : Option Addr} {osl_law : Array (Option Value)}
    (z_all : PySem.W.nsIn K mainGlobals "all" = some none)
    (z_int : PySem.W.nsIn K mainGlobals "int" = some none)
    (z_isinstance : PySem.W.nsIn K mainGlobals "isinstance" = some none)
    (z_len : PySem.W.nsIn K mainGlobals "len" = some none)
    (z_list : PySem.W.nsIn K mainGlobals "list" = some none)
    (z_range : PySem.W.nsIn K mainGlobals "range" = some none)
    (z_repr : PySem.W.nsIn K mainGlobals "repr" = some none)
    (z_set : PySem.W.nsIn K mainGlobals "set" = some none)
    (z_str : PySem.W.nsIn K mainGlobals "str" = some none)
    (z_tuple : PySem.W.nsIn K mainGlobals "tuple" = some none)
    (z_LETTERS : PySem.W.nsIn K mainGlobals "LETTERS" = some (some (.str "abcdefghijklmnopqrstuvwxyz" t_LETTERS)))
    (z_MOST_PARTS : PySem.W.nsIn K mainGlobals "MOST_PARTS" = some (some (.int (5) t_MOST_PARTS)))
    (z_MOST_ROUTES : PySem.W.nsIn K mainGlobals "MOST_ROUTES" = some (some (.int (10) t_MOST_ROUTES)))
    (z_MOST_SIGNS : PySem.W.nsIn K mainGlobals "MOST_SIGNS" = some (some (.int (8) t_MOST_SIGNS)))
    (z_NUMBER_HOLE : PySem.W.nsIn K mainGlobals "NUMBER_HOLE" = some (some (.int (1) t_NUMBER_HOLE)))
    (z_NUMBER_MARK : PySem.W.nsIn K mainGlobals "NUMBER_MARK" = some (some (.str ":n" t_NUMBER_MARK)))
    (z_VERBS : PySem.W.nsIn K mainGlobals "VERBS" = some (some (.ref a_VERBS)))
    (y_VERBS : K.lookup a_VERBS = some ⟨.type "tuple", none, .seq #[.str "get" u0_VERBS, .str "post" u1_VERBS] n_VERBS, sl_VERBS⟩)
    (z_WORD : PySem.W.nsIn K mainGlobals "WORD" = some (some (.int (0) t_WORD)))
    (z_WORD_HOLE : PySem.W.nsIn K mainGlobals "WORD_HOLE" = some (some (.int (2) t_WORD_HOLE)))
    (z_WORD_SIGNS : PySem.W.nsIn K mainGlobals "WORD_SIGNS" = some (some (.str "abcdefghijklmnopqrstuvwxyz0123456789-" t_WORD_SIGNS)))
    (a_is_short_text : PySem.W.nsIn K mainGlobals "is_short_text" = some (some (.ref f_is_short_text)))
    (l_is_short_text : K.lookup f_is_short_text = some ⟨oc_is_short_text, od_is_short_text, .func (PySem.W.fnOf "is_short_text" "is_short_text" (defArgs s_is_short_text) (defBody s_is_short_text) (defScope s_is_short_text) .none kV_is_short_text doc_is_short_text pm_is_short_text an_is_short_text cdv_is_short_text ct_is_short_text), osl_is_short_text⟩)
    (c_is_short_text : PySem.W.codeIn K cdv_is_short_text "is_short_text" = true)
    (k_is_short_text : PySem.W.keepIn K (.ref f_is_short_text) = true)
    (a_is_name : PySem.W.nsIn K mainGlobals "is_name" = some (some (.ref f_is_name)))
    (l_is_name : K.lookup f_is_name = some ⟨oc_is_name, od_is_name, .func (PySem.W.fnOf "is_name" "is_name" (defArgs s_is_name) (defBody s_is_name) (defScope s_is_name) .none kV_is_name doc_is_name pm_is_name an_is_name cdv_is_name ct_is_name), osl_is_name⟩)
    (c_is_name : PySem.W.codeIn K cdv_is_name "is_name" = true)
    (k_is_name : PySem.W.keepIn K (.ref f_is_name) = true)
    (a_is_word : PySem.W.nsIn K mainGlobals "is_word" = some (some (.ref f_is_word)))
    (l_is_word : K.lookup f_is_word = some ⟨oc_is_word, od_is_word, .func (PySem.W.fnOf "is_word" "is_word" (defArgs s_is_word) (defBody s_is_word) (defScope s_is_word) .none kV_is_word doc_is_word pm_is_word an_is_word cdv_is_word ct_is_word), osl_is_word⟩)
    (c_is_word : PySem.W.codeIn K cdv_is_word "is_word" = true)
    (k_is_word : PySem.W.keepIn K (.ref f_is_word) = true)
    (a_are_unlike : PySem.W.nsIn K mainGlobals "are_unlike" = some (some (.ref f_are_unlike)))
    (l_are_unlike : K.lookup f_are_unlike = some ⟨oc_are_unlike, od_are_unlike, .func (PySem.W.fnOf "are_unlike" "are_unlike" (defArgs s_are_unlike) (defBody s_are_unlike) (defScope s_are_unlike) .none kV_are_unlike doc_are_unlike pm_are_unlike an_are_unlike cdv_are_unlike ct_are_unlike), osl_are_unlike⟩)
    (c_are_unlike : PySem.W.codeIn K cdv_are_unlike "are_unlike" = true)
    (k_are_unlike : PySem.W.keepIn K (.ref f_are_unlike) = true)
    (a_is_verb : PySem.W.nsIn K mainGlobals "is_verb" = some (some (.ref f_is_verb)))
    (l_is_verb : K.lookup f_is_verb = some ⟨oc_is_verb, od_is_verb, .func (PySem.W.fnOf "is_verb" "is_verb" (defArgs s_is_verb) (defBody s_is_verb) (defScope s_is_verb) .none kV_is_verb doc_is_verb pm_is_verb an_is_verb cdv_is_verb ct_is_verb), osl_is_verb⟩)
    (c_is_verb : PySem.W.codeIn K cdv_is_verb "is_verb" = true)
    (k_is_verb : PySem.W.keepIn K (.ref f_is_verb) = true)
    (a_pieces_of : PySem.W.nsIn K mainGlobals "pieces_of" = some (some (.ref f_pieces_of)))
    (l_pieces_of : K.lookup f_pieces_of = some ⟨oc_pieces_of, od_pieces_of, .func (PySem.W.fnOf "pieces_of" "pieces_of" (defArgs s_pieces_of) (defBody s_pieces_of) (defScope s_pieces_of) .none kV_pieces_of doc_pieces_of pm_pieces_of an_pieces_of cdv_pieces_of ct_pieces_of), osl_pieces_of⟩)
    (c_pieces_of : PySem.W.codeIn K cdv_pieces_of "pieces_of" = true)
    (k_pieces_of : PySem.W.keepIn K (.ref f_pieces_of) = true)
    (a_read_part : PySem.W.nsIn K mainGlobals "read_part" = some (some (.ref f_read_part)))
    (l_read_part : K.lookup f_read_part = some ⟨oc_read_part, od_read_part, .func (PySem.W.fnOf "read_part" "read_part" (defArgs s_read_part) (defBody s_read_part) (defScope s_read_part) .none kV_read_part doc_read_part pm_read_part an_read_part cdv_read_part ct_read_part), osl_read_part⟩)
    (c_read_part : PySem.W.codeIn K cdv_read_part "read_part" = true)
    (k_read_part : PySem.W.keepIn K (.ref f_read_part) = true)
    (a_holes_in : PySem.W.nsIn K mainGlobals "holes_in" = some (some (.ref f_holes_in)))
    (l_holes_in : K.lookup f_holes_in = some ⟨oc_holes_in, od_holes_in, .func (PySem.W.fnOf "holes_in" "holes_in" (defArgs s_holes_in) (defBody s_holes_in) (defScope s_holes_in) .none kV_holes_in doc_holes_in pm_holes_in an_holes_in cdv_holes_in ct_holes_in), osl_holes_in⟩)
    (c_holes_in : PySem.W.codeIn K cdv_holes_in "holes_in" = true)
    (k_holes_in : PySem.W.keepIn K (.ref f_holes_in) = true)
    (a_is_pattern : PySem.W.nsIn K mainGlobals "is_pattern" = some (some (.ref f_is_pattern)))
    (l_is_pattern : K.lookup f_is_pattern = some ⟨oc_is_pattern, od_is_pattern, .func (PySem.W.fnOf "is_pattern" "is_pattern" (defArgs s_is_pattern) (defBody s_is_pattern) (defScope s_is_pattern) .none kV_is_pattern doc_is_pattern pm_is_pattern an_is_pattern cdv_is_pattern ct_is_pattern), osl_is_pattern⟩)
    (c_is_pattern : PySem.W.codeIn K cdv_is_pattern "is_pattern" = true)
    (k_is_pattern : PySem.W.keepIn K (.ref f_is_pattern) = true)
    (a_is_route : PySem.W.nsIn K mainGlobals "is_route" = some (some (.ref f_is_route)))
    (l_is_route : K.lookup f_is_route = some ⟨oc_is_route, od_is_route, .func (PySem.W.fnOf "is_route" "is_route" (defArgs s_is_route) (defBody s_is_route) (defScope s_is_route) .none kV_is_route doc_is_route pm_is_route an_is_route cdv_is_route ct_is_route), osl_is_route⟩)
    (c_is_route : PySem.W.codeIn K cdv_is_route "is_route" = true)
    (k_is_route : PySem.W.keepIn K (.ref f_is_route) = true)
    (a_are_named_rows : PySem.W.nsIn K mainGlobals "are_named_rows" = some (some (.ref f_are_named_rows)))
    (l_are_named_rows : K.lookup f_are_named_rows = some ⟨oc_are_named_rows, od_are_named_rows, .func (PySem.W.fnOf "are_named_rows" "are_named_rows" (defArgs s_are_named_rows__is_route) (defBody s_are_named_rows__is_route) (defScope s_are_named_rows__is_route) .none kV_are_named_rows doc_are_named_rows pm_are_named_rows an_are_named_rows cdv_are_named_rows ct_are_named_rows), osl_are_named_rows⟩)
    (c_are_named_rows : PySem.W.codeIn K cdv_are_named_rows "are_named_rows" = true)
    (k_are_named_rows : PySem.W.keepIn K (.ref f_are_named_rows) = true)
    (a_is_path : PySem.W.nsIn K mainGlobals "is_path" = some (some (.ref f_is_path)))
    (l_is_path : K.lookup f_is_path = some ⟨oc_is_path, od_is_path, .func (PySem.W.fnOf "is_path" "is_path" (defArgs s_is_path) (defBody s_is_path) (defScope s_is_path) .none kV_is_path doc_is_path pm_is_path an_is_path cdv_is_path ct_is_path), osl_is_path⟩)
    (c_is_path : PySem.W.codeIn K cdv_is_path "is_path" = true)
    (k_is_path : PySem.W.keepIn K (.ref f_is_path) = true)
    (a_are_routes : PySem.W.nsIn K mainGlobals "are_routes" = some (some (.ref f_are_routes)))
    (l_are_routes : K.lookup f_are_routes = some ⟨oc_are_routes, od_are_routes, .func (PySem.W.fnOf "are_routes" "are_routes" (defArgs s_are_routes) (defBody s_are_routes) (defScope s_are_routes) .none kV_are_routes doc_are_routes pm_are_routes an_are_routes cdv_are_routes ct_are_routes), osl_are_routes⟩)
    (c_are_routes : PySem.W.codeIn K cdv_are_routes "are_routes" = true)
    (k_are_routes : PySem.W.keepIn K (.ref f_are_routes) = true)
    (a__law_cell : PySem.W.nsIn K mainGlobals "_law_cell" = some (some (.ref f__law_cell)))
    (l__law_cell : K.lookup f__law_cell = some ⟨oc__law_cell, od__law_cell, .func (PySem.W.fnOf "_law_cell" "_law_cell" (defArgs s__law_cell) (defBody s__law_cell) (defScope s__law_cell) .none kV__law_cell doc__law_cell pm__law_cell an__law_cell cdv__law_cell ct__law_cell), osl__law_cell⟩)
    (c__law_cell : PySem.W.codeIn K cdv__law_cell "_law_cell" = true)
    (k__law_cell : PySem.W.keepIn K (.ref f__law_cell) = true)
    (a__law_pen : PySem.W.nsIn K mainGlobals "_law_pen" = some (some (.ref f__law_pen)))
    (l__law_pen : K.lookup f__law_pen = some ⟨oc__law_pen, od__law_pen, .func (PySem.W.fnOf "_law_pen" "_law_pen" (defArgs s__law_pen) (defBody s__law_pen) (defScope s__law_pen) .none kV__law_pen doc__law_pen pm__law_pen an__law_pen cdv__law_pen ct__law_pen), osl__law_pen⟩)
    (c__law_pen : PySem.W.codeIn K cdv__law_pen "_law_pen" = true)
    (k__law_pen : PySem.W.keepIn K (.ref f__law_pen) = true)
    (a__law_draw : PySem.W.nsIn K mainGlobals "_law_draw" = some (some (.ref f__law_draw)))
    (l__law_draw : K.lookup f__law_draw = some ⟨oc__law_draw, od__law_draw, .func (PySem.W.fnOf "_law_draw" "_law_draw" (defArgs s__law_draw) (defBody s__law_draw) (defScope s__law_draw) .none kV__law_draw doc__law_draw pm__law_draw an__law_draw cdv__law_draw ct__law_draw), osl__law_draw⟩)
    (c__law_draw : PySem.W.codeIn K cdv__law_draw "_law_draw" = true)
    (k__law_draw : PySem.W.keepIn K (.ref f__law_draw) = true)
    (a__law_pick : PySem.W.nsIn K mainGlobals "_law_pick" = some (some (.ref f__law_pick)))
    (l__law_pick : K.lookup f__law_pick = some ⟨oc__law_pick, od__law_pick, .func (PySem.W.fnOf "_law_pick" "_law_pick" (defArgs s__law_pick) (defBody s__law_pick) (defScope s__law_pick) .none kV__law_pick doc__law_pick pm__law_pick an__law_pick cdv__law_pick ct__law_pick), osl__law_pick⟩)
    (c__law_pick : PySem.W.codeIn K cdv__law_pick "_law_pick" = true)
    (k__law_pick : PySem.W.keepIn K (.ref f__law_pick) = true)
    (a__law_pattern : PySem.W.nsIn K mainGlobals "_law_pattern" = some (some (.ref f__law_pattern)))
    (l__law_pattern : K.lookup f__law_pattern = some ⟨oc__law_pattern, od__law_pattern, .func (PySem.W.fnOf "_law_pattern" "_law_pattern" (defArgs s__law_pattern) (defBody s__law_pattern) (defScope s__law_pattern) .none kV__law_pattern doc__law_pattern pm__law_pattern an__law_pattern cdv__law_pattern ct__law_pattern), osl__law_pattern⟩)
    (c__law_pattern : PySem.W.codeIn K cdv__law_pattern "_law_pattern" = true)
    (k__law_pattern : PySem.W.keepIn K (.ref f__law_pattern) = true)
    (a__law_routes : PySem.W.nsIn K mainGlobals "_law_routes" = some (some (.ref f__law_routes)))
    (l__law_routes : K.lookup f__law_routes = some ⟨oc__law_routes, od__law_routes, .func (PySem.W.fnOf "_law_routes" "_law_routes" (defArgs s__law_routes) (defBody s__law_routes) (defScope s__law_routes) .none kV__law_routes doc__law_routes pm__law_routes an__law_routes cdv__law_routes ct__law_routes), osl__law_routes⟩)
    (c__law_routes : PySem.W.codeIn K cdv__law_routes "_law_routes" = true)
    (k__law_routes : PySem.W.keepIn K (.ref f__law_routes) = true)
    (a__law_path : PySem.W.nsIn K mainGlobals "_law_path" = some (some (.ref f__law_path)))
    (l__law_path : K.lookup f__law_path = some ⟨oc__law_path, od__law_path, .func (PySem.W.fnOf "_law_path" "_law_path" (defArgs s__law_path) (defBody s__law_path) (defScope s__law_path) .none kV__law_path doc__law_path pm__law_path an__law_path cdv__law_path ct__law_path), osl__law_path⟩)
    (c__law_path : PySem.W.codeIn K cdv__law_path "_law_path" = true)
    (k__law_path : PySem.W.keepIn K (.ref f__law_path) = true)
    (a__law_is_made : PySem.W.nsIn K mainGlobals "_law_is_made" = some (some (.ref f__law_is_made)))
    (l__law_is_made : K.lookup f__law_is_made = some ⟨oc__law_is_made, od__law_is_made, .func (PySem.W.fnOf "_law_is_made" "_law_is_made" (defArgs s__law_is_made) (defBody s__law_is_made) (defScope s__law_is_made) .none kV__law_is_made doc__law_is_made pm__law_is_made an__law_is_made cdv__law_is_made ct__law_is_made), osl__law_is_made⟩)
    (c__law_is_made : PySem.W.codeIn K cdv__law_is_made "_law_is_made" = true)
    (k__law_is_made : PySem.W.keepIn K (.ref f__law_is_made) = true)
    (a__law_is_name : PySem.W.nsIn K mainGlobals "_law_is_name" = some (some (.ref f__law_is_name)))
    (l__law_is_name : K.lookup f__law_is_name = some ⟨oc__law_is_name, od__law_is_name, .func (PySem.W.fnOf "_law_is_name" "_law_is_name" (defArgs s__law_is_name) (defBody s__law_is_name) (defScope s__law_is_name) .none kV__law_is_name doc__law_is_name pm__law_is_name an__law_is_name cdv__law_is_name ct__law_is_name), osl__law_is_name⟩)
    (c__law_is_name : PySem.W.codeIn K cdv__law_is_name "_law_is_name" = true)
    (k__law_is_name : PySem.W.keepIn K (.ref f__law_is_name) = true)
    (a__law_is_word : PySem.W.nsIn K mainGlobals "_law_is_word" = some (some (.ref f__law_is_word)))
    (l__law_is_word : K.lookup f__law_is_word = some ⟨oc__law_is_word, od__law_is_word, .func (PySem.W.fnOf "_law_is_word" "_law_is_word" (defArgs s__law_is_word) (defBody s__law_is_word) (defScope s__law_is_word) .none kV__law_is_word doc__law_is_word pm__law_is_word an__law_is_word cdv__law_is_word ct__law_is_word), osl__law_is_word⟩)
    (c__law_is_word : PySem.W.codeIn K cdv__law_is_word "_law_is_word" = true)
    (k__law_is_word : PySem.W.keepIn K (.ref f__law_is_word) = true)
    (a__law_name_in : PySem.W.nsIn K mainGlobals "_law_name_in" = some (some (.ref f__law_name_in)))
    (l__law_name_in : K.lookup f__law_name_in = some ⟨oc__law_name_in, od__law_name_in, .func (PySem.W.fnOf "_law_name_in" "_law_name_in" (defArgs s__law_name_in) (defBody s__law_name_in) (defScope s__law_name_in) .none kV__law_name_in doc__law_name_in pm__law_name_in an__law_name_in cdv__law_name_in ct__law_name_in), osl__law_name_in⟩)
    (c__law_name_in : PySem.W.codeIn K cdv__law_name_in "_law_name_in" = true)
    (k__law_name_in : PySem.W.keepIn K (.ref f__law_name_in) = true)
    (a__law_is_path : PySem.W.nsIn K mainGlobals "_law_is_path" = some (some (.ref f__law_is_path)))
    (l__law_is_path : K.lookup f__law_is_path = some ⟨oc__law_is_path, od__law_is_path, .func (PySem.W.fnOf "_law_is_path" "_law_is_path" (defArgs s__law_is_path) (defBody s__law_is_path) (defScope s__law_is_path) .none kV__law_is_path doc__law_is_path pm__law_is_path an__law_is_path cdv__law_is_path ct__law_is_path), osl__law_is_path⟩)
    (c__law_is_path : PySem.W.codeIn K cdv__law_is_path "_law_is_path" = true)
    (k__law_is_path : PySem.W.keepIn K (.ref f__law_is_path) = true)
    (a__law_is_pattern : PySem.W.nsIn K mainGlobals "_law_is_pattern" = some (some (.ref f__law_is_pattern)))
    (l__law_is_pattern : K.lookup f__law_is_pattern = some ⟨oc__law_is_pattern, od__law_is_pattern, .func (PySem.W.fnOf "_law_is_pattern" "_law_is_pattern" (defArgs s__law_is_pattern) (defBody s__law_is_pattern) (defScope s__law_is_pattern) .none kV__law_is_pattern doc__law_is_pattern pm__law_is_pattern an__law_is_pattern cdv__law_is_pattern ct__law_is_pattern), osl__law_is_pattern⟩)
    (c__law_is_pattern : PySem.W.codeIn K cdv__law_is_pattern "_law_is_pattern" = true)
    (k__law_is_pattern : PySem.W.keepIn K (.ref f__law_is_pattern) = true)
    (a__law_are_routes : PySem.W.nsIn K mainGlobals "_law_are_routes" = some (some (.ref f__law_are_routes)))
    (l__law_are_routes : K.lookup f__law_are_routes = some ⟨oc__law_are_routes, od__law_are_routes, .func (PySem.W.fnOf "_law_are_routes" "_law_are_routes" (defArgs s__law_are_routes) (defBody s__law_are_routes) (defScope s__law_are_routes) .none kV__law_are_routes doc__law_are_routes pm__law_are_routes an__law_are_routes cdv__law_are_routes ct__law_are_routes), osl__law_are_routes⟩)
    (c__law_are_routes : PySem.W.codeIn K cdv__law_are_routes "_law_are_routes" = true)
    (k__law_are_routes : PySem.W.keepIn K (.ref f__law_are_routes) = true)
    (a__law_odd : PySem.W.nsIn K mainGlobals "_law_odd" = some (some (.ref f__law_odd)))
    (l__law_odd : K.lookup f__law_odd = some ⟨oc__law_odd, od__law_odd, .func (PySem.W.fnOf "_law_odd" "_law_odd" (defArgs s__law_odd) (defBody s__law_odd) (defScope s__law_odd) .none kV__law_odd doc__law_odd pm__law_odd an__law_odd cdv__law_odd ct__law_odd), osl__law_odd⟩)
    (c__law_odd : PySem.W.codeIn K cdv__law_odd "_law_odd" = true)
    (k__law_odd : PySem.W.keepIn K (.ref f__law_odd) = true)
    (a__law_bent : PySem.W.nsIn K mainGlobals "_law_bent" = some (some (.ref f__law_bent)))
    (l__law_bent : K.lookup f__law_bent = some ⟨oc__law_bent, od__law_bent, .func (PySem.W.fnOf "_law_bent" "_law_bent" (defArgs s__law_bent) (defBody s__law_bent) (defScope s__law_bent) .none kV__law_bent doc__law_bent pm__law_bent an__law_bent cdv__law_bent ct__law_bent), osl__law_bent⟩)
    (c__law_bent : PySem.W.codeIn K cdv__law_bent "_law_bent" = true)
    (k__law_bent : PySem.W.keepIn K (.ref f__law_bent) = true)
    (a__law_spoilt : PySem.W.nsIn K mainGlobals "_law_spoilt" = some (some (.ref f__law_spoilt)))
    (l__law_spoilt : K.lookup f__law_spoilt = some ⟨oc__law_spoilt, od__law_spoilt, .func (PySem.W.fnOf "_law_spoilt" "_law_spoilt" (defArgs s__law_spoilt) (defBody s__law_spoilt) (defScope s__law_spoilt) .none kV__law_spoilt doc__law_spoilt pm__law_spoilt an__law_spoilt cdv__law_spoilt ct__law_spoilt), osl__law_spoilt⟩)
    (c__law_spoilt : PySem.W.codeIn K cdv__law_spoilt "_law_spoilt" = true)
    (k__law_spoilt : PySem.W.keepIn K (.ref f__law_spoilt) = true)
    (a_law : PySem.W.nsIn K mainGlobals "law" = some (some (.ref f_law)))
    (l_law : K.lookup f_law = some ⟨oc_law, od_law, .func (PySem.W.fnOf "law" "law" (defArgs s_law) (defBody s_law) (defScope s_law) .none kV_law doc_law pm_law an_law cdv_law ct_law), osl_law⟩)
    (c_law : PySem.W.codeIn K cdv_law "law" = true)
    (k_law : PySem.W.keepIn K (.ref f_law) = true) :
    ∃ fd : FuncData, (∀ (s : Shared) (v : Value), BindsTo s fd ⟨[v], []⟩ [("_law_script", v)]) ∧ ∀ base : Heap, K.In base → base.Ns mainGlobals mg → FnOk l.prog w K mg base CX0 8 fa fd ["_law_script"] (spD K m_law 1) := by
  have e := hfa.symm.trans (PySem.W.mg_of X G a_law)
  cases e
  have T : Txt K mg := ⟨PySem.W.mg_none_of X G z_all, PySem.W.mg_none_of X G z_int, PySem.W.mg_none_of X G z_isinstance, PySem.W.mg_none_of X G z_len, PySem.W.mg_none_of X G z_list, PySem.W.mg_none_of X G z_range, PySem.W.mg_none_of X G z_repr, PySem.W.mg_none_of X G z_set, PySem.W.mg_none_of X G z_str, PySem.W.mg_none_of X G z_tuple, ⟨t_LETTERS, PySem.W.mg_of X G z_LETTERS⟩, ⟨t_MOST_PARTS, PySem.W.mg_of X G z_MOST_PARTS⟩, ⟨t_MOST_ROUTES, PySem.W.mg_of X G z_MOST_ROUTES⟩, ⟨t_MOST_SIGNS, PySem.W.mg_of X G z_MOST_SIGNS⟩, ⟨t_NUMBER_HOLE, PySem.W.mg_of X G z_NUMBER_HOLE⟩, ⟨t_NUMBER_MARK, PySem.W.mg_of X G z_NUMBER_MARK⟩, ⟨.ref a_VERBS, .ref a_VERBS, PySem.W.mg_of X G z_VERBS, rfl, fun H => .tup (xs := [.str "get", .str "post"]) (.inr ⟨_, _, n_VERBS, y_VERBS, rfl, rfl, rfl, (by show 2 ≤ sizeLine; decide), (.cons ⟨_, rfl⟩ (.cons ⟨_, rfl⟩ .nil))⟩) (.cons (.str _) (.cons (.str _) .nil))⟩, ⟨t_WORD, PySem.W.mg_of X G z_WORD⟩, ⟨t_WORD_HOLE, PySem.W.mg_of X G z_WORD_HOLE⟩, ⟨t_WORD_SIGNS, PySem.W.mg_of X G z_WORD_SIGNS⟩, ⟨f_is_route, PySem.W.mg_of X G a_is_route, a_is_route⟩⟩
  have Z : Defs K mg := ⟨df_mk X G a_is_short_text l_is_short_text c_is_short_text k_is_short_text, df_mk X G a_is_name l_is_name c_is_name k_is_name, df_mk X G a_is_word l_is_word c_is_word k_is_word, df_mk X G a_are_unlike l_are_unlike c_are_unlike k_are_unlike, df_mk X G a_is_verb l_is_verb c_is_verb k_is_verb, df_mk X G a_pieces_of l_pieces_of c_pieces_of k_pieces_of, df_mk X G a_read_part l_read_part c_read_part k_read_part, df_mk X G a_holes_in l_holes_in c_holes_in k_holes_in, df_mk X G a_is_pattern l_is_pattern c_is_pattern k_is_pattern, df_mk X G a_is_route l_is_route c_is_route k_is_route, df_mk X G a_are_named_rows l_are_named_rows c_are_named_rows k_are_named_rows, df_mk X G a_is_path l_is_path c_is_path k_is_path, df_mk X G a_are_routes l_are_routes c_are_routes k_are_routes, df_mk X G a__law_cell l__law_cell c__law_cell k__law_cell, df_mk X G a__law_pen l__law_pen c__law_pen k__law_pen, df_mk X G a__law_draw l__law_draw c__law_draw k__law_draw, df_mk X G a__law_pick l__law_pick c__law_pick k__law_pick, df_mk X G a__law_pattern l__law_pattern c__law_pattern k__law_pattern, df_mk X G a__law_routes l__law_routes c__law_routes k__law_routes, df_mk X G a__law_path l__law_path c__law_path k__law_path, df_mk X G a__law_is_made l__law_is_made c__law_is_made k__law_is_made, df_mk X G a__law_is_name l__law_is_name c__law_is_name k__law_is_name, df_mk X G a__law_is_word l__law_is_word c__law_is_word k__law_is_word, df_mk X G a__law_name_in l__law_name_in c__law_name_in k__law_name_in, df_mk X G a__law_is_path l__law_is_path c__law_is_path k__law_is_path, df_mk X G a__law_is_pattern l__law_is_pattern c__law_is_pattern k__law_is_pattern, df_mk X G a__law_are_routes l__law_are_routes c__law_are_routes k__law_are_routes, df_mk X G a__law_odd l__law_odd c__law_odd k__law_odd, df_mk X G a__law_bent l__law_bent c__law_bent k__law_bent, df_mk X G a__law_spoilt l__law_spoilt c__law_spoilt k__law_spoilt⟩
  have F0 := fun_mk (st := s_law) l_law c_law k_law
  exact ⟨PySem.W.fnOf "law" "law" (defArgs s_law) (defBody s_law) (defScope s_law) .none kV_law doc_law pm_law an_law cdv_law ct_law, fun s v => .of_eq rfl, fun base _ _ => all_ok T Z F0⟩
theorem walk {l : PySem.W.OpenLaw} {q : Program} {loose : List Str} {XP : (Str → Option Value) → Heap → Prop} {YP : World → Heap → Prop} {d : DefRec} {K : Params → PySem.W.Frag} (hn : l.most = some 63) (hdf : d.params.defaults = [])
    (hY : ∀ (w : World) (h : Heap), YP w h → (K w.params).In h)
    (F : ∀ (w : World) (mg : Str → Option Value) (fa : Addr) (h : Heap), (K w.params).In h → h.Ns mainGlobals mg → mg d.name = some (.ref fa) →
      ∃ fd : FuncData, (∀ (s : Shared) (u : Value), BindsTo s fd ⟨[u], []⟩ [("_law_script", u)]) ∧ ∀ base : Heap, (K w.params).In base → base.Ns mainGlobals mg → FnOk l.prog w (K w.params) mg base CX0 8 fa fd ["_law_script"] (spD (K w.params) m_law 1)) :
    PySem.W.WalkO q loose XP YP l.row.toRowW d [] (fun f vs => PySem.call f vs) :=
  L2.walk_of (n := 63) (k := 8) (x := "_law_script") (CX := fun _ => CX0) (sp := fun w => spD (K w.params) m_law 1) hn (by decide) hdf ⟨rfl, by decide, by decide, rfl⟩ hY F (fun _ H a ns hl _ hS => law_of (main ns hl) hS (fun p hp => absurd (show p ∈ ([] : List (Addr × Str)) from hp) (by simp)) (by show (List.map (fun x => x.1) ([] : List (Addr × Str))).Nodup; simp)) fun _ _ _ _ _ z => z
end Law
open PySem PySem.W PyProof.Rows
set_option maxRecDepth 100000 in
set_option maxHeartbeats 0 in
theorem PySem.Challenge.cw_doorhouse_k01_paths_patterns_and_routes_holds : PySem.Challenge.rw_doorhouse_k01_paths_patterns_and_routes.Holds := by
  w_on; o_law; k_head; (case hw => w_witness2)
  k_fill
  refine Law.walk (l := PySem.Challenge.rw_doorhouse_k01_paths_patterns_and_routes) rfl rfl (fun w h Y => PySem.W.kIn_of Y) ?F
  case F =>
    intro w mg fa h KX G hmg
    refine' Law.all_mk KX G hmg ?z_all ?z_int ?z_isinstance ?z_len ?z_list ?z_range ?z_repr ?z_set ?z_str ?z_tuple ?z_LETTERS ?z_MOST_PARTS ?z_MOST_ROUTES ?z_MOST_SIGNS ?z_NUMBER_HOLE ?z_NUMBER_MARK ?z_VERBS ?y_VERBS ?z_WORD ?z_WORD_HOLE ?z_WORD_SIGNS ?a_is_short_text ?l_is_short_text ?c_is_short_text ?k_is_short_text ?a_is_name ?l_is_name ?c_is_name ?k_is_name ?a_is_word ?l_is_word ?c_is_word ?k_is_word ?a_are_unlike ?l_are_unlike ?c_are_unlike ?k_are_unlike ?a_is_verb ?l_is_verb ?c_is_verb ?k_is_verb ?a_pieces_of ?l_pieces_of ?c_pieces_of ?k_pieces_of ?a_read_part ?l_read_part ?c_read_part ?k_read_part ?a_holes_in ?l_holes_in ?c_holes_in ?k_holes_in ?a_is_pattern ?l_is_pattern ?c_is_pattern ?k_is_pattern ?a_is_route ?l_is_route ?c_is_route ?k_is_route ?a_are_named_rows ?l_are_named_rows ?c_are_named_rows ?k_are_named_rows ?a_is_path ?l_is_path ?c_is_path ?k_is_path ?a_are_routes ?l_are_routes ?c_are_routes ?k_are_routes ?a__law_cell ?l__law_cell ?c__law_cell ?k__law_cell ?a__law_pen ?l__law_pen ?c__law_pen ?k__law_pen ?a__law_draw ?l__law_draw ?c__law_draw ?k__law_draw ?a__law_pick ?l__law_pick ?c__law_pick ?k__law_pick ?a__law_pattern ?l__law_pattern ?c__law_pattern ?k__law_pattern ?a__law_routes ?l__law_routes ?c__law_routes ?k__law_routes ?a__law_path ?l__law_path ?c__law_path ?k__law_path ?a__law_is_made ?l__law_is_made ?c__law_is_made ?k__law_is_made ?a__law_is_name ?l__law_is_name ?c__law_is_name ?k__law_is_name ?a__law_is_word ?l__law_is_word ?c__law_is_word ?k__law_is_word ?a__law_name_in ?l__law_name_in ?c__law_name_in ?k__law_name_in ?a__law_is_path ?l__law_is_path ?c__law_is_path ?k__law_is_path ?a__law_is_pattern ?l__law_is_pattern ?c__law_is_pattern ?k__law_is_pattern ?a__law_are_routes ?l__law_are_routes ?c__law_are_routes ?k__law_are_routes ?a__law_odd ?l__law_odd ?c__law_odd ?k__law_odd ?a__law_bent ?l__law_bent ?c__law_bent ?k__law_bent ?a__law_spoilt ?l__law_spoilt ?c__law_spoilt ?k__law_spoilt ?a_law ?l_law ?c_law ?k_law
    (case z_all => k_is)
    (case z_int => k_is)
    (case z_isinstance => k_is)
    (case z_len => k_is)
    (case z_list => k_is)
    (case z_range => k_is)
    (case z_repr => k_is)
    (case z_set => k_is)
    (case z_str => k_is)
    (case z_tuple => k_is)
    (case z_LETTERS => k_is)
    (case z_MOST_PARTS => k_is)
    (case z_MOST_ROUTES => k_is)
    (case z_MOST_SIGNS => k_is)
    (case z_NUMBER_HOLE => k_is)
    (case z_NUMBER_MARK => k_is)
    (case z_VERBS => k_is)
    (case y_VERBS => k_is)
    (case z_WORD => k_is)
    (case z_WORD_HOLE => k_is)
    (case z_WORD_SIGNS => k_is)
    (case a_is_short_text => k_is)
    (case l_is_short_text => k_is)
    (case c_is_short_text => k_is)
    (case k_is_short_text => k_is)
    (case a_is_name => k_is)
    (case l_is_name => k_is)
    (case c_is_name => k_is)
    (case k_is_name => k_is)
    (case a_is_word => k_is)
    (case l_is_word => k_is)
    (case c_is_word => k_is)
    (case k_is_word => k_is)
    (case a_are_unlike => k_is)
    (case l_are_unlike => k_is)
    (case c_are_unlike => k_is)
    (case k_are_unlike => k_is)
    (case a_is_verb => k_is)
    (case l_is_verb => k_is)
    (case c_is_verb => k_is)
    (case k_is_verb => k_is)
    (case a_pieces_of => k_is)
    (case l_pieces_of => k_is)
    (case c_pieces_of => k_is)
    (case k_pieces_of => k_is)
    (case a_read_part => k_is)
    (case l_read_part => k_is)
    (case c_read_part => k_is)
    (case k_read_part => k_is)
    (case a_holes_in => k_is)
    (case l_holes_in => k_is)
    (case c_holes_in => k_is)
    (case k_holes_in => k_is)
    (case a_is_pattern => k_is)
    (case l_is_pattern => k_is)
    (case c_is_pattern => k_is)
    (case k_is_pattern => k_is)
    (case a_is_route => k_is)
    (case l_is_route => k_is)
    (case c_is_route => k_is)
    (case k_is_route => k_is)
    (case a_are_named_rows => k_is)
    (case l_are_named_rows => k_is)
    (case c_are_named_rows => k_is)
    (case k_are_named_rows => k_is)
    (case a_is_path => k_is)
    (case l_is_path => k_is)
    (case c_is_path => k_is)
    (case k_is_path => k_is)
    (case a_are_routes => k_is)
    (case l_are_routes => k_is)
    (case c_are_routes => k_is)
    (case k_are_routes => k_is)
    (case a__law_cell => k_is)
    (case l__law_cell => k_is)
    (case c__law_cell => k_is)
    (case k__law_cell => k_is)
    (case a__law_pen => k_is)
    (case l__law_pen => k_is)
    (case c__law_pen => k_is)
    (case k__law_pen => k_is)
    (case a__law_draw => k_is)
    (case l__law_draw => k_is)
    (case c__law_draw => k_is)
    (case k__law_draw => k_is)
    (case a__law_pick => k_is)
    (case l__law_pick => k_is)
    (case c__law_pick => k_is)
    (case k__law_pick => k_is)
    (case a__law_pattern => k_is)
    (case l__law_pattern => k_is)
    (case c__law_pattern => k_is)
    (case k__law_pattern => k_is)
    (case a__law_routes => k_is)
    (case l__law_routes => k_is)
    (case c__law_routes => k_is)
    (case k__law_routes => k_is)
    (case a__law_path => k_is)
    (case l__law_path => k_is)
    (case c__law_path => k_is)
    (case k__law_path => k_is)
    (case a__law_is_made => k_is)
    (case l__law_is_made => k_is)
    (case c__law_is_made => k_is)
    (case k__law_is_made => k_is)
    (case a__law_is_name => k_is)
    (case l__law_is_name => k_is)
    (case c__law_is_name => k_is)
    (case k__law_is_name => k_is)
    (case a__law_is_word => k_is)
    (case l__law_is_word => k_is)
    (case c__law_is_word => k_is)
    (case k__law_is_word => k_is)
    (case a__law_name_in => k_is)
    (case l__law_name_in => k_is)
    (case c__law_name_in => k_is)
    (case k__law_name_in => k_is)
    (case a__law_is_path => k_is)
    (case l__law_is_path => k_is)
    (case c__law_is_path => k_is)
    (case k__law_is_path => k_is)
    (case a__law_is_pattern => k_is)
    (case l__law_is_pattern => k_is)
    (case c__law_is_pattern => k_is)
    (case k__law_is_pattern => k_is)
    (case a__law_are_routes => k_is)
    (case l__law_are_routes => k_is)
    (case c__law_are_routes => k_is)
    (case k__law_are_routes => k_is)
    (case a__law_odd => k_is)
    (case l__law_odd => k_is)
    (case c__law_odd => k_is)
    (case k__law_odd => k_is)
    (case a__law_bent => k_is)
    (case l__law_bent => k_is)
    (case c__law_bent => k_is)
    (case k__law_bent => k_is)
    (case a__law_spoilt => k_is)
    (case l__law_spoilt => k_is)
    (case c__law_spoilt => k_is)
    (case k__law_spoilt => k_is)
    (case a_law => k_is)
    (case l_law => k_is)
    (case c_law => k_is)
    (case k_law => k_is)
