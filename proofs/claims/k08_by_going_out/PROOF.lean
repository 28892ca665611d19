import PyProof.Rows.All
import Wide.All
import OpenK.AllK
import Wide.FinOn
import HandS.ForMost
import HandS.ForExc
import HandS.TupLe
import HandS.TupAny
import HandS.TupMul
import HandS.Deep
import HandS.Wide
import HandS.Flow
import HandS.Small
import HandS.Style
import HandS.More
import PyProof.TypeEq
import PyProof.FactsAll.object_2
import KE.KNest
import HandS.AnyAll
import HandS.ExcInit
import HandS.FStr
import HandS.ClsMeth
import PyProof.FString2
import HandS.IsInst
import KE.KExcIs
import HandS.ExcField
import HandS.Comp
import HandS.Iter
import KE.GoesMore
import HandS.TupSets
import HandS.SortInts
import HandS.WideBits
import HandS.EndTab
import HandS.RevRange
import HandS.Rev
import PyProof.LongRange
import KE.KDictDisplayH
import HandS.Dict
import HandS.DictTup
import HandS.TupLen
import HandS.Conv
import HandS.Walk
import PySem.Challenge.RW_pegdiscs_k08_by_going_out
import HandS.ExcIs
set_option Elab.async false
set_option linter.all false
set_option maxRecDepth 100000
set_option maxHeartbeats 4000000
/-! # Data: what a value is, whatever the heap; a heap that grows -/
namespace DX
open PySem PySem.Spec PyProof.Rows L2

inductive D where
  | non | bl (b : Bool) | int (i : Int) | str (x : Str) | lst (xs : List D) | scr (xs : List D) | tup (xs : List D) | ty (n : String) | ho (f : Addr → HO) | exc (C : Addr) | excA (C : Addr) (f : Str) (d : D) | lsp (g : Addr → Prop) (xs : List D) | any | ptup (xs : List D) | dcl (p : Addr) (o : Obj) (kvs : List (List Int × D))

/-- an error that is kept: its class, its own dict -/
def XO (cls : Value) (d : Option Addr) (a : Addr) : HO := .ext fun h => ∃ (oe : Obj) (vs : Array Value), h.get? a = some oe ∧ Zc cls d oe ∧ oe.data = .fields vs
mutual
inductive R (K : PySem.W.Frag) (H : Hp) : V → D → Prop
  | non : R K H .non .non
  | bl (b : Bool) : R K H (.bl b) (.bl b)
  | int (i : Int) : R K H (.int i) (.int i)
  | str (x : Str) : R K H (.str x) (.str x)
  | ty (n : String) : R K H (.ty n) (.ty n)
  | lst {a : Addr} {xs : List V} {ds : List D} : Rd H a (.lst xs) → RA K H xs ds → R K H (.ref a) (.lst ds)
  | scr {a : Addr} {xs : List V} {ds : List D} : SqL K H a xs → RA K H xs ds → R K H (.ref a) (.scr ds)
  | tup {a : Addr} {xs : List V} {ds : List D} : SqT K H a xs → RA K H xs ds → R K H (.ref a) (.tup ds)
  | ho {a : Addr} {f : Addr → HO} : H a = some (f a) → R K H (.ref a) (.ho f)
  | exc {a C : Addr} : H a = some (XO (.ref C) none a) → R K H (.ref a) (.exc C)
  | excA {a C dx : Addr} {f : Str} {v : V} {d : D} : H a = some (XO (.ref C) (some dx) a) → H dx = some (.xd [(f, v)]) → R K H v d → R K H (.ref a) (.excA C f d)
  | lsp {g : Addr → Prop} {a : Addr} {xs : List V} {ds : List D} : g a → H a = some (.lst xs) → RA K H xs ds → R K H (.ref a) (.lsp g ds)
  | any {a : Addr} : R K H (.ref a) .any
  | ptup {a : Addr} {xs : List V} {ds : List D} : H a = some (.tup xs) → RA K H xs ds → R K H (.ref a) (.ptup ds)
  | dcl {p : Addr} {o : Obj} {hv : List (List L2.Key × V)} {kvs : List (List Int × D)} : H p = some (.frz o (.dT hv)) → RK K H hv kvs → R K H (.ref p) (.dcl p o kvs)
inductive RA (K : PySem.W.Frag) (H : Hp) : List V → List D → Prop
  | nil : RA K H [] []
  | cons {v : V} {vs : List V} {d : D} {ds : List D} : R K H v d → RA K H vs ds → RA K H (v :: vs) (d :: ds)
/-- a dict's pairs, keys tuples of ints -/
inductive RK (K : PySem.W.Frag) (H : Hp) : List (List L2.Key × V) → List (List Int × D) → Prop
  | nil : RK K H [] []
  | cons {k : List Int} {v : V} {d : D} {hv : List (List L2.Key × V)} {kvs : List (List Int × D)} : R K H v d → RK K H hv kvs → RK K H ((k.map Sum.inl, v) :: hv) ((k, d) :: kvs)
end

theorem rd_mono {H H' : Hp} {a : Addr} {u : HO} (e : Same H H') (h : Rd H a u) : Rd H' a u := by
  rcases h with h | ⟨o, h⟩
  · exact .inl (e _ _ h)
  · exact .inr ⟨o, e _ _ h⟩
theorem sqt_mono {K : PySem.W.Frag} {H H' : Hp} {a : Addr} {xs : List V} (e : Same H H') (h : SqT K H a xs) : SqT K H' a xs := by
  rcases h with (h | ⟨o, h⟩) | h
  · exact .inl (.inl (e _ _ h))
  · exact .inl (.inr ⟨o, e _ _ h⟩)
  · exact .inr h

mutual
theorem R.mono {K : PySem.W.Frag} {H H' : Hp} (e : Same H H') : ∀ {v : V} {d : D}, R K H v d → R K H' v d
  | _, _, .non => .non
  | _, _, .bl b => .bl b
  | _, _, .int i => .int i
  | _, _, .str x => .str x
  | _, _, .ty n => .ty n
  | _, _, .lst h r => .lst (rd_mono e h) (RA.mono e r)
  | _, _, .scr h r => .scr (e.seq h) (RA.mono e r)
  | _, _, .tup h r => .tup (sqt_mono e h) (RA.mono e r)
  | _, _, .ho h => .ho (e _ _ h)
  | _, _, .exc h => .exc (e _ _ h)
  | _, _, .excA h h2 r => .excA (e _ _ h) (e _ _ h2) (R.mono e r)
  | _, _, .lsp g h r => .lsp g (e _ _ h) (RA.mono e r)
  | _, _, .any => .any
  | _, _, .ptup h r => .ptup (e _ _ h) (RA.mono e r)
  | _, _, .dcl h r => .dcl (e _ _ h) (RK.mono e r)
theorem RA.mono {K : PySem.W.Frag} {H H' : Hp} (e : Same H H') : ∀ {vs : List V} {ds : List D}, RA K H vs ds → RA K H' vs ds
  | _, _, .nil => .nil
  | _, _, .cons h r => .cons (R.mono e h) (RA.mono e r)
theorem RK.mono {K : PySem.W.Frag} {H H' : Hp} (e : Same H H') : ∀ {hv : List (List L2.Key × V)} {kvs : List (List Int × D)}, RK K H hv kvs → RK K H' hv kvs
  | _, _, .nil => .nil
  | _, _, .cons r t => .cons (R.mono e r) (RK.mono e t)
end
theorem RA.length {K : PySem.W.Frag} {H : Hp} : ∀ {vs : List V} {ds : List D}, RA K H vs ds → vs.length = ds.length
  | _, _, .nil => rfl
  | _, _, .cons _ r => by rw [List.length_cons, List.length_cons, r.length]
theorem RA.get {K : PySem.W.Frag} {H : Hp} : ∀ {vs : List V} {ds : List D} {i : Nat} {d : D}, RA K H vs ds → ds[i]? = some d → ∃ v, vs[i]? = some v ∧ R K H v d
  | _, _, _, _, .nil, e => by simp at e
  | _, _, 0, d, .cons r _, e => by simp at e; subst e; exact ⟨_, rfl, r⟩
  | _, _, i + 1, d, .cons _ t, e => by
    obtain ⟨v, h1, h2⟩ := RA.get (i := i) (d := d) t (by simpa using e)
    exact ⟨v, by simpa using h1, h2⟩
theorem RA.getV {K : PySem.W.Frag} {H : Hp} : ∀ {vs : List V} {ds : List D} {i : Nat} {v : V}, RA K H vs ds → vs[i]? = some v → ∃ d, ds[i]? = some d ∧ R K H v d
  | _, _, _, _, .nil, e => by simp at e
  | _, _, 0, v, .cons r _, e => by simp at e; subst e; exact ⟨_, rfl, r⟩
  | _, _, i + 1, v, .cons _ t, e => by
    obtain ⟨d, h1, h2⟩ := RA.getV (i := i) (v := v) t (by simpa using e)
    exact ⟨d, by simpa using h1, h2⟩
theorem RA.app {K : PySem.W.Frag} {H : Hp} : ∀ {vs ws : List V} {ds es : List D}, RA K H vs ds → RA K H ws es → RA K H (vs ++ ws) (ds ++ es)
  | _, _, _, _, .nil, s => s
  | _, _, _, _, .cons r t, s => .cons r (RA.app t s)
theorem RA.take {K : PySem.W.Frag} {H : Hp} : ∀ {vs : List V} {ds : List D} (n : Nat), RA K H vs ds → RA K H (vs.take n) (ds.take n)
  | _, _, 0, _ => .nil
  | _, _, _ + 1, .nil => .nil
  | _, _, n + 1, .cons r t => .cons r (RA.take n t)
theorem RA.drop {K : PySem.W.Frag} {H : Hp} : ∀ {vs : List V} {ds : List D} (n : Nat), RA K H vs ds → RA K H (vs.drop n) (ds.drop n)
  | _, _, 0, r => r
  | _, _, _ + 1, .nil => .nil
  | _, _, n + 1, .cons _ t => RA.drop n t
theorem RA.set {K : PySem.W.Frag} {H : Hp} {x : V} {d : D} (r : R K H x d) : ∀ {vs : List V} {ds : List D} (i : Nat), RA K H vs ds → RA K H (vs.set i x) (ds.set i d)
  | _, _, _, .nil => .nil
  | _, _, 0, .cons _ t => .cons r t
  | _, _, i + 1, .cons q t => .cons q (RA.set r i t)
theorem RA.rep {K : PySem.W.Frag} {H : Hp} {x : V} {d : D} (r : R K H x d) : ∀ n, RA K H (List.replicate n x) (List.replicate n d)
  | 0 => .nil
  | n + 1 => .cons r (RA.rep r n)
theorem RA.repl {K : PySem.W.Frag} {H : Hp} {xs : List V} {ds : List D} (r : RA K H xs ds) : ∀ n, RA K H (List.replicate n xs).flatten (List.replicate n ds).flatten
  | 0 => .nil
  | n + 1 => RA.app r (RA.repl r n)

/-! ### a heap that grows: B is what data speaks of, H all that is tracked -/
structure Fwd (B H B2 H2 : Hp) : Prop where
  ex : Same H H2
  eb : Same B B2
  e2 : Same B2 H2
  fr : ∀ a, B a = none → H a ≠ none → B2 a = none ∨ ∃ xs, H a = some (.tup xs)
theorem Fwd.fl {B H B2 H2 : Hp} (f : Fwd B H B2 H2) {a : Addr} {vs : List V} (hb : B a = none) (hp : H a = some (.lst vs)) : B2 a = none := (f.fr a hb (by rw [hp]; simp)).resolve_right fun ⟨xs, z⟩ => by
  rw [hp] at z
  cases z
theorem Fwd.fd {B H B2 H2 : Hp} (f : Fwd B H B2 H2) {a : Addr} {kvs : List (List L2.Key × V)} (hb : B a = none) (hp : H a = some (.dT kvs)) : B2 a = none := (f.fr a hb (by rw [hp]; simp)).resolve_right fun ⟨xs, z⟩ => by
  rw [hp] at z
  cases z
theorem Same.new {H : Hp} {p : Addr} {o : HO} (hp : H p = none) : Same H (upd H p o) := fun a u e => by
  rw [upd_ne (ne_of_none e hp)]
  exact e
theorem Same.both {B H : Hp} {p : Addr} {o : HO} (e : Same B H) : Same (upd B p o) (upd H p o) := fun a u h => by
  by_cases hb : a = p
  · rw [hb, upd_same] at h ⊢
    exact h
  · rw [upd_ne hb] at h ⊢
    exact e a u h
theorem Same.side {B H : Hp} {p : Addr} {o : HO} (e : Same B H) (hp : B p = none) : Same B (upd H p o) := fun a u h => by
  rw [upd_ne (ne_of_none h hp)]
  exact e a u h
theorem Fwd.refl {B H : Hp} (e : Same B H) : Fwd B H B H := ⟨Same.refl _, Same.refl _, e, fun _ h _ => .inl h⟩
theorem Fwd.trans {B H B1 H1 B2 H2 : Hp} (a : Fwd B H B1 H1) (b : Fwd B1 H1 B2 H2) : Fwd B H B2 H2 :=
  ⟨a.ex.trans b.ex, a.eb.trans b.eb, b.e2, fun x h hH => by
    rcases a.fr x h hH with y | y
    · cases q : H x with
      | none => exact absurd q hH
      | some o =>
        have z := a.ex x o q
        rcases b.fr x y (by rw [z]; simp) with w | ⟨xs, w⟩
        · exact .inl w
        · rw [z] at w
          exact .inr ⟨xs, w⟩
    · exact .inr y⟩
theorem Fwd.new {B H : Hp} {p : Addr} {o : HO} (e : Same B H) (hp : H p = none) : Fwd B H (upd B p o) (upd H p o) :=
  ⟨Same.new hp, Same.new (e.free hp), Same.both e, fun a h hH => by
    have n : a ≠ p := fun z => hH (by rw [z]; exact hp)
    rw [upd_ne n]
    exact .inl h⟩
/-- a new object that data does not speak of -/
theorem Fwd.side {B H : Hp} {p : Addr} {o : HO} (e : Same B H) (hp : H p = none) : Fwd B H B (upd H p o) :=
  ⟨Same.new hp, Same.refl _, Same.side e (e.free hp), fun _ h _ => .inl h⟩
/-- all of the heap is grown, data speaks of what it spoke of -/
theorem Fwd.top {B H H2 : Hp} (e : Same B H) (x : Same H H2) : Fwd B H B H2 := ⟨x, Same.refl _, e.trans x, fun _ h _ => .inl h⟩
/-- what is new joins what data speaks of -/
theorem Fwd.join {B H B1 H1 : Hp} {p : Addr} {o : HO} (e0 : Same B H) (f : Fwd B H B1 H1) (h : H1 p = some o) (hn : H p = none) (h1 : B1 p = none) : Fwd B H (upd B1 p o) H1 :=
  ⟨f.ex, f.eb.trans (Same.new h1),
    fun a u e => by
      by_cases hb : a = p
      · rw [hb, upd_same] at e
        cases e
        rw [hb]
        exact h
      · rw [upd_ne hb] at e
        exact f.e2 _ _ e,
    fun a hB hH => by
      have n : a ≠ p := fun z => hH (by rw [z]; exact hn)
      rw [upd_ne n]
      exact f.fr a hB hH⟩

/-! ### slots -/
/-- a slot: nothing told | data | a list of one's own, that may be changed; as a result also: data that leans on the whole heap | a new pair of a list of one's own and data -/
inductive Sl where
  | no | v (d : D) | own (ds : List D) | tmp (d : D) | pr (ds : List D) (d : D) | nst (dss : List (List D)) | dic (kvs : List (List Int × D))
abbrev Rho := List Sl

/-- the tables of code objects that stand there -/
def TabO (p : Addr) : HO := .ext fun h => ∃ ps : Array Value, h.get? p = some { cls := .none, data := .fields ps } ∧ TriplesOk ps.toList
def Amb (T : List Addr) (H : Hp) : Prop := ∀ p ∈ T, H p = some (TabO p)
theorem Amb.mono {T : List Addr} {H H' : Hp} (e : Same H H') (h : Amb T H) : Amb T H' := fun p hp => e _ _ (h p hp)

/-- dicts of one's own -/
structure DicP (K : PySem.W.Frag) (H0 B H : Hp) (σ : L2.St) (ρ : Rho) : Prop where
  at' : ∀ (i : Nat) (kvs : List (List Int × D)), ρ[i]? = some (Sl.dic kvs) → ∃ (p : Addr) (hv : List (List L2.Key × V)), σ[i]? = some (some (V.ref p)) ∧ H p = some (.dT hv) ∧ H0 p = none ∧ B p = none ∧ RK K B hv kvs
  sep : ∀ (i j : Nat) (p : Addr) (kvs kws : List (List Int × D)), ρ[i]? = some (Sl.dic kvs) → ρ[j]? = some (Sl.dic kws) → σ[i]? = some (some (V.ref p)) → σ[j]? = some (some (V.ref p)) → i = j
section
variable {K : PySem.W.Frag} {H0 B H B2 H2 : Hp} {σ : L2.St} {ρ ρ' : Rho}
theorem DicP.fwd (P : DicP K H0 B H σ ρ) (f : Fwd B H B2 H2) : DicP K H0 B2 H2 σ ρ := ⟨fun i kvs h => by
  obtain ⟨p, hv, e, hp, h0, hb, r⟩ := P.at' i kvs h
  exact ⟨p, hv, e, f.ex _ _ hp, h0, f.fd hb hp, r.mono f.eb⟩, P.sep⟩
theorem DicP.less (P : DicP K H0 B H σ ρ) (h : ∀ (i : Nat) (kvs : List (List Int × D)), ρ'[i]? = some (Sl.dic kvs) → ρ[i]? = some (Sl.dic kvs)) : DicP K H0 B H σ ρ' :=
  ⟨fun i kvs e => P.at' i kvs (h i kvs e), fun i j p kvs kws e1 e2 => P.sep i j p kvs kws (h i kvs e1) (h j kws e2)⟩
theorem dic_set {s : Sl} {i j : Nat} {kvs : List (List Int × D)} (hs : ∀ kvs, s ≠ .dic kvs) (h : (ρ.set i s)[j]? = some (Sl.dic kvs)) : i ≠ j ∧ ρ[j]? = some (Sl.dic kvs) := by
  by_cases e : i = j
  · subst e
    rw [List.getElem?_set] at h
    simp only [if_true] at h
    split at h
    · exact absurd (Option.some.inj h) (hs kvs)
    · cases h
  · rw [List.getElem?_set_ne e] at h
    exact ⟨e, h⟩
theorem DicP.set (P : DicP K H0 B H σ ρ) {s : Sl} {i : Nat} {x : Option V} (hs : ∀ kvs, s ≠ .dic kvs := by intro kvs z; cases z) : DicP K H0 B H (σ.set i x) (ρ.set i s) :=
  ⟨fun j kvs h => by
    obtain ⟨n, h⟩ := dic_set hs h
    obtain ⟨p, hv, e, r⟩ := P.at' j kvs h
    exact ⟨p, hv, by rw [List.getElem?_set_ne n]; exact e, r⟩, fun j l p kvs kws h1 h2 h3 h4 => by
    obtain ⟨n1, h1⟩ := dic_set hs h1
    obtain ⟨n2, h2⟩ := dic_set hs h2
    rw [List.getElem?_set_ne n1] at h3
    rw [List.getElem?_set_ne n2] at h4
    exact P.sep j l p kvs kws h1 h2 h3 h4⟩
theorem DicP.slot (P : DicP K H0 B H σ ρ) {s : Sl} {i : Nat} (hs : ∀ kvs, s ≠ .dic kvs := by intro kvs z; cases z) : DicP K H0 B H σ (ρ.set i s) := P.less fun j kvs h => (dic_set hs h).2
theorem DicP.upd (P : DicP K H0 B H σ ρ) {p : Addr} {vs : List V} {o : HO} (hp : H p = some (.lst vs)) : DicP K H0 B (upd H p o) σ ρ := ⟨fun i kvs h => by
  obtain ⟨q, hv, e, hq, r⟩ := P.at' i kvs h
  exact ⟨q, hv, e, by rw [upd_ne (fun z => by rw [z, hp] at hq; cases hq)]; exact hq, r⟩, P.sep⟩
theorem DicP.data (P : DicP K H0 B H σ ρ) {p : Addr} {vs : List V} {o : HO} (hp : H p = some (.lst vs)) (hb : B p = none) : DicP K H0 (L2.upd B p o) H σ ρ := ⟨fun i kvs h => by
  obtain ⟨q, hv, e, hq, h0, h1, r⟩ := P.at' i kvs h
  exact ⟨q, hv, e, hq, h0, by rw [upd_ne (fun z => by rw [z, hp] at hq; cases hq)]; exact h1, r.mono (Same.new hb)⟩, P.sep⟩
theorem DicP.none (hn : ∀ (i : Nat) (kvs : List (List Int × D)), ρ[i]? ≠ some (Sl.dic kvs)) : DicP K H0 B H σ ρ := ⟨fun i kvs h => absurd h (hn i kvs), fun i j p kvs kws h => absurd h (hn i kvs)⟩
end
structure SD (K : PySem.W.Frag) (T : List Addr) (B0 H0 B H : Hp) (σ : L2.St) (ρ : Rho) : Prop where
  fw : Fwd B0 H0 B H
  am : Amb T H
  val : ∀ (i : Nat) (d : D), ρ[i]? = some (Sl.v d) → ∃ v : V, σ[i]? = some (some v) ∧ R K B v d
  own : ∀ (i : Nat) (ds : List D), ρ[i]? = some (Sl.own ds) → ∃ (p : Addr) (vs : List V), σ[i]? = some (some (V.ref p)) ∧ H p = some (.lst vs) ∧ H0 p = none ∧ B p = none ∧ RA K B vs ds
  sep : ∀ (i j : Nat) (p : Addr) (ds es : List D), ρ[i]? = some (Sl.own ds) → ρ[j]? = some (Sl.own es) → σ[i]? = some (some (V.ref p)) → σ[j]? = some (some (V.ref p)) → i = j
  len : ρ.length = σ.length
  dic : DicP K H0 B H σ ρ
theorem SD.bh {K : PySem.W.Frag} {T : List Addr} {B0 H0 B H : Hp} {σ : L2.St} {ρ : Rho} (S : SD K T B0 H0 B H σ ρ) : Same B H := S.fw.e2
theorem SD.fwd {K : PySem.W.Frag} {T : List Addr} {B0 H0 B H B2 H2 : Hp} {σ : L2.St} {ρ : Rho} (S : SD K T B0 H0 B H σ ρ) (f : Fwd B H B2 H2) : SD K T B0 H0 B2 H2 σ ρ :=
  ⟨S.fw.trans f, S.am.mono f.ex, fun i d h => let ⟨v, e, r⟩ := S.val i d h; ⟨v, e, r.mono f.eb⟩,
    fun i ds h => let ⟨p, vs, e, hp, h0, hb, r⟩ := S.own i ds h; ⟨p, vs, e, f.ex _ _ hp, h0, f.fl hb hp, r.mono f.eb⟩, S.sep, S.len, S.dic.fwd f⟩
/-- what a result is -/
def RS (K : PySem.W.Frag) (H0 B H : Hp) (v : V) : Sl → Prop
  | .no => True
  | .v d => R K B v d
  | .own ds => ∃ p vs, v = .ref p ∧ H p = some (.lst vs) ∧ H0 p = none ∧ B p = none ∧ RA K B vs ds
  | .tmp d => R K H v d
  | .pr ds d => ∃ t p vs w, v = .ref t ∧ SqT K H t [.ref p, w] ∧ H p = some (.lst vs) ∧ H0 p = none ∧ B p = none ∧ RA K B vs ds ∧ R K B w d
  | .dic kvs => ∃ p hv, v = .ref p ∧ H p = some (.dT hv) ∧ H0 p = none ∧ B p = none ∧ RK K B hv kvs
  | .nst dss => ∃ p vs, v = .ref p ∧ H p = some (.lst vs) ∧ H0 p = none ∧ B p = none ∧ RA K B vs (dss.map (.lsp fun a => H0 a = none))
theorem R.lspw {K : PySem.W.Frag} {H : Hp} {v : V} {g g' : Addr → Prop} {ds : List D} (h : ∀ a, g a → g' a) (r : R K H v (.lsp g ds)) : R K H v (.lsp g' ds) := by
  cases r with
  | lsp a b c => exact .lsp (h _ a) b c
theorem RA.lspw {K : PySem.W.Frag} {H : Hp} {g g' : Addr → Prop} (h : ∀ a, g a → g' a) : ∀ {vs : List V} {dss : List (List D)}, RA K H vs (dss.map (.lsp g)) → RA K H vs (dss.map (.lsp g'))
  | _, [], .nil => .nil
  | _, _ :: _, .cons r t => .cons (r.lspw h) (RA.lspw h t)
theorem PE.imp {X : Cx} {e : Expr} {t t' : TE} (h : PE X e t) (w : ∀ σ H Q, t' σ H Q → t σ H Q) : PE X e t' := ⟨fun pins s σ H Q I q => h.run pins s σ H Q I (w _ _ _ q)⟩
theorem PT.imp {X : Cx} {e : Expr} {t t' : TT} (h : PT X e t) (w : ∀ σ H Q, t' σ H Q → t σ H Q) : PT X e t' := ⟨fun pins s σ H Q I q => h.run pins s σ H Q I (w _ _ _ q)⟩
theorem PA.imp {X : Cx} {e : List Expr} {t t' : TA} (h : PA X e t) (w : ∀ σ H Q, t' σ H Q → t σ H Q) : PA X e t' := ⟨fun pos pins s σ H Q I q => h.run pos pins s σ H Q I (w _ _ _ q)⟩
theorem PS.imp {X : Cx} {e : Stmt} {t t' : TS} (h : PS X e t) (w : ∀ D σ H, t' D σ H → t D σ H) : PS X e t' := ⟨fun pins s σ H D I q => h.run pins s σ H D I (w _ _ _ q)⟩
theorem PSs.imp {X : Cx} {e : List Stmt} {t t' : TS} (h : PSs X e t) (w : ∀ D σ H, t' D σ H → t D σ H) : PSs X e t' := ⟨fun pins s σ H D I q => h.run pins s σ H D I (w _ _ _ q)⟩
theorem PI.imp {X : Cx} {tg e : Expr} {t t' : TI} (h : PI X tg e t) (w : ∀ σ H R, t' σ H R → t σ H R) : PI X tg e t' := ⟨fun pins s σ H R I q => h.run pins s σ H R I (w _ _ _ q)⟩

/-! ### an expression's result in a state -/
def tD (K : PySem.W.Frag) (T : List Addr) (ρ : Rho) (r : Sl) : TE := fun σ H Q => ∃ B0 H0 B, SD K T B0 H0 B H σ ρ ∧ ∀ v B2 H2, Fwd B H B2 H2 → RS K H B2 H2 v r → Q v H2
def tT (K : PySem.W.Frag) (T : List Addr) (ρ : Rho) (b : Bool) : TT := fun σ H Q => ∃ B0 H0 B, SD K T B0 H0 B H σ ρ ∧ ∀ B2 H2, Fwd B H B2 H2 → Q b H2
def tAs (K : PySem.W.Frag) (T : List Addr) (ρ : Rho) (ds : List D) : TA := fun σ H Q => ∃ B0 H0 B, SD K T B0 H0 B H σ ρ ∧ ∀ vs B2 H2, Fwd B H B2 H2 → RA K B2 vs ds → Q vs H2
/-- .. arguments that lean on the whole heap -/
def tAt (K : PySem.W.Frag) (T : List Addr) (ρ : Rho) (ds : List D) : TA := fun σ H Q => ∃ B0 H0 B, SD K T B0 H0 B H σ ρ ∧ ∀ vs B2 H2, Fwd B H B2 H2 → RA K H2 vs ds → Q vs H2
abbrev PD (X : Cx) (T : List Addr) (ρ : Rho) (e : Expr) (r : Sl) : Prop := PE X e (tD X.K T ρ r)
abbrev PB (X : Cx) (T : List Addr) (ρ : Rho) (e : Expr) (b : Bool) : Prop := PT X e (tT X.K T ρ b)
abbrev PAs (X : Cx) (T : List Addr) (ρ : Rho) (es : List Expr) (ds : List D) : Prop := PA X es (tAs X.K T ρ ds)
abbrev PAt (X : Cx) (T : List Addr) (ρ : Rho) (es : List Expr) (ds : List D) : Prop := PA X es (tAt X.K T ρ ds)

section
variable {X : Cx} {T : List Addr} {ρ : Rho} {e a b c : Expr} {es : List Expr} {pos : Pos} {d da db dc : D} {r : Sl}
/-- data | a new list, as data of the whole heap -/
theorem pd_tmp (h : PD X T ρ e (.v d)) : PD X T ρ e (.tmp d) := PE.imp h fun _ _ _ ⟨B0, H0, B, S, k⟩ => ⟨B0, H0, B, S, fun v B2 H2 f q => k v B2 H2 f (R.mono f.e2 q)⟩
/-- a new list, as data for good -/
theorem pd_frz {ds : List D} (h : PD X T ρ e (.own ds)) : PD X T ρ e (.v (.lst ds)) := PE.imp h fun _ _ _ ⟨B0, H0, B, S, k⟩ => ⟨B0, H0, B, S, fun v B2 H2 f q => by
  obtain ⟨p, vs, rfl, hp, hn, hb, q⟩ := q
  exact k _ _ _ (f.join S.bh hp hn hb) (.lst (.inl upd_same) (q.mono (Same.new hb)))⟩
theorem pd_eq {r' : Sl} (h : PD X T ρ e r) (q : r = r') : PD X T ρ e r' := q ▸ h
theorem pb_eq {x y : Bool} (h : PB X T ρ e x) (q : x = y) : PB X T ρ e y := q ▸ h

/-! names, constants -/
theorem pd_var {i : Nat} {x : Str} (hr : ρ[i]? = some (.v d)) (hN : X.N[i]? = some x := by rfl) (hv : Vis X.env.scope x := by first | exact Or.inl rfl | exact Or.inr (Or.inl rfl) | exact Or.inr (Or.inr rfl)) (hd : (x == ("__debug__" : Str)) = false := by decide)
    (hcd : (x == ("__classdict__" : Str)) = false := by decide) : PD X T ρ (.Name x pos) (.v d) :=
  PE.imp (pe_var hN hv hd hcd) fun σ H Q ⟨B0, H0, B, S, k⟩ => by
    obtain ⟨v, e, q⟩ := S.val i d hr
    exact ⟨v, e, k v B H (Fwd.refl S.bh) q⟩
theorem pd_own {i : Nat} {x : Str} {ds : List D} (hr : ρ[i]? = some (.own ds)) (hN : X.N[i]? = some x := by rfl) (hv : Vis X.env.scope x := by first | exact Or.inl rfl | exact Or.inr (Or.inl rfl) | exact Or.inr (Or.inr rfl)) (hd : (x == ("__debug__" : Str)) = false := by decide)
    (hcd : (x == ("__classdict__" : Str)) = false := by decide) : PD X T ρ (.Name x pos) (.tmp (.lst ds)) :=
  PE.imp (pe_var hN hv hd hcd) fun σ H Q ⟨B0, H0, B, S, k⟩ => by
    obtain ⟨p, vs, e, hp, _, _, q⟩ := S.own i ds hr
    exact ⟨_, e, k _ B H (Fwd.refl S.bh) (.lst (.inl hp) (q.mono S.bh))⟩
theorem pd_c {v : V} (h : PE X e (tC v)) (hd : ∀ B : Hp, R X.K B v d) : PD X T ρ e (.v d) := PE.imp h fun _ _ _ ⟨B0, H0, B, S, k⟩ => k _ _ _ (Fwd.refl S.bh) (hd _)
theorem pd_int {i : Int} {j : Nat} : PD X T ρ (.Constant (.int i) j pos) (.v (.int i)) := pd_c pe_int fun _ => .int i
theorem pd_bl {x : Bool} {j : Nat} : PD X T ρ (.Constant (.bool x) j pos) (.v (.bl x)) := pd_c pe_bl fun _ => .bl x
theorem pd_non {j : Nat} : PD X T ρ (.Constant .none j pos) (.v .non) := pd_c pe_non fun _ => .non
theorem pd_str {x : Str} {j : Nat} : PD X T ρ (.Constant (.str x) j pos) (.v (.str x)) := pd_c pe_str fun _ => .str x
theorem pd_glob {x : Str} {v : V} {u : Value} (hm : X.mg x = some u) (q : RelV v u) (h : ∀ B : Hp, R X.K B v d) (hg : Gl X x := by rfl) (hd : (x == ("__debug__" : Str)) = false := by decide) : PD X T ρ (.Name x pos) (.v d) := pd_c (pe_glob hg hm q hd) h
theorem pd_bltn {x : Str} {v : V} {u : Value} (hm : X.mg x = none) (hv : bootBuiltins x = some u) (q : RelV v u) (h : ∀ B : Hp, R X.K B v d) (hg : Gl X x := by rfl) (hn : x ≠ "__name__" := by decide) (hd : (x == ("__debug__" : Str)) = false := by decide) : PD X T ρ (.Name x pos) (.v d) := pd_c (pe_bltn hg hm hv q hn hd) h

/-! two-place operations: what they give, of data -/
def OpD (K : PySem.W.Frag) (r : R2) (a b : D) (c : Sl) : Prop := ∀ (B H : Hp) (v u : V) (Q : VK), Same B H → R K B v a → R K B u b → (∀ w B2 H2, Fwd B H B2 H2 → RS K H B2 H2 w c → Q w H2) → r v u H Q
theorem RS.old {K : PySem.W.Frag} {H H' B B' : Hp} {v : V} (e : Same H H') (h : RS K H' B B' v r) : RS K H B B' v r := by
  cases r with
  | no => trivial
  | v d => exact h
  | tmp d => exact h
  | own ds =>
    obtain ⟨p, vs, h1, h2, h3, h4⟩ := h
    exact ⟨p, vs, h1, h2, e.free h3, h4⟩
  | pr ds d =>
    obtain ⟨t, p, vs, w, h1, h2, h3, h4, h5⟩ := h
    exact ⟨t, p, vs, w, h1, h2, h3, e.free h4, h5⟩
  | dic kvs =>
    obtain ⟨p, hv, h1, h2, h3, h4⟩ := h
    exact ⟨p, hv, h1, h2, e.free h3, h4⟩
  | nst dss =>
    obtain ⟨p, vs, h1, h2, h3, h4, h5⟩ := h
    exact ⟨p, vs, h1, h2, e.free h3, h4, h5.lspw fun a z => e.free z⟩
theorem pd_op2 {f : R2} (h : PE X e (tOp f (tD X.K T ρ (.v da)) (tD X.K T ρ (.v db)))) (o : OpD X.K f da db r) : PD X T ρ e r := PE.imp h fun σ H Q ⟨B0, H0, B, S, k⟩ =>
  ⟨B0, H0, B, S, fun v B1 H1 f1 q1 => ⟨B0, H0, B1, S.fwd f1, fun u B2 H2 f2 q2 => o B2 H2 v u Q f2.e2 (R.mono f2.eb q1) q2 fun w B3 H3 f3 q3 =>
    k w B3 H3 ((f1.trans f2).trans f3) (RS.old (f1.ex.trans f2.ex) q3)⟩⟩
def BinD (X : Cx) (op : Operator) (a b : D) (c : Sl) : Prop := ∃ f, OpR X (binaryOp op) f ∧ OpD X.K f a b c
theorem pd_bin {op : Operator} (ha : PD X T ρ a (.v da)) (hb : PD X T ρ b (.v db)) (h : BinD X op da db r) : PD X T ρ (.BinOp a op b pos) r := let ⟨_, o, q⟩ := h; pd_op2 (pe_op o ha hb) q
theorem opd_I {C : Int → Int → Prop} {g : Int → Int → V} {i j : Int} {K : PySem.W.Frag} (hc : C i j) (h : ∀ B : Hp, R K B (g i j) d) : OpD K (rI C g) (.int i) (.int j) (.v d) := fun B H v u Q s h1 h2 k => by
  cases h1
  cases h2
  exact ⟨i, j, rfl, rfl, hc, k _ B H (Fwd.refl s) (h B)⟩
theorem opd_I0 {g : Int → Int → V} {i j : Int} {K : PySem.W.Frag} (h : ∀ B : Hp, R K B (g i j) d) : OpD K (rI0 g) (.int i) (.int j) (.v d) := fun B H v u Q s h1 h2 k => by
  cases h1
  cases h2
  exact ⟨i, j, rfl, rfl, k _ B H (Fwd.refl s) (h B)⟩
theorem bd_add {i j : Int} : BinD X .Add (.int i) (.int j) (.v (.int (i + j))) := ⟨_, op_add, opd_I0 fun _ => .int _⟩
theorem bd_sub {i j : Int} : BinD X .Sub (.int i) (.int j) (.v (.int (i - j))) := ⟨_, op_sub, opd_I0 fun _ => .int _⟩
theorem bd_mul {i j : Int} (h : CMul i j) : BinD X .Mult (.int i) (.int j) (.v (.int (i * j))) := ⟨_, op_mul, opd_I h fun _ => .int _⟩
theorem bd_fdiv {i j : Int} (h : CDiv i j) : BinD X .FloorDiv (.int i) (.int j) (.v (.int (i / j))) := ⟨_, op_fdiv, opd_I h fun _ => .int _⟩
theorem bd_mod {i j : Int} (h : 0 < j) : BinD X .Mod (.int i) (.int j) (.v (.int (i % j))) := ⟨_, op_mod, opd_I h fun _ => .int _⟩
theorem bd_pow {i j : Int} (h : CPow i j) : BinD X .Pow (.int i) (.int j) (.v (.int (i ^ j.toNat))) := ⟨_, op_pow, opd_I h fun _ => .int _⟩
end
end DX
/-! # Data as the library's data; comparisons, tests, calls, subscripts, displays -/
namespace DX
open PySem PySem.Spec PyProof.Rows L2

mutual
def D.py : D → PyData
  | .non => .none
  | .bl b => .bool b
  | .int i => .int i
  | .str x => .str x
  | .lst xs => .list (D.pys xs)
  | .scr xs => .list (D.pys xs)
  | .tup xs => .tuple (D.pys xs)
  | .ty _ => .none
  | .ho _ => .none
  | .exc _ => .none
  | .excA _ _ _ => .none
  | .lsp _ _ => .none
  | .any => .none
  | .ptup _ => .none
  | .dcl _ _ _ => .none
def D.pys : List D → List PyData
  | [] => []
  | x :: xs => x.py :: D.pys xs
end
theorem D.pys_eq : ∀ xs : List D, D.pys xs = xs.map D.py
  | [] => rfl
  | x :: xs => by
    show x.py :: D.pys xs = x.py :: xs.map D.py
    rw [D.pys_eq xs]
/-- no deeper than n, of None, truth values, ints, short plain texts, lists, tuples -/
def sh : Nat → D → Bool
  | _, .non => true
  | _, .bl _ => true
  | _, .int _ => true
  | _, .str x => PyData.strOk x
  | n + 1, .lst xs => xs.all (sh n)
  | n + 1, .scr xs => xs.all (sh n)
  | n + 1, .tup xs => xs.all (sh n)
  | _, _ => false
theorem sh_lay : ∀ (n : Nat) (d : D), sh n d = true → d.py.canLay0 = true ∧ d.py.depth ≤ n := by
  intro n
  induction n with
  | zero =>
    intro d h
    cases d <;> first | (simp [sh] at h; done) | (simp [sh] at h; simp [D.py, PyData.canLay0, PyData.depth, h]) | simp [D.py, PyData.canLay0, PyData.depth]
  | succ n ih =>
    have hl : ∀ xs : List D, xs.all (sh n) = true → PyData.canLayAll0 (D.pys xs) = true ∧ PyData.depthAll (D.pys xs) ≤ n := by
      intro xs
      induction xs with
      | nil => intro _; exact ⟨rfl, Nat.zero_le _⟩
      | cons x xs ihx =>
        intro h
        rw [List.all_cons, Bool.and_eq_true] at h
        obtain ⟨a1, a2⟩ := ih x h.1
        obtain ⟨b1, b2⟩ := ihx h.2
        refine ⟨?_, ?_⟩
        · show (x.py.canLay0 && PyData.canLayAll0 (D.pys xs)) = true
          rw [a1, b1]
          rfl
        · show max x.py.depth (PyData.depthAll (D.pys xs)) ≤ n
          omega
    intro d h
    cases d with
    | lst xs =>
      obtain ⟨a, b⟩ := hl xs h
      exact ⟨a, Nat.succ_le_succ b⟩
    | scr xs =>
      obtain ⟨a, b⟩ := hl xs h
      exact ⟨a, Nat.succ_le_succ b⟩
    | tup xs =>
      obtain ⟨a, b⟩ := hl xs h
      exact ⟨a, Nat.succ_le_succ b⟩
    | str x => exact ⟨h, Nat.zero_le _⟩
    | non => exact ⟨rfl, Nat.zero_le _⟩
    | bl _ => exact ⟨rfl, Nat.zero_le _⟩
    | int _ => exact ⟨rfl, Nat.zero_le _⟩
    | ty _ => cases h
    | ho _ => cases h
    | exc _ => cases h
    | excA _ _ _ => cases h
    | lsp _ _ => cases h
    | any => cases h
    | ptup _ => cases h
    | dcl _ _ _ => cases h
theorem sh_shaped {n : Nat} {d : D} (h : sh n d = true) (hn : n ≤ 64 := by decide) : SeqAt.shaped d.py = true := by
  obtain ⟨a, b⟩ := sh_lay n d h
  show (d.py.canLay0 && decide (d.py.depth ≤ 64)) = true
  rw [a, decide_eq_true (Nat.le_trans b hn)]
  rfl
theorem dp_of {K : PySem.W.Frag} {H : Hp} : ∀ (n : Nat) (v : V) (d : D), sh n d = true → R K H v d → Dp K H v d.py := by
  intro n
  have base : ∀ (v : V) (d : D), R K H v d → (∀ xs, d ≠ .lst xs) → (∀ xs, d ≠ .scr xs) → (∀ xs, d ≠ .tup xs) → (∀ t, d ≠ .ty t) → (∀ f, d ≠ .ho f) → (∀ C, d ≠ .exc C) → (∀ z : Addr × Str × D, d ≠ .excA z.1 z.2.1 z.2.2) → (∀ z : (Addr → Prop) × List D, d ≠ .lsp z.1 z.2) → (∀ z : Unit, d ≠ .any) → (∀ z, d ≠ .ptup z) → (∀ z : Addr × Obj × List (List Int × D), d ≠ .dcl z.1 z.2.1 z.2.2) → Dp K H v d.py := by
    intro v d r h1 h2 h3 h4 h5 h6 h7 h8 h9 h10 h11
    cases r with
    | non => exact .non
    | bl b => exact .bl b
    | int i => exact .int i
    | str x => exact .str x
    | ty t => exact absurd rfl (h4 t)
    | lst _ _ => exact absurd rfl (h1 _)
    | scr _ _ => exact absurd rfl (h2 _)
    | tup _ _ => exact absurd rfl (h3 _)
    | ho _ => exact absurd rfl (h5 _)
    | exc _ => exact absurd rfl (h6 _)
    | excA _ _ _ => exact absurd rfl (h7 (_, _, _))
    | lsp _ _ _ => exact absurd rfl (h8 (_, _))
    | any => exact absurd rfl (h9 ())
    | ptup _ _ => exact absurd rfl (h10 _)
    | dcl _ _ => exact absurd rfl (h11 (_, _, _))
  induction n with
  | zero =>
    intro v d h r
    refine base v d r ?_ ?_ ?_ ?_ ?_ ?_ ?_ ?_ ?_ ?_ ?_ <;> (intro x e; subst e; cases h)
  | succ n ih =>
    have hl : ∀ (xs : List D) (vs : List V), xs.all (sh n) = true → RA K H vs xs → DpAll K H vs (D.pys xs) := by
      intro xs
      induction xs with
      | nil => intro vs _ r; cases r; exact .nil
      | cons x xs ihx =>
        intro vs h r
        rw [List.all_cons, Bool.and_eq_true] at h
        cases r with
        | cons r1 r2 => exact .cons (ih _ x h.1 r1) (ihx _ h.2 r2)
    intro v d h r
    cases r with
    | lst h1 r2 => exact .lst (.inl h1) (hl _ _ h r2)
    | scr h1 r2 => exact .lst h1 (hl _ _ h r2)
    | tup h1 r2 => exact .tup h1 (hl _ _ h r2)
    | non => exact .non
    | bl b => exact .bl b
    | int i => exact .int i
    | str x => exact .str x
    | ty t => cases h
    | ho _ => cases h
    | exc _ => cases h
    | excA _ _ _ => cases h
    | lsp _ _ _ => cases h
    | any => cases h
    | ptup _ _ => cases h
    | dcl _ _ => cases h
/-- == of data -/
def eqD (a b : D) : Bool := PyData.eqv a.py b.py
theorem eqD_refl {n : Nat} {d : D} (h : sh n d = true) : eqD d d = true := SeqAt.eqv_refl _ (sh_lay n d h).1

/-! ### what a slot's data is, by kind -/
/-- the items of a list or a tuple -/
def D.seq : D → Option (List D)
  | .lst xs => some xs
  | .scr xs => some xs
  | .tup xs => some xs
  | _ => none
theorem R.seq {K : PySem.W.Frag} {H : Hp} {v : V} {d : D} {ds : List D} (r : R K H v d) (h : d.seq = some ds) : ∃ p vs, v = .ref p ∧ (SqL K H p vs ∨ SqT K H p vs) ∧ RA K H vs ds := by
  cases r with
  | lst h1 h2 => cases h; exact ⟨_, _, rfl, .inl (.inl h1), h2⟩
  | scr h1 h2 => cases h; exact ⟨_, _, rfl, .inl h1, h2⟩
  | tup h1 h2 => cases h; exact ⟨_, _, rfl, .inr h1, h2⟩
  | non => cases h
  | bl _ => cases h
  | int _ => cases h
  | str _ => cases h
  | ty _ => cases h
  | ho _ => cases h
  | exc _ => cases h
  | excA _ _ _ => cases h
  | lsp _ _ _ => cases h
  | any => cases h
  | ptup _ _ => cases h
  | dcl _ _ => cases h
theorem ra_ints {K : PySem.W.Frag} {H : Hp} : ∀ {ns : List Int} {vs : List V}, RA K H vs (ns.map D.int) → vs = ns.map V.int
  | [], _, .nil => rfl
  | n :: ns, _, .cons r t => by
    cases r
    rw [ra_ints t]
    rfl
theorem ra_bls {K : PySem.W.Frag} {H : Hp} : ∀ {ns : List Bool} {vs : List V}, RA K H vs (ns.map D.bl) → vs = ns.map V.bl
  | [], _, .nil => rfl
  | n :: ns, _, .cons r t => by
    cases r
    rw [ra_bls t]
    rfl

section
variable {X : Cx} {T : List Addr} {ρ : Rho} {e a b c : Expr} {es : List Expr} {pos : Pos} {d da db dc : D} {r : Sl} {k k' : Bool}

/-! ### comparisons -/
def CmpD (X : Cx) (op : CmpOp) (a b : D) (k : Bool) : Prop := ∃ f, OpR X (compareOp op) f ∧ ∀ (H : Hp) (v u : V) (Q : VK), R X.K H v a → R X.K H u b → Q (.bl k) H → f v u H Q
theorem pd_cmp {op : CmpOp} (ha : PD X T ρ a (.tmp da)) (hb : PD X T ρ b (.tmp db)) (h : CmpD X op da db k) (hm : behindInMarks op b = false := by first | exact nomark _ | rfl) : PD X T ρ (.Compare a [op] [b] pos) (.v (.bl k)) := by
  obtain ⟨f, o, q⟩ := h
  refine PE.imp (pe_cmpR o ha hb hm) fun σ H Q ⟨B0, H0, B, S, n⟩ => ?_
  exact ⟨B0, H0, B, S, fun v B1 H1 f1 q1 => ⟨B0, H0, B1, S.fwd f1, fun u B2 H2 f2 q2 => q H2 v u Q (R.mono f2.ex q1) q2 (n _ _ _ (f1.trans f2) (.bl k))⟩⟩
theorem pb_cmp {op : CmpOp} (ha : PD X T ρ a (.tmp da)) (hb : PD X T ρ b (.tmp db)) (h : CmpD X op da db k) (hm : behindInMarks op b = false := by first | exact nomark _ | rfl) : PB X T ρ (.Compare a [op] [b] pos) k := by
  obtain ⟨f, o, q⟩ := h
  refine PT.imp (pt_cmpR o ha hb hm) fun σ H Q ⟨B0, H0, B, S, n⟩ => ?_
  exact ⟨B0, H0, B, S, fun v B1 H1 f1 q1 => ⟨B0, H0, B1, S.fwd f1, fun u B2 H2 f2 q2 => q H2 v u _ (R.mono f2.ex q1) q2 ⟨k, rfl, n _ _ (f1.trans f2)⟩⟩⟩
theorem cd_I {op : CmpOp} {g : Int → Int → Bool} {i j : Int} (o : OpR X (compareOp op) (rI0 fun i j => .bl (g i j))) : CmpD X op (.int i) (.int j) (g i j) :=
  ⟨_, o, fun H v u Q r1 r2 q => by cases r1; cases r2; exact ⟨i, j, rfl, rfl, q⟩⟩
theorem cd_lt {i j : Int} : CmpD X .Lt (.int i) (.int j) (decide (i < j)) := cd_I op_lt
theorem cd_le {i j : Int} : CmpD X .LtE (.int i) (.int j) (decide (i ≤ j)) := cd_I op_le
theorem cd_gt {i j : Int} : CmpD X .Gt (.int i) (.int j) (decide (j < i)) := cd_I op_gt
theorem cd_ge {i j : Int} : CmpD X .GtE (.int i) (.int j) (decide (j ≤ i)) := cd_I op_ge
theorem cd_eqI {i j : Int} : CmpD X .Eq (.int i) (.int j) (decide (i = j)) := ⟨_, op_eq, fun H v u Q r1 r2 q => by
  cases r1; cases r2
  refine ⟨rfl, ?_⟩
  have e : decide (V.int i = V.int j) = decide (i = j) := by simp
  rw [e]
  exact q⟩
theorem cd_neI {i j : Int} : CmpD X .NotEq (.int i) (.int j) (!decide (i = j)) := ⟨_, op_ne, fun H v u Q r1 r2 q => by
  cases r1; cases r2
  refine ⟨rfl, ?_⟩
  have e : decide (V.int i = V.int j) = decide (i = j) := by simp
  rw [e]
  exact q⟩
theorem cd_eqS {i j : Str} : CmpD X .Eq (.str i) (.str j) (decide (i = j)) := ⟨_, op_eq, fun H v u Q r1 r2 q => by
  cases r1; cases r2
  refine ⟨rfl, ?_⟩
  have e : decide (V.str i = V.str j) = decide (i = j) := by simp
  rw [e]
  exact q⟩
theorem cd_neS {i j : Str} : CmpD X .NotEq (.str i) (.str j) (!decide (i = j)) := ⟨_, op_ne, fun H v u Q r1 r2 q => by
  cases r1; cases r2
  refine ⟨rfl, ?_⟩
  have e : decide (V.str i = V.str j) = decide (i = j) := by simp
  rw [e]
  exact q⟩
theorem cd_eqD {n : Nat} (hu : X.A.units + 64 < cLine) (h1 : sh n da = true) (h2 : sh n db = true) (hn : n ≤ 64 := by decide) : CmpD X .Eq da db (eqD da db) := ⟨_, op_eqD hu, fun H v u Q r1 r2 q =>
  ⟨_, _, dp_of n v da h1 r1, dp_of n u db h2 r2, sh_shaped h1 hn, sh_shaped h2 hn, q⟩⟩
theorem cd_neD {n : Nat} (hu : X.A.units + 64 < cLine) (h1 : sh n da = true) (h2 : sh n db = true) (hn : n ≤ 64 := by decide) : CmpD X .NotEq da db (!eqD da db) := ⟨_, op_neD hu, fun H v u Q r1 r2 q =>
  ⟨_, _, dp_of n v da h1 r1, dp_of n u db h2 r2, sh_shaped h1 hn, sh_shaped h2 hn, q⟩⟩
/-- is it None -/
def D.isN : D → Bool
  | .non => true
  | _ => false
theorem R.isN {K : PySem.W.Frag} {H : Hp} {v : V} (r : R K H v d) : decide (v = .non) = d.isN := by
  cases r <;> first | rfl | simp [D.isN]
theorem cd_isN : CmpD X .Is da .non da.isN := ⟨_, op_isN, fun H v u Q r1 r2 q => by
  cases r2
  refine ⟨rfl, ?_⟩
  rw [R.isN r1]
  exact q⟩
theorem cd_notN : CmpD X .IsNot da .non (!da.isN) := ⟨_, op_notN, fun H v u Q r1 r2 q => by
  cases r2
  refine ⟨rfl, ?_⟩
  rw [R.isN r1]
  exact q⟩
theorem cd_isB {x y : Bool} : CmpD X .Is (.bl x) (.bl y) (decide (x = y)) := ⟨_, op_is_bl, fun H v u Q r1 r2 q => by cases r1; cases r2; exact ⟨x, y, rfl, rfl, q⟩⟩
theorem cd_notB {x y : Bool} : CmpD X .IsNot (.bl x) (.bl y) (!decide (x = y)) := ⟨_, op_isnot_bl, fun H v u Q r1 r2 q => by cases r1; cases r2; exact ⟨x, y, rfl, rfl, q⟩⟩
theorem inV_int {i : Int} {ns : List Int} : inV (.int i) (ns.map V.int) = decide (i ∈ ns) := by
  unfold inV
  rw [Bool.eq_iff_iff, List.any_eq_true, decide_eq_true_eq]
  constructor
  · rintro ⟨y, hy, h⟩
    obtain ⟨n, hn, rfl⟩ := List.mem_map.mp hy
    have e : n = i := by simpa [eqV] using h
    exact e ▸ hn
  · intro h
    exact ⟨.int i, List.mem_map.mpr ⟨i, h, rfl⟩, by simp [eqV]⟩
theorem flat_ints (ns : List Int) : (ns.map V.int).all flatV = true := by
  rw [List.all_eq_true]
  intro x hx
  obtain ⟨n, _, rfl⟩ := List.mem_map.mp hx
  rfl
theorem cd_inI {i : Int} {ns : List Int} (h : db.seq = some (ns.map D.int)) : CmpD X .In (.int i) db (decide (i ∈ ns)) := ⟨_, op_in_seq, fun H v u Q r1 r2 q => by
  cases r1
  obtain ⟨p, vs, rfl, hs, ra⟩ := R.seq r2 h
  cases ra_ints ra
  refine ⟨p, _, rfl, hs, rfl, flat_ints ns, ?_⟩
  show Q (.bl (inV (.int i) (ns.map V.int))) H
  rw [inV_int]
  exact q⟩
theorem cd_notInI {i : Int} {ns : List Int} (h : db.seq = some (ns.map D.int)) : CmpD X .NotIn (.int i) db (!decide (i ∈ ns)) := ⟨_, op_notIn_seq, fun H v u Q r1 r2 q => by
  cases r1
  obtain ⟨p, vs, rfl, hs, ra⟩ := R.seq r2 h
  cases ra_ints ra
  refine ⟨p, _, rfl, hs, rfl, flat_ints ns, ?_⟩
  show Q (.bl (!inV (.int i) (ns.map V.int))) H
  rw [inV_int]
  exact q⟩
/-- i <= j <= n -/
theorem pd_chainII {op op' : CmpOp} {g g' : Int → Int → Bool} {i j n : Int} (o : OpR X (compareOp op) (rI0 fun i j => .bl (g i j))) (o' : OpR X (compareOp op') (rI0 fun i j => .bl (g' i j))) (ha : PD X T ρ a (.v (.int i))) (hb : PD X T ρ b (.v (.int j))) (hc : PD X T ρ c (.v (.int n))) (hm : lastMarks [op, op'] [b, c] = false := by with_unfolding_all rfl) : PD X T ρ (.Compare a [op, op'] [b, c] pos) (.v (.bl (g i j && g' j n))) := by
  refine PE.imp (pe_chain o o' ha hb hc hm) fun σ H Q ⟨B0, H0, B, S, q⟩ => ?_
  refine ⟨B0, H0, B, S, fun v B1 H1 f1 q1 => ⟨B0, H0, B1, S.fwd f1, fun u B2 H2 f2 q2 => ?_⟩⟩
  cases q1
  cases q2
  refine ⟨i, j, rfl, rfl, _, rfl, ?_⟩
  cases e : g i j with
  | true =>
    refine iteT ⟨B0, H0, B2, S.fwd (f1.trans f2), fun w B3 H3 f3 q3 => ?_⟩
    cases q3
    exact ⟨j, n, rfl, rfl, q _ _ _ ((f1.trans f2).trans f3) (by rw [e]; exact .bl _)⟩
  | false => exact iteF (q _ _ _ (f1.trans f2) (by rw [e]; exact .bl _))

/-! ### truth -/
theorem pe_no : PE X e (fun _ _ _ => False) := ⟨fun _ _ _ _ _ _ h => h.elim⟩
theorem pt_no : PT X e (fun _ _ _ => False) := ⟨fun _ _ _ _ _ _ h => h.elim⟩
theorem pw_no : PW X e (fun _ _ _ => False) := ⟨fun _ _ _ _ _ _ _ h => h.elim⟩
theorem pss_no {st : List Stmt} : PSs X st (fun _ _ _ => False) := ⟨fun _ _ _ _ _ _ h => h.elim⟩
/-- a bool as a test -/
theorem pb_val (h : PD X T ρ e (.v (.bl k))) (he : ∀ whole, isTrue e X.env whole = (do let v ← whole; standAt e.pos; holding [v] (truthy v)) := by intro _; rfl) : PB X T ρ e k :=
  PT.imp (pt_val h he) fun σ H Q ⟨B0, H0, B, S, q⟩ => ⟨B0, H0, B, S, fun v B1 H1 f1 q1 => by cases q1; exact ⟨k, rfl, q _ _ f1⟩⟩
theorem pb_not (h : PB X T ρ e k) : PB X T ρ (.UnaryOp .Not e pos) (!k) :=
  PT.imp (pt_not h) fun σ H Q ⟨B0, H0, B, S, q⟩ => ⟨B0, H0, B, S, fun B1 H1 f1 => q _ _ f1⟩
abbrev PWb (X : Cx) (T : List Addr) (ρ : Rho) (e : Expr) (b : Bool) : Prop := PW X e (tT X.K T ρ b)
theorem PW.imp {X : Cx} {e : Expr} {t t' : TT} (h : PW X e t) (w : ∀ σ H Q, t' σ H Q → t σ H Q) : PW X e t' := ⟨fun wh pins s σ H Q I q => h.run wh pins s σ H Q I (w _ _ _ q)⟩
theorem pwb_and1 (h : PB X T ρ a k) : PWb X T ρ (.BoolOp .And [a] pos) k := pw_and1 h
theorem pwb_or1 (h : PB X T ρ a k) : PWb X T ρ (.BoolOp .Or [a] pos) k := pw_or1 h
theorem pwb_and {rest : List Expr} (h : PB X T ρ a k) (h2 : k = true → PWb X T ρ (.BoolOp .And (b :: rest) pos) k') : PWb X T ρ (.BoolOp .And (a :: b :: rest) pos) (k && k') := by
  cases k with
  | true => exact PW.imp (pw_and h (h2 rfl)) fun σ H Q ⟨B0, H0, B, S, q⟩ => ⟨B0, H0, B, S, fun B1 H1 f1 => iteT ⟨B0, H0, B1, S.fwd f1, fun B2 H2 f2 => q _ _ (f1.trans f2)⟩⟩
  | false => exact PW.imp (pw_and h pw_no) fun σ H Q ⟨B0, H0, B, S, q⟩ => ⟨B0, H0, B, S, fun B1 H1 f1 => iteF (q _ _ f1)⟩
theorem pwb_or {rest : List Expr} (h : PB X T ρ a k) (h2 : k = false → PWb X T ρ (.BoolOp .Or (b :: rest) pos) k') : PWb X T ρ (.BoolOp .Or (a :: b :: rest) pos) (k || k') := by
  cases k with
  | false => exact PW.imp (pw_or h (h2 rfl)) fun σ H Q ⟨B0, H0, B, S, q⟩ => ⟨B0, H0, B, S, fun B1 H1 f1 => iteF ⟨B0, H0, B1, S.fwd f1, fun B2 H2 f2 => q _ _ (f1.trans f2)⟩⟩
  | true => exact PW.imp (pw_or h pw_no) fun σ H Q ⟨B0, H0, B, S, q⟩ => ⟨B0, H0, B, S, fun B1 H1 f1 => iteT (q _ _ f1)⟩
theorem pb_bool {op : BoolOp} {l : List Expr} (h : PWb X T ρ (.BoolOp op l pos) k) : PB X T ρ (.BoolOp op l pos) k := PW.pt h
/-- a and b, a or b, not a, as values -/
theorem pd_and1 {op : BoolOp} (h : PD X T ρ a r) : PD X T ρ (.BoolOp op [a] pos) r := pe_one h
theorem pd_and {rest : List Expr} (h : PD X T ρ a (.v (.bl k))) (h2 : k = true → PD X T ρ (.BoolOp .And (b :: rest) pos) (.v (.bl k'))) : PD X T ρ (.BoolOp .And (a :: b :: rest) pos) (.v (.bl (k && k'))) := by
  cases k with
  | true => exact PE.imp (pe_and h (h2 rfl)) fun σ H Q ⟨B0, H0, B, S, q⟩ => ⟨B0, H0, B, S, fun v B1 H1 f1 q1 => by cases q1; exact ⟨true, rfl, iteT ⟨B0, H0, B1, S.fwd f1, fun u B2 H2 f2 q2 => q _ _ _ (f1.trans f2) q2⟩⟩⟩
  | false => exact PE.imp (pe_and h pe_no) fun σ H Q ⟨B0, H0, B, S, q⟩ => ⟨B0, H0, B, S, fun v B1 H1 f1 q1 => by cases q1; exact ⟨false, rfl, iteF (q _ _ _ f1 (.bl false))⟩⟩
theorem pd_or {rest : List Expr} (h : PD X T ρ a (.v (.bl k))) (h2 : k = false → PD X T ρ (.BoolOp .Or (b :: rest) pos) (.v (.bl k'))) : PD X T ρ (.BoolOp .Or (a :: b :: rest) pos) (.v (.bl (k || k'))) := by
  cases k with
  | false => exact PE.imp (pe_or h (h2 rfl)) fun σ H Q ⟨B0, H0, B, S, q⟩ => ⟨B0, H0, B, S, fun v B1 H1 f1 q1 => by cases q1; exact ⟨false, rfl, iteF ⟨B0, H0, B1, S.fwd f1, fun u B2 H2 f2 q2 => q _ _ _ (f1.trans f2) q2⟩⟩⟩
  | true => exact PE.imp (pe_or h pe_no) fun σ H Q ⟨B0, H0, B, S, q⟩ => ⟨B0, H0, B, S, fun v B1 H1 f1 q1 => by cases q1; exact ⟨true, rfl, iteT (q _ _ _ f1 (.bl true))⟩⟩
theorem pd_not (h : PD X T ρ e (.v (.bl k))) : PD X T ρ (.UnaryOp .Not e pos) (.v (.bl (!k))) :=
  PE.imp (pe_not h) fun σ H Q ⟨B0, H0, B, S, q⟩ => ⟨B0, H0, B, S, fun v B1 H1 f1 q1 => by cases q1; exact ⟨k, rfl, q _ _ _ f1 (.bl _)⟩⟩
theorem pd_if {k : Bool} {r1 r2 : Sl} (h : PB X T ρ c k) (h1 : k = true → PD X T ρ a r1) (h2 : k = false → PD X T ρ b r2) : PD X T ρ (.IfExp c a b pos) (if k then r1 else r2) := by
  cases k with
  | true => exact PE.imp (pe_ifExp h (h1 rfl) pe_no) fun σ H Q ⟨B0, H0, B, S, q⟩ => ⟨B0, H0, B, S, fun B1 H1 f1 => iteT ⟨B0, H0, B1, S.fwd f1, fun v B2 H2 f2 q2 => q _ _ _ (f1.trans f2) (RS.old f1.ex q2)⟩⟩
  | false => exact PE.imp (pe_ifExp h pe_no (h2 rfl)) fun σ H Q ⟨B0, H0, B, S, q⟩ => ⟨B0, H0, B, S, fun B1 H1 f1 => iteF ⟨B0, H0, B1, S.fwd f1, fun v B2 H2 f2 q2 => q _ _ _ (f1.trans f2) (RS.old f1.ex q2)⟩⟩

/-! ### arguments, displays -/
theorem pas_nil : PAs X T ρ [] [] := PA.imp pa_nil fun σ H Q ⟨B0, H0, B, S, q⟩ => q _ _ _ (Fwd.refl S.bh) .nil
theorem pas_cons {ds : List D} (h : PD X T ρ e (.v d)) (h2 : PAs X T ρ es ds) (hs : starEach (e :: es) X.env = (false, eval e X.env) :: starEach es X.env := by rfl) : PAs X T ρ (e :: es) (d :: ds) :=
  PA.imp (pa_cons h h2 hs) fun σ H Q ⟨B0, H0, B, S, q⟩ => ⟨B0, H0, B, S, fun v B1 H1 f1 q1 => ⟨B0, H0, B1, S.fwd f1, fun vs B2 H2 f2 q2 => q _ _ _ (f1.trans f2) (.cons (R.mono f2.eb q1) q2)⟩⟩
theorem pat_nil : PAt X T ρ [] [] := PA.imp pa_nil fun σ H Q ⟨B0, H0, B, S, q⟩ => q _ _ _ (Fwd.refl S.bh) .nil
theorem pat_cons {ds : List D} (h : PD X T ρ e (.tmp d)) (h2 : PAt X T ρ es ds) (hs : starEach (e :: es) X.env = (false, eval e X.env) :: starEach es X.env := by rfl) : PAt X T ρ (e :: es) (d :: ds) :=
  PA.imp (pa_cons h h2 hs) fun σ H Q ⟨B0, H0, B, S, q⟩ => ⟨B0, H0, B, S, fun v B1 H1 f1 q1 => ⟨B0, H0, B1, S.fwd f1, fun vs B2 H2 f2 q2 => q _ _ _ (f1.trans f2) (.cons (R.mono f2.ex q1) q2)⟩⟩
theorem line_of {n : Nat} (h : n ≤ 100000) : n ≤ sizeLine := Nat.le_trans h (by decide)
theorem pd_tup {ds : List D} {m : Nat} (h : PAs X T ρ es ds) (hl : ds.length ≤ 100000 := by first | decide | simp) : PD X T ρ (.Tuple es m pos) (.v (.tup ds)) :=
  PE.imp (pe_tup h) fun σ H Q ⟨B0, H0, B, S, q⟩ => ⟨B0, H0, B, S, fun vs B1 H1 f1 q1 => ⟨by rw [q1.length]; exact line_of hl, fun p hp =>
    q _ _ _ (f1.trans (Fwd.new f1.e2 hp)) (.tup (SqT.of upd_same) (q1.mono (Same.new (f1.e2.free hp))))⟩⟩
theorem pd_lst {ds : List D} (h : PAs X T ρ es ds) (hl : ds.length ≤ 100000 := by first | decide | simp) : PD X T ρ (.List es pos) (.own ds) :=
  PE.imp (pe_lst h) fun σ H Q ⟨B0, H0, B, S, q⟩ => ⟨B0, H0, B, S, fun vs B1 H1 f1 q1 => ⟨by rw [q1.length]; exact line_of hl, fun p hp =>
    q _ _ _ (f1.trans (Fwd.side f1.e2 hp)) ⟨p, vs, rfl, upd_same, f1.ex.free hp, f1.e2.free hp, q1⟩⟩⟩

/-! ### subscripts -/
theorem ixN_at {α β : Type} {xs : List α} {ys : List β} {i : Int} {y : β} (hl : xs.length = ys.length) (h : atI ys i = some y) : ∃ j, ixN xs.length i = some j ∧ ys[j]? = some y := by
  unfold atI at h
  obtain ⟨j, hj, h⟩ := Option.bind_eq_some_iff.mp h
  exact ⟨j, by rw [hl]; exact hj, h⟩
theorem RA.at {K : PySem.W.Frag} {H : Hp} {vs : List V} {ds : List D} {i : Int} (ra : RA K H vs ds) (h : atI ds i = some d) : ∃ v, atI vs i = some v ∧ R K H v d := by
  obtain ⟨j, hj, h2⟩ := ixN_at (xs := vs) ra.length h
  obtain ⟨v, h3, h4⟩ := ra.get h2
  exact ⟨v, by unfold atI; rw [hj]; exact h3, h4⟩
theorem pd_ix {ds : List D} {i : Int} (ha : PD X T ρ a (.v da)) (hb : PD X T ρ b (.v (.int i))) (hd : da.seq = some ds) (h : atI ds i = some d) (hs : PlainIx b := by exact fun _ _ => rfl) : PD X T ρ (.Subscript a b pos) (.v d) :=
  PE.imp (pe_ix ix_seq ha hb hs) fun σ H Q ⟨B0, H0, B, S, q⟩ => ⟨B0, H0, B, S, fun v B1 H1 f1 q1 => ⟨B0, H0, B1, S.fwd f1, fun u B2 H2 f2 q2 => by
    cases q2
    obtain ⟨p, vs, rfl, hsq, ra⟩ := R.seq (R.mono f2.eb q1) hd
    obtain ⟨w, hw, rw'⟩ := RA.at ra h
    have fin := q w B2 H2 (f1.trans f2) rw'
    rcases hsq with hsq | hsq
    · exact .inl ⟨p, vs, i, w, rfl, rfl, f2.e2.seq hsq, hw, fin⟩
    · exact .inr (.inl ⟨p, vs, i, w, rfl, rfl, sqt_mono f2.e2 hsq, hw, fin⟩)⟩⟩
/-- an item of a list of one's own -/
theorem pd_ixO {ds : List D} {i : Int} {j : Nat} {x : Str} {px : Pos} (hr : ρ[j]? = some (.own ds)) (hb : PD X T ρ b (.v (.int i))) (h : atI ds i = some d) (hN : X.N[j]? = some x := by rfl) (hv : Vis X.env.scope x := by first | exact Or.inl rfl | exact Or.inr (Or.inl rfl) | exact Or.inr (Or.inr rfl))
    (hdb : (x == ("__debug__" : Str)) = false := by decide) (hcd : (x == ("__classdict__" : Str)) = false := by decide) (hs : PlainIx b := by exact fun _ _ => rfl) : PD X T ρ (.Subscript (.Name x px) b pos) (.v d) :=
  PE.imp (pe_ix ix_list (pe_var hN hv hdb hcd) hb hs) fun σ H Q ⟨B0, H0, B, S, q⟩ => by
    obtain ⟨p, vs, e, hp, _, _, ra⟩ := S.own j ds hr
    refine ⟨_, e, B0, H0, B, S, fun u B2 H2 f2 q2 => ?_⟩
    cases q2
    obtain ⟨w, hw, rw'⟩ := RA.at (ra.mono f2.eb) h
    exact ⟨p, vs, i, w, rfl, rfl, SqL.of (f2.ex _ _ hp), hw, q w B2 H2 f2 rw'⟩
/-- the parts of a slice -/
def tOd (K : PySem.W.Frag) (T : List Addr) (ρ : Rho) (o : Option Int) : TO := fun σ H Q => ∃ B0 H0 B, SD K T B0 H0 B H σ ρ ∧ ∀ B2 H2, Fwd B H B2 H2 → Q o H2
abbrev PPt (X : Cx) (T : List Addr) (ρ : Rho) (e : Option Expr) (o : Option Int) : Prop := PO X e (tOd X.K T ρ o)
theorem PO.imp {X : Cx} {e : Option Expr} {t t' : TO} (h : PO X e t) (w : ∀ σ H Q, t' σ H Q → t σ H Q) : PO X e t' := ⟨fun pins s σ H Q I q => h.run pins s σ H Q I (w _ _ _ q)⟩
theorem pp_none : PPt X T ρ none none := PO.imp po_none fun σ H Q ⟨B0, H0, B, S, q⟩ => q _ _ (Fwd.refl S.bh)
theorem pp_some {i : Int} (h : PD X T ρ e (.v (.int i))) : PPt X T ρ (some e) (some i) := PO.imp (po_some h) fun σ H Q ⟨B0, H0, B, S, q⟩ => ⟨B0, H0, B, S, fun v B1 H1 f1 q1 => by cases q1; exact ⟨i, rfl, q _ _ f1⟩⟩
def cutA {α : Type} (xs : List α) (lo hi : Option Int) : List α := (xs.drop (HT.sIx xs.length 0 lo)).take (HT.sIx xs.length xs.length hi - HT.sIx xs.length 0 lo)
theorem RA.cut {K : PySem.W.Frag} {H : Hp} {vs : List V} {ds : List D} (lo hi : Option Int) (ra : RA K H vs ds) : RA K H (cutV vs lo hi) (cutA ds lo hi) := by
  unfold cutV cutA
  rw [ra.length]
  exact (ra.drop _).take _
theorem cut_all {α : Type} {xs : List α} {lo hi : Option Int} (h : HT.sIx xs.length 0 lo = 0 ∧ HT.sIx xs.length xs.length hi = xs.length) : cutA xs lo hi = xs := by
  unfold cutA
  rw [h.1, h.2, List.drop_zero, Nat.sub_zero, List.take_length]
theorem pd_slT {lo hi : Option Expr} {l h : Option Int} {ds : List D} {p2 : Pos} (ha : PD X T ρ a (.v (.tup ds))) (h1 : PPt X T ρ lo l) (h2 : PPt X T ρ hi h) : PD X T ρ (.Subscript a (.Slice lo hi none p2) pos) (.v (.tup (cutA ds l h))) :=
  PE.imp (pe_slice sl_tupA ha h1 h2) fun σ H Q ⟨B0, H0, B, S, q⟩ => ⟨B0, H0, B, S, fun v B1 H1 f1 q1 => ⟨B0, H0, B1, S.fwd f1, fun B2 H2 f2 => ⟨B0, H0, B2, S.fwd (f1.trans f2), fun B3 H3 f3 => by
    cases q1 with
    | tup hs ra =>
      have f := (f1.trans f2).trans f3
      have ra3 := ra.mono (f2.eb.trans f3.eb)
      have hs3 := sqt_mono (f2.eb.trans f3.eb) hs
      refine ⟨_, _, rfl, sqt_mono f3.e2 hs3, fun hw => ?_, fun _ p hp => ?_⟩
      · rw [ra.length] at hw
        rw [cut_all hw] at q
        exact q _ _ _ f (.tup hs3 ra3)
      · exact q _ _ _ (f.trans (Fwd.new f.e2 hp)) (.tup (SqT.of upd_same) ((ra3.cut l h).mono (Same.new (f.e2.free hp))))⟩⟩⟩
theorem pd_slL {lo hi : Option Expr} {l h : Option Int} {ds : List D} {p2 : Pos} (ha : PD X T ρ a (.v (.lst ds))) (h1 : PPt X T ρ lo l) (h2 : PPt X T ρ hi h) : PD X T ρ (.Subscript a (.Slice lo hi none p2) pos) (.own (cutA ds l h)) :=
  PE.imp (pe_slice sl_list ha h1 h2) fun σ H Q ⟨B0, H0, B, S, q⟩ => ⟨B0, H0, B, S, fun v B1 H1 f1 q1 => ⟨B0, H0, B1, S.fwd f1, fun B2 H2 f2 => ⟨B0, H0, B2, S.fwd (f1.trans f2), fun B3 H3 f3 => by
    cases q1 with
    | lst hs ra =>
      have f := (f1.trans f2).trans f3
      have ra3 := ra.mono (f2.eb.trans f3.eb)
      refine ⟨_, _, rfl, .inl (rd_mono ((f2.eb.trans f3.eb).trans f3.e2) hs), fun p hp => ?_⟩
      exact q _ _ _ (f.trans (Fwd.side f.e2 hp)) ⟨p, _, rfl, upd_same, f.ex.free hp, f.e2.free hp, ra3.cut l h⟩⟩⟩⟩

/-! ### tuples and lists joined -/
theorem bd_catT {xs ys : List D} (h : xs.length + ys.length ≤ 100000) : BinD X .Add (.tup xs) (.tup ys) (.v (.tup (xs ++ ys))) := ⟨_, op_catA, fun B H v u Q s r1 r2 q => by
  cases r1 with
  | tup h1 a1 =>
    cases r2 with
    | tup h2 a2 =>
      refine ⟨_, _, _, _, rfl, rfl, sqt_mono s h1, sqt_mono s h2, line_of (by rw [a1.length, a2.length]; exact h), fun e => ?_, fun _ e => ?_, fun _ _ p hp => ?_⟩
      · subst e
        cases a1
        exact q _ _ _ (Fwd.refl s) (.tup h2 a2)
      · subst e
        cases a2
        rw [List.append_nil] at q
        exact q _ _ _ (Fwd.refl s) (.tup h1 a1)
      · exact q _ _ _ (Fwd.new s hp) (.tup (SqT.of upd_same) ((a1.app a2).mono (Same.new (s.free hp))))⟩
end
end DX
/-! # Statements, defs and their calls -/
namespace DX
open PySem PySem.Spec PyProof.Rows L2

/-! ### the state behind a store -/
section
variable {K : PySem.W.Frag} {T : List Addr} {B0 H0 B H : Hp} {σ : L2.St} {ρ : Rho}
theorem SD.set {v : V} {d : D} {i : Nat} (S : SD K T B0 H0 B H σ ρ) (r : R K B v d) : SD K T B0 H0 B H (σ.set i (some v)) (ρ.set i (.v d)) := by
  refine ⟨S.fw, S.am, fun j e h => ?_, fun j es h => ?_, fun j l p es fs h1 h2 h3 h4 => ?_, by rw [List.length_set, List.length_set, S.len], S.dic.set⟩
  · by_cases hj : i = j
    · subst hj
      rw [List.getElem?_set] at h
      simp only [if_true] at h
      split at h
      · rename_i hl
        cases h
        exact ⟨v, List.getElem?_set_self (by rw [← S.len]; exact hl), r⟩
      · cases h
    · rw [List.getElem?_set_ne hj] at h
      obtain ⟨u, e1, r1⟩ := S.val j e h
      exact ⟨u, by rw [List.getElem?_set_ne hj]; exact e1, r1⟩
  · by_cases hj : i = j
    · subst hj
      rw [List.getElem?_set] at h
      simp only [if_true] at h
      split at h <;> cases h
    · rw [List.getElem?_set_ne hj] at h
      obtain ⟨p, vs, e1, q⟩ := S.own j es h
      exact ⟨p, vs, by rw [List.getElem?_set_ne hj]; exact e1, q⟩
  · have n : ∀ {m : Nat} {gs : List D}, (ρ.set i (Sl.v d))[m]? = some (Sl.own gs) → i ≠ m ∧ ρ[m]? = some (Sl.own gs) := fun {m gs} h => by
      by_cases hj : i = m
      · subst hj
        rw [List.getElem?_set] at h
        simp only [if_true] at h
        split at h <;> cases h
      · rw [List.getElem?_set_ne hj] at h
        exact ⟨hj, h⟩
    obtain ⟨a1, b1⟩ := n h1
    obtain ⟨a2, b2⟩ := n h2
    rw [List.getElem?_set_ne a1] at h3
    rw [List.getElem?_set_ne a2] at h4
    exact S.sep j l p es fs b1 b2 h3 h4
/-- a slot gets a list of one's own, which no other slot holds -/
theorem SD.setO {p : Addr} {vs : List V} {ds : List D} {i : Nat} (S : SD K T B0 H0 B H σ ρ) (hp : H p = some (.lst vs)) (h0 : H0 p = none) (hb : B p = none) (ra : RA K B vs ds)
    (hn : ∀ j es, i ≠ j → ρ[j]? = some (Sl.own es) → σ[j]? ≠ some (some (V.ref p))) : SD K T B0 H0 B H (σ.set i (some (V.ref p))) (ρ.set i (.own ds)) := by
  have self : ∀ {es : List D}, (ρ.set i (Sl.own ds))[i]? = some (Sl.own es) → i < ρ.length ∧ es = ds := fun {es} h => by
    rw [List.getElem?_set] at h
    simp only [if_true] at h
    split at h
    · rename_i hl
      cases h
      exact ⟨hl, rfl⟩
    · cases h
  refine ⟨S.fw, S.am, fun j e h => ?_, fun j es h => ?_, fun j l q es fs h1 h2 h3 h4 => ?_, by rw [List.length_set, List.length_set, S.len], S.dic.set⟩
  · by_cases hj : i = j
    · subst hj
      rw [List.getElem?_set] at h
      simp only [if_true] at h
      split at h <;> cases h
    · rw [List.getElem?_set_ne hj] at h
      obtain ⟨u, e1, r1⟩ := S.val j e h
      exact ⟨u, by rw [List.getElem?_set_ne hj]; exact e1, r1⟩
  · by_cases hj : i = j
    · subst hj
      obtain ⟨hl, rfl⟩ := self h
      exact ⟨p, vs, List.getElem?_set_self (by rw [← S.len]; exact hl), hp, h0, hb, ra⟩
    · rw [List.getElem?_set_ne hj] at h
      obtain ⟨q, ws, e1, z⟩ := S.own j es h
      exact ⟨q, ws, by rw [List.getElem?_set_ne hj]; exact e1, z⟩
  · by_cases hj : i = j
    · subst hj
      by_cases hl : i = l
      · exact hl
      · obtain ⟨hi, rfl⟩ := self h1
        rw [List.getElem?_set_self (by rw [← S.len]; exact hi)] at h3
        cases h3
        rw [List.getElem?_set_ne hl] at h2 h4
        exact absurd h4 (hn l fs hl h2)
    · rw [List.getElem?_set_ne hj] at h1 h3
      by_cases hl : i = l
      · subst hl
        obtain ⟨hi, rfl⟩ := self h2
        rw [List.getElem?_set_self (by rw [← S.len]; exact hi)] at h4
        cases h4
        exact absurd h3 (hn j es hj h1)
      · rw [List.getElem?_set_ne hl] at h2 h4
        exact S.sep j l q es fs h1 h2 h3 h4
/-- a list of one's own is changed -/
theorem SD.mut {p : Addr} {vs ws : List V} {ds es : List D} {i : Nat} (S : SD K T B0 H0 B H σ ρ) (hr : ρ[i]? = some (.own ds)) (hs : σ[i]? = some (some (V.ref p))) (ra : RA K B ws es) : SD K T B0 H0 B (upd H p (.lst ws)) σ (ρ.set i (.own es)) := by
  obtain ⟨q, vs', e1, hp, h0, hb, _⟩ := S.own i ds hr
  rw [hs] at e1
  cases e1
  have ilt : i < ρ.length := (List.getElem?_eq_some_iff.mp hr).1
  have up : ∀ {a : Addr} {o : HO}, a ≠ p → H a = some o → upd H p (.lst ws) a = some o := fun h e => by rw [upd_ne h]; exact e
  refine ⟨⟨fun a o e => up (ne_of_none e h0) (S.fw.ex _ _ e), S.fw.eb, fun a o e => up (ne_of_none e hb) (S.fw.e2 _ _ e), S.fw.fr⟩, fun t ht => up (fun z => ?_) (S.am t ht), fun j e h => ?_, fun j fs h => ?_, fun j l q es' fs h1 h2 h3 h4 => ?_, by rw [List.length_set, S.len], (S.dic.upd hp).slot⟩
  · have y := S.am t ht
    rw [z, hp] at y
    have y' : HO.lst vs' = HO.ext _ := Option.some.inj y
    cases y'
  · by_cases hj : i = j
    · subst hj
      rw [List.getElem?_set_self ilt] at h
      cases h
    · rw [List.getElem?_set_ne hj] at h
      exact S.val j e h
  · by_cases hj : i = j
    · subst hj
      rw [List.getElem?_set_self ilt] at h
      cases h
      exact ⟨p, ws, hs, upd_same, h0, hb, ra⟩
    · rw [List.getElem?_set_ne hj] at h
      obtain ⟨q, us, e1, z1, z2, z3, z4⟩ := S.own j fs h
      have n : q ≠ p := fun e => hj (S.sep i j p ds fs hr h hs (by rw [← e]; exact e1))
      exact ⟨q, us, e1, up n z1, z2, z3, z4⟩
  · have back : ∀ {m : Nat} {gs : List D}, (ρ.set i (Sl.own es))[m]? = some (Sl.own gs) → ∃ hs, ρ[m]? = some (Sl.own hs) := fun {m gs} h => by
      by_cases hj : i = m
      · subst hj
        exact ⟨ds, hr⟩
      · rw [List.getElem?_set_ne hj] at h
        exact ⟨gs, h⟩
    obtain ⟨_, g1⟩ := back h1
    obtain ⟨_, g2⟩ := back h2
    exact S.sep j l q _ _ g1 g2 h3 h4
/-- a list of one's own is changed no more: it is data -/
theorem SD.frz {ds : List D} {i : Nat} (S : SD K T B0 H0 B H σ ρ) (hr : ρ[i]? = some (.own ds)) : ∃ B', Same B B' ∧ SD K T B0 H0 B' H σ (ρ.set i (.v (.lst ds))) := by
  obtain ⟨p, vs, hs, hp, h0, hb, ra⟩ := S.own i ds hr
  have ilt : i < ρ.length := (List.getElem?_eq_some_iff.mp hr).1
  have sb : Same B (upd B p (.lst vs)) := Same.new hb
  refine ⟨upd B p (.lst vs), sb, ⟨S.fw.ex, S.fw.eb.trans sb, fun a o e => ?_, fun a h1 h2 => ?_⟩, S.am, fun j e h => ?_, fun j fs h => ?_, fun j l q es fs h1 h2 h3 h4 => ?_, by rw [List.length_set, S.len], (S.dic.data hp hb).slot⟩
  · by_cases ha : a = p
    · rw [ha, upd_same] at e
      cases e
      rw [ha]
      exact hp
    · rw [upd_ne ha] at e
      exact S.fw.e2 _ _ e
  · have n : a ≠ p := fun z => h2 (by rw [z]; exact h0)
    rw [upd_ne n]
    exact S.fw.fr a h1 h2
  · by_cases hj : i = j
    · subst hj
      rw [List.getElem?_set_self ilt] at h
      cases h
      exact ⟨_, hs, .lst (.inl upd_same) (ra.mono sb)⟩
    · rw [List.getElem?_set_ne hj] at h
      obtain ⟨v, e1, r⟩ := S.val j e h
      exact ⟨v, e1, r.mono sb⟩
  · by_cases hj : i = j
    · subst hj
      rw [List.getElem?_set_self ilt] at h
      cases h
    · rw [List.getElem?_set_ne hj] at h
      obtain ⟨q, us, e1, z1, z2, z3, z4⟩ := S.own j fs h
      have n : q ≠ p := fun e => hj (S.sep i j p ds fs hr h hs (by rw [← e]; exact e1))
      exact ⟨q, us, e1, z1, z2, by rw [upd_ne n]; exact z3, z4.mono sb⟩
  · have back : ∀ {m : Nat} {gs : List D}, (ρ.set i (Sl.v (.lst ds)))[m]? = some (Sl.own gs) → ρ[m]? = some (Sl.own gs) := fun {m gs} h => by
      by_cases hj : i = m
      · subst hj
        rw [List.getElem?_set_self ilt] at h
        cases h
      · rw [List.getElem?_set_ne hj] at h
        exact h
    exact S.sep j l q es fs (back h1) (back h2) h3 h4
/-- slots forgotten -/
theorem SD.less {ρ' : Rho} (S : SD K T B0 H0 B H σ ρ) (hl : ρ'.length = ρ.length) (h : ∀ (i : Nat) (s : Sl), ρ'[i]? = some s → s = .no ∨ ρ[i]? = some s) : SD K T B0 H0 B H σ ρ' :=
  ⟨S.fw, S.am, fun i d e => (h i _ e).elim (fun z => nomatch z) (S.val i d), fun i ds e => (h i _ e).elim (fun z => nomatch z) (S.own i ds),
    fun i j p ds es h1 h2 => (h i _ h1).elim (fun z => nomatch z) fun g1 => (h j _ h2).elim (fun z => nomatch z) fun g2 => S.sep i j p ds es g1 g2, hl.trans S.len, S.dic.less fun i kvs e => (h i _ e).elim (fun z => nomatch z) id⟩
end

/-! ### statements -/
structure Post where
  nx : Rho → Prop
  rt : Sl → Prop
  bk : Rho → Prop := fun _ => False
  ct : Rho → Prop := fun _ => False
def tS (K : PySem.W.Frag) (T : List Addr) (B0 H0 : Hp) (ρ : Rho) (P : Post) : TS := fun Z σ H => ∃ B, SD K T B0 H0 B H σ ρ ∧
  (∀ ρ' σ' B' H', P.nx ρ' → Same B B' → SD K T B0 H0 B' H' σ' ρ' → Z.nx σ' H') ∧
  (∀ r v B' H', P.rt r → Fwd B0 H0 B' H' → Amb T H' → RS K H0 B' H' v r → Z.rt v H') ∧
  (∀ ρ' σ' B' H', P.bk ρ' → Same B B' → SD K T B0 H0 B' H' σ' ρ' → Z.bk σ' H') ∧
  (∀ ρ' σ' B' H', P.ct ρ' → Same B B' → SD K T B0 H0 B' H' σ' ρ' → Z.ct σ' H')
abbrev PX (X : Cx) (T : List Addr) (B0 H0 : Hp) (ρ : Rho) (s : Stmt) (P : Post) : Prop := PS X s (tS X.K T B0 H0 ρ P)
abbrev PXs (X : Cx) (T : List Addr) (B0 H0 : Hp) (ρ : Rho) (s : List Stmt) (P : Post) : Prop := PSs X s (tS X.K T B0 H0 ρ P)
section
variable {X : Cx} {T : List Addr} {B0 H0 : Hp} {ρ ρ1 : Rho} {e a b c : Expr} {es : List Expr} {pos : Pos} {d : D} {r : Sl} {k : Bool} {st : Stmt} {rest : List Stmt} {P : Post}
theorem px_nil (h : P.nx ρ) : PXs X T B0 H0 ρ [] P := PSs.imp pss_nil fun Z σ H ⟨B, S, n, _⟩ => n _ _ _ _ h (Same.refl _) S
theorem pss_any {N : Rho → Prop} {f : Rho → TS} {sts : List Stmt} (h : ∀ ρ, N ρ → PSs X sts (f ρ)) : PSs X sts (fun Z σ H => ∃ ρ, N ρ ∧ f ρ Z σ H) := ⟨fun pins s σ H Z I ⟨ρ, n, q⟩ => (h ρ n).run pins s σ H Z I q⟩
theorem px_cons {N : Rho → Prop} (h : PX X T B0 H0 ρ st { P with nx := N }) (h2 : ∀ ρ1, N ρ1 → PXs X T B0 H0 ρ1 rest P) : PXs X T B0 H0 ρ (st :: rest) P :=
  PSs.imp (pss_cons h (pss_any h2)) fun Z σ H ⟨B, S, n, q, q2, q3⟩ => ⟨B, S, fun ρ1 σ1 B1 H1 hN e1 S1 => ⟨ρ1, hN, B1, S1, fun ρ2 σ2 B2 H2 h2 e2 S2 => n _ _ _ _ h2 (e1.trans e2) S2, q,
    fun ρ2 σ2 B2 H2 h2 e2 S2 => q2 _ _ _ _ h2 (e1.trans e2) S2, fun ρ2 σ2 B2 H2 h2 e2 S2 => q3 _ _ _ _ h2 (e1.trans e2) S2⟩, q, q2, q3⟩
theorem px_cons1 (h : PX X T B0 H0 ρ st { P with nx := fun z => z = ρ1 }) (h2 : PXs X T B0 H0 ρ1 rest P) : PXs X T B0 H0 ρ (st :: rest) P := px_cons h fun _ e => e ▸ h2
theorem px_one (h : PX X T B0 H0 ρ st P) : PXs X T B0 H0 ρ [st] P := pss_one h
/-- a statement that does not go on -/
theorem px_end (h : PX X T B0 H0 ρ st { P with nx := fun _ => False }) : PXs X T B0 H0 ρ (st :: rest) P := px_cons h fun _ z => z.elim
theorem px_weak {P' : Post} (h : PX X T B0 H0 ρ st P') (h1 : ∀ z, P'.nx z → P.nx z) (h2 : ∀ z, P'.rt z → P.rt z) (h3 : ∀ z, P'.bk z → P.bk z) (h4 : ∀ z, P'.ct z → P.ct z) : PX X T B0 H0 ρ st P :=
  PS.imp h fun Z σ H ⟨B, S, n, q, q2, q3⟩ => ⟨B, S, fun _ _ _ _ h => n _ _ _ _ (h1 _ h), fun _ _ _ _ h => q _ _ _ _ (h2 _ h), fun _ _ _ _ h => q2 _ _ _ _ (h3 _ h), fun _ _ _ _ h => q3 _ _ _ _ (h4 _ h)⟩
theorem px_frz {ds : List D} {i : Nat} {sts : List Stmt} (hr : ρ[i]? = some (.own ds)) (h : PXs X T B0 H0 (ρ.set i (.v (.lst ds))) sts P) : PXs X T B0 H0 ρ sts P :=
  PSs.imp h fun Z σ H ⟨B, S, n, q, q2, q3⟩ => let ⟨B', e, S'⟩ := S.frz hr; ⟨B', S', fun _ _ _ _ h e2 => n _ _ _ _ h (e.trans e2), q, fun _ _ _ _ h e2 => q2 _ _ _ _ h (e.trans e2), fun _ _ _ _ h e2 => q3 _ _ _ _ h (e.trans e2)⟩
theorem px_less {ρ' : Rho} {sts : List Stmt} (hl : ρ'.length = ρ.length) (hs : ∀ (i : Nat) (s : Sl), ρ'[i]? = some s → s = .no ∨ ρ[i]? = some s) (h : PXs X T B0 H0 ρ' sts P) : PXs X T B0 H0 ρ sts P :=
  PSs.imp h fun Z σ H ⟨B, S, q⟩ => ⟨B, S.less hl hs, q⟩
/-- e's value returned -/
theorem px_ret (h : PD X T ρ e r) (hp : P.rt r) : PX X T B0 H0 ρ (.Return (some e) pos) P :=
  PS.imp (ps_ret h) fun Z σ H ⟨B, S, n, q, q2, q3⟩ => ⟨B0, H0, B, S, fun v B1 H1 f1 q1 => q r v B1 H1 hp (S.fw.trans f1) (S.am.mono f1.ex) (RS.old S.fw.ex q1)⟩
theorem px_retN (hp : P.rt (.v .non)) : PX X T B0 H0 ρ (.Return none pos) P := PS.imp ps_retN fun Z σ H ⟨B, S, n, q, q2, q3⟩ => q _ _ B H hp S.fw S.am .non
/-- a list of one's own returned -/
theorem px_retO {ds : List D} {i : Nat} {x : Str} {px : Pos} (hr : ρ[i]? = some (.own ds)) (hp : P.rt (.own ds)) (hN : X.N[i]? = some x := by rfl) (hv : Vis X.env.scope x := by first | exact Or.inl rfl | exact Or.inr (Or.inl rfl) | exact Or.inr (Or.inr rfl)) (hd : (x == ("__debug__" : Str)) = false := by decide)
    (hcd : (x == ("__classdict__" : Str)) = false := by decide) : PX X T B0 H0 ρ (.Return (some (.Name x px)) pos) P :=
  PS.imp (ps_ret (pe_var hN hv hd hcd)) fun Z σ H ⟨B, S, n, q, q2, q3⟩ => by
    obtain ⟨p, vs, e, z⟩ := S.own i ds hr
    exact ⟨_, e, q (.own ds) _ B H hp S.fw S.am ⟨p, vs, rfl, z⟩⟩
theorem px_expr (h : PD X T ρ e r) (hp : P.nx ρ) (hs : swapsWith e none pos.line X.env = pure false := by rfl) : PX X T B0 H0 ρ (.Expr e pos) P :=
  PS.imp (ps_expr h hs) fun Z σ H ⟨B, S, n, _⟩ => ⟨B0, H0, B, S, fun v B1 H1 f1 _ => n ρ σ B1 H1 hp f1.eb (S.fwd f1)⟩
theorem px_doc {x : Str} {j : Nat} {p : Pos} (hp : P.nx ρ) : PX X T B0 H0 ρ (.Expr (.Constant (.str x) j p) pos) P := PS.imp ps_doc fun Z σ H ⟨B, S, n, _⟩ => n ρ σ B H hp (Same.refl _) S
theorem px_pass (hp : P.nx ρ) : PX X T B0 H0 ρ (.Pass pos) P := PS.imp ps_pass fun Z σ H ⟨B, S, n, _⟩ => n ρ σ B H hp (Same.refl _) S
theorem px_continue (hp : P.ct ρ) : PX X T B0 H0 ρ (.Continue pos) P := PS.imp ps_continue fun Z σ H ⟨B, S, _, _, _, n⟩ => n ρ σ B H hp (Same.refl _) S
theorem px_break (hp : P.bk ρ) : PX X T B0 H0 ρ (.Break pos) P := PS.imp ps_break fun Z σ H ⟨B, S, _, _, n, _⟩ => n ρ σ B H hp (Same.refl _) S
theorem px_if {s1 s2 : List Stmt} (h : PB X T ρ c k) (h1 : k = true → PXs X T B0 H0 ρ s1 P) (h2 : k = false → PXs X T B0 H0 ρ s2 P) : PX X T B0 H0 ρ (.If c s1 s2 pos) P := by
  cases k with
  | true => exact PS.imp (ps_if h (h1 rfl) pss_no) fun Z σ H ⟨B, S, n, q, q2, q3⟩ => ⟨B0, H0, B, S, fun B1 H1 f => iteT ⟨B1, S.fwd f, fun _ _ _ _ h e => n _ _ _ _ h (f.eb.trans e), q, fun _ _ _ _ h e => q2 _ _ _ _ h (f.eb.trans e), fun _ _ _ _ h e => q3 _ _ _ _ h (f.eb.trans e)⟩⟩
  | false => exact PS.imp (ps_if h pss_no (h2 rfl)) fun Z σ H ⟨B, S, n, q, q2, q3⟩ => ⟨B0, H0, B, S, fun B1 H1 f => iteF ⟨B1, S.fwd f, fun _ _ _ _ h e => n _ _ _ _ h (f.eb.trans e), q, fun _ _ _ _ h e => q2 _ _ _ _ h (f.eb.trans e), fun _ _ _ _ h e => q3 _ _ _ _ h (f.eb.trans e)⟩⟩
/-- name = e -/
theorem px_set {i : Nat} {x : Str} {px : Pos} (h : PD X T ρ e (.v d)) (hp : P.nx (ρ.set i (.v d))) (hN : X.N.Nodup) (hi : X.N[i]? = some x := by rfl) (hx : Loc X.env.scope x := by first | exact Or.inl rfl | exact Or.inr rfl) (hs : swapsWith e (some (.Name x px)) pos.line X.env = pure false := by rfl)
    (hf : X.fn x = true ∨ X.env.scope.names.lookup x = some .local := by first | exact .inl rfl | exact .inr rfl) : PX X T B0 H0 ρ (.Assign [.Name x px] e pos) P :=
  PS.imp (ps_set (i := i) hN hi hx h hs hf) fun Z σ H ⟨B, S, n, _⟩ => ⟨B0, H0, B, S, fun v B1 H1 f1 q1 => n _ _ B1 H1 hp f1.eb ((S.fwd f1).set q1)⟩
theorem px_setO {ds : List D} {i : Nat} {x : Str} {px : Pos} (h : PD X T ρ e (.own ds)) (hp : P.nx (ρ.set i (.own ds))) (hN : X.N.Nodup) (hi : X.N[i]? = some x := by rfl) (hx : Loc X.env.scope x := by first | exact Or.inl rfl | exact Or.inr rfl) (hs : swapsWith e (some (.Name x px)) pos.line X.env = pure false := by rfl)
    (hf : X.fn x = true ∨ X.env.scope.names.lookup x = some .local := by first | exact .inl rfl | exact .inr rfl) : PX X T B0 H0 ρ (.Assign [.Name x px] e pos) P :=
  PS.imp (ps_set (i := i) hN hi hx h hs hf) fun Z σ H ⟨B, S, n, _⟩ => ⟨B0, H0, B, S, fun v B1 H1 f1 q1 => by
    obtain ⟨p, vs, rfl, h1, h2, h3, h4⟩ := q1
    refine n _ _ B1 H1 hp f1.eb ((S.fwd f1).setO h1 (S.fw.ex.free h2) h3 h4 fun j es _ hj z => ?_)
    obtain ⟨q, ws, e1, hq, _⟩ := S.own j es hj
    rw [z] at e1
    cases e1
    rw [h2] at hq
    cases hq⟩
/-- a, b = e -/
theorem px_set2 {i j m : Nat} {x y : Str} {px py pt : Pos} {d1 d2 : D} (h : PD X T ρ e (.v (.tup [d1, d2]))) (hp : P.nx ((ρ.set i (.v d1)).set j (.v d2))) (hN : X.N.Nodup) (hc : X.calm = true := by rfl) (hi : X.N[i]? = some x := by rfl) (hj : X.N[j]? = some y := by rfl) (hx : Loc X.env.scope x := by first | exact Or.inl rfl | exact Or.inr rfl) (hy : Loc X.env.scope y := by first | exact Or.inl rfl | exact Or.inr rfl)
    (hf : X.fn x = true ∨ X.env.scope.names.lookup x = some .local := by first | exact .inl rfl | exact .inr rfl) (hf2 : X.fn y = true ∨ X.env.scope.names.lookup y = some .local := by first | exact .inl rfl | exact .inr rfl)
    (hs : swapsWithSole [.Tuple [.Name x px, .Name y py] m pt] e pos.line X.env = pure false := by rfl) (hw : swappedStores [.Tuple [.Name x px, .Name y py] m pt] e X.env = pure none := by rfl)
    (h1 : (assignEach [.Tuple [.Name x px, .Name y py] m pt] X.env).map (·.2) = [assign (.Tuple [.Name x px, .Name y py] m pt) X.env] := by rfl)
    (g1 : (assignEach [.Name x px, .Name y py] X.env).length = 2 := by rfl) (g2 : (assignEach [.Name x px, .Name y py] X.env).findIdx? (·.1) = none := by rfl)
    (g3 : (assignEach [.Name x px, .Name y py] X.env).map (·.2) = assign (.Name x px) X.env :: (assignEach [.Name y py] X.env).map (·.2) := by rfl)
    (g4 : (assignEach [.Name y py] X.env).map (·.2) = assign (.Name y py) X.env :: (assignEach [] X.env).map (·.2) := by rfl) : PX X T B0 H0 ρ (.Assign [.Tuple [.Name x px, .Name y py] m pt] e pos) P :=
  PS.imp (ps_asg h (pg_tup hc (pgs_cons (pg_name (i := i) hN hi hx hf) (pgs_cons (pg_name (i := j) hN hj hy hf2) pgs_nil g4) g3) g1 g2) hs hw h1) fun Z σ H ⟨B, S, n, _⟩ => ⟨B0, H0, B, S, fun v B1 H1 f1 q1 => by
    cases q1 with
    | tup hs ra =>
      cases ra with
      | cons r1 ra =>
        cases ra with
        | cons r2 ra =>
          cases ra
          exact ⟨_, _, rfl, sqt_mono f1.e2 hs, rfl, _, _, rfl, _, _, rfl, rfl, n _ _ B1 H1 hp f1.eb (((S.fwd f1).set r1).set r2)⟩⟩
/-- xs.append(e), xs a list of one's own -/
theorem px_append {ds : List D} {i : Nat} {ce : Expr} (hr : ρ[i]? = some (.own ds)) (h : PE X ce (tBM X.K "list" rAppend (tVar i) (tCons (tD X.K T ρ (.v d)) tNil))) (hl : ds.length < 100000) (hp : P.nx (ρ.set i (.own (ds ++ [d])))) (hs : swapsWith ce none pos.line X.env = pure false := by rfl) : PX X T B0 H0 ρ (.Expr ce pos) P :=
  PS.imp (ps_expr h hs) fun Z σ H ⟨B, S, n, _⟩ => by
    obtain ⟨p, vs, e1, h1, h2, h3, ra⟩ := S.own i ds hr
    refine ⟨_, e1, .inl ⟨rfl, _, SqL.of h1⟩, B0, H0, B, S, fun v B1 H1 f1 q1 => ?_⟩
    have S1 := S.fwd f1
    refine ⟨p, vs, v, rfl, rfl, f1.ex _ _ h1, ?_, n _ _ B1 _ hp f1.eb (S1.mut (vs := vs) hr e1 ((ra.mono f1.eb).app (.cons q1 .nil)))⟩
    rw [ra.length]
    exact Nat.lt_of_lt_of_le hl (by decide)
/-- xs.extend(e), both lists of one's own -/
theorem px_extend {ds es : List D} {i : Nat} {ce : Expr} (hr : ρ[i]? = some (.own ds)) (h : PE X ce (tBM X.K "list" rExtend (tVar i) (tCons (tD X.K T ρ (.own es)) tNil))) (hl : ds.length + es.length ≤ 100000) (hp : P.nx (ρ.set i (.own (ds ++ es)))) (hs : swapsWith ce none pos.line X.env = pure false := by rfl) : PX X T B0 H0 ρ (.Expr ce pos) P :=
  PS.imp (ps_expr h hs) fun Z σ H ⟨B, S, n, _⟩ => by
    obtain ⟨p, vs, e1, h1, h2, h3, ra⟩ := S.own i ds hr
    refine ⟨_, e1, .inl ⟨rfl, _, SqL.of h1⟩, B0, H0, B, S, fun v B1 H1 f1 q1 => ?_⟩
    obtain ⟨q, ws, rfl, k1, k2, k3, rb⟩ := q1
    have S1 := S.fwd f1
    refine ⟨p, q, vs, ws, rfl, rfl, f1.ex _ _ h1, k1, ?_, n _ _ B1 _ hp f1.eb (S1.mut (vs := vs) hr e1 ((ra.mono f1.eb).app rb))⟩
    rw [ra.length, rb.length]
    exact line_of hl
end
end DX
/-! # Promises of defs, calls, refusals; lists joined and repeated; built-in functions; loops -/
namespace DX
open PySem PySem.Spec PyProof.Rows L2

/-- how a call ends: a result | a refusal of the class at C | one with a field -/
inductive Out where
  | ret (r : Sl) | exc (C : Addr) | excA (C : Addr) (f : Str) (d : D)
/-- what a refusal is wanted to find -/
def XW (K : PySem.W.Frag) (H : Hp) (E : XK) : Out → Prop
  | .ret _ => True
  | .exc C => ∀ H2, Same H H2 → E (.ref C) none H2
  | .excA C f d => ∀ H2 dx v, Same H H2 → H dx = none → H2 dx = some (.xd [(f, v)]) → R K H2 v d → E (.ref C) (some dx) H2
def OW (K : PySem.W.Frag) (B H : Hp) (Q : VK) : Out → Prop
  | .ret r => ∀ v B2 H2, Fwd B H B2 H2 → RS K H B2 H2 v r → Q v H2
  | _ => True
def spD (K : PySem.W.Frag) (T : List Addr) (Rel : List D → Out → Prop) : Sp := fun vs H Q E => ∃ B ds o, Same B H ∧ Amb T H ∧ RA K B vs ds ∧ Rel ds o ∧ OW K B H Q o ∧ XW K H E o

/-- a def of the text, and what it promises of data -/
structure Kn (P : Program) (w : World) (K : PySem.W.Frag) (mg : Str → Option Value) (base : Heap) (T : List Addr) (k : Nat) (x : Str) (Rel : List D → Out → Prop) : Prop where
  it : ∃ (f : Addr) (fd : FuncData) (ps : List Str), FnOk P w K mg base (L2.CX P w) k f fd ps (spD K T Rel) ∧ mg x = some (.ref f) ∧ PySem.W.keepIn K (.ref f) = true ∧ Binds K fd ps []

def rho0 (N : List Str) (ds : List D) : Rho := ds.map .v ++ List.replicate (N.length - ds.length) .no
def postOf : Out → Post
  | .ret r => { nx := fun _ => r = .v .non, rt := fun z => z = r }
  | _ => { nx := fun _ => False, rt := fun _ => False }

theorem map_some {vs : List V} {i : Nat} {v : V} (h : vs[i]? = some v) : (vs.map some)[i]? = some (some v) := by
  rw [List.getElem?_map, h]
  rfl
theorem sd_start {K : PySem.W.Frag} {T : List Addr} {B H : Hp} {N : List Str} {vs : List V} {ds : List D} (e : Same B H) (am : Amb T H) (ra : RA K B vs ds) : SD K T B H B H (L2.start N vs) (rho0 N ds) := by
  have hl := ra.length
  have noown : ∀ (i : Nat) (es : List D), (rho0 N ds)[i]? ≠ some (Sl.own es) := fun i es h => by
    unfold rho0 at h
    by_cases hi : i < ds.length
    · rw [List.getElem?_append_left (by rw [List.length_map]; exact hi), List.getElem?_map] at h
      cases q : ds[i]? with
      | none => rw [q] at h; cases h
      | some d => rw [q] at h; cases h
    · rw [List.getElem?_append_right (by rw [List.length_map]; omega), List.getElem?_replicate] at h
      split at h <;> cases h
  refine ⟨Fwd.refl e, am, fun i d h => ?_, fun i es h => absurd h (noown i es), fun i j p es fs h => absurd h (noown i es), ?_, .none fun i kvs h => ?_⟩
  · unfold rho0 at h
    by_cases hi : i < ds.length
    · rw [List.getElem?_append_left (by rw [List.length_map]; exact hi), List.getElem?_map] at h
      cases q : ds[i]? with
      | none => rw [q] at h; cases h
      | some d' =>
        rw [q] at h
        have ed : d' = d := by
          have z : Sl.v d' = Sl.v d := Option.some.inj h
          injection z
        subst ed
        obtain ⟨v, hv, r⟩ := ra.get q
        refine ⟨v, ?_, r⟩
        unfold L2.start
        rw [List.getElem?_append_left (by rw [List.length_map, hl]; exact hi)]
        exact map_some hv
    · rw [List.getElem?_append_right (by rw [List.length_map]; omega), List.getElem?_replicate] at h
      split at h <;> cases h
  · unfold rho0 L2.start
    rw [List.length_append, List.length_append, List.length_map, List.length_map, List.length_replicate, List.length_replicate, hl]
  · unfold rho0 at h
    by_cases hi : i < ds.length
    · rw [List.getElem?_append_left (by rw [List.length_map]; exact hi), List.getElem?_map] at h
      cases q : ds[i]? with
      | none => rw [q] at h; cases h
      | some d => rw [q] at h; cases h
    · rw [List.getElem?_append_right (by rw [List.length_map]; omega), List.getElem?_replicate] at h
      split at h <;> cases h

theorem fn_mk {P : Program} {w : World} {K : PySem.W.Frag} {mg : Str → Option Value} {base : Heap} {T : List Addr} {k : Nat} {x : Str} {st : Stmt} {f : Addr} {fd : FuncData} {N ps : List Str} {Rel : List D → Out → Prop}
    (F : Fun K x x st f fd) (S : FnScope N ps (defScope st)) (hl : ∀ ds o, Rel ds o → ds.length = ps.length)
    (body : ∀ (cdv : Value) (A : Around) (outer : List Env) (s : Shared) (B H : Hp) (E : XK) (ds : List D) (o : Out), Room k (A.deeper (envOfC x (defScope st) s.heap.objs.size f cdv)) → Rel ds o → XW K H E o →
      PXs (cxOf (L2.CX P w) P w K mg base N x (defScope st) f cdv A outer s H E) T B H (rho0 N ds) (defBody st) (postOf o)) : FnOk P w K mg base (L2.CX P w) (k + 1) f fd ps (spD K T Rel) := by
  refine F.okX S (fun vs H Q E h => ?_) (fun cdv A outer s H vs Q E hr h => ?_)
  · obtain ⟨B, ds, o, e, am, ra, rel, _⟩ := h
    rw [ra.length]
    exact hl _ _ rel
  · obtain ⟨B, ds, o, e, am, ra, rel, ow, xw⟩ := h
    refine ⟨_, body cdv A outer s B H E ds o hr rel xw, B, sd_start e am ra, fun ρ' σ' B' H' hn _ S' => ?_, fun r v B' H' hrt f' am' rs => ?_, fun _ _ _ _ z => ?_, fun _ _ _ _ z => ?_⟩
    · cases o with
      | ret r =>
        have hn' : r = .v .non := hn
        subst hn'
        exact ow _ B' H' S'.fw .non
      | exc _ => exact False.elim hn
      | excA _ _ _ => exact False.elim hn
    · cases o with
      | ret r' =>
        have hn' : r = r' := hrt
        subst hn'
        exact ow _ B' H' f' rs
      | exc _ => exact False.elim hrt
      | excA _ _ _ => exact False.elim hrt
    · cases o <;> exact False.elim z
    · cases o <;> exact False.elim z

theorem kn_mk {P : Program} {w : World} {K : PySem.W.Frag} {mg : Str → Option Value} {base : Heap} {T : List Addr} {k : Nat} {x : Str} {st : Stmt} {f : Addr} {fd : FuncData} {N ps : List Str} {Rel : List D → Out → Prop}
    (F : Fun K x x st f fd) (S : FnScope N ps (defScope st)) (hm : mg x = some (.ref f)) (hb : Binds K fd ps []) (hl : ∀ ds o, Rel ds o → ds.length = ps.length)
    (body : ∀ (cdv : Value) (A : Around) (outer : List Env) (s : Shared) (B H : Hp) (E : XK) (ds : List D) (o : Out), Room k (A.deeper (envOfC x (defScope st) s.heap.objs.size f cdv)) → Rel ds o → XW K H E o →
      PXs (cxOf (L2.CX P w) P w K mg base N x (defScope st) f cdv A outer s H E) T B H (rho0 N ds) (defBody st) (postOf o)) : Kn P w K mg base T (k + 1) x Rel := ⟨f, fd, ps, fn_mk F S hl body, hm, F.kp, hb⟩

section
variable {X : Cx} {T : List Addr} {B0 H0 : Hp} {ρ ρ1 : Rho} {e a b c : Expr} {es : List Expr} {pos p : Pos} {d da db : D} {r : Sl} {k j : Nat} {x : Str} {ds : List D} {st : Stmt} {rest : List Stmt} {P : Post} {Rel : List D → Out → Prop}

/-! ### a call that ends in a result -/
theorem pd_call (c : Kn X.prog X.w X.K X.mg X.base T k x Rel) (hr : Room j X.A) (ha : PAs X T ρ (e :: es) ds) (h : Rel ds (.ret r)) (hj : k ≤ j := by decide) (hg : Gl X x := by rfl) (hdb : (x == ("__debug__" : Str)) = false := by decide)
    (he : starEach (e :: es) X.env = (false, eval e X.env) :: starEach es X.env := by rfl) (hpl : (backTo pos (starEach es X.env)).any (·.1) = false := by rfl) : PD X T ρ (.Call (.Name x p) (e :: es) [] pos) r := by
  obtain ⟨f, fd, ps, F, hm, hk, hb⟩ := c.it
  exact PE.imp (pe_call F (hr.mono hj) hg hm hk hb .nil passL ha hdb he hpl) fun σ H Q ⟨B0, H0, B, S, q⟩ => ⟨B0, H0, B, S, fun vs B1 H1 f1 ra => ⟨B1, ds, _, f1.e2, S.am.mono f1.ex, by rw [List.append_nil]; exact ra, h,
    fun v B2 H2 f2 rs => q v B2 H2 (f1.trans f2) (RS.old f1.ex rs), trivial⟩⟩
/-- data that leans on no heap -/
def D.scal : D → Bool
  | .non => true
  | .bl _ => true
  | .int _ => true
  | .str _ => true
  | .ty _ => true
  | _ => false
theorem R.scal {K : PySem.W.Frag} {H H' : Hp} {v : V} (h : d.scal = true) (r : R K H v d) : R K H' v d := by
  cases r with
  | non => exact .non
  | bl b => exact .bl b
  | int i => exact .int i
  | str s => exact .str s
  | ty n => exact .ty n
  | lst _ _ => cases h
  | scr _ _ => cases h
  | tup _ _ => cases h
  | ho _ => cases h
  | exc _ => cases h
  | lsp _ _ _ => cases h
  | any => cases h
  | ptup _ _ => cases h
  | dcl _ _ => cases h
  | excA _ _ _ => cases h
/-- .. its arguments leaning on the whole heap, its result on none -/
theorem pd_callT (c : Kn X.prog X.w X.K X.mg X.base T k x Rel) (hr : Room j X.A) (ha : PAt X T ρ (e :: es) ds) (h : Rel ds (.ret (.v d))) (hs : d.scal = true := by rfl) (hj : k ≤ j := by decide) (hg : Gl X x := by rfl) (hdb : (x == ("__debug__" : Str)) = false := by decide)
    (he : starEach (e :: es) X.env = (false, eval e X.env) :: starEach es X.env := by rfl) (hpl : (backTo pos (starEach es X.env)).any (·.1) = false := by rfl) : PD X T ρ (.Call (.Name x p) (e :: es) [] pos) (.v d) := by
  obtain ⟨f, fd, ps, F, hm, hk, hb⟩ := c.it
  exact PE.imp (pe_call F (hr.mono hj) hg hm hk hb .nil passL ha hdb he hpl) fun σ H Q ⟨B0, H0, B, S, q⟩ => ⟨B0, H0, B, S, fun vs B1 H1 f1 ra => ⟨H1, ds, _, Same.refl _, S.am.mono f1.ex, by rw [List.append_nil]; exact ra, h,
    fun v B2 H2 f2 rs => q v B1 H2 (f1.trans (Fwd.top f1.e2 f2.ex)) (R.scal hs rs), trivial⟩⟩

/-! ### what raises -/
/-- e is evaluated, and raises as is wanted -/
abbrev PR (X : Cx) (T : List Addr) (B0 H0 : Hp) (ρ : Rho) (e : Expr) : Prop := PE X e (fun σ H _ => ∃ B, SD X.K T B0 H0 B H σ ρ)
/-- a refusal of a callee, handed on -/
theorem pr_call {E : XK} {o : Out} (c : Kn X.prog X.w X.K X.mg X.base T k x Rel) (hr : Room j X.A) (tk : Takes X (fun cls d _ H => E cls d H)) (ha : PAs X T ρ (e :: es) ds) (h : Rel ds o) (hx : XW X.K H0 E o) (ho : ∀ r, o ≠ .ret r) (hj : k ≤ j := by decide) (hg : Gl X x := by rfl) (hdb : (x == ("__debug__" : Str)) = false := by decide)
    (he : starEach (e :: es) X.env = (false, eval e X.env) :: starEach es X.env := by rfl) (hpl : (backTo pos (starEach es X.env)).any (·.1) = false := by rfl) : PR X T B0 H0 ρ (.Call (.Name x p) (e :: es) [] pos) := by
  obtain ⟨f, fd, ps, F, hm, hk, hb⟩ := c.it
  refine PE.imp (pe_callS F (hr.mono hj) hg hm hk hb (fun σ => passAt tk σ) ha hdb he hpl) fun σ H Q ⟨B, S⟩ => ⟨B0, H0, B, S, fun vs B1 H1 f1 ra => ⟨B1, ds, o, f1.e2, S.am.mono f1.ex, ra, h, ?_, ?_⟩⟩
  · cases o with
    | ret r => exact absurd rfl (ho r)
    | exc C => trivial
    | excA C f d => trivial
  · have s1 : Same H0 H1 := S.fw.ex.trans f1.ex
    cases o with
    | ret r => trivial
    | exc C => exact fun H2 s2 => hx H2 (s1.trans s2)
    | excA C f d => exact fun H2 dx v s2 n h2 rr => hx H2 dx v (s1.trans s2) (s1.free n) h2 rr
theorem px_exprR (h : PR X T B0 H0 ρ e) (hs : swapsWith e none pos.line X.env = pure false := by rfl) : PX X T B0 H0 ρ (.Expr e pos) P := PS.imp (ps_expr h hs) fun Z σ H ⟨B, S, _⟩ => ⟨B, S⟩
theorem px_retR (h : PR X T B0 H0 ρ e) : PX X T B0 H0 ρ (.Return (some e) pos) P := PS.imp (ps_ret h) fun Z σ H ⟨B, S, _⟩ => ⟨B, S⟩
theorem px_setR {i : Nat} {px : Pos} (h : PR X T B0 H0 ρ e) (hN : X.N.Nodup) (hi : X.N[i]? = some x := by rfl) (hx : Loc X.env.scope x := by first | exact Or.inl rfl | exact Or.inr rfl) (hs : swapsWith e (some (.Name x px)) pos.line X.env = pure false := by rfl)
    (hf : X.fn x = true ∨ X.env.scope.names.lookup x = some .local := by first | exact .inl rfl | exact .inr rfl) : PX X T B0 H0 ρ (.Assign [.Name x px] e pos) P := PS.imp (ps_set (i := i) hN hi hx h hs hf) fun Z σ H ⟨B, S, _⟩ => ⟨B, S⟩
/-- what a class of refusals without __init__ is known by -/
structure ExK (K : PySem.W.Frag) (mg : Str → Option Value) (x : Str) (C : Addr) : Prop where
  g : mg x = some (.ref C)
  k : PySem.W.keepIn K (.ref C) = true
  ex : PySem.W.excIn K C [.type "ValueError", .type "Exception", .type "BaseException", .type "object"] "ValueError.__new__" = true
  b : PySem.W.subIn K (.ref C) (.type "BaseException") = some true
  t : PySem.W.typeIn K (.ref C) = some (.type "type")
theorem px_raise {E : XK} {C : Addr} {m : Str} {q : Nat} {p2 p3 : Pos} (c : ExK X.K X.mg x C) (hc : X.calm = true) (tk : Takes X (fun cls d _ H => E cls d H)) (hx : XW X.K H0 E (.exc C)) (hg : Gl X x := by rfl) (hdb : (x == ("__debug__" : Str)) = false := by decide) :
    PX X T B0 H0 ρ (.Raise (some (.Call (.Name x p) [.Constant (.str m) q p2] [] p3)) none pos) P :=
  PS.imp (ps_raise hc tk (pmk_own PySem.F.excBase_ValueError c.ex c.g c.k (raises_own c.b c.t) hg hdb)) fun Z σ H ⟨B, S, _⟩ => hx H S.fw.ex

/-! ### built-in functions -/
/-- f(e, ..), f built in: data in, a result out -/
def CalD (X : Cx) (f : Value) (ds : List D) (r : Sl) : Prop := ∃ g, CallR X f g ∧ ∀ (B H : Hp) (vs : List V) (Q : VK), Same B H → RA X.K B vs ds → (∀ w B2 H2, Fwd B H B2 H2 → RS X.K H B2 H2 w r → Q w H2) → g vs H Q
theorem pd_blt {id : String} (h : CalD X (.builtin id) ds r) (hm : X.mg x = none) (ha : PAs X T ρ (e :: es) ds) (hv : bootBuiltins x = some (.builtin id) := by decide +kernel) (hg : Gl X x := by rfl) (hn : x ≠ "__name__" := by decide) (hdb : (x == ("__debug__" : Str)) = false := by decide)
    (he : starEach (e :: es) X.env = (false, eval e X.env) :: starEach es X.env := by rfl) (hpl : (backTo pos (starEach es X.env)).any (·.1) = false := by rfl) : PD X T ρ (.Call (.Name x p) (e :: es) [] pos) r := by
  obtain ⟨g, hc, q⟩ := h
  exact PE.imp (pe_callB hc hg hm hv ha hn hdb he hpl) fun σ H Q ⟨B0, H0, B, S, n⟩ => ⟨B0, H0, B, S, fun vs B1 H1 f1 ra => q B1 H1 vs Q f1.e2 ra fun w B2 H2 f2 rs => n w B2 H2 (f1.trans f2) (RS.old f1.ex rs)⟩
theorem pd_bty {id : String} (h : CalD X (.type id) ds r) (hm : X.mg x = none) (ha : PAs X T ρ (e :: es) ds) (hv : bootBuiltins x = some (.type id) := by decide +kernel) (hg : Gl X x := by rfl) (hn : x ≠ "__name__" := by decide) (hdb : (x == ("__debug__" : Str)) = false := by decide)
    (he : starEach (e :: es) X.env = (false, eval e X.env) :: starEach es X.env := by rfl) (hpl : (backTo pos (starEach es X.env)).any (·.1) = false := by rfl) : PD X T ρ (.Call (.Name x p) (e :: es) [] pos) r := by
  obtain ⟨g, hc, q⟩ := h
  exact PE.imp (pe_callTy hc hg hm hv ha hn hdb he hpl) fun σ H Q ⟨B0, H0, B, S, n⟩ => ⟨B0, H0, B, S, fun vs B1 H1 f1 ra => q B1 H1 vs Q f1.e2 ra fun w B2 H2 f2 rs => n w B2 H2 (f1.trans f2) (RS.old f1.ex rs)⟩
/-- .. with arguments that lean on the whole heap, the result on none -/
theorem pd_bltT {id : String} (h : CalD X (.builtin id) ds (.v d)) (hm : X.mg x = none) (ha : PAt X T ρ (e :: es) ds) (hs : d.scal = true := by rfl) (hv : bootBuiltins x = some (.builtin id) := by decide +kernel) (hg : Gl X x := by rfl) (hn : x ≠ "__name__" := by decide) (hdb : (x == ("__debug__" : Str)) = false := by decide)
    (he : starEach (e :: es) X.env = (false, eval e X.env) :: starEach es X.env := by rfl) (hpl : (backTo pos (starEach es X.env)).any (·.1) = false := by rfl) : PD X T ρ (.Call (.Name x p) (e :: es) [] pos) (.v d) := by
  obtain ⟨g, hc, q⟩ := h
  exact PE.imp (pe_callB hc hg hm hv ha hn hdb he hpl) fun σ H Q ⟨B0, H0, B, S, n⟩ => ⟨B0, H0, B, S, fun vs B1 H1 f1 ra => q H1 H1 vs Q (Same.refl _) ra fun w B2 H2 f2 rs => n w B1 H2 (f1.trans (Fwd.top f1.e2 f2.ex)) (R.scal hs rs)⟩
theorem pd_btyT {id : String} (h : CalD X (.type id) ds (.v d)) (hm : X.mg x = none) (ha : PAt X T ρ (e :: es) ds) (hs : d.scal = true := by rfl) (hv : bootBuiltins x = some (.type id) := by decide +kernel) (hg : Gl X x := by rfl) (hn : x ≠ "__name__" := by decide) (hdb : (x == ("__debug__" : Str)) = false := by decide)
    (he : starEach (e :: es) X.env = (false, eval e X.env) :: starEach es X.env := by rfl) (hpl : (backTo pos (starEach es X.env)).any (·.1) = false := by rfl) : PD X T ρ (.Call (.Name x p) (e :: es) [] pos) (.v d) := by
  obtain ⟨g, hc, q⟩ := h
  exact PE.imp (pe_callTy hc hg hm hv ha hn hdb he hpl) fun σ H Q ⟨B0, H0, B, S, n⟩ => ⟨B0, H0, B, S, fun vs B1 H1 f1 ra => q H1 H1 vs Q (Same.refl _) ra fun w B2 H2 f2 rs => n w B1 H2 (f1.trans (Fwd.top f1.e2 f2.ex)) (R.scal hs rs)⟩
theorem cl_len (h : da.seq = some ds) : CalD X (.builtin "len") [da] (.v (.int (ds.length : Int))) := ⟨_, call_len_seq, fun B H vs Q s ra q => by
  cases ra with
  | cons r1 ra =>
    cases ra
    obtain ⟨p, ws, rfl, hs, rb⟩ := R.seq (r1.mono s) h
    exact ⟨p, ws, rfl, hs, q _ _ _ (Fwd.refl s) (by rw [rb.length]; exact .int _)⟩⟩
theorem cl_min {i l : Int} (hc : X.calm = true) : CalD X (.builtin "min") [.int i, .int l] (.v (.int (min i l))) := ⟨_, call_min2 hc, fun B H vs Q s ra q => by
  cases ra with
  | cons r1 ra =>
    cases ra with
    | cons r2 ra =>
      cases ra
      cases r1
      cases r2
      have e : (if l < i then l else i) = min i l := by omega
      exact ⟨i, l, rfl, q _ _ _ (Fwd.refl s) (by rw [e]; exact .int _)⟩⟩
theorem cl_max {i l : Int} (hc : X.calm = true) : CalD X (.builtin "max") [.int i, .int l] (.v (.int (max i l))) := ⟨_, call_max2 hc, fun B H vs Q s ra q => by
  cases ra with
  | cons r1 ra =>
    cases ra with
    | cons r2 ra =>
      cases ra
      cases r1
      cases r2
      have e : (if l > i then l else i) = max i l := by omega
      exact ⟨i, l, rfl, q _ _ _ (Fwd.refl s) (by rw [e]; exact .int _)⟩⟩
/-- tuple(xs), list(xs) -/
theorem cl_tuple (h : da = .lst ds) : CalD X (.type "tuple") [da] (.v (.tup ds)) := ⟨_, call_tuple_of, fun B H vs Q s ra q => by
  subst h
  cases ra with
  | cons r1 ra =>
    cases ra
    cases r1 with
    | lst hs rb => exact ⟨_, _, rfl, .inl ⟨.inl (rd_mono s hs), fun p hp => q _ _ _ (Fwd.new s hp) (.tup (SqT.of upd_same) (rb.mono (Same.new (s.free hp))))⟩⟩⟩
theorem cl_list (h : da.seq = some ds) : CalD X (.type "list") [da] (.own ds) := ⟨_, call_list_of, fun B H vs Q s ra q => by
  cases ra with
  | cons r1 ra =>
    cases ra
    obtain ⟨p, ws, rfl, hs, rb⟩ := R.seq r1 h
    refine ⟨p, ws, rfl, hs.elim (fun z => .inl (s.seq z)) (fun z => .inr (sqt_mono s z)), fun p hp => q _ _ _ (Fwd.side s hp) ⟨p, ws, rfl, upd_same, hp, s.free hp, rb⟩⟩⟩
theorem cl_all {bs : List Bool} (hc : X.calm = true) (h : da = .lst (bs.map D.bl)) : CalD X (.builtin "all") [da] (.v (.bl (bs.all id))) := ⟨_, cr_all hc, fun B H vs Q s ra q => by
  subst h
  cases ra with
  | cons r1 ra =>
    cases ra
    cases r1 with
    | lst hs rb =>
      cases ra_bls rb
      exact ⟨_, bs, rfl, .inl (rd_mono s hs), q _ _ _ (Fwd.refl s) (.bl _)⟩⟩

/-! ### lists joined, repeated -/
def rCatR : R2 := fun x y H Q => ∃ (l b : Addr) (xs zs : List V), x = .ref l ∧ y = .ref b ∧ Rd H l (.lst xs) ∧ Rd H b (.lst zs) ∧ xs.length + zs.length ≤ sizeLine ∧ ∀ p, H p = none → Q (.ref p) (upd H p (.lst (xs ++ zs)))
theorem op_catR : OpR X (binaryOp .Add) rCatR := by
  intro pins s σ H x y v u Q I rx ry ⟨l, b, xs, zs, ex, ey, h1, h2, hz, q⟩
  subst ex ey
  cases rx
  cases ry
  obtain ⟨_, i1, n1, r1, e1⟩ := h1.ok I.hok
  obtain ⟨_, i2, n2, r2, e2⟩ := h2.ok I.hok
  have l1 := r1.length
  have l2 := r2.length
  refine PySem.P.add_list e1 e2 ?_ (by simp only [List.size_toArray]; omega)
  have j : i1.toArray ++ i2.toArray = (i1 ++ i2).toArray := by simp
  rw [j]
  refine ⟨.ref s.heap.objs.size, _, I.lnew (ys := xs ++ zs) (t' := s.toks) (r1.append r2) ?_, rfl, q _ I.fresh⟩
  rw [List.length_append]
  exact hz
theorem bd_catL {xs ys : List D} (h : xs.length + ys.length ≤ 100000) : BinD X .Add (.lst xs) (.lst ys) (.own (xs ++ ys)) := ⟨_, op_catR, fun B H v u Q s r1 r2 q => by
  cases r1 with
  | lst h1 a1 =>
    cases r2 with
    | lst h2 a2 =>
      exact ⟨_, _, _, _, rfl, rfl, rd_mono s h1, rd_mono s h2, line_of (by rw [a1.length, a2.length]; exact h), fun p hp => q _ _ _ (Fwd.side s hp) ⟨p, _, rfl, upd_same, hp, s.free hp, a1.app a2⟩⟩⟩
/-- [..] * k -/
theorem pd_rep {n : Int} (ha : PD X T ρ a (.own ds)) (hb : PD X T ρ b (.v (.int n))) (h0 : 0 ≤ n) (h1 : n ≤ 100000) (hl : ds.length * n.toNat ≤ 100000) : PD X T ρ (.BinOp a .Mult b pos) (.own (List.replicate n.toNat ds).flatten) :=
  PE.imp (pe_op op_rep ha hb) fun σ H Q ⟨B0, H0, B, S, q⟩ => ⟨B0, H0, B, S, fun v B1 H1 f1 q1 => ⟨B0, H0, B1, S.fwd f1, fun u B2 H2 f2 q2 => by
    obtain ⟨p, vs, rfl, k1, k2, k3, ra⟩ := q1
    cases q2
    have f := f1.trans f2
    refine ⟨p, n, vs, rfl, rfl, f2.ex _ _ k1, by omega, by omega, line_of (by rw [ra.length]; exact hl), fun t ht => ?_⟩
    exact q _ _ _ (f.trans (Fwd.side f.e2 ht)) ⟨t, _, rfl, upd_same, f.ex.free ht, f.e2.free ht, (ra.mono f2.eb).repl _⟩⟩⟩

/-! ### loops -/
theorem R.seqL {K : PySem.W.Frag} {H : Hp} {v : V} (r : R K H v d) (h : d = .lst ds ∨ d = .scr ds) : ∃ p vs, v = .ref p ∧ SqL K H p vs ∧ RA K H vs ds := by
  rcases h with h | h
  · subst h
    cases r with
    | lst h1 h2 => exact ⟨_, _, rfl, .inl h1, h2⟩
  · subst h
    cases r with
    | scr h1 h2 => exact ⟨_, _, rfl, h1, h2⟩
theorem px_for {da : D} {i : Nat} {y : Str} {py : Pos} {body : List Stmt} (I : Nat → Rho → Prop) (h : PD X T ρ e (.v da)) (hd : da = .lst ds ∨ da = .scr ds) (h0 : I 0 ρ) (hs : ∀ n d ρ', ds[n]? = some d → I n ρ' → PXs X T B0 H0 (ρ'.set i (.v d)) body { P with nx := I (n + 1), ct := I (n + 1), bk := P.nx })
    (hend : ∀ ρ', I ds.length ρ' → P.nx ρ') (hp : PassesOwn (model X.prog X.w) X.A X.env X.xe) (hN : X.N.Nodup) (hc : X.calm = true := by rfl) (hi : X.N[i]? = some y := by rfl) (hx : Loc X.env.scope y := by first | exact Or.inl rfl | exact Or.inr rfl)
    (hf : X.fn y = true ∨ X.env.scope.names.lookup y = some .local := by first | exact .inl rfl | exact .inr rfl) (hfs : ∀ x, foldedSetIterable e X.env x = pure x := by intro _; rfl) : PX X T B0 H0 ρ (.For (.Name y py) e body [] pos) P := by
  have hb : PSs X body (fun Z σ H => ∃ (n : Nat) (d : D) (ρ' : Rho), ds[n]? = some d ∧ I n ρ' ∧ tS X.K T B0 H0 (ρ'.set i (.v d)) { P with nx := I (n + 1), ct := I (n + 1), bk := P.nx } Z σ H) :=
    ⟨fun pins s σ H Z J ⟨n, d, ρ', e1, e2, q⟩ => (hs n d ρ' e1 e2).run pins s σ H Z J q⟩
  refine PS.imp (ps_for hp hc (pi_list h) (pg_name (i := i) hN hi hx hf) hb hfs) fun Z σ H ⟨B, S, n1, n2, n3, n4⟩ => ?_
  refine ⟨B0, H0, B, S, fun v B1 H1 f1 r1 => ?_⟩
  obtain ⟨p, vs, rfl, hq, ra⟩ := R.seqL r1 hd
  refine ⟨p, rfl, ⟨_, f1.e2.seq hq⟩, for_list (K := X.K) (a := p) (xs := vs) (D := Z) (g := gName i) (tb := fun Z σ H => ∃ (n : Nat) (d : D) (ρ' : Rho), ds[n]? = some d ∧ I n ρ' ∧ tS X.K T B0 H0 (ρ'.set i (.v d)) { P with nx := I (n + 1), ct := I (n + 1), bk := P.nx } Z σ H) (fun m σ' H' => ∃ ρ' B', I m ρ' ∧ Same B1 B' ∧ SD X.K T B0 H0 B' H' σ' ρ') ⟨ρ, B1, h0, Same.refl _, S.fwd f1⟩ (fun m σ' H' _ ⟨ρ', B', _, eb, S'⟩ => (eb.trans S'.bh).seq hq) ?_ ?_⟩
  · intro m u σ' H' hm ⟨ρ', B', hI, eb, S'⟩
    obtain ⟨d', hd', r'⟩ := ra.getV hm
    refine ⟨m, d', ρ', hd', hI, B', S'.set (r'.mono eb), fun ρ2 σ2 B2 H2 z e2 S2 => ⟨ρ2, B2, z, eb.trans e2, S2⟩, n2, fun ρ2 σ2 B2 H2 z e2 S2 => n1 ρ2 σ2 B2 H2 z ((f1.eb.trans eb).trans e2) S2, fun ρ2 σ2 B2 H2 z e2 S2 => ⟨ρ2, B2, z, eb.trans e2, S2⟩⟩
  · intro σ' H' ⟨ρ', B', hI, eb, S'⟩
    rw [ra.length] at hI
    exact n1 ρ' σ' B' H' (hend ρ' hI) (f1.eb.trans eb) S'
/-- for i in range(n) -/
theorem px_range {n : Int} {i : Nat} {y : Str} {py pr : Pos} {body : List Stmt} (I : Nat → Rho → Prop) (h : PD X T ρ e (.v (.int n))) (h1 : -(2 ^ 62) ≤ n) (h2 : n < 2 ^ 62) (hm : X.mg "range" = none) (h0 : I 0 ρ) (hs : ∀ (m : Nat) ρ', (m : Int) < n → I m ρ' → PXs X T B0 H0 (ρ'.set i (.v (.int m))) body { P with nx := I (m + 1), ct := I (m + 1), bk := P.nx })
    (hend : ∀ ρ', I n.toNat ρ' → P.nx ρ') (hp : PassesOwn (model X.prog X.w) X.A X.env X.xe) (hN : X.N.Nodup) (hc : X.calm = true := by rfl) (hg : Gl X "range" := by rfl) (hi : X.N[i]? = some y := by rfl) (hx : Loc X.env.scope y := by first | exact Or.inl rfl | exact Or.inr rfl)
    (hf : X.fn y = true ∨ X.env.scope.names.lookup y = some .local := by first | exact .inl rfl | exact .inr rfl) (hse : starEach [e] X.env = [(false, eval e X.env)] := by rfl) (hfs : ∀ x, foldedSetIterable (.Call (.Name "range" pr) [e] [] p) X.env x = pure x := by intro _; rfl) :
    PX X T B0 H0 ρ (.For (.Name y py) (.Call (.Name "range" pr) [e] [] p) body [] pos) P := by
  have hb : PSs X body (fun Z σ H => ∃ (m : Nat) (ρ' : Rho), (m : Int) < n ∧ I m ρ' ∧ tS X.K T B0 H0 (ρ'.set i (.v (.int m))) { P with nx := I (m + 1), ct := I (m + 1), bk := P.nx } Z σ H) :=
    ⟨fun pins s σ H Z J ⟨m, ρ', e1, e2, q⟩ => (hs m ρ' e1 e2).run pins s σ H Z J q⟩
  refine PS.imp (ps_for hp hc (pi_range1 hg hm (pa_cons h pa_nil hse) hse) (pg_name (i := i) hN hi hx hf) hb hfs) fun Z σ H ⟨B, S, n1, n2, n3, n4⟩ => ?_
  refine ⟨B0, H0, B, S, fun v B1 H1 f1 r1 => ?_⟩
  cases r1
  refine ⟨n, rfl, h1, h2, for_range (lo := 0) (n := n.toNat) (D := Z) (g := gName i) (tb := fun Z σ H => ∃ (m : Nat) (ρ' : Rho), (m : Int) < n ∧ I m ρ' ∧ tS X.K T B0 H0 (ρ'.set i (.v (.int m))) { P with nx := I (m + 1), ct := I (m + 1), bk := P.nx } Z σ H) (fun m σ' H' => ∃ ρ' B', I m ρ' ∧ Same B1 B' ∧ SD X.K T B0 H0 B' H' σ' ρ') ⟨ρ, B1, h0, Same.refl _, S.fwd f1⟩ ?_ ?_⟩
  · intro m σ' H' hm ⟨ρ', B', hI, eb, S'⟩
    have hv : R X.K B' (.int (0 + (m : Int))) (.int m) := by rw [Int.zero_add]; exact .int _
    refine ⟨m, ρ', by omega, hI, B', S'.set hv, fun ρ2 σ2 B2 H2 z e2 S2 => ⟨ρ2, B2, z, eb.trans e2, S2⟩, n2, fun ρ2 σ2 B2 H2 z e2 S2 => n1 ρ2 σ2 B2 H2 z ((f1.eb.trans eb).trans e2) S2, fun ρ2 σ2 B2 H2 z e2 S2 => ⟨ρ2, B2, z, eb.trans e2, S2⟩⟩
  · intro σ' H' ⟨ρ', B', hI, eb, S'⟩
    exact n1 ρ' σ' B' H' (hend ρ' hI) (f1.eb.trans eb) S'
end
end DX
/-! # Kinds of data -/
namespace DX
open PySem PySem.Spec PyProof.Rows L2
/-- the built-in class of data (a new empty dict: the last row) -/
def emp : D := .ho fun _ => .dK []
inductive Kd : D → String → Prop
  | non : Kd .non "NoneType"
  | bl (b : Bool) : Kd (.bl b) "bool"
  | int (i : Int) : Kd (.int i) "int"
  | str (x : Str) : Kd (.str x) "str"
  | lst (xs : List D) : Kd (.lst xs) "list"
  | scr (xs : List D) : Kd (.scr xs) "list"
  | tup (xs : List D) : Kd (.tup xs) "tuple"
  | emp : Kd emp "dict"
section
variable {X : Cx} {d : D} {n m : String}
def rTyD (K : PySem.W.Frag) : List V → Hp → VK → Prop := fun xs H Q => ∃ (x : V) (d : D) (n : String), xs = [x] ∧ R K H x d ∧ Kd d n ∧ Q (.ty n) H
theorem call_tyD : CallR X (.type "type") (rTyD X.K) := by
  intro pins s σ H xs us Q I r ⟨x, d, n, ex, rd, kd, q⟩
  subst ex
  obtain ⟨u, rfl, ru⟩ := r.one
  have fin : EP X pins σ Q (.type n) s := ⟨.ty n, H, I, rfl, q⟩
  cases kd with
  | non => cases rd; cases ru; exact call_type_of rfl (by decide +kernel) fin
  | bl b => cases rd; cases ru; exact call_type_of rfl (by decide +kernel) fin
  | int i => cases rd; obtain ⟨t, rfl⟩ := ru; exact call_type_of rfl (by decide +kernel) fin
  | str i => cases rd; obtain ⟨t, rfl⟩ := ru; exact call_type_of rfl (by decide +kernel) fin
  | lst ds =>
    cases rd with
    | lst h _ =>
      cases ru
      obtain ⟨_, its, k, _, g⟩ := h.ok I.hok
      exact call_type_of ⟨_, g, rfl⟩ (by decide +kernel) fin
  | scr ds =>
    cases rd with
    | scr h _ =>
      cases ru
      obtain ⟨its, _, ⟨o, k, g, c, _, _⟩, _⟩ := I.list h
      exact call_type_of ⟨o, g, c⟩ (by decide +kernel) fin
  | tup ds =>
    cases rd with
    | tup h _ =>
      cases ru
      obtain ⟨its, _, ⟨o, g, c, _, _⟩, _⟩ := I.tuple h
      exact call_type_of ⟨o, g, c⟩ (by decide +kernel) fin
  | emp =>
    cases rd with
    | ho h =>
      cases ru
      obtain ⟨_, _, vs, _, o, es, ep, g, hd, _⟩ := I.hok _ _ h
      exact call_type_of ⟨o, g, hd.1⟩ (by decide +kernel) fin
theorem cl_type (k : Kd d n) : CalD X (.type "type") [d] (.v (.ty n)) := ⟨_, call_tyD, fun B H vs Q s ra q => by
  cases ra with
  | cons r1 ra =>
    cases ra
    exact ⟨_, d, n, rfl, r1.mono s, k, q _ _ _ (Fwd.refl s) (.ty _)⟩⟩
end
theorem slot_tne : Slot "type" (cmpInfo .NotEq).2.1 "object.__ne__" :=
  .of (owner := "object") (n := "__ne__") (by rw [typeLookup_type, builtinLookup_eq_fast]; kernel_rfl) (by decide +kernel) (by decide +kernel) (by decide +kernel) (.inl (by decide +kernel)) (by rw [isSubtype_type]; kernel_rfl)
theorem slot_tne2 : Slot "type" (cmpInfo .NotEq).2.2 "object.__ne__" :=
  .of (owner := "object") (n := "__ne__") (by rw [typeLookup_type, builtinLookup_eq_fast]; kernel_rfl) (by decide +kernel) (by decide +kernel) (by decide +kernel) (.inl (by decide +kernel)) (by rw [isSubtype_type]; kernel_rfl)
theorem slot_teq : Slot "type" ("__eq__" : Str) "object.__eq__" :=
  .of (owner := "object") (n := "__eq__") (by rw [typeLookup_type, builtinLookup_eq_fast]; kernel_rfl) (by decide +kernel) (by decide +kernel) (by decide +kernel) (.inl (by decide +kernel)) (by rw [isSubtype_type]; kernel_rfl)
theorem ne_run {prog : Program} {w : World} {A : Around} {E : Value → Shared → Prop} {s : Shared} {a b : String} {P : Fin → Shared → Prop} (ha : ∀ s' : Shared, s'.TypeIs (.type a) "type")
    (h1 : a = b → P (.done (.ret (.bool false))) s) (h2 : a ≠ b → P (.done (.ret .notImplemented)) s) :
    wpAny (model prog w) A (Builtin.«object.__ne__» ⟨[.type a, .type b], []⟩) P E s := by
  unfold Builtin.«object.__ne__»
  refine wpAny_bind (wpAny_of_eq (a := (.type a, [.type b])) rfl ?_)
  refine wpAny_bind (wpAny_cRoomFor_or (.inl rfl) ?_)
  by_cases e : a = b
  · subst e
    refine wpAny_bind (wpAny_callSpecialIfBound?_slot (ha s) slot_teq (call_gives slot_teq (ha s) F.entry_object_eq (F.args_object_eq_2 _ _) (TypeEq.object_eq_same rfl (by simp)) ?_))
    refine wpAny_bind (wpAny_truthy_bool ?_)
    exact wpAny_pure (h1 rfl)
  · refine wpAny_bind (wpAny_callSpecialIfBound?_slot (ha s) slot_teq (call_gives slot_teq (ha s) F.entry_object_eq (F.args_object_eq_2 _ _) (TypeEq.object_eq_other rfl (by simpa using e)) ?_))
    exact wpAny_pure (h2 e)
theorem ne_same {prog : Program} {w : World} {A : Around} {E : Value → Shared → Prop} {s : Shared} {Q : Value → Shared → Prop} {a : String} (ha : ∀ s' : Shared, s'.TypeIs (.type a) "type") (h : Q (.bool false) s) : wpAny (model prog w) A (compareOp .NotEq (.type a) (.type a)) Q E s :=
  wpAny_richCompare_same (op := .NotEq) (ha s) (ha s) slot_tne (wpAny_call_entry slot_tne (ha s) F.entry_object_ne (ne_run ha (fun _ => ⟨_, rfl, (by intro e; cases e), h⟩) fun e => absurd rfl e) (F.args_object_ne_2 _ _))
theorem ne_other {prog : Program} {w : World} {A : Around} {E : Value → Shared → Prop} {s : Shared} {Q : Value → Shared → Prop} {a b : String} (ha : ∀ s' : Shared, s'.TypeIs (.type a) "type") (hb : ∀ s' : Shared, s'.TypeIs (.type b) "type") (n : a ≠ b) (h : Q (.bool true) s) : wpAny (model prog w) A (compareOp .NotEq (.type a) (.type b)) Q E s := by
  have c1 : wpAny (model prog w) A (call (.builtin "object.__ne__") [.type a, .type b]) (fun v s₁ => v = .notImplemented ∧ s₁ = s) E s :=
    wpAny_call_entry slot_tne (ha s) F.entry_object_ne (ne_run ha (fun e => absurd e n) fun _ => ⟨_, rfl, rfl, rfl⟩) (F.args_object_ne_2 _ _)
  have c2 : wpAny (model prog w) A (call (.builtin "object.__ne__") [.type b, .type a]) (fun v s₁ => v = .notImplemented ∧ s₁ = s) E s :=
    wpAny_call_entry slot_tne2 (hb s) F.entry_object_ne (ne_run hb (fun e => absurd e.symm n) fun _ => ⟨_, rfl, rfl, rfl⟩) (F.args_object_ne_2 _ _)
  have hq : (Value.type a == Value.type b) = false := by simpa using n
  have k : isSame (.type a) (.type b) = pure false := (isSame_plain rfl).trans (congrArg pure hq)
  have t1 := slot_tne
  have t2 := slot_tne2
  show wpAny _ _ (richCompare .NotEq _ _) _ _ _
  rcases hi : cmpInfo CmpOp.NotEq with ⟨sym, f, r⟩
  rw [hi] at t1 t2
  simp only [richCompare, hi, (ha s).oneThing_none]
  refine wpAny_holding (wpAny_bind (wpAny_cRoomFor_or (.inl rfl) (wpAny_bind (wpAny_typeOf (ha s) (wpAny_bind (wpAny_typeOf (hb s) ?_))))))
  simp only [bne_self_eq_false, Bool.false_eq_true, if_false, pure_bind, Bool.not_false, if_true]
  refine wpAny_bind (wpAny_tryCompare_declines (ha s) t1 (wpAny_mono c1 (fun v s₁ ⟨h1, e1⟩ => ⟨h1, ?_⟩) fun _ _ x => x))
  subst e1
  refine wpAny_bind (wpAny_tryCompare_declines (hb s₁) t2 (wpAny_mono c2 (fun v s₂ ⟨h2, e2⟩ => ⟨h2, ?_⟩) fun _ _ x => x))
  subst e2
  exact wpAny_bind (wpAny_rule (wpAny_bind (wpAny_of_eq k (wpAny_pure h))))
theorem meta_k {n : String} (h : n ∈ ["NoneType", "bool", "int", "str", "list", "tuple", "dict"]) (s' : Shared) : s'.TypeIs (.type n) "type" := by
  simp only [List.mem_cons, List.not_mem_nil, or_false] at h
  rcases h with h | h | h | h | h | h | h <;> subst h <;> (show typeOf _ = _; kernel_rfl)
theorem Kd.mem {d : D} {n : String} (k : Kd d n) : n ∈ ["NoneType", "bool", "int", "str", "list", "tuple", "dict"] := by
  cases k <;> simp
section
variable {X : Cx} {T : List Addr} {ρ : Rho} {e : Expr} {d : D} {n m : String}
def rTy2 (k : String → String → Bool) : R2 := fun x y H Q => ∃ a b : String, x = .ty a ∧ y = .ty b ∧ a ∈ ["NoneType", "bool", "int", "str", "list", "tuple", "dict"] ∧ b ∈ ["NoneType", "bool", "int", "str", "list", "tuple", "dict"] ∧ Q (.bl (k a b)) H
/-- == and != of classes -/
theorem op_eqTy : OpR X (compareOp .Eq) (rTy2 fun a b => decide (a = b)) := by
  intro pins s σ H x y v u Q I rx ry ⟨a, b, ex, ey, ha, hb, q⟩
  subst ex ey
  cases rx
  cases ry
  by_cases e : a = b
  · subst e
    simp at q
    exact TypeEq.eq_type_same (meta_k ha) ⟨.bl _, H, I, rfl, q⟩
  · simp only [decide_eq_false e, Bool.not_false] at q
    exact TypeEq.eq_type_other (meta_k ha) (meta_k hb) (by simpa using e) ⟨.bl _, H, I, rfl, q⟩
theorem op_neTy : OpR X (compareOp .NotEq) (rTy2 fun a b => !decide (a = b)) := by
  intro pins s σ H x y v u Q I rx ry ⟨a, b, ex, ey, ha, hb, q⟩
  subst ex ey
  cases rx
  cases ry
  by_cases e : a = b
  · subst e
    simp at q
    exact ne_same (meta_k ha) ⟨.bl _, H, I, rfl, q⟩
  · simp only [decide_eq_false e, Bool.not_false] at q
    exact ne_other (meta_k ha) (meta_k hb) e ⟨.bl _, H, I, rfl, q⟩
theorem pd_ty {x : Str} {pos : Pos} (hm : X.mg x = none) (hv : bootBuiltins x = some (.type n) := by decide +kernel) (hg : Gl X x := by rfl) (hn : x ≠ "__name__" := by decide) (hd : (x == ("__debug__" : Str)) = false := by decide) : PD X T ρ (.Name x pos) (.v (.ty n)) := pd_bltn (v := .ty n) hm hv rfl (fun _ => .ty n) hg hn hd
theorem Kd.int_inv (k : Kd d n) (e : n = "int") : ∃ i, d = .int i := by
  cases k <;> first | exact ⟨_, rfl⟩ | exact absurd e (by decide)
theorem Kd.tup_inv (k : Kd d n) (e : n = "tuple") : ∃ i, d = .tup i := by
  cases k <;> first | exact ⟨_, rfl⟩ | exact absurd e (by decide)
theorem Kd.list_inv (k : Kd d n) (e : n = "list") : ∃ i, d = .lst i ∨ d = .scr i := by
  cases k <;> first | exact ⟨_, .inl rfl⟩ | exact ⟨_, .inr rfl⟩ | exact absurd e (by decide)
theorem cd_eqTy (k : Kd d n) (h : m ∈ ["NoneType", "bool", "int", "str", "list", "tuple", "dict"] := by decide) : CmpD X .Eq (.ty n) (.ty m) (decide (n = m)) := ⟨_, op_eqTy, fun H v u Q r1 r2 q => by cases r1; cases r2; exact ⟨n, m, rfl, rfl, k.mem, h, q⟩⟩
theorem cd_neTy (k : Kd d n) (h : m ∈ ["NoneType", "bool", "int", "str", "list", "tuple", "dict"] := by decide) : CmpD X .NotEq (.ty n) (.ty m) (!decide (n = m)) := ⟨_, op_neTy, fun H v u Q r1 r2 q => by cases r1; cases r2; exact ⟨n, m, rfl, rfl, k.mem, h, q⟩⟩
end
end DX
/-! # Small facts about lists of ints as data -/
namespace DX
open PySem PySem.Spec PyProof.Rows L2
/-- a tuple of ints -/
abbrev tI (xs : List Int) : D := .tup (xs.map D.int)
abbrev lI (xs : List Int) : D := .lst (xs.map D.int)
theorem cut_map {α β : Type} (f : α → β) (xs : List α) (lo hi : Option Int) : cutA (xs.map f) lo hi = (cutA xs lo hi).map f := by
  unfold cutA
  rw [List.length_map, List.map_take, List.map_drop]
theorem cut_to {α : Type} (xs : List α) (n : Nat) : cutA xs none (some (n : Int)) = xs.take n := by
  unfold cutA
  rw [HT.sIx_none, HT.sIx_nat, List.drop_zero, Nat.sub_zero]
  by_cases h : n ≤ xs.length
  · rw [Nat.min_eq_left h]
  · have h' : xs.length ≤ n := by omega
    rw [Nat.min_eq_right h', List.take_length, List.take_of_length_le h']
theorem cut_from {α : Type} (xs : List α) (n : Nat) : cutA xs (some (n : Int)) none = xs.drop n := by
  unfold cutA
  rw [HT.sIx_none, HT.sIx_nat]
  by_cases h : n ≤ xs.length
  · rw [Nat.min_eq_left h, List.take_of_length_le (by rw [List.length_drop]; omega)]
  · have h' : xs.length ≤ n := by omega
    rw [Nat.min_eq_right h', Nat.sub_self, List.take_zero, List.drop_of_length_le h']
theorem at_nat {α : Type} {xs : List α} {n : Nat} {v : α} (h : xs[n]? = some v) : atI xs (n : Int) = some v := atI_nat h
theorem at_map {α β : Type} (f : α → β) {xs : List α} {n : Nat} (h : n < xs.length) : atI (xs.map f) (n : Int) = some (f xs[n]) := at_nat (by rw [List.getElem?_map, List.getElem?_eq_getElem h]; rfl)
theorem seq_tup {xs : List D} : (D.tup xs).seq = some xs := rfl
theorem seq_lst {xs : List D} : (D.lst xs).seq = some xs := rfl
theorem seq_scr {xs : List D} : (D.scr xs).seq = some xs := rfl
/-- a slice of a tuple of ints -/
theorem slTI {X : Cx} {T : List Addr} {ρ : Rho} {a : Expr} {lo hi : Option Expr} {l h : Option Int} {xs : List Int} {p2 pos : Pos} (ha : PD X T ρ a (.v (tI xs))) (h1 : PPt X T ρ lo l) (h2 : PPt X T ρ hi h) : PD X T ρ (.Subscript a (.Slice lo hi none p2) pos) (.v (tI (cutA xs l h))) :=
  pd_eq (pd_slT ha h1 h2) (by rw [cut_map])
theorem catTI {X : Cx} {xs ys : List Int} (h : xs.length + ys.length ≤ 100000) : BinD X .Add (tI xs) (tI ys) (.v (tI (xs ++ ys))) := by
  have q := bd_catT (X := X) (xs := xs.map D.int) (ys := ys.map D.int) (by rw [List.length_map, List.length_map]; exact h)
  rw [← List.map_append] at q
  exact q
theorem set_eq {α : Type} (xs : List α) (n : Nat) (x : α) (h : n < xs.length) : xs.take n ++ [x] ++ xs.drop (n + 1) = xs.set n x := by
  rw [List.set_eq_take_append_cons_drop, if_pos h, List.append_assoc]
  rfl
/-- is it a whole number from 0 to m -/
def isW : D → Int → Bool
  | .int i, m => decide (0 ≤ i) && decide (i ≤ m)
  | _, _ => false
end DX
/-! # A def of two lines, called where nothing is known of the frames (in a generator) -/
namespace GX
open PySem PySem.Spec PyProof.Rows L2 DX
section
variable {prog : Program} {w : World} {A : Around} {E : Value → Shared → Prop} {s : Shared} {K : PySem.W.Frag} {mg : Str → Option Value}
theorem Mod.keeps {h h' : Heap} (M : L2.Mod K mg h) (k : ∀ b o, h.get? b = some o → h'.get? b = some o) : L2.Mod K mg h' :=
  ⟨M.kin.keeps k, M.glob.keeps k, let ⟨mb, a, b⟩ := M.blt; ⟨mb, a.keeps k, b⟩, M.nolimit.keeps k⟩
/-- a global name, a built-in's name -/
theorem gl {env : Env} {x : Str} {u : Value} {pos : Pos} {Q : Value → Shared → Prop} (M : L2.Mod K mg s.heap) (hk : env.scope.kind = .function) (hg : env.kindOf x = some .globalImplicit) (h1 : env.globals = mainGlobals) (hm : mg x = some u) (h : Q u s) (hd : (x == ("__debug__" : Str)) = false := by decide) :
    wpAny (model prog w) A (eval (.Name x pos) env) Q E s := Calls.Name_function_global hk hg (Calls.loadGlobal_global (by rw [h1]; exact M.glob) hm h) hd
theorem bt {env : Env} {x : Str} {u : Value} {pos : Pos} {Q : Value → Shared → Prop} (M : L2.Mod K mg s.heap) (hk : env.scope.kind = .function) (hg : env.kindOf x = some .globalImplicit) (h1 : env.globals = mainGlobals) (h2 : env.builtins = builtinsNs) (hm : mg x = none) (hv : bootBuiltins x = some u) (h : Q u s)
    (hn : x ≠ "__name__" := by decide) (hd : (x == ("__debug__" : Str)) = false := by decide) : wpAny (model prog w) A (eval (.Name x pos) env) Q E s := by
  obtain ⟨mb, q1, q2⟩ := M.blt
  exact Calls.Name_function_global hk hg (Calls.loadGlobal_builtin (by rw [h1]; exact M.glob) hm (by rw [h2]; exact q1) ((q2 x hn).trans hv) h) hd
theorem lc {env : Env} {m : Str → Option Value} {x : Str} {pos : Pos} {v : Value} {Q : Value → Shared → Prop} (hn : s.heap.Ns env.locals m) (hv : m x = some v) (hk : env.scope.kind = .function) (hl : env.kindOf x = some .local) (h : Q v s) (hd : (x == ("__debug__" : Str)) = false := by decide) :
    wpAny (model prog w) A (eval (.Name x pos) env) Q E s := wpAny_Name (wpAny_loadName_local hk hl hn hv h) hd
/-- what an int's test gives of a value of class n -/
def isWv (u : Value) (m : Int) : Bool := match u with
  | .int i _ => decide (0 ≤ i) && decide (i ≤ m)
  | _ => false
theorem keeps_of {s' : Shared} {h' : Heap} {tk : Nat} (e : s' = { s with heap := h', toks := tk }) (k : ∀ b o, s.heap.get? b = some o → h'.get? b = some o) : Keeps s s' := ⟨h', tk, e, k⟩
theorem keeps_trans {s1 s2 s3 : Shared} (a : Keeps s1 s2) (b : Keeps s2 s3) : Keeps s1 s3 := by
  obtain ⟨h1, t1, rfl, k1⟩ := a
  obtain ⟨h2, t2, rfl, k2⟩ := b
  exact ⟨h2, t2, rfl, fun x o e => k2 x o (k1 x o e)⟩
theorem keeps_self (s : Shared) : Keeps s s := ⟨s.heap, s.toks, rfl, fun _ _ e => e⟩
theorem keeps_tk (s : Shared) (t : Nat) : Keeps s { s with toks := t } := ⟨s.heap, t, rfl, fun _ _ e => e⟩

theorem ty_eq {a b : String} {Q : Value → Shared → Prop} (ha : a ∈ ["NoneType", "bool", "int", "str", "list", "tuple", "dict"]) (hb : b ∈ ["NoneType", "bool", "int", "str", "list", "tuple", "dict"]) (h1 : a = b → Q (.bool true) s) (h2 : a ≠ b → Q (.bool false) s) : wpAny (model prog w) A (compareOp .Eq (.type a) (.type b)) Q E s := by
  by_cases e : a = b
  · subst e
    exact TypeEq.eq_type_same (meta_k ha) (h1 rfl)
  · exact TypeEq.eq_type_other (meta_k ha) (meta_k hb) (by simpa using e) (h2 e)
/-- def is_whole(thing, most): return type(thing) == int and 0 <= thing <= most -/
theorem raw_whole {f : Addr} {fd : FuncData} {st : Stmt} {u : Value} {n : String} {m : Int} {t : Tok} {p1 p2 p3 p4 p5 p6 p7 p8 p9 pa pb : Pos} {j : Nat} (F : Fun K "is_whole" "is_whole" st f fd) (M : L2.Mod K mg s.heap) (hT : mg "type" = none) (hI : mg "int" = none)
    (hb : defBody st = [.Return (some (.BoolOp .And [.Compare (.Call (.Name "type" p1) [.Name "thing" p2] [] p3) [.Eq] [.Name "int" p4] p5, .Compare (.Constant (.int 0) j p6) [.LtE, .LtE] [.Name "thing" p7, .Name "most" p8] p9] pa)) pb])
    (sc : FnScope ["thing", "most"] ["thing", "most"] (defScope st)) (g1 : (defScope st).names.lookup ("type" : Str) = some NameKind.globalImplicit) (g2 : (defScope st).names.lookup ("int" : Str) = some NameKind.globalImplicit) (l1 : (defScope st).names.lookup ("thing" : Str) = some NameKind.local) (l2 : (defScope st).names.lookup ("most" : Str) = some NameKind.local)
    (hbi : ∀ (kV doc pm : Value) (an : Option Addr) (cdv ct : Value), bindArgs (PySem.W.fnOf "is_whole" "is_whole" (defArgs st) (defBody st) (defScope st) .none kV doc pm an cdv ct) ⟨[u, .int m t], []⟩ = pure [(("thing" : Str), u), (("most" : Str), Value.int m t)])
    (hroom : A.depth + 1 < recursionLimit) (hn : n ∈ ["NoneType", "bool", "int", "str", "list", "tuple", "dict"]) (hu : ∀ s' : Shared, (∀ b o, s.heap.get? b = some o → s'.heap.get? b = some o) → s'.TypeIs u n) (hi : n = "int" → ∃ i tk, u = .int i tk) (hni : n ≠ "int" → isWv u m = false) :
    codeAny (model prog w) A (.call (.ref f) ⟨[u, .int m t], []⟩) (fun r s' => r = .ok (.ret (.bool (isWv u m))) ∧ Keeps s s') s := by
  obtain ⟨oc, od, kV, doc, pm, an, cdv, ct, osl, rfl, lk, hcd⟩ := F.ex
  refine Att.call_fn (binds := [(("thing" : Str), u), (("most" : Str), Value.int m t)]) M.kin M.nolimit lk hcd (by omega) (BindsTo.of_eq (hbi ..)) (by rw [List.all_cons, List.all_cons, l1, l2]; rfl) (fun s₁ IC => ?_) sc.co sc.gen sc.kind
  obtain ⟨h₁, tk₁, rfl⟩ := IC.toInCall.same
  have k : ∀ b o, s.heap.get? b = some o → h₁.get? b = some o := IC.toInCall.keep
  have hns := IC.toInCall.ns
  have M1 : L2.Mod K mg h₁ := Mod.keeps M k
  rw [hb]
  have vT : bindL (envOfC "is_whole" (defScope st) s.heap.objs.size f cdv).kindOf [(("thing" : Str), u), (("most" : Str), Value.int m t)] (fun _ => none) ("thing" : Str) = some u :=
    bindL_get (P := (["thing", "most"] : List Str)) (vs := [u, Value.int m t]) (i := 0) sc.nd rfl rfl l1
  have vM : bindL (envOfC "is_whole" (defScope st) s.heap.objs.size f cdv).kindOf [(("thing" : Str), u), (("most" : Str), Value.int m t)] (fun _ => none) ("most" : Str) = some (.int m t) :=
    bindL_get (P := (["thing", "most"] : List Str)) (vs := [u, Value.int m t]) (i := 1) sc.nd rfl rfl l2
  refine wpAny_execs_cons (wpAny_Return_some (BoolOp_and (wpAny_Compare1 ?_ (nomark _))))
  refine wpAny_Call_Name_kw (bt (s := { s with heap := h₁, toks := tk₁ }) M1 sc.kind g1 rfl rfl hT boot_type ?_)
  refine PyProof.Rows.callWith_type1 (Calls.spliced_cons (lc hns vT sc.kind l1 (Calls.spliced_nil ?_))) rfl rfl
  refine call_type_of (hu _ k) (by simp only [List.mem_cons, List.not_mem_nil, or_false] at hn; rcases hn with h | h | h | h | h | h | h <;> subst h <;> decide +kernel) ?_
  refine bt (s := { s with heap := h₁, toks := tk₁ }) M1 sc.kind g2 rfl rfl hI boot_int ?_
  have hm : (n = "int" → wpAny (model prog w) (A.deeper (envOfC "is_whole" (defScope st) s.heap.objs.size f cdv)) (eval (.BoolOp .And [.Compare (.Constant (.int 0) j p6) [.LtE, .LtE] [.Name "thing" p7, .Name "most" p8] p9] pa) (envOfC "is_whole" (defScope st) s.heap.objs.size f cdv)) (fun v s' => v = .bool (isWv u m) ∧ Keeps s s') (fun _ _ => False) { s with heap := h₁, toks := tk₁ }) := by
    intro e
    obtain ⟨i, ti, rfl⟩ := hi e
    refine BoolOp_one (Compare_chain (wpAny_Constant_int (chain_link (lc hns vT sc.kind l1 (le_int (wpAny_truthy_bool ?_))))))
    show (if decide (0 ≤ i) = true then _ else _)
    cases e1 : decide (0 ≤ i) with
    | true =>
      refine iteT ?_
      refine chain_last (lc hns vM sc.kind l2 (le_int ⟨?_, keeps_of rfl k⟩))
      show Value.bool _ = Value.bool (decide (0 ≤ i) && decide (i ≤ m))
      rw [e1]
      rfl
    | false =>
      refine iteF ⟨?_, keeps_of rfl k⟩
      show Value.bool _ = Value.bool (decide (0 ≤ i) && decide (i ≤ m))
      rw [e1]
      rfl
  refine ty_eq hn (by decide) (fun e => wpAny_truthy_bool (iteT ?_)) fun e => wpAny_truthy_bool (iteF ⟨?_, keeps_of rfl k⟩)
  · exact wpAny_mono (hm e) (fun v s' h => ⟨by rw [h.1], h.2⟩) fun _ _ z => z.elim
  · rw [hni e]
/-- def is_peg(thing): return is_whole(thing, 2) -/
theorem raw_peg {f g : Addr} {fd gd : FuncData} {st sg : Stmt} {u : Value} {n : String} {p1 p2 p3 p4 p5 p6 p7 p8 p9 pa pb q1 q2 q3 q4 q5 : Pos} {j jj : Nat} (G : Fun K "is_peg" "is_peg" sg g gd) (F : Fun K "is_whole" "is_whole" st f fd) (M : L2.Mod K mg s.heap) (hT : mg "type" = none) (hI : mg "int" = none) (hW : mg "is_whole" = some (.ref f))
    (hb : defBody st = [.Return (some (.BoolOp .And [.Compare (.Call (.Name "type" p1) [.Name "thing" p2] [] p3) [.Eq] [.Name "int" p4] p5, .Compare (.Constant (.int 0) j p6) [.LtE, .LtE] [.Name "thing" p7, .Name "most" p8] p9] pa)) pb])
    (hbg : defBody sg = [.Return (some (.Call (.Name "is_whole" q1) [.Name "thing" q2, .Constant (.int 2) jj q3] [] q4)) q5])
    (sc : FnScope ["thing", "most"] ["thing", "most"] (defScope st)) (g1 : (defScope st).names.lookup ("type" : Str) = some NameKind.globalImplicit) (g2 : (defScope st).names.lookup ("int" : Str) = some NameKind.globalImplicit) (l1 : (defScope st).names.lookup ("thing" : Str) = some NameKind.local) (l2 : (defScope st).names.lookup ("most" : Str) = some NameKind.local)
    (scg : FnScope ["thing"] ["thing"] (defScope sg)) (g3 : (defScope sg).names.lookup ("is_whole" : Str) = some NameKind.globalImplicit) (l3 : (defScope sg).names.lookup ("thing" : Str) = some NameKind.local)
    (hbi : ∀ (kV doc pm : Value) (an : Option Addr) (cdv ct : Value) (t : Tok), bindArgs (PySem.W.fnOf "is_whole" "is_whole" (defArgs st) (defBody st) (defScope st) .none kV doc pm an cdv ct) ⟨[u, .int 2 t], []⟩ = pure [(("thing" : Str), u), (("most" : Str), Value.int 2 t)])
    (hbig : ∀ (kV doc pm : Value) (an : Option Addr) (cdv ct : Value), bindArgs (PySem.W.fnOf "is_peg" "is_peg" (defArgs sg) (defBody sg) (defScope sg) .none kV doc pm an cdv ct) ⟨[u], []⟩ = pure [(("thing" : Str), u)])
    (hroom : A.depth + 2 < recursionLimit) (hn : n ∈ ["NoneType", "bool", "int", "str", "list", "tuple", "dict"]) (hu : ∀ s' : Shared, (∀ b o, s.heap.get? b = some o → s'.heap.get? b = some o) → s'.TypeIs u n) (hi : n = "int" → ∃ i tk, u = .int i tk) (hni : n ≠ "int" → isWv u 2 = false) :
    codeAny (model prog w) A (.call (.ref g) ⟨[u], []⟩) (fun r s' => r = .ok (.ret (.bool (isWv u 2))) ∧ Keeps s s') s := by
  obtain ⟨oc, od, kV, doc, pm, an, cdv, ct, osl, rfl, lk, hcd⟩ := G.ex
  refine Att.call_fn (binds := [(("thing" : Str), u)]) M.kin M.nolimit lk hcd (by omega) (BindsTo.of_eq (hbig ..)) (by rw [List.all_cons, l3]; rfl) (fun s₁ IC => ?_) scg.co scg.gen scg.kind
  obtain ⟨h₁, tk₁, rfl⟩ := IC.toInCall.same
  have k : ∀ b o, s.heap.get? b = some o → h₁.get? b = some o := IC.toInCall.keep
  have hns := IC.toInCall.ns
  have M1 : L2.Mod K mg h₁ := Mod.keeps M k
  rw [hbg]
  have vT : bindL (envOfC "is_peg" (defScope sg) s.heap.objs.size g cdv).kindOf [(("thing" : Str), u)] (fun _ => none) ("thing" : Str) = some u :=
    bindL_get (P := (["thing"] : List Str)) (vs := [u]) (i := 0) scg.nd rfl rfl l3
  refine wpAny_execs_cons (wpAny_Return_some (wpAny_Call_Name_kw ?_))
  refine gl (s := { s with heap := h₁, toks := tk₁ }) M1 scg.kind g3 rfl hW ?_
  refine PySem.W.callWith_K (h₀ := s.heap) M.kin F.kp (Calls.spliced_cons (lc hns vT scg.kind l3 ?_)) rfl rfl
  show wpAny _ _ (spliced ((false, eval (.Constant (.int 2) jj q3) _) :: _)) _ _ _
  refine Calls.spliced_cons (wpAny_Constant_int ?_)
  refine Calls.spliced_nil ⟨M1.kin, ?_⟩
  refine wpAny_call (codeAny_mono (raw_whole F (s := { s with heap := h₁, toks := tk₁ + 1 }) M1 hT hI hb sc g1 g2 l1 l2 (fun _ _ _ _ _ _ => hbi _ _ _ _ _ _ _) (by show A.depth + 1 + 1 < _; omega) hn (fun s' k' => hu s' fun b o e => k' b o (k b o e)) hi hni) fun r s' h => ?_)
  obtain ⟨hr, hk⟩ := h
  subst hr
  exact ⟨rfl, keeps_trans (keeps_of (s' := { s with heap := h₁, toks := tk₁ + 1 }) rfl k) hk⟩
end
end GX
/-! # all(is_peg(x) for x in a tuple) -/
namespace GX
open PySem PySem.Spec PyProof.Rows L2 DX
theorem tab_ok {P : Program} {w : World} {H : Hp} {h : Heap} {p : Addr} {ps : Array Value} (e : h.get? p = some { cls := .none, data := .fields ps }) (t : TriplesOk ps.toList) : ObjOk P w H h p (TabO p) :=
  ⟨⟨ps, e, t⟩, ⟨_, e⟩, fun h1 h2 ⟨qs, e2, t2⟩ k => ⟨qs, k _ e2, t2⟩⟩
theorem tab_at {P : Program} {w : World} {H : Hp} {h : Heap} {p : Addr} (ok : HOk P w H h) (e : H p = some (TabO p)) : ∃ ps : Array Value, h.get? p = some { cls := .none, data := .fields ps } ∧ TriplesOk ps.toList := by
  have z : ObjOk P w H h p (.ext fun h => ∃ ps : Array Value, h.get? p = some { cls := .none, data := .fields ps } ∧ TriplesOk ps.toList) := ok p _ e
  exact z.1
theorem upd_at {H : Hp} {p : Addr} {o : HO} (e : H p = some o) : upd H p o = H := by
  funext b
  by_cases hb : b = p
  · rw [hb, upd_same, e]
  · rw [upd_ne hb]
section
variable {X : Cx} {pins : List (Addr × Obj)} {σ : L2.St} {H : Hp} {s s' : Shared}
/-- a table has grown, generators have come: the state is what it was -/
theorem inv_grown {p : Addr} {ps : Array Value} (I : L2.Inv X pins σ H s) (e : H p = some (TabO p)) (k : ∀ b o, b ≠ p → s.heap.get? b = some o → s'.heap.get? b = some o) (hm : s'.heap.get? p = some { cls := .none, data := .fields ps }) (t : TriplesOk ps.toList)
    (ho : s'.os = s.os) (hg : AllBare s'.gens) : L2.Inv X pins σ H s' := by
  have mu : Mut (H p) := by rw [e]; trivial
  have J := I.call' (s' := s') (ch := []) ho (Un.write (o := TabO p) mu (.inl rfl) k ⟨_, hm⟩) (I.hok.write mu (.inl rfl) k ⟨_, hm⟩ (tab_ok hm t)) hg (fun b z => absurd z (by simp))
  rw [upd_at e] at J
  exact J
/-- data's class, seen in the heap -/
theorem cls_of {d : D} {n : String} {x : V} {v : Value} (I : L2.Inv X pins σ H s) (r : R X.K H x d) (ru : RelV x v) (kd : Kd d n) : (∀ s' : Shared, s'.TypeIs v n) ∨ ∃ q o, v = .ref q ∧ s.heap.get? q = some o ∧ o.cls = .type n := by
  cases kd with
  | non => cases r; cases ru; exact .inl fun _ => rfl
  | bl b => cases r; cases ru; exact .inl fun _ => rfl
  | int i => cases r; obtain ⟨t, rfl⟩ := ru; exact .inl fun _ => rfl
  | str i => cases r; obtain ⟨t, rfl⟩ := ru; exact .inl fun _ => rfl
  | lst ds =>
    cases r with
    | lst h _ =>
      cases ru
      obtain ⟨_, its, k, _, g⟩ := h.ok I.hok
      exact .inr ⟨_, _, rfl, g, rfl⟩
  | scr ds =>
    cases r with
    | scr h _ =>
      cases ru
      obtain ⟨its, _, ⟨o, k, g, c, _, _⟩, _⟩ := I.list h
      exact .inr ⟨_, _, rfl, g, c⟩
  | tup ds =>
    cases r with
    | tup h _ =>
      cases ru
      obtain ⟨its, _, ⟨o, g, c, _, _⟩, _⟩ := I.tuple h
      exact .inr ⟨_, _, rfl, g, c⟩
  | emp =>
    cases r with
    | ho h =>
      cases ru
      obtain ⟨_, _, vs, _, o, es, ep, g, hd, _⟩ := I.hok _ _ h
      exact .inr ⟨_, _, rfl, g, hd.1⟩
theorem isWv_eq {K : PySem.W.Frag} {d : D} {x : V} {v : Value} {m : Int} (r : R K H x d) (ru : RelV x v) : isWv v m = isW d m := by
  cases r with
  | int i => obtain ⟨t, rfl⟩ := ru; rfl
  | non => cases ru; rfl
  | bl _ => cases ru; rfl
  | str _ => obtain ⟨t, rfl⟩ := ru; rfl
  | ty _ => cases ru; rfl
  | lst _ _ => cases ru; rfl
  | scr _ _ => cases ru; rfl
  | tup _ _ => cases ru; rfl
  | ho _ => cases ru; rfl
  | exc _ => cases ru; rfl
  | excA _ _ _ => cases ru; rfl
  | lsp _ _ _ => cases ru; rfl
  | any => cases ru; rfl
  | ptup _ _ => cases ru; rfl
  | dcl _ _ => cases ru; rfl
end
/-- the def's two lines, as they stand in the text -/
structure Two (K : PySem.W.Frag) (mg : Str → Option Value) (g : Addr) : Prop where
  it : ∃ (f : Addr) (fd gd : FuncData) (st sg : Stmt) (p1 p2 p3 p4 p5 p6 p7 p8 p9 pa pb q1 q2 q3 q4 q5 : Pos) (j jj : Nat), Fun K "is_peg" "is_peg" sg g gd ∧ Fun K "is_whole" "is_whole" st f fd ∧ mg "is_whole" = some (.ref f) ∧
    defBody st = [.Return (some (.BoolOp .And [.Compare (.Call (.Name "type" p1) [.Name "thing" p2] [] p3) [.Eq] [.Name "int" p4] p5, .Compare (.Constant (.int 0) j p6) [.LtE, .LtE] [.Name "thing" p7, .Name "most" p8] p9] pa)) pb] ∧
    defBody sg = [.Return (some (.Call (.Name "is_whole" q1) [.Name "thing" q2, .Constant (.int 2) jj q3] [] q4)) q5] ∧
    FnScope ["thing", "most"] ["thing", "most"] (defScope st) ∧ (defScope st).names.lookup ("type" : Str) = some NameKind.globalImplicit ∧ (defScope st).names.lookup ("int" : Str) = some NameKind.globalImplicit ∧ (defScope st).names.lookup ("thing" : Str) = some NameKind.local ∧ (defScope st).names.lookup ("most" : Str) = some NameKind.local ∧
    FnScope ["thing"] ["thing"] (defScope sg) ∧ (defScope sg).names.lookup ("is_whole" : Str) = some NameKind.globalImplicit ∧ (defScope sg).names.lookup ("thing" : Str) = some NameKind.local ∧
    (∀ (kV doc pm : Value) (an : Option Addr) (cdv ct : Value) (u : Value) (t : Tok), bindArgs (PySem.W.fnOf "is_whole" "is_whole" (defArgs st) (defBody st) (defScope st) .none kV doc pm an cdv ct) ⟨[u, .int 2 t], []⟩ = pure [(("thing" : Str), u), (("most" : Str), Value.int 2 t)]) ∧
    (∀ (kV doc pm : Value) (an : Option Addr) (cdv ct : Value) (u : Value), bindArgs (PySem.W.fnOf "is_peg" "is_peg" (defArgs sg) (defBody sg) (defScope sg) .none kV doc pm an cdv ct) ⟨[u], []⟩ = pure [(("thing" : Str), u)])
theorem Two.run {prog : Program} {w : World} {A : Around} {s : Shared} {K : PySem.W.Frag} {mg : Str → Option Value} {g : Addr} {u : Value} {n : String} (Z : Two K mg g) (M : L2.Mod K mg s.heap) (hT : mg "type" = none) (hI : mg "int" = none)
    (hroom : A.depth + 2 < recursionLimit) (hn : n ∈ ["NoneType", "bool", "int", "str", "list", "tuple", "dict"]) (hu : ∀ s' : Shared, (∀ b o, s.heap.get? b = some o → s'.heap.get? b = some o) → s'.TypeIs u n) (hi : n = "int" → ∃ i tk, u = .int i tk) (hni : n ≠ "int" → isWv u 2 = false) :
    codeAny (model prog w) A (.call (.ref g) ⟨[u], []⟩) (fun r s' => r = .ok (.ret (.bool (isWv u 2))) ∧ Keeps s s') s := by
  obtain ⟨f, fd, gd, st, sg, p1, p2, p3, p4, p5, p6, p7, p8, p9, pa, pb, q1, q2, q3, q4, q5, j, jj, G, F, hW, hb, hbg, sc, g1, g2, l1, l2, scg, g3, l3, b1, b2⟩ := Z.it
  exact raw_peg G F M hT hI hW hb hbg sc g1 g2 l1 l2 scg g3 l3 (fun _ _ _ _ _ _ _ => b1 ..) (fun _ _ _ _ _ _ => b2 ..) hroom hn hu hi hni
theorem Two.kp {K : PySem.W.Frag} {mg : Str → Option Value} {g : Addr} (Z : Two K mg g) : PySem.W.keepIn K (.ref g) = true := by
  obtain ⟨f, fd, gd, st, sg, p1, p2, p3, p4, p5, p6, p7, p8, p9, pa, pb, q1, q2, q3, q4, q5, j, jj, G, _⟩ := Z.it
  exact G.kp
def trD (ds : List D) (j : Nat) : Bool := match ds[j]? with
  | some d => isW d 2
  | none => false
theorem all_trD (ds : List D) : (List.range ds.length).all (trD ds) = ds.all fun d => isW d 2 := by
  rw [Bool.eq_iff_iff, List.all_eq_true, List.all_eq_true]
  constructor
  · intro h d hd
    obtain ⟨j, hj, e⟩ := List.getElem_of_mem hd
    have q := h j (List.mem_range.mpr hj)
    unfold trD at q
    rw [List.getElem?_eq_getElem hj, e] at q
    exact q
  · intro h j hj
    have hj' := List.mem_range.mp hj
    unfold trD
    rw [List.getElem?_eq_getElem hj']
    exact h _ (List.getElem_mem hj')
section
variable {X : Cx} {pins : List (Addr × Obj)} {σ : L2.St} {H1 : Hp} {s1 : Shared} {ds : List D} {k : Nat} {c P g : Addr} {scope : Scope} {its : List Value} {a : Addr} {xs : List V}
/-- the element: is_peg(peg), of the i-th item -/
theorem elt_ok {cenv : Env} {A' : Around} {E' : Value → Shared → Prop} {s2 : Shared} {m2 : Str → Option Value} {v : Value} {i : Nat} {q1 q2 q3 : Pos} (I1 : L2.Inv X pins σ H1 s1) (hT : X.mg "type" = none) (hI : X.mg "int" = none) (Z : Two X.K X.mg g) (hmg : X.mg "is_peg" = some (.ref g))
    (rv : Vals xs its) (ra : RA X.K H1 xs ds) (hk : ∀ (j : Nat) (d : D), ds[j]? = some d → ∃ n, Kd d n) (hv : its.toArray[i]? = some v) (ck : cenv.scope.kind = .function) (cg : cenv.kindOf "is_peg" = some .globalImplicit) (cl : cenv.kindOf "peg" = some .local) (cm : cenv.globals = mainGlobals)
    (hns : s2.heap.Ns cenv.locals m2) (hm2 : m2 "peg" = some v) (hA : A'.depth + 2 < recursionLimit) (keep : ∀ b o, (∀ ps, o ≠ ({ cls := .none, data := .fields ps } : Obj)) → s1.heap.get? b = some o → s2.heap.get? b = some o) (base : ∀ b o, X.base.get? b = some o → s2.heap.get? b = some o) :
    wpAny (model X.prog X.w) A' (eval (.Call (.Name "is_peg" q1) [.Name "peg" q2] [] q3) cenv) (fun y s3 => (∃ d, ds[i]? = some d ∧ y = .bool (isW d 2)) ∧ Keeps s2 s3) E' s2 := by
  have hv' : its[i]? = some v := by simpa using hv
  have hi : i < xs.length := by
    rw [rv.length]
    exact (List.getElem?_eq_some_iff.mp hv').1
  obtain ⟨x, hx⟩ : ∃ x, xs[i]? = some x := ⟨_, List.getElem?_eq_getElem hi⟩
  obtain ⟨u, hu, ru⟩ := rv.get hx
  rw [hv'] at hu
  cases hu
  obtain ⟨d, hd, rd⟩ := ra.getV hx
  obtain ⟨n, kd⟩ := hk i d hd
  have M2 : L2.Mod X.K X.mg s2.heap := Mod.keeps I1.ok.mod base
  have tyv : ∀ s' : Shared, (∀ b o, s2.heap.get? b = some o → s'.heap.get? b = some o) → s'.TypeIs v n := fun s' k' => by
    rcases cls_of I1 rd ru kd with h | ⟨q, o, rfl, ho, hc⟩
    · exact h s'
    · exact ⟨o, k' _ _ (keep q o (fun ps e => by rw [e] at hc; cases hc) ho), hc⟩
  refine wpAny_Call_Name_kw (gl M2 ck cg cm hmg ?_)
  refine PySem.W.callWith_K (h₀ := X.base) I1.ok.mod.kin Z.kp (Calls.spliced_cons (lc hns hm2 ck cl (Calls.spliced_nil ⟨M2.kin, ?_⟩))) rfl rfl
  refine wpAny_call (codeAny_mono (Z.run M2 hT hI hA kd.mem tyv (fun e => ?_) fun e => ?_) fun r s' h => ?_)
  · obtain ⟨i, rfl⟩ := kd.int_inv e
    cases rd
    obtain ⟨t, rfl⟩ := ru
    exact ⟨_, _, rfl⟩
  · rw [isWv_eq rd ru]
    cases kd <;> first | rfl | exact absurd rfl e
  · obtain ⟨h1, h2⟩ := h
    subst h1
    exact ⟨⟨d, hd, by rw [isWv_eq rd ru]⟩, h2⟩
end
section
variable {X : Cx} {T : List Addr} {ρ : Rho} {iter : Expr} {ds : List D} {k : Nat} {c P g : Addr} {q1 q2 q3 px p pos gpos : Pos} {scope : Scope}
theorem pd_all (hr : Room k X.A) (hT : X.mg "type" = none) (hI : X.mg "int" = none) (hm : X.mg "all" = none) (hP : P ∈ T) (TB : GxR.TabB X.base X.mg c P) (hcode : X.env.code = .ref c) (S : GxR.GenS X.env scope "peg") (Z : Two X.K X.mg g) (hmg : X.mg "is_peg" = some (.ref g)) (gl0 : scope.names.lookup ("is_peg" : Str) = some NameKind.globalImplicit)
    (hi : PD X T ρ iter (.v (.tup ds))) (hk : ∀ d ∈ ds, ∃ n, Kd d n) (hg : Gl X "all" := by rfl) (hs : ∀ v, genFold iter X.env v = pure v := by intro _; rfl)
    (he : starEach [.GeneratorExp (.Call (.Name "is_peg" q1) [.Name "peg" q2] [] q3) [⟨.Name "peg" px, iter, [], 0⟩] scope gpos] X.env = (false, eval (.GeneratorExp (.Call (.Name "is_peg" q1) [.Name "peg" q2] [] q3) [⟨.Name "peg" px, iter, [], 0⟩] scope gpos) X.env) :: starEach [] X.env := by rfl) :
    PD X T ρ (.Call (.Name "all" p) [.GeneratorExp (.Call (.Name "is_peg" q1) [.Name "peg" q2] [] q3) [⟨.Name "peg" px, iter, [], 0⟩] scope gpos] [] pos) (.v (.bl (ds.all fun d => isW d 2))) := by
  refine ⟨fun pins s σ H Q I ⟨B0, H0, B, SS, kq⟩ => ?_⟩
  refine wpAny_Call_Name_kw (ld_blt I hg hm (by decide +kernel : bootBuiltins "all" = some (.builtin "all")) ?_)
  refine PyProof.Rows.callWith_builtin1 ?_ he (by rfl)
  rw [he]
  refine Calls.spliced_cons ?_
  have hdp := hr.dp
  refine wpAny_GeneratorExp_walksQD hr.hd S.co (closure_ok S.free) S.cell S.dot S.loc S.kind (by omega) ?_ hs
  refine thn (hi.run pins s σ H (fun v H1 => ∃ B1, Fwd B H B1 H1 ∧ R X.K B1 v (.tup ds)) I ⟨B0, H0, B, SS, fun v B1 H1 f r => ⟨B1, f, r⟩⟩) fun xv s1 ⟨v, H1, I1, r1, B1, f1, q1⟩ => ?_
  cases q1 with
  | @tup a xs _ hst ra =>
  cases r1
  obtain ⟨its, rv, ht, hz⟩ := I1.tuple (sqt_mono f1.e2 hst)
  have htab : H1 P = some (TabO P) := SS.am.mono f1.ex P hP
  obtain ⟨ps, hps, htr⟩ := tab_at I1.hok htab
  have hPlt : P < s1.heap.objs.size := Heap.lt_size hps
  refine wpAny_pyIter_tuple (show s1.heap.IsTuple a its.toArray from ht) ?_
  have hlim : (s1.heap.push ({ cls := .type "tuple_iterator", data := .fields #[.ref a, .int 0 0] } : Obj)).NoLimit := I1.nolimit.push _
  have itNew : (s1.heap.push ({ cls := .type "tuple_iterator", data := .fields #[.ref a, .int 0 0] } : Obj)).get? s1.heap.objs.size = some ({ cls := .type "tuple_iterator", data := .fields #[.ref a, .int 0 0] } : Obj) := Heap.get?_push_size _ rfl
  have szN : (s1.heap.push ({ cls := .type "tuple_iterator", data := .fields #[.ref a, .int 0 0] } : Obj)).objs.size = s1.heap.objs.size + 1 := Heap.size_push ..
  have old : ∀ b o, s1.heap.get? b = some o → (s1.heap.push ({ cls := .type "tuple_iterator", data := .fields #[.ref a, .int 0 0] } : Obj)).get? b = some o := fun b o e => Heap.get?_push_of_some _ e
  generalize s1.heap.push ({ cls := .type "tuple_iterator", data := .fields #[.ref a, .int 0 0] } : Obj) = hN at hlim itNew szN old ⊢
  have hPN : hN.get? P = some { cls := .none, data := .fields ps } := old _ _ hps
  have cdN : PySem.W.CodeHd hN c P := TB.code.keeps fun b u e => old _ _ (I1.bk b u e)
  have kBase : ∀ b o, X.base.get? b = some o → b ≠ P := fun b o e z => by
    have q := (I1.bs b o e).2
    rw [z, htab] at q
    cases q
  have cSt : cStatics ≠ P ∧ cStatics < s1.heap.objs.size := by
    obtain ⟨mc, hns, _⟩ := I1.nolimit
    refine ⟨fun z => ?_, hns.lt⟩
    obtain ⟨o, es, ep, e1, e2, _⟩ := hns
    rw [z, hps] at e1
    cases e1
    cases e2
  have aP : a ≠ P := fun z => by
    obtain ⟨o, e1, e2, _⟩ := ht
    rw [z, hps] at e1
    cases e1
    cases e2
  have alt : a < s1.heap.objs.size := ht.lt
  have cont : ∀ (code : Value) (h3 : Heap) (tk : Nat) (ps' : Array Value), Heap.ExtBut P hN h3 → hN.objs.size ≤ h3.objs.size → h3.get? P = some { cls := .none, data := .fields ps' } → TriplesOk ps'.toList →
      wpAny (model X.prog X.w) X.A (builtinsFor X.env.globals X.env.builtins) (fun bi s4 => ∃ Ia fp wr n0 Pf St0 pz F, Value.ref s1.heap.objs.size = .ref Ia ∧ (∀ A' : Around, A'.handled = none → Walks X.prog X.w A' Ia fp wr n0 Pf St0) ∧ St0 0 s4.heap ∧ (∀ b ∈ fp, b < s4.heap.objs.size) ∧ s4.heap.NoLimit ∧ cStatics ∉ wr ∧
        (∀ href : Heap, (∀ b o, s4.heap.get? b = some o → href.get? b = some o) → QuietGenD X.prog X.w (genEnv scope (cloFrom X.env.cells scope.names []) s4.heap.objs.size code bi X.env) "peg" [] (.Call (.Name "is_peg" q1) [.Name "peg" q2] [] q3) (List.range s4.heap.objs.size) wr Pf pz F href (X.A.depth + 1) (X.A.units + 8)) ∧
        (∀ a h5 tk gs, gs.bare = true → s4.heap.objs.size < a → h5.objs.size = a + 1 → (∀ b o, s4.heap.get? b = some o → h5.get? b = some o) →
          WalksS X.prog X.w X.A.in4 a (a :: s4.heap.objs.size :: List.range s4.heap.objs.size) (s4.heap.objs.size :: wr) (GenOnlyQ s4.gens.size) (passing pz n0 0).length (fun j y => ∃ i, (passing pz n0 0)[j]? = some i ∧ F i y) (GenAt X.prog X.w X.A.in4 a s4.gens.size s4.heap.objs.size (List.range s4.heap.objs.size) wr pz n0 F) →
          GenAt X.prog X.w X.A.in4 a s4.gens.size s4.heap.objs.size (List.range s4.heap.objs.size) wr pz n0 F 0 { s4 with gens := s4.gens.push gs, toks := tk, heap := h5 } →
          wpAny (model X.prog X.w) X.A (spliced (backTo pos (starEach [] X.env))) (fun vs s2 => wpAny (model X.prog X.w) X.A (call (.builtin "all") (.ref a :: vs)) (EP X pins σ Q) X.xe s2) X.xe { s4 with gens := s4.gens.push gs, toks := tk, heap := h5 })) X.xe { s1 with heap := h3, toks := tk } := by
    intro code h3 tk ps' hx hsz hP3 ht3
    obtain ⟨bm, ob, e1, e2, e3, e4, e5, e6, e7, e8⟩ := TB.bm
    have keep3 : ∀ b u, b ≠ P → s1.heap.get? b = some u → h3.get? b = some u := fun b u hb e => hx b u hb (old _ _ e)
    refine wpAny_builtinsFor (m := X.mg) (by rw [I1.ok.glob]; exact (I1.mod.glob.keeps fun b o e => old _ _ (I1.bk b o e)).extBut hx TB.gP) e1 e2 (keep3 _ _ e4 (I1.bk _ _ e5)) e6 e7 e8 ?_
    refine ⟨s1.heap.objs.size, [s1.heap.objs.size, a], [s1.heap.objs.size], its.toArray.size, fun i v => its.toArray[i]? = some v, fun i h => h.IsTupleIter s1.heap.objs.size a i ∧ h.IsTuple a its.toArray, fun _ => true, fun i y => ∃ d, ds[i]? = some d ∧ y = .bool (isW d 2), rfl,
      fun A' hA => Walks.tuple hA _ _ (Nat.ne_of_lt alt) its.toArray, ⟨?_, ?_⟩, ?_, hlim.extBut hx cSt.1, ?_, ?_, ?_⟩
    · exact ⟨_, hx _ _ (Nat.ne_of_gt hPlt) itNew, rfl, rfl⟩
    · obtain ⟨o, g1, g2⟩ := ht
      exact ⟨o, keep3 _ _ aP g1, g2⟩
    · intro b hb
      simp only [List.mem_cons, List.not_mem_nil, or_false] at hb
      rcases hb with z | z
      · rw [z]
        show s1.heap.objs.size < h3.objs.size
        omega
      · rw [z]
        exact Nat.lt_trans alt (show s1.heap.objs.size < h3.objs.size by omega)
    · intro z
      simp only [List.mem_cons, List.not_mem_nil, or_false] at z
      exact Nat.ne_of_lt cSt.2 z
    · intro href hhref
      refine ⟨fun A' E' i v s2 m2 hA _ _ hPv hn hm hk2 => ?_, fun A' E' i v s2 m2 hA hd hu hPv hp hn hm hk2 => ?_⟩
      · simp only [List.forIn_nil]
        exact wpAny_pure ⟨rfl, keeps_self _⟩
      · have kk : ∀ b o, b ≠ P → s1.heap.get? b = some o → s2.heap.get? b = some o := fun b o hb e => hk2 b (List.mem_range.mpr (Heap.lt_size (keep3 b o hb e))) (by
            simp only [List.mem_cons, List.not_mem_nil, or_false]
            exact Nat.ne_of_lt (Heap.lt_size e)) o (hhref b o (keep3 b o hb e))
        refine elt_ok (A' := A') I1 hT hI Z hmg rv (ra.mono f1.e2) (fun j d hd => hk d (List.mem_of_getElem? hd)) hPv S.kind gl0 S.loc I1.ok.glob hn hm (by omega) (fun b o hb e => kk b o (fun z => ?_) e) fun b o e => kk b o (kBase b o e) (I1.bk b o e)
        rw [z, hps] at e
        cases e
        exact hb _ rfl
    · intro ga h5 tk5 gs hgb hag hsz5 hk5 W5 hat
      refine Calls.spliced_nil ?_
      simp only [GxR.passing_true, List.length_range] at W5
      have W6 := W5.in4_1
      refine call_all_walkS (W6.self 0 _ _ _ hat ⟨ga, _, _, _, _, _, _, trD ds, rfl, W6, hat, ?_, fun s' hmv => ?_⟩)
      · intro j y sj Qj Ej hy hQj
        obtain ⟨i, hij, d, hd, rfl⟩ := hy
        obtain ⟨hj, ej⟩ := List.getElem?_eq_some_iff.mp hij
        rw [List.getElem_range] at ej
        subst ej
        unfold trD at hQj
        rw [hd] at hQj
        exact wpAny_truthy_bool hQj
      · have nw : ∀ b u, s1.heap.get? b = some u → b ∉ h3.objs.size :: [s1.heap.objs.size] := fun b u e => by
          have hl : b < s1.heap.objs.size := Heap.lt_size e
          have hl3 : s1.heap.objs.size < h3.objs.size := by omega
          intro z
          simp only [List.mem_cons, List.not_mem_nil, or_false] at z
          rcases z with z | z
          · exact Nat.ne_of_lt (Nat.lt_trans hl hl3) z
          · exact Nat.ne_of_lt hl z
        have J : L2.Inv X pins σ H1 s' := inv_grown I1 htab (fun b u hb e => hmv.heap b u (nw b u e) (hk5 b u (keep3 b u hb e))) (hmv.heap P _ (nw P _ hps) (hk5 P _ hP3)) ht3 hmv.os (AllBare.movedS (I1.bare.push hgb) hmv)
        refine ⟨.bl _, H1, J, rfl, ?_⟩
        have e : its.toArray.size = ds.length := by
          rw [List.size_toArray, ← rv.length, ra.length]
        rw [e, all_trD]
        exact kq _ _ _ f1 (.bl _)
  refine ⟨hlim, ?_⟩
  cases hf : codeAmong gpos ps.toList with
  | none =>
    refine wpAny_genexprCodeX hcode (cdN.code hPN htr) (cdN.tab hPN) hf fun c' h' tk hx hge hlt hco' _ htab' _ => ?_
    obtain ⟨o1, vs, g1, tf, fl, tg, inF, tx, tt, op, _, _, _, _, _, _, _, _, _, htr', _⟩ := hco'
    exact cont _ h' tk _ hx (Nat.le_trans hge (Nat.le_of_lt hlt)) htab'.2 htr'
  | some cv =>
    refine wpAny_genexprCode_hit hcode (cdN.code hPN htr) hf ?_
    exact cont cv hN s1.toks ps (Heap.ExtBut.refl _ _) (Nat.le_refl _) hPN htr
end
end GX
/-! # A def whose code object is named; tuples repeated -/
namespace DX
open PySem PySem.Spec PyProof.Rows L2
/-- as kn_mk, the def's code object named -/
theorem kn_mkC {P : Program} {w : World} {K : PySem.W.Frag} {mg : Str → Option Value} {base : Heap} {T : List Addr} {k : Nat} {x : Str} {st : Stmt} {f : Addr} {oc : Value} {od an : Option Addr} {osl : Array (Option Value)} {kV doc pm cdv ct : Value} {N ps : List Str} {Rel : List D → Out → Prop}
    (lk : K.lookup f = some ⟨oc, od, .func (PySem.W.fnOf x x (defArgs st) (defBody st) (defScope st) .none kV doc pm an cdv ct), osl⟩) (hcd : PySem.W.codeIn K cdv x = true) (kp : PySem.W.keepIn K (.ref f) = true) (S : FnScope N ps (defScope st)) (hm : mg x = some (.ref f))
    (hb : Binds K (PySem.W.fnOf x x (defArgs st) (defBody st) (defScope st) .none kV doc pm an cdv ct) ps []) (hl : ∀ ds o, Rel ds o → ds.length = ps.length)
    (body : ∀ (A : Around) (outer : List Env) (s : Shared) (B H : Hp) (E : XK) (ds : List D) (o : Out), Room k (A.deeper (envOfC x (defScope st) s.heap.objs.size f cdv)) → Rel ds o → XW K H E o →
      PXs (cxOf (L2.CX P w) P w K mg base N x (defScope st) f cdv A outer s H E) T B H (rho0 N ds) (defBody st) (postOf o)) : Kn P w K mg base T (k + 1) x Rel := by
  refine ⟨f, _, ps, fn_of lk hcd S (fun vs H Q E h => ?_) (fun A outer s H vs Q E hr h => ?_), hm, kp, hb⟩
  · obtain ⟨B, ds, o, e, am, ra, rel, _⟩ := h
    rw [ra.length]
    exact hl _ _ rel
  · obtain ⟨B, ds, o, e, am, ra, rel, ow, xw⟩ := h
    refine ⟨_, body A outer s B H E ds o hr rel xw, B, sd_start e am ra, fun ρ' σ' B' H' hn _ S' => ?_, fun r v B' H' hrt f' am' rs => ?_, fun _ _ _ _ z => ?_, fun _ _ _ _ z => ?_⟩
    · cases o with
      | ret r =>
        have hn' : r = .v .non := hn
        subst hn'
        exact ow _ B' H' S'.fw .non
      | exc _ => exact False.elim hn
      | excA _ _ _ => exact False.elim hn
    · cases o with
      | ret r' =>
        have hn' : r = r' := hrt
        subst hn'
        exact ow _ B' H' f' rs
      | exc _ => exact False.elim hrt
      | excA _ _ _ => exact False.elim hrt
    · cases o <;> exact False.elim z
    · cases o <;> exact False.elim z
end DX
/-! # A refusal with a field, whose __init__ says Base.__init__(self, f'..{at}'); self.at = at -/
namespace DX
open PySem PySem.Spec PyProof.Rows L2
/-- what may stand in the braces here -/
def Fm (x : V) : Prop := x = .non ∨ ∃ i : Int, x = .int i ∧ i.natAbs.log2 < 1920
theorem len_int {i : Int} (h : i.natAbs.log2 < 1920) : (Str.ofString (toString i)).length ≤ 100000 := by
  have e := int_text_length_le (k := 1920) (by decide) h
  rw [PySem.ofString_length]
  omega
section
variable {X : Cx}
def tFmX (te : TE) : TE := fun σ H Q => te σ H fun x H1 => Fm x ∧ ∀ y : Str, y.length ≤ 100000 → Q (.str y) H1
theorem pe_fmX {e : Expr} {te : TE} {pos : Pos} (he : PE X e te) : PE X (.FormattedValue e (-1) none pos) (tFmX te) := by
  refine ⟨fun pins s σ H Q I h => wpAny_FormattedValue_plain (thn (he.run pins s σ H _ I h) fun v s1 ⟨x, H1, I1, r1, f, q⟩ => ?_)⟩
  rcases f with rfl | ⟨i, rfl, hi⟩
  · cases r1
    exact wpAny_formatField_none ⟨.str _, H1, I1.tok _, ⟨_, rfl⟩, q _ (by decide)⟩
  · obtain ⟨t, rfl⟩ := r1
    exact wpAny_formatField_int hi ⟨.str _, H1, I1.tok _, ⟨_, rfl⟩, q _ (len_int hi)⟩
/-- P.__init__(self, ..), P a class of the text over ValueError without __init__ -/
structure PeI (K : PySem.W.Frag) (mg : Str → Option Value) (x : Str) : Prop where
  it : ∃ (Pc : Addr) (mc : Value), mg x = some (.ref Pc) ∧ ClX.CRead K Pc mc ∧ PySem.W.findCls K (.ref Pc) mc "__init__" = some (.val (.builtin "ValueError.__init__"))
theorem pe_pinit {x : Str} {e : Expr} {es : List Expr} {ta : TA} {p1 p2 pos : Pos} {pl : Sem Bool} (c : PeI X.K X.mg x) (ha : PA X (e :: es) ta) (hg : Gl X x := by rfl) (hd : (x == ("__debug__" : Str)) = false := by decide)
    (hc : eval (.Call (.Attribute (.Name x p1) "__init__" p2) (e :: es) [] pos) X.env = (do
      let ov ← eval (.Name x p1) X.env
      standAt p2.atName
      let (f, first) ← holding [ov] (getMethod ov "__init__" pl)
      callWith pos f first (backTo pos (starEach (e :: es) X.env)) (backToKw pos (keywordEach [] X.env))) := by rfl)
    (he : starEach (e :: es) X.env = (false, eval e X.env) :: starEach es X.env := by rfl) (hpl : (backTo pos (starEach es X.env)).any (·.1) = false := by rfl) :
    PE X (.Call (.Attribute (.Name x p1) "__init__" p2) (e :: es) [] pos) (tVeI X.K ta) := by
  obtain ⟨Pc, mc, hm, rd, fc⟩ := c.it
  refine ⟨fun pins s σ H Q I h => PySem.W.methodCall_KW (ld_glob I hg hm ?_ hd) hc⟩
  refine PySem.W.method_cls I.kIn rd.ga (PySem.W.cls_value I.kIn rd.rd fc rfl ?_)
  show wpAny _ _ (callWith pos (Value.builtin "ValueError.__init__") [] _ _) _ _ _
  refine PyProof.Rows.callWith_method1 (thn (ha.run pos pins _ σ H _ (I.tok _) h) fun us s1 ⟨vs, H1, I1, r1, a, C, ws, ev, hl, Z, ea, q⟩ => ?_) he hpl
  subst ev
  cases r1 with
  | cons ra rb =>
    cases ra
    exact oinit_ok Z I1 ea (by rw [← Paired.length rb]; exact line_of (Nat.le_trans hl (by decide))) fun s' J => ⟨.non, H1, J, rfl, q⟩
end

/-- what __init__ promises -/
def spIni (K : PySem.W.Frag) : Sp := fun vs H Q _ => ∃ (a C : Addr) (x : V), vs = [.ref a, x] ∧ OexC K C ∧ PySem.W.findIn K (.ref C) "at" = some none ∧ H a = some (exo a C none) ∧ Fm x ∧ ∀ dx, H dx = none → dx ≠ a → Q .non (upd (upd H dx (exd dx [("at", x)])) a (exo a C (some dx)))
section
variable {X : Cx} {T : List Addr} {B0 H0 : Hp} {ρ : Rho} {e : Expr} {pos p p3 : Pos} {d : D} {k : Nat} {x : Str} {P : Post}
theorem Fm.of {d : D} {K : PySem.W.Frag} {H : Hp} {v : V} (r : R K H v d) (h : d = .non ∨ ∃ i : Int, d = .int i ∧ i.natAbs.log2 < 1920) : Fm v := by
  rcases h with rfl | ⟨i, rfl, hi⟩
  · cases r
    exact .inl rfl
  · cases r
    exact .inr ⟨i, rfl, hi⟩
/-- raise C(e), C's __init__ as above -/
theorem px_raiseA {E : XK} {C fI : Addr} {fdI : FuncData} (hc : X.calm = true) (tk : Takes X (fun cls d _ H => E cls d H)) (oex : OexC X.K C) (iC : PySem.W.findIn X.K (.ref C) "__init__" = some (some (.ref fI))) (tI : PySem.W.typeIn X.K (.ref fI) = some (.type "function")) (nA : PySem.W.findIn X.K (.ref C) "at" = some none)
    (FI : FnOk X.prog X.w X.K X.mg X.base (L2.CX X.prog X.w) k fI fdI ["self", "at"] (spIni X.K)) (hr : Room (k + 1) X.A) (hb : Binds X.K fdI ["self", "at"] []) (hm : X.mg x = some (.ref C)) (ha : PD X T ρ e (.v d)) (hd : d = .non ∨ ∃ i : Int, d = .int i ∧ i.natAbs.log2 < 1920) (hx : XW X.K H0 E (.excA C "at" d))
    (hg : Gl X x := by rfl) (hdb : (x == ("__debug__" : Str)) = false := by decide) (he : starEach [e] X.env = (false, eval e X.env) :: starEach [] X.env := by rfl) : PX X T B0 H0 ρ (.Raise (some (.Call (.Name x p) [e] [] p3)) none pos) P :=
  PS.imp (ps_raise hc tk (pmk_oex oex iC tI FI hr hb .nil passL hg hm (pa_cons ha pa_nil he) hdb he rfl)) fun Z σ H ⟨B, S, _⟩ => by
    refine ⟨B0, H0, B, S, fun v B1 H1 f1 q1 => ⟨by show 1 ≤ 1000; decide, fun a ha => ?_⟩⟩
    have s1 : Same H1 (upd H1 a (exo a C none)) := Same.new ha
    refine ⟨a, C, v, rfl, oex, nA, upd_same, Fm.of q1 hd, fun dx hdx ne => ⟨rfl, dx, [("at", v)], upd_same, ?_, s1.free hdx, ?_⟩⟩
    · rw [upd_ne ne, upd_same]
    · have h1 : H1 dx = none := s1.free hdx
      have hs : d.scal = true := by
        rcases hd with rfl | ⟨i, rfl, _⟩ <;> rfl
      refine hx _ dx v (S.fw.ex.trans (f1.ex.trans fun b o e => ?_)) (S.fw.ex.free (f1.ex.free h1)) upd_same (R.scal hs q1)
      rw [upd_ne (ne_of_none e h1), del_ne (ne_of_none e ha), upd_ne (ne_of_none e ha), upd_ne (ne_of_none e h1), upd_ne (ne_of_none e ha)]
      exact e
end
end DX
/-! # try: BODY / except C as n: x = n — the error is kept, as an object of its own -/
namespace DX
open PySem PySem.Spec PyProof.Rows L2
theorem xo_ok {P : Program} {w : World} {H : Hp} {h : Heap} {a : Addr} {cls : Value} {d : Option Addr} {oe : Obj} {vs : Array Value} (e : h.get? a = some oe) (z : Zc cls d oe) (f : oe.data = .fields vs) : ObjOk P w H h a (XO cls d a) :=
  ⟨⟨oe, vs, e, z, f⟩, ⟨oe, e⟩, fun h1 h2 ⟨o, us, e1, z1, f1⟩ k => ⟨o, us, k _ e1, z1, f1⟩⟩
section
variable {X : Cx} {pins : List (Addr × Obj)} {σ : L2.St} {H : Hp} {s : Shared} {a : Addr}
/-- an object that came in this call is tracked from now on -/
theorem inv_track {o : HO} (I : L2.Inv X pins σ H s) (na : H a = none) (old : X.s_0.heap.get? a = none) (hL : a ≠ X.env.locals) (hc : ∀ x c, X.env.cells.lookup x = some c → c ≠ a) (hp : ∀ p ∈ X.pn ++ pins, p.1 ≠ a) (ok : ∀ G : Hp, ObjOk X.prog X.w G s.heap a o) : L2.Inv X pins σ (upd H a o) s := by
  have ne : ∀ b u, X.s_0.heap.get? b = some u → b ≠ a := fun b u e z => by
    rw [z, old] at e
    cases e
  have nh : ∀ {b : Addr} {u : HO}, H b = some u → b ≠ a := fun {b u} e => ne_of_none e na
  exact {
    ok := I.ok
    os := I.os
    bare := I.bare
    base := {
      keep := I.base.keep
      slot := I.base.slot
      free := fun b u e n hx => (upd_ne (ne b u e)).trans (I.base.free b u e n hx)
      there := I.base.there
      tups := fun b xs e => (upd_ne (nh (I.base.tups b xs e))).trans (I.base.tups b xs e)
      frzs := fun b u xs e => (upd_ne (nh (I.base.frzs b u xs e))).trans (I.base.frzs b u xs e)
      tbls := fun b ps e => let ⟨m, q⟩ := I.base.tbls b ps e; ⟨m, (upd_ne (nh q)).trans q⟩ }
    loc := I.loc
    cell := I.cell
    free := (upd_ne (Ne.symm hL)).trans I.free
    freeC := fun x c e => (upd_ne (hc x c e)).trans (I.freeC x c e)
    pin := fun p h => let ⟨e1, e2, e3⟩ := I.pin p h; ⟨e1, (upd_ne (hp p h)).trans e2, e3⟩
    hok := fun b u e => by
      by_cases hb : b = a
      · subst hb
        rw [upd_same] at e
        cases e
        exact ok _
      · rw [upd_ne hb] at e
        exact (I.hok b u e).stay (fun c v _ q => q) (fun c q => (upd_ne (nh q)).trans q) fun c xs q => (upd_ne (nh q)).trans q
    len := I.len }
end
/-- what is wanted of the body's error: the clause takes it, and with it kept in slot j what follows holds -/
def wHold (K : PySem.W.Frag) (c : Value) (i j : Nat) (Z : Ends) : WX := fun cls d σ H => PySem.W.exmOne K cls c = some true ∧ ∀ a, H a = none → Z.nx ((σ.set j (some (.ref a))).set i none) (upd H a (XO cls d a))
section
variable {X : Cx} {x n y : Str} {c : Value} {i j : Nat} {body : List Stmt} {np pos pos' py pn pa : Pos} {tb : WX → TS}
theorem ps_try_hold (hs : X.stack = X.env :: X.outer) (hf : X.env.frame = some X.env.locals) (hex : X.ex = []) (hN : X.N.Nodup) (hi : X.N[i]? = some n) (hj : X.N[j]? = some y) (hij : i ≠ j) (hln : X.env.kindOf n = some .local) (hly : X.env.kindOf y = some .local) (hc : Names X x c)
    (hdn : (n == ("__debug__" : Str)) = false) (hdn2 : (n == ("__classdict__" : Str)) = false) (hsw : ∀ (a : Addr) (q : List (Addr × Obj)), swapsWith (.Name n pn) (some (.Name y py)) pa.line (X.suite a q).env = pure false)
    (hb : ∀ (W : WX) (pn : List (Addr × Obj)) (xe : Value → Shared → Prop), Takes (X.tr pn xe) W → PassesOwn (model X.prog X.w) X.A X.env xe → PSs (X.tr pn xe) body (tb W)) :
    PS X (.Try body [.ExceptHandler (some (.Name x np)) (some n) [.Assign [.Name y py] (.Name n pn) pa] pos'] [] [] pos) (fun Z σ H => tb (wHold X.K c i j Z) Z σ H) := by
  refine ⟨fun pins s σ H Z I h => ?_⟩
  have ok := I.ok
  have hfr : X.A.frames = some (X.env :: X.outer) := ok.frames.trans (congrArg some hs)
  refine wpAny_Try_except (wpAny_mono ((hb (wHold X.K c i j Z) (X.pn ++ pins) (fun e s₁ => wpAny (model X.prog X.w) X.A (noteFrame e X.env) (fun _ s₂ => wpAny (model X.prog X.w) X.A (setFlight e none) (fun _ s₃ =>
    wpAny (model X.prog X.w) X.A (handleBy e X.env [.ExceptHandler (some (.Name x np)) (some n) [.Assign [.Name y py] (.Name n pn) pa] pos']) (SP X pins Z) X.xe s₃) X.xe s₂) X.xe s₁) (fun u s' xx => ?caught) PassesOwn.looking).run [] s σ H Z (I.toTry _) h) (fun f s1 hsp => ?thru) (fun e s1 he => he))
  case thru =>
    cases f with
    | next => obtain ⟨σ', H', J, q⟩ := hsp; exact wpAny_execs_nil ⟨σ', H', J.ofTry ok, q⟩
    | brk => obtain ⟨σ', H', J, q⟩ := hsp; exact ⟨σ', H', J.ofTry ok, q⟩
    | cont => obtain ⟨σ', H', J, q⟩ := hsp; exact ⟨σ', H', J.ofTry ok, q⟩
    | ret u => obtain ⟨v, σ', H', J, r, q⟩ := hsp; exact ⟨v, σ', H', J.ofTry ok, r, q⟩
  case caught =>
    obtain ⟨a, B, sI, pins', σ', H', cls, d, rfl, J', nb, up, sky, na, os, ag, hex1, hgo⟩ := xx
    have J : L2.Inv X pins σ' H' sI := J'.ofTry ok
    have sky2 : Sky B (X.env :: X.outer) a (Zc cls d) X.env.locals s'.heap := hs ▸ sky
    refine Sky.land Zc.steady hfr hf sky2 fun h3 fl3 up3 => ?_
    have J3 : L2.Inv X pins σ' H' { s' with heap := h3 } := J.landed nb fl3.1 (up.trans up3) os ag
    obtain ⟨oe3, vs3, he3, hz3, hd3⟩ := fl3.there
    have aB : B.get? a = none := fl3.2.1
    have nfr : a ∉ frs (X.env :: X.outer) := fun hm => by
      obtain ⟨_, o', e', hnf⟩ := fl3.2.2.1.mem hm
      rw [he3] at e'
      cases e'
      exact hnf _ hd3
    have nL : a ≠ X.env.locals := fun z => nfr (List.mem_filterMap.mpr ⟨X.env, List.mem_cons_self, by rw [hf, z]⟩)
    have nF : a ∉ X.fs := fun hm => by
      obtain ⟨e, he, q⟩ := List.mem_filterMap.mp hm
      exact nfr (List.mem_filterMap.mpr ⟨e, List.mem_cons_of_mem _ he, q⟩)
    -- what stood ahead of the error is not the error
    have inB : ∀ b u, sI.heap.get? b = some u → b ≠ a := fun b u e z => by
      have q := nb b u e (by rw [hs, z]; exact nfr)
      rw [z, aB] at q
      cases q
    have old : X.s_0.heap.get? a = none := by
      cases e : X.s_0.heap.get? a with
      | none => rfl
      | some u =>
        obtain ⟨u', e'⟩ := J.base.there a u e (by rw [hex]; simp)
        exact absurd rfl (inB a u' e')
    have cellN : ∀ z q, X.env.cells.lookup z = some q → q ≠ a := fun z q e => by
      obtain ⟨v, o, ho, _⟩ := J.cell z q e
      exact inB q o ho
    have pinN : ∀ p ∈ X.pn ++ pins, p.1 ≠ a := fun p hp => inB p.1 p.2 (J.pin p hp).1
    have S3 := J3.suite he3 hd3 na nL nF
    refine wpAny_handleBy_cons (codeAny_handlers_test ?_) (by intro q; cases q)
    have LT : PySem.W.Looks (model X.prog X.w) h3 (typeOf (.ref a)) cls := fun A Q E s k q => wpAny_typeOf_ref (k _ _ he3) (by rw [hz3.1]; exact q)
    have LM := PySem.W.exm_one (M := model X.prog X.w) J3.kIn LT hex1
    have nameC : ∀ {Q : Value → Shared → Prop} {E : Value → Shared → Prop}, Q c { s' with heap := h3 } → wpAny (model X.prog X.w) (X.A.mark (some (.ref a))) (eval (.Name x np) X.env) Q E { s' with heap := h3 } := fun {Q E} q => by
      obtain ⟨hg, hdb, hm | ⟨hm, hv, hnn⟩⟩ := hc
      · exact ld_glob (X := X.suite a _) S3 hg hm q hdb
      · exact ld_blt (X := X.suite a _) S3 hg hm hv q hnn hdb
    refine nameC (LM.here (codeAny_handlers_suite_as (HandSPX.lands_againZ fl3 fun h4 fl4 up4 => ?_)))
    have J4 : L2.Inv X pins σ' H' { s' with heap := h4 } := J.landed nb fl4.1 ((up.trans up3).trans up4) os ag
    obtain ⟨oe4, vs4, he4, hz4, hd4⟩ := fl4.there
    have S4 := J4.suite he4 hd4 na nL nF
    refine store_ok (X := X.suite a _) (v := .ref a) S4 hN hi (.inl hln) rfl (fun s5 S5 => ?_) (.inr hln)
    have run := (pss_one (ps_set (X := X.suite a ((a, oe4) :: (X.pn ++ pins))) (i := j) (pos' := py) (pos := pa) hN hj (.inl hly) (pe_var (X := X.suite a ((a, oe4) :: (X.pn ++ pins))) (i := i) (pos := pn) hi (.inl hln) hdn hdn2) (hsw a _) (.inr hly))).run [] s5 (σ'.set i (some (.ref a))) H'
      { nx := fun σ6 H6 => σ6 = (σ'.set i (some (.ref a))).set j (some (.ref a)) ∧ H6 = H', rt := fun _ _ => False } S5 ⟨_, List.getElem?_set_self (by rw [J.len]; exact (List.getElem?_eq_some_iff.mp hi).1), rfl, rfl⟩
    refine wpAny_mono run (fun f s6 hsp => ?_) (fun _ _ z => False.elim z)
    cases f with
    | next =>
      obtain ⟨σ6, H6, S6, e1, e2⟩ := hsp
      subst e1 e2
      refine gone_ok (X := X.suite a ((a, oe4) :: (X.pn ++ pins))) S6 hN hi hln fun s7 S7 => ?_
      have at7 : s7.heap.get? a = some oe4 := (S7.pin (a, oe4) (List.mem_append_left _ List.mem_cons_self)).1
      have J7 := S7.unsuite ok
      have J8 := inv_track J7 na old nL cellN pinN fun G => xo_ok at7 hz4 hd4
      refine ⟨_, _, J8, ?_⟩
      rw [List.set_comm _ _ (Ne.symm hij), List.set_set]
      have q := hgo a na
      rw [List.set_comm _ _ (Ne.symm hij)] at q
      exact q
    | brk => obtain ⟨_, _, _, z⟩ := hsp; exact z.elim
    | cont => obtain ⟨_, _, _, z⟩ := hsp; exact z.elim
    | ret u => obtain ⟨_, _, _, _, _, z⟩ := hsp; exact z.elim
end
end DX
/-! # try/except over data; a kept error's class and field -/
namespace DX
open PySem PySem.Spec PyProof.Rows L2
section
variable {K : PySem.W.Frag} {T : List Addr} {B0 H0 B H : Hp} {σ : L2.St} {ρ : Rho}
/-- a slot emptied -/
theorem SD.unset {i : Nat} (S : SD K T B0 H0 B H σ ρ) : SD K T B0 H0 B H (σ.set i none) (ρ.set i .no) := by
  have n : ∀ {m : Nat} {s : Sl}, s ≠ .no → (ρ.set i Sl.no)[m]? = some s → i ≠ m ∧ ρ[m]? = some s := fun {m s} hs h => by
    by_cases hj : i = m
    · subst hj
      rw [List.getElem?_set] at h
      simp only [if_true] at h
      split at h
      · cases h
        exact absurd rfl hs
      · cases h
    · rw [List.getElem?_set_ne hj] at h
      exact ⟨hj, h⟩
  refine ⟨S.fw, S.am, fun j e h => ?_, fun j es h => ?_, fun j l p es fs h1 h2 h3 h4 => ?_, by rw [List.length_set, List.length_set, S.len], S.dic.set⟩
  · obtain ⟨hj, h⟩ := n (by intro z; cases z) h
    obtain ⟨u, e1, r1⟩ := S.val j e h
    exact ⟨u, by rw [List.getElem?_set_ne hj]; exact e1, r1⟩
  · obtain ⟨hj, h⟩ := n (by intro z; cases z) h
    obtain ⟨u, vs, e1, r1⟩ := S.own j es h
    exact ⟨u, vs, by rw [List.getElem?_set_ne hj]; exact e1, r1⟩
  · obtain ⟨a1, b1⟩ := n (by intro z; cases z) h1
    obtain ⟨a2, b2⟩ := n (by intro z; cases z) h2
    rw [List.getElem?_set_ne a1] at h3
    rw [List.getElem?_set_ne a2] at h4
    exact S.sep j l p es fs b1 b2 h3 h4
end
section
variable {X : Cx} {T : List Addr} {B0 H0 : Hp} {ρ : Rho} {e : Expr} {es : List Expr} {pos p : Pos} {d : D} {k j : Nat} {x : Str} {ds : List D} {P : Post} {Rel : List D → Out → Prop}
/-- a refusal of a callee goes where W is wanted -/
theorem pr_callS {W : WX} {o : Out} (c : Kn X.prog X.w X.K X.mg X.base T k x Rel) (hr : Room j X.A) (tk : Takes X W) (ha : PAs X T ρ (e :: es) ds) (h : Rel ds o) (ho : ∀ r, o ≠ .ret r) (hj : k ≤ j := by decide) (hg : Gl X x := by rfl) (hdb : (x == ("__debug__" : Str)) = false := by decide)
    (he : starEach (e :: es) X.env = (false, eval e X.env) :: starEach es X.env := by rfl) (hpl : (backTo pos (starEach es X.env)).any (·.1) = false := by rfl) : PE X (.Call (.Name x p) (e :: es) [] pos) (fun σ H _ => ∃ B, SD X.K T B0 H0 B H σ ρ ∧ XW X.K H (fun cls d H2 => W cls d σ H2) o) := by
  obtain ⟨f, fd, ps, F, hm, hk, hb⟩ := c.it
  refine PE.imp (pe_callS F (hr.mono hj) hg hm hk hb (fun σ => passAt tk σ) ha hdb he hpl) fun σ H Q ⟨B, S, hx⟩ => ⟨B0, H0, B, S, fun vs B1 H1 f1 ra => ⟨B1, ds, o, f1.e2, S.am.mono f1.ex, ra, h, ?_, ?_⟩⟩
  · cases o with
    | ret r => exact absurd rfl (ho r)
    | exc C => trivial
    | excA C f d => trivial
  · have s1 : Same H H1 := f1.ex
    cases o with
    | ret r => trivial
    | exc C => exact fun H2 s2 => hx H2 (s1.trans s2)
    | excA C f d => exact fun H2 dx v s2 n h2 rr => hx H2 dx v (s1.trans s2) (s1.free n) h2 rr
/-- what stands in the error's slot -/
def keptD : Out → D
  | .ret _ => .non
  | .exc C => .exc C
  | .excA C f d => .excA C f d
/-- o is a refusal of a class that c takes -/
def Caught (K : PySem.W.Frag) (c : Value) : Out → Prop
  | .ret _ => False
  | .exc C => PySem.W.exmOne K (.ref C) c = some true
  | .excA C _ d => PySem.W.exmOne K (.ref C) c = some true ∧ d.scal = true
theorem hold_wants {K : PySem.W.Frag} {σ : L2.St} {B H : Hp} {o : Out} {c : Value} {i l : Nat} {Z : Ends} (S : SD K T B0 H0 B H σ ρ) (hc : Caught K c o) (hp : P.nx ((ρ.set l (.v (keptD o))).set i .no))
    (hZ : ∀ ρ' σ' B' H', P.nx ρ' → Same B B' → SD K T B0 H0 B' H' σ' ρ' → Z.nx σ' H') : XW K H (fun cls d H2 => wHold K c i l Z cls d σ H2) o := by
  cases o with
  | ret r => exact hc.elim
  | exc C =>
    refine fun H2 s2 => ⟨hc, fun a ha => ?_⟩
    have f := Fwd.top S.bh s2
    have g := f.trans (Fwd.new (o := XO (.ref C) none a) f.e2 ha)
    exact hZ _ _ _ _ hp g.eb (((S.fwd g).set (.exc upd_same)).unset)
  | excA C f d =>
    refine fun H2 dx v s2 n h2 rr => ⟨hc.1, fun a ha => ?_⟩
    have f := (Fwd.top S.bh s2).join S.bh h2 n (S.bh.free n)
    have g := f.trans (Fwd.new (o := XO (.ref C) (some dx) a) f.e2 ha)
    have nb : upd B dx (.xd [(_, v)]) a = none := f.e2.free ha
    have ne : dx ≠ a := fun z => by
      rw [← z, h2] at ha
      cases ha
    refine hZ _ _ _ _ hp g.eb (((S.fwd g).set (.excA upd_same ?_ (R.scal hc.2 rr))).unset)
    rw [upd_ne ne, upd_same]
variable {n y : Str} {c : Value} {i l : Nat} {np pos' py pn pa pc px : Pos} {body : List Stmt}
/-- try: BODY except C as n: y = n, where BODY does not raise -/
theorem px_tryR (hN : X.N.Nodup) (hc : Names X x c) (hb : ∀ (pn : List (Addr × Obj)) (xe : Value → Shared → Prop), PXs (X.tr pn xe) T B0 H0 ρ body P)
    (hi : X.N[i]? = some n := by rfl) (hj : X.N[l]? = some y := by rfl) (hij : i ≠ l := by decide) (hs : X.stack = X.env :: X.outer := by rfl) (hf : X.env.frame = some X.env.locals := by rfl) (hex : X.ex = [] := by rfl) (hln : X.env.kindOf n = some .local := by rfl) (hly : X.env.kindOf y = some .local := by rfl)
    (hdn : (n == ("__debug__" : Str)) = false := by decide) (hdn2 : (n == ("__classdict__" : Str)) = false := by decide) (hsw : ∀ (a : Addr) (q : List (Addr × Obj)), swapsWith (.Name n pn) (some (.Name y py)) pa.line (X.suite a q).env = pure false := by intros; rfl) :
    PX X T B0 H0 ρ (.Try body [.ExceptHandler (some (.Name x np)) (some n) [.Assign [.Name y py] (.Name n pn) pa] pos'] [] [] pos) P :=
  ps_try_hold (tb := fun _ => tS X.K T B0 H0 ρ P) hs hf hex hN hi hj hij hln hly hc hdn hdn2 hsw fun W pn xe _ _ => hb pn xe
/-- .. where BODY is a call that raises -/
theorem px_tryE {fn : Str} {o : Out} (hN : X.N.Nodup) (hc : Names X x c) (cf : Kn X.prog X.w X.K X.mg X.base T k fn Rel) (ha : ∀ (pn : List (Addr × Obj)) (xe : Value → Shared → Prop), PAs (X.tr pn xe) T ρ (e :: es) ds) (h : Rel ds o) (ho : Caught X.K c o) (hr : ∀ (pn : List (Addr × Obj)) (xe : Value → Shared → Prop), Room j (X.tr pn xe).A) (hp : P.nx ((ρ.set l (.v (keptD o))).set i .no)) (hk : k ≤ j := by decide)
    (hi : X.N[i]? = some n := by rfl) (hj : X.N[l]? = some y := by rfl) (hij : i ≠ l := by decide) (hs : X.stack = X.env :: X.outer := by rfl) (hf : X.env.frame = some X.env.locals := by rfl) (hex : X.ex = [] := by rfl) (hln : X.env.kindOf n = some .local := by rfl) (hly : X.env.kindOf y = some .local := by rfl)
    (hdn : (n == ("__debug__" : Str)) = false := by decide) (hdn2 : (n == ("__classdict__" : Str)) = false := by decide) (hsw : ∀ (a : Addr) (q : List (Addr × Obj)), swapsWith (.Name n pn) (some (.Name y py)) pa.line (X.suite a q).env = pure false := by intros; rfl)
    (hg : ∀ pn xe, Gl (X.tr pn xe) fn := by intros; rfl) (hdb : (fn == ("__debug__" : Str)) = false := by decide) (he : ∀ pn xe, starEach (e :: es) (X.tr pn xe).env = (false, eval e (X.tr pn xe).env) :: starEach es (X.tr pn xe).env := by intros; rfl) (hpl : ∀ pn xe, (backTo pc (starEach es (X.tr pn xe).env)).any (·.1) = false := by intros; rfl)
    (hss : ∀ pn xe, swapsWith (.Call (.Name fn p) (e :: es) [] pc) none px.line (X.tr pn xe).env = pure false := by intros; rfl) :
    PX X T B0 H0 ρ (.Try [.Expr (.Call (.Name fn p) (e :: es) [] pc) px] [.ExceptHandler (some (.Name x np)) (some n) [.Assign [.Name y py] (.Name n pn) pa] pos'] [] [] pos) P := by
  refine PS.imp (ps_try_hold (tb := fun W => fun Z σ H => ∃ B, SD X.K T B0 H0 B H σ ρ ∧ XW X.K H (fun cls d H2 => W cls d σ H2) o) hs hf hex hN hi hj hij hln hly hc hdn hdn2 hsw fun W pn xe tk _ => ?_) ?_
  · exact pss_one (PS.imp (ps_expr (pr_callS (X := X.tr pn xe) (B0 := B0) (H0 := H0) cf (hr pn xe) tk (ha pn xe) h (fun r z => by subst z; exact ho.elim) hk (hg pn xe) hdb (he pn xe) (hpl pn xe)) (hss pn xe)) fun Z σ H q => q)
  · exact fun Z σ H ⟨B, S, hZ, _⟩ => ⟨B, S, hold_wants S ho hp hZ⟩
end
end DX
/-! # isinstance of data; the field of a kept error -/
namespace DX
open PySem PySem.Spec PyProof.Rows L2
/-- what isinstance asks of an own class of refusals -/
structure ErrC (K : PySem.W.Frag) (C : Addr) : Prop where
  cl : (PySem.W.clsIn K C).isSome = true
  hg : PySem.W.findIn K (.ref C) "__getattribute__" = some (some (.builtin "BaseException.__getattribute__"))
  hk : PySem.W.findIn K (.ref C) "__getattr__" = some none
  hs : PySem.W.subIn K (.ref C) (.type "BaseException") = some true
  ha : PySem.W.findIn K (.ref C) "__class__" = some (some (.builtin "object.__class__"))
  hn : PySem.W.specialIn K (.builtin "object.__class__") "__get__" = some (some (.builtin "getset_descriptor.__get__"))
  ht : PySem.W.takesIn K (.builtin "object.__class__") = some true
  hm : PySem.W.mroIn K C (.type "object") = some true
/-- data's class -/
inductive TyD (K : PySem.W.Frag) : D → Value → Prop
  | kd {d : D} {n : String} (k : Kd d n) : TyD K d (.type n)
  | exc {C : Addr} (c : ErrC K C) : TyD K (.exc C) (.ref C)
  | excA {C : Addr} {f : Str} {d : D} (c : ErrC K C) : TyD K (.excA C f d) (.ref C)
theorem kd_x {K : PySem.W.Frag} {H : Hp} {x : V} {d : D} {n : String} (r : R K H x d) (k : Kd d n) : TyX K H x (.type n) := by
  cases k with
  | non => cases r; exact .base .non
  | bl b => cases r; exact .base (.bl b)
  | int i => cases r; exact .base (.int i)
  | str i => cases r; exact .base (.str i)
  | lst xs =>
    cases r with
    | lst h _ =>
      rcases h with h | ⟨o, h⟩
      · exact .base (.lst h)
      · exact .base (.frz h)
  | scr xs =>
    cases r with
    | scr h _ =>
      rcases h with (h | ⟨o, h⟩) | ⟨o, _, _, h, c, _⟩
      · exact .base (.lst h)
      · exact .base (.frz h)
      · exact .kList h c
  | tup xs =>
    cases r with
    | tup h _ =>
      rcases h with (h | ⟨o, h⟩) | ⟨o, _, _, h, c, _⟩
      · exact .base (.tup h)
      · exact .fTuple h
      · exact .kTuple h c
  | emp =>
    cases r with
    | ho h => exact .base (.dK h)
section
variable {X : Cx} {pins : List (Addr × Obj)} {σ : L2.St} {H : Hp} {s : Shared}
theorem inst_exc {a C : Addr} (I : L2.Inv X pins σ H s) (h : H a = some (XO (.ref C) none a)) : ∃ oe, PySem.W.InstAt s.heap a oe C none := by
  obtain ⟨⟨oe, vs, e, z, f⟩, _, _⟩ := (show ObjOk X.prog X.w H s.heap a (XO (.ref C) none a) from I.hok a _ h)
  exact ⟨oe, e, z.1, by unfold PySem.W.notCls; rw [f], by rw [z.2]; trivial⟩
theorem inst_excA {a C dx : Addr} {fs : List (Str × V)} (I : L2.Inv X pins σ H s) (h : H a = some (XO (.ref C) (some dx) a)) (h2 : H dx = some (.xd fs)) : ∃ oe od, PySem.W.InstAt s.heap a oe C (some od) ∧ ∀ n v, fs.lookup n = some v → ∃ u, PySem.W.lookIn n od = some (some u) ∧ RelV v u := by
  obtain ⟨⟨oe, vs, e, z, f⟩, _, _⟩ := (show ObjOk X.prog X.w H s.heap a (XO (.ref C) (some dx) a) from I.hok a _ h)
  have hx : ObjOk X.prog X.w H s.heap dx (.xd fs) := I.hok dx _ h2
  obtain ⟨mA, hns, hr⟩ := hx
  obtain ⟨od, ho, hl⟩ := lookIn_ns hns
  refine ⟨oe, od, ⟨e, z.1, by unfold PySem.W.notCls; rw [f], by rw [z.2]; exact ho⟩, fun n v l => ?_⟩
  obtain ⟨u, hu, ru⟩ := RelO.some_of (v := v) (o := mA n) (by rw [← l]; exact hr n)
  exact ⟨u, by rw [hl, hu], ru⟩
def rIsD (K : PySem.W.Frag) : List V → Hp → VK → Prop := fun xs H Q => ∃ (x c : V) (d : D) (t u : Value) (b : Bool), xs = [x, c] ∧ ClsV c u ∧ R K H x d ∧ TyD K d t ∧ PySem.W.kitOne K t u = some b ∧ Q (.bl b) H
theorem call_isD : CallR X (.builtin "isinstance") (rIsD X.K) := by
  intro pins s σ H xs us Q I r h
  obtain ⟨x, c, d, t, u, b, rfl, k, rd, ty, e, q⟩ := h
  cases ty with
  | kd kd => exact call_isi pins s σ H _ us Q I r ⟨x, c, _, u, b, rfl, k, kd_x rd kd, e, q⟩
  | exc C =>
    obtain ⟨u1, u2, rfl, r1, r2⟩ := vals2 r
    have e2 := k.eq r2
    subst e2
    cases rd with
    | exc h =>
      cases r1
      obtain ⟨oe, J⟩ := inst_exc I h
      exact PySem.W.kia_one (PySem.W.kitx_exc C.cl C.hg C.hk C.hs C.ha C.hn C.ht C.hm) I.kIn J e (fun z => nomatch z) fun tk => ⟨.bl b, H, I.tok tk, rfl, q⟩
  | excA C =>
    obtain ⟨u1, u2, rfl, r1, r2⟩ := vals2 r
    have e2 := k.eq r2
    subst e2
    cases rd with
    | excA h h2 _ =>
      cases r1
      obtain ⟨oe, od, J, _⟩ := inst_excA I h h2
      exact PySem.W.kia_one (PySem.W.kitx_exc C.cl C.hg C.hk C.hs C.ha C.hn C.ht C.hm) I.kIn J e (fun z => nomatch z) fun tk => ⟨.bl b, H, I.tok tk, rfl, q⟩
end
section
variable {X : Cx} {T : List Addr} {ρ : Rho} {e : Expr} {pos p p2 : Pos} {d : D} {x y : Str} {r : Sl}
/-- isinstance(e, C), C a class of the text -/
theorem pd_isiO {C : Addr} {t : Value} {b : Bool} (hm : X.mg "isinstance" = none) (he : PD X T ρ e (.tmp d)) (ty : TyD X.K d t) (hC : X.mg y = some (.ref C)) (hb : PySem.W.kitOne X.K t (.ref C) = some b)
    (hg : Gl X "isinstance" := by rfl) (hgy : Gl X y := by rfl) (hdy : (y == ("__debug__" : Str)) = false := by decide) (hse : starEach [e, .Name y p2] X.env = (false, eval e X.env) :: starEach [.Name y p2] X.env := by rfl) (hse2 : starEach [.Name y p2] X.env = (false, eval (.Name y p2) X.env) :: starEach [] X.env := by rfl)
    (hpl : (backTo pos (starEach [.Name y p2] X.env)).any (·.1) = false := by rfl) : PD X T ρ (.Call (.Name "isinstance" p) [e, .Name y p2] [] pos) (.v (.bl b)) :=
  PE.imp (pe_callB call_isD hg hm (by decide +kernel) (pa_cons he (pa_cons (pe_glob (v := .ref C) hgy hC rfl hdy) pa_nil hse2) hse) (by decide) (by decide) hse hpl) fun σ H Q ⟨B0, H0, B, S, k⟩ =>
    ⟨B0, H0, B, S, fun v B1 H1 f1 q1 => ⟨v, .ref C, d, t, _, b, rfl, .own C, q1, ty, hb, k _ _ _ f1 (.bl b)⟩⟩
/-- isinstance(e, C), C a built-in class -/
theorem pd_isiB {n : String} {t : Value} {b : Bool} (hm : X.mg "isinstance" = none) (he : PD X T ρ e (.tmp d)) (ty : TyD X.K d t) (hC : X.mg y = none) (hb : PySem.W.kitOne X.K t (.type n) = some b) (hv : bootBuiltins y = some (.type n) := by decide +kernel)
    (hg : Gl X "isinstance" := by rfl) (hgy : Gl X y := by rfl) (hny : y ≠ "__name__" := by decide) (hdy : (y == ("__debug__" : Str)) = false := by decide) (hse : starEach [e, .Name y p2] X.env = (false, eval e X.env) :: starEach [.Name y p2] X.env := by rfl) (hse2 : starEach [.Name y p2] X.env = (false, eval (.Name y p2) X.env) :: starEach [] X.env := by rfl)
    (hpl : (backTo pos (starEach [.Name y p2] X.env)).any (·.1) = false := by rfl) : PD X T ρ (.Call (.Name "isinstance" p) [e, .Name y p2] [] pos) (.v (.bl b)) :=
  PE.imp (pe_callB call_isD hg hm (by decide +kernel) (pa_cons he (pa_cons (pe_bltn (v := .ty n) hgy hC hv rfl hny hdy) pa_nil hse2) hse) (by decide) (by decide) hse hpl) fun σ H Q ⟨B0, H0, B, S, k⟩ =>
    ⟨B0, H0, B, S, fun v B1 H1 f1 q1 => ⟨v, .ty n, d, t, _, b, rfl, .ty n, q1, ty, hb, k _ _ _ f1 (.bl b)⟩⟩
/-- e.f, e a kept error -/
theorem pd_xf {C : Addr} {f : Str} (c : ErrC X.K C) (hd : PySem.W.hasDictIn X.K C = true) (hno : PySem.W.findIn X.K (.ref C) f = some none) (he : PD X T ρ e (.tmp (.excA C f d))) (hs : d.scal = true) (hb : attributeBase e f X.env (eval e X.env) = eval e X.env := by rfl) : PD X T ρ (.Attribute e f pos) (.v d) := by
  refine ⟨fun pins s σ H Q I ⟨B0, H0, B, S, k⟩ => attr_of hb (thn (he.run pins s σ H _ I ⟨B0, H0, B, S, fun v B1 H1 f1 q1 => (⟨B1, f1, q1⟩ : ∃ B1, Fwd B H B1 H1 ∧ R X.K H1 v (.excA C f d))⟩) fun u s1 hh => ?_)⟩
  obtain ⟨x, H1, I1, rx, B1, f1, q1⟩ := hh
  cases q1 with
  | @excA _ _ _ _ w _ h h2 rd =>
    cases rx
    obtain ⟨oe, od, J, hl⟩ := inst_excA I1 h h2
    obtain ⟨u, hu, ru⟩ := hl f w (by simp)
    exact HandSPX.exc_get I1.kIn J c.hg c.hk c.hs (PySem.W.findObj_own hd hno rfl hu) (handed_of ru) ⟨_, H1, I1.tok _, ru, k _ _ _ f1 (R.scal hs rd)⟩
end
end DX
/-! # List comprehensions over data -/
namespace DX
open PySem PySem.Spec PyProof.Rows L2
theorem wipe_at (σ : L2.St) (j : Nat) : ∀ vs : List Nat, (wipe σ vs)[j]? = if j ∈ vs then σ[j]?.map (fun _ => none) else σ[j]?
  | [] => by simp [wipe]
  | v :: vs => by
    unfold wipe
    by_cases h : v = j
    · subst h
      rw [if_pos List.mem_cons_self]
      by_cases hl : v < σ.length
      · rw [List.getElem?_set_self (by rw [wipe_length]; exact hl), List.getElem?_eq_getElem hl]
        rfl
      · rw [List.getElem?_eq_none (by rw [List.length_set, wipe_length]; omega), List.getElem?_eq_none (by omega)]
        rfl
    · rw [List.getElem?_set_ne h, wipe_at σ j vs]
      have e : (j ∈ v :: vs) ↔ j ∈ vs := by
        rw [List.mem_cons]
        exact ⟨fun z => z.elim (fun q => absurd q.symm h) id, Or.inr⟩
      by_cases hm : j ∈ vs
      · rw [if_pos hm, if_pos (e.mpr hm)]
      · rw [if_neg hm, if_neg fun z => hm (e.mp z)]
theorem wipe_idem (σ : L2.St) (vs : List Nat) : wipe (wipe σ vs) vs = wipe σ vs := by
  refine List.ext_getElem? fun j => ?_
  rw [wipe_at, wipe_at]
  by_cases hm : j ∈ vs
  · rw [if_pos hm, if_pos hm]
    cases σ[j]? <;> rfl
  · rw [if_neg hm, if_neg hm]
theorem wipe_set {σ : L2.St} {i : Nat} {x : Option V} {vs : List Nat} (h : i ∈ vs) : wipe (σ.set i x) vs = wipe σ vs := by
  refine List.ext_getElem? fun j => ?_
  rw [wipe_at, wipe_at]
  by_cases hm : j ∈ vs
  · rw [if_pos hm, if_pos hm]
    by_cases e : i = j
    · subst e
      by_cases hl : i < σ.length
      · rw [List.getElem?_set_self hl, List.getElem?_eq_getElem hl]
        rfl
      · rw [List.getElem?_eq_none (by rw [List.length_set]; omega), List.getElem?_eq_none (by omega)]
    · rw [List.getElem?_set_ne e]
  · rw [if_neg hm, if_neg hm, List.getElem?_set_ne fun e => hm (by rw [← e]; exact h)]
/-- slots forgotten -/
def wipeR (ρ : Rho) : List Nat → Rho
  | [] => ρ
  | v :: vs => (wipeR ρ vs).set v .no
theorem SD.wipe {K : PySem.W.Frag} {T : List Addr} {B0 H0 B H : Hp} {σ : L2.St} {ρ : Rho} (S : SD K T B0 H0 B H σ ρ) : ∀ vs : List Nat, SD K T B0 H0 B H (L2.wipe σ vs) (wipeR ρ vs)
  | [] => S
  | _ :: vs => (S.wipe vs).unset
/-- what is walked, as data: Bs, Hs are where it lies -/
structure Wk (K : PySem.W.Frag) (J : It) (ds : List D) (Bs Hs : Hp) : Prop where
  go : ∀ i B H, Same Bs B → Same Hs H → Same B H → i < ds.length → J.go i H
  yld : ∀ i B H x H', Same Bs B → Same Hs H → Same B H → i < ds.length → J.yld i H x H' → ∃ d B', ds[i]? = some d ∧ Fwd B H B' H' ∧ R K B' x d
  stop : ∀ B H, Same Bs B → Same Hs H → Same B H → J.stop ds.length H
abbrev PIt (X : Cx) (T : List Addr) (ρ : Rho) (tg e : Expr) (ds : List D) : Prop := PI X tg e (fun σ H R => ∃ B0 H0 B, SD X.K T B0 H0 B H σ ρ ∧ ∀ J B2 H2, Fwd B H B2 H2 → Wk X.K J ds B2 H → R J H2)
/-- a target: f says the slots behind it, vs the slots that it sets -/
def gD (K : PySem.W.Frag) (T : List Addr) (vs : List Nat) (f : Rho → D → Rho → Prop) : TG := fun v σ H Q => ∃ B0 H0 B ρ d ρ', SD K T B0 H0 B H σ ρ ∧ R K B v d ∧ f ρ d ρ' ∧ ∀ σ', wipe σ' vs = wipe σ vs → SD K T B0 H0 B H σ' ρ' → Q σ' H
abbrev PGD (X : Cx) (T : List Addr) (vs : List Nat) (f : Rho → D → Rho → Prop) (tg : Expr) : Prop := PG X tg (gD X.K T vs f)
theorem PG.imp {X : Cx} {tg : Expr} {t t' : TG} (h : PG X tg t) (w : ∀ v σ H R, t' v σ H R → t v σ H R) : PG X tg t' := ⟨fun pins s σ H v u R I r q => h.run pins s σ H v u R I r (w _ _ _ _ q)⟩
theorem PTs.imp {X : Cx} {e : List Expr} {t t' : TT} (h : PTs X e t) (w : ∀ σ H Q, t' σ H Q → t σ H Q) : PTs X e t' := ⟨fun pins s σ H Q I q => h.run pins s σ H Q I (w _ _ _ q)⟩
abbrev PTd (X : Cx) (T : List Addr) (ρ : Rho) (es : List Expr) (b : Bool) : Prop := PTs X es (tT X.K T ρ b)
theorem Fwd.poke {B H B2 H2 : Hp} {p : Addr} {o : HO} (f : Fwd B H B2 H2) (h : H p = none) (h2 : B2 p = none) : Fwd B H B2 (upd H2 p o) :=
  ⟨fun a u e => by rw [upd_ne (ne_of_none e h)]; exact f.ex _ _ e, f.eb, fun a u e => by rw [upd_ne (ne_of_none e h2)]; exact f.e2 _ _ e, f.fr⟩
section
variable {X : Cx} {T : List Addr} {ρ : Rho} {elt tg e : Expr} {ifs : List Expr} {scope : Scope} {own : List (Str × Nat)} {pos : Pos} {ds : List D}
theorem ptd_nil : PTd X T ρ [] true := PTs.imp pts_nil fun σ H Q ⟨B0, H0, B, S, q⟩ => q _ _ (Fwd.refl S.bh)
theorem ptd_one {b : Bool} (h : PB X T ρ e b) : PTd X T ρ [e] b := pts_one h
def fName (i : Nat) : Rho → D → Rho → Prop := fun ρ d ρ' => ρ' = ρ.set i (.v d)
def fPair (i j : Nat) : Rho → D → Rho → Prop := fun ρ d ρ' => ∃ a b, d = .tup [a, b] ∧ ρ' = (ρ.set i (.v a)).set j (.v b)
theorem pgd_name {i : Nat} {x : Str} {vs : List Nat} (hv : i ∈ vs) (hN : X.N.Nodup) (hi : X.N[i]? = some x) (hx : Loc X.env.scope x) (hf : X.fn x = true ∨ X.env.scope.names.lookup x = some .local) : PGD X T vs (fName i) (.Name x pos) :=
  PG.imp (pg_name hN hi hx hf) fun v σ H Q ⟨B0, H0, B, ρ, d, ρ', S, r, f, k⟩ => by
    cases f
    exact k _ (wipe_set hv) (S.set r)
theorem pgd_pair {i j m : Nat} {x y : Str} {vs : List Nat} {px py : Pos} (hv : i ∈ vs) (hv2 : j ∈ vs) (hN : X.N.Nodup) (hc : X.calm = true) (hi : X.N[i]? = some x) (hj : X.N[j]? = some y) (hx : Loc X.env.scope x) (hy : Loc X.env.scope y) (hf : X.fn x = true ∨ X.env.scope.names.lookup x = some .local) (hf2 : X.fn y = true ∨ X.env.scope.names.lookup y = some .local)
    (g1 : (assignEach [.Name x px, .Name y py] X.env).length = 2 := by rfl) (g2 : (assignEach [.Name x px, .Name y py] X.env).findIdx? (·.1) = none := by rfl)
    (g3 : (assignEach [.Name x px, .Name y py] X.env).map (·.2) = assign (.Name x px) X.env :: (assignEach [.Name y py] X.env).map (·.2) := by rfl)
    (g4 : (assignEach [.Name y py] X.env).map (·.2) = assign (.Name y py) X.env :: (assignEach [] X.env).map (·.2) := by rfl) : PGD X T vs (fPair i j) (.Tuple [.Name x px, .Name y py] m pos) :=
  PG.imp (pg_tup hc (pgs_cons (pg_name (i := i) hN hi hx hf) (pgs_cons (pg_name (i := j) hN hj hy hf2) pgs_nil g4) g3) g1 g2) fun v σ H Q ⟨B0, H0, B, ρ, d, ρ', S, r, f, k⟩ => by
    obtain ⟨a, b, rfl, rfl⟩ := f
    cases r with
    | tup hs ra =>
      cases ra with
      | cons r1 ra =>
        cases ra with
        | cons r2 ra =>
          cases ra
          exact ⟨_, _, rfl, sqt_mono S.bh hs, rfl, _, _, rfl, _, _, rfl, rfl, k _ (by rw [wipe_set hv2, wipe_set hv]) ((S.set r1).set r2)⟩

def wiD (K : PySem.W.Frag) (T : List Addr) (ρ : Rho) (ds : List D) : TI := fun σ H R => ∃ B0 H0 B, SD K T B0 H0 B H σ ρ ∧ ∀ J B2 H2, Fwd B H B2 H2 → Wk K J ds B2 H → R J H2
def ttD (K : PySem.W.Frag) (T : List Addr) (ρ : Rho) (vs : List Nat) (f : Rho → D → Rho → Prop) (ds : List D) (t : D → Bool) : TT := fun σ2 H2 Q => ∃ d ρ', d ∈ ds ∧ f (wipeR ρ vs) d ρ' ∧ tT K T ρ' (t d) σ2 H2 Q
def teD (K : PySem.W.Frag) (T : List Addr) (ρ : Rho) (vs : List Nat) (f : Rho → D → Rho → Prop) (ds : List D) (t : D → Bool) (m : D → D) : TE := fun σ2 H2 Q => ∃ d ρ', (d ∈ ds ∧ t d = true) ∧ f (wipeR ρ vs) d ρ' ∧ tD K T ρ' (.v (m d)) σ2 H2 Q
theorem lc_sem {K : PySem.W.Frag} {vs : List Nat} {f : Rho → D → Rho → Prop} {t : D → Bool} {m : D → D} {σ : L2.St} {H : Hp} {Q : VK} (hf : ∀ d ∈ ds, ∃ ρ', f (wipeR ρ vs) d ρ') (hl : ds.length ≤ 100000) (h : tD K T ρ (.own ((ds.filter t).map m)) σ H Q) : tLc (wiD K T ρ ds) (gD K T vs f) (ttD K T ρ vs f ds t) (teD K T ρ vs f ds t m) vs σ H Q := by
  obtain ⟨B0, H0, B, S, k⟩ := h
  refine ⟨B0, H0, B, S, fun J B2 H2 f2 wk L hL => ?_⟩
  have hLH : H L = none := f2.ex.free hL
  have S0 := S.wipe vs
  let Iv : Nat → Hp → Prop := fun i H' => ∃ B' acc, Same B2 B' ∧ Fwd B H B' H' ∧ H' L = some (.lst acc) ∧ B' L = none ∧ RA K B' acc (((ds.take i).filter t).map m)
  have step : ∀ {i : Nat} {d : D}, ds[i]? = some d → (((ds.take (i + 1)).filter t).map m) = (((ds.take i).filter t).map m) ++ (if t d then [m d] else []) := fun {i d} hd => by
    have hi := (List.getElem?_eq_some_iff.mp hd).1
    rw [List.take_add_one, hd, List.filter_append, List.map_append]
    cases q : t d <;> simp [q]
  have small : ∀ i, (((ds.take i).filter t).map m).length ≤ i := fun i => by
    rw [List.length_map]
    exact Nat.le_trans (List.length_filter_le _ _) (by rw [List.length_take]; omega)
  refine ⟨fun i n H' => n = ds.length - i ∧ i ≤ ds.length ∧ Iv i H', ⟨ds.length, by simp, Nat.zero_le _, B2, [], Same.refl _, f2.poke hLH (f2.e2.free hL), upd_same, f2.e2.free hL, .nil⟩, ?_⟩
  rintro i n H' ⟨rfl, hle, B', acc, e2, fw, hD, bD, ra⟩
  by_cases hlt : i < ds.length
  · refine .inr ⟨wk.go i B' H' e2 fw.ex fw.e2 hlt, Iv (i + 1), fun H'' q => ⟨ds.length - (i + 1), by omega, rfl, hlt, q⟩, fun x H3 y => ?_⟩
    obtain ⟨d, B3, hd, f3, rd⟩ := wk.yld i B' H' x H3 e2 fw.ex fw.e2 hlt y
    have hmem : d ∈ ds := List.mem_of_getElem? hd
    obtain ⟨ρ', hf'⟩ := hf d hmem
    have F3 := fw.trans f3
    refine ⟨B0, H0, B3, _, d, ρ', S0.fwd F3, rd, hf', fun σ' hw S' => ⟨by rw [hw]; exact wipe_idem _ _, d, ρ', hmem, hf', B0, H0, B3, S', fun B4 H4 f4 => ?_⟩⟩
    have D3 : H3 L = some (.lst acc) := f3.ex _ _ hD
    have b3 : B3 L = none := f3.fl bD hD
    have D4 : H4 L = some (.lst acc) := f4.ex _ _ D3
    have b4 : B4 L = none := f4.fl b3 D3
    by_cases htd : t d = true
    · refine (if_pos htd).mpr ?_
      refine ⟨d, ρ', ⟨hmem, htd⟩, hf', B0, H0, B4, S'.fwd f4, fun v B5 H5 f5 rv => ?_⟩
      have D5 : H5 L = some (.lst acc) := f5.ex _ _ D4
      have b5 : B5 L = none := f5.fl b4 D4
      refine ⟨acc, D5, ?_, B5, acc ++ [v], ((e2.trans f3.eb).trans f4.eb).trans f5.eb, ((F3.trans f4).trans f5).poke hLH b5, upd_same, b5, ?_⟩
      · rw [ra.length]
        exact Nat.lt_of_le_of_lt (small i) (Nat.lt_of_lt_of_le hlt (line_of hl))
      · rw [step hd, if_pos htd]
        exact RA.app (ra.mono ((f3.eb.trans f4.eb).trans f5.eb)) (.cons rv .nil)
    · refine (if_neg htd).mpr ?_
      refine ⟨B4, acc, (e2.trans f3.eb).trans f4.eb, F3.trans f4, D4, b4, ?_⟩
      rw [step hd, if_neg htd, List.append_nil]
      exact ra.mono (f3.eb.trans f4.eb)
  · have e : i = ds.length := by omega
    subst e
    rw [List.take_length] at ra
    exact .inl ⟨wk.stop B' H' e2 fw.ex fw.e2, k _ B' H' fw ⟨L, acc, rfl, hD, hLH, bD, ra⟩⟩
/-- [m(d) for d in ds if t(d)] -/
theorem pd_lc {f : Rho → D → Rho → Prop} (t : D → Bool) (m : D → D) (hi : PIt X T ρ tg e ds) (hN : X.N.Nodup) (ok : BlkOk X.N X.env.scope scope own)
    (hg : ∀ (s : Shared) (H : Hp) (C : Addr) (cl : List (Str × Addr)) (fp : List Addr), PGD (X.blk s H scope (compEnvC scope cl C X.env) fp) T (own.map (·.2)) f tg)
    (hf : ∀ d ∈ ds, ∃ ρ', f (wipeR ρ (own.map (·.2))) d ρ')
    (ht : ∀ d ∈ ds, ∀ ρ', f (wipeR ρ (own.map (·.2))) d ρ' → ∀ (s : Shared) (H : Hp) (C : Addr) (cl : List (Str × Addr)) (fp : List Addr), PTd (X.blk s H scope (compEnvC scope cl C X.env) fp) T ρ' ifs (t d))
    (he : ∀ d ∈ ds, t d = true → ∀ ρ', f (wipeR ρ (own.map (·.2))) d ρ' → ∀ (s : Shared) (H : Hp) (C : Addr) (cl : List (Str × Addr)) (fp : List Addr), PD (X.blk s H scope (compEnvC scope cl C X.env) fp) T ρ' elt (.v (m d)))
    (hl : ds.length ≤ 100000) (hc : X.calm = true := by rfl) (hs : ∀ x, foldedSetIterable e X.env x = pure x := by intro _; rfl) : PD X T ρ (.ListComp elt [⟨tg, e, ifs, 0⟩] scope pos) (.own ((ds.filter t).map m)) :=
  PE.imp (pe_lc (own := own) (wi := wiD X.K T ρ ds) (g := gD X.K T (own.map (·.2)) f) (tt := ttD X.K T ρ (own.map (·.2)) f ds t) (te := teD X.K T ρ (own.map (·.2)) f ds t m) hc hN hi ok hg
    (fun s H C cl fp => ⟨fun pins s' σ H' Q I ⟨d, ρ', hd, hf', q⟩ => (ht d hd ρ' hf' s H C cl fp).run pins s' σ H' Q I q⟩)
    (fun s H C cl fp => ⟨fun pins s' σ H' Q I ⟨d, ρ', hd, hf', q⟩ => (he d hd.1 hd.2 ρ' hf' s H C cl fp).run pins s' σ H' Q I q⟩) hs) fun σ H Q h => lc_sem hf hl h
/-- name = [..] on one line -/
theorem px_setLc {B0 H0 : Hp} {P : Post} {i : Nat} {y : Str} {py spos : Pos} {f : Rho → D → Rho → Prop} (t : D → Bool) (m : D → D) (hi : PIt X T ρ tg e ds) (hN : X.N.Nodup) (ok : BlkOk X.N X.env.scope scope own)
    (hg : ∀ (s : Shared) (H : Hp) (C : Addr) (cl : List (Str × Addr)) (fp : List Addr), PGD (X.blk s H scope (compEnvC scope cl C X.env) fp) T (own.map (·.2)) f tg)
    (hf : ∀ d ∈ ds, ∃ ρ', f (wipeR ρ (own.map (·.2))) d ρ')
    (ht : ∀ d ∈ ds, ∀ ρ', f (wipeR ρ (own.map (·.2))) d ρ' → ∀ (s : Shared) (H : Hp) (C : Addr) (cl : List (Str × Addr)) (fp : List Addr), PTd (X.blk s H scope (compEnvC scope cl C X.env) fp) T ρ' ifs (t d))
    (he : ∀ d ∈ ds, t d = true → ∀ ρ', f (wipeR ρ (own.map (·.2))) d ρ' → ∀ (s : Shared) (H : Hp) (C : Addr) (cl : List (Str × Addr)) (fp : List Addr), PD (X.blk s H scope (compEnvC scope cl C X.env) fp) T ρ' elt (.v (m d)))
    (hl : ds.length ≤ 100000) (hp : P.nx (ρ.set i (.own ((ds.filter t).map m)))) (hsw : swapsWith (.ListComp elt [⟨tg, e, ifs, 0⟩] scope pos) (some (.Name y py)) spos.line X.env = pure true) (hy : X.N[i]? = some y := by rfl) (hyl : X.env.scope.names.lookup y = some .local := by rfl)
    (hc : X.calm = true := by rfl) (hs : ∀ x, foldedSetIterable e X.env x = pure x := by intro _; rfl) : PX X T B0 H0 ρ (.Assign [.Name y py] (.ListComp elt [⟨tg, e, ifs, 0⟩] scope pos) spos) P :=
  PS.imp (ps_setLc (i := i) (own := own) (wi := wiD X.K T ρ ds) (g := gD X.K T (own.map (·.2)) f) (tt := ttD X.K T ρ (own.map (·.2)) f ds t) (te := teD X.K T ρ (own.map (·.2)) f ds t m) hc hN hy hyl hsw hi ok hg
    (fun s H C cl fp => ⟨fun pins s' σ H' Q I ⟨d, ρ', hd, hf', q⟩ => (ht d hd ρ' hf' s H C cl fp).run pins s' σ H' Q I q⟩)
    (fun s H C cl fp => ⟨fun pins s' σ H' Q I ⟨d, ρ', hd, hf', q⟩ => (he d hd.1 hd.2 ρ' hf' s H C cl fp).run pins s' σ H' Q I q⟩) hs) fun Z σ H ⟨B, S, n, _⟩ => lc_sem hf hl ⟨B0, H0, B, S, fun v B1 H1 f1 q1 => by
    obtain ⟨p, vs, rfl, h1, h2, h3, h4⟩ := q1
    refine n _ _ B1 H1 hp f1.eb ((S.fwd f1).setO h1 (S.fw.ex.free h2) h3 h4 fun j es _ hj z => ?_)
    obtain ⟨q, ws, e1, hq, _⟩ := S.own j es hj
    rw [z] at e1
    cases e1
    rw [h2] at hq
    cases hq⟩

/-! ### what is walked -/
theorem pit_list {l : Expr} {d : D} (h : PD X T ρ l (.v d)) (hd : d = .lst ds ∨ d = .scr ds) : PIt X T ρ tg l ds :=
  ⟨fun pins s σ H R' I ⟨B0, H0, B, S, k⟩ => (pi_list (tg := tg) h).run pins s σ H R' I ⟨B0, H0, B, S, fun v B1 H1 f1 r1 => by
    obtain ⟨p, vs, rfl, hq, ra⟩ := R.seqL r1 hd
    refine ⟨p, rfl, ⟨_, f1.e2.seq hq⟩, k _ B1 H1 f1 ⟨fun i B' H' e1 _ e2 hi => ?_, fun i B' H' x H'' e1 _ e2 hi y => ?_, fun B' H' e1 _ e2 => ⟨vs, (e1.trans e2).seq hq, by rw [ra.length]; exact Nat.le_refl _⟩⟩⟩
    · obtain ⟨v, hv, _⟩ := ra.get (List.getElem?_eq_getElem hi)
      exact ⟨vs, v, (e1.trans e2).seq hq, hv⟩
    · obtain ⟨e, y⟩ := y
      subst e
      obtain ⟨d', hd', r'⟩ := ra.getV (y vs ((e1.trans e2).seq hq))
      exact ⟨d', B', hd', Fwd.refl e2, r'.mono e1⟩⟩⟩
theorem pit_own {i : Nat} {x : Str} (hr : ρ[i]? = some (.own ds)) (hN : X.N[i]? = some x := by rfl) (hv : Vis X.env.scope x := by first | exact Or.inl rfl | exact Or.inr (Or.inl rfl) | exact Or.inr (Or.inr rfl)) (hd : (x == ("__debug__" : Str)) = false := by decide)
    (hcd : (x == ("__classdict__" : Str)) = false := by decide) : PIt X T ρ tg (.Name x pos) ds :=
  ⟨fun pins s σ H R' I ⟨B0, H0, B, S, k⟩ => by
    obtain ⟨p, vs, e, hp, _, _, ra⟩ := S.own i ds hr
    refine (pi_list (tg := tg) (pe_var hN hv hd hcd)).run pins s σ H R' I ⟨_, e, p, rfl, ⟨vs, SqL.of hp⟩, k _ B H (Fwd.refl S.bh) ⟨fun i B' H' e1 h1 e2 hi => ?_, fun i B' H' x H'' e1 h1 e2 hi y => ?_, fun B' H' e1 h1 e2 => ⟨vs, SqL.of (h1 _ _ hp), by rw [ra.length]; exact Nat.le_refl _⟩⟩⟩
    · obtain ⟨v, hv, _⟩ := ra.get (List.getElem?_eq_getElem hi)
      exact ⟨vs, v, SqL.of (h1 _ _ hp), hv⟩
    · obtain ⟨e, y⟩ := y
      subst e
      obtain ⟨d', hd', r'⟩ := ra.getV (y vs (SqL.of (h1 _ _ hp)))
      exact ⟨d', B', hd', Fwd.refl e2, r'.mono e1⟩⟩
theorem pit_tup {l : Expr} (h : PD X T ρ l (.v (.tup ds))) : PIt X T ρ tg l ds :=
  ⟨fun pins s σ H R' I ⟨B0, H0, B, S, k⟩ => (pi_tup (tg := tg) h).run pins s σ H R' I ⟨B0, H0, B, S, fun v B1 H1 f1 r1 => by
    cases r1 with
    | @tup p vs _ hq ra =>
      refine ⟨p, rfl, ⟨_, sqt_mono f1.e2 hq⟩, k _ B1 H1 f1 ⟨fun i B' H' e1 _ e2 hi => ?_, fun i B' H' x H'' e1 _ e2 hi y => ?_, fun B' H' e1 _ e2 => ⟨vs, sqt_mono (e1.trans e2) hq, by rw [ra.length]; exact Nat.le_refl _⟩⟩⟩
      · obtain ⟨v, hv, _⟩ := ra.get (List.getElem?_eq_getElem hi)
        exact ⟨vs, v, sqt_mono (e1.trans e2) hq, hv⟩
      · obtain ⟨e, y⟩ := y
        subst e
        obtain ⟨d', hd', r'⟩ := ra.getV (y vs (sqt_mono (e1.trans e2) hq))
        exact ⟨d', B', hd', Fwd.refl e2, r'.mono e1⟩⟩⟩
def upto (n : Nat) : List D := (List.range n).map fun i : Nat => .int (i : Int)
theorem upto_at {n i : Nat} (h : i < n) : (upto n)[i]? = some (.int (i : Int)) := by
  unfold upto
  rw [List.getElem?_map, List.getElem?_range h]
  rfl
theorem pit_range {l : Expr} {p : Pos} {n : Int} (h : PD X T ρ l (.v (.int n))) (h1 : -(2 ^ 62) ≤ n) (h2 : n < 2 ^ 62) (hm : X.mg "range" = none) (hg : Gl X "range" := by rfl) (hse : starEach [l] X.env = [(false, eval l X.env)] := by rfl) : PIt X T ρ tg (.Call (.Name "range" p) [l] [] pos) (upto n.toNat) :=
  ⟨fun pins s σ H R' I ⟨B0, H0, B, S, k⟩ => (pi_range1 (tg := tg) hg hm (pa_cons h pa_nil hse) hse).run pins s σ H R' I ⟨B0, H0, B, S, fun v B1 H1 f1 r1 => by
    cases r1
    refine ⟨n, rfl, h1, h2, k _ B1 H1 f1 ⟨fun i B' H' e1 _ e2 hi => ?_, fun i B' H' x H'' e1 _ e2 hi y => ?_, fun B' H' e1 _ e2 => ?_⟩⟩
    · exact by
        have hi' := hi
        unfold upto at hi'
        rw [List.length_map, List.length_range] at hi'
        exact hi'
    · obtain ⟨e, y⟩ := y
      subst e y
      have hi' : i < n.toNat := by
        have hi' := hi
        unfold upto at hi'
        rw [List.length_map, List.length_range] at hi'
        exact hi'
      refine ⟨_, B', upto_at hi', Fwd.refl e2, ?_⟩
      rw [Int.zero_add]
      exact .int _
    · show n.toNat ≤ (upto n.toNat).length
      simp [upto]⟩⟩
end
end DX
/-! # enumerate over tuples; walks of pairs -/
namespace DX
open PySem PySem.Spec PyProof.Rows L2
theorem meets_enumTup (t : Addr) (items : Array Value) (n : Nat) (dct : Option Addr) (sl : Array (Option Value)) :
    Meets (Builtin.«enumerate.__new__» ⟨[.type "enumerate", .ref t], []⟩) (fun _ R s => s.heap.get? t = some { cls := .type "tuple", dict := dct, data := .seq items n, slots := sl } ∧
      R (.ok (.ret (.ref (s.heap.push { cls := .type "tuple_iterator", data := .fields #[.ref t, .int 0 0] }).objs.size)))
        { s with heap := (s.heap.push { cls := .type "tuple_iterator", data := .fields #[.ref t, .int 0 0] }).push { cls := .type "enumerate", data := .fields #[.none, .bool false, .ref s.heap.objs.size, rawInt 0, .none, .none] } }) :=
  .of_wp fun prog w A R s hyp => by
    obtain ⟨hp, gl, dr, tk, os⟩ := s
    obtain ⟨ht, hyp⟩ := hyp
    have hsub := sub_enumerate
    have hT : Heap.IsTuple (Shared.heap ⟨hp, gl, dr, tk, os⟩) t items := ⟨_, ht, rfl, n, rfl⟩
    wp_walk using AutoSeq1.wpAny_loadPart' ht
    refine wpAny_stack_any fun st => wpAny_pure ?_
    split
    · rename_i c _ _ _ _ _
      cases (c == Value.type "enumerate") <;> (wp_walk using AutoSeq1.wpAny_loadPart' ht, wpAny_pyIter_tuple hT; exact ⟨_, rfl, hyp⟩)
    · wp_walk using AutoSeq1.wpAny_loadPart' ht, wpAny_pyIter_tuple hT
      exact ⟨_, rfl, hyp⟩
theorem call_enumTup {prog : Program} {w : World} {A : Around} {E : Value → Shared → Prop} {s : Shared} {t : Addr} {items : Array Value} {Q : Value → Shared → Prop} (hT : s.heap.IsTuple t items)
    (k : ∀ h', IsEnum h' (s.heap.objs.size + 1) s.heap.objs.size 0 .none → h'.IsTupleIter s.heap.objs.size t 0 → h'.objs.size = s.heap.objs.size + 2 → (∀ b o, s.heap.get? b = some o → h'.get? b = some o) → Q (.ref (s.heap.objs.size + 1)) { s with heap := h' }) :
    wpAny (model prog w) A (call (.type "enumerate") [.ref t]) Q E s := by
  obtain ⟨⟨oc, dct, dt, sl⟩, ht, hc, n, hd⟩ := hT
  replace hc : oc = .type "tuple" := hc
  replace hd : dt = .seq items n := hd
  subst hc hd
  refine callType_new F.called_enumerate (by decide) (F.typeCall_enumerate_1 _) (F.newCall_enumerate_1 _) (fun obj => F.args_object_init_2 obj _) F.entry_enumerate_new (meets_enumTup t items n dct sl) ⟨ht, ?_⟩
  have hz : (s.heap.push { cls := .type "tuple_iterator", data := .fields #[.ref t, .int 0 0] }).objs.size = s.heap.objs.size + 1 := Heap.size_push ..
  show _ ∧ _
  rw [hz]
  have he : IsEnum ((s.heap.push { cls := .type "tuple_iterator", data := .fields #[.ref t, .int 0 0] }).push { cls := .type "enumerate", data := .fields #[.none, .bool false, .ref s.heap.objs.size, rawInt 0, .none, .none] }) (s.heap.objs.size + 1) s.heap.objs.size 0 .none := by
    have q := Heap.get?_push_size (s.heap.push { cls := .type "tuple_iterator", data := .fields #[.ref t, .int 0 0] }) (o := { cls := .type "enumerate", data := .fields #[.none, .bool false, .ref s.heap.objs.size, rawInt 0, .none, .none] }) rfl
    rw [hz] at q
    exact q
  exact ⟨⟨_, he, rfl⟩, k _ he ⟨_, Heap.get?_push_of_some _ (Heap.get?_push_size _ rfl), rfl, rfl⟩ (by rw [Heap.size_push, hz]) fun b o x => Heap.get?_push_of_some _ (Heap.get?_push_of_some _ x)⟩
/-- the tuple at a, each item in a new pair -/
def IteT (K : PySem.W.Frag) (a : Addr) : It where
  go := fun i H => ∃ xs x, SqT K H a xs ∧ xs[i]? = some x
  yld := fun i H v H' => ∃ T x, v = .ref T ∧ H T = none ∧ H' = upd H T (.tup [.int (i : Nat), x]) ∧ ∀ xs, SqT K H a xs → xs[i]? = some x
  stop := fun i H => ∃ xs : List V, SqT K H a xs ∧ xs.length = i
theorem turn_enumT {P : Program} {w : World} {K : PySem.W.Frag} {elts : List Expr} {kk : Nat} {tpos : Pos} (a e it : Addr) :
    Turn P w K (.Tuple elts kk tpos) (IteT K a) [e, it] e (fun i h => (∃ old, IsEnum h e it ((i : Nat) : Int) old) ∧ h.IsTupleIter it a i ∧ e ≠ it ∧ a ≠ e ∧ a ≠ it) where
  mem := by simp
  obj := fun i h st b hb => by
    obtain ⟨⟨old, he⟩, ⟨o, ho, hc, hd⟩, _⟩ := st
    rcases List.mem_cons.mp hb with z | z
    · subst z
      exact ⟨_, he, fun v q => nomatch q⟩
    · have z' : b = it := by simpa using z
      subst z'
      exact ⟨o, ho, fun v q => by rw [hd] at q; cases q⟩
  keep := fun i h h' ⟨⟨old, he⟩, hi, ne⟩ k => ⟨⟨old, k e (by simp) _ he⟩, hi.at fun o q => k it (by simp) o q, ne⟩
  item := by
    intro X hP hw hK hc i pins s σ H E I hf st hg
    subst hP hw hK
    obtain ⟨⟨old, he⟩, hit, hne, hae, hai⟩ := st
    obtain ⟨xs, x, hq, hx⟩ := hg
    obtain ⟨its, rv, p, hz⟩ := I.tuple hq
    obtain ⟨u, hu, ru⟩ := rv.get hx
    have hel : e < s.heap.objs.size := Heap.lt_size he
    have hil : it < s.heap.objs.size := let ⟨_, q, _⟩ := hit; Heap.lt_size q
    have hi : i < its.toArray.size := by
      rw [List.size_toArray]
      exact (List.getElem?_eq_some_iff.mp hu).1
    have hef : e ∉ [it, a] := by
      simp only [List.mem_cons, List.not_mem_nil, or_false, not_or]
      exact ⟨hne, fun z => hae z.symm⟩
    refine wpAny_pyNext_enum_itemD (Draws.tuple (prog := X.prog) (w := X.w) (A := X.A.in1) (I.ok.hd hc) it a hai its.toArray) he ⟨hit, p⟩ hi hne hef fun x' h' tk hx' ho hit' hT hsz hk => ?_
    have ex : x' = u := by
      have z : its[i]? = some x' := by simpa using hx'
      rw [hu] at z
      exact (Option.some.inj z).symm
    subst ex
    refine ⟨_, rfl, wpAny_letOwnedTupleGo_enum (s := { s with heap := h', toks := tk + 1 }) ho fun h'' he' sb => ?_⟩
    have hT2 : h''.get? s.heap.objs.size = some { cls := .type "tuple", data := .seq #[.int i tk, x'] } := (sb.2 _ (Nat.ne_of_gt hel)).trans hT
    have new : ObjOk X.prog X.w (upd H s.heap.objs.size (.tup [.int (i : Nat), x])) h'' s.heap.objs.size (.tup [.int (i : Nat), x]) := ⟨by show 2 ≤ sizeLine; decide, [.int i tk, x'], .cons ⟨_, rfl⟩ (.cons ru .nil), ⟨_, hT2, rfl, _, rfl⟩⟩
    have kp : ∀ b ob, b ∉ [e, it] → s.heap.get? b = some ob → h''.get? b = some ob := fun b ob hb q => by
      simp only [List.mem_cons, List.not_mem_nil, or_false, not_or] at hb
      exact (sb.2 b hb.1).trans (hk b ob hb.1 hb.2 q)
    have I1 : Inv X pins σ (upd H s.heap.objs.size (.tup [.int (i : Nat), x])) { s with heap := h'', toks := tk + 1 } := I.turnedNew (ch := [e, it]) kp hf (Nat.le_refl _) new
    refine ⟨.ref s.heap.objs.size, _, I1, rfl, ⟨_, x, rfl, I.hok.fresh (Nat.le_refl _), rfl, fun ys hy => by rw [I.tuple_inj hy hq]; exact hx⟩, ⟨⟨x', ?_⟩, hit'.1.at fun o q => (sb.2 it (Ne.symm hne)).trans q, hne, hae, hai⟩, fun b hb => ?_⟩
    · have e1 : ((i + 1 : Nat) : Int) = (i : Int) + 1 := by omega
      rw [e1]
      exact he'
    · have hb' : b < s.heap.objs.size := by
        simp only [List.mem_cons, List.not_mem_nil, or_false] at hb
        rcases hb with z | z <;> subst z <;> assumption
      rw [upd_ne (Nat.ne_of_lt hb')]
      exact (hf b hb).1
  done := by
    intro X hP hw hK hc i pins s σ H E I hf st hg
    subst hP hw hK
    obtain ⟨⟨old, he⟩, hit, hne, hae, hai⟩ := st
    obtain ⟨xs, hq, hx⟩ := hg
    obtain ⟨its, rv, p, hz⟩ := I.tuple hq
    obtain ⟨f0, f1, f2, f3, f4, f5⟩ := hf it (by simp)
    have hl : i = its.toArray.size := by rw [List.size_toArray, ← hx]; exact rv.length
    subst hl
    exact wpAny_pyNext_enum_endD (Draws.tuple (prog := X.prog) (w := X.w) (A := X.A.in1) (I.ok.hd hc) it a hai its.toArray) he ⟨hit, p⟩ fun h' eb => ⟨rfl, I.turned (t' := s.toks) (fun b o hb q => eb b o hb q) f0 f1 f3 f4 f5⟩
  self := fun A i s Q E ⟨⟨_, he⟩, _⟩ h => wpAny_pyIter_enum he h
def iEnumT (K : PySem.W.Frag) (ta : TA) : TI := fun σ H R => ta σ H fun vs H1 => ∃ a xs, vs = [.ref a] ∧ SqT K H1 a xs ∧ R (IteT K a) H1
theorem pi_enumT {X : Cx} {e : Expr} {ta : TA} {p pos tpos : Pos} {elts : List Expr} {kk : Nat} (hg : Gl X "enumerate") (hm : X.mg "enumerate" = none) (ha : PA X [e] ta) (hs : starEach [e] X.env = [(false, eval e X.env)]) : PI X (.Tuple elts kk tpos) (.Call (.Name "enumerate" p) [e] [] pos) (iEnumT X.K ta) := by
  refine ⟨fun pins s σ H R I hyp => Call_ (ld_blt I hg hm boot_enumerate (PyProof.Rows.callWith_type1 (thn (ha.run pos pins s σ H _ I hyp) fun us s1 ⟨vs, H1, I1, r1, a, xs, ex, hq, q⟩ => ?_) hs rfl))⟩
  subst ex
  cases r1 with
  | cons r rr =>
    cases rr
    cases r
    obtain ⟨its, rv, p', hz⟩ := I1.tuple hq
    have pT : s1.heap.IsTuple a its.toArray := p'
    have al : a < s1.heap.objs.size := by
      obtain ⟨o, ho, _⟩ := pT
      exact Heap.lt_size ho
    refine call_enumTup pT fun h' he hit hsz hk => wpAny_pyIter_enum he ?_
    refine ⟨s1.heap.objs.size + 1, [s1.heap.objs.size + 1, s1.heap.objs.size], _, _, H1, rfl, I1.kept (t' := s1.toks) hk, turn_enumT a (s1.heap.objs.size + 1) s1.heap.objs.size, ⟨⟨.none, he⟩, hit, Nat.succ_ne_self _, Nat.ne_of_lt (Nat.lt_succ_of_lt al), Nat.ne_of_lt al⟩, fun b hb => ?_, q⟩
    have hle : s1.heap.objs.size ≤ b := by
      simp only [List.mem_cons, List.not_mem_nil, or_false] at hb
      rcases hb with z | z
      · rw [z]
        exact Nat.le_succ _
      · exact Nat.le_of_eq z.symm
    exact I1.fpOk hle (I1.hok.fresh hle)

/-- the pairs of places and items -/
def enumD (ds : List D) : List D := ds.zipIdx.map fun p => .tup [.int ((p.2 : Nat) : Int), p.1]
theorem enumD_at {ds : List D} {i : Nat} {d : D} (h : ds[i]? = some d) : (enumD ds)[i]? = some (.tup [.int (i : Int), d]) := by
  unfold enumD
  rw [List.getElem?_map, List.getElem?_zipIdx, h]
  simp
theorem enumD_length (ds : List D) : (enumD ds).length = ds.length := by
  unfold enumD
  rw [List.length_map, List.length_zipIdx]
section
variable {X : Cx} {T : List Addr} {ρ : Rho} {l : Expr} {pos p tpos : Pos} {ds : List D} {elts : List Expr} {kk : Nat}
theorem pair_new {K : PySem.W.Frag} {B H : Hp} {t : Addr} {i : Nat} {x : V} {d : D} (e : Same B H) (ht : H t = none) (r : R K B x d) : Fwd B H (upd B t (.tup [.int (i : Nat), x])) (upd H t (.tup [.int (i : Nat), x])) ∧ R K (upd B t (.tup [.int (i : Nat), x])) (.ref t) (.tup [.int (i : Int), d]) :=
  ⟨Fwd.new e ht, .tup (SqT.of upd_same) (.cons (.int _) (.cons (r.mono (Same.new (e.free ht))) .nil))⟩
theorem pit_enumT (h : PD X T ρ l (.v (.tup ds))) (hm : X.mg "enumerate" = none) (hg : Gl X "enumerate" := by rfl) (hs : starEach [l] X.env = [(false, eval l X.env)] := by rfl) : PIt X T ρ (.Tuple elts kk tpos) (.Call (.Name "enumerate" p) [l] [] pos) (enumD ds) :=
  ⟨fun pins s σ H R' I ⟨B0, H0, B, S, k⟩ => (pi_enumT hg hm (pa_cons h pa_nil hs) hs).run pins s σ H R' I ⟨B0, H0, B, S, fun v B1 H1 f1 r1 => by
    cases r1 with
    | @tup q vs _ hq ra =>
      refine ⟨q, vs, rfl, sqt_mono f1.e2 hq, k _ B1 H1 f1 ⟨fun i B' H' e1 _ e2 hi => ?_, fun i B' H' x H'' e1 _ e2 hi y => ?_, fun B' H' e1 _ e2 => ⟨vs, sqt_mono (e1.trans e2) hq, by rw [enumD_length]; exact ra.length⟩⟩⟩
      · rw [enumD_length] at hi
        obtain ⟨v, hv, _⟩ := ra.get (List.getElem?_eq_getElem hi)
        exact ⟨vs, v, sqt_mono (e1.trans e2) hq, hv⟩
      · obtain ⟨t, x', rfl, ht, rfl, y⟩ := y
        obtain ⟨d', hd', r'⟩ := ra.getV (y vs (sqt_mono (e1.trans e2) hq))
        obtain ⟨f, r⟩ := pair_new (i := i) e2 ht (r'.mono e1)
        exact ⟨_, _, enumD_at hd', f, r⟩⟩⟩
theorem pit_enumL {da : D} (h : PD X T ρ l (.v da)) (hd : da = .lst ds ∨ da = .scr ds) (hm : X.mg "enumerate" = none) (hg : Gl X "enumerate" := by rfl) (hs : starEach [l] X.env = [(false, eval l X.env)] := by rfl) : PIt X T ρ (.Tuple elts kk tpos) (.Call (.Name "enumerate" p) [l] [] pos) (enumD ds) :=
  ⟨fun pins s σ H R' I ⟨B0, H0, B, S, k⟩ => (pi_enum hg hm (pa_cons h pa_nil hs) hs).run pins s σ H R' I ⟨B0, H0, B, S, fun v B1 H1 f1 r1 => by
    obtain ⟨q, vs, rfl, hq, ra⟩ := R.seqL r1 hd
    refine ⟨q, vs, rfl, f1.e2.seq hq, k _ B1 H1 f1 ⟨fun i B' H' e1 _ e2 hi => ?_, fun i B' H' x H'' e1 _ e2 hi y => ?_, fun B' H' e1 _ e2 => ⟨vs, (e1.trans e2).seq hq, by rw [enumD_length, ra.length]; exact Nat.le_refl _⟩⟩⟩
    · rw [enumD_length] at hi
      obtain ⟨v, hv, _⟩ := ra.get (List.getElem?_eq_getElem hi)
      exact ⟨vs, v, (e1.trans e2).seq hq, hv⟩
    · obtain ⟨t, x', rfl, ht, rfl, y⟩ := y
      obtain ⟨d', hd', r'⟩ := ra.getV (y vs ((e1.trans e2).seq hq))
      obtain ⟨f, r⟩ := pair_new (i := i) e2 ht (r'.mono e1)
      exact ⟨_, _, enumD_at hd', f, r⟩⟩⟩
end
end DX
/-! # tuple * int of any count; sorted of pairs; more operations -/
namespace DX
open PySem PySem.Spec PyProof.Rows L2
theorem tup_mul1 (l : Addr) (items : Array Value) (n : Nat) (dd : Option Addr) (sl : Array (Option Value)) (u : Tok) :
    Meets (Builtin.«tuple.__mul__» ⟨[.ref l, .int 1 u], []⟩) (fun _ R s => s.heap.get? l = some { cls := .type "tuple", dict := dd, data := .seq items n, slots := sl } ∧ R (.ok (.ret (.ref l))) s) :=
  .of_wp fun prog w A R s hyp => by
    obtain ⟨hp, gl, dr, tk, os⟩ := s
    obtain ⟨hl, hyp⟩ := hyp
    have f1 := AutoSeq1.idx_int
    have c1 : (items.isEmpty || (1 : Int) == 1) = true := by simp
    wp_walk using AutoSeq1.wpAny_loadPart' hl
    exact ⟨_, rfl, hyp⟩
theorem tup_mul0 (l : Addr) (items : Array Value) (n : Nat) (dd : Option Addr) (sl : Array (Option Value)) (x : Int) (u : Tok) (c0 : (decide (x < -(2 ^ 63)) || decide (x ≥ 2 ^ 63)) = false) (c1 : (items.isEmpty || x == 1) = false) (c2 : (decide (x ≤ 0) || items.isEmpty) = true) :
    Meets (Builtin.«tuple.__mul__» ⟨[.ref l, .int x u], []⟩) (fun _ R s => s.heap.get? l = some { cls := .type "tuple", dict := dd, data := .seq items n, slots := sl } ∧
      R (.ok (.ret (Value.ref s.heap.objs.size))) { s with heap := s.heap.push { cls := Value.type "tuple", data := Data.seq #[] }, toks := s.toks }) :=
  .of_wp fun prog w A R s hyp => by
    obtain ⟨hp, gl, dr, tk, os⟩ := s
    obtain ⟨hl, hyp⟩ := hyp
    have f1 := AutoSeq1.idx_int
    wp_walk using AutoSeq1.wpAny_loadPart' hl
    repeat (first
      | (refine wpAny_ite_false (decide_eq_false (by rw [c0]; exact Bool.false_ne_true)) ?_; wp_walk using AutoSeq1.wpAny_loadPart' hl)
      | (refine wpAny_ite_false (decide_eq_false (by rw [c1]; exact Bool.false_ne_true)) ?_; wp_walk using AutoSeq1.wpAny_loadPart' hl)
      | (refine wpAny_ite_true (decide_eq_true (by rw [c2])) ?_; wp_walk using AutoSeq1.wpAny_loadPart' hl))
    exact ⟨_, rfl, hyp⟩
section
variable {X : Cx} {T : List Addr} {ρ : Rho} {e a b c : Expr} {es : List Expr} {pos p : Pos} {d da db dc : D} {r : Sl} {ds : List D}
/-- t * k, t not empty, k any small int -/
def rRepA (K : PySem.W.Frag) : R2 := fun x y H Q => ∃ l k xs, x = .ref l ∧ y = .int k ∧ SqT K H l xs ∧ xs ≠ [] ∧ -(2 ^ 62) ≤ k ∧ k ≤ 1000 ∧ xs.length ≤ 1000 ∧ (k = 1 → Q (.ref l) H) ∧ (k ≠ 1 → ∀ p, H p = none → Q (.ref p) (upd H p (.tup (List.replicate k.toNat xs).flatten)))
theorem op_repA : OpR X (binaryOp .Mult) (rRepA X.K) := by
  intro pins s σ H x y v u Q I rx ry h
  obtain ⟨l, k, xs, rfl, rfl, hT, hne, h0, h1, hz, q1, q2⟩ := h
  by_cases hk : 2 ≤ k
  · exact op_repT pins s σ H _ _ v u Q I rx ry ⟨l, k, xs, rfl, rfl, hT, hne, hk, h1, hz, q2 (by omega)⟩
  · cases rx
    obtain ⟨t, rfl⟩ := ry
    obtain ⟨its, rv, ⟨⟨oc, dd, data, sl⟩, ho, hc, n, hd⟩, hs⟩ := I.tuple hT
    simp only at hc hd
    subst hc hd
    have hi : its.toArray.isEmpty = false := by
      cases its with
      | nil =>
        cases rv
        exact absurd rfl hne
      | cons _ _ => rfl
    by_cases e : k = 1
    · subst e
      exact wpAny_binaryOp_repeat_ref (T := "tuple") (U := "int") (by decide) ⟨_, ho, rfl⟩ (fun s' => typeIs_int s' 1 t) noFill_tuple_mul F.fills_int_mul F.slot_int_rmul repeat_tuple F.slot_int_index.lookup
        (call_meets F.slot_int_rmul (typeIs_int s 1 t) F.entry_int_rmul (F.args_int_rmul_2 _ _) (int_rmul_tuple 1 t l its.toArray n dd sl)
          ⟨ho, rfl, ⟨_, ho, rfl⟩, call_meets F.slot_tuple_mul ⟨_, ho, rfl⟩ F.entry_tuple_mul (F.args_tuple_mul_2 _ _) (tup_mul1 l its.toArray n dd sl t) ⟨ho, ⟨.ref l, H, I, rfl, q1 rfl⟩⟩⟩)
    · have k0 : k ≤ 0 := by omega
      have z0 : (decide (k < -(2 ^ 63)) || decide (k ≥ 2 ^ 63)) = false := by
        rw [decide_eq_false (by omega), decide_eq_false (by omega)]
        rfl
      have z1 : (its.toArray.isEmpty || k == 1) = false := by
        rw [hi, Bool.false_or]
        exact beq_eq_false_iff_ne.mpr e
      have z2 : (decide (k ≤ 0) || its.toArray.isEmpty) = true := by
        rw [decide_eq_true k0]
        rfl
      have er : (List.replicate k.toNat xs).flatten = [] := by
        rw [Int.toNat_of_nonpos k0]
        rfl
      refine wpAny_binaryOp_repeat_ref (T := "tuple") (U := "int") (by decide) ⟨_, ho, rfl⟩ (fun s' => typeIs_int s' k t) noFill_tuple_mul F.fills_int_mul F.slot_int_rmul repeat_tuple F.slot_int_index.lookup
        (call_meets F.slot_int_rmul (typeIs_int s k t) F.entry_int_rmul (F.args_int_rmul_2 _ _) (int_rmul_tuple k t l its.toArray n dd sl)
          ⟨ho, rfl, ⟨_, ho, rfl⟩, call_meets F.slot_tuple_mul ⟨_, ho, rfl⟩ F.entry_tuple_mul (F.args_tuple_mul_2 _ _) (tup_mul0 l its.toArray n dd sl k t z0 z1 z2) ⟨ho, ?_⟩⟩)
      have q := q2 e s.heap.objs.size (I.hok.fresh (Nat.le_refl _))
      rw [er] at q
      exact ⟨.ref s.heap.objs.size, _, I.laid (t' := s.toks) (o := .tup []) (fun b ob z => Heap.get?_push_of_some _ z) (Nat.le_refl _) ⟨Nat.zero_le _, [], .nil, IsTup.new _ _⟩, rfl, q⟩
theorem bd_repT {xs : List D} {k : Int} (hne : xs ≠ []) (h0 : -(2 ^ 62) ≤ k) (h1 : k ≤ 1000) (hz : xs.length ≤ 1000) : BinD X .Mult (.tup xs) (.int k) (.v (.tup (List.replicate k.toNat xs).flatten)) := ⟨_, op_repA, fun B H v u Q s r1 r2 q => by
  cases r2
  cases r1 with
  | tup hs ra =>
    refine ⟨_, k, _, rfl, rfl, sqt_mono s hs, fun z => ?_, h0, h1, by rw [ra.length]; exact hz, fun e => ?_, fun e t ht => ?_⟩
    · subst z
      cases ra
      exact hne rfl
    · subst e
      have er : (List.replicate (1 : Int).toNat xs).flatten = xs := by simp
      rw [er] at q
      exact q _ _ _ (Fwd.refl s) (.tup hs ra)
    · exact q _ _ _ (Fwd.new s ht) (.tup (SqT.of upd_same) ((ra.mono (Same.new (s.free ht))).repl _))⟩
theorem bd_mulW {i j : Int} (h : CMulW i j) : BinD X .Mult (.int i) (.int j) (.v (.int (i * j))) := ⟨_, op_mulW, opd_I h fun _ => .int _⟩
theorem bd_fdivW {i j : Int} (h : CDivW i j) : BinD X .FloorDiv (.int i) (.int j) (.v (.int (i / j))) := ⟨_, op_fdivW, opd_I h fun _ => .int _⟩
/-- {} -/
theorem pd_emp : PD X T ρ (.Dict [] [] pos) (.v emp) := PE.imp pe_dnewK fun σ H Q ⟨B0, H0, B, S, k⟩ t ht => k _ _ _ (Fwd.new S.bh ht) (.ho (f := fun _ => .dK []) upd_same)
/-- x in xs, x not in xs, of data -/
def D.lsD : D → Option (List D)
  | .lst xs => some xs
  | .scr xs => some xs
  | _ => none
theorem lsD_py (h : db.lsD = some ds) : db.py = .list (ds.map D.py) := by
  cases db with
  | lst xs => cases h; show PyData.list (D.pys _) = _; rw [D.pys_eq]
  | scr xs => cases h; show PyData.list (D.pys _) = _; rw [D.pys_eq]
  | _ => cases h
theorem any_py : (ds.map D.py).any (fun z => PyData.eqv z da.py) = ds.any fun z => eqD z da := by
  rw [List.any_map]
  rfl
theorem cd_inD {n m : Nat} (hu : X.A.units + 65 < cLine) (h : db.lsD = some ds) (h1 : sh n da = true) (h2 : sh m db = true) (hn : n ≤ 64 := by decide) (hm : m ≤ 64 := by decide) : CmpD X .In da db (ds.any fun z => eqD z da) := ⟨_, op_inD hu, fun H v u Q r1 r2 q => by
  have s2 := sh_shaped h2 hm
  have p2 := dp_of m u db h2 r2
  rw [lsD_py h] at s2 p2
  exact ⟨_, _, dp_of n v da h1 r1, p2, sh_shaped h1 hn, s2, by rw [any_py]; exact q⟩⟩
theorem cd_notInD {n m : Nat} (hu : X.A.units + 65 < cLine) (h : db.lsD = some ds) (h1 : sh n da = true) (h2 : sh m db = true) (hn : n ≤ 64 := by decide) (hm : m ≤ 64 := by decide) : CmpD X .NotIn da db (!ds.any fun z => eqD z da) := ⟨_, op_notInD hu, fun H v u Q r1 r2 q => by
  have s2 := sh_shaped h2 hm
  have p2 := dp_of m u db h2 r2
  rw [lsD_py h] at s2 p2
  exact ⟨_, _, dp_of n v da h1 r1, p2, sh_shaped h1 hn, s2, by rw [any_py]; exact q⟩⟩

/-! ### sorted of pairs of ints -/
def prs (ps : List (Int × Int)) : List D := ps.map fun p => .tup [.int p.1, .int p.2]
def inB (B : Int) (ps : List (Int × Int)) : Prop := ∀ p ∈ ps, (0 ≤ p.1 ∧ p.1 < B) ∧ (0 ≤ p.2 ∧ p.2 < B)
def cd2 (B : Int) (p : Int × Int) : Int := p.1 * B + p.2
theorem code_two (B : Int) (p : Int × Int) : TS.code B [p.1, p.2] = cd2 B p := by
  show p.1 * B ^ 1 + (p.2 * B ^ 0 + 0) = _
  rw [Int.pow_succ, Int.pow_zero, Int.one_mul, Int.mul_one, Int.add_zero]
  rfl
def rSortD (K : PySem.W.Frag) (B : Int) : List V → Hp → VK → Prop := fun vs H Q => ∃ a xs ps, vs = [.ref a] ∧ SqL K H a xs ∧ RA K H xs (prs ps) ∧ ps.length < 64 ∧ inB B ps ∧ ∀ ys qs t, (∀ B' : Hp, RA K B' xs (prs ps) → RA K B' ys (prs qs)) → qs.Perm ps → qs.Pairwise (fun p q => cd2 B p ≤ cd2 B q) → H t = none → Q (.ref t) (upd H t (.lst ys))
def prOf (h : Heap) (u : Value) : Int × Int := ((TS.intsOf h u).headD 0, ((TS.intsOf h u).drop 1).headD 0)
section
variable {pins : List (Addr × Obj)} {σ : L2.St} {H : Hp} {s : Shared}
theorem pair_val {v : V} {u : Value} {p : Int × Int} (I : L2.Inv X pins σ H s) (r : R X.K H v (.tup [.int p.1, .int p.2])) (ru : RelV v u) : TS.TupInts s.heap u [p.1, p.2] ∧ prOf s.heap u = p ∧ backV u = v := by
  cases r with
  | @tup a vs _ hs ra =>
    cases ru
    have ev : vs = [p.1, p.2].map V.int := ra_ints (ns := [p.1, p.2]) ra
    subst ev
    obtain ⟨its, rv, ht, _⟩ := I.tuple hs
    have z : TS.TupInts s.heap (.ref a) [p.1, p.2] := ⟨a, its.toArray, rfl, ht, intsAre_of rv⟩
    refine ⟨z, ?_, rfl⟩
    unfold prOf
    rw [z.ints]
    rfl
theorem pairs_val (I : L2.Inv X pins σ H s) : ∀ {ps : List (Int × Int)} {xs : List V} {us : List Value}, RA X.K H xs (prs ps) → Vals xs us → us.map (prOf s.heap) = ps ∧ us.map backV = xs ∧ ∀ u ∈ us, R X.K H (backV u) (.tup [.int (prOf s.heap u).1, .int (prOf s.heap u).2]) ∧ RelV (backV u) u ∧ TS.TupInts s.heap u [(prOf s.heap u).1, (prOf s.heap u).2] ∧ prOf s.heap u ∈ ps
  | [], _, _, .nil, .nil => ⟨rfl, rfl, fun u hu => absurd hu (by simp)⟩
  | p :: ps, _, _, .cons r1 ra, .cons q1 qa => by
    obtain ⟨h1, h2, h3⟩ := pairs_val I ra qa
    obtain ⟨z1, z2, z3⟩ := pair_val I r1 q1
    refine ⟨by rw [List.map_cons, z2, h1], by rw [List.map_cons, z3, h2], fun u hu => ?_⟩
    rcases List.mem_cons.mp hu with e | hu
    · subst e
      rw [z2, z3]
      exact ⟨r1, q1, z1, List.mem_cons_self⟩
    · obtain ⟨a1, a2, a3, a4⟩ := h3 u hu
      exact ⟨a1, a2, a3, List.mem_cons_of_mem _ a4⟩
theorem ra_of_vals {h : Heap} : ∀ {us : List Value}, (∀ u ∈ us, R X.K H (backV u) (.tup [.int (prOf h u).1, .int (prOf h u).2])) → RA X.K H (us.map backV) (prs (us.map (prOf h)))
  | [], _ => .nil
  | u :: us, k => .cons (k u List.mem_cons_self) (ra_of_vals fun w hw => k w (List.mem_cons_of_mem _ hw))
theorem vals_ra {h : Heap} {B' : Hp} : ∀ {us : List Value}, RA X.K B' (us.map backV) (prs (us.map (prOf h))) → ∀ u ∈ us, R X.K B' (backV u) (.tup [.int (prOf h u).1, .int (prOf h u).2])
  | u :: us, .cons r ra, w, hw => by
    rcases List.mem_cons.mp hw with e | hw
    · rw [e]
      exact r
    · exact vals_ra ra w hw
theorem vals_of {us : List Value} (k : ∀ u ∈ us, RelV (backV u) u) : Vals (us.map backV) us := by
  induction us with
  | nil => exact .nil
  | cons u us ih => exact .cons (k u List.mem_cons_self) (ih fun w hw => k w (List.mem_cons_of_mem _ hw))
end
theorem cr_sortD {B : Int} : CallR X (.builtin "sorted") (rSortD X.K B) := by
  intro pins s σ H vs us Q I r h
  obtain ⟨a, xs, ps, rfl, hs, ra, hl, hb, q⟩ := h
  obtain ⟨its, rv, pl, hz⟩ := I.list hs
  obtain ⟨u, rfl, ru⟩ := vals1 r
  obtain rfl : u = Value.ref a := ru
  obtain ⟨e1, e2, e3⟩ := pairs_val I ra rv
  have hlen : its.length = ps.length := by rw [← e1, List.length_map]
  refine TS.sorted_tups (d := 2) (B := B) pl.isList (by rw [hlen]; exact hl) (by decide) (fun v hv => ?_) fun out hp hw => ?_
  · obtain ⟨_, _, t, m⟩ := e3 v hv
    refine ⟨_, t, rfl, fun z hz' => ?_⟩
    have hb' := hb _ m
    rcases List.mem_cons.mp hz' with e | hz'
    · rw [e]
      exact hb'.1
    · have e : z = (prOf s.heap v).2 := by simpa using hz'
      rw [e]
      exact hb'.2
  · have mem : ∀ u ∈ out.toList, u ∈ its := fun u hu => hp.mem_iff.mp hu
    have qs : (out.toList.map (prOf s.heap)).Perm ps := by
      rw [← e1]
      exact hp.map _
    have pw : (out.toList.map (prOf s.heap)).Pairwise (fun p q => cd2 B p ≤ cd2 B q) := by
      rw [List.pairwise_map]
      refine hw.imp_of_mem fun {u w} hu hw' hle => ?_
      rw [← code_two, ← code_two, ← (e3 u (mem u hu)).2.2.1.ints, ← (e3 w (mem w hw')).2.2.1.ints]
      exact hle
    obtain ⟨n, hn⟩ := sortedAll_at s.heap its out
    have ln : (out.toList.map backV).length ≤ sizeLine := by
      rw [List.length_map, hp.length_eq, hlen]
      exact line_of (by omega)
    refine ⟨.ref (s.heap.objs.size + 1), _, I.laid (t' := s.toks) (o := .lst (out.toList.map backV)) (fun b o z => sortedAll_old z) (Nat.le_succ _) ⟨ln, out.toList, n, vals_of fun u hu => (e3 u (mem u hu)).2.1, hn⟩, rfl, ?_⟩
    exact q _ _ _ (fun B' rb => ra_of_vals fun u hu => vals_ra (by rw [e1, e2]; exact rb) u (mem u hu)) qs pw (I.hok.fresh (Nat.le_succ _))
theorem cd2_inj {B : Int} {p q : Int × Int} (h : (0 ≤ p.1 ∧ p.1 < B) ∧ (0 ≤ p.2 ∧ p.2 < B)) (h2 : (0 ≤ q.1 ∧ q.1 < B) ∧ (0 ≤ q.2 ∧ q.2 < B)) (e : cd2 B p = cd2 B q) : p = q := by
  obtain ⟨a, b⟩ := p
  obtain ⟨c, d⟩ := q
  unfold cd2 at e
  simp only at e h h2
  have e1 : (a * B + b) / B = a := by
    rw [Int.add_comm, Int.add_mul_ediv_right _ _ (by omega), Int.ediv_eq_zero_of_lt h.2.1 h.2.2, Int.zero_add]
  have e2 : (c * B + d) / B = c := by
    rw [Int.add_comm, Int.add_mul_ediv_right _ _ (by omega), Int.ediv_eq_zero_of_lt h2.2.1 h2.2.2, Int.zero_add]
  have ac : a = c := by rw [← e1, e, e2]
  subst ac
  have bd : b = d := by omega
  rw [bd]
/-- sorted of pairs of ints -/
theorem cl_sorted {B : Int} {ps qs : List (Int × Int)} (hl : ps.length < 64) (hb : inB B ps) (hp : qs.Perm ps) (hw : qs.Pairwise (fun p q => cd2 B p ≤ cd2 B q)) : CalD X (.builtin "sorted") [.lst (prs ps)] (.own (prs qs)) := ⟨_, cr_sortD (B := B), fun B' H vs Q s ra q => by
  cases ra with
  | cons r1 ra =>
    cases ra
    cases r1 with
    | lst h1 h2 =>
      refine ⟨_, _, ps, rfl, .inl (rd_mono s h1), h2.mono s, hl, hb, fun ys qs' t rq pq wq ht => ?_⟩
      have eq : qs' = qs := by
        refine List.Perm.eq_of_pairwise (le := fun p q => cd2 B p ≤ cd2 B q) (fun x y hx hy h1 h2 => ?_) wq hw (pq.trans hp.symm)
        have bx := hb x (pq.mem_iff.mp hx)
        have by' := hb y (hp.mem_iff.mp hy)
        exact cd2_inj bx by' (Int.le_antisymm h1 h2)
      subst eq
      exact q _ _ _ (Fwd.side s ht) ⟨t, ys, rfl, upd_same, ht, s.free ht, rq B' h2⟩⟩
end
end DX
/-! # for over any walk; a pair of a list of one's own and data; try with a store -/
namespace DX
open PySem PySem.Spec PyProof.Rows L2
section
variable {X : Cx} {T : List Addr} {B0 H0 : Hp} {ρ : Rho} {e a b tg : Expr} {es : List Expr} {pos p : Pos} {d : D} {ds : List D} {P : Post} {Rel : List D → Out → Prop} {k j : Nat} {x : Str}
/-- a walk of what lies in data -/
abbrev PIb (X : Cx) (T : List Addr) (ρ : Rho) (tg e : Expr) (ds : List D) : Prop := PI X tg e (fun σ H R => ∃ B0 H0 B, SD X.K T B0 H0 B H σ ρ ∧ ∀ J B2 H2, Fwd B H B2 H2 → Wk X.K J ds B2 (fun _ => none) → R J H2)
theorem PI.weak {X : Cx} {tg e : Expr} {t t' : TI} (h : PI X tg e t) (w : ∀ σ H R, t' σ H R → t σ H R) : PI X tg e t' := PI.imp h w
theorem px_forI {f : Rho → D → Rho → Prop} {vs : List Nat} {body : List Stmt} (I : Nat → Rho → Prop) (hi : PIb X T ρ tg e ds) (hg : PGD X T vs f tg) (h0 : I 0 ρ) (hf : ∀ n d ρ', ds[n]? = some d → I n ρ' → ∃ ρ'', f ρ' d ρ'')
    (hs : ∀ n d ρ' ρ'', ds[n]? = some d → I n ρ' → f ρ' d ρ'' → PXs X T B0 H0 ρ'' body { P with nx := I (n + 1), ct := I (n + 1), bk := P.nx }) (hend : ∀ ρ', I ds.length ρ' → P.nx ρ')
    (hp : PassesOwn (model X.prog X.w) X.A X.env X.xe) (hc : X.calm = true := by rfl) (hfs : ∀ x, foldedSetIterable e X.env x = pure x := by intro _; rfl) : PX X T B0 H0 ρ (.For tg e body [] pos) P := by
  have hb : PSs X body (fun Z σ H => ∃ (n : Nat) (d : D) (ρ' ρ'' : Rho), ds[n]? = some d ∧ I n ρ' ∧ f ρ' d ρ'' ∧ tS X.K T B0 H0 ρ'' { P with nx := I (n + 1), ct := I (n + 1), bk := P.nx } Z σ H) :=
    ⟨fun pins s σ H Z J ⟨n, d, ρ', ρ'', e1, e2, e3, q⟩ => (hs n d ρ' ρ'' e1 e2 e3).run pins s σ H Z J q⟩
  refine PS.imp (ps_for hp hc hi hg hb hfs) fun Z σ H ⟨B, S, n1, n2, n3, n4⟩ => ?_
  refine ⟨B0, H0, B, S, fun J B1 H1 f1 wk => ⟨fun i m σ' H' => m = ds.length - i ∧ i ≤ ds.length ∧ ∃ ρ' B', I i ρ' ∧ Same B1 B' ∧ SD X.K T B0 H0 B' H' σ' ρ', ⟨ds.length, by simp, Nat.zero_le _, ρ, B1, h0, Same.refl _, S.fwd f1⟩, ?_⟩⟩
  rintro i m σ' H' ⟨rfl, hle, ρ', B', hI, eb, S'⟩
  have none : Same (fun _ => none) H' := fun a u z => nomatch z
  by_cases hlt : i < ds.length
  · refine .inr ⟨wk.go i B' H' eb none S'.bh hlt, fun σ2 H2 => ∃ ρ2 B2, I (i + 1) ρ2 ∧ Same B1 B2 ∧ SD X.K T B0 H0 B2 H2 σ2 ρ2, fun σ2 H2 q => ⟨ds.length - (i + 1), by omega, rfl, hlt, q⟩, fun x H3 y => ?_⟩
    obtain ⟨d, B3, hd, f3, rd⟩ := wk.yld i B' H' x H3 eb none S'.bh hlt y
    obtain ⟨ρ'', hf'⟩ := hf i d ρ' hd hI
    refine ⟨B0, H0, B3, ρ', d, ρ'', S'.fwd f3, rd, hf', fun σ2 _ S2 => ⟨i, d, ρ', ρ'', hd, hI, hf', B3, S2, fun ρ3 σ3 B4 H4 z e4 S4 => ⟨ρ3, B4, z, (eb.trans f3.eb).trans e4, S4⟩, n2, fun ρ3 σ3 B4 H4 z e4 S4 => n1 ρ3 σ3 B4 H4 z (((f1.eb.trans eb).trans f3.eb).trans e4) S4, fun ρ3 σ3 B4 H4 z e4 S4 => ⟨ρ3, B4, z, (eb.trans f3.eb).trans e4, S4⟩⟩⟩
  · have e : i = ds.length := by omega
    subst e
    exact .inl ⟨wk.stop B' H' eb none S'.bh, n1 ρ' σ' B' H' (hend ρ' hI) (f1.eb.trans eb) S'⟩
theorem pib_enumL {l : Expr} {da : D} {tpos : Pos} {elts : List Expr} {kk : Nat} (h : PD X T ρ l (.v da)) (hd : da = .lst ds ∨ da = .scr ds) (hm : X.mg "enumerate" = none) (hg : Gl X "enumerate" := by rfl) (hs : starEach [l] X.env = [(false, eval l X.env)] := by rfl) : PIb X T ρ (.Tuple elts kk tpos) (.Call (.Name "enumerate" p) [l] [] pos) (enumD ds) :=
  ⟨fun pins s σ H R' I ⟨B0, H0, B, S, k⟩ => (pi_enum hg hm (pa_cons h pa_nil hs) hs).run pins s σ H R' I ⟨B0, H0, B, S, fun v B1 H1 f1 r1 => by
    obtain ⟨q, vs, rfl, hq, ra⟩ := R.seqL r1 hd
    refine ⟨q, vs, rfl, f1.e2.seq hq, k _ B1 H1 f1 ⟨fun i B' H' e1 _ e2 hi => ?_, fun i B' H' x H'' e1 _ e2 hi y => ?_, fun B' H' e1 _ e2 => ⟨vs, (e1.trans e2).seq hq, by rw [enumD_length, ra.length]; exact Nat.le_refl _⟩⟩⟩
    · rw [enumD_length] at hi
      obtain ⟨v, hv, _⟩ := ra.get (List.getElem?_eq_getElem hi)
      exact ⟨vs, v, (e1.trans e2).seq hq, hv⟩
    · obtain ⟨t, x', rfl, ht, rfl, y⟩ := y
      obtain ⟨d', hd', r'⟩ := ra.getV (y vs ((e1.trans e2).seq hq))
      obtain ⟨f, r⟩ := pair_new (i := i) e2 ht (r'.mono e1)
      exact ⟨_, _, enumD_at hd', f, r⟩⟩⟩
/-- return (x, e), x a list of one's own -/
theorem px_retP {i m : Nat} {px pt : Pos} (hr : ρ[i]? = some (.own ds)) (h : PD X T ρ e (.v d)) (hp : P.rt (.pr ds d)) (hN : X.N[i]? = some x := by rfl) (hv : Vis X.env.scope x := by first | exact Or.inl rfl | exact Or.inr (Or.inl rfl) | exact Or.inr (Or.inr rfl)) (hd : (x == ("__debug__" : Str)) = false := by decide)
    (hcd : (x == ("__classdict__" : Str)) = false := by decide) (hs : starEach [.Name x px, e] X.env = (false, eval (.Name x px) X.env) :: starEach [e] X.env := by rfl) (hs2 : starEach [e] X.env = (false, eval e X.env) :: starEach [] X.env := by rfl) : PX X T B0 H0 ρ (.Return (some (.Tuple [.Name x px, e] m pt)) pos) P :=
  PS.imp (ps_ret (pe_tup (pa_cons (pe_var hN hv hd hcd) (pa_cons h pa_nil hs2) hs))) fun Z σ H ⟨B, S, n, q, q2, q3⟩ => by
    obtain ⟨p, vs, e1, hp1, h0, hb, ra⟩ := S.own i ds hr
    refine ⟨_, e1, B0, H0, B, S, fun v B1 H1 f1 r1 => ⟨by show 2 ≤ sizeLine; decide, fun t ht => ?_⟩⟩
    have S1 := S.fwd f1
    have b1 : B1 p = none := f1.fl hb hp1
    have hp2 : H1 p = some (.lst vs) := f1.ex _ _ hp1
    have ne : p ≠ t := fun z => by
      rw [z, ht] at hp2
      cases hp2
    refine q (.pr ds d) _ B1 (upd H1 t (.tup [.ref p, v])) hp (S1.fw.trans (Fwd.side S1.bh ht)) (S1.am.mono (Same.new ht)) ⟨t, p, vs, v, rfl, SqT.of upd_same, ?_, h0, b1, ra.mono f1.eb, r1⟩
    rw [upd_ne ne]
    exact hp2
/-- a, b = e, e such a pair -/
theorem px_setP {i j m : Nat} {x y : Str} {px py pt : Pos} (h : PD X T ρ e (.pr ds d)) (hp : P.nx ((ρ.set i (.own ds)).set j (.v d))) (hN : X.N.Nodup) (hc : X.calm = true := by rfl) (hi : X.N[i]? = some x := by rfl) (hj : X.N[j]? = some y := by rfl) (hx : Loc X.env.scope x := by first | exact Or.inl rfl | exact Or.inr rfl) (hy : Loc X.env.scope y := by first | exact Or.inl rfl | exact Or.inr rfl)
    (hf : X.fn x = true ∨ X.env.scope.names.lookup x = some .local := by first | exact .inl rfl | exact .inr rfl) (hf2 : X.fn y = true ∨ X.env.scope.names.lookup y = some .local := by first | exact .inl rfl | exact .inr rfl)
    (hs : swapsWithSole [.Tuple [.Name x px, .Name y py] m pt] e pos.line X.env = pure false := by rfl) (hw : swappedStores [.Tuple [.Name x px, .Name y py] m pt] e X.env = pure none := by rfl)
    (h1 : (assignEach [.Tuple [.Name x px, .Name y py] m pt] X.env).map (·.2) = [assign (.Tuple [.Name x px, .Name y py] m pt) X.env] := by rfl)
    (g1 : (assignEach [.Name x px, .Name y py] X.env).length = 2 := by rfl) (g2 : (assignEach [.Name x px, .Name y py] X.env).findIdx? (·.1) = none := by rfl)
    (g3 : (assignEach [.Name x px, .Name y py] X.env).map (·.2) = assign (.Name x px) X.env :: (assignEach [.Name y py] X.env).map (·.2) := by rfl)
    (g4 : (assignEach [.Name y py] X.env).map (·.2) = assign (.Name y py) X.env :: (assignEach [] X.env).map (·.2) := by rfl) : PX X T B0 H0 ρ (.Assign [.Tuple [.Name x px, .Name y py] m pt] e pos) P :=
  PS.imp (ps_asg h (pg_tup hc (pgs_cons (pg_name (i := i) hN hi hx hf) (pgs_cons (pg_name (i := j) hN hj hy hf2) pgs_nil g4) g3) g1 g2) hs hw h1) fun Z σ H ⟨B, S, n, _⟩ => ⟨B0, H0, B, S, fun v B1 H1 f1 q1 => by
    obtain ⟨t, p, vs, w, rfl, hs, k1, k2, k3, ra, r2⟩ := q1
    refine ⟨_, _, rfl, hs, rfl, _, _, rfl, _, _, rfl, rfl, n _ _ B1 H1 hp f1.eb (((S.fwd f1).setO k1 (S.fw.ex.free k2) k3 ra fun j es _ hj z => ?_).set r2)⟩
    obtain ⟨q, ws, e1, hq, _⟩ := S.own j es hj
    rw [z] at e1
    cases e1
    rw [k2] at hq
    cases hq⟩
/-- try: y2 = f(..) except C as n: y = n, where the call raises -/
theorem px_tryA {c : Value} {i l i2 : Nat} {n y y2 : Str} {np pos' py pn pa pc px p2 : Pos} {fn : Str} {o : Out} (hN : X.N.Nodup) (hc : Names X x c) (cf : Kn X.prog X.w X.K X.mg X.base T k fn Rel) (ha : ∀ (pn : List (Addr × Obj)) (xe : Value → Shared → Prop), PAs (X.tr pn xe) T ρ (e :: es) ds) (h : Rel ds o) (ho : Caught X.K c o) (hr : ∀ (pn : List (Addr × Obj)) (xe : Value → Shared → Prop), Room j (X.tr pn xe).A) (hp : P.nx ((ρ.set l (.v (keptD o))).set i .no)) (hk : k ≤ j := by decide)
    (hi : X.N[i]? = some n := by rfl) (hj : X.N[l]? = some y := by rfl) (hi2 : X.N[i2]? = some y2 := by rfl) (hij : i ≠ l := by decide) (hs : X.stack = X.env :: X.outer := by rfl) (hf : X.env.frame = some X.env.locals := by rfl) (hex : X.ex = [] := by rfl) (hln : X.env.kindOf n = some .local := by rfl) (hly : X.env.kindOf y = some .local := by rfl)
    (hdn : (n == ("__debug__" : Str)) = false := by decide) (hdn2 : (n == ("__classdict__" : Str)) = false := by decide) (hsw : ∀ (a : Addr) (q : List (Addr × Obj)), swapsWith (.Name n pn) (some (.Name y py)) pa.line (X.suite a q).env = pure false := by intros; rfl)
    (hg : ∀ pn xe, Gl (X.tr pn xe) fn := by intros; rfl) (hdb : (fn == ("__debug__" : Str)) = false := by decide) (he : ∀ pn xe, starEach (e :: es) (X.tr pn xe).env = (false, eval e (X.tr pn xe).env) :: starEach es (X.tr pn xe).env := by intros; rfl) (hpl : ∀ pn xe, (backTo pc (starEach es (X.tr pn xe).env)).any (·.1) = false := by intros; rfl)
    (hx2 : ∀ pn xe, Loc (X.tr pn xe).env.scope y2 := by intros; exact Or.inl rfl) (hf2 : ∀ pn xe, (X.tr pn xe).fn y2 = true ∨ (X.tr pn xe).env.scope.names.lookup y2 = some .local := by intros; exact .inr rfl)
    (hss : ∀ pn xe, swapsWith (.Call (.Name fn p) (e :: es) [] pc) (some (.Name y2 p2)) px.line (X.tr pn xe).env = pure false := by intros; rfl) :
    PX X T B0 H0 ρ (.Try [.Assign [.Name y2 p2] (.Call (.Name fn p) (e :: es) [] pc) px] [.ExceptHandler (some (.Name x np)) (some n) [.Assign [.Name y py] (.Name n pn) pa] pos'] [] [] pos) P := by
  refine PS.imp (ps_try_hold (tb := fun W => fun Z σ H => ∃ B, SD X.K T B0 H0 B H σ ρ ∧ XW X.K H (fun cls d H2 => W cls d σ H2) o) hs hf hex hN hi hj hij hln hly hc hdn hdn2 hsw fun W pn xe tk _ => ?_) ?_
  · exact pss_one (PS.imp (ps_set (i := i2) hN hi2 (hx2 pn xe) (pr_callS (X := X.tr pn xe) (B0 := B0) (H0 := H0) cf (hr pn xe) tk (ha pn xe) h (fun r z => by subst z; exact ho.elim) hk (hg pn xe) hdb (he pn xe) (hpl pn xe)) (hss pn xe) (hf2 pn xe)) fun Z σ H q => q)
  · exact fun Z σ H ⟨B, S, hZ, _⟩ => ⟨B, S, hold_wants S ho hp hZ⟩
end
end DX
/-! # sum, abs, sorted of ints, shifts, ranges with a step -/
namespace DX
open PySem PySem.Spec PyProof.Rows L2
section
variable {X : Cx} {T : List Addr} {ρ : Rho} {e a b c tg : Expr} {es : List Expr} {pos p : Pos} {d da db : D} {ns ms : List Int}
theorem cl_sum (hc : X.calm = true) : CalD X (.builtin "sum") [lI ns] (.v (.int ns.sum)) := ⟨_, cr_sum hc, fun B H vs Q s ra q => by
  cases ra with
  | cons r1 ra =>
    cases ra
    cases r1 with
    | lst h1 h2 =>
      cases ra_ints h2
      exact ⟨_, ns, rfl, .inl (rd_mono s h1), q _ _ _ (Fwd.refl s) (.int _)⟩⟩
theorem cl_abs {i : Int} : CalD X (.builtin "abs") [.int i] (.v (.int (if i < 0 then -i else i))) := ⟨_, call_abs, fun B H vs Q s ra q => by
  cases ra with
  | cons r1 ra =>
    cases ra
    cases r1
    exact ⟨i, rfl, q _ _ _ (Fwd.refl s) (.int _)⟩⟩
/-- sorted of ints -/
theorem cl_sortedI (hp : ms.Perm ns) (hw : ms.Pairwise (· ≤ ·)) : CalD X (.builtin "sorted") [lI ns] (.own (ms.map D.int)) := ⟨_, cr_sortedI, fun B H vs Q s ra q => by
  cases ra with
  | cons r1 ra =>
    cases ra
    cases r1 with
    | lst h1 h2 =>
      cases ra_ints h2
      refine ⟨_, ns, rfl, .inl (rd_mono s h1), fun ns' t pq wq ht => ?_⟩
      have eq : ns' = ms := List.Perm.eq_of_pairwise (le := fun x y : Int => x ≤ y) (fun x y _ _ h1 h2 => Int.le_antisymm h1 h2) wq hw (pq.trans hp.symm)
      subst eq
      exact q _ _ _ (Fwd.side s ht) ⟨t, _, rfl, upd_same, ht, s.free ht, ra_of ns'⟩⟩
where
  ra_of {K : PySem.W.Frag} {H : Hp} : ∀ ns : List Int, RA K H (ns.map V.int) (ns.map D.int)
    | [] => .nil
    | n :: ns => .cons (.int n) (ra_of ns)
theorem bd_shl {i j : Int} (h : CShl i j) : BinD X .LShift (.int i) (.int j) (.v (.int (i * 2 ^ j.toNat))) := ⟨_, op_shlW, opd_I h fun _ => .int _⟩
theorem shl_one {j : Int} (h0 : 0 ≤ j) (h1 : j ≤ 1000) : CShl 1 j := ⟨h0, by
  have e : Builtin.Int.intBits 1 = 1 := by decide +kernel
  rw [e]
  show ((1 : Nat) : Int) + j ≤ 2 ^ 27
  omega⟩
/-! ### walks for px_forI -/
theorem pib_list {l : Expr} {ds : List D} (h : PD X T ρ l (.v d)) (hd : d = .lst ds ∨ d = .scr ds) : PIb X T ρ tg l ds :=
  ⟨fun pins s σ H R' I ⟨B0, H0, B, S, k⟩ => (pi_list (tg := tg) h).run pins s σ H R' I ⟨B0, H0, B, S, fun v B1 H1 f1 r1 => by
    obtain ⟨p, vs, rfl, hq, ra⟩ := R.seqL r1 hd
    refine ⟨p, rfl, ⟨_, f1.e2.seq hq⟩, k _ B1 H1 f1 ⟨fun i B' H' e1 _ e2 hi => ?_, fun i B' H' x H'' e1 _ e2 hi y => ?_, fun B' H' e1 _ e2 => ⟨vs, (e1.trans e2).seq hq, by rw [ra.length]; exact Nat.le_refl _⟩⟩⟩
    · obtain ⟨v, hv, _⟩ := ra.get (List.getElem?_eq_getElem hi)
      exact ⟨vs, v, (e1.trans e2).seq hq, hv⟩
    · obtain ⟨e, y⟩ := y
      subst e
      obtain ⟨d', hd', r'⟩ := ra.getV (y vs ((e1.trans e2).seq hq))
      exact ⟨d', B', hd', Fwd.refl e2, r'.mono e1⟩⟩⟩
theorem pib_tup {l : Expr} {ds : List D} (h : PD X T ρ l (.v (.tup ds))) : PIb X T ρ tg l ds :=
  ⟨fun pins s σ H R' I ⟨B0, H0, B, S, k⟩ => (pi_tup (tg := tg) h).run pins s σ H R' I ⟨B0, H0, B, S, fun v B1 H1 f1 r1 => by
    cases r1 with
    | @tup p vs _ hq ra =>
      refine ⟨p, rfl, ⟨_, sqt_mono f1.e2 hq⟩, k _ B1 H1 f1 ⟨fun i B' H' e1 _ e2 hi => ?_, fun i B' H' x H'' e1 _ e2 hi y => ?_, fun B' H' e1 _ e2 => ⟨vs, sqt_mono (e1.trans e2) hq, by rw [ra.length]; exact Nat.le_refl _⟩⟩⟩
      · obtain ⟨v, hv, _⟩ := ra.get (List.getElem?_eq_getElem hi)
        exact ⟨vs, v, sqt_mono (e1.trans e2) hq, hv⟩
      · obtain ⟨e, y⟩ := y
        subst e
        obtain ⟨d', hd', r'⟩ := ra.getV (y vs (sqt_mono (e1.trans e2) hq))
        exact ⟨d', B', hd', Fwd.refl e2, r'.mono e1⟩⟩⟩
/-- range(n - 1, -1, -1) -/
def down (n : Nat) : List D := (List.range n).map fun i : Nat => .int ((n : Int) - 1 - (i : Int))
theorem pib_down {n : Nat} (ha : PD X T ρ a (.v (.int ((n : Int) - 1)))) (hb : PD X T ρ b (.v (.int (-1)))) (hcc : PD X T ρ c (.v (.int (-1)))) (hn : n ≤ 1000000) (hm : X.mg "range" = none) (hg : Gl X "range" := by rfl)
    (hs : starEach [a, b, c] X.env = (false, eval a X.env) :: starEach [b, c] X.env := by rfl) (hs2 : starEach [b, c] X.env = (false, eval b X.env) :: starEach [c] X.env := by rfl) (hs3 : starEach [c] X.env = (false, eval c X.env) :: starEach [] X.env := by rfl) (hpl : (backTo pos (starEach [b, c] X.env)).any (·.1) = false := by rfl) : PIb X T ρ tg (.Call (.Name "range" p) [a, b, c] [] pos) (down n) :=
  ⟨fun pins s σ H R' I ⟨B0, H0, B, S, k⟩ => (pi_range3 (tg := tg) hg hm (pa_cons ha (pa_cons hb (pa_cons hcc pa_nil hs3) hs2) hs) hs hpl).run pins s σ H R' I ⟨B0, H0, B, S, fun v B1 H1 f1 r1 => ⟨B0, H0, B1, S.fwd f1, fun v2 B2 H2 f2 r2 => ⟨B0, H0, B2, (S.fwd f1).fwd f2, fun v3 B3 H3 f3 r3 => by
    cases r1
    cases r2
    cases r3
    have rc := RgC.neg (i := (n : Int) - 1) (j := -1) (by omega) (by omega) (by decide) (by decide)
    have en : ((n : Int) - 1 - -1).toNat = n := by omega
    rw [en] at rc
    have len : (down n).length = n := by
      unfold down
      rw [List.length_map, List.length_range]
    refine ⟨_, -1, -1, n, rfl, rc, k _ B3 H3 ((f1.trans f2).trans f3) ⟨fun i B' H' e1 _ e2 hi => ?_, fun i B' H' x H'' e1 _ e2 hi y => ?_, fun B' H' e1 _ e2 => ?_⟩⟩
    · rw [len] at hi
      exact hi
    · rw [len] at hi
      obtain ⟨e, y⟩ := y
      subst e y
      refine ⟨.int ((n : Int) - 1 - (i : Int)), B', ?_, Fwd.refl e2, ?_⟩
      · unfold down
        rw [List.getElem?_map, List.getElem?_range hi]
        rfl
      · have ex : (n : Int) - 1 + (i : Nat) * -1 = (n : Int) - 1 - (i : Int) := by omega
        rw [ex]
        exact .int _
    · show n ≤ (down n).length
      rw [len]
      exact Nat.le_refl _⟩⟩⟩⟩
end
end DX
/-! # The end of a row: the law's promise of data, its tables kept as they grow -/
namespace DX
open PySem PySem.Spec PyProof.Rows L2
def scrD (ns : List Int) : D := .scr (ns.map D.int)
theorem ra_of_ints {K : PySem.W.Frag} {H : Hp} : ∀ ns : List Int, RA K H (ns.map V.int) (ns.map D.int)
  | [] => .nil
  | n :: ns => .cons (.int n) (ra_of_ints ns)
/-- the heap in which the script (where it is not in the written part) and the tables are tracked -/
def H0of (a : Addr) (sc : Option (Obj × List V)) (tb : List Addr) : Hp := fun b => if b ∈ tb then some (TabO b) else match sc with
  | some (o, xs) => if b = a then some (.frz o (.lst xs)) else none
  | none => none
section
variable {P : Program} {w : World} {K : PySem.W.Frag} {mg mb : Str → Option Value} {CX : CXT} {k : Nat} {fa a : Addr} {cs : List (Addr × Addr)} {fd : FuncData} {x : Str} {s₁ : Shared} {vs : List Value} {ns : List Int} {Rel : List D → Out → Prop}
/-- tables' objects -/
abbrev bare (h : Heap) (t : Addr) : Prop := h.get? t = some { cls := .none, data := .fields #[] }
theorem law_run {sc : Option (Obj × List V)} (hIn : K.In s₁.heap) (hmg : s₁.heap.Ns mainGlobals mg) (hmb : s₁.heap.Ns builtinsNs mb) (hbt : ∀ z : Str, z ≠ "__name__" → mb z = bootBuiltins z) (hnl : s₁.heap.NoLimit) (hgens : s₁.gens = #[])
    (tB : ∀ t ∈ cs.map (·.2), bare s₁.heap t) (tK : ∀ t ∈ cs.map (·.2), K.lookup t = none) (tC : ∀ z ∈ cs, PySem.W.CodeHd s₁.heap z.1 z.2)
    (hbmain : ∃ (bm : Addr) (ob : Obj), mg "__builtins__" = some (.ref bm) ∧ bm ≠ builtinsNs ∧ s₁.heap.get? bm = some ob ∧ ob.cls = .type "module" ∧ ob.dict = some builtinsNs ∧ ob.data = .plain)
    (ha : s₁.heap.get? a = some { cls := .type "list", data := .seq vs.toArray }) (room : Room k callerA)
    (F : ∀ base : Heap, K.In base → base.Ns mainGlobals mg → (∀ z ∈ cs, GxR.TabB base mg z.1 z.2) → FnOk P w K mg base CX k fa fd [x] (spD K (cs.map (·.2)) Rel)) (hbind : ∀ (s : Shared) (u : Value), BindsTo s fd ⟨[u], []⟩ [(x, u)])
    (hrel : Rel [scrD ns] (.ret (.v (.bl true)))) (hCX : ∀ H e s', CX [] H s₁ (fun _ _ _ => False) e s' → False)
    (hsq : SqL K (H0of a sc (cs.map (·.2))) a (ns.map V.int)) (hsc : ∀ o xs, sc = some (o, xs) → K.lookup a = none ∧ ObjOk P w (H0of a sc (cs.map (·.2))) s₁.heap a (.frz o (.lst xs)))
    : codeAny (model P w) callerA (.call (.ref fa) ⟨[.ref a], []⟩) (fun r s' => r = .ok (.ret (.bool true)) ∧ OldK s₁.heap s'.heap ∧ s'.os = s₁.os ∧ AllBare s'.gens) s₁ := by
  generalize htb : cs.map (·.2) = tb at *
  have memT : ∀ z ∈ cs, z.2 ∈ tb := fun z hz => htb ▸ List.mem_map.mpr ⟨z, hz, rfl⟩
  have ofT : ∀ t ∈ tb, ∃ z ∈ cs, z.2 = t := fun t ht => List.mem_map.mp (htb.symm ▸ ht)
  have aT : a ∉ tb := fun ht => by
    have q := tB a ht
    unfold bare at q
    rw [ha] at q
    exact nomatch congrArg Obj.data (Option.some.inj q)
  generalize hH : H0of a sc tb = Hh at *
  have hTab : ∀ t ∈ tb, Hh t = some (TabO t) := fun t ht => by
    rw [← hH]
    exact if_pos ht
  -- what is tracked
  have tracked : ∀ b u, Hh b = some u → (b ∈ tb ∧ u = TabO b) ∨ (b = a ∧ ∃ o xs, sc = some (o, xs) ∧ u = .frz o (.lst xs)) := fun b u e => by
    rw [← hH] at e
    unfold H0of at e
    by_cases hb : b ∈ tb
    · rw [if_pos hb] at e
      exact .inl ⟨hb, (Option.some.inj e).symm⟩
    · rw [if_neg hb] at e
      cases sc with
      | none => cases e
      | some p =>
        obtain ⟨o, xs⟩ := p
        by_cases hba : b = a
        · exact .inr ⟨hba, o, xs, rfl, (Option.some.inj ((if_pos hba).symm.trans e)).symm⟩
        · exact nomatch (if_neg hba).symm.trans e
  have none_of : ∀ {b : Addr} {o : Obj}, s₁.heap.get? b = some o → (∀ us n, o.data ≠ .seq us n) → o.data ≠ .fields #[] → Hh b = none := fun {b o} e n1 n2 => by
    cases q : Hh b with
    | none => rfl
    | some u =>
      rcases tracked b u q with ⟨hb, _⟩ | ⟨hb, _⟩
      · have z := tB b hb
        unfold bare at z
        rw [e] at z
        cases z
        exact absurd rfl n2
      · subst hb
        rw [ha] at e
        cases e
        exact absurd rfl (n1 _ _)
  have keepNs : ∀ {b : Addr} {m : Str → Option Value}, s₁.heap.Ns b m → (hidT s₁.heap Hh).Ns b m := fun {b m} ⟨o, es, ep, e, dt, r⟩ => by
    refine ⟨o, es, ep, hidT_get e (none_of e (fun us n z => ?_) fun z => ?_), dt, r⟩
    · rw [dt] at z
      cases z
    · rw [dt] at z
      cases z
  have inB : K.In (hidT s₁.heap Hh) := fun b o e => hidT_get (hIn b o e) (by
    cases q : Hh b with
    | none => rfl
    | some u =>
      rcases tracked b u q with ⟨hb, _⟩ | ⟨hb, o2, xs, hs, _⟩
      · rw [tK b hb] at e
        cases e
      · subst hb
        rw [(hsc o2 xs hs).1] at e
        cases e)
  have hMod : L2.Mod K mg (hidT s₁.heap Hh) := ⟨inB, keepNs hmg, ⟨mb, keepNs hmb, hbt⟩, let ⟨mc, c1, c2⟩ := hnl; ⟨mc, keepNs c1, c2⟩⟩
  have hTabs : ∀ z ∈ cs, GxR.TabB (hidT s₁.heap Hh) mg z.1 z.2 := fun z hz => by
    have bz : s₁.heap.get? z.2 = some { cls := .none, data := .fields #[] } := tB z.2 (memT z hz)
    refine ⟨?_, ?_, fun e => ?_⟩
    · obtain ⟨o, us, file, tf, flags, tg, inF, text, tt, e1, r1, r2, r3, rr⟩ := tC z hz
      refine ⟨o, us, file, tf, flags, tg, inF, text, tt, hidT_get e1 (none_of e1 (fun vs n z => ?_) fun z => ?_), r1, r2, r3, rr⟩
      · rw [r2] at z
        cases z
      · rw [r2] at z
        cases z
        simp at r3
    · obtain ⟨bm, ob, b1, b2, b3, b4, b5, b6⟩ := hbmain
      have nG : bm ≠ mainGlobals := fun q => by
        obtain ⟨o, es, ep, e, dt, _⟩ := hmg
        rw [q, e] at b3
        cases b3
        rw [dt] at b6
        cases b6
      have nP : bm ≠ z.2 := fun q => by
        rw [q, bz] at b3
        cases b3
        cases b6
      refine ⟨bm, ob, b1, b2, nG, nP, hidT_get b3 (none_of b3 (fun vs n z => ?_) fun z => ?_), b4, b5, b6⟩
      · rw [b6] at z
        cases z
      · rw [b6] at z
        cases z
    · obtain ⟨o, es, ep, e1, dt, _⟩ := hmg
      rw [e, bz] at e1
      cases e1
      cases dt
  have hOk : HOk P w Hh s₁.heap := fun b u e => by
    rcases tracked b u e with ⟨hb, rfl⟩ | ⟨hb, o, xs, hs, rfl⟩
    · have bz : s₁.heap.get? b = some { cls := .none, data := .fields #[] } := tB b hb
      exact GX.tab_ok (ps := #[]) bz (by first | exact .nil | trivial | constructor | simp [TriplesOk])
    · subst hb
      exact (hsc o xs hs).2
  have e0 : Env0 P w K mg (hidT s₁.heap Hh) callerA [] s₁ Hh := ⟨rfl, hMod, fun b o e => of_hidT e, Nat.le_of_eq (hidT_size _ _), trivial, fun b hb => absurd (show b ∈ ([] : List Addr) from hb) (by simp), hOk, .of_eq hgens⟩
  have want : spD K tb Rel [.ref a] Hh (fun v H' => v = .bl true ∧ ∀ t ∈ tb, H' t = some (TabO t)) fun _ _ _ => False :=
    ⟨Hh, [scrD ns], .ret (.v (.bl true)), Same.refl _, hTab, .cons (.scr hsq (ra_of_ints ns)) .nil, hrel, fun v B2 H2 f q => by
      cases q
      exact ⟨rfl, fun t ht => f.ex _ _ (hTab t ht)⟩, trivial⟩
  refine codeAny_mono ((F _ inB (keepNs hmg) hTabs).run callerA [] s₁ Hh ⟨[.ref a], []⟩ [.ref a] [.ref a] _ _ room e0 (hbind s₁ (.ref a)) (.cons rfl .nil) want) fun r s' h => ?_
  cases r with
  | error e => exact (hCX Hh e s' h).elim
  | ok fl =>
    cases fl with
    | next => exact h.elim
    | brk => exact h.elim
    | cont => exact h.elim
    | ret u =>
      obtain ⟨v, H', os, br, un, hok', r', q, qt⟩ := h
      subst q
      obtain rfl : u = Value.bool true := r'
      have key : ∀ b o, b ∉ tb → s₁.heap.get? b = some o → s'.heap.get? b = some o := fun b o nb e => by
        cases q : Hh b with
        | none => exact un.keep b o e q (by intro z; exact absurd (show b ∈ ([] : List Addr) from z) (by simp)) (by simp)
        | some u =>
          rcases tracked b u q with ⟨z, _⟩ | ⟨_, ob, xs, _, rfl⟩
          · exact absurd z nb
          · have z2 := un.frzs b ob _ q
            obtain ⟨e1, _⟩ := hOk b _ q
            obtain ⟨e2, _⟩ := hok' b _ z2
            rw [e] at e1
            cases e1
            exact e2
      have grown : ∀ t ∈ tb, ∃ more : Array Value, s'.heap.get? t = some { cls := .none, data := .fields more } := fun t ht => by
        obtain ⟨⟨ps, e, _⟩, _, _⟩ := hok' t _ (qt t ht)
        exact ⟨ps, e⟩
      refine ⟨rfl, ⟨fun b o e => ?_, fun b o e => ?_⟩, os, br⟩
      · by_cases hb : b ∈ tb
        · obtain ⟨z, hz, rfl⟩ := ofT b hb
          obtain ⟨more, hm⟩ := grown _ hb
          have bz : s₁.heap.get? z.2 = some { cls := .none, data := .fields #[] } := tB _ hb
          rw [bz] at e
          cases e
          exact .inr (.inl ⟨((tC z hz).tab bz).isCodeTable, rfl, #[], more, rfl, by rw [Array.empty_append]; exact hm⟩)
        · exact .inl (key b o hb e)
      · by_cases hb : b ∈ tb
        · obtain ⟨more, hm⟩ := grown b hb
          exact ⟨_, hm⟩
        · exact ⟨o, key b o hb e⟩
/-- .. the script in the written part, or not -/
theorem law_callD (hIn : K.In s₁.heap) (hmg : s₁.heap.Ns mainGlobals mg) (hmb : s₁.heap.Ns builtinsNs mb) (hbt : ∀ z : Str, z ≠ "__name__" → mb z = bootBuiltins z) (hnl : s₁.heap.NoLimit) (hgens : s₁.gens = #[])
    (tB : ∀ t ∈ cs.map (·.2), bare s₁.heap t) (tK : ∀ t ∈ cs.map (·.2), K.lookup t = none) (tC : ∀ z ∈ cs, PySem.W.CodeHd s₁.heap z.1 z.2)
    (hbmain : ∃ (bm : Addr) (ob : Obj), mg "__builtins__" = some (.ref bm) ∧ bm ≠ builtinsNs ∧ s₁.heap.get? bm = some ob ∧ ob.cls = .type "module" ∧ ob.dict = some builtinsNs ∧ ob.data = .plain)
    (ha : s₁.heap.get? a = some { cls := .type "list", data := .seq vs.toArray }) (hi : IntsAre vs ns) (hl : ns.length ≤ sizeLine) (room : Room k callerA)
    (F : ∀ base : Heap, K.In base → base.Ns mainGlobals mg → (∀ z ∈ cs, GxR.TabB base mg z.1 z.2) → FnOk P w K mg base CX k fa fd [x] (spD K (cs.map (·.2)) Rel)) (hbind : ∀ (s : Shared) (u : Value), BindsTo s fd ⟨[u], []⟩ [(x, u)])
    (hrel : Rel [scrD ns] (.ret (.v (.bl true)))) (hCX : ∀ H e s', CX [] H s₁ (fun _ _ _ => False) e s' → False) :
    codeAny (model P w) callerA (.call (.ref fa) ⟨[.ref a], []⟩) (fun r s' => r = .ok (.ret (.bool true)) ∧ OldK s₁.heap s'.heap ∧ s'.os = s₁.os ∧ AllBare s'.gens) s₁ := by
  have rv := vals_ints hi
  have lenV := hi.length
  have aT : a ∉ cs.map (·.2) := fun ht => by
    have q := tB a ht
    unfold bare at q
    rw [ha] at q
    exact nomatch congrArg Obj.data (Option.some.inj q)
  cases hk : K.lookup a with
  | some o =>
    have e := hIn a o hk
    rw [ha] at e
    cases e
    exact law_run (sc := none) hIn hmg hmb hbt hnl hgens tB tK tC hbmain ha room F hbind hrel hCX (.inr ⟨_, vs.toArray, _, hk, rfl, rfl, rfl, by rw [List.size_toArray, lenV]; exact hl, by simpa using rv⟩) (fun o xs z => nomatch z)
  | none =>
    have h0 : H0of a (some ({ cls := .type "list", data := .seq vs.toArray }, ns.map V.int)) (cs.map (·.2)) a = some (.frz { cls := .type "list", data := .seq vs.toArray } (.lst (ns.map V.int))) := (if_neg aT).trans (if_pos rfl)
    exact law_run (sc := some ({ cls := .type "list", data := .seq vs.toArray }, ns.map V.int)) hIn hmg hmb hbt hnl hgens tB tK tC hbmain ha room F hbind hrel hCX (.inl (.inr ⟨_, h0⟩)) fun o xs z => by
      cases z
      exact ⟨hk, ha, by rw [List.length_map]; exact hl, vs, _, rv, ha⟩
end
/-- what is known of the law at the head's heap -/
def LawD (P : Program) (w : World) (K : PySem.W.Frag) (CX : CXT) (k n : Nat) (x : Str) (mg : Str → Option Value) (fa : Addr) (h : Heap) : Prop :=
  ∃ (fd : FuncData) (cs : List (Addr × Addr)) (Rel : List D → Out → Prop), (∀ z ∈ cs, PySem.W.CodeHd h z.1 z.2 ∧ bare h z.2 ∧ K.lookup z.2 = none) ∧ (∀ (s : Shared) (u : Value), BindsTo s fd ⟨[u], []⟩ [(x, u)]) ∧
    (∀ ns : List Int, ns.length ≤ n → Rel [scrD ns] (.ret (.v (.bl true)))) ∧
    ∀ base : Heap, K.In base → base.Ns mainGlobals mg → (∀ z ∈ cs, GxR.TabB base mg z.1 z.2) → FnOk P w K mg base CX k fa fd [x] (spD K (cs.map (·.2)) Rel)
theorem walk_D {l : PySem.W.OpenLaw} {n k : Nat} {q : Program} {loose : List Str} {XP : (Str → Option Value) → Heap → Prop} {YP : World → Heap → Prop} {d : DefRec} {K : Params → PySem.W.Frag} {CX : World → CXT} {x : Str}
    (hn : l.most = some n) (hn2 : n ≤ sizeLine) (hdf : d.params.defaults = []) (hr : Room k callerA) (hY : ∀ (w : World) (h : Heap), YP w h → (K w.params).In h)
    (F : ∀ (w : World) (mean : ExcName → Option Value) (mg mb : Str → Option Value) (fa : Addr) (h : Heap), Top q (PySem.W.looseW q loose) mean mg mb h → YP w h → (K w.params).In h → mg d.name = some (.ref fa) → LawD l.prog w (K w.params) (CX w) k n x mg fa h)
    (hCX : ∀ (w : World) (H : Hp) (s : Shared) (e : Value) (s' : Shared), CX w [] H s (fun _ _ _ => False) e s' → False) :
    PySem.W.WalkO q loose XP YP l.row.toRowW d [] (fun f vs => PySem.call f vs) := by
  refine Att.attach_callB hn hdf fun w s₀ s₁ mg mb fa o pm cd doc a vs ns G Y ho hd hcd hfa hobj hints hlen hbits hg => ?_
  have inK := hY w _ Y
  obtain ⟨fd, cs, Rel, hT, hb, hrel, hF⟩ := F w _ mg mb fa _ G.T Y inK hfa
  have mem : ∀ t ∈ cs.map (·.2), ∃ z ∈ cs, z.2 = t := fun t ht => List.mem_map.mp ht
  refine law_callD inK G.T.g G.T.b G.T.builtins G.T.nolimit hg (fun t ht => ?_) (fun t ht => ?_) (fun z hz => (hT z hz).1) G.T.bmain hobj hints (Nat.le_trans hlen hn2) hr hF hb (hrel ns hlen) fun H e s' => hCX w H s₁ e s'
  · obtain ⟨z, hz, rfl⟩ := mem t ht
    exact (hT z hz).2.1
  · obtain ⟨z, hz, rfl⟩ := mem t ht
    exact (hT z hz).2.2
end DX
/-! # Walks from the end, shifts, tests of ints, three names at once -/
namespace DX
open PySem PySem.Spec PyProof.Rows L2
section
variable {X : Cx} {T : List Addr} {ρ : Rho} {e a b c tg : Expr} {es : List Expr} {pos p p2 pos2 : Pos} {d da db : D} {ns ms : List Int} {ds : List D}
theorem down_len (n : Nat) : (down n).length = n := by
  unfold down
  rw [List.length_map, List.length_range]
theorem down_at {n i : Nat} (h : i < n) : (down n)[i]? = some (.int ((n : Int) - 1 - (i : Int))) := by
  unfold down
  rw [List.getElem?_map, List.getElem?_range h]
  rfl
/-- reversed(range(n)) -/
theorem pib_revRange {n : Nat} (ha : PD X T ρ a (.v (.int (n : Int)))) (hn : n ≤ 1000000) (hm : X.mg "reversed" = none) (hm2 : X.mg "range" = none) (hg : Gl X "reversed" := by rfl) (hg2 : Gl X "range" := by rfl)
    (hs2 : starEach [a] X.env = (false, eval a X.env) :: starEach [] X.env := by rfl) (hs : starEach [.Call (.Name "range" p2) [a] [] pos2] X.env = (false, eval (.Call (.Name "range" p2) [a] [] pos2) X.env) :: starEach [] X.env := by rfl) :
    PIb X T ρ tg (.Call (.Name "reversed" p) [.Call (.Name "range" p2) [a] [] pos2] [] pos) (down n) :=
  ⟨fun pins s σ H R' I ⟨B0, H0, B, S, k⟩ => (pi_revR (tg := tg) hg hm (prg_1 hg2 hm2 ha hs2) hs).run pins s σ H R' I ⟨B0, H0, B, S, fun v B1 H1 f1 r1 => by
    cases r1
    refine ⟨(n : Int), rfl, by decide, by decide, by omega, by omega, ?_⟩
    have e1 : ((n : Int) - 0).toNat = n := by omega
    rw [e1]
    refine k _ B1 H1 f1 ⟨fun i B' H' e1 _ e2 hi => ?_, fun i B' H' x H'' e1 _ e2 hi y => ?_, fun B' H' e1 _ e2 => ?_⟩
    · rw [down_len] at hi
      exact hi
    · rw [down_len] at hi
      obtain ⟨e, y⟩ := y
      subst e y
      refine ⟨.int ((n : Int) - 1 - (i : Int)), B', down_at hi, Fwd.refl e2, ?_⟩
      have ex : 0 + (n : Int) - 1 + (i : Nat) * -1 = (n : Int) - 1 - (i : Int) := by omega
      rw [ex]
      exact .int _
    · rw [down_len]
      exact Nat.le_refl n⟩⟩
/-- reversed(xs), xs a list, a tuple -/
theorem pib_revL {l : Expr} (h : PD X T ρ l (.v d)) (hd : d = .lst ds ∨ d = .scr ds) (hm : X.mg "reversed" = none) (hg : Gl X "reversed" := by rfl) (hs : starEach [l] X.env = (false, eval l X.env) :: starEach [] X.env := by rfl) : PIb X T ρ tg (.Call (.Name "reversed" p) [l] [] pos) ds.reverse :=
  ⟨fun pins s σ H R' I ⟨B0, H0, B, S, k⟩ => (RT.pi_revA (tg := tg) hg hm h hs).run pins s σ H R' I ⟨B0, H0, B, S, fun v B1 H1 f1 r1 => by
    obtain ⟨p, vs, rfl, hq, ra⟩ := R.seqL r1 hd
    have hl : ds.reverse.length = vs.length := by rw [List.length_reverse, ra.length]
    refine ⟨p, vs, rfl, .inl ⟨f1.e2.seq hq, k _ B1 H1 f1 ⟨fun i B' H' e1 _ e2 hi => ?_, fun i B' H' x H'' e1 _ e2 hi y => ?_, fun B' H' e1 _ e2 => ?_⟩⟩⟩
    · rw [hl] at hi
      exact ⟨hi, vs, vs[vs.length - 1 - i], (e1.trans e2).seq hq, List.getElem?_eq_getElem (by omega)⟩
    · rw [List.length_reverse] at hi
      obtain ⟨e, y⟩ := y
      subst e
      have hy := y vs ((e1.trans e2).seq hq)
      rw [ra.length] at hy
      obtain ⟨d', hd', r'⟩ := ra.getV hy
      exact ⟨d', B', by rw [List.getElem?_reverse hi]; exact hd', Fwd.refl e2, r'.mono e1⟩
    · show vs.length ≤ _
      omega⟩⟩
theorem pib_revT {l : Expr} (h : PD X T ρ l (.v (.tup ds))) (hm : X.mg "reversed" = none) (hg : Gl X "reversed" := by rfl) (hs : starEach [l] X.env = (false, eval l X.env) :: starEach [] X.env := by rfl) : PIb X T ρ tg (.Call (.Name "reversed" p) [l] [] pos) ds.reverse :=
  ⟨fun pins s σ H R' I ⟨B0, H0, B, S, k⟩ => (RT.pi_revA (tg := tg) hg hm h hs).run pins s σ H R' I ⟨B0, H0, B, S, fun v B1 H1 f1 r1 => by
    cases r1 with
    | @tup p vs _ hq ra =>
      have hl : ds.reverse.length = vs.length := by rw [List.length_reverse, ra.length]
      refine ⟨p, vs, rfl, .inr ⟨sqt_mono f1.e2 hq, k _ B1 H1 f1 ⟨fun i B' H' e1 _ e2 hi => ?_, fun i B' H' x H'' e1 _ e2 hi y => ?_, fun B' H' e1 _ e2 => ?_⟩⟩⟩
      · rw [hl] at hi
        exact ⟨hi, vs, vs[vs.length - 1 - i], sqt_mono (e1.trans e2) hq, List.getElem?_eq_getElem (by omega)⟩
      · rw [List.length_reverse] at hi
        obtain ⟨e, y⟩ := y
        subst e
        have hy := y vs (sqt_mono (e1.trans e2) hq)
        rw [ra.length] at hy
        obtain ⟨d', hd', r'⟩ := ra.getV hy
        exact ⟨d', B', by rw [List.getElem?_reverse hi]; exact hd', Fwd.refl e2, r'.mono e1⟩
      · show vs.length ≤ _
        omega⟩⟩
/-- xs[::-1] -/
theorem pd_revL {k : Nat} {p1 p3 : Pos} (h : PD X T ρ a (.v (.lst ds))) : PD X T ρ (.Subscript a (.Slice none none (some (.UnaryOp .USub (.Constant (.int 1) k p1) p2)) p3) pos) (.own ds.reverse) :=
  PE.imp (pe_revL h) fun σ H Q ⟨B0, H0, B, S, q⟩ => ⟨B0, H0, B, S, fun v B1 H1 f1 q1 => by
    cases q1 with
    | lst hs ra =>
      refine ⟨_, _, rfl, .inl (rd_mono f1.e2 hs), fun p hp => ?_⟩
      exact q _ _ _ (f1.trans (Fwd.side f1.e2 hp)) ⟨p, _, rfl, upd_same, f1.ex.free hp, f1.e2.free hp, ra_rev ra⟩⟩
where
  ra_rev {K : PySem.W.Frag} {H : Hp} : ∀ {vs : List V} {ds : List D}, RA K H vs ds → RA K H vs.reverse ds.reverse
    | _, _, .nil => .nil
    | _, _, .cons r t => by
      rw [List.reverse_cons, List.reverse_cons]
      exact RA.app (ra_rev t) (.cons r .nil)
theorem bd_shr {i j : Int} (h : 0 ≤ j) : BinD X .RShift (.int i) (.int j) (.v (.int (i / 2 ^ j.toNat))) := ⟨_, op_shr, opd_I h fun _ => .int _⟩
/-- n & 1 -/
theorem bd_odd {n : Nat} : BinD X .BitAnd (.int (n : Int)) (.int 1) (.v (.int ((n % 2 : Nat) : Int))) := ⟨_, op_odd, fun B H v u Q s r1 r2 q => by
  cases r1
  cases r2
  exact ⟨n, rfl, rfl, q _ _ _ (Fwd.refl s) (.int _)⟩⟩
/-- an int as a test -/
theorem pb_int {i : Int} (h : PD X T ρ e (.v (.int i))) (he : ∀ whole, isTrue e X.env whole = (do let v ← whole; standAt e.pos; holding [v] (truthy v)) := by intro _; rfl) : PB X T ρ e (!decide (i = 0)) :=
  PT.imp (pt_truth h he) fun σ H Q ⟨B0, H0, B, S, q⟩ => ⟨B0, H0, B, S, fun v B1 H1 f1 q1 => by
    cases q1
    refine ⟨_, rfl, ?_⟩
    have e1 : (i != 0) = !decide (i = 0) := by
      by_cases h : i = 0
      · subst h
        rfl
      · rw [decide_eq_false h, bne_iff_ne.mpr h]
        rfl
    rw [e1]
    exact q _ _ f1⟩
/-- int(truth value) -/
theorem cl_intB {k : Bool} : CalD X (.type "int") [.bl k] (.v (.int (if k then 1 else 0))) := ⟨_, call_int1, fun B H vs Q s ra q => by
  cases ra with
  | cons r1 ra =>
    cases ra
    cases r1
    exact .inr ⟨k, rfl, q _ _ _ (Fwd.refl s) (.int _)⟩⟩
end
section
variable {X : Cx} {T : List Addr} {B0 H0 : Hp} {ρ : Rho} {e : Expr} {pos : Pos} {d : D} {P : Post}
/-- x += e, of ints -/
theorem px_augI {i : Nat} {x : Str} {px : Pos} {n m : Int} (hr : ρ[i]? = some (.v (.int n))) (h : PD X T ρ e (.v (.int m))) (hp : P.nx (ρ.set i (.v (.int (n + m))))) (hN : X.N.Nodup) (hi : X.N[i]? = some x := by rfl) (hx : Loc X.env.scope x := by first | exact Or.inl rfl | exact Or.inr rfl)
    (hf : X.fn x = true ∨ X.env.scope.names.lookup x = some .local := by first | exact .inl rfl | exact .inr rfl) : PX X T B0 H0 ρ (.AugAssign (.Name x px) .Add e pos) P :=
  PS.imp (ps_aug (i := i) hN hi hx h iop_add hf) fun Z σ H ⟨B, S, n', _⟩ => by
    obtain ⟨v, e1, r1⟩ := S.val i _ hr
    cases r1
    refine ⟨_, e1, B0, H0, B, S, fun u B1 H1 f1 q1 => ?_⟩
    cases q1
    exact ⟨n, m, rfl, rfl, n' _ _ B1 H1 hp f1.eb ((S.fwd f1).set (.int _))⟩
/-- a, b, c = e -/
theorem px_set3 {i j l m : Nat} {x y z : Str} {px py pz pt : Pos} {d1 d2 d3 : D} (h : PD X T ρ e (.v (.tup [d1, d2, d3]))) (hp : P.nx (((ρ.set i (.v d1)).set j (.v d2)).set l (.v d3))) (hN : X.N.Nodup) (hc : X.calm = true := by rfl) (hi : X.N[i]? = some x := by rfl) (hj : X.N[j]? = some y := by rfl) (hl : X.N[l]? = some z := by rfl)
    (hx : Loc X.env.scope x := by first | exact Or.inl rfl | exact Or.inr rfl) (hy : Loc X.env.scope y := by first | exact Or.inl rfl | exact Or.inr rfl) (hz : Loc X.env.scope z := by first | exact Or.inl rfl | exact Or.inr rfl)
    (hf : X.fn x = true ∨ X.env.scope.names.lookup x = some .local := by first | exact .inl rfl | exact .inr rfl) (hf2 : X.fn y = true ∨ X.env.scope.names.lookup y = some .local := by first | exact .inl rfl | exact .inr rfl) (hf3 : X.fn z = true ∨ X.env.scope.names.lookup z = some .local := by first | exact .inl rfl | exact .inr rfl)
    (hs : swapsWithSole [.Tuple [.Name x px, .Name y py, .Name z pz] m pt] e pos.line X.env = pure false := by rfl) (hw : swappedStores [.Tuple [.Name x px, .Name y py, .Name z pz] m pt] e X.env = pure none := by rfl)
    (h1 : (assignEach [.Tuple [.Name x px, .Name y py, .Name z pz] m pt] X.env).map (·.2) = [assign (.Tuple [.Name x px, .Name y py, .Name z pz] m pt) X.env] := by rfl)
    (g1 : (assignEach [.Name x px, .Name y py, .Name z pz] X.env).length = 3 := by rfl) (g2 : (assignEach [.Name x px, .Name y py, .Name z pz] X.env).findIdx? (·.1) = none := by rfl)
    (g3 : (assignEach [.Name x px, .Name y py, .Name z pz] X.env).map (·.2) = assign (.Name x px) X.env :: (assignEach [.Name y py, .Name z pz] X.env).map (·.2) := by rfl)
    (g4 : (assignEach [.Name y py, .Name z pz] X.env).map (·.2) = assign (.Name y py) X.env :: (assignEach [.Name z pz] X.env).map (·.2) := by rfl)
    (g5 : (assignEach [.Name z pz] X.env).map (·.2) = assign (.Name z pz) X.env :: (assignEach [] X.env).map (·.2) := by rfl) : PX X T B0 H0 ρ (.Assign [.Tuple [.Name x px, .Name y py, .Name z pz] m pt] e pos) P :=
  PS.imp (ps_asg h (pg_tup hc (pgs_cons (pg_name (i := i) hN hi hx hf) (pgs_cons (pg_name (i := j) hN hj hy hf2) (pgs_cons (pg_name (i := l) hN hl hz hf3) pgs_nil g5) g4) g3) g1 g2) hs hw h1) fun Z σ H ⟨B, S, n, _⟩ => ⟨B0, H0, B, S, fun v B1 H1 f1 q1 => by
    cases q1 with
    | tup hs ra =>
      cases ra with
      | cons r1 ra =>
        cases ra with
        | cons r2 ra =>
          cases ra with
          | cons r3 ra =>
            cases ra
            exact ⟨_, _, rfl, sqt_mono f1.e2 hs, rfl, _, _, rfl, _, _, rfl, _, _, rfl, rfl, n _ _ B1 H1 hp f1.eb ((((S.fwd f1).set r1).set r2).set r3)⟩⟩
end
end DX
/-! # A law's loop: what stands ahead of it is kept, the rest is forgotten at each turn -/
namespace DX
open PySem PySem.Spec PyProof.Rows L2
section
variable {X : Cx} {T : List Addr} {B0 H0 : Hp} {ρ : Rho} {e : Expr} {pos p : Pos} {d : D} {P : Post}
/-- i <= j < n as a test -/
theorem pb_chainII {a b c : Expr} {op op' : CmpOp} {g g' : Int → Int → Bool} {i j n : Int} (o : OpR X (compareOp op) (rI0 fun i j => .bl (g i j))) (o' : OpR X (compareOp op') (rI0 fun i j => .bl (g' i j))) (ha : PD X T ρ a (.v (.int i))) (hb : PD X T ρ b (.v (.int j))) (hc : PD X T ρ c (.v (.int n))) (hm : lastMarks [op, op'] [b, c] = false := by with_unfolding_all rfl) : PB X T ρ (.Compare a [op, op'] [b, c] pos) (g i j && g' j n) := by
  refine PT.imp (pt_chain o o' ha hb hc hm) fun σ H Q ⟨B0, H0, B, S, q⟩ => ?_
  refine ⟨B0, H0, B, S, fun v B1 H1 f1 q1 => ⟨B0, H0, B1, S.fwd f1, fun u B2 H2 f2 q2 => ?_⟩⟩
  cases q1
  cases q2
  refine ⟨i, j, rfl, rfl, _, rfl, ?_⟩
  cases e : g i j with
  | true =>
    refine iteT ⟨B0, H0, B2, S.fwd (f1.trans f2), fun w B3 H3 f3 q3 => ?_⟩
    cases q3
    exact ⟨j, n, rfl, rfl, _, rfl, by rw [e] at q; exact q _ _ ((f1.trans f2).trans f3)⟩
  | false => exact iteF ⟨_, rfl, by rw [e] at q; exact q _ _ (f1.trans f2)⟩
/-- x, y = a, b -/
theorem px_par {i j m m2 : Nat} {x y : Str} {a b : Expr} {px py pt pt2 : Pos} {d1 d2 : D} (h : PAs X T ρ [a, b] [d1, d2]) (hp : P.nx ((ρ.set i (.v d1)).set j (.v d2))) (hN : X.N.Nodup) (hij : i ≠ j := by decide) (hc : X.calm = true := by rfl) (hi : X.N[i]? = some x := by rfl) (hj : X.N[j]? = some y := by rfl)
    (hx : X.env.scope.names.lookup x = some .local := by rfl) (hy : X.env.scope.names.lookup y = some .local := by rfl) (hw : swappedStores [.Tuple [.Name x px, .Name y py] m pt] (.Tuple [a, b] m2 pt2) X.env = pure (some [x, y]) := by rfl)
    (hs : swapsWithSole [.Tuple [.Name x px, .Name y py] m pt] (.Tuple [a, b] m2 pt2) pos.line X.env = pure false := by rfl) : PX X T B0 H0 ρ (.Assign [.Tuple [.Name x px, .Name y py] m pt] (.Tuple [a, b] m2 pt2) pos) P :=
  PS.imp (ps_par hc hN hi hj hij hx hy h hw hs) fun Z σ H ⟨B, S, n, _⟩ => ⟨B0, H0, B, S, fun vs B1 H1 f1 ra => by
    cases ra with
    | cons r1 ra =>
      cases ra with
      | cons r2 ra =>
        cases ra
        exact ⟨_, _, rfl, n _ _ B1 H1 hp f1.eb (((S.fwd f1).set r1).set r2)⟩⟩
theorem px_forget {pre tl : Rho} {sts : List Stmt} (h : PXs X T B0 H0 (pre ++ List.replicate tl.length .no) sts P) : PXs X T B0 H0 (pre ++ tl) sts P :=
  px_less (by rw [List.length_append, List.length_append, List.length_replicate]) (fun i s hs => by
    by_cases hi : i < pre.length
    · right
      rw [List.getElem?_append_left hi] at hs ⊢
      exact hs
    · left
      rw [List.getElem?_append_right (by omega)] at hs
      exact (List.mem_replicate.mp (List.mem_of_getElem? hs)).2) h
def Keep (pre : Rho) (L : Nat) (z : Rho) : Prop := z.take pre.length = pre ∧ z.length = L
theorem px_lawloop {pre : Rho} {L : Nat} {n : Int} {y : Str} {py pr : Pos} {body : List Stmt} (h : PD X T ρ e (.v (.int n))) (h1 : -(2 ^ 62) ≤ n) (h2 : n < 2 ^ 62) (hm : X.mg "range" = none) (hL : pre.length < L) (h0 : Keep pre L ρ)
    (hs : ∀ m : Nat, (m : Int) < n → PXs X T B0 H0 (pre ++ .v (.int m) :: List.replicate (L - pre.length - 1) .no) body { P with nx := Keep pre L, ct := Keep pre L, bk := P.nx })
    (hend : ∀ z, Keep pre L z → P.nx z) (hp : PassesOwn (model X.prog X.w) X.A X.env X.xe) (hN : X.N.Nodup) (hi : X.N[pre.length]? = some y) (hc : X.calm = true := by rfl) (hg : Gl X "range" := by rfl) (hx : Loc X.env.scope y := by first | exact Or.inl rfl | exact Or.inr rfl)
    (hf : X.fn y = true ∨ X.env.scope.names.lookup y = some .local := by first | exact .inl rfl | exact .inr rfl) (hse : starEach [e] X.env = [(false, eval e X.env)] := by rfl) (hfs : ∀ x, foldedSetIterable (.Call (.Name "range" pr) [e] [] p) X.env x = pure x := by intro _; rfl) :
    PX X T B0 H0 ρ (.For (.Name y py) (.Call (.Name "range" pr) [e] [] p) body [] pos) P := by
  refine px_range (i := pre.length) (fun _ => Keep pre L) h h1 h2 hm h0 (fun m ρ' hm' hk => ?_) (fun z hz => hend z hz) hp hN hc hg hi hx hf hse hfs
  obtain ⟨k1, k2⟩ := hk
  have e1 : ρ' = pre ++ ρ'.drop pre.length := by
    have z := (List.take_append_drop pre.length ρ').symm
    rw [k1] at z
    exact z
  have hl : (ρ'.drop pre.length).length = L - pre.length := by rw [List.length_drop, k2]
  cases hd : ρ'.drop pre.length with
  | nil =>
    rw [hd] at hl
    have : 0 = L - pre.length := hl
    omega
  | cons x tl =>
    rw [hd] at hl e1
    have hl' : tl.length = L - pre.length - 1 := by
      have z : tl.length + 1 = L - pre.length := hl
      omega
    have e2 : ρ'.set pre.length (.v (.int m)) = (pre ++ [.v (.int m)]) ++ tl := by
      rw [e1, List.set_append_right _ _ (Nat.le_refl _), Nat.sub_self, List.append_assoc]
      rfl
    rw [e2]
    refine px_forget ?_
    rw [hl', List.append_assoc]
    exact hs m hm'
end
end DX
/-! # A refusal within an expression; try: a body of tests that ends in a refusal -/
namespace DX
open PySem PySem.Spec PyProof.Rows L2
section
variable {X : Cx} {T : List Addr} {B0 H0 : Hp} {ρ : Rho} {e a b c0 : Expr} {es : List Expr} {pos p : Pos} {d : D} {k j : Nat} {x : Str} {ds : List D} {P : Post} {Rel : List D → Out → Prop}
/-- e[..], where e raises -/
theorem pr_ix (h : PR X T B0 H0 ρ a) (hs : PlainIx b := by exact fun _ _ => rfl) : PR X T B0 H0 ρ (.Subscript a b pos) := PE.imp (pe_ix ix_seq h pe_no hs) fun σ H Q ⟨B, S⟩ => ⟨B, S⟩
/-- f(e), where e raises -/
theorem pr_arg (c : Kn X.prog X.w X.K X.mg X.base T k x Rel) (hr : Room j X.A) (h : PR X T B0 H0 ρ e) (hj : k ≤ j := by decide) (hg : Gl X x := by rfl) (hdb : (x == ("__debug__" : Str)) = false := by decide)
    (he : starEach [e] X.env = (false, eval e X.env) :: starEach [] X.env := by rfl) (hpl : (backTo pos (starEach [] X.env)).any (·.1) = false := by rfl) : PR X T B0 H0 ρ (.Call (.Name x p) [e] [] pos) := by
  obtain ⟨f, fd, ps, F, hm, hk, hb⟩ := c.it
  exact PE.imp (pe_call F (hr.mono hj) hg hm hk hb .nil passL (pa_cons h pa_nil he) hdb he hpl) fun σ H Q ⟨B, S⟩ => ⟨B, S⟩
/-- [.. for .. in e], where e raises -/
theorem pr_lc {elt tg iter : Expr} {ifs : List Expr} {scope : Scope} {own : List (Str × Nat)} (h : PR X T B0 H0 ρ iter) (hN : X.N.Nodup) (ok : BlkOk X.N X.env.scope scope own) (hc : X.calm = true := by rfl) (hs : ∀ x, foldedSetIterable iter X.env x = pure x := by intro _; rfl) : PR X T B0 H0 ρ (.ListComp elt [⟨tg, iter, ifs, 0⟩] scope pos) :=
  PE.imp (pe_lc (g := fun _ _ _ _ => False) (tt := fun _ _ _ => False) (te := fun _ _ _ => False) hc hN (pi_list h) ok (fun _ _ _ _ _ => ⟨fun _ _ _ _ _ _ _ _ _ h => h.elim⟩) (fun _ _ _ _ _ => ⟨fun _ _ _ _ _ _ h => h.elim⟩) (fun _ _ _ _ _ => pe_no) hs) fun σ H Q ⟨B, S⟩ => ⟨B, S⟩
theorem XW.mono {K : PySem.W.Frag} {H H1 : Hp} {E : XK} {o : Out} (s1 : Same H H1) (hx : XW K H E o) : XW K H1 E o := by
  cases o with
  | ret r => trivial
  | exc C => exact fun H2 s2 => hx H2 (s1.trans s2)
  | excA C f d => exact fun H2 dx v s2 n h2 rr => hx H2 dx v (s1.trans s2) (s1.free n) h2 rr
/-- a statement (statements) that ends in the refusal o, which goes where W is wanted -/
def tW (K : PySem.W.Frag) (T : List Addr) (B0 H0 : Hp) (ρ : Rho) (W : WX) (o : Out) : TS := fun _ σ H => ∃ B, SD K T B0 H0 B H σ ρ ∧ XW K H (fun cls d H2 => W cls d σ H2) o
abbrev PW1 (X : Cx) (T : List Addr) (B0 H0 : Hp) (ρ : Rho) (W : WX) (o : Out) (s : Stmt) : Prop := PS X s (tW X.K T B0 H0 ρ W o)
abbrev PWs (X : Cx) (T : List Addr) (B0 H0 : Hp) (ρ : Rho) (W : WX) (o : Out) (s : List Stmt) : Prop := PSs X s (tW X.K T B0 H0 ρ W o)
theorem pw1_one {W : WX} {o : Out} {s : Stmt} (h : PW1 X T B0 H0 ρ W o s) : PWs X T B0 H0 ρ W o [s] := pss_one h
theorem pw1_call {W : WX} {o : Out} (c : Kn X.prog X.w X.K X.mg X.base T k x Rel) (hr : Room j X.A) (tk : Takes X W) (ha : PAs X T ρ (e :: es) ds) (h : Rel ds o) (ho : ∀ r, o ≠ .ret r) {pos2 : Pos} (hj : k ≤ j := by decide) (hg : Gl X x := by rfl) (hdb : (x == ("__debug__" : Str)) = false := by decide)
    (he : starEach (e :: es) X.env = (false, eval e X.env) :: starEach es X.env := by rfl) (hpl : (backTo pos (starEach es X.env)).any (·.1) = false := by rfl) (hs : swapsWith (.Call (.Name x p) (e :: es) [] pos) none pos2.line X.env = pure false := by rfl) : PW1 X T B0 H0 ρ W o (.Expr (.Call (.Name x p) (e :: es) [] pos) pos2) :=
  PS.imp (ps_expr (pr_callS (B0 := B0) (H0 := H0) c hr tk ha h ho hj hg hdb he hpl) hs) fun Z σ H q => q
theorem pw1_if {W : WX} {o : Out} {q : Bool} {s1 s2 : List Stmt} (h : PB X T ρ c0 q) (h1 : q = true → PWs X T B0 H0 ρ W o s1) (h2 : q = false → PWs X T B0 H0 ρ W o s2) : PW1 X T B0 H0 ρ W o (.If c0 s1 s2 pos) := by
  cases q with
  | true => exact PS.imp (ps_if h (h1 rfl) pss_no) fun Z σ H ⟨B, S, hx⟩ => ⟨B0, H0, B, S, fun B1 H1 f => iteT ⟨B1, S.fwd f, hx.mono f.ex⟩⟩
  | false => exact PS.imp (ps_if h pss_no (h2 rfl)) fun Z σ H ⟨B, S, hx⟩ => ⟨B0, H0, B, S, fun B1 H1 f => iteF ⟨B1, S.fwd f, hx.mono f.ex⟩⟩
variable {n y : Str} {c : Value} {i l : Nat} {np pos' py pn pa : Pos} {body : List Stmt} {xn : Str}
/-- try: BODY except C as n: y = n, where BODY ends in a refusal that C takes -/
theorem px_tryW {o : Out} (hN : X.N.Nodup) (hc : Names X xn c) (ho : Caught X.K c o) (hb : ∀ (W : WX) (pn : List (Addr × Obj)) (xe : Value → Shared → Prop), Takes (X.tr pn xe) W → PWs (X.tr pn xe) T B0 H0 ρ W o body) (hp : P.nx ((ρ.set l (.v (keptD o))).set i .no))
    (hi : X.N[i]? = some n := by rfl) (hj : X.N[l]? = some y := by rfl) (hij : i ≠ l := by decide) (hs : X.stack = X.env :: X.outer := by rfl) (hf : X.env.frame = some X.env.locals := by rfl) (hex : X.ex = [] := by rfl) (hln : X.env.kindOf n = some .local := by rfl) (hly : X.env.kindOf y = some .local := by rfl)
    (hdn : (n == ("__debug__" : Str)) = false := by decide) (hdn2 : (n == ("__classdict__" : Str)) = false := by decide) (hsw : ∀ (a : Addr) (q : List (Addr × Obj)), swapsWith (.Name n pn) (some (.Name y py)) pa.line (X.suite a q).env = pure false := by intros; rfl) :
    PX X T B0 H0 ρ (.Try body [.ExceptHandler (some (.Name xn np)) (some n) [.Assign [.Name y py] (.Name n pn) pa] pos'] [] [] pos) P := by
  refine PS.imp (ps_try_hold (tb := fun W => tW X.K T B0 H0 ρ W o) hs hf hex hN hi hj hij hln hly hc hdn hdn2 hsw fun W pn xe tk _ => hb W pn xe tk) ?_
  exact fun Z σ H ⟨B, S, hZ, _⟩ => ⟨B, S, hold_wants S ho hp hZ⟩
end
end DX
/-! # range(a, b, 1 or -1) of any bounds; a list of one's own copied, told or a refusal's word told -/
namespace DX
open PySem PySem.Spec PyProof.Rows L2
theorem turn_longC {P : Program} {w : World} {K : PySem.W.Frag} {tg : Expr} (it : Addr) (lo c : Int) (n : Nat) : Turn P w K tg (Itc lo c n) [it] it (fun i h => IsLongIter h it (lo + (i : Nat) * c) ((n : Int) - (i : Nat)) c) where
  mem := by simp
  obj := fun i h st b hb => by
    have e : b = it := by simpa using hb
    subst e
    exact ⟨_, st, fun v z => nomatch z⟩
  keep := fun i h h' st k => k it (by simp) _ st
  item := by
    intro X hP hw hK hc i pins s σ H E I hf st hg
    subst hP hw hK
    obtain ⟨f0, f1, f2, f3, f4, f5⟩ := hf it (by simp)
    have W := Walks.longrange (prog := X.prog) (w := X.w) (I.ok.hd hc) it lo c n
    refine W.item i s _ _ hg st fun v h' tk hv st' kk => ?_
    obtain ⟨t, rfl⟩ := hv
    have I1 : Inv X pins σ H { s with heap := h', toks := tk } := I.turned (fun b o hb e => kk b o (by simpa using hb) e) f0 f1 f3 f4 f5
    exact ⟨_, rfl, go_of (s := { s with heap := h', toks := tk }) (n := "longrange_iterator") st' rfl rfl (by decide) ⟨.int (lo + (i : Nat) * c), H, I1, ⟨t, rfl⟩, ⟨rfl, rfl⟩, st', fun b hb => (hf b hb).1⟩⟩
  done := by
    intro X hP hw hK hc i pins s σ H E I hf st hg
    subst hP hw hK
    obtain ⟨f0, f1, f2, f3, f4, f5⟩ := hf it (by simp)
    exact wpAny_pyNext_long_end (I.ok.hd hc) st (by have : n ≤ i := hg; omega) fun h' eb => ⟨rfl, I.turned (t' := s.toks) (fun b o hb e => eb b o hb e) f0 f1 f3 f4 f5⟩
  self := fun A i s Q E st h => wpAny_pyIter_longiter st h
def iRngA (ta : TA) : TI := fun σ H R => ta σ H fun vs H1 => ∃ (i j c : Int) (n : Nat), vs = [.int i, .int j, .int c] ∧ (c ≠ 0 ∧ c.natAbs < 1073741824 ∧ Builtin.Range.rangeSize i j c = n) ∧ R (Itc i c n) H1
theorem pi_rangeA {X : Cx} {tg a b c : Expr} {ta : TA} {p pos : Pos} (hg : Gl X "range") (hm : X.mg "range" = none) (ha : PA X [a, b, c] ta)
    (hs : starEach [a, b, c] X.env = (false, eval a X.env) :: starEach [b, c] X.env := by rfl) (hpl : (backTo pos (starEach [b, c] X.env)).any (·.1) = false := by rfl) :
    PI X tg (.Call (.Name "range" p) [a, b, c] [] pos) (iRngA ta) := by
  refine ⟨fun pins s σ H R I h => ?_⟩
  refine Call_ (ld_blt I hg hm boot_range (PyProof.Rows.callWith_type1 (thn (ha.run pos pins s σ H _ I h) fun us s1 ⟨vs, H1, I1, r1, q1⟩ => ?_) hs hpl))
  obtain ⟨i, j, k, n, e, ⟨c0, c1, c3⟩, q⟩ := q1
  subst e
  cases r1 with
  | cons r rr =>
    cases rr with
    | cons r' rr =>
      cases rr with
      | cons r'' rr =>
        cases rr
        obtain ⟨t, rfl⟩ := r
        obtain ⟨t', rfl⟩ := r'
        obtain ⟨t'', rfl⟩ := r''
        refine call_range_3 c0 ?_ (.inl (PyProof.noPylong_small c1))
        have I2 : Inv X pins σ H1 { s1 with heap := s1.heap.push { cls := .type "range", data := .fields #[.int i t, .int j t', .int k t''] } } := I1.kept (t' := s1.toks) fun b o e => Heap.get?_push_of_some _ e
        have e1 : i + ((0 : Nat) : Int) * k = i := by simp
        have e2 : (n : Int) - ((0 : Nat) : Int) = Builtin.Range.rangeSize i j k := by rw [c3]; simp
        cases hsm : Builtin.Range.small i j k with
        | true =>
          refine wpAny_pyIter_range (IsRange.new ..) hsm ?_
          refine pi_one (tk := s1.toks) I2 _ (turn_rangeC _ i k n) ?_ q
          show IsRangeIter _ _ (i + ((0 : Nat) : Int) * k) ((n : Int) - ((0 : Nat) : Int)) k
          rw [e1, e2]
          exact Heap.get?_push_size _ rfl
        | false =>
          refine wpAny_pyIter_longrange (IsRange.new ..) hsm ?_
          refine pi_one (tk := s1.toks) I2 _ (turn_longC _ i k n) ?_ q
          show IsLongIter _ _ (i + ((0 : Nat) : Int) * k) ((n : Int) - ((0 : Nat) : Int)) k
          rw [e1, e2]
          exact Heap.get?_push_size _ rfl
/-- lo, lo + c, .. -/
def steps (lo c : Int) (n : Nat) : List D := (List.range n).map fun i : Nat => .int (lo + (i : Int) * c)
theorem steps_len (lo c : Int) (n : Nat) : (steps lo c n).length = n := by
  unfold steps
  rw [List.length_map, List.length_range]
theorem steps_at {lo c : Int} {n i : Nat} (h : i < n) : (steps lo c n)[i]? = some (.int (lo + (i : Int) * c)) := by
  unfold steps
  rw [List.getElem?_map, List.getElem?_range h]
  rfl
section
variable {X : Cx} {T : List Addr} {ρ : Rho} {e a b c tg : Expr} {es : List Expr} {pos p : Pos} {d da db : D}
theorem pib_steps {i j k : Int} {n : Nat} (ha : PD X T ρ a (.v (.int i))) (hb : PD X T ρ b (.v (.int j))) (hcc : PD X T ρ c (.v (.int k))) (hk : k ≠ 0) (hk2 : k.natAbs < 1073741824) (hn : Builtin.Range.rangeSize i j k = n) (hm : X.mg "range" = none) (hg : Gl X "range" := by rfl)
    (hs : starEach [a, b, c] X.env = (false, eval a X.env) :: starEach [b, c] X.env := by rfl) (hs2 : starEach [b, c] X.env = (false, eval b X.env) :: starEach [c] X.env := by rfl) (hs3 : starEach [c] X.env = (false, eval c X.env) :: starEach [] X.env := by rfl) (hpl : (backTo pos (starEach [b, c] X.env)).any (·.1) = false := by rfl) : PIb X T ρ tg (.Call (.Name "range" p) [a, b, c] [] pos) (steps i k n) :=
  ⟨fun pins s σ H R' I ⟨B0, H0, B, S, q⟩ => (pi_rangeA (tg := tg) hg hm (pa_cons ha (pa_cons hb (pa_cons hcc pa_nil hs3) hs2) hs) hs hpl).run pins s σ H R' I ⟨B0, H0, B, S, fun v B1 H1 f1 r1 => ⟨B0, H0, B1, S.fwd f1, fun v2 B2 H2 f2 r2 => ⟨B0, H0, B2, (S.fwd f1).fwd f2, fun v3 B3 H3 f3 r3 => by
    cases r1
    cases r2
    cases r3
    refine ⟨_, _, _, n, rfl, ⟨hk, hk2, hn⟩, q _ B3 H3 ((f1.trans f2).trans f3) ⟨fun m B' H' e1 _ e2 hi => ?_, fun m B' H' x H'' e1 _ e2 hi y => ?_, fun B' H' e1 _ e2 => ?_⟩⟩
    · rw [steps_len] at hi
      exact hi
    · rw [steps_len] at hi
      obtain ⟨e, y⟩ := y
      subst e y
      exact ⟨_, B', steps_at hi, Fwd.refl e2, .int _⟩
    · rw [steps_len]
      exact Nat.le_refl n⟩⟩⟩⟩
/-- list(x), x a list of one's own -/
theorem pd_listO {i : Nat} {x : Str} {px : Pos} {ds : List D} (hr : ρ[i]? = some (.own ds)) (hm : X.mg "list" = none) (hN : X.N[i]? = some x := by rfl) (hv : Vis X.env.scope x := by first | exact Or.inl rfl | exact Or.inr (Or.inl rfl) | exact Or.inr (Or.inr rfl)) (hdx : (x == ("__debug__" : Str)) = false := by decide)
    (hcx : (x == ("__classdict__" : Str)) = false := by decide) (hg : Gl X "list" := by rfl) (he : starEach [.Name x px] X.env = (false, eval (.Name x px) X.env) :: starEach [] X.env := by rfl) (hpl : (backTo pos (starEach [] X.env)).any (·.1) = false := by rfl) : PD X T ρ (.Call (.Name "list" p) [.Name x px] [] pos) (.own ds) :=
  PE.imp (pe_callTy call_list_of hg hm (by decide +kernel : bootBuiltins "list" = some (.type "list")) (pa_cons (pe_var hN hv hdx hcx) pa_nil he) (by decide) (by decide) he hpl) fun σ H Q ⟨B0, H0, B, S, q⟩ => by
    obtain ⟨a, vs, e1, h1, h2, h3, ra⟩ := S.own i ds hr
    exact ⟨_, e1, a, vs, rfl, .inl (SqL.of h1), fun t ht => q _ _ _ (Fwd.side S.bh ht) ⟨t, vs, rfl, upd_same, ht, S.bh.free ht, ra⟩⟩
end
section
variable {X : Cx} {T : List Addr} {B0 H0 : Hp} {ρ : Rho} {e c0 : Expr} {pos p pp : Pos} {d : D} {P : Post} {x : Str}
/-- return x if c else e, x a list of one's own -/
theorem px_retIfO {ds : List D} {i : Nat} {px : Pos} (hc : PB X T ρ c0 true) (hr : ρ[i]? = some (.own ds)) (hp : P.rt (.own ds)) (hN : X.N[i]? = some x := by rfl) (hv : Vis X.env.scope x := by first | exact Or.inl rfl | exact Or.inr (Or.inl rfl) | exact Or.inr (Or.inr rfl)) (hd : (x == ("__debug__" : Str)) = false := by decide)
    (hcd : (x == ("__classdict__" : Str)) = false := by decide) : PX X T B0 H0 ρ (.Return (some (.IfExp c0 (.Name x px) e p)) pos) P :=
  PS.imp (ps_ret (pe_ifExp hc (pe_var hN hv hd hcd) pe_no)) fun Z σ H ⟨B, S, n, q, q2, q3⟩ => ⟨B0, H0, B, S, fun B1 H1 f1 => iteT (by
    have S1 := S.fwd f1
    obtain ⟨a, vs, e1, z⟩ := S1.own i ds hr
    exact ⟨_, e1, q (.own ds) _ B1 H1 hp S1.fw S1.am ⟨a, vs, rfl, z⟩⟩)⟩
end
end DX
/-! # Lists in a list of one's own that are new themselves, and one of them changed -/
namespace DX
open PySem PySem.Spec PyProof.Rows L2
section
variable {K : PySem.W.Frag} {T : List Addr} {B0 H0 B H : Hp} {σ : L2.St} {ρ : Rho}
theorem R.lspL {v : V} {g : Addr → Prop} {ds : List D} (r : R K H v (.lsp g ds)) : R K H v (.lst ds) := by
  cases r with
  | lsp a b c => exact .lst (.inl b) c
theorem RA.lspL {g : Addr → Prop} : ∀ {vs : List V} {dss : List (List D)}, RA K H vs (dss.map (.lsp g)) → RA K H vs (dss.map .lst)
  | _, [], .nil => .nil
  | _, _ :: _, .cons r t => .cons r.lspL (RA.lspL t)
theorem upd_self {H : Hp} {p : Addr} {o : HO} (h : H p = some o) : upd H p o = H := by
  funext a
  by_cases e : a = p
  · rw [e, upd_same, h]
  · rw [upd_ne e]
/-- a list of one's own, its items read otherwise -/
theorem SD.reown {ds es : List D} {i : Nat} (S : SD K T B0 H0 B H σ ρ) (hr : ρ[i]? = some (.own ds)) (h : ∀ vs, RA K B vs ds → RA K B vs es) : SD K T B0 H0 B H σ (ρ.set i (.own es)) := by
  obtain ⟨p, vs, e1, hp, h0, hb, ra⟩ := S.own i ds hr
  have z := S.mut (vs := vs) hr e1 (h vs ra)
  rw [upd_self hp] at z
  exact z
/-- all but what stands at q -/
def hole (B : Hp) (q : Addr) : Hp := fun a => if a = q then none else B a
theorem hole_ne {q a : Addr} (h : a ≠ q) : hole B q a = B a := by
  unfold hole
  rw [if_neg h]
theorem hole_at {q : Addr} : hole B q q = none := by
  unfold hole
  rw [if_pos rfl]
theorem hole_of {q a : Addr} {u : HO} (h : hole B q a = some u) : a ≠ q ∧ B a = some u := by
  by_cases e : a = q
  · rw [e, hole_at] at h
    cases h
  · rw [hole_ne e] at h
    exact ⟨e, h⟩
/-- data that doesn't speak of a list at q -/
def SafeD (K : PySem.W.Frag) (q : Addr) (d : D) : Prop := ∀ (B : Hp) (v : V) (ws : List V), B q = some (.lst ws) → R K B v d → R K (hole B q) v d
def SafeA (K : PySem.W.Frag) (q : Addr) (ds es : List D) : Prop := ∀ (B : Hp) (vs : List V) (ws : List V), B q = some (.lst ws) → RA K B vs ds → RA K (hole B q) vs es
theorem safe_scal {q : Addr} {d : D} (h : d.scal = true) : SafeD K q d := fun _ _ _ _ r => r.scal h
theorem safe_nil {q : Addr} : SafeA K q [] [] := fun _ _ _ _ r => by
  cases r
  exact .nil
theorem safe_cons {q : Addr} {d : D} {ds es : List D} (h : SafeD K q d) (t : SafeA K q ds es) : SafeA K q (d :: ds) (d :: es) := fun B vs ws hq r => by
  cases r with
  | cons r1 r2 => exact .cons (h B _ ws hq r1) (t B _ ws hq r2)
theorem safe_any {q : Addr} {g : Addr → Prop} {d : List D} {ds es : List D} (t : SafeA K q ds es) : SafeA K q (.lsp g d :: ds) (.any :: es) := fun B vs ws hq r => by
  cases r with
  | cons r1 r2 =>
    cases r1 with
    | lsp a b c => exact .cons .any (t B _ ws hq r2)
theorem safe_all {q : Addr} : ∀ {ds : List D}, (∀ d ∈ ds, SafeD K q d) → SafeA K q ds ds
  | [], _ => safe_nil
  | _ :: _, h => safe_cons (h _ List.mem_cons_self) (safe_all fun d hd => h d (List.mem_cons_of_mem _ hd))
theorem safe_tup {q : Addr} {ds : List D} (h : SafeA K q ds ds) : SafeD K q (.tup ds) := fun B v ws hq r => by
  cases r with
  | tup s ra =>
    refine .tup ?_ (h B _ ws hq ra)
    rcases s with (s | ⟨o, s⟩) | s
    · exact .inl (.inl (by rw [hole_ne (fun z => by rw [z, hq] at s; cases s)]; exact s))
    · exact .inl (.inr ⟨o, by rw [hole_ne (fun z => by rw [z, hq] at s; cases s)]; exact s⟩)
    · exact .inr s
theorem safe_lsp {q : Addr} {g : Addr → Prop} {ds : List D} (hg : ∀ a, g a → a ≠ q) (h : SafeA K q ds ds) : SafeD K q (.lsp g ds) := fun B v ws hq r => by
  cases r with
  | lsp a b c => exact .lsp a (by rw [hole_ne (hg _ a)]; exact b) (h B _ ws hq c)
theorem safe_lsp2 {q : Addr} {g : Addr → Prop} {ds es : List D} (hg : ∀ a, g a → a ≠ q) (h : SafeA K q ds es) : ∀ (B : Hp) (v : V) (ws : List V), B q = some (.lst ws) → R K B v (.lsp g ds) → R K (hole B q) v (.lsp g es) := fun B v ws hq r => by
  cases r with
  | lsp a b c => exact .lsp a (by rw [hole_ne (hg _ a)]; exact b) (h B _ ws hq c)
/-- what stands in a slot when the list at q is data no more -/
inductive KpS (K : PySem.W.Frag) (q : Addr) : Sl → Sl → Prop
  | no {s : Sl} : KpS K q s .no
  | v {d : D} : SafeD K q d → KpS K q (.v d) (.v d)
  | vv {d d' : D} : (∀ (B : Hp) (v : V) (ws : List V), B q = some (.lst ws) → R K B v d → R K (hole B q) v d') → KpS K q (.v d) (.v d')
  | own {ds es : List D} : SafeA K q ds es → KpS K q (.own ds) (.own es)
theorem safe_anys {q : Addr} {g : Addr → Prop} : ∀ {dss : List (List D)}, SafeA K q (dss.map (.lsp g)) (dss.map fun _ => .any)
  | [] => safe_nil
  | _ :: _ => safe_any safe_anys
def KpA (K : PySem.W.Frag) (q : Addr) (ρ ρ' : Rho) : Prop := ρ'.length = ρ.length ∧ ∀ (j : Nat) (s' : Sl), ρ'[j]? = some s' → ∃ s, ρ[j]? = some s ∧ KpS K q s s'
theorem kpa_nil {q : Addr} : KpA K q [] [] := ⟨rfl, fun j s' h => by simp at h⟩
theorem kpa_cons {q : Addr} {s s' : Sl} {ρ ρ' : Rho} (h : KpS K q s s') (t : KpA K q ρ ρ') : KpA K q (s :: ρ) (s' :: ρ') := ⟨by rw [List.length_cons, List.length_cons, t.1], fun j x e => by
  cases j with
  | zero => simp at e; subst e; exact ⟨s, by simp, h⟩
  | succ j =>
    obtain ⟨y, h1, h2⟩ := t.2 j x (by simpa using e)
    exact ⟨y, by simpa using h1, h2⟩⟩
theorem SD.dig {ρ' : Rho} {q : Addr} {ws us : List V} (S : SD K T B0 H0 B H σ ρ) (E : Same B0 H0) (h0 : H0 q = none) (hb : B q = some (.lst ws)) (hl : ρ'.length = ρ.length) (hs : ∀ (j : Nat) (s' : Sl), ρ'[j]? = some s' → ∃ s, ρ[j]? = some s ∧ KpS K q s s') : SD K T B0 H0 (hole B q) (upd H q (.lst us)) σ ρ' := by
  have hH : H q = some (.lst ws) := S.bh _ _ hb
  have up : ∀ {a : Addr} {o : HO}, a ≠ q → H a = some o → upd H q (.lst us) a = some o := fun h e => by rw [upd_ne h]; exact e
  have b0 : B0 q = none := E.free h0
  refine ⟨⟨fun a o e => up (ne_of_none e h0) (S.fw.ex _ _ e), fun a o e => ?_, fun a o e => ?_, fun a h1 h2 => ?_⟩, fun t ht => up (fun z => ?_) (S.am t ht), fun j d e => ?_, fun j ds e => ?_, fun j l p ds es e1 e2 => ?_, by rw [hl, S.len], .none fun j kvs e => ?_⟩
  · rw [hole_ne (ne_of_none e b0)]
    exact S.fw.eb _ _ e
  · obtain ⟨n, e'⟩ := hole_of e
    exact up n (S.fw.e2 _ _ e')
  · have z := S.fw.fr a h1 h2
    by_cases e : a = q
    · exact .inl (by rw [e, hole_at])
    · rw [hole_ne e]
      exact z
  · have y := S.am t ht
    rw [z, hH] at y
    have y' : HO.lst ws = HO.ext _ := Option.some.inj y
    cases y'
  · obtain ⟨s, es, k⟩ := hs j _ e
    cases k with
    | v hd =>
      obtain ⟨v, e1, r⟩ := S.val j d es
      exact ⟨v, e1, hd B v ws hb r⟩
    | vv hd =>
      obtain ⟨v, e1, r⟩ := S.val j _ es
      exact ⟨v, e1, hd B v ws hb r⟩
  · obtain ⟨s, e0, k⟩ := hs j _ e
    cases k with
    | own hd =>
      obtain ⟨p, vs, e1, hp, h1, h2, ra⟩ := S.own j _ e0
      have n : p ≠ q := fun z => by rw [z, hb] at h2; cases h2
      exact ⟨p, vs, e1, up n hp, h1, by rw [hole_ne n]; exact h2, hd B vs ws hb ra⟩
  · obtain ⟨s1, g1, k1⟩ := hs j _ e1
    obtain ⟨s2, g2, k2⟩ := hs l _ e2
    cases k1 with
    | own _ =>
      cases k2 with
      | own _ => exact S.sep j l p _ _ g1 g2
  · obtain ⟨s1, g1, k1⟩ := hs j _ e
    cases k1
end
section
variable {X : Cx} {T : List Addr} {B0 H0 : Hp} {ρ ρ1 : Rho} {e a b c : Expr} {es : List Expr} {pos : Pos} {d : D} {r : Sl} {k : Bool} {st : Stmt} {rest sts : List Stmt} {P : Post}
theorem pd_ls {g : Addr → Prop} {ds : List D} (h : PD X T ρ e (.v (.lsp g ds))) : PD X T ρ e (.v (.lst ds)) := PE.imp h fun _ _ _ ⟨B0, H0, B, S, q⟩ => ⟨B0, H0, B, S, fun v B2 H2 f r => q v B2 H2 f r.lspL⟩
theorem pd_tmpW {ds es : List D} (h : PD X T ρ e (.tmp (.lst ds))) (w : ∀ (H : Hp) (vs : List V), RA X.K H vs ds → RA X.K H vs es) : PD X T ρ e (.tmp (.lst es)) := PE.imp h fun _ _ _ ⟨B0, H0, B, S, q⟩ => ⟨B0, H0, B, S, fun v B2 H2 f r => q v B2 H2 f (by
  cases r with
  | lst a b => exact R.lst a (w _ _ b))⟩
theorem pd_nst {dss : List (List D)} (h : PD X T ρ e (.nst dss)) : PD X T ρ e (.own (dss.map .lst)) := PE.imp h fun _ _ _ ⟨B0, H0, B, S, q⟩ => ⟨B0, H0, B, S, fun v B2 H2 f r => q v B2 H2 f (by
  obtain ⟨p, vs, h1, h2, h3, h4, h5⟩ := r
  exact ⟨p, vs, h1, h2, h3, h4, h5.lspL⟩)⟩
/-- [e], e a list of one's own -/
theorem pd_nst1 {ds : List D} (h : PD X T ρ e (.own ds)) (he : starEach [e] X.env = (false, eval e X.env) :: starEach [] X.env := by rfl) : PD X T ρ (.List [e] pos) (.nst [ds]) :=
  PE.imp (pe_lst (pa_cons h pa_nil he)) fun σ H Q ⟨B0, H0, B, S, q⟩ => ⟨B0, H0, B, S, fun v B1 H1 f1 q1 => ⟨(by decide : 1 ≤ sizeLine), fun t ht => by
    obtain ⟨p, vs, rfl, hp, hn, hb, ra⟩ := q1
    have f2 : Fwd B H (upd B1 p (.lst vs)) H1 := f1.join S.bh hp hn hb
    have hpt : H1 t = none := ht
    refine q _ _ _ (f2.trans (Fwd.side f2.e2 hpt)) ⟨t, [.ref p], rfl, upd_same, f1.ex.free hpt, f2.e2.free hpt, .cons (.lsp hn upd_same (ra.mono (Same.new hb))) .nil⟩⟩⟩
/-- a name gets a list of new lists -/
theorem px_setN {dss : List (List D)} {i : Nat} {x : Str} {px : Pos} (h : PD X T ρ e (.nst dss)) (hp : P.nx (ρ.set i (.own (dss.map (.lsp fun a => H0 a = none))))) (hN : X.N.Nodup) (hi : X.N[i]? = some x := by rfl) (hx : Loc X.env.scope x := by first | exact Or.inl rfl | exact Or.inr rfl) (hs : swapsWith e (some (.Name x px)) pos.line X.env = pure false := by rfl)
    (hf : X.fn x = true ∨ X.env.scope.names.lookup x = some .local := by first | exact .inl rfl | exact .inr rfl) : PX X T B0 H0 ρ (.Assign [.Name x px] e pos) P :=
  PS.imp (ps_set (i := i) hN hi hx h hs hf) fun Z σ H ⟨B, S, n, _⟩ => ⟨B0, H0, B, S, fun v B1 H1 f1 q1 => by
    obtain ⟨p, vs, rfl, h1, h2, h3, h4⟩ := q1
    refine n _ _ B1 H1 hp f1.eb ((S.fwd f1).setO h1 (S.fw.ex.free h2) h3 (h4.lspw fun a z => S.fw.ex.free z) fun j es _ hj z => ?_)
    obtain ⟨q, ws, e1, hq, _⟩ := S.own j es hj
    rw [z] at e1
    cases e1
    rw [h2] at hq
    cases hq⟩
/-- xs.append(e), e a new list -/
theorem px_appendN {ds es : List D} {i : Nat} {ce : Expr} (hr : ρ[i]? = some (.own ds)) (h : PE X ce (tBM X.K "list" rAppend (tVar i) (tCons (tD X.K T ρ (.own es)) tNil))) (hl : ds.length < 100000) (hp : P.nx (ρ.set i (.own (ds ++ [.lsp (fun a => H0 a = none) es])))) (hs : swapsWith ce none pos.line X.env = pure false := by rfl) : PX X T B0 H0 ρ (.Expr ce pos) P :=
  PS.imp (ps_expr h hs) fun Z σ H ⟨B, S, n, _⟩ => by
    obtain ⟨p, vs, e1, h1, h2, h3, ra⟩ := S.own i ds hr
    refine ⟨_, e1, .inl ⟨rfl, _, SqL.of h1⟩, B0, H0, B, S, fun v B1 H1 f1 q1 => ?_⟩
    obtain ⟨t, us, rfl, ht, hn, hb, rt⟩ := q1
    have f2 : Fwd B H (upd B1 t (.lst us)) H1 := f1.join S.bh ht hn hb
    have S1 := S.fwd f2
    refine ⟨p, vs, _, rfl, rfl, f1.ex _ _ h1, ?_, n _ _ _ _ hp f2.eb (S1.mut (vs := vs) hr e1 ((ra.mono f2.eb).app (.cons (.lsp (S.fw.ex.free hn) upd_same (rt.mono (Same.new hb))) .nil)))⟩
    rw [ra.length]
    exact Nat.lt_of_lt_of_le hl (by decide)
/-- a list of new lists returned -/
theorem px_retN2 {dss : List (List D)} {i : Nat} {x : Str} {px : Pos} (hr : ρ[i]? = some (.own (dss.map (.lsp fun a => H0 a = none)))) (hp : P.rt (.nst dss)) (hN : X.N[i]? = some x := by rfl) (hv : Vis X.env.scope x := by first | exact Or.inl rfl | exact Or.inr (Or.inl rfl) | exact Or.inr (Or.inr rfl)) (hd : (x == ("__debug__" : Str)) = false := by decide)
    (hcd : (x == ("__classdict__" : Str)) = false := by decide) : PX X T B0 H0 ρ (.Return (some (.Name x px)) pos) P :=
  PS.imp (ps_ret (pe_var hN hv hd hcd)) fun Z σ H ⟨B, S, n, q, q2, q3⟩ => by
    obtain ⟨p, vs, e, z⟩ := S.own i _ hr
    exact ⟨_, e, q (.nst dss) _ B H hp S.fw S.am ⟨p, vs, rfl, z⟩⟩
theorem pss_anyA {α : Type} {N : α → Prop} {f : α → TS} (h : ∀ a, N a → PSs X sts (f a)) : PSs X sts (fun Z σ H => ∃ a, N a ∧ f a Z σ H) := ⟨fun pins s σ H Z I ⟨a, n, q⟩ => (h a n).run pins s σ H Z I q⟩
/-- all that stands there is the base anew -/
theorem px_rebase (hno : ∀ (j : Nat) (ds : List D), ρ[j]? ≠ some (.own ds)) (hnd : ∀ (j : Nat) (kvs : List (List Int × D)), ρ[j]? ≠ some (.dic kvs)) (h : ∀ B1 H1, Same B1 H1 → PXs X T B1 H1 ρ sts P) : PXs X T B0 H0 ρ sts P :=
  PSs.imp (pss_anyA (N := fun z : Hp × Hp => Same z.1 z.2) (f := fun z => tS X.K T z.1 z.2 ρ P) fun z hz => h z.1 z.2 hz) fun Z σ H ⟨B, S, n, q, q2, q3⟩ => by
    have back : ∀ {ρ' : Rho} {σ' : L2.St} {B' H' : Hp}, SD X.K T B H B' H' σ' ρ' → SD X.K T B0 H0 B' H' σ' ρ' := fun S' => ⟨S.fw.trans S'.fw, S'.am, S'.val, fun i ds e => by
      obtain ⟨p, vs, e1, h1, h2, h3⟩ := S'.own i ds e
      exact ⟨p, vs, e1, h1, S.fw.ex.free h2, h3⟩, S'.sep, S'.len, ⟨fun i kvs e => by
      obtain ⟨p, hv, e1, h1, h2, h3⟩ := S'.dic.at' i kvs e
      exact ⟨p, hv, e1, h1, S.fw.ex.free h2, h3⟩, S'.dic.sep⟩⟩
    refine ⟨(B, H), S.bh, B, ⟨Fwd.refl S.bh, S.am, S.val, fun i ds e => absurd e (hno i ds), S.sep, S.len, .none hnd⟩, fun ρ' σ' B' H' hp e S' => n _ _ _ _ hp e (back S'), fun r v B' H' hp f am rs => q r v B' H' hp (S.fw.trans f) am (RS.old S.fw.ex rs), fun ρ' σ' B' H' hp e S' => q2 _ _ _ _ hp e (back S'), fun ρ' σ' B' H' hp e S' => q3 _ _ _ _ hp e (back S')⟩
/-- a list of new lists: where it stands, where the first one of it stands -/
theorem px_hold {r0 : List D} {ds : List D} {i : Nat} {g : Addr → Prop} (hr : ρ[i]? = some (.own (.lsp g r0 :: ds))) (h : ∀ p q, H0 p = none → g q → p ≠ q → PXs X T B0 H0 (ρ.set i (.v (.lsp (fun a => a = p) (.lsp (fun a => a = q) r0 :: ds)))) sts P) : PXs X T B0 H0 ρ sts P :=
  PSs.imp (pss_anyA (N := fun z : Addr × Addr => H0 z.1 = none ∧ g z.2 ∧ z.1 ≠ z.2) (f := fun z => tS X.K T B0 H0 (ρ.set i (.v (.lsp (fun a => a = z.1) (.lsp (fun a => a = z.2) r0 :: ds)))) P) fun z hz => h z.1 z.2 hz.1 hz.2.1 hz.2.2) fun Z σ H ⟨B, S, n, q, q2, q3⟩ => by
    obtain ⟨p, vs, e1, hp, h0, hb, ra⟩ := S.own i _ hr
    obtain ⟨B', eb, S'⟩ := S.frz hr
    have ilt : i < ρ.length := (List.getElem?_eq_some_iff.mp hr).1
    obtain ⟨v, e2, r⟩ := S'.val i _ (List.getElem?_set_self ilt)
    rw [e1] at e2
    cases e2
    cases r with
    | @lst _ xs _ hrd rb =>
      have bp : B' p = some (.lst xs) := by
        rcases hrd with z | ⟨o, z⟩
        · exact z
        · have y := S'.bh _ _ z
          rw [hp] at y
          cases y
      cases rb with
      | @cons _ us1 _ _ r1 r2 =>
        cases r1 with
        | @lsp _ b ws _ ga hq rx =>
          have nq : p ≠ b := fun w => by
            have y := S'.bh _ _ bp
            have y2 := S'.bh _ _ hq
            rw [hp] at y
            cases y
            cases ra with
            | cons k1 k2 =>
              cases k1 with
              | lsp kg kq kx =>
                rw [← w, hb] at kq
                cases kq
          refine ⟨(p, b), ⟨h0, ga, nq⟩, B', ?_, fun _ _ _ _ h e => n _ _ _ _ h (eb.trans e), q, fun _ _ _ _ h e => q2 _ _ _ _ h (eb.trans e), fun _ _ _ _ h e => q3 _ _ _ _ h (eb.trans e)⟩
          have z := S'.set (i := i) (v := .ref p) (d := .lsp (fun a => a = p) (.lsp (fun a => a = b) r0 :: ds)) (.lsp rfl bp (.cons (.lsp rfl hq rx) r2))
          rw [List.set_set] at z
          have es : σ.set i (some (V.ref p)) = σ := by
            refine List.ext_getElem? fun m => ?_
            by_cases hm : i = m
            · subst hm
              rw [e1, List.getElem?_set_self (by rw [← S.len]; exact ilt)]
            · rw [List.getElem?_set_ne hm]
          rw [es] at z
          exact z
/-- a new list is neither -/
theorem pd_frz2 {r0 : List D} {ds es : List D} {p q : Addr} {i : Nat} (h : PD X T ρ e (.own es)) (hr : ρ[i]? = some (.v (.lsp (fun a => a = p) (.lsp (fun a => a = q) r0 :: ds)))) : PD X T ρ e (.v (.lsp (fun a => a ≠ p ∧ a ≠ q) es)) := PE.imp h fun _ H _ ⟨B0, H0, B, S, k⟩ => ⟨B0, H0, B, S, fun v B2 H2 f z => by
  obtain ⟨t, vs, rfl, hp, hn, hb, z⟩ := z
  obtain ⟨u, e1, r⟩ := S.val i _ hr
  cases r with
  | lsp g1 b1 ra =>
    cases ra with
    | cons r1 r2 =>
      cases r1 with
      | lsp g2 b2 rx =>
        have n1 : t ≠ p := fun w => by
          have y := S.bh _ _ b1
          rw [g1, ← w, hn] at y
          cases y
        have n2 : t ≠ q := fun w => by
          have y := S.bh _ _ b2
          rw [g2, ← w, hn] at y
          cases y
        exact k _ _ _ (f.join S.bh hp hn hb) (.lsp ⟨n1, n2⟩ upd_same (z.mono (Same.new hb)))⟩
/-- xs[0].append(e): that list is data no more; nothing goes on behind but to a return -/
theorem px_dig {r0 : List D} {q : Addr} {ce : Expr} {ρ' : Rho} (E : Same B0 H0) (hq : H0 q = none) (hl : r0.length < 100000)
    (h : PE X ce (tBM X.K "list" rAppend (tD X.K T ρ (.v (.lsp (fun a => a = q) r0))) (tCons (tD X.K T ρ (.v d)) tNil))) (hlen : ρ'.length = ρ.length) (hk : ∀ (j : Nat) (s' : Sl), ρ'[j]? = some s' → ∃ s, ρ[j]? = some s ∧ KpS X.K q s s')
    (hs : swapsWith ce none pos.line X.env = pure false := by rfl) (h2 : PXs X T B0 H0 ρ' rest { P with nx := fun _ => False, bk := fun _ => False, ct := fun _ => False }) : PXs X T B0 H0 ρ (.Expr ce pos :: rest) P :=
  PSs.imp (pss_cons (ps_expr h hs) h2) fun Z σ H ⟨B, S, n, qr, q2, q3⟩ => by
    refine ⟨B0, H0, B, S, fun v B1 H1 f1 r1 => ?_⟩
    have S1 := S.fwd f1
    cases r1 with
    | @lsp _ a xs _ ga ha rx =>
      subst ga
      refine ⟨.inl ⟨rfl, _, SqL.of (f1.e2 _ _ ha)⟩, B0, H0, B1, S1, fun w B2 H2 f2 r2 => ?_⟩
      have S2 := S1.fwd f2
      have hb2 : B2 a = some (.lst xs) := f2.eb _ _ ha
      refine ⟨a, xs, w, rfl, rfl, f2.e2 _ _ hb2, ?_, hole B2 a, S2.dig E hq hb2 hlen hk, fun _ _ _ _ z => z.elim, qr, fun _ _ _ _ z => z.elim, fun _ _ _ _ z => z.elim⟩
      rw [rx.length]
      exact Nat.lt_of_lt_of_le hl (by decide)
end
/-- a promise of new lists, as one of lists -/
theorem kn_nst {P : Program} {w : World} {K : PySem.W.Frag} {mg : Str → Option Value} {base : Heap} {T : List Addr} {k : Nat} {x : Str} {R1 R2 : List D → Out → Prop} (c : Kn P w K mg base T k x R1)
    (h : ∀ ds o, R2 ds o → R1 ds o ∨ ∃ dss : List (List D), o = .ret (.own (dss.map .lst)) ∧ R1 ds (.ret (.nst dss))) : Kn P w K mg base T k x R2 := by
  obtain ⟨f, fd, ps, F, m1, m2, m3⟩ := c.it
  have go : ∀ vs H Q E, spD K T R2 vs H Q E → spD K T R1 vs H Q E := fun vs H Q E ⟨B, ds, o, e, am, ra, rel, ow, xw⟩ => by
    rcases h ds o rel with z | ⟨dss, rfl, z⟩
    · exact ⟨B, ds, o, e, am, ra, z, ow, xw⟩
    · refine ⟨B, ds, _, e, am, ra, z, fun v B2 H2 f rs => ow v B2 H2 f ?_, trivial⟩
      obtain ⟨p, vs, h1, h2, h3, h4, h5⟩ := rs
      exact ⟨p, vs, h1, h2, h3, h4, h5.lspL⟩
  exact ⟨f, fd, ps, ⟨fun vs H Q E z => F.len vs H Q E (go _ _ _ _ z), fun A outer s H args us vs Q E r e b v z => F.run A outer s H args us vs Q E r e b v (go _ _ _ _ z)⟩, m1, m2, m3⟩
end DX
/-! # Dicts of one's own, keys tuples of ints -/
namespace DX
open PySem PySem.Spec PyProof.Rows L2
/-- {x: v}, x a tuple of ints and texts; the new dict stands empty while both are made -/
def tDispT1 (tk tv : TE) : TE := fun σ H Q => ∀ p, H p = none → tk σ (upd H p (.dT [])) fun x H1 => tv σ H1 fun y H2 => H2 p = some (.dT []) ∧ ∃ b k, x = .ref b ∧ H2 b = some (.tup (k.map kV)) ∧ Q (.ref p) (upd H2 p (.dT [(k, y)]))
theorem pe_dispT1 {X : Cx} {ke ve : Expr} {pos : Pos} {tk tv : TE} (hu : X.A.units + 1 < cLine) (hk : PE X ke tk) (hv : PE X ve tv) : PE X (.Dict [some ke] [ve] pos) (tDispT1 tk tv) := by
  refine ⟨fun pins s σ H Q I q => ?_⟩
  have hn := I.hok.fresh (Nat.le_refl s.heap.objs.size)
  have I1 := I.laid (a := s.heap.objs.size) (o := .dT []) (h' := s.heap.push { cls := .type "dict", data := .dict #[] }) (t' := s.toks) (fun _ _ q => Heap.get?_push_of_some _ q) (Nat.le_refl _) (dt_empty s.heap I.big)
  rw [arm_eval_Dict, zip_pairTrees [some ke] [ve] X.env pos rfl rfl, dictDisplay_pairs _ (by intro z; cases z) (by show 1 < 17; decide)]
  refine wpAny_bind (wpAny_standAt (wpAny_bind (wpAny_subDictH (knd := tupleKind (mixKind X.prog X.w)) (Q := fun d s' => wpAny (model X.prog X.w) X.A (pure (Value.ref d)) _ X.xe s') (by show X.A.units < cLine; omega) (by show 1 ≤ 15; decide) ?_)))
  refine pairTrees_cons_walk (thn (hk.run pins _ σ _ _ I1 (q _ hn)) fun u s1 ⟨x, H1, I1, rx, q1⟩ => thn (hv.run pins s1 σ H1 _ I1 q1) fun w2 s2 ⟨y, H2, I2, ry, hp, b, k, ex, hb, q2⟩ => pairTrees_nil_walk ?_)
  subst ex
  cases (show u = Value.ref b from rx)
  obtain ⟨z, hd, xs, rel, dd⟩ := dt_of I2.hok hp
  cases rel
  refine ⟨[(k, b, w2)], ⟨rfl, rfl, key_of I2.hok hb, trivial⟩, dd, fun h' tk dd' hs => wpAny_pure ⟨.ref s.heap.objs.size, _, ?_, rfl, q2⟩⟩
  obtain ⟨q', es, ep, hq, h2, h3, h4, _, h5⟩ := dd'
  refine d_write I2 (by rw [hp]; exact True.intro) hs ⟨q', hq⟩ ⟨by show 1 ≤ sizeLine; decide, hd, _, Paired.cons ⟨rfl, ?_, ry⟩ .nil, q', es, ep, hq, h2, h3, h4, h5⟩
  show upd H2 s.heap.objs.size _ b = some (.tup (k.map kV))
  rw [upd_ne (ne_of hb hp (fun z => nomatch z))]
  exact hb
end DX
namespace DX
open PySem PySem.Spec PyProof.Rows L2
/-! ### a dict as data -/
def getA {α : Type} : List (List Int × α) → List Int → Option α
  | [], _ => none
  | (k, v) :: L, z => if k = z then some v else getA L z
def putA {α : Type} : List (List Int × α) → List Int → α → List (List Int × α)
  | [], z, v => [(z, v)]
  | (k, u) :: L, z, v => if k = z then (k, v) :: L else (k, u) :: putA L z v
abbrev inK (k : List Int) : List L2.Key := k.map Sum.inl
theorem inK_inj {k j : List Int} : inK k = inK j ↔ k = j := ⟨fun h => by
  have z := congrArg (List.map fun x : L2.Key => match x with | .inl i => i | .inr _ => (0 : Int)) h
  rw [List.map_map, List.map_map] at z
  have e : ∀ l : List Int, l.map ((fun x : L2.Key => match x with | .inl i => i | .inr _ => (0 : Int)) ∘ Sum.inl) = l := fun l => List.map_id' l
  rw [e, e] at z
  exact z, fun h => by rw [h]⟩
theorem inK_kV (k : List Int) : (inK k).map kV = k.map V.int := by
  rw [List.map_map]
  rfl
/-- a key: a tuple of ints that stands plainly -/
abbrev tP (k : List Int) : D := .ptup (k.map .int)
theorem key_at {K : PySem.W.Frag} {H : Hp} {v : V} {k : List Int} (r : R K H v (tP k)) : ∃ b, v = .ref b ∧ H b = some (.tup ((inK k).map kV)) := by
  cases r with
  | ptup h ra =>
    refine ⟨_, rfl, ?_⟩
    rw [inK_kV, ← ra_ints ra]
    exact h
theorem rk_len {K : PySem.W.Frag} {H : Hp} : ∀ {hv : List (List L2.Key × V)} {kvs : List (List Int × D)}, RK K H hv kvs → hv.length = kvs.length
  | _, _, .nil => rfl
  | _, _, .cons _ t => by rw [List.length_cons, List.length_cons, rk_len t]
theorem rk_get {K : PySem.W.Frag} {H : Hp} {k : List Int} : ∀ {hv : List (List L2.Key × V)} {kvs : List (List Int × D)}, RK K H hv kvs → (∃ d v, getA kvs k = some d ∧ valV hv (inK k) = some v ∧ R K H v d) ∨ (getA kvs k = none ∧ valV hv (inK k) = none)
  | _, _, .nil => .inr ⟨rfl, rfl⟩
  | _, _, @RK.cons _ _ j v d hv kvs r t => by
    by_cases e : j = k
    · subst e
      exact .inl ⟨d, v, by rw [getA, if_pos rfl], valV_pos rfl, r⟩
    · rw [getA, if_neg e, valV_neg (fun z => e (inK_inj.mp z))]
      exact rk_get t
theorem putK_miss {k : List L2.Key} {v : V} : ∀ {hv : List (List L2.Key × V)}, (∀ p ∈ hv, p.1 ≠ k) → hv.map (fun kv => if kv.1 = k then (kv.1, v) else kv) = hv
  | [], _ => rfl
  | p :: hv, h => by
    rw [List.map_cons, if_neg (h p List.mem_cons_self), putK_miss fun q hq => h q (List.mem_cons_of_mem _ hq)]
theorem rk_keys {K : PySem.W.Frag} {H : Hp} : ∀ {hv : List (List L2.Key × V)} {kvs : List (List Int × D)}, RK K H hv kvs → hv.map (·.1) = (kvs.map (·.1)).map inK
  | _, _, .nil => rfl
  | _, _, .cons _ t => by rw [List.map_cons, List.map_cons, List.map_cons, rk_keys t]
theorem rk_put {K : PySem.W.Frag} {H : Hp} {k : List Int} {v : V} {d : D} (r : R K H v d) : ∀ {hv : List (List L2.Key × V)} {kvs : List (List Int × D)}, RK K H hv kvs → (kvs.map (·.1)).Nodup → RK K H (putK hv (inK k) v) (putA kvs k d)
  | _, _, .nil, _ => by
    show RK K H [(inK k, v)] [(k, d)]
    exact .cons r .nil
  | _, _, @RK.cons _ _ j u e hv kvs r1 t, nd => by
    rw [List.map_cons] at nd
    obtain ⟨n1, n2⟩ := List.nodup_cons.mp nd
    by_cases q : j = k
    · subst q
      have miss : ∀ p ∈ hv, p.1 ≠ inK j := fun p hp z => by
        have m : p.1 ∈ hv.map (·.1) := List.mem_map.mpr ⟨p, hp, rfl⟩
        rw [rk_keys t, z] at m
        obtain ⟨y, hy, ey⟩ := List.mem_map.mp m
        exact n1 (inK_inj.mp ey ▸ hy)
      have e1 : putK ((inK j, u) :: hv) (inK j) v = (inK j, v) :: hv := by
        unfold putK
        rw [if_pos (by rw [List.any_cons, decide_eq_true (show (inK j, u).1 = inK j from rfl)]; rfl), List.map_cons, if_pos rfl, putK_miss miss]
      show RK K H (putK ((inK j, u) :: hv) (inK j) v) _
      rw [e1, putA, if_pos rfl]
      exact .cons r t
    · have ne : ¬ (inK j = inK k) := fun z => q (inK_inj.mp z)
      have e1 : putK ((inK j, u) :: hv) (inK k) v = (inK j, u) :: putK hv (inK k) v := by
        unfold putK
        rw [List.any_cons, decide_eq_false (show ¬ (inK j, u).1 = inK k from ne), Bool.false_or]
        by_cases c : (hv.any fun kv => decide (kv.1 = inK k)) = true
        · rw [if_pos c, if_pos c, List.map_cons, if_neg ne]
        · rw [if_neg c, if_neg c]
          rfl
      show RK K H (putK ((inK j, u) :: hv) (inK k) v) _
      rw [e1, putA, if_neg q]
      exact .cons r1 (rk_put r t n2)
section
variable {K : PySem.W.Frag} {T : List Addr} {B0 H0 B H : Hp} {σ : L2.St} {ρ : Rho}
/-- a dict of one's own is changed -/
theorem SD.mutD {p : Addr} {hv hv' : List (List L2.Key × V)} {kvs kws : List (List Int × D)} {i : Nat} (S : SD K T B0 H0 B H σ ρ) (hr : ρ[i]? = some (.dic kvs)) (hs : σ[i]? = some (some (V.ref p))) (rk : RK K B hv' kws) : SD K T B0 H0 B (upd H p (.dT hv')) σ (ρ.set i (.dic kws)) := by
  obtain ⟨q, hv0, e1, hp, h0, hb, _⟩ := S.dic.at' i kvs hr
  rw [hs] at e1
  cases e1
  have ilt : i < ρ.length := (List.getElem?_eq_some_iff.mp hr).1
  have up : ∀ {a : Addr} {o : HO}, a ≠ p → H a = some o → upd H p (.dT hv') a = some o := fun h e => by rw [upd_ne h]; exact e
  have other : ∀ {j : Nat} {s : Sl}, (ρ.set i (Sl.dic kws))[j]? = some s → (∀ z, s ≠ .dic z) → ρ[j]? = some s := fun {j s} h hn => by
    by_cases hj : i = j
    · subst hj
      rw [List.getElem?_set_self ilt] at h
      exact absurd (Option.some.inj h).symm (hn kws)
    · rw [List.getElem?_set_ne hj] at h
      exact h
  have back : ∀ {j : Nat} {z : List (List Int × D)}, (ρ.set i (Sl.dic kws))[j]? = some (Sl.dic z) → ∃ z', ρ[j]? = some (Sl.dic z') := fun {j z} h => by
    by_cases hj : i = j
    · subst hj
      exact ⟨kvs, hr⟩
    · rw [List.getElem?_set_ne hj] at h
      exact ⟨z, h⟩
  refine ⟨⟨fun a o e => up (ne_of_none e h0) (S.fw.ex _ _ e), S.fw.eb, fun a o e => up (ne_of_none e hb) (S.fw.e2 _ _ e), S.fw.fr⟩, fun t ht => up (fun z => ?_) (S.am t ht), fun j e h => ?_, fun j fs h => ?_, fun j l q es fs h1 h2 h3 h4 => ?_, by rw [List.length_set, S.len], ⟨fun j z h => ?_, fun j l q z1 z2 h1 h2 h3 h4 => ?_⟩⟩
  · have y := S.am t ht
    rw [z, hp] at y
    have y' : HO.dT hv0 = HO.ext _ := Option.some.inj y
    cases y'
  · exact S.val j e (other h fun z w => by cases w)
  · obtain ⟨q, us, g1, z1, z2, z3, z4⟩ := S.own j fs (other h fun z w => by cases w)
    exact ⟨q, us, g1, up (fun w => by rw [w, hp] at z1; cases z1) z1, z2, z3, z4⟩
  · exact S.sep j l q es fs (other h1 fun z w => by cases w) (other h2 fun z w => by cases w) h3 h4
  · by_cases hj : i = j
    · subst hj
      rw [List.getElem?_set_self ilt] at h
      cases h
      exact ⟨p, hv', hs, upd_same, h0, hb, rk⟩
    · rw [List.getElem?_set_ne hj] at h
      obtain ⟨q, us, g1, z1, z2, z3, z4⟩ := S.dic.at' j z h
      have n : q ≠ p := fun e => hj (S.dic.sep i j p kvs z hr h hs (by rw [← e]; exact g1))
      exact ⟨q, us, g1, up n z1, z2, z3, z4⟩
  · obtain ⟨y1, g1⟩ := back h1
    obtain ⟨y2, g2⟩ := back h2
    exact S.dic.sep j l q y1 y2 g1 g2 h3 h4
end
section
variable {X : Cx} {T : List Addr} {B0 H0 : Hp} {ρ : Rho} {e y ve : Expr} {pos : Pos} {d : D} {P : Post} {kvs : List (List Int × D)} {k : List Int} {i : Nat} {x : Str} {px : Pos}
theorem pd_pt {ds : List D} (h : PD X T ρ e (.v (.ptup ds))) : PD X T ρ e (.v (.tup ds)) := PE.imp h fun _ _ _ ⟨B0, H0, B, S, q⟩ => ⟨B0, H0, B, S, fun v B2 H2 f r => q v B2 H2 f (by
  cases r with
  | ptup a b => exact .tup (.inl (.inl a)) b)⟩
/-- d[y], there -/
theorem pd_dget (hu : X.A.units + 1 < cLine) (hr : ρ[i]? = some (.dic kvs)) (hy : PD X T ρ y (.v (tP k))) (hg : getA kvs k = some d) (hs : NoSl y) (hN : X.N[i]? = some x := by rfl) (hv : Vis X.env.scope x := by first | exact Or.inl rfl | exact Or.inr (Or.inl rfl) | exact Or.inr (Or.inr rfl))
    (hdx : (x == ("__debug__" : Str)) = false := by decide) (hcx : (x == ("__classdict__" : Str)) = false := by decide) : PD X T ρ (.Subscript (.Name x px) y pos) (.v d) :=
  PE.imp (pe_dget hu (pe_var hN hv hdx hcx) hy hs) fun σ H Q ⟨B0, H0, B, S, q⟩ => by
    obtain ⟨p, hv, e1, hp, h0, hb, rk⟩ := S.dic.at' i kvs hr
    refine ⟨_, e1, B0, H0, B, S, fun v B2 H2 f r => ?_⟩
    obtain ⟨b, rfl, hb2⟩ := key_at r
    rcases rk_get (k := k) rk with ⟨d', v', g1, g2, g3⟩ | ⟨g1, _⟩
    · rw [hg] at g1
      cases g1
      refine ⟨p, v', rfl, ?_, q v' B2 H2 f (g3.mono f.eb)⟩
      rw [← g2]
      exact DGet.t (f.ex _ _ hp) (f.e2 _ _ hb2)
    · rw [hg] at g1
      cases g1
end
end DX
namespace DX
open PySem PySem.Spec PyProof.Rows L2
section
variable {X : Cx} {T : List Addr} {B0 H0 : Hp} {ρ : Rho} {e y ve f : Expr} {pos : Pos} {d dv : D} {P : Post} {kvs : List (List Int × D)} {k : List Int} {i : Nat} {x : Str} {px : Pos}
/-- y not in d -/
theorem pb_dnotin (hu : X.A.units + 1 < cLine) (hy : PD X T ρ y (.v (tP k))) (hr : ρ[i]? = some (.dic kvs)) (hN : X.N[i]? = some x := by rfl) (hv : Vis X.env.scope x := by first | exact Or.inl rfl | exact Or.inr (Or.inl rfl) | exact Or.inr (Or.inr rfl))
    (hdx : (x == ("__debug__" : Str)) = false := by decide) (hcx : (x == ("__classdict__" : Str)) = false := by decide) (hm : behindInMarks .NotIn (.Name x px) = false := by first | exact nomark _ | rfl) : PB X T ρ (.Compare y [.NotIn] [.Name x px] pos) (!(getA kvs k).isSome) :=
  PT.imp (pt_cmp (pc_dnotin hu hy (pe_var hN hv hdx hcx)) hm) fun σ H Q ⟨B0, H0, B, S, q⟩ => by
    refine ⟨B0, H0, B, S, fun v B2 H2 f r => ?_⟩
    have S2 := S.fwd f
    obtain ⟨p, hv, e1, hp, h0, hb, rk⟩ := S2.dic.at' i kvs hr
    obtain ⟨b, rfl, hb2⟩ := key_at r
    refine ⟨_, e1, p, valV hv (inK k), rfl, DGet.t hp (f.e2 _ _ hb2), _, rfl, ?_⟩
    have es : (valV hv (inK k)).isSome = (getA kvs k).isSome := by
      rcases rk_get (k := k) rk with ⟨d', v', g1, g2, g3⟩ | ⟨g1, g2⟩
      · rw [g1, g2]
        rfl
      · rw [g1, g2]
        rfl
    rw [es]
    exact q B2 H2 f
/-- d.get(y, f) -/
theorem pd_dget2 {apos cpos : Pos} {df : D} (hu : X.A.units + 1 < cLine) (hr : ρ[i]? = some (.dic kvs)) (hy : PD X T ρ y (.v (tP k))) (hf : PD X T ρ f (.v df)) (m : M2 X (.Name x px) "get" apos y f cpos) (hN : X.N[i]? = some x := by rfl) (hv : Vis X.env.scope x := by first | exact Or.inl rfl | exact Or.inr (Or.inl rfl) | exact Or.inr (Or.inr rfl))
    (hdx : (x == ("__debug__" : Str)) = false := by decide) (hcx : (x == ("__classdict__" : Str)) = false := by decide) : PD X T ρ (.Call (.Attribute (.Name x px) "get" apos) [y, f] [] cpos) (.v ((getA kvs k).getD df)) :=
  PE.imp (pe_dget2 hu (pe_var hN hv hdx hcx) hy hf m) fun σ H Q ⟨B0, H0, B, S, q⟩ => by
    obtain ⟨p, hv, e1, hp, h0, hb, rk⟩ := S.dic.at' i kvs hr
    refine ⟨_, e1, p, rfl, .inr ⟨hv, .inl hp⟩, B0, H0, B, S, fun v B2 H2 f2 r => ⟨B0, H0, B2, S.fwd f2, fun u B3 H3 f3 r3 => ?_⟩⟩
    obtain ⟨b, rfl, hb2⟩ := key_at r
    refine ⟨valV hv (inK k), DGet.t (f3.ex _ _ (f2.ex _ _ hp)) (f3.ex _ _ (f2.e2 _ _ hb2)), ?_⟩
    rcases rk_get (k := k) rk with ⟨d', v', g1, g2, g3⟩ | ⟨g1, g2⟩
    · rw [g2]
      refine q v' B3 H3 (f2.trans f3) ?_
      show R X.K B3 v' ((getA kvs k).getD df)
      rw [g1]
      exact g3.mono (f2.trans f3).eb
    · rw [g2]
      refine q u B3 H3 (f2.trans f3) ?_
      show R X.K B3 u ((getA kvs k).getD df)
      rw [g1]
      exact r3
/-- d[y] = v -/
theorem px_dput {pos' : Pos} (hu : X.A.units + 1 < cLine) (hr : ρ[i]? = some (.dic kvs)) (hv : PD X T ρ ve (.v dv)) (hy : PD X T ρ y (.v (tP k))) (nd : (kvs.map (·.1)).Nodup) (hl : kvs.length < 100000) (hp : P.nx (ρ.set i (.dic (putA kvs k dv)))) (hs : swapsWith ve (some (.Subscript (.Name x px) y pos')) pos.line X.env = pure false := by rfl) (hN : X.N[i]? = some x := by rfl) (hvs : Vis X.env.scope x := by first | exact Or.inl rfl | exact Or.inr (Or.inl rfl) | exact Or.inr (Or.inr rfl))
    (hdx : (x == ("__debug__" : Str)) = false := by decide) (hcx : (x == ("__classdict__" : Str)) = false := by decide) : PX X T B0 H0 ρ (.Assign [.Subscript (.Name x px) y pos'] ve pos) P :=
  PS.imp (ps_dput hu (pe_var hN hvs hdx hcx) hy hv hs) fun Z σ H ⟨B, S, n, _⟩ => by
    refine ⟨B0, H0, B, S, fun v B1 H1 f1 r1 => ?_⟩
    have S1 := S.fwd f1
    obtain ⟨p, hv, e1, hpp, h0, hb, rk⟩ := S1.dic.at' i kvs hr
    refine ⟨_, e1, B0, H0, B1, S1, fun u B2 H2 f2 r2 => ?_⟩
    obtain ⟨b, rfl, hb2⟩ := key_at r2
    refine ⟨p, _, rfl, DPut.t (v := v) (f2.ex _ _ hpp) (f2.e2 _ _ hb2) ?_, n _ _ B2 _ hp (f1.eb.trans f2.eb) ((S1.fwd f2).mutD (hv := hv) hr e1 (rk_put (r1.mono f2.eb) (rk.mono f2.eb) nd))⟩
    rw [rk_len rk]
    exact Nat.lt_of_lt_of_le hl (by decide)
theorem SD.setD {K : PySem.W.Frag} {B H : Hp} {σ : L2.St} {p : Addr} {hv : List (List L2.Key × V)} (S : SD K T B0 H0 B H σ ρ) (hp : H p = some (.dT hv)) (h0 : H0 p = none) (hb : B p = none) (rk : RK K B hv kvs)
    (hn : ∀ j kws, i ≠ j → ρ[j]? = some (Sl.dic kws) → σ[j]? ≠ some (some (V.ref p))) : SD K T B0 H0 B H (σ.set i (some (V.ref p))) (ρ.set i (.dic kvs)) := by
  have other : ∀ {j : Nat} {s : Sl}, (ρ.set i (Sl.dic kvs))[j]? = some s → (∀ z, s ≠ .dic z) → i ≠ j ∧ ρ[j]? = some s := fun {j s} h hn => by
    by_cases hj : i = j
    · subst hj
      rw [List.getElem?_set] at h
      simp only [if_true] at h
      split at h
      · exact absurd (Option.some.inj h).symm (hn kvs)
      · cases h
    · rw [List.getElem?_set_ne hj] at h
      exact ⟨hj, h⟩
  have self : ∀ {z : List (List Int × D)}, (ρ.set i (Sl.dic kvs))[i]? = some (Sl.dic z) → i < ρ.length ∧ z = kvs := fun {z} h => by
    rw [List.getElem?_set] at h
    simp only [if_true] at h
    split at h
    · rename_i hl
      cases h
      exact ⟨hl, rfl⟩
    · cases h
  refine ⟨S.fw, S.am, fun j e h => ?_, fun j es h => ?_, fun j l p es fs h1 h2 h3 h4 => ?_, by rw [List.length_set, List.length_set, S.len], ⟨fun j z h => ?_, fun j l q z1 z2 h1 h2 h3 h4 => ?_⟩⟩
  · obtain ⟨hj, h⟩ := other h fun z w => by cases w
    obtain ⟨u, e1, r1⟩ := S.val j e h
    exact ⟨u, by rw [List.getElem?_set_ne hj]; exact e1, r1⟩
  · obtain ⟨hj, h⟩ := other h fun z w => by cases w
    obtain ⟨q, ws, e1, z⟩ := S.own j es h
    exact ⟨q, ws, by rw [List.getElem?_set_ne hj]; exact e1, z⟩
  · obtain ⟨n1, h1⟩ := other h1 fun z w => by cases w
    obtain ⟨n2, h2⟩ := other h2 fun z w => by cases w
    rw [List.getElem?_set_ne n1] at h3
    rw [List.getElem?_set_ne n2] at h4
    exact S.sep j l p es fs h1 h2 h3 h4
  · by_cases hj : i = j
    · subst hj
      obtain ⟨hl, rfl⟩ := self h
      exact ⟨p, hv, List.getElem?_set_self (by rw [← S.len]; exact hl), hp, h0, hb, rk⟩
    · rw [List.getElem?_set_ne hj] at h
      obtain ⟨q, ws, e1, z⟩ := S.dic.at' j _ h
      exact ⟨q, ws, by rw [List.getElem?_set_ne hj]; exact e1, z⟩
  · by_cases hj : i = j
    · subst hj
      by_cases hl : i = l
      · exact hl
      · obtain ⟨hi, rfl⟩ := self h1
        rw [List.getElem?_set_self (by rw [← S.len]; exact hi)] at h3
        cases h3
        rw [List.getElem?_set_ne hl] at h2 h4
        exact absurd h4 (hn l _ hl h2)
    · rw [List.getElem?_set_ne hj] at h1 h3
      by_cases hl : i = l
      · subst hl
        obtain ⟨hi, rfl⟩ := self h2
        rw [List.getElem?_set_self (by rw [← S.len]; exact hi)] at h4
        cases h4
        exact absurd h3 (hn j _ hj h1)
      · rw [List.getElem?_set_ne hl] at h2 h4
        exact S.dic.sep j l q _ _ h1 h2 h3 h4
/-- a name gets a new dict -/
theorem px_setD (h : PD X T ρ e (.dic kvs)) (hp : P.nx (ρ.set i (.dic kvs))) (hN : X.N.Nodup) (hi : X.N[i]? = some x := by rfl) (hx : Loc X.env.scope x := by first | exact Or.inl rfl | exact Or.inr rfl) (hs : swapsWith e (some (.Name x px)) pos.line X.env = pure false := by rfl)
    (hf : X.fn x = true ∨ X.env.scope.names.lookup x = some .local := by first | exact .inl rfl | exact .inr rfl) : PX X T B0 H0 ρ (.Assign [.Name x px] e pos) P :=
  PS.imp (ps_set (i := i) hN hi hx h hs hf) fun Z σ H ⟨B, S, n, _⟩ => ⟨B0, H0, B, S, fun v B1 H1 f1 q1 => by
    obtain ⟨p, hv, rfl, h1, h2, h3, h4⟩ := q1
    refine n _ _ B1 H1 hp f1.eb ((S.fwd f1).setD h1 (S.fw.ex.free h2) h3 h4 fun j es _ hj z => ?_)
    obtain ⟨q, ws, e1, hq, _⟩ := S.dic.at' j es hj
    rw [z] at e1
    cases e1
    rw [h2] at hq
    cases hq⟩
/-- a dict of one's own returned -/
theorem px_retD (hr : ρ[i]? = some (.dic kvs)) (hp : P.rt (.dic kvs)) (hN : X.N[i]? = some x := by rfl) (hv : Vis X.env.scope x := by first | exact Or.inl rfl | exact Or.inr (Or.inl rfl) | exact Or.inr (Or.inr rfl)) (hd : (x == ("__debug__" : Str)) = false := by decide)
    (hcd : (x == ("__classdict__" : Str)) = false := by decide) : PX X T B0 H0 ρ (.Return (some (.Name x px)) pos) P :=
  PS.imp (ps_ret (pe_var hN hv hd hcd)) fun Z σ H ⟨B, S, n, q, q2, q3⟩ => by
    obtain ⟨p, vs, e, z⟩ := S.dic.at' i kvs hr
    exact ⟨_, e, q (.dic kvs) _ B H hp S.fw S.am ⟨p, vs, rfl, z⟩⟩
/-- {} -/
theorem pd_dnew : PD X T ρ (.Dict [] [] pos) (.dic []) := PE.imp pe_dnewT fun σ H Q ⟨B0, H0, B, S, q⟩ p hp =>
  q _ _ _ (Fwd.side S.bh hp) ⟨p, [], rfl, upd_same, hp, S.bh.free hp, .nil⟩
/-- {y: v} -/
theorem pd_disp1 (hu : X.A.units + 1 < cLine) (hy : PD X T ρ y (.v (tP k))) (hv : PD X T ρ ve (.v dv)) : PD X T ρ (.Dict [some y] [ve] pos) (.dic [(k, dv)]) := PE.imp (pe_dispT1 hu hy hv) fun σ H Q ⟨B0, H0, B, S, q⟩ p hp => by
  have f0 : Fwd B H B (upd H p (.dT [])) := Fwd.side S.bh hp
  have S0 := S.fwd f0
  refine ⟨B0, H0, B, S0, fun v B1 H1 f1 r1 => ⟨B0, H0, B1, S0.fwd f1, fun u B2 H2 f2 r2 => ?_⟩⟩
  obtain ⟨b, rfl, hb⟩ := key_at r1
  have ff := f1.trans f2
  have hp2 : H2 p = some (.dT []) := ff.ex _ _ upd_same
  have b2 : B2 p = none := ff.fd (S.bh.free hp) upd_same
  refine ⟨hp2, b, inK k, rfl, f2.ex _ _ (f1.e2 _ _ hb), q _ B2 _ ⟨fun a o e => ?_, ff.eb, fun a o e => ?_, fun a h1 h2 => ?_⟩ ⟨p, _, rfl, upd_same, hp, b2, .cons r2 .nil⟩⟩
  · rw [upd_ne (ne_of_none e hp)]
    exact ff.ex _ _ (by rw [upd_ne (ne_of_none e hp)]; exact e)
  · rw [upd_ne (ne_of_none e b2)]
    exact ff.e2 _ _ e
  · have n : a ≠ p := fun w => h2 (by rw [w]; exact hp)
    have z := ff.fr a h1 (by rw [upd_ne n]; exact h2)
    rw [upd_ne n] at z
    exact z
end
end DX
/-! # Dicts of one's own: list(d), len(d), for y in d; while -/
namespace DX
open PySem PySem.Spec PyProof.Rows L2
/-- the keys' tuples join what data speaks of -/
def joinK (B H : Hp) (bs : List Addr) : Hp := fun a => if a ∈ bs then H a else B a
section
variable {K : PySem.W.Frag} {B H : Hp} {bs : List Addr}
theorem joinK_eb (e : Same B H) : Same B (joinK B H bs) := fun a u h => by
  unfold joinK
  split
  · exact e _ _ h
  · exact h
theorem joinK_e2 (e : Same B H) : Same (joinK B H bs) H := fun a u h => by
  unfold joinK at h
  split at h
  · exact h
  · exact e _ _ h
theorem keys_tup {hv : List (List L2.Key × V)} (ik : Paired (fun p b => H b = some (.tup (p.1.map kV))) hv bs) : ∀ b ∈ bs, ∃ xs, H b = some (.tup xs) := by
  induction ik with
  | nil => intro b hb; cases hb
  | cons h t ih =>
    intro b hb
    rcases List.mem_cons.mp hb with e | hb
    · rw [e]
      exact ⟨_, h⟩
    · exact ih b hb
theorem Fwd.keys {hv : List (List L2.Key × V)} (e : Same B H) (ik : Paired (fun p b => H b = some (.tup (p.1.map kV))) hv bs) : Fwd B H (joinK B H bs) H := ⟨Same.refl _, joinK_eb e, joinK_e2 e, fun a hb hH => by
  by_cases m : a ∈ bs
  · exact .inr (keys_tup ik a m)
  · refine .inl ?_
    unfold joinK
    rw [if_neg m]
    exact hb⟩
theorem ra_keys {B' : Hp} : ∀ {hv : List (List L2.Key × V)} {kvs : List (List Int × D)} {bs : List Addr}, RK K B hv kvs → Paired (fun p b => H b = some (.tup (p.1.map kV))) hv bs → (∀ b ∈ bs, ∀ u, H b = some u → B' b = some u) → RA K B' (bs.map V.ref) (kvs.map fun p => tP p.1)
  | _, _, _, .nil, ik, _ => by
    cases ik
    exact .nil
  | _, _, _, .cons (k := k) r t, ik, h => by
    cases ik with
    | @cons _ b _ bs h1 t1 =>
      have hb := h b List.mem_cons_self _ h1
      rw [inK_kV] at hb
      exact .cons (.ptup hb (ra_of_ints k)) (ra_keys t t1 fun b' hb' => h b' (List.mem_cons_of_mem _ hb'))
end
section
variable {X : Cx} {T : List Addr} {B0 H0 : Hp} {ρ : Rho} {e y ve f c : Expr} {pos p : Pos} {d dv : D} {P : Post} {kvs : List (List Int × D)} {k : List Int} {i : Nat} {x : Str} {px : Pos}
/-- list(d) -/
theorem pd_listD (hr : ρ[i]? = some (.dic kvs)) (hm : X.mg "list" = none) (hN : X.N[i]? = some x := by rfl) (hv : Vis X.env.scope x := by first | exact Or.inl rfl | exact Or.inr (Or.inl rfl) | exact Or.inr (Or.inr rfl)) (hc : X.calm = true := by rfl) (hdx : (x == ("__debug__" : Str)) = false := by decide)
    (hcx : (x == ("__classdict__" : Str)) = false := by decide) (hg : Gl X "list" := by rfl) (he : starEach [.Name x px] X.env = (false, eval (.Name x px) X.env) :: starEach [] X.env := by rfl) (hpl : (backTo pos (starEach [] X.env)).any (·.1) = false := by rfl) : PD X T ρ (.Call (.Name "list" p) [.Name x px] [] pos) (.own (kvs.map fun p => tP p.1)) :=
  PE.imp (pe_callTy (call_list_dT hc) hg hm (by decide +kernel : bootBuiltins "list" = some (.type "list")) (pa_cons (pe_var hN hv hdx hcx) pa_nil he) (by decide) (by decide) he hpl) fun σ H Q ⟨B0, H0, B, S, q⟩ => by
    obtain ⟨a, hv, e1, h1, h2, h3, rk⟩ := S.dic.at' i kvs hr
    refine ⟨_, e1, a, hv, rfl, .inl h1, fun t bs ht ik => ?_⟩
    have f0 := Fwd.keys S.bh ik
    have bt : joinK B H bs t = none := by
      cases z : joinK B H bs t with
      | none => rfl
      | some u =>
        have w := f0.e2 _ _ z
        rw [ht] at w
        cases w
    refine q _ _ _ (f0.trans (Fwd.side f0.e2 ht)) ⟨t, bs.map V.ref, rfl, upd_same, ht, bt, ra_keys rk ik fun b hb u hu => ?_⟩
    unfold joinK
    rw [if_pos hb]
    exact hu
/-- len(d) -/
theorem pd_lenD (hr : ρ[i]? = some (.dic kvs)) (hm : X.mg "len" = none) (hN : X.N[i]? = some x := by rfl) (hv : Vis X.env.scope x := by first | exact Or.inl rfl | exact Or.inr (Or.inl rfl) | exact Or.inr (Or.inr rfl)) (hdx : (x == ("__debug__" : Str)) = false := by decide)
    (hcx : (x == ("__classdict__" : Str)) = false := by decide) (hg : Gl X "len" := by rfl) (he : starEach [.Name x px] X.env = (false, eval (.Name x px) X.env) :: starEach [] X.env := by rfl) (hpl : (backTo pos (starEach [] X.env)).any (·.1) = false := by rfl) : PD X T ρ (.Call (.Name "len" p) [.Name x px] [] pos) (.v (.int (kvs.length : Int))) :=
  PE.imp (pe_callB call_len_dT hg hm (by decide +kernel : bootBuiltins "len" = some (.builtin "len")) (pa_cons (pe_var hN hv hdx hcx) pa_nil he) (by decide) (by decide) he hpl) fun σ H Q ⟨B0, H0, B, S, q⟩ => by
    obtain ⟨a, hv, e1, h1, h2, h3, rk⟩ := S.dic.at' i kvs hr
    refine ⟨_, e1, a, hv, rfl, h1, ?_⟩
    rw [rk_len rk]
    exact q _ B H (Fwd.refl S.bh) (.int _)
/-- while c: the turn m says how many are left at most -/
theorem px_while {body : List Stmt} (I : Nat → Rho → Prop) (k : Nat → Rho → Bool) (hc : ∀ m ρ', I m ρ' → PB X T ρ' c (k m ρ')) (h0 : ∃ m, I m ρ)
    (hs : ∀ m ρ', I m ρ' → k m ρ' = true → PXs X T B0 H0 ρ' body { P with nx := fun z => ∃ m', m' < m ∧ I m' z, ct := fun z => ∃ m', m' < m ∧ I m' z, bk := P.nx })
    (hend : ∀ m ρ', I m ρ' → k m ρ' = false → P.nx ρ') (hp : PassesOwn (model X.prog X.w) X.A X.env X.xe) : PX X T B0 H0 ρ (.While c body [] pos) P := by
  have hb : PSs X body (fun Z σ H => ∃ (m : Nat) (ρ' : Rho), I m ρ' ∧ k m ρ' = true ∧ tS X.K T B0 H0 ρ' { P with nx := fun z => ∃ m', m' < m ∧ I m' z, ct := fun z => ∃ m', m' < m ∧ I m' z, bk := P.nx } Z σ H) :=
    ⟨fun pins s σ H Z J ⟨m, ρ', e1, e2, q⟩ => (hs m ρ' e1 e2).run pins s σ H Z J q⟩
  have hcc : PT X c (fun σ H Q => ∃ (m : Nat) (ρ' : Rho), I m ρ' ∧ tT X.K T ρ' (k m ρ') σ H Q) := ⟨fun pins s σ H Q J ⟨m, ρ', e1, q⟩ => (hc m ρ' e1).run pins s σ H Q J q⟩
  refine PS.imp (ps_while hp hcc hb) fun Z σ H ⟨B, S, n, q, q2, q3⟩ => ?_
  obtain ⟨m0, i0⟩ := h0
  refine ⟨fun m σ' H' => ∃ ρ' B', I m ρ' ∧ Same B B' ∧ SD X.K T B0 H0 B' H' σ' ρ', ⟨m0, ρ, B, i0, Same.refl _, S⟩, fun m σ' H' ⟨ρ', B', hI, eb, S'⟩ => ⟨m, ρ', hI, B0, H0, B', S', fun B1 H1 f1 => ?_⟩⟩
  have S1 := S'.fwd f1
  have e1 := eb.trans f1.eb
  cases hk : k m ρ' with
  | false =>
    exact iteF (n ρ' σ' B1 H1 (hend m ρ' hI hk) e1 S1)
  | true =>
    refine iteT ⟨fun σ2 H2 => ∃ m' ρ2 B2, m' < m ∧ I m' ρ2 ∧ Same B B2 ∧ SD X.K T B0 H0 B2 H2 σ2 ρ2, fun σ2 H2 ⟨m', ρ2, B2, lt, i2, e2, S2⟩ => ⟨m', lt, ρ2, B2, i2, e2, S2⟩, m, ρ', hI, hk, B1, S1, ?_, q, ?_, ?_⟩
    · rintro ρ2 σ2 B2 H2 ⟨m', lt, i2⟩ e2 S2
      exact ⟨m', ρ2, B2, lt, i2, e1.trans e2, S2⟩
    · intro ρ2 σ2 B2 H2 hp2 e2 S2
      exact n ρ2 σ2 B2 H2 hp2 (e1.trans e2) S2
    · rintro ρ2 σ2 B2 H2 ⟨m', lt, i2⟩ e2 S2
      exact ⟨m', ρ2, B2, lt, i2, e1.trans e2, S2⟩
end
end DX
/-! # A dict of one's own, walked: it is locked while it is -/
namespace DX
open PySem PySem.Spec PyProof.Rows L2
section
variable {X : Cx} {T : List Addr} {B0 H0 : Hp} {ρ : Rho} {e y ve f c : Expr} {pos p : Pos} {d dv : D} {P : Post} {kvs : List (List Int × D)} {k : List Int} {i : Nat} {x : Str} {px : Pos}
/-- d[y], d locked -/
theorem pd_dgetL {a : Addr} {o : Obj} (hu : X.A.units + 1 < cLine) (he : PD X T ρ e (.v (.dcl a o kvs))) (hy : PD X T ρ y (.v (tP k))) (hg : getA kvs k = some d) (hs : NoSl y) : PD X T ρ (.Subscript e y pos) (.v d) :=
  PE.imp (pe_dget hu he hy hs) fun σ H Q ⟨B0, H0, B, S, q⟩ => ⟨B0, H0, B, S, fun w B1 H1 f1 r1 => ⟨B0, H0, B1, S.fwd f1, fun v B2 H2 f r => by
    cases r1 with
    | dcl hp rk =>
      obtain ⟨b, rfl, hb2⟩ := key_at r
      rcases rk_get (k := k) rk with ⟨d', v', g1, g2, g3⟩ | ⟨g1, _⟩
      · rw [hg] at g1
        cases g1
        refine ⟨a, v', rfl, ?_, q v' B2 H2 (f1.trans f) (g3.mono f.eb)⟩
        rw [← g2]
        exact .inr ⟨_, _, b, .inr ⟨o, f.ex _ _ (f1.e2 _ _ hp)⟩, rfl, f.e2 _ _ hb2, rfl⟩
      · rw [hg] at g1
        cases g1⟩⟩
/-- the dict is locked: it is data for a while -/
theorem SD.lockD {K : PySem.W.Frag} {B H : Hp} {σ : L2.St} {q : Addr} {hv : List (List L2.Key × V)} {o : Obj} (S : SD K T B0 H0 B H σ ρ) (hr : ρ[i]? = some (.dic kvs)) (hq : σ[i]? = some (some (V.ref q))) (hH : H q = some (.dT hv)) (h0 : H0 q = none) (hb : B q = none) (rk : RK K B hv kvs) :
    Same B (upd B q (.frz o (.dT hv))) ∧ SD K T B0 H0 (upd B q (.frz o (.dT hv))) (upd H q (.frz o (.dT hv))) σ (ρ.set i (.v (.dcl q o kvs))) := by
  have sb : Same B (upd B q (.frz o (.dT hv))) := Same.new hb
  have ilt : i < ρ.length := (List.getElem?_eq_some_iff.mp hr).1
  have up : ∀ {a : Addr} {u : HO}, a ≠ q → H a = some u → upd H q (.frz o (.dT hv)) a = some u := fun h e => by rw [upd_ne h]; exact e
  have other : ∀ {j : Nat} {s : Sl}, (ρ.set i (Sl.v (.dcl q o kvs)))[j]? = some s → (∀ z, s ≠ .v z) → i ≠ j ∧ ρ[j]? = some s := fun {j s} h hn => by
    by_cases hj : i = j
    · subst hj
      rw [List.getElem?_set_self ilt] at h
      exact absurd (Option.some.inj h).symm (hn _)
    · rw [List.getElem?_set_ne hj] at h
      exact ⟨hj, h⟩
  refine ⟨sb, ⟨fun a u e => up (ne_of_none e h0) (S.fw.ex _ _ e), S.fw.eb.trans sb, fun a u e => ?_, fun a h1 h2 => ?_⟩, fun t ht => up (fun z => ?_) (S.am t ht), fun j d h => ?_, fun j es h => ?_, fun j l p es fs h1 h2 => S.sep j l p es fs (other h1 fun z w => by cases w).2 (other h2 fun z w => by cases w).2, by rw [List.length_set, S.len], ⟨fun j z h => ?_, fun j l p z1 z2 h1 h2 => S.dic.sep j l p z1 z2 (other h1 fun z w => by cases w).2 (other h2 fun z w => by cases w).2⟩⟩
  · by_cases ha : a = q
    · rw [ha, upd_same] at e ⊢
      exact e
    · rw [upd_ne ha] at e
      exact up ha (S.fw.e2 _ _ e)
  · have n : a ≠ q := fun z => h2 (by rw [z]; exact h0)
    rw [upd_ne n]
    exact S.fw.fr a h1 h2
  · have y := S.am t ht
    rw [z, hH] at y
    have y' : HO.dT hv = HO.ext _ := Option.some.inj y
    cases y'
  · by_cases hj : i = j
    · subst hj
      rw [List.getElem?_set_self ilt] at h
      cases h
      exact ⟨_, hq, .dcl upd_same (rk.mono sb)⟩
    · rw [List.getElem?_set_ne hj] at h
      obtain ⟨v, e1, r⟩ := S.val j d h
      exact ⟨v, e1, r.mono sb⟩
  · obtain ⟨_, h⟩ := other h fun z w => by cases w
    obtain ⟨p, vs, e1, h1, h2, h3, ra⟩ := S.own j es h
    have n : p ≠ q := fun z => by rw [z, hH] at h1; cases h1
    exact ⟨p, vs, e1, up n h1, h2, by rw [upd_ne n]; exact h3, ra.mono sb⟩
  · obtain ⟨nj, h⟩ := other h fun z w => by cases w
    obtain ⟨p, hw, e1, h1, h2, h3, ra⟩ := S.dic.at' j z h
    have n : p ≠ q := fun w => nj (S.dic.sep i j q kvs z hr h hq (by rw [← w]; exact e1))
    exact ⟨p, hw, e1, up n h1, h2, by rw [upd_ne n]; exact h3, ra.mono sb⟩
/-- data that doesn't speak of a locked dict at q -/
def SafeL (K : PySem.W.Frag) (q : Addr) (d : D) : Prop := ∀ (B : Hp) (v : V) (o : Obj) (hv : List (List L2.Key × V)), B q = some (.frz o (.dT hv)) → R K B v d → R K (hole B q) v d
theorem safel_scal {K : PySem.W.Frag} {q : Addr} {d : D} (h : d.scal = true) : SafeL K q d := fun _ _ _ _ _ r => r.scal h
theorem safel_all {K : PySem.W.Frag} {q : Addr} : ∀ {ds : List D}, (∀ d ∈ ds, SafeL K q d) → ∀ (B : Hp) (vs : List V) (o : Obj) (hv : List (List L2.Key × V)), B q = some (.frz o (.dT hv)) → RA K B vs ds → RA K (hole B q) vs ds
  | [], _, _, _, _, _, _, r => by
    cases r
    exact .nil
  | _ :: _, h, B, _, o, hv, hq, r => by
    cases r with
    | cons r1 r2 => exact .cons (h _ List.mem_cons_self B _ o hv hq r1) (safel_all (fun d hd => h d (List.mem_cons_of_mem _ hd)) B _ o hv hq r2)
theorem safel_tup {K : PySem.W.Frag} {q : Addr} {ds : List D} (h : ∀ d ∈ ds, SafeL K q d) : SafeL K q (.tup ds) := fun B v o hv hq r => by
  cases r with
  | tup s ra =>
    refine .tup ?_ (safel_all h B _ o hv hq ra)
    rcases s with (s | ⟨o', s⟩) | s
    · exact .inl (.inl (by rw [hole_ne (fun z => by rw [z, hq] at s; cases s)]; exact s))
    · exact .inl (.inr ⟨o', by rw [hole_ne (fun z => by rw [z, hq] at s; cases s)]; exact s⟩)
    · exact .inr s
theorem safel_ptup {K : PySem.W.Frag} {q : Addr} {ds : List D} (h : ∀ d ∈ ds, SafeL K q d) : SafeL K q (.ptup ds) := fun B v o hv hq r => by
  cases r with
  | ptup s ra => exact .ptup (by rw [hole_ne (fun z => by rw [z, hq] at s; cases s)]; exact s) (safel_all h B _ o hv hq ra)
theorem rk_safe {K : PySem.W.Frag} {q : Addr} {B : Hp} {o : Obj} {hw : List (List L2.Key × V)} (hq : B q = some (.frz o (.dT hw))) : ∀ {hv : List (List L2.Key × V)} {kvs : List (List Int × D)}, (∀ p ∈ kvs, SafeL K q p.2) → RK K B hv kvs → RK K (hole B q) hv kvs
  | _, _, _, .nil => .nil
  | _, _, h, .cons r t => .cons (h _ List.mem_cons_self B _ o hw hq r) (rk_safe hq (fun p hp => h p (List.mem_cons_of_mem _ hp)) t)
/-- what stands in the other slots when the dict is locked no more -/
inductive KpL (K : PySem.W.Frag) (q : Addr) : Sl → Sl → Prop
  | no {s : Sl} : KpL K q s .no
  | v {d : D} : SafeL K q d → KpL K q (.v d) (.v d)
  | own {ds : List D} : (∀ d ∈ ds, SafeL K q d) → KpL K q (.own ds) (.own ds)
  | dic {kws : List (List Int × D)} : (∀ p ∈ kws, SafeL K q p.2) → KpL K q (.dic kws) (.dic kws)
theorem SD.unlockD {K : PySem.W.Frag} {B H : Hp} {σ : L2.St} {q : Addr} {hv : List (List L2.Key × V)} {o : Obj} {ρ' : Rho} (S : SD K T B0 H0 B H σ ρ) (hr : ρ[i]? = some (.v (.dcl q o kvs))) (h0 : H0 q = none) (b0 : B0 q = none) (hb : B q = some (.frz o (.dT hv))) (sk : ∀ p ∈ kvs, SafeL K q p.2) (hl : ρ'.length = ρ.length) (hi : ρ'[i]? = some (.dic kvs))
    (hk : ∀ (j : Nat) (s' : Sl), j ≠ i → ρ'[j]? = some s' → ∃ s, ρ[j]? = some s ∧ KpL K q s s') : SD K T B0 H0 (hole B q) (upd H q (.dT hv)) σ ρ' := by
  have hH : H q = some (.frz o (.dT hv)) := S.bh _ _ hb
  have up : ∀ {a : Addr} {u : HO}, a ≠ q → H a = some u → upd H q (.dT hv) a = some u := fun h e => by rw [upd_ne h]; exact e
  obtain ⟨v0, hs0, r0⟩ := S.val i _ hr
  have me : σ[i]? = some (some (V.ref q)) ∧ RK K B hv kvs := by
    cases r0 with
    | dcl hp rk =>
      rw [hb] at hp
      cases hp
      exact ⟨hs0, rk⟩
  refine ⟨⟨fun a u e => up (ne_of_none e h0) (S.fw.ex _ _ e), fun a u e => ?_, fun a u e => ?_, fun a h1 h2 => ?_⟩, fun t ht => up (fun z => ?_) (S.am t ht), fun j d e => ?_, fun j ds e => ?_, fun j l p ds es e1 e2 => ?_, by rw [hl, S.len], ⟨fun j z e => ?_, fun j l p z1 z2 e1 e2 e3 e4 => ?_⟩⟩
  · rw [hole_ne (ne_of_none e b0)]
    exact S.fw.eb _ _ e
  · obtain ⟨n, e'⟩ := hole_of e
    exact up n (S.fw.e2 _ _ e')
  · by_cases e : a = q
    · exact .inl (by rw [e, hole_at])
    · rw [hole_ne e]
      exact S.fw.fr a h1 h2
  · have y := S.am t ht
    rw [z, hH] at y
    have y' : HO.frz o (.dT hv) = HO.ext _ := Option.some.inj y
    cases y'
  · have nj : j ≠ i := fun z => by rw [z, hi] at e; cases e
    obtain ⟨s, es, k⟩ := hk j _ nj e
    cases k with
    | v hd =>
      obtain ⟨v, e1, r⟩ := S.val j d es
      exact ⟨v, e1, hd B v o hv hb r⟩
  · have nj : j ≠ i := fun z => by rw [z, hi] at e; cases e
    obtain ⟨s, e0, k⟩ := hk j _ nj e
    cases k with
    | own hd =>
      obtain ⟨p, vs, e1, hp, h1, h2, ra⟩ := S.own j _ e0
      have n : p ≠ q := fun z => by rw [z, hb] at h2; cases h2
      exact ⟨p, vs, e1, up n hp, h1, by rw [hole_ne n]; exact h2, safel_all hd B vs o hv hb ra⟩
  · have n1 : j ≠ i := fun z => by rw [z, hi] at e1; cases e1
    have n2 : l ≠ i := fun z => by rw [z, hi] at e2; cases e2
    obtain ⟨s1, g1, k1⟩ := hk j _ n1 e1
    obtain ⟨s2, g2, k2⟩ := hk l _ n2 e2
    cases k1 with
    | own _ =>
      cases k2 with
      | own _ => exact S.sep j l p _ _ g1 g2
  · by_cases nj : j = i
    · subst nj
      rw [hi] at e
      cases e
      exact ⟨q, hv, me.1, upd_same, h0, hole_at, rk_safe hb sk me.2⟩
    · obtain ⟨s, e0, k⟩ := hk j _ nj e
      cases k with
      | dic hd =>
        obtain ⟨p, hw, e1, hp, h1, h2, rk⟩ := S.dic.at' j _ e0
        have n : p ≠ q := fun z => by rw [z, hb] at h2; cases h2
        exact ⟨p, hw, e1, up n hp, h1, by rw [hole_ne n]; exact h2, rk_safe hb hd rk⟩
  · have apart : ∀ {m : Nat} {z : List (List Int × D)}, m ≠ i → ρ'[m]? = some (Sl.dic z) → σ[m]? ≠ some (some (V.ref q)) := fun {m z} nm em es => by
      obtain ⟨s, e0, k⟩ := hk m _ nm em
      cases k with
      | dic hd =>
        obtain ⟨p', hw, g1, hp, h1, h2, rk⟩ := S.dic.at' m _ e0
        rw [es] at g1
        cases g1
        rw [hb] at h2
        cases h2
    by_cases nj : j = i
    · subst nj
      rw [me.1] at e3
      cases e3
      by_cases nl : l = j
      · exact nl.symm
      · exact absurd e4 (apart nl e2)
    · by_cases nl : l = i
      · subst nl
        rw [me.1] at e4
        cases e4
        exact absurd e3 (apart nj e1)
      · obtain ⟨s1, g1, k1⟩ := hk j _ nj e1
        obtain ⟨s2, g2, k2⟩ := hk l _ nl e2
        cases k1 with
        | dic _ =>
          cases k2 with
          | dic _ => exact S.dic.sep j l p _ _ g1 g2 e3 e4
/-- the keys of a locked dict, walked -/
theorem pib_keys {tg : Expr} {q : Addr} {o : Obj} (he : PD X T ρ e (.v (.dcl q o kvs))) : PIb X T ρ tg e (kvs.map fun p => tP p.1) :=
  ⟨fun pins s σ H R' J ⟨B0, H0, B, S, k⟩ => (pi_keys (tg := tg) he).run pins s σ H R' J ⟨B0, H0, B, S, fun v B1 H1 f1 r1 => by
    cases r1 with
    | @dcl _ _ hv _ hp rk =>
      have hl := rk_len rk
      refine ⟨q, o, rfl, .inr ⟨hv, f1.e2 _ _ hp, k _ B1 H1 f1 ⟨fun i B' H' e1 _ e2 hi => ⟨e2 _ _ (e1 _ _ hp), by rw [List.length_map] at hi; rw [hl]; exact hi⟩, fun i B' H' x H'' e1 _ e2 hi y => ?_, fun B' H' e1 _ e2 => ⟨e2 _ _ (e1 _ _ hp), by rw [List.length_map, hl]; exact Nat.le_refl _⟩⟩⟩⟩
      obtain ⟨rfl, kk, v, b, h1, rfl, hb⟩ := y
      have hks := rk_keys rk
      have h2 : (hv.map (·.1))[i]? = some kk := by rw [List.getElem?_map, h1]; rfl
      rw [hks, List.getElem?_map] at h2
      obtain ⟨ky, hky, eky⟩ := Option.map_eq_some_iff.mp h2
      subst eky
      have ik : Paired (fun (p : List L2.Key × V) b => H'' b = some (.tup (p.1.map kV))) [(inK ky, v)] [b] := .cons hb .nil
      have f0 := Fwd.keys e2 ik
      rw [List.getElem?_map] at hky
      obtain ⟨pr, hpr, epr⟩ := Option.map_eq_some_iff.mp hky
      refine ⟨tP ky, joinK B' H'' [b], ?_, f0, ?_⟩
      · rw [List.getElem?_map, hpr, ← epr]
        rfl
      · refine .ptup (xs := ky.map V.int) ?_ (ra_of_ints ky)
        unfold joinK
        rw [if_pos List.mem_cons_self, hb, inK_kV]⟩⟩
theorem ps_anyA {α : Type} {N : α → Prop} {f : α → TS} {st : Stmt} (h : ∀ a, N a → PS X st (f a)) : PS X st (fun Z σ H => ∃ a, N a ∧ f a Z σ H) := ⟨fun pins s σ H Z I ⟨a, n, q⟩ => (h a n).run pins s σ H Z I q⟩
/-- a statement that runs while the dict at i is locked -/
theorem px_locked {st : Stmt} (hr : ρ[i]? = some (.dic kvs)) (h : ∀ q o, PX X T B0 H0 (ρ.set i (.v (.dcl q o kvs))) st { nx := fun z => z[i]? = some (.v (.dcl q o kvs)) ∧ (∀ p ∈ kvs, SafeL X.K q p.2) ∧ ∃ ρ', ρ'.length = z.length ∧ ρ'[i]? = some (.dic kvs) ∧ (∀ (j : Nat) (s' : Sl), j ≠ i → ρ'[j]? = some s' → ∃ s, z[j]? = some s ∧ KpL X.K q s s') ∧ P.nx ρ', rt := fun _ => False }) : PX X T B0 H0 ρ st P :=
  PS.imp (ps_lock (ps_anyA (N := fun _ : Addr × Obj => True) (f := fun z => tS X.K T B0 H0 (ρ.set i (.v (.dcl z.1 z.2 kvs))) _) fun z _ => h z.1 z.2)) fun Z σ H ⟨B, S, n, _⟩ => by
    obtain ⟨q, hv, e1, hq, h0, hb, rk⟩ := S.dic.at' i kvs hr
    refine ⟨q, .dT hv, hq, trivial, fun o => ⟨(q, o), trivial, ?_⟩⟩
    obtain ⟨sb, S1⟩ := S.lockD (o := o) hr e1 hq h0 hb rk
    refine ⟨_, S1, ?_, fun _ _ _ _ z => z.elim, fun _ _ _ _ z => z.elim, fun _ _ _ _ z => z.elim⟩
    rintro ρ2 σ2 B2 H2 ⟨hz, sk, ρ3, hl, hi, hk, hp⟩ eb S2
    have b2 : B2 q = some (.frz o (.dT hv)) := eb _ _ upd_same
    refine ⟨S2.bh _ _ b2, n ρ3 σ2 (hole B2 q) _ hp (fun a u e => ?_) (S2.unlockD hz h0 (S.fw.eb.free hb) b2 sk hl hi hk)⟩
    have na : a ≠ q := ne_of_none e hb
    rw [hole_ne na]
    exact eb _ _ (by rw [upd_ne na]; exact e)
end
end DX
/-! # Tuples that stand plainly, as they are made -/
namespace DX
open PySem PySem.Spec PyProof.Rows L2
section
variable {X : Cx} {T : List Addr} {B0 H0 : Hp} {ρ : Rho} {e : Expr} {es : List Expr} {pos : Pos} {d da : D}
theorem cl_tupleP {ds : List D} (h : da = .lst ds) : CalD X (.type "tuple") [da] (.v (.ptup ds)) := ⟨_, call_tuple_of, fun B H vs Q s ra q => by
  subst h
  cases ra with
  | cons r1 ra =>
    cases ra
    cases r1 with
    | lst hs rb => exact ⟨_, _, rfl, .inl ⟨.inl (rd_mono s hs), fun p hp => q _ _ _ (Fwd.new s hp) (.ptup upd_same (rb.mono (Same.new (s.free hp))))⟩⟩⟩
theorem pd_tupP {ds : List D} {m : Nat} (h : PAs X T ρ es ds) (hl : ds.length ≤ 100000 := by first | decide | simp) : PD X T ρ (.Tuple es m pos) (.v (.ptup ds)) :=
  PE.imp (pe_tup h) fun σ H Q ⟨B0, H0, B, S, q⟩ => ⟨B0, H0, B, S, fun vs B1 H1 f1 q1 => ⟨by rw [q1.length]; exact line_of hl, fun p hp =>
    q _ _ _ (f1.trans (Fwd.new f1.e2 hp)) (.ptup upd_same (q1.mono (Same.new (f1.e2.free hp))))⟩⟩
theorem bd_catP1 {xs ys : List D} (hy : ys ≠ []) (h : xs.length + ys.length ≤ 100000) : BinD X .Add (.tup xs) (.ptup ys) (.v (.ptup (xs ++ ys))) := ⟨_, op_catA, fun B H v u Q s r1 r2 q => by
  cases r1 with
  | tup h1 a1 =>
    cases r2 with
    | ptup h2 a2 =>
      refine ⟨_, _, _, _, rfl, rfl, sqt_mono s h1, .inl (.inl (s _ _ h2)), line_of (by rw [a1.length, a2.length]; exact h), fun e => ?_, fun _ e => ?_, fun _ _ p hp => ?_⟩
      · subst e
        cases a1
        exact q _ _ _ (Fwd.refl s) (.ptup h2 a2)
      · subst e
        cases a2
        exact absurd rfl hy
      · exact q _ _ _ (Fwd.new s hp) (.ptup upd_same ((a1.app a2).mono (Same.new (s.free hp))))⟩
theorem bd_catP2 {xs ys : List D} (hx : xs ≠ []) (h : xs.length + ys.length ≤ 100000) : BinD X .Add (.ptup xs) (.tup ys) (.v (.ptup (xs ++ ys))) := ⟨_, op_catA, fun B H v u Q s r1 r2 q => by
  cases r1 with
  | ptup h1 a1 =>
    cases r2 with
    | tup h2 a2 =>
      refine ⟨_, _, _, _, rfl, rfl, .inl (.inl (s _ _ h1)), sqt_mono s h2, line_of (by rw [a1.length, a2.length]; exact h), fun e => ?_, fun _ e => ?_, fun _ _ p hp => ?_⟩
      · subst e
        cases a1
        exact absurd rfl hx
      · subst e
        cases a2
        rw [List.append_nil] at q
        exact q _ _ _ (Fwd.refl s) (.ptup h1 a1)
      · exact q _ _ _ (Fwd.new s hp) (.ptup upd_same ((a1.app a2).mono (Same.new (s.free hp))))⟩
theorem bd_repP {xs : List D} {k : Int} (hne : xs ≠ []) (h0 : -(2 ^ 62) ≤ k) (h1 : k ≤ 1000) (hz : xs.length ≤ 1000) : BinD X .Mult (.ptup xs) (.int k) (.v (.ptup (List.replicate k.toNat xs).flatten)) := ⟨_, op_repA, fun B H v u Q s r1 r2 q => by
  cases r2
  cases r1 with
  | ptup hs ra =>
    refine ⟨_, k, _, rfl, rfl, .inl (.inl (s _ _ hs)), fun z => ?_, h0, h1, by rw [ra.length]; exact hz, fun e => ?_, fun e t ht => ?_⟩
    · subst z
      cases ra
      exact hne rfl
    · subst e
      have er : (List.replicate (1 : Int).toNat xs).flatten = xs := by simp
      rw [er] at q
      exact q _ _ _ (Fwd.refl s) (.ptup hs ra)
    · exact q _ _ _ (Fwd.new s ht) (.ptup upd_same ((ra.mono (Same.new (s.free ht))).repl _))⟩
end
end DX
/-! # The towers: how far to all discs on one peg; plain Lean. Lists here run from the greatest disc to the least -/
namespace Tow
/-- the peg at which the lesser discs are due, where a disc on g is due on t -/
def nxt (g t : Int) : Int := if g = t then t else 3 - g - t
def tw : List Int → Int → Int
  | [], _ => 0
  | g :: rs, t => (if g = t then 0 else 2 ^ rs.length) + tw rs (nxt g t)
def tgt : List Int → Int → Int
  | [], t => t
  | g :: rs, t => tgt rs (nxt g t)
def cst : List Int → Int → Nat → Int
  | [], _, _ => 0
  | g :: rs, t, m => (if g = t then 0 else 2 ^ (rs.length + m)) + cst rs (nxt g t) m
/-- the first move of the shortest way there -/
def nm : List Int → Int → Option (Nat × Int)
  | [], _ => none
  | g :: rs, t => match nm rs (nxt g t) with
    | some m => some m
    | none => if g = t then none else some (rs.length, t)
abbrev Pg (x : Int) : Prop := 0 ≤ x ∧ x < 3
def Pgs (rs : List Int) : Prop := ∀ x ∈ rs, Pg x
theorem nxt_pg {g t : Int} (hg : Pg g) (ht : Pg t) : Pg (nxt g t) := by
  unfold nxt
  split
  · exact ht
  · constructor <;> omega
theorem two_pos (n : Nat) : (0 : Int) < 2 ^ n := Int.pow_pos (by decide)
theorem two_succ (n : Nat) : (2 : Int) ^ (n + 1) = 2 * 2 ^ n := by rw [Int.pow_succ, Int.mul_comm]
theorem tw_bd : ∀ (rs : List Int) (t : Int), 0 ≤ tw rs t ∧ tw rs t < 2 ^ rs.length
  | [], _ => ⟨Int.le_refl _, Int.zero_lt_one⟩
  | g :: rs, t => by
    have h := tw_bd rs (nxt g t)
    have p := two_pos rs.length
    rw [List.length_cons, two_succ]
    show 0 ≤ (if g = t then 0 else 2 ^ rs.length) + tw rs (nxt g t) ∧ (if g = t then 0 else 2 ^ rs.length) + tw rs (nxt g t) < _
    split <;> omega
theorem tw_zero : ∀ {rs : List Int} {t : Int}, tw rs t = 0 ↔ ∀ g ∈ rs, g = t
  | [], t => ⟨fun _ g h => absurd h (by simp), fun _ => rfl⟩
  | g :: rs, t => by
    have h := tw_bd rs (nxt g t)
    have p := two_pos rs.length
    show (if g = t then 0 else 2 ^ rs.length) + tw rs (nxt g t) = 0 ↔ _
    by_cases e : g = t
    · subst e
      have en : nxt g g = g := if_pos rfl
      rw [if_pos rfl, en, Int.zero_add, tw_zero]
      constructor
      · intro q x hx
        rcases List.mem_cons.mp hx with z | z
        · exact z
        · exact q x z
      · exact fun q x hx => q x (List.mem_cons_of_mem _ hx)
    · rw [if_neg e]
      constructor
      · intro q
        omega
      · exact fun q => absurd (q g List.mem_cons_self) e
/-- to all three pegs together -/
theorem tw_sum : ∀ {rs : List Int}, Pgs rs → tw rs 0 + tw rs 1 + tw rs 2 = 2 * (2 ^ rs.length - 1)
  | [], _ => rfl
  | g :: rs, h => by
    have hg := h g List.mem_cons_self
    have ih := tw_sum (rs := rs) fun x hx => h x (List.mem_cons_of_mem _ hx)
    have c : g = 0 ∨ g = 1 ∨ g = 2 := by omega
    rw [List.length_cons, two_succ]
    rcases c with rfl | rfl | rfl
    · show (0 + tw rs 0) + (2 ^ rs.length + tw rs 2) + (2 ^ rs.length + tw rs 1) = _
      omega
    · show (2 ^ rs.length + tw rs 2) + (0 + tw rs 1) + (2 ^ rs.length + tw rs 0) = _
      omega
    · show (2 ^ rs.length + tw rs 1) + (2 ^ rs.length + tw rs 0) + (0 + tw rs 2) = _
      omega
theorem tw_app : ∀ (A R : List Int) (t : Int), tw (A ++ R) t = cst A t R.length + tw R (tgt A t)
  | [], R, t => by
    show tw R t = 0 + tw R t
    omega
  | g :: A, R, t => by
    show (if g = t then 0 else 2 ^ (A ++ R).length) + tw (A ++ R) (nxt g t) = ((if g = t then 0 else 2 ^ (A.length + R.length)) + cst A (nxt g t) R.length) + tw R (tgt A (nxt g t))
    rw [tw_app A R, List.length_append]
    omega
theorem rep_other : ∀ (i : Nat) {q t : Int}, Pg q → Pg t → q ≠ t → tw (List.replicate i q) t = 2 ^ i - 1
  | 0, _, _, _, _, _ => rfl
  | i + 1, q, t, hq, ht, h => by
    have en : nxt q t = 3 - q - t := if_neg h
    have ih := rep_other i (q := q) (t := 3 - q - t) hq ⟨by omega, by omega⟩ (by omega)
    rw [List.replicate_succ]
    show (if q = t then 0 else 2 ^ (List.replicate i q).length) + tw (List.replicate i q) (nxt q t) = _
    rw [if_neg h, en, ih, List.length_replicate, two_succ]
    omega
theorem rep_same (i : Nat) (q : Int) : tw (List.replicate i q) q = 0 := tw_zero.mpr fun g hg => (List.mem_replicate.mp hg).2
/-- a disc goes from g to p, all lesser ones being on the third peg q: by how much it becomes farther -/
theorem move_step {A : List Int} {g p q t : Int} {i : Nat} (hg : Pg g) (hp : Pg p) (hq : Pg q) (gp : g ≠ p) (gq : g ≠ q) (pq : p ≠ q) (ht : Pg (tgt A t)) :
    tw (A ++ p :: List.replicate i q) t - tw (A ++ g :: List.replicate i q) t = if tgt A t = p then -1 else if tgt A t = g then 1 else 0 := by
  have key : ∀ u : Int, Pg u → tw (p :: List.replicate i q) u - tw (g :: List.replicate i q) u = if u = p then -1 else if u = g then 1 else 0 := fun u hu => by
    have eq3 : 3 - g - p = q := by omega
    have e1 : tw (p :: List.replicate i q) u = (if p = u then 0 else 2 ^ i) + tw (List.replicate i q) (nxt p u) := by
      show (if p = u then 0 else 2 ^ (List.replicate i q).length) + _ = _
      rw [List.length_replicate]
    have e2 : tw (g :: List.replicate i q) u = (if g = u then 0 else 2 ^ i) + tw (List.replicate i q) (nxt g u) := by
      show (if g = u then 0 else 2 ^ (List.replicate i q).length) + _ = _
      rw [List.length_replicate]
    have c : u = p ∨ u = g ∨ u = q := by omega
    rcases c with rfl | rfl | rfl
    · have n1 : nxt u u = u := if_pos rfl
      have n2 : nxt g u = q := by
        unfold nxt
        rw [if_neg gp]
        omega
      rw [e1, e2, n1, n2, rep_same, rep_other i hq hu (Ne.symm pq), if_pos rfl, if_neg gp, if_pos rfl]
      omega
    · have n1 : nxt u u = u := if_pos rfl
      have n2 : nxt p u = q := by
        unfold nxt
        rw [if_neg (Ne.symm gp)]
        omega
      rw [e1, e2, n1, n2, rep_same, rep_other i hq hu (Ne.symm gq), if_pos rfl, if_neg (Ne.symm gp), if_neg gp, if_pos rfl]
      omega
    · have n1 : nxt p u = g := by
        unfold nxt
        rw [if_neg pq]
        omega
      have n2 : nxt g u = p := by
        unfold nxt
        rw [if_neg gq]
        omega
      rw [e1, e2, n1, n2, rep_other i hq hg (Ne.symm gq), rep_other i hq hp (Ne.symm pq), if_neg pq, if_neg gq, if_neg (Ne.symm pq), if_neg (Ne.symm gq)]
      omega
  have l : (p :: List.replicate i q).length = (g :: List.replicate i q).length := rfl
  rw [tw_app, tw_app, l]
  have k := key (tgt A t) ht
  omega
theorem nm_none : ∀ {rs : List Int} {t : Int}, nm rs t = none ↔ ∀ g ∈ rs, g = t
  | [], t => ⟨fun _ g h => absurd h (by simp), fun _ => rfl⟩
  | g :: rs, t => by
    have ih := nm_none (rs := rs) (t := nxt g t)
    show (match nm rs (nxt g t) with | some m => some m | none => if g = t then none else some (rs.length, t)) = none ↔ _
    cases e : nm rs (nxt g t) with
    | some m =>
      rw [e] at ih
      constructor
      · intro z
        cases z
      · intro q
        have eg : g = t := q g List.mem_cons_self
        have en : nxt g t = t := by rw [eg]; exact if_pos rfl
        rw [en] at ih
        exact absurd (ih.mpr fun x hx => q x (List.mem_cons_of_mem _ hx)) (by intro z; cases z)
    | none =>
      rw [e] at ih
      have all := ih.mp rfl
      by_cases eg : g = t
      · have en : nxt g t = t := by rw [eg]; exact if_pos rfl
        show (if g = t then none else some (rs.length, t)) = none ↔ _
        rw [if_pos eg]
        rw [en] at all
        refine ⟨fun _ x hx => ?_, fun _ => rfl⟩
        rcases List.mem_cons.mp hx with z | z
        · rw [z]
          exact eg
        · exact all x z
      · show (if g = t then none else some (rs.length, t)) = none ↔ _
        rw [if_neg eg]
        exact ⟨fun z => (nomatch z), fun q => absurd (q g List.mem_cons_self) eg⟩
theorem nm_lt : ∀ {rs : List Int} {t : Int} {m : Nat × Int}, nm rs t = some m → m.1 < rs.length
  | [], _, _, h => by cases h
  | g :: rs, t, m, h => by
    have h' : (match nm rs (nxt g t) with | some m => some m | none => if g = t then none else some (rs.length, t)) = some m := h
    cases e : nm rs (nxt g t) with
    | some m2 =>
      rw [e] at h'
      have em : m2 = m := Option.some.inj h'
      have z := nm_lt e
      rw [em] at z
      exact Nat.lt_succ_of_lt z
    | none =>
      rw [e] at h'
      have h'' : (if g = t then none else some (rs.length, t)) = some m := h'
      by_cases eg : g = t
      · rw [if_pos eg] at h''
        cases h''
      · rw [if_neg eg] at h''
        have em := Option.some.inj h''
        rw [← em]
        exact Nat.lt_succ_self _
theorem nm_app_some : ∀ (A : List Int) {R : List Int} {t : Int} {m : Nat × Int}, nm R (tgt A t) = some m → nm (A ++ R) t = some m
  | [], _, _, _, h => h
  | g :: A, R, t, m, h => by
    have z := nm_app_some A (R := R) (t := nxt g t) h
    show (match nm (A ++ R) (nxt g t) with | some m => some m | none => if g = t then none else some ((A ++ R).length, t)) = some m
    rw [z]
theorem nm_app_none : ∀ (A : List Int) {R : List Int} {t : Int} {m : Nat × Int}, nm R (tgt A t) = none → nm (A ++ R) t = some m → R.length ≤ m.1
  | [], R, t, m, h, h2 => by
    have h2' : nm R t = some m := h2
    have h' : nm R t = none := h
    rw [h'] at h2'
    cases h2'
  | g :: A, R, t, m, h, h2 => by
    have h2' : (match nm (A ++ R) (nxt g t) with | some m => some m | none => if g = t then none else some ((A ++ R).length, t)) = some m := h2
    cases e : nm (A ++ R) (nxt g t) with
    | some m2 =>
      rw [e] at h2'
      have em : m2 = m := Option.some.inj h2'
      rw [← em]
      exact nm_app_none A h e
    | none =>
      rw [e] at h2'
      have h3 : (if g = t then none else some ((A ++ R).length, t)) = some m := h2'
      by_cases eg : g = t
      · rw [if_pos eg] at h3
        cases h3
      · rw [if_neg eg] at h3
        have em := Option.some.inj h3
        rw [← em, List.length_append]
        exact Nat.le_add_left _ _
theorem nm_rep_other {i : Nat} {q t : Int} (h : q ≠ t) (hi : 0 < i) : ∃ m, nm (List.replicate i q) t = some m := by
  cases e : nm (List.replicate i q) t with
  | some m => exact ⟨m, rfl⟩
  | none =>
    have z := nm_none.mp e q (List.mem_replicate.mpr ⟨by omega, rfl⟩)
    exact absurd z h
/-- the one move that makes it nearer is nm's -/
theorem nm_iff {A : List Int} {g p q t : Int} {i : Nat} (hg : Pg g) (hp : Pg p) (hq : Pg q) (gp : g ≠ p) (gq : g ≠ q) (pq : p ≠ q) (ht : Pg (tgt A t)) :
    nm (A ++ g :: List.replicate i q) t = some (i, p) ↔ tgt A t = p := by
  have cons_ : ∀ u, nm (g :: List.replicate i q) u = (match nm (List.replicate i q) (nxt g u) with | some m => some m | none => if g = u then none else some (i, u)) := fun u => by
    show (match nm (List.replicate i q) (nxt g u) with | some m => some m | none => if g = u then none else some ((List.replicate i q).length, u)) = _
    rw [List.length_replicate]
  constructor
  · intro h
    have c : tgt A t = p ∨ tgt A t = g ∨ tgt A t = q := by omega
    rcases c with e | e | e
    · exact e
    · exfalso
      have n1 : nxt g g = g := if_pos rfl
      cases e2 : nm (List.replicate i q) g with
      | some m =>
        have z : nm (g :: List.replicate i q) (tgt A t) = some m := by
          rw [e, cons_, n1, e2]
        have y := nm_app_some A z
        rw [h] at y
        have l := nm_lt e2
        rw [List.length_replicate, ← Option.some.inj y] at l
        exact absurd l (Nat.lt_irrefl _)
      | none =>
        have z : nm (g :: List.replicate i q) (tgt A t) = none := by
          rw [e, cons_, n1, e2]
          exact if_pos rfl
        have y := nm_app_none A z h
        rw [List.length_cons, List.length_replicate] at y
        have y' : i + 1 ≤ i := y
        omega
    · exfalso
      have n1 : nxt g q = p := by
        unfold nxt
        rw [if_neg gq]
        omega
      cases e2 : nm (List.replicate i q) p with
      | some m =>
        have z : nm (g :: List.replicate i q) (tgt A t) = some m := by
          rw [e, cons_, n1, e2]
        have y := nm_app_some A z
        rw [h] at y
        have l := nm_lt e2
        rw [List.length_replicate, ← Option.some.inj y] at l
        exact absurd l (Nat.lt_irrefl _)
      | none =>
        have z : nm (g :: List.replicate i q) (tgt A t) = some (i, q) := by
          rw [e, cons_, n1, e2]
          exact if_neg gq
        have y := nm_app_some A z
        rw [h] at y
        exact pq (congrArg Prod.snd (Option.some.inj y))
  · intro e
    refine nm_app_some A ?_
    have n1 : nxt g p = q := by
      unfold nxt
      rw [if_neg gp]
      omega
    rw [e, cons_, n1, nm_none.mpr fun x hx => (List.mem_replicate.mp hx).2]
    exact if_neg gp
/-- nm's move may be -/
theorem nm_form : ∀ {rs : List Int} {t : Int} {m : Nat × Int}, nm rs t = some m → ∃ (A : List Int) (g : Int), rs = A ++ g :: List.replicate m.1 (3 - g - m.2) ∧ g ≠ m.2 ∧ tgt A t = m.2
  | [], _, _, h => by cases h
  | g :: rs, t, m, h => by
    have h' : (match nm rs (nxt g t) with | some m => some m | none => if g = t then none else some (rs.length, t)) = some m := h
    cases e : nm rs (nxt g t) with
    | some m2 =>
      rw [e] at h'
      have em : m2 = m := Option.some.inj h'
      rw [em] at e
      obtain ⟨A, g', h1, h2, h3⟩ := nm_form e
      exact ⟨g :: A, g', by rw [List.cons_append, ← h1], h2, h3⟩
    | none =>
      rw [e] at h'
      have h3 : (if g = t then none else some (rs.length, t)) = some m := h'
      by_cases eg : g = t
      · rw [if_pos eg] at h3
        cases h3
      · rw [if_neg eg] at h3
        have em := Option.some.inj h3
        rw [← em]
        have all := nm_none.mp e
        have en : nxt g t = 3 - g - t := if_neg eg
        rw [en] at all
        refine ⟨[], g, ?_, eg, rfl⟩
        show g :: rs = g :: List.replicate rs.length (3 - g - t)
        rw [← List.eq_replicate_iff.mpr ⟨rfl, all⟩]
end Tow
/-! # The towers: how far two settings are; plain Lean. Lists run from the greatest disc to the least -/
namespace Tow
def once (g h : Int) (as bs : List Int) : Int := tw as (3 - g - h) + 1 + tw bs (3 - g - h)
def twice (g h : Int) (as bs : List Int) : Int := tw as h + 1 + (2 ^ as.length - 1) + 1 + tw bs g
def fr : List Int → List Int → Int
  | g :: as, h :: bs => if g = h then fr as bs else min (once g h as bs) (twice g h as bs)
  | _, _ => 0
/-- the first move of the told way -/
def nf : List Int → List Int → Option (Nat × Int)
  | g :: as, h :: bs => if g = h then nf as bs else if once g h as bs ≤ twice g h as bs then
      (match nm as (3 - g - h) with
        | some m => some m
        | none => some (as.length, h))
    else (match nm as h with
      | some m => some m
      | none => some (as.length, 3 - g - h))
  | _, _ => none
/-- a setting that a move leads to -/
inductive Mv : List Int → Nat × Int → List Int → Prop
  | mk (A : List Int) (g p q : Int) (i : Nat) (hg : Pg g) (hp : Pg p) (hq : Pg q) (gp : g ≠ p) (gq : g ≠ q) (pq : p ≠ q) : Mv (A ++ g :: List.replicate i q) (i, p) (A ++ p :: List.replicate i q)
theorem Mv.len {a b : List Int} {m : Nat × Int} (h : Mv a m b) : b.length = a.length := by
  cases h
  simp
/-- a move of a lesser disc, or of the greatest one -/
theorem Mv.cons_inv {g : Int} {as b : List Int} {m : Nat × Int} (h : Mv (g :: as) m b) : (∃ as', b = g :: as' ∧ Mv as m as' ∧ m.1 < as.length) ∨ ∃ p q, m = (as.length, p) ∧ as = List.replicate as.length q ∧ b = p :: as ∧ Pg g ∧ Pg p ∧ Pg q ∧ g ≠ p ∧ g ≠ q ∧ p ≠ q := by
  generalize ha : g :: as = a at h
  cases h with
  | mk A g' p q i hg hp hq gp gq pq =>
    cases A with
    | nil =>
      have e1 : g = g' := (List.cons.inj ha).1
      have e2 : as = List.replicate i q := (List.cons.inj ha).2
      subst e1
      have el : as.length = i := by rw [e2, List.length_replicate]
      exact .inr ⟨p, q, by rw [el], by rw [el]; exact e2, by rw [e2]; rfl, hg, hp, hq, gp, gq, pq⟩
    | cons x A =>
      have e1 : g = x := (List.cons.inj ha).1
      have e2 : as = A ++ g' :: List.replicate i q := (List.cons.inj ha).2
      subst e1
      refine .inl ⟨A ++ p :: List.replicate i q, rfl, by rw [e2]; exact .mk A g' p q i hg hp hq gp gq pq, ?_⟩
      rw [e2, List.length_append, List.length_cons, List.length_replicate]
      show i < _
      omega
theorem Mv.cons (x : Int) {a b : List Int} {m : Nat × Int} (h : Mv a m b) : Mv (x :: a) m (x :: b) := by
  cases h with
  | mk A g p q i hg hp hq gp gq pq => exact .mk (x :: A) g p q i hg hp hq gp gq pq
theorem tgt_pg : ∀ {A : List Int} {t : Int}, Pgs A → Pg t → Pg (tgt A t)
  | [], _, _, h => h
  | g :: A, t, h, ht => tgt_pg (A := A) (fun x hx => h x (List.mem_cons_of_mem _ hx)) (nxt_pg (h g List.mem_cons_self) ht)
theorem Mv.step {a b : List Int} {m : Nat × Int} {t : Int} (h : Mv a m b) (ha : Pgs a) (ht : Pg t) : (tw b t - tw a t = -1 ∨ tw b t - tw a t = 0 ∨ tw b t - tw a t = 1) ∧ (tw b t - tw a t = -1 ↔ nm a t = some m) := by
  cases h with
  | mk A g p q i hg hp hq gp gq pq =>
    have pt : Pg (tgt A t) := tgt_pg (fun x hx => ha x (List.mem_append_left _ hx)) ht
    rw [move_step hg hp hq gp gq pq pt, nm_iff hg hp hq gp gq pq pt]
    by_cases e : tgt A t = p
    · rw [if_pos e]
      exact ⟨.inl rfl, fun _ => e, fun _ => rfl⟩
    · rw [if_neg e]
      by_cases e2 : tgt A t = g
      · rw [if_pos e2]
        exact ⟨.inr (.inr rfl), fun z => absurd z (by decide), fun z => absurd z e⟩
      · rw [if_neg e2]
        exact ⟨.inr (.inl rfl), fun z => absurd z (by decide), fun z => absurd z e⟩
/-- nm's move leads somewhere -/
theorem nm_mv {a : List Int} {t : Int} {m : Nat × Int} (ha : Pgs a) (ht : Pg t) (h : nm a t = some m) : ∃ b, Mv a m b := by
  obtain ⟨A, g, e, ne, et⟩ := nm_form h
  have hg : Pg g := ha g (by rw [e]; simp)
  have hp : Pg m.2 := by
    rw [← et]
    exact tgt_pg (fun x hx => ha x (by rw [e]; exact List.mem_append_left _ hx)) ht
  have z := Mv.mk A g m.2 (3 - g - m.2) m.1 hg hp ⟨by omega, by omega⟩ ne (by omega) (by omega)
  rw [← e] at z
  exact ⟨_, z⟩
theorem once_pos (g h : Int) (as bs : List Int) : 1 ≤ once g h as bs := by
  have h1 := (tw_bd as (3 - g - h)).1
  have h2 := (tw_bd bs (3 - g - h)).1
  unfold once
  omega
theorem twice_pos (g h : Int) (as bs : List Int) : 2 ≤ twice g h as bs := by
  have h1 := (tw_bd as h).1
  have h2 := (tw_bd bs g).1
  have h3 := two_pos as.length
  unfold twice
  omega
theorem fr_zero : ∀ {a b : List Int}, a.length = b.length → (fr a b = 0 ↔ a = b)
  | [], [], _ => ⟨fun _ => rfl, fun _ => rfl⟩
  | [], _ :: _, h => by cases h
  | _ :: _, [], h => by cases h
  | g :: as, h :: bs, hl => by
    have hl' : as.length = bs.length := Nat.succ.inj hl
    show (if g = h then fr as bs else min (once g h as bs) (twice g h as bs)) = 0 ↔ _
    by_cases e : g = h
    · rw [if_pos e, fr_zero hl', e]
      exact ⟨fun z => by rw [z], fun z => (List.cons.inj z).2⟩
    · rw [if_neg e]
      have h1 := once_pos g h as bs
      have h2 := twice_pos g h as bs
      refine ⟨fun z => ?_, fun z => absurd (List.cons.inj z).1 e⟩
      omega
theorem fr_nonneg : ∀ (a b : List Int), 0 ≤ fr a b
  | [], _ => by unfold fr; exact Int.le_refl _
  | _ :: _, [] => by unfold fr; exact Int.le_refl _
  | g :: as, h :: bs => by
    show 0 ≤ (if g = h then fr as bs else min (once g h as bs) (twice g h as bs))
    by_cases e : g = h
    · rw [if_pos e]
      exact fr_nonneg as bs
    · rw [if_neg e]
      have h1 := once_pos g h as bs
      have h2 := twice_pos g h as bs
      omega
theorem once_sym (g h : Int) (as bs : List Int) : once g h as bs = once h g bs as := by
  have e : 3 - g - h = 3 - h - g := by omega
  unfold once
  rw [e]
  omega
theorem twice_sym {g h : Int} {as bs : List Int} (l : as.length = bs.length) : twice g h as bs = twice h g bs as := by
  unfold twice
  rw [l]
  omega
theorem fr_sym : ∀ {a b : List Int}, a.length = b.length → fr a b = fr b a
  | [], [], _ => rfl
  | [], _ :: _, h => by cases h
  | _ :: _, [], h => by cases h
  | g :: as, h :: bs, hl => by
    have hl' : as.length = bs.length := Nat.succ.inj hl
    show (if g = h then fr as bs else min (once g h as bs) (twice g h as bs)) = (if h = g then fr bs as else min (once h g bs as) (twice h g bs as))
    by_cases e : g = h
    · rw [if_pos e, if_pos e.symm]
      exact fr_sym hl'
    · rw [if_neg e, if_neg (Ne.symm e), once_sym, twice_sym hl']
/-- from all on one peg -/
theorem fr_perfect : ∀ {bs : List Int} {q : Int}, Pgs bs → Pg q → fr (List.replicate bs.length q) bs = tw bs q
  | [], _, _, _ => rfl
  | h :: bs, q, hb, hq => by
    have ph := hb h List.mem_cons_self
    have ih := fun (u : Int) (hu : Pg u) => fr_perfect (bs := bs) (q := u) (fun x hx => hb x (List.mem_cons_of_mem _ hx)) hu
    show (if q = h then fr (List.replicate bs.length q) bs else min (once q h (List.replicate bs.length q) bs) (twice q h (List.replicate bs.length q) bs)) = (if h = q then 0 else 2 ^ bs.length) + tw bs (nxt h q)
    by_cases e : q = h
    · have en : nxt h q = q := by rw [e]; exact if_pos rfl
      rw [if_pos e, if_pos e.symm, en, ih q hq, Int.zero_add]
    · have en : nxt h q = 3 - q - h := by
        unfold nxt
        rw [if_neg (Ne.symm e)]
        omega
      rw [if_neg e, if_neg (Ne.symm e), en]
      unfold once twice
      rw [rep_other _ hq ⟨by omega, by omega⟩ (by omega), rep_other _ hq ph e, List.length_replicate]
      have b1 := tw_bd bs (3 - q - h)
      have b2 := tw_bd bs q
      have b3 := two_pos bs.length
      omega
end Tow
/-! # The towers: which moves make two settings nearer; plain Lean -/
namespace Tow
/-- the moves that make it nearer -/
def lows : List Int → List Int → List (Nat × Int)
  | g :: as, h :: bs => if g = h then lows as bs else
      (if once g h as bs ≤ twice g h as bs then [(nm as (3 - g - h)).getD (as.length, h)] else []) ++ (if twice g h as bs ≤ once g h as bs then [(nm as h).getD (as.length, 3 - g - h)] else [])
  | _, _ => []
theorem getD_lt {as : List Int} {t : Int} {d : Nat × Int} (h : d.1 ≤ as.length) : ((nm as t).getD d).1 ≤ as.length := by
  cases e : nm as t with
  | none => exact h
  | some m => exact Nat.le_of_lt (nm_lt e)
theorem lows_lt : ∀ {a b : List Int} {m : Nat × Int}, m ∈ lows a b → m.1 < a.length
  | [], _, _, h => by
    unfold lows at h
    cases h
  | _ :: _, [], _, h => by
    unfold lows at h
    cases h
  | g :: as, h :: bs, m, hm => by
    have hm' : m ∈ (if g = h then lows as bs else (if once g h as bs ≤ twice g h as bs then [(nm as (3 - g - h)).getD (as.length, h)] else []) ++ (if twice g h as bs ≤ once g h as bs then [(nm as h).getD (as.length, 3 - g - h)] else [])) := hm
    rw [List.length_cons]
    by_cases e : g = h
    · rw [if_pos e] at hm'
      exact Nat.lt_succ_of_lt (lows_lt hm')
    · rw [if_neg e] at hm'
      rcases List.mem_append.mp hm' with z | z
      · split at z
        · rw [List.mem_singleton.mp z]
          exact Nat.lt_succ_of_le (getD_lt (Nat.le_refl _))
        · cases z
      · split at z
        · rw [List.mem_singleton.mp z]
          exact Nat.lt_succ_of_le (getD_lt (Nat.le_refl _))
        · cases z
theorem mem_lows {g h : Int} {as bs : List Int} {m : Nat × Int} (e : g ≠ h) : m ∈ lows (g :: as) (h :: bs) ↔ (once g h as bs ≤ twice g h as bs ∧ m = (nm as (3 - g - h)).getD (as.length, h)) ∨ (twice g h as bs ≤ once g h as bs ∧ m = (nm as h).getD (as.length, 3 - g - h)) := by
  have z : lows (g :: as) (h :: bs) = (if once g h as bs ≤ twice g h as bs then [(nm as (3 - g - h)).getD (as.length, h)] else []) ++ (if twice g h as bs ≤ once g h as bs then [(nm as h).getD (as.length, 3 - g - h)] else []) := if_neg e
  rw [z, List.mem_append]
  constructor
  · rintro (q | q)
    · split at q
      · rename_i c
        exact .inl ⟨c, List.mem_singleton.mp q⟩
      · cases q
    · split at q
      · rename_i c
        exact .inr ⟨c, List.mem_singleton.mp q⟩
      · cases q
  · rintro (⟨c, q⟩ | ⟨c, q⟩)
    · rw [if_pos c, q]
      exact .inl List.mem_cons_self
    · rw [if_pos c, q]
      exact .inr List.mem_cons_self
theorem getD_iff {as : List Int} {t : Int} {m d : Nat × Int} (hm : m.1 < as.length) (hd : d.1 = as.length) : m = (nm as t).getD d ↔ nm as t = some m := by
  cases e : nm as t with
  | none =>
    constructor
    · intro z
      have z' : m = d := z
      rw [z'] at hm
      omega
    · intro z
      cases z
  | some m' =>
    constructor
    · intro z
      have z' : m = m' := z
      rw [z']
    · intro z
      exact (Option.some.inj z).symm
theorem nm_rep_same (i : Nat) (q : Int) : nm (List.replicate i q) q = none := nm_none.mpr fun x hx => (List.mem_replicate.mp hx).2
theorem nm_rep_getD {i : Nat} {q t : Int} {d : Nat × Int} {p : Int} (h : q ≠ t) (hd : d.2 ≠ p) : (i, p) ≠ (nm (List.replicate i q) t).getD d := by
  cases e : nm (List.replicate i q) t with
  | none =>
    intro z
    have z' : (i, p) = d := z
    rw [← z'] at hd
    exact hd rfl
  | some m =>
    intro z
    have z' : (i, p) = m := z
    have l := nm_lt e
    rw [← z', List.length_replicate] at l
    exact Nat.lt_irrefl _ l
theorem fr_low : ∀ {a b a' : List Int} {m : Nat × Int}, Mv a m a' → Pgs a → Pgs b → a.length = b.length → (fr a' b - fr a b = -1 ∨ fr a' b - fr a b = 0 ∨ fr a' b - fr a b = 1) ∧ (fr a' b - fr a b = -1 ↔ m ∈ lows a b)
  | [], _, _, _, h, _, _, _ => by
    generalize ha : ([] : List Int) = a at h
    cases h with
    | mk A g p q i hg hp hq gp gq pq =>
      have z := congrArg List.length ha
      rw [List.length_append, List.length_cons] at z
      simp at z
  | _ :: _, [], _, _, _, _, _, hl => by cases hl
  | g :: as, h :: bs, a', m, mv, ha, hb, hl => by
    have hl' : as.length = bs.length := Nat.succ.inj hl
    have pg : Pg g := ha g List.mem_cons_self
    have ph : Pg h := hb h List.mem_cons_self
    have pas : Pgs as := fun x hx => ha x (List.mem_cons_of_mem _ hx)
    have pbs : Pgs bs := fun x hx => hb x (List.mem_cons_of_mem _ hx)
    have frc : ∀ (x : Int) (xs : List Int), fr (x :: xs) (h :: bs) = if x = h then fr xs bs else min (once x h xs bs) (twice x h xs bs) := fun _ _ => rfl
    rcases mv.cons_inv with ⟨as', rfl, mv', lt⟩ | ⟨p, q, rfl, er, rfl, _, hp, hq, gp, gq, pq⟩
    · rw [frc, frc]
      by_cases e : g = h
      · have z : lows (g :: as) (h :: bs) = lows as bs := if_pos e
        rw [if_pos e, if_pos e, z]
        exact fr_low mv' pas pbs hl'
      · rw [if_neg e, if_neg e, mem_lows e, getD_iff lt rfl, getD_iff lt rfl]
        have pf : Pg (3 - g - h) := ⟨by omega, by omega⟩
        obtain ⟨d1, i1⟩ := mv'.step pas pf
        obtain ⟨d2, i2⟩ := mv'.step pas ph
        rw [← i1, ← i2]
        have l2 := mv'.len
        unfold once twice
        rw [l2]
        generalize (2 : Int) ^ as.length = tp
        omega
    · have perf : ∀ u : Int, Pg u → fr (List.replicate bs.length u) bs = tw bs u := fun u hu => fr_perfect pbs hu
      have b2 := two_pos bs.length
      rw [frc, frc]
      rw [hl'] at er
      by_cases e : g = h
      · have z : lows (g :: as) (h :: bs) = lows as bs := if_pos e
        have eph : p ≠ h := fun w => gp (by rw [e, w])
        rw [if_pos e, if_neg eph, z]
        have eq3 : 3 - p - h = q := by omega
        have v : fr as bs = tw bs q := by rw [er, perf q hq]
        have o : once p h as bs = 1 + tw bs q := by
          unfold once
          rw [eq3, er, rep_same]
          omega
        have t : twice p h as bs = 2 * 2 ^ bs.length + tw bs p := by
          unfold twice
          rw [er, rep_other _ hq ph (by omega), List.length_replicate]
          omega
        have c1 := tw_bd bs q
        have c2 := tw_bd bs p
        rw [v, o, t]
        refine ⟨by omega, fun w => ?_, fun w => ?_⟩
        · omega
        · have l := lows_lt w
          exact absurd l (Nat.lt_irrefl _)
      · rw [if_neg e, mem_lows e]
        by_cases ep : p = h
        · have eqf : 3 - g - h = q := by omega
          have v : fr as bs = tw bs q := by rw [er, perf q hq]
          have o : once g h as bs = 1 + tw bs q := by
            unfold once
            rw [eqf, er, rep_same]
            omega
          have t : twice g h as bs = 2 * 2 ^ bs.length + tw bs g := by
            unfold twice
            rw [er, rep_other _ hq ph (by omega), List.length_replicate]
            omega
          have c1 := tw_bd bs q
          have c2 := tw_bd bs g
          rw [if_pos ep, v, o, t]
          refine ⟨by omega, fun _ => .inl ⟨by omega, ?_⟩, fun _ => by omega⟩
          have en : nm as q = none := by
            rw [er]
            exact nm_rep_same _ _
          rw [eqf, en, ep]
          rfl
        · have eqh : q = h := by omega
          have epf : 3 - g - h = p := by omega
          have epg : 3 - p - h = g := by omega
          subst eqh
          have o : once g q as bs = 2 ^ bs.length + tw bs p := by
            unfold once
            rw [epf, er, rep_other _ hq hp (by omega)]
            omega
          have t : twice g q as bs = 2 ^ bs.length + 1 + tw bs g := by
            unfold twice
            rw [er, rep_same, List.length_replicate]
            omega
          have o2 : once p q as bs = 2 ^ bs.length + tw bs g := by
            unfold once
            rw [epg, er, rep_other _ hq pg (by omega)]
            omega
          have t2 : twice p q as bs = 2 ^ bs.length + 1 + tw bs p := by
            unfold twice
            rw [er, rep_same, List.length_replicate]
            omega
          rw [if_neg ep, o, t, o2, t2, epf]
          have n1 : nm as q = none := by
            rw [er]
            exact nm_rep_same _ _
          have n2 : (as.length, p) ≠ (nm as p).getD (as.length, q) := by
            rw [er, List.length_replicate]
            exact nm_rep_getD (by omega) (by show q ≠ p; omega)
          rw [n1]
          refine ⟨by omega, fun w => .inr ⟨by omega, rfl⟩, fun w => ?_⟩
          rcases w with ⟨_, w⟩ | ⟨w, _⟩
          · exact absurd w n2
          · omega
end Tow
/-! # The towers: the first move, how many shortest ways; plain Lean -/
namespace Tow
theorem nf_head : ∀ (a b : List Int), nf a b = (lows a b).head?
  | [], _ => by
    unfold nf lows
    rfl
  | _ :: _, [] => by
    unfold nf lows
    rfl
  | g :: as, h :: bs => by
    have z1 : nf (g :: as) (h :: bs) = if g = h then nf as bs else if once g h as bs ≤ twice g h as bs then (match nm as (3 - g - h) with | some m => some m | none => some (as.length, h)) else (match nm as h with | some m => some m | none => some (as.length, 3 - g - h)) := rfl
    have z2 : lows (g :: as) (h :: bs) = if g = h then lows as bs else (if once g h as bs ≤ twice g h as bs then [(nm as (3 - g - h)).getD (as.length, h)] else []) ++ (if twice g h as bs ≤ once g h as bs then [(nm as h).getD (as.length, 3 - g - h)] else []) := rfl
    rw [z1, z2]
    by_cases e : g = h
    · rw [if_pos e, if_pos e]
      exact nf_head as bs
    · rw [if_neg e, if_neg e]
      by_cases c : once g h as bs ≤ twice g h as bs
      · rw [if_pos c, if_pos c]
        cases nm as (3 - g - h) <;> rfl
      · have c2 : twice g h as bs ≤ once g h as bs := by omega
        rw [if_neg c, if_neg c, if_pos c2]
        cases nm as h <;> rfl
theorem lows_mv : ∀ {a b : List Int} {m : Nat × Int}, Pgs a → Pgs b → a.length = b.length → m ∈ lows a b → ∃ a', Mv a m a'
  | [], _, _, _, _, _, h => by
    unfold lows at h
    cases h
  | _ :: _, [], _, _, _, hl, _ => by cases hl
  | g :: as, h :: bs, m, ha, hb, hl, hm => by
    have pg : Pg g := ha g List.mem_cons_self
    have ph : Pg h := hb h List.mem_cons_self
    have pas : Pgs as := fun x hx => ha x (List.mem_cons_of_mem _ hx)
    have pbs : Pgs bs := fun x hx => hb x (List.mem_cons_of_mem _ hx)
    by_cases e : g = h
    · have z : lows (g :: as) (h :: bs) = lows as bs := if_pos e
      rw [z] at hm
      obtain ⟨a', q⟩ := lows_mv pas pbs (Nat.succ.inj hl) hm
      exact ⟨_, q.cons g⟩
    · rw [mem_lows e] at hm
      have go : ∀ (u v : Int), Pg u → Pg v → g ≠ v → v ≠ u → g ≠ u → m = (nm as u).getD (as.length, v) → ∃ a', Mv (g :: as) m a' := fun u v hu hv gv vu gu w => by
        cases n : nm as u with
        | some m' =>
          rw [n] at w
          have em : m = m' := w
          obtain ⟨a', q⟩ := nm_mv pas hu n
          rw [em]
          exact ⟨_, q.cons g⟩
        | none =>
          rw [n] at w
          have em : m = (as.length, v) := w
          have er : as = List.replicate as.length u := List.eq_replicate_iff.mpr ⟨rfl, nm_none.mp n⟩
          rw [em]
          have z := Mv.mk [] g v u as.length pg hv hu gv gu vu
          rw [← er] at z
          exact ⟨_, z⟩
      have pf : Pg (3 - g - h) := ⟨by omega, by omega⟩
      rcases hm with ⟨_, w⟩ | ⟨_, w⟩
      · exact go _ _ pf ph e (by omega) (by omega) w
      · exact go _ _ ph pf (by omega) (by omega) e w
theorem nxt_inj {g t u : Int} (hg : Pg g) (ht : Pg t) (hu : Pg u) (e : nxt g t = nxt g u) : t = u := by
  unfold nxt at e
  split at e <;> split at e <;> omega
theorem tgt_inj : ∀ {A : List Int} {t u : Int}, Pgs A → Pg t → Pg u → tgt A t = tgt A u → t = u
  | [], _, _, _, _, _, e => e
  | g :: A, t, u, hA, ht, hu, e => by
    have pg := hA g List.mem_cons_self
    exact nxt_inj pg ht hu (tgt_inj (A := A) (fun x hx => hA x (List.mem_cons_of_mem _ hx)) (nxt_pg pg ht) (nxt_pg pg hu) e)
/-- one move is the first towards one peg alone -/
theorem nm_inj {a a' : List Int} {t u : Int} {m : Nat × Int} (mv : Mv a m a') (ha : Pgs a) (ht : Pg t) (hu : Pg u) (h1 : nm a t = some m) (h2 : nm a u = some m) : t = u := by
  cases mv with
  | mk A g p q i hg hp hq gp gq pq =>
    have pA : Pgs A := fun x hx => ha x (List.mem_append_left _ hx)
    rw [nm_iff hg hp hq gp gq pq (tgt_pg pA ht)] at h1
    rw [nm_iff hg hp hq gp gq pq (tgt_pg pA hu)] at h2
    exact tgt_inj pA ht hu (h1.trans h2.symm)
/-- how many shortest ways -/
def mw : List Int → List Int → Nat
  | g :: as, h :: bs => if g = h then mw as bs else if once g h as bs = twice g h as bs then 2 else 1
  | _, _ => 1
theorem mw_two : ∀ (a b : List Int), mw a b = 1 ∨ mw a b = 2
  | [], _ => by
    unfold mw
    exact .inl rfl
  | _ :: _, [] => by
    unfold mw
    exact .inl rfl
  | g :: as, h :: bs => by
    show (if g = h then mw as bs else if once g h as bs = twice g h as bs then 2 else 1) = 1 ∨ (if g = h then mw as bs else if once g h as bs = twice g h as bs then 2 else 1) = 2
    by_cases e : g = h
    · rw [if_pos e]
      exact mw_two as bs
    · rw [if_neg e]
      split
      · exact .inr rfl
      · exact .inl rfl
theorem mw_sym : ∀ {a b : List Int}, a.length = b.length → mw a b = mw b a
  | [], [], _ => rfl
  | [], _ :: _, h => by cases h
  | _ :: _, [], h => by cases h
  | g :: as, h :: bs, hl => by
    have hl' : as.length = bs.length := Nat.succ.inj hl
    show (if g = h then mw as bs else if once g h as bs = twice g h as bs then 2 else 1) = (if h = g then mw bs as else if once h g bs as = twice h g bs as then 2 else 1)
    by_cases e : g = h
    · rw [if_pos e, if_pos e.symm]
      exact mw_sym hl'
    · rw [if_neg e, if_neg (Ne.symm e), once_sym, twice_sym hl']
theorem mw_same : ∀ (a : List Int), mw a a = 1
  | [] => rfl
  | g :: as => by
    show (if g = g then mw as as else _) = 1
    rw [if_pos rfl]
    exact mw_same as
theorem mw_perfect : ∀ {bs : List Int} {q : Int}, Pgs bs → Pg q → mw (List.replicate bs.length q) bs = 1
  | [], _, _, _ => rfl
  | h :: bs, q, hb, hq => by
    have ph := hb h List.mem_cons_self
    show (if q = h then mw (List.replicate bs.length q) bs else if once q h (List.replicate bs.length q) bs = twice q h (List.replicate bs.length q) bs then 2 else 1) = 1
    by_cases e : q = h
    · rw [if_pos e]
      exact mw_perfect (fun x hx => hb x (List.mem_cons_of_mem _ hx)) hq
    · rw [if_neg e, if_neg]
      unfold once twice
      rw [rep_other _ hq ⟨by omega, by omega⟩ (by omega), rep_other _ hq ph e, List.length_replicate]
      have b1 := tw_bd bs (3 - q - h)
      have b2 := tw_bd bs q
      have b3 := two_pos bs.length
      omega
/-- behind a move that makes it nearer by the greatest unlike disc's lesser ones or itself, there is one way -/
theorem mw_behind {g h : Int} {as bs a' : List Int} {m : Nat × Int} (e : g ≠ h) (mv : Mv (g :: as) m a') (ha : Pgs (g :: as)) (hb : Pgs (h :: bs)) (hl : as.length = bs.length) (hm : m ∈ lows (g :: as) (h :: bs)) : mw a' (h :: bs) = 1 := by
  have pg : Pg g := ha g List.mem_cons_self
  have ph : Pg h := hb h List.mem_cons_self
  have pas : Pgs as := fun x hx => ha x (List.mem_cons_of_mem _ hx)
  have pbs : Pgs bs := fun x hx => hb x (List.mem_cons_of_mem _ hx)
  have mwc : ∀ (x : Int) (xs : List Int), mw (x :: xs) (h :: bs) = if x = h then mw xs bs else if once x h xs bs = twice x h xs bs then 2 else 1 := fun _ _ => rfl
  have pf : Pg (3 - g - h) := ⟨by omega, by omega⟩
  rcases mv.cons_inv with ⟨as', rfl, mv', lt⟩ | ⟨p, q, rfl, er, rfl, _, hp, hq, gp, gq, pq⟩
  · rw [mem_lows e, getD_iff lt rfl, getD_iff lt rfl] at hm
    obtain ⟨d1, i1⟩ := mv'.step pas pf
    obtain ⟨d2, i2⟩ := mv'.step pas ph
    have nb : ¬ (nm as (3 - g - h) = some m ∧ nm as h = some m) := fun ⟨z1, z2⟩ => by
      have z := nm_inj mv' pas pf ph z1 z2
      omega
    rw [← i1, ← i2] at nb hm
    have l2 := mv'.len
    rw [mwc, if_neg e, if_neg]
    unfold once twice at hm ⊢
    rw [l2]
    generalize (2 : Int) ^ as.length = tp at *
    omega
  · rw [hl] at er
    rw [mwc]
    by_cases ep : p = h
    · rw [if_pos ep, er]
      exact mw_perfect pbs hq
    · have eqh : q = h := by omega
      have epf : 3 - g - h = p := by omega
      have epg : 3 - p - h = g := by omega
      subst eqh
      have o : once g q as bs = 2 ^ bs.length + tw bs p := by
        unfold once
        rw [epf, er, rep_other _ hq hp (by omega)]
        omega
      have t : twice g q as bs = 2 ^ bs.length + 1 + tw bs g := by
        unfold twice
        rw [er, rep_same, List.length_replicate]
        omega
      have o2 : once p q as bs = 2 ^ bs.length + tw bs g := by
        unfold once
        rw [epg, er, rep_other _ hq pg (by omega)]
        omega
      have t2 : twice p q as bs = 2 ^ bs.length + 1 + tw bs p := by
        unfold twice
        rw [er, rep_same, List.length_replicate]
        omega
      have n2 : (as.length, p) ≠ (nm as p).getD (as.length, q) := by
        rw [er, List.length_replicate]
        exact nm_rep_getD (by omega) (by show q ≠ p; omega)
      rw [mem_lows e, epf, o, t] at hm
      rw [if_neg ep, o2, t2, if_neg]
      rcases hm with ⟨_, w⟩ | ⟨w, _⟩
      · exact absurd w n2
      · omega
/-- as many shortest ways as of all settings together that are a move behind and nearer -/
theorem mw_sum : ∀ {a b : List Int} {f : Nat × Int → Nat}, Pgs a → Pgs b → a.length = b.length → a ≠ b → (∀ m ∈ lows a b, ∀ a', Mv a m a' → f m = mw a' b) → ((lows a b).map f).sum = mw a b
  | [], [], _, _, _, _, ne, _ => absurd rfl ne
  | [], _ :: _, _, _, _, hl, _, _ => by cases hl
  | _ :: _, [], _, _, _, hl, _, _ => by cases hl
  | g :: as, h :: bs, f, ha, hb, hl, ne, hf => by
    have hl' : as.length = bs.length := Nat.succ.inj hl
    have pas : Pgs as := fun x hx => ha x (List.mem_cons_of_mem _ hx)
    have pbs : Pgs bs := fun x hx => hb x (List.mem_cons_of_mem _ hx)
    have mwc : ∀ (x : Int) (xs : List Int), mw (x :: xs) (h :: bs) = if x = h then mw xs bs else if once x h xs bs = twice x h xs bs then 2 else 1 := fun _ _ => rfl
    by_cases e : g = h
    · have z : lows (g :: as) (h :: bs) = lows as bs := if_pos e
      have ne' : as ≠ bs := fun q => ne (by rw [e, q])
      rw [mwc, if_pos e, z]
      refine mw_sum pas pbs hl' ne' fun m hm as' mv => ?_
      rw [hf m (by rw [z]; exact hm) _ (mv.cons g), mwc, if_pos e]
    · have one : ∀ m ∈ lows (g :: as) (h :: bs), f m = 1 := fun m hm => by
        obtain ⟨a', mv⟩ := lows_mv ha hb hl hm
        rw [hf m hm a' mv]
        exact mw_behind e mv ha hb hl' hm
      have sum1 : ∀ L : List (Nat × Int), (∀ m ∈ L, f m = 1) → (L.map f).sum = L.length := fun L => by
        induction L with
        | nil => intro _; rfl
        | cons x L ih =>
          intro hL
          rw [List.map_cons, List.sum_cons, hL x List.mem_cons_self, ih fun m hm => hL m (List.mem_cons_of_mem _ hm), List.length_cons]
          omega
      rw [sum1 _ one, mwc, if_neg e]
      have z : lows (g :: as) (h :: bs) = (if once g h as bs ≤ twice g h as bs then [(nm as (3 - g - h)).getD (as.length, h)] else []) ++ (if twice g h as bs ≤ once g h as bs then [(nm as h).getD (as.length, 3 - g - h)] else []) := if_neg e
      rw [z]
      by_cases c : once g h as bs = twice g h as bs
      · rw [if_pos c, if_pos (by omega), if_pos (by omega)]
        rfl
      · rw [if_neg c]
        by_cases c2 : once g h as bs ≤ twice g h as bs
        · rw [if_pos c2, if_neg (by omega)]
          rfl
        · rw [if_neg c2, if_pos (by omega)]
          rfl
end Tow
/-! # The towers: never nearer by a third setting; settings by numbers; plain Lean -/
namespace Tow
theorem Mv.pgs {a b : List Int} {m : Nat × Int} (h : Mv a m b) (ha : Pgs a) : Pgs b := by
  cases h with
  | mk A g p q i hg hp hq gp gq pq =>
    intro x hx
    rcases List.mem_append.mp hx with z | z
    · exact ha x (List.mem_append_left _ z)
    · rcases List.mem_cons.mp z with z | z
      · rw [z]
        exact hp
      · rw [(List.mem_replicate.mp z).2]
        exact hq
theorem lows_ne : ∀ {a b : List Int}, a.length = b.length → a ≠ b → ∃ m, m ∈ lows a b
  | [], [], _, ne => absurd rfl ne
  | [], _ :: _, hl, _ => by cases hl
  | _ :: _, [], hl, _ => by cases hl
  | g :: as, h :: bs, hl, ne => by
    by_cases e : g = h
    · have z : lows (g :: as) (h :: bs) = lows as bs := if_pos e
      obtain ⟨m, hm⟩ := lows_ne (a := as) (b := bs) (Nat.succ.inj hl) fun q => ne (by rw [e, q])
      exact ⟨m, by rw [z]; exact hm⟩
    · by_cases c : once g h as bs ≤ twice g h as bs
      · exact ⟨_, (mem_lows e).mpr (.inl ⟨c, rfl⟩)⟩
      · exact ⟨_, (mem_lows e).mpr (.inr ⟨by omega, rfl⟩)⟩
theorem fr_tri {b c : List Int} (hb : Pgs b) (hc : Pgs c) (hl2 : b.length = c.length) : ∀ (n : Nat) {a : List Int}, Pgs a → a.length = b.length → fr a b = n → fr a c ≤ n + fr b c
  | 0, a, ha, hl, e => by
    have z : a = b := (fr_zero hl).mp e
    rw [z]
    omega
  | n + 1, a, ha, hl, e => by
    have ne : a ≠ b := fun z => by
      have w := (fr_zero hl).mpr z
      omega
    obtain ⟨m, hm⟩ := lows_ne hl ne
    obtain ⟨a', mv⟩ := lows_mv ha hb hl hm
    have s1 := (fr_low mv ha hb hl).2.mpr hm
    have s2 := (fr_low mv ha hc (hl.trans hl2)).1
    have ih := fr_tri hb hc hl2 n (mv.pgs ha) (by rw [mv.len, hl]) (by omega)
    omega
theorem fr_third {a b c : List Int} (ha : Pgs a) (hb : Pgs b) (hc : Pgs c) (hl : a.length = b.length) (hl2 : b.length = c.length) : fr a c ≤ fr a b + fr b c := by
  have n0 := fr_nonneg a b
  have z := fr_tri hb hc hl2 (fr a b).toNat ha hl (Int.toNat_of_nonneg n0).symm
  omega
/-- the setting of a number on the way from b to e -/
def atN : Nat → Int → Int → Nat → List Int
  | 0, _, _, _ => []
  | n + 1, b, e, k => if k < 2 ^ n then b :: atN n b (3 - b - e) k else e :: atN n (3 - b - e) e (k - 2 ^ n)
theorem at_len : ∀ (n : Nat) (b e : Int) (k : Nat), (atN n b e k).length = n
  | 0, _, _, _ => rfl
  | n + 1, b, e, k => by
    unfold atN
    split <;> rw [List.length_cons, at_len n]
theorem at_pgs : ∀ (n : Nat) {b e : Int} (k : Nat), Pg b → Pg e → b ≠ e → Pgs (atN n b e k)
  | 0, _, _, _, _, _, _ => fun x hx => by cases hx
  | n + 1, b, e, k, hb, he, ne => by
    have pf : Pg (3 - b - e) := ⟨by omega, by omega⟩
    unfold atN
    split
    · intro x hx
      rcases List.mem_cons.mp hx with z | z
      · rw [z]
        exact hb
      · exact at_pgs n k hb pf (by omega) x z
    · intro x hx
      rcases List.mem_cons.mp hx with z | z
      · rw [z]
        exact he
      · exact at_pgs n _ pf he (by omega) x z
theorem cast_pow (n : Nat) : ((2 ^ n : Nat) : Int) = 2 ^ n := by
  rw [Int.natCast_pow]
  rfl
theorem at_tw : ∀ (n : Nat) {b e : Int} {k : Nat}, Pg b → Pg e → b ≠ e → k < 2 ^ n → tw (atN n b e k) b = k ∧ tw (atN n b e k) e = 2 ^ n - 1 - k
  | 0, b, e, k, _, _, _, h => by
    have z : k = 0 := by
      have h' : k < 1 := h
      omega
    subst z
    exact ⟨rfl, rfl⟩
  | n + 1, b, e, k, hb, he, ne, h => by
    have pf : Pg (3 - b - e) := ⟨by omega, by omega⟩
    have cp := cast_pow n
    have h2 : k < 2 * 2 ^ n := by
      rw [Nat.pow_succ, Nat.mul_comm] at h
      exact h
    rw [two_succ]
    unfold atN
    by_cases c : k < 2 ^ n
    · obtain ⟨i1, i2⟩ := at_tw n hb pf (by omega : b ≠ 3 - b - e) c
      have n1 : nxt b b = b := if_pos rfl
      have n2 : nxt b e = 3 - b - e := if_neg ne
      rw [if_pos c]
      constructor
      · show (if b = b then 0 else 2 ^ (atN n b (3 - b - e) k).length) + tw (atN n b (3 - b - e) k) (nxt b b) = _
        rw [if_pos rfl, n1, i1]
        omega
      · show (if b = e then 0 else 2 ^ (atN n b (3 - b - e) k).length) + tw (atN n b (3 - b - e) k) (nxt b e) = _
        rw [if_neg ne, n2, i2, at_len]
        omega
    · obtain ⟨i1, i2⟩ := at_tw n (k := k - 2 ^ n) pf he (by omega : 3 - b - e ≠ e) (by omega)
      have n1 : nxt e e = e := if_pos rfl
      have n2 : nxt e b = 3 - b - e := by
        unfold nxt
        rw [if_neg (Ne.symm ne)]
        omega
      have ck : ((k - 2 ^ n : Nat) : Int) = (k : Int) - 2 ^ n := by
        rw [Int.ofNat_sub (by omega), cp]
      rw [if_neg c]
      constructor
      · show (if e = b then 0 else 2 ^ (atN n (3 - b - e) e (k - 2 ^ n)).length) + tw (atN n (3 - b - e) e (k - 2 ^ n)) (nxt e b) = _
        rw [if_neg (Ne.symm ne), n2, i1, at_len, ck]
        omega
      · show (if e = e then 0 else 2 ^ (atN n (3 - b - e) e (k - 2 ^ n)).length) + tw (atN n (3 - b - e) e (k - 2 ^ n)) (nxt e e) = _
        rw [if_pos rfl, n1, i2, ck]
        omega
theorem at_zero : ∀ (n : Nat) (b e : Int), atN n b e 0 = List.replicate n b
  | 0, _, _ => rfl
  | n + 1, b, e => by
    unfold atN
    rw [if_pos (Nat.pow_pos (by decide)), at_zero n, List.replicate_succ]
theorem at_end : ∀ (n : Nat) (b e : Int), atN n b e (2 ^ n - 1) = List.replicate n e
  | 0, _, _ => rfl
  | n + 1, b, e => by
    have p : 0 < 2 ^ n := Nat.pow_pos (by decide)
    have e2 : (2 : Nat) ^ (n + 1) = 2 * 2 ^ n := by rw [Nat.pow_succ, Nat.mul_comm]
    unfold atN
    rw [if_neg (by omega)]
    have ek : 2 ^ (n + 1) - 1 - 2 ^ n = 2 ^ n - 1 := by omega
    rw [ek, at_end n, List.replicate_succ]
/-- the setting of the next number is a move behind -/
theorem at_next : ∀ (n : Nat) {b e : Int} {k : Nat}, Pg b → Pg e → b ≠ e → k + 1 < 2 ^ n → ∃ m, Mv (atN n b e k) m (atN n b e (k + 1))
  | 0, _, _, k, _, _, _, h => by
    have h' : k + 1 < 1 := h
    omega
  | n + 1, b, e, k, hb, he, ne, h => by
    have pf : Pg (3 - b - e) := ⟨by omega, by omega⟩
    have h2 : k + 1 < 2 * 2 ^ n := by
      rw [Nat.pow_succ, Nat.mul_comm] at h
      exact h
    have un : ∀ j, atN (n + 1) b e j = if j < 2 ^ n then b :: atN n b (3 - b - e) j else e :: atN n (3 - b - e) e (j - 2 ^ n) := fun _ => rfl
    rw [un, un]
    by_cases c : k + 1 < 2 ^ n
    · rw [if_pos (by omega), if_pos c]
      obtain ⟨m, mv⟩ := at_next n (e := 3 - b - e) hb pf (by omega) c
      exact ⟨m, mv.cons b⟩
    · by_cases c2 : k < 2 ^ n
      · have ek : k = 2 ^ n - 1 := by omega
        have ek2 : k + 1 - 2 ^ n = 0 := by omega
        rw [if_pos c2, if_neg c, ek2, ek, at_zero, at_end]
        exact ⟨_, .mk [] b e (3 - b - e) n hb he pf ne (by omega) (by omega)⟩
      · have ek : k + 1 - 2 ^ n = (k - 2 ^ n) + 1 := by omega
        rw [if_neg c2, if_neg c, ek]
        obtain ⟨m, mv⟩ := at_next n (b := 3 - b - e) (k := k - 2 ^ n) pf he (by omega) (by omega)
        exact ⟨m, mv.cons e⟩
/-- the number of a setting on that way -/
def nb : List Int → Int → Int → Option Int
  | [], _, _ => some 0
  | g :: rs, b, e => if g = b then nb rs b (3 - b - e) else if g = e then (nb rs (3 - b - e) e).map (fun k => 2 ^ rs.length + k) else none
theorem nb_is : ∀ {rs : List Int} {b e : Int}, Pgs rs → Pg b → Pg e → b ≠ e → nb rs b e = if tw rs b + tw rs e = 2 ^ rs.length - 1 then some (tw rs b) else none
  | [], _, _, _, _, _, _ => rfl
  | g :: rs, b, e, h, hb, he, ne => by
    have pg : Pg g := h g List.mem_cons_self
    have prs : Pgs rs := fun x hx => h x (List.mem_cons_of_mem _ hx)
    have pf : Pg (3 - b - e) := ⟨by omega, by omega⟩
    have twc : ∀ u, tw (g :: rs) u = (if g = u then 0 else 2 ^ rs.length) + tw rs (nxt g u) := fun _ => rfl
    have un : nb (g :: rs) b e = if g = b then nb rs b (3 - b - e) else if g = e then (nb rs (3 - b - e) e).map (fun k => 2 ^ rs.length + k) else none := rfl
    rw [un, twc, twc, List.length_cons, two_succ]
    by_cases c : g = b
    · have n1 : nxt g b = b := by rw [c]; exact if_pos rfl
      have n2 : nxt g e = 3 - b - e := by rw [c]; exact if_neg ne
      rw [if_pos c, if_pos c, n1, n2, if_neg (fun z => ne (c.symm.trans z)), nb_is prs hb pf (by omega), Int.zero_add]
      by_cases d : tw rs b + tw rs (3 - b - e) = 2 ^ rs.length - 1
      · rw [if_pos d, if_pos (by omega)]
      · rw [if_neg d, if_neg (by omega)]
    · by_cases c2 : g = e
      · have n1 : nxt g e = e := by rw [c2]; exact if_pos rfl
        have n2 : nxt g b = 3 - b - e := by
          unfold nxt
          rw [if_neg c]
          omega
        rw [if_neg c, if_pos c2, if_neg c, if_pos c2, n1, n2, nb_is prs pf he (by omega)]
        by_cases d : tw rs (3 - b - e) + tw rs e = 2 ^ rs.length - 1
        · rw [if_pos d, if_pos (by omega)]
          rfl
        · rw [if_neg d, if_neg (by omega)]
          rfl
      · have b1 := tw_bd rs (nxt g b)
        have b2 := tw_bd rs (nxt g e)
        rw [if_neg c, if_neg c2, if_neg c, if_neg c2, if_neg (by omega)]
end Tow
/-! # The row of near moves; plain Lean. Lists run from the greatest disc to the least -/
namespace Tow
/-- the number in the row -/
def rn : List Int → Int
  | [] => 0
  | g :: rs => g * 3 ^ rs.length + (if g = 1 then 3 ^ rs.length - 1 - rn rs else rn rs)
theorem three_pos (n : Nat) : (0 : Int) < 3 ^ n := Int.pow_pos (by decide)
theorem three_succ (n : Nat) : (3 : Int) ^ (n + 1) = 3 * 3 ^ n := by rw [Int.pow_succ, Int.mul_comm]
theorem rn_cons (g : Int) (rs : List Int) : rn (g :: rs) = g * 3 ^ rs.length + (if g = 1 then 3 ^ rs.length - 1 - rn rs else rn rs) := rfl
theorem rn0 (rs : List Int) : rn (0 :: rs) = rn rs := by
  rw [rn_cons, if_neg (by decide)]
  omega
theorem rn1 (rs : List Int) : rn (1 :: rs) = 2 * 3 ^ rs.length - 1 - rn rs := by
  rw [rn_cons, if_pos rfl]
  omega
theorem rn2 (rs : List Int) : rn (2 :: rs) = 2 * 3 ^ rs.length + rn rs := by
  rw [rn_cons, if_neg (by decide)]
theorem rn_bd : ∀ {rs : List Int}, Pgs rs → 0 ≤ rn rs ∧ rn rs < 3 ^ rs.length
  | [], _ => ⟨Int.le_refl _, Int.zero_lt_one⟩
  | g :: rs, h => by
    have pg := h g List.mem_cons_self
    have ih := rn_bd (rs := rs) fun x hx => h x (List.mem_cons_of_mem _ hx)
    have c : g = 0 ∨ g = 1 ∨ g = 2 := by omega
    rw [List.length_cons, three_succ]
    rcases c with rfl | rfl | rfl
    · rw [rn0]
      omega
    · rw [rn1]
      omega
    · rw [rn2]
      omega
theorem rn_inj : ∀ {a b : List Int}, Pgs a → Pgs b → a.length = b.length → rn a = rn b → a = b
  | [], [], _, _, _, _ => rfl
  | [], _ :: _, _, _, hl, _ => by cases hl
  | _ :: _, [], _, _, hl, _ => by cases hl
  | g :: as, h :: bs, ha, hb, hl, e => by
    have hl' : as.length = bs.length := Nat.succ.inj hl
    have pg := ha g List.mem_cons_self
    have ph := hb h List.mem_cons_self
    have pas : Pgs as := fun x hx => ha x (List.mem_cons_of_mem _ hx)
    have pbs : Pgs bs := fun x hx => hb x (List.mem_cons_of_mem _ hx)
    have b1 := rn_bd pas
    have b2 := rn_bd pbs
    have c1 : g = 0 ∨ g = 1 ∨ g = 2 := by omega
    have c2 : h = 0 ∨ h = 1 ∨ h = 2 := by omega
    rw [hl'] at b1
    have ih : rn as = rn bs → as = bs := rn_inj pas pbs hl'
    rcases c1 with rfl | rfl | rfl <;> rcases c2 with rfl | rfl | rfl <;> simp only [rn0, rn1, rn2, hl'] at e <;> first | (exfalso; omega) | (rw [ih (by omega)])
theorem rn_zero (n : Nat) : rn (List.replicate n 0) = 0 := by
  induction n with
  | zero => rfl
  | succ n ih => rw [List.replicate_succ, rn0, ih]
theorem rn_last (n : Nat) : rn (List.replicate n 2) = 3 ^ n - 1 := by
  induction n with
  | zero => rfl
  | succ n ih =>
    rw [List.replicate_succ, rn2, ih, List.length_replicate, three_succ]
    omega
theorem rep_pgs {n : Nat} {q : Int} (h : Pg q) : Pgs (List.replicate n q) := fun x hx => by
  rw [(List.mem_replicate.mp hx).2]
  exact h
theorem all_zero {rs : List Int} (h : Pgs rs) (e : rn rs = 0) : rs = List.replicate rs.length 0 :=
  rn_inj h (rep_pgs ⟨by decide, by decide⟩) (by rw [List.length_replicate]) (by rw [e, rn_zero])
theorem all_two {rs : List Int} (h : Pgs rs) (e : rn rs = 3 ^ rs.length - 1) : rs = List.replicate rs.length 2 :=
  rn_inj h (rep_pgs ⟨by decide, by decide⟩) (by rw [List.length_replicate]) (by rw [e, rn_last])
/-- a near move: to the peg beside -/
inductive Nr : List Int → Nat × Int → List Int → Prop
  | mk (A : List Int) (g p q : Int) (i : Nat) (hg : Pg g) (hp : Pg p) (hq : Pg q) (gp : p = g + 1 ∨ g = p + 1) (gq : g ≠ q) (pq : p ≠ q) : Nr (A ++ g :: List.replicate i q) (i, p) (A ++ p :: List.replicate i q)
theorem Nr.mv {a b : List Int} {m : Nat × Int} (h : Nr a m b) : Mv a m b := by
  cases h with
  | mk A g p q i hg hp hq gp gq pq => exact .mk A g p q i hg hp hq (by omega) gq pq
theorem Nr.cons (x : Int) {a b : List Int} {m : Nat × Int} (h : Nr a m b) : Nr (x :: a) m (x :: b) := by
  cases h with
  | mk A g p q i hg hp hq gp gq pq => exact .mk (x :: A) g p q i hg hp hq gp gq pq
theorem rn_app : ∀ (A : List Int) {R S : List Int}, Pgs A → R.length = S.length → (rn (A ++ R) - rn (A ++ S) = rn R - rn S ∨ rn (A ++ R) - rn (A ++ S) = rn S - rn R)
  | [], _, _, _, _ => .inl rfl
  | g :: A, R, S, hA, hl => by
    have pg := hA g List.mem_cons_self
    have ih := rn_app A (R := R) (S := S) (fun x hx => hA x (List.mem_cons_of_mem _ hx)) hl
    have c : g = 0 ∨ g = 1 ∨ g = 2 := by omega
    have l : (A ++ R).length = (A ++ S).length := by rw [List.length_append, List.length_append, hl]
    rw [List.cons_append, List.cons_append]
    rcases c with rfl | rfl | rfl
    · rw [rn0, rn0]
      exact ih
    · rw [rn1, rn1, l]
      omega
    · rw [rn2, rn2, l]
      omega
theorem Nr.step {a b : List Int} {m : Nat × Int} (h : Nr a m b) (ha : Pgs a) : rn b - rn a = 1 ∨ rn b - rn a = -1 := by
  cases h with
  | mk A g p q i hg hp hq gp gq pq =>
    have pA : Pgs A := fun x hx => ha x (List.mem_append_left _ hx)
    have z := rn_app A (R := p :: List.replicate i q) (S := g :: List.replicate i q) pA rfl
    have c : (g = 0 ∧ p = 1 ∧ q = 2) ∨ (g = 1 ∧ p = 0 ∧ q = 2) ∨ (g = 1 ∧ p = 2 ∧ q = 0) ∨ (g = 2 ∧ p = 1 ∧ q = 0) := by omega
    rcases c with ⟨rfl, rfl, rfl⟩ | ⟨rfl, rfl, rfl⟩ | ⟨rfl, rfl, rfl⟩ | ⟨rfl, rfl, rfl⟩
    · rw [rn0, rn1, rn_last, List.length_replicate] at z
      omega
    · rw [rn0, rn1, rn_last, List.length_replicate] at z
      omega
    · rw [rn1, rn2, rn_zero, List.length_replicate] at z
      omega
    · rw [rn1, rn2, rn_zero, List.length_replicate] at z
      omega
/-- the neighbours in the row -/
theorem nr_both : ∀ {a : List Int}, Pgs a → (rn a + 1 < 3 ^ a.length → ∃ m b, Nr a m b ∧ rn b = rn a + 1) ∧ (0 < rn a → ∃ m b, Nr a m b ∧ rn b = rn a - 1)
  | [], _ => by
    have e : rn ([] : List Int) = 0 := rfl
    rw [e]
    refine ⟨fun h => ?_, fun h => ?_⟩
    · have h' : (0 : Int) + 1 < 1 := h
      omega
    · omega
  | g :: rs, h => by
    have pg := h g List.mem_cons_self
    have prs : Pgs rs := fun x hx => h x (List.mem_cons_of_mem _ hx)
    obtain ⟨up, down⟩ := nr_both prs
    have bd := rn_bd prs
    have p0 : Pg 0 := ⟨by decide, by decide⟩
    have p1 : Pg 1 := ⟨by decide, by decide⟩
    have p2 : Pg 2 := ⟨by decide, by decide⟩
    have same : ∀ {m : Nat × Int} {b : List Int}, Nr rs m b → b.length = rs.length := fun z => z.mv.len
    have c : g = 0 ∨ g = 1 ∨ g = 2 := by omega
    rw [List.length_cons, three_succ]
    rcases c with rfl | rfl | rfl
    · rw [rn0]
      constructor
      · intro hh
        by_cases k : rn rs + 1 < 3 ^ rs.length
        · obtain ⟨m, b, z, e⟩ := up k
          exact ⟨m, 0 :: b, z.cons 0, by rw [rn0, e]⟩
        · have er := all_two prs (by omega)
          have z := Nr.mk [] 0 1 2 rs.length p0 p1 p2 (.inl rfl) (by decide) (by decide)
          rw [← er] at z
          refine ⟨_, _, z, ?_⟩
          show rn (1 :: rs) = _
          rw [rn1]
          omega
      · intro hh
        obtain ⟨m, b, z, e⟩ := down hh
        exact ⟨m, 0 :: b, z.cons 0, by rw [rn0, e]⟩
    · rw [rn1]
      constructor
      · intro hh
        by_cases k : 0 < rn rs
        · obtain ⟨m, b, z, e⟩ := down k
          exact ⟨m, 1 :: b, z.cons 1, by rw [rn1, e, same z]; omega⟩
        · have er := all_zero prs (by omega)
          have z := Nr.mk [] 1 2 0 rs.length p1 p2 p0 (.inl rfl) (by decide) (by decide)
          rw [← er] at z
          refine ⟨_, _, z, ?_⟩
          show rn (2 :: rs) = _
          rw [rn2]
          omega
      · intro hh
        by_cases k : rn rs + 1 < 3 ^ rs.length
        · obtain ⟨m, b, z, e⟩ := up k
          exact ⟨m, 1 :: b, z.cons 1, by rw [rn1, e, same z]; omega⟩
        · have er := all_two prs (by omega)
          have z := Nr.mk [] 1 0 2 rs.length p1 p0 p2 (.inr rfl) (by decide) (by decide)
          rw [← er] at z
          refine ⟨_, _, z, ?_⟩
          show rn (0 :: rs) = _
          rw [rn0]
          omega
    · rw [rn2]
      constructor
      · intro hh
        obtain ⟨m, b, z, e⟩ := up (by omega)
        exact ⟨m, 2 :: b, z.cons 2, by rw [rn2, e, same z]; omega⟩
      · intro hh
        by_cases k : 0 < rn rs
        · obtain ⟨m, b, z, e⟩ := down k
          exact ⟨m, 2 :: b, z.cons 2, by rw [rn2, e, same z]; omega⟩
        · have er := all_zero prs (by omega)
          have z := Nr.mk [] 2 1 0 rs.length p2 p1 p0 (.inr rfl) (by decide) (by decide)
          rw [← er] at z
          refine ⟨_, _, z, ?_⟩
          show rn (1 :: rs) = _
          rw [rn1]
          omega
/-- never further than by near moves -/
theorem fr_near {b : List Int} (hb : Pgs b) : ∀ (n : Nat) {a : List Int}, Pgs a → a.length = b.length → (rn a - rn b = n ∨ rn b - rn a = n) → fr a b ≤ n
  | 0, a, ha, hl, e => by
    have z : a = b := rn_inj ha hb hl (by omega)
    have w := (fr_zero hl).mpr z
    omega
  | n + 1, a, ha, hl, e => by
    obtain ⟨up, down⟩ := nr_both ha
    have b1 := rn_bd ha
    have b2 := rn_bd hb
    rw [hl] at b1 up
    rcases e with e | e
    · obtain ⟨m, a', z, ez⟩ := down (by omega)
      have s := (fr_low z.mv ha hb hl).1
      have ih := fr_near hb n (z.mv.pgs ha) (by rw [z.mv.len, hl]) (by omega)
      omega
    · obtain ⟨m, a', z, ez⟩ := up (by omega)
      have s := (fr_low z.mv ha hb hl).1
      have ih := fr_near hb n (z.mv.pgs ha) (by rw [z.mv.len, hl]) (by omega)
      omega
/-- the setting of a number in the row -/
def rowN : Nat → Int → List Int
  | 0, _ => []
  | n + 1, k => (k / 3 ^ n) :: rowN n (if k / 3 ^ n = 1 then 3 ^ n - 1 - k % 3 ^ n else k % 3 ^ n)
theorem row_len' : ∀ (n : Nat) (k : Int), (rowN n k).length = n
  | 0, _ => rfl
  | n + 1, k => by
    unfold rowN
    rw [List.length_cons, row_len' n]
theorem row_ok : ∀ (n : Nat) {k : Int}, 0 ≤ k → k < 3 ^ n → Pgs (rowN n k) ∧ rn (rowN n k) = k
  | 0, k, h0, h1 => by
    have h1' : k < 1 := h1
    refine ⟨(fun x hx => by cases hx), ?_⟩
    show (0 : Int) = k
    omega
  | n + 1, k, h0, h1 => by
    have p := three_pos n
    rw [three_succ] at h1
    have d0 : 0 ≤ k / 3 ^ n := Int.ediv_nonneg h0 (by omega)
    have d3 : k / 3 ^ n < 3 := Int.ediv_lt_of_lt_mul p (by omega)
    have r0 : 0 ≤ k % 3 ^ n := Int.emod_nonneg _ (by omega)
    have r1 : k % 3 ^ n < 3 ^ n := Int.emod_lt_of_pos _ p
    have eq := Int.mul_ediv_add_emod k (3 ^ n)
    have un : rowN (n + 1) k = (k / 3 ^ n) :: rowN n (if k / 3 ^ n = 1 then 3 ^ n - 1 - k % 3 ^ n else k % 3 ^ n) := rfl
    have c : k / 3 ^ n = 0 ∨ k / 3 ^ n = 1 ∨ k / 3 ^ n = 2 := by omega
    rw [un]
    rcases c with e | e | e
    · rw [e] at eq ⊢
      rw [if_neg (by decide)]
      obtain ⟨i1, i2⟩ := row_ok n r0 r1
      refine ⟨fun x hx => ?_, ?_⟩
      · rcases List.mem_cons.mp hx with z | z
        · rw [z]
          exact ⟨by decide, by decide⟩
        · exact i1 x z
      · rw [rn0, i2]
        omega
    · rw [e] at eq ⊢
      rw [if_pos rfl]
      obtain ⟨i1, i2⟩ := row_ok n (k := 3 ^ n - 1 - k % 3 ^ n) (by omega) (by omega)
      refine ⟨fun x hx => ?_, ?_⟩
      · rcases List.mem_cons.mp hx with z | z
        · rw [z]
          exact ⟨by decide, by decide⟩
        · exact i1 x z
      · rw [rn1, i2, row_len']
        omega
    · rw [e] at eq ⊢
      rw [if_neg (by decide)]
      obtain ⟨i1, i2⟩ := row_ok n r0 r1
      refine ⟨fun x hx => ?_, ?_⟩
      · rcases List.mem_cons.mp hx with z | z
        · rw [z]
          exact ⟨by decide, by decide⟩
        · exact i1 x z
      · rw [rn2, i2, row_len']
        omega
theorem row_back {rs : List Int} (h : Pgs rs) : rowN rs.length (rn rs) = rs := by
  have b := rn_bd h
  obtain ⟨i1, i2⟩ := row_ok rs.length b.1 b.2
  exact rn_inj i1 h (row_len' _ _) i2
end Tow
/-! # The towers with the pegs called otherwise; plain Lean -/
namespace Tow
/-- a new name for each peg -/
structure Call (r : Int → Int) : Prop where
  pg : ∀ g, Pg g → Pg (r g)
  inj : ∀ g h, Pg g → Pg h → r g = r h → g = h
theorem Call.third {r : Int → Int} (c : Call r) {g h : Int} (hg : Pg g) (hh : Pg h) (ne : g ≠ h) : r (3 - g - h) = 3 - r g - r h := by
  have pf : Pg (3 - g - h) := ⟨by omega, by omega⟩
  have a := c.pg g hg
  have b := c.pg h hh
  have d := c.pg _ pf
  have n1 : r g ≠ r h := fun z => ne (c.inj g h hg hh z)
  have n2 : r (3 - g - h) ≠ r g := fun z => by
    have w := c.inj _ _ pf hg z
    omega
  have n3 : r (3 - g - h) ≠ r h := fun z => by
    have w := c.inj _ _ pf hh z
    omega
  omega
theorem Call.eq {r : Int → Int} (c : Call r) {g h : Int} (hg : Pg g) (hh : Pg h) : r g = r h ↔ g = h := ⟨c.inj g h hg hh, fun z => by rw [z]⟩
theorem Call.nxt {r : Int → Int} (c : Call r) {g t : Int} (hg : Pg g) (ht : Pg t) : nxt (r g) (r t) = r (Tow.nxt g t) := by
  unfold Tow.nxt
  by_cases e : g = t
  · rw [if_pos e, if_pos ((c.eq hg ht).mpr e)]
  · rw [if_neg e, if_neg fun z => e ((c.eq hg ht).mp z), c.third hg ht e]
theorem Call.pgs {r : Int → Int} (c : Call r) {rs : List Int} (h : Pgs rs) : Pgs (rs.map r) := fun x hx => by
  obtain ⟨y, hy, rfl⟩ := List.mem_map.mp hx
  exact c.pg y (h y hy)
theorem Call.tw {r : Int → Int} (c : Call r) : ∀ {rs : List Int} {t : Int}, Pgs rs → Pg t → tw (rs.map r) (r t) = Tow.tw rs t
  | [], _, _, _ => rfl
  | g :: rs, t, h, ht => by
    have pg := h g List.mem_cons_self
    have prs : Pgs rs := fun x hx => h x (List.mem_cons_of_mem _ hx)
    show (if r g = r t then 0 else 2 ^ (rs.map r).length) + Tow.tw (rs.map r) (Tow.nxt (r g) (r t)) = (if g = t then 0 else 2 ^ rs.length) + Tow.tw rs (Tow.nxt g t)
    rw [c.nxt pg ht, c.tw prs (nxt_pg pg ht), List.length_map]
    by_cases e : g = t
    · rw [if_pos e, if_pos ((c.eq pg ht).mpr e)]
    · rw [if_neg e, if_neg fun z => e ((c.eq pg ht).mp z)]
def callM (r : Int → Int) (m : Nat × Int) : Nat × Int := (m.1, r m.2)
theorem Call.nm {r : Int → Int} (c : Call r) : ∀ {rs : List Int} {t : Int}, Pgs rs → Pg t → nm (rs.map r) (r t) = (Tow.nm rs t).map (callM r)
  | [], _, _, _ => rfl
  | g :: rs, t, h, ht => by
    have pg := h g List.mem_cons_self
    have prs : Pgs rs := fun x hx => h x (List.mem_cons_of_mem _ hx)
    show (match Tow.nm (rs.map r) (Tow.nxt (r g) (r t)) with | some m => some m | none => if r g = r t then none else some ((rs.map r).length, r t)) = (match Tow.nm rs (Tow.nxt g t) with | some m => some m | none => if g = t then none else some (rs.length, t)).map (callM r)
    rw [c.nxt pg ht, c.nm prs (nxt_pg pg ht), List.length_map]
    cases Tow.nm rs (Tow.nxt g t) with
    | some m => rfl
    | none =>
      show (if r g = r t then none else some (rs.length, r t)) = (if g = t then none else some (rs.length, t)).map (callM r)
      by_cases e : g = t
      · rw [if_pos e, if_pos ((c.eq pg ht).mpr e)]
        rfl
      · rw [if_neg e, if_neg fun z => e ((c.eq pg ht).mp z)]
        rfl
theorem Call.once {r : Int → Int} (c : Call r) {g h : Int} {as bs : List Int} (hg : Pg g) (hh : Pg h) (ne : g ≠ h) (ha : Pgs as) (hb : Pgs bs) : once (r g) (r h) (as.map r) (bs.map r) = Tow.once g h as bs := by
  have pf : Pg (3 - g - h) := ⟨by omega, by omega⟩
  unfold Tow.once
  rw [← c.third hg hh ne, c.tw ha pf, c.tw hb pf]
theorem Call.twice {r : Int → Int} (c : Call r) {g h : Int} {as bs : List Int} (hg : Pg g) (hh : Pg h) (ha : Pgs as) (hb : Pgs bs) : twice (r g) (r h) (as.map r) (bs.map r) = Tow.twice g h as bs := by
  unfold Tow.twice
  rw [c.tw ha hh, c.tw hb hg, List.length_map]
theorem Call.fr {r : Int → Int} (c : Call r) : ∀ {a b : List Int}, Pgs a → Pgs b → a.length = b.length → fr (a.map r) (b.map r) = Tow.fr a b
  | [], [], _, _, _ => rfl
  | [], _ :: _, _, _, hl => by cases hl
  | _ :: _, [], _, _, hl => by cases hl
  | g :: as, h :: bs, ha, hb, hl => by
    have pg := ha g List.mem_cons_self
    have ph := hb h List.mem_cons_self
    have pas : Pgs as := fun x hx => ha x (List.mem_cons_of_mem _ hx)
    have pbs : Pgs bs := fun x hx => hb x (List.mem_cons_of_mem _ hx)
    show (if r g = r h then Tow.fr (as.map r) (bs.map r) else min (Tow.once (r g) (r h) (as.map r) (bs.map r)) (Tow.twice (r g) (r h) (as.map r) (bs.map r))) = (if g = h then Tow.fr as bs else min (Tow.once g h as bs) (Tow.twice g h as bs))
    by_cases e : g = h
    · rw [if_pos e, if_pos ((c.eq pg ph).mpr e)]
      exact c.fr pas pbs (Nat.succ.inj hl)
    · rw [if_neg e, if_neg fun z => e ((c.eq pg ph).mp z), c.once pg ph e pas pbs, c.twice pg ph pas pbs]
theorem Call.mw {r : Int → Int} (c : Call r) : ∀ {a b : List Int}, Pgs a → Pgs b → a.length = b.length → mw (a.map r) (b.map r) = Tow.mw a b
  | [], [], _, _, _ => rfl
  | [], _ :: _, _, _, hl => by cases hl
  | _ :: _, [], _, _, hl => by cases hl
  | g :: as, h :: bs, ha, hb, hl => by
    have pg := ha g List.mem_cons_self
    have ph := hb h List.mem_cons_self
    have pas : Pgs as := fun x hx => ha x (List.mem_cons_of_mem _ hx)
    have pbs : Pgs bs := fun x hx => hb x (List.mem_cons_of_mem _ hx)
    show (if r g = r h then Tow.mw (as.map r) (bs.map r) else if Tow.once (r g) (r h) (as.map r) (bs.map r) = Tow.twice (r g) (r h) (as.map r) (bs.map r) then 2 else 1) = (if g = h then Tow.mw as bs else if Tow.once g h as bs = Tow.twice g h as bs then 2 else 1)
    by_cases e : g = h
    · rw [if_pos e, if_pos ((c.eq pg ph).mpr e)]
      exact c.mw pas pbs (Nat.succ.inj hl)
    · rw [if_neg e, if_neg fun z => e ((c.eq pg ph).mp z), c.once pg ph e pas pbs, c.twice pg ph pas pbs]
theorem Call.lows {r : Int → Int} (c : Call r) : ∀ {a b : List Int}, Pgs a → Pgs b → a.length = b.length → lows (a.map r) (b.map r) = (Tow.lows a b).map (callM r)
  | [], [], _, _, _ => by
    unfold Tow.lows
    rfl
  | [], _ :: _, _, _, hl => by cases hl
  | _ :: _, [], _, _, hl => by cases hl
  | g :: as, h :: bs, ha, hb, hl => by
    have pg := ha g List.mem_cons_self
    have ph := hb h List.mem_cons_self
    have pas : Pgs as := fun x hx => ha x (List.mem_cons_of_mem _ hx)
    have pbs : Pgs bs := fun x hx => hb x (List.mem_cons_of_mem _ hx)
    have un : ∀ (x y : Int) (xs ys : List Int), Tow.lows (x :: xs) (y :: ys) = if x = y then Tow.lows xs ys else (if Tow.once x y xs ys ≤ Tow.twice x y xs ys then [(Tow.nm xs (3 - x - y)).getD (xs.length, y)] else []) ++ (if Tow.twice x y xs ys ≤ Tow.once x y xs ys then [(Tow.nm xs y).getD (xs.length, 3 - x - y)] else []) := fun _ _ _ _ => rfl
    rw [List.map_cons, List.map_cons, un, un]
    by_cases e : g = h
    · rw [if_pos e, if_pos ((c.eq pg ph).mpr e)]
      exact c.lows pas pbs (Nat.succ.inj hl)
    · have pf : Pg (3 - g - h) := ⟨by omega, by omega⟩
      have gd : ∀ (o : Option (Nat × Int)) (d : Nat × Int), (o.map (callM r)).getD (callM r d) = callM r (o.getD d) := fun o d => by
        cases o <;> rfl
      rw [if_neg e, if_neg fun z => e ((c.eq pg ph).mp z), c.once pg ph e pas pbs, c.twice pg ph pas pbs, ← c.third pg ph e, c.nm pas pf, c.nm pas ph, List.length_map]
      have g1 := gd (Tow.nm as (3 - g - h)) (as.length, h)
      have g2 := gd (Tow.nm as h) (as.length, 3 - g - h)
      have e1 : ((Tow.nm as (3 - g - h)).map (callM r)).getD (as.length, r h) = callM r ((Tow.nm as (3 - g - h)).getD (as.length, h)) := g1
      have e2 : ((Tow.nm as h).map (callM r)).getD (as.length, r (3 - g - h)) = callM r ((Tow.nm as h).getD (as.length, 3 - g - h)) := g2
      rw [e1, e2, List.map_append]
      congr 1
      · split <;> rfl
      · split <;> rfl
theorem Call.nf {r : Int → Int} (c : Call r) {a b : List Int} (ha : Pgs a) (hb : Pgs b) (hl : a.length = b.length) : nf (a.map r) (b.map r) = (Tow.nf a b).map (callM r) := by
  rw [nf_head, nf_head, c.lows ha hb hl, List.head?_map]
theorem Call.atN {r : Int → Int} (c : Call r) : ∀ (n : Nat) {b e : Int} (k : Nat), Pg b → Pg e → b ≠ e → atN n (r b) (r e) k = (Tow.atN n b e k).map r
  | 0, _, _, _, _, _, _ => rfl
  | n + 1, b, e, k, hb, he, ne => by
    have pf : Pg (3 - b - e) := ⟨by omega, by omega⟩
    have un : ∀ (x y : Int), Tow.atN (n + 1) x y k = if k < 2 ^ n then x :: Tow.atN n x (3 - x - y) k else y :: Tow.atN n (3 - x - y) y (k - 2 ^ n) := fun _ _ => rfl
    rw [un, un, ← c.third hb he ne]
    split
    · rw [c.atN n k hb pf (by omega)]
      rfl
    · rw [c.atN n _ pf he (by omega)]
      rfl
end Tow
/-! # The ways themselves; plain Lean. Lists of pegs run from the greatest disc to the least -/
namespace Tow
inductive Pth : List Int → List (Nat × Int) → List Int → Prop
  | nil (a : List Int) : Pth a [] a
  | cons {a b c : List Int} {m : Nat × Int} {ms : List (Nat × Int)} (h : Mv a m b) (t : Pth b ms c) : Pth a (m :: ms) c
theorem Pth.app {a b c : List Int} {ms ns : List (Nat × Int)} (h : Pth a ms b) (k : Pth b ns c) : Pth a (ms ++ ns) c := by
  induction h with
  | nil a => exact k
  | cons h t ih => exact .cons h (ih k)
theorem Pth.under (x : Int) {a b : List Int} {ms : List (Nat × Int)} (h : Pth a ms b) : Pth (x :: a) ms (x :: b) := by
  induction h with
  | nil a => exact .nil _
  | cons h t ih => exact .cons (h.cons x) ih
/-- the greatest disc's move, all lesser ones on q -/
theorem Mv.top {g p q : Int} {n : Nat} (hg : Pg g) (hp : Pg p) (hq : Pg q) (gp : g ≠ p) (gq : g ≠ q) (pq : p ≠ q) : Mv (g :: List.replicate n q) (n, p) (p :: List.replicate n q) := .mk [] g p q n hg hp hq gp gq pq
/-- all of n discs from f to t -/
def tm : Nat → Int → Int → List (Nat × Int)
  | 0, _, _ => []
  | n + 1, f, t => tm n f (3 - f - t) ++ (n, t) :: tm n (3 - f - t) t
def ptw : List Int → Int → List (Nat × Int)
  | [], _ => []
  | g :: rs, t => if g = t then ptw rs t else ptw rs (3 - g - t) ++ (rs.length, t) :: tm rs.length (3 - g - t) t
def pfr : List Int → Int → List (Nat × Int)
  | [], _ => []
  | g :: rs, t => if g = t then pfr rs t else tm rs.length t (3 - g - t) ++ (rs.length, g) :: pfr rs (3 - g - t)
theorem tm_pth : ∀ (n : Nat) {f t : Int}, Pg f → Pg t → f ≠ t → Pth (List.replicate n f) (tm n f t) (List.replicate n t)
  | 0, _, _, _, _, _ => .nil _
  | n + 1, f, t, hf, ht, ne => by
    have hq : Pg (3 - f - t) := ⟨by omega, by omega⟩
    have h1 := (tm_pth n hf hq (by omega)).under f
    have h2 := (tm_pth n hq ht (by omega)).under t
    exact h1.app (.cons (Mv.top hf ht hq ne (by omega) (by omega)) h2)
theorem tm_len : ∀ (n : Nat) (f t : Int), ((tm n f t).length : Int) = 2 ^ n - 1
  | 0, _, _ => rfl
  | n + 1, f, t => by
    have h1 := tm_len n f (3 - f - t)
    have h2 := tm_len n (3 - f - t) t
    show ((tm n f (3 - f - t) ++ (n, t) :: tm n (3 - f - t) t).length : Int) = _
    rw [List.length_append, List.length_cons, two_succ]
    omega
theorem tm_lt : ∀ (n : Nat) {f t : Int} {m : Nat × Int}, m ∈ tm n f t → m.1 < n
  | 0, _, _, _, h => by cases h
  | n + 1, f, t, m, h => by
    rcases List.mem_append.mp (show m ∈ tm n f (3 - f - t) ++ (n, t) :: tm n (3 - f - t) t from h) with z | z
    · exact Nat.lt_succ_of_lt (tm_lt n z)
    · rcases List.mem_cons.mp z with z | z
      · rw [z]
        exact Nat.lt_succ_self _
      · exact Nat.lt_succ_of_lt (tm_lt n z)
theorem ptw_cons (g : Int) (rs : List Int) (t : Int) : ptw (g :: rs) t = if g = t then ptw rs t else ptw rs (3 - g - t) ++ (rs.length, t) :: tm rs.length (3 - g - t) t := rfl
theorem pfr_cons (g : Int) (rs : List Int) (t : Int) : pfr (g :: rs) t = if g = t then pfr rs t else tm rs.length t (3 - g - t) ++ (rs.length, g) :: pfr rs (3 - g - t) := rfl
theorem tw_cons (g : Int) (rs : List Int) (t : Int) : tw (g :: rs) t = (if g = t then 0 else 2 ^ rs.length) + tw rs (nxt g t) := rfl
theorem ptw_pth : ∀ {rs : List Int} {t : Int}, Pgs rs → Pg t → Pth rs (ptw rs t) (List.replicate rs.length t)
  | [], _, _, _ => .nil _
  | g :: rs, t, h, ht => by
    have pg := h g List.mem_cons_self
    have prs : Pgs rs := fun x hx => h x (List.mem_cons_of_mem _ hx)
    rw [ptw_cons, List.length_cons, List.replicate_succ]
    by_cases e : g = t
    · rw [if_pos e, e]
      exact (ptw_pth prs ht).under t
    · have hq : Pg (3 - g - t) := ⟨by omega, by omega⟩
      rw [if_neg e]
      exact ((ptw_pth prs hq).under g).app (.cons (Mv.top pg ht hq e (by omega) (by omega)) ((tm_pth _ hq ht (by omega)).under t))
theorem pfr_pth : ∀ {rs : List Int} {t : Int}, Pgs rs → Pg t → Pth (List.replicate rs.length t) (pfr rs t) rs
  | [], _, _, _ => .nil _
  | g :: rs, t, h, ht => by
    have pg := h g List.mem_cons_self
    have prs : Pgs rs := fun x hx => h x (List.mem_cons_of_mem _ hx)
    rw [pfr_cons, List.length_cons, List.replicate_succ]
    by_cases e : g = t
    · rw [if_pos e, e]
      exact (pfr_pth prs ht).under t
    · have hq : Pg (3 - g - t) := ⟨by omega, by omega⟩
      rw [if_neg e]
      exact ((tm_pth _ ht hq (by omega)).under t).app (.cons (Mv.top ht pg hq (Ne.symm e) (by omega) (by omega)) ((pfr_pth prs hq).under g))
theorem ptw_len : ∀ (rs : List Int) (t : Int), ((ptw rs t).length : Int) = tw rs t
  | [], _ => rfl
  | g :: rs, t => by
    rw [ptw_cons, tw_cons]
    unfold nxt
    by_cases e : g = t
    · rw [if_pos e, if_pos e, if_pos e, ptw_len rs t, Int.zero_add]
    · have h1 := ptw_len rs (3 - g - t)
      have h2 := tm_len rs.length (3 - g - t) t
      rw [if_neg e, if_neg e, if_neg e, List.length_append, List.length_cons]
      omega
theorem pfr_len : ∀ (rs : List Int) (t : Int), ((pfr rs t).length : Int) = tw rs t
  | [], _ => rfl
  | g :: rs, t => by
    rw [pfr_cons, tw_cons]
    unfold nxt
    by_cases e : g = t
    · rw [if_pos e, if_pos e, if_pos e, pfr_len rs t, Int.zero_add]
    · have h1 := pfr_len rs (3 - g - t)
      have h2 := tm_len rs.length t (3 - g - t)
      rw [if_neg e, if_neg e, if_neg e, List.length_append, List.length_cons]
      omega
theorem ptw_lt : ∀ {rs : List Int} {t : Int} {m : Nat × Int}, m ∈ ptw rs t → m.1 < rs.length
  | [], _, _, h => by cases h
  | g :: rs, t, m, h => by
    rw [ptw_cons] at h
    rw [List.length_cons]
    by_cases e : g = t
    · rw [if_pos e] at h
      exact Nat.lt_succ_of_lt (ptw_lt h)
    · rw [if_neg e] at h
      rcases List.mem_append.mp h with z | z
      · exact Nat.lt_succ_of_lt (ptw_lt z)
      · rcases List.mem_cons.mp z with z | z
        · rw [z]
          exact Nat.lt_succ_self _
        · exact Nat.lt_succ_of_lt (tm_lt _ z)
theorem pfr_lt : ∀ {rs : List Int} {t : Int} {m : Nat × Int}, m ∈ pfr rs t → m.1 < rs.length
  | [], _, _, h => by cases h
  | g :: rs, t, m, h => by
    rw [pfr_cons] at h
    rw [List.length_cons]
    by_cases e : g = t
    · rw [if_pos e] at h
      exact Nat.lt_succ_of_lt (pfr_lt h)
    · rw [if_neg e] at h
      rcases List.mem_append.mp h with z | z
      · exact Nat.lt_succ_of_lt (tm_lt _ z)
      · rcases List.mem_cons.mp z with z | z
        · rw [z]
          exact Nat.lt_succ_self _
        · exact Nat.lt_succ_of_lt (pfr_lt z)
theorem ptw_head : ∀ (rs : List Int) (t : Int), (ptw rs t).head? = nm rs t
  | [], _ => rfl
  | g :: rs, t => by
    have un : nm (g :: rs) t = (match nm rs (nxt g t) with | some m => some m | none => if g = t then none else some (rs.length, t)) := rfl
    rw [ptw_cons, un]
    unfold nxt
    by_cases e : g = t
    · rw [if_pos e, if_pos e, if_pos e, ptw_head rs t]
      cases nm rs t <;> rfl
    · rw [if_neg e, if_neg e, if_neg e, List.head?_append, ptw_head rs (3 - g - t)]
      cases nm rs (3 - g - t) <;> rfl
/-- by which the greatest disc on unlike pegs goes once, twice -/
def way1 (g h : Int) (as bs : List Int) : List (Nat × Int) := ptw as (3 - g - h) ++ (as.length, h) :: pfr bs (3 - g - h)
def way2 (g h : Int) (as bs : List Int) : List (Nat × Int) := ptw as h ++ (as.length, 3 - g - h) :: (tm as.length h g ++ (as.length, h) :: pfr bs g)
def wys : List Int → List Int → List (List (Nat × Int))
  | g :: as, h :: bs => if g = h then wys as bs else (if once g h as bs ≤ twice g h as bs then [way1 g h as bs] else []) ++ (if twice g h as bs ≤ once g h as bs then [way2 g h as bs] else [])
  | _, _ => [[]]
theorem way1_ok {g h : Int} {as bs : List Int} (ha : Pgs (g :: as)) (hb : Pgs (h :: bs)) (hl : as.length = bs.length) (ne : g ≠ h) : Pth (g :: as) (way1 g h as bs) (h :: bs) ∧ ((way1 g h as bs).length : Int) = once g h as bs := by
  have pg := ha g List.mem_cons_self
  have ph := hb h List.mem_cons_self
  have pas : Pgs as := fun x hx => ha x (List.mem_cons_of_mem _ hx)
  have pbs : Pgs bs := fun x hx => hb x (List.mem_cons_of_mem _ hx)
  have pf : Pg (3 - g - h) := ⟨by omega, by omega⟩
  have q := (pfr_pth pbs pf).under h
  rw [← hl] at q
  refine ⟨((ptw_pth pas pf).under g).app (.cons (Mv.top pg ph pf ne (by omega) (by omega)) q), ?_⟩
  have h1 := ptw_len as (3 - g - h)
  have h2 := pfr_len bs (3 - g - h)
  unfold way1 once
  rw [List.length_append, List.length_cons]
  omega
theorem way2_ok {g h : Int} {as bs : List Int} (ha : Pgs (g :: as)) (hb : Pgs (h :: bs)) (hl : as.length = bs.length) (ne : g ≠ h) : Pth (g :: as) (way2 g h as bs) (h :: bs) ∧ ((way2 g h as bs).length : Int) = twice g h as bs := by
  have pg := ha g List.mem_cons_self
  have ph := hb h List.mem_cons_self
  have pas : Pgs as := fun x hx => ha x (List.mem_cons_of_mem _ hx)
  have pbs : Pgs bs := fun x hx => hb x (List.mem_cons_of_mem _ hx)
  have pf : Pg (3 - g - h) := ⟨by omega, by omega⟩
  have q := (pfr_pth pbs pg).under h
  rw [← hl] at q
  refine ⟨((ptw_pth pas ph).under g).app (.cons (Mv.top pg pf ph (by omega) ne (by omega)) (((tm_pth _ ph pg (Ne.symm ne)).under (3 - g - h)).app (.cons (Mv.top pf ph pg (by omega) (by omega) (Ne.symm ne)) q))), ?_⟩
  have h1 := ptw_len as h
  have h2 := pfr_len bs g
  have h3 := tm_len as.length h g
  unfold way2 twice
  rw [List.length_append, List.length_cons, List.length_append, List.length_cons]
  omega
/-- each is a way, and as long as it is far; as many as many ways -/
theorem wys_ok : ∀ {a b : List Int} {w : List (Nat × Int)}, Pgs a → Pgs b → a.length = b.length → w ∈ wys a b → Pth a w b ∧ (w.length : Int) = fr a b
  | [], [], w, _, _, _, hw => by
    rw [List.mem_singleton.mp (show w ∈ [[]] from hw)]
    exact ⟨.nil _, rfl⟩
  | [], _ :: _, _, _, _, hl, _ => by cases hl
  | _ :: _, [], _, _, _, hl, _ => by cases hl
  | g :: as, h :: bs, w, ha, hb, hl, hw => by
    have hl' : as.length = bs.length := Nat.succ.inj hl
    have pas : Pgs as := fun x hx => ha x (List.mem_cons_of_mem _ hx)
    have pbs : Pgs bs := fun x hx => hb x (List.mem_cons_of_mem _ hx)
    have un : wys (g :: as) (h :: bs) = if g = h then wys as bs else (if once g h as bs ≤ twice g h as bs then [way1 g h as bs] else []) ++ (if twice g h as bs ≤ once g h as bs then [way2 g h as bs] else []) := rfl
    have uf : fr (g :: as) (h :: bs) = if g = h then fr as bs else min (once g h as bs) (twice g h as bs) := rfl
    rw [un] at hw
    rw [uf]
    by_cases e : g = h
    · rw [if_pos e] at hw ⊢
      obtain ⟨h1, h2⟩ := wys_ok pas pbs hl' hw
      rw [e]
      exact ⟨h1.under h, h2⟩
    · rw [if_neg e] at hw ⊢
      rcases List.mem_append.mp hw with z | z
      · split at z
        · rename_i c
          rw [List.mem_singleton.mp z]
          obtain ⟨h1, h2⟩ := way1_ok ha hb hl' e
          exact ⟨h1, by omega⟩
        · cases z
      · split at z
        · rename_i c
          rw [List.mem_singleton.mp z]
          obtain ⟨h1, h2⟩ := way2_ok ha hb hl' e
          exact ⟨h1, by omega⟩
        · cases z
theorem wys_count : ∀ {a b : List Int}, (wys a b).length = mw a b
  | [], _ => by
    unfold wys mw
    rfl
  | _ :: _, [] => by
    unfold wys mw
    rfl
  | g :: as, h :: bs => by
    show (if g = h then wys as bs else (if once g h as bs ≤ twice g h as bs then [way1 g h as bs] else []) ++ (if twice g h as bs ≤ once g h as bs then [way2 g h as bs] else [])).length = (if g = h then mw as bs else if once g h as bs = twice g h as bs then 2 else 1)
    by_cases e : g = h
    · rw [if_pos e, if_pos e]
      exact wys_count
    · rw [if_neg e, if_neg e]
      by_cases c : once g h as bs = twice g h as bs
      · rw [if_pos c, if_pos (by omega), if_pos (by omega)]
        rfl
      · rw [if_neg c]
        by_cases c2 : once g h as bs ≤ twice g h as bs
        · rw [if_pos c2, if_neg (by omega)]
          rfl
        · rw [if_neg c2, if_pos (by omega)]
          rfl
theorem filter_none {ms : List (Nat × Int)} {n : Nat} (h : ∀ m ∈ ms, m.1 < n) : ms.filter (fun m => decide (m.1 = n)) = [] := by
  rw [List.filter_eq_nil_iff]
  intro m hm z
  have l := h m hm
  have e := of_decide_eq_true z
  omega
/-- how often the greatest unlike disc goes -/
theorem way1_goes {g h : Int} {as bs : List Int} (hl : as.length = bs.length) : ((way1 g h as bs).filter fun m => decide (m.1 = as.length)).length = 1 := by
  unfold way1
  rw [List.filter_append, filter_none fun m hm => ptw_lt hm, List.filter_cons_of_pos (by exact decide_eq_true rfl), filter_none fun m hm => by rw [hl]; exact pfr_lt hm]
  rfl
theorem way2_goes {g h : Int} {as bs : List Int} (hl : as.length = bs.length) : ((way2 g h as bs).filter fun m => decide (m.1 = as.length)).length = 2 := by
  unfold way2
  rw [List.filter_append, filter_none fun m hm => ptw_lt hm, List.filter_cons_of_pos (by exact decide_eq_true rfl), List.filter_append, filter_none fun m hm => tm_lt _ hm, List.filter_cons_of_pos (by exact decide_eq_true rfl), filter_none fun m hm => by rw [hl]; exact pfr_lt hm]
  rfl
/-- the first move of the told way -/
theorem wys_first : ∀ {a b : List Int}, a.length = b.length → a ≠ b → ∃ w ws, wys a b = w :: ws ∧ w.head? = nf a b
  | [], [], _, ne => absurd rfl ne
  | [], _ :: _, hl, _ => by cases hl
  | _ :: _, [], hl, _ => by cases hl
  | g :: as, h :: bs, hl, ne => by
    have un : wys (g :: as) (h :: bs) = if g = h then wys as bs else (if once g h as bs ≤ twice g h as bs then [way1 g h as bs] else []) ++ (if twice g h as bs ≤ once g h as bs then [way2 g h as bs] else []) := rfl
    have uf : nf (g :: as) (h :: bs) = if g = h then nf as bs else if once g h as bs ≤ twice g h as bs then (match nm as (3 - g - h) with | some m => some m | none => some (as.length, h)) else (match nm as h with | some m => some m | none => some (as.length, 3 - g - h)) := rfl
    rw [un, uf]
    by_cases e : g = h
    · rw [if_pos e, if_pos e]
      exact wys_first (Nat.succ.inj hl) fun q => ne (by rw [e, q])
    · rw [if_neg e, if_neg e]
      by_cases c : once g h as bs ≤ twice g h as bs
      · rw [if_pos c, if_pos c]
        refine ⟨_, _, rfl, ?_⟩
        unfold way1
        rw [List.head?_append, ptw_head]
        cases nm as (3 - g - h) <;> rfl
      · rw [if_neg c, if_neg c, if_pos (by omega)]
        refine ⟨_, _, rfl, ?_⟩
        unfold way2
        rw [List.head?_append, ptw_head]
        cases nm as h <;> rfl
end Tow
/-! # What the program makes on its way: due moves, the greatest unlike disc; plain Lean. Lists of pegs run from the greatest disc to the least -/
namespace Tow
/-- the moves of each disc that must go, the greatest first -/
def dueL : List Int → Int → List (Int × Int)
  | [], _ => []
  | g :: rs, t => if g = t then dueL rs t else ((rs.length : Int), t) :: dueL rs (3 - g - t)
theorem due_cons (g : Int) (rs : List Int) (t : Int) : dueL (g :: rs) t = if g = t then dueL rs t else ((rs.length : Int), t) :: dueL rs (3 - g - t) := rfl
theorem due_len : ∀ (rs : List Int) (t : Int), (dueL rs t).length ≤ rs.length
  | [], _ => Nat.le_refl _
  | g :: rs, t => by
    rw [due_cons, List.length_cons]
    by_cases e : g = t
    · rw [if_pos e]
      exact Nat.le_succ_of_le (due_len rs t)
    · rw [if_neg e, List.length_cons]
      exact Nat.succ_le_succ (due_len rs _)
theorem due_mem : ∀ {rs : List Int} {t : Int} {q : Int × Int}, q ∈ dueL rs t → ∃ i : Nat, i < rs.length ∧ q.1 = (i : Int)
  | [], _, _, h => by cases h
  | g :: rs, t, q, h => by
    rw [due_cons] at h
    by_cases e : g = t
    · rw [if_pos e] at h
      obtain ⟨i, h1, h2⟩ := due_mem h
      exact ⟨i, Nat.lt_succ_of_lt h1, h2⟩
    · rw [if_neg e] at h
      rcases List.mem_cons.mp h with z | z
      · exact ⟨rs.length, Nat.lt_succ_self _, by rw [z]⟩
      · obtain ⟨i, h1, h2⟩ := due_mem z
        exact ⟨i, Nat.lt_succ_of_lt h1, h2⟩
/-- all that are due together -/
theorem due_sum : ∀ (rs : List Int) (t : Int), ((dueL rs t).map fun q => (2 : Int) ^ q.1.toNat).sum = tw rs t
  | [], _ => rfl
  | g :: rs, t => by
    have un : tw (g :: rs) t = (if g = t then 0 else 2 ^ rs.length) + tw rs (nxt g t) := rfl
    rw [due_cons, un]
    unfold nxt
    by_cases e : g = t
    · rw [if_pos e, if_pos e, if_pos e, due_sum rs t, Int.zero_add]
    · rw [if_neg e, if_neg e, if_neg e, List.map_cons, List.sum_cons, due_sum rs, Int.toNat_natCast]
/-- the last of them is the first move -/
def toI (m : Nat × Int) : Int × Int := ((m.1 : Int), m.2)
theorem due_last : ∀ (rs : List Int) (t : Int), (dueL rs t).getLast? = (nm rs t).map toI
  | [], _ => rfl
  | g :: rs, t => by
    have un : nm (g :: rs) t = (match nm rs (nxt g t) with | some m => some m | none => if g = t then none else some (rs.length, t)) := rfl
    rw [due_cons, un]
    unfold nxt
    by_cases e : g = t
    · rw [if_pos e, if_pos e, if_pos e, due_last rs t]
      cases nm rs t <;> rfl
    · rw [if_neg e, if_neg e, if_neg e]
      have ih := due_last rs (3 - g - t)
      cases h : nm rs (3 - g - t) with
      | none =>
        rw [h] at ih
        have z : dueL rs (3 - g - t) = [] := List.getLast?_eq_none_iff.mp ih
        rw [z]
        rfl
      | some m =>
        rw [h] at ih
        cases hd : dueL rs (3 - g - t) with
        | nil =>
          rw [hd] at ih
          cases ih
        | cons x xs =>
          rw [hd] at ih
          rw [List.getLast?_cons_cons]
          exact ih
/-- the greatest disc on unlike pegs -/
def gu : List Int → List Int → Option Nat
  | g :: as, h :: bs => if g = h then gu as bs else some as.length
  | _, _ => none
theorem gu_cons (g h : Int) (as bs : List Int) : gu (g :: as) (h :: bs) = if g = h then gu as bs else some as.length := rfl
/-- the disc, and both counts -/
def ch : List Int → List Int → Option (Nat × Int × Int)
  | g :: as, h :: bs => if g = h then ch as bs else some (as.length, once g h as bs, twice g h as bs)
  | _, _ => none
theorem gu_split : ∀ {R S : List Int} {i : Nat}, R.length = S.length → gu R S = some i → ∃ A g as h bs, R = A ++ g :: as ∧ S = A ++ h :: bs ∧ g ≠ h ∧ as.length = i ∧ bs.length = i
  | [], [], _, _, e => by cases e
  | [], _ :: _, _, hl, _ => by cases hl
  | _ :: _, [], _, hl, _ => by cases hl
  | g :: as, h :: bs, i, hl, e => by
    have hl' : as.length = bs.length := by simpa using hl
    rw [gu_cons] at e
    by_cases c : g = h
    · rw [if_pos c] at e
      obtain ⟨A, g', as', h', bs', e1, e2, q⟩ := gu_split hl' e
      exact ⟨g :: A, g', as', h', bs', by rw [e1]; rfl, by rw [c, e2]; rfl, q⟩
    · rw [if_neg c] at e
      have ei : as.length = i := by simpa using e
      exact ⟨[], g, as, h, bs, rfl, rfl, c, ei, by omega⟩
theorem gu_none : ∀ {R S : List Int}, R.length = S.length → (gu R S = none ↔ R = S)
  | [], [], _ => ⟨fun _ => rfl, fun _ => rfl⟩
  | [], _ :: _, hl => by cases hl
  | _ :: _, [], hl => by cases hl
  | g :: as, h :: bs, hl => by
    have hl' : as.length = bs.length := by simpa using hl
    rw [gu_cons]
    by_cases c : g = h
    · subst c
      rw [if_pos rfl, gu_none hl']
      exact ⟨fun e => by rw [e], fun e => by injection e⟩
    · rw [if_neg c]
      exact ⟨fun e => (nomatch e), fun e => absurd (by injection e) c⟩
theorem ch_app : ∀ (A : List Int) (R S : List Int), ch (A ++ R) (A ++ S) = ch R S
  | [], _, _ => rfl
  | a :: A, R, S => by
    show (if a = a then ch (A ++ R) (A ++ S) else _) = _
    rw [if_pos rfl]
    exact ch_app A R S
theorem ch_at {g h : Int} (ne : g ≠ h) (as bs : List Int) : ch (g :: as) (h :: bs) = some (as.length, once g h as bs, twice g h as bs) := by
  show (if g = h then _ else _) = _
  rw [if_neg ne]
theorem ch_gu : ∀ (R S : List Int), (ch R S).map (·.1) = gu R S
  | [], _ => by
    unfold ch gu
    rfl
  | _ :: _, [] => by
    unfold ch gu
    rfl
  | g :: as, h :: bs => by
    show (if g = h then ch as bs else _).map _ = if g = h then _ else _
    by_cases c : g = h
    · rw [if_pos c, if_pos c]
      exact ch_gu as bs
    · rw [if_neg c, if_neg c]
      rfl
/-- how far, how many ways, the first move, by both counts -/
theorem fr_ch : ∀ (R S : List Int), fr R S = match ch R S with | none => 0 | some (_, a, b) => min a b
  | [], _ => by
    unfold ch fr
    rfl
  | _ :: _, [] => by
    unfold ch fr
    rfl
  | g :: as, h :: bs => by
    show (if g = h then fr as bs else _) = match (if g = h then ch as bs else _) with | none => 0 | some (_, a, b) => min a b
    by_cases c : g = h
    · rw [if_pos c, if_pos c]
      exact fr_ch as bs
    · rw [if_neg c, if_neg c]
theorem mw_ch : ∀ (R S : List Int), mw R S = match ch R S with | none => 1 | some (_, a, b) => if a = b then 2 else 1
  | [], _ => by
    unfold ch mw
    rfl
  | _ :: _, [] => by
    unfold ch mw
    rfl
  | g :: as, h :: bs => by
    show (if g = h then mw as bs else _) = match (if g = h then ch as bs else _) with | none => 1 | some (_, a, b) => if a = b then 2 else 1
    by_cases c : g = h
    · rw [if_pos c, if_pos c]
      exact mw_ch as bs
    · rw [if_neg c, if_neg c]
theorem nf_app : ∀ (A : List Int) (R S : List Int), nf (A ++ R) (A ++ S) = nf R S
  | [], _, _ => rfl
  | a :: A, R, S => by
    show (if a = a then nf (A ++ R) (A ++ S) else _) = _
    rw [if_pos rfl]
    exact nf_app A R S
/-- the first move, as the last of those that are due for the disc -/
theorem nf_due {g h : Int} (hg : Pg g) (hh : Pg h) (ne : g ≠ h) (as bs : List Int) : (dueL (g :: as) (if twice g h as bs < once g h as bs then 3 - g - h else h)).getLast? = (nf (g :: as) (h :: bs)).map toI := by
  have un : nf (g :: as) (h :: bs) = if once g h as bs ≤ twice g h as bs then (match nm as (3 - g - h) with | some m => some m | none => some (as.length, h)) else (match nm as h with | some m => some m | none => some (as.length, 3 - g - h)) := by
    show (if g = h then _ else _) = _
    rw [if_neg ne] <;> rfl
  rw [un, due_last]
  have one (t : Int) (nt : g ≠ t) : nm (g :: as) t = (match nm as (3 - g - t) with | some m => some m | none => some (as.length, t)) := by
    show (match nm as (nxt g t) with | some m => some m | none => if g = t then none else some (as.length, t)) = _
    unfold nxt
    rw [if_neg nt, if_neg nt]
  by_cases c : twice g h as bs < once g h as bs
  · rw [if_pos c, if_neg (by omega)]
    by_cases nt : g = 3 - g - h
    · exfalso
      obtain ⟨g0, g3⟩ := hg
      obtain ⟨h0, h3⟩ := hh
      omega
    · rw [one _ nt]
      have e : 3 - g - (3 - g - h) = h := by omega
      rw [e]
  · rw [if_neg c, if_pos (by omega), one h ne]
end Tow
namespace Tow
theorem due_drop {R : List Int} {k : Nat} (h : k < R.length) (t : Int) : dueL (R.drop k) t = if R[k] = t then dueL (R.drop (k + 1)) t else (((R.length - 1 - k : Nat) : Int), t) :: dueL (R.drop (k + 1)) (3 - R[k] - t) := by
  rw [List.drop_eq_getElem_cons h, due_cons, List.length_drop]
  have e : R.length - (k + 1) = R.length - 1 - k := by omega
  rw [e]
theorem gu_drop {R S : List Int} {k : Nat} (h : k < R.length) (hs : k < S.length) : gu (R.drop k) (S.drop k) = if R[k] = S[k] then gu (R.drop (k + 1)) (S.drop (k + 1)) else some (R.length - 1 - k) := by
  rw [List.drop_eq_getElem_cons h, List.drop_eq_getElem_cons hs, gu_cons, List.length_drop]
  have e : R.length - (k + 1) = R.length - 1 - k := by omega
  rw [e]
end Tow
namespace Peg
open PySem PySem.Spec PyProof.Rows L2 DX
def top (i : Nat) : Stmt := PySem.Challenge.pw_pegdiscs_k08_by_going_out.main.body.getD i (.Pass ⟨0, 0, 0, 0⟩)
abbrev sWhole : Stmt := top 7
abbrev sPeg : Stmt := top 8
/-- what the program's top has left -/
structure Txt (K : PySem.W.Frag) (mg : Str → Option Value) : Prop where
  type : mg "type" = none
  len : mg "len" = none
  int : mg "int" = none
  tuple : mg "tuple" = none

def RWhole : List D → Out → Prop := fun ds o => ∃ d n m, ds = [d, .int m] ∧ Kd d n ∧ o = .ret (.v (.bl (isW d m)))
section
variable {P : Program} {w : World} {K : PySem.W.Frag} {mg : Str → Option Value} {base : Heap} {T : List Addr}
theorem scWhole : FnScope ["thing", "most"] ["thing", "most"] (defScope sWhole) := ⟨rfl, rfl, rfl, by decide +kernel, rfl, by decide +kernel, by decide +kernel⟩
theorem kn_whole {f : Addr} {fd : FuncData} (F : Fun K "is_whole" "is_whole" sWhole f fd) (Z : Txt K mg) (hm : mg "is_whole" = some (.ref f)) (hb : Binds K fd ["thing", "most"] []) : Kn P w K mg base T 1 "is_whole" RWhole := by
  refine kn_mk F scWhole hm hb (fun ds o h => ?_) (fun cdv A outer s B H E ds o hr h xw => ?_)
  · obtain ⟨d, n, m, rfl, _⟩ := h
    rfl
  · obtain ⟨d, n, m, rfl, kd, rfl⟩ := h
    show PXs _ T B H [.v d, .v (.int m)] _ _
    have e : isW d m = (decide (n = "int") && isW d m) := by
      cases kd <;> first | rfl | simp [isW]
    rw [e]
    refine px_one (px_ret (pd_and (pd_cmp (pd_tmp (pd_bty (cl_type kd) Z.type (pas_cons (pd_var (i := 0) rfl) pas_nil))) (pd_tmp (pd_ty Z.int)) (cd_eqTy kd)) fun h => pd_and1 ?_) rfl)
    obtain ⟨i, rfl⟩ := kd.int_inv (of_decide_eq_true h)
    exact pd_chainII op_le op_le pd_int (pd_var (i := 0) rfl) (pd_var (i := 1) rfl)
end
end Peg
namespace Peg
open PySem PySem.Spec PyProof.Rows L2 DX
def RPeg : List D → Out → Prop := fun ds o => ∃ d n, ds = [d] ∧ Kd d n ∧ o = .ret (.v (.bl (isW d 2)))
def canGo (xs : List Int) (n : Nat) (p : Int) : Bool := !decide (p = xs.getD n 0) && (!decide (xs.getD n 0 ∈ xs.take n) && !decide (p ∈ xs.take n))
def RGo : List D → Out → Prop := fun ds o => ∃ (xs : List Int) (n : Nat) (p : Int), ds = [tI xs, .int n, .int p] ∧ n < xs.length ∧ o = .ret (.v (.bl (canGo xs n p)))
def RBehind : List D → Out → Prop := fun ds o => ∃ (xs : List Int) (n : Nat) (p : Int), ds = [tI xs, .tup [.int n, .int p]] ∧ n < xs.length ∧ xs.length ≤ 1000 ∧ o = .ret (.v (tI (xs.set n p)))
section
variable {P : Program} {w : World} {K : PySem.W.Frag} {mg : Str → Option Value} {base : Heap} {T : List Addr}
theorem scPeg : FnScope ["thing"] ["thing"] (defScope sPeg) := ⟨rfl, rfl, rfl, by decide +kernel, rfl, by decide +kernel, by decide +kernel⟩
theorem kn_peg {f : Addr} {fd : FuncData} (F : Fun K "is_peg" "is_peg" sPeg f fd) (Z : Txt K mg) (hm : mg "is_peg" = some (.ref f)) (hb : Binds K fd ["thing"] []) (c : Kn P w K mg base T 1 "is_whole" RWhole) : Kn P w K mg base T 2 "is_peg" RPeg := by
  refine kn_mk F scPeg hm hb (fun ds o h => ?_) (fun cdv A outer s B H E ds o hr h xw => ?_)
  · obtain ⟨d, n, rfl, _⟩ := h
    rfl
  · obtain ⟨d, n, rfl, kd, rfl⟩ := h
    show PXs _ T B H [.v d] _ _
    exact px_one (px_ret (pd_call c hr (pas_cons (pd_var (i := 0) rfl) (pas_cons pd_int pas_nil)) ⟨_, _, _, rfl, kd, rfl⟩) rfl)
end
end Peg
namespace Peg
open PySem PySem.Spec PyProof.Rows L2 DX
abbrev sSetting : Stmt := top 9
abbrev sCheck : Stmt := top 10
def longer : D → Bool
  | .tup xs => decide ((60 : Int) < (xs.length : Int))
  | _ => false
/-- is it a setting -/
def isSet : D → Bool
  | .tup ds => decide (ds.length ≤ 60) && ds.all fun d => isW d 2
  | _ => false
def KdA : D → Prop
  | .tup ds => ∀ d ∈ ds, ∃ n, Kd d n
  | _ => True
def RSetting : List D → Out → Prop := fun ds o => ∃ d n, ds = [d] ∧ Kd d n ∧ KdA d ∧ o = .ret (.v (.bl (isSet d)))
structure Txt2 (K : PySem.W.Frag) (mg : Str → Option Value) : Prop where
  all : mg "all" = none
  most : ∃ t, mg "MOST_DISCS" = some (.int 60 t)
section
variable {P : Program} {w : World} {K : PySem.W.Frag} {mg : Str → Option Value} {base : Heap} {T : List Addr}
theorem scSetting : FnScope ["thing"] ["thing"] (defScope sSetting) := ⟨rfl, rfl, rfl, by decide +kernel, rfl, by decide +kernel, by decide +kernel⟩
theorem kn_setting {f c Pt g : Addr} {oc : Value} {od an : Option Addr} {osl : Array (Option Value)} {kV doc pm ct : Value} 
    (lk : K.lookup f = some ⟨oc, od, .func (PySem.W.fnOf "is_setting" "is_setting" (defArgs sSetting) (defBody sSetting) (defScope sSetting) .none kV doc pm an (.ref c) ct), osl⟩) (hcd : PySem.W.codeIn K (.ref c) "is_setting" = true) (kp : PySem.W.keepIn K (.ref f) = true)
    (Z : Txt K mg) (Z2 : Txt2 K mg) (hm : mg "is_setting" = some (.ref f)) (hb : Binds K (PySem.W.fnOf "is_setting" "is_setting" (defArgs sSetting) (defBody sSetting) (defScope sSetting) .none kV doc pm an (.ref c) ct) ["thing"] [])
    (W : GX.Two K mg g) (hg : mg "is_peg" = some (.ref g)) (hP : Pt ∈ T) (TB : GxR.TabB base mg c Pt) : Kn P w K mg base T 3 "is_setting" RSetting := by
  refine kn_mkC lk hcd kp scSetting hm hb (fun ds o h => ?_) (fun A outer s B H E ds o hr h xw => ?_)
  · obtain ⟨d, n, rfl, _⟩ := h
    rfl
  · obtain ⟨d, n, rfl, kd, ka, rfl⟩ := h
    show PXs _ T B H [.v d] _ _
    have lenD : n = "tuple" → ∃ xs, d = .tup xs := fun e => kd.tup_inv e
    obtain ⟨tk, hmost⟩ := Z2.most
    refine px_cons (N := fun z => z = [Sl.v d] ∧ ∃ xs, d = .tup xs ∧ xs.length ≤ 60) (px_if (k := (!decide (n = "tuple")) || longer d) (pb_bool (pwb_or (pb_cmp (pd_tmp (pd_bty (cl_type kd) Z.type (pas_cons (pd_var (i := 0) rfl) pas_nil))) (pd_tmp (pd_ty Z.tuple)) (cd_neTy kd)) fun h => ?_)) (fun h => ?_) fun h => ?_) ?_
    · have e : n = "tuple" := by simpa using h
      obtain ⟨xs, rfl⟩ := lenD e
      exact pwb_or1 (pb_cmp (pd_tmp (pd_blt (cl_len rfl) Z.len (pas_cons (pd_var (i := 0) rfl) pas_nil))) (pd_tmp (pd_glob (v := .int 60) hmost ⟨_, rfl⟩ fun _ => .int 60)) cd_gt)
    · refine px_end (px_ret pd_bl ?_)
      show Sl.v _ = Sl.v _
      have e : isSet d = false := by
        cases kd <;> first | rfl | skip
        rename_i xs
        have h' : (60 : Int) < (xs.length : Int) := by simpa [longer] using h
        show (decide (xs.length ≤ 60) && _) = false
        rw [decide_eq_false (by omega)]
        rfl
      rw [e]
    · refine px_nil ⟨rfl, ?_⟩
      simp only [Bool.or_eq_false_iff] at h
      have e : n = "tuple" := by simpa using h.1
      obtain ⟨xs, rfl⟩ := lenD e
      have h2 := h.2
      have h3 : ¬ (60 : Int) < (xs.length : Int) := by simpa [longer] using h2
      exact ⟨xs, rfl, by omega⟩
    · rintro ρ1 ⟨rfl, xs, rfl, hl⟩
      refine px_one (px_ret (GX.pd_all hr Z.type Z.int Z2.all hP TB rfl ⟨rfl, rfl, ?_, rfl, rfl, ?_⟩ W hg rfl (pd_var (i := 0) rfl) ka) ?_)
      · decide +kernel
      · intro y hy e
        exact absurd e (by revert y; decide +kernel)
      show Sl.v _ = Sl.v _
      have e : isSet (.tup xs) = (decide (xs.length ≤ 60) && xs.all fun d => isW d 2) := rfl
      rw [e, decide_eq_true hl]
      rfl
end
end Peg
namespace Peg
open PySem PySem.Spec PyProof.Rows L2 DX
abbrev sCheckP : Stmt := top 12
/-- a thing that is asked for a setting is one, or the class at C is raised -/
def RCheck (C : Addr) : List D → Out → Prop := fun ds o => ∃ d n, ds = [d] ∧ Kd d n ∧ KdA d ∧ o = if isSet d then .ret (.v .non) else .exc C
def RCheckW (C : Addr) (m : Int) : List D → Out → Prop := fun ds o => ∃ d n, ds = [d] ∧ Kd d n ∧ o = if isW d m then .ret (.v .non) else .exc C
section
variable {P : Program} {w : World} {K : PySem.W.Frag} {mg : Str → Option Value} {base : Heap} {T : List Addr} {C : Addr}
theorem scCheck : FnScope ["thing"] ["thing"] (defScope sCheck) := ⟨rfl, rfl, rfl, by decide +kernel, rfl, by decide +kernel, by decide +kernel⟩
theorem kn_check {f : Addr} {fd : FuncData} (F : Fun K "check_setting" "check_setting" sCheck f fd) (hm : mg "check_setting" = some (.ref f)) (hb : Binds K fd ["thing"] []) (c : Kn P w K mg base T 3 "is_setting" RSetting) (e : ExK K mg "BadSetting" C) : Kn P w K mg base T 4 "check_setting" (RCheck C) := by
  refine kn_mk F scCheck hm hb (fun ds o h => ?_) (fun cdv A outer s B H E ds o hr h xw => ?_)
  · obtain ⟨d, n, rfl, _⟩ := h
    rfl
  · obtain ⟨d, n, rfl, kd, ka, rfl⟩ := h
    show PXs _ T B H [.v d] _ _
    refine px_one (px_if (k := !isSet d) (pb_not (pb_val (pd_call c hr (pas_cons (pd_var (i := 0) rfl) pas_nil) ⟨d, n, rfl, kd, ka, rfl⟩))) (fun h => ?_) fun h => px_nil ?_)
    · have e0 : isSet d = false := by simpa using h
      rw [e0] at xw
      exact px_one (px_raise e rfl (takes_of rfl rfl rfl rfl) xw)
    · have e1 : isSet d = true := by simpa using h
      rw [e1]
      rfl
theorem scCheckP : FnScope ["thing"] ["thing"] (defScope sCheckP) := ⟨rfl, rfl, rfl, by decide +kernel, rfl, by decide +kernel, by decide +kernel⟩
theorem kn_checkP {f : Addr} {fd : FuncData} (F : Fun K "check_peg" "check_peg" sCheckP f fd) (hm : mg "check_peg" = some (.ref f)) (hb : Binds K fd ["thing"] []) (c : Kn P w K mg base T 2 "is_peg" RPeg) (e : ExK K mg "BadPegs" C) : Kn P w K mg base T 3 "check_peg" (RCheckW C 2) := by
  refine kn_mk F scCheckP hm hb (fun ds o h => ?_) (fun cdv A outer s B H E ds o hr h xw => ?_)
  · obtain ⟨d, n, rfl, _⟩ := h
    rfl
  · obtain ⟨d, n, rfl, kd, rfl⟩ := h
    show PXs _ T B H [.v d] _ _
    refine px_one (px_if (k := !isW d 2) (pb_not (pb_val (pd_call c hr (pas_cons (pd_var (i := 0) rfl) pas_nil) ⟨d, n, rfl, kd, rfl⟩))) (fun h => ?_) fun h => px_nil ?_)
    · have e0 : isW d 2 = false := by simpa using h
      rw [e0] at xw
      exact px_one (px_raise e rfl (takes_of rfl rfl rfl rfl) xw)
    · have e1 : isW d 2 = true := by simpa using h
      rw [e1]
      rfl
/-- perfect: where both are right, all on that peg; else the refusal that is due -/
def RPerfect (CD CP : Addr) : List D → Out → Prop := fun ds o => ∃ d n p m, ds = [d, p] ∧ Kd d n ∧ Kd p m ∧ ((isW d 60 = false ∧ o = .exc CD) ∨ (isW d 60 = true ∧ isW p 2 = false ∧ o = .exc CP) ∨ ∃ (i : Nat) (j : Int), d = .int i ∧ p = .int j ∧ isW d 60 = true ∧ isW p 2 = true ∧ o = .ret (.v (tI (List.replicate i j))))
end
end Peg
namespace Peg
open PySem PySem.Spec PyProof.Rows L2 DX
/-- may it be -/
def mayBe (xs : List Int) : D → Bool
  | .tup [d, p] => (isW d ((xs.length : Int) - 1) && isW p 2) && (match d, p with
    | .int i, .int j => canGo xs i.toNat j
    | _, _ => false)
  | _ => false
def RMay : List D → Out → Prop := fun ds o => ∃ xs d n, ds = [tI xs, d] ∧ Kd d n ∧ KdA d ∧ o = .ret (.v (.bl (mayBe xs d)))
section
variable {P : Program} {w : World} {K : PySem.W.Frag} {mg : Str → Option Value} {base : Heap} {T : List Addr} {C : Addr}
theorem len_app (x y : Str) : (x ++ y).length = x.length + y.length := by
  show (x.cps ++ y.cps).size = _
  rw [Array.size_append]
  rfl
theorem kd_go {d : D} {n : String} {m : Int} (k : Kd d n) (h : isW d m = true) : ∃ i : Nat, d = .int i ∧ (i : Int) ≤ m := by
  cases k <;> first | (simp [isW] at h; done) | exact Bool.noConfusion (show false = true from h) | skip
  rename_i i
  simp only [isW, Bool.and_eq_true, decide_eq_true_eq] at h
  exact ⟨i.toNat, by rw [Int.toNat_of_nonneg h.1], by rw [Int.toNat_of_nonneg h.1]; exact h.2⟩
theorem pwb_eq {X : Cx} {ρ : Rho} {e : Expr} {x y : Bool} (h : PWb X T ρ e x) (q : x = y) : PWb X T ρ e y := q ▸ h
def notPair : D → Bool
  | .tup xs => !decide (xs.length = 2)
  | _ => true
theorem may_np {xs : List Int} {d : D} (h : notPair d = true) : mayBe xs d = false := by
  cases d <;> first | rfl | skip
  rename_i ys
  match ys with
  | [] => rfl
  | [_] => rfl
  | [_, _] => simp [notPair] at h
  | _ :: _ :: _ :: _ => rfl
end
end Peg
namespace Peg
open PySem PySem.Spec PyProof.Rows L2 DX
def movesAt (xs : List Int) (n : Nat) : List (Int × Int) := ([0, 1, 2].filter fun p => canGo xs n p).map fun p => ((n : Int), p)
def mvTo (xs : List Int) : Nat → List (Int × Int)
  | 0 => []
  | n + 1 => mvTo xs n ++ movesAt xs n
theorem movesAt_len (xs : List Int) (n : Nat) : (movesAt xs n).length ≤ 3 := by
  unfold movesAt
  rw [List.length_map]
  exact List.length_filter_le _ _
theorem mvTo_len (xs : List Int) : ∀ n, (mvTo xs n).length ≤ 3 * n
  | 0 => Nat.le_refl _
  | n + 1 => by
    show (mvTo xs n ++ movesAt xs n).length ≤ _
    rw [List.length_append]
    have h1 := mvTo_len xs n
    have h2 := movesAt_len xs n
    omega
structure Txt3 (K : PySem.W.Frag) (mg : Str → Option Value) : Prop where
  range : mg "range" = none
structure TxtP (K : PySem.W.Frag) (mg : Str → Option Value) : Prop where
  pegs : ∃ p : Addr, mg "PEGS" = some (.ref p) ∧ ∀ B : Hp, R K B (.ref p) (tI [0, 1, 2])
def RMoves (C : Addr) : List D → Out → Prop := fun ds o => ∃ d n, ds = [d] ∧ Kd d n ∧ KdA d ∧ ((isSet d = false ∧ o = .exc C) ∨ ∃ xs, d = tI xs ∧ isSet d = true ∧ o = .ret (.own (prs (mvTo xs xs.length))))
theorem set_len {xs : List Int} (h : isSet (tI xs) = true) : xs.length ≤ 60 := by
  have z : (decide ((xs.map D.int).length ≤ 60) && (xs.map D.int).all fun d => isW d 2) = true := h
  rw [Bool.and_eq_true, decide_eq_true_eq, List.length_map] at z
  exact z.1
/-- which items of PEGS, and what they become -/
def goT (xs : List Int) (n : Nat) : D → Bool
  | .int p => canGo xs n p
  | _ => false
def goM (n : Nat) (d : D) : D := .tup [.int (n : Int), d]
theorem go_list (xs : List Int) (n : Nat) : ((([0, 1, 2] : List Int).map D.int).filter (goT xs n)).map (goM n) = prs (movesAt xs n) := by
  unfold prs movesAt
  rw [List.filter_map, List.map_map, List.map_map]
  rfl
theorem prs_app (ps qs : List (Int × Int)) : prs ps ++ prs qs = prs (ps ++ qs) := by
  unfold prs
  rw [List.map_append]
theorem prs_len (ps : List (Int × Int)) : (prs ps).length = ps.length := List.length_map _
section
variable {P : Program} {w : World} {K : PySem.W.Frag} {mg : Str → Option Value} {base : Heap} {T : List Addr} {C : Addr}
abbrev nMoves : List Str := ["setting", "found", "disc", "peg"]
/-- the class BadMove, whose __init__ is known -/
structure BadM (P : Program) (w : World) (K : PySem.W.Frag) (mg : Str → Option Value) (base : Heap) (C : Addr) : Prop where
  oex : OexC K C
  nA : PySem.W.findIn K (.ref C) "at" = some none
  g : mg "BadMove" = some (.ref C)
  it : ∃ (fI : Addr) (fdI : FuncData), PySem.W.findIn K (.ref C) "__init__" = some (some (.ref fI)) ∧ PySem.W.typeIn K (.ref fI) = some (.type "function") ∧ FnOk P w K mg base (L2.CX P w) 1 fI fdI ["self", "at"] (spIni K) ∧ Binds K fdI ["self", "at"] []
def RMoved (CS CM : Addr) : List D → Out → Prop := fun ds o => ∃ d n mv m, ds = [d, mv] ∧ Kd d n ∧ KdA d ∧ Kd mv m ∧ KdA mv ∧ ((isSet d = false ∧ o = .exc CS) ∨ ∃ xs, d = tI xs ∧ isSet d = true ∧ ((mayBe xs mv = false ∧ o = .excA CM "at" (.int 0)) ∨ ∃ (i : Nat) (p : Int), mv = .tup [.int i, .int p] ∧ mayBe xs mv = true ∧ o = .ret (.v (tI (xs.set i p)))))
theorem may_lt {xs : List Int} {i : Nat} {p : Int} (h : mayBe xs (.tup [.int i, .int p]) = true) : i < xs.length := by
  have z : ((isW (.int i) ((xs.length : Int) - 1) && isW (.int p) 2) && canGo xs (i : Int).toNat p) = true := h
  simp only [isW, Bool.and_eq_true, decide_eq_true_eq] at z
  omega
end
end Peg
namespace Peg
open PySem PySem.Spec PyProof.Rows L2 DX
abbrev sCell : Stmt := top 23
abbrev sGreat : Stmt := top 24
abbrev sLSet : Stmt := top 25
def pick (ns : List Int) (k : Nat) : Int := if ns = [] then 5 else ns.getD (k % ns.length) 0
def lawCell (ns : List Int) (k : Nat) : Int := ((pick ns k % 2147483629 * 48271 + ((k : Int) + 3) * ((k : Int) + 3) * 40692) % 2147483647 * 16807 + 31 * (k : Int)) % 2147483629 / 3
def RCell : List D → Out → Prop := fun ds o => ∃ (ns : List Int) (k : Nat), ds = [scrD ns, .int (k : Int)] ∧ ns.length ≤ 63 ∧ k ≤ 1000 ∧ o = .ret (.v (.int (lawCell ns k)))
def greatStep (k : Nat) (found c : Int) : Int := (found * 1000003 + c % 10 ^ 40 + 69621 * (k : Int)) % 10 ^ 40
def lawGreat (ns : List Int) (k : Nat) : Int := ns.foldl (greatStep k) (7 + 48271 * (k : Int))
def RGreat : List D → Out → Prop := fun ds o => ∃ (ns : List Int) (k : Nat), ds = [scrD ns, .int (k : Int)] ∧ ns.length ≤ 63 ∧ k ≤ 1000 ∧ o = .ret (.v (.int (lawGreat ns k)))
theorem sh_scr (ns : List Int) : sh 1 (scrD ns) = true := by
  show (ns.map D.int).all (sh 0) = true
  rw [List.all_map, List.all_eq_true]
  intro x _
  rfl
theorem eq_scr_nil (ns : List Int) : eqD (scrD ns) (.lst []) = decide (ns = []) := by
  cases ns <;> rfl
theorem hu64 {k : Nat} {A : Around} (r : Room k A) : A.units + 64 < cLine := by
  have := r.un
  omega
theorem hu65 {k : Nat} {A : Around} (r : Room k A) : A.units + 65 < cLine := by
  have := r.un
  omega
section
variable {P : Program} {w : World} {K : PySem.W.Frag} {mg : Str → Option Value} {base : Heap} {T : List Addr} {C : Addr}
theorem scCell : FnScope ["_law_script", "_law_k", "_law_cell_here"] ["_law_script", "_law_k"] (defScope sCell) := ⟨rfl, rfl, rfl, by decide +kernel, rfl, by decide +kernel, by decide +kernel⟩
theorem kn_cell {f : Addr} {fd : FuncData} (F : Fun K "_law_cell" "_law_cell" sCell f fd) (Z : Txt K mg) (hm : mg "_law_cell" = some (.ref f)) (hb : Binds K fd ["_law_script", "_law_k"] []) : Kn P w K mg base T 1 "_law_cell" RCell := by
  refine kn_mk F scCell hm hb (fun ds o h => ?_) (fun cdv A outer s B H E ds o hr h xw => ?_)
  · obtain ⟨ns, k, rfl, _⟩ := h
    rfl
  · obtain ⟨ns, k, rfl, hl, hk, rfl⟩ := h
    show PXs _ T B H [.v (scrD ns), .v (.int (k : Int)), .no] _ _
    have hu := hu64 hr
    refine px_cons1 (px_set (i := 2) pd_int rfl scCell.nd) ?_
    refine px_cons1 (ρ1 := [.v (scrD ns), .v (.int (k : Int)), .v (.int (pick ns k))]) (px_if (pb_cmp (pd_tmp (pd_var (i := 0) rfl)) (pd_tmp (pd_frz (pd_lst pas_nil))) (cd_neD (n := 1) hu (sh_scr ns) rfl)) (fun h => ?_) fun h => ?_) ?_
    · rw [eq_scr_nil] at h
      have hne : ns ≠ [] := by simpa using h
      have hpos : 0 < ns.length := List.length_pos_iff.mpr hne
      have hlt : k % ns.length < ns.length := Nat.mod_lt _ hpos
      refine px_one (px_set (i := 2) (d := .int (pick ns k)) (pd_ix (ds := ns.map D.int) (i := ((k % ns.length : Nat) : Int)) (pd_var (i := 0) rfl) (pd_eq (pd_bin (pd_var (i := 1) rfl) (pd_blt (cl_len (ds := ns.map D.int) rfl) Z.len (pas_cons (pd_var (i := 0) rfl) pas_nil)) (bd_mod ?_)) ?_) rfl ?_) ?_ scCell.nd)
      · rw [List.length_map]
        omega
      · rw [List.length_map, Int.natCast_emod]
      · rw [at_map D.int hlt]
        unfold pick
        rw [if_neg hne, List.getD_eq_getElem?_getD, List.getElem?_eq_getElem hlt]
        rfl
      · rfl
    · rw [eq_scr_nil] at h
      have he : ns = [] := by simpa using h
      refine px_nil ?_
      unfold pick
      rw [if_pos he]
      rfl
    · refine px_one (px_ret (pd_bin (pd_bin (pd_bin (pd_bin (pd_bin (pd_bin (pd_bin (pd_bin (pd_var (i := 2) rfl) pd_int (bd_mod (by decide))) pd_int (bd_mul (.inr (by decide)))) (pd_bin (pd_bin (pd_bin (pd_var (i := 1) rfl) pd_int bd_add) (pd_bin (pd_var (i := 1) rfl) pd_int bd_add) (bd_mul (.inr ?_))) pd_int (bd_mul (.inr (by decide)))) bd_add) pd_int (bd_mod (by decide))) pd_int (bd_mul (.inr (by decide)))) (pd_bin pd_int (pd_var (i := 1) rfl) (bd_mul (.inl (by decide)))) bd_add) pd_int (bd_mod (by decide))) pd_int (bd_fdiv ⟨by decide, by decide⟩)) ?_)
      · omega
      · rfl
theorem scGreat : FnScope ["_law_script", "_law_k", "_law_found", "_law_cell_here"] ["_law_script", "_law_k"] (defScope sGreat) := ⟨rfl, rfl, rfl, by decide +kernel, rfl, by decide +kernel, by decide +kernel⟩
theorem kn_great {f : Addr} {fd : FuncData} (F : Fun K "_law_great" "_law_great" sGreat f fd) (hm : mg "_law_great" = some (.ref f)) (hb : Binds K fd ["_law_script", "_law_k"] []) : Kn P w K mg base T 1 "_law_great" RGreat := by
  refine kn_mk F scGreat hm hb (fun ds o h => ?_) (fun cdv A outer s B H E ds o hr h xw => ?_)
  · obtain ⟨ns, k, rfl, _⟩ := h
    rfl
  · obtain ⟨ns, k, rfl, hl, hk, rfl⟩ := h
    show PXs _ T B H [.v (scrD ns), .v (.int (k : Int)), .no, .no] _ _
    refine px_cons1 (px_set (i := 2) (pd_bin pd_int (pd_bin pd_int (pd_var (i := 1) rfl) (bd_mul (.inl (by decide)))) bd_add) rfl scGreat.nd) ?_
    refine px_cons (N := fun z => ∃ c, z = [.v (scrD ns), .v (.int (k : Int)), .v (.int (lawGreat ns k)), c]) (px_for (i := 3) (ds := ns.map D.int) (fun m z => ∃ c, z = [.v (scrD ns), .v (.int (k : Int)), .v (.int ((ns.take m).foldl (greatStep k) (7 + 48271 * (k : Int)))), c]) (pd_var (i := 0) rfl) (.inr rfl) ⟨.no, rfl⟩ ?_ ?_ PassesOwn.leaving scGreat.nd) ?_
    · rintro m d ρ1 hd ⟨c, rfl⟩
      rw [List.getElem?_map] at hd
      obtain ⟨x, hx, rfl⟩ := Option.map_eq_some_iff.mp hd
      refine px_one (px_set (i := 2) (pd_bin (pd_bin (pd_bin (pd_bin (pd_var (i := 2) rfl) pd_int (bd_mul (.inr (by decide)))) (pd_bin (pd_var (i := 3) rfl) (pd_bin pd_int pd_int (bd_pow ⟨by decide, by decide, by decide⟩)) (bd_mod (by decide))) bd_add) (pd_bin pd_int (pd_var (i := 1) rfl) (bd_mul (.inl (by decide)))) bd_add) (pd_bin pd_int pd_int (bd_pow ⟨by decide, by decide, by decide⟩)) (bd_mod (by decide))) ⟨.v (.int x), ?_⟩ scGreat.nd)
      rw [List.take_add_one, hx, List.foldl_append]
      rfl
    · rintro ρ1 ⟨c, rfl⟩
      refine ⟨c, ?_⟩
      rw [List.length_map, List.take_length]
      rfl
    · rintro ρ1 ⟨c, rfl⟩
      exact px_one (px_ret (pd_var (i := 2) rfl) rfl)
end
end Peg
namespace Peg
open PySem PySem.Spec PyProof.Rows L2 DX
/-- figures by threes -/
def digs : Int → Nat → List Int
  | _, 0 => []
  | r, n + 1 => r % 3 :: digs (r / 3) n
def rests : Int → Nat → Int
  | r, 0 => r
  | r, n + 1 => rests (r / 3) n
theorem digs_len : ∀ (n : Nat) (r : Int), (digs r n).length = n
  | 0, _ => rfl
  | n + 1, r => by
    show (digs (r / 3) n).length + 1 = _
    rw [digs_len n]
theorem digs_snoc : ∀ (n : Nat) (r : Int), digs r (n + 1) = digs r n ++ [rests r n % 3]
  | 0, _ => rfl
  | n + 1, r => by
    show r % 3 :: digs (r / 3) (n + 1) = r % 3 :: (digs (r / 3) n ++ _)
    rw [digs_snoc n]
    rfl
theorem rests_succ : ∀ (n : Nat) (r : Int), rests r (n + 1) = rests r n / 3
  | 0, _ => rfl
  | n + 1, r => by
    show rests (r / 3) (n + 1) = rests (r / 3) n / 3
    exact rests_succ n _
def ls0 (number : Int) (discs : Nat) : List Int := if number % 6 = 0 then List.replicate discs (number / 6 % 3) else digs (number / 18) discs
def ls1 (number : Int) (discs : Nat) : List Int :=
  if number % 6 = 1 ∧ 0 < discs then
    let at_ := (number / 18 % (discs : Int)).toNat
    List.replicate at_ (number / 6 % 3) ++ [(ls0 number discs).getD at_ 0] ++ List.replicate (discs - at_ - 1) (number / 6 % 3)
  else ls0 number discs
def ls2 (number : Int) (discs : Nat) : List Int :=
  if number % 6 = 2 then
    let some_ := (number / 18 % ((discs : Int) + 1)).toNat
    List.replicate some_ (number / 6 % 3) ++ (ls1 number discs).drop some_
  else ls1 number discs
def RLSet : List D → Out → Prop := fun ds o => ∃ (number : Int) (discs : Nat), ds = [.int number, .int (discs : Int)] ∧ discs ≤ 60 ∧ o = .ret (.v (tI (ls2 number discs)))
theorem ls0_len (number : Int) (discs : Nat) : (ls0 number discs).length = discs := by
  unfold ls0
  split
  · exact List.length_replicate
  · exact digs_len _ _
theorem ls1_len (number : Int) (discs : Nat) : (ls1 number discs).length = discs := by
  unfold ls1
  split
  · rename_i h
    have h1 : 0 ≤ number / 18 % (discs : Int) := Int.emod_nonneg _ (by omega)
    have h2 : number / 18 % (discs : Int) < discs := Int.emod_lt_of_pos _ (by omega)
    simp only [List.length_append, List.length_replicate, List.length_singleton]
    omega
  · exact ls0_len _ _
theorem ls2_len (number : Int) (discs : Nat) : (ls2 number discs).length = discs := by
  unfold ls2
  split
  · have h1 : 0 ≤ number / 18 % ((discs : Int) + 1) := Int.emod_nonneg _ (by omega)
    have h2 : number / 18 % ((discs : Int) + 1) < (discs : Int) + 1 := Int.emod_lt_of_pos _ (by omega)
    simp only [List.length_append, List.length_replicate, List.length_drop, ls1_len]
    omega
  · exact ls1_len _ _
def pegs3 (xs : List Int) : Prop := ∀ x ∈ xs, 0 ≤ x ∧ x < 3
theorem mod3 (n : Int) : 0 ≤ n % 3 ∧ n % 3 < 3 := ⟨Int.emod_nonneg _ (by decide), Int.emod_lt_of_pos _ (by decide)⟩
theorem rep3 (k : Nat) (n : Int) : pegs3 (List.replicate k (n % 3)) := fun x hx => by
  rw [(List.mem_replicate.mp hx).2]
  exact mod3 n
theorem app3 {xs ys : List Int} (h : pegs3 xs) (h2 : pegs3 ys) : pegs3 (xs ++ ys) := fun x hx => (List.mem_append.mp hx).elim (h x) (h2 x)
theorem digs3 : ∀ (n : Nat) (r : Int), pegs3 (digs r n)
  | 0, _ => fun x hx => absurd hx (by simp [digs])
  | n + 1, r => fun x hx => by
    rcases List.mem_cons.mp hx with e | hx
    · rw [e]
      exact mod3 r
    · exact digs3 n _ x hx
theorem ls0_3 (number : Int) (discs : Nat) : pegs3 (ls0 number discs) := by
  unfold ls0
  split
  · exact rep3 _ _
  · exact digs3 _ _
theorem getD3 {xs : List Int} (h : pegs3 xs) (n : Nat) : 0 ≤ xs.getD n 0 ∧ xs.getD n 0 < 3 := by
  rw [List.getD_eq_getElem?_getD]
  cases e : xs[n]? with
  | none => exact ⟨Int.le_refl _, by decide⟩
  | some x => exact h x (List.mem_of_getElem? e)
theorem ls1_3 (number : Int) (discs : Nat) : pegs3 (ls1 number discs) := by
  unfold ls1
  split
  · refine app3 (app3 (rep3 _ _) fun x hx => ?_) (rep3 _ _)
    rw [List.mem_singleton.mp hx]
    exact getD3 (ls0_3 _ _) _
  · exact ls0_3 _ _
theorem ls2_3 (number : Int) (discs : Nat) : pegs3 (ls2 number discs) := by
  unfold ls2
  split
  · exact app3 (rep3 _ _) fun x hx => ls1_3 _ _ x (List.mem_of_mem_drop hx)
  · exact ls1_3 _ _
theorem rep_int (n : Nat) (x : Int) : (List.replicate n [D.int x]).flatten = (List.replicate n x).map D.int := by
  rw [List.map_replicate, List.flatten_replicate_singleton]
section
variable {P : Program} {w : World} {K : PySem.W.Frag} {mg : Str → Option Value} {base : Heap} {T : List Addr} {C : Addr}
abbrev nLSet : List Str := ["_law_number", "_law_discs", "_law_pegs", "_law_rest", "_law_disc", "_law_peg", "_law_at", "_law_some"]
theorem scLSet : FnScope nLSet ["_law_number", "_law_discs"] (defScope sLSet) := ⟨rfl, rfl, rfl, by decide +kernel, rfl, by decide +kernel, by decide +kernel⟩
theorem kn_lset {f : Addr} {fd : FuncData} (F : Fun K "_law_setting" "_law_setting" sLSet f fd) (Z : Txt K mg) (Z3 : Txt3 K mg) (hm : mg "_law_setting" = some (.ref f)) (hb : Binds K fd ["_law_number", "_law_discs"] []) : Kn P w K mg base T 1 "_law_setting" RLSet := by
  refine kn_mk F scLSet hm hb (fun ds o h => ?_) (fun cdv A outer s B H E ds o hr h xw => ?_)
  · obtain ⟨n, k, rfl, _⟩ := h
    rfl
  · obtain ⟨n, k, rfl, hk, rfl⟩ := h
    show PXs _ T B H [.v (.int n), .v (.int (k : Int)), .no, .no, .no, .no, .no, .no] _ _
    refine px_cons1 (px_setO (i := 2) (pd_lst pas_nil) rfl scLSet.nd) ?_
    refine px_cons1 (px_set (i := 3) (pd_bin (pd_var (i := 0) rfl) pd_int (bd_fdiv ⟨by decide, by decide⟩)) rfl scLSet.nd) ?_
    -- the figures
    refine px_cons (N := fun z => ∃ c, z = [Sl.v (.int n), .v (.int (k : Int)), .own ((digs (n / 18) k).map D.int), .v (.int (rests (n / 18) k)), c, .no, .no, .no]) (px_range (n := (k : Int)) (i := 4) (fun m z => ∃ c, z = [Sl.v (.int n), .v (.int (k : Int)), .own ((digs (n / 18) m).map D.int), .v (.int (rests (n / 18) m)), c, .no, .no, .no]) (pd_var (i := 1) rfl) (by omega) (by omega) Z3.range ⟨.no, rfl⟩ ?_ ?_ PassesOwn.leaving scLSet.nd) ?_
    · rintro m ρ1 hm' ⟨c, rfl⟩
      refine px_cons1 (px_append (i := 2) rfl (pe_bm PySem.F.plainAttrs_list PySem.F.slot_list_append PySem.F.type_list_append mt_append (pv 2) (pa_cons (pd_bin (pd_var (i := 3) rfl) pd_int (bd_mod (by decide))) pa_nil)) ?_ rfl) ?_
      · rw [List.length_map, digs_len]
        omega
      · refine px_one (px_set (i := 3) (pd_bin (pd_var (i := 3) rfl) pd_int (bd_fdiv ⟨by decide, by decide⟩)) ⟨.v (.int (m : Int)), ?_⟩ scLSet.nd)
        rw [digs_snoc, rests_succ, List.map_append]
        rfl
    · rintro ρ1 ⟨c, rfl⟩
      exact ⟨c, by rw [Int.toNat_natCast]⟩
    · rintro ρ1 ⟨c, rfl⟩
      refine px_cons1 (px_set (i := 5) (pd_bin (pd_bin (pd_var (i := 0) rfl) pd_int (bd_fdiv ⟨by decide, by decide⟩)) pd_int (bd_mod (by decide))) rfl scLSet.nd) ?_
      refine px_cons1 (ρ1 := [.v (.int n), .v (.int (k : Int)), .own ((ls0 n k).map D.int), .v (.int (rests (n / 18) k)), c, .v (.int (n / 6 % 3)), .no, .no]) (px_if (pb_cmp (pd_tmp (pd_bin (pd_var (i := 0) rfl) pd_int (bd_mod (by decide)))) (pd_tmp pd_int) cd_eqI) (fun h => ?_) fun h => ?_) ?_
      · have h' : n % 6 = 0 := of_decide_eq_true h
        refine px_one (px_setO (i := 2) (pd_rep (pd_lst (pas_cons (pd_var (i := 5) rfl) pas_nil)) (pd_var (i := 1) rfl) (by omega) (by omega) ?_) ?_ scLSet.nd)
        · show 1 * _ ≤ _
          omega
        · unfold ls0
          rw [if_pos h', Int.toNat_natCast, rep_int]
          rfl
      · have h' : ¬ n % 6 = 0 := of_decide_eq_false h
        refine px_nil ?_
        unfold ls0
        rw [if_neg h']
        rfl
      · refine px_cons (N := fun z => ∃ s6, z = [.v (.int n), .v (.int (k : Int)), .own ((ls1 n k).map D.int), .v (.int (rests (n / 18) k)), c, .v (.int (n / 6 % 3)), s6, .no]) (px_if (pb_bool (pwb_and (pb_cmp (pd_tmp (pd_bin (pd_var (i := 0) rfl) pd_int (bd_mod (by decide)))) (pd_tmp pd_int) cd_eqI) fun _ => pwb_and1 (pb_cmp (pd_tmp (pd_var (i := 1) rfl)) (pd_tmp pd_int) cd_gt))) (fun h => ?_) fun h => ?_) ?_
        · rw [Bool.and_eq_true, decide_eq_true_eq, decide_eq_true_eq] at h
          obtain ⟨h1, h2⟩ := h
          have z1 : 0 ≤ n / 18 % (k : Int) := Int.emod_nonneg _ (by omega)
          have z2 : n / 18 % (k : Int) < k := Int.emod_lt_of_pos _ h2
          obtain ⟨a, ha⟩ : ∃ a : Nat, n / 18 % (k : Int) = a := ⟨_, (Int.toNat_of_nonneg z1).symm⟩
          have alt : a < k := by omega
          have al : a < (ls0 n k).length := by
            rw [ls0_len]
            exact alt
          refine px_cons1 (px_set (i := 6) (d := .int (a : Int)) (pd_eq (pd_bin (pd_bin (pd_var (i := 0) rfl) pd_int (bd_fdiv ⟨by decide, by decide⟩)) (pd_var (i := 1) rfl) (bd_mod h2)) (by rw [ha])) rfl scLSet.nd) ?_
          refine px_one (px_setO (i := 2) (pd_bin (pd_frz (pd_bin (pd_frz (pd_rep (pd_lst (pas_cons (pd_var (i := 5) rfl) pas_nil)) (pd_var (i := 6) rfl) (by omega) (by omega) ?_)) (pd_frz (pd_lst (pas_cons (pd_ixO (j := 2) rfl (pd_var (i := 6) rfl) (at_map D.int al)) pas_nil))) (bd_catL ?_))) (pd_frz (pd_rep (pd_lst (pas_cons (pd_var (i := 5) rfl) pas_nil)) (pd_bin (pd_bin (pd_var (i := 1) rfl) (pd_var (i := 6) rfl) bd_sub) pd_int bd_sub) (by omega) (by omega) ?_)) (bd_catL ?_)) ⟨.v (.int (a : Int)), ?_⟩ scLSet.nd)
          · show 1 * _ ≤ _
            omega
          · rw [Int.toNat_natCast, rep_int, List.length_map, List.length_replicate]
            show a + 1 ≤ _
            omega
          · show 1 * _ ≤ _
            omega
          · rw [Int.toNat_natCast, rep_int, rep_int, List.length_append, List.length_map, List.length_map, List.length_replicate, List.length_replicate]
            show a + 1 + _ ≤ _
            omega
          · unfold ls1
            rw [if_pos ⟨h1, by omega⟩]
            have e2 : ((k : Int) - (a : Int) - 1).toNat = k - a - 1 := by omega
            have e3 : (n / 18 % (k : Int)).toNat = a := by omega
            rw [Int.toNat_natCast, rep_int, rep_int, e2]
            simp only [e3]
            rw [List.map_append, List.map_append, List.getD_eq_getElem?_getD, List.getElem?_eq_getElem al]
            rfl
        · refine px_nil ⟨.no, ?_⟩
          unfold ls1
          rw [if_neg]
          intro ⟨h1, h2⟩
          rw [decide_eq_true h1, Bool.true_and, decide_eq_false_iff_not] at h
          omega
        · rintro ρ1 ⟨s6, rfl⟩
          refine px_cons (N := fun z => ∃ s7, z = [.v (.int n), .v (.int (k : Int)), .own ((ls2 n k).map D.int), .v (.int (rests (n / 18) k)), c, .v (.int (n / 6 % 3)), s6, s7]) (px_if (pb_cmp (pd_tmp (pd_bin (pd_var (i := 0) rfl) pd_int (bd_mod (by decide)))) (pd_tmp pd_int) cd_eqI) (fun h => ?_) fun h => ?_) ?_
          · have h' : n % 6 = 2 := of_decide_eq_true h
            have z1 : 0 ≤ n / 18 % ((k : Int) + 1) := Int.emod_nonneg _ (by omega)
            have z2 : n / 18 % ((k : Int) + 1) < (k : Int) + 1 := Int.emod_lt_of_pos _ (by omega)
            obtain ⟨a, ha⟩ : ∃ a : Nat, n / 18 % ((k : Int) + 1) = a := ⟨_, (Int.toNat_of_nonneg z1).symm⟩
            refine px_cons1 (px_set (i := 7) (d := .int (a : Int)) (pd_eq (pd_bin (pd_bin (pd_var (i := 0) rfl) pd_int (bd_fdiv ⟨by decide, by decide⟩)) (pd_bin (pd_var (i := 1) rfl) pd_int bd_add) (bd_mod (by omega))) (by rw [ha])) rfl scLSet.nd) ?_
            refine px_frz (i := 2) rfl ?_
            refine px_one (px_setO (i := 2) (pd_bin (pd_frz (pd_rep (pd_lst (pas_cons (pd_var (i := 5) rfl) pas_nil)) (pd_var (i := 7) rfl) (by omega) (by omega) ?_)) (pd_frz (pd_slL (pd_var (i := 2) rfl) (pp_some (pd_var (i := 7) rfl)) pp_none)) (bd_catL ?_)) ⟨.v (.int (a : Int)), ?_⟩ scLSet.nd)
            · show 1 * _ ≤ _
              omega
            · rw [Int.toNat_natCast, rep_int, cut_from, List.length_map, List.length_replicate, List.length_drop, List.length_map, ls1_len]
              omega
            · unfold ls2
              rw [if_pos h']
              have e3 : (n / 18 % ((k : Int) + 1)).toNat = a := by omega
              simp only [e3]
              rw [Int.toNat_natCast, rep_int, cut_from, List.map_append, List.map_drop]
              rfl
          · have h' : ¬ n % 6 = 2 := of_decide_eq_false h
            refine px_nil ⟨.no, ?_⟩
            unfold ls2
            rw [if_neg h']
          · rintro ρ1 ⟨s7, rfl⟩
            refine px_frz (i := 2) rfl ?_
            exact px_one (px_ret (pd_bty (cl_tuple rfl) Z.tuple (pas_cons (pd_var (i := 2) rfl) pas_nil)) rfl)
end
end Peg
namespace Peg
open PySem PySem.Spec PyProof.Rows L2 DX
abbrev sLBehind : Stmt := top 27
structure Txt4 (K : PySem.W.Frag) (mg : Str → Option Value) : Prop where
  isi : mg "isinstance" = none
  bool : mg "bool" = none
  list : mg "list" = none
  ve : mg "ValueError" = none
  sorted : mg "sorted" = none
  enum : mg "enumerate" = none
  min : mg "min" = none
def RLWhole : List D → Out → Prop := fun ds o => ∃ i : Int, ds = [.int i] ∧ o = .ret (.v (.bl true))
def RIsMove : List D → Out → Prop := fun ds o => ∃ i j : Int, ds = [.tup [.int i, .int j]] ∧ o = .ret (.v (.bl true))
section
variable {P : Program} {w : World} {K : PySem.W.Frag} {mg : Str → Option Value} {base : Heap} {T : List Addr} {C : Addr}
theorem scLBehind : FnScope ["_law_setting_here", "_law_move"] ["_law_setting_here", "_law_move"] (defScope sLBehind) := ⟨rfl, rfl, rfl, by decide +kernel, rfl, by decide +kernel, by decide +kernel⟩
theorem kn_lbehind {f : Addr} {fd : FuncData} (F : Fun K "_law_behind" "_law_behind" sLBehind f fd) (hm : mg "_law_behind" = some (.ref f)) (hb : Binds K fd ["_law_setting_here", "_law_move"] []) : Kn P w K mg base T 1 "_law_behind" RBehind := by
  refine kn_mk F scLBehind hm hb (fun ds o h => ?_) (fun cdv A outer s B H E ds o hr h xw => ?_)
  · obtain ⟨xs, n, p, rfl, _⟩ := h
    rfl
  · obtain ⟨xs, n, p, rfl, hn, hl, rfl⟩ := h
    show PXs _ T B H [.v (tI xs), .v (.tup [.int n, .int p])] _ _
    refine px_one (px_ret (pd_bin (pd_bin (slTI (pd_var (i := 0) rfl) pp_none (pp_some (pd_ix (i := 0) (pd_var (i := 1) rfl) pd_int rfl rfl))) (pd_tup (pas_cons (pd_ix (i := 1) (pd_var (i := 1) rfl) pd_int rfl rfl) pas_nil)) (catTI (ys := [p]) ?_)) (slTI (pd_var (i := 0) rfl) (pp_some (pd_bin (pd_ix (i := 0) (pd_var (i := 1) rfl) pd_int rfl rfl) pd_int bd_add)) pp_none) (catTI ?_)) ?_)
    · rw [cut_to, List.length_take]
      show _ + 1 ≤ _
      omega
    · have e : (n : Int) + 1 = ((n + 1 : Nat) : Int) := rfl
      rw [e, cut_to, cut_from]
      simp
      omega
    · have e : (n : Int) + 1 = ((n + 1 : Nat) : Int) := rfl
      rw [e, cut_to, cut_from, set_eq _ _ _ hn]
      rfl
end
end Peg
namespace Peg
open PySem PySem.Spec PyProof.Rows L2 DX
structure Cls7 (mg : Str → Option Value) (c : Nat → Addr) : Prop where
  g0 : mg "BadSetting" = some (.ref (c 0))
  g1 : mg "Unlike" = some (.ref (c 1))
  g2 : mg "BadPegs" = some (.ref (c 2))
  g3 : mg "BadDiscs" = some (.ref (c 3))
  g4 : mg "BadCount" = some (.ref (c 4))
  g5 : mg "TooMany" = some (.ref (c 5))
  g6 : mg "BadMove" = some (.ref (c 6))
def wordOf : Nat → Str
  | 0 => "setting"
  | 1 => "unlike"
  | 2 => "pegs"
  | 3 => "discs"
  | 4 => "count"
  | 5 => "many"
  | _ => "move"
/-- d is an error of just the class of that number -/
structure IsErr (K : PySem.W.Frag) (c : Nat → Addr) (d : D) (idx : Nat) : Prop where
  lt : idx < 7
  nn : d.isN = false
  it : ∃ t, TyD K d t ∧ (∀ i, i < 7 → PySem.W.kitOne K t (.ref (c i)) = some (decide (i = idx))) ∧ PySem.W.kitOne K t (.type "ValueError") = some true
def RWord (K : PySem.W.Frag) (c : Nat → Addr) : List D → Out → Prop := fun ds o => ∃ d idx, ds = [d] ∧ IsErr K c d idx ∧ o = .ret (.v (.str (wordOf idx)))
def okT : D → Bool
  | .tup [_, .bl b] => b
  | _ => false
def okM : D → D
  | .tup [a, _] => a
  | _ => .non
def rowD (idx i : Nat) : D := .tup [.str (wordOf i), .bl (decide (i = idx))]
section
variable {P : Program} {w : World} {K : PySem.W.Frag} {mg : Str → Option Value} {base : Heap} {T : List Addr} {c : Nat → Addr}
abbrev nWord : List Str := ["_law_e", "_law_some", "_law_found", "_law_word_here", "_law_good"]
end
end Peg
namespace Peg
open PySem PySem.Spec PyProof.Rows L2 DX
def RRefused : List D → Out → Prop := fun ds o => ∃ xs mv m, ds = [tI xs, mv] ∧ isSet (tI xs) = true ∧ Kd mv m ∧ KdA mv ∧ mayBe xs mv = false ∧ o = .ret (.v (.bl true))
theorem kdA_set {xs : List Int} : KdA (tI xs) := fun d hd => by
  obtain ⟨x, _, rfl⟩ := List.mem_map.mp hd
  exact ⟨_, .int x⟩
/-- what is known of BadMove as an error, and of PegError above it -/
structure BadE (K : PySem.W.Frag) (mg : Str → Option Value) (CM CP : Addr) : Prop where
  er : ErrC K CM
  hd : PySem.W.hasDictIn K CM = true
  no : PySem.W.findIn K (.ref CM) "at" = some none
  gP : mg "PegError" = some (.ref CP)
  te : PySem.W.exmOne K (.ref CM) (.ref CP) = some true
section
variable {P : Program} {w : World} {K : PySem.W.Frag} {mg : Str → Option Value} {base : Heap} {T : List Addr} {c : Nat → Addr} {CS CM CP : Addr}
end
end Peg
namespace Peg
open PySem PySem.Spec PyProof.Rows L2 DX
abbrev sLMay : Stmt := top 26
/-- the first place of p, counted from n -/
def fstAt : List Int → Int → Nat → Option Nat
  | [], _, _ => none
  | x :: xs, p, n => if x = p then some n else fstAt xs p (n + 1)
def topL (xs : List Int) (p : Int) : List Int := match fstAt xs p 0 with
  | none => []
  | some n => [(n : Int)]
def tl (xs : List Int) (p : Int) : D := .lst ((topL xs p).map D.int)
def enT (p : Int) : D → Bool
  | .tup [_, .int q] => decide (q = p)
  | _ => false
theorem en_first (p : Int) : ∀ (xs : List Int) (n : Nat), ((((xs.map D.int).zipIdx n).map fun q => D.tup [.int ((q.2 : Nat) : Int), q.1]).filter (enT p)).map okM = ((xs.zipIdx n).filter fun q => decide (q.1 = p)).map fun q => D.int ((q.2 : Nat) : Int)
  | [], _ => rfl
  | x :: xs, n => by
    rw [List.map_cons, List.zipIdx_cons, List.zipIdx_cons, List.map_cons]
    have e : enT p (.tup [.int ((n : Nat) : Int), .int x]) = decide (x = p) := rfl
    have ih := en_first p xs (n + 1)
    by_cases h : x = p
    · rw [List.filter_cons_of_pos (by rw [e]; exact decide_eq_true h), List.filter_cons_of_pos (by exact decide_eq_true h), List.map_cons, List.map_cons, ih]
      rfl
    · rw [List.filter_cons_of_neg (by rw [e, decide_eq_false h]; exact Bool.false_ne_true), List.filter_cons_of_neg (by rw [decide_eq_false h]; exact Bool.false_ne_true), ih]
theorem first_one (p : Int) : ∀ (xs : List Int) (n : Nat), (((xs.zipIdx n).filter fun q => decide (q.1 = p)).map fun q => D.int ((q.2 : Nat) : Int)).take 1 = (match fstAt xs p n with | none => [] | some m => [D.int (m : Int)])
  | [], _ => rfl
  | x :: xs, n => by
    rw [List.zipIdx_cons]
    by_cases h : x = p
    · rw [List.filter_cons_of_pos (by exact decide_eq_true h), List.map_cons]
      unfold fstAt
      rw [if_pos h]
      rfl
    · rw [List.filter_cons_of_neg (by rw [decide_eq_false h]; exact Bool.false_ne_true), first_one p xs (n + 1)]
      conv => rhs; unfold fstAt
      rw [if_neg h]
theorem tl_eq (xs : List Int) (p : Int) : cutA (((enumD (xs.map D.int)).filter (enT p)).map okM) none (some 1) = (topL xs p).map D.int := by
  have e := cut_to (((enumD (xs.map D.int)).filter (enT p)).map okM) 1
  have e1 : (((1 : Nat) : Int)) = 1 := rfl
  rw [e1] at e
  rw [e]
  unfold enumD
  rw [en_first, first_one]
  unfold topL
  cases fstAt xs p 0 <;> rfl
theorem mem_enum {xs : List Int} {d : D} (h : d ∈ enumD (xs.map D.int)) : ∃ (n : Nat) (x : Int), d = .tup [.int (n : Int), .int x] := by
  unfold enumD at h
  obtain ⟨q, hq, rfl⟩ := List.mem_map.mp h
  obtain ⟨y, n⟩ := q
  have hy : y ∈ xs.map D.int := List.fst_mem_of_mem_zipIdx hq
  obtain ⟨x, _, rfl⟩ := List.mem_map.mp hy
  exact ⟨n, x, rfl⟩
def ownM (xs : List Int) : D → D
  | .int p => tl xs p
  | _ => .non
/-- may the least disc of peg o go to peg p -/
def condB (xs : List Int) (o p : Int) : Bool := !decide (p = o) && (match fstAt xs o 0 with
  | none => false
  | some a => match fstAt xs p 0 with
    | none => true
    | some b => decide (a < b))
theorem sh_tl (xs : List Int) (p : Int) : sh 1 (tl xs p) = true := by
  show ((topL xs p).map D.int).all (sh 0) = true
  rw [List.all_map, List.all_eq_true]
  intro x _
  rfl
theorem eq_tl (xs : List Int) (p : Int) : eqD (tl xs p) (.lst []) = (fstAt xs p 0).isNone := by
  unfold tl topL
  cases fstAt xs p 0 <;> rfl
theorem at_top {xs : List Int} {p : Int} (h : (!eqD (tl xs p) (.lst [])) = true) : atI ((topL xs p).map D.int) 0 = some (.int ((topL xs p).headD 0)) := by
  rw [eq_tl] at h
  unfold topL
  cases e : fstAt xs p 0 with
  | none =>
    rw [e] at h
    cases h
  | some n => rfl
theorem cond_is (xs : List Int) (o p : Nat) : (!decide ((p : Int) = (o : Int)) && (!eqD (tl xs o) (.lst []) && (eqD (tl xs p) (.lst []) || decide ((topL xs o).headD 0 < (topL xs p).headD 0)))) = condB xs o p := by
  unfold condB
  rw [eq_tl, eq_tl]
  unfold topL
  cases fstAt xs o 0 with
  | none => rfl
  | some a =>
    cases fstAt xs p 0 with
    | none => rfl
    | some b =>
      congr 1
      show (true && (false || decide ((a : Int) < (b : Int)))) = decide (a < b)
      rw [Bool.true_and, Bool.false_or]
      exact decide_eq_decide.mpr ⟨fun h => by omega, fun h => by omega⟩
def cell1 (xs : List Int) (o p : Int) : List (Int × Int) := if condB xs o p then [((topL xs o).headD 0, p)] else []
def rowTo (xs : List Int) (o : Int) : Nat → List (Int × Int)
  | 0 => []
  | n + 1 => rowTo xs o n ++ cell1 xs o n
def fTo (xs : List Int) : Nat → List (Int × Int)
  | 0 => []
  | n + 1 => fTo xs n ++ rowTo xs n 3
theorem row_len (xs : List Int) (o : Int) : ∀ n, (rowTo xs o n).length ≤ n
  | 0 => Nat.le_refl _
  | n + 1 => by
    show (rowTo xs o n ++ cell1 xs o n).length ≤ _
    rw [List.length_append]
    have h := row_len xs o n
    have h2 : (cell1 xs o n).length ≤ 1 := by
      unfold cell1
      split
      · exact Nat.le_refl _
      · exact Nat.zero_le _
    omega
theorem fTo_len (xs : List Int) : ∀ n, (fTo xs n).length ≤ 3 * n
  | 0 => Nat.le_refl _
  | n + 1 => by
    show (fTo xs n ++ rowTo xs n 3).length ≤ _
    rw [List.length_append]
    have h := fTo_len xs n
    have h2 := row_len xs n 3
    omega
/-- qs: what is told, the list found being sorted -/
def RLMay : List D → Out → Prop := fun ds o => ∃ (xs : List Int) (qs : List (Int × Int)), ds = [tI xs] ∧ xs.length ≤ 60 ∧ inB 64 (fTo xs 3) ∧ qs.Perm (fTo xs 3) ∧ qs.Pairwise (fun p q => cd2 64 p ≤ cd2 64 q) ∧ o = .ret (.own (prs qs))
def lcScope : Expr → Scope
  | .ListComp _ _ sc _ => sc
  | _ => { kind := .function, names := [], isGenerator := false, isCoroutine := false }
def asgVal : Stmt → Expr
  | .Assign _ e _ => e
  | _ => .Constant .none 0 ⟨0, 0, 0, 0⟩
abbrev oScope : Scope := lcScope (asgVal ((defBody sLMay).getD 0 (.Pass ⟨0, 0, 0, 0⟩)))
section
variable {P : Program} {w : World} {K : PySem.W.Frag} {mg : Str → Option Value} {base : Heap} {T : List Addr}
abbrev nLMay : List Str := ["_law_setting_here", "_law_own", "_law_peg", "_law_tops", "_law_found", "_law_disc"]
theorem scLMay : FnScope nLMay ["_law_setting_here"] (defScope sLMay) := ⟨rfl, rfl, rfl, by decide +kernel, rfl, by decide +kernel, by decide +kernel⟩
theorem kn_lmay {f : Addr} {fd : FuncData} (F : Fun K "_law_may" "_law_may" sLMay f fd) (Z3 : Txt3 K mg) (Z4 : Txt4 K mg) (hm : mg "_law_may" = some (.ref f)) (hb : Binds K fd ["_law_setting_here"] []) : Kn P w K mg base T 1 "_law_may" RLMay := by
  refine kn_mk F scLMay hm hb (fun ds o h => ?_) (fun cdv A outer s B H E ds o hr h xw => ?_)
  · obtain ⟨xs, qs, rfl, _⟩ := h
    rfl
  · obtain ⟨xs, qs, rfl, hl, hB, hp, hw, rfl⟩ := h
    show PXs _ T B H [.v (tI xs), .no, .no, .no, .no, .no] _ _
    have hu : (A.deeper (envOfC "_law_may" (defScope sLMay) s.heap.objs.size f cdv)).units + 64 < cLine := hu64 hr
    refine px_cons1 (px_setLc (i := 3) (own := [("_law_own", 1)]) (f := fName 1) (fun _ => true) (ownM xs) (pit_range (n := 3) pd_int (by decide) (by decide) Z3.range) scLMay.nd (blkOk_by (N := nLMay) (sc := defScope sLMay) (by decide +kernel)) (fun _ _ _ _ _ => pgd_name (by decide) scLMay.nd rfl (Or.inr rfl) (Or.inl rfl)) (fun d _ => ⟨_, rfl⟩) (fun d hd ρ' hf _ _ _ _ _ => ptd_nil) ?_ (Nat.le_add_left 3 99997) rfl (sw_true rfl rfl rfl (by decide +kernel))) ?_
    · rintro d hd _ ρ' hf s1 H1 C1 cl1 fp1
      cases hf
      obtain ⟨p, _, rfl⟩ := List.mem_map.mp hd
      show PD _ T [.v (tI xs), .v (.int (p : Int)), .no, .no, .no, .no] _ _
      have q := tl_eq xs (p : Int)
      refine pd_eq (pd_frz (pd_slL (ds := ((enumD (xs.map D.int)).filter (enT p)).map okM) (pd_frz (pd_lc (own := [("_law_disc", 5), ("_law_peg", 2)]) (f := fPair 5 2) (enT p) okM (pit_enumT (pd_var (i := 0) rfl) Z4.enum) scLMay.nd (blkOk_by (N := nLMay) (sc := relS oScope (defScope sLMay)) (by decide +kernel)) (fun _ _ _ _ _ => pgd_pair (by decide) (by decide) scLMay.nd rfl rfl rfl (Or.inl rfl) (Or.inl rfl) (Or.inr rfl) (Or.inr rfl)) ?_ ?_ ?_ ?_)) pp_none (pp_some pd_int))) (by rw [q]; rfl)
      · intro d hd
        obtain ⟨n, x, rfl⟩ := mem_enum hd
        exact ⟨_, _, _, rfl, rfl⟩
      · rintro d hd ρ' hf s H C cl fp
        obtain ⟨n, x, rfl⟩ := mem_enum hd
        obtain ⟨a, b, e, rfl⟩ := hf
        cases e
        exact ptd_one (pb_cmp (pd_tmp (pd_var (i := 2) rfl)) (pd_tmp (pd_var (i := 1) rfl)) cd_eqI)
      · rintro d hd _ ρ' hf s H C cl fp
        obtain ⟨n, x, rfl⟩ := mem_enum hd
        obtain ⟨a, b, e, rfl⟩ := hf
        cases e
        exact pd_var (i := 5) rfl
      · rw [enumD_length, List.length_map]
        omega
    · refine px_frz (i := 3) rfl ?_
      refine px_cons1 (px_setO (i := 4) (pd_lst pas_nil) rfl scLMay.nd) ?_
      show PXs _ T B H [.v (tI xs), .no, .no, .v (.lst [tl xs 0, tl xs 1, tl xs 2]), .own [], .no] _ _
      have tops : ∀ m : Nat, m < 3 → ([tl xs 0, tl xs 1, tl xs 2] : List D)[m]? = some (tl xs (m : Int)) := fun m hm => by
        have c3 : m = 0 ∨ m = 1 ∨ m = 2 := by omega
        rcases c3 with rfl | rfl | rfl <;> rfl
      refine px_cons (N := fun z => ∃ s1 s2, z = [.v (tI xs), s1, s2, .v (.lst [tl xs 0, tl xs 1, tl xs 2]), .own (prs (fTo xs 3)), .no]) (px_range (n := 3) (i := 1) (fun m z => ∃ s1 s2, z = [.v (tI xs), s1, s2, .v (.lst [tl xs 0, tl xs 1, tl xs 2]), .own (prs (fTo xs m)), .no]) pd_int (by decide) (by decide) Z3.range ⟨_, _, rfl⟩ ?_ ?_ PassesOwn.leaving scLMay.nd) ?_
      · rintro o ρ1 ho ⟨s1, s2, rfl⟩
        have ho' : o < 3 := by omega
        refine px_one (px_range (n := 3) (i := 2) (fun m z => ∃ s2, z = [.v (tI xs), .v (.int (o : Int)), s2, .v (.lst [tl xs 0, tl xs 1, tl xs 2]), .own (prs (fTo xs o ++ rowTo xs o m)), .no]) pd_int (by decide) (by decide) Z3.range ⟨s2, by show [_, _, _, _, _, _] = [_, _, _, _, _, _]; rw [show rowTo xs o 0 = [] from rfl, List.append_nil]⟩ ?_ ?_ PassesOwn.leaving scLMay.nd)
        · rintro p ρ1 hp' ⟨s2, rfl⟩
          have hp3 : p < 3 := by omega
          show PXs _ T B H [.v (tI xs), .v (.int (o : Int)), .v (.int (p : Int)), .v (.lst [tl xs 0, tl xs 1, tl xs 2]), .own (prs (fTo xs o ++ rowTo xs o p)), .no] _ _
          have to := at_nat (tops o ho')
          have tp := at_nat (tops p hp3)
          refine px_one (px_if (k := condB xs o p) (pb_bool (pwb_eq (pwb_and (pb_cmp (pd_tmp (pd_var (i := 2) rfl)) (pd_tmp (pd_var (i := 1) rfl)) cd_neI) fun h1 => pwb_and (pb_cmp (pd_tmp (pd_ix (pd_var (i := 3) rfl) (pd_var (i := 1) rfl) rfl to)) (pd_tmp (pd_frz (pd_lst pas_nil))) (cd_neD (n := 1) hu (sh_tl xs _) rfl)) fun h2 => pwb_and1 (pb_bool (pwb_or (k' := decide ((topL xs o).headD 0 < (topL xs p).headD 0)) (pb_cmp (pd_tmp (pd_ix (pd_var (i := 3) rfl) (pd_var (i := 2) rfl) rfl tp)) (pd_tmp (pd_frz (pd_lst pas_nil))) (cd_eqD (n := 1) hu (sh_tl xs _) rfl)) fun h3 => pwb_or1 (pb_cmp (pd_tmp (pd_ix (i := 0) (pd_ix (pd_var (i := 3) rfl) (pd_var (i := 1) rfl) rfl to) pd_int rfl (at_top h2))) (pd_tmp (pd_ix (i := 0) (pd_ix (pd_var (i := 3) rfl) (pd_var (i := 2) rfl) rfl tp) pd_int rfl (at_top (by rw [h3]; rfl)))) cd_lt)))) (cond_is xs o p))) (fun h => ?_) fun h => ?_)
          · have h2 : (!eqD (tl xs o) (.lst [])) = true := by
              have q := h
              rw [← cond_is, Bool.and_eq_true, Bool.and_eq_true] at q
              exact q.2.1
            refine px_one (px_append (i := 4) rfl (pe_bm PySem.F.plainAttrs_list PySem.F.slot_list_append PySem.F.type_list_append mt_append (pv 4) (pa_cons (pd_tup (pas_cons (pd_ix (i := 0) (pd_ix (pd_var (i := 3) rfl) (pd_var (i := 1) rfl) rfl to) pd_int rfl (at_top h2)) (pas_cons (pd_var (i := 2) rfl) pas_nil))) pa_nil)) ?_ ⟨.v (.int (p : Int)), ?_⟩)
            · have q1 := fTo_len xs o
              have q2 := row_len xs o p
              rw [prs_len, List.length_append]
              omega
            · show [_, _, _, _, _, _] = [_, _, _, _, _, _]
              have e : rowTo xs o (p + 1) = rowTo xs o p ++ [((topL xs o).headD 0, (p : Int))] := by
                show rowTo xs o p ++ cell1 xs o p = _
                unfold cell1
                rw [if_pos h]
              rw [e, ← List.append_assoc, ← prs_app (fTo xs o ++ rowTo xs o p)]
              rfl
          · refine px_nil ⟨.v (.int (p : Int)), ?_⟩
            have e : rowTo xs o (p + 1) = rowTo xs o p := by
              show rowTo xs o p ++ cell1 xs o p = _
              unfold cell1
              rw [if_neg (by rw [h]; exact Bool.false_ne_true), List.append_nil]
            rw [e]
        · rintro ρ1 ⟨s2, rfl⟩
          exact ⟨_, s2, rfl⟩
      · rintro ρ1 ⟨s1, s2, rfl⟩
        exact ⟨s1, s2, rfl⟩
      · rintro ρ1 ⟨s1, s2, rfl⟩
        refine px_frz (i := 4) rfl ?_
        refine px_one (px_ret (pd_blt (cl_sorted (B := 64) (by have := fTo_len xs 3; omega) hB hp hw) Z4.sorted (pas_cons (pd_var (i := 4) rfl) pas_nil)) rfl)
end
end Peg
namespace DX
open PySem PySem.Spec PyProof.Rows L2
theorem pd_neg {X : Cx} {T : List Addr} {ρ : Rho} {e : Expr} {pos : Pos} {i : Int} (h : PD X T ρ e (.v (.int i))) : PD X T ρ (.UnaryOp .USub e pos) (.v (.int (-i))) := PE.imp (pe_un un_neg h) fun σ H Q ⟨B0, H0, B, S, k⟩ => ⟨B0, H0, B, S, fun v B1 H1 f1 q1 => by
  cases q1
  exact ⟨i, rfl, k _ _ _ f1 (.int _)⟩⟩
theorem eq_pair (x y a b : Int) : eqD (.tup [.int x, .int y]) (.tup [.int a, .int b]) = (decide (x = a) && decide (y = b)) := by
  show (x == a && (y == b && true)) = _
  rw [Bool.and_true]
  rfl
theorem any_prs (qs : List (Int × Int)) (a b : Int) : ((prs qs).any fun z => eqD z (.tup [.int a, .int b])) = decide ((a, b) ∈ qs) := by
  rw [Bool.eq_iff_iff, List.any_eq_true, decide_eq_true_eq]
  constructor
  · rintro ⟨z, hz, h⟩
    obtain ⟨q, hq, rfl⟩ := List.mem_map.mp hz
    rw [eq_pair, Bool.and_eq_true, decide_eq_true_eq, decide_eq_true_eq] at h
    obtain ⟨x, y⟩ := q
    obtain ⟨rfl, rfl⟩ := h
    exact hq
  · intro h
    refine ⟨_, List.mem_map.mpr ⟨(a, b), h, rfl⟩, ?_⟩
    rw [eq_pair, decide_eq_true rfl, decide_eq_true rfl]
    rfl
theorem sh_prs (qs : List (Int × Int)) : sh 2 (.lst (prs qs)) = true := by
  show (prs qs).all (sh 1) = true
  rw [List.all_eq_true]
  intro z hz
  obtain ⟨q, _, rfl⟩ := List.mem_map.mp hz
  rfl
end DX
namespace Peg
open PySem PySem.Spec PyProof.Rows L2 DX
def noneAt (qs : List (Int × Int)) (n : Nat) : List (Int × Int) := ([0, 1, 2].filter fun p : Int => !decide (((n : Int), p) ∈ qs)).map fun p => ((n : Int), p)
def noneTo (qs : List (Int × Int)) : Nat → List (Int × Int)
  | 0 => []
  | n + 1 => noneTo qs n ++ noneAt qs n
theorem noneAt_len (qs : List (Int × Int)) (n : Nat) : (noneAt qs n).length ≤ 3 := by
  unfold noneAt
  rw [List.length_map]
  exact List.length_filter_le _ _
theorem noneTo_len (qs : List (Int × Int)) : ∀ n, (noneTo qs n).length ≤ 3 * n
  | 0 => Nat.le_refl _
  | n + 1 => by
    show (noneTo qs n ++ noneAt qs n).length ≤ _
    rw [List.length_append]
    have h1 := noneTo_len qs n
    have h2 := noneAt_len qs n
    omega
def oddL (m : Int) : List D := [.tup [.int m, .int 0], .tup [.int (-1), .int 1], .tup [.int 0, .int 3], .tup [.int 0, .int (-1)], .tup [.bl true, .int 1], .tup [.int 0, .bl true], .tup [.int 0, .non], .tup [.int 0], .tup [.int 0, .int 1, .int 2], .lst [.int 0, .int 1], .non,
  .str "01", .int 5, emp, .tup [], .tup [.str "0", .int 1], .tup [.int (10 ^ 30), .int 0]]
def wrongD (m : Nat) (qs : List (Int × Int)) (number : Int) : D :=
  if noneTo qs m ≠ [] ∧ number % 2 = 0 then
    .tup [.int ((noneTo qs m).getD (number / 2 % ((noneTo qs m).length : Int)).toNat (0, 0)).1, .int ((noneTo qs m).getD (number / 2 % ((noneTo qs m).length : Int)).toNat (0, 0)).2]
  else (oddL m).getD (number / 2 % 17).toNat .non
def RWrong : List D → Out → Prop := fun ds o => ∃ xs qs number, ds = [tI xs, .lst (prs qs), .int number] ∧ xs.length ≤ 60 ∧ o = .ret (.v (wrongD xs.length qs number))
def wT (n : Nat) (qs : List (Int × Int)) : D → Bool
  | .int p => !decide (((n : Int), p) ∈ qs)
  | _ => false
theorem w_list (qs : List (Int × Int)) (n : Nat) : (((upto 3).filter (wT n qs)).map (goM n)) = prs (noneAt qs n) := by
  have e : upto 3 = ([0, 1, 2] : List Int).map D.int := rfl
  unfold prs noneAt
  rw [e, List.filter_map, List.map_map, List.map_map]
  rfl
section
variable {P : Program} {w : World} {K : PySem.W.Frag} {mg : Str → Option Value} {base : Heap} {T : List Addr}
abbrev nWrong : List Str := ["_law_setting_here", "_law_may_here", "_law_number", "_law_none", "_law_disc", "_law_odd", "_law_peg"]
end
end Peg
/-! # The mathematics: the moves by discs are those by tops -/
namespace Peg
open PySem PySem.Spec PyProof.Rows L2 DX
theorem isSet_of {xs : List Int} (h : pegs3 xs) (hl : xs.length ≤ 60) : isSet (tI xs) = true := by
  show (decide ((xs.map D.int).length ≤ 60) && (xs.map D.int).all fun d => isW d 2) = true
  rw [Bool.and_eq_true, decide_eq_true_eq, List.length_map, List.all_map, List.all_eq_true]
  refine ⟨hl, fun x hx => ?_⟩
  have q := h x hx
  show (decide (0 ≤ x) && decide (x ≤ 2)) = true
  rw [decide_eq_true q.1, decide_eq_true (by omega)]
  rfl
theorem fst_of {p : Int} : ∀ {xs : List Int} {n i : Nat}, xs[i]? = some p → p ∉ xs.take i → fstAt xs p n = some (n + i)
  | [], _, _, h, _ => by simp at h
  | x :: xs, n, 0, h, _ => by
    have e : x = p := by simpa using h
    unfold fstAt
    rw [if_pos e]
    rfl
  | x :: xs, n, i + 1, h, hn => by
    have hn' : ¬ p = x ∧ p ∉ xs.take i := by simpa using hn
    unfold fstAt
    rw [if_neg fun e => hn'.1 e.symm, fst_of (n := n + 1) (i := i) (by simpa using h) hn'.2]
    congr 1
    omega
theorem fst_inv {p : Int} : ∀ {xs : List Int} {n a : Nat}, fstAt xs p n = some a → ∃ i, a = n + i ∧ xs[i]? = some p ∧ p ∉ xs.take i
  | [], _, _, h => by cases h
  | x :: xs, n, a, h => by
    unfold fstAt at h
    by_cases e : x = p
    · rw [if_pos e] at h
      cases h
      exact ⟨0, rfl, by simp [e], by simp⟩
    · rw [if_neg e] at h
      obtain ⟨i, h1, h2, h3⟩ := fst_inv h
      refine ⟨i + 1, by omega, by simpa using h2, ?_⟩
      rw [List.take_succ_cons, List.mem_cons]
      exact fun z => z.elim (fun q => e q.symm) h3
theorem fst_none {p : Int} : ∀ {xs : List Int} {n : Nat}, fstAt xs p n = none → p ∉ xs
  | [], _, _ => by simp
  | x :: xs, n, h => by
    unfold fstAt at h
    by_cases e : x = p
    · rw [if_pos e] at h
      cases h
    · rw [if_neg e] at h
      rw [List.mem_cons]
      exact fun z => z.elim (fun q => e q.symm) (fst_none h)
theorem can_iff {xs : List Int} {n : Nat} {o p : Int} (h : xs[n]? = some o) : canGo xs n p = true ↔ p ≠ o ∧ o ∉ xs.take n ∧ p ∉ xs.take n := by
  have e : xs.getD n 0 = o := by
    rw [List.getD_eq_getElem?_getD, h]
    rfl
  unfold canGo
  rw [e]
  simp only [Bool.and_eq_true, Bool.not_eq_true', decide_eq_false_iff_not]
theorem mem_movesAt {xs : List Int} {n : Nat} {q : Int × Int} : q ∈ movesAt xs n ↔ q.1 = n ∧ (q.2 = 0 ∨ q.2 = 1 ∨ q.2 = 2) ∧ canGo xs n q.2 = true := by
  unfold movesAt
  rw [List.mem_map]
  constructor
  · rintro ⟨p, hp, rfl⟩
    rw [List.mem_filter] at hp
    exact ⟨rfl, by simpa using hp.1, hp.2⟩
  · rintro ⟨h1, h2, h3⟩
    obtain ⟨a, b⟩ := q
    simp only at h1 h2 h3
    subst h1
    refine ⟨b, ?_, rfl⟩
    rw [List.mem_filter]
    exact ⟨by simpa using h2, h3⟩
theorem mem_mv {xs : List Int} {q : Int × Int} : ∀ {m : Nat}, q ∈ mvTo xs m ↔ ∃ n : Nat, n < m ∧ q.1 = n ∧ (q.2 = 0 ∨ q.2 = 1 ∨ q.2 = 2) ∧ canGo xs n q.2 = true
  | 0 => by
    constructor
    · intro h
      cases h
    · rintro ⟨n, h, _⟩
      omega
  | m + 1 => by
    show q ∈ mvTo xs m ++ movesAt xs m ↔ _
    rw [List.mem_append, mem_mv, mem_movesAt]
    constructor
    · rintro (⟨n, h1, h2⟩ | h)
      · exact ⟨n, by omega, h2⟩
      · exact ⟨m, by omega, h⟩
    · rintro ⟨n, h1, h2⟩
      by_cases e : n = m
      · subst e
        exact .inr h2
      · exact .inl ⟨n, by omega, h2⟩
theorem mem_cell {xs : List Int} {o p : Int} {q : Int × Int} : q ∈ cell1 xs o p ↔ condB xs o p = true ∧ q = ((topL xs o).headD 0, p) := by
  unfold cell1
  by_cases h : condB xs o p = true
  · rw [if_pos h, List.mem_singleton]
    exact ⟨fun e => ⟨h, e⟩, fun e => e.2⟩
  · rw [if_neg h]
    exact ⟨(fun z => nomatch z), fun e => absurd e.1 h⟩
theorem mem_row {xs : List Int} {o : Int} {q : Int × Int} : ∀ {m : Nat}, q ∈ rowTo xs o m ↔ ∃ p : Nat, p < m ∧ condB xs o p = true ∧ q = ((topL xs o).headD 0, (p : Int))
  | 0 => by
    constructor
    · intro h
      cases h
    · rintro ⟨n, h, _⟩
      omega
  | m + 1 => by
    show q ∈ rowTo xs o m ++ cell1 xs o m ↔ _
    rw [List.mem_append, mem_row, mem_cell]
    constructor
    · rintro (⟨n, h1, h2⟩ | h)
      · exact ⟨n, by omega, h2⟩
      · exact ⟨m, by omega, h⟩
    · rintro ⟨n, h1, h2⟩
      by_cases e : n = m
      · subst e
        exact .inr h2
      · exact .inl ⟨n, by omega, h2⟩
theorem mem_fTo {xs : List Int} {q : Int × Int} : ∀ {m : Nat}, q ∈ fTo xs m ↔ ∃ o p : Nat, o < m ∧ p < 3 ∧ condB xs o p = true ∧ q = ((topL xs o).headD 0, (p : Int))
  | 0 => by
    constructor
    · intro h
      cases h
    · rintro ⟨n, _, h, _⟩
      omega
  | m + 1 => by
    show q ∈ fTo xs m ++ rowTo xs m 3 ↔ _
    rw [List.mem_append, mem_fTo, mem_row]
    constructor
    · rintro (⟨o, p, h1, h2⟩ | ⟨p, h⟩)
      · exact ⟨o, p, by omega, h2⟩
      · exact ⟨m, p, by omega, h⟩
    · rintro ⟨o, p, h1, h2⟩
      by_cases e : o = m
      · subst e
        exact .inr ⟨p, h2⟩
      · exact .inl ⟨o, p, by omega, h2⟩
theorem cond_iff {xs : List Int} {o p : Int} : condB xs o p = true ↔ p ≠ o ∧ ∃ a, fstAt xs o 0 = some a ∧ ∀ b, fstAt xs p 0 = some b → a < b := by
  unfold condB
  rw [Bool.and_eq_true, Bool.not_eq_true', decide_eq_false_iff_not]
  refine and_congr_right fun _ => ?_
  cases h1 : fstAt xs o 0 with
  | none => exact ⟨(fun z => nomatch z), fun ⟨a, z, _⟩ => nomatch z⟩
  | some a =>
    cases h2 : fstAt xs p 0 with
    | none => exact ⟨fun _ => ⟨a, rfl, (fun b z => nomatch z)⟩, fun _ => rfl⟩
    | some b =>
      constructor
      · intro h
        exact ⟨a, rfl, fun b' e => by cases e; exact of_decide_eq_true h⟩
      · rintro ⟨a', e, h⟩
        cases e
        exact decide_eq_true (h b rfl)
theorem top_head {xs : List Int} {o : Int} {a : Nat} (h : fstAt xs o 0 = some a) : (topL xs o).headD 0 = a := by
  unfold topL
  rw [h]
  rfl
/-- the first place lies not behind any place -/
theorem fst_le {xs : List Int} {p : Int} {b j : Nat} (h : fstAt xs p 0 = some b) (hj : xs[j]? = some p) : b ≤ j := by
  obtain ⟨i, h1, _, h3⟩ := fst_inv h
  by_cases hb : b ≤ j
  · exact hb
  · refine absurd (List.mem_iff_getElem?.mpr ⟨j, ?_⟩) h3
    rw [List.getElem?_take, if_pos (by omega)]
    exact hj
theorem same_mem {xs : List Int} (h : pegs3 xs) (q : Int × Int) : q ∈ mvTo xs xs.length ↔ q ∈ fTo xs 3 := by
  rw [mem_mv, mem_fTo]
  constructor
  · rintro ⟨n, hn, h1, h2, h3⟩
    have hx : xs[n]? = some xs[n] := List.getElem?_eq_getElem hn
    have hb := h xs[n] (List.getElem_mem hn)
    rw [can_iff hx] at h3
    obtain ⟨ne, no, np⟩ := h3
    have eo : ((xs[n].toNat : Nat) : Int) = xs[n] := Int.toNat_of_nonneg hb.1
    have ep : ((q.2.toNat : Nat) : Int) = q.2 := Int.toNat_of_nonneg (by omega)
    have f1 : fstAt xs xs[n] 0 = some n := by
      have z := fst_of (n := 0) hx no
      rw [Nat.zero_add] at z
      exact z
    refine ⟨xs[n].toNat, q.2.toNat, by omega, by omega, ?_, ?_⟩
    · rw [eo, ep, cond_iff]
      refine ⟨ne, n, f1, fun b hb' => ?_⟩
      obtain ⟨i, e1, e2, e3⟩ := fst_inv hb'
      by_cases hlt : n < b
      · exact hlt
      · by_cases hnb : b = n
        · have ei : i = n := by omega
          rw [ei, hx] at e2
          exact absurd (Option.some.inj e2).symm ne
        · refine absurd (List.mem_iff_getElem?.mpr ⟨i, ?_⟩) np
          rw [List.getElem?_take, if_pos (by omega)]
          exact e2
    · rw [eo, ep, top_head f1]
      exact Prod.ext h1 rfl
  · rintro ⟨o, p, ho, hp, hc, rfl⟩
    rw [cond_iff] at hc
    obtain ⟨ne, a, f1, hlt⟩ := hc
    obtain ⟨i, e1, e2, e3⟩ := fst_inv f1
    have ea : a = i := by omega
    subst ea
    have hn : a < xs.length := (List.getElem?_eq_some_iff.mp e2).1
    refine ⟨a, hn, top_head f1, by show (p : Int) = 0 ∨ (p : Int) = 1 ∨ (p : Int) = 2; omega, ?_⟩
    rw [can_iff e2]
    refine ⟨ne, e3, fun hm => ?_⟩
    obtain ⟨j, hj⟩ := List.mem_iff_getElem?.mp hm
    rw [List.getElem?_take] at hj
    by_cases hja : j < a
    · rw [if_pos hja] at hj
      cases hb : fstAt xs p 0 with
      | none => exact fst_none hb (List.mem_iff_getElem?.mpr ⟨j, hj⟩)
      | some b =>
        have z1 := hlt b hb
        have z2 := fst_le hb hj
        omega
    · rw [if_neg hja] at hj
      cases hj
theorem movesAt_lt (xs : List Int) (n : Nat) : (movesAt xs n).Pairwise (fun p q => cd2 64 p < cd2 64 q) := by
  unfold movesAt
  rw [List.pairwise_map]
  refine List.Pairwise.sublist List.filter_sublist ?_
  unfold cd2
  simp only [List.pairwise_cons, List.mem_cons, List.not_mem_nil, or_false, List.Pairwise.nil, and_true]
  refine ⟨fun a h => ?_, fun a h => ?_, (fun a h => nomatch h)⟩ <;> omega
theorem mv_lt (xs : List Int) : ∀ n, (mvTo xs n).Pairwise (fun p q => cd2 64 p < cd2 64 q)
  | 0 => .nil
  | n + 1 => by
    show (mvTo xs n ++ movesAt xs n).Pairwise _
    rw [List.pairwise_append]
    refine ⟨mv_lt xs n, movesAt_lt xs n, fun a ha b hb => ?_⟩
    obtain ⟨m, h1, h2, h3, _⟩ := mem_mv.mp ha
    obtain ⟨k1, k2, _⟩ := mem_movesAt.mp hb
    unfold cd2
    omega
theorem mv_nodup (xs : List Int) (n : Nat) : (mvTo xs n).Nodup := (mv_lt xs n).imp fun {a b} h e => by
  rw [e] at h
  omega
theorem row_nodup (xs : List Int) (o : Int) : ∀ n, (rowTo xs o n).Nodup
  | 0 => .nil
  | n + 1 => by
    show (rowTo xs o n ++ cell1 xs o n).Nodup
    rw [List.nodup_append]
    refine ⟨row_nodup xs o n, ?_, fun a ha b hb e => ?_⟩
    · unfold cell1
      split
      · exact List.nodup_cons.mpr ⟨by simp, .nil⟩
      · exact .nil
    · subst e
      obtain ⟨p, h1, _, h3⟩ := mem_row.mp ha
      obtain ⟨_, h4⟩ := mem_cell.mp hb
      rw [h3] at h4
      have z := congrArg Prod.snd h4
      simp only at z
      omega
theorem fTo_nodup (xs : List Int) : ∀ n, (fTo xs n).Nodup
  | 0 => .nil
  | n + 1 => by
    show (fTo xs n ++ rowTo xs n 3).Nodup
    rw [List.nodup_append]
    refine ⟨fTo_nodup xs n, row_nodup xs n 3, fun a ha b hb e => ?_⟩
    subst e
    obtain ⟨o, p, h1, _, h3, h4⟩ := mem_fTo.mp ha
    obtain ⟨p', _, k3, k4⟩ := mem_row.mp hb
    obtain ⟨_, x, f1, _⟩ := cond_iff.mp h3
    obtain ⟨_, y, f2, _⟩ := cond_iff.mp k3
    rw [h4, top_head f1, top_head f2] at k4
    have z := congrArg Prod.fst k4
    simp only at z
    have zz : x = y := by omega
    subst zz
    obtain ⟨i, e1, e2, _⟩ := fst_inv f1
    obtain ⟨j, d1, d2, _⟩ := fst_inv f2
    have ij : i = j := by omega
    subst ij
    rw [e2] at d2
    have w := Option.some.inj d2
    omega
theorem may_perm {xs : List Int} (h : pegs3 xs) : (mvTo xs xs.length).Perm (fTo xs 3) := (List.perm_ext_iff_of_nodup (mv_nodup xs _) (fTo_nodup xs 3)).mpr (same_mem h)
theorem mv_sorted (xs : List Int) (n : Nat) : (mvTo xs n).Pairwise (fun p q => cd2 64 p ≤ cd2 64 q) := (mv_lt xs n).imp fun {a b} h => Int.le_of_lt h
theorem may_inB {xs : List Int} (h : pegs3 xs) (hl : xs.length ≤ 60) : inB 64 (fTo xs 3) := fun q hq => by
  obtain ⟨n, h1, h2, h3, _⟩ := mem_mv.mp ((same_mem h q).mpr hq)
  omega
/-- each of the moves may be -/
theorem mv_may {xs : List Int} {q : Int × Int} (h : q ∈ mvTo xs xs.length) : ∃ i : Nat, i < xs.length ∧ q = ((i : Int), q.2) ∧ mayBe xs (.tup [.int (i : Int), .int q.2]) = true := by
  obtain ⟨n, h1, h2, h3, h4⟩ := mem_mv.mp h
  refine ⟨n, h1, Prod.ext h2 rfl, ?_⟩
  show ((isW (.int (n : Int)) ((xs.length : Int) - 1) && isW (.int q.2) 2) && canGo xs ((n : Int)).toNat q.2) = true
  rw [Int.toNat_natCast, h4, Bool.and_true, Bool.and_eq_true]
  constructor
  · show (decide (0 ≤ (n : Int)) && decide ((n : Int) ≤ (xs.length : Int) - 1)) = true
    rw [decide_eq_true (by omega), decide_eq_true (by omega)]
    rfl
  · show (decide (0 ≤ q.2) && decide (q.2 ≤ 2)) = true
    rw [decide_eq_true (by omega), decide_eq_true (by omega)]
    rfl
theorem mem_none {qs : List (Int × Int)} {q : Int × Int} : ∀ {m : Nat}, q ∈ noneTo qs m → ∃ n : Nat, n < m ∧ q.1 = n ∧ (q.2 = 0 ∨ q.2 = 1 ∨ q.2 = 2) ∧ q ∉ qs
  | 0, h => by cases h
  | m + 1, h => by
    rcases List.mem_append.mp (show q ∈ noneTo qs m ++ noneAt qs m from h) with h | h
    · obtain ⟨n, h1, h2⟩ := mem_none h
      exact ⟨n, by omega, h2⟩
    · unfold noneAt at h
      obtain ⟨p, hp, rfl⟩ := List.mem_map.mp h
      rw [List.mem_filter] at hp
      refine ⟨m, Nat.lt_succ_self _, rfl, by simpa using hp.1, ?_⟩
      have z := hp.2
      rw [Bool.not_eq_true', decide_eq_false_iff_not] at z
      exact z
theorem kdl {ds : List D} (h : ∀ d ∈ ds, ∃ n, Kd d n) : KdA (.tup ds) := h
theorem kd2 {p q : D} {n m : String} (h1 : Kd p n) (h2 : Kd q m) : KdA (.tup [p, q]) := fun d hd => by
  simp only [List.mem_cons, List.not_mem_nil, or_false] at hd
  rcases hd with rfl | rfl
  · exact ⟨_, h1⟩
  · exact ⟨_, h2⟩
theorem wrong_ok {xs : List Int} (hl : xs.length ≤ 60) (number : Int) : mayBe xs (wrongD xs.length (mvTo xs xs.length) number) = false ∧ KdA (wrongD xs.length (mvTo xs xs.length) number) ∧ ∃ m, Kd (wrongD xs.length (mvTo xs xs.length) number) m := by
  unfold wrongD
  split
  · rename_i h
    obtain ⟨hne, _⟩ := h
    have hpos : 0 < (noneTo (mvTo xs xs.length) xs.length).length := List.length_pos_iff.mpr hne
    have z1 : 0 ≤ number / 2 % ((noneTo (mvTo xs xs.length) xs.length).length : Int) := Int.emod_nonneg _ (by omega)
    have z2 : number / 2 % ((noneTo (mvTo xs xs.length) xs.length).length : Int) < ((noneTo (mvTo xs xs.length) xs.length).length : Int) := Int.emod_lt_of_pos _ (by omega)
    generalize hq : (noneTo (mvTo xs xs.length) xs.length).getD (number / 2 % ((noneTo (mvTo xs xs.length) xs.length).length : Int)).toNat (0, 0) = q
    have hm : q ∈ noneTo (mvTo xs xs.length) xs.length := by
      rw [← hq, List.getD_eq_getElem?_getD, List.getElem?_eq_getElem (by omega)]
      exact List.getElem_mem _
    obtain ⟨n, h1, h2, h3, h4⟩ := mem_none hm
    refine ⟨?_, ?_, _, .tup _⟩
    · have hc : canGo xs n q.2 = false := by
        cases e : canGo xs n q.2 with
        | false => rfl
        | true => exact absurd (mem_mv.mpr ⟨n, h1, h2, h3, e⟩) h4
      show ((isW (.int q.1) _ && isW (.int q.2) 2) && canGo xs q.1.toNat q.2) = false
      rw [h2, Int.toNat_natCast, hc, Bool.and_false]
    · intro d hd
      simp only [List.mem_cons, List.not_mem_nil, or_false] at hd
      rcases hd with rfl | rfl <;> exact ⟨_, .int _⟩
  · have z1 : 0 ≤ number / 2 % 17 := Int.emod_nonneg _ (by decide)
    have z2 : number / 2 % 17 < 17 := Int.emod_lt_of_pos _ (by decide)
    generalize hn : (number / 2 % 17).toNat = a
    have ha : a < 17 := by omega
    have big : isW (.int (10 ^ 30)) ((xs.length : Int) - 1) = false := by
      show (decide ((0 : Int) ≤ 10 ^ 30) && decide ((10 : Int) ^ 30 ≤ (xs.length : Int) - 1)) = false
      rw [decide_eq_false (by omega : ¬ ((10 : Int) ^ 30 ≤ (xs.length : Int) - 1)), Bool.and_false]
    have end_ : isW (.int (xs.length : Int)) ((xs.length : Int) - 1) = false := by
      show (decide (0 ≤ (xs.length : Int)) && decide ((xs.length : Int) ≤ (xs.length : Int) - 1)) = false
      rw [decide_eq_false (by omega : ¬ ((xs.length : Int) ≤ (xs.length : Int) - 1)), Bool.and_false]
    have c17 : a = 0 ∨ a = 1 ∨ a = 2 ∨ a = 3 ∨ a = 4 ∨ a = 5 ∨ a = 6 ∨ a = 7 ∨ a = 8 ∨ a = 9 ∨ a = 10 ∨ a = 11 ∨ a = 12 ∨ a = 13 ∨ a = 14 ∨ a = 15 ∨ a = 16 := by omega
    have two : ∀ {p q : D}, (isW p ((xs.length : Int) - 1) && isW q 2) = false → mayBe xs (.tup [p, q]) = false := fun {p q} h => by
      show ((isW p _ && isW q 2) && _) = false
      rw [h]
      rfl
    rcases c17 with rfl | rfl | rfl | rfl | rfl | rfl | rfl | rfl | rfl | rfl | rfl | rfl | rfl | rfl | rfl | rfl | rfl
    · exact ⟨two (by rw [end_]; rfl), kd2 (.int _) (.int _), _, .tup _⟩
    · exact ⟨two rfl, kd2 (.int _) (.int _), _, .tup _⟩
    · exact ⟨two (by rw [Bool.and_comm]; rfl), kd2 (.int _) (.int _), _, .tup _⟩
    · exact ⟨two (by rw [Bool.and_comm]; rfl), kd2 (.int _) (.int _), _, .tup _⟩
    · exact ⟨two rfl, kd2 (.bl _) (.int _), _, .tup _⟩
    · exact ⟨two (by rw [Bool.and_comm]; rfl), kd2 (.int _) (.bl _), _, .tup _⟩
    · exact ⟨two (by rw [Bool.and_comm]; rfl), kd2 (.int _) .non, _, .tup _⟩
    · exact ⟨rfl, kdl fun d hd => by rw [List.mem_singleton.mp hd]; exact ⟨_, .int _⟩, _, .tup _⟩
    · refine ⟨rfl, kdl fun d hd => ?_, _, .tup _⟩
      simp only [List.mem_cons, List.not_mem_nil, or_false] at hd
      rcases hd with rfl | rfl | rfl <;> exact ⟨_, .int _⟩
    · exact ⟨rfl, trivial, _, .lst _⟩
    · exact ⟨rfl, trivial, _, .non⟩
    · exact ⟨rfl, trivial, _, .str _⟩
    · exact ⟨rfl, trivial, _, .int _⟩
    · exact ⟨rfl, trivial, _, .emp⟩
    · exact ⟨rfl, kdl (fun d hd => nomatch hd), _, .tup _⟩
    · exact ⟨two rfl, kd2 (.str _) (.int _), _, .tup _⟩
    · exact ⟨two (by rw [big]; rfl), kd2 (.int _) (.int _), _, .tup _⟩
end Peg
/-! # The moves of a setting and the moves of the towers -/
namespace Peg
open PySem PySem.Spec PyProof.Rows L2 DX
theorem pgs_rev {xs : List Int} (h : pegs3 xs) : Tow.Pgs xs.reverse := fun x hx => h x (List.mem_reverse.mp hx)
theorem split_at {xs : List Int} {n : Nat} {o : Int} (h : xs[n]? = some o) : xs = xs.take n ++ o :: xs.drop (n + 1) := by
  have hn := (List.getElem?_eq_some_iff.mp h).1
  have e : xs[n] = o := (List.getElem?_eq_some_iff.mp h).2
  rw [← e, List.getElem_cons_drop, List.take_append_drop]
theorem set_split {xs : List Int} {n : Nat} {p : Int} (hn : n < xs.length) : xs.set n p = xs.take n ++ p :: xs.drop (n + 1) := by
  rw [List.set_eq_take_append_cons_drop, if_pos hn]
/-- a move that may be leads to a setting of the towers -/
theorem mv_of {xs : List Int} {q : Int × Int} (h3 : pegs3 xs) (h : q ∈ mvTo xs xs.length) : ∃ i : Nat, i < xs.length ∧ q = ((i : Int), q.2) ∧ Tow.Pg q.2 ∧ Tow.Mv xs.reverse (i, q.2) (xs.set i q.2).reverse := by
  obtain ⟨n, hn, e1, e2, hc⟩ := mem_mv.mp h
  have hx : xs[n]? = some xs[n] := List.getElem?_eq_getElem hn
  have ho := h3 xs[n] (List.getElem_mem hn)
  rw [can_iff hx] at hc
  obtain ⟨ne, no, np⟩ := hc
  have hp : Tow.Pg q.2 := ⟨by omega, by omega⟩
  have tk : xs.take n = List.replicate n (3 - xs[n] - q.2) := by
    rw [List.eq_replicate_iff]
    refine ⟨by rw [List.length_take]; omega, fun x hxm => ?_⟩
    have b := h3 x (List.mem_of_mem_take hxm)
    have n1 : x ≠ xs[n] := fun e => no (e ▸ hxm)
    have n2 : x ≠ q.2 := fun e => np (e ▸ hxm)
    omega
  refine ⟨n, hn, Prod.ext e1 rfl, hp, ?_⟩
  have s1 := split_at hx
  have r1 : xs.reverse = (xs.drop (n + 1)).reverse ++ xs[n] :: List.replicate n (3 - xs[n] - q.2) := by
    conv => lhs; rw [s1]
    rw [tk, List.reverse_append, List.reverse_cons, List.reverse_replicate, List.append_assoc]
    rfl
  have r2 : (xs.set n q.2).reverse = (xs.drop (n + 1)).reverse ++ q.2 :: List.replicate n (3 - xs[n] - q.2) := by
    rw [set_split hn, tk, List.reverse_append, List.reverse_cons, List.reverse_replicate, List.append_assoc]
    rfl
  rw [r1, r2]
  exact .mk _ _ _ _ n ho hp ⟨by omega, by omega⟩ (Ne.symm ne) (by omega) (by omega)
/-- .. and back -/
theorem of_mv {xs ys : List Int} {m : Nat × Int} (h : Tow.Mv xs.reverse m ys) : ((m.1 : Int), m.2) ∈ mvTo xs xs.length ∧ ys = (xs.set m.1 m.2).reverse := by
  generalize hr : xs.reverse = rs at h
  cases h with
  | mk A g p q i hg hp hq gp gq pq =>
    have hx : xs = List.replicate i q ++ g :: A.reverse := by
      have z := congrArg List.reverse hr
      rw [List.reverse_reverse, List.reverse_append, List.reverse_cons, List.reverse_replicate, List.append_assoc] at z
      exact z
    have li : i < xs.length := by
      rw [hx, List.length_append, List.length_replicate, List.length_cons]
      omega
    have at_ : xs[i]? = some g := by
      rw [hx, List.getElem?_append_right (by rw [List.length_replicate]; exact Nat.le_refl _), List.length_replicate, Nat.sub_self]
      rfl
    have tk : xs.take i = List.replicate i q := by
      rw [hx, List.take_append_of_le_length (by rw [List.length_replicate]; exact Nat.le_refl _)]
      exact List.take_of_length_le (by rw [List.length_replicate]; exact Nat.le_refl _)
    constructor
    · refine mem_mv.mpr ⟨i, li, rfl, by show p = 0 ∨ p = 1 ∨ p = 2; omega, ?_⟩
      show canGo xs i p = true
      rw [can_iff at_, tk]
      refine ⟨Ne.symm gp, fun z => ?_, fun z => ?_⟩
      · exact gq (List.mem_replicate.mp z).2
      · exact pq (List.mem_replicate.mp z).2
    · show A ++ p :: List.replicate i q = (xs.set i p).reverse
      have dr : xs.drop (i + 1) = A.reverse := by
        have z := split_at at_
        rw [tk] at z
        have z2 := hx.symm.trans z
        exact ((List.cons.inj (List.append_cancel_left z2)).2).symm
      rw [set_split li, tk, dr, List.reverse_append, List.reverse_cons, List.reverse_replicate, List.reverse_reverse, List.append_assoc]
      rfl
/-- how far a setting is to all discs on one peg -/
def tow (xs : List Int) (t : Int) : Int := Tow.tw xs.reverse t
def towM (xs : List Int) (t : Int) : Option (Nat × Int) := Tow.nm xs.reverse t
def farr (xs ys : List Int) : Int := Tow.fr xs.reverse ys.reverse
def farM (xs ys : List Int) : Option (Nat × Int) := Tow.nf xs.reverse ys.reverse
def many (xs ys : List Int) : Nat := Tow.mw xs.reverse ys.reverse
theorem tow_bd (xs : List Int) (t : Int) : 0 ≤ tow xs t ∧ tow xs t < 2 ^ xs.length := by
  have h := Tow.tw_bd xs.reverse t
  rw [List.length_reverse] at h
  exact h
theorem tow_zero {xs : List Int} {t : Int} : tow xs t = 0 ↔ xs = List.replicate xs.length t := by
  unfold tow
  rw [Tow.tw_zero, List.eq_replicate_iff]
  constructor
  · exact fun h => ⟨rfl, fun x hx => h x (List.mem_reverse.mpr hx)⟩
  · exact fun h x hx => h.2 x (List.mem_reverse.mp hx)
theorem tow_sum {xs : List Int} (h : pegs3 xs) : tow xs 0 + tow xs 1 + tow xs 2 = 2 * (2 ^ xs.length - 1) := by
  have z := Tow.tw_sum (pgs_rev h)
  rw [List.length_reverse] at z
  exact z
/-- each move changes it by one at the most; the one that lowers it -/
theorem tow_step {xs : List Int} {q : Int × Int} {t : Int} (h3 : pegs3 xs) (ht : Tow.Pg t) (h : q ∈ mvTo xs xs.length) : ∃ i : Nat, i < xs.length ∧ q = ((i : Int), q.2) ∧ (tow (xs.set i q.2) t - tow xs t = -1 ∨ tow (xs.set i q.2) t - tow xs t = 0 ∨ tow (xs.set i q.2) t - tow xs t = 1) ∧ (tow (xs.set i q.2) t - tow xs t = -1 ↔ towM xs t = some (i, q.2)) := by
  obtain ⟨i, h1, h2, h4, mv⟩ := mv_of h3 h
  exact ⟨i, h1, h2, mv.step (pgs_rev h3) ht⟩
theorem towM_may {xs : List Int} {t : Int} {m : Nat × Int} (h3 : pegs3 xs) (ht : Tow.Pg t) (h : towM xs t = some m) : ((m.1 : Int), m.2) ∈ mvTo xs xs.length := by
  obtain ⟨b, mv⟩ := Tow.nm_mv (pgs_rev h3) ht h
  exact (of_mv mv).1
theorem towM_none {xs : List Int} {t : Int} : towM xs t = none ↔ tow xs t = 0 := by
  unfold towM tow
  rw [Tow.nm_none, Tow.tw_zero]
theorem farr_zero {xs ys : List Int} (hl : xs.length = ys.length) : farr xs ys = 0 ↔ xs = ys := by
  unfold farr
  rw [Tow.fr_zero (by rw [List.length_reverse, List.length_reverse, hl])]
  exact ⟨fun z => List.reverse_inj.mp z, fun z => by rw [z]⟩
theorem farr_sym {xs ys : List Int} (hl : xs.length = ys.length) : farr xs ys = farr ys xs := Tow.fr_sym (by rw [List.length_reverse, List.length_reverse, hl])
theorem farr_step {xs ys : List Int} {q : Int × Int} (h3 : pegs3 xs) (k3 : pegs3 ys) (hl : xs.length = ys.length) (h : q ∈ mvTo xs xs.length) : ∃ i : Nat, i < xs.length ∧ q = ((i : Int), q.2) ∧ (farr (xs.set i q.2) ys - farr xs ys = -1 ∨ farr (xs.set i q.2) ys - farr xs ys = 0 ∨ farr (xs.set i q.2) ys - farr xs ys = 1) ∧ (farr (xs.set i q.2) ys - farr xs ys = -1 ↔ (i, q.2) ∈ Tow.lows xs.reverse ys.reverse) := by
  obtain ⟨i, h1, h2, h4, mv⟩ := mv_of h3 h
  exact ⟨i, h1, h2, Tow.fr_low mv (pgs_rev h3) (pgs_rev k3) (by rw [List.length_reverse, List.length_reverse, hl])⟩
end Peg
/-! # How far, how many ways, the first move: the program's defs -/
namespace Peg
open PySem PySem.Spec PyProof.Rows L2 DX
abbrev sThird : Stmt := top 13
abbrev sCheck2 : Stmt := top 11
abbrev sDue : Stmt := top 15
abbrev sDist : Stmt := top 16
abbrev sGu : Stmt := top 17
abbrev sToward : Stmt := top 18
abbrev sChoices : Stmt := top 19
abbrev sFar : Stmt := top 20
abbrev sMany : Stmt := top 21
structure TxtQ (K : PySem.W.Frag) (mg : Str → Option Value) : Prop where
  reversed : mg "reversed" = none
  sum : mg "sum" = none
  min : mg "min" = none
  abs : mg "abs" = none
def Kds (d : D) : Prop := (∃ n, Kd d n) ∧ KdA d
theorem kds_set {xs : List Int} : Kds (tI xs) := ⟨⟨_, .tup _⟩, kdA_set⟩
def lenD : D → Nat
  | .tup xs => xs.length
  | _ => 0
/-- the refusal that is due of two settings -/
def due2 (CS CU : Addr) (a b : D) : Option Addr := if isSet a = true then (if isSet b = true then (if lenD a = lenD b then none else some CU) else some CS) else some CS
def outOf : Option Addr → Out
  | none => .ret (.v .non)
  | some C => .exc C
def RCheck2 (CS CU : Addr) : List D → Out → Prop := fun ds o => ∃ a b, ds = [a, b] ∧ Kds a ∧ Kds b ∧ o = outOf (due2 CS CU a b)
structure Two (xs ys : List Int) : Prop where
  x3 : pegs3 xs
  y3 : pegs3 ys
  l : xs.length = ys.length
  l60 : xs.length ≤ 60
theorem Two.setX {xs ys : List Int} (t : Two xs ys) : isSet (tI xs) = true := isSet_of t.x3 t.l60
theorem Two.setY {xs ys : List Int} (t : Two xs ys) : isSet (tI ys) = true := isSet_of t.y3 (t.l ▸ t.l60)
theorem Two.due {xs ys : List Int} {CS CU : Addr} (t : Two xs ys) : due2 CS CU (tI xs) (tI ys) = none := by
  unfold due2
  rw [if_pos t.setX, if_pos t.setY, if_pos]
  show (xs.map D.int).length = (ys.map D.int).length
  rw [List.length_map, List.length_map, t.l]
/-- what is told of two settings, or refused -/
def R2 (CS CU : Addr) (res : List Int → List Int → Sl) : List D → Out → Prop := fun ds o => ∃ a b, ds = [a, b] ∧ Kds a ∧ Kds b ∧ ((∃ C, due2 CS CU a b = some C ∧ o = .exc C) ∨ ∃ xs ys, a = tI xs ∧ b = tI ys ∧ Two xs ys ∧ o = .ret (res xs ys))
theorem R2.ok {CS CU : Addr} {res : List Int → List Int → Sl} {xs ys : List Int} (t : Two xs ys) : R2 CS CU res [tI xs, tI ys] (.ret (res xs ys)) := ⟨_, _, rfl, kds_set, kds_set, .inr ⟨xs, ys, rfl, rfl, t, rfl⟩⟩
theorem R2.check {CS CU : Addr} {xs ys : List Int} (t : Two xs ys) : RCheck2 CS CU [tI xs, tI ys] (.ret (.v .non)) := ⟨_, _, rfl, kds_set, kds_set, by rw [t.due]; rfl⟩
def RThird : List D → Out → Prop := fun ds o => ∃ a b : Int, ds = [.int a, .int b] ∧ o = .ret (.v (.int (3 - a - b)))
def RDue : List D → Out → Prop := fun ds o => ∃ (xs : List Int) (t : Int), ds = [tI xs, .int t] ∧ xs.length ≤ 60 ∧ o = .ret (.own (prs (Tow.dueL xs.reverse t)))
def RDist : List D → Out → Prop := fun ds o => ∃ (xs : List Int) (t : Int), ds = [tI xs, .int t] ∧ xs.length ≤ 60 ∧ o = .ret (.v (.int (tow xs t)))
def guD : Option Nat → D
  | none => .non
  | some i => .int (i : Int)
def RGu : List D → Out → Prop := fun ds o => ∃ xs ys : List Int, ds = [tI xs, tI ys] ∧ xs.length = ys.length ∧ xs.length ≤ 60 ∧ o = .ret (.v (guD (Tow.gu xs.reverse ys.reverse)))
def RToward (CS CP : Addr) : List D → Out → Prop := fun ds o => ∃ d p m, ds = [d, p] ∧ Kds d ∧ Kd p m ∧ ((isSet d = false ∧ o = .exc CS) ∨ (isSet d = true ∧ isW p 2 = false ∧ o = .exc CP) ∨ ∃ (xs : List Int) (t : Int), d = tI xs ∧ p = .int t ∧ pegs3 xs ∧ xs.length ≤ 60 ∧ isW p 2 = true ∧ o = .ret (.v (.int (tow xs t))))
def chD : Option (Nat × Int × Int) → D
  | none => .non
  | some (i, a, b) => .tup [.int (i : Int), .int a, .int b]
def chRes (xs ys : List Int) : Sl := .v (chD (Tow.ch xs.reverse ys.reverse))
def farRes (xs ys : List Int) : Sl := .v (.int (farr xs ys))
def manyRes (xs ys : List Int) : Sl := .v (.int ((many xs ys : Nat) : Int))
def mvD : Option (Nat × Int) → D
  | none => .non
  | some m => .tup [.int (m.1 : Int), .int m.2]
def nextRes (xs ys : List Int) : Sl := .v (mvD (farM xs ys))
theorem split_rev {xs A as : List Int} {g : Int} (h : xs.reverse = A ++ g :: as) : xs.take as.length = as.reverse ∧ xs[as.length]? = some g ∧ as.length < xs.length ∧ xs.take (as.length + 1) = as.reverse ++ [g] := by
  have e : xs = as.reverse ++ (g :: A.reverse) := by
    have z := congrArg List.reverse h
    rw [List.reverse_reverse, List.reverse_append, List.reverse_cons] at z
    rw [z, List.append_assoc]
    rfl
  have hl : as.length = as.reverse.length := List.length_reverse.symm
  refine ⟨?_, ?_, ?_, ?_⟩
  · rw [e, List.take_append_of_le_length (by rw [hl]; exact Nat.le_refl _), hl, List.take_length]
  · rw [e, List.getElem?_append_right (by rw [hl]; exact Nat.le_refl _), hl, Nat.sub_self]
    rfl
  · rw [e, List.length_append, ← hl, List.length_cons]
    omega
  · rw [e, List.take_append, hl, List.take_of_length_le (Nat.le_succ _)]
    have e2 : as.reverse.length + 1 - as.reverse.length = 1 := by omega
    rw [e2]
    rfl
/-- the items of a display of shifts -/
def shM : D → D
  | .tup [.int i, _] => .int (1 * 2 ^ i.toNat)
  | _ => .non
theorem sh_list (qs : List (Int × Int)) : ((prs qs).filter fun _ => true).map shM = (qs.map fun q => (2 : Int) ^ q.1.toNat).map D.int := by
  induction qs with
  | nil => rfl
  | cons q qs ih =>
    show shM (.tup [.int q.1, .int q.2]) :: (((prs qs).filter fun _ => true).map shM) = _
    rw [ih]
    show D.int (1 * 2 ^ q.1.toNat) :: _ = D.int (2 ^ q.1.toNat) :: _
    rw [Int.one_mul]
section
variable {P : Program} {w : World} {K : PySem.W.Frag} {mg : Str → Option Value} {base : Heap} {T : List Addr} {CS CU CP : Addr}
theorem scThird : FnScope ["one", "other"] ["one", "other"] (defScope sThird) := ⟨rfl, rfl, rfl, by decide +kernel, rfl, by decide +kernel, by decide +kernel⟩
theorem kn_third {f : Addr} {fd : FuncData} (F : Fun K "third_peg" "third_peg" sThird f fd) (hm : mg "third_peg" = some (.ref f)) (hb : Binds K fd ["one", "other"] []) : Kn P w K mg base T 1 "third_peg" RThird := by
  refine kn_mk F scThird hm hb (fun ds o h => ?_) (fun cdv A outer s B H E ds o hr h xw => ?_)
  · obtain ⟨a, b, rfl, _⟩ := h
    rfl
  · obtain ⟨a, b, rfl, rfl⟩ := h
    show PXs _ T B H [.v (.int a), .v (.int b)] _ _
    exact px_one (px_ret (pd_bin (pd_bin pd_int (pd_var (i := 0) rfl) bd_sub) (pd_var (i := 1) rfl) bd_sub) rfl)
theorem scCheck2 : FnScope ["one", "other"] ["one", "other"] (defScope sCheck2) := ⟨rfl, rfl, rfl, by decide +kernel, rfl, by decide +kernel, by decide +kernel⟩
theorem kn_check2 {f : Addr} {fd : FuncData} (F : Fun K "check_two" "check_two" sCheck2 f fd) (Z : Txt K mg) (hm : mg "check_two" = some (.ref f)) (hb : Binds K fd ["one", "other"] []) (cS : Kn P w K mg base T 4 "check_setting" (RCheck CS)) (e : ExK K mg "Unlike" CU) : Kn P w K mg base T 5 "check_two" (RCheck2 CS CU) := by
  refine kn_mk F scCheck2 hm hb (fun ds o h => ?_) (fun cdv A outer s B H E ds o hr h xw => ?_)
  · obtain ⟨a, b, rfl, _⟩ := h
    rfl
  · obtain ⟨a, b, rfl, ⟨⟨n, ka⟩, kaa⟩, ⟨⟨m, kb⟩, kba⟩, rfl⟩ := h
    show PXs _ T B H [.v a, .v b] _ _
    by_cases h1 : isSet a = true
    · refine px_cons1 (px_expr (pd_call cS hr (pas_cons (pd_var (i := 0) rfl) pas_nil) ⟨a, n, rfl, ka, kaa, by rw [h1]; rfl⟩) rfl) ?_
      by_cases h2 : isSet b = true
      · refine px_cons1 (px_expr (pd_call cS hr (pas_cons (pd_var (i := 1) rfl) pas_nil) ⟨b, m, rfl, kb, kba, by rw [h2]; rfl⟩) rfl) ?_
        have sa : ∃ xs, a = .tup xs := by
          cases ka <;> first | exact ⟨_, rfl⟩ | exact absurd h1 Bool.false_ne_true
        have sb : ∃ xs, b = .tup xs := by
          cases kb <;> first | exact ⟨_, rfl⟩ | exact absurd h2 Bool.false_ne_true
        obtain ⟨xs, rfl⟩ := sa
        obtain ⟨ys, rfl⟩ := sb
        have ed : due2 CS CU (.tup xs) (.tup ys) = if xs.length = ys.length then none else some CU := by
          unfold due2
          rw [if_pos h1, if_pos h2]
          rfl
        rw [ed] at xw ⊢
        refine px_one (px_if (k := !decide ((xs.length : Int) = (ys.length : Int))) (pb_cmp (pd_tmp (pd_blt (cl_len (ds := xs) rfl) Z.len (pas_cons (pd_var (i := 0) rfl) pas_nil))) (pd_tmp (pd_blt (cl_len (ds := ys) rfl) Z.len (pas_cons (pd_var (i := 1) rfl) pas_nil))) cd_neI) (fun h => ?_) fun h => px_nil ?_)
        · have h' : ¬ xs.length = ys.length := by
            have z : ¬ (xs.length : Int) = (ys.length : Int) := by simpa using h
            omega
          rw [if_neg h'] at xw
          exact px_one (px_raise e rfl (takes_of rfl rfl rfl rfl) xw)
        · have h' : xs.length = ys.length := by
            have z : (xs.length : Int) = (ys.length : Int) := by simpa using h
            omega
          rw [if_pos h']
          rfl
      · have h2' : isSet b = false := by simpa using h2
        have ed : due2 CS CU a b = some CS := by
          unfold due2
          rw [if_pos h1, if_neg h2]
        rw [ed] at xw
        refine px_end (px_exprR (pr_call cS hr (takes_of rfl rfl rfl rfl) (pas_cons (pd_var (i := 1) rfl) pas_nil) ⟨b, m, rfl, kb, kba, rfl⟩ ?_ ?_))
        · rw [h2']
          exact xw
        · rw [h2']
          intro r z
          cases z
    · have h1' : isSet a = false := by simpa using h1
      have ed : due2 CS CU a b = some CS := by
        unfold due2
        rw [if_neg h1]
      rw [ed] at xw
      refine px_end (px_exprR (pr_call cS hr (takes_of rfl rfl rfl rfl) (pas_cons (pd_var (i := 0) rfl) pas_nil) ⟨a, n, rfl, ka, kaa, rfl⟩ ?_ ?_))
      · rw [h1']
        exact xw
      · rw [h1']
        intro r z
        cases z
theorem rev_at {xs : List Int} {k : Nat} (hk : k < xs.length) : ∃ h : k < xs.reverse.length, xs.reverse[k] = xs[xs.length - 1 - k] := ⟨by rw [List.length_reverse]; exact hk, List.getElem_reverse _⟩
abbrev nDue : List Str := ["setting", "peg", "found", "goal", "disc", "own"]
theorem scDue : FnScope nDue ["setting", "peg"] (defScope sDue) := ⟨rfl, rfl, rfl, by decide +kernel, rfl, by decide +kernel, by decide +kernel⟩
theorem kn_due {f : Addr} {fd : FuncData} (F : Fun K "due" "due" sDue f fd) (Z : Txt K mg) (Z3 : Txt3 K mg) (ZQ : TxtQ K mg) (hm : mg "due" = some (.ref f)) (hb : Binds K fd ["setting", "peg"] []) (cT : Kn P w K mg base T 1 "third_peg" RThird) : Kn P w K mg base T 2 "due" RDue := by
  refine kn_mk F scDue hm hb (fun ds o h => ?_) (fun cdv A outer s B H E ds o hr h xw => ?_)
  · obtain ⟨xs, t, rfl, _⟩ := h
    rfl
  · obtain ⟨xs, t, rfl, hl, rfl⟩ := h
    show PXs _ T B H [.v (tI xs), .v (.int t), .no, .no, .no, .no] _ _
    refine px_cons1 (px_setO (i := 2) (pd_lst pas_nil) rfl scDue.nd) ?_
    refine px_cons1 (px_set (i := 3) (pd_var (i := 1) rfl) rfl scDue.nd) ?_
    refine px_cons (N := fun z => ∃ s3 s4 s5, z = [Sl.v (tI xs), .v (.int t), .own (prs (Tow.dueL xs.reverse t)), s3, s4, s5])
      (px_forI (f := fName 4) (vs := [4]) (ds := down xs.length) (fun k z => ∃ (fs : List (Int × Int)) (goal : Int) (s4 s5 : Sl), (fs.length ≤ k ∧ fs ++ Tow.dueL (xs.reverse.drop k) goal = Tow.dueL xs.reverse t) ∧ z = [Sl.v (tI xs), .v (.int t), .own (prs fs), .v (.int goal), s4, s5])
        (pib_revRange (n := xs.length) (pd_eq (pd_blt (cl_len seq_tup) Z.len (pas_cons (pd_var (i := 0) rfl) pas_nil)) (by rw [List.length_map])) (by omega) ZQ.reversed Z3.range) (pgd_name (by decide) scDue.nd rfl (Or.inl rfl) (Or.inr rfl)) ⟨[], t, _, _, ⟨Nat.le_refl _, rfl⟩, rfl⟩ (fun n d ρ' _ _ => ⟨_, rfl⟩) ?_ ?_ PassesOwn.leaving) ?_
    · rintro k d ρ1 ρ2 hd ⟨fs, goal, s4, s5, ⟨hf, he⟩, rfl⟩ rfl
      have hk : k < xs.length := by
        have z := (List.getElem?_eq_some_iff.mp hd).1
        rwa [down_len] at z
      rw [down_at hk] at hd
      cases hd
      obtain ⟨hk2, er⟩ := rev_at hk
      have ei : (xs.length : Int) - 1 - (k : Int) = ((xs.length - 1 - k : Nat) : Int) := by omega
      have hi : xs.length - 1 - k < xs.length := by omega
      rw [ei]
      rw [Tow.due_drop hk2, er, List.length_reverse] at he
      show PXs _ T B H [.v (tI xs), .v (.int t), .own (prs fs), .v (.int goal), .v (.int ((xs.length - 1 - k : Nat) : Int)), s5] _ _
      refine px_cons1 (px_set (i := 5) (d := .int (xs[xs.length - 1 - k])) (pd_ix (pd_var (i := 0) rfl) (pd_var (i := 4) rfl) rfl (at_map D.int hi)) rfl scDue.nd) ?_
      refine px_one (px_if (k := !decide (xs[xs.length - 1 - k] = goal)) (pb_cmp (pd_tmp (pd_var (i := 5) rfl)) (pd_tmp (pd_var (i := 3) rfl)) cd_neI) (fun h => ?_) fun h => px_nil ?_)
      · have hne : ¬ xs[xs.length - 1 - k] = goal := by simpa using h
        rw [if_neg hne] at he
        refine px_cons1 (px_append (i := 2) rfl (pe_bm PySem.F.plainAttrs_list PySem.F.slot_list_append PySem.F.type_list_append mt_append (pv 2) (pa_cons (pd_tup (pas_cons (pd_var (i := 4) rfl) (pas_cons (pd_var (i := 3) rfl) pas_nil))) pa_nil)) (by rw [prs_len]; omega) rfl) ?_
        refine px_one (px_set (i := 3) (pd_call cT hr (pas_cons (pd_var (i := 5) rfl) (pas_cons (pd_var (i := 3) rfl) pas_nil)) ⟨_, _, rfl, rfl⟩) ⟨fs ++ [(((xs.length - 1 - k : Nat) : Int), goal)], 3 - xs[xs.length - 1 - k] - goal, .v (.int ((xs.length - 1 - k : Nat) : Int)), .v (.int xs[xs.length - 1 - k]), ⟨?_, ?_⟩, ?_⟩ scDue.nd)
        · rw [List.length_append, List.length_singleton]
          omega
        · rw [List.append_assoc]
          exact he
        · rw [← prs_app]
          rfl
      · have heq : xs[xs.length - 1 - k] = goal := by simpa using h
        rw [if_pos heq] at he
        exact ⟨fs, goal, _, _, ⟨by omega, he⟩, rfl⟩
    · rintro ρ1 ⟨fs, goal, s4, s5, ⟨_, he⟩, rfl⟩
      rw [down_len] at he
      have ed : xs.reverse.drop xs.length = [] := by rw [← List.length_reverse, List.drop_length]
      rw [ed] at he
      have he' : fs = Tow.dueL xs.reverse t := by
        rw [← he]
        exact (List.append_nil _).symm
      exact ⟨_, _, _, by rw [he']⟩
    · rintro ρ1 ⟨s3, s4, s5, rfl⟩
      exact px_one (px_retO (i := 2) rfl rfl)
abbrev nDist : List Str := ["setting", "peg", "disc", "_"]
theorem scDist : FnScope nDist ["setting", "peg"] (defScope sDist) := ⟨rfl, rfl, rfl, by decide +kernel, rfl, by decide +kernel, by decide +kernel⟩
theorem kn_dist {f : Addr} {fd : FuncData} (F : Fun K "distance_toward" "distance_toward" sDist f fd) (ZQ : TxtQ K mg) (hm : mg "distance_toward" = some (.ref f)) (hb : Binds K fd ["setting", "peg"] []) (cD : Kn P w K mg base T 2 "due" RDue) : Kn P w K mg base T 3 "distance_toward" RDist := by
  refine kn_mk F scDist hm hb (fun ds o h => ?_) (fun cdv A outer s B H E ds o hr h xw => ?_)
  · obtain ⟨xs, t, rfl, _⟩ := h
    rfl
  · obtain ⟨xs, t, rfl, hl, rfl⟩ := h
    show PXs _ T B H [.v (tI xs), .v (.int t), .no, .no] _ _
    have dl := Tow.due_len xs.reverse t
    rw [List.length_reverse] at dl
    refine px_one (px_ret (pd_eq (pd_blt (cl_sum (ns := (Tow.dueL xs.reverse t).map fun q => (2 : Int) ^ q.1.toNat) rfl) ZQ.sum (pas_cons (pd_frz (pd_eq (pd_lc (own := [("disc", 2), ("_", 3)]) (f := fPair 2 3) (fun _ => true) shM (pit_list (pd_frz (pd_call cD hr (pas_cons (pd_var (i := 0) rfl) (pas_cons (pd_var (i := 1) rfl) pas_nil)) ⟨xs, t, rfl, hl, rfl⟩)) (.inl rfl)) scDist.nd (blkOk_by (N := nDist) (sc := defScope sDist) (by decide +kernel)) (fun _ _ _ _ _ => pgd_pair (by decide) (by decide) scDist.nd rfl rfl rfl (Or.inl rfl) (Or.inl rfl) (Or.inr rfl) (Or.inr rfl)) ?_ (fun d hd ρ' hf _ _ _ _ _ => ptd_nil) ?_ ?_) (by rw [sh_list]))) pas_nil)) ?_) rfl)
    · intro d hd
      obtain ⟨q, _, rfl⟩ := List.mem_map.mp hd
      exact ⟨_, _, _, rfl, rfl⟩
    · rintro d hd _ ρ' ⟨a, b, rfl, rfl⟩ s H C cl fp
      obtain ⟨q, hq, e⟩ := List.mem_map.mp hd
      cases e
      obtain ⟨i, hi, eq⟩ := Tow.due_mem hq
      rw [List.length_reverse] at hi
      exact pd_bin pd_int (pd_var (i := 2) rfl) (bd_shl (shl_one (by omega) (by omega)))
    · rw [prs_len]
      omega
    · rw [Tow.due_sum]
      rfl
abbrev nGu : List Str := ["one", "other", "disc"]
theorem scGu : FnScope nGu ["one", "other"] (defScope sGu) := ⟨rfl, rfl, rfl, by decide +kernel, rfl, by decide +kernel, by decide +kernel⟩
theorem kn_gu {f : Addr} {fd : FuncData} (F : Fun K "greatest_unlike" "greatest_unlike" sGu f fd) (Z : Txt K mg) (Z3 : Txt3 K mg) (ZQ : TxtQ K mg) (hm : mg "greatest_unlike" = some (.ref f)) (hb : Binds K fd ["one", "other"] []) : Kn P w K mg base T 1 "greatest_unlike" RGu := by
  refine kn_mk F scGu hm hb (fun ds o h => ?_) (fun cdv A outer s B H E ds o hr h xw => ?_)
  · obtain ⟨xs, ys, rfl, _⟩ := h
    rfl
  · obtain ⟨xs, ys, rfl, hxy, hl, rfl⟩ := h
    show PXs _ T B H [.v (tI xs), .v (tI ys), .no] _ _
    refine px_cons (N := fun z => Tow.gu xs.reverse ys.reverse = none ∧ ∃ s2, z = [Sl.v (tI xs), .v (tI ys), s2])
      (px_forI (f := fName 2) (vs := [2]) (ds := down xs.length) (fun k z => Tow.gu (xs.reverse.drop k) (ys.reverse.drop k) = Tow.gu xs.reverse ys.reverse ∧ ∃ s2, z = [Sl.v (tI xs), .v (tI ys), s2])
        (pib_revRange (n := xs.length) (pd_eq (pd_blt (cl_len seq_tup) Z.len (pas_cons (pd_var (i := 0) rfl) pas_nil)) (by rw [List.length_map])) (by omega) ZQ.reversed Z3.range) (pgd_name (by decide) scGu.nd rfl (Or.inl rfl) (Or.inr rfl)) ⟨rfl, _, rfl⟩ (fun n d ρ' _ _ => ⟨_, rfl⟩) ?_ ?_ PassesOwn.leaving) ?_
    · rintro k d ρ1 ρ2 hd ⟨he, s2, rfl⟩ rfl
      have hk : k < xs.length := by
        have z := (List.getElem?_eq_some_iff.mp hd).1
        rwa [down_len] at z
      rw [down_at hk] at hd
      cases hd
      obtain ⟨hk2, er⟩ := rev_at hk
      obtain ⟨hk3, er2⟩ := rev_at (xs := ys) (k := k) (by omega)
      have ei : (xs.length : Int) - 1 - (k : Int) = ((xs.length - 1 - k : Nat) : Int) := by omega
      have hi : xs.length - 1 - k < xs.length := by omega
      have hj : xs.length - 1 - k < ys.length := by omega
      have ey : ys[ys.length - 1 - k] = ys[xs.length - 1 - k] := by
        congr 1
        omega
      rw [ei]
      rw [Tow.gu_drop hk2 hk3, er, er2, ey, List.length_reverse] at he
      show PXs _ T B H [.v (tI xs), .v (tI ys), .v (.int ((xs.length - 1 - k : Nat) : Int))] _ _
      refine px_one (px_if (k := !decide (xs[xs.length - 1 - k] = ys[xs.length - 1 - k])) (pb_cmp (pd_tmp (pd_ix (pd_var (i := 0) rfl) (pd_var (i := 2) rfl) rfl (at_map D.int hi))) (pd_tmp (pd_ix (pd_var (i := 1) rfl) (pd_var (i := 2) rfl) rfl (at_map D.int hj))) cd_neI) (fun h => ?_) fun h => px_nil ?_)
      · have hne : ¬ xs[xs.length - 1 - k] = ys[xs.length - 1 - k] := by simpa using h
        rw [if_neg hne] at he
        refine px_one (px_ret (pd_var (i := 2) rfl) ?_)
        show Sl.v _ = Sl.v _
        rw [← he]
        rfl
      · have heq : xs[xs.length - 1 - k] = ys[xs.length - 1 - k] := by simpa using h
        rw [if_pos heq] at he
        exact ⟨he, _, rfl⟩
    · rintro ρ1 ⟨he, s2, rfl⟩
      rw [down_len] at he
      have ed : xs.reverse.drop xs.length = [] := by rw [← List.length_reverse, List.drop_length]
      rw [ed] at he
      refine ⟨?_, _, rfl⟩
      rw [← he]
      unfold Tow.gu
      rfl
    · rintro ρ1 ⟨he, s2, rfl⟩
      refine px_one (px_ret pd_non ?_)
      show Sl.v _ = Sl.v _
      rw [he]
      rfl
theorem set_inv {d : D} (h : isSet d = true) (k : Kds d) : ∃ xs : List Int, d = tI xs ∧ pegs3 xs ∧ xs.length ≤ 60 := by
  obtain ⟨⟨n, kd⟩, ka⟩ := k
  cases kd <;> first | exact absurd h Bool.false_ne_true | skip
  rename_i ds
  have h' : (decide (ds.length ≤ 60) && ds.all fun d => isW d 2) = true := h
  rw [Bool.and_eq_true, decide_eq_true_eq, List.all_eq_true] at h'
  obtain ⟨h1, h2⟩ := h'
  have e : ∃ xs : List Int, ds = xs.map D.int ∧ pegs3 xs := by
    clear h1 h
    induction ds with
    | nil => exact ⟨[], rfl, fun x hx => absurd hx (by simp)⟩
    | cons d ds ih =>
      obtain ⟨xs, e, h3⟩ := ih (fun d hd => ka d (List.mem_cons_of_mem _ hd)) (fun d hd => h2 d (List.mem_cons_of_mem _ hd))
      obtain ⟨n, kd⟩ := ka d List.mem_cons_self
      obtain ⟨i, rfl, hi⟩ := kd_go kd (h2 d List.mem_cons_self)
      refine ⟨(i : Int) :: xs, by rw [e]; rfl, fun x hx => ?_⟩
      rcases List.mem_cons.mp hx with z | z
      · rw [z]
        omega
      · exact h3 x z
  obtain ⟨xs, rfl, h3⟩ := e
  exact ⟨xs, rfl, h3, by rwa [List.length_map] at h1⟩
theorem scToward : FnScope ["setting", "peg"] ["setting", "peg"] (defScope sToward) := ⟨rfl, rfl, rfl, by decide +kernel, rfl, by decide +kernel, by decide +kernel⟩
theorem kn_toward {f : Addr} {fd : FuncData} (F : Fun K "toward" "toward" sToward f fd) (hm : mg "toward" = some (.ref f)) (hb : Binds K fd ["setting", "peg"] []) (cS : Kn P w K mg base T 4 "check_setting" (RCheck CS)) (cP : Kn P w K mg base T 3 "check_peg" (RCheckW CP 2)) (cD : Kn P w K mg base T 3 "distance_toward" RDist) : Kn P w K mg base T 5 "toward" (RToward CS CP) := by
  refine kn_mk F scToward hm hb (fun ds o h => ?_) (fun cdv A outer s B H E ds o hr h xw => ?_)
  · obtain ⟨d, p, m, rfl, _⟩ := h
    rfl
  · obtain ⟨d, p, m, rfl, ⟨⟨n, kd⟩, ka⟩, kp, h⟩ := h
    show PXs _ T B H [.v d, .v p] _ _
    rcases h with ⟨h1, rfl⟩ | ⟨h1, h2, rfl⟩ | ⟨xs, t, rfl, rfl, x3, xl, h2, rfl⟩
    · refine px_end (px_exprR (pr_call cS hr (takes_of rfl rfl rfl rfl) (pas_cons (pd_var (i := 0) rfl) pas_nil) ⟨d, n, rfl, kd, ka, rfl⟩ ?_ ?_))
      · rw [h1]
        exact xw
      · rw [h1]
        intro r z
        cases z
    · refine px_cons1 (px_expr (pd_call cS hr (pas_cons (pd_var (i := 0) rfl) pas_nil) ⟨d, n, rfl, kd, ka, by rw [h1]; rfl⟩) rfl) ?_
      refine px_end (px_exprR (pr_call cP hr (takes_of rfl rfl rfl rfl) (pas_cons (pd_var (i := 1) rfl) pas_nil) ⟨p, m, rfl, kp, rfl⟩ ?_ ?_))
      · rw [h2]
        exact xw
      · rw [h2]
        intro r z
        cases z
    · refine px_cons1 (px_expr (pd_call cS hr (pas_cons (pd_var (i := 0) rfl) pas_nil) ⟨_, n, rfl, kd, ka, by rw [isSet_of x3 xl]; rfl⟩) rfl) ?_
      refine px_cons1 (px_expr (pd_call cP hr (pas_cons (pd_var (i := 1) rfl) pas_nil) ⟨_, m, rfl, kp, by rw [h2]; rfl⟩) rfl) ?_
      exact px_one (px_ret (pd_call cD hr (pas_cons (pd_var (i := 0) rfl) (pas_cons (pd_var (i := 1) rfl) pas_nil)) ⟨xs, t, rfl, xl, rfl⟩) rfl)
theorem x_two {d : D} {n : Nat} (h : d = .int (n : Int)) : d.isN = false := by
  subst h
  rfl
abbrev nChoices : List Str := ["one", "other", "disc", "old", "new", "aside", "once", "twice"]
theorem scChoices : FnScope nChoices ["one", "other"] (defScope sChoices) := ⟨rfl, rfl, rfl, by decide +kernel, rfl, by decide +kernel, by decide +kernel⟩
theorem kn_choices {f : Addr} {fd : FuncData} (F : Fun K "choices" "choices" sChoices f fd) (hm : mg "choices" = some (.ref f)) (hb : Binds K fd ["one", "other"] []) (c2 : Kn P w K mg base T 5 "check_two" (RCheck2 CS CU)) (cG : Kn P w K mg base T 1 "greatest_unlike" RGu) (cT : Kn P w K mg base T 1 "third_peg" RThird) (cD : Kn P w K mg base T 3 "distance_toward" RDist) : Kn P w K mg base T 6 "choices" (R2 CS CU chRes) := by
  refine kn_mk F scChoices hm hb (fun ds o h => ?_) (fun cdv A outer s B H E ds o hr h xw => ?_)
  · obtain ⟨a, b, rfl, _⟩ := h
    rfl
  · obtain ⟨a, b, rfl, ka, kb, h⟩ := h
    show PXs _ T B H [.v a, .v b, .no, .no, .no, .no, .no, .no] _ _
    rcases h with ⟨C, hC, rfl⟩ | ⟨xs, ys, rfl, rfl, t, rfl⟩
    · exact px_end (px_exprR (pr_call c2 hr (takes_of rfl rfl rfl rfl) (pas_cons (pd_var (i := 0) rfl) (pas_cons (pd_var (i := 1) rfl) pas_nil)) ⟨a, b, rfl, ka, kb, by rw [hC]; rfl⟩ xw fun r z => by cases z))
    · refine px_cons1 (px_expr (pd_call c2 hr (pas_cons (pd_var (i := 0) rfl) (pas_cons (pd_var (i := 1) rfl) pas_nil)) (R2.check t)) rfl) ?_
      refine px_cons1 (px_set (i := 2) (pd_call cG hr (pas_cons (pd_var (i := 0) rfl) (pas_cons (pd_var (i := 1) rfl) pas_nil)) ⟨xs, ys, rfl, t.l, t.l60, rfl⟩) rfl scChoices.nd) ?_
      show PXs _ T B H [.v (tI xs), .v (tI ys), .v (guD (Tow.gu xs.reverse ys.reverse)), .no, .no, .no, .no, .no] _ _
      have hlr : xs.reverse.length = ys.reverse.length := by rw [List.length_reverse, List.length_reverse, t.l]
      have cg := Tow.ch_gu xs.reverse ys.reverse
      refine px_cons (N := fun z => ∃ i : Nat, Tow.gu xs.reverse ys.reverse = some i ∧ z = [.v (tI xs), .v (tI ys), .v (.int (i : Int)), .no, .no, .no, .no, .no]) (px_if (k := (guD (Tow.gu xs.reverse ys.reverse)).isN) (pb_cmp (pd_tmp (pd_var (i := 2) rfl)) (pd_tmp pd_non) cd_isN) (fun h => ?_) fun h => px_nil ?_) ?_
      · refine px_one (px_ret pd_non ?_)
        show Sl.v _ = Sl.v _
        cases hg : Tow.gu xs.reverse ys.reverse with
        | some i =>
          rw [hg] at h
          cases h
        | none =>
          rw [hg] at cg
          have z : Tow.ch xs.reverse ys.reverse = none := by
            cases hc : Tow.ch xs.reverse ys.reverse with
            | none => rfl
            | some q =>
              rw [hc] at cg
              cases cg
          rw [z]
          rfl
      · cases hg : Tow.gu xs.reverse ys.reverse with
        | none =>
          rw [hg] at h
          cases h
        | some i => exact ⟨i, rfl, rfl⟩
      · rintro ρ1 ⟨i, hg, rfl⟩
        obtain ⟨U, g, as, h, bs, e1, e2, ne, l1, l2⟩ := Tow.gu_split hlr hg
        obtain ⟨tx, ix, lx, _⟩ := split_rev e1
        obtain ⟨ty, iy, ly, _⟩ := split_rev e2
        subst l1
        rw [l2] at ty iy ly
        have ech : Tow.ch xs.reverse ys.reverse = some (as.length, Tow.once g h as bs, Tow.twice g h as bs) := by rw [e1, e2, Tow.ch_app, Tow.ch_at ne]
        have iX : atI (xs.map D.int) ((as.length : Nat) : Int) = some (.int g) := at_nat (by rw [List.getElem?_map, ix]; rfl)
        have iY : atI (ys.map D.int) ((as.length : Nat) : Int) = some (.int h) := at_nat (by rw [List.getElem?_map, iy]; rfl)
        have dX : ∀ q : Int, RDist [tI (xs.take as.length), .int q] (.ret (.v (.int (Tow.tw as q)))) := fun q => ⟨_, q, rfl, by rw [List.length_take]; have := t.l60; omega, by unfold tow; rw [tx, List.reverse_reverse]⟩
        have dY : ∀ q : Int, RDist [tI (ys.take as.length), .int q] (.ret (.v (.int (Tow.tw bs q)))) := fun q => ⟨_, q, rfl, by rw [List.length_take]; have := t.l60; have := t.l; omega, by unfold tow; rw [ty, List.reverse_reverse]⟩
        refine px_cons1 (px_set (i := 3) (pd_ix (pd_var (i := 0) rfl) (pd_var (i := 2) rfl) rfl iX) rfl scChoices.nd) ?_
        refine px_cons1 (px_set (i := 4) (pd_ix (pd_var (i := 1) rfl) (pd_var (i := 2) rfl) rfl iY) rfl scChoices.nd) ?_
        refine px_cons1 (px_set (i := 5) (pd_call cT hr (pas_cons (pd_var (i := 3) rfl) (pas_cons (pd_var (i := 4) rfl) pas_nil)) ⟨_, _, rfl, rfl⟩) rfl scChoices.nd) ?_
        have slX : ∀ {ρ : Rho} {pos px p2 : Pos} {X : Cx}, X.N = nChoices → True := fun _ => trivial
        refine px_cons1 (px_set (i := 6) (d := .int (Tow.once g h as bs)) (pd_bin (pd_bin (pd_call cD hr (pas_cons (pd_eq (slTI (pd_var (i := 0) rfl) pp_none (pp_some (pd_var (i := 2) rfl))) (by rw [cut_to])) (pas_cons (pd_var (i := 5) rfl) pas_nil)) (dX _)) pd_int bd_add) (pd_call cD hr (pas_cons (pd_eq (slTI (pd_var (i := 1) rfl) pp_none (pp_some (pd_var (i := 2) rfl))) (by rw [cut_to])) (pas_cons (pd_var (i := 5) rfl) pas_nil)) (dY _)) bd_add) rfl scChoices.nd) ?_
        refine px_cons1 (px_set (i := 7) (d := .int (Tow.twice g h as bs)) (pd_eq (pd_bin (pd_bin (pd_bin (pd_call cD hr (pas_cons (pd_eq (slTI (pd_var (i := 0) rfl) pp_none (pp_some (pd_var (i := 2) rfl))) (by rw [cut_to])) (pas_cons (pd_var (i := 4) rfl) pas_nil)) (dX _)) pd_int bd_add) (pd_bin pd_int (pd_var (i := 2) rfl) (bd_shl (shl_one (by omega) (by have := t.l60; omega)))) bd_add) (pd_call cD hr (pas_cons (pd_eq (slTI (pd_var (i := 1) rfl) pp_none (pp_some (pd_var (i := 2) rfl))) (by rw [cut_to])) (pas_cons (pd_var (i := 3) rfl) pas_nil)) (dY _)) bd_add) ?_) rfl scChoices.nd) ?_
        · show Sl.v (.int _) = Sl.v (.int _)
          unfold Tow.twice
          rw [Int.toNat_natCast, Int.one_mul]
          congr 2
          omega
        · refine px_one (px_ret (pd_tup (pas_cons (pd_var (i := 2) rfl) (pas_cons (pd_var (i := 6) rfl) (pas_cons (pd_var (i := 7) rfl) pas_nil)))) ?_)
          show Sl.v _ = Sl.v _
          rw [ech]
          rfl
theorem ch_isN (o : Option (Nat × Int × Int)) : (chD o).isN = o.isNone := by
  cases o <;> rfl
abbrev nFar : List Str := ["one", "other", "told", "_", "once", "twice"]
theorem scFar : FnScope nFar ["one", "other"] (defScope sFar) := ⟨rfl, rfl, rfl, by decide +kernel, rfl, by decide +kernel, by decide +kernel⟩
theorem kn_far {f : Addr} {fd : FuncData} (F : Fun K "far" "far" sFar f fd) (ZQ : TxtQ K mg) (hm : mg "far" = some (.ref f)) (hb : Binds K fd ["one", "other"] []) (cC : Kn P w K mg base T 6 "choices" (R2 CS CU chRes)) : Kn P w K mg base T 7 "far" (R2 CS CU farRes) := by
  refine kn_mk F scFar hm hb (fun ds o h => ?_) (fun cdv A outer s B H E ds o hr h xw => ?_)
  · obtain ⟨a, b, rfl, _⟩ := h
    rfl
  · obtain ⟨a, b, rfl, ka, kb, h⟩ := h
    show PXs _ T B H [.v a, .v b, .no, .no, .no, .no] _ _
    rcases h with ⟨C, hC, rfl⟩ | ⟨xs, ys, rfl, rfl, t, rfl⟩
    · exact px_end (px_setR (i := 2) (pr_call cC hr (takes_of rfl rfl rfl rfl) (pas_cons (pd_var (i := 0) rfl) (pas_cons (pd_var (i := 1) rfl) pas_nil)) ⟨a, b, rfl, ka, kb, .inl ⟨C, hC, rfl⟩⟩ xw fun r z => by cases z) scFar.nd)
    · refine px_cons1 (px_set (i := 2) (pd_call cC hr (pas_cons (pd_var (i := 0) rfl) (pas_cons (pd_var (i := 1) rfl) pas_nil)) (R2.ok t)) rfl scFar.nd) ?_
      show PXs _ T B H [.v (tI xs), .v (tI ys), .v (chD (Tow.ch xs.reverse ys.reverse)), .no, .no, .no] _ _
      have fc : farr xs ys = _ := Tow.fr_ch xs.reverse ys.reverse
      cases hc : Tow.ch xs.reverse ys.reverse with
      | none =>
        rw [hc] at fc
        refine px_end (px_if (k := true) (pb_cmp (pd_tmp (pd_var (i := 2) rfl)) (pd_tmp pd_non) cd_isN) (fun _ => px_one (px_ret pd_int ?_)) fun z => Bool.noConfusion z)
        show Sl.v _ = Sl.v _
        rw [fc]
      | some q =>
        obtain ⟨i, n1, n2⟩ := q
        rw [hc] at fc
        refine px_cons1 (px_if (k := false) (pb_cmp (pd_tmp (pd_var (i := 2) rfl)) (pd_tmp pd_non) cd_isN) (fun z => Bool.noConfusion z) fun _ => px_nil rfl) ?_
        refine px_cons1 (px_set3 (i := 3) (j := 4) (l := 5) (d1 := .int (i : Int)) (d2 := .int n1) (d3 := .int n2) (pd_var (i := 2) rfl) rfl scFar.nd) ?_
        refine px_one (px_ret (pd_blt (cl_min rfl) ZQ.min (pas_cons (pd_var (i := 4) rfl) (pas_cons (pd_var (i := 5) rfl) pas_nil))) ?_)
        show Sl.v _ = Sl.v _
        rw [fc]
abbrev nMany : List Str := ["one", "other", "told", "_", "once", "twice"]
theorem scMany : FnScope nMany ["one", "other"] (defScope sMany) := ⟨rfl, rfl, rfl, by decide +kernel, rfl, by decide +kernel, by decide +kernel⟩
theorem kn_many {f : Addr} {fd : FuncData} (F : Fun K "many_ways" "many_ways" sMany f fd) (hm : mg "many_ways" = some (.ref f)) (hb : Binds K fd ["one", "other"] []) (cC : Kn P w K mg base T 6 "choices" (R2 CS CU chRes)) : Kn P w K mg base T 7 "many_ways" (R2 CS CU manyRes) := by
  refine kn_mk F scMany hm hb (fun ds o h => ?_) (fun cdv A outer s B H E ds o hr h xw => ?_)
  · obtain ⟨a, b, rfl, _⟩ := h
    rfl
  · obtain ⟨a, b, rfl, ka, kb, h⟩ := h
    show PXs _ T B H [.v a, .v b, .no, .no, .no, .no] _ _
    rcases h with ⟨C, hC, rfl⟩ | ⟨xs, ys, rfl, rfl, t, rfl⟩
    · exact px_end (px_setR (i := 2) (pr_call cC hr (takes_of rfl rfl rfl rfl) (pas_cons (pd_var (i := 0) rfl) (pas_cons (pd_var (i := 1) rfl) pas_nil)) ⟨a, b, rfl, ka, kb, .inl ⟨C, hC, rfl⟩⟩ xw fun r z => by cases z) scMany.nd)
    · refine px_cons1 (px_set (i := 2) (pd_call cC hr (pas_cons (pd_var (i := 0) rfl) (pas_cons (pd_var (i := 1) rfl) pas_nil)) (R2.ok t)) rfl scMany.nd) ?_
      show PXs _ T B H [.v (tI xs), .v (tI ys), .v (chD (Tow.ch xs.reverse ys.reverse)), .no, .no, .no] _ _
      have fc : many xs ys = _ := Tow.mw_ch xs.reverse ys.reverse
      cases hc : Tow.ch xs.reverse ys.reverse with
      | none =>
        rw [hc] at fc
        refine px_end (px_if (k := true) (pb_cmp (pd_tmp (pd_var (i := 2) rfl)) (pd_tmp pd_non) cd_isN) (fun _ => px_one (px_ret pd_int ?_)) fun z => Bool.noConfusion z)
        show Sl.v _ = Sl.v _
        rw [fc]
        rfl
      | some q =>
        obtain ⟨i, n1, n2⟩ := q
        rw [hc] at fc
        refine px_cons1 (px_if (k := false) (pb_cmp (pd_tmp (pd_var (i := 2) rfl)) (pd_tmp pd_non) cd_isN) (fun z => Bool.noConfusion z) fun _ => px_nil rfl) ?_
        refine px_cons1 (px_set3 (i := 3) (j := 4) (l := 5) (d1 := .int (i : Int)) (d2 := .int n1) (d3 := .int n2) (pd_var (i := 2) rfl) rfl scMany.nd) ?_
        refine px_one (px_ret (pd_if (k := decide (n1 = n2)) (r1 := .v (.int 2)) (r2 := .v (.int 1)) (pb_cmp (pd_tmp (pd_var (i := 4) rfl)) (pd_tmp (pd_var (i := 5) rfl)) cd_eqI) (fun _ => pd_int) fun _ => pd_int) ?_)
        show _ = Sl.v _
        rw [fc]
        by_cases e : n1 = n2
        · simp [e]
        · simp [e]
abbrev nNext : List Str := ["one", "other", "told", "disc", "once", "twice", "goal"]
end
end Peg
/-! # The mathematics of how far to a peg -/
namespace Tow
/-- the first move to all on one peg, as that to a setting -/
theorem nf_perfect : ∀ {as : List Int} {q : Int}, Pgs as → Pg q → nf as (List.replicate as.length q) = nm as q
  | [], _, _, _ => rfl
  | g :: as, q, h, hq => by
    have pg : Pg g := h g List.mem_cons_self
    have pa : Pgs as := fun x hx => h x (List.mem_cons_of_mem _ hx)
    have un : nm (g :: as) q = (match nm as (nxt g q) with | some m => some m | none => if g = q then none else some (as.length, q)) := rfl
    have z1 : nf (g :: as) (List.replicate (as.length + 1) q) = if g = q then nf as (List.replicate as.length q) else if once g q as (List.replicate as.length q) ≤ twice g q as (List.replicate as.length q) then (match nm as (3 - g - q) with | some m => some m | none => some (as.length, q)) else (match nm as q with | some m => some m | none => some (as.length, 3 - g - q)) := rfl
    show nf (g :: as) (List.replicate (as.length + 1) q) = _
    rw [z1, un]
    unfold nxt
    by_cases e : g = q
    · rw [if_pos e, if_pos e, if_pos e, nf_perfect pa hq]
      cases nm as q <;> rfl
    · rw [if_neg e, if_neg e, if_neg e, if_pos]
      unfold once twice
      have p3 : Pg (3 - g - q) := by
        obtain ⟨g0, g3⟩ := pg
        obtain ⟨h0, h3⟩ := hq
        constructor <;> omega
      have b1 := tw_bd as (3 - g - q)
      have b2 := tw_bd as q
      have e2 : g ≠ 3 - g - q := by
        obtain ⟨g0, g3⟩ := pg
        obtain ⟨h0, h3⟩ := hq
        omega
      have e3 : q ≠ 3 - g - q := by
        obtain ⟨g0, g3⟩ := pg
        obtain ⟨h0, h3⟩ := hq
        omega
      rw [rep_other as.length hq p3 e3, rep_other as.length hq pg (fun z => e z.symm)]
      omega
end Tow
namespace Peg
open PySem PySem.Spec PyProof.Rows L2 DX
theorem farM_perfect {xs : List Int} {t : Int} (h : pegs3 xs) (ht : Tow.Pg t) : farM xs (List.replicate xs.length t) = towM xs t := by
  unfold farM towM
  have z := Tow.nf_perfect (as := xs.reverse) (pgs_rev h) ht
  rw [List.length_reverse] at z
  rw [List.reverse_replicate]
  exact z
/-- by how much a move changes how far it is -/
def stepOf (xs : List Int) (t : Int) (q : Int × Int) : Int := tow (xs.set q.1.toNat q.2) t - tow xs t
theorem filter_one {α : Type} {p : α → Bool} {a : α} : ∀ {l : List α}, l.Nodup → a ∈ l → (∀ b ∈ l, p b = true ↔ b = a) → l.filter p = [a]
  | [], _, h, _ => absurd h (by simp)
  | b :: l, nd, ha, hp => by
    obtain ⟨n1, n2⟩ := List.nodup_cons.mp nd
    by_cases e : b = a
    · subst e
      rw [List.filter_cons_of_pos ((hp b List.mem_cons_self).mpr rfl)]
      have z : l.filter p = [] := List.filter_eq_nil_iff.mpr fun c hc hpc => n1 ((hp c (List.mem_cons_of_mem _ hc)).mp hpc ▸ hc)
      rw [z]
    · have np : ¬ p b = true := fun z => e ((hp b List.mem_cons_self).mp z)
      rw [List.filter_cons_of_neg np]
      have ha' : a ∈ l := by
        rcases List.mem_cons.mp ha with z | z
        · exact absurd z.symm e
        · exact z
      exact filter_one n2 ha' fun c hc => hp c (List.mem_cons_of_mem _ hc)
/-- the moves that make it nearer -/
theorem nearer_is {xs : List Int} {t : Int} (h3 : pegs3 xs) (ht : Tow.Pg t) : ((mvTo xs xs.length).filter fun q => decide (stepOf xs t q = -1)) = match towM xs t with | none => [] | some m => [((m.1 : Int), m.2)] := by
  have key : ∀ q ∈ mvTo xs xs.length, decide (stepOf xs t q = -1) = true ↔ ∃ m, towM xs t = some m ∧ q = ((m.1 : Int), m.2) := fun q hq => by
    obtain ⟨i, hi, eq, _, h⟩ := tow_step h3 ht hq
    have e1 : q.1 = (i : Int) := congrArg Prod.fst eq
    have es : stepOf xs t q = tow (xs.set i q.2) t - tow xs t := by
      unfold stepOf
      rw [e1, Int.toNat_natCast]
    rw [decide_eq_true_eq, es, h]
    constructor
    · intro z
      exact ⟨_, z, eq⟩
    · rintro ⟨m, z, e2⟩
      rw [z]
      have e3 : ((m.1 : Nat) : Int) = (i : Int) := by
        rw [← e1, e2]
      have e4 : m.2 = q.2 := by rw [e2]
      have e5 : m.1 = i := by omega
      rw [← e5, ← e4]
  cases hm : towM xs t with
  | none =>
    refine List.filter_eq_nil_iff.mpr fun q hq z => ?_
    obtain ⟨m, h, _⟩ := (key q hq).mp z
    rw [hm] at h
    cases h
  | some m =>
    refine filter_one (mv_nodup xs xs.length) (towM_may h3 ht hm) fun q hq => (key q hq).trans ⟨?_, fun z => ⟨m, hm, z⟩⟩
    rintro ⟨m', h, e⟩
    rw [hm] at h
    cases h
    exact e
theorem step_bd {xs : List Int} {t : Int} {q : Int × Int} (h3 : pegs3 xs) (ht : Tow.Pg t) (hq : q ∈ mvTo xs xs.length) : -1 ≤ stepOf xs t q ∧ stepOf xs t q ≤ 1 := by
  obtain ⟨i, hi, eq, h, _⟩ := tow_step h3 ht hq
  have e1 : q.1 = (i : Int) := congrArg Prod.fst eq
  have es : stepOf xs t q = tow (xs.set i q.2) t - tow xs t := by
    unfold stepOf
    rw [e1, Int.toNat_natCast]
  rw [es]
  omega
theorem pegs3_set {xs : List Int} (h : pegs3 xs) {i : Nat} {p : Int} (hp : Tow.Pg p) : pegs3 (xs.set i p) := fun x hx => by
  rcases List.mem_or_eq_of_mem_set hx with z | z
  · exact h x z
  · rw [z]
    exact hp
end Peg
/-! # What the laws have in common -/
namespace Peg
open PySem PySem.Spec PyProof.Rows L2 DX
abbrev sLaw : Stmt := top 29
def RLaw : List D → Out → Prop := fun ds o => ∃ ns : List Int, ds = [scrD ns] ∧ ns.length ≤ 63 ∧ o = .ret (.v (.bl true))
def discsOf (number : Int) : Int := if number / 64 % 2 = 0 then number % 9 else number % 61
theorem discs_nat (number : Int) : ∃ k : Nat, discsOf number = k ∧ k ≤ 60 := by
  unfold discsOf
  split
  · have h1 : 0 ≤ number % 9 := Int.emod_nonneg _ (by decide)
    have h2 : number % 9 < 9 := Int.emod_lt_of_pos _ (by decide)
    exact ⟨(number % 9).toNat, (Int.toNat_of_nonneg h1).symm, by omega⟩
  · have h1 : 0 ≤ number % 61 := Int.emod_nonneg _ (by decide)
    have h2 : number % 61 < 61 := Int.emod_lt_of_pos _ (by decide)
    exact ⟨(number % 61).toNat, (Int.toNat_of_nonneg h1).symm, by omega⟩
theorem discs_at (number : Int) : atI [D.int (number % 9), D.int (number % 61)] (number / 64 % 2) = some (.int (discsOf number)) := by
  have h1 : 0 ≤ number / 64 % 2 := Int.emod_nonneg _ (by decide)
  have h2 : number / 64 % 2 < 2 := Int.emod_lt_of_pos _ (by decide)
  have c2 : number / 64 % 2 = 0 ∨ number / 64 % 2 = 1 := by omega
  unfold discsOf
  rcases c2 with e | e
  · rw [e, if_pos rfl]
    rfl
  · rw [e, if_neg (by decide)]
    rfl
theorem eq_same {n : Nat} {d : D} (h : sh n d = true) : (!eqD d d) = false := by
  rw [eqD_refl h]
  rfl
theorem sh_tI (xs : List Int) : sh 1 (tI xs) = true := by
  show (xs.map D.int).all (sh 0) = true
  rw [List.all_map, List.all_eq_true]
  intro x _
  rfl
theorem sh_lI (xs : List Int) : sh 1 (lI xs) = true := by
  show (xs.map D.int).all (sh 0) = true
  rw [List.all_map, List.all_eq_true]
  intro x _
  rfl
theorem ints_inj : ∀ {xs ys : List Int}, xs.map D.int = ys.map D.int → xs = ys
  | [], [], _ => rfl
  | [], _ :: _, h => by cases h
  | _ :: _, [], h => by cases h
  | x :: xs, y :: ys, h => by
    rw [List.map_cons, List.map_cons] at h
    injection h with h1 h2
    injection h1 with h1
    rw [h1, ints_inj h2]
theorem eqvs_ints : ∀ xs ys : List Int, PyData.eqvAll (D.pys (xs.map D.int)) (D.pys (ys.map D.int)) = decide (xs = ys)
  | [], [] => rfl
  | [], _ :: _ => rfl
  | _ :: _, [] => rfl
  | x :: xs, y :: ys => by
    show (x == y && PyData.eqvAll (D.pys (xs.map D.int)) (D.pys (ys.map D.int))) = _
    rw [eqvs_ints xs ys]
    by_cases h : x = y
    · subst h
      by_cases h2 : xs = ys
      · subst h2
        simp
      · simp [h2]
    · simp [h]
/-- two settings compared -/
theorem eq_tI (xs ys : List Int) : eqD (tI xs) (tI ys) = decide (xs = ys) := eqvs_ints xs ys
theorem eq_tIne (xs ys : List Int) : (!eqD (tI xs) (tI ys)) = !decide (xs = ys) := by rw [eq_tI]
theorem pick_mod {n : Int} {m : Int} (h : 0 < m) : ∃ a : Nat, n % m = a ∧ (a : Int) < m := ⟨(n % m).toNat, (Int.toNat_of_nonneg (Int.emod_nonneg _ (by omega))).symm, by rw [Int.toNat_of_nonneg (Int.emod_nonneg _ (by omega))]; exact Int.emod_lt_of_pos _ h⟩
theorem emod_pg (n : Int) : Tow.Pg (n % 3) := ⟨Int.emod_nonneg _ (by decide), Int.emod_lt_of_pos _ (by decide)⟩
theorem isW_pg {p : Int} (h : Tow.Pg p) : isW (.int p) 2 = true := by
  show (decide (0 ≤ p) && decide (p ≤ 2)) = true
  obtain ⟨h1, h2⟩ := h
  rw [decide_eq_true h1, decide_eq_true (by omega)]
  rfl
theorem mul_rep {k : Nat} {t : Int} {X : Cx} (h : (k : Int) ≤ 1000) : BinD X .Mult (tI [t]) (.int (k : Int)) (.v (tI (List.replicate k t))) := by
  have z := bd_repT (X := X) (xs := [D.int t]) (k := (k : Int)) (by intro z; cases z) (by omega) h (Nat.le_add_left 1 999)
  rw [Int.toNat_natCast, rep_int] at z
  exact z
theorem rep_len {xs : List Int} {t : Int} {n : Nat} (h : xs.length = n) : (List.replicate n t).length = xs.length := by rw [List.length_replicate, h]
theorem rep_pegs3 {n : Nat} {t : Int} (h : Tow.Pg t) : pegs3 (List.replicate n t) := fun x hx => by
  rw [(List.mem_replicate.mp hx).2]
  exact h
end Peg
/-! # The laws' pairs of settings -/
namespace Peg
open PySem PySem.Spec PyProof.Rows L2 DX
def tD (n : Int) (k : Nat) : Nat := (n % ((k : Int) - 1)).toNat + 1
def tB (n : Int) : Int := n / 64 % 3
def tE (n : Int) : Int := (tB n + 1 + n / 256 % 2) % 3
def tR (n : Int) (k : Nat) : List Int := (ls2 n k).drop (tD n k + 1)
def tied1 (n : Int) (k : Nat) : List Int := List.replicate (tD n k) (tE n) ++ [tB n] ++ tR n k
def tiedA (n : Int) (k : Nat) : List Int := List.replicate (tD n k - 1) (tE n) ++ [tB n, tE n] ++ tR n k
def tied2 (n : Int) (k : Nat) : List Int := if n / 1024 % 3 = 1 then [n / 4096 % 3] ++ (tiedA n k).drop 1 else tiedA n k
theorem tD_bd {n : Int} {k : Nat} (h : 2 ≤ k) : 1 ≤ tD n k ∧ tD n k ≤ k - 1 := by
  have h1 : 0 ≤ n % ((k : Int) - 1) := Int.emod_nonneg _ (by omega)
  have h2 : n % ((k : Int) - 1) < (k : Int) - 1 := Int.emod_lt_of_pos _ (by omega)
  unfold tD
  omega
theorem tR_len {n : Int} {k : Nat} : (tR n k).length = k - (tD n k + 1) := by
  unfold tR
  rw [List.length_drop, ls2_len]
theorem tied1_len {n : Int} {k : Nat} (h : 2 ≤ k) : (tied1 n k).length = k := by
  have b := tD_bd (n := n) h
  unfold tied1
  rw [List.length_append, List.length_append, List.length_replicate, List.length_singleton, tR_len]
  omega
theorem tiedA_len {n : Int} {k : Nat} (h : 2 ≤ k) : (tiedA n k).length = k := by
  have b := tD_bd (n := n) h
  unfold tiedA
  rw [List.length_append, List.length_append, List.length_replicate, tR_len]
  show _ + 2 + _ = _
  omega
theorem tied2_len {n : Int} {k : Nat} (h : 2 ≤ k) : (tied2 n k).length = k := by
  unfold tied2
  split
  · rw [List.length_append, List.length_drop, tiedA_len h]
    show 1 + _ = _
    omega
  · exact tiedA_len h
theorem one3 {x : Int} (h : 0 ≤ x ∧ x < 3) : pegs3 [x] := fun y hy => by
  rw [List.mem_singleton.mp hy]
  exact h
theorem drop3 {xs : List Int} (h : pegs3 xs) (n : Nat) : pegs3 (xs.drop n) := fun x hx => h x (List.mem_of_mem_drop hx)
theorem take3 {xs : List Int} (h : pegs3 xs) (n : Nat) : pegs3 (xs.take n) := fun x hx => h x (List.mem_of_mem_take hx)
theorem tied1_3 (n : Int) (k : Nat) : pegs3 (tied1 n k) := app3 (app3 (rep3 _ _) (one3 (mod3 _))) (drop3 (ls2_3 _ _) _)
theorem tiedA_3 (n : Int) (k : Nat) : pegs3 (tiedA n k) := app3 (app3 (rep3 _ _) (app3 (xs := [tB n]) (one3 (mod3 _)) (one3 (mod3 _)))) (drop3 (ls2_3 _ _) _)
theorem tied2_3 (n : Int) (k : Nat) : pegs3 (tied2 n k) := by
  unfold tied2
  split
  · exact app3 (one3 (mod3 _)) (drop3 (tiedA_3 _ _) _)
  · exact tiedA_3 _ _
def RTied : List D → Out → Prop := fun ds o => ∃ (n : Int) (k : Nat), ds = [.int n, .int (k : Int)] ∧ 2 ≤ k ∧ k ≤ 60 ∧ o = .ret (.v (.tup [tI (tied1 n k), tI (tied2 n k)]))
def pN (ns : List Int) (k : Nat) : Int := lawGreat ns (2 * k + 1)
def pA (ns : List Int) (k d : Nat) : Nat := (pN ns k / 7 % ((d : Int) + 1)).toNat
def pK (ns : List Int) (k : Nat) : Int := lawCell ns (7 * k + 2) % 6
def pO (ns : List Int) (k d : Nat) : List Int := ls2 (pN ns k) d
def pT0 (ns : List Int) (k d : Nat) : List Int := ls2 (lawGreat ns (2 * k + 2)) d
def pT1 (ns : List Int) (k d : Nat) : List Int := if pK ns k = 0 ∧ 0 < d then (pO ns k d).take (pA ns k d) ++ (pT0 ns k d).drop (pA ns k d) else pT0 ns k d
def pT2 (ns : List Int) (k d : Nat) : List Int := if pK ns k = 1 ∧ 0 < d then (pT1 ns k d).take (pA ns k d) ++ (pO ns k d).drop (pA ns k d) else pT1 ns k d
def pair1 (ns : List Int) (k d : Nat) : List Int := if 3 < pK ns k ∧ 1 < d then tied1 (pN ns k) d else pO ns k d
def pair2 (ns : List Int) (k d : Nat) : List Int := if 3 < pK ns k ∧ 1 < d then tied2 (pN ns k) d else pT2 ns k d
theorem pO_len (ns : List Int) (k d : Nat) : (pO ns k d).length = d := ls2_len _ _
theorem pT0_len (ns : List Int) (k d : Nat) : (pT0 ns k d).length = d := ls2_len _ _
theorem pA_le (ns : List Int) (k d : Nat) : pA ns k d ≤ d := by
  have h1 : 0 ≤ pN ns k / 7 % ((d : Int) + 1) := Int.emod_nonneg _ (by omega)
  have h2 : pN ns k / 7 % ((d : Int) + 1) < (d : Int) + 1 := Int.emod_lt_of_pos _ (by omega)
  unfold pA
  omega
theorem pA_int (ns : List Int) (k d : Nat) : pN ns k / 7 % ((d : Int) + 1) = (pA ns k d : Int) := (Int.toNat_of_nonneg (Int.emod_nonneg _ (by omega))).symm
theorem cut_len {xs ys : List Int} {a d : Nat} (h : xs.length = d) (h2 : ys.length = d) (ha : a ≤ d) : (xs.take a ++ ys.drop a).length = d := by
  rw [List.length_append, List.length_take, List.length_drop]
  omega
theorem pT1_len (ns : List Int) (k d : Nat) : (pT1 ns k d).length = d := by
  unfold pT1
  split
  · exact cut_len (pO_len _ _ _) (pT0_len _ _ _) (pA_le _ _ _)
  · exact pT0_len _ _ _
theorem pT2_len (ns : List Int) (k d : Nat) : (pT2 ns k d).length = d := by
  unfold pT2
  split
  · exact cut_len (pT1_len _ _ _) (pO_len _ _ _) (pA_le _ _ _)
  · exact pT1_len _ _ _
theorem pT1_3 (ns : List Int) (k d : Nat) : pegs3 (pT1 ns k d) := by
  unfold pT1
  split
  · exact app3 (take3 (ls2_3 _ _) _) (drop3 (ls2_3 _ _) _)
  · exact ls2_3 _ _
theorem pT2_3 (ns : List Int) (k d : Nat) : pegs3 (pT2 ns k d) := by
  unfold pT2
  split
  · exact app3 (take3 (pT1_3 _ _ _) _) (drop3 (ls2_3 _ _) _)
  · exact pT1_3 _ _ _
theorem pair1_len (ns : List Int) (k d : Nat) : (pair1 ns k d).length = d := by
  unfold pair1
  split
  · rename_i h
    exact tied1_len h.2
  · exact pO_len _ _ _
theorem pair_two (ns : List Int) (k : Nat) {d : Nat} (hd : d ≤ 60) : Two (pair1 ns k d) (pair2 ns k d) := by
  have l2 : (pair2 ns k d).length = d := by
    unfold pair2
    split
    · rename_i h
      exact tied2_len h.2
    · exact pT2_len _ _ _
  refine ⟨?_, ?_, by rw [l2, pair1_len], by rw [pair1_len]; exact hd⟩
  · unfold pair1
    split
    · exact tied1_3 _ _
    · exact ls2_3 _ _
  · unfold pair2
    split
    · exact tied2_3 _ _
    · exact pT2_3 _ _ _
def RPair : List D → Out → Prop := fun ds o => ∃ (ns : List Int) (k d : Nat), ds = [scrD ns, .int (k : Int), .int (d : Int)] ∧ ns.length ≤ 63 ∧ k ≤ 100 ∧ d ≤ 60 ∧ o = .ret (.v (.tup [tI (pair1 ns k d), tI (pair2 ns k d)]))
section
variable {P : Program} {w : World} {K : PySem.W.Frag} {mg : Str → Option Value} {base : Heap} {T : List Addr}
abbrev nTied : List Str := ["_law_number", "_law_discs", "_law_disc", "_law_begin", "_law_end", "_law_rest", "_law_one", "_law_other"]
abbrev nPair : List Str := ["_law_script", "_law_k", "_law_discs", "_law_number", "_law_one", "_law_other", "_law_kind", "_law_at"]
end
end Peg
/-! # The mathematics of how far two settings are -/
namespace Peg
open PySem PySem.Spec PyProof.Rows L2 DX
def farStep (xs ys : List Int) (q : Int × Int) : Int := farr (xs.set q.1.toNat q.2) ys - farr xs ys
theorem farStep_at {xs ys : List Int} {q : Int × Int} {i : Nat} (e : q.1 = (i : Int)) : farStep xs ys q = farr (xs.set i q.2) ys - farr xs ys := by
  unfold farStep
  rw [e, Int.toNat_natCast]
theorem farStep_bd {xs ys : List Int} {q : Int × Int} (t : Two xs ys) (hq : q ∈ mvTo xs xs.length) : -1 ≤ farStep xs ys q ∧ farStep xs ys q ≤ 1 := by
  obtain ⟨i, hi, eq, h, _⟩ := farr_step t.x3 t.y3 t.l hq
  rw [farStep_at (congrArg Prod.fst eq)]
  omega
/-- the first move may be, and makes it nearer -/
theorem next_ok {xs ys : List Int} (t : Two xs ys) {m : Nat × Int} (h : farM xs ys = some m) : ((m.1 : Int), m.2) ∈ mvTo xs xs.length ∧ farr (xs.set m.1 m.2) ys = farr xs ys - 1 := by
  have hh : (Tow.lows xs.reverse ys.reverse).head? = some m := by
    rw [← Tow.nf_head]
    exact h
  have hm : m ∈ Tow.lows xs.reverse ys.reverse := List.mem_of_head? hh
  have hl : xs.reverse.length = ys.reverse.length := by rw [List.length_reverse, List.length_reverse, t.l]
  obtain ⟨a', mv⟩ := Tow.lows_mv (pgs_rev t.x3) (pgs_rev t.y3) hl hm
  obtain ⟨hq, _⟩ := of_mv mv
  refine ⟨hq, ?_⟩
  obtain ⟨i, hi, eq, _, h2⟩ := farr_step t.x3 t.y3 t.l hq
  have e1 : m.1 = i := by
    have z : ((m.1 : Nat) : Int) = (i : Int) := congrArg Prod.fst eq
    omega
  rw [← e1] at h2
  have z : farr (xs.set m.1 m.2) ys - farr xs ys = -1 := h2.mpr hm
  omega
theorem farM_none {xs ys : List Int} (t : Two xs ys) : farM xs ys = none ↔ farr xs ys = 0 := by
  rw [farr_zero t.l]
  have hl : xs.reverse.length = ys.reverse.length := by rw [List.length_reverse, List.length_reverse, t.l]
  have e : farM xs ys = (Tow.lows xs.reverse ys.reverse).head? := Tow.nf_head _ _
  rw [e, List.head?_eq_none_iff]
  constructor
  · intro h
    apply Classical.byContradiction
    intro ne
    obtain ⟨m, hm⟩ := Tow.lows_ne hl (fun z => ne (List.reverse_inj.mp z))
    rw [h] at hm
    cases hm
  · intro e
    subst e
    exact low_self _
where
  low_self : ∀ a : List Int, Tow.lows a a = []
    | [] => by
      unfold Tow.lows
      rfl
    | g :: as => by
      have z1 : Tow.lows (g :: as) (g :: as) = if g = g then Tow.lows as as else (if Tow.once g g as as ≤ Tow.twice g g as as then [(Tow.nm as (3 - g - g)).getD (as.length, g)] else []) ++ (if Tow.twice g g as as ≤ Tow.once g g as as then [(Tow.nm as g).getD (as.length, 3 - g - g)] else []) := rfl
      rw [z1, if_pos rfl]
      exact low_self as
/-- the discs on unlike pegs -/
def unl (xs ys : List Int) : List Nat := (List.range xs.length).filter fun i => !decide (xs.getD i 0 = ys.getD i 0)
theorem filter_last {p : Nat → Bool} {i : Nat} : ∀ {n : Nat}, i < n → p i = true → (∀ j, i < j → j < n → p j = false) → ((List.range n).filter p).getLast? = some i
  | 0, h, _, _ => absurd h (Nat.not_lt_zero _)
  | n + 1, h, hp, hn => by
    rw [List.range_succ, List.filter_append]
    by_cases e : i = n
    · subst e
      rw [List.filter_cons_of_pos hp]
      exact List.getLast?_concat
    · have hlt : i < n := by omega
      rw [List.filter_cons_of_neg (by rw [hn n hlt (Nat.lt_succ_self _)]; exact Bool.false_ne_true), List.filter_nil, List.append_nil]
      exact filter_last hlt hp fun j h1 h2 => hn j h1 (by omega)
theorem unl_nil {xs ys : List Int} (hl : xs.length = ys.length) : unl xs ys = [] ↔ xs = ys := by
  unfold unl
  rw [List.filter_eq_nil_iff]
  constructor
  · intro h
    refine List.ext_getElem hl fun i h1 h2 => ?_
    have z := h i (List.mem_range.mpr h1)
    have z' : xs.getD i 0 = ys.getD i 0 := by simpa using z
    rw [List.getD_eq_getElem?_getD, List.getD_eq_getElem?_getD, List.getElem?_eq_getElem h1, List.getElem?_eq_getElem h2] at z'
    exact z'
  · intro e i _
    rw [e, decide_eq_true rfl]
    exact Bool.false_ne_true
theorem unl_last {xs ys A as bs : List Int} {g h : Int} (e1 : xs.reverse = A ++ g :: as) (e2 : ys.reverse = A ++ h :: bs) (ne : g ≠ h) (hl : as.length = bs.length) : (unl xs ys).getLast? = some as.length := by
  obtain ⟨_, ix, lx, _⟩ := split_rev e1
  obtain ⟨_, iy, ly, _⟩ := split_rev e2
  rw [← hl] at iy
  refine filter_last lx ?_ fun j h1 h2 => ?_
  · rw [List.getD_eq_getElem?_getD, List.getD_eq_getElem?_getD, ix, iy]
    show (!decide (g = h)) = true
    rw [decide_eq_false ne]
    rfl
  · have f1 : xs = as.reverse ++ (g :: A.reverse) := by
      have z := congrArg List.reverse e1
      rw [List.reverse_reverse, List.reverse_append, List.reverse_cons] at z
      rw [z, List.append_assoc]
      rfl
    have f2 : ys = bs.reverse ++ (h :: A.reverse) := by
      have z := congrArg List.reverse e2
      rw [List.reverse_reverse, List.reverse_append, List.reverse_cons] at z
      rw [z, List.append_assoc]
      rfl
    have hr : as.reverse.length = as.length := List.length_reverse
    have hr2 : bs.reverse.length = as.length := by rw [List.length_reverse, hl]
    obtain ⟨k, hk⟩ : ∃ k, j = as.length + 1 + k := ⟨j - (as.length + 1), by omega⟩
    have g1 : xs[j]? = A.reverse[k]? := by
      rw [f1, List.getElem?_append_right (by omega), hr, hk]
      have e : as.length + 1 + k - as.length = k + 1 := by omega
      rw [e]
      rfl
    have g2 : ys[j]? = A.reverse[k]? := by
      rw [f2, List.getElem?_append_right (by omega), hr2, hk]
      have e : as.length + 1 + k - as.length = k + 1 := by omega
      rw [e]
      rfl
    rw [List.getD_eq_getElem?_getD, List.getD_eq_getElem?_getD, g1, g2, decide_eq_true rfl]
    rfl
theorem tw_drop {R : List Int} {k : Nat} (h : k < R.length) (t : Int) : Tow.tw (R.drop k) t = if R[k] = t then Tow.tw (R.drop (k + 1)) t else 2 ^ (R.length - 1 - k) + Tow.tw (R.drop (k + 1)) (3 - t - R[k]) := by
  rw [List.drop_eq_getElem_cons h, Tow.tw_cons, List.length_drop]
  unfold Tow.nxt
  have e : R.length - (k + 1) = R.length - 1 - k := by omega
  by_cases c : R[k] = t
  · rw [if_pos c, if_pos c, if_pos c, Int.zero_add]
  · rw [if_neg c, if_neg c, if_neg c, e]
    have e2 : 3 - R[k] - t = 3 - t - R[k] := by omega
    rw [e2]
end Peg
/-! # The mathematics of how many shortest ways there are -/
namespace Tow
theorem lows_nodup : ∀ {a b : List Int}, Pgs a → Pgs b → a.length = b.length → (lows a b).Nodup
  | [], _, _, _, _ => by
    unfold lows
    exact .nil
  | _ :: _, [], _, _, _ => by
    unfold lows
    exact .nil
  | g :: as, h :: bs, ha, hb, hl => by
    have hl' : as.length = bs.length := by simpa using hl
    have pg : Pg g := ha g List.mem_cons_self
    have ph : Pg h := hb h List.mem_cons_self
    have pa : Pgs as := fun x hx => ha x (List.mem_cons_of_mem _ hx)
    have pb : Pgs bs := fun x hx => hb x (List.mem_cons_of_mem _ hx)
    have un : lows (g :: as) (h :: bs) = if g = h then lows as bs else (if once g h as bs ≤ twice g h as bs then [(nm as (3 - g - h)).getD (as.length, h)] else []) ++ (if twice g h as bs ≤ once g h as bs then [(nm as h).getD (as.length, 3 - g - h)] else []) := rfl
    rw [un]
    by_cases e : g = h
    · rw [if_pos e]
      exact lows_nodup pa pb hl'
    · rw [if_neg e]
      have p3 : Pg (3 - g - h) := by
        obtain ⟨g0, g3⟩ := pg
        obtain ⟨h0, h3⟩ := ph
        constructor <;> omega
      have ne3 : 3 - g - h ≠ h := by
        obtain ⟨g0, g3⟩ := pg
        obtain ⟨h0, h3⟩ := ph
        omega
      by_cases c1 : once g h as bs ≤ twice g h as bs
      · rw [if_pos c1]
        by_cases c2 : twice g h as bs ≤ once g h as bs
        · rw [if_pos c2]
          show [_, _].Nodup
          refine List.nodup_cons.mpr ⟨fun z => ?_, List.nodup_cons.mpr ⟨by simp, .nil⟩⟩
          have z' := List.mem_singleton.mp z
          cases h1 : nm as (3 - g - h) with
          | none =>
            rw [h1] at z'
            cases h2 : nm as h with
            | none =>
              rw [h2] at z'
              have z2 : h = 3 - g - h := congrArg Prod.snd z'
              exact ne3 z2.symm
            | some m =>
              rw [h2] at z'
              have z2 : as.length = m.1 := congrArg Prod.fst z'
              have lt := nm_lt h2
              omega
          | some m =>
            rw [h1] at z'
            have lt := nm_lt h1
            cases h2 : nm as h with
            | none =>
              rw [h2] at z'
              have z2 : m.1 = as.length := congrArg Prod.fst z'
              omega
            | some m2 =>
              rw [h2] at z'
              have z2 : m = m2 := z'
              subst z2
              obtain ⟨a', mv⟩ := nm_mv pa p3 h1
              exact ne3 (nm_inj mv pa p3 ph h1 h2)
        · rw [if_neg c2]
          exact List.nodup_cons.mpr ⟨by simp, .nil⟩
      · rw [if_neg c1]
        by_cases c2 : twice g h as bs ≤ once g h as bs
        · rw [if_pos c2]
          exact List.nodup_cons.mpr ⟨by simp, .nil⟩
        · rw [if_neg c2]
          exact .nil
end Tow
namespace Peg
open PySem PySem.Spec PyProof.Rows L2 DX
theorem perm_sum {l m : List Int} (h : l.Perm m) : l.sum = m.sum := by
  induction h with
  | nil => rfl
  | cons x _ ih => rw [List.sum_cons, List.sum_cons, ih]
  | swap x y l =>
    rw [List.sum_cons, List.sum_cons, List.sum_cons, List.sum_cons]
    omega
  | trans _ _ h1 h2 => exact h1.trans h2
def bq (xs : List Int) (q : Int × Int) : List Int := xs.set q.1.toNat q.2
/-- the moves that make it nearer are the least ones -/
theorem near_perm {xs ys : List Int} (t : Two xs ys) : ((mvTo xs xs.length).filter fun q => decide (farStep xs ys q = -1)).Perm ((Tow.lows xs.reverse ys.reverse).map Tow.toI) := by
  have hl : xs.reverse.length = ys.reverse.length := by rw [List.length_reverse, List.length_reverse, t.l]
  have nd2 : ((Tow.lows xs.reverse ys.reverse).map Tow.toI).Nodup := by
    refine List.Pairwise.map _ (fun a b hab => ?_) (Tow.lows_nodup (pgs_rev t.x3) (pgs_rev t.y3) hl)
    intro z
    apply hab
    have y1 : (Tow.toI a).1 = (Tow.toI b).1 := by rw [z]
    have y2 : (Tow.toI a).2 = (Tow.toI b).2 := by rw [z]
    have z1 : ((a.1 : Nat) : Int) = (b.1 : Nat) := y1
    have z2 : a.2 = b.2 := y2
    exact Prod.ext (by omega) z2
  refine (List.perm_ext_iff_of_nodup ((mv_nodup xs _).filter _) nd2).mpr fun q => ?_
  rw [List.mem_filter, List.mem_map, decide_eq_true_eq]
  constructor
  · rintro ⟨hq, hs⟩
    obtain ⟨i, hi, eq, _, h⟩ := farr_step t.x3 t.y3 t.l hq
    rw [farStep_at (congrArg Prod.fst eq)] at hs
    exact ⟨(i, q.2), h.mp hs, eq.symm⟩
  · rintro ⟨m, hm, rfl⟩
    obtain ⟨a', mv⟩ := Tow.lows_mv (pgs_rev t.x3) (pgs_rev t.y3) hl hm
    obtain ⟨hq, _⟩ := of_mv mv
    refine ⟨hq, ?_⟩
    obtain ⟨i, hi, eq, _, h⟩ := farr_step t.x3 t.y3 t.l hq
    have e1 : m.1 = i := by
      have z : ((m.1 : Nat) : Int) = (i : Int) := congrArg Prod.fst eq
      omega
    have fs := farStep_at (xs := xs) (ys := ys) (q := Tow.toI m) (i := m.1) rfl
    rw [fs]
    rw [← e1] at h
    exact h.mpr hm
theorem many_sum {xs ys : List Int} (t : Two xs ys) (ne : xs ≠ ys) : ((((mvTo xs xs.length).filter fun q => decide (farStep xs ys q = -1)).map (bq xs)).map fun z => ((many z ys : Nat) : Int)).sum = ((many xs ys : Nat) : Int) := by
  have hl : xs.reverse.length = ys.reverse.length := by rw [List.length_reverse, List.length_reverse, t.l]
  have hs := Tow.mw_sum (f := fun m => many (xs.set m.1 m.2) ys) (pgs_rev t.x3) (pgs_rev t.y3) hl (fun z => ne (List.reverse_inj.mp z)) (fun m hm a' mv => by
    obtain ⟨_, e⟩ := of_mv mv
    show Tow.mw _ _ = _
    rw [e])
  rw [perm_sum (((near_perm t).map (bq xs)).map fun z => ((many z ys : Nat) : Int))]
  have hm : many xs ys = Tow.mw xs.reverse ys.reverse := rfl
  rw [hm, ← hs, List.map_map, List.map_map]
  exact cast_sum _
where
  cast_sum : ∀ l : List (Nat × Int), (l.map (((fun z => ((many z ys : Nat) : Int)) ∘ bq xs) ∘ Tow.toI)).sum = (((l.map fun m => many (xs.set m.1 m.2) ys).sum : Nat) : Int)
    | [] => rfl
    | m :: l => by
      rw [List.map_cons, List.sum_cons, List.map_cons, List.sum_cons, cast_sum l]
      show ((many (xs.set ((m.1 : Nat) : Int).toNat m.2) ys : Nat) : Int) + _ = _
      rw [Int.toNat_natCast]
      omega
theorem many_two (xs ys : List Int) : many xs ys = 1 ∨ many xs ys = 2 := Tow.mw_two _ _
theorem many_sym {xs ys : List Int} (hl : xs.length = ys.length) : many xs ys = many ys xs := Tow.mw_sym (by rw [List.length_reverse, List.length_reverse, hl])
theorem many_same (xs : List Int) : many xs xs = 1 := Tow.mw_same _
end Peg
/-! # The mathematics of going out, level by level -/
namespace Tow
theorem Mv.back {a b : List Int} {m : Nat × Int} (h : Mv a m b) : ∃ m', Mv b m' a := by
  cases h with
  | mk A g p q i hg hp hq gp gq pq => exact ⟨_, .mk A p g q i hp hg hq (fun z => gp z.symm) pq gq⟩
end Tow
namespace Peg
open DX
/-- the settings beside one, as the moves have them -/
def nbS (xs : List Int) : List (List Int) := (mvTo xs xs.length).map (bq xs)
theorem mem_nb {xs z : List Int} (h3 : pegs3 xs) : z ∈ nbS xs ↔ ∃ m, Tow.Mv xs.reverse m z.reverse := by
  unfold nbS
  rw [List.mem_map]
  constructor
  · rintro ⟨q, hq, rfl⟩
    obtain ⟨i, hi, e, _, mv⟩ := mv_of h3 hq
    have e1 : q.1 = (i : Int) := congrArg Prod.fst e
    refine ⟨(i, q.2), ?_⟩
    unfold bq
    rw [e1, Int.toNat_natCast]
    exact mv
  · rintro ⟨m, hm⟩
    obtain ⟨h1, h2⟩ := of_mv hm
    refine ⟨_, h1, ?_⟩
    unfold bq
    rw [Int.toNat_natCast]
    exact (List.reverse_inj.mp h2).symm
theorem nb_3 {xs z : List Int} (h3 : pegs3 xs) (h : z ∈ nbS xs) : pegs3 z ∧ z.length = xs.length := by
  obtain ⟨m, hm⟩ := (mem_nb h3).mp h
  have p := hm.pgs (pgs_rev h3)
  have l := hm.len
  rw [List.length_reverse, List.length_reverse] at l
  exact ⟨fun x hx => p x (List.mem_reverse.mpr hx), l⟩
theorem nb_sym {xs z : List Int} (h3 : pegs3 xs) (k3 : pegs3 z) : z ∈ nbS xs ↔ xs ∈ nbS z := by
  rw [mem_nb h3, mem_nb k3]
  exact ⟨fun ⟨m, h⟩ => h.back, fun ⟨m, h⟩ => h.back⟩
theorem mv_other {xs : List Int} {q : Int × Int} {i : Nat} (h3 : pegs3 xs) (hq : q ∈ mvTo xs xs.length) (e : q.1 = (i : Int)) : i < xs.length ∧ xs[i]? ≠ some q.2 := by
  obtain ⟨n, hn, e1, _, hc⟩ := mem_mv.mp hq
  have en : n = i := by omega
  subst en
  refine ⟨hn, fun z => ?_⟩
  exact ((can_iff z).mp hc).1 rfl
theorem bq_inj {xs : List Int} {q r : Int × Int} (h3 : pegs3 xs) (hq : q ∈ mvTo xs xs.length) (hr : r ∈ mvTo xs xs.length) (e : bq xs q = bq xs r) : q = r := by
  obtain ⟨i, hi, e1, _, _⟩ := mv_of h3 hq
  obtain ⟨j, hj, e2, _, _⟩ := mv_of h3 hr
  have e1' : q.1 = (i : Int) := congrArg Prod.fst e1
  have e2' : r.1 = (j : Int) := congrArg Prod.fst e2
  have n1 := (mv_other h3 hq e1').2
  unfold bq at e
  rw [e1', e2', Int.toNat_natCast, Int.toNat_natCast] at e
  have g : (xs.set i q.2)[i]? = (xs.set j r.2)[i]? := congrArg (fun l => l[i]?) e
  rw [List.getElem?_set_self hi] at g
  by_cases ij : j = i
  · subst ij
    rw [List.getElem?_set_self hj] at g
    rw [e1, e2, Option.some.inj g]
  · rw [List.getElem?_set_ne ij] at g
    exact absurd g.symm n1
theorem nodup_mapI {α β : Type} {f : α → β} : ∀ {l : List α}, l.Nodup → (∀ a ∈ l, ∀ b ∈ l, f a = f b → a = b) → (l.map f).Nodup
  | [], _, _ => .nil
  | a :: l, nd, inj => by
    obtain ⟨n1, n2⟩ := List.nodup_cons.mp nd
    rw [List.map_cons]
    refine List.nodup_cons.mpr ⟨fun h => ?_, nodup_mapI n2 fun b hb c hc => inj b (List.mem_cons_of_mem _ hb) c (List.mem_cons_of_mem _ hc)⟩
    obtain ⟨b, hb, e⟩ := List.mem_map.mp h
    have := inj b (List.mem_cons_of_mem _ hb) a List.mem_cons_self e
    exact n1 (this ▸ hb)
theorem nb_nodup {xs : List Int} (h3 : pegs3 xs) : (nbS xs).Nodup := nodup_mapI (mv_nodup xs _) fun q hq r hr e => bq_inj h3 hq hr e
theorem nb_far {xs z s : List Int} (t : Two xs s) (h : z ∈ nbS xs) : farr z s = farr xs s - 1 ∨ farr z s = farr xs s ∨ farr z s = farr xs s + 1 := by
  obtain ⟨q, hq, rfl⟩ := List.mem_map.mp h
  have b := farStep_bd t hq
  unfold farStep at b
  show farr (xs.set q.1.toNat q.2) s = _ ∨ farr (xs.set q.1.toNat q.2) s = _ ∨ farr (xs.set q.1.toNat q.2) s = _
  omega
theorem Two.sym' {xs ys : List Int} (t : Two xs ys) : Two ys xs := ⟨t.y3, t.x3, t.l.symm, by rw [← t.l]; exact t.l60⟩
/-- one move nearer -/
theorem nb_near {xs s : List Int} (t : Two xs s) (ne : xs ≠ s) : ∃ z ∈ nbS xs, farr z s = farr xs s - 1 := by
  cases h : farM xs s with
  | none => exact absurd ((farr_zero t.l).mp ((farM_none t).mp h)) ne
  | some m =>
    obtain ⟨h1, h2⟩ := next_ok t h
    refine ⟨xs.set m.1 m.2, List.mem_map.mpr ⟨_, h1, ?_⟩, h2⟩
    unfold bq
    rw [Int.toNat_natCast]
/-- a level: all settings so far away, each once -/
structure LevL (s : List Int) (a : Int) (L : List (List Int)) : Prop where
  nd : L.Nodup
  mem : ∀ z, z ∈ L ↔ Two s z ∧ farr s z = a
/-- the ways to a setting of the next level, by those of this one -/
theorem lev_sum {s z : List Int} {a : Int} {L : List (List Int)} (V : LevL s a L) (t : Two s z) (hz : farr s z = a + 1) (h0 : 0 ≤ a) : ((L.filter fun h => decide (z ∈ nbS h)).map fun h => ((many s h : Nat) : Int)).sum = ((many s z : Nat) : Int) := by
  have t' := t.sym'
  have fz : farr z s = a + 1 := by rw [farr_sym t'.l, hz]
  have ne : z ≠ s := fun e => by
    have z0 : farr z s = 0 := (farr_zero t'.l).mpr e
    omega
  have ms := many_sum t' ne
  have pm : (L.filter fun h => decide (z ∈ nbS h)).Perm (((mvTo z z.length).filter fun q => decide (farStep z s q = -1)).map (bq z)) := by
    refine (List.perm_ext_iff_of_nodup (V.nd.filter _) (nodup_mapI ((mv_nodup z _).filter _) fun q hq r hr e => bq_inj t.y3 (List.mem_filter.mp hq).1 (List.mem_filter.mp hr).1 e)).mpr fun h => ?_
    rw [List.mem_filter, V.mem, decide_eq_true_eq, List.mem_map]
    constructor
    · rintro ⟨⟨th, fh⟩, hn⟩
      have hb : h ∈ nbS z := (nb_sym th.y3 t.y3).mp hn
      obtain ⟨q, hq, e⟩ := List.mem_map.mp hb
      refine ⟨q, List.mem_filter.mpr ⟨hq, decide_eq_true ?_⟩, e⟩
      have e' : z.set q.1.toNat q.2 = h := e
      unfold farStep
      rw [e', farr_sym (by rw [← th.l, t.l] : h.length = s.length) , fh, fz] <;> omega
    · rintro ⟨q, hq, e⟩
      obtain ⟨hq1, hq2⟩ := List.mem_filter.mp hq
      have hb : h ∈ nbS z := List.mem_map.mpr ⟨q, hq1, e⟩
      obtain ⟨h3, hl⟩ := nb_3 t.y3 hb
      have e' : z.set q.1.toNat q.2 = h := e
      have fq := of_decide_eq_true hq2
      unfold farStep at fq
      rw [e', fz] at fq
      have th : Two s h := ⟨t.x3, h3, by rw [hl, t.l], t.l60⟩
      refine ⟨⟨th, ?_⟩, (nb_sym th.y3 t.y3).mpr hb⟩
      rw [farr_sym th.l]
      omega
  have pm2 := (pm.map fun h => ((many h s : Nat) : Int))
  have e1 : ((L.filter fun h => decide (z ∈ nbS h)).map fun h => ((many s h : Nat) : Int)) = (L.filter fun h => decide (z ∈ nbS h)).map fun h => ((many h s : Nat) : Int) := by
    refine List.map_congr_left fun h hh => ?_
    have th := ((V.mem h).mp (List.mem_filter.mp hh).1).1
    rw [many_sym th.l]
  rw [e1, perm_sum pm2, ms, many_sym t'.l]
/-! ### a dict, as a list of keys and values -/
theorem get_put {α : Type} {z y : List Int} {v : α} : ∀ {L : List (List Int × α)}, getA (putA L z v) y = if z = y then some v else getA L y
  | [] => rfl
  | (k, u) :: L => by
    by_cases e : k = z
    · subst e
      rw [putA, if_pos rfl, getA, getA]
      split <;> rfl
    · rw [putA, if_neg e, getA, getA, get_put]
      by_cases e2 : k = y
      · rw [if_pos e2, if_pos e2, if_neg (fun h => e (e2.trans h.symm))]
      · rw [if_neg e2, if_neg e2]
theorem put_keys {α : Type} {z : List Int} {v : α} : ∀ {L : List (List Int × α)}, (putA L z v).map (·.1) = if z ∈ L.map (·.1) then L.map (·.1) else L.map (·.1) ++ [z]
  | [] => rfl
  | (k, u) :: L => by
    rw [putA]
    by_cases e : k = z
    · rw [if_pos e, List.map_cons, List.map_cons, if_pos (by rw [e]; exact List.mem_cons_self)]
    · rw [if_neg e, List.map_cons, List.map_cons, put_keys]
      have m : z ∈ k :: L.map (·.1) ↔ z ∈ L.map (·.1) := by
        rw [List.mem_cons]
        exact ⟨fun h => h.elim (fun q => absurd q.symm e) id, .inr⟩
      by_cases h : z ∈ L.map (·.1)
      · rw [if_pos h, if_pos (m.mpr h)]
      · rw [if_neg h, if_neg (fun q => h (m.mp q))]
        rfl
theorem put_nodup {α : Type} {z : List Int} {v : α} {L : List (List Int × α)} (h : (L.map (·.1)).Nodup) : ((putA L z v).map (·.1)).Nodup := by
  rw [put_keys]
  split
  · exact h
  · rename_i n
    exact List.nodup_append.mpr ⟨h, by simp, fun a ha b hb => by
      rw [List.mem_singleton.mp hb]
      exact fun e => n (e ▸ ha)⟩
theorem get_none {α : Type} {z : List Int} : ∀ {L : List (List Int × α)}, getA L z = none ↔ z ∉ L.map (·.1)
  | [] => by simp [getA]
  | (k, u) :: L => by
    rw [getA, List.map_cons, List.mem_cons]
    by_cases e : k = z
    · rw [if_pos e]
      exact ⟨fun h => (by cases h), fun h => absurd (Or.inl e.symm) h⟩
    · rw [if_neg e, get_none]
      exact ⟨fun h q => q.elim (fun w => e w.symm) h, fun h q => h (.inr q)⟩
theorem put_new {α : Type} {z : List Int} {v : α} : ∀ {L : List (List Int × α)}, z ∉ L.map (·.1) → putA L z v = L ++ [(z, v)]
  | [], _ => rfl
  | (k, u) :: L, h => by
    rw [List.map_cons, List.mem_cons, not_or] at h
    rw [putA, if_neg (fun e => h.1 e.symm), put_new h.2]
    rfl
theorem mem_get {α : Type} {z : List Int} {v : α} : ∀ {L : List (List Int × α)}, (L.map (·.1)).Nodup → ((z, v) ∈ L ↔ getA L z = some v)
  | [], _ => by simp [getA]
  | (k, u) :: L, h => by
    rw [List.map_cons] at h
    obtain ⟨h1, h2⟩ := List.nodup_cons.mp h
    rw [getA, List.mem_cons]
    by_cases e : k = z
    · subst e
      rw [if_pos rfl]
      constructor
      · intro q
        rcases q with q | q
        · rw [(Prod.mk.inj q).2]
        · exact absurd (List.mem_map.mpr ⟨_, q, rfl⟩) h1
      · intro q
        rw [Option.some.inj q]
        exact .inl rfl
    · rw [if_neg e, ← mem_get h2]
      exact ⟨fun q => q.elim (fun w => absurd (Prod.mk.inj w).1.symm e) id, .inr⟩
/-! ### the next level -/
def addN (s : List Int) (a : Int) (F : List (List Int × Int)) (c : List Int × Int) : List (List Int × Int) := if farr s c.1 ≤ a then F else putA F c.1 ((getA F c.1).getD 0 + c.2)
def sumN (C : List (List Int × Int)) (z : List Int) : Int := ((C.filter fun c => decide (c.1 = z)).map (·.2)).sum
theorem sumN_cons (c : List Int × Int) (C : List (List Int × Int)) (z : List Int) : sumN (c :: C) z = (if c.1 = z then c.2 else 0) + sumN C z := by
  unfold sumN
  by_cases e : c.1 = z
  · rw [List.filter_cons_of_pos (by exact decide_eq_true e), if_pos e, List.map_cons, List.sum_cons]
  · rw [List.filter_cons_of_neg (by simpa using e), if_neg e, Int.zero_add]
theorem sumN_app (C D : List (List Int × Int)) (z : List Int) : sumN (C ++ D) z = sumN C z + sumN D z := by
  unfold sumN
  rw [List.filter_append, List.map_append, List.sum_append]
theorem acc_get {s : List Int} {a : Int} {z : List Int} : ∀ {C F : List (List Int × Int)}, a < farr s z →
    (getA (C.foldl (addN s a) F) z).getD 0 = (getA F z).getD 0 + sumN C z ∧ ((getA (C.foldl (addN s a) F) z).isSome ↔ (getA F z).isSome ∨ z ∈ C.map (·.1))
  | [], F, _ => ⟨by show _ = _ + (0 : Int); rw [Int.add_zero]; rfl, by simp⟩
  | c :: C, F, h => by
    obtain ⟨h1, h2⟩ := acc_get (C := C) (F := addN s a F c) h
    rw [List.foldl_cons, h1, h2, sumN_cons]
    unfold addN
    by_cases e : c.1 = z
    · rw [if_neg (by rw [e]; omega), if_pos e, get_put, if_pos e]
      constructor
      · rw [e]
        show (getA F z).getD 0 + c.2 + sumN C z = _
        omega
      · rw [List.map_cons]
        constructor
        · intro _
          exact .inr (by rw [e]; exact List.mem_cons_self)
        · intro _
          exact .inl rfl
    · have g : getA (if farr s c.1 ≤ a then F else putA F c.1 ((getA F c.1).getD 0 + c.2)) z = getA F z := by
        split
        · rfl
        · rw [get_put, if_neg e]
      rw [g, if_neg e, Int.zero_add]
      refine ⟨rfl, ?_⟩
      rw [List.map_cons, List.mem_cons]
      constructor
      · rintro (q | q)
        · exact .inl q
        · exact .inr (.inr q)
      · rintro (q | q | q)
        · exact .inl q
        · exact absurd q.symm e
        · exact .inr q
theorem acc_far {s : List Int} {a : Int} {z : List Int} : ∀ {C F : List (List Int × Int)}, farr s z ≤ a → getA (C.foldl (addN s a) F) z = getA F z
  | [], _, _ => rfl
  | c :: C, F, h => by
    rw [List.foldl_cons, acc_far h]
    unfold addN
    split
    · rfl
    · rename_i n
      rw [get_put, if_neg fun e => n (by rw [e]; exact h)]
theorem acc_nodup {s : List Int} {a : Int} : ∀ {C F : List (List Int × Int)}, (F.map (·.1)).Nodup → ((C.foldl (addN s a) F).map (·.1)).Nodup
  | [], _, h => h
  | c :: C, F, h => by
    rw [List.foldl_cons]
    refine acc_nodup ?_
    unfold addN
    split
    · exact h
    · exact put_nodup h
/-- what one setting of a level gives to those beside it -/
def conS (s h : List Int) : List (List Int × Int) := (nbS h).map fun z => (z, ((many s h : Nat) : Int))
def conL (s : List Int) (L : List (List Int)) : List (List Int × Int) := L.flatMap (conS s)
theorem con_keys {s : List Int} {L : List (List Int)} {z : List Int} : z ∈ (conL s L).map (·.1) ↔ ∃ h ∈ L, z ∈ nbS h := by
  unfold conL conS
  rw [List.mem_map]
  constructor
  · rintro ⟨c, hc, rfl⟩
    obtain ⟨h, hh, hc⟩ := List.mem_flatMap.mp hc
    obtain ⟨y, hy, rfl⟩ := List.mem_map.mp hc
    exact ⟨h, hh, hy⟩
  · rintro ⟨h, hh, hz⟩
    exact ⟨_, List.mem_flatMap.mpr ⟨h, hh, List.mem_map.mpr ⟨z, hz, rfl⟩⟩, rfl⟩
theorem con_one {s h z : List Int} : ∀ {l : List (List Int)}, l.Nodup → sumN (l.map fun y => (y, ((many s h : Nat) : Int))) z = if z ∈ l then ((many s h : Nat) : Int) else 0
  | [], _ => rfl
  | y :: l, nd => by
    obtain ⟨n1, n2⟩ := List.nodup_cons.mp nd
    rw [List.map_cons, sumN_cons, con_one n2]
    by_cases e : y = z
    · subst e
      rw [if_pos rfl, if_neg n1, if_pos List.mem_cons_self, Int.add_zero]
    · have m : z ∈ y :: l ↔ z ∈ l := by
        rw [List.mem_cons]
        exact ⟨fun q => q.elim (fun w => absurd w.symm e) id, .inr⟩
      rw [if_neg e, Int.zero_add]
      by_cases q : z ∈ l
      · rw [if_pos q, if_pos (m.mpr q)]
      · rw [if_neg q, if_neg (fun w => q (m.mp w))]
theorem con_sum {s z : List Int} : ∀ {L : List (List Int)}, (∀ h ∈ L, pegs3 h) → sumN (conL s L) z = ((L.filter fun h => decide (z ∈ nbS h)).map fun h => ((many s h : Nat) : Int)).sum
  | [], _ => rfl
  | h :: L, p => by
    have e : conL s (h :: L) = conS s h ++ conL s L := rfl
    rw [e, sumN_app, con_sum fun x hx => p x (List.mem_cons_of_mem _ hx)]
    unfold conS
    rw [con_one (nb_nodup (p h List.mem_cons_self))]
    by_cases c : z ∈ nbS h
    · rw [if_pos c, List.filter_cons_of_pos (by exact decide_eq_true c), List.map_cons, List.sum_cons]
    · rw [if_neg c, List.filter_cons_of_neg (by simpa using c), Int.zero_add]
theorem lev_next {s : List Int} {a : Int} {L : List (List Int)} (V : LevL s a L) (h0 : 0 ≤ a) (s3 : pegs3 s) : LevL s (a + 1) (((conL s L).foldl (addN s a) []).map (·.1)) ∧ ∀ z n, (z, n) ∈ (conL s L).foldl (addN s a) [] → n = ((many s z : Nat) : Int) := by
  have nd : (((conL s L).foldl (addN s a) []).map (·.1)).Nodup := acc_nodup .nil
  have p3 : ∀ h ∈ L, pegs3 h := fun h hh => ((V.mem h).mp hh).1.y3
  have key : ∀ z, z ∈ ((conL s L).foldl (addN s a) []).map (·.1) ↔ Two s z ∧ farr s z = a + 1 := fun z => by
    have kn : z ∈ ((conL s L).foldl (addN s a) []).map (·.1) ↔ getA ((conL s L).foldl (addN s a) []) z ≠ none := by
      rw [Ne, get_none]
      exact (Classical.not_not).symm
    rw [kn]
    constructor
    · intro q
      have gt : a < farr s z := by
        apply Classical.byContradiction
        intro c
        exact q (acc_far (by omega))
      have i2 := (acc_get (C := conL s L) (F := []) gt).2.mp (Option.isSome_iff_ne_none.mpr q)
      rcases i2 with w | w
      · cases w
      · obtain ⟨h, hh, hz⟩ := con_keys.mp w
        obtain ⟨th, fh⟩ := (V.mem h).mp hh
        obtain ⟨z3, zl⟩ := nb_3 th.y3 hz
        have tz : Two s z := ⟨s3, z3, by rw [zl, th.l], th.l60⟩
        have nf := nb_far th.sym' hz
        rw [farr_sym (by rw [zl, th.l] : z.length = s.length), farr_sym th.sym'.l] at nf
        exact ⟨tz, by omega⟩
    · rintro ⟨tz, fz⟩
      have ne : z ≠ s := fun e => by
        have z0 : farr s z = 0 := (farr_zero tz.l).mpr e.symm
        omega
      obtain ⟨h, hh, fh⟩ := nb_near tz.sym' ne
      obtain ⟨h3, hl⟩ := nb_3 tz.y3 hh
      have th : Two s h := ⟨s3, h3, by rw [hl, tz.l], tz.l60⟩
      have fa : farr s h = a := by
        rw [farr_sym th.l, fh, farr_sym tz.sym'.l, fz]
        omega
      have hL : h ∈ L := (V.mem h).mpr ⟨th, fa⟩
      have i2 := (acc_get (C := conL s L) (F := []) (z := z) (s := s) (a := a) (by omega)).2.mpr (.inr (con_keys.mpr ⟨h, hL, (nb_sym th.y3 tz.y3).mpr hh⟩))
      exact Option.isSome_iff_ne_none.mp i2
  refine ⟨⟨nd, key⟩, fun z n hm => ?_⟩
  obtain ⟨tz, fz⟩ := (key z).mp (List.mem_map.mpr ⟨_, hm, rfl⟩)
  have g := (mem_get nd).mp hm
  have v := (acc_get (C := conL s L) (F := []) (z := z) (s := s) (a := a) (by omega)).1
  rw [g, con_sum p3, lev_sum V tz fz h0] at v
  have v' : n = 0 + ((many s z : Nat) : Int) := v
  omega
/-! ### all that is found -/
structure FndL (s : List Int) (a : Int) (F : List (List Int × (Int × Int))) : Prop where
  nd : (F.map (·.1)).Nodup
  get : ∀ z v, getA F z = some v ↔ Two s z ∧ farr s z ≤ a ∧ v = (farr s z, ((many s z : Nat) : Int))
theorem get_mem {α : Type} {z : List Int} {v : α} {L : List (List Int × α)} (h : getA L z = some v) : (z, v) ∈ L := by
  induction L with
  | nil => cases h
  | cons p L ih =>
    obtain ⟨k, u⟩ := p
    rw [getA] at h
    split at h
    · rename_i e
      cases h
      rw [e]
      exact List.mem_cons_self
    · exact List.mem_cons_of_mem _ (ih h)
theorem fold_put {c : Int} {z : List Int} : ∀ {N : List (List Int × Int)} {F : List (List Int × (Int × Int))}, (N.map (·.1)).Nodup →
    getA (N.foldl (fun G p => putA G p.1 (c, p.2)) F) z = match getA N z with | some n => some (c, n) | none => getA F z
  | [], F, _ => rfl
  | (k, n) :: N, F, nd => by
    rw [List.map_cons] at nd
    obtain ⟨n1, n2⟩ := List.nodup_cons.mp nd
    rw [List.foldl_cons, fold_put n2, getA]
    by_cases e : k = z
    · subst e
      rw [if_pos rfl, get_none.mpr n1]
      show getA (putA F k (c, n)) k = _
      rw [get_put, if_pos rfl]
    · rw [if_neg e]
      cases getA N z with
      | some m => rfl
      | none =>
        show getA (putA F k (c, n)) z = getA F z
        rw [get_put, if_neg e]
theorem fold_nodup {c : Int} : ∀ {N : List (List Int × Int)} {F : List (List Int × (Int × Int))}, (F.map (·.1)).Nodup → ((N.foldl (fun G p => putA G p.1 (c, p.2)) F).map (·.1)).Nodup
  | [], _, h => h
  | _ :: N, F, h => by
    rw [List.foldl_cons]
    exact fold_nodup (put_nodup h)
theorem fnd_next {s : List Int} {a : Int} {L : List (List Int)} {F : List (List Int × (Int × Int))} (V : LevL s a L) (W : FndL s a F) (h0 : 0 ≤ a) (s3 : pegs3 s) : FndL s (a + 1) (((conL s L).foldl (addN s a) []).foldl (fun G p => putA G p.1 (a + 1, p.2)) F) := by
  obtain ⟨V1, vn⟩ := lev_next V h0 s3
  refine ⟨fold_nodup W.nd, fun z v => ?_⟩
  rw [fold_put V1.nd]
  cases g : getA ((conL s L).foldl (addN s a) []) z with
  | some n =>
    have hm := get_mem g
    obtain ⟨tz, fz⟩ := (V1.mem z).mp (List.mem_map.mpr ⟨_, hm, rfl⟩)
    have en := vn z n hm
    show some (a + 1, n) = some v ↔ _
    constructor
    · intro q
      cases q
      exact ⟨tz, by omega, by rw [fz, en]⟩
    · rintro ⟨_, _, rfl⟩
      rw [fz, en]
  | none =>
    have nm : ¬ (Two s z ∧ farr s z = a + 1) := fun q => (get_none.mp g) ((V1.mem z).mpr q)
    show getA F z = some v ↔ _
    rw [W.get]
    constructor
    · rintro ⟨tz, fz, e⟩
      exact ⟨tz, by omega, e⟩
    · rintro ⟨tz, fz, e⟩
      refine ⟨tz, ?_, e⟩
      apply Classical.byContradiction
      intro c
      exact nm ⟨tz, by omega⟩
theorem lev_zero {s : List Int} (s3 : pegs3 s) (sl : s.length ≤ 60) : LevL s 0 [s] := ⟨List.nodup_cons.mpr ⟨by simp, .nil⟩, fun z => by
  rw [List.mem_singleton]
  constructor
  · intro e
    subst e
    exact ⟨⟨s3, s3, rfl, sl⟩, (farr_zero rfl).mpr rfl⟩
  · rintro ⟨tz, fz⟩
    exact ((farr_zero tz.l).mp fz).symm⟩
theorem farr_nn {xs ys : List Int} (t : Two xs ys) : 0 ≤ farr xs ys := Tow.fr_nonneg _ _
theorem fnd_zero {s : List Int} (s3 : pegs3 s) (sl : s.length ≤ 60) : FndL s 0 [(s, (0, 1))] := ⟨List.nodup_cons.mpr ⟨by simp, .nil⟩, fun z v => by
  rw [getA, getA]
  constructor
  · intro q
    split at q
    · rename_i e
      subst e
      cases q
      have f0 : farr s s = 0 := (farr_zero rfl).mpr rfl
      exact ⟨⟨s3, s3, rfl, sl⟩, by omega, by rw [f0, many_same]; rfl⟩
    · cases q
  · rintro ⟨tz, fz, rfl⟩
    have f0 : farr s z = 0 := by
      have := farr_nn tz
      omega
    have e : s = z := (farr_zero tz.l).mp f0
    subst e
    rw [if_pos rfl, f0, many_same]
    rfl⟩
/-- where a level is empty all settings are found -/
theorem lev_end {s : List Int} {a : Int} (V : LevL s a []) (h0 : 0 ≤ a) : ∀ (n : Nat) (z : List Int), Two s z → farr s z = a + n → False
  | 0, z, tz, fz => by
    have z1 := (V.mem z).mpr ⟨tz, by rw [fz]; exact Int.add_zero a⟩
    cases z1
  | n + 1, z, tz, fz => by
    have ne : z ≠ s := fun e => by
      have z0 : farr s z = 0 := (farr_zero tz.l).mpr e.symm
      omega
    obtain ⟨h, hh, fh⟩ := nb_near tz.sym' ne
    obtain ⟨h3, hl⟩ := nb_3 tz.y3 hh
    have th : Two s h := ⟨tz.x3, h3, by rw [hl, tz.l], tz.l60⟩
    refine lev_end V h0 n h th ?_
    rw [farr_sym th.l, fh, farr_sym tz.sym'.l, fz]
    omega
theorem fnd_end {s : List Int} {a : Int} {F : List (List Int × (Int × Int))} (V : LevL s a []) (W : FndL s a F) (h0 : 0 ≤ a) {z : List Int} (tz : Two s z) : getA F z = some (farr s z, ((many s z : Nat) : Int)) := by
  refine (W.get z _).mpr ⟨tz, ?_, rfl⟩
  apply Classical.byContradiction
  intro c
  exact lev_end V h0 (farr s z - a).toNat z tz (by omega)
/-- all settings of n discs -/
def allS : Nat → List (List Int)
  | 0 => [[]]
  | n + 1 => (allS n).flatMap fun x => [0 :: x, 1 :: x, 2 :: x]
theorem allS_len : ∀ n, (allS n).length = 3 ^ n
  | 0 => rfl
  | n + 1 => by
    have z : ∀ l : List (List Int), (l.flatMap fun x => [0 :: x, 1 :: x, 2 :: x]).length = 3 * l.length := fun l => by
      induction l with
      | nil => rfl
      | cons x l ih =>
        rw [List.flatMap_cons, List.length_append, ih]
        show 3 + 3 * l.length = 3 * (l.length + 1)
        omega
    show ((allS n).flatMap _).length = _
    rw [z, allS_len n, Nat.pow_succ]
    omega
theorem mem_allS : ∀ {n : Nat} {x : List Int}, x ∈ allS n ↔ pegs3 x ∧ x.length = n
  | 0, x => by
    show x ∈ [[]] ↔ _
    rw [List.mem_singleton]
    constructor
    · rintro rfl
      exact ⟨fun y hy => (by cases hy), rfl⟩
    · rintro ⟨_, h⟩
      exact List.length_eq_zero_iff.mp h
  | n + 1, x => by
    show x ∈ (allS n).flatMap _ ↔ _
    rw [List.mem_flatMap]
    constructor
    · rintro ⟨y, hy, hx⟩
      obtain ⟨y3, yl⟩ := mem_allS.mp hy
      have c : x = 0 :: y ∨ x = 1 :: y ∨ x = 2 :: y := by simpa using hx
      have mk : ∀ p : Int, Tow.Pg p → pegs3 (p :: y) ∧ (p :: y).length = n + 1 := fun p hp => ⟨fun v hv => by
        rcases List.mem_cons.mp hv with e | e
        · rw [e]
          exact hp
        · exact y3 v e, by rw [List.length_cons, yl]⟩
      rcases c with rfl | rfl | rfl
      · exact mk 0 ⟨by decide, by decide⟩
      · exact mk 1 ⟨by decide, by decide⟩
      · exact mk 2 ⟨by decide, by decide⟩
    · rintro ⟨x3, xl⟩
      cases x with
      | nil => cases xl
      | cons p y =>
        refine ⟨y, mem_allS.mpr ⟨fun v hv => x3 v (List.mem_cons_of_mem _ hv), Nat.succ.inj xl⟩, ?_⟩
        have hp : 0 ≤ p ∧ p < 3 := x3 p List.mem_cons_self
        have c : p = 0 ∨ p = 1 ∨ p = 2 := by omega
        rcases c with rfl | rfl | rfl <;> simp
theorem allS_nodup : ∀ n, (allS n).Nodup
  | 0 => List.nodup_cons.mpr ⟨by simp, .nil⟩
  | n + 1 => by
    have z : ∀ l : List (List Int), l.Nodup → (l.flatMap fun x => [0 :: x, 1 :: x, 2 :: x]).Nodup := fun l => by
      induction l with
      | nil => intro _; exact .nil
      | cons x l ih =>
        intro nd
        obtain ⟨n1, n2⟩ := List.nodup_cons.mp nd
        rw [List.flatMap_cons]
        refine List.nodup_append.mpr ⟨by simp, ih n2, fun u hu v hv e => ?_⟩
        subst e
        obtain ⟨y, hy, hv2⟩ := List.mem_flatMap.mp hv
        have c1 : u = 0 :: x ∨ u = 1 :: x ∨ u = 2 :: x := by simpa using hu
        have c2 : u = 0 :: y ∨ u = 1 :: y ∨ u = 2 :: y := by simpa using hv2
        have exy : x = y := by
          rcases c1 with rfl | rfl | rfl <;> rcases c2 with q | q | q <;> first | (injection q) | (injection q with q1 q2; exact absurd q1 (by decide))
        exact n1 (exy ▸ hy)
    exact z _ (allS_nodup n)
theorem fnd_len {s : List Int} {a : Int} {F : List (List Int × (Int × Int))} (V : LevL s a []) (W : FndL s a F) (h0 : 0 ≤ a) (s3 : pegs3 s) (sl : s.length ≤ 60) : F.length = 3 ^ s.length := by
  have pm : (F.map (·.1)).Perm (allS s.length) := by
    refine (List.perm_ext_iff_of_nodup W.nd (allS_nodup _)).mpr fun z => ?_
    rw [mem_allS]
    constructor
    · intro h
      cases g : getA F z with
      | none => exact absurd h (get_none.mp g)
      | some v =>
        obtain ⟨tz, _, _⟩ := (W.get z v).mp g
        exact ⟨tz.y3, tz.l.symm⟩
    · rintro ⟨z3, zl⟩
      have tz : Two s z := ⟨s3, z3, zl.symm, sl⟩
      have g := fnd_end V W h0 tz
      apply Classical.byContradiction
      intro c
      rw [get_none.mpr c] at g
      cases g
  have l := pm.length_eq
  rw [List.length_map, allS_len] at l
  exact l
theorem fnd_le {s : List Int} {a : Int} {F : List (List Int × (Int × Int))} (W : FndL s a F) : F.length ≤ 3 ^ s.length := by
  have pm : (F.map (·.1)).Perm ((allS s.length).filter fun z => decide (z ∈ F.map (·.1))) := by
    refine (List.perm_ext_iff_of_nodup W.nd ((allS_nodup _).filter _)).mpr fun z => ?_
    rw [List.mem_filter, mem_allS, decide_eq_true_eq]
    constructor
    · intro h
      refine ⟨?_, h⟩
      cases g : getA F z with
      | none => exact absurd h (get_none.mp g)
      | some v =>
        obtain ⟨tz, _, _⟩ := (W.get z v).mp g
        exact ⟨tz.y3, tz.l.symm⟩
    · exact fun h => h.2
  have l := pm.length_eq
  have le := List.length_filter_le (fun z => decide (z ∈ F.map (·.1))) (allS s.length)
  rw [List.length_map] at l
  rw [allS_len] at le
  omega
theorem fold_new {c : Int} : ∀ {N : List (List Int × Int)} {F : List (List Int × (Int × Int))}, (N.map (·.1)).Nodup → (∀ z ∈ N.map (·.1), z ∉ F.map (·.1)) → N.foldl (fun G p => putA G p.1 (c, p.2)) F = F ++ N.map fun p => (p.1, (c, p.2))
  | [], F, _, _ => by rw [List.map_nil, List.append_nil]; rfl
  | (k, n) :: N, F, nd, h => by
    rw [List.map_cons] at nd h
    obtain ⟨n1, n2⟩ := List.nodup_cons.mp nd
    rw [List.foldl_cons, put_new (h k List.mem_cons_self), fold_new n2 fun z hz => ?_, List.append_assoc]
    · rfl
    · rw [List.map_append, List.mem_append]
      rintro (q | q)
      · exact h z (List.mem_cons_of_mem _ hz) q
      · have e : z = k := by simpa using q
        exact n1 (e ▸ hz)
theorem lev_new {s : List Int} {a : Int} {L : List (List Int)} {F : List (List Int × (Int × Int))} (V : LevL s a L) (W : FndL s a F) (h0 : 0 ≤ a) (s3 : pegs3 s) : ∀ z ∈ ((conL s L).foldl (addN s a) []).map (·.1), z ∉ F.map (·.1) := fun z hz q => by
  obtain ⟨_, fz⟩ := ((lev_next V h0 s3).1.mem z).mp hz
  cases g : getA F z with
  | none => exact get_none.mp g q
  | some v =>
    obtain ⟨_, f2, _⟩ := (W.get z v).mp g
    omega
/-- what is found is that which is near enough -/
theorem fnd_in {s z : List Int} {a : Int} {F : List (List Int × (Int × Int))} (W : FndL s a F) (tz : Two s z) : (getA F z).isSome = decide (farr s z ≤ a) := by
  cases g : getA F z with
  | none =>
    rw [decide_eq_false]
    · rfl
    · intro q
      have y := (W.get z _).mpr ⟨tz, q, rfl⟩
      rw [g] at y
      cases y
  | some v =>
    obtain ⟨_, f2, _⟩ := (W.get z v).mp g
    rw [decide_eq_true f2]
    rfl
/-! ### the two dicts as data -/
def mapA {α β : Type} (f : α → β) (L : List (List Int × α)) : List (List Int × β) := L.map fun p => (p.1, f p.2)
theorem mapA_keys {α β : Type} (f : α → β) (L : List (List Int × α)) : (mapA f L).map (·.1) = L.map (·.1) := by
  unfold mapA
  rw [List.map_map]
  rfl
theorem mapA_get {α β : Type} (f : α → β) (z : List Int) : ∀ L : List (List Int × α), getA (mapA f L) z = (getA L z).map f
  | [] => rfl
  | (k, v) :: L => by
    show getA ((k, f v) :: mapA f L) z = _
    rw [getA, getA, mapA_get f z L]
    split <;> rfl
theorem mapA_put {α β : Type} (f : α → β) (z : List Int) (v : α) : ∀ L : List (List Int × α), putA (mapA f L) z (f v) = mapA f (putA L z v)
  | [] => rfl
  | (k, u) :: L => by
    show putA ((k, f u) :: mapA f L) z (f v) = _
    rw [putA, putA, mapA_put f z v L]
    split <;> rfl
def dF (v : Int × Int) : D := .tup [.int v.1, .int v.2]
def dN (n : Int) : D := .int n
/-- the going out, turn by turn -/
def goG (s : List Int) : Nat → Int → List (List Int × (Int × Int)) → List (List Int) → List (List Int × (Int × Int))
  | 0, _, F, _ => F
  | m + 1, a, F, L => if L = [] then F else goG s m (a + 1) (((conL s L).foldl (addN s a) []).foldl (fun G p => putA G p.1 (a + 1, p.2)) F) (((conL s L).foldl (addN s a) []).map (·.1))
def measG (n : Nat) (F : List (List Int × (Int × Int))) (L : List (List Int)) : Nat := 2 * (3 ^ n - F.length) + (if L = [] then 0 else 1)
theorem meas_step {s : List Int} {a : Int} {L : List (List Int)} {F : List (List Int × (Int × Int))} (V : LevL s a L) (W : FndL s a F) (h0 : 0 ≤ a) (s3 : pegs3 s) (ne : L ≠ []) :
    measG s.length (((conL s L).foldl (addN s a) []).foldl (fun G p => putA G p.1 (a + 1, p.2)) F) (((conL s L).foldl (addN s a) []).map (·.1)) < measG s.length F L := by
  have V1 := (lev_next V h0 s3).1
  have W1 := fnd_next V W h0 s3
  have le := fnd_le W1
  rw [fold_new V1.nd (lev_new V W h0 s3)] at le ⊢
  rw [List.length_append, List.length_map] at le
  unfold measG
  rw [List.length_append, List.length_map, if_neg ne]
  generalize (conL s L).foldl (addN s a) [] = N at le
  cases N with
  | nil =>
    show 2 * (3 ^ s.length - (F.length + 0)) + 0 < _
    omega
  | cons p N =>
    rw [if_neg (by simp)]
    rw [List.length_cons] at le ⊢
    omega
theorem goG_ok {s : List Int} (s3 : pegs3 s) : ∀ (m : Nat) {a : Int} {F : List (List Int × (Int × Int))} {L : List (List Int)}, LevL s a L → FndL s a F → 0 ≤ a → measG s.length F L < m → ∃ b, 0 ≤ b ∧ LevL s b [] ∧ FndL s b (goG s m a F L)
  | 0, _, _, _, _, _, _, h => by cases h
  | m + 1, a, F, L, V, W, h0, h => by
    rw [goG]
    by_cases e : L = []
    · subst e
      rw [if_pos rfl]
      exact ⟨a, h0, V, W⟩
    · rw [if_neg e]
      have st := meas_step V W h0 s3 e
      exact goG_ok s3 m (lev_next V h0 s3).1 (fnd_next V W h0 s3) (by omega) (by omega)
/-- all that is found, going out from s -/
def goneF (s : List Int) : List (List Int × (Int × Int)) := goG s (2 * 3 ^ s.length + 2) 0 [(s, (0, 1))] [s]
theorem gone_ok {s : List Int} (s3 : pegs3 s) (sl : s.length ≤ 60) : ∃ b, 0 ≤ b ∧ LevL s b [] ∧ FndL s b (goneF s) := by
  refine goG_ok s3 _ (lev_zero s3 sl) (fnd_zero s3 sl) (Int.le_refl 0) ?_
  unfold measG
  rw [if_neg (by simp)]
  omega
end Peg
/-! # The law of going out -/
namespace Peg
open PySem PySem.Spec PyProof.Rows L2 DX
abbrev sGone : Stmt := top 28
def RLSetP : List D → Out → Prop := fun ds o => ∃ (number : Int) (discs : Nat), ds = [.int number, .int (discs : Int)] ∧ discs ≤ 60 ∧ o = .ret (.v (tP (ls2 number discs)))
def RBehindP : List D → Out → Prop := fun ds o => ∃ (xs : List Int) (n : Nat) (p : Int), ds = [tI xs, .tup [.int n, .int p]] ∧ n < xs.length ∧ xs.length ≤ 1000 ∧ o = .ret (.v (tP (xs.set n p)))
theorem catI1 {X : Cx} {xs ys : List Int} (hy : ys ≠ []) (h : xs.length + ys.length ≤ 100000) : BinD X .Add (tI xs) (tP ys) (.v (tP (xs ++ ys))) := by
  have z := bd_catP1 (X := X) (xs := xs.map D.int) (ys := ys.map D.int) (fun e => hy (List.map_eq_nil_iff.mp e)) (by rw [List.length_map, List.length_map]; exact h)
  rw [← List.map_append] at z
  exact z
theorem catI2 {X : Cx} {xs ys : List Int} (hx : xs ≠ []) (h : xs.length + ys.length ≤ 100000) : BinD X .Add (tP xs) (tI ys) (.v (tP (xs ++ ys))) := by
  have z := bd_catP2 (X := X) (xs := xs.map D.int) (ys := ys.map D.int) (fun e => hx (List.map_eq_nil_iff.mp e)) (by rw [List.length_map, List.length_map]; exact h)
  rw [← List.map_append] at z
  exact z
/-- (t,) * k, as a plain tuple -/
theorem mul_repP {k : Nat} {t : Int} {X : Cx} (h : (k : Int) ≤ 1000) : BinD X .Mult (tP [t]) (.int (k : Int)) (.v (tP (List.replicate k t))) := by
  have z := bd_repP (X := X) (xs := [D.int t]) (k := (k : Int)) (by simp) (by omega) h (by show 1 ≤ 1000; decide)
  have e : (List.replicate (k : Int).toNat [D.int t]).flatten = (List.replicate k t).map D.int := by
    rw [Int.toNat_natCast]
    induction k with
    | zero => rfl
    | succ k ih =>
      have ih' := ih (by omega) (bd_repP (X := X) (xs := [D.int t]) (k := (k : Int)) (by simp) (by omega) (by omega) (by show 1 ≤ 1000; decide))
      rw [List.replicate_succ, List.flatten_cons, ih', List.replicate_succ, List.map_cons]
      rfl
  rw [e] at z
  exact z
section
variable {P : Program} {w : World} {K : PySem.W.Frag} {mg : Str → Option Value} {base : Heap} {T : List Addr} {CS CU CP : Addr}
theorem kn_lsetP {f : Addr} {fd : FuncData} (F : Fun K "_law_setting" "_law_setting" sLSet f fd) (Z : Txt K mg) (Z3 : Txt3 K mg) (hm : mg "_law_setting" = some (.ref f)) (hb : Binds K fd ["_law_number", "_law_discs"] []) : Kn P w K mg base T 1 "_law_setting" RLSetP := by
  refine kn_mk F scLSet hm hb (fun ds o h => ?_) (fun cdv A outer s B H E ds o hr h xw => ?_)
  · obtain ⟨n, k, rfl, _⟩ := h
    rfl
  · obtain ⟨n, k, rfl, hk, rfl⟩ := h
    show PXs _ T B H [.v (.int n), .v (.int (k : Int)), .no, .no, .no, .no, .no, .no] _ _
    refine px_cons1 (px_setO (i := 2) (pd_lst pas_nil) rfl scLSet.nd) ?_
    refine px_cons1 (px_set (i := 3) (pd_bin (pd_var (i := 0) rfl) pd_int (bd_fdiv ⟨by decide, by decide⟩)) rfl scLSet.nd) ?_
    -- the figures
    refine px_cons (N := fun z => ∃ c, z = [Sl.v (.int n), .v (.int (k : Int)), .own ((digs (n / 18) k).map D.int), .v (.int (rests (n / 18) k)), c, .no, .no, .no]) (px_range (n := (k : Int)) (i := 4) (fun m z => ∃ c, z = [Sl.v (.int n), .v (.int (k : Int)), .own ((digs (n / 18) m).map D.int), .v (.int (rests (n / 18) m)), c, .no, .no, .no]) (pd_var (i := 1) rfl) (by omega) (by omega) Z3.range ⟨.no, rfl⟩ ?_ ?_ PassesOwn.leaving scLSet.nd) ?_
    · rintro m ρ1 hm' ⟨c, rfl⟩
      refine px_cons1 (px_append (i := 2) rfl (pe_bm PySem.F.plainAttrs_list PySem.F.slot_list_append PySem.F.type_list_append mt_append (pv 2) (pa_cons (pd_bin (pd_var (i := 3) rfl) pd_int (bd_mod (by decide))) pa_nil)) ?_ rfl) ?_
      · rw [List.length_map, digs_len]
        omega
      · refine px_one (px_set (i := 3) (pd_bin (pd_var (i := 3) rfl) pd_int (bd_fdiv ⟨by decide, by decide⟩)) ⟨.v (.int (m : Int)), ?_⟩ scLSet.nd)
        rw [digs_snoc, rests_succ, List.map_append]
        rfl
    · rintro ρ1 ⟨c, rfl⟩
      exact ⟨c, by rw [Int.toNat_natCast]⟩
    · rintro ρ1 ⟨c, rfl⟩
      refine px_cons1 (px_set (i := 5) (pd_bin (pd_bin (pd_var (i := 0) rfl) pd_int (bd_fdiv ⟨by decide, by decide⟩)) pd_int (bd_mod (by decide))) rfl scLSet.nd) ?_
      refine px_cons1 (ρ1 := [.v (.int n), .v (.int (k : Int)), .own ((ls0 n k).map D.int), .v (.int (rests (n / 18) k)), c, .v (.int (n / 6 % 3)), .no, .no]) (px_if (pb_cmp (pd_tmp (pd_bin (pd_var (i := 0) rfl) pd_int (bd_mod (by decide)))) (pd_tmp pd_int) cd_eqI) (fun h => ?_) fun h => ?_) ?_
      · have h' : n % 6 = 0 := of_decide_eq_true h
        refine px_one (px_setO (i := 2) (pd_rep (pd_lst (pas_cons (pd_var (i := 5) rfl) pas_nil)) (pd_var (i := 1) rfl) (by omega) (by omega) ?_) ?_ scLSet.nd)
        · show 1 * _ ≤ _
          omega
        · unfold ls0
          rw [if_pos h', Int.toNat_natCast, rep_int]
          rfl
      · have h' : ¬ n % 6 = 0 := of_decide_eq_false h
        refine px_nil ?_
        unfold ls0
        rw [if_neg h']
        rfl
      · refine px_cons (N := fun z => ∃ s6, z = [.v (.int n), .v (.int (k : Int)), .own ((ls1 n k).map D.int), .v (.int (rests (n / 18) k)), c, .v (.int (n / 6 % 3)), s6, .no]) (px_if (pb_bool (pwb_and (pb_cmp (pd_tmp (pd_bin (pd_var (i := 0) rfl) pd_int (bd_mod (by decide)))) (pd_tmp pd_int) cd_eqI) fun _ => pwb_and1 (pb_cmp (pd_tmp (pd_var (i := 1) rfl)) (pd_tmp pd_int) cd_gt))) (fun h => ?_) fun h => ?_) ?_
        · rw [Bool.and_eq_true, decide_eq_true_eq, decide_eq_true_eq] at h
          obtain ⟨h1, h2⟩ := h
          have z1 : 0 ≤ n / 18 % (k : Int) := Int.emod_nonneg _ (by omega)
          have z2 : n / 18 % (k : Int) < k := Int.emod_lt_of_pos _ h2
          obtain ⟨a, ha⟩ : ∃ a : Nat, n / 18 % (k : Int) = a := ⟨_, (Int.toNat_of_nonneg z1).symm⟩
          have alt : a < k := by omega
          have al : a < (ls0 n k).length := by
            rw [ls0_len]
            exact alt
          refine px_cons1 (px_set (i := 6) (d := .int (a : Int)) (pd_eq (pd_bin (pd_bin (pd_var (i := 0) rfl) pd_int (bd_fdiv ⟨by decide, by decide⟩)) (pd_var (i := 1) rfl) (bd_mod h2)) (by rw [ha])) rfl scLSet.nd) ?_
          refine px_one (px_setO (i := 2) (pd_bin (pd_frz (pd_bin (pd_frz (pd_rep (pd_lst (pas_cons (pd_var (i := 5) rfl) pas_nil)) (pd_var (i := 6) rfl) (by omega) (by omega) ?_)) (pd_frz (pd_lst (pas_cons (pd_ixO (j := 2) rfl (pd_var (i := 6) rfl) (at_map D.int al)) pas_nil))) (bd_catL ?_))) (pd_frz (pd_rep (pd_lst (pas_cons (pd_var (i := 5) rfl) pas_nil)) (pd_bin (pd_bin (pd_var (i := 1) rfl) (pd_var (i := 6) rfl) bd_sub) pd_int bd_sub) (by omega) (by omega) ?_)) (bd_catL ?_)) ⟨.v (.int (a : Int)), ?_⟩ scLSet.nd)
          · show 1 * _ ≤ _
            omega
          · rw [Int.toNat_natCast, rep_int, List.length_map, List.length_replicate]
            show a + 1 ≤ _
            omega
          · show 1 * _ ≤ _
            omega
          · rw [Int.toNat_natCast, rep_int, rep_int, List.length_append, List.length_map, List.length_map, List.length_replicate, List.length_replicate]
            show a + 1 + _ ≤ _
            omega
          · unfold ls1
            rw [if_pos ⟨h1, by omega⟩]
            have e2 : ((k : Int) - (a : Int) - 1).toNat = k - a - 1 := by omega
            have e3 : (n / 18 % (k : Int)).toNat = a := by omega
            rw [Int.toNat_natCast, rep_int, rep_int, e2]
            simp only [e3]
            rw [List.map_append, List.map_append, List.getD_eq_getElem?_getD, List.getElem?_eq_getElem al]
            rfl
        · refine px_nil ⟨.no, ?_⟩
          unfold ls1
          rw [if_neg]
          intro ⟨h1, h2⟩
          rw [decide_eq_true h1, Bool.true_and, decide_eq_false_iff_not] at h
          omega
        · rintro ρ1 ⟨s6, rfl⟩
          refine px_cons (N := fun z => ∃ s7, z = [.v (.int n), .v (.int (k : Int)), .own ((ls2 n k).map D.int), .v (.int (rests (n / 18) k)), c, .v (.int (n / 6 % 3)), s6, s7]) (px_if (pb_cmp (pd_tmp (pd_bin (pd_var (i := 0) rfl) pd_int (bd_mod (by decide)))) (pd_tmp pd_int) cd_eqI) (fun h => ?_) fun h => ?_) ?_
          · have h' : n % 6 = 2 := of_decide_eq_true h
            have z1 : 0 ≤ n / 18 % ((k : Int) + 1) := Int.emod_nonneg _ (by omega)
            have z2 : n / 18 % ((k : Int) + 1) < (k : Int) + 1 := Int.emod_lt_of_pos _ (by omega)
            obtain ⟨a, ha⟩ : ∃ a : Nat, n / 18 % ((k : Int) + 1) = a := ⟨_, (Int.toNat_of_nonneg z1).symm⟩
            refine px_cons1 (px_set (i := 7) (d := .int (a : Int)) (pd_eq (pd_bin (pd_bin (pd_var (i := 0) rfl) pd_int (bd_fdiv ⟨by decide, by decide⟩)) (pd_bin (pd_var (i := 1) rfl) pd_int bd_add) (bd_mod (by omega))) (by rw [ha])) rfl scLSet.nd) ?_
            refine px_frz (i := 2) rfl ?_
            refine px_one (px_setO (i := 2) (pd_bin (pd_frz (pd_rep (pd_lst (pas_cons (pd_var (i := 5) rfl) pas_nil)) (pd_var (i := 7) rfl) (by omega) (by omega) ?_)) (pd_frz (pd_slL (pd_var (i := 2) rfl) (pp_some (pd_var (i := 7) rfl)) pp_none)) (bd_catL ?_)) ⟨.v (.int (a : Int)), ?_⟩ scLSet.nd)
            · show 1 * _ ≤ _
              omega
            · rw [Int.toNat_natCast, rep_int, cut_from, List.length_map, List.length_replicate, List.length_drop, List.length_map, ls1_len]
              omega
            · unfold ls2
              rw [if_pos h']
              have e3 : (n / 18 % ((k : Int) + 1)).toNat = a := by omega
              simp only [e3]
              rw [Int.toNat_natCast, rep_int, cut_from, List.map_append, List.map_drop]
              rfl
          · have h' : ¬ n % 6 = 2 := of_decide_eq_false h
            refine px_nil ⟨.no, ?_⟩
            unfold ls2
            rw [if_neg h']
          · rintro ρ1 ⟨s7, rfl⟩
            refine px_frz (i := 2) rfl ?_
            exact px_one (px_ret (pd_bty (cl_tupleP rfl) Z.tuple (pas_cons (pd_var (i := 2) rfl) pas_nil)) rfl)
theorem kn_lbehindP {f : Addr} {fd : FuncData} (F : Fun K "_law_behind" "_law_behind" sLBehind f fd) (hm : mg "_law_behind" = some (.ref f)) (hb : Binds K fd ["_law_setting_here", "_law_move"] []) : Kn P w K mg base T 1 "_law_behind" RBehindP := by
  refine kn_mk F scLBehind hm hb (fun ds o h => ?_) (fun cdv A outer s B H E ds o hr h xw => ?_)
  · obtain ⟨xs, n, p, rfl, _⟩ := h
    rfl
  · obtain ⟨xs, n, p, rfl, hn, hl, rfl⟩ := h
    show PXs _ T B H [.v (tI xs), .v (.tup [.int n, .int p])] _ _
    refine px_one (px_ret (pd_bin (pd_bin (slTI (pd_var (i := 0) rfl) pp_none (pp_some (pd_ix (i := 0) (pd_var (i := 1) rfl) pd_int rfl rfl))) (pd_tupP (pas_cons (pd_ix (i := 1) (pd_var (i := 1) rfl) pd_int rfl rfl) pas_nil)) (catI1 (ys := [p]) (by simp) ?_)) (slTI (pd_var (i := 0) rfl) (pp_some (pd_bin (pd_ix (i := 0) (pd_var (i := 1) rfl) pd_int rfl rfl) pd_int bd_add)) pp_none) (catI2 (by simp) ?_)) ?_)
    · rw [cut_to, List.length_take]
      show _ + 1 ≤ _
      omega
    · have e : (n : Int) + 1 = ((n + 1 : Nat) : Int) := rfl
      rw [e, cut_to, cut_from]
      simp
      omega
    · have e : (n : Int) + 1 = ((n + 1 : Nat) : Int) := rfl
      rw [e, cut_to, cut_from, set_eq _ _ _ hn]
      rfl
end
end Peg
/-! # Going out, as a promise -/
namespace Peg
open PySem PySem.Spec PyProof.Rows L2 DX
theorem keys_le {n : Nat} {ks : List (List Int)} (nd : ks.Nodup) (h : ∀ z ∈ ks, pegs3 z ∧ z.length = n) : ks.length ≤ 3 ^ n := by
  have pm : ks.Perm ((allS n).filter fun z => decide (z ∈ ks)) := by
    refine (List.perm_ext_iff_of_nodup nd ((allS_nodup _).filter _)).mpr fun z => ?_
    rw [List.mem_filter, mem_allS, decide_eq_true_eq]
    exact ⟨fun q => ⟨h z q, q⟩, fun q => q.2⟩
  have l := pm.length_eq
  have le := List.length_filter_le (fun z => decide (z ∈ ks)) (allS n)
  rw [allS_len] at le
  omega
theorem acc_in {s : List Int} {a : Int} {z : List Int} : ∀ {C F : List (List Int × Int)}, z ∈ (C.foldl (addN s a) F).map (·.1) → z ∈ F.map (·.1) ∨ z ∈ C.map (·.1)
  | [], _, h => .inl h
  | c :: C, F, h => by
    rw [List.foldl_cons] at h
    rcases acc_in h with q | q
    · unfold addN at q
      split at q
      · exact .inl q
      · rw [put_keys] at q
        split at q
        · exact .inl q
        · rcases List.mem_append.mp q with w | w
          · exact .inl w
          · exact .inr (by rw [List.map_cons, List.mem_singleton.mp w]; exact List.mem_cons_self)
    · exact .inr (by rw [List.map_cons]; exact List.mem_cons_of_mem _ q)
theorem con_ok {s : List Int} {a : Int} {L : List (List Int)} (V : LevL s a L) {z : List Int} (h : z ∈ (conL s L).map (·.1)) : pegs3 z ∧ z.length = s.length := by
  obtain ⟨y, hy, hz⟩ := con_keys.mp h
  have t := ((V.mem y).mp hy).1
  obtain ⟨p, l⟩ := nb_3 t.y3 hz
  exact ⟨p, by rw [l, t.l]⟩
/-- the moves of one setting, so far gone through -/
def addG (s : List Int) (a : Int) (L : List (List Int)) (j i : Nat) : List (List Int × Int) := ((conS s (L.getD j [])).take i).foldl (addN s a) ((conL s (L.take j)).foldl (addN s a) [])
theorem addG_eq (s : List Int) (a : Int) (L : List (List Int)) (j i : Nat) : addG s a L j i = (conL s (L.take j) ++ (conS s (L.getD j [])).take i).foldl (addN s a) [] := by
  unfold addG
  rw [List.foldl_append]
theorem conL_step {s : List Int} {L : List (List Int)} {j : Nat} {h : List Int} (e : L[j]? = some h) : conL s (L.take (j + 1)) = conL s (L.take j) ++ conS s h := by
  unfold conL
  rw [List.take_add_one, e, List.flatMap_append]
  show _ ++ (conS s h ++ []) = _
  rw [List.append_nil]
theorem addG_le {s : List Int} {a : Int} {L : List (List Int)} (V : LevL s a L) (j i : Nat) (hs : s.length ≤ 4) : (addG s a L j i).length ≤ 81 := by
  have nd : ((addG s a L j i).map (·.1)).Nodup := by
    rw [addG_eq]
    exact acc_nodup .nil
  have k := keys_le (n := s.length) nd fun z hz => by
    rw [addG_eq] at hz
    rcases acc_in hz with q | q
    · cases q
    · rw [List.map_append, List.mem_append] at q
      refine con_ok V ?_
      rcases q with q | q
      · obtain ⟨y, hy, hz⟩ := con_keys.mp q
        exact con_keys.mpr ⟨y, List.mem_of_mem_take hy, hz⟩
      · cases e : L[j]? with
        | none =>
          rw [List.getD_eq_getElem?_getD, e] at q
          exfalso
          obtain ⟨c, hc, _⟩ := List.mem_map.mp q
          have hc2 := List.mem_of_mem_take hc
          obtain ⟨y, hy, _⟩ := List.mem_map.mp hc2
          cases hy
        | some h =>
          rw [List.getD_eq_getElem?_getD, e] at q
          obtain ⟨c, hc, rfl⟩ := List.mem_map.mp q
          have hc2 : c ∈ conS s h := List.mem_of_mem_take hc
          obtain ⟨y, hy, rfl⟩ := List.mem_map.mp hc2
          exact con_keys.mpr ⟨h, List.mem_of_getElem? e, hy⟩
  rw [List.length_map] at k
  have e : 3 ^ s.length ≤ 3 ^ 4 := Nat.pow_le_pow_right (by decide) hs
  have e2 : 3 ^ 4 = 81 := by decide
  omega
theorem tPs_tIs {K : PySem.W.Frag} {H : Hp} : ∀ {L : List (List Int)} {vs : List V}, RA K H vs (L.map tP) → RA K H vs (L.map tI)
  | [], _, .nil => .nil
  | _ :: _, _, .cons r t => .cons (by
    cases r with
    | ptup a b => exact .tup (.inl (.inl a)) b) (tPs_tIs t)
theorem ne_lev (L : List (List Int)) : (!eqD (.lst (L.map tI)) (.lst [])) = decide (L ≠ []) := by
  cases L with
  | nil => rfl
  | cons x L => rfl
theorem getN (G : List (List Int × Int)) (z : List Int) : (getA (mapA dN G) z).getD (.int 0) = .int ((getA G z).getD 0) := by
  rw [mapA_get]
  cases getA G z <;> rfl
theorem safe_tP {K : PySem.W.Frag} {q : Addr} (xs : List Int) : SafeL K q (tP xs) := safel_ptup fun d hd => by
  obtain ⟨i, _, rfl⟩ := List.mem_map.mp hd
  exact safel_scal rfl
theorem safe_dF {K : PySem.W.Frag} {q : Addr} (v : Int × Int) : SafeL K q (dF v) := safel_tup fun d hd => by
  rcases List.mem_cons.mp hd with rfl | hd
  · exact safel_scal rfl
  · rw [List.mem_singleton.mp hd]
    exact safel_scal rfl
def goneI (xs : List Int) : Nat → Rho → Prop := fun m z => ∃ (a : Int) (F : List (List Int × (Int × Int))) (L : List (List Int)) (s4 s5 s6 s7 : Sl), 0 ≤ a ∧ LevL xs a L ∧ FndL xs a F ∧ measG xs.length F L < m ∧ goG xs m a F L = goneF xs ∧
  z = [.v (tP xs), .dic (mapA dF F), .own (L.map tP), .v (.int a), s4, s5, s6, s7]
def goneK : Rho → Bool
  | [_, _, .own [], _, _, _, _, _] => false
  | _ => true
theorem goneK_eq {s0 s1 s3 s4 s5 s6 s7 : Sl} (L : List (List Int)) : goneK [s0, s1, .own (L.map tP), s3, s4, s5, s6, s7] = decide (L ≠ []) := by
  cases L <;> rfl
def RGone : List D → Out → Prop := fun ds o => ∃ xs : List Int, ds = [tP xs] ∧ pegs3 xs ∧ xs.length ≤ 4 ∧ o = .ret (.dic (mapA dF (goneF xs)))
section
variable {P : Program} {w : World} {K : PySem.W.Frag} {mg : Str → Option Value} {base : Heap} {T : List Addr} {CS CU CP : Addr}
abbrev nGone : List Str := ["_law_setting_here", "_law_found", "_law_level", "_law_away", "_law_fresh", "_law_here", "_law_move", "_law_there"]
theorem scGone : FnScope nGone ["_law_setting_here"] (defScope sGone) := ⟨rfl, rfl, rfl, by decide +kernel, rfl, by decide +kernel, by decide +kernel⟩
theorem kn_gone {f : Addr} {fd : FuncData} (F : Fun K "_law_gone_out" "_law_gone_out" sGone f fd) (Z4 : Txt4 K mg) (hm : mg "_law_gone_out" = some (.ref f)) (hb : Binds K fd ["_law_setting_here"] []) (cMay : Kn P w K mg base T 1 "_law_may" RLMay) (cBeh : Kn P w K mg base T 1 "_law_behind" RBehindP) : Kn P w K mg base T 2 "_law_gone_out" RGone := by
  refine kn_mk F scGone hm hb (fun ds o h => ?_) (fun cdv A outer s B H E ds o hr h xw => ?_)
  · obtain ⟨xs, rfl, _⟩ := h
    rfl
  · obtain ⟨xs, rfl, x3, x4, rfl⟩ := h
    have hu4 : (A.deeper (envOfC "_law_gone_out" (defScope sGone) s.heap.objs.size f cdv)).units + 64 < cLine := hu64 hr
    have hu1 : (A.deeper (envOfC "_law_gone_out" (defScope sGone) s.heap.objs.size f cdv)).units + 1 < cLine := by omega
    have xl : xs.length ≤ 60 := by omega
    show PXs _ T B H [.v (tP xs), .no, .no, .no, .no, .no, .no, .no] _ _
    refine px_cons1 (px_setD (i := 1) (pd_disp1 hu1 (pd_var (i := 0) rfl) (pd_tup (pas_cons pd_int (pas_cons pd_int pas_nil)))) rfl scGone.nd) ?_
    refine px_cons1 (px_setO (i := 2) (pd_lst (pas_cons (pd_var (i := 0) rfl) pas_nil)) rfl scGone.nd) ?_
    refine px_cons1 (px_set (i := 3) pd_int rfl scGone.nd) ?_
    refine px_cons (N := fun z => ∃ s2 s3 s4 s5 s6 s7, z = [.v (tP xs), .dic (mapA dF (goneF xs)), s2, s3, s4, s5, s6, s7]) (px_while (goneI xs) (fun _ z => goneK z) ?_ ⟨2 * 3 ^ xs.length + 2, 0, [(xs, (0, 1))], [xs], .no, .no, .no, .no, Int.le_refl 0, lev_zero x3 xl, fnd_zero x3 xl, ?_, rfl, rfl⟩ ?_ ?_ PassesOwn.leaving) ?_
    · -- the test
      rintro m ρ1 ⟨a, F, L, s4, s5, s6, s7, h0, V, W, hm1, hg, rfl⟩
      rw [goneK_eq]
      refine pb_eq (pb_cmp (pd_tmpW (es := L.map tI) (pd_own (i := 2) rfl) fun H' vs r => tPs_tIs r) (pd_tmp (pd_frz (pd_lst pas_nil))) (cd_neD (n := 2) hu4 ?_ rfl)) (ne_lev L)
      show (L.map tI).all (sh 1) = true
      rw [List.all_map, List.all_eq_true]
      intro x _
      exact sh_tI x
    · unfold measG
      rw [if_neg (by simp)]
      omega
    · -- a turn
      rintro m ρ1 ⟨a, F, L, s4, s5, s6, s7, h0, V, W, hm1, hg, rfl⟩ hk
      rw [goneK_eq] at hk
      have ne : L ≠ [] := of_decide_eq_true hk
      have e3 : 3 ^ xs.length ≤ 3 ^ 4 := Nat.pow_le_pow_right (by decide) x4
      have e81 : 3 ^ 4 = 81 := by decide
      have Ll : L.length ≤ 81 := by
        have k := keys_le (n := xs.length) V.nd fun z hz => by
          have t := ((V.mem z).mp hz).1
          exact ⟨t.y3, t.l.symm⟩
        omega
      refine px_cons1 (px_set (i := 3) (pd_bin (pd_var (i := 3) rfl) pd_int bd_add) rfl scGone.nd) ?_
      refine px_cons1 (px_setD (i := 4) pd_dnew rfl scGone.nd) ?_
      refine px_frz (i := 2) rfl ?_
      refine px_cons (N := fun z => ∃ s5 s6 s7, z = [.v (tP xs), .dic (mapA dF F), .v (.lst (L.map tP)), .v (.int (a + 1)), .dic (mapA dN ((conL xs L).foldl (addN xs a) [])), s5, s6, s7])
        (px_forI (f := fName 5) (vs := [5]) (ds := L.map tP) (fun j z => ∃ s5 s6 s7, z = [.v (tP xs), .dic (mapA dF F), .v (.lst (L.map tP)), .v (.int (a + 1)), .dic (mapA dN ((conL xs (L.take j)).foldl (addN xs a) [])), s5, s6, s7])
          (pib_list (pd_var (i := 2) rfl) (.inl rfl)) (pgd_name (by decide) scGone.nd rfl (Or.inl rfl) (Or.inr rfl)) ⟨_, _, _, rfl⟩ (fun n d ρ' _ _ => ⟨_, rfl⟩) ?_ ?_ PassesOwn.leaving) ?_
      · rintro j d ρ1 ρ2 hd ⟨s5, s6, s7, rfl⟩ rfl
        rw [List.getElem?_map] at hd
        obtain ⟨h, hj, rfl⟩ := Option.map_eq_some_iff.mp hd
        have th := ((V.mem h).mp (List.mem_of_getElem? hj)).1
        have fh := ((V.mem h).mp (List.mem_of_getElem? hj)).2
        have hl : h.length ≤ 60 := by rw [← th.l]; exact xl
        have eG0 : (conL xs (L.take j)).foldl (addN xs a) [] = addG xs a L j 0 := by
          unfold addG
          rw [List.take_zero]
          rfl
        have eL : L.getD j [] = h := by rw [List.getD_eq_getElem?_getD, hj]; rfl
        have cl : (conS xs h).length = (mvTo h h.length).length := by
          unfold conS nbS
          rw [List.length_map, List.length_map]
        have eG1 : (conL xs (L.take (j + 1))).foldl (addN xs a) [] = addG xs a L j (mvTo h h.length).length := by
          rw [conL_step hj, List.foldl_append]
          unfold addG
          rw [eL, ← cl, List.take_length]
        rw [eG0]
        show PXs _ T B H [.v (tP xs), .dic (mapA dF F), .v (.lst (L.map tP)), .v (.int (a + 1)), .dic (mapA dN (addG xs a L j 0)), .v (tP h), s6, s7] _ _
        have may : RLMay [tI h] (.ret (.own (prs (mvTo h h.length)))) := ⟨h, _, rfl, hl, may_inB th.y3 hl, may_perm th.y3, mv_sorted h _, rfl⟩
        refine px_one (px_forI (f := fName 6) (vs := [6]) (ds := prs (mvTo h h.length)) (fun i z => ∃ s6 s7, z = [.v (tP xs), .dic (mapA dF F), .v (.lst (L.map tP)), .v (.int (a + 1)), .dic (mapA dN (addG xs a L j i)), .v (tP h), s6, s7])
          (pib_list (pd_frz (pd_call cMay hr (pas_cons (pd_pt (pd_var (i := 5) rfl)) pas_nil) may)) (.inl rfl)) (pgd_name (by decide) scGone.nd rfl (Or.inl rfl) (Or.inr rfl)) ⟨_, _, rfl⟩ (fun n d ρ' _ _ => ⟨_, rfl⟩) ?_ ?_ PassesOwn.leaving)
        · rintro i d ρ1 ρ2 hd ⟨s6, s7, rfl⟩ rfl
          unfold prs at hd
          rw [List.getElem?_map] at hd
          obtain ⟨q, hq, rfl⟩ := Option.map_eq_some_iff.mp hd
          have hqm : q ∈ mvTo h h.length := List.mem_of_getElem? hq
          obtain ⟨n, hn, eq, p2, _⟩ := mv_of th.y3 hqm
          have e1 : q.1 = (n : Int) := congrArg Prod.fst eq
          have ebq : h.set n q.2 = bq h q := by
            unfold bq
            rw [e1, Int.toNat_natCast]
          have hz : bq h q ∈ nbS h := List.mem_map.mpr ⟨q, hqm, rfl⟩
          obtain ⟨z3, zl⟩ := nb_3 th.y3 hz
          have tz : Two xs (bq h q) := ⟨x3, z3, by rw [zl, th.l], xl⟩
          have ci : (conS xs h)[i]? = some (bq h q, ((many xs h : Nat) : Int)) := by
            unfold conS nbS
            rw [List.getElem?_map, List.getElem?_map, hq]
            rfl
          have step : addG xs a L j (i + 1) = addN xs a (addG xs a L j i) (bq h q, ((many xs h : Nat) : Int)) := by
            unfold addG
            rw [eL, List.take_add_one, ci, List.foldl_append]
            rfl
          rw [e1, step]
          generalize hG : addG xs a L j i = G
          have gl : G.length ≤ 81 := hG ▸ addG_le V j i x4
          have gnd : (G.map (·.1)).Nodup := by
            rw [← hG, addG_eq]
            exact acc_nodup .nil
          have gF : getA F h = some (farr xs h, ((many xs h : Nat) : Int)) := (W.get h _).mpr ⟨th, by omega, rfl⟩
          show PXs _ T B H [.v (tP xs), .dic (mapA dF F), .v (.lst (L.map tP)), .v (.int (a + 1)), .dic (mapA dN G), .v (tP h), .v (.tup [.int (n : Int), .int q.2]), s7] _ _
          refine px_cons1 (px_set (i := 7) (d := tP (bq h q)) (pd_call cBeh hr (pas_cons (pd_pt (pd_var (i := 5) rfl)) (pas_cons (pd_var (i := 6) rfl) pas_nil)) ⟨h, n, q.2, rfl, hn, by omega, by rw [ebq]⟩) rfl scGone.nd) ?_
          show PXs _ T B H [.v (tP xs), .dic (mapA dF F), .v (.lst (L.map tP)), .v (.int (a + 1)), .dic (mapA dN G), .v (tP h), .v (.tup [.int (n : Int), .int q.2]), .v (tP (bq h q))] _ _
          refine px_one (px_if (k := !decide (farr xs (bq h q) ≤ a)) (pb_eq (pb_dnotin (i := 1) hu1 (pd_var (i := 7) rfl) rfl) ?_) (fun c => ?_) fun c => ?_)
          · rw [mapA_get, Option.isSome_map, fnd_in W tz]
          · have c' : ¬ farr xs (bq h q) ≤ a := by
              intro z
              rw [decide_eq_true z] at c
              cases c
            refine px_one (px_dput (i := 4) (dv := dN ((getA G (bq h q)).getD 0 + ((many xs h : Nat) : Int))) hu1 rfl (pd_bin (pd_eq (pd_dget2 (i := 4) hu1 rfl (pd_var (i := 7) rfl) pd_int ⟨rfl, rfl, rfl, rfl⟩) (by rw [getN])) (pd_ix (i := 1) (d := .int ((many xs h : Nat) : Int)) (pd_dget (i := 1) (d := dF (farr xs h, ((many xs h : Nat) : Int))) hu1 rfl (pd_var (i := 5) rfl) (by rw [mapA_get, gF]; rfl) (fun _ _ => rfl)) pd_int rfl rfl) bd_add) (pd_var (i := 7) rfl) (by rw [mapA_keys]; exact gnd) (by rw [mapA, List.length_map]; omega) ⟨.v (.tup [.int (n : Int), .int q.2]), .v (tP (bq h q)), ?_⟩)
            rw [mapA_put]
            unfold addN
            rw [if_neg c']
            rfl
          · have c' : farr xs (bq h q) ≤ a := by
              apply Classical.byContradiction
              intro z
              rw [decide_eq_false z] at c
              cases c
            refine px_nil ⟨.v (.tup [.int (n : Int), .int q.2]), .v (tP (bq h q)), ?_⟩
            unfold addN
            rw [if_pos c']
        · rintro ρ1 ⟨s6, s7, rfl⟩
          refine ⟨.v (tP h), s6, s7, ?_⟩
          rw [prs_len, eG1]
      · rintro ρ1 ⟨s5, s6, s7, rfl⟩
        refine ⟨s5, s6, s7, ?_⟩
        rw [List.length_map, List.take_length]
      · rintro ρ1 ⟨s5, s6, s7, rfl⟩
        obtain ⟨V1, vn⟩ := lev_next V h0 x3
        have W1 := fnd_next V W h0 x3
        have new := lev_new V W h0 x3
        have st := meas_step V W h0 x3 ne
        generalize hN : (conL xs L).foldl (addN xs a) [] = N at V1 vn W1 new st
        have fle := fnd_le W1
        -- what is fresh joins what is found
        refine px_cons (N := fun z => z = [.v (tP xs), .dic (mapA dF (N.foldl (fun G p => putA G p.1 (a + 1, p.2)) F)), .no, .v (.int (a + 1)), .dic (mapA dN N), .no, .no, .no])
          (px_locked (i := 4) rfl fun qd od => px_forI (f := fName 7) (vs := [7]) (ds := (mapA dN N).map fun p => tP p.1) (fun j z => ∃ s7, z = [.v (tP xs), .dic (mapA dF ((N.take j).foldl (fun G p => putA G p.1 (a + 1, p.2)) F)), .v (.lst (L.map tP)), .v (.int (a + 1)), .v (.dcl qd od (mapA dN N)), s5, s6, s7])
            (pib_keys (pd_var (i := 4) rfl)) (pgd_name (by decide) scGone.nd rfl (Or.inl rfl) (Or.inr rfl)) ⟨_, rfl⟩ (fun n d ρ' _ _ => ⟨_, rfl⟩) ?_ ?_ PassesOwn.leaving) ?_
        · rintro j d ρ1 ρ2 hd ⟨s7, rfl⟩ rfl
          unfold mapA at hd
          rw [List.map_map, List.getElem?_map] at hd
          obtain ⟨⟨z, n⟩, hj, rfl⟩ := Option.map_eq_some_iff.mp hd
          have gz : getA N z = some n := (mem_get V1.nd).mp (List.mem_of_getElem? hj)
          have etk : (N.take (j + 1)).foldl (fun G p => putA G p.1 (a + 1, p.2)) F = putA ((N.take j).foldl (fun G p => putA G p.1 (a + 1, p.2)) F) z (a + 1, n) := by
            rw [List.take_add_one, hj, List.foldl_append]
            rfl
          rw [etk]
          generalize hG : (N.take j).foldl (fun G p => putA G p.1 (a + 1, p.2)) F = G
          have gnd : (G.map (·.1)).Nodup := hG ▸ fold_nodup W.nd
          have gl : G.length ≤ 81 := by
            have ndj : ((N.take j).map (·.1)).Nodup := by
              rw [List.map_take]
              exact V1.nd.sublist (List.take_sublist _ _)
            have ej := fold_new (c := a + 1) (F := F) ndj fun y hy => new y (by
              rw [List.map_take] at hy
              exact List.mem_of_mem_take hy)
            have e0 := fold_new (c := a + 1) V1.nd new
            rw [e0, List.length_append, List.length_map] at fle
            have tl : (N.take j).length ≤ N.length := List.length_take_le' _ _
            rw [← hG, ej, List.length_append, List.length_map]
            omega
          show PXs _ T B H [.v (tP xs), .dic (mapA dF G), .v (.lst (L.map tP)), .v (.int (a + 1)), .v (.dcl qd od (mapA dN N)), s5, s6, .v (tP z)] _ _
          refine px_one (px_dput (i := 1) (dv := dF (a + 1, n)) hu1 rfl (pd_tup (pas_cons (pd_var (i := 3) rfl) (pas_cons (pd_dgetL (d := dN n) hu1 (pd_var (i := 4) rfl) (pd_var (i := 7) rfl) (by rw [mapA_get, gz]; rfl) (fun _ _ => rfl)) pas_nil))) (pd_var (i := 7) rfl) (by rw [mapA_keys]; exact gnd) (by rw [mapA, List.length_map]; omega) ⟨.v (tP z), ?_⟩)
          rw [mapA_put]
          rfl
        · rintro ρ1 ⟨s7, rfl⟩
          have el : ((mapA dN N).map fun p => tP p.1).length = N.length := by rw [List.length_map, mapA, List.length_map]
          rw [el, List.take_length]
          refine ⟨rfl, fun p hp => ?_, [.v (tP xs), .dic (mapA dF (N.foldl (fun G p => putA G p.1 (a + 1, p.2)) F)), .no, .v (.int (a + 1)), .dic (mapA dN N), .no, .no, .no], rfl, rfl, fun j s' hj e => ?_, rfl⟩
          · obtain ⟨y, _, rfl⟩ := List.mem_map.mp hp
            exact safel_scal rfl
          · rcases j with _ | _ | _ | _ | _ | _ | _ | _ | j
            · cases e
              exact ⟨_, rfl, .v (safe_tP xs)⟩
            · cases e
              exact ⟨_, rfl, .dic fun p hp => by
                obtain ⟨y, _, rfl⟩ := List.mem_map.mp hp
                exact safe_dF _⟩
            · cases e
              exact ⟨_, rfl, .no⟩
            · cases e
              exact ⟨_, rfl, .v (safel_scal rfl)⟩
            · exact absurd rfl hj
            · cases e
              exact ⟨_, rfl, .no⟩
            · cases e
              exact ⟨_, rfl, .no⟩
            · cases e
              exact ⟨_, rfl, .no⟩
            · cases e
        · rintro ρ1 rfl
          cases m with
          | zero => omega
          | succ m =>
            have ek : ((mapA dN N).map fun p => tP p.1) = (N.map (·.1)).map tP := by
              unfold mapA
              rw [List.map_map, List.map_map]
              rfl
            refine px_one (px_setO (i := 2) (pd_eq (pd_listD (i := 4) rfl Z4.list) (by rw [ek])) ⟨m, Nat.lt_succ_self m, a + 1, N.foldl (fun G p => putA G p.1 (a + 1, p.2)) F, N.map (·.1), _, _, _, _, by omega, V1, W1, by omega, ?_, rfl⟩ scGone.nd)
            rw [goG, if_neg ne, hN] at hg
            exact hg
    · rintro m ρ1 ⟨a, F, L, s4, s5, s6, s7, h0, V, W, hm1, hg, rfl⟩ hk
      rw [goneK_eq] at hk
      have ne : L = [] := by
        apply Classical.byContradiction
        intro z
        rw [decide_eq_true z] at hk
        cases hk
      subst ne
      cases m with
      | zero => omega
      | succ m =>
        have e : F = goneF xs := by
          rw [goG, if_pos rfl] at hg
          exact hg
        rw [e]
        exact ⟨_, _, _, _, _, _, rfl⟩
    · rintro ρ1 ⟨s2, s3, s4, s5, s6, s7, rfl⟩
      exact px_one (px_retD (i := 1) rfl rfl)
end
end Peg
/-! # The law of going out, its end -/
namespace Peg
open PySem PySem.Spec PyProof.Rows L2 DX
theorem tow_farr {xs : List Int} {p : Int} (x3 : pegs3 xs) (hp : Tow.Pg p) : farr xs (List.replicate xs.length p) = tow xs p := by
  rw [farr_sym (by rw [List.length_replicate])]
  unfold farr tow
  have h := Tow.fr_perfect (bs := xs.reverse) (q := p) (pgs_rev x3) hp
  rw [List.length_reverse] at h
  rw [List.reverse_replicate]
  exact h
theorem toward_ok8 {CS CP : Addr} {xs : List Int} {t : Int} (h : pegs3 xs) (hl : xs.length ≤ 60) (ht : Tow.Pg t) : RToward CS CP [tI xs, .int t] (.ret (.v (.int (tow xs t)))) := ⟨_, _, _, rfl, kds_set, .int t, .inr (.inr ⟨xs, t, rfl, rfl, h, hl, isW_pg ht, rfl⟩)⟩
theorem safe_scr {K : PySem.W.Frag} {q : Addr} (ns : List Int) : SafeL K q (scrD ns) := fun B v o hv hq r => by
  cases r with
  | scr s ra =>
    refine .scr ?_ (safel_all (fun d hd => by
      obtain ⟨i, _, rfl⟩ := List.mem_map.mp hd
      exact safel_scal rfl) B _ o hv hq ra)
    rcases s with (s | ⟨o', s⟩) | s
    · exact .inl (.inl (by rw [hole_ne (fun z => by rw [z, hq] at s; cases s)]; exact s))
    · exact .inl (.inr ⟨o', by rw [hole_ne (fun z => by rw [z, hq] at s; cases s)]; exact s⟩)
    · exact .inr s
theorem five (num : Int) : ∃ k : Nat, num % 5 = k ∧ k ≤ 4 := by
  have h1 : 0 ≤ num % 5 := Int.emod_nonneg _ (by decide)
  have h2 : num % 5 < 5 := Int.emod_lt_of_pos _ (by decide)
  exact ⟨(num % 5).toNat, (Int.toNat_of_nonneg h1).symm, by omega⟩
theorem many_at {k : Nat} (h : k ≤ 4) : atI [D.int 1, D.int 3, D.int 9, D.int 27, D.int 81] (k : Int) = some (.int ((3 ^ k : Nat) : Int)) := by
  have c : k = 0 ∨ k = 1 ∨ k = 2 ∨ k = 3 ∨ k = 4 := by omega
  rcases c with rfl | rfl | rfl | rfl | rfl <;> rfl
section
variable {P : Program} {w : World} {K : PySem.W.Frag} {mg : Str → Option Value} {base : Heap} {T : List Addr} {CS CU CP : Addr}
abbrev nLaw : List Str := ["_law_script", "_law_k", "_law_number", "_law_discs", "_law_setting_here", "_law_found", "_law_other", "_law_peg"]
theorem scLaw : FnScope nLaw ["_law_script"] (defScope sLaw) := ⟨rfl, rfl, rfl, by decide +kernel, rfl, by decide +kernel, by decide +kernel⟩
theorem kn_law {f : Addr} {fd : FuncData} (F : Fun K "law" "law" sLaw f fd) (Z : Txt K mg) (Z3 : Txt3 K mg) (Z4 : Txt4 K mg)
    (cCell : Kn P w K mg base T 1 "_law_cell" RCell) (cGreat : Kn P w K mg base T 1 "_law_great" RGreat) (cSet : Kn P w K mg base T 1 "_law_setting" RLSetP) (cGo : Kn P w K mg base T 2 "_law_gone_out" RGone) (cF : Kn P w K mg base T 7 "far" (R2 CS CU farRes)) (cM : Kn P w K mg base T 7 "many_ways" (R2 CS CU manyRes)) (cT : Kn P w K mg base T 5 "toward" (RToward CS CP)) :
    FnOk P w K mg base (L2.CX P w) 8 f fd ["_law_script"] (spD K T RLaw) := by
  refine fn_mk F scLaw (fun ds o h => ?_) (fun cdv A outer s B H E ds o hr h xw => ?_)
  · obtain ⟨ns, rfl, _⟩ := h
    rfl
  · obtain ⟨ns, rfl, hl, rfl⟩ := h
    have hu4 : (A.deeper (envOfC "law" (defScope sLaw) s.heap.objs.size f cdv)).units + 64 < cLine := hu64 hr
    have hu1 : (A.deeper (envOfC "law" (defScope sLaw) s.heap.objs.size f cdv)).units + 1 < cLine := by omega
    show PXs _ T B H [.v (scrD ns), .no, .no, .no, .no, .no, .no, .no] _ _
    refine px_cons (N := Keep [.v (scrD ns)] 8) (px_lawloop (pre := [.v (scrD ns)]) (L := 8) (n := 1 + min 6 (ns.length : Int))
      (pd_bin pd_int (pd_eq (pd_blt (cl_min rfl) Z4.min (pas_cons pd_int (pas_cons (pd_blt (cl_len (ds := ns.map D.int) rfl) Z.len (pas_cons (pd_var (i := 0) rfl) pas_nil)) pas_nil))) (by rw [List.length_map])) bd_add) (by omega) (by omega) Z3.range (by show 1 < 8; decide) ⟨rfl, rfl⟩ ?_ (fun z h => h) PassesOwn.leaving scLaw.nd rfl) ?_
    · intro m hm1
      have hm2 : m ≤ 1000 := by omega
      show PXs _ T B H [.v (scrD ns), .v (.int (m : Int)), .no, .no, .no, .no, .no, .no] _ _
      generalize hnum : lawCell ns m = num
      obtain ⟨k, hk, hk4⟩ := five num
      generalize hx : ls2 (lawGreat ns m) k = xs
      have x3 : pegs3 xs := hx ▸ ls2_3 _ _
      have xl : xs.length = k := hx ▸ ls2_len _ _
      have xl4 : xs.length ≤ 4 := by omega
      have xl60 : xs.length ≤ 60 := by omega
      refine px_cons1 (px_set (i := 2) (d := .int num) (pd_call cCell hr (pas_cons (pd_var (i := 0) rfl) (pas_cons (pd_var (i := 1) rfl) pas_nil)) ⟨ns, m, rfl, hl, hm2, by rw [hnum]⟩) rfl scLaw.nd) ?_
      refine px_cons1 (px_set (i := 3) (d := .int (k : Int)) (pd_eq (pd_bin (pd_var (i := 2) rfl) pd_int (bd_mod (by decide))) (by rw [hk])) rfl scLaw.nd) ?_
      refine px_cons1 (px_set (i := 4) (d := tP xs) (pd_call cSet hr (pas_cons (pd_call cGreat hr (pas_cons (pd_var (i := 0) rfl) (pas_cons (pd_var (i := 1) rfl) pas_nil)) ⟨ns, m, rfl, hl, hm2, rfl⟩) (pas_cons (pd_var (i := 3) rfl) pas_nil)) ⟨_, k, rfl, by omega, by rw [hx]⟩) rfl scLaw.nd) ?_
      refine px_cons1 (px_setD (i := 5) (pd_call cGo hr (pas_cons (pd_var (i := 4) rfl) pas_nil) ⟨xs, rfl, x3, xl4, rfl⟩) rfl scLaw.nd) ?_
      show PXs _ T B H [.v (scrD ns), .v (.int (m : Int)), .v (.int num), .v (.int (k : Int)), .v (tP xs), .dic (mapA dF (goneF xs)), .no, .no] _ _
      obtain ⟨b, b0, V, W⟩ := gone_ok x3 xl60
      have cnt := fnd_len V W b0 x3 xl60
      have gt := fun {z : List Int} (tz : Two xs z) => fnd_end V W b0 tz
      have nd := W.nd
      have got : ∀ {z : List Int} {v : Int × Int}, getA (goneF xs) z = some v → Two xs z := fun {z v} e => ((W.get z v).mp e).1
      generalize hG : goneF xs = G at cnt gt nd got
      refine px_cons1 (px_if (k := false) (pb_eq (pb_cmp (pd_tmp (pd_lenD (i := 5) rfl Z.len)) (pd_tmp (pd_ix (d := .int ((3 ^ k : Nat) : Int)) (pd_frz (pd_lst (pas_cons pd_int (pas_cons pd_int (pas_cons pd_int (pas_cons pd_int (pas_cons pd_int pas_nil))))))) (pd_var (i := 3) rfl) rfl (many_at hk4))) cd_neI) ?_) (fun z => Bool.noConfusion z) fun _ => px_nil rfl) ?_
      · rw [mapA, List.length_map, cnt, xl, decide_eq_true rfl]
        rfl
      refine px_cons (N := fun z => ∃ s6 s7, z = [.v (scrD ns), .v (.int (m : Int)), .v (.int num), .v (.int (k : Int)), .v (tP xs), .dic (mapA dF G), s6, s7])
        (px_locked (i := 5) rfl fun qd od => px_forI (f := fName 6) (vs := [6]) (ds := (mapA dF G).map fun p => tP p.1) (fun j z => ∃ s6, z = [.v (scrD ns), .v (.int (m : Int)), .v (.int num), .v (.int (k : Int)), .v (tP xs), .v (.dcl qd od (mapA dF G)), s6, .no])
          (pib_keys (pd_var (i := 5) rfl)) (pgd_name (by decide) scLaw.nd rfl (Or.inl rfl) (Or.inr rfl)) ⟨_, rfl⟩ (fun n d ρ' _ _ => ⟨_, rfl⟩) ?_ ?_ PassesOwn.leaving) ?_
      · rintro j d ρ1 ρ2 hd ⟨s6, rfl⟩ rfl
        unfold mapA at hd
        rw [List.map_map, List.getElem?_map] at hd
        obtain ⟨⟨z, v⟩, hj, rfl⟩ := Option.map_eq_some_iff.mp hd
        have gz : getA G z = some v := (mem_get nd).mp (List.mem_of_getElem? hj)
        have tz := got gz
        have ev := gt tz
        rw [gz] at ev
        cases ev
        have rf : R2 CS CU farRes [tI xs, tI z] (.ret (.v (.int (farr xs z)))) := R2.ok tz
        have rm : R2 CS CU manyRes [tI xs, tI z] (.ret (.v (.int ((many xs z : Nat) : Int)))) := R2.ok tz
        show PXs _ T B H [.v (scrD ns), .v (.int (m : Int)), .v (.int num), .v (.int (k : Int)), .v (tP xs), .v (.dcl qd od (mapA dF G)), .v (tP z), .no] _ _
        exact px_one (px_if (k := false) (pb_eq (pb_cmp (pd_tmp (pd_tup (pas_cons (pd_call cF hr (pas_cons (pd_pt (pd_var (i := 4) rfl)) (pas_cons (pd_pt (pd_var (i := 6) rfl)) pas_nil)) rf) (pas_cons (pd_call cM hr (pas_cons (pd_pt (pd_var (i := 4) rfl)) (pas_cons (pd_pt (pd_var (i := 6) rfl)) pas_nil)) rm) pas_nil)))) (pd_tmp (pd_dgetL (d := dF (farr xs z, ((many xs z : Nat) : Int))) hu1 (pd_var (i := 5) rfl) (pd_var (i := 6) rfl) (by rw [mapA_get, gz]; rfl) (fun _ _ => rfl))) (cd_neD (n := 1) hu4 rfl rfl)) (eq_same (n := 1) rfl)) (fun z => Bool.noConfusion z) fun _ => px_nil ⟨_, rfl⟩)
      · rintro ρ1 ⟨s6, rfl⟩
        refine ⟨rfl, fun p hp => ?_, [.v (scrD ns), .v (.int (m : Int)), .v (.int num), .v (.int (k : Int)), .v (tP xs), .dic (mapA dF G), .no, .no], rfl, rfl, fun j s' hj e => ?_, ⟨_, _, rfl⟩⟩
        · obtain ⟨y, _, rfl⟩ := List.mem_map.mp hp
          exact safe_dF _
        · rcases j with _ | _ | _ | _ | _ | _ | _ | _ | j
          · cases e
            exact ⟨_, rfl, .v (safe_scr ns)⟩
          · cases e
            exact ⟨_, rfl, .v (safel_scal rfl)⟩
          · cases e
            exact ⟨_, rfl, .v (safel_scal rfl)⟩
          · cases e
            exact ⟨_, rfl, .v (safel_scal rfl)⟩
          · cases e
            exact ⟨_, rfl, .v (safe_tP xs)⟩
          · exact absurd rfl hj
          · cases e
            exact ⟨_, rfl, .no⟩
          · cases e
            exact ⟨_, rfl, .no⟩
          · cases e
      · rintro ρ1 ⟨s6, s7, rfl⟩
        refine px_one (px_range (n := 3) (i := 7) (fun _ z => ∃ s7, z = [.v (scrD ns), .v (.int (m : Int)), .v (.int num), .v (.int (k : Int)), .v (tP xs), .dic (mapA dF G), s6, s7]) pd_int (by decide) (by decide) Z3.range ⟨_, rfl⟩ ?_ ?_ PassesOwn.leaving scLaw.nd)
        · rintro p ρ1 hp ⟨s7, rfl⟩
          have pg : Tow.Pg (p : Int) := by constructor <;> omega
          have tr : Two xs (List.replicate k (p : Int)) := ⟨x3, rep_pegs3 pg, by rw [List.length_replicate, xl], xl60⟩
          have ge := gt tr
          have ef : farr xs (List.replicate k (p : Int)) = tow xs p := by rw [← xl]; exact tow_farr x3 pg
          rw [ef] at ge
          show PXs _ T B H [.v (scrD ns), .v (.int (m : Int)), .v (.int num), .v (.int (k : Int)), .v (tP xs), .dic (mapA dF G), s6, .v (.int (p : Int))] _ _
          refine px_one (px_if (k := false) (pb_eq (pb_cmp (pd_tmp (pd_call cT hr (pas_cons (pd_pt (pd_var (i := 4) rfl)) (pas_cons (pd_var (i := 7) rfl) pas_nil)) (toward_ok8 x3 xl60 pg))) (pd_tmp (pd_ix (i := 0) (d := .int (tow xs p)) (pd_dget (i := 5) (d := dF (tow xs p, ((many xs (List.replicate k (p : Int)) : Nat) : Int))) hu1 rfl (pd_bin (pd_tupP (pas_cons (pd_var (i := 7) rfl) pas_nil)) (pd_var (i := 3) rfl) (mul_repP (by omega))) (by rw [mapA_get, ge]; rfl) (fun _ _ => rfl)) pd_int rfl rfl)) cd_neI) ?_) (fun z => Bool.noConfusion z) fun _ => px_nil ⟨_, rfl⟩)
          rw [decide_eq_true rfl]
          rfl
        · rintro ρ1 ⟨s7, rfl⟩
          exact ⟨rfl, rfl⟩
    · rintro ρ1 _
      exact px_one (px_ret pd_bl rfl)
end
end Peg
/-! # What the top has written, the end -/
namespace Peg
open PySem PySem.Spec PyProof.Rows L2 DX
theorem tab_in_of {K : PySem.W.Frag} {x : Str} {f c t : Addr} {a1 b1 : Value} {a2 b2 : Option Addr} {fd : FuncData} {vs : Array Value} {s1 s2 : Array (Option Value)} (h1 : PySem.W.nsIn K mainGlobals x = some (some (.ref f))) (h2 : K.lookup f = some ⟨a1, a2, .func fd, s1⟩) (h3 : fd.code = .ref c) (h4 : K.lookup c = some ⟨b1, b2, .fields vs, s2⟩) (h5 : vs[11]? = some (.ref t)) : PySem.W.tabIn K x = some (c, t) := by
  unfold PySem.W.tabIn
  rw [h1]
  simp only [h2, h3, h4, h5]
theorem rel_int (i : Int) (t : Tok) : RelV (.int i) (.int i t) := ⟨t, rfl⟩
theorem no_tab {K : PySem.W.Frag} {h : Heap} {t : Addr} (X : K.In h) (hK : PySem.W.noTabs K = true) (ht : bare h t) : K.lookup t = none := by
  cases e : K.lookup t with
  | none => rfl
  | some o =>
    have z := X t o e
    have ht' : h.get? t = some { cls := .none, data := .fields #[] } := ht
    rw [ht'] at z
    cases z
    have q := List.all_eq_true.mp hK _ (PySem.W.mem_of_lookupK e)
    exact absurd (show false = true from q) Bool.false_ne_true
/-- a def of the top, as it is written -/
structure DefAt (K : PySem.W.Frag) (x qual : Str) (st : Stmt) (f : Addr) (cdv : Value) : Prop where
  l : ∃ (oc : Value) (od : Option Addr) (kV doc pm : Value) (an : Option Addr) (ct : Value) (osl : Array (Option Value)), K.lookup f = some ⟨oc, od, .func (PySem.W.fnOf x qual (defArgs st) (defBody st) (defScope st) .none kV doc pm an cdv ct), osl⟩
  c : PySem.W.codeIn K cdv qual = true
  k : PySem.W.keepIn K (.ref f) = true
theorem def_mk {K : PySem.W.Frag} {x qual : Str} {st : Stmt} {f : Addr} {oc : Value} {od : Option Addr} {kV doc pm : Value} {an : Option Addr} {cdv ct : Value} {osl : Array (Option Value)} (l : K.lookup f = some ⟨oc, od, .func (PySem.W.fnOf x qual (defArgs st) (defBody st) (defScope st) .none kV doc pm an cdv ct), osl⟩) (c : PySem.W.codeIn K cdv qual = true) (k : PySem.W.keepIn K (.ref f) = true) : DefAt K x qual st f cdv := ⟨⟨oc, od, kV, doc, pm, an, ct, osl, l⟩, c, k⟩
theorem DefAt.fn {K : PySem.W.Frag} {x qual : Str} {st : Stmt} {f : Addr} {cdv : Value} (d : DefAt K x qual st f cdv) {ps : List Str} (hb : ∀ (kV doc pm : Value) (an : Option Addr) (ct : Value), Fun K x qual st f (PySem.W.fnOf x qual (defArgs st) (defBody st) (defScope st) .none kV doc pm an cdv ct) → Binds K (PySem.W.fnOf x qual (defArgs st) (defBody st) (defScope st) .none kV doc pm an cdv ct) ps []) :
    ∃ (kV doc pm : Value) (an : Option Addr) (ct : Value), Fun K x qual st f (PySem.W.fnOf x qual (defArgs st) (defBody st) (defScope st) .none kV doc pm an cdv ct) ∧ Binds K (PySem.W.fnOf x qual (defArgs st) (defBody st) (defScope st) .none kV doc pm an cdv ct) ps [] ∧ ∃ (oc : Value) (od : Option Addr) (osl : Array (Option Value)), K.lookup f = some ⟨oc, od, .func (PySem.W.fnOf x qual (defArgs st) (defBody st) (defScope st) .none kV doc pm an cdv ct), osl⟩ := by
  obtain ⟨oc, od, kV, doc, pm, an, ct, osl, l⟩ := d.l
  have F := fun_mk (st := st) l d.c d.k
  exact ⟨kV, doc, pm, an, ct, F, hb _ _ _ _ _ F, oc, od, osl, l⟩
def veL : List Value := [.type "ValueError", .type "Exception", .type "BaseException", .type "object"]
theorem law_D {l : PySem.W.OpenLaw} {w : World} {K : PySem.W.Frag} {q : Program} {loose : List Str} {mean : ExcName → Option Value} {mg mb : Str → Option Value} {h : Heap} {fa : Addr} (X : K.In h) (T : Top q loose mean mg mb h) (hfa : mg "law" = some (.ref fa)) (hprog : l.prog = PySem.Challenge.pw_pegdiscs_k08_by_going_out)
    {f0 f1 f2 f3 f4 f5 f6 f7 f8 f9 f10 f11 f12 f13 f14 f15 f16 f17 f18 f19 f20 : Addr} {cd0 cd1 cd3 cd4 cd5 cd6 cd7 cd8 cd9 cd10 cd11 cd12 cd13 cd14 cd15 cd16 cd17 cd18 cd19 cd20 : Value} {cc tt : Addr} {dS : DefRec} {tk : Tok}
    {C0 C1 C2 C7 : Addr}
    {bo1 : Value} {bo2 : Option Addr} {vsc : Array Value} {bsl : Array (Option Value)}
    (a0 : PySem.W.nsIn K mainGlobals "is_whole" = some (some (.ref f0)))
    (d0 : DefAt K "is_whole" "is_whole" sWhole f0 cd0)
    (a1 : PySem.W.nsIn K mainGlobals "is_peg" = some (some (.ref f1)))
    (d1 : DefAt K "is_peg" "is_peg" sPeg f1 cd1)
    (a2 : PySem.W.nsIn K mainGlobals "is_setting" = some (some (.ref f2)))
    (d2 : DefAt K "is_setting" "is_setting" sSetting f2 (.ref cc))
    (a3 : PySem.W.nsIn K mainGlobals "check_setting" = some (some (.ref f3)))
    (d3 : DefAt K "check_setting" "check_setting" sCheck f3 cd3)
    (a4 : PySem.W.nsIn K mainGlobals "check_two" = some (some (.ref f4)))
    (d4 : DefAt K "check_two" "check_two" sCheck2 f4 cd4)
    (a5 : PySem.W.nsIn K mainGlobals "check_peg" = some (some (.ref f5)))
    (d5 : DefAt K "check_peg" "check_peg" sCheckP f5 cd5)
    (a6 : PySem.W.nsIn K mainGlobals "third_peg" = some (some (.ref f6)))
    (d6 : DefAt K "third_peg" "third_peg" sThird f6 cd6)
    (a7 : PySem.W.nsIn K mainGlobals "due" = some (some (.ref f7)))
    (d7 : DefAt K "due" "due" sDue f7 cd7)
    (a8 : PySem.W.nsIn K mainGlobals "distance_toward" = some (some (.ref f8)))
    (d8 : DefAt K "distance_toward" "distance_toward" sDist f8 cd8)
    (a9 : PySem.W.nsIn K mainGlobals "greatest_unlike" = some (some (.ref f9)))
    (d9 : DefAt K "greatest_unlike" "greatest_unlike" sGu f9 cd9)
    (a10 : PySem.W.nsIn K mainGlobals "toward" = some (some (.ref f10)))
    (d10 : DefAt K "toward" "toward" sToward f10 cd10)
    (a11 : PySem.W.nsIn K mainGlobals "choices" = some (some (.ref f11)))
    (d11 : DefAt K "choices" "choices" sChoices f11 cd11)
    (a12 : PySem.W.nsIn K mainGlobals "far" = some (some (.ref f12)))
    (d12 : DefAt K "far" "far" sFar f12 cd12)
    (a13 : PySem.W.nsIn K mainGlobals "many_ways" = some (some (.ref f13)))
    (d13 : DefAt K "many_ways" "many_ways" sMany f13 cd13)
    (a14 : PySem.W.nsIn K mainGlobals "_law_cell" = some (some (.ref f14)))
    (d14 : DefAt K "_law_cell" "_law_cell" sCell f14 cd14)
    (a15 : PySem.W.nsIn K mainGlobals "_law_great" = some (some (.ref f15)))
    (d15 : DefAt K "_law_great" "_law_great" sGreat f15 cd15)
    (a16 : PySem.W.nsIn K mainGlobals "_law_setting" = some (some (.ref f16)))
    (d16 : DefAt K "_law_setting" "_law_setting" sLSet f16 cd16)
    (a17 : PySem.W.nsIn K mainGlobals "_law_may" = some (some (.ref f17)))
    (d17 : DefAt K "_law_may" "_law_may" sLMay f17 cd17)
    (a18 : PySem.W.nsIn K mainGlobals "_law_behind" = some (some (.ref f18)))
    (d18 : DefAt K "_law_behind" "_law_behind" sLBehind f18 cd18)
    (a19 : PySem.W.nsIn K mainGlobals "_law_gone_out" = some (some (.ref f19)))
    (d19 : DefAt K "_law_gone_out" "_law_gone_out" sGone f19 cd19)
    (a20 : PySem.W.nsIn K mainGlobals "law" = some (some (.ref f20)))
    (d20 : DefAt K "law" "law" sLaw f20 cd20)
    (lcc : K.lookup cc = some ⟨bo1, bo2, .fields vsc, bsl⟩)
    (htt : vsc[11]? = some (.ref tt))
    (hrec : (recsOf q).find? (fun e => e.name == ("is_setting" : Str)) = some dS)
    (noT : PySem.W.noTabs K = true)
    (z_type : PySem.W.nsIn K mainGlobals "type" = some none)
    (z_len : PySem.W.nsIn K mainGlobals "len" = some none)
    (z_int : PySem.W.nsIn K mainGlobals "int" = some none)
    (z_tuple : PySem.W.nsIn K mainGlobals "tuple" = some none)
    (z_all : PySem.W.nsIn K mainGlobals "all" = some none)
    (z_range : PySem.W.nsIn K mainGlobals "range" = some none)
    (z_isinstance : PySem.W.nsIn K mainGlobals "isinstance" = some none)
    (z_bool : PySem.W.nsIn K mainGlobals "bool" = some none)
    (z_list : PySem.W.nsIn K mainGlobals "list" = some none)
    (z_ValueError : PySem.W.nsIn K mainGlobals "ValueError" = some none)
    (z_sorted : PySem.W.nsIn K mainGlobals "sorted" = some none)
    (z_enumerate : PySem.W.nsIn K mainGlobals "enumerate" = some none)
    (z_min : PySem.W.nsIn K mainGlobals "min" = some none)
    (z_sum : PySem.W.nsIn K mainGlobals "sum" = some none)
    (z_reversed : PySem.W.nsIn K mainGlobals "reversed" = some none)
    (z_abs : PySem.W.nsIn K mainGlobals "abs" = some none)
    (aM : PySem.W.nsIn K mainGlobals "MOST_DISCS" = some (some (.int 60 tk)))
    (cls0 : PySem.W.nsIn K mainGlobals "BadSetting" = some (some (.ref C0)))
    (cls1 : PySem.W.nsIn K mainGlobals "Unlike" = some (some (.ref C1)))
    (cls2 : PySem.W.nsIn K mainGlobals "BadPegs" = some (some (.ref C2)))
    (cls7 : PySem.W.nsIn K mainGlobals "PegError" = some (some (.ref C7)))
    (ek0 : PySem.W.keepIn K (.ref C0) = true)
    (ee0 : PySem.W.excIn K C0 veL "ValueError.__new__" = true)
    (eb0 : PySem.W.subIn K (.ref C0) (.type "BaseException") = some true)
    (et0 : PySem.W.typeIn K (.ref C0) = some (.type "type"))
    (ek1 : PySem.W.keepIn K (.ref C1) = true)
    (ee1 : PySem.W.excIn K C1 veL "ValueError.__new__" = true)
    (eb1 : PySem.W.subIn K (.ref C1) (.type "BaseException") = some true)
    (et1 : PySem.W.typeIn K (.ref C1) = some (.type "type"))
    (ek2 : PySem.W.keepIn K (.ref C2) = true)
    (ee2 : PySem.W.excIn K C2 veL "ValueError.__new__" = true)
    (eb2 : PySem.W.subIn K (.ref C2) (.type "BaseException") = some true)
    (et2 : PySem.W.typeIn K (.ref C2) = some (.type "type")) :
    LawD l.prog w K (L2.CX PySem.Challenge.pw_pegdiscs_k08_by_going_out w) 8 63 "_law_script" mg fa h := by
  have G := T.g
  have e := hfa.symm.trans (PySem.W.mg_of X G a20)
  cases e
  obtain ⟨kV0, dc0, pm0, an0, ct0, F0, b0, oc0, od0, sl0, l0⟩ := d0.fn (ps := ["thing", "most"]) fun _ _ _ _ _ F => F.binds fun _ _ _ _ _ _ us hl => match us, hl with | [_, _], _ => rfl
  obtain ⟨kV1, dc1, pm1, an1, ct1, F1, b1, oc1, od1, sl1, l1⟩ := d1.fn (ps := ["thing"]) fun _ _ _ _ _ F => F.binds fun _ _ _ _ _ _ us hl => match us, hl with | [_], _ => rfl
  obtain ⟨kV2, dc2, pm2, an2, ct2, F2, b2, oc2, od2, sl2, l2⟩ := d2.fn (ps := ["thing"]) fun _ _ _ _ _ F => F.binds fun _ _ _ _ _ _ us hl => match us, hl with | [_], _ => rfl
  obtain ⟨kV3, dc3, pm3, an3, ct3, F3, b3, oc3, od3, sl3, l3⟩ := d3.fn (ps := ["thing"]) fun _ _ _ _ _ F => F.binds fun _ _ _ _ _ _ us hl => match us, hl with | [_], _ => rfl
  obtain ⟨kV4, dc4, pm4, an4, ct4, F4, b4, oc4, od4, sl4, l4⟩ := d4.fn (ps := ["one", "other"]) fun _ _ _ _ _ F => F.binds fun _ _ _ _ _ _ us hl => match us, hl with | [_, _], _ => rfl
  obtain ⟨kV5, dc5, pm5, an5, ct5, F5, b5, oc5, od5, sl5, l5⟩ := d5.fn (ps := ["thing"]) fun _ _ _ _ _ F => F.binds fun _ _ _ _ _ _ us hl => match us, hl with | [_], _ => rfl
  obtain ⟨kV6, dc6, pm6, an6, ct6, F6, b6, oc6, od6, sl6, l6⟩ := d6.fn (ps := ["one", "other"]) fun _ _ _ _ _ F => F.binds fun _ _ _ _ _ _ us hl => match us, hl with | [_, _], _ => rfl
  obtain ⟨kV7, dc7, pm7, an7, ct7, F7, b7, oc7, od7, sl7, l7⟩ := d7.fn (ps := ["setting", "peg"]) fun _ _ _ _ _ F => F.binds fun _ _ _ _ _ _ us hl => match us, hl with | [_, _], _ => rfl
  obtain ⟨kV8, dc8, pm8, an8, ct8, F8, b8, oc8, od8, sl8, l8⟩ := d8.fn (ps := ["setting", "peg"]) fun _ _ _ _ _ F => F.binds fun _ _ _ _ _ _ us hl => match us, hl with | [_, _], _ => rfl
  obtain ⟨kV9, dc9, pm9, an9, ct9, F9, b9, oc9, od9, sl9, l9⟩ := d9.fn (ps := ["one", "other"]) fun _ _ _ _ _ F => F.binds fun _ _ _ _ _ _ us hl => match us, hl with | [_, _], _ => rfl
  obtain ⟨kV10, dc10, pm10, an10, ct10, F10, b10, oc10, od10, sl10, l10⟩ := d10.fn (ps := ["setting", "peg"]) fun _ _ _ _ _ F => F.binds fun _ _ _ _ _ _ us hl => match us, hl with | [_, _], _ => rfl
  obtain ⟨kV11, dc11, pm11, an11, ct11, F11, b11, oc11, od11, sl11, l11⟩ := d11.fn (ps := ["one", "other"]) fun _ _ _ _ _ F => F.binds fun _ _ _ _ _ _ us hl => match us, hl with | [_, _], _ => rfl
  obtain ⟨kV12, dc12, pm12, an12, ct12, F12, b12, oc12, od12, sl12, l12⟩ := d12.fn (ps := ["one", "other"]) fun _ _ _ _ _ F => F.binds fun _ _ _ _ _ _ us hl => match us, hl with | [_, _], _ => rfl
  obtain ⟨kV13, dc13, pm13, an13, ct13, F13, b13, oc13, od13, sl13, l13⟩ := d13.fn (ps := ["one", "other"]) fun _ _ _ _ _ F => F.binds fun _ _ _ _ _ _ us hl => match us, hl with | [_, _], _ => rfl
  obtain ⟨kV14, dc14, pm14, an14, ct14, F14, b14, oc14, od14, sl14, l14⟩ := d14.fn (ps := ["_law_script", "_law_k"]) fun _ _ _ _ _ F => F.binds fun _ _ _ _ _ _ us hl => match us, hl with | [_, _], _ => rfl
  obtain ⟨kV15, dc15, pm15, an15, ct15, F15, b15, oc15, od15, sl15, l15⟩ := d15.fn (ps := ["_law_script", "_law_k"]) fun _ _ _ _ _ F => F.binds fun _ _ _ _ _ _ us hl => match us, hl with | [_, _], _ => rfl
  obtain ⟨kV16, dc16, pm16, an16, ct16, F16, b16, oc16, od16, sl16, l16⟩ := d16.fn (ps := ["_law_number", "_law_discs"]) fun _ _ _ _ _ F => F.binds fun _ _ _ _ _ _ us hl => match us, hl with | [_, _], _ => rfl
  obtain ⟨kV17, dc17, pm17, an17, ct17, F17, b17, oc17, od17, sl17, l17⟩ := d17.fn (ps := ["_law_setting_here"]) fun _ _ _ _ _ F => F.binds fun _ _ _ _ _ _ us hl => match us, hl with | [_], _ => rfl
  obtain ⟨kV18, dc18, pm18, an18, ct18, F18, b18, oc18, od18, sl18, l18⟩ := d18.fn (ps := ["_law_setting_here", "_law_move"]) fun _ _ _ _ _ F => F.binds fun _ _ _ _ _ _ us hl => match us, hl with | [_, _], _ => rfl
  obtain ⟨kV19, dc19, pm19, an19, ct19, F19, b19, oc19, od19, sl19, l19⟩ := d19.fn (ps := ["_law_setting_here"]) fun _ _ _ _ _ F => F.binds fun _ _ _ _ _ _ us hl => match us, hl with | [_], _ => rfl
  obtain ⟨kV20, dc20, pm20, an20, ct20, F20, b20, oc20, od20, sl20, l20⟩ := d20.fn (ps := ["_law_script"]) fun _ _ _ _ _ F => F.binds fun _ _ _ _ _ _ us hl => match us, hl with | [_], _ => rfl
  have Z : Txt K mg := ⟨PySem.W.mg_none_of X G z_type, PySem.W.mg_none_of X G z_len, PySem.W.mg_none_of X G z_int, PySem.W.mg_none_of X G z_tuple⟩
  have Z2 : Txt2 K mg := ⟨PySem.W.mg_none_of X G z_all, tk, PySem.W.mg_of X G aM⟩
  have Z3 : Txt3 K mg := ⟨PySem.W.mg_none_of X G z_range⟩
  have Z4 : Txt4 K mg := ⟨PySem.W.mg_none_of X G z_isinstance, PySem.W.mg_none_of X G z_bool, PySem.W.mg_none_of X G z_list, PySem.W.mg_none_of X G z_ValueError, PySem.W.mg_none_of X G z_sorted, PySem.W.mg_none_of X G z_enumerate, PySem.W.mg_none_of X G z_min⟩
  have ZQ : TxtQ K mg := ⟨PySem.W.mg_none_of X G z_reversed, PySem.W.mg_none_of X G z_sum, PySem.W.mg_none_of X G z_min, PySem.W.mg_none_of X G z_abs⟩
  have G0 := PySem.W.mg_of X G cls0
  have G1 := PySem.W.mg_of X G cls1
  have G2 := PySem.W.mg_of X G cls2
  have G7 := PySem.W.mg_of X G cls7
  have E0 : ExK K mg "BadSetting" C0 := ⟨G0, ek0, ee0, eb0, et0⟩
  have E1 : ExK K mg "Unlike" C1 := ⟨G1, ek1, ee1, eb1, et1⟩
  have E2 : ExK K mg "BadPegs" C2 := ⟨G2, ek2, ee2, eb2, et2⟩
  have W2 : GX.Two K mg f1 := ⟨f0, _, _, sWhole, sPeg, _, _, _, _, _, _, _, _, _, _, _, _, _, _, _, _, _, _, F1, F0, (PySem.W.mg_of X G a0), rfl, rfl, scWhole, by decide +kernel, by decide +kernel, by decide +kernel, by decide +kernel, scPeg, by decide +kernel, by decide +kernel, (fun _ _ _ _ _ _ _ _ => rfl), (fun _ _ _ _ _ _ _ => rfl)⟩
  obtain ⟨tc, tb⟩ := PySem.W.tab_of T X hrec (tab_in_of a2 l2 rfl lcc htt)
  have nT := no_tab X noT tb
  rw [hprog]
  refine ⟨PySem.W.fnOf "law" "law" (defArgs sLaw) (defBody sLaw) (defScope sLaw) .none kV20 dc20 pm20 an20 cd20 ct20, [(cc, tt)], RLaw, fun z hz => ?_, fun s v => .of_eq rfl, fun ns hn => ⟨ns, rfl, hn, rfl⟩, fun base Kb Gb TB => ?_⟩
  · rw [List.mem_singleton.mp hz]
    exact ⟨tc, tb, nT⟩
  · have tB : GxR.TabB base mg cc tt := TB (cc, tt) List.mem_cons_self
    show FnOk PySem.Challenge.pw_pegdiscs_k08_by_going_out w K mg base (L2.CX PySem.Challenge.pw_pegdiscs_k08_by_going_out w) 8 _ _ ["_law_script"] (spD K [tt] RLaw)
    have kW : Kn PySem.Challenge.pw_pegdiscs_k08_by_going_out w K mg base [tt] 1 "is_whole" RWhole := kn_whole F0 Z (PySem.W.mg_of X G a0) b0
    have kP : Kn PySem.Challenge.pw_pegdiscs_k08_by_going_out w K mg base [tt] 2 "is_peg" RPeg := kn_peg F1 Z (PySem.W.mg_of X G a1) b1 kW
    have kS : Kn PySem.Challenge.pw_pegdiscs_k08_by_going_out w K mg base [tt] 3 "is_setting" RSetting := kn_setting l2 d2.c d2.k Z Z2 (PySem.W.mg_of X G a2) b2 W2 (PySem.W.mg_of X G a1) List.mem_cons_self tB
    have kC : Kn PySem.Challenge.pw_pegdiscs_k08_by_going_out w K mg base [tt] 4 "check_setting" (RCheck C0) := kn_check F3 (PySem.W.mg_of X G a3) b3 kS E0
    have kCP : Kn PySem.Challenge.pw_pegdiscs_k08_by_going_out w K mg base [tt] 3 "check_peg" (RCheckW C2 2) := kn_checkP F5 (PySem.W.mg_of X G a5) b5 kP E2
    have kT3 : Kn PySem.Challenge.pw_pegdiscs_k08_by_going_out w K mg base [tt] 1 "third_peg" RThird := kn_third F6 (PySem.W.mg_of X G a6) b6
    have k2 : Kn PySem.Challenge.pw_pegdiscs_k08_by_going_out w K mg base [tt] 5 "check_two" (RCheck2 C0 C1) := kn_check2 F4 Z (PySem.W.mg_of X G a4) b4 kC E1
    have kD : Kn PySem.Challenge.pw_pegdiscs_k08_by_going_out w K mg base [tt] 2 "due" RDue := kn_due F7 Z Z3 ZQ (PySem.W.mg_of X G a7) b7 kT3
    have kDi : Kn PySem.Challenge.pw_pegdiscs_k08_by_going_out w K mg base [tt] 3 "distance_toward" RDist := kn_dist F8 ZQ (PySem.W.mg_of X G a8) b8 kD
    have kGu : Kn PySem.Challenge.pw_pegdiscs_k08_by_going_out w K mg base [tt] 1 "greatest_unlike" RGu := kn_gu F9 Z Z3 ZQ (PySem.W.mg_of X G a9) b9
    have kTo : Kn PySem.Challenge.pw_pegdiscs_k08_by_going_out w K mg base [tt] 5 "toward" (RToward C0 C2) := kn_toward F10 (PySem.W.mg_of X G a10) b10 kC kCP kDi
    have kCh : Kn PySem.Challenge.pw_pegdiscs_k08_by_going_out w K mg base [tt] 6 "choices" (R2 C0 C1 chRes) := kn_choices F11 (PySem.W.mg_of X G a11) b11 k2 kGu kT3 kDi
    have kFa : Kn PySem.Challenge.pw_pegdiscs_k08_by_going_out w K mg base [tt] 7 "far" (R2 C0 C1 farRes) := kn_far F12 ZQ (PySem.W.mg_of X G a12) b12 kCh
    have kMw : Kn PySem.Challenge.pw_pegdiscs_k08_by_going_out w K mg base [tt] 7 "many_ways" (R2 C0 C1 manyRes) := kn_many F13 (PySem.W.mg_of X G a13) b13 kCh
    have lC : Kn PySem.Challenge.pw_pegdiscs_k08_by_going_out w K mg base [tt] 1 "_law_cell" RCell := kn_cell F14 Z (PySem.W.mg_of X G a14) b14
    have lG : Kn PySem.Challenge.pw_pegdiscs_k08_by_going_out w K mg base [tt] 1 "_law_great" RGreat := kn_great F15 (PySem.W.mg_of X G a15) b15
    have lM : Kn PySem.Challenge.pw_pegdiscs_k08_by_going_out w K mg base [tt] 1 "_law_may" RLMay := kn_lmay F17 Z3 Z4 (PySem.W.mg_of X G a17) b17
    have lS : Kn PySem.Challenge.pw_pegdiscs_k08_by_going_out w K mg base [tt] 1 "_law_setting" RLSetP := kn_lsetP F16 Z Z3 (PySem.W.mg_of X G a16) b16
    have lB : Kn PySem.Challenge.pw_pegdiscs_k08_by_going_out w K mg base [tt] 1 "_law_behind" RBehindP := kn_lbehindP F18 (PySem.W.mg_of X G a18) b18
    have lGo : Kn PySem.Challenge.pw_pegdiscs_k08_by_going_out w K mg base [tt] 2 "_law_gone_out" RGone := kn_gone F19 Z4 (PySem.W.mg_of X G a19) b19 lM lB
    exact kn_law F20 Z Z3 Z4 lC lG lS lGo kFa kMw kTo
end Peg
open PySem PySem.W PyProof.Rows in
set_option maxRecDepth 100000 in
set_option maxHeartbeats 0 in
theorem PySem.Challenge.cw_pegdiscs_k08_by_going_out_holds : PySem.Challenge.rw_pegdiscs_k08_by_going_out.Holds := by
  w_on; o_law; k_head; (case hw => w_witness2)
  k_fill
  refine DX.walk_D (l := PySem.Challenge.rw_pegdiscs_k08_by_going_out) (n := 63) (k := 8) (x := "_law_script") (CX := fun w => L2.CX PySem.Challenge.pw_pegdiscs_k08_by_going_out w) rfl (by decide) rfl ⟨rfl, by decide, by decide⟩ (fun w h Y => PySem.W.kIn_of Y) ?F (fun _ _ _ _ _ ⟨_, _, _, _, _, _, _, _, _, _, _, _, z⟩ => z)
  case F =>
    intro w mean mg mb fa h T Y KX hmg
    refine' Peg.law_D (l := PySem.Challenge.rw_pegdiscs_k08_by_going_out) KX T hmg rfl ?a0 ?d0 ?a1 ?d1 ?a2 ?d2 ?a3 ?d3 ?a4 ?d4 ?a5 ?d5 ?a6 ?d6 ?a7 ?d7 ?a8 ?d8 ?a9 ?d9 ?a10 ?d10 ?a11 ?d11 ?a12 ?d12 ?a13 ?d13 ?a14 ?d14 ?a15 ?d15 ?a16 ?d16 ?a17 ?d17 ?a18 ?d18 ?a19 ?d19 ?a20 ?d20 ?lcc ?htt ?hrec ?noT ?z_type ?z_len ?z_int ?z_tuple ?z_all ?z_range ?z_isinstance ?z_bool ?z_list ?z_ValueError ?z_sorted ?z_enumerate ?z_min ?z_sum ?z_reversed ?z_abs ?aM ?cls0 ?cls1 ?cls2 ?cls7 ?ek0 ?ee0 ?eb0 ?et0 ?ek1 ?ee1 ?eb1 ?et1 ?ek2 ?ee2 ?eb2 ?et2
    (case a0 => k_is)
    (case d0 => refine' Peg.def_mk ?dl ?dc ?dk; (case dl => k_is); (case dc => k_is); (case dk => k_is))
    (case a1 => k_is)
    (case d1 => refine' Peg.def_mk ?dl ?dc ?dk; (case dl => k_is); (case dc => k_is); (case dk => k_is))
    (case a2 => k_is)
    (case d2 => refine' Peg.def_mk ?dl ?dc ?dk; (case dl => k_is); (case dc => k_is); (case dk => k_is))
    (case a3 => k_is)
    (case d3 => refine' Peg.def_mk ?dl ?dc ?dk; (case dl => k_is); (case dc => k_is); (case dk => k_is))
    (case a4 => k_is)
    (case d4 => refine' Peg.def_mk ?dl ?dc ?dk; (case dl => k_is); (case dc => k_is); (case dk => k_is))
    (case a5 => k_is)
    (case d5 => refine' Peg.def_mk ?dl ?dc ?dk; (case dl => k_is); (case dc => k_is); (case dk => k_is))
    (case a6 => k_is)
    (case d6 => refine' Peg.def_mk ?dl ?dc ?dk; (case dl => k_is); (case dc => k_is); (case dk => k_is))
    (case a7 => k_is)
    (case d7 => refine' Peg.def_mk ?dl ?dc ?dk; (case dl => k_is); (case dc => k_is); (case dk => k_is))
    (case a8 => k_is)
    (case d8 => refine' Peg.def_mk ?dl ?dc ?dk; (case dl => k_is); (case dc => k_is); (case dk => k_is))
    (case a9 => k_is)
    (case d9 => refine' Peg.def_mk ?dl ?dc ?dk; (case dl => k_is); (case dc => k_is); (case dk => k_is))
    (case a10 => k_is)
    (case d10 => refine' Peg.def_mk ?dl ?dc ?dk; (case dl => k_is); (case dc => k_is); (case dk => k_is))
    (case a11 => k_is)
    (case d11 => refine' Peg.def_mk ?dl ?dc ?dk; (case dl => k_is); (case dc => k_is); (case dk => k_is))
    (case a12 => k_is)
    (case d12 => refine' Peg.def_mk ?dl ?dc ?dk; (case dl => k_is); (case dc => k_is); (case dk => k_is))
    (case a13 => k_is)
    (case d13 => refine' Peg.def_mk ?dl ?dc ?dk; (case dl => k_is); (case dc => k_is); (case dk => k_is))
    (case a14 => k_is)
    (case d14 => refine' Peg.def_mk ?dl ?dc ?dk; (case dl => k_is); (case dc => k_is); (case dk => k_is))
    (case a15 => k_is)
    (case d15 => refine' Peg.def_mk ?dl ?dc ?dk; (case dl => k_is); (case dc => k_is); (case dk => k_is))
    (case a16 => k_is)
    (case d16 => refine' Peg.def_mk ?dl ?dc ?dk; (case dl => k_is); (case dc => k_is); (case dk => k_is))
    (case a17 => k_is)
    (case d17 => refine' Peg.def_mk ?dl ?dc ?dk; (case dl => k_is); (case dc => k_is); (case dk => k_is))
    (case a18 => k_is)
    (case d18 => refine' Peg.def_mk ?dl ?dc ?dk; (case dl => k_is); (case dc => k_is); (case dk => k_is))
    (case a19 => k_is)
    (case d19 => refine' Peg.def_mk ?dl ?dc ?dk; (case dl => k_is); (case dc => k_is); (case dk => k_is))
    (case a20 => k_is)
    (case d20 => refine' Peg.def_mk ?dl ?dc ?dk; (case dl => k_is); (case dc => k_is); (case dk => k_is))
    (case lcc => k_is)
    (case htt => rfl)
    (case hrec => rfl)
    (case noT => kernel_rfl)
    (case z_type => k_is)
    (case z_len => k_is)
    (case z_int => k_is)
    (case z_tuple => k_is)
    (case z_all => k_is)
    (case z_range => k_is)
    (case z_isinstance => k_is)
    (case z_bool => k_is)
    (case z_list => k_is)
    (case z_ValueError => k_is)
    (case z_sorted => k_is)
    (case z_enumerate => k_is)
    (case z_min => k_is)
    (case z_sum => k_is)
    (case z_reversed => k_is)
    (case z_abs => k_is)
    (case aM => k_is)
    (case cls0 => k_is)
    (case cls1 => k_is)
    (case cls2 => k_is)
    (case cls7 => k_is)
    (case ek0 => k_is)
    (case ee0 => kernel_rfl)
    (case eb0 => k_is)
    (case et0 => k_is)
    (case ek1 => k_is)
    (case ee1 => kernel_rfl)
    (case eb1 => k_is)
    (case et1 => k_is)
    (case ek2 => k_is)
    (case ee2 => kernel_rfl)
    (case eb2 => k_is)
    (case et2 => k_is)
