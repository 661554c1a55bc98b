/-
  A sender's two ends and the world that holds them (package gistlaw), in memory and in plain numbers.
  Conditions stand in each theorem.
-/
import Derived.Test.YtgpojbgjfibblabGreatDocSend
import Derived.Test.YtgpojbgjfibblabGreatJoinBookH
import Derived.Test.YtgpojbgjfibblabGreatJoinSndKeeps
namespace Go.Proofs.YtgpojbgjfibblabGreat.texts
open Go.RowKit
set_option linter.unusedVariables false

theorem hear_cases2 (x : Snd) (l : List UInt8) : hearM x l = x ∨ ∃ i, i < 8 ∧ 0 < (x.at_ i).kept ∧ (hearM x l = x.set i { x.at_ i with whole := x.keep } ∨ hearM x l = x.set i { x.at_ i with full := x.keep }) := by
  by_cases hl : l.length = 2
  · obtain ⟨_, h2⟩ := hear_two (m := x) hl
    rw [h2]
    split
    · rename_i hc
      split
      · exact Or.inr ⟨_, hc.1, hc.2, Or.inl rfl⟩
      · split
        · exact Or.inr ⟨_, hc.1, hc.2, Or.inr rfl⟩
        · exact Or.inl rfl
    · exact Or.inl rfl
  · exact Or.inl (hear_len hl).2
theorem young_hear2 {x : Snd} (hx : x.ok) (h : Young x) (l : List UInt8) : Young (hearM x l) := by
  rcases hear_cases2 x l with e | ⟨i, hi, _, e | e⟩ <;> rw [e]
  · exact h
  all_goals
    intro j hj
    rw [Snd.set_at _ _ _ _ (by rw [hx.len]; omega)]
    split
    · exact h i hi
    · exact h j hj

/-- the document's states have their widths -/
def DOk (d : Doc) : Prop := ∀ i, i < d.cs.length → ∀ s ∈ (d.at_ i).sts, s.ok
/-- the two ends in plain numbers -/
structure Ends (m : Snd) (d : Doc) (k : Nat) : Prop where
  ok : m.ok
  young : Young m
  fit : Fit m k
  rel : Rel k m d
  dok : DOk d
theorem Ends.well {m : Snd} {d : Doc} {k : Nat} (h : Ends m d k) {w : World} {B g gl : Nat} (hs : StsIn w B d) (hd : DocAt w g gl d) (ht : d.sent + 1 < 4611686018427387904) : ∀ i, i < d.cs.length → (d.at_ i).well := by
  intro i hi
  have hl := h.rel.len
  by_cases hk : i < k
  · have o := h.rel.one i hk
    have c := Snd.at_ok h.ok i
    have hy := h.young i (by have := h.ok.c8; omega)
    have hkp := h.fit.has i hk
    refine ⟨by rw [o.turn]; exact c.turn, h.dok i hi, by rw [o.missed]; have := o.few; omega, by rw [o.whole]; exact c.whole, by rw [o.full]; exact c.full, by rw [o.age]; omega, by rw [o.same.time hkp]; exact timeN_lt _, (hs i hi).2, fun e => ?_, hd.sl i hi⟩
    have h1 := o.same.last h.ok.k1
    rw [sts_head _ c.kept, if_neg (by omega), e] at h1
    simp at h1
  · rw [h.rel.blank i (by omega) (by omega)]
    exact ⟨by decide, fun s hs => by simp [Rc.blank] at hs, by decide, by decide, by decide, by decide, by decide, by decide, fun _ => rfl, ⟨none, 0, 0, rfl⟩⟩
theorem Ends.send {m : Snd} {d : Doc} {k : Nat} (h : Ends m d k) {p : Pk} (hp : p.ok) {i : Nat} {fresh : Bool} (hpl : PlaceIs d p.src p.dst p.port i fresh) (v : Value) (ht : d.sent + 1 < 4611686018427387904) (hw : (d.at_ i).well) :
    (∃ k', Ends (sendM m p) (docSend d p i fresh v) k') ∧ frameN (docKind (docMet d p i fresh) (docNext (docMet d p i fresh) p) d.keep d.refresh) (docMet d p i fresh).turn i (docNext (docMet d p i fresh) p) p = sendF m p := by
  obtain ⟨hc, hr, k', hf', hr'⟩ := rel_send h.ok h.fit h.rel hp hpl v (by omega)
  have hk4 : d.keep ≤ 4 := by rw [h.rel.keep]; exact h.ok.k4
  refine ⟨⟨k', send_ok h.ok h.young hp, young_send h.ok h.young p, hf', hr', fun j hj s hs => ?_⟩, rel_frame h.ok h.rel hp hc hr (by omega)⟩
  have hlen : (docSend d p i fresh v).cs.length = d.cs.length := by simp [docSend, Doc.set]
  have hat : (docSend d p i fresh v).at_ j = if j = i then docSent (docMet d p i fresh) v (docKind (docMet d p i fresh) (docNext (docMet d p i fresh) p) d.keep d.refresh) (docNext (docMet d p i fresh) p) p d.keep (d.sent + 1) else d.at_ j := Doc.set_at d i j _ hpl.1
  rw [hat] at hs
  have mw : (docMet d p i fresh).well := docMet_well hw hk4
  split at hs
  · rcases List.mem_append.1 hs with h1 | h1
    · exact mw.sts s (List.mem_of_mem_drop h1)
    · simp at h1
      rw [h1]
      exact docNext_ok mw hp
  · exact h.dok j (by omega) s hs
theorem docHearM_at (d : Doc) (l : List UInt8) (j : Nat) : (docHearM d l).cs.length = d.cs.length ∧ ((docHearM d l).at_ j).sts = (d.at_ j).sts ∧ ((docHearM d l).at_ j).sv = (d.at_ j).sv ∧ (docHearM d l).sent = d.sent := by
  have key : ∀ (i : Nat) (x : Rc), i < d.cs.length → x.sts = (d.at_ i).sts → x.sv = (d.at_ i).sv → (d.set i x).cs.length = d.cs.length ∧ ((d.set i x).at_ j).sts = (d.at_ j).sts ∧ ((d.set i x).at_ j).sv = (d.at_ j).sv ∧ (d.set i x).sent = d.sent := by
    intro i x hi h1 h2
    rw [Doc.set_at d i j x hi]
    refine ⟨by simp [Doc.set], ?_, ?_, rfl⟩
    · split
      · rename_i e; rw [e]; exact h1
      · rfl
    · split
      · rename_i e; rw [e]; exact h2
      · rfl
  match l with
  | [] => exact ⟨rfl, rfl, rfl, rfl⟩
  | [_] => exact ⟨rfl, rfl, rfl, rfl⟩
  | [x, y] =>
    simp only [docHearM]
    split
    · rename_i hc
      split
      · exact key _ _ hc.1 rfl rfl
      · split
        · exact key _ _ hc.1 rfl rfl
        · exact ⟨rfl, rfl, rfl, rfl⟩
    · exact ⟨rfl, rfl, rfl, rfl⟩
  | _ :: _ :: _ :: _ => exact ⟨rfl, rfl, rfl, rfl⟩
theorem Ends.hear {m : Snd} {d : Doc} {k : Nat} (h : Ends m d k) (l : List UInt8) : hearE m l = docHearE d l ∧ Ends (hearM m l) (docHearM d l) k := by
  obtain ⟨h1, h2⟩ := rel_hear h.ok h.fit h.rel l
  refine ⟨h1, hearM_ok h.ok l, young_hear2 h.ok h.young l, fit_hear h.ok h.fit l, h2, fun i hi s hs => ?_⟩
  obtain ⟨e1, e2, _⟩ := docHearM_at d l i
  rw [e2] at hs
  exact h.dok i (by omega) s hs
theorem ends_fresh {c k r : Nat} (h1 : 1 ≤ c) (h2 : c ≤ 8) (h3 : 1 ≤ k) (h4 : k ≤ 4) (h5 : 2 ≤ r) (h6 : r ≤ 100) : Ends (freshN c k r) (docFresh c k r) 0 :=
  ⟨fresh_ok h1 h2 h3 h4 h5 h6, young_fresh c k r, fresh_fit c k r, rel_fresh c k r, fun i hi s hs => by rw [docFresh_at] at hs; simp [Rc.blank] at hs⟩

/-- a sender's ends in memory: the pair, the program's sender, the document's End -/
structure SAt (B : Nat) (w : World) (gp gs ge gl : Nat) (m : Snd) (d : Doc) : Prop where
  pair : w.heap[gp]? = some (.cells #[.pointer (some ⟨gs, 0, none⟩), .pointer none, .pointer (some ⟨ge, 0, none⟩)] 61 (0, 0))
  snd : SndAt w gs m
  doc : DocAt w ge gl d
  sts : StsIn w B d
  ls : B ≤ gs
  le : B ≤ ge
  ll : B ≤ gl
/-- the world that holds them; rv: its receiver's pair -/
structure WAt (B : Nat) (w : World) (wd gp gB : Nat) (rv vs : Value) (fs : List (List UInt8)) (bk : List UInt8) : Prop where
  blk : w.heap[wd]? = some (.cells #[.pointer (some ⟨gp, 0, none⟩), rv, vs, .string (bs bk), .pointer (some ⟨gB, 0, none⟩)] 63 (0, 0))
  sent : w.ownsRow B 9 1 vs fs.length (strs fs)
  lw : B ≤ wd
theorem StsIn.same {w w' : World} {B : Nat} {d : Doc} (h : StsIn w B d) (hb : ∀ (q : Nat) (cs : Array Value), w.heap[q]? = some (.cells cs 128 (0, 0)) → w'.heap[q]? = w.heap[q]?) : StsIn w' B d :=
  fun i hi => ⟨own_same (h i hi).1 (fun q hq => by obtain ⟨cur, hc⟩ := own_ty (h i hi).1 hq; exact hb q cur hc), (h i hi).2⟩
theorem SAt.onlyT {ts : List TypeId} {B : Nat} {w w' : World} {gp gs ge gl : Nat} {m : Snd} {d : Doc} (h : SAt B w gp gs ge gl m d) (o : OnlyT ts w w') (h1 : 61 ∉ ts) (h2 : 82 ∉ ts) (h3 : 94 ∉ ts) (h4 : 126 ∉ ts) (h5 : 128 ∉ ts) : SAt B w' gp gs ge gl m d :=
  ⟨o.keep h.pair h1, o.keep h.snd h2, ⟨o.keep h.doc.head h3, o.keep h.doc.rows h4, h.doc.sl⟩, h.sts.same (fun q cs hq => o.block q cs _ _ hq h5), h.ls, h.le, h.ll⟩
theorem WAt.onlyT {ts : List TypeId} {B : Nat} {w w' : World} {wd gp gB : Nat} {rv vs : Value} {fs : List (List UInt8)} {bk : List UInt8} (h : WAt B w wd gp gB rv vs fs bk) (o : OnlyT ts w w') (h1 : 63 ∉ ts) (h2 : 9 ∉ ts) : WAt B w' wd gp gB rv vs fs bk :=
  ⟨o.keep h.blk h1, o.own h.sent h2, h.lw⟩
theorem SAt.grew {B : Nat} {w w' : World} {gp gs ge gl : Nat} {m : Snd} {d : Doc} (h : SAt B w gp gs ge gl m d) (hb : Below w.heap.size w w') : SAt B w' gp gs ge gl m d :=
  h.onlyT (OnlyT.of_below (ts := []) hb) (by simp) (by simp) (by simp) (by simp) (by simp)
theorem WAt.grew {B : Nat} {w w' : World} {wd gp gB : Nat} {rv vs : Value} {fs : List (List UInt8)} {bk : List UInt8} (h : WAt B w wd gp gB rv vs fs bk) (hb : Below w.heap.size w w') : WAt B w' wd gp gB rv vs fs bk :=
  h.onlyT (OnlyT.of_below (ts := []) hb) (by simp) (by simp)
theorem SAt.rest {S : Nat → Prop} {B : Nat} {w w' : World} {gp gs ge gl : Nat} {m : Snd} {d : Doc} (h : SAt B w gp gs ge gl m d) (o : Only S w w') (hS : ∀ k, S k → ∃ cs t fr, w.heap[k]? = some (.cells cs t fr) ∧ t ≠ 61 ∧ t ≠ 128)
    (h2 : ¬ S gs) (h3 : ¬ S ge) (h4 : ¬ S gl) : SAt B w' gp gs ge gl m d := by
  refine ⟨o.keep h.pair (fun e => ?_), o.keep h.snd h2, ⟨o.keep h.doc.head h3, o.keep h.doc.rows h4, h.doc.sl⟩, h.sts.same (fun q cs hq => o.block q (block_lt hq) (fun e => ?_)), h.ls, h.le, h.ll⟩
  · obtain ⟨cs, t, fr, a, b, c⟩ := hS _ e
    rw [h.pair] at a
    simp at a
    exact b a.2.1.symm
  · obtain ⟨cs', t, fr, a, b, c⟩ := hS _ e
    rw [hq] at a
    simp at a
    exact c a.2.1.symm
theorem WAt.rest {S : Nat → Prop} {B : Nat} {w w' : World} {wd gp gB : Nat} {rv vs : Value} {fs : List (List UInt8)} {bk : List UInt8} (h : WAt B w wd gp gB rv vs fs bk) (o : Only S w w') (h1 : ¬ S wd) (h2 : ∀ g, vs.ownBlock = some g → ¬ S g) : WAt B w' wd gp gB rv vs fs bk :=
  ⟨o.keep h.blk h1, own_same h.sent (fun g hg => by obtain ⟨cur, hc⟩ := own_ty h.sent hg; exact o.block g (block_lt hc) (h2 g hg)), h.lw⟩

end Go.Proofs.YtgpojbgjfibblabGreat.texts
