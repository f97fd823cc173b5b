/- Package sector: its contracts as one bundle. -/
import Derived.Test.YtllbemelljaklaaSecC7
namespace Go.Proofs.Ytllbemelljaklaa
open Go.RowKit

/-- block g holds the device d, which lies in the blocks F -/
def DevK (g : Nat) (d : Sm.Dv) (F : Nat → Prop) (W : World) : Prop :=
  ∃ kb nb wa wc lim lf nw, Dk g kb nb wa wc lim lf nw d W ∧ Nv nw d ∧ F = Kf g kb nb wa
theorem secCon : SecCon DevK where
  lt := by
    rintro g d F W ⟨kb, nb, wa, wc, lim, lf, nw, h, hv, rfl⟩
    exact h.f_lt
  ok := by
    rintro g d F W ⟨kb, nb, wa, wc, lim, lf, nw, h, hv, rfl⟩
    exact h.ok
  keep := by
    rintro g d F W W' p ⟨kb, nb, wa, wc, lim, lf, nw, h, hv, rfl⟩ ho hp
    exact ⟨kb, nb, wa, wc, lim, lf, nw, h.keepO ho hp, hv, rfl⟩
  new := by
    intro n W h1 h2
    refine (sec_new n W h1 h2).mono ?_
    rintro e w' ⟨g, kb, nb, rfl, hd, hF, hb⟩
    exact ⟨g, _, rfl, ⟨kb, nb, none, 0, false, 0, _, hd, fun _ _ => rfl, rfl⟩, hF, hb⟩
  bad := fun n W h => sec_bad n W h
  sectors := by
    rintro g d F W ⟨kb, nb, wa, wc, lim, lf, nw, h, hv, rfl⟩
    exact sec_sectors _ _ _ _ _ _ _ _ _ _ h
  waiting := by
    rintro g d F W ⟨kb, nb, wa, wc, lim, lf, nw, h, hv, rfl⟩
    exact sec_waiting _ _ _ _ _ _ _ _ _ _ h
  calls := by
    rintro g d F W ⟨kb, nb, wa, wc, lim, lf, nw, h, hv, rfl⟩
    exact sec_calls _ _ _ _ _ _ _ _ _ _ h
  read := by
    rintro g d F W i ⟨kb, nb, wa, wc, lim, lf, nw, h, hv, rfl⟩ _
    exact sec_read _ _ _ _ _ _ _ _ _ i _ h hv
  write := by
    rintro g d F W i a n c l ⟨kb, nb, wa, wc, lim, lf, nw, h, hv, rfl⟩ hl hy hz _
    refine (sec_write _ _ _ _ _ _ _ _ _ i a n c l _ h hv hl hy hz).mono ?_
    rintro e w' ⟨rfl, ho, wa', wc', lf', nw', hd, hv', hF⟩
    exact ⟨rfl, _, ⟨kb, nb, wa', wc', lim, lf', nw', hd, hv', rfl⟩, ho, hF⟩
  flush := by
    rintro g d F W ⟨kb, nb, wa, wc, lim, lf, nw, h, hv, rfl⟩ hl
    refine (sec_flush _ _ _ _ _ _ _ _ _ _ h hv hl).mono ?_
    rintro e w' ⟨rfl, ho, wa', wc', lf', nw', hd, hv', hF⟩
    exact ⟨rfl, _, ⟨kb, nb, wa', wc', lim, lf', nw', hd, hv', rfl⟩, ho, hF⟩
  limit := by
    rintro g d F W n ⟨kb, nb, wa, wc, lim, lf, nw, h, hv, rfl⟩ _
    refine (sec_limit _ _ _ _ _ _ _ _ _ n _ h).mono ?_
    rintro e w' ⟨rfl, ⟨lf', hd⟩, ho⟩
    exact ⟨rfl, _, ⟨kb, nb, wa, wc, true, lf', nw, hd, hv, rfl⟩, ho.mono (fun k _ e => .inl e), fun k hk => .inl hk⟩
  crash := by
    rintro g d F W a n c ts ⟨kb, nb, wa, wc, lim, lf, nw, h, hv, rfl⟩ hl ht _ hta
    refine (sec_crash _ _ _ _ _ _ _ _ _ a n c ts _ h hv hl ht hta).mono ?_
    rintro e w' ⟨rfl, ho, wa', wc', lim', lf', nw', hd, hv', hF⟩
    exact ⟨rfl, _, ⟨kb, nb, wa', wc', lim', lf', nw', hd, hv', rfl⟩, ho, hF⟩
  nRead := sec_nRead
  nWrite := sec_nWrite
  nFlush := sec_nFlush
  nSectors := sec_nSectors
  nWaiting := sec_nWaiting
  nCalls := sec_nCalls
  nLimit := sec_nLimit
  nCrash := sec_nCrash
end Go.Proofs.Ytllbemelljaklaa
