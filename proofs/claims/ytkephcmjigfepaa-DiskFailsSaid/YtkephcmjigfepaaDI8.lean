/- The landed disk is what the laws of layer 8 ask. -/
import Derived.Test.YtkephcmjigfepaaB8E
import Derived.Test.YtkephcmjigfepaaB8G
import Derived.Test.YtkephcmjigfepaaB8J
set_option linter.unusedVariables false
set_option linter.unusedSimpArgs false
namespace Go.Proofs.Ytkephcmjigfepaa
open Go.ChangeShapes Go.WideShapes Go.ChangeAt Go.RowKit
def diskI : DiskI where
  At := DiskAt
  lt := fun ⟨_, _, _, _, _, _, _, _, h⟩ => h.lt
  ptr := fun ⟨_, _, _, _, _, _, _, e, _⟩ => ⟨_, e⟩
  same := fun ⟨b, bl, bs, vw, RL, RS, RW, e, h⟩ hs => ⟨b, bl, bs, vw, RL, RS, RW, e, h.same hs⟩
  types := fun ⟨_, _, _, _, _, _, _, _, h⟩ b c t f hF ht => h.ty b c t f hF ht
  new := fun room w hr => by have _ := 10; exact b8_new room w hr
  put := fun w F p d k vb B n m hA ok hn hm hk hv okB hB => by have _ := 17; exact b8_put w F p d k vb B n m hA ok hn hm hk hv okB hB
  sync := fun w F p d n m hA ok hn hm => by have _ := 18; exact b8_sync w F p d n m hA ok hn hm
  fail := fun w F p d k hA hk => by
    have _ := 16
    obtain ⟨b, bl, bs, vw, RL, RS, RW, rfl, h⟩ := hA
    refine (b8_fail w b _ _ _ _ _ _ _ k hk h.row).mono ?_
    rintro e w' ⟨⟨v, rfl⟩, r, kw⟩
    exact ⟨F, v, rfl, ⟨b, bl, bs, vw, RL, RS, RW, rfl, h.turn (d' := failSt d k) kw r rfl rfl⟩, DiskAt.step kw h.fb⟩
  crash := fun w F p d k n m hA ok hn hm hk => by have _ := 20; exact b8_crash w F p d k n m hA ok hn hm hk
  getO := fun w F p d k n m hA ok hn hm hk => by have _ := 21; exact b8_get w F p d k n m hA ok hn hm hk
  keys := fun w F p d n m hA ok hn hm => by have _ := 30; exact b8_keys w F p d n m hA ok hn hm
  len := fun w F p d n m hA ok hn hm => by
    have _ := 23
    obtain ⟨b, bl, bs, vw, RL, RS, RW, rfl, h⟩ := hA
    exact b8_len w b _ _ _ _ _ _ _ h.row
  room := fun w F p d hA => by
    have _ := 32
    obtain ⟨b, bl, bs, vw, RL, RS, RW, rfl, h⟩ := hA
    exact b8_room w b _ _ _ _ _ _ _ h.row
  left := fun w F p d n m hA ok hn hm => by
    have _ := 19
    obtain ⟨b, bl, bs, vw, RL, RS, RW, rfl, h⟩ := hA
    have h1 := h.lenW
    have h2 := h.ru.len
    have h3 := ok.len
    have h4 := ok.sum
    rw [← h1]
    exact b8_left w b _ _ _ _ _ _ _ RW h.row h.way (h.ru.ok ok.ru) (by omega) (by omega)
end Go.Proofs.Ytkephcmjigfepaa
