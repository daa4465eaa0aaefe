/- The last step of a row whose arguments are plain values (numbers, texts, truth): of old memory nothing has turned, whatever has been made anew. -/
import Derived.Below
import Derived.ChangeSame
namespace Go.Proofs.YtnibfebfgdhfgaaGreatDoor
open Go.RowKit Go.WideShapes Go.ChangeShapes

theorem post_flat {H : Type} {enc : TypeId × Value → H} {P : Program} {f : Func} {s : ChangeSpec} {apart fresh handsOn again : Bool} {W W' : World} {args : Array Value} {v : Value} {ds : List (DataW H)}
    (hW : DataW.Whole enc P f.params.toList s.vars apart W args.toList ds [] [])
    (hvars : s.vars = []) (hleft : (s.fn H ds).vars = [])
    (hres : ∀ (b : Nat) (sp : Nat → Bool) (hd : Bool), DataW.TrodAll enc P W' b sp hd f.resultTypes.toList (v.resultList f.resultTypes.size) (s.fn H ds).results [])
    (hargs : ∀ sp : Nat → Bool, DataW.TrodAll enc P W' 0 sp true f.params.toList args.toList (s.fn H ds).args [])
    (hb : Below W.heap.size W W')
    (hok : ∀ (j : Nat) (t : TypeId) (r : Value), f.resultTypes[j]? = some t → (v.resultList f.resultTypes.size)[j]? = some r → Value.okWide P W' .any 0 t r) :
    s.post enc P f apart fresh handsOn again W args v W' := by
  have none : ∀ sp : Nat → Bool, DataW.TrodVars enc P W' sp s.vars (s.fn H ds).vars [] := fun sp => by
    rw [hvars, hleft]; rfl
  refine ⟨ds, [], [], [], [], [], hW, ?_, ?_, ?_, hb.frame _, fun _ => ⟨hok, ?_⟩⟩
  · rw [List.append_nil]; exact hres _ _ _
  · rw [List.append_nil]; exact hargs _
  · rw [List.append_nil]; exact none _
  · have both : DataW.TrodAll enc P W' 0 (fun _ => true) true (f.resultTypes.toList ++ f.params.toList) (v.resultList f.resultTypes.size ++ args.toList) ((s.fn H ds).results ++ (s.fn H ds).args) ([] ++ []) := trodAll_append (hargs _) (hres _ _ _)
    exact ⟨_, _, [], ⟨[], [], both, none _, rfl, (by intro _ _ hp; cases hp), fun _ => List.nodup_nil⟩, (by intro _ hp; cases hp)⟩
end Go.Proofs.YtnibfebfgdhfgaaGreatDoor
