/- The code answers as the document says: its own walks, put together. No walk here. -/
import Derived.Test.YtggonhciakfabaaDoorLexSide
import Derived.Test.YtggonhciakfabaaDoorLexCodeX
import Derived.Test.YtggonhciakfabaaDoorLexCodeQ
namespace Go.Proofs.YtggonhciakfabaaDoor
open Go.RowKit

theorem lexSide : LexSide := ⟨fun w s h => lex_any w s h, fun w s h => name_any w s (by omega), fun w s h => quote_any w s h⟩
end Go.Proofs.YtggonhciakfabaaDoor
