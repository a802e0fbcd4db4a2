import PyProof.Rows.All
import Wide.All
import OpenK.AllK
import Wide.FinOn
import Lean
import PyProof.EqAt
import PyProof.EqKinds
import PyProof.TupleCall
import PySem.SetOps
import PyProof.Rows.SetFrom
import KE.KDictOf
import KE.KLam
import KE.KMinKey
import PySem.Challenge.RW_sidechain_k06_bridges_told
set_option Elab.async false
set_option linter.all false
set_option maxRecDepth 100000
set_option maxHeartbeats 4000000
namespace T6
open PySem
noncomputable def tp (i : Nat) : Stmt := PySem.Challenge.pw_sidechain_k06_bridges_told.main.body.getD i (.Pass ⟨0, 0, 0, 0⟩)
noncomputable def inC (s : Stmt) (j : Nat) : Stmt := match s with
  | .ClassDef _ _ _ b _ _ _ _ _ _ _ => b.getD j (.Pass ⟨0, 0, 0, 0⟩)
  | _ => .Pass ⟨0, 0, 0, 0⟩
noncomputable def dA (s : Stmt) : Arguments := match s with
  | .FunctionDef _ a _ _ _ _ _ _ _ _ => a
  | _ => ⟨[], [], none, [], [], none, []⟩
noncomputable def dB (s : Stmt) : List Stmt := match s with
  | .FunctionDef _ _ b _ _ _ _ _ _ _ => b
  | _ => []
noncomputable def dS (s : Stmt) : Scope := match s with
  | .FunctionDef _ _ _ _ _ _ c _ _ _ => c
  | _ => { kind := .function, names := [], isGenerator := false, isCoroutine := false }
noncomputable abbrev st (x : String) (n : Nat) : Value := .str (Str.ofString x) n
noncomputable abbrev it (n : Int) : Value := .int n 0
noncomputable abbrev rf (a : Addr) : Value := .ref a
noncomputable abbrev kv (P : Params) (x : String) (n : Nat) (v : Value) : DictEntry := { hash := PyData.keyHash P (Str.ofString x), key := st x n, val := v }
noncomputable abbrev oC (vs : Array Value) : Obj := { cls := .type "code", data := .fields vs }
noncomputable abbrev oF (n q : String) (s : Stmt) (pm cd : Value) : Obj := { cls := .type "function", data := .func (PySem.W.fnOf (Str.ofString n) (Str.ofString q) (dA s) (dB s) (dS s) .none .none .none pm none cd .none) }
noncomputable def topK (P : Params) : PySem.W.Frag := [
  (2, { cls := .none, data := .dict #[] }),
  (3, { cls := .type "dict", data := .dict #[kv P "__name__" 165 (st "law_sidechain_k06_bridges_told" 487), kv P "__doc__" 166 .none, kv P "__package__" 167 .none, kv P "__loader__" 168 (.builtin "__main__.__loader__#opaque"), kv P "__spec__" 169 .none, kv P "__annotations__" 170 (rf 6), kv P "__builtins__" 171 (rf 4), kv P "__file__" 173 (st "/claim/cut.py" 172), kv P "__cached__" 174 .none, kv P "_wall" 193 (rf 21), kv P "BoardError" 213 (rf 31), kv P "NoBoard" 229 (rf 44), kv P "NoCell" 245 (rf 56), kv P "NoHand" 261 (rf 68), kv P "CellTaken" 277 (rf 80), kv P "check_hand" 286 (rf 89), kv P "other_hand" 293 (rf 96), kv P "first_side" 299 (rf 101), kv P "on_last_side" 308 (rf 108), kv P "MOST" 312 (Value.int 10 311), kv P "Board" 405 (rf 177), kv P "check_length" 412 (rf 188), kv P "copied" 420 (rf 195), kv P "chain" 428 (rf 200), kv P "way_to" 437 (rf 207), kv P "need" 445 (rf 212), kv P "spread" 459 (rf 219), kv P "passable" 465 (rf 224), kv P "price" 473 (rf 231), kv P "belt" 486 (rf 238), kv P "_law_cell_at" 496 (rf 245), kv P "_law_whole" 503 (rf 252), kv P "_law_owners" 518 (rf 259), kv P "_law_board_of" 529 (rf 266), kv P "_law_near" 542 (rf 273), kv P "_law_is_cells" 552 (rf 280), kv P "_law_is_chain" 565 (rf 287), kv P "_law_joined" 571 (rf 292), kv P "_law_owned" 581 (rf 299), kv P "_law_open" 594 (rf 306), kv P "_law_sizes" 603 (rf 313), kv P "_law_need_form" 610 (rf 320), kv P "_law_no_hand" 620 (rf 327), kv P "_law_bad_hand" 627 (rf 334), kv P "_law_filled" 641 (rf 341), kv P "law" 647 (rf 346)] 46 }),
  (20, oC #[st "_wall" 187, st "_wall" 188, st "/claim/cut.py" 189, it 1, it 1, it 0, it 0, it 3, rf 15, .bool true, it 181, rf 16, .none, rf 17, rf 18, rf 19, it 191, it 1, st "/claim/cut.py" 192]),
  (30, { cls := .type "dict", data := .dict #[kv P "__module__" 203 (st "sidechain.errors" 194), kv P "__firstlineno__" 207 (Value.int 5 206), kv P "__static_attributes__" 208 (rf 29), kv P "__weakref__" 210 (rf 32), kv P "__doc__" 211 .none] 3 }),
  (31, { cls := .type "type", data := .cls { name := Str.ofString "BoardError", bases := [.type "ValueError"], mro := [rf 31, .type "ValueError", .type "Exception", .type "BaseException", .type "object"], ns := 30, qualname := Str.ofString "BoardError", subclasses := [rf 44, rf 56, rf 68, rf 80] }, slots := #[some (rf 22), none, some (st "BoardError" 196), some (st "BoardError" 204), some (.builtin "ValueError.__new__"), some (.bool true)] }),
  (32, { cls := .type "getset_descriptor", data := .fields #[st "__weakref__" 209, rf 31, .builtin "ExceptionGroup.__weakref__", .none] }),
  (43, { cls := .type "dict", data := .dict #[kv P "__module__" 221 (st "sidechain.errors" 194), kv P "__firstlineno__" 225 (Value.int 7 224), kv P "__static_attributes__" 226 (rf 42), kv P "__doc__" 227 .none] 2 }),
  (44, { cls := .type "type", data := .cls { name := Str.ofString "NoBoard", bases := [rf 31], mro := [rf 44, rf 31, .type "ValueError", .type "Exception", .type "BaseException", .type "object"], ns := 43, qualname := Str.ofString "NoBoard" }, slots := #[some (rf 35), none, some (st "NoBoard" 214), some (st "NoBoard" 222), some (.builtin "ValueError.__new__"), some (.bool true)] }),
  (55, { cls := .type "dict", data := .dict #[kv P "__module__" 237 (st "sidechain.errors" 194), kv P "__firstlineno__" 241 (Value.int 9 240), kv P "__static_attributes__" 242 (rf 54), kv P "__doc__" 243 .none] 2 }),
  (56, { cls := .type "type", data := .cls { name := Str.ofString "NoCell", bases := [rf 31], mro := [rf 56, rf 31, .type "ValueError", .type "Exception", .type "BaseException", .type "object"], ns := 55, qualname := Str.ofString "NoCell" }, slots := #[some (rf 47), none, some (st "NoCell" 230), some (st "NoCell" 238), some (.builtin "ValueError.__new__"), some (.bool true)] }),
  (67, { cls := .type "dict", data := .dict #[kv P "__module__" 253 (st "sidechain.errors" 194), kv P "__firstlineno__" 257 (Value.int 11 256), kv P "__static_attributes__" 258 (rf 66), kv P "__doc__" 259 .none] 2 }),
  (68, { cls := .type "type", data := .cls { name := Str.ofString "NoHand", bases := [rf 31], mro := [rf 68, rf 31, .type "ValueError", .type "Exception", .type "BaseException", .type "object"], ns := 67, qualname := Str.ofString "NoHand" }, slots := #[some (rf 59), none, some (st "NoHand" 246), some (st "NoHand" 254), some (.builtin "ValueError.__new__"), some (.bool true)] }),
  (79, { cls := .type "dict", data := .dict #[kv P "__module__" 269 (st "sidechain.errors" 194), kv P "__firstlineno__" 273 (Value.int 13 272), kv P "__static_attributes__" 274 (rf 78), kv P "__doc__" 275 .none] 2 }),
  (80, { cls := .type "type", data := .cls { name := Str.ofString "CellTaken", bases := [rf 31], mro := [rf 80, rf 31, .type "ValueError", .type "Exception", .type "BaseException", .type "object"], ns := 79, qualname := Str.ofString "CellTaken" }, slots := #[some (rf 71), none, some (st "CellTaken" 262), some (st "CellTaken" 270), some (.builtin "ValueError.__new__"), some (.bool true)] }),
  (88, oC #[st "check_hand" 280, st "check_hand" 281, st "/claim/cut.py" 282, it 16, it 1, it 0, it 0, it 3, rf 83, .bool true, it 181, rf 84, .none, rf 85, rf 86, rf 87, it 284, it 16, st "/claim/cut.py" 285]),
  (89, oF "check_hand" "check_hand" (tp 8) (st "sidechain.hands" 278) (rf 88)),
  (95, oC #[st "other_hand" 287, st "other_hand" 288, st "/claim/cut.py" 289, it 19, it 1, it 0, it 0, it 3, rf 90, .bool true, it 181, rf 91, .none, rf 92, rf 93, rf 94, it 291, it 19, st "/claim/cut.py" 292]),
  (96, oF "other_hand" "other_hand" (tp 9) (st "sidechain.hands" 278) (rf 95)),
  (100, oC #[st "first_side" 294, st "first_side" 295, st "/claim/cut.py" 296, it 21, it 2, it 0, it 0, it 3, rf 97, .bool true, it 181, rf 98, .none, .none, .none, rf 99, it 297, it 21, st "/claim/cut.py" 298]),
  (101, oF "first_side" "first_side" (tp 10) (st "sidechain.hands" 278) (rf 100)),
  (107, oC #[st "on_last_side" 300, st "on_last_side" 301, st "/claim/cut.py" 302, it 25, it 3, it 0, it 0, it 3, rf 102, .bool true, it 181, rf 103, .none, rf 104, rf 105, rf 106, it 306, it 25, st "/claim/cut.py" 307]),
  (108, oF "on_last_side" "on_last_side" (tp 11) (st "sidechain.hands" 278) (rf 107)),
  (121, oC #[st "__init__" 325, st "Board.__init__" 326, st "/claim/cut.py" 327, it 33, it 3, it 0, it 0, it 3, rf 116, .bool true, it 181, rf 117, .none, rf 118, rf 119, rf 120, it 333, it 33, st "/claim/cut.py" 334]),
  (122, oF "__init__" "Board.__init__" (inC (tp 14) 0) (st "sidechain.board" 309) (rf 121)),
  (128, oC #[st "rows" 336, st "Board.rows" 337, st "/claim/cut.py" 338, it 43, it 1, it 0, it 0, it 3, rf 123, .bool true, it 181, rf 124, .none, rf 125, rf 126, rf 127, it 340, it 43, st "/claim/cut.py" 341]),
  (129, oF "rows" "Board.rows" (inC (tp 14) 1) (st "sidechain.board" 309) (rf 128)),
  (135, oC #[st "columns" 343, st "Board.columns" 344, st "/claim/cut.py" 345, it 46, it 1, it 0, it 0, it 3, rf 130, .bool true, it 181, rf 131, .none, rf 132, rf 133, rf 134, it 347, it 46, st "/claim/cut.py" 348]),
  (136, oF "columns" "Board.columns" (inC (tp 14) 2) (st "sidechain.board" 309) (rf 135)),
  (142, oC #[st "put" 350, st "Board.put" 351, st "/claim/cut.py" 352, it 49, it 3, it 0, it 0, it 3, rf 137, .bool true, it 181, rf 138, .none, rf 139, rf 140, rf 141, it 356, it 49, st "/claim/cut.py" 357]),
  (143, oF "put" "Board.put" (inC (tp 14) 3) (st "sidechain.board" 309) (rf 142)),
  (149, oC #[st "lift" 359, st "Board.lift" 360, st "/claim/cut.py" 361, it 56, it 2, it 0, it 0, it 3, rf 144, .bool true, it 181, rf 145, .none, rf 146, rf 147, rf 148, it 364, it 56, st "/claim/cut.py" 365]),
  (156, oC #[st "owner" 367, st "Board.owner" 368, st "/claim/cut.py" 369, it 59, it 2, it 0, it 0, it 3, rf 151, .bool true, it 181, rf 152, .none, rf 153, rf 154, rf 155, it 372, it 59, st "/claim/cut.py" 373]),
  (157, oF "owner" "Board.owner" (inC (tp 14) 5) (st "sidechain.board" 309) (rf 156)),
  (161, oC #[st "near" 375, st "Board.near" 376, st "/claim/cut.py" 377, it 63, it 2, it 0, it 0, it 3, rf 158, .bool true, it 181, rf 159, .none, .none, .none, rf 160, it 378, it 63, st "/claim/cut.py" 379]),
  (162, oF "near" "Board.near" (inC (tp 14) 6) (st "sidechain.board" 309) (rf 161)),
  (166, oC #[st "empties" 381, st "Board.empties" 382, st "/claim/cut.py" 383, it 70, it 1, it 0, it 0, it 3, rf 163, .bool true, it 181, rf 164, .none, .none, .none, rf 165, it 384, it 70, st "/claim/cut.py" 385]),
  (167, oF "empties" "Board.empties" (inC (tp 14) 7) (st "sidechain.board" 309) (rf 166)),
  (173, oC #[st "check_cell" 387, st "Board.check_cell" 388, st "/claim/cut.py" 389, it 73, it 2, it 0, it 0, it 3, rf 168, .bool true, it 181, rf 169, .none, rf 170, rf 171, rf 172, it 392, it 73, st "/claim/cut.py" 393]),
  (174, oF "check_cell" "Board.check_cell" (inC (tp 14) 8) (st "sidechain.board" 309) (rf 173)),
  (176, { cls := .type "dict", data := .dict #[kv P "__module__" 320 (st "sidechain.board" 309), kv P "__firstlineno__" 324 (Value.int 31 323), kv P "__init__" 335 (rf 122), kv P "rows" 342 (rf 129), kv P "columns" 349 (rf 136), kv P "put" 358 (rf 143), kv P "lift" 366 (rf 150), kv P "owner" 374 (rf 157), kv P "near" 380 (rf 162), kv P "empties" 386 (rf 167), kv P "check_cell" 394 (rf 174), kv P "__static_attributes__" 398 (rf 175), kv P "__dict__" 400 (rf 178), kv P "__weakref__" 402 (rf 179), kv P "__doc__" 403 .none] 4 }),
  (177, { cls := .type "type", data := .cls { name := Str.ofString "Board", bases := [.type "object"], mro := [rf 177, .type "object"], ns := 176, qualname := Str.ofString "Board" }, slots := #[none, none, some (st "Board" 313), some (st "Board" 321), some (.builtin "object.__new__"), some (.bool true)] }),
  (178, { cls := .type "getset_descriptor", data := .fields #[st "__dict__" 399, rf 177, .builtin "function.__dict__", .builtin "function.__dict__#set"] }),
  (179, { cls := .type "getset_descriptor", data := .fields #[st "__weakref__" 401, rf 177, .builtin "ExceptionGroup.__weakref__", .none] }),
  (187, oC #[st "check_length" 406, st "check_length" 407, st "/claim/cut.py" 408, it 76, it 1, it 0, it 0, it 3, rf 182, .bool true, it 181, rf 183, .none, rf 184, rf 185, rf 186, it 410, it 76, st "/claim/cut.py" 411]),
  (188, oF "check_length" "check_length" (tp 15) (st "sidechain.board" 309) (rf 187)),
  (194, oC #[st "copied" 413, st "copied" 414, st "/claim/cut.py" 415, it 79, it 1, it 0, it 0, it 3, rf 189, .bool true, it 181, rf 190, .none, rf 191, rf 192, rf 193, it 418, it 79, st "/claim/cut.py" 419]),
  (195, oF "copied" "copied" (tp 16) (st "sidechain.board" 309) (rf 194)),
  (199, oC #[st "chain" 423, st "chain" 424, st "/claim/cut.py" 425, it 84, it 2, it 0, it 0, it 3, rf 196, .bool true, it 181, rf 197, .none, .none, .none, rf 198, it 426, it 84, st "/claim/cut.py" 427]),
  (200, oF "chain" "chain" (tp 18) (st "sidechain.chains" 421) (rf 199)),
  (206, oC #[st "way_to" 429, st "way_to" 430, st "/claim/cut.py" 431, it 100, it 2, it 0, it 0, it 3, rf 201, .bool true, it 181, rf 202, .none, rf 203, rf 204, rf 205, it 435, it 100, st "/claim/cut.py" 436]),
  (207, oF "way_to" "way_to" (tp 19) (st "sidechain.chains" 421) (rf 206)),
  (211, oC #[st "need" 440, st "need" 441, st "/claim/cut.py" 442, it 108, it 2, it 0, it 0, it 3, rf 208, .bool true, it 181, rf 209, .none, .none, .none, rf 210, it 443, it 108, st "/claim/cut.py" 444]),
  (212, oF "need" "need" (tp 21) (st "sidechain.needs" 438) (rf 211)),
  (218, oC #[st "spread" 446, st "spread" 447, st "/claim/cut.py" 448, it 120, it 4, it 0, it 0, it 3, rf 213, .bool true, it 181, rf 214, .none, rf 215, rf 216, rf 217, it 457, it 120, st "/claim/cut.py" 458]),
  (219, oF "spread" "spread" (tp 22) (st "sidechain.needs" 438) (rf 218)),
  (223, oC #[st "passable" 460, st "passable" 461, st "/claim/cut.py" 462, it 133, it 3, it 0, it 0, it 3, rf 220, .bool true, it 181, rf 221, .none, .none, .none, rf 222, it 463, it 133, st "/claim/cut.py" 464]),
  (224, oF "passable" "passable" (tp 23) (st "sidechain.needs" 438) (rf 223)),
  (230, oC #[st "price" 466, st "price" 467, st "/claim/cut.py" 468, it 135, it 2, it 0, it 0, it 3, rf 225, .bool true, it 181, rf 226, .none, rf 227, rf 228, rf 229, it 471, it 135, st "/claim/cut.py" 472]),
  (231, oF "price" "price" (tp 24) (st "sidechain.needs" 438) (rf 230)),
  (237, oC #[st "belt" 474, st "belt" 475, st "/claim/cut.py" 476, it 137, it 4, it 0, it 0, it 3, rf 232, .bool true, it 181, rf 233, .none, rf 234, rf 235, rf 236, it 484, it 137, st "/claim/cut.py" 485]),
  (238, oF "belt" "belt" (tp 25) (st "sidechain.needs" 438) (rf 237)),
  (244, oC #[st "_law_cell_at" 489, st "_law_cell_at" 490, st "/claim/cut.py" 491, it 145, it 2, it 0, it 0, it 3, rf 239, .bool true, it 181, rf 240, .none, rf 241, rf 242, rf 243, it 494, it 145, st "/claim/cut.py" 495]),
  (245, oF "_law_cell_at" "_law_cell_at" (tp 27) (st "law_sidechain_k06_bridges_told" 487) (rf 244)),
  (251, oC #[st "_law_whole" 497, st "_law_whole" 498, st "/claim/cut.py" 499, it 149, it 1, it 0, it 0, it 3, rf 246, .bool true, it 181, rf 247, .none, rf 248, rf 249, rf 250, it 501, it 149, st "/claim/cut.py" 502]),
  (252, oF "_law_whole" "_law_whole" (tp 28) (st "law_sidechain_k06_bridges_told" 487) (rf 251)),
  (258, oC #[st "_law_owners" 504, st "_law_owners" 505, st "/claim/cut.py" 506, it 151, it 5, it 0, it 0, it 3, rf 253, .bool true, it 181, rf 254, .none, rf 255, rf 256, rf 257, it 516, it 151, st "/claim/cut.py" 517]),
  (259, oF "_law_owners" "_law_owners" (tp 29) (st "law_sidechain_k06_bridges_told" 487) (rf 258)),
  (265, oC #[st "_law_board_of" 519, st "_law_board_of" 520, st "/claim/cut.py" 521, it 164, it 3, it 0, it 0, it 3, rf 260, .bool true, it 181, rf 261, .none, rf 262, rf 263, rf 264, it 527, it 164, st "/claim/cut.py" 528]),
  (266, oF "_law_board_of" "_law_board_of" (tp 30) (st "law_sidechain_k06_bridges_told" 487) (rf 265)),
  (272, oC #[st "_law_near" 530, st "_law_near" 531, st "/claim/cut.py" 532, it 169, it 3, it 0, it 0, it 3, rf 267, .bool true, it 181, rf 268, .none, rf 269, rf 270, rf 271, it 540, it 169, st "/claim/cut.py" 541]),
  (273, oF "_law_near" "_law_near" (tp 31) (st "law_sidechain_k06_bridges_told" 487) (rf 272)),
  (279, oC #[st "_law_is_cells" 543, st "_law_is_cells" 544, st "/claim/cut.py" 545, it 176, it 3, it 0, it 0, it 3, rf 274, .bool true, it 181, rf 275, .none, rf 276, rf 277, rf 278, it 550, it 176, st "/claim/cut.py" 551]),
  (280, oF "_law_is_cells" "_law_is_cells" (tp 32) (st "law_sidechain_k06_bridges_told" 487) (rf 279)),
  (286, oC #[st "_law_is_chain" 553, st "_law_is_chain" 554, st "/claim/cut.py" 555, it 187, it 5, it 0, it 0, it 3, rf 281, .bool true, it 181, rf 282, .none, rf 283, rf 284, rf 285, it 563, it 187, st "/claim/cut.py" 564]),
  (287, oF "_law_is_chain" "_law_is_chain" (tp 33) (st "law_sidechain_k06_bridges_told" 487) (rf 286)),
  (291, oC #[st "_law_joined" 566, st "_law_joined" 567, st "/claim/cut.py" 568, it 199, it 4, it 0, it 0, it 3, rf 288, .bool true, it 181, rf 289, .none, .none, .none, rf 290, it 569, it 199, st "/claim/cut.py" 570]),
  (292, oF "_law_joined" "_law_joined" (tp 34) (st "law_sidechain_k06_bridges_told" 487) (rf 291)),
  (298, oC #[st "_law_owned" 572, st "_law_owned" 573, st "/claim/cut.py" 574, it 215, it 2, it 0, it 0, it 3, rf 293, .bool true, it 181, rf 294, .none, rf 295, rf 296, rf 297, it 579, it 215, st "/claim/cut.py" 580]),
  (299, oF "_law_owned" "_law_owned" (tp 35) (st "law_sidechain_k06_bridges_told" 487) (rf 298)),
  (305, oC #[st "_law_open" 582, st "_law_open" 583, st "/claim/cut.py" 584, it 221, it 4, it 0, it 0, it 3, rf 300, .bool true, it 181, rf 301, .none, rf 302, rf 303, rf 304, it 592, it 221, st "/claim/cut.py" 593]),
  (306, oF "_law_open" "_law_open" (tp 36) (st "law_sidechain_k06_bridges_told" 487) (rf 305)),
  (312, oC #[st "_law_sizes" 595, st "_law_sizes" 596, st "/claim/cut.py" 597, it 228, it 2, it 0, it 0, it 3, rf 307, .bool true, it 181, rf 308, .none, rf 309, rf 310, rf 311, it 601, it 228, st "/claim/cut.py" 602]),
  (313, oF "_law_sizes" "_law_sizes" (tp 37) (st "law_sidechain_k06_bridges_told" 487) (rf 312)),
  (319, oC #[st "_law_need_form" 604, st "_law_need_form" 605, st "/claim/cut.py" 606, it 233, it 1, it 0, it 0, it 3, rf 314, .bool true, it 181, rf 315, .none, rf 316, rf 317, rf 318, it 608, it 233, st "/claim/cut.py" 609]),
  (320, oF "_law_need_form" "_law_need_form" (tp 38) (st "law_sidechain_k06_bridges_told" 487) (rf 319)),
  (326, oC #[st "_law_no_hand" 611, st "_law_no_hand" 612, st "/claim/cut.py" 613, it 239, it 2, it 0, it 0, it 3, rf 321, .bool true, it 181, rf 322, .none, rf 323, rf 324, rf 325, it 618, it 239, st "/claim/cut.py" 619]),
  (327, oF "_law_no_hand" "_law_no_hand" (tp 39) (st "law_sidechain_k06_bridges_told" 487) (rf 326)),
  (333, oC #[st "_law_bad_hand" 621, st "_law_bad_hand" 622, st "/claim/cut.py" 623, it 246, it 1, it 0, it 0, it 3, rf 328, .bool true, it 181, rf 329, .none, rf 330, rf 331, rf 332, it 625, it 246, st "/claim/cut.py" 626]),
  (334, oF "_law_bad_hand" "_law_bad_hand" (tp 40) (st "law_sidechain_k06_bridges_told" 487) (rf 333)),
  (340, oC #[st "_law_filled" 628, st "_law_filled" 629, st "/claim/cut.py" 630, it 248, it 6, it 0, it 0, it 3, rf 335, .bool true, it 181, rf 336, .none, rf 337, rf 338, rf 339, it 639, it 248, st "/claim/cut.py" 640]),
  (341, oF "_law_filled" "_law_filled" (tp 41) (st "law_sidechain_k06_bridges_told" 487) (rf 340)),
  (345, oC #[st "law" 642, st "law" 643, st "/claim/cut.py" 644, it 257, it 1, it 0, it 0, it 3, rf 342, .bool true, it 181, rf 343, .none, .none, .none, rf 344, it 645, it 257, st "/claim/cut.py" 646]),
  (346, oF "law" "law" (tp 42) (st "law_sidechain_k06_bridges_told" 487) (rf 345))]
noncomputable def topAs : List Addr := [2, 3, 20, 30, 31, 32, 43, 44, 55, 56, 67, 68, 79, 80, 88, 89, 95, 96, 100, 101, 107, 108, 121, 122, 128, 129, 135, 136, 142, 143, 149, 156, 157, 161, 162, 166, 167, 173, 174, 176, 177, 178, 179, 187, 188, 194, 195, 199, 200, 206, 207, 211, 212, 218, 219, 223, 224, 230, 231, 237, 238, 244, 245, 251, 252, 258, 259, 265, 266, 272, 273, 279, 280, 286, 287, 291, 292, 298, 299, 305, 306, 312, 313, 319, 320, 326, 327, 333, 334, 340, 341, 345, 346]
noncomputable def topQ : Program := { PySem.Challenge.pw_sidechain_k06_bridges_told with main := { PySem.Challenge.pw_sidechain_k06_bridges_told.main with body := [tp 42] } }
noncomputable def topL : List Str := [Str.ofString "_wall", Str.ofString "BoardError", Str.ofString "NoBoard", Str.ofString "NoCell", Str.ofString "NoHand", Str.ofString "CellTaken", Str.ofString "check_hand", Str.ofString "other_hand", Str.ofString "first_side", Str.ofString "on_last_side", Str.ofString "MOST", Str.ofString "Board", Str.ofString "check_length", Str.ofString "copied", Str.ofString "chain", Str.ofString "way_to", Str.ofString "need", Str.ofString "spread", Str.ofString "passable", Str.ofString "price", Str.ofString "belt", Str.ofString "_law_cell_at", Str.ofString "_law_whole", Str.ofString "_law_owners", Str.ofString "_law_board_of", Str.ofString "_law_near", Str.ofString "_law_is_cells", Str.ofString "_law_is_chain", Str.ofString "_law_joined", Str.ofString "_law_owned", Str.ofString "_law_open", Str.ofString "_law_sizes", Str.ofString "_law_need_form", Str.ofString "_law_no_hand", Str.ofString "_law_bad_hand", Str.ofString "_law_filled"]
noncomputable abbrev topH : PySem.W.Hook := PySem.W.kmHook topK topAs (fun _ => rfl) [209]
theorem topRun : PySem.W.LeftO PySem.Challenge.rw_sidechain_k06_bridges_told.row.prog topQ topL (fun s => PySem.W.xlAt topQ [] s && PySem.W.recOk PySem.Challenge.rw_sidechain_k06_bridges_told.row.records s) topH.obs topH.val 5116 := fun w => by kernel_rfl
end T6

namespace L2
open PySem PySem.Spec PyProof.Rows

noncomputable abbrev Key := Sum Int Str
noncomputable def keyIs : Key → Value → Bool
  | .inl k, v => Value.isInt k v
  | .inr x, v => Value.isStrOf x v
noncomputable def keyH (w : World) : Key → Int
  | .inl k => hashInt k
  | .inr x => hashStr w x
theorem keyIs_shape : ∀ {k : Key} {v : Value}, keyIs k v = true → (∃ i t, k = Sum.inl i ∧ v = Value.int i t) ∨ (∃ x t, k = Sum.inr x ∧ v = Value.str x t)
  | .inl i, v, h => by
    obtain ⟨t, e⟩ := Value.isInt_shape (k := i) (v := v) h
    exact .inl ⟨i, t, rfl, e⟩
  | .inr x, v, h => by
    obtain ⟨t, e⟩ := Value.isStrOf_shape (x := x) (v := v) h
    exact .inr ⟨x, t, rfl, e⟩
theorem keyIs_int (i : Int) (t : Tok) : keyIs (.inl i) (.int i t) = true := by simp [keyIs, Value.isInt]
theorem keyIs_str (x : Str) (t : Tok) : keyIs (.inr x) (.str x t) = true := by simp [keyIs, Value.isStrOf]
theorem key_ll (a b : Int) : decide ((Sum.inl a : Key) = Sum.inl b) = (a == b) := by
  by_cases e : a = b
  · subst e; simp
  · have h : ¬ (Sum.inl a : Key) = Sum.inl b := fun q => e (Sum.inl.inj q)
    rw [decide_eq_false h]
    exact (beq_eq_false_iff_ne.mpr e).symm
theorem key_rr (a b : Str) : decide ((Sum.inr a : Key) = Sum.inr b) = decide (a = b) := by
  by_cases e : a = b
  · subst e; simp
  · have h : ¬ (Sum.inr a : Key) = Sum.inr b := fun q => e (Sum.inr.inj q)
    rw [decide_eq_false h, decide_eq_false e]
theorem key_lr (a : Int) (b : Str) : decide ((Sum.inl a : Key) = Sum.inr b) = false := decide_eq_false (fun q => nomatch q)
theorem key_rl (a : Str) (b : Int) : decide ((Sum.inr a : Key) = Sum.inl b) = false := decide_eq_false (fun q => nomatch q)
noncomputable def mixKind (prog : Program) (w : World) : PySem.KeyKind prog w Key where
  is := keyIs
  hash := keyH w
  inj := fun v a b ha hb => by
    rcases keyIs_shape ha with ⟨i, t, rfl, rfl⟩ | ⟨x, t, rfl, rfl⟩
    · rcases keyIs_shape hb with ⟨j, u, rfl, e⟩ | ⟨y, u, rfl, e⟩
      · injection e with e1 _; rw [e1]
      · exact nomatch e
    · rcases keyIs_shape hb with ⟨j, u, rfl, e⟩ | ⟨y, u, rfl, e⟩
      · exact nomatch e
      · injection e with e1 _; rw [e1]
  byValue := fun k v h => by
    rcases keyIs_shape h with ⟨i, t, rfl, rfl⟩ | ⟨x, t, rfl, rfl⟩ <;> rfl
  pyHash := fun hv h => by
    rcases keyIs_shape hv with ⟨i, t, rfl, rfl⟩ | ⟨x, t, rfl, rfl⟩
    · exact wpAny_pyHash_int h
    · exact wpAny_pyHash_str h
  eqBool := fun hu hv h => by
    rcases keyIs_shape hu with ⟨i, t, rfl, rfl⟩ | ⟨x, t, rfl, rfl⟩
    · rcases keyIs_shape hv with ⟨j, u, rfl, rfl⟩ | ⟨y, u, rfl, rfl⟩
      · rw [key_ll] at h; exact wpAny_eqBool_int h
      · rw [key_lr] at h; exact SeqAt.EqAt.int_str i t y u _ _ _ _ h
    · rcases keyIs_shape hv with ⟨j, u, rfl, rfl⟩ | ⟨y, u, rfl, rfl⟩
      · rw [key_rl] at h; exact SeqAt.EqAt.str_int x t j u _ _ _ _ h
      · rw [key_rr] at h; exact wpAny_eqBool_str h
  «strs» := fun k x t v h => by
    rcases keyIs_shape h with ⟨i, u, rfl, e⟩ | ⟨y, u, rfl, e⟩
    · exact nomatch e
    · injection e with e1 _
      subst e1
      cases v <;> rfl
theorem mixKind_int (prog : Program) (w : World) (i : Int) (t : Tok) : (mixKind prog w).is (.inl i) (.int i t) = true := keyIs_int i t
theorem mixKind_str (prog : Program) (w : World) (x : Str) (t : Tok) : (mixKind prog w).is (.inr x) (.str x t) = true := keyIs_str x t
end L2

namespace L2
open PySem PySem.Spec PyProof.Rows

inductive V where
  | non | bl (b : Bool) | int (i : Int) | str (x : Str) | byt (b : Array UInt8) | flt (b : UInt64) | ref (a : Addr) | ty (n : String)
  deriving DecidableEq
noncomputable def RelV : V → Value → Prop
  | .non, u => u = Value.none
  | .bl b, u => u = Value.bool b
  | .int i, u => ∃ t, u = Value.int i t
  | .str x, u => ∃ t, u = Value.str x t
  | .byt b, u => ∃ t, u = Value.bytes b t
  | .flt b, u => ∃ t, u = Value.float b t
  | .ref a, u => u = Value.ref a
  | .ty n, u => u = Value.type n
noncomputable abbrev Vals : List V → List Value → Prop := Paired RelV
theorem Vals.length {xs : List V} {us : List Value} (r : Vals xs us) : xs.length = us.length := Paired.length r
theorem Vals.get : ∀ {xs : List V} {us : List Value} {i : Nat} {x : V}, Vals xs us → xs[i]? = some x → ∃ u, us[i]? = some u ∧ RelV x u
  | _, _, _, _, .nil, e => by simp at e
  | _, _, 0, _, .cons r _, e => by simp at e; subst e; exact ⟨_, rfl, r⟩
  | _, _, i + 1, x, .cons _ t, e => by
    obtain ⟨u, h1, h2⟩ := Vals.get (i := i) (x := x) t (by simpa using e)
    exact ⟨u, by simpa using h1, h2⟩
theorem Vals.append : ∀ {xs ys : List V} {us ws : List Value}, Vals xs us → Vals ys ws → Vals (xs ++ ys) (us ++ ws)
  | _, _, _, _, .nil, s => s
  | _, _, _, _, .cons r t, s => .cons r (Vals.append t s)
noncomputable def RelO : Option V → Option Value → Prop
  | some v, some u => RelV v u
  | none, none => True
  | _, _ => False
noncomputable def KV {κ : Type} : List (κ × V) → List (κ × Value) → Prop := Paired fun (p : κ × V) (q : κ × Value) => p.1 = q.1 ∧ RelV p.2 q.2
noncomputable def kV : Key → V
  | .inl i => .int i
  | .inr x => .str x
inductive HO where
  /-- a list -/
  | lst (xs : List V)
  /-- a tuple (never changes) -/
  | tup (xs : List V)
  /-- a dict whose keys are ints and texts; one whose keys are tuples of ints and texts (the empty one is both) -/
  | dK (kvs : List (Key × V)) | dT (kvs : List (List Key × V))
  /-- a set of ints: its members, its size -/
  | set (S : Int → Bool) (n : Nat)
  /-- an instance of the class at C, its dict at dx, its attributes -/
  | ins (C dx : Addr) (fs : List (Str × V))
  /-- the dict of the instance at x -/
  | own (x : Addr)
  /-- the dict of an exception -/
  | xd (fs : List (Str × V))
  /-- a bound method, f of x -/
  | met (f x : Addr)
  /-- a range object lo, lo + 1, .. below hi -/
  | rng (lo hi : Int)
  /-- a thing that is known to the object (the script; a dict while a loop walks it): read, never written while it is so -/
  | frz (o : Obj) (u : HO)
  /-- a code object's table -/
  | tbl (ps : Array Value)
  /-- any other thing, by what is true of its one object (a def of one's own: SetO a S n := HO.ext fun h => ..) -/
  | ext (φ : Heap → Prop)
noncomputable abbrev Hp := Addr → Option HO
noncomputable def upd (H : Hp) (a : Addr) (o : HO) : Hp := fun b => if b = a then some o else H b
theorem upd_same {H : Hp} {a : Addr} {o : HO} : upd H a o a = some o := by unfold upd; rw [if_pos rfl]
theorem upd_ne {H : Hp} {a b : Addr} {o : HO} (h : b ≠ a) : upd H a o b = H b := by unfold upd; rw [if_neg h]
theorem upd_upd {H : Hp} {a : Addr} {o u : HO} : upd (upd H a o) a u = upd H a u := by
  funext b; unfold upd; split <;> rfl
theorem ne_of {H : Hp} {a b : Addr} {o u : HO} (h : H a = some o) (h' : H b = some u) (d : o ≠ u) : a ≠ b := by
  intro e; subst e; rw [h] at h'; exact d (Option.some.inj h')
theorem ne_of_none {H : Hp} {a b : Addr} {o : HO} (h : H a = some o) (h' : H b = none) : a ≠ b := by
  intro e; subst e; rw [h] at h'; cases h'
section
variable (P : Program) (w : World)
noncomputable def ObjOk (H : Hp) (h : Heap) (a : Addr) : HO → Prop
  | .lst xs => xs.length ≤ sizeLine ∧ ∃ (its : List Value) (n : Nat), Vals xs its ∧ h.get? a = some { cls := .type "list", data := .seq its.toArray n }
  | .tup xs => xs.length ≤ sizeLine ∧ ∃ its : List Value, Vals xs its ∧ IsTup h a its.toArray
  | .dK kvs => kvs.length ≤ sizeLine ∧ (a == sysModules) = false ∧ ∃ vs, KV kvs vs ∧ h.DictOf (mixKind P w) a vs
  | .dT kvs => kvs.length ≤ sizeLine ∧ (a == sysModules) = false ∧ ∃ xs : List (List Key × Addr × Value),
      Paired (fun (p : List Key × V) (q : List Key × Addr × Value) => p.1 = q.1 ∧ H q.2.1 = some (.tup (p.1.map kV)) ∧ RelV p.2 q.2.2) kvs xs ∧
      ∃ o es ep, h.get? a = some o ∧ o.ExactDict ∧ o.data = .dict es ep ∧ es.toList = xs.map (entryOfKey (tupleKind (mixKind P w))) ∧ (xs.map (·.1)).Nodup
  | .set S n => h.SetOf (intKind P w) a S n
  | .ins C dx fs => H dx = some (.own a) ∧ fs.length ≤ 1000 ∧ dx ≠ a ∧ h.get? a = some (PySem.W.instObj C dx) ∧
      ∃ mA, h.Ns1 dx mA ∧ (∀ f, RelO (fs.lookup f) (mA f)) ∧ PySem.Within mA (fs.map (·.1))
  | .own _ => ∃ o, h.get? a = some o
  | .xd fs => ∃ mA, h.Ns1 a mA ∧ ∀ f, RelO (fs.lookup f) (mA f)
  | .rng lo hi => ∃ t u v, h.get? a = some { cls := .type "range", data := .fields #[.int lo t, .int hi u, .int 1 v] }
  | .frz o u => h.get? a = some o ∧ ObjOk H h a u
  | .tbl ps => h.get? a = some { cls := .none, data := .fields ps }
  | .met f x => h.get? a = some (PySem.W.methodObj (.ref f) (.ref x))
  | .ext φ => φ h ∧ (∃ o, h.get? a = some o) ∧ ∀ h1 h2 : Heap, φ h1 → (∀ o, h1.get? a = some o → h2.get? a = some o) → φ h2
noncomputable def HOk (H : Hp) (h : Heap) : Prop := ∀ a o, H a = some o → ObjOk P w H h a o
end

section
variable {P : Program} {w : World} {H H' : Hp} {h h' : Heap} {a : Addr} {o : HO}
theorem ObjOk.lt (x : ObjOk P w H h a o) : a < h.objs.size := by
  cases o with
  | lst xs => obtain ⟨_, _, _, _, e⟩ := x; exact Heap.lt_size e
  | tup xs => obtain ⟨_, _, _, p⟩ := x; exact p.lt
  | dK kvs => obtain ⟨_, _, _, _, o, _, _, e, _⟩ := x; exact Heap.lt_size e
  | dT kvs => obtain ⟨_, _, _, _, o, _, _, e, _⟩ := x; exact Heap.lt_size e
  | set S n => obtain ⟨o, _, _, _, e, _⟩ := x; exact Heap.lt_size e
  | ins C dx fs => obtain ⟨_, _, _, e, _⟩ := x; exact Heap.lt_size e
  | own y => obtain ⟨_, e⟩ := x; exact Heap.lt_size e
  | xd fs => obtain ⟨_, ⟨_, _, _, e, _⟩, _⟩ := x; exact Heap.lt_size e
  | rng lo hi => obtain ⟨_, _, _, e⟩ := x; exact Heap.lt_size e
  | frz ob u => obtain ⟨e, _⟩ := x; exact Heap.lt_size e
  | tbl ps => exact Heap.lt_size (show h.get? a = some _ from x)
  | met f y => exact Heap.lt_size (show h.get? a = some _ from x)
  | ext φ => obtain ⟨_, ⟨_, e⟩, _⟩ := x; exact Heap.lt_size e
theorem Paired.mapP {α β : Type} {F G : α → β → Prop} : ∀ {l₁ : List α} {l₂ : List β}, Paired F l₁ l₂ → (∀ a b, F a b → G a b) → Paired G l₁ l₂
  | _, _, .nil, _ => .nil
  | _, _, .cons r t, f => .cons (f _ _ r) (Paired.mapP t f)
theorem ObjOk.stay (x : ObjOk P w H h a o) (k : ∀ b u, (b = a ∨ H b = some (.own a)) → h.get? b = some u → h'.get? b = some u)
    (ho : ∀ b, H b = some (.own a) → H' b = some (.own a)) (ht : ∀ b xs, H b = some (.tup xs) → H' b = some (.tup xs)) : ObjOk P w H' h' a o := by
  induction o with
  | lst xs => obtain ⟨z, its, n, r, e⟩ := x; exact ⟨z, its, n, r, k _ _ (.inl rfl) e⟩
  | tup xs => obtain ⟨z, its, r, ob, e, c⟩ := x; exact ⟨z, its, r, ob, k _ _ (.inl rfl) e, c⟩
  | dK kvs => obtain ⟨z, y, vs, r, ob, es, ep, e, c⟩ := x; exact ⟨z, y, vs, r, ob, es, ep, k _ _ (.inl rfl) e, c⟩
  | dT kvs =>
    obtain ⟨z, y, xs, r, ob, es, ep, e, c⟩ := x
    exact ⟨z, y, xs, Paired.mapP r fun p q z => ⟨z.1, ht _ _ z.2.1, z.2.2⟩, ob, es, ep, k _ _ (.inl rfl) e, c⟩
  | set S n => obtain ⟨ob, es, ep, t, e, c⟩ := x; exact ⟨ob, es, ep, t, k _ _ (.inl rfl) e, c⟩
  | ins C dx fs =>
    obtain ⟨d, z, ne, e, mA, ⟨od, es, ep, e2, c⟩, r⟩ := x
    exact ⟨ho _ d, z, ne, k _ _ (.inl rfl) e, mA, ⟨od, es, ep, k _ _ (.inr d) e2, c⟩, r⟩
  | own y => obtain ⟨ob, e⟩ := x; exact ⟨ob, k _ _ (.inl rfl) e⟩
  | xd fs => obtain ⟨mA, ⟨od, es, ep, e, c⟩, r⟩ := x; exact ⟨mA, ⟨od, es, ep, k _ _ (.inl rfl) e, c⟩, r⟩
  | rng lo hi => obtain ⟨t, u, v, e⟩ := x; exact ⟨t, u, v, k _ _ (.inl rfl) e⟩
  | frz ob u ih => obtain ⟨e, q⟩ := x; exact ⟨k _ _ (.inl rfl) e, ih q⟩
  | tbl ps =>
    have e : h.get? a = some { cls := .none, data := .fields ps } := x
    show h'.get? a = some { cls := .none, data := .fields ps }
    exact k a _ (.inl rfl) e
  | met f y =>
    have e : h.get? a = some (PySem.W.methodObj (.ref f) (.ref y)) := x
    show h'.get? a = some (PySem.W.methodObj (.ref f) (.ref y))
    exact k a _ (.inl rfl) e
  | ext φ => obtain ⟨p, ⟨o, e⟩, st⟩ := x; exact ⟨st _ _ p fun o q => k _ _ (.inl rfl) q, ⟨o, k _ _ (.inl rfl) e⟩, st⟩
theorem HOk.lt (x : HOk P w H h) (e : H a = some o) : a < h.objs.size := (x a o e).lt
theorem HOk.fresh (x : HOk P w H h) (e : h.objs.size ≤ a) : H a = none := by
  cases q : H a with
  | none => rfl
  | some u => exact absurd (Nat.lt_of_lt_of_le (x.lt q) e) (Nat.lt_irrefl _)
theorem HOk.kept (x : HOk P w H h) (k : ∀ b u, h.get? b = some u → h'.get? b = some u) : HOk P w H h' := fun a o e =>
  (x a o e).stay (fun b u _ q => k b u q) (fun _ q => q) fun _ _ q => q
theorem HOk.laid (x : HOk P w H h) (k : ∀ b u, h.get? b = some u → h'.get? b = some u) (hp : h.objs.size ≤ a) (new : ObjOk P w (upd H a o) h' a o) : HOk P w (upd H a o) h' := fun b u e => by
  have hn := x.fresh hp
  by_cases hb : b = a
  · subst hb; rw [upd_same] at e; cases e; exact new
  · rw [upd_ne hb] at e
    exact (x b u e).stay (fun c v _ q => k c v q) (fun c q => by rw [upd_ne (ne_of_none q hn)]; exact q) fun c xs q => by rw [upd_ne (ne_of_none q hn)]; exact q
end

noncomputable def Rd (H : Hp) (a : Addr) (u : HO) : Prop := H a = some u ∨ ∃ o, H a = some (.frz o u)
theorem Rd.ok {P : Program} {w : World} {H : Hp} {h : Heap} {a : Addr} {u : HO} (r : Rd H a u) (x : HOk P w H h) : ObjOk P w H h a u := by
  rcases r with r | ⟨o, r⟩
  · exact x a u r
  · obtain ⟨_, q⟩ := x a _ r
    exact q
noncomputable def Mut : Option HO → Prop
  | some (.lst _) => True
  | some (.dK _) => True
  | some (.dT _) => True
  | some (.set _ _) => True
  | some (.ins _ _ _) => True
  | some (.ext _) => True
  | _ => False
section
variable {P : Program} {w : World} {H : Hp} {h h' : Heap} {x e : Addr} {o' : HO}
theorem HOk.write (ok : HOk P w H h) (mu : Mut (H x)) (he : e = x ∨ H e = some (.own x)) (k : ∀ b u, b ≠ e → h.get? b = some u → h'.get? b = some u) (heo : ∃ u, h'.get? e = some u)
    (new : ObjOk P w (upd H x o') h' x o') : HOk P w (upd H x o') h' := fun b u q => by
  have nown : ∀ c y, H c = some (.own y) → c ≠ x := fun c y r z => by subst z; rw [r] at mu; exact mu
  have ntup : ∀ c xs, H c = some (.tup xs) → c ≠ x := fun c xs r z => by subst z; rw [r] at mu; exact mu
  by_cases hb : b = x
  · subst hb; rw [upd_same] at q; cases q; exact new
  · rw [upd_ne hb] at q
    by_cases hbe : b = e
    · have q' : H b = some (.own x) := by
        rcases he with z | z
        · exact absurd (hbe.trans z) hb
        · rw [hbe]; exact z
      rw [q] at q'; cases q'
      obtain ⟨v, hv⟩ := heo
      exact ⟨v, by rw [hbe]; exact hv⟩
    · refine (ok b u q).stay (fun c v hc r => k c v ?_ r) (fun c r => by rw [upd_ne (nown c b r)]; exact r) fun c xs r => by rw [upd_ne (ntup c xs r)]; exact r
      rcases hc with rfl | hc
      · exact hbe
      · rintro rfl
        rcases he with z | z
        · exact nown c b hc z
        · rw [hc] at z; cases z; exact hb rfl
end

structure Un (fs ex : List Addr) (H H' : Hp) (h h' : Heap) : Prop where
  keep : ∀ b o, h.get? b = some o → H b = none → b ∉ fs → b ∉ ex → h'.get? b = some o
  slot : ∀ b o, h.get? b = some o → H b = none → b ∈ fs → b ∉ ex → ∃ sl, h'.get? b = some { o with slots := sl }
  free : ∀ b o, h.get? b = some o → H b = none → b ∉ ex → H' b = none
  there : ∀ b o, h.get? b = some o → b ∉ ex → ∃ o', h'.get? b = some o'
  tups : ∀ b xs, H b = some (.tup xs) → H' b = some (.tup xs)
  frzs : ∀ b o u, H b = some (.frz o u) → H' b = some (.frz o u)
  tbls : ∀ b ps, H b = some (.tbl ps) → ∃ more, H' b = some (.tbl (ps ++ more))
section
variable {fs fs' ex ex' : List Addr} {H H1 H2 : Hp} {h h1 h2 h' : Heap} {a x e : Addr} {o : HO}
theorem Un.any (u : Un fs ex H H1 h h1) {b : Addr} {ob : Obj} (q : h.get? b = some ob) (n : H b = none) (hx : b ∉ ex) : ∃ sl, h1.get? b = some { ob with slots := sl } := by
  by_cases hb : b ∈ fs
  · exact u.slot b ob q n hb hx
  · exact ⟨ob.slots, u.keep b ob q n hb hx⟩
theorem Un.kept (k : ∀ b u, h.get? b = some u → h'.get? b = some u) : Un fs ex H H h h' :=
  ⟨fun b ob q _ _ _ => k b ob q, fun b ob q _ _ _ => ⟨ob.slots, k b ob q⟩, fun _ _ _ n _ => n, fun b ob q _ => ⟨ob, k b ob q⟩, fun _ _ q => q, fun _ _ _ q => q, fun _ ps q => ⟨#[], by rw [q]; simp⟩⟩
theorem Un.refl : Un fs ex H H h h := Un.kept fun _ _ q => q
theorem Un.laid (k : ∀ b u, h.get? b = some u → h'.get? b = some u) (hp : h.objs.size ≤ a) (hn : H a = none) : Un fs ex H (upd H a o) h h' where
  keep := fun b u q _ _ _ => k b u q
  slot := fun b u q _ _ _ => ⟨u.slots, k b u q⟩
  free := fun b u q n _ => by rw [upd_ne (Nat.ne_of_lt (Nat.lt_of_lt_of_le (Heap.lt_size q) hp))]; exact n
  there := fun b u q _ => ⟨u, k b u q⟩
  tups := fun b xs q => by rw [upd_ne (ne_of_none q hn)]; exact q
  frzs := fun b u xs q => by rw [upd_ne (ne_of_none q hn)]; exact q
  tbls := fun b ps q => ⟨#[], by rw [upd_ne (ne_of_none q hn), q]; simp⟩
theorem Un.write (mu : Mut (H x)) (he : e = x ∨ H e = some (.own x)) (k : ∀ b u, b ≠ e → h.get? b = some u → h'.get? b = some u) (heo : ∃ u, h'.get? e = some u) : Un fs ex H (upd H x o) h h' := by
  have hx : ∀ b, H b = none → b ≠ x := fun b n z => by subst z; rw [n] at mu; exact mu
  have hb : ∀ b, H b = none → b ≠ e := fun b n z => by
    subst z
    rcases he with r | r
    · exact hx b n r
    · rw [n] at r; cases r
  have hm : ∀ b u, H b = some u → ¬ Mut (some u) → b ≠ x := fun b u q nm z => by subst z; rw [q] at mu; exact nm mu
  refine ⟨fun b u q n _ _ => k b u (hb b n) q, fun b u q n _ _ => ⟨u.slots, k b u (hb b n) q⟩, fun b u q n _ => by rw [upd_ne (hx b n)]; exact n, fun b u q _ => ?_,
    fun b xs q => by rw [upd_ne (hm b _ q fun z => z)]; exact q, fun b u xs q => by rw [upd_ne (hm b _ q fun z => z)]; exact q, fun b ps q => ⟨#[], by rw [upd_ne (hm b _ q fun z => z), q]; simp⟩⟩
  by_cases hbe : b = e
  · subst hbe; exact heo
  · exact ⟨u, k b u hbe q⟩
end

noncomputable def trk (h : Heap) (H : Hp) : List Addr := (List.range h.objs.size).filter fun a => (H a).isSome
noncomputable def hidT (h : Heap) (H : Hp) : Heap := PySem.W.hideAll h (trk h H)
theorem hidT_size (h : Heap) (H : Hp) : (hidT h H).objs.size = h.objs.size := PySem.W.hideAll_size _ _
theorem hidT_get {h : Heap} {H : Hp} {b : Addr} {o : Obj} (e : h.get? b = some o) (n : H b = none) : (hidT h H).get? b = some o :=
  PySem.W.hideAll_get _ e fun hm => by
    have q : (H b).isSome = true := (List.mem_filter.mp hm).2
    rw [n] at q; simp at q
theorem of_hidT {h : Heap} {H : Hp} {b : Addr} {o : Obj} (e : (hidT h H).get? b = some o) : h.get? b = some o ∧ H b = none := by
  have e' : h.get? b = some o := PySem.W.of_hideAll (trk h H) e
  refine ⟨e', ?_⟩
  cases q : H b with
  | none => rfl
  | some x =>
    have hm : b ∈ trk h H := List.mem_filter.mpr ⟨List.mem_range.mpr (Heap.lt_size e'), by simp [q]⟩
    have z : (hidT h H).get? b = none := PySem.W.hideAll_none (trk h H) hm
    rw [z] at e; cases e
noncomputable def allNews (g h : Heap) (L : Addr) : List (Addr × Obj) := (List.range h.objs.size).filterMap fun a => if a = L ∨ (g.get? a).isSome = true then none else (h.get? a).map fun o => (a, o)
theorem mem_allNews {g h : Heap} {L a : Addr} {o : Obj} (h1 : a ≠ L) (h2 : g.get? a = none) (h3 : h.get? a = some o) : (a, o) ∈ allNews g h L :=
  List.mem_filterMap.mpr ⟨a, List.mem_range.mpr (Heap.lt_size h3), by simp [h1, h2, h3]⟩
theorem of_mem_allNews {g h : Heap} {L : Addr} {p : Addr × Obj} (hp : p ∈ allNews g h L) : p.1 ≠ L ∧ g.get? p.1 = none ∧ h.get? p.1 = some p.2 := by
  obtain ⟨b, _, e⟩ := List.mem_filterMap.mp hp
  split at e
  · cases e
  · rename_i hn
    cases q : h.get? b with
    | none => rw [q] at e; simp at e
    | some u =>
      rw [q] at e
      simp only [Option.map_some, Option.some.injEq] at e
      subst e
      refine ⟨fun z => hn (.inl z), ?_, q⟩
      show g.get? b = none
      cases r : g.get? b with
      | none => rfl
      | some v => exact (hn (.inr (by simp [r]))).elim
theorem news_all {g h : Heap} {L : Addr} : News g L h (allNews g h L) := fun p hp => let ⟨a, b, c⟩ := of_mem_allNews hp; ⟨c, a, b⟩
end L2

namespace L2
open PySem PySem.Spec PyProof.Rows

structure Mod (K : PySem.W.Frag) (mg : Str → Option Value) (base : Heap) : Prop where
  kin : K.In base
  glob : base.Ns mainGlobals mg
  blt : ∃ mb, base.Ns builtinsNs mb ∧ ∀ x : Str, x ≠ "__name__" → mb x = bootBuiltins x
  nolimit : base.NoLimit
structure Cx where
  prog : Program
  w : World
  K : PySem.W.Frag
  mg : Str → Option Value
  base : Heap
  A : Around
  N : List Str
  s₀ : Shared
  H₀ : Hp
  env : Env
  outer : List Env
  stack : List Env
  ex : List Addr
  fn : Str → Bool
  calm : Bool
  pn : List (Addr × Obj)
  xe : Value → Shared → Prop
noncomputable def frs (l : List Env) : List Addr := l.filterMap (·.frame)
noncomputable abbrev Cx.fs (X : Cx) : List Addr := frs X.outer
noncomputable def Vis (sc : Scope) (x : Str) : Prop := sc.names.lookup x = some .local ∨ sc.names.lookup x = some .cell ∨ sc.names.lookup x = some .free
noncomputable def Loc (sc : Scope) (x : Str) : Prop := sc.names.lookup x = some .local ∨ sc.names.lookup x = some .cell
noncomputable def Look (env : Env) (h : Heap) (m : Str → Option Value) (x : Str) (u : Value) : Prop :=
  (env.kindOf x = some .local ∧ m x = some u) ∨ ((env.kindOf x = some .cell ∨ env.kindOf x = some .free) ∧ ∃ c, env.cells.lookup x = some c ∧ h.IsCell c (some u))
structure Cx.Ok (X : Cx) : Prop where
  mod : Mod X.K X.mg X.base
  kind : X.env.scope.kind = .function
  glob : X.env.globals = mainGlobals
  blt : X.env.builtins = builtinsNs
  above : X.s₀.heap.objs.size ≤ X.env.locals
  inj : ∀ x y c, X.env.cells.lookup x = some c → X.env.cells.lookup y = some c → x = y
  has : ∀ x, (X.env.kindOf x = some .cell ∨ X.env.kindOf x = some .free) → ∃ c, X.env.cells.lookup x = some c
  cab : ∀ x c, X.fn x = true → X.env.cells.lookup x = some c → X.s₀.heap.objs.size ≤ c
  hd : X.calm = true → X.A.handled = none
  frames : X.A.frames = some X.stack
  stk : X.stack = X.outer ∨ (X.stack = X.env :: X.outer ∧ X.env.frame = some X.env.locals)
  exf : ∀ b ∈ X.ex, b ≠ X.env.locals ∧ ∀ x c, X.env.cells.lookup x = some c → c ≠ b
  bs : ∀ b o, X.base.get? b = some o → X.s₀.heap.get? b = some o ∧ X.H₀ b = none
  bsz : X.base.objs.size ≤ X.s₀.heap.objs.size
  noex : ∀ b o, X.base.get? b = some o → b ∉ X.ex
  exfs : ∀ b ∈ X.ex, b ∉ X.fs
  funs : X.s₀.heap.FunFrames X.base X.outer
  frf : ∀ b ∈ X.fs, X.H₀ b = none
structure Inv (X : Cx) (pins : List (Addr × Obj)) (σ : List (Option V)) (H : Hp) (s : Shared) : Prop where
  ok : X.Ok
  os : s.os = X.s₀.os
  bare : AllBare s.gens
  base : Un X.fs X.ex X.H₀ H X.s₀.heap s.heap
  loc : ∃ m, s.heap.Ns X.env.locals m ∧ ∀ (i : Nat) (x : Str) (v : V), X.N[i]? = some x → σ[i]? = some (some v) → Vis X.env.scope x → ∃ u, RelV v u ∧ Look X.env s.heap m x u
  cell : ∀ x c, X.env.cells.lookup x = some c → ∃ v, s.heap.IsCell c v
  free : H X.env.locals = none
  freeC : ∀ x c, X.env.cells.lookup x = some c → H c = none
  pin : ∀ p ∈ X.pn ++ pins, s.heap.get? p.1 = some p.2 ∧ H p.1 = none ∧ p.1 ≠ X.env.locals ∧ p.1 ∉ X.fs ∧ ∀ v, p.2.data ≠ .cell v
  hok : HOk X.prog X.w H s.heap
  len : σ.length = X.N.length
section
variable {X : Cx} {pins : List (Addr × Obj)} {σ : List (Option V)} {H H' : Hp} {s : Shared} {h' : Heap}

theorem Cx.Ok.nofr (ok : X.Ok) {b : Addr} {o : Obj} (e : X.base.get? b = some o) : b ∉ X.fs := fun hb => by
  have := (ok.funs.mem hb).1
  rw [e] at this; cases this
theorem Inv.bs (I : Inv X pins σ H s) : ∀ b o, X.base.get? b = some o → s.heap.get? b = some o ∧ H b = none := fun b o e =>
  ⟨I.base.keep b o (I.ok.bs b o e).1 (I.ok.bs b o e).2 (I.ok.nofr e) (I.ok.noex b o e), I.base.free b o (I.ok.bs b o e).1 (I.ok.bs b o e).2 (I.ok.noex b o e)⟩
theorem Inv.bk (I : Inv X pins σ H s) : ∀ b o, X.base.get? b = some o → s.heap.get? b = some o := fun b o e => (I.bs b o e).1
theorem Inv.mod (I : Inv X pins σ H s) : Mod X.K X.mg X.base := I.ok.mod
theorem Inv.kIn (I : Inv X pins σ H s) : X.K.In s.heap := I.ok.mod.kin.keeps I.bk
theorem Inv.lt (I : Inv X pins σ H s) : X.env.locals < s.heap.objs.size := let ⟨_, hn, _⟩ := I.loc; hn.lt
theorem Inv.sz (I : Inv X pins σ H s) : X.s₀.heap.objs.size ≤ s.heap.objs.size := Nat.le_trans I.ok.above (Nat.le_of_lt I.lt)
theorem Inv.nofs (I : Inv X pins σ H s) {a : Addr} (h : s.heap.objs.size ≤ a) : a ∉ X.fs := fun hb => by
  obtain ⟨_, o, ho, _⟩ := I.ok.funs.mem hb
  exact absurd (Nat.lt_of_lt_of_le (Heap.lt_size ho) (Nat.le_trans I.sz h)) (Nat.lt_irrefl _)
theorem Inv.cne (I : Inv X pins σ H s) : ∀ x c, X.env.cells.lookup x = some c → c ≠ X.env.locals := fun x c e z => by
  obtain ⟨v, o, ho, hd⟩ := I.cell x c e
  obtain ⟨m, ⟨o', es, ep, ho', hd', _⟩, _⟩ := I.loc
  rw [z, ho'] at ho; cases ho; rw [hd'] at hd; cases hd
theorem Inv.funs (I : Inv X pins σ H s) : s.heap.FunFrames X.base X.outer := by
  have all : ∀ (l : List Env), (∀ b ∈ frs l, b ∈ X.fs) → X.s₀.heap.FunFrames X.base l → s.heap.FunFrames X.base l := by
    intro l
    induction l with
    | nil => intro _ _; trivial
    | cons env r ih =>
      intro hs hl
      obtain ⟨hk, ⟨L, o, hf, hn, ho, hd⟩, hr⟩ := hl
      have hL : L ∈ X.fs := hs L (by unfold frs; rw [List.filterMap_cons, hf]; exact List.mem_cons_self)
      obtain ⟨sl, e⟩ := I.base.slot L o ho (I.ok.frf L hL) hL fun z => I.ok.exfs L z hL
      exact ⟨hk, ⟨L, _, hf, hn, e, hd⟩, ih (fun b hb => hs b (by unfold frs; rw [List.filterMap_cons, hf]; exact List.mem_cons_of_mem _ hb)) hr⟩
  exact all X.outer (fun _ hb => hb) I.ok.funs
theorem Inv.stack (I : Inv X pins σ H s) : s.heap.FunFrames X.base X.stack := by
  rcases I.ok.stk with e | ⟨e, hf⟩
  · rw [e]; exact I.funs
  · rw [e]
    obtain ⟨m, hn, _⟩ := I.loc
    refine .cons (by rw [I.ok.kind]; decide) hf hn ?_ I.funs
    exact Heap.get?_none_of_le (Nat.le_trans I.ok.bsz I.ok.above)
theorem Inv.stkSub (I : Inv X pins σ H s) : ∀ b ∈ frs X.stack, b ∈ X.env.locals :: X.fs := fun b hb => by
  rcases I.ok.stk with e | ⟨e, hf⟩
  · rw [e] at hb; exact List.mem_cons_of_mem _ hb
  · rw [e] at hb
    unfold frs at hb
    rw [List.filterMap_cons, hf] at hb
    exact hb
theorem Inv.stkFree (I : Inv X pins σ H s) : ∀ b ∈ frs X.stack, H b = none := fun b hb => by
  rcases List.mem_cons.mp (I.stkSub b hb) with e | hb
  · rw [e]; exact I.free
  · obtain ⟨_, o, ho, _⟩ := I.ok.funs.mem hb
    exact I.base.free b o ho (I.ok.frf b hb) fun z => I.ok.exfs b z hb
theorem Inv.step {g' : Array GenState} {t' : Nat} {d' : Drawn} {ch : List Addr} (I : Inv X pins σ H s)
    (hch : ∀ b ∈ ch, (b ∈ X.ex ∨ X.s₀.heap.objs.size ≤ b) ∧ b ≠ X.env.locals ∧ (∀ x c, X.env.cells.lookup x = some c → c ≠ b) ∧ ∀ p ∈ X.pn ++ pins, p.1 ≠ b)
    (keep : ∀ b o, b ≠ X.env.locals → b ∉ X.fs → b ∉ ch → s.heap.get? b = some o → H b = none → h'.get? b = some o)
    (slot : ∀ b o, b ≠ X.env.locals → b ∈ X.fs → b ∉ ch → s.heap.get? b = some o → H b = none → ∃ sl, h'.get? b = some { o with slots := sl }) (free : ∀ b o, b ∉ ch → s.heap.get? b = some o → H b = none → H' b = none)
    (there : ∀ b o, b ∉ ch → s.heap.get? b = some o → ∃ o', h'.get? b = some o')
    (tups : ∀ b xs, H b = some (.tup xs) → H' b = some (.tup xs)) (frzs : ∀ b o u, H b = some (.frz o u) → H' b = some (.frz o u)) (tbls : ∀ b ps, H b = some (.tbl ps) → ∃ more, H' b = some (.tbl (ps ++ more)))
    (ns : ∀ m, s.heap.Ns X.env.locals m → h'.Ns X.env.locals m) (hok : HOk X.prog X.w H' h') (hg : AllBare g') :
    Inv X pins σ H' { s with heap := h', gens := g', drawn := d', toks := t' } := by
  have neL : ∀ b o, X.s₀.heap.get? b = some o → b ≠ X.env.locals := fun b o e => Nat.ne_of_lt (Nat.lt_of_lt_of_le (Heap.lt_size e) I.ok.above)
  have neC : ∀ b o, X.s₀.heap.get? b = some o → b ∉ X.ex → b ∉ ch := fun b o e hx hb => by
    rcases (hch b hb).1 with z | z
    · exact hx z
    · exact absurd (Nat.lt_of_lt_of_le (Heap.lt_size e) z) (Nat.lt_irrefl _)
  have cellK : ∀ x c, X.env.cells.lookup x = some c → ∀ v, s.heap.IsCell c v → h'.IsCell c v := fun x c e v ⟨o, ho, hd⟩ => by
    have nch : c ∉ ch := fun z => (hch c z).2.2.1 x c e rfl
    by_cases hc : c ∈ X.fs
    · obtain ⟨sl, q⟩ := slot c o (I.cne x c e) hc nch ho (I.freeC x c e)
      exact ⟨_, q, hd⟩
    · exact ⟨o, keep c o (I.cne x c e) hc nch ho (I.freeC x c e), hd⟩
  refine ⟨I.ok, I.os, hg, ⟨fun b o e n hb hx => ?_, fun b o e n hb hx => ?_, fun b o e n hx => ?_, fun b o e hx => ?_, fun b xs e => tups b xs (I.base.tups b xs e), fun b o xs e => frzs b o xs (I.base.frzs b o xs e), fun b ps e => ?_⟩, ?_, fun x c e => ?_, ?_, fun x c e => ?_, fun p hp => ?_, hok, I.len⟩
  · exact keep b o (neL b o e) hb (neC b o e hx) (I.base.keep b o e n hb hx) (I.base.free b o e n hx)
  · obtain ⟨sl, e1⟩ := I.base.slot b o e n hb hx
    obtain ⟨sl', e2⟩ := slot b _ (neL b o e) hb (neC b o e hx) e1 (I.base.free b o e n hx)
    exact ⟨sl', e2⟩
  · obtain ⟨o', e1⟩ := I.base.there b o e hx
    exact free b o' (neC b o e hx) e1 (I.base.free b o e n hx)
  · obtain ⟨o', e1⟩ := I.base.there b o e hx
    exact there b o' (neC b o e hx) e1
  · obtain ⟨m1, e1⟩ := I.base.tbls b ps e
    obtain ⟨m2, e2⟩ := tbls b _ e1
    exact ⟨m1 ++ m2, by rw [e2, Array.append_assoc]⟩
  · obtain ⟨m, hn, hl⟩ := I.loc
    refine ⟨m, ns m hn, fun i x v e1 e2 e3 => ?_⟩
    obtain ⟨u, r, l⟩ := hl i x v e1 e2 e3
    refine ⟨u, r, ?_⟩
    rcases l with l | ⟨k, c, e, z⟩
    · exact .inl l
    · exact .inr ⟨k, c, e, cellK x c e _ z⟩
  · obtain ⟨v, z⟩ := I.cell x c e
    exact ⟨v, cellK x c e v z⟩
  · obtain ⟨m, ⟨o, _, _, ho, _⟩, _⟩ := I.loc
    exact free _ o (fun z => (hch _ z).2.1 rfl) ho I.free
  · obtain ⟨v, o, ho, hd⟩ := I.cell x c e
    exact free c o (fun z => (hch c z).2.2.1 x c e rfl) ho (I.freeC x c e)
  · obtain ⟨e, n, ne, nf, d⟩ := I.pin p hp
    have nch : p.1 ∉ ch := fun z => (hch p.1 z).2.2.2 p hp rfl
    exact ⟨keep p.1 p.2 ne nf nch e n, free p.1 p.2 nch e n, ne, nf, d⟩
theorem Inv.un {t' : Nat} (I : Inv X pins σ H s) (u : Un X.fs [] H H' s.heap h') (hok : HOk X.prog X.w H' h') : Inv X pins σ H' { s with heap := h', toks := t' } := by
  obtain ⟨m, ⟨o, es, ep, ho, r⟩, _⟩ := id I.loc
  obtain ⟨sl, hL⟩ := u.any ho I.free (by simp)
  exact I.step (g' := s.gens) (d' := s.drawn) (ch := []) (fun _ z => nomatch z) (fun b o _ hb _ e n => u.keep b o e n hb (by simp)) (fun b o _ hb _ e n => u.slot b o e n hb (by simp)) (fun b o _ e n => u.free b o e n (by simp)) (fun b o _ e => u.there b o e (by simp)) u.tups u.frzs u.tbls (fun m' hm => by
    obtain ⟨o', es', ep', ho', r'⟩ := hm
    rw [ho] at ho'; cases ho'
    exact ⟨_, es', ep', hL, r'⟩) hok I.bare
theorem Inv.call {g' : Array GenState} {t' : Nat} {d' : Drawn} {ch : List Addr} (I : Inv X pins σ H s) (u : Un (frs X.stack) ch H H' s.heap h') (hok : HOk X.prog X.w H' h') (hg : AllBare g')
    (hch : ∀ b ∈ ch, (b ∈ X.ex ∨ X.s₀.heap.objs.size ≤ b) ∧ b ≠ X.env.locals ∧ (∀ x c, X.env.cells.lookup x = some c → c ≠ b) ∧ ∀ p ∈ X.pn ++ pins, p.1 ≠ b) :
    Inv X pins σ H' { s with heap := h', gens := g', drawn := d', toks := t' } := by
  obtain ⟨m, ⟨o, es, ep, ho, r⟩, _⟩ := id I.loc
  obtain ⟨sl, hL⟩ := u.any ho I.free fun z => (hch _ z).2.1 rfl
  exact I.step (ch := ch) hch (fun b o hL hb hc e n => u.keep b o e n (fun z => (List.mem_cons.mp (I.stkSub b z)).elim hL hb) hc) (fun b o _ _ hc e n => u.any e n hc) (fun b o hc e n => u.free b o e n hc) (fun b o hc e => u.there b o e hc) u.tups u.frzs u.tbls (fun m' hm => by
    obtain ⟨o', es', ep', ho', r'⟩ := hm
    rw [ho] at ho'; cases ho'
    exact ⟨_, es', ep', hL, r'⟩) hok hg
theorem Inv.turned {t' : Nat} {it : Addr} (I : Inv X pins σ H s) (k : ∀ b o, b ≠ it → s.heap.get? b = some o → h'.get? b = some o) (hn : H it = none) (hL : it ≠ X.env.locals)
    (h1 : it ∈ X.ex ∨ X.s₀.heap.objs.size ≤ it) (h2 : ∀ x c, X.env.cells.lookup x = some c → c ≠ it) (h3 : ∀ p ∈ X.pn ++ pins, p.1 ≠ it) : Inv X pins σ H { s with heap := h', toks := t' } := by
  have nit : ∀ b u, H b = some u → b ≠ it := fun b u e z => by rw [z, hn] at e; cases e
  refine I.step (g' := s.gens) (d' := s.drawn) (ch := [it]) (fun b hb => ?_) (fun b o _ _ hc e _ => k b o (fun z => hc (by simp [z])) e) (fun b o _ _ hc e _ => ⟨o.slots, k b o (fun z => hc (by simp [z])) e⟩) (fun _ _ _ _ n => n)
    (fun b o hc e => ⟨o, k b o (fun z => hc (by simp [z])) e⟩) (fun _ _ e => e) (fun _ _ _ e => e) (fun b ps e => ⟨#[], by rw [e]; simp⟩) (fun m hm => ?_) (fun b u e => ?_) I.bare
  · have e : b = it := by simpa using hb
    subst e
    exact ⟨h1, hL, h2, h3⟩
  · obtain ⟨o, es, ep, ho, r⟩ := hm
    exact ⟨o, es, ep, k _ o (Ne.symm hL) ho, r⟩
  · refine (I.hok b u e).stay (fun c v hc q => k c v ?_ q) (fun _ q => q) fun _ _ q => q
    rcases hc with z | z
    · rw [z]; exact nit b u e
    · exact nit c _ z
theorem Inv.tok (I : Inv X pins σ H s) (t : Nat) : Inv X pins σ H { s with toks := t } := I.un (h' := s.heap) (t' := t) Un.refl I.hok
theorem Inv.kept {t' : Nat} (I : Inv X pins σ H s) (k : ∀ b u, s.heap.get? b = some u → h'.get? b = some u) : Inv X pins σ H { s with heap := h', toks := t' } := I.un (Un.kept k) (I.hok.kept k)
theorem Inv.laid {a : Addr} {o : HO} {t' : Nat} (I : Inv X pins σ H s) (k : ∀ b u, s.heap.get? b = some u → h'.get? b = some u) (hp : s.heap.objs.size ≤ a) (new : ObjOk X.prog X.w (upd H a o) h' a o) :
    Inv X pins σ (upd H a o) { s with heap := h', toks := t' } := I.un (Un.laid k hp (I.hok.fresh hp)) (I.hok.laid k hp new)
theorem Inv.write {x e : Addr} {o : HO} {t' : Nat} (I : Inv X pins σ H s) (mu : Mut (H x)) (he : e = x ∨ H e = some (.own x)) (k : ∀ b u, b ≠ e → s.heap.get? b = some u → h'.get? b = some u) (heo : ∃ u, h'.get? e = some u)
    (new : ObjOk X.prog X.w (upd H x o) h' x o) : Inv X pins σ (upd H x o) { s with heap := h', toks := t' } := I.un (Un.write mu he k heo) (I.hok.write mu he k heo new)
theorem Inv.pins_of {pins' : List (Addr × Obj)} (I : Inv X pins σ H s) (h : ∀ p ∈ pins', s.heap.get? p.1 = some p.2 ∧ H p.1 = none ∧ p.1 ≠ X.env.locals ∧ p.1 ∉ X.fs ∧ ∀ v, p.2.data ≠ .cell v) : Inv X pins' σ H s :=
  ⟨I.ok, I.os, I.bare, I.base, I.loc, I.cell, I.free, I.freeC, fun p hp => (List.mem_append.mp hp).elim (fun z => I.pin p (List.mem_append_left _ z)) (h p), I.hok, I.len⟩
theorem nodup_ix {N : List Str} (hN : N.Nodup) {i j : Nat} {x : Str} (a : N[i]? = some x) (b : N[j]? = some x) : i = j := by
  obtain ⟨h1, e1⟩ := List.getElem?_eq_some_iff.mp a
  obtain ⟨h2, e2⟩ := List.getElem?_eq_some_iff.mp b
  exact (List.getElem_inj hN).mp (e1.trans e2.symm)
theorem store_ok2 {M : Model} {A : Around} {E : Value → Shared → Prop} {i : Nat} {x : Str} {v : V} {u : Value} {Q : Unit → Shared → Prop} (I : Inv X pins σ H s) (hN : X.N.Nodup) (hi : X.N[i]? = some x) (hx : Loc X.env.scope x) (r : RelV v u)
    (h : ∀ s', Inv X pins (σ.set i (some v)) H s' → (∃ a, Heap.SameBut a s.heap s'.heap ∧ (a = X.env.locals ∨ X.env.cells.lookup x = some a)) → Q () s') (hf : X.fn x = true ∨ X.env.scope.names.lookup x = some .local := by first | exact .inl rfl | exact .inr rfl | assumption) : wpAny M A (storeName X.env x u) Q E s := by
  obtain ⟨m, hn, hl⟩ := id I.loc
  have hcls : (X.env.scope.kind == .class || (X.env.scope.kind == .module && X.env.locals != X.env.globals)) = false := by rw [I.ok.kind]; rfl
  have hiσ : i < σ.length := by rw [I.len]; exact (List.getElem?_eq_some_iff.mp hi).1
  have cne := I.cne
  have tracked : ∀ {a : Addr} {h' : Heap}, (∃ o, s.heap.get? a = some o ∧ H a = none) → Heap.SameBut a s.heap h' → HOk X.prog X.w H h' := fun {a h'} ha hs b ob e => by
    obtain ⟨_, _, hfree⟩ := ha
    refine (I.hok b ob e).stay (fun c w' hc q => (hs.2 c ?_).trans q) (fun _ q => q) fun _ _ q => q
    rintro rfl
    rcases hc with rfl | hc
    · rw [hfree] at e; cases e
    · rw [hfree] at hc; cases hc
  rcases hx with hk | hk
  · refine wpAny_storeName_local hk hn (fun h' hn' hs => ?_) hcls
    obtain ⟨oL, _, _, hoL, _⟩ := id hn
    refine h _ ⟨I.ok, I.os, I.bare, ⟨fun b o e n hb hx => ?_, fun b o e n hb hx => ?_, I.base.free, fun b o e hx => ?_, I.base.tups, I.base.frzs, I.base.tbls⟩, ⟨_, hn', fun j y v' e1 e2 e3 => ?_⟩, fun y c e => ?_, I.free, I.freeC, fun p hp => ?_, tracked ⟨oL, hoL, I.free⟩ hs, by simpa using I.len⟩ ⟨_, hs, .inl rfl⟩
    · exact (hs.2 b (Nat.ne_of_lt (Nat.lt_of_lt_of_le (Heap.lt_size e) I.ok.above))).trans (I.base.keep b o e n hb hx)
    · obtain ⟨sl, e1⟩ := I.base.slot b o e n hb hx
      exact ⟨sl, (hs.2 b (Nat.ne_of_lt (Nat.lt_of_lt_of_le (Heap.lt_size e) I.ok.above))).trans e1⟩
    · obtain ⟨o', e1⟩ := I.base.there b o e hx
      exact ⟨o', (hs.2 b (Nat.ne_of_lt (Nat.lt_of_lt_of_le (Heap.lt_size e) I.ok.above))).trans e1⟩
    · by_cases hj : j = i
      · subst hj
        rw [hi] at e1; cases e1
        rw [List.getElem?_set_self hiσ] at e2
        cases e2
        exact ⟨u, r, .inl ⟨hk, by simp⟩⟩
      · rw [List.getElem?_set_ne (Ne.symm hj)] at e2
        obtain ⟨u', r', q⟩ := hl j y v' e1 e2 e3
        refine ⟨u', r', ?_⟩
        rcases q with ⟨k, e⟩ | ⟨k, c, e, z⟩
        · refine .inl ⟨k, ?_⟩
          have : y ≠ x := fun e => hj (nodup_ix hN e1 (e ▸ hi))
          simp [this, e]
        · exact .inr ⟨k, c, e, z.sameBut hs (cne y c e)⟩
    · obtain ⟨w', z⟩ := I.cell y c e
      exact ⟨w', z.sameBut hs (cne y c e)⟩
    · obtain ⟨e, n, ne, nf, d⟩ := I.pin p hp
      exact ⟨(hs.2 p.1 ne).trans e, n, ne, nf, d⟩
  · have hfn : X.fn x = true := by
      rcases hf with z | z
      · exact z
      · rw [z] at hk; cases hk
    obtain ⟨c, hc⟩ := I.ok.has x (.inl hk)
    obtain ⟨w', z⟩ := I.cell x c hc
    refine wpAny_storeName_cell I.ok.kind hk hc z (fun h' hc' hs => ?_)
    obtain ⟨oc, hoc, hocd⟩ := id z
    refine h { s with heap := h' } ⟨I.ok, I.os, I.bare, ⟨fun b o e n hb hx => ?_, fun b o e n hb hx => ?_, I.base.free, fun b o e hx => ?_, I.base.tups, I.base.frzs, I.base.tbls⟩, ⟨m, hn.sameBut hs (Ne.symm (cne x c hc)), fun j y v' e1 e2 e3 => ?_⟩, fun y c' e => ?_, I.free, I.freeC, fun p hp => ?_, tracked ⟨oc, hoc, I.freeC x c hc⟩ hs, by simpa using I.len⟩ ⟨c, hs, .inr hc⟩
    · exact (hs.2 b (Nat.ne_of_lt (Nat.lt_of_lt_of_le (Heap.lt_size e) (I.ok.cab x c hfn hc)))).trans (I.base.keep b o e n hb hx)
    · obtain ⟨sl, e1⟩ := I.base.slot b o e n hb hx
      exact ⟨sl, (hs.2 b (Nat.ne_of_lt (Nat.lt_of_lt_of_le (Heap.lt_size e) (I.ok.cab x c hfn hc)))).trans e1⟩
    · obtain ⟨o', e1⟩ := I.base.there b o e hx
      exact ⟨o', (hs.2 b (Nat.ne_of_lt (Nat.lt_of_lt_of_le (Heap.lt_size e) (I.ok.cab x c hfn hc)))).trans e1⟩
    · by_cases hj : j = i
      · subst hj
        rw [hi] at e1; cases e1
        rw [List.getElem?_set_self hiσ] at e2
        cases e2
        exact ⟨u, r, .inr ⟨.inl hk, c, hc, hc'⟩⟩
      · rw [List.getElem?_set_ne (Ne.symm hj)] at e2
        obtain ⟨u', r', q⟩ := hl j y v' e1 e2 e3
        refine ⟨u', r', ?_⟩
        rcases q with q | ⟨k, c', e, z'⟩
        · exact .inl q
        · refine .inr ⟨k, c', e, z'.sameBut hs ?_⟩
          rintro rfl
          exact hj (nodup_ix hN e1 (I.ok.inj _ _ _ e hc ▸ hi))
    · by_cases hcc : c' = c
      · subst hcc; exact ⟨_, hc'⟩
      · obtain ⟨w2, z2⟩ := I.cell y c' e
        exact ⟨w2, z2.sameBut hs hcc⟩
    · obtain ⟨e, n, ne, nf, d⟩ := I.pin p hp
      refine ⟨(hs.2 p.1 ?_).trans e, n, ne, nf, d⟩
      intro q
      rw [q, hoc] at e
      have q' : oc = p.2 := Option.some.inj e
      exact d w' (by rw [← q']; exact hocd)
theorem store_ok {M : Model} {A : Around} {E : Value → Shared → Prop} {i : Nat} {x : Str} {v : V} {u : Value} {Q : Unit → Shared → Prop} (I : Inv X pins σ H s) (hN : X.N.Nodup) (hi : X.N[i]? = some x) (hx : Loc X.env.scope x) (r : RelV v u)
    (h : ∀ s', Inv X pins (σ.set i (some v)) H s' → Q () s') (hf : X.fn x = true ∨ X.env.scope.names.lookup x = some .local := by first | exact .inl rfl | exact .inr rfl | assumption) : wpAny M A (storeName X.env x u) Q E s :=
  store_ok2 I hN hi hx r (fun s' I' _ => h s' I') hf
theorem Inv.call' {s' : Shared} {ch : List Addr} (I : Inv X pins σ H s) (ho : s'.os = s.os) (u : Un (frs X.stack) ch H H' s.heap s'.heap) (hok : HOk X.prog X.w H' s'.heap) (hg : AllBare s'.gens)
    (hch : ∀ b ∈ ch, (b ∈ X.ex ∨ X.s₀.heap.objs.size ≤ b) ∧ b ≠ X.env.locals ∧ (∀ x c, X.env.cells.lookup x = some c → c ≠ b) ∧ ∀ p ∈ X.pn ++ pins, p.1 ≠ b) : Inv X pins σ H' s' := by
  obtain ⟨h', g', d', t', o'⟩ := s'
  have e : o' = s.os := ho
  subst e
  exact I.call (g' := g') (t' := t') (d' := d') u hok hg hch
end

noncomputable abbrev XK := Value → Option Addr → Hp → Prop
noncomputable abbrev St := List (Option V)
noncomputable abbrev VK := V → Hp → Prop
noncomputable abbrev TE := St → Hp → VK → Prop
noncomputable abbrev TT := St → Hp → (Bool → Hp → Prop) → Prop
noncomputable abbrev TA := St → Hp → (List V → Hp → Prop) → Prop
structure Ends where
  nx : St → Hp → Prop
  rt : VK
  bk : St → Hp → Prop := fun _ _ => False
  ct : St → Hp → Prop := fun _ _ => False
noncomputable abbrev TS := Ends → St → Hp → Prop
inductive EP (X : Cx) (pins : List (Addr × Obj)) (σ : St) (Q : VK) (u : Value) (s' : Shared) : Prop
  | mk (v : V) (H' : Hp) (I : Inv X pins σ H' s') (r : RelV v u) (q : Q v H') : EP X pins σ Q u s'
inductive TP (X : Cx) (pins : List (Addr × Obj)) (σ : St) (Q : Bool → Hp → Prop) (b : Bool) (s' : Shared) : Prop
  | mk (H' : Hp) (I : Inv X pins σ H' s') (q : Q b H') : TP X pins σ Q b s'
inductive AP (X : Cx) (pins : List (Addr × Obj)) (σ : St) (Q : List V → Hp → Prop) (us : List Value) (s' : Shared) : Prop
  | mk (vs : List V) (H' : Hp) (I : Inv X pins σ H' s') (r : Vals vs us) (q : Q vs H') : AP X pins σ Q us s'
noncomputable def SP (X : Cx) (pins : List (Addr × Obj)) (D : Ends) (f : Flow) (s' : Shared) : Prop :=
  match f with
  | .next => ∃ σ' H', Inv X pins σ' H' s' ∧ D.nx σ' H'
  | .brk => ∃ σ' H', Inv X pins σ' H' s' ∧ D.bk σ' H'
  | .cont => ∃ σ' H', Inv X pins σ' H' s' ∧ D.ct σ' H'
  | .ret u => ∃ v σ' H', Inv X pins σ' H' s' ∧ RelV v u ∧ D.rt v H'
noncomputable def PE (X : Cx) (e : Expr) (t : TE) : Prop :=
  ∀ (pins : List (Addr × Obj)) (s : Shared) (σ : St) (H : Hp) (Q : VK), Inv X pins σ H s → t σ H Q → wpAny (model X.prog X.w) X.A (eval e X.env) (EP X pins σ Q) X.xe s
noncomputable def PT (X : Cx) (e : Expr) (t : TT) : Prop :=
  ∀ (pins : List (Addr × Obj)) (s : Shared) (σ : St) (H : Hp) (Q : Bool → Hp → Prop), Inv X pins σ H s → t σ H Q → wpAny (model X.prog X.w) X.A (isTrue e X.env (eval e X.env)) (TP X pins σ Q) X.xe s
noncomputable def PW (X : Cx) (e : Expr) (t : TT) : Prop :=
  ∀ (whole : Sem Value) (pins : List (Addr × Obj)) (s : Shared) (σ : St) (H : Hp) (Q : Bool → Hp → Prop), Inv X pins σ H s → t σ H Q → wpAny (model X.prog X.w) X.A (isTrue e X.env whole) (TP X pins σ Q) X.xe s
theorem PW.pt {X : Cx} {e : Expr} {t : TT} (h : PW X e t) : PT X e t := h _
noncomputable def PA (X : Cx) (es : List Expr) (t : TA) : Prop :=
  ∀ (pos : Pos) (pins : List (Addr × Obj)) (s : Shared) (σ : St) (H : Hp) (Q : List V → Hp → Prop), Inv X pins σ H s → t σ H Q → wpAny (model X.prog X.w) X.A (spliced (backTo pos (starEach es X.env))) (AP X pins σ Q) X.xe s
noncomputable def PS (X : Cx) (st : Stmt) (t : TS) : Prop :=
  ∀ (pins : List (Addr × Obj)) (s : Shared) (σ : St) (H : Hp) (D : Ends), Inv X pins σ H s → t D σ H → wpAny (model X.prog X.w) X.A (exec st X.env) (SP X pins D) X.xe s
noncomputable def PSs (X : Cx) (st : List Stmt) (t : TS) : Prop :=
  ∀ (pins : List (Addr × Obj)) (s : Shared) (σ : St) (H : Hp) (D : Ends), Inv X pins σ H s → t D σ H → wpAny (model X.prog X.w) X.A (execs st X.env) (SP X pins D) X.xe s
theorem thn {α : Type} {t : Sem α} {Q Q' : α → Shared → Prop} {M : Model} {A : Around} {E : Value → Shared → Prop} {s : Shared} (h : wpAny M A t Q E s) (hQ : ∀ a s, Q a s → Q' a s) : wpAny M A t Q' E s := wpAny_mono h hQ fun _ _ x => x
end L2

namespace L2
open PySem PySem.Spec PyProof.Rows
section
variable {X : Cx}

inductive tVar (i : Nat) (σ : St) (H : Hp) (Q : VK) : Prop
  | mk (v : V) (e : σ[i]? = some (some v)) (q : Q v H) : tVar i σ H Q
noncomputable def tC (v : V) : TE := fun _ H Q => Q v H
theorem pe_var {i : Nat} {x : Str} {pos : Pos} (hN : X.N[i]? = some x) (hv : Vis X.env.scope x) (hd : (x == ("__debug__" : Str)) = false := by decide) (hcd : (x == ("__classdict__" : Str)) = false := by decide) : PE X (.Name x pos) (tVar i) := by
  intro pins s σ H Q I h
  obtain ⟨v, e, h⟩ := h
  obtain ⟨m, hn, hl⟩ := I.loc
  obtain ⟨u, r, l⟩ := hl i x v hN e hv
  have fin : EP X pins σ Q u s := ⟨v, H, I, r, h⟩
  rcases l with ⟨hk, hm⟩ | ⟨hk, c, hc, hcell⟩
  · exact wpAny_Name (wpAny_loadName_local I.ok.kind hk hn hm fin) hd
  · rcases hk with hk | hk
    · exact wpAny_Name (wpAny_loadName_cell I.ok.kind hk hc hcell fin) hd
    · exact wpAny_Name (wpAny_loadName_free I.ok.kind hk hc hcell fin hcd) hd
theorem pe_int {i j pos} : PE X (.Constant (.int i) j pos) (tC (.int i)) := fun _ _ _ H _ I h => wpAny_Constant_int ⟨.int i, H, I.tok _, ⟨_, rfl⟩, h⟩
theorem pe_bl {b j pos} : PE X (.Constant (.bool b) j pos) (tC (.bl b)) := fun _ _ _ H _ I h => Constant_bool ⟨.bl b, H, I, rfl, h⟩
theorem pe_non {j pos} : PE X (.Constant .none j pos) (tC .non) := fun _ _ _ H _ I h => Constant_none ⟨.non, H, I, rfl, h⟩
theorem pe_str {x j pos} : PE X (.Constant (.str x) j pos) (tC (.str x)) := fun _ _ _ H _ I h => Calls.Constant_str ⟨.str x, H, I.tok _, ⟨_, rfl⟩, h⟩
noncomputable def Gl (X : Cx) (x : Str) : Prop := X.env.kindOf x = some .globalImplicit
theorem ld_glob {E : Value → Shared → Prop} {pins : List (Addr × Obj)} {s : Shared} {σ : St} {H : Hp} {x : Str} {u : Value} {pos : Pos} {Q : Value → Shared → Prop} (I : Inv X pins σ H s) (hg : Gl X x) (hm : X.mg x = some u) (h : Q u s)
    (hd : (x == ("__debug__" : Str)) = false := by decide) : wpAny (model X.prog X.w) X.A (eval (.Name x pos) X.env) Q E s :=
  Calls.Name_function_global I.ok.kind hg (Calls.loadGlobal_global (by rw [I.ok.glob]; exact I.mod.glob.keeps I.bk) hm h) hd
theorem ld_blt {E : Value → Shared → Prop} {pins : List (Addr × Obj)} {s : Shared} {σ : St} {H : Hp} {x : Str} {u : Value} {pos : Pos} {Q : Value → Shared → Prop} (I : Inv X pins σ H s) (hg : Gl X x) (hm : X.mg x = none) (hv : bootBuiltins x = some u) (h : Q u s)
    (hn : x ≠ "__name__" := by decide) (hd : (x == ("__debug__" : Str)) = false := by decide) : wpAny (model X.prog X.w) X.A (eval (.Name x pos) X.env) Q E s := by
  obtain ⟨mb, h1, h2⟩ := I.mod.blt
  exact Calls.Name_function_global I.ok.kind hg (Calls.loadGlobal_builtin (by rw [I.ok.glob]; exact I.mod.glob.keeps I.bk) hm (by rw [I.ok.blt]; exact h1.keeps I.bk) ((h2 x hn).trans hv) h) hd
theorem pe_glob {x : Str} {v : V} {u : Value} {pos : Pos} (hg : Gl X x) (hm : X.mg x = some u) (r : RelV v u) (hd : (x == ("__debug__" : Str)) = false := by decide) : PE X (.Name x pos) (tC v) :=
  fun _ _ _ H _ I h => ld_glob I hg hm ⟨v, H, I, r, h⟩ hd
theorem pe_bltn {x : Str} {v : V} {u : Value} {pos : Pos} (hg : Gl X x) (hm : X.mg x = none) (hv : bootBuiltins x = some u) (r : RelV v u) (hn : x ≠ "__name__" := by decide) (hd : (x == ("__debug__" : Str)) = false := by decide) : PE X (.Name x pos) (tC v) :=
  fun _ _ _ H _ I h => ld_blt I hg hm hv ⟨v, H, I, r, h⟩ hn hd
variable {a b : Expr} {ta tb : TE} {pos : Pos}
noncomputable def PC (X : Cx) (op : CmpOp) (a b : Expr) (t : TE) : Prop :=
  ∀ (pins : List (Addr × Obj)) (s : Shared) (σ : St) (H : Hp) (Q : VK), Inv X pins σ H s → t σ H Q →
    wpAny (model X.prog X.w) X.A (eval a X.env) (fun v s₁ => wpAny (model X.prog X.w) X.A (eval b X.env) (fun u s₂ => wpAny (model X.prog X.w) X.A (compareOp op v u) (EP X pins σ Q) X.xe s₂) X.xe s₁) X.xe s
theorem nobehind (b : Expr) {op : CmpOp} (h : op ≠ .In) (h2 : op ≠ .NotIn) : behindInMarks op b = false := by
  have e1 : (op == CmpOp.In) = false := by cases op <;> first | rfl | exact absurd rfl h
  have e2 : (op == CmpOp.NotIn) = false := by cases op <;> first | rfl | exact absurd rfl h2
  cases b <;> simp [behindInMarks, e1, e2]
noncomputable def tNotN (ta : TE) : TE := fun σ H Q => ta σ H fun x H1 => Q (.bl (!decide (x = .non))) H1
theorem RelV.none_iff {x : V} {v : Value} (r : RelV x v) : (v == Value.none) = decide (x = .non) := by
  cases x with
  | non => cases r; rfl
  | bl _ => cases r; rfl
  | int _ => obtain ⟨t, rfl⟩ := r; rfl
  | str _ => obtain ⟨t, rfl⟩ := r; rfl
  | byt _ => obtain ⟨t, rfl⟩ := r; rfl
  | flt _ => obtain ⟨t, rfl⟩ := r; rfl
  | ref _ => cases r; rfl
  | ty _ => cases r; rfl
theorem pc_notN {j pos'} (ha : PE X a ta) : PC X .IsNot a (.Constant .none j pos') (tNotN ta) := by
  intro pins s σ H Q I h
  refine thn (ha pins s σ H _ I h) fun v s1 zq => ?_
  obtain ⟨x, H1, I1, r1, q1⟩ := zq
  exact Constant_none (isnot_none_gen ⟨.bl _, H1, I1, by rw [r1.none_iff]; rfl, q1⟩)
inductive xBl (x : V) (H : Hp) (Q : Bool → Hp → Prop) : Prop
  | mk (c : Bool) (e : x = .bl c) (q : Q c H) : xBl x H Q
noncomputable def tB (t : TE) : TT := fun σ H Q => t σ H fun x H1 => xBl x H1 Q
theorem pt_cmp {op : CmpOp} {t : TE} (h : PC X op a b t) (h1 : behindInMarks op b = false := by first | exact nobehind _ (by decide) (by decide) | rfl) : PT X (.Compare a [op] [b] pos) (tB t) := by
  intro pins s σ H Q I hw
  refine wpAny_isTrue_Compare1 (thn (h pins s σ H _ I hw) fun v s1 h1 => thn h1 fun u s2 h2 => thn h2 fun c s3 zq => ?_) h1
  obtain ⟨x, H1, I1, r1, q1⟩ := zq
  obtain ⟨d, rfl, q⟩ := q1
  cases r1
  exact wpAny_truthy_bool ⟨H1, I1, q⟩
theorem pt_val {e : Expr} {t : TE} (h : PE X e t) (he : ∀ whole, isTrue e X.env whole = (do let v ← whole; standAt e.pos; holding [v] (truthy v)) := by intro _; rfl) : PT X e (tB t) := by
  intro pins s σ H Q I hw
  refine isTrue_plain (thn (h pins s σ H _ I hw) fun v s1 zq => ?_) (he _)
  obtain ⟨x, H1, I1, r1, q1⟩ := zq
  obtain ⟨d, rfl, q⟩ := q1
  cases r1
  exact wpAny_truthy_bool ⟨H1, I1, q⟩
variable {tA tB' : TT} {rest : List Expr}
noncomputable def tAnd (t u : TT) : TT := fun σ H Q => t σ H fun c H1 => if c = true then u σ H1 Q else Q false H1
noncomputable def tOr (t u : TT) : TT := fun σ H Q => t σ H fun c H1 => if c = true then Q true H1 else u σ H1 Q
noncomputable def tNot (t : TT) : TT := fun σ H Q => t σ H fun c H1 => Q (!c) H1
theorem pw_and1 (ha : PT X a tA) : PW X (.BoolOp .And [a] pos) tA := by
  intro wh pins s σ H Q I h
  refine isTrue_and (thn (ha pins s σ H Q I h) fun c s1 e => ?_)
  cases c with
  | true => exact isTrue_and_nil e
  | false => exact e
theorem pw_or1 (ha : PT X a tA) : PW X (.BoolOp .Or [a] pos) tA := by
  intro wh pins s σ H Q I h
  refine isTrue_or (thn (ha pins s σ H Q I h) fun c s1 e => ?_)
  cases c with
  | false => exact isTrue_or_nil e
  | true => exact e
theorem pw_and (ha : PT X a tA) (hb : PW X (.BoolOp .And (b :: rest) pos) tB') : PW X (.BoolOp .And (a :: b :: rest) pos) (tAnd tA tB') := by
  intro wh pins s σ H Q I h
  refine isTrue_and (thn (ha pins s σ H _ I h) fun c s1 zq => ?_)
  obtain ⟨H1, I1, q1⟩ := zq
  cases c with
  | true => exact hb wh pins s1 σ H1 Q I1 q1
  | false => exact ⟨H1, I1, q1⟩
theorem pw_or (ha : PT X a tA) (hb : PW X (.BoolOp .Or (b :: rest) pos) tB') : PW X (.BoolOp .Or (a :: b :: rest) pos) (tOr tA tB') := by
  intro wh pins s σ H Q I h
  refine isTrue_or (thn (ha pins s σ H _ I h) fun c s1 zq => ?_)
  obtain ⟨H1, I1, q1⟩ := zq
  cases c with
  | true => exact ⟨H1, I1, q1⟩
  | false => exact hb wh pins s1 σ H1 Q I1 q1
theorem pt_not (ha : PT X a tA) : PT X (.UnaryOp .Not a pos) (tNot tA) := by
  intro pins s σ H Q I h
  exact isTrue_not (thn (ha pins s σ H (fun c H1 => Q (!c) H1) I h) fun _ _ ⟨H1, I1, q1⟩ => ⟨H1, I1, q1⟩)
noncomputable def tAndV (ta tb : TE) : TE := fun σ H Q => ta σ H fun x H1 => ∃ c, x = .bl c ∧ if c = true then tb σ H1 Q else Q (.bl false) H1
noncomputable def tNotV (ta : TE) : TE := fun σ H Q => ta σ H fun x H1 => ∃ c, x = .bl c ∧ Q (.bl (!c)) H1
theorem pe_one {op} {t : TE} (h : PE X a t) : PE X (.BoolOp op [a] pos) t := fun pins s σ H Q I hw => BoolOp_one (h pins s σ H Q I hw)
theorem pe_and (ha : PE X a ta) (hb : PE X (.BoolOp .And (b :: rest) pos) tb) : PE X (.BoolOp .And (a :: b :: rest) pos) (tAndV ta tb) := by
  intro pins s σ H Q I h
  refine BoolOp_and (thn (ha pins s σ H _ I h) fun v s1 zq => ?_)
  obtain ⟨x, H1, I1, r1, q1⟩ := zq
  obtain ⟨c, rfl, q1⟩ := q1
  cases r1
  refine wpAny_truthy_bool ?_
  cases c with
  | true => exact hb pins s1 σ H1 Q I1 q1
  | false => exact ⟨.bl false, H1, I1, rfl, q1⟩
theorem pe_not (ha : PE X a ta) : PE X (.UnaryOp .Not a pos) (tNotV ta) := by
  intro pins s σ H Q I h
  refine UnaryOp_ (thn (ha pins s σ H _ I h) fun v s1 zq => ?_)
  obtain ⟨x, H1, I1, r1, q1⟩ := zq
  obtain ⟨c, rfl, q1⟩ := q1
  cases r1
  exact not_of (wpAny_truthy_bool ⟨.bl (!c), H1, I1, rfl, q1⟩)
noncomputable def tIf (t : TT) (ta tb : TE) : TE := fun σ H Q => t σ H fun c H1 => if c = true then ta σ H1 Q else tb σ H1 Q
theorem pe_ifExp {c : Expr} (hc : PT X c tA) (ha : PE X a ta) (hb : PE X b tb) : PE X (.IfExp c a b pos) (tIf tA ta tb) := by
  intro pins s σ H Q I h
  refine wpAny_IfExp (thn (hc pins s σ H _ I h) fun d s1 zq => ?_)
  obtain ⟨H1, I1, q1⟩ := zq
  cases d with
  | true => exact ha pins s1 σ H1 Q I1 q1
  | false => exact hb pins s1 σ H1 Q I1 q1
end
end L2

namespace L2
open PySem PySem.Spec PyProof.Rows

noncomputable def SqL (K : PySem.W.Frag) (H : Hp) (a : Addr) (xs : List V) : Prop :=
  Rd H a (.lst xs) ∨
    ∃ (o : Obj) (its : Array Value) (n : Nat), K.lookup a = some o ∧ o.cls = .type "list" ∧ o.dict = none ∧ o.data = .seq its n ∧ its.size ≤ sizeLine ∧ Vals xs its.toList
noncomputable def SqT (K : PySem.W.Frag) (H : Hp) (a : Addr) (xs : List V) : Prop :=
  Rd H a (.tup xs) ∨
    ∃ (o : Obj) (its : Array Value) (n : Nat), K.lookup a = some o ∧ o.cls = .type "tuple" ∧ o.data = .seq its n ∧ its.size ≤ sizeLine ∧ Vals xs its.toList
noncomputable def absV : Value → Option V
  | .none => some .non
  | .bool b => some (.bl b)
  | .int i _ => some (.int i)
  | .str x _ => some (.str x)
  | .bytes b _ => some (.byt b)
  | .float b _ => some (.flt b)
  | .ref a => some (.ref a)
  | .type n => some (.ty n)
  | _ => none
theorem RelV.abs {x : V} {u : Value} (r : RelV x u) : absV u = some x := by
  cases x with
  | non => cases r; rfl
  | bl _ => cases r; rfl
  | int _ => obtain ⟨t, rfl⟩ := r; rfl
  | str _ => obtain ⟨t, rfl⟩ := r; rfl
  | byt _ => obtain ⟨t, rfl⟩ := r; rfl
  | flt _ => obtain ⟨t, rfl⟩ := r; rfl
  | ref _ => cases r; rfl
  | ty _ => cases r; rfl
theorem RelV.inj {x y : V} {u : Value} (r : RelV x u) (q : RelV y u) : x = y := Option.some.inj (r.abs.symm.trans q.abs)
theorem Vals.inj : ∀ {xs ys : List V} {us : List Value}, Vals xs us → Vals ys us → xs = ys
  | _, _, _, .nil, .nil => rfl
  | _, _, _, .cons r t, .cons r' t' => by rw [r.inj r', Vals.inj t t']
section
variable {X : Cx} {pins : List (Addr × Obj)} {σ : St} {H : Hp} {s : Shared} {a : Addr} {xs ys : List V}
theorem SqL.of {K : PySem.W.Frag} (h : H a = some (.lst xs)) : SqL K H a xs := .inl (.inl h)
theorem SqT.of {K : PySem.W.Frag} (h : H a = some (.tup xs)) : SqT K H a xs := .inl (.inl h)
theorem Inv.list (I : Inv X pins σ H s) (h : SqL X.K H a xs) : ∃ its : List Value, Vals xs its ∧ PlainL s.heap a its.toArray ∧ xs.length ≤ sizeLine := by
  rcases h with h | ⟨o, its, n, hk, hc, hd, hs, hz, r⟩
  · obtain ⟨z, its, n, r, e⟩ := h.ok I.hok
    exact ⟨its, r, ⟨_, n, e, rfl, rfl, rfl⟩, z⟩
  · refine ⟨its.toList, r, ⟨o, n, I.kIn a o hk, hc, hd, by simpa using hs⟩, ?_⟩
    have e := r.length
    simp only [Array.length_toList] at e
    omega
theorem Inv.tuple (I : Inv X pins σ H s) (h : SqT X.K H a xs) : ∃ its : List Value, Vals xs its ∧ IsTup s.heap a its.toArray ∧ xs.length ≤ sizeLine := by
  rcases h with h | ⟨o, its, n, hk, hc, hs, hz, r⟩
  · obtain ⟨z, its, r, p⟩ := h.ok I.hok
    exact ⟨its, r, p, z⟩
  · refine ⟨its.toList, r, ⟨o, I.kIn a o hk, hc, n, by simpa using hs⟩, ?_⟩
    have e := r.length
    simp only [Array.length_toList] at e
    omega
theorem Inv.list_inj (I : Inv X pins σ H s) (h : SqL X.K H a xs) (h' : SqL X.K H a ys) : xs = ys := by
  obtain ⟨its, r, ⟨o, n, e, _, _, d⟩, _⟩ := I.list h
  obtain ⟨its', r', ⟨o', n', e', _, _, d'⟩, _⟩ := I.list h'
  rw [e] at e'; cases e'
  rw [d] at d'
  injection d' with d1 _
  have : its = its' := by simpa using congrArg Array.toList d1
  subst this
  exact r.inj r'
end

noncomputable abbrev Cx.wish (X : Cx) (E : Value → Shared → Prop) : Cx := { X with xe := E }
noncomputable abbrev Cx.nox (X : Cx) : Cx := X.wish fun _ _ => False
theorem Cx.Ok.wish {X : Cx} (ok : X.Ok) (E : Value → Shared → Prop) : (X.wish E).Ok :=
  ⟨ok.mod, ok.kind, ok.glob, ok.blt, ok.above, ok.inj, ok.has, ok.cab, ok.hd, ok.frames, ok.stk, ok.exf, ok.bs, ok.bsz, ok.noex, ok.exfs, ok.funs, ok.frf⟩
theorem Cx.Ok.unwish {X : Cx} {E : Value → Shared → Prop} (ok : (X.wish E).Ok) : X.Ok :=
  ⟨ok.mod, ok.kind, ok.glob, ok.blt, ok.above, ok.inj, ok.has, ok.cab, ok.hd, ok.frames, ok.stk, ok.exf, ok.bs, ok.bsz, ok.noex, ok.exfs, ok.funs, ok.frf⟩
section
variable {X : Cx} {pins : List (Addr × Obj)} {σ : St} {H : Hp} {s : Shared} {E : Value → Shared → Prop}
theorem Inv.wish (I : Inv X pins σ H s) (E : Value → Shared → Prop) : Inv (X.wish E) pins σ H s := ⟨I.ok.wish E, I.os, I.bare, I.base, I.loc, I.cell, I.free, I.freeC, I.pin, I.hok, I.len⟩
theorem Inv.unwish (I : Inv (X.wish E) pins σ H s) : Inv X pins σ H s := ⟨I.ok.unwish, I.os, I.bare, I.base, I.loc, I.cell, I.free, I.freeC, I.pin, I.hok, I.len⟩
theorem SP.unwish {D : Ends} {f : Flow} {s' : Shared} (h : SP (X.wish E) pins D f s') : SP X pins D f s' := by
  cases f with
  | next => obtain ⟨σ', H', I, q⟩ := h; exact ⟨σ', H', I.unwish, q⟩
  | brk => obtain ⟨σ', H', I, q⟩ := h; exact ⟨σ', H', I.unwish, q⟩
  | cont => obtain ⟨σ', H', I, q⟩ := h; exact ⟨σ', H', I.unwish, q⟩
  | ret u => obtain ⟨v, σ', H', I, r, q⟩ := h; exact ⟨v, σ', H', I.unwish, r, q⟩
theorem PSs.nox {st : List Stmt} {t : TS} (h : PSs X.nox st t) : PSs X st t := fun pins s σ H D I hw =>
  wpAny_mono (h pins s σ H D (I.wish _) hw) (fun _ _ q => q.unwish) fun _ _ z => False.elim z
end

section
variable {X : Cx} {st : Stmt} {rest : List Stmt} {t u : TS} {e : Expr} {te : TE} {pos : Pos}
noncomputable def tNext : TS := fun D σ H => D.nx σ H
noncomputable def tSeq (t u : TS) : TS := fun D σ H => t { D with nx := u D } σ H
theorem pss_nil : PSs X [] tNext := fun _ _ σ H _ I h => wpAny_execs_nil ⟨σ, H, I, h⟩
theorem pss_cons (h1 : PS X st t) (h2 : PSs X rest u) : PSs X (st :: rest) (tSeq t u) := by
  intro pins s σ H D I h
  refine wpAny_execs_cons (thn (h1 pins s σ H { D with nx := u D } I h) fun f s1 q => ?_)
  cases f with
  | next =>
    obtain ⟨σ', H', I', q⟩ := q
    exact h2 pins s1 σ' H' D I' q
  | ret v => exact q
  | brk => exact q
  | cont => exact q
theorem pss_one (h1 : PS X st t) : PSs X [st] t := by
  intro pins s σ H D I h
  refine wpAny_execs_cons (thn (h1 pins s σ H D I h) fun f s1 q => ?_)
  cases f with
  | next => exact wpAny_execs_nil q
  | ret v => exact q
  | brk => exact q
  | cont => exact q
theorem Inv.quiet {pins : List (Addr × Obj)} {σ : St} {H : Hp} {s : Shared} (I : Inv X pins σ H s) : interactive X.env = false := by simp [interactive, I.ok.kind]
noncomputable def tDrop (te : TE) : TS := fun D σ H => te σ H fun _ H1 => D.nx σ H1
theorem ps_expr (he : PE X e te) (hs : swapsWith e none pos.line X.env = pure false := by rfl) : PS X (.Expr e pos) (tDrop te) := by
  intro pins s σ H D I h
  exact wpAny_Expr_any (thn (he pins s σ H _ I h) fun v s1 ⟨x, H1, I1, r1, q1⟩ => ⟨σ, H1, I1, q1⟩) I.quiet hs
noncomputable def tRet (te : TE) : TS := fun D σ H => te σ H D.rt
theorem ps_ret (he : PE X e te) : PS X (.Return (some e) pos) (tRet te) := by
  intro pins s σ H D I h
  exact wpAny_Return_some (thn (he pins s σ H _ I h) fun v s1 ⟨x, H1, I1, r1, q1⟩ => ⟨x, σ, H1, I1, r1, q1⟩)
noncomputable def tIfS (c : TT) (t u : TS) : TS := fun D σ H => c σ H fun b H1 => if b = true then t D σ H1 else u D σ H1
theorem ps_if {c : Expr} {a b : List Stmt} {tc : TT} (hc : PT X c tc) (ha : PSs X a t) (hb : PSs X b u) : PS X (.If c a b pos) (tIfS tc t u) := by
  intro pins s σ H D I h
  refine wpAny_If (thn (hc pins s σ H _ I h) fun d s1 zq => ?_)
  obtain ⟨H1, I1, q1⟩ := zq
  cases d with
  | true => exact ha pins s1 σ H1 D I1 q1
  | false => exact hb pins s1 σ H1 D I1 q1
end

noncomputable abbrev TG := V → St → Hp → (St → Hp → Prop) → Prop
noncomputable abbrev TGs := List V → St → Hp → (St → Hp → Prop) → Prop
noncomputable def PG (X : Cx) (target : Expr) (t : TG) : Prop :=
  ∀ (pins : List (Addr × Obj)) (s : Shared) (σ : St) (H : Hp) (v : V) (u : Value) (Q : St → Hp → Prop), Inv X pins σ H s → RelV v u → t v σ H Q →
    wpAny (model X.prog X.w) X.A (assign target X.env u) (fun _ s' => ∃ σ' H', Inv X pins σ' H' s' ∧ Q σ' H') X.xe s
noncomputable def PGs (X : Cx) (ts : List Expr) (t : TGs) : Prop :=
  ∀ (pins : List (Addr × Obj)) (s : Shared) (σ : St) (H : Hp) (vs : List V) (us : List Value) (Q : St → Hp → Prop), Inv X pins σ H s → Vals vs us → t vs σ H Q →
    wpAny (model X.prog X.w) X.A (assignInOrder ((assignEach ts X.env).map (·.2)) us) (fun _ s' => ∃ σ' H', Inv X pins σ' H' s' ∧ Q σ' H') X.xe s
section
variable {X : Cx} {pos : Pos}
noncomputable def gName (i : Nat) : TG := fun v σ H Q => Q (σ.set i (some v)) H
theorem pg_name {i : Nat} {x : Str} (hN : X.N.Nodup) (hi : X.N[i]? = some x) (hx : Loc X.env.scope x) (hf : X.fn x = true ∨ X.env.scope.names.lookup x = some .local := by first | exact .inl rfl | exact .inr rfl | assumption) : PG X (.Name x pos) (gName i) := by
  intro pins s σ H v u Q I r h
  exact wpAny_assign_Name (store_ok I hN hi hx r (fun s' I' => ⟨_, H, I', h⟩) hf)
noncomputable def gNil : TGs := fun vs σ H Q => vs = [] ∧ Q σ H
noncomputable def gCons (t : TG) (u : TGs) : TGs := fun vs σ H Q => ∃ v r, vs = v :: r ∧ t v σ H fun σ' H' => u r σ' H' Q
theorem pgs_nil : PGs X [] gNil := by
  intro pins s σ H vs us Q I r h
  obtain ⟨e, h⟩ := h
  subst e
  cases r
  exact assignInOrder_nil ⟨σ, H, I, h⟩
theorem pgs_cons {e : Expr} {es : List Expr} {t : TG} {u : TGs} (h1 : PG X e t) (h2 : PGs X es u)
    (hs : (assignEach (e :: es) X.env).map (·.2) = assign e X.env :: (assignEach es X.env).map (·.2) := by rfl) : PGs X (e :: es) (gCons t u) := by
  intro pins s σ H vs us Q I r h
  obtain ⟨v, vr, e1, h⟩ := h
  subst e1
  cases r with
  | cons r rr =>
    rw [hs]
    refine assignInOrder_cons (thn (h1 pins s σ H _ _ _ I r h) fun _ s1 zq => ?_)
    obtain ⟨σ1, H1, I1, q1⟩ := zq
    exact h2 pins s1 σ1 H1 _ _ Q I1 rr q1
noncomputable def gTup (K : PySem.W.Frag) (n : Nat) (t : TGs) : TG := fun v σ H Q => ∃ a xs, v = .ref a ∧ SqT K H a xs ∧ xs.length = n ∧ t xs σ H Q
theorem pg_tup {es : List Expr} {k : Nat} {t : TGs} {n : Nat} (hc : X.calm = true) (h : PGs X es t)
    (hn : (assignEach es X.env).length = n := by rfl) (hst : (assignEach es X.env).findIdx? (·.1) = none := by rfl) : PG X (.Tuple es k pos) (gTup X.K n t) := by
  intro pins s σ H v u Q I r hw
  obtain ⟨a, xs, e1, hq, hl, hw⟩ := hw
  subst e1
  cases r
  obtain ⟨its, rv, ht, hz⟩ := I.tuple hq
  refine assign_Tuple_tuple (I.ok.hd hc) ht (by simp [hn, ← hl, rv.length]) hst fun h' hx => ?_
  have I1 : Inv X pins σ H { s with heap := h' } := I.kept (t' := s.toks) fun b o e => hx b o (Nat.ne_of_lt (Heap.lt_size e)) e
  exact h pins _ σ H xs _ Q I1 (by simpa using rv) hw
noncomputable def tAsg (te : TE) (g : TG) : TS := fun D σ H => te σ H fun x H1 => g x σ H1 D.nx
theorem ps_set {i : Nat} {x : Str} {e : Expr} {te : TE} {pos' : Pos} (hN : X.N.Nodup) (hi : X.N[i]? = some x) (hx : Loc X.env.scope x) (he : PE X e te) (hs : swapsWith e (some (.Name x pos')) pos.line X.env = pure false := by rfl) (hf : X.fn x = true ∨ X.env.scope.names.lookup x = some .local := by first | exact .inl rfl | exact .inr rfl | assumption) :
    PS X (.Assign [.Name x pos'] e pos) (tAsg te (gName i)) := by
  intro pins s σ H D I h
  refine wpAny_Assign_Name (thn (he pins s σ H _ I h) fun v s1 zq => ?_) hs
  obtain ⟨y, H1, I1, r1, q1⟩ := zq
  exact store_ok I1 hN hi hx r1 (fun s2 I2 => ⟨_, H1, I2, q1⟩) hf
end

section
variable {X : Cx} {pos : Pos}
noncomputable def tWhile (c : TT) (tb : TS) : TS := fun D σ H => ∃ W : Nat → St → Hp → Prop, (∃ m, W m σ H) ∧ ∀ m σ H, W m σ H →
  c σ H fun b H1 => if b = true then ∃ N : St → Hp → Prop, (∀ σ' H', N σ' H' → ∃ m', m' < m ∧ W m' σ' H') ∧ tb { D with nx := N, ct := N, bk := D.nx } σ H1 else D.nx σ H1
theorem ps_while {c : Expr} {body : List Stmt} {tc : TT} {tb : TS} (hp : PassesOwn (model X.prog X.w) X.A X.env X.xe) (hc : PT X c tc) (hb : PSs X body tb) : PS X (.While c body [] pos) (tWhile tc tb) := by
  intro pins s σ H D I h
  obtain ⟨W, ⟨m0, w0⟩, turn⟩ := h
  refine wpAny_While (codeAny_whileLoop (fun n s' => ∃ σ' H', Inv X pins σ' H' s' ∧ W n σ' H') ?_ m0 ⟨σ, H, I, w0⟩)
  rintro n s1 ⟨σ1, H1, I1, w1⟩
  refine wpAny_passesOwn hp (thn (hc pins s1 σ1 H1 _ I1 (turn n σ1 H1 w1)) fun b s2 zq => ?_)
  obtain ⟨H2, I2, q2⟩ := zq
  cases b with
  | true =>
    obtain ⟨N, hN, q2⟩ := q2
    rw [if_pos rfl]
    refine wpAny_passesOwn hp (thn (hb pins s2 σ1 H2 _ I2 q2) fun f s3 q3 => ?_)
    cases f with
    | next =>
      obtain ⟨σ3, H3, I3, n3⟩ := q3
      obtain ⟨m', hm, w3⟩ := hN σ3 H3 n3
      exact ⟨m', hm, σ3, H3, I3, w3⟩
    | cont =>
      obtain ⟨σ3, H3, I3, n3⟩ := q3
      obtain ⟨m', hm, w3⟩ := hN σ3 H3 n3
      exact ⟨m', hm, σ3, H3, I3, w3⟩
    | brk => exact q3
    | ret v => exact q3
  | false =>
    rw [if_neg Bool.false_ne_true]
    exact wpAny_execs_nil ⟨σ1, H2, I2, q2⟩
end

structure It where
  go : Nat → Hp → Prop
  yld : Nat → Hp → V → Hp → Prop
  stop : Nat → Hp → Prop
noncomputable def FpOk (X : Cx) (pins : List (Addr × Obj)) (H : Hp) (b : Addr) : Prop :=
  H b = none ∧ b ≠ X.env.locals ∧ b ∉ X.fs ∧ (b ∈ X.ex ∨ X.s₀.heap.objs.size ≤ b) ∧ (∀ x c, X.env.cells.lookup x = some c → c ≠ b) ∧ ∀ p ∈ X.pn ++ pins, p.1 ≠ b
theorem Inv.fpOk {X : Cx} {pins : List (Addr × Obj)} {σ : St} {H H' : Hp} {s : Shared} {b : Addr} (I : Inv X pins σ H s) (hb : s.heap.objs.size ≤ b) (hn : H' b = none) : FpOk X pins H' b := by
  refine ⟨hn, Nat.ne_of_gt (Nat.lt_of_lt_of_le I.lt hb), I.nofs hb, .inr (Nat.le_trans I.sz hb), fun x c e z => ?_, fun p hp z => ?_⟩
  · obtain ⟨v, q⟩ := I.cell x c e
    exact absurd (Nat.lt_of_lt_of_le q.lt (by rw [z]; exact hb)) (Nat.lt_irrefl _)
  · exact absurd (Nat.lt_of_lt_of_le (Heap.lt_size (I.pin p hp).1) (by rw [z]; exact hb)) (Nat.lt_irrefl _)
structure Turn (P : Program) (w : World) (K : PySem.W.Frag) (tg : Expr) (J : It) (fp : List Addr) (it : Addr) (tn : Nat → Heap → Prop) : Prop where
  mem : it ∈ fp
  obj : ∀ i h, tn i h → ∀ b ∈ fp, ∃ o, h.get? b = some o ∧ ∀ v, o.data ≠ .cell v
  keep : ∀ i h h', tn i h → (∀ b ∈ fp, ∀ o, h.get? b = some o → h'.get? b = some o) → tn i h'
  item : ∀ (X : Cx), X.prog = P → X.w = w → X.K = K → X.calm = true → ∀ (i : Nat) (pins : List (Addr × Obj)) (s : Shared) (σ : St) (H : Hp) (E : Value → Shared → Prop), Inv X pins σ H s → (∀ b ∈ fp, FpOk X pins H b) → tn i s.heap → J.go i H →
    wpAny (model P w) X.A (pyNext (.ref it)) (fun r s1 => ∃ u, r = some u ∧
      wpAny (model P w) X.A (letOwnedTupleGo tg (.ref it) u) (fun _ s2 => ∃ x H', Inv X pins σ H' s2 ∧ RelV x u ∧ J.yld i H x H' ∧ tn (i + 1) s2.heap ∧ ∀ b ∈ fp, H' b = none) E s1) E s
  done : ∀ (X : Cx), X.prog = P → X.w = w → X.K = K → X.calm = true → ∀ (i : Nat) (pins : List (Addr × Obj)) (s : Shared) (σ : St) (H : Hp) (E : Value → Shared → Prop), Inv X pins σ H s → (∀ b ∈ fp, FpOk X pins H b) → tn i s.heap → J.stop i H →
    wpAny (model P w) X.A (pyNext (.ref it)) (fun r s1 => r = none ∧ Inv X pins σ H s1) E s
  self : ∀ (A : Around) (i : Nat) (s : Shared) (Q : Value → Shared → Prop) (E : Value → Shared → Prop), tn i s.heap → Q (.ref it) s → wpAny (model P w) A (pyIter (.ref it)) Q E s
noncomputable abbrev TI := St → Hp → (It → Hp → Prop) → Prop
noncomputable def PIE (X : Cx) (pins : List (Addr × Obj)) (σ : St) (tg : Expr) (R : It → Hp → Prop) (itv : Value) (s2 : Shared) : Prop :=
  ∃ (it : Addr) (fp : List Addr) (tn : Nat → Heap → Prop) (J : It) (H' : Hp), itv = .ref it ∧ Inv X pins σ H' s2 ∧ Turn X.prog X.w X.K tg J fp it tn ∧ tn 0 s2.heap ∧ (∀ b ∈ fp, FpOk X pins H' b) ∧ R J H'
noncomputable def PI (X : Cx) (tg iter : Expr) (wi : TI) : Prop :=
  ∀ (pins : List (Addr × Obj)) (s : Shared) (σ : St) (H : Hp) (R : It → Hp → Prop), Inv X pins σ H s → wi σ H R →
    wpAny (model X.prog X.w) X.A (eval iter X.env) (fun v s1 => wpAny (model X.prog X.w) X.A (pyIter v) (PIE X pins σ tg R) X.xe s1) X.xe s
theorem go_of {M : Model} {A : Around} {E : Value → Shared → Prop} {s : Shared} {tg : Expr} {it : Addr} {u : Value} {o : Obj} {n : String} {vs : Array Value} {Q : Unit → Shared → Prop} (ho : s.heap.get? it = some o) (hc : o.cls = .type n) (hd : o.data = .fields vs)
    (hn : ["enumerate", "zip", "dict_itemiterator", "dict_reverseitemiterator", "odict_iterator", "itertools.zip_longest", "itertools.pairwise"].contains n = false) (hQ : Q () s) : wpAny M A (letOwnedTupleGo tg (.ref it) u) Q E s := by
  unfold letOwnedTupleGo
  cases tg <;> first
    | exact wpAny_pure hQ
    | (cases u <;> first
        | exact wpAny_pure hQ
        | (refine wpAny_bind (wpAny_load ho ?_)
           rw [hc, hd]
           show wpAny M A (if (["enumerate", "zip", "dict_itemiterator", "dict_reverseitemiterator", "odict_iterator", "itertools.zip_longest", "itertools.pairwise"].contains n && vs[0]? == some (rawInt _)) = true then _ else _) Q E s
           rw [if_neg (by intro h; rw [hn, Bool.false_and] at h; cases h)]
           exact wpAny_pure hQ))
noncomputable def Itl (K : PySem.W.Frag) (a : Addr) : It :=
  ⟨fun i H => ∃ xs x, SqL K H a xs ∧ xs[i]? = some x, fun i H x H' => H' = H ∧ ∀ xs, SqL K H a xs → xs[i]? = some x, fun i H => ∃ xs, SqL K H a xs ∧ xs.length ≤ i⟩
noncomputable def Itr (lo : Int) (n : Nat) : It := ⟨fun i _ => i < n, fun i H x H' => H' = H ∧ x = .int (lo + i), fun i _ => n ≤ i⟩
theorem turn_list {P : Program} {w : World} {K : PySem.W.Frag} {tg : Expr} (a it : Addr) : Turn P w K tg (Itl K a) [it] it (fun i h => h.IsListIter it a i) where
  mem := by simp
  obj := fun i h st b hb => by
    have e : b = it := by simpa using hb
    subst e
    obtain ⟨o, e, c, d⟩ := st
    exact ⟨o, e, fun v z => by rw [d] at z; cases z⟩
  keep := fun i h h' st k => st.at fun o e => k it (by simp) o e
  item := by
    intro X hP hw hK hc i pins s σ H E I hf st hg
    subst hP hw hK
    obtain ⟨xs, x, hq, hx⟩ := hg
    obtain ⟨its, rv, p, hz⟩ := I.list hq
    obtain ⟨u, hu, ru⟩ := rv.get hx
    obtain ⟨f0, f1, f2, f3, f4, f5⟩ := hf it (by simp)
    refine wpAny_pyNext_list_item st p.isList (x := u) (by simpa using hu) fun h' st' sb => ?_
    have I1 : Inv X pins σ H { s with heap := h' } := I.turned (t' := s.toks) (fun b o hb e => (sb.2 b hb).trans e) f0 f1 f3 f4 f5
    obtain ⟨o, e, c, d⟩ := id st'
    exact ⟨u, rfl, go_of (s := { s with heap := h' }) e c d (by decide) ⟨x, H, I1, ru, ⟨rfl, fun ys hy => by rw [I.list_inj hy hq]; exact hx⟩, st', fun b hb => (hf b hb).1⟩⟩
  done := by
    intro X hP hw hK hc i pins s σ H E I hf st hg
    subst hP hw hK
    obtain ⟨xs, hq, hx⟩ := hg
    obtain ⟨its, rv, p, hz⟩ := I.list hq
    obtain ⟨f0, f1, f2, f3, f4, f5⟩ := hf it (by simp)
    have hl := rv.length
    exact wpAny_pyNext_list_end (I.ok.hd hc) st p.isList (by simp; omega) fun h' eb => ⟨rfl, I.turned (t' := s.toks) (fun b o hb e => eb b o hb e) f0 f1 f3 f4 f5⟩
  self := fun _ _ _ _ _ st h => wpAny_pyIter_listiter st h
theorem turn_range {P : Program} {w : World} {K : PySem.W.Frag} {tg : Expr} (it : Addr) (lo : Int) (n : Nat) : Turn P w K tg (Itr lo n) [it] it (fun i h => IsRangeIter h it (lo + (i : Nat) * 1) ((n : Int) - (i : Nat)) 1) where
  mem := by simp
  obj := fun i h st b hb => by
    have e : b = it := by simpa using hb
    subst e
    exact ⟨_, st, fun v z => by
      have z' : Data.fields _ = Data.cell v := z
      cases z'⟩
  keep := fun i h h' st k => k it (by simp) _ st
  item := by
    intro X hP hw hK hc i pins s σ H E I hf st hg
    subst hP hw hK
    obtain ⟨f0, f1, f2, f3, f4, f5⟩ := hf it (by simp)
    have W := Walks.range (prog := X.prog) (w := X.w) (I.ok.hd hc) it lo 1 n
    refine W.item i s _ _ hg st fun v h' tk hv st' kk => ?_
    obtain ⟨t, rfl⟩ := hv
    have I1 : Inv X pins σ H { s with heap := h', toks := tk } := I.turned (fun b o hb e => kk b o (by simpa using hb) e) f0 f1 f3 f4 f5
    refine ⟨_, rfl, go_of (s := { s with heap := h', toks := tk }) (n := "range_iterator") st' rfl rfl (by decide) ⟨.int (lo + i), H, I1, ⟨t, ?_⟩, ⟨rfl, rfl⟩, st', fun b hb => (hf b hb).1⟩⟩
    rw [Int.mul_one]
  done := by
    intro X hP hw hK hc i pins s σ H E I hf st hg
    subst hP hw hK
    obtain ⟨f0, f1, f2, f3, f4, f5⟩ := hf it (by simp)
    exact wpAny_pyNext_range_end (I.ok.hd hc) st (by have : n ≤ i := hg; omega) fun h' eb => ⟨rfl, I.turned (t' := s.toks) (fun b o hb e => eb b o hb e) f0 f1 f3 f4 f5⟩
  self := fun _ _ _ _ _ st h => wpAny_pyIter_rangeiter st h
end L2

namespace L2
open PySem PySem.Spec PyProof.Rows
section
variable {X : Cx} {tg : Expr}
inductive xLst (K : PySem.W.Frag) (x : V) (H : Hp) (R : It → Hp → Prop) : Prop
  | mk (a : Addr) (e : x = .ref a) (s : ∃ xs, SqL K H a xs) (q : R (Itl K a) H) : xLst K x H R
noncomputable def iList (K : PySem.W.Frag) (tl : TE) : TI := fun σ H R => tl σ H fun x H1 => xLst K x H1 R
theorem pi_list {l : Expr} {tl : TE} (hl : PE X l tl) : PI X tg l (iList X.K tl) := by
  intro pins s σ H R I h
  refine thn (hl pins s σ H _ I h) fun v s1 zq => ?_
  obtain ⟨x, H1, I1, r1, q1⟩ := zq
  obtain ⟨a, e, ⟨xs, hq⟩, q⟩ := q1
  subst e
  cases r1
  obtain ⟨its, rv, p, hz⟩ := I1.list hq
  refine wpAny_pyIter_list p.isList ?_
  refine ⟨s1.heap.objs.size, [s1.heap.objs.size], _, _, H1, rfl, I1.kept (t' := s1.toks) fun b o e => Heap.get?_push_of_some _ e, turn_list a _, ⟨_, Heap.get?_push_size _ rfl, rfl, rfl⟩, fun b hb => ?_, q⟩
  have e : b = s1.heap.objs.size := by simpa using hb
  subst e
  exact I1.fpOk (Nat.le_refl _) (I1.hok.fresh (Nat.le_refl _))
theorem range_it {pins : List (Addr × Obj)} {σ : St} {H : Hp} {s : Shared} {R : It → Hp → Prop} {E : Value → Shared → Prop} {lo hi : Int} {t u v : Tok} {tk : Nat} (I : Inv X pins σ H s) (h1 : -(2 ^ 62) ≤ lo) (h2 : lo < 2 ^ 62) (h3 : -(2 ^ 62) ≤ hi) (h4 : hi < 2 ^ 62)
    (q : R (Itr lo (hi - lo).toNat) H) : wpAny (model X.prog X.w) X.A (pyIter (.ref s.heap.objs.size)) (PIE X pins σ tg R) E { s with heap := s.heap.push { cls := .type "range", data := .fields #[.int lo t, .int hi u, .int 1 v] }, toks := tk } := by
  refine wpAny_pyIter_range (IsRange.new ..) (small_one h1 h2 h3 h4) ?_
  have I1 : Inv X pins σ H { s with heap := s.heap.push { cls := .type "range", data := .fields #[.int lo t, .int hi u, .int 1 v] }, toks := tk } := I.kept fun b o e => Heap.get?_push_of_some _ e
  refine ⟨(s.heap.push { cls := .type "range", data := .fields #[.int lo t, .int hi u, .int 1 v] }).objs.size, [(s.heap.push { cls := .type "range", data := .fields #[.int lo t, .int hi u, .int 1 v] }).objs.size], _, _, H, rfl,
    I1.kept (t' := tk) fun b o e => Heap.get?_push_of_some _ e, turn_range _ lo (hi - lo).toNat, ?_, fun b hb => ?_, q⟩
  · have e1 : lo + ((0 : Nat) : Int) * 1 = lo := by simp
    have e2 : (((hi - lo).toNat : Nat) : Int) - ((0 : Nat) : Int) = Builtin.Range.rangeSize lo hi 1 := by rw [rangeSize_one]; split <;> omega
    show IsRangeIter _ _ (lo + ((0 : Nat) : Int) * 1) ((((hi - lo).toNat : Nat) : Int) - ((0 : Nat) : Int)) 1
    rw [e1, e2]
    exact Heap.get?_push_size _ rfl
  · have e : b = (s.heap.push { cls := .type "range", data := .fields #[.int lo t, .int hi u, .int 1 v] }).objs.size := by simpa using hb
    subst e
    exact I1.fpOk (Nat.le_refl _) (I1.hok.fresh (Nat.le_refl _))
noncomputable def iRng1 (ta : TA) : TI := fun σ H R => ta σ H fun vs H1 => ∃ j : Int, vs = [.int j] ∧ -(2 ^ 62) ≤ j ∧ j < 2 ^ 62 ∧ R (Itr 0 j.toNat) H1
noncomputable def iRng2 (ta : TA) : TI := fun σ H R => ta σ H fun vs H1 => ∃ i j : Int, vs = [.int i, .int j] ∧ (-(2 ^ 62) ≤ i ∧ i < 2 ^ 62 ∧ -(2 ^ 62) ≤ j ∧ j < 2 ^ 62) ∧ R (Itr i (j - i).toNat) H1
theorem pi_range1 {a : Expr} {ta : TA} {p pos : Pos} (hg : Gl X "range") (hm : X.mg "range" = none) (ha : PA X [a] ta) (hs : starEach [a] X.env = [(false, eval a X.env)] := by rfl) : PI X tg (.Call (.Name "range" p) [a] [] pos) (iRng1 ta) := by
  intro pins s σ H R I h
  refine Call_ (ld_blt I hg hm boot_range (PyProof.Rows.callWith_type1 (thn (ha pos pins s σ H _ I h) fun us s1 zq => ?_) hs rfl))
  obtain ⟨vs, H1, I1, r1, q1⟩ := zq
  obtain ⟨j, e, q1, q2, q⟩ := q1
  subst e
  cases r1 with
  | cons r rr =>
    cases rr
    obtain ⟨t, rfl⟩ := r
    exact call_range_1 (range_it I1 (by omega) (by omega) q1 q2 (by simpa using q))
theorem pi_range2 {a b : Expr} {ta : TA} {p pos : Pos} (hg : Gl X "range") (hm : X.mg "range" = none) (ha : PA X [a, b] ta) (hs : starEach [a, b] X.env = [(false, eval a X.env), (false, eval b X.env)] := by rfl) (hs2 : starEach [b] X.env = [(false, eval b X.env)] := by rfl) :
    PI X tg (.Call (.Name "range" p) [a, b] [] pos) (iRng2 ta) := by
  intro pins s σ H R I h
  refine Call_ (ld_blt I hg hm boot_range (PyProof.Rows.callWith_type1 (thn (ha pos pins s σ H _ I h) fun us s1 zq => ?_) (by rw [hs, hs2]) (by rw [hs2]; rfl)))
  obtain ⟨vs, H1, I1, r1, q1⟩ := zq
  obtain ⟨i, j, e, ⟨q1, q2, q3, q4⟩, q⟩ := q1
  subst e
  cases r1 with
  | cons r rr =>
    cases rr with
    | cons r' rr =>
      cases rr
      obtain ⟨t, rfl⟩ := r
      obtain ⟨t', rfl⟩ := r'
      exact call_range_2 (range_it I1 q1 q2 q3 q4 q)
noncomputable def tFor (wi : TI) (g : TG) (tb : TS) : TS := fun D σ H => wi σ H fun J H1 => ∃ W : Nat → Nat → St → Hp → Prop, (∃ m, W 0 m σ H1) ∧ ∀ i m σ H, W i m σ H →
  (J.stop i H ∧ D.nx σ H) ∨ (J.go i H ∧ ∃ N : St → Hp → Prop, (∀ σ' H', N σ' H' → ∃ m', m' < m ∧ W (i + 1) m' σ' H') ∧ ∀ x H', J.yld i H x H' → g x σ H' fun σ2 H2 => tb { D with nx := N, ct := N, bk := D.nx } σ2 H2)
noncomputable def pinsAt (fp : List Addr) (h : Heap) : List (Addr × Obj) := fp.filterMap fun b => (h.get? b).map fun o => (b, o)
theorem mem_pinsAt {fp : List Addr} {h : Heap} {b : Addr} {o : Obj} (hb : b ∈ fp) (e : h.get? b = some o) : (b, o) ∈ pinsAt fp h := List.mem_filterMap.mpr ⟨b, hb, by rw [e]; rfl⟩
theorem of_pinsAt {fp : List Addr} {h : Heap} {p : Addr × Obj} (hp : p ∈ pinsAt fp h) : p.1 ∈ fp ∧ h.get? p.1 = some p.2 := by
  obtain ⟨b, hb, e⟩ := List.mem_filterMap.mp hp
  cases q : h.get? b with
  | none => rw [q] at e; cases e
  | some o =>
    rw [q] at e
    have e' : (b, o) = p := Option.some.inj e
    subst e'
    exact ⟨hb, q⟩
theorem Inv.pinned {pins : List (Addr × Obj)} {σ : St} {H : Hp} {s : Shared} {fp : List Addr} (I : Inv X pins σ H s) (hf : ∀ b ∈ fp, FpOk X pins H b) (ho : ∀ b ∈ fp, ∃ o, s.heap.get? b = some o ∧ ∀ v, o.data ≠ .cell v) : Inv X (pins ++ pinsAt fp s.heap) σ H s :=
  I.pins_of fun p hp => (List.mem_append.mp hp).elim (fun z => I.pin p (List.mem_append_right _ z)) fun z => by
    obtain ⟨hb, e⟩ := of_pinsAt z
    obtain ⟨f0, f1, f2, _⟩ := hf p.1 hb
    obtain ⟨o, e', d⟩ := ho p.1 hb
    rw [e] at e'; cases e'
    exact ⟨e, f0, f1, f2, d⟩
theorem Inv.unpinned {pins pl : List (Addr × Obj)} {σ : St} {H : Hp} {s : Shared} (I : Inv X (pins ++ pl) σ H s) : Inv X pins σ H s := I.pins_of fun p hp => I.pin p (List.mem_append_right _ (List.mem_append_left _ hp))
theorem ps_for {iter : Expr} {body : List Stmt} {wi : TI} {g : TG} {tb : TS} {pos : Pos} (hp : PassesOwn (model X.prog X.w) X.A X.env X.xe) (hc : X.calm = true) (hi : PI X tg iter wi) (hg : PG X tg g) (hb : PSs X body tb)
    (hs : ∀ x, foldedSetIterable iter X.env x = pure x := by intro _; rfl) : PS X (.For tg iter body [] pos) (tFor wi g tb) := by
  intro pins s σ H D I h
  refine wpAny_For (thn (hi pins s σ H _ I h) fun v s1 h1 => thn h1 fun itv s2 h2 => ?_) hs
  obtain ⟨it, fp, tn, J, H2, e, I2, T, st2, f2, W, ⟨m0, w0⟩, turn⟩ := h2
  subst e
  -- what stays true of the iterator's objects through the loop
  have stat : ∀ {H' : Hp}, (∀ b ∈ fp, H' b = none) → ∀ b ∈ fp, FpOk X pins H' b := fun hn b hb => ⟨hn b hb, (f2 b hb).2⟩
  refine codeAny_forLoop_any (fun n s' => ∃ i σ' H', Inv X pins σ' H' s' ∧ tn i s'.heap ∧ (∀ b ∈ fp, H' b = none) ∧ W i n σ' H') ?_ m0 ⟨0, σ, H2, I2, st2, fun b hb => (f2 b hb).1, w0⟩
  rintro n s3 ⟨i, σ3, H3, I3, st3, fr3, w3⟩
  rcases turn i n σ3 H3 w3 with ⟨stop, qn⟩ | ⟨go, N, hN, step⟩
  · refine wpAny_passesOwn hp (thn (T.done X rfl rfl rfl hc i pins s3 σ3 H3 X.xe I3 (stat fr3) st3 stop) fun r s4 zq => ?_)
    obtain ⟨hr, I4⟩ := zq
    subst hr
    exact wpAny_execs_nil ⟨σ3, H3, I4, qn⟩
  · refine wpAny_passesOwn hp (thn (T.item X rfl rfl rfl hc i pins s3 σ3 H3 X.xe I3 (stat fr3) st3 go) fun r s4 zq => ?_)
    obtain ⟨u, hr, h4⟩ := zq
    subst hr
    refine wpAny_passesOwn hp (thn h4 fun _ s5 zq => ?_)
    obtain ⟨x, H5, I5, r5, y5, st5, fr5⟩ := zq
    have I5' := I5.pinned (stat fr5) (T.obj _ _ st5)
    refine wpAny_passesOwn hp (thn (hg _ s5 σ3 H5 x u _ I5' r5 (step x H5 y5)) fun _ s6 zq => ?_)
    obtain ⟨σ6, H6, I6, q6⟩ := zq
    refine wpAny_passesOwn hp (thn (hb _ s6 σ6 H6 _ I6 q6) fun f s7 q7 => ?_)
    have again : ∀ {σ7 : St} {H7 : Hp}, Inv X (pins ++ pinsAt fp s5.heap) σ7 H7 s7 → N σ7 H7 → ∃ m, m < n ∧ ∃ i σ' H', Inv X pins σ' H' s7 ∧ tn i s7.heap ∧ (∀ b ∈ fp, H' b = none) ∧ W i m σ' H' := fun {σ7 H7} I7 n7 => by
      obtain ⟨m', hm, w7⟩ := hN σ7 H7 n7
      refine ⟨m', hm, i + 1, σ7, H7, I7.unpinned, T.keep _ _ _ st5 fun b hb o e => (I7.pin (b, o) (List.mem_append_right _ (List.mem_append_right _ (mem_pinsAt hb e)))).1, fun b hb => ?_, w7⟩
      obtain ⟨o, e, d⟩ := T.obj _ _ st5 b hb
      exact (I7.pin (b, o) (List.mem_append_right _ (List.mem_append_right _ (mem_pinsAt hb e)))).2.1
    cases f with
    | next => obtain ⟨σ7, H7, I7, n7⟩ := q7; exact again I7 n7
    | cont => obtain ⟨σ7, H7, I7, n7⟩ := q7; exact again I7 n7
    | brk => obtain ⟨σ7, H7, I7, q7⟩ := q7; exact ⟨σ7, H7, I7.unpinned, q7⟩
    | ret v => obtain ⟨x7, σ7, H7, I7, r7, q7⟩ := q7; exact ⟨x7, σ7, H7, I7.unpinned, r7, q7⟩
end

theorem for_list {K : PySem.W.Frag} {a : Addr} {xs : List V} {g : TG} {tb : TS} {D : Ends} {σ : St} {H : Hp} (Pv : Nat → St → Hp → Prop) (h0 : Pv 0 σ H) (hl : ∀ i σ H, i ≤ xs.length → Pv i σ H → SqL K H a xs)
    (hs : ∀ i x σ H, xs[i]? = some x → Pv i σ H → g x σ H fun σ2 H2 => tb { D with nx := Pv (i + 1), ct := Pv (i + 1), bk := D.nx } σ2 H2) (hd : ∀ σ H, Pv xs.length σ H → D.nx σ H) :
    ∃ W : Nat → Nat → St → Hp → Prop, (∃ m, W 0 m σ H) ∧ ∀ i m σ H, W i m σ H →
      ((Itl K a).stop i H ∧ D.nx σ H) ∨ ((Itl K a).go i H ∧ ∃ N : St → Hp → Prop, (∀ σ' H', N σ' H' → ∃ m', m' < m ∧ W (i + 1) m' σ' H') ∧ ∀ x H', (Itl K a).yld i H x H' → g x σ H' fun σ2 H2 => tb { D with nx := N, ct := N, bk := D.nx } σ2 H2) := by
  refine ⟨fun i m σ H => m = xs.length - i ∧ i ≤ xs.length ∧ Pv i σ H, ⟨xs.length, by simp, Nat.zero_le _, h0⟩, ?_⟩
  rintro i m σ H ⟨rfl, hi, p⟩
  have q := hl i σ H hi p
  by_cases hlt : i < xs.length
  · refine .inr ⟨⟨xs, xs[i], q, by simp [hlt]⟩, Pv (i + 1), fun σ' H' p' => ⟨xs.length - (i + 1), by omega, rfl, hlt, p'⟩, fun x H' y => ?_⟩
    obtain ⟨e, y⟩ := y
    subst e
    exact hs i x σ _ (y xs q) p
  · have e : i = xs.length := by omega
    subst e
    exact .inl ⟨⟨xs, q, Nat.le_refl _⟩, hd σ H p⟩
theorem for_range {lo : Int} {n : Nat} {g : TG} {tb : TS} {D : Ends} {σ : St} {H : Hp} (Pv : Nat → St → Hp → Prop) (h0 : Pv 0 σ H)
    (hs : ∀ i σ H, i < n → Pv i σ H → g (.int (lo + i)) σ H fun σ2 H2 => tb { D with nx := Pv (i + 1), ct := Pv (i + 1), bk := D.nx } σ2 H2) (hd : ∀ σ H, Pv n σ H → D.nx σ H) :
    ∃ W : Nat → Nat → St → Hp → Prop, (∃ m, W 0 m σ H) ∧ ∀ i m σ H, W i m σ H →
      ((Itr lo n).stop i H ∧ D.nx σ H) ∨ ((Itr lo n).go i H ∧ ∃ N : St → Hp → Prop, (∀ σ' H', N σ' H' → ∃ m', m' < m ∧ W (i + 1) m' σ' H') ∧ ∀ x H', (Itr lo n).yld i H x H' → g x σ H' fun σ2 H2 => tb { D with nx := N, ct := N, bk := D.nx } σ2 H2) := by
  refine ⟨fun i m σ H => m = n - i ∧ i ≤ n ∧ Pv i σ H, ⟨n, by simp, Nat.zero_le _, h0⟩, ?_⟩
  rintro i m σ H ⟨rfl, hi, p⟩
  by_cases hlt : i < n
  · refine .inr ⟨hlt, Pv (i + 1), fun σ' H' p' => ⟨n - (i + 1), by omega, rfl, hlt, p'⟩, fun x H' y => ?_⟩
    obtain ⟨e, y⟩ := y
    subst e y
    exact hs i σ _ hlt p
  · have e : i = n := by omega
    subst e
    exact .inl ⟨Nat.le_refl _, hd σ H p⟩
end L2

namespace L2
open PySem PySem.Spec PyProof.Rows

noncomputable abbrev R2 := V → V → Hp → VK → Prop
noncomputable def OpR (X : Cx) (f : Value → Value → Sem Value) (r : R2) : Prop :=
  ∀ (pins : List (Addr × Obj)) (s : Shared) (σ : St) (H : Hp) (x y : V) (v u : Value) (Q : VK), Inv X pins σ H s → RelV x v → RelV y u → r x y H Q →
    wpAny (model X.prog X.w) X.A (f v u) (EP X pins σ Q) X.xe s
noncomputable def UnR (X : Cx) (f : Value → Sem Value) (r : V → Hp → VK → Prop) : Prop :=
  ∀ (pins : List (Addr × Obj)) (s : Shared) (σ : St) (H : Hp) (x : V) (v : Value) (Q : VK), Inv X pins σ H s → RelV x v → r x H Q →
    wpAny (model X.prog X.w) X.A (f v) (EP X pins σ Q) X.xe s
noncomputable def CallR (X : Cx) (f : Value) (r : List V → Hp → VK → Prop) : Prop :=
  ∀ (pins : List (Addr × Obj)) (s : Shared) (σ : St) (H : Hp) (xs : List V) (us : List Value) (Q : VK), Inv X pins σ H s → Vals xs us → r xs H Q →
    wpAny (model X.prog X.w) X.A (call f us) (EP X pins σ Q) X.xe s
noncomputable def tOp (r : R2) (ta tb : TE) : TE := fun σ H Q => ta σ H fun x H1 => tb σ H1 fun y H2 => r x y H2 Q
noncomputable def tUn (r : V → Hp → VK → Prop) (ta : TE) : TE := fun σ H Q => ta σ H fun x H1 => r x H1 Q
inductive rI (C : Int → Int → Prop) (g : Int → Int → V) (x y : V) (H : Hp) (Q : VK) : Prop
  | mk (i j : Int) (e : x = .int i) (f : y = .int j) (c : C i j) (q : Q (g i j) H) : rI C g x y H Q
noncomputable def rI0 (g : Int → Int → V) : R2 := fun x y H Q => ∃ i j, x = .int i ∧ y = .int j ∧ Q (g i j) H
noncomputable def rU (g : Int → V) : V → Hp → VK → Prop := fun x H Q => ∃ i, x = .int i ∧ Q (g i) H
section
variable {X : Cx} {a b c : Expr} {ta tb tc : TE} {pos : Pos}

theorem binT (ha : PE X a ta) (hb : PE X b tb) {pins : List (Addr × Obj)} {s : Shared} {σ : St} {H : Hp} {R : V → V → Hp → Prop} (I : Inv X pins σ H s)
    (h : ta σ H fun x H1 => tb σ H1 fun y H2 => R x y H2) {Q : Value → Shared → Prop} {f : Value → Value → Sem Value}
    (hf : ∀ v u s2 x y H2, Inv X pins σ H2 s2 → RelV x v → RelV y u → R x y H2 → wpAny (model X.prog X.w) X.A (f v u) Q X.xe s2) :
    wpAny (model X.prog X.w) X.A (eval a X.env) (fun v s₁ => wpAny (model X.prog X.w) X.A (eval b X.env) (fun u s₂ => wpAny (model X.prog X.w) X.A (f v u) Q X.xe s₂) X.xe s₁) X.xe s := by
  refine thn (ha pins s σ H _ I h) fun v s1 zq => ?_
  obtain ⟨x, H1, I1, r1, q1⟩ := zq
  refine thn (hb pins s1 σ H1 _ I1 q1) fun u s2 zq => ?_
  obtain ⟨y, H2, I2, r2, q2⟩ := zq
  exact hf v u s2 x y H2 I2 r1 r2 q2
theorem pe_op {op : Operator} {r : R2} (ho : OpR X (binaryOp op) r) (ha : PE X a ta) (hb : PE X b tb) : PE X (.BinOp a op b pos) (tOp r ta tb) := by
  intro pins s σ H Q I h
  exact wpAny_BinOp (binT ha hb I h fun v u s2 x y H2 I2 rx ry q => ho pins s2 σ H2 x y v u Q I2 rx ry q)
theorem pe_un {op : UnaryOp} {r : V → Hp → VK → Prop} (ho : UnR X (unaryOp op) r) (ha : PE X a ta) : PE X (.UnaryOp op a pos) (tUn r ta) := by
  intro pins s σ H Q I h
  exact UnaryOp_ (thn (ha pins s σ H _ I h) fun v s1 ⟨x, H1, I1, r1, q1⟩ => ho pins s1 σ H1 x v Q I1 r1 q1)
theorem opI {f : Value → Value → Sem Value} {C : Int → Int → Prop} {g : Int → Int → Int}
    (rule : ∀ (i j : Int) (t u : Tok) (s : Shared) (Q : Value → Shared → Prop) (E : Value → Shared → Prop), C i j → Q (.int (g i j) s.toks) { s with toks := s.toks + 1 } → wpAny (model X.prog X.w) X.A (f (.int i t) (.int j u)) Q E s) :
    OpR X f (rI C fun i j => .int (g i j)) := by
  intro pins s σ H x y v u Q I rx ry h
  obtain ⟨i, j, rfl, rfl, hc, q⟩ := h
  obtain ⟨t, rfl⟩ := rx
  obtain ⟨t', rfl⟩ := ry
  exact rule i j t t' s _ _ hc ⟨.int (g i j), H, I.tok _, ⟨_, rfl⟩, q⟩
theorem opI0 {f : Value → Value → Sem Value} {g : Int → Int → Int}
    (rule : ∀ (i j : Int) (t u : Tok) (s : Shared) (Q : Value → Shared → Prop) (E : Value → Shared → Prop), Q (.int (g i j) s.toks) { s with toks := s.toks + 1 } → wpAny (model X.prog X.w) X.A (f (.int i t) (.int j u)) Q E s) :
    OpR X f (rI0 fun i j => .int (g i j)) := by
  intro pins s σ H x y v u Q I rx ry h
  obtain ⟨i, j, rfl, rfl, q⟩ := h
  obtain ⟨t, rfl⟩ := rx
  obtain ⟨t', rfl⟩ := ry
  exact rule i j t t' s _ _ ⟨.int (g i j), H, I.tok _, ⟨_, rfl⟩, q⟩
theorem opB0 {f : Value → Value → Sem Value} {g : Int → Int → Bool}
    (rule : ∀ (i j : Int) (t u : Tok) (s : Shared) (Q : Value → Shared → Prop) (E : Value → Shared → Prop), Q (.bool (g i j)) s → wpAny (model X.prog X.w) X.A (f (.int i t) (.int j u)) Q E s) :
    OpR X f (rI0 fun i j => .bl (g i j)) := by
  intro pins s σ H x y v u Q I rx ry h
  obtain ⟨i, j, rfl, rfl, q⟩ := h
  obtain ⟨t, rfl⟩ := rx
  obtain ⟨t', rfl⟩ := ry
  exact rule i j t t' s _ _ ⟨.bl (g i j), H, I, rfl, q⟩
noncomputable def CDiv (i j : Int) : Prop := 0 < j ∧ j < 1073741824
theorem op_add : OpR X (binaryOp .Add) (rI0 fun i j => .int (i + j)) := opI0 fun _ _ _ _ _ _ _ q => add_int q
theorem op_sub : OpR X (binaryOp .Sub) (rI0 fun i j => .int (i - j)) := opI0 fun _ _ _ _ _ _ _ q => sub_int q
theorem op_fdiv : OpR X (binaryOp .FloorDiv) (rI CDiv fun i j => .int (i / j)) := opI fun i j _ _ _ _ _ hc q => by
  have h1 : (0 : Int) < j := hc.1
  have h2 : j < 1073741824 := hc.2
  exact floordiv_int (by omega) (by rw [Int.fdiv_eq_ediv_of_nonneg i (by omega)]; exact q) (.inl (PyProof.noPylong_small (by omega)))
theorem op_mod : OpR X (binaryOp .Mod) (rI (fun _ j => 0 < j) fun i j => .int (i % j)) := opI fun i j _ _ _ _ _ hc q => by
  have h1 : (0 : Int) < j := hc
  exact mod_int' (by omega) (by rw [Int.fmod_eq_emod_of_nonneg i (by omega)]; exact q)
theorem unI {f : Value → Sem Value} {g : Int → Int}
    (rule : ∀ (i : Int) (t : Tok) (s : Shared) (Q : Value → Shared → Prop) (E : Value → Shared → Prop), Q (.int (g i) s.toks) { s with toks := s.toks + 1 } → wpAny (model X.prog X.w) X.A (f (.int i t)) Q E s) :
    UnR X f (rU fun i => .int (g i)) := by
  intro pins s σ H x v Q I rx h
  obtain ⟨i, rfl, q⟩ := h
  obtain ⟨t, rfl⟩ := rx
  exact rule i t s _ _ ⟨.int (g i), H, I.tok _, ⟨_, rfl⟩, q⟩
theorem un_neg : UnR X (unaryOp .USub) (rU fun i => .int (-i)) := unI fun _ _ _ _ _ q => neg_int q
end

noncomputable def scal : V → V → Bool
  | .non, .non => true | .non, .int _ => true | .int _, .non => true | .non, .bl _ => true | .bl _, .non => true | .non, .str _ => true | .str _, .non => true
  | .int _, .int _ => true | .bl _, .bl _ => true | .str _, .str _ => true | .byt _, .byt _ => true
  | .int _, .str _ => true | .str _, .int _ => true | .bl _, .str _ => true | .str _, .bl _ => true
  | _, _ => false
noncomputable def rEq : R2 := fun x y H Q => scal x y = true ∧ Q (.bl (decide (x = y))) H
noncomputable def rNe : R2 := fun x y H Q => scal x y = true ∧ Q (.bl (!decide (x = y))) H
theorem dec_int {i j : Int} : decide (V.int i = V.int j) = (i == j) := by
  rw [Bool.eq_iff_iff]
  simp
theorem dec_bl {i j : Bool} : decide (V.bl i = V.bl j) = (i == j) := by
  rw [Bool.eq_iff_iff]
  simp
theorem dec_str {i j : Str} : decide (V.str i = V.str j) = (i == j) := by
  rw [Bool.eq_iff_iff]
  simp
theorem dec_byt {i j : Array UInt8} : decide (V.byt i = V.byt j) = (i.toList == j.toList) := by
  rw [Bool.eq_iff_iff]
  cases i
  cases j
  simp
section
variable {X : Cx} {a b c : Expr} {ta tb tc : TE} {pos : Pos}
theorem fin_bl {pins : List (Addr × Obj)} {σ : St} {H : Hp} {s : Shared} {Q : VK} {k k' : Bool} (I : Inv X pins σ H s) (q : Q (.bl k) H) (e : k = k') : EP X pins σ Q (.bool k') s := by
  subst e
  exact ⟨.bl k, H, I, rfl, q⟩
theorem op_eq : OpR X (compareOp .Eq) rEq := by
  intro pins s σ H x y v u Q I rx ry h
  obtain ⟨hs, q⟩ := h
  cases x with
  | non =>
    cases rx
    cases y with
    | non => cases ry; exact PySem.EqNone.eq_none_none (fin_bl I q (by simp))
    | bl j => cases ry; exact PySem.EqNone.eq_none_bool (fin_bl I q (by simp))
    | int j => obtain ⟨t', rfl⟩ := ry; exact PySem.EqNone.eq_none_int (fin_bl I q (by simp))
    | str j => obtain ⟨t', rfl⟩ := ry; exact PySem.EqNone.eq_none_str (fin_bl I q (by simp))
    | _ => exact absurd (show false = true from hs) Bool.false_ne_true
  | bl i =>
    cases rx
    cases y with
    | non => cases ry; exact PySem.EqNone.eq_bool_none (fin_bl I q (by simp))
    | bl j => cases ry; exact eq_bool (fin_bl I q dec_bl)
    | str j => obtain ⟨t', rfl⟩ := ry; exact PySem.EqMixed.eq_bool_str (fin_bl I q (by simp))
    | _ => exact absurd (show false = true from hs) Bool.false_ne_true
  | int i =>
    obtain ⟨t, rfl⟩ := rx
    cases y with
    | non => cases ry; exact PySem.EqNone.eq_int_none (fin_bl I q (by simp))
    | int j => obtain ⟨t', rfl⟩ := ry; exact eq_int (fin_bl I q dec_int)
    | str j => obtain ⟨t', rfl⟩ := ry; exact PySem.EqMixed.eq_int_str (fin_bl I q (by simp))
    | _ => exact absurd (show false = true from hs) Bool.false_ne_true
  | str i =>
    obtain ⟨t, rfl⟩ := rx
    cases y with
    | non => cases ry; exact PySem.EqNone.eq_str_none (fin_bl I q (by simp))
    | bl j => cases ry; exact PySem.EqMixed.eq_str_bool (fin_bl I q (by simp))
    | int j => obtain ⟨t', rfl⟩ := ry; exact PySem.EqMixed.eq_str_int (fin_bl I q (by simp))
    | str j => obtain ⟨t', rfl⟩ := ry; exact eq_str (fin_bl I q dec_str)
    | _ => exact absurd (show false = true from hs) Bool.false_ne_true
  | byt i =>
    obtain ⟨t, rfl⟩ := rx
    cases y with
    | byt j => obtain ⟨t', rfl⟩ := ry; exact PySem.W.eq_bytes (fin_bl I q dec_byt)
    | _ => exact absurd (show false = true from hs) Bool.false_ne_true
  | _ => cases y <;> exact absurd (show false = true from hs) Bool.false_ne_true
theorem op_ne : OpR X (compareOp .NotEq) rNe := by
  intro pins s σ H x y v u Q I rx ry h
  obtain ⟨hs, q⟩ := h
  cases x with
  | non =>
    cases rx
    cases y with
    | non => cases ry; exact PySem.EqNone.ne_none_none (fin_bl I q (by simp))
    | bl j => cases ry; exact PySem.EqNone.ne_none_bool (fin_bl I q (by simp))
    | int j => obtain ⟨t', rfl⟩ := ry; exact PySem.EqNone.ne_none_int (fin_bl I q (by simp))
    | str j => obtain ⟨t', rfl⟩ := ry; exact PySem.EqNone.ne_none_str (fin_bl I q (by simp))
    | _ => exact absurd (show false = true from hs) Bool.false_ne_true
  | bl i =>
    cases rx
    cases y with
    | non => cases ry; exact PySem.EqNone.ne_bool_none (fin_bl I q (by simp))
    | bl j => cases ry; exact ne_bool (fin_bl I q (congrArg not dec_bl))
    | str j => obtain ⟨t', rfl⟩ := ry; exact PySem.EqMixed.ne_bool_str (fin_bl I q (by simp))
    | _ => exact absurd (show false = true from hs) Bool.false_ne_true
  | int i =>
    obtain ⟨t, rfl⟩ := rx
    cases y with
    | non => cases ry; exact PySem.EqNone.ne_int_none (fin_bl I q (by simp))
    | int j => obtain ⟨t', rfl⟩ := ry; exact ne_int (fin_bl I q (congrArg not dec_int))
    | str j => obtain ⟨t', rfl⟩ := ry; exact PySem.EqMixed.ne_int_str (fin_bl I q (by simp))
    | _ => exact absurd (show false = true from hs) Bool.false_ne_true
  | str i =>
    obtain ⟨t, rfl⟩ := rx
    cases y with
    | non => cases ry; exact PySem.EqNone.ne_str_none (fin_bl I q (by simp))
    | bl j => cases ry; exact PySem.EqMixed.ne_str_bool (fin_bl I q (by simp))
    | int j => obtain ⟨t', rfl⟩ := ry; exact PySem.EqMixed.ne_str_int (fin_bl I q (by simp))
    | str j => obtain ⟨t', rfl⟩ := ry; exact ne_str (fin_bl I q (congrArg not dec_str))
    | _ => exact absurd (show false = true from hs) Bool.false_ne_true
  | byt i =>
    obtain ⟨t, rfl⟩ := rx
    cases y with
    | byt j => obtain ⟨t', rfl⟩ := ry; exact PySem.W.ne_bytes (fin_bl I q (congrArg not dec_byt))
    | _ => exact absurd (show false = true from hs) Bool.false_ne_true
  | _ => cases y <;> exact absurd (show false = true from hs) Bool.false_ne_true
theorem op_lt : OpR X (compareOp .Lt) (rI0 fun i j => .bl (decide (i < j))) := opB0 fun _ _ _ _ _ _ _ q => lt_int q
theorem op_le : OpR X (compareOp .LtE) (rI0 fun i j => .bl (decide (i ≤ j))) := opB0 fun _ _ _ _ _ _ _ q => le_int q
theorem op_gt : OpR X (compareOp .Gt) (rI0 fun i j => .bl (decide (j < i))) := opB0 fun _ _ _ _ _ _ _ q => gt_int q
theorem op_ge : OpR X (compareOp .GtE) (rI0 fun i j => .bl (decide (j ≤ i))) := opB0 fun _ _ _ _ _ _ _ q => ge_int q
theorem nomark (b : Expr) {op : CmpOp} (h : op ≠ .In := by decide) (h2 : op ≠ .NotIn := by decide) : behindInMarks op b = false := by
  have e1 : (op == CmpOp.In) = false := by cases op <;> first | rfl | exact absurd rfl h
  have e2 : (op == CmpOp.NotIn) = false := by cases op <;> first | rfl | exact absurd rfl h2
  cases b <;> simp [behindInMarks, e1, e2]
theorem pe_cmpR {op : CmpOp} {r : R2} (ho : OpR X (compareOp op) r) (ha : PE X a ta) (hb : PE X b tb) (hm : behindInMarks op b = false) : PE X (.Compare a [op] [b] pos) (tOp r ta tb) := by
  intro pins s σ H Q I h
  exact wpAny_Compare1 (binT ha hb I h fun v u s2 x y H2 I2 rx ry q => ho pins s2 σ H2 x y v u Q I2 rx ry q) hm
noncomputable def tTest (t : TE) : TT := fun σ H Q => t σ H fun x H' => xBl x H' Q
theorem pt_cmpR {op : CmpOp} {r : R2} (ho : OpR X (compareOp op) r) (ha : PE X a ta) (hb : PE X b tb) (hm : behindInMarks op b = false) : PT X (.Compare a [op] [b] pos) (tTest (tOp r ta tb)) := by
  intro pins s σ H Q I h
  refine wpAny_isTrue_Compare1 (thn (ha pins s σ H _ I h) fun v s1 ⟨x, H1, I1, r1, q1⟩ => thn (hb pins s1 σ H1 _ I1 q1) fun u s2 ⟨y, H2, I2, r2, q2⟩ =>
    thn (ho pins s2 σ H2 x y v u _ I2 r1 r2 q2) fun c s3 ⟨z, H3, I3, r3, k, e, q3⟩ => ?_) hm
  subst e
  cases r3
  exact wpAny_truthy_bool ⟨H3, I3, q3⟩
noncomputable def tChain (r r' : R2) (ta tb tc : TE) : TE := fun σ H Q => ta σ H fun x H1 => tb σ H1 fun y H2 => r x y H2 fun z H3 => ∃ k, z = .bl k ∧
  (if k = true then tc σ H3 fun w' H4 => r' y w' H4 Q else Q (.bl false) H3)
theorem pt_chain {op op' : CmpOp} {r r' : R2} (ho : OpR X (compareOp op) r) (ho' : OpR X (compareOp op') r') (ha : PE X a ta) (hb : PE X b tb) (hc : PE X c tc)
    (hm : lastMarks [op, op'] [b, c] = false := by with_unfolding_all rfl) : PT X (.Compare a [op, op'] [b, c] pos) (tTest (tChain r r' ta tb tc)) := by
  intro pins s σ H Q I h
  refine isTrue_chain (thn (ha pins s σ H _ I h) fun v s1 ⟨x, H1, I1, r1, q1⟩ => test_link (thn (hb pins s1 σ H1 _ I1 q1) fun u s2 ⟨y, H2, I2, r2, q2⟩ =>
    thn (ho pins s2 σ H2 x y v u _ I2 r1 r2 q2) fun d s3 ⟨z, H3, I3, r3, k, e, q3⟩ => ?_)) hm
  subst e
  cases r3
  refine wpAny_truthy_bool ?_
  cases k with
  | false =>
    obtain ⟨k', e', q'⟩ := q3
    cases e'
    exact ite_ff ⟨H3, I3, q'⟩
  | true =>
    refine ite_tt (test_last (thn (hc pins s3 σ H3 _ I3 q3) fun w' s4 ⟨z', H4, I4, r4, q4⟩ => thn (ho' pins s4 σ H4 y z' u w' _ I4 r2 r4 q4) fun d' s5 ⟨z2, H5, I5, r5, k2, e2, q5⟩ => ?_))
    subst e2
    cases r5
    exact wpAny_truthy_bool ⟨H5, I5, q5⟩
theorem line63 : (sizeLine : Nat) < 2 ^ 63 := by rw [sizeLine_eq]; decide
theorem vals1 {x : V} {us : List Value} (r : Vals [x] us) : ∃ u, us = [u] ∧ RelV x u := by
  cases r with
  | cons r1 r2 => cases r2; exact ⟨_, rfl, r1⟩
theorem vals2 {x y : V} {us : List Value} (r : Vals [x, y] us) : ∃ u w', us = [u, w'] ∧ RelV x u ∧ RelV y w' := by
  cases r with
  | cons r1 r2 =>
    cases r2 with
    | cons r3 r4 => cases r4; exact ⟨_, _, rfl, r1, r3⟩
end
end L2

namespace L2
open PySem PySem.Spec PyProof.Rows

structure ObjM (h : Heap) (x dx C : Addr) (mA : Str → Option Value) : Prop where
  obj : h.get? x = some (PySem.W.instObj C dx)
  ns : h.Ns1 dx mA
  ne : dx ≠ x
theorem lookIn_ns {h : Heap} {dx : Addr} {mA : Str → Option Value} (n : h.Ns1 dx mA) : ∃ od, h.get? dx = some od ∧ ∀ name, PySem.W.lookIn name od = some (mA name) := by
  obtain ⟨o, es, ep, ho, hd, hk, _, hm⟩ := n
  refine ⟨o, ho, fun name => ?_⟩
  have e := hm name
  unfold nsFind findBy at e
  rw [← Array.find?_toList] at e
  unfold PySem.W.lookIn
  rw [hd]
  dsimp only
  split
  · rename_i y q
    rw [q] at e
    exact congrArg some e
  · rename_i q
    rw [q] at e
    have a : es.toList.any (·.refKey) = false := by
      rw [List.any_eq_false]
      intro y hy
      obtain ⟨z, t, hkey⟩ := hk y (Array.mem_toList_iff.mp hy)
      simp [DictEntry.refKey, hkey]
    have a' : ¬ es.toList.any (·.refKey) = true := by rw [a]; exact Bool.false_ne_true
    rw [if_neg a']
    exact congrArg some e
theorem ObjM.look {h : Heap} {x dx C : Addr} {mA : Str → Option Value} (I : ObjM h x dx C mA) : ∃ od, PySem.W.InstAt h x (PySem.W.instObj C dx) C (some od) ∧ ∀ name, PySem.W.lookIn name od = some (mA name) :=
  let ⟨od, ho, hl⟩ := lookIn_ns I.ns
  ⟨od, ⟨I.obj, rfl, rfl, ho⟩, hl⟩
section
variable {prog : Program} {w : World} {A : Around} {E : Value → Shared → Prop} {s : Shared} {K : PySem.W.Frag} {x dx C f : Addr} {mA : Str → Option Value} {name : Str} {v : Value}

theorem get_map {expr : Bool} {Q : Value → Shared → Prop} (X : K.In s.heap) (I : ObjM s.heap x dx C mA) (hg : PySem.W.plainGet K C name = true) (hh : PySem.W.hasDictIn K C = true)
    (ha : PySem.W.findIn K (.ref C) name = some none) (hv : mA name = some v) (hv' : PySem.W.handedIn v = true) (h : Q v { s with toks := s.toks + 1 }) :
    wpAny (model prog w) A (getAttr (.ref x) name expr) Q E s := by
  obtain ⟨od, J, hl⟩ := I.look
  exact PySem.W.get_value X J (PySem.W.plainGet_of hg).1 (PySem.W.findObj_own hh ha rfl (by rw [hl, hv])) hv' h
theorem get_meth {pl : Sem Bool} {Q : Value × List Value → Shared → Prop} (X : K.In s.heap) (I : ObjM s.heap x dx C mA) (hg : PySem.W.plainGet K C name = true)
    (hf : PySem.W.findIn K (.ref C) name = some (some (.ref f))) (ht : PySem.W.isFn K (.ref f) = true) (hv : mA name = none) (h : Q (.ref f, [.ref x]) s) :
    wpAny (model prog w) A (getMethod (.ref x) name pl) Q E s := by
  obtain ⟨od, J, hl⟩ := I.look
  exact PySem.W.method_fn X J (PySem.W.plainGet_of hg).1 (PySem.W.plainGet_of hg).2 hf (beq_iff_eq.mp ht) (by show (PySem.W.lookIn name od).map (·.isSome) = some false; rw [hl, hv]; rfl) h
theorem set_map {ns : List Str} {Q : Unit → Shared → Prop} (X : K.In s.heap) (I : ObjM s.heap x dx C mA)
    (hs : PySem.W.findIn K (.ref C) "__setattr__" = some (some (.builtin "object.__setattr__"))) (hp : PySem.W.plainOver K C = true) (ht : PySem.W.takerIn K C name = some none) (hh : PySem.W.hasDictIn K C = true)
    (hw : PySem.Within mA ns) (hsz : ns.length ≤ sizeLine)
    (h : ∀ h', ObjM h' x dx C (fun y => if y = name then some v else mA y) → Heap.SameBut dx s.heap h' → Q () { s with heap := h', toks := s.toks + 2 }) :
    wpAny (model prog w) A (setAttr (.ref x) name v) Q E s := by
  obtain ⟨od, J, hl⟩ := I.look
  refine PySem.W.set_plain X J hs (PySem.W.osa_open (s := { s with toks := s.toks + 1 }) (r := none) X J hp ht fun b => ?_)
  obtain ⟨cd, hc, hd'⟩ := PySem.W.any_some hh
  have hx : s.heap.get? x = some ⟨.ref C, some dx, .plain, #[]⟩ := I.obj
  refine wpAny_bind (wpAny_pure (wpAny_bind (wpAny_bind (wpAny_loadPart hx (wpAny_bind (PySem.W.Looks.here (s := { s with toks := s.toks + 1 }) (PySem.W.looks_clsIn X hc) ?_))))))
  rw [hd']
  refine wpAny_pure (a := some dx) (wpAny_bind (wpAny_pure (wpAny_bind ?_)))
  refine wpAny_nsSet1 (s := { s with toks := s.toks + 1 }) I.ns fun h' hn2 hs2 => ?_
  obtain ⟨oD, esD, epD, hoD, hdD, hcD⟩ := hn2.count (PySem.Within.cons name v hw)
  refine wpAny_bind (wpAny_lookBehind hoD (by rw [hdD]; exact pastItsLine_dict (Nat.le_trans hcD (by rw [List.length_cons]; omega))) ?_)
  exact wpAny_pure (h _ ⟨(hs2.2 _ (Ne.symm I.ne)).trans I.obj, hn2, I.ne⟩ hs2)
theorem make_map {R : Result → Shared → Prop} {vs : List Value} {kw : List (Str × Value)} (X : K.In s.heap) (hm : PySem.W.makesIn K C = true)
    (hi : PySem.W.findIn K (.ref C) "__init__" = some (some (.ref f))) (hf : PySem.W.typeIn K (.ref f) = some (.type "function"))
    (h : codeAny (model prog w) (A.under (.builtin "type.__call__" ⟨.ref C :: vs, kw⟩)) (.call (.ref f) ⟨.ref (s.heap.objs.size + 1) :: vs, kw⟩) (PySem.W.InitBack (s.heap.objs.size + 1) R)
      { s with heap := (s.heap.push PySem.W.emptyDict).push (PySem.W.instObj C s.heap.objs.size) }) :
    codeAny (model prog w) A (.call (.ref C) ⟨vs, kw⟩) R s := by
  obtain ⟨hh, g, d, t, os⟩ := s
  exact PySem.W.make_core (PySem.W.makes_of X hm) (PySem.W.looks_findIn X hi) (fun self => PySem.W.bind_fn X self hf) (.inl rfl) h
end

noncomputable def putF (f : Str) (v : V) : List (Str × V) → List (Str × V)
  | [] => [(f, v)]
  | (g, x) :: r => if g = f then (g, v) :: r else (g, x) :: putF f v r
theorem lookup_putF (f g : Str) (v : V) : ∀ fs : List (Str × V), (putF f v fs).lookup g = if g = f then some v else fs.lookup g
  | [] => by
    show List.lookup g [(f, v)] = _
    by_cases h : g = f
    · have hb : (g == f) = true := beq_iff_eq.mpr h
      simp only [List.lookup, hb, if_pos h]
    · have hb : (g == f) = false := beq_eq_false_iff_ne.mpr h
      simp only [List.lookup, hb, if_neg h]
  | (k, x) :: r => by
    have ih := lookup_putF f g v r
    rw [show putF f v ((k, x) :: r) = (if k = f then (k, v) :: r else (k, x) :: putF f v r) from rfl]
    by_cases hk : k = f
    · rw [if_pos hk]
      by_cases h : g = k
      · have hb : (g == k) = true := beq_iff_eq.mpr h
        simp only [List.lookup, hb, if_pos (h.trans hk)]
      · have hb : (g == k) = false := beq_eq_false_iff_ne.mpr h
        simp only [List.lookup, hb, if_neg (fun e : g = f => h (e.trans hk.symm))]
    · rw [if_neg hk]
      by_cases h : g = k
      · have hb : (g == k) = true := beq_iff_eq.mpr h
        simp only [List.lookup, hb, if_neg (fun e : g = f => hk (h.symm.trans e))]
      · have hb : (g == k) = false := beq_eq_false_iff_ne.mpr h
        simp only [List.lookup, hb]
        exact ih
theorem keys_putF (f : Str) (v : V) : ∀ fs : List (Str × V), f ∈ (putF f v fs).map (·.1) ∧ ∀ g, g ∈ fs.map (·.1) → g ∈ (putF f v fs).map (·.1)
  | [] => ⟨by simp [putF], fun g h => by simp at h⟩
  | (k, x) :: r => by
    obtain ⟨i1, i2⟩ := keys_putF f v r
    rw [show putF f v ((k, x) :: r) = (if k = f then (k, v) :: r else (k, x) :: putF f v r) from rfl]
    by_cases hk : k = f
    · rw [if_pos hk]
      subst hk
      exact ⟨by simp, fun g h => by simpa using h⟩
    · rw [if_neg hk]
      refine ⟨?_, fun g h => ?_⟩
      · rw [List.map_cons]
        exact List.mem_cons_of_mem _ i1
      · rw [List.map_cons] at h ⊢
        rcases List.mem_cons.mp h with e | e
        · exact List.mem_cons.mpr (.inl e)
        · exact List.mem_cons_of_mem _ (i2 g e)
theorem length_putF (f : Str) (v : V) : ∀ fs : List (Str × V), (putF f v fs).length ≤ fs.length + 1
  | [] => by simp [putF]
  | (k, x) :: r => by
    have ih := length_putF f v r
    rw [show putF f v ((k, x) :: r) = (if k = f then (k, v) :: r else (k, x) :: putF f v r) from rfl]
    by_cases hk : k = f
    · rw [if_pos hk, List.length_cons, List.length_cons]; omega
    · rw [if_neg hk, List.length_cons, List.length_cons]; omega
theorem RelO.some_of {v : V} {o : Option Value} (r : RelO (some v) o) : ∃ u, o = some u ∧ RelV v u := by
  cases o with
  | none => exact (show False from r).elim
  | some u => exact ⟨u, rfl, r⟩
theorem RelO.none_of {o : Option Value} (r : RelO none o) : o = none := by
  cases o with
  | none => rfl
  | some u => exact (show False from r).elim
theorem handed_of {v : V} {u : Value} (r : RelV v u) : PySem.W.handedIn u = true := by
  cases v with
  | non => cases (show u = Value.none from r); rfl
  | bl b => cases (show u = Value.bool b from r); rfl
  | int i => obtain ⟨t, e⟩ := (show ∃ t, u = Value.int i t from r); cases e; rfl
  | str x => obtain ⟨t, e⟩ := (show ∃ t, u = Value.str x t from r); cases e; rfl
  | byt b => obtain ⟨t, e⟩ := (show ∃ t, u = Value.bytes b t from r); cases e; rfl
  | flt b => obtain ⟨t, e⟩ := (show ∃ t, u = Value.float b t from r); cases e; rfl
  | ref a => cases (show u = Value.ref a from r); rfl
  | ty n => cases (show u = Value.type n from r); rfl
section
variable {P : Program} {w : World} {H H' : Hp} {h h' : Heap} {a C dx : Addr} {fs fs' : List (Str × V)}
theorem ins_get (hok : HOk P w H h) (e : H a = some (.ins C dx fs)) : ∃ mA, ObjM h a dx C mA ∧ (∀ f, RelO (fs.lookup f) (mA f)) ∧ PySem.Within mA (fs.map (·.1)) ∧ fs.length ≤ 1000 ∧ H dx = some (.own a) := by
  obtain ⟨d, z, ne, ob, mA, n, r, q⟩ := (show ObjOk P w H h a (.ins C dx fs) from hok a _ e)
  exact ⟨mA, ⟨ob, n, ne⟩, r, q, z, d⟩
end

structure Cls (K : PySem.W.Frag) (C : Addr) : Prop where
  pg : PySem.W.plainGet K C Str.empty = true
  hd : PySem.W.hasDictIn K C = true
  po : PySem.W.plainOver K C = true
  sa : PySem.W.findIn K (.ref C) "__setattr__" = some (some (.builtin "object.__setattr__"))
theorem Cls.get {K : PySem.W.Frag} {C : Addr} (c : Cls K C) (f : Str) : PySem.W.plainGet K C f = true := c.pg
noncomputable def NoAttr (K : PySem.W.Frag) (C : Addr) (f : Str) : Prop := PySem.W.findIn K (.ref C) f = some none
theorem NoAttr.taker {K : PySem.W.Frag} {C : Addr} {f : Str} (n : NoAttr K C f) : PySem.W.takerIn K C f = some none := by
  unfold PySem.W.takerIn
  rw [show PySem.W.findIn K (.ref C) f = some none from n]
  rfl
structure Meth (K : PySem.W.Frag) (C : Addr) (m : Str) (f : Addr) : Prop where
  at_ : PySem.W.findIn K (.ref C) m = some (some (.ref f))
  fn : PySem.W.isFn K (.ref f) = true
  kp : PySem.W.keepIn K (.ref f) = true
section
variable {X : Cx} {pins : List (Addr × Obj)} {σ : St} {H : Hp} {s : Shared} {a C dx : Addr} {fs : List (Str × V)} {f : Str} {v : V} {A : Around} {E : Value → Shared → Prop}

theorem getattr_ok {b : Bool} {Q : Value → Shared → Prop} (I : Inv X pins σ H s) (e : H a = some (.ins C dx fs)) (c : Cls X.K C) (n : NoAttr X.K C f) (l : fs.lookup f = some v)
    (h : ∀ u s', Inv X pins σ H s' → RelV v u → Q u s') : wpAny (model X.prog X.w) A (getAttr (.ref a) f b) Q E s := by
  obtain ⟨mA, O, r, _, _, _⟩ := ins_get I.hok e
  obtain ⟨u, hu, ru⟩ := RelO.some_of (v := v) (o := mA f) (by rw [← l]; exact r f)
  exact get_map I.kIn O (c.get f) c.hd n hu (handed_of ru) (h u _ (I.tok _) ru)
theorem getmeth_ok {m : Str} {g : Addr} {pl : Sem Bool} {Q : Value × List Value → Shared → Prop} (I : Inv X pins σ H s) (e : H a = some (.ins C dx fs)) (c : Cls X.K C) (k : Meth X.K C m g) (l : fs.lookup m = none)
    (h : Q (.ref g, [.ref a]) s) : wpAny (model X.prog X.w) A (getMethod (.ref a) m pl) Q E s := by
  obtain ⟨mA, O, r, _, _, _⟩ := ins_get I.hok e
  have hn : mA m = none := RelO.none_of (by rw [← l]; exact r m)
  exact get_meth I.kIn O (c.get m) k.at_ k.fn hn h
theorem setattr_ok {y : V} {u : Value} {Q : Unit → Shared → Prop} (I : Inv X pins σ H s) (e : H a = some (.ins C dx fs)) (c : Cls X.K C) (n : NoAttr X.K C f) (hl : fs.length < 1000) (ry : RelV y u)
    (h : ∀ s', Inv X pins σ (upd H a (.ins C dx (putF f y fs))) s' → Q () s') : wpAny (model X.prog X.w) A (setAttr (.ref a) f u) Q E s := by
  obtain ⟨mA, O, r, wi, _, ho⟩ := ins_get I.hok e
  have hz : (fs.map (·.1)).length ≤ sizeLine := by rw [List.length_map, sizeLine_eq]; omega
  refine set_map I.kIn O c.sa c.po n.taker c.hd wi hz fun h' O' sb => h _ ?_
  have hd : ∃ o, h'.get? dx = some o := let ⟨o, _, _, e', _⟩ := O'.ns; ⟨o, e'⟩
  refine I.write (x := a) (e := dx) (by rw [e]; exact True.intro) (.inr ho) (fun b q hb z => (sb.2 b hb).trans z) hd ?_
  refine ⟨by rw [upd_ne O.ne]; exact ho, ?_, O.ne, O'.obj, _, O'.ns, fun g => ?_, fun g hg => ?_⟩
  · have := length_putF f y fs; omega
  · show RelO ((putF f y fs).lookup g) (if g = f then some u else mA g)
    rw [lookup_putF]
    by_cases q : g = f
    · rw [if_pos q, if_pos q]; exact ry
    · rw [if_neg q, if_neg q]; exact r g
  · by_cases q : g = f
    · rw [q]; exact (keys_putF f y fs).1
    · refine (keys_putF f y fs).2 g (wi g fun z => hg ?_)
      show (if g = f then some u else mA g) = none
      rw [if_neg q]; exact z
theorem Inv.made (I : Inv X pins σ H s) : Inv X pins σ (upd (upd H s.heap.objs.size (.own (s.heap.objs.size + 1))) (s.heap.objs.size + 1) (.ins C s.heap.objs.size []))
    { s with heap := (s.heap.push PySem.W.emptyDict).push (PySem.W.instObj C s.heap.objs.size) } := by
  have e1 : (s.heap.push PySem.W.emptyDict).get? s.heap.objs.size = some PySem.W.emptyDict := Heap.get?_push_size s.heap rfl
  have e2 : ((s.heap.push PySem.W.emptyDict).push (PySem.W.instObj C s.heap.objs.size)).get? (s.heap.objs.size + 1) = some (PySem.W.instObj C s.heap.objs.size) := by
    have := Heap.get?_push_size (s.heap.push PySem.W.emptyDict) (o := PySem.W.instObj C s.heap.objs.size) rfl
    rwa [Heap.size_push] at this
  have e3 : (s.heap.push PySem.W.emptyDict).Ns s.heap.objs.size (fun _ => none) := ⟨PySem.W.emptyDict, #[], _, e1, rfl, (fun e he => absurd he (by simp)), fun _ => rfl⟩
  have I1 := I.laid (a := s.heap.objs.size) (o := .own (s.heap.objs.size + 1)) (h' := s.heap.push PySem.W.emptyDict) (t' := s.toks) (fun b u q => Heap.get?_push_of_some _ q) (Nat.le_refl _) ⟨_, e1⟩
  refine I1.laid (a := s.heap.objs.size + 1) (o := .ins C s.heap.objs.size []) (t' := s.toks) (fun b u q => Heap.get?_push_of_some _ q) (Nat.le_of_eq (Heap.size_push _ _)) ?_
  have ne : s.heap.objs.size ≠ s.heap.objs.size + 1 := Nat.ne_of_lt (Nat.lt_succ_self _)
  refine ⟨by rw [upd_ne ne, upd_same], Nat.zero_le _, ne, e2, fun _ => none, (Heap.Ns1.of_empty e3).at fun o q => Heap.get?_push_of_some _ q, fun _ => True.intro, fun y hy => absurd rfl hy⟩
theorem attr_of {prog : Program} {w : World} {env : Env} {e : Expr} {f : Str} {pos : Pos} {s : Shared} {Q : Value → Shared → Prop} (hb : attributeBase e f env (eval e env) = eval e env)
    (h : wpAny (model prog w) A (eval e env) (fun o s₁ => wpAny (model prog w) A (getAttr o f true) Q E s₁) E s) : wpAny (model prog w) A (eval (.Attribute e f pos) env) Q E s :=
  Attribute_any_ h (by rw [arm_eval_Attribute, hb])
end

inductive xFld (K : PySem.W.Frag) (f : Str) (x : V) (H : Hp) (Q : VK) : Prop
  | mk (a C dx : Addr) (fs : List (Str × V)) (v : V) (e : x = .ref a) (h : H a = some (.ins C dx fs)) (c : Cls K C) (n : NoAttr K C f) (l : fs.lookup f = some v) (q : Q v H) : xFld K f x H Q
noncomputable def tFld (K : PySem.W.Frag) (ta : TE) (f : Str) : TE := fun σ H Q => ta σ H fun x H1 => xFld K f x H1 Q
noncomputable def sFld (K : PySem.W.Frag) (ta tv : TE) (f : Str) : TS := fun D σ H => tv σ H fun y H1 => ta σ H1 fun x H2 => ∃ a C dx fs, x = .ref a ∧ H2 a = some (.ins C dx fs) ∧ Cls K C ∧ NoAttr K C f ∧ fs.length < 1000 ∧
  D.nx σ (upd H2 a (.ins C dx (putF f y fs)))
section
variable {X : Cx} {o e value : Expr} {f : Str} {pos pos' tpos : Pos} {ta tv : TE}
theorem pe_fld (he : PE X e ta) (hb : attributeBase e f X.env (eval e X.env) = eval e X.env) : PE X (.Attribute e f pos) (tFld X.K ta f) := by
  intro pins s σ H Q I h
  refine attr_of hb (thn (he pins s σ H _ I h) fun u s1 zq => ?_)
  obtain ⟨x, H1, I1, rx, a, C, dx, fs, v, ex, ea, c, n, l, q⟩ := zq
  subst ex
  obtain rfl : u = Value.ref a := rx
  exact getattr_ok I1 ea c n l fun u' s2 I2 ru => ⟨v, H1, I2, ru, q⟩
theorem ps_fld (ha : PE X o ta) (hv : PE X value tv) (hs : swapsWith value (some (.Attribute o f pos')) pos.line X.env = pure false) : PS X (.Assign [.Attribute o f pos'] value pos) (sFld X.K ta tv f) := by
  intro pins s σ H D I h
  refine plainObj_wpAny_Assign_Attribute (thn (hv pins s σ H _ I h) fun u s1 ⟨y, H1, I1, ry, q⟩ => thn (ha pins s1 σ H1 _ I1 q) fun ov s2 ⟨x, H2, I2, rx, a, C, dx, fs, ex, ea, c, n, l, q2⟩ => ?_) hs
  subst ex
  obtain rfl : ov = Value.ref a := rx
  exact setattr_ok I2 ea c n l ry fun s3 I3 => ⟨σ, _, I3, q2⟩
end

section
variable {X : Cx} {pins : List (Addr × Obj)} {σ : St} {H : Hp} {s : Shared} {A : Around} {E : Value → Shared → Prop} {Q : Value → Shared → Prop} {c : Value} {b : Bool}
inductive TyOf (K : PySem.W.Frag) (H : Hp) : V → Value → Prop where
  | non : TyOf K H .non (.type "NoneType")
  | bl (x : Bool) : TyOf K H (.bl x) (.type "bool")
  | int (i : Int) : TyOf K H (.int i) (.type "int")
  | str (x : Str) : TyOf K H (.str x) (.type "str")
  | flt (x : UInt64) : TyOf K H (.flt x) (.type "float")
  | lst {a : Addr} {xs : List V} (e : H a = some (.lst xs)) : TyOf K H (.ref a) (.type "list")
  | frz {a : Addr} {o : Obj} {xs : List V} (e : H a = some (.frz o (.lst xs))) : TyOf K H (.ref a) (.type "list")
  | tup {a : Addr} {xs : List V} (e : H a = some (.tup xs)) : TyOf K H (.ref a) (.type "tuple")
  | dK {a : Addr} {kvs : List (Key × V)} (e : H a = some (.dK kvs)) : TyOf K H (.ref a) (.type "dict")
  | dT {a : Addr} {kvs : List (List Key × V)} (e : H a = some (.dT kvs)) : TyOf K H (.ref a) (.type "dict")
  | ins {a C dx : Addr} {fs : List (Str × V)} (e : H a = some (.ins C dx fs)) (cl : Cls K C) (ha : PySem.W.findIn K (.ref C) "__class__" = some (some (.builtin "object.__class__")))
      (hn : PySem.W.specialIn K (.builtin "object.__class__") "__get__" = some (some (.builtin "getset_descriptor.__get__"))) (htk : PySem.W.takesIn K (.builtin "object.__class__") = some true)
      (hm : PySem.W.mroIn K C (.type "object") = some true) : TyOf K H (.ref a) (.ref C)
theorem isinst_ok {x : V} {u t : Value} (I : Inv X pins σ H s) (rx : RelV x u) (ty : TyOf X.K H x t) (e : PySem.W.kitOne X.K t c = some b) (h : ∀ tk, Q (.bool b) { s with toks := tk }) :
    wpAny (model X.prog X.w) A (call (.builtin "isinstance") [u, c]) Q E s := by
  cases ty with
  | non => cases (show u = Value.none from rx); exact PySem.W.kia_one PySem.W.kitx_none I.kIn True.intro e (fun z => nomatch z) h
  | bl y => cases (show u = Value.bool y from rx); exact PySem.W.kia_one PySem.W.kitx_bool I.kIn True.intro e (fun z => nomatch z) h
  | int i => obtain ⟨t, q⟩ := (show ∃ t, u = Value.int i t from rx); cases q; exact PySem.W.kia_one PySem.W.kitx_int I.kIn True.intro e (fun z => nomatch z) h
  | str y => obtain ⟨t, q⟩ := (show ∃ t, u = Value.str y t from rx); cases q; exact PySem.W.kia_one PySem.W.kitx_str I.kIn True.intro e (fun z => nomatch z) h
  | flt y => obtain ⟨t, q⟩ := (show ∃ t, u = Value.float y t from rx); cases q; exact PySem.W.kia_one PySem.W.kitx_float I.kIn True.intro e (fun z => nomatch z) h
  | @lst a xs ea =>
    cases (show u = Value.ref a from rx)
    obtain ⟨_, _, n, _, h1⟩ := (show ObjOk X.prog X.w H s.heap a (.lst xs) from I.hok a _ ea)
    exact PySem.W.kia_one PySem.W.kitx_list I.kIn ⟨_, h1, rfl⟩ e (fun z => nomatch z) h
  | @frz a ob xs ea =>
    cases (show u = Value.ref a from rx)
    obtain ⟨_, _, _, n, _, h1⟩ := (show ObjOk X.prog X.w H s.heap a (.frz ob (.lst xs)) from I.hok a _ ea)
    exact PySem.W.kia_one PySem.W.kitx_list I.kIn ⟨_, h1, rfl⟩ e (fun z => nomatch z) h
  | @tup a xs ea =>
    cases (show u = Value.ref a from rx)
    obtain ⟨_, _, _, p⟩ := (show ObjOk X.prog X.w H s.heap a (.tup xs) from I.hok a _ ea)
    obtain ⟨o, h1, h2, _⟩ := p
    exact PySem.W.kia_one PySem.W.kitx_tuple I.kIn ⟨o, h1, h2⟩ e (fun z => nomatch z) h
  | @dK a kvs ea =>
    cases (show u = Value.ref a from rx)
    obtain ⟨_, _, vs, _, p⟩ := (show ObjOk X.prog X.w H s.heap a (.dK kvs) from I.hok a _ ea)
    obtain ⟨o, es, ep, h1, h2, _⟩ := p
    exact PySem.W.kia_one PySem.W.kitx_dict I.kIn ⟨o, h1, h2.1⟩ e (fun z => nomatch z) h
  | @dT a kvs ea =>
    cases (show u = Value.ref a from rx)
    obtain ⟨_, _, xs, _, o, es, ep, h1, h2, _⟩ := (show ObjOk X.prog X.w H s.heap a (.dT kvs) from I.hok a _ ea)
    exact PySem.W.kia_one PySem.W.kitx_dict I.kIn ⟨o, h1, h2.1⟩ e (fun z => nomatch z) h
  | @ins a C dx fs ea cl ha hn htk hm =>
    cases (show u = Value.ref a from rx)
    obtain ⟨mA, O, _⟩ := ins_get I.hok ea
    obtain ⟨od, J, _⟩ := O.look
    exact PySem.W.kia_one (PySem.W.kitx_own (cl.get _) cl.hd ha hn htk hm) I.kIn J e (fun z => nomatch z) h
end
end L2

namespace L2
open PySem PySem.Spec PyProof.Rows

structure Room (k : Nat) (A : Around) : Prop where
  hd : A.handled = none
  dp : A.depth + 3 * k + 5 < recursionLimit
  un : A.units + 16 * k + 200 < cLine
theorem Room.mono {j k : Nat} {A : Around} (r : Room k A) (h : j ≤ k) : Room j A := ⟨r.hd, by have := r.dp; omega, by have := r.un; omega⟩
theorem Room.deeper {k : Nat} {A : Around} (r : Room (k + 1) A) (env : Env) : Room k (A.deeper env) :=
  ⟨r.hd, by have := r.dp; show A.depth + 1 + 3 * k + 5 < _; omega, by have := r.un; show A.units + 3 + 16 * k + 200 < _; omega⟩
theorem Room.in1 {k : Nat} {A : Around} (r : Room (k + 1) A) : Room k A.in1 :=
  ⟨r.hd, by have := r.dp; show A.depth + 3 * k + 5 < _; omega, by have := r.un; show A.units + 1 + 16 * k + 200 < _; omega⟩
theorem make_depth {A : Around} {C : Addr} {us : List Value} {kw : List (Str × Value)} : (A.under (.builtin "type.__call__" ⟨.ref C :: us, kw⟩)).depth = A.depth + 1 := by
  first | rfl | simp [Around.under, Code.weight, Code.isCreation, Code.isGuard, Code.isCaller, Code.frames, Code.isFrame, guardIds]
theorem make_units {A : Around} {C : Addr} {us : List Value} {kw : List (Str × Value)} : (A.under (.builtin "type.__call__" ⟨.ref C :: us, kw⟩)).units = A.units + 1 := by
  first | rfl | simp [Around.under, Code.cUnits, Code.frames, Code.isFrame]
theorem Room.make {k : Nat} {A : Around} (r : Room (k + 1) A) (C : Addr) (us : List Value) (kw : List (Str × Value)) : Room k (A.under (.builtin "type.__call__" ⟨.ref C :: us, kw⟩)) :=
  ⟨r.hd, by have := r.dp; rw [make_depth]; omega, by have := r.un; rw [make_units]; omega⟩
theorem Room.depth {k : Nat} {A : Around} (r : Room k A) : A.depth < recursionLimit := by have := r.dp; omega
theorem Room.units {k : Nat} {A : Around} (r : Room k A) : A.units + 64 < cLine := by have := r.un; omega
noncomputable def tNil : TA := fun _ H Q => Q [] H
noncomputable def tCons (ta : TE) (tr : TA) : TA := fun σ H Q => ta σ H fun x H1 => tr σ H1 fun xs H2 => Q (x :: xs) H2
section
variable {X : Cx} {e : Expr} {es : List Expr} {te : TE} {t : TA} {pos : Pos}
theorem pa_nil : PA X [] tNil := fun _ _ _ _ H Q I h => Calls.spliced_nil ⟨[], H, I, .nil, h⟩
theorem pa_cons (ha : PE X e te) (hr : PA X es t) (hs : starEach (e :: es) X.env = (false, eval e X.env) :: starEach es X.env := by rfl) : PA X (e :: es) (tCons te t) := by
  intro pos pins s σ H Q I h
  rw [hs]
  show wpAny _ _ (spliced ((false, eval e X.env) :: backTo pos (starEach es X.env))) _ _ s
  refine Calls.spliced_cons (thn (ha pins s σ H _ I h) fun u s1 zq => ?_)
  obtain ⟨x, H1, I1, r1, q1⟩ := zq
  exact thn (hr pos pins s1 σ H1 _ I1 q1) fun us s2 ⟨xs, H2, I2, r2, q2⟩ => ⟨x :: xs, H2, I2, .cons r1 r2, q2⟩
noncomputable def tTup (t : TA) : TE := fun σ H Q => t σ H fun xs H1 => xs.length ≤ sizeLine ∧ ∀ p, H1 p = none → Q (.ref p) (upd H1 p (.tup xs))
noncomputable def tLst (t : TA) : TE := fun σ H Q => t σ H fun xs H1 => xs.length ≤ sizeLine ∧ ∀ p, H1 p = none → Q (.ref p) (upd H1 p (.lst xs))
theorem pe_tup {x1} (h : PA X es t) : PE X (.Tuple es x1 pos) (tTup t) := by
  intro pins s σ H Q I hq
  refine wpAny_Tuple_spliced (thn (h pos pins s σ H _ I hq) fun us s1 ⟨xs, H1, I1, r, z, q⟩ => ⟨by rw [← r.length]; exact z, ?_⟩)
  have hf : H1 s1.heap.objs.size = none := I1.hok.fresh (Nat.le_refl _)
  refine ⟨.ref s1.heap.objs.size, upd H1 s1.heap.objs.size (.tup xs), I1.laid (t' := s1.toks) (fun b u e => Heap.get?_push_of_some _ e) (Nat.le_refl _) ?_, rfl, q _ hf⟩
  exact ⟨z, us, r, ⟨_, Heap.get?_push_size _ rfl, rfl, _, rfl⟩⟩
theorem pe_lst (h : PA X es t) : PE X (.List es pos) (tLst t) := by
  intro pins s σ H Q I hq
  refine wpAny_List_spliced (thn (h pos pins s σ H _ I hq) fun us s1 ⟨xs, H1, I1, r, z, q⟩ => ⟨by rw [← r.length]; exact z, ?_⟩)
  have hf : H1 s1.heap.objs.size = none := I1.hok.fresh (Nat.le_refl _)
  refine ⟨.ref s1.heap.objs.size, upd H1 s1.heap.objs.size (.lst xs), I1.laid (t' := s1.toks) (fun b u e => Heap.get?_push_of_some _ e) (Nat.le_refl _) ?_, rfl, q _ hf⟩
  exact ⟨z, us, 0, r, Heap.get?_push_size _ rfl⟩
end

noncomputable abbrev Sp := List V → Hp → VK → XK → Prop
noncomputable abbrev CXT := List Env → Hp → Shared → XK → Value → Shared → Prop
structure Env0 (P : Program) (w : World) (K : PySem.W.Frag) (mg : Str → Option Value) (base : Heap) (A : Around) (outer : List Env) (s : Shared) (H : Hp) : Prop where
  frames : A.frames = some outer
  mod : Mod K mg base
  bs : ∀ b o, base.get? b = some o → s.heap.get? b = some o ∧ H b = none
  bsz : base.objs.size ≤ s.heap.objs.size
  funs : s.heap.FunFrames base outer
  frf : ∀ b ∈ frs outer, H b = none
  hok : HOk P w H s.heap
  bare : AllBare s.gens
noncomputable def CE (outer : List Env) (P : Program) (w : World) (H : Hp) (s : Shared) (Q : VK) (u : Value) (s' : Shared) : Prop :=
  ∃ v H', s'.os = s.os ∧ AllBare s'.gens ∧ Un (frs outer) [] H H' s.heap s'.heap ∧ HOk P w H' s'.heap ∧ RelV v u ∧ Q v H'
noncomputable def CR (CX : CXT) (outer : List Env) (P : Program) (w : World) (H : Hp) (s : Shared) (Q : VK) (E : XK) (r : Result) (s' : Shared) : Prop :=
  match r with
  | .ok (.ret u) => CE outer P w H s Q u s'
  | .ok _ => False
  | .error e => CX outer H s E e s'
structure FnOk (P : Program) (w : World) (K : PySem.W.Frag) (mg : Str → Option Value) (base : Heap) (CX : CXT) (k : Nat) (f : Addr) (fd : FuncData) (ps : List Str) (sp : Sp) : Prop where
  len : ∀ vs H Q E, sp vs H Q E → vs.length = ps.length
  run : ∀ (A : Around) (outer : List Env) (s : Shared) (H : Hp) (args : Args) (us : List Value) (vs : List V) (Q : VK) (E : XK), Room k A → Env0 P w K mg base A outer s H → BindsTo s fd args (ps.zip us) → Vals vs us → sp vs H Q E →
    codeAny (model P w) A (.call (.ref f) args) (CR CX outer P w H s Q E) s
theorem FnOk.imp {P : Program} {w : World} {K : PySem.W.Frag} {mg : Str → Option Value} {base : Heap} {CX : CXT} {k : Nat} {f : Addr} {fd : FuncData} {ps : List Str} {sp sp' : Sp} (F : FnOk P w K mg base CX k f fd ps sp)
    (h : ∀ vs H Q E, sp' vs H Q E → sp vs H Q E) : FnOk P w K mg base CX k f fd ps sp' :=
  ⟨fun vs H Q E q => F.len vs H Q E (h _ _ _ _ q), fun A outer s H args us vs Q E hr he hb hv hs => F.run A outer s H args us vs Q E hr he hb hv (h _ _ _ _ hs)⟩
theorem Env0.make {P : Program} {w : World} {K : PySem.W.Frag} {mg : Str → Option Value} {base : Heap} {A : Around} {outer : List Env} {s : Shared} {H : Hp} (e : Env0 P w K mg base A outer s H) (C : Addr) (us : List Value) (kw : List (Str × Value)) :
    Env0 P w K mg base (A.under (.builtin "type.__call__" ⟨.ref C :: us, kw⟩)) outer s H := ⟨by first | exact e.frames | (simpa [Around.under, Code.envs, Code.isFrame, pushEnvs] using e.frames), e.mod, e.bs, e.bsz, e.funs, e.frf, e.hok, e.bare⟩
section
variable {X : Cx} {pins : List (Addr × Obj)} {σ : St} {H : Hp} {s s' : Shared}
theorem Inv.env0 (I : Inv X pins σ H s) : Env0 X.prog X.w X.K X.mg X.base X.A X.stack s H :=
  ⟨I.ok.frames, I.ok.mod, I.bs, Nat.le_trans I.ok.bsz I.sz, I.stack, I.stkFree, I.hok, I.bare⟩
theorem Inv.after {Q : VK} {u : Value} (I : Inv X pins σ H s) (h : CE X.stack X.prog X.w H s Q u s') : EP X pins σ Q u s' := by
  obtain ⟨v, H', os, bare, un, hok, r, q⟩ := h
  obtain ⟨hh, g, d, t, os'⟩ := s'
  obtain rfl : os' = s.os := os
  exact ⟨v, H', I.call (h' := hh) (g' := g) (d' := d) (t' := t) (ch := []) un hok bare (fun b z => absurd z (by simp)), r, q⟩
end

noncomputable def tCall (sp : Sp) (dvs : List V) (E : XK) (t : TA) : TE := fun σ H Q => t σ H fun vs H1 => sp (vs ++ dvs) H1 Q E
inductive xMe (C : Addr) (m : Str) (x : V) (H : Hp) (p : Prop) : Prop
  | mk (a dx : Addr) (fs : List (Str × V)) (e : x = .ref a) (h : H a = some (.ins C dx fs)) (l : fs.lookup m = none) (q : p) : xMe C m x H p
noncomputable def tMeth (C : Addr) (m : Str) (sp : Sp) (dvs : List V) (E : XK) (ta : TE) (t : TA) : TE := fun σ H Q => ta σ H fun x H1 => xMe C m x H1 (t σ H1 fun vs H2 => sp (x :: (vs ++ dvs)) H2 Q E)
noncomputable def tMake (C : Addr) (sp : Sp) (dvs : List V) (E : XK) (t : TA) : TE := fun σ H Q => t σ H fun vs H1 => ∀ x dx, H1 x = none → H1 dx = none → dx ≠ x →
  sp (.ref x :: (vs ++ dvs)) (upd (upd H1 dx (.own x)) x (.ins C dx [])) (fun v H2 => v = .non ∧ Q (.ref x) H2) E
noncomputable def Binds (K : PySem.W.Frag) (fd : FuncData) (ps : List Str) (ds : List Value) : Prop :=
  ∀ (s : Shared) (us : List Value), K.In s.heap → (us ++ ds).length = ps.length → BindsTo s fd ⟨us, []⟩ (ps.zip (us ++ ds))
theorem Binds.all {K : PySem.W.Frag} {fd : FuncData} {ps : List Str} (h : ∀ us : List Value, us.length = ps.length → bindArgs fd ⟨us, []⟩ = pure (ps.zip us)) : Binds K fd ps [] := fun s us _ hl => by
  rw [List.append_nil] at hl ⊢
  exact .of_eq (h us hl)
noncomputable def Passes (CX : CXT) (X : Cx) (E : XK) : Prop := ∀ (pins : List (Addr × Obj)) (σ : St) (H : Hp) (s : Shared) (e : Value) (s' : Shared), Inv X pins σ H s → CX X.stack H s E e s' → X.xe e s'
section
variable {X : Cx} {CX : CXT} {k : Nat} {f C : Addr} {fd : FuncData} {ps : List Str} {sp : Sp} {dvs : List V} {ds : List Value} {E : XK} {x m : Str} {p pos apos : Pos} {e o : Expr} {es : List Expr} {ta : TE} {t : TA}

theorem run_fn {pins : List (Addr × Obj)} {σ : St} {H : Hp} {s : Shared} {Q : VK} {us : List Value} {vs : List V} (F : FnOk X.prog X.w X.K X.mg X.base CX k f fd ps sp) (hr : Room k X.A) (hb : Binds X.K fd ps ds) (hd : Vals dvs ds) (hx : Passes CX X E)
    (I : Inv X pins σ H s) (r : Vals vs us) (h : sp (vs ++ dvs) H Q E) : wpAny (model X.prog X.w) X.A (call (.ref f) us) (EP X pins σ Q) X.xe s := by
  have r2 : Vals (vs ++ dvs) (us ++ ds) := r.append hd
  have hl : (us ++ ds).length = ps.length := by rw [← r2.length]; exact F.len _ _ _ _ h
  refine wpAny_call (codeAny_mono (F.run X.A X.stack s H ⟨us, []⟩ (us ++ ds) (vs ++ dvs) Q E hr I.env0 (hb s us I.kIn hl) r2 h) fun r s' hq => ?_)
  cases r with
  | error e => exact hx pins σ H s e s' I hq
  | ok fl =>
    cases fl with
    | ret u => exact I.after hq
    | next => exact False.elim hq
    | brk => exact False.elim hq
    | cont => exact False.elim hq
theorem pe_call (F : FnOk X.prog X.w X.K X.mg X.base CX k f fd ps sp) (hr : Room k X.A) (hg : Gl X x) (hm : X.mg x = some (.ref f)) (hk : PySem.W.keepIn X.K (.ref f) = true) (hb : Binds X.K fd ps ds) (hd : Vals dvs ds) (hx : Passes CX X E)
    (ha : PA X (e :: es) t) (hdb : (x == ("__debug__" : Str)) = false := by decide) (he : starEach (e :: es) X.env = (false, eval e X.env) :: starEach es X.env := by rfl) (hpl : (backTo pos (starEach es X.env)).any (·.1) = false := by rfl) :
    PE X (.Call (.Name x p) (e :: es) [] pos) (tCall sp dvs E t) := by
  intro pins s σ H Q I h
  refine wpAny_Call_Name_kw (ld_glob I hg hm ?_ hdb)
  refine PySem.W.callWith_K (h₀ := X.base) I.ok.mod.kin hk (thn (ha pos pins s σ H _ I h) fun us s1 ⟨vs, H1, I1, r, q⟩ => ⟨I1.kIn, ?_⟩) he hpl
  exact run_fn F hr hb hd hx I1 r q
theorem pe_meth {pl : Sem Bool} (he : PE X o ta) (c : Cls X.K C) (hm : Meth X.K C m f) (F : FnOk X.prog X.w X.K X.mg X.base CX k f fd ps sp) (hr : Room k X.A) (hb : Binds X.K fd ps ds) (hd : Vals dvs ds) (hx : Passes CX X E) (ha : PA X (e :: es) t)
    (hst : starEach (e :: es) X.env = (false, eval e X.env) :: starEach es X.env := by rfl) (hpl : (backTo pos (starEach es X.env)).any (·.1) = false := by rfl)
    (ht : eval (.Call (.Attribute o m apos) (e :: es) [] pos) X.env = (do
      let ov ← eval o X.env
      standAt apos.atName
      let (f, first) ← holding [ov] (getMethod ov m pl)
      callWith pos f first (backTo pos (starEach (e :: es) X.env)) (backToKw pos (keywordEach [] X.env))) := by rfl) :
    PE X (.Call (.Attribute o m apos) (e :: es) [] pos) (tMeth C m sp dvs E ta t) := by
  intro pins s σ H Q I h
  refine PySem.W.methodCall_KW (pl := pl) (thn (he pins s σ H _ I h) fun u s1 zq => ?_) ht
  obtain ⟨x, H1, I1, rx, a, dx, fs, ex, ea, l, q⟩ := zq
  subst ex
  obtain rfl : u = Value.ref a := rx
  refine getmeth_ok I1 ea c hm l ?_
  refine PySem.W.callWith_K (first := [.ref a]) (h₀ := X.base) I.ok.mod.kin hm.kp (thn (ha pos pins s1 σ H1 _ I1 q) fun us s2 ⟨vs, H2, I2, r, q2⟩ => ⟨I2.kIn, ?_⟩) hst hpl
  exact run_fn (us := .ref a :: us) (vs := .ref a :: vs) F hr hb hd hx I2 (.cons rfl r) q2
theorem pe_meth0 {pl : Sem Bool} (he : PE X o ta) (c : Cls X.K C) (hm : Meth X.K C m f) (F : FnOk X.prog X.w X.K X.mg X.base CX k f fd ps sp) (hr : Room k X.A) (hb : Binds X.K fd ps ds) (hd : Vals dvs ds) (hx : Passes CX X E)
    (ht : eval (.Call (.Attribute o m apos) [] [] pos) X.env = (do
      let ov ← eval o X.env
      standAt apos.atName
      let (f, first) ← holding [ov] (getMethod ov m pl)
      callWith pos f first (backTo pos (starEach [] X.env)) (backToKw pos (keywordEach [] X.env))) := by rfl) :
    PE X (.Call (.Attribute o m apos) [] [] pos) (tMeth C m sp dvs E ta tNil) := by
  intro pins s σ H Q I h
  refine PySem.W.methodCall_KW (pl := pl) (thn (he pins s σ H _ I h) fun u s1 zq => ?_) ht
  obtain ⟨x, H1, I1, rx, a, dx, fs, ex, ea, l, q⟩ := zq
  subst ex
  obtain rfl : u = Value.ref a := rx
  refine getmeth_ok I1 ea c hm l ?_
  exact PySem.W.callWith_K0 (first := [.ref a]) I1.kIn hm.kp (run_fn (us := [.ref a]) (vs := [.ref a]) F hr hb hd hx I1 (.cons rfl .nil) q)
structure Mk (K : PySem.W.Frag) (C f : Addr) : Prop where
  makes : PySem.W.makesIn K C = true
  init : PySem.W.findIn K (.ref C) "__init__" = some (some (.ref f))
  fn : PySem.W.isFn K (.ref f) = true
  kp : PySem.W.keepIn K (.ref C) = true
theorem run_make {pins : List (Addr × Obj)} {σ : St} {H : Hp} {s : Shared} {Q : VK} {us : List Value} {vs : List V} (M : Mk X.K C f) (F : FnOk X.prog X.w X.K X.mg X.base CX k f fd ps sp) (hr : Room (k + 1) X.A) (hb : Binds X.K fd ps ds) (hd : Vals dvs ds)
    (hx : Passes CX X E) (I : Inv X pins σ H s) (r : Vals vs us)
    (h : ∀ x dx, H x = none → H dx = none → dx ≠ x → sp (.ref x :: (vs ++ dvs)) (upd (upd H dx (.own x)) x (.ins C dx [])) (fun v H2 => v = .non ∧ Q (.ref x) H2) E) :
    wpAny (model X.prog X.w) X.A (call (.ref C) us) (EP X pins σ Q) X.xe s := by
  have hq := h (s.heap.objs.size + 1) s.heap.objs.size (I.hok.fresh (Nat.le_succ _)) (I.hok.fresh (Nat.le_refl _)) (Nat.ne_of_lt (Nat.lt_succ_self _))
  have I2 := Inv.made (C := C) I
  have r2 : Vals (V.ref (s.heap.objs.size + 1) :: (vs ++ dvs)) (Value.ref (s.heap.objs.size + 1) :: (us ++ ds)) := .cons rfl (r.append hd)
  have hl : (Value.ref (s.heap.objs.size + 1) :: us ++ ds).length = ps.length := by
    have e := r2.length
    rw [F.len _ _ _ _ hq] at e
    exact e.symm
  refine wpAny_call (make_map (f := f) I.kIn M.makes M.init (beq_iff_eq.mp M.fn) (codeAny_mono (F.run _ X.stack _ _ ⟨Value.ref (s.heap.objs.size + 1) :: us, []⟩ (Value.ref (s.heap.objs.size + 1) :: (us ++ ds)) _ _ E (hr.make C us [])
    (I2.env0.make C us []) (hb _ (Value.ref (s.heap.objs.size + 1) :: us) I2.kIn hl) r2 hq) fun r s' hq' => ?_))
  cases r with
  | error e => exact hx pins σ _ _ e s' I2 hq'
  | ok fl =>
    cases fl with
    | ret u =>
      obtain ⟨v, H', I3, rv, ev, q3⟩ := I2.after hq'
      subst ev
      exact ⟨rv, ⟨V.ref (s.heap.objs.size + 1), H', I3, rfl, q3⟩⟩
    | next => exact False.elim hq'
    | brk => exact False.elim hq'
    | cont => exact False.elim hq'
theorem pe_make (M : Mk X.K C f) (F : FnOk X.prog X.w X.K X.mg X.base CX k f fd ps sp) (hr : Room (k + 1) X.A) (hg : Gl X x) (hm : X.mg x = some (.ref C)) (hb : Binds X.K fd ps ds) (hd : Vals dvs ds) (hx : Passes CX X E)
    (ha : PA X (e :: es) t) (hdb : (x == ("__debug__" : Str)) = false := by decide) (he : starEach (e :: es) X.env = (false, eval e X.env) :: starEach es X.env := by rfl) (hpl : (backTo pos (starEach es X.env)).any (·.1) = false := by rfl) :
    PE X (.Call (.Name x p) (e :: es) [] pos) (tMake C sp dvs E t) := by
  intro pins s σ H Q I h
  refine wpAny_Call_Name_kw (ld_glob I hg hm ?_ hdb)
  refine PySem.W.callWith_K (h₀ := X.base) I.ok.mod.kin M.kp (thn (ha pos pins s σ H _ I h) fun us s1 ⟨vs, H1, I1, r, q⟩ => ⟨I1.kIn, ?_⟩) he hpl
  exact run_make M F hr hb hd hx I1 r q
end

section
variable {X : Cx} {CX : CXT} {k : Nat} {f C : Addr} {fd : FuncData} {ps ks : List Str} {sp : Sp} {E : XK} {x m : Str} {p pos apos kpos : Pos} {e o : Expr} {es : List Expr} {kws : List Keyword} {te ta : TE} {t tk : TA} {nm : Option Str}
variable {g : List Value → List Value → List Value} {gV : List V → List V → List V}
end

structure FnScope (N P : List Str) (sc : Scope) : Prop where
  kind : sc.kind = .function
  co : sc.isCoroutine = false
  gen : sc.isGenerator = false
  nd : N.Nodup
  pre : N.take P.length = P
  par : ∀ x ∈ P, sc.names.lookup x = some .local ∨ sc.names.lookup x = some .cell
  nofree : ∀ y ∈ sc.names, y.2 ≠ .free
theorem bindL_out {kindOf : Str → Option NameKind} {x : Str} : ∀ {binds : List (Str × Value)} {m : Str → Option Value}, (∀ v, (x, v) ∉ binds) → bindL kindOf binds m x = m x
  | [], _, _ => rfl
  | (n, v) :: r, m, h => by
    unfold bindL
    rw [bindL_out fun w hw => h w (List.mem_cons_of_mem _ hw)]
    split
    · have : x ≠ n := by rintro rfl; exact h v List.mem_cons_self
      simp [this]
    · rfl
theorem bindC_out {kindOf : Str → Option NameKind} {x : Str} : ∀ {binds : List (Str × Value)} {m : Str → Option Value}, (∀ v, (x, v) ∉ binds) → bindC kindOf binds m x = m x
  | [], _, _ => rfl
  | (n, v) :: r, m, h => by
    unfold bindC
    rw [bindC_out fun w hw => h w (List.mem_cons_of_mem _ hw)]
    split
    · rfl
    · have : x ≠ n := by rintro rfl; exact h v List.mem_cons_self
      simp [this]
theorem bindL_get {kindOf : Str → Option NameKind} {x : Str} {v : Value} : ∀ {P : List Str} {vs : List Value} {i : Nat} {m : Str → Option Value}, P.Nodup → P[i]? = some x → vs[i]? = some v → kindOf x = some .local →
    bindL kindOf (P.zip vs) m x = some v
  | [], _, _, _, _, h, _, _ => by simp at h
  | _ :: _, [], _, _, _, _, h, _ => by simp at h
  | p :: P, w :: vs, 0, m, nd, h1, h2, hk => by
    simp at h1 h2; subst h1; subst h2
    show bindL kindOf ((p, w) :: P.zip vs) m p = _
    unfold bindL
    rw [bindL_out fun v hv => (List.nodup_cons.mp nd).1 (List.of_mem_zip hv).1, if_pos hk]
    simp
  | p :: P, w :: vs, i + 1, m, nd, h1, h2, hk => by
    show bindL kindOf ((p, w) :: P.zip vs) m x = _
    unfold bindL
    exact bindL_get (i := i) (List.nodup_cons.mp nd).2 (by simpa using h1) (by simpa using h2) hk
theorem bindC_get {kindOf : Str → Option NameKind} {x : Str} {v : Value} : ∀ {P : List Str} {vs : List Value} {i : Nat} {m : Str → Option Value}, P.Nodup → P[i]? = some x → vs[i]? = some v → kindOf x ≠ some .local →
    bindC kindOf (P.zip vs) m x = some v
  | [], _, _, _, _, h, _, _ => by simp at h
  | _ :: _, [], _, _, _, _, h, _ => by simp at h
  | p :: P, w :: vs, 0, m, nd, h1, h2, hk => by
    simp at h1 h2; subst h1; subst h2
    show bindC kindOf ((p, w) :: P.zip vs) m p = _
    unfold bindC
    rw [bindC_out fun v hv => (List.nodup_cons.mp nd).1 (List.of_mem_zip hv).1, if_neg hk]
    simp
  | p :: P, w :: vs, i + 1, m, nd, h1, h2, hk => by
    show bindC kindOf ((p, w) :: P.zip vs) m x = _
    unfold bindC
    exact bindC_get (i := i) (List.nodup_cons.mp nd).2 (by simpa using h1) (by simpa using h2) hk
noncomputable def start (N : List Str) (vs : List V) : St := vs.map some ++ List.replicate (N.length - vs.length) none
noncomputable def cxOf (CX : CXT) (P : Program) (w : World) (K : PySem.W.Frag) (mg : Str → Option Value) (base : Heap) (N : List Str) (qual : Str) (scope : Scope) (f : Addr) (cd : Value) (A : Around) (outer : List Env) (s : Shared) (H : Hp) (E : XK) : Cx where
  prog := P
  w := w
  K := K
  mg := mg
  base := base
  A := A.deeper (envOfC qual scope s.heap.objs.size f cd)
  N := N
  s₀ := s
  H₀ := H
  env := envOfC qual scope s.heap.objs.size f cd
  outer := outer
  stack := envOfC qual scope s.heap.objs.size f cd :: outer
  ex := []
  calm := true
  fn := fun _ => true
  pn := []
  xe := fun e s' => wpAny (model P w) (A.deeper (envOfC qual scope s.heap.objs.size f cd)) (leaving (envOfC qual scope s.heap.objs.size f cd) e) (fun _ s'' => CX outer H s E e s'') (fun e' s'' => CX outer H s E e' s'') s'
theorem cell_has {sc : Scope} {n : Nat} {x : Str} (h : sc.names.lookup x = some .cell) : ∃ c, (cellsFrom n sc.names []).lookup x = some c := by
  have q := PySem.W.cellsFrom_some sc.names n [] (.inl h)
  exact Option.isSome_iff_exists.mp q
theorem inv_start {CX : CXT} {P : Program} {w : World} {K : PySem.W.Frag} {mg : Str → Option Value} {base : Heap} {N ps : List Str} {qual : Str} {scope : Scope} {f : Addr} {cd : Value} {A : Around} {outer : List Env} {s s1 : Shared} {H : Hp} {E : XK} {us : List Value} {vs : List V}
    (S : FnScope N ps scope) (hd : A.handled = none) (e0 : Env0 P w K mg base A outer s H) (hl : vs.length = ps.length) (r : Vals vs us)
    (x : InCallC s s.heap.objs.size (bindL (envOfC qual scope s.heap.objs.size f cd).kindOf (ps.zip us) fun _ => none) (cellsFrom (s.heap.objs.size + 1) scope.names []) (bindC (envOfC qual scope s.heap.objs.size f cd).kindOf (ps.zip us) fun _ => none) s1) :
    Inv (cxOf CX P w K mg base N qual scope f cd A outer s H E) [] (start N vs) H s1 := by
  have hpl : ps.length ≤ N.length := by have := congrArg List.length S.pre; rw [List.length_take] at this; omega
  obtain ⟨h1, tk, rfl, hk⟩ := x.done
  have noA : ∀ b : Addr, b ∉ (cxOf CX P w K mg base N qual scope f cd A outer s H E).ex := fun b z => absurd (show b ∈ ([] : List Addr) from z) (by simp)
  refine ⟨⟨e0.mod, S.kind, rfl, rfl, Nat.le_refl _, fun y z c h1 h2 => ?_, fun y hy => ?_, fun y c _ h => ?_, fun _ => hd, Around.frames_deeper e0.frames, .inr ⟨rfl, rfl⟩, fun b z => absurd z (noA b), e0.bs, e0.bsz, fun b _ _ => noA b, fun b z => absurd z (noA b), e0.funs, e0.frf⟩,
    rfl, e0.bare, Un.kept hk, ⟨_, x.toInCall.ns, fun i y v h1 h2 h3 => ?_⟩, fun y c h => ⟨_, x.cell y c h⟩, e0.hok.fresh (Nat.le_refl _), fun y c h => ?_, fun p hp => absurd (show p ∈ ([] : List (Addr × Obj)) from hp) (by simp), e0.hok.kept hk, ?_⟩
  · exact name_of_addr x.apart (PySem.mem_of_lookup h1) (PySem.mem_of_lookup h2)
  · have hy : scope.names.lookup y = some .cell ∨ scope.names.lookup y = some .free := hy
    rcases hy with hy | hy
    · exact cell_has hy
    · exact absurd rfl (S.nofree _ (PySem.mem_of_lookup hy))
  · exact Nat.le_of_lt (x.above y c (PySem.mem_of_lookup h))
  · have hi : i < vs.length := by
      unfold start at h2
      by_cases hi : i < vs.length
      · exact hi
      · rw [List.getElem?_append_right (by simpa using hi)] at h2
        rw [List.getElem?_replicate] at h2
        split at h2 <;> cases h2
    have ha : vs[i]? = some v := by
      unfold start at h2
      rw [List.getElem?_append_left (by simpa using hi), List.getElem?_map] at h2
      cases e : vs[i]? with
      | none => rw [e] at h2; cases h2
      | some a => rw [e] at h2; cases h2; rfl
    obtain ⟨u, hu, rv⟩ := r.get ha
    have hp : ps[i]? = some y := by
      rw [← S.pre, List.getElem?_take_of_lt (by omega)]; exact h1
    have ndP : ps.Nodup := by rw [← S.pre]; exact S.nd.sublist (List.take_sublist _ _)
    refine ⟨u, rv, ?_⟩
    rcases S.par y (List.mem_of_getElem? hp) with k | k
    · exact .inl ⟨k, bindL_get ndP hp hu k⟩
    · obtain ⟨c, e⟩ := cell_has (n := s.heap.objs.size + 1) k
      refine .inr ⟨.inl k, c, e, ?_⟩
      have q := x.cell y c e
      rw [bindC_get ndP hp hu (by show scope.names.lookup y ≠ _; rw [k]; decide)] at q
      exact q
  · exact e0.hok.fresh (Nat.le_of_lt (x.above y c (PySem.mem_of_lookup h)))
  · unfold start
    show _ = N.length
    rw [List.length_append, List.length_map, List.length_replicate]
    omega
theorem fn_of {CX : CXT} {P : Program} {w : World} {K : PySem.W.Frag} {mg : Str → Option Value} {base : Heap} {k : Nat} {f : Addr} {name qual : Str} {params : Arguments} {body : List Stmt} {scope : Scope} {dV kV doc pm cdv ct oc : Value} {an od : Option Addr}
    {osl : Array (Option Value)} {N ps : List Str} {sp : Sp} (lk : K.lookup f = some ⟨oc, od, .func (PySem.W.fnOf name qual params body scope dV kV doc pm an cdv ct), osl⟩) (hcd : PySem.W.codeIn K cdv qual = true) (S : FnScope N ps scope)
    (len : ∀ vs H Q E, sp vs H Q E → vs.length = ps.length)
    (hbody : ∀ (A : Around) (outer : List Env) (s : Shared) (H : Hp) (vs : List V) (Q : VK) (E : XK), Room k (A.deeper (envOfC qual scope s.heap.objs.size f cdv)) → sp vs H Q E →
      ∃ t, PSs (cxOf CX P w K mg base N qual scope f cdv A outer s H E) body t ∧ t { nx := fun _ H' => Q .non H', rt := Q } (start N vs) H) :
    FnOk P w K mg base CX (k + 1) f (PySem.W.fnOf name qual params body scope dV kV doc pm an cdv ct) ps sp := by
  refine ⟨len, fun A outer s H args us vs Q E hr e0 hb r hsp => ?_⟩
  have hl := len _ _ _ _ hsp
  have KX : K.In s.heap := e0.mod.kin.keeps fun b o e => (e0.bs b o e).1
  have lim : s.heap.NoLimit := e0.mod.nolimit.keeps fun b o e => (e0.bs b o e).1
  have hkind : ∀ y ∈ ps.zip us, scope.names.lookup y.1 = some .local ∨ (scope.names.lookup y.1 = some .cell ∧ ((cellsFrom (s.heap.objs.size + 1) scope.names []).lookup y.1).isSome = true) := fun ⟨n, v⟩ hy => by
    rcases S.par n (List.of_mem_zip hy).1 with q | q
    · exact .inl q
    · exact .inr ⟨q, PySem.W.cellsFrom_some _ _ _ (.inl q)⟩
  refine codeAny_call_function hr.depth (KX _ _ lk) rfl S.co S.gen rfl (PySem.W.codeRec_of KX hcd) (hb _ _ _ _ ?_)
  refine wpAny_newFunctionEnv_cells S.kind hkind fun env he s1 x => ?_
  subst he
  refine ⟨lim.keeps x.toInCall.keep, codeAny_func ?_⟩
  obtain ⟨t, ht, hq⟩ := hbody A outer s H vs Q E (hr.deeper _) hsp
  have I : Inv (cxOf CX P w K mg base N qual scope f cdv A outer s H E) [] (start N vs) H s1 := inv_start S hr.hd e0 hl r x
  refine wpAny_mono (ht [] s1 (start N vs) H _ I hq) (fun fl s' hs => ?_) fun e s' hs => hs
  have fin : ∀ {σ' : St} {H' : Hp} {v : V} {u : Value}, Inv (cxOf CX P w K mg base N qual scope f cdv A outer s H E) [] σ' H' s' → RelV v u → Q v H' → CE outer P w H s Q u s' :=
    fun {σ' H' v u} J rv q => ⟨v, H', J.os, J.bare, J.base, J.hok, rv, q⟩
  cases fl with
  | ret u =>
    obtain ⟨v, σ', H', J, rv, q⟩ := hs
    exact fin J rv q
  | next =>
    obtain ⟨σ', H', J, q⟩ := hs
    exact fin (v := V.non) (u := Value.none) J rfl q
  | brk =>
    obtain ⟨_, _, _, q⟩ := hs
    exact False.elim q
  | cont =>
    obtain ⟨_, _, _, q⟩ := hs
    exact False.elim q
end L2

namespace L2
open PySem PySem.Spec PyProof.Rows
section
variable {X : Cx} {x : Str} {p pos : Pos} {e : Expr} {es : List Expr} {t : TA} {id T : String} {r : List V → Hp → VK → Prop}

noncomputable def tCB (r : List V → Hp → VK → Prop) (t : TA) : TE := fun σ H Q => t σ H fun vs H1 => r vs H1 Q
theorem pe_callB (hc : CallR X (.builtin id) r) (hg : Gl X x) (hm : X.mg x = none) (hv : bootBuiltins x = some (.builtin id)) (ha : PA X (e :: es) t) (hn : x ≠ "__name__" := by decide) (hdb : (x == ("__debug__" : Str)) = false := by decide)
    (he : starEach (e :: es) X.env = (false, eval e X.env) :: starEach es X.env := by rfl) (hpl : (backTo pos (starEach es X.env)).any (·.1) = false := by rfl) : PE X (.Call (.Name x p) (e :: es) [] pos) (tCB r t) := by
  intro pins s σ H Q I h
  refine wpAny_Call_Name_kw (ld_blt I hg hm hv ?_ hn hdb)
  exact PyProof.Rows.callWith_builtin1 (thn (ha pos pins s σ H _ I h) fun us s1 ⟨vs, H1, I1, r1, q1⟩ => hc pins s1 σ H1 vs us Q I1 r1 q1) he hpl
theorem pe_callTy (hc : CallR X (.type T) r) (hg : Gl X x) (hm : X.mg x = none) (hv : bootBuiltins x = some (.type T)) (ha : PA X (e :: es) t) (hn : x ≠ "__name__" := by decide) (hdb : (x == ("__debug__" : Str)) = false := by decide)
    (he : starEach (e :: es) X.env = (false, eval e X.env) :: starEach es X.env := by rfl) (hpl : (backTo pos (starEach es X.env)).any (·.1) = false := by rfl) : PE X (.Call (.Name x p) (e :: es) [] pos) (tCB r t) := by
  intro pins s σ H Q I h
  refine wpAny_Call_Name_kw (ld_blt I hg hm hv ?_ hn hdb)
  exact PyProof.Rows.callWith_type1 (thn (ha pos pins s σ H _ I h) fun us s1 ⟨vs, H1, I1, r1, q1⟩ => hc pins s1 σ H1 vs us Q I1 r1 q1) he hpl
end
end L2

namespace L2
open PySem PySem.Spec PyProof.Rows

section
variable {κ : Type} [DecidableEq κ]
noncomputable def valV (kvs : List (κ × V)) (k : κ) : Option V := (kvs.find? fun kv => decide (kv.1 = k)).map (·.2)
noncomputable def putK (kvs : List (κ × V)) (k : κ) (v : V) : List (κ × V) :=
  if (kvs.any fun kv => decide (kv.1 = k)) = true then kvs.map (fun kv => if kv.1 = k then (kv.1, v) else kv) else kvs ++ [(k, v)]
theorem valV_pos {p : κ × V} {r : List (κ × V)} {k : κ} (e : p.1 = k) : valV (p :: r) k = some p.2 := by simp [valV, List.find?_cons, e]
theorem valV_neg {p : κ × V} {r : List (κ × V)} {k : κ} (e : ¬ p.1 = k) : valV (p :: r) k = valV r k := by simp [valV, List.find?_cons, e]
theorem valV_any (k : κ) : ∀ kvs : List (κ × V), (kvs.any fun kv => decide (kv.1 = k)) = (valV kvs k).isSome
  | [] => rfl
  | p :: r => by
    rw [List.any_cons]
    by_cases e : p.1 = k
    · simp only [valV_pos e, decide_eq_true e, Bool.true_or, Option.isSome_some]
    · rw [valV_neg e, decide_eq_false e, Bool.false_or]; exact valV_any k r
theorem valV_snoc (k j : κ) (y : V) : ∀ kvs : List (κ × V), valV kvs k = none → valV (kvs ++ [(k, y)]) j = if j = k then some y else valV kvs j
  | [], _ => by
    by_cases e : k = j
    · rw [if_pos e.symm]; exact valV_pos (p := (k, y)) e
    · rw [if_neg (fun z => e z.symm)]; exact valV_neg (p := (k, y)) e
  | p :: r, hn => by
    rw [List.cons_append]
    have hk : ¬ p.1 = k := fun z => by rw [valV_pos z] at hn; cases hn
    rw [valV_neg hk] at hn
    have ih := valV_snoc k j y r hn
    by_cases e : p.1 = j
    · rw [valV_pos e, valV_pos e, if_neg (fun z => hk (e.trans z))]
    · rw [valV_neg e, valV_neg e, ih]
theorem length_putK (kvs : List (κ × V)) (k : κ) (v : V) : (putK kvs k v).length ≤ kvs.length + 1 := by
  unfold putK
  split
  · rw [List.length_map]; omega
  · rw [List.length_append, List.length_cons, List.length_nil]; omega
theorem putK_new {kvs : List (κ × V)} {k : κ} (v : V) (h : valV kvs k = none) : putK kvs k v = kvs ++ [(k, v)] := by
  unfold putK
  rw [valV_any, h]
  exact if_neg (by decide)
theorem RelO.isSome_eq {o : Option V} {u : Option Value} (r : RelO o u) : o.isSome = u.isSome := by
  cases o with
  | none => cases u with
    | none => rfl
    | some _ => exact (show False from r).elim
  | some _ => cases u with
    | none => exact (show False from r).elim
    | some _ => rfl
theorem KV.val {kvs : List (κ × V)} {vs : List (κ × Value)} (r : KV kvs vs) (k : κ) : RelO (valV kvs k) (valueAt vs k) := by
  unfold KV at r
  induction r with
  | nil => exact True.intro
  | @cons p q ps qs h t ih =>
    obtain ⟨h1, h2⟩ := h
    by_cases e : p.1 = k
    · have e' : q.1 = k := h1.symm.trans e
      have b : valueAt (q :: qs) k = some q.2 := by simp [valueAt, List.find?_cons, e']
      rw [valV_pos e, b]; exact h2
    · have e' : ¬ q.1 = k := fun z => e (h1.trans z)
      have b : valueAt (q :: qs) k = valueAt qs k := by simp [valueAt, List.find?_cons, e']
      rw [valV_neg e, b]; exact ih
theorem KV.any {kvs : List (κ × V)} {vs : List (κ × Value)} (r : KV kvs vs) (k : κ) : (kvs.any fun kv => decide (kv.1 = k)) = vs.any fun kv => decide (kv.1 = k) := by
  unfold KV at r
  induction r with
  | nil => rfl
  | cons h t ih => rw [List.any_cons, List.any_cons, ih, h.1]
theorem KV.repl {kvs : List (κ × V)} {vs : List (κ × Value)} (r : KV kvs vs) (k : κ) {y : V} {u : Value} (ry : RelV y u) :
    KV (kvs.map fun kv => if kv.1 = k then (kv.1, y) else kv) (vs.map fun kv => if kv.1 = k then (kv.1, u) else kv) := by
  unfold KV at r ⊢
  induction r with
  | nil => exact .nil
  | @cons p q ps qs h t ih =>
    rw [List.map_cons, List.map_cons]
    refine .cons ?_ ih
    obtain ⟨h1, h2⟩ := h
    by_cases e : p.1 = k
    · rw [if_pos e, if_pos (h1.symm.trans e)]; exact ⟨h1, ry⟩
    · rw [if_neg e, if_neg (fun z => e (h1.trans z))]; exact ⟨h1, h2⟩
theorem KV.put {kvs : List (κ × V)} {vs : List (κ × Value)} (r : KV kvs vs) (k : κ) {y : V} {u : Value} (ry : RelV y u) : KV (putK kvs k y) (stored vs k u) := by
  unfold putK stored
  rw [r.any k]
  by_cases e : (vs.any fun kv => decide (kv.1 = k)) = true
  · rw [if_pos e, if_pos e]; exact r.repl k ry
  · rw [if_neg e, if_neg e]; exact Paired.snoc r ⟨rfl, ry⟩
theorem KV.length {kvs : List (κ × V)} {vs : List (κ × Value)} (r : KV kvs vs) : kvs.length = vs.length := Paired.length r
end


theorem kV_is {P : Program} {w : World} {k : Key} {u : Value} (r : RelV (kV k) u) : (mixKind P w).is k u = true := by
  cases k with
  | inl i => obtain ⟨t, e⟩ := (show ∃ t, u = Value.int i t from r); subst e; exact mixKind_int P w i t
  | inr x => obtain ⟨t, e⟩ := (show ∃ t, u = Value.str x t from r); subst e; exact mixKind_str P w x t
theorem items_are {P : Program} {w : World} : ∀ {ks : List Key} {us : List Value}, Vals (ks.map kV) us → ItemsAre (mixKind P w) ks us
  | [], _, r => by rw [List.map_nil] at r; cases r; exact .nil
  | k :: ks, _, r => by
    rw [List.map_cons] at r
    cases r with
    | cons h t => exact .cons (kV_is h) (items_are t)
noncomputable abbrev KT (H : Hp) : List (List Key × V) → List (List Key × Addr × Value) → Prop := Paired fun p q => p.1 = q.1 ∧ H q.2.1 = some (.tup (p.1.map kV)) ∧ RelV p.2 q.2.2
theorem KT.val {H : Hp} {kvs : List (List Key × V)} {xs : List (List Key × Addr × Value)} (r : KT H kvs xs) (k : List Key) : RelO (valV kvs k) ((atKey xs k).map (·.2)) := by
  induction r with
  | nil => exact True.intro
  | @cons p q ps qs h t ih =>
    obtain ⟨h1, _, h2⟩ := h
    by_cases e : p.1 = k
    · have e' : q.1 = k := h1.symm.trans e
      have b : atKey (q :: qs) k = some q.2 := by simp [atKey, List.find?_cons, e']
      rw [valV_pos e, b]; exact h2
    · have e' : ¬ q.1 = k := fun z => e (h1.trans z)
      have b : atKey (q :: qs) k = atKey qs k := by simp [atKey, List.find?_cons, e']
      rw [valV_neg e, b]; exact ih
theorem KT.repl {H : Hp} {kvs : List (List Key × V)} {xs : List (List Key × Addr × Value)} (r : KT H kvs xs) (k : List Key) {y : V} {u : Value} (ry : RelV y u) :
    KT H (kvs.map fun kv => if kv.1 = k then (kv.1, y) else kv) (xs.map (putAt k u)) := by
  induction r with
  | nil => exact .nil
  | @cons p q ps qs h t ih =>
    rw [List.map_cons, List.map_cons]
    refine .cons ?_ ih
    obtain ⟨h1, h2, h3⟩ := h
    unfold putAt
    by_cases e : p.1 = k
    · rw [if_pos e, if_pos (h1.symm.trans e)]; exact ⟨h1, h2, ry⟩
    · rw [if_neg e, if_neg (fun z => e (h1.trans z))]; exact ⟨h1, h2, h3⟩
theorem KT.put {H : Hp} {kvs : List (List Key × V)} {xs : List (List Key × Addr × Value)} (r : KT H kvs xs) (k : List Key) {b : Addr} {y : V} {u : Value} (hb : H b = some (.tup (k.map kV))) (ry : RelV y u) :
    KT H (putK kvs k y) (storedH xs k b u) := by
  have e : (kvs.any fun kv => decide (kv.1 = k)) = (atKey xs k).isSome := by
    rw [valV_any, (r.val k).isSome_eq, Option.isSome_map]
  unfold putK storedH
  rw [e]
  by_cases q : (atKey xs k).isSome = true
  · rw [if_pos q, if_pos q]; exact r.repl k ry
  · rw [if_neg q, if_neg q]; exact Paired.snoc r ⟨rfl, hb, ry⟩
theorem KT.keeps {H H' : Hp} {kvs : List (List Key × V)} {xs : List (List Key × Addr × Value)} (r : KT H kvs xs) (ht : ∀ b ys, H b = some (.tup ys) → H' b = some (.tup ys)) : KT H' kvs xs :=
  Paired.mapP r fun _ _ z => ⟨z.1, ht _ _ z.2.1, z.2.2⟩
section
variable {P : Program} {w : World} {H : Hp} {h : Heap} {a : Addr}
theorem rd_of {u : HO} (ok : HOk P w H h) (e : Rd H a u) : ObjOk P w H h a u := e.ok ok
theorem dk_rd {kvs : List (Key × V)} (ok : HOk P w H h) (e : Rd H a (.dK kvs)) : kvs.length ≤ sizeLine ∧ (a == sysModules) = false ∧ ∃ vs, KV kvs vs ∧ h.DictOf (mixKind P w) a vs :=
  show ObjOk P w H h a (.dK kvs) from rd_of ok e
theorem dk_of {kvs : List (Key × V)} (ok : HOk P w H h) (e : H a = some (.dK kvs)) : kvs.length ≤ sizeLine ∧ (a == sysModules) = false ∧ ∃ vs, KV kvs vs ∧ h.DictOf (mixKind P w) a vs := dk_rd ok (.inl e)
theorem key_of {ks : List Key} (ok : HOk P w H h) (e : H a = some (.tup (ks.map kV))) : (tupleKind (mixKind P w)).is h ks a := by
  obtain ⟨_, its, r, o, h1, h2, n, h3⟩ := (show ObjOk P w H h a (.tup (ks.map kV)) from ok a _ e)
  exact ⟨o, its.toArray, n, h1, h2, h3, by simpa using items_are r⟩
theorem dt_rd {kvs : List (List Key × V)} (ok : HOk P w H h) (e : Rd H a (.dT kvs)) : kvs.length ≤ sizeLine ∧ (a == sysModules) = false ∧
    ∃ xs, KT H kvs xs ∧ h.DictOfH (tupleKind (mixKind P w)) a xs := by
  obtain ⟨z, y, xs, r, o, es, ep, h1, h2, h3, h4, h5⟩ := (show ObjOk P w H h a (.dT kvs) from rd_of ok e)
  refine ⟨z, y, xs, r, o, es, ep, h1, h2, h3, h4, fun x hx => ?_, h5⟩
  have all : ∀ {l : List (List Key × V)} {m : List (List Key × Addr × Value)}, KT H l m → ∀ x ∈ m, (tupleKind (mixKind P w)).is h x.1 x.2.1 := by
    intro l m q
    induction q with
    | nil => intro x hx; exact nomatch hx
    | @cons p q ps qs hq t ih =>
      intro x hx
      rcases List.mem_cons.mp hx with e | hx
      · subst e
        exact key_of ok (by rw [← hq.1]; exact hq.2.1)
      · exact ih x hx
  exact all r x hx
theorem dt_of {kvs : List (List Key × V)} (ok : HOk P w H h) (e : H a = some (.dT kvs)) : kvs.length ≤ sizeLine ∧ (a == sysModules) = false ∧
    ∃ xs, KT H kvs xs ∧ h.DictOfH (tupleKind (mixKind P w)) a xs := dt_rd ok (.inl e)
end

noncomputable def DGet (H : Hp) (a : Addr) (y : V) (r : Option V) : Prop :=
  (∃ kvs k, Rd H a (.dK kvs) ∧ y = kV k ∧ r = valV kvs k) ∨ ∃ kvs k b, Rd H a (.dT kvs) ∧ y = .ref b ∧ H b = some (.tup (k.map kV)) ∧ r = valV kvs k
noncomputable def DPut (H : Hp) (a : Addr) (y v : V) (H' : Hp) : Prop :=
  (∃ kvs k, H a = some (.dK kvs) ∧ y = kV k ∧ kvs.length < sizeLine ∧ H' = upd H a (.dK (putK kvs k v))) ∨
  ∃ kvs k b, H a = some (.dT kvs) ∧ y = .ref b ∧ H b = some (.tup (k.map kV)) ∧ kvs.length < sizeLine ∧ H' = upd H a (.dT (putK kvs k v))
theorem DGet.t {H : Hp} {a b : Addr} {kvs : List (List Key × V)} {k : List Key} (e : H a = some (.dT kvs)) (eb : H b = some (.tup (k.map kV))) : DGet H a (.ref b) (valV kvs k) := .inr ⟨kvs, k, b, .inl e, rfl, eb, rfl⟩
theorem DPut.t {H : Hp} {a b : Addr} {kvs : List (List Key × V)} {k : List Key} {v : V} (e : H a = some (.dT kvs)) (eb : H b = some (.tup (k.map kV))) (hl : kvs.length < sizeLine) :
    DPut H a (.ref b) v (upd H a (.dT (putK kvs k v))) := .inr ⟨kvs, k, b, e, rfl, eb, hl, rfl⟩
section
variable {X : Cx} {pins : List (Addr × Obj)} {σ : St} {H : Hp} {s : Shared} {a : Addr} {y v : V} {u r : Value} {o : Option V} {A : Around} {E : Value → Shared → Prop}

theorem Inv.big (I : Inv X pins σ H s) : sysModules < s.heap.objs.size := by
  have h : mainGlobals < s.heap.objs.size := (I.mod.glob.keeps I.bk).lt
  exact Nat.lt_trans (by decide) h
theorem d_getItem {Q : Value → Shared → Prop} (hu : A.units + 1 < cLine) (I : Inv X pins σ H s) (g : DGet H a y (some v)) (ry : RelV y u) (h : ∀ w' s', Inv X pins σ H s' → RelV v w' → Q w' s') :
    wpAny (model X.prog X.w) A (getItem (.ref a) u) Q E s := by
  rcases g with ⟨kvs, k, e, ey, l⟩ | ⟨kvs, k, b, e, ey, eb, l⟩
  · subst ey
    obtain ⟨z, hd, vs, rel, dd⟩ := dk_rd I.hok e
    obtain ⟨w', hw, rw'⟩ := RelO.some_of (v := v) (o := valueAt vs k) (by rw [l]; exact rel.val k)
    exact wpAny_getItem_of (kV_is ry) dd.mapOf hw (h w' _ (I.tok _) rw')
  · subst ey
    cases (show u = Value.ref b from ry)
    obtain ⟨z, hd, xs, rel, dd⟩ := dt_rd I.hok e
    obtain ⟨w', hw, rw'⟩ := RelO.some_of (v := v) (o := (atKey xs k).map (·.2)) (by rw [l]; exact rel.val k)
    obtain ⟨p, hp, hp2⟩ := Option.map_eq_some_iff.mp hw
    refine wpAny_getItem_heap (tupleKind_room_in1 hu) (key_of I.hok eb) dd hp ?_
    rw [hp2]
    exact h w' _ (I.tok _) rw'
theorem d_in {Q : Value → Shared → Prop} (hu : A.units + 1 < cLine) (I : Inv X pins σ H s) (g : DGet H a y o) (ry : RelV y u) (h : ∀ s', Inv X pins σ H s' → Q (.bool o.isSome) s') :
    wpAny (model X.prog X.w) A (compareOp .In u (.ref a)) Q E s := by
  rcases g with ⟨kvs, k, e, ey, l⟩ | ⟨kvs, k, b, e, ey, eb, l⟩
  · subst ey
    obtain ⟨z, hd, vs, rel, dd⟩ := dk_rd I.hok e
    refine wpAny_in_of (kV_is ry) hd dd.mapOf ?_
    rw [← (rel.val k).isSome_eq, ← l]
    exact h _ (I.tok _)
  · subst ey
    cases (show u = Value.ref b from ry)
    obtain ⟨z, hd, xs, rel, dd⟩ := dt_rd I.hok e
    refine wpAny_in_heap (tupleKind_room_in1 hu) (key_of I.hok eb) hd dd ?_
    have q := (rel.val k).isSome_eq
    rw [Option.isSome_map] at q
    rw [← q, ← l]
    exact h _ (I.tok _)
theorem d_notIn {Q : Value → Shared → Prop} (hu : A.units + 1 < cLine) (I : Inv X pins σ H s) (g : DGet H a y o) (ry : RelV y u) (h : ∀ s', Inv X pins σ H s' → Q (.bool (!o.isSome)) s') :
    wpAny (model X.prog X.w) A (compareOp .NotIn u (.ref a)) Q E s := by
  rcases g with ⟨kvs, k, e, ey, l⟩ | ⟨kvs, k, b, e, ey, eb, l⟩
  · subst ey
    obtain ⟨z, hd, vs, rel, dd⟩ := dk_rd I.hok e
    refine wpAny_notIn_of (kV_is ry) hd dd.mapOf ?_
    rw [← (rel.val k).isSome_eq, ← l]
    exact h _ (I.tok _)
  · subst ey
    cases (show u = Value.ref b from ry)
    obtain ⟨z, hd, xs, rel, dd⟩ := dt_rd I.hok e
    refine wpAny_notIn_heap (tupleKind_room_in1 hu) (key_of I.hok eb) hd dd ?_
    have q := (rel.val k).isSome_eq
    rw [Option.isSome_map] at q
    rw [← q, ← l]
    exact h _ (I.tok _)
theorem d_write {h' : Heap} {t' : Nat} {ob : HO} (I : Inv X pins σ H s) (mu : Mut (H a)) (hs : Heap.SameBut a s.heap h') (he : ∃ q, h'.get? a = some q) (new : ObjOk X.prog X.w (upd H a ob) h' a ob) :
    Inv X pins σ (upd H a ob) { s with heap := h', toks := t' } :=
  I.write (x := a) (e := a) mu (.inl rfl) (fun b q hb z => (hs.2 b hb).trans z) he new
theorem dk_new {P : Program} {w : World} {H' : Hp} {h' : Heap} {kvs : List (Key × V)} {vs : List (Key × Value)} (z : kvs.length ≤ sizeLine) (hd : (a == sysModules) = false) (rel : KV kvs vs) (dd : h'.DictOf (mixKind P w) a vs) :
    ObjOk P w H' h' a (.dK kvs) := ⟨z, hd, vs, rel, dd⟩
theorem d_setItem {H' : Hp} {Q : Unit → Shared → Prop} (hu : A.units + 1 < cLine) (I : Inv X pins σ H s) (g : DPut H a y v H') (ry : RelV y u) (rv : RelV v r) (h : ∀ s', Inv X pins σ H' s' → Q () s') :
    wpAny (model X.prog X.w) A (setItem (.ref a) u r) Q E s := by
  rcases g with ⟨kvs, k, e, ey, l, eH⟩ | ⟨kvs, k, b, e, ey, eb, l, eH⟩
  · subst ey eH
    obtain ⟨z, hd, vs, rel, dd⟩ := dk_of I.hok e
    have hz : vs.length ≤ sizeLine := by rw [← rel.length]; exact z
    have hl : (putK kvs k v).length ≤ sizeLine := by have := length_putK kvs k v; omega
    refine wpAny_setItem_pairs (hsz := hz) (kV_is ry) dd fun h' dd' hs => h _ ?_
    have he : ∃ q, h'.get? a = some q := let ⟨q, _, _, hq, _⟩ := dd'; ⟨q, hq⟩
    exact d_write I (by rw [e]; exact True.intro) hs he (dk_new hl hd (rel.put k rv) dd')
  · subst ey eH
    cases (show u = Value.ref b from ry)
    obtain ⟨z, hd, xs, rel, dd⟩ := dt_of I.hok e
    have hz : xs.length ≤ sizeLine := by rw [← Paired.length rel]; exact z
    have hl : (putK kvs k v).length ≤ sizeLine := by have := length_putK kvs k v; omega
    refine wpAny_setItem_heap (hsz := hz) (tupleKind_room_in1 hu) (key_of I.hok eb) dd fun h' dd' hs => h _ ?_
    obtain ⟨q, es, ep, hq, h2, h3, h4, _, h5⟩ := dd'
    refine d_write I (by rw [e]; exact True.intro) hs ⟨q, hq⟩ ⟨hl, hd, _, (rel.put k eb rv).keeps fun c ys ec => ?_, q, es, ep, hq, h2, h3, h4, h5⟩
    rw [upd_ne (ne_of ec e (fun z => nomatch z))]
    exact ec
end

section
variable {X : Cx} {pins : List (Addr × Obj)} {σ : St} {H : Hp} {s : Shared} {a : Addr} {kvs : List (Key × V)} {k : Key} {u : Value} {A : Around} {E : Value → Shared → Prop}
end


noncomputable def NoSl (i : Expr) : Prop := ∀ ov iv, subscripted i false ov iv = operate [ov, iv] (getItem ov iv)
theorem subD_of {prog : Program} {w : World} {A : Around} {E : Value → Shared → Prop} {s : Shared} {env : Env} {value slice : Expr} {pos : Pos} {T id : String} {Q : Value → Shared → Prop}
    (hl : typeLookup (.type T) "__getitem__" = pure (some (.builtin id))) (hs : NoSl slice)
    (h : wpAny (model prog w) A (eval value env) (fun o s₁ => wpAny (model prog w) A (eval slice env) (fun i s₂ => s₂.TypeIs o T ∧ wpAny (model prog w) A (getItem o i) Q E s₂) E s₁) E s) :
    wpAny (model prog w) A (eval (.Subscript value slice pos) env) Q E s := by
  refine Subscript_ (wpAny_mono h (fun o s₁ h₁ => wpAny_mono h₁ (fun i s₂ h₂ => ?_) fun _ _ x => x) fun _ _ x => x)
  obtain ⟨hT, h₂⟩ := h₂
  unfold subscriptTail
  refine wpAny_bind ?_
  rw [getitemInPython_of_ne hT.not_modules]
  refine wpAny_bind (wpAny_specialOf hT hl ?_)
  have fin : wpAny (model prog w) A (subscripted slice false o i) (fun r s₃ => wpAny (model prog w) A (letTemporaryGo value o r >>= fun _ => pure r) Q E s₃) E s₂ := by
    rw [hs o i]
    exact wpAny_operating (wpAny_mono h₂ (fun r s₃ h₃ => wpAny_bind (wpAny_letTemporaryGo (wpAny_pure h₃))) fun _ _ x => x)
  first
    | exact wpAny_pure (wpAny_bind fin)
    | exact wpAny_bind (wpAny_pure (wpAny_bind fin))
    | exact wpAny_bind fin
theorem dict_typeIs {X : Cx} {pins : List (Addr × Obj)} {σ : St} {H : Hp} {s : Shared} {a : Addr} {y : V} {o : Option V} (I : Inv X pins σ H s) (g : DGet H a y o) : s.TypeIs (.ref a) "dict" := by
  rcases g with ⟨kvs, k, e, _, _⟩ | ⟨kvs, k, b, e, _, _, _⟩
  · obtain ⟨_, _, vs, _, dd⟩ := dk_rd I.hok e
    exact dd.typeIs
  · obtain ⟨_, _, xs, _, dd⟩ := dt_rd I.hok e
    exact dd.typeIs
inductive xGet (x y : V) (H : Hp) (Q : VK) : Prop
  | mk (a : Addr) (v : V) (e : x = .ref a) (g : DGet H a y (some v)) (q : Q v H) : xGet x y H Q
inductive xIn (x y : V) (H : Hp) (Q : Option V → Prop) : Prop
  | mk (a : Addr) (o : Option V) (e : x = .ref a) (g : DGet H a y o) (q : Q o) : xIn x y H Q
inductive xPut (x y v : V) (H : Hp) (Q : Hp → Prop) : Prop
  | mk (a : Addr) (H4 : Hp) (e : x = .ref a) (g : DPut H a y v H4) (q : Q H4) : xPut x y v H Q
noncomputable def tDGet (td ty : TE) : TE := fun σ H Q => td σ H fun x H1 => ty σ H1 fun y H2 => xGet x y H2 Q
noncomputable def tDIn (ty td : TE) : TE := fun σ H Q => ty σ H fun y H1 => td σ H1 fun x H2 => xIn x y H2 fun o => Q (.bl o.isSome) H2
noncomputable def tDNotIn (ty td : TE) : TE := fun σ H Q => ty σ H fun y H1 => td σ H1 fun x H2 => xIn x y H2 fun o => Q (.bl (!o.isSome)) H2
noncomputable def sDPut (td ty tv : TE) : TS := fun D σ H => tv σ H fun v H1 => td σ H1 fun x H2 => ty σ H2 fun y H3 => xPut x y v H3 fun H4 => D.nx σ H4
section
variable {X : Cx} {o i e value : Expr} {pos pos' tpos : Pos} {td ty tv : TE}
theorem pe_dget (hu : X.A.units + 1 < cLine) (ho : PE X o td) (hi : PE X i ty) (hs : NoSl i) : PE X (.Subscript o i pos) (tDGet td ty) := by
  intro pins s σ H Q I h
  refine subD_of PySem.F.slot_dict_getitem.lookup hs (thn (ho pins s σ H _ I h) fun u s1 ⟨x, H1, I1, rx, q1⟩ => thn (hi pins s1 σ H1 _ I1 q1) fun iv s2 ⟨y, H2, I2, ry, a, v, ex, g, q2⟩ => ?_)
  subst ex
  obtain rfl : u = Value.ref a := rx
  exact ⟨dict_typeIs I2 g, d_getItem hu I2 g ry fun w' s3 I3 rw' => ⟨v, H2, I3, rw', q2⟩⟩
theorem pc_din (hu : X.A.units + 1 < cLine) (hi : PE X i ty) (ho : PE X o td) : PC X .In i o (tDIn ty td) := by
  intro pins s σ H Q I h
  refine thn (hi pins s σ H _ I h) fun iv s1 ⟨y, H1, I1, ry, q1⟩ => thn (ho pins s1 σ H1 _ I1 q1) fun u s2 ⟨x, H2, I2, rx, a, ov, ex, g, q2⟩ => ?_
  subst ex
  obtain rfl : u = Value.ref a := rx
  exact d_in hu I2 g ry fun s3 I3 => ⟨.bl ov.isSome, H2, I3, rfl, q2⟩
theorem pc_dnotin (hu : X.A.units + 1 < cLine) (hi : PE X i ty) (ho : PE X o td) : PC X .NotIn i o (tDNotIn ty td) := by
  intro pins s σ H Q I h
  refine thn (hi pins s σ H _ I h) fun iv s1 ⟨y, H1, I1, ry, q1⟩ => thn (ho pins s1 σ H1 _ I1 q1) fun u s2 ⟨x, H2, I2, rx, a, ov, ex, g, q2⟩ => ?_
  subst ex
  obtain rfl : u = Value.ref a := rx
  exact d_notIn hu I2 g ry fun s3 I3 => ⟨.bl (!ov.isSome), H2, I3, rfl, q2⟩
theorem ps_dput (hu : X.A.units + 1 < cLine) (ho : PE X o td) (hi : PE X i ty) (hv : PE X value tv) (hs : swapsWith value (some (.Subscript o i pos')) pos.line X.env = pure false) :
    PS X (.Assign [.Subscript o i pos'] value pos) (sDPut td ty tv) := by
  intro pins s σ H D I h
  refine wpAny_Assign_Subscript (thn (hv pins s σ H _ I h) fun r s1 ⟨v, H1, I1, rv, q1⟩ => thn (ho pins s1 σ H1 _ I1 q1) fun u s2 ⟨x, H2, I2, rx, q2⟩ => thn (hi pins s2 σ H2 _ I2 q2) fun iv s3 ⟨y, H3, I3, ry, a, H4, ex, g, q3⟩ => ?_) hs
  subst ex
  obtain rfl : u = Value.ref a := rx
  exact d_setItem hu I3 g ry rv fun s4 I4 => ⟨σ, H4, I4, q3⟩
end


theorem dt_empty {P : Program} {w : World} {H : Hp} (h : Heap) (hb : sysModules < h.objs.size) : ObjOk P w H (h.push { cls := .type "dict", data := .dict #[] }) h.objs.size (.dT []) :=
  ⟨Nat.zero_le _, beq_eq_false_iff_ne.mpr (Ne.symm (Nat.ne_of_lt hb)), [], .nil, _, #[], 0, Heap.get?_push_size _ rfl, ⟨rfl, rfl, rfl⟩, rfl, rfl, List.nodup_nil⟩
noncomputable def tDNewT : TE := fun _ H Q => ∀ p, H p = none → Q (.ref p) (upd H p (.dT []))
section
variable {X : Cx} {pos : Pos}
theorem pe_dnewT : PE X (.Dict [] [] pos) tDNewT := fun pins s σ H Q I h =>
  wpAny_Dict_empty ⟨.ref s.heap.objs.size, _, I.laid (a := s.heap.objs.size) (o := .dT []) (t' := s.toks) (fun _ _ q => Heap.get?_push_of_some _ q) (Nat.le_refl _) (dt_empty s.heap I.big), rfl, h _ (I.hok.fresh (Nat.le_refl _))⟩
end

section
variable {X : Cx} {pins : List (Addr × Obj)} {σ : St} {H : Hp} {s : Shared} {a : Addr} {y d : V} {u r : Value} {o : Option V} {A : Around} {E : Value → Shared → Prop}
end

section
variable {X : Cx} {o e f : Expr} {apos cpos : Pos} {td ty tx : TE}
end

section
variable {X : Cx} {pins : List (Addr × Obj)} {σ : St} {H : Hp} {s : Shared} {a : Addr} {kvs : List (Key × V)} {A : Around} {E : Value → Shared → Prop}
end


section
variable {X : Cx} {pins : List (Addr × Obj)} {σ : St} {H : Hp} {s : Shared} {a : Addr} {y : V} {u : Value} {A : Around} {E : Value → Shared → Prop}
end
end L2
namespace HT
open PySem PyProof.Rows

section
open PySem.SeqAt
open PySem.AutoSeq1 (wpAny_loadPart')
open PySem.MeetsSeq PySem.MeetsSeq2 PySem.MeetsSeq3

end

section
variable {prog : Program} {w : World} {A : Around} {E : Value → Shared → Prop} {s : Shared}

end
end HT

namespace L2
open PySem PySem.Spec PyProof.Rows

section
variable {X : Cx} {e : Expr} {te : TE} {lo hi : Option Expr} {tl th : TO} {pos p2 : Pos}

end
end L2

namespace L2
open PySem PySem.Spec PyProof.Rows

noncomputable def ixN (n : Nat) (i : Int) : Option Nat := if 0 ≤ i then (if i < n then some i.toNat else none) else if -(n : Int) ≤ i then some (i + n).toNat else none
noncomputable def atI {α : Type} (xs : List α) (i : Int) : Option α := (ixN xs.length i).bind fun j => xs[j]?
theorem ixN_seq {n : Nat} {i : Int} {j : Nat} (h : ixN n i = some j) : seqIndex? i n = some j ∧ j < n ∧ -(n : Int) ≤ i ∧ i < n := by
  unfold ixN at h
  by_cases h0 : 0 ≤ i
  · rw [if_pos h0] at h
    by_cases h1 : i < n
    · rw [if_pos h1] at h
      have e : i.toNat = j := Option.some.inj h
      exact ⟨by rw [seqIndex_of h0 h1, e], by omega, by omega, h1⟩
    · rw [if_neg h1] at h; cases h
  · rw [if_neg h0] at h
    by_cases h1 : -(n : Int) ≤ i
    · rw [if_pos h1] at h
      have e : (i + n).toNat = j := Option.some.inj h
      exact ⟨by rw [seqIndex_neg (by omega) h1, e], by omega, h1, by omega⟩
    · rw [if_neg h1] at h; cases h
theorem atI_get {α : Type} {xs : List α} {i : Int} {v : α} (h : atI xs i = some v) : ∃ j, seqIndex? i xs.length = some j ∧ xs[j]? = some v ∧ j < xs.length ∧ -(xs.length : Int) ≤ i ∧ i < xs.length := by
  unfold atI at h
  cases e : ixN xs.length i with
  | none => rw [e] at h; cases h
  | some j =>
    rw [e] at h
    obtain ⟨h1, h2, h3, h4⟩ := ixN_seq e
    exact ⟨j, h1, h, h2, h3, h4⟩
theorem atI_nat {α : Type} {xs : List α} {j : Nat} {v : α} (h : xs[j]? = some v) : atI xs (j : Int) = some v := by
  have hj : j < xs.length := (List.getElem?_eq_some_iff.mp h).1
  have e : ixN xs.length (j : Int) = some j := by
    unfold ixN
    rw [if_pos (by omega), if_pos (by omega)]; simp
  unfold atI; rw [e]; exact h
theorem atI_last {α : Type} (xs : List α) (v : α) : atI (xs ++ [v]) (-1) = some v := by
  have hl : (xs ++ [v]).length = xs.length + 1 := by simp
  have e : ixN (xs ++ [v]).length (-1) = some xs.length := by
    unfold ixN
    rw [hl, if_neg (by decide), if_pos (by omega)]
    congr 1
    omega
  unfold atI
  rw [e]
  show (xs ++ [v])[xs.length]? = some v
  simp
noncomputable def PlainIx (b : Expr) : Prop := ∀ o i, subscripted b false o i = operate [o, i] (getItem o i)
noncomputable def IxR (X : Cx) (r : R2) : Prop :=
  ∀ (value slice : Expr) (pins : List (Addr × Obj)) (s : Shared) (σ : St) (H : Hp) (x y : V) (v u : Value) (Q : VK), Inv X pins σ H s → RelV x v → RelV y u → r x y H Q →
    subscripted slice false v u = operate [v, u] (getItem v u) → wpAny (model X.prog X.w) X.A (subscriptTail value slice v u) (EP X pins σ Q) X.xe s
noncomputable def MtR (X : Cx) (id : String) (r : V → List V → Hp → VK → Prop) : Prop :=
  ∀ (pins : List (Addr × Obj)) (s : Shared) (σ : St) (H : Hp) (x : V) (xs : List V) (v : Value) (us : List Value) (Q : VK), Inv X pins σ H s → RelV x v → Vals xs us → r x xs H Q →
    wpAny (model X.prog X.w) X.A (call (.builtin id) (v :: us)) (EP X pins σ Q) X.xe s
section
variable {X : Cx} {a b : Expr} {ta tb : TE} {pos : Pos}
theorem pe_ix {r : R2} (hr : IxR X r) (ha : PE X a ta) (hb : PE X b tb) (hs : PlainIx b) : PE X (.Subscript a b pos) (tOp r ta tb) := by
  intro pins s σ H Q I h
  exact Subscript_ (binT ha hb I h fun v u s2 x y H2 I2 rx ry q => hr a b pins s2 σ H2 x y v u Q I2 rx ry q (hs _ _))
inductive rIxL (K : PySem.W.Frag) (x y : V) (H : Hp) (Q : VK) : Prop
  | mk (p : Addr) (xs : List V) (i : Int) (v : V) (e : x = .ref p) (f : y = .int i) (s : SqL K H p xs) (g : atI xs i = some v) (q : Q v H) : rIxL K x y H Q
inductive rIxT (K : PySem.W.Frag) (x y : V) (H : Hp) (Q : VK) : Prop
  | mk (p : Addr) (xs : List V) (i : Int) (v : V) (e : x = .ref p) (f : y = .int i) (s : SqT K H p xs) (g : atI xs i = some v) (q : Q v H) : rIxT K x y H Q
theorem ix_list : IxR X (rIxL X.K) := by
  intro value slice pins s σ H x y v u Q I rx ry h hs
  obtain ⟨p, xs, i, z, rfl, rfl, hq, he, q⟩ := h
  cases rx
  obtain ⟨t, rfl⟩ := ry
  obtain ⟨its, r, pl, hz⟩ := I.list hq
  obtain ⟨j, h1, h2, h3, h4, h5⟩ := atI_get he
  obtain ⟨w, ew, rw'⟩ := r.get h2
  have hl := r.length
  have hn := line63
  have fin : EP X pins σ Q w s := ⟨z, H, I, rw', q⟩
  by_cases h0 : 0 ≤ i
  · have hj : i.toNat = j := by
      rw [seqIndex_of h0 h5] at h1
      exact Option.some.inj h1
    exact item_listR pl.isList h0 (by omega) (by rw [hj]; simpa using ew) fin hs
  · have hj : (i + (its.toArray.size : Int)).toNat = j := by
      rw [seqIndex_neg (by omega) h4] at h1
      rw [List.size_toArray, ← hl]
      exact Option.some.inj h1
    exact subscriptTail_builtinR (x := w) pl.isList.typeIs slot_list_getitem.lookup
      (wpAny_getItem_list_neg (Q := fun r s' => r = w ∧ EP X pins σ Q r s') pl.isList (by omega) (by rw [List.size_toArray] <;> omega) (by omega) (by rw [hj]; simpa using ew) ⟨rfl, fin⟩) hs
theorem ix_tup : IxR X (rIxT X.K) := by
  intro value slice pins s σ H x y v u Q I rx ry h hs
  obtain ⟨p, xs, i, z, rfl, rfl, hq, he, q⟩ := h
  cases rx
  obtain ⟨t, rfl⟩ := ry
  obtain ⟨its, r, pl, hz⟩ := I.tuple hq
  obtain ⟨j, h1, h2, h3, h4, h5⟩ := atI_get he
  obtain ⟨w, ew, rw'⟩ := r.get h2
  have hl := r.length
  have hn := line63
  have fin : EP X pins σ Q w s := ⟨z, H, I, rw', q⟩
  exact subscriptTail_builtinR (x := w) pl.typeIs slot_tuple_getitem.lookup
    (getItem_tuple (j := j) (Q := fun r s' => r = w ∧ EP X pins σ Q r s') pl (by omega) (by omega) (by rw [List.size_toArray, ← hl]; exact h1) (by simpa using ew) ⟨rfl, fin⟩) hs
theorem call_len_seq : CallR X (.builtin "len") (fun xs H Q => ∃ p ys, xs = [.ref p] ∧ (SqL X.K H p ys ∨ SqT X.K H p ys) ∧ Q (.int ys.length) H) := by
  intro pins s σ H xs us Q I r h
  obtain ⟨p, ys, rfl, hq, q⟩ := h
  obtain ⟨u, rfl, rx⟩ := vals1 r
  cases rx
  have hn := line63
  rcases hq with hq | hq
  · obtain ⟨its, r', pl, hz⟩ := I.list hq
    have hlen := r'.length
    exact Calls.call_len_list pl.isList (by simp only [List.size_toArray] <;> omega) ⟨.int ys.length, H, I.tok _, ⟨s.toks + 1, by rw [List.size_toArray, hlen]⟩, q⟩
  · obtain ⟨its, r', pl, hz⟩ := I.tuple hq
    have hlen := r'.length
    exact len_tuple pl (by simp only [List.size_toArray] <;> omega) ⟨.int ys.length, H, I.tok _, ⟨s.toks + 1, by rw [List.size_toArray, hlen]⟩, q⟩
theorem call_list_of : CallR X (.type "list") (fun xs H Q => ∃ p ys, xs = [.ref p] ∧ (SqL X.K H p ys ∨ SqT X.K H p ys) ∧ ∀ l, H l = none → Q (.ref l) (upd H l (.lst ys))) := by
  intro pins s σ H xs us Q I r h
  obtain ⟨p, ys, rfl, hq, q⟩ := h
  obtain ⟨u, rfl, rx⟩ := vals1 r
  cases rx
  have fin : ∀ (its : List Value), Vals ys its → ys.length ≤ sizeLine → ∀ (h' : Heap) (c' : Nat), (∀ b o', s.heap.get? b = some o' → h'.get? b = some o') →
      h'.get? s.heap.objs.size = some { cls := .type "list", dict := none, data := .seq its.toArray c', slots := #[] } → EP X pins σ Q (.ref s.heap.objs.size) { s with heap := h' } := fun its r' hz h' c' kp e =>
    ⟨.ref s.heap.objs.size, _, I.laid (t' := s.toks) kp (Nat.le_refl _) (show ObjOk X.prog X.w _ h' _ (.lst ys) from ⟨hz, its, c', r', e⟩), rfl, q _ (I.hok.fresh (Nat.le_refl _))⟩
  rcases hq with hq | hq
  · obtain ⟨its, r', pl, hz⟩ := I.list hq
    have hlen := r'.length
    obtain ⟨o, ho, hc, n, hd⟩ := pl.isList
    exact call_list_seq p (.inl rfl) ho hc hd (fun h' c' kp e => fin its r' hz h' c' kp e) (by simp only [List.size_toArray] <;> omega)
  · obtain ⟨its, r', pl, hz⟩ := I.tuple hq
    have hlen := r'.length
    obtain ⟨o, ho, hc, n, hd⟩ := pl
    exact call_list_seq p (.inr rfl) ho hc hd (fun h' c' kp e => fin its r' hz h' c' kp e) (by simp only [List.size_toArray] <;> omega)
noncomputable def tyV (K : PySem.W.Frag) (T : String) (x : V) (H : Hp) : Prop := match x with
  | .str _ => T = "str"
  | .int _ => T = "int"
  | .ref p => (T = "list" ∧ ∃ xs, SqL K H p xs) ∨ (T = "tuple" ∧ ∃ o, K.lookup p = some o ∧ o.cls = .type "tuple" ∧ o.dict = none) ∨
      (T = "dict" ∧ ((∃ kvs, H p = some (.dK kvs)) ∨ ∃ kvs, H p = some (.dT kvs))) ∨ (T = "set" ∧ ∃ S n, H p = some (.set S n))
  | _ => False
theorem tyV_is {pins : List (Addr × Obj)} {σ : St} {H : Hp} {s : Shared} {T : String} {x : V} {v : Value} (I : Inv X pins σ H s) (r : RelV x v) (ty : tyV X.K T x H) :
    s.TypeIs v T ∧ ∀ a, v = .ref a → ∃ ob, s.heap.get? a = some ob ∧ ob.dict = none := by
  cases x with
  | str z =>
    obtain ⟨t, rfl⟩ := r
    cases (show T = "str" from ty)
    exact ⟨typeIs_str s z t, fun _ e => nomatch e⟩
  | int i =>
    obtain ⟨t, rfl⟩ := r
    cases (show T = "int" from ty)
    exact ⟨typeIs_int s i t, fun _ e => nomatch e⟩
  | ref p =>
    cases r
    rcases ty with ⟨rfl, xs, hq⟩ | ⟨rfl, o, hk, hc, hd⟩ | ⟨rfl, hk⟩ | ⟨rfl, S, n, hk⟩
    · obtain ⟨its, _, pl, _⟩ := I.list hq
      refine ⟨pl.isList.typeIs, fun a e => ?_⟩
      cases e
      obtain ⟨o, n, e, c, hd, _⟩ := pl
      exact ⟨o, e, hd⟩
    · refine ⟨⟨o, I.kIn p o hk, hc⟩, fun a e => ?_⟩
      cases e
      exact ⟨o, I.kIn _ o hk, hd⟩
    · have z : ∃ o, s.heap.get? p = some o ∧ o.ExactDict := by
        rcases hk with ⟨kvs, hk⟩ | ⟨kvs, hk⟩
        · obtain ⟨_, _, _, _, o, _, _, e, ex, _⟩ := I.hok p _ hk
          exact ⟨o, e, ex⟩
        · obtain ⟨_, _, _, _, o, _, _, e, ex, _⟩ := I.hok p _ hk
          exact ⟨o, e, ex⟩
      obtain ⟨o, e, ex⟩ := z
      refine ⟨⟨o, e, ex.1⟩, fun a e2 => ?_⟩
      cases e2
      exact ⟨o, e, ex.2.1⟩
    · obtain ⟨o, _, _, _, e, ex, _⟩ := I.hok p _ hk
      refine ⟨⟨o, e, ex.1⟩, fun a e2 => ?_⟩
      cases e2
      exact ⟨o, e, ex.2.1⟩
  | _ => exact False.elim ty
noncomputable def tBM0 (K : PySem.W.Frag) (T : String) (r : V → List V → Hp → VK → Prop) (to : TE) : TE := fun σ H Q => to σ H fun x H1 => tyV K T x H1 ∧ r x [] H1 Q
noncomputable def tBM (K : PySem.W.Frag) (T : String) (r : V → List V → Hp → VK → Prop) (to : TE) (t : TA) : TE := fun σ H Q => to σ H fun x H1 => tyV K T x H1 ∧ t σ H1 fun xs H2 => r x xs H2 Q
variable {o e : Expr} {es : List Expr} {to : TE} {t : TA} {name : Str} {apos cpos : Pos} {T id : String} {r : V → List V → Hp → VK → Prop}
theorem pe_bm0 (pa : PlainAttrs T) (slot : Slot T name id) (hty : typeOf (.builtin id) = pure (.type "method_descriptor")) (hm : MtR X id r) (ho : PE X o to)
    (hbase : attributeBase o name X.env (eval o X.env) = eval o X.env := by rfl) (hline : (apos.endLine == cpos.line) = true := by rfl) : PE X (.Call (.Attribute o name apos) [] [] cpos) (tBM0 X.K T r to) := by
  intro pins s σ H Q I h
  refine wpAny_Call_method0_late hbase hline (thn (ho pins s σ H _ I h) fun v s1 zq => ?_)
  obtain ⟨x, H1, I1, r1, ty, q1⟩ := zq
  obtain ⟨h1, h2⟩ := tyV_is I1 r1 ty
  exact ⟨T, id, pa, slot, hty, h1, h2, Calls.callWith_builtin rfl (PySem.evalArgs_none (hm pins s1 σ H1 x [] v [] Q I1 r1 .nil q1))⟩
theorem pe_bm (pa : PlainAttrs T) (slot : Slot T name id) (hty : typeOf (.builtin id) = pure (.type "method_descriptor")) (hm : MtR X id r) (ho : PE X o to) (ha : PA X (e :: es) t)
    (hbase : attributeBase o name X.env (eval o X.env) = eval o X.env := by rfl)
    (hfew : ((backTo cpos (starEach (e :: es) X.env)).all (fun x => !x.1) && (backToKw cpos (keywordEach [] X.env)).all (fun x => x.1.isSome)
      && decide ((e :: es).length + ([] : List Keyword).length + (if ([] : List Keyword).isEmpty then 0 else 1) < 30)) = true := by rfl)
    (hline : (apos.endLine == cpos.line) = true := by rfl) (hs : starEach (e :: es) X.env = (false, eval e X.env) :: starEach es X.env := by rfl) (hplain : (backTo cpos (starEach es X.env)).any (·.1) = false := by rfl) :
    PE X (.Call (.Attribute o name apos) (e :: es) [] cpos) (tBM X.K T r to t) := by
  intro pins s σ H Q I h
  refine wpAny_Call_method_late hbase hfew hline rfl (thn (ho pins s σ H _ I h) fun v s1 zq => ?_)
  obtain ⟨x, H1, I1, r1, ty, q1⟩ := zq
  obtain ⟨h1, h2⟩ := tyV_is I1 r1 ty
  refine ⟨T, id, pa, slot, hty, h1, h2, ?_⟩
  have hA := ha cpos pins s1 σ H1 _ I1 q1
  rw [hs] at hA ⊢
  refine Calls.callWith_builtin (by show (false || (backTo cpos (starEach es X.env)).any (·.1)) = false; rw [hplain] <;> rfl) (Calls.evalArgs_plain ?_)
  exact thn hA fun us s2 ⟨vs, H2, I2, r2, q2⟩ => hm pins s2 σ H2 x vs v us Q I2 r1 r2 q2
end
end L2

namespace L2
open PySem PySem.Spec PyProof.Rows

noncomputable def MtM (X : Cx) (id : String) (r : V → List V → Hp → VK → Prop) : Prop :=
  ∀ (pins : List (Addr × Obj)) (s : Shared) (σ : St) (H : Hp) (x : V) (xs : List V) (v : Value) (us : List Value) (Q : VK), Inv X pins σ H s → RelV x v → Vals xs us → r x xs H Q →
    wpAny (model X.prog X.w) X.A (call (.builtin id) (v :: us)) (EP X pins σ Q) X.xe s
theorem Vals.one : ∀ {x : V} {us : List Value}, Vals [x] us → ∃ u, us = [u] ∧ RelV x u
  | _, _, .cons r .nil => ⟨_, rfl, r⟩
theorem Vals.zero : ∀ {us : List Value}, Vals [] us → us = []
  | _, .nil => rfl
theorem Vals.dropLast {xs : List V} {us : List Value} (h : Vals xs us) : Vals xs.dropLast us.dropLast := by
  induction h with
  | nil => exact .nil
  | cons r t ih =>
    cases t with
    | nil => exact .nil
    | cons q t' => exact .cons r ih
theorem Vals.eraseIdx : ∀ {xs : List V} {us : List Value} (i : Nat), Vals xs us → Vals (xs.eraseIdx i) (us.eraseIdx i)
  | _, _, _, .nil => .nil
  | _, _, 0, .cons _ t => t
  | _, _, i + 1, .cons r t => .cons r (Vals.eraseIdx i t)
theorem Vals.reverse {xs : List V} {us : List Value} (h : Vals xs us) : Vals xs.reverse us.reverse := by
  induction h with
  | nil => exact .nil
  | cons r t ih => rw [List.reverse_cons, List.reverse_cons]; exact Vals.append ih (.cons r .nil)
theorem erase_last {α : Type} (l : List α) : l.eraseIdx (l.length - 1) = l.dropLast := by
  induction l with
  | nil => rfl
  | cons a r ih =>
    cases r with
    | nil => rfl
    | cons b r =>
      have e : (a :: b :: r).length - 1 = ((b :: r).length - 1) + 1 := by
        have h1 : (a :: b :: r).length = r.length + 2 := rfl
        have h2 : (b :: r).length = r.length + 1 := rfl
        omega
      rw [e, List.eraseIdx_cons_succ, ih]
      all_goals rfl
theorem len_erase {α : Type} : ∀ (l : List α) (i : Nat), (l.eraseIdx i).length ≤ l.length
  | [], _ => Nat.le_refl _
  | _ :: _, 0 => Nat.le_succ _
  | _ :: r, i + 1 => Nat.succ_le_succ (len_erase r i)
section
variable {X : Cx} {pins : List (Addr × Obj)} {σ : St} {H : Hp} {s : Shared} {l b : Addr} {xs ys zs : List V}

theorem Inv.lset {its its' : List Value} {n : Nat} {f : Array Value → Array Value} {t' : Nat} (I : Inv X pins σ H s) (hH : H l = some (.lst xs))
    (e : s.heap.get? l = some { cls := .type "list", data := .seq its.toArray n }) (hf : f its.toArray = its'.toArray) (hv : Vals ys its') (hz : ys.length ≤ sizeLine) :
    Inv X pins σ (upd H l (.lst ys)) { s with heap := s.heap.update l (Obj.mapSeq f), toks := t' } := by
  have q := PySem.IsL.update e f
  rw [hf] at q
  refine I.write (x := l) (e := l) (by rw [hH]; exact trivial) (.inl rfl) (fun b' u hb hu => (Heap.get?_update_other s.heap (Obj.mapSeq f) (Ne.symm hb)).trans hu) ⟨_, q⟩ ?_
  exact ⟨hz, its', _, hv, q⟩
theorem Inv.lnew {its : List Value} {t' : Nat} (I : Inv X pins σ H s) (hv : Vals ys its) (hz : ys.length ≤ sizeLine) :
    Inv X pins σ (upd H s.heap.objs.size (.lst ys)) { s with heap := s.heap.push { cls := .type "list", data := .seq its.toArray }, toks := t' } :=
  I.laid (fun _ _ q => Heap.get?_push_of_some _ q) (Nat.le_refl _) ⟨hz, its, 0, hv, Heap.get?_push_size _ rfl⟩
theorem Inv.lstM (I : Inv X pins σ H s) (hH : H l = some (.lst xs)) : xs.length ≤ sizeLine ∧ ∃ (its : List Value) (n : Nat), Vals xs its ∧ xs.length = its.length ∧ s.heap.get? l = some { cls := .type "list", data := .seq its.toArray n } := by
  obtain ⟨z, its, n, r, e⟩ := I.hok l _ hH
  exact ⟨z, its, n, r, r.length, e⟩
end

section
variable {X : Cx}

inductive rAppend (x : V) (vs : List V) (H : Hp) (Q : VK) : Prop
  | mk (l : Addr) (xs : List V) (y : V) (e : x = .ref l) (f : vs = [y]) (g : H l = some (.lst xs)) (s : xs.length < sizeLine) (q : Q .non (upd H l (.lst (xs ++ [y])))) : rAppend x vs H Q
theorem mt_append : MtM X "list.append" rAppend := by
  intro pins s σ H x vs v us Q I rx rv h
  obtain ⟨l, xs, y, rfl, rfl, hH, hz, q⟩ := h
  cases rx
  obtain ⟨u, rfl, ru⟩ := rv.one
  obtain ⟨z, its, n, r, hl, e⟩ := I.lstM hH
  refine call_meets F.slot_list_append ⟨_, e, rfl⟩ F.entry_list_append (F.args_list_append_2 _ _) (PySem.list_append l its.toArray n u (by rw [List.size_toArray]; omega)) ⟨e, ?_⟩
  refine ⟨.non, _, I.lset (its' := its ++ [u]) hH e (by simp) (r.append (.cons ru .nil)) ?_, rfl, q⟩
  rw [List.length_append, List.length_singleton]
  omega
noncomputable def rPop : V → List V → Hp → VK → Prop := fun x vs H Q => ∃ l xs y, x = .ref l ∧ vs = [] ∧ H l = some (.lst xs) ∧ xs[xs.length - 1]? = some y ∧ Q y (upd H l (.lst xs.dropLast))
theorem mt_pop : MtM X "list.pop" rPop := by
  intro pins s σ H x vs v us Q I rx rv h
  obtain ⟨l, xs, y, rfl, rfl, hH, hy, q⟩ := h
  cases rx
  have hus := rv.zero
  subst hus
  obtain ⟨z, its, n, r, hl, e⟩ := I.lstM hH
  obtain ⟨u, hu, ru⟩ := r.get hy
  have hy' : its.toArray[its.toArray.size - 1]? = some u := by
    show its.toArray[its.length - 1]? = some u
    rw [← Array.getElem?_toList, ← hl]
    exact hu
  refine call_meets F.slot_list_pop ⟨_, e, rfl⟩ F.entry_list_pop (F.args_list_pop_1 _) (MeetsSeq.list_pop_last l its.toArray n u hy' (by rw [List.size_toArray]; omega)) ⟨e, ?_⟩
  refine ⟨y, _, I.lset (its' := its.dropLast) hH e ?_ r.dropLast ?_, ru, q⟩
  · show its.toArray.eraseIdxIfInBounds (its.toArray.size - 1) = its.dropLast.toArray
    rw [List.size_toArray, List.eraseIdxIfInBounds_toArray, erase_last]
  · rw [List.length_dropLast]
    omega
noncomputable def rPopAt : V → List V → Hp → VK → Prop := fun x vs H Q => ∃ l xs i k y, x = .ref l ∧ vs = [.int i] ∧ H l = some (.lst xs) ∧ -(2 ^ 63) ≤ i ∧ i < 2 ^ 63 ∧ seqIndex? i xs.length = some k ∧ xs[k]? = some y ∧ Q y (upd H l (.lst (xs.eraseIdx k)))
theorem mt_popAt : MtM X "list.pop" rPopAt := by
  intro pins s σ H x vs v us Q I rx rv h
  obtain ⟨l, xs, i, k, y, rfl, rfl, hH, h1, h2, hk, hy, q⟩ := h
  cases rx
  obtain ⟨u, rfl, ru⟩ := rv.one
  obtain ⟨t, rfl⟩ := ru
  obtain ⟨z, its, n, r, hl, e⟩ := I.lstM hH
  obtain ⟨w, hw, rw'⟩ := r.get hy
  refine call_meets F.slot_list_pop ⟨_, e, rfl⟩ F.entry_list_pop (F.args_list_pop_2 _ _)
    (MeetsSeq.list_pop_at l its.toArray n i t k w (fitsIndex_both h1 h2) (by rw [List.size_toArray, ← hl]; exact hk) (by rw [← Array.getElem?_toList]; exact hw) (by rw [List.size_toArray]; omega)) ⟨e, ?_⟩
  refine ⟨y, _, I.lset (its' := its.eraseIdx k) hH e ?_ (r.eraseIdx k) ?_, rw', q⟩
  · show its.toArray.eraseIdxIfInBounds k = (its.eraseIdx k).toArray
    rw [List.eraseIdxIfInBounds_toArray]
  · have := len_erase xs k
    omega
noncomputable def rReverse : V → List V → Hp → VK → Prop := fun x vs H Q => ∃ l xs, x = .ref l ∧ vs = [] ∧ H l = some (.lst xs) ∧ Q .non (upd H l (.lst xs.reverse))
theorem mt_reverse : MtM X "list.reverse" rReverse := by
  intro pins s σ H x vs v us Q I rx rv h
  obtain ⟨l, xs, rfl, rfl, hH, q⟩ := h
  cases rx
  have hus := rv.zero
  subst hus
  obtain ⟨z, its, n, r, hl, e⟩ := I.lstM hH
  refine call_meets F.slot_list_reverse ⟨_, e, rfl⟩ F.entry_list_reverse (F.args_list_reverse_1 _) (AutoSeq1.list_reverse_list_0 l its.toArray n (by rw [List.size_toArray]; omega)) ⟨e, ?_⟩
  refine ⟨.non, _, I.lset (its' := its.reverse) hH e (by simp) r.reverse ?_, rfl, q⟩
  rw [List.length_reverse]
  omega
noncomputable def rClear : V → List V → Hp → VK → Prop := fun x vs H Q => ∃ l xs, x = .ref l ∧ vs = [] ∧ H l = some (.lst xs) ∧ Q .non (upd H l (.lst []))
theorem mt_clear : MtM X "list.clear" rClear := by
  intro pins s σ H x vs v us Q I rx rv h
  obtain ⟨l, xs, rfl, rfl, hH, q⟩ := h
  cases rx
  have hus := rv.zero
  subst hus
  obtain ⟨z, its, n, r, hl, e⟩ := I.lstM hH
  refine call_meets F.slot_list_clear ⟨_, e, rfl⟩ F.entry_list_clear (F.args_list_clear_1 _) (AutoSeq1.list_clear_list_0 l its.toArray n (by rw [List.size_toArray]; omega)) ⟨e, ?_⟩
  exact ⟨.non, _, I.lset (its' := []) (ys := []) hH e rfl .nil (Nat.zero_le _), rfl, q⟩
end

section
variable {prog : Program} {w : World} {A : Around} {E : Value → Shared → Prop} {s : Shared}
end

section
variable {X : Cx}
end
end L2
namespace Att
open PySem PySem.W PySem.Calls PyProof.Rows

theorem ints_of_wellAll {P : Params} {h : Heap} : ∀ (ns : List Int) (vs : List Value), WellAll P h vs (ns.map WData.int) → IntsAre vs ns := by
  intro ns
  induction ns with
  | nil =>
    intro vs w
    rw [List.map_nil] at w
    cases w
    exact .nil
  | cons n ns ih =>
    intro vs w
    rw [List.map_cons] at w
    cases w with
    | cons a b =>
      cases a
      exact .cons _ _ (ih _ b)
theorem script_of {l : OpenLaw} {n : Nat} (hn : l.most = some n) {P : Params} {h : Heap} {args : List WData} {vals : List Value}
    (hpre : l.row.toRowW.claim.pre args = true) (hwl : WellAll P h vals args) :
    ∃ a vs ns, vals = [Value.ref a] ∧ args = [WData.list (ns.map WData.int)] ∧ h.get? a = some { cls := .type "list", data := .seq vs.toArray } ∧ IntsAre vs ns ∧ ns.length ≤ n := by
  have hsh : WShape.hasAll [] args [.list .int] = true := (pre_splitW hpre).1
  have hc : l.pre.holds [] { args := args } = true := (pre_splitW hpre).2
  obtain ⟨d, r, rfl, h1, h2⟩ := hasAllW_cons hsh
  obtain rfl := hasAllW_nil h2
  obtain ⟨xs, rfl, h3⟩ := hasW_list h1
  obtain ⟨ns, rfl⟩ := items_int h3
  have hlen : ns.length ≤ n := by
    unfold OpenLaw.pre at hc
    have h4 : (WTm.not (.lt (.lit (.int (n : Int))) (.len (.arg 0)))).holds [] { args := [.list (ns.map .int)] } = true := by
      have h4 := (holds_andW hc).1
      rw [hn] at h4
      exact h4
    have h5 := condW_of h4 (w_not (w_lt w_lit (w_len_list (w_arg rfl))))
    rw [List.length_map] at h5
    refine Nat.le_of_not_lt fun q => ?_
    have q' : (n : Int) < ((ns.length : Nat) : Int) := by omega
    first
      | (rw [decide_eq_true q'] at h5; exact absurd h5 (by decide))
      | (simp at h5; omega)
  cases hwl with
  | cons w1 w2 =>
    cases w2
    cases w1 with
    | list ho hall => exact ⟨_, _, ns, rfl, rfl, ho, ints_of_wellAll ns _ hall, hlen⟩
theorem post_true (l : OpenLaw) (args : List WData) : l.row.toRowW.claim.post args (.bool true) args = true :=
  postW_of (r := l.row.toRowW) (X := (true == true))
    (show WShape.has [] (.bool true) .bool = true by first | rfl | decide | simp [WShape.has, WShape.arms, WShape.armsAll])
    (show (WTm.eq .res (.lit (.bool true))).value [] { args := args, res := some (.bool true), after := args } = some (.bool (true == true)) from w_eq_bool (w_res rfl) w_lit) rfl
theorem attach_call {l : OpenLaw} {n : Nat} {q : Program} {loose : List Str} {XP : (Str → Option Value) → Heap → Prop} {YP : World → Heap → Prop} {d : DefRec}
    (hn : l.most = some n) (hdf : d.params.defaults = [])
    (call : ∀ (w : World) (s₀ s₁ : Shared) (mg mb : Str → Option Value) (fa : Addr) (o : Obj) (pm cd doc : Value) (a : Addr) (vs : List Value) (ns : List Int),
      Ground q loose [] XP w s₀ mg mb s₁.heap → YP w s₁.heap →
      s₁.heap.get? fa = some o → o.data = .func (docDef d.name d.params d.body d.scope pm cd doc) → s₁.heap.CodeRec cd d.name → mg d.name = some (.ref fa) →
      s₁.heap.get? a = some { cls := .type "list", data := .seq vs.toArray } → IntsAre vs ns → ns.length ≤ n → s₁.gens = #[] →
      codeAny (model l.prog w) callerA (.call (.ref fa) ⟨[.ref a], []⟩) (fun r s' => r = .ok (.ret (.bool true)) ∧ OldK s₁.heap s'.heap ∧ s'.os = s₁.os ∧ AllBare s'.gens) s₁) :
    WalkO q loose XP YP l.row.toRowW d [] (fun f vs => PySem.call f vs) := by
  intro w s₀ s₁ mg mb G Y fa o pm cd doc dV kV ho hd hcd hD hmg hg args vals as hpre hlay hrd hwl hlo
  obtain rfl : dV = .none := Dflts.none hD hdf
  obtain rfl : kV = .none := Dflts.noKw hD
  obtain ⟨a, vs, ns, rfl, rfl, hobj, hints, hlen⟩ := script_of hn hpre hwl
  refine enter_call (codeAny_mono (call w s₀ s₁ mg mb fa o pm cd doc a vs ns G Y ho (fd_plain hd) hcd hmg hobj hints hlen hg) fun r s' hq => ?_)
  obtain ⟨rfl, h2, h3, h4⟩ := hq
  exact ⟨.inl ⟨.bool true, .bool true, [], rfl, fun _ => rfl, .bool true, post_true l _, fun _ => ⟨List.Pairwise.nil, fun _ hm => (nomatch hm)⟩⟩, h2, h3, h4⟩
section
variable {prog : Program} {w : World} {A : Around} {E : Value → Shared → Prop} {s : Shared} {K : Frag}

noncomputable def noObjs (h : Heap) : Heap := { h with objs := #[] }
theorem noObjs_get (h : Heap) (b : Addr) : (noObjs h).get? b = none := by
  cases e : (noObjs h).get? b with
  | none => rfl
  | some o => exact absurd (Heap.lt_size e) (Nat.not_lt_zero _)
theorem fr_all {h : Heap} {L : Addr} {m : Str → Option Value} (n : h.Ns L m) : Fr (noObjs h) L h m :=
  ⟨n, fun b o e => (by rw [noObjs_get] at e; cases e), Nat.zero_le _⟩
end
end Att

namespace L2
open PySem PySem.Spec PyProof.Rows

theorem vals_ints : ∀ {vs : List Value} {ns : List Int}, IntsAre vs ns → Vals (ns.map V.int) vs
  | _, _, .nil => .nil
  | _, _, .cons n t h => .cons ⟨t, rfl⟩ (vals_ints h)
end L2

namespace L2
open PySem PySem.Spec PyProof.Rows

end L2


namespace L2
open PySem PySem.Spec PyProof.Rows

noncomputable def inClass (s : Stmt) (j : Nat) : Stmt := match s with
  | .ClassDef _ _ _ body _ _ _ _ _ _ _ => body.getD j (.Pass ⟨0, 0, 0, 0⟩)
  | _ => .Pass ⟨0, 0, 0, 0⟩
noncomputable def defArgs (s : Stmt) : Arguments := match s with
  | .FunctionDef _ a _ _ _ _ _ _ _ _ => a
  | _ => { posonlyargs := [], args := [], vararg := none, kwonlyargs := [], kw_defaults := [], kwarg := none, defaults := [] }
noncomputable def defBody (s : Stmt) : List Stmt := match s with
  | .FunctionDef _ _ b _ _ _ _ _ _ _ => b
  | _ => []
noncomputable def defScope (s : Stmt) : Scope := match s with
  | .FunctionDef _ _ _ _ _ _ sc _ _ _ => sc
  | _ => { kind := .function, names := [], isGenerator := false, isCoroutine := false }
noncomputable abbrev E0 : XK := fun _ _ _ => False
structure Fun (K : PySem.W.Frag) (x qual : Str) (st : Stmt) (f : Addr) (fd : FuncData) : Prop where
  ex : ∃ (oc : Value) (od : Option Addr) (kV doc pm : Value) (an : Option Addr) (cdv ct : Value) (osl : Array (Option Value)),
    fd = PySem.W.fnOf x qual (defArgs st) (defBody st) (defScope st) .none kV doc pm an cdv ct ∧ K.lookup f = some ⟨oc, od, .func fd, osl⟩ ∧ PySem.W.codeIn K cdv qual = true
  kp : PySem.W.keepIn K (.ref f) = true
section
variable {P : Program} {w : World} {K : PySem.W.Frag} {mg : Str → Option Value} {base : Heap}
theorem Fun.binds {x qual : Str} {st : Stmt} {f : Addr} {fd : FuncData} {ps : List Str} (F : Fun K x qual st f fd)
    (h : ∀ (kV doc pm : Value) (an : Option Addr) (cdv ct : Value) (us : List Value), us.length = ps.length → bindArgs (PySem.W.fnOf x qual (defArgs st) (defBody st) (defScope st) .none kV doc pm an cdv ct) ⟨us, []⟩ = pure (ps.zip us)) : Binds K fd ps [] := by
  obtain ⟨oc, od, kV, doc, pm, an, cdv, ct, osl, rfl, lk, hcd⟩ := F.ex
  exact .all (h kV doc pm an cdv ct)
theorem fun_mk {x qual : Str} {st : Stmt} {f : Addr} {oc : Value} {od an : Option Addr} {osl : Array (Option Value)} {kV doc pm cdv ct : Value} (l : K.lookup f = some ⟨oc, od, .func (PySem.W.fnOf x qual (defArgs st) (defBody st) (defScope st) .none kV doc pm an cdv ct), osl⟩)
    (c : PySem.W.codeIn K cdv qual = true) (k : PySem.W.keepIn K (.ref f) = true) : Fun K x qual st f (PySem.W.fnOf x qual (defArgs st) (defBody st) (defScope st) .none kV doc pm an cdv ct) := ⟨⟨oc, od, kV, doc, pm, an, cdv, ct, osl, rfl, l, c⟩, k⟩
end
theorem hu_of {A : Around} {k : Nat} (hr : Room k A) : A.units + 1 < cLine := Nat.lt_of_le_of_lt (Nat.add_le_add_left (by decide : 1 ≤ 64) _) hr.units
theorem small1000 {n : Nat} (h : n ≤ 1000) : n < sizeLine := Nat.lt_of_le_of_lt h (by decide)
section
variable {X : Cx}
theorem pv (i : Nat) {x : Str} {pos : Pos} (hN : X.N[i]? = some x := by rfl) (hv : Vis X.env.scope x := by first | exact Or.inl rfl | exact Or.inr (Or.inl rfl) | exact Or.inr (Or.inr rfl)) (hd : (x == ("__debug__" : Str)) = false := by decide)
    (hcd : (x == ("__classdict__" : Str)) = false := by decide) : PE X (.Name x pos) (tVar i) := pe_var hN hv hd hcd
end

theorem iteF {A B : Prop} (h : B) : if false = true then A else B := by
  rw [if_neg Bool.false_ne_true]
  exact h
theorem iteT {A B : Prop} (h : A) : if true = true then A else B := by
  rw [if_pos rfl]
  exact h
theorem ite2 {c A B : Prop} [Decidable c] (h1 : c → A) (h2 : ¬ c → B) : if c then A else B := by
  by_cases h : c
  · rw [if_pos h]
    exact h1 h
  · rw [if_neg h]
    exact h2 h
theorem iteNS {c A B : Prop} [Decidable c] (hc : c) (h : B) : if (!decide c) = true then A else B := by
  rw [decide_eq_true hc]
  exact iteF h
noncomputable def Same (H H' : Hp) : Prop := ∀ b o, H b = some o → H' b = some o
theorem Same.refl (H : Hp) : Same H H := fun _ _ h => h
theorem Same.trans {H H1 H2 : Hp} (a : Same H H1) (b : Same H1 H2) : Same H H2 := fun c o h => b c o (a c o h)
theorem Same.free {H H' : Hp} (e : Same H H') {l : Addr} (h : H' l = Option.none) : H l = Option.none := by
  cases q : H l with
  | none => rfl
  | some o =>
    rw [e l o q] at h
    cases h
theorem Same.seq {K : PySem.W.Frag} {H H' : Hp} {a : Addr} {xs : List V} (e : Same H H') (h : SqL K H a xs) : SqL K H' a xs := by
  rcases h with (h | ⟨o, h⟩) | h
  · exact .inl (.inl (e _ _ h))
  · exact .inl (.inr ⟨o, e _ _ h⟩)
  · exact .inr h
section
variable {κ : Type} [DecidableEq κ]
end
end L2

set_option maxHeartbeats 4000000
namespace L2
open PySem
theorem seqG {t u : TS} {D : Ends} {σ : St} {H : Hp} (h : ∀ U : St → Hp → Prop, (∀ σ' H', u D σ' H' → U σ' H') → t { D with nx := U } σ H) : tSeq t u D σ H := h (u D) fun _ _ x => x
theorem bodyN {t : TS} {D : Ends} {σ : St} {H : Hp} (h : ∀ D' : Ends, (∀ σ' H', D.nx σ' H' → D'.nx σ' H') → t D' σ H) : t D σ H := h D fun _ _ x => x
theorem bodyR {t : TS} {D : Ends} {σ : St} {H : Hp} (h : ∀ D' : Ends, (∀ σ' H', D.nx σ' H' → D'.nx σ' H') → (∀ v H', D.rt v H' → D'.rt v H') → t D' σ H) : t D σ H := h D (fun _ _ x => x) fun _ _ x => x
theorem hide {p : Prop} (h : ∀ q : Prop, (p → q) → q) : p := h p id
inductive Ex1 {α0 : Type} (p : α0 → Prop) : Prop
  | mk (x0 : α0) (h : p x0) : Ex1 p
inductive Ex2 {α0 α1 : Type} (p : α0 → α1 → Prop) : Prop
  | mk (x0 : α0) (x1 : α1) (h : p x0 x1) : Ex2 p
inductive Ex3 {α0 α1 α2 : Type} (p : α0 → α1 → α2 → Prop) : Prop
  | mk (x0 : α0) (x1 : α1) (x2 : α2) (h : p x0 x1 x2) : Ex3 p
inductive Ex4 {α0 α1 α2 α3 : Type} (p : α0 → α1 → α2 → α3 → Prop) : Prop
  | mk (x0 : α0) (x1 : α1) (x2 : α2) (x3 : α3) (h : p x0 x1 x2 x3) : Ex4 p
inductive Ex5 {α0 α1 α2 α3 α4 : Type} (p : α0 → α1 → α2 → α3 → α4 → Prop) : Prop
  | mk (x0 : α0) (x1 : α1) (x2 : α2) (x3 : α3) (x4 : α4) (h : p x0 x1 x2 x3 x4) : Ex5 p
inductive Ex6 {α0 α1 α2 α3 α4 α5 : Type} (p : α0 → α1 → α2 → α3 → α4 → α5 → Prop) : Prop
  | mk (x0 : α0) (x1 : α1) (x2 : α2) (x3 : α3) (x4 : α4) (x5 : α5) (h : p x0 x1 x2 x3 x4 x5) : Ex6 p
inductive Ex7 {α0 α1 α2 α3 α4 α5 α6 : Type} (p : α0 → α1 → α2 → α3 → α4 → α5 → α6 → Prop) : Prop
  | mk (x0 : α0) (x1 : α1) (x2 : α2) (x3 : α3) (x4 : α4) (x5 : α5) (x6 : α6) (h : p x0 x1 x2 x3 x4 x5 x6) : Ex7 p
inductive An3 (a0 a1 a2 : Prop) : Prop
  | mk (h0 : a0) (h1 : a1) (h2 : a2) : An3 a0 a1 a2
inductive An4 (a0 a1 a2 a3 : Prop) : Prop
  | mk (h0 : a0) (h1 : a1) (h2 : a2) (h3 : a3) : An4 a0 a1 a2 a3
inductive An5 (a0 a1 a2 a3 a4 : Prop) : Prop
  | mk (h0 : a0) (h1 : a1) (h2 : a2) (h3 : a3) (h4 : a4) : An5 a0 a1 a2 a3 a4
inductive An6 (a0 a1 a2 a3 a4 a5 : Prop) : Prop
  | mk (h0 : a0) (h1 : a1) (h2 : a2) (h3 : a3) (h4 : a4) (h5 : a5) : An6 a0 a1 a2 a3 a4 a5
inductive An7 (a0 a1 a2 a3 a4 a5 a6 : Prop) : Prop
  | mk (h0 : a0) (h1 : a1) (h2 : a2) (h3 : a3) (h4 : a4) (h5 : a5) (h6 : a6) : An7 a0 a1 a2 a3 a4 a5 a6
inductive An8 (a0 a1 a2 a3 a4 a5 a6 a7 : Prop) : Prop
  | mk (h0 : a0) (h1 : a1) (h2 : a2) (h3 : a3) (h4 : a4) (h5 : a5) (h6 : a6) (h7 : a7) : An8 a0 a1 a2 a3 a4 a5 a6 a7
inductive An10 (a0 a1 a2 a3 a4 a5 a6 a7 a8 a9 : Prop) : Prop
  | mk (h0 : a0) (h1 : a1) (h2 : a2) (h3 : a3) (h4 : a4) (h5 : a5) (h6 : a6) (h7 : a7) (h8 : a8) (h9 : a9) : An10 a0 a1 a2 a3 a4 a5 a6 a7 a8 a9
end L2

set_option maxHeartbeats 4000000

namespace L2
open PySem PySem.Spec PyProof.Rows
section
variable {prog : Program} {w : World} {A : Around} {R : Result → Shared → Prop} {s : Shared}
theorem comp_loop {elt target iter : Expr} {ifs : List Expr} {scope : Scope} {pos : Pos} {it acc : Value} {env : Env} (I : Nat → Shared → Prop)
    (turn : ∀ n s, I n s → wpAny (model prog w) A (pyNext it) (fun r s₁ => match r with
      | none => R (.ok .next) s₁
      | some v => wpAny (model prog w) A (letOwnedTupleGo target it v) (fun _ s₁' => wpAny (model prog w) A (assign target env v) (fun _ s₂ =>
          wpAny (model prog w) A (forIn ifs true fun c r => if r = true then do let ok ← isTrue c env (eval c env); pure (ForInStep.yield ok) else pure (ForInStep.yield r)) (fun ok s₃ =>
            if ok = true then wpAny (model prog w) A (eval elt env) (fun x s₄ =>
              wpAny (model prog w) A (call (.builtin "list.append") [acc, x]) (fun _ s₅ => ∃ m, m < n ∧ I m s₅) (fun _ _ => False) s₄) (fun _ _ => False) s₃
            else ∃ m, m < n ∧ I m s₃) (fun _ _ => False) s₂) (fun _ _ => False) s₁') (fun _ _ => False) s₁) (fun _ _ => False) s)
    (n : Nat) (h : I n s) :
    codeAny (model prog w) A (.compLoop (.ListComp elt [⟨target, iter, ifs, 0⟩] scope pos) 0 it acc env) R s := by
  refine codeAny_loop rfl I (fun n s hI => ?_) n h
  show wpAny _ A ((compTurn (.ListComp elt [⟨target, iter, ifs, 0⟩] scope pos) 0 it acc env).onRaise (fun x => do noteFrame x env; theTreesLotGoes x)) _ _ s
  refine wpAny_noted ?_
  rw [compTurn_list]
  refine wpAny_bind (wpAny_standAt (wpAny_bind (wpAny_mono (turn n s hI) (fun r s₁ h₁ => ?_) fun _ _ h' => h'.elim)))
  cases r with
  | none => exact wpAny_pure h₁
  | some v =>
    refine wpAny_bind (wpAny_mono h₁ (fun _ s₁' h₁' => ?_) fun _ _ h' => h'.elim)
    refine wpAny_bind (wpAny_mono h₁' (fun _ s₂ h₂ => wpAny_bind (wpAny_mono h₂ (fun ok s₃ h₃ => ?_) fun _ _ h' => h'.elim)) fun _ _ h' => h'.elim)
    cases ok with
    | false => exact wpAny_pure ⟨rfl, h₃⟩
    | true =>
      exact wpAny_bind (wpAny_bind (wpAny_mono h₃ (fun x s₄ h₄ => wpAny_bind (wpAny_mono h₄ (fun _ s₅ h₅ => wpAny_pure (wpAny_pure ⟨rfl, h₅⟩)) fun _ _ h' => h'.elim)) fun _ _ h' => h'.elim))
end

noncomputable def PF (X : Cx) (ifs : List Expr) (t : TT) : Prop :=
  ∀ (pins : List (Addr × Obj)) (s : Shared) (σ : St) (H : Hp) (Q : Bool → Hp → Prop), Inv X pins σ H s → t σ H Q →
    wpAny (model X.prog X.w) X.A (forIn ifs true fun c r => if r = true then do let ok ← isTrue c X.env (eval c X.env); pure (ForInStep.yield ok) else pure (ForInStep.yield r)) (TP X pins σ Q) X.xe s
noncomputable def tNoIf : TT := fun _ H Q => Q true H
theorem pf_nil {X : Cx} : PF X [] tNoIf := fun _ _ _ H _ I q => wpAny_tests_nil ⟨H, I, q⟩
theorem pf_one {X : Cx} {c : Expr} {t : TT} (h : PT X c t) : PF X [c] t := fun pins s σ H Q I q => wpAny_tests_one (h pins s σ H Q I q)
theorem lookup_pairs_mem {f : Str → Addr} {x : Str} {c : Addr} : ∀ {l : List Str}, (l.map fun n => (n, f n)).lookup x = some c → x ∈ l ∧ c = f x
  | [], e => by simp at e
  | n :: r, e => by
    rw [List.map_cons, List.lookup_cons] at e
    cases q : x == n with
    | true =>
      rw [q] at e
      have z := beq_iff_eq.mp q
      subst z
      cases e
      exact ⟨List.mem_cons.mpr (.inl rfl), rfl⟩
    | false =>
      rw [q] at e
      obtain ⟨h1, h2⟩ := lookup_pairs_mem e
      exact ⟨List.mem_cons.mpr (.inr h1), h2⟩
theorem lookup_pairs_of {f : Str → Addr} {x : Str} : ∀ {l : List Str}, x ∈ l → (l.map fun n => (n, f n)).lookup x = some (f x)
  | [], h => by simp at h
  | n :: r, h => by
    rw [List.map_cons, List.lookup_cons]
    cases q : x == n with
    | true =>
      have z := beq_iff_eq.mp q
      subst z
      rfl
    | false =>
      rcases List.mem_cons.mp h with z | z
      · rw [z, beq_self_eq_true] at q; cases q
      · exact lookup_pairs_of z
theorem relabel_some {env : Env} {x : Str} {k : NameKind} (hk : k = .cell ∨ k = .free) : ∀ {l : List (Str × NameKind)},
    (l.map fun (p : Str × NameKind) => if (p.2 == NameKind.free && env.scope.kind == .function && env.kindOf p.1 == some .cell) then (p.1, NameKind.cell) else (p.1, p.2)).lookup x = some k → ∃ p ∈ l, p.1 = x ∧ (p.2 = .cell ∨ p.2 = .free)
  | [], e => by simp at e
  | (n, j) :: r, e => by
    rw [List.map_cons] at e
    by_cases hc : (j == NameKind.free && env.scope.kind == .function && env.kindOf n == some .cell) = true
    · have e1 : ((n, NameKind.cell) :: (r.map fun (p : Str × NameKind) => if (p.2 == NameKind.free && env.scope.kind == .function && env.kindOf p.1 == some .cell) then (p.1, NameKind.cell) else (p.1, p.2))).lookup x = some k := by
        rw [if_pos hc] at e; exact e
      rw [List.lookup_cons] at e1
      cases q : x == n with
      | true =>
        simp only [Bool.and_eq_true, beq_iff_eq] at hc
        exact ⟨(n, j), List.mem_cons.mpr (.inl rfl), (beq_iff_eq.mp q).symm, .inr hc.1.1⟩
      | false =>
        rw [q] at e1
        obtain ⟨p, hp, z⟩ := relabel_some hk e1
        exact ⟨p, List.mem_cons.mpr (.inr hp), z⟩
    · have e1 : ((n, j) :: (r.map fun (p : Str × NameKind) => if (p.2 == NameKind.free && env.scope.kind == .function && env.kindOf p.1 == some .cell) then (p.1, NameKind.cell) else (p.1, p.2))).lookup x = some k := by
        rw [if_neg hc] at e; exact e
      rw [List.lookup_cons] at e1
      cases q : x == n with
      | true =>
        rw [q] at e1
        have e2 : j = k := Option.some.inj e1
        exact ⟨(n, j), List.mem_cons.mpr (.inl rfl), (beq_iff_eq.mp q).symm, by rw [e2]; exact hk⟩
      | false =>
        rw [q] at e1
        obtain ⟨p, hp, z⟩ := relabel_some hk e1
        exact ⟨p, List.mem_cons.mpr (.inr hp), z⟩
theorem relabel_cell {env : Env} {x : Str} (hf : env.scope.kind = .function) (hc : env.kindOf x = some .cell) : ∀ {l : List (Str × NameKind)}, l.lookup x = some .free →
    (l.map fun (p : Str × NameKind) => if (p.2 == NameKind.free && env.scope.kind == .function && env.kindOf p.1 == some .cell) then (p.1, NameKind.cell) else (p.1, p.2)).lookup x = some .cell
  | [], e => by simp at e
  | (n, j) :: r, e => by
    rw [List.lookup_cons] at e
    rw [List.map_cons]
    cases q : x == n with
    | true =>
      rw [q] at e
      cases e
      have z := beq_iff_eq.mp q
      subst z
      have hc' : (NameKind.free == NameKind.free && env.scope.kind == .function && env.kindOf x == some .cell) = true := by
        rw [hf, hc]; rfl
      show List.lookup x ((if (NameKind.free == NameKind.free && env.scope.kind == .function && env.kindOf x == some .cell) = true then (x, NameKind.cell) else (x, NameKind.free)) :: _) = _
      rw [if_pos hc', List.lookup_cons, beq_self_eq_true]
    | false =>
      rw [q] at e
      have ih := relabel_cell hf hc e
      have e3 : ∀ y : Str × NameKind, y.1 = n → List.lookup x (y :: (r.map fun (p : Str × NameKind) => if (p.2 == NameKind.free && env.scope.kind == .function && env.kindOf p.1 == some .cell) then (p.1, NameKind.cell) else (p.1, p.2))) = some .cell := by
        rintro ⟨y1, y2⟩ hy
        have hy' : y1 = n := hy
        subst hy'
        rw [List.lookup_cons, q]
        exact ih
      apply e3
      show (if _ then (n, NameKind.cell) else (n, j)).1 = n
      split <;> rfl
noncomputable def cellsC (X : Cx) (fr : List Str) : List (Str × Addr) := fr.map fun n => (n, (X.env.cells.lookup n).getD 0)
noncomputable def cxC (X : Cx) (sc : Scope) (fr : List Str) (C : Addr) (N : List Str) (fp : List Addr) (s : Shared) (H : Hp) : Cx :=
  { X with env := compEnvC sc (cellsC X fr) C X.env, N := N, s₀ := s, H₀ := H, outer := X.stack, ex := fp, fn := fun _ => false, pn := [], xe := fun _ _ => False }
structure CompOk (X : Cx) (sc : Scope) (x : Str) (fr : List Str) (js : List Nat) : Prop where
  kind : sc.kind = .function
  loc : sc.names.lookup x = some .local
  free : fr.map (fun n => sc.names.lookup n) = fr.map fun _ => some .free
  out : fr.map (fun n => X.env.kindOf n) = fr.map fun _ => some .cell
  only : ∀ p ∈ sc.names, p.2 = .cell ∨ p.2 = .free → p.1 ∈ fr
  nocell : ∀ y ∈ sc.names, y.2 ≠ .cell
  names : ∀ y ∈ sc.names, y.2 = .local → sc.names.lookup y.1 = some .local
  clos : closureFor sc X.env = pure (cellsC X fr)
  at_ : js.map (fun j => X.N[j]?) = fr.map some
  nd : (x :: fr).Nodup
section
variable {X : Cx} {sc : Scope} {x : Str} {fr : List Str} {js : List Nat} {pins : List (Addr × Obj)} {σ : St} {H : Hp} {s : Shared} {fp : List Addr} {h' : Heap} {tk : Nat}
theorem CompOk.outs (O : CompOk X sc x fr js) : ∀ n ∈ fr, X.env.kindOf n = some .cell := List.map_inj_left.mp O.out
theorem CompOk.frees (O : CompOk X sc x fr js) : ∀ n ∈ fr, sc.names.lookup n = some .free := List.map_inj_left.mp O.free
theorem CompOk.cell (O : CompOk X sc x fr js) (I : Inv X pins σ H s) {y : Str} {c : Addr} (e : (cellsC X fr).lookup y = some c) : y ∈ fr ∧ X.env.cells.lookup y = some c := by
  obtain ⟨h1, h2⟩ := lookup_pairs_mem e
  obtain ⟨c', e'⟩ := I.ok.has y (.inl (O.outs y h1))
  rw [e'] at h2
  exact ⟨h1, by rw [e', h2]; rfl⟩
theorem inv_comp (O : CompOk X sc x fr js) (I : Inv X pins σ H s) (hf : ∀ b ∈ fp, FpOk X pins H b) (hl : ∀ b ∈ fp, b < s.heap.objs.size) {m : Str → Option Value} (hn : h'.Ns s.heap.objs.size m)
    (hs : ∀ b o, s.heap.get? b = some o → h'.get? b = some o) :
    Inv (cxC X sc fr s.heap.objs.size (x :: fr) fp s H) [] (none :: js.map fun j => (σ[j]?).getD none) H { s with heap := h', toks := tk } := by
  have hjl : js.length = fr.length := by
    have e := congrArg List.length O.at_
    rw [List.length_map, List.length_map] at e
    exact e
  have ok : (cxC X sc fr s.heap.objs.size (x :: fr) fp s H).Ok := by
    refine { mod := I.ok.mod, kind := O.kind, glob := I.ok.glob, blt := I.ok.blt, above := Nat.le_refl _, inj := ?_, has := ?_, cab := fun _ _ z => (by cases z), hd := I.ok.hd, frames := I.ok.frames, stk := .inl rfl, exf := ?_, bs := I.bs, bsz := Nat.le_trans I.ok.bsz I.sz, noex := ?_, exfs := ?_, funs := I.stack, frf := I.stkFree }
    · intro y z c e1 e2
      exact I.ok.inj y z c (O.cell I e1).2 (O.cell I e2).2
    · intro y hy
      have hy' : ∃ k, (k = NameKind.cell ∨ k = NameKind.free) ∧ (relabel sc X.env).names.lookup y = some k := hy.elim (fun e => ⟨_, .inl rfl, e⟩) fun e => ⟨_, .inr rfl, e⟩
      obtain ⟨k, hk, e⟩ := hy'
      obtain ⟨p, hp, e1, e2⟩ := relabel_some hk (l := sc.names) e
      have hm := O.only p hp e2
      rw [e1] at hm
      exact ⟨_, lookup_pairs_of hm⟩
    · intro b hb
      refine ⟨Nat.ne_of_lt (hl b hb), fun y c e => (hf b hb).2.2.2.2.1 y c (O.cell I e).2⟩
    · intro b o e hb
      rcases (hf b hb).2.2.2.1 with z | z
      · exact I.ok.noex b o e z
      · exact absurd (Nat.lt_of_lt_of_le (Heap.lt_size (I.ok.bs b o e).1) z) (Nat.lt_irrefl _)
    · intro b hb hb'
      rcases List.mem_cons.mp (I.stkSub b hb') with z | z
      · exact (hf b hb).2.1 z
      · exact (hf b hb).2.2.1 z
  refine ⟨ok, rfl, I.bare, Un.kept hs, ⟨m, hn, ?_⟩, ?_, I.hok.fresh (Nat.le_refl _), ?_, fun p hp => ?_, I.hok.kept hs, ?_⟩
  · intro i y v e1 e2 e3
    cases i with
    | zero =>
      have e2' : some (none : Option V) = some (some v) := e2
      cases e2'
    | succ i =>
      have e1' : fr[i]? = some y := e1
      have e2' : (js.map fun j => (σ[j]?).getD none)[i]? = some (some v) := e2
      have hy : y ∈ fr := List.mem_of_getElem? e1'
      rw [List.getElem?_map] at e2'
      cases q : js[i]? with
      | none => rw [q] at e2'; cases e2'
      | some j =>
        rw [q] at e2'
        have e4 : (σ[j]?).getD none = some v := Option.some.inj e2'
        have e5 : σ[j]? = some (some v) := by
          cases r : σ[j]? with
          | none => rw [r] at e4; cases e4
          | some u => rw [r] at e4; rw [show u = some v from e4]
        have e6 : X.N[j]? = some y := by
          have z := congrArg (fun l => l[i]?) O.at_
          simp only [List.getElem?_map, q, e1', Option.map_some] at z
          exact Option.some.inj z
        obtain ⟨mo, _, ho⟩ := I.loc
        obtain ⟨u, ru, look⟩ := ho j y v e6 e5 (.inr (.inl (O.outs y hy)))
        refine ⟨u, ru, ?_⟩
        rcases look with ⟨k, _⟩ | ⟨_, c, ec, o, ho, hd⟩
        · rw [O.outs y hy] at k; cases k
        · refine .inr ⟨.inl (relabel_cell I.ok.kind (O.outs y hy) (O.frees y hy)), c, ?_, o, hs c o ho, hd⟩
          show (cellsC X fr).lookup y = some c
          rw [cellsC, lookup_pairs_of hy, ec]
          rfl
  · intro y c e
    obtain ⟨v, o, ho, hd⟩ := I.cell y c (O.cell I e).2
    exact ⟨v, o, hs c o ho, hd⟩
  · intro y c e
    exact I.freeC y c (O.cell I e).2
  · exact absurd (show p ∈ ([] : List (Addr × Obj)) from hp) (by simp)
  · show (none :: js.map fun j => (σ[j]?).getD none).length = (x :: fr).length
    rw [List.length_cons, List.length_cons, List.length_map, hjl]
end

noncomputable def CompW (J : It) (H1 : Hp) (tl : St) (tif : TT) (te : TE) (Q : V → Hp → Prop) (D : Addr) : Prop :=
  ∃ W : Nat → Nat → Hp → Prop, (∃ m, W 0 m (upd H1 D (.lst []))) ∧ ∀ i m H2, W i m H2 →
    (J.stop i H2 ∧ Q (.ref D) H2) ∨ (J.go i H2 ∧ ∀ x H3, J.yld i H2 x H3 → tif (some x :: tl) H3 fun b H4 =>
      if b = true then te (some x :: tl) H4 fun y H5 => ∃ ys, H5 D = some (.lst ys) ∧ ys.length < sizeLine ∧ ∃ m', m' < m ∧ W (i + 1) m' (upd H5 D (.lst (ys ++ [y]))) else ∃ m', m' < m ∧ W (i + 1) m' H4)
noncomputable def tComp (wi : TI) (js : List Nat) (tif : TT) (te : TE) : TE := fun σ H Q => wi σ H fun J H1 => ∀ D, H1 D = none → CompW J H1 (js.map fun j => (σ[j]?).getD none) tif te Q D
structure CompEnd (X : Cx) (pins : List (Addr × Obj)) (σ : St) (Q : V → Hp → Prop) (acc : Value) (C : Addr) (s' : Shared) : Prop where
  ex : ∃ D H', acc = .ref D ∧ Inv X pins σ H' s' ∧ H' C = none ∧ Q (.ref D) H'
  ns : ∃ m, s'.heap.Ns C m
  ab : X.s₀.heap.objs.size ≤ C
  nl : C ≠ X.env.locals
  nc : ∀ y c, X.env.cells.lookup y = some c → c ≠ C
  np : ∀ p ∈ X.pn ++ pins, p.1 ≠ C
section
variable {X : Cx} {sc : Scope} {x : Str} {fr : List Str} {js : List Nat} {pins : List (Addr × Obj)} {σ : St} {elt iter : Expr} {ifs : List Expr} {px pos : Pos} {tif : TT} {te : TE} {wi : TI}
theorem comp_block {H1 : Hp} {s2 : Shared} {J : It} {fp : List Addr} {it : Addr} {tn : Nat → Heap → Prop} {Q : V → Hp → Prop} {E : Value → Shared → Prop}
    (O : CompOk X sc x fr js) (hc : X.calm = true) (I2 : Inv X pins σ H1 s2) (T : Turn X.prog X.w X.K (.Name x px) J fp it tn) (st2 : tn 0 s2.heap) (f2 : ∀ b ∈ fp, FpOk X pins H1 b)
    (hif : ∀ fp C s H, PF (cxC X sc fr C (x :: fr) fp s H) ifs tif) (helt : ∀ fp C s H, PE (cxC X sc fr C (x :: fr) fp s H) elt te)
    (hw : ∀ D, H1 D = none → CompW J H1 (js.map fun j => (σ[j]?).getD none) tif te Q D) :
    wpAny (model X.prog X.w) X.A (newList []) (fun acc s₃ => wpAny (model X.prog X.w) X.A (newFunctionEnv sc X.env.globals (cellsC X fr) [] X.env.qual none .none (some X.env)) (fun cenv s₄ =>
      codeAny (model X.prog X.w) X.A (.compStart (.ListComp elt [⟨.Name x px, iter, ifs, 0⟩] sc pos) 0 (.ref it) acc { cenv with scope := relabel sc X.env })
        (fun r s' => r = .ok .next ∧ CompEnd X pins σ Q acc cenv.locals s') s₄) E s₃) E s2 := by
  have fresh : H1 s2.heap.objs.size = none := I2.hok.fresh (Nat.le_refl _)
  obtain ⟨W, ⟨m0, w0⟩, turn⟩ := hw _ fresh
  have I3 := I2.lnew (its := []) (ys := []) (t' := s2.toks) .nil (Nat.zero_le _)
  refine wpAny_newObj_type (wpAny_newFunctionEnv O.nocell (by intro y hy; simp at hy) (fun h₁ hns₁ hsb₁ => ?_) O.kind)
  dsimp only at hns₁ hsb₁ ⊢
  generalize hS3 : ({ s2 with heap := s2.heap.push { cls := .type "list", data := .seq ([] : List Value).toArray }, toks := s2.toks } : Shared) = s3 at I3
  have eh : s2.heap.push { cls := .type "list", data := .seq ([] : List Value).toArray } = s3.heap := by rw [← hS3]
  have old2 : ∀ b o, s2.heap.get? b = some o → s3.heap.get? b = some o := fun b o e => by rw [← eh]; exact Heap.get?_push_of_some _ e
  have hsz3 : s3.heap.objs.size = s2.heap.objs.size + 1 := by rw [← eh, Heap.size_push]
  rw [eh] at hns₁ hsb₁
  have kept : ∀ b o, s3.heap.get? b = some o → h₁.get? b = some o := fun b o e => hsb₁.extBut b o (Nat.ne_of_lt (Heap.lt_size e)) (Heap.get?_push_of_some _ e)
  have f3 : ∀ b ∈ fp, FpOk X pins (upd H1 s2.heap.objs.size (.lst [])) b := fun b hb => by
    obtain ⟨o, e, _⟩ := T.obj _ _ st2 b hb
    obtain ⟨z1, z2⟩ := f2 b hb
    exact ⟨by rw [upd_ne (Nat.ne_of_lt (Heap.lt_size e))]; exact z1, z2⟩
  have hl3 : ∀ b ∈ fp, b < s3.heap.objs.size := fun b hb => by
    obtain ⟨o, e, _⟩ := T.obj _ _ st2 b hb
    exact Heap.lt_size (old2 b o e)
  have I4 := inv_comp (tk := s2.toks + ([] : List (Str × Value)).length) O I3 f3 hl3 hns₁ kept
  have st4 : tn 0 h₁ := T.keep _ _ _ st2 fun b _ o e => kept b o (old2 b o e)
  have e4 : ({ s3 with heap := h₁, toks := s2.toks + ([] : List (Str × Value)).length } : Shared) = { s2 with heap := h₁, toks := s2.toks + ([] : List (Str × Value)).length } := by rw [← hS3]
  rw [e4] at I4
  have stat : ∀ {H' : Hp}, (∀ b ∈ fp, H' b = none) → ∀ b ∈ fp, FpOk (cxC X sc fr s3.heap.objs.size (x :: fr) fp s3 (upd H1 s2.heap.objs.size (.lst []))) [] H' b := fun {H'} hn b hb => by
    obtain ⟨_, z2⟩ := f2 b hb
    refine ⟨hn b hb, Nat.ne_of_lt (hl3 b hb), fun z => ?_, .inl hb, fun y c e => z2.2.2.2.1 y c (O.cell I3 e).2, fun p hp => absurd (show p ∈ ([] : List (Addr × Obj)) from hp) (by simp)⟩
    rcases List.mem_cons.mp (I3.stkSub b z) with q | q
    · exact z2.1 q
    · exact z2.2.1 q
  have loop : ∀ s₄ : Shared, s₄ = { s2 with heap := h₁, toks := s2.toks + ([] : List (Str × Value)).length } →
      codeAny (model X.prog X.w) X.A (.compLoop (.ListComp elt [⟨.Name x px, iter, ifs, 0⟩] sc pos) 0 (.ref it) (.ref s2.heap.objs.size) (compEnvC sc (cellsC X fr) s3.heap.objs.size X.env))
        (fun r s' => r = .ok .next ∧ CompEnd X pins σ Q (.ref s2.heap.objs.size) s3.heap.objs.size s') s₄ := by
    intro s₄ e
    subst e
    refine comp_loop (fun n s' => ∃ i ov H', Inv (cxC X sc fr s3.heap.objs.size (x :: fr) fp s3 (upd H1 s2.heap.objs.size (.lst []))) [] (ov :: js.map fun j => (σ[j]?).getD none) H' s' ∧ tn i s'.heap ∧ (∀ b ∈ fp, H' b = none) ∧ W i n H')
      ?_ m0 ⟨0, none, _, I4, st4, fun b hb => (f3 b hb).1, w0⟩
    rintro n s5 ⟨i, ov, H5, I5, st5, fr5, w5⟩
    rcases turn i n H5 w5 with ⟨stop, q⟩ | ⟨go, step⟩
    · refine thn (T.done (cxC X sc fr s3.heap.objs.size (x :: fr) fp s3 (upd H1 s2.heap.objs.size (.lst []))) rfl rfl rfl hc i [] s5 _ H5 _ I5 (stat fr5) st5 stop) fun r s6 zq => ?_
      obtain ⟨hr, I6⟩ := zq
      subst hr
      refine ⟨rfl, ⟨_, H5, rfl, I3.call' (ch := fp) I6.os I6.base I6.hok I6.bare fun b hb => ?_, I6.free, q⟩, ?_, Nat.le_trans I3.sz (Nat.le_refl _), ?_, fun y c e => ?_, fun p hp => ?_⟩
      · obtain ⟨_, z⟩ := f2 b hb
        exact ⟨z.2.2.1, z.1, z.2.2.2.1, z.2.2.2.2⟩
      · obtain ⟨m, hm, _⟩ := I6.loc
        exact ⟨m, hm⟩
      · exact Nat.ne_of_gt I3.lt
      · obtain ⟨v, o, ho, _⟩ := I3.cell y c e
        exact Nat.ne_of_lt (Heap.lt_size ho)
      · exact Nat.ne_of_lt (Heap.lt_size (I3.pin p hp).1)
    · refine thn (T.item (cxC X sc fr s3.heap.objs.size (x :: fr) fp s3 (upd H1 s2.heap.objs.size (.lst []))) rfl rfl rfl hc i [] s5 _ H5 _ I5 (stat fr5) st5 go) fun r s6 zq => ?_
      obtain ⟨u, hr, h6⟩ := zq
      subst hr
      refine thn h6 fun _ s7 zq => ?_
      obtain ⟨y, H7, I7, r7, y7, st7, fr7⟩ := zq
      have I7' := I7.pinned (stat fr7) (T.obj _ _ st7)
      have pg : PG (cxC X sc fr s3.heap.objs.size (x :: fr) fp s3 (upd H1 s2.heap.objs.size (.lst []))) (.Name x px) (gName 0) := pg_name O.nd rfl (.inl (lookup_relabel_local O.loc)) (.inr (lookup_relabel_local O.loc))
      refine thn (pg _ s7 (ov :: js.map fun j => (σ[j]?).getD none) H7 y u (fun σ8 H8 => σ8 = some y :: (js.map fun j => (σ[j]?).getD none) ∧ H8 = H7) I7' r7 ⟨rfl, rfl⟩) fun _ s8 zq => ?_
      obtain ⟨σ8, H8, I8, e8, e8'⟩ := zq
      subst e8 e8'
      have again : ∀ {H' : Hp} {s' : Shared}, Inv (cxC X sc fr s3.heap.objs.size (x :: fr) fp s3 (upd H1 s2.heap.objs.size (.lst []))) ([] ++ pinsAt fp s7.heap) (some y :: js.map fun j => (σ[j]?).getD none) H' s' → (∃ m', m' < n ∧ W (i + 1) m' H') →
          ∃ m, m < n ∧ ∃ i ov H', Inv (cxC X sc fr s3.heap.objs.size (x :: fr) fp s3 (upd H1 s2.heap.objs.size (.lst []))) [] (ov :: js.map fun j => (σ[j]?).getD none) H' s' ∧ tn i s'.heap ∧ (∀ b ∈ fp, H' b = none) ∧ W i m H' := fun {H' s'} I' ⟨m', hm, w'⟩ => by
        refine ⟨m', hm, i + 1, some y, H', I'.unpinned, T.keep _ _ _ st7 fun b hb o e => (I'.pin (b, o) (List.mem_append_right _ (List.mem_append_right _ (mem_pinsAt hb e)))).1, fun b hb => ?_, w'⟩
        obtain ⟨o, e, d⟩ := T.obj _ _ st7 b hb
        exact (I'.pin (b, o) (List.mem_append_right _ (List.mem_append_right _ (mem_pinsAt hb e)))).2.1
      refine thn (hif fp _ _ _ _ s8 _ _ _ I8 (step y _ y7)) fun ok s9 zq => ?_
      obtain ⟨H9, I9, q9⟩ := zq
      cases ok with
      | false =>
        rw [if_neg Bool.false_ne_true] at q9
        exact again I9 q9
      | true =>
        rw [if_pos rfl] at q9
        refine thn (helt fp _ _ _ _ s9 _ _ _ I9 q9) fun z s10 zq => ?_
        obtain ⟨v10, H10, I10, r10, ys, e10, l10, q10⟩ := zq
        exact thn (mt_append _ s10 _ H10 (.ref s2.heap.objs.size) [v10] (.ref s2.heap.objs.size) [z] (fun _ H11 => ∃ m', m' < n ∧ W (i + 1) m' H11) I10 rfl (.cons r10 .nil) ⟨_, ys, v10, rfl, rfl, e10, l10, q10⟩) fun _ s11 ⟨_, H11, I11, _, q11⟩ => again I11 q11
  subst hS3
  exact codeAny_compStart_list (loop _ rfl) (T.self _ 0 _ _ _ st4 (loop _ rfl))
theorem CompEnd.go {Q : V → Hp → Prop} {acc : Value} {C : Addr} {s' : Shared} (Z : CompEnd X pins σ Q acc C s') {h' : Heap} (hs : Heap.SameBut C s'.heap h') : EP X pins σ Q acc { s' with heap := h' } := by
  obtain ⟨D, H', rfl, I', hC, q⟩ := Z.ex
  exact ⟨.ref D, H', I'.turned (t' := s'.toks) (fun b o hb e => hs.extBut b o hb e) hC Z.nl (.inr Z.ab) Z.nc Z.np, rfl, q⟩
theorem pe_comp (O : CompOk X sc x fr js) (hc : X.calm = true) (hi : PI X (.Name x px) iter wi)
    (hif : ∀ fp C s H, PF (cxC X sc fr C (x :: fr) fp s H) ifs tif) (helt : ∀ fp C s H, PE (cxC X sc fr C (x :: fr) fp s H) elt te)
    (hs : ∀ v, foldedSetIterable iter X.env v = pure v := by intro _; rfl) : PE X (.ListComp elt [⟨.Name x px, iter, ifs, 0⟩] sc pos) (tComp wi js tif te) := by
  intro pins s σ H Q I h
  rw [eval_ListComp]
  show wpAny _ _ (comprehension (.ListComp elt [⟨.Name x px, iter, ifs, 0⟩] sc pos) sc X.env _ (newList []) false (eval iter X.env)) _ _ s
  refine wpAny_comprehension_free (use := none) rfl hs O.clos O.kind O.names (thn (hi pins s σ H _ I h) fun v s1 h1 => thn h1 fun itv s2 h2 => ?_)
  obtain ⟨it, fp, tn, J, H2, e, I2, T, st2, f2, hw⟩ := h2
  subst e
  refine thn (comp_block O hc I2 T st2 f2 hif helt hw) fun acc s3 h3 => thn h3 fun cenv s4 h4 => codeAny_mono h4 fun r s' zq => ?_
  obtain ⟨er, Z⟩ := zq
  subst er
  obtain ⟨m, hm⟩ := Z.ns
  exact ⟨m, hm, fun h' hs' => Z.go hs'⟩
theorem ps_setComp {i : Nat} {y : Str} {py spos : Pos} (hN : X.N.Nodup) (hy : X.N[i]? = some y) (hl : X.env.scope.names.lookup y = some .local)
    (hsw : swapsWith (.ListComp elt [⟨.Name x px, iter, ifs, 0⟩] sc pos) (some (.Name y py)) spos.line X.env = pure true)
    (O : CompOk X sc x fr js) (hc : X.calm = true) (hi : PI X (.Name x px) iter wi)
    (hif : ∀ fp C s H, PF (cxC X sc fr C (x :: fr) fp s H) ifs tif) (helt : ∀ fp C s H, PE (cxC X sc fr C (x :: fr) fp s H) elt te)
    (hs : ∀ v, foldedSetIterable iter X.env v = pure v := by intro _; rfl) : PS X (.Assign [.Name y py] (.ListComp elt [⟨.Name x px, iter, ifs, 0⟩] sc pos) spos) (tAsg (tComp wi js tif te) (gName i)) := by
  intro pins s σ H D I h
  rw [exec_Assign_Name_used _ _ _ _ hsw]
  refine wpAny_bind (wpAny_standAt (wpAny_bind ?_))
  show wpAny _ X.A (do let _ ← comprehension (.ListComp elt [⟨.Name x px, iter, ifs, 0⟩] sc pos) sc X.env _ (newList []) false (eval iter X.env) (some (assign (.Name y py) X.env))) _ _ s
  refine wpAny_bind (thn (wpAny_comprehension_free (use := some (assign (.Name y py) X.env)) (Q := fun _ s' => SP X pins D .next s') rfl hs O.clos O.kind O.names (thn (hi pins s σ H _ I h) fun v s1 h1 => thn h1 fun itv s2 h2 => ?_)) fun _ s' hq => wpAny_pure (wpAny_pure hq))
  obtain ⟨it, fp, tn, J, H2, e, I2, T, st2, f2, hw⟩ := h2
  subst e
  refine thn (comp_block O hc I2 T st2 f2 hif helt hw) fun acc s3 h3 => thn h3 fun cenv s4 h4 => codeAny_mono h4 fun r s' zq => ?_
  obtain ⟨er, Z⟩ := zq
  subst er
  obtain ⟨Da, H', rfl, I', hC, q⟩ := Z.ex
  refine wpAny_assign_Name (store_ok2 (v := .ref Da) I' hN hy (.inl hl) rfl (fun s'' I'' zq => ?_) (.inr hl))
  obtain ⟨b, hb, hb'⟩ := zq
  obtain ⟨m, hm⟩ := Z.ns
  have hbC : cenv.locals ≠ b := by
    rcases hb' with z | z
    · rw [z]; exact Z.nl
    · exact Ne.symm (Z.nc _ _ z)
  exact ⟨m, hm.sameBut hb hbC, fun h' hs' => ⟨_, H', I''.turned (t' := s''.toks) (fun c o hc' e => hs'.extBut c o hc' e) hC Z.nl (.inr Z.ab) Z.nc Z.np, q⟩⟩
end
end L2

set_option maxHeartbeats 4000000

namespace L2
open PySem PySem.Spec PyProof.Rows
theorem ObjOk.get {P : Program} {w : World} {H : Hp} {h : Heap} {a : Addr} {o : HO} (x : ObjOk P w H h a o) : ∃ ob, h.get? a = some ob := by
  cases o with
  | lst xs => obtain ⟨_, _, _, _, e⟩ := x; exact ⟨_, e⟩
  | tup xs => obtain ⟨_, _, _, p⟩ := x; obtain ⟨ob, e, _⟩ := p; exact ⟨ob, e⟩
  | dK kvs => obtain ⟨_, _, _, _, o, _, _, e, _⟩ := x; exact ⟨o, e⟩
  | dT kvs => obtain ⟨_, _, _, _, o, _, _, e, _⟩ := x; exact ⟨o, e⟩
  | set S n => obtain ⟨o, _, _, _, e, _⟩ := x; exact ⟨o, e⟩
  | ins C dx fs => obtain ⟨_, _, _, e, _⟩ := x; exact ⟨_, e⟩
  | own y => exact x
  | xd fs => obtain ⟨_, ⟨o, _, _, e, _⟩, _⟩ := x; exact ⟨o, e⟩
  | rng lo hi => obtain ⟨_, _, _, e⟩ := x; exact ⟨_, e⟩
  | frz ob u => exact ⟨ob, x.1⟩
  | tbl ps => exact ⟨_, x⟩
  | met f y => exact ⟨_, x⟩
  | ext φ => exact x.2.1
structure Flies (P : Program) (w : World) (outer : List Env) (H : Hp) (s : Shared) (ea C : Addr) (H' : Hp) (s' : Shared) : Prop where
  os : s'.os = s.os
  bare : AllBare s'.gens
  un : Un (frs outer) [] H H' s.heap s'.heap
  hok : HOk P w H' s'.heap
  new : s.heap.get? ea = none
  nt : H' ea = none
  fly : ∃ (B : Heap) (a0 : Value), Heap.FlyingW B outer ea (.ref C) a0 s'.heap ∧ (∀ b o, s.heap.get? b = some o → b ∉ frs outer → ∃ o', B.get? b = some o') ∧ ∀ b u, H' b = some u → ∃ o', B.get? b = some o'
noncomputable def CX1 (P : Program) (w : World) : CXT := fun outer H s E e s' => ∃ ea C H', e = Value.ref ea ∧ Flies P w outer H s ea C H' s' ∧ E (.ref C) none H'
theorem passN {P : Program} {w : World} {X : Cx} : Passes (CX1 P w) X E0 := fun _ _ _ _ _ _ _ ⟨_, _, _, _, _, h⟩ => h.elim
section
variable {P : Program} {w : World} {outer : List Env} {H H' : Hp} {s s' : Shared} {ea C : Addr} {h' : Heap}
theorem fly_hok {B : Heap} (hok : HOk P w H' s'.heap) (st : B.StaysIn s'.heap) (kt : ∀ b u, H' b = some u → ∃ o', B.get? b = some o') (st' : B.StaysIn h') : HOk P w H' h' := fun a u e =>
  (hok a u e).stay (fun b v hb q => by
    have tr : ∃ z, H' b = some z := by
      rcases hb with z | z
      · rw [z]; exact ⟨u, e⟩
      · exact ⟨_, z⟩
    obtain ⟨z, hz⟩ := tr
    obtain ⟨o', eo⟩ := kt b z hz
    have q' := st b o' eo
    rw [q] at q'
    cases q'
    exact st' b _ eo) (fun _ q => q) fun _ _ q => q
theorem fly_un {B : Heap} (un : Un (frs outer) [] H H' s.heap s'.heap) (fr : ∀ b ∈ frs outer, H b = none ∧ ∃ o, s.heap.get? b = some o ∧ ∀ vs, o.data ≠ .fields vs)
    (st : B.StaysIn s'.heap) (kb : ∀ b o, s.heap.get? b = some o → b ∉ frs outer → ∃ o', B.get? b = some o') (st' : B.StaysIn h') (ups : s'.heap.UpToSlots h') : Un (frs outer) [] H H' s.heap h' := by
  have slot : ∀ b o, s.heap.get? b = some o → H b = none → b ∈ frs outer → b ∉ ([] : List Addr) → ∃ sl, h'.get? b = some { o with slots := sl } := fun b o e n hb hx => by
    obtain ⟨sl, e1⟩ := un.slot b o e n hb hx
    obtain ⟨_, ob, eb, hd⟩ := fr b hb
    rw [e] at eb
    cases eb
    obtain ⟨sl2, e2⟩ := ups b _ e1 hd
    exact ⟨sl2, e2⟩
  refine ⟨fun b o e n hb hx => ?_, slot, un.free, fun b o e hx => ?_, un.tups, un.frzs, un.tbls⟩
  · obtain ⟨o', eo⟩ := kb b o e hb
    have e1 := un.keep b o e n hb hx
    have e2 := st b o' eo
    rw [e1] at e2
    cases e2
    exact st' b _ eo
  · by_cases hb : b ∈ frs outer
    · obtain ⟨n, _⟩ := fr b hb
      obtain ⟨sl, e1⟩ := slot b o e n hb hx
      exact ⟨_, e1⟩
    · obtain ⟨o', eo⟩ := kb b o e hb
      exact ⟨o', st' b o' eo⟩
end

section
variable {P : Program} {w : World} {K : PySem.W.Frag} {mg : Str → Option Value} {base : Heap} {N : List Str} {qual : Str} {scope : Scope} {f : Addr} {cd : Value} {A : Around} {outer : List Env} {s₀ : Shared} {H₀ : Hp} {E : XK}
theorem pass1 : Passes (CX1 P w) (cxOf (CX1 P w) P w K mg base N qual scope f cd A outer s₀ H₀ E) E := by
  intro pins σ H1 s1 e s' I h
  obtain ⟨ea, C, H', rfl, F, q⟩ := h
  obtain ⟨B, a0, fly, kb, kt⟩ := F.fly
  show wpAny (model P w) (A.deeper (envOfC qual scope s₀.heap.objs.size f cd)) (leaving (envOfC qual scope s₀.heap.objs.size f cd) (.ref ea)) _ _ s'
  refine wpAny_leaves_onW I.ok.frames rfl fly fun h'' fly' ups => ⟨ea, C, H', rfl, ?_, q⟩
  have b1 : Un (frs outer) [] H₀ H1 s₀.heap s1.heap := I.base
  have nf : ∀ b o, s₀.heap.get? b = some o → b ∉ frs outer → b ∉ frs (envOfC qual scope s₀.heap.objs.size f cd :: outer) := fun b o e hb z => by
    have z' : b ∈ s₀.heap.objs.size :: frs outer := z
    rcases List.mem_cons.mp z' with y | y
    · exact absurd (Heap.lt_size e) (by rw [y]; exact Nat.lt_irrefl _)
    · exact hb y
  have fr : ∀ b ∈ frs (envOfC qual scope s₀.heap.objs.size f cd :: outer), H1 b = none ∧ ∃ o, s1.heap.get? b = some o ∧ ∀ vs, o.data ≠ .fields vs := fun b hb => ⟨I.stkFree b hb, (I.stack.mem hb).2⟩
  have u2 : Un (frs (envOfC qual scope s₀.heap.objs.size f cd :: outer)) [] H1 H' s1.heap h'' := fly_un F.un fr fly.1 kb fly'.1 ups
  have new : s₀.heap.get? ea = none := by
    cases q : s₀.heap.get? ea with
    | none => rfl
    | some o =>
      obtain ⟨o1, e1⟩ := b1.there ea o q (by simp)
      rw [F.new] at e1
      cases e1
  refine ⟨F.os.trans I.os, F.bare, ?_, fly_hok F.hok fly.1 kt fly'.1, new, F.nt, B, a0, fly', fun b o e hb => ?_, kt⟩
  · refine ⟨fun b o e n hb hx => u2.keep b o (b1.keep b o e n hb hx) (b1.free b o e n hx) (nf b o e hb) hx, fun b o e n hb hx => ?_, fun b o e n hx => ?_, fun b o e hx => ?_, fun b xs q => u2.tups b xs (b1.tups b xs q), fun b o u q => u2.frzs b o u (b1.frzs b o u q), fun b ps q => ?_⟩
    · obtain ⟨sl, e1⟩ := b1.slot b o e n hb hx
      obtain ⟨sl2, e2⟩ := u2.any e1 (b1.free b o e n hx) hx
      exact ⟨sl2, e2⟩
    · obtain ⟨o1, e1⟩ := b1.there b o e hx
      exact u2.free b o1 e1 (b1.free b o e n hx) hx
    · obtain ⟨o1, e1⟩ := b1.there b o e hx
      exact u2.there b o1 e1 hx
    · obtain ⟨m1, e1⟩ := b1.tbls b ps q
      obtain ⟨m2, e2⟩ := u2.tbls b _ e1
      exact ⟨m1 ++ m2, by rw [e2, Array.append_assoc]⟩
  · obtain ⟨o1, e1⟩ := b1.there b o e (by simp)
    exact kb b o1 e1 (nf b o e hb)
theorem own_obj {h : Heap} {C : Addr} {bmB : List Value} {newId : String} (X : K.In h) (q : PySem.W.excIn K C bmB newId = true) :
    ∃ bm N nm qn bs hd sn sub ab col dd k0 k1 k2 k3 k5 mN, h.get? C = some (excClassObj nm qn C N bs bm hd sn sub ab col dd k0 k1 k2 k3 k5 newId) ∧ h.Ns N mN ∧ mN "__init__" = none ∧ OwnTail h bmB bm := by
  unfold PySem.W.excIn at q
  split at q
  · rename_i dd cd sl ho
    split at q
    · rename_i C' bm k0 k1 k2 k3 n k5 hm hs
      simp only [Bool.and_eq_true, beq_iff_eq, Bool.not_eq_true'] at q
      obtain ⟨⟨⟨⟨⟨rfl, rfl⟩, hdel⟩, ht⟩, hok⟩, hni⟩ := q
      obtain ⟨nm, bs, mro, ns, qn, hd, sn, sub, ab, col, del⟩ := cd
      dsimp only at hm hdel hok hni
      subst hm hdel
      have hsl : sl = #[k0, k1, k2, k3, some (.builtin n), k5] := by
        obtain ⟨l⟩ := sl
        simp only at hs
        rw [hs]
      subst hsl
      exact ⟨bm, ns, nm, qn, bs, hd, sn, sub, ab, col, dd, k0, k1, k2, k3, k5, _, X _ _ ho, .of_isNs (PySem.W.isNs_of_in X hok), PySem.W.nsMap_none_of_in X hok hni, PySem.W.tail_of_in X ht⟩
    · cases q
  · cases q
structure Exc (K : PySem.W.Frag) (mg : Str → Option Value) (x : Str) (C : Addr) : Prop where
  at_ : mg x = some (.ref C)
  ex : PySem.W.excIn K C [.type "ValueError", .type "Exception", .type "BaseException", .type "object"] "ValueError.__new__" = true
theorem ps_raise {x msg : Str} {C : Addr} {j : Nat} {np cpos pos mp : Pos} (hh : A.handled = none) (Z : Exc K mg x C) (hg : Gl (cxOf (CX1 P w) P w K mg base N qual scope f cd A outer s₀ H₀ E) x)
    (hdb : (x == ("__debug__" : Str)) = false := by decide) :
    PS (cxOf (CX1 P w) P w K mg base N qual scope f cd A outer s₀ H₀ E) (.Raise (some (.Call (.Name x np) [.Constant (.str msg) j mp] [] cpos)) none pos) (fun _ _ H => E (.ref C) none H) := by
  intro pins s σ H D I h
  have hst : starEach [(.Constant (.str msg) j mp : Expr)] (envOfC qual scope s₀.heap.objs.size f cd) = (false, eval (.Constant (.str msg) j mp) (envOfC qual scope s₀.heap.objs.size f cd)) :: starEach [] (envOfC qual scope s₀.heap.objs.size f cd) := rfl
  obtain ⟨bm, Nc, nm, qn, bs, hd, sn, sub, ab, col, dd, k0, k1, k2, k3, k5, mN, hC, hN, hni, T⟩ := own_obj I.mod.kin Z.ex
  refine wpAny_Raise_call_subT (nm := nm) (q := qn) (N := Nc) (bs := bs) (hdct := hd) (sn := sn) (sub := sub) (ab := ab) (col := col) (dd := dd) (k0 := k0) (k1 := k1) (k2 := k2) (k3 := k3) (k5 := k5) PySem.F.excBase_ValueError (T.hasType (by decide +kernel)) hh rfl hni (ld_glob I hg Z.at_ ⟨rfl, ?_⟩ hdb)
  have hA := pa_cons (pe_str (X := cxOf (CX1 P w) P w K mg base N qual scope f cd A outer s₀ H₀ E) (x := msg) (j := j) (pos := mp)) pa_nil hst cpos pins s σ H (fun ws H1 => ws.length = 1 ∧ E (.ref C) none H1) I ⟨rfl, h⟩
  refine Calls.evalArgs_plain (thn hA fun vs s2 ⟨ws, H2, I2, rv, hlen, q⟩ => ⟨rfl, ?_, I2.bk _ _ hC, hN.keeps I2.bk, T.keeps I2.bk, fun h' e hx => ?_⟩)
  · rw [← rv.length, hlen]
    decide
  · have B0 : (PySem.W.hideAll s2.heap (frs (envOfC qual scope s₀.heap.objs.size f cd :: outer))).StaysIn s2.heap := fun b o q => PySem.W.of_hideAll _ q
    have hl : s2.heap.FunFrames (PySem.W.hideAll s2.heap (frs (envOfC qual scope s₀.heap.objs.size f cd :: outer))) (envOfC qual scope s₀.heap.objs.size f cd :: outer) :=
      PySem.W.funFrames_hide (base := base) I2.stack fun env he a ha => List.mem_filterMap.mpr ⟨env, he, ha⟩
    show wpAny (model P w) (A.deeper (envOfC qual scope s₀.heap.objs.size f cd)) (leaving (envOfC qual scope s₀.heap.objs.size f cd) (.ref e)) _ _ { s2 with heap := h' }
    refine wpAny_leaves_madeW (base := PySem.W.hideAll s2.heap (frs (envOfC qual scope s₀.heap.objs.size f cd :: outer))) (h := s2.heap) (args := vs) I2.ok.frames rfl B0 hl hx fun h'' t fly tup bt ups => ⟨e, C, H2, rfl, ?_, q⟩
    have b1 : Un (frs outer) [] H₀ H2 s₀.heap s2.heap := I2.base
    have inB : ∀ b o, s2.heap.get? b = some o → b ∉ frs (envOfC qual scope s₀.heap.objs.size f cd :: outer) → (PySem.W.hideAll s2.heap (frs (envOfC qual scope s₀.heap.objs.size f cd :: outer))).get? b = some o := fun b o e hb => PySem.W.hideAll_get _ e hb
    have nf : ∀ b o, s₀.heap.get? b = some o → b ∉ frs outer → b ∉ frs (envOfC qual scope s₀.heap.objs.size f cd :: outer) := fun b o e hb z => by
      have z' : b ∈ s₀.heap.objs.size :: frs outer := z
      rcases List.mem_cons.mp z' with y | y
      · exact absurd (Heap.lt_size e) (by rw [y]; exact Nat.lt_irrefl _)
      · exact hb y
    have kt : ∀ b u, H2 b = some u → ∃ o', (PySem.W.hideAll s2.heap (frs (envOfC qual scope s₀.heap.objs.size f cd :: outer))).get? b = some o' := fun b u hu => by
      obtain ⟨ob, eb⟩ := (I2.hok b u hu).get
      exact ⟨ob, inB b ob eb fun z => by rw [I2.stkFree b z] at hu; cases hu⟩
    have slot : ∀ b o, s₀.heap.get? b = some o → H₀ b = none → b ∈ frs outer → b ∉ ([] : List Addr) → ∃ sl, h''.get? b = some { o with slots := sl } := fun b o e0 n hb hx' => by
      obtain ⟨sl, e1⟩ := b1.slot b o e0 n hb hx'
      obtain ⟨_, ob, eb, hd'⟩ := I2.ok.funs.mem hb
      have eb' : s₀.heap.get? b = some ob := eb
      rw [e0] at eb'
      cases eb'
      obtain ⟨sl2, e2⟩ := ups b _ (hx.keeps b _ e1) hd'
      exact ⟨sl2, e2⟩
    refine ⟨I2.os, I2.bare, ⟨fun b o e0 n hb hx' => fly.1 b o (inB b o (b1.keep b o e0 n hb hx') (nf b o e0 hb)), slot, b1.free, fun b o e0 hx' => ?_, b1.tups, b1.frzs, b1.tbls⟩, fly_hok (s' := s2) I2.hok B0 kt fly.1, ?_, ?_, _, _, fly, fun b o e0 hb => ?_, kt⟩
    · by_cases hb : b ∈ frs outer
      · obtain ⟨sl, e1⟩ := slot b o e0 (I2.ok.frf b hb) hb hx'
        exact ⟨_, e1⟩
      · obtain ⟨o1, e1⟩ := b1.there b o e0 hx'
        exact ⟨o1, fly.1 b o1 (inB b o1 e1 (nf b o e0 hb))⟩
    · cases q : s₀.heap.get? e with
      | none => rfl
      | some o =>
        obtain ⟨o1, e1⟩ := b1.there e o q (by simp)
        rw [hx.new] at e1
        cases e1
    · cases q : H2 e with
      | none => rfl
      | some u =>
        obtain ⟨ob, eb⟩ := (I2.hok e u q).get
        rw [hx.new] at eb
        cases eb
    · obtain ⟨o1, e1⟩ := b1.there b o e0 (by simp)
      exact ⟨o1, inB b o1 e1 (nf b o e0 hb)⟩
end
end L2

set_option maxHeartbeats 4000000

namespace L2
open PySem PySem.Spec PyProof.Rows
noncomputable def XP (X : Cx) (pins : List (Addr × Obj)) (σ : St) (E : XK) (e : Value) (s' : Shared) : Prop := ∃ H1 s1, Inv X pins σ H1 s1 ∧ CX1 X.prog X.w X.stack H1 s1 E e s'
noncomputable abbrev TX := St → Hp → VK → XK → Prop
noncomputable def PX (X : Cx) (e : Expr) (t : TX) : Prop :=
  ∀ (pins : List (Addr × Obj)) (s : Shared) (σ : St) (H : Hp) (Q : VK) (E : XK), Inv X pins σ H s → t σ H Q E → wpAny (model X.prog X.w) X.A (eval e X.env) (EP X pins σ Q) (XP X pins σ E) s
noncomputable abbrev TSx := Ends → XK → St → Hp → Prop
noncomputable def PSx (X : Cx) (st : Stmt) (t : TSx) : Prop :=
  ∀ (pins : List (Addr × Obj)) (s : Shared) (σ : St) (H : Hp) (D : Ends) (E : XK), Inv X pins σ H s → t D E σ H → wpAny (model X.prog X.w) X.A (exec st X.env) (SP X pins D) (XP X pins σ E) s
noncomputable def PSsx (X : Cx) (st : List Stmt) (t : TSx) : Prop :=
  ∀ (pins : List (Addr × Obj)) (s : Shared) (σ : St) (H : Hp) (D : Ends) (E : XK), Inv X pins σ H s → t D E σ H → wpAny (model X.prog X.w) X.A (execs st X.env) (SP X pins D) (XP X pins σ E) s
theorem noxW {α : Type} {M : Model} {A : Around} {t : Sem α} {Q Q' : α → Shared → Prop} {E : Value → Shared → Prop} {s : Shared} (h : wpAny M A t Q (fun _ _ => False) s) (k : ∀ a s', Q a s' → Q' a s') : wpAny M A t Q' E s :=
  wpAny_mono h k fun _ _ z => z.elim
section
variable {X : Cx} {k : Nat} {f C : Addr} {fd : FuncData} {ps : List Str} {sp : Sp} {dvs : List V} {ds : List Value} {x m : Str} {p pos apos : Pos} {e o : Expr} {es : List Expr} {ta : TE} {t : TA}
theorem run_fnX {E : XK} {pins : List (Addr × Obj)} {σ : St} {H : Hp} {s : Shared} {Q : VK} {us : List Value} {vs : List V} (F : FnOk X.prog X.w X.K X.mg X.base (CX1 X.prog X.w) k f fd ps sp) (hr : Room k X.A) (hb : Binds X.K fd ps ds) (hd : Vals dvs ds)
    (I : Inv X pins σ H s) (r : Vals vs us) (h : sp (vs ++ dvs) H Q E) : wpAny (model X.prog X.w) X.A (call (.ref f) us) (EP X pins σ Q) (XP X pins σ E) s := by
  have r2 : Vals (vs ++ dvs) (us ++ ds) := r.append hd
  have hl : (us ++ ds).length = ps.length := by rw [← r2.length]; exact F.len _ _ _ _ h
  refine wpAny_call (codeAny_mono (F.run X.A X.stack s H ⟨us, []⟩ (us ++ ds) (vs ++ dvs) Q E hr I.env0 (hb s us I.kIn hl) r2 h) fun r s' hq => ?_)
  cases r with
  | error e => exact ⟨H, s, I, hq⟩
  | ok fl =>
    cases fl with
    | ret u => exact I.after hq
    | next => exact False.elim hq
    | brk => exact False.elim hq
    | cont => exact False.elim hq
noncomputable def xCall (sp : Sp) (dvs : List V) (t : TA) : TX := fun σ H Q E => t σ H fun vs H1 => sp (vs ++ dvs) H1 Q E
theorem px_call (F : FnOk X.prog X.w X.K X.mg X.base (CX1 X.prog X.w) k f fd ps sp) (hr : Room k X.A) (hg : Gl X x) (hm : X.mg x = some (.ref f)) (hk : PySem.W.keepIn X.K (.ref f) = true) (hb : Binds X.K fd ps ds) (hd : Vals dvs ds)
    (ha : PA X.nox (e :: es) t) (hdb : (x == ("__debug__" : Str)) = false := by decide) (he : starEach (e :: es) X.env = (false, eval e X.env) :: starEach es X.env := by rfl) (hpl : (backTo pos (starEach es X.env)).any (·.1) = false := by rfl) :
    PX X (.Call (.Name x p) (e :: es) [] pos) (xCall sp dvs t) := by
  intro pins s σ H Q E I h
  refine wpAny_Call_Name_kw (ld_glob I hg hm ?_ hdb)
  refine PySem.W.callWith_K (h₀ := X.base) I.ok.mod.kin hk (noxW (ha pos pins s σ H _ (I.wish _) h) fun us s1 ⟨vs, H1, I1, r, q⟩ => ⟨I1.unwish.kIn, ?_⟩) he hpl
  exact run_fnX F hr hb hd I1.unwish r q
end

section
variable {X : Cx} {e : Expr} {pos : Pos} {tx : TX}
noncomputable def xDrop (t : TX) : TSx := fun D E σ H => t σ H (fun _ H1 => D.nx σ H1) E
theorem psx_expr (he : PX X e tx) (hs : swapsWith e none pos.line X.env = pure false := by rfl) : PSx X (.Expr e pos) (xDrop tx) := by
  intro pins s σ H D E I h
  exact wpAny_Expr_any (thn (he pins s σ H _ E I h) fun v s1 ⟨x, H1, I1, r1, q1⟩ => ⟨σ, H1, I1, q1⟩) I.quiet hs
theorem pssx_one {st : Stmt} {t : TSx} (h : PSx X st t) : PSsx X [st] t := by
  intro pins s σ H D E I q
  refine wpAny_execs_cons (thn (h pins s σ H D E I q) fun f s1 q1 => ?_)
  cases f with
  | next => exact wpAny_execs_nil q1
  | brk => exact q1
  | cont => exact q1
  | ret v => exact q1
end

noncomputable def cxS (X : Cx) (ea : Addr) : Cx := { X with A := X.A.mark (some (.ref ea)), calm := false, xe := fun _ _ => False }
noncomputable def excO (ea C : Addr) : HO := .ext fun h => ∃ oe vs, h.get? ea = some oe ∧ oe.cls = .ref C ∧ oe.data = .fields vs
section
variable {X : Cx} {pins : List (Addr × Obj)} {σ : St} {H : Hp} {s : Shared} {ea : Addr}
theorem Inv.suite (I : Inv X pins σ H s) : Inv (cxS X ea) pins σ H s :=
  ⟨⟨I.ok.mod, I.ok.kind, I.ok.glob, I.ok.blt, I.ok.above, I.ok.inj, I.ok.has, I.ok.cab, fun z => (by cases z), I.ok.frames, I.ok.stk, I.ok.exf, I.ok.bs, I.ok.bsz, I.ok.noex, I.ok.exfs, I.ok.funs, I.ok.frf⟩, I.os, I.bare, I.base, I.loc, I.cell, I.free, I.freeC, I.pin, I.hok, I.len⟩
theorem Inv.unsuite (ok : X.Ok) (I : Inv (cxS X ea) pins σ H s) : Inv X pins σ H s := ⟨ok, I.os, I.bare, I.base, I.loc, I.cell, I.free, I.freeC, I.pin, I.hok, I.len⟩
theorem Un.track {fs ex : List Addr} {H H' : Hp} {h h' : Heap} {a : Addr} {o : HO} (u : Un fs ex H H' h h') (n : H' a = none) (new : h.get? a = none) : Un fs ex H (upd H' a o) h h' :=
  ⟨u.keep, u.slot, fun b ob q n' hx => by
    rw [upd_ne (fun z => by rw [z, new] at q; cases q)]
    exact u.free b ob q n' hx, u.there, fun b xs q => by
    have q' := u.tups b xs q
    rw [upd_ne (ne_of_none q' n)]
    exact q', fun b ob v q => by
    have q' := u.frzs b ob v q
    rw [upd_ne (ne_of_none q' n)]
    exact q', fun b ps q => by
    obtain ⟨m, q'⟩ := u.tbls b ps q
    exact ⟨m, by rw [upd_ne (ne_of_none q' n)]; exact q'⟩⟩
theorem HOk.track {P : Program} {w : World} {H' : Hp} {h' : Heap} {a : Addr} {o : HO} (k : HOk P w H' h') (n : H' a = none) (new : ObjOk P w (upd H' a o) h' a o) : HOk P w (upd H' a o) h' := fun b u e => by
  by_cases hb : b = a
  · subst hb
    rw [upd_same] at e
    cases e
    exact new
  · rw [upd_ne hb] at e
    exact (k b u e).stay (fun c v _ q => q) (fun c q => by rw [upd_ne (ne_of_none q n)]; exact q) fun c xs q => by rw [upd_ne (ne_of_none q n)]; exact q
theorem name_goes {M : Model} {A : Around} {E : Value → Shared → Prop} {i : Nat} {x : Str} {pos : Pos} {Q : Unit → Shared → Prop} (I : Inv X pins σ H s) (hN : X.N.Nodup) (hi : X.N[i]? = some x) (hk : X.env.scope.names.lookup x = some .local)
    (h : ∀ s', Inv X pins (σ.set i none) H s' → Q () s') : wpAny M A (do bindName X.env x .none; unbindBehindTheSuite X.env x pos) Q E s := by
  obtain ⟨m, hn, hl⟩ := id I.loc
  have hcls : (X.env.scope.kind == .class || (X.env.scope.kind == .module && X.env.locals != X.env.globals)) = false := by rw [I.ok.kind]; rfl
  have hiσ : i < σ.length := by rw [I.len]; exact (List.getElem?_eq_some_iff.mp hi).1
  have cne := I.cne
  refine wpAny_nameGoes_keeps hk hn hcls fun h' v hn' hs => ?_
  have tracked : HOk X.prog X.w H h' := fun b ob e => by
    refine (I.hok b ob e).stay (fun c w' hc q => (hs.2 c ?_).trans q) (fun _ q => q) fun _ _ q => q
    rintro rfl
    rcases hc with rfl | hc
    · rw [I.free] at e; cases e
    · rw [I.free] at hc; cases hc
  refine h _ ⟨I.ok, I.os, I.bare, ⟨fun b o e n hb hx => ?_, fun b o e n hb hx => ?_, I.base.free, fun b o e hx => ?_, I.base.tups, I.base.frzs, I.base.tbls⟩, ⟨_, hn', fun j y v' e1 e2 e3 => ?_⟩, fun y c e => ?_, I.free, I.freeC, fun p hp => ?_, tracked, by simpa using I.len⟩
  · exact (hs.2 b (Nat.ne_of_lt (Nat.lt_of_lt_of_le (Heap.lt_size e) I.ok.above))).trans (I.base.keep b o e n hb hx)
  · obtain ⟨sl, e1⟩ := I.base.slot b o e n hb hx
    exact ⟨sl, (hs.2 b (Nat.ne_of_lt (Nat.lt_of_lt_of_le (Heap.lt_size e) I.ok.above))).trans e1⟩
  · obtain ⟨o', e1⟩ := I.base.there b o e hx
    exact ⟨o', (hs.2 b (Nat.ne_of_lt (Nat.lt_of_lt_of_le (Heap.lt_size e) I.ok.above))).trans e1⟩
  · by_cases hj : j = i
    · subst hj
      rw [List.getElem?_set_self hiσ] at e2
      cases e2
    · rw [List.getElem?_set_ne (Ne.symm hj)] at e2
      obtain ⟨u', r', q⟩ := hl j y v' e1 e2 e3
      refine ⟨u', r', ?_⟩
      rcases q with ⟨k, e⟩ | ⟨k, c, e, z⟩
      · refine .inl ⟨k, ?_⟩
        have : y ≠ x := fun e => hj (nodup_ix hN e1 (e ▸ hi))
        simp [this, e]
      · exact .inr ⟨k, c, e, z.sameBut hs (cne y c e)⟩
  · obtain ⟨w', z⟩ := I.cell y c e
    exact ⟨w', z.sameBut hs (cne y c e)⟩
  · obtain ⟨e, n, ne, nf, d⟩ := I.pin p hp
    exact ⟨(hs.2 p.1 ne).trans e, n, ne, nf, d⟩
end

noncomputable def endsAs (D : Ends) (i : Nat) : Ends := { nx := fun σ H => D.nx (σ.set i none) H, rt := D.rt, bk := fun σ H => D.bk (σ.set i none) H, ct := fun σ H => D.ct (σ.set i none) H }
noncomputable def xTake (K : PySem.W.Frag) (CT : Addr) (i : Nat) (ts : TS) (D : Ends) (σ : St) : XK := fun Cv _ H' => ∃ C, Cv = .ref C ∧ PySem.W.exmOne K (.ref C) (.ref CT) = some true ∧ ∀ ea, H' ea = none → ts (endsAs D i) (σ.set i (some (.ref ea))) (upd H' ea (excO ea C))
section
variable {X : Cx} {T n : Str} {CT : Addr} {i : Nat} {body suite : List Stmt} {b₀ : Stmt} {tb : TSx} {ts : TS} {np hpos pos : Pos}
theorem landed {pins : List (Addr × Obj)} {σ : St} {H1 H' : Hp} {s0 s1 : Shared} {ea C : Addr} {Q : Flow → Shared → Prop} {E : Value → Shared → Prop} {nm : Option Str} (hst : X.stack = X.env :: X.outer ∧ X.env.frame = some X.env.locals)
    (hg : Gl X T) (hm : X.mg T = some (.ref CT)) (hdb : (T == ("__debug__" : Str)) = false) (I0 : Inv X pins σ H1 s0) (F : Flies X.prog X.w X.stack H1 s0 ea C H' s1) (hx : PySem.W.exmOne X.K (.ref C) (.ref CT) = some true)
    (k : ∀ (s5 : Shared) (R : Result → Shared → Prop),
      (R = fun r s₂ => match r with
          | .ok f => (match nm with
            | none => Q f s₂
            | some n => wpAny (model X.prog X.w) X.A (do bindName X.env n .none; unbindBehindTheSuite X.env n hpos) (fun _ s₃ => Q f s₃) E s₂)
          | .error x => cameBackBy (model X.prog X.w) X.A X.env E x s₂) →
      (∀ (Q' : Unit → Shared → Prop) (E' : Value → Shared → Prop), (∀ s6, Inv X pins σ (upd H' ea (excO ea C)) s6 → Q' () s6) → wpAny (model X.prog X.w) (X.A.mark (some (.ref ea))) (setFlight (.ref ea) none) Q' E' s5) →
      codeAny (model X.prog X.w) (X.A.mark (some (.ref ea))) (.handlers (.ref ea) [.ExceptHandler none nm (b₀ :: suite) hpos] X.env) R s5) :
    wpAny (model X.prog X.w) X.A (noteFrame (.ref ea) X.env) (fun _ s₂ => wpAny (model X.prog X.w) X.A (setFlight (.ref ea) none) (fun _ s₃ => wpAny (model X.prog X.w) X.A (handleBy (.ref ea) X.env [.ExceptHandler (some (.Name T np)) nm (b₀ :: suite) hpos]) Q E s₃) E s₂) E s1 := by
  obtain ⟨B, a0, fly, kb, kt⟩ := F.fly
  have fr : ∀ b ∈ frs X.stack, H1 b = none ∧ ∃ o, s0.heap.get? b = some o ∧ ∀ vs, o.data ≠ .fields vs := fun b hb => ⟨I0.stkFree b hb, (I0.stack.mem hb).2⟩
  have fly' := fly
  rw [hst.1] at fly'
  refine wpAny_looks_onW (I0.ok.frames.trans (congrArg some hst.1)) hst.2 fly' fun h4 held4 ups4 => ?_
  refine wpAny_landsW held4 fun h5 fly5 ups5 => ?_
  have I5 : Inv X pins σ H' { s1 with heap := h5 } := I0.call' (ch := []) F.os (fly_un F.un fr fly.1 kb fly5.1 (ups4.trans ups5)) (fly_hok F.hok fly.1 kt fly5.1) F.bare (fun _ z => nomatch z)
  obtain ⟨ob5, e5, c5⟩ := fly5.there
  refine wpAny_handleBy_cons (codeAny_handlers_test (ld_glob (X := cxS X ea) I5.suite hg hm ?_ hdb)) (by intro q; cases q)
  have LT : PySem.W.Looks (model X.prog X.w) h5 (typeOf (.ref ea)) (.ref C) := c5 ▸ (PySem.W.Looks.ld e5).andThen .now
  refine (PySem.W.exm_one (K := X.K) (h := h5) I5.kIn LT hx).here ?_
  refine k _ _ rfl fun Q' E' hq => ?_
  refine lands_againW fly5 fun h6 fly6 ups6 => hq _ ?_
  obtain ⟨oe, vs, e6, c6, d6, _⟩ := fly6.first
  refine I0.call' (ch := []) F.os (Un.track (fly_un F.un fr fly.1 kb fly6.1 ((ups4.trans ups5).trans ups6)) F.nt F.new) (HOk.track (fly_hok F.hok fly.1 kt fly6.1) F.nt ?_) F.bare (fun _ z => nomatch z)
  exact ⟨⟨oe, vs, e6, c6, d6⟩, ⟨oe, e6⟩, fun h1 h2 ⟨o, ws, q1, q2, q3⟩ kk => ⟨o, ws, kk o q1, q2, q3⟩⟩
theorem ps_try (hst : X.stack = X.env :: X.outer ∧ X.env.frame = some X.env.locals) (hN : X.N.Nodup) (hi : X.N[i]? = some n) (hl : X.env.scope.names.lookup n = some .local) (hg : Gl X T) (hm : X.mg T = some (.ref CT))
    (hb : PSsx X body tb) (hs : ∀ ea, PSs (cxS X ea) (b₀ :: suite) ts) (hdb : (T == ("__debug__" : Str)) = false := by decide) :
    PS X (.Try body [.ExceptHandler (some (.Name T np)) (some n) (b₀ :: suite) hpos] [] [] pos) (fun D σ H => tb D (xTake X.K CT i ts D σ) σ H) := by
  intro pins s σ H D I h
  refine wpAny_Try_except (wpAny_mono (hb pins s σ H D _ I h) (fun f s1 q => ?_) fun e s1 q => ?_)
  · cases f with
    | next => exact wpAny_execs_nil q
    | brk => exact q
    | cont => exact q
    | ret v => exact q
  · obtain ⟨H1, s0, I0, ea, C, H', rfl, F, C', eC, hx, kk⟩ := q
    cases eC
    refine landed hst hg hm hdb I0 F hx fun s5 R eR land => ?_
    subst eR
    refine codeAny_handlers_suite_as (land _ _ fun s6 I6 => ?_)
    refine store_ok (X := cxS X ea) (v := .ref ea) I6.suite hN hi (.inl hl) rfl (fun s7 I7 => ?_) (.inr hl)
    refine wpAny_mono (hs ea pins s7 _ _ (endsAs D i) I7 (kk ea F.nt)) (fun f s8 q8 => ?_) fun _ _ z => z.elim
    cases f with
    | next =>
      obtain ⟨σ8, H8, I8, q⟩ := q8
      exact name_goes (I8.unsuite I.ok) hN hi hl fun s9 I9 => ⟨_, H8, I9, q⟩
    | brk =>
      obtain ⟨σ8, H8, I8, q⟩ := q8
      exact name_goes (I8.unsuite I.ok) hN hi hl fun s9 I9 => ⟨_, H8, I9, q⟩
    | cont =>
      obtain ⟨σ8, H8, I8, q⟩ := q8
      exact name_goes (I8.unsuite I.ok) hN hi hl fun s9 I9 => ⟨_, H8, I9, q⟩
    | ret v =>
      obtain ⟨x8, σ8, H8, I8, r8, q⟩ := q8
      exact name_goes (I8.unsuite I.ok) hN hi hl fun s9 I9 => ⟨x8, _, H8, I9, r8, q⟩
end

noncomputable def tyVal : V → Option Value
  | .ref a => some (.ref a)
  | .ty n => some (.type n)
  | _ => none
theorem tyVal_of {c : V} {u cv : Value} (r : RelV c u) (e : tyVal c = some cv) : u = cv := by
  cases c <;> first | (cases e; exact r) | cases e
section
variable {X : Cx}
theorem call_isi : CallR X (.builtin "isinstance") (fun xs H Q => ∃ x c cv t b, xs = [x, c] ∧ tyVal c = some cv ∧ TyOf X.K H x t ∧ PySem.W.kitOne X.K t cv = some b ∧ Q (.bl b) H) := by
  intro pins s σ H xs us Q I r h
  obtain ⟨x, c, cv, t, b, rfl, ec, ty, ek, q⟩ := h
  obtain ⟨u, u2, rfl, ru, ru2⟩ := vals2 r
  have e2 := tyVal_of ru2 ec
  subst e2
  exact isinst_ok I ru ty ek fun tk => ⟨.bl b, H, I.tok tk, rfl, q⟩
end
section
variable {K : PySem.W.Frag} {x t c : Value} {P : Heap → Prop}
end
section
variable {X : Cx}
end

mutual
noncomputable def RdD (H : Hp) : PyData → V → Prop
  | .none, v => v = .non
  | .bool b, v => v = .bl b
  | .int i, v => v = .int i
  | .str x, v => v = .str x
  | .list ds, v => ∃ a xs, v = .ref a ∧ H a = some (.lst xs) ∧ RdDs H ds xs
  | .tuple ds, v => ∃ a xs, v = .ref a ∧ H a = some (.tup xs) ∧ RdDs H ds xs
  | .dict _, _ => False
noncomputable def RdDs (H : Hp) : List PyData → List V → Prop
  | [], xs => xs = []
  | d :: ds, xs => ∃ x r, xs = x :: r ∧ RdD H d x ∧ RdDs H ds r
end
section
variable {P : Program} {w : World} {H : Hp} {h : Heap}
mutual
theorem reads_of (ok : HOk P w H h) : ∀ {d : PyData} {v : V} {u : Value}, RdD H d v → RelV v u → ∃ as, Reads h u d as
  | .none, v, u, e, r => by
    rw [RdD] at e; subst e
    cases (show u = Value.none from r)
    exact ⟨_, .none⟩
  | .bool b, v, u, e, r => by
    rw [RdD] at e; subst e
    cases (show u = Value.bool b from r)
    exact ⟨_, .bool b⟩
  | .int i, v, u, e, r => by
    rw [RdD] at e; subst e
    obtain ⟨t, rfl⟩ := (show ∃ t, u = Value.int i t from r)
    exact ⟨_, .int i t⟩
  | .str x, v, u, e, r => by
    rw [RdD] at e; subst e
    obtain ⟨t, rfl⟩ := (show ∃ t, u = Value.str x t from r)
    exact ⟨_, .str x t⟩
  | .list ds, v, u, e, r => by
    rw [RdD] at e
    obtain ⟨a, xs, rfl, ha, e⟩ := e
    cases (show u = Value.ref a from r)
    obtain ⟨_, its, n, rv, q⟩ := ok a _ ha
    obtain ⟨as, ra⟩ := readsAll_of ok e rv
    exact ⟨_, .list q rfl rfl (by simpa using ra)⟩
  | .tuple ds, v, u, e, r => by
    rw [RdD] at e
    obtain ⟨a, xs, rfl, ha, e⟩ := e
    cases (show u = Value.ref a from r)
    obtain ⟨_, its, rv, ob, q, hc, n, hd⟩ := ok a _ ha
    obtain ⟨as, ra⟩ := readsAll_of ok e rv
    exact ⟨_, .tuple q hc hd (by simpa using ra)⟩
  | .dict _, v, u, e, r => by
    rw [RdD] at e
    exact e.elim
theorem readsAll_of (ok : HOk P w H h) : ∀ {ds : List PyData} {vs : List V} {us : List Value}, RdDs H ds vs → Vals vs us → ∃ as, ReadsAll h us ds as
  | [], vs, us, e, r => by
    rw [RdDs] at e; subst e
    cases r
    exact ⟨_, .nil⟩
  | d :: ds, vs, us, e, r => by
    rw [RdDs] at e
    obtain ⟨x, rs, rfl, e1, e2⟩ := e
    cases r with
    | cons r1 r2 =>
      obtain ⟨as, ra⟩ := reads_of ok e1 r1
      obtain ⟨bs, rb⟩ := readsAll_of ok e2 r2
      exact ⟨_, .cons ra rb⟩
end
end
section
variable {X : Cx}
noncomputable def rEqD (neg : Bool) : R2 := fun x y H Q => ∃ da db, RdD H da x ∧ RdD H db y ∧ da.canLay0 = true ∧ db.canLay0 = true ∧ da.depth ≤ 16 ∧ Q (.bl (if neg then !PyData.eqv da db else PyData.eqv da db)) H
theorem op_eqD (hu : X.A.units + 64 < cLine) : OpR X (compareOp .Eq) (rEqD false) := by
  intro pins s σ H x y v u Q I rx ry h
  obtain ⟨da, db, ha, hb, la, lb, dp, q⟩ := h
  obtain ⟨as, ra⟩ := reads_of I.hok ha rx
  obtain ⟨bs, rb⟩ := reads_of I.hok hb ry
  exact SeqAt.compareEq_reads ra rb la lb (by have := Nat.min_le_left da.depth db.depth; omega) ⟨.bl _, H, I, rfl, q⟩
theorem op_neD (hu : X.A.units + 64 < cLine) : OpR X (compareOp .NotEq) (rEqD true) := by
  intro pins s σ H x y v u Q I rx ry h
  obtain ⟨da, db, ha, hb, la, lb, dp, q⟩ := h
  obtain ⟨as, ra⟩ := reads_of I.hok ha rx
  obtain ⟨bs, rb⟩ := reads_of I.hok hb ry
  exact SeqAt.compareNe_reads ra rb la lb (by have := Nat.min_le_left da.depth db.depth; omega) ⟨.bl _, H, I, rfl, q⟩
end
end L2

set_option maxHeartbeats 4000000

namespace Bd
open PySem L2

noncomputable def inB (R C : Nat) (r c : Int) : Prop := 0 ≤ r ∧ r < R ∧ 0 ≤ c ∧ c < C
instance (R C : Nat) (r c : Int) : Decidable (inB R C r c) := by unfold inB; infer_instance
noncomputable def offs : List (Int × Int) := [(-1, 0), (-1, 1), (0, -1), (0, 1), (1, -1), (1, 0)]
noncomputable def around (r c : Int) : List (Int × Int) := offs.map fun o => (r + o.1, c + o.2)
noncomputable def nearL (R C : Nat) (r c : Int) : List (Int × Int) := (around r c).filter fun p => decide (inB R C p.1 p.2)
noncomputable def keyC (r c : Int) : List Key := [Sum.inl r, Sum.inl c]
noncomputable def cellsRC (R C : Nat) : List (Nat × Nat) := (List.range R).flatMap fun r => (List.range C).map fun c => (r, c)
noncomputable def kvsOf (R C : Nat) (own : Nat × Nat → Int) : List (List Key × V) := (cellsRC R C).map fun p => (keyC p.1 p.2, V.int (own p))
theorem mem_cells {R C : Nat} {p : Nat × Nat} : p ∈ cellsRC R C ↔ p.1 < R ∧ p.2 < C := by
  obtain ⟨r, c⟩ := p
  unfold cellsRC
  simp only [List.mem_flatMap, List.mem_range, List.mem_map, Prod.mk.injEq]
  constructor
  · rintro ⟨a, ha, b, hb, rfl, rfl⟩
    exact ⟨ha, hb⟩
  · rintro ⟨h1, h2⟩
    exact ⟨r, h1, c, h2, rfl, rfl⟩
theorem cells_succ (R C : Nat) : cellsRC (R + 1) C = cellsRC R C ++ (List.range C).map fun c => (R, c) := by
  unfold cellsRC
  rw [List.range_succ, List.flatMap_append]
  simp
theorem keyC_inj {r c r' c' : Int} (h : keyC r c = keyC r' c') : r = r' ∧ c = c' := by
  unfold keyC at h
  simp only [List.cons.injEq, Sum.inl.injEq, and_true] at h
  exact h
theorem keyC_nat {p q : Nat × Nat} (h : keyC p.1 p.2 = keyC q.1 q.2) : p = q := by
  obtain ⟨h1, h2⟩ := keyC_inj h
  obtain ⟨a, b⟩ := p
  obtain ⟨a', b'⟩ := q
  simp only at h1 h2
  rw [Int.ofNat.inj h1, Int.ofNat.inj h2]
section
variable {α κ : Type} [DecidableEq κ]
theorem valV_map_mem (k : α → κ) (v : α → V) (p0 : α) : ∀ l : List α, p0 ∈ l → (∀ p ∈ l, k p = k p0 → p = p0) → valV (l.map fun p => (k p, v p)) (k p0) = some (v p0)
  | [], h, _ => by simp at h
  | p :: r, h, inj => by
    rw [List.map_cons]
    by_cases e : k p = k p0
    · rw [valV_pos e, inj p (List.mem_cons.mpr (.inl rfl)) e]
    · rw [valV_neg e]
      refine valV_map_mem k v p0 r ?_ fun q hq => inj q (List.mem_cons.mpr (.inr hq))
      rcases List.mem_cons.mp h with z | z
      · exact absurd (by rw [z]) e
      · exact z
theorem valV_map_none (k : α → κ) (v : α → V) (key : κ) : ∀ l : List α, (∀ p ∈ l, k p ≠ key) → valV (l.map fun p => (k p, v p)) key = none
  | [], _ => rfl
  | p :: r, h => by
    rw [List.map_cons, valV_neg (h p (List.mem_cons.mpr (.inl rfl)))]
    exact valV_map_none k v key r fun q hq => h q (List.mem_cons.mpr (.inr hq))
theorem putK_map (k : α → κ) (v v' : α → V) (p0 : α) (z : V) (l : List α) (h : p0 ∈ l) (inj : ∀ p ∈ l, k p = k p0 → p = p0) (e0 : v' p0 = z) (e1 : ∀ p ∈ l, p ≠ p0 → v' p = v p) :
    putK (l.map fun p => (k p, v p)) (k p0) z = l.map fun p => (k p, v' p) := by
  unfold putK
  rw [if_pos]
  · rw [List.map_map]
    refine List.map_congr_left fun p hp => ?_
    show (if k p = k p0 then (k p, z) else (k p, v p)) = (k p, v' p)
    by_cases e : k p = k p0
    · have := inj p hp e
      subst this
      rw [if_pos rfl, e0]
    · rw [if_neg e, e1 p hp fun z => e (by rw [z])]
  · rw [valV_any, valV_map_mem k v p0 l h inj]
    rfl
end
theorem val_kvs (R C : Nat) (own : Nat × Nat → Int) (r c : Int) : valV (kvsOf R C own) (keyC r c) = if inB R C r c then some (V.int (own (r.toNat, c.toNat))) else none := by
  by_cases h : inB R C r c
  · rw [if_pos h]
    obtain ⟨h1, h2, h3, h4⟩ := h
    have e : keyC r c = (fun p : Nat × Nat => keyC p.1 p.2) (r.toNat, c.toNat) := by
      show keyC r c = keyC ((r.toNat : Nat) : Int) ((c.toNat : Nat) : Int)
      rw [Int.toNat_of_nonneg h1, Int.toNat_of_nonneg h3]
    rw [e]
    exact valV_map_mem (fun p : Nat × Nat => keyC p.1 p.2) (fun p => V.int (own p)) (r.toNat, c.toNat) _ (mem_cells.mpr ⟨by show r.toNat < R; omega, by show c.toNat < C; omega⟩) fun p _ q => keyC_nat q
  · rw [if_neg h]
    refine valV_map_none (fun p : Nat × Nat => keyC p.1 p.2) (fun p => V.int (own p)) _ _ fun p hp e => h ?_
    obtain ⟨e1, e2⟩ := keyC_inj e
    obtain ⟨l1, l2⟩ := mem_cells.mp hp
    refine ⟨?_, ?_, ?_, ?_⟩ <;> omega
theorem len_cells (R C : Nat) : (cellsRC R C).length = R * C := by
  induction R with
  | zero => simp [cellsRC]
  | succ n ih => rw [cells_succ, List.length_append, ih, List.length_map, List.length_range, Nat.succ_mul]
theorem len_kvs (R C : Nat) (own : Nat × Nat → Int) : (kvsOf R C own).length = R * C := by
  unfold kvsOf
  rw [List.length_map, len_cells]
theorem n_hw : ¬ (("height" : Str) = "width") := by decide +kernel
theorem n_ho : ¬ (("height" : Str) = "owners") := by decide +kernel
theorem n_wo : ¬ (("width" : Str) = "owners") := by decide +kernel
noncomputable def bflds (r c : Int) (d : Addr) : List (Str × V) := putF "owners" (.ref d) (putF "width" (.int c) (putF "height" (.int r) []))
theorem bflds_eq (r c : Int) (d : Addr) : bflds r c d = ([("height", V.int r), ("width", V.int c), ("owners", V.ref d)] : List (Str × V)) := by
  have e1 : putF "width" (.int c) (putF "height" (.int r) []) = ([("height", V.int r), ("width", V.int c)] : List (Str × V)) := by
    show (if ("height" : Str) = "width" then _ else (("height" : Str), V.int r) :: putF "width" (V.int c) []) = _
    rw [if_neg n_hw]
    rfl
  unfold bflds
  rw [e1]
  show (if ("height" : Str) = "owners" then _ else (("height" : Str), V.int r) :: (if ("width" : Str) = "owners" then _ else (("width" : Str), V.int c) :: putF "owners" (V.ref d) [])) = _
  rw [if_neg n_ho, if_neg n_wo]
  rfl
theorem bflds_h (r c : Int) (d : Addr) : (bflds r c d).lookup ("height" : Str) = some (.int r) := by
  unfold bflds
  rw [lookup_putF, if_neg n_ho, lookup_putF, if_neg n_hw, lookup_putF, if_pos rfl]
theorem bflds_w (r c : Int) (d : Addr) : (bflds r c d).lookup ("width" : Str) = some (.int c) := by
  unfold bflds
  rw [lookup_putF, if_neg n_wo, lookup_putF, if_pos rfl]
theorem bflds_o (r c : Int) (d : Addr) : (bflds r c d).lookup ("owners" : Str) = some (.ref d) := by
  unfold bflds
  rw [lookup_putF, if_pos rfl]
theorem bflds_no (r c : Int) (d : Addr) {m : Str} (h1 : ¬ m = "owners") (h2 : ¬ m = "width") (h3 : ¬ m = "height") : (bflds r c d).lookup m = none := by
  unfold bflds
  rw [lookup_putF, if_neg h1, lookup_putF, if_neg h2, lookup_putF, if_neg h3]
  rfl
structure BoardAt (CB : Addr) (H : Hp) (p d : Addr) (R C : Nat) (own : Nat × Nat → Int) : Prop where
  ob : ∃ dx, H p = some (.ins CB dx (bflds R C d))
  dc : H d = some (.dT (kvsOf R C own))
theorem BoardAt.mono {CB : Addr} {H H' : Hp} {p d : Addr} {R C : Nat} {own : Nat × Nat → Int} (b : BoardAt CB H p d R C own) (s : Same H H') : BoardAt CB H' p d R C own :=
  ⟨let ⟨dx, e⟩ := b.ob; ⟨dx, s _ _ e⟩, s _ _ b.dc⟩
noncomputable def CellAt (H : Hp) (b : Addr) (r c : Int) : Prop := H b = some (.tup [.int r, .int c])
theorem CellAt.mono {H H' : Hp} {b : Addr} {r c : Int} (h : CellAt H b r c) (s : Same H H') : CellAt H' b r c := s _ _ h
theorem cell_get {CB : Addr} {H : Hp} {p d b : Addr} {R C : Nat} {own : Nat × Nat → Int} {r c : Int} (B : BoardAt CB H p d R C own) (h : CellAt H b r c) :
    DGet H d (.ref b) (if inB R C r c then some (V.int (own (r.toNat, c.toNat))) else none) := by
  rw [← val_kvs]
  exact DGet.t B.dc h
noncomputable def CellsAt (H : Hp) : List Addr → List (Int × Int) → Prop := Paired fun a p => CellAt H a p.1 p.2
theorem CellsAt.mono {H H' : Hp} {as : List Addr} {cs : List (Int × Int)} (h : CellsAt H as cs) (s : Same H H') : CellsAt H' as cs := Paired.mapP h fun _ _ q => q.mono s
theorem CellsAt.append {H : Hp} : ∀ {as bs : List Addr} {cs ds : List (Int × Int)}, CellsAt H as cs → CellsAt H bs ds → CellsAt H (as ++ bs) (cs ++ ds)
  | _, _, _, _, .nil, h => h
  | _, _, _, _, .cons q t, h => .cons q (CellsAt.append t h)
theorem CellsAt.len {H : Hp} : ∀ {as : List Addr} {cs : List (Int × Int)}, CellsAt H as cs → as.length = cs.length
  | _, _, .nil => rfl
  | _, _, .cons _ t => by rw [List.length_cons, List.length_cons, CellsAt.len t]
theorem CellsAt.get {H : Hp} : ∀ {as : List Addr} {cs : List (Int × Int)} {i : Nat} {a : Addr}, CellsAt H as cs → as[i]? = some a → ∃ p, cs[i]? = some p ∧ CellAt H a p.1 p.2
  | _, _, _, _, .nil, e => by simp at e
  | _, _, 0, _, .cons q _, e => by
    simp at e
    subst e
    exact ⟨_, rfl, q⟩
  | _, _, i + 1, a, .cons _ t, e => by
    obtain ⟨p, h1, h2⟩ := CellsAt.get (i := i) (a := a) t (by simpa using e)
    exact ⟨p, by simpa using h1, h2⟩
noncomputable def LCells (H : Hp) (l : Addr) (cs : List (Int × Int)) : Prop := ∃ as, H l = some (.lst (as.map V.ref)) ∧ CellsAt H as cs
theorem LCells.mono {H H' : Hp} {l : Addr} {cs : List (Int × Int)} (h : LCells H l cs) (s : Same H H') : LCells H' l cs := let ⟨as, h1, h2⟩ := h; ⟨as, s _ _ h1, h2.mono s⟩
theorem LCells.other {H : Hp} {l m : Addr} {cs : List (Int × Int)} {xs ys : List V} (h : LCells H l cs) (n : l ≠ m) (hm : H m = some (.lst xs)) : LCells (upd H m (.lst ys)) l cs := by
  obtain ⟨as, h1, h2⟩ := h
  refine ⟨as, by rw [upd_ne n]; exact h1, Paired.mapP h2 fun a p e => ?_⟩
  have e' : H a = some (.tup [.int p.1, .int p.2]) := e
  show (upd H m (.lst ys)) a = _
  rw [upd_ne (fun z => by rw [z, hm] at e'; cases e')]
  exact e'
theorem rd_bools {H : Hp} : ∀ (bs : List Bool), RdDs H (bs.map PyData.bool) (bs.map V.bl)
  | [] => by rw [List.map_nil, List.map_nil, RdDs]
  | b :: r => by
    rw [List.map_cons, List.map_cons, RdDs]
    exact ⟨_, _, rfl, by rw [RdD], rd_bools r⟩
theorem rd_lbools {H : Hp} {l : Addr} (bs : List Bool) (h : H l = some (.lst (bs.map V.bl))) : RdD H (.list (bs.map PyData.bool)) (.ref l) := by
  rw [RdD]
  exact ⟨l, _, rfl, h, rd_bools bs⟩
end Bd

set_option maxHeartbeats 4000000

namespace L2
open PySem PySem.Spec PyProof.Rows
section
variable {P : Program} {w : World} {K : PySem.W.Frag} {mg : Str → Option Value} {base : Heap}
theorem Fun.ok1 {x qual : Str} {st : Stmt} {f : Addr} {fd : FuncData} {N ps : List Str} {k : Nat} {sp : Sp} (F : Fun K x qual st f fd) (S : FnScope N ps (defScope st)) (len : ∀ vs H Q E, sp vs H Q E → vs.length = ps.length)
    (hbody : ∀ (cdv : Value) (A : Around) (outer : List Env) (s : Shared) (H : Hp) (vs : List V) (Q : VK) (E : XK), Room k (A.deeper (envOfC qual (defScope st) s.heap.objs.size f cdv)) → sp vs H Q E →
      ∃ t, PSs (cxOf (CX1 P w) P w K mg base N qual (defScope st) f cdv A outer s H E) (defBody st) t ∧ t { nx := fun _ H' => Q .non H', rt := Q } (start N vs) H) : FnOk P w K mg base (CX1 P w) (k + 1) f fd ps sp := by
  obtain ⟨oc, od, kV, doc, pm, an, cdv, ct, osl, rfl, lk, hcd⟩ := F.ex
  exact fn_of lk hcd S len fun A outer s H vs Q E hr hsp => hbody cdv A outer s H vs Q E hr hsp
theorem Fun.ok0 {x qual : Str} {st : Stmt} {f : Addr} {fd : FuncData} {N ps : List Str} {k : Nat} {sp : Sp} (F : Fun K x qual st f fd) (S : FnScope N ps (defScope st)) (len : ∀ vs H Q E, sp vs H Q E → vs.length = ps.length)
    (hbody : ∀ (cdv : Value) (A : Around) (outer : List Env) (s : Shared) (H : Hp) (vs : List V) (Q : VK) (E : XK), Room k (A.deeper (envOfC qual (defScope st) s.heap.objs.size f cdv)) → sp vs H Q E →
      ∃ t, PSs (cxOf (CX1 P w) P w K mg base N qual (defScope st) f cdv A outer s H E).nox (defBody st) t ∧ t { nx := fun _ H' => Q .non H', rt := Q } (start N vs) H) : FnOk P w K mg base (CX1 P w) (k + 1) f fd ps sp :=
  F.ok1 S len fun cdv A outer s H vs Q E hr hsp => let ⟨t, h, q⟩ := hbody cdv A outer s H vs Q E hr hsp; ⟨t, h.nox, q⟩
end
theorem iteY {c A B : Prop} [Decidable c] (h : c) (a : A) : if c then A else B := by rw [if_pos h]; exact a
theorem iteN {c A B : Prop} [Decidable c] (h : ¬ c) (b : B) : if c then A else B := by rw [if_neg h]; exact b
theorem SqL.upd {K : PySem.W.Frag} {H : Hp} {a D : Addr} {xs : List V} {o : HO} (h : SqL K H a xs) (n : H D = none) : SqL K (upd H D o) a xs := by
  rcases h with (h | ⟨ob, h⟩) | h
  · exact .inl (.inl (by rw [upd_ne (ne_of_none h n)]; exact h))
  · exact .inl (.inr ⟨ob, by rw [upd_ne (ne_of_none h n)]; exact h⟩)
  · exact .inr h
theorem Same.upd {H : Hp} {D : Addr} {o : HO} (n : H D = none) : Same H (upd H D o) := fun b u e => by rw [upd_ne (ne_of_none e n)]; exact e
theorem comp_listF {K : PySem.W.Frag} {a D : Addr} {xs : List V} {H1 : Hp} {tl : St} {tif : TT} {te : TE} {Q : V → Hp → Prop} (f : V → Bool) (g : V → V) (hl : SqL K H1 a xs) (nD : H1 D = none) (hz : xs.length ≤ sizeLine)
    (hif : ∀ x ∈ xs, ∀ ys (Qb : Bool → Hp → Prop), Qb (f x) (upd H1 D (.lst ys)) → tif (some x :: tl) (upd H1 D (.lst ys)) Qb)
    (hte : ∀ x ∈ xs, f x = true → ∀ ys (Qv : VK), Qv (g x) (upd H1 D (.lst ys)) → te (some x :: tl) (upd H1 D (.lst ys)) Qv)
    (q : Q (.ref D) (upd H1 D (.lst ((xs.filter f).map g)))) : CompW (Itl K a) H1 tl tif te Q D := by
  refine ⟨fun i m H2 => i ≤ xs.length ∧ m = xs.length - i ∧ H2 = upd H1 D (.lst (((xs.take i).filter f).map g)), ⟨xs.length, Nat.zero_le _, rfl, by simp⟩, ?_⟩
  rintro i m H2 ⟨hi, rfl, rfl⟩
  by_cases hlt : i < xs.length
  · refine .inr ⟨⟨xs, xs[i], hl.upd nD, by simp [hlt]⟩, fun x H3 hy => ?_⟩
    obtain ⟨rfl, hx⟩ := hy
    have ex : xs[i]? = some x := hx xs (hl.upd nD)
    have hm : x ∈ xs := List.mem_of_getElem? ex
    have et : xs.take (i + 1) = xs.take i ++ [x] := by rw [List.take_add_one, ex]; rfl
    refine hif x hm _ _ ?_
    cases hf : f x with
    | false =>
      refine iteF ⟨xs.length - (i + 1), by omega, hlt, rfl, ?_⟩
      rw [et, List.filter_append]
      simp [hf]
    | true =>
      refine iteT (hte x hm hf _ _ ⟨_, upd_same, ?_, xs.length - (i + 1), by omega, hlt, rfl, ?_⟩)
      · have e1 : (((xs.take i).filter f).map g).length ≤ i := by
          rw [List.length_map]
          exact Nat.le_trans (List.length_filter_le _ _) (by rw [List.length_take]; omega)
        omega
      · rw [upd_upd, et, List.filter_append, List.map_append]
        simp [hf]
  · have e : i = xs.length := by omega
    refine .inl ⟨⟨xs, hl.upd nD, by omega⟩, ?_⟩
    rw [e, List.take_length]
    exact q
end L2

namespace Bd
open PySem L2
noncomputable def cellOf (H : Hp) (v : V) : Option (Int × Int) := match v with
  | .ref a => match H a with
    | some (.tup [.int r, .int c]) => some (r, c)
    | _ => none
  | _ => none
theorem cellOf_at {H : Hp} {a : Addr} {r c : Int} (h : CellAt H a r c) : cellOf H (.ref a) = some (r, c) := by
  have h' : H a = some (.tup [.int r, .int c]) := h
  unfold cellOf
  simp only [h']
noncomputable def fB (H : Hp) (R C : Nat) (v : V) : Bool := match cellOf H v with
  | some p => decide (inB R C p.1 p.2)
  | none => false
theorem fB_at {H : Hp} {a : Addr} {r c : Int} {R C : Nat} (h : CellAt H a r c) : fB H R C (.ref a) = decide (inB R C r c) := by
  unfold fB
  rw [cellOf_at h]
theorem CellsAt.filterB {H : Hp} {R C : Nat} : ∀ {as : List Addr} {cs : List (Int × Int)}, CellsAt H as cs → CellsAt H (as.filter fun a => fB H R C (.ref a)) (cs.filter fun p => decide (inB R C p.1 p.2))
  | _, _, .nil => .nil
  | _, _, .cons (a := a) (b := p) q t => by
    rw [List.filter_cons, List.filter_cons, fB_at q]
    by_cases h : inB R C p.1 p.2
    · rw [if_pos (by simp [h]), if_pos (by simp [h])]
      exact .cons q (CellsAt.filterB t)
    · rw [if_neg (by simp [h]), if_neg (by simp [h])]
      exact CellsAt.filterB t
theorem CellsAt.mem {H : Hp} : ∀ {as : List Addr} {cs : List (Int × Int)} {a : Addr}, CellsAt H as cs → a ∈ as → ∃ p, p ∈ cs ∧ CellAt H a p.1 p.2
  | _, _, _, .nil, h => by simp at h
  | _, _, a, .cons q t, h => by
    rcases List.mem_cons.mp h with rfl | z
    · exact ⟨_, List.mem_cons.mpr (.inl rfl), q⟩
    · obtain ⟨p, h1, h2⟩ := CellsAt.mem t z
      exact ⟨p, List.mem_cons.mpr (.inr h1), h2⟩
theorem around_eq (r c : Int) : around r c = [(r - 1, c), (r - 1, c + 1), (r, c - 1), (r, c + 1), (r + 1, c - 1), (r + 1, c)] := by
  simp [around, offs, Int.sub_eq_add_neg]
end Bd
namespace Bd
open PySem L2
theorem hereS {H H' : Hp} {D : Addr} (n : H' D = none) (s : Same H H') : Same H H' := s
theorem hereC {H' : Hp} {D a : Addr} {r c : Int} (n : H' D = none) (e : H' a = some (.tup [.int r, .int c])) : CellAt H' a r c := e
theorem near_tail {K : PySem.W.Frag} {CB : Addr} {H : Hp} {p d l D : Addr} {R C : Nat} {own : Nat × Nat → Int} {as : List Addr} {cs : List (Int × Int)} {Q : V → Hp → Prop} (cl : Cls K CB) (nO : NoAttr K CB "owners")
    (B : BoardAt CB H p d R C own) (hl : H l = some (.lst (as.map V.ref))) (hcs : CellsAt H as cs) (hz : as.length ≤ sizeLine) (nD : H D = none)
    (q : ∀ H', Same H H' → LCells H' D (cs.filter fun p => decide (inB R C p.1 p.2)) → Q (.ref D) H') :
    CompW (Itl K l) H [some (.ref p)] (tB (tDIn (tVar 0) (tFld K (tVar 1) "owners"))) (tVar 0) Q D := by
  refine comp_listF (xs := as.map V.ref) (fB H R C) (fun v => v) (SqL.of hl) nD (by rw [List.length_map]; exact hz) (fun x hx ys Qb qb => ?_) (fun x hx _ ys Qv qv => ⟨_, rfl, qv⟩) ?_
  · obtain ⟨a, ha, rfl⟩ := List.mem_map.mp hx
    obtain ⟨pc, _, hc⟩ := hcs.mem ha
    have sm : Same H (upd H D (.lst ys)) := Same.upd nD
    have B' := B.mono sm
    obtain ⟨dx, h1⟩ := B'.ob
    refine ⟨_, rfl, _, rfl, p, CB, dx, _, _, rfl, h1, cl, nO, bflds_o _ _ _, d, _, rfl, cell_get B' (hc.mono sm), _, rfl, ?_⟩
    rw [fB_at hc] at qb
    by_cases hb : inB R C pc.1 pc.2
    · rw [if_pos hb]
      simpa [hb] using qb
    · rw [if_neg hb]
      simpa [hb] using qb
  · refine q _ (Same.upd nD) ⟨as.filter fun a => fB H R C (.ref a), ?_, (hcs.filterB).mono (Same.upd nD)⟩
    rw [upd_same, List.map_id', List.filter_map]
    rfl
theorem kvs_row (i j C : Nat) : putK (kvsOf i C (fun _ => 0) ++ (List.range j).map fun c : Nat => (keyC (i : Nat) (c : Nat), V.int 0)) (keyC i j) (V.int 0) = kvsOf i C (fun _ => 0) ++ (List.range (j + 1)).map fun c : Nat => (keyC (i : Nat) (c : Nat), V.int 0) := by
  have h : valV (kvsOf i C (fun _ => 0) ++ (List.range j).map fun c : Nat => (keyC (i : Nat) (c : Nat), V.int 0)) (keyC i j) = none := by
    have e : (kvsOf i C (fun _ => 0) ++ (List.range j).map fun c => (keyC (i : Nat) (c : Nat), V.int 0)) = ((cellsRC i C ++ (List.range j).map fun c => (i, c)).map fun p : Nat × Nat => (keyC p.1 p.2, V.int 0)) := by
      rw [List.map_append, List.map_map]
      rfl
    rw [e]
    refine valV_map_none (fun p : Nat × Nat => keyC p.1 p.2) (fun _ => V.int 0) _ _ fun p hp z => ?_
    obtain ⟨z1, z2⟩ := keyC_inj z
    rcases List.mem_append.mp hp with h | h
    · have := (mem_cells.mp h).1
      omega
    · obtain ⟨c, hc, rfl⟩ := List.mem_map.mp h
      have := List.mem_range.mp hc
      simp only at z2
      omega
  rw [putK_new _ h, List.append_assoc, List.range_succ, List.map_append]
  rfl
theorem kvs_next (i C : Nat) : kvsOf i C (fun _ => 0) ++ (List.range C).map (fun c : Nat => (keyC (i : Nat) (c : Nat), V.int 0)) = kvsOf (i + 1) C (fun _ => 0) := by
  unfold kvsOf
  rw [cells_succ, List.map_append, List.map_map]
  rfl
end Bd

set_option maxHeartbeats 4000000

namespace L2
open PySem PySem.Spec PySem.Builtin PySem.Builtin.ObjectAttr PySem.Builtin.Getset_descriptor PyProof.Rows PySem.W
structure ExcCls (K : PySem.W.Frag) (C : Addr) : Prop where
  ga : findIn K (.ref C) "__getattribute__" = some (some (.builtin "BaseException.__getattribute__"))
  gr : findIn K (.ref C) "__getattr__" = some none
  cl : findIn K (.ref C) "__class__" = some (some (.builtin "object.__class__"))
  ob : mroIn K C (.type "object") = some true
  be : subIn K (.ref C) (.type "BaseException") = some true
section
variable {prog : Program} {w : World} {A : Around} {E : Value → Shared → Prop} {h : Heap} {g : Array GenState} {d : Drawn} {t : Nat} {os : OsState} {a : Addr} {o : Obj} {K : PySem.W.Frag} {C : Addr}
theorem exc_class_get {R : Result → Shared → Prop} {tp : Value} (X : K.In h) (Z : ExcCls K C) (hx : h.get? a = some o) (hc : o.cls = .ref C) (hq : R (.ok (.ret (.ref C))) ⟨h, g, d, t, os⟩) :
    codeAny (model prog w) A (.call (.builtin "getset_descriptor.__get__") ⟨[.builtin "object.__class__", .ref a, tp], []⟩) R ⟨h, g, d, t, os⟩ := by
  have L0 : Looks (model prog w) h (typeOf (.ref a)) (.ref C) := hc ▸ (Looks.ld hx).andThen .now
  have L1 := looks_mroIn (M := model prog w) X Z.ob
  refine codeAny_call_builtin KF.slot_gs.plain KF.entry_gs (KF.slot_gs.check _ _ _ _ _ _ _ _ KF.type_class (KF.args_gs _ _ _) ?_)
  unfold Builtin.«getset_descriptor.__get__» descrGet
  rw [dga_obj]
  refine wpAny_bind (wpAny_pure ?_)
  unfold descrGetter descrCheckInstance descrNameAndClass isInstance
  simp only [KF.owner_class]
  repeat lk
  refine ⟨Code.quiet_builtin _ (by decide +kernel), codeAny_builtin KF.entry_class ?_⟩
  unfold Builtin.«object.__class__» shownTypeOf
  repeat lk
  exact hq
theorem exc_class_entry {tk : Tok} {Q : Fin → Shared → Prop} (X : K.In h) (Z : ExcCls K C) (hx : h.get? a = some o) (hc : o.cls = .ref C) (hq : Q (.done (.ret (.ref C))) ⟨h, g, d, t, os⟩) :
    wpAny (model prog w) A (Builtin.«object.__getattribute__» ⟨[.ref a, .str "__class__" tk], []⟩) Q E ⟨h, g, d, t, os⟩ := by
  have hT5 : (⟨h, g, d, t, os⟩ : Shared).TypeIs (.builtin "object.__class__") "getset_descriptor" := F.typeOf_object_class
  have f5 := F.typeOf_object_class
  have f6 := F.slot_gs_get.lookup
  have f7 := F.slot_gs_set.lookup
  have L3 := looks_findIn (M := model prog w) X Z.cl
  repeat (any_goals (first | assumption | (with_reducible refine wpAny_loadPart_at hx ?_; rw [hc]) | (with_reducible refine L3.at ?_) | wp_step))
  refine exc_class_get X Z hx hc ?_
  repeat (any_goals (first | assumption | wp_step))
theorem exc_check_ga {M : Model} {nameV : Value} {Q : Unit → Shared → Prop} (X : K.In h) (Z : ExcCls K C) (hx : h.get? a = some o) (hc : o.cls = .ref C) (hq : Q () ⟨h, g, d, t, os⟩) :
    wpAny M A (checkBuiltinCall "BaseException.__getattribute__" ⟨[.ref a, nameV], []⟩) Q E ⟨h, g, d, t, os⟩ := by
  have hk : builtinKind "BaseException.__getattribute__" = some .slot := by decide +kernel
  have hsplit : splitId "BaseException.__getattribute__" = some ("BaseException", "__getattribute__") := by decide +kernel
  have L4 := looks_subIn (M := M) X Z.be
  have ha := F.args_bexc_ga (.ref a) nameV
  simp only [checkBuiltinCall, hk, hsplit]
  refine wpAny_bind ?_
  unfold isInstance
  repeat (first | (with_reducible refine wpAny_loadPart_at hx ?_; rw [hc]) | (with_reducible refine L4.at ?_) | wp_step)
  exact hq
theorem exc_class_by {tk : Tok} {Q : Value → Shared → Prop} (X : K.In h) (Z : ExcCls K C) (hx : h.get? a = some o) (hc : o.cls = .ref C) (hq : Q (.ref C) ⟨h, g, d, t, os⟩) :
    wpAny (model prog w) A (getAttrBy (.ref a) (.str "__class__" tk) false) Q E ⟨h, g, d, t, os⟩ := by
  have f3 := F.attr_ValueError.ga.bind (.ref a)
  have hx2 : (Value.builtin "BaseException.__getattribute__" == Value.builtin "object.__getattribute__") = false := by decide +kernel
  have hx1 : (onTheHeap (Value.ref C) && Value.builtin "BaseException.__getattribute__" == Value.builtin "object.__getattribute__") = false := by rw [hx2]; rfl
  have L1 := looks_findIn (M := model prog w) X Z.ga
  have L2 := looks_findIn (M := model prog w) X Z.gr
  repeat (any_goals (first | assumption | (with_reducible refine wpAny_loadPart_at hx ?_; rw [hc]) | (with_reducible refine L1.at ?_) | (with_reducible refine L2.at ?_) | wp_step))
  refine codeAny_call_builtin F.attr_ValueError.ga.plain F.entry_bexc_ga (exc_check_ga X Z hx hc (exc_class_entry X Z hx hc ?_))
  repeat (any_goals (first | assumption | wp_step))
theorem exc_class_attr {Q : Option Value → Shared → Prop} (X : K.In h) (Z : ExcCls K C) (hx : h.get? a = some o) (hc : o.cls = .ref C) (hq : Q (some (.ref C)) ⟨h, g, d, t + 1, os⟩) :
    wpAny (model prog w) A (getAttr? (.ref a) "__class__") Q E ⟨h, g, d, t, os⟩ := by
  unfold getAttr? getAttrBy?
  repeat (any_goals (first | assumption | with_reducible apply exc_class_by X Z hx hc | wp_step))
theorem kitx_exc {a : Addr} (Z : ExcCls K C) (hcls : ∃ cd, clsIn K C = some cd) : KitX K (.ref a) (.ref C) (fun h => ∃ o, h.get? a = some o ∧ o.cls = .ref C) where
  ty := fun M h _ ⟨o, h1, h2⟩ => h2 ▸ (Looks.ld h1).andThen .now
  it := fun _ _ X _ => by
    obtain ⟨cd, hcd⟩ := hcls
    unfold clsIn at hcd
    split at hcd
    · rename_i c' d' cd' sl' ho
      intro A' Q' E' s' k q
      unfold isType loadHead
      exact wpAny_bind (wpAny_loadPart (k _ _ (X _ _ ho)) (wpAny_pure q))
    · cases hcd
  ne := fun h tp dd its n sl X htp => by
    obtain ⟨cd, hcd⟩ := hcls
    refine Bool.eq_false_iff.mpr fun q => ?_
    have e : C = tp := Value.ref.inj (beq_iff_eq.mp q)
    subst e
    unfold clsIn at hcd
    split at hcd
    · rename_i c' d' cd' sl' ho
      have z := (X _ _ ho).symm.trans htp
      cases z
    · cases hcd
  ca := fun {_ _ _ _ _ s} X ⟨o, h1, h2⟩ k => by
    obtain ⟨h, g, d, t, os⟩ := s
    exact exc_class_attr X Z h1 h2 k
end
noncomputable def rIsiE (K : PySem.W.Frag) : List V → Hp → VK → Prop := fun xs H Q => ∃ a C c cv b, xs = [.ref a, c] ∧ tyVal c = some cv ∧ H a = some (excO a C) ∧ ExcCls K C ∧ (∃ cd, clsIn K C = some cd) ∧ kitOne K (.ref C) cv = some b ∧ Q (.bl b) H
section
variable {X : Cx}
theorem call_isiE : CallR X (.builtin "isinstance") (rIsiE X.K) := by
  intro pins s σ H xs us Q I r h
  obtain ⟨a, C, c, cv, b, rfl, ec, ha, Z, hcd, ek, q⟩ := h
  obtain ⟨u, u2, rfl, ru, ru2⟩ := vals2 r
  have e2 := tyVal_of ru2 ec
  subst e2
  obtain rfl : u = Value.ref a := ru
  obtain ⟨⟨oe, vs, e1, e2, _⟩, _⟩ := I.hok a _ ha
  exact kia_one (kitx_exc Z hcd) I.kIn ⟨oe, e1, e2⟩ ek (fun z => nomatch z) fun tk => ⟨.bl b, H, I.tok tk, rfl, q⟩
end
end L2

set_option maxHeartbeats 4000000

namespace L2
open PySem PySem.Spec PyProof.Rows
section
variable {prog : Program} {w : World} {A : Around} {E : Value → Shared → Prop} {s : Shared} {it d : Addr} {i n ep : Nat} {od : Obj} {es : Array DictEntry}
theorem keys_begin {Q : Value → Shared → Prop} (hsm : (d == sysModules) = false) (ty : s.TypeIs (.ref d) "dict") (hod : s.heap.get? d = some od) (hdd : od.data = .dict es ep)
    (k : Q (.ref s.heap.objs.size) { s with heap := s.heap.push { cls := .type "dict_keyiterator", data := .fields #[.ref d, .int 0 0, .int es.size 0, .int ep 0] } }) : wpAny (model prog w) A (pyIter (.ref d)) Q E s := by
  refine wpAny_pyIter_slot ty F.slot_dict_iter (wpAny_call_entry F.slot_dict_iter ty F.entry_dict_iter ?_ (F.args_dict_iter_1 _))
  unfold Builtin.«dict.__iter__»
  refine wpAny_bind ?_
  unfold Builtin.Dict.dictSlotNone
  refine wpAny_bind (wpAny_notOrdered_dict ty ?_)
  show wpAny _ _ (pure (Value.ref d)) _ _ s
  refine wpAny_pure ?_
  show wpAny _ _ (Builtin.Dict.showsAll d >>= _) _ _ s
  unfold Builtin.Dict.showsAll
  rw [if_neg (by rw [hsm]; exact Bool.false_ne_true)]
  refine wpAny_bind (wpAny_pure (wpAny_bind (wpAny_dictEntries hod hdd (wpAny_bind (wpAny_dictEpoch hod hdd ?_)))))
  refine wpAny_bind (wpAny_newObj_type (wpAny_pure ⟨_, rfl, "dict_keyiterator", _, ⟨_, Heap.get?_push_size _ rfl, rfl⟩, F.slot_dict_keyiterator_next.lookup, ?_⟩))
  simpa [rawInt] using k
theorem keys_item {Q : Option Value → Shared → Prop} (hit : s.heap.IsKeyIter it d i n ep) (hod : s.heap.get? d = some od) (hdd : od.data = .dict es ep) (hsz : es.size = n) (hlt : i < es.size)
    (k : ∀ h', h'.IsKeyIter it d (i + 1) n ep → Heap.SameBut it s.heap h' → Q (some es[i].key) { s with heap := h' }) : wpAny (model prog w) A (pyNext (.ref it)) Q E s := by
  obtain ⟨oi, hoi, hci, hdi⟩ := id hit
  unfold pyNext
  refine wpAny_bind (wpAny_attempt (wpAny_callSpecial?_slot (name := Str.ofString "__next__") hit.typeIs F.slot_dict_keyiterator_next
    (wpAny_call_entry F.slot_dict_keyiterator_next hit.typeIs F.entry_dict_keyiterator_next ?_ (F.args_dict_keyiterator_next_1 _))))
  refine wpAny_bind (wpAny_pure (wpAny_bind (wpAny_bind ?_)))
  first | refine wpAny_bind (wpAny_typeNameOfWhole_keyiter hit.typeIs (wpAny_pure ?_)) | refine wpAny_bind (wpAny_typeNameOf_keyiter hit.typeIs (wpAny_pure ?_))
  refine wpAny_bind (wpAny_fieldsOf hoi hdi ?_)
  simp only [show Builtin.Dict_items.ownsTuple "dict_keyiterator" = false from by decide, Bool.false_eq_true, if_false]
  show wpAny _ _ (if (Value.ref d == Value.none) = true then _ else _) _ _ s
  rw [if_neg (show ¬ ((Value.ref d == Value.none) = true) from Bool.false_ne_true)]
  refine wpAny_bind (wpAny_pure (wpAny_bind (wpAny_dictEntries hod hdd ?_)))
  rw [if_neg (by rw [hsz]; simp)]
  refine wpAny_bind (wpAny_pure (wpAny_bind (wpAny_dictEpoch hod hdd ?_)))
  rw [if_neg (by simp)]
  refine wpAny_pure ?_
  simp only [show ¬ ((i : Int) < 0) from by omega, if_false, Int.toNat_natCast, Array.getElem?_eq_getElem hlt]
  refine wpAny_bind ?_
  first | refine wpAny_bind (wpAny_typeNameOfWhole_keyiter hit.typeIs (wpAny_pure ?_)) | refine wpAny_bind (wpAny_typeNameOf_keyiter hit.typeIs (wpAny_pure ?_))
  refine wpAny_bind (wpAny_isOneOf_keyiter hit.typeIs ?_)
  show wpAny _ _ (setField (.ref it) 1 (rawInt ((i : Int) + 1)) >>= _) _ _ s
  refine wpAny_bind (wpAny_setField hoi hdi (by simp) ?_)
  have turned : (s.heap.update it (Obj.mapFields (·.setIfInBounds 1 (rawInt ((i : Int) + 1))))).IsKeyIter it d (i + 1) n ep :=
    ⟨_, Heap.get?_update_self _ hoi (Obj.isFreed_of_fields (Obj.data_mapFields hdi _)), (Obj.cls_mapFields ..).trans hci, by rw [Obj.data_mapFields hdi]; simp [rawInt]⟩
  refine wpAny_bind (wpAny_holding (wpAny_bind (wpAny_isOneOf_keyiter (s := { s with heap := s.heap.update it (Obj.mapFields (·.setIfInBounds 1 (rawInt ((i : Int) + 1)))) }) turned.typeIs ?_)))
  show wpAny _ _ (pure es[i].key) _ _ _
  exact wpAny_pure (wpAny_pure ⟨_, rfl, wpAny_pure (k _ turned (Heap.SameBut.update ..))⟩)
end
end L2
namespace L2
open PySem PySem.Spec PyProof.Rows
section
variable {prog : Program} {w : World} {A : Around} {E : Value → Shared → Prop} {s : Shared} {it d : Addr} {i n ep : Nat} {od : Obj} {es : Array DictEntry}
theorem keys_end {Q : Option Value → Shared → Prop} (hh : A.handled = none) (hit : s.heap.IsKeyIter it d i n ep) (hod : s.heap.get? d = some od) (hdd : od.data = .dict es ep) (hsz : es.size = n) (hge : es.size ≤ i)
    (k : ∀ h', Heap.ExtBut it s.heap h' → Q none { s with heap := h' }) : wpAny (model prog w) A (pyNext (.ref it)) Q E s := by
  obtain ⟨oi, hoi, hci, hdi⟩ := id hit
  unfold pyNext
  refine wpAny_bind (wpAny_attempt (wpAny_callSpecial?_slot (name := Str.ofString "__next__") hit.typeIs F.slot_dict_keyiterator_next
    (wpAny_call_entry F.slot_dict_keyiterator_next hit.typeIs F.entry_dict_keyiterator_next ?_ (F.args_dict_keyiterator_next_1 _))))
  refine wpAny_bind (wpAny_pure (wpAny_bind (wpAny_bind ?_)))
  first | refine wpAny_bind (wpAny_typeNameOfWhole_keyiter hit.typeIs (wpAny_pure ?_)) | refine wpAny_bind (wpAny_typeNameOf_keyiter hit.typeIs (wpAny_pure ?_))
  refine wpAny_bind (wpAny_fieldsOf hoi hdi ?_)
  simp only [show Builtin.Dict_items.ownsTuple "dict_keyiterator" = false from by decide, Bool.false_eq_true, if_false]
  show wpAny _ _ (if (Value.ref d == Value.none) = true then _ else _) _ _ s
  rw [if_neg (show ¬ ((Value.ref d == Value.none) = true) from Bool.false_ne_true)]
  refine wpAny_bind (wpAny_pure (wpAny_bind (wpAny_dictEntries hod hdd ?_)))
  rw [if_neg (by rw [hsz]; simp)]
  refine wpAny_bind (wpAny_pure (wpAny_bind (wpAny_dictEpoch hod hdd ?_)))
  rw [if_neg (by simp)]
  refine wpAny_pure ?_
  simp only [show ¬ ((i : Int) < 0) from by omega, if_false, Int.toNat_natCast, Array.getElem?_eq_none hge]
  refine wpAny_bind ?_
  first | refine wpAny_bind (wpAny_typeNameOfWhole_keyiter hit.typeIs (wpAny_pure ?_)) | refine wpAny_bind (wpAny_typeNameOf_keyiter hit.typeIs (wpAny_pure ?_))
  show wpAny _ _ (setField (.ref it) 0 .none >>= _) _ _ s
  refine wpAny_bind (wpAny_setField hoi hdi (by simp) ?_)
  show wpAny _ _ (newExc (.type "StopIteration") [] >>= _) _ _ _
  refine wpAny_bind ?_
  simp only [newExc, newTuple]
  refine wpAny_bind (wpAny_newObj_type ?_ (by size_fits))
  refine wpAny_bind (m := firstArgMember _ _) (wpAny_of_eq (a := Value.none) (by first | rfl | (simp only [firstArgMember]; rfl)) ?_)
  refine wpAny_newObj_type ?_ (by size_fits)
  simp only [raiseNew]
  refine wpAny_bind (wpAny_handled ?_)
  rw [show A.in1.handled = none from hh]
  refine wpAny_bind (wpAny_pure (wpAny_throw ?_))
  refine wpAny_bind (wpAny_isInstance (T := "StopIteration") (b := true) ⟨_, Heap.get?_push_size _ rfl, rfl⟩ isSubtype_stop ?_)
  exact wpAny_pure (k _ (((Heap.SameBut.update ..).extBut.push _).push _))
end

noncomputable def Itd (a : Addr) (o : Obj) (kvs : List (List Key × V)) : It :=
  ⟨fun i H => i < kvs.length ∧ H a = some (.frz o (.dT kvs)), fun i H x H' => H' = H ∧ ∃ k v b, kvs[i]? = some (k, v) ∧ x = .ref b ∧ H b = some (.tup (k.map kV)), fun i H => kvs.length ≤ i ∧ H a = some (.frz o (.dT kvs))⟩
theorem Paired.at_ {α β : Type} {F : α → β → Prop} : ∀ {l₁ : List α} {l₂ : List β} {i : Nat} {x : α}, Paired F l₁ l₂ → l₁[i]? = some x → ∃ y, l₂[i]? = some y ∧ F x y
  | _, _, _, _, .nil, e => by simp at e
  | _, _, 0, _, .cons q _, e => by
    simp at e
    subst e
    exact ⟨_, rfl, q⟩
  | _, _, i + 1, x, .cons _ t, e => by
    obtain ⟨y, h1, h2⟩ := Paired.at_ (i := i) (x := x) t (by simpa using e)
    exact ⟨y, by simpa using h1, h2⟩
theorem turn_dict {P : Program} {w : World} {K : PySem.W.Frag} {tg : Expr} (a it : Addr) (o : Obj) (kvs : List (List Key × V)) :
    Turn P w K tg (Itd a o kvs) [it] it (fun i h => ∃ es ep, o.data = .dict es ep ∧ h.IsKeyIter it a i kvs.length ep) where
  mem := List.mem_singleton.mpr rfl
  obj := fun i h ⟨es, ep, _, oi, h1, h2, h3⟩ b hb => by
    have e := List.mem_singleton.mp hb
    subst e
    exact ⟨oi, h1, fun v q => by rw [h3] at q; cases q⟩
  keep := fun i h h' ⟨es, ep, e, oi, h1, h2⟩ k => ⟨es, ep, e, oi, k it (List.mem_singleton.mpr rfl) oi h1, h2⟩
  item := fun X eP ew eK hc i pins s σ H E I f ⟨es, ep, ed, hit⟩ ⟨hi, ha⟩ => by
    subst eP ew
    obtain ⟨hget, hz, hsm, xs, rel, o', es', ep', hg', hx', hd', hes, hnd⟩ := I.hok a _ ha
    rw [hget] at hg'
    cases hg'
    rw [ed] at hd'
    cases hd'
    have hlen : es.size = kvs.length := by
      have e1 : es.toList.length = es.size := by simp
      rw [← e1, hes, List.length_map]
      exact (Paired.length rel).symm
    have hlt : i < es.size := by rw [hlen]; exact hi
    obtain ⟨p, hp⟩ : ∃ p, kvs[i]? = some p := ⟨_, List.getElem?_eq_getElem hi⟩
    obtain ⟨y, hy, r1, r2, r3⟩ := Paired.at_ rel hp
    have ekey : es[i].key = .ref y.2.1 := by
      have q : es[i]? = some (entryOfKey (tupleKind (mixKind X.prog X.w)) y) := by rw [← Array.getElem?_toList, hes, List.getElem?_map, hy]; rfl
      rw [Array.getElem?_eq_getElem hlt] at q
      rw [Option.some.inj q]
      rfl
    have hnit := (f it (List.mem_singleton.mpr rfl))
    refine keys_item hit hget ed hlen hlt fun h' hit' hs' => ?_
    rw [ekey]
    refine ⟨_, rfl, ?_⟩
    obtain ⟨oi, q1, q2, q3⟩ := id hit'
    refine go_of (s := { s with heap := h' }) q1 q2 q3 (by decide) ?_
    have I' : Inv X pins σ H { s with heap := h' } := I.turned (t' := s.toks) (fun b ob hb e => (hs'.2 b hb).trans e) hnit.1 hnit.2.1 hnit.2.2.2.1 hnit.2.2.2.2.1 hnit.2.2.2.2.2
    refine ⟨.ref y.2.1, H, I', rfl, ⟨rfl, p.1, p.2, y.2.1, hp, rfl, r2⟩, ⟨es, ep, ed, hit'⟩, fun b hb => ?_⟩
    have e := List.mem_singleton.mp hb
    subst e
    exact hnit.1
  done := fun X eP ew eK hc i pins s σ H E I f ⟨es, ep, ed, hit⟩ ⟨hi, ha⟩ => by
    subst eP ew
    obtain ⟨hget, hz, hsm, xs, rel, o', es', ep', hg', hx', hd', hes, hnd⟩ := I.hok a _ ha
    rw [hget] at hg'
    cases hg'
    rw [ed] at hd'
    cases hd'
    have hlen : es.size = kvs.length := by
      have e1 : es.toList.length = es.size := by simp
      rw [← e1, hes, List.length_map]
      exact (Paired.length rel).symm
    have hnit := (f it (List.mem_singleton.mpr rfl))
    refine keys_end (I.ok.hd hc) hit hget ed hlen (by rw [hlen]; exact hi) fun h' hs' => ⟨rfl, ?_⟩
    exact I.turned (t' := s.toks) (fun b ob hb e => hs' b ob hb e) hnit.1 hnit.2.1 hnit.2.2.2.1 hnit.2.2.2.2.1 hnit.2.2.2.2.2
  self := fun A i s Q E ⟨es, ep, ed, hit⟩ q => wpAny_pyIter_keyiter hit q
section
variable {X : Cx} {pins : List (Addr × Obj)} {σ : St} {H : Hp} {s : Shared} {a : Addr} {kvs : List (List Key × V)} {o : Obj}
theorem Inv.freeze (I : Inv X pins σ H s) (ha : H a = some (.dT kvs)) (hget : s.heap.get? a = some o) : Inv X pins σ (upd H a (.frz o (.dT kvs))) s := by
  have hok : HOk X.prog X.w (upd H a (.frz o (.dT kvs))) s.heap := fun b u e => by
    by_cases hb : b = a
    · subst hb
      rw [upd_same] at e
      cases e
      refine ⟨hget, (I.hok b _ ha).stay (fun _ _ _ q => q) (fun c q => ?_) fun c xs q => ?_⟩
      · rw [upd_ne (ne_of q ha (fun z => nomatch z))]; exact q
      · rw [upd_ne (ne_of q ha (fun z => nomatch z))]; exact q
    · rw [upd_ne hb] at e
      refine (I.hok b u e).stay (fun _ _ _ q => q) (fun c q => ?_) fun c xs q => ?_
      · rw [upd_ne (ne_of q ha (fun z => nomatch z))]; exact q
      · rw [upd_ne (ne_of q ha (fun z => nomatch z))]; exact q
  exact I.un (h' := s.heap) (t' := s.toks) ⟨fun _ _ q _ _ _ => q, fun _ ob q _ _ _ => ⟨ob.slots, q⟩, fun b _ _ n _ => by rw [upd_ne (fun z => by rw [z, ha] at n; cases n)]; exact n, fun _ ob q _ => ⟨ob, q⟩,
    fun b xs q => by rw [upd_ne (ne_of q ha (fun z => nomatch z))]; exact q, fun b ob v q => by rw [upd_ne (ne_of q ha (fun z => nomatch z))]; exact q, fun b ps q => ⟨#[], by rw [upd_ne (ne_of q ha (fun z => nomatch z)), q]; simp⟩⟩ hok
theorem Inv.thaw (I : Inv X pins σ H s) (ha : H a = some (.frz o (.dT kvs))) (h0 : ∀ o' u', X.H₀ a ≠ some (.frz o' u')) (h1 : ∀ ys, X.H₀ a ≠ some (.tup ys)) (h2 : ∀ ps, X.H₀ a ≠ some (.tbl ps)) : Inv X pins σ (upd H a (.dT kvs)) s := by
  have hok : HOk X.prog X.w (upd H a (.dT kvs)) s.heap := fun b u e => by
    by_cases hb : b = a
    · subst hb
      rw [upd_same] at e
      cases e
      refine (I.hok b _ ha).2.stay (fun _ _ _ q => q) (fun c q => ?_) fun c xs q => ?_
      · rw [upd_ne (ne_of q ha (fun z => nomatch z))]; exact q
      · rw [upd_ne (ne_of q ha (fun z => nomatch z))]; exact q
    · rw [upd_ne hb] at e
      refine (I.hok b u e).stay (fun _ _ _ q => q) (fun c q => ?_) fun c xs q => ?_
      · rw [upd_ne (ne_of q ha (fun z => nomatch z))]; exact q
      · rw [upd_ne (ne_of q ha (fun z => nomatch z))]; exact q
  have ne0 : ∀ b, H b = none → b ≠ a := fun b n z => by rw [z, ha] at n; cases n
  refine ⟨I.ok, I.os, I.bare, ⟨I.base.keep, I.base.slot, fun b ob e n hx => ?_, I.base.there, fun b xs q => ?_, fun b ob u q => ?_, fun b ps q => ?_⟩, I.loc, I.cell, ?_, fun x c e => ?_, fun p hp => ?_, hok, I.len⟩
  · have q := I.base.free b ob e n hx
    rw [upd_ne (ne0 b q)]
    exact q
  · have z : b ≠ a := fun z => by rw [z] at q; exact h1 xs q
    rw [upd_ne z]
    exact I.base.tups b xs q
  · have z : b ≠ a := fun z => by rw [z] at q; exact h0 ob u q
    rw [upd_ne z]
    exact I.base.frzs b ob u q
  · have z : b ≠ a := fun z => by rw [z] at q; exact h2 ps q
    obtain ⟨m, e⟩ := I.base.tbls b ps q
    exact ⟨m, by rw [upd_ne z]; exact e⟩
  · rw [upd_ne (ne0 _ I.free)]
    exact I.free
  · rw [upd_ne (ne0 _ (I.freeC x c e))]
    exact I.freeC x c e
  · obtain ⟨e, n, r⟩ := I.pin p hp
    exact ⟨e, by rw [upd_ne (ne0 _ n)]; exact n, r⟩
end
noncomputable def iDict (te : TE) : TI := fun σ H R => te σ H fun x H1 => ∃ a kvs, x = .ref a ∧ H1 a = some (.dT kvs) ∧ ∀ o, R (Itd a o kvs) (upd H1 a (.frz o (.dT kvs)))
section
variable {X : Cx} {tg e : Expr} {te : TE}
theorem pi_dict (he : PE X e te) : PI X tg e (iDict te) := by
  intro pins s σ H R I h
  refine thn (he pins s σ H _ I h) fun v s1 zq => ?_
  obtain ⟨x, H1, I1, r1, a, kvs, ex, ha, q⟩ := zq
  subst ex
  obtain rfl : v = Value.ref a := r1
  obtain ⟨hz, hsm, xs, rel, o, es, ep, hget, hx, hd, hes, hnd⟩ := I1.hok a _ ha
  have hlen : es.size = kvs.length := by
    have e1 : es.toList.length = es.size := by simp
    rw [← e1, hes, List.length_map]
    exact (Paired.length rel).symm
  have I2 := I1.freeze ha hget
  refine keys_begin hsm ⟨o, hget, hx.1⟩ hget hd ?_
  have I3 : Inv X pins σ (upd H1 a (.frz o (.dT kvs))) { s1 with heap := s1.heap.push { cls := .type "dict_keyiterator", data := .fields #[.ref a, .int 0 0, .int es.size 0, .int ep 0] } } := I2.kept (t' := s1.toks) fun b u q => Heap.get?_push_of_some _ q
  refine ⟨s1.heap.objs.size, [s1.heap.objs.size], _, _, _, rfl, I3, turn_dict a s1.heap.objs.size o kvs, ⟨es, ep, hd, _, Heap.get?_push_size _ rfl, rfl, by rw [hlen]; simp⟩, fun b hb => ?_, q o⟩
  have eb := List.mem_singleton.mp hb
  subst eb
  exact I2.fpOk (Nat.le_refl _) (I2.hok.fresh (Nat.le_refl _))
theorem pe_thaw {X : Cx} {e : Expr} {te : TE} (he : PE X e te) : PE X e (fun σ H Q => te σ H fun v H1 => ∃ a o kvs, H1 a = some (.frz o (.dT kvs)) ∧ (∃ kvs0, X.H₀ a = some (.dT kvs0)) ∧ Q v (upd H1 a (.dT kvs))) := by
  intro pins s σ H Q I h
  refine thn (he pins s σ H _ I h) fun v s1 zq => ?_
  obtain ⟨x, H1, I1, r1, a, o, kvs, ha, ⟨kvs0, h0⟩, q⟩ := zq
  exact ⟨x, _, I1.thaw ha (fun o' u' z => by rw [h0] at z; cases z) (fun ys z => by rw [h0] at z; cases z) (fun ps z => by rw [h0] at z; cases z), r1, q⟩
end
end L2

set_option maxHeartbeats 4000000

namespace L2
open PySem PySem.Spec PyProof.Rows
section
variable {prog : Program} {w : World} {K : Type} [DecidableEq K] {knd : HeapKind prog w K} {A : Around} {E : Value → Shared → Prop} {s : Shared}
end
section
variable {X : Cx} {pins : List (Addr × Obj)} {σ : St} {H : Hp} {s : Shared} {a b : Addr} {kvs : List (List Key × V)} {k : List Key} {A : Around} {E : Value → Shared → Prop}
end
end L2

set_option maxHeartbeats 4000000

namespace L2
open PySem PySem.Spec PyProof.Rows
theorem Paired.filter {α β : Type} {F : α → β → Prop} {g : β → Bool} {f : α → Bool} (hg : ∀ a b, F a b → f a = g b) : ∀ {l : List α} {m : List β}, Paired F l m → Paired F (l.filter f) (m.filter g)
  | _, _, .nil => .nil
  | _, _, .cons (a := a) (b := b) q t => by
    rw [List.filter_cons, List.filter_cons, hg a b q]
    cases g b with
    | true => exact .cons q (Paired.filter hg t)
    | false => exact Paired.filter hg t
theorem comp_dictF {a D : Addr} {o : Obj} {kvs : List (List Key × V)} {H1 : Hp} {tl : St} {tif : TT} {te : TE} {Q : V → Hp → Prop} (f : List Key × V → Bool) (ha : H1 a = some (.frz o (.dT kvs))) (nD : H1 D = none) (hz : kvs.length ≤ sizeLine)
    (hif : ∀ p ∈ kvs, ∀ b, H1 b = some (.tup (p.1.map kV)) → ∀ ys (Qb : Bool → Hp → Prop), Qb (f p) (upd H1 D (.lst ys)) → tif (some (.ref b) :: tl) (upd H1 D (.lst ys)) Qb)
    (hte : ∀ b ys (Qv : VK), Qv (.ref b) (upd H1 D (.lst ys)) → te (some (.ref b) :: tl) (upd H1 D (.lst ys)) Qv)
    (q : ∀ as, Paired (fun (b : Addr) (p : List Key × V) => H1 b = some (.tup (p.1.map kV))) as (kvs.filter f) → Q (.ref D) (upd H1 D (.lst (as.map V.ref)))) : CompW (Itd a o kvs) H1 tl tif te Q D := by
  have nad : a ≠ D := ne_of_none ha nD
  refine ⟨fun i m H2 => i ≤ kvs.length ∧ m = kvs.length - i ∧ ∃ as, Paired (fun (b : Addr) (p : List Key × V) => H1 b = some (.tup (p.1.map kV))) as ((kvs.take i).filter f) ∧ as.length ≤ i ∧ H2 = upd H1 D (.lst (as.map V.ref)),
    ⟨kvs.length, Nat.zero_le _, rfl, [], by rw [List.take_zero]; exact .nil, Nat.le_refl _, rfl⟩, ?_⟩
  rintro i m H2 ⟨hi, rfl, as, hp, hlen, rfl⟩
  by_cases hlt : i < kvs.length
  · refine .inr ⟨⟨hlt, by rw [upd_ne nad]; exact ha⟩, fun x H3 hy => ?_⟩
    obtain ⟨rfl, k, v, b, ek, rfl, hb⟩ := hy
    have hbD : b ≠ D := fun z => by rw [z, upd_same] at hb; cases hb
    have hb1 : H1 b = some (.tup (k.map kV)) := by rw [upd_ne hbD] at hb; exact hb
    have hm : (k, v) ∈ kvs := List.mem_of_getElem? ek
    have et : kvs.take (i + 1) = kvs.take i ++ [(k, v)] := by rw [List.take_add_one, ek]; rfl
    refine hif (k, v) hm b hb1 _ _ ?_
    cases hf : f (k, v) with
    | false =>
      refine iteF ⟨kvs.length - (i + 1), by omega, hlt, rfl, as, ?_, Nat.le_succ_of_le hlen, rfl⟩
      rw [et, List.filter_append]
      simpa [hf] using hp
    | true =>
      refine iteT (hte b _ _ ⟨_, upd_same, ?_, kvs.length - (i + 1), by omega, hlt, rfl, as ++ [b], ?_, ?_, ?_⟩)
      · rw [List.length_map]
        omega
      · rw [et, List.filter_append]
        simp only [List.filter_cons, hf, if_true, List.filter_nil]
        exact Paired.snoc hp hb1
      · rw [List.length_append, List.length_singleton]
        omega
      · rw [upd_upd, List.map_append]
        rfl
  · have e : i = kvs.length := by omega
    subst e
    rw [List.take_length] at hp
    exact .inl ⟨⟨Nat.le_refl _, by rw [upd_ne nad]; exact ha⟩, q as hp⟩
end L2

namespace Bd
open PySem L2
noncomputable def emptiesL (R C : Nat) (own : Nat × Nat → Int) : List (Int × Int) := ((cellsRC R C).filter fun p => decide (own p = 0)).map fun p => ((p.1 : Int), (p.2 : Int))
theorem kvs_filter (R C : Nat) (own : Nat × Nat → Int) : (kvsOf R C own).filter (fun p => decide (p.2 = V.int 0)) = ((cellsRC R C).filter fun p => decide (own p = 0)).map fun p => (keyC p.1 p.2, V.int (own p)) := by
  unfold kvsOf
  rw [List.filter_map]
  congr 1
  refine List.filter_congr fun p _ => ?_
  simp
theorem empt_cells {H : Hp} : ∀ {as : List Addr} {l : List (Nat × Nat)} {v : Nat × Nat → V}, Paired (fun (b : Addr) (p : List Key × V) => H b = some (.tup (p.1.map kV))) as (l.map fun p => (keyC p.1 p.2, v p)) → CellsAt H as (l.map fun p => ((p.1 : Int), (p.2 : Int)))
  | [], [], _, _ => .nil
  | _ :: _, _ :: _, v, .cons q t => .cons q (empt_cells t)
theorem empt_tail {K : PySem.W.Frag} {CB : Addr} {H : Hp} {p d D : Addr} {o : Obj} {R C : Nat} {own : Nat × Nat → Int} {Q : V → Hp → Prop} (cl : Cls K CB) (nO : NoAttr K CB "owners") (hRC : R * C ≤ 100)
    (B : BoardAt CB H p d R C own) (nD : upd H d (.frz o (.dT (kvsOf R C own))) D = none)
    (q : ∀ as, CellsAt H as (emptiesL R C own) → H D = none → Q (.ref D) (upd (upd H d (.frz o (.dT (kvsOf R C own)))) D (.lst (as.map V.ref)))) :
    CompW (Itd d o (kvsOf R C own)) (upd H d (.frz o (.dT (kvsOf R C own)))) [some (.ref p)] (tTest (tOp rEq (tDGet (tFld K (tVar 1) "owners") (tVar 0)) (tC (.int 0)))) (tVar 0) Q D := by
  obtain ⟨dx, hp⟩ := B.ob
  have npd : p ≠ d := ne_of hp B.dc (fun z => nomatch z)
  have nDd : D ≠ d := fun z => by rw [z, upd_same] at nD; cases nD
  have nD0 : H D = none := by rw [upd_ne nDd] at nD; exact nD
  have npD : p ≠ D := ne_of_none hp nD0
  have un : ∀ b ys, upd H d (.frz o (.dT (kvsOf R C own))) b = some (.tup ys) → H b = some (.tup ys) := fun b ys e => by
    by_cases z : b = d
    · rw [z, upd_same] at e; cases e
    · rw [upd_ne z] at e; exact e
  refine comp_dictF (fun kv => decide (kv.2 = V.int 0)) upd_same nD (by rw [len_kvs]; exact Nat.le_of_lt (small1000 (by omega))) (fun kv hkv b hb ys Qb qb => ?_) (fun b ys Qv qv => ⟨_, rfl, qv⟩) (fun as hp' => ?_)
  · obtain ⟨c, hc, rfl⟩ := List.mem_map.mp hkv
    have hbD : b ≠ D := ne_of_none hb nD
    refine ⟨_, rfl, p, CB, dx, _, _, rfl, (by rw [upd_ne npD, upd_ne npd]; exact hp), cl, nO, bflds_o _ _ _, _, rfl, d, _, rfl, .inr ⟨_, keyC c.1 c.2, b, .inr ⟨o, by rw [upd_ne (Ne.symm nDd)]; exact upd_same⟩, rfl, by rw [upd_ne hbD]; exact hb, (Eq.symm (by
      have h := mem_cells.mp hc
      rw [val_kvs, if_pos (by refine ⟨?_, ?_, ?_, ?_⟩ <;> omega)]
      rfl))⟩, rfl, _, rfl, qb⟩
  · refine q as ?_ nD0
    rw [kvs_filter] at hp'
    have h := empt_cells hp'
    exact Paired.mapP h fun b c e => un b _ e
end Bd
namespace Bd
open PySem L2
noncomputable def setO (own : Nat × Nat → Int) (r c h : Int) : Nat × Nat → Int := fun p => if p = (r.toNat, c.toNat) then h else own p
theorem put_kvs {R C : Nat} {own : Nat × Nat → Int} {r c h : Int} (hb : inB R C r c) : putK (kvsOf R C own) (keyC r c) (V.int h) = kvsOf R C (setO own r c h) := by
  obtain ⟨h1, h2, h3, h4⟩ := hb
  have e : keyC r c = (fun p : Nat × Nat => keyC p.1 p.2) (r.toNat, c.toNat) := by
    show keyC r c = keyC ((r.toNat : Nat) : Int) ((c.toNat : Nat) : Int)
    rw [Int.toNat_of_nonneg h1, Int.toNat_of_nonneg h3]
  rw [e]
  exact putK_map (fun p : Nat × Nat => keyC p.1 p.2) (fun p => V.int (own p)) (fun p => V.int (setO own r c h p)) (r.toNat, c.toNat) (V.int h) _ (mem_cells.mpr ⟨by show r.toNat < R; omega, by show c.toNat < C; omega⟩) (fun p _ q => keyC_nat q)
    (by show V.int (setO own r c h (r.toNat, c.toNat)) = _; unfold setO; rw [if_pos rfl]) (fun p _ n => by show V.int (setO own r c h p) = _; unfold setO; rw [if_neg n])
theorem toNat_inj {R C : Nat} {r c r' c' : Int} (h : inB R C r c) (h' : inB R C r' c') : (r'.toNat, c'.toNat) = (r.toNat, c.toNat) ↔ r' = r ∧ c' = c := by
  obtain ⟨h1, _, h2, _⟩ := h
  obtain ⟨h3, _, h4, _⟩ := h'
  rw [Prod.mk.injEq]
  omega
end Bd
namespace Bd
open PySem L2
end Bd

set_option maxHeartbeats 4000000

namespace L2
open PySem PySem.Spec PyProof.Rows
section
variable {prog : Program} {w : World} {d : Addr} {od : Obj} {es : Array DictEntry} {ep : Nat}
theorem walks_keysT {A : Around} (hh : A.handled = none) (it : Addr) (hne : d ≠ it) (hdd : od.data = .dict es ep) :
    Walks prog w A it [it, d] [it] es.size (fun i v => ∃ e, es[i]? = some e ∧ v = e.key) (fun i h => h.IsKeyIter it d i es.size ep ∧ h.get? d = some od) where
  sub := fun b hb => by simp at hb; simp [hb]
  frame := fun i h h' st hk => by
    obtain ⟨⟨oi, h1, h2⟩, h3⟩ := st
    exact ⟨⟨oi, hk it (by simp) _ h1, h2⟩, hk d (by simp) _ h3⟩
  item := fun i s Q E hi st hQ => keys_item st.1 st.2 hdd rfl hi fun h' hit' hs' => by
    have := hQ es[i].key h' s.toks ⟨_, Array.getElem?_eq_getElem hi, rfl⟩ ⟨hit', (hs'.2 d hne).trans st.2⟩ fun b o hb e => (hs'.2 b (fun z => hb (by simp [z]))).trans e
    exact this
  done := fun s Q E st hQ => keys_end hh st.1 st.2 hdd rfl (Nat.le_refl _) fun h' hs' => hQ h' s.toks fun b o hb e => hs' b o (fun z => hb (by simp [z])) e
  self := fun i s Q E st q => wpAny_pyIter_keyiter st.1 q
theorem kdl_dictT (lo : (d == sysModules) = false) (hx : od.ExactDict) (hdd : od.data = .dict es ep) :
    PySem.W.KdlSrc prog w "dict" d d es.size (fun i v => ∃ e, es[i]? = some e ∧ v = e.key) (fun h => h.get? d = some od) where
  type := fun _ hm => ⟨od, hm, hx.1⟩
  there := fun _ hm => ⟨Heap.lt_size hm, Heap.lt_size hm⟩
  keep := fun _ _ hm hk => hk d (.inl rfl) _ hm
  notList := by decide
  notTuple := by decide
  hint := fun _ _ _ _ hm hq => PySem.W.kdl_hint_dict ⟨od, hm, hx.1⟩ hq
  iter := fun A s hh hm => ⟨_, _, fun E Q hq => keys_begin lo ⟨od, hm, hx.1⟩ hm hdd hq, walks_keysT hh s.heap.objs.size (Nat.ne_of_lt (Heap.lt_size hm)) hdd, ⟨⟨_, Heap.get?_push_size _ rfl, rfl, rfl⟩, Heap.get?_push_of_some _ hm⟩⟩
end
section
variable {X : Cx}
theorem call_listDT (hc : X.calm = true) : CallR X (.type "list") (fun xs H Q => ∃ a kvs, xs = [V.ref a] ∧ Rd H a (.dT kvs) ∧
    ∀ l as, H l = none → Paired (fun (b : Addr) (p : List Key × V) => H b = some (.tup (p.1.map kV))) as kvs → Q (.ref l) (upd H l (.lst (as.map V.ref)))) := by
  intro pins s σ H xs us Q I r h
  obtain ⟨a, kvs, rfl, ha, q⟩ := h
  obtain ⟨u, rfl, rx⟩ := vals1 r
  cases rx
  obtain ⟨hz, lo, xs, rel, o, es, ep, hget, hx, hd, hes, hnd⟩ := (show ObjOk X.prog X.w H s.heap a (.dT kvs) from ha.ok I.hok)
  have hlen : es.size = kvs.length := by
    have e1 : es.toList.length = es.size := by simp
    rw [← e1, hes, List.length_map]
    exact (Paired.length rel).symm
  refine PySem.W.kdl_call (kdl_dictT lo hx hd) (I.ok.hd hc) hget (by rw [hlen]; exact hz) fun h' tk acc c' hk hD hacc => ?_
  obtain ⟨ha1, ha2⟩ := hacc
  have hP : Paired (fun (b : Addr) (p : List Key × V) => H b = some (.tup (p.1.map kV))) (xs.map (·.2.1)) kvs := by
    have go : ∀ {l : List (List Key × V)} {m : List (List Key × Addr × Value)}, Paired (fun p q => p.1 = q.1 ∧ H q.2.1 = some (.tup (p.1.map kV)) ∧ RelV p.2 q.2.2) l m → Paired (fun (b : Addr) (p : List Key × V) => H b = some (.tup (p.1.map kV))) (m.map (·.2.1)) l := by
      intro l m p
      induction p with
      | nil => exact .nil
      | cons hq _ ih => exact .cons hq.2.1 ih
    exact go rel
  have hacc' : acc.toList = (xs.map (·.2.1)).map Value.ref := by
    refine List.ext_getElem? fun i => ?_
    by_cases hi : i < acc.size
    · have e0 : acc.toList[i]? = some acc[i] := by rw [Array.getElem?_toList]; exact Array.getElem?_eq_getElem hi
      obtain ⟨e, h1, h2⟩ := ha2 i acc[i] (Array.getElem?_eq_getElem hi)
      have h3 : es.toList[i]? = some e := by rw [Array.getElem?_toList]; exact h1
      rw [hes, List.getElem?_map] at h3
      rw [e0, h2, List.getElem?_map, List.getElem?_map]
      cases q : xs[i]? with
      | none => rw [q] at h3; cases h3
      | some y =>
        rw [q] at h3
        cases h3
        rfl
    · have l1 : acc.toList.length ≤ i := by rw [Array.length_toList]; omega
      have l2 : ((xs.map (·.2.1)).map Value.ref).length ≤ i := by
        rw [List.length_map, List.length_map]
        have := Paired.length rel
        omega
      rw [List.getElem?_eq_none l1, List.getElem?_eq_none l2]
  have hv : Vals ((xs.map (·.2.1)).map V.ref) acc.toList := by
    rw [hacc']
    generalize xs.map (·.2.1) = l
    induction l with
    | nil => exact .nil
    | cons x r ih => exact .cons rfl ih
  refine ⟨.ref s.heap.objs.size, _, I.laid (t' := tk) (o := .lst ((xs.map (·.2.1)).map V.ref)) hk (Nat.le_refl _) ?_, rfl, q _ _ (I.hok.fresh (Nat.le_refl _)) hP⟩
  refine ⟨?_, acc.toList, c', hv, ?_⟩
  · rw [List.length_map, List.length_map]
    have := Paired.length rel
    omega
  · rw [Array.toArray_toList]
    exact hD
end
end L2

set_option maxHeartbeats 4000000

namespace SetT
open PySem PySem.SetTable
noncomputable def it (M s : Nat) : Nat := (s * 5 + 1) % M
noncomputable def itn (M : Nat) : Nat → Nat → Nat
  | 0, s => s
  | n + 1, s => it M (itn M n s)
theorem itn_add (M : Nat) (a : Nat) : ∀ (b s : Nat), itn M (a + b) s = itn M b (itn M a s)
  | 0, s => rfl
  | b + 1, s => by show it M (itn M (a + b) s) = it M (itn M b (itn M a s)); rw [itn_add M a b s]
noncomputable def orbit (M : Nat) : Nat → Nat → List Nat
  | 0, _ => []
  | n + 1, s => s :: orbit M n (it M s)
theorem itn_it (M : Nat) : ∀ (n s : Nat), itn M n (it M s) = it M (itn M n s)
  | 0, _ => rfl
  | n + 1, s => by show it M (itn M n (it M s)) = _; rw [itn_it M n s]; rfl
theorem orbit_mem {M x : Nat} : ∀ {n s : Nat}, x ∈ orbit M n s → ∃ m, m < n ∧ itn M m s = x
  | 0, _, h => by simp [orbit] at h
  | n + 1, s, h => by
    rcases List.mem_cons.mp h with e | h
    · exact ⟨0, Nat.succ_pos _, e.symm⟩
    · obtain ⟨m, h1, h2⟩ := orbit_mem h
      refine ⟨m + 1, by omega, ?_⟩
      show it M (itn M m s) = x
      rw [← itn_it]
      exact h2
noncomputable def full (M : Nat) : Bool := (List.range M).all (fun x => (orbit M M 0).contains x) && itn M M 0 == 0
theorem full8 : full 8 = true := by decide +kernel
theorem full32 : full 32 = true := by decide +kernel
theorem full128 : full 128 = true := by decide +kernel
theorem full512 : full 512 = true := by decide +kernel
theorem full_cover {M : Nat} (h : full M = true) {s x : Nat} (hs : s < M) (hx : x < M) : ∃ m, m < M ∧ itn M m s = x := by
  unfold full at h
  rw [Bool.and_eq_true, List.all_eq_true] at h
  obtain ⟨h1, h2⟩ := h
  have g : ∀ y, y < M → ∃ m, m < M ∧ itn M m 0 = y := fun y hy => orbit_mem (by simpa using h1 y (List.mem_range.mpr hy))
  have h2 : itn M M 0 = 0 := by simpa using h2
  obtain ⟨a, ha, ea⟩ := g s hs
  obtain ⟨b, hb, eb⟩ := g x hx
  by_cases hab : a ≤ b
  · refine ⟨b - a, by omega, ?_⟩
    rw [← ea, ← itn_add, show a + (b - a) = b by omega, eb]
  · refine ⟨M - a + b, by omega, ?_⟩
    rw [← ea, ← itn_add, show a + (M - a + b) = M + b by omega, itn_add, h2, eb]
noncomputable def Msk (m : Nat) : Prop := m = 7 ∨ m = 31 ∨ m = 127 ∨ m = 511
theorem Msk.full {m : Nat} (h : Msk m) : SetT.full (m + 1) = true := by
  rcases h with rfl | rfl | rfl | rfl
  · exact full8
  · exact full32
  · exact full128
  · exact full512
noncomputable def runs (mask : Nat) : Nat → Nat → Nat → Nat × Nat
  | 0, i, p => (i, p)
  | k + 1, i, p => leap mask (runs mask k i p).1 (runs mask k i p).2
theorem runs_p (mask i p : Nat) : ∀ k, (runs mask k i p).2 = p / 32 ^ k
  | 0 => by simp [runs]
  | k + 1 => by
    show (runs mask k i p).2 / 32 = _
    rw [runs_p mask i p k, Nat.div_div_eq_div_mul, Nat.pow_succ]
theorem runs_lt {mask i p : Nat} (hi : i ≤ mask) : ∀ k, (runs mask k i p).1 ≤ mask
  | 0 => hi
  | k + 1 => by
    show ((runs mask k i p).1 * 5 + 1 + (runs mask k i p).2 / 32) % (mask + 1) ≤ mask
    exact Nat.le_of_lt_succ (Nat.mod_lt _ (Nat.succ_pos mask))
theorem runs_late {mask i p : Nat} (hp : p < 2 ^ 64) : ∀ m, (runs mask (12 + m) i p).1 = itn (mask + 1) m (runs mask 12 i p).1
  | 0 => rfl
  | m + 1 => by
    show ((runs mask (12 + m) i p).1 * 5 + 1 + (runs mask (12 + m) i p).2 / 32) % (mask + 1) = it (mask + 1) (itn (mask + 1) m (runs mask 12 i p).1)
    rw [runs_p, runs_late hp m]
    have e : p / 32 ^ (12 + m) / 32 = 0 := by
      rw [Nat.div_div_eq_div_mul, ← Nat.pow_succ]
      refine Nat.div_eq_of_lt ?_
      have h1 : (32 : Nat) ^ 13 ≤ 32 ^ (12 + m + 1) := Nat.pow_le_pow_right (by decide) (by omega)
      have h2 : (2 : Nat) ^ 64 ≤ 32 ^ 13 := by decide
      omega
    rw [e]
    rfl
theorem runs_cover {mask i p x : Nat} (hm : Msk mask) (hi : i ≤ mask) (hp : p < 2 ^ 64) (hx : x ≤ mask) : ∃ k, k < mask + 15 ∧ (runs mask k i p).1 = x := by
  obtain ⟨m, h1, h2⟩ := full_cover hm.full (s := (runs mask 12 i p).1) (x := x) (by have := runs_lt (p := p) hi 12; omega) (by omega)
  exact ⟨12 + m, by omega, by rw [runs_late hp]; exact h2⟩
noncomputable def walk (t : SetTable) : Nat → Probe → Probe
  | 0, p => p
  | n + 1, p => t.advance (walk t n p)
theorem walk_add (t : SetTable) (a : Nat) : ∀ (b : Nat) (p : Probe), walk t (a + b) p = walk t b (walk t a p)
  | 0, _ => rfl
  | b + 1, p => by show t.advance (walk t (a + b) p) = t.advance (walk t b (walk t a p)); rw [walk_add t a b p]
theorem walk_run (t : SetTable) : ∀ (n : Nat) (p : Probe), n ≤ p.more → walk t n p = { p with j := p.j + n, more := p.more - n }
  | 0, p, _ => rfl
  | n + 1, p, h => by
    show t.advance (walk t n p) = _
    rw [walk_run t n p (by omega)]
    unfold advance
    rw [if_pos (by show p.more - n > 0; omega)]
    show ({ p with j := p.j + n + 1, more := p.more - n - 1 } : Probe) = _
    rw [Nat.add_assoc, Nat.sub_sub]
theorem more_le (mask i : Nat) : runEnd mask i - i ≤ 9 := by unfold runEnd; split <;> omega
theorem walk_next (t : SetTable) (p : Probe) : walk t (p.more + 1) p = { p with j := (leap t.mask p.i p.perturb).1, more := runEnd t.mask (leap t.mask p.i p.perturb).1 - (leap t.mask p.i p.perturb).1, i := (leap t.mask p.i p.perturb).1, perturb := (leap t.mask p.i p.perturb).2 } := by
  show t.advance (walk t p.more p) = _
  rw [walk_run t p.more p (Nat.le_refl _)]
  unfold advance
  rw [if_neg (by show ¬ p.more - p.more > 0; omega)]
theorem walk_runs (t : SetTable) (i p : Nat) : ∀ k, ∃ n, n ≤ 10 * k ∧ walk t n { j := i, more := runEnd t.mask i - i, i := i, perturb := p, dummy := none } =
    { j := (runs t.mask k i p).1, more := runEnd t.mask (runs t.mask k i p).1 - (runs t.mask k i p).1, i := (runs t.mask k i p).1, perturb := (runs t.mask k i p).2, dummy := none }
  | 0 => ⟨0, Nat.le_refl _, rfl⟩
  | k + 1 => by
    obtain ⟨n, h1, h2⟩ := walk_runs t i p k
    refine ⟨n + ((runEnd t.mask (runs t.mask k i p).1 - (runs t.mask k i p).1) + 1), ?_, ?_⟩
    · have := more_le t.mask (runs t.mask k i p).1
      omega
    · rw [walk_add, h2]
      exact walk_next t { j := (runs t.mask k i p).1, more := runEnd t.mask (runs t.mask k i p).1 - (runs t.mask k i p).1, i := (runs t.mask k i p).1, perturb := (runs t.mask k i p).2, dummy := none }
theorem bits_lt (h : Int) : bits h < 2 ^ 64 := by
  unfold bits
  have h1 := Int.emod_lt_of_pos h (show (0 : Int) < 2 ^ 64 by decide)
  have h2 := Int.emod_nonneg h (show (2 ^ 64 : Int) ≠ 0 by decide)
  omega
theorem walk_cover {t : SetTable} {h : Int} {x : Nat} (hm : Msk t.mask) (hx : x ≤ t.mask) : ∃ n, n < 10 * turns t.mask ∧ (walk t n (t.probeStart h)).j = x ∧ (walk t n (t.probeStart h)).dummy = none := by
  obtain ⟨k, h1, h2⟩ := runs_cover (p := bits h) (i := bits h % (t.mask + 1)) hm (Nat.le_of_lt_succ (Nat.mod_lt _ (Nat.succ_pos t.mask))) (bits_lt h) hx
  obtain ⟨n, h3, h4⟩ := walk_runs t (bits h % (t.mask + 1)) (bits h) k
  refine ⟨n, ?_, ?_, ?_⟩
  · unfold turns
    omega
  · show (walk t n { j := _, more := _, i := _, perturb := _, dummy := none }).j = x
    rw [h4]
    exact h2
  · show (walk t n { j := _, more := _, i := _, perturb := _, dummy := none }).dummy = none
    rw [h4]
theorem walk_dummy (t : SetTable) (p : Probe) : ∀ n, (walk t n p).dummy = p.dummy
  | 0 => rfl
  | n + 1 => by
    show (t.advance (walk t n p)).dummy = _
    unfold advance
    split <;> exact walk_dummy t p n
theorem slot_cases {t : SetTable} (hd : t.dummies = #[]) (j : Nat) : (t.slot j = .empty) ∨ (∃ i, t.slot j = .live i ∧ t.place[i]? = some j) := by
  unfold slot
  dsimp only
  by_cases e : t.place[below t.place j]? = some j
  · exact .inr ⟨_, by rw [if_pos (by rw [e]; simp)], e⟩
  · refine .inl ?_
    rw [if_neg (by simpa using e), if_neg]
    rw [hd]
    simp [has]
theorem pigeon : ∀ (n : Nat) (l : List Nat), l.length < n → ∃ x, x < n ∧ x ∉ l
  | 0, _, h => by omega
  | n + 1, l, h => by
    by_cases hn : n ∈ l
    · obtain ⟨x, h1, h2⟩ := pigeon n (l.erase n) (by rw [List.length_erase_of_mem hn]; have : 0 < l.length := List.length_pos_of_mem hn; omega)
      refine ⟨x, by omega, fun h3 => h2 ?_⟩
      exact (List.mem_erase_of_ne (by omega)).mpr h3
    · exact ⟨n, Nat.lt_succ_self n, hn⟩
theorem empty_there {t : SetTable} (hd : t.dummies = #[]) (hs : t.place.size ≤ t.mask) : ∃ x, x ≤ t.mask ∧ t.slot x = .empty := by
  obtain ⟨x, h1, h2⟩ := pigeon (t.mask + 1) t.place.toList (by rw [Array.length_toList]; omega)
  refine ⟨x, by omega, ?_⟩
  rcases slot_cases hd x with e | ⟨i, _, e⟩
  · exact e
  · exact absurd (by rw [Array.mem_toList_iff]; exact Array.mem_of_getElem? e) h2
theorem search_end {t : SetTable} (h : Int) (hm : Msk t.mask) (hd : t.dummies = #[]) (hs : t.place.size ≤ t.mask) :
    ∃ N, N < 10 * turns t.mask ∧ t.slot (walk t N (t.probeStart h)).j = .empty ∧ ∀ m, m < N → ∃ i, t.slot (walk t m (t.probeStart h)).j = .live i ∧ i < t.place.size := by
  obtain ⟨x, hx1, hx2⟩ := empty_there hd hs
  obtain ⟨n, hn1, hn2, _⟩ := walk_cover (h := h) hm hx1
  have ex : ∃ n, t.slot (walk t n (t.probeStart h)).j = .empty := ⟨n, by rw [hn2]; exact hx2⟩
  have key : ∀ n, t.slot (walk t n (t.probeStart h)).j = .empty → ∃ N, N ≤ n ∧ t.slot (walk t N (t.probeStart h)).j = .empty ∧ ∀ m, m < N → ¬ t.slot (walk t m (t.probeStart h)).j = .empty := by
    intro n
    induction n using Nat.strongRecOn with
    | _ n ih =>
      intro e
      by_cases hl : ∃ m, m < n ∧ t.slot (walk t m (t.probeStart h)).j = .empty
      · obtain ⟨m, h1, h2⟩ := hl
        obtain ⟨N, h3, h4⟩ := ih m h1 h2
        exact ⟨N, by omega, h4⟩
      · exact ⟨n, Nat.le_refl _, e, fun m h1 h2 => hl ⟨m, h1, h2⟩⟩
  obtain ⟨N, h1, h2, h3⟩ := key n (by rw [hn2]; exact hx2)
  refine ⟨N, by omega, h2, fun m hmN => ?_⟩
  rcases slot_cases hd (walk t m (t.probeStart h)).j with e | ⟨i, e1, e2⟩
  · exact absurd e (h3 m hmN)
  · refine ⟨i, e1, ?_⟩
    exact (Array.getElem?_eq_some_iff.mp e2).1
theorem probe_go {t : SetTable} {h : Int} {f : Nat → Int} {N : Nat} (he : t.slot (walk t N (t.probeStart h)).j = .empty) (hl : ∀ m, m < N → ∃ i, t.slot (walk t m (t.probeStart h)).j = .live i ∧ i < t.place.size) :
    ∀ (d m fuel : Nat), N - m = d → m ≤ N → d < fuel → (∃ m' i, m ≤ m' ∧ m' < N ∧ t.slot (walk t m' (t.probeStart h)).j = .live i ∧ i < t.place.size ∧ probe.go t f h fuel (walk t m (t.probeStart h)) = some (.candidate (walk t m' (t.probeStart h)).j i (walk t (m' + 1) (t.probeStart h)))) ∨
      probe.go t f h fuel (walk t m (t.probeStart h)) = some (.empty (walk t N (t.probeStart h)).j none)
  | 0, m, fuel, hd, hm, hf => by
    have e : m = N := by omega
    subst e
    right
    cases fuel with
    | zero => omega
    | succ fuel =>
      unfold probe.go
      rw [he]
      dsimp only
      rw [walk_dummy]
      rfl
  | d + 1, m, fuel, hd, hm, hf => by
    cases fuel with
    | zero => omega
    | succ fuel =>
      obtain ⟨i, h1, h2⟩ := hl m (by omega)
      unfold probe.go
      rw [h1]
      dsimp only
      by_cases q : (f i == h) = true
      · left
        rw [if_pos q]
        exact ⟨m, i, Nat.le_refl _, by omega, h1, h2, rfl⟩
      · rw [if_neg q]
        rcases probe_go he hl d (m + 1) fuel (by omega) (by omega) (by omega) with ⟨m', i', a1, a2, a3⟩ | a
        · exact .inl ⟨m', i', by omega, a2, a3⟩
        · exact .inr a
end SetT

set_option maxHeartbeats 4000000
namespace SetT
open PySem PySem.SetTable
theorem insertAt_size {α : Type} (xs : Array α) (p : Nat) (x : α) : (insertAt xs p x).size = xs.size + 1 := by
  unfold insertAt
  rw [Array.size_append, Array.size_push, Array.size_extract, Array.size_extract]
  omega
theorem insertAt_mem {α : Type} {xs : Array α} {p : Nat} {x y : α} (h : y ∈ (insertAt xs p x).toList) : y = x ∨ y ∈ xs.toList := by
  unfold insertAt at h
  rw [Array.toList_append, Array.toList_push] at h
  rcases List.mem_append.mp h with h | h
  · rcases List.mem_append.mp h with h | h
    · right
      rw [Array.toList_extract] at h
      exact List.mem_of_mem_drop (List.mem_of_mem_take h)
    · exact .inl (List.mem_singleton.mp h)
  · right
    rw [Array.toList_extract] at h
    exact List.mem_of_mem_drop (List.mem_of_mem_take h)
theorem put_place (t : SetTable) (j : Nat) : (t.put j).1.place.size = t.place.size + 1 := insertAt_size _ _ _
theorem put_dummies {t : SetTable} (hd : t.dummies = #[]) (j : Nat) : (t.put j).1.dummies = #[] := by
  show (if has t.dummies j then _ else t.dummies) = #[]
  rw [if_neg (by rw [hd]; simp [has]), hd]
noncomputable def cntO (mask : Nat) (owner : Array (Option Nat)) : Nat := (List.range (mask + 1)).countP fun j => (owner.getD j none).isSome
theorem countP_one {α : Type} [DecidableEq α] {p p' : α → Bool} {j : α} : ∀ {l : List α}, l.Nodup → j ∈ l → p j = false → p' j = true → (∀ x, x ≠ j → p' x = p x) → l.countP p' = l.countP p + 1
  | [], _, h, _, _, _ => by simp at h
  | x :: r, hn, h, h1, h2, h3 => by
    obtain ⟨n1, n2⟩ := List.nodup_cons.mp hn
    by_cases e : x = j
    · subst e
      rw [List.countP_cons_of_pos h2, List.countP_cons_of_neg (by rw [h1]; exact Bool.false_ne_true)]
      congr 1
      exact List.countP_congr fun y hy => by rw [h3 y (fun z => n1 (z ▸ hy))]
    · have hr : j ∈ r := (List.mem_cons.mp h).resolve_left fun z => e z.symm
      have ih := countP_one (p := p) (p' := p') n2 hr h1 h2 h3
      rw [List.countP_cons, List.countP_cons, ih, h3 x e]
      omega
structure Own (mask : Nat) (owner : Array (Option Nat)) (k : Nat) : Prop where
  sz : owner.size = mask + 1
  cnt : cntO mask owner = k
  lt : ∀ j v, owner.getD j none = some v → v < k
theorem Own.new (mask : Nat) : Own mask (Array.replicate (mask + 1) none) 0 := by
  have e : ∀ j, (Array.replicate (mask + 1) (none : Option Nat)).getD j none = none := fun j => by
    rw [Array.getD_eq_getD_getElem?, Array.getElem?_replicate]
    split <;> rfl
  refine ⟨by simp, ?_, fun j v h => by rw [e] at h; cases h⟩
  unfold cntO
  rw [List.countP_eq_zero]
  intro j _
  rw [e]
  simp
theorem getD_set {owner : Array (Option Nat)} {j x : Nat} {v : Option Nat} (hj : j < owner.size) : (owner.setIfInBounds j v).getD x none = if x = j then v else owner.getD x none := by
  rw [Array.getD_eq_getD_getElem?, Array.getD_eq_getD_getElem?, Array.getElem?_setIfInBounds]
  by_cases e : j = x
  · subst e
    rw [if_pos rfl, if_pos rfl, if_pos hj]
    rfl
  · rw [if_neg e, if_neg (fun z => e z.symm)]
theorem Own.put {mask k j : Nat} {owner : Array (Option Nat)} (O : Own mask owner k) (hj : j ≤ mask) (hn : owner.getD j none = none) : Own mask (owner.setIfInBounds j (some k)) (k + 1) := by
  have hj' : j < owner.size := by rw [O.sz]; omega
  refine ⟨by rw [Array.size_setIfInBounds]; exact O.sz, ?_, fun x v h => ?_⟩
  · unfold cntO
    rw [countP_one (p := fun j => (owner.getD j none).isSome) (j := j) List.nodup_range (List.mem_range.mpr (by omega)) (by rw [hn]; rfl) (by rw [getD_set hj', if_pos rfl]; rfl) (fun x hx => by rw [getD_set hj', if_neg hx])]
    congr 1
    exact O.cnt
  · rw [getD_set hj'] at h
    by_cases e : x = j
    · rw [if_pos e] at h
      cases h
      omega
    · rw [if_neg e] at h
      have := O.lt x v h
      omega
theorem Own.room {mask k : Nat} {owner : Array (Option Nat)} (O : Own mask owner k) (hk : k ≤ mask) : ∃ x, x ≤ mask ∧ owner.getD x none = none := by
  have h : ¬ ∀ x ∈ List.range (mask + 1), (owner.getD x none).isSome = true := fun h => by
    have e := List.countP_eq_length.mpr h
    have c := O.cnt
    unfold cntO at c
    rw [c, List.length_range] at e
    omega
  by_cases hx : ∃ x, x ≤ mask ∧ owner.getD x none = none
  · exact hx
  · refine absurd (fun x hm => ?_) h
    have hm := List.mem_range.mp hm
    cases q : owner.getD x none with
    | none => exact absurd ⟨x, by omega, q⟩ hx
    | some v => rfl
theorem getD_ne {owner : Array (Option Nat)} {x : Nat} (h : (owner.getD x (some 0)).isNone = true) : x < owner.size ∧ owner.getD x none = none := by
  rw [Array.getD_eq_getD_getElem?] at h
  rw [Array.getD_eq_getD_getElem?]
  cases q : owner[x]? with
  | none => rw [q] at h; cases h
  | some v =>
    rw [q] at h
    refine ⟨(Array.getElem?_eq_some_iff.mp q).1, ?_⟩
    cases v with
    | none => rfl
    | some v => cases h
theorem free_ok {mask k i p x : Nat} {owner : Array (Option Nat)} (O : Own mask owner k) (hx : x ≤ mask) (hn : owner.getD x none = none) {k0 : Nat} (hk0 : (runs mask k0 i p).1 = x) :
    ∀ (d m fuel : Nat), k0 - m = d → m ≤ k0 → d < fuel → ∃ j, layClean.free mask owner fuel (runs mask m i p).1 (runs mask m i p).2 = some j ∧ j ≤ mask ∧ owner.getD j none = none := by
  intro d
  induction d with
  | zero =>
    intro m fuel hd hm hf
    have e : m = k0 := by omega
    subst e
    cases fuel with
    | zero => omega
    | succ fuel =>
      unfold layClean.free
      cases q : (List.range (runEnd mask (runs mask m i p).1 + 1 - (runs mask m i p).1)).find? fun k => (owner.getD ((runs mask m i p).1 + k) (some 0)).isNone with
      | none =>
        have h := List.find?_eq_none.mp q 0 (List.mem_range.mpr (by unfold runEnd; split <;> omega))
        rw [Nat.add_zero, hk0] at h
        refine absurd ?_ h
        rw [Array.getD_eq_getD_getElem?] at hn
        rw [Array.getD_eq_getD_getElem?, Array.getElem?_eq_getElem (by rw [O.sz]; omega)]
        rw [Array.getElem?_eq_getElem (by rw [O.sz]; omega)] at hn
        simp only [Option.getD_some] at hn ⊢
        rw [hn]
        rfl
      | some k' =>
        have hq := List.find?_some q
        obtain ⟨h1, h2⟩ := getD_ne (x := (runs mask m i p).1 + k') hq
        exact ⟨_, rfl, by rw [O.sz] at h1; omega, h2⟩
  | succ d ih =>
    intro m fuel hd hm hf
    cases fuel with
    | zero => omega
    | succ fuel =>
      unfold layClean.free
      cases q : (List.range (runEnd mask (runs mask m i p).1 + 1 - (runs mask m i p).1)).find? fun k => (owner.getD ((runs mask m i p).1 + k) (some 0)).isNone with
      | none => exact ih (m + 1) fuel (by omega) (by omega) (by omega)
      | some k' =>
        have hq := List.find?_some q
        obtain ⟨h1, h2⟩ := getD_ne (x := (runs mask m i p).1 + k') hq
        exact ⟨_, rfl, by rw [O.sz] at h1; omega, h2⟩
theorem lay_fold {mask : Nat} (hm : Msk mask) : ∀ (l : List Int) (owner : Array (Option Nat)) (k : Nat), Own mask owner k → k + l.length ≤ mask →
    ∃ owner', l.foldl (init := some (owner, k)) (fun acc h => do
      let (owner, k) ← acc
      let j ← layClean.free mask owner (turns mask) (bits h % (mask + 1)) (bits h)
      pure (owner.setIfInBounds j (some k), k + 1)) = some (owner', k + l.length) ∧ Own mask owner' (k + l.length)
  | [], owner, k, O, _ => ⟨owner, rfl, O⟩
  | h :: r, owner, k, O, hl => by
    rw [List.length_cons] at hl
    obtain ⟨x, hx1, hx2⟩ := O.room (by omega)
    obtain ⟨k0, a1, a2⟩ := runs_cover (p := bits h) (i := bits h % (mask + 1)) hm (Nat.le_of_lt_succ (Nat.mod_lt _ (Nat.succ_pos mask))) (bits_lt h) hx1
    obtain ⟨j, b1, b2, b3⟩ := free_ok O hx1 hx2 a2 k0 0 (turns mask) (by omega) (by omega) (by unfold turns; exact a1)
    obtain ⟨owner', c1, c2⟩ := lay_fold hm r _ (k + 1) (O.put b2 b3) (by omega)
    refine ⟨owner', ?_, ?_⟩
    · rw [List.foldl_cons]
      have e : ((do
          let (owner, k) ← some (owner, k)
          let j ← layClean.free mask owner (turns mask) (bits h % (mask + 1)) (bits h)
          pure (owner.setIfInBounds j (some k), k + 1)) : Option (Array (Option Nat) × Nat)) = some (owner.setIfInBounds j (some k), k + 1) := by
        show (layClean.free mask owner (turns mask) (bits h % (mask + 1)) (bits h)).bind _ = _
        rw [show layClean.free mask owner (turns mask) (bits h % (mask + 1)) (bits h) = some j from b1]
        rfl
      rw [e, c1, List.length_cons]
      congr 2
      omega
    · rw [List.length_cons]
      have e2 : k + (r.length + 1) = k + 1 + r.length := by omega
      rw [e2]
      exact c2
theorem layClean_ok {mask : Nat} (hm : Msk mask) {hashes : Array Int} (hl : hashes.size ≤ mask) : ∃ owner, layClean mask hashes = some owner ∧ Own mask owner hashes.size := by
  obtain ⟨owner, h1, h2⟩ := lay_fold hm hashes.toList _ 0 (Own.new mask) (by rw [Array.length_toList]; omega)
  refine ⟨owner, ?_, ?_⟩
  · unfold layClean
    rw [← Array.foldl_toList, h1]
    rfl
  · rw [Array.length_toList, Nat.zero_add] at h2
    exact h2
theorem live_len {β : Type} (f : Nat → Option β) : ∀ l : List Nat, (l.filterMap fun j => (f j).map (j, ·)).length = l.countP fun j => (f j).isSome
  | [] => rfl
  | x :: r => by
    rw [List.filterMap_cons, List.countP_cons]
    cases q : f x with
    | none =>
      simp only [Option.map_none, Option.isSome_none]
      exact live_len f r
    | some v =>
      simp only [Option.map_some, Option.isSome_some, List.length_cons, if_true]
      rw [live_len f r]
theorem laid_ok {mask finger moves : Nat} {led plain : Bool} (hm : Msk mask) {hashes : Array Int} (hl : hashes.size ≤ mask) :
    ∃ t order, laid mask finger moves led plain hashes = some (t, order) ∧ t.mask = mask ∧ t.dummies = #[] ∧ t.place.size = hashes.size ∧ t.plain = plain ∧ order.size = hashes.size ∧ ∀ k ∈ order.toList, k < hashes.size := by
  obtain ⟨owner, h1, O⟩ := layClean_ok hm hl
  refine ⟨_, _, by unfold laid; rw [h1]; rfl, rfl, rfl, ?_, rfl, ?_, ?_⟩
  · show (((List.range (mask + 1)).filterMap fun j => (owner.getD j none).map (j, ·)).map (·.1)).toArray.size = _
    rw [List.size_toArray, List.length_map, live_len]
    exact O.cnt
  · rw [List.size_toArray, List.length_map, live_len]
    exact O.cnt
  · intro k hk
    obtain ⟨p, hp, e⟩ := List.mem_map.mp hk
    obtain ⟨j, _, hj⟩ := List.mem_filterMap.mp hp
    cases q : owner.getD j none with
    | none => rw [q] at hj; cases hj
    | some v =>
      rw [q] at hj
      cases hj
      cases e
      exact O.lt j _ q
structure TOk (t : SetTable) (n : Nat) : Prop where
  du : t.dummies = #[]
  pl : t.place.size = n
  at_ : (t.mask = 7 ∧ n ≤ 4) ∨ (t.mask = 31 ∧ n ≤ 18) ∨ (t.mask = 127 ∧ n ≤ 76) ∨ (t.mask = 511 ∧ n ≤ 306)
theorem TOk.msk {t : SetTable} {n : Nat} (h : TOk t n) : Msk t.mask := by
  rcases h.at_ with ⟨e, _⟩ | ⟨e, _⟩ | ⟨e, _⟩ | ⟨e, _⟩
  · exact .inl e
  · exact .inr (.inl e)
  · exact .inr (.inr (.inl e))
  · exact .inr (.inr (.inr e))
theorem TOk.le {t : SetTable} {n : Nat} (h : TOk t n) : n ≤ t.mask := by
  rcases h.at_ with ⟨e, _⟩ | ⟨e, _⟩ | ⟨e, _⟩ | ⟨e, _⟩ <;> omega
theorem TOk.fits {t : SetTable} {n : Nat} (h : TOk t n) : t.fits n = true := by
  unfold SetTable.fits SetTable.fill
  rw [h.pl, h.du]
  have := h.le
  simp
  exact this
theorem TOk.way {t : SetTable} {n : Nat} (h : TOk t n) : t.gaveWay = false := by
  unfold SetTable.gaveWay
  rcases h.at_ with ⟨e, _⟩ | ⟨e, _⟩ | ⟨e, _⟩ | ⟨e, _⟩ <;> rw [e] <;> rfl
theorem TOk.fresh (finger moves : Nat) (led : Bool) : TOk (SetTable.fresh finger moves led) 0 := ⟨rfl, rfl, .inl ⟨rfl, by omega⟩⟩
theorem TOk.put {t : SetTable} {n : Nat} (h : TOk t n) (hn : n < 200) (j : Nat) (pl : Bool) :
    ({ (t.put j).1 with plain := pl }.tooFull = false ∧ TOk { (t.put j).1 with plain := pl } (n + 1)) ∨
    ({ (t.put j).1 with plain := pl }.tooFull = true ∧ sizeAbove (grown (n + 1)) ≤ sizeLine ∧ ∀ hashes : Array Int, hashes.size = n + 1 → ∃ t' order, { (t.put j).1 with plain := pl }.relaid hashes (grown (n + 1)) = some (t', order) ∧ TOk t' (n + 1) ∧ order.size = n + 1 ∧ ∀ k ∈ order.toList, k < n + 1) := by
  have e1 : ({ (t.put j).1 with plain := pl } : SetTable).place.size = n + 1 := by show (t.put j).1.place.size = _; rw [put_place, h.pl]
  have e2 : ({ (t.put j).1 with plain := pl } : SetTable).dummies = #[] := put_dummies h.du j
  have e3 : ({ (t.put j).1 with plain := pl } : SetTable).mask = t.mask := rfl
  have ef : ({ (t.put j).1 with plain := pl } : SetTable).tooFull = decide ((n + 1) * 5 ≥ t.mask * 3) := by
    unfold SetTable.tooFull SetTable.fill
    rw [e1, e2, e3]
    simp
  have again : ∀ m k, n + 1 = k → sizeAbove (grown k) = m + 1 → Msk m → k ≤ m → ((m = 7 ∧ k ≤ 4) ∨ (m = 31 ∧ k ≤ 18) ∨ (m = 127 ∧ k ≤ 76) ∨ (m = 511 ∧ k ≤ 306)) → m + 1 ≤ sizeLine →
      sizeAbove (grown (n + 1)) ≤ sizeLine ∧ ∀ hashes : Array Int, hashes.size = n + 1 → ∃ t' order, { (t.put j).1 with plain := pl }.relaid hashes (grown (n + 1)) = some (t', order) ∧ TOk t' (n + 1) ∧ order.size = n + 1 ∧ ∀ k ∈ order.toList, k < n + 1 := by
    intro m k hk hs hm hle hat hz
    subst hk
    refine ⟨by rw [hs]; exact hz, fun hashes hh => ?_⟩
    obtain ⟨t', order, h1, h2, h3, h4, _, h6, h7⟩ := laid_ok (mask := m) (finger := ({ (t.put j).1 with plain := pl } : SetTable).finger) (moves := ({ (t.put j).1 with plain := pl } : SetTable).movedTo m) (led := ({ (t.put j).1 with plain := pl } : SetTable).led) (plain := pl) hm (hashes := hashes) (by omega)
    refine ⟨t', order, ?_, ⟨h3, by omega, by rw [h2]; exact hat⟩, by omega, fun k hk => by have := h7 k hk; omega⟩
    unfold SetTable.relaid
    rw [hs]
    exact h1
  rw [ef]
  rcases h.at_ with ⟨e, b⟩ | ⟨e, b⟩ | ⟨e, b⟩ | ⟨e, b⟩
  · by_cases q : n = 4
    · right
      refine ⟨by rw [e]; exact decide_eq_true (by omega), again 31 5 (by omega) (by decide +kernel) (.inr (.inl rfl)) (by decide) (by decide) (by decide)⟩
    · left
      exact ⟨by rw [e]; exact decide_eq_false (by omega), ⟨e2, e1, .inl ⟨e3.trans e, by omega⟩⟩⟩
  · by_cases q : n = 18
    · right
      refine ⟨by rw [e]; exact decide_eq_true (by omega), again 127 19 (by omega) (by decide +kernel) (.inr (.inr (.inl rfl))) (by decide) (by decide) (by decide)⟩
    · left
      exact ⟨by rw [e]; exact decide_eq_false (by omega), ⟨e2, e1, .inr (.inl ⟨e3.trans e, by omega⟩)⟩⟩
  · by_cases q : n = 76
    · right
      refine ⟨by rw [e]; exact decide_eq_true (by omega), again 511 77 (by omega) (by decide +kernel) (.inr (.inr (.inr rfl))) (by decide) (by decide) (by decide)⟩
    · left
      exact ⟨by rw [e]; exact decide_eq_false (by omega), ⟨e2, e1, .inr (.inr (.inl ⟨e3.trans e, by omega⟩))⟩⟩
  · left
    exact ⟨by rw [e]; exact decide_eq_false (by omega), ⟨e2, e1, .inr (.inr (.inr ⟨e3.trans e, by omega⟩))⟩⟩
end SetT

set_option maxHeartbeats 4000000

namespace L2
open PySem PySem.Spec PyProof.Rows SetT
section
variable {prog : Program} {w : World} {K : Type} [DecidableEq K] {knd : KeyKind prog w K} {A : Around} {E : Value → Shared → Prop} {s : Shared}
theorem classStmt_val (n : Nat) {v : Value} (h : carriedByValue v = true) : ofAClassStatement n v = pure false := by
  cases v <;> first | (cases h; done) | (cases n <;> rfl)
theorem classStmt_tup {ks : List K} {a : Addr} {Q : Bool → Shared → Prop} (hk : IsTupleKey knd s.heap ks a) (h : Q false s) : wpAny (model prog w) A (ofAClassStatement 8 (.ref a)) Q E s := by
  have hT := hk.typeIs
  obtain ⟨o, items, n, ho, _, hd, hi⟩ := hk
  unfold ofAClassStatement
  refine wpAny_bind (wpAny_typeOf hT ?_)
  dsimp only
  rw [if_pos (by decide)]
  refine wpAny_bind (wpAny_pure ?_)
  simp only [Bool.not_true, Bool.false_eq_true, if_false]
  refine wpAny_bind (wpAny_seqItems ho hd ?_)
  dsimp only
  refine wpAny_bind ?_
  show wpAny _ _ (forIn items _ _) _ _ s
  rw [← Array.forIn_toList]
  refine wpAny_forIn_list _ (fun rest r s' => r.1 = none ∧ s' = s ∧ ∀ v ∈ rest, carriedByValue v = true) _ ?_ ?_ _ _ ⟨rfl, rfl, hi.byValue⟩
  · rintro v rest r s' ⟨hr, rfl, hall⟩
    rw [classStmt_val _ (hall v List.mem_cons_self)]
    refine wpAny_bind (wpAny_pure ?_)
    simp only [Bool.false_eq_true, if_false]
    exact wpAny_pure ⟨rfl, rfl, fun u hu => hall u (List.mem_cons_of_mem _ hu)⟩
  · rintro r s' ⟨hr, rfl, _⟩
    obtain ⟨r1, r2⟩ := r
    cases hr
    exact wpAny_pure h
theorem seen_no {ks : List K} {a : Addr} {stored : List Value} {Q : Bool → Shared → Prop} (hk : IsTupleKey knd s.heap ks a) (hst : ∀ v ∈ stored, ∃ k b, v = .ref b ∧ IsTupleKey knd s.heap k b) (h : Q false s) :
    wpAny (model prog w) A (searchCouldBeSeen (.ref a) stored) Q E s := by
  unfold searchCouldBeSeen
  refine wpAny_bind ?_
  refine wpAny_forIn_list _ (fun rest r s' => s' = s ∧ r.1 = none ∧ ∀ v ∈ rest, ∃ k b, v = .ref b ∧ IsTupleKey knd s.heap k b) _ ?_ ?_ _ _ ⟨rfl, rfl, hst⟩
  · rintro x rest r s' ⟨rfl, hr, hall⟩
    obtain ⟨k', b, rfl, hb⟩ := hall x List.mem_cons_self
    have go : ∀ v ∈ rest, ∃ k b, v = .ref b ∧ IsTupleKey knd s'.heap k b := fun v hv => hall v (List.mem_cons_of_mem _ hv)
    dsimp only
    by_cases e : ((a == b) || (carriedByValue (Value.ref a) && carriedByValue (Value.ref b))) = true
    · rw [if_pos e]
      exact wpAny_pure ⟨rfl, rfl, go⟩
    · rw [if_neg e]
      refine wpAny_bind (wpAny_eqIsQuiet_tuple hk ?_)
      simp only [Bool.not_true, Bool.false_eq_true, if_false]
      refine wpAny_bind (wpAny_eqIsQuiet_tuple hb ?_)
      simp only [Bool.not_true, Bool.false_eq_true, if_false]
      refine wpAny_bind (classStmt_tup hk ?_)
      simp only [Bool.false_eq_true, if_false]
      refine wpAny_bind (classStmt_tup hb ?_)
      simp only [Bool.false_eq_true, if_false]
      exact wpAny_pure ⟨rfl, rfl, go⟩
  · rintro r s' ⟨rfl, hr, _⟩
    obtain ⟨r1, r2⟩ := r
    cases hr
    exact wpAny_pure h
theorem byValue_val (n : Nat) {v : Value} (h : carriedByValue v = true) : ∃ b, hashByValue n v = pure b := by
  cases v <;> first | (cases h; done) | (cases n <;> exact ⟨_, rfl⟩)
theorem byValue_tup {ks : List K} {a : Addr} {Q : Bool → Shared → Prop} (hk : IsTupleKey knd s.heap ks a) (h : ∀ b, Q b s) : wpAny (model prog w) A (hashByValue 8 (.ref a)) Q E s := by
  have hT := hk.typeIs
  obtain ⟨o, items, n, ho, _, hd, hi⟩ := hk
  unfold hashByValue
  refine wpAny_bind (wpAny_specialOf hT F.slot_tuple_hash.lookup ?_)
  dsimp only
  refine wpAny_bind (wpAny_seqItems ho hd ?_)
  refine wpAny_bind ?_
  show wpAny _ _ (forIn items _ _) _ _ s
  rw [← Array.forIn_toList]
  refine wpAny_forIn_list _ (fun rest r s' => s' = s ∧ ∀ v ∈ rest, carriedByValue v = true) _ ?_ ?_ _ _ ⟨rfl, hi.byValue⟩
  · rintro v rest r s' ⟨rfl, hall⟩
    obtain ⟨b, hb⟩ := byValue_val 7 (hall v List.mem_cons_self)
    rw [hb]
    refine wpAny_bind (wpAny_pure ?_)
    cases b with
    | true =>
      simp only [Bool.not_true, Bool.false_eq_true, if_false]
      exact wpAny_pure ⟨rfl, fun u hu => hall u (List.mem_cons_of_mem _ hu)⟩
    | false =>
      simp only [Bool.not_false, if_true]
      exact wpAny_pure (wpAny_pure (h _))
  · rintro r s' ⟨rfl, _⟩
    obtain ⟨r1, r2⟩ := r
    cases r1 with
    | none => exact wpAny_pure (h _)
    | some b => exact wpAny_pure (h _)
noncomputable def SetH (h : Heap) (S : Addr) (knd : KeyKind prog w K) (ks : List (List K × Addr)) : Prop :=
  ∃ o es ep t, h.get? S = some o ∧ o.ExactSet ∧ o.data = .set es ep t ∧ TOk t es.size ∧ es.size = ks.length ∧ ∀ e ∈ es.toList, ∃ k b, (k, b) ∈ ks ∧ e.2 = .ref b ∧ IsTupleKey knd h k b
theorem key_but {h h' : Heap} {ks : List K} {a S : Addr} {o : Obj} {es ep t} (x : IsTupleKey knd h ks a) (ho : h.get? S = some o) (hd : o.data = .set es ep t) (hs : Heap.SameBut S h h') : IsTupleKey knd h' ks a := by
  obtain ⟨o', items, n, ho', hc, hd', hi⟩ := x
  have hne : a ≠ S := by
    rintro rfl
    obtain rfl : o' = o := Option.some.inj (ho'.symm.trans ho)
    rw [hd] at hd'; exact nomatch hd'
  exact ⟨o', items, n, (hs.2 a hne).trans ho', hc, hd', hi⟩
theorem search_free {S a : Addr} {o : Obj} {es : Array (Int × Value)} {ep : Nat} {t : SetTable} {k : List K} {h : Int} {Q : SetFound → Shared → Prop} (hu : A.units < cLine) (ho : s.heap.get? S = some o) (hd : o.data = .set es ep t) (ht : TOk t es.size)
    (hk : IsTupleKey knd s.heap k a) (hne : ∀ e ∈ es.toList, ∃ k' b, k' ≠ k ∧ e.2 = .ref b ∧ IsTupleKey knd s.heap k' b) {N : Nat}
    (hN : t.slot (walk t N (t.probeStart h)).j = .empty) (hl : ∀ m, m < N → ∃ i, t.slot (walk t m (t.probeStart h)).j = .live i ∧ i < t.place.size) (hNf : N < 10 * SetTable.turns t.mask) (hq : ∀ j, Q (.free j false) s) :
    ∀ (d m fuel : Nat) (stand : Option SetTable.Probe), N - m = d → m ≤ N → d < fuel → stand.getD (t.probeStart h) = walk t m (t.probeStart h) → wpAny (model prog w) A (setSearchFrom S (.ref a) h true fuel stand) Q E s := by
  intro d
  induction d using Nat.strongRecOn with
  | _ d ih =>
    intro m fuel stand hd' hm hf hst
    cases fuel with
    | zero => omega
    | succ fuel =>
      unfold setSearchFrom
      refine wpAny_bind (wpAny_setState_of ho hd ht.fits ?_)
      dsimp only
      rw [ht.way]
      simp only [Bool.false_eq_true, if_false]
      rw [hst]
      unfold SetTable.probe
      rcases probe_go (f := _) hN hl d m (10 * SetTable.turns t.mask) hd' hm (by omega) with ⟨m', i, h1, h2, h3, h4, h5⟩ | h5
      · rw [h5]
        dsimp only
        have hi : i < es.size := by rw [← ht.pl]; exact h4
        have hes : es[i]? = some es[i] := Array.getElem?_eq_getElem hi
        obtain ⟨k', b, hk', hb, hkb⟩ := hne es[i] (Array.getElem_mem_toList hi)
        have tail : wpAny (model prog w) A (do
            let some (_, y) := es[i]? | unsupported "internal:set-entry"
            let equal ← holding [y] (eqBool y (.ref a))
            let (es', _, t') ← setState S
            if true && equal then return .there none
            let some same := t'.sameMemory t.moves t.mask | unsupported "set.changed-during-lookup:is-the-new-block-at-the-old-address"
            let still ← match (if same then t'.slot (walk t m' (t.probeStart h)).j else .empty) with
              | .live i' => match es'[i']? with
                | some (_, y') => do pure (if ← isSame y' y then some i' else none)
                | none => pure none
              | _ => pure none
            match still with
            | none => rule "set.search.anew"; setSearchFrom S (.ref a) h true fuel none
            | some i' => if equal then return .there (some i') else setSearchFrom S (.ref a) h true fuel (some (walk t (m' + 1) (t.probeStart h)))) Q E s := by
          rw [hes]
          obtain ⟨eh, ev⟩ : ∃ eh ev, es[i] = (eh, ev) := ⟨_, _, rfl⟩
          have ev' : es[i] = (es[i].1, .ref b) := by rw [← hb]
          rw [ev']
          dsimp only
          refine wpAny_bind (wpAny_holding (wpAny_eqBool_tuple hu hkb hk ?_))
          refine wpAny_bind (wpAny_setState_of ho hd ht.fits ?_)
          dsimp only
          rw [decide_eq_false hk']
          simp only [Bool.and_false, Bool.false_eq_true, if_false]
          rw [show t.sameMemory t.moves t.mask = some true by unfold SetTable.sameMemory; rw [if_pos (by simp)]]
          dsimp only
          rw [if_pos rfl, h3]
          dsimp only
          rw [hes, ev']
          dsimp only
          refine wpAny_bind (wpAny_isSame_ref_self (wpAny_bind (wpAny_pure ?_)))
          rw [if_pos rfl]
          dsimp only
          exact ih (N - (m' + 1)) (by omega) (m' + 1) fuel _ rfl (by omega) (by omega) rfl
        cases hled : t.led with
        | true =>
          simp only [Bool.not_true, Bool.false_eq_true, if_false]
          exact tail
        | false =>
          simp only [Bool.not_false, if_true]
          refine wpAny_bind (seen_no hk (fun v hv => ?_) ?_)
          · obtain ⟨e, he, rfl⟩ := List.mem_map.mp hv
            have he' : e ∈ es.toList := by
              rw [Array.toList_filter] at he
              exact (List.mem_filter.mp he).1
            obtain ⟨k', b, _, hb, hkb⟩ := hne e he'
            exact ⟨k', b, hb, hkb⟩
          · simp only [Bool.false_eq_true, if_false]
            exact tail
      · rw [h5]
        dsimp only
        exact wpAny_pure (hq _)
theorem map_fst_size (es : Array (Int × Value)) : (es.map (·.1)).size = es.size := by simp
theorem order_es {es : Array (Int × Value)} {order : Array Nat} (h : ∀ k ∈ order.toList, k < es.size) : (order.filterMap (es[·]?)).size = order.size ∧ ∀ e ∈ (order.filterMap (es[·]?)).toList, e ∈ es.toList := by
  have go : ∀ l : List Nat, (∀ k ∈ l, k < es.size) → (l.filterMap (es[·]?)).length = l.length ∧ ∀ e ∈ l.filterMap (es[·]?), e ∈ es.toList := by
    intro l
    induction l with
    | nil => intro _; exact ⟨rfl, fun e he => by simp at he⟩
    | cons x r ih =>
      intro hl
      have hx := hl x List.mem_cons_self
      obtain ⟨h1, h2⟩ := ih fun k hk => hl k (List.mem_cons_of_mem _ hk)
      rw [List.filterMap_cons, Array.getElem?_eq_getElem hx]
      refine ⟨by simp only [List.length_cons]; rw [h1], fun e he => ?_⟩
      rcases List.mem_cons.mp he with rfl | he
      · exact Array.getElem_mem_toList hx
      · exact h2 e he
  obtain ⟨h1, h2⟩ := go order.toList h
  rw [← Array.toList_filterMap] at h1 h2
  exact ⟨by rw [← Array.length_toList, h1, Array.length_toList], h2⟩
theorem setAdd_new {S a : Addr} {ks : List (List K × Addr)} {k : List K} {Q : Bool → Shared → Prop} (hu : A.units < cLine) (hS : SetH s.heap S knd ks) (hk : IsTupleKey knd s.heap k a) (hn : ∀ p ∈ ks, p.1 ≠ k) (hz : ks.length < 200)
    (hq : ∀ h' tk, Heap.SameBut S s.heap h' → SetH h' S knd ((k, a) :: ks) → s.toks ≤ tk → Q true { s with heap := h', toks := tk }) : wpAny (model prog w) A (setAdd S (.ref a)) Q E s := by
  obtain ⟨o, es, ep, t, ho, hx, hd, ht, hsz, hel⟩ := hS
  unfold setAdd
  refine wpAny_holding ?_
  refine wpAny_bind (wpAny_pyHash_tuple hu hk ?_)
  unfold setAddHashed
  refine wpAny_holding ?_
  unfold setAddHashedIn
  refine wpAny_bind (wpAny_setState_of (s := { s with toks := s.toks + (k.length + 1) }) ho hd ht.fits ?_)
  dsimp only
  rw [if_neg (by simp [byScan, Value.scannable])]
  obtain ⟨N, h1, h2, h3⟩ := search_end (tupleKeyHash knd k) ht.msk ht.du (by rw [ht.pl]; exact ht.le)
  have hne : ∀ e ∈ es.toList, ∃ k' b, k' ≠ k ∧ e.2 = .ref b ∧ IsTupleKey knd s.heap k' b := fun e he => by
    obtain ⟨k', b, q1, q2, q3⟩ := hel e he
    exact ⟨k', b, hn _ q1, q2, q3⟩
  have hbig : N < 100000 := by
    have : SetTable.turns t.mask ≤ 526 := by
      unfold SetTable.turns
      rcases ht.msk with e | e | e | e <;> omega
    omega
  unfold setSearch
  refine wpAny_bind (search_free (s := { s with toks := s.toks + (k.length + 1) }) hu ho hd ht hk hne h2 h3 h1 (fun j => ?_) N 0 100000 none (by omega) (by omega) (by omega) rfl)
  dsimp only
  refine wpAny_bind (wpAny_setState_of (s := { s with toks := s.toks + (k.length + 1) }) ho hd ht.fits ?_)
  dsimp only
  have hput := fun pl => ht.put (by omega) j pl
  obtain ⟨t1, p, e1⟩ : ∃ t1 p, t.put j = (t1, p) := ⟨_, _, rfl⟩
  rw [e1] at hput ⊢
  dsimp only at hput ⊢
  -- behind the mark
  have fin : ∀ pl : Bool, wpAny (model prog w) A (do
      storeSet S (SetTable.insertAt es p (tupleKeyHash knd k, .ref a)) { t1 with plain := pl }
      if (!false && { t1 with plain := pl }.tooFull) = true then do
        setRelay S (SetTable.grown (es.size + 1))
        pure true
      else pure true) Q E { s with toks := s.toks + (k.length + 1) } := fun pl => by
    have hsz1 : (SetTable.insertAt es p (tupleKeyHash knd k, Value.ref a)).size = es.size + 1 := insertAt_size _ _ _
    refine wpAny_bind (wpAny_storeSet_of (s := { s with toks := s.toks + (k.length + 1) }) ho hd ?_ (by rw [hsz1]; exact Nat.le_trans (by omega : es.size + 1 ≤ 1000) (Nat.le_of_lt (small1000 (Nat.le_refl _)))))
    have hg : (s.heap.update S (Obj.putSet (SetTable.insertAt es p (tupleKeyHash knd k, Value.ref a)) { t1 with plain := pl })).get? S = some { o with data := .set (SetTable.insertAt es p (tupleKeyHash knd k, Value.ref a)) (ep + 1) { t1 with plain := pl } } := by
      have := Heap.get?_update_self (Obj.putSet (SetTable.insertAt es p (tupleKeyHash knd k, Value.ref a)) { t1 with plain := pl }) ho (by rw [putSet_of _ _ hd]; rfl)
      rw [putSet_of _ _ hd] at this
      exact this
    have hsb := Heap.SameBut.update s.heap S (Obj.putSet (SetTable.insertAt es p (tupleKeyHash knd k, Value.ref a)) { t1 with plain := pl })
    have hel1 : ∀ e ∈ (SetTable.insertAt es p (tupleKeyHash knd k, Value.ref a)).toList, ∃ k' b, (k', b) ∈ (k, a) :: ks ∧ e.2 = .ref b ∧ IsTupleKey knd (s.heap.update S (Obj.putSet (SetTable.insertAt es p (tupleKeyHash knd k, Value.ref a)) { t1 with plain := pl })) k' b := fun e he => by
      rcases insertAt_mem he with rfl | he
      · exact ⟨k, a, List.mem_cons_self, rfl, key_but hk ho hd hsb⟩
      · obtain ⟨k', b, q1, q2, q3⟩ := hel e he
        exact ⟨k', b, List.mem_cons_of_mem _ q1, q2, key_but q3 ho hd hsb⟩
    rcases hput pl with ⟨f1, f2⟩ | ⟨f1, f2, f3⟩
    · rw [if_neg (by rw [f1]; simp)]
      exact wpAny_pure (hq _ _ hsb ⟨_, _, _, _, hg, hx, rfl, by rw [hsz1]; exact f2, by rw [hsz1, List.length_cons, hsz], hel1⟩ (Nat.le_add_right _ _))
    · rw [if_pos (by rw [f1]; simp)]
      unfold setRelay
      have hfit : ({ t1 with plain := pl } : SetTable).fits (SetTable.insertAt es p (tupleKeyHash knd k, Value.ref a)).size = true := by
        rw [hsz1]
        have e2 : ({ t1 with plain := pl } : SetTable).place.size = es.size + 1 := by
          have := put_place t j
          rw [e1, ht.pl] at this
          exact this
        have e3 : ({ t1 with plain := pl } : SetTable).dummies = #[] := by
          have := put_dummies ht.du j
          rw [e1] at this
          exact this
        have e4 : ({ t1 with plain := pl } : SetTable).mask = t.mask := by
          have : (t.put j).1.mask = t.mask := rfl
          rw [e1] at this
          exact this
        unfold SetTable.fits SetTable.fill
        rw [e2, e3, e4]
        have := ht.le
        have hlt : es.size + 1 ≤ t.mask := by
          rcases ht.at_ with ⟨e, b⟩ | ⟨e, b⟩ | ⟨e, b⟩ | ⟨e, b⟩ <;> omega
        simp
        exact hlt
      refine wpAny_bind (wpAny_bind (wpAny_setState_of (s := { s with heap := s.heap.update S (Obj.putSet (SetTable.insertAt es p (tupleKeyHash knd k, Value.ref a)) { t1 with plain := pl }), toks := s.toks + (k.length + 1) }) hg rfl hfit ?_))
      dsimp only
      rw [if_neg (Nat.not_lt.mpr f2)]
      obtain ⟨t', order, g1, g2, g3, g4⟩ := f3 ((SetTable.insertAt es p (tupleKeyHash knd k, Value.ref a)).map (·.1)) (by rw [map_fst_size, hsz1])
      rw [g1]
      obtain ⟨o1, o2⟩ := order_es (es := SetTable.insertAt es p (tupleKeyHash knd k, Value.ref a)) (order := order) (by rw [hsz1]; exact g4)
      have re : wpAny (model prog w) A (do
          let some (t, order) := some (t', order) | unsupported "internal:set-table-without-room"
          let es' := order.filterMap ((SetTable.insertAt es p (tupleKeyHash knd k, Value.ref a))[·]?)
          if es'.size != (SetTable.insertAt es p (tupleKeyHash knd k, Value.ref a)).size then unsupported "internal:set-table-lost-an-element"
          pure (es', t)) (fun r s' => r = (order.filterMap ((SetTable.insertAt es p (tupleKeyHash knd k, Value.ref a))[·]?), t') ∧ s' = { s with heap := s.heap.update S (Obj.putSet (SetTable.insertAt es p (tupleKeyHash knd k, Value.ref a)) { t1 with plain := pl }), toks := s.toks + (k.length + 1) }) E { s with heap := s.heap.update S (Obj.putSet (SetTable.insertAt es p (tupleKeyHash knd k, Value.ref a)) { t1 with plain := pl }), toks := s.toks + (k.length + 1) } := by
        dsimp only
        rw [if_neg (by rw [o1, g3, hsz1]; simp)]
        exact wpAny_pure ⟨rfl, rfl⟩
      refine wpAny_bind (wpAny_mono re (fun r s' hr => ?_) fun _ _ x => x)
      obtain ⟨rfl, rfl⟩ := hr
      dsimp only
      have hz2 : (order.filterMap ((SetTable.insertAt es p (tupleKeyHash knd k, Value.ref a))[·]?)).size = es.size + 1 := by rw [o1, g3]
      refine wpAny_storeSet_of (s := { s with heap := s.heap.update S (Obj.putSet (SetTable.insertAt es p (tupleKeyHash knd k, Value.ref a)) { t1 with plain := pl }), toks := s.toks + (k.length + 1) }) hg rfl ?_ (by rw [hz2]; exact Nat.le_trans (by omega : es.size + 1 ≤ 1000) (Nat.le_of_lt (small1000 (Nat.le_refl _))))
      have hg2 := Heap.get?_update_self (Obj.putSet (order.filterMap ((SetTable.insertAt es p (tupleKeyHash knd k, Value.ref a))[·]?)) t') hg (by rw [putSet_of _ _ rfl]; rfl)
      rw [putSet_of _ _ rfl] at hg2
      have hsb2 := Heap.SameBut.update (s.heap.update S (Obj.putSet (SetTable.insertAt es p (tupleKeyHash knd k, Value.ref a)) { t1 with plain := pl })) S (Obj.putSet (order.filterMap ((SetTable.insertAt es p (tupleKeyHash knd k, Value.ref a))[·]?)) t')
      refine wpAny_pure (hq _ _ (hsb.trans hsb2) ⟨_, _, _, _, hg2, hx, rfl, by rw [hz2]; exact g2, by rw [hz2, List.length_cons, hsz], fun e he => ?_⟩ (Nat.le_add_right _ _))
      obtain ⟨k', b, q1, q2, q3⟩ := hel1 e (o2 e he)
      exact ⟨k', b, q1, q2, key_but q3 hg rfl hsb2⟩
  cases hpl : t1.plain with
  | true =>
    rw [if_pos rfl]
    refine wpAny_bind (byValue_tup (s := { s with toks := s.toks + (k.length + 1) }) hk fun b => ?_)
    cases b with
    | true =>
      rw [if_pos rfl]
      exact fin t1.plain
    | false =>
      rw [if_neg Bool.false_ne_true]
      exact fin false
  | false =>
    rw [if_neg Bool.false_ne_true]
    refine wpAny_bind (wpAny_pure ?_)
    rw [if_pos rfl]
    exact fin t1.plain
end
end L2

set_option maxHeartbeats 4000000
namespace L2
open PySem PySem.Spec PyProof.Rows SetT
noncomputable def keysTo {κ : Type} (kk : Nat → κ) : Nat → List κ
  | 0 => []
  | i + 1 => kk i :: keysTo kk i
theorem keysTo_mem {κ : Type} {kk : Nat → κ} {x : κ} : ∀ {i : Nat}, x ∈ keysTo kk i → ∃ j, j < i ∧ kk j = x
  | 0, h => by simp [keysTo] at h
  | i + 1, h => by
    rcases List.mem_cons.mp h with e | h
    · exact ⟨i, Nat.lt_succ_self i, e.symm⟩
    · obtain ⟨j, h1, h2⟩ := keysTo_mem h
      exact ⟨j, by omega, h2⟩
theorem keysTo_len {κ : Type} (kk : Nat → κ) : ∀ i, (keysTo kk i).length = i
  | 0 => rfl
  | i + 1 => by show (keysTo kk i).length + 1 = i + 1; rw [keysTo_len kk i]
section
variable {prog : Program} {w : World} {K : Type} [DecidableEq K] {knd : KeyKind prog w K} {A : Around} {R : Result → Shared → Prop} {I : Addr} {fp wr : List Addr} {G : Array GenState → Array GenState → Prop} {n : Nat} {P : Nat → Value → Prop} {St : Nat → Shared → Prop}
theorem SetH.at' {h h' : Heap} {S : Addr} {ks : List (List K × Addr)} (x : SetH h S knd ks) (kS : ∀ o, h.get? S = some o → h'.get? S = some o) (kb : ∀ p ∈ ks, ∀ o, h.get? p.2 = some o → h'.get? p.2 = some o) : SetH h' S knd ks := by
  obtain ⟨o, es, ep, t, ho, hx, hd, ht, hsz, hel⟩ := x
  refine ⟨o, es, ep, t, kS _ ho, hx, hd, ht, hsz, fun e he => ?_⟩
  obtain ⟨k, b, q1, q2, o', its, m, q3, q4⟩ := hel e he
  exact ⟨k, b, q1, q2, o', its, m, kb _ q1 _ q3, q4⟩
theorem set_loopH (W : WalksS prog w A.in1 I fp wr G n P St) (S : Addr) (hSf : S ∉ fp) (hu : A.in1.units < cLine) (kk : Nat → List K × Addr) (hval : ∀ i v, P i v → v = .ref (kk i).2) (hbw : ∀ i, i < n → (kk i).2 ∉ S :: wr)
    (hnd : ∀ i j, i < n → j < n → (kk i).1 = (kk j).1 → i = j) (hb : n < 200) :
    ∀ (k i : Nat) (s : Shared), n - i = k → i ≤ n → St i s → SetH s.heap S knd (keysTo kk i) → (∀ j, j < n → IsTupleKey knd s.heap (kk j).1 (kk j).2) →
      (∀ s', Moved (S :: wr) G s s' → SetH s'.heap S knd (keysTo kk n) → R (.ok (.ret .none)) s') →
      codeAny (model prog w) A (.builtin "set.update.loop" ⟨[.ref S, .ref I], []⟩) R s := by
  have hSw : S ∉ wr := fun h => hSf (W.sub _ h)
  have hsub : ∀ b ∈ wr, b ∈ S :: wr := fun b hb => List.mem_cons_of_mem _ hb
  have hkw : ∀ i, i ≤ n → ∀ p ∈ keysTo kk i, p.2 ∉ S :: wr := fun i hi p hp => by
    obtain ⟨j, h1, rfl⟩ := keysTo_mem hp
    exact hbw j (by omega)
  intro k
  induction k with
  | zero =>
    intro i s hk hi hst hS hK hR
    have hin : i = n := by omega
    subst hin
    refine codeAny_builtin PyProof.Rows.F.entry_set_update_loop ?_
    rw [Around.under_plainId PyProof.Rows.F.plain_set_update_loop _]
    show wpAny _ A.in1 (pyNext (.ref I) >>= _) _ _ s
    refine wpAny_bind (W.done s _ _ hst fun s' hm => ?_)
    show wpAny _ A.in1 (ret Value.none) _ _ s'
    exact wpAny_pure (hR s' (hm.mono hsub) (hS.at' (fun o e => hm.heap S _ hSw e) fun p hp o e => hm.heap _ _ (fun z => hkw _ hi p hp (hsub _ z)) e))
  | succ k ih =>
    intro i s hk hi hst hS hK hR
    have hlt : i < n := by omega
    refine codeAny_builtin PyProof.Rows.F.entry_set_update_loop ?_
    rw [Around.under_plainId PyProof.Rows.F.plain_set_update_loop _]
    show wpAny _ A.in1 (pyNext (.ref I) >>= _) _ _ s
    refine wpAny_bind (W.item i s _ _ hlt hst fun v s' hP hst' hm => ?_)
    have ev := hval i v hP
    subst ev
    have hS' : SetH s'.heap S knd (keysTo kk i) := hS.at' (fun o e => hm.heap S _ hSw e) fun p hp o e => hm.heap _ _ (fun z => hkw _ hi p hp (hsub _ z)) e
    have hK' : ∀ j, j < n → IsTupleKey knd s'.heap (kk j).1 (kk j).2 := fun j hj => by
      obtain ⟨o', its, m, q3, q4⟩ := hK j hj
      exact ⟨o', its, m, hm.heap _ _ (fun z => hbw j hj (hsub _ z)) q3, q4⟩
    show wpAny _ A.in1 (holding [Value.ref (kk i).2] (setAdd S (.ref (kk i).2)) >>= _) _ _ s'
    refine wpAny_bind (wpAny_holding ?_)
    refine setAdd_new hu hS' (hK' i hlt) (fun p hp z => ?_) (by rw [keysTo_len]; omega) fun h' tk hsb hS2 htk => ?_
    · obtain ⟨j, h1, rfl⟩ := keysTo_mem hp
      have := hnd j i (by omega) hlt z
      omega
    · obtain ⟨o, es, ep, t, ho, hx, hd, _⟩ := id hS'
      refine wpAny_pure ⟨plainId_quiet PyProof.Rows.F.plain_set_update_loop _, ih (i + 1) _ (by omega) hlt (W.frame _ s' _ _ hst' htk fun b hb o e => ?_) hS2 (fun j hj => key_but (hK' j hj) ho hd hsb) fun s'' hm'' hS'' => ?_⟩
      · rw [hsb.2 b (fun h : b = S => hSf (by rw [← h]; exact hb))]; exact e
      · refine hR s'' (Moved.trans W.gtrans ((hm.mono hsub).then_heap htk fun b o hb e => ?_) hm'') hS''
        rw [hsb.2 b (fun h : b = S => hb (by rw [h]; exact List.mem_cons_self))]; exact e
end
end L2

set_option maxHeartbeats 4000000
namespace L2
open PySem PySem.Spec PyProof.Rows SetT
section
variable {prog : Program} {w : World} {K : Type} [DecidableEq K] {knd : KeyKind prog w K} {A : Around} {E : Value → Shared → Prop} {s : Shared}
noncomputable def newSetO (led : Bool) : Obj := { cls := .type "set", dict := none, data := .set #[] 0 (.fresh 0 0 led) }
theorem call_set_tups {l : Addr} {its : Array Value} {kk : Nat → List K × Addr} {Q : Value → Shared → Prop} (hh : A.handled = none) (hu : A.units + 8 < cLine) (hl : s.heap.IsList l its) (hit : ∀ (i : Nat) (v : Value), its[i]? = some v → v = .ref (kk i).2)
    (hK : ∀ j, j < its.size → IsTupleKey knd s.heap (kk j).1 (kk j).2) (hnd : ∀ i j, i < its.size → j < its.size → (kk i).1 = (kk j).1 → i = j) (hb : its.size < 200)
    (q : ∀ (h' : Heap) (tk : Nat), SetH h' s.heap.objs.size knd (keysTo kk its.size) → (∀ b o, b < s.heap.objs.size → s.heap.get? b = some o → h'.get? b = some o) → Q (.ref s.heap.objs.size) { s with heap := h', toks := tk }) :
    wpAny (model prog w) A (call (.type "set") [.ref l]) Q E s := by
  obtain ⟨mc, mt, hmro⟩ := F.called_set.mro
  have g1 := F.called_set.made
  have g2 := F.called_set.sub
  refine wpAny_call (codeAny_of_tree ?_)
  show wpAny _ _ (callAny (.type "set") _) _ _ _
  refine wpAny_pure ⟨Code.quiet_builtin _ (by decide +kernel), codeAny_builtin F.entry_type_call ?_⟩
  rw [Around.under_plain (weight_type_call_type "set" [Value.ref l] []) rfl]
  have g3 := F.called_set.notType
  have g4 := F.called_set.canCreate
  have g5 := F.typeCall_set_1 (.ref l)
  repeat (any_goals (first | assumption | wp_step))
  refine codeAny_mono (code_set_new_1 (.ref l) (E := E) (Q₁ := fun ob s₁ => ∃ led : Bool, ob = .ref s.heap.objs.size ∧ s₁ = { s with heap := s.heap.push (newSetO led) }) fun led => ⟨led, rfl, rfl⟩) fun r s₁ hr => ?_
  cases r with
  | error e => exact hr
  | ok fl =>
    cases fl with
    | ret obj =>
      obtain ⟨led, rfl, rfl⟩ := hr
      have hS : (s.heap.push (newSetO led)).get? s.heap.objs.size = some (newSetO led) := Heap.get?_push_size _ rfl
      have hT : Shared.TypeIs { s with heap := s.heap.push (newSetO led) } (.ref s.heap.objs.size) "set" := ⟨_, hS, rfl⟩
      have g6 := F.called_set.init.lookup
      have g7 := F.called_set.init.bind (.ref s.heap.objs.size)
      repeat (any_goals (first | assumption | wp_step))
      refine codeAny_mono (codeAny_call_builtin (R := wants (fun r s₂ => r = .none ∧ ∃ h' tk, s₂ = { s with heap := h', toks := tk } ∧ SetH h' s.heap.objs.size knd (keysTo kk its.size) ∧
          (∀ b o, b < s.heap.objs.size → s.heap.get? b = some o → h'.get? b = some o)) E) F.called_set.init.plain F.entry_set_init (check_set_init_1 hT ?_)) fun r₂ s₂ hr₂ => ?_
      · obtain ⟨ol, hol, hcl, nl, hdl⟩ := id hl
        obtain ⟨c1, c2, c3, c4⟩ := ol
        dsimp only at hcl hdl
        subst hcl hdl
        have hol' : (s.heap.push (newSetO led)).get? l = some { cls := .type "list", dict := c2, data := .seq its nl, slots := c4 } := Heap.get?_push_of_some _ hol
        have g8 := F.sub_list_set
        have g9 := F.sub_list_frozenset
        have g10 : (Value.type "list" == Value.type "dict") = false := by decide
        have hl1 : (s.heap.push (newSetO led)).IsList l its := ⟨_, hol', rfl, nl, rfl⟩
        unfold Builtin.«set.__init__» noKeywords Builtin.Frozenset.updateFrom
        generalize hPI : pyIter = PI
        wp_walk
        subst hPI
        refine wpAny_pyIter_list hl1 ?_
        refine wpAny_bind (wpAny_runValue ?_)
        have hlS : l < s.heap.objs.size := Heap.lt_size hol
        have hh3 : A.in1.in1.in1.handled = none := hh
        have en : (s.heap.push (newSetO led)).objs.size = s.heap.objs.size + 1 := Heap.size_push _ _
        have hneI : l ≠ (s.heap.push (newSetO led)).objs.size := by rw [en]; exact Nat.ne_of_lt (Nat.lt_succ_of_lt hlS)
        have hSf : s.heap.objs.size ∉ [(s.heap.push (newSetO led)).objs.size, l] := by
          rw [en]
          simp only [List.mem_cons, List.not_mem_nil, or_false, not_or]
          exact ⟨Nat.ne_of_lt (Nat.lt_succ_self _), Nat.ne_of_gt hlS⟩
        have old : ∀ b o, s.heap.get? b = some o → ((s.heap.push (newSetO led)).push { cls := .type "list_iterator", data := .fields #[.ref l, .int 0 0] }).get? b = some o := fun b o e => Heap.get?_push_of_some _ (Heap.get?_push_of_some _ e)
        refine set_loopH (knd := knd) ((Walks.list hh3 _ l hneI its).toS) s.heap.objs.size hSf (by show A.units + 1 + 1 + 1 < cLine; omega) kk hit (fun i hi => ?_) hnd hb (its.size - 0) 0 _ (by omega) (Nat.zero_le _)
          ⟨⟨_, Heap.get?_push_size _ rfl, rfl, rfl⟩, (hl1.push _)⟩ ?hS0 (fun j hj => ?_) ?hR
        case hS0 =>
          refine ⟨newSetO led, #[], 0, .fresh 0 0 led, Heap.get?_push_of_some _ hS, ⟨rfl, rfl, rfl⟩, rfl, TOk.fresh 0 0 led, rfl, fun e he => by simp at he⟩
        case hR =>
          intro s' hm hS'
          obtain ⟨h', ga, dr, tk', os'⟩ := s'
          obtain rfl : ga = s.gens := hm.gens
          obtain rfl : dr = s.drawn := hm.drawn
          obtain rfl : os' = s.os := hm.os
          show wpAny _ _ _ _ _ _
          refine wpAny_pure ?_
          show wpAny _ _ (ret Value.none) _ _ _
          refine wpAny_pure ⟨rfl, h', tk', rfl, hS', fun b o hb' e => hm.heap b o ?_ (old b o e)⟩
          rw [en]
          simp only [List.mem_cons, List.not_mem_nil, or_false, not_or]
          exact ⟨Nat.ne_of_lt hb', Nat.ne_of_lt (Nat.lt_succ_of_lt hb')⟩
        · obtain ⟨o', _, _, q3, _⟩ := hK i hi
          have hb' := Heap.lt_size q3
          rw [en]
          simp only [List.mem_cons, List.not_mem_nil, or_false, not_or]
          exact ⟨Nat.ne_of_lt hb', Nat.ne_of_lt (Nat.lt_succ_of_lt hb')⟩
        · obtain ⟨o', items, m, q3, q4⟩ := hK j hj
          exact ⟨o', items, m, old _ _ q3, q4⟩
      · cases r₂ with
        | error e => exact hr₂
        | ok fl₂ =>
          cases fl₂ with
          | ret r =>
            obtain ⟨rfl, h', tk, rfl, hS', hk'⟩ := hr₂
            repeat (any_goals (first | assumption | wp_step))
            exact q _ _ hS' hk'
          | _ => exact hr₂.elim
    | _ => exact hr.elim
end
noncomputable def setHO (a : Addr) (n : Nat) : HO := .ext fun h => ∃ o es ep t, h.get? a = some o ∧ o.ExactSet ∧ o.data = .set es ep t ∧ t.fits es.size = true ∧ es.size = n ∧ n < 1000
section
variable {X : Cx}
noncomputable def rSetT (K : PySem.W.Frag) : List V → Hp → VK → Prop := fun xs H Q => ∃ p as ks, xs = [.ref p] ∧ SqL K H p (as.map V.ref) ∧ Paired (fun (a : Addr) (k : List Key) => H a = some (.tup (k.map kV))) as ks ∧ ks.Nodup ∧ ks.length < 200 ∧ ∀ l, H l = none → Q (.ref l) (upd H l (setHO l ks.length))
theorem Paired.get {α β : Type} {F : α → β → Prop} : ∀ {l : List α} {m : List β} {i : Nat} {x : α}, Paired F l m → l[i]? = some x → ∃ y, m[i]? = some y ∧ F x y
  | _, _, _, _, .nil, e => by simp at e
  | _, _, 0, _, .cons q _, e => by
    simp at e
    subst e
    exact ⟨_, rfl, q⟩
  | _, _, i + 1, x, .cons _ t, e => by
    obtain ⟨y, h1, h2⟩ := Paired.get (i := i) (x := x) t (by simpa using e)
    exact ⟨y, by simpa using h1, h2⟩
theorem call_setT (hc : X.calm = true) (hu : X.A.units + 64 < cLine) : CallR X (.type "set") (rSetT X.K) := by
  intro pins s σ H xs us Q I r h
  obtain ⟨p, as, ks, rfl, hq, hp, hn, hz, q⟩ := h
  obtain ⟨u, rfl, rx⟩ := vals1 r
  cases rx
  obtain ⟨its, r', pl, hz'⟩ := I.list hq
  have hlen := r'.length
  rw [List.length_map] at hlen
  have hlk := Paired.length hp
  have at_ : ∀ i, i < its.length → ∃ a k, as[i]? = some a ∧ ks[i]? = some k ∧ its[i]? = some (.ref a) ∧ H a = some (.tup (k.map kV)) := fun i hi => by
    have ha : as[i]? = some as[i] := List.getElem?_eq_getElem (by omega)
    obtain ⟨k, e1, e2⟩ := Paired.get hp ha
    have hv : (as.map V.ref)[i]? = some (.ref as[i]) := by rw [List.getElem?_map, ha]; rfl
    obtain ⟨v, e3, e4⟩ := Paired.get r' hv
    refine ⟨_, k, ha, e1, ?_, e2⟩
    rw [e3]
    exact congrArg some e4
  have hsz : its.toArray.size = its.length := List.size_toArray
  refine call_set_tups (knd := mixKind X.prog X.w) (kk := fun i => ((ks[i]?).getD [], (as[i]?).getD 0)) (I.ok.hd hc) (by omega) pl.isList (fun i v hv => ?_) (fun j hj => ?_) (fun i j hi hj e => ?_) (by rw [hsz]; omega) fun h' tk hS hk => ?_
  · have hi : i < its.length := by
      have := (Array.getElem?_eq_some_iff.mp hv).1
      rw [hsz] at this
      exact this
    obtain ⟨a, k, e1, e2, e3, e4⟩ := at_ i hi
    have hv' : its[i]? = some v := by simpa using hv
    rw [e3] at hv'
    dsimp only
    rw [e1]
    exact (Option.some.inj hv').symm
  · obtain ⟨a, k, e1, e2, e3, e4⟩ := at_ j (by rw [hsz] at hj; exact hj)
    dsimp only
    rw [e1, e2]
    exact key_of I.hok e4
  · rw [hsz] at hi hj
    obtain ⟨a, k, e1, e2, e3, e4⟩ := at_ i hi
    obtain ⟨a', k', e1', e2', e3', e4'⟩ := at_ j hj
    dsimp only at e
    rw [e2, e2'] at e
    have e : k = k' := e
    subst e
    exact (List.getElem?_inj (by omega) hn).mp (e2.trans e2'.symm)
  · refine ⟨.ref s.heap.objs.size, _, I.laid (t' := tk) (o := setHO s.heap.objs.size ks.length) (fun b o e => hk b o (Heap.lt_size e) e) (Nat.le_refl _) ?_, rfl, q _ (I.hok.fresh (Nat.le_refl _))⟩
    obtain ⟨o, es, ep, t, ho, hx, hd, ht, hs, _⟩ := hS
    rw [keysTo_len, hsz] at hs
    refine ⟨⟨o, es, ep, t, ho, hx, hd, ht.fits, by omega, by omega⟩, ⟨o, ho⟩, fun h1 h2 ⟨o, es, ep, t, b1, b2⟩ k => ⟨o, es, ep, t, k _ b1, b2⟩⟩
theorem call_lenS : CallR X (.builtin "len") (fun xs H Q => ∃ a n, xs = [V.ref a] ∧ H a = some (setHO a n) ∧ Q (.int n) H) := by
  intro pins s σ H xs us Q I r h
  obtain ⟨a, n, rfl, ha, q⟩ := h
  obtain ⟨u, rfl, rx⟩ := vals1 r
  cases rx
  obtain ⟨⟨o, es, ep, t, ho, hx, hd, hf, hn, hb⟩, _⟩ := I.hok a _ ha
  subst hn
  refine call_len_set ho hx hd hf ?_ ⟨.int es.size, H, I.tok _, ⟨_, rfl⟩, q⟩
  have h9 : (1000 : Int) < 2 ^ 63 := by decide
  omega
end
end L2

set_option maxHeartbeats 4000000
namespace Bd
open PySem L2
section
variable {X : Cx} {pins : List (Addr × Obj)} {σ : St} {H : Hp} {s : Shared}
theorem eqAt_cells {A : Around} (I : Inv X pins σ H s) (hu : A.units < cLine) {a b : Addr} {r c r' c' : Int} (ha : CellAt H a r c) (hb : CellAt H b r' c') : SeqAt.EqAt A s (.ref a) (.ref b) (decide (r = r' ∧ c = c')) := by
  by_cases e : a = b
  · subst e
    have q : some (HO.tup [V.int r, V.int c]) = some (HO.tup [V.int r', V.int c']) := ha.symm.trans hb
    simp only [Option.some.injEq, HO.tup.injEq, List.cons.injEq, V.int.injEq, and_true] at q
    obtain ⟨rfl, rfl⟩ := q
    rw [decide_eq_true (show r = r ∧ c = c from ⟨rfl, rfl⟩)]
    exact SeqAt.EqAt.same _
  · obtain ⟨i1, r1, t1, _⟩ := I.tuple (SqT.of (K := X.K) ha)
    obtain ⟨i2, r2, t2, _⟩ := I.tuple (SqT.of (K := X.K) hb)
    obtain ⟨u1, u2, rfl, ⟨k1, rfl⟩, ⟨k2, rfl⟩⟩ := vals2 r1
    obtain ⟨w1, w2, rfl, ⟨m1, rfl⟩, ⟨m2, rfl⟩⟩ := vals2 r2
    have h := SeqAt.RcAt.tuples (A := A) (s := s) (e := fun j => if j = 0 then r == r' else c == c') t1 t2 hu (fun j h1 h2 => ?_)
    · have e2 : ((List.range (min (#[Value.int r k1, Value.int c k2] : Array Value).size (#[Value.int r' m1, Value.int c' m2] : Array Value).size)).all (fun j => if j = 0 then r == r' else c == c') && (#[Value.int r k1, Value.int c k2] : Array Value).size == (#[Value.int r' m1, Value.int c' m2] : Array Value).size) = decide (r = r' ∧ c = c') := by
        have e3 : (List.range (min 2 2)) = [0, 1] := rfl
        show ((List.range (min 2 2)).all _ && (2 == 2)) = _
        rw [e3]
        by_cases h1 : r = r' <;> by_cases h2 : c = c' <;> simp [h1, h2]
      rw [← e2]
      exact SeqAt.EqAt.of_refs e h
    · have h1 : j < 2 := h1
      rcases (by omega : j = 0 ∨ j = 1) with rfl | rfl
      · exact SeqAt.EqAt.int_int r k1 r' m1
      · exact SeqAt.EqAt.int_int c k2 c' m2
noncomputable def eqC (H : Hp) (r c : Int) (u : Value) : Bool := match u with
  | .ref a => (match H a with
    | some (.tup [.int r', .int c']) => decide (r' = r ∧ c' = c)
    | _ => false)
  | _ => false
theorem eqC_at {a : Addr} {r c r' c' : Int} (h : CellAt H a r' c') : eqC H r c (.ref a) = decide (r' = r ∧ c' = c) := by
  have h' : H a = some (.tup [.int r', .int c']) := h
  unfold eqC
  simp only [h']
theorem any_eqC {r c : Int} : ∀ {as : List Addr} {cs : List (Int × Int)}, CellsAt H as cs → (as.map Value.ref).any (eqC H r c) = decide ((r, c) ∈ cs)
  | _, _, .nil => by simp
  | _, _, .cons (b := p) q t => by
    rw [List.map_cons, List.any_cons, eqC_at q, any_eqC t]
    obtain ⟨p1, p2⟩ := p
    by_cases h : p1 = r ∧ p2 = c
    · obtain ⟨rfl, rfl⟩ := h
      simp
    · have h2 : ¬ (r, c) = (p1, p2) := fun z => h (by injection z with z1 z2; exact ⟨z1.symm, z2.symm⟩)
      simp [h, h2]
theorem vals_refs : ∀ {as : List Addr} {us : List Value}, Vals (as.map V.ref) us → us = as.map Value.ref
  | [], _, .nil => rfl
  | _ :: _, _, .cons h t => by rw [List.map_cons, vals_refs t]; exact congrArg (· :: _) h
end
section
variable {X : Cx}
noncomputable def rInC (K : PySem.W.Frag) (neg : Bool) : R2 := fun x y H Q => ∃ b r c p as cs, x = .ref b ∧ CellAt H b r c ∧ y = .ref p ∧ SqL K H p (as.map V.ref) ∧ CellsAt H as cs ∧ Q (.bl (if neg then !decide ((r, c) ∈ cs) else decide ((r, c) ∈ cs))) H
theorem op_notInC (hu : X.A.units + 1 < cLine) : OpR X (compareOp .NotIn) (rInC X.K true) := by
  intro pins s σ H x y v u Q I rx ry h
  obtain ⟨b, r, c, p, as, cs, rfl, hb, rfl, hq, hcs, q⟩ := h
  cases rx
  cases ry
  obtain ⟨its, rr, pl, hz⟩ := I.list hq
  have e := vals_refs rr
  refine SeqAt.notIn_listAt (eqC H r c) pl.isList (fun w hw => ?_) ⟨.bl _, H, I, rfl, ?_⟩
  · have hw' : w ∈ its := by simpa using hw
    rw [e] at hw'
    obtain ⟨a, ha, rfl⟩ := List.mem_map.mp hw'
    obtain ⟨pc, _, hc⟩ := hcs.mem ha
    rw [eqC_at hc]
    exact eqAt_cells I hu hc hb
  · rw [show its.toArray.any (eqC H r c) = its.any (eqC H r c) by simp, e, any_eqC hcs]
    exact q
end
end Bd

set_option maxHeartbeats 4000000

namespace K06
open PySem L2 Bd
noncomputable def top (i : Nat) : Stmt := PySem.Challenge.pw_sidechain_k06_bridges_told.main.body.getD i (.Pass ⟨0, 0, 0, 0⟩)
noncomputable abbrev sHand : Stmt := top 8
noncomputable abbrev sOther : Stmt := top 9
noncomputable abbrev sFirst : Stmt := top 10
noncomputable abbrev sLast : Stmt := top 11
noncomputable abbrev sChain : Stmt := top 18
noncomputable abbrev sWay : Stmt := top 19
noncomputable abbrev sLen : Stmt := top 15
noncomputable abbrev sCellAt : Stmt := top 27
noncomputable abbrev sWhole : Stmt := top 28
noncomputable abbrev sIsCells : Stmt := top 32
noncomputable abbrev sLNear : Stmt := top 31
noncomputable abbrev sOwners : Stmt := top 29
noncomputable abbrev sBoardOf : Stmt := top 30
noncomputable abbrev sIsChain : Stmt := top 33
noncomputable abbrev sJoined : Stmt := top 34
noncomputable abbrev sOwned : Stmt := top 35
noncomputable abbrev sOpen : Stmt := top 36
noncomputable abbrev sSizes : Stmt := top 37
noncomputable abbrev sNoHand : Stmt := top 39
noncomputable abbrev sBadHand : Stmt := top 40
noncomputable abbrev sLaw : Stmt := top 42
noncomputable abbrev sCopied : Stmt := top 16
noncomputable abbrev sNeed : Stmt := top 21
noncomputable abbrev sSpread : Stmt := top 22
noncomputable abbrev sPassable : Stmt := top 23
noncomputable abbrev sPrice : Stmt := top 24
noncomputable abbrev sBelt : Stmt := top 25
noncomputable abbrev sNeedForm : Stmt := top 38
noncomputable abbrev sFilled : Stmt := top 41
noncomputable abbrev sInit : Stmt := inClass (top 14) 0
noncomputable abbrev sRows : Stmt := inClass (top 14) 1
noncomputable abbrev sCols : Stmt := inClass (top 14) 2
noncomputable abbrev sPut : Stmt := inClass (top 14) 3
noncomputable abbrev sOwner : Stmt := inClass (top 14) 5
noncomputable abbrev sNear : Stmt := inClass (top 14) 6
noncomputable abbrev sEmpties : Stmt := inClass (top 14) 7
noncomputable abbrev sCheck : Stmt := inClass (top 14) 8
structure Ads where
  CB : Addr
  CE : Addr
  NC : Addr
  NH : Addr
  CT : Addr
  EM : Addr
  NB : Addr
structure ExcK (K : PySem.W.Frag) (mg : Str → Option Value) (D : Ads) (x : Str) (C : Addr) (b1 b2 b3 b4 b5 : Bool) : Prop where
  exc : Exc K mg x C
structure Txt (K : PySem.W.Frag) (mg : Str → Option Value) (D : Ads) : Prop where
  cl : Cls K D.CB
  nH : NoAttr K D.CB "height"
  nW : NoAttr K D.CB "width"
  nO : NoAttr K D.CB "owners"
  mgB : mg "Board" = some (.ref D.CB)
  most : ∃ t, mg "MOST" = some (.int 10 t)
  mgE : mg "BoardError" = some (.ref D.CE)
  xNC : ExcK K mg D "NoCell" D.NC true false false false false
  xNH : ExcK K mg D "NoHand" D.NH false true false false false
  xCT : ExcK K mg D "CellTaken" D.CT false false true false false
  xNB : Exc K mg "NoBoard" D.NB
  len : mg "len" = none
  isi : mg "isinstance" = none
  rng : mg "range" = none
  tInt : mg "int" = none
  tBool : mg "bool" = none
  tList : mg "list" = none
  tTuple : mg "tuple" = none
  hcls : ExcCls K D.NH
  hcd : ∃ cd, PySem.W.clsIn K D.NH = some cd
  hq1 : PySem.W.kitOne K (.ref D.NH) (.ref D.NC) = some false
  hq2 : PySem.W.kitOne K (.ref D.NH) (.ref D.NH) = some true
  hq5 : PySem.W.kitOne K (.ref D.NH) (.ref D.NB) = some false
  hq6 : PySem.W.kitOne K (.ref D.NH) (.type "ValueError") = some true
  hexm : PySem.W.exmOne K (.ref D.NH) (.ref D.CE) = some true
  tVE : mg "ValueError" = none
  k1 : PySem.W.kitOne K (.type "list") (.type "list") = some true
  tStr : mg "str" = none
  k5 : PySem.W.kitOne K (.type "str") (.type "str") = some true
  k2 : PySem.W.kitOne K (.type "tuple") (.type "tuple") = some true
  k3 : PySem.W.kitOne K (.type "int") (.type "int") = some true
  k4 : PySem.W.kitOne K (.type "int") (.type "bool") = some false
inductive spLen (D : Ads) (vs : List V) (H : Hp) (Q : VK) (E : XK) : Prop
  | mk (n : Int) (y'1 : vs = [.int n]) (y'2 : (1 ≤ n ∧ n ≤ 10 → Q .non H)) (y'3 : (¬ (1 ≤ n ∧ n ≤ 10) → E (.ref D.NB) none H)) : spLen D vs H Q E
inductive spHand (D : Ads) (vs : List V) (H : Hp) (Q : VK) (E : XK) : Prop
  | mk (n : Int) (y'1 : vs = [.int n]) (y'2 : (n = 1 ∨ n = 2 → Q .non H)) (y'3 : (¬ (n = 1 ∨ n = 2) → E (.ref D.NH) none H)) : spHand D vs H Q E
inductive spInit (D : Ads) (vs : List V) (H : Hp) (Q : VK) (E : XK) : Prop
  | mk (p dx : Addr) (m n : Int) (y'1 : vs = [.ref p, .int m, .int n]) (y'2 : H p = some (.ins D.CB dx [])) (y'3 : (∀ R C : Nat, m = R → n = C → 1 ≤ R → R ≤ 10 → 1 ≤ C → C ≤ 10 → ∀ d H', H d = none → BoardAt D.CB H' p d R C (fun _ => 0) → (∀ b o, H b = some o → b ≠ p → H' b = some o) → Q .non H')) (y'4 : (¬ ((1 ≤ m ∧ m ≤ 10) ∧ 1 ≤ n ∧ n ≤ 10) → E (.ref D.NB) none H)) : spInit D vs H Q E
inductive spCheck (D : Ads) (vs : List V) (H : Hp) (Q : VK) (E : XK) : Prop
  | mk (p d b : Addr) (R C : Nat) (own : Nat × Nat → Int) (r c : Int) (y'1 : vs = [.ref p, .ref b]) (y'2 : BoardAt D.CB H p d R C own) (y'3 : CellAt H b r c) (y'4 : (inB R C r c → Q .non H)) (y'5 : (¬ inB R C r c → E (.ref D.NC) none H)) : spCheck D vs H Q E
inductive spSize (D : Ads) (f : Nat → Nat → Nat) (vs : List V) (H : Hp) (Q : VK) (E' : XK) : Prop
  | mk (p d : Addr) (R C : Nat) (own : Nat × Nat → Int) (y'1 : vs = [.ref p]) (y'2 : BoardAt D.CB H p d R C own) (y'3 : Q (.int (f R C)) H) : spSize D f vs H Q E'
inductive spPut (D : Ads) (vs : List V) (H : Hp) (Q : VK) (E : XK) : Prop
  | mk (p d b : Addr) (R C : Nat) (own : Nat × Nat → Int) (r c h : Int) (y'1 : vs = [.ref p, .ref b, .int h]) (y'2 : R * C ≤ 100) (y'3 : BoardAt D.CB H p d R C own) (y'4 : CellAt H b r c) (y'5 : (¬ inB R C r c → E (.ref D.NC) none H)) (y'6 : (inB R C r c → ¬ (h = 1 ∨ h = 2) → E (.ref D.NH) none H)) (y'7 : (inB R C r c → h = 1 ∨ h = 2 → own (r.toNat, c.toNat) ≠ 0 → E (.ref D.CT) none H)) (y'8 : (inB R C r c → h = 1 ∨ h = 2 → own (r.toNat, c.toNat) = 0 → Q .non (upd H d (.dT (kvsOf R C (setO own r c h)))))) : spPut D vs H Q E
inductive spOwner (D : Ads) (vs : List V) (H : Hp) (Q : VK) (E : XK) : Prop
  | mk (p d b : Addr) (R C : Nat) (own : Nat × Nat → Int) (r c : Int) (y'1 : vs = [.ref p, .ref b]) (y'2 : BoardAt D.CB H p d R C own) (y'3 : CellAt H b r c) (y'4 : (¬ inB R C r c → E (.ref D.NC) none H)) (y'5 : (inB R C r c → Q (.int (own (r.toNat, c.toNat))) H)) : spOwner D vs H Q E
inductive spEmpties (D : Ads) (vs : List V) (H : Hp) (Q : VK) (E' : XK) : Prop
  | mk (p d : Addr) (R C : Nat) (own : Nat × Nat → Int) (y'1 : vs = [.ref p]) (y'2 : R * C ≤ 100) (y'3 : BoardAt D.CB H p d R C own) (y'4 : ∀ l H', Same H H' → H l = none → LCells H' l (emptiesL R C own) → Q (.ref l) H') : spEmpties D vs H Q E'
inductive spNear (D : Ads) (vs : List V) (H : Hp) (Q : VK) (E : XK) : Prop
  | mk (p d b : Addr) (R C : Nat) (own : Nat × Nat → Int) (r c : Int) (y'1 : vs = [.ref p, .ref b]) (y'2 : BoardAt D.CB H p d R C own) (y'3 : CellAt H b r c) (y'4 : (inB R C r c → ∀ l H', Same H H' → H l = none → LCells H' l (nearL R C r c) → Q (.ref l) H')) (y'5 : (¬ inB R C r c → E (.ref D.NC) none H)) : spNear D vs H Q E
inductive spLNear (vs : List V) (H : Hp) (Q : VK) (E' : XK) : Prop
  | mk (R C : Nat) (b : Addr) (r c : Int) (y'1 : vs = [.int R, .int C, .ref b]) (y'2 : CellAt H b r c) (y'3 : ∀ l H', Same H H' → H l = none → LCells H' l (nearL R C r c) → Q (.ref l) H') : spLNear vs H Q E'
inductive spCellAt (K : PySem.W.Frag) (vs : List V) (H : Hp) (Q : VK) (E' : XK) : Prop
  | mk (a : Addr) (ns : List Int) (k : Nat) (y'1 : vs = [.ref a, .int k]) (y'2 : SqL K H a (ns.map V.int)) (y'3 : ns.length ≤ 63) (y'4 : Q (.int (ns.getD k 0)) H) : spCellAt K vs H Q E'
noncomputable def spWhole : Sp := fun vs H Q _ => ∃ i : Int, vs = [.int i] ∧ Q (.bl true) H
inductive spIsCells (vs : List V) (H : Hp) (Q : VK) (E' : XK) : Prop
  | mk (R C : Nat) (l : Addr) (cs : List (Int × Int)) (y'1 : vs = [.ref l, .int R, .int C]) (y'2 : LCells H l cs) (y'3 : (∀ p ∈ cs, inB R C p.1 p.2)) (y'4 : Q (.bl true) H) : spIsCells vs H Q E'
section
variable {P : Program} {w : World} {K : PySem.W.Frag} {mg : Str → Option Value} {base : Heap} {D : Ads}
theorem scLen : FnScope ["number"] ["number"] (defScope sLen) := ⟨rfl, rfl, rfl, by decide +kernel, rfl, by decide +kernel, by decide +kernel⟩
theorem ok_len {f : Addr} {fd : FuncData} (F : Fun K "check_length" "check_length" sLen f fd) (T : Txt K mg D) : FnOk P w K mg base (CX1 P w) 1 f fd ["number"] (spLen D) := by
  refine F.ok1 scLen (fun vs H Q E h => ?_) (fun cdv A outer s H vs Q E hr h => ?_)
  · obtain ⟨n, rfl, _⟩ := h
    rfl
  · obtain ⟨n, rfl, k1, k2⟩ := h
    obtain ⟨tm, hm⟩ := T.most
    refine ⟨_, pss_one (ps_if (PW.pt (pw_or (pt_cmpR op_lt (pv 0) pe_int (nomark _)) (pw_or1 (pt_cmpR op_gt (pv 0) (pe_glob (v := .int 10) rfl hm ⟨_, rfl⟩) (nomark _))))) (pss_one (ps_raise hr.hd T.xNB rfl)) pss_nil), ?_⟩
    refine ⟨_, rfl, _, _, rfl, rfl, _, rfl, ite2 (fun h => ?_) (fun h => ?_)⟩
    · refine iteT (k2 ?_)
      simp only [decide_eq_true_eq] at h
      omega
    · refine ⟨_, rfl, _, _, rfl, rfl, _, rfl, ite2 (fun h2 => ?_) (fun h2 => ?_)⟩
      · simp only [decide_eq_true_eq] at h h2
        exact k2 (by omega)
      · simp only [decide_eq_true_eq] at h h2
        exact k1 (by omega)
theorem scHand : FnScope ["hand"] ["hand"] (defScope sHand) := ⟨rfl, rfl, rfl, by decide +kernel, rfl, by decide +kernel, by decide +kernel⟩
theorem ok_hand {f : Addr} {fd : FuncData} (F : Fun K "check_hand" "check_hand" sHand f fd) (T : Txt K mg D) : FnOk P w K mg base (CX1 P w) 1 f fd ["hand"] (spHand D) := by
  refine F.ok1 scHand (fun vs H Q E h => ?_) (fun cdv A outer s H vs Q E hr h => ?_)
  · obtain ⟨n, rfl, _⟩ := h
    rfl
  · obtain ⟨n, rfl, k1, k2⟩ := h
    refine ⟨_, pss_one (ps_if (PW.pt (pw_and (pt_cmpR op_ne (pv 0) pe_int (nomark _)) (pw_and1 (pt_cmpR op_ne (pv 0) pe_int (nomark _))))) (pss_one (ps_raise hr.hd T.xNH.exc rfl)) pss_nil), ?_⟩
    refine ⟨_, rfl, rfl, _, rfl, ite2 (fun h => ?_) (fun h => ?_)⟩
    · refine ⟨_, rfl, rfl, _, rfl, ite2 (fun h2 => ?_) (fun h2 => ?_)⟩
      · exact k2 (by simp at h h2; omega)
      · exact k1 (by simp at h h2; omega)
    · refine iteF ?_
      exact k1 (by simp at h; omega)
theorem scCheck : FnScope ["self", "cell"] ["self", "cell"] (defScope sCheck) := ⟨rfl, rfl, rfl, by decide +kernel, rfl, by decide +kernel, by decide +kernel⟩
theorem ok_check {f : Addr} {fd : FuncData} (F : Fun K "check_cell" "Board.check_cell" sCheck f fd) (T : Txt K mg D) : FnOk P w K mg base (CX1 P w) 1 f fd ["self", "cell"] (spCheck D) := by
  refine F.ok1 scCheck (fun vs H Q E h => ?_) (fun cdv A outer s H vs Q E hr h => ?_)
  · obtain ⟨p, d, b, R, C, own, r, c, rfl, _⟩ := h
    rfl
  · obtain ⟨p, d, b, R, C, own, r, c, rfl, B, hc, k1, k2⟩ := h
    have hu := hu_of hr
    obtain ⟨dx, h1⟩ := B.ob
    refine ⟨_, pss_one (ps_if (pt_cmp (pc_dnotin hu (pv 1) (pe_fld (pv 0) rfl))) (pss_one (ps_raise hr.hd T.xNC.exc rfl)) pss_nil), ?_⟩
    refine ⟨_, rfl, _, rfl, p, D.CB, dx, _, _, rfl, h1, T.cl, T.nO, bflds_o _ _ _, d, _, rfl, cell_get B hc, _, rfl, ?_⟩
    by_cases hb : inB R C r c
    · rw [if_pos hb]
      refine iteF ?_
      exact k1 hb
    · rw [if_neg hb]
      refine iteT ?_
      exact k2 hb
theorem scRows : FnScope ["self"] ["self"] (defScope sRows) := ⟨rfl, rfl, rfl, by decide +kernel, rfl, by decide +kernel, by decide +kernel⟩
theorem ok_rows {f : Addr} {fd : FuncData} (F : Fun K "rows" "Board.rows" sRows f fd) (T : Txt K mg D) : FnOk P w K mg base (CX1 P w) 1 f fd ["self"] (spSize D fun R _ => R) := by
  refine F.ok0 scRows (fun vs H Q E h => ?_) (fun cdv A outer s H vs Q E hr h => ?_)
  · obtain ⟨p, d, R, C, own, rfl, _⟩ := h
    rfl
  · obtain ⟨p, d, R, C, own, rfl, B, k⟩ := h
    obtain ⟨dx, h1⟩ := B.ob
    refine ⟨_, pss_one (ps_ret (pe_fld (pv 0) rfl)), ?_⟩
    exact ⟨_, rfl, p, D.CB, dx, _, _, rfl, h1, T.cl, T.nH, bflds_h _ _ _, k⟩
theorem scCols : FnScope ["self"] ["self"] (defScope sCols) := ⟨rfl, rfl, rfl, by decide +kernel, rfl, by decide +kernel, by decide +kernel⟩
theorem ok_cols {f : Addr} {fd : FuncData} (F : Fun K "columns" "Board.columns" sCols f fd) (T : Txt K mg D) : FnOk P w K mg base (CX1 P w) 1 f fd ["self"] (spSize D fun _ C => C) := by
  refine F.ok0 scCols (fun vs H Q E h => ?_) (fun cdv A outer s H vs Q E hr h => ?_)
  · obtain ⟨p, d, R, C, own, rfl, _⟩ := h
    rfl
  · obtain ⟨p, d, R, C, own, rfl, B, k⟩ := h
    obtain ⟨dx, h1⟩ := B.ob
    refine ⟨_, pss_one (ps_ret (pe_fld (pv 0) rfl)), ?_⟩
    exact ⟨_, rfl, p, D.CB, dx, _, _, rfl, h1, T.cl, T.nW, bflds_w _ _ _, k⟩
theorem scOwner : FnScope ["self", "cell"] ["self", "cell"] (defScope sOwner) := ⟨rfl, rfl, rfl, by decide +kernel, rfl, by decide +kernel, by decide +kernel⟩
theorem ok_owner {f fC : Addr} {fd fdC : FuncData} (F : Fun K "owner" "Board.owner" sOwner f fd) (T : Txt K mg D) (GC : FnOk P w K mg base (CX1 P w) 1 fC fdC ["self", "cell"] (spCheck D)) (bC : Binds K fdC ["self", "cell"] []) (mC : Meth K D.CB "check_cell" fC) :
    FnOk P w K mg base (CX1 P w) 2 f fd ["self", "cell"] (spOwner D) := by
  refine F.ok1 scOwner (fun vs H Q E h => ?_) (fun cdv A outer s H vs Q E hr h => ?_)
  · obtain ⟨p, d, b, R, C, own, r, c, rfl, _⟩ := h
    rfl
  · obtain ⟨p, d, b, R, C, own, r, c, rfl, B, hc, k1, k2⟩ := h
    have hu := hu_of hr
    obtain ⟨dx, h1⟩ := B.ob
    refine ⟨_, pss_cons (ps_expr (pe_meth (pv 0) T.cl mC GC hr bC .nil pass1 (pa_cons (pv 1) pa_nil))) (pss_one (ps_ret (pe_dget hu (pe_fld (pv 0) rfl) (pv 1) (fun _ _ => rfl)))), ?_⟩
    refine ⟨_, rfl, p, dx, _, rfl, h1, bflds_no _ _ _ (by decide +kernel) (by decide +kernel) (by decide +kernel), _, rfl, p, d, b, R, C, own, r, c, rfl, B, hc, fun hb => ?_, k1⟩
    have g := cell_get B hc
    rw [if_pos hb] at g
    exact ⟨_, rfl, p, D.CB, dx, _, _, rfl, h1, T.cl, T.nO, bflds_o _ _ _, _, rfl, d, _, rfl, g, k2 hb⟩
theorem scPut : FnScope ["self", "cell", "hand"] ["self", "cell", "hand"] (defScope sPut) := ⟨rfl, rfl, rfl, by decide +kernel, rfl, by decide +kernel, by decide +kernel⟩
theorem ok_put {f fC fH : Addr} {fd fdC fdH : FuncData} (F : Fun K "put" "Board.put" sPut f fd) (T : Txt K mg D) (GC : FnOk P w K mg base (CX1 P w) 1 fC fdC ["self", "cell"] (spCheck D)) (bC : Binds K fdC ["self", "cell"] []) (mC : Meth K D.CB "check_cell" fC)
    (GH : FnOk P w K mg base (CX1 P w) 1 fH fdH ["hand"] (spHand D)) (kH : PySem.W.keepIn K (.ref fH) = true) (bH : Binds K fdH ["hand"] []) (mH : mg "check_hand" = some (.ref fH)) : FnOk P w K mg base (CX1 P w) 2 f fd ["self", "cell", "hand"] (spPut D) := by
  refine F.ok1 scPut (fun vs H Q E h => ?_) (fun cdv A outer s H vs Q E hr h => ?_)
  · obtain ⟨p, d, b, R, C, own, r, c, hd, rfl, _⟩ := h
    rfl
  · obtain ⟨p, d, b, R, C, own, r, c, hd, rfl, hz, B, hc, k1, k2, k3, k4⟩ := h
    have hu := hu_of hr
    obtain ⟨dx, h1⟩ := B.ob
    refine ⟨_, pss_cons (ps_expr (pe_meth (pv 0) T.cl mC GC hr bC .nil pass1 (pa_cons (pv 1) pa_nil)))
      (pss_cons (ps_expr (pe_call GH hr rfl mH kH bH .nil pass1 (pa_cons (pv 2) pa_nil)))
      (pss_cons (ps_if (pt_cmpR op_ne (pe_dget hu (pe_fld (pv 0) rfl) (pv 1) (fun _ _ => rfl)) pe_int (nomark _)) (pss_one (ps_raise hr.hd T.xCT.exc rfl)) pss_nil)
      (pss_one (ps_dput hu (pe_fld (pv 0) rfl) (pv 1) (pv 2) rfl)))), ?_⟩
    refine ⟨_, rfl, p, dx, _, rfl, h1, bflds_no _ _ _ (by decide +kernel) (by decide +kernel) (by decide +kernel), _, rfl, p, d, b, R, C, own, r, c, rfl, B, hc, fun hb => ?_, k1⟩
    refine ⟨_, rfl, hd, rfl, fun hh => ?_, k2 hb⟩
    have g := cell_get B hc
    rw [if_pos hb] at g
    refine ⟨_, rfl, p, D.CB, dx, _, _, rfl, h1, T.cl, T.nO, bflds_o _ _ _, _, rfl, d, _, rfl, g, rfl, _, rfl, ite2 (fun h => ?_) (fun h => ?_)⟩
    · exact k3 hb hh (by simpa using h)
    · have e0 : own (r.toNat, c.toNat) = 0 := by simpa using h
      refine ⟨_, rfl, _, rfl, p, D.CB, dx, _, _, rfl, h1, T.cl, T.nO, bflds_o _ _ _, _, rfl, d, _, rfl, DPut.t (k := keyC r c) B.dc hc (by rw [len_kvs]; exact small1000 (by omega)), ?_⟩
      rw [put_kvs hb]
      exact k4 hb hh e0
theorem scEmpties : FnScope ["self"] ["self"] (defScope sEmpties) := ⟨rfl, rfl, rfl, by decide +kernel, rfl, by decide +kernel, by decide +kernel⟩
theorem ok_empties {f : Addr} {fd : FuncData} (F : Fun K "empties" "Board.empties" sEmpties f fd) (T : Txt K mg D) : FnOk P w K mg base (CX1 P w) 1 f fd ["self"] (spEmpties D) := by
  refine F.ok0 scEmpties (fun vs H Q E h => ?_) (fun cdv A outer s H vs Q E hr h => ?_)
  · obtain ⟨p, d, R, C, own, rfl, _⟩ := h
    rfl
  · obtain ⟨p, d, R, C, own, rfl, hz, B, k⟩ := h
    have hu := hu_of hr
    obtain ⟨dx, h1⟩ := B.ob
    refine ⟨_, pss_one (ps_ret (pe_thaw (pe_comp (fr := ["self"]) (js := [0]) (tif := tTest (tOp rEq (tDGet (tFld K (tVar 1) "owners") (tVar 0)) (tC (.int 0)))) (te := tVar 0) (by exact ⟨rfl, rfl, rfl, rfl, by decide +kernel, by decide +kernel, by decide +kernel, by with_unfolding_all rfl, rfl, by decide +kernel⟩) rfl (pi_dict (pe_fld (pv 0) rfl))
        (by intro _ _ _ _; exact pf_one (pt_cmpR op_eq (pe_dget hu (pe_fld (pv 1) rfl) (pv 0) (fun _ _ => rfl)) pe_int (nomark _))) (by intro _ _ _ _; exact pv 0)))), ?_⟩
    refine ⟨_, rfl, p, D.CB, dx, _, _, rfl, h1, T.cl, T.nO, bflds_o _ _ _, d, _, rfl, B.dc, fun o D' nD => ?_⟩
    refine empt_tail T.cl T.nO hz B nD fun as hcs nD0 => ?_
    have ndD : d ≠ D' := ne_of_none B.dc nD0
    refine ⟨d, o, _, (by rw [upd_ne ndD]; exact upd_same), ⟨_, B.dc⟩, ?_⟩
    have sm : Same H (upd (upd (upd H d (.frz o (.dT (kvsOf R C own)))) D' (.lst (as.map V.ref))) d (.dT (kvsOf R C own))) := fun b u e => by
      by_cases z : b = d
      · subst z
        rw [upd_same, ← B.dc]
        exact e
      · rw [upd_ne z, upd_ne (ne_of_none e nD0), upd_ne z]
        exact e
    exact k D' _ sm nD0 ⟨as, by rw [upd_ne (Ne.symm ndD)]; exact upd_same, hcs.mono sm⟩
theorem scInit : FnScope ["self", "rows", "columns", "row", "column"] ["self", "rows", "columns"] (defScope sInit) := ⟨rfl, rfl, rfl, by decide +kernel, rfl, by decide +kernel, by decide +kernel⟩
theorem ok_init {f fL : Addr} {fd fdL : FuncData} (F : Fun K "__init__" "Board.__init__" sInit f fd) (T : Txt K mg D) (GL : FnOk P w K mg base (CX1 P w) 1 fL fdL ["number"] (spLen D)) (kL : PySem.W.keepIn K (.ref fL) = true) (bL : Binds K fdL ["number"] []) (mL : mg "check_length" = some (.ref fL)) :
    FnOk P w K mg base (CX1 P w) 2 f fd ["self", "rows", "columns"] (spInit D) := by
  refine F.ok1 scInit (fun vs H Q E h => ?_) (fun cdv A outer s H vs Q E hr h => ?_)
  · obtain ⟨p, dx, m, n, rfl, _⟩ := h
    rfl
  · obtain ⟨p, dx, m, n, rfl, hp, k, kx⟩ := h
    have hu := hu_of hr
    refine ⟨_, pss_cons (ps_expr (pe_call GL hr rfl mL kL bL .nil pass1 (pa_cons (pv 1) pa_nil)))
      (pss_cons (ps_expr (pe_call GL hr rfl mL kL bL .nil pass1 (pa_cons (pv 2) pa_nil)))
      (PSs.nox (pss_cons (ps_fld (pv 0) (pv 1) rfl)
      (pss_cons (ps_fld (pv 0) (pv 2) rfl)
      (pss_cons (ps_fld (pv 0) pe_dnewT rfl)
      (pss_one (ps_for PassesOwn.never rfl (pi_range1 rfl T.rng (pa_cons (pv 1) pa_nil)) (pg_name (i := 3) scInit.nd rfl (Or.inl rfl))
        (pss_one (ps_for PassesOwn.never rfl (pi_range1 rfl T.rng (pa_cons (pv 2) pa_nil)) (pg_name (i := 4) scInit.nd rfl (Or.inl rfl))
          (pss_one (ps_dput hu (pe_fld (pv 0) rfl) (pe_tup (pa_cons (pv 3) (pa_cons (pv 4) pa_nil))) pe_int rfl))))))))))), ?_⟩
    refine ⟨_, rfl, m, rfl, fun hm => ?_, fun hm => kx (fun z => hm z.1)⟩
    refine ⟨_, rfl, n, rfl, fun hn => ?_, fun hn => kx (fun z => hn z.2)⟩
    obtain ⟨R, rfl⟩ : ∃ R : Nat, m = R := ⟨m.toNat, by omega⟩
    obtain ⟨C, rfl⟩ : ∃ C : Nat, n = C := ⟨n.toNat, by omega⟩
    have r1 : 1 ≤ R := by omega
    have r2 : R ≤ 10 := by omega
    have c1 : 1 ≤ C := by omega
    have c2 : C ≤ 10 := by omega
    have k := k R C rfl rfl r1 r2 c1 c2
    refine ⟨_, rfl, _, rfl, p, D.CB, dx, _, rfl, hp, T.cl, T.nH, (by show 0 < 1000; decide), ?_⟩
    refine ⟨_, rfl, _, rfl, p, D.CB, dx, _, rfl, upd_same, T.cl, T.nW, (by show 1 < 1000; decide), ?_⟩
    intro d nd
    have nd0 : H d = none := by
      cases q : H d with
      | none => rfl
      | some o =>
        by_cases z : d = p
        · rw [z, upd_same] at nd; cases nd
        · rw [upd_ne z, upd_ne z, q] at nd; cases nd
    have npd : p ≠ d := ne_of_none hp nd0
    refine ⟨_, rfl, p, D.CB, dx, _, rfl, (by rw [upd_ne npd]; exact upd_same), T.cl, T.nO, (by show 2 < 1000; decide), ?_⟩
    refine ⟨_, rfl, (R : Int), rfl, by omega, by omega, ?_⟩
    have eR : ((R : Int)).toNat = R := Int.toNat_natCast R
    rw [eR]
    refine for_range (n := R) (fun i σ H2 => Ex2 fun (v4 v5 : Option V) => An4 (σ = [some (.ref p), some (.int R), some (.int C), v4, v5]) (H2 p = some (.ins D.CB dx (bflds R C d))) (H2 d = some (.dT (kvsOf i C fun _ => 0))) (∀ b o, H b = some o → b ≠ p → H2 b = some o))
      ⟨none, none, rfl, upd_same, by rw [upd_ne npd.symm]; exact upd_same, fun b o e hb => by rw [upd_ne hb, upd_ne (ne_of_none e nd0), upd_ne hb, upd_ne hb]; exact e⟩ ?_ ?_
    · rintro i σ H2 hi ⟨v4, v5, rfl, g1, g2, g3⟩
      refine ⟨_, rfl, (C : Int), rfl, by omega, by omega, ?_⟩
      have eC : ((C : Int)).toNat = C := Int.toNat_natCast C
      rw [eC]
      refine for_range (n := C) (fun j σ H3 => Ex1 fun (v5 : Option V) => An4 (σ = [some (.ref p), some (.int R), some (.int C), some (.int (0 + (i : Int))), v5]) (H3 p = some (.ins D.CB dx (bflds R C d))) (H3 d = some (.dT (kvsOf i C (fun _ => 0) ++ (List.range j).map fun c : Nat => (keyC (i : Nat) (c : Nat), V.int 0)))) (∀ b o, H b = some o → b ≠ p → H3 b = some o))
        ⟨v5, rfl, g1, by rw [g2]; simp, g3⟩ ?_ ?_
      · rintro j σ H3 hj ⟨v5, rfl, f1, f2, f3⟩
        refine ⟨_, rfl, p, D.CB, dx, _, _, rfl, f1, T.cl, T.nO, bflds_o _ _ _, _, rfl, _, rfl, (by show 2 ≤ sizeLine; decide), fun t nt => ?_⟩
        refine ⟨d, _, rfl, DPut.t (k := keyC i j) (by rw [upd_ne (ne_of_none f2 nt)]; exact f2) (by rw [upd_same]; show some (HO.tup [V.int (0 + (i : Int)), V.int (0 + (j : Int))]) = some (HO.tup [V.int i, V.int j]); rw [Int.zero_add, Int.zero_add]) ?_, ?_⟩
        · have l1 : (kvsOf i C (fun _ => 0) ++ (List.range j).map fun c : Nat => (keyC (i : Nat) (c : Nat), V.int 0)).length = i * C + j := by rw [List.length_append, len_kvs, List.length_map, List.length_range]
          rw [l1]
          have l2 : i * C ≤ 10 * 10 := Nat.mul_le_mul (by omega) c2
          exact small1000 (by omega)
        · have ntd : t ≠ d := fun z => by rw [z, f2] at nt; cases nt
          have ntp : t ≠ p := fun z => by rw [z, f1] at nt; cases nt
          refine ⟨some (.int (0 + (j : Int))), rfl, by rw [upd_ne npd, upd_ne (Ne.symm ntp)]; exact f1, by rw [upd_same, kvs_row], fun b o e hb => ?_⟩
          rw [upd_ne (ne_of_none e nd0), upd_ne (fun z => by rw [z] at e; have := f3 t o e ntp; rw [this] at nt; cases nt)]
          exact f3 b o e hb
      · rintro σ H3 ⟨v5, rfl, f1, f2, f3⟩
        exact ⟨some (.int (0 + (i : Int))), v5, rfl, f1, by rw [f2, kvs_next], f3⟩
    · rintro σ H2 ⟨v4, v5, rfl, g1, g2, g3⟩
      exact k d H2 nd0 ⟨⟨dx, g1⟩, g2⟩ g3
theorem scCellAt : FnScope ["script", "k"] ["script", "k"] (defScope sCellAt) := ⟨rfl, rfl, rfl, by decide +kernel, rfl, by decide +kernel, by decide +kernel⟩
theorem ok_cellAt {f : Addr} {fd : FuncData} (F : Fun K "_law_cell_at" "_law_cell_at" sCellAt f fd) (T : Txt K mg D) : FnOk P w K mg base (CX1 P w) 1 f fd ["script", "k"] (spCellAt K) := by
  refine F.ok0 scCellAt (fun vs H Q E h => ?_) (fun cdv A outer s H vs Q E hr h => ?_)
  · obtain ⟨a, ns, k, rfl, _⟩ := h
    rfl
  · obtain ⟨a, ns, k, rfl, hS, hl, q⟩ := h
    refine ⟨_, pss_cons (ps_if (pt_cmpR op_lt (pv 1) (pe_callB call_len_seq rfl T.len PySem.boot_len (pa_cons (pv 0) pa_nil)) (nomark _)) (pss_one (ps_ret (pe_ix ix_list (pv 0) (pv 1) (fun _ _ => rfl)))) pss_nil) (pss_one (ps_ret pe_int)), ?_⟩
    refine ⟨_, rfl, _, rfl, a, _, rfl, .inl hS, _, _, rfl, rfl, _, rfl, ?_⟩
    by_cases hk : k < ns.length
    · refine iteY (by simp; omega) ?_
      refine ⟨_, rfl, _, rfl, a, _, _, _, rfl, rfl, hS, atI_nat (j := k) (v := V.int (ns.getD k 0)) ?_, q⟩
      simp [hk]
    · refine iteN (by simp; omega) ?_
      have e : ns.getD k 0 = 0 := by simp [List.getD, List.getElem?_eq_none (Nat.le_of_not_lt hk)]
      rw [e] at q
      exact q
theorem scWhole : FnScope ["found"] ["found"] (defScope sWhole) := ⟨rfl, rfl, rfl, by decide +kernel, rfl, by decide +kernel, by decide +kernel⟩
theorem ok_whole {f : Addr} {fd : FuncData} (F : Fun K "_law_whole" "_law_whole" sWhole f fd) (T : Txt K mg D) : FnOk P w K mg base (CX1 P w) 1 f fd ["found"] spWhole := by
  refine F.ok0 scWhole (fun vs H Q E h => ?_) (fun cdv A outer s H vs Q E hr h => ?_)
  · obtain ⟨i, rfl, _⟩ := h
    rfl
  · obtain ⟨i, rfl, q⟩ := h
    refine ⟨_, pss_one (ps_ret (pe_and (pe_callB call_isi rfl T.isi (by decide +kernel) (pa_cons (pv 0) (pa_cons (pe_bltn (v := .ty "int") rfl T.tInt (by decide +kernel) rfl) pa_nil)))
      (pe_one (pe_not (pe_callB call_isi rfl T.isi (by decide +kernel) (pa_cons (pv 0) (pa_cons (pe_bltn (v := .ty "bool") rfl T.tBool (by decide +kernel) rfl) pa_nil))))))), ?_⟩
    refine ⟨_, rfl, _, _, _, _, _, rfl, rfl, .int _, T.k3, _, rfl, ?_⟩
    refine iteT ?_
    exact ⟨_, rfl, _, _, _, _, _, rfl, rfl, .int _, T.k4, _, rfl, q⟩
theorem scIsCells : FnScope ["found", "rows", "columns", "cell"] ["found", "rows", "columns"] (defScope sIsCells) := ⟨rfl, rfl, rfl, by decide +kernel, rfl, by decide +kernel, by decide +kernel⟩
theorem ok_isCells {f fW : Addr} {fd fdW : FuncData} (F : Fun K "_law_is_cells" "_law_is_cells" sIsCells f fd) (T : Txt K mg D) (FW : Fun K "_law_whole" "_law_whole" sWhole fW fdW) (bW : Binds K fdW ["found"] []) (mW : mg "_law_whole" = some (.ref fW)) :
    FnOk P w K mg base (CX1 P w) 2 f fd ["found", "rows", "columns"] spIsCells := by
  have GW : FnOk P w K mg base (CX1 P w) 1 fW fdW ["found"] spWhole := ok_whole FW T
  refine F.ok0 scIsCells (fun vs H Q E h => ?_) (fun cdv A outer s H vs Q E hr h => ?_)
  · obtain ⟨R, C, l, cs, rfl, _⟩ := h
    rfl
  · obtain ⟨R, C, l, cs, rfl, ⟨as, hl, hcs⟩, hin, q⟩ := h
    refine ⟨_, pss_cons (ps_if (pt_not (pt_val (pe_callB call_isi rfl T.isi (by decide +kernel) (pa_cons (pv 0) (pa_cons (pe_bltn (v := .ty "list") rfl T.tList (by decide +kernel) rfl) pa_nil))))) (pss_one (ps_ret pe_bl)) pss_nil)
      (pss_cons (ps_for PassesOwn.never rfl (pi_list (pv 0)) (pg_name (i := 3) scIsCells.nd rfl (Or.inl rfl))
        (pss_cons (ps_if (PW.pt (pw_or (pt_not (pt_val (pe_callB call_isi rfl T.isi (by decide +kernel) (pa_cons (pv 3) (pa_cons (pe_bltn (v := .ty "tuple") rfl T.tTuple (by decide +kernel) rfl) pa_nil)))))
          (pw_or1 (pt_cmpR op_ne (pe_callB call_len_seq rfl T.len PySem.boot_len (pa_cons (pv 3) pa_nil)) pe_int (nomark _))))) (pss_one (ps_ret pe_bl)) pss_nil)
        (pss_cons (ps_if (PW.pt (pw_or (pt_not (pt_val (pe_call GW hr rfl mW FW.kp bW .nil passN (pa_cons (pe_ix ix_tup (pv 3) pe_int (fun _ _ => rfl)) pa_nil))))
          (pw_or1 (pt_not (pt_val (pe_call GW hr rfl mW FW.kp bW .nil passN (pa_cons (pe_ix ix_tup (pv 3) pe_int (fun _ _ => rfl)) pa_nil))))))) (pss_one (ps_ret pe_bl)) pss_nil)
        (pss_one (ps_if (PW.pt (pw_or (pt_not (pt_chain op_le op_lt pe_int (pe_ix ix_tup (pv 3) pe_int (fun _ _ => rfl)) (pv 1)))
          (pw_or1 (pt_not (pt_chain op_le op_lt pe_int (pe_ix ix_tup (pv 3) pe_int (fun _ _ => rfl)) (pv 2)))))) (pss_one (ps_ret pe_bl)) pss_nil)))))
      (pss_one (ps_ret pe_bl))), ?_⟩
    refine ⟨_, rfl, _, _, _, _, _, rfl, rfl, .lst hl, T.k1, _, rfl, iteF ?_⟩
    refine ⟨_, rfl, l, rfl, ⟨_, SqL.of hl⟩, for_list (K := K) (a := l) (xs := as.map V.ref) (fun i σ H2 => Ex1 fun (v : Option V) => σ = [some (.ref l), some (.int R), some (.int C), v] ∧ H2 = H)
      ⟨none, rfl, rfl⟩ (fun i σ H2 _ ⟨_, _, e⟩ => by rw [e]; exact SqL.of hl) ?_ ?_⟩
    · rintro i x σ H2 hx ⟨v, rfl, rfl⟩
      obtain ⟨a, ha, rfl⟩ := List.mem_map.mp (List.mem_of_getElem? hx)
      obtain ⟨p, hp, hc⟩ := hcs.mem ha
      obtain ⟨b1, b2, b3, b4⟩ := hin p hp
      refine ⟨_, rfl, _, _, _, _, _, rfl, rfl, .tup hc, T.k2, _, rfl, iteF ?_⟩
      refine ⟨_, rfl, a, _, rfl, .inr (SqT.of hc), rfl, _, rfl, iteNS rfl ?_⟩
      refine ⟨_, rfl, a, _, _, _, rfl, rfl, SqT.of hc, atI_nat (j := 0) rfl, p.1, rfl, _, rfl, iteF ?_⟩
      refine ⟨_, rfl, a, _, _, _, rfl, rfl, SqT.of hc, atI_nat (j := 1) rfl, p.2, rfl, _, rfl, iteF ?_⟩
      refine ⟨_, rfl, a, _, _, _, rfl, rfl, SqT.of hc, atI_nat (j := 0) rfl, _, _, rfl, rfl, _, rfl, iteY (by simp; omega) ?_⟩
      refine ⟨_, rfl, _, _, rfl, rfl, _, rfl, iteN (by simp; omega) ?_⟩
      refine ⟨_, rfl, a, _, _, _, rfl, rfl, SqT.of hc, atI_nat (j := 1) rfl, _, _, rfl, rfl, _, rfl, iteY (by simp; omega) ?_⟩
      refine ⟨_, rfl, _, _, rfl, rfl, _, rfl, iteN (by simp; omega) ?_⟩
      exact ⟨_, rfl, rfl⟩
    · rintro σ H2 ⟨v, rfl, rfl⟩
      exact q
theorem scNear : FnScope ["self", "cell", "row", "column", "around"] ["self", "cell"] (defScope sNear) := ⟨rfl, rfl, rfl, by decide +kernel, rfl, by decide +kernel, by decide +kernel⟩
theorem ok_near {f fC : Addr} {fd fdC : FuncData} (F : Fun K "near" "Board.near" sNear f fd) (T : Txt K mg D) (FC : Fun K "check_cell" "Board.check_cell" sCheck fC fdC) (bC : Binds K fdC ["self", "cell"] []) (mC : Meth K D.CB "check_cell" fC) :
    FnOk P w K mg base (CX1 P w) 2 f fd ["self", "cell"] (spNear D) := by
  have GC : FnOk P w K mg base (CX1 P w) 1 fC fdC ["self", "cell"] (spCheck D) := ok_check FC T
  refine F.ok1 scNear (fun vs H Q E h => ?_) (fun cdv A outer s H vs Q E hr h => ?_)
  · obtain ⟨p, d, b, R, C, own, r, c, rfl, _⟩ := h
    rfl
  · obtain ⟨p, d, b, R, C, own, r, c, rfl, B, hc, k1, k2⟩ := h
    have hu := hu_of hr
    obtain ⟨dx, h1⟩ := B.ob
    refine ⟨_, pss_cons (ps_expr (pe_meth (pv 0) T.cl mC GC hr bC .nil pass1 (pa_cons (pv 1) pa_nil)))
      (pss_cons (ps_set (i := 2) scNear.nd rfl (Or.inl rfl) (pe_ix ix_tup (pv 1) pe_int (fun _ _ => rfl)))
      (pss_cons (ps_set (i := 3) scNear.nd rfl (Or.inl rfl) (pe_ix ix_tup (pv 1) pe_int (fun _ _ => rfl)))
      (pss_cons (ps_set (i := 4) scNear.nd rfl (Or.inl rfl) (pe_lst
        (pa_cons (pe_tup (pa_cons (pe_op op_sub (pv 2) pe_int) (pa_cons (pv 3) pa_nil)))
        (pa_cons (pe_tup (pa_cons (pe_op op_sub (pv 2) pe_int) (pa_cons (pe_op op_add (pv 3) pe_int) pa_nil)))
        (pa_cons (pe_tup (pa_cons (pv 2) (pa_cons (pe_op op_sub (pv 3) pe_int) pa_nil)))
        (pa_cons (pe_tup (pa_cons (pv 2) (pa_cons (pe_op op_add (pv 3) pe_int) pa_nil)))
        (pa_cons (pe_tup (pa_cons (pe_op op_add (pv 2) pe_int) (pa_cons (pe_op op_sub (pv 3) pe_int) pa_nil)))
        (pa_cons (pe_tup (pa_cons (pe_op op_add (pv 2) pe_int) (pa_cons (pv 3) pa_nil))) pa_nil))))))))
      (pss_one (ps_ret (pe_comp (fr := ["self"]) (js := [0]) (tif := tB (tDIn (tVar 0) (tFld K (tVar 1) "owners"))) (te := tVar 0) (by exact ⟨rfl, rfl, rfl, rfl, by decide +kernel, by decide +kernel, by decide +kernel, by with_unfolding_all rfl, rfl, by decide +kernel⟩) rfl (pi_list (pv 4))
        (by intro _ _ _ _; exact pf_one (pt_cmp (pc_din hu (pv 0) (pe_fld (pv 1) rfl)))) (by intro _ _ _ _; exact pv 0))))))), ?_⟩
    refine ⟨_, rfl, p, dx, _, rfl, h1, bflds_no _ _ _ (by decide +kernel) (by decide +kernel) (by decide +kernel), _, rfl, p, d, b, R, C, own, r, c, rfl, B, hc, fun hb => ?_, k2⟩
    refine ⟨_, rfl, b, _, _, _, rfl, rfl, SqT.of hc, atI_nat (j := 0) rfl, ?_⟩
    refine ⟨_, rfl, b, _, _, _, rfl, rfl, SqT.of hc, atI_nat (j := 1) rfl, ?_⟩
    refine ⟨_, rfl, _, _, rfl, rfl, _, rfl, (by show 2 ≤ sizeLine; decide), fun a1 n1 => ?_⟩
    refine ⟨_, rfl, _, _, rfl, rfl, _, rfl, _, _, rfl, rfl, (by show 2 ≤ sizeLine; decide), fun a2 n2 => ?_⟩
    refine ⟨_, rfl, _, rfl, _, _, rfl, rfl, (by show 2 ≤ sizeLine; decide), fun a3 n3 => ?_⟩
    refine ⟨_, rfl, _, rfl, _, _, rfl, rfl, (by show 2 ≤ sizeLine; decide), fun a4 n4 => ?_⟩
    refine ⟨_, rfl, _, _, rfl, rfl, _, rfl, _, _, rfl, rfl, (by show 2 ≤ sizeLine; decide), fun a5 n5 => ?_⟩
    refine ⟨_, rfl, _, _, rfl, rfl, _, rfl, (by show 2 ≤ sizeLine; decide), fun a6 n6 => ?_⟩
    refine ⟨(by show 6 ≤ sizeLine; decide), fun l nl => ?_⟩
    refine ⟨_, rfl, l, rfl, ⟨_, SqL.of upd_same⟩, fun D nD => ?_⟩
    have s7 := hereS nD (((((((Same.upd n1).trans (Same.upd n2)).trans (Same.upd n3)).trans (Same.upd n4)).trans (Same.upd n5)).trans (Same.upd n6)).trans (Same.upd nl))
    have c1 := hereC (r := r - 1) (c := c) nD (((((((Same.upd n2).trans (Same.upd n3)).trans (Same.upd n4)).trans (Same.upd n5)).trans (Same.upd n6)).trans (Same.upd nl)) _ _ upd_same)
    have c2 := hereC (r := r - 1) (c := c + 1) nD ((((((Same.upd n3).trans (Same.upd n4)).trans (Same.upd n5)).trans (Same.upd n6)).trans (Same.upd nl)) _ _ upd_same)
    have c3 := hereC (r := r) (c := c - 1) nD (((((Same.upd n4).trans (Same.upd n5)).trans (Same.upd n6)).trans (Same.upd nl)) _ _ upd_same)
    have c4 := hereC (r := r) (c := c + 1) nD ((((Same.upd n5).trans (Same.upd n6)).trans (Same.upd nl)) _ _ upd_same)
    have c5 := hereC (r := r + 1) (c := c - 1) nD (((Same.upd n6).trans (Same.upd nl)) _ _ upd_same)
    have c6 := hereC (r := r + 1) (c := c) nD ((Same.upd nl) _ _ upd_same)
    refine near_tail (as := [a1, a2, a3, a4, a5, a6]) (cs := around r c) T.cl T.nO (B.mono s7) upd_same ?_ (by show 6 ≤ sizeLine; decide) nD fun H' sm hL => k1 hb D H' (s7.trans sm) (s7.free nD) hL
    rw [around_eq]
    exact .cons c1 (.cons c2 (.cons c3 (.cons c4 (.cons c5 (.cons c6 .nil)))))
theorem scLNear : FnScope ["rows", "columns", "cell", "found", "down", "right", "other"] ["rows", "columns", "cell"] (defScope sLNear) := ⟨rfl, rfl, rfl, by decide +kernel, rfl, by decide +kernel, by decide +kernel⟩
theorem ok_lnear {f : Addr} {fd : FuncData} (F : Fun K "_law_near" "_law_near" sLNear f fd) (T : Txt K mg D) : FnOk P w K mg base (CX1 P w) 1 f fd ["rows", "columns", "cell"] spLNear := by
  refine F.ok0 scLNear (fun vs H Q E h => ?_) (fun cdv A outer s H vs Q E hr h => ?_)
  · obtain ⟨R, C, b, r, c, rfl, _⟩ := h
    rfl
  · obtain ⟨R, C, b, r, c, rfl, hc, k⟩ := h
    refine ⟨_, pss_cons (ps_set (i := 3) scLNear.nd rfl (Or.inl rfl) (pe_lst pa_nil))
      (pss_cons (ps_for PassesOwn.never rfl (pi_list (pe_lst
          (pa_cons (pe_tup (pa_cons (pe_un un_neg pe_int) (pa_cons pe_int pa_nil)))
          (pa_cons (pe_tup (pa_cons (pe_un un_neg pe_int) (pa_cons pe_int pa_nil)))
          (pa_cons (pe_tup (pa_cons pe_int (pa_cons (pe_un un_neg pe_int) pa_nil)))
          (pa_cons (pe_tup (pa_cons pe_int (pa_cons pe_int pa_nil)))
          (pa_cons (pe_tup (pa_cons pe_int (pa_cons (pe_un un_neg pe_int) pa_nil)))
          (pa_cons (pe_tup (pa_cons pe_int (pa_cons pe_int pa_nil))) pa_nil)))))))) (pg_tup rfl (pgs_cons (pg_name (i := 4) scLNear.nd rfl (Or.inl rfl)) (pgs_cons (pg_name (i := 5) scLNear.nd rfl (Or.inl rfl)) pgs_nil)))
        (pss_cons (ps_set (i := 6) scLNear.nd rfl (Or.inl rfl) (pe_tup (pa_cons (pe_op op_add (pe_ix ix_tup (pv 2) pe_int (fun _ _ => rfl)) (pv 4)) (pa_cons (pe_op op_add (pe_ix ix_tup (pv 2) pe_int (fun _ _ => rfl)) (pv 5)) pa_nil))))
        (pss_one (ps_if (PW.pt (pw_and (pt_chain op_le op_lt pe_int (pe_ix ix_tup (pv 6) pe_int (fun _ _ => rfl)) (pv 0)) (pw_and1 (pt_chain op_le op_lt pe_int (pe_ix ix_tup (pv 6) pe_int (fun _ _ => rfl)) (pv 1)))))
          (pss_one (ps_expr (pe_bm PySem.F.plainAttrs_list PySem.F.slot_list_append PySem.F.type_list_append mt_append (pv 3) (pa_cons (pv 6) pa_nil)))) pss_nil))))
      (pss_one (ps_ret (pv 3)))), ?_⟩
    refine seqG fun U hU => ?_
    refine ⟨(by show 0 ≤ sizeLine; decide), fun l nl => ?_⟩
    refine hU [some (.int R), some (.int C), some (.ref b), some (.ref l), none, none, none] _ ?_
    refine seqG fun U hU => ?_
    refine ⟨_, rfl, (by show 2 ≤ sizeLine; decide), fun a1 n1 => ?_⟩
    refine ⟨_, rfl, (by show 2 ≤ sizeLine; decide), fun a2 n2 => ?_⟩
    refine ⟨_, rfl, (by show 2 ≤ sizeLine; decide), fun a3 n3 => ?_⟩
    refine ⟨(by show 2 ≤ sizeLine; decide), fun a4 n4 => ?_⟩
    refine ⟨_, rfl, (by show 2 ≤ sizeLine; decide), fun a5 n5 => ?_⟩
    refine ⟨(by show 2 ≤ sizeLine; decide), fun a6 n6 => ?_⟩
    refine ⟨(by show 6 ≤ sizeLine; decide), fun L nL => ?_⟩
    have nlL : l ≠ L := ne_of_none ((((((((Same.upd n1).trans (Same.upd n2)).trans (Same.upd n3)).trans (Same.upd n4)).trans (Same.upd n5)).trans (Same.upd n6))) _ _ upd_same) nL
    refine ⟨L, rfl, ⟨_, SqL.of upd_same⟩, for_list (K := K) (a := L) (xs := [a1, a2, a3, a4, a5, a6].map V.ref)
      (fun i σ H2 => Ex4 fun (v4 v5 v6 : Option V) (as : List Addr) => An7 (σ = [some (.int R), some (.int C), some (.ref b), some (.ref l), v4, v5, v6]) (H2 l = some (.lst (as.map V.ref))) (as.length ≤ i) (CellsAt H2 as (((offs.take i).map fun o => (r + o.1, c + o.2)).filter fun p => decide (inB R C p.1 p.2))) (Same H H2) (H2 L = some (.lst ([a1, a2, a3, a4, a5, a6].map V.ref))) (CellsAt H2 [a1, a2, a3, a4, a5, a6] offs))
      ?_ (fun i σ H2 _ gz => by obtain ⟨_, _, _, _, _, _, _, _, _, hL, _⟩ := gz; exact SqL.of hL) ?_ ?_⟩
    · refine ⟨none, none, none, [], rfl, ?_, Nat.le_refl _, .nil, ?_, upd_same, ?_⟩
      · exact (((((((Same.upd n1).trans (Same.upd n2)).trans (Same.upd n3)).trans (Same.upd n4)).trans (Same.upd n5)).trans (Same.upd n6)).trans (Same.upd nL)) _ _ upd_same
      · exact (((((((Same.upd nl).trans (Same.upd n1)).trans (Same.upd n2)).trans (Same.upd n3)).trans (Same.upd n4)).trans (Same.upd n5)).trans (Same.upd n6)).trans (Same.upd nL)
      · refine .cons ?_ (.cons ?_ (.cons ?_ (.cons ?_ (.cons ?_ (.cons ?_ .nil)))))
        · exact ((((((Same.upd n2).trans (Same.upd n3)).trans (Same.upd n4)).trans (Same.upd n5)).trans (Same.upd n6)).trans (Same.upd nL)) _ _ upd_same
        · exact (((((Same.upd n3).trans (Same.upd n4)).trans (Same.upd n5)).trans (Same.upd n6)).trans (Same.upd nL)) _ _ upd_same
        · exact ((((Same.upd n4).trans (Same.upd n5)).trans (Same.upd n6)).trans (Same.upd nL)) _ _ upd_same
        · exact (((Same.upd n5).trans (Same.upd n6)).trans (Same.upd nL)) _ _ upd_same
        · exact ((Same.upd n6).trans (Same.upd nL)) _ _ upd_same
        · exact (Same.upd nL) _ _ upd_same
    · rintro i x σ H2 hx ⟨v4, v5, v6, as, rfl, hl2, hlen, hcs, sm, hL, ho⟩
      have hi : i < 6 := by
        have q := (List.getElem?_eq_some_iff.mp hx).1
        simpa using q
      obtain ⟨a, ha, rfl⟩ : ∃ a, ([a1, a2, a3, a4, a5, a6] : List Addr)[i]? = some a ∧ x = V.ref a := by
        rw [List.getElem?_map] at hx
        cases q : ([a1, a2, a3, a4, a5, a6] : List Addr)[i]? with
        | none => rw [q] at hx; cases hx
        | some a => rw [q] at hx; exact ⟨a, rfl, (Option.some.inj hx).symm⟩
      obtain ⟨o, ho1, ho2⟩ := ho.get ha
      have et : ((offs.take (i + 1)).map fun o => (r + o.1, c + o.2)).filter (fun p => decide (inB R C p.1 p.2)) = ((offs.take i).map fun o => (r + o.1, c + o.2)).filter (fun p => decide (inB R C p.1 p.2)) ++ (if inB R C (r + o.1) (c + o.2) then [(r + o.1, c + o.2)] else []) := by
        rw [List.take_add_one, ho1, List.map_append, List.filter_append]
        by_cases hb : inB R C (r + o.1) (c + o.2) <;> simp [hb]
      refine ⟨a, _, rfl, SqT.of ho2, rfl, _, _, rfl, _, _, rfl, rfl, ?_⟩
      refine bodyN (σ := [some (.int R), some (.int C), some (.ref b), some (.ref l), some (.int o.1), some (.int o.2), v6]) fun D' nx => ?_
      refine seqG fun U hU => ?_
      have hcb := hc.mono sm
      refine ⟨_, rfl, b, _, _, _, rfl, rfl, SqT.of hcb, atI_nat (j := 0) rfl, _, rfl, _, _, rfl, rfl, _, rfl, b, _, _, _, rfl, rfl, SqT.of hcb, atI_nat (j := 1) rfl, _, rfl, _, _, rfl, rfl, (by show 2 ≤ sizeLine; decide), fun t nt => ?_⟩
      have st : Same H2 (upd H2 t (.tup [.int (r + o.1), .int (c + o.2)])) := Same.upd nt
      have ntl : l ≠ t := ne_of_none hl2 nt
      have skip : ¬ inB R C (r + o.1) (c + o.2) → Ex4 fun (v4 v5 v6 : Option V) (as : List Addr) => An7 (([some (.int R), some (.int C), some (.ref b), some (.ref l), some (.int o.1), some (.int o.2), some (.ref t)] : St) = [some (.int R), some (.int C), some (.ref b), some (.ref l), v4, v5, v6]) ((upd H2 t (.tup [.int (r + o.1), .int (c + o.2)])) l = some (.lst (as.map V.ref))) (as.length ≤ i + 1) (CellsAt (upd H2 t (.tup [.int (r + o.1), .int (c + o.2)])) as (((offs.take (i + 1)).map fun o => (r + o.1, c + o.2)).filter fun p => decide (inB R C p.1 p.2))) (Same H (upd H2 t (.tup [.int (r + o.1), .int (c + o.2)]))) ((upd H2 t (.tup [.int (r + o.1), .int (c + o.2)])) L = some (.lst ([a1, a2, a3, a4, a5, a6].map V.ref))) (CellsAt (upd H2 t (.tup [.int (r + o.1), .int (c + o.2)])) [a1, a2, a3, a4, a5, a6] offs) := fun hb =>
        ⟨_, _, _, as, rfl, st _ _ hl2, Nat.le_succ_of_le hlen, by rw [et, if_neg hb, List.append_nil]; exact hcs.mono st, sm.trans st, st _ _ hL, ho.mono st⟩
      refine hU [some (.int R), some (.int C), some (.ref b), some (.ref l), some (.int o.1), some (.int o.2), some (.ref t)] _ ?_
      refine ⟨_, rfl, t, _, _, _, rfl, rfl, SqT.of upd_same, atI_nat (j := 0) rfl, _, _, rfl, rfl, _, rfl, ?_⟩
      refine ite2 (fun h1 => ?_) (fun h1 => ?_)
      · refine ⟨_, rfl, _, _, rfl, rfl, _, rfl, ite2 (fun h2 => ?_) (fun h2 => ?_)⟩
        · refine ⟨_, rfl, t, _, _, _, rfl, rfl, SqT.of upd_same, atI_nat (j := 1) rfl, _, _, rfl, rfl, _, rfl, ?_⟩
          refine ite2 (fun h3 => ?_) (fun h3 => ?_)
          · refine ⟨_, rfl, _, _, rfl, rfl, _, rfl, ite2 (fun h4 => ?_) (fun h4 => ?_)⟩
            · have hb : inB R C (r + o.1) (c + o.2) := by
                simp only [decide_eq_true_eq] at h1 h2 h3 h4
                exact ⟨h1, h2, h3, h4⟩
              refine ⟨_, rfl, .inl ⟨rfl, _, SqL.of (st _ _ hl2)⟩, _, rfl, l, _, _, rfl, rfl, st _ _ hl2, ?_, ?_⟩
              · rw [List.length_map]
                exact small1000 (by omega)
              · have sl : ∀ b' o', b' ≠ l → H2 b' = some o' → (upd (upd H2 t (.tup [.int (r + o.1), .int (c + o.2)])) l (.lst (as.map V.ref ++ [.ref t]))) b' = some o' := fun b' o' hb' e => by
                  rw [upd_ne hb']
                  exact st _ _ e
                refine nx _ _ ?_
                refine ⟨_, _, _, as ++ [t], rfl, ?_, ?_, ?_, ?_, ?_, ?_⟩
                · rw [upd_same, List.map_append]
                  rfl
                · rw [List.length_append, List.length_singleton]
                  omega
                · rw [et, if_pos hb]
                  refine CellsAt.append ?_ (.cons ?_ .nil)
                  · exact Paired.mapP hcs fun b' p e => sl b' _ (fun z => by rw [z] at e; have e' := hl2.symm.trans e; cases e') e
                  · show (upd _ l _) t = _
                    rw [upd_ne (Ne.symm ntl)]
                    exact upd_same
                · exact fun b' o' e => sl b' o' (ne_of_none e nl) (sm _ _ e)
                · exact sl L _ (fun z => by
                    exact nlL z.symm) hL
                · exact Paired.mapP ho fun b' p e => sl b' _ (fun z => by rw [z] at e; have e' := hl2.symm.trans e; cases e') e
            · refine nx _ _ (skip fun hb => h4 ?_)
              simp only [decide_eq_true_eq]
              exact hb.2.2.2
          · refine ⟨_, rfl, iteF ?_⟩
            refine nx _ _ (skip fun hb => h3 ?_)
            simp only [decide_eq_true_eq]
            exact hb.2.2.1
        · refine iteF ?_
          refine nx _ _ (skip fun hb => h2 ?_)
          simp only [decide_eq_true_eq]
          exact hb.2.1
      · refine ⟨_, rfl, iteF (iteF ?_)⟩
        refine nx _ _ (skip fun hb => h1 ?_)
        simp only [decide_eq_true_eq]
        exact hb.1
    · rintro σ H2 ⟨v4, v5, v6, as, rfl, hl2, hlen, hcs, sm, hL, ho⟩
      exact hU _ _ ⟨_, rfl, k l H2 sm nl ⟨as, hl2, hcs⟩⟩
end
end K06

namespace Flood
variable {α : Type} [DecidableEq α]
noncomputable def keys (L : List (α × Option α)) : List α := L.map (·.1)
noncomputable def lk (L : List (α × Option α)) (c : α) : Option (Option α) := (L.find? fun p => decide (p.1 = c)).map (·.2)
inductive Fl (S O : α → Prop) (N : α → α → Prop) : List (α × Option α) → Prop
  | nil : Fl S O N []
  | start {L : List (α × Option α)} {c : α} : Fl S O N L → S c → O c → c ∉ keys L → Fl S O N (L ++ [(c, none)])
  | step {L : List (α × Option α)} {c b : α} : Fl S O N L → b ∈ keys L → N b c → O c → c ∉ keys L → Fl S O N (L ++ [(c, some b)])
inductive Back (L : List (α × Option α)) : α → List α → Prop
  | stop {c : α} : lk L c = some none → Back L c [c]
  | more {c b : α} {w : List α} : lk L c = some (some b) → Back L b w → Back L c (c :: w)
theorem lk_some {L : List (α × Option α)} {c : α} (h : c ∈ keys L) : ∃ o, lk L c = some o := by
  unfold keys at h
  obtain ⟨p, hp, e⟩ := List.mem_map.mp h
  unfold lk
  cases q : L.find? fun p => decide (p.1 = c) with
  | none =>
    have := List.find?_eq_none.mp q p hp
    simp [e] at this
  | some x => exact ⟨_, rfl⟩
theorem lk_old {L M : List (α × Option α)} {c : α} {o : Option α} (h : lk L c = some o) : lk (L ++ M) c = some o := by
  unfold lk at h ⊢
  rw [List.find?_append]
  cases q : L.find? fun p => decide (p.1 = c) with
  | none => rw [q] at h; cases h
  | some x => rw [q] at h; exact h
theorem lk_none {L : List (α × Option α)} {c : α} (h : c ∉ keys L) : L.find? (fun p => decide (p.1 = c)) = none := by
  rw [List.find?_eq_none]
  intro p hp
  simp only [decide_eq_true_eq]
  exact fun e => h (List.mem_map.mpr ⟨p, hp, e⟩)
theorem lk_new {L : List (α × Option α)} {c : α} {o : Option α} (h : c ∉ keys L) : lk (L ++ [(c, o)]) c = some o := by
  unfold lk
  rw [List.find?_append, lk_none h]
  simp
theorem Back.old {L M : List (α × Option α)} {c : α} {w : List α} (h : Back L c w) : Back (L ++ M) c w := by
  induction h with
  | stop e => exact .stop (lk_old e)
  | more e _ ih => exact .more (lk_old e) ih
theorem keys_snoc (L : List (α × Option α)) (c : α) (o : Option α) : keys (L ++ [(c, o)]) = keys L ++ [c] := by simp [keys]
structure Way (S O : α → Prop) (N : α → α → Prop) (L : List (α × Option α)) (c : α) (w : List α) : Prop where
  back : Back L c w
  sub : ∀ x ∈ w, x ∈ keys L
  own : ∀ x ∈ w, O x
  nd : w.Nodup
  link : ∀ i x y, w[i]? = some x → w[i + 1]? = some y → N y x
  first : ∀ x, w.getLast? = some x → S x
  head : w.head? = some c
theorem Way.old {S O : α → Prop} {N : α → α → Prop} {L M : List (α × Option α)} {c : α} {w : List α} (h : Way S O N L c w) : Way S O N (L ++ M) c w :=
  ⟨h.back.old, fun x hx => by unfold keys; rw [List.map_append]; exact List.mem_append_left _ (h.sub x hx), h.own, h.nd, h.link, h.first, h.head⟩
theorem Fl.way {S O : α → Prop} {N : α → α → Prop} {L : List (α × Option α)} (F : Fl S O N L) : ∀ c ∈ keys L, ∃ w, Way S O N L c w := by
  induction F with
  | nil => intro c h; simp [keys] at h
  | @start L c _ hs ho hn ih =>
    intro x hx
    rw [keys_snoc] at hx
    rcases List.mem_append.mp hx with h | h
    · obtain ⟨w, hw⟩ := ih x h
      exact ⟨w, hw.old⟩
    · have e := List.mem_singleton.mp h
      subst e
      refine ⟨[x], .stop (lk_new hn), fun y hy => ?_, fun y hy => ?_, by simp, fun i a b h1 h2 => by simp at h2, fun y hy => ?_, rfl⟩
      · rw [List.mem_singleton.mp hy, keys_snoc]; exact List.mem_append_right _ (List.mem_singleton.mpr rfl)
      · rw [List.mem_singleton.mp hy]; exact ho
      · simp at hy; rw [← hy]; exact hs
  | @step L c b _ hb hN ho hn ih =>
    intro x hx
    rw [keys_snoc] at hx
    rcases List.mem_append.mp hx with h | h
    · obtain ⟨w, hw⟩ := ih x h
      exact ⟨w, hw.old⟩
    · have e := List.mem_singleton.mp h
      subst e
      obtain ⟨w, hw⟩ := ih b hb
      refine ⟨x :: w, .more (lk_new hn) hw.back.old, fun y hy => ?_, fun y hy => ?_, ?_, fun i u v h1 h2 => ?_, fun y hy => ?_, rfl⟩
      · rcases List.mem_cons.mp hy with rfl | hy
        · rw [keys_snoc]; exact List.mem_append_right _ (List.mem_singleton.mpr rfl)
        · exact hw.old.sub y hy
      · rcases List.mem_cons.mp hy with rfl | hy
        · exact ho
        · exact hw.own y hy
      · exact List.nodup_cons.mpr ⟨fun m => hn (hw.sub _ m), hw.nd⟩
      · cases i with
        | zero =>
          simp only [List.getElem?_cons_zero, Option.some.injEq] at h1
          have h3 : w[0]? = some v := by simpa using h2
          have h4 : w.head? = some b := hw.head
          rw [List.head?_eq_getElem?, h3] at h4
          cases h4
          rw [← h1]
          exact hN
        | succ i => exact hw.link i u v (by simpa using h1) (by simpa using h2)
      · cases w with
        | nil => have := hw.head; simp at this
        | cons z r =>
          rw [List.getLast?_cons_cons] at hy
          exact hw.first y hy
theorem Fl.nd {S O : α → Prop} {N : α → α → Prop} {L : List (α × Option α)} (F : Fl S O N L) : (keys L).Nodup := by
  induction F with
  | nil => simp [keys]
  | start _ _ _ hn ih => rw [keys_snoc, List.nodup_append]; exact ⟨ih, by simp, fun a ha b hb e => hn (by rw [← List.mem_singleton.mp hb, ← e]; exact ha)⟩
  | step _ _ _ _ hn ih => rw [keys_snoc, List.nodup_append]; exact ⟨ih, by simp, fun a ha b hb e => hn (by rw [← List.mem_singleton.mp hb, ← e]; exact ha)⟩
theorem closed {S O : α → Prop} {N : α → α → Prop} {L : List (α × Option α)} (hs : ∀ c, S c → O c → c ∈ keys L) (hc : ∀ c ∈ keys L, ∀ d, N c d → O d → d ∈ keys L) : ∀ (w : List α) (c : α), w.head? = some c → S c → (∀ x ∈ w, O x) → (∀ (i : Nat) (x y : α), w[i]? = some x → w[i + 1]? = some y → N x y) → ∀ x ∈ w, x ∈ keys L := by
  have go : ∀ (w : List α) (c : α), c ∈ keys L → (∀ x ∈ c :: w, O x) → (∀ (i : Nat) (x y : α), (c :: w)[i]? = some x → (c :: w)[i + 1]? = some y → N x y) → ∀ x ∈ c :: w, x ∈ keys L := by
    intro w
    induction w with
    | nil => intro c h _ _ x hx; rw [List.mem_singleton.mp hx]; exact h
    | cons d r ih =>
      intro c h ho hl x hx
      rcases List.mem_cons.mp hx with rfl | hx
      · exact h
      · exact ih d (hc c h d (hl 0 c d rfl rfl) (ho d (by simp))) (fun x hx => ho x (List.mem_cons_of_mem _ hx)) (fun i x y h1 h2 => hl (i + 1) x y (by simpa using h1) (by simpa using h2)) x hx
  intro w c hh hS ho hl
  cases w with
  | nil => cases hh
  | cons d r =>
    have e : d = c := by simpa using hh
    subst e
    exact go r d (hs d hS (ho d (by simp))) ho hl
end Flood

set_option maxHeartbeats 4000000
namespace Bd
open PySem L2
theorem comp_rangeC {H1 : Hp} {D : Addr} {n : Nat} {tl : St} {te : TE} {Q : V → Hp → Prop} (g : Nat → Int × Int) (nD : H1 D = none) (hz : n ≤ 100)
    (hte : ∀ i H2 (Qv : VK), i < n → (∀ t, H2 t = none → Qv (.ref t) (upd H2 t (.tup [.int (g i).1, .int (g i).2]))) → te (some (.int (0 + (i : Int))) :: tl) H2 Qv)
    (q : ∀ as H2, Same H1 H2 → H2 D = some (.lst (as.map V.ref)) → CellsAt H2 as ((List.range n).map g) → Q (.ref D) H2) : CompW (Itr 0 n) H1 tl tNoIf te Q D := by
  refine ⟨fun i m H2 => i ≤ n ∧ m = n - i ∧ ∃ as, H2 D = some (.lst (as.map V.ref)) ∧ CellsAt H2 as ((List.range i).map g) ∧ Same H1 H2, ⟨n, Nat.zero_le _, rfl, [], upd_same, .nil, Same.upd nD⟩, ?_⟩
  rintro i m H2 ⟨hi, rfl, as, hD, hcs, sm⟩
  by_cases hlt : i < n
  · refine .inr ⟨hlt, fun x H3 hy => ?_⟩
    obtain ⟨rfl, rfl⟩ := hy
    unfold tNoIf
    dsimp only
    rw [if_pos rfl]
    refine hte i _ _ hlt fun t nt => ⟨_, (by rw [upd_ne (ne_of_none hD nt)]; exact hD), ?_, n - (i + 1), by omega, hlt, rfl, as ++ [t], ?_, ?_, ?_⟩
    · have e := hcs.len
      rw [List.length_map, List.length_range] at e
      rw [List.length_map]
      exact small1000 (by omega)
    · rw [upd_same, List.map_append]
      rfl
    · rw [List.range_succ, List.map_append]
      refine CellsAt.append ?_ (.cons ?_ .nil)
      · refine Paired.mapP hcs fun a p e => ?_
        have e' : H3 a = some (.tup [.int p.1, .int p.2]) := e
        show (upd (upd H3 t _) D _) a = _
        rw [upd_ne (fun z => by rw [z, hD] at e'; cases e'), upd_ne (ne_of_none e' nt)]
        exact e'
      · show (upd (upd H3 t _) D _) t = _
        rw [upd_ne (Ne.symm (ne_of_none hD nt)), upd_same]
    · intro b o e
      rw [upd_ne (ne_of_none e nD), upd_ne (ne_of_none (sm _ _ e) nt)]
      exact sm _ _ e
  · have e : i = n := by omega
    subst e
    exact .inl ⟨Nat.le_refl _, q as H2 sm hD hcs⟩
noncomputable def firstL (R C : Nat) (h : Int) : List (Int × Int) := if h = 1 then (List.range R).map (fun r : Nat => ((r : Int), (0 : Int))) else (List.range C).map (fun c : Nat => ((0 : Int), (c : Int)))
noncomputable def onLast (R C : Nat) (h r c : Int) : Bool := if h = 1 then decide (c = (C : Int) - 1) else decide (r = (R : Int) - 1)
noncomputable def AheadAt (H : Hp) (a : Addr) (L : List ((Int × Int) × Option (Int × Int))) : Prop := ∃ kvs, H a = some (.dT kvs) ∧ kvs.length = L.length ∧ ∀ r c, match Flood.lk L (r, c) with
  | none => valV kvs (keyC r c) = none
  | some none => valV kvs (keyC r c) = some .non
  | some (some p) => ∃ b, valV kvs (keyC r c) = some (.ref b) ∧ CellAt H b p.1 p.2
theorem AheadAt.mono {H H' : Hp} {a : Addr} {L : List ((Int × Int) × Option (Int × Int))} (h : AheadAt H a L) (s : Same H H') : AheadAt H' a L := by
  obtain ⟨kvs, h1, h2, h3⟩ := h
  refine ⟨kvs, s _ _ h1, h2, fun r c => ?_⟩
  have q := h3 r c
  cases e : Flood.lk L (r, c) with
  | none => rw [e] at q; exact q
  | some o =>
    cases o with
    | none => rw [e] at q; exact q
    | some p =>
      rw [e] at q
      obtain ⟨b, q1, q2⟩ := q
      exact ⟨b, q1, q2.mono s⟩
end Bd

set_option maxHeartbeats 4000000
namespace K06
open PySem L2 Bd
inductive spFirst (D : Ads) (vs : List V) (H : Hp) (Q : VK) (E' : XK) : Prop
  | mk (p d : Addr) (R C : Nat) (own : Nat × Nat → Int) (h : Int) (y'1 : vs = [.ref p, .int h]) (y'2 : R ≤ 10) (y'3 : C ≤ 10) (y'4 : BoardAt D.CB H p d R C own) (y'5 : ∀ l H', Same H H' → H l = none → LCells H' l (firstL R C h) → Q (.ref l) H') : spFirst D vs H Q E'
inductive spLast (D : Ads) (vs : List V) (H : Hp) (Q : VK) (E' : XK) : Prop
  | mk (p d b : Addr) (R C : Nat) (own : Nat × Nat → Int) (h r c : Int) (y'1 : vs = [.ref p, .int h, .ref b]) (y'2 : BoardAt D.CB H p d R C own) (y'3 : CellAt H b r c) (y'4 : Q (.bl (onLast R C h r c)) H) : spLast D vs H Q E'
inductive spWay (vs : List V) (H : Hp) (Q : VK) (E' : XK) : Prop
  | mk (b a : Addr) (r c : Int) (L : List ((Int × Int) × Option (Int × Int))) (w : List (Int × Int)) (y'1 : vs = [.ref b, .ref a]) (y'2 : AheadAt H a L) (y'3 : CellAt H b r c) (y'4 : Flood.Back L (r, c) w) (y'5 : w.length ≤ 100) (y'6 : ∀ l H', Same H H' → H l = none → LCells H' l w.reverse → Q (.ref l) H') : spWay vs H Q E'
section
variable {P : Program} {w : World} {K : PySem.W.Frag} {mg : Str → Option Value} {base : Heap} {D : Ads}
theorem scFirst : FnScope ["board", "hand"] ["board", "hand"] (defScope sFirst) := ⟨rfl, rfl, rfl, by decide +kernel, rfl, by decide +kernel, by decide +kernel⟩
theorem ok_first {f fX fY : Addr} {fd fdX fdY : FuncData} (F : Fun K "first_side" "first_side" sFirst f fd) (T : Txt K mg D)
    (GX : FnOk P w K mg base (CX1 P w) 1 fX fdX ["self"] (spSize D fun R _ => R)) (bX : Binds K fdX ["self"] []) (mX : Meth K D.CB "rows" fX)
    (GY : FnOk P w K mg base (CX1 P w) 1 fY fdY ["self"] (spSize D fun _ C => C)) (bY : Binds K fdY ["self"] []) (mY : Meth K D.CB "columns" fY) :
    FnOk P w K mg base (CX1 P w) 2 f fd ["board", "hand"] (spFirst D) := by
  refine F.ok0 scFirst (fun vs H Q E h => ?_) (fun cdv A outer s H vs Q E hr h => ?_)
  · obtain ⟨p, d, R, C, own, h, rfl, _⟩ := h
    rfl
  · obtain ⟨p, d, R, C, own, h, rfl, hR, hC, B, k⟩ := h
    obtain ⟨dx, h1⟩ := B.ob
    refine ⟨_, pss_cons (ps_if (pt_cmpR op_eq (pv 1) pe_int (nomark _)) (pss_one (ps_ret (pe_comp (fr := []) (js := []) (tif := tNoIf) (te := tTup (tCons (tVar 0) (tCons (tC (.int 0)) tNil)))
        (by exact ⟨rfl, rfl, rfl, rfl, by decide +kernel, by decide +kernel, by decide +kernel, by with_unfolding_all rfl, rfl, by decide +kernel⟩) rfl (pi_range1 rfl T.rng (pa_cons (pe_meth0 (pv 0) T.cl mX GX hr bX .nil passN) pa_nil)) (by intro _ _ _ _; exact pf_nil) (by intro _ _ _ _; exact pe_tup (pa_cons (pv 0) (pa_cons pe_int pa_nil)))))) pss_nil)
      (pss_one (ps_ret (pe_comp (fr := []) (js := []) (tif := tNoIf) (te := tTup (tCons (tC (.int 0)) (tCons (tVar 0) tNil)))
        (by exact ⟨rfl, rfl, rfl, rfl, by decide +kernel, by decide +kernel, by decide +kernel, by with_unfolding_all rfl, rfl, by decide +kernel⟩) rfl (pi_range1 rfl T.rng (pa_cons (pe_meth0 (pv 0) T.cl mY GY hr bY .nil passN) pa_nil)) (by intro _ _ _ _; exact pf_nil) (by intro _ _ _ _; exact pe_tup (pa_cons pe_int (pa_cons (pv 0) pa_nil)))))), ?_⟩
    refine ⟨_, rfl, rfl, _, rfl, ite2 (fun e => ?_) (fun e => ?_)⟩
    · have e1 : h = 1 := by simpa using e
      refine ⟨_, rfl, p, dx, _, rfl, h1, bflds_no _ _ _ (by decide +kernel) (by decide +kernel) (by decide +kernel), p, d, R, C, own, rfl, B, (R : Int), rfl, by omega, by omega, ?_⟩
      rw [Int.toNat_natCast]
      intro D' nD
      refine comp_rangeC (fun r : Nat => ((r : Int), (0 : Int))) nD (by omega) (fun i H2 Qv hi q => ⟨_, rfl, (by show 2 ≤ sizeLine; decide), fun t nt => ?_⟩) fun as H2 s2 hD hcs => ?_
      · have := q t nt
        dsimp only at this
        rw [← Int.zero_add (i : Int)] at this
        exact this
      · refine k D' H2 s2 nD ⟨as, hD, ?_⟩
        unfold firstL
        rw [if_pos e1]
        exact hcs
    · have e1 : ¬ h = 1 := by simpa using e
      refine ⟨_, rfl, p, dx, _, rfl, h1, bflds_no _ _ _ (by decide +kernel) (by decide +kernel) (by decide +kernel), p, d, R, C, own, rfl, B, (C : Int), rfl, by omega, by omega, ?_⟩
      rw [Int.toNat_natCast]
      intro D' nD
      refine comp_rangeC (fun c : Nat => ((0 : Int), (c : Int))) nD (by omega) (fun i H2 Qv hi q => ⟨_, rfl, (by show 2 ≤ sizeLine; decide), fun t nt => ?_⟩) fun as H2 s2 hD hcs => ?_
      · have := q t nt
        dsimp only at this
        rw [← Int.zero_add (i : Int)] at this
        exact this
      · refine k D' H2 s2 nD ⟨as, hD, ?_⟩
        unfold firstL
        rw [if_neg e1]
        exact hcs
theorem scLast : FnScope ["board", "hand", "cell"] ["board", "hand", "cell"] (defScope sLast) := ⟨rfl, rfl, rfl, by decide +kernel, rfl, by decide +kernel, by decide +kernel⟩
theorem ok_last {f fX fY : Addr} {fd fdX fdY : FuncData} (F : Fun K "on_last_side" "on_last_side" sLast f fd) (T : Txt K mg D)
    (GX : FnOk P w K mg base (CX1 P w) 1 fX fdX ["self"] (spSize D fun R _ => R)) (bX : Binds K fdX ["self"] []) (mX : Meth K D.CB "rows" fX)
    (GY : FnOk P w K mg base (CX1 P w) 1 fY fdY ["self"] (spSize D fun _ C => C)) (bY : Binds K fdY ["self"] []) (mY : Meth K D.CB "columns" fY) :
    FnOk P w K mg base (CX1 P w) 2 f fd ["board", "hand", "cell"] (spLast D) := by
  refine F.ok0 scLast (fun vs H Q E h => ?_) (fun cdv A outer s H vs Q E hr h => ?_)
  · obtain ⟨p, d, b, R, C, own, h, r, c, rfl, _⟩ := h
    rfl
  · obtain ⟨p, d, b, R, C, own, h, r, c, rfl, B, hc, k⟩ := h
    obtain ⟨dx, h1⟩ := B.ob
    refine ⟨_, pss_cons (ps_if (pt_cmpR op_eq (pv 1) pe_int (nomark _)) (pss_one (ps_ret (pe_cmpR op_eq (pe_ix ix_tup (pv 2) pe_int (fun _ _ => rfl)) (pe_op op_sub (pe_meth0 (pv 0) T.cl mY GY hr bY .nil passN) pe_int) (nomark _)))) pss_nil)
      (pss_one (ps_ret (pe_cmpR op_eq (pe_ix ix_tup (pv 2) pe_int (fun _ _ => rfl)) (pe_op op_sub (pe_meth0 (pv 0) T.cl mX GX hr bX .nil passN) pe_int) (nomark _)))), ?_⟩
    refine ⟨_, rfl, rfl, _, rfl, ite2 (fun e => ?_) (fun e => ?_)⟩
    · have e1 : h = 1 := by simpa using e
      refine ⟨_, rfl, b, _, _, _, rfl, rfl, SqT.of hc, atI_nat (j := 1) rfl, _, rfl, p, dx, _, rfl, h1, bflds_no _ _ _ (by decide +kernel) (by decide +kernel) (by decide +kernel), p, d, R, C, own, rfl, B, _, _, rfl, rfl, rfl, ?_⟩
      unfold onLast at k
      rw [if_pos e1] at k
      simpa using k
    · have e1 : ¬ h = 1 := by simpa using e
      refine ⟨_, rfl, b, _, _, _, rfl, rfl, SqT.of hc, atI_nat (j := 0) rfl, _, rfl, p, dx, _, rfl, h1, bflds_no _ _ _ (by decide +kernel) (by decide +kernel) (by decide +kernel), p, d, R, C, own, rfl, B, _, _, rfl, rfl, rfl, ?_⟩
      unfold onLast at k
      rw [if_neg e1] at k
      simpa using k
noncomputable def wayW (H : Hp) (L : List ((Int × Int) × Option (Int × Int))) (w : List (Int × Int)) (a l : Addr) (m : Nat) (σ : St) (H2 : Hp) : Prop := ∃ (dn rem : List (Int × Int)) (as : List Addr), w = dn ++ rem ∧ m = rem.length ∧ H2 l = some (.lst (as.map V.ref)) ∧ CellsAt H2 as dn ∧ Same H H2 ∧
  ((∃ b r c, σ = [some (.ref b), some (.ref a), some (.ref l)] ∧ CellAt H b r c ∧ Flood.Back L (r, c) rem) ∨ (rem = [] ∧ σ = [some .non, some (.ref a), some (.ref l)]))
theorem cells_rev {H : Hp} : ∀ {as : List Addr} {cs : List (Int × Int)}, CellsAt H as cs → CellsAt H as.reverse cs.reverse
  | _, _, .nil => .nil
  | _, _, .cons q t => by
    rw [List.reverse_cons, List.reverse_cons]
    exact CellsAt.append (cells_rev t) (.cons q .nil)
theorem scWay : FnScope ["cell", "ahead", "way"] ["cell", "ahead"] (defScope sWay) := ⟨rfl, rfl, rfl, by decide +kernel, rfl, by decide +kernel, by decide +kernel⟩
theorem ok_way {f : Addr} {fd : FuncData} (F : Fun K "way_to" "way_to" sWay f fd) (T : Txt K mg D) : FnOk P w K mg base (CX1 P w) 1 f fd ["cell", "ahead"] spWay := by
  refine F.ok0 scWay (fun vs H Q E h => ?_) (fun cdv A outer s H vs Q E hr h => ?_)
  · obtain ⟨b, a, r, c, L, w, rfl, _⟩ := h
    rfl
  · obtain ⟨b, a, r, c, L, w, rfl, hA, hc, hw, hz, k⟩ := h
    have hu := hu_of hr
    refine ⟨_, pss_cons (ps_set (i := 2) scWay.nd rfl (Or.inl rfl) (pe_lst pa_nil))
      (pss_cons (ps_while PassesOwn.never (pt_cmp (pc_notN (pv 0)))
        (pss_cons (ps_expr (pe_bm PySem.F.plainAttrs_list PySem.F.slot_list_append PySem.F.type_list_append mt_append (pv 2) (pa_cons (pv 0) pa_nil)))
        (pss_one (ps_set (i := 0) scWay.nd rfl (Or.inl rfl) (pe_dget hu (pv 1) (pv 0) (fun _ _ => rfl))))))
      (pss_cons (ps_expr (pe_bm0 PySem.F.plainAttrs_list PySem.F.slot_list_reverse PySem.F.type_list_reverse mt_reverse (pv 2)))
      (pss_one (ps_ret (pv 2))))), ?_⟩
    refine ⟨(by show 0 ≤ sizeLine; decide), fun l nl => ?_⟩
    refine ⟨wayW H L w a l, ⟨w.length, [], w, [], rfl, rfl, upd_same, .nil, Same.upd nl, .inl ⟨b, r, c, rfl, hc, hw⟩⟩, ?_⟩
    rintro m σ H2 ⟨dn, rem, as, ew, rfl, hl2, hcs, sm, hst⟩
    have hlen : as.length ≤ 100 := by
      rw [hcs.len]
      have : w.length = dn.length + rem.length := by rw [ew, List.length_append]
      omega
    rcases hst with ⟨b, r, c, rfl, hb, hback⟩ | ⟨rfl, rfl⟩
    · refine ⟨_, rfl, _, rfl, iteY (by simp) ?_⟩
      have sl : ∀ b' o', b' ≠ l → H2 b' = some o' → (upd H2 l (.lst (as.map V.ref ++ [.ref b]))) b' = some o' := fun b' o' hb' e => by
        rw [upd_ne hb']
        exact e
      have s3 : Same H (upd H2 l (.lst (as.map V.ref ++ [.ref b]))) := fun b' o' e => sl b' o' (ne_of_none e nl) (sm _ _ e)
      have c3 : CellsAt (upd H2 l (.lst (as.map V.ref ++ [.ref b]))) (as ++ [b]) (dn ++ [(r, c)]) := by
        refine CellsAt.append (Paired.mapP hcs fun b' p e => sl b' _ (fun z => by rw [z] at e; have e' := hl2.symm.trans e; cases e') e) (.cons ?_ .nil)
        exact hb.mono s3
      have l3 : (upd H2 l (.lst (as.map V.ref ++ [.ref b]))) l = some (.lst ((as ++ [b]).map V.ref)) := by
        rw [upd_same, List.map_append]
        rfl
      obtain ⟨kvs, a1, a2, a3⟩ := id hA
      have a4 := a3 r c
      obtain ⟨rem', v, er, ev, hv⟩ : ∃ rem' v, rem = (r, c) :: rem' ∧ valV kvs (keyC r c) = some v ∧ ((∃ b' r' c', v = .ref b' ∧ CellAt H b' r' c' ∧ Flood.Back L (r', c') rem') ∨ (rem' = [] ∧ v = .non)) := by
        cases hback with
        | stop e =>
          rw [e] at a4
          exact ⟨[], .non, rfl, a4, .inr ⟨rfl, rfl⟩⟩
        | @more _ q w' e hb' =>
          rw [e] at a4
          obtain ⟨b', q1, q2⟩ := a4
          exact ⟨w', .ref b', rfl, q1, .inl ⟨b', q.1, q.2, rfl, q2, hb'⟩⟩
      refine ⟨wayW H L w a l rem'.length, fun σ' H' h => ⟨_, by rw [er, List.length_cons]; omega, h⟩, ?_⟩
      refine ⟨_, rfl, .inl ⟨rfl, _, SqL.of hl2⟩, _, rfl, l, _, _, rfl, rfl, hl2, (by rw [List.length_map]; exact small1000 (by omega)), ?_⟩
      refine ⟨_, rfl, _, rfl, a, v, rfl, (by rw [← ev]; exact DGet.t (s3 _ _ a1) (hb.mono s3)), ?_⟩
      refine ⟨dn ++ [(r, c)], rem', as ++ [b], by rw [ew, er, List.append_assoc]; rfl, rfl, l3, c3, s3, ?_⟩
      rcases hv with ⟨b', r', c', rfl, h1, h2⟩ | ⟨h1, rfl⟩
      · exact .inl ⟨b', r', c', rfl, h1, h2⟩
      · exact .inr ⟨h1, rfl⟩
    · refine ⟨_, rfl, _, rfl, iteN (by simp) ?_⟩
      rw [List.append_nil] at ew
      subst ew
      refine ⟨_, rfl, .inl ⟨rfl, _, SqL.of hl2⟩, l, _, rfl, rfl, hl2, ?_⟩
      refine ⟨_, rfl, k l _ (fun b' o' e => by rw [upd_ne (ne_of_none e nl)]; exact sm _ _ e) nl ⟨as.reverse, by rw [upd_same, List.map_reverse], ?_⟩⟩
      exact Paired.mapP (cells_rev hcs) fun b' p e => by
        have e' : H2 b' = some (.tup [.int p.1, .int p.2]) := e
        show (upd H2 l _) b' = _
        rw [upd_ne (fun z => by rw [z, hl2] at e'; cases e')]
        exact e'
end
end K06

namespace Hex
section
variable {R C : Nat} {col A B : Nat → Nat → Bool}
noncomputable def e2 (A B : Nat → Nat → Bool) (r c r' c' : Nat) : Bool := (A r c && B r' c') || (B r c && A r' c')
structure Lab (R C : Nat) (col A B : Nat → Nat → Bool) : Prop where
  a : ∀ r c, A r c = true → col r c = true
  b : ∀ r c, B r c = true → col r c = false
  ah : ∀ r c, r < R → c + 1 < C → col r c = true → col r (c + 1) = true → A r c = A r (c + 1)
  av : ∀ r c, r + 1 < R → c < C → col r c = true → col (r + 1) c = true → A r c = A (r + 1) c
  ad : ∀ r c, r + 1 < R → c + 1 < C → col r (c + 1) = true → col (r + 1) c = true → A r (c + 1) = A (r + 1) c
  bh : ∀ r c, r < R → c + 1 < C → col r c = false → col r (c + 1) = false → B r c = B r (c + 1)
  bv : ∀ r c, r + 1 < R → c < C → col r c = false → col (r + 1) c = false → B r c = B (r + 1) c
  bd : ∀ r c, r + 1 < R → c + 1 < C → col r (c + 1) = false → col (r + 1) c = false → B r (c + 1) = B (r + 1) c
  left : ∀ r, r < R → col r 0 = true → A r 0 = true
  top : ∀ c, c < C → col 0 c = false → B 0 c = true
theorem tri {a1 a2 a3 b1 b2 b3 k1 k2 k3 : Bool} (h1 : a1 = true → k1 = true) (h2 : a2 = true → k2 = true) (h3 : a3 = true → k3 = true) (g1 : b1 = true → k1 = false) (g2 : b2 = true → k2 = false) (g3 : b3 = true → k3 = false)
    (x12 : k1 = true → k2 = true → a1 = a2) (x23 : k2 = true → k3 = true → a2 = a3) (x13 : k1 = true → k3 = true → a1 = a3)
    (y12 : k1 = false → k2 = false → b1 = b2) (y23 : k2 = false → k3 = false → b2 = b3) (y13 : k1 = false → k3 = false → b1 = b3) :
    (((a1 && b2) || (b1 && a2)) ^^ ((a2 && b3) || (b2 && a3))) = ((a1 && b3) || (b1 && a3)) := by
  cases k1 <;> cases k2 <;> cases k3 <;> simp_all [Bool.and_comm]
theorem square (L : Lab R C col A B) (r c : Nat) (hr : r + 1 < R) (hc : c + 1 < C) :
    (e2 A B r c r (c + 1) ^^ e2 A B (r + 1) c (r + 1) (c + 1)) = (e2 A B r c (r + 1) c ^^ e2 A B r (c + 1) (r + 1) (c + 1)) := by
  have t1 := tri (L.a r c) (L.a r (c + 1)) (L.a (r + 1) c) (L.b r c) (L.b r (c + 1)) (L.b (r + 1) c) (L.ah r c (by omega) hc) (L.ad r c hr hc) (L.av r c hr (by omega)) (L.bh r c (by omega) hc) (L.bd r c hr hc) (L.bv r c hr (by omega))
  have t2 := tri (L.a r (c + 1)) (L.a (r + 1) c) (L.a (r + 1) (c + 1)) (L.b r (c + 1)) (L.b (r + 1) c) (L.b (r + 1) (c + 1)) (L.ad r c hr hc) (L.ah (r + 1) c hr hc) (L.av r (c + 1) hr hc) (L.bd r c hr hc) (L.bh (r + 1) c hr hc) (L.bv r (c + 1) hr hc)
  unfold e2
  rw [← t1, ← t2]
  generalize ((A r c && B r (c + 1)) || (B r c && A r (c + 1))) = x
  generalize ((A r (c + 1) && B (r + 1) c) || (B r (c + 1) && A (r + 1) c)) = y
  generalize ((A (r + 1) c && B (r + 1) (c + 1)) || (B (r + 1) c && A (r + 1) (c + 1))) = z
  revert x y z
  decide
noncomputable def xs (f : Nat → Bool) : Nat → Bool
  | 0 => false
  | n + 1 => xs f n ^^ f n
theorem xs_diff (g : Nat → Bool) (f : Nat → Bool) : ∀ n, (∀ i, i < n → f i = (g i ^^ g (i + 1))) → xs f n = (g 0 ^^ g n)
  | 0, _ => by show false = _; cases g 0 <;> rfl
  | n + 1, h => by
    show (xs f n ^^ f n) = _
    rw [xs_diff g f n fun i hi => h i (by omega), h n (by omega)]
    generalize g 0 = x
    generalize g n = y
    generalize g (n + 1) = z
    revert x y z
    decide
theorem rows2 (L : Lab R C col A B) (r : Nat) (hr : r + 1 < R) : ∀ n, n < C → (xs (fun c => e2 A B r c r (c + 1)) n ^^ xs (fun c => e2 A B (r + 1) c (r + 1) (c + 1)) n) = (e2 A B r 0 (r + 1) 0 ^^ e2 A B r n (r + 1) n)
  | 0, _ => by show (false ^^ false) = _; cases e2 A B r 0 (r + 1) 0 <;> rfl
  | n + 1, h => by
    have ih := rows2 L r hr n (by omega)
    have sq := square L r n hr h
    show ((xs (fun c => e2 A B r c r (c + 1)) n ^^ e2 A B r n r (n + 1)) ^^ (xs (fun c => e2 A B (r + 1) c (r + 1) (c + 1)) n ^^ e2 A B (r + 1) n (r + 1) (n + 1))) = _
    revert ih sq
    generalize xs (fun c => e2 A B r c r (c + 1)) n = x1
    generalize xs (fun c => e2 A B (r + 1) c (r + 1) (c + 1)) n = x2
    generalize e2 A B r n r (n + 1) = x3
    generalize e2 A B (r + 1) n (r + 1) (n + 1) = x4
    generalize e2 A B r 0 (r + 1) 0 = x5
    generalize e2 A B r n (r + 1) n = x6
    generalize e2 A B r (n + 1) (r + 1) (n + 1) = x7
    revert x1 x2 x3 x4 x5 x6 x7
    decide
theorem some_joins (L : Lab R C col A B) (hR : 0 < R) (hC : 0 < C) : (∃ r, r < R ∧ A r (C - 1) = true) ∨ ∃ c, c < C ∧ B (R - 1) c = true := by
  by_cases h1 : ∃ r, r < R ∧ A r (C - 1) = true
  · exact .inl h1
  by_cases h2 : ∃ c, c < C ∧ B (R - 1) c = true
  · exact .inr h2
  exfalso
  have nA : ∀ r, r < R → A r (C - 1) = false := fun r hr => by
    cases q : A r (C - 1) with
    | false => rfl
    | true => exact absurd ⟨r, hr, q⟩ h1
  have nB : ∀ c, c < C → B (R - 1) c = false := fun c hc => by
    cases q : B (R - 1) c with
    | false => rfl
    | true => exact absurd ⟨c, hc, q⟩ h2
  -- the row sums
  let Hs : Nat → Bool := fun r => xs (fun c => e2 A B r c r (c + 1)) (C - 1)
  have st : ∀ r, r < R - 1 → e2 A B r 0 (r + 1) 0 = (Hs r ^^ Hs (r + 1)) := fun r hr => by
    have q := rows2 L r (by omega) (C - 1) (by omega)
    have z : e2 A B r (C - 1) (r + 1) (C - 1) = false := by
      unfold e2
      rw [nA r (by omega), nA (r + 1) (by omega)]
      simp
    rw [z] at q
    show _ = (xs _ _ ^^ xs _ _)
    rw [q]
    simp
  have s1 := xs_diff Hs (fun r => e2 A B r 0 (r + 1) 0) (R - 1) st
  -- the last row
  have s2 : Hs (R - 1) = false := by
    have z : ∀ n, n < C → xs (fun c => e2 A B (R - 1) c (R - 1) (c + 1)) n = false := by
      intro n
      induction n with
      | zero => intro _; rfl
      | succ n ih =>
        intro h
        show (xs (fun c => e2 A B (R - 1) c (R - 1) (c + 1)) n ^^ e2 A B (R - 1) n (R - 1) (n + 1)) = false
        rw [ih (by omega)]
        unfold e2
        rw [nB n (by omega), nB (n + 1) (by omega)]
        simp
    exact z (C - 1) (by omega)
  -- the left column
  have s3 := xs_diff (fun r => B r 0) (fun r => e2 A B r 0 (r + 1) 0) (R - 1) fun r hr => by
    have a1 := L.a r 0
    have a2 := L.a (r + 1) 0
    have b1 := L.b r 0
    have b2 := L.b (r + 1) 0
    have l1 := L.left r (by omega)
    have l2 := L.left (r + 1) (by omega)
    have v := L.bv r 0 (by omega) hC
    unfold e2
    show _ = (B r 0 ^^ B (r + 1) 0)
    revert a1 a2 b1 b2 l1 l2 v
    generalize A r 0 = x1
    generalize A (r + 1) 0 = x2
    generalize B r 0 = x3
    generalize B (r + 1) 0 = x4
    generalize col r 0 = x5
    generalize col (r + 1) 0 = x6
    intro a1 a2 b1 b2 l1 l2 v
    cases x5 <;> cases x6 <;> simp_all
  -- the top row
  have s4 := xs_diff (fun c => A 0 c) (fun c => e2 A B 0 c 0 (c + 1)) (C - 1) fun c hc => by
    have a1 := L.a 0 c
    have a2 := L.a 0 (c + 1)
    have b1 := L.b 0 c
    have b2 := L.b 0 (c + 1)
    have l1 := L.top c (by omega)
    have l2 := L.top (c + 1) (by omega)
    have v := L.ah 0 c hR (by omega)
    unfold e2
    show _ = (A 0 c ^^ A 0 (c + 1))
    revert a1 a2 b1 b2 l1 l2 v
    generalize A 0 c = x1
    generalize A 0 (c + 1) = x2
    generalize B 0 c = x3
    generalize B 0 (c + 1) = x4
    generalize col 0 c = x5
    generalize col 0 (c + 1) = x6
    intro a1 a2 b1 b2 l1 l2 v
    cases x5 <;> cases x6 <;> simp_all
  have s5 : Hs 0 = (A 0 0 ^^ A 0 (C - 1)) := s4
  have s3' : xs (fun r => e2 A B r 0 (r + 1) 0) (R - 1) = (B 0 0 ^^ B (R - 1) 0) := s3
  rw [s3', s2, s5, nA 0 hR, nB 0 hC] at s1
  have l1 := L.left 0 hR
  have t1 := L.top 0 hC
  have a1 := L.a 0 0
  have b1 := L.b 0 0
  revert s1 l1 t1 a1 b1
  generalize A 0 0 = x1
  generalize B 0 0 = x2
  generalize col 0 0 = x3
  revert x1 x2 x3
  decide
end

noncomputable abbrev Cell := Int × Int
noncomputable def offs : List Cell := [(-1, 0), (-1, 1), (0, -1), (0, 1), (1, -1), (1, 0)]
noncomputable def adj (p q : Cell) : Prop := ∃ o ∈ offs, q = (p.1 + o.1, p.2 + o.2)
theorem adj_iff {p q : Cell} : adj p q ↔ (q.1 = p.1 - 1 ∧ q.2 = p.2) ∨ (q.1 = p.1 - 1 ∧ q.2 = p.2 + 1) ∨ (q.1 = p.1 ∧ q.2 = p.2 - 1) ∨ (q.1 = p.1 ∧ q.2 = p.2 + 1) ∨ (q.1 = p.1 + 1 ∧ q.2 = p.2 - 1) ∨ (q.1 = p.1 + 1 ∧ q.2 = p.2) := by
  constructor
  · rintro ⟨o, ho, rfl⟩
    simp only [offs, List.mem_cons, List.not_mem_nil, or_false] at ho
    rcases ho with rfl | rfl | rfl | rfl | rfl | rfl
    · exact .inl ⟨rfl, Int.add_zero _⟩
    · exact .inr (.inl ⟨rfl, rfl⟩)
    · exact .inr (.inr (.inl ⟨Int.add_zero _, rfl⟩))
    · exact .inr (.inr (.inr (.inl ⟨Int.add_zero _, rfl⟩)))
    · exact .inr (.inr (.inr (.inr (.inl ⟨rfl, rfl⟩))))
    · exact .inr (.inr (.inr (.inr (.inr ⟨rfl, Int.add_zero _⟩))))
  · rintro (⟨h1, h2⟩ | ⟨h1, h2⟩ | ⟨h1, h2⟩ | ⟨h1, h2⟩ | ⟨h1, h2⟩ | ⟨h1, h2⟩)
    · exact ⟨(-1, 0), by simp [offs], Prod.ext h1 (h2.trans (Int.add_zero _).symm)⟩
    · exact ⟨(-1, 1), by simp [offs], Prod.ext h1 h2⟩
    · exact ⟨(0, -1), by simp [offs], Prod.ext (h1.trans (Int.add_zero _).symm) h2⟩
    · exact ⟨(0, 1), by simp [offs], Prod.ext (h1.trans (Int.add_zero _).symm) h2⟩
    · exact ⟨(1, -1), by simp [offs], Prod.ext h1 h2⟩
    · exact ⟨(1, 0), by simp [offs], Prod.ext h1 (h2.trans (Int.add_zero _).symm)⟩
section
variable {l : List Cell} {a0 z0 : Cell} {rest : List Cell}
end
end Hex

namespace Bd
noncomputable abbrev Cl := Int × Int
theorem mem_near {R C : Nat} {p q : Cl} : q ∈ nearL R C p.1 p.2 ↔ inB R C q.1 q.2 ∧ Hex.adj p q := by
  unfold nearL around
  rw [List.mem_filter, List.mem_map]
  constructor
  · rintro ⟨⟨o, ho, rfl⟩, h⟩
    exact ⟨by simpa using h, o, ho, rfl⟩
  · rintro ⟨h, o, ho, rfl⟩
    exact ⟨⟨o, ho, rfl⟩, by simpa using h⟩
theorem adj_symm {p q : Cl} (h : Hex.adj p q) : Hex.adj q p := by
  rw [Hex.adj_iff]
  rcases Hex.adj_iff.mp h with ⟨z1, z2⟩ | ⟨z1, z2⟩ | ⟨z1, z2⟩ | ⟨z1, z2⟩ | ⟨z1, z2⟩ | ⟨z1, z2⟩
  · exact .inr (.inr (.inr (.inr (.inr ⟨by omega, z2.symm⟩))))
  · exact .inr (.inr (.inr (.inr (.inl ⟨by omega, by omega⟩))))
  · exact .inr (.inr (.inr (.inl ⟨z1.symm, by omega⟩)))
  · exact .inr (.inr (.inl ⟨z1.symm, by omega⟩))
  · exact .inr (.inl ⟨by omega, by omega⟩)
  · exact .inl ⟨by omega, z2.symm⟩
theorem mem_first1 {R C : Nat} {p : Cl} : p ∈ firstL R C 1 ↔ 0 ≤ p.1 ∧ p.1 < R ∧ p.2 = 0 := by
  unfold firstL
  rw [if_pos rfl, List.mem_map]
  obtain ⟨a, b⟩ := p
  constructor
  · rintro ⟨r, hr, e⟩
    rw [List.mem_range] at hr
    injection e with e1 e2
    subst e1 e2
    dsimp only
    omega
  · rintro ⟨h1, h2, h3⟩
    dsimp only at h1 h2 h3
    exact ⟨a.toNat, List.mem_range.mpr (by omega), by rw [h3, Int.toNat_of_nonneg h1]⟩
theorem mem_first2 {R C : Nat} {h : Int} (n : h ≠ 1) {p : Cl} : p ∈ firstL R C h ↔ 0 ≤ p.2 ∧ p.2 < C ∧ p.1 = 0 := by
  unfold firstL
  rw [if_neg n, List.mem_map]
  obtain ⟨a, b⟩ := p
  constructor
  · rintro ⟨r, hr, e⟩
    rw [List.mem_range] at hr
    injection e with e1 e2
    subst e1 e2
    dsimp only
    omega
  · rintro ⟨h1, h2, h3⟩
    dsimp only at h1 h2 h3
    exact ⟨b.toNat, List.mem_range.mpr (by omega), by rw [h3, Int.toNat_of_nonneg h1]⟩
theorem first_in {R C : Nat} {h : Int} {p : Cl} (hR : 0 < R) (hC : 0 < C) (m : p ∈ firstL R C h) : inB R C p.1 p.2 := by
  by_cases e : h = 1
  · subst e
    have := mem_first1.mp m
    unfold inB
    omega
  · have := (mem_first2 e).mp m
    unfold inB
    omega
theorem onLast1 {R C : Nat} {r c : Int} : onLast R C 1 r c = true ↔ c = (C : Int) - 1 := by
  unfold onLast
  rw [if_pos rfl, decide_eq_true_eq]
theorem onLast2 {R C : Nat} {h r c : Int} (n : h ≠ 1) : onLast R C h r c = true ↔ r = (R : Int) - 1 := by
  unfold onLast
  rw [if_neg n, decide_eq_true_eq]
structure IsChain (R C : Nat) (O : Cl → Prop) (h : Int) (ps : List Cl) : Prop where
  nd : ps.Nodup
  inb : ∀ p ∈ ps, inB R C p.1 p.2
  own : ∀ p ∈ ps, O p
  link : ∀ (i : Nat) (p q : Cl), ps[i]? = some p → ps[i + 1]? = some q → q ∈ nearL R C p.1 p.2
  first : ∃ p, ps.head? = some p ∧ p ∈ firstL R C h
  last : ∃ p, ps.getLast? = some p ∧ onLast R C h p.1 p.2 = true
structure Shut (R C : Nat) (O : Cl → Prop) (h : Int) (ks : List Cl) : Prop where
  start : ∀ p ∈ firstL R C h, O p → p ∈ ks
  step : ∀ p ∈ ks, ∀ q ∈ nearL R C p.1 p.2, O q → q ∈ ks
  no : ∀ p ∈ ks, onLast R C h p.1 p.2 = false
  own : ∀ p ∈ ks, O p
theorem IsChain.mono {R C : Nat} {O O' : Cl → Prop} {h : Int} {ps : List Cl} (c : IsChain R C O h ps) (k : ∀ p, p ∈ ps → O p → O' p) : IsChain R C O' h ps :=
  ⟨c.nd, c.inb, fun p hp => k p hp (c.own p hp), c.link, c.first, c.last⟩
theorem IsChain.ne {R C : Nat} {O : Cl → Prop} {h : Int} {ps : List Cl} (c : IsChain R C O h ps) : ps ≠ [] := fun e => by
  obtain ⟨p, h1, _⟩ := c.first
  rw [e] at h1
  cases h1
theorem Shut.no_chain {R C : Nat} {O O' : Cl → Prop} {h : Int} {ks ps : List Cl} (s : Shut R C O h ks) (c : IsChain R C O' h ps) (k : ∀ p, p ∈ ps → O' p → O p) : False := by
  obtain ⟨p, h1, h2⟩ := c.first
  obtain ⟨q, h3, h4⟩ := c.last
  have e : Flood.keys (ks.map fun x => (x, (none : Option Cl))) = ks := by
    unfold Flood.keys
    rw [List.map_map]
    exact List.map_id' _
  have z := Flood.closed (S := fun x => x ∈ firstL R C h) (O := O) (N := fun x y => y ∈ nearL R C x.1 x.2) (L := ks.map fun x => (x, (none : Option Cl))) (fun x h1 h2 => by rw [e]; exact s.start x h1 h2) (fun x h1 y h2 h3 => by rw [e] at h1 ⊢; exact s.step x h1 y h2 h3) ps p h1 h2 (fun x hx => k x hx (c.own x hx)) c.link q (List.mem_of_getLast? h3)
  rw [e] at z
  rw [s.no q z] at h4
  cases h4
theorem not_both_shut {R C : Nat} {O1 O2 : Cl → Prop} {h : Int} {k1 k2 : List Cl} (n : h ≠ 1) (hR : 0 < R) (hC : 0 < C) (s1 : Shut R C O1 1 k1) (s2 : Shut R C O2 h k2) (i1 : ∀ p ∈ k1, inB R C p.1 p.2) (i2 : ∀ p ∈ k2, inB R C p.1 p.2)
    (ex : ∀ p, inB R C p.1 p.2 → (O2 p ↔ ¬ O1 p)) : False := by
  have dec : ∀ p : Cl, Decidable (O1 p) := fun p => Classical.propDecidable _
  let cell (r c : Nat) : Cl := ((r : Int), (c : Int))
  have hb : ∀ r c, r < R → c < C → inB R C (cell r c).1 (cell r c).2 := fun r c h1 h2 => by
    show inB R C (r : Int) (c : Int)
    unfold inB
    omega
  have bc : ∀ r c, inB R C (cell r c).1 (cell r c).2 → r < R ∧ c < C := fun r c h => by
    have h : inB R C (r : Int) (c : Int) := h
    unfold inB at h
    omega
  have st : ∀ (O : Cl → Prop) (h : Int) (k : List Cl), Shut R C O h k → (∀ p ∈ k, inB R C p.1 p.2) → ∀ p q : Cl, inB R C p.1 p.2 → inB R C q.1 q.2 → Hex.adj p q → O p → O q → (p ∈ k ↔ q ∈ k) := fun O h k s i p q hp hq ha op oq =>
    ⟨fun m => s.step p m q (mem_near.mpr ⟨hq, ha⟩) oq, fun m => s.step q m p (mem_near.mpr ⟨hp, adj_symm ha⟩) op⟩
  have hh : ∀ r c, Hex.adj (cell r c) (cell r (c + 1)) := fun r c => Hex.adj_iff.mpr (.inr (.inr (.inr (.inl ⟨rfl, by show ((c + 1 : Nat) : Int) = (c : Int) + 1; omega⟩))))
  have hv : ∀ r c, Hex.adj (cell r c) (cell (r + 1) c) := fun r c => Hex.adj_iff.mpr (.inr (.inr (.inr (.inr (.inr ⟨by show ((r + 1 : Nat) : Int) = (r : Int) + 1; omega, rfl⟩)))))
  have hd : ∀ r c, Hex.adj (cell r (c + 1)) (cell (r + 1) c) := fun r c => Hex.adj_iff.mpr (.inr (.inr (.inr (.inr (.inl ⟨by show ((r + 1 : Nat) : Int) = (r : Int) + 1; omega, by show (c : Int) = ((c + 1 : Nat) : Int) - 1; omega⟩)))))
  have L : Hex.Lab R C (fun r c => decide (O1 (cell r c) ∧ r < R ∧ c < C)) (fun r c => decide (cell r c ∈ k1)) (fun r c => decide (cell r c ∈ k2)) := by
    have b2 : ∀ {a b : Prop} [Decidable a] [Decidable b], (a ↔ b) → decide a = decide b := fun h => by simp [h]
    refine ⟨fun r c h => ?_, fun r c h => ?_, fun r c h1 h2 h3 h4 => b2 ?_, fun r c h1 h2 h3 h4 => b2 ?_, fun r c h1 h2 h3 h4 => b2 ?_, fun r c h1 h2 h3 h4 => b2 ?_, fun r c h1 h2 h3 h4 => b2 ?_, fun r c h1 h2 h3 h4 => b2 ?_, fun r h1 h2 => ?_, fun c h1 h2 => ?_⟩
    · have m := of_decide_eq_true h
      exact decide_eq_true ⟨s1.own _ m, bc r c (i1 _ m)⟩
    · have m := of_decide_eq_true h
      exact decide_eq_false fun z => (ex _ (i2 _ m)).mp (s2.own _ m) z.1
    · exact st O1 1 k1 s1 i1 _ _ (hb _ _ h1 (by omega)) (hb _ _ h1 h2) (hh r c) (of_decide_eq_true h3).1 (of_decide_eq_true h4).1
    · exact st O1 1 k1 s1 i1 _ _ (hb _ _ (by omega) h2) (hb _ _ h1 h2) (hv r c) (of_decide_eq_true h3).1 (of_decide_eq_true h4).1
    · exact st O1 1 k1 s1 i1 _ _ (hb _ _ (by omega) h2) (hb _ _ h1 (by omega)) (hd r c) (of_decide_eq_true h3).1 (of_decide_eq_true h4).1
    · exact st O2 h k2 s2 i2 _ _ (hb _ _ h1 (by omega)) (hb _ _ h1 h2) (hh r c) ((ex _ (hb _ _ h1 (by omega))).mpr fun z => of_decide_eq_false h3 ⟨z, h1, by omega⟩) ((ex _ (hb _ _ h1 h2)).mpr fun z => of_decide_eq_false h4 ⟨z, h1, h2⟩)
    · exact st O2 h k2 s2 i2 _ _ (hb _ _ (by omega) h2) (hb _ _ h1 h2) (hv r c) ((ex _ (hb _ _ (by omega) h2)).mpr fun z => of_decide_eq_false h3 ⟨z, by omega, h2⟩) ((ex _ (hb _ _ h1 h2)).mpr fun z => of_decide_eq_false h4 ⟨z, h1, h2⟩)
    · exact st O2 h k2 s2 i2 _ _ (hb _ _ (by omega) h2) (hb _ _ h1 (by omega)) (hd r c) ((ex _ (hb _ _ (by omega) h2)).mpr fun z => of_decide_eq_false h3 ⟨z, by omega, h2⟩) ((ex _ (hb _ _ h1 (by omega))).mpr fun z => of_decide_eq_false h4 ⟨z, h1, by omega⟩)
    · exact decide_eq_true (s1.start _ (mem_first1.mpr ⟨by show (0 : Int) ≤ (r : Int); omega, by show (r : Int) < R; omega, rfl⟩) (of_decide_eq_true h2).1)
    · exact decide_eq_true (s2.start _ ((mem_first2 n).mpr ⟨by show (0 : Int) ≤ (c : Int); omega, by show (c : Int) < C; omega, rfl⟩) ((ex _ (hb _ _ hR h1)).mpr fun z => of_decide_eq_false h2 ⟨z, hR, h1⟩))
  rcases Hex.some_joins L hR hC with ⟨r, hr, m⟩ | ⟨c, hc, m⟩
  · have m := of_decide_eq_true m
    have z := s1.no _ m
    rw [onLast1.mpr (by show ((C - 1 : Nat) : Int) = (C : Int) - 1; omega)] at z
    cases z
  · have m := of_decide_eq_true m
    have z := s2.no _ m
    rw [(onLast2 n).mpr (by show ((R - 1 : Nat) : Int) = (R : Int) - 1; omega)] at z
    cases z
theorem chain_of_way {R C : Nat} {O : Cl → Prop} {h : Int} {L : List (Cl × Option Cl)} {c : Cl} {w : List Cl} (hR : 0 < R) (hC : 0 < C) (W : Flood.Way (fun x => x ∈ firstL R C h) O (fun x y => y ∈ nearL R C x.1 x.2) L c w) (hi : ∀ p, O p → inB R C p.1 p.2) (hl : onLast R C h c.1 c.2 = true) : IsChain R C O h w.reverse := by
  refine ⟨List.pairwise_reverse.mpr (W.nd.imp fun h => Ne.symm h), fun p hp => hi p (W.own p (List.mem_reverse.mp hp)), fun p hp => W.own p (List.mem_reverse.mp hp), fun i p q h1 h2 => ?_, ?_, ?_⟩
  · have l1 := (List.getElem?_eq_some_iff.mp h1).1
    have l2 := (List.getElem?_eq_some_iff.mp h2).1
    rw [List.length_reverse] at l1 l2
    rw [List.getElem?_reverse l1] at h1
    rw [List.getElem?_reverse l2] at h2
    refine W.link (w.length - 1 - (i + 1)) q p h2 ?_
    rw [show w.length - 1 - (i + 1) + 1 = w.length - 1 - i by omega]
    exact h1
  · have ne : w ≠ [] := fun z => by have := W.head; rw [z] at this; cases this
    refine ⟨w.getLast ne, by rw [List.head?_reverse, List.getLast?_eq_some_getLast ne], W.first _ (List.getLast?_eq_some_getLast ne)⟩
  · exact ⟨c, by rw [List.getLast?_reverse]; exact W.head, hl⟩
theorem nodup_sub_len {α : Type} [DecidableEq α] : ∀ {l m : List α}, l.Nodup → (∀ x ∈ l, x ∈ m) → l.length ≤ m.length
  | [], _, _, _ => Nat.zero_le _
  | a :: l, m, h, k => by
    have h' := List.nodup_cons.mp h
    have e := List.length_erase_of_mem (k a (by simp))
    have z := nodup_sub_len (l := l) (m := m.erase a) h'.2 (fun x hx => (List.mem_erase_of_ne (fun e => h'.1 (by rw [← e]; exact hx))).mpr (k x (List.mem_cons_of_mem _ hx)))
    have p : 0 < m.length := List.length_pos_of_mem (k a (by simp))
    rw [List.length_cons]
    omega
theorem len_in {R C : Nat} {ps : List Cl} (nd : ps.Nodup) (hi : ∀ p ∈ ps, inB R C p.1 p.2) : ps.length ≤ R * C := by
  have z := nodup_sub_len (l := ps) (m := (cellsRC R C).map fun p => ((p.1 : Int), (p.2 : Int))) nd (fun p hp => by
    have h := hi p hp
    unfold inB at h
    refine List.mem_map.mpr ⟨(p.1.toNat, p.2.toNat), mem_cells.mpr ⟨by dsimp only; omega, by dsimp only; omega⟩, ?_⟩
    obtain ⟨a, b⟩ := p
    dsimp only at h ⊢
    rw [Int.toNat_of_nonneg h.1, Int.toNat_of_nonneg h.2.2.1])
  rw [List.length_map, len_cells] at z
  exact z
theorem nd_ix {α : Type} : ∀ {l : List α} {i j : Nat} {x : α}, l.Nodup → l[i]? = some x → l[j]? = some x → i = j
  | [], _, _, _, _, h, _ => by simp at h
  | _ :: _, 0, 0, _, _, _, _ => rfl
  | a :: l, 0, j + 1, x, nd, h1, h2 => by
    simp at h1 h2
    subst h1
    exact absurd (List.mem_of_getElem? h2) (List.nodup_cons.mp nd).1
  | a :: l, i + 1, 0, x, nd, h1, h2 => by
    simp at h1 h2
    subst h2
    exact absurd (List.mem_of_getElem? h1) (List.nodup_cons.mp nd).1
  | a :: l, i + 1, j + 1, x, nd, h1, h2 => by
    simp at h1 h2
    rw [nd_ix (List.nodup_cons.mp nd).2 h1 h2]
theorem nin_take {α : Type} {l : List α} {i : Nat} {x : α} (nd : l.Nodup) (h : l[i]? = some x) : x ∉ l.take i := fun m => by
  obtain ⟨j, hj⟩ := List.mem_iff_getElem?.mp m
  rw [List.getElem?_take] at hj
  by_cases e : j < i
  · rw [if_pos e] at hj
    have := nd_ix nd hj h
    omega
  · rw [if_neg e] at hj
    cases hj
end Bd

set_option maxHeartbeats 4000000
namespace Flood
theorem lk_snoc {α : Type} [DecidableEq α] {L : List (α × Option α)} {c x : α} {o : Option α} (h : c ∉ keys L) : lk (L ++ [(c, o)]) x = if x = c then some o else lk L x := by
  by_cases e : x = c
  · subst e
    rw [if_pos rfl]
    exact lk_new h
  · rw [if_neg e]
    unfold lk
    rw [List.find?_append]
    cases q : L.find? fun p => decide (p.1 = x) with
    | some y => rfl
    | none => simp [Ne.symm e]
theorem Fl.own {α : Type} [DecidableEq α] {S O : α → Prop} {N : α → α → Prop} {L : List (α × Option α)} (F : Fl S O N L) : ∀ c ∈ keys L, O c := by
  induction F with
  | nil => intro c h; simp [keys] at h
  | start _ _ ho _ ih => intro c h; rw [keys_snoc] at h; rcases List.mem_append.mp h with h | h
                         · exact ih c h
                         · rw [List.mem_singleton.mp h]; exact ho
  | step _ _ _ ho _ ih => intro c h; rw [keys_snoc] at h; rcases List.mem_append.mp h with h | h
                          · exact ih c h
                          · rw [List.mem_singleton.mp h]; exact ho
theorem len_keys {α : Type} (L : List (α × Option α)) : (keys L).length = L.length := by unfold keys; rw [List.length_map]
end Flood
namespace Bd
open PySem L2
noncomputable def But (a : Addr) (H H' : Hp) : Prop := ∀ b o, H b = some o → b ≠ a → H' b = some o
theorem But.upd {H : Hp} {a : Addr} {o : HO} : But a H (upd H a o) := fun b u e n => by rw [upd_ne n]; exact e
theorem But.cell {H H' : Hp} {a b : Addr} {r c : Int} {o : HO} (h : But a H H') (ha : H a = some o) (no : ∀ xs, o ≠ .tup xs) (hc : CellAt H b r c) : CellAt H' b r c :=
  h b _ hc fun z => by
    have e : H b = some (.tup [.int r, .int c]) := hc
    rw [z, ha] at e
    exact no _ (Option.some.inj e)
theorem But.cells {H H' : Hp} {a : Addr} {as : List Addr} {cs : List (Int × Int)} {o : HO} (h : But a H H') (ha : H a = some o) (no : ∀ xs, o ≠ .tup xs) (hc : CellsAt H as cs) : CellsAt H' as cs := Paired.mapP hc fun _ _ q => h.cell ha no q
theorem But.lcells {H H' : Hp} {a l : Addr} {cs : List (Int × Int)} {o : HO} (h : But a H H') (ha : H a = some o) (no : ∀ xs, o ≠ .tup xs) (n : l ≠ a) (hc : LCells H l cs) : LCells H' l cs :=
  let ⟨as, h1, h2⟩ := hc; ⟨as, h l _ h1 n, h.cells ha no h2⟩
theorem But.same {H0 H H' : Hp} {a : Addr} (h : But a H H') (s : Same H0 H) (n : H0 a = none) : Same H0 H' := fun b o e => h b o (s b o e) (ne_of_none e n)
theorem But.trans {H H' H'' : Hp} {a : Addr} (h : But a H H') (h' : But a H' H'') : But a H H'' := fun b o e n => h' b o (h b o e n) n
theorem AheadAt.but {H H' : Hp} {a l : Addr} {L : List (Cl × Option Cl)} {o : HO} (h : AheadAt H a L) (k : But l H H') (hl : H l = some o) (no : ∀ xs, o ≠ .tup xs) (n : a ≠ l) : AheadAt H' a L := by
  obtain ⟨kvs, h1, h2, h3⟩ := h
  refine ⟨kvs, k _ _ h1 n, h2, fun r c => ?_⟩
  have q := h3 r c
  cases e : Flood.lk L (r, c) with
  | none => rw [e] at q; exact q
  | some o' =>
    cases o' with
    | none => rw [e] at q; exact q
    | some p =>
      rw [e] at q
      obtain ⟨b, q1, q2⟩ := q
      exact ⟨b, q1, k.cell hl no q2⟩
theorem lk_notin {L : List (Cl × Option Cl)} {p : Cl} (n : p ∉ Flood.keys L) : Flood.lk L p = none := by
  unfold Flood.lk
  rw [Flood.lk_none n]
  rfl
theorem AheadAt.get {H : Hp} {a b : Addr} {L : List (Cl × Option Cl)} {p : Cl} (h : AheadAt H a L) (hc : CellAt H b p.1 p.2) : ∃ o, DGet H a (.ref b) o ∧ o.isSome = decide (p ∈ Flood.keys L) := by
  obtain ⟨kvs, h1, h2, h3⟩ := h
  refine ⟨_, DGet.t (k := keyC p.1 p.2) h1 hc, ?_⟩
  have q := h3 p.1 p.2
  by_cases m : p ∈ Flood.keys L
  · obtain ⟨o, e⟩ := Flood.lk_some m
    rw [decide_eq_true m]
    cases o with
    | none => rw [show ((p.1, p.2) : Cl) = p from rfl, e] at q; rw [q]; rfl
    | some x =>
      rw [show ((p.1, p.2) : Cl) = p from rfl, e] at q
      obtain ⟨b', q1, _⟩ := q
      rw [q1]
      rfl
  · rw [show ((p.1, p.2) : Cl) = p from rfl, lk_notin m] at q
    rw [decide_eq_false m, q]
    rfl
theorem AheadAt.put {H : Hp} {a : Addr} {L : List (Cl × Option Cl)} {p : Cl} {o : Option Cl} {v : V} (h : AheadAt H a L) (n : p ∉ Flood.keys L) (hv : (o = none ∧ v = .non) ∨ ∃ b q, o = some q ∧ v = .ref b ∧ CellAt H b q.1 q.2) :
    ∃ kvs, H a = some (.dT kvs) ∧ kvs.length = L.length ∧ AheadAt (upd H a (.dT (putK kvs (keyC p.1 p.2) v))) a (L ++ [(p, o)]) := by
  obtain ⟨kvs, h1, h2, h3⟩ := h
  have z := h3 p.1 p.2
  rw [show ((p.1, p.2) : Cl) = p from rfl, lk_notin n] at z
  have kp := But.upd (H := H) (a := a) (o := .dT (putK kvs (keyC p.1 p.2) v))
  refine ⟨kvs, h1, h2, putK kvs (keyC p.1 p.2) v, upd_same, by rw [putK_new _ z, List.length_append, List.length_append, h2]; rfl, fun r c => ?_⟩
  rw [Flood.lk_snoc n]
  rw [putK_new _ z, valV_snoc _ _ _ _ z]
  rw [putK_new _ z] at kp
  by_cases e : ((r, c) : Cl) = p
  · subst e
    rw [if_pos rfl, if_pos rfl]
    rcases hv with ⟨rfl, rfl⟩ | ⟨b, q, rfl, rfl, hb⟩
    · rfl
    · exact ⟨b, rfl, kp.cell h1 (fun _ z => nomatch z) hb⟩
  · have e2 : ¬ keyC r c = keyC p.1 p.2 := fun z => e (by obtain ⟨z1, z2⟩ := keyC_inj z; rw [z1, z2])
    rw [if_neg e, if_neg e2]
    have q := h3 r c
    cases e : Flood.lk L (r, c) with
    | none => rw [e] at q; exact q
    | some o' =>
      cases o' with
      | none => rw [e] at q; exact q
      | some p =>
        rw [e] at q
        obtain ⟨b, q1, q2⟩ := q
        exact ⟨b, q1, kp.cell h1 (fun _ z => nomatch z) q2⟩
structure ChInv (R C : Nat) (O : Cl → Prop) (h : Int) (H H2 : Hp) (a l : Addr) (L : List (Cl × Option Cl)) (ws : List Cl) (ex : Cl → Prop) : Prop where
  na : H a = none
  nl : H l = none
  sm : Same H H2
  ah : AheadAt H2 a L
  wl : LCells H2 l ws
  fl : Flood.Fl (fun x => x ∈ firstL R C h) O (fun x y => y ∈ nearL R C x.1 x.2) L
  sub : ∀ p ∈ ws, p ∈ Flood.keys L
  st : ∀ p ∈ firstL R C h, O p → p ∈ Flood.keys L
  cl : ∀ p ∈ Flood.keys L, p ∈ ws ∨ ex p ∨ (onLast R C h p.1 p.2 = false ∧ ∀ q ∈ nearL R C p.1 p.2, O q → q ∈ Flood.keys L)
section
variable {R C : Nat} {O : Cl → Prop} {h : Int} {H H2 H3 : Hp} {a l : Addr} {L : List (Cl × Option Cl)} {ws : List Cl} {ex : Cl → Prop}
theorem ChInv.mono (I : ChInv R C O h H H2 a l L ws ex) (s : Same H2 H3) : ChInv R C O h H H3 a l L ws ex :=
  ⟨I.na, I.nl, I.sm.trans s, I.ah.mono s, I.wl.mono s, I.fl, I.sub, I.st, I.cl⟩
theorem ChInv.nal (I : ChInv R C O h H H2 a l L ws ex) : a ≠ l := by
  obtain ⟨kvs, h1, _⟩ := I.ah
  obtain ⟨as, h2, _⟩ := I.wl
  exact ne_of h1 h2 (fun z => nomatch z)
theorem ChInv.len (I : ChInv R C O h H H2 a l L ws ex) (hi : ∀ p, O p → inB R C p.1 p.2) : L.length ≤ R * C := by
  rw [← Flood.len_keys]
  exact len_in I.fl.nd fun p hp => hi p (I.fl.own p hp)
theorem ChInv.shut (I : ChInv R C O h H H2 a l L [] (fun _ => False)) : Shut R C O h (Flood.keys L) := by
  refine ⟨I.st, fun p hp q hq ho => ?_, fun p hp => ?_, I.fl.own⟩
  · rcases I.cl p hp with z | z | z
    · cases z
    · exact z.elim
    · exact z.2 q hq ho
  · rcases I.cl p hp with z | z | z
    · cases z
    · exact z.elim
    · exact z.1
theorem ChInv.done {c : Cl} (I : ChInv R C O h H H2 a l L ws (fun x => x = c)) (hl : onLast R C h c.1 c.2 = false) (hn : ∀ q ∈ nearL R C c.1 c.2, O q → q ∈ Flood.keys L) : ChInv R C O h H H2 a l L ws (fun _ => False) := by
  refine ⟨I.na, I.nl, I.sm, I.ah, I.wl, I.fl, I.sub, I.st, fun p hp => ?_⟩
  rcases I.cl p hp with z | z | z
  · exact .inl z
  · subst z
    exact .inr (.inr ⟨hl, hn⟩)
  · exact .inr (.inr z)
theorem ChInv.pop {c : Cl} {xs : List V} (I : ChInv R C O h H H2 a l L (ws ++ [c]) (fun _ => False)) (e : H2 l = some (.lst xs)) :
    ∃ b, xs[xs.length - 1]? = some (.ref b) ∧ CellAt (upd H2 l (.lst xs.dropLast)) b c.1 c.2 ∧ ChInv R C O h H (upd H2 l (.lst xs.dropLast)) a l L ws (fun x => x = c) := by
  obtain ⟨as, h1, h2⟩ := I.wl
  have ex : xs = as.map V.ref := by rw [h1] at e; injection Option.some.inj e with e; exact e.symm
  have hl := h2.len
  rw [List.length_append, List.length_singleton] at hl
  have ne : as ≠ [] := fun z => by rw [z] at hl; simp at hl
  have e2 : as = as.dropLast ++ [as.getLast ne] := (List.dropLast_concat_getLast ne).symm
  have kp := But.upd (H := H2) (a := l) (o := .lst xs.dropLast)
  have no : ∀ ys, HO.lst xs ≠ .tup ys := fun _ z => nomatch z
  have sp : ∀ {as : List Addr} {b : Addr} {cs : List Cl} {c : Cl}, CellsAt H2 (as ++ [b]) (cs ++ [c]) → CellsAt H2 as cs ∧ CellAt H2 b c.1 c.2 := by
    intro as
    induction as with
    | nil =>
      intro b cs c h
      cases cs with
      | nil => cases h with | cons q t => exact ⟨.nil, q⟩
      | cons x r =>
        have := h.len
        simp at this
    | cons y as ih =>
      intro b cs c h
      cases cs with
      | nil =>
        have := h.len
        simp at this
      | cons x r =>
        cases h with
        | cons q t =>
          obtain ⟨t1, t2⟩ := ih t
          exact ⟨.cons q t1, t2⟩
  rw [e2] at h2
  obtain ⟨h3, h4⟩ := sp h2
  refine ⟨as.getLast ne, ?_, kp.cell e no h4, I.na, I.nl, kp.same I.sm I.nl, I.ah.but kp e no I.nal, ⟨as.dropLast, by rw [upd_same, ex, List.map_dropLast], kp.cells e no h3⟩, I.fl, fun p hp => I.sub p (List.mem_append_left _ hp), I.st, fun p hp => ?_⟩
  · rw [ex, List.length_map, List.getElem?_map, ← List.getLast?_eq_getElem?, List.getLast?_eq_some_getLast ne]
    rfl
  · rcases I.cl p hp with z | z | z
    · rcases List.mem_append.mp z with z | z
      · exact .inl z
      · exact .inr (.inl (List.mem_singleton.mp z))
    · exact z.elim
    · exact .inr (.inr z)
theorem ChInv.push {c q : Cl} {b t : Addr} {as : List Addr} (I : ChInv R C O h H H2 a l L ws ex) (hb : CellAt H2 b c.1 c.2) (ht : CellAt H2 t q.1 q.2) (hc : c ∈ Flood.keys L) (hq : q ∈ nearL R C c.1 c.2) (ho : O q) (n : q ∉ Flood.keys L) (e : H2 l = some (.lst (as.map V.ref))) (ea : CellsAt H2 as ws) :
    ∃ kvs, H2 a = some (.dT kvs) ∧ kvs.length = L.length ∧ ChInv R C O h H (upd (upd H2 a (.dT (putK kvs (keyC q.1 q.2) (.ref b)))) l (.lst (as.map V.ref ++ [.ref t]))) a l (L ++ [(q, some c)]) (ws ++ [q]) ex ∧
      But l (upd H2 a (.dT (putK kvs (keyC q.1 q.2) (.ref b)))) (upd (upd H2 a (.dT (putK kvs (keyC q.1 q.2) (.ref b)))) l (.lst (as.map V.ref ++ [.ref t]))) ∧ But a H2 (upd H2 a (.dT (putK kvs (keyC q.1 q.2) (.ref b)))) := by
  obtain ⟨kvs, h1, h2, h3⟩ := I.ah.put (o := some c) (v := .ref b) n (.inr ⟨b, c, rfl, rfl, hb⟩)
  have k1 := But.upd (H := H2) (a := a) (o := .dT (putK kvs (keyC q.1 q.2) (.ref b)))
  have k2 := But.upd (H := upd H2 a (.dT (putK kvs (keyC q.1 q.2) (.ref b)))) (a := l) (o := .lst (as.map V.ref ++ [.ref t]))
  have no : ∀ ys, HO.lst (as.map V.ref) ≠ .tup ys := fun _ z => nomatch z
  have nd : ∀ ys, HO.dT kvs ≠ .tup ys := fun _ z => nomatch z
  have el : (upd H2 a (.dT (putK kvs (keyC q.1 q.2) (.ref b)))) l = some (.lst (as.map V.ref)) := k1 l _ e (Ne.symm I.nal)
  refine ⟨kvs, h1, h2, ⟨I.na, I.nl, k2.same (k1.same I.sm I.na) I.nl, h3.but k2 el no I.nal, ⟨as ++ [t], by rw [upd_same, List.map_append]; rfl, ?_⟩, I.fl.step hc hq ho n, fun p hp => ?_, fun p hp hO => ?_, fun p hp => ?_⟩, k2, k1⟩
  · exact k2.cells el no (k1.cells h1 nd (ea.append (.cons ht .nil)))
  · rw [Flood.keys_snoc]
    rcases List.mem_append.mp hp with z | z
    · exact List.mem_append_left _ (I.sub p z)
    · exact List.mem_append_right _ z
  · rw [Flood.keys_snoc]
    exact List.mem_append_left _ (I.st p hp hO)
  · rw [Flood.keys_snoc] at hp ⊢
    rcases List.mem_append.mp hp with z | z
    · rcases I.cl p z with y | y | y
      · exact .inl (List.mem_append_left _ y)
      · exact .inr (.inl y)
      · exact .inr (.inr ⟨y.1, fun q' hq' ho' => List.mem_append_left _ (y.2 q' hq' ho')⟩)
    · exact .inl (List.mem_append_right _ z)
end
noncomputable def fOw (H : Hp) (own : Nat × Nat → Int) (f : Int → Bool) (v : V) : Bool := match cellOf H v with
  | some p => f (own (p.1.toNat, p.2.toNat))
  | none => false
theorem fOw_at {H : Hp} {a : Addr} {r c : Int} {own : Nat × Nat → Int} {f : Int → Bool} (h : CellAt H a r c) : fOw H own f (.ref a) = f (own (r.toNat, c.toNat)) := by
  unfold fOw
  rw [cellOf_at h]
theorem CellsAt.filterO {H : Hp} {own : Nat × Nat → Int} {f : Int → Bool} {as : List Addr} {cs : List Cl} (h : CellsAt H as cs) : CellsAt H (as.filter fun a => fOw H own f (.ref a)) (cs.filter fun p => f (own (p.1.toNat, p.2.toNat))) :=
  Paired.filter (fun _ _ q => fOw_at q) h
theorem first_nd (R C : Nat) (h : Int) : (firstL R C h).Nodup := by
  unfold firstL
  split
  · exact List.Pairwise.map _ (fun a b n e => n (by injection e with e1 _; exact Int.ofNat.inj e1)) List.nodup_range
  · exact List.Pairwise.map _ (fun a b n e => n (by injection e with _ e1; exact Int.ofNat.inj e1)) List.nodup_range
theorem first_len (R C : Nat) (h : Int) (hR : R ≤ 10) (hC : C ≤ 10) : (firstL R C h).length ≤ 10 := by
  unfold firstL
  split <;> rw [List.length_map, List.length_range] <;> assumption
theorem fl_starts {S O : Cl → Prop} {N : Cl → Cl → Prop} : ∀ (i : Nat) (cs : List Cl), cs.Nodup → (∀ c ∈ cs, S c ∧ O c) → Flood.Fl S O N ((cs.take i).map fun c => (c, none))
  | 0, _, _, _ => .nil
  | i + 1, cs, nd, h => by
    rw [List.take_add_one]
    cases e : cs[i]? with
    | none =>
      rw [Option.toList_none, List.append_nil]
      exact fl_starts i cs nd h
    | some c =>
      rw [Option.toList_some, List.map_append]
      have hm := h c (List.mem_of_getElem? e)
      refine .start (fl_starts i cs nd h) hm.1 hm.2 ?_
      unfold Flood.keys
      rw [List.map_map]
      intro z
      obtain ⟨x, hx, rfl⟩ := List.mem_map.mp z
      exact nin_take nd e hx
theorem keys_starts (cs : List Cl) : Flood.keys (cs.map fun c => (c, (none : Option Cl))) = cs := by
  unfold Flood.keys
  rw [List.map_map]
  exact List.map_id' _
noncomputable def ownB (R C : Nat) (own : Nat × Nat → Int) (h : Int) (p : Cl) : Prop := inB R C p.1 p.2 ∧ own (p.1.toNat, p.2.toNat) = h
theorem get_ref {as : List Addr} {i : Nat} {x : V} (h : (as.map V.ref)[i]? = some x) : ∃ b, as[i]? = some b ∧ x = V.ref b := by
  rw [List.getElem?_map] at h
  cases z : as[i]? with
  | none => rw [z] at h; cases h
  | some b => rw [z] at h; exact ⟨b, rfl, (Option.some.inj h).symm⟩
end Bd

set_option maxHeartbeats 4000000
namespace K06
open PySem L2 Bd
inductive spChain (D : Ads) (vs : List V) (H : Hp) (Q : VK) (E : XK) : Prop
  | mk (p d : Addr) (R C : Nat) (own : Nat × Nat → Int) (h : Int) (y'1 : vs = [.ref p, .int h]) (y'2 : 0 < R) (y'3 : 0 < C) (y'4 : R ≤ 10) (y'5 : C ≤ 10) (y'6 : BoardAt D.CB H p d R C own) (y'7 : (¬ (h = 1 ∨ h = 2) → E (.ref D.NH) none H)) (y'8 : (h = 1 ∨ h = 2 → (∀ l H' ps, Same H H' → H l = none → LCells H' l ps → IsChain R C (ownB R C own h) h ps → Q (.ref l) H') ∧ (∀ H' ks, Same H H' → Shut R C (ownB R C own h) h ks → Q .non H'))) : spChain D vs H Q E
section
variable {P : Program} {w : World} {K : PySem.W.Frag} {mg : Str → Option Value} {base : Heap} {D : Ads}
theorem scChain : FnScope ["board", "hand", "starts", "ahead", "cell", "waiting", "other"] ["board", "hand"] (defScope sChain) := ⟨rfl, rfl, rfl, by decide +kernel, rfl, by decide +kernel, by decide +kernel⟩
theorem ok_chain {f fH fF fO fL fW fN : Addr} {fd fdH fdF fdO fdL fdW fdN : FuncData} (F : Fun K "chain" "chain" sChain f fd) (T : Txt K mg D)
    (GH : FnOk P w K mg base (CX1 P w) 1 fH fdH ["hand"] (spHand D)) (kH : PySem.W.keepIn K (.ref fH) = true) (bH : Binds K fdH ["hand"] []) (mH : mg "check_hand" = some (.ref fH))
    (GF : FnOk P w K mg base (CX1 P w) 2 fF fdF ["board", "hand"] (spFirst D)) (kF : PySem.W.keepIn K (.ref fF) = true) (bF : Binds K fdF ["board", "hand"] []) (mF : mg "first_side" = some (.ref fF))
    (GO : FnOk P w K mg base (CX1 P w) 2 fO fdO ["self", "cell"] (spOwner D)) (bO : Binds K fdO ["self", "cell"] []) (mO : Meth K D.CB "owner" fO)
    (GL : FnOk P w K mg base (CX1 P w) 2 fL fdL ["board", "hand", "cell"] (spLast D)) (kL : PySem.W.keepIn K (.ref fL) = true) (bL : Binds K fdL ["board", "hand", "cell"] []) (mL : mg "on_last_side" = some (.ref fL))
    (GW : FnOk P w K mg base (CX1 P w) 1 fW fdW ["cell", "ahead"] spWay) (kW : PySem.W.keepIn K (.ref fW) = true) (bW : Binds K fdW ["cell", "ahead"] []) (mW : mg "way_to" = some (.ref fW))
    (GN : FnOk P w K mg base (CX1 P w) 2 fN fdN ["self", "cell"] (spNear D)) (bN : Binds K fdN ["self", "cell"] []) (mN : Meth K D.CB "near" fN) :
    FnOk P w K mg base (CX1 P w) 4 f fd ["board", "hand"] (spChain D) := by
  refine F.ok1 scChain (fun vs H Q E h => ?_) (fun cdv A outer s H vs Q E hr h => ?_)
  · refine L2.hide fun gQ gH => ?_
    obtain ⟨p, d, R, C, own, h, rfl, _⟩ := h
    refine gH ?_
    rfl
  · refine L2.hide fun gQ gH => ?_
    obtain ⟨p, d, R, C, own, h, rfl, hR0, hC0, hR, hC, B, kx, k⟩ := h
    refine gH ?_
    have hRC : R * C ≤ 100 := Nat.mul_le_mul hR hC
    have hO : ∀ q, ownB R C own h q → inB R C q.1 q.2 := fun q z => z.1
    obtain ⟨dx, hp⟩ := B.ob
    have hu := hu_of hr
    have hr1 : Room 1 _ := hr.mono (by decide)
    have hr2 : Room 2 _ := hr.mono (by decide)
    refine ⟨_, pss_cons (ps_expr (pe_call GH hr1 rfl mH kH bH .nil pass1 (pa_cons (pv 1) pa_nil)))
      (PSs.nox (pss_cons (ps_setComp (i := 2) (hN := scChain.nd) (hy := rfl) (hl := rfl) (hsw := by with_unfolding_all rfl) (fr := ["hand", "board"]) (js := [1, 0]) (tif := tTest (tOp rEq (tMeth D.CB "owner" (spOwner D) [] E0 (tVar 2) (tCons (tVar 0) tNil)) (tVar 1))) (te := tVar 0)
          (by exact ⟨rfl, rfl, rfl, rfl, by decide +kernel, by decide +kernel, by decide +kernel, by with_unfolding_all rfl, rfl, by decide +kernel⟩) rfl (pi_list (pe_call GF hr2 rfl mF kF bF .nil passN (pa_cons (pv 0) (pa_cons (pv 1) pa_nil))))
          (by intro _ _ _ _; exact pf_one (pt_cmpR op_eq (pe_meth (pv 2) T.cl mO GO hr2 bO .nil passN (pa_cons (pv 0) pa_nil)) (pv 1) (nomark _))) (by intro _ _ _ _; exact pv 0))
      (pss_cons (ps_set (i := 3) scChain.nd rfl (Or.inl rfl) pe_dnewT)
      (pss_cons (ps_for PassesOwn.never rfl (pi_list (pv 2)) (pg_name (i := 4) scChain.nd rfl (Or.inl rfl)) (pss_one (ps_dput hu (pv 3) (pv 4) pe_non rfl)))
      (pss_cons (ps_set (i := 5) scChain.nd rfl (Or.inl rfl) (pv 2))
      (pss_cons (ps_while PassesOwn.never (pt_cmpR op_gt (pe_callB call_len_seq rfl T.len PySem.boot_len (pa_cons (pv 5) pa_nil)) pe_int (nomark _))
        (pss_cons (ps_set (i := 4) scChain.nd rfl (Or.inl rfl) (pe_bm0 PySem.F.plainAttrs_list PySem.F.slot_list_pop PySem.F.type_list_pop mt_pop (pv 5)))
        (pss_cons (ps_if (pt_val (pe_call GL hr2 rfl mL kL bL .nil passN (pa_cons (pv 0) (pa_cons (pv 1) (pa_cons (pv 4) pa_nil))))) (pss_one (ps_ret (pe_call GW hr1 rfl mW kW bW .nil passN (pa_cons (pv 4) (pa_cons (pv 3) pa_nil))))) pss_nil)
        (pss_one (ps_for PassesOwn.never rfl (pi_list (pe_meth (pv 0) T.cl mN GN hr2 bN .nil passN (pa_cons (pv 4) pa_nil))) (pg_name (i := 6) scChain.nd rfl (Or.inl rfl))
          (pss_one (ps_if (PW.pt (pw_and (pt_cmp (pc_dnotin hu (pv 6) (pv 3))) (pw_and1 (pt_cmpR op_eq (pe_meth (pv 0) T.cl mO GO hr2 bO .nil passN (pa_cons (pv 6) pa_nil)) (pv 1) (nomark _)))))
            (pss_cons (ps_dput hu (pv 3) (pv 6) (pv 4) rfl) (pss_one (ps_expr (pe_bm PySem.F.plainAttrs_list PySem.F.slot_list_append PySem.F.type_list_append mt_append (pv 5) (pa_cons (pv 6) pa_nil))))) pss_nil)))))))
      (pss_one (ps_ret pe_non)))))))), ?_⟩
    refine seqG fun U hU => ?_
    refine ⟨_, rfl, h, rfl, fun hh => ?_, kx⟩
    obtain ⟨kc, kn⟩ := k hh
    refine hU _ _ ?_
    refine seqG fun U hU => ?_
    refine ⟨_, rfl, _, rfl, p, d, R, C, own, h, rfl, hR, hC, B, fun l0 H1 s1 n0 hl0 => ?_⟩
    refine L2.hide fun gQ gH => ?_
    obtain ⟨as0, e0, c0⟩ := hl0
    refine gH ?_
    have B1 := B.mono s1
    have hz0 : as0.length ≤ 10 := by rw [c0.len]; exact first_len R C h hR hC
    refine ⟨l0, rfl, ⟨_, SqL.of e0⟩, fun l nl => ?_⟩
    refine comp_listF (xs := as0.map V.ref) (fOw H1 own fun x => decide (x = h)) (fun v => v) (SqL.of e0) nl (by rw [List.length_map]; exact Nat.le_of_lt (small1000 (by omega))) (fun x hx ys Qb qb => ?_) (fun x hx _ ys Qv qv => ⟨_, rfl, qv⟩) ?_
    · refine L2.hide fun gQ gH => ?_
      obtain ⟨b, hb, rfl⟩ := List.mem_map.mp hx
      refine gH ?_
      refine L2.hide fun gQ gH => ?_
      obtain ⟨pc, hpc, hc⟩ := c0.mem hb
      refine gH ?_
      have sm : Same H1 (upd H1 l (.lst ys)) := Same.upd nl
      have B' := B1.mono sm
      obtain ⟨dx', h1⟩ := B'.ob
      refine ⟨_, rfl, p, dx', _, rfl, h1, bflds_no _ _ _ (by decide +kernel) (by decide +kernel) (by decide +kernel), _, rfl, p, d, b, R, C, own, pc.1, pc.2, rfl, B', hc.mono sm, fun z => absurd (first_in hR0 hC0 hpc) z, fun _ => ⟨_, rfl, rfl, _, rfl, ?_⟩⟩
      rw [fOw_at hc] at qb
      simpa using qb
    · have s2 : Same H1 (upd H1 l (.lst (((as0.map V.ref).filter (fOw H1 own fun x => decide (x = h))).map fun v => v))) := Same.upd nl
      have nlH : H l = none := s1.free nl
      have eS : (((as0.map V.ref).filter (fOw H1 own fun x => decide (x = h))).map fun v => v) = (as0.filter fun a => fOw H1 own (fun x => decide (x = h)) (.ref a)).map V.ref := by
        rw [List.map_id', List.filter_map]
        rfl
      generalize eH : upd H1 l (.lst (((as0.map V.ref).filter (fOw H1 own fun x => decide (x = h))).map fun v => v)) = H2 at s2 ⊢
      have l2 : H2 l = some (.lst ((as0.filter fun a => fOw H1 own (fun x => decide (x = h)) (.ref a)).map V.ref)) := by rw [← eH, upd_same, eS]
      have c2 := (c0.filterO (own := own) (f := fun x => decide (x = h))).mono s2
      generalize (as0.filter fun a => fOw H1 own (fun x => decide (x = h)) (.ref a)) = as at l2 c2
      have nd : ((firstL R C h).filter fun p => decide (own (p.1.toNat, p.2.toNat) = h)).Nodup := (first_nd R C h).filter _
      have hm : ∀ q, q ∈ (firstL R C h).filter (fun p => decide (own (p.1.toNat, p.2.toNat) = h)) ↔ q ∈ firstL R C h ∧ ownB R C own h q := fun q => by
        rw [List.mem_filter, decide_eq_true_eq]
        exact ⟨fun z => ⟨z.1, first_in hR0 hC0 z.1, z.2⟩, fun z => ⟨z.1, z.2.2⟩⟩
      have hlen : ((firstL R C h).filter fun p => decide (own (p.1.toNat, p.2.toNat) = h)).length ≤ 10 := Nat.le_trans (List.length_filter_le _ _) (first_len R C h hR hC)
      generalize (firstL R C h).filter (fun p => decide (own (p.1.toNat, p.2.toNat) = h)) = cs at c2 nd hm hlen
      have s02 : Same H H2 := s1.trans s2
      clear eS eH s2
      refine hU [some (.ref p), some (.int h), some (.ref l), none, none, none, none] _ ?_
      refine seqG fun U hU => ?_
      refine fun a na => ?_
      have naH : H a = none := s02.free na
      have nla : l ≠ a := ne_of_none l2 na
      refine hU [some (.ref p), some (.int h), some (.ref l), some (.ref a), none, none, none] _ ?_
      refine seqG fun U hU => ?_
      refine ⟨_, rfl, l, rfl, ⟨_, SqL.of (by rw [upd_ne nla]; exact l2)⟩, for_list (K := K) (a := l) (xs := as.map V.ref)
        (fun i σ H3 => Ex1 fun v4 => An5 (σ = [some (.ref p), some (.int h), some (.ref l), some (.ref a), v4, none, none]) (Same H H3) (H3 l = some (.lst (as.map V.ref))) (CellsAt H3 as cs) (AheadAt H3 a ((cs.take i).map fun c => (c, none))))
        ?_ (fun i σ H3 _ gz => SqL.of (by obtain ⟨_, _, _, e, _⟩ := gz; exact e)) ?_ ?_⟩
      · refine ⟨none, rfl, s02.trans (Same.upd na), by rw [upd_ne nla]; exact l2, c2.mono (Same.upd na), [], upd_same, rfl, fun r c => rfl⟩
      · intro i x σ H3 hx gZ
        refine L2.hide fun gQ gH => ?_
        obtain ⟨v4, rfl, s3, l3, c3, a3⟩ := gZ
        refine gH ?_
        obtain ⟨b, hb, rfl⟩ : ∃ b, as[i]? = some b ∧ x = V.ref b := by
          rw [List.getElem?_map] at hx
          cases q : as[i]? with
          | none => rw [q] at hx; cases hx
          | some b => rw [q] at hx; exact ⟨b, rfl, (Option.some.inj hx).symm⟩
        refine L2.hide fun gQ gH => ?_
        obtain ⟨q, hq, hc⟩ := c3.get hb
        refine gH ?_
        have nin : q ∉ Flood.keys ((cs.take i).map fun c => (c, (none : Option Cl))) := by
          rw [keys_starts]
          intro z
          exact nin_take nd hq z
        refine L2.hide fun gQ gH => ?_
        obtain ⟨kvs, k1, k2, k3⟩ := a3.put (o := none) (v := .non) nin (.inl ⟨rfl, rfl⟩)
        refine gH ?_
        have kp := But.upd (H := H3) (a := a) (o := .dT (putK kvs (keyC q.1 q.2) .non))
        have hk : kvs.length ≤ 10 := by rw [k2, List.length_map, List.length_take]; omega
        dsimp only [gName]
        refine bodyN fun D' nx => ?_
        refine ⟨_, rfl, _, rfl, a, _, rfl, DPut.t (k := keyC q.1 q.2) k1 hc (small1000 (by omega)), ?_⟩
        refine nx _ _ ?_
        refine ⟨_, rfl, kp.same s3 naH, kp _ _ l3 nla, kp.cells k1 (fun _ z => nomatch z) c3, ?_⟩
        rw [List.take_add_one, hq, Option.toList_some, List.map_append]
        exact k3
      · intro σ H3 gZ
        refine L2.hide fun gQ gH => ?_
        obtain ⟨v4, rfl, s3, l3, c3, a3⟩ := gZ
        refine gH ?_
        have e1 : as.length = cs.length := c3.len
        rw [List.length_map, e1, List.take_length] at a3
        have I0 : ChInv R C (ownB R C own h) h H H3 a l (cs.map fun c => (c, none)) cs (fun _ => False) := by
          refine ⟨naH, nlH, s3, a3, ⟨as, l3, c3⟩, ?_, fun q hq => by rw [keys_starts]; exact hq, fun q hq ho => by rw [keys_starts]; exact (hm q).mpr ⟨hq, ho⟩, fun q hq => by rw [keys_starts] at hq; exact .inl hq⟩
          have := fl_starts (S := fun x => x ∈ firstL R C h) (O := ownB R C own h) (N := fun x y => y ∈ nearL R C x.1 x.2) cs.length cs nd (fun c hc => (hm c).mp hc)
          rw [List.take_length] at this
          exact this
        refine hU _ _ ?_
        refine seqG fun U hU => ?_
        refine ⟨_, rfl, ?_⟩
        refine hU [some (.ref p), some (.int h), some (.ref l), some (.ref a), v4, some (.ref l), none] _ ?_
        refine seqG fun U hU => ?_
        refine ⟨fun m σ H4 => Ex4 fun L ws v4 v6 => An4 (σ = [some (.ref p), some (.int h), some (.ref l), some (.ref a), v4, some (.ref l), v6]) (ChInv R C (ownB R C own h) h H H4 a l L ws (fun _ => False)) (ws.length ≤ L.length) (m = 2 * (100 - L.length) + ws.length), ⟨_, _, _, _, _, rfl, I0, by rw [List.length_map]; exact Nat.le_refl _, rfl⟩, ?_⟩
        intro m σ H4 gZ
        refine L2.hide fun gQ gH => ?_
        obtain ⟨L, ws, v4, v6, rfl, I, hwl, rfl⟩ := gZ
        refine gH ?_
        have B4 := B.mono I.sm
        have hL := Nat.le_trans (I.len hO) hRC
        have hws := I.wl
        refine L2.hide fun gQ gH => ?_
        obtain ⟨as4, l4, c4⟩ := hws
        refine gH ?_
        refine ⟨_, rfl, l, _, rfl, .inl (SqL.of l4), _, _, rfl, rfl, _, rfl, ite2 (fun e => ?_) (fun e => ?_)⟩
        · have ne : ws ≠ [] := fun z => by
            have := c4.len
            rw [z] at this
            simp [this] at e
          refine L2.hide fun gQ gH => ?_
          obtain ⟨ws', c, rfl⟩ : ∃ ws' c, ws = ws' ++ [c] := ⟨ws.dropLast, ws.getLast ne, (List.dropLast_concat_getLast ne).symm⟩
          refine gH ?_
          rw [List.length_append, List.length_singleton] at hwl ⊢
          refine L2.hide fun gQ gH => ?_
          obtain ⟨b, g1, g2, I5⟩ := I.pop l4
          refine gH ?_
          have hck : c ∈ Flood.keys L := I.sub c (List.mem_append_right _ (List.mem_singleton.mpr rfl))
          have hci := hO c (I.fl.own c hck)
          refine ⟨fun σ' H' => Ex4 fun L1 ws1 v4 v6 => An4 (σ' = [some (.ref p), some (.int h), some (.ref l), some (.ref a), v4, some (.ref l), v6]) (ChInv R C (ownB R C own h) h H H' a l L1 ws1 (fun _ => False)) (ws1.length ≤ L1.length) (2 * (100 - L1.length) + ws1.length < 2 * (100 - L.length) + (ws'.length + 1)),
            fun σ' H' gz => by obtain ⟨L1, ws1, v4, v6, e1, I1, wl1, lt⟩ := gz; exact ⟨_, lt, L1, ws1, v4, v6, e1, I1, wl1, rfl⟩, ?_⟩
          refine bodyR fun D' nx rt => ?_
          refine seqG fun U hU => ?_
          refine ⟨_, rfl, .inl ⟨rfl, _, SqL.of l4⟩, l, _, _, rfl, rfl, l4, g1, ?_⟩
          generalize upd H4 l (.lst (as4.map V.ref).dropLast) = H5 at g2 I5 ⊢
          have B5 := B.mono I5.sm
          refine hU [some (.ref p), some (.int h), some (.ref l), some (.ref a), some (.ref b), some (.ref l), v6] _ ?_
          refine seqG fun U hU => ?_
          refine ⟨_, rfl, _, rfl, _, rfl, p, d, b, R, C, own, h, c.1, c.2, rfl, B5, g2, _, rfl, ite2 (fun e6 => ?_) (fun e6 => ?_)⟩
          · obtain ⟨w, W⟩ := I5.fl.way c hck
            exact ⟨_, rfl, _, rfl, b, a, c.1, c.2, L, w, rfl, I5.ah, g2, W.back, Nat.le_trans (len_in W.nd fun x hx => hO x (W.own x hx)) hRC, fun l' H' s' n' hl' => rt _ _ (kc l' H' w.reverse (I5.sm.trans s') (I5.sm.free n') hl' (chain_of_way hR0 hC0 W hO e6))⟩
          · have e5 : onLast R C h c.1 c.2 = false := by simpa using e6
            obtain ⟨dx5, hp5⟩ := B5.ob
            refine hU _ _ ?_
            refine ⟨_, rfl, p, dx5, _, rfl, hp5, bflds_no _ _ _ (by decide +kernel) (by decide +kernel) (by decide +kernel), _, rfl, p, d, b, R, C, own, c.1, c.2, rfl, B5, g2, fun _ ln H6 s6 n6 hln => ?_, fun z => absurd hci z⟩
            refine L2.hide fun gQ gH => ?_
            obtain ⟨asn, en, cn⟩ := hln
            refine gH ?_
            have nll : ln ≠ l := by
              refine L2.hide fun gQ gH => ?_
              obtain ⟨as5, l5, _⟩ := I5.wl
              refine gH ?_
              exact Ne.symm (ne_of_none l5 n6)
            have nla' : ln ≠ a := by
              refine L2.hide fun gQ gH => ?_
              obtain ⟨kvs5, l5, _⟩ := I5.ah
              refine gH ?_
              exact Ne.symm (ne_of_none l5 n6)
            refine ⟨ln, rfl, ⟨_, SqL.of en⟩, for_list (K := K) (a := ln) (xs := asn.map V.ref)
              (fun i σ H7 => Ex3 fun L1 ws1 v6 => An8 (σ = [some (.ref p), some (.int h), some (.ref l), some (.ref a), some (.ref b), some (.ref l), v6]) (ChInv R C (ownB R C own h) h H H7 a l L1 ws1 (fun x => x = c)) ((ws1.length ≤ L1.length ∧ 2 * (100 - L1.length) + ws1.length ≤ 2 * (100 - L.length) + ws'.length)) (c ∈ Flood.keys L1) (CellAt H7 b c.1 c.2) (H7 ln = some (.lst (asn.map V.ref))) (CellsAt H7 asn (nearL R C c.1 c.2)) (∀ q ∈ (nearL R C c.1 c.2).take i, ownB R C own h q → q ∈ Flood.keys L1))
              ?_ (fun i σ H7 _ gz => SqL.of (by obtain ⟨_, _, _, _, _, _, _, _, e, _⟩ := gz; exact e)) ?_ ?_⟩
            · exact ⟨L, ws', v6, rfl, I5.mono s6, ⟨by omega, Nat.le_refl _⟩, hck, g2.mono s6, en, cn, fun q hq => by simp at hq⟩
            · intro i x σ H7 hx gZ
              refine L2.hide fun gQ gH => ?_
              obtain ⟨L1, ws1, v6', rfl, I7, ⟨wl7, lt7⟩, ck7, b7, ln7, cn7, hn7⟩ := gZ
              refine gH ?_
              refine L2.hide fun gQ gH => ?_
              obtain ⟨t, ht, rfl⟩ := get_ref hx
              refine gH ?_
              refine L2.hide fun gQ gH => ?_
              obtain ⟨q, hq, hc7⟩ := cn7.get ht
              refine gH ?_
              have hqn : q ∈ nearL R C c.1 c.2 := List.mem_of_getElem? hq
              have hqi : inB R C q.1 q.2 := (mem_near.mp hqn).1
              have B7 := B.mono I7.sm
              obtain ⟨dx7, hp7⟩ := B7.ob
              refine L2.hide fun gQ gH => ?_
              obtain ⟨o7, dg, isS⟩ := I7.ah.get (p := q) hc7
              refine gH ?_
              have et : (nearL R C c.1 c.2).take (i + 1) = (nearL R C c.1 c.2).take i ++ [q] := by rw [List.take_add_one, hq]; rfl
              have stay : (ownB R C own h q → q ∈ Flood.keys L1) → ∀ q' ∈ (nearL R C c.1 c.2).take (i + 1), ownB R C own h q' → q' ∈ Flood.keys L1 := fun z q' hq' ho => by
                rw [et] at hq'
                rcases List.mem_append.mp hq' with y | y
                · exact hn7 q' y ho
                · rw [List.mem_singleton.mp y] at ho ⊢
                  exact z ho
              dsimp only [gName]
              refine bodyN fun D' nx => ?_
              refine ⟨_, rfl, _, rfl, a, o7, rfl, dg, _, rfl, ite2 (fun e7 => ?_) (fun e7 => ?_)⟩
              · have nin : q ∉ Flood.keys L1 := by rw [isS] at e7; simpa using e7
                refine ⟨_, rfl, p, dx7, _, rfl, hp7, bflds_no _ _ _ (by decide +kernel) (by decide +kernel) (by decide +kernel), _, rfl, p, d, t, R, C, own, q.1, q.2, rfl, B7, hc7, fun z => absurd hqi z, fun _ => ⟨_, rfl, rfl, _, rfl, ite2 (fun e8 => ?_) (fun e8 => ?_)⟩⟩
                · have ho : ownB R C own h q := ⟨hqi, by simpa using e8⟩
                  refine L2.hide fun gQ gH => ?_
                  obtain ⟨as7, l7, c7⟩ := I7.wl
                  refine gH ?_
                  refine L2.hide fun gQ gH => ?_
                  obtain ⟨kvs, k1, k2, I8, kb2, kb1⟩ := I7.push b7 hc7 ck7 hqn ho nin l7 c7
                  refine gH ?_
                  have hL7 := Nat.le_trans (I7.len hO) hRC
                  have hL8 := Nat.le_trans (I8.len hO) hRC
                  rw [List.length_append, List.length_singleton] at hL8
                  have hz7 : as7.length ≤ 100 := by rw [c7.len]; omega
                  have l7' := kb1 _ _ l7 (Ne.symm I7.nal)
                  refine seqG fun U hU => ?_
                  refine ⟨_, rfl, _, rfl, _, rfl, a, _, rfl, DPut.t (k := keyC q.1 q.2) k1 hc7 (small1000 (by omega)), ?_⟩
                  refine hU _ _ ?_
                  refine ⟨_, rfl, .inl ⟨rfl, _, SqL.of l7'⟩, _, rfl, l, _, _, rfl, rfl, l7', (by rw [List.length_map]; exact small1000 (by omega)), ?_⟩
                  have no1 : ∀ ys, HO.dT kvs ≠ .tup ys := fun _ z => nomatch z
                  have no2 : ∀ ys, HO.lst (as7.map V.ref) ≠ .tup ys := fun _ z => nomatch z
                  refine nx _ _ ?_
                  refine ⟨L1 ++ [(q, some c)], ws1 ++ [q], _, rfl, I8, ?_, ?_, kb2.cell l7' no2 (kb1.cell k1 no1 b7), kb2 _ _ (kb1 _ _ ln7 nla') nll, kb2.cells l7' no2 (kb1.cells k1 no1 cn7), fun q' hq' ho' => ?_⟩
                  · rw [List.length_append, List.length_append, List.length_singleton, List.length_singleton]
                    omega
                  · rw [Flood.keys_snoc]
                    exact List.mem_append_left _ ck7
                  · rw [Flood.keys_snoc]
                    rw [et] at hq'
                    rcases List.mem_append.mp hq' with y | y
                    · exact List.mem_append_left _ (hn7 q' y ho')
                    · exact List.mem_append_right _ y
                · have e9 : ¬ own (q.1.toNat, q.2.toNat) = h := by simpa using e8
                  exact nx _ _ ⟨L1, ws1, _, rfl, I7, ⟨wl7, lt7⟩, ck7, b7, ln7, cn7, stay fun z => absurd z.2 e9⟩
              · have yin : q ∈ Flood.keys L1 := by rw [isS] at e7; simpa using e7
                exact iteF (nx _ _ ⟨L1, ws1, _, rfl, I7, ⟨wl7, lt7⟩, ck7, b7, ln7, cn7, stay fun _ => yin⟩)
            · intro σ H7 gZ
              refine L2.hide fun gQ gH => ?_
              obtain ⟨L1, ws1, v6', rfl, I7, ⟨wl7, lt7⟩, ck7, b7, ln7, cn7, hn7⟩ := gZ
              refine gH ?_
              refine nx _ _ ⟨L1, ws1, _, _, rfl, I7.done e5 (fun q hq ho => hn7 q ?_ ho), wl7, by omega⟩
              have e1 := cn7.len
              rw [List.length_map, e1, List.take_length]
              exact hq
        · have e5 : ws = [] := by
            have := c4.len
            cases ws with
            | nil => rfl
            | cons x r => simp [this] at e
          subst e5
          exact hU _ _ (kn H4 _ I.sm I.shut)
end
end K06

namespace Bd
inductive BackA (A : Cl → Option Cl) : Cl → List Cl → Prop
  | stop {c : Cl} : A c = none → BackA A c [c]
  | more {c b : Cl} {w : List Cl} : A c = some b → BackA A b w → BackA A c (c :: w)
theorem BackA.head {A : Cl → Option Cl} {c : Cl} {w : List Cl} (h : BackA A c w) : ∃ r, w = c :: r := by
  cases h with
  | stop _ => exact ⟨_, rfl⟩
  | more _ _ => exact ⟨_, rfl⟩
theorem BackA.det {A : Cl → Option Cl} {c : Cl} {w w' : List Cl} (h : BackA A c w) (h' : BackA A c w') : w = w' := by
  induction h generalizing w' with
  | stop e => cases h' with
    | stop _ => rfl
    | more e' _ => rw [e] at e'; cases e'
  | more e b ih => cases h' with
    | stop e' => rw [e] at e'; cases e'
    | more e' b' =>
      rw [e] at e'
      cases e'
      rw [ih b']
theorem BackA.tail {A : Cl → Option Cl} {c x : Cl} {w : List Cl} (h : BackA A c w) (m : x ∈ w) : ∃ w', BackA A x w' ∧ w'.length ≤ w.length := by
  induction h with
  | stop e => rw [List.mem_singleton.mp m]; exact ⟨_, .stop e, Nat.le_refl _⟩
  | more e b ih =>
    rcases List.mem_cons.mp m with rfl | m
    · exact ⟨_, .more e b, Nat.le_refl _⟩
    · obtain ⟨w', h1, h2⟩ := ih m
      exact ⟨w', h1, Nat.le_succ_of_le h2⟩
theorem BackA.nd {A : Cl → Option Cl} {c : Cl} {w : List Cl} (h : BackA A c w) : w.Nodup := by
  induction h with
  | stop e => simp
  | more e b ih =>
    refine List.nodup_cons.mpr ⟨fun m => ?_, ih⟩
    obtain ⟨w', h1, h2⟩ := b.tail m
    have := h1.det (.more e b)
    rw [this, List.length_cons] at h2
    omega
noncomputable def setF {β : Type} (f : Cl → β) (q : Cl) (v : β) : Cl → β := fun p => if p = q then v else f p
theorem setF_same {β : Type} (f : Cl → β) (q : Cl) (v : β) : setF f q v q = v := if_pos rfl
theorem setF_ne {β : Type} (f : Cl → β) {p q : Cl} (v : β) (n : p ≠ q) : setF f q v p = f p := if_neg n
theorem BackA.keep {A : Cl → Option Cl} {c q : Cl} {o : Option Cl} {w : List Cl} (h : BackA A c w) (n : q ∉ w) : BackA (setF A q o) c w := by
  induction h with
  | @stop c e => exact .stop (by rw [setF_ne _ _ (fun z => n (by rw [z]; simp))]; exact e)
  | @more c b w e _ ih => exact .more (by rw [setF_ne _ _ (fun z => n (by rw [z]; simp))]; exact e) (ih fun m => n (List.mem_cons_of_mem _ m))
noncomputable def putL (ks : List Cl) (q : Cl) : List Cl := if q ∈ ks then ks else ks ++ [q]
theorem mem_putL {ks : List Cl} {q p : Cl} : p ∈ putL ks q ↔ p ∈ ks ∨ p = q := by
  unfold putL
  by_cases h : q ∈ ks
  · rw [if_pos h]
    exact ⟨.inl, fun z => z.elim id fun e => by rw [e]; exact h⟩
  · rw [if_neg h, List.mem_append, List.mem_singleton]
theorem putL_nd {ks : List Cl} {q : Cl} (h : ks.Nodup) : (putL ks q).Nodup := by
  unfold putL
  by_cases m : q ∈ ks
  · rw [if_pos m]; exact h
  · rw [if_neg m, List.nodup_append]
    exact ⟨h, by simp, fun a ha b hb e => m (by rw [← List.mem_singleton.mp hb, ← e]; exact ha)⟩
theorem putL_len {ks : List Cl} {q : Cl} : ks.length ≤ (putL ks q).length := by
  unfold putL
  by_cases m : q ∈ ks
  · rw [if_pos m]; exact Nat.le_refl _
  · rw [if_neg m, List.length_append]; omega
structure SpInv (R C : Nat) (pass : Cl → Prop) (pr : Cl → Nat) (h : Int) (ks : List Cl) (N : Cl → Nat) (A : Cl → Option Cl) (ws : List Cl) (ex : Cl → Prop) : Prop where
  nd : ks.Nodup
  own : ∀ p ∈ ks, pass p
  sub : ∀ p ∈ ws, p ∈ ks
  st : ∀ p ∈ firstL R C h, pass p → p ∈ ks ∧ N p ≤ pr p
  root : ∀ p ∈ ks, A p = none → p ∈ firstL R C h ∧ N p = pr p
  edge : ∀ p ∈ ks, ∀ q, A p = some q → q ∈ ks ∧ p ∈ nearL R C q.1 q.2 ∧ N q + pr p ≤ N p ∧ (q ∈ ws ∨ ex q ∨ N q + pr p = N p)
  back : ∀ p ∈ ks, ∃ w, BackA A p w
  cl : ∀ p ∈ ks, p ∈ ws ∨ ex p ∨ ∀ q ∈ nearL R C p.1 p.2, pass q → q ∈ ks ∧ N q ≤ N p + pr q
  bnd : ∀ p ∈ ks, N p ≤ ks.length
section
variable {R C : Nat} {pass : Cl → Prop} {pr : Cl → Nat} {h : Int} {ks : List Cl} {N : Cl → Nat} {A : Cl → Option Cl} {ws : List Cl} {ex : Cl → Prop}
theorem near_ne {R C : Nat} {p q : Cl} (h : q ∈ nearL R C p.1 p.2) : q ≠ p := fun e => by
  have z := (mem_near.mp h).2
  rw [Hex.adj_iff] at z
  subst e
  omega
theorem SpInv.low (I : SpInv R C pass pr h ks N A ws ex) {c : Cl} {w : List Cl} (b : BackA A c w) (hc : c ∈ ks) : ∀ x ∈ w, x ∈ ks ∧ N x ≤ N c := by
  induction b with
  | stop e => intro x hx; rw [List.mem_singleton.mp hx]; exact ⟨hc, Nat.le_refl _⟩
  | more e b ih =>
    intro x hx
    have g := I.edge _ hc _ e
    rcases List.mem_cons.mp hx with rfl | hx
    · exact ⟨hc, Nat.le_refl _⟩
    · have z := ih g.1 x hx
      exact ⟨z.1, by omega⟩
theorem SpInv.relax (I : SpInv R C pass pr h ks N A ws ex) (h1 : ∀ p, pr p ≤ 1) {c q : Cl} (hc : c ∈ ks) (hx : ex c) (hq : q ∈ nearL R C c.1 c.2) (hp : pass q) (lt : q ∉ ks ∨ N c + pr q < N q) :
    SpInv R C pass pr h (putL ks q) (setF N q (N c + pr q)) (setF A q (some c)) (ws ++ [q]) ex := by
  have nqc : c ≠ q := fun e => near_ne hq e.symm
  have dn : ∀ p, p ∈ ks → setF N q (N c + pr q) p ≤ N p := fun p mp => by
    by_cases e : p = q
    · rw [e, setF_same]
      rw [e] at mp
      rcases lt with z | z
      · exact absurd mp z
      · omega
    · rw [setF_ne _ _ e]; exact Nat.le_refl _
  have nq : ∀ {w}, BackA A c w → q ∉ w := fun b m => by
    have z := I.low b hc q m
    rcases lt with y | y
    · exact y z.1
    · omega
  obtain ⟨wc, bc⟩ := I.back c hc
  have bq : BackA (setF A q (some c)) q (q :: wc) := .more (setF_same _ _ _) (bc.keep (nq bc))
  refine ⟨putL_nd I.nd, fun p hp' => ?_, fun p hp' => ?_, fun p hp' ho => ?_, fun p hp' e => ?_, fun p hp' b e => ?_, fun p hp' => ?_, fun p hp' => ?_, fun p hp' => ?_⟩
  · rcases mem_putL.mp hp' with z | rfl
    · exact I.own p z
    · exact hp
  · rcases List.mem_append.mp hp' with z | z
    · exact mem_putL.mpr (.inl (I.sub p z))
    · exact mem_putL.mpr (.inr (List.mem_singleton.mp z))
  · have z := I.st p hp' ho
    exact ⟨mem_putL.mpr (.inl z.1), Nat.le_trans (dn p z.1) z.2⟩
  · by_cases e1 : p = q
    · subst e1
      rw [setF_same] at e
      cases e
    · rw [setF_ne _ _ e1] at e ⊢
      rcases mem_putL.mp hp' with z | z
      · exact I.root p z e
      · exact absurd z e1
  · by_cases e1 : p = q
    · subst e1
      rw [setF_same] at e ⊢
      cases e
      rw [setF_ne _ _ nqc]
      exact ⟨mem_putL.mpr (.inl hc), hq, Nat.le_refl _, .inr (.inr rfl)⟩
    · rw [setF_ne _ _ e1] at e ⊢
      rcases mem_putL.mp hp' with z | z
      · obtain ⟨g1, g2, g3, g4⟩ := I.edge p z b e
        refine ⟨mem_putL.mpr (.inl g1), g2, by have := dn b g1; omega, ?_⟩
        by_cases e2 : b = q
        · exact .inl (List.mem_append_right _ (List.mem_singleton.mpr e2))
        · rw [setF_ne _ _ e2]
          rcases g4 with y | y | y
          · exact .inl (List.mem_append_left _ y)
          · exact .inr (.inl y)
          · exact .inr (.inr y)
      · exact absurd z e1
  · have go : ∀ {p w}, BackA A p w → ∃ w', BackA (setF A q (some c)) p w' := by
      intro p w b
      induction b with
      | @stop p e =>
        by_cases e1 : p = q
        · subst e1; exact ⟨_, bq⟩
        · exact ⟨_, .stop (by rw [setF_ne _ _ e1]; exact e)⟩
      | @more p b w e _ ih =>
        by_cases e1 : p = q
        · subst e1; exact ⟨_, bq⟩
        · obtain ⟨w', hw⟩ := ih
          exact ⟨_, .more (by rw [setF_ne _ _ e1]; exact e) hw⟩
    rcases mem_putL.mp hp' with z | rfl
    · obtain ⟨w, b⟩ := I.back p z
      exact go b
    · exact ⟨_, bq⟩
  · by_cases e1 : p = q
    · exact .inl (List.mem_append_right _ (List.mem_singleton.mpr e1))
    · rcases mem_putL.mp hp' with z | z
      · rcases I.cl p z with y | y | y
        · exact .inl (List.mem_append_left _ y)
        · exact .inr (.inl y)
        · refine .inr (.inr fun x hx ho => ?_)
          have g := y x hx ho
          rw [setF_ne _ _ e1]
          exact ⟨mem_putL.mpr (.inl g.1), Nat.le_trans (dn x g.1) g.2⟩
      · exact absurd z e1
  · by_cases e1 : p = q
    · subst e1
      rw [setF_same]
      have b := I.bnd c hc
      have b1 := h1 p
      unfold putL
      by_cases m : p ∈ ks
      · rw [if_pos m]
        rcases lt with z | z
        · exact absurd m z
        · have := I.bnd p m
          omega
      · rw [if_neg m, List.length_append, List.length_singleton]
        omega
    · rw [setF_ne _ _ e1]
      rcases mem_putL.mp hp' with z | z
      · exact Nat.le_trans (I.bnd p z) putL_len
      · exact absurd z e1
theorem SpInv.pop {c : Cl} (I : SpInv R C pass pr h ks N A (c :: ws) (fun _ => False)) : SpInv R C pass pr h ks N A ws (fun x => x = c) := by
  refine ⟨I.nd, I.own, fun p hp => I.sub p (List.mem_cons_of_mem _ hp), I.st, I.root, fun p hp q e => ?_, I.back, fun p hp => ?_, I.bnd⟩
  · obtain ⟨g1, g2, g3, g4⟩ := I.edge p hp q e
    refine ⟨g1, g2, g3, ?_⟩
    rcases g4 with y | y | y
    · rcases List.mem_cons.mp y with y | y
      · exact .inr (.inl y)
      · exact .inl y
    · exact y.elim
    · exact .inr (.inr y)
  · rcases I.cl p hp with y | y | y
    · rcases List.mem_cons.mp y with y | y
      · exact .inr (.inl y)
      · exact .inl y
    · exact y.elim
    · exact .inr (.inr y)
theorem SpInv.done {c : Cl} (I : SpInv R C pass pr h ks N A ws (fun x => x = c)) (k : ∀ q ∈ nearL R C c.1 c.2, pass q → q ∈ ks ∧ N q ≤ N c + pr q) : SpInv R C pass pr h ks N A ws (fun _ => False) := by
  refine ⟨I.nd, I.own, I.sub, I.st, I.root, fun p hp q e => ?_, I.back, fun p hp => ?_, I.bnd⟩
  · obtain ⟨g1, g2, g3, g4⟩ := I.edge p hp q e
    refine ⟨g1, g2, g3, ?_⟩
    rcases g4 with y | y | y
    · exact .inl y
    · subst y
      have z := (k p g2 (I.own p hp)).2
      exact .inr (.inr (by omega))
    · exact .inr (.inr y)
  · rcases I.cl p hp with y | y | y
    · exact .inl y
    · subst y
      exact .inr (.inr k)
    · exact .inr (.inr y)
theorem SpInv.start {ks : List Cl} (nd : ks.Nodup) (h1 : ∀ p, pr p ≤ 1) (hm : ∀ p, p ∈ ks ↔ p ∈ firstL R C h ∧ pass p) : SpInv R C pass pr h ks pr (fun _ => none) ks (fun _ => False) := by
  refine ⟨nd, fun p hp => ((hm p).mp hp).2, fun p hp => hp, fun p hp ho => ⟨(hm p).mpr ⟨hp, ho⟩, Nat.le_refl _⟩, fun p hp _ => ⟨((hm p).mp hp).1, rfl⟩, fun p hp q e => (nomatch e), fun p hp => ⟨_, .stop rfl⟩, fun p hp => .inl hp, fun p hp => ?_⟩
  have := List.length_pos_of_mem hp
  have := h1 p
  omega
noncomputable def tot (cs ks : List Cl) (N : Cl → Nat) : Nat := (cs.map fun p => if p ∈ ks then N p else 101).sum
theorem sum_lt {α : Type} {f g : α → Nat} {q : α} : ∀ {l : List α}, (∀ x ∈ l, g x ≤ f x) → q ∈ l → g q < f q → (l.map g).sum < (l.map f).sum
  | [], _, m, _ => by simp at m
  | a :: l, le, m, lt => by
    rw [List.map_cons, List.map_cons, List.sum_cons, List.sum_cons]
    have la := le a (by simp)
    have ll : (l.map g).sum ≤ (l.map f).sum := by
      clear m lt la
      induction l with
      | nil => exact Nat.le_refl _
      | cons b l ih =>
        rw [List.map_cons, List.map_cons, List.sum_cons, List.sum_cons]
        have h1 := le b (by simp)
        have h2 := ih (fun x hx => le x (by rcases List.mem_cons.mp hx with z | z <;> simp [z]))
        omega
    rcases List.mem_cons.mp m with rfl | m
    · omega
    · have := sum_lt (fun x hx => le x (List.mem_cons_of_mem _ hx)) m lt
      omega
theorem tot_relax {cs : List Cl} (I : SpInv R C pass pr h ks N A ws ex) (h1 : ∀ p, pr p ≤ 1) {c q : Cl} (hc : c ∈ ks) (hq : q ∈ cs) (lt : q ∉ ks ∨ N c + pr q < N q) (hz : ks.length ≤ 99 ∨ q ∈ ks) :
    tot cs (putL ks q) (setF N q (N c + pr q)) < tot cs ks N := by
  unfold tot
  refine sum_lt (q := q) (fun x hx => ?_) hq ?_
  · by_cases e : x = q
    · subst e
      rw [if_pos (mem_putL.mpr (.inr rfl)), setF_same]
      by_cases m : x ∈ ks
      · rw [if_pos m]
        rcases lt with z | z
        · exact absurd m z
        · omega
      · rw [if_neg m]
        have := I.bnd c hc
        have := h1 x
        rcases hz with z | z
        · omega
        · exact absurd z m
    · by_cases m : x ∈ ks
      · rw [if_pos m, if_pos (mem_putL.mpr (.inl m)), setF_ne _ _ e]
        exact Nat.le_refl _
      · rw [if_neg m, if_neg (fun z => (mem_putL.mp z).elim m e)]
        exact Nat.le_refl _
  · show (if q ∈ putL ks q then setF N q (N c + pr q) q else 101) < if q ∈ ks then N q else 101
    rw [if_pos (mem_putL.mpr (.inr rfl)), setF_same]
    by_cases m : q ∈ ks
    · rw [if_pos m]
      rcases lt with z | z
      · exact absurd m z
      · omega
    · rw [if_neg m]
      have := I.bnd c hc
      have := h1 q
      rcases hz with z | z
      · omega
      · exact absurd z m
noncomputable def cost (pr : Cl → Nat) (w : List Cl) : Nat := (w.map pr).sum
theorem SpInv.pays (I : SpInv R C pass pr h ks N A [] (fun _ => False)) {c : Cl} {w : List Cl} (b : BackA A c w) (hc : c ∈ ks) : cost pr w = N c := by
  unfold cost
  induction b with
  | stop e => rw [(I.root _ hc e).2]; simp
  | more e b ih =>
    obtain ⟨g1, g2, g3, g4⟩ := I.edge _ hc _ e
    rw [List.map_cons, List.sum_cons, ih g1]
    rcases g4 with y | y | y
    · cases y
    · exact y.elim
    · omega
theorem BackA.link {A : Cl → Option Cl} {c : Cl} {w : List Cl} (b : BackA A c w) : ∀ (i : Nat) (x y : Cl), w[i]? = some x → w[i + 1]? = some y → A x = some y := by
  induction b with
  | stop e => intro i x y h1 h2; simp at h2
  | @more c b w e b' ih =>
    intro i x y h1 h2
    cases i with
    | zero =>
      obtain ⟨r, rfl⟩ := b'.head
      simp at h1 h2
      subst h1 h2
      exact e
    | succ i => exact ih i x y (by simpa using h1) (by simpa using h2)
theorem BackA.last {A : Cl → Option Cl} {c x : Cl} {w : List Cl} (b : BackA A c w) (e : w.getLast? = some x) : A x = none := by
  induction b with
  | stop e' => simp at e; subst e; exact e'
  | @more c b w e' b' ih =>
    obtain ⟨r, rfl⟩ := b'.head
    rw [List.getLast?_cons_cons] at e
    exact ih e
theorem SpInv.chain (I : SpInv R C pass pr h ks N A [] (fun _ => False)) (hi : ∀ p, pass p → inB R C p.1 p.2) {c : Cl} {w : List Cl} (b : BackA A c w) (hc : c ∈ ks) (hl : onLast R C h c.1 c.2 = true) : IsChain R C pass h w.reverse := by
  have lw := I.low b hc
  refine ⟨List.pairwise_reverse.mpr (b.nd.imp fun h => Ne.symm h), fun p hp => hi p (I.own p (lw p (List.mem_reverse.mp hp)).1), fun p hp => I.own p (lw p (List.mem_reverse.mp hp)).1, fun i p q h1 h2 => ?_, ?_, ?_⟩
  · have l1 := (List.getElem?_eq_some_iff.mp h1).1
    have l2 := (List.getElem?_eq_some_iff.mp h2).1
    rw [List.length_reverse] at l1 l2
    rw [List.getElem?_reverse l1] at h1
    rw [List.getElem?_reverse l2] at h2
    have e := b.link (w.length - 1 - (i + 1)) q p h2 (by rw [show w.length - 1 - (i + 1) + 1 = w.length - 1 - i by omega]; exact h1)
    exact (I.edge q (lw q (List.mem_of_getElem? h2)).1 p e).2.1
  · obtain ⟨r, e⟩ := b.head
    have ne : w ≠ [] := fun z => by rw [z] at e; cases e
    have g := List.getLast?_eq_some_getLast ne
    exact ⟨w.getLast ne, by rw [List.head?_reverse, g], (I.root _ (lw _ (List.getLast_mem ne)).1 (b.last g)).1⟩
  · obtain ⟨r, e⟩ := b.head
    exact ⟨c, by rw [List.getLast?_reverse, e]; rfl, hl⟩
theorem cost_rev (pr : Cl → Nat) (w : List Cl) : cost pr w.reverse = cost pr w := by
  unfold cost
  rw [List.map_reverse]
  exact List.sum_reverse _
theorem SpInv.least (I : SpInv R C pass pr h ks N A [] (fun _ => False)) {ps : List Cl} (c : IsChain R C pass h ps) : ∃ e, e ∈ ks ∧ onLast R C h e.1 e.2 = true ∧ N e ≤ cost pr ps := by
  have cl : ∀ p ∈ ks, ∀ q ∈ nearL R C p.1 p.2, pass q → q ∈ ks ∧ N q ≤ N p + pr q := fun p hp => by
    rcases I.cl p hp with y | y | y
    · cases y
    · exact y.elim
    · exact y
  have go : ∀ (r : List Cl) (a : Cl), a ∈ ks → (∀ x ∈ r, pass x) → (∀ (i : Nat) (p q : Cl), (a :: r)[i]? = some p → (a :: r)[i + 1]? = some q → q ∈ nearL R C p.1 p.2) → ∀ e, (a :: r).getLast? = some e → e ∈ ks ∧ N e ≤ N a + cost pr r := by
    intro r
    induction r with
    | nil => intro a ha _ _ e he; simp at he; subst he; exact ⟨ha, by simp [cost]⟩
    | cons b r ih =>
      intro a ha ho hl e he
      rw [List.getLast?_cons_cons] at he
      obtain ⟨g1, g2⟩ := cl a ha b (hl 0 a b rfl rfl) (ho b (by simp))
      obtain ⟨g3, g4⟩ := ih b g1 (fun x hx => ho x (List.mem_cons_of_mem _ hx)) (fun i p q h1 h2 => hl (i + 1) p q (by simpa using h1) (by simpa using h2)) e he
      refine ⟨g3, ?_⟩
      unfold cost at g4 ⊢
      rw [List.map_cons, List.sum_cons]
      omega
  obtain ⟨a, h1, h2⟩ := c.first
  obtain ⟨e, h3, h4⟩ := c.last
  cases ps with
  | nil => cases h1
  | cons a0 r =>
    have ea : a0 = a := Option.some.inj h1
    subst ea
    obtain ⟨g1, g2⟩ := I.st a0 h2 (c.own a0 (by simp))
    obtain ⟨g3, g4⟩ := go r a0 g1 (fun x hx => c.own x (List.mem_cons_of_mem _ hx)) c.link e h3
    refine ⟨e, g3, h4, ?_⟩
    unfold cost at g4 ⊢
    rw [List.map_cons, List.sum_cons]
    omega
theorem SpInv.price (I : SpInv R C pass pr h ks N A ws ex) {p : Cl} (hp : p ∈ ks) : pr p ≤ N p := by
  cases e : A p with
  | none => exact Nat.le_of_eq (I.root p hp e).2.symm
  | some q =>
    have := (I.edge p hp q e).2.2.1
    omega
theorem SpInv.shut (I : SpInv R C pass pr h ks N A [] (fun _ => False)) (no : ∀ p ∈ ks, onLast R C h p.1 p.2 = false) : Shut R C pass h ks := by
  refine ⟨fun p hp ho => (I.st p hp ho).1, fun p hp q hq ho => ?_, no, I.own⟩
  rcases I.cl p hp with y | y | y
  · cases y
  · exact y.elim
  · exact (y q hq ho).1
theorem SpInv.belt (I : SpInv R C pass pr h ks N A [] (fun _ => False)) (h1 : ∀ p, pr p ≤ 1) {k : Nat} (hk : 1 ≤ k) (no : ∀ p ∈ ks, onLast R C h p.1 p.2 = true → k ≤ N p) : Shut R C (fun p => pass p ∧ ¬ (pr p = 1 ∧ p ∈ ks ∧ N p = k)) h (ks.filter fun p => decide (N p < k)) := by
  have mf : ∀ {p}, p ∈ ks.filter (fun p => decide (N p < k)) ↔ p ∈ ks ∧ N p < k := fun {p} => by rw [List.mem_filter, decide_eq_true_eq]
  refine ⟨fun p hp ho => mf.mpr ?_, fun p hp q hq ho => mf.mpr ?_, fun p hp => ?_, fun p hp => ?_⟩
  · obtain ⟨g1, g2⟩ := I.st p hp ho.1
    refine ⟨g1, ?_⟩
    have a := h1 p
    have b := I.price g1
    by_cases e : pr p = 1
    · have : N p ≠ k := fun z => ho.2 ⟨e, g1, z⟩
      omega
    · omega
  · obtain ⟨m1, m2⟩ := mf.mp hp
    rcases I.cl p m1 with y | y | y
    · cases y
    · exact y.elim
    · obtain ⟨g1, g2⟩ := y q hq ho.1
      refine ⟨g1, ?_⟩
      have a := h1 q
      by_cases e : pr q = 1
      · have : N q ≠ k := fun z => ho.2 ⟨e, g1, z⟩
        omega
      · omega
  · obtain ⟨m1, m2⟩ := mf.mp hp
    cases e : onLast R C h p.1 p.2 with
    | false => rfl
    | true => have := no p m1 e; omega
  · obtain ⟨m1, m2⟩ := mf.mp hp
    exact ⟨I.own p m1, fun z => by omega⟩
end
end Bd

set_option maxHeartbeats 4000000
namespace L2
open PySem PySem.Spec PyProof.Rows
section
variable {prog : Program} {w : World} {dA : Addr}
end
section
variable {X : Cx}
end
end L2
namespace Bd
open PySem L2
noncomputable def kvD (ks : List Cl) (f : Cl → V) : List (List Key × V) := ks.map fun p => (keyC p.1 p.2, f p)
theorem keyC_cl {p q : Cl} (h : keyC p.1 p.2 = keyC q.1 q.2) : p = q := by
  obtain ⟨h1, h2⟩ := keyC_inj h
  obtain ⟨a, b⟩ := p
  obtain ⟨a', b'⟩ := q
  simp only at h1 h2
  rw [h1, h2]
theorem val_kvD (ks : List Cl) (f : Cl → V) (p : Cl) : valV (kvD ks f) (keyC p.1 p.2) = if p ∈ ks then some (f p) else none := by
  unfold kvD
  by_cases m : p ∈ ks
  · rw [if_pos m]
    exact valV_map_mem (fun p : Cl => keyC p.1 p.2) f p ks m (fun q _ e => keyC_cl e)
  · rw [if_neg m]
    exact valV_map_none (fun p : Cl => keyC p.1 p.2) f _ ks (fun q hq e => m (by rw [← keyC_cl e]; exact hq))
theorem put_kvD (ks : List Cl) (f : Cl → V) (q : Cl) (v : V) : putK (kvD ks f) (keyC q.1 q.2) v = kvD (putL ks q) (setF f q v) := by
  unfold putL
  by_cases m : q ∈ ks
  · rw [if_pos m]
    exact putK_map (fun p : Cl => keyC p.1 p.2) f (setF f q v) q v ks m (fun p _ e => keyC_cl e) (setF_same _ _ _) (fun p _ n => setF_ne _ _ n)
  · rw [if_neg m, putK_new _ (by rw [val_kvD, if_neg m])]
    unfold kvD
    rw [List.map_append, List.map_cons, List.map_nil, setF_same]
    congr 1
    refine List.map_congr_left fun p hp => ?_
    rw [setF_ne _ _ (fun e => m (by rw [← e]; exact hp))]
noncomputable def DD (H : Hp) (o : Addr) (ks : List Cl) (f : Cl → V) : Prop := H o = some (.dT (kvD ks f)) ∧ ks.Nodup
theorem DD.mono {H H' : Hp} {o : Addr} {ks : List Cl} {f : Cl → V} (h : DD H o ks f) (s : Same H H') : DD H' o ks f := ⟨s _ _ h.1, h.2⟩
theorem DD.but {H H' : Hp} {o a : Addr} {ks : List Cl} {f : Cl → V} (h : DD H o ks f) (k : But a H H') (n : o ≠ a) : DD H' o ks f := ⟨k _ _ h.1 n, h.2⟩
theorem DD.get {H : Hp} {o b : Addr} {ks : List Cl} {f : Cl → V} {p : Cl} (h : DD H o ks f) (hc : CellAt H b p.1 p.2) : DGet H o (.ref b) (if p ∈ ks then some (f p) else none) := by
  rw [← val_kvD]
  exact DGet.t h.1 hc
theorem DD.put {H : Hp} {o b : Addr} {ks : List Cl} {f : Cl → V} {p : Cl} (v : V) (h : DD H o ks f) (hc : CellAt H b p.1 p.2) (hz : ks.length ≤ 999) : DPut H o (.ref b) v (upd H o (.dT (kvD (putL ks p) (setF f p v)))) := by
  rw [← put_kvD]
  exact DPut.t (k := keyC p.1 p.2) h.1 hc (by unfold kvD; rw [List.length_map]; exact small1000 (by omega))
theorem DD.new {H : Hp} {o : Addr} {ks : List Cl} {f : Cl → V} (nd : ks.Nodup) : DD (upd H o (.dT (kvD ks f))) o ks f := ⟨upd_same, nd⟩
theorem cells_kvD {H : Hp} : ∀ {as : List Addr} {ks : List Cl} {f : Cl → V}, Paired (fun (b : Addr) (p : List Key × V) => H b = some (.tup (p.1.map kV))) as (kvD ks f) → CellsAt H as ks
  | [], [], _, _ => .nil
  | _ :: _, _ :: _, f, .cons q t => .cons q (cells_kvD (f := f) t)
theorem kvD_congr {ks : List Cl} {f g : Cl → V} (h : ∀ p ∈ ks, f p = g p) : kvD ks f = kvD ks g := List.map_congr_left fun p hp => by rw [h p hp]
noncomputable def nat2 (p : Cl) : Nat × Nat := (p.1.toNat, p.2.toNat)
structure OD (H : Hp) (o : Addr) (R C : Nat) (own : Nat × Nat → Int) (ks : List Cl) : Prop where
  dd : DD H o ks fun p => V.int (own (nat2 p))
  mem : ∀ p, p ∈ ks ↔ inB R C p.1 p.2 ∧ own (nat2 p) ≠ 0
theorem OD.mono {H H' : Hp} {o : Addr} {R C : Nat} {own : Nat × Nat → Int} {ks : List Cl} (h : OD H o R C own ks) (s : Same H H') : OD H' o R C own ks := ⟨h.dd.mono s, h.mem⟩
theorem OD.but {H H' : Hp} {o a : Addr} {R C : Nat} {own : Nat × Nat → Int} {ks : List Cl} (h : OD H o R C own ks) (k : But a H H') (n : o ≠ a) : OD H' o R C own ks := ⟨h.dd.but k n, h.mem⟩
theorem OD.len {H : Hp} {o : Addr} {R C : Nat} {own : Nat × Nat → Int} {ks : List Cl} (h : OD H o R C own ks) : ks.length ≤ R * C := len_in h.dd.2 fun p hp => ((h.mem p).mp hp).1
theorem putL_len1 {ks : List Cl} {q : Cl} : (putL ks q).length ≤ ks.length + 1 := by
  unfold putL
  split
  · omega
  · rw [List.length_append]; exact Nat.le_refl _
theorem setO_at (own : Nat × Nat → Int) (p : Cl) (v : Int) (x : Nat × Nat) : setO own p.1 p.2 v x = if x = nat2 p then v else own x := rfl
theorem OD.put {H : Hp} {o : Addr} {R C : Nat} {own : Nat × Nat → Int} {ks : List Cl} {p : Cl} {v : Int} (h : OD H o R C own ks) (hb : inB R C p.1 p.2) (hv : v ≠ 0) : OD (upd H o (.dT (kvD (putL ks p) (setF (fun p => V.int (own (nat2 p))) p (V.int v))))) o R C (setO own p.1 p.2 v) (putL ks p) := by
  have inj : ∀ q, inB R C q.1 q.2 → (nat2 q = nat2 p ↔ q = p) := fun q hq => by
    have := toNat_inj hb hq
    unfold nat2
    rw [this]
    obtain ⟨a, b⟩ := q
    obtain ⟨a', b'⟩ := p
    simp
  have inK : ∀ q, q ∈ putL ks p → inB R C q.1 q.2 := fun q hq => by
    rcases mem_putL.mp hq with z | rfl
    · exact ((h.mem q).mp z).1
    · exact hb
  refine ⟨⟨?_, putL_nd h.dd.2⟩, fun q => ?_⟩
  · rw [upd_same]
    congr 2
    refine kvD_congr fun q hq => ?_
    show setF (fun p => V.int (own (nat2 p))) p (V.int v) q = V.int (setO own p.1 p.2 v (nat2 q))
    rw [setO_at]
    by_cases e : q = p
    · subst e
      rw [setF_same, if_pos rfl]
    · rw [setF_ne _ _ e, if_neg (fun z => e ((inj q (inK q hq)).mp z))]
  · rw [mem_putL]
    rw [setO_at]
    constructor
    · rintro (z | rfl)
      · have g := (h.mem q).mp z
        refine ⟨g.1, ?_⟩
        by_cases e : nat2 q = nat2 p
        · rw [if_pos e]; exact hv
        · rw [if_neg e]; exact g.2
      · exact ⟨hb, by rw [if_pos rfl]; exact hv⟩
    · rintro ⟨h1, h2⟩
      by_cases e : nat2 q = nat2 p
      · exact .inr ((inj q h1).mp e)
      · rw [if_neg e] at h2
        exact .inl ((h.mem q).mpr ⟨h1, h2⟩)
end Bd
namespace Bd
open PySem L2
theorem OD.step {H0 H : Hp} {o t : Addr} {R C : Nat} {own : Nat × Nat → Int} {ks : List Cl} {r c v : Int} (h : OD H o R C own ks) (s : Same H0 H) (no : H0 o = none) (nt : H t = none) (hb : inB R C r c) (hv : v ≠ 0) (hR : R ≤ 10) (hC : C ≤ 10) :
    ∃ H5, DPut (upd H t (.tup [.int r, .int c])) o (.ref t) (.int v) H5 ∧ OD H5 o R C (setO own r c v) (putL ks (r, c)) ∧ Same H0 H5 := by
  have st : Same H (upd H t (.tup [.int r, .int c])) := Same.upd nt
  have h1 := h.mono st
  have hc : CellAt (upd H t (.tup [.int r, .int c])) t r c := upd_same
  have hz : ks.length ≤ 100 := Nat.le_trans h.len (Nat.mul_le_mul hR hC)
  exact ⟨_, h1.dd.put (p := (r, c)) (.int v) hc (by omega), h1.put (p := (r, c)) hb hv, But.upd.same (s.trans st) no⟩
theorem setO_3 {own : Nat × Nat → Int} {r c v : Int} (h : ∀ p, own p = 0 ∨ own p = 1 ∨ own p = 2) (hv : v = 0 ∨ v = 1 ∨ v = 2) : ∀ p, setO own r c v p = 0 ∨ setO own r c v p = 1 ∨ setO own r c v p = 2 := fun p => by
  unfold setO
  split
  · exact hv
  · exact h p
theorem OD.none {H : Hp} {o : Addr} {R C : Nat} : OD (upd H o (.dT [])) o R C (fun _ => 0) [] := ⟨⟨upd_same, List.nodup_nil⟩, fun p => by simp⟩
end Bd
namespace Bd
open PySem L2
theorem cells_keys {H : Hp} : ∀ {as : List Addr} {ps : List Cl}, CellsAt H as ps → Paired (fun (a : Addr) (k : List Key) => H a = some (.tup (k.map kV))) as (ps.map fun p => keyC p.1 p.2)
  | _, _, .nil => .nil
  | _, _, .cons q t => .cons q (cells_keys t)
theorem keys_nd {ps : List Cl} (h : ps.Nodup) : (ps.map fun p => keyC p.1 p.2).Nodup := List.Pairwise.map _ (fun _ _ n e => n (keyC_cl e)) h
theorem CellsAt.put {H : Hp} : ∀ {as : List Addr} {cs : List Cl} {i : Nat} {p : Cl}, CellsAt H as cs → cs[i]? = some p → ∃ a, as[i]? = some a ∧ CellAt H a p.1 p.2
  | _, _, _, _, .nil, e => by simp at e
  | _, _, 0, _, .cons q _, e => by
    simp at e
    subst e
    exact ⟨_, rfl, q⟩
  | _, _, i + 1, p, .cons _ t, e => by
    obtain ⟨a, h1, h2⟩ := CellsAt.put (i := i) (p := p) t (by simpa using e)
    exact ⟨a, by simpa using h1, h2⟩
end Bd
namespace Bd
theorem mem_empt {R C : Nat} {own : Nat × Nat → Int} {x : Cl} : x ∈ emptiesL R C own ↔ inB R C x.1 x.2 ∧ own (nat2 x) = 0 := by
  unfold emptiesL
  rw [List.mem_map]
  constructor
  · rintro ⟨c, hc, rfl⟩
    have h := List.mem_filter.mp hc
    have hb := mem_cells.mp h.1
    exact ⟨by unfold inB; dsimp only; omega, show own c = 0 by simpa using h.2⟩
  · rintro ⟨hb, z⟩
    unfold inB at hb
    refine ⟨nat2 x, List.mem_filter.mpr ⟨mem_cells.mpr ⟨by show x.1.toNat < R; omega, by show x.2.toNat < C; omega⟩, by simpa using z⟩, ?_⟩
    obtain ⟨a, b⟩ := x
    show (((a.toNat : Nat) : Int), ((b.toNat : Nat) : Int)) = (a, b)
    dsimp only at hb
    rw [Int.toNat_of_nonneg hb.1, Int.toNat_of_nonneg hb.2.2.1]
end Bd
namespace Bd
open PySem L2
theorem cells_nd (R C : Nat) : (cellsRC R C).Nodup := by
  induction R with
  | zero => simp [cellsRC]
  | succ n ih =>
    rw [cells_succ, List.nodup_append]
    refine ⟨ih, List.Pairwise.map _ (fun a b n e => n (by injection e)) List.nodup_range, fun a ha b hb e => ?_⟩
    obtain ⟨c, _, rfl⟩ := List.mem_map.mp hb
    have := (mem_cells.mp ha).1
    rw [e] at this
    simp at this
end Bd
namespace Bd
noncomputable def toC (p : Nat × Nat) : Cl := ((p.1 : Int), (p.2 : Int))
end Bd

set_option maxHeartbeats 4000000
namespace K06
open PySem L2 Bd
inductive spOwners (K : PySem.W.Frag) (vs : List V) (H : Hp) (Q : VK) (E' : XK) : Prop
  | mk (a : Addr) (ns : List Int) (k R C : Nat) (y'1 : vs = [.ref a, .int k, .int R, .int C, .bl false]) (y'2 : SqL K H a (ns.map V.int)) (y'3 : ns.length ≤ 63) (y'4 : R ≤ 10) (y'5 : C ≤ 10) (y'6 : ∀ o H' own ks, Same H H' → H o = none → OD H' o R C own ks → (∀ p, own p = 0 ∨ own p = 1 ∨ own p = 2) → Q (.ref o) H') : spOwners K vs H Q E'
inductive spBoardOf (D : Ads) (vs : List V) (H : Hp) (Q : VK) (E' : XK) : Prop
  | mk (R C : Nat) (o : Addr) (own : Nat × Nat → Int) (ks : List Cl) (y'1 : vs = [.int R, .int C, .ref o]) (y'2 : 1 ≤ R) (y'3 : R ≤ 10) (y'4 : 1 ≤ C) (y'5 : C ≤ 10) (y'6 : OD H o R C own ks) (y'7 : (∀ p, own p = 0 ∨ own p = 1 ∨ own p = 2)) (y'8 : ∀ p d H', Same H H' → H p = none → H d = none → BoardAt D.CB H' p d R C own → Q (.ref p) H') : spBoardOf D vs H Q E'
inductive spOwned (vs : List V) (H : Hp) (Q : VK) (E' : XK) : Prop
  | mk (R C : Nat) (o : Addr) (own : Nat × Nat → Int) (ks : List Cl) (h : Int) (y'1 : vs = [.ref o, .int h]) (y'2 : R ≤ 10) (y'3 : C ≤ 10) (y'4 : OD H o R C own ks) (y'5 : ∀ o' H' ks', Same H H' → H o' = none → DD H' o' ks' (fun _ => .bl true) → (∀ p, p ∈ ks' ↔ p ∈ ks ∧ own (nat2 p) = h) → Q (.ref o') H') : spOwned vs H Q E'
inductive spIsChain (vs : List V) (H : Hp) (Q : VK) (E' : XK) : Prop
  | mk (R C : Nat) (l o : Addr) (h : Int) (ps ks : List Cl) (g : Cl → V) (y'1 : vs = [.ref l, .int R, .int C, .int h, .ref o]) (y'2 : R ≤ 10) (y'3 : C ≤ 10) (y'4 : LCells H l ps) (y'5 : DD H o ks g) (y'6 : IsChain R C (fun p => p ∈ ks) h ps) (y'7 : ∀ H', Same H H' → Q (.bl true) H') : spIsChain vs H Q E'
section
variable {P : Program} {w : World} {K : PySem.W.Frag} {mg : Str → Option Value} {base : Heap} {D : Ads}
theorem scOwners : FnScope ["script", "first", "rows", "columns", "full", "owners", "r", "digits", "c"] ["script", "first", "rows", "columns", "full"] (defScope sOwners) := ⟨rfl, rfl, rfl, by decide +kernel, rfl, by decide +kernel, by decide +kernel⟩
theorem ok_owners {f fA : Addr} {fd fdA : FuncData} (F : Fun K "_law_owners" "_law_owners" sOwners f fd) (T : Txt K mg D)
    (GA : FnOk P w K mg base (CX1 P w) 1 fA fdA ["script", "k"] (spCellAt K)) (kA : PySem.W.keepIn K (.ref fA) = true) (bA : Binds K fdA ["script", "k"] []) (mA : mg "_law_cell_at" = some (.ref fA)) :
    FnOk P w K mg base (CX1 P w) 2 f fd ["script", "first", "rows", "columns", "full"] (spOwners K) := by
  refine F.ok0 scOwners (fun vs H Q E h => ?_) (fun cdv A outer s H vs Q E hr h => ?_)
  · obtain ⟨a, ns, k, R, C, rfl, _⟩ := h
    rfl
  · obtain ⟨a, ns, k0, R, C, rfl, hS, hlen, hR, hC, q⟩ := h
    have hu := hu_of hr
    refine ⟨_, pss_cons (ps_set (i := 5) scOwners.nd rfl (Or.inl rfl) pe_dnewT)
      (pss_cons (ps_for PassesOwn.never rfl (pi_range1 rfl T.rng (pa_cons (pv 2) pa_nil)) (pg_name (i := 6) scOwners.nd rfl (Or.inl rfl))
        (pss_cons (ps_set (i := 7) scOwners.nd rfl (Or.inl rfl) (pe_call GA hr rfl mA kA bA .nil passN (pa_cons (pv 0) (pa_cons (pe_op op_add (pv 1) (pv 6)) pa_nil))))
        (pss_one (ps_for PassesOwn.never rfl (pi_range1 rfl T.rng (pa_cons (pv 3) pa_nil)) (pg_name (i := 8) scOwners.nd rfl (Or.inl rfl))
          (pss_one (ps_if (pt_val (pv 4))
            (pss_cons (ps_dput hu (pv 5) (pe_tup (pa_cons (pv 6) (pa_cons (pv 8) pa_nil))) (pe_op op_add pe_int (pe_op op_mod (pv 7) pe_int)) rfl)
            (pss_one (ps_set (i := 7) scOwners.nd rfl (Or.inl rfl) (pe_op op_fdiv (pv 7) pe_int))))
            (pss_cons (ps_if (pt_cmpR op_gt (pe_op op_mod (pv 7) pe_int) pe_int (nomark _)) (pss_one (ps_dput hu (pv 5) (pe_tup (pa_cons (pv 6) (pa_cons (pv 8) pa_nil))) (pe_op op_mod (pv 7) pe_int) rfl)) pss_nil)
            (pss_one (ps_set (i := 7) scOwners.nd rfl (Or.inl rfl) (pe_op op_fdiv (pv 7) pe_int))))))))))
      (pss_one (ps_ret (pv 5)))), ?_⟩
    refine seqG fun U hU => ?_
    intro o no
    refine hU [some (.ref a), some (.int k0), some (.int R), some (.int C), some (.bl false), some (.ref o), none, none, none] _ ?_
    refine seqG fun U hU => ?_
    refine ⟨_, rfl, (R : Int), rfl, by omega, by omega, ?_⟩
    rw [Int.toNat_natCast]
    refine for_range (n := R) (fun i σ H2 => Ex5 fun v6 v7 v8 own ks => An4 (σ = [some (.ref a), some (.int k0), some (.int R), some (.int C), some (.bl false), some (.ref o), v6, v7, v8]) (Same H H2) (OD H2 o R C own ks) (∀ p, own p = 0 ∨ own p = 1 ∨ own p = 2)) ?_ ?_ ?_
    · exact ⟨none, none, none, fun _ => 0, [], rfl, Same.upd no, OD.none, fun _ => .inl rfl⟩
    · rintro i σ H2 hi ⟨v6, v7, v8, own, ks, rfl, s2, od, o3⟩
      dsimp only [gName]
      refine bodyN fun D' nx => ?_
      refine seqG fun U hU => ?_
      refine ⟨_, rfl, _, rfl, _, rfl, _, _, rfl, rfl, a, ns, k0 + i, (by rw [show ((k0 + i : Nat) : Int) = (k0 : Int) + (0 + (i : Int)) by omega]; rfl), s2.seq hS, hlen, ?_⟩
      generalize ns.getD (k0 + i) 0 = dg
      refine hU [some (.ref a), some (.int k0), some (.int R), some (.int C), some (.bl false), some (.ref o), some (.int (0 + (i : Int))), some (.int dg), v8] _ ?_
      refine ⟨_, rfl, (C : Int), rfl, by omega, by omega, ?_⟩
      rw [Int.toNat_natCast]
      refine for_range (n := C) (fun j σ H3 => Ex4 fun dg v8 own ks => An4 (σ = [some (.ref a), some (.int k0), some (.int R), some (.int C), some (.bl false), some (.ref o), some (.int (0 + (i : Int))), some (.int dg), v8]) (Same H H3) (OD H3 o R C own ks) (∀ p, own p = 0 ∨ own p = 1 ∨ own p = 2)) ?_ ?_ ?_
      · exact ⟨dg, v8, own, ks, rfl, s2, od, o3⟩
      · rintro j σ H3 hj ⟨dg, v8, own, ks, rfl, s3, od, o3⟩
        have hb : inB R C (0 + (i : Int)) (0 + (j : Int)) := by
          clear od o3
          unfold inB
          omega
        dsimp only [gName]
        refine bodyN fun D' nx => ?_
        refine ⟨_, rfl, _, rfl, iteF ?_⟩
        refine seqG fun U hU => ?_
        refine ⟨_, rfl, _, _, rfl, rfl, (by show (0 : Int) < 3; decide), _, _, rfl, rfl, _, rfl, ite2 (fun e2 => ?_) (fun e2 => ?_)⟩
        · have e2 : dg % 3 > 0 := by simpa using e2
          refine ⟨_, rfl, _, _, rfl, rfl, (by show (0 : Int) < 3; decide), _, rfl, _, rfl, _, rfl, (by show 2 ≤ sizeLine; decide), fun t nt => ?_⟩
          obtain ⟨H5, d5, od5, s5⟩ := od.step (v := dg % 3) s3 no nt hb (by clear o3; omega) hR hC
          refine ⟨o, H5, rfl, d5, ?_⟩
          refine hU _ _ ?_
          refine ⟨_, rfl, _, _, rfl, rfl, ⟨by decide, by decide⟩, ?_⟩
          exact nx _ _ ⟨_, _, _, _, rfl, s5, od5, setO_3 o3 (by clear o3; omega)⟩
        · refine hU _ _ ?_
          refine ⟨_, rfl, _, _, rfl, rfl, ⟨by decide, by decide⟩, ?_⟩
          exact nx _ _ ⟨_, _, _, _, rfl, s3, od, o3⟩
      · rintro σ H3 ⟨dg, v8, own, ks, rfl, s3, od, o3⟩
        exact nx _ _ ⟨_, _, _, own, ks, rfl, s3, od, o3⟩
    · rintro σ H2 ⟨v6, v7, v8, own, ks, rfl, s2, od, o3⟩
      exact hU _ _ ⟨_, rfl, q o H2 own ks s2 no od o3⟩
theorem scBoardOf : FnScope ["rows", "columns", "owners", "board", "cell"] ["rows", "columns", "owners"] (defScope sBoardOf) := ⟨rfl, rfl, rfl, by decide +kernel, rfl, by decide +kernel, by decide +kernel⟩
theorem ok_boardOf {f fI fP : Addr} {fd fdI fdP : FuncData} (F : Fun K "_law_board_of" "_law_board_of" sBoardOf f fd) (T : Txt K mg D) (M : Mk K D.CB fI)
    (GI : FnOk P w K mg base (CX1 P w) 2 fI fdI ["self", "rows", "columns"] (spInit D)) (bI : Binds K fdI ["self", "rows", "columns"] [])
    (GP : FnOk P w K mg base (CX1 P w) 2 fP fdP ["self", "cell", "hand"] (spPut D)) (bP : Binds K fdP ["self", "cell", "hand"] []) (mP : Meth K D.CB "put" fP) :
    FnOk P w K mg base (CX1 P w) 4 f fd ["rows", "columns", "owners"] (spBoardOf D) := by
  refine F.ok0 scBoardOf (fun vs H Q E h => ?_) (fun cdv A outer s H vs Q E hr h => ?_)
  · obtain ⟨R, C, o, own, ks, rfl, _⟩ := h
    rfl
  · obtain ⟨R, C, o, own, ks, rfl, r1, r2, c1, c2, od, o3, q⟩ := h
    have hu := hu_of hr
    have hr2 : Room 2 _ := hr.mono (by decide)
    have hRC : R * C ≤ 100 := Nat.mul_le_mul r2 c2
    refine ⟨_, pss_cons (ps_set (i := 3) scBoardOf.nd rfl (Or.inl rfl) (pe_make M GI hr rfl T.mgB bI .nil passN (pa_cons (pv 0) (pa_cons (pv 1) pa_nil))))
      (pss_cons (ps_for PassesOwn.never rfl (pi_list (pe_callTy (call_listDT rfl) rfl T.tList (by decide +kernel) (pa_cons (pv 2) pa_nil))) (pg_name (i := 4) scBoardOf.nd rfl (Or.inl rfl))
        (pss_one (ps_expr (pe_meth (pv 3) T.cl mP GP hr2 bP .nil passN (pa_cons (pv 4) (pa_cons (pe_dget hu (pv 2) (pv 4) (fun _ _ => rfl)) pa_nil))))))
      (pss_one (ps_ret (pv 3)))), ?_⟩
    refine ⟨_, rfl, _, rfl, fun p dx np ndx nex => ⟨p, dx, R, C, rfl, upd_same, fun R' C' e1 e2 _ _ _ _ d H1 nd B kp => ⟨rfl, ?_⟩, fun z => absurd ⟨⟨by omega, by omega⟩, by omega, by omega⟩ z⟩⟩
    obtain rfl : R = R' := Int.ofNat.inj e1
    obtain rfl : C = C' := Int.ofNat.inj e2
    have s1 : Same H H1 := fun b u e => kp b u (by rw [upd_ne (ne_of_none e np), upd_ne (ne_of_none e ndx)]; exact e) (ne_of_none e np)
    have ndH : H d = none := by
      cases z : H d with
      | none => rfl
      | some u => rw [upd_ne (ne_of_none z np), upd_ne (ne_of_none z ndx), z] at nd; cases nd
    have od1 := od.mono s1
    refine ⟨_, rfl, o, _, rfl, .inl od1.dd.1, fun l as nl hp => ?_⟩
    have c0 := cells_kvD hp
    have s2 : Same H1 (upd H1 l (.lst (as.map V.ref))) := Same.upd nl
    have ndl : d ≠ l := ne_of_none B.dc nl
    refine ⟨l, rfl, ⟨_, SqL.of upd_same⟩, for_list (K := K) (a := l) (xs := as.map V.ref)
      (fun i σ H2 => Ex2 fun v4 ow => An6 (σ = [some (.int R), some (.int C), some (.ref o), some (.ref p), v4]) (Same H H2) (BoardAt D.CB H2 p d R C ow) (H2 l = some (.lst (as.map V.ref))) (CellsAt H2 as ks) (∀ x : Cl, inB R C x.1 x.2 → (x ∈ ks.take i → ow (nat2 x) = own (nat2 x)) ∧ (x ∉ ks.take i → ow (nat2 x) = 0)))
      ?_ (fun i σ H2 _ gz => SqL.of (by obtain ⟨_, _, _, _, _, e, _⟩ := gz; exact e)) ?_ ?_⟩
    · exact ⟨none, fun _ => 0, rfl, s1.trans s2, B.mono s2, upd_same, c0.mono s2, fun x _ => ⟨fun z => by simp at z, fun _ => rfl⟩⟩
    · rintro i x σ H2 hx ⟨v4, ow, rfl, s3, B3, l3, c3, ho⟩
      obtain ⟨b, hb, rfl⟩ : ∃ b, as[i]? = some b ∧ x = V.ref b := by
        rw [List.getElem?_map] at hx
        cases z : as[i]? with
        | none => rw [z] at hx; cases hx
        | some b => rw [z] at hx; exact ⟨b, rfl, (Option.some.inj hx).symm⟩
      obtain ⟨y, hy, hc⟩ := c3.get hb
      have my := (od.mem y).mp (List.mem_of_getElem? hy)
      have od3 := od.mono s3
      obtain ⟨dx', hp'⟩ := B3.ob
      have nin : y ∉ ks.take i := fun z => by
        exact nin_take od.dd.2 hy z
      have g := od3.dd.get (p := y) hc
      rw [if_pos (List.mem_of_getElem? hy)] at g
      have ov : own (nat2 y) = 1 ∨ own (nat2 y) = 2 := by
        have := o3 (nat2 y)
        have := my.2
        omega
      refine ⟨_, rfl, p, dx', _, rfl, hp', bflds_no _ _ _ (by decide +kernel) (by decide +kernel) (by decide +kernel), _, rfl, _, rfl, _, rfl, o, _, rfl, g, p, d, b, R, C, ow, y.1, y.2, _, rfl, hRC, B3, hc, fun z => absurd my.1 z, fun _ z => absurd ov z, fun _ _ z => absurd ((ho y my.1).2 nin) z, fun _ _ _ => ?_⟩
      have kb := But.upd (H := H2) (a := d) (o := .dT (kvsOf R C (setO ow y.1 y.2 (own (nat2 y)))))
      have npd : p ≠ d := ne_of hp' B3.dc (fun z => nomatch z)
      refine ⟨_, _, rfl, kb.same s3 ndH, ⟨⟨dx', kb _ _ hp' npd⟩, upd_same⟩, kb _ _ l3 (Ne.symm ndl), kb.cells B3.dc (fun _ z => nomatch z) c3, fun x hx => ?_⟩
      have inj : nat2 x = nat2 y ↔ x = y := by
        have := toNat_inj my.1 hx
        unfold nat2
        rw [this]
        obtain ⟨a, b⟩ := x
        obtain ⟨a', b'⟩ := y
        simp
      have et : ks.take (i + 1) = ks.take i ++ [y] := by rw [List.take_add_one, hy]; rfl
      rw [et, List.mem_append, List.mem_singleton, setO_at]
      by_cases e : x = y
      · subst e
        exact ⟨fun _ => by rw [if_pos rfl], fun z => absurd (.inr rfl) z⟩
      · rw [if_neg (fun z => e (inj.mp z))]
        exact ⟨fun z => (ho x hx).1 (z.resolve_right e), fun z => (ho x hx).2 fun z' => z (.inl z')⟩
    · rintro σ H2 ⟨v4, ow, rfl, s3, B3, l3, c3, ho⟩
      have e1 : as.length = ks.length := c3.len
      rw [List.length_map, e1, List.take_length] at ho
      have ek : kvsOf R C ow = kvsOf R C own := by
        unfold kvsOf
        refine List.map_congr_left fun c hc => ?_
        have hb := mem_cells.mp hc
        have hi : inB R C (c.1 : Int) (c.2 : Int) := by unfold inB; omega
        have h2 := ho ((c.1 : Int), (c.2 : Int)) hi
        have en : nat2 ((c.1 : Int), (c.2 : Int)) = c := rfl
        rw [en] at h2
        have : ow c = own c := by
          by_cases m : ((c.1 : Int), (c.2 : Int)) ∈ ks
          · exact h2.1 m
          · rw [h2.2 m]
            by_cases z : own c = 0
            · exact z.symm
            · exact absurd ((od.mem ((c.1 : Int), (c.2 : Int))).mpr ⟨hi, z⟩) m
        rw [this]
      exact ⟨_, rfl, q p d H2 s3 np ndH ⟨B3.ob, by rw [← ek]; exact B3.dc⟩⟩
theorem scOwned : FnScope ["owners", "hand", "owned", "cell"] ["owners", "hand"] (defScope sOwned) := ⟨rfl, rfl, rfl, by decide +kernel, rfl, by decide +kernel, by decide +kernel⟩
theorem ok_owned {f : Addr} {fd : FuncData} (F : Fun K "_law_owned" "_law_owned" sOwned f fd) (T : Txt K mg D) : FnOk P w K mg base (CX1 P w) 1 f fd ["owners", "hand"] spOwned := by
  refine F.ok0 scOwned (fun vs H Q E h => ?_) (fun cdv A outer s H vs Q E hr h => ?_)
  · obtain ⟨R, C, o, own, ks, h, rfl, _⟩ := h
    rfl
  · obtain ⟨R, C, o, own, ks, h, rfl, hR, hC, od, q⟩ := h
    have hu := hu_of hr
    have hz : ks.length ≤ 100 := Nat.le_trans od.len (Nat.mul_le_mul hR hC)
    refine ⟨_, pss_cons (ps_set (i := 2) scOwned.nd rfl (Or.inl rfl) pe_dnewT)
      (pss_cons (ps_for PassesOwn.never rfl (pi_list (pe_callTy (call_listDT rfl) rfl T.tList (by decide +kernel) (pa_cons (pv 0) pa_nil))) (pg_name (i := 3) scOwned.nd rfl (Or.inl rfl))
        (pss_one (ps_if (pt_cmpR op_eq (pe_dget hu (pv 0) (pv 3) (fun _ _ => rfl)) (pv 1) (nomark _)) (pss_one (ps_dput hu (pv 2) (pv 3) pe_bl rfl)) pss_nil)))
      (pss_one (ps_ret (pv 2)))), ?_⟩
    intro o' no
    have s1 : Same H (upd H o' (.dT [])) := Same.upd no
    refine ⟨_, rfl, o, _, rfl, .inl (od.mono s1).dd.1, fun l as nl hp => ?_⟩
    have c0 := cells_kvD hp
    have nol : o' ≠ l := ne_of_none (upd_same (H := H)) nl
    have s2 : Same (upd H o' (.dT [])) (upd (upd H o' (.dT [])) l (.lst (as.map V.ref))) := Same.upd nl
    refine ⟨l, rfl, ⟨_, SqL.of upd_same⟩, for_list (K := K) (a := l) (xs := as.map V.ref)
      (fun i σ H2 => Ex2 fun v3 ks' => An7 (σ = [some (.ref o), some (.int h), some (.ref o'), v3]) (Same H H2) (DD H2 o' ks' (fun _ => .bl true)) (H2 l = some (.lst (as.map V.ref))) (CellsAt H2 as ks) (ks'.length ≤ i) (∀ x : Cl, x ∈ ks' ↔ x ∈ ks.take i ∧ own (nat2 x) = h))
      ?_ (fun i σ H2 _ gz => SqL.of (by obtain ⟨_, _, _, _, _, e, _⟩ := gz; exact e)) ?_ ?_⟩
    · exact ⟨none, [], rfl, s1.trans s2, ⟨s2 _ _ upd_same, List.nodup_nil⟩, upd_same, c0.mono s2, Nat.le_refl _, fun x => by simp⟩
    · rintro i x σ H2 hx ⟨v3, ks', rfl, s3, d3, l3, c3, hi3, ho⟩
      obtain ⟨b, hb, rfl⟩ : ∃ b, as[i]? = some b ∧ x = V.ref b := by
        rw [List.getElem?_map] at hx
        cases z : as[i]? with
        | none => rw [z] at hx; cases hx
        | some b => rw [z] at hx; exact ⟨b, rfl, (Option.some.inj hx).symm⟩
      obtain ⟨y, hy, hc⟩ := c3.get hb
      have hik : i < ks.length := (List.getElem?_eq_some_iff.mp hy).1
      have g := (od.mono s3).dd.get (p := y) hc
      rw [if_pos (List.mem_of_getElem? hy)] at g
      have et : ks.take (i + 1) = ks.take i ++ [y] := by rw [List.take_add_one, hy]; rfl
      refine ⟨_, rfl, _, rfl, o, _, rfl, g, _, rfl, rfl, _, rfl, ite2 (fun e => ?_) (fun e => ?_)⟩
      · have e1 : own (nat2 y) = h := by simpa using e
        refine ⟨_, rfl, _, rfl, o', _, rfl, d3.put (.bl true) hc (by omega), ?_⟩
        have kb := But.upd (H := H2) (a := o') (o := .dT (kvD (putL ks' y) (setF (fun _ => V.bl true) y (.bl true))))
        have ef : kvD (putL ks' y) (setF (fun _ => V.bl true) y (.bl true)) = kvD (putL ks' y) (fun _ => V.bl true) := kvD_congr fun x _ => by unfold setF; split <;> rfl
        refine ⟨_, putL ks' y, rfl, kb.same s3 no, ⟨by rw [upd_same, ef], putL_nd d3.2⟩, kb _ _ l3 (Ne.symm nol), kb.cells d3.1 (fun _ z => nomatch z) c3, Nat.le_trans putL_len1 (by omega), fun x => ?_⟩
        rw [mem_putL, ho x, et, List.mem_append, List.mem_singleton]
        constructor
        · rintro (z | rfl)
          · exact ⟨.inl z.1, z.2⟩
          · exact ⟨.inr rfl, e1⟩
        · rintro ⟨z | z, z2⟩
          · exact .inl ⟨z, z2⟩
          · exact .inr z
      · have e1 : ¬ own (nat2 y) = h := by simpa using e
        refine ⟨_, ks', rfl, s3, d3, l3, c3, by omega, fun x => ?_⟩
        rw [ho x, et, List.mem_append, List.mem_singleton]
        constructor
        · exact fun z => ⟨.inl z.1, z.2⟩
        · rintro ⟨z | rfl, z2⟩
          · exact ⟨z, z2⟩
          · exact absurd z2 e1
    · rintro σ H2 ⟨v3, ks', rfl, s3, d3, l3, c3, hi3, ho⟩
      have e1 : as.length = ks.length := c3.len
      rw [List.length_map, e1, List.take_length] at ho
      exact ⟨_, rfl, q o' H2 ks' s3 no d3 ho⟩
theorem scIsChain : FnScope ["found", "rows", "columns", "hand", "allowed", "cell", "k"] ["found", "rows", "columns", "hand", "allowed"] (defScope sIsChain) := ⟨rfl, rfl, rfl, by decide +kernel, rfl, by decide +kernel, by decide +kernel⟩
theorem ok_isChain {f fZ fN : Addr} {fd fdZ fdN : FuncData} (F : Fun K "_law_is_chain" "_law_is_chain" sIsChain f fd) (T : Txt K mg D) (hset : mg "set" = none)
    (GZ : FnOk P w K mg base (CX1 P w) 2 fZ fdZ ["found", "rows", "columns"] spIsCells) (kZ : PySem.W.keepIn K (.ref fZ) = true) (bZ : Binds K fdZ ["found", "rows", "columns"] []) (mZ : mg "_law_is_cells" = some (.ref fZ))
    (GN : FnOk P w K mg base (CX1 P w) 1 fN fdN ["rows", "columns", "cell"] spLNear) (kN : PySem.W.keepIn K (.ref fN) = true) (bN : Binds K fdN ["rows", "columns", "cell"] []) (mN : mg "_law_near" = some (.ref fN)) :
    FnOk P w K mg base (CX1 P w) 3 f fd ["found", "rows", "columns", "hand", "allowed"] spIsChain := by
  refine F.ok0 scIsChain (fun vs H Q E h => ?_) (fun cdv A outer s H vs Q E hr h => ?_)
  · obtain ⟨R, C, l, o, h, ps, ks, g, rfl, _⟩ := h
    rfl
  · obtain ⟨R, C, l, o, h, ps, ks, g, rfl, hR, hC, hl, dd, ch, q⟩ := h
    have hu := hu_of hr
    have hr1 : Room 1 _ := hr.mono (by decide)
    have hlen : ps.length ≤ 100 := Nat.le_trans (len_in ch.nd ch.inb) (Nat.mul_le_mul hR hC)
    refine ⟨_, pss_cons (ps_if (PW.pt (pw_or (pt_not (pt_val (pe_call GZ hr rfl mZ kZ bZ .nil passN (pa_cons (pv 0) (pa_cons (pv 1) (pa_cons (pv 2) pa_nil))))))
          (pw_or (pt_cmpR op_eq (pe_callB call_len_seq rfl T.len PySem.boot_len (pa_cons (pv 0) pa_nil)) pe_int (nomark _))
          (pw_or1 (pt_cmpR op_ne (pe_callB call_lenS rfl T.len PySem.boot_len (pa_cons (pe_callTy (call_setT rfl hr.units) rfl hset (by decide +kernel) (pa_cons (pv 0) pa_nil)) pa_nil)) (pe_callB call_len_seq rfl T.len PySem.boot_len (pa_cons (pv 0) pa_nil)) (nomark _)))))) (pss_one (ps_ret pe_bl)) pss_nil)
      (pss_cons (ps_for PassesOwn.never rfl (pi_list (pv 0)) (pg_name (i := 5) scIsChain.nd rfl (Or.inl rfl)) (pss_one (ps_if (pt_cmp (pc_dnotin hu (pv 5) (pv 4))) (pss_one (ps_ret pe_bl)) pss_nil)))
      (pss_cons (ps_for PassesOwn.never rfl (pi_range2 rfl T.rng (pa_cons pe_int (pa_cons (pe_callB call_len_seq rfl T.len PySem.boot_len (pa_cons (pv 0) pa_nil)) pa_nil))) (pg_name (i := 6) scIsChain.nd rfl (Or.inl rfl))
        (pss_one (ps_if (pt_cmpR (op_notInC hu) (pe_ix ix_list (pv 0) (pv 6) (fun _ _ => rfl)) (pe_call GN hr1 rfl mN kN bN .nil passN (pa_cons (pv 1) (pa_cons (pv 2) (pa_cons (pe_ix ix_list (pv 0) (pe_op op_sub (pv 6) pe_int) (fun _ _ => rfl)) pa_nil)))) rfl) (pss_one (ps_ret pe_bl)) pss_nil)))
      (pss_cons (ps_if (pt_cmpR op_eq (pv 3) pe_int (nomark _)) (pss_one (ps_ret (pe_and (pe_cmpR op_eq (pe_ix ix_tup (pe_ix ix_list (pv 0) pe_int (fun _ _ => rfl)) pe_int (fun _ _ => rfl)) pe_int (nomark _))
          (pe_one (pe_cmpR op_eq (pe_ix ix_tup (pe_ix ix_list (pv 0) (pe_un un_neg pe_int) (fun _ _ => rfl)) pe_int (fun _ _ => rfl)) (pe_op op_sub (pv 2) pe_int) (nomark _)))))) pss_nil)
      (pss_one (ps_ret (pe_and (pe_cmpR op_eq (pe_ix ix_tup (pe_ix ix_list (pv 0) pe_int (fun _ _ => rfl)) pe_int (fun _ _ => rfl)) pe_int (nomark _))
          (pe_one (pe_cmpR op_eq (pe_ix ix_tup (pe_ix ix_list (pv 0) (pe_un un_neg pe_int) (fun _ _ => rfl)) pe_int (fun _ _ => rfl)) (pe_op op_sub (pv 1) pe_int) (nomark _))))))))), ?_⟩
    have hl0 := hl
    obtain ⟨as, e0, c0⟩ := hl
    have el : as.length = ps.length := c0.len
    refine ⟨_, rfl, _, rfl, _, rfl, R, C, l, ps, rfl, hl0, ch.inb, _, rfl, iteF ?_⟩
    refine ⟨_, rfl, l, _, rfl, .inl (SqL.of e0), rfl, _, rfl, iteN ?_ ?_⟩
    · have := List.length_pos_iff.mpr ch.ne
      simp
      intro z
      rw [z] at el
      simp at el
      omega
    refine ⟨_, rfl, l, as, ps.map fun p => keyC p.1 p.2, rfl, SqL.of e0, cells_keys c0, keys_nd ch.nd, by rw [List.length_map]; omega, fun sA nS => ?_⟩
    have s1 : Same H (upd H sA (setHO sA (ps.map fun p => keyC p.1 p.2).length)) := Same.upd nS
    refine ⟨sA, _, rfl, upd_same, _, rfl, l, _, rfl, .inl (SqL.of (s1 _ _ e0)), rfl, _, rfl, iteN (by simp [el]) ?_⟩
    generalize upd H sA (setHO sA (ps.map fun p => keyC p.1 p.2).length) = H1 at s1 ⊢
    refine ⟨_, rfl, l, rfl, ⟨_, SqL.of (s1 _ _ e0)⟩, for_list (K := K) (a := l) (xs := as.map V.ref) (fun i σ H2 => Ex1 fun v5 => σ = [some (.ref l), some (.int R), some (.int C), some (.int h), some (.ref o), v5, none] ∧ H2 = H1)
      ⟨none, rfl, rfl⟩ (fun i σ H2 _ ⟨_, _, e⟩ => SqL.of (by rw [e]; exact s1 _ _ e0)) ?_ ?_⟩
    · rintro i x σ H2 hx ⟨v5, rfl, rfl⟩
      obtain ⟨b, hb, rfl⟩ := get_ref hx
      obtain ⟨y, hy, hc⟩ := c0.get hb
      have g := (dd.mono s1).get (p := y) (hc.mono s1)
      rw [if_pos (ch.own y (List.mem_of_getElem? hy))] at g
      exact ⟨_, rfl, _, rfl, o, _, rfl, g, _, rfl, iteF ⟨_, rfl, rfl⟩⟩
    · rintro σ H2 ⟨v5, rfl, rfl⟩
      refine ⟨_, rfl, l, _, rfl, .inl (SqL.of (s1 _ _ e0)), 1, ((as.map V.ref).length : Int), rfl, ⟨by omega, by omega, by omega, by rw [List.length_map]; omega⟩, ?_⟩
      refine for_range (fun i σ H3 => Ex1 fun v6 => σ = [some (.ref l), some (.int R), some (.int C), some (.int h), some (.ref o), v5, v6] ∧ Same H2 H3) ⟨none, rfl, Same.refl _⟩ ?_ ?_
      · rintro i σ H3 hi ⟨v6, rfl, s3⟩
        rw [List.length_map] at hi
        have hi1 : i + 1 < ps.length := by omega
        obtain ⟨b1, hb1, hc1⟩ := c0.put (i := i + 1) (p := ps[i + 1]) (List.getElem?_eq_getElem _)
        obtain ⟨b0, hb0, hc0⟩ := c0.put (i := i) (p := ps[i]) (List.getElem?_eq_getElem _)
        have sH := s1.trans s3
        refine ⟨_, rfl, _, rfl, l, _, _, .ref b1, rfl, rfl, SqL.of (sH _ _ e0), (by rw [show ((1 : Int) + (i : Int)) = ((i + 1 : Nat) : Int) by omega]; exact atI_nat (by rw [List.getElem?_map, hb1]; rfl)), ?_⟩
        refine ⟨_, rfl, _, rfl, _, rfl, _, rfl, _, _, rfl, rfl, l, _, _, .ref b0, rfl, rfl, SqL.of (sH _ _ e0), (by rw [show ((1 : Int) + (i : Int) - 1) = ((i : Nat) : Int) by omega]; exact atI_nat (by rw [List.getElem?_map, hb0]; rfl)), ?_⟩
        refine ⟨R, C, b0, _, _, rfl, hc0.mono sH, fun ln H4 s4 n4 hln => ?_⟩
        obtain ⟨asn, en, cn⟩ := hln
        refine ⟨b1, _, _, ln, asn, _, rfl, (hc1.mono sH).mono s4, rfl, SqL.of en, cn, _, rfl, iteN ?_ ?_⟩
        · have lk := ch.link i ps[i] ps[i + 1] (List.getElem?_eq_getElem _) (List.getElem?_eq_getElem _)
          simp [lk]
        · exact ⟨_, rfl, s3.trans s4⟩
      · rintro σ H3 ⟨v6, rfl, s3⟩
        have sH := s1.trans s3
        obtain ⟨p0, f1, f2⟩ := ch.first
        obtain ⟨p1, g1, g2⟩ := ch.last
        rw [List.head?_eq_getElem?] at f1
        rw [List.getLast?_eq_getElem?] at g1
        obtain ⟨b0, hb0, hc0⟩ := c0.put f1
        obtain ⟨b1, hb1, hc1⟩ := c0.put g1
        have ix0 : atI (as.map V.ref) 0 = some (.ref b0) := atI_nat (j := 0) (by rw [List.getElem?_map, hb0]; rfl)
        have ix1 : atI (as.map V.ref) (-1) = some (.ref b1) := by
          have ne : as ≠ [] := fun z => by rw [z] at hb0; cases hb0
          have e1 : as = as.dropLast ++ [b1] := by
            rw [← el, ← List.getLast?_eq_getElem?, List.getLast?_eq_some_getLast ne] at hb1
            rw [← Option.some.inj hb1]
            exact (List.dropLast_concat_getLast ne).symm
          rw [e1, List.map_append]
          exact atI_last _ _
        refine ⟨_, rfl, rfl, _, rfl, ite2 (fun e => ?_) (fun e => ?_)⟩
        · have e1 : h = 1 := by simpa using e
          subst e1
          have q1 := mem_first1.mp f2
          have q2 := onLast1.mp g2
          refine ⟨_, rfl, l, _, _, _, rfl, rfl, SqL.of (sH _ _ e0), ix0, b0, _, _, _, rfl, rfl, SqT.of (hc0.mono sH), atI_nat (j := 1) rfl, rfl, _, rfl, iteY (by simp [q1.2.2]) ?_⟩
          refine ⟨_, rfl, _, rfl, l, _, _, _, rfl, rfl, SqL.of (sH _ _ e0), ix1, b1, _, _, _, rfl, rfl, SqT.of (hc1.mono sH), atI_nat (j := 1) rfl, _, rfl, _, _, rfl, rfl, rfl, ?_⟩
          have := q H3 sH
          simpa [q2] using this
        · have e1 : ¬ h = 1 := by simpa using e
          have q1 := (mem_first2 e1).mp f2
          have q2 := (onLast2 e1).mp g2
          refine ⟨_, rfl, l, _, _, _, rfl, rfl, SqL.of (sH _ _ e0), ix0, b0, _, _, _, rfl, rfl, SqT.of (hc0.mono sH), atI_nat (j := 0) rfl, rfl, _, rfl, iteY (by simp [q1.2.2]) ?_⟩
          refine ⟨_, rfl, _, rfl, l, _, _, _, rfl, rfl, SqL.of (sH _ _ e0), ix1, b1, _, _, _, rfl, rfl, SqT.of (hc1.mono sH), atI_nat (j := 0) rfl, _, rfl, _, _, rfl, rfl, rfl, ?_⟩
          have := q H3 sH
          simpa [q2] using this
end
end K06

set_option maxHeartbeats 4000000

namespace L2
open PySem PySem.Spec PyProof.Rows
section
variable {prog : Program} {w : World} {A : Around} {E : Value → Shared → Prop} {s : Shared}
theorem noTwo {α : Type} (f : α → Int) : ∀ {l : List α} {z : Int}, (l.map f).Nodup → (l.filter fun x => f x == z).length ≤ 1
  | [], _, _ => by simp
  | a :: l, z, h => by
    have h' := List.nodup_cons.mp h
    rw [List.filter_cons]
    by_cases e : f a = z
    · rw [if_pos (by simp [e])]
      have : l.filter (fun x => f x == z) = [] := by
        rw [List.filter_eq_nil_iff]
        intro x hx k
        exact h'.1 (List.mem_map.mpr ⟨x, hx, by rw [e]; simpa using k⟩)
      rw [this]
      simp
    · rw [if_neg (by simp [e])]
      exact noTwo f h'.2
theorem forEmpty {idn : String} {o : Addr} {oo : Obj} {en : Array DictEntry} {pp : Nat} {G : Array DictEntry → Shared → Prop} (q1 : s.heap.get? o = some oo) (q2 : oo.data = .dict en pp) (tk : ∀ e ∈ en.toList, s.TypeIs e.key "tuple" ∧ ∃ a, e.key = .ref a) (un : (en.toList.map (·.hash)).Nodup) (k : G en s) :
    wpAny (model prog w) A (Builtin.Dict.entriesForEmpty idn o) G E s := by
  unfold Builtin.Dict.entriesForEmpty
  refine wpAny_bind (wpAny_dictEntries q1 q2 (wpAny_bind ?_))
  rw [← Array.forIn_toList]
  refine wpAny_forIn_list _ (fun rest _ s' => s' = s ∧ ∀ e ∈ rest, e ∈ en.toList) _ ?_ ?_ _ _ ⟨rfl, fun e he => he⟩
  · rintro e rest b s' ⟨rfl, sub⟩
    obtain ⟨ty, a, ek⟩ := tk e (sub e (by simp))
    refine wpAny_bind ?_
    unfold Builtin.Dict.quietEq
    rw [ek] at ty ⊢
    refine wpAny_bind (wpAny_specialOf ty F.slot_tuple_eq.lookup (wpAny_pure ?_))
    have e0 : ((some (Value.builtin "tuple.__eq__") : Option Value) == some (.builtin "object.__eq__")) = false := by decide +kernel
    rw [e0]
    have e1 : ¬ (en.filter fun x => x.hash == e.hash).size > 1 := by
      have h1 := noTwo (fun x : DictEntry => x.hash) (l := en.toList) (z := e.hash) un
      have h2 : (en.filter fun x => x.hash == e.hash).size = (en.toList.filter fun x => x.hash == e.hash).length := by
        rw [← Array.length_toList, Array.toList_filter]
      omega
    rw [if_pos (show (!false) = true from rfl), if_neg e1]
    exact wpAny_pure ⟨rfl, fun x hx => sub x (List.mem_cons_of_mem _ hx)⟩
  · rintro b s' ⟨rfl, _⟩
    exact wpAny_pure k
theorem call_dict_raw {o : Addr} {oo : Obj} {en : Array DictEntry} {pp : Nat} {G : Value → Shared → Prop} (lo : (o == sysModules) = false) (q1 : s.heap.get? o = some oo) (q0 : oo.ExactDict) (q2 : oo.data = .dict en pp) (ne : en.toList ≠ []) (hz : en.size ≤ sizeLine)
    (tk : ∀ e ∈ en.toList, s.TypeIs e.key "tuple" ∧ ∃ a, e.key = .ref a) (un : (en.toList.map (·.hash)).Nodup)
    (k : ∀ h' od ep, h'.get? s.heap.objs.size = some od → od.ExactDict → od.data = .dict en ep → (∀ b u, s.heap.get? b = some u → h'.get? b = some u) → G (.ref s.heap.objs.size) { s with heap := h' }) :
    wpAny (model prog w) A (call (.type "dict") [.ref o]) G E s := by
  refine callType_codes (Q₁ := fun obj st => obj = .ref s.heap.objs.size ∧ st = { s with heap := s.heap.push { cls := .type "dict", data := .dict #[] } }) F.kt_called_dict (F.kt_typeCall_dict_1 _) F.entry_dict_init (kt_code_dict_new _ ⟨rfl, rfl⟩) ?_
  rintro obj st ⟨rfl, rfl⟩
  have g1 : (s.heap.push { cls := .type "dict", data := .dict #[] }).get? o = some oo := Heap.get?_push_of_some _ q1
  have g2 : (s.heap.push { cls := .type "dict", data := .dict #[] }).get? s.heap.objs.size = some { cls := .type "dict", data := .dict #[] } := Heap.get?_push_size _ rfl
  have xe : ({ cls := .type "dict", data := .dict #[] } : Obj).ExactDict := ⟨rfl, rfl, rfl⟩
  have nd : ¬ (s.heap.objs.size == o) = true := by
    have := Heap.lt_size q1
    simp
    exact Nat.ne_of_gt this
  refine ⟨⟨_, g2, rfl⟩, F.args_dict_init_2 _ _, ?_⟩
  unfold Builtin.«dict.__init__»
  refine wpAny_bind ?_
  unfold Builtin.Dict.selfAndRest
  refine wpAny_bind (wpAny_notOrdered_dict ⟨_, g2, rfl⟩ ?_)
  show wpAny _ _ (pure (s.heap.objs.size, [Value.ref o])) _ _ _
  refine wpAny_pure ?_
  show wpAny _ _ (Builtin.Dict.updateFrom "dict.__init__" s.heap.objs.size (.ref o) [] .none) _ _ _
  unfold Builtin.Dict.updateFrom
  have ty : ({ s with heap := s.heap.push { cls := .type "dict", data := .dict #[] } } : Shared).TypeIs (.ref o) "dict" := ⟨oo, g1, q0.1⟩
  refine wpAny_bind (wpAny_typeOf ty ?_)
  rw [if_neg (by decide)]
  refine wpAny_bind ?_
  unfold Builtin.Dict.merge
  refine wpAny_bind ?_
  unfold Builtin.Dict.readDirectly
  refine wpAny_bind (wpAny_isInstance ty isSubtype_dict_dict ?_)
  simp only [Bool.not_true, Bool.false_eq_true, if_false]
  refine wpAny_bind (wpAny_specialOf ty F.slot_dict_iter.lookup (wpAny_pure ?_))
  simp only [beq_self_eq_true, if_true]
  refine wpAny_bind (wpAny_pure ?_)
  unfold Builtin.Dict.mergeDict
  rw [if_neg nd]
  unfold Builtin.Dict.showsAll
  rw [if_neg (by rw [lo]; exact Bool.false_ne_true)]
  refine wpAny_bind (wpAny_pure (wpAny_bind (wpAny_dictEntries g1 q2 ?_)))
  have few : (decide (en.size ≤ 8) && en.all fun e => (keyPart e.key).isSome) = false := by
    have : (en.all fun e => (keyPart e.key).isSome) = false := by
      rw [← Array.all_toList]
      obtain ⟨x, r, ex⟩ := List.exists_cons_of_ne_nil ne
      obtain ⟨_, a, ek⟩ := tk x (by rw [ex]; simp)
      rw [ex, List.all_cons, ek]
      rfl
    rw [this, Bool.and_false]
  dsimp only
  rw [few, if_pos (show (!false) = true from rfl)]
  refine wpAny_bind (wpAny_dictEntries g2 rfl ?_)
  rw [if_pos (by rfl)]
  refine wpAny_bind (forEmpty g1 q2 (fun e he => ?_) un ?_)
  · obtain ⟨t1, a, ek⟩ := tk e he
    refine ⟨?_, a, ek⟩
    rw [ek] at t1 ⊢
    obtain ⟨ob, h1, h2⟩ := t1
    exact ⟨ob, Heap.get?_push_of_some _ h1, h2⟩
  have nem : (!en.isEmpty) = true := by
    cases z : en.isEmpty with
    | false => rfl
    | true => exact absurd (by rw [Array.isEmpty_iff.mp z]) ne
  rw [if_pos nem]
  refine wpAny_bind (wpAny_updateDictKeysTo g2 rfl (wpAny_pure ?_) (by show en.size ≤ sizeLine + 1; omega))
  show wpAny _ _ (Builtin.Dict.addKeywords s.heap.objs.size [] >>= _) _ _ _
  refine wpAny_bind (wpAny_pure (wpAny_pure ⟨rfl, ?_⟩))
  refine k _ _ 1 (Heap.get?_update_self _ g2 (Obj.isFreed_of_dict (Obj.data_mapDictKeys rfl _))) (xe.mapDictKeys _) (Obj.data_mapDictKeys rfl _) fun b u hb => ?_
  exact ((Heap.SameBut.update ..).2 b (Nat.ne_of_lt (Heap.lt_size hb))).trans (Heap.get?_push_of_some _ hb)
end
section
variable {X : Cx}
theorem kt_hashes {H : Hp} {P : Program} {w : World} : ∀ {kvs : List (List Key × V)} {xs : List (List Key × Addr × Value)}, Paired (fun (p : List Key × V) (q : List Key × Addr × Value) => p.1 = q.1 ∧ H q.2.1 = some (.tup (p.1.map kV)) ∧ RelV p.2 q.2.2) kvs xs →
    (xs.map (entryOfKey (tupleKind (mixKind P w)))).map (·.hash) = kvs.map fun p => tupleKeyHash (mixKind P w) p.1
  | _, _, .nil => rfl
  | _, _, .cons q t => by
    rw [List.map_cons, List.map_cons, List.map_cons, kt_hashes t, q.1]
    rfl
theorem kt_mem {H : Hp} : ∀ {kvs : List (List Key × V)} {xs : List (List Key × Addr × Value)}, Paired (fun (p : List Key × V) (q : List Key × Addr × Value) => p.1 = q.1 ∧ H q.2.1 = some (.tup (p.1.map kV)) ∧ RelV p.2 q.2.2) kvs xs → ∀ x ∈ xs, ∃ ks : List Key, H x.2.1 = some (.tup (ks.map kV))
  | _, _, .nil, x, hx => by simp at hx
  | _, _, .cons q t, x, hx => by
    rcases List.mem_cons.mp hx with rfl | hx
    · exact ⟨_, q.2.1⟩
    · exact kt_mem t x hx
theorem call_dictDT : CallR X (.type "dict") (fun xs H Q => ∃ a kvs, xs = [V.ref a] ∧ H a = some (.dT kvs) ∧ kvs ≠ [] ∧ (kvs.map fun p => tupleKeyHash (mixKind X.prog X.w) p.1).Nodup ∧ ∀ p, H p = none → Q (.ref p) (upd H p (.dT kvs))) := by
  intro pins s σ H xs us Q I r h
  obtain ⟨a, kvs, rfl, ha, ne, un, q⟩ := h
  obtain ⟨u, rfl, ru⟩ := vals1 r
  cases ru
  obtain ⟨z, lo, xs, rel, ob, en, pp, q1, q0, q2, q3, nd⟩ := (show ObjOk X.prog X.w H s.heap a (.dT kvs) from I.hok a _ ha)
  have el : en.size = kvs.length := by
    have e1 : en.toList.length = en.size := by simp
    rw [← e1, q3, List.length_map]
    exact (Paired.length rel).symm
  refine call_dict_raw lo q1 q0 q2 (fun e => ne ?_) (by rw [el]; exact z) (fun e he => ?_) (by rw [q3, kt_hashes rel]; exact un) fun h' od ep g1 g2 g3 g4 => ?_
  · have : en.size = 0 := by
      have e1 : en.toList.length = en.size := by simp
      rw [← e1, e]
      rfl
    exact List.length_eq_zero_iff.mp (by rw [← el]; exact this)
  · rw [q3] at he
    obtain ⟨x, hx, rfl⟩ := List.mem_map.mp he
    obtain ⟨ks, hk⟩ := kt_mem rel x hx
    obtain ⟨o, items, n, k1, k2, _⟩ := key_of I.hok hk
    exact ⟨⟨o, k1, k2⟩, x.2.1, rfl⟩
  · have np := I.hok.fresh (Nat.le_refl s.heap.objs.size)
    refine ⟨.ref s.heap.objs.size, _, I.laid (a := s.heap.objs.size) (o := .dT kvs) (t' := s.toks) g4 (Nat.le_refl _) ?_, rfl, q _ np⟩
    refine ⟨z, beq_eq_false_iff_ne.mpr (Ne.symm (Nat.ne_of_lt I.big)), xs, Paired.mapP rel fun p x y => ⟨y.1, ?_, y.2.2⟩, od, en, ep, g1, g2, g3, q3, nd⟩
    rw [upd_ne (ne_of_none y.2.1 np)]
    exact y.2.1
end
end L2

set_option maxHeartbeats 4000000
namespace Bd
open PySem L2
noncomputable def hashRC (r c : Nat) : Int := reduceHash (Builtin.Tuple.tupleHashOf [hashInt (r : Int), hashInt (c : Int)])
noncomputable def hashL : List Int := [
  -8458139203682520985, -1950498447580522560, 7204814214171964562, -4734289103435588629, 1773351652666409796, -3119722376306286570, -1010439003188656273, -5903513032161352639, 604127723940645786, -4288946305032050580,
  -5164621852614943976, 8389048192121911274, -3550055125485641917, -1440771752368011620, -6333845781340707986, 173794974761290439, -4719279054211405927, -2609995681093775630, 3897645075008222795, -995428953964473571,
  4685526799349444076, 6794810172467074373, 1901736143494378007, 8409376899596376432, 3516302870623680066, -8422800446983873125, -6313517073866242828, 7240152970870612422, -4698950346736940769, 8854719697999914481,
  2248468952609198383, 8756109708711196808, 3863035679738500442, 5972319052856130739, 1079245023883434373, 7586885779985432798, -4352217537622120393, 4803095124130366729, -7136008193477186462, 6417661851259668788,
  -6348126469135965181, 159514286966033244, -9131917124991031250, -2624276368889032825, 3883364387212965600, -1009709641759730766, 1099573731357899531, -3793500297614796835, 2714140458487201590, -2178933570485494776,
  -3054609118068388172, 3453031638033610253, -5838399773923454241, 669240982178544184, -4223833046794152182, 2283807709307846243, -7007623702649218251, -499982946547219826, 6007657809554778599, 1114583780582082233,
  -5491666964808633865, 8062003079928221385, -3877100237679331806, 2630540518422666619, -6660890893534397875, -153250137432399450, -5046324166405095816, 1461316589696902609, 3570599962814532906, -1322474066158163460,
  4358481687155754187, -7580621630451799004, 5973048414285056246, 8082331787402686543, 3189257758429990177, -8749845559177563014, -2242204803075564589, 6913107858676922533, -5025995458930630658, 8527674585806224592,
  1921423840415508494, 8429064596517506919, 3535990567544810553, -8403112750062742638, 752199911689744484, 7259840667791742909, -4679262649815810282, 8874407394921044968, -7463053305670876351, 6090616739065978899,
  -6675171581329655070, -167530825227656645, -5060604854200353011, -2951321481082722714, 3556319275019275711, -1336754753953420655, 5170886002148577770, -4120545409808486724, 2387095346293511701, -2505978682679184665]
theorem hash_is : ((cellsRC 10 10).map fun p => hashRC p.1 p.2) = hashL := by decide +kernel
theorem hash_lit : hashL.Nodup := by decide +kernel
theorem hash_all : ((cellsRC 10 10).map fun p => hashRC p.1 p.2).Nodup := by rw [hash_is]; exact hash_lit
theorem hash_key (P : Program) (w : World) (r c : Nat) : tupleKeyHash (mixKind P w) (keyC r c) = hashRC r c := rfl
theorem map_inj_nd {α β : Type} {f : α → β} : ∀ {l : List α}, (l.map f).Nodup → ∀ a ∈ l, ∀ b ∈ l, f a = f b → a = b
  | [], _, a, ha, _, _, _ => by simp at ha
  | x :: l, h, a, ha, b, hb, e => by
    have h' := List.nodup_cons.mp h
    rcases List.mem_cons.mp ha with e1 | e1
    · rcases List.mem_cons.mp hb with e2 | e2
      · rw [e1, e2]
      · rw [e1] at e
        exact absurd (List.mem_map.mpr ⟨b, e2, e.symm⟩) h'.1
    · rcases List.mem_cons.mp hb with e2 | e2
      · rw [e2] at e
        exact absurd (List.mem_map.mpr ⟨a, e1, e⟩) h'.1
      · exact map_inj_nd h'.2 a e1 b e2 e
theorem nd_of_inj {R C : Nat} (hR : R ≤ 10) (hC : C ≤ 10) (own : Nat × Nat → Int) (g : List Key → Int) (hg : ∀ a ∈ cellsRC 10 10, ∀ b ∈ cellsRC 10 10, g (keyC a.1 a.2) = g (keyC b.1 b.2) → a = b) : ((kvsOf R C own).map fun p => g p.1).Nodup := by
  unfold kvsOf
  rw [List.map_map]
  have in10 : ∀ p ∈ cellsRC R C, p ∈ cellsRC 10 10 := fun p hp => by
    have := mem_cells.mp hp
    exact mem_cells.mpr ⟨by omega, by omega⟩
  exact List.pairwise_map.mpr ((cells_nd R C).imp_of_mem fun {a b} ha hb n e => n (hg a (in10 a ha) b (in10 b hb) e))
theorem hash_inj {P : Program} {w : World} (a : Nat × Nat) (ha : a ∈ cellsRC 10 10) (b : Nat × Nat) (hb : b ∈ cellsRC 10 10) (e : tupleKeyHash (mixKind P w) (keyC a.1 a.2) = tupleKeyHash (mixKind P w) (keyC b.1 b.2)) : a = b := by
  rw [hash_key, hash_key] at e
  exact map_inj_nd hash_all a ha b hb e
theorem hash_nd {P : Program} {w : World} {R C : Nat} (hR : R ≤ 10) (hC : C ≤ 10) (own : Nat × Nat → Int) : ((kvsOf R C own).map fun p => tupleKeyHash (mixKind P w) p.1).Nodup := nd_of_inj hR hC own _ hash_inj
theorem kvs_ne {R C : Nat} (hR : 0 < R) (hC : 0 < C) (own : Nat × Nat → Int) : kvsOf R C own ≠ [] := fun e => by
  have := len_kvs R C own
  rw [e] at this
  have h2 : 0 < R * C := Nat.mul_pos hR hC
  simp at this
  omega
end Bd

set_option maxHeartbeats 4000000
namespace K06
open PySem L2 Bd
noncomputable def spOther : Sp := fun vs H Q _ => ∃ h : Int, vs = [.int h] ∧ Q (.int (3 - h)) H
inductive spCopied (D : Ads) (vs : List V) (H : Hp) (Q : VK) (E' : XK) : Prop
  | mk (p d : Addr) (R C : Nat) (own : Nat × Nat → Int) (y'1 : vs = [.ref p]) (y'2 : 0 < R) (y'3 : 0 < C) (y'4 : R ≤ 10) (y'5 : C ≤ 10) (y'6 : BoardAt D.CB H p d R C own) (y'7 : ∀ p' d' H', Same H H' → H p' = none → H d' = none → BoardAt D.CB H' p' d' R C own → Q (.ref p') H') : spCopied D vs H Q E'
section
variable {P : Program} {w : World} {K : PySem.W.Frag} {mg : Str → Option Value} {base : Heap} {D : Ads}
theorem scOther : FnScope ["hand"] ["hand"] (defScope sOther) := ⟨rfl, rfl, rfl, by decide +kernel, rfl, by decide +kernel, by decide +kernel⟩
theorem ok_other {f : Addr} {fd : FuncData} (F : Fun K "other_hand" "other_hand" sOther f fd) (T : Txt K mg D) : FnOk P w K mg base (CX1 P w) 1 f fd ["hand"] spOther := by
  refine F.ok0 scOther (fun vs H Q E h => ?_) (fun cdv A outer s H vs Q E hr h => ?_)
  · obtain ⟨h, rfl, _⟩ := h
    rfl
  · obtain ⟨h, rfl, k⟩ := h
    exact ⟨_, pss_one (ps_ret (pe_op op_sub pe_int (pv 0))), _, rfl, _, _, rfl, rfl, k⟩
theorem bflds_set (r c : Int) (d d' : Addr) : putF "owners" (.ref d') (bflds r c d) = bflds r c d' := by
  rw [bflds_eq, bflds_eq]
  show (if ("height" : Str) = "owners" then _ else (("height" : Str), V.int r) :: (if ("width" : Str) = "owners" then _ else (("width" : Str), V.int c) :: (if ("owners" : Str) = "owners" then _ else _))) = _
  rw [if_neg n_ho, if_neg n_wo, if_pos rfl]
theorem scCopied : FnScope ["board", "same"] ["board"] (defScope sCopied) := ⟨rfl, rfl, rfl, by decide +kernel, rfl, by decide +kernel, by decide +kernel⟩
theorem ok_copied {f fI fX fY : Addr} {fd fdI fdX fdY : FuncData} (F : Fun K "copied" "copied" sCopied f fd) (T : Txt K mg D) (hdict : mg "dict" = none) (M : Mk K D.CB fI)
    (GI : FnOk P w K mg base (CX1 P w) 2 fI fdI ["self", "rows", "columns"] (spInit D)) (bI : Binds K fdI ["self", "rows", "columns"] [])
    (GX : FnOk P w K mg base (CX1 P w) 1 fX fdX ["self"] (spSize D fun R _ => R)) (bX : Binds K fdX ["self"] []) (mX : Meth K D.CB "rows" fX)
    (GY : FnOk P w K mg base (CX1 P w) 1 fY fdY ["self"] (spSize D fun _ C => C)) (bY : Binds K fdY ["self"] []) (mY : Meth K D.CB "columns" fY) :
    FnOk P w K mg base (CX1 P w) 4 f fd ["board"] (spCopied D) := by
  refine F.ok0 scCopied (fun vs H Q E h => ?_) (fun cdv A outer s H vs Q E hr h => ?_)
  · obtain ⟨p, d, R, C, own, rfl, _⟩ := h
    rfl
  · obtain ⟨p, d, R, C, own, rfl, hR0, hC0, hR, hC, B, q⟩ := h
    have hr1 : Room 1 _ := hr.mono (by decide)
    obtain ⟨dx, hp⟩ := B.ob
    refine ⟨_, pss_cons (ps_set (i := 1) scCopied.nd rfl (Or.inl rfl) (pe_make M GI hr rfl T.mgB bI .nil passN (pa_cons (pe_meth0 (pv 0) T.cl mX GX hr1 bX .nil passN) (pa_cons (pe_meth0 (pv 0) T.cl mY GY hr1 bY .nil passN) pa_nil))))
      (pss_cons (ps_fld (pv 1) (pe_callTy call_dictDT rfl hdict (by decide +kernel) (pa_cons (pe_fld (pv 0) rfl) pa_nil)) rfl)
      (pss_one (ps_ret (pv 1)))), ?_⟩
    refine ⟨_, rfl, p, dx, _, rfl, hp, bflds_no _ _ _ (by decide +kernel) (by decide +kernel) (by decide +kernel), p, d, R, C, own, rfl, B, _, rfl, p, dx, _, rfl, hp, bflds_no _ _ _ (by decide +kernel) (by decide +kernel) (by decide +kernel), p, d, R, C, own, rfl, B, fun p' dx' np ndx nex => ⟨p', dx', R, C, rfl, upd_same, fun R' C' e1 e2 _ _ _ _ d1 H1 nd1 B1 kp => ⟨rfl, ?_⟩, fun z => absurd ⟨⟨by omega, by omega⟩, by omega, by omega⟩ z⟩⟩
    obtain rfl : R = R' := Int.ofNat.inj e1
    obtain rfl : C = C' := Int.ofNat.inj e2
    have s1 : Same H H1 := fun b u e => kp b u (by rw [upd_ne (ne_of_none e np), upd_ne (ne_of_none e ndx)]; exact e) (ne_of_none e np)
    have B' := B.mono s1
    obtain ⟨dx2, hp2⟩ := B'.ob
    obtain ⟨dx3, hp3⟩ := B1.ob
    refine ⟨_, rfl, p, D.CB, dx2, _, _, rfl, hp2, T.cl, T.nO, bflds_o _ _ _, d, _, rfl, B'.dc, kvs_ne hR0 hC0 own, hash_nd hR hC own, fun d' nd' => ?_⟩
    have npd : p' ≠ d' := ne_of_none hp3 nd'
    refine ⟨_, rfl, p', D.CB, dx3, _, rfl, (by rw [upd_ne npd]; exact hp3), T.cl, T.nO, (by rw [bflds_eq]; show 3 < 1000; decide), ?_⟩
    rw [bflds_set]
    have k2 := But.upd (H := upd H1 d' (.dT (kvsOf R C own))) (a := p') (o := .ins D.CB dx3 (bflds R C d'))
    exact ⟨_, rfl, q p' d' _ (k2.same (s1.trans (Same.upd nd')) np) np (s1.free nd') ⟨⟨dx3, upd_same⟩, k2 _ _ upd_same (Ne.symm npd)⟩⟩
end
end K06

set_option maxHeartbeats 4000000
namespace L2
open PySem PySem.Spec PyProof.Rows Att

theorem HOk.butL {P : Program} {w : World} {H : Hp} {h h' : Heap} {L : Addr} (x : HOk P w H h) (hL : H L = none) (k : ∀ b u, b ≠ L → h.get? b = some u → h'.get? b = some u) : HOk P w H h' := fun a o e =>
  (x a o e).stay (fun b u hb q => k b u (fun z => by
    subst z
    rcases hb with rfl | hb
    · rw [hL] at e; cases e
    · rw [hL] at hb; cases hb) q) (fun _ q => q) fun _ _ q => q
theorem ns_unique {h : Heap} {L : Addr} {m m' : Str → Option Value} (a : h.Ns L m) (b : h.Ns L m') : m = m' := by
  obtain ⟨o, es, ep, e, d, _, f⟩ := a
  obtain ⟨o', es', ep', e', d', _, f'⟩ := b
  rw [e] at e'; cases e'
  rw [d] at d'; cases d'
  funext x
  rw [← f, ← f']
theorem lam_refs : ∀ {as : List Addr} {its : List Value}, Vals (as.map V.ref) its → its = as.map Value.ref
  | [], _, .nil => rfl
  | a :: r, _, .cons h t => by
    rw [List.map_cons, ← lam_refs t, (show _ = Value.ref a from h)]
section
variable {X : Cx} {pins : List (Addr × Obj)} {σ : St} {H : Hp} {s : Shared}
theorem Inv.but {h' : Heap} {t' : Nat} {m : Str → Option Value} (I : Inv X pins σ H s) (k : ∀ b u, b ≠ X.env.locals → s.heap.get? b = some u → h'.get? b = some u) (n : s.heap.Ns X.env.locals m) (n' : h'.Ns X.env.locals m) :
    Inv X pins σ H { s with heap := h', toks := t' } := by
  refine I.step (g' := s.gens) (d' := s.drawn) (ch := []) (fun _ z => nomatch z) (fun b o hb _ _ e _ => k b o hb e) (fun b o hb _ _ e _ => ⟨o.slots, k b o hb e⟩) (fun _ _ _ _ z => z) (fun b o _ e => ?_)
    (fun _ _ z => z) (fun _ _ _ z => z) (fun b ps e => ⟨#[], by rw [e]; simp⟩) (fun m' hm => ?_) (I.hok.butL I.free k) I.bare
  · by_cases hb : b = X.env.locals
    · obtain ⟨o', _, _, e', _⟩ := n'
      exact ⟨o', by rw [hb]; exact e'⟩
    · exact ⟨o, k b o hb e⟩
  · rw [← ns_unique n hm]
    exact n'
end

noncomputable def LamT (H : Hp) (pl : Addr) (pos : Pos) (q : Str) : Prop := ∃ ps : Array Value, H pl = some (.tbl ps) ∧ TriplesOk ps.toList ∧
  (codeAmong pos ps.toList = none ∨ ∃ c', codeAmong pos ps.toList = some (.ref c') ∧ H c' = some (.ext fun h => h.CodeRec (.ref c') q))
theorem LamT.mono {H H' : Hp} {pl : Addr} {pos : Pos} {q : Str} (h : LamT H pl pos q) (s : Same H H') : LamT H' pl pos q := by
  obtain ⟨ps, h1, h2, h3⟩ := h
  refine ⟨ps, s _ _ h1, h2, ?_⟩
  rcases h3 with z | ⟨c', z1, z2⟩
  · exact .inl z
  · exact .inr ⟨c', z1, s _ _ z2⟩
theorem LamT.new {H : Hp} {pl : Addr} {pos : Pos} {q : Str} (h : H pl = some (.tbl #[])) : LamT H pl pos q := ⟨#[], h, trivial, .inl rfl⟩
theorem LamT.but {H H' : Hp} {pl a : Addr} {pos : Pos} {q : Str} {o : HO} (h : LamT H pl pos q) (k : Bd.But a H H') (ha : H a = some o) (n1 : ∀ ps, o ≠ .tbl ps) (n2 : ∀ φ, o ≠ .ext φ) : LamT H' pl pos q := by
  obtain ⟨ps, h1, h2, h3⟩ := h
  have ne : ∀ b u, H b = some u → (u ≠ o) → b ≠ a := fun b u e z y => by
    rw [y, ha] at e
    exact z (Option.some.inj e).symm
  refine ⟨ps, k _ _ h1 (ne _ _ h1 fun z => n1 _ z.symm), h2, ?_⟩
  rcases h3 with z | ⟨c', z1, z2⟩
  · exact .inl z
  · exact .inr ⟨c', z1, k _ _ z2 (ne _ _ z2 fun z => n2 _ z.symm)⟩
noncomputable def BmOk (mg : Str → Option Value) (h : Heap) : Prop := ∃ bm ob, mg "__builtins__" = some (.ref bm) ∧ bm ≠ builtinsNs ∧ h.get? bm = some ob ∧ ob.cls = .type "module" ∧ ob.dict = some builtinsNs ∧ ob.data = .plain
section
variable {X : Cx} {pins : List (Addr × Obj)} {σ : St} {H : Hp} {s : Shared}
theorem lam_call {A : Around} {f c' d a cN : Addr} {kvs : List (List Key × V)} {k : List Key} {n : Int} {params : Arguments} {lsc : Scope} {q xn xc : Str} {pm ctv : Value} {p1 p2 p3 : Pos} {h'' : Heap} {tk : Nat} {Q : Value → Shared → Prop} {E : Value → Shared → Prop}
    (I : Inv X pins σ H s) (hr : Room 1 A) (ho : s.heap.get? f = some (PySem.W.kla_obj "<lambda>" q params (.Subscript (.Name xn p1) (.Name xc p2) p3) lsc [(xn, cN)] pm c' ctv)) (hf : f ≠ X.env.locals)
    (hc' : c' ≠ X.env.locals) (hcd : s.heap.CodeRec (.ref c') q) (hcell : s.heap.IsCell cN (some (.ref d))) (hcN : cN ≠ X.env.locals)
    (ed : H d = some (.dT kvs)) (ea : H a = some (.tup (k.map kV))) (ev : valV kvs k = some (.int n)) (kept : ∀ b u, b ≠ X.env.locals → s.heap.get? b = some u → h''.get? b = some u)
    (hbind : bindArgs (PySem.W.kla_fn "<lambda>" q params (.Subscript (.Name xn p1) (.Name xc p2) p3) lsc [(xn, cN)] pm (.ref c') ctv) ⟨[.ref a], []⟩ = pure [(xc, .ref a)])
    (hco : lsc.isCoroutine = false) (hgen : lsc.isGenerator = false) (hk : lsc.kind = .function) (hnc : ∀ x ∈ lsc.names, x.2 ≠ .cell) (hl : lsc.names.lookup xc = some .local) (hfr : lsc.names.lookup xn = some .free)
    (hd1 : (xn == ("__debug__" : Str)) = false) (hd2 : (xc == ("__debug__" : Str)) = false) (hd3 : (xn == ("__classdict__" : Str)) = false)
    (fin : ∀ h₁ tk₁ t, (∀ b u, h''.get? b = some u → h₁.get? b = some u) → Q (.int n t) { s with heap := h₁, toks := tk₁ }) :
    wpAny (model X.prog X.w) A (call (.ref f) [.ref a]) Q E { s with heap := h'', toks := tk } := by
  have base'' : ∀ b o, X.base.get? b = some o → h''.get? b = some o := fun b o e => kept b o (Nat.ne_of_lt (Nat.lt_of_lt_of_le (Heap.lt_size e) (Nat.le_trans I.ok.bsz I.ok.above))) (I.bk b o e)
  have hcd'' : h''.CodeRec (.ref c') q := by
    obtain ⟨c, o, vs, t, e, g, r⟩ := hcd
    cases e
    exact ⟨c', o, vs, t, rfl, kept _ _ hc' g, r⟩
  refine wpAny_call (PySem.W.kla_callFunE hr.depth (kept _ _ hf ho) rfl hco hgen rfl hcd'' ?_)
  rw [hbind]
  refine wpAny_pure (wpAny_newFunctionEnv hnc (fun x hx => ?_) (fun h₁ hns hsb => ⟨(I.mod.nolimit.keeps base'').fresh _ hsb, ?_⟩) hk)
  · rw [List.mem_singleton.mp hx]
    exact hl
  have k₁ : ∀ b u, h''.get? b = some u → h₁.get? b = some u := fun b o e => hsb.extBut b o (Nat.ne_of_lt (Heap.lt_size e)) (Heap.get?_push_of_some _ e)
  refine PySem.W.kla_codeExpr ?_
  have ok₁ : HOk X.prog X.w H h₁ := I.hok.butL I.free fun b u hb e => k₁ b u (kept b u hb e)
  obtain ⟨z, hd, xs, rel, dd⟩ := dt_of ok₁ ed
  obtain ⟨w', hw, rw'⟩ := RelO.some_of (v := .int n) (o := (atKey xs k).map (·.2)) (by rw [← ev]; exact rel.val k)
  obtain ⟨pp, hp, hp2⟩ := Option.map_eq_some_iff.mp hw
  obtain ⟨t, rfl⟩ := rw'
  obtain ⟨oc, hoc, hocd⟩ := hcell
  have hce₁ : h₁.IsCell cN (some (.ref d)) := ⟨oc, k₁ _ _ (kept _ _ hcN hoc), hocd⟩
  refine subD_of PySem.F.slot_dict_getitem.lookup (fun _ _ => rfl) ?_
  refine wpAny_Name (wpAny_loadName_free hk hfr (c := cN) (by show List.lookup xn [(xn, cN)] = _; rw [List.lookup_cons, beq_self_eq_true]) hce₁ ?_ hd3) hd1
  refine wpAny_Name (wpAny_loadName_local hk hl hns (by show List.lookup xc [(xc, Value.ref a)] = _; rw [List.lookup_cons, beq_self_eq_true]) ?_) hd2
  refine ⟨dd.typeIs, wpAny_getItem_heap (tupleKind_room_in1 (hu_of (hr.deeper _))) (key_of ok₁ ea) dd hp ?_⟩
  rw [hp2]
  exact fin _ _ _ k₁
end

noncomputable def tMinK (j : Nat) (pl : Addr) (pos : Pos) (q : Str) (tl : TE) : TE := fun σ H Q => (tCons tl tNil) σ H fun xs H1 => ∃ (l d : Addr) (as : List Addr) (kvs : List (List Key × V)) (f : Addr → Int), xs = [.ref l] ∧ σ[j]? = some (some (.ref d)) ∧
  H1 l = some (.lst (as.map V.ref)) ∧ as ≠ [] ∧ H1 d = some (.dT kvs) ∧ (∀ a ∈ as, ∃ k, H1 a = some (.tup (k.map kV)) ∧ valV kvs k = some (.int (f a))) ∧ LamT H1 pl pos q ∧
  ∀ a ∈ as, (∀ b ∈ as, f a ≤ f b) → ∀ H2, Bd.But pl H1 H2 → LamT H2 pl pos q → Q (.ref a) H2
section
variable {X : Cx}
theorem pe_minkey {j : Nat} {pl c : Addr} {np pos kp lpos p0 p1 p2 p3 : Pos} {tl : TE} {params : Arguments} {lsc : Scope} {q x0 xn xc : Str}
    (hr : Room 2 X.A) (hg : Gl X "min") (hm : X.mg "min" = none) (he : PE X (.Name x0 p0) tl) (hN : X.N[j]? = some xn) (hkd : X.env.scope.names.lookup xn = some .cell)
    (hcode : X.env.code = .ref c) (hC : PySem.W.codeHdIn X.K c pl = true) (hbm : BmOk X.mg X.base) (hq : X.env.qual ++ "<lambda>" = q)
    (hdef : defaultsOf params X.env = ([], [])) (hcl0 : closureFor lsc X.env = pure [(xn, (X.env.cells.lookup xn).getD 0)])
    (hbind : ∀ (pm cdv ct : Value) (cl : List (Str × Addr)) (u : Value), bindArgs (PySem.W.kla_fn "<lambda>" q params (.Subscript (.Name xn p1) (.Name xc p2) p3) lsc cl pm cdv ct) ⟨[u], []⟩ = pure [(xc, u)])
    (hco : lsc.isCoroutine = false) (hgen : lsc.isGenerator = false) (hk : lsc.kind = .function) (hnc : ∀ x ∈ lsc.names, x.2 ≠ .cell) (hl : lsc.names.lookup xc = some .local) (hfr : lsc.names.lookup xn = some .free)
    (hd1 : (xn == ("__debug__" : Str)) = false := by decide) (hd2 : (xc == ("__debug__" : Str)) = false := by decide) (hd3 : (xn == ("__classdict__" : Str)) = false := by decide) :
    PE X (.Call (.Name "min" np) [.Name x0 p0] [⟨some "key", .Lambda params (.Subscript (.Name xn p1) (.Name xc p2) p3) lsc lpos, kp⟩] pos) (tMinK j pl lpos q tl) := by
  intro pins s σ H Q I h
  refine wpAny_Call_Name_kw (ld_blt I hg hm boot_min ?_)
  refine callWith_kw (thn (pa_cons he pa_nil rfl pos pins s σ H _ I h) fun us s1 zq => ?_)
  obtain ⟨vs, H1, I1, r, q1⟩ := zq
  obtain ⟨l, d, as, kvs, f, rfl, ej, el, hne, ed, hval, lam, fin⟩ := q1
  obtain ⟨u, rfl, ru⟩ := vals1 r
  obtain rfl : u = Value.ref l := ru
  obtain ⟨m1, hn1, hl1⟩ := id I1.loc
  obtain ⟨ud, rd, lk⟩ := hl1 j xn (.ref d) hN ej (.inr (.inl hkd))
  obtain rfl : ud = Value.ref d := rd
  have hkd' : X.env.kindOf xn = some .cell := hkd
  rcases lk with ⟨k0, _⟩ | ⟨_, cN, hcN, hcell⟩
  · rw [hkd'] at k0
    cases k0
  have ncN := I1.cne _ _ hcN
  have hcl : closureFor lsc X.env = pure [(xn, cN)] := by rw [hcl0, hcN]; rfl
  have hgs : s1.heap.Ns mainGlobals X.mg := I1.mod.glob.keeps I1.bk
  obtain ⟨bm, ob, b1, b2, b3, b4, b5, b6⟩ := hbm
  obtain ⟨ps, ep, htr, hcase⟩ := lam
  have eP : s1.heap.get? pl = some (PySem.W.tabObj ps) := I1.hok pl _ ep
  have nP : ∀ b, H1 b = none → b ≠ pl := fun b n z => by rw [z, ep] at n; cases n
  have hgP : mainGlobals ≠ pl := by
    obtain ⟨o, es, en, e, hd, _⟩ := hgs
    intro z
    rw [z, eP] at e; cases e; cases hd
  have hbP : bm ≠ pl := fun z => by
    have e := I1.bk _ _ b3
    rw [z, eP] at e; cases e; cases b4
  have hbG : bm ≠ mainGlobals := fun z => by
    obtain ⟨o, es, en, e, hd, _⟩ := hgs
    have e' := I1.bk _ _ b3
    rw [z, e] at e'; cases e'; rw [hd] at b6; cases b6
  have BA : s1.heap.BuiltinsAt X.mg pl := ⟨bm, ob, b1, b2, hbG, hbP, I1.bk _ _ b3, b4, b5, b6⟩
  have CC : PySem.W.CodeHd s1.heap c pl := PySem.W.codeHd_of_K I1.kIn hC
  have core : ∀ (H2 : Hp) (s2 : Shared) (fa c' : Addr) (pm ctv : Value), Inv X pins σ H2 s2 → s2.heap.get? fa = some (PySem.W.kla_obj "<lambda>" q params (.Subscript (.Name xn p1) (.Name xc p2) p3) lsc [(xn, cN)] pm c' ctv) →
      fa ≠ X.env.locals → c' ≠ X.env.locals → s2.heap.CodeRec (.ref c') q → s2.heap.IsCell cN (some (.ref d)) → Bd.But pl H1 H2 → LamT H2 pl lpos q →
      wpAny (model X.prog X.w) X.A (call (.builtin "min") [.ref l] [(Str.ofString "key", .ref fa)]) (EP X pins σ Q) X.xe s2 := by
    intro H2 s2 fa c' pm ctv I2 efa nfa nc hcd hce hbut hlam
    have el2 := hbut l _ el (ne_of el ep fun z => nomatch z)
    have ed2 := hbut d _ ed (ne_of ed ep fun z => nomatch z)
    obtain ⟨hz, its, nn, rv, eo⟩ := (show ObjOk X.prog X.w H2 s2.heap l (.lst (as.map V.ref)) from I2.hok l _ el2)
    obtain rfl := lam_refs rv
    obtain ⟨m, hn, _⟩ := id I2.loc
    have nl : l ≠ X.env.locals := ne_of_none el2 I2.free
    have kept_of : ∀ {h' : Heap} {own : List (Addr × Obj)}, News (noObjs s2.heap) X.env.locals h' (allNews (noObjs s2.heap) s2.heap X.env.locals ++ own) → ∀ b u, b ≠ X.env.locals → s2.heap.get? b = some u → h'.get? b = some u :=
      fun N b u hb e => (N (b, u) (List.mem_append_left _ (mem_allNews hb (noObjs_get _ _) e))).1
    have kept0 : ∀ {h' : Heap}, News (noObjs s2.heap) X.env.locals h' (allNews (noObjs s2.heap) s2.heap X.env.locals) → ∀ b u, b ≠ X.env.locals → s2.heap.get? b = some u → h'.get? b = some u :=
      fun N b u hb e => (N (b, u) (mem_allNews hb (noObjs_get _ _) e)).1
    have getv : ∀ {i : Nat} {v : Value}, (as.map Value.ref)[i]? = some v → ∃ a, as[i]? = some a ∧ v = .ref a ∧ as.getD i 0 = a := fun {i v} hv => by
      rw [List.getElem?_map] at hv
      cases z : as[i]? with
      | none => rw [z] at hv; cases hv
      | some a =>
        rw [z] at hv
        exact ⟨a, rfl, (Option.some.inj hv).symm, by rw [List.getD_eq_getElem?_getD, z]; rfl⟩
    refine kmk_min (kf := fun i => f (as.getD i 0)) hr.hd (fr_all hn) news_all (fun h' F' N' => ⟨_, kept0 N' l _ nl eo, rfl, nn, rfl⟩) (by rw [List.length_map]; exact List.length_pos_iff.mpr hne) (fun i v hv h' tk own F' N' => ?_) (fun i v h' tk' hv hbest F' N' => ?_)
    · obtain ⟨a, ha, rfl, eg⟩ := getv hv
      obtain ⟨k, ek, evk⟩ := hval a (List.mem_of_getElem? ha)
      refine lam_call I2 hr.in1 efa nfa nc hcd hce ncN ed2 (hbut a _ ek (ne_of ek ep fun z => nomatch z)) (n := f (as.getD i 0)) (by rw [eg]; exact evk) (kept_of N') (hbind _ _ _ _ _) hco hgen hk hnc hl hfr hd1 hd2 hd3 fun h₁ tk₁ t k₁ => ?_
      obtain ⟨oL, x1, x2, hoL, x3⟩ := F'.ns
      exact ⟨h₁, tk₁, t, rfl, rfl, ⟨⟨oL, x1, x2, k₁ _ _ hoL, x3⟩, fun b o e => (by rw [noObjs_get] at e; cases e), F'.above⟩, fun p hp => ⟨k₁ _ _ (N' p hp).1, (N' p hp).2⟩⟩
    · obtain ⟨a, ha, rfl, eg⟩ := getv hv
      refine ⟨.ref a, H2, I2.but (kept0 N') hn F'.ns, rfl, fin a (List.mem_of_getElem? ha) (fun b hb => ?_) H2 hbut hlam⟩
      obtain ⟨i', hi'⟩ := List.getElem?_of_mem hb
      have hlt : i' < (as.map Value.ref).length := by
        rw [List.length_map]
        exact (List.getElem?_eq_some_iff.mp hi').1
      have := (hbest i' hlt).1
      have eb : as.getD i' 0 = b := by rw [List.getD_eq_getElem?_getD, hi']; rfl
      rw [eg, eb] at this
      exact this
  refine kws_cons (PySem.W.kla_eval hdef ?_)
  rw [hq]
  have nLP : X.env.locals ≠ pl := nP _ I1.free
  rcases hcase with hnf | ⟨c', hhit, ec'⟩
  · refine PySem.W.kla_makeFunction (mg := X.mg) hcl I1.ok.glob hgs hcode CC eP htr hnf hgP BA fun c' ctv h' tk hx hge hlt hrec htb => ?_
    refine kws_nil ?_
    have fr : H1 c' = none := I1.hok.fresh hge
    have ncp : pl ≠ c' := ne_of_none ep fr
    have kL : ∀ b u, b ≠ pl → s1.heap.get? b = some u → ∀ ob, (h'.push ob).get? b = some u := fun b u hb e ob => Heap.get?_push_of_some _ (hx b u hb e)
    have hLt := I1.lt
    refine core (upd (upd H1 pl (.tbl (ps ++ #[rawInt lpos.line, rawInt lpos.col, .ref c']))) c' (.ext fun h => h.CodeRec (.ref c') q)) _ h'.objs.size c' _ ctv ?_ (Heap.get?_push_size _ rfl)
      (Nat.ne_of_gt (Nat.lt_trans (Nat.lt_of_lt_of_le hLt hge) hlt)) (Nat.ne_of_gt (Nat.lt_of_lt_of_le hLt hge)) (hrec.push _) ?_ ?_ ?_
    · refine I1.step (g' := s1.gens) (d' := s1.drawn) (ch := []) (fun _ z => nomatch z) (fun b o _ _ _ e n => kL b o (nP b n) e _) (fun b o _ _ _ e n => ⟨o.slots, kL b o (nP b n) e _⟩) (fun b o _ e n => ?_) (fun b o _ e => ?_) (fun b xs e => ?_) (fun b o u e => ?_) (fun b ps' e => ?_) (fun m hm => (hm.extBut hx nLP).push _) (fun a o e => ?_) I1.bare
      · rw [upd_ne (Nat.ne_of_lt (Nat.lt_of_lt_of_le (Heap.lt_size e) hge)), upd_ne (nP b n)]
        exact n
      · by_cases hb : b = pl
        · rw [hb]
          exact ⟨_, Heap.get?_push_of_some _ htb⟩
        · exact ⟨o, kL b o hb e _⟩
      · rw [upd_ne (ne_of_none e fr), upd_ne (ne_of e ep fun z => nomatch z)]
        exact e
      · rw [upd_ne (ne_of_none e fr), upd_ne (ne_of e ep fun z => nomatch z)]
        exact e
      · by_cases hb : b = pl
        · subst hb
          rw [ep] at e
          cases e
          exact ⟨_, by rw [upd_ne ncp, upd_same]⟩
        · exact ⟨#[], by rw [upd_ne (ne_of_none e fr), upd_ne hb, e]; simp⟩
      · by_cases ha : a = c'
        · subst ha
          rw [upd_same] at e
          cases e
          refine ⟨hrec.push _, ?_, fun h1 h2 p kk => ?_⟩
          · obtain ⟨c2, oc, vs, t, e2, hoc, _⟩ := hrec
            cases e2
            exact ⟨oc, Heap.get?_push_of_some _ hoc⟩
          · obtain ⟨c2, oc, vs, t, e2, hoc, r2⟩ := p
            cases e2
            exact ⟨_, oc, vs, t, rfl, kk _ hoc, r2⟩
        · rw [upd_ne ha] at e
          by_cases hp : a = pl
          · subst hp
            rw [upd_same] at e
            cases e
            exact Heap.get?_push_of_some _ htb
          · rw [upd_ne hp] at e
            refine (I1.hok a o e).stay (fun b u hb e2 => kL b u (fun z => ?_) e2 _) (fun b e2 => ?_) fun b xs e2 => ?_
            · rcases hb with hb | hb
              · exact hp (hb.symm.trans z)
              · rw [z, ep] at hb
                cases hb
            · rw [upd_ne (ne_of_none e2 fr), upd_ne (ne_of e2 ep fun z => nomatch z)]
              exact e2
            · rw [upd_ne (ne_of_none e2 fr), upd_ne (ne_of e2 ep fun z => nomatch z)]
              exact e2
    · obtain ⟨oc, hoc, hocd⟩ := hcell
      exact ⟨oc, kL _ _ (nP _ (I1.freeC _ _ hcN)) hoc _, hocd⟩
    · exact fun b o e n => by
        rw [upd_ne (ne_of_none e fr), upd_ne n]
        exact e
    · refine ⟨_, by rw [upd_ne ncp, upd_same], ?_, .inr ⟨c', ?_, upd_same⟩⟩
      · rw [Array.toList_append]
        exact TriplesOk_snoc _ _ _ _ htr
      · rw [Array.toList_append]
        exact codeAmong_snoc _ htr hnf
  · refine PySem.W.kla_makeFunctionHit (mg := X.mg) hcl I1.ok.glob hgs hcode CC eP htr hhit BA fun ctv h' tk hk' hsz => ?_
    refine kws_nil ?_
    obtain ⟨hrec, _, _⟩ := (show ObjOk X.prog X.w H1 s1.heap c' (.ext fun h => h.CodeRec (.ref c') q) from I1.hok c' _ ec')
    have kk : ∀ b u, s1.heap.get? b = some u → ∀ ob, (h'.push ob).get? b = some u := fun b u e ob => Heap.get?_push_of_some _ (hk' b u e)
    refine core H1 _ h'.objs.size c' _ ctv (I1.kept fun b u e => kk b u e _) (Heap.get?_push_size _ rfl) (Nat.ne_of_gt (Nat.lt_of_lt_of_le I1.lt hsz)) (ne_of_none ec' I1.free) (hrec.keeps fun b u e => kk b u e _) ?_ (fun _ _ e _ => e) ⟨ps, ep, htr, .inr ⟨c', hhit, ec'⟩⟩
    obtain ⟨oc, hoc, hocd⟩ := hcell
    exact ⟨oc, kk _ _ hoc _, hocd⟩
end

theorem law_callT {P : Program} {w : World} {K : PySem.W.Frag} {mg mb : Str → Option Value} {CX : CXT} {k : Nat} {fa a pl c : Addr} {fd : FuncData} {x : Str} {sp : Sp} {s₁ : Shared} {vs : List Value} {ns : List Int}
    (KX : K.In s₁.heap) (hns : s₁.heap.Ns mainGlobals mg) (hb : s₁.heap.Ns builtinsNs mb) (hbb : ∀ x : Str, x ≠ "__name__" → mb x = bootBuiltins x) (hlim : s₁.heap.NoLimit) (hg : s₁.gens = #[])
    (hbm : BmOk mg s₁.heap) (hpl : s₁.heap.get? pl = some (PySem.W.tabObj #[])) (hKp : K.lookup pl = none) (hC : PySem.W.codeHdIn K c pl = true)
    (ha : s₁.heap.get? a = some { cls := .type "list", data := .seq vs.toArray }) (hi : IntsAre vs ns) (hl : ns.length ≤ sizeLine) (hr : Room k callerA)
    (F : ∀ base : Heap, K.In base → base.Ns mainGlobals mg → BmOk mg base → FnOk P w K mg base CX k fa fd [x] sp) (hbind : ∀ (s : Shared) (u : Value), BindsTo s fd ⟨[u], []⟩ [(x, u)])
    (hsp : ∀ H : Hp, H pl = some (.tbl #[]) → SqL K H a (ns.map V.int) → sp [.ref a] H (fun v _ => v = .bl true) fun _ _ _ => False)
    (hCX : ∀ H e s', CX [] H s₁ (fun _ _ _ => False) e s' → False) :
    codeAny (model P w) callerA (.call (.ref fa) ⟨[.ref a], []⟩) (fun r s' => r = .ok (.ret (.bool true)) ∧ OldK s₁.heap s'.heap ∧ s'.os = s₁.os ∧ AllBare s'.gens) s₁ := by
  have rv := vals_ints hi
  have lenV := hi.length
  have nap : a ≠ pl := fun z => by
    rw [z, hpl] at ha
    exact nomatch (show Value.none = Value.type "list" from congrArg Obj.cls (Option.some.inj ha))
  have hct := ((PySem.W.codeHd_of_K KX hC).tab hpl).isCodeTable
  have core : ∀ H : Hp, (∀ b, H b = none ∨ (∃ xs, b = a ∧ H b = some (.frz { cls := .type "list", data := .seq vs.toArray } (.lst xs))) ∨ (b = pl ∧ H b = some (.tbl #[]))) → H pl = some (.tbl #[]) → SqL K H a (ns.map V.int) → HOk P w H s₁.heap → (H a ≠ none → K.lookup a = none) →
      codeAny (model P w) callerA (.call (.ref fa) ⟨[.ref a], []⟩) (fun r s' => r = .ok (.ret (.bool true)) ∧ OldK s₁.heap s'.heap ∧ s'.os = s₁.os ∧ AllBare s'.gens) s₁ := by
    intro H hO hP hS hok hK
    have free : ∀ {b : Addr} {o : Obj}, s₁.heap.get? b = some o → o ≠ { cls := .type "list", data := .seq vs.toArray } → o ≠ PySem.W.tabObj #[] → H b = none := fun {b o} e n1 n2 => by
      rcases hO b with z | ⟨xs, z, _⟩ | ⟨z, _⟩
      · exact z
      · rw [z, ha] at e
        exact absurd (Option.some.inj e).symm n1
      · rw [z, hpl] at e
        exact absurd (Option.some.inj e).symm n2
    have nsK : ∀ {b : Addr} {m : Str → Option Value}, s₁.heap.Ns b m → (hidT s₁.heap H).Ns b m := fun {b m} ⟨o, es, ep, e, d, r⟩ => ⟨o, es, ep, hidT_get e (free e (fun z => by rw [z] at d; have d' : Data.seq vs.toArray _ = Data.dict es ep := d; cases d') (fun z => by rw [z] at d; have d' : Data.fields #[] = Data.dict es ep := d; cases d')), d, r⟩
    have hKb : K.In (hidT s₁.heap H) := fun b o e => hidT_get (KX b o e) (by
      rcases hO b with z | ⟨xs, z, z2⟩ | ⟨z, _⟩
      · exact z
      · rw [z, hK (by rw [← z, z2]; simp)] at e
        cases e
      · rw [z, hKp] at e
        cases e)
    have hM : Mod K mg (hidT s₁.heap H) := ⟨hKb, nsK hns, ⟨mb, nsK hb, hbb⟩, let ⟨mc, h1, h2⟩ := hlim; ⟨mc, nsK h1, h2⟩⟩
    have hB : BmOk mg (hidT s₁.heap H) := let ⟨bm, ob, b1, b2, b3, b4, r⟩ := hbm; ⟨bm, ob, b1, b2, hidT_get b3 (free b3 (fun z => by rw [z] at b4; exact absurd (show Value.type "list" = Value.type "module" from b4) (by decide)) (fun z => by rw [z] at b4; exact nomatch (show Value.none = Value.type "module" from b4))), b4, r⟩
    have e0 : Env0 P w K mg (hidT s₁.heap H) callerA [] s₁ H := ⟨rfl, hM, fun b o e => of_hidT e, Nat.le_of_eq (hidT_size _ _), trivial, fun b hb => absurd (show b ∈ ([] : List Addr) from hb) (by simp), hok, .of_eq hg⟩
    refine codeAny_mono ((F _ hKb (nsK hns) hB).run callerA [] s₁ H ⟨[.ref a], []⟩ [.ref a] [.ref a] _ _ hr e0 (hbind s₁ (.ref a)) (.cons rfl .nil) (hsp H hP hS)) fun r s' h => ?_
    cases r with
    | error e => exact (hCX H e s' h).elim
    | ok fl =>
      cases fl with
      | next => exact False.elim h
      | brk => exact False.elim h
      | cont => exact False.elim h
      | ret u =>
        obtain ⟨v, H', os, bare, un, hok', r', q⟩ := h
        have q' : v = .bl true := q
        subst q'
        obtain rfl : u = Value.bool true := r'
        have kp : ∀ b o, b ≠ pl → s₁.heap.get? b = some o → s'.heap.get? b = some o := fun b o hb e => by
          rcases hO b with z | ⟨xs, _, z⟩ | ⟨z, _⟩
          · exact un.keep b o e z (by intro y; exact absurd (show b ∈ ([] : List Addr) from y) (by simp)) (by simp)
          · have z2 := un.frzs b _ _ z
            obtain ⟨e1, _⟩ := hok b _ z
            obtain ⟨e2, _⟩ := hok' b _ z2
            rw [e] at e1; cases e1
            exact e2
          · exact absurd z hb
        obtain ⟨more, hm⟩ := un.tbls pl _ hP
        have hp' : s'.heap.get? pl = some (PySem.W.tabObj (#[] ++ more)) := hok' pl _ hm
        refine ⟨rfl, ⟨fun b o e => ?_, fun b o e => ?_⟩, os, bare⟩
        · by_cases hb : b = pl
          · subst hb
            rw [hpl] at e
            cases e
            exact .inr (.inl ⟨hct, rfl, #[], more, rfl, hp'⟩)
          · exact .inl (kp b o hb e)
        · by_cases hb : b = pl
          · rw [hb]
            exact ⟨_, hp'⟩
          · exact ⟨o, kp b o hb e⟩
  cases hk : K.lookup a with
  | some o =>
    have e := KX a o hk
    rw [ha] at e
    cases e
    refine core (upd (fun _ => none) pl (.tbl #[])) (fun b => ?_) upd_same (.inr ⟨_, vs.toArray, _, hk, rfl, rfl, rfl, by rw [List.size_toArray, lenV]; exact hl, by simpa using rv⟩) (fun b u z => ?_) fun z => absurd (upd_ne nap) z
    · by_cases hb : b = pl
      · exact .inr (.inr ⟨hb, by rw [hb, upd_same]⟩)
      · exact .inl (upd_ne hb)
    · by_cases hb : b = pl
      · subst hb
        rw [upd_same] at z
        cases z
        exact hpl
      · rw [upd_ne hb] at z
        cases z
  | none =>
    refine core (upd (upd (fun _ => none) a (.frz { cls := .type "list", data := .seq vs.toArray } (.lst (ns.map V.int)))) pl (.tbl #[])) (fun b => ?_) upd_same (.inl (.inr ⟨{ cls := .type "list", data := .seq vs.toArray }, by rw [upd_ne nap, upd_same]⟩)) (fun b u z => ?_) fun _ => hk
    · by_cases hb : b = pl
      · exact .inr (.inr ⟨hb, by rw [hb, upd_same]⟩)
      · rw [upd_ne hb]
        by_cases hc : b = a
        · exact .inr (.inl ⟨_, hc, by rw [hc, upd_same]⟩)
        · exact .inl (upd_ne hc)
    · by_cases hb : b = pl
      · subst hb
        rw [upd_same] at z
        cases z
        exact hpl
      · rw [upd_ne hb] at z
        by_cases hc : b = a
        · subst hc
          rw [upd_same] at z
          cases z
          exact ⟨ha, by rw [List.length_map]; exact hl, vs, _, rv, ha⟩
        · rw [upd_ne hc] at z
          cases z
theorem walk_ofT {l : PySem.W.OpenLaw} {n k : Nat} {q : Program} {loose : List Str} {XP : (Str → Option Value) → Heap → Prop} {YP : World → Heap → Prop} {d : DefRec} {K : Params → PySem.W.Frag} {CX : World → CXT} {sp : PySem.W.Frag → Sp} {x : Str} {pl : Addr}
    (hn : l.most = some n) (hn2 : n ≤ sizeLine) (hdf : d.params.defaults = []) (hr : Room k callerA)
    (hY : ∀ (w : World) (h : Heap), YP w h → (K w.params).In h ∧ h.get? pl = some (PySem.W.tabObj #[]))
    (F : ∀ (w : World) (mg : Str → Option Value) (fa : Addr) (h : Heap), (K w.params).In h → h.Ns mainGlobals mg → mg d.name = some (.ref fa) →
      ∃ (fd : FuncData) (c : Addr), (∀ (s : Shared) (u : Value), BindsTo s fd ⟨[u], []⟩ [(x, u)]) ∧ (K w.params).lookup pl = none ∧ PySem.W.codeHdIn (K w.params) c pl = true ∧
        ∀ base : Heap, (K w.params).In base → base.Ns mainGlobals mg → BmOk mg base → FnOk l.prog w (K w.params) mg base (CX w) k fa fd [x] (sp (K w.params)))
    (hsp : ∀ (K : PySem.W.Frag) (H : Hp) (a : Addr) (ns : List Int), ns.length ≤ n → H pl = some (.tbl #[]) → SqL K H a (ns.map V.int) → sp K [.ref a] H (fun v _ => v = .bl true) fun _ _ _ => False)
    (hCX : ∀ (w : World) (H : Hp) (s : Shared) (e : Value) (s' : Shared), CX w [] H s (fun _ _ _ => False) e s' → False) :
    PySem.W.WalkO q loose XP YP l.row.toRowW d [] (fun f vs => PySem.call f vs) := by
  refine Att.attach_call hn hdf fun w s₀ s₁ mg mb fa o pm cd doc a vs ns G Y ho hd hcd hmg hobj hints hlen hg => ?_
  obtain ⟨KX, hpl⟩ := hY w _ Y
  obtain ⟨fd, c, hb, hKp, hC, hF⟩ := F w mg fa _ KX G.T.g hmg
  exact law_callT KX G.T.g G.T.b G.T.builtins G.T.nolimit hg G.T.bmain hpl hKp hC hobj hints (Nat.le_trans hlen hn2) hr hF hb (fun H hP hS => hsp _ H a ns hlen hP hS) fun H e s' => hCX w H s₁ e s'
section
variable {P : Program} {w : World} {K : PySem.W.Frag} {mg : Str → Option Value} {base : Heap}
theorem Fun.ok1c {x qual : Str} {st : Stmt} {f : Addr} {fd : FuncData} {N ps : List Str} {k : Nat} {sp : Sp} (F : Fun K x qual st f fd) (S : FnScope N ps (defScope st)) (len : ∀ vs H Q E, sp vs H Q E → vs.length = ps.length)
    (hbody : ∀ (cdv : Value) (A : Around) (outer : List Env) (s : Shared) (H : Hp) (vs : List V) (Q : VK) (E : XK), fd.code = cdv → Room k (A.deeper (envOfC qual (defScope st) s.heap.objs.size f cdv)) → sp vs H Q E →
      ∃ t, PSs (cxOf (CX1 P w) P w K mg base N qual (defScope st) f cdv A outer s H E) (defBody st) t ∧ t { nx := fun _ H' => Q .non H', rt := Q } (start N vs) H) : FnOk P w K mg base (CX1 P w) (k + 1) f fd ps sp := by
  obtain ⟨oc, od, kV, doc, pm, an, cdv, ct, osl, rfl, lk, hcd⟩ := F.ex
  exact fn_of lk hcd S len fun A outer s H vs Q E hr hsp => hbody cdv A outer s H vs Q E rfl hr hsp
end
end L2

set_option maxHeartbeats 4000000
namespace L2
open PySem PySem.Spec PyProof.Rows
theorem pe_thawN {X : Cx} {e : Expr} {te : TE} (he : PE X e te) : PE X e (fun σ H Q => te σ H fun v H1 => ∃ a o kvs, H1 a = some (.frz o (.dT kvs)) ∧ X.H₀ a = none ∧ Q v (upd H1 a (.dT kvs))) := by
  intro pins s σ H Q I h
  refine thn (he pins s σ H _ I h) fun v s1 zq => ?_
  obtain ⟨x, H1, I1, r1, a, o, kvs, ha, h0, q⟩ := zq
  exact ⟨x, _, I1.thaw ha (fun o' u' z => by rw [h0] at z; cases z) (fun ys z => by rw [h0] at z; cases z) (fun ps z => by rw [h0] at z; cases z), r1, q⟩
end L2
namespace Bd
open PySem L2
noncomputable def passB (R C : Nat) (own : Nat × Nat → Int) (h : Int) (p : Cl) : Prop := inB R C p.1 p.2 ∧ own (nat2 p) ≠ 3 - h
noncomputable def prB (own : Nat × Nat → Int) (p : Cl) : Nat := if own (nat2 p) = 0 then 1 else 0
theorem prB_le (own : Nat × Nat → Int) (p : Cl) : prB own p ≤ 1 := by
  unfold prB
  split <;> omega
theorem prB_1 {own : Nat × Nat → Int} {p : Cl} : prB own p = 1 ↔ own (nat2 p) = 0 := by
  unfold prB
  split <;> simp_all
noncomputable def But2 (a b : Addr) (H H' : Hp) : Prop := ∀ x o, H x = some o → x ≠ a → x ≠ b → H' x = some o
theorem But2.same {a b : Addr} {H H' H'' : Hp} (k : But2 a b H H') (s : Same H' H'') : But2 a b H H'' := fun x o e n m => s _ _ (k x o e n m)
theorem But2.but {a b l : Addr} {H H' H'' : Hp} (k : But2 a b H H') (s : But l H' H'') (h : l = a ∨ l = b ∨ H l = none) : But2 a b H H'' := fun x o e n m => s _ _ (k x o e n m) fun z => by
  rcases h with y | y | y
  · exact n (z.trans y)
  · exact m (z.trans y)
  · rw [z, y] at e
    cases e
theorem But2.board {CB : Addr} {H H' : Hp} {a b p d : Addr} {R C : Nat} {own : Nat × Nat → Int} (k : But2 a b H H') (ha : H a = some (.dT [])) (hb : H b = some (.dT [])) (hR : 0 < R) (hC : 0 < C) (B : BoardAt CB H p d R C own) : BoardAt CB H' p d R C own := by
  obtain ⟨dx, hp⟩ := B.ob
  have ne := kvs_ne hR hC own
  exact ⟨⟨dx, k p _ hp (ne_of hp ha fun z => nomatch z) (ne_of hp hb fun z => nomatch z)⟩, k d _ B.dc (ne_of B.dc ha fun z => ne (by injection z)) (ne_of B.dc hb fun z => ne (by injection z))⟩
noncomputable def NumAt (H : Hp) (a : Addr) (ks : List Cl) (N : Cl → Nat) : Prop := DD H a ks fun p => V.int ((N p : Nat) : Int)
theorem setF_int (N : Cl → Nat) (q : Cl) (n : Nat) : setF (fun p => V.int ((N p : Nat) : Int)) q (V.int (n : Int)) = fun p => V.int ((setF N q n p : Nat) : Int) := by
  funext p
  unfold setF
  split <;> rfl
theorem NumAt.put {H : Hp} {a b : Addr} {ks : List Cl} {N : Cl → Nat} {q : Cl} (n : Nat) (h : NumAt H a ks N) (hc : CellAt H b q.1 q.2) (hz : ks.length ≤ 999) :
    ∃ H5, DPut H a (.ref b) (.int (n : Int)) H5 ∧ NumAt H5 a (putL ks q) (setF N q n) ∧ But a H H5 := by
  have hp := DD.put (.int (n : Int)) h hc hz
  rw [setF_int] at hp
  exact ⟨_, hp, DD.new (putL_nd h.2), But.upd⟩
theorem NumAt.get {H : Hp} {a b : Addr} {ks : List Cl} {N : Cl → Nat} {q : Cl} (h : NumAt H a ks N) (hc : CellAt H b q.1 q.2) : DGet H a (.ref b) (if q ∈ ks then some (V.int (N q : Int)) else none) := DD.get h hc
noncomputable def AhdAt (H : Hp) (a : Addr) (ks : List Cl) (A : Cl → Option Cl) : Prop := ∃ g : Cl → V, DD H a ks g ∧ ∀ p ∈ ks, (A p = none ∧ g p = .non) ∨ ∃ q b, A p = some q ∧ g p = .ref b ∧ CellAt H b q.1 q.2
theorem AhdAt.isT {H : Hp} {a : Addr} {ks : List Cl} {A : Cl → Option Cl} (h : AhdAt H a ks A) : ∃ kvs, H a = some (.dT kvs) := let ⟨_, h1, _⟩ := h; ⟨_, h1.1⟩
theorem AhdAt.mono {H H' : Hp} {a : Addr} {ks : List Cl} {A : Cl → Option Cl} (h : AhdAt H a ks A) (s : Same H H') : AhdAt H' a ks A := by
  obtain ⟨g, h1, h2⟩ := h
  refine ⟨g, h1.mono s, fun p hp => ?_⟩
  rcases h2 p hp with z | ⟨q, b, z1, z2, z3⟩
  · exact .inl z
  · exact .inr ⟨q, b, z1, z2, z3.mono s⟩
theorem AhdAt.but {H H' : Hp} {a l : Addr} {ks : List Cl} {A : Cl → Option Cl} {o : HO} (h : AhdAt H a ks A) (k : But l H H') (hl : H l = some o) (no : ∀ xs, o ≠ .tup xs) (n : a ≠ l) : AhdAt H' a ks A := by
  obtain ⟨g, h1, h2⟩ := h
  refine ⟨g, h1.but k n, fun p hp => ?_⟩
  rcases h2 p hp with z | ⟨q, b, z1, z2, z3⟩
  · exact .inl z
  · exact .inr ⟨q, b, z1, z2, k.cell hl no z3⟩
theorem AhdAt.put {H : Hp} {a b : Addr} {ks : List Cl} {A : Cl → Option Cl} {q : Cl} {o : Option Cl} {v : V} (h : AhdAt H a ks A) (hc : CellAt H b q.1 q.2) (hz : ks.length ≤ 999)
    (hv : (o = none ∧ v = .non) ∨ ∃ x t, o = some x ∧ v = .ref t ∧ CellAt H t x.1 x.2) : ∃ H5, DPut H a (.ref b) v H5 ∧ AhdAt H5 a (putL ks q) (setF A q o) ∧ But a H H5 := by
  obtain ⟨g, h1, h2⟩ := h
  have kp := But.upd (H := H) (a := a) (o := .dT (kvD (putL ks q) (setF g q v)))
  have no : ∀ xs, HO.dT (kvD ks g) ≠ .tup xs := fun _ z => nomatch z
  refine ⟨_, h1.put v hc hz, ⟨setF g q v, DD.new (putL_nd h1.2), fun p hp => ?_⟩, kp⟩
  by_cases e : p = q
  · subst e
    rw [setF_same, setF_same]
    rcases hv with z | ⟨x, t, z1, z2, z3⟩
    · exact .inl z
    · exact .inr ⟨x, t, z1, z2, kp.cell h1.1 no z3⟩
  · rw [setF_ne _ _ e, setF_ne _ _ e]
    rcases mem_putL.mp hp with m | m
    · rcases h2 p m with z | ⟨x, t, z1, z2, z3⟩
      · exact .inl z
      · exact .inr ⟨x, t, z1, z2, kp.cell h1.1 no z3⟩
    · exact absurd m e
theorem lk_map (A : Cl → Option Cl) (p : Cl) : ∀ ks : List Cl, Flood.lk (ks.map fun p => (p, A p)) p = if p ∈ ks then some (A p) else none
  | [] => by simp [Flood.lk]
  | q :: r => by
    have ih := lk_map A p r
    unfold Flood.lk at ih ⊢
    rw [List.map_cons, List.find?_cons]
    by_cases e : q = p
    · subst e
      simp
    · have e' : ¬ p = q := fun z => e z.symm
      rw [decide_eq_false e]
      show Option.map _ (List.find? _ _) = _
      rw [ih]
      simp [e']
theorem AhdAt.ahead {H : Hp} {a : Addr} {ks : List Cl} {A : Cl → Option Cl} (h : AhdAt H a ks A) : AheadAt H a (ks.map fun p => (p, A p)) := by
  obtain ⟨g, h1, h2⟩ := h
  refine ⟨_, h1.1, by unfold kvD; rw [List.length_map, List.length_map], fun r c => ?_⟩
  have e := val_kvD ks g (r, c)
  rw [lk_map]
  by_cases m : ((r, c) : Cl) ∈ ks
  · rw [if_pos m] at e
    rw [if_pos m]
    rcases h2 _ m with ⟨z1, z2⟩ | ⟨q, b, z1, z2, z3⟩
    · rw [z1]
      rw [z2] at e
      exact e
    · rw [z1]
      rw [z2] at e
      exact ⟨b, e, z3⟩
  · rw [if_neg m] at e
    rw [if_neg m]
    exact e
theorem back_map {A : Cl → Option Cl} {ks : List Cl} {c : Cl} {w : List Cl} (b : BackA A c w) (m : ∀ x ∈ w, x ∈ ks) : Flood.Back (ks.map fun p => (p, A p)) c w := by
  induction b with
  | stop e => exact .stop (by rw [lk_map, if_pos (m _ (by simp)), e])
  | more e _ ih => exact .more (by rw [lk_map, if_pos (m _ (by simp)), e]) (ih fun x hx => m x (List.mem_cons_of_mem _ hx))
structure SpL (R C : Nat) (own : Nat × Nat → Int) (h : Int) (H H2 : Hp) (an aa l : Addr) (ks : List Cl) (N : Cl → Nat) (A : Cl → Option Cl) (ws : List Cl) (ex : Cl → Prop) : Prop where
  sm : But2 an aa H H2
  num : NumAt H2 an ks N
  ahd : AhdAt H2 aa ks A
  wl : LCells H2 l ws
  nl : H l = none
  inv : SpInv R C (passB R C own h) (prB own) h ks N A ws ex
section
variable {R C : Nat} {own : Nat × Nat → Int} {h : Int} {H H2 H3 : Hp} {an aa l : Addr} {ks : List Cl} {N : Cl → Nat} {A : Cl → Option Cl} {ws : List Cl} {ex : Cl → Prop}
theorem SpL.mono (I : SpL R C own h H H2 an aa l ks N A ws ex) (s : Same H2 H3) : SpL R C own h H H3 an aa l ks N A ws ex :=
  ⟨I.sm.same s, DD.mono I.num s, I.ahd.mono s, I.wl.mono s, I.nl, I.inv⟩
theorem SpL.len (I : SpL R C own h H H2 an aa l ks N A ws ex) : ks.length ≤ R * C := len_in I.inv.nd fun p hp => (I.inv.own p hp).1
theorem SpL.nan (I : SpL R C own h H H2 an aa l ks N A ws ex) : an ≠ l := by
  obtain ⟨as, h2, _⟩ := I.wl
  exact ne_of I.num.1 h2 (fun z => nomatch z)
theorem SpL.naa (I : SpL R C own h H H2 an aa l ks N A ws ex) : aa ≠ l := by
  obtain ⟨as, h2, _⟩ := I.wl
  obtain ⟨kvs, h1⟩ := I.ahd.isT
  exact ne_of h1 h2 (fun z => nomatch z)
theorem SpL.pop {c : Cl} (I : SpL R C own h H H2 an aa l ks N A (c :: ws) (fun _ => False)) :
    ∃ (b : Addr) (as : List Addr), H2 l = some (.lst (.ref b :: as.map V.ref)) ∧ CellAt (upd H2 l (.lst (as.map V.ref))) b c.1 c.2 ∧ SpL R C own h H (upd H2 l (.lst (as.map V.ref))) an aa l ks N A ws (fun x => x = c) ∧ as.length = ws.length := by
  obtain ⟨as0, h1, h2⟩ := I.wl
  cases h2 with
  | @cons b _ as _ q t =>
    have kp := But.upd (H := H2) (a := l) (o := .lst (as.map V.ref))
    have no : ∀ xs, HO.lst ((b :: as).map V.ref) ≠ .tup xs := fun _ z => nomatch z
    exact ⟨b, as, h1, kp.cell h1 no q, ⟨I.sm.but kp (.inr (.inr I.nl)), DD.but I.num kp I.nan, I.ahd.but kp h1 no I.naa, ⟨as, upd_same, kp.cells h1 no t⟩, I.nl, I.inv.pop⟩, CellsAt.len t⟩
theorem SpL.relax {c q : Cl} {b t : Addr} {as : List Addr} (I : SpL R C own h H H2 an aa l ks N A ws ex) (hn : an ≠ aa) (hRC : R * C ≤ 100) (hb : CellAt H2 b c.1 c.2) (ht : CellAt H2 t q.1 q.2) (hc : c ∈ ks) (hx : ex c) (hq : q ∈ nearL R C c.1 c.2) (hp : passB R C own h q)
    (lt : q ∉ ks ∨ N c + prB own q < N q) (e : H2 l = some (.lst (as.map V.ref))) (ea : CellsAt H2 as ws) :
    ∃ H3 H4, DPut H2 an (.ref t) (.int ((N c + prB own q : Nat) : Int)) H3 ∧ But an H2 H3 ∧ DPut H3 aa (.ref t) (.ref b) H4 ∧ But aa H3 H4 ∧ H4 l = some (.lst (as.map V.ref)) ∧
      SpL R C own h H (upd H4 l (.lst (as.map V.ref ++ [.ref t]))) an aa l (putL ks q) (setF N q (N c + prB own q)) (setF A q (some c)) (ws ++ [q]) ex := by
  have hz : ks.length ≤ 999 := by have := I.len; omega
  obtain ⟨kA, eA⟩ := I.ahd.isT
  obtain ⟨H3, p1, n1, k1⟩ := I.num.put (N c + prB own q) ht hz
  have no1 : ∀ xs, HO.dT (kvD ks fun p => V.int ((N p : Nat) : Int)) ≠ .tup xs := fun _ z => nomatch z
  have a3 := I.ahd.but k1 I.num.1 no1 (Ne.symm hn)
  have b3 := k1.cell I.num.1 no1 hb
  have t3 := k1.cell I.num.1 no1 ht
  obtain ⟨kA3, eA3⟩ := a3.isT
  obtain ⟨H4, p2, n2, k2⟩ := a3.put (v := .ref b) t3 hz (.inr ⟨c, b, rfl, rfl, b3⟩)
  have no2 : ∀ xs, HO.dT kA3 ≠ .tup xs := fun _ z => nomatch z
  have e3 := k1 l _ e (Ne.symm I.nan)
  have e4 := k2 l _ e3 (Ne.symm I.naa)
  have no3 : ∀ xs, HO.lst (as.map V.ref) ≠ .tup xs := fun _ z => nomatch z
  have k3 := But.upd (H := H4) (a := l) (o := .lst (as.map V.ref ++ [.ref t]))
  have c4 := k2.cells eA3 no2 (k1.cells I.num.1 no1 ea)
  have t4 := k2.cell eA3 no2 t3
  refine ⟨H3, H4, p1, k1, p2, k2, e4, ((I.sm.but k1 (.inl rfl)).but k2 (.inr (.inl rfl))).but k3 (.inr (.inr I.nl)), ?_, n2.but k3 e4 no3 I.naa, ⟨as ++ [t], by rw [upd_same, List.map_append]; rfl, k3.cells e4 no3 (c4.append (.cons t4 .nil))⟩, I.nl, I.inv.relax (prB_le own) hc hx hq hp lt⟩
  exact DD.but (DD.but n1 k2 hn) k3 I.nan
end
noncomputable def allC (R C : Nat) : List Cl := (cellsRC R C).map toC
theorem mem_all {R C : Nat} {p : Cl} (h : inB R C p.1 p.2) : p ∈ allC R C := by
  unfold inB at h
  refine List.mem_map.mpr ⟨nat2 p, mem_cells.mpr ⟨by show p.1.toNat < R; omega, by show p.2.toNat < C; omega⟩, ?_⟩
  obtain ⟨a, b⟩ := p
  show (((a.toNat : Nat) : Int), ((b.toNat : Nat) : Int)) = (a, b)
  dsimp only at h
  rw [Int.toNat_of_nonneg h.1, Int.toNat_of_nonneg h.2.2.1]
theorem tot_less {R C : Nat} {own : Nat × Nat → Int} {h : Int} {ks : List Cl} {N : Cl → Nat} {A : Cl → Option Cl} {ws : List Cl} {ex : Cl → Prop} (I : SpInv R C (passB R C own h) (prB own) h ks N A ws ex) (hRC : R * C ≤ 100) {c q : Cl} (hc : c ∈ ks) (hp : passB R C own h q) (lt : q ∉ ks ∨ N c + prB own q < N q) :
    tot (allC R C) (putL ks q) (setF N q (N c + prB own q)) < tot (allC R C) ks N := by
  refine tot_relax I (prB_le own) hc (mem_all hp.1) lt ?_
  by_cases m : q ∈ ks
  · exact .inr m
  · refine .inl ?_
    have := len_in (R := R) (C := C) (ps := putL ks q) (putL_nd I.nd) fun p hp' => by
      rcases mem_putL.mp hp' with z | z
      · exact (I.own p z).1
      · rw [z]
        exact hp.1
    unfold putL at this
    rw [if_neg m, List.length_append, List.length_singleton] at this
    omega
theorem tot_le {ks : List Cl} {N : Cl → Nat} (h : ∀ p ∈ ks, N p ≤ 101) : ∀ cs : List Cl, tot cs ks N ≤ 101 * cs.length
  | [] => by simp [tot]
  | q :: r => by
    have ih := tot_le h r
    unfold tot at ih ⊢
    rw [List.map_cons, List.sum_cons, List.length_cons]
    have : (if q ∈ ks then N q else 101) ≤ 101 := by
      split
      · exact h q (by assumption)
      · exact Nat.le_refl _
    omega
theorem all_len (R C : Nat) : (allC R C).length = R * C := by
  unfold allC
  rw [List.length_map, len_cells]
noncomputable def beltB (R C : Nat) (own : Nat × Nat → Int) (h : Int) (ks : List Cl) (N : Cl → Nat) (k : Nat) (p : Cl) : Prop := inB R C p.1 p.2 ∧ (own (nat2 p) = 3 - h ∨ (own (nat2 p) = 0 ∧ p ∈ ks ∧ N p = k))
theorem Shut.congr {R C : Nat} {O O' : Cl → Prop} {h : Int} {ks : List Cl} (s : Shut R C O h ks) (e : ∀ p, O p ↔ O' p) : Shut R C O' h ks :=
  ⟨fun p hp ho => s.start p hp ((e p).mpr ho), fun p hp q hq ho => s.step p hp q hq ((e q).mpr ho), s.no, fun p hp => (e p).mp (s.own p hp)⟩
theorem not_shut2 {R C : Nat} {O O' : Cl → Prop} {h : Int} {k1 k2 : List Cl} (hh : h = 1 ∨ h = 2) (hR : 0 < R) (hC : 0 < C) (s1 : Shut R C O h k1) (s2 : Shut R C O' (3 - h) k2) (i1 : ∀ p, O p → inB R C p.1 p.2) (i2 : ∀ p, O' p → inB R C p.1 p.2)
    (ex : ∀ p, inB R C p.1 p.2 → (O' p ↔ ¬ O p)) : False := by
  rcases hh with rfl | rfl
  · exact not_both_shut (by decide) hR hC s1 s2 (fun p hp => i1 p (s1.own p hp)) (fun p hp => i2 p (s2.own p hp)) ex
  · refine not_both_shut (h := 2) (by decide) hR hC s2 s1 (fun p hp => i2 p (s2.own p hp)) (fun p hp => i1 p (s1.own p hp)) fun p hp => ?_
    have := ex p hp
    constructor
    · intro z y
      exact this.mp y z
    · intro z
      exact Classical.byContradiction fun y => z (this.mpr y)
theorem other_joined {R C : Nat} {own : Nat × Nat → Int} {h : Int} {ks ks' : List Cl} {N : Cl → Nat} {A : Cl → Option Cl} (hh : h = 1 ∨ h = 2) (hR : 0 < R) (hC : 0 < C) (I : SpInv R C (passB R C own h) (prB own) h ks N A [] (fun _ => False))
    (no : ∀ p ∈ ks, onLast R C h p.1 p.2 = false) (s : Shut R C (ownB R C own (3 - h)) (3 - h) ks') : False := by
  refine not_shut2 hh hR hC (I.shut no) s (fun p hp => hp.1) (fun p hp => hp.1) fun p hp => ?_
  constructor
  · rintro ⟨_, z⟩ ⟨_, y⟩
    exact y z
  · intro z
    exact ⟨hp, Classical.byContradiction fun y => z ⟨hp, y⟩⟩
theorem belt_there {R C : Nat} {own : Nat × Nat → Int} {h : Int} {ks ks' : List Cl} {N : Cl → Nat} {A : Cl → Option Cl} {k : Nat} (hh : h = 1 ∨ h = 2) (hR : 0 < R) (hC : 0 < C) (I : SpInv R C (passB R C own h) (prB own) h ks N A [] (fun _ => False)) (hk : 1 ≤ k)
    (no : ∀ p ∈ ks, onLast R C h p.1 p.2 = true → k ≤ N p) (s : Shut R C (beltB R C own h ks N k) (3 - h) ks') : False := by
  refine not_shut2 hh hR hC (I.belt (prB_le own) hk no) s (fun p hp => hp.1.1) (fun p hp => hp.1) fun p hp => ?_
  constructor
  · rintro ⟨_, z⟩ ⟨⟨_, y⟩, y2⟩
    rcases z with z | z
    · exact y z
    · exact y2 ⟨prB_1.mpr z.1, z.2⟩
  · intro z
    refine ⟨hp, Classical.byContradiction fun y => z ⟨⟨hp, fun w => y (.inl w)⟩, fun w => y (.inr ⟨prB_1.mp w.1, w.2⟩)⟩⟩
noncomputable def LsAt (H : Hp) (l : Addr) (bs : List (List Cl)) : Prop := ∃ as, H l = some (.lst (as.map V.ref)) ∧ Paired (fun a b => LCells H a b) as bs
theorem LsAt.mono {H H' : Hp} {l : Addr} {bs : List (List Cl)} (h : LsAt H l bs) (s : Same H H') : LsAt H' l bs := let ⟨as, h1, h2⟩ := h; ⟨as, s _ _ h1, Paired.mapP h2 fun _ _ q => q.mono s⟩
theorem nearL_len (R C : Nat) (r c : Int) : (nearL R C r c).length ≤ 6 := by
  unfold nearL
  refine Nat.le_trans (List.length_filter_le _ _) ?_
  rw [around_eq]
  exact Nat.le_refl _
theorem empt_nd (R C : Nat) (own : Nat × Nat → Int) : (emptiesL R C own).Nodup := by
  unfold emptiesL
  refine List.Pairwise.map _ (fun a b n z => n ?_) ((cells_nd R C).filter _)
  injection z with z1 z2
  exact Prod.ext (Int.ofNat.inj z1) (Int.ofNat.inj z2)
theorem nat2_inj {R C : Nat} {p q : Cl} (hp : inB R C p.1 p.2) (hq : inB R C q.1 q.2) : nat2 q = nat2 p ↔ q = p := by
  have := toNat_inj hp hq
  unfold nat2
  rw [this]
  obtain ⟨a, b⟩ := q
  obtain ⟨a', b'⟩ := p
  simp
noncomputable def Fill (R C : Nat) (es : List Cl) (P : Cl → Prop) (v : Int) (own own3 : Nat × Nat → Int) : Prop := ∀ c : Cl, inB R C c.1 c.2 → (c ∈ es ∧ P c → own3 (nat2 c) = v) ∧ (¬ (c ∈ es ∧ P c) → own3 (nat2 c) = own (nat2 c))
theorem Fill.nil (R C : Nat) (P : Cl → Prop) (v : Int) (own : Nat × Nat → Int) : Fill R C [] P v own own := fun c _ => ⟨fun z => by simp at z, fun _ => rfl⟩
theorem Fill.skip {R C : Nat} {es : List Cl} {P : Cl → Prop} {v : Int} {own own3 : Nat × Nat → Int} {q : Cl} (f : Fill R C es P v own own3) (n : ¬ P q) : Fill R C (es ++ [q]) P v own own3 := fun c hc => by
  have e : (c ∈ es ++ [q] ∧ P c) ↔ (c ∈ es ∧ P c) := by
    rw [List.mem_append, List.mem_singleton]
    constructor
    · rintro ⟨z | z, y⟩
      · exact ⟨z, y⟩
      · rw [z] at y
        exact absurd y n
    · rintro ⟨z, y⟩
      exact ⟨.inl z, y⟩
  rw [e]
  exact f c hc
theorem Fill.step {R C : Nat} {es : List Cl} {P : Cl → Prop} {v : Int} {own own3 : Nat × Nat → Int} {q : Cl} (f : Fill R C es P v own own3) (hq : inB R C q.1 q.2) (y : P q) : Fill R C (es ++ [q]) P v own (setO own3 q.1 q.2 v) := fun c hc => by
  rw [List.mem_append, List.mem_singleton, setO_at]
  by_cases e : c = q
  · subst e
    rw [if_pos rfl]
    exact ⟨fun _ => rfl, fun z => absurd ⟨.inr rfl, y⟩ z⟩
  · rw [if_neg (fun z => e ((nat2_inj hq hc).mp z))]
    refine ⟨fun ⟨z, w⟩ => (f c hc).1 ⟨z.resolve_right e, w⟩, fun z => (f c hc).2 fun w => z ⟨.inl w.1, w.2⟩⟩
theorem fill_belt {R C : Nat} {own own3 : Nat × Nat → Int} {h : Int} {ks : List Cl} {N : Cl → Nat} {k : Nat} (h3 : 3 - h ≠ 0) (f : Fill R C (emptiesL R C own) (fun c => c ∈ ks ∧ N c = k) (3 - h) own own3) (p : Cl) : ownB R C own3 (3 - h) p ↔ beltB R C own h ks N k p := by
  unfold ownB beltB
  constructor
  · rintro ⟨hp, e⟩
    refine ⟨hp, ?_⟩
    have e' : own3 (nat2 p) = 3 - h := e
    by_cases z : p ∈ emptiesL R C own ∧ p ∈ ks ∧ N p = k
    · exact .inr ⟨(mem_empt.mp z.1).2, z.2⟩
    · rw [(f p hp).2 z] at e'
      exact .inl e'
  · rintro ⟨hp, e⟩
    refine ⟨hp, show own3 (nat2 p) = 3 - h from ?_⟩
    rcases e with e | ⟨e0, e1⟩
    · by_cases z : p ∈ emptiesL R C own ∧ p ∈ ks ∧ N p = k
      · exact (f p hp).1 z
      · rw [(f p hp).2 z]
        exact e
    · exact (f p hp).1 ⟨mem_empt.mpr ⟨hp, e0⟩, e1⟩
noncomputable def lastK (R C : Nat) (h : Int) (kv : List Key × V) : Bool := match kv.1 with
  | [.inl r, .inl c] => onLast R C h r c
  | _ => false
theorem filter_last (R C : Nat) (h : Int) (ks : List Cl) (g : Cl → V) : (kvD ks g).filter (lastK R C h) = kvD (ks.filter fun p => onLast R C h p.1 p.2) g := by
  unfold kvD
  rw [List.filter_map]
  rfl
noncomputable def numF (H : Hp) (N : Cl → Nat) (a : Addr) : Int := match cellOf H (.ref a) with
  | some p => (N p : Int)
  | none => 0
theorem numF_at {H : Hp} {N : Cl → Nat} {a : Addr} {p : Cl} (h : CellAt H a p.1 p.2) : numF H N a = (N p : Int) := by
  unfold numF
  rw [cellOf_at h]
theorem CellsAt.at {H : Hp} : ∀ {as : List Addr} {cs : List Cl} {p : Cl}, CellsAt H as cs → p ∈ cs → ∃ a, a ∈ as ∧ CellAt H a p.1 p.2
  | _, _, _, .nil, h => by simp at h
  | _, _, p, .cons q t, h => by
    rcases List.mem_cons.mp h with rfl | z
    · exact ⟨_, List.mem_cons.mpr (.inl rfl), q⟩
    · obtain ⟨a, h1, h2⟩ := CellsAt.at t z
      exact ⟨a, List.mem_cons.mpr (.inr h1), h2⟩
theorem But.board {CB : Addr} {H H' : Hp} {pl p d : Addr} {R C : Nat} {own : Nat × Nat → Int} {ps : Array Value} (k : But pl H H') (hp : H pl = some (.tbl ps)) (B : BoardAt CB H p d R C own) : BoardAt CB H' p d R C own := by
  obtain ⟨dx, e⟩ := B.ob
  exact ⟨⟨dx, k p _ e (ne_of e hp fun z => nomatch z)⟩, k d _ B.dc (ne_of B.dc hp fun z => nomatch z)⟩
theorem But.ofSame {H H' : Hp} (a : Addr) (s : Same H H') : But a H H' := fun b o e _ => s b o e
end Bd

set_option maxHeartbeats 4000000
namespace K06
open PySem L2 Bd
inductive spPassable (D : Ads) (vs : List V) (H : Hp) (Q : VK) (E' : XK) : Prop
  | mk (p d l : Addr) (R C : Nat) (own : Nat × Nat → Int) (h : Int) (cs : List Cl) (y'1 : vs = [.ref p, .int h, .ref l]) (y'2 : BoardAt D.CB H p d R C own) (y'3 : LCells H l cs) (y'4 : (∀ c ∈ cs, inB R C c.1 c.2)) (y'5 : cs.length ≤ 999) (y'6 : ∀ l' H', Same H H' → H l' = none → LCells H' l' (cs.filter fun c => decide (own (c.1.toNat, c.2.toNat) ≠ 3 - h)) → Q (.ref l') H') : spPassable D vs H Q E'
inductive spPrice (D : Ads) (vs : List V) (H : Hp) (Q : VK) (E' : XK) : Prop
  | mk (p d b : Addr) (R C : Nat) (own : Nat × Nat → Int) (c : Cl) (y'1 : vs = [.ref p, .ref b]) (y'2 : BoardAt D.CB H p d R C own) (y'3 : CellAt H b c.1 c.2) (y'4 : inB R C c.1 c.2) (y'5 : Q (.int ((prB own c : Nat) : Int)) H) : spPrice D vs H Q E'
inductive spSpread (D : Ads) (vs : List V) (H : Hp) (Q : VK) (E' : XK) : Prop
  | mk (p d an aa : Addr) (R C : Nat) (own : Nat × Nat → Int) (h : Int) (y'1 : vs = [.ref p, .int h, .ref an, .ref aa]) (y'2 : 0 < R) (y'3 : 0 < C) (y'4 : R ≤ 10) (y'5 : C ≤ 10) (y'6 : BoardAt D.CB H p d R C own) (y'7 : (h = 1 ∨ h = 2)) (y'8 : H an = some (.dT [])) (y'9 : H aa = some (.dT [])) (y'10 : an ≠ aa) (y'11 : ∀ H' ks N A, But2 an aa H H' → NumAt H' an ks N → AhdAt H' aa ks A → SpInv R C (passB R C own h) (prB own) h ks N A [] (fun _ => False) → Q .non H') : spSpread D vs H Q E'
inductive spBelt (D : Ads) (vs : List V) (H : Hp) (Q : VK) (E' : XK) : Prop
  | mk (p d an : Addr) (R C : Nat) (own : Nat × Nat → Int) (h : Int) (ks : List Cl) (N : Cl → Nat) (k : Nat) (y'1 : vs = [.ref p, .int h, .ref an, .int (k : Int)]) (y'2 : 0 < R) (y'3 : 0 < C) (y'4 : R ≤ 10) (y'5 : C ≤ 10) (y'6 : BoardAt D.CB H p d R C own) (y'7 : (h = 1 ∨ h = 2)) (y'8 : NumAt H an ks N) (y'9 : (∀ l H' ps, Same H H' → H l = none → LCells H' l ps → IsChain R C (beltB R C own h ks N k) (3 - h) ps → Q (.ref l) H')) (y'10 : (∀ H' ks', Same H H' → Shut R C (beltB R C own h ks N k) (3 - h) ks' → Q .non H')) : spBelt D vs H Q E'
section
variable {P : Program} {w : World} {K : PySem.W.Frag} {mg : Str → Option Value} {base : Heap} {D : Ads}
theorem scPassable : FnScope ["board", "hand", "cells"] ["board", "hand", "cells"] (defScope sPassable) := ⟨rfl, rfl, rfl, by decide +kernel, rfl, by decide +kernel, by decide +kernel⟩
theorem ok_passable {f fO fT : Addr} {fd fdO fdT : FuncData} (F : Fun K "passable" "passable" sPassable f fd) (T : Txt K mg D)
    (GO : FnOk P w K mg base (CX1 P w) 2 fO fdO ["self", "cell"] (spOwner D)) (bO : Binds K fdO ["self", "cell"] []) (mO : Meth K D.CB "owner" fO)
    (GT : FnOk P w K mg base (CX1 P w) 1 fT fdT ["hand"] spOther) (kT : PySem.W.keepIn K (.ref fT) = true) (bT : Binds K fdT ["hand"] []) (mT : mg "other_hand" = some (.ref fT)) :
    FnOk P w K mg base (CX1 P w) 3 f fd ["board", "hand", "cells"] (spPassable D) := by
  refine F.ok0 scPassable (fun vs H Q E h => ?_) (fun cdv A outer s H vs Q E hr h => ?_)
  · refine L2.hide fun gQ gH => ?_
    obtain ⟨p, d, l, R, C, own, h, cs, rfl, _⟩ := h
    refine gH ?_
    rfl
  · refine L2.hide fun gQ gH => ?_
    obtain ⟨p, d, l, R, C, own, h, cs, rfl, B, hl, hin, hz, k⟩ := h
    refine gH ?_
    have hr1 : Room 1 _ := hr.mono (by decide)
    refine L2.hide fun gQ gH => ?_
    obtain ⟨as0, e0, c0⟩ := hl
    refine gH ?_
    refine ⟨_, pss_one (ps_ret (pe_comp (fr := ["hand", "board"]) (js := [1, 0]) (tif := tTest (tOp rNe (tMeth D.CB "owner" (spOwner D) [] E0 (tVar 2) (tCons (tVar 0) tNil)) (tCall spOther [] E0 (tCons (tVar 1) tNil)))) (te := tVar 0)
        (by exact ⟨rfl, rfl, rfl, rfl, by decide +kernel, by decide +kernel, by decide +kernel, by with_unfolding_all rfl, rfl, by decide +kernel⟩) rfl (pi_list (pv 2))
        (by intro _ _ _ _; exact pf_one (pt_cmpR op_ne (pe_meth (pv 2) T.cl mO GO hr bO .nil passN (pa_cons (pv 0) pa_nil)) (pe_call GT hr1 rfl mT kT bT .nil passN (pa_cons (pv 1) pa_nil)) (nomark _))) (by intro _ _ _ _; exact pv 0))), ?_⟩
    refine ⟨_, rfl, l, rfl, ⟨_, SqL.of e0⟩, fun D' nD => ?_⟩
    refine comp_listF (xs := as0.map V.ref) (fOw H own fun x => decide (x ≠ 3 - h)) (fun v => v) (SqL.of e0) nD (by rw [List.length_map, c0.len]; exact Nat.le_of_lt (small1000 (by omega))) (fun x hx ys Qb qb => ?_) (fun x hx _ ys Qv qv => ⟨_, rfl, qv⟩) ?_
    · refine L2.hide fun gQ gH => ?_
      obtain ⟨b, hb, rfl⟩ := List.mem_map.mp hx
      refine gH ?_
      refine L2.hide fun gQ gH => ?_
      obtain ⟨pc, hpc, hc⟩ := c0.mem hb
      refine gH ?_
      have sm : Same H (upd H D' (.lst ys)) := Same.upd nD
      have B' := B.mono sm
      obtain ⟨dx', h1⟩ := B'.ob
      refine ⟨_, rfl, p, dx', _, rfl, h1, bflds_no _ _ _ (by decide +kernel) (by decide +kernel) (by decide +kernel), _, rfl, p, d, b, R, C, own, pc.1, pc.2, rfl, B', hc.mono sm, fun z => absurd (hin _ hpc) z, fun _ => ⟨_, rfl, h, rfl, rfl, _, rfl, ?_⟩⟩
      rw [fOw_at hc] at qb
      simpa using qb
    · have eS : (((as0.map V.ref).filter (fOw H own fun x => decide (x ≠ 3 - h))).map fun v => v) = (as0.filter fun a => fOw H own (fun x => decide (x ≠ 3 - h)) (.ref a)).map V.ref := by
        rw [List.map_id', List.filter_map]
        rfl
      rw [eS]
      exact k D' _ (Same.upd nD) nD ⟨_, upd_same, (c0.filterO (own := own) (f := fun x => decide (x ≠ 3 - h))).mono (Same.upd nD)⟩
theorem scPrice : FnScope ["board", "cell"] ["board", "cell"] (defScope sPrice) := ⟨rfl, rfl, rfl, by decide +kernel, rfl, by decide +kernel, by decide +kernel⟩
theorem ok_price {f fO : Addr} {fd fdO : FuncData} (F : Fun K "price" "price" sPrice f fd) (T : Txt K mg D)
    (GO : FnOk P w K mg base (CX1 P w) 2 fO fdO ["self", "cell"] (spOwner D)) (bO : Binds K fdO ["self", "cell"] []) (mO : Meth K D.CB "owner" fO) :
    FnOk P w K mg base (CX1 P w) 3 f fd ["board", "cell"] (spPrice D) := by
  refine F.ok0 scPrice (fun vs H Q E h => ?_) (fun cdv A outer s H vs Q E hr h => ?_)
  · refine L2.hide fun gQ gH => ?_
    obtain ⟨p, d, b, R, C, own, c, rfl, _⟩ := h
    refine gH ?_
    rfl
  · refine L2.hide fun gQ gH => ?_
    obtain ⟨p, d, b, R, C, own, c, rfl, B, hc, hi, k⟩ := h
    refine gH ?_
    obtain ⟨dx, hp⟩ := B.ob
    refine ⟨_, pss_one (ps_ret (pe_ifExp (pt_cmpR op_eq (pe_meth (pv 0) T.cl mO GO hr bO .nil passN (pa_cons (pv 1) pa_nil)) pe_int (nomark _)) pe_int pe_int)), ?_⟩
    refine ⟨_, rfl, p, dx, _, rfl, hp, bflds_no _ _ _ (by decide +kernel) (by decide +kernel) (by decide +kernel), _, rfl, p, d, b, R, C, own, c.1, c.2, rfl, B, hc, fun z => absurd hi z, fun _ => ⟨rfl, _, rfl, ite2 (fun e => ?_) (fun e => ?_)⟩⟩
    · have e1 : own (c.1.toNat, c.2.toNat) = 0 := by simpa using e
      unfold prB at k
      rw [if_pos (show own (nat2 c) = 0 from e1)] at k
      exact k
    · have e1 : ¬ own (c.1.toNat, c.2.toNat) = 0 := by simpa using e
      unfold prB at k
      rw [if_neg (show ¬ own (nat2 c) = 0 from e1)] at k
      exact k
theorem scSpread : FnScope ["board", "hand", "numbers", "ahead", "waiting", "cell", "beside", "number"] ["board", "hand", "numbers", "ahead"] (defScope sSpread) := ⟨rfl, rfl, rfl, by decide +kernel, rfl, by decide +kernel, by decide +kernel⟩
theorem ok_spread {f fP fF fR fN : Addr} {fd fdP fdF fdR fdN : FuncData} (F : Fun K "spread" "spread" sSpread f fd) (T : Txt K mg D)
    (GP : FnOk P w K mg base (CX1 P w) 3 fP fdP ["board", "hand", "cells"] (spPassable D)) (kP : PySem.W.keepIn K (.ref fP) = true) (bP : Binds K fdP ["board", "hand", "cells"] []) (mP : mg "passable" = some (.ref fP))
    (GF : FnOk P w K mg base (CX1 P w) 2 fF fdF ["board", "hand"] (spFirst D)) (kF : PySem.W.keepIn K (.ref fF) = true) (bF : Binds K fdF ["board", "hand"] []) (mF : mg "first_side" = some (.ref fF))
    (GR : FnOk P w K mg base (CX1 P w) 3 fR fdR ["board", "cell"] (spPrice D)) (kR : PySem.W.keepIn K (.ref fR) = true) (bR : Binds K fdR ["board", "cell"] []) (mR : mg "price" = some (.ref fR))
    (GN : FnOk P w K mg base (CX1 P w) 2 fN fdN ["self", "cell"] (spNear D)) (bN : Binds K fdN ["self", "cell"] []) (mN : Meth K D.CB "near" fN) :
    FnOk P w K mg base (CX1 P w) 4 f fd ["board", "hand", "numbers", "ahead"] (spSpread D) := by
  refine F.ok0 scSpread (fun vs H Q E h => ?_) (fun cdv A outer s H vs Q E hr h => ?_)
  · refine L2.hide fun gQ gH => ?_
    obtain ⟨p, d, an, aa, R, C, own, h, rfl, _⟩ := h
    refine gH ?_
    rfl
  · refine L2.hide fun gQ gH => ?_
    obtain ⟨p, d, an, aa, R, C, own, h, rfl, hR0, hC0, hR, hC, B, hh, han, haa, hn, k⟩ := h
    refine gH ?_
    have hRC : R * C ≤ 100 := Nat.mul_le_mul hR hC
    have hu := hu_of hr
    have hr2 : Room 2 _ := hr.mono (by decide)
    refine ⟨_, pss_cons (ps_set (i := 4) scSpread.nd rfl (Or.inl rfl) (pe_call GP hr rfl mP kP bP .nil passN (pa_cons (pv 0) (pa_cons (pv 1) (pa_cons (pe_call GF hr2 rfl mF kF bF .nil passN (pa_cons (pv 0) (pa_cons (pv 1) pa_nil))) pa_nil)))))
      (pss_cons (ps_for PassesOwn.never rfl (pi_list (pv 4)) (pg_name (i := 5) scSpread.nd rfl (Or.inl rfl)) (pss_cons (ps_dput hu (pv 2) (pv 5) (pe_call GR hr rfl mR kR bR .nil passN (pa_cons (pv 0) (pa_cons (pv 5) pa_nil))) rfl) (pss_one (ps_dput hu (pv 3) (pv 5) pe_non rfl))))
      (pss_one (ps_while PassesOwn.never (pt_cmpR op_gt (pe_callB call_len_seq rfl T.len PySem.boot_len (pa_cons (pv 4) pa_nil)) pe_int (nomark _))
        (pss_cons (ps_set (i := 5) scSpread.nd rfl (Or.inl rfl) (pe_bm PySem.F.plainAttrs_list PySem.F.slot_list_pop PySem.F.type_list_pop mt_popAt (pv 4) (pa_cons pe_int pa_nil)))
        (pss_one (ps_for PassesOwn.never rfl (pi_list (pe_call GP hr rfl mP kP bP .nil passN (pa_cons (pv 0) (pa_cons (pv 1) (pa_cons (pe_meth (pv 0) T.cl mN GN hr2 bN .nil passN (pa_cons (pv 5) pa_nil)) pa_nil))))) (pg_name (i := 6) scSpread.nd rfl (Or.inl rfl))
          (pss_cons (ps_set (i := 7) scSpread.nd rfl (Or.inl rfl) (pe_op op_add (pe_dget hu (pv 2) (pv 5) (fun _ _ => rfl)) (pe_call GR hr rfl mR kR bR .nil passN (pa_cons (pv 0) (pa_cons (pv 6) pa_nil)))))
          (pss_one (ps_if (PW.pt (pw_or (pt_cmp (pc_dnotin hu (pv 6) (pv 2))) (pw_or1 (pt_cmpR op_lt (pv 7) (pe_dget hu (pv 2) (pv 6) (fun _ _ => rfl)) (nomark _)))))
            (pss_cons (ps_dput hu (pv 2) (pv 6) (pv 7) rfl) (pss_cons (ps_dput hu (pv 3) (pv 6) (pv 5) rfl) (pss_one (ps_expr (pe_bm PySem.F.plainAttrs_list PySem.F.slot_list_append PySem.F.type_list_append mt_append (pv 4) (pa_cons (pv 6) pa_nil))))))
            pss_nil))))))))), ?_⟩
    refine seqG fun U hU => ?_
    refine ⟨_, rfl, _, rfl, _, rfl, _, rfl, p, d, R, C, own, h, rfl, hR, hC, B, fun l0 H1 s1 n0 hl0 => ?_⟩
    refine ⟨p, d, l0, R, C, own, h, _, rfl, B.mono s1, hl0, fun c hc => first_in hR0 hC0 hc, (by have := first_len R C h hR hC; omega), fun l H2 s2 nl hl2 => ?_⟩
    refine L2.hide fun gQ gH => ?_
    obtain ⟨as, l2, c2⟩ := hl2
    refine gH ?_
    have s02 : Same H H2 := s1.trans s2
    have nlH : H l = none := s1.free nl
    have nd : ((firstL R C h).filter fun c => decide (own (c.1.toNat, c.2.toNat) ≠ 3 - h)).Nodup := (first_nd R C h).filter _
    have hm : ∀ q, q ∈ (firstL R C h).filter (fun c => decide (own (c.1.toNat, c.2.toNat) ≠ 3 - h)) ↔ q ∈ firstL R C h ∧ passB R C own h q := fun q => by
      rw [List.mem_filter, decide_eq_true_eq]
      exact ⟨fun z => ⟨z.1, first_in hR0 hC0 z.1, z.2⟩, fun z => ⟨z.1, z.2.2⟩⟩
    have hlen : ((firstL R C h).filter fun c => decide (own (c.1.toNat, c.2.toNat) ≠ 3 - h)).length ≤ 10 := Nat.le_trans (List.length_filter_le _ _) (first_len R C h hR hC)
    generalize (firstL R C h).filter (fun c => decide (own (c.1.toNat, c.2.toNat) ≠ 3 - h)) = cs at c2 nd hm hlen
    have nla : an ≠ l := ne_of_none han nlH
    have nlb : aa ≠ l := ne_of_none haa nlH
    refine hU [some (.ref p), some (.int h), some (.ref an), some (.ref aa), some (.ref l), none, none, none] _ ?_
    refine seqG fun U hU => ?_
    refine ⟨_, rfl, l, rfl, ⟨_, SqL.of l2⟩, for_list (K := K) (a := l) (xs := as.map V.ref)
      (fun i σ H3 => Ex1 fun v5 => An6 (σ = [some (.ref p), some (.int h), some (.ref an), some (.ref aa), some (.ref l), v5, none, none]) (But2 an aa H H3) (H3 l = some (.lst (as.map V.ref))) (CellsAt H3 as cs) (NumAt H3 an (cs.take i) (prB own)) (AhdAt H3 aa (cs.take i) (fun _ => none)))
      ?_ (fun i σ H3 _ gz => SqL.of (by obtain ⟨_, _, _, e, _⟩ := gz; exact e)) ?_ ?_⟩
    · exact ⟨none, rfl, fun x o e _ _ => s02 x o e, l2, c2, ⟨s02 _ _ han, List.nodup_nil⟩, ⟨fun _ => .non, ⟨s02 _ _ haa, List.nodup_nil⟩, fun p hp => by simp at hp⟩⟩
    · intro i x σ H3 hx gZ
      refine L2.hide fun gQ gH => ?_
      obtain ⟨v5, rfl, s3, l3, c3, n3, a3⟩ := gZ
      refine gH ?_
      refine L2.hide fun gQ gH => ?_
      obtain ⟨b, hb, rfl⟩ := get_ref hx
      refine gH ?_
      refine L2.hide fun gQ gH => ?_
      obtain ⟨q, hq, hc⟩ := c3.get hb
      refine gH ?_
      have nin := nin_take nd hq
      have hqi := ((hm q).mp (List.mem_of_getElem? hq)).2.1
      have B3 := s3.board han haa hR0 hC0 B
      have hz : (cs.take i).length ≤ 10 := by rw [List.length_take]; omega
      refine L2.hide fun gQ gH => ?_
      obtain ⟨H4, p4, n4, k4⟩ := n3.put (prB own q) hc (by omega)
      refine gH ?_
      have no4 : ∀ xs, HO.dT (kvD (cs.take i) fun p => V.int ((prB own p : Nat) : Int)) ≠ .tup xs := fun _ z => nomatch z
      have c4 := k4.cell n3.1 no4 hc
      have a4 := a3.but k4 n3.1 no4 (Ne.symm hn)
      obtain ⟨kA, eA⟩ := a4.isT
      have no5 : ∀ xs, HO.dT kA ≠ .tup xs := fun _ z => nomatch z
      refine L2.hide fun gQ gH => ?_
      obtain ⟨H5, p5, a5, k5⟩ := a4.put (o := none) (v := .non) c4 (by omega) (.inl ⟨rfl, rfl⟩)
      refine gH ?_
      dsimp only [gName]
      refine bodyN fun D' nx => ?_
      refine seqG fun U hU => ?_
      refine ⟨_, rfl, _, rfl, p, d, b, R, C, own, q, rfl, B3, hc, hqi, _, rfl, _, rfl, an, _, rfl, p4, ?_⟩
      refine hU [some (.ref p), some (.int h), some (.ref an), some (.ref aa), some (.ref l), some (.ref b), none, none] _ ?_
      refine ⟨_, rfl, _, rfl, aa, _, rfl, p5, ?_⟩
      have et : cs.take (i + 1) = putL (cs.take i) q := by
        unfold putL
        rw [if_neg nin, List.take_add_one, hq]
        rfl
      have ef : setF (prB own) q (prB own q) = prB own := funext fun x => by
        by_cases z : x = q
        · rw [z, setF_same]
        · rw [setF_ne _ _ z]
      have eg : setF (fun _ => none) q none = fun _ => (none : Option Cl) := funext fun x => by
        by_cases z : x = q
        · rw [z, setF_same]
        · rw [setF_ne _ _ z]
      rw [ef] at n4
      rw [eg] at a5
      refine nx _ _ ?_
      refine ⟨_, rfl, (s3.but k4 (.inl rfl)).but k5 (.inr (.inl rfl)), k5 _ _ (k4 _ _ l3 (Ne.symm nla)) (Ne.symm nlb), k5.cells eA no5 (k4.cells n3.1 no4 c3), ?_, ?_⟩
      · rw [et]
        exact DD.but n4 k5 hn
      · rw [et]
        exact a5
    · intro σ H3 gZ
      refine L2.hide fun gQ gH => ?_
      obtain ⟨v5, rfl, s3, l3, c3, n3, a3⟩ := gZ
      refine gH ?_
      have e1 : as.length = cs.length := c3.len
      rw [List.length_map, e1, List.take_length] at n3 a3
      have I0 : SpL R C own h H H3 an aa l cs (prB own) (fun _ => none) cs (fun _ => False) := ⟨s3, n3, a3, ⟨as, l3, c3⟩, nlH, SpInv.start nd (prB_le own) hm⟩
      have m0 : 2 * tot (allC R C) cs (prB own) + cs.length ≤ 20300 := by
        have h1 := tot_le (ks := cs) (N := prB own) (fun p _ => Nat.le_trans (prB_le own p) (by decide)) (allC R C)
        rw [all_len] at h1
        omega
      refine hU _ _ ?_
      refine ⟨fun m σ H4 => Ex7 fun ks N A ws v5 v6 v7 => An4 (σ = [some (.ref p), some (.int h), some (.ref an), some (.ref aa), some (.ref l), v5, v6, v7]) (SpL R C own h H H4 an aa l ks N A ws (fun _ => False)) (m = 2 * tot (allC R C) ks N + ws.length) (m ≤ 20300), ⟨_, cs, prB own, _, cs, _, _, _, rfl, I0, rfl, m0⟩, ?_⟩
      intro m σ H4 gZ
      refine L2.hide fun gQ gH => ?_
      obtain ⟨ks, N, A, ws, v5, v6, v7, rfl, I, rfl, hm4⟩ := gZ
      refine gH ?_
      refine L2.hide fun gQ gH => ?_
      obtain ⟨as4, l4, c4⟩ := I.wl
      refine gH ?_
      refine ⟨_, rfl, l, _, rfl, .inl (SqL.of l4), _, _, rfl, rfl, _, rfl, ite2 (fun e => ?_) (fun e => ?_)⟩
      · cases ws with
        | nil =>
          have := c4.len
          simp [this] at e
        | cons c ws' =>
          rw [List.length_cons] at hm4 ⊢
          have hck : c ∈ ks := I.inv.sub c (List.mem_cons.mpr (.inl rfl))
          have hci := (I.inv.own c hck).1
          refine L2.hide fun gQ gH => ?_
          obtain ⟨b, as5, l5, g2, I5, el5⟩ := I.pop
          refine gH ?_
          refine ⟨fun σ' H' => Ex7 fun ks1 N1 A1 ws1 v5 v6 v7 => An3 (σ' = [some (.ref p), some (.int h), some (.ref an), some (.ref aa), some (.ref l), v5, v6, v7]) (SpL R C own h H H' an aa l ks1 N1 A1 ws1 (fun _ => False)) (2 * tot (allC R C) ks1 N1 + ws1.length < 2 * tot (allC R C) ks N + (ws'.length + 1)),
            fun σ' H' gz => by obtain ⟨ks1, N1, A1, ws1, v5, v6, v7, e1, I1, lt⟩ := gz; exact ⟨_, lt, ks1, N1, A1, ws1, v5, v6, v7, e1, I1, rfl, by omega⟩, ?_⟩
          refine bodyN fun D' nx => ?_
          refine seqG fun U hU => ?_
          refine ⟨_, rfl, .inl ⟨rfl, _, SqL.of l5⟩, l, _, 0, 0, _, rfl, rfl, l5, (by decide), (by decide), (by unfold seqIndex?; simp), rfl, ?_⟩
          rw [show (V.ref b :: as5.map V.ref).eraseIdx 0 = as5.map V.ref from rfl]
          generalize upd H4 l (.lst (as5.map V.ref)) = H5 at g2 I5 ⊢
          have B5 := I5.sm.board han haa hR0 hC0 B
          obtain ⟨dx5, hp5⟩ := B5.ob
          refine hU [some (.ref p), some (.int h), some (.ref an), some (.ref aa), some (.ref l), some (.ref b), v6, v7] _ ?_
          refine ⟨_, rfl, _, rfl, _, rfl, p, dx5, _, rfl, hp5, bflds_no _ _ _ (by decide +kernel) (by decide +kernel) (by decide +kernel), _, rfl, p, d, b, R, C, own, c.1, c.2, rfl, B5, g2, fun _ ln H6 s6 n6 hln => ?_, fun z => absurd hci z⟩
          refine ⟨p, d, ln, R, C, own, h, _, rfl, B5.mono s6, hln, fun q hq => (mem_near.mp hq).1, (by have := nearL_len R C c.1 c.2; omega), fun lp H7 s7 n7 hlp => ?_⟩
          refine L2.hide fun gQ gH => ?_
          obtain ⟨asn, en, cn⟩ := hlp
          refine gH ?_
          have s57 := s6.trans s7
          have hfl : ∀ q, q ∈ (nearL R C c.1 c.2).filter (fun c => decide (own (c.1.toNat, c.2.toNat) ≠ 3 - h)) ↔ q ∈ nearL R C c.1 c.2 ∧ passB R C own h q := fun q => by
            rw [List.mem_filter, decide_eq_true_eq]
            exact ⟨fun z => ⟨z.1, (mem_near.mp z.1).1, z.2⟩, fun z => ⟨z.1, z.2.2⟩⟩
          generalize (nearL R C c.1 c.2).filter (fun c => decide (own (c.1.toNat, c.2.toNat) ≠ 3 - h)) = nl at cn hfl
          refine ⟨lp, rfl, ⟨_, SqL.of en⟩, for_list (K := K) (a := lp) (xs := asn.map V.ref)
            (fun i σ H8 => Ex6 fun ks1 N1 A1 ws1 v6 v7 => An10 (σ = [some (.ref p), some (.int h), some (.ref an), some (.ref aa), some (.ref l), some (.ref b), v6, v7]) (SpL R C own h H H8 an aa l ks1 N1 A1 ws1 (fun x => x = c)) (2 * tot (allC R C) ks1 N1 + ws1.length ≤ 2 * tot (allC R C) ks N + ws'.length) (c ∈ ks1) (N1 c = N c) (CellAt H8 b c.1 c.2) (H8 lp = some (.lst (asn.map V.ref))) (lp ≠ l) (CellsAt H8 asn nl) (∀ q ∈ nl.take i, q ∈ ks1 ∧ N1 q ≤ N c + prB own q))
            ?_ (fun i σ H8 _ gz => SqL.of (by obtain ⟨_, _, _, _, _, _, _, _, _, _, _, _, e, _⟩ := gz; exact e)) ?_ ?_⟩
          · refine ⟨ks, N, A, ws', v6, v7, rfl, I5.mono s57, Nat.le_refl _, hck, rfl, g2.mono s57, en, ?_, cn, fun q hq => by simp at hq⟩
            refine L2.hide fun gQ gH => ?_
            obtain ⟨as6, l6, _⟩ := I5.wl
            refine gH ?_
            exact Ne.symm (ne_of_none (s6 _ _ l6) n7)
          · intro i x σ H8 hx gZ
            refine L2.hide fun gQ gH => ?_
            obtain ⟨ks1, N1, A1, ws1, v6', v7', rfl, I8, lt8, ck8, nc8, b8, lp8, nlp, cn8, hn8⟩ := gZ
            refine gH ?_
            refine L2.hide fun gQ gH => ?_
            obtain ⟨t, ht, rfl⟩ := get_ref hx
            refine gH ?_
            refine L2.hide fun gQ gH => ?_
            obtain ⟨q, hq, hc8⟩ := cn8.get ht
            refine gH ?_
            obtain ⟨hqn, hqp⟩ := (hfl q).mp (List.mem_of_getElem? hq)
            have B8 := I8.sm.board han haa hR0 hC0 B
            have et : nl.take (i + 1) = nl.take i ++ [q] := by rw [List.take_add_one, hq]; rfl
            have gc := I8.num.get b8
            rw [if_pos ck8] at gc
            have gq := I8.num.get hc8
            refine L2.hide fun gQ gH => ?_
            obtain ⟨as8, l8, c8⟩ := I8.wl
            refine gH ?_
            have eN : ((N1 c : Nat) : Int) + ((prB own q : Nat) : Int) = ((N1 c + prB own q : Nat) : Int) := by omega
            dsimp only [gName]
            refine bodyN fun D' nx => ?_
            refine seqG fun U hU => ?_
            refine ⟨_, rfl, _, rfl, an, _, rfl, gc, _, rfl, _, rfl, p, d, t, R, C, own, q, rfl, B8, hc8, hqp.1, _, _, rfl, rfl, ?_⟩
            dsimp only
            rw [eN]
            have stay : (q ∈ ks1 ∧ N1 q ≤ N c + prB own q) → ∀ q' ∈ nl.take (i + 1), q' ∈ ks1 ∧ N1 q' ≤ N c + prB own q' := fun z q' hq' => by
              rw [et] at hq'
              rcases List.mem_append.mp hq' with y | y
              · exact hn8 q' y
              · rw [List.mem_singleton.mp y]
                exact z
            have nin8 : ∀ q' ∈ nl.take (i + 1), q' ∈ putL ks1 q ∧ setF N1 q (N1 c + prB own q) q' ≤ N c + prB own q' := fun q' hq' => by
              by_cases z : q' = q
              · rw [z, setF_same, nc8]
                exact ⟨mem_putL.mpr (.inr rfl), Nat.le_refl _⟩
              · rw [setF_ne _ _ z]
                rw [et] at hq'
                rcases List.mem_append.mp hq' with y | y
                · exact ⟨mem_putL.mpr (.inl (hn8 q' y).1), (hn8 q' y).2⟩
                · exact absurd (List.mem_singleton.mp y) z
            have hz8 : (as8.map V.ref).length < sizeLine := by
              rw [List.length_map, c8.len, sizeLine_eq]
              omega
            obtain ⟨kA8, eA8⟩ := I8.ahd.isT
            have no1 : ∀ xs, HO.dT (kvD ks1 fun p => V.int ((N1 p : Nat) : Int)) ≠ .tup xs := fun _ z => nomatch z
            have no2 : ∀ xs, HO.dT kA8 ≠ .tup xs := fun _ z => nomatch z
            have no3 : ∀ xs, HO.lst (as8.map V.ref) ≠ .tup xs := fun _ z => nomatch z
            have step : (q ∉ ks1 ∨ N1 c + prB own q < N1 q) → ∃ H9 H10, DPut H8 an (.ref t) (.int ((N1 c + prB own q : Nat) : Int)) H9 ∧ DPut H9 aa (.ref t) (.ref b) H10 ∧ H10 l = some (.lst (as8.map V.ref)) ∧
                Ex6 fun ks2 N2 A2 ws2 v6 v7 => An10 (([some (.ref p), some (.int h), some (.ref an), some (.ref aa), some (.ref l), some (.ref b), some (.ref t), some (.int ((N1 c + prB own q : Nat) : Int))] : St) = [some (.ref p), some (.int h), some (.ref an), some (.ref aa), some (.ref l), some (.ref b), v6, v7]) (SpL R C own h H (upd H10 l (.lst (as8.map V.ref ++ [.ref t]))) an aa l ks2 N2 A2 ws2 (fun x => x = c)) (2 * tot (allC R C) ks2 N2 + ws2.length ≤ 2 * tot (allC R C) ks N + ws'.length) (c ∈ ks2) (N2 c = N c) (CellAt (upd H10 l (.lst (as8.map V.ref ++ [.ref t]))) b c.1 c.2) ((upd H10 l (.lst (as8.map V.ref ++ [.ref t]))) lp = some (.lst (asn.map V.ref))) (lp ≠ l) (CellsAt (upd H10 l (.lst (as8.map V.ref ++ [.ref t]))) asn nl) (∀ q' ∈ nl.take (i + 1), q' ∈ ks2 ∧ N2 q' ≤ N c + prB own q') := fun lt => by
              refine L2.hide fun gQ gH => ?_
              obtain ⟨H9, H10, p9, k9, p10, k10, l10, I11⟩ := I8.relax hn hRC b8 hc8 ck8 rfl hqn hqp lt l8 c8
              refine gH ?_
              have eA9 := k9 _ _ eA8 (Ne.symm hn)
              have kl := But.upd (H := H10) (a := l) (o := .lst (as8.map V.ref ++ [.ref t]))
              have na : lp ≠ an := ne_of lp8 I8.num.1 (fun z => nomatch z)
              have nb : lp ≠ aa := ne_of lp8 eA8 (fun z => nomatch z)
              have tl := tot_less I8.inv hRC ck8 hqp lt
              refine ⟨H9, H10, p9, p10, l10, _, _, _, _, _, _, rfl, I11, ?_, mem_putL.mpr (.inl ck8), (setF_ne _ _ (Ne.symm (near_ne hqn))).trans nc8, kl.cell l10 no3 (k10.cell eA9 no2 (k9.cell I8.num.1 no1 b8)), kl _ _ (k10 _ _ (k9 _ _ lp8 na) nb) nlp, nlp, kl.cells l10 no3 (k10.cells eA9 no2 (k9.cells I8.num.1 no1 cn8)), nin8⟩
              rw [List.length_append, List.length_singleton]
              omega
            refine hU [some (.ref p), some (.int h), some (.ref an), some (.ref aa), some (.ref l), some (.ref b), some (.ref t), some (.int ((N1 c + prB own q : Nat) : Int))] _ ?_
            refine ⟨_, rfl, _, rfl, an, _, rfl, gq, _, rfl, ite2 (fun e7 => ?_) (fun e7 => ?_)⟩
            · have nq : q ∉ ks1 := fun z => by rw [if_pos z] at e7; simp at e7
              refine L2.hide fun gQ gH => ?_
              obtain ⟨H9, H10, p9, p10, l10, fin⟩ := step (.inl nq)
              refine gH ?_
              exact iteT ⟨_, rfl, _, rfl, _, rfl, an, _, rfl, p9, _, rfl, _, rfl, _, rfl, aa, _, rfl, p10, _, rfl, .inl ⟨rfl, _, SqL.of l10⟩, _, rfl, l, _, _, rfl, rfl, l10, hz8, nx _ _ fin⟩
            · have mq : q ∈ ks1 := Classical.byContradiction fun z => by rw [if_neg z] at e7; simp at e7
              rw [if_pos mq] at gq
              refine ⟨_, rfl, _, rfl, _, rfl, an, _, rfl, gq, _, _, rfl, rfl, _, rfl, ite2 (fun e8 => ?_) (fun e8 => ?_)⟩
              · have lt : N1 c + prB own q < N1 q := by
                  simp only [decide_eq_true_eq] at e8
                  omega
                refine L2.hide fun gQ gH => ?_
                obtain ⟨H9, H10, p9, p10, l10, fin⟩ := step (.inr lt)
                refine gH ?_
                exact ⟨_, rfl, _, rfl, _, rfl, an, _, rfl, p9, _, rfl, _, rfl, _, rfl, aa, _, rfl, p10, _, rfl, .inl ⟨rfl, _, SqL.of l10⟩, _, rfl, l, _, _, rfl, rfl, l10, hz8, nx _ _ fin⟩
              · have le : N1 q ≤ N1 c + prB own q := by
                  simp only [decide_eq_true_eq] at e8
                  omega
                exact nx _ _ ⟨ks1, N1, A1, ws1, _, _, rfl, I8, lt8, ck8, nc8, b8, lp8, nlp, cn8, stay ⟨mq, by rw [← nc8]; exact le⟩⟩
          · intro σ H8 gZ
            refine L2.hide fun gQ gH => ?_
            obtain ⟨ks1, N1, A1, ws1, v6', v7', rfl, I8, lt8, ck8, nc8, b8, lp8, nlp, cn8, hn8⟩ := gZ
            refine gH ?_
            have e1 := cn8.len
            rw [List.length_map, e1, List.take_length] at hn8
            refine nx _ _ ⟨ks1, N1, A1, ws1, _, _, _, rfl, ⟨I8.sm, I8.num, I8.ahd, I8.wl, I8.nl, I8.inv.done fun q hq hp => ?_⟩, by omega⟩
            rw [nc8]
            exact hn8 q ((hfl q).mpr ⟨hq, hp⟩)
      · have e5 : ws = [] := by
          have := c4.len
          cases ws with
          | nil => rfl
          | cons x r => simp [this] at e
        subst e5
        exact k H4 ks N A I.sm I.num I.ahd I.inv
end
end K06

set_option maxHeartbeats 4000000
namespace K06
open PySem L2 Bd
noncomputable abbrev lamPos : Pos := ⟨116, 24, 116, 50⟩
noncomputable abbrev lamQ : Str := ("need" : Str) ++ (".<locals>." : Str) ++ ("<lambda>" : Str)
noncomputable abbrev Lam (pl : Addr) (H : Hp) : Prop := LamT H pl lamPos lamQ
inductive spNeed (D : Ads) (pl : Addr) (vs : List V) (H : Hp) (Q : VK) (E : XK) : Prop
  | mk (p d : Addr) (R C : Nat) (own : Nat × Nat → Int) (h : Int) (y'1 : vs = [.ref p, .int h]) (y'2 : 0 < R) (y'3 : 0 < C) (y'4 : R ≤ 10) (y'5 : C ≤ 10) (y'6 : BoardAt D.CB H p d R C own) (y'7 : Lam pl H) (y'8 : (¬ (h = 1 ∨ h = 2) → E (.ref D.NH) none H)) (y'9 : (h = 1 ∨ h = 2 → (∀ H' t l ps, But pl H H' → Lam pl H' → H t = none → H l = none → H' t = some (.tup [.str "shut", .ref l]) → LCells H' l ps → IsChain R C (ownB R C own (3 - h)) (3 - h) ps → (∀ qs, ¬ IsChain R C (passB R C own h) h qs) → Q (.ref t) H') ∧ (∀ H' t (n : Nat) lw ps lb bs ks N, But pl H H' → Lam pl H' → H t = none → H lw = none → H lb = none → H' t = some (.tup [.str "need", .int (n : Int), .ref lw, .ref lb]) → LCells H' lw ps → IsChain R C (passB R C own h) h ps → cost (prB own) ps = n → (∀ qs, IsChain R C (passB R C own h) h qs → n ≤ cost (prB own) qs) → LsAt H' lb bs → bs.length = n → (∀ j b, bs[j]? = some b → IsChain R C (beltB R C own h ks N (j + 1)) (3 - h) b) → Q (.ref t) H'))) : spNeed D pl vs H Q E
section
variable {P : Program} {w : World} {K : PySem.W.Frag} {mg : Str → Option Value} {base : Heap} {D : Ads}
theorem scBelt : FnScope ["board", "hand", "numbers", "step", "other", "filled", "cell"] ["board", "hand", "numbers", "step"] (defScope sBelt) := ⟨rfl, rfl, rfl, by decide +kernel, rfl, by decide +kernel, by decide +kernel⟩
theorem ok_belt {f fT fCp fE fP fCh : Addr} {fd fdT fdCp fdE fdP fdCh : FuncData} (F : Fun K "belt" "belt" sBelt f fd) (T : Txt K mg D)
    (GT : FnOk P w K mg base (CX1 P w) 1 fT fdT ["hand"] spOther) (kT : PySem.W.keepIn K (.ref fT) = true) (bT : Binds K fdT ["hand"] []) (mT : mg "other_hand" = some (.ref fT))
    (GCp : FnOk P w K mg base (CX1 P w) 4 fCp fdCp ["board"] (spCopied D)) (kCp : PySem.W.keepIn K (.ref fCp) = true) (bCp : Binds K fdCp ["board"] []) (mCp : mg "copied" = some (.ref fCp))
    (GE : FnOk P w K mg base (CX1 P w) 1 fE fdE ["self"] (spEmpties D)) (bE : Binds K fdE ["self"] []) (mE : Meth K D.CB "empties" fE)
    (GP : FnOk P w K mg base (CX1 P w) 2 fP fdP ["self", "cell", "hand"] (spPut D)) (bP : Binds K fdP ["self", "cell", "hand"] []) (mP : Meth K D.CB "put" fP)
    (GCh : FnOk P w K mg base (CX1 P w) 4 fCh fdCh ["board", "hand"] (spChain D)) (kCh : PySem.W.keepIn K (.ref fCh) = true) (bCh : Binds K fdCh ["board", "hand"] []) (mCh : mg "chain" = some (.ref fCh)) :
    FnOk P w K mg base (CX1 P w) 5 f fd ["board", "hand", "numbers", "step"] (spBelt D) := by
  refine F.ok0 scBelt (fun vs H Q E h => ?_) (fun cdv A outer s H vs Q E hr h => ?_)
  · refine L2.hide fun gQ gH => ?_
    obtain ⟨p, d, an, R, C, own, h, ks, N, k, rfl, _⟩ := h
    refine gH ?_
    rfl
  · refine L2.hide fun gQ gH => ?_
    obtain ⟨p, d, an, R, C, own, h, ks, N, k, rfl, hR0, hC0, hR, hC, B, hh, n0, qc, qs⟩ := h
    refine gH ?_
    have hRC : R * C ≤ 100 := Nat.mul_le_mul hR hC
    have hu := hu_of hr
    have hr1 : Room 1 _ := hr.mono (by decide)
    have hr2 : Room 2 _ := hr.mono (by decide)
    have h3 : 3 - h = 1 ∨ 3 - h = 2 := by omega
    have h30 : 3 - h ≠ 0 := by omega
    refine ⟨_, pss_cons (ps_set (i := 4) scBelt.nd rfl (Or.inl rfl) (pe_call GT hr1 rfl mT kT bT .nil passN (pa_cons (pv 1) pa_nil)))
      (pss_cons (ps_set (i := 5) scBelt.nd rfl (Or.inl rfl) (pe_call GCp hr rfl mCp kCp bCp .nil passN (pa_cons (pv 0) pa_nil)))
      (pss_cons (ps_for PassesOwn.never rfl (pi_list (pe_meth0 (pv 0) T.cl mE GE hr1 bE .nil passN)) (pg_name (i := 6) scBelt.nd rfl (Or.inl rfl))
        (pss_one (ps_if (PW.pt (pw_and (pt_cmp (pc_din hu (pv 6) (pv 2))) (pw_and1 (pt_cmpR op_eq (pe_dget hu (pv 2) (pv 6) (fun _ _ => rfl)) (pv 3) (nomark _)))))
          (pss_one (ps_expr (pe_meth (pv 5) T.cl mP GP hr2 bP .nil passN (pa_cons (pv 6) (pa_cons (pv 4) pa_nil))))) pss_nil)))
      (pss_one (ps_ret (pe_call GCh hr rfl mCh kCh bCh .nil passN (pa_cons (pv 5) (pa_cons (pv 4) pa_nil))))))), ?_⟩
    refine ⟨_, rfl, h, rfl, ?_⟩
    refine ⟨_, rfl, p, d, R, C, own, rfl, hR0, hC0, hR, hC, B, fun p' d' H1 s1 np nd B1 => ?_⟩
    have B1' := B.mono s1
    obtain ⟨dx, hp⟩ := B1'.ob
    refine ⟨_, rfl, p, dx, _, rfl, hp, bflds_no _ _ _ (by decide +kernel) (by decide +kernel) (by decide +kernel), p, d, R, C, own, rfl, hRC, B1', fun l H2 s2 n2 hl => ?_⟩
    refine L2.hide fun gQ gH => ?_
    obtain ⟨as, e2, c2⟩ := hl
    refine gH ?_
    have s02 := s1.trans s2
    have B2 := B1.mono s2
    obtain ⟨dxp, hpp⟩ := B2.ob
    have npd : p' ≠ d' := ne_of hpp B2.dc (fun z => nomatch z)
    have nld : l ≠ d' := ne_of e2 B2.dc (fun z => nomatch z)
    have nad : an ≠ d' := ne_of_none n0.1 nd
    have no2 : ∀ xs, HO.dT (kvsOf R C own) ≠ .tup xs := fun _ z => nomatch z
    refine ⟨l, rfl, ⟨_, SqL.of e2⟩, for_list (K := K) (a := l) (xs := as.map V.ref)
      (fun i σ H3 => Ex2 fun v6 own3 => An4 (σ = [some (.ref p), some (.int h), some (.ref an), some (.int (k : Int)), some (.int (3 - h)), some (.ref p'), v6]) (BoardAt D.CB H3 p' d' R C own3) (But d' H2 H3) (Fill R C ((emptiesL R C own).take i) (fun c => c ∈ ks ∧ N c = k) (3 - h) own own3))
      ⟨none, own, rfl, B2, fun _ _ e _ => e, Fill.nil R C _ _ own⟩ (fun i σ H3 _ gz => by obtain ⟨_, _, _, _, kp, _⟩ := gz; exact SqL.of (kp _ _ e2 nld)) ?_ ?_⟩
    · intro i x σ H3 hx gZ
      refine L2.hide fun gQ gH => ?_
      obtain ⟨v6, own3, rfl, B3, k3, f3⟩ := gZ
      refine gH ?_
      refine L2.hide fun gQ gH => ?_
      obtain ⟨b, hb, rfl⟩ := get_ref hx
      refine gH ?_
      refine L2.hide fun gQ gH => ?_
      obtain ⟨q, hq, hcb⟩ := c2.get hb
      refine gH ?_
      have mq := List.mem_of_getElem? hq
      have hm := mem_empt.mp mq
      have cb3 := k3.cell B2.dc no2 hcb
      have n3 : NumAt H3 an ks N := DD.but (DD.mono n0 s02) k3 nad
      have gq := n3.get cb3
      have et : (emptiesL R C own).take (i + 1) = (emptiesL R C own).take i ++ [q] := by rw [List.take_add_one, hq]; rfl
      obtain ⟨dx3, hp3⟩ := B3.ob
      refine ⟨_, rfl, _, rfl, an, _, rfl, gq, _, rfl, ite2 (fun e7 => ?_) (fun e7 => ?_)⟩
      · have mk : q ∈ ks := Classical.byContradiction fun z => by rw [if_neg z] at e7; simp at e7
        rw [if_pos mk] at gq
        refine ⟨_, rfl, _, rfl, an, _, rfl, gq, _, rfl, rfl, _, rfl, ite2 (fun e8 => ?_) (fun e8 => ?_)⟩
        · have ek : N q = k := by
            have : ((N q : Nat) : Int) = (k : Int) := by simpa using e8
            omega
          have o3 : own3 (nat2 q) = 0 := by
            rw [(f3 q hm.1).2 fun z => nin_take (empt_nd R C own) hq z.1]
            exact hm.2
          refine ⟨_, rfl, p', dx3, _, rfl, hp3, bflds_no _ _ _ (by decide +kernel) (by decide +kernel) (by decide +kernel), _, rfl, _, rfl, p', d', b, R, C, own3, q.1, q.2, 3 - h, rfl, hRC, B3, cb3, fun z => absurd hm.1 z, fun _ z => absurd h3 z, fun _ _ z => absurd o3 z, fun _ _ _ => ?_⟩
          have k4 := But.upd (H := H3) (a := d') (o := .dT (kvsOf R C (setO own3 q.1 q.2 (3 - h))))
          refine ⟨_, _, rfl, ⟨⟨dx3, k4 _ _ hp3 npd⟩, upd_same⟩, k3.trans k4, ?_⟩
          rw [et]
          exact f3.step hm.1 ⟨mk, ek⟩
        · have ek : ¬ N q = k := fun z => by
            rw [z] at e8
            simp at e8
          refine ⟨_, _, rfl, B3, k3, ?_⟩
          rw [et]
          exact f3.skip fun z => ek z.2
      · have mk : q ∉ ks := fun z => by rw [if_pos z] at e7; simp at e7
        refine iteF ⟨_, _, rfl, B3, k3, ?_⟩
        rw [et]
        exact f3.skip fun z => mk z.1
    · intro σ H3 gZ
      refine L2.hide fun gQ gH => ?_
      obtain ⟨v6, own3, rfl, B3, k3, f3⟩ := gZ
      refine gH ?_
      have e1 := c2.len
      rw [List.length_map, e1, List.take_length] at f3
      have s03 : Same H H3 := k3.same s02 nd
      refine ⟨_, rfl, _, rfl, p', d', R, C, own3, 3 - h, rfl, hR0, hC0, hR, hC, B3, fun z => absurd h3 z, fun _ => ⟨fun l' H4 ps s4 n4 hl4 ic => ?_, fun H4 ks' s4 sh => ?_⟩⟩
      · exact qc l' H4 ps (s03.trans s4) (s03.free n4) hl4 (ic.mono fun p _ ho => (fill_belt h30 f3 p).mp ho)
      · exact qs H4 ks' (s03.trans s4) (Shut.congr sh fun p => fill_belt h30 f3 p)
theorem scNeed : FnScope ["board", "hand", "numbers", "ahead", "ends", "end", "number", "belts"] ["board", "hand"] (defScope sNeed) := ⟨rfl, rfl, rfl, by decide +kernel, rfl, by decide +kernel, by decide +kernel⟩
theorem ok_need {f fH fS fL fCh fT fB fW c pl : Addr} {fd fdH fdS fdL fdCh fdT fdB fdW : FuncData} (F : Fun K "need" "need" sNeed f fd) (T : Txt K mg D) (hmin : mg "min" = none) (hcd : fd.code = .ref c) (hCd : PySem.W.codeHdIn K c pl = true) (hbm : BmOk mg base)
    (GH : FnOk P w K mg base (CX1 P w) 1 fH fdH ["hand"] (spHand D)) (kH : PySem.W.keepIn K (.ref fH) = true) (bH : Binds K fdH ["hand"] []) (mH : mg "check_hand" = some (.ref fH))
    (GS : FnOk P w K mg base (CX1 P w) 4 fS fdS ["board", "hand", "numbers", "ahead"] (spSpread D)) (kS : PySem.W.keepIn K (.ref fS) = true) (bS : Binds K fdS ["board", "hand", "numbers", "ahead"] []) (mS : mg "spread" = some (.ref fS))
    (GL : FnOk P w K mg base (CX1 P w) 2 fL fdL ["board", "hand", "cell"] (spLast D)) (kL : PySem.W.keepIn K (.ref fL) = true) (bL : Binds K fdL ["board", "hand", "cell"] []) (mL : mg "on_last_side" = some (.ref fL))
    (GCh : FnOk P w K mg base (CX1 P w) 4 fCh fdCh ["board", "hand"] (spChain D)) (kCh : PySem.W.keepIn K (.ref fCh) = true) (bCh : Binds K fdCh ["board", "hand"] []) (mCh : mg "chain" = some (.ref fCh))
    (GT : FnOk P w K mg base (CX1 P w) 1 fT fdT ["hand"] spOther) (kT : PySem.W.keepIn K (.ref fT) = true) (bT : Binds K fdT ["hand"] []) (mT : mg "other_hand" = some (.ref fT))
    (GB : FnOk P w K mg base (CX1 P w) 5 fB fdB ["board", "hand", "numbers", "step"] (spBelt D)) (kB : PySem.W.keepIn K (.ref fB) = true) (bB : Binds K fdB ["board", "hand", "numbers", "step"] []) (mB : mg "belt" = some (.ref fB))
    (GW : FnOk P w K mg base (CX1 P w) 1 fW fdW ["cell", "ahead"] spWay) (kW : PySem.W.keepIn K (.ref fW) = true) (bW : Binds K fdW ["cell", "ahead"] []) (mW : mg "way_to" = some (.ref fW)) :
    FnOk P w K mg base (CX1 P w) 6 f fd ["board", "hand"] (spNeed D pl) := by
  refine F.ok1c scNeed (fun vs H Q E h => ?_) (fun cdv A outer s H vs Q E hcv hr h => ?_)
  · refine L2.hide fun gQ gH => ?_
    obtain ⟨p, d, R, C, own, h, rfl, _⟩ := h
    refine gH ?_
    rfl
  · refine L2.hide fun gQ gH => ?_
    obtain ⟨p, d, R, C, own, h, rfl, hR0, hC0, hR, hC, B, lam, kx, kk⟩ := h
    refine gH ?_
    have hRC : R * C ≤ 100 := Nat.mul_le_mul hR hC
    obtain rfl : cdv = .ref c := hcv.symm.trans hcd
    have hu := hu_of hr
    have hr1 : Room 1 _ := hr.mono (by decide)
    have hr2 : Room 2 _ := hr.mono (by decide)
    have hr4 : Room 4 _ := hr.mono (by decide)
    refine ⟨_, pss_cons (ps_expr (pe_call GH hr1 rfl mH kH bH .nil pass1 (pa_cons (pv 1) pa_nil)))
      (PSs.nox (pss_cons (ps_set (i := 2) scNeed.nd rfl (Or.inr rfl) pe_dnewT)
      (pss_cons (ps_set (i := 3) scNeed.nd rfl (Or.inl rfl) pe_dnewT)
      (pss_cons (ps_expr (pe_call GS hr4 rfl mS kS bS .nil passN (pa_cons (pv 0) (pa_cons (pv 1) (pa_cons (pv 2) (pa_cons (pv 3) pa_nil))))))
      (pss_cons (ps_setComp (i := 4) (hN := scNeed.nd) (hy := rfl) (hl := rfl) (hsw := by with_unfolding_all rfl) (fr := ["hand", "board"]) (js := [1, 0]) (tif := tB (tCall (spLast D) [] E0 (tCons (tVar 2) (tCons (tVar 1) (tCons (tVar 0) tNil))))) (te := tVar 0)
          (by exact ⟨rfl, rfl, rfl, rfl, by decide +kernel, by decide +kernel, by decide +kernel, by with_unfolding_all rfl, rfl, by decide +kernel⟩) rfl (pi_dict (pv 2))
          (by intro _ _ _ _; exact pf_one (pt_val (pe_call GL hr2 rfl mL kL bL .nil passN (pa_cons (pv 2) (pa_cons (pv 1) (pa_cons (pv 0) pa_nil)))))) (by intro _ _ _ _; exact pv 0))
      (pss_cons (ps_if (pt_cmpR op_eq (pe_callB call_len_seq rfl T.len PySem.boot_len (pa_cons (pe_thawN (pv 4)) pa_nil)) pe_int (nomark _))
        (pss_one (ps_ret (pe_tup (pa_cons pe_str (pa_cons (pe_call GCh hr4 rfl mCh kCh bCh .nil passN (pa_cons (pv 0) (pa_cons (pe_call GT hr1 rfl mT kT bT .nil passN (pa_cons (pv 1) pa_nil)) pa_nil))) pa_nil))))) pss_nil)
      (pss_cons (ps_set (i := 5) scNeed.nd rfl (Or.inl rfl) (pe_minkey (j := 2) (pl := pl) (q := lamQ) hr2 rfl hmin (pv 4) rfl rfl rfl hCd hbm rfl rfl (by with_unfolding_all rfl) (fun _ _ _ _ _ => rfl) rfl rfl rfl (by decide +kernel) rfl rfl))
      (pss_cons (ps_set (i := 6) scNeed.nd rfl (Or.inl rfl) (pe_dget hu (pv 2) (pv 5) (fun _ _ => rfl)))
      (pss_cons (ps_setComp (i := 7) (hN := scNeed.nd) (hy := rfl) (hl := rfl) (hsw := by with_unfolding_all rfl) (fr := ["numbers", "hand", "board"]) (js := [2, 1, 0]) (tif := tNoIf) (te := tCall (spBelt D) [] E0 (tCons (tVar 3) (tCons (tVar 2) (tCons (tVar 1) (tCons (tVar 0) tNil)))))
          (by exact ⟨rfl, rfl, rfl, rfl, by decide +kernel, by decide +kernel, by decide +kernel, by with_unfolding_all rfl, rfl, by decide +kernel⟩) rfl (pi_range2 rfl T.rng (pa_cons pe_int (pa_cons (pe_op op_add (pv 6) pe_int) pa_nil)))
          (by intro _ _ _ _; exact pf_nil) (by intro _ _ _ _; exact pe_call GB hr rfl mB kB bB .nil passN (pa_cons (pv 3) (pa_cons (pv 2) (pa_cons (pv 1) (pa_cons (pv 0) pa_nil))))))
      (pss_one (ps_ret (pe_tup (pa_cons pe_str (pa_cons (pv 6) (pa_cons (pe_call GW hr1 rfl mW kW bW .nil passN (pa_cons (pv 5) (pa_cons (pv 3) pa_nil))) (pa_cons (pv 7) pa_nil)))))))))))))))), ?_⟩
    refine seqG fun U hU => ?_
    refine ⟨_, rfl, h, rfl, fun hh => ?_, kx⟩
    obtain ⟨qs, qn⟩ := kk hh
    have h3 : 3 - h = 1 ∨ 3 - h = 2 := by omega
    refine hU _ _ ?_
    refine seqG fun U hU => ?_
    refine fun an nan => ?_
    refine hU [some (.ref p), some (.int h), some (.ref an), none, none, none, none, none] _ ?_
    refine seqG fun U hU => ?_
    refine fun aa naa => ?_
    have nne : an ≠ aa := fun z => by rw [← z, upd_same] at naa; cases naa
    have naaH : H aa = none := by rw [upd_ne (Ne.symm nne)] at naa; exact naa
    have han : (upd (upd H an (.dT [])) aa (.dT [])) an = some (.dT []) := by rw [upd_ne nne, upd_same]
    have haa : (upd (upd H an (.dT [])) aa (.dT [])) aa = some (.dT []) := upd_same
    have s02 : Same H (upd (upd H an (.dT [])) aa (.dT [])) := (Same.upd nan).trans (Same.upd naa)
    generalize upd (upd H an (.dT [])) aa (.dT []) = H2 at han haa s02 ⊢
    refine hU [some (.ref p), some (.int h), some (.ref an), some (.ref aa), none, none, none, none] _ ?_
    refine seqG fun U hU => ?_
    refine ⟨_, rfl, _, rfl, _, rfl, _, rfl, p, d, an, aa, R, C, own, h, rfl, hR0, hC0, hR, hC, B.mono s02, hh, han, haa, nne, fun H3 ks N A k3 n3 a3 I3 => ?_⟩
    have s03 : Same H H3 := fun b o e => k3 b o (s02 b o e) (ne_of_none e nan) (ne_of_none e naaH)
    have hks : ks.length ≤ 100 := Nat.le_trans (len_in I3.nd fun p hp => (I3.own p hp).1) hRC
    refine hU [some (.ref p), some (.int h), some (.ref an), some (.ref aa), none, none, none, none] _ ?_
    refine seqG fun U hU => ?_
    refine ⟨_, rfl, an, _, rfl, n3.1, fun o le nD => ?_⟩
    have nale : an ≠ le := fun z => by rw [← z, upd_same] at nD; cases nD
    have nle : H3 le = none := by rw [upd_ne (Ne.symm nale)] at nD; exact nD
    have un : ∀ b ys, upd H3 an (.frz o (.dT (kvD ks fun p => V.int ((N p : Nat) : Int)))) b = some (.tup ys) → H3 b = some (.tup ys) := fun b ys e => by
      by_cases z : b = an
      · rw [z, upd_same] at e; cases e
      · rw [upd_ne z] at e; exact e
    refine comp_dictF (lastK R C h) upd_same nD (by unfold kvD; rw [List.length_map]; exact Nat.le_of_lt (small1000 (by omega))) (fun kv hkv b hb ys Qb qb => ?_) (fun b ys Qv qv => ⟨_, rfl, qv⟩) (fun as has => ?_)
    · refine L2.hide fun gQ gH => ?_
      obtain ⟨pc, hpc, rfl⟩ := List.mem_map.mp hkv
      refine gH ?_
      have sx : Same H (upd (upd H3 an (.frz o (.dT (kvD ks fun p => V.int ((N p : Nat) : Int))))) le (.lst ys)) := fun b' o' e' => by
        rw [upd_ne (ne_of_none (s03 _ _ e') nle), upd_ne (ne_of_none e' nan)]
        exact s03 _ _ e'
      have hb' : CellAt (upd (upd H3 an (.frz o (.dT (kvD ks fun p => V.int ((N p : Nat) : Int))))) le (.lst ys)) b pc.1 pc.2 := by
        show upd _ _ _ b = _
        rw [upd_ne (ne_of_none hb nD)]
        exact hb
      exact ⟨_, rfl, _, rfl, _, rfl, p, d, b, R, C, own, h, pc.1, pc.2, rfl, B.mono sx, hb', _, rfl, qb⟩
    rw [filter_last] at has
    have c3 : CellsAt H3 as (ks.filter fun p => onLast R C h p.1 p.2) := Paired.mapP (cells_kvD has) fun b c e => un b _ e
    have me : ∀ q, q ∈ ks.filter (fun p => onLast R C h p.1 p.2) ↔ q ∈ ks ∧ onLast R C h q.1 q.2 = true := fun q => List.mem_filter
    generalize ks.filter (fun p => onLast R C h p.1 p.2) = es at c3 me
    clear has
    have s35 : Same H3 (upd (upd (upd H3 an (.frz o (.dT (kvD ks fun p => V.int ((N p : Nat) : Int))))) le (.lst (as.map V.ref))) an (.dT (kvD ks fun p => V.int ((N p : Nat) : Int)))) := fun b u e => by
      by_cases z : b = an
      · subst z
        rw [upd_same, ← n3.1]
        exact e
      · rw [upd_ne z, upd_ne (ne_of_none e nle), upd_ne z]
        exact e
    have le5 : (upd (upd (upd H3 an (.frz o (.dT (kvD ks fun p => V.int ((N p : Nat) : Int))))) le (.lst (as.map V.ref))) an (.dT (kvD ks fun p => V.int ((N p : Nat) : Int)))) le = some (.lst (as.map V.ref)) := by rw [upd_ne (Ne.symm nale), upd_same]
    refine hU [some (.ref p), some (.int h), some (.ref an), some (.ref aa), some (.ref le), none, none, none] _ ?_
    refine seqG fun U hU => ?_
    refine ⟨_, rfl, an, o, _, (by rw [upd_ne nale]; exact upd_same), nan, le, _, rfl, .inl (SqL.of le5), rfl, _, rfl, ?_⟩
    generalize upd (upd (upd H3 an (.frz o (.dT (kvD ks fun p => V.int ((N p : Nat) : Int))))) le (.lst (as.map V.ref))) an (.dT (kvD ks fun p => V.int ((N p : Nat) : Int))) = H5 at s35 le5 ⊢
    have s05 := s03.trans s35
    have B5 := B.mono s05
    have n5 : NumAt H5 an ks N := DD.mono n3 s35
    have a5 := a3.mono s35
    have c5 := c3.mono s35
    have lam5 := lam.mono s05
    refine ite2 (fun e => ?_) (fun e => ?_)
    · have e0 : es = [] := by
        have := c5.len
        cases es with
        | nil => rfl
        | cons x r => simp [this] at e; omega
      have no : ∀ q ∈ ks, onLast R C h q.1 q.2 = false := fun q hq => by
        cases z : onLast R C h q.1 q.2 with
        | false => rfl
        | true =>
          have := (me q).mpr ⟨hq, z⟩
          rw [e0] at this
          cases this
      refine ⟨_, rfl, _, rfl, h, rfl, p, d, R, C, own, 3 - h, rfl, hR0, hC0, hR, hC, B5, fun z => absurd h3 z, fun _ => ⟨fun l H6 ps s6 n6 hl6 ic => ⟨(by show 2 ≤ sizeLine; decide), fun t nt => ?_⟩, fun H6 ks' s6 sh => (other_joined hh hR0 hC0 I3 no sh).elim⟩⟩
      have s06 := s05.trans s6
      have st := Same.upd (o := .tup [.str "shut", .ref l]) nt
      exact qs _ t l ps (But.ofSame pl (s06.trans st)) (lam.mono (s06.trans st)) (s06.free nt) (s05.free n6) upd_same (hl6.mono st) ic fun qs' z => (I3.shut no).no_chain z fun _ _ y => y
    · have hne : as ≠ [] := fun z => by rw [z] at e; simp at e
      refine hU _ _ ?_
      refine seqG fun U hU => ?_
      refine ⟨_, rfl, le, an, as, _, numF H5 N, rfl, rfl, le5, hne, n5.1, fun a ha => ?_, lam5, fun a ha hmn H6 k6 lam6 => ?_⟩
      · refine L2.hide fun gQ gH => ?_
        obtain ⟨q, hq, hc⟩ := c5.mem ha
        refine gH ?_
        refine ⟨keyC q.1 q.2, hc, ?_⟩
        rw [val_kvD, if_pos ((me q).mp hq).1, numF_at hc]
      refine L2.hide fun gQ gH => ?_
      obtain ⟨c0, hc0, hca⟩ := c5.mem ha
      refine gH ?_
      obtain ⟨ck, cl⟩ := (me c0).mp hc0
      have least : ∀ q ∈ ks, onLast R C h q.1 q.2 = true → N c0 ≤ N q := fun q hq ho => by
        refine L2.hide fun gQ gH => ?_
        obtain ⟨b, hb, hbc⟩ := c5.at ((me q).mpr ⟨hq, ho⟩)
        refine gH ?_
        have := hmn b hb
        rw [numF_at hca, numF_at hbc] at this
        omega
      refine L2.hide fun gQ gH => ?_
      obtain ⟨ps5, ep5, _⟩ := lam5
      refine gH ?_
      have not5 : ∀ xs, HO.tbl ps5 ≠ .tup xs := fun _ z => nomatch z
      have B6 := k6.board ep5 B5
      have n6 : NumAt H6 an ks N := DD.but n5 k6 (ne_of n5.1 ep5 fun z => nomatch z)
      obtain ⟨kA, eA⟩ := a5.isT
      have a6 := a5.but k6 ep5 not5 (ne_of eA ep5 fun z => nomatch z)
      have ca6 := k6.cell ep5 not5 hca
      have g6 := n6.get ca6
      rw [if_pos ck] at g6
      have k06 : But pl H H6 := fun b u e n => k6 b u (s05 b u e) n
      have npl : ∀ b, H5 b = none → H6 b = none → True := fun _ _ _ => trivial
      refine hU [some (.ref p), some (.int h), some (.ref an), some (.ref aa), some (.ref le), some (.ref a), none, none] _ ?_
      refine seqG fun U hU => ?_
      refine ⟨_, rfl, _, rfl, an, _, rfl, g6, ?_⟩
      have hNc : N c0 ≤ 100 := Nat.le_trans (I3.bnd c0 ck) hks
      refine hU [some (.ref p), some (.int h), some (.ref an), some (.ref aa), some (.ref le), some (.ref a), some (.int ((N c0 : Nat) : Int)), none] _ ?_
      refine seqG fun U hU => ?_
      refine ⟨_, rfl, _, _, rfl, rfl, 1, _, rfl, ⟨by decide, by decide, by omega, by omega⟩, fun D2 nD2 => ?_⟩
      rw [show ((((N c0 : Nat) : Int) + 1 - 1).toNat) = N c0 by omega]
      refine ⟨fun i m H7 => i ≤ N c0 ∧ m = N c0 - i ∧ Same H6 H7 ∧ ∃ bl bs, H7 D2 = some (.lst (bl.map V.ref)) ∧ Paired (fun a b => a ≠ D2 ∧ LCells H7 a b) bl bs ∧ bs.length = i ∧ ∀ j b, bs[j]? = some b → IsChain R C (beltB R C own h ks N (j + 1)) (3 - h) b, ⟨N c0, Nat.zero_le _, rfl, Same.upd nD2, [], [], upd_same, .nil, rfl, fun j b z => by simp at z⟩, ?_⟩
      intro i m H7 gZ
      refine L2.hide fun gQ gH => ?_
      obtain ⟨hi, rfl, s7, bl, bs, hD7, hp7, hb7, hc7⟩ := gZ
      refine gH ?_
      by_cases hlt : i < N c0
      · refine .inr ⟨hlt, fun x H8 hy => ?_⟩
        obtain ⟨rfl, rfl⟩ := hy
        unfold tNoIf
        dsimp only
        rw [if_pos rfl]
        refine ⟨_, rfl, _, rfl, _, rfl, _, rfl, p, d, an, R, C, own, h, ks, N, i + 1, (by rw [show ((1 : Int) + (i : Int)) = ((i + 1 : Nat) : Int) by omega]; rfl), hR0, hC0, hR, hC, B6.mono s7, hh, DD.mono n6 s7, fun l H9 ps s9 n9 hl9 ic => ?_, fun H9 ks' s9 sh => ?_⟩
        · have nlD : l ≠ D2 := Ne.symm (ne_of_none hD7 n9)
          have hD9 := s9 _ _ hD7
          refine ⟨_, hD9, ?_, N c0 - (i + 1), by omega, hlt, rfl, fun b u e => ?_, bl ++ [l], bs ++ [ps], by rw [upd_same, List.map_append]; rfl, ?_, by rw [List.length_append, hb7]; rfl, fun j b z => ?_⟩
          · rw [List.length_map, Paired.length hp7, hb7]
            exact small1000 (by omega)
          · rw [upd_ne (ne_of_none e nD2)]
            exact s9 _ _ (s7 _ _ e)
          · exact Paired.snoc (Paired.mapP hp7 fun a b z => ⟨z.1, (z.2.mono s9).other z.1 hD9⟩) ⟨nlD, hl9.other nlD hD9⟩
          · by_cases hj : j < bs.length
            · rw [List.getElem?_append_left hj] at z
              exact hc7 j b z
            · have hj2 : j < (bs ++ [ps]).length := (List.getElem?_eq_some_iff.mp z).1
              rw [List.length_append, List.length_singleton] at hj2
              have ej : j = bs.length := by omega
              subst ej
              rw [List.getElem?_append_right (Nat.le_refl _), Nat.sub_self] at z
              have : ps = b := by simpa using z
              subst this
              rw [hb7]
              exact ic
        · exact (belt_there hh hR0 hC0 I3 (by omega) (fun q hq ho => Nat.le_trans hlt (least q hq ho)) sh).elim
      · have ei : i = N c0 := by omega
        subst ei
        refine .inl ⟨Nat.le_refl _, ?_⟩
        obtain ⟨wy, bk⟩ := I3.back c0 ck
        have lw := I3.low bk ck
        have a7 := a6.mono s7
        have ca7 := ca6.mono s7
        refine hU [some (.ref p), some (.int h), some (.ref an), some (.ref aa), some (.ref le), some (.ref a), some (.int ((N c0 : Nat) : Int)), some (.ref D2)] _ ?_
        refine ⟨_, rfl, _, rfl, _, rfl, a, aa, c0.1, c0.2, _, wy, rfl, a7.ahead, ca7, back_map bk fun x hx => (lw x hx).1, Nat.le_trans (len_in bk.nd fun x hx => (I3.own x (lw x hx).1).1) hRC, fun lw' H8 s8 n8 hlw => ?_⟩
        refine ⟨_, rfl, (by show 4 ≤ sizeLine; decide), fun t nt => ?_⟩
        have st := Same.upd (o := .tup [.str "need", .int ((N c0 : Nat) : Int), .ref lw', .ref D2]) nt
        have s6t := (s7.trans s8).trans st
        have hpl6 : H6 pl ≠ none := by
          refine L2.hide fun gQ gH => ?_
          obtain ⟨ps6, e6, _⟩ := lam6
          refine gH ?_
          rw [e6]
          exact fun z => nomatch z
        have fr : ∀ b, H6 b = none → H b = none := fun b n => by
          have nb : b ≠ pl := fun z => by rw [z] at n; exact hpl6 n
          cases q : H b with
          | none => rfl
          | some u =>
            rw [k06 b u q nb] at n
            cases n
        refine qn _ t (N c0) lw' wy.reverse D2 bs ks N (fun b u e n => s6t _ _ (k06 b u e n)) (lam6.mono s6t) (fr _ ((s7.trans s8).free nt)) (fr _ (s7.free n8)) (fr _ nD2) upd_same (hlw.mono st) (I3.chain (fun q hq => hq.1) bk ck cl) (by rw [cost_rev]; exact I3.pays bk ck) (fun qs' ic => ?_) ?_ hb7 hc7
        · refine L2.hide fun gQ gH => ?_
          obtain ⟨e', h1, h2, h3'⟩ := I3.least ic
          refine gH ?_
          exact Nat.le_trans (least e' h1 h2) h3'
        · exact ⟨bl, (s8.trans st) _ _ hD7, Paired.mapP hp7 fun a b z => z.2.mono (s8.trans st)⟩
end
end K06

set_option maxHeartbeats 4000000
namespace Bd
end Bd

set_option maxHeartbeats 4000000
namespace Bd
open PySem L2
theorem cost_filter (own : Nat × Nat → Int) : ∀ ps : List Cl, cost (prB own) ps = (ps.filter fun p => decide (own (p.1.toNat, p.2.toNat) = 0)).length
  | [] => rfl
  | p :: r => by
    have ih := cost_filter own r
    unfold cost at ih ⊢
    rw [List.map_cons, List.sum_cons, ih, List.filter_cons]
    by_cases e : own (p.1.toNat, p.2.toNat) = 0
    · have e1 : prB own p = 1 := prB_1.mpr e
      rw [e1, if_pos (by simpa using e), List.length_cons]
      omega
    · have e1 : prB own p = 0 := by
        unfold prB
        rw [if_neg (show ¬ own (nat2 p) = 0 from e)]
      rw [e1, if_neg (by simpa using e)]
      omega
theorem cost_len {R C : Nat} {own : Nat × Nat → Int} {O : Cl → Prop} {h : Int} {ps : List Cl} (c : IsChain R C O h ps) : cost (prB own) ps ≤ R * C := by
  rw [cost_filter]
  exact Nat.le_trans (List.length_filter_le _ _) (len_in c.nd c.inb)
theorem comp_no {K : PySem.W.Frag} {H : Hp} {l o D : Addr} {R C : Nat} {own : Nat × Nat → Int} {ks ps : List Cl} {Q : V → Hp → Prop} (hl : LCells H l ps) (od : OD H o R C own ks) (hin : ∀ p ∈ ps, inB R C p.1 p.2) (hz : ps.length ≤ 999) (nD : H D = none)
    (q : ∀ as, CellsAt H as (ps.filter fun p => decide (own (p.1.toNat, p.2.toNat) = 0)) → Q (.ref D) (upd H D (.lst (as.map V.ref)))) : CompW (Itl K l) H [some (.ref o)] (tB (tDNotIn (tVar 0) (tVar 1))) (tVar 0) Q D := by
  obtain ⟨as0, e0, c0⟩ := hl
  refine comp_listF (xs := as0.map V.ref) (fOw H own fun x => decide (x = 0)) (fun v => v) (SqL.of e0) nD (by rw [List.length_map, c0.len]; exact Nat.le_of_lt (small1000 (by omega))) (fun x hx ys Qb qb => ?_) (fun x hx _ ys Qv qv => ⟨_, rfl, qv⟩) ?_
  · obtain ⟨b, hb, rfl⟩ := List.mem_map.mp hx
    obtain ⟨pc, hpc, hc⟩ := c0.mem hb
    have sm : Same H (upd H D (.lst ys)) := Same.upd nD
    have g := (od.mono sm).dd.get (p := pc) (hc.mono sm)
    refine ⟨_, rfl, _, rfl, o, _, rfl, g, _, rfl, ?_⟩
    rw [fOw_at hc] at qb
    by_cases m : pc ∈ ks
    · have e := ((od.mem pc).mp m).2
      rw [if_pos m]
      have e2 : decide (own (pc.1.toNat, pc.2.toNat) = 0) = false := decide_eq_false e
      rw [e2] at qb
      exact qb
    · rw [if_neg m]
      have e2 : decide (own (pc.1.toNat, pc.2.toNat) = 0) = true := decide_eq_true (Classical.byContradiction fun z => m ((od.mem pc).mpr ⟨hin pc hpc, z⟩))
      rw [e2] at qb
      exact qb
  · have eS : (((as0.map V.ref).filter (fOw H own fun x => decide (x = 0))).map fun v => v) = (as0.filter fun a => fOw H own (fun x => decide (x = 0)) (.ref a)).map V.ref := by
      rw [List.map_id', List.filter_map]
      rfl
    rw [eS]
    exact q _ (c0.filterO (own := own) (f := fun x => decide (x = 0)))
theorem OD.butT {H H' : Hp} {o pl : Addr} {R C : Nat} {own : Nat × Nat → Int} {ks : List Cl} {ps : Array Value} (h : OD H o R C own ks) (k : But pl H H') (hp : H pl = some (.tbl ps)) : OD H' o R C own ks := h.but k (ne_of h.dd.1 hp fun z => nomatch z)
theorem LCells.butT {H H' : Hp} {l pl : Addr} {cs : List Cl} {ps : Array Value} (h : LCells H l cs) (k : But pl H H') (hp : H pl = some (.tbl ps)) : LCells H' l cs := by
  obtain ⟨as, h1, h2⟩ := id h
  exact k.lcells hp (fun _ z => nomatch z) (ne_of h1 hp fun z => nomatch z) h
theorem setF_true (q : Cl) : setF (fun _ => V.bl true) q (V.bl true) = fun _ => V.bl true := funext fun x => by
  unfold setF
  split <;> rfl
end Bd

set_option maxHeartbeats 4000000
namespace K06
open PySem L2 Bd
inductive spOpen (vs : List V) (H : Hp) (Q : VK) (E' : XK) : Prop
  | mk (R C : Nat) (o : Addr) (own : Nat × Nat → Int) (ks : List Cl) (h : Int) (y'1 : vs = [.int R, .int C, .ref o, .int h]) (y'2 : R ≤ 10) (y'3 : C ≤ 10) (y'4 : OD H o R C own ks) (y'5 : (h = 1 ∨ h = 2)) (y'6 : ∀ o' H' ks', Same H H' → H o' = none → DD H' o' ks' (fun _ => .bl true) → (∀ p, p ∈ ks' ↔ inB R C p.1 p.2 ∧ (own (nat2 p) = h ∨ own (nat2 p) = 0)) → Q (.ref o') H') : spOpen vs H Q E'
section
variable {P : Program} {w : World} {K : PySem.W.Frag} {mg : Str → Option Value} {base : Heap} {D : Ads}
theorem scOpen : FnScope ["rows", "columns", "owners", "hand", "found", "r", "c"] ["rows", "columns", "owners", "hand"] (defScope sOpen) := ⟨rfl, rfl, rfl, by decide +kernel, rfl, by decide +kernel, by decide +kernel⟩
theorem ok_open {f fO : Addr} {fd fdO : FuncData} (F : Fun K "_law_open" "_law_open" sOpen f fd) (T : Txt K mg D)
    (GO : FnOk P w K mg base (CX1 P w) 1 fO fdO ["owners", "hand"] spOwned) (kO : PySem.W.keepIn K (.ref fO) = true) (bO : Binds K fdO ["owners", "hand"] []) (mO : mg "_law_owned" = some (.ref fO)) :
    FnOk P w K mg base (CX1 P w) 2 f fd ["rows", "columns", "owners", "hand"] spOpen := by
  refine F.ok0 scOpen (fun vs H Q E h => ?_) (fun cdv A outer s H vs Q E hr h => ?_)
  · obtain ⟨R, C, o, own, ks, h, rfl, _⟩ := h
    rfl
  · obtain ⟨R, C, o, own, ks, h, rfl, hR, hC, od, hh, q⟩ := h
    have hRC : R * C ≤ 100 := Nat.mul_le_mul hR hC
    have hu := hu_of hr
    refine ⟨_, pss_cons (ps_set (i := 4) scOpen.nd rfl (Or.inl rfl) (pe_call GO hr rfl mO kO bO .nil passN (pa_cons (pv 2) (pa_cons (pv 3) pa_nil))))
      (pss_cons (ps_for PassesOwn.never rfl (pi_range1 rfl T.rng (pa_cons (pv 0) pa_nil)) (pg_name (i := 5) scOpen.nd rfl (Or.inl rfl))
        (pss_one (ps_for PassesOwn.never rfl (pi_range1 rfl T.rng (pa_cons (pv 1) pa_nil)) (pg_name (i := 6) scOpen.nd rfl (Or.inl rfl))
          (pss_one (ps_if (pt_cmp (pc_dnotin hu (pe_tup (pa_cons (pv 5) (pa_cons (pv 6) pa_nil))) (pv 2))) (pss_one (ps_dput hu (pv 4) (pe_tup (pa_cons (pv 5) (pa_cons (pv 6) pa_nil))) pe_bl rfl)) pss_nil)))))
      (pss_one (ps_ret (pv 4)))), ?_⟩
    refine ⟨_, rfl, _, rfl, R, C, o, own, ks, h, rfl, hR, hC, od, fun o' H1 ks1 s1 no d1 m1 => ?_⟩
    refine ⟨_, rfl, (R : Int), rfl, by omega, by omega, ?_⟩
    rw [Int.toNat_natCast]
    have in1 : ∀ p ∈ ks1, inB R C p.1 p.2 := fun p hp => ((od.mem p).mp ((m1 p).mp hp).1).1
    refine for_range (n := R) (fun i σ H2 => Ex3 fun v5 v6 ks2 => An4 (σ = [some (.int R), some (.int C), some (.ref o), some (.int h), some (.ref o'), v5, v6]) (Same H H2) (DD H2 o' ks2 (fun _ => .bl true)) (∀ p, p ∈ ks2 ↔ p ∈ ks1 ∨ (inB R C p.1 p.2 ∧ own (nat2 p) = 0 ∧ p.1 < (i : Int))))
      ⟨none, none, ks1, rfl, s1, d1, fun p => ⟨.inl, fun z => z.elim id fun y => absurd y.2.2 (by have := y.1.1; omega)⟩⟩ ?_ ?_
    · rintro i σ H2 hi ⟨v5, v6, ks2, rfl, s2, d2, m2⟩
      refine ⟨_, rfl, (C : Int), rfl, by omega, by omega, ?_⟩
      rw [Int.toNat_natCast]
      refine for_range (n := C) (fun j σ H3 => Ex2 fun v6 ks3 => An4 (σ = [some (.int R), some (.int C), some (.ref o), some (.int h), some (.ref o'), some (.int (0 + (i : Int))), v6]) (Same H H3) (DD H3 o' ks3 (fun _ => .bl true)) (∀ p, p ∈ ks3 ↔ p ∈ ks1 ∨ (inB R C p.1 p.2 ∧ own (nat2 p) = 0 ∧ (p.1 < (i : Int) ∨ (p.1 = (i : Int) ∧ p.2 < (j : Int))))))
        ⟨v6, ks2, rfl, s2, d2, fun p => by
          rw [m2]
          constructor
          · rintro (z | ⟨z1, z2, z3⟩)
            · exact .inl z
            · exact .inr ⟨z1, z2, .inl z3⟩
          · rintro (z | ⟨z1, z2, z3⟩)
            · exact .inl z
            · have := z1.2.2.1
              exact .inr ⟨z1, z2, by omega⟩⟩ ?_ ?_
      · rintro j σ H3 hj ⟨v6, ks3, rfl, s3, d3, m3⟩
        refine ⟨_, rfl, _, rfl, (by show 2 ≤ sizeLine; decide), fun t nt => ?_⟩
        have st := Same.upd (o := .tup [.int (0 + (i : Int)), .int (0 + (j : Int))]) nt
        have ct : CellAt (upd H3 t (.tup [.int (0 + (i : Int)), .int (0 + (j : Int))])) t (i : Int) (j : Int) := by
          show upd _ _ _ t = _
          rw [upd_same, Int.zero_add, Int.zero_add]
        generalize upd H3 t (.tup [.int (0 + (i : Int)), .int (0 + (j : Int))]) = H4 at st ct ⊢
        have s4 := s3.trans st
        have od4 := od.mono s4
        have hin : inB R C (i : Int) (j : Int) := by unfold inB; omega
        have in3 : ∀ p ∈ ks3, inB R C p.1 p.2 := fun p hp => ((m3 p).mp hp).elim (in1 p) fun z => z.1
        refine ⟨_, rfl, o, _, rfl, od4.dd.get (p := ((i : Int), (j : Int))) ct, _, rfl, ite2 (fun e => ?_) (fun e => ?_)⟩
        · have nin : (((i : Int), (j : Int)) : Cl) ∉ ks := fun z => by rw [if_pos z] at e; simp at e
          have h0 : own (nat2 ((i : Int), (j : Int))) = 0 := Classical.byContradiction fun z => nin ((od.mem _).mpr ⟨hin, z⟩)
          refine ⟨_, rfl, _, rfl, _, rfl, (by show 2 ≤ sizeLine; decide), fun t2 nt2 => ?_⟩
          have st2 := Same.upd (o := .tup [.int (0 + (i : Int)), .int (0 + (j : Int))]) nt2
          have ct2 : CellAt (upd H4 t2 (.tup [.int (0 + (i : Int)), .int (0 + (j : Int))])) t2 (i : Int) (j : Int) := by
            show upd _ _ _ t2 = _
            rw [upd_same, Int.zero_add, Int.zero_add]
          generalize upd H4 t2 (.tup [.int (0 + (i : Int)), .int (0 + (j : Int))]) = H5 at st2 ct2 ⊢
          have d5 := (d3.mono st).mono st2
          have pp := d5.put (p := ((i : Int), (j : Int))) (.bl true) ct2 (by have := len_in d3.2 in3; omega)
          rw [setF_true] at pp
          refine ⟨o', _, rfl, pp, _, putL ks3 ((i : Int), (j : Int)), rfl, But.upd.same (s4.trans st2) no, DD.new (putL_nd d3.2), fun p => ?_⟩
          rw [mem_putL, m3]
          constructor
          · rintro ((z | ⟨z1, z2, z3⟩) | rfl)
            · exact .inl z
            · exact .inr ⟨z1, z2, by omega⟩
            · exact .inr ⟨hin, h0, .inr ⟨rfl, by dsimp only; omega⟩⟩
          · rintro (z | ⟨z1, z2, z3⟩)
            · exact .inl (.inl z)
            · by_cases y : p = ((i : Int), (j : Int))
              · exact .inr y
              · refine .inl (.inr ⟨z1, z2, ?_⟩)
                rcases z3 with z3 | ⟨z3, z4⟩
                · exact .inl z3
                · refine .inr ⟨z3, ?_⟩
                  have : p.2 ≠ (j : Int) := fun z => y (Prod.ext z3 z)
                  omega
        · have yin : (((i : Int), (j : Int)) : Cl) ∈ ks := Classical.byContradiction fun z => by rw [if_neg z] at e; simp at e
          refine ⟨_, ks3, rfl, s4, d3.mono st, fun p => ?_⟩
          rw [m3]
          constructor
          · rintro (z | ⟨z1, z2, z3⟩)
            · exact .inl z
            · exact .inr ⟨z1, z2, by omega⟩
          · rintro (z | ⟨z1, z2, z3⟩)
            · exact .inl z
            · refine .inr ⟨z1, z2, ?_⟩
              rcases z3 with z3 | ⟨z3, z4⟩
              · exact .inl z3
              · refine .inr ⟨z3, ?_⟩
                have : p.2 ≠ (j : Int) := fun z => by
                  have ep : p = ((i : Int), (j : Int)) := Prod.ext z3 z
                  rw [ep] at z2
                  exact ((od.mem _).mp yin).2 z2
                omega
      · rintro σ H3 ⟨v6, ks3, rfl, s3, d3, m3⟩
        refine ⟨_, _, ks3, rfl, s3, d3, fun p => ?_⟩
        rw [m3]
        constructor
        · rintro (z | ⟨z1, z2, z3⟩)
          · exact .inl z
          · exact .inr ⟨z1, z2, by omega⟩
        · rintro (z | ⟨z1, z2, z3⟩)
          · exact .inl z
          · have := z1.2.2.2
            exact .inr ⟨z1, z2, by omega⟩
    · rintro σ H2 ⟨v5, v6, ks2, rfl, s2, d2, m2⟩
      refine ⟨_, rfl, q o' H2 ks2 s2 no d2 fun p => ?_⟩
      rw [m2, m1, od.mem]
      constructor
      · rintro (⟨⟨z1, z2⟩, z3⟩ | ⟨z1, z2, z3⟩)
        · exact ⟨z1, .inl z3⟩
        · exact ⟨z1, .inr z2⟩
      · rintro ⟨z1, z2 | z2⟩
        · exact .inl ⟨⟨z1, by omega⟩, z2⟩
        · exact .inr ⟨z1, z2, z1.2.1⟩
end
end K06

set_option maxHeartbeats 4000000
namespace Bd
open PySem L2
structure JInv (R C : Nat) (O : Cl → Prop) (h : Int) (H H2 : Hp) (a l : Addr) (L : List (Cl × Option Cl)) (n : Nat) (ex : Cl → Prop) : Prop where
  na : H a = none
  nl : H l = none
  sm : Same H H2
  ah : DD H2 a (Flood.keys L) (fun _ => .bl true)
  wl : LCells H2 l (Flood.keys L)
  fl : Flood.Fl (fun x => x ∈ firstL R C h) O (fun x y => y ∈ nearL R C x.1 x.2) L
  st : ∀ p ∈ firstL R C h, O p → p ∈ Flood.keys L
  cl : ∀ p ∈ (Flood.keys L).take n, ex p ∨ (onLast R C h p.1 p.2 = false ∧ ∀ q ∈ nearL R C p.1 p.2, O q → q ∈ Flood.keys L)
section
variable {R C : Nat} {O : Cl → Prop} {h : Int} {H H2 H3 : Hp} {a l : Addr} {L : List (Cl × Option Cl)} {n : Nat} {ex : Cl → Prop}
theorem JInv.mono (I : JInv R C O h H H2 a l L n ex) (s : Same H2 H3) : JInv R C O h H H3 a l L n ex := ⟨I.na, I.nl, I.sm.trans s, I.ah.mono s, I.wl.mono s, I.fl, I.st, I.cl⟩
theorem JInv.nal (I : JInv R C O h H H2 a l L n ex) : a ≠ l := by
  obtain ⟨as, h2, _⟩ := I.wl
  exact ne_of I.ah.1 h2 (fun z => nomatch z)
theorem JInv.len (I : JInv R C O h H H2 a l L n ex) (hi : ∀ p, O p → inB R C p.1 p.2) : (Flood.keys L).length ≤ R * C := len_in I.fl.nd fun p hp => hi p (I.fl.own p hp)
theorem JInv.shut (I : JInv R C O h H H2 a l L n (fun _ => False)) (hn : (Flood.keys L).length ≤ n) : Shut R C O h (Flood.keys L) := by
  have e : (Flood.keys L).take n = Flood.keys L := List.take_of_length_le hn
  have cl := I.cl
  rw [e] at cl
  exact ⟨I.st, fun p hp q hq ho => ((cl p hp).resolve_left id).2 q hq ho, fun p hp => ((cl p hp).resolve_left id).1, I.fl.own⟩
theorem JInv.push {c q : Cl} {t : Addr} {as : List Addr} (I : JInv R C O h H H2 a l L n ex) (hn : n ≤ (Flood.keys L).length) (ht : CellAt H2 t q.1 q.2) (hc : c ∈ Flood.keys L) (hq : q ∈ nearL R C c.1 c.2) (ho : O q) (nq : q ∉ Flood.keys L) (e : H2 l = some (.lst (as.map V.ref))) (ea : CellsAt H2 as (Flood.keys L)) :
    JInv R C O h H (upd (upd H2 a (.dT (kvD (putL (Flood.keys L) q) (setF (fun _ => V.bl true) q (.bl true))))) l (.lst (as.map V.ref ++ [.ref t]))) a l (L ++ [(q, some c)]) n ex ∧
      But l (upd H2 a (.dT (kvD (putL (Flood.keys L) q) (setF (fun _ => V.bl true) q (.bl true))))) (upd (upd H2 a (.dT (kvD (putL (Flood.keys L) q) (setF (fun _ => V.bl true) q (.bl true))))) l (.lst (as.map V.ref ++ [.ref t]))) ∧ But a H2 (upd H2 a (.dT (kvD (putL (Flood.keys L) q) (setF (fun _ => V.bl true) q (.bl true))))) := by
  have k1 := But.upd (H := H2) (a := a) (o := .dT (kvD (putL (Flood.keys L) q) (setF (fun _ => V.bl true) q (.bl true))))
  have k2 := But.upd (H := upd H2 a (.dT (kvD (putL (Flood.keys L) q) (setF (fun _ => V.bl true) q (.bl true))))) (a := l) (o := .lst (as.map V.ref ++ [.ref t]))
  have el := k1 l _ e (Ne.symm I.nal)
  have ek : putL (Flood.keys L) q = Flood.keys (L ++ [(q, some c)]) := by unfold putL; rw [if_neg nq, Flood.keys_snoc]
  have ef : kvD (putL (Flood.keys L) q) (setF (fun _ => V.bl true) q (.bl true)) = kvD (Flood.keys (L ++ [(q, some c)])) (fun _ => V.bl true) := by
    rw [ek]
    exact kvD_congr fun x _ => by unfold setF; split <;> rfl
  refine ⟨⟨I.na, I.nl, k2.same (k1.same I.sm I.na) I.nl, ⟨k2 _ _ (by rw [upd_same, ef]) I.nal, by rw [← ek]; exact putL_nd I.ah.2⟩, ⟨as ++ [t], by rw [upd_same, List.map_append]; rfl, ?_⟩, I.fl.step hc hq ho nq, fun p hp hO => ?_, fun p hp => ?_⟩, k2, k1⟩
  · rw [Flood.keys_snoc]
    exact k2.cells el (fun _ z => nomatch z) (k1.cells I.ah.1 (fun _ z => nomatch z) (ea.append (.cons ht .nil)))
  · rw [Flood.keys_snoc]
    exact List.mem_append_left _ (I.st p hp hO)
  · rw [Flood.keys_snoc, List.take_append_of_le_length hn] at hp
    rw [Flood.keys_snoc]
    rcases I.cl p hp with y | y
    · exact .inl y
    · exact .inr ⟨y.1, fun q' hq' ho' => List.mem_append_left _ (y.2 q' hq' ho')⟩
end
noncomputable def axis (h : Int) (p : Cl) : Int := if h = 1 then p.2 else p.1
theorem first_axis {R C : Nat} {h : Int} {p : Cl} (hb : inB R C p.1 p.2) : p ∈ firstL R C h ↔ axis h p = 0 := by
  unfold axis
  unfold inB at hb
  by_cases e : h = 1
  · subst e
    rw [mem_first1, if_pos rfl]
    exact ⟨fun z => z.2.2, fun z => ⟨hb.1, hb.2.1, z⟩⟩
  · rw [mem_first2 e, if_neg e]
    exact ⟨fun z => z.2.2, fun z => ⟨hb.2.2.1, hb.2.2.2, z⟩⟩
theorem last_axis {R C : Nat} {h : Int} {p : Cl} : onLast R C h p.1 p.2 = decide (axis h p = (if h = 1 then (C : Int) else (R : Int)) - 1) := by
  unfold onLast axis
  by_cases e : h = 1
  · rw [if_pos e, if_pos e, if_pos e]
  · rw [if_neg e, if_neg e, if_neg e]
theorem axis_ix {p : Cl} {h : Int} (hh : h = 1 ∨ h = 2) : atI [V.int p.1, V.int p.2] (2 - h) = some (.int (axis h p)) := by
  rcases hh with rfl | rfl
  · exact atI_nat (j := 1) rfl
  · exact atI_nat (j := 0) rfl
theorem side_ix {R C : Nat} {h : Int} (hh : h = 1 ∨ h = 2) : atI [V.int (R : Int), V.int (C : Int)] (2 - h) = some (.int (if h = 1 then (C : Int) else (R : Int))) := by
  rcases hh with rfl | rfl
  · exact atI_nat (j := 1) rfl
  · exact atI_nat (j := 0) rfl
noncomputable def fA (H : Hp) (h : Int) (v : V) : Bool := match cellOf H v with
  | some p => decide (axis h p = 0)
  | none => false
theorem fA_at {H : Hp} {a : Addr} {p : Cl} {h : Int} (hc : CellAt H a p.1 p.2) : fA H h (.ref a) = decide (axis h p = 0) := by
  unfold fA
  rw [cellOf_at hc]
end Bd

set_option maxHeartbeats 4000000
namespace K06
open PySem L2 Bd
inductive spJoined (vs : List V) (H : Hp) (Q : VK) (E' : XK) : Prop
  | mk (R C : Nat) (o : Addr) (h : Int) (ks : List Cl) (g : Cl → V) (y'1 : vs = [.int R, .int C, .int h, .ref o]) (y'2 : 0 < R) (y'3 : 0 < C) (y'4 : R ≤ 10) (y'5 : C ≤ 10) (y'6 : (h = 1 ∨ h = 2)) (y'7 : DD H o ks g) (y'8 : (∀ p ∈ ks, inB R C p.1 p.2)) (y'9 : (∀ H' ps, Same H H' → IsChain R C (fun p => p ∈ ks) h ps → Q (.bl true) H')) (y'10 : (∀ H' sk, Same H H' → Shut R C (fun p => p ∈ ks) h sk → Q (.bl false) H')) : spJoined vs H Q E'
section
variable {P : Program} {w : World} {K : PySem.W.Frag} {mg : Str → Option Value} {base : Heap} {D : Ads}
theorem scJoined : FnScope ["rows", "columns", "hand", "allowed", "line", "seen", "cell", "done", "here", "other"] ["rows", "columns", "hand", "allowed"] (defScope sJoined) := ⟨rfl, rfl, rfl, by decide +kernel, rfl, by decide +kernel, by decide +kernel⟩
theorem ok_joined {f fN : Addr} {fd fdN : FuncData} (F : Fun K "_law_joined" "_law_joined" sJoined f fd) (T : Txt K mg D)
    (GN : FnOk P w K mg base (CX1 P w) 1 fN fdN ["rows", "columns", "cell"] spLNear) (kN : PySem.W.keepIn K (.ref fN) = true) (bN : Binds K fdN ["rows", "columns", "cell"] []) (mN : mg "_law_near" = some (.ref fN)) :
    FnOk P w K mg base (CX1 P w) 2 f fd ["rows", "columns", "hand", "allowed"] spJoined := by
  refine F.ok0 scJoined (fun vs H Q E h => ?_) (fun cdv A outer s H vs Q E hr h => ?_)
  · refine L2.hide fun gQ gH => ?_
    obtain ⟨R, C, o, h, ks, g, rfl, _⟩ := h
    refine gH ?_
    rfl
  · refine L2.hide fun gQ gH => ?_
    obtain ⟨R, C, o, h, ks, g, rfl, hR0, hC0, hR, hC, hh, dd, inb, qt, qf⟩ := h
    refine gH ?_
    have hu := hu_of hr
    have hRC : R * C ≤ 100 := Nat.mul_le_mul hR hC
    have hzk : ks.length ≤ 100 := Nat.le_trans (len_in dd.2 inb) hRC
    refine ⟨_, pss_cons (ps_setComp (i := 4) (hN := scJoined.nd) (hy := rfl) (hl := rfl) (hsw := by with_unfolding_all rfl) (fr := ["hand"]) (js := [2]) (tif := tTest (tOp rEq (tOp (rIxT K) (tVar 0) (tOp (rI0 fun i j => .int (i - j)) (tC (.int 2)) (tVar 1))) (tC (.int 0)))) (te := tVar 0)
          (by exact ⟨rfl, rfl, rfl, rfl, by decide +kernel, by decide +kernel, by decide +kernel, by with_unfolding_all rfl, rfl, by decide +kernel⟩) rfl (pi_list (pe_callTy (call_listDT rfl) rfl T.tList (by decide +kernel) (pa_cons (pv 3) pa_nil)))
          (by intro _ _ _ _; exact pf_one (pt_cmpR op_eq (pe_ix ix_tup (pv 0) (pe_op op_sub pe_int (pv 1)) (fun _ _ => rfl)) pe_int (nomark _))) (by intro _ _ _ _; exact pv 0))
      (pss_cons (ps_set (i := 5) scJoined.nd rfl (Or.inl rfl) pe_dnewT)
      (pss_cons (ps_for PassesOwn.never rfl (pi_list (pv 4)) (pg_name (i := 6) scJoined.nd rfl (Or.inl rfl)) (pss_one (ps_dput hu (pv 5) (pv 6) pe_bl rfl)))
      (pss_cons (ps_set (i := 7) scJoined.nd rfl (Or.inl rfl) pe_int)
      (pss_cons (ps_while PassesOwn.never (pt_cmpR op_lt (pv 7) (pe_callB call_len_seq rfl T.len PySem.boot_len (pa_cons (pv 4) pa_nil)) (nomark _))
        (pss_cons (ps_set (i := 8) scJoined.nd rfl (Or.inl rfl) (pe_ix ix_list (pv 4) (pv 7) (fun _ _ => rfl)))
        (pss_cons (ps_set (i := 7) scJoined.nd rfl (Or.inl rfl) (pe_op op_add (pv 7) pe_int))
        (pss_cons (ps_if (pt_cmpR op_eq (pe_ix ix_tup (pv 8) (pe_op op_sub pe_int (pv 2)) (fun _ _ => rfl)) (pe_op op_sub (pe_ix ix_list (pe_lst (pa_cons (pv 0) (pa_cons (pv 1) pa_nil))) (pe_op op_sub pe_int (pv 2)) (fun _ _ => rfl)) pe_int) (nomark _)) (pss_one (ps_ret pe_bl)) pss_nil)
        (pss_one (ps_for PassesOwn.never rfl (pi_list (pe_call GN hr rfl mN kN bN .nil passN (pa_cons (pv 0) (pa_cons (pv 1) (pa_cons (pv 8) pa_nil))))) (pg_name (i := 9) scJoined.nd rfl (Or.inl rfl))
          (pss_one (ps_if (PW.pt (pw_and (pt_cmp (pc_din hu (pv 9) (pv 3))) (pw_and1 (pt_cmp (pc_dnotin hu (pv 9) (pv 5))))))
            (pss_cons (ps_dput hu (pv 5) (pv 9) pe_bl rfl) (pss_one (ps_expr (pe_bm PySem.F.plainAttrs_list PySem.F.slot_list_append PySem.F.type_list_append mt_append (pv 4) (pa_cons (pv 9) pa_nil))))) pss_nil))))))))
      (pss_one (ps_ret pe_bl)))))), ?_⟩
    refine seqG fun U hU => ?_
    refine ⟨_, rfl, o, _, rfl, .inl dd.1, fun l0 as0 nl0 hp0 => ?_⟩
    have c0 := cells_kvD hp0
    have hz0 : as0.length ≤ 100 := by rw [c0.len]; exact hzk
    have s1 : Same H (upd H l0 (.lst (as0.map V.ref))) := Same.upd nl0
    have e0 : (upd H l0 (.lst (as0.map V.ref))) l0 = some (.lst (as0.map V.ref)) := upd_same
    have c01 := c0.mono s1
    generalize upd H l0 (.lst (as0.map V.ref)) = H1 at s1 e0 c01 ⊢
    refine ⟨l0, rfl, ⟨_, SqL.of e0⟩, fun l nl => ?_⟩
    refine comp_listF (xs := as0.map V.ref) (fA H1 h) (fun v => v) (SqL.of e0) nl (by rw [List.length_map]; exact Nat.le_of_lt (small1000 (by omega))) (fun x hx ys Qb qb => ?_) (fun x hx _ ys Qv qv => ⟨_, rfl, qv⟩) ?_
    · refine L2.hide fun gQ gH => ?_
      obtain ⟨b, hb, rfl⟩ := List.mem_map.mp hx
      refine gH ?_
      refine L2.hide fun gQ gH => ?_
      obtain ⟨pc, hpc, hc⟩ := c01.mem hb
      refine gH ?_
      have sm : Same H1 (upd H1 l (.lst ys)) := Same.upd nl
      refine ⟨_, rfl, _, rfl, _, _, rfl, rfl, b, _, _, _, rfl, rfl, SqT.of (hc.mono sm), axis_ix hh, rfl, _, rfl, ?_⟩
      rw [fA_at hc] at qb
      simpa using qb
    · have s2 : Same H1 (upd H1 l (.lst (((as0.map V.ref).filter (fA H1 h)).map fun v => v))) := Same.upd nl
      have nlH : H l = none := s1.free nl
      have eS : (((as0.map V.ref).filter (fA H1 h)).map fun v => v) = (as0.filter fun a => fA H1 h (.ref a)).map V.ref := by
        rw [List.map_id', List.filter_map]
        rfl
      generalize eH : upd H1 l (.lst (((as0.map V.ref).filter (fA H1 h)).map fun v => v)) = H2 at s2 ⊢
      have l2 : H2 l = some (.lst ((as0.filter fun a => fA H1 h (.ref a)).map V.ref)) := by rw [← eH, upd_same, eS]
      have c2 : CellsAt H2 (as0.filter fun a => fA H1 h (.ref a)) (ks.filter fun p => decide (axis h p = 0)) := CellsAt.mono (Paired.filter (fun _ _ q => fA_at q) c01) s2
      generalize (as0.filter fun a => fA H1 h (.ref a)) = as at l2 c2
      have nd : (ks.filter fun p => decide (axis h p = 0)).Nodup := dd.2.filter _
      have hm : ∀ q, q ∈ ks.filter (fun p => decide (axis h p = 0)) ↔ q ∈ firstL R C h ∧ q ∈ ks := fun q => by
        rw [List.mem_filter, decide_eq_true_eq]
        exact ⟨fun z => ⟨(first_axis (inb q z.1)).mpr z.2, z.1⟩, fun z => ⟨z.2, (first_axis (inb q z.2)).mp z.1⟩⟩
      have hlen : (ks.filter fun p => decide (axis h p = 0)).length ≤ 100 := Nat.le_trans (List.length_filter_le _ _) hzk
      generalize ks.filter (fun p => decide (axis h p = 0)) = cs at c2 nd hm hlen
      have s02 : Same H H2 := s1.trans s2
      clear eS eH s2
      refine hU [some (.int R), some (.int C), some (.int h), some (.ref o), some (.ref l), none, none, none, none, none] _ ?_
      refine seqG fun U hU => ?_
      intro a na
      have naH : H a = none := s02.free na
      have nla : l ≠ a := ne_of_none l2 na
      refine hU [some (.int R), some (.int C), some (.int h), some (.ref o), some (.ref l), some (.ref a), none, none, none, none] _ ?_
      refine seqG fun U hU => ?_
      refine ⟨_, rfl, l, rfl, ⟨_, SqL.of (by rw [upd_ne nla]; exact l2)⟩, for_list (K := K) (a := l) (xs := as.map V.ref)
        (fun i σ H3 => Ex1 fun v6 => An5 (σ = [some (.int R), some (.int C), some (.int h), some (.ref o), some (.ref l), some (.ref a), v6, none, none, none]) (Same H H3) (H3 l = some (.lst (as.map V.ref))) (CellsAt H3 as cs) (DD H3 a (cs.take i) (fun _ => .bl true)))
        ?_ (fun i σ H3 _ gz => SqL.of (by obtain ⟨_, _, _, e, _⟩ := gz; exact e)) ?_ ?_⟩
      · exact ⟨none, rfl, s02.trans (Same.upd na), by rw [upd_ne nla]; exact l2, c2.mono (Same.upd na), upd_same, List.nodup_nil⟩
      · intro i x σ H3 hx gZ
        refine L2.hide fun gQ gH => ?_
        obtain ⟨v6, rfl, s3, l3, c3, a3⟩ := gZ
        refine gH ?_
        refine L2.hide fun gQ gH => ?_
        obtain ⟨b, hb, rfl⟩ := get_ref hx
        refine gH ?_
        refine L2.hide fun gQ gH => ?_
        obtain ⟨q, hq, hc⟩ := c3.get hb
        refine gH ?_
        have nin : q ∉ cs.take i := by
          intro z
          exact nin_take nd hq z
        have kp := But.upd (H := H3) (a := a) (o := .dT (kvD (putL (cs.take i) q) (setF (fun _ => V.bl true) q (.bl true))))
        dsimp only [gName]
        refine bodyN fun D' nx => ?_
        refine ⟨_, rfl, _, rfl, a, _, rfl, a3.put (.bl true) hc (by rw [List.length_take]; omega), ?_⟩
        refine nx _ _ ?_
        refine ⟨_, rfl, kp.same s3 naH, kp _ _ l3 nla, kp.cells a3.1 (fun _ z => nomatch z) c3, ?_⟩
        have ek : putL (cs.take i) q = cs.take (i + 1) := by unfold putL; rw [if_neg nin, List.take_add_one, hq]; rfl
        have ef : kvD (putL (cs.take i) q) (setF (fun _ => V.bl true) q (.bl true)) = kvD (cs.take (i + 1)) (fun _ => V.bl true) := by
          rw [ek]
          exact kvD_congr fun x _ => by unfold setF; split <;> rfl
        exact ⟨by rw [upd_same, ef], by rw [← ek]; exact putL_nd a3.2⟩
      · intro σ H3 gZ
        refine L2.hide fun gQ gH => ?_
        obtain ⟨v6, rfl, s3, l3, c3, a3⟩ := gZ
        refine gH ?_
        have e1 : as.length = cs.length := c3.len
        rw [List.length_map, e1, List.take_length] at a3
        have hO : ∀ p, (fun p => p ∈ ks) p → inB R C p.1 p.2 := fun p hp => inb p hp
        have I0 : JInv R C (fun p => p ∈ ks) h H H3 a l (cs.map fun c => (c, none)) 0 (fun _ => False) := by
          refine ⟨naH, nlH, s3, by rw [keys_starts]; exact a3, by rw [keys_starts]; exact ⟨as, l3, c3⟩, ?_, fun q hq ho => by rw [keys_starts]; exact (hm q).mpr ⟨hq, ho⟩, fun q hq => by simp at hq⟩
          have := fl_starts (S := fun x => x ∈ firstL R C h) (O := fun p => p ∈ ks) (N := fun x y => y ∈ nearL R C x.1 x.2) cs.length cs nd (fun c hc => (hm c).mp hc)
          rw [List.take_length] at this
          exact this
        refine hU _ _ ?_
        refine seqG fun U hU => ?_
        refine hU [some (.int R), some (.int C), some (.int h), some (.ref o), some (.ref l), some (.ref a), v6, some (.int 0), none, none] _ ?_
        refine seqG fun U hU => ?_
        refine ⟨fun m σ H4 => Ex6 fun L (n : Nat) v6 v7 v8 v9 => An5 (σ = [some (.int R), some (.int C), some (.int h), some (.ref o), some (.ref l), some (.ref a), v6, some (.int v7), v8, v9]) (v7 = (n : Int)) (JInv R C (fun p => p ∈ ks) h H H4 a l L n (fun _ => False)) (n ≤ (Flood.keys L).length) (m = 100 - n), ⟨_, _, 0, _, _, _, _, rfl, rfl, I0, Nat.zero_le _, rfl⟩, ?_⟩
        intro m σ H4 gZ
        refine L2.hide fun gQ gH => ?_
        obtain ⟨L, n, v6, v7, v8, v9, rfl, rfl, I, hn, rfl⟩ := gZ
        refine gH ?_
        have hL := Nat.le_trans (I.len hO) hRC
        have hws := I.wl
        refine L2.hide fun gQ gH => ?_
        obtain ⟨as4, l4, c4⟩ := hws
        refine gH ?_
        have el4 := c4.len
        refine ⟨_, rfl, _, rfl, l, _, rfl, .inl (SqL.of l4), _, _, rfl, rfl, _, rfl, ite2 (fun e => ?_) (fun e => ?_)⟩
        · have hlt : n < (Flood.keys L).length := by
            simp [el4] at e
            omega
          refine L2.hide fun gQ gH => ?_
          obtain ⟨b, hb4, hc4⟩ := c4.put (i := n) (p := (Flood.keys L)[n]) (by simp [hlt])
          refine gH ?_
          have hck : (Flood.keys L)[n] ∈ Flood.keys L := List.getElem_mem hlt
          have hgn : (Flood.keys L)[n]? = some (Flood.keys L)[n] := by simp [hlt]
          generalize (Flood.keys L)[n] = c at hc4 hck hgn
          refine ⟨fun σ' H' => Ex6 fun L1 (n1 : Nat) v6 v7 v8 v9 => An5 (σ' = [some (.int R), some (.int C), some (.int h), some (.ref o), some (.ref l), some (.ref a), v6, some (.int v7), v8, v9]) (v7 = ((n1 : Nat) : Int)) (JInv R C (fun p => p ∈ ks) h H H' a l L1 n1 (fun _ => False)) (n1 ≤ (Flood.keys L1).length) (100 - n1 < 100 - n),
            fun σ' H' gz => by obtain ⟨L1, n1, v6, v7, v8, v9, e1, e2, I1, wl1, lt⟩ := gz; exact ⟨_, lt, L1, n1, v6, v7, v8, v9, e1, e2, I1, wl1, rfl⟩, ?_⟩
          refine bodyR fun D' nx rt => ?_
          refine seqG fun U hU => ?_
          refine ⟨_, rfl, _, rfl, l, _, _, .ref b, rfl, rfl, SqL.of l4, atI_nat (by rw [List.getElem?_map, hb4]; rfl), ?_⟩
          refine hU [some (.int R), some (.int C), some (.int h), some (.ref o), some (.ref l), some (.ref a), v6, some (.int n), some (.ref b), v9] _ ?_
          refine seqG fun U hU => ?_
          refine ⟨_, rfl, _, _, rfl, rfl, ?_⟩
          refine hU [some (.int R), some (.int C), some (.int h), some (.ref o), some (.ref l), some (.ref a), v6, some (.int ((n : Int) + 1)), some (.ref b), v9] _ ?_
          refine seqG fun U hU => ?_
          refine ⟨_, rfl, _, rfl, _, _, rfl, rfl, b, _, _, _, rfl, rfl, SqT.of hc4, axis_ix hh, _, rfl, _, rfl, (by show 2 ≤ sizeLine; decide), fun tl ntl => ?_⟩
          have s5 : Same H4 (upd H4 tl (.lst [.int R, .int C])) := Same.upd ntl
          have l5 : (upd H4 tl (.lst [.int R, .int C])) tl = some (.lst [.int R, .int C]) := upd_same
          generalize upd H4 tl (.lst [.int R, .int C]) = H5 at s5 l5 ⊢
          have I5 := I.mono s5
          refine ⟨_, rfl, _, _, rfl, rfl, tl, _, _, _, rfl, rfl, SqL.of l5, side_ix hh, _, _, rfl, rfl, rfl, _, rfl, ite2 (fun e6 => ?_) (fun e6 => ?_)⟩
          · obtain ⟨w, W⟩ := I5.fl.way c hck
            refine rt _ _ (qt H5 w.reverse I5.sm (chain_of_way hR0 hC0 W hO ?_))
            rw [last_axis]
            simpa using e6
          · have e5 : onLast R C h c.1 c.2 = false := by
              rw [last_axis]
              simpa using e6
            refine hU _ _ ?_
            refine ⟨_, rfl, _, rfl, _, rfl, R, C, b, c.1, c.2, rfl, hc4.mono s5, fun ln H6 s6 n6 hln => ?_⟩
            refine L2.hide fun gQ gH => ?_
            obtain ⟨asn, en, cn⟩ := hln
            refine gH ?_
            have nll : ln ≠ l := Ne.symm (ne_of_none (s5 _ _ l4) n6)
            have nla' : ln ≠ a := Ne.symm (ne_of_none I5.ah.1 n6)
            refine ⟨ln, rfl, ⟨_, SqL.of en⟩, for_list (K := K) (a := ln) (xs := asn.map V.ref)
              (fun i σ H7 => Ex2 fun L1 v9 => An6 (σ = [some (.int R), some (.int C), some (.int h), some (.ref o), some (.ref l), some (.ref a), v6, some (.int ((n : Int) + 1)), some (.ref b), v9]) (JInv R C (fun p => p ∈ ks) h H H7 a l L1 n (fun _ => False)) ((Flood.keys L1)[n]? = some c) (H7 ln = some (.lst (asn.map V.ref))) (CellsAt H7 asn (nearL R C c.1 c.2)) (∀ q ∈ (nearL R C c.1 c.2).take i, q ∈ ks → q ∈ Flood.keys L1))
              ?_ (fun i σ H7 _ gz => SqL.of (by obtain ⟨_, _, _, _, _, e, _⟩ := gz; exact e)) ?_ ?_⟩
            · exact ⟨L, v9, rfl, I5.mono s6, hgn, en, cn, fun q hq => by simp at hq⟩
            · intro i x σ H7 hx gZ
              refine L2.hide fun gQ gH => ?_
              obtain ⟨L1, v9', rfl, I7, g7, ln7, cn7, hn7⟩ := gZ
              refine gH ?_
              refine L2.hide fun gQ gH => ?_
              obtain ⟨t, ht, rfl⟩ := get_ref hx
              refine gH ?_
              refine L2.hide fun gQ gH => ?_
              obtain ⟨q, hq, hc7⟩ := cn7.get ht
              refine gH ?_
              have ck7 := List.mem_of_getElem? g7
              have hqn : q ∈ nearL R C c.1 c.2 := List.mem_of_getElem? hq
              have et : (nearL R C c.1 c.2).take (i + 1) = (nearL R C c.1 c.2).take i ++ [q] := by rw [List.take_add_one, hq]; rfl
              have stay : (q ∈ ks → q ∈ Flood.keys L1) → ∀ q' ∈ (nearL R C c.1 c.2).take (i + 1), q' ∈ ks → q' ∈ Flood.keys L1 := fun z q' hq' ho => by
                rw [et] at hq'
                rcases List.mem_append.mp hq' with y | y
                · exact hn7 q' y ho
                · rw [List.mem_singleton.mp y] at ho ⊢
                  exact z ho
              dsimp only [gName]
              refine bodyN fun D' nx => ?_
              refine ⟨_, rfl, _, rfl, o, _, rfl, (dd.mono I7.sm).get (p := q) hc7, _, rfl, ite2 (fun e7 => ?_) (fun e7 => ?_)⟩
              · have qk : q ∈ ks := by
                  by_cases m : q ∈ ks
                  · exact m
                  · rw [if_neg m] at e7; cases e7
                refine ⟨_, rfl, _, rfl, a, _, rfl, I7.ah.get (p := q) hc7, _, rfl, ite2 (fun e8 => ?_) (fun e8 => ?_)⟩
                · have nin : q ∉ Flood.keys L1 := fun m => by rw [if_pos m] at e8; cases e8
                  refine L2.hide fun gQ gH => ?_
                  obtain ⟨as7, l7, c7⟩ := I7.wl
                  refine gH ?_
                  have hn8 : n < (Flood.keys L1).length := (List.getElem?_eq_some_iff.mp g7).1
                  refine L2.hide fun gQ gH => ?_
                  obtain ⟨I8, kb2, kb1⟩ := I7.push (Nat.le_of_lt hn8) hc7 ck7 hqn qk nin l7 c7
                  refine gH ?_
                  have hL7 := Nat.le_trans (I7.len hO) hRC
                  have l7' := kb1 _ _ l7 (Ne.symm I7.nal)
                  refine seqG fun U hU => ?_
                  refine ⟨_, rfl, _, rfl, a, _, rfl, I7.ah.put (.bl true) hc7 (by omega), ?_⟩
                  refine hU _ _ ?_
                  refine ⟨_, rfl, .inl ⟨rfl, _, SqL.of l7'⟩, _, rfl, l, _, _, rfl, rfl, l7', (by rw [List.length_map, c7.len]; exact small1000 (by omega)), ?_⟩
                  refine nx _ _ ?_
                  refine ⟨L1 ++ [(q, some c)], _, rfl, I8, ?_, kb2 _ _ (kb1 _ _ ln7 nla') nll, kb2.cells l7' (fun _ z => nomatch z) (kb1.cells I7.ah.1 (fun _ z => nomatch z) cn7), fun q' hq' ho' => ?_⟩
                  · rw [Flood.keys_snoc, List.getElem?_append_left hn8]
                    exact g7
                  · rw [Flood.keys_snoc]
                    rw [et] at hq'
                    rcases List.mem_append.mp hq' with y | y
                    · exact List.mem_append_left _ (hn7 q' y ho')
                    · exact List.mem_append_right _ y
                · have yin : q ∈ Flood.keys L1 := by
                    by_cases m : q ∈ Flood.keys L1
                    · exact m
                    · rw [if_neg m] at e8; exact absurd rfl e8
                  exact nx _ _ ⟨L1, _, rfl, I7, g7, ln7, cn7, stay fun _ => yin⟩
              · have nk : q ∉ ks := fun m => by rw [if_pos m] at e7; exact e7 rfl
                exact iteF (nx _ _ ⟨L1, _, rfl, I7, g7, ln7, cn7, stay fun z => absurd z nk⟩)
            · intro σ H7 gZ
              refine L2.hide fun gQ gH => ?_
              obtain ⟨L1, v9', rfl, I7, g7, ln7, cn7, hn7⟩ := gZ
              refine gH ?_
              have e1 := cn7.len
              rw [List.length_map, e1, List.take_length] at hn7
              have hn8 : n < (Flood.keys L1).length := (List.getElem?_eq_some_iff.mp g7).1
              refine nx _ _ ?_
              refine ⟨L1, n + 1, _, _, _, _, rfl, by omega, ⟨I7.na, I7.nl, I7.sm, I7.ah, I7.wl, I7.fl, I7.st, fun p hp => ?_⟩, by omega, by omega⟩
              rw [List.take_add_one, g7] at hp
              rcases List.mem_append.mp hp with y | y
              · exact I7.cl p y
              · obtain rfl : p = c := by simpa using y
                exact .inr ⟨e5, hn7⟩
        · have hge : (Flood.keys L).length ≤ n := by
            simp [el4] at e
            omega
          exact hU _ _ (qf H4 _ I.sm (I.shut hge))
end
end K06

set_option maxHeartbeats 4000000
namespace K06
open PySem L2 Bd
noncomputable def Told (H : Hp) (t : Addr) (o : Option Nat) : Prop := match o with
  | none => ∃ l, H t = some (.tup [.str "shut", .ref l])
  | some n => ∃ lw lb, H t = some (.tup [.str "need", .int (n : Int), .ref lw, .ref lb])
inductive spForm (vs : List V) (H : Hp) (Q : VK) (E' : XK) : Prop
  | mk (t : Addr) (o : Option Nat) (y'1 : vs = [.ref t]) (y'2 : Told H t o) (y'3 : Q (.bl true) H) : spForm vs H Q E'
inductive spSizes (K : PySem.W.Frag) (vs : List V) (H : Hp) (Q : VK) (E' : XK) : Prop
  | mk (a : Addr) (ns : List Int) (bd : Nat) (y'1 : vs = [.ref a, .int bd]) (y'2 : SqL K H a (ns.map V.int)) (y'3 : ns.length ≤ 63) (y'4 : 1 ≤ bd) (y'5 : bd ≤ 10) (y'6 : ∀ t H' (R C : Nat), Same H H' → 1 ≤ R → R ≤ 10 → 1 ≤ C → C ≤ 10 → CellAt H' t R C → Q (.ref t) H') : spSizes K vs H Q E'
noncomputable def spLawT (K : PySem.W.Frag) (pl : Addr) : Sp := fun vs H Q _ => ∃ (a : Addr) (ns : List Int), vs = [.ref a] ∧ SqL K H a (ns.map V.int) ∧ ns.length ≤ 63 ∧ H pl = some (.tbl #[]) ∧ ∀ H', Q (.bl true) H'
theorem n_ns : ¬ (("need" : Str) = "shut") := by decide +kernel
theorem SqL.but {K : PySem.W.Frag} {H H' : Hp} {pl a : Addr} {xs : List V} {ps : Array Value} (h : SqL K H a xs) (k : But pl H H') (hp : H pl = some (.tbl ps)) : SqL K H' a xs := by
  rcases h with (h | ⟨o, h⟩) | h
  · exact .inl (.inl (k _ _ h (ne_of h hp fun z => nomatch z)))
  · exact .inl (.inr ⟨o, k _ _ h (ne_of h hp fun z => nomatch z)⟩)
  · exact .inr h
noncomputable def spBadHand : Sp := fun vs H Q _ => ∃ c : Int, vs = [.int c] ∧ ∀ H' (n : Int), Same H H' → ¬ (n = 1 ∨ n = 2) → Q (.int n) H'
theorem LsAt.get {H : Hp} {as : List Addr} {bs : List (List Cl)} (h : Paired (fun a b => LCells H a b) as bs) {i : Nat} {a : Addr} (e : as[i]? = some a) : ∃ b, bs[i]? = some b ∧ LCells H a b := Paired.at_ h e
inductive spNoHand (D : Ads) (pl : Addr) (vs : List V) (H : Hp) (Q : VK) (E' : XK) : Prop
  | mk (p d : Addr) (R C : Nat) (own : Nat × Nat → Int) (n : Int) (y'1 : vs = [.ref p, .int n]) (y'2 : 0 < R) (y'3 : 0 < C) (y'4 : R ≤ 10) (y'5 : C ≤ 10) (y'6 : BoardAt D.CB H p d R C own) (y'7 : Lam pl H) (y'8 : ¬ (n = 1 ∨ n = 2)) (y'9 : ∀ H', Same H H' → Q (.bl true) H') : spNoHand D pl vs H Q E'
inductive spFilled (D : Ads) (pl : Addr) (vs : List V) (H : Hp) (Q : VK) (E' : XK) : Prop
  | mk (p d o lb : Addr) (R C : Nat) (own : Nat × Nat → Int) (ks : List Cl) (h : Int) (ps : List Cl) (y'1 : vs = [.ref p, .int R, .int C, .ref o, .int h, .ref lb]) (y'2 : 0 < R) (y'3 : 0 < C) (y'4 : R ≤ 10) (y'5 : C ≤ 10) (y'6 : BoardAt D.CB H p d R C own) (y'7 : OD H o R C own ks) (y'8 : d ≠ o) (y'9 : (∀ p, own p = 0 ∨ own p = 1 ∨ own p = 2)) (y'10 : (h = 1 ∨ h = 2)) (y'11 : Lam pl H) (y'12 : LCells H lb ps) (y'13 : IsChain R C (passB R C own h) h ps) (y'14 : ∀ H', Q (.bl true) H') : spFilled D pl vs H Q E'
noncomputable def Fnd (H : Hp) (t : Addr) (R C : Nat) (own : Nat × Nat → Int) (h : Int) : Prop :=
  (∃ l ps, H t = some (.tup [.str "shut", .ref l]) ∧ LCells H l ps ∧ IsChain R C (ownB R C own (3 - h)) (3 - h) ps ∧ ∀ qs, ¬ IsChain R C (passB R C own h) h qs) ∨
  (∃ (n : Nat) (lw : Addr) (ps : List Cl) (lb : Addr) (bs : List (List Cl)), H t = some (.tup [.str "need", .int (n : Int), .ref lw, .ref lb]) ∧ LCells H lw ps ∧ IsChain R C (passB R C own h) h ps ∧ cost (prB own) ps = n ∧ (∀ qs, IsChain R C (passB R C own h) h qs → n ≤ cost (prB own) qs) ∧ LsAt H lb bs ∧ bs.length = n)
theorem Fnd.told {H : Hp} {t : Addr} {R C : Nat} {own : Nat × Nat → Int} {h : Int} : Fnd H t R C own h → ∃ o, Told H t o
  | .inl ⟨l, _, e, _⟩ => ⟨none, l, e⟩
  | .inr ⟨n, lw, _, lb, _, e, _⟩ => ⟨some n, lw, lb, e⟩
theorem Fnd.mono {H H' : Hp} {t : Addr} {R C : Nat} {own : Nat × Nat → Int} {h : Int} (s : Same H H') : Fnd H t R C own h → Fnd H' t R C own h
  | .inl ⟨l, ps, e, hl, r⟩ => .inl ⟨l, ps, s _ _ e, hl.mono s, r⟩
  | .inr ⟨n, lw, ps, lb, bs, e, hl, ic, hc, hm, hs, hb⟩ => .inr ⟨n, lw, ps, lb, bs, s _ _ e, hl.mono s, ic, hc, hm, hs.mono s, hb⟩
inductive spNeed2 (D : Ads) (pl : Addr) (vs : List V) (H : Hp) (Q : VK) (E : XK) : Prop
  | mk (p d : Addr) (R C : Nat) (own : Nat × Nat → Int) (h : Int) (y'1 : vs = [.ref p, .int h]) (y'2 : 0 < R) (y'3 : 0 < C) (y'4 : R ≤ 10) (y'5 : C ≤ 10) (y'6 : BoardAt D.CB H p d R C own) (y'7 : Lam pl H) (y'8 : (¬ (h = 1 ∨ h = 2) → E (.ref D.NH) none H)) (y'9 : (h = 1 ∨ h = 2 → ∀ H' t, But pl H H' → Lam pl H' → Fnd H' t R C own h → Q (.ref t) H')) : spNeed2 D pl vs H Q E
theorem spNeed2_of {D : Ads} {pl : Addr} (vs : List V) (H : Hp) (Q : VK) (E : XK) (x : spNeed2 D pl vs H Q E) : spNeed D pl vs H Q E := by
  obtain ⟨p, d, R, C, own, h, e, a1, a2, a3, a4, B, lam, x1, x2⟩ := x
  exact ⟨p, d, R, C, own, h, e, a1, a2, a3, a4, B, lam, x1, fun hh => ⟨fun H' t l ps k1 lam1 _ _ e hl ic no => x2 hh H' t k1 lam1 (.inl ⟨l, ps, e, hl, ic, no⟩),
    fun H' t n lw ps lb bs ks N k1 lam1 _ _ _ e hlw ic hcost hleast hls hbn _ => x2 hh H' t k1 lam1 (.inr ⟨n, lw, ps, lb, bs, e, hlw, ic, hcost, hleast, hls, hbn⟩)⟩⟩
theorem lst_ne {H : Hp} {lw lb : Addr} {ps : List Cl} {bs : List (List Cl)} (h1 : LCells H lw ps) (ne : ps ≠ []) (h2 : LsAt H lb bs) : lw ≠ lb := fun e => by
  subst e
  obtain ⟨as, e1, c1⟩ := h1
  obtain ⟨cs, e2, p2⟩ := h2
  cases as with
  | nil =>
    have := c1.len
    cases ps with
    | nil => exact ne rfl
    | cons a r => simp at this
  | cons a r =>
    have e3 : (a :: r).map V.ref = cs.map V.ref := by
      have := e1.symm.trans e2
      injection this with z
      injection z
    cases cs with
    | nil => simp at e3
    | cons c r2 =>
      simp only [List.map_cons, List.cons.injEq, V.ref.injEq] at e3
      obtain ⟨rfl, _⟩ := e3
      obtain ⟨p, _, hp⟩ := c1.mem (List.mem_cons_self ..)
      obtain ⟨b, _, as2, hb, _⟩ := LsAt.get p2 (i := 0) rfl
      have := (show H a = _ from hp).symm.trans hb
      cases this
theorem BoardAt.butL {CB : Addr} {H H' : Hp} {l p d : Addr} {R C : Nat} {own : Nat × Nat → Int} {xs : List V} (B : BoardAt CB H p d R C own) (k : But l H H') (hl : H l = some (.lst xs)) : BoardAt CB H' p d R C own := by
  obtain ⟨dx, hp⟩ := B.ob
  exact ⟨⟨dx, k _ _ hp (ne_of hp hl fun z => nomatch z)⟩, k _ _ B.dc (ne_of B.dc hl fun z => nomatch z)⟩
theorem own_fill {R C : Nat} {own own3 : Nat × Nat → Int} {h : Int} {ps : List Cl} (o3 : ∀ p, own p = 0 ∨ own p = 1 ∨ own p = 2) (hh : h = 1 ∨ h = 2) (ic : IsChain R C (passB R C own h) h ps) (f : Fill R C ps (fun c => own (nat2 c) = 0) h own own3) : IsChain R C (ownB R C own3 h) h ps :=
  ic.mono fun x hx z => ⟨z.1, by
    show own3 (nat2 x) = h
    by_cases e : own (nat2 x) = 0
    · exact (f x z.1).1 ⟨hx, e⟩
    · rw [(f x z.1).2 fun y => e y.2]
      have h1 : own (nat2 x) ≠ 3 - h := z.2
      have h2 := o3 (nat2 x)
      omega⟩
theorem own_pass {R C : Nat} {own : Nat × Nat → Int} {h : Int} {ps : List Cl} (hh : h = 1 ∨ h = 2) (ic : IsChain R C (ownB R C own h) h ps) : IsChain R C (passB R C own h) h ps :=
  ic.mono fun x _ z => ⟨z.1, by
    show own (nat2 x) ≠ 3 - h
    have : own (nat2 x) = h := z.2
    omega⟩
theorem own_cost {R C : Nat} {own : Nat × Nat → Int} {h : Int} {ps : List Cl} (hh : h = 1 ∨ h = 2) (ic : IsChain R C (ownB R C own h) h ps) : cost (prB own) ps = 0 := by
  rw [cost_filter]
  have : ps.filter (fun p => decide (own (p.1.toNat, p.2.toNat) = 0)) = [] := List.filter_eq_nil_iff.mpr fun x hx => by
    have : own (x.1.toNat, x.2.toNat) = h := (ic.own x hx).2
    simp only [decide_eq_true_eq]
    omega
  rw [this]
  rfl
section
variable {P : Program} {w : World} {K : PySem.W.Frag} {mg : Str → Option Value} {base : Heap} {D : Ads}
theorem scSizes : FnScope ["script", "bound", "head"] ["script", "bound"] (defScope sSizes) := ⟨rfl, rfl, rfl, by decide +kernel, rfl, by decide +kernel, by decide +kernel⟩
theorem ok_sizes {f fA : Addr} {fd fdA : FuncData} (F : Fun K "_law_sizes" "_law_sizes" sSizes f fd) (T : Txt K mg D)
    (GA : FnOk P w K mg base (CX1 P w) 1 fA fdA ["script", "k"] (spCellAt K)) (kA : PySem.W.keepIn K (.ref fA) = true) (bA : Binds K fdA ["script", "k"] []) (mA : mg "_law_cell_at" = some (.ref fA)) :
    FnOk P w K mg base (CX1 P w) 2 f fd ["script", "bound"] (spSizes K) := by
  refine F.ok0 scSizes (fun vs H Q E h => ?_) (fun cdv A outer s H vs Q E hr h => ?_)
  · obtain ⟨a, ns, bd, rfl, _⟩ := h
    rfl
  · obtain ⟨a, ns, bd, rfl, hS, hlen, b1, b2, q⟩ := h
    refine ⟨_, pss_cons (ps_set (i := 2) scSizes.nd rfl (Or.inl rfl) (pe_call GA hr rfl mA kA bA .nil passN (pa_cons (pv 0) (pa_cons pe_int pa_nil))))
      (pss_cons (ps_if (pt_cmpR op_eq (pe_op op_mod (pe_op op_fdiv (pv 2) pe_int) pe_int) pe_int (nomark _)) (pss_one (ps_ret (pe_tup (pa_cons pe_int (pa_cons pe_int pa_nil))))) pss_nil)
      (pss_one (ps_ret (pe_tup (pa_cons (pe_op op_add pe_int (pe_op op_mod (pv 2) (pv 1))) (pa_cons (pe_op op_add pe_int (pe_op op_mod (pe_op op_fdiv (pv 2) pe_int) (pv 1))) pa_nil)))))), ?_⟩
    refine ⟨_, rfl, a, ns, 0, rfl, hS, hlen, ?_⟩
    generalize ns.getD 0 0 = hd
    refine ⟨_, rfl, _, _, rfl, rfl, ⟨by decide, by decide⟩, _, _, rfl, rfl, (by show (0 : Int) < 8; decide), rfl, _, rfl, ite2 (fun _ => ?_) (fun _ => ?_)⟩
    · exact ⟨(by show 2 ≤ sizeLine; decide), fun t nt => q t _ 10 10 (Same.upd nt) (by decide) (by decide) (by decide) (by decide) upd_same⟩
    · have m1 := Int.emod_nonneg hd (show (bd : Int) ≠ 0 by omega)
      have m2 := Int.emod_lt_of_pos hd (show (0 : Int) < bd by omega)
      have m3 := Int.emod_nonneg (hd / 10) (show (bd : Int) ≠ 0 by omega)
      have m4 := Int.emod_lt_of_pos (hd / 10) (show (0 : Int) < bd by omega)
      refine ⟨_, rfl, _, rfl, _, _, rfl, rfl, (by show (0 : Int) < bd; omega), _, _, rfl, rfl, _, rfl, _, _, rfl, rfl, ⟨by decide, by decide⟩, _, rfl, _, _, rfl, rfl, (by show (0 : Int) < bd; omega), _, _, rfl, rfl, (by show 2 ≤ sizeLine; decide), fun t nt => ?_⟩
      refine q t _ (1 + hd % bd).toNat (1 + hd / 10 % bd).toNat (Same.upd nt) (by omega) (by omega) (by omega) (by omega) ?_
      show _ = some (HO.tup _)
      rw [upd_same, Int.toNat_of_nonneg (by omega), Int.toNat_of_nonneg (by omega)]
theorem scForm : FnScope ["found"] ["found"] (defScope sNeedForm) := ⟨rfl, rfl, rfl, by decide +kernel, rfl, by decide +kernel, by decide +kernel⟩
theorem ok_form {f fW : Addr} {fd fdW : FuncData} (F : Fun K "_law_need_form" "_law_need_form" sNeedForm f fd) (T : Txt K mg D)
    (GW : FnOk P w K mg base (CX1 P w) 1 fW fdW ["found"] spWhole) (kW : PySem.W.keepIn K (.ref fW) = true) (bW : Binds K fdW ["found"] []) (mW : mg "_law_whole" = some (.ref fW)) :
    FnOk P w K mg base (CX1 P w) 2 f fd ["found"] spForm := by
  refine F.ok0 scForm (fun vs H Q E h => ?_) (fun cdv A outer s H vs Q E hr h => ?_)
  · obtain ⟨t, o, rfl, _⟩ := h
    rfl
  · obtain ⟨t, o, rfl, hT, q⟩ := h
    refine ⟨_, pss_cons (ps_if (PW.pt (pw_or (pt_not (pt_val (pe_callB call_isi rfl T.isi (by decide +kernel) (pa_cons (pv 0) (pa_cons (pe_bltn (v := .ty "tuple") rfl T.tTuple (by decide +kernel) rfl) pa_nil)))))
        (pw_or (pt_cmpR op_lt (pe_callB call_len_seq rfl T.len PySem.boot_len (pa_cons (pv 0) pa_nil)) pe_int (nomark _))
        (pw_or1 (pt_not (pt_val (pe_callB call_isi rfl T.isi (by decide +kernel) (pa_cons (pe_ix ix_tup (pv 0) pe_int (fun _ _ => rfl)) (pa_cons (pe_bltn (v := .ty "str") rfl T.tStr (by decide +kernel) rfl) pa_nil))))))))) (pss_one (ps_ret pe_bl)) pss_nil)
      (pss_cons (ps_if (pt_cmpR op_eq (pe_ix ix_tup (pv 0) pe_int (fun _ _ => rfl)) pe_str (nomark _)) (pss_one (ps_ret (pe_cmpR op_eq (pe_callB call_len_seq rfl T.len PySem.boot_len (pa_cons (pv 0) pa_nil)) pe_int (nomark _)))) pss_nil)
      (pss_one (ps_ret (pe_and (pe_cmpR op_eq (pe_ix ix_tup (pv 0) pe_int (fun _ _ => rfl)) pe_str (nomark _)) (pe_and (pe_cmpR op_eq (pe_callB call_len_seq rfl T.len PySem.boot_len (pa_cons (pv 0) pa_nil)) pe_int (nomark _))
        (pe_and (pe_call GW hr rfl mW kW bW .nil passN (pa_cons (pe_ix ix_tup (pv 0) pe_int (fun _ _ => rfl)) pa_nil)) (pe_one (pe_cmpR op_ge (pe_ix ix_tup (pv 0) pe_int (fun _ _ => rfl)) pe_int (nomark _))))))))), ?_⟩
    cases o with
    | none =>
      obtain ⟨l, e⟩ := hT
      refine ⟨_, rfl, _, _, _, _, _, rfl, rfl, .tup e, T.k2, _, rfl, iteF ⟨_, rfl, t, _, rfl, .inr (SqT.of e), _, _, rfl, rfl, _, rfl, iteN (by simp) ?_⟩⟩
      refine ⟨_, rfl, t, _, _, _, rfl, rfl, SqT.of e, atI_nat (j := 0) rfl, _, _, _, _, _, rfl, rfl, .str _, T.k5, _, rfl, iteF ?_⟩
      refine ⟨_, rfl, t, _, _, _, rfl, rfl, SqT.of e, atI_nat (j := 0) rfl, rfl, _, rfl, iteY (by simp) ?_⟩
      exact ⟨_, rfl, t, _, rfl, .inr (SqT.of e), rfl, q⟩
    | some n =>
      obtain ⟨lw, lb, e⟩ := hT
      refine ⟨_, rfl, _, _, _, _, _, rfl, rfl, .tup e, T.k2, _, rfl, iteF ⟨_, rfl, t, _, rfl, .inr (SqT.of e), _, _, rfl, rfl, _, rfl, iteN (by simp) ?_⟩⟩
      refine ⟨_, rfl, t, _, _, _, rfl, rfl, SqT.of e, atI_nat (j := 0) rfl, _, _, _, _, _, rfl, rfl, .str _, T.k5, _, rfl, iteF ?_⟩
      refine ⟨_, rfl, t, _, _, _, rfl, rfl, SqT.of e, atI_nat (j := 0) rfl, rfl, _, rfl, iteN (by simp [n_ns]) ?_⟩
      refine ⟨_, rfl, t, _, _, _, rfl, rfl, SqT.of e, atI_nat (j := 0) rfl, rfl, _, rfl, iteY (by simp) ?_⟩
      refine ⟨_, rfl, t, _, rfl, .inr (SqT.of e), rfl, _, rfl, iteY (by simp) ?_⟩
      refine ⟨_, rfl, t, _, _, _, rfl, rfl, SqT.of e, atI_nat (j := 1) rfl, _, rfl, _, rfl, iteT ?_⟩
      refine ⟨_, rfl, t, _, _, _, rfl, rfl, SqT.of e, atI_nat (j := 1) rfl, _, _, rfl, rfl, ?_⟩
      have : decide ((0 : Int) ≤ (n : Int)) = true := by simp
      dsimp only
      rw [this]
      exact q
theorem scBadHand : FnScope ["cell"] ["cell"] (defScope sBadHand) := ⟨rfl, rfl, rfl, by decide +kernel, rfl, by decide +kernel, by decide +kernel⟩
theorem ok_badHand {f : Addr} {fd : FuncData} (F : Fun K "_law_bad_hand" "_law_bad_hand" sBadHand f fd) (T : Txt K mg D) : FnOk P w K mg base (CX1 P w) 1 f fd ["cell"] spBadHand := by
  refine F.ok0 scBadHand (fun vs H Q E h => ?_) (fun cdv A outer s H vs Q E hr h => ?_)
  · obtain ⟨c, rfl, _⟩ := h
    rfl
  · obtain ⟨c, rfl, q⟩ := h
    refine ⟨_, pss_one (ps_ret (pe_ix ix_list (pe_lst (pa_cons pe_int (pa_cons pe_int (pa_cons (pe_un un_neg pe_int)
      (pa_cons (pe_op op_add pe_int (pe_op op_mod (pe_op op_fdiv (pv 0) pe_int) pe_int)) (pa_cons (pe_op op_sub (pe_un un_neg pe_int) (pe_op op_mod (pe_op op_fdiv (pv 0) pe_int) pe_int)) pa_nil)))))) (pe_op op_mod (pv 0) pe_int) (fun _ _ => rfl))), ?_⟩
    have m1 := Int.emod_nonneg (c / 4) (show (1000 : Int) ≠ 0 by decide)
    refine ⟨_, rfl, _, rfl, _, _, rfl, rfl, ⟨by decide, by decide⟩, _, _, rfl, rfl, (by show (0 : Int) < 1000; decide), _, _, rfl, rfl, ?_⟩
    refine ⟨_, rfl, _, rfl, _, _, rfl, rfl, ⟨by decide, by decide⟩, _, _, rfl, rfl, (by show (0 : Int) < 1000; decide), _, _, rfl, rfl, (by show 5 ≤ sizeLine; decide), fun l nl => ?_⟩
    have pick : ∃ n : Int, atI [V.int 0, V.int 3, V.int (-1), V.int (3 + c / 4 % 1000), V.int (-1 - c / 4 % 1000)] (c % 5) = some (V.int n) ∧ ¬ (n = 1 ∨ n = 2) := by
      rcases (by omega : c % 5 = 0 ∨ c % 5 = 1 ∨ c % 5 = 2 ∨ c % 5 = 3 ∨ c % 5 = 4) with e | e | e | e | e
      · exact ⟨_, by rw [e]; exact atI_nat (j := 0) rfl, by omega⟩
      · exact ⟨_, by rw [e]; exact atI_nat (j := 1) rfl, by omega⟩
      · exact ⟨_, by rw [e]; exact atI_nat (j := 2) rfl, by omega⟩
      · exact ⟨_, by rw [e]; exact atI_nat (j := 3) rfl, by omega⟩
      · exact ⟨_, by rw [e]; exact atI_nat (j := 4) rfl, by omega⟩
    obtain ⟨n, e, hn⟩ := pick
    exact ⟨_, rfl, _, _, rfl, rfl, (by show (0 : Int) < 5; decide), l, _, _, _, rfl, rfl, SqL.of upd_same, e, q _ n (Same.upd nl) hn⟩
noncomputable def tIsi (K : PySem.W.Frag) (i : Nat) (v : V) : TE := tCB (rIsiE K) (tCons (tVar i) (tCons (tC v) tNil))
theorem scNoHand : FnScope ["board", "hand", "marks", "e"] ["board", "hand"] (defScope sNoHand) := ⟨rfl, rfl, rfl, by decide +kernel, rfl, by decide +kernel, by decide +kernel⟩
theorem ok_noHand {f fC pl : Addr} {fd fdC : FuncData} (F : Fun K "_law_no_hand" "_law_no_hand" sNoHand f fd) (T : Txt K mg D)
    (GC : FnOk P w K mg base (CX1 P w) 6 fC fdC ["board", "hand"] (spNeed2 D pl)) (kC : PySem.W.keepIn K (.ref fC) = true) (bC : Binds K fdC ["board", "hand"] []) (mC : mg "need" = some (.ref fC)) :
    FnOk P w K mg base (CX1 P w) 7 f fd ["board", "hand"] (spNoHand D pl) := by
  refine F.ok0 scNoHand (fun vs H Q E h => ?_) (fun cdv A outer s H vs Q E hr h => ?_)
  · obtain ⟨p, d, R, C, own, n, rfl, _⟩ := h
    rfl
  · obtain ⟨p, d, R, C, own, n, rfl, hR0, hC0, hR, hC, B, lam, hn, k⟩ := h
    have hu := hr.units
    refine ⟨_, pss_cons (ps_set (i := 2) scNoHand.nd rfl (Or.inl rfl) (pe_lst pa_nil))
      (pss_cons (ps_try (i := 3) (ts := tAsg (tLst (tCons (tIsi K 3 (.ref D.NH)) (tCons (tIsi K 3 (.ty "ValueError")) (tCons (tIsi K 3 (.ref D.NC)) (tCons (tIsi K 3 (.ref D.NB)) tNil))))) (gName 2)) ⟨rfl, rfl⟩ scNoHand.nd rfl rfl rfl T.mgE
        (pssx_one (psx_expr (px_call GC hr rfl mC kC bC .nil (pa_cons (pv 0) (pa_cons (pv 1) pa_nil)))))
        (by intro ea; exact pss_one (ps_set (i := 2) scNoHand.nd rfl (Or.inl rfl) (pe_lst
          (pa_cons (pe_callB call_isiE rfl T.isi (by decide +kernel) (pa_cons (pv 3) (pa_cons (pe_glob (v := .ref D.NH) rfl T.xNH.exc.at_ rfl) pa_nil)))
          (pa_cons (pe_callB call_isiE rfl T.isi (by decide +kernel) (pa_cons (pv 3) (pa_cons (pe_bltn (v := .ty "ValueError") rfl T.tVE (by decide +kernel) rfl) pa_nil)))
          (pa_cons (pe_callB call_isiE rfl T.isi (by decide +kernel) (pa_cons (pv 3) (pa_cons (pe_glob (v := .ref D.NC) rfl T.xNC.exc.at_ rfl) pa_nil)))
          (pa_cons (pe_callB call_isiE rfl T.isi (by decide +kernel) (pa_cons (pv 3) (pa_cons (pe_glob (v := .ref D.NB) rfl T.xNB.at_ rfl) pa_nil))) pa_nil))))))))
      (pss_one (ps_ret (pe_cmpR (op_eqD hu) (pv 2) (pe_lst (pa_cons pe_bl (pa_cons pe_bl (pa_cons pe_bl (pa_cons pe_bl pa_nil))))) (nomark _))))), ?_⟩
    refine ⟨(by show 0 ≤ sizeLine; decide), fun lm nm => ?_⟩
    have sm : Same H (upd H lm (.lst [])) := Same.upd nm
    refine ⟨_, rfl, _, rfl, p, d, R, C, own, n, rfl, hR0, hC0, hR, hC, B.mono sm, lam.mono sm, fun _ => ?_, fun z => absurd z hn⟩
    refine ⟨D.NH, rfl, T.hexm, fun ea nea => ?_⟩
    refine ⟨_, rfl, ea, D.NH, _, _, _, rfl, rfl, upd_same, T.hcls, T.hcd, T.hq2, ?_⟩
    refine ⟨_, rfl, ea, D.NH, _, _, _, rfl, rfl, upd_same, T.hcls, T.hcd, T.hq6, ?_⟩
    refine ⟨_, rfl, ea, D.NH, _, _, _, rfl, rfl, upd_same, T.hcls, T.hcd, T.hq1, ?_⟩
    refine ⟨_, rfl, ea, D.NH, _, _, _, rfl, rfl, upd_same, T.hcls, T.hcd, T.hq5, (by show 4 ≤ sizeLine; decide), fun l2 n2 => ?_⟩
    refine ⟨_, rfl, (by show 4 ≤ sizeLine; decide), fun l3 n3 => ?_⟩
    refine ⟨_, _, rd_lbools [true, true, false, false] ((Same.upd n3) _ _ upd_same), rd_lbools [true, true, false, false] upd_same, by decide +kernel, by decide +kernel, by decide +kernel, ?_⟩
    exact k _ (((sm.trans (Same.upd nea)).trans (Same.upd n2)).trans (Same.upd n3))
end
end K06

set_option maxHeartbeats 4000000
namespace K06
open PySem L2 Bd
section
variable {P : Program} {w : World} {K : PySem.W.Frag} {mg : Str → Option Value} {base : Heap} {D : Ads}
theorem scFilled : FnScope ["board", "rows", "columns", "owners", "hand", "bridge", "cell", "found"] ["board", "rows", "columns", "owners", "hand", "bridge"] (defScope sFilled) := ⟨rfl, rfl, rfl, by decide +kernel, rfl, by decide +kernel, by decide +kernel⟩
theorem ok_filled {f fN fF fO fI fC fP pl : Addr} {fd fdN fdF fdO fdI fdC fdP : FuncData} (F : Fun K "_law_filled" "_law_filled" sFilled f fd) (T : Txt K mg D)
    (GN : FnOk P w K mg base (CX1 P w) 6 fN fdN ["board", "hand"] (spNeed2 D pl)) (kN : PySem.W.keepIn K (.ref fN) = true) (bN : Binds K fdN ["board", "hand"] []) (mN : mg "need" = some (.ref fN))
    (GF : FnOk P w K mg base (CX1 P w) 2 fF fdF ["found"] spForm) (kF : PySem.W.keepIn K (.ref fF) = true) (bF : Binds K fdF ["found"] []) (mF : mg "_law_need_form" = some (.ref fF))
    (GO : FnOk P w K mg base (CX1 P w) 1 fO fdO ["owners", "hand"] spOwned) (kO : PySem.W.keepIn K (.ref fO) = true) (bO : Binds K fdO ["owners", "hand"] []) (mO : mg "_law_owned" = some (.ref fO))
    (GI : FnOk P w K mg base (CX1 P w) 3 fI fdI ["found", "rows", "columns", "hand", "allowed"] spIsChain) (kI : PySem.W.keepIn K (.ref fI) = true) (bI : Binds K fdI ["found", "rows", "columns", "hand", "allowed"] []) (mI : mg "_law_is_chain" = some (.ref fI))
    (GC : FnOk P w K mg base (CX1 P w) 4 fC fdC ["board", "hand"] (spChain D)) (kC : PySem.W.keepIn K (.ref fC) = true) (bC : Binds K fdC ["board", "hand"] []) (mC : mg "chain" = some (.ref fC))
    (GP : FnOk P w K mg base (CX1 P w) 2 fP fdP ["self", "cell", "hand"] (spPut D)) (bP : Binds K fdP ["self", "cell", "hand"] []) (mP : Meth K D.CB "put" fP) :
    FnOk P w K mg base (CX1 P w) 7 f fd ["board", "rows", "columns", "owners", "hand", "bridge"] (spFilled D pl) := by
  refine F.ok0 scFilled (fun vs H Q E h => ?_) (fun cdv A outer s H vs Q E hr h => ?_)
  · refine L2.hide fun gQ gH => ?_
    obtain ⟨p, d, o, lb, R, C, own, ks, h, ps, rfl, _⟩ := h
    refine gH ?_
    rfl
  · refine L2.hide fun gQ gH => ?_
    obtain ⟨p, d, o, lb, R, C, own, ks, h, ps, rfl, hR0, hC0, hR, hC, B, od, ndo, o3, hh, lam, hlb, ic, k⟩ := h
    refine gH ?_
    have hRC : R * C ≤ 100 := Nat.mul_le_mul hR hC
    have hu := hu_of hr
    have hr1 : Room 1 _ := hr.mono (by decide)
    have hr2 : Room 2 _ := hr.mono (by decide)
    have hr3 : Room 3 _ := hr.mono (by decide)
    have hr4 : Room 4 _ := hr.mono (by decide)
    refine ⟨_, pss_cons (ps_for PassesOwn.never rfl (pi_list (pv 5)) (pg_name (i := 6) scFilled.nd rfl (Or.inl rfl))
        (pss_one (ps_if (pt_cmp (pc_dnotin hu (pv 6) (pv 3))) (pss_cons (ps_expr (pe_meth (pv 0) T.cl mP GP hr2 bP .nil passN (pa_cons (pv 6) (pa_cons (pv 4) pa_nil)))) (pss_one (ps_dput hu (pv 3) (pv 6) (pv 4) rfl))) pss_nil)))
      (pss_cons (ps_set (i := 7) scFilled.nd rfl (Or.inl rfl) (pe_call GN hr rfl mN kN bN .nil passN (pa_cons (pv 0) (pa_cons (pv 4) pa_nil))))
      (pss_cons (ps_if (PW.pt (pw_or (pt_not (pt_val (pe_call GF hr2 rfl mF kF bF .nil passN (pa_cons (pv 7) pa_nil)))) (pw_or (pt_cmpR op_ne (pe_ix ix_tup (pv 7) pe_int (fun _ _ => rfl)) pe_str (nomark _)) (pw_or (pt_cmpR op_ne (pe_ix ix_tup (pv 7) pe_int (fun _ _ => rfl)) pe_int (nomark _)) (pw_or1 (pt_cmpR (op_neD hr.units) (pe_ix ix_tup (pv 7) pe_int (fun _ _ => rfl)) (pe_lst pa_nil) (nomark _))))))) (pss_one (ps_ret pe_bl)) pss_nil)
      (pss_one (ps_ret (pe_call GI hr3 rfl mI kI bI .nil passN (pa_cons (pe_call GC hr4 rfl mC kC bC .nil passN (pa_cons (pv 0) (pa_cons (pv 4) pa_nil))) (pa_cons (pv 1) (pa_cons (pv 2) (pa_cons (pv 4) (pa_cons (pe_call GO hr1 rfl mO kO bO .nil passN (pa_cons (pv 3) (pa_cons (pv 4) pa_nil))) pa_nil)))))))))), ?_⟩
    refine L2.hide fun gQ gH => ?_
    obtain ⟨as, elb, clb⟩ := hlb
    refine gH ?_
    refine ⟨_, rfl, lb, rfl, ⟨_, SqL.of elb⟩, for_list (K := K) (a := lb) (xs := as.map V.ref)
      (fun i σ H3 => Ex3 fun v6 own3 ks3 => An7 (σ = [some (.ref p), some (.int R), some (.int C), some (.ref o), some (.int h), some (.ref lb), v6, none]) (BoardAt D.CB H3 p d R C own3) (OD H3 o R C own3 ks3) (Fill R C (ps.take i) (fun c => own (nat2 c) = 0) h own own3) (Lam pl H3) (H3 lb = some (.lst (as.map V.ref))) (CellsAt H3 as ps))
      ⟨none, own, ks, rfl, B, od, Fill.nil R C _ _ own, lam, elb, clb⟩ (fun i σ H3 _ gz => SqL.of (by obtain ⟨_, _, _, _, _, _, _, _, e, _⟩ := gz; exact e)) ?_ ?_⟩
    · intro i x σ H3 hx gZ
      refine L2.hide fun gQ gH => ?_
      obtain ⟨v6, own3, ks3, rfl, B3, od3, f3, lam3, e3, c3⟩ := gZ
      refine gH ?_
      refine L2.hide fun gQ gH => ?_
      obtain ⟨b, hb, rfl⟩ := get_ref hx
      refine gH ?_
      refine L2.hide fun gQ gH => ?_
      obtain ⟨q, hq, hc⟩ := c3.get hb
      refine gH ?_
      have hqp : q ∈ ps := List.mem_of_getElem? hq
      have hin := ic.inb q hqp
      have et : ps.take (i + 1) = ps.take i ++ [q] := by rw [List.take_add_one, hq]; rfl
      have e0 : own3 (nat2 q) = own (nat2 q) := (f3 q hin).2 fun y => nin_take ic.nd hq y.1
      refine ⟨_, rfl, _, rfl, o, _, rfl, od3.dd.get (p := q) hc, _, rfl, ite2 (fun e => ?_) (fun e => ?_)⟩
      · have nin : q ∉ ks3 := fun z => by rw [if_pos z] at e; cases e
        have h0 : own3 (nat2 q) = 0 := Classical.byContradiction fun z => nin ((od3.mem _).mpr ⟨hin, z⟩)
        obtain ⟨dx, hp⟩ := B3.ob
        refine ⟨_, rfl, p, dx, _, rfl, hp, bflds_no _ _ _ (by decide +kernel) (by decide +kernel) (by decide +kernel), _, rfl, _, rfl, p, d, b, R, C, own3, q.1, q.2, h, rfl, hRC, B3, hc, fun z => absurd hin z, fun _ z => absurd hh z, fun _ _ z => absurd h0 z, fun _ _ _ => ?_⟩
        have k4 := But.upd (H := H3) (a := d) (o := .dT (kvsOf R C (setO own3 q.1 q.2 h)))
        have npd : p ≠ d := ne_of hp B3.dc (fun z => nomatch z)
        have od4 := od3.but k4 (Ne.symm ndo)
        have hc4 := k4.cell B3.dc (fun _ z => nomatch z) hc
        have c4 := k4.cells B3.dc (fun _ z => nomatch z) c3
        have e4 := k4 _ _ e3 (ne_of e3 B3.dc fun z => nomatch z)
        have lam4 := lam3.but k4 B3.dc (fun _ z => nomatch z) (fun _ z => nomatch z)
        have hp4 := k4 _ _ hp npd
        have dc4 : (upd H3 d (.dT (kvsOf R C (setO own3 q.1 q.2 h)))) d = some (.dT (kvsOf R C (setO own3 q.1 q.2 h))) := upd_same
        generalize upd H3 d (.dT (kvsOf R C (setO own3 q.1 q.2 h))) = H4 at od4 hc4 c4 e4 lam4 hp4 dc4 ⊢
        refine ⟨_, rfl, _, rfl, _, rfl, o, _, rfl, od4.dd.put (p := q) (.int h) hc4 (by have := od4.len; omega), ?_⟩
        have k5 := But.upd (H := H4) (a := o) (o := .dT (kvD (putL ks3 q) (setF (fun p => V.int (own3 (nat2 p))) q (V.int h))))
        have npo : p ≠ o := ne_of hp4 od4.dd.1 (fun z => nomatch z)
        refine ⟨_, setO own3 q.1 q.2 h, putL ks3 q, rfl, ⟨⟨dx, k5 _ _ hp4 npo⟩, k5 _ _ dc4 ndo⟩, od4.put (p := q) (v := h) hin (by omega), ?_, lam4.but k5 od4.dd.1 (fun _ z => nomatch z) (fun _ z => nomatch z), k5 _ _ e4 (ne_of e4 od4.dd.1 fun z => nomatch z), k5.cells od4.dd.1 (fun _ z => nomatch z) c4⟩
        rw [et]
        exact f3.step hin (e0 ▸ h0)
      · have yin : q ∈ ks3 := Classical.byContradiction fun z => by rw [if_neg z] at e; exact e rfl
        refine ⟨_, own3, ks3, rfl, B3, od3, ?_, lam3, e3, c3⟩
        rw [et]
        exact f3.skip fun z => ((od3.mem _).mp yin).2 (e0.trans z)
    · intro σ H3 gZ
      refine L2.hide fun gQ gH => ?_
      obtain ⟨v6, own3, ks3, rfl, B3, od3, f3, lam3, e3, c3⟩ := gZ
      refine gH ?_
      have el := c3.len
      rw [List.length_map, el, List.take_length] at f3
      have oc := own_fill o3 hh ic f3
      refine ⟨_, rfl, _, rfl, p, d, R, C, own3, h, rfl, hR0, hC0, hR, hC, B3, lam3, fun z => absurd hh z, fun _ H1 t k1 lam1 fnd => ?_⟩
      refine L2.hide fun gQ gH => ?_
      obtain ⟨ps3, hpl3, _⟩ := id lam3
      refine gH ?_
      rcases fnd with ⟨l, qs, _, _, _, no⟩ | ⟨n, lw, qs, lb2, bs, e, hlw, ic2, hcost, hleast, hls, hbn⟩
      · exact absurd (own_pass hh oc) (no ps)
      have n0 : n = 0 := by
        have h1 := hleast ps (own_pass hh oc)
        rw [own_cost hh oc] at h1
        omega
      subst n0
      have elb2 : H1 lb2 = some (.lst []) := by
        refine L2.hide fun gQ gH => ?_
        obtain ⟨cs, e2, p2⟩ := hls
        refine gH ?_
        have := Paired.length p2
        rw [hbn] at this
        cases cs with
        | nil => exact e2
        | cons _ _ => simp at this
      have B1 := k1.board hpl3 B3
      have od1 := od3.butT k1 hpl3
      refine ⟨_, rfl, t, some 0, rfl, ⟨lw, lb2, e⟩, _, rfl, iteF ?_⟩
      refine ⟨_, rfl, t, _, _, _, rfl, rfl, SqT.of e, atI_nat (j := 0) rfl, rfl, _, rfl, iteN (by simp) ?_⟩
      refine ⟨_, rfl, t, _, _, _, rfl, rfl, SqT.of e, atI_nat (j := 1) rfl, rfl, _, rfl, iteN (by simp) ?_⟩
      refine ⟨_, rfl, t, _, _, _, rfl, rfl, SqT.of e, atI_nat (j := 3) rfl, (by show 0 ≤ sizeLine; decide), fun l0 n0 => ?_⟩
      have s4 := Same.upd (o := .lst []) n0
      refine ⟨_, _, rd_lbools [] (s4 _ _ elb2), rd_lbools [] upd_same, by decide +kernel, by decide +kernel, by decide +kernel, _, rfl, iteN (by decide +kernel) ?_⟩
      refine ⟨_, rfl, _, rfl, p, d, R, C, own3, h, rfl, hR0, hC0, hR, hC, B1.mono s4, fun z => absurd hh z, fun _ => ⟨fun l H5 qs s5 n5 hl ch => ?_, fun H5 sk s5 sh => (sh.no_chain oc fun _ _ z => z).elim⟩⟩
      refine ⟨_, rfl, _, rfl, _, rfl, _, rfl, _, rfl, R, C, o, own3, ks3, h, rfl, hR, hC, (od1.mono s4).mono s5, fun o' H6 ks' s6 no' d6 m6 => ?_⟩
      exact ⟨R, C, l, o', h, qs, ks', _, rfl, hR, hC, hl.mono s6, d6, ch.mono fun x _ z => (m6 x).mpr ⟨(od1.mem x).mpr ⟨z.1, by have : own3 (nat2 x) = h := z.2; omega⟩, z.2⟩, fun H7 _ => k H7⟩
theorem scLaw : FnScope ["script", "size", "rows", "columns", "owners", "board", "hand", "found", "may", "bridge", "again"] ["script"] (defScope sLaw) := ⟨rfl, rfl, rfl, by decide +kernel, rfl, by decide +kernel, by decide +kernel⟩
theorem ok_law {f fA fZ fO fB fN fF fH fV fQ fJ fI fW fL pl : Addr} {fd fdA fdZ fdO fdB fdN fdF fdH fdV fdQ fdJ fdI fdW fdL : FuncData} (F : Fun K "law" "law" sLaw f fd) (T : Txt K mg D)
    (GA : FnOk P w K mg base (CX1 P w) 1 fA fdA ["script", "k"] (spCellAt K)) (kA : PySem.W.keepIn K (.ref fA) = true) (bA : Binds K fdA ["script", "k"] []) (mA : mg "_law_cell_at" = some (.ref fA))
    (GZ : FnOk P w K mg base (CX1 P w) 2 fZ fdZ ["script", "bound"] (spSizes K)) (kZ : PySem.W.keepIn K (.ref fZ) = true) (bZ : Binds K fdZ ["script", "bound"] []) (mZ : mg "_law_sizes" = some (.ref fZ))
    (GO : FnOk P w K mg base (CX1 P w) 2 fO fdO ["script", "first", "rows", "columns", "full"] (spOwners K)) (kO : PySem.W.keepIn K (.ref fO) = true) (bO : Binds K fdO ["script", "first", "rows", "columns", "full"] []) (mO : mg "_law_owners" = some (.ref fO))
    (GB : FnOk P w K mg base (CX1 P w) 4 fB fdB ["rows", "columns", "owners"] (spBoardOf D)) (kB : PySem.W.keepIn K (.ref fB) = true) (bB : Binds K fdB ["rows", "columns", "owners"] []) (mB : mg "_law_board_of" = some (.ref fB))
    (GN : FnOk P w K mg base (CX1 P w) 6 fN fdN ["board", "hand"] (spNeed2 D pl)) (kN : PySem.W.keepIn K (.ref fN) = true) (bN : Binds K fdN ["board", "hand"] []) (mN : mg "need" = some (.ref fN))
    (GF : FnOk P w K mg base (CX1 P w) 2 fF fdF ["found"] spForm) (kF : PySem.W.keepIn K (.ref fF) = true) (bF : Binds K fdF ["found"] []) (mF : mg "_law_need_form" = some (.ref fF))
    (GH : FnOk P w K mg base (CX1 P w) 7 fH fdH ["board", "hand"] (spNoHand D pl)) (kH : PySem.W.keepIn K (.ref fH) = true) (bH : Binds K fdH ["board", "hand"] []) (mH : mg "_law_no_hand" = some (.ref fH))
    (GV : FnOk P w K mg base (CX1 P w) 1 fV fdV ["cell"] spBadHand) (kV : PySem.W.keepIn K (.ref fV) = true) (bV : Binds K fdV ["cell"] []) (mV : mg "_law_bad_hand" = some (.ref fV))
    (GQ : FnOk P w K mg base (CX1 P w) 2 fQ fdQ ["rows", "columns", "owners", "hand"] spOpen) (kQ : PySem.W.keepIn K (.ref fQ) = true) (bQ : Binds K fdQ ["rows", "columns", "owners", "hand"] []) (mQ : mg "_law_open" = some (.ref fQ))
    (GJ : FnOk P w K mg base (CX1 P w) 2 fJ fdJ ["rows", "columns", "hand", "allowed"] spJoined) (kJ : PySem.W.keepIn K (.ref fJ) = true) (bJ : Binds K fdJ ["rows", "columns", "hand", "allowed"] []) (mJ : mg "_law_joined" = some (.ref fJ))
    (GI : FnOk P w K mg base (CX1 P w) 3 fI fdI ["found", "rows", "columns", "hand", "allowed"] spIsChain) (kI : PySem.W.keepIn K (.ref fI) = true) (bI : Binds K fdI ["found", "rows", "columns", "hand", "allowed"] []) (mI : mg "_law_is_chain" = some (.ref fI))
    (GW : FnOk P w K mg base (CX1 P w) 1 fW fdW ["owners", "hand"] spOwned) (kW : PySem.W.keepIn K (.ref fW) = true) (bW : Binds K fdW ["owners", "hand"] []) (mW : mg "_law_owned" = some (.ref fW))
    (GL : FnOk P w K mg base (CX1 P w) 7 fL fdL ["board", "rows", "columns", "owners", "hand", "bridge"] (spFilled D pl)) (kL : PySem.W.keepIn K (.ref fL) = true) (bL : Binds K fdL ["board", "rows", "columns", "owners", "hand", "bridge"] []) (mL : mg "_law_filled" = some (.ref fL)) :
    FnOk P w K mg base (CX1 P w) 8 f fd ["script"] (spLawT K pl) := by
  refine F.ok0 scLaw (fun vs H Q E h => ?_) (fun cdv A outer s H vs Q E hr h => ?_)
  · refine L2.hide fun gQ gH => ?_
    obtain ⟨a, ns, rfl, _⟩ := h
    refine gH ?_
    rfl
  · refine L2.hide fun gQ gH => ?_
    obtain ⟨a, ns, rfl, hS, hlen, hpl, k⟩ := h
    refine gH ?_
    have hu := hu_of hr
    have hr1 : Room 1 _ := hr.mono (by decide)
    have hr2 : Room 2 _ := hr.mono (by decide)
    have hr3 : Room 3 _ := hr.mono (by decide)
    have hr4 : Room 4 _ := hr.mono (by decide)
    have hr6 : Room 6 _ := hr.mono (by decide)
    refine ⟨_, pss_cons (ps_set (i := 1) scLaw.nd rfl (Or.inl rfl) (pe_call GZ hr2 rfl mZ kZ bZ .nil passN (pa_cons (pv 0) (pa_cons pe_int pa_nil))))
      (pss_cons (ps_set (i := 2) scLaw.nd rfl (Or.inl rfl) (pe_ix ix_tup (pv 1) pe_int (fun _ _ => rfl)))
      (pss_cons (ps_set (i := 3) scLaw.nd rfl (Or.inl rfl) (pe_ix ix_tup (pv 1) pe_int (fun _ _ => rfl)))
      (pss_cons (ps_set (i := 4) scLaw.nd rfl (Or.inr rfl) (pe_call GO hr2 rfl mO kO bO .nil passN (pa_cons (pv 0) (pa_cons pe_int (pa_cons (pv 2) (pa_cons (pv 3) (pa_cons pe_bl pa_nil)))))))
      (pss_cons (ps_set (i := 5) scLaw.nd rfl (Or.inl rfl) (pe_call GB hr4 rfl mB kB bB .nil passN (pa_cons (pv 2) (pa_cons (pv 3) (pa_cons (pv 4) pa_nil)))))
      (pss_cons (ps_set (i := 6) scLaw.nd rfl (Or.inl rfl) (pe_op op_add pe_int (pe_op op_mod (pe_call GA hr1 rfl mA kA bA .nil passN (pa_cons (pv 0) (pa_cons pe_int pa_nil))) pe_int)))
      (pss_cons (ps_set (i := 7) scLaw.nd rfl (Or.inl rfl) (pe_call GN hr6 rfl mN kN bN .nil passN (pa_cons (pv 5) (pa_cons (pv 6) pa_nil))))
      (pss_cons (ps_if (PW.pt (pw_or (pt_not (pt_val (pe_call GF hr2 rfl mF kF bF .nil passN (pa_cons (pv 7) pa_nil)))) (pw_or1 (pt_not (pt_val (pe_call GH hr rfl mH kH bH .nil passN (pa_cons (pv 5) (pa_cons (pe_call GV hr1 rfl mV kV bV .nil passN (pa_cons (pe_call GA hr1 rfl mA kA bA .nil passN (pa_cons (pv 0) (pa_cons pe_int pa_nil))) pa_nil)) pa_nil)))))))) (pss_one (ps_ret pe_bl)) pss_nil)
      (pss_cons (ps_set (i := 8) scLaw.nd rfl (Or.inl rfl) (pe_call GQ hr2 rfl mQ kQ bQ .nil passN (pa_cons (pv 2) (pa_cons (pv 3) (pa_cons (pv 4) (pa_cons (pv 6) pa_nil))))))
      (pss_cons (ps_if (pt_not (pt_val (pe_call GJ hr2 rfl mJ kJ bJ .nil passN (pa_cons (pv 2) (pa_cons (pv 3) (pa_cons (pv 6) (pa_cons (pv 8) pa_nil)))))))
          (pss_cons (ps_if (pt_cmpR op_ne (pe_ix ix_tup (pv 7) pe_int (fun _ _ => rfl)) pe_str (nomark _)) (pss_one (ps_ret pe_bl)) pss_nil)
          (pss_one (ps_ret (pe_call GI hr3 rfl mI kI bI .nil passN (pa_cons (pe_ix ix_tup (pv 7) pe_int (fun _ _ => rfl)) (pa_cons (pv 2) (pa_cons (pv 3) (pa_cons (pe_op op_sub pe_int (pv 6)) (pa_cons (pe_call GW hr1 rfl mW kW bW .nil passN (pa_cons (pv 4) (pa_cons (pe_op op_sub pe_int (pv 6)) pa_nil))) pa_nil))))))))) pss_nil)
      (pss_cons (ps_if (PW.pt (pw_or (pt_cmpR op_ne (pe_ix ix_tup (pv 7) pe_int (fun _ _ => rfl)) pe_str (nomark _)) (pw_or (pt_not (pt_val (pe_call GI hr3 rfl mI kI bI .nil passN (pa_cons (pe_ix ix_tup (pv 7) pe_int (fun _ _ => rfl)) (pa_cons (pv 2) (pa_cons (pv 3) (pa_cons (pv 6) (pa_cons (pv 8) pa_nil)))))))) (pw_or1 (pt_not (pt_val (pe_callB call_isi rfl T.isi (by decide +kernel) (pa_cons (pe_ix ix_tup (pv 7) pe_int (fun _ _ => rfl)) (pa_cons (pe_bltn (v := .ty "list") rfl T.tList (by decide +kernel) rfl) pa_nil))))))))) (pss_one (ps_ret pe_bl)) pss_nil)
      (pss_cons (ps_if (pt_cmpR op_ne (pe_callB call_len_seq rfl T.len PySem.boot_len (pa_cons (pe_comp (fr := ["owners"]) (js := [4]) (tif := tB (tDNotIn (tVar 0) (tVar 1))) (te := tVar 0)
          (by exact ⟨rfl, rfl, rfl, rfl, by decide +kernel, by decide +kernel, by decide +kernel, by with_unfolding_all rfl, rfl, by decide +kernel⟩) rfl (pi_list (pe_ix ix_tup (pv 7) pe_int (fun _ _ => rfl))) (by intro _ _ _ _; exact pf_one (pt_cmp (pc_dnotin hu (pv 0) (pv 1)))) (by intro _ _ _ _; exact pv 0)) pa_nil)) (pe_ix ix_tup (pv 7) pe_int (fun _ _ => rfl)) (nomark _)) (pss_one (ps_ret pe_bl)) pss_nil)
      (pss_cons (ps_set (i := 9) scLaw.nd rfl (Or.inl rfl) (pe_callTy call_list_of rfl T.tList (by decide +kernel) (pa_cons (pe_ix ix_tup (pv 7) pe_int (fun _ _ => rfl)) pa_nil)))
      (pss_cons (ps_expr (pe_bm0 PySem.F.plainAttrs_list PySem.F.slot_list_clear PySem.F.type_list_clear mt_clear (pe_ix ix_tup (pv 7) pe_int (fun _ _ => rfl))))
      (pss_cons (ps_expr (pe_bm PySem.F.plainAttrs_list PySem.F.slot_list_append PySem.F.type_list_append mt_append (pe_ix ix_tup (pv 7) pe_int (fun _ _ => rfl)) (pa_cons (pe_lst pa_nil) pa_nil)))
      (pss_cons (ps_set (i := 10) scLaw.nd rfl (Or.inl rfl) (pe_call GN hr6 rfl mN kN bN .nil passN (pa_cons (pv 5) (pa_cons (pv 6) pa_nil))))
      (pss_cons (ps_if (PW.pt (pw_or (pt_not (pt_val (pe_call GF hr2 rfl mF kF bF .nil passN (pa_cons (pv 10) pa_nil)))) (pw_or (pt_cmpR op_ne (pe_ix ix_tup (pv 10) pe_int (fun _ _ => rfl)) pe_str (nomark _)) (pw_or1 (pt_cmpR op_ne (pe_ix ix_tup (pv 10) pe_int (fun _ _ => rfl)) (pe_ix ix_tup (pv 7) pe_int (fun _ _ => rfl)) (nomark _)))))) (pss_one (ps_ret pe_bl)) pss_nil)
      (pss_cons (ps_if (PW.pt (pw_or (pt_not (pt_val (pe_call GI hr3 rfl mI kI bI .nil passN (pa_cons (pe_ix ix_tup (pv 10) pe_int (fun _ _ => rfl)) (pa_cons (pv 2) (pa_cons (pv 3) (pa_cons (pv 6) (pa_cons (pv 8) pa_nil)))))))) (pw_or1 (pt_cmpR op_ne (pe_callB call_len_seq rfl T.len PySem.boot_len (pa_cons (pe_ix ix_tup (pv 10) pe_int (fun _ _ => rfl)) pa_nil)) (pe_ix ix_tup (pv 7) pe_int (fun _ _ => rfl)) (nomark _))))) (pss_one (ps_ret pe_bl)) pss_nil)
      (pss_one (ps_ret (pe_call GL hr rfl mL kL bL .nil passN (pa_cons (pv 5) (pa_cons (pv 2) (pa_cons (pv 3) (pa_cons (pv 4) (pa_cons (pv 6) (pa_cons (pv 9) pa_nil)))))))))))))))))))))))))), ?_⟩
    refine seqG fun U hU => ?_
    refine ⟨_, rfl, a, ns, 7, rfl, hS, hlen, by decide, by decide, fun ts H1 R C s1 r1 r2 c1 c2 cts => ?_⟩
    refine hU [some (.ref a), some (.ref ts), none, none, none, none, none, none, none, none, none] _ ?_
    refine seqG fun U hU => ?_
    refine ⟨_, rfl, ts, _, _, _, rfl, rfl, SqT.of cts, atI_nat (j := 0) rfl, ?_⟩
    refine hU [some (.ref a), some (.ref ts), some (.int R), none, none, none, none, none, none, none, none] _ ?_
    refine seqG fun U hU => ?_
    refine ⟨_, rfl, ts, _, _, _, rfl, rfl, SqT.of cts, atI_nat (j := 1) rfl, ?_⟩
    refine hU [some (.ref a), some (.ref ts), some (.int R), some (.int C), none, none, none, none, none, none, none] _ ?_
    refine seqG fun U hU => ?_
    refine ⟨_, rfl, _, rfl, _, rfl, a, ns, 3, R, C, rfl, s1.seq hS, hlen, r2, c2, fun o H2 own ks s2 no od o3 => ?_⟩
    refine hU [some (.ref a), some (.ref ts), some (.int R), some (.int C), some (.ref o), none, none, none, none, none, none] _ ?_
    refine seqG fun U hU => ?_
    refine ⟨_, rfl, _, rfl, _, rfl, R, C, o, own, ks, rfl, r1, r2, c1, c2, od, o3, fun p d H3 s3 np nd B => ?_⟩
    have s03 := (s1.trans s2).trans s3
    have hRC : R * C ≤ 100 := Nat.mul_le_mul r2 c2
    refine hU [some (.ref a), some (.ref ts), some (.int R), some (.int C), some (.ref o), some (.ref p), none, none, none, none, none] _ ?_
    refine seqG fun U hU => ?_
    refine ⟨_, rfl, a, ns, 1, rfl, s03.seq hS, hlen, _, _, rfl, rfl, (by show (0 : Int) < 2; decide), _, _, rfl, rfl, ?_⟩
    refine L2.hide fun gQ gH => ?_
    obtain ⟨hand, eh, hh⟩ : ∃ hand : Int, 1 + ns.getD 1 0 % 2 = hand ∧ (hand = 1 ∨ hand = 2) := ⟨_, rfl, by omega⟩
    refine gH ?_
    dsimp only
    rw [eh]
    have hS3 := s03.seq hS
    have hpl3 := s03 _ _ hpl
    have od3 := od.mono s3
    have ndo : d ≠ o := Ne.symm (ne_of_none od.dd.1 nd)
    refine hU [some (.ref a), some (.ref ts), some (.int R), some (.int C), some (.ref o), some (.ref p), some (.int hand), none, none, none, none] _ ?_
    refine seqG fun U hU => ?_
    refine ⟨_, rfl, _, rfl, p, d, R, C, own, hand, rfl, r1, c1, r2, c2, B, LamT.new hpl3, fun z => absurd hh z, fun _ H4 t k4 lam4 fnd => ?_⟩
    have B4 := k4.board hpl3 B
    have od4 := od3.butT k4 hpl3
    have hS4 := SqL.but hS3 k4 hpl3
    clear hS3 hpl3 od3 B s03
    obtain ⟨tn, htn⟩ := fnd.told
    refine hU [some (.ref a), some (.ref ts), some (.int R), some (.int C), some (.ref o), some (.ref p), some (.int hand), some (.ref t), none, none, none] _ ?_
    refine seqG fun U hU => ?_
    refine ⟨_, rfl, t, tn, rfl, htn, _, rfl, iteF ?_⟩
    refine ⟨_, rfl, _, rfl, a, ns, 2, rfl, hS4, hlen, _, rfl, fun H5 bad s5 hbad => ?_⟩
    refine ⟨p, d, R, C, own, bad, rfl, r1, c1, r2, c2, B4.mono s5, lam4.mono s5, hbad, fun H6 s6 => ⟨_, rfl, iteF ?_⟩⟩
    have s46 := s5.trans s6
    refine hU [some (.ref a), some (.ref ts), some (.int R), some (.int C), some (.ref o), some (.ref p), some (.int hand), some (.ref t), none, none, none] _ ?_
    refine seqG fun U hU => ?_
    refine ⟨_, rfl, _, rfl, _, rfl, _, rfl, R, C, o, own, ks, hand, rfl, r2, c2, od4.mono s46, hh, fun my H7 km s7 nmy dm mm => ?_⟩
    have s47 := s46.trans s7
    refine hU [some (.ref a), some (.ref ts), some (.int R), some (.int C), some (.ref o), some (.ref p), some (.int hand), some (.ref t), some (.ref my), none, none] _ ?_
    refine seqG fun U hU => ?_
    refine ⟨_, rfl, _, rfl, _, rfl, _, rfl, R, C, my, hand, km, _, rfl, r1, c1, r2, c2, hh, dm, (fun x hx => ((mm x).mp hx).1), fun H8 qs s8 chq => ⟨_, rfl, iteF ?_⟩, fun H8 sk s8 shq => ⟨_, rfl, iteT ?_⟩⟩
    all_goals have s48 := s47.trans s8
    all_goals have fnd8 := fnd.mono s48
    all_goals have B8 := B4.mono s48
    all_goals have od8 := od4.mono s48
    all_goals have lam8 := lam4.mono s48
    all_goals have dm8 := dm.mono s8
    all_goals clear fnd B4 od4 lam4 dm
    all_goals have toP : ∀ x, x ∈ km → passB R C own hand x := fun x hx => ⟨((mm x).mp hx).1, by have := ((mm x).mp hx).2; omega⟩
    all_goals have ofP : ∀ x, passB R C own hand x → x ∈ km := fun x hx => (mm x).mpr ⟨hx.1, by have h1 : own (nat2 x) ≠ 3 - hand := hx.2; have h2 := o3 (nat2 x); omega⟩
    · rcases fnd8 with ⟨l, ps, e, hl, ic, nob⟩ | ⟨n, lw, ps, lb, bs, e, hlw, ic, hcost, hleast, hls, hbn⟩
      · exact absurd (chq.mono fun x _ z => toP x z) (nob qs)
      have hn : n ≤ 100 := by
        rw [← hcost]
        exact Nat.le_trans (cost_len ic) hRC
      refine hU [some (.ref a), some (.ref ts), some (.int R), some (.int C), some (.ref o), some (.ref p), some (.int hand), some (.ref t), some (.ref my), none, none] _ ?_
      refine seqG fun U hU => ?_
      refine ⟨_, rfl, t, _, _, _, rfl, rfl, SqT.of e, atI_nat (j := 0) rfl, rfl, _, rfl, iteN (by simp) ?_⟩
      refine ⟨_, rfl, t, _, _, _, rfl, rfl, SqT.of e, atI_nat (j := 2) rfl, _, rfl, _, rfl, _, rfl, _, rfl, R, C, lw, my, hand, ps, km, _, rfl, r2, c2, hlw, dm8, ic.mono fun x _ z => ofP x z, fun H9 s9 => ⟨_, rfl, iteF ?_⟩⟩
      have e9 := s9 _ _ e
      have hlw9 := hlw.mono s9
      refine L2.hide fun gQ gH => ?_
      obtain ⟨bl9, elb9, _⟩ := hls.mono s9
      refine gH ?_
      refine ⟨_, rfl, t, _, _, _, rfl, rfl, SqT.of e9, atI_nat (j := 3) rfl, _, _, _, _, _, rfl, rfl, .lst elb9, T.k1, _, rfl, iteF ?_⟩
      refine hU [some (.ref a), some (.ref ts), some (.int R), some (.int C), some (.ref o), some (.ref p), some (.int hand), some (.ref t), some (.ref my), none, none] _ ?_
      refine seqG fun U hU => ?_
      refine ⟨_, rfl, t, _, _, _, rfl, rfl, SqT.of e9, atI_nat (j := 2) rfl, lw, rfl, ?_, fun D2 nD2 => ?_⟩
      · refine L2.hide fun gQ gH => ?_
        obtain ⟨asw, ew, _⟩ := hlw9
        refine gH ?_
        exact ⟨_, SqL.of ew⟩
      refine comp_no hlw9 (od8.mono s9) ic.inb (by have := len_in ic.nd ic.inb; omega) nD2 fun as2 c2' => ?_
      have sD := Same.upd (o := .lst (as2.map V.ref)) nD2
      have ln2 := c2'.len
      rw [← cost_filter, hcost] at ln2
      have eD : (upd H9 D2 (.lst (as2.map V.ref))) D2 = some (.lst (as2.map V.ref)) := upd_same
      generalize upd H9 D2 (.lst (as2.map V.ref)) = H10 at sD eD ⊢
      refine ⟨D2, _, rfl, .inl (SqL.of eD), _, rfl, t, _, _, _, rfl, rfl, SqT.of (sD _ _ e9), atI_nat (j := 1) rfl, rfl, _, rfl, iteN (by simp [ln2]) ?_⟩
      have s810 := s9.trans sD
      refine L2.hide fun gQ gH => ?_
      obtain ⟨asw, ew10, cw10⟩ := hlw.mono s810
      refine gH ?_
      refine hU [some (.ref a), some (.ref ts), some (.int R), some (.int C), some (.ref o), some (.ref p), some (.int hand), some (.ref t), some (.ref my), none, none] _ ?_
      refine seqG fun U hU => ?_
      refine ⟨_, rfl, t, _, _, _, rfl, rfl, SqT.of (s810 _ _ e), atI_nat (j := 2) rfl, lw, _, rfl, .inl (SqL.of ew10), fun br nbr => ?_⟩
      have sB := Same.upd (o := .lst (asw.map V.ref)) nbr
      have nbw : br ≠ lw := Ne.symm (ne_of_none ew10 nbr)
      have hls10 := hls.mono s810
      have nbb : br ≠ lb := by
        refine L2.hide fun gQ gH => ?_
        obtain ⟨_, z, _⟩ := hls10
        refine gH ?_
        exact Ne.symm (ne_of_none z nbr)
      have hbr : LCells (upd H10 br (.lst (asw.map V.ref))) br ps := ⟨asw, upd_same, cw10.mono sB⟩
      generalize upd H10 br (.lst (asw.map V.ref)) = H11 at sB hbr ⊢
      have s811 := s810.trans sB
      have e11 := s811 _ _ e
      have ew11 := sB _ _ ew10
      have hls11 := hls10.mono sB
      have B11 := B8.mono s811
      have od11 := od8.mono s811
      have lam11 := lam8.mono s811
      have dm11 := dm8.mono s811
      have nwb : lw ≠ lb := lst_ne (hlw.mono s811) ic.ne hls11
      clear s810 hls10 sB ew10 cw10 B8 od8 lam8 dm8 hls
      refine hU [some (.ref a), some (.ref ts), some (.int R), some (.int C), some (.ref o), some (.ref p), some (.int hand), some (.ref t), some (.ref my), some (.ref br), none] _ ?_
      refine seqG fun U hU => ?_
      refine ⟨_, rfl, t, _, _, _, rfl, rfl, SqT.of e11, atI_nat (j := 2) rfl, .inl ⟨rfl, _, SqL.of ew11⟩, lw, _, rfl, rfl, ew11, ?_⟩
      have k12 := But.upd (H := H11) (a := lw) (o := .lst [])
      have e12 := k12 _ _ e11 (ne_of e11 ew11 fun z => nomatch z)
      refine L2.hide fun gQ gH => ?_
      obtain ⟨bl, elb, _⟩ := hls11
      refine gH ?_
      have elb12 := k12 _ _ elb (Ne.symm nwb)
      have hbr12 := k12.lcells ew11 (fun _ z => nomatch z) nbw hbr
      have B12 := BoardAt.butL B11 k12 ew11
      have od12 := od11.but k12 (ne_of od11.dd.1 ew11 fun z => nomatch z)
      have dm12 := dm11.but k12 (ne_of dm11.1 ew11 fun z => nomatch z)
      have lam12 := lam11.but k12 ew11 (fun _ z => nomatch z) (fun _ z => nomatch z)
      clear B11 od11 dm11 lam11 hbr
      generalize upd H11 lw (.lst []) = H12 at e12 elb12 hbr12 B12 od12 dm12 lam12 ⊢
      refine hU [some (.ref a), some (.ref ts), some (.int R), some (.int C), some (.ref o), some (.ref p), some (.int hand), some (.ref t), some (.ref my), some (.ref br), none] _ ?_
      refine seqG fun U hU => ?_
      refine ⟨_, rfl, t, _, _, _, rfl, rfl, SqT.of e12, atI_nat (j := 3) rfl, .inl ⟨rfl, _, SqL.of elb12⟩, (by show 0 ≤ sizeLine; decide), fun l0 nl0 => ?_⟩
      have s13 := Same.upd (o := .lst []) nl0
      have n0b : l0 ≠ lb := Ne.symm (ne_of_none elb12 nl0)
      have elb13 := s13 _ _ elb12
      have hln : bl.length = n := by
        have := Paired.length ‹Paired _ bl bs›
        rw [this, hbn]
      refine ⟨lb, _, _, rfl, rfl, elb13, (by rw [List.length_map, hln]; exact small1000 (by omega)), ?_⟩
      have k14 := But.upd (H := upd H12 l0 (.lst [])) (a := lb) (o := .lst (bl.map V.ref ++ [V.ref l0]))
      have e14 := k14 _ _ (s13 _ _ e12) (ne_of (s13 _ _ e12) elb13 fun z => nomatch z)
      have hbr14 := k14.lcells elb13 (fun _ z => nomatch z) nbb (hbr12.mono s13)
      have B14 := BoardAt.butL (B12.mono s13) k14 elb13
      have od14 := (od12.mono s13).but k14 (ne_of (od12.mono s13).dd.1 elb13 fun z => nomatch z)
      have dm14 := (dm12.mono s13).but k14 (ne_of (dm12.mono s13).1 elb13 fun z => nomatch z)
      have lam14 := (lam12.mono s13).but k14 elb13 (fun _ z => nomatch z) (fun _ z => nomatch z)
      generalize upd (upd H12 l0 (.lst [])) lb (.lst (bl.map V.ref ++ [V.ref l0])) = H14 at e14 hbr14 B14 od14 dm14 lam14 ⊢
      clear k12 k14 s13 elb13 e12 elb12 hbr12 B12 od12 dm12 lam12
      refine hU [some (.ref a), some (.ref ts), some (.int R), some (.int C), some (.ref o), some (.ref p), some (.int hand), some (.ref t), some (.ref my), some (.ref br), none] _ ?_
      refine seqG fun U hU => ?_
      refine ⟨_, rfl, _, rfl, p, d, R, C, own, hand, rfl, r1, c1, r2, c2, B14, lam14, fun z => absurd hh z, fun _ H15 t2 k15 lam15 fnd2 => ?_⟩
      refine L2.hide fun gQ gH => ?_
      obtain ⟨ps14, hpl14, _⟩ := id lam14
      refine gH ?_
      have B15 := k15.board hpl14 B14
      have od15 := od14.butT k15 hpl14
      have dm15 := dm14.but k15 (ne_of dm14.1 hpl14 fun z => nomatch z)
      have hbr15 := hbr14.butT k15 hpl14
      have e15 := k15 _ _ e14 (ne_of e14 hpl14 fun z => nomatch z)
      rcases fnd2 with ⟨l2, _, _, _, _, nob⟩ | ⟨n2, lw2, ps2, lb2, bs2, e2, hlw2, ic2, hcost2, hleast2, hls2, hbn2⟩
      · exact absurd ic (nob ps)
      have en : n2 = n := by
        have h1 := hleast ps2 ic2
        have h2 := hleast2 ps ic
        omega
      subst en
      refine hU [some (.ref a), some (.ref ts), some (.int R), some (.int C), some (.ref o), some (.ref p), some (.int hand), some (.ref t), some (.ref my), some (.ref br), some (.ref t2)] _ ?_
      refine seqG fun U hU => ?_
      refine ⟨_, rfl, t2, some n2, rfl, ⟨lw2, lb2, e2⟩, _, rfl, iteF ?_⟩
      refine ⟨_, rfl, t2, _, _, _, rfl, rfl, SqT.of e2, atI_nat (j := 0) rfl, rfl, _, rfl, iteN (by simp) ?_⟩
      refine ⟨_, rfl, t2, _, _, _, rfl, rfl, SqT.of e2, atI_nat (j := 1) rfl, _, rfl, t, _, _, _, rfl, rfl, SqT.of e15, atI_nat (j := 1) rfl, rfl, _, rfl, iteN (by simp) ?_⟩
      refine hU [some (.ref a), some (.ref ts), some (.int R), some (.int C), some (.ref o), some (.ref p), some (.int hand), some (.ref t), some (.ref my), some (.ref br), some (.ref t2)] _ ?_
      refine seqG fun U hU => ?_
      refine ⟨_, rfl, t2, _, _, _, rfl, rfl, SqT.of e2, atI_nat (j := 2) rfl, _, rfl, _, rfl, _, rfl, _, rfl, R, C, lw2, my, hand, ps2, km, _, rfl, r2, c2, hlw2, dm15, ic2.mono fun x _ z => ofP x z, fun H16 s16 => ⟨_, rfl, iteF ?_⟩⟩
      refine L2.hide fun gQ gH => ?_
      obtain ⟨bl2, elb2, pb2⟩ := hls2.mono s16
      refine gH ?_
      have hl2 : bl2.length = n2 := by
        have := Paired.length pb2
        rw [this, hbn2]
      refine ⟨_, rfl, t2, _, _, _, rfl, rfl, SqT.of (s16 _ _ e2), atI_nat (j := 3) rfl, lb2, _, rfl, .inl (SqL.of elb2), _, rfl, t, _, _, _, rfl, rfl, SqT.of (s16 _ _ e15), atI_nat (j := 1) rfl, rfl, _, rfl, iteN (by simp [hl2]) ?_⟩
      refine hU [some (.ref a), some (.ref ts), some (.int R), some (.int C), some (.ref o), some (.ref p), some (.int hand), some (.ref t), some (.ref my), some (.ref br), some (.ref t2)] _ ?_
      exact ⟨_, rfl, _, rfl, _, rfl, _, rfl, _, rfl, _, rfl, p, d, o, br, R, C, own, ks, hand, ps, rfl, r1, c1, r2, c2, B15.mono s16, od15.mono s16, ndo, o3, hh, lam15.mono s16, hbr15.mono s16, ic, k⟩
    · rcases fnd8 with ⟨l, ps, e, hl, ic, nob⟩ | ⟨n, lw, ps, lb, bs, e, hlw, ic, hcost, hleast, hls, hbn⟩
      · refine ⟨_, rfl, t, _, _, _, rfl, rfl, SqT.of e, atI_nat (j := 0) rfl, rfl, _, rfl, iteN (by simp) ?_⟩
        refine ⟨_, rfl, t, _, _, _, rfl, rfl, SqT.of e, atI_nat (j := 1) rfl, _, rfl, _, rfl, _, rfl, _, _, rfl, rfl, _, rfl, _, rfl, _, _, rfl, rfl, R, C, o, own, ks, 3 - hand, rfl, r2, c2, od8, fun o' H9 ks' s9 no' d9 m9 => ?_⟩
        refine ⟨R, C, l, o', 3 - hand, ps, ks', _, rfl, r2, c2, hl.mono s9, d9, ic.mono fun x _ z => (m9 x).mpr ⟨(od8.mem x).mpr ⟨z.1, ?_⟩, z.2⟩, fun H10 _ => k H10⟩
        have : own (nat2 x) = 3 - hand := z.2
        omega
      · exact (shq.no_chain ic fun x _ z => ofP x z).elim
end
end K06

set_option maxHeartbeats 4000000
namespace L2
open PySem PySem.Spec PyProof.Rows
section
variable {K : PySem.W.Frag} {x qual : Str} {st : Stmt} {f : Addr} {fd : FuncData}
theorem Fun.bd1 {p1 : Str} (F : Fun K x qual st f fd)
    (h : ∀ (kV doc pm : Value) (an : Option Addr) (cdv ct u1 : Value), bindArgs (PySem.W.fnOf x qual (defArgs st) (defBody st) (defScope st) .none kV doc pm an cdv ct) ⟨[u1], []⟩ = pure [(p1, u1)]) : Binds K fd [p1] [] :=
  F.binds fun kV doc pm an cdv ct us hl => by
    cases us with
    | nil => cases hl
    | cons u1 us =>
      cases us with
      | nil => exact h kV doc pm an cdv ct u1
      | cons _ _ => cases hl
theorem Fun.bd2 {p1 p2 : Str} (F : Fun K x qual st f fd)
    (h : ∀ (kV doc pm : Value) (an : Option Addr) (cdv ct u1 u2 : Value), bindArgs (PySem.W.fnOf x qual (defArgs st) (defBody st) (defScope st) .none kV doc pm an cdv ct) ⟨[u1, u2], []⟩ = pure [(p1, u1), (p2, u2)]) : Binds K fd [p1, p2] [] :=
  F.binds fun kV doc pm an cdv ct us hl => by
    cases us with
    | nil => cases hl
    | cons u1 us =>
      cases us with
      | nil => cases hl
      | cons u2 us =>
        cases us with
        | nil => exact h kV doc pm an cdv ct u1 u2
        | cons _ _ => cases hl
theorem Fun.bd3 {p1 p2 p3 : Str} (F : Fun K x qual st f fd)
    (h : ∀ (kV doc pm : Value) (an : Option Addr) (cdv ct u1 u2 u3 : Value), bindArgs (PySem.W.fnOf x qual (defArgs st) (defBody st) (defScope st) .none kV doc pm an cdv ct) ⟨[u1, u2, u3], []⟩ = pure [(p1, u1), (p2, u2), (p3, u3)]) : Binds K fd [p1, p2, p3] [] :=
  F.binds fun kV doc pm an cdv ct us hl => by
    cases us with
    | nil => cases hl
    | cons u1 us =>
      cases us with
      | nil => cases hl
      | cons u2 us =>
        cases us with
        | nil => cases hl
        | cons u3 us =>
          cases us with
          | nil => exact h kV doc pm an cdv ct u1 u2 u3
          | cons _ _ => cases hl
theorem Fun.bd4 {p1 p2 p3 p4 : Str} (F : Fun K x qual st f fd)
    (h : ∀ (kV doc pm : Value) (an : Option Addr) (cdv ct u1 u2 u3 u4 : Value), bindArgs (PySem.W.fnOf x qual (defArgs st) (defBody st) (defScope st) .none kV doc pm an cdv ct) ⟨[u1, u2, u3, u4], []⟩ = pure [(p1, u1), (p2, u2), (p3, u3), (p4, u4)]) : Binds K fd [p1, p2, p3, p4] [] :=
  F.binds fun kV doc pm an cdv ct us hl => by
    cases us with
    | nil => cases hl
    | cons u1 us =>
      cases us with
      | nil => cases hl
      | cons u2 us =>
        cases us with
        | nil => cases hl
        | cons u3 us =>
          cases us with
          | nil => cases hl
          | cons u4 us =>
            cases us with
            | nil => exact h kV doc pm an cdv ct u1 u2 u3 u4
            | cons _ _ => cases hl
theorem Fun.bd5 {p1 p2 p3 p4 p5 : Str} (F : Fun K x qual st f fd)
    (h : ∀ (kV doc pm : Value) (an : Option Addr) (cdv ct u1 u2 u3 u4 u5 : Value), bindArgs (PySem.W.fnOf x qual (defArgs st) (defBody st) (defScope st) .none kV doc pm an cdv ct) ⟨[u1, u2, u3, u4, u5], []⟩ = pure [(p1, u1), (p2, u2), (p3, u3), (p4, u4), (p5, u5)]) : Binds K fd [p1, p2, p3, p4, p5] [] :=
  F.binds fun kV doc pm an cdv ct us hl => by
    cases us with
    | nil => cases hl
    | cons u1 us =>
      cases us with
      | nil => cases hl
      | cons u2 us =>
        cases us with
        | nil => cases hl
        | cons u3 us =>
          cases us with
          | nil => cases hl
          | cons u4 us =>
            cases us with
            | nil => cases hl
            | cons u5 us =>
              cases us with
              | nil => exact h kV doc pm an cdv ct u1 u2 u3 u4 u5
              | cons _ _ => cases hl
theorem Fun.bd6 {p1 p2 p3 p4 p5 p6 : Str} (F : Fun K x qual st f fd)
    (h : ∀ (kV doc pm : Value) (an : Option Addr) (cdv ct u1 u2 u3 u4 u5 u6 : Value), bindArgs (PySem.W.fnOf x qual (defArgs st) (defBody st) (defScope st) .none kV doc pm an cdv ct) ⟨[u1, u2, u3, u4, u5, u6], []⟩ = pure [(p1, u1), (p2, u2), (p3, u3), (p4, u4), (p5, u5), (p6, u6)]) : Binds K fd [p1, p2, p3, p4, p5, p6] [] :=
  F.binds fun kV doc pm an cdv ct us hl => by
    cases us with
    | nil => cases hl
    | cons u1 us =>
      cases us with
      | nil => cases hl
      | cons u2 us =>
        cases us with
        | nil => cases hl
        | cons u3 us =>
          cases us with
          | nil => cases hl
          | cons u4 us =>
            cases us with
            | nil => cases hl
            | cons u5 us =>
              cases us with
              | nil => cases hl
              | cons u6 us =>
                cases us with
                | nil => exact h kV doc pm an cdv ct u1 u2 u3 u4 u5 u6
                | cons _ _ => cases hl
end
end L2

set_option maxHeartbeats 4000000
namespace K06
open PySem L2 Bd
theorem all_mk {l : PySem.W.OpenLaw} {w : World} {K : PySem.W.Frag} {h : Heap} {mg : Str → Option Value} {fa pl cN CB CE NC NH CT NB f1 f2 f3 f4 f5 f6 f7 f8 f9 f10 f11 f12 f13 f14 f15 f16 f17 f18 f19 f20 f21 f22 f23 f24 f25 f26 f27 f28 f29 f30 f31 f32 f33 f34 f35 f36 f37 : Addr} (X : K.In h) (G : h.Ns mainGlobals mg) (hfa : mg "law" = some (.ref fa))
    {od1 an1 od2 an2 od3 an3 od4 an4 od5 an5 od6 an6 od7 an7 od8 an8 od9 an9 od10 an10 od11 an11 od12 an12 od13 an13 od14 an14 od15 an15 od16 an16 od17 an17 od18 an18 od19 an19 od20 an20 od21 an21 od22 an22 od23 an23 od24 an24 od25 an25 od26 an26 od27 an27 od28 an28 od29 an29 od30 an30 od31 an31 od32 an32 od33 an33 od34 an34 od35 an35 od36 an36 od37 an37 : Option Addr} {sl1 sl2 sl3 sl4 sl5 sl6 sl7 sl8 sl9 sl10 sl11 sl12 sl13 sl14 sl15 sl16 sl17 sl18 sl19 sl20 sl21 sl22 sl23 sl24 sl25 sl26 sl27 sl28 sl29 sl30 sl31 sl32 sl33 sl34 sl35 sl36 sl37 : Array (Option Value)}
    {oc1 kV1 dc1 pm1 ct1 cd1 oc2 kV2 dc2 pm2 ct2 cd2 oc3 kV3 dc3 pm3 ct3 cd3 oc4 kV4 dc4 pm4 ct4 cd4 oc5 kV5 dc5 pm5 ct5 cd5 oc6 kV6 dc6 pm6 ct6 cd6 oc7 kV7 dc7 pm7 ct7 cd7 oc8 kV8 dc8 pm8 ct8 cd8 oc9 kV9 dc9 pm9 ct9 cd9 oc10 kV10 dc10 pm10 ct10 cd10 oc11 kV11 dc11 pm11 ct11 cd11 oc12 kV12 dc12 pm12 ct12 cd12 oc13 kV13 dc13 pm13 ct13 cd13 oc14 kV14 dc14 pm14 ct14 cd14 oc15 kV15 dc15 pm15 ct15 cd15 oc16 kV16 dc16 pm16 ct16 cd16 oc17 kV17 dc17 pm17 ct17 oc18 kV18 dc18 pm18 ct18 cd18 oc19 kV19 dc19 pm19 ct19 cd19 oc20 kV20 dc20 pm20 ct20 cd20 oc21 kV21 dc21 pm21 ct21 cd21 oc22 kV22 dc22 pm22 ct22 cd22 oc23 kV23 dc23 pm23 ct23 cd23 oc24 kV24 dc24 pm24 ct24 cd24 oc25 kV25 dc25 pm25 ct25 cd25 oc26 kV26 dc26 pm26 ct26 cd26 oc27 kV27 dc27 pm27 ct27 cd27 oc28 kV28 dc28 pm28 ct28 cd28 oc29 kV29 dc29 pm29 ct29 cd29 oc30 kV30 dc30 pm30 ct30 cd30 oc31 kV31 dc31 pm31 ct31 cd31 oc32 kV32 dc32 pm32 ct32 cd32 oc33 kV33 dc33 pm33 ct33 cd33 oc34 kV34 dc34 pm34 ct34 cd34 oc35 kV35 dc35 pm35 ct35 cd35 oc36 kV36 dc36 pm36 ct36 cd36 oc37 kV37 dc37 pm37 ct37 cd37 : Value} {tm : Tok} {cxNH : ClassData}
    (aB : PySem.W.nsIn K mainGlobals "Board" = some (some (.ref CB)))
    (aE : PySem.W.nsIn K mainGlobals "BoardError" = some (some (.ref CE)))
    (aM : PySem.W.nsIn K mainGlobals "MOST" = some (some (.int 10 tm)))
    (xNC : PySem.W.nsIn K mainGlobals "NoCell" = some (some (.ref NC)))
    (xNH : PySem.W.nsIn K mainGlobals "NoHand" = some (some (.ref NH)))
    (xCT : PySem.W.nsIn K mainGlobals "CellTaken" = some (some (.ref CT)))
    (xNB : PySem.W.nsIn K mainGlobals "NoBoard" = some (some (.ref NB)))
    (a1 : PySem.W.findIn K (.ref CB) "__init__" = some (some (.ref f1)))
    (i1 : PySem.W.isFn K (.ref f1) = true)
    (l1 : K.lookup f1 = some ⟨oc1, od1, .func (PySem.W.fnOf "__init__" "Board.__init__" (defArgs sInit) (defBody sInit) (defScope sInit) .none kV1 dc1 pm1 an1 cd1 ct1), sl1⟩)
    (c1 : PySem.W.codeIn K cd1 "Board.__init__" = true)
    (k1 : PySem.W.keepIn K (.ref f1) = true)
    (a2 : PySem.W.findIn K (.ref CB) "rows" = some (some (.ref f2)))
    (i2 : PySem.W.isFn K (.ref f2) = true)
    (l2 : K.lookup f2 = some ⟨oc2, od2, .func (PySem.W.fnOf "rows" "Board.rows" (defArgs sRows) (defBody sRows) (defScope sRows) .none kV2 dc2 pm2 an2 cd2 ct2), sl2⟩)
    (c2 : PySem.W.codeIn K cd2 "Board.rows" = true)
    (k2 : PySem.W.keepIn K (.ref f2) = true)
    (a3 : PySem.W.findIn K (.ref CB) "columns" = some (some (.ref f3)))
    (i3 : PySem.W.isFn K (.ref f3) = true)
    (l3 : K.lookup f3 = some ⟨oc3, od3, .func (PySem.W.fnOf "columns" "Board.columns" (defArgs sCols) (defBody sCols) (defScope sCols) .none kV3 dc3 pm3 an3 cd3 ct3), sl3⟩)
    (c3 : PySem.W.codeIn K cd3 "Board.columns" = true)
    (k3 : PySem.W.keepIn K (.ref f3) = true)
    (a4 : PySem.W.findIn K (.ref CB) "put" = some (some (.ref f4)))
    (i4 : PySem.W.isFn K (.ref f4) = true)
    (l4 : K.lookup f4 = some ⟨oc4, od4, .func (PySem.W.fnOf "put" "Board.put" (defArgs sPut) (defBody sPut) (defScope sPut) .none kV4 dc4 pm4 an4 cd4 ct4), sl4⟩)
    (c4 : PySem.W.codeIn K cd4 "Board.put" = true)
    (k4 : PySem.W.keepIn K (.ref f4) = true)
    (a5 : PySem.W.findIn K (.ref CB) "owner" = some (some (.ref f5)))
    (i5 : PySem.W.isFn K (.ref f5) = true)
    (l5 : K.lookup f5 = some ⟨oc5, od5, .func (PySem.W.fnOf "owner" "Board.owner" (defArgs sOwner) (defBody sOwner) (defScope sOwner) .none kV5 dc5 pm5 an5 cd5 ct5), sl5⟩)
    (c5 : PySem.W.codeIn K cd5 "Board.owner" = true)
    (k5 : PySem.W.keepIn K (.ref f5) = true)
    (a6 : PySem.W.findIn K (.ref CB) "near" = some (some (.ref f6)))
    (i6 : PySem.W.isFn K (.ref f6) = true)
    (l6 : K.lookup f6 = some ⟨oc6, od6, .func (PySem.W.fnOf "near" "Board.near" (defArgs sNear) (defBody sNear) (defScope sNear) .none kV6 dc6 pm6 an6 cd6 ct6), sl6⟩)
    (c6 : PySem.W.codeIn K cd6 "Board.near" = true)
    (k6 : PySem.W.keepIn K (.ref f6) = true)
    (a7 : PySem.W.findIn K (.ref CB) "empties" = some (some (.ref f7)))
    (i7 : PySem.W.isFn K (.ref f7) = true)
    (l7 : K.lookup f7 = some ⟨oc7, od7, .func (PySem.W.fnOf "empties" "Board.empties" (defArgs sEmpties) (defBody sEmpties) (defScope sEmpties) .none kV7 dc7 pm7 an7 cd7 ct7), sl7⟩)
    (c7 : PySem.W.codeIn K cd7 "Board.empties" = true)
    (k7 : PySem.W.keepIn K (.ref f7) = true)
    (a8 : PySem.W.findIn K (.ref CB) "check_cell" = some (some (.ref f8)))
    (i8 : PySem.W.isFn K (.ref f8) = true)
    (l8 : K.lookup f8 = some ⟨oc8, od8, .func (PySem.W.fnOf "check_cell" "Board.check_cell" (defArgs sCheck) (defBody sCheck) (defScope sCheck) .none kV8 dc8 pm8 an8 cd8 ct8), sl8⟩)
    (c8 : PySem.W.codeIn K cd8 "Board.check_cell" = true)
    (k8 : PySem.W.keepIn K (.ref f8) = true)
    (a9 : PySem.W.nsIn K mainGlobals "check_hand" = some (some (.ref f9)))
    (l9 : K.lookup f9 = some ⟨oc9, od9, .func (PySem.W.fnOf "check_hand" "check_hand" (defArgs sHand) (defBody sHand) (defScope sHand) .none kV9 dc9 pm9 an9 cd9 ct9), sl9⟩)
    (c9 : PySem.W.codeIn K cd9 "check_hand" = true)
    (k9 : PySem.W.keepIn K (.ref f9) = true)
    (a10 : PySem.W.nsIn K mainGlobals "other_hand" = some (some (.ref f10)))
    (l10 : K.lookup f10 = some ⟨oc10, od10, .func (PySem.W.fnOf "other_hand" "other_hand" (defArgs sOther) (defBody sOther) (defScope sOther) .none kV10 dc10 pm10 an10 cd10 ct10), sl10⟩)
    (c10 : PySem.W.codeIn K cd10 "other_hand" = true)
    (k10 : PySem.W.keepIn K (.ref f10) = true)
    (a11 : PySem.W.nsIn K mainGlobals "first_side" = some (some (.ref f11)))
    (l11 : K.lookup f11 = some ⟨oc11, od11, .func (PySem.W.fnOf "first_side" "first_side" (defArgs sFirst) (defBody sFirst) (defScope sFirst) .none kV11 dc11 pm11 an11 cd11 ct11), sl11⟩)
    (c11 : PySem.W.codeIn K cd11 "first_side" = true)
    (k11 : PySem.W.keepIn K (.ref f11) = true)
    (a12 : PySem.W.nsIn K mainGlobals "on_last_side" = some (some (.ref f12)))
    (l12 : K.lookup f12 = some ⟨oc12, od12, .func (PySem.W.fnOf "on_last_side" "on_last_side" (defArgs sLast) (defBody sLast) (defScope sLast) .none kV12 dc12 pm12 an12 cd12 ct12), sl12⟩)
    (c12 : PySem.W.codeIn K cd12 "on_last_side" = true)
    (k12 : PySem.W.keepIn K (.ref f12) = true)
    (a13 : PySem.W.nsIn K mainGlobals "check_length" = some (some (.ref f13)))
    (l13 : K.lookup f13 = some ⟨oc13, od13, .func (PySem.W.fnOf "check_length" "check_length" (defArgs sLen) (defBody sLen) (defScope sLen) .none kV13 dc13 pm13 an13 cd13 ct13), sl13⟩)
    (c13 : PySem.W.codeIn K cd13 "check_length" = true)
    (k13 : PySem.W.keepIn K (.ref f13) = true)
    (a14 : PySem.W.nsIn K mainGlobals "copied" = some (some (.ref f14)))
    (l14 : K.lookup f14 = some ⟨oc14, od14, .func (PySem.W.fnOf "copied" "copied" (defArgs sCopied) (defBody sCopied) (defScope sCopied) .none kV14 dc14 pm14 an14 cd14 ct14), sl14⟩)
    (c14 : PySem.W.codeIn K cd14 "copied" = true)
    (k14 : PySem.W.keepIn K (.ref f14) = true)
    (a15 : PySem.W.nsIn K mainGlobals "chain" = some (some (.ref f15)))
    (l15 : K.lookup f15 = some ⟨oc15, od15, .func (PySem.W.fnOf "chain" "chain" (defArgs sChain) (defBody sChain) (defScope sChain) .none kV15 dc15 pm15 an15 cd15 ct15), sl15⟩)
    (c15 : PySem.W.codeIn K cd15 "chain" = true)
    (k15 : PySem.W.keepIn K (.ref f15) = true)
    (a16 : PySem.W.nsIn K mainGlobals "way_to" = some (some (.ref f16)))
    (l16 : K.lookup f16 = some ⟨oc16, od16, .func (PySem.W.fnOf "way_to" "way_to" (defArgs sWay) (defBody sWay) (defScope sWay) .none kV16 dc16 pm16 an16 cd16 ct16), sl16⟩)
    (c16 : PySem.W.codeIn K cd16 "way_to" = true)
    (k16 : PySem.W.keepIn K (.ref f16) = true)
    (a17 : PySem.W.nsIn K mainGlobals "need" = some (some (.ref f17)))
    (l17 : K.lookup f17 = some ⟨oc17, od17, .func (PySem.W.fnOf "need" "need" (defArgs sNeed) (defBody sNeed) (defScope sNeed) .none kV17 dc17 pm17 an17 (.ref cN) ct17), sl17⟩)
    (c17 : PySem.W.codeIn K (.ref cN) "need" = true)
    (k17 : PySem.W.keepIn K (.ref f17) = true)
    (a18 : PySem.W.nsIn K mainGlobals "spread" = some (some (.ref f18)))
    (l18 : K.lookup f18 = some ⟨oc18, od18, .func (PySem.W.fnOf "spread" "spread" (defArgs sSpread) (defBody sSpread) (defScope sSpread) .none kV18 dc18 pm18 an18 cd18 ct18), sl18⟩)
    (c18 : PySem.W.codeIn K cd18 "spread" = true)
    (k18 : PySem.W.keepIn K (.ref f18) = true)
    (a19 : PySem.W.nsIn K mainGlobals "passable" = some (some (.ref f19)))
    (l19 : K.lookup f19 = some ⟨oc19, od19, .func (PySem.W.fnOf "passable" "passable" (defArgs sPassable) (defBody sPassable) (defScope sPassable) .none kV19 dc19 pm19 an19 cd19 ct19), sl19⟩)
    (c19 : PySem.W.codeIn K cd19 "passable" = true)
    (k19 : PySem.W.keepIn K (.ref f19) = true)
    (a20 : PySem.W.nsIn K mainGlobals "price" = some (some (.ref f20)))
    (l20 : K.lookup f20 = some ⟨oc20, od20, .func (PySem.W.fnOf "price" "price" (defArgs sPrice) (defBody sPrice) (defScope sPrice) .none kV20 dc20 pm20 an20 cd20 ct20), sl20⟩)
    (c20 : PySem.W.codeIn K cd20 "price" = true)
    (k20 : PySem.W.keepIn K (.ref f20) = true)
    (a21 : PySem.W.nsIn K mainGlobals "belt" = some (some (.ref f21)))
    (l21 : K.lookup f21 = some ⟨oc21, od21, .func (PySem.W.fnOf "belt" "belt" (defArgs sBelt) (defBody sBelt) (defScope sBelt) .none kV21 dc21 pm21 an21 cd21 ct21), sl21⟩)
    (c21 : PySem.W.codeIn K cd21 "belt" = true)
    (k21 : PySem.W.keepIn K (.ref f21) = true)
    (a22 : PySem.W.nsIn K mainGlobals "_law_cell_at" = some (some (.ref f22)))
    (l22 : K.lookup f22 = some ⟨oc22, od22, .func (PySem.W.fnOf "_law_cell_at" "_law_cell_at" (defArgs sCellAt) (defBody sCellAt) (defScope sCellAt) .none kV22 dc22 pm22 an22 cd22 ct22), sl22⟩)
    (c22 : PySem.W.codeIn K cd22 "_law_cell_at" = true)
    (k22 : PySem.W.keepIn K (.ref f22) = true)
    (a23 : PySem.W.nsIn K mainGlobals "_law_whole" = some (some (.ref f23)))
    (l23 : K.lookup f23 = some ⟨oc23, od23, .func (PySem.W.fnOf "_law_whole" "_law_whole" (defArgs sWhole) (defBody sWhole) (defScope sWhole) .none kV23 dc23 pm23 an23 cd23 ct23), sl23⟩)
    (c23 : PySem.W.codeIn K cd23 "_law_whole" = true)
    (k23 : PySem.W.keepIn K (.ref f23) = true)
    (a24 : PySem.W.nsIn K mainGlobals "_law_owners" = some (some (.ref f24)))
    (l24 : K.lookup f24 = some ⟨oc24, od24, .func (PySem.W.fnOf "_law_owners" "_law_owners" (defArgs sOwners) (defBody sOwners) (defScope sOwners) .none kV24 dc24 pm24 an24 cd24 ct24), sl24⟩)
    (c24 : PySem.W.codeIn K cd24 "_law_owners" = true)
    (k24 : PySem.W.keepIn K (.ref f24) = true)
    (a25 : PySem.W.nsIn K mainGlobals "_law_board_of" = some (some (.ref f25)))
    (l25 : K.lookup f25 = some ⟨oc25, od25, .func (PySem.W.fnOf "_law_board_of" "_law_board_of" (defArgs sBoardOf) (defBody sBoardOf) (defScope sBoardOf) .none kV25 dc25 pm25 an25 cd25 ct25), sl25⟩)
    (c25 : PySem.W.codeIn K cd25 "_law_board_of" = true)
    (k25 : PySem.W.keepIn K (.ref f25) = true)
    (a26 : PySem.W.nsIn K mainGlobals "_law_near" = some (some (.ref f26)))
    (l26 : K.lookup f26 = some ⟨oc26, od26, .func (PySem.W.fnOf "_law_near" "_law_near" (defArgs sLNear) (defBody sLNear) (defScope sLNear) .none kV26 dc26 pm26 an26 cd26 ct26), sl26⟩)
    (c26 : PySem.W.codeIn K cd26 "_law_near" = true)
    (k26 : PySem.W.keepIn K (.ref f26) = true)
    (a27 : PySem.W.nsIn K mainGlobals "_law_is_cells" = some (some (.ref f27)))
    (l27 : K.lookup f27 = some ⟨oc27, od27, .func (PySem.W.fnOf "_law_is_cells" "_law_is_cells" (defArgs sIsCells) (defBody sIsCells) (defScope sIsCells) .none kV27 dc27 pm27 an27 cd27 ct27), sl27⟩)
    (c27 : PySem.W.codeIn K cd27 "_law_is_cells" = true)
    (k27 : PySem.W.keepIn K (.ref f27) = true)
    (a28 : PySem.W.nsIn K mainGlobals "_law_is_chain" = some (some (.ref f28)))
    (l28 : K.lookup f28 = some ⟨oc28, od28, .func (PySem.W.fnOf "_law_is_chain" "_law_is_chain" (defArgs sIsChain) (defBody sIsChain) (defScope sIsChain) .none kV28 dc28 pm28 an28 cd28 ct28), sl28⟩)
    (c28 : PySem.W.codeIn K cd28 "_law_is_chain" = true)
    (k28 : PySem.W.keepIn K (.ref f28) = true)
    (a29 : PySem.W.nsIn K mainGlobals "_law_joined" = some (some (.ref f29)))
    (l29 : K.lookup f29 = some ⟨oc29, od29, .func (PySem.W.fnOf "_law_joined" "_law_joined" (defArgs sJoined) (defBody sJoined) (defScope sJoined) .none kV29 dc29 pm29 an29 cd29 ct29), sl29⟩)
    (c29 : PySem.W.codeIn K cd29 "_law_joined" = true)
    (k29 : PySem.W.keepIn K (.ref f29) = true)
    (a30 : PySem.W.nsIn K mainGlobals "_law_owned" = some (some (.ref f30)))
    (l30 : K.lookup f30 = some ⟨oc30, od30, .func (PySem.W.fnOf "_law_owned" "_law_owned" (defArgs sOwned) (defBody sOwned) (defScope sOwned) .none kV30 dc30 pm30 an30 cd30 ct30), sl30⟩)
    (c30 : PySem.W.codeIn K cd30 "_law_owned" = true)
    (k30 : PySem.W.keepIn K (.ref f30) = true)
    (a31 : PySem.W.nsIn K mainGlobals "_law_open" = some (some (.ref f31)))
    (l31 : K.lookup f31 = some ⟨oc31, od31, .func (PySem.W.fnOf "_law_open" "_law_open" (defArgs sOpen) (defBody sOpen) (defScope sOpen) .none kV31 dc31 pm31 an31 cd31 ct31), sl31⟩)
    (c31 : PySem.W.codeIn K cd31 "_law_open" = true)
    (k31 : PySem.W.keepIn K (.ref f31) = true)
    (a32 : PySem.W.nsIn K mainGlobals "_law_sizes" = some (some (.ref f32)))
    (l32 : K.lookup f32 = some ⟨oc32, od32, .func (PySem.W.fnOf "_law_sizes" "_law_sizes" (defArgs sSizes) (defBody sSizes) (defScope sSizes) .none kV32 dc32 pm32 an32 cd32 ct32), sl32⟩)
    (c32 : PySem.W.codeIn K cd32 "_law_sizes" = true)
    (k32 : PySem.W.keepIn K (.ref f32) = true)
    (a33 : PySem.W.nsIn K mainGlobals "_law_need_form" = some (some (.ref f33)))
    (l33 : K.lookup f33 = some ⟨oc33, od33, .func (PySem.W.fnOf "_law_need_form" "_law_need_form" (defArgs sNeedForm) (defBody sNeedForm) (defScope sNeedForm) .none kV33 dc33 pm33 an33 cd33 ct33), sl33⟩)
    (c33 : PySem.W.codeIn K cd33 "_law_need_form" = true)
    (k33 : PySem.W.keepIn K (.ref f33) = true)
    (a34 : PySem.W.nsIn K mainGlobals "_law_no_hand" = some (some (.ref f34)))
    (l34 : K.lookup f34 = some ⟨oc34, od34, .func (PySem.W.fnOf "_law_no_hand" "_law_no_hand" (defArgs sNoHand) (defBody sNoHand) (defScope sNoHand) .none kV34 dc34 pm34 an34 cd34 ct34), sl34⟩)
    (c34 : PySem.W.codeIn K cd34 "_law_no_hand" = true)
    (k34 : PySem.W.keepIn K (.ref f34) = true)
    (a35 : PySem.W.nsIn K mainGlobals "_law_bad_hand" = some (some (.ref f35)))
    (l35 : K.lookup f35 = some ⟨oc35, od35, .func (PySem.W.fnOf "_law_bad_hand" "_law_bad_hand" (defArgs sBadHand) (defBody sBadHand) (defScope sBadHand) .none kV35 dc35 pm35 an35 cd35 ct35), sl35⟩)
    (c35 : PySem.W.codeIn K cd35 "_law_bad_hand" = true)
    (k35 : PySem.W.keepIn K (.ref f35) = true)
    (a36 : PySem.W.nsIn K mainGlobals "_law_filled" = some (some (.ref f36)))
    (l36 : K.lookup f36 = some ⟨oc36, od36, .func (PySem.W.fnOf "_law_filled" "_law_filled" (defArgs sFilled) (defBody sFilled) (defScope sFilled) .none kV36 dc36 pm36 an36 cd36 ct36), sl36⟩)
    (c36 : PySem.W.codeIn K cd36 "_law_filled" = true)
    (k36 : PySem.W.keepIn K (.ref f36) = true)
    (a37 : PySem.W.nsIn K mainGlobals "law" = some (some (.ref f37)))
    (l37 : K.lookup f37 = some ⟨oc37, od37, .func (PySem.W.fnOf "law" "law" (defArgs sLaw) (defBody sLaw) (defScope sLaw) .none kV37 dc37 pm37 an37 cd37 ct37), sl37⟩)
    (c37 : PySem.W.codeIn K cd37 "law" = true)
    (k37 : PySem.W.keepIn K (.ref f37) = true)
    (pg : PySem.W.plainGet K CB Str.empty = true)
    (hd : PySem.W.hasDictIn K CB = true)
    (po : PySem.W.plainOver K CB = true)
    (sa : PySem.W.findIn K (.ref CB) "__setattr__" = some (some (.builtin "object.__setattr__")))
    (mk : PySem.W.makesIn K CB = true)
    (kc : PySem.W.keepIn K (.ref CB) = true)
    (nH : PySem.W.findIn K (.ref CB) "height" = some none)
    (nW : PySem.W.findIn K (.ref CB) "width" = some none)
    (nO : PySem.W.findIn K (.ref CB) "owners" = some none)
    (eNC : PySem.W.excIn K NC [.type "ValueError", .type "Exception", .type "BaseException", .type "object"] "ValueError.__new__" = true)
    (eNH : PySem.W.excIn K NH [.type "ValueError", .type "Exception", .type "BaseException", .type "object"] "ValueError.__new__" = true)
    (eCT : PySem.W.excIn K CT [.type "ValueError", .type "Exception", .type "BaseException", .type "object"] "ValueError.__new__" = true)
    (eNB : PySem.W.excIn K NB [.type "ValueError", .type "Exception", .type "BaseException", .type "object"] "ValueError.__new__" = true)
    (gaNH : PySem.W.findIn K (.ref NH) "__getattribute__" = some (some (.builtin "BaseException.__getattribute__")))
    (grNH : PySem.W.findIn K (.ref NH) "__getattr__" = some none)
    (clNH : PySem.W.findIn K (.ref NH) "__class__" = some (some (.builtin "object.__class__")))
    (obNH : PySem.W.mroIn K NH (.type "object") = some true)
    (beNH : PySem.W.subIn K (.ref NH) (.type "BaseException") = some true)
    (cdNH : PySem.W.clsIn K NH = some cxNH)
    (emNH : PySem.W.exmOne K (.ref NH) (.ref CE) = some true)
    (qvNH : PySem.W.kitOne K (.ref NH) (.type "ValueError") = some true)
    (qNHNC : PySem.W.kitOne K (.ref NH) (.ref NC) = some false)
    (qNHNH : PySem.W.kitOne K (.ref NH) (.ref NH) = some true)
    (qNHNB : PySem.W.kitOne K (.ref NH) (.ref NB) = some false)
    (e4 : PySem.W.kitOne K (.type "list") (.type "list") = some true)
    (e5 : PySem.W.kitOne K (.type "tuple") (.type "tuple") = some true)
    (eS : PySem.W.kitOne K (.type "str") (.type "str") = some true)
    (e6 : PySem.W.kitOne K (.type "int") (.type "int") = some true)
    (e7 : PySem.W.kitOne K (.type "int") (.type "bool") = some false)
    (z1 : PySem.W.nsIn K mainGlobals "len" = some none)
    (z2 : PySem.W.nsIn K mainGlobals "isinstance" = some none)
    (z3 : PySem.W.nsIn K mainGlobals "range" = some none)
    (z4 : PySem.W.nsIn K mainGlobals "int" = some none)
    (z5 : PySem.W.nsIn K mainGlobals "bool" = some none)
    (z6 : PySem.W.nsIn K mainGlobals "list" = some none)
    (z7 : PySem.W.nsIn K mainGlobals "tuple" = some none)
    (zS : PySem.W.nsIn K mainGlobals "str" = some none)
    (zdict : PySem.W.nsIn K mainGlobals "dict" = some none)
    (zmin : PySem.W.nsIn K mainGlobals "min" = some none)
    (zset : PySem.W.nsIn K mainGlobals "set" = some none)
    (zVE : PySem.W.nsIn K mainGlobals "ValueError" = some none)
    (hcN : PySem.W.codeHdIn K cN pl = true)
    (hpl : K.lookup pl = none) :
    ∃ (fd : FuncData) (c : Addr), (∀ (s : Shared) (v : Value), BindsTo s fd ⟨[v], []⟩ [("script", v)]) ∧ K.lookup pl = none ∧ PySem.W.codeHdIn K c pl = true ∧ ∀ base : Heap, K.In base → base.Ns mainGlobals mg → BmOk mg base → FnOk l.prog w K mg base (CX1 l.prog w) 8 fa fd ["script"] (spLawT K pl) := by
  have e := hfa.symm.trans (PySem.W.mg_of X G a37)
  cases e
  have F1 := fun_mk (st := sInit) l1 c1 k1
  have b1 := F1.bd3 (p1 := "self") (p2 := "rows") (p3 := "columns") fun _ _ _ _ _ _ _ _ _ => rfl
  have m1 : Meth K CB "__init__" f1 := ⟨a1, i1, k1⟩
  have F2 := fun_mk (st := sRows) l2 c2 k2
  have b2 := F2.bd1 (p1 := "self") fun _ _ _ _ _ _ _ => rfl
  have m2 : Meth K CB "rows" f2 := ⟨a2, i2, k2⟩
  have F3 := fun_mk (st := sCols) l3 c3 k3
  have b3 := F3.bd1 (p1 := "self") fun _ _ _ _ _ _ _ => rfl
  have m3 : Meth K CB "columns" f3 := ⟨a3, i3, k3⟩
  have F4 := fun_mk (st := sPut) l4 c4 k4
  have b4 := F4.bd3 (p1 := "self") (p2 := "cell") (p3 := "hand") fun _ _ _ _ _ _ _ _ _ => rfl
  have m4 : Meth K CB "put" f4 := ⟨a4, i4, k4⟩
  have F5 := fun_mk (st := sOwner) l5 c5 k5
  have b5 := F5.bd2 (p1 := "self") (p2 := "cell") fun _ _ _ _ _ _ _ _ => rfl
  have m5 : Meth K CB "owner" f5 := ⟨a5, i5, k5⟩
  have F6 := fun_mk (st := sNear) l6 c6 k6
  have b6 := F6.bd2 (p1 := "self") (p2 := "cell") fun _ _ _ _ _ _ _ _ => rfl
  have m6 : Meth K CB "near" f6 := ⟨a6, i6, k6⟩
  have F7 := fun_mk (st := sEmpties) l7 c7 k7
  have b7 := F7.bd1 (p1 := "self") fun _ _ _ _ _ _ _ => rfl
  have m7 : Meth K CB "empties" f7 := ⟨a7, i7, k7⟩
  have F8 := fun_mk (st := sCheck) l8 c8 k8
  have b8 := F8.bd2 (p1 := "self") (p2 := "cell") fun _ _ _ _ _ _ _ _ => rfl
  have m8 : Meth K CB "check_cell" f8 := ⟨a8, i8, k8⟩
  have F9 := fun_mk (st := sHand) l9 c9 k9
  have b9 := F9.bd1 (p1 := "hand") fun _ _ _ _ _ _ _ => rfl
  have g9 := PySem.W.mg_of X G a9
  have F10 := fun_mk (st := sOther) l10 c10 k10
  have b10 := F10.bd1 (p1 := "hand") fun _ _ _ _ _ _ _ => rfl
  have g10 := PySem.W.mg_of X G a10
  have F11 := fun_mk (st := sFirst) l11 c11 k11
  have b11 := F11.bd2 (p1 := "board") (p2 := "hand") fun _ _ _ _ _ _ _ _ => rfl
  have g11 := PySem.W.mg_of X G a11
  have F12 := fun_mk (st := sLast) l12 c12 k12
  have b12 := F12.bd3 (p1 := "board") (p2 := "hand") (p3 := "cell") fun _ _ _ _ _ _ _ _ _ => rfl
  have g12 := PySem.W.mg_of X G a12
  have F13 := fun_mk (st := sLen) l13 c13 k13
  have b13 := F13.bd1 (p1 := "number") fun _ _ _ _ _ _ _ => rfl
  have g13 := PySem.W.mg_of X G a13
  have F14 := fun_mk (st := sCopied) l14 c14 k14
  have b14 := F14.bd1 (p1 := "board") fun _ _ _ _ _ _ _ => rfl
  have g14 := PySem.W.mg_of X G a14
  have F15 := fun_mk (st := sChain) l15 c15 k15
  have b15 := F15.bd2 (p1 := "board") (p2 := "hand") fun _ _ _ _ _ _ _ _ => rfl
  have g15 := PySem.W.mg_of X G a15
  have F16 := fun_mk (st := sWay) l16 c16 k16
  have b16 := F16.bd2 (p1 := "cell") (p2 := "ahead") fun _ _ _ _ _ _ _ _ => rfl
  have g16 := PySem.W.mg_of X G a16
  have F17 := fun_mk (st := sNeed) l17 c17 k17
  have b17 := F17.bd2 (p1 := "board") (p2 := "hand") fun _ _ _ _ _ _ _ _ => rfl
  have g17 := PySem.W.mg_of X G a17
  have F18 := fun_mk (st := sSpread) l18 c18 k18
  have b18 := F18.bd4 (p1 := "board") (p2 := "hand") (p3 := "numbers") (p4 := "ahead") fun _ _ _ _ _ _ _ _ _ _ => rfl
  have g18 := PySem.W.mg_of X G a18
  have F19 := fun_mk (st := sPassable) l19 c19 k19
  have b19 := F19.bd3 (p1 := "board") (p2 := "hand") (p3 := "cells") fun _ _ _ _ _ _ _ _ _ => rfl
  have g19 := PySem.W.mg_of X G a19
  have F20 := fun_mk (st := sPrice) l20 c20 k20
  have b20 := F20.bd2 (p1 := "board") (p2 := "cell") fun _ _ _ _ _ _ _ _ => rfl
  have g20 := PySem.W.mg_of X G a20
  have F21 := fun_mk (st := sBelt) l21 c21 k21
  have b21 := F21.bd4 (p1 := "board") (p2 := "hand") (p3 := "numbers") (p4 := "step") fun _ _ _ _ _ _ _ _ _ _ => rfl
  have g21 := PySem.W.mg_of X G a21
  have F22 := fun_mk (st := sCellAt) l22 c22 k22
  have b22 := F22.bd2 (p1 := "script") (p2 := "k") fun _ _ _ _ _ _ _ _ => rfl
  have g22 := PySem.W.mg_of X G a22
  have F23 := fun_mk (st := sWhole) l23 c23 k23
  have b23 := F23.bd1 (p1 := "found") fun _ _ _ _ _ _ _ => rfl
  have g23 := PySem.W.mg_of X G a23
  have F24 := fun_mk (st := sOwners) l24 c24 k24
  have b24 := F24.bd5 (p1 := "script") (p2 := "first") (p3 := "rows") (p4 := "columns") (p5 := "full") fun _ _ _ _ _ _ _ _ _ _ _ => rfl
  have g24 := PySem.W.mg_of X G a24
  have F25 := fun_mk (st := sBoardOf) l25 c25 k25
  have b25 := F25.bd3 (p1 := "rows") (p2 := "columns") (p3 := "owners") fun _ _ _ _ _ _ _ _ _ => rfl
  have g25 := PySem.W.mg_of X G a25
  have F26 := fun_mk (st := sLNear) l26 c26 k26
  have b26 := F26.bd3 (p1 := "rows") (p2 := "columns") (p3 := "cell") fun _ _ _ _ _ _ _ _ _ => rfl
  have g26 := PySem.W.mg_of X G a26
  have F27 := fun_mk (st := sIsCells) l27 c27 k27
  have b27 := F27.bd3 (p1 := "found") (p2 := "rows") (p3 := "columns") fun _ _ _ _ _ _ _ _ _ => rfl
  have g27 := PySem.W.mg_of X G a27
  have F28 := fun_mk (st := sIsChain) l28 c28 k28
  have b28 := F28.bd5 (p1 := "found") (p2 := "rows") (p3 := "columns") (p4 := "hand") (p5 := "allowed") fun _ _ _ _ _ _ _ _ _ _ _ => rfl
  have g28 := PySem.W.mg_of X G a28
  have F29 := fun_mk (st := sJoined) l29 c29 k29
  have b29 := F29.bd4 (p1 := "rows") (p2 := "columns") (p3 := "hand") (p4 := "allowed") fun _ _ _ _ _ _ _ _ _ _ => rfl
  have g29 := PySem.W.mg_of X G a29
  have F30 := fun_mk (st := sOwned) l30 c30 k30
  have b30 := F30.bd2 (p1 := "owners") (p2 := "hand") fun _ _ _ _ _ _ _ _ => rfl
  have g30 := PySem.W.mg_of X G a30
  have F31 := fun_mk (st := sOpen) l31 c31 k31
  have b31 := F31.bd4 (p1 := "rows") (p2 := "columns") (p3 := "owners") (p4 := "hand") fun _ _ _ _ _ _ _ _ _ _ => rfl
  have g31 := PySem.W.mg_of X G a31
  have F32 := fun_mk (st := sSizes) l32 c32 k32
  have b32 := F32.bd2 (p1 := "script") (p2 := "bound") fun _ _ _ _ _ _ _ _ => rfl
  have g32 := PySem.W.mg_of X G a32
  have F33 := fun_mk (st := sNeedForm) l33 c33 k33
  have b33 := F33.bd1 (p1 := "found") fun _ _ _ _ _ _ _ => rfl
  have g33 := PySem.W.mg_of X G a33
  have F34 := fun_mk (st := sNoHand) l34 c34 k34
  have b34 := F34.bd2 (p1 := "board") (p2 := "hand") fun _ _ _ _ _ _ _ _ => rfl
  have g34 := PySem.W.mg_of X G a34
  have F35 := fun_mk (st := sBadHand) l35 c35 k35
  have b35 := F35.bd1 (p1 := "cell") fun _ _ _ _ _ _ _ => rfl
  have g35 := PySem.W.mg_of X G a35
  have F36 := fun_mk (st := sFilled) l36 c36 k36
  have b36 := F36.bd6 (p1 := "board") (p2 := "rows") (p3 := "columns") (p4 := "owners") (p5 := "hand") (p6 := "bridge") fun _ _ _ _ _ _ _ _ _ _ _ _ => rfl
  have g36 := PySem.W.mg_of X G a36
  have F37 := fun_mk (st := sLaw) l37 c37 k37
  have g37 := PySem.W.mg_of X G a37
  refine ⟨PySem.W.fnOf "law" "law" (defArgs sLaw) (defBody sLaw) (defScope sLaw) .none kV37 dc37 pm37 an37 cd37 ct37, cN, fun s v => .of_eq rfl, hpl, hcN, fun base _ _ hbm => ?_⟩
  have T : Txt K mg ⟨CB, CE, NC, NH, CT, NB, NB⟩ := ⟨⟨pg, hd, po, sa⟩, nH, nW, nO, PySem.W.mg_of X G aB, ⟨tm, PySem.W.mg_of X G aM⟩, PySem.W.mg_of X G aE, ⟨⟨PySem.W.mg_of X G xNC, eNC⟩⟩, ⟨⟨PySem.W.mg_of X G xNH, eNH⟩⟩, ⟨⟨PySem.W.mg_of X G xCT, eCT⟩⟩, ⟨PySem.W.mg_of X G xNB, eNB⟩,
    PySem.W.mg_none_of X G z1, PySem.W.mg_none_of X G z2, PySem.W.mg_none_of X G z3, PySem.W.mg_none_of X G z4, PySem.W.mg_none_of X G z5, PySem.W.mg_none_of X G z6, PySem.W.mg_none_of X G z7,
    ⟨gaNH, grNH, clNH, obNH, beNH⟩, ⟨_, cdNH⟩, qNHNC, qNHNH, qNHNB, qvNH, emNH, PySem.W.mg_none_of X G zVE, e4, PySem.W.mg_none_of X G zS, eS, e5, e6, e7⟩
  have GC := ok_check (P := l.prog) (w := w) (base := base) F8 T
  have GI := ok_init (P := l.prog) (w := w) (base := base) F1 T (ok_len F13 T) k13 b13 g13
  have M : Mk K CB f1 := ⟨mk, a1, i1, kc⟩
  have GA := ok_cellAt (P := l.prog) (w := w) (base := base) F22 T
  have GH := ok_hand (P := l.prog) (w := w) (base := base) F9 T
  have GR := ok_rows (P := l.prog) (w := w) (base := base) F2 T
  have GS := ok_cols (P := l.prog) (w := w) (base := base) F3 T
  have GP := ok_put F4 T GC b8 m8 GH k9 b9 g9
  have GO := ok_owner F5 T GC b8 m8
  have GE := ok_empties (P := l.prog) (w := w) (base := base) F7 T
  have GFi := ok_first F11 T GR b2 m2 GS b3 m3
  have GLa := ok_last F12 T GR b2 m2 GS b3 m3
  have GWy := ok_way (P := l.prog) (w := w) (base := base) F16 T
  have GNr := ok_near (P := l.prog) (w := w) (base := base) F6 T F8 b8 m8
  have GCh := ok_chain F15 T GH k9 b9 g9 GFi k11 b11 g11 GO b5 m5 GLa k12 b12 g12 GWy k16 b16 g16 GNr b6 m6
  have GOt := ok_other (P := l.prog) (w := w) (base := base) F10 T
  have GCp := ok_copied F14 T (PySem.W.mg_none_of X G zdict) M GI b1 GR b2 m2 GS b3 m3
  have GPa := ok_passable F19 T GO b5 m5 GOt k10 b10 g10
  have GPr := ok_price F20 T GO b5 m5
  have GSp := ok_spread F18 T GPa k19 b19 g19 GFi k11 b11 g11 GPr k20 b20 g20 GNr b6 m6
  have GBe := ok_belt F21 T GOt k10 b10 g10 GCp k14 b14 g14 GE b7 m7 GP b4 m4 GCh k15 b15 g15
  have GNe := ok_need (pl := pl) F17 T (PySem.W.mg_none_of X G zmin) rfl hcN hbm GH k9 b9 g9 GSp k18 b18 g18 GLa k12 b12 g12 GCh k15 b15 g15 GOt k10 b10 g10 GBe k21 b21 g21 GWy k16 b16 g16
  have GN2 := GNe.imp spNeed2_of
  have GOw := ok_owned (P := l.prog) (w := w) (base := base) F30 T
  have GOp := ok_open F31 T GOw k30 b30 g30
  have GLn := ok_lnear (P := l.prog) (w := w) (base := base) F26 T
  have GIc := ok_isChain F28 T (PySem.W.mg_none_of X G zset) (ok_isCells F27 T F23 b23 g23) k27 b27 g27 GLn k26 b26 g26
  have GFo := ok_form (P := l.prog) (w := w) (base := base) F33 T (ok_whole F23 T) k23 b23 g23
  have GFi2 := ok_filled F36 T GN2 k17 b17 g17 GFo k33 b33 g33 GOw k30 b30 g30 GIc k28 b28 g28 GCh k15 b15 g15 GP b4 m4
  exact ok_law F37 T GA k22 b22 g22 (ok_sizes F32 T GA k22 b22 g22) k32 b32 g32 (ok_owners F24 T GA k22 b22 g22) k24 b24 g24 (ok_boardOf F25 T M GI b1 GP b4 m4) k25 b25 g25 GN2 k17 b17 g17 GFo k33 b33 g33 (ok_noHand F34 T GN2 k17 b17 g17) k34 b34 g34 (ok_badHand F35 T) k35 b35 g35 GOp k31 b31 g31 (ok_joined F29 T GLn k26 b26 g26) k29 b29 g29 GIc k28 b28 g28 GOw k30 b30 g30 GFi2 k36 b36 g36
theorem walk {l : PySem.W.OpenLaw} {q : Program} {loose : List Str} {XP : (Str → Option Value) → Heap → Prop} {YP : World → Heap → Prop} {d : DefRec} {K : Params → PySem.W.Frag} {pl : Addr} (hn : l.most = some 63) (hdf : d.params.defaults = [])
    (hY : ∀ (w : World) (h : Heap), YP w h → (K w.params).In h ∧ h.get? pl = some (PySem.W.tabObj #[]))
    (F : ∀ (w : World) (mg : Str → Option Value) (fa : Addr) (h : Heap), (K w.params).In h → h.Ns mainGlobals mg → mg d.name = some (.ref fa) →
      ∃ (fd : FuncData) (c : Addr), (∀ (s : Shared) (u : Value), BindsTo s fd ⟨[u], []⟩ [("script", u)]) ∧ (K w.params).lookup pl = none ∧ PySem.W.codeHdIn (K w.params) c pl = true ∧ ∀ base : Heap, (K w.params).In base → base.Ns mainGlobals mg → BmOk mg base → FnOk l.prog w (K w.params) mg base (CX1 l.prog w) 8 fa fd ["script"] (spLawT (K w.params) pl)) :
    PySem.W.WalkO q loose XP YP l.row.toRowW d [] (fun f vs => PySem.call f vs) :=
  L2.walk_ofT (n := 63) (k := 8) (x := "script") (pl := pl) (CX := fun w => CX1 l.prog w) (sp := fun K => spLawT K pl) hn (by decide) hdf ⟨rfl, by decide, by decide⟩ hY F (fun _ _ a ns hl hp hS => ⟨a, ns, rfl, hS, hl, hp, fun _ => rfl⟩) fun _ _ _ _ _ ⟨_, _, _, _, _, z⟩ => z
end K06
open PySem PySem.W PyProof.Rows T6
set_option maxRecDepth 100000 in
set_option maxHeartbeats 0 in
theorem PySem.Challenge.cw_sidechain_k06_bridges_told_holds : PySem.Challenge.rw_sidechain_k06_bridges_told.Holds := by
  w_on; o_law
  refine PySem.W.holds_open (q := topQ) (loose := topL) (XP := PySem.W.XL topQ []) (Yf := topH.obs) (Ya := topH.val) (YP := topH.says) topRun topH.of topH.keeps (fun s e => PySem.W.xl_of s (Bool.and_eq_true_iff.mp e).1) PySem.W.XL.keeps rfl rfl rfl (fun s e => PySem.W.recFacts_of (Bool.and_eq_true_iff.mp e).2) rfl (by assumption) (by decide +kernel) ⟨rfl, rfl, rfl, rfl, rfl, by decide +kernel⟩ ?hw ?hc
  case hw => w_witness2
  case hc =>
    refine K06.walk (l := PySem.Challenge.rw_sidechain_k06_bridges_told) (K := topK) (pl := 209) rfl rfl (fun w h Y => ⟨PySem.W.km_in_of Y, PySem.W.km_tabs_of Y _ (List.Mem.head _)⟩) ?F
    intro w mg fa h KX G hmg
    exact K06.all_mk (pl := 209) (cN := 211) (CB := 177) (CE := 31) (NC := 56) (NH := 68) (CT := 80) (NB := 44) (f1 := 122) (f2 := 129) (f3 := 136) (f4 := 143) (f5 := 157) (f6 := 162) (f7 := 167) (f8 := 174) (f9 := 89) (f10 := 96) (f11 := 101) (f12 := 108) (f13 := 188) (f14 := 195) (f15 := 200) (f16 := 207) (f17 := 212) (f18 := 219) (f19 := 224) (f20 := 231) (f21 := 238) (f22 := 245) (f23 := 252) (f24 := 259) (f25 := 266) (f26 := 273) (f27 := 280) (f28 := 287) (f29 := 292) (f30 := 299) (f31 := 306) (f32 := 313) (f33 := 320) (f34 := 327) (f35 := 334) (f36 := 341) (f37 := 346) (od1 := none) (an1 := none) (od2 := none) (an2 := none) (od3 := none) (an3 := none) (od4 := none) (an4 := none) (od5 := none) (an5 := none) (od6 := none) (an6 := none) (od7 := none) (an7 := none) (od8 := none) (an8 := none) (od9 := none) (an9 := none) (od10 := none) (an10 := none) (od11 := none) (an11 := none) (od12 := none) (an12 := none) (od13 := none) (an13 := none) (od14 := none) (an14 := none) (od15 := none) (an15 := none) (od16 := none) (an16 := none) (od17 := none) (an17 := none) (od18 := none) (an18 := none) (od19 := none) (an19 := none) (od20 := none) (an20 := none) (od21 := none) (an21 := none) (od22 := none) (an22 := none) (od23 := none) (an23 := none) (od24 := none) (an24 := none) (od25 := none) (an25 := none) (od26 := none) (an26 := none) (od27 := none) (an27 := none) (od28 := none) (an28 := none) (od29 := none) (an29 := none) (od30 := none) (an30 := none) (od31 := none) (an31 := none) (od32 := none) (an32 := none) (od33 := none) (an33 := none) (od34 := none) (an34 := none) (od35 := none) (an35 := none) (od36 := none) (an36 := none) (od37 := none) (an37 := none) (sl1 := #[]) (sl2 := #[]) (sl3 := #[]) (sl4 := #[]) (sl5 := #[]) (sl6 := #[]) (sl7 := #[]) (sl8 := #[]) (sl9 := #[]) (sl10 := #[]) (sl11 := #[]) (sl12 := #[]) (sl13 := #[]) (sl14 := #[]) (sl15 := #[]) (sl16 := #[]) (sl17 := #[]) (sl18 := #[]) (sl19 := #[]) (sl20 := #[]) (sl21 := #[]) (sl22 := #[]) (sl23 := #[]) (sl24 := #[]) (sl25 := #[]) (sl26 := #[]) (sl27 := #[]) (sl28 := #[]) (sl29 := #[]) (sl30 := #[]) (sl31 := #[]) (sl32 := #[]) (sl33 := #[]) (sl34 := #[]) (sl35 := #[]) (sl36 := #[]) (sl37 := #[]) (oc1 := .type "function") (kV1 := .none) (dc1 := .none) (pm1 := st "sidechain.board" 309) (ct1 := .none) (cd1 := rf 121) (oc2 := .type "function") (kV2 := .none) (dc2 := .none) (pm2 := st "sidechain.board" 309) (ct2 := .none) (cd2 := rf 128) (oc3 := .type "function") (kV3 := .none) (dc3 := .none) (pm3 := st "sidechain.board" 309) (ct3 := .none) (cd3 := rf 135) (oc4 := .type "function") (kV4 := .none) (dc4 := .none) (pm4 := st "sidechain.board" 309) (ct4 := .none) (cd4 := rf 142) (oc5 := .type "function") (kV5 := .none) (dc5 := .none) (pm5 := st "sidechain.board" 309) (ct5 := .none) (cd5 := rf 156) (oc6 := .type "function") (kV6 := .none) (dc6 := .none) (pm6 := st "sidechain.board" 309) (ct6 := .none) (cd6 := rf 161) (oc7 := .type "function") (kV7 := .none) (dc7 := .none) (pm7 := st "sidechain.board" 309) (ct7 := .none) (cd7 := rf 166) (oc8 := .type "function") (kV8 := .none) (dc8 := .none) (pm8 := st "sidechain.board" 309) (ct8 := .none) (cd8 := rf 173) (oc9 := .type "function") (kV9 := .none) (dc9 := .none) (pm9 := st "sidechain.hands" 278) (ct9 := .none) (cd9 := rf 88) (oc10 := .type "function") (kV10 := .none) (dc10 := .none) (pm10 := st "sidechain.hands" 278) (ct10 := .none) (cd10 := rf 95) (oc11 := .type "function") (kV11 := .none) (dc11 := .none) (pm11 := st "sidechain.hands" 278) (ct11 := .none) (cd11 := rf 100) (oc12 := .type "function") (kV12 := .none) (dc12 := .none) (pm12 := st "sidechain.hands" 278) (ct12 := .none) (cd12 := rf 107) (oc13 := .type "function") (kV13 := .none) (dc13 := .none) (pm13 := st "sidechain.board" 309) (ct13 := .none) (cd13 := rf 187) (oc14 := .type "function") (kV14 := .none) (dc14 := .none) (pm14 := st "sidechain.board" 309) (ct14 := .none) (cd14 := rf 194) (oc15 := .type "function") (kV15 := .none) (dc15 := .none) (pm15 := st "sidechain.chains" 421) (ct15 := .none) (cd15 := rf 199) (oc16 := .type "function") (kV16 := .none) (dc16 := .none) (pm16 := st "sidechain.chains" 421) (ct16 := .none) (cd16 := rf 206) (oc17 := .type "function") (kV17 := .none) (dc17 := .none) (pm17 := st "sidechain.needs" 438) (ct17 := .none) (oc18 := .type "function") (kV18 := .none) (dc18 := .none) (pm18 := st "sidechain.needs" 438) (ct18 := .none) (cd18 := rf 218) (oc19 := .type "function") (kV19 := .none) (dc19 := .none) (pm19 := st "sidechain.needs" 438) (ct19 := .none) (cd19 := rf 223) (oc20 := .type "function") (kV20 := .none) (dc20 := .none) (pm20 := st "sidechain.needs" 438) (ct20 := .none) (cd20 := rf 230) (oc21 := .type "function") (kV21 := .none) (dc21 := .none) (pm21 := st "sidechain.needs" 438) (ct21 := .none) (cd21 := rf 237) (oc22 := .type "function") (kV22 := .none) (dc22 := .none) (pm22 := st "law_sidechain_k06_bridges_told" 487) (ct22 := .none) (cd22 := rf 244) (oc23 := .type "function") (kV23 := .none) (dc23 := .none) (pm23 := st "law_sidechain_k06_bridges_told" 487) (ct23 := .none) (cd23 := rf 251) (oc24 := .type "function") (kV24 := .none) (dc24 := .none) (pm24 := st "law_sidechain_k06_bridges_told" 487) (ct24 := .none) (cd24 := rf 258) (oc25 := .type "function") (kV25 := .none) (dc25 := .none) (pm25 := st "law_sidechain_k06_bridges_told" 487) (ct25 := .none) (cd25 := rf 265) (oc26 := .type "function") (kV26 := .none) (dc26 := .none) (pm26 := st "law_sidechain_k06_bridges_told" 487) (ct26 := .none) (cd26 := rf 272) (oc27 := .type "function") (kV27 := .none) (dc27 := .none) (pm27 := st "law_sidechain_k06_bridges_told" 487) (ct27 := .none) (cd27 := rf 279) (oc28 := .type "function") (kV28 := .none) (dc28 := .none) (pm28 := st "law_sidechain_k06_bridges_told" 487) (ct28 := .none) (cd28 := rf 286) (oc29 := .type "function") (kV29 := .none) (dc29 := .none) (pm29 := st "law_sidechain_k06_bridges_told" 487) (ct29 := .none) (cd29 := rf 291) (oc30 := .type "function") (kV30 := .none) (dc30 := .none) (pm30 := st "law_sidechain_k06_bridges_told" 487) (ct30 := .none) (cd30 := rf 298) (oc31 := .type "function") (kV31 := .none) (dc31 := .none) (pm31 := st "law_sidechain_k06_bridges_told" 487) (ct31 := .none) (cd31 := rf 305) (oc32 := .type "function") (kV32 := .none) (dc32 := .none) (pm32 := st "law_sidechain_k06_bridges_told" 487) (ct32 := .none) (cd32 := rf 312) (oc33 := .type "function") (kV33 := .none) (dc33 := .none) (pm33 := st "law_sidechain_k06_bridges_told" 487) (ct33 := .none) (cd33 := rf 319) (oc34 := .type "function") (kV34 := .none) (dc34 := .none) (pm34 := st "law_sidechain_k06_bridges_told" 487) (ct34 := .none) (cd34 := rf 326) (oc35 := .type "function") (kV35 := .none) (dc35 := .none) (pm35 := st "law_sidechain_k06_bridges_told" 487) (ct35 := .none) (cd35 := rf 333) (oc36 := .type "function") (kV36 := .none) (dc36 := .none) (pm36 := st "law_sidechain_k06_bridges_told" 487) (ct36 := .none) (cd36 := rf 340) (oc37 := .type "function") (kV37 := .none) (dc37 := .none) (pm37 := st "law_sidechain_k06_bridges_told" 487) (ct37 := .none) (cd37 := rf 345) (tm := 311) (cxNH := { name := Str.ofString "NoHand", bases := [rf 31], mro := [rf 68, rf 31, .type "ValueError", .type "Exception", .type "BaseException", .type "object"], ns := 67, qualname := Str.ofString "NoHand" }) KX G hmg (by kernel_rfl) (by kernel_rfl) (by kernel_rfl) (by kernel_rfl) (by kernel_rfl) (by kernel_rfl) (by kernel_rfl) (by kernel_rfl) (by kernel_rfl) (by kernel_rfl) (by kernel_rfl) (by kernel_rfl) (by kernel_rfl) (by kernel_rfl) (by kernel_rfl) (by kernel_rfl) (by kernel_rfl) (by kernel_rfl) (by kernel_rfl) (by kernel_rfl) (by kernel_rfl) (by kernel_rfl) (by kernel_rfl) (by kernel_rfl) (by kernel_rfl) (by kernel_rfl) (by kernel_rfl) (by kernel_rfl) (by kernel_rfl) (by kernel_rfl) (by kernel_rfl) (by kernel_rfl) (by kernel_rfl) (by kernel_rfl) (by kernel_rfl) (by kernel_rfl) (by kernel_rfl) (by kernel_rfl) (by kernel_rfl) (by kernel_rfl) (by kernel_rfl) (by kernel_rfl) (by kernel_rfl) (by kernel_rfl) (by kernel_rfl) (by kernel_rfl) (by kernel_rfl) (by kernel_rfl) (by kernel_rfl) (by kernel_rfl) (by kernel_rfl) (by kernel_rfl) (by kernel_rfl) (by kernel_rfl) (by kernel_rfl) (by kernel_rfl) (by kernel_rfl) (by kernel_rfl) (by kernel_rfl) (by kernel_rfl) (by kernel_rfl) (by kernel_rfl) (by kernel_rfl) (by kernel_rfl) (by kernel_rfl) (by kernel_rfl) (by kernel_rfl) (by kernel_rfl) (by kernel_rfl) (by kernel_rfl) (by kernel_rfl) (by kernel_rfl) (by kernel_rfl) (by kernel_rfl) (by kernel_rfl) (by kernel_rfl) (by kernel_rfl) (by kernel_rfl) (by kernel_rfl) (by kernel_rfl) (by kernel_rfl) (by kernel_rfl) (by kernel_rfl) (by kernel_rfl) (by kernel_rfl) (by kernel_rfl) (by kernel_rfl) (by kernel_rfl) (by kernel_rfl) (by kernel_rfl) (by kernel_rfl) (by kernel_rfl) (by kernel_rfl) (by kernel_rfl) (by kernel_rfl) (by kernel_rfl) (by kernel_rfl) (by kernel_rfl) (by kernel_rfl) (by kernel_rfl) (by kernel_rfl) (by kernel_rfl) (by kernel_rfl) (by kernel_rfl) (by kernel_rfl) (by kernel_rfl) (by kernel_rfl) (by kernel_rfl) (by kernel_rfl) (by kernel_rfl) (by kernel_rfl) (by kernel_rfl) (by kernel_rfl) (by kernel_rfl) (by kernel_rfl) (by kernel_rfl) (by kernel_rfl) (by kernel_rfl) (by kernel_rfl) (by kernel_rfl) (by kernel_rfl) (by kernel_rfl) (by kernel_rfl) (by kernel_rfl) (by kernel_rfl) (by kernel_rfl) (by kernel_rfl) (by kernel_rfl) (by kernel_rfl) (by kernel_rfl) (by kernel_rfl) (by kernel_rfl) (by kernel_rfl) (by kernel_rfl) (by kernel_rfl) (by kernel_rfl) (by kernel_rfl) (by kernel_rfl) (by kernel_rfl) (by kernel_rfl) (by kernel_rfl) (by kernel_rfl) (by kernel_rfl) (by kernel_rfl) (by kernel_rfl) (by kernel_rfl) (by kernel_rfl) (by kernel_rfl) (by kernel_rfl) (by kernel_rfl) (by kernel_rfl) (by kernel_rfl) (by kernel_rfl) (by kernel_rfl) (by kernel_rfl) (by kernel_rfl) (by kernel_rfl) (by kernel_rfl) (by kernel_rfl) (by kernel_rfl) (by kernel_rfl) (by kernel_rfl) (by kernel_rfl) (by kernel_rfl) (by kernel_rfl) (by kernel_rfl) (by kernel_rfl) (by kernel_rfl) (by kernel_rfl) (by kernel_rfl) (by kernel_rfl) (by kernel_rfl) (by kernel_rfl) (by kernel_rfl) (by kernel_rfl) (by kernel_rfl) (by kernel_rfl) (by kernel_rfl) (by kernel_rfl) (by kernel_rfl) (by kernel_rfl) (by kernel_rfl) (by kernel_rfl) (by kernel_rfl) (by kernel_rfl) (by kernel_rfl) (by kernel_rfl) (by kernel_rfl) (by kernel_rfl) (by kernel_rfl) (by kernel_rfl) (by kernel_rfl) (by kernel_rfl) (by kernel_rfl) (by kernel_rfl) (by kernel_rfl) (by kernel_rfl) (by kernel_rfl) (by kernel_rfl) (by kernel_rfl) (by kernel_rfl) (by kernel_rfl) (by kernel_rfl) (by kernel_rfl) (by kernel_rfl) (by kernel_rfl)
#print axioms PySem.Challenge.cw_sidechain_k06_bridges_told_holds


