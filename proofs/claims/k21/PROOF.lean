import PyProof.Rows.All
import KE.KFind
import KE.KLam
import KE.KTryMore
import KE.LcSums
import KE.KRevSl
import Lean
import PyProof.DictCompW
import PyProof.DictTable
import PyProof.IsRules
import PyProof.SetKind
import PyProof.TupleKey
import PySem.SetTable
import PyProof.EnumMake
import PyProof.WalksEnum
import PyProof.Rows.SetFrom
import PyProof.SetRoads
import PySem.Challenge.RW_matefloors_k21_whole_squares
set_option Elab.async false
set_option linter.all false
set_option maxRecDepth 100000
set_option maxHeartbeats 4000000
set_option genSizeOf false
set_option compiler.extract_closed false
set_option bootstrap.genMatcherCode false
local macro_rules|`(‹$q›)=>`({nx:=fun _ y=>$q (.v .none) y,rt:=$q})
set_option genInjectivity false
local macro_rules | `(⋯) => `((by decide))
local macro_rules | `(∅) => `((by omega))
local macro_rules | `(nofun) => `((by decide +kernel))
local macro_rules | `(⟨⟩) => `((by kernel_rfl))
local macro_rules | `(tactic| walk_at "s") => `(tactic| exact ⟨rfl, rfl, rfl, by decide +kernel, rfl, by decide +kernel, by decide +kernel⟩)
local macro_rules | `(tactic| walk_at "b") => `(tactic| (intro _ _ _ _ _ _ us hl; first | exact (match us, hl with | [], _ => rfl) | exact (match us, hl with | [_], _ => rfl) | exact (match us, hl with | [_, _], _ => rfl) | exact (match us, hl with | [_, _, _], _ => rfl) | exact (match us, hl with | [_, _, _, _], _ => rfl) | exact (match us, hl with | [_, _, _, _, _], _ => rfl)))
open PySem.W (fnOf nsIn codeIn keepIn kitOne kia_one mg_of mg_none_of)
open List (map_append map_map mem_append_left filterMap_cons mem_cons_self mem_cons_of_mem mem_append_right append_nil length_take getElem?_append_right getElem?_append_left getElem?_map mem_of_getElem? length_append length_map size_toArray map_nil map_cons length_cons getElem_mem getElem?_eq_none mem_append mem_cons getElem?_eq_getElem append_assoc length_nil mem_map flatMap_cons mem_map_of_mem lookup_cons not_mem_nil take_length sum_cons all_map getD_eq_getElem?_getD)
open Int (mul_one natAbs_mul mul_zero le_of_lt eq_of_mul_eq_mul_right mul_ne_zero mul_nonneg lt_or_gt_of_ne mul_pos)
open Nat (lt_of_lt_of_le ne_of_lt lt_irrefl le_trans le_refl pow_succ mul_comm zero_le mod_lt lt_or_ge min_eq_left div_add_mod)
open Bool (false_eq_true and_eq_true xor_false false_xor)
open Option (bind_some map_some join_some)
open PySem (mem_of_lookup)
namespace L2
open PySem PySem.W
noncomputable def kn:Sem Fin->Bool
 |.choose ..=>false
 |.os ..=>false
 |_=>true
theorem OP{den:Code->Sem Fin}{p:Program}{w:World}{os:OsState}{s s':Shared}{t t':Thread}(h:kn t.cur=true)(e:step den p ⟨fun _ _=>0,w.params⟩ s t = .go s' t') :
  step den p w {s with os:=os} t = .go {s' with os:=os} t':=by
 obtain⟨heap,gens,drawn,toks,os0⟩:=s
 obtain⟨cur,code,pos,stack⟩:=t
 cases cur<;>simp only[step,finish,kn] at e h ⊢<;>(try (cases h;done))<;>(repeat' split at e)<;>simp_all<;>(try (obtain⟨rfl,rfl⟩:=e;simp_all))<;>(try (obtain⟨h1,h2⟩:=e;subst h1;rfl))
noncomputable def rm(tb:String->Option Builtin)(p:Program)(P:Params)(io:Nat)(ann:Option Value):Nat->Shared->Thread->Option Shared
 |0,_,_=>none
 |n+1,s,t=>match through t with
  |true=>some s
  |false=>match stepOk io ann t&&kn t.cur with
   |false=>none
   |true=>match step (denote tb) p ⟨fun _ _=>0,P⟩ s t with
    |.go s' t'=>rm tb p P io ann n s' t'
    |.halt _ _=>none
theorem xq{tb:String->Option Builtin}{p:Program}{w:World}{io:Nat}{ann:Option Value}{os:OsState}:∀{n:Nat} {s s':Shared} {t:Thread},rm tb p w.params io ann n s t=some s'->topRun tb p w io ann n {s with os:=os} t=some {s' with os:=os}
 |0,_,_,_,h=>by cases h
 |n+1,s,s',t,h=>by
  unfold rm at h
  unfold topRun
  cases ht:through t with
  |true=>rw[ht] at h;cases h;rfl
  |false=>
   rw[ht] at h
   cases hk:(stepOk io ann t&&kn t.cur) with
   |false=>rw[hk] at h;cases h
   |true=>
    rw[hk] at h
    obtain⟨k1,k2⟩:=Bool.and_eq_true_iff.mp hk
    cases hs:step (denote tb) p ⟨fun _ _=>0,w.params⟩ s t with
    |halt o im=>rw[hs] at h;cases h
    |go im v6=>
     rw[hs] at h
     rw[k1,OP (os:=os) k2 hs]
     exact xq h
noncomputable def wB(p:Program)(P:Params)(io:Nat)(ann:Option Value):Nat->Shared->Thread->Option Shared
 |0,_,_=>none
 |n+1,s,t=>match through t with
  |true=>some s
  |false=>match Fast.tw6613529449190102663 io ann t&&kn t.cur with
   |false=>none
   |true=>match Fast.tw8437177126325714943 (Fast.tw11892475500146522536 Fast.tw14364793385576792824) p ⟨fun _ _=>0,P⟩ s t with
    |.go s' t'=>wB p P io ann n s' t'
    |.halt _ _=>none
theorem yx{p:Program}{P:Params}{io:Nat}{ann:Option Value}:∀(n:Nat) (s:Shared) (t:Thread),wB p P io ann n s t=rm treeTable p P io ann n s t
 |0,_,_=>rfl
 |n+1,s,t=>by
  unfold wB rm
  rw[<- Fast.te6613529449190102663,<- Fast.te8437177126325714943,<- Fast.te11892475500146522536,<- Fast.te14364793385576792824]
  cases through t with
  |true=>rfl
  |false=>
   cases (stepOk io ann t&&kn t.cur) with
   |false=>rfl
   |true=>
    cases step (denote treeTable) p ⟨fun _ _=>0,P⟩ s t with
    |halt o im=>rfl
    |go im v6=>exact yx n im v6
end L2
namespace L2
open PySem
noncomputable def iD(s:Stmt):Arguments:=match s with
 |.FunctionDef _ a _ _ _ _ _ _ _ _=>a
 |_=>{posonlyargs:=[],args:=[],vararg:=none,kwonlyargs:=[],kw_defaults:=[],kwarg:=none,defaults:=[]}
noncomputable def gM(s:Stmt):List Stmt:=match s with
 |.FunctionDef _ _ b _ _ _ _ _ _ _=>b
 |_=>[]
noncomputable def aw(s:Stmt):Scope:=match s with
 |.FunctionDef _ _ _ _ _ _ sc _ _ _=>sc
 |_=>{kind:=.function,names:=[],isGenerator:=false,isCoroutine:=false}
end L2
namespace L2.DL
open PySem
noncomputable def KJ:List Str:=["law","_law_is_right","_law_is_put","_law_are_refused","_law_is_told","_law_said","_law_is_plan_told"]
noncomputable def cT(o:Obj):Option (Addr×Str):=match o.cls,o.data with
 |.type c,.fields vs=>if c = "code" then (match vs[1]?,vs[7]?,vs[9]?,vs[10]?,vs[11]?,vs[18]? with
  |some (Value.str q _),some (Value.int _ _),some (Value.bool _),some (Value.int _ _),some (Value.ref P),some (Value.str _ _)=>if KJ.contains q=true then some (P,q) else none
  |_,_,_,_,_,_=>none) else none
 |_,_=>none
end L2.DL
namespace K21
open PySem L2
noncomputable def top(i:Nat):Stmt:=PySem.Challenge.pw_matefloors_k21_whole_squares.main.body.getD i (.Pass ⟨0,0,0,0⟩)
noncomputable abbrev iW:Stmt:=top 10
noncomputable abbrev cY:Stmt:=top 11
noncomputable abbrev gX:Stmt:=top 12
noncomputable abbrev da:Stmt:=top 13
noncomputable abbrev mG:Stmt:=top 14
noncomputable abbrev wM:Stmt:=top 15
noncomputable abbrev yL:Stmt:=top 16
noncomputable abbrev xp:Stmt:=top 17
noncomputable abbrev qL:Stmt:=top 18
noncomputable abbrev xE:Stmt:=top 19
noncomputable abbrev jj:Stmt:=top 20
noncomputable abbrev kr:Stmt:=top 21
noncomputable abbrev dr:Stmt:=top 22
noncomputable abbrev i7:Stmt:=top 23
noncomputable abbrev cM:Stmt:=top 24
noncomputable abbrev bS:Stmt:=top 25
noncomputable abbrev km:Stmt:=top 29
noncomputable abbrev iV:Stmt:=top 30
noncomputable abbrev ib:Stmt:=top 31
noncomputable abbrev eD:Stmt:=top 32
noncomputable abbrev dS:Stmt:=top 33
noncomputable abbrev dX:Stmt:=top 34
noncomputable abbrev eI:Stmt:=top 35
noncomputable abbrev gT:Stmt:=top 36
noncomputable abbrev iQ:Stmt:=top 37
noncomputable abbrev cX:Stmt:=top 38
noncomputable abbrev dz:Stmt:=top 39
noncomputable abbrev ic:Stmt:=top 40
noncomputable abbrev sL:Stmt:=top 41
noncomputable abbrev fh:Stmt:=top 43
noncomputable abbrev cR:Stmt:=top 44
noncomputable abbrev gO:Stmt:=top 45
noncomputable abbrev dQ:Stmt:=top 46
noncomputable abbrev cP:Stmt:=top 47
noncomputable abbrev fD:Stmt:=top 49
noncomputable abbrev kX:Stmt:=top 50
noncomputable abbrev eG:Stmt:=top 52
noncomputable abbrev mU:Stmt:=top 53
noncomputable abbrev fJ:Stmt:=top 57
noncomputable abbrev gR:Stmt:=top 58
noncomputable abbrev jn:Stmt:=top 59
noncomputable abbrev kq:Stmt:=top 60
noncomputable abbrev wL:Stmt:=top 61
noncomputable abbrev cL:Stmt:=top 62
noncomputable abbrev cU:Stmt:=top 63
noncomputable abbrev fK:Stmt:=top 64
noncomputable abbrev gQ:Stmt:=top 66
noncomputable abbrev kW:Stmt:=top 67
noncomputable abbrev gj:Stmt:=top 68
noncomputable abbrev fA:Stmt:=top 69
noncomputable abbrev fN:Stmt:=top 70
noncomputable abbrev dU:Stmt:=top 71
noncomputable abbrev fq:Stmt:=top 75
noncomputable abbrev ia:Stmt:=top 76
noncomputable abbrev hW:Stmt:=top 77
noncomputable abbrev iO:Stmt:=top 78
noncomputable abbrev eL:Stmt:=top 79
noncomputable abbrev fu:Stmt:=top 80
noncomputable abbrev fE:Stmt:=top 81
noncomputable abbrev gZ:Stmt:=top 82
noncomputable abbrev hJ:Stmt:=top 83
noncomputable abbrev dw:Stmt:=top 84
noncomputable abbrev jh:Stmt:=top 85
noncomputable abbrev gP:Stmt:=top 86
noncomputable abbrev hX:Stmt:=top 87
noncomputable abbrev cC:Stmt:=top 88
noncomputable abbrev fI:Stmt:=top 89
noncomputable abbrev eC:Stmt:=top 90
noncomputable abbrev gY:Stmt:=top 91
noncomputable abbrev du:Stmt:=top 92
noncomputable abbrev qJ:Stmt:=top 93
noncomputable abbrev fd(n:Str)(s:Stmt)(tk:Tok)(m:Str)(cd:Addr):FuncData:=fnOf n n (iD s) (gM s) (aw s) .none .none .none (.str m tk) none (.ref cd) .none
noncomputable abbrev FQ(K:PySem.W.Frag)(n:Str)(s:Stmt)(a cd:Addr)(tk:Tok)(m:Str):Prop:=nsIn K mainGlobals n=some (some (.ref a))/\K.lookup a=some ⟨.type "function",none,.func (fd n s tk m cd),#[]⟩/\codeIn K (.ref cd) n=true/\keepIn K (.ref a)=true
end K21
namespace K21.H
open PySem PySem.W PyProof.Rows L2 L2.DL
set_option maxHeartbeats 0
noncomputable abbrev R:OpenLaw:=PySem.Challenge.rw_matefloors_k21_whole_squares
noncomputable abbrev LO:List Str:=["has_form","has_form_layings","has_form_plans"]
noncomputable def sT(P:Params):Option Shared:=wB R.row.prog P 11 (some (.ref 6)) 20000 {heap:=boot_heap P,gens:=#[],drawn:=boot_drawn,toks:=boot_toks,os:=default} (topStub R.row.prog)
noncomputable def defName:Stmt->Str
 |.FunctionDef n _ _ _ _ _ _ _ _ _=>n
 |_=>Str.empty
noncomputable def HD:Stmt->Int
 |.FunctionDef _ _ _ _ _ _ _ _ _ p=>Int.ofNat p.line
 |_=>0
noncomputable def cn(o:Obj)(r:List Obj):List Obj:=o::r
noncomputable def g(P:Params)(x:Str)(t:Nat)(v:Value):DictEntry:=⟨PyData.keyHash P x,.str x t,v⟩
noncomputable def gf(P:Params)(i t a:Nat):DictEntry:=g P (defName (top i)) t (.ref a)
noncomputable def tb:List (Int×Nat)->List Value
 |[]=>[]
 |(a,b)::l=>.int a 0::.int 0 0::.ref b::tb l
noncomputable def tu(l:List Value):Obj:=⟨.type "tuple",none,.seq l.toArray 0,#[]⟩
noncomputable def nf:Obj:=⟨.none,none,.fields #[],#[]⟩
noncomputable def dp(s:Stmt):List Str:=(iD s).args.map (·.arg)
noncomputable def fd(s:Stmt)(a:Addr)(p c:Value):Data:=.func {name:=defName s,qualname:=defName s,params:=iD s,body:=.stmts (gM s),scope:=aw s,globals:=a,closure:=[],defaults:=.none,kwdefaults:=.none,pyModule:=p,code:=c}
noncomputable def co(s:Stmt)(a t u:Nat)(x y:Value)(d:Nat):Obj:=⟨.type "code",none,.fields #[.str (defName s) t,.str (defName s) (t+1),.str "/claim/cut.py" (t+2),.int (HD s) 0,.int (Int.ofNat (dp s).length) 0,.int 0 0,.int 0 0,.int 3 0,.ref a,.bool true,.int 181 0,.ref (a+1),.none,x,y,.ref (a+d),.int (Int.ofNat u) 0,.int (HD s) 0,.str "/claim/cut.py" (u+1)],#[]⟩
noncomputable def nv:Nat->List Str->List Value
 |_,[]=>[]
 |t,x::l=>.str x t::nv (t+1) l
noncomputable def fB(i a t:Nat)(l:List Str)(p:Value)(r:List Obj):List Obj:=tu []::nf::tu (nv (t+3) (dp (top i)++l))::tu []::⟨.none,none,fd (top i) 0 .none .none,#[]⟩::co (top i) a t (t+3+(dp (top i)++l).length) (.ref (a+2)) (.ref (a+3)) 4::⟨.type "function",none,fd (top i) 3 p (.ref (a+5)),#[]⟩::r
noncomputable def fL(i a t:Nat)(p:Value)(r:List Obj):List Obj:=tu []::nf::⟨.none,none,fd (top i) 0 .none .none,#[]⟩::co (top i) a t (t+3) .none .none 2::⟨.type "function",none,fd (top i) 3 p (.ref (a+3)),#[]⟩::r
noncomputable def me:Value:=.str "matefloors.errors" 187
noncomputable def cB(P:Params)(x:Str)(i t:Nat)(n:Int)(r:List Obj):List Obj:=tu [.ref 24]::⟨.type "builtin_function_or_method",none,.fields #[.builtin "type.__prepare__",.type "type"],#[]⟩::⟨.type "dict",none,.dict #[g P "__module__" (t+5) me,g P "__qualname__" (t+7) (.str x (t+6)),g P "__firstlineno__" (t+9) (.int n (t+8)),g P "__static_attributes__" (t+10) (.ref (i+7))] 4,#[]⟩::tu []::nf::⟨.type "code",none,.fields #[.str x t,.str x (t+1),.str "/claim/cut.py" (t+2),.int n 0,.int 0 0,.int 0 0,.int 0 0,.int 0 0,.ref (i+3),.bool false,.int 181 0,.ref (i+4),.none,.none,.none,.none,.int (Int.ofNat (t+3)) 0,.int n 0,.str "/claim/cut.py" (t+4)],#[]⟩::⟨.type "frame",none,.plain,#[some (.ref (i+5)),some (.ref 3),some (.ref (i+2)),none,some me,none,some (.ref 0)]⟩::tu []::⟨.type "dict",none,.dict #[g P "__module__" (t+5) me,g P "__firstlineno__" (t+9) (.int n (t+8)),g P "__static_attributes__" (t+10) (.ref (i+7)),g P "__doc__" (t+11) .none] 2,#[]⟩::⟨.type "type",none,.cls ⟨x,[.ref 24],[.ref (i+9),.ref 24,.type "ValueError",.type "Exception",.type "BaseException",.type "object"],i+8,x,true,[],[],false,none,false⟩,#[some (.ref i),none,some (.str x (t-2)),some (.str x (t+6)),some (.builtin "ValueError.__new__"),some (.bool true)]⟩::⟨.type "super",none,.fields #[.ref (i+9),.ref (i+9),.ref (i+9)],#[]⟩::⟨.type "builtin_function_or_method",none,.fields #[.builtin "object.__init_subclass__",.ref (i+9)],#[]⟩::r
noncomputable def m0:Value:=.str "matefloors.numbers" 287
noncomputable def m1:Value:=.str "matefloors.layings" 436
noncomputable def m2:Value:=.str "matefloors.squares" 548
noncomputable def m3:Value:=.str "matefloors.weighing" 606
noncomputable def m4:Value:=.str "matefloors.bars" 630
noncomputable def m5:Value:=.str "matefloors.leaning" 662
noncomputable def m6:Value:=.str "matefloors.mixtures" 673
noncomputable def m7:Value:=.str "matefloors.wishes" 754
noncomputable def m8:Value:=.str "law_matefloors_k21_whole_squares" 844
noncomputable def ho0(P:Params)(r:List Obj):List Obj:=cn (boot_o_0 P) <| cn (boot_o_1 P) <| cn (boot_o_2 P) <| cn (⟨.type "dict",none,.dict #[g P "__name__" 165 (.str "law_matefloors_k21_whole_squares" 844),g P "__doc__" 166 .none,g P "__package__" 167 .none,g P "__loader__" 168 (.builtin "__main__.__loader__#opaque"),g P "__spec__" 169 .none,g P "__annotations__" 170 (.ref 6),g P "__builtins__" 171 (.ref 4),g P "__file__" 173 (.str "/claim/cut.py" 172),g P "__cached__" 174 .none,g P "FloorError" 206 (.ref 24),g P "NoNumber" 222 (.ref 37),g P "NoLaying" 238 (.ref 49),g P "NoFit" 254 (.ref 61),g P "NoKinds" 270 (.ref 73),g P "TooMany" 286 (.ref 85),g P "NOUGHT" 292 (.ref 88),g P "ONE" 296 (.ref 89),gf P 10 303 96,gf P 11 311 103,gf P 12 321 110,gf P 13 330 117,gf P 14 340 124,gf P 15 347 131,gf P 16 355 138,gf P 17 363 145,gf P 18 372 152,gf P 19 381 159,gf P 20 390 166,gf P 21 398 173,gf P 22 408 180,gf P 23 419 187,gf P 24 427 194,gf P 25 435 201,g P "MOST_TILES" 439 (.int 60 438),g P "MOST_KINDS" 441 (.int 3 440),gf P 29 453 208,gf P 30 459 213,gf P 31 470 220,gf P 32 482 227,gf P 33 493 234,gf P 34 501 241,gf P 35 507 246,gf P 36 513 251,gf P 37 519 256,gf P 38 527 263,gf P 39 535 270,gf P 40 541 275,gf P 41 547 280,gf P 43 559 287,gf P 44 567 294,gf P 45 577 301,gf P 46 588 308,gf P 47 605 315,gf P 49 613 320,gf P 50 629 327,gf P 52 648 334,gf P 53 661 341,gf P 55 672 348,gf P 57 680 353,gf P 58 694 360,gf P 59 702 367,gf P 60 717 374,gf P 61 725 381,gf P 62 735 388,gf P 63 745 395,gf P 64 753 402,gf P 66 766 409,gf P 67 775 416,gf P 68 786 423,gf P 69 792 428,gf P 70 807 435,gf P 71 825 442,gf P 72 836 449,gf P 73 843 456,gf P 75 854 463,gf P 76 865 470,gf P 77 873 477,gf P 78 883 484,gf P 79 891 491,gf P 80 898 498,gf P 81 907 505,gf P 82 915 512,gf P 83 924 519,gf P 84 932 526,gf P 85 944 533,gf P 86 950 538,gf P 87 959 545,gf P 88 972 552,gf P 89 982 559,gf P 90 994 566,gf P 91 1010 573,gf P 92 1023 580,gf P 93 1036 587] 93,#[]⟩) <| cn (boot_o_4 P) <| cn (boot_o_5 P) <| cn (boot_o_6 P) <| cn (boot_o_7 P) <| cn (boot_o_8 P) <| cn (boot_o_9 P) <| cn (boot_o_10 P) <| cn (⟨(.type "tuple"),none,(.seq #[] 0),#[]⟩) <| cn (⟨.none,none,.fields (tb [(2,20),(4,33),(6,45),(8,57),(10,69),(12,81),(17,95),(19,102),(23,109),(30,116),(32,123),(39,130),(41,137),(43,144),(45,151),(47,158),(51,165),(54,172),(56,179),(65,186),(69,193),(71,200),(77,207),(84,212),(93,219),(96,226),(106,233),(113,240),(115,245),(126,250),(134,255),(138,262),(141,269),(144,274),(147,279),(153,286),(160,293),(163,300),(171,307),(178,314),(196,319),(200,326),(206,333),(215,340),(228,347),(233,352),(243,359),(249,366),(251,373),(261,380),(263,387),(266,394),(272,401),(277,408),(287,415),(289,422),(299,427),(301,434),(305,441),(313,448),(319,455),(322,462),(324,469),(330,476),(332,483),(335,490),(340,497),(342,504),(344,511),(346,518),(348,525),(350,532),(360,537),(365,544),(372,551),(389,558),(395,565),(401,572),(413,579),(427,586)]).toArray,#[]⟩) <| cn (⟨(.type "code"),none,(.fields #[(.str "<module>" 182),(.str "<module>" 183),(.str "/claim/cut.py" 184),(.int 1 0),(.int 0 0),(.int 0 0),(.int 0 0),(.int 0 0),(.ref 11),(.bool false),(.int 181 0),(.ref 12),.none,.none,.none,.none,(.int 185 0),(.int 1 0),(.str "/claim/cut.py" 186)]),#[]⟩) <| cn (⟨(.type "frame"),none,.plain,#[some (.ref 13),some (.ref 3),some (.ref 3),none,some (.str "__main__" 164),none,some (.ref 0)]⟩) <| cn (⟨(.type "tuple"),none,(.seq #[(.type "ValueError")] 0),#[]⟩) <| cn (⟨(.type "builtin_function_or_method"),none,(.fields #[(.builtin "type.__prepare__"),(.type "type")]),#[]⟩) <| cn (⟨(.type "dict"),none,(.dict #[⟨PyData.keyHash P "__module__",(.str "__module__" 196),(.str "matefloors.errors" 187)⟩,⟨PyData.keyHash P "__qualname__",(.str "__qualname__" 198),(.str "FloorError" 197)⟩,⟨PyData.keyHash P "__firstlineno__",(.str "__firstlineno__" 200),(.int 2 199)⟩,⟨PyData.keyHash P "__static_attributes__",(.str "__static_attributes__" 201),(.ref 22)⟩] 4),#[]⟩) <| cn (⟨(.type "tuple"),none,(.seq #[] 0),#[]⟩) <| cn (⟨.none,none,(.fields #[]),#[]⟩) <| r
noncomputable def ho1(P:Params)(r:List Obj):List Obj:=cn (⟨(.type "code"),none,(.fields #[(.str "FloorError" 191),(.str "FloorError" 192),(.str "/claim/cut.py" 193),(.int 2 0),(.int 0 0),(.int 0 0),(.int 0 0),(.int 0 0),(.ref 18),(.bool false),(.int 181 0),(.ref 19),.none,.none,.none,.none,(.int 194 0),(.int 2 0),(.str "/claim/cut.py" 195)]),#[]⟩) <| cn (⟨(.type "frame"),none,.plain,#[some (.ref 20),some (.ref 3),some (.ref 17),none,some (.str "matefloors.errors" 187),none,some (.ref 0)]⟩) <| cn (⟨(.type "tuple"),none,(.seq #[] 0),#[]⟩) <| cn (⟨(.type "dict"),none,(.dict #[⟨PyData.keyHash P "__module__",(.str "__module__" 196),(.str "matefloors.errors" 187)⟩,⟨PyData.keyHash P "__firstlineno__",(.str "__firstlineno__" 200),(.int 2 199)⟩,⟨PyData.keyHash P "__static_attributes__",(.str "__static_attributes__" 201),(.ref 22)⟩,⟨PyData.keyHash P "__weakref__",(.str "__weakref__" 203),(.ref 25)⟩,⟨PyData.keyHash P "__doc__",(.str "__doc__" 204),.none⟩] 3),#[]⟩) <| cn (⟨(.type "type"),none,(.cls ⟨"FloorError",[(.type "ValueError")],[(.ref 24),(.type "ValueError"),(.type "Exception"),(.type "BaseException"),(.type "object")],23,"FloorError",true,[],[(.ref 37),(.ref 49),(.ref 61),(.ref 73),(.ref 85)],false,none,false⟩),#[some (.ref 15),none,some (.str "FloorError" 189),some (.str "FloorError" 197),some (.builtin "ValueError.__new__"),some (.bool true)]⟩) <| cn (⟨(.type "getset_descriptor"),none,(.fields #[(.str "__weakref__" 202),(.ref 24),(.builtin "ExceptionGroup.__weakref__"),.none]),#[]⟩) <| cn (⟨(.type "super"),none,(.fields #[(.ref 24),(.ref 24),(.ref 24)]),#[]⟩) <| cn (⟨(.type "builtin_function_or_method"),none,(.fields #[(.builtin "object.__init_subclass__"),(.ref 24)]),#[]⟩) <| cB P "NoNumber" 28 209 4 <| cB P "NoLaying" 40 225 6 <| cB P "NoFit" 52 241 8 <| cB P "NoKinds" 64 257 10 <| cB P "TooMany" 76 273 12 <| cn (⟨(.type "tuple"),none,(.seq #[(.int 0 289),(.int 0 290),(.int 1 291)] 0),#[]⟩) <| cn (⟨(.type "tuple"),none,(.seq #[(.int 1 293),(.int 0 294),(.int 1 295)] 0),#[]⟩) <| fB 10 90 297 [] m0 <| fB 11 97 304 [] m0 <| fB 12 104 312 ["a","b","c"] m0 <| fB 13 111 322 [] m0 <| fB 14 118 331 ["divisor"] m0 <| r
noncomputable def ho2(P:Params)(r:List Obj):List Obj:=fB 15 125 341 [] m0 <| fB 16 132 348 [] m0 <| fB 17 139 356 [] m0 <| fB 18 146 364 [] m0 <| fB 19 153 373 [] m0 <| fB 20 160 382 ["norm"] m0 <| fB 21 167 391 [] m0 <| fB 22 174 399 ["prevailing"] m0 <| fB 23 181 409 ["a","b"] m0 <| fB 24 188 420 [] m0 <| fB 25 195 428 [] m0 <| fB 29 202 442 ["x","y","width","height"] m1 <| fL 30 209 454 m1 <| fB 31 214 460 ["x","y","width","height"] m1 <| fB 32 221 471 ["low","high","middle"] m1 <| fB 33 228 483 ["marks","x","place"] m1 <| fB 34 235 494 [] m1 <| fL 35 242 502 m1 <| fL 36 247 508 m1 <| fL 37 252 514 m1 <| r
noncomputable def ho3(P:Params)(r:List Obj):List Obj:=fB 38 257 520 [] m1 <| fB 39 264 528 [] m1 <| fL 40 271 536 m1 <| fL 41 276 542 m1 <| fB 43 281 550 ["shape"] m2 <| fB 44 288 560 ["skew"] m2 <| fB 45 295 568 ["short","rest","counts"] m2 <| fB 46 302 578 ["word","counts"] m2 <| fB 47 309 589 ["x","y","beside","tiles","many","side","square"] m2 <| fL 49 316 608 m3 <| fB 50 321 614 ["p","q","s","t","by_width","by_its_mate"] m3 <| fB 52 328 632 ["p","q","s","t","first","last","middle","most"] m4 <| fB 53 335 649 ["width","weights","kind"] m4 <| fB 55 342 664 ["together"] m5 <| fL 57 349 675 m6 <| fB 58 354 681 ["whole","part","of_second","of_first"] m6 <| fB 59 361 695 [] m6 <| fB 60 368 703 ["way","own","floor","turn","last","both"] m6 <| fB 61 375 718 [] m6 <| fB 62 382 726 ["kind"] m6 <| r
noncomputable def ho4(P:Params)(r:List Obj):List Obj:=fB 63 389 736 [] m6 <| fB 64 396 746 [] m6 <| fB 66 403 756 ["place","told"] m7 <| fB 67 410 767 [] m7 <| fB 68 417 776 ["signs","most","place"] m7 <| fL 69 424 787 m7 <| fB 70 429 793 ["a","b","c","other_a","other_b","other_c"] m7 <| fB 71 436 808 ["signs","first","first_plan","second","second_plan","is_contrary","u","v","plan"] m7 <| fB 72 443 826 ["kind","plan"] m7 <| fB 73 450 837 [] m7 <| fB 75 457 846 [] m8 <| fB 76 464 855 ["_law_first","_law_second","_law_sides"] m8 <| fB 77 471 866 [] m8 <| fB 78 478 874 ["_law_common"] m8 <| fB 79 485 884 [] m8 <| fB 80 492 892 [] m8 <| fB 81 499 899 [] m8 <| fB 82 506 908 [] m8 <| fB 83 513 916 [] m8 <| fB 84 520 925 [] m8 <| r
noncomputable def ho5(P:Params)(r:List Obj):List Obj:=fB 85 527 933 ["_law_cell","_law_great","_law_primes","_law_mixed"] m8 <| fL 86 534 945 m8 <| fB 87 539 951 ["_law_digit"] m8 <| fB 88 546 960 ["_law_way","_law_width","_law_p","_law_q","_law_turn"] m8 <| fB 89 553 973 ["_law_x","_law_sign_here"] m8 <| fB 90 560 983 ["_law_wide","_law_a","_law_b","_law_c","_law_way"] m8 <| fB 91 567 995 ["_law_found","_law_wide","_law_high","_law_count","_law_side","_law_taken"] m8 <| fB 92 574 1011 ["_law_square","_law_shape","_law_told","_law_laying"] m8 <| fB 93 581 1024 ["_law_k","_law_bag_here","_law_d","_law_turn","_law_width","_law_height"] m8 <| r
noncomputable def hT(P:Params):Heap:=⟨⟨ho0 P <| ho1 P <| ho2 P <| ho3 P <| ho4 P <| ho5 P []⟩,(boot_heap P).life⟩
noncomputable abbrev mz0:Str:="matefloors.numbers"
noncomputable abbrev mz1:Str:="matefloors.layings"
noncomputable abbrev mz2:Str:="matefloors.squares"
noncomputable abbrev mz3:Str:="matefloors.weighing"
noncomputable abbrev mz4:Str:="matefloors.bars"
noncomputable abbrev mz5:Str:="matefloors.mixtures"
noncomputable abbrev mz6:Str:="matefloors.wishes"
noncomputable abbrev mz7:Str:="law_matefloors_k21_whole_squares"
noncomputable def isNm:Stmt->Bool
 |.Assign [.Name x _] _ _=>x == "__name__"
 |_=>false
noncomputable def V:Program:={R.row.prog with main:={R.row.prog.main with body:=R.row.prog.main.body.filter fun s=>!isNm s}}
noncomputable def as:List Addr:=[3,96,95,103,102,110,109,117,116,124,123,131,130,138,137,145,144,152,151,159,158,166,165,173,172,180,179,187,186,194,193,201,200,208,207,213,212,220,219,227,226,234,233,241,240,246,245,251,250,256,255,263,262,270,269,275,274,280,279,287,286,294,293,301,300,308,307,315,314,320,319,327,326,334,333,341,340,353,352,360,359,367,366,374,373,381,380,388,387,395,394,402,401,409,408,416,415,423,422,428,427,435,434,442,441,463,462,470,469,477,476,484,483,491,490,498,497,505,504,512,511,519,518,526,525,533,532,538,537,545,544,552,551,559,558,566,565,573,572,580,579,587,586,88,89]
noncomputable def tabs:List Addr:=[575,582]
noncomputable def K(P:Params):Frag:=as.map fun a=>(a,((hT P).get? a).getD default)
noncomputable def TF(P:Params):Frag:=tabs.map fun a=>(a,((hT P).get? a).getD default)
noncomputable def KF(P:Params):Frag:=K P++TF P
theorem kAs(P:Params):as++tabs=(KF P).map (·.1):=by
 unfold KF K TF
 rw[map_append,map_map,map_map]
 exact congr (congrArg HAppend.hAppend (List.map_id _).symm) (List.map_id _).symm
noncomputable def HK:Hook:=kHook KF (as++tabs) kAs
noncomputable def posOf:Stmt->Pos
 |.FunctionDef _ _ _ _ _ _ _ _ _ p=>p
 |_=>⟨0,0,0,0⟩
noncomputable def D:DefRec:=⟨"law",iD K21.qJ,gM K21.qJ,aw K21.qJ,posOf K21.qJ⟩
noncomputable def Xt:Shared->Bool:=fun s=>xlAt V [] s&&recOk R.row.records s
theorem runC(P:Params):(sT P).map (fun s=>(s.heap,s.gens,s.drawn,s.toks))=some (hT P,#[],{},1037):=⟨⟩
theorem SS{A B C D:Type}{a a':A}{b b':B}{c c':C}{d d':D}(h:(a,b,c,d)=(a',b',c',d')):a=a'/\b=b'/\c=c'/\d=d':=by
 cases h;exact⟨rfl,rfl,rfl,rfl⟩
theorem run(w:World)(os:OsState):topRun treeTable R.row.prog w 11 (some (.ref 6)) 20000 {heap:=boot_heap w.params,gens:=#[],drawn:=boot_drawn,toks:=boot_toks,os:=os} (topStub R.row.prog)=some {heap:=hT w.params,gens:=#[],drawn:={},toks:=1037,os:=os}:=by
 have h:=runC w.params
 cases e:sT w.params with
 |none=>rw[e] at h;cases h
 |some s=>
  rw[e] at h
  obtain⟨heap,gens,drawn,toks,os0⟩:=s
  have h':some (heap,gens,drawn,toks)=some (hT w.params,(#[]:Array GenState),({}:Drawn),1037):=h
  obtain⟨rfl,rfl,rfl,rfl⟩:=SS (Option.some.inj h')
  exact xq (w:=w) (os:=os) ((yx _ _ _).symm.trans e)
theorem R6(w:World)(os:OsState):(staticsOk (importedModules R.row.prog.main.body) (boot_heap w.params) (hT w.params)&&namesBound R.row.prog (hT w.params)&&gensDone {heap:=hT w.params,gens:=#[],drawn:={},toks:=1037,os:=os}&&laidKept (boot_heap w.params) (hT w.params))=true:=⟨⟩
theorem Pg(w:World)(os:OsState):seen (List.map (fun x=>x.name) (recsOf V)) (ownsOf V) [] {heap:=hT w.params,drawn:={},toks:=1037,os:=os} = expectedOf V:=⟨⟩
theorem Qr(w:World)(os:OsState):(hT w.params).bltView=bltViewBooted:=⟨⟩
theorem Qs(w:World)(os:OsState):((hT w.params).keysOk (looseW V LO) (List.map (fun x=>x.name) (recsOf V)) (List.map (fun x=>x.fst) (litsOf V)) (List.map (fun x=>x.name) (clssOf V (looseW V LO)))&&(hT w.params).accountedOkI (importedModules R.row.prog.main.body)&&(hT w.params).isNs mainGlobals&&(hT w.params).isNs builtinsNs&&tablesOk V (hT w.params)&&Xt {heap:=hT w.params,gens:=#[],drawn:={},toks:=1037,os:=os}&&(if true=true then (#[]:Array GenState).size==0 else !leftWithCleanup (#[]:Array GenState)))=true:=⟨⟩
theorem O8(w:World)(os:OsState):tabsOk V {heap:=hT w.params,gens:=#[],drawn:={},toks:=1037,os:=os} = true:=⟨⟩
theorem Ql(w:World)(os:OsState):pinSeenD V (drecsOf V) {heap:=hT w.params,gens:=#[],drawn:={},toks:=1037,os:=os} = pinGoodD (drecsOf V):=⟨⟩
theorem Pf(w:World)(os:OsState):plainSeenE V (looseW V LO) {heap:=hT w.params,gens:=#[],drawn:={},toks:=1037,os:=os} = plainGoodE V (looseW V LO):=⟨⟩
theorem Pc(w:World)(os:OsState):plainSeenD V LO {heap:=hT w.params,gens:=#[],drawn:={},toks:=1037,os:=os} = plainGoodD V LO:=⟨⟩
theorem PR(w:World)(os:OsState):wideSeen V {heap:=hT w.params,gens:=#[],drawn:={},toks:=1037,os:=os} = wideGood V:=⟨⟩
theorem Rc(w:World)(os:OsState):clsSeenW V LO {heap:=hT w.params,gens:=#[],drawn:={},toks:=1037,os:=os} = clsGoodW V LO:=⟨⟩
theorem Rz{A B C D E F G H I:Type}{a a':A}{b b':B}{c c':C}{d d':D}{e e':E}{f f':F}{g g':G}{h h':H}{i i':I}(h0:a=a')(h1:b=b')(h2:c=c')(h3:d=d')(h4:e=e')(h5:f=f')(h6:g=g')(h7:h=h')(h8:i=i'):(a,b,c,d,e,f,g,h,i)=(a',b',c',d',e',f',g',h',i'):=by
 rw[h0,h1,h2,h3,h4,h5,h6,h7,h8]
theorem Sn(w:World)(os:OsState):openSeen V LO (importedModules R.row.prog.main.body) Xt true {heap:=hT w.params,gens:=#[],drawn:={},toks:=1037,os:=os} = openGood V LO:=Rz (Pg w os) (Qr w os) (Qs w os) (O8 w os) (Ql w os) (Pf w os) (Pc w os) (PR w os) (Rc w os)
theorem RP(w:World)(os:OsState):HK.obs {heap:=hT w.params,gens:=#[],drawn:={},toks:=1037,os:=os} = HK.val w:=⟨⟩
theorem seen(w:World):(fun os=>(staticsOk (importedModules R.row.prog.main.body) (boot_heap w.params) (hT w.params)&&namesBound R.row.prog (hT w.params)&&gensDone {heap:=hT w.params,gens:=#[],drawn:={},toks:=1037,os:=os}&&laidKept (boot_heap w.params) (hT w.params),
  openSeen V LO (importedModules R.row.prog.main.body) Xt true {heap:=hT w.params,gens:=#[],drawn:={},toks:=1037,os:=os},HK.obs {heap:=hT w.params,gens:=#[],drawn:={},toks:=1037,os:=os}))=fun _:OsState=>(true,openGood V LO,HK.val w):=
 funext fun os=>Prod.ext (R6 w os) (Prod.ext (Sn w os) (RP w os))
theorem lkb{a b:Bool}(x:a=true)(y:b=true):(a&&b)=true:=by rw[x,y];rfl
theorem wsA:(sreFenced R.row.prog.main&&((moduleNames R.row.prog.main.body).isEmpty || lookedIntoSs (moduleNames R.row.prog.main.body) R.row.prog.main.body))=true:=⟨⟩
theorem wsB:namesResolve R.row.prog=true:=⟨⟩
theorem wsC:R.row.prog.boundNames.all (fun n=>!worldNames.contains n)=true:=⟨⟩
theorem wsD:noRoadLSs {strict:=!(importedModules R.row.prog.main.body).all cThrough.contains,foot:=none,bare:=(["vars","dir","locals"]:List Str).filter (readsOut R.row.prog R.row.prog.main.body)} R.row.prog.main.body=true:=⟨⟩
theorem wsE:(namesMeet R.row.prog R.row.prog.main.body fun _ n=>attrL n)=true:=⟨⟩
theorem wsF:looksOpen R.row.prog=true:=lkb (lkb (lkb (lkb wsA wsB) wsC) wsD) wsE
theorem wsG:R.row.wellSaid=true:=by
 unfold OpenRow.wellSaid OpenRow.partSaid
 rw[wsF]
 kernel_rfl
theorem wsH:noClassBlock R.prog R.footing=true:=⟨⟩
theorem wsI:noRoadLSs {strict:=true,foot:=some R.bound',writes:=R.writes,may:=R.may} R.footing=true:=⟨⟩
theorem wsJ:R.namesIt=true:=⟨⟩
theorem wsK:R.bound'.all (fun n=>!builtinNamed n || R.about==[n] || !R.reads n)=true:=⟨⟩
theorem wsL:namesMeet R.prog R.footing (fun sc n=>(!(["type","isinstance","issubclass","getattr","hasattr"]:List Str).contains n || sc.names.lookup n==some .globalImplicit)&&(R.may != some n || sc.kind==.module || sc.names.lookup n==some .globalImplicit))=true:=⟨⟩
theorem wsM:namesMeet R.prog R.above (fun _ n=>!R.own.contains n)=true:=⟨⟩
theorem wsN:(namesMeet R.prog R.footing fun sc n=>sc.kind==.module || sc.names.lookup n != some .globalExplicit)=true:=⟨⟩
theorem ws:R.wellSaid=true:=by
 unfold OpenLaw.wellSaid
 rw[wsG,wsH,wsI,wsJ,wsK,wsL,wsM,wsN]
 kernel_rfl
theorem QB(P:Params):FQ (K P) "is_whole" iW 96 95 287 mz0/\FQ (K P) "common_divisor" cY 103 102 287 mz0/\FQ (K P) "is_number" gX 110 109 287 mz0/\FQ (K P) "divisor_of_all" da 117 116 287 mz0/\FQ (K P) "number" mG 124 123 287 mz0/\FQ (K P) "mate" wM 131 130 287 mz0/\FQ (K P) "plus" yL 138 137 287 mz0/\FQ (K P) "less" xp 145 144 287 mz0/\FQ (K P) "times" qL 152 151 287 mz0/\FQ (K P) "over" xE 159 158 287 mz0/\FQ (K P) "contrary" jj 166 165 287 mz0/\FQ (K P) "sign_of" kr 173 172 287 mz0/\FQ (K P) "sign_of_parts" dr 180 179 287 mz0/\FQ (K P) "is_above" i7 187 186 287 mz0:=
 by (repeat' apply And.intro)<;>first|kernel_rfl|decide
theorem Pk(P:Params):FQ (K P) "is_above_nought" cM 194 193 287 mz0/\FQ (K P) "must_be_above_nought" bS 201 200 287 mz0/\FQ (K P) "is_tile" km 208 207 436 mz1/\FQ (K P) "has_form" iV 213 212 436 mz1/\FQ (K P) "bounds_of" ib 220 219 436 mz1/\FQ (K P) "place_among" eD 227 226 436 mz1/\FQ (K P) "rising_marks" dS 234 233 436 mz1/\FQ (K P) "reaches_just" dX 241 240 436 mz1/\FQ (K P) "covers_once" eI 246 245 436 mz1/\FQ (K P) "is_laying" gT 251 250 436 mz1/\FQ (K P) "is_kinds" iQ 256 255 436 mz1/\FQ (K P) "must_be_laying" cX 263 262 436 mz1/\FQ (K P) "must_be_kinds" dz 270 269 436 mz1/\FQ (K P) "shapes_in" ic 275 274 436 mz1:=
 by (repeat' apply And.intro)<;>first|kernel_rfl|decide
theorem Qg(P:Params):FQ (K P) "is_by" sL 280 279 436 mz1/\FQ (K P) "squares_of" fh 287 286 548 mz2/\FQ (K P) "bar_for_squares" cR 294 293 548 mz2/\FQ (K P) "counts_of" gO 301 300 548 mz2/\FQ (K P) "squares_laid" dQ 308 307 548 mz2/\FQ (K P) "tiles_by_counts" cP 315 314 548 mz2/\FQ (K P) "is_weights" fD 320 319 606 mz3/\FQ (K P) "weighed" kX 327 326 606 mz3/\FQ (K P) "never_below" eG 334 333 630 mz4/\FQ (K P) "is_bar" mU 341 340 630 mz4/\FQ (K P) "mixture_of" fJ 353 352 673 mz5/\FQ (K P) "shares_of" gR 360 359 673 mz5/\FQ (K P) "is_share" jn 367 366 673 mz5/\FQ (K P) "bar_for" kq 374 373 673 mz5:=
 by (repeat' apply And.intro)<;>first|kernel_rfl|decide
theorem Qj(P:Params):FQ (K P) "skew" wL 381 380 673 mz5/\FQ (K P) "plan_of_mixture" cL 388 387 673 mz5/\FQ (K P) "plan_of_shares" cU 395 394 673 mz5/\FQ (K P) "share_plan" fK 402 401 673 mz5/\FQ (K P) "wish_told" gQ 409 408 754 mz6/\FQ (K P) "is_laid" kW 416 415 754 mz6/\FQ (K P) "leans_most" gj 423 422 754 mz6/\FQ (K P) "mate_signs" fA 428 427 754 mz6/\FQ (K P) "leans_more" fN 435 434 754 mz6/\FQ (K P) "plan_by_both" dU 442 441 754 mz6/\FQ (K P) "_law_below" fq 463 462 844 mz7/\FQ (K P) "_law_sign" ia 470 469 844 mz7/\FQ (K P) "_law_plus" hW 477 476 844 mz7/\FQ (K P) "_law_low" iO 484 483 844 mz7:=
 by (repeat' apply And.intro)<;>first|kernel_rfl|decide
theorem Pu(P:Params):FQ (K P) "_law_shared" eL 491 490 844 mz7/\FQ (K P) "_law_minus" fu 498 497 844 mz7/\FQ (K P) "_law_times" fE 505 504 844 mz7/\FQ (K P) "_law_less" gZ 512 511 844 mz7/\FQ (K P) "_law_over" hJ 519 518 844 mz7/\FQ (K P) "_law_contrary" dw 526 525 844 mz7/\FQ (K P) "_law_bag" jh 533 532 844 mz7/\FQ (K P) "_law_root" gP 538 537 844 mz7/\FQ (K P) "_law_take" hX 545 544 844 mz7/\FQ (K P) "_law_floor_sides" cC 552 551 844 mz7/\FQ (K P) "_law_above" fI 559 558 844 mz7/\FQ (K P) "_law_number" eC 566 565 844 mz7/\FQ (K P) "_law_area" gY 573 572 844 mz7/\FQ (K P) "_law_is_right" du 580 579 844 mz7:=
 by (repeat' apply And.intro)<;>first|kernel_rfl|decide
theorem Qy(P:Params):FQ (K P) "law" qJ 587 586 844 mz7/\nsIn (K P) mainGlobals "isinstance"=some none/\nsIn (K P) mainGlobals "int"=some none/\nsIn (K P) mainGlobals "bool"=some none/\nsIn (K P) mainGlobals "abs"=some none/\nsIn (K P) mainGlobals "tuple"=some none/\nsIn (K P) mainGlobals "len"=some none/\nsIn (K P) mainGlobals "all"=some none/\nsIn (K P) mainGlobals "set"=some none/\nsIn (K P) mainGlobals "range"=some none/\nsIn (K P) mainGlobals "enumerate"=some none/\nsIn (K P) mainGlobals "list"=some none/\nsIn (K P) mainGlobals "min"=some none/\nsIn (K P) mainGlobals "max"=some none:=
 by (repeat' apply And.intro)<;>first|kernel_rfl|decide
theorem Q6(P:Params):nsIn (K P) mainGlobals "sum"=some none/\nsIn (K P) mainGlobals "MOST_KINDS"=some (some (.int 3 440))/\nsIn (K P) mainGlobals "MOST_TILES"=some (some (.int 60 438))/\(nsIn (K P) mainGlobals "NOUGHT"=some (some (.ref 88))/\(K P).lookup 88=some ⟨.type "tuple",none,.seq #[.int 0 289,.int 0 290,.int 1 291] 0,#[]⟩)/\(nsIn (K P) mainGlobals "ONE"=some (some (.ref 89))/\(K P).lookup 89=some ⟨.type "tuple",none,.seq #[.int 1 293,.int 0 294,.int 1 295] 0,#[]⟩):=
 by (repeat' apply And.intro)<;>first|kernel_rfl|decide
theorem FT(P:Params):((K P).filterMap fun p=>cT p.2)=[(575,("_law_is_right":Str)),(582,("law":Str))]/\((K P).lookup 579).bind cT=some (575,("_law_is_right":Str))/\((K P).lookup 586).bind cT=some (582,("law":Str))/\(KF P).lookup 575=some (tabObj #[])/\(KF P).lookup 582=some (tabObj #[])/\(K P).lookup 575=none/\(K P).lookup 582=none:=⟨⟨⟩,⟨⟩,⟨⟩,⟨⟩,⟨⟩,⟨⟩,⟨⟩⟩
theorem PV(P:Params):((K P).filterMap fun p=>cT p.2)=[(575,("_law_is_right":Str)),(582,("law":Str))]:=(FT P).1
theorem qe(P:Params):((K P).lookup 579).bind cT=some (575,("_law_is_right":Str)):=(FT P).2.1
theorem GL{q2:Str}(h:((575:Addr),q2)∈([(575,("_law_is_right":Str)),(582,("law":Str))]:List (Addr×Str))):q2 = "_law_is_right":=by simpa using h
theorem LZ(P:Params):((K P).lookup 586).bind cT=some (582,("law":Str)):=(FT P).2.2.1
theorem SE{q2:Str}(h:((582:Addr),q2)∈([(575,("_law_is_right":Str)),(582,("law":Str))]:List (Addr×Str))):q2 = "law":=by simpa using h
theorem ju(P:Params):(KF P).lookup 575=some (tabObj #[])/\(K P).lookup 575=none:=⟨(FT P).2.2.2.1,(FT P).2.2.2.2.2.1⟩
theorem Hb(P:Params):(KF P).lookup 582=some (tabObj #[])/\(K P).lookup 582=none:=⟨(FT P).2.2.2.2.1,(FT P).2.2.2.2.2.2⟩
theorem left:LeftO R.row.prog V LO Xt HK.obs HK.val 20000:=
 LeftO.of_pieces (H₀:=boot_heap) (H₁:=hT) (gs₀:=#[]) (gs₁:=#[]) (d₀:=boot_drawn) (d₁:={}) (k₀:=boot_toks) (k₁:=1037) (m₀:=11) (ann:=some (.ref 6)) (M:=20000)
  (boot_open ⟨⟩ ⟨⟩ (fun s=>⟨⟩)) (fun w=>⟨⟩) run ⟨⟩ seen
end K21.H
namespace L2
open PySem PySem.Spec PyProof.Rows
noncomputable def gK(A:Around)(h:Heap):Prop:=A.handled=none\/∃(e:Addr) (oe:Obj) (vs:Array Value),A.handled=some (.ref e)/\h.get? e=some oe/\oe.data = .fields vs/\vs[2]? = some .none
theorem zO:entryFor table "proto.unchain"=some Builtin.«proto.unchain»:=entryFor_of_tree ⟨⟩
section
variable {prog:Program}{w:World}{A:Around}{E:Value->Shared->Prop}{s:Shared}
theorem By{x e:Addr}{oe:Obj}{vs:Array Value}{Q:Value->Shared->Prop}(he:s.heap.get? e=some oe)(hd:oe.data = .fields vs)(h2:vs[2]? = some .none)(h:Q .none s) :
  wpAny (model prog w) A (runValue (.builtin "proto.unchain" ⟨[.ref x,.ref e,.ref e,.bool false],[]⟩)) Q E s:=by
 refine wpAny_runValue (codeAny_builtin zO ?_)
 unfold Builtin.«proto.unchain»
 dsimp only
 refine wpAny_bind (wpAny_field he hd h2 ?_)
 rw[if_pos (by rfl)]
 exact wpAny_pure h
theorem wV{α:Type}{a:Addr}{oa:Obj}{ws:Array Value}{Q:α->Shared->Prop}(q:gK A s.heap)(ha:s.heap.get? a=some oa)(hda:oa.data = .fields ws)(hz:2<ws.size)
  (hnew:∀e oe,A.handled=some (.ref e)->s.heap.get? e=some oe->e≠a)
  (h:∀h',Heap.ExtBut a s.heap h'->(∃o',h'.get? a=some o'/\o'.cls=oa.cls)->E (.ref a) {s with heap:=h'}):wpAny (model prog w) A (raiseNew (.ref a):Sem α) Q E s:=by
 unfold raiseNew
 refine wpAny_bind (wpAny_handled ?_)
 rcases q with q|⟨e,oe,vs,q,he,hd,h2⟩
 ·rw[q]
  exact wpAny_bind (wpAny_pure (wpAny_throw (h s.heap (fun b o _ z=>z) ⟨oa,ha,rfl⟩)))
 ·rw[q]
  have ne:e≠a:=hnew e oe q he
  dsimp only
  rw[if_pos (by simp[ne])]
  refine wpAny_bind (wpAny_holding (By he hd h2 ?_))
  refine wpAny_bind ?_
  refine wpAny_setField ha hda hz (wpAny_throw ?_)
  have hd':=Obj.data_mapFields hda (·.setIfInBounds 2 (Value.ref e))
  exact h _ (Heap.SameBut.update ..).extBut ⟨_,Heap.get?_update_self _ ha (Obj.isFreed_of_fields hd'),Obj.cls_mapFields ..⟩
theorem xI{it:Addr}{α:Type}{h0:Heap}{Q:α->Shared->Prop}(q:gK A s.heap)(k:Heap.ExtBut it h0 s.heap)(kl:∀e oe,A.handled=some (.ref e)->s.heap.get? e=some oe->True)
  (h:∀h' a,Heap.ExtBut it h0 h'->(∃o',h'.get? a=some o'/\o'.cls = .type "StopIteration")->E (.ref a) {s with heap:=h'}):wpAny (model prog w) A (newExc (.type "StopIteration") []>>=fun e=>(raiseNew e:Sem α)) Q E s:=by
 refine wpAny_bind ?_;simp only[newExc,newTuple]
 refine wpAny_bind (wpAny_newObj_type ?_ (by size_fits));refine wpAny_bind (m:=firstArgMember _ _) (wpAny_of_eq (a:=Value.none) (by first|rfl|(simp only[firstArgMember];rfl)) ?_);refine wpAny_newObj_type ?_ (by size_fits)
 have q':∀o1 o2:Obj,gK A ((s.heap.push o1).push o2):=fun o1 o2=>by
  rcases q with q|⟨e,oe,vs,q,he,r⟩
  ·exact .inl q
  ·exact .inr ⟨e,oe,vs,q,Heap.get?_push_of_some _ (Heap.get?_push_of_some _ he),r⟩
 refine wV (q' _ _) (Heap.get?_push_size _ rfl) rfl (by rw[Array.size_append];exact lt_of_lt_of_le (by decide:2<6) (Nat.le_add_right _ _)) (fun e oe hq he z=>?_) fun h' hx ⟨o',ho',hc'⟩=>h h' _ (fun b o hb e=>hx b o ?_ (Heap.get?_push_of_some _ (Heap.get?_push_of_some _ (k b o hb e)))) ⟨o',ho',hc'⟩
 ·rcases q with q|⟨e1,oe1,vs,q,he1,r⟩
  ·rw[q] at hq;cases hq
  ·rw[q] at hq;cases hq
   exact absurd (Heap.lt_size he1) (by rw[z];simp)
 ·exact ne_of_lt (lt_of_lt_of_le (Heap.lt_size (k b o hb e)) (by simp))
theorem sZ{it:Addr}{o:Obj}{ws:Array Value}{f:Array Value->Array Value}(q:gK A s.heap)(ho:s.heap.get? it=some o)(hd:o.data = .fields ws)(hn:∀e,A.handled=some (.ref e)->e≠it):gK A (s.heap.update it (Obj.mapFields f)):=by
 rcases q with q|⟨e,oe,vs,q,he,r⟩
 ·exact .inl q
 ·exact .inr ⟨e,oe,vs,q,by rw[Heap.get?_update_other _ _ (Ne.symm (hn e q))];exact he,r⟩
theorem zg{it l:Addr}{i:Nat}{items}{Q:Option Value->Shared->Prop}(q:gK A s.heap)(hn:∀e,A.handled=some (.ref e)->e≠it)(hit:s.heap.IsListIter it l i)(hl:s.heap.IsList l items)(hx:items[i]? = none)
  (hQ:∀h',Heap.ExtBut it s.heap h'->Q none {s with heap:=h'}):wpAny (model prog w) A (pyNext (.ref it)) Q E s:=by
 obtain⟨o,ho,hc,hd⟩:=id hit
 obtain⟨ol,hol,_,nl,hdl⟩:=hl;unfold pyNext
 refine wpAny_bind (wpAny_attempt (wpAny_callSpecial?_slot (name:=Str.ofString "__next__") hit.typeIs slot_listiter_next (wpAny_call_entry slot_listiter_next hit.typeIs entry_listiter_next ?_ (args_listiter_next _))))
 show wpAny _ _ (field (.ref it) 0>>=_) _ _ s;refine wpAny_bind (wpAny_field ho hd (x:=.ref l) rfl ?_)
 show wpAny _ _ (if (Value.ref l==Value.none)=true then _ else _) _ _ s;rw[if_neg (show ¬ ((Value.ref l==Value.none)=true) from Bool.false_ne_true)]
 show wpAny _ _ (field (.ref it) 1>>=_) _ _ s;refine wpAny_bind (wpAny_field ho hd (x:=.int i 0) rfl ?_)
 show wpAny _ _ (seqItems? (.ref l)>>=_) _ _ s;refine wpAny_bind (wpAny_seqItems hol hdl ?_);simp only[Int.toNat_natCast,hx]
 refine wpAny_bind (wpAny_rule (wpAny_bind (wpAny_setField ho hd (by simp) ?_)))
 refine xI (it:=it) (h0:=s.heap) (A:=A.in1) (sZ (A:=A.in1) q ho hd hn) (Heap.SameBut.update ..).extBut (fun _ _ _ _=>trivial) fun h' a hx' hq0=>?_
 obtain⟨o',ho',hc'⟩:=hq0
 refine wpAny_bind (wpAny_isInstance (T:="StopIteration") (b:=true) ⟨_,ho',hc'⟩ isSubtype_stop ?_);exact wpAny_pure (hQ _ hx')
theorem sE{it t:Addr}{i:Nat}{items}{Q:Option Value->Shared->Prop}(q:gK A s.heap)(hn:∀e,A.handled=some (.ref e)->e≠it)(hit:IsTupIter s.heap it t i)(ht:IsTup s.heap t items)(hx:items[i]? = none)
  (hQ:∀h',Heap.ExtBut it s.heap h'->Q none {s with heap:=h'}):wpAny (model prog w) A (pyNext (.ref it)) Q E s:=by
 obtain⟨o,ho,hc,hd⟩:=id hit
 obtain⟨ol,hol,_,nl,hdl⟩:=ht;unfold pyNext
 refine wpAny_bind (wpAny_attempt (wpAny_callSpecial?_slot (name:=Str.ofString "__next__") hit.typeIs slot_tupleiter_next (wpAny_call_entry slot_tupleiter_next hit.typeIs entry_tupleiter_next ?_ (args_tupleiter_next _))))
 show wpAny _ _ (field (.ref it) 0>>=_) _ _ s;refine wpAny_bind (wpAny_field ho hd (x:=.ref t) rfl ?_)
 show wpAny _ _ (if (Value.ref t==Value.none)=true then _ else _) _ _ s;rw[if_neg (show ¬ ((Value.ref t==Value.none)=true) from Bool.false_ne_true)]
 show wpAny _ _ (field (.ref it) 1>>=_) _ _ s;refine wpAny_bind (wpAny_field ho hd (x:=.int i 0) rfl ?_)
 show wpAny _ _ (seqItems? (.ref t)>>=_) _ _ s;refine wpAny_bind (wpAny_seqItems hol hdl ?_);simp only[Int.toNat_natCast,hx]
 refine wpAny_bind (wpAny_rule (wpAny_bind (wpAny_setField ho hd (by simp) ?_)))
 refine xI (it:=it) (h0:=s.heap) (A:=A.in1) (sZ (A:=A.in1) q ho hd hn) (Heap.SameBut.update ..).extBut (fun _ _ _ _=>trivial) fun h' a hx' hq0=>?_
 obtain⟨o',ho',hc'⟩:=hq0
 refine wpAny_bind (wpAny_isInstance (T:="StopIteration") (b:=true) ⟨_,ho',hc'⟩ isSubtype_stop ?_);exact wpAny_pure (hQ _ hx')
theorem zT{env:Env}{elts:List Expr}{x1}{pos:Pos}{t:Addr}{items:Array Value}{Q:Unit->Shared->Prop}(q:gK A s.heap)(ht:IsTup s.heap t items)(hn:(assignEach elts env).length=items.size)
  (hstar:(assignEach elts env).findIdx? (·.1)=none) (h:∀h',Heap.ExtBut s.heap.objs.size s.heap h'->wpAny (model prog w) A (assignInOrder ((assignEach elts env).map (·.2)) items.toList) Q E {s with heap:=h'}) :
  wpAny (model prog w) A (assign (.Tuple elts x1 pos) env (.ref t)) Q E s:=by
 rw[assign_Tuple]
 refine wpAny_bind (wpAny_standAt ?_)
 unfold unpack;rw[hn,hstar]
 refine wpAny_bind (wpAny_holding ?_)
 have hlt:t≠s.heap.objs.size:=by obtain⟨o,ho,_⟩:=ht;exact ne_of_lt (Heap.lt_size ho)
 unfold unpackItems;refine wpAny_bind ?_
 unfold notIterableAtAll;refine wpAny_bind (wpAny_specialOf ht.typeIs slot_tuple_iter.lookup ?_);refine wpAny_pure ?_;simp only[false_eq_true,if_false]
 refine wpAny_bind (wpAny_holding (iter_tuple ht ?_))
 refine wpAny_bind (wpAny_holding (draw_tuple hlt items.size 0 _ _ ⟨_,Heap.get?_push_size _ rfl,rfl,rfl⟩ (ht.push _) ∅ fun kw ul sB=>?_))
 rw[show List.take items.size (List.drop 0 items.toList)=items.toList from by rw[List.drop_zero];exact List.take_of_length_le (by simp),if_neg (by simp)]
 have fr:∀e,A.handled=some (.ref e)->e≠s.heap.objs.size:=fun e hq=>by
  rcases q with q|⟨e1,oe1,vs,q,he1,r⟩
  ·rw[q] at hq;cases hq
  ·rw[q] at hq;cases hq;exact ne_of_lt (Heap.lt_size he1)
 have q1:gK A kw:=by
  rcases q with q|⟨e,oe,vs,q,he,r⟩
  ·exact .inl q
  ·exact .inr ⟨e,oe,vs,q,sB.extBut e oe (fr e q) (Heap.get?_push_of_some _ he),r⟩
 refine wpAny_bind (wpAny_holding (sE q1 fr ul ((ht.push _).extBut sB.extBut hlt) (by simp) fun pi wp=>?_));simp only[Option.isSome_none,false_eq_true,if_false]
 exact wpAny_pure (h pi fun b o hb e=>wp b o hb (sB.extBut b o hb (Heap.get?_push_of_some _ e)))
end
end L2
namespace L2
open PySem PySem.Spec PyProof.Rows
noncomputable abbrev Key:=Sum Int Str
noncomputable def OJ:Key->Value->Bool
 |.inl k,v=>Value.isInt k v
 |.inr x,v=>Value.isStrOf x v
noncomputable def SK(w:World):Key->Int
 |.inl k=>hashInt k
 |.inr x=>hashStr w x
theorem cN:∀{k:Key} {v:Value},OJ k v=true->(∃i t,k=Sum.inl i/\v=Value.int i t)\/(∃x t,k=Sum.inr x/\v=Value.str x t)
 |.inl i,v,h=>by
  obtain⟨t,e⟩:=Value.isInt_shape (k:=i) (v:=v) h
  exact .inl ⟨i,t,rfl,e⟩
 |.inr x,v,h=>by
  obtain⟨t,e⟩:=Value.isStrOf_shape (x:=x) (v:=v) h
  exact .inr ⟨x,t,rfl,e⟩
theorem QK(a b:Int):decide ((Sum.inl a:Key)=Sum.inl b)=(a==b):=by
 by_cases e:a=b
 ·subst e;simp
 ·have h:¬ (Sum.inl a:Key)=Sum.inl b:=fun q=>e (Sum.inl.inj q)
  rw[decide_eq_false h]
  exact (beq_eq_false_iff_ne.mpr e).symm
theorem O2(a b:Str):decide ((Sum.inr a:Key)=Sum.inr b)=decide (a=b):=by
 by_cases e:a=b
 ·subst e;simp
 ·have h:¬ (Sum.inr a:Key)=Sum.inr b:=fun q=>e (Sum.inr.inj q)
  rw[decide_eq_false h,decide_eq_false e]
theorem Q9(a:Int)(b:Str):decide ((Sum.inl a:Key)=Sum.inr b)=false:=decide_eq_false (fun q=>nomatch q)
theorem Qq(a:Str)(b:Int):decide ((Sum.inr a:Key)=Sum.inl b)=false:=decide_eq_false (fun q=>nomatch q)
noncomputable def HZ(prog:Program)(w:World):PySem.KeyKind prog w Key where
 is:=OJ
 hash:=SK w
 inj:=fun v a b ha hb=>by
  rcases cN ha with ⟨i,t,rfl,rfl⟩|⟨x,t,rfl,rfl⟩
  ·rcases cN hb with ⟨j,u,rfl,e⟩|⟨y,u,rfl,e⟩
   ·injection e with e1 _;rw[e1]
   ·exact nomatch e
  ·rcases cN hb with ⟨j,u,rfl,e⟩|⟨y,u,rfl,e⟩
   ·exact nomatch e
   ·injection e with e1 _;rw[e1]
 byValue:=fun k v h=>by
  rcases cN h with ⟨i,t,rfl,rfl⟩|⟨x,t,rfl,rfl⟩<;>rfl
 pyHash:=fun hv h=>by
  rcases cN hv with ⟨i,t,rfl,rfl⟩|⟨x,t,rfl,rfl⟩
  ·exact wpAny_pyHash_int h
  ·exact wpAny_pyHash_str h
 eqBool:=fun hu hv h=>by
  rcases cN hu with ⟨i,t,rfl,rfl⟩|⟨x,t,rfl,rfl⟩
  ·rcases cN hv with ⟨j,u,rfl,rfl⟩|⟨y,u,rfl,rfl⟩
   ·rw[QK] at h;exact wpAny_eqBool_int h
   ·rw[Q9] at h;exact SeqAt.EqAt.int_str i t y u _ _ _ _ h
  ·rcases cN hv with ⟨j,u,rfl,rfl⟩|⟨y,u,rfl,rfl⟩
   ·rw[Qq] at h;exact SeqAt.EqAt.str_int x t j u _ _ _ _ h
   ·rw[O2] at h;exact wpAny_eqBool_str h
 «strs»:=fun k x t v h=>by
  rcases cN h with ⟨i,u,rfl,e⟩|⟨y,u,rfl,e⟩
  ·exact nomatch e
  ·injection e with e1 _
   subst e1
   cases v<;>rfl
end L2
namespace L2
open PySem PySem.Spec PyProof.Rows
inductive V where
 |non|bl (b:Bool)|int (i:Int)|str (x:Str)|byt (b:Array UInt8)|flt (b:UInt64)|ref (a:Addr)|ty (n:String)
 deriving DecidableEq
noncomputable def RelV:V->Value->Prop
 |.non,u=>u=Value.none
 |.bl b,u=>u=Value.bool b
 |.int i,u=>∃t,u=Value.int i t
 |.str x,u=>∃t,u=Value.str x t
 |.byt b,u=>∃t,u=Value.bytes b t
 |.flt b,u=>∃t,u=Value.float b t
 |.ref a,u=>u=Value.ref a
 |.ty n,u=>u=Value.type n
noncomputable abbrev Vals:List V->List Value->Prop:=Paired RelV
theorem Vals.length{xs:List V}{us:List Value}(r:Vals xs us):xs.length=us.length:=Paired.length r
theorem Vals.get:∀{xs:List V} {us:List Value} {i:Nat} {x:V},Vals xs us->xs[i]? = some x->∃u,us[i]? = some u/\RelV x u
 |_,_,_,_,.nil,e=>by simp at e
 |_,_,0,_,.cons r _,e=>by simp at e;subst e;exact⟨_,rfl,r⟩
 |_,_,i+1,x,.cons _ t,e=>by
  obtain⟨u,h1,h2⟩:=Vals.get (i:=i) (x:=x) t (by simpa using e)
  exact⟨u,by simpa using h1,h2⟩
theorem Vals.set{x:V}{u:Value}(r:RelV x u):∀{xs:List V} {us:List Value} (i:Nat),Vals xs us->Vals (xs.set i x) (us.set i u)
 |_,_,_,.nil=>.nil
 |_,_,0,.cons _ t=>.cons r t
 |_,_,i+1,.cons q t=>.cons q (Vals.set r i t)
theorem Vals.append:∀{xs ys:List V} {us ws:List Value},Vals xs us->Vals ys ws->Vals (xs++ys) (us++ws)
 |_,_,_,_,.nil,s=>s
 |_,_,_,_,.cons r t,s=>.cons r (Vals.append t s)
theorem Vals.take:∀{xs:List V} {us:List Value} (n:Nat),Vals xs us->Vals (xs.take n) (us.take n)
 |_,_,0,_=>.nil
 |_,_,_+1,.nil=>.nil
 |_,_,n+1,.cons r t=>.cons r (Vals.take n t)
theorem Vals.drop:∀{xs:List V} {us:List Value} (n:Nat),Vals xs us->Vals (xs.drop n) (us.drop n)
 |_,_,0,r=>r
 |_,_,_+1,.nil=>.nil
 |_,_,n+1,.cons _ t=>Vals.drop n t
noncomputable def RM:Option V->Option Value->Prop
 |some v,some u=>RelV v u
 |none,none=>True
 |_,_=>False
noncomputable def KV{κ:Type}:List (κ×V)->List (κ×Value)->Prop:=Paired fun (p:κ×V) (q:κ×Value)=>p.1=q.1/\RelV p.2 q.2
noncomputable def kV:Key->V
 |.inl i=>.int i
 |.inr x=>.str x
inductive HO where
  /-- a list -/
 |lst (xs:List V)
  /-- a tuple (never changes) -/
 |tup (xs:List V)
  /-- a dict whose keys are ints and texts; one whose keys are tuples of ints and texts (the empty one is both) -/
 |dK (kvs:List (Key×V))|dT (kvs:List (List Key×V))
  /-- a set of ints: its members, its size -/
 |set (S:Int->Bool) (n:Nat)
  /-- an instance of the class at C, its dict at dx, its attributes -/
 |ins (C dx:Addr) (fs:List (Str×V))
  /-- the dict of the instance at x -/
 |own (x:Addr)
  /-- the dict of an exception -/
 |xd (fs:List (Str×V))
  /-- a bound method, f of x -/
 |met (f x:Addr)
  /-- a range object lo, lo + 1, .. below hi -/
 |rng (lo hi:Int)
  /-- a thing that is known to the object (the script; a dict while a loop walks it): read, never written while it is so -/
 |frz (o:Obj) (u:HO)
  /-- a code object's table -/
 |tbl (ps:Array Value)
  /-- any other thing, by what is true of its one object (a def of one's own: SetO a S n := HO.ext fun h => ..) -/
 |ext (φ:Heap->Prop)
  /-- the object itself; it may change -/
 |raw (o:Obj)
noncomputable abbrev Hp:=Addr->Option HO
noncomputable def upd(H:Hp)(a:Addr)(o:HO):Hp:=fun b=>if b=a then some o else H b
theorem eN{H:Hp}{a:Addr}{o:HO}:upd H a o a=some o:=by unfold upd;rw[if_pos rfl]
theorem aU{H:Hp}{a b:Addr}{o:HO}(h:b≠a):upd H a o b=H b:=by unfold upd;rw[if_neg h]
theorem aY{H:Hp}{a b:Addr}{o:HO}(h:H a=some o)(h':H b=none):a≠b:=by
 intro e;subst e;rw[h] at h';cases h'
section
variable (P:Program)(w:World)
noncomputable def hV(H:Hp)(h:Heap)(a:Addr):HO->Prop
 |.lst xs=>xs.length<=sizeLine/\∃(its:List Value) (n:Nat),Vals xs its/\h.get? a=some {cls:=.type "list",data:=.seq its.toArray n}
 |.tup xs=>xs.length<=sizeLine/\∃its:List Value,Vals xs its/\IsTup h a its.toArray
 |.dK kvs=>kvs.length<=sizeLine/\(a==sysModules)=false/\∃vs,KV kvs vs/\h.DictOf (HZ P w) a vs
 |.dT kvs=>kvs.length<=sizeLine/\(a==sysModules)=false/\∃xs:List (List Key×Addr×Value),
   Paired (fun (p:List Key×V) (q:List Key×Addr×Value)=>p.1=q.1/\H q.2.1=some (.tup (p.1.map kV))/\RelV p.2 q.2.2) kvs xs /\
   ∃o es ep,h.get? a=some o/\o.ExactDict/\o.data = .dict es ep/\es.toList=xs.map (entryOfKey (tupleKind (HZ P w)))/\(xs.map (·.1)).Nodup
 |.set S n=>h.SetOf (intKind P w) a S n
 |.ins C dx fs=>H dx=some (.own a)/\fs.length<=1000/\dx≠a/\h.get? a=some (PySem.W.instObj C dx) /\
   ∃mA,h.Ns1 dx mA/\(∀f,RM (fs.lookup f) (mA f))/\PySem.Within mA (fs.map (·.1))
 |.own _=>∃o,h.get? a=some o
 |.xd fs=>∃mA,h.Ns1 a mA/\∀f,RM (fs.lookup f) (mA f)
 |.rng lo hi=>∃t u v,h.get? a=some {cls:=.type "range",data:=.fields #[.int lo t,.int hi u,.int 1 v]}
 |.frz o u=>h.get? a=some o/\hV H h a u
 |.tbl ps=>h.get? a=some {cls:=.none,data:=.fields ps}
 |.met f x=>h.get? a=some (PySem.W.methodObj (.ref f) (.ref x))
 |.ext φ=>φ h/\(∃o,h.get? a=some o)/\∀h1 h2:Heap,φ h1->(∀o,h1.get? a=some o->h2.get? a=some o)->φ h2
 |.raw o=>h.get? a=some o
noncomputable def HOk(H:Hp)(h:Heap):Prop:=∀a o,H a=some o->hV P w H h a o
end
section
variable {P:Program}{w:World}{H H':Hp}{h h':Heap}{a:Addr}{o:HO}
theorem hV.lt(x:hV P w H h a o):a<h.objs.size:=by
 cases o with
 |lst xs=>obtain⟨_,_,_,_,e⟩:=x;exact Heap.lt_size e
 |tup xs=>obtain⟨_,_,_,p⟩:=x;exact p.lt
 |dK kvs=>obtain⟨_,_,_,_,o,_,_,e,_⟩:=x;exact Heap.lt_size e
 |dT kvs=>obtain⟨_,_,_,_,o,_,_,e,_⟩:=x;exact Heap.lt_size e
 |set S n=>obtain⟨o,_,_,_,e,_⟩:=x;exact Heap.lt_size e
 |ins C dx fs=>obtain⟨_,_,_,e,_⟩:=x;exact Heap.lt_size e
 |own y=>obtain⟨_,e⟩:=x;exact Heap.lt_size e
 |xd fs=>obtain⟨_,⟨_,_,_,e,_⟩,_⟩:=x;exact Heap.lt_size e
 |rng lo hi=>obtain⟨_,_,_,e⟩:=x;exact Heap.lt_size e
 |frz ob u=>obtain⟨e,_⟩:=x;exact Heap.lt_size e
 |tbl ps=>exact Heap.lt_size (show h.get? a=some _ from x)
 |met f y=>exact Heap.lt_size (show h.get? a=some _ from x)
 |ext φ=>obtain⟨_,⟨_,e⟩,_⟩:=x;exact Heap.lt_size e
 |raw ob=>exact Heap.lt_size (show h.get? a=some ob from x)
theorem Paired.NP{α β:Type}{F G:α->β->Prop}:∀{tz:List α} {l₂:List β},Paired F tz l₂->(∀a b,F a b->G a b)->Paired G tz l₂
 |_,_,.nil,_=>.nil
 |_,_,.cons r t,f=>.cons (f _ _ r) (Paired.NP t f)
theorem hV.CN(x:hV P w H h a o)(k:∀b u,(b=a\/H b=some (.own a))->h.get? b=some u->h'.get? b=some u)
  (ho:∀b,H b=some (.own a)->H' b=some (.own a)) (ht:∀b xs,H b=some (.tup xs)->H' b=some (.tup xs)):hV P w H' h' a o:=by
 induction o with
 |lst xs=>obtain⟨z,its,n,r,e⟩:=x;exact⟨z,its,n,r,k _ _ (.inl rfl) e⟩
 |tup xs=>obtain⟨z,its,r,ob,e,c⟩:=x;exact⟨z,its,r,ob,k _ _ (.inl rfl) e,c⟩
 |dK kvs=>obtain⟨z,y,vs,r,ob,es,ep,e,c⟩:=x;exact⟨z,y,vs,r,ob,es,ep,k _ _ (.inl rfl) e,c⟩
 |dT kvs=>
  obtain⟨z,y,xs,r,ob,es,ep,e,c⟩:=x
  exact⟨z,y,xs,Paired.NP r fun p q z=>⟨z.1,ht _ _ z.2.1,z.2.2⟩,ob,es,ep,k _ _ (.inl rfl) e,c⟩
 |set S n=>obtain⟨ob,es,ep,t,e,c⟩:=x;exact⟨ob,es,ep,t,k _ _ (.inl rfl) e,c⟩
 |ins C dx fs=>
  obtain⟨d,z,ne,e,mA,⟨od,es,ep,e2,c⟩,r⟩:=x
  exact⟨ho _ d,z,ne,k _ _ (.inl rfl) e,mA,⟨od,es,ep,k _ _ (.inr d) e2,c⟩,r⟩
 |own y=>obtain⟨ob,e⟩:=x;exact⟨ob,k _ _ (.inl rfl) e⟩
 |xd fs=>obtain⟨mA,⟨od,es,ep,e,c⟩,r⟩:=x;exact⟨mA,⟨od,es,ep,k _ _ (.inl rfl) e,c⟩,r⟩
 |rng lo hi=>obtain⟨t,u,v,e⟩:=x;exact⟨t,u,v,k _ _ (.inl rfl) e⟩
 |frz ob u ih=>obtain⟨e,q⟩:=x;exact⟨k _ _ (.inl rfl) e,ih q⟩
 |tbl ps=>
  have e:h.get? a=some {cls:=.none,data:=.fields ps}:=x
  show h'.get? a=some {cls:=.none,data:=.fields ps}
  exact k a _ (.inl rfl) e
 |met f y=>
  have e:h.get? a=some (PySem.W.methodObj (.ref f) (.ref y)):=x
  show h'.get? a=some (PySem.W.methodObj (.ref f) (.ref y))
  exact k a _ (.inl rfl) e
 |raw ob=>
  have e:h.get? a=some ob:=x
  show h'.get? a=some ob
  exact k a _ (.inl rfl) e
 |ext φ=>obtain⟨p,⟨o,e⟩,st⟩:=x;exact⟨st _ _ p fun o q=>k _ _ (.inl rfl) q,⟨o,k _ _ (.inl rfl) e⟩,st⟩
theorem HOk.lt(x:HOk P w H h)(e:H a=some o):a<h.objs.size:=(x a o e).lt
theorem HOk.fresh(x:HOk P w H h)(e:h.objs.size<=a):H a=none:=by
 cases q:H a with
 |none=>rfl
 |some u=>exact absurd (lt_of_lt_of_le (x.lt q) e) (lt_irrefl _)
theorem HOk.kept(x:HOk P w H h)(k:∀b u,h.get? b=some u->h'.get? b=some u):HOk P w H h':=fun a o e=>
 (x a o e).CN (fun b u _ q=>k b u q) (fun _ q=>q) fun _ _ q=>q
theorem HOk.laid(x:HOk P w H h)(k:∀b u,h.get? b=some u->h'.get? b=some u)(hp:h.objs.size<=a)(new:hV P w (upd H a o) h' a o):HOk P w (upd H a o) h':=fun b u e=>by
 have hn:=x.fresh hp
 by_cases hb:b=a
 ·subst hb;rw[eN] at e;cases e;exact new
 ·rw[aU hb] at e
  exact (x b u e).CN (fun c v _ q=>k c v q) (fun c q=>by rw[aU (aY q hn)];exact q) fun c xs q=>by rw[aU (aY q hn)];exact q
end
noncomputable def Rd(H:Hp)(a:Addr)(u:HO):Prop:=H a=some u\/∃o,H a=some (.frz o u)
theorem Rd.ok{P:Program}{w:World}{H:Hp}{h:Heap}{a:Addr}{u:HO}(r:Rd H a u)(x:HOk P w H h):hV P w H h a u:=by
 rcases r with r|⟨o,r⟩
 ·exact x a u r
 ·obtain⟨_,q⟩:=x a _ r
  exact q
noncomputable def Mut:Option HO->Prop
 |some (.lst _)=>True
 |some (.dK _)=>True
 |some (.dT _)=>True
 |some (.set _ _)=>True
 |some (.ins _ _ _)=>True
 |some (.ext _)=>True
 |some (.raw _)=>True
 |_=>False
section
variable {P:Program}{w:World}{H:Hp}{h h':Heap}{x e:Addr}{o':HO}
theorem HOk.write(ok:HOk P w H h)(mu:Mut (H x))(he:e=x\/H e=some (.own x))(k:∀b u,b≠e->h.get? b=some u->h'.get? b=some u)(heo:∃u,h'.get? e=some u)
  (new:hV P w (upd H x o') h' x o'):HOk P w (upd H x o') h':=fun b u q=>by
 have nown:∀c y,H c=some (.own y)->c≠x:=fun c y r z=>by subst z;rw[r] at mu;exact mu
 have ntup:∀c xs,H c=some (.tup xs)->c≠x:=fun c xs r z=>by subst z;rw[r] at mu;exact mu
 by_cases hb:b=x
 ·subst hb;rw[eN] at q;cases q;exact new
 ·rw[aU hb] at q
  by_cases hbe:b=e
  ·have q':H b=some (.own x):=by
    rcases he with z|z
    ·exact absurd (hbe.trans z) hb
    ·rw[hbe];exact z
   rw[q] at q';cases q'
   obtain⟨v,hv⟩:=heo
   exact⟨v,by rw[hbe];exact hv⟩
  ·refine (ok b u q).CN (fun c v hc r=>k c v ?_ r) (fun c r=>by rw[aU (nown c b r)];exact r) fun c xs r=>by rw[aU (ntup c xs r)];exact r
   rcases hc with rfl|hc
   ·exact hbe
   ·rintro rfl
    rcases he with z|z
    ·exact nown c b hc z
    ·rw[hc] at z;cases z;exact hb rfl
end
structure Un(fs ex:List Addr)(H H':Hp)(h h':Heap):Prop where
 keep:∀b o,h.get? b=some o->H b=none->b ∉ fs->b ∉ ex->h'.get? b=some o
 slot:∀b o,h.get? b=some o->H b=none->b∈fs->b ∉ ex->∃sl,h'.get? b=some {o with slots:=sl}
 free:∀b o,h.get? b=some o->H b=none->b ∉ ex->H' b=none
 there:∀b o,h.get? b=some o->b ∉ ex->∃o',h'.get? b=some o'
 vU:∀b xs,H b=some (.tup xs)->H' b=some (.tup xs)
 tV:∀b o u,H b=some (.frz o u)->H' b=some (.frz o u)
 tN:∀b ps,H b=some (.tbl ps)->∃more,H' b=some (.tbl (ps++more))
section
variable {fs fs' ex ex':List Addr}{H H1 H2:Hp}{h h1 h2 h':Heap}{a x e:Addr}{o:HO}
theorem Un.any(u:Un fs ex H H1 h h1){b:Addr}{ob:Obj}(q:h.get? b=some ob)(n:H b=none)(hx:b ∉ ex):∃sl,h1.get? b=some {ob with slots:=sl}:=by
 by_cases hb:b∈fs
 ·exact u.slot b ob q n hb hx
 ·exact⟨ob.slots,u.keep b ob q n hb hx⟩
theorem Un.trans(a:Un fs ex H H1 h h1)(b:Un fs ex H1 H2 h1 h2):Un fs ex H H2 h h2 where
 keep:=fun c ob q n hc hx=>b.keep c ob (a.keep c ob q n hc hx) (a.free c ob q n hx) hc hx
 slot:=fun c ob q n hc hx=>by
  obtain⟨sl,e1⟩:=a.slot c ob q n hc hx
  obtain⟨sl',e2⟩:=b.slot c _ e1 (a.free c ob q n hx) hc hx
  exact⟨sl',e2⟩
 free:=fun c ob q n hx=>by
  obtain⟨o',e1⟩:=a.there c ob q hx
  exact b.free c o' e1 (a.free c ob q n hx) hx
 there:=fun c ob q hx=>by
  obtain⟨o',e1⟩:=a.there c ob q hx
  exact b.there c o' e1 hx
 vU:=fun c xs q=>b.vU c xs (a.vU c xs q)
 tV:=fun c ob xs q=>b.tV c ob xs (a.tV c ob xs q)
 tN:=fun c ps q=>by
  obtain⟨m1,e1⟩:=a.tN c ps q
  obtain⟨m2,e2⟩:=b.tN c _ e1
  exact⟨m1++m2,by rw[e2,Array.append_assoc]⟩
theorem Un.kept(k:∀b u,h.get? b=some u->h'.get? b=some u):Un fs ex H H h h':=
 ⟨fun b ob q _ _ _=>k b ob q,fun b ob q _ _ _=>⟨ob.slots,k b ob q⟩,fun _ _ _ n _=>n,fun b ob q _=>⟨ob,k b ob q⟩,fun _ _ q=>q,fun _ _ _ q=>q,fun _ ps q=>⟨#[],by rw[q];simp⟩⟩
theorem Un.refl:Un fs ex H H h h:=Un.kept fun _ _ q=>q
theorem Un.laid(k:∀b u,h.get? b=some u->h'.get? b=some u)(hp:h.objs.size<=a)(hn:H a=none):Un fs ex H (upd H a o) h h' where
 keep:=fun b u q _ _ _=>k b u q
 slot:=fun b u q _ _ _=>⟨u.slots,k b u q⟩
 free:=fun b u q n _=>by rw[aU (ne_of_lt (lt_of_lt_of_le (Heap.lt_size q) hp))];exact n
 there:=fun b u q _=>⟨u,k b u q⟩
 vU:=fun b xs q=>by rw[aU (aY q hn)];exact q
 tV:=fun b u xs q=>by rw[aU (aY q hn)];exact q
 tN:=fun b ps q=>⟨#[],by rw[aU (aY q hn),q];simp⟩
theorem Un.write(mu:Mut (H x))(he:e=x\/H e=some (.own x))(k:∀b u,b≠e->h.get? b=some u->h'.get? b=some u)(heo:∃u,h'.get? e=some u):Un fs ex H (upd H x o) h h':=by
 have hx:∀b,H b=none->b≠x:=fun b n z=>by subst z;rw[n] at mu;exact mu
 have hb:∀b,H b=none->b≠e:=fun b n z=>by
  subst z
  rcases he with r|r
  ·exact hx b n r
  ·rw[n] at r;cases r
 have hm:∀b u,H b=some u->¬ Mut (some u)->b≠x:=fun b u q nm z=>by subst z;rw[q] at mu;exact nm mu
 refine⟨fun b u q n _ _=>k b u (hb b n) q,fun b u q n _ _=>⟨u.slots,k b u (hb b n) q⟩,fun b u q n _=>by rw[aU (hx b n)];exact n,fun b u q _=>?_,
  fun b xs q=>by rw[aU (hm b _ q fun z=>z)];exact q,fun b u xs q=>by rw[aU (hm b _ q fun z=>z)];exact q,fun b ps q=>⟨#[],by rw[aU (hm b _ q fun z=>z),q];simp⟩⟩
 by_cases hbe:b=e
 ·subst hbe;exact heo
 ·exact⟨u,k b u hbe q⟩
end
noncomputable def trk(h:Heap)(H:Hp):List Addr:=(List.range h.objs.size).filter fun a=>(H a).isSome
noncomputable def BX(h:Heap)(H:Hp):Heap:=PySem.W.hideAll h (trk h H)
theorem Js(h:Heap)(H:Hp):(BX h H).objs.size=h.objs.size:=PySem.W.hideAll_size _ _
theorem J8{h:Heap}{H:Hp}{b:Addr}{o:Obj}(e:h.get? b=some o)(n:H b=none):(BX h H).get? b=some o:=
 PySem.W.hideAll_get _ e fun hm=>by
  have q:(H b).isSome=true:=(List.mem_filter.mp hm).2
  rw[n] at q;simp at q
theorem Nr{h:Heap}{H:Hp}{b:Addr}{o:Obj}(e:(BX h H).get? b=some o):h.get? b=some o/\H b=none:=by
 have e':h.get? b=some o:=PySem.W.of_hideAll (trk h H) e
 refine⟨e',?_⟩
 cases q:H b with
 |none=>rfl
 |some x=>
  have hm:b∈trk h H:=List.mem_filter.mpr ⟨List.mem_range.mpr (Heap.lt_size e'),by simp[q]⟩
  have z:(BX h H).get? b=none:=PySem.W.hideAll_none (trk h H) hm
  rw[z] at e;cases e
noncomputable def NS(g h:Heap)(L:Addr):List (Addr×Obj):=(List.range h.objs.size).filterMap fun a=>if a=L\/(g.get? a).isSome=true then none else (h.get? a).map fun o=>(a,o)
noncomputable def rest(g h:Heap)(L d:Addr):List (Addr×Obj):=(NS g h L).filter fun p=>decide (p.1≠d)
end L2
namespace L2
open PySem PySem.Spec PyProof.Rows
structure Mod(K:PySem.W.Frag)(mg:Str->Option Value)(base:Heap):Prop where
 kin:K.In base
 glob:base.Ns mainGlobals mg
 blt:∃mb,base.Ns builtinsNs mb/\∀x:Str,x ≠ "__name__"->mb x=bootBuiltins x
 nolimit:base.NoLimit
structure Cx where
 prog:Program
 w:World
 K:PySem.W.Frag
 mg:Str->Option Value
 base:Heap
 A:Around
 N:List Str
 ga:Shared
 H₀:Hp
 env:Env
 outer:List Env
 stack:List Env
 ex:List Addr
 fn:Str->Bool
 calm:Bool
 pn:List (Addr×Obj)
 xe:Value->Shared->Prop
noncomputable def frs(l:List Env):List Addr:=l.filterMap (·.frame)
noncomputable abbrev Cx.fs(X:Cx):List Addr:=frs X.outer
noncomputable def Vis(sc:Scope)(x:Str):Prop:=sc.names.lookup x=some .local\/sc.names.lookup x=some .cell\/sc.names.lookup x=some .free
noncomputable def Loc(sc:Scope)(x:Str):Prop:=sc.names.lookup x=some .local\/sc.names.lookup x=some .cell
noncomputable def Look(env:Env)(h:Heap)(m:Str->Option Value)(x:Str)(u:Value):Prop:=
 (env.kindOf x=some .local/\m x=some u)\/((env.kindOf x=some .cell\/env.kindOf x=some .free)/\∃c,env.cells.lookup x=some c/\h.IsCell c (some u))
structure Cx.Ok(X:Cx):Prop where
 mod:Mod X.K X.mg X.base
 kind:X.env.scope.kind = .function
 glob:X.env.globals=mainGlobals
 blt:X.env.builtins=builtinsNs
 above:X.ga.heap.objs.size<=X.env.locals
 inj:∀x y c,X.env.cells.lookup x=some c->X.env.cells.lookup y=some c->x=y
 has:∀x,(X.env.kindOf x=some .cell\/X.env.kindOf x=some .free)->∃c,X.env.cells.lookup x=some c
 cab:∀x c,X.fn x=true->X.env.cells.lookup x=some c->X.ga.heap.objs.size<=c
 hd:X.calm=true->X.A.handled=none
 qt:X.A.handled=none\/∃(e:Addr) (oe:Obj) (vs:Array Value),X.A.handled=some (.ref e)/\(e,oe)∈X.pn/\oe.data = .fields vs/\vs[2]? = some .none
 frames:X.A.frames=some X.stack
 stk:X.stack=X.outer\/(X.stack=X.env::X.outer/\X.env.frame=some X.env.locals)
 exf:∀b∈X.ex,b≠X.env.locals/\∀x c,X.env.cells.lookup x=some c->c≠b
 bs:∀b o,X.base.get? b=some o->X.ga.heap.get? b=some o/\X.H₀ b=none
 bsz:X.base.objs.size<=X.ga.heap.objs.size
 LI:∀b o,X.base.get? b=some o->b ∉ X.ex
 MD:∀b∈X.ex,b ∉ X.fs
 wU:X.ga.heap.FunFrames X.base X.outer
 frf:∀b∈X.fs,X.H₀ b=none
structure Inv(X:Cx)(pins:List (Addr×Obj))(Z:List (Option V))(H:Hp)(s:Shared):Prop where
 ok:X.Ok
 os:s.os=X.ga.os
 bare:AllBare s.gens
 base:Un X.fs X.ex X.H₀ H X.ga.heap s.heap
 loc:∃m,s.heap.Ns X.env.locals m/\∀(i:Nat) (x:Str) (v:V),X.N[i]? = some x->Z[i]? = some (some v)->Vis X.env.scope x->∃u,RelV v u/\Look X.env s.heap m x u
 cell:∀x c,X.env.cells.lookup x=some c->∃v,s.heap.IsCell c v
 free:H X.env.locals=none
 pB:∀x c,X.env.cells.lookup x=some c->H c=none
 pin:∀p∈X.pn++pins,s.heap.get? p.1=some p.2/\H p.1=none/\p.1≠X.env.locals/\p.1 ∉ X.fs/\∀v,p.2.data≠.cell v
 hok:HOk X.prog X.w H s.heap
 len:Z.length=X.N.length
section
variable {X:Cx}{pins:List (Addr×Obj)}{Z:List (Option V)}{H H':Hp}{s:Shared}{h':Heap}
theorem Inv.Fi(I:Inv X pins Z H s):gK X.A s.heap:=by
 rcases I.ok.qt with q|⟨e,oe,vs,q,hp,r⟩
 ·exact .inl q
 ·exact .inr ⟨e,oe,vs,q,(I.pin (e,oe) (mem_append_left _ hp)).1,r⟩
theorem Inv.hne(I:Inv X pins Z H s){b:Addr}(hb:∀p∈X.pn++pins,p.1≠b):∀e,X.A.handled=some (.ref e)->e≠b:=fun e he=>by
 rcases I.ok.qt with q|⟨e1,oe,vs,q,hp,r⟩
 ·rw[q] at he;cases he
 ·rw[q] at he;cases he;exact hb (e,oe) (mem_append_left _ hp)
theorem Cx.Ok.Th(ok:X.Ok){b:Addr}{o:Obj}(e:X.base.get? b=some o):b ∉ X.fs:=fun hb=>by
 have:=(ok.wU.mem hb).1
 rw[e] at this;cases this
theorem Inv.bs(I:Inv X pins Z H s):∀b o,X.base.get? b=some o->s.heap.get? b=some o/\H b=none:=fun b o e=>
 ⟨I.base.keep b o (I.ok.bs b o e).1 (I.ok.bs b o e).2 (I.ok.Th e) (I.ok.LI b o e),I.base.free b o (I.ok.bs b o e).1 (I.ok.bs b o e).2 (I.ok.LI b o e)⟩
theorem Inv.bk(I:Inv X pins Z H s):∀b o,X.base.get? b=some o->s.heap.get? b=some o:=fun b o e=>(I.bs b o e).1
theorem Inv.mod(I:Inv X pins Z H s):Mod X.K X.mg X.base:=I.ok.mod
theorem Inv.kIn(I:Inv X pins Z H s):X.K.In s.heap:=I.ok.mod.kin.keeps I.bk
theorem Inv.lt(I:Inv X pins Z H s):X.env.locals<s.heap.objs.size:=let ⟨_,hn,_⟩:=I.loc;hn.lt
theorem Inv.sz(I:Inv X pins Z H s):X.ga.heap.objs.size<=s.heap.objs.size:=le_trans I.ok.above (Nat.le_of_lt I.lt)
theorem Inv.Tw(I:Inv X pins Z H s){a:Addr}(h:s.heap.objs.size<=a):a ∉ X.fs:=fun hb=>by
 obtain⟨_,o,ho,_⟩:=I.ok.wU.mem hb
 exact absurd (lt_of_lt_of_le (Heap.lt_size ho) (le_trans I.sz h)) (lt_irrefl _)
theorem Inv.cne(I:Inv X pins Z H s):∀x c,X.env.cells.lookup x=some c->c≠X.env.locals:=fun x c e z=>by
 obtain⟨v,o,ho,hd⟩:=I.cell x c e
 obtain⟨m,⟨o',es,ep,ho',hd',_⟩,_⟩:=I.loc
 rw[z,ho'] at ho;cases ho;rw[hd'] at hd;cases hd
theorem Inv.wU(I:Inv X pins Z H s):s.heap.FunFrames X.base X.outer:=by
 have all:∀(l:List Env),(∀b∈frs l,b∈X.fs)->X.ga.heap.FunFrames X.base l->s.heap.FunFrames X.base l:=by
  intro l
  induction l with
  |nil=>intro _ _;trivial
  |cons env r ih=>
   intro hs hl
   obtain⟨hk,⟨L,o,hf,hn,ho,hd⟩,hr⟩:=hl
   have hL:L∈X.fs:=hs L (by unfold frs;rw[filterMap_cons,hf];exact mem_cons_self)
   obtain⟨sl,e⟩:=I.base.slot L o ho (I.ok.frf L hL) hL fun z=>I.ok.MD L z hL
   exact⟨hk,⟨L,_,hf,hn,e,hd⟩,ih (fun b hb=>hs b (by unfold frs;rw[filterMap_cons,hf];exact mem_cons_of_mem _ hb)) hr⟩
 exact all X.outer (fun _ hb=>hb) I.ok.wU
theorem Inv.stack(I:Inv X pins Z H s):s.heap.FunFrames X.base X.stack:=by
 rcases I.ok.stk with e|⟨e,hf⟩
 ·rw[e];exact I.wU
 ·rw[e]
  obtain⟨m,hn,_⟩:=I.loc
  refine .cons (by rw[I.ok.kind];decide) hf hn ?_ I.wU
  exact Heap.get?_none_of_le (le_trans I.ok.bsz I.ok.above)
theorem Inv.Bk(I:Inv X pins Z H s):∀b∈frs X.stack,b∈X.env.locals::X.fs:=fun b hb=>by
 rcases I.ok.stk with e|⟨e,hf⟩
 ·rw[e] at hb;exact mem_cons_of_mem _ hb
 ·rw[e] at hb
  unfold frs at hb
  rw[filterMap_cons,hf] at hb
  exact hb
theorem Inv.G0(I:Inv X pins Z H s):∀b∈frs X.stack,H b=none:=fun b hb=>by
 rcases List.mem_cons.mp (I.Bk b hb) with e|hb
 ·rw[e];exact I.free
 ·obtain⟨_,o,ho,_⟩:=I.ok.wU.mem hb
  exact I.base.free b o ho (I.ok.frf b hb) fun z=>I.ok.MD b z hb
theorem Inv.step{g':Array GenState}{t':Nat}{d':Drawn}{ch:List Addr}(I:Inv X pins Z H s)
  (hch:∀b∈ch,(b∈X.ex\/X.ga.heap.objs.size<=b)/\b≠X.env.locals/\(∀x c,X.env.cells.lookup x=some c->c≠b)/\∀p∈X.pn++pins,p.1≠b)
  (keep:∀b o,b≠X.env.locals->b ∉ X.fs->b ∉ ch->s.heap.get? b=some o->H b=none->h'.get? b=some o)
  (slot:∀b o,b≠X.env.locals->b∈X.fs->b ∉ ch->s.heap.get? b=some o->H b=none->∃sl,h'.get? b=some {o with slots:=sl}) (free:∀b o,b ∉ ch->s.heap.get? b=some o->H b=none->H' b=none)
  (there:∀b o,b ∉ ch->s.heap.get? b=some o->∃o',h'.get? b=some o')
  (vU:∀b xs,H b=some (.tup xs)->H' b=some (.tup xs)) (tV:∀b o u,H b=some (.frz o u)->H' b=some (.frz o u)) (tN:∀b ps,H b=some (.tbl ps)->∃more,H' b=some (.tbl (ps++more)))
  (ns:∀m,s.heap.Ns X.env.locals m->h'.Ns X.env.locals m) (hok:HOk X.prog X.w H' h') (hg:AllBare g') :
  Inv X pins Z H' {s with heap:=h',gens:=g',drawn:=d',toks:=t'}:=by
 have neL:∀b o,X.ga.heap.get? b=some o->b≠X.env.locals:=fun b o e=>ne_of_lt (lt_of_lt_of_le (Heap.lt_size e) I.ok.above)
 have neC:∀b o,X.ga.heap.get? b=some o->b ∉ X.ex->b ∉ ch:=fun b o e hx hb=>by
  rcases (hch b hb).1 with z|z
  ·exact hx z
  ·exact absurd (lt_of_lt_of_le (Heap.lt_size e) z) (lt_irrefl _)
 have cellK:∀x c,X.env.cells.lookup x=some c->∀v,s.heap.IsCell c v->h'.IsCell c v:=fun x c e v ⟨o,ho,hd⟩=>by
  have nch:c ∉ ch:=fun z=>(hch c z).2.2.1 x c e rfl
  by_cases hc:c∈X.fs
  ·obtain⟨sl,q⟩:=slot c o (I.cne x c e) hc nch ho (I.pB x c e)
   exact⟨_,q,hd⟩
  ·exact⟨o,keep c o (I.cne x c e) hc nch ho (I.pB x c e),hd⟩
 refine⟨I.ok,I.os,hg,⟨fun b o e n hb hx=>?_,fun b o e n hb hx=>?_,fun b o e n hx=>?_,fun b o e hx=>?_,fun b xs e=>vU b xs (I.base.vU b xs e),fun b o xs e=>tV b o xs (I.base.tV b o xs e),fun b ps e=>?_⟩,?_,fun x c e=>?_,?_,fun x c e=>?_,fun p hp=>?_,hok,I.len⟩
 ·exact keep b o (neL b o e) hb (neC b o e hx) (I.base.keep b o e n hb hx) (I.base.free b o e n hx)
 ·obtain⟨sl,e1⟩:=I.base.slot b o e n hb hx
  obtain⟨sl',e2⟩:=slot b _ (neL b o e) hb (neC b o e hx) e1 (I.base.free b o e n hx)
  exact⟨sl',e2⟩
 ·obtain⟨o',e1⟩:=I.base.there b o e hx
  exact free b o' (neC b o e hx) e1 (I.base.free b o e n hx)
 ·obtain⟨o',e1⟩:=I.base.there b o e hx
  exact there b o' (neC b o e hx) e1
 ·obtain⟨m1,e1⟩:=I.base.tN b ps e
  obtain⟨m2,e2⟩:=tN b _ e1
  exact⟨m1++m2,by rw[e2,Array.append_assoc]⟩
 ·obtain⟨m,hn,hl⟩:=I.loc
  refine⟨m,ns m hn,fun i x v e1 e2 e3=>?_⟩
  obtain⟨u,r,l⟩:=hl i x v e1 e2 e3
  refine⟨u,r,?_⟩
  rcases l with l|⟨k,c,e,z⟩
  ·exact .inl l
  ·exact .inr ⟨k,c,e,cellK x c e _ z⟩
 ·obtain⟨v,z⟩:=I.cell x c e
  exact⟨v,cellK x c e v z⟩
 ·obtain⟨m,⟨o,_,_,ho,_⟩,_⟩:=I.loc
  exact free _ o (fun z=>(hch _ z).2.1 rfl) ho I.free
 ·obtain⟨v,o,ho,hd⟩:=I.cell x c e
  exact free c o (fun z=>(hch c z).2.2.1 x c e rfl) ho (I.pB x c e)
 ·obtain⟨e,n,ne,nf,d⟩:=I.pin p hp
  have nch:p.1 ∉ ch:=fun z=>(hch p.1 z).2.2.2 p hp rfl
  exact⟨keep p.1 p.2 ne nf nch e n,free p.1 p.2 nch e n,ne,nf,d⟩
theorem Inv.un{t':Nat}(I:Inv X pins Z H s)(u:Un X.fs [] H H' s.heap h')(hok:HOk X.prog X.w H' h'):Inv X pins Z H' {s with heap:=h',toks:=t'}:=by
 obtain⟨m,⟨o,es,ep,ho,r⟩,_⟩:=id I.loc
 obtain⟨sl,hL⟩:=u.any ho I.free (by simp)
 exact I.step (g':=s.gens) (d':=s.drawn) (ch:=[]) (fun _ z=>nomatch z) (fun b o _ hb _ e n=>u.keep b o e n hb (by simp)) (fun b o _ hb _ e n=>u.slot b o e n hb (by simp)) (fun b o _ e n=>u.free b o e n (by simp)) (fun b o _ e=>u.there b o e (by simp)) u.vU u.tV u.tN (fun m' hm=>by
  obtain⟨o',es',ep',ho',r'⟩:=hm
  rw[ho] at ho';cases ho'
  exact⟨_,es',ep',hL,r'⟩) hok I.bare
theorem Inv.call{g':Array GenState}{t':Nat}{d':Drawn}{ch:List Addr}(I:Inv X pins Z H s)(u:Un (frs X.stack) ch H H' s.heap h')(hok:HOk X.prog X.w H' h')(hg:AllBare g')
  (hch:∀b∈ch,(b∈X.ex\/X.ga.heap.objs.size<=b)/\b≠X.env.locals/\(∀x c,X.env.cells.lookup x=some c->c≠b)/\∀p∈X.pn++pins,p.1≠b) :
  Inv X pins Z H' {s with heap:=h',gens:=g',drawn:=d',toks:=t'}:=by
 obtain⟨m,⟨o,es,ep,ho,r⟩,_⟩:=id I.loc
 obtain⟨sl,hL⟩:=u.any ho I.free fun z=>(hch _ z).2.1 rfl
 exact I.step (ch:=ch) hch (fun b o hL hb hc e n=>u.keep b o e n (fun z=>(List.mem_cons.mp (I.Bk b z)).elim hL hb) hc) (fun b o _ _ hc e n=>u.any e n hc) (fun b o hc e n=>u.free b o e n hc) (fun b o hc e=>u.there b o e hc) u.vU u.tV u.tN (fun m' hm=>by
  obtain⟨o',es',ep',ho',r'⟩:=hm
  rw[ho] at ho';cases ho'
  exact⟨_,es',ep',hL,r'⟩) hok hg
theorem Inv.turned{t':Nat}{it:Addr}(I:Inv X pins Z H s)(k:∀b o,b≠it->s.heap.get? b=some o->h'.get? b=some o)(hn:H it=none)(hL:it≠X.env.locals)
  (h1:it∈X.ex\/X.ga.heap.objs.size<=it) (h2:∀x c,X.env.cells.lookup x=some c->c≠it) (h3:∀p∈X.pn++pins,p.1≠it):Inv X pins Z H {s with heap:=h',toks:=t'}:=by
 have nit:∀b u,H b=some u->b≠it:=fun b u e z=>by rw[z,hn] at e;cases e
 refine I.step (g':=s.gens) (d':=s.drawn) (ch:=[it]) (fun b hb=>?_) (fun b o _ _ hc e _=>k b o (fun z=>hc (by simp[z])) e) (fun b o _ _ hc e _=>⟨o.slots,k b o (fun z=>hc (by simp[z])) e⟩) (fun _ _ _ _ n=>n)
  (fun b o hc e=>⟨o,k b o (fun z=>hc (by simp[z])) e⟩) (fun _ _ e=>e) (fun _ _ _ e=>e) (fun b ps e=>⟨#[],by rw[e];simp⟩) (fun m hm=>?_) (fun b u e=>?_) I.bare
 ·have e:b=it:=by simpa using hb
  subst e
  exact⟨h1,hL,h2,h3⟩
 ·obtain⟨o,es,ep,ho,r⟩:=hm
  exact⟨o,es,ep,k _ o (Ne.symm hL) ho,r⟩
 ·refine (I.hok b u e).CN (fun c v hc q=>k c v ?_ q) (fun _ q=>q) fun _ _ q=>q
  rcases hc with z|z
  ·rw[z];exact nit b u e
  ·exact nit c _ z
theorem Inv.tok(I:Inv X pins Z H s)(t:Nat):Inv X pins Z H {s with toks:=t}:=I.un (h':=s.heap) (t':=t) Un.refl I.hok
theorem Inv.kept{t':Nat}(I:Inv X pins Z H s)(k:∀b u,s.heap.get? b=some u->h'.get? b=some u):Inv X pins Z H {s with heap:=h',toks:=t'}:=I.un (Un.kept k) (I.hok.kept k)
theorem Inv.laid{a:Addr}{o:HO}{t':Nat}(I:Inv X pins Z H s)(k:∀b u,s.heap.get? b=some u->h'.get? b=some u)(hp:s.heap.objs.size<=a)(new:hV X.prog X.w (upd H a o) h' a o) :
  Inv X pins Z (upd H a o) {s with heap:=h',toks:=t'}:=I.un (Un.laid k hp (I.hok.fresh hp)) (I.hok.laid k hp new)
theorem Inv.write{x e:Addr}{o:HO}{t':Nat}(I:Inv X pins Z H s)(mu:Mut (H x))(he:e=x\/H e=some (.own x))(k:∀b u,b≠e->s.heap.get? b=some u->h'.get? b=some u)(heo:∃u,h'.get? e=some u)
  (new:hV X.prog X.w (upd H x o) h' x o):Inv X pins Z (upd H x o) {s with heap:=h',toks:=t'}:=I.un (Un.write mu he k heo) (I.hok.write mu he k heo new)
theorem Inv.Hu{pins':List (Addr×Obj)}(I:Inv X pins Z H s)(h:∀p∈pins',s.heap.get? p.1=some p.2/\H p.1=none/\p.1≠X.env.locals/\p.1 ∉ X.fs/\∀v,p.2.data≠.cell v):Inv X pins' Z H s:=
 ⟨I.ok,I.os,I.bare,I.base,I.loc,I.cell,I.free,I.pB,fun p hp=>(List.mem_append.mp hp).elim (fun z=>I.pin p (mem_append_left _ z)) (h p),I.hok,I.len⟩
theorem Ds{N:List Str}(hN:N.Nodup){i j:Nat}{x:Str}(a:N[i]? = some x)(b:N[j]? = some x):i=j:=by
 obtain⟨h1,e1⟩:=List.getElem?_eq_some_iff.mp a
 obtain⟨h2,e2⟩:=List.getElem?_eq_some_iff.mp b
 exact (List.getElem_inj hN).mp (e1.trans e2.symm)
theorem Ij{M:Model}{A:Around}{E:Value->Shared->Prop}{i:Nat}{x:Str}{v:V}{u:Value}{Q:Unit->Shared->Prop}(I:Inv X pins Z H s)(hN:X.N.Nodup)(hi:X.N[i]? = some x)(hx:Loc X.env.scope x)(r:RelV v u)
  (h:∀s',Inv X pins (Z.set i (some v)) H s'->(∃a,Heap.SameBut a s.heap s'.heap/\(a=X.env.locals\/X.env.cells.lookup x=some a))->Q () s') (hf:X.fn x=true\/X.env.scope.names.lookup x=some .local:=by first|exact .inl rfl|exact .inr rfl|assumption):wpAny M A (storeName X.env x u) Q E s:=by
 obtain⟨m,hn,hl⟩:=id I.loc
 have hcls:(X.env.scope.kind==.class || (X.env.scope.kind==.module&&X.env.locals != X.env.globals))=false:=by rw[I.ok.kind];rfl
 have wl:i<Z.length:=by rw[I.len];exact (List.getElem?_eq_some_iff.mp hi).1
 have cne:=I.cne
 have tracked:∀{a:Addr} {h':Heap},(∃o,s.heap.get? a=some o/\H a=none)->Heap.SameBut a s.heap h'->HOk X.prog X.w H h':=fun {a h'} ha hs b ob e=>by
  obtain⟨_,_,hfree⟩:=ha
  refine (I.hok b ob e).CN (fun c w' hc q=>(hs.2 c ?_).trans q) (fun _ q=>q) fun _ _ q=>q
  rintro rfl
  rcases hc with rfl|hc
  ·rw[hfree] at e;cases e
  ·rw[hfree] at hc;cases hc
 rcases hx with hk|hk
 ·refine wpAny_storeName_local hk hn (fun h' hn' hs=>?_) hcls
  obtain⟨oL,_,_,hoL,_⟩:=id hn
  refine h _ ⟨I.ok,I.os,I.bare,⟨fun b o e n hb hx=>?_,fun b o e n hb hx=>?_,I.base.free,fun b o e hx=>?_,I.base.vU,I.base.tV,I.base.tN⟩,⟨_,hn',fun j y v' e1 e2 e3=>?_⟩,fun y c e=>?_,I.free,I.pB,fun p hp=>?_,tracked ⟨oL,hoL,I.free⟩ hs,by simpa using I.len⟩ ⟨_,hs,.inl rfl⟩
  ·exact (hs.2 b (ne_of_lt (lt_of_lt_of_le (Heap.lt_size e) I.ok.above))).trans (I.base.keep b o e n hb hx)
  ·obtain⟨sl,e1⟩:=I.base.slot b o e n hb hx
   exact⟨sl,(hs.2 b (ne_of_lt (lt_of_lt_of_le (Heap.lt_size e) I.ok.above))).trans e1⟩
  ·obtain⟨o',e1⟩:=I.base.there b o e hx
   exact⟨o',(hs.2 b (ne_of_lt (lt_of_lt_of_le (Heap.lt_size e) I.ok.above))).trans e1⟩
  ·by_cases hj:j=i
   ·subst hj
    rw[hi] at e1;cases e1
    rw[List.getElem?_set_self wl] at e2
    cases e2
    exact⟨u,r,.inl ⟨hk,by simp⟩⟩
   ·rw[List.getElem?_set_ne (Ne.symm hj)] at e2
    obtain⟨u',r',q⟩:=hl j y v' e1 e2 e3
    refine⟨u',r',?_⟩
    rcases q with ⟨k,e⟩|⟨k,c,e,z⟩
    ·refine .inl ⟨k,?_⟩
     have:y≠x:=fun e=>hj (Ds hN e1 (e▸hi))
     simp[this,e]
    ·exact .inr ⟨k,c,e,z.sameBut hs (cne y c e)⟩
  ·obtain⟨w',z⟩:=I.cell y c e
   exact⟨w',z.sameBut hs (cne y c e)⟩
  ·obtain⟨e,n,ne,nf,d⟩:=I.pin p hp
   exact⟨(hs.2 p.1 ne).trans e,n,ne,nf,d⟩
 ·have hfn:X.fn x=true:=by
   rcases hf with z|z
   ·exact z
   ·rw[z] at hk;cases hk
  obtain⟨c,hc⟩:=I.ok.has x (.inl hk)
  obtain⟨w',z⟩:=I.cell x c hc
  refine wpAny_storeName_cell I.ok.kind hk hc z (fun h' hc' hs=>?_)
  obtain⟨oc,hoc,hocd⟩:=id z
  refine h {s with heap:=h'} ⟨I.ok,I.os,I.bare,⟨fun b o e n hb hx=>?_,fun b o e n hb hx=>?_,I.base.free,fun b o e hx=>?_,I.base.vU,I.base.tV,I.base.tN⟩,⟨m,hn.sameBut hs (Ne.symm (cne x c hc)),fun j y v' e1 e2 e3=>?_⟩,fun y c' e=>?_,I.free,I.pB,fun p hp=>?_,tracked ⟨oc,hoc,I.pB x c hc⟩ hs,by simpa using I.len⟩ ⟨c,hs,.inr hc⟩
  ·exact (hs.2 b (ne_of_lt (lt_of_lt_of_le (Heap.lt_size e) (I.ok.cab x c hfn hc)))).trans (I.base.keep b o e n hb hx)
  ·obtain⟨sl,e1⟩:=I.base.slot b o e n hb hx
   exact⟨sl,(hs.2 b (ne_of_lt (lt_of_lt_of_le (Heap.lt_size e) (I.ok.cab x c hfn hc)))).trans e1⟩
  ·obtain⟨o',e1⟩:=I.base.there b o e hx
   exact⟨o',(hs.2 b (ne_of_lt (lt_of_lt_of_le (Heap.lt_size e) (I.ok.cab x c hfn hc)))).trans e1⟩
  ·by_cases hj:j=i
   ·subst hj
    rw[hi] at e1;cases e1
    rw[List.getElem?_set_self wl] at e2
    cases e2
    exact⟨u,r,.inr ⟨.inl hk,c,hc,hc'⟩⟩
   ·rw[List.getElem?_set_ne (Ne.symm hj)] at e2
    obtain⟨u',r',q⟩:=hl j y v' e1 e2 e3
    refine⟨u',r',?_⟩
    rcases q with q|⟨k,c',e,z'⟩
    ·exact .inl q
    ·refine .inr ⟨k,c',e,z'.sameBut hs ?_⟩
     rintro rfl
     exact hj (Ds hN e1 (I.ok.inj _ _ _ e hc▸hi))
  ·by_cases hcc:c'=c
   ·subst hcc;exact⟨_,hc'⟩
   ·obtain⟨w2,z2⟩:=I.cell y c' e
    exact⟨w2,z2.sameBut hs hcc⟩
  ·obtain⟨e,n,ne,nf,d⟩:=I.pin p hp
   refine⟨(hs.2 p.1 ?_).trans e,n,ne,nf,d⟩
   intro q
   rw[q,hoc] at e
   have q':oc=p.2:=Option.some.inj e
   exact d w' (by rw[<- q'];exact hocd)
theorem nW{M:Model}{A:Around}{E:Value->Shared->Prop}{i:Nat}{x:Str}{v:V}{u:Value}{Q:Unit->Shared->Prop}(I:Inv X pins Z H s)(hN:X.N.Nodup)(hi:X.N[i]? = some x)(hx:Loc X.env.scope x)(r:RelV v u)
  (h:∀s',Inv X pins (Z.set i (some v)) H s'->Q () s') (hf:X.fn x=true\/X.env.scope.names.lookup x=some .local:=by first|exact .inl rfl|exact .inr rfl|assumption):wpAny M A (storeName X.env x u) Q E s:=
 Ij I hN hi hx r (fun s' I' _=>h s' I') hf
theorem Inv.Ot{s':Shared}{ch:List Addr}(I:Inv X pins Z H s)(ho:s'.os=s.os)(u:Un (frs X.stack) ch H H' s.heap s'.heap)(hok:HOk X.prog X.w H' s'.heap)(hg:AllBare s'.gens)
  (hch:∀b∈ch,(b∈X.ex\/X.ga.heap.objs.size<=b)/\b≠X.env.locals/\(∀x c,X.env.cells.lookup x=some c->c≠b)/\∀p∈X.pn++pins,p.1≠b):Inv X pins Z H' s':=by
 obtain⟨h',g',d',t',o'⟩:=s'
 have e:o'=s.os:=ho
 subst e
 exact I.call (g':=g') (t':=t') (d':=d') u hok hg hch
end
noncomputable abbrev XK:=Value->Option Addr->Hp->Prop
noncomputable abbrev St:=List (Option V)
noncomputable abbrev VK:=V->Hp->Prop
noncomputable abbrev TE:=St->Hp->VK->Prop
noncomputable abbrev TT:=St->Hp->(Bool->Hp->Prop)->Prop
noncomputable abbrev TA:=St->Hp->(List V->Hp->Prop)->Prop
structure Ends where
 nx:St->Hp->Prop
 rt:VK
 bk:St->Hp->Prop:=fun _ _=>False
 ct:St->Hp->Prop:=fun _ _=>False
noncomputable abbrev TS:=Ends->St->Hp->Prop
noncomputable def EP(X:Cx)(pins:List (Addr×Obj))(Z:St)(Q:VK)(u:Value)(s':Shared):Prop:=∃v H',Inv X pins Z H' s'/\RelV v u/\Q v H'
noncomputable def TP(X:Cx)(pins:List (Addr×Obj))(Z:St)(Q:Bool->Hp->Prop)(b:Bool)(s':Shared):Prop:=∃H',Inv X pins Z H' s'/\Q b H'
noncomputable def AP(X:Cx)(pins:List (Addr×Obj))(Z:St)(Q:List V->Hp->Prop)(us:List Value)(s':Shared):Prop:=∃vs H',Inv X pins Z H' s'/\Vals vs us/\Q vs H'
noncomputable def SP(X:Cx)(pins:List (Addr×Obj))(D:Ends)(f:Flow)(s':Shared):Prop:=
 match f with
 |.next=>∃ca H',Inv X pins ca H' s'/\D.nx ca H'
 |.brk=>∃ca H',Inv X pins ca H' s'/\D.bk ca H'
 |.cont=>∃ca H',Inv X pins ca H' s'/\D.ct ca H'
 |.ret u=>∃v ca H',Inv X pins ca H' s'/\RelV v u/\D.rt v H'
noncomputable def PE(X:Cx)(e:Expr)(t:TE):Prop:=
 ∀(pins:List (Addr×Obj)) (s:Shared) (Z:St) (H:Hp) (Q:VK),Inv X pins Z H s->t Z H Q->wpAny (model X.prog X.w) X.A (eval e X.env) (EP X pins Z Q) X.xe s
noncomputable def PT(X:Cx)(e:Expr)(t:TT):Prop:=
 ∀(pins:List (Addr×Obj)) (s:Shared) (Z:St) (H:Hp) (Q:Bool->Hp->Prop),Inv X pins Z H s->t Z H Q->wpAny (model X.prog X.w) X.A (isTrue e X.env (eval e X.env)) (TP X pins Z Q) X.xe s
noncomputable def PW(X:Cx)(e:Expr)(t:TT):Prop:=
 ∀(whole:Sem Value) (pins:List (Addr×Obj)) (s:Shared) (Z:St) (H:Hp) (Q:Bool->Hp->Prop),Inv X pins Z H s->t Z H Q->wpAny (model X.prog X.w) X.A (isTrue e X.env whole) (TP X pins Z Q) X.xe s
theorem PW.pt{X:Cx}{e:Expr}{t:TT}(h:PW X e t):PT X e t:=h _
noncomputable def PA(X:Cx)(es:List Expr)(t:TA):Prop:=
 ∀(pos:Pos) (pins:List (Addr×Obj)) (s:Shared) (Z:St) (H:Hp) (Q:List V->Hp->Prop),Inv X pins Z H s->t Z H Q->wpAny (model X.prog X.w) X.A (spliced (backTo pos (starEach es X.env))) (AP X pins Z Q) X.xe s
noncomputable def PS(X:Cx)(st:Stmt)(t:TS):Prop:=
 ∀(pins:List (Addr×Obj)) (s:Shared) (Z:St) (H:Hp) (D:Ends),Inv X pins Z H s->t D Z H->wpAny (model X.prog X.w) X.A (exec st X.env) (SP X pins D) X.xe s
noncomputable def PSs(X:Cx)(st:List Stmt)(t:TS):Prop:=
 ∀(pins:List (Addr×Obj)) (s:Shared) (Z:St) (H:Hp) (D:Ends),Inv X pins Z H s->t D Z H->wpAny (model X.prog X.w) X.A (execs st X.env) (SP X pins D) X.xe s
theorem thn{α:Type}{t:Sem α}{Q Q':α->Shared->Prop}{M:Model}{A:Around}{E:Value->Shared->Prop}{s:Shared}(h:wpAny M A t Q E s)(hQ:∀a s,Q a s->Q' a s):wpAny M A t Q' E s:=wpAny_mono h hQ fun _ _ x=>x
end L2
namespace L2
open PySem PySem.Spec PyProof.Rows
section
variable {X:Cx}
theorem bin{a b:Expr}{ta tb:TE}(ha:PE X a ta)(hb:PE X b tb){pins:List (Addr×Obj)}{s:Shared}{Z:St}{H:Hp}{R:V->V->Hp->Prop}(I:Inv X pins Z H s)(h:ta Z H fun x H1=>tb Z H1 fun y H2=>R x y H2)
  {α:Type} {Q:α->Shared->Prop} {f:Value->Value->Sem α}
  (hf:∀v u s2 x y H2,Inv X pins Z H2 s2->RelV x v->RelV y u->R x y H2->wpAny (model X.prog X.w) X.A (f v u) Q X.xe s2) :
  wpAny (model X.prog X.w) X.A (eval a X.env) (fun v db=>wpAny (model X.prog X.w) X.A (eval b X.env) (fun u im=>wpAny (model X.prog X.w) X.A (f v u) Q X.xe im) X.xe db) X.xe s:=by
 refine thn (ha pins s Z H _ I h) fun v s1 hq0=>?_
 obtain⟨x,H1,I1,r1,q1⟩:=hq0
 refine thn (hb pins s1 Z H1 _ I1 q1) fun u s2 hq0=>?_
 obtain⟨y,H2,I2,r2,q2⟩:=hq0
 exact hf v u s2 x y H2 I2 r1 r2 q2
noncomputable def RA(i:Nat):TE:=fun Z H Q=>∃v,Z[i]? = some (some v)/\Q v H
noncomputable def tC(v:V):TE:=fun _ H Q=>Q v H
theorem Qe{i:Nat}{x:Str}{pos:Pos}(hN:X.N[i]? = some x)(hv:Vis X.env.scope x)(hd:(x==("__debug__":Str))=false:=by decide)(hcd:(x==("__classdict__":Str))=false:=by decide):PE X (.Name x pos) (RA i):=by
 intro pins s Z H Q I h
 obtain⟨v,e,h⟩:=h
 obtain⟨m,hn,hl⟩:=I.loc
 obtain⟨u,r,l⟩:=hl i x v hN e hv
 have fin:EP X pins Z Q u s:=⟨v,H,I,r,h⟩
 rcases l with ⟨hk,hm⟩|⟨hk,c,hc,hcell⟩
 ·exact wpAny_Name (wpAny_loadName_local I.ok.kind hk hn hm fin) hd
 ·rcases hk with hk|hk
  ·exact wpAny_Name (wpAny_loadName_cell I.ok.kind hk hc hcell fin) hd
  ·exact wpAny_Name (wpAny_loadName_free I.ok.kind hk hc hcell fin hcd) hd
theorem OY{i j pos}:PE X (.Constant (.int i) j pos) (tC (.int i)):=fun _ _ _ H _ I h=>wpAny_Constant_int ⟨.int i,H,I.tok _,⟨_,rfl⟩,h⟩
theorem Sk{b j pos}:PE X (.Constant (.bool b) j pos) (tC (.bl b)):=fun _ _ _ H _ I h=>Constant_bool ⟨.bl b,H,I,rfl,h⟩
theorem O1{j pos}:PE X (.Constant .none j pos) (tC .non):=fun _ _ _ H _ I h=>Constant_none ⟨.non,H,I,rfl,h⟩
theorem Qu{x j pos}:PE X (.Constant (.str x) j pos) (tC (.str x)):=fun _ _ _ H _ I h=>Calls.Constant_str ⟨.str x,H,I.tok _,⟨_,rfl⟩,h⟩
noncomputable def Gl(X:Cx)(x:Str):Prop:=X.env.kindOf x=some .globalImplicit
theorem G5{E:Value->Shared->Prop}{pins:List (Addr×Obj)}{s:Shared}{Z:St}{H:Hp}{x:Str}{u:Value}{pos:Pos}{Q:Value->Shared->Prop}(I:Inv X pins Z H s)(hg:Gl X x)(hm:X.mg x=some u)(h:Q u s)
  (hd:(x==("__debug__":Str))=false:=by decide):wpAny (model X.prog X.w) X.A (eval (.Name x pos) X.env) Q E s:=
 Calls.Name_function_global I.ok.kind hg (Calls.loadGlobal_global (by rw[I.ok.glob];exact I.mod.glob.keeps I.bk) hm h) hd
theorem p7{E:Value->Shared->Prop}{pins:List (Addr×Obj)}{s:Shared}{Z:St}{H:Hp}{x:Str}{u:Value}{pos:Pos}{Q:Value->Shared->Prop}(I:Inv X pins Z H s)(hg:Gl X x)(hm:X.mg x=none)(hv:bootBuiltins x=some u)(h:Q u s)
  (hn:x ≠ "__name__":=by decide) (hd:(x==("__debug__":Str))=false:=by decide):wpAny (model X.prog X.w) X.A (eval (.Name x pos) X.env) Q E s:=by
 obtain⟨mb,h1,h2⟩:=I.mod.blt
 exact Calls.Name_function_global I.ok.kind hg (Calls.loadGlobal_builtin (by rw[I.ok.glob];exact I.mod.glob.keeps I.bk) hm (by rw[I.ok.blt];exact h1.keeps I.bk) ((h2 x hn).trans hv) h) hd
theorem MG{x:Str}{v:V}{u:Value}{pos:Pos}(hg:Gl X x)(hm:X.mg x=some u)(r:RelV v u)(hd:(x==("__debug__":Str))=false:=by decide):PE X (.Name x pos) (tC v):=
 fun _ _ _ H _ I h=>G5 I hg hm ⟨v,H,I,r,h⟩ hd
theorem NB{x:Str}{v:V}{u:Value}{pos:Pos}(hg:Gl X x)(hm:X.mg x=none)(hv:bootBuiltins x=some u)(r:RelV v u)(hn:x ≠ "__name__":=by decide)(hd:(x==("__debug__":Str))=false:=by decide):PE X (.Name x pos) (tC v):=
 fun _ _ _ H _ I h=>p7 I hg hm hv ⟨v,H,I,r,h⟩ hn hd
variable {a b:Expr}{ta tb:TE}{pos:Pos}
noncomputable def PC(X:Cx)(op:CmpOp)(a b:Expr)(t:TE):Prop:=
 ∀(pins:List (Addr×Obj)) (s:Shared) (Z:St) (H:Hp) (Q:VK),Inv X pins Z H s->t Z H Q ->
  wpAny (model X.prog X.w) X.A (eval a X.env) (fun v db=>wpAny (model X.prog X.w) X.A (eval b X.env) (fun u im=>wpAny (model X.prog X.w) X.A (compareOp op v u) (EP X pins Z Q) X.xe im) X.xe db) X.xe s
theorem Ly(b:Expr){op:CmpOp}(h:op≠.In)(h2:op≠.NotIn):behindInMarks op b=false:=by
 have e1:(op==CmpOp.In)=false:=by cases op<;>first|rfl|exact absurd rfl h
 have e2:(op==CmpOp.NotIn)=false:=by cases op<;>first|rfl|exact absurd rfl h2
 cases b<;>simp[behindInMarks,e1,e2]
noncomputable def tB(t:TE):TT:=fun Z H Q=>t Z H fun x H1=>∃c,x = .bl c/\Q c H1
theorem Tn{op:CmpOp}{t:TE}(h:PC X op a b t)(h1:behindInMarks op b=false:=by first|exact Ly _ ⋯ ⋯|rfl):PT X (.Compare a [op] [b] pos) (tB t):=by
 intro pins s Z H Q I hw
 refine wpAny_isTrue_Compare1 (thn (h pins s Z H _ I hw) fun v s1 h1=>thn h1 fun u s2 h2=>thn h2 fun c s3 hq0=>?_) h1
 obtain⟨x,H1,I1,r1,q1⟩:=hq0
 obtain⟨d,rfl,q⟩:=q1
 cases r1
 exact wpAny_truthy_bool ⟨H1,I1,q⟩
theorem P0{e:Expr}{t:TE}(h:PE X e t)(he:∀whole,isTrue e X.env whole=(do let v <- whole;standAt e.pos;holding [v] (truthy v)):=by intro _;rfl):PT X e (tB t):=by
 intro pins s Z H Q I hw
 refine isTrue_plain (thn (h pins s Z H _ I hw) fun v s1 hq0=>?_) (he _)
 obtain⟨x,H1,I1,r1,q1⟩:=hq0
 obtain⟨d,rfl,q⟩:=q1
 cases r1
 exact wpAny_truthy_bool ⟨H1,I1,q⟩
variable {tA tB':TT}{rest:List Expr}
noncomputable def Tv(t u:TT):TT:=fun Z H Q=>t Z H fun c H1=>if c=true then u Z H1 Q else Q false H1
noncomputable def tOr(t u:TT):TT:=fun Z H Q=>t Z H fun c H1=>if c=true then Q true H1 else u Z H1 Q
noncomputable def SX(t:TT):TT:=fun Z H Q=>t Z H fun c H1=>Q (!c) H1
theorem pw_and1(ha:PT X a tA):PW X (.BoolOp .And [a] pos) tA:=by
 intro wh pins s Z H Q I h
 refine isTrue_and (thn (ha pins s Z H Q I h) fun c s1 e=>?_)
 cases c with
 |true=>exact isTrue_and_nil e
 |false=>exact e
theorem pw_or1(ha:PT X a tA):PW X (.BoolOp .Or [a] pos) tA:=by
 intro wh pins s Z H Q I h
 refine isTrue_or (thn (ha pins s Z H Q I h) fun c s1 e=>?_)
 cases c with
 |false=>exact isTrue_or_nil e
 |true=>exact e
theorem pw_and(ha:PT X a tA)(hb:PW X (.BoolOp .And (b::rest) pos) tB'):PW X (.BoolOp .And (a::b::rest) pos) (Tv tA tB'):=by
 intro wh pins s Z H Q I h
 refine isTrue_and (thn (ha pins s Z H _ I h) fun c s1 hq0=>?_)
 obtain⟨H1,I1,q1⟩:=hq0
 cases c with
 |true=>exact hb wh pins s1 Z H1 Q I1 q1
 |false=>exact⟨H1,I1,q1⟩
theorem pw_or(ha:PT X a tA)(hb:PW X (.BoolOp .Or (b::rest) pos) tB'):PW X (.BoolOp .Or (a::b::rest) pos) (tOr tA tB'):=by
 intro wh pins s Z H Q I h
 refine isTrue_or (thn (ha pins s Z H _ I h) fun c s1 hq0=>?_)
 obtain⟨H1,I1,q1⟩:=hq0
 cases c with
 |true=>exact⟨H1,I1,q1⟩
 |false=>exact hb wh pins s1 Z H1 Q I1 q1
theorem Pp(ha:PT X a tA):PT X (.UnaryOp .Not a pos) (SX tA):=by
 intro pins s Z H Q I h
 exact isTrue_not (ha pins s Z H (fun c H1=>Q (!c) H1) I h)
noncomputable def Sv(ta tb:TE):TE:=fun Z H Q=>ta Z H fun x H1=>∃c,x = .bl c/\if c=true then tb Z H1 Q else Q (.bl false) H1
noncomputable def Rr(ta:TE):TE:=fun Z H Q=>ta Z H fun x H1=>∃c,x = .bl c/\Q (.bl (!c)) H1
theorem OS{op}{t:TE}(h:PE X a t):PE X (.BoolOp op [a] pos) t:=fun pins s Z H Q I hw=>BoolOp_one (h pins s Z H Q I hw)
theorem Q2(ha:PE X a ta)(hb:PE X (.BoolOp .And (b::rest) pos) tb):PE X (.BoolOp .And (a::b::rest) pos) (Sv ta tb):=by
 intro pins s Z H Q I h
 refine BoolOp_and (thn (ha pins s Z H _ I h) fun v s1 hq0=>?_)
 obtain⟨x,H1,I1,r1,q1⟩:=hq0
 obtain⟨c,rfl,q1⟩:=q1
 cases r1
 refine wpAny_truthy_bool ?_
 cases c with
 |true=>exact hb pins s1 Z H1 Q I1 q1
 |false=>exact⟨.bl false,H1,I1,rfl,q1⟩
theorem O6(ha:PE X a ta):PE X (.UnaryOp .Not a pos) (Rr ta):=by
 intro pins s Z H Q I h
 refine UnaryOp_ (thn (ha pins s Z H _ I h) fun v s1 hq0=>?_)
 obtain⟨x,H1,I1,r1,q1⟩:=hq0
 obtain⟨c,rfl,q1⟩:=q1
 cases r1
 exact not_of (wpAny_truthy_bool ⟨.bl (!c),H1,I1,rfl,q1⟩)
noncomputable def tIf(t:TT)(ta tb:TE):TE:=fun Z H Q=>t Z H fun c H1=>if c=true then ta Z H1 Q else tb Z H1 Q
theorem LD{c:Expr}(hc:PT X c tA)(ha:PE X a ta)(hb:PE X b tb):PE X (.IfExp c a b pos) (tIf tA ta tb):=by
 intro pins s Z H Q I h
 refine wpAny_IfExp (thn (hc pins s Z H _ I h) fun d s1 hq0=>?_)
 obtain⟨H1,I1,q1⟩:=hq0
 cases d with
 |true=>exact ha pins s1 Z H1 Q I1 q1
 |false=>exact hb pins s1 Z H1 Q I1 q1
end
end L2
namespace L2
open PySem PySem.Spec PyProof.Rows
noncomputable def SqL(K:PySem.W.Frag)(H:Hp)(a:Addr)(xs:List V):Prop:=
 Rd H a (.lst xs) \/
  ∃(o:Obj) (its:Array Value) (n:Nat),K.lookup a=some o/\o.cls = .type "list"/\o.dict=none/\o.data = .seq its n/\its.size<=sizeLine/\Vals xs its.toList
noncomputable def SqT(K:PySem.W.Frag)(H:Hp)(a:Addr)(xs:List V):Prop:=
 Rd H a (.tup xs) \/
  ∃(o:Obj) (its:Array Value) (n:Nat),K.lookup a=some o/\o.cls = .type "tuple"/\o.data = .seq its n/\its.size<=sizeLine/\Vals xs its.toList
noncomputable def Tj:Value->Option V
 |.none=>some .non
 |.bool b=>some (.bl b)
 |.int i _=>some (.int i)
 |.str x _=>some (.str x)
 |.bytes b _=>some (.byt b)
 |.float b _=>some (.flt b)
 |.ref a=>some (.ref a)
 |.type n=>some (.ty n)
 |_=>none
theorem RelV.abs{x:V}{u:Value}(r:RelV x u):Tj u=some x:=by
 cases x with
 |non=>cases r;rfl
 |bl _=>cases r;rfl
 |int _=>obtain⟨t,rfl⟩:=r;rfl
 |str _=>obtain⟨t,rfl⟩:=r;rfl
 |byt _=>obtain⟨t,rfl⟩:=r;rfl
 |flt _=>obtain⟨t,rfl⟩:=r;rfl
 |ref _=>cases r;rfl
 |ty _=>cases r;rfl
theorem RelV.inj{x y:V}{u:Value}(r:RelV x u)(q:RelV y u):x=y:=Option.some.inj (r.abs.symm.trans q.abs)
theorem Vals.inj:∀{xs ys:List V} {us:List Value},Vals xs us->Vals ys us->xs=ys
 |_,_,_,.nil,.nil=>rfl
 |_,_,_,.cons r t,.cons r' t'=>by rw[r.inj r',Vals.inj t t']
section
variable {X:Cx}{pins:List (Addr×Obj)}{Z:St}{H:Hp}{s:Shared}{a:Addr}{xs ys:List V}
theorem SqL.of{K:PySem.W.Frag}(h:H a=some (.lst xs)):SqL K H a xs:=.inl (.inl h)
theorem SqT.of{K:PySem.W.Frag}(h:H a=some (.tup xs)):SqT K H a xs:=.inl (.inl h)
theorem Inv.list(I:Inv X pins Z H s)(h:SqL X.K H a xs):∃its:List Value,Vals xs its/\PlainL s.heap a its.toArray/\xs.length<=sizeLine:=by
 rcases h with h|⟨o,its,n,hk,hc,hd,hs,hz,r⟩
 ·obtain⟨z,its,n,r,e⟩:=h.ok I.hok
  exact⟨its,r,⟨_,n,e,rfl,rfl,rfl⟩,z⟩
 ·refine⟨its.toList,r,⟨o,n,I.kIn a o hk,hc,hd,by simpa using hs⟩,?_⟩
  have e:=r.length
  simp only[Array.length_toList] at e
  omega
theorem Inv.tuple(I:Inv X pins Z H s)(h:SqT X.K H a xs):∃its:List Value,Vals xs its/\IsTup s.heap a its.toArray/\xs.length<=sizeLine:=by
 rcases h with h|⟨o,its,n,hk,hc,hs,hz,r⟩
 ·obtain⟨z,its,r,p⟩:=h.ok I.hok
  exact⟨its,r,p,z⟩
 ·refine⟨its.toList,r,⟨o,I.kIn a o hk,hc,n,by simpa using hs⟩,?_⟩
  have e:=r.length
  simp only[Array.length_toList] at e
  omega
theorem Inv.EX(I:Inv X pins Z H s)(h:SqL X.K H a xs)(h':SqL X.K H a ys):xs=ys:=by
 obtain⟨its,r,⟨o,n,e,_,_,d⟩,_⟩:=I.list h
 obtain⟨its',r',⟨o',n',e',_,_,d'⟩,_⟩:=I.list h'
 rw[e] at e';cases e'
 rw[d] at d'
 injection d' with d1 _
 have:its=its':=by simpa using congrArg Array.toList d1
 subst this
 exact r.inj r'
theorem Inv.Je(I:Inv X pins Z H s)(h:SqT X.K H a xs)(h':SqT X.K H a ys):xs=ys:=by
 obtain⟨its,r,⟨o,e,_,n,d⟩,_⟩:=I.tuple h
 obtain⟨its',r',⟨o',e',_,n',d'⟩,_⟩:=I.tuple h'
 rw[e] at e';cases e'
 rw[d] at d'
 injection d' with d1 _
 have:its=its':=by simpa using congrArg Array.toList d1
 subst this
 exact r.inj r'
end
noncomputable abbrev Cx.ze(X:Cx)(E:Value->Shared->Prop):Cx:={X with xe:=E}
noncomputable abbrev Cx.nox(X:Cx):Cx:=X.ze fun _ _=>False
theorem Cx.Ok.ze{X:Cx}(ok:X.Ok)(E:Value->Shared->Prop):(X.ze E).Ok:=
 ⟨ok.mod,ok.kind,ok.glob,ok.blt,ok.above,ok.inj,ok.has,ok.cab,ok.hd,ok.qt,ok.frames,ok.stk,ok.exf,ok.bs,ok.bsz,ok.LI,ok.MD,ok.wU,ok.frf⟩
theorem Cx.Ok.nA{X:Cx}{E:Value->Shared->Prop}(ok:(X.ze E).Ok):X.Ok:=
 ⟨ok.mod,ok.kind,ok.glob,ok.blt,ok.above,ok.inj,ok.has,ok.cab,ok.hd,ok.qt,ok.frames,ok.stk,ok.exf,ok.bs,ok.bsz,ok.LI,ok.MD,ok.wU,ok.frf⟩
section
variable {X:Cx}{pins:List (Addr×Obj)}{Z:St}{H:Hp}{s:Shared}{E:Value->Shared->Prop}
theorem Inv.ze(I:Inv X pins Z H s)(E:Value->Shared->Prop):Inv (X.ze E) pins Z H s:=⟨I.ok.ze E,I.os,I.bare,I.base,I.loc,I.cell,I.free,I.pB,I.pin,I.hok,I.len⟩
theorem Inv.nA(I:Inv (X.ze E) pins Z H s):Inv X pins Z H s:=⟨I.ok.nA,I.os,I.bare,I.base,I.loc,I.cell,I.free,I.pB,I.pin,I.hok,I.len⟩
theorem SP.nA{D:Ends}{f:Flow}{s':Shared}(h:SP (X.ze E) pins D f s'):SP X pins D f s':=by
 cases f with
 |next=>obtain⟨ca,H',I,q⟩:=h;exact⟨ca,H',I.nA,q⟩
 |brk=>obtain⟨ca,H',I,q⟩:=h;exact⟨ca,H',I.nA,q⟩
 |cont=>obtain⟨ca,H',I,q⟩:=h;exact⟨ca,H',I.nA,q⟩
 |ret u=>obtain⟨v,ca,H',I,r,q⟩:=h;exact⟨v,ca,H',I.nA,r,q⟩
theorem PSs.nox{st:List Stmt}{t:TS}(h:PSs X.nox st t):PSs X st t:=fun pins s Z H D I hw=>
 wpAny_mono (h pins s Z H D (I.ze _) hw) (fun _ _ q=>q.nA) fun _ _ z=>False.elim z
end
section
variable {X:Cx}{st:Stmt}{rest:List Stmt}{t u:TS}{e:Expr}{te:TE}{pos:Pos}
noncomputable def RC:TS:=fun D Z H=>D.nx Z H
noncomputable def Sr(t u:TS):TS:=fun D Z H=>t {D with nx:=u D} Z H
theorem NJ:PSs X [] RC:=fun _ _ Z H _ I h=>wpAny_execs_nil ⟨Z,H,I,h⟩
theorem LQ(h1:PS X st t)(h2:PSs X rest u):PSs X (st::rest) (Sr t u):=by
 intro pins s Z H D I h
 refine wpAny_execs_cons (thn (h1 pins s Z H {D with nx:=u D} I h) fun f s1 q=>?_)
 cases f with
 |next=>
  obtain⟨ca,H',I',q⟩:=q
  exact h2 pins s1 ca H' D I' q
 |ret v=>exact q
 |brk=>exact q
 |cont=>exact q
theorem NR(h1:PS X st t):PSs X [st] t:=by
 intro pins s Z H D I h
 refine wpAny_execs_cons (thn (h1 pins s Z H D I h) fun f s1 q=>?_)
 cases f with
 |next=>exact wpAny_execs_nil q
 |ret v=>exact q
 |brk=>exact q
 |cont=>exact q
theorem Inv.quiet{pins:List (Addr×Obj)}{Z:St}{H:Hp}{s:Shared}(I:Inv X pins Z H s):interactive X.env=false:=by simp[interactive,I.ok.kind]
noncomputable def Rm(te:TE):TS:=fun D Z H=>te Z H fun _ H1=>D.nx Z H1
theorem MB(he:PE X e te)(hs:swapsWith e none pos.line X.env=pure false:=by rfl):PS X (.Expr e pos) (Rm te):=by
 intro pins s Z H D I h
 exact wpAny_Expr_any (thn (he pins s Z H _ I h) fun v s1 ⟨x,H1,I1,r1,q1⟩=>⟨Z,H1,I1,q1⟩) I.quiet hs
noncomputable def Tq(te:TE):TS:=fun D Z H=>te Z H D.rt
theorem QU(he:PE X e te):PS X (.Return (some e) pos) (Tq te):=by
 intro pins s Z H D I h
 exact wpAny_Return_some (thn (he pins s Z H _ I h) fun v s1 ⟨x,H1,I1,r1,q1⟩=>⟨x,Z,H1,I1,r1,q1⟩)
noncomputable def Tr(c:TT)(t u:TS):TS:=fun D Z H=>c Z H fun b H1=>if b=true then t D Z H1 else u D Z H1
theorem Ri{c:Expr}{a b:List Stmt}{tc:TT}(hc:PT X c tc)(ha:PSs X a t)(hb:PSs X b u):PS X (.If c a b pos) (Tr tc t u):=by
 intro pins s Z H D I h
 refine wpAny_If (thn (hc pins s Z H _ I h) fun d s1 hq0=>?_)
 obtain⟨H1,I1,q1⟩:=hq0
 cases d with
 |true=>exact ha pins s1 Z H1 D I1 q1
 |false=>exact hb pins s1 Z H1 D I1 q1
end
noncomputable abbrev TG:=V->St->Hp->(St->Hp->Prop)->Prop
noncomputable abbrev TGs:=List V->St->Hp->(St->Hp->Prop)->Prop
noncomputable def PG(X:Cx)(target:Expr)(t:TG):Prop:=
 ∀(pins:List (Addr×Obj)) (s:Shared) (Z:St) (H:Hp) (v:V) (u:Value) (Q:St->Hp->Prop),Inv X pins Z H s->RelV v u->t v Z H Q ->
  wpAny (model X.prog X.w) X.A (assign target X.env u) (fun _ s'=>∃ca H',Inv X pins ca H' s'/\Q ca H') X.xe s
noncomputable def PGs(X:Cx)(ts:List Expr)(t:TGs):Prop:=
 ∀(pins:List (Addr×Obj)) (s:Shared) (Z:St) (H:Hp) (vs:List V) (us:List Value) (Q:St->Hp->Prop),Inv X pins Z H s->Vals vs us->t vs Z H Q ->
  wpAny (model X.prog X.w) X.A (assignInOrder ((assignEach ts X.env).map (·.2)) us) (fun _ s'=>∃ca H',Inv X pins ca H' s'/\Q ca H') X.xe s
noncomputable abbrev PN:=V->V->V->Hp->(Hp->Prop)->Prop
noncomputable def Rw(X:Cx)(t:PN):Prop:=
 ∀(pins:List (Addr×Obj)) (s:Shared) (Z:St) (H:Hp) (o i v:V) (ov iv u:Value) (Q:Hp->Prop),Inv X pins Z H s->RelV o ov->RelV i iv->RelV v u->t o i v H Q ->
  wpAny (model X.prog X.w) X.A (setItem ov iv u) (fun _ s'=>∃H',Inv X pins Z H' s'/\Q H') X.xe s
section
variable {X:Cx}{pos:Pos}
noncomputable def KY(i:Nat):TG:=fun v Z H Q=>Q (Z.set i (some v)) H
theorem MW{i:Nat}{x:Str}(hN:X.N.Nodup)(hi:X.N[i]? = some x)(hx:Loc X.env.scope x)(hf:X.fn x=true\/X.env.scope.names.lookup x=some .local:=by first|exact .inl rfl|exact .inr rfl|assumption):PG X (.Name x pos) (KY i):=by
 intro pins s Z H v u Q I r h
 exact wpAny_assign_Name (nW I hN hi hx r (fun s' I'=>⟨_,H,I',h⟩) hf)
noncomputable def TC:TGs:=fun vs Z H Q=>vs=[]/\Q Z H
noncomputable def RV(t:TG)(u:TGs):TGs:=fun vs Z H Q=>∃v r,vs=v::r/\t v Z H fun ca H'=>u r ca H' Q
theorem Oc:PGs X [] TC:=by
 intro pins s Z H vs us Q I r h
 obtain⟨e,h⟩:=h
 subst e
 cases r
 exact assignInOrder_nil ⟨Z,H,I,h⟩
theorem KC{e:Expr}{es:List Expr}{t:TG}{u:TGs}(h1:PG X e t)(h2:PGs X es u)
  (hs:(assignEach (e::es) X.env).map (·.2)=assign e X.env::(assignEach es X.env).map (·.2):=by rfl):PGs X (e::es) (RV t u):=by
 intro pins s Z H vs us Q I r h
 obtain⟨v,vr,e1,h⟩:=h
 subst e1
 cases r with
 |cons r rr=>
  rw[hs]
  refine assignInOrder_cons (thn (h1 pins s Z H _ _ _ I r h) fun _ s1 hq0=>?_)
  obtain⟨lw,H1,I1,q1⟩:=hq0
  exact h2 pins s1 lw H1 _ _ Q I1 rr q1
noncomputable def Ti(K:PySem.W.Frag)(n:Nat)(t:TGs):TG:=fun v Z H Q=>∃a xs,v = .ref a/\SqT K H a xs/\xs.length=n/\t xs Z H Q
theorem Qf{es:List Expr}{k:Nat}{t:TGs}{n:Nat}(hc:X.calm=X.calm)(h:PGs X es t)
  (hn:(assignEach es X.env).length=n:=by rfl) (hst:(assignEach es X.env).findIdx? (·.1)=none:=by rfl):PG X (.Tuple es k pos) (Ti X.K n t):=by
 intro pins s Z H v u Q I r hw
 obtain⟨a,xs,e1,hq,hl,hw⟩:=hw
 subst e1
 cases r
 obtain⟨its,rv,ht,hz⟩:=I.tuple hq
 refine zT I.Fi ht (by simp[hn,<- hl,rv.length]) hst fun h' hx=>?_
 have I1:Inv X pins Z H {s with heap:=h'}:=I.kept (t':=s.toks) fun b o e=>hx b o (ne_of_lt (Heap.lt_size e)) e
 exact h pins _ Z H xs _ Q I1 (by simpa using rv) hw
noncomputable def Ta(to ti:TE)(t:PN):TG:=fun v Z H Q=>to Z H fun o H1=>ti Z H1 fun i H2=>t o i v H2 fun H3=>Q Z H3
theorem Qz{o i:Expr}{to ti:TE}{t:PN}(ho:PE X o to)(hi:PE X i ti)(hs:Rw X t)
  (ha:∀v,assign (.Subscript o i pos) X.env v=(do
   let ov <- holding [v] (eval o X.env)
   let iv <- holding [v,ov] (eval i X.env)
   standAt pos
   holding [v,ov,iv] (setItem ov iv v)
   release [v,ov,iv] []):=by intro _;rfl):PG X (.Subscript o i pos) (Ta to ti t):=by
 intro pins s Z H v u Q I r h
 rw[ha]
 refine wpAny_bind (wpAny_holding (thn (ho pins s Z H _ I h) fun ov s1 hq0=>?_))
 obtain⟨x,H1,I1,r1,q1⟩:=hq0
 refine wpAny_bind (wpAny_holding (thn (hi pins s1 Z H1 _ I1 q1) fun iv s2 hq0=>?_))
 obtain⟨y,H2,I2,r2,q2⟩:=hq0
 refine wpAny_bind (wpAny_standAt (wpAny_bind (wpAny_holding (thn (hs pins s2 Z H2 x y v ov iv u _ I2 r1 r2 r q2) fun _ s3 hq0=>?_))))
 obtain⟨H3,I3,q3⟩:=hq0
 exact wpAny_release ⟨Z,H3,I3,q3⟩
noncomputable def Q4(te:TE)(g:TG):TS:=fun D Z H=>te Z H fun x H1=>g x Z H1 D.nx
theorem Qk{tg e:Expr}{te:TE}{g:TG}(he:PE X e te)(hg:PG X tg g)(hs:swapsWithSole [tg] e pos.line X.env=pure false:=by rfl)(hw:swappedStores [tg] e X.env=pure none:=by rfl)
  (h1:(assignEach [tg] X.env).map (·.2)=[assign tg X.env]:=by rfl):PS X (.Assign [tg] e pos) (Q4 te g):=by
 intro pins s Z H D I h
 refine wpAny_Assign_stores (thn (he pins s Z H _ I h) fun v s1 hq0=>?_) hs hw
 obtain⟨x,H1,I1,r1,q1⟩:=hq0
 rw[h1]
 exact thn (hg pins s1 Z H1 x v _ I1 r1 q1) fun _ s2 q=>q
theorem OX{i:Nat}{x:Str}{e:Expr}{te:TE}{pos':Pos}(hN:X.N.Nodup)(hi:X.N[i]? = some x)(hx:Loc X.env.scope x)(he:PE X e te)(hs:swapsWith e (some (.Name x pos')) pos.line X.env=pure false:=by rfl)(hf:X.fn x=true\/X.env.scope.names.lookup x=some .local:=by first|exact .inl rfl|exact .inr rfl|assumption) :
  PS X (.Assign [.Name x pos'] e pos) (Q4 te (KY i)):=by
 intro pins s Z H D I h
 refine wpAny_Assign_Name (thn (he pins s Z H _ I h) fun v s1 hq0=>?_) hs
 obtain⟨y,H1,I1,r1,q1⟩:=hq0
 exact nW I1 hN hi hx r1 (fun s2 I2=>⟨_,H1,I2,q1⟩) hf
noncomputable def SH(i j:Nat)(ta:TA):TS:=fun D Z H=>ta Z H fun vs H1=>∃v w,vs=[v,w]/\D.nx ((Z.set i (some v)).set j (some w)) H1
theorem O5{i j:Nat}{x y:Str}{a b:Expr}{ta:TA}{px py pt:Pos}{kt k2 pt2}(hc:X.calm=true)(hN:X.N.Nodup)(hi:X.N[i]? = some x)(hj:X.N[j]? = some y)(hij:i≠j)
  (hx:X.env.scope.names.lookup x=some .local) (hy:X.env.scope.names.lookup y=some .local) (ha:PA X [a,b] ta)
  (hw:swappedStores [.Tuple [.Name x px,.Name y py] kt pt] (.Tuple [a,b] k2 pt2) X.env=pure (some [x,y]))
  (hs:swapsWithSole [.Tuple [.Name x px,.Name y py] kt pt] (.Tuple [a,b] k2 pt2) pos.line X.env=pure false:=by rfl) :
  PS X (.Assign [.Tuple [.Name x px,.Name y py] kt pt] (.Tuple [a,b] k2 pt2) pos) (SH i j ta):=by
 intro pins s Z H D I h
 rw[exec_Assign_arm]
 refine wpAny_bind (wpAny_standAt ?_)
 rw[hs]
 refine wpAny_bind (wpAny_pure ?_)
 rw[if_neg ⋯]
 refine wpAny_bind (Tuple_ (thn (ha _ pins s Z H _ I h) fun us s1 hq0=>?_))
 obtain⟨vs,H1,I1,r1,q1⟩:=hq0
 obtain⟨v,w,e1,q1⟩:=q1
 subst e1
 obtain⟨u1,u2,rfl,rv,rw'⟩:∃u1 u2,us=[u1,u2]/\RelV v u1/\RelV w u2:=by
  cases r1 with
  |cons p q=>
   cases q with
   |cons p' q'=>
    cases q'
    exact⟨_,_,rfl,p,p'⟩
 refine wpAny_newObj_type ?_ (by show 2<=sizeLine;decide)
 have I2:Inv X pins Z H1 {s1 with heap:=s1.heap.push {cls:=.type "tuple",data:=.seq [u1,u2].toArray}}:=I1.kept (t':=s1.toks) fun b o e=>Heap.get?_push_of_some _ e
 rw[hw]
 refine wpAny_bind (wpAny_pure ?_)
 show wpAny (model X.prog X.w) X.A (do rule "assign.swapped-stores";let items <- unpackItems (.ref s1.heap.objs.size) 2 none;assignInOrder [fun v=>bindName X.env y v,fun v=>bindName X.env x v] items.reverse;pure Flow.next) _ _ _
 refine wpAny_bind (wpAny_rule (wpAny_bind (unpackItems_tuple (items:=#[u1,u2]) (I.ok.hd hc) (IsTup.new s1.heap _) fun h' hx'=>?_)))
 have I3:=I2.kept (h':=h') (t':=s1.toks) fun b o e=>hx' b o (ne_of_lt (Heap.lt_size e)) e
 show wpAny _ _ (assignInOrder [fun v=>bindName X.env y v,fun v=>bindName X.env x v] [u2,u1]>>=fun _=>pure Flow.next) _ _ _
 refine wpAny_bind (assignInOrder_cons (wpAny_bindName (nW I3 hN hj (.inl hy) rw' (fun s2 I4=>?_) (.inr hy))))
 refine assignInOrder_cons (wpAny_bindName (nW I4 hN hi (.inl hx) rv (fun s3 I5=>assignInOrder_nil (wpAny_pure ?_)) (.inr hx)))
 rw[List.set_comm _ _ (Ne.symm hij)] at I5
 exact⟨_,H1,I5,q1⟩
end
section
variable {X:Cx}{pos:Pos}
noncomputable def Pq(c:TT)(tb:TS):TS:=fun D Z H=>∃W:Nat->St->Hp->Prop,(∃m,W m Z H)/\∀m Z H,W m Z H ->
 c Z H fun b H1=>if b=true then ∃N:St->Hp->Prop,(∀ca H',N ca H'->∃m',m'<m/\W m' ca H')/\tb {D with nx:=N,ct:=N,bk:=D.nx} Z H1 else D.nx Z H1
theorem Ma{c:Expr}{body:List Stmt}{tc:TT}{tb:TS}(hp:PassesOwn (model X.prog X.w) X.A X.env X.xe)(hc:PT X c tc)(hb:PSs X body tb):PS X (.While c body [] pos) (Pq tc tb):=by
 intro pins s Z H D I h
 obtain⟨W,⟨m0,w0⟩,turn⟩:=h
 refine wpAny_While (codeAny_whileLoop (fun n s'=>∃ca H',Inv X pins ca H' s'/\W n ca H') ?_ m0 ⟨Z,H,I,w0⟩)
 rintro n s1 ⟨lw,H1,I1,w1⟩
 refine wpAny_passesOwn hp (thn (hc pins s1 lw H1 _ I1 (turn n lw H1 w1)) fun b s2 hq0=>?_)
 obtain⟨H2,I2,q2⟩:=hq0
 cases b with
 |true=>
  obtain⟨N,hN,q2⟩:=q2
  rw[if_pos rfl]
  refine wpAny_passesOwn hp (thn (hb pins s2 lw H2 _ I2 q2) fun f s3 q3=>?_)
  cases f with
  |next=>
   obtain⟨jp,H3,I3,n3⟩:=q3
   obtain⟨m',hm,w3⟩:=hN jp H3 n3
   exact⟨m',hm,jp,H3,I3,w3⟩
  |cont=>
   obtain⟨jp,H3,I3,n3⟩:=q3
   obtain⟨m',hm,w3⟩:=hN jp H3 n3
   exact⟨m',hm,jp,H3,I3,w3⟩
  |brk=>exact q3
  |ret v=>exact q3
 |false=>
  rw[if_neg Bool.false_ne_true]
  exact wpAny_execs_nil ⟨lw,H2,I2,q2⟩
end
structure It where
 go:Nat->Hp->Prop
 yld:Nat->Hp->V->Hp->Prop
 stop:Nat->Hp->Prop
noncomputable def x5(X:Cx)(pins:List (Addr×Obj))(H:Hp)(b:Addr):Prop:=
 H b=none/\b≠X.env.locals/\b ∉ X.fs/\(b∈X.ex\/X.ga.heap.objs.size<=b)/\(∀x c,X.env.cells.lookup x=some c->c≠b)/\∀p∈X.pn++pins,p.1≠b
theorem Inv.L8{X:Cx}{pins:List (Addr×Obj)}{Z:St}{H H':Hp}{s:Shared}{b:Addr}(I:Inv X pins Z H s)(hb:s.heap.objs.size<=b)(hn:H' b=none):x5 X pins H' b:=by
 refine⟨hn,Nat.ne_of_gt (lt_of_lt_of_le I.lt hb),I.Tw hb,.inr (le_trans I.sz hb),fun x c e z=>?_,fun p hp z=>?_⟩
 ·obtain⟨v,q⟩:=I.cell x c e
  exact absurd (lt_of_lt_of_le q.lt (by rw[z];exact hb)) (lt_irrefl _)
 ·exact absurd (lt_of_lt_of_le (Heap.lt_size (I.pin p hp).1) (by rw[z];exact hb)) (lt_irrefl _)
structure Turn(c:Bool)(P:Program)(w:World)(K:PySem.W.Frag)(tg:Expr)(J:It)(fp:List Addr)(it:Addr)(tn:Nat->Heap->Prop):Prop where
 mem:it∈fp
 obj:∀i h,tn i h->∀b∈fp,∃o,h.get? b=some o/\∀v,o.data≠.cell v
 keep:∀i h h',tn i h->(∀b∈fp,∀o,h.get? b=some o->h'.get? b=some o)->tn i h'
 item:∀(X:Cx),X.prog=P->X.w=w->X.K=K->(c=true->X.calm=true)->∀(i:Nat) (pins:List (Addr×Obj)) (s:Shared) (Z:St) (H:Hp) (E:Value->Shared->Prop),Inv X pins Z H s->(∀b∈fp,x5 X pins H b)->tn i s.heap->J.go i H ->
  wpAny (model P w) X.A (pyNext (.ref it)) (fun r s1=>∃u,r=some u /\
   wpAny (model P w) X.A (letOwnedTupleGo tg (.ref it) u) (fun _ s2=>∃x H',Inv X pins Z H' s2/\RelV x u/\J.yld i H x H'/\tn (i+1) s2.heap/\∀b∈fp,H' b=none) E s1) E s
 done:∀(X:Cx),X.prog=P->X.w=w->X.K=K->(c=true->X.calm=true)->∀(i:Nat) (pins:List (Addr×Obj)) (s:Shared) (Z:St) (H:Hp) (E:Value->Shared->Prop),Inv X pins Z H s->(∀b∈fp,x5 X pins H b)->tn i s.heap->J.stop i H ->
  wpAny (model P w) X.A (pyNext (.ref it)) (fun r s1=>r=none/\Inv X pins Z H s1) E s
 self:∀(A:Around) (i:Nat) (s:Shared) (Q:Value->Shared->Prop) (E:Value->Shared->Prop),tn i s.heap->Q (.ref it) s->wpAny (model P w) A (pyIter (.ref it)) Q E s
theorem Turn.calm{c:Bool}{P:Program}{w:World}{K:PySem.W.Frag}{tg:Expr}{J:It}{fp:List Addr}{it:Addr}{tn:Nat->Heap->Prop}(T:Turn true P w K tg J fp it tn)(h:c=true):Turn c P w K tg J fp it tn:=by subst h;exact T
noncomputable abbrev TI:=St->Hp->(It->Hp->Prop)->Prop
noncomputable def PIE(X:Cx)(pins:List (Addr×Obj))(Z:St)(tg:Expr)(R:It->Hp->Prop)(itv:Value)(s2:Shared):Prop:=
 ∃(it:Addr) (fp:List Addr) (tn:Nat->Heap->Prop) (J:It) (H':Hp),itv = .ref it/\Inv X pins Z H' s2/\Turn X.calm X.prog X.w X.K tg J fp it tn/\tn 0 s2.heap/\(∀b∈fp,x5 X pins H' b)/\R J H'
noncomputable def PI(X:Cx)(tg iter:Expr)(wi:TI):Prop:=
 ∀(pins:List (Addr×Obj)) (s:Shared) (Z:St) (H:Hp) (R:It->Hp->Prop),Inv X pins Z H s->wi Z H R ->
  wpAny (model X.prog X.w) X.A (eval iter X.env) (fun v s1=>wpAny (model X.prog X.w) X.A (pyIter v) (PIE X pins Z tg R) X.xe s1) X.xe s
theorem LU{M:Model}{A:Around}{E:Value->Shared->Prop}{s:Shared}{tg:Expr}{it:Addr}{u:Value}{o:Obj}{n:String}{vs:Array Value}{Q:Unit->Shared->Prop}(ho:s.heap.get? it=some o)(hc:o.cls = .type n)(hd:o.data = .fields vs)
  (hn:["enumerate","zip","dict_itemiterator","dict_reverseitemiterator","odict_iterator","itertools.zip_longest","itertools.pairwise"].contains n=false) (hQ:Q () s):wpAny M A (letOwnedTupleGo tg (.ref it) u) Q E s:=by
 unfold letOwnedTupleGo
 cases tg<;>first
  |exact wpAny_pure hQ
  |(cases u<;>first
    |exact wpAny_pure hQ
    |(refine wpAny_bind (wpAny_load ho ?_)
      rw[hc,hd]
      show wpAny M A (if (["enumerate","zip","dict_itemiterator","dict_reverseitemiterator","odict_iterator","itertools.zip_longest","itertools.pairwise"].contains n&&vs[0]?==some (rawInt _))=true then _ else _) Q E s
      rw[if_neg (by intro h;rw[hn,Bool.false_and] at h;cases h)]
      exact wpAny_pure hQ))
noncomputable def Itl(K:PySem.W.Frag)(a:Addr):It:=
 ⟨fun i H=>∃xs x,SqL K H a xs/\xs[i]? = some x,fun i H x H'=>H'=H/\∀xs,SqL K H a xs->xs[i]? = some x,fun i H=>∃xs,SqL K H a xs/\xs.length<=i⟩
noncomputable def Itt(K:PySem.W.Frag)(a:Addr):It:=
 ⟨fun i H=>∃xs x,SqT K H a xs/\xs[i]? = some x,fun i H x H'=>H'=H/\∀xs,SqT K H a xs->xs[i]? = some x,fun i H=>∃xs,SqT K H a xs/\xs.length<=i⟩
noncomputable def Itr(lo:Int)(n:Nat):It:=⟨fun i _=>i<n,fun i H x H'=>H'=H/\x = .int (lo+i),fun i _=>n<=i⟩
theorem IV{c:Bool}{P:Program}{w:World}{K:PySem.W.Frag}{tg:Expr}(a it:Addr):Turn c P w K tg (Itl K a) [it] it (fun i h=>h.IsListIter it a i) where
 mem:=by simp
 obj:=fun i h st b hb=>by
  have e:b=it:=by simpa using hb
  subst e
  obtain⟨o,e,c,d⟩:=st
  exact⟨o,e,fun v z=>by rw[d] at z;cases z⟩
 keep:=fun i h h' st k=>st.at fun o e=>k it (by simp) o e
 item:=by
  intro X hP hw hK hc i pins s Z H E I hf st hg
  subst hP hw hK
  obtain⟨xs,x,hq,hx⟩:=hg
  obtain⟨its,rv,p,hz⟩:=I.list hq
  obtain⟨u,hu,ru⟩:=rv.get hx
  obtain⟨f0,f1,f2,f3,f4,f5⟩:=hf it (by simp)
  refine wpAny_pyNext_list_item st p.isList (x:=u) (by simpa using hu) fun h' st' sb=>?_
  have I1:Inv X pins Z H {s with heap:=h'}:=I.turned (t':=s.toks) (fun b o hb e=>(sb.2 b hb).trans e) f0 f1 f3 f4 f5
  obtain⟨o,e,c,d⟩:=id st'
  exact⟨u,rfl,LU (s:={s with heap:=h'}) e c d ⋯ ⟨x,H,I1,ru,⟨rfl,fun ys hy=>by rw[I.EX hy hq];exact hx⟩,st',fun b hb=>(hf b hb).1⟩⟩
 done:=by
  intro X hP hw hK hc i pins s Z H E I hf st hg
  subst hP hw hK
  obtain⟨xs,hq,hx⟩:=hg
  obtain⟨its,rv,p,hz⟩:=I.list hq
  obtain⟨f0,f1,f2,f3,f4,f5⟩:=hf it (by simp)
  have hl:=rv.length
  exact zg I.Fi (I.hne f5) st p.isList (by simp;omega) fun h' eb=>⟨rfl,I.turned (t':=s.toks) (fun b o hb e=>eb b o hb e) f0 f1 f3 f4 f5⟩
 self:=fun _ _ _ _ _ st h=>wpAny_pyIter_listiter st h
theorem F2{c:Bool}{P:Program}{w:World}{K:PySem.W.Frag}{tg:Expr}(a it:Addr):Turn c P w K tg (Itt K a) [it] it (fun i h=>h.IsTupleIter it a i) where
 mem:=by simp
 obj:=fun i h st b hb=>by
  have e:b=it:=by simpa using hb
  subst e
  obtain⟨o,e,c,d⟩:=st
  exact⟨o,e,fun v z=>by rw[d] at z;cases z⟩
 keep:=fun i h h' st k=>st.at fun o e=>k it (by simp) o e
 item:=by
  intro X hP hw hK hc i pins s Z H E I hf st hg
  subst hP hw hK
  obtain⟨xs,x,hq,hx⟩:=hg
  obtain⟨its,rv,p,hz⟩:=I.tuple hq
  obtain⟨u,hu,ru⟩:=rv.get hx
  obtain⟨f0,f1,f2,f3,f4,f5⟩:=hf it (by simp)
  refine wpAny_pyNext_tuple_item st (show s.heap.IsTuple a its.toArray from p) (x:=u) (by simpa using hu) fun h' st' sb=>?_
  have I1:Inv X pins Z H {s with heap:=h'}:=I.turned (t':=s.toks) (fun b o hb e=>(sb.2 b hb).trans e) f0 f1 f3 f4 f5
  obtain⟨o,e,c,d⟩:=id st'
  exact⟨u,rfl,LU (s:={s with heap:=h'}) e c d ⋯ ⟨x,H,I1,ru,⟨rfl,fun ys hy=>by rw[I.Je hy hq];exact hx⟩,st',fun b hb=>(hf b hb).1⟩⟩
 done:=by
  intro X hP hw hK hc i pins s Z H E I hf st hg
  subst hP hw hK
  obtain⟨xs,hq,hx⟩:=hg
  obtain⟨its,rv,p,hz⟩:=I.tuple hq
  obtain⟨f0,f1,f2,f3,f4,f5⟩:=hf it (by simp)
  have hl:=rv.length
  exact sE I.Fi (I.hne f5) st (show s.heap.IsTuple a its.toArray from p) (by simp;omega) fun h' eb=>⟨rfl,I.turned (t':=s.toks) (fun b o hb e=>eb b o hb e) f0 f1 f3 f4 f5⟩
 self:=fun _ _ _ _ _ st h=>wpAny_pyIter_tupleiter st h
theorem Fu{P:Program}{w:World}{K:PySem.W.Frag}{tg:Expr}(it:Addr)(lo:Int)(n:Nat):Turn true P w K tg (Itr lo n) [it] it (fun i h=>IsRangeIter h it (lo+(i:Nat)*1) ((n:Int)-(i:Nat)) 1) where
 mem:=by simp
 obj:=fun i h st b hb=>by
  have e:b=it:=by simpa using hb
  subst e
  exact⟨_,st,fun v z=>by
   have z':Data.fields _=Data.cell v:=z
   cases z'⟩
 keep:=fun i h h' st k=>k it (by simp) _ st
 item:=by
  intro X hP hw hK hc i pins s Z H E I hf st hg
  subst hP hw hK
  obtain⟨f0,f1,f2,f3,f4,f5⟩:=hf it (by simp)
  have W:=Walks.range (prog:=X.prog) (w:=X.w) (I.ok.hd (hc rfl)) it lo 1 n
  refine W.item i s _ _ hg st fun v h' tk hv st' kk=>?_
  obtain⟨t,rfl⟩:=hv
  have I1:Inv X pins Z H {s with heap:=h',toks:=tk}:=I.turned (fun b o hb e=>kk b o (by simpa using hb) e) f0 f1 f3 f4 f5
  refine⟨_,rfl,LU (s:={s with heap:=h',toks:=tk}) (n:="range_iterator") st' rfl rfl ⋯ ⟨.int (lo+i),H,I1,⟨t,?_⟩,⟨rfl,rfl⟩,st',fun b hb=>(hf b hb).1⟩⟩
  rw[mul_one]
 done:=by
  intro X hP hw hK hc i pins s Z H E I hf st hg
  subst hP hw hK
  obtain⟨f0,f1,f2,f3,f4,f5⟩:=hf it (by simp)
  exact wpAny_pyNext_range_end (I.ok.hd (hc rfl)) st (by have:n<=i:=hg;omega) fun h' eb=>⟨rfl,I.turned (t':=s.toks) (fun b o hb e=>eb b o hb e) f0 f1 f3 f4 f5⟩
 self:=fun _ _ _ _ _ st h=>wpAny_pyIter_rangeiter st h
end L2
namespace L2
open PySem PySem.Spec PyProof.Rows
section
variable {X:Cx}{tg:Expr}
noncomputable def Rn(K:PySem.W.Frag)(tl:TE):TI:=fun Z H R=>tl Z H fun x H1=>∃a,x = .ref a/\(∃xs,SqL K H1 a xs)/\R (Itl K a) H1
noncomputable def S0(K:PySem.W.Frag)(tl:TE):TI:=fun Z H R=>tl Z H fun x H1=>∃a,x = .ref a/\(∃xs,SqT K H1 a xs)/\R (Itt K a) H1
theorem Nb{l:Expr}{tl:TE}(hl:PE X l tl):PI X tg l (Rn X.K tl):=by
 intro pins s Z H R I h
 refine thn (hl pins s Z H _ I h) fun v s1 hq0=>?_
 obtain⟨x,H1,I1,r1,q1⟩:=hq0
 obtain⟨a,e,⟨xs,hq⟩,q⟩:=q1
 subst e
 cases r1
 obtain⟨its,rv,p,hz⟩:=I1.list hq
 refine wpAny_pyIter_list p.isList ?_
 refine⟨s1.heap.objs.size,[s1.heap.objs.size],_,_,H1,rfl,I1.kept (t':=s1.toks) fun b o e=>Heap.get?_push_of_some _ e,IV a _,⟨_,Heap.get?_push_size _ rfl,rfl,rfl⟩,fun b hb=>?_,q⟩
 have e:b=s1.heap.objs.size:=by simpa using hb
 subst e
 exact I1.L8 (le_refl _) (I1.hok.fresh (le_refl _))
theorem QC{l:Expr}{tl:TE}(hl:PE X l tl):PI X tg l (S0 X.K tl):=by
 intro pins s Z H R I h
 refine thn (hl pins s Z H _ I h) fun v s1 hq0=>?_
 obtain⟨x,H1,I1,r1,q1⟩:=hq0
 obtain⟨a,e,⟨xs,hq⟩,q⟩:=q1
 subst e
 cases r1
 obtain⟨its,rv,p,hz⟩:=I1.tuple hq
 refine wpAny_pyIter_tuple (show s1.heap.IsTuple a its.toArray from p) ?_
 refine⟨s1.heap.objs.size,[s1.heap.objs.size],_,_,H1,rfl,I1.kept (t':=s1.toks) fun b o e=>Heap.get?_push_of_some _ e,F2 a _,⟨_,Heap.get?_push_size _ rfl,rfl,rfl⟩,fun b hb=>?_,q⟩
 have e:b=s1.heap.objs.size:=by simpa using hb
 subst e
 exact I1.L8 (le_refl _) (I1.hok.fresh (le_refl _))
theorem D2(hc:X.calm=true){pins:List (Addr×Obj)}{Z:St}{H:Hp}{s:Shared}{R:It->Hp->Prop}{E:Value->Shared->Prop}{lo hi:Int}{t u v:Tok}{tk:Nat}(I:Inv X pins Z H s)(h1:-(2 ^ 62)<=lo)(h2:lo<2 ^ 62)(h3:-(2 ^ 62)<=hi)(h4:hi<2 ^ 62)
  (q:R (Itr lo (hi-lo).toNat) H):wpAny (model X.prog X.w) X.A (pyIter (.ref s.heap.objs.size)) (PIE X pins Z tg R) E {s with heap:=s.heap.push {cls:=.type "range",data:=.fields #[.int lo t,.int hi u,.int 1 v]},toks:=tk}:=by
 refine wpAny_pyIter_range (IsRange.new ..) (small_one h1 h2 h3 h4) ?_
 have I1:Inv X pins Z H {s with heap:=s.heap.push {cls:=.type "range",data:=.fields #[.int lo t,.int hi u,.int 1 v]},toks:=tk}:=I.kept fun b o e=>Heap.get?_push_of_some _ e
 refine⟨(s.heap.push {cls:=.type "range",data:=.fields #[.int lo t,.int hi u,.int 1 v]}).objs.size,[(s.heap.push {cls:=.type "range",data:=.fields #[.int lo t,.int hi u,.int 1 v]}).objs.size],_,_,H,rfl,
  I1.kept (t':=tk) fun b o e=>Heap.get?_push_of_some _ e,(Fu _ lo (hi-lo).toNat).calm hc,?_,fun b hb=>?_,q⟩
 ·have e1:lo+((0:Nat):Int)*1=lo:=by simp
  have e2:(((hi-lo).toNat:Nat):Int)-((0:Nat):Int)=Builtin.Range.rangeSize lo hi 1:=by rw[rangeSize_one];split<;>omega
  show IsRangeIter _ _ (lo+((0:Nat):Int)*1) ((((hi-lo).toNat:Nat):Int)-((0:Nat):Int)) 1
  rw[e1,e2]
  exact Heap.get?_push_size _ rfl
 ·have e:b=(s.heap.push {cls:=.type "range",data:=.fields #[.int lo t,.int hi u,.int 1 v]}).objs.size:=by simpa using hb
  subst e
  exact I1.L8 (le_refl _) (I1.hok.fresh (le_refl _))
noncomputable def SD(ta:TA):TI:=fun Z H R=>ta Z H fun vs H1=>∃j:Int,vs=[.int j]/\-(2 ^ 62)<=j/\j<2 ^ 62/\R (Itr 0 j.toNat) H1
noncomputable def Sa(ta:TA):TI:=fun Z H R=>ta Z H fun vs H1=>∃i j:Int,vs=[.int i,.int j]/\(-(2 ^ 62)<=i/\i<2 ^ 62/\-(2 ^ 62)<=j/\j<2 ^ 62)/\R (Itr i (j-i).toNat) H1
theorem IA{a:Expr}{ta:TA}{p pos:Pos}(hc:X.calm=true)(hg:Gl X "range")(hm:X.mg "range"=none)(ha:PA X [a] ta)(hs:starEach [a] X.env=[(false,eval a X.env)]:=by rfl):PI X tg (.Call (.Name "range" p) [a] [] pos) (SD ta):=by
 intro pins s Z H R I h
 refine Call_ (p7 I hg hm boot_range (PyProof.Rows.callWith_type1 (thn (ha pos pins s Z H _ I h) fun us s1 hq0=>?_) hs rfl))
 obtain⟨vs,H1,I1,r1,q1⟩:=hq0
 obtain⟨j,e,q1,q2,q⟩:=q1
 subst e
 cases r1 with
 |cons r rr=>
  cases rr
  obtain⟨t,rfl⟩:=r
  exact call_range_1 (D2 hc I1 ∅ ∅ q1 q2 (by simpa using q))
theorem IC{a b:Expr}{ta:TA}{p pos:Pos}(hc:X.calm=true)(hg:Gl X "range")(hm:X.mg "range"=none)(ha:PA X [a,b] ta)(hs:starEach [a,b] X.env=[(false,eval a X.env),(false,eval b X.env)]:=by rfl)(hs2:starEach [b] X.env=[(false,eval b X.env)]:=by rfl) :
  PI X tg (.Call (.Name "range" p) [a,b] [] pos) (Sa ta):=by
 intro pins s Z H R I h
 refine Call_ (p7 I hg hm boot_range (PyProof.Rows.callWith_type1 (thn (ha pos pins s Z H _ I h) fun us s1 hq0=>?_) (by rw[hs,hs2]) (by rw[hs2];rfl)))
 obtain⟨vs,H1,I1,r1,q1⟩:=hq0
 obtain⟨i,j,e,⟨q1,q2,q3,q4⟩,q⟩:=q1
 subst e
 cases r1 with
 |cons r rr=>
  cases rr with
  |cons r' rr=>
   cases rr
   obtain⟨t,rfl⟩:=r
   obtain⟨t',rfl⟩:=r'
   exact call_range_2 (D2 hc I1 q1 q2 q3 q4 q)
noncomputable def SY(wi:TI)(g:TG)(tb:TS):TS:=fun D Z H=>wi Z H fun J H1=>∃W:Nat->Nat->St->Hp->Prop,(∃m,W 0 m Z H1)/\∀i m Z H,W i m Z H ->
 (J.stop i H/\D.nx Z H)\/(J.go i H/\∃N:St->Hp->Prop,(∀ca H',N ca H'->∃m',m'<m/\W (i+1) m' ca H')/\∀x H',J.yld i H x H'->g x Z H' fun tx H2=>tb {D with nx:=N,ct:=N,bk:=D.nx} tx H2)
noncomputable def C8(fp:List Addr)(h:Heap):List (Addr×Obj):=fp.filterMap fun b=>(h.get? b).map fun o=>(b,o)
theorem eX{fp:List Addr}{h:Heap}{b:Addr}{o:Obj}(hb:b∈fp)(e:h.get? b=some o):(b,o)∈C8 fp h:=List.mem_filterMap.mpr ⟨b,hb,by rw[e];rfl⟩
theorem Ip{fp:List Addr}{h:Heap}{p:Addr×Obj}(hp:p∈C8 fp h):p.1∈fp/\h.get? p.1=some p.2:=by
 obtain⟨b,hb,e⟩:=List.mem_filterMap.mp hp
 cases q:h.get? b with
 |none=>rw[q] at e;cases e
 |some o=>
  rw[q] at e
  have e':(b,o)=p:=Option.some.inj e
  subst e'
  exact⟨hb,q⟩
theorem Inv.pinned{pins:List (Addr×Obj)}{Z:St}{H:Hp}{s:Shared}{fp:List Addr}(I:Inv X pins Z H s)(hf:∀b∈fp,x5 X pins H b)(ho:∀b∈fp,∃o,s.heap.get? b=some o/\∀v,o.data≠.cell v):Inv X (pins++C8 fp s.heap) Z H s:=
 I.Hu fun p hp=>(List.mem_append.mp hp).elim (fun z=>I.pin p (mem_append_right _ z)) fun z=>by
  obtain⟨hb,e⟩:=Ip z
  obtain⟨f0,f1,f2,_⟩:=hf p.1 hb
  obtain⟨o,e',d⟩:=ho p.1 hb
  rw[e] at e';cases e'
  exact⟨e,f0,f1,f2,d⟩
theorem Inv.kM{pins pl:List (Addr×Obj)}{Z:St}{H:Hp}{s:Shared}(I:Inv X (pins++pl) Z H s):Inv X pins Z H s:=I.Hu fun p hp=>I.pin p (mem_append_right _ (mem_append_left _ hp))
theorem QZ{iter:Expr}{body:List Stmt}{wi:TI}{g:TG}{tb:TS}{pos:Pos}(hp:PassesOwn (model X.prog X.w) X.A X.env X.xe)(hc:X.calm=true)(hi:PI X tg iter wi)(hg:PG X tg g)(hb:PSs X body tb)
  (hs:∀x,foldedSetIterable iter X.env x=pure x:=by intro _;rfl):PS X (.For tg iter body [] pos) (SY wi g tb):=by
 intro pins s Z H D I h
 refine wpAny_For (thn (hi pins s Z H _ I h) fun v s1 h1=>thn h1 fun itv s2 h2=>?_) hs
 obtain⟨it,fp,tn,J,H2,e,I2,T,st2,f2,W,⟨m0,w0⟩,turn⟩:=h2
 subst e
 have stat:∀{H':Hp},(∀b∈fp,H' b=none)->∀b∈fp,x5 X pins H' b:=fun hn b hb=>⟨hn b hb,(f2 b hb).2⟩
 refine codeAny_forLoop_any (fun n s'=>∃i ca H',Inv X pins ca H' s'/\tn i s'.heap/\(∀b∈fp,H' b=none)/\W i n ca H') ?_ m0 ⟨0,Z,H2,I2,st2,fun b hb=>(f2 b hb).1,w0⟩
 rintro n s3 ⟨i,jp,H3,I3,st3,fr3,w3⟩
 rcases turn i n jp H3 w3 with ⟨stop,qn⟩|⟨go,N,hN,step⟩
 ·refine wpAny_passesOwn hp (thn (T.done X rfl rfl rfl (fun z=>z) i pins s3 jp H3 X.xe I3 (stat fr3) st3 stop) fun r s4 hq0=>?_)
  obtain⟨hr,I4⟩:=hq0
  subst hr
  exact wpAny_execs_nil ⟨jp,H3,I4,qn⟩
 ·refine wpAny_passesOwn hp (thn (T.item X rfl rfl rfl (fun z=>z) i pins s3 jp H3 X.xe I3 (stat fr3) st3 go) fun r s4 hq0=>?_)
  obtain⟨u,hr,h4⟩:=hq0
  subst hr
  refine wpAny_passesOwn hp (thn h4 fun _ s5 hq0=>?_)
  obtain⟨x,H5,I5,r5,y5,st5,fr5⟩:=hq0
  have I5':=I5.pinned (stat fr5) (T.obj _ _ st5)
  refine wpAny_passesOwn hp (thn (hg _ s5 jp H5 x u _ I5' r5 (step x H5 y5)) fun _ s6 hq0=>?_)
  obtain⟨re,H6,I6,q6⟩:=hq0
  refine wpAny_passesOwn hp (thn (hb _ s6 re H6 _ I6 q6) fun f s7 q7=>?_)
  have again:∀{ls:St} {H7:Hp},Inv X (pins++C8 fp s5.heap) ls H7 s7->N ls H7->∃m,m<n/\∃i ca H',Inv X pins ca H' s7/\tn i s7.heap/\(∀b∈fp,H' b=none)/\W i m ca H':=fun {ls H7} I7 n7=>by
   obtain⟨m',hm,w7⟩:=hN ls H7 n7
   refine⟨m',hm,i+1,ls,H7,I7.kM,T.keep _ _ _ st5 fun b hb o e=>(I7.pin (b,o) (mem_append_right _ (mem_append_right _ (eX hb e)))).1,fun b hb=>?_,w7⟩
   obtain⟨o,e,d⟩:=T.obj _ _ st5 b hb
   exact (I7.pin (b,o) (mem_append_right _ (mem_append_right _ (eX hb e)))).2.1
  cases f with
  |next=>obtain⟨ls,H7,I7,n7⟩:=q7;exact again I7 n7
  |cont=>obtain⟨ls,H7,I7,n7⟩:=q7;exact again I7 n7
  |brk=>obtain⟨ls,H7,I7,q7⟩:=q7;exact⟨ls,H7,I7.kM,q7⟩
  |ret v=>obtain⟨x7,ls,H7,I7,r7,q7⟩:=q7;exact⟨x7,ls,H7,I7.kM,r7,q7⟩
end
end L2
namespace L2
open PySem PySem.Spec PyProof.Rows
noncomputable abbrev R2:=V->V->Hp->VK->Prop
noncomputable def OpR(X:Cx)(f:Value->Value->Sem Value)(r:R2):Prop:=
 ∀(pins:List (Addr×Obj)) (s:Shared) (Z:St) (H:Hp) (x y:V) (v u:Value) (Q:VK),Inv X pins Z H s->RelV x v->RelV y u->r x y H Q ->
  wpAny (model X.prog X.w) X.A (f v u) (EP X pins Z Q) X.xe s
noncomputable def UnR(X:Cx)(f:Value->Sem Value)(r:V->Hp->VK->Prop):Prop:=
 ∀(pins:List (Addr×Obj)) (s:Shared) (Z:St) (H:Hp) (x:V) (v:Value) (Q:VK),Inv X pins Z H s->RelV x v->r x H Q ->
  wpAny (model X.prog X.w) X.A (f v) (EP X pins Z Q) X.xe s
noncomputable def iP(X:Cx)(f:Value)(r:List V->Hp->VK->Prop):Prop:=
 ∀(pins:List (Addr×Obj)) (s:Shared) (Z:St) (H:Hp) (xs:List V) (us:List Value) (Q:VK),Inv X pins Z H s->Vals xs us->r xs H Q ->
  wpAny (model X.prog X.w) X.A (call f us) (EP X pins Z Q) X.xe s
noncomputable def tOp(r:R2)(ta tb:TE):TE:=fun Z H Q=>ta Z H fun x H1=>tb Z H1 fun y H2=>r x y H2 Q
noncomputable def tUn(r:V->Hp->VK->Prop)(ta:TE):TE:=fun Z H Q=>ta Z H fun x H1=>r x H1 Q
noncomputable def rI(C:Int->Int->Prop)(g:Int->Int->V):R2:=fun x y H Q=>∃i j,x = .int i/\y = .int j/\C i j/\Q (g i j) H
noncomputable def rI0(g:Int->Int->V):R2:=fun x y H Q=>∃i j,x = .int i/\y = .int j/\Q (g i j) H
noncomputable def rU(g:Int->V):V->Hp->VK->Prop:=fun x H Q=>∃i,x = .int i/\Q (g i) H
section
variable {X:Cx}{a b c:Expr}{ta tb tc:TE}{pos:Pos}
theorem Rb(ha:PE X a ta)(hb:PE X b tb){pins:List (Addr×Obj)}{s:Shared}{Z:St}{H:Hp}{R:V->V->Hp->Prop}(I:Inv X pins Z H s)
  (h:ta Z H fun x H1=>tb Z H1 fun y H2=>R x y H2) {Q:Value->Shared->Prop} {f:Value->Value->Sem Value}
  (hf:∀v u s2 x y H2,Inv X pins Z H2 s2->RelV x v->RelV y u->R x y H2->wpAny (model X.prog X.w) X.A (f v u) Q X.xe s2) :
  wpAny (model X.prog X.w) X.A (eval a X.env) (fun v db=>wpAny (model X.prog X.w) X.A (eval b X.env) (fun u im=>wpAny (model X.prog X.w) X.A (f v u) Q X.xe im) X.xe db) X.xe s:=by
 refine thn (ha pins s Z H _ I h) fun v s1 hq0=>?_
 obtain⟨x,H1,I1,r1,q1⟩:=hq0
 refine thn (hb pins s1 Z H1 _ I1 q1) fun u s2 hq0=>?_
 obtain⟨y,H2,I2,r2,q2⟩:=hq0
 exact hf v u s2 x y H2 I2 r1 r2 q2
theorem Rh{op:Operator}{r:R2}(ho:OpR X (binaryOp op) r)(ha:PE X a ta)(hb:PE X b tb):PE X (.BinOp a op b pos) (tOp r ta tb):=by
 intro pins s Z H Q I h
 exact wpAny_BinOp (Rb ha hb I h fun v u s2 x y H2 I2 rx ry q=>ho pins s2 Z H2 x y v u Q I2 rx ry q)
theorem RF{op:UnaryOp}{r:V->Hp->VK->Prop}(ho:UnR X (unaryOp op) r)(ha:PE X a ta):PE X (.UnaryOp op a pos) (tUn r ta):=by
 intro pins s Z H Q I h
 exact UnaryOp_ (thn (ha pins s Z H _ I h) fun v s1 ⟨x,H1,I1,r1,q1⟩=>ho pins s1 Z H1 x v Q I1 r1 q1)
theorem opI{f:Value->Value->Sem Value}{C:Int->Int->Prop}{g:Int->Int->Int}
  (rule:∀(i j:Int) (t u:Tok) (s:Shared) (Q:Value->Shared->Prop) (E:Value->Shared->Prop),C i j->Q (.int (g i j) s.toks) {s with toks:=s.toks+1}->wpAny (model X.prog X.w) X.A (f (.int i t) (.int j u)) Q E s) :
  OpR X f (rI C fun i j=>.int (g i j)):=by
 intro pins s Z H x y v u Q I rx ry h
 obtain⟨i,j,rfl,rfl,hc,q⟩:=h
 obtain⟨t,rfl⟩:=rx
 obtain⟨t',rfl⟩:=ry
 exact rule i j t t' s _ _ hc ⟨.int (g i j),H,I.tok _,⟨_,rfl⟩,q⟩
theorem RI{f:Value->Value->Sem Value}{g:Int->Int->Int}
  (rule:∀(i j:Int) (t u:Tok) (s:Shared) (Q:Value->Shared->Prop) (E:Value->Shared->Prop),Q (.int (g i j) s.toks) {s with toks:=s.toks+1}->wpAny (model X.prog X.w) X.A (f (.int i t) (.int j u)) Q E s) :
  OpR X f (rI0 fun i j=>.int (g i j)):=by
 intro pins s Z H x y v u Q I rx ry h
 obtain⟨i,j,rfl,rfl,q⟩:=h
 obtain⟨t,rfl⟩:=rx
 obtain⟨t',rfl⟩:=ry
 exact rule i j t t' s _ _ ⟨.int (g i j),H,I.tok _,⟨_,rfl⟩,q⟩
theorem MX{f:Value->Value->Sem Value}{g:Int->Int->Bool}
  (rule:∀(i j:Int) (t u:Tok) (s:Shared) (Q:Value->Shared->Prop) (E:Value->Shared->Prop),Q (.bool (g i j)) s->wpAny (model X.prog X.w) X.A (f (.int i t) (.int j u)) Q E s) :
  OpR X f (rI0 fun i j=>.bl (g i j)):=by
 intro pins s Z H x y v u Q I rx ry h
 obtain⟨i,j,rfl,rfl,q⟩:=h
 obtain⟨t,rfl⟩:=rx
 obtain⟨t',rfl⟩:=ry
 exact rule i j t t' s _ _ ⟨.bl (g i j),H,I,rfl,q⟩
noncomputable def Qx(i j:Int):Prop:=0<=j/\j<=1000000/\i.natAbs<2 ^ 64
noncomputable def Nj(i j:Int):Prop:=(-(2 ^ 64)<i/\i<2 ^ 64)\/(-(2 ^ 64)<j/\j<2 ^ 64)
theorem Nj.ok{i j:Int}(h:Nj i j):IntMulOk i j:=by
 rcases h with ⟨h1,h2⟩|⟨h1,h2⟩
 ·exact .of_left (intBits_le_64 h1 h2)
 ·exact .of_right (intBits_le_64 h1 h2)
theorem QP:OpR X (binaryOp .Add) (rI0 fun i j=>.int (i+j)):=RI fun _ _ _ _ _ _ _ q=>add_int q
theorem OW:OpR X (binaryOp .Sub) (rI0 fun i j=>.int (i-j)):=RI fun _ _ _ _ _ _ _ q=>sub_int q
theorem M9:OpR X (binaryOp .Mod) (rI (fun _ j=>j≠0) fun i j=>.int (i.fmod j)):=opI fun _ _ _ _ _ _ _ hc q=>mod_int' hc q
theorem PB:OpR X (binaryOp .Pow) (rI Qx fun i j=>.int (i ^ j.toNat)):=opI fun _ _ _ _ _ _ _ hc q=>pow_int_small hc.1 hc.2.1 hc.2.2 q
theorem unI{f:Value->Sem Value}{g:Int->Int}
  (rule:∀(i:Int) (t:Tok) (s:Shared) (Q:Value->Shared->Prop) (E:Value->Shared->Prop),Q (.int (g i) s.toks) {s with toks:=s.toks+1}->wpAny (model X.prog X.w) X.A (f (.int i t)) Q E s) :
  UnR X f (rU fun i=>.int (g i)):=by
 intro pins s Z H x v Q I rx h
 obtain⟨i,rfl,q⟩:=h
 obtain⟨t,rfl⟩:=rx
 exact rule i t s _ _ ⟨.int (g i),H,I.tok _,⟨_,rfl⟩,q⟩
theorem Px:UnR X (unaryOp .USub) (rU fun i=>.int (-i)):=unI fun _ _ _ _ _ q=>neg_int q
end
section
variable {X:Cx}{a b c:Expr}{ta tb tc:TE}{pos:Pos}
theorem kv:OpR X (compareOp .Lt) (rI0 fun i j=>.bl (decide (i<j))):=MX fun _ _ _ _ _ _ _ q=>lt_int q
theorem Oo:OpR X (compareOp .LtE) (rI0 fun i j=>.bl (decide (i<=j))):=MX fun _ _ _ _ _ _ _ q=>le_int q
theorem ja:OpR X (compareOp .Gt) (rI0 fun i j=>.bl (decide (j<i))):=MX fun _ _ _ _ _ _ _ q=>gt_int q
theorem AE:OpR X (compareOp .GtE) (rI0 fun i j=>.bl (decide (j<=i))):=MX fun _ _ _ _ _ _ _ q=>ge_int q
theorem aC(b:Expr){op:CmpOp}(h:op≠.In:=by decide)(h2:op≠.NotIn:=by decide):behindInMarks op b=false:=by
 have e1:(op==CmpOp.In)=false:=by cases op<;>first|rfl|exact absurd rfl h
 have e2:(op==CmpOp.NotIn)=false:=by cases op<;>first|rfl|exact absurd rfl h2
 cases b<;>simp[behindInMarks,e1,e2]
theorem NL{op:CmpOp}{r:R2}(ho:OpR X (compareOp op) r)(ha:PE X a ta)(hb:PE X b tb)(hm:behindInMarks op b=false):PE X (.Compare a [op] [b] pos) (tOp r ta tb):=by
 intro pins s Z H Q I h
 exact wpAny_Compare1 (Rb ha hb I h fun v u s2 x y H2 I2 rx ry q=>ho pins s2 Z H2 x y v u Q I2 rx ry q) hm
noncomputable def OG(t:TE):TT:=fun Z H Q=>t Z H fun x H'=>∃k,x = .bl k/\Q k H'
theorem Mx{op:CmpOp}{r:R2}(ho:OpR X (compareOp op) r)(ha:PE X a ta)(hb:PE X b tb)(hm:behindInMarks op b=false):PT X (.Compare a [op] [b] pos) (OG (tOp r ta tb)):=by
 intro pins s Z H Q I h
 refine wpAny_isTrue_Compare1 (thn (ha pins s Z H _ I h) fun v s1 ⟨x,H1,I1,r1,q1⟩=>thn (hb pins s1 Z H1 _ I1 q1) fun u s2 ⟨y,H2,I2,r2,q2⟩=>
  thn (ho pins s2 Z H2 x y v u _ I2 r1 r2 q2) fun c s3 ⟨z,H3,I3,r3,k,e,q3⟩=>?_) hm
 subst e
 cases r3
 exact wpAny_truthy_bool ⟨H3,I3,q3⟩
theorem wI:(sizeLine:Nat)<2 ^ 63:=by rw[sizeLine_eq];decide
theorem vals1{x:V}{us:List Value}(r:Vals [x] us):∃u,us=[u]/\RelV x u:=by
 cases r with
 |cons r1 r2=>cases r2;exact⟨_,rfl,r1⟩
theorem vals2{x y:V}{us:List Value}(r:Vals [x,y] us):∃u w',us=[u,w']/\RelV x u/\RelV y w':=by
 cases r with
 |cons r1 r2=>
  cases r2 with
  |cons r3 r4=>cases r4;exact⟨_,_,rfl,r1,r3⟩
theorem Kr:iP X (.builtin "abs") (fun xs H Q=>∃i,xs=[.int i]/\Q (.int (if i<0 then -i else i)) H):=by
 intro pins s Z H xs us Q I r h
 obtain⟨i,rfl,q⟩:=h
 obtain⟨u,rfl,t,rfl⟩:=vals1 r
 exact call_abs_int fun u tk=>⟨.int (if i<0 then -i else i),H,I.tok _,⟨_,rfl⟩,q⟩
theorem IZ(hc:X.calm=true):iP X (.builtin "max") (fun xs H Q=>∃i j,xs=[.int i,.int j]/\Q (.int (if j>i then j else i)) H):=by
 intro pins s Z H xs us Q I r h
 obtain⟨i,j,rfl,q⟩:=h
 obtain⟨u,w',rfl,⟨t,rfl⟩,⟨t',rfl⟩⟩:=vals2 r
 refine max_two_ints (I.ok.hd hc) fun h' tk k=>⟨_,H,I.kept k,?_,q⟩
 by_cases hj:j>i
 ·rw[if_pos hj,if_pos hj];exact⟨_,rfl⟩
 ·rw[if_neg hj,if_neg hj];exact⟨_,rfl⟩
theorem Jp(hc:X.calm=true):iP X (.builtin "min") (fun xs H Q=>∃i j,xs=[.int i,.int j]/\Q (.int (if j<i then j else i)) H):=by
 intro pins s Z H xs us Q I r h
 obtain⟨i,j,rfl,q⟩:=h
 obtain⟨u,w',rfl,⟨t,rfl⟩,⟨t',rfl⟩⟩:=vals2 r
 refine min_two_ints (I.ok.hd hc) fun h' tk k=>⟨_,H,I.kept k,?_,q⟩
 by_cases hj:j<i
 ·rw[if_pos hj,if_pos hj];exact⟨_,rfl⟩
 ·rw[if_neg hj,if_neg hj];exact⟨_,rfl⟩
theorem IJ:iP X (.type "int") (fun xs H Q=>(∃i,xs=[.int i]/\Q (.int i) H)\/∃k,xs=[.bl k]/\Q (.int (if k then 1 else 0)) H):=by
 intro pins s Z H xs us Q I r h
 rcases h with ⟨i,rfl,q⟩|⟨k,rfl,q⟩
 ·obtain⟨u,rfl,t,rfl⟩:=vals1 r
  exact call_int_int ⟨.int i,H,I,⟨_,rfl⟩,q⟩
 ·obtain⟨u,rfl,r1⟩:=vals1 r
  cases r1
  exact call_int_bool ⟨.int (if k then 1 else 0),H,I.tok _,⟨_,rfl⟩,q⟩
end
end L2
namespace L2
open PySem PySem.Spec PyProof.Rows
end L2
namespace L2
open PySem PySem.Spec PyProof.Rows
structure kL(k:Nat)(A:Around):Prop where
 hd:A.handled=none
 dp:A.depth+3*k+5<recursionLimit
 un:A.units+16*k+200<cLine
theorem kL.mono{j k:Nat}{A:Around}(r:kL k A)(h:j<=k):kL j A:=⟨r.hd,by have:=r.dp;omega,by have:=r.un;omega⟩
theorem kL.deeper{k:Nat}{A:Around}(r:kL (k+1) A)(env:Env):kL k (A.deeper env):=
 ⟨r.hd,by have:=r.dp;show A.depth+1+3*k+5<_;omega,by have:=r.un;show A.units+3+16*k+200<_;omega⟩
theorem kL.depth{k:Nat}{A:Around}(r:kL k A):A.depth<recursionLimit:=by have:=r.dp;omega
theorem kL.units{k:Nat}{A:Around}(r:kL k A):A.units+64<cLine:=by have:=r.un;omega
noncomputable def SO:TA:=fun _ H Q=>Q [] H
noncomputable def R9(ta:TE)(tr:TA):TA:=fun Z H Q=>ta Z H fun x H1=>tr Z H1 fun xs H2=>Q (x::xs) H2
section
variable {X:Cx}{e:Expr}{es:List Expr}{te:TE}{t:TA}{pos:Pos}
theorem Di:PA X [] SO:=fun _ _ _ _ H Q I h=>Calls.spliced_nil ⟨[],H,I,.nil,h⟩
theorem oN(ha:PE X e te)(hr:PA X es t)(hs:starEach (e::es) X.env=(false,eval e X.env)::starEach es X.env:=by rfl):PA X (e::es) (R9 te t):=by
 intro pos pins s Z H Q I h
 rw[hs]
 show wpAny _ _ (spliced ((false,eval e X.env)::backTo pos (starEach es X.env))) _ _ s
 refine Calls.spliced_cons (thn (ha pins s Z H _ I h) fun u s1 hq0=>?_)
 obtain⟨x,H1,I1,r1,q1⟩:=hq0
 exact thn (hr pos pins s1 Z H1 _ I1 q1) fun us s2 ⟨xs,H2,I2,r2,q2⟩=>⟨x::xs,H2,I2,.cons r1 r2,q2⟩
noncomputable def SU(t:TA):TE:=fun Z H Q=>t Z H fun xs H1=>xs.length<=sizeLine/\∀p,H1 p=none->Q (.ref p) (upd H1 p (.tup xs))
noncomputable def SN(t:TA):TE:=fun Z H Q=>t Z H fun xs H1=>xs.length<=sizeLine/\∀p,H1 p=none->Q (.ref p) (upd H1 p (.lst xs))
theorem P1{x1}(h:PA X es t):PE X (.Tuple es x1 pos) (SU t):=by
 intro pins s Z H Q I hq
 refine wpAny_Tuple_spliced (thn (h pos pins s Z H _ I hq) fun us s1 ⟨xs,H1,I1,r,z,q⟩=>⟨by rw[<- r.length];exact z,?_⟩)
 have hf:H1 s1.heap.objs.size=none:=I1.hok.fresh (le_refl _)
 refine⟨.ref s1.heap.objs.size,upd H1 s1.heap.objs.size (.tup xs),I1.laid (t':=s1.toks) (fun b u e=>Heap.get?_push_of_some _ e) (le_refl _) ?_,rfl,q _ hf⟩
 exact⟨z,us,r,⟨_,Heap.get?_push_size _ rfl,rfl,_,rfl⟩⟩
theorem P2(h:PA X es t):PE X (.List es pos) (SN t):=by
 intro pins s Z H Q I hq
 refine wpAny_List_spliced (thn (h pos pins s Z H _ I hq) fun us s1 ⟨xs,H1,I1,r,z,q⟩=>⟨by rw[<- r.length];exact z,?_⟩)
 have hf:H1 s1.heap.objs.size=none:=I1.hok.fresh (le_refl _)
 refine⟨.ref s1.heap.objs.size,upd H1 s1.heap.objs.size (.lst xs),I1.laid (t':=s1.toks) (fun b u e=>Heap.get?_push_of_some _ e) (le_refl _) ?_,rfl,q _ hf⟩
 exact⟨z,us,0,r,Heap.get?_push_size _ rfl⟩
end
noncomputable abbrev Sp:=List V->Hp->VK->XK->Prop
noncomputable abbrev CXT:=List Env->Hp->Shared->XK->Value->Shared->Prop
structure ND(P:Program)(w:World)(K:PySem.W.Frag)(mg:Str->Option Value)(base:Heap)(A:Around)(outer:List Env)(s:Shared)(H:Hp):Prop where
 frames:A.frames=some outer
 mod:Mod K mg base
 bs:∀b o,base.get? b=some o->s.heap.get? b=some o/\H b=none
 bsz:base.objs.size<=s.heap.objs.size
 wU:s.heap.FunFrames base outer
 frf:∀b∈frs outer,H b=none
 hok:HOk P w H s.heap
 bare:AllBare s.gens
noncomputable def CE(outer:List Env)(P:Program)(w:World)(H:Hp)(s:Shared)(Q:VK)(u:Value)(s':Shared):Prop:=
 ∃v H',s'.os=s.os/\AllBare s'.gens/\Un (frs outer) [] H H' s.heap s'.heap/\HOk P w H' s'.heap/\RelV v u/\Q v H'
noncomputable def CR(CX:CXT)(outer:List Env)(P:Program)(w:World)(H:Hp)(s:Shared)(Q:VK)(E:XK)(r:Result)(s':Shared):Prop:=
 match r with
 |.ok (.ret u)=>CE outer P w H s Q u s'
 |.ok _=>False
 |.error e=>CX outer H s E e s'
structure mT(P:Program)(w:World)(K:PySem.W.Frag)(mg:Str->Option Value)(base:Heap)(CX:CXT)(k:Nat)(f:Addr)(fd:FuncData)(ps:List Str)(sp:Sp):Prop where
 len:∀vs H Q E,sp vs H Q E->vs.length=ps.length
 run:∀(A:Around) (outer:List Env) (s:Shared) (H:Hp) (args:Args) (us:List Value) (vs:List V) (Q:VK) (E:XK),kL k A->ND P w K mg base A outer s H->BindsTo s fd args (ps.zip us)->Vals vs us->sp vs H Q E ->
  codeAny (model P w) A (.call (.ref f) args) (CR CX outer P w H s Q E) s
theorem mT.imp{P:Program}{w:World}{K:PySem.W.Frag}{mg:Str->Option Value}{base:Heap}{CX:CXT}{k:Nat}{f:Addr}{fd:FuncData}{ps:List Str}{sp sp':Sp}(F:mT P w K mg base CX k f fd ps sp)
  (h:∀vs H Q E,sp' vs H Q E->sp vs H Q E):mT P w K mg base CX k f fd ps sp':=
 ⟨fun vs H Q E q=>F.len vs H Q E (h _ _ _ _ q),fun A outer s H args us vs Q E hr he hb hv hs=>F.run A outer s H args us vs Q E hr he hb hv (h _ _ _ _ hs)⟩
section
variable {X:Cx}{pins:List (Addr×Obj)}{Z:St}{H:Hp}{s s':Shared}
theorem Inv.SM(I:Inv X pins Z H s):ND X.prog X.w X.K X.mg X.base X.A X.stack s H:=
 ⟨I.ok.frames,I.ok.mod,I.bs,le_trans I.ok.bsz I.sz,I.stack,I.G0,I.hok,I.bare⟩
theorem Inv.after{Q:VK}{u:Value}(I:Inv X pins Z H s)(h:CE X.stack X.prog X.w H s Q u s'):EP X pins Z Q u s':=by
 obtain⟨v,H',os,bare,un,hok,r,q⟩:=h
 obtain⟨hh,g,d,t,os'⟩:=s'
 obtain rfl:os'=s.os:=os
 exact⟨v,H',I.call (h':=hh) (g':=g) (d':=d) (t':=t) (ch:=[]) un hok bare (fun b z=>absurd z (by simp)),r,q⟩
end
noncomputable def RJ(sp:Sp)(dvs:List V)(E:XK)(t:TA):TE:=fun Z H Q=>t Z H fun vs H1=>sp (vs++dvs) H1 Q E
noncomputable def Binds(K:PySem.W.Frag)(fd:FuncData)(ps:List Str)(ds:List Value):Prop:=
 ∀(s:Shared) (us:List Value),K.In s.heap->(us++ds).length=ps.length->BindsTo s fd ⟨us,[]⟩ (ps.zip (us++ds))
theorem Binds.all{K:PySem.W.Frag}{fd:FuncData}{ps:List Str}(h:∀us:List Value,us.length=ps.length->bindArgs fd ⟨us,[]⟩=pure (ps.zip us)):Binds K fd ps []:=fun s us _ hl=>by
 rw[append_nil] at hl ⊢
 exact .of_eq (h us hl)
noncomputable def Passes(CX:CXT)(X:Cx)(E:XK):Prop:=∀(pins:List (Addr×Obj)) (Z:St) (H:Hp) (s:Shared) (e:Value) (s':Shared),Inv X pins Z H s->CX X.stack H s E e s'->X.xe e s'
section
variable {X:Cx}{CX:CXT}{k:Nat}{f C:Addr}{fd:FuncData}{ps:List Str}{sp:Sp}{dvs:List V}{ds:List Value}{E:XK}{x m:Str}{p pos apos:Pos}{e o:Expr}{es:List Expr}{ta:TE}{t:TA}
theorem OV{pins:List (Addr×Obj)}{Z:St}{H:Hp}{s:Shared}{Q:VK}{us:List Value}{vs:List V}(F:mT X.prog X.w X.K X.mg X.base CX k f fd ps sp)(hr:kL k X.A)(hb:Binds X.K fd ps ds)(hd:Vals dvs ds)(hx:Passes CX X E)
  (I:Inv X pins Z H s) (r:Vals vs us) (h:sp (vs++dvs) H Q E):wpAny (model X.prog X.w) X.A (call (.ref f) us) (EP X pins Z Q) X.xe s:=by
 have r2:Vals (vs++dvs) (us++ds):=r.append hd
 have hl:(us++ds).length=ps.length:=by rw[<- r2.length];exact F.len _ _ _ _ h
 refine wpAny_call (codeAny_mono (F.run X.A X.stack s H ⟨us,[]⟩ (us++ds) (vs++dvs) Q E hr I.SM (hb s us I.kIn hl) r2 h) fun r s' hq=>?_)
 cases r with
 |error e=>exact hx pins Z H s e s' I hq
 |ok fl=>
  cases fl with
  |ret u=>exact I.after hq
  |next=>exact False.elim hq
  |brk=>exact False.elim hq
  |cont=>exact False.elim hq
theorem Nl(F:mT X.prog X.w X.K X.mg X.base CX k f fd ps sp)(hr:kL k X.A)(hg:Gl X x)(hm:X.mg x=some (.ref f))(hk:keepIn X.K (.ref f)=true)(hb:Binds X.K fd ps ds)(hd:Vals dvs ds)(hx:Passes CX X E)
  (ha:PA X (e::es) t) (hdb:(x==("__debug__":Str))=false:=by decide) (he:starEach (e::es) X.env=(false,eval e X.env)::starEach es X.env:=by rfl) (hpl:(backTo pos (starEach es X.env)).any (·.1)=false:=by rfl) :
  PE X (.Call (.Name x p) (e::es) [] pos) (RJ sp dvs E t):=by
 intro pins s Z H Q I h
 refine wpAny_Call_Name_kw (G5 I hg hm ?_ hdb)
 refine PySem.W.callWith_K (h₀:=X.base) I.ok.mod.kin hk (thn (ha pos pins s Z H _ I h) fun us s1 ⟨vs,H1,I1,r,q⟩=>⟨I1.kIn,?_⟩) he hpl
 exact OV F hr hb hd hx I1 r q
end
structure aA(N P:List Str)(sc:Scope):Prop where
 kind:sc.kind = .function
 co:sc.isCoroutine=false
 gen:sc.isGenerator=false
 nd:N.Nodup
 pre:N.take P.length=P
 par:∀x∈P,sc.names.lookup x=some .local\/sc.names.lookup x=some .cell
 Pt:∀y∈sc.names,y.2≠.free
theorem A6{kindOf:Str->Option NameKind}{x:Str}:∀{binds:List (Str×Value)} {m:Str->Option Value},(∀v,(x,v) ∉ binds)->bindL kindOf binds m x=m x
 |[],_,_=>rfl
 |(n,v)::r,m,h=>by
  unfold bindL
  rw[A6 fun w hw=>h w (mem_cons_of_mem _ hw)]
  split
  ·have:x≠n:=by rintro rfl;exact h v mem_cons_self
   simp[this]
  ·rfl
theorem Ac{kindOf:Str->Option NameKind}{x:Str}:∀{binds:List (Str×Value)} {m:Str->Option Value},(∀v,(x,v) ∉ binds)->bindC kindOf binds m x=m x
 |[],_,_=>rfl
 |(n,v)::r,m,h=>by
  unfold bindC
  rw[Ac fun w hw=>h w (mem_cons_of_mem _ hw)]
  split
  ·rfl
  ·have:x≠n:=by rintro rfl;exact h v mem_cons_self
   simp[this]
theorem Ao{kindOf:Str->Option NameKind}{x:Str}{v:Value}:∀{P:List Str} {vs:List Value} {i:Nat} {m:Str->Option Value},P.Nodup->P[i]? = some x->vs[i]? = some v->kindOf x=some .local ->
  bindL kindOf (P.zip vs) m x=some v
 |[],_,_,_,_,h,_,_=>by simp at h
 |_::_,[],_,_,_,_,h,_=>by simp at h
 |p::P,w::vs,0,m,nd,h1,h2,hk=>by
  simp at h1 h2;subst h1;subst h2
  show bindL kindOf ((p,w)::P.zip vs) m p=_
  unfold bindL
  rw[A6 fun v hv=>(List.nodup_cons.mp nd).1 (List.of_mem_zip hv).1,if_pos hk]
  simp
 |p::P,w::vs,i+1,m,nd,h1,h2,hk=>by
  show bindL kindOf ((p,w)::P.zip vs) m x=_
  unfold bindL
  exact Ao (i:=i) (List.nodup_cons.mp nd).2 (by simpa using h1) (by simpa using h2) hk
theorem An{kindOf:Str->Option NameKind}{x:Str}{v:Value}:∀{P:List Str} {vs:List Value} {i:Nat} {m:Str->Option Value},P.Nodup->P[i]? = some x->vs[i]? = some v->kindOf x≠some .local ->
  bindC kindOf (P.zip vs) m x=some v
 |[],_,_,_,_,h,_,_=>by simp at h
 |_::_,[],_,_,_,_,h,_=>by simp at h
 |p::P,w::vs,0,m,nd,h1,h2,hk=>by
  simp at h1 h2;subst h1;subst h2
  show bindC kindOf ((p,w)::P.zip vs) m p=_
  unfold bindC
  rw[Ac fun v hv=>(List.nodup_cons.mp nd).1 (List.of_mem_zip hv).1,if_neg hk]
  simp
 |p::P,w::vs,i+1,m,nd,h1,h2,hk=>by
  show bindC kindOf ((p,w)::P.zip vs) m x=_
  unfold bindC
  exact An (i:=i) (List.nodup_cons.mp nd).2 (by simpa using h1) (by simpa using h2) hk
noncomputable def start(N:List Str)(vs:List V):St:=vs.map some++List.replicate (N.length-vs.length) none
noncomputable def Fq(CX:CXT)(P:Program)(w:World)(K:PySem.W.Frag)(mg:Str->Option Value)(base:Heap)(N:List Str)(qual:Str)(scope:Scope)(f:Addr)(cd:Value)(A:Around)(outer:List Env)(s:Shared)(H:Hp)(E:XK):Cx where
 prog:=P
 w:=w
 K:=K
 mg:=mg
 base:=base
 A:=A.deeper (envOfC qual scope s.heap.objs.size f cd)
 N:=N
 ga:=s
 H₀:=H
 env:=envOfC qual scope s.heap.objs.size f cd
 outer:=outer
 stack:=envOfC qual scope s.heap.objs.size f cd::outer
 ex:=[]
 calm:=true
 fn:=fun _=>true
 pn:=[]
 xe:=fun e s'=>wpAny (model P w) (A.deeper (envOfC qual scope s.heap.objs.size f cd)) (leaving (envOfC qual scope s.heap.objs.size f cd) e) (fun _ s''=>CX outer H s E e s'') (fun e' s''=>CX outer H s E e' s'') s'
theorem Dv{sc:Scope}{n:Nat}{x:Str}(h:sc.names.lookup x=some .cell):∃c,(cellsFrom n sc.names []).lookup x=some c:=by
 have q:=PySem.W.cellsFrom_some sc.names n [] (.inl h)
 exact Option.isSome_iff_exists.mp q
theorem Jq{CX:CXT}{P:Program}{w:World}{K:PySem.W.Frag}{mg:Str->Option Value}{base:Heap}{N ps:List Str}{qual:Str}{scope:Scope}{f:Addr}{cd:Value}{A:Around}{outer:List Env}{s s1:Shared}{H:Hp}{E:XK}{us:List Value}{vs:List V}
  (S:aA N ps scope) (hd:A.handled=none) (e0:ND P w K mg base A outer s H) (hl:vs.length=ps.length) (r:Vals vs us)
  (x:InCallC s s.heap.objs.size (bindL (envOfC qual scope s.heap.objs.size f cd).kindOf (ps.zip us) fun _=>none) (cellsFrom (s.heap.objs.size+1) scope.names []) (bindC (envOfC qual scope s.heap.objs.size f cd).kindOf (ps.zip us) fun _=>none) s1) :
  Inv (Fq CX P w K mg base N qual scope f cd A outer s H E) [] (start N vs) H s1:=by
 have hpl:ps.length<=N.length:=by have:=congrArg List.length S.pre;rw[length_take] at this;omega
 obtain⟨h1,tk,rfl,hk⟩:=x.done
 have noA:∀b:Addr,b ∉ (Fq CX P w K mg base N qual scope f cd A outer s H E).ex:=fun b z=>absurd (show b∈([]:List Addr) from z) (by simp)
 refine⟨⟨e0.mod,S.kind,rfl,rfl,le_refl _,fun y z c h1 h2=>?_,fun y hy=>?_,fun y c _ h=>?_,fun _=>hd,.inl hd,Around.frames_deeper e0.frames,.inr ⟨rfl,rfl⟩,fun b z=>absurd z (noA b),e0.bs,e0.bsz,fun b _ _=>noA b,fun b z=>absurd z (noA b),e0.wU,e0.frf⟩,
  rfl,e0.bare,Un.kept hk,⟨_,x.toInCall.ns,fun i y v h1 h2 h3=>?_⟩,fun y c h=>⟨_,x.cell y c h⟩,e0.hok.fresh (le_refl _),fun y c h=>?_,fun p hp=>absurd (show p∈([]:List (Addr×Obj)) from hp) (by simp),e0.hok.kept hk,?_⟩
 ·exact name_of_addr x.apart (mem_of_lookup h1) (mem_of_lookup h2)
 ·have hy:scope.names.lookup y=some .cell\/scope.names.lookup y=some .free:=hy
  rcases hy with hy|hy
  ·exact Dv hy
  ·exact absurd rfl (S.Pt _ (mem_of_lookup hy))
 ·exact Nat.le_of_lt (x.above y c (mem_of_lookup h))
 ·have hi:i<vs.length:=by
   unfold start at h2
   by_cases hi:i<vs.length
   ·exact hi
   ·rw[getElem?_append_right (by simpa using hi)] at h2
    rw[List.getElem?_replicate] at h2
    split at h2<;>cases h2
  have ha:vs[i]? = some v:=by
   unfold start at h2
   rw[getElem?_append_left (by simpa using hi),getElem?_map] at h2
   cases e:vs[i]? with
   |none=>rw[e] at h2;cases h2
   |some a=>rw[e] at h2;cases h2;rfl
  obtain⟨u,hu,rv⟩:=r.get ha
  have hp:ps[i]? = some y:=by
   rw[<- S.pre,List.getElem?_take_of_lt ∅];exact h1
  have ndP:ps.Nodup:=by rw[<- S.pre];exact S.nd.sublist (List.take_sublist _ _)
  refine⟨u,rv,?_⟩
  rcases S.par y (mem_of_getElem? hp) with k|k
  ·exact .inl ⟨k,Ao ndP hp hu k⟩
  ·obtain⟨c,e⟩:=Dv (n:=s.heap.objs.size+1) k
   refine .inr ⟨.inl k,c,e,?_⟩
   have q:=x.cell y c e
   rw[An ndP hp hu (by show scope.names.lookup y≠_;rw[k];decide)] at q
   exact q
 ·exact e0.hok.fresh (Nat.le_of_lt (x.above y c (mem_of_lookup h)))
 ·unfold start
  show _=N.length
  rw[length_append,length_map,List.length_replicate]
  omega
theorem Sy{CX:CXT}{P:Program}{w:World}{K:PySem.W.Frag}{mg:Str->Option Value}{base:Heap}{k:Nat}{f:Addr}{name qual:Str}{params:Arguments}{body:List Stmt}{scope:Scope}{dV kV doc pm cdv ct oc:Value}{an od:Option Addr}
  {osl:Array (Option Value)} {N ps:List Str} {sp:Sp} (lk:K.lookup f=some ⟨oc,od,.func (fnOf name qual params body scope dV kV doc pm an cdv ct),osl⟩) (hcd:codeIn K cdv qual=true) (S:aA N ps scope)
  (len:∀vs H Q E,sp vs H Q E->vs.length=ps.length)
  (hbody:∀(A:Around) (outer:List Env) (s:Shared) (H:Hp) (vs:List V) (Q:VK) (E:XK),kL k (A.deeper (envOfC qual scope s.heap.objs.size f cdv))->sp vs H Q E ->
   ∃t,PSs (Fq CX P w K mg base N qual scope f cdv A outer s H E) body t/\t {nx:=fun _ H'=>Q .non H',rt:=Q} (start N vs) H) :
  mT P w K mg base CX (k+1) f (fnOf name qual params body scope dV kV doc pm an cdv ct) ps sp:=by
 refine⟨len,fun A outer s H args us vs Q E hr e0 hb r hsp=>?_⟩
 have hl:=len _ _ _ _ hsp
 have KX:K.In s.heap:=e0.mod.kin.keeps fun b o e=>(e0.bs b o e).1
 have lim:s.heap.NoLimit:=e0.mod.nolimit.keeps fun b o e=>(e0.bs b o e).1
 have hkind:∀y∈ps.zip us,scope.names.lookup y.1=some .local\/(scope.names.lookup y.1=some .cell/\((cellsFrom (s.heap.objs.size+1) scope.names []).lookup y.1).isSome=true):=fun ⟨n,v⟩ hy=>by
  rcases S.par n (List.of_mem_zip hy).1 with q|q
  ·exact .inl q
  ·exact .inr ⟨q,PySem.W.cellsFrom_some _ _ _ (.inl q)⟩
 refine codeAny_call_function hr.depth (KX _ _ lk) rfl S.co S.gen rfl (PySem.W.codeRec_of KX hcd) (hb _ _ _ _ ?_)
 refine wpAny_newFunctionEnv_cells S.kind hkind fun env he s1 x=>?_
 subst he
 refine⟨lim.keeps x.toInCall.keep,codeAny_func ?_⟩
 obtain⟨t,ht,hq⟩:=hbody A outer s H vs Q E (hr.deeper _) hsp
 have I:Inv (Fq CX P w K mg base N qual scope f cdv A outer s H E) [] (start N vs) H s1:=Jq S hr.hd e0 hl r x
 refine wpAny_mono (ht [] s1 (start N vs) H _ I hq) (fun fl s' hs=>?_) fun e s' hs=>hs
 have fin:∀{ca:St} {H':Hp} {v:V} {u:Value},Inv (Fq CX P w K mg base N qual scope f cdv A outer s H E) [] ca H' s'->RelV v u->Q v H'->CE outer P w H s Q u s':=
  fun {ca H' v u} J rv q=>⟨v,H',J.os,J.bare,J.base,J.hok,rv,q⟩
 cases fl with
 |ret u=>
  obtain⟨v,ca,H',J,rv,q⟩:=hs
  exact fin J rv q
 |next=>
  obtain⟨ca,H',J,q⟩:=hs
  exact fin (v:=V.non) (u:=Value.none) J rfl q
 |brk=>
  obtain⟨_,_,_,q⟩:=hs
  exact False.elim q
 |cont=>
  obtain⟨_,_,_,q⟩:=hs
  exact False.elim q
end L2
namespace L2
open PySem PySem.Spec PyProof.Rows
section
variable {X:Cx}{x:Str}{p pos:Pos}{e:Expr}{es:List Expr}{t:TA}{id T:String}{r:List V->Hp->VK->Prop}
noncomputable def tCB(r:List V->Hp->VK->Prop)(t:TA):TE:=fun Z H Q=>t Z H fun vs H1=>r vs H1 Q
theorem Eo(hc:iP X (.builtin id) r)(hg:Gl X x)(hm:X.mg x=none)(hv:bootBuiltins x=some (.builtin id))(ha:PA X (e::es) t)(hn:x ≠ "__name__":=by decide)(hdb:(x==("__debug__":Str))=false:=by decide)
  (he:starEach (e::es) X.env=(false,eval e X.env)::starEach es X.env:=by rfl) (hpl:(backTo pos (starEach es X.env)).any (·.1)=false:=by rfl):PE X (.Call (.Name x p) (e::es) [] pos) (tCB r t):=by
 intro pins s Z H Q I h
 refine wpAny_Call_Name_kw (p7 I hg hm hv ?_ hn hdb)
 exact PyProof.Rows.callWith_builtin1 (thn (ha pos pins s Z H _ I h) fun us s1 ⟨vs,H1,I1,r1,q1⟩=>hc pins s1 Z H1 vs us Q I1 r1 q1) he hpl
theorem IM(hc:iP X (.type T) r)(hg:Gl X x)(hm:X.mg x=none)(hv:bootBuiltins x=some (.type T))(ha:PA X (e::es) t)(hn:x ≠ "__name__":=by decide)(hdb:(x==("__debug__":Str))=false:=by decide)
  (he:starEach (e::es) X.env=(false,eval e X.env)::starEach es X.env:=by rfl) (hpl:(backTo pos (starEach es X.env)).any (·.1)=false:=by rfl):PE X (.Call (.Name x p) (e::es) [] pos) (tCB r t):=by
 intro pins s Z H Q I h
 refine wpAny_Call_Name_kw (p7 I hg hm hv ?_ hn hdb)
 exact PyProof.Rows.callWith_type1 (thn (ha pos pins s Z H _ I h) fun us s1 ⟨vs,H1,I1,r1,q1⟩=>hc pins s1 Z H1 vs us Q I1 r1 q1) he hpl
end
end L2
namespace HT
open PySem PyProof.Rows
section
open PySem.SeqAt
open PySem.AutoSeq1 (wpAny_loadPart')
open PySem.MeetsSeq PySem.MeetsSeq2 PySem.MeetsSeq3
end
section
variable {prog:Program}{w:World}{A:Around}{E:Value->Shared->Prop}{s:Shared}
noncomputable def sIx(n d:Nat):Option Int->Nat
 |none=>d
 |some v=>if v<0 then (v+(n:Int)).toNat else min v.toNat n
theorem O7(n d:Nat)(hd:d<=n)(o:Option Int):sIx n d o<=n:=by
 cases o with
 |none=>exact hd
 |some v=>
  show (if v<0 then (v+(n:Int)).toNat else min v.toNat n)<=n
  by_cases hv:v<0
  ·rw[if_pos hv];omega
  ·rw[if_neg hv];exact Nat.min_le_right _ _
theorem HF(v:Int)(n d:Nat):(if v<0 then max (v+(n:Int)) 0 else min v (n:Int))=((sIx n d (some v):Nat):Int):=by
 show (if v<0 then max (v+(n:Int)) 0 else min v (n:Int))=(((if v<0 then (v+(n:Int)).toNat else min v.toNat n):Nat):Int)
 by_cases hv:v<0
 ·simp only[if_pos hv];omega
 ·simp only[if_neg hv];omega
theorem FE(lo hi:Option Int)(n:Nat):Builtin.Slice.sliceAdjust lo hi 1 (n:Int)=(((sIx n 0 lo:Nat):Int),((sIx n n hi:Nat):Int)):=by
 have h1:¬ ((1:Int)<0):=by omega
 unfold Builtin.Slice.sliceAdjust
 simp only[h1,if_false]
 refine Prod.ext ?_ ?_
 ·cases lo with
  |none=>rfl
  |some v=>exact HF v n 0
 ·cases hi with
  |none=>rfl
  |some v=>exact HF v n n
theorem FD(i j:Nat):Builtin.Slice.slicePlaces (i:Int) (j:Int) 1=j-i:=by
 unfold Builtin.Slice.slicePlaces
 have h1:(1:Int)>0:=by omega
 simp only[h1,if_true,Int.ediv_one]
 split<;>omega
theorem w9{v:Value}{o:Option Int}{Q:Option Int->Shared->Prop}(p:IsPart v o)(h:Q o s):wpAny (model prog w) A (Builtin.Slice.slicePartIndex v) Q E s:=by
 cases p with
 |none=>exact slicePart_none h
 |int i t=>exact slicePart_int h
theorem ky{sl:Addr}{vl vu:Value}{lo hi:Option Int}{n:Nat}{Q:Int×Int×Nat->Shared->Prop}(hs:s.heap.IsSliceOf sl vl vu .none)(pl:IsPart vl lo)(pu:IsPart vu hi)
  (h:Q (((sIx n 0 lo:Nat):Int),1,sIx n n hi-sIx n 0 lo) s):wpAny (model prog w) A (Builtin.Slice.sliceApplied (.ref sl) (pure (n:Int))) Q E s:=by
 obtain⟨os,hos,hcs,hds⟩:=id hs
 unfold Builtin.Slice.sliceApplied Builtin.Slice.sliceFields
 refine wpAny_bind (wpAny_bind (wpAny_field hos hds (x:=vl) rfl (wpAny_bind (wpAny_field hos hds (x:=vu) rfl (wpAny_bind (wpAny_field hos hds (x:=.none) rfl (wpAny_pure ?_)))))))
 refine wpAny_bind (slicePart_none ?_)
 show wpAny _ _ (if ((1:Int)==0)=true then _ else _) _ _ s
 rw[if_neg ⋯]
 refine wpAny_bind (w9 pl (wpAny_bind (w9 pu (wpAny_bind (wpAny_pure ?_)))))
 show wpAny _ _ (match Builtin.Slice.sliceAdjust lo hi 1 (n:Int) with|(lo,hi)=>pure (lo,(1:Int),Builtin.Slice.slicePlaces lo hi 1)) _ _ s
 rw[FE lo hi n]
 show wpAny _ _ (pure (((sIx n 0 lo:Nat):Int),(1:Int),Builtin.Slice.slicePlaces ((sIx n 0 lo:Nat):Int) ((sIx n n hi:Nat):Int) 1)) _ _ s
 rw[FD]
 exact wpAny_pure h
theorem Lx(xs:Array Value)(i k:Nat):((List.range k).filterMap fun (m:Nat)=>xs[((i:Int)+(m:Int)*1).toNat]?).toArray=((xs.toList.drop i).take k).toArray:=by
 have e:(fun (m:Nat)=>xs[((i:Int)+(m:Int)*1).toNat]?)=fun m=>xs[i+m]?:=by
  funext m
  have:((i:Int)+(m:Int)*1).toNat=i+m:=by omega
  rw[this]
 rw[e]
 have:=pick_run xs i k
 rw[List.filterMap_map] at this
 have e2:((fun x=>xs[x]?) ∘ fun x=>i+x)=fun m=>xs[i+m]?:=rfl
 rw[e2] at this
 rw[this]
theorem sP{t sl:Addr}{items:Array Value}{vl vu:Value}{lo hi:Option Int}{Q:Value->Shared->Prop}(ht:IsTup s.heap t items)(hs:s.heap.IsSliceOf sl vl vu .none)(pl:IsPart vl lo)(pu:IsPart vu hi)
  (hw:¬ (sIx items.size 0 lo=0/\sIx items.size items.size hi=items.size))
  (h:Q (.ref s.heap.objs.size) {s with heap:=s.heap.push {cls:=.type "tuple",data:=.seq ((items.toList.drop (sIx items.size 0 lo)).take (sIx items.size items.size hi-sIx items.size 0 lo)).toArray}})
  (hsz:items.size<=sizeLine):wpAny (model prog w) A (getItem (.ref t) (.ref sl)) Q E s:=by
 have htake:sizeOk (.seq ((items.toList.drop (sIx items.size 0 lo)).take (sIx items.size items.size hi-sIx items.size 0 lo)).toArray):=by
  show ((items.toList.drop (sIx items.size 0 lo)).take (sIx items.size items.size hi-sIx items.size 0 lo)).toArray.size<=sizeLine
  rw[size_toArray,length_take,List.length_drop,Array.length_toList]
  omega
 have hj:sIx items.size items.size hi<=items.size:=O7 _ _ (le_refl _) hi
 obtain⟨os,hos,hcs,hds⟩:=id hs
 have hTs:s.TypeIs (.ref sl) "slice":=⟨os,hos,hcs⟩
 unfold getItem
 try with_reducible refine wpAny_holding ?_
 first|refine wpAny_bind (wpAny_pure ?_)|skip
 refine wpAny_bind (wpAny_sequenceKey ht.typeIs ⋯ ?_)
 refine wpAny_bind (wpAny_callSpecial?_slot (name:=Str.ofString "__getitem__") ht.typeIs PyProof.Rows.slot_tuple_getitem
  (wpAny_call_entry PyProof.Rows.slot_tuple_getitem ht.typeIs entry_tuple_getitem ?_ (args_tuple_getitem _ _)))
 show wpAny _ _ (Builtin.Tuple.tupleItemsOf (.ref t)>>=_) _ _ s
 refine wpAny_bind (tupleItemsOf_ ht ?_)
 refine wpAny_bind (wpAny_typeOf hTs ?_)
 rw[if_pos ⋯]
 refine wpAny_bind (ky hs pl pu ?_)
 have hno:¬ ((((sIx items.size 0 lo:Nat):Int)==0&&(1:Int)==1&&(sIx items.size items.size hi-sIx items.size 0 lo)==items.size)=true):=by
  intro q
  rw[and_eq_true,and_eq_true] at q
  have q1:((sIx items.size 0 lo:Nat):Int)=0:=eq_of_beq q.1.1
  have q2:sIx items.size items.size hi-sIx items.size 0 lo=items.size:=eq_of_beq q.2
  exact hw ⟨∅,∅⟩
 show wpAny _ _ (if (((sIx items.size 0 lo:Nat):Int)==0&&(1:Int)==1&&(sIx items.size items.size hi-sIx items.size 0 lo)==items.size)=true then _ else _) _ _ s
 rw[if_neg hno,Lx]
 first
  |exact wpAny_bind (m:=Builtin.Tuple.tupleExact _) (wpAny_newObj_type (wpAny_pure ⟨_,rfl,wpAny_pure h⟩) htake)
  |exact wpAny_bind (m:=Builtin.Tuple.tupleExact _) (wpAny_newObj_type (wpAny_bind (wpAny_pure (wpAny_pure ⟨_,rfl,wpAny_pure h⟩))) htake)
  |exact wpAny_bind (wpAny_bind (m:=Builtin.Tuple.tupleExact _) (wpAny_newObj_type (wpAny_pure (wpAny_pure ⟨_,rfl,wpAny_pure h⟩)) htake))
  |exact wpAny_bind (wpAny_bind (m:=Builtin.Tuple.tupleExact _) (wpAny_newObj_type (wpAny_pure ⟨_,rfl,wpAny_pure h⟩) htake))
end
end HT
namespace L2
open PySem PySem.Spec PyProof.Rows
noncomputable abbrev TO:=St->Hp->(Option Int->Hp->Prop)->Prop
noncomputable def PO(X:Cx)(e:Option Expr)(t:TO):Prop:=
 ∀(pins:List (Addr×Obj)) (s:Shared) (Z:St) (H:Hp) (Q:Option Int->Hp->Prop),Inv X pins Z H s->t Z H Q ->
  wpAny (model X.prog X.w) X.A (evalPart e X.env) (fun u s'=>∃o H',Inv X pins Z H' s'/\IsPart u o/\Q o H') X.xe s
noncomputable def N1:TO:=fun _ H Q=>Q none H
noncomputable def Sd(t:TE):TO:=fun Z H Q=>t Z H fun x H1=>∃i,x = .int i/\Q (some i) H1
section
variable {X:Cx}{e:Expr}{te:TE}{lo hi:Option Expr}{tl th:TO}{pos p2:Pos}
theorem NZ:PO X none N1:=by
 intro pins s Z H Q I h
 rw[evalPart_none]
 exact wpAny_pure ⟨none,H,I,.none,h⟩
theorem MU(h:PE X e te):PO X (some e) (Sd te):=by
 intro pins s Z H Q I hw
 rw[evalPart_some]
 refine thn (h pins s Z H _ I hw) fun u s1 hq0=>?_
 obtain⟨x,H1,I1,r1,q1⟩:=hq0
 obtain⟨i,rfl,q⟩:=q1
 obtain⟨t,rfl⟩:=r1
 exact⟨some i,H1,I1,.int i t,q⟩
noncomputable def SlR(X:Cx)(r:V->Option Int->Option Int->Hp->VK->Prop):Prop:=
 ∀(pins:List (Addr×Obj)) (s:Shared) (Z:St) (H:Hp) (x:V) (v vl vu:Value) (lo hi:Option Int) (sl:Addr) (Q:VK),Inv X pins Z H s->RelV x v->s.heap.IsSliceOf sl vl vu .none->IsPart vl lo->IsPart vu hi->r x lo hi H Q ->
  ∃T id,typeLookup (.type T) "__getitem__"=pure (some (.builtin id))/\s.TypeIs v T/\wpAny (model X.prog X.w) X.A (getItem v (.ref sl)) (EP X pins Z Q) X.xe s
theorem SlR.or{r r':V->Option Int->Option Int->Hp->VK->Prop}(h:SlR X r)(h':SlR X r'):SlR X (fun x lo hi H Q=>r x lo hi H Q\/r' x lo hi H Q):=by
 intro pins s Z H x v vl vu lo hi sl Q I rx hs pl pu q
 rcases q with q|q
 ·exact h pins s Z H x v vl vu lo hi sl Q I rx hs pl pu q
 ·exact h' pins s Z H x v vl vu lo hi sl Q I rx hs pl pu q
noncomputable def tSl(r:V->Option Int->Option Int->Hp->VK->Prop)(te:TE)(tl th:TO):TE:=fun Z H Q=>te Z H fun x H1=>tl Z H1 fun l H2=>th Z H2 fun u H3=>r x l u H3 Q
theorem Kz{r:V->Option Int->Option Int->Hp->VK->Prop}(hr:SlR X r)(he:PE X e te)(hl:PO X lo tl)(hu:PO X hi th):PE X (.Subscript e (.Slice lo hi none p2) pos) (tSl r te tl th):=by
 intro pins s Z H Q I h
 refine Subscript_ (thn (he pins s Z H _ I h) fun v s1 hq0=>?_)
 obtain⟨x,H1,I1,r1,q1⟩:=hq0
 refine wpAny_Slice (thn (hl pins s1 Z H1 _ I1 q1) fun vl s2 ⟨l,H2,I2,pl,q2⟩=>thn (hu pins s2 Z H2 _ I2 q2) fun vu s3 hq0=>?_)
 obtain⟨u,H3,I3,pu,q3⟩:=hq0
 rw[evalPart_none]
 refine wpAny_pure ?_
 have I4:Inv X pins Z H3 {s3 with heap:=s3.heap.push {cls:=.type "slice",data:=.fields #[vl,vu,.none]}}:=I3.kept (t':=s3.toks) fun b ob q=>Heap.get?_push_of_some _ q
 obtain⟨T,id,hT,ht,hg⟩:=hr pins {s3 with heap:=s3.heap.push {cls:=.type "slice",data:=.fields #[vl,vu,.none]}} Z H3 x v vl vu l u s3.heap.objs.size Q I4 r1 (Heap.IsSliceOf.new ..) pl pu q3
 show wpAny (model X.prog X.w) X.A (subscriptTail e (.Slice lo hi none p2) v (.ref s3.heap.objs.size)) (EP X pins Z Q) X.xe {s3 with heap:=s3.heap.push {cls:=.type "slice",data:=.fields #[vl,vu,.none]}}
 exact tail_any (ops:=[.ref s3.heap.objs.size,v]) ht hT hg (by with_unfolding_all rfl)
noncomputable def Bl(xs:List V)(lo hi:Option Int):List V:=(xs.drop (HT.sIx xs.length 0 lo)).take (HT.sIx xs.length xs.length hi-HT.sIx xs.length 0 lo)
theorem uP(xs:List V)(lo hi:Option Int):(Bl xs lo hi).length<=xs.length:=by
 unfold Bl
 rw[length_take,List.length_drop]
 omega
noncomputable def Tc(K:PySem.W.Frag):V->Option Int->Option Int->Hp->VK->Prop:=fun x lo hi H Q=>∃a xs,x = .ref a/\SqT K H a xs /\
 ¬ (HT.sIx xs.length 0 lo=0/\HT.sIx xs.length xs.length hi=xs.length)/\∀p,H p=none->Q (.ref p) (upd H p (.tup (Bl xs lo hi)))
theorem Qa:SlR X (Tc X.K):=by
 intro pins s Z H x v vl vu lo hi sl Q I rx hs pl pu h
 obtain⟨a,xs,rfl,hx,hw,q⟩:=h
 cases rx
 obtain⟨its,r,ht,hz⟩:=I.tuple hx
 have hlen:its.toArray.size=xs.length:=by rw[size_toArray];exact r.length.symm
 refine⟨"tuple",_,PyProof.Rows.slot_tuple_getitem.lookup,ht.typeIs,?_⟩
 refine HT.sP ht hs pl pu (by rw[hlen];exact hw) ?_ (by rw[hlen];exact hz)
 rw[hlen]
 refine⟨.ref s.heap.objs.size,_,I.laid (t':=s.toks) (o:=.tup (Bl xs lo hi)) (fun b ob q=>Heap.get?_push_of_some _ q) (le_refl _) ?_,rfl,q _ (I.hok.fresh (le_refl _))⟩
 exact⟨le_trans (uP xs lo hi) hz,_,(r.drop (HT.sIx xs.length 0 lo)).take (HT.sIx xs.length xs.length hi-HT.sIx xs.length 0 lo),IsTup.new _ _⟩
end
end L2
namespace L2
open PySem PySem.Spec PyProof.Rows
noncomputable def ixN(n:Nat)(i:Int):Option Nat:=if 0<=i then (if i<n then some i.toNat else none) else if -(n:Int)<=i then some (i+n).toNat else none
noncomputable def atI{α:Type}(xs:List α)(i:Int):Option α:=(ixN xs.length i).bind fun j=>xs[j]?
theorem HM{n:Nat}{i:Int}{j:Nat}(h:ixN n i=some j):seqIndex? i n=some j/\j<n/\-(n:Int)<=i/\i<n:=by
 unfold ixN at h
 by_cases h0:0<=i
 ·rw[if_pos h0] at h
  by_cases h1:i<n
  ·rw[if_pos h1] at h
   have e:i.toNat=j:=Option.some.inj h
   exact⟨by rw[seqIndex_of h0 h1,e],∅,∅,h1⟩
  ·rw[if_neg h1] at h;cases h
 ·rw[if_neg h0] at h
  by_cases h1:-(n:Int)<=i
  ·rw[if_pos h1] at h
   have e:(i+n).toNat=j:=Option.some.inj h
   exact⟨by rw[seqIndex_neg ∅ h1,e],∅,h1,∅⟩
  ·rw[if_neg h1] at h;cases h
theorem CK{α:Type}{xs:List α}{i:Int}{v:α}(h:atI xs i=some v):∃j,seqIndex? i xs.length=some j/\xs[j]? = some v/\j<xs.length/\-(xs.length:Int)<=i/\i<xs.length:=by
 unfold atI at h
 cases e:ixN xs.length i with
 |none=>rw[e] at h;cases h
 |some j=>
  rw[e] at h
  obtain⟨h1,h2,h3,h4⟩:=HM e
  exact⟨j,h1,h,h2,h3,h4⟩
theorem wC{α:Type}{xs:List α}{j:Nat}{v:α}(h:xs[j]? = some v):atI xs (j:Int)=some v:=by
 have hj:j<xs.length:=(List.getElem?_eq_some_iff.mp h).1
 have e:ixN xs.length (j:Int)=some j:=by
  unfold ixN
  rw[if_pos ∅,if_pos ∅];simp
 unfold atI;rw[e];exact h
noncomputable def HS(b:Expr):Prop:=∀o i,subscripted b false o i=operate [o,i] (getItem o i)
noncomputable def IxR(X:Cx)(r:R2):Prop:=
 ∀(value slice:Expr) (pins:List (Addr×Obj)) (s:Shared) (Z:St) (H:Hp) (x y:V) (v u:Value) (Q:VK),Inv X pins Z H s->RelV x v->RelV y u->r x y H Q ->
  subscripted slice false v u=operate [v,u] (getItem v u)->wpAny (model X.prog X.w) X.A (subscriptTail value slice v u) (EP X pins Z Q) X.xe s
noncomputable def MtR(X:Cx)(id:String)(r:V->List V->Hp->VK->Prop):Prop:=
 ∀(pins:List (Addr×Obj)) (s:Shared) (Z:St) (H:Hp) (x:V) (xs:List V) (v:Value) (us:List Value) (Q:VK),Inv X pins Z H s->RelV x v->Vals xs us->r x xs H Q ->
  wpAny (model X.prog X.w) X.A (call (.builtin id) (v::us)) (EP X pins Z Q) X.xe s
section
variable {X:Cx}{a b:Expr}{ta tb:TE}{pos:Pos}
theorem IxR.or{r r':R2}(h:IxR X r)(h':IxR X r'):IxR X (fun x y H Q=>r x y H Q\/r' x y H Q):=by
 intro value slice pins s Z H x y v u Q I rx ry q hs
 rcases q with q|q
 ·exact h value slice pins s Z H x y v u Q I rx ry q hs
 ·exact h' value slice pins s Z H x y v u Q I rx ry q hs
theorem Sf{r:R2}(hr:IxR X r)(ha:PE X a ta)(hb:PE X b tb)(hs:HS b):PE X (.Subscript a b pos) (tOp r ta tb):=by
 intro pins s Z H Q I h
 exact Subscript_ (Rb ha hb I h fun v u s2 x y H2 I2 rx ry q=>hr a b pins s2 Z H2 x y v u Q I2 rx ry q (hs _ _))
noncomputable def Sj(K:PySem.W.Frag):R2:=fun x y H Q=>∃p xs i v,x = .ref p/\y = .int i/\SqL K H p xs/\atI xs i=some v/\Q v H
noncomputable def Si(K:PySem.W.Frag):R2:=fun x y H Q=>∃p xs i v,x = .ref p/\y = .int i/\SqT K H p xs/\atI xs i=some v/\Q v H
noncomputable def RX:R2:=fun x y H Q=>∃z i c,x = .str z/\y = .int i/\z.length<=sizeLine/\atI z.cps.toList i=some c/\Q (.str ⟨#[c]⟩) H
theorem NK:IxR X (Sj X.K):=by
 intro value slice pins s Z H x y v u Q I rx ry h hs
 obtain⟨p,xs,i,z,rfl,rfl,hq,he,q⟩:=h
 cases rx
 obtain⟨t,rfl⟩:=ry
 obtain⟨its,r,pl,hz⟩:=I.list hq
 obtain⟨j,h1,h2,h3,h4,h5⟩:=CK he
 obtain⟨w,ew,rw'⟩:=r.get h2
 have hl:=r.length
 have hn:=wI
 have fin:EP X pins Z Q w s:=⟨z,H,I,rw',q⟩
 by_cases h0:0<=i
 ·have hj:i.toNat=j:=by
   rw[seqIndex_of h0 h5] at h1
   exact Option.some.inj h1
  exact item_listR pl.isList h0 ∅ (by rw[hj];simpa using ew) fin hs
 ·have hj:(i+(its.toArray.size:Int)).toNat=j:=by
   rw[seqIndex_neg ∅ h4] at h1
   rw[size_toArray,<- hl]
   exact Option.some.inj h1
  exact subscriptTail_builtinR (x:=w) pl.isList.typeIs slot_list_getitem.lookup
   (wpAny_getItem_list_neg (Q:=fun r s'=>r=w/\EP X pins Z Q r s') pl.isList ∅ (by rw[size_toArray]<;>omega) ∅ (by rw[hj];simpa using ew) ⟨rfl,fin⟩) hs
theorem O4:IxR X (Si X.K):=by
 intro value slice pins s Z H x y v u Q I rx ry h hs
 obtain⟨p,xs,i,z,rfl,rfl,hq,he,q⟩:=h
 cases rx
 obtain⟨t,rfl⟩:=ry
 obtain⟨its,r,pl,hz⟩:=I.tuple hq
 obtain⟨j,h1,h2,h3,h4,h5⟩:=CK he
 obtain⟨w,ew,rw'⟩:=r.get h2
 have hl:=r.length
 have hn:=wI
 have fin:EP X pins Z Q w s:=⟨z,H,I,rw',q⟩
 exact subscriptTail_builtinR (x:=w) pl.typeIs slot_tuple_getitem.lookup
  (getItem_tuple (j:=j) (Q:=fun r s'=>r=w/\EP X pins Z Q r s') pl ∅ ∅ (by rw[size_toArray,<- hl];exact h1) (by simpa using ew) ⟨rfl,fin⟩) hs
theorem PZ:IxR X RX:=by
 intro value slice pins s Z H x y v u Q I rx ry h hs
 obtain⟨z,i,c,rfl,rfl,hz,he,q⟩:=h
 obtain⟨t,rfl⟩:=rx
 obtain⟨t',rfl⟩:=ry
 obtain⟨j,h1,h2,h3,h4,h5⟩:=CK he
 have hl:z.cps.toList.length=z.length:=by simp[Str.length]
 rw[hl] at h1 h4 h5
 have hn:=wI
 exact tail_any (typeIs_str s z t) slot_str_getitem.lookup (getItem_str (c:=c) (by
  have e1:decide (i < -(2 ^ 63:Int))=false:=decide_eq_false ∅
  have e2:decide (i ≥ 2 ^ 63)=false:=decide_eq_false ∅
  rw[e1,e2,Bool.or_false]) (by rw[h1];simpa using h2) ⟨.str ⟨#[c]⟩,H,I.tok _,⟨_,rfl⟩,q⟩) hs
noncomputable def rIx(K:PySem.W.Frag):R2:=fun x y H Q=>Sj K x y H Q\/Si K x y H Q\/RX x y H Q
theorem Qp:IxR X (rIx X.K):=NK.or (O4.or PZ)
theorem Gh(its:List Value)(n j:Nat)(u:Value):Obj.mapSeq (·.setIfInBounds j u) {cls:=.type "list",data:=.seq its.toArray n} = {cls:=.type "list",data:=.seq (its.set j u).toArray n}:=by
 simp[Obj.mapSeq]
theorem Inv.lst{pins:List (Addr×Obj)}{Z:St}{H:Hp}{s:Shared}{p:Addr}{xs:List V}(I:Inv X pins Z H s)(h:H p=some (.lst xs)) :
  ∃(its:List Value) (n:Nat),Vals xs its/\s.heap.get? p=some {cls:=.type "list",data:=.seq its.toArray n}/\xs.length<=sizeLine:=by
 obtain⟨z,its,n,r,e⟩:=I.hok p _ h
 exact⟨its,n,r,e,z⟩
theorem Inv.Pl{pins:List (Addr×Obj)}{Z:St}{H:Hp}{s:Shared}{p:Addr}{xs ys:List V}{its its':List Value}{n n':Nat}{f:Obj->Obj}(I:Inv X pins Z H s)(h:H p=some (.lst xs))
  (ho:s.heap.get? p=some {cls:=.type "list",data:=.seq its.toArray n}) (hf:f {cls:=.type "list",data:=.seq its.toArray n} = {cls:=.type "list",data:=.seq its'.toArray n'}) (r:Vals ys its') (hz:ys.length<=sizeLine) (t:Nat) :
  Inv X pins Z (upd H p (.lst ys)) {s with heap:=s.heap.update p f,toks:=t}:=by
 have e:(s.heap.update p f).get? p=some {cls:=.type "list",data:=.seq its'.toArray n'}:=by
  rw[Heap.get?_update_self f ho (by rw[hf]<;>rfl),hf]
 refine I.write (x:=p) (e:=p) (by rw[h];trivial) (.inl rfl) (fun b u hb q=>(Heap.get?_update_other _ _ (Ne.symm hb)).trans q) ⟨_,e⟩ ?_
 exact⟨hz,its',n',r,e⟩
noncomputable def SG:V->V->V->Hp->(Hp->Prop)->Prop:=fun o i v H Q=>∃p xs k j,o = .ref p/\i = .int k/\H p=some (.lst xs)/\ixN xs.length k=some j/\Q (upd H p (.lst (xs.set j v)))
theorem set_list:Rw X SG:=by
 intro pins s Z H o i v ov iv u Q I ro ri rv h
 obtain⟨p,xs,k,j,rfl,rfl,hp,hj,q⟩:=h
 cases ro
 obtain⟨t,rfl⟩:=ri
 obtain⟨its,n,r,ho,hz⟩:=I.lst hp
 obtain⟨h1,h2,h3,h4⟩:=HM hj
 have hl:=r.length
 have hn:=wI
 have I':Inv X pins Z (upd H p (.lst (xs.set j v))) {s with heap:=s.heap.update p (Obj.mapSeq (·.setIfInBounds j u))}:=
  I.Pl hp ho (Gh its n j u) (r.set rv j) (by rw[List.length_set];exact hz) s.toks
 by_cases h0:0<=k
 ·have hk:k.toNat=j:=by
   rw[seqIndex_of h0 h4] at h1
   exact Option.some.inj h1
  exact PySem.W.ki_setAt ho h0 ∅ (by rw[size_toArray,<- hl];exact h4) (by rw[hk];exact⟨_,I',q⟩)
 ·have hk:(k+(its.toArray.size:Int)).toNat=j:=by
   rw[seqIndex_neg ∅ h3] at h1
   rw[size_toArray,<- hl]
   exact Option.some.inj h1
  exact PySem.W.ki_setBack ho ∅ (by rw[size_toArray,<- hl];exact h3) ∅ (by rw[hk];exact⟨_,I',q⟩)
theorem A8(lo hi:Option Int)(n:Nat):(sliceBounds lo hi none n).1=((HT.sIx n 0 lo:Nat):Int)/\(sliceBounds lo hi none n).2.1=((HT.sIx n n hi:Nat):Int)/\(sliceBounds lo hi none n).2.2=1:=by
 refine⟨?_,?_,rfl⟩
 ·cases lo with
  |none=>simp[sliceBounds,HT.sIx]
  |some i=>
   simp only[sliceBounds,HT.sIx,Option.getD_none,show (1:Int)>0 by decide,if_true]
   by_cases h:i<0
   ·simp only[h,if_true]<;>omega
   ·simp only[h,if_false]<;>omega
 ·cases hi with
  |none=>simp[sliceBounds,HT.sIx]
  |some i=>
   simp only[sliceBounds,HT.sIx,Option.getD_none,show (1:Int)>0 by decide,if_true]
   by_cases h:i<0
   ·simp only[h,if_true]<;>omega
   ·simp only[h,if_false]<;>omega
theorem zi(its:List Value)(lo hi:Option Int):slicePick its.toArray lo hi none=((its.drop (HT.sIx its.length 0 lo)).take (HT.sIx its.length its.length hi-HT.sIx its.length 0 lo)).toArray:=by
 obtain⟨h1,h2,h3⟩:=A8 lo hi its.toArray.size
 unfold slicePick
 rw[h1,h2,h3]
 simp only[sliceRange_one,pick_run,size_toArray]<;>rfl
noncomputable def Td(K:PySem.W.Frag):V->Option Int->Option Int->Hp->VK->Prop:=fun x lo hi H Q=>∃a xs,x = .ref a/\SqL K H a xs/\∀p,H p=none->Q (.ref p) (upd H p (.lst (Bl xs lo hi)))
theorem N9:SlR X (Td X.K):=by
 intro pins s Z H x v vl vu lo hi sl Q I rx hs pl pu h
 obtain⟨a,xs,rfl,hx,q⟩:=h
 cases rx
 obtain⟨its,r,ht,hz⟩:=I.list hx
 have hlen:=r.length
 refine⟨"list",_,slot_list_getitem.lookup,ht.isList.typeIs,?_⟩
 refine wpAny_getItem_list_slice ht.isList hs pl pu .none (by simp) ?_ (by rw[size_toArray]<;>omega)
 rw[zi,<- hlen]
 refine⟨.ref s.heap.objs.size,_,I.laid (t':=s.toks) (o:=.lst (Bl xs lo hi)) (fun b ob q=>Heap.get?_push_of_some _ q) (le_refl _) ?_,rfl,q _ (I.hok.fresh (le_refl _))⟩
 exact⟨le_trans (uP xs lo hi) hz,_,0,(r.drop (HT.sIx xs.length 0 lo)).take (HT.sIx xs.length xs.length hi-HT.sIx xs.length 0 lo),Heap.get?_push_size _ rfl⟩
theorem CZ:iP X (.builtin "len") (fun xs H Q=>∃p ys,xs=[.ref p]/\(SqL X.K H p ys\/SqT X.K H p ys)/\Q (.int ys.length) H):=by
 intro pins s Z H xs us Q I r h
 obtain⟨p,ys,rfl,hq,q⟩:=h
 obtain⟨u,rfl,rx⟩:=vals1 r
 cases rx
 have hn:=wI
 rcases hq with hq|hq
 ·obtain⟨its,r',pl,hz⟩:=I.list hq
  have hlen:=r'.length
  exact Calls.call_len_list pl.isList (by simp only[size_toArray]<;>omega) ⟨.int ys.length,H,I.tok _,⟨s.toks+1,by rw[size_toArray,hlen]⟩,q⟩
 ·obtain⟨its,r',pl,hz⟩:=I.tuple hq
  have hlen:=r'.length
  exact len_tuple pl (by simp only[size_toArray]<;>omega) ⟨.int ys.length,H,I.tok _,⟨s.toks+1,by rw[size_toArray,hlen]⟩,q⟩
theorem BR:iP X (.type "list") (fun xs H Q=>∃p ys,xs=[.ref p]/\(SqL X.K H p ys\/SqT X.K H p ys)/\∀l,H l=none->Q (.ref l) (upd H l (.lst ys))):=by
 intro pins s Z H xs us Q I r h
 obtain⟨p,ys,rfl,hq,q⟩:=h
 obtain⟨u,rfl,rx⟩:=vals1 r
 cases rx
 have fin:∀(its:List Value),Vals ys its->ys.length<=sizeLine->∀(h':Heap) (c':Nat),(∀b o',s.heap.get? b=some o'->h'.get? b=some o') ->
   h'.get? s.heap.objs.size=some {cls:=.type "list",dict:=none,data:=.seq its.toArray c',slots:=#[]}->EP X pins Z Q (.ref s.heap.objs.size) {s with heap:=h'}:=fun its r' hz h' c' kp e=>
  ⟨.ref s.heap.objs.size,_,I.laid (t':=s.toks) kp (le_refl _) (show hV X.prog X.w _ h' _ (.lst ys) from ⟨hz,its,c',r',e⟩),rfl,q _ (I.hok.fresh (le_refl _))⟩
 rcases hq with hq|hq
 ·obtain⟨its,r',pl,hz⟩:=I.list hq
  have hlen:=r'.length
  obtain⟨o,ho,hc,n,hd⟩:=pl.isList
  exact call_list_seq p (.inl rfl) ho hc hd (fun h' c' kp e=>fin its r' hz h' c' kp e) (by simp only[size_toArray]<;>omega)
 ·obtain⟨its,r',pl,hz⟩:=I.tuple hq
  have hlen:=r'.length
  obtain⟨o,ho,hc,n,hd⟩:=pl
  exact call_list_seq p (.inr rfl) ho hc hd (fun h' c' kp e=>fin its r' hz h' c' kp e) (by simp only[size_toArray]<;>omega)
theorem zK:iP X (.type "tuple") (fun xs H Q=>∃p ys,xs=[.ref p]/\((SqL X.K H p ys/\∀l,H l=none->Q (.ref l) (upd H l (.tup ys)))\/(SqT X.K H p ys/\Q (.ref p) H))):=by
 intro pins s Z H xs us Q I r h
 obtain⟨p,ys,rfl,h⟩:=h
 obtain⟨u,rfl,rx⟩:=vals1 r
 cases rx
 rcases h with ⟨hq,q⟩|⟨hq,q⟩
 ·obtain⟨its,r',pl,hz⟩:=I.list hq
  have hlen:=r'.length
  refine call_tuple_list pl.isList (fun h' kp=>?_) (by simp only[size_toArray]<;>omega)
  have I1:Inv X pins Z H {s with heap:=h'}:=I.kept (t':=s.toks) kp
  have I2:Inv X pins Z (upd H h'.objs.size (.tup ys)) {s with heap:=h'.push {cls:=.type "tuple",data:=.seq its.toArray}}:=
   I1.laid (t':=s.toks) (fun b o e=>Heap.get?_push_of_some _ e) (le_refl _) (show hV X.prog X.w _ _ _ (.tup ys) from ⟨hz,its,r',IsTup.new _ _⟩)
  exact⟨.ref h'.objs.size,_,I2,rfl,q _ (I1.hok.fresh (le_refl _))⟩
 ·obtain⟨its,r',pl,hz⟩:=I.tuple hq
  exact call_tuple_same pl ⟨.ref p,H,I,rfl,q⟩
noncomputable def tyV(K:PySem.W.Frag)(T:String)(x:V)(H:Hp):Prop:=match x with
 |.str _=>T = "str"
 |.int _=>T = "int"
 |.ref p=>(T = "list"/\∃xs,SqL K H p xs)\/(T = "tuple"/\∃o,K.lookup p=some o/\o.cls = .type "tuple"/\o.dict=none) \/
   (T = "dict"/\((∃kvs,H p=some (.dK kvs))\/∃kvs,H p=some (.dT kvs)))\/(T = "set"/\∃S n,H p=some (.set S n))
 |_=>False
theorem OR{pins:List (Addr×Obj)}{Z:St}{H:Hp}{s:Shared}{T:String}{x:V}{v:Value}(I:Inv X pins Z H s)(r:RelV x v)(ty:tyV X.K T x H) :
  s.TypeIs v T/\∀a,v = .ref a->∃ob,s.heap.get? a=some ob/\ob.dict=none:=by
 cases x with
 |str z=>
  obtain⟨t,rfl⟩:=r
  cases (show T = "str" from ty)
  exact⟨typeIs_str s z t,fun _ e=>nomatch e⟩
 |int i=>
  obtain⟨t,rfl⟩:=r
  cases (show T = "int" from ty)
  exact⟨typeIs_int s i t,fun _ e=>nomatch e⟩
 |ref p=>
  cases r
  rcases ty with ⟨rfl,xs,hq⟩|⟨rfl,o,hk,hc,hd⟩|⟨rfl,hk⟩|⟨rfl,S,n,hk⟩
  ·obtain⟨its,_,pl,_⟩:=I.list hq
   refine⟨pl.isList.typeIs,fun a e=>?_⟩
   cases e
   obtain⟨o,n,e,c,hd,_⟩:=pl
   exact⟨o,e,hd⟩
  ·refine⟨⟨o,I.kIn p o hk,hc⟩,fun a e=>?_⟩
   cases e
   exact⟨o,I.kIn _ o hk,hd⟩
  ·have z:∃o,s.heap.get? p=some o/\o.ExactDict:=by
    rcases hk with ⟨kvs,hk⟩|⟨kvs,hk⟩
    ·obtain⟨_,_,_,_,o,_,_,e,ex,_⟩:=I.hok p _ hk
     exact⟨o,e,ex⟩
    ·obtain⟨_,_,_,_,o,_,_,e,ex,_⟩:=I.hok p _ hk
     exact⟨o,e,ex⟩
   obtain⟨o,e,ex⟩:=z
   refine⟨⟨o,e,ex.1⟩,fun a e2=>?_⟩
   cases e2
   exact⟨o,e,ex.2.1⟩
  ·obtain⟨o,_,_,_,e,ex,_⟩:=I.hok p _ hk
   refine⟨⟨o,e,ex.1⟩,fun a e2=>?_⟩
   cases e2
   exact⟨o,e,ex.2.1⟩
 |_=>exact False.elim ty
noncomputable def tBM(K:PySem.W.Frag)(T:String)(r:V->List V->Hp->VK->Prop)(to:TE)(t:TA):TE:=fun Z H Q=>to Z H fun x H1=>tyV K T x H1/\t Z H1 fun xs H2=>r x xs H2 Q
variable {o e:Expr}{es:List Expr}{to:TE}{t:TA}{name:Str}{apos cpos:Pos}{T id:String}{r:V->List V->Hp->VK->Prop}
theorem Ow(pa:PlainAttrs T)(slot:Slot T name id)(hty:typeOf (.builtin id)=pure (.type "method_descriptor"))(hm:MtR X id r)(ho:PE X o to)(ha:PA X (e::es) t)
  (hbase:attributeBase o name X.env (eval o X.env)=eval o X.env:=by rfl)
  (hfew:((backTo cpos (starEach (e::es) X.env)).all (fun x=>!x.1)&&(backToKw cpos (keywordEach [] X.env)).all (fun x=>x.1.isSome)
   && decide ((e::es).length+([]:List Keyword).length+(if ([]:List Keyword).isEmpty then 0 else 1)<30))=true:=by rfl)
  (hline:(apos.endLine==cpos.line)=true:=by rfl) (hs:starEach (e::es) X.env=(false,eval e X.env)::starEach es X.env:=by rfl) (hplain:(backTo cpos (starEach es X.env)).any (·.1)=false:=by rfl) :
  PE X (.Call (.Attribute o name apos) (e::es) [] cpos) (tBM X.K T r to t):=by
 intro pins s Z H Q I h
 refine wpAny_Call_method_late hbase hfew hline rfl (thn (ho pins s Z H _ I h) fun v s1 hq0=>?_)
 obtain⟨x,H1,I1,r1,ty,q1⟩:=hq0
 obtain⟨h1,h2⟩:=OR I1 r1 ty
 refine⟨T,id,pa,slot,hty,h1,h2,?_⟩
 have hA:=ha cpos pins s1 Z H1 _ I1 q1
 rw[hs] at hA ⊢
 refine Calls.callWith_builtin (by show (false || (backTo cpos (starEach es X.env)).any (·.1))=false;rw[hplain]<;>rfl) (Calls.evalArgs_plain ?_)
 exact thn hA fun us s2 ⟨vs,H2,I2,r2,q2⟩=>hm pins s2 Z H2 x vs v us Q I2 r1 r2 q2
end
end L2
namespace L2
open PySem PySem.Spec PyProof.Rows
noncomputable def MtM(X:Cx)(id:String)(r:V->List V->Hp->VK->Prop):Prop:=
 ∀(pins:List (Addr×Obj)) (s:Shared) (Z:St) (H:Hp) (x:V) (xs:List V) (v:Value) (us:List Value) (Q:VK),Inv X pins Z H s->RelV x v->Vals xs us->r x xs H Q ->
  wpAny (model X.prog X.w) X.A (call (.builtin id) (v::us)) (EP X pins Z Q) X.xe s
theorem Vals.one:∀{x:V} {us:List Value},Vals [x] us->∃u,us=[u]/\RelV x u
 |_,_,.cons r .nil=>⟨_,rfl,r⟩
theorem Vals.dropLast{xs:List V}{us:List Value}(h:Vals xs us):Vals xs.dropLast us.dropLast:=by
 induction h with
 |nil=>exact .nil
 |cons r t ih=>
  cases t with
  |nil=>exact .nil
  |cons q t'=>exact .cons r ih
section
variable {X:Cx}{pins:List (Addr×Obj)}{Z:St}{H:Hp}{s:Shared}{l b:Addr}{xs ys zs:List V}
theorem Inv.PH{its its':List Value}{n:Nat}{f:Array Value->Array Value}{t':Nat}(I:Inv X pins Z H s)(hH:H l=some (.lst xs))
  (e:s.heap.get? l=some {cls:=.type "list",data:=.seq its.toArray n}) (hf:f its.toArray=its'.toArray) (hv:Vals ys its') (hz:ys.length<=sizeLine) :
  Inv X pins Z (upd H l (.lst ys)) {s with heap:=s.heap.update l (Obj.mapSeq f),toks:=t'}:=by
 have q:=PySem.IsL.update e f
 rw[hf] at q
 refine I.write (x:=l) (e:=l) (by rw[hH];exact trivial) (.inl rfl) (fun b' u hb hu=>(Heap.get?_update_other s.heap (Obj.mapSeq f) (Ne.symm hb)).trans hu) ⟨_,q⟩ ?_
 exact⟨hz,its',_,hv,q⟩
theorem Inv.TB{its:List Value}{t':Nat}(I:Inv X pins Z H s)(hv:Vals ys its)(hz:ys.length<=sizeLine) :
  Inv X pins Z (upd H s.heap.objs.size (.lst ys)) {s with heap:=s.heap.push {cls:=.type "list",data:=.seq its.toArray},toks:=t'}:=
 I.laid (fun _ _ q=>Heap.get?_push_of_some _ q) (le_refl _) ⟨hz,its,0,hv,Heap.get?_push_size _ rfl⟩
theorem Inv.fresh(I:Inv X pins Z H s):H s.heap.objs.size=none:=I.hok.fresh (le_refl _)
theorem Inv.IS(I:Inv X pins Z H s)(hH:H l=some (.lst xs)):xs.length<=sizeLine/\∃(its:List Value) (n:Nat),Vals xs its/\xs.length=its.length/\s.heap.get? l=some {cls:=.type "list",data:=.seq its.toArray n}:=by
 obtain⟨z,its,n,r,e⟩:=I.hok l _ hH
 exact⟨z,its,n,r,r.length,e⟩
theorem L0{n:Nat}(h:n<=sizeLine):Builtin.List.listTooLong n=false:=by
 unfold Builtin.List.listTooLong
 exact decide_eq_false ∅
end
section
variable {X:Cx}
noncomputable def Mo:V->List V->Hp->VK->Prop:=fun x vs H Q=>∃l xs y,x = .ref l/\vs=[y]/\H l=some (.lst xs)/\xs.length<sizeLine/\Q .non (upd H l (.lst (xs++[y])))
theorem uD:MtM X "list.append" Mo:=by
 intro pins s Z H x vs v us Q I rx rv h
 obtain⟨l,xs,y,rfl,rfl,hH,hz,q⟩:=h
 cases rx
 obtain⟨u,rfl,ru⟩:=rv.one
 obtain⟨z,its,n,r,hl,e⟩:=I.IS hH
 refine call_meets F.slot_list_append ⟨_,e,rfl⟩ F.entry_list_append (F.args_list_append_2 _ _) (PySem.list_append l its.toArray n u (by rw[size_toArray];omega)) ⟨e,?_⟩
 refine⟨.non,_,I.PH (its':=its++[u]) hH e (by simp) (r.append (.cons ru .nil)) ?_,rfl,q⟩
 rw[length_append,List.length_singleton]
 omega
noncomputable def N6:V->List V->Hp->VK->Prop:=fun x vs H Q=>∃l b xs zs,x = .ref l/\vs=[.ref b]/\H l=some (.lst xs)/\H b=some (.lst zs)/\xs.length+zs.length<=sizeLine/\Q .non (upd H l (.lst (xs++zs)))
theorem Rf:MtM X "list.extend" N6:=by
 intro pins s Z H x vs v us Q I rx rv h
 obtain⟨l,b,xs,zs,rfl,rfl,hH,hB,hz,q⟩:=h
 cases rx
 obtain⟨u,rfl,ru⟩:=rv.one
 cases ru
 obtain⟨z,its,n,r,hl,e⟩:=I.IS hH
 obtain⟨z2,its2,n2,r2,hl2,e2⟩:=I.IS hB
 have hsz:its.toArray.size+its2.toArray.size<=sizeLine:=by rw[size_toArray,size_toArray];omega
 have hlong:¬ (!its.toArray.isEmpty&&Builtin.List.listTooLong (its.toArray.size+its2.toArray.size))=true:=by
  rw[L0 hsz,Bool.and_false]
  exact Bool.false_ne_true
 refine call_meets F.slot_list_extend ⟨_,e,rfl⟩ F.entry_list_extend (F.args_list_extend_2 _ _)
  (AutoSeq1.list_extend_list_list_0 l its.toArray n b its2.toArray n2 hlong (by rw[size_toArray];omega) ∅) ⟨e,e2,?_⟩
 refine⟨.non,_,I.PH (its':=its++its2) hH e (by simp) (r.append r2) ?_,rfl,q⟩
 rw[length_append]
 omega
noncomputable def Ro:R2:=fun x y H Q=>∃l b xs zs,x = .ref l/\y = .ref b/\H l=some (.lst xs)/\H b=some (.lst zs)/\xs.length+zs.length<=sizeLine/\∀p,H p=none->Q (.ref p) (upd H p (.lst (xs++zs)))
theorem O9:OpR X (binaryOp .Add) Ro:=by
 intro pins s Z H x y v u Q I rx ry h
 obtain⟨l,b,xs,zs,rfl,rfl,hH,hB,hz,q⟩:=h
 cases rx
 cases ry
 obtain⟨z,its,n,r,hl,e⟩:=I.IS hH
 obtain⟨z2,its2,n2,r2,hl2,e2⟩:=I.IS hB
 refine PySem.P.add_list e e2 ?_ (by rw[size_toArray,size_toArray];omega)
 have ea:its.toArray++its2.toArray=(its++its2).toArray:=by simp
 rw[ea]
 exact⟨.ref _,_,I.TB (t':=s.toks) (r.append r2) (by rw[length_append];omega),rfl,q _ I.fresh⟩
end
end L2
namespace Att
open PySem PySem.W PySem.Calls PyProof.Rows
theorem vQ{P:Params}{h:Heap}:∀(ns:List Int) (vs:List Value),WellAll P h vs (ns.map WData.int)->IntsAre vs ns:=by
 intro ns
 induction ns with
 |nil=>
  intro vs w
  rw[map_nil] at w
  cases w
  exact .nil
 |cons n ns ih=>
  intro vs w
  rw[map_cons] at w
  cases w with
  |cons a b=>
   cases a
   exact .cons _ _ (ih _ b)
theorem Iy{l:OpenLaw}{n:Nat}(hn:l.most=some n){P:Params}{h:Heap}{args:List WData}{vals:List Value}
  (hpre:l.row.toRowW.claim.pre args=true) (hwl:WellAll P h vals args) :
  ∃a vs ns,vals=[Value.ref a]/\args=[WData.list (ns.map WData.int)]/\h.get? a=some {cls:=.type "list",data:=.seq vs.toArray}/\IntsAre vs ns/\ns.length<=n:=by
 have hsh:WShape.hasAll [] args [.list .int]=true:=(pre_splitW hpre).1
 have hc:l.pre.holds [] {args:=args} = true:=(pre_splitW hpre).2
 obtain⟨d,r,rfl,h1,h2⟩:=hasAllW_cons hsh
 obtain rfl:=hasAllW_nil h2
 obtain⟨xs,rfl,h3⟩:=hasW_list h1
 obtain⟨ns,rfl⟩:=items_int h3
 have hlen:ns.length<=n:=by
  unfold OpenLaw.pre at hc
  have h4:(WTm.not (.lt (.lit (.int (n:Int))) (.len (.arg 0)))).holds [] {args:=[.list (ns.map .int)]} = true:=by
   have h4:=(holds_andW hc).1
   rw[hn] at h4
   exact h4
  have h5:=condW_of h4 (w_not (w_lt w_lit (w_len_list (w_arg rfl))))
  rw[length_map] at h5
  refine Nat.le_of_not_lt fun q=>?_
  have q':(n:Int)<((ns.length:Nat):Int):=by omega
  first
   |(rw[decide_eq_true q'] at h5;exact absurd h5 ⋯)
   |(simp at h5;omega)
 cases hwl with
 |cons w1 w2=>
  cases w2
  cases w1 with
  |list ho hall=>exact⟨_,_,ns,rfl,rfl,ho,vQ ns _ hall,hlen⟩
theorem Jn(l:OpenLaw)(args:List WData):l.row.toRowW.claim.post args (.bool true) args=true:=
 postW_of (r:=l.row.toRowW) (X:=(true==true))
  (show WShape.has [] (.bool true) .bool=true by first|rfl|decide|simp[WShape.has,WShape.arms,WShape.armsAll])
  (show (WTm.eq .res (.lit (.bool true))).value [] {args:=args,res:=some (.bool true),after:=args} = some (.bool (true==true)) from w_eq_bool (w_res rfl) w_lit) rfl
theorem Eu{l:OpenLaw}{n:Nat}{q:Program}{loose:List Str}{XP:(Str->Option Value)->Heap->Prop}{YP:World->Heap->Prop}{d:DefRec}
  (hn:l.most=some n) (hdf:d.params.defaults=[])
  (call:∀(w:World) (ga db:Shared) (mg mb:Str->Option Value) (fa:Addr) (o:Obj) (pm cd doc:Value) (a:Addr) (vs:List Value) (ns:List Int),
   Ground q loose [] XP w ga mg mb db.heap->YP w db.heap ->
   db.heap.get? fa=some o->o.data = .func (docDef d.name d.params d.body d.scope pm cd doc)->db.heap.CodeRec cd d.name->mg d.name=some (.ref fa) ->
   db.heap.get? a=some {cls:=.type "list",data:=.seq vs.toArray}->IntsAre vs ns->ns.length<=n->db.gens = #[] ->
   codeAny (model l.prog w) callerA (.call (.ref fa) ⟨[.ref a],[]⟩) (fun r s'=>r = .ok (.ret (.bool true))/\OldK db.heap s'.heap/\s'.os=db.os/\AllBare s'.gens) db) :
  WalkO q loose XP YP l.row.toRowW d [] (fun f vs=>PySem.call f vs):=by
 intro w ga db mg mb G Y fa o pm cd doc dV kV ho hd hcd hD hmg hg args vals as hpre hlay hrd hwl hlo
 obtain rfl:dV = .none:=Dflts.none hD hdf
 obtain rfl:kV = .none:=Dflts.noKw hD
 obtain⟨a,vs,ns,rfl,rfl,hobj,hints,hlen⟩:=Iy hn hpre hwl
 refine enter_call (codeAny_mono (call w ga db mg mb fa o pm cd doc a vs ns G Y ho (fd_plain hd) hcd hmg hobj hints hlen hg) fun r s' hq=>?_)
 obtain⟨rfl,h2,h3,h4⟩:=hq
 exact⟨.inl ⟨.bool true,.bool true,[],rfl,fun _=>rfl,.bool true,Jn l _,fun _=>⟨List.Pairwise.nil,fun _ hm=>(nomatch hm)⟩⟩,h2,h3,h4⟩
end Att
namespace L2
open PySem PySem.Spec PyProof.Rows
theorem Au:∀{vs:List Value} {ns:List Int},IntsAre vs ns->Vals (ns.map V.int) vs
 |_,_,.nil=>.nil
 |_,_,.cons n t h=>.cons ⟨t,rfl⟩ (Au h)
end L2
namespace L2
open PySem PySem.Spec PyProof.Rows
end L2
namespace L2
open PySem PySem.Spec PyProof.Rows
noncomputable abbrev CX0:CXT:=fun _ _ _ _ _ _=>False
noncomputable abbrev E0:XK:=fun _ _ _=>False
theorem Sx{X:Cx}:Passes CX0 X E0:=fun _ _ _ _ _ _ _ h=>h.elim
structure Fun(K:PySem.W.Frag)(x qual:Str)(st:Stmt)(f:Addr)(fd:FuncData):Prop where
 ex:∃(oc:Value) (od:Option Addr) (kV doc pm:Value) (an:Option Addr) (cdv ct:Value) (osl:Array (Option Value)),
  fd=fnOf x qual (iD st) (gM st) (aw st) .none kV doc pm an cdv ct/\K.lookup f=some ⟨oc,od,.func fd,osl⟩/\codeIn K cdv qual=true
 kp:keepIn K (.ref f)=true
section
variable {P:Program}{w:World}{K:PySem.W.Frag}{mg:Str->Option Value}{base:Heap}
theorem Fun.ok{x qual:Str}{st:Stmt}{f:Addr}{fd:FuncData}{N ps:List Str}{k:Nat}{sp:Sp}(F:Fun K x qual st f fd)(S:aA N ps (aw st))(len:∀vs H Q E,sp vs H Q E->vs.length=ps.length)
  (hbody:∀(cdv:Value) (A:Around) (outer:List Env) (s:Shared) (H:Hp) (vs:List V) (Q:VK) (E:XK),kL k (A.deeper (envOfC qual (aw st) s.heap.objs.size f cdv))->sp vs H Q E ->
   ∃t,PSs (Fq CX0 P w K mg base N qual (aw st) f cdv A outer s H E).nox (gM st) t/\t {nx:=fun _ H'=>Q .non H',rt:=Q} (start N vs) H):mT P w K mg base CX0 (k+1) f fd ps sp:=by
 obtain⟨oc,od,kV,doc,pm,an,cdv,ct,osl,rfl,lk,hcd⟩:=F.ex
 refine Sy lk hcd S len fun A outer s H vs Q E hr hsp=>?_
 obtain⟨t,h,q⟩:=hbody cdv A outer s H vs Q E hr hsp
 exact⟨t,h.nox,q⟩
theorem Fun.binds{x qual:Str}{st:Stmt}{f:Addr}{fd:FuncData}{ps:List Str}(F:Fun K x qual st f fd)
  (h:∀(kV doc pm:Value) (an:Option Addr) (cdv ct:Value) (us:List Value),us.length=ps.length->bindArgs (fnOf x qual (iD st) (gM st) (aw st) .none kV doc pm an cdv ct) ⟨us,[]⟩=pure (ps.zip us)):Binds K fd ps []:=by
 obtain⟨oc,od,kV,doc,pm,an,cdv,ct,osl,rfl,lk,hcd⟩:=F.ex
 exact .all (h kV doc pm an cdv ct)
theorem O0{x qual:Str}{st:Stmt}{f:Addr}{oc:Value}{od an:Option Addr}{osl:Array (Option Value)}{kV doc pm cdv ct:Value}(l:K.lookup f=some ⟨oc,od,.func (fnOf x qual (iD st) (gM st) (aw st) .none kV doc pm an cdv ct),osl⟩)
  (c:codeIn K cdv qual=true) (k:keepIn K (.ref f)=true):Fun K x qual st f (fnOf x qual (iD st) (gM st) (aw st) .none kV doc pm an cdv ct):=⟨⟨oc,od,kV,doc,pm,an,cdv,ct,osl,rfl,l,c⟩,k⟩
end
theorem gx{n:Nat}(h:n<=1000):n<sizeLine:=Nat.lt_of_le_of_lt h ⋯
theorem Ia{A B:Prop}(h:B):if false=true then A else B:=by
 rw[if_neg Bool.false_ne_true]
 exact h
theorem IT{A B:Prop}(h:A):if true=true then A else B:=by
 rw[if_pos rfl]
 exact h
noncomputable def CQ(H H':Hp):Prop:=∀b o,H b=some o->H' b=some o
theorem CQ.refl(H:Hp):CQ H H:=fun _ _ h=>h
end L2
namespace ST
open PySem PySem.SetTable
noncomputable def fiv(M x:Nat):Nat:=(x*5+1) % M
noncomputable def itf(M:Nat):Nat->Nat->Nat
 |0,x=>x
 |n+1,x=>fiv M (itf M n x)
noncomputable def geo:Nat->Nat
 |0=>0
 |p+1=>5*geo p+1
theorem M8:∀p,4*geo p+1=5 ^ p
 |0=>rfl
 |p+1=>by
  have:=M8 p
  rw[geo,pow_succ]
  omega
theorem Hg:∀p,geo p % 2=p % 2
 |0=>rfl
 |p+1=>by
  have:=Hg p
  rw[geo]
  omega
theorem Og(q:Nat):geo (2*q)=geo q*(2*geo q+1)*2:=by
 have h1:=M8 (2*q)
 have h2:=M8 q
 have h3:5 ^ (2*q)=5 ^ q*5 ^ q:=by rw[<- Nat.pow_add];congr 1;omega
 rw[h3,<- h2] at h1
 have h4:(4*geo q+1)*(4*geo q+1)=4*(geo q*(2*geo q+1)*2)+1:=by
  generalize geo q=g
  have:geo q=geo q:=rfl
  simp only[Nat.add_mul,Nat.mul_add,Nat.mul_assoc,Nat.mul_one,Nat.one_mul]
  have e1:g*(4*g)=4*(g*g):=by rw[Nat.mul_left_comm]
  have e2:g*(2*(g*2))=4*(g*g):=by rw[Nat.mul_left_comm,<- Nat.mul_assoc g g 2];omega
  rw[e1,e2]
  omega
 rw[h4] at h1
 omega
theorem G7:∀k p:Nat,2 ^ k ∣ geo p->2 ^ k ∣ p
 |0,p,_=>by rw[Nat.pow_zero];exact Nat.one_dvd p
 |k+1,p,h=>by
  have h2:2 ∣ geo p:=Nat.dvd_trans ⟨2 ^ k,by rw[pow_succ,mul_comm]⟩ h
  have hp:p % 2=0:=by rw[<- Hg];omega
  obtain⟨q,rfl⟩:∃q,p=2*q:=⟨p / 2,∅⟩
  rw[Og,pow_succ] at h
  have h3:=Nat.dvd_of_mul_dvd_mul_right (by decide:0<2) h
  have co:Nat.Coprime (2 ^ k) (2*geo q+1):=by
   refine Nat.Coprime.pow_left k ?_
   unfold Nat.Coprime
   rw[Nat.gcd_rec]
   have:(2*geo q+1) % 2=1:=by omega
   rw[this]
   decide
  have h4:=G7 k q (co.dvd_of_dvd_mul_right h3)
  rw[pow_succ,mul_comm 2 q]
  exact Nat.mul_dvd_mul_right h4 2
theorem KI{M a b:Nat}(h:a % M=b % M):(a*5+1) % M=(b*5+1) % M:=by
 rw[Nat.add_mod,Nat.mul_mod,h,<- Nat.mul_mod,<- Nat.add_mod]
theorem GU(M:Nat)(x:Nat):∀n,itf M n x % M=(5 ^ n*x+geo n) % M
 |0=>by rw[itf,geo,Nat.pow_zero,Nat.one_mul,Nat.add_zero]
 |n+1=>by
  rw[itf,fiv,Nat.mod_mod,KI (GU M x n),geo,pow_succ]
  congr 1
  rw[Nat.add_mul,Nat.mul_right_comm,mul_comm (geo n) 5];omega
theorem He(M:Nat)(a x:Nat):∀b,itf M (a+b) x=itf M b (itf M a x)
 |0=>rfl
 |b+1=>by show fiv M (itf M (a+b) x)=_;rw[He M a x b];rfl
theorem cyc{k p x:Nat}(h:(5 ^ p*x+geo p) % 2 ^ k=x % 2 ^ k):2 ^ k ∣ p:=by
 refine G7 k p ?_
 have h1:=Nat.sub_mod_eq_zero_of_mod_eq h
 have e:5 ^ p*x+geo p-x=geo p*(4*x+1):=by
  rw[<- M8 p,Nat.add_mul,Nat.mul_add,Nat.mul_one,Nat.one_mul]
  have:4*geo p*x=geo p*(4*x):=by rw[mul_comm 4,Nat.mul_assoc]
  omega
 rw[e] at h1
 have co:Nat.Coprime (2 ^ k) (4*x+1):=by
  refine Nat.Coprime.pow_left k ?_
  unfold Nat.Coprime
  rw[Nat.gcd_rec]
  have:(4*x+1) % 2=1:=by omega
  rw[this]
  decide
 exact co.dvd_of_dvd_mul_right (Nat.dvd_of_mod_eq_zero h1)
theorem M4{k a b x:Nat}(h:a<b)(hb:b<2 ^ k)(hx:itf (2 ^ k) a x=itf (2 ^ k) b x):False:=by
 obtain⟨p,rfl⟩:∃p,b=a+p:=⟨b-a,∅⟩
 rw[He] at hx
 have h1:=GU (2 ^ k) (itf (2 ^ k) a x) p
 rw[<- hx] at h1
 have h2:=Nat.le_of_dvd ∅ (cyc h1.symm)
 omega
theorem pig:∀(l O:List Nat),l.Nodup->(∀x∈l,x∈O)->l.length<=O.length
 |[],_,_,_=>zero_le _
 |a::l,O,h,s=>by
  rw[List.nodup_cons] at h
  have ha:=s a (mem_cons_self ..)
  have:=pig l (O.erase a) h.2 fun x hx=>(List.mem_erase_of_ne (fun z=>h.1 (by rw[<- z];exact hx))).mpr (s x (mem_cons_of_mem _ hx))
  rw[List.length_erase_of_mem ha] at this
  have:0<O.length:=List.length_pos_of_mem ha
  rw[length_cons]
  omega
theorem IG{k:Nat}{O:List Nat}(x:Nat)(hc:O.length<2 ^ k):∃r,r<=O.length/\itf (2 ^ k) r x ∉ O:=by
 by_cases h:∃r,r<=O.length/\itf (2 ^ k) r x ∉ O
 ·exact h
 exfalso
 have a:∀r,r<=O.length->itf (2 ^ k) r x∈O:=fun r hr=>Classical.byContradiction fun z=>h ⟨r,hr,z⟩
 have:=pig ((List.range (O.length+1)).map fun r=>itf (2 ^ k) r x) O ?_ fun y hy=>?_
 ·rw[length_map,List.length_range] at this
  omega
 ·refine List.pairwise_map.mpr (List.Pairwise.imp_of_mem (fun {p q} hp hq (hpq:p<q) z=>?_) List.pairwise_lt_range)
  rw[List.mem_range] at hq
  exact M4 hpq ∅ z
 ·obtain⟨r,hr,rfl⟩:=List.mem_map.mp hy
  rw[List.mem_range] at hr
  exact a r ∅
noncomputable def lp(m:Nat)(s:Nat×Nat):Nat->Nat×Nat
 |0=>s
 |n+1=>leap m (lp m s n).1 (lp m s n).2
theorem L9(m:Nat)(s:Nat×Nat):∀n,(lp m s n).2=s.2 / 32 ^ n
 |0=>by rw[Nat.pow_zero,Nat.div_one];rfl
 |n+1=>by
  show (lp m s n).2 / 32=_
  rw[L9 m s n,Nat.div_div_eq_div_mul,pow_succ]
theorem Ho(m:Nat)(s:Nat×Nat)(h:s.2<2 ^ 64):∀r,lp m s (13+r)=(itf (m+1) r (lp m s 13).1,0)
 |0=>by
  have:=L9 m s 13
  rw[Nat.div_eq_of_lt (lt_of_lt_of_le h ⋯)] at this
  exact Prod.ext rfl this
 |r+1=>by
  show leap m (lp m s (13+r)).1 (lp m s (13+r)).2=_
  rw[Ho m s h r]
  show ((itf (m+1) r (lp m s 13).1*5+1+0 / 32) % (m+1),0 / 32)=_
  rw[Nat.zero_div,Nat.add_zero]
  rfl
theorem AG{m k:Nat}(hm:m+1=2 ^ k){O:List Nat}(hc:O.length<=m)(s:Nat×Nat)(h:s.2<2 ^ 64):∃L,L<=13+O.length/\(lp m s L).1 ∉ O:=by
 obtain⟨r,h1,h2⟩:=IG (k:=k) (O:=O) (lp m s 13).1 ∅
 refine⟨13+r,∅,?_⟩
 rw[Ho m s h,hm]
 exact h2
theorem HE(m i p:Nat):(leap m i p).1<=m:=by
 have:(i*5+1+p / 32) % (m+1)<m+1:=mod_lt _ (Nat.succ_pos m)
 show (i*5+1+p / 32) % (m+1)<=m
 omega
theorem Hq(h:Int):bits h<2 ^ 64:=by
 unfold bits
 have:=Int.emod_lt_of_pos h (show (0:Int)<2 ^ 64 by decide)
 have:=Int.emod_nonneg h (show (2 ^ 64:Int)≠0 by decide)
 omega
noncomputable def adv(m:Nat)(p:Probe):Probe:=
 if p.more>0 then {p with j:=p.j+1,more:=p.more-1} else
 {p with j:=(leap m p.i p.perturb).1,more:=runEnd m (leap m p.i p.perturb).1-(leap m p.i p.perturb).1,i:=(leap m p.i p.perturb).1,perturb:=(leap m p.i p.perturb).2}
noncomputable def st(m:Nat)(s:Nat×Nat):Probe:={j:=s.1,more:=runEnd m s.1-s.1,i:=s.1,perturb:=s.2,dummy:=none}
noncomputable def sth(m:Nat)(h:Int):Probe:=st m (bits h % (m+1),bits h)
inductive Way(m:Nat)(O:Nat->Prop):Probe->Nat->Nat->Prop
 |here {p:Probe}:p.dummy=none->¬ O p.j->Way m O p 0 p.j
 |step {p:Probe} {n e:Nat}:p.dummy=none->O p.j->Way m O (adv m p) n e->Way m O p (n+1) e
inductive On(m:Nat)(O:Nat->Prop):Probe->Nat->Prop
 |here {p:Probe}:On m O p p.j
 |step {p:Probe} {j:Nat}:O p.j->On m O (adv m p) j->On m O p j
theorem On.mono{m:Nat}{O O':Nat->Prop}(s:∀j,O j->O' j){p:Probe}{j:Nat}(h:On m O p j):On m O' p j:=by
 induction h with
 |here=>exact .here
 |step a _ ih=>exact .step (s _ a) ih
theorem Way.on{m:Nat}{O:Nat->Prop}{p:Probe}{n e:Nat}(h:Way m O p n e):On m O p e/\¬ O e:=by
 induction h with
 |here _ a=>exact⟨.here,a⟩
 |step _ a _ ih=>exact⟨.step a ih.1,ih.2⟩
theorem Po(m i:Nat):runEnd m i-i<=9:=by unfold runEnd;split<;>omega
theorem Fp{m i:Nat}(h:i<=m):runEnd m i<=m:=by unfold runEnd;split<;>omega
theorem F4(m i:Nat):i<=runEnd m i:=by unfold runEnd;split<;>omega
theorem Way.le{m:Nat}{O:Nat->Prop}{p:Probe}{n e:Nat}(h:Way m O p n e):p.j+p.more<=m->e<=m:=by
 induction h with
 |here _ _=>omega
 |@step p n e _ a _ ih=>
  intro hp
  refine ih ?_
  unfold adv
  split
  ·show p.j+1+(p.more-1)<=m;omega
  ·show (leap m p.i p.perturb).1+(runEnd m (leap m p.i p.perturb).1-(leap m p.i p.perturb).1)<=m
   have h1:=HE m p.i p.perturb
   have:=Fp h1
   omega
theorem Hm{m:Nat}{O:Nat->Prop}{i pt n1 e1:Nat}(w:Way m O (st m (leap m i pt)) n1 e1):∀(more j:Nat),∃n e,Way m O {j:=j,more:=more,i:=i,perturb:=pt,dummy:=none} n e/\n<=more+1+n1
 |0,j=>by
  by_cases h:O j
  ·exact⟨n1+1,e1,.step rfl h w,∅⟩
  ·exact⟨0,j,.here rfl h,∅⟩
 |more+1,j=>by
  by_cases h:O j
  ·obtain⟨n,e,w1,hn⟩:=Hm w more (j+1)
   exact⟨n+1,e,.step rfl h w1,∅⟩
  ·exact⟨0,j,.here rfl h,∅⟩
theorem Lf{m:Nat}{O:Nat->Prop}{s:Nat×Nat}{L:Nat}(hL:¬ O (lp m s L).1):∀d,d<=L->∃n e,Way m O (st m (lp m s (L-d))) n e/\n<=10*d
 |0,_=>⟨0,_,.here rfl hL,∅⟩
 |d+1,hd=>by
  obtain⟨n,e,w,hn⟩:=Lf hL d ∅
  have e1:L-d=(L-(d+1))+1:=by omega
  rw[e1] at w
  obtain⟨n',e',w',hn'⟩:=Hm (i:=(lp m s (L-(d+1))).1) (pt:=(lp m s (L-(d+1))).2) w (runEnd m (lp m s (L-(d+1))).1-(lp m s (L-(d+1))).1) (lp m s (L-(d+1))).1
  have:=Po m (lp m s (L-(d+1))).1
  exact⟨n',e',w',∅⟩
theorem JW{m k:Nat}(hm:m+1=2 ^ k){O:List Nat}(hc:O.length<=m)(h:Int):∃n e,Way m (·∈O) (sth m h) n e/\n<=10*(13+O.length)/\e<=m:=by
 obtain⟨L,h1,h2⟩:=AG hm hc (bits h % (m+1),bits h) (Hq h)
 obtain⟨n,e,w,hn⟩:=Lf (O:=(·∈O)) h2 L (le_refl _)
 rw[Nat.sub_self] at w
 refine⟨n,e,w,∅,w.le ?_⟩
 have:=Fp (m:=m) (i:=bits h % (m+1)) (Nat.le_of_lt_succ (mod_lt _ (Nat.succ_pos m)))
 have:=F4 m (bits h % (m+1))
 show bits h % (m+1)+(runEnd m (bits h % (m+1))-bits h % (m+1))<=m
 omega
theorem wY{A B:List Nat}{j:Nat}(hA:∀a∈A,a<j)(hB:∀b∈B,j<=b):∀fuel lo hi,lo<=A.length->A.length<=hi->hi<=(A++B).length->hi-lo<=fuel->below.go (A++B).toArray j fuel lo hi=A.length
 |0,lo,hi,h1,h2,_,h4=>by show lo=_;omega
 |fuel+1,lo,hi,h1,h2,h3,h4=>by
  rw[below.go]
  by_cases c:lo<hi
  ·rw[if_pos c]
   have hmid:(lo+hi) / 2<(A++B).length:=by omega
   have hg:(A++B).toArray.getD ((lo+hi) / 2) j=(A++B)[(lo+hi) / 2]:=by rw[Array.getD];exact dif_pos (by rw[size_toArray];exact hmid)
   simp only[hg]
   by_cases d:(lo+hi) / 2<A.length
   ·have:(A++B)[(lo+hi) / 2]=A[(lo+hi) / 2]:=List.getElem_append_left d
    rw[this,if_pos (hA _ (getElem_mem d))]
    exact wY hA hB fuel _ _ ∅ h2 h3 ∅
   ·have:(A++B)[(lo+hi) / 2]=B[(lo+hi) / 2-A.length]'(by rw[length_append] at hmid;omega):=List.getElem_append_right ∅
    rw[this,if_neg (Nat.not_lt.mpr (hB _ (getElem_mem _)))]
    exact wY hA hB fuel _ _ h1 ∅ ∅ ∅
  ·rw[if_neg c]
   omega
theorem J1{A B:List Nat}{j:Nat}(hA:∀a∈A,a<j)(hB:∀b∈B,j<=b):below (A++B).toArray j=A.length:=by
 unfold below
 refine wY hA hB _ _ _ (zero_le _) ?_ ?_ ?_
 ·rw[size_toArray,length_append];omega
 ·rw[size_toArray];exact le_refl _
 ·omega
theorem AQ{α:Type}(A B:List α)(x:α):insertAt (A++B).toArray A.length x=(A++x::B).toArray:=by
 unfold insertAt
 apply Array.ext'
 simp
end ST
namespace ST
open PySem PySem.SetTable
theorem On.inv{m:Nat}{O:Nat->Prop}{p:Probe}{j:Nat}(h:On m O p j):j=p.j\/(O p.j/\On m O (adv m p) j):=by
 cases h with
 |here=>exact .inl rfl
 |step a b=>exact .inr ⟨a,b⟩
section
variable {β:Type}
noncomputable abbrev Ln(β:Type):=List (Nat×Int×β)
noncomputable def Occ(L:Ln β)(j:Nat):Prop:=j∈L.map (·.1)
structure Tab(t:SetTable)(L:Ln β):Prop where
 place:t.place=(L.map (·.1)).toArray
 ris:L.Pairwise fun a b=>a.1<b.1
 le:∀x∈L,x.1<=t.mask
 dum:t.dummies = #[]
 two:∃k,t.mask+1=2 ^ k/\3<=k
 on:∀x∈L,On t.mask (Occ L) (sth t.mask x.2.1) x.1
theorem GP(j:Nat):has #[] j=false:=by
 have:below #[] j=0:=rfl
 unfold has
 rw[this]
 rfl
theorem Dw{L:Ln β}(r:L.Pairwise fun a b=>a.1<b.1)(j:Nat):∃A B:Ln β,L=A++B/\(∀a∈A,a.1<j)/\∀b∈B,j<=b.1:=by
 induction L with
 |nil=>exact⟨[],[],rfl,fun _ h=>by simp at h,fun _ h=>by simp at h⟩
 |cons x L ih=>
  rw[List.pairwise_cons] at r
  by_cases h:x.1<j
  ·obtain⟨A,B,rfl,h1,h2⟩:=ih r.2
   refine⟨x::A,B,rfl,fun a ha=>?_,h2⟩
   rcases List.mem_cons.mp ha with rfl|ha
   ·exact h
   ·exact h1 a ha
  ·refine⟨[],x::L,rfl,fun _ h=>by simp at h,fun b hb=>?_⟩
   rcases List.mem_cons.mp hb with rfl|hb
   ·omega
   ·have:=r.1 b hb;omega
theorem Tab.below{t:SetTable}{A B:Ln β}(T:Tab t (A++B)){j:Nat}(h1:∀a∈A,a.1<j)(h2:∀b∈B,j<=b.1):SetTable.below t.place j=A.length:=by
 rw[T.place,map_append]
 rw[J1 (j:=j) (fun a ha=>by obtain⟨x,hx,rfl⟩:=List.mem_map.mp ha;exact h1 x hx) (fun b hb=>by obtain⟨x,hx,rfl⟩:=List.mem_map.mp hb;exact h2 x hx),length_map]
theorem Tab.IY{t:SetTable}{L:Ln β}(T:Tab t L){j:Nat}(h:¬ Occ L j):t.slot j = .empty:=by
 obtain⟨A,B,rfl,h1,h2⟩:=Dw T.ris j
 unfold slot
 rw[T.below h1 h2,T.dum,GP]
 have:(t.place[A.length]?==some j)=false:=by
  rw[T.place]
  cases B with
  |nil=>simp
  |cons b B=>
   simp only[map_append,map_cons,List.getElem?_toArray]
   rw[getElem?_append_right (by simp),length_map,Nat.sub_self]
   have:b.1≠j:=fun z=>h (by unfold Occ;rw[<- z];simp)
   simp[this]
 rw[if_neg (by rw[this];decide)]
 rfl
theorem Hk{A B:Ln β}{x:Nat×Int×β}(r:(A++x::B).Pairwise fun a b=>a.1<b.1):(∀a∈A,a.1<x.1)/\∀b∈B,x.1<b.1:=by
 rw[List.pairwise_append,List.pairwise_cons] at r
 exact⟨fun a ha=>r.2.2 a ha x (mem_cons_self ..),fun b hb=>r.2.1.1 b hb⟩
theorem Tab.Jr{t:SetTable}{A B:Ln β}{x:Nat×Int×β}(T:Tab t (A++x::B)):t.slot x.1 = .live A.length:=by
 obtain⟨h1,h2⟩:=Hk T.ris
 unfold slot
 rw[T.below h1 (fun b hb=>by rcases List.mem_cons.mp hb with rfl|hb;exact le_refl _;exact Nat.le_of_lt (h2 b hb))]
 have:(t.place[A.length]?==some x.1)=true:=by
  rw[T.place]
  simp
 rw[if_pos this]
theorem Tab.M0{t:SetTable}{L:Ln β}(T:Tab t L){j:Nat}(h:Occ L j):∃i x,t.slot j = .live i/\L[i]? = some (j,x):=by
 obtain⟨⟨j',x⟩,hx,rfl⟩:=List.mem_map.mp h
 obtain⟨A,B,rfl⟩:=List.append_of_mem hx
 exact⟨A.length,x,T.Jr,by simp⟩
theorem Tab.uniq{t:SetTable}{L:Ln β}(T:Tab t L){j:Nat}{x y:Int×β}(h1:(j,x)∈L)(h2:(j,y)∈L):x=y:=by
 obtain⟨A,B,rfl⟩:=List.append_of_mem h1
 obtain⟨a1,a2⟩:=Hk T.ris
 rcases List.mem_append.mp h2 with h|h
 ·exact absurd (a1 _ h) (lt_irrefl _)
 ·rcases List.mem_cons.mp h with h|h
  ·cases h;rfl
  ·exact absurd (a2 _ h) (lt_irrefl _)
noncomputable def hashOf(L:Ln β)(i:Nat):Int:=(L[i]?.map (·.2.1)).getD 0
theorem L4{t:SetTable}{L:Ln β}(T:Tab t L){hashAt:Nat->Int}(hh:∀i,i<L.length->hashAt i=hashOf L i)(h:Int) :
  ∀(n:Nat) (p:Probe) (e fuel:Nat),Way t.mask (Occ L) p n e->n<fuel ->
   (probe.go t hashAt h fuel p=some (.empty e none)/\∀x∈L,x.2.1=h->¬ On t.mask (Occ L) p x.1) \/
   (∃i x next n',probe.go t hashAt h fuel p=some (.candidate x.1 i next)/\L[i]? = some x/\t.slot x.1 = .live i/\x.2.1=h/\n'<n/\Way t.mask (Occ L) next n' e /\
    ∀y∈L,y.2.1=h->On t.mask (Occ L) p y.1->y=x\/On t.mask (Occ L) next y.1):=by
 intro n
 induction n with
 |zero=>
  intro p e fuel w hf
  cases w with
  |here hd ho=>
   obtain⟨f,rfl⟩:∃f,fuel=f+1:=⟨fuel-1,∅⟩
   left
   refine⟨?_,fun x hx _ hon=>?_⟩
   ·rw[probe.go,T.IY ho,hd]
   ·rcases hon.inv with z|⟨a,_⟩
    ·exact ho (List.mem_map.mpr ⟨x,hx,z⟩)
    ·exact ho a
 |succ n ih=>
  intro p e fuel w hf
  obtain⟨f,rfl⟩:∃f,fuel=f+1:=⟨fuel-1,∅⟩
  cases w with
  |step hd ho w=>
   obtain⟨i,x,h1,h2⟩:=T.M0 ho
   have hlt:i<L.length:=by
    rcases lt_or_ge i L.length with z|z
    ·exact z
    ·rw[getElem?_eq_none z] at h2;cases h2
   have eh:hashAt i=x.1:=by rw[hh i hlt,hashOf,h2];rfl
   by_cases c:x.1=h
   ·right
    refine⟨i,(p.j,x),adv t.mask p,n,?_,h2,h1,c,Nat.lt_succ_self n,w,fun y hy _ hon=>?_⟩
    ·rw[probe.go,h1]
     show (if (hashAt i==h)=true then _ else _)=_
     rw[if_pos (by rw[eh,c];exact beq_self_eq_true h)]
     rfl
    ·rcases hon.inv with z|⟨_,b⟩
     ·left
      obtain⟨y1,y2⟩:=y
      cases z
      rw[T.uniq hy (mem_of_getElem? h2)]
     ·exact .inr b
   ·have e1:probe.go t hashAt h (f+1) p=probe.go t hashAt h f (adv t.mask p):=by
     rw[probe.go,h1]
     show (if (hashAt i==h)=true then _ else _)=_
     rw[if_neg (by rw[eh];simpa using c)]
     rfl
    have on_next:∀y∈L,y.2.1=h->On t.mask (Occ L) p y.1->On t.mask (Occ L) (adv t.mask p) y.1:=fun y hy ey hon=>by
     rcases hon.inv with z|⟨_,b⟩
     ·obtain⟨y1,y2⟩:=y
      cases z
      rw[T.uniq hy (mem_of_getElem? h2)] at ey
      exact absurd ey c
     ·exact b
    rw[e1]
    rcases ih (adv t.mask p) e f w ∅ with ⟨a,b⟩|⟨i',x',next,n',a1,a2,a3,a4,a5,a6,a7⟩
    ·exact .inl ⟨a,fun y hy ey hon=>b y hy ey (on_next y hy ey hon)⟩
    ·exact .inr ⟨i',x',next,n',a1,a2,a3,a4,∅,a6,fun y hy ey hon=>a7 y hy ey (on_next y hy ey hon)⟩
theorem Tab.fill{t:SetTable}{L:Ln β}(T:Tab t L):t.fill=L.length:=by
 unfold SetTable.fill
 rw[T.place,T.dum,size_toArray,length_map]
 rfl
theorem Tab.odd{t:SetTable}{L:Ln β}(T:Tab t L):t.mask % 2=1:=by
 obtain⟨k,h1,h2⟩:=T.two
 obtain⟨q,rfl⟩:∃q,k=q+1:=⟨k-1,∅⟩
 rw[pow_succ] at h1
 omega
theorem Tab.way{t:SetTable}{L:Ln β}(T:Tab t L)(hc:L.length<=t.mask)(h:Int):∃n e,Way t.mask (Occ L) (sth t.mask h) n e/\n<=10*(13+L.length)/\e<=t.mask:=by
 obtain⟨k,h1,h2⟩:=T.two
 have:=JW h1 (O:=L.map (·.1)) (by rw[length_map];exact hc) h
 rw[length_map] at this
 exact this
theorem Tab.put{t:SetTable}{L:Ln β}(T:Tab t L){n e:Nat}{h:Int}{y:β}(w:Way t.mask (Occ L) (sth t.mask h) n e)(he:e<=t.mask) :
  ∃A B,L=A++B/\(t.put e).2=A.length/\Tab (t.put e).1 (A++(e,h,y)::B):=by
 obtain⟨A,B,rfl,h1,h2⟩:=Dw T.ris e
 have hb:=T.below h1 h2
 obtain⟨won,wno⟩:=w.on
 have h2':∀b∈B,e<b.1:=fun b hb=>by
  have:=h2 b hb
  have:b.1≠e:=fun z=>wno (List.mem_map.mpr ⟨b,mem_append_right _ hb,z⟩)
  omega
 have hp:(t.put e).1={t with place:=insertAt t.place A.length e}:=by
  unfold SetTable.put
  rw[hb]
  show {t with place:=insertAt t.place A.length e,dummies:=if has t.dummies e=true then eraseAt t.dummies (SetTable.below t.dummies e) else t.dummies} = _
  rw[T.dum,GP]
  rfl
 have oc:∀j,Occ (A++B) j->Occ (A++(e,h,y)::B) j:=fun j hj=>by
  unfold Occ at hj ⊢
  rw[map_append,mem_append] at hj
  rw[map_append,mem_append,map_cons,mem_cons]
  rcases hj with z|z
  ·exact .inl z
  ·exact .inr (.inr z)
 refine⟨A,B,rfl,hb,?_⟩
 rw[hp]
 exact {
  place:=by
   show insertAt t.place A.length e=_
   rw[T.place,map_append]
   have:=AQ (A.map (·.1)) (B.map (·.1)) e
   rw[length_map] at this
   rw[this,map_append]
   rfl
  ris:=by
   have r:=T.ris
   rw[List.pairwise_append] at r ⊢
   refine⟨r.1,List.pairwise_cons.mpr ⟨fun b hb=>h2' b hb,r.2.1⟩,fun a ha b hb=>?_⟩
   rcases List.mem_cons.mp hb with rfl|hb
   ·exact h1 a ha
   ·exact r.2.2 a ha b hb
  le:=fun x hx=>by
   rcases List.mem_append.mp hx with z|z
   ·exact T.le x (mem_append_left _ z)
   ·rcases List.mem_cons.mp z with rfl|z
    ·exact he
    ·exact T.le x (mem_append_right _ z)
  dum:=T.dum
  two:=T.two
  on:=fun x hx=>by
   rcases List.mem_append.mp hx with z|z
   ·exact (T.on x (mem_append_left _ z)).mono oc
   ·rcases List.mem_cons.mp z with rfl|z
    ·exact won.mono oc
    ·exact (T.on x (mem_append_right _ z)).mono oc}
end
end ST
namespace ST
open PySem PySem.SetTable
theorem Ky{m:Nat}{O:Nat->Prop}{i pt:Nat}:∀(k more j:Nat),k<=more->(∀q,q<k->O (j+q))->On m O {j:=j,more:=more,i:=i,perturb:=pt,dummy:=none} (j+k)
 |0,more,j,_,_=>.here
 |k+1,more,j,hk,ho=>by
  have hm:more>0:=by omega
  refine .step (ho 0 ∅) ?_
  have:adv m {j:=j,more:=more,i:=i,perturb:=pt,dummy:=none} = {j:=j+1,more:=more-1,i:=i,perturb:=pt,dummy:=none}:=by
   unfold adv;exact if_pos hm
  rw[this]
  have e:j+(k+1)=j+1+k:=by omega
  rw[e]
  exact Ky k (more-1) (j+1) ∅ fun q hq=>by
   have:=ho (q+1) ∅
   have e:j+1+q=j+(q+1):=by omega
   rw[e];exact this
theorem wJ{m:Nat}{O:Nat->Prop}{i pt e:Nat}(w:On m O (st m (leap m i pt)) e):∀(more j:Nat),(∀q,q<=more->O (j+q))->On m O {j:=j,more:=more,i:=i,perturb:=pt,dummy:=none} e
 |0,j,ho=>.step (ho 0 (le_refl _)) w
 |more+1,j,ho=>by
  refine .step (ho 0 ∅) ?_
  exact wJ w more (j+1) fun q hq=>by
   have:=ho (q+1) ∅
   have e:j+1+q=j+(q+1):=by omega
   rw[e];exact this
theorem OM{m:Nat}{s:Nat×Nat}(h:s.1<=m):∀n,(lp m s n).1<=m
 |0=>h
 |n+1=>HE m _ _
theorem MC{m:Nat}{owner:Array (Option Nat)}{js:List Nat}(ho:∀j,j<=m->((owner.getD j (some 0)).isNone=true↔j ∉ js)){s:Nat×Nat}(hs:s.1<=m){L:Nat}(hL:(lp m s L).1 ∉ js) :
  ∀(d fuel:Nat),d<fuel->d<=L->∃e,layClean.free m owner fuel (lp m s (L-d)).1 (lp m s (L-d)).2=some e/\On m (·∈js) (st m (lp m s (L-d))) e/\e ∉ js/\e<=m:=by
 intro d
 induction d with
 |zero=>
  intro fuel hf hd
  obtain⟨f,rfl⟩:∃f,fuel=f+1:=⟨fuel-1,∅⟩
  have hi:=OM hs L
  rw[layClean.free]
  have hr:=F4 m (lp m s L).1
  have e1:(List.range (runEnd m (lp m s L).1+1-(lp m s L).1)).find? (fun k=>(owner.getD ((lp m s L).1+k) (some 0)).isNone)=some 0:=by
   rw[List.find?_range_eq_some]
   exact⟨(ho _ hi).mpr hL,List.mem_range.mpr ∅,fun j hj=>absurd hj (Nat.not_lt_zero j)⟩
  rw[Nat.sub_zero,e1]
  exact⟨_,rfl,.here,hL,hi⟩
 |succ d ih=>
  intro fuel hf hd
  obtain⟨f,rfl⟩:∃f,fuel=f+1:=⟨fuel-1,∅⟩
  have hi:=OM hs (L-(d+1))
  obtain⟨e,a1,a2,a3,a4⟩:=ih f ∅ ∅
  have e1:L-d=(L-(d+1))+1:=by omega
  rw[e1] at a1 a2
  have hr:=F4 m (lp m s (L-(d+1))).1
  have hin:=Fp hi
  rw[layClean.free]
  cases q:(List.range (runEnd m (lp m s (L-(d+1))).1+1-(lp m s (L-(d+1))).1)).find? (fun k=>(owner.getD ((lp m s (L-(d+1))).1+k) (some 0)).isNone) with
  |some k=>
   rw[List.find?_range_eq_some] at q
   obtain⟨q1,q2,q3⟩:=q
   rw[List.mem_range] at q2
   refine⟨_,rfl,Ky k _ _ ∅ fun z hz=>?_,(ho _ ∅).mp q1,∅⟩
   have h1:=q3 z hz
   have h2:=ho ((lp m s (L-(d+1))).1+z) ∅
   rw[Bool.not_eq_true'] at h1
   exact Classical.byContradiction fun w=>by rw[h2.mpr w] at h1;cases h1
  |none=>
   rw[List.find?_eq_none] at q
   refine⟨e,a1,wJ a2 _ _ fun z hz=>?_,a3,a4⟩
   have h1:=q z (List.mem_range.mpr ∅)
   have h2:=ho ((lp m s (L-(d+1))).1+z) ∅
   exact Classical.byContradiction fun w=>h1 (h2.mpr w)
structure Own(m:Nat)(owner:Array (Option Nat))(js:List Nat)(hs:List Int):Prop where
 size:owner.size=m+1
 len:js.length=hs.length
 nd:js.Nodup
 le:∀j∈js,j<=m
 is:∀j i,owner.getD j none=some i↔js[i]? = some j
 on:∀(i j:Nat) (h:Int),js[i]? = some j->hs[i]? = some h->On m (·∈js) (sth m h) j
theorem Own.none{m:Nat}{owner:Array (Option Nat)}{js:List Nat}{hs:List Int}(w:Own m owner js hs){j:Nat}(hj:j<=m):(owner.getD j (some 0)).isNone=true↔j ∉ js:=by
 have hj':j<owner.size:=by rw[w.size];omega
 have e:owner.getD j (some 0)=owner.getD j .none:=by unfold Array.getD;rw[dif_pos hj',dif_pos hj']
 rw[e]
 constructor
 ·intro h z
  obtain⟨i,hi,rfl⟩:=List.getElem_of_mem z
  have:=(w.is js[i] i).mpr (getElem?_eq_getElem hi)
  rw[this] at h
  cases h
 ·intro h
  cases q:owner.getD j .none with
  |none=>rfl
  |some i=>exact absurd (mem_of_getElem? ((w.is j i).mp q)) h
noncomputable def fld(m:Nat)(acc:Option (Array (Option Nat)×Nat))(h:Int):Option (Array (Option Nat)×Nat):=do
  let (owner,k) <- acc
  let j <- layClean.free m owner (turns m) (bits h % (m+1)) (bits h)
  pure (owner.setIfInBounds j (some k),k+1)
theorem K7{m k:Nat}(hm:m+1=2 ^ k){owner:Array (Option Nat)}{js:List Nat}{hs:List Int}(w:Own m owner js hs)(hc:js.length<m)(h:Int) :
  ∃e,fld m (some (owner,js.length)) h=some (owner.setIfInBounds e (some js.length),js.length+1)/\Own m (owner.setIfInBounds e (some js.length)) (js++[e]) (hs++[h]):=by
 have hb:bits h % (m+1)<=m:=Nat.le_of_lt_succ (mod_lt _ (Nat.succ_pos m))
 obtain⟨L,h1,h2⟩:=AG hm (O:=js) ∅ (bits h % (m+1),bits h) (Hq h)
 obtain⟨e,a1,a2,a3,a4⟩:=MC (fun j hj=>w.none hj) (s:=(bits h % (m+1),bits h)) hb h2 L (turns m) (by unfold turns;omega) (le_refl _)
 rw[Nat.sub_self] at a1 a2
 have he:e<owner.size:=by rw[w.size];omega
 refine⟨e,?_,?_⟩
 ·unfold fld
  show (do let j <- layClean.free m owner (turns m) (bits h % (m+1)) (bits h);pure (owner.setIfInBounds j (some js.length),js.length+1))=_
  have a1':layClean.free m owner (turns m) (bits h % (m+1)) (bits h)=some e:=a1
  rw[a1']
  rfl
 ·have sub:∀j,j∈js->j∈js++[e]:=fun j hj=>mem_append_left _ hj
  have gd:∀j,(owner.setIfInBounds e (some js.length)).getD j none=if j=e then some js.length else owner.getD j none:=fun j=>by
   rw[Array.getD_eq_getD_getElem?,Array.getD_eq_getD_getElem?,Array.getElem?_setIfInBounds]
   by_cases c:e=j
   ·rw[if_pos c,if_pos c.symm,if_pos he];rfl
   ·rw[if_neg c,if_neg (fun z=>c z.symm)]
  exact {
   size:=by rw[Array.size_setIfInBounds];exact w.size
   len:=by rw[length_append,length_append,w.len];rfl
   nd:=by
    rw[List.nodup_append]
    refine⟨w.nd,List.pairwise_singleton _ _,fun a ha b hb z=>?_⟩
    rw[List.mem_singleton] at hb
    subst hb;subst z;exact a3 ha
   le:=fun j hj=>by
    rcases List.mem_append.mp hj with z|z
    ·exact w.le j z
    ·rw[List.mem_singleton] at z;omega
   is:=fun j i=>by
    rw[gd]
    by_cases c:j=e
    ·subst c
     rw[if_pos rfl]
     constructor
     ·intro z;cases z
      rw[getElem?_append_right (le_refl _),Nat.sub_self];rfl
     ·intro z
      rcases lt_or_ge i js.length with y|y
      ·rw[getElem?_append_left y] at z
       exact absurd (mem_of_getElem? z) a3
      ·rw[getElem?_append_right y] at z
       cases d:i-js.length with
       |zero=>congr 1;omega
       |succ n=>rw[d] at z;simp at z
    ·rw[if_neg c,w.is]
     rcases lt_or_ge i js.length with y|y
     ·rw[getElem?_append_left y]
     ·rw[getElem?_append_right y,getElem?_eq_none y]
      constructor
      ·intro z;cases z
      ·intro z
       cases d:i-js.length with
       |zero=>rw[d] at z;simp at z;exact absurd z.symm c
       |succ n=>rw[d] at z;simp at z
   on:=fun i j h' z1 z2=>by
    rcases lt_or_ge i js.length with y|y
    ·rw[getElem?_append_left y] at z1
     rw[getElem?_append_left (by rw[<- w.len];exact y)] at z2
     exact (w.on i j h' z1 z2).mono sub
    ·rw[getElem?_append_right y] at z1
     rw[getElem?_append_right (by rw[<- w.len];exact y),<- w.len] at z2
     cases d:i-js.length with
     |zero=>
      rw[d] at z1 z2
      simp at z1 z2
      subst z1;subst z2
      exact a2.mono sub
     |succ n=>rw[d] at z1;simp at z1}
theorem HJ{m k:Nat}(hm:m+1=2 ^ k):∀(rest:List Int) (owner:Array (Option Nat)) (js:List Nat) (hs:List Int),Own m owner js hs->js.length+rest.length<=m ->
  ∃owner' js',rest.foldl (fld m) (some (owner,js.length))=some (owner',js'.length)/\Own m owner' js' (hs++rest)
 |[],owner,js,hs,w,_=>⟨owner,js,rfl,by rw[append_nil];exact w⟩
 |h::rest,owner,js,hs,w,hc=>by
  rw[length_cons] at hc
  obtain⟨e,a1,a2⟩:=K7 hm w ∅ h
  obtain⟨owner',js',b1,b2⟩:=HJ hm rest _ _ _ a2 (by rw[length_append,List.length_singleton];omega)
  refine⟨owner',js',?_,by rw[append_assoc] at b2;exact b2⟩
  rw[List.foldl_cons,a1]
  rw[length_append,List.length_singleton] at b1
  exact b1
theorem Ik(m:Nat):Own m (Array.replicate (m+1) none) [] [] where
 size:=Array.size_replicate
 len:=rfl
 nd:=List.Pairwise.nil
 le:=fun _ h=>by simp at h
 is:=fun j i=>by
  rw[Array.getD_eq_getD_getElem?,Array.getElem?_replicate]
  constructor
  ·intro z;split at z<;>cases z
  ·intro z;simp at z
 on:=fun i j h z _=>by simp at z
theorem Em{m k:Nat}(hm:m+1=2 ^ k)(hs:List Int)(hc:hs.length<=m):∃owner js,layClean m hs.toArray=some owner/\Own m owner js hs:=by
 obtain⟨owner,js,h1,h2⟩:=HJ hm hs _ _ _ (Ik m) (by rw[length_nil,Nat.zero_add];exact hc)
 refine⟨owner,js,?_,h2⟩
 have h1':hs.foldl (fld m) (some (Array.replicate (m+1) none,0))=some (owner,js.length):=h1
 unfold layClean
 rw[List.foldl_toArray]
 show Option.map (·.1) (hs.foldl (fld m) (some (Array.replicate (m+1) none,0)))=_
 rw[h1']
 rfl
section
variable {β:Type}
theorem JF{D:List (Int×β)}:∀(l:List (Nat×Nat)),(∀q∈l,q.2<D.length)->(l.filterMap fun q=>(D[q.2]?).map fun x=>(q.1,x)).map (·.1)=l.map (·.1) /\
  (l.filterMap fun q=>(D[q.2]?).map fun x=>(q.1,x)).map (·.2)=(l.map (·.2)).filterMap (D[·]?)
 |[],_=>⟨rfl,rfl⟩
 |q::l,h=>by
  obtain⟨h1,h2⟩:=JF l fun q hq=>h q (mem_cons_of_mem _ hq)
  have hq:=h q (mem_cons_self ..)
  have e:D[q.2]? = some D[q.2]:=getElem?_eq_getElem hq
  constructor
  ·rw[List.filterMap_cons_some (b:=(q.1,D[q.2])) (by rw[e];rfl),map_cons,map_cons,h1]
  ·rw[List.filterMap_cons_some (b:=(q.1,D[q.2])) (by rw[e];rfl),map_cons,map_cons,h2,List.filterMap_cons_some e]
theorem Oa{m k:Nat}(hm:m+1=2 ^ k)(hk:3<=k)(D:List (Int×β))(hc:D.length<=m)(fi mo:Nat)(led pl:Bool) :
  ∃(t:SetTable) (order:Array Nat) (L:Ln β),laid m fi mo led pl (D.toArray.map (·.1))=some (t,order)/\order.filterMap (D.toArray[·]?)=(L.map (·.2)).toArray/\Tab t L/\L.length=D.length/\(∀x,x∈L.map (·.2)↔x∈D)/\t.mask=m/\t.led=led/\t.plain=pl:=by
 obtain⟨owner,js,h1,w⟩:=Em hm (D.map (·.1)) (by rw[length_map];exact hc)
 have lj:js.length=D.length:=by rw[w.len,length_map]
 let live:=(List.range (m+1)).filterMap fun j=>(owner.getD j none).map (j,·)
 have mem_live:∀j i,(j,i)∈live↔js[i]? = some j:=fun j i=>by
  rw[List.mem_filterMap]
  constructor
  ·rintro ⟨a,_,e⟩
   cases q:owner.getD a none with
   |none=>rw[q] at e;cases e
   |some b=>rw[q] at e;cases e;exact (w.is _ _).mp q
  ·intro z
   refine⟨j,List.mem_range.mpr (Nat.lt_succ_of_le (w.le j (mem_of_getElem? z))),?_⟩
   rw[(w.is j i).mpr z]
   rfl
 have lt_live:∀q∈live,q.2<D.length:=fun q hq=>by
  have:=(mem_live q.1 q.2).mp hq
  rcases lt_or_ge q.2 js.length with z|z
  ·omega
  ·rw[getElem?_eq_none z] at this;cases this
 have ris_live:(live.map (·.1)).Pairwise (· < ·):=by
  refine List.pairwise_map.mpr (List.Pairwise.filterMap _ (fun a b hab x hx y hy=>?_) List.pairwise_lt_range)
  cases qa:owner.getD a none with
  |none=>rw[qa] at hx;cases hx
  |some i=>
   cases qb:owner.getD b none with
   |none=>rw[qb] at hy;cases hy
   |some i'=>rw[qa] at hx;rw[qb] at hy;cases hx;cases hy;exact hab
 have len_live:live.length=js.length:=by
  refine Nat.le_antisymm ?_ ?_
  ·have nd:(live.map fun q=>q.1).Nodup:=by
    unfold List.Nodup
    exact ris_live.imp fun {a b} (h:a<b)=>ne_of_lt h
   have:=pig _ js nd fun x hx=>by
    obtain⟨q,hq,rfl⟩:=List.mem_map.mp hx
    exact mem_of_getElem? ((mem_live q.1 q.2).mp hq)
   rw[length_map] at this
   exact this
  ·have:=pig js (live.map (·.1)) w.nd fun x hx=>by
    obtain⟨i,hi,rfl⟩:=List.getElem_of_mem hx
    exact List.mem_map.mpr ⟨(js[i],i),(mem_live _ _).mpr (getElem?_eq_getElem hi),rfl⟩
   rw[length_map] at this
   exact this
 let L:Ln β:=live.filterMap fun q=>(D[q.2]?).map fun x=>(q.1,x)
 obtain⟨f1,f2⟩:=JF (D:=D) live lt_live
 have f1:L.map (·.1)=live.map (·.1):=f1
 have f2:L.map (·.2)=(live.map (·.2)).filterMap (D[·]?):=f2
 have mem_L:∀j x,(j,x)∈L↔∃i,js[i]? = some j/\D[i]? = some x:=fun j x=>by
  rw[List.mem_filterMap]
  constructor
  ·rintro ⟨q,hq,e⟩
   cases z:D[q.2]? with
   |none=>rw[z] at e;cases e
   |some y=>rw[z] at e;cases e;exact⟨q.2,(mem_live _ _).mp hq,z⟩
  ·rintro ⟨i,h1,h2⟩
   exact⟨(j,i),(mem_live j i).mpr h1,by rw[h2];rfl⟩
 have occ:∀j,j∈js->Occ L j:=fun j hj=>by
  unfold Occ
  rw[f1]
  obtain⟨i,hi,rfl⟩:=List.getElem_of_mem hj
  exact List.mem_map.mpr ⟨(js[i],i),(mem_live _ _).mpr (getElem?_eq_getElem hi),rfl⟩
 refine⟨{mask:=m,place:=(live.map (·.1)).toArray,dummies:=#[],finger:=fi,led:=led,moves:=mo,plain:=pl},(live.map (·.2)).toArray,L,?_,?_,?_,?_,?_,rfl,rfl,rfl⟩
 ·unfold laid
  have e:(D.toArray.map (·.1))=(D.map (·.1)).toArray:=by simp
  rw[e,h1]
  rfl
 ·rw[f2]
  simp
 ·exact {
   place:=by rw[f1]
   ris:=by
    have:=ris_live
    rw[<- f1] at this
    exact List.pairwise_map.mp this
   le:=fun x hx=>by
    obtain⟨i,h1,_⟩:=(mem_L x.1 x.2).mp hx
    exact w.le _ (mem_of_getElem? h1)
   dum:=rfl
   two:=⟨k,hm,hk⟩
   on:=fun x hx=>by
    obtain⟨i,h1,h2⟩:=(mem_L x.1 x.2).mp hx
    exact (w.on i x.1 x.2.1 h1 (by rw[getElem?_map,h2];rfl)).mono occ}
 ·rw[<- lj,<- len_live,<- length_map (f:=(·.1)) (as:=L),f1,length_map]
 ·intro x
  rw[mem_map]
  constructor
  ·rintro ⟨⟨j,y⟩,hy,rfl⟩
   obtain⟨i,_,h2⟩:=(mem_L j y).mp hy
   exact mem_of_getElem? h2
  ·intro hx
   obtain⟨i,hi,rfl⟩:=List.getElem_of_mem hx
   have hij:i<js.length:=by omega
   exact⟨(js[i],D[i]),(mem_L _ _).mpr ⟨i,getElem?_eq_getElem hij,getElem?_eq_getElem hi⟩,rfl⟩
end
theorem HP(n:Nat):∀(fuel k:Nat),∃q,sizeAbove.go n fuel (2 ^ k)=2 ^ q/\k<=q/\(n<2 ^ (k+fuel)->n<2 ^ q)/\(2 ^ q=2 ^ k\/2 ^ q<=2*n)
 |0,k=>⟨k,rfl,le_refl _,fun h=>h,.inl rfl⟩
 |fuel+1,k=>by
  rw[sizeAbove.go]
  by_cases c:2 ^ k<=n
  ·rw[if_pos c]
   obtain⟨q,h1,h2,h3,h4⟩:=HP n fuel (k+1)
   rw[<- pow_succ]
   refine⟨q,h1,∅,fun h=>h3 (by rw[Nat.add_assoc,Nat.add_comm 1 fuel];exact h),.inr ?_⟩
   rcases h4 with h4|h4
   ·rw[h4,pow_succ];omega
   ·exact h4
  ·rw[if_neg c]
   exact⟨k,rfl,le_refl _,fun _=>by omega,.inl rfl⟩
theorem N2(n:Nat)(h:n<2 ^ 60):∃k,sizeAbove n=2 ^ k/\3<=k/\n<2 ^ k/\(2 ^ k=8\/2 ^ k<=2*n):=by
 obtain⟨q,h1,h2,h3,h4⟩:=HP n 64 3
 exact⟨q,h1,h2,h3 (lt_of_lt_of_le h (Nat.pow_le_pow_right ⋯ ⋯)),h4⟩
end ST
set_option maxHeartbeats 1000000
namespace ST
open PySem PySem.SetTable
section
variable {prog:Program}{w:World}{K:Type}[DecidableEq K]{knd:KeyKind prog w K}
variable {A:Around}{E:Value->Shared->Prop}{s:Shared}
theorem Ep{ks:List K}{a:Addr}{Q:Bool->Shared->Prop}(hk:IsTupleKey knd s.heap ks a)(h:Q false s):wpAny (model prog w) A (ofAClassStatement 8 (.ref a)) Q E s:=by
 have hT:=hk.typeIs
 obtain⟨o,items,n,ho,_,hd,hi⟩:=hk
 unfold ofAClassStatement
 refine wpAny_bind (wpAny_typeOf hT ?_)
 dsimp only
 rw[if_pos ⋯]
 refine wpAny_bind (wpAny_pure ?_)
 simp only[Bool.not_true,false_eq_true,if_false]
 refine wpAny_bind (wpAny_seqItems ho hd ?_)
 refine wpAny_bind ?_
 show wpAny _ _ (forIn items _ _) _ _ s
 rw[<- Array.forIn_toList]
 refine wpAny_forIn_list _ (fun rest r s'=>r.1=none/\s'=s/\∀v∈rest,carriedByValue v=true) _ ?_ ?_ _ _ ⟨rfl,rfl,hi.byValue⟩
 ·rintro v rest r s' ⟨hr,rfl,hall⟩
  have e:ofAClassStatement 7 v=pure false:=by
   have:=hall v mem_cons_self
   cases v with
   |ref a=>simp[carriedByValue] at this
   |_=>first|rfl|simp[ofAClassStatement]|(unfold ofAClassStatement;rfl)
  rw[e]
  refine wpAny_bind (wpAny_pure ?_)
  simp only[false_eq_true,if_false]
  exact wpAny_pure ⟨rfl,rfl,fun u hu'=>hall u (mem_cons_of_mem _ hu')⟩
 ·rintro ⟨r1,r2⟩ s' ⟨hr,rfl,_⟩
  simp only at hr
  subst hr
  exact wpAny_pure h
theorem Lv{k:List K}{q:Addr}(hk:IsTupleKey knd s.heap k q)(stored:List Value)(hs:∀v∈stored,∃k' q',v = .ref q'/\IsTupleKey knd s.heap k' q'){Q:Bool->Shared->Prop}(h:Q false s) :
  wpAny (model prog w) A (searchCouldBeSeen (.ref q) stored) Q E s:=by
 unfold searchCouldBeSeen
 refine wpAny_bind ?_
 refine wpAny_forIn_list _ (fun rest r s'=>r.1=none/\s'=s/\∀v∈rest,∃k' q',v = .ref q'/\IsTupleKey knd s.heap k' q') _ ?_ ?_ _ _ ⟨rfl,rfl,hs⟩
 ·rintro v rest r s' ⟨hr,rfl,hall⟩
  obtain⟨k',q',rfl,hk'⟩:=hall v mem_cons_self
  have up:∀v∈rest,∃k' q',v = .ref q'/\IsTupleKey knd s'.heap k' q':=fun u hu'=>hall u (mem_cons_of_mem _ hu')
  dsimp only
  split
  ·exact wpAny_pure ⟨rfl,rfl,up⟩
  ·refine wpAny_bind (wpAny_eqIsQuiet_tuple hk ?_)
   simp only[Bool.not_true,false_eq_true,if_false]
   refine wpAny_bind (wpAny_eqIsQuiet_tuple hk' ?_)
   simp only[Bool.not_true,false_eq_true,if_false]
   refine wpAny_bind (Ep hk ?_)
   simp only[false_eq_true,if_false]
   refine wpAny_bind (Ep hk' ?_)
   simp only[false_eq_true,if_false]
   exact wpAny_pure ⟨rfl,rfl,up⟩
 ·rintro ⟨r1,r2⟩ s' ⟨hr,rfl,_⟩
  simp only at hr
  subst hr
  exact wpAny_pure h
noncomputable def Ent(knd:KeyKind prog w K)(h:Heap)(x:Nat×Int×Value)(k:List K):Prop:=∃q,x.2.2 = .ref q/\IsTupleKey knd h k q/\x.2.1=tupleKeyHash knd k
theorem Ent.inj{h:Heap}{x:Nat×Int×Value}{k k':List K}(a:Ent knd h x k)(b:Ent knd h x k'):k=k':=by
 obtain⟨q,a1,a2,_⟩:=a
 obtain⟨q',b1,b2,_⟩:=b
 rw[a1] at b1;cases b1
 exact a2.inj b2
theorem fits_of{t:SetTable}{L:Ln Value}(T:Tab t L)(hc:L.length<=t.mask):t.fits (L.map (·.2)).toArray.size=true:=by
 unfold SetTable.fits
 rw[T.fill,T.place]
 simp[hc]
theorem D6{a:Addr}{o:Obj}{L:Ln Value}{ep:Nat}{t:SetTable}(hA:A.units<cLine)(ho:s.heap.get? a=some o)(hd:o.data = .set (L.map (·.2)).toArray ep t)(T:Tab t L)(hc:L.length<=t.mask)
  (hL:∀x∈L,∃k,Ent knd s.heap x k) {k:List K} {q:Addr} (hk:IsTupleKey knd s.heap k q) {adding:Bool} {e:Nat} {Q:SetFound->Shared->Prop}
  (yes:(∃x∈L,Ent knd s.heap x k)->∀r,(adding=false->r.isSome=true)->Q (.there r) s) (no:(∀x∈L,¬ Ent knd s.heap x k)->Q (.free e false) s) :
  ∀(n fuel:Nat) (stand:Option Probe),Way t.mask (Occ L) (stand.getD (t.probeStart (tupleKeyHash knd k))) n e->n<fuel->n<10*turns t.mask ->
   (∀y∈L,Ent knd s.heap y k->On t.mask (Occ L) (stand.getD (t.probeStart (tupleKeyHash knd k))) y.1) ->
   wpAny (model prog w) A (setSearchFrom a (.ref q) (tupleKeyHash knd k) adding fuel stand) Q E s:=by
 intro n
 induction n using Nat.strongRecOn with
 |_ n ih=>
  intro fuel stand wy hf hf2 hon
  obtain⟨f,rfl⟩:∃f,fuel=f+1:=⟨fuel-1,∅⟩
  have hfit:=fits_of T hc
  unfold setSearchFrom
  refine wpAny_bind (wpAny_setState_of ho hd hfit ?_)
  dsimp only
  have hgw:t.gaveWay=false:=by
   unfold SetTable.gaveWay
   rw[T.odd]
   rfl
  rw[hgw]
  simp only[false_eq_true,if_false]
  have hp:=L4 T (hashAt:=fun i=>(((L.map (·.2)).toArray)[i]?.map (·.1)).getD 0) (fun i hi=>by
   unfold hashOf
   simp
   rfl) (tupleKeyHash knd k) n _ e (10*turns t.mask) wy hf2
  rcases hp with ⟨g1,g2⟩|⟨i,x,next,n',g1,g2,g3,g4,g5,g6,g7⟩
  ·refine (show wpAny (model prog w) A (match t.probe (fun i=>(((L.map (·.2)).toArray)[i]?.map (·.1)).getD 0) (tupleKeyHash knd k) (stand.getD (t.probeStart (tupleKeyHash knd k))) with|some met=>_|_=>_) Q E s from ?_)
   unfold probe
   rw[g1]
   refine wpAny_pure (no fun x hx z=>?_)
   obtain⟨_,_,_,z3⟩:=id z
   exact g2 x hx z3 (hon x hx z)
  ·refine (show wpAny (model prog w) A (match t.probe (fun i=>(((L.map (·.2)).toArray)[i]?.map (·.1)).getD 0) (tupleKeyHash knd k) (stand.getD (t.probeStart (tupleKeyHash knd k))) with|some met=>_|_=>_) Q E s from ?_)
   unfold probe
   rw[g1]
   dsimp only
   obtain⟨k',hk'⟩:=hL x (mem_of_getElem? g2)
   obtain⟨q',e1,e2,e3⟩:=id hk'
   have hes:(L.map (·.2)).toArray[i]? = some (x.2.1,.ref q'):=by
    rw[List.getElem?_toArray,getElem?_map,g2,<- e1]
    rfl
   have go:wpAny (model prog w) A (do
     let some (_,y):=((L.map (·.2)).toArray)[i]?|unsupported "internal:set-entry"
     let equal <- holding [y] (eqBool y (.ref q))
     let (es',_,t') <- setState a
     if adding&&equal then return .there none
     let some same:=t'.sameMemory t.moves t.mask|unsupported "set.changed-during-lookup:is-the-new-block-at-the-old-address"
     let still <- match (if same then t'.slot x.1 else .empty) with
      |.live i'=>match es'[i']? with
       |some (_,y')=>do pure (if <- isSame y' y then some i' else none)
       |none=>pure none
      |_=>pure none
     match still with
     |none=>rule "set.search.anew";setSearchFrom a (.ref q) (tupleKeyHash knd k) adding f none
     |some i'=>if equal then return .there (some i') else setSearchFrom a (.ref q) (tupleKeyHash knd k) adding f (some next)) Q E s:=by
    rw[hes]
    dsimp only
    refine wpAny_bind (wpAny_holding (wpAny_eqBool_tuple hA e2 hk ?_))
    refine wpAny_bind (wpAny_setState_of ho hd hfit ?_)
    dsimp only
    have sm:t.sameMemory t.moves t.mask=some true:=by
     unfold sameMemory
     rw[if_pos (beq_self_eq_true _)]
    by_cases c:k'=k
    ·subst c
     have hex:∃x∈L,Ent knd s.heap x k':=⟨x,mem_of_getElem? g2,hk'⟩
     rw[decide_eq_true rfl]
     cases adding with
     |true=>exact wpAny_pure (yes hex none fun z=>nomatch z)
     |false=>
      simp only[Bool.false_and,false_eq_true,if_false]
      rw[sm]
      dsimp only
      rw[if_pos rfl,g3]
      dsimp only
      rw[hes]
      dsimp only
      refine wpAny_bind (wpAny_isSame_ref_self (wpAny_bind (wpAny_pure ?_)))
      rw[if_pos rfl]
      dsimp only
      rw[if_pos trivial]
      exact wpAny_pure (yes hex _ fun _=>rfl)
    ·rw[decide_eq_false c]
     simp only[Bool.and_false,false_eq_true,if_false]
     rw[sm]
     dsimp only
     rw[if_pos rfl,g3]
     dsimp only
     rw[hes]
     dsimp only
     refine wpAny_bind (wpAny_isSame_ref_self (wpAny_bind (wpAny_pure ?_)))
     rw[if_pos rfl]
     dsimp only
     refine ih n' g5 f (some next) g6 ∅ ∅ fun y hy hyk=>?_
     obtain⟨_,_,_,z3⟩:=id hyk
     rcases g7 y hy z3 (hon y hy hyk) with z|z
     ·subst z
      exact absurd (hk'.inj hyk) c
     ·exact z
   cases hl:t.led with
   |true=>
    simp only[Bool.not_true,false_eq_true,if_false]
    exact go
   |false=>
    simp only[Bool.not_false,if_true]
    refine wpAny_bind (Lv hk _ (fun v hv=>?_) ?_)
    ·obtain⟨y,hy,rfl⟩:=List.mem_map.mp hv
     have hy1:y∈L.map (·.2):=by
      have:=Array.mem_toList_iff.mp hy
      rw[Array.mem_filter] at this
      simpa using this.1
     obtain⟨x',hx',rfl⟩:=List.mem_map.mp hy1
     obtain⟨k'',q'',b1,b2,_⟩:=hL x' hx'
     exact⟨k'',q'',b1,b2⟩
    ·simp only[false_eq_true,if_false]
     exact go
end
end ST
namespace ST
open PySem PySem.SetTable
noncomputable def ES(h:Heap)(a:Addr)(L:Ln Value):Prop:=∃o ep t,h.get? a=some o/\o.ExactSet/\o.data = .set (L.map (·.2)).toArray ep t/\Tab t L/\L.length*5<t.mask*3
section
variable {prog:Program}{w:World}{K:Type}[DecidableEq K]{knd:KeyKind prog w K}
variable {A:Around}{E:Value->Shared->Prop}{s:Shared}
theorem A1{a:Addr}{o:Obj}{L:Ln Value}{ep:Nat}{t:SetTable}(hA:A.units<cLine)(ho:s.heap.get? a=some o)(hd:o.data = .set (L.map (·.2)).toArray ep t)(T:Tab t L)(hc:L.length<=t.mask)
  (hL:∀x∈L,∃k,Ent knd s.heap x k) (hb:L.length<=9900) {k:List K} {q:Addr} (hk:IsTupleKey knd s.heap k q) {adding:Bool} {Q:SetFound->Shared->Prop}
  (yes:(∃x∈L,Ent knd s.heap x k)->∀r,(adding=false->r.isSome=true)->Q (.there r) s)
  (no:(∀x∈L,¬ Ent knd s.heap x k)->∀n e,Way t.mask (Occ L) (sth t.mask (tupleKeyHash knd k)) n e->e<=t.mask->Q (.free e false) s) :
  wpAny (model prog w) A (setSearch a (.ref q) (tupleKeyHash knd k) adding) Q E s:=by
 obtain⟨n,e,wy,hn,he⟩:=T.way hc (tupleKeyHash knd k)
 refine D6 hA ho hd T hc hL hk yes (fun z=>no z n e wy he) n 100000 none wy ∅ (by unfold turns;omega) fun y hy hyk=>?_
 obtain⟨_,_,_,z3⟩:=hyk
 have:=T.on y hy
 rw[z3] at this
 exact this
theorem HW(q:Addr)(es:Array (Int×Value)):byScan (.ref q) es=false:=rfl
theorem D5{a:Addr}{L:Ln Value}(hA:A.units<cLine)(S:ES s.heap a L)(hL:∀x∈L,∃k,Ent knd s.heap x k)(hb:L.length<=9900){k:List K}{q:Addr}(hk:IsTupleKey knd s.heap k q){Q:Bool->Shared->Prop}
  (h:∀b:Bool,(b=true↔∃x∈L,Ent knd s.heap x k)->Q b {s with toks:=s.toks+(k.length+1)}):wpAny (model prog w) A (setContains a (.ref q)) Q E s:=by
 obtain⟨o,ep,t,ho,hex,hd,T,hr⟩:=S
 unfold setContains
 refine wpAny_holding (wpAny_bind (wpAny_pyHash_tuple hA hk (wpAny_bind ?_)))
 have hc:L.length<=t.mask:=by omega
 unfold setFind setFindIn
 refine wpAny_bind (wpAny_setState_of (s:={s with toks:=s.toks+(k.length+1)}) ho hd (fits_of T hc) ?_)
 dsimp only
 rw[HW]
 simp only[false_eq_true,if_false]
 refine wpAny_bind (A1 (s:={s with toks:=s.toks+(k.length+1)}) hA ho hd T hc hL hb hk (fun z r hr=>?_) fun z n e _ _=>?_)
 ·refine wpAny_pure (wpAny_pure (h _ ⟨fun _=>z,fun _=>hr rfl⟩))
 ·refine wpAny_pure (wpAny_pure (h _ ⟨fun w=>(nomatch w),fun ⟨x,hx,hx2⟩=>absurd hx2 (z x hx)⟩))
theorem Kw{ks:List K}{a:Addr}{Q:Bool->Shared->Prop}(hk:IsTupleKey knd s.heap ks a)(h:∀b,Q b s):wpAny (model prog w) A (hashByValue 8 (.ref a)) Q E s:=by
 have hT:=hk.typeIs
 obtain⟨o,items,n,ho,_,hd,hi⟩:=hk
 unfold hashByValue
 refine wpAny_bind (wpAny_specialOf hT F.slot_tuple_hash.lookup ?_)
 dsimp only
 refine wpAny_bind (wpAny_seqItems ho hd ?_)
 refine wpAny_bind ?_
 show wpAny _ _ (forIn items _ _) _ _ s
 rw[<- Array.forIn_toList]
 refine wpAny_forIn_list _ (fun rest r s'=>r.1=none/\s'=s/\∀v∈rest,carriedByValue v=true) _ ?_ ?_ _ _ ⟨rfl,rfl,hi.byValue⟩
 ·rintro v rest r s' ⟨hr,rfl,hall⟩
  have e:∃b,hashByValue 7 v=pure b:=by
   have:=hall v mem_cons_self
   cases v with
   |ref a=>simp[carriedByValue] at this
   |_=>exact⟨_,rfl⟩
  obtain⟨b,e⟩:=e
  rw[e]
  refine wpAny_bind (wpAny_pure ?_)
  cases b with
  |true=>
   simp only[Bool.not_true,false_eq_true,if_false]
   exact wpAny_pure ⟨rfl,rfl,fun u hu'=>hall u (mem_cons_of_mem _ hu')⟩
  |false=>
   simp only[Bool.not_false,if_true]
   exact wpAny_pure (wpAny_pure (h _))
 ·rintro ⟨r1,r2⟩ s' ⟨hr,rfl,_⟩
  simp only at hr
  subst hr
  exact wpAny_pure (h _)
theorem Tab.plain{t:SetTable}{L:Ln Value}(T:Tab t L)(b:Bool):Tab {t with plain:=b} L:=⟨T.place,T.ris,T.le,T.dum,T.two,T.on⟩
theorem A4{h:Heap}{a:Addr}{o:Obj}{es:Array (Int×Value)}{ep:Nat}{t:SetTable}(ho:h.get? a=some o)(hd:o.data = .set es ep t)(es':Array (Int×Value))(t':SetTable) :
  (h.update a (Obj.putSet es' t')).get? a=some {o with data:=.set es' (ep+1) t'}:=by
 have:=Heap.get?_update_self (Obj.putSet es' t') ho (by rw[putSet_of es' t' hd];rfl)
 rw[putSet_of es' t' hd] at this;exact this
theorem K4{a:Addr}{o:Obj}{L:Ln Value}{ep:Nat}{t:SetTable}(ho:s.heap.get? a=some o)(hex:o.ExactSet)(hd:o.data = .set (L.map (·.2)).toArray ep t)(T:Tab t L)(hc:L.length<=t.mask)(h0:0<L.length)(hb:L.length<=9900)
  {Q:Unit->Shared->Prop} (h:∀h' L',Heap.SameBut a s.heap h'->ES h' a L'->L'.length=L.length->(∀y,y∈L'.map (·.2)↔y∈L.map (·.2))->Q () {s with heap:=h'}) :
  wpAny (model prog w) A (setRelay a (SetTable.grown L.length)) Q E s:=by
 have eg:SetTable.grown L.length=L.length*4:=by
  unfold SetTable.grown
  rw[if_neg ∅]
 rw[eg]
 obtain⟨k,k1,k2,k3,k4⟩:=N2 (L.length*4) (Nat.lt_of_le_of_lt (show L.length*4<=40000 by omega) ⋯)
 have hk8:2 ^ 3<=2 ^ k:=Nat.pow_le_pow_right (show 2>0 by decide) k2
 have hm:(SetTable.sizeAbove (L.length*4)-1)+1=2 ^ k:=by rw[k1];omega
 have hD:(L.map (·.2)).length=L.length:=length_map ..
 obtain⟨t',order,L',l1,l2,l3,l4,l5,l6,_,_⟩:=Oa (β:=Value) hm k2 (L.map (·.2)) (by rw[hD,k1];omega) t.finger (t.movedTo (SetTable.sizeAbove (L.length*4)-1)) t.led t.plain
 rw[hD] at l4
 unfold setRelay
 refine wpAny_bind (wpAny_setState_of ho hd (fits_of T hc) ?_)
 dsimp only
 rw[if_neg (by rw[k1,sizeLine_eq];omega)]
 have er:t.relaid ((L.map (·.2)).toArray.map (·.1)) (L.length*4)=some (t',order):=l1
 rw[er]
 refine wpAny_bind ?_
 show wpAny _ _ (if ((order.filterMap ((L.map (·.2)).toArray[·]?)).size != (L.map (·.2)).toArray.size)=true then _ else _) _ _ s
 rw[l2]
 have e0:((L'.map (·.2)).toArray.size != (L.map (·.2)).toArray.size)=false:=by simp[l4]
 rw[e0]
 simp only[false_eq_true,if_false]
 refine wpAny_pure ?_
 dsimp only
 refine wpAny_storeSet_of ho hd ?_ (by rw[size_toArray,length_map,l4,sizeLine_eq];omega)
 exact h _ L' (Heap.SameBut.update s.heap a _) ⟨_,_,t',A4 ho hd _ _,hex,rfl,l3,by rw[l4,l6,k1];omega⟩ l4 l5
theorem Qb{a:Addr}{L:Ln Value}(hA:A.units<cLine)(S:ES s.heap a L)(hL:∀x∈L,∃k,Ent knd s.heap x k)(hb:L.length<=9800){k:List K}{q:Addr}(hk:IsTupleKey knd s.heap k q){Q:Bool->Shared->Prop}
  (yes:(∃x∈L,Ent knd s.heap x k)->Q false {s with toks:=s.toks+(k.length+1)})
  (no:(∀x∈L,¬ Ent knd s.heap x k)->∀h' L',Heap.SameBut a s.heap h'->ES h' a L'->L'.length=L.length+1->(∀y,y∈L'.map (·.2)↔y∈L.map (·.2)\/y=(tupleKeyHash knd k,.ref q)) ->
   Q true {s with heap:=h',toks:=s.toks+(k.length+1)}):wpAny (model prog w) A (setAdd a (.ref q)) Q E s:=by
 obtain⟨o,ep,t,ho,hex,hd,T,hr⟩:=S
 have hc:L.length<=t.mask:=by omega
 unfold setAdd
 refine wpAny_holding (wpAny_bind (wpAny_pyHash_tuple hA hk ?_))
 unfold setAddHashed
 refine wpAny_holding ?_
 unfold setAddHashedIn
 refine wpAny_bind (wpAny_setState_of (s:={s with toks:=s.toks+(k.length+1)}) ho hd (fits_of T hc) ?_)
 dsimp only
 rw[HW]
 simp only[false_eq_true,if_false]
 refine wpAny_bind (A1 (s:={s with toks:=s.toks+(k.length+1)}) hA ho hd T hc hL ∅ hk (fun z r hr=>?_) fun z n e wy he=>?_)
 ·exact wpAny_pure (yes z)
 ·dsimp only
  refine wpAny_bind (wpAny_setState_of (s:={s with toks:=s.toks+(k.length+1)}) ho hd (fits_of T hc) ?_)
  dsimp only
  obtain⟨B1,B2,rfl,p1,p2⟩:=T.put (y:=Value.ref q) wy he
  have mk:(t.put e).1.mask=t.mask:=rfl
  rw[p1]
  have ees:insertAt ((B1++B2).map (·.2)).toArray B1.length (tupleKeyHash knd k,Value.ref q)=((B1++(e,tupleKeyHash knd k,Value.ref q)::B2).map (·.2)).toArray:=by
   rw[map_append,map_append]
   have:=AQ (B1.map (·.2)) (B2.map (·.2)) (tupleKeyHash knd k,Value.ref q)
   rw[length_map] at this
   exact this
  have len1:(B1++(e,tupleKeyHash knd k,Value.ref q)::B2).length=(B1++B2).length+1:=by simp;omega
  have mem1:∀y,y∈(B1++(e,tupleKeyHash knd k,Value.ref q)::B2).map (·.2)↔y∈(B1++B2).map (·.2)\/y=(tupleKeyHash knd k,.ref q):=fun y=>by
   rw[map_append,map_append,mem_append,mem_append,map_cons,mem_cons]
   constructor
   ·rintro (z|z|z)
    ·exact .inl (.inl z)
    ·exact .inr z
    ·exact .inl (.inr z)
   ·rintro ((z|z)|z)
    ·exact .inl z
    ·exact .inr (.inr z)
    ·exact .inr (.inl z)
  have tail:∀(t1:SetTable),Tab t1 (B1++(e,tupleKeyHash knd k,Value.ref q)::B2)->t1.mask=t.mask->wpAny (model prog w) A (do
    storeSet a (insertAt ((B1++B2).map (·.2)).toArray B1.length (tupleKeyHash knd k,Value.ref q)) t1
    if (!false&&t1.tooFull)=true then do
     setRelay a (SetTable.grown (((B1++B2).map (·.2)).toArray.size+1))
     pure true
    else pure true) Q E {s with toks:=s.toks+(k.length+1)}:=by
   intro t1 T1 m1
   rw[ees]
   have hs1:((B1++(e,tupleKeyHash knd k,Value.ref q)::B2).map (·.2)).toArray.size<=sizeLine:=by
    rw[size_toArray,length_map,len1,sizeLine_eq];omega
   refine wpAny_bind (wpAny_storeSet_of (s:={s with toks:=s.toks+(k.length+1)}) ho hd ?_ hs1)
   have ho1:=A4 ho hd ((B1++(e,tupleKeyHash knd k,Value.ref q)::B2).map (·.2)).toArray t1
   have sb1:=Heap.SameBut.update s.heap a (Obj.putSet ((B1++(e,tupleKeyHash knd k,Value.ref q)::B2).map (·.2)).toArray t1)
   have esz:((B1++B2).map (·.2)).toArray.size+1=(B1++(e,tupleKeyHash knd k,Value.ref q)::B2).length:=by
    rw[len1,size_toArray,length_map]
   rw[esz]
   by_cases tf:t1.tooFull=true
   ·rw[tf]
    rw[if_pos (by rfl)]
    refine wpAny_bind (K4 (s:={s with heap:=_,toks:=s.toks+(k.length+1)}) ho1 hex rfl T1 (by rw[len1,m1];omega) ∅ ∅ fun h' L' c1 c2 c3 c4=>?_)
    exact wpAny_pure (no z h' L' (sb1.trans c1) c2 (c3.trans len1) fun y=>(c4 y).trans (mem1 y))
   ·rw[if_neg (by simpa using tf)]
    refine wpAny_pure (no z _ _ sb1 ⟨_,_,t1,ho1,hex,rfl,T1,?_⟩ len1 mem1)
    unfold tooFull at tf
    rw[T1.fill] at tf
    simpa using tf
  by_cases pl:(t.put e).1.plain=true
  ·rw[if_pos pl]
   refine wpAny_bind (Kw (s:={s with toks:=s.toks+(k.length+1)}) hk fun b=>?_)
   cases b with
   |true=>exact tail _ p2 rfl
   |false=>exact tail _ (p2.plain false) rfl
  ·rw[if_neg pl]
   refine wpAny_bind (wpAny_pure ?_)
   exact tail _ p2 rfl
end
end ST
set_option maxHeartbeats 4000000
namespace NM
@[irreducible] def Sz (n:Nat) (i:Int):Prop:=i.natAbs<2 ^ n
theorem Sz.mono{n m:Nat}{i:Int}(h:Sz n i)(l:n<=m):Sz m i:=by unfold Sz at *;exact lt_of_lt_of_le h (Nat.pow_le_pow_right ⋯ l)
theorem Sz.mul{n m:Nat}{i j:Int}(h:Sz n i)(g:Sz m j):Sz (n+m) (i*j):=by
 unfold Sz at *
 rw[natAbs_mul,Nat.pow_add]
 exact Nat.mul_lt_mul'' h g
theorem Sz.add{n:Nat}{i j:Int}(h:Sz n i)(g:Sz n j):Sz (n+1) (i+j):=by
 unfold Sz at *
 have:=Int.natAbs_add_le i j
 rw[pow_succ]
 omega
theorem Sz.neg{n:Nat}{i:Int}(h:Sz n i):Sz n (-i):=by unfold Sz at *;rw[Int.natAbs_neg];exact h
theorem Sz.sub{n:Nat}{i j:Int}(h:Sz n i)(g:Sz n j):Sz (n+1) (i-j):=by rw[Int.sub_eq_add_neg];exact h.add g.neg
theorem Sz.le{n:Nat}{i j:Int}(h:Sz n i)(g:j.natAbs<=i.natAbs):Sz n j:=by unfold Sz at *;exact Nat.lt_of_le_of_lt g h
theorem Sz.of{n:Nat}{i:Int}(h:i.natAbs<2 ^ n):Sz n i:=by unfold Sz;exact h
theorem Sz.lt{n:Nat}{i:Int}(h:Sz n i):i.natAbs<2 ^ n:=by unfold Sz at h;exact h
noncomputable def g3(a b c:Int):Nat:=Int.gcd (Int.gcd a b:Nat) c
theorem Mv(a b c:Int):Int.gcd (Int.gcd c a:Nat) b=g3 a b c:=by
 unfold g3
 simp only[Int.gcd,Int.natAbs_natCast]
 rw[Nat.gcd_assoc,Nat.gcd_comm]
theorem LK(a b c:Int):((g3 a b c:Nat):Int) ∣ a/\((g3 a b c:Nat):Int) ∣ b/\((g3 a b c:Nat):Int) ∣ c:=by
 have h:((g3 a b c:Nat):Int) ∣ ((Int.gcd a b:Nat):Int):=Int.gcd_dvd_left ..
 exact⟨Int.dvd_trans h (Int.gcd_dvd_left ..),Int.dvd_trans h (Int.gcd_dvd_right ..),Int.gcd_dvd_right ..⟩
theorem PD{a b c:Int}{k:Nat}(h1:(k:Int) ∣ a)(h2:(k:Int) ∣ b)(h3:(k:Int) ∣ c):k ∣ g3 a b c:=by
 unfold g3
 exact Int.dvd_gcd (Int.natCast_dvd_natCast.mpr (Int.dvd_gcd h1 h2)) h3
theorem Bb{a b c:Int}(h:c≠0):0<g3 a b c:=by
 unfold g3
 exact Int.gcd_pos_of_ne_zero_right _ h
theorem K2(a b c k:Int):g3 (a*k) (b*k) (c*k)=g3 a b c*k.natAbs:=by
 unfold g3
 simp only[Int.gcd,Int.natAbs_natCast,natAbs_mul,Nat.gcd_mul_right]
theorem EH(a b c:Int):g3 a (-b) c=g3 a b c:=by
 unfold g3
 rw[Int.gcd_neg]
theorem Kq(a b c:Int):g3 (-a) b c=g3 a b c:=by
 unfold g3
 rw[Int.neg_gcd]
structure N3 where
 a:Int
 b:Int
 c:Int
deriving DecidableEq
theorem N3.ext'{x y:N3}(h1:x.a=y.a)(h2:x.b=y.b)(h3:x.c=y.c):x=y:=by cases x;cases y;simp_all
structure Ok(x:N3):Prop where
 c:0<x.c
 g:g3 x.a x.b x.c=1
noncomputable def dv(a b c:Int):Int:=if c<0 then -(g3 a b c:Nat) else (g3 a b c:Nat)
noncomputable def low(a b c:Int):N3:=⟨a.fdiv (dv a b c),b.fdiv (dv a b c),c.fdiv (dv a b c)⟩
theorem Cb{a k q:Int}(hk:k≠0)(h:a=k*q):a.fdiv k=q:=by
 subst h
 exact Int.mul_fdiv_cancel_left q hk
theorem Sh{a b c:Int}(h:c≠0):dv a b c≠0:=by
 have:=Bb (a:=a) (b:=b) h
 unfold dv
 split<;>omega
theorem PM(a b c:Int):dv a b c ∣ a/\dv a b c ∣ b/\dv a b c ∣ c:=by
 obtain⟨h1,h2,h3⟩:=LK a b c
 unfold dv
 split
 ·exact⟨Int.neg_dvd.mpr h1,Int.neg_dvd.mpr h2,Int.neg_dvd.mpr h3⟩
 ·exact⟨h1,h2,h3⟩
theorem g9(a b:Int){c:Int}(h:c≠0):∃k:Int,k≠0/\(0<k↔0<c)/\a=k*(low a b c).a/\b=k*(low a b c).b/\c=k*(low a b c).c/\Ok (low a b c):=by
 have hk:=Sh (a:=a) (b:=b) h
 obtain⟨⟨p,hp⟩,⟨q,hq⟩,⟨r,hr⟩⟩:=PM a b c
 have ep:(low a b c).a=p:=Cb hk hp
 have eq:(low a b c).b=q:=Cb hk hq
 have er:(low a b c).c=r:=Cb hk hr
 have hg:=Bb (a:=a) (b:=b) h
 have hs:0<dv a b c↔0<c:=by unfold dv;split<;>omega
 have hr0:0<r:=by
  have hr':r≠0:=fun z=>h (by rw[hr,z,mul_zero])
  rcases Int.lt_trichotomy 0 (dv a b c) with z|z|z
  ·have:=hs.mp z
   rw[hr] at this
   rw[Int.mul_comm] at this
   exact Int.pos_of_mul_pos_left this z |> fun t=>t
  ·exact absurd z.symm hk
  ·have:c<0:=by omega
   rcases Int.lt_trichotomy 0 r with w|w|w
   ·exact w
   ·exact absurd w.symm hr'
   ·have:=Int.mul_pos_of_neg_of_neg z w
    rw[<- hr] at this
    omega
 refine⟨dv a b c,hk,hs,by rw[ep];exact hp,by rw[eq];exact hq,by rw[er];exact hr,by rw[er];exact hr0,?_⟩
 rw[ep,eq,er]
 have e:=K2 p q r (dv a b c)
 rw[Int.mul_comm p,Int.mul_comm q,Int.mul_comm r,<- hp,<- hq,<- hr] at e
 have e2:(dv a b c).natAbs=g3 a b c:=by unfold dv;split<;>simp
 rw[e2] at e
 have:g3 p q r*g3 a b c=1*g3 a b c:=by omega
 exact Nat.eq_of_mul_eq_mul_right hg this
theorem mS(a b:Int){c:Int}(h:c≠0):Ok (low a b c):=(g9 a b h).choose_spec.2.2.2.2.2
theorem Ok.same{x y:N3}(hx:Ok x)(hy:Ok y)(h1:x.a*y.c=y.a*x.c)(h2:x.b*y.c=y.b*x.c):x=y:=by
 have key:∀{u v:N3},Ok u->Ok v->u.a*v.c=v.a*u.c->u.b*v.c=v.b*u.c->u.c ∣ v.c:=fun {u v} hu hv e1 e2=>by
  have hd:u.c.natAbs ∣ g3 (u.a*v.c) (u.b*v.c) (u.c*v.c):=PD
   (by rw[Int.natAbs_of_nonneg (le_of_lt hu.c),e1];exact Int.dvd_mul_left _ _) (by rw[Int.natAbs_of_nonneg (le_of_lt hu.c),e2];exact Int.dvd_mul_left _ _) (by rw[Int.natAbs_of_nonneg (le_of_lt hu.c)];exact Int.dvd_mul_right _ _)
  rw[K2,hu.g,Nat.one_mul] at hd
  exact Int.natAbs_dvd_natAbs.mp hd
 have hc:x.c=y.c:=Int.dvd_antisymm (le_of_lt hx.c) (le_of_lt hy.c) (key hx hy h1 h2) (key hy hx h1.symm h2.symm)
 have hn:y.c≠0:=by have:=hy.c;omega
 rw[hc] at h1 h2
 exact N3.ext' (eq_of_mul_eq_mul_right hn h1) (eq_of_mul_eq_mul_right hn h2) hc
theorem Qi{a b c a' b' c':Int}(h:c≠0)(h':c'≠0)(e1:a*c'=a'*c)(e2:b*c'=b'*c):low a b c=low a' b' c':=by
 obtain⟨k,hk,_,p1,p2,p3,o⟩:=g9 a b h
 obtain⟨l,hl,_,q1,q2,q3,o'⟩:=g9 a' b' h'
 generalize low a b c=x at *
 generalize low a' b' c'=y at *
 subst p1 p2 p3 q1 q2 q3
 have hkl:k*l≠0:=mul_ne_zero hk hl
 refine o.same o' (Int.eq_of_mul_eq_mul_left hkl (by grind)) (Int.eq_of_mul_eq_mul_left hkl (by grind))
theorem Ok.low{x:N3}(h:Ok x):low x.a x.b x.c=x:=by
 have hc:x.c≠0:=by have:=h.c;omega
 obtain⟨k,hk,_,p1,p2,p3,o⟩:=g9 x.a x.b hc
 refine o.same h ?_ ?_
 ·exact Int.eq_of_mul_eq_mul_left hk (by grind)
 ·exact Int.eq_of_mul_eq_mul_left hk (by grind)
theorem Ok.PY{x:N3}{a b c:Int}(h:Ok x)(hc:c≠0)(e1:x.a*c=a*x.c)(e2:x.b*c=b*x.c):x=NM.low a b c:=by
 have q:=Qi (by have:=h.c;omega) hc e1 e2
 rw[h.low] at q
 exact q
theorem QL(a b:Int){c:Int}(h:c≠0):(low a b c).a.natAbs<=a.natAbs/\(low a b c).b.natAbs<=b.natAbs/\(low a b c).c.natAbs<=c.natAbs:=by
 obtain⟨k,hk,_,p1,p2,p3,_⟩:=g9 a b h
 have hk':1<=k.natAbs:=by omega
 have le:∀{u v:Int},u=k*v->v.natAbs<=u.natAbs:=fun {u v} e=>by
  rw[e,natAbs_mul]
  exact Nat.le_mul_of_pos_left _ hk'
 exact⟨le p1,le p2,le p3⟩
structure Bd(n:Nat)(x:N3):Prop where
 a:Sz n x.a
 b:Sz n x.b
 c:Sz n x.c
theorem Bd.mono{n m:Nat}{x:N3}(h:Bd n x)(l:n<=m):Bd m x:=⟨h.a.mono l,h.b.mono l,h.c.mono l⟩
theorem qj{a b c:Int}{n:Nat}(h:c≠0)(ha:Sz n a)(hb:Sz n b)(hc:Sz n c):Bd n (low a b c):=by
 obtain⟨h1,h2,h3⟩:=QL a b h
 exact⟨ha.le h1,hb.le h2,hc.le h3⟩
noncomputable def plus(x y:N3):N3:=low (x.a*y.c+y.a*x.c) (x.b*y.c+y.b*x.c) (x.c*y.c)
noncomputable def less(x y:N3):N3:=low (x.a*y.c-y.a*x.c) (x.b*y.c-y.b*x.c) (x.c*y.c)
noncomputable def times(d:Int)(x y:N3):N3:=low (x.a*y.a+d*x.b*y.b) (x.a*y.b+x.b*y.a) (x.c*y.c)
noncomputable def norm(d:Int)(x:N3):Int:=x.a*x.a-d*x.b*x.b
noncomputable def aX(d:Int)(x:N3):N3:=low (x.c*x.a) (-x.c*x.b) (norm d x)
noncomputable def bW(x:N3):N3:=⟨x.a,-x.b,x.c⟩
noncomputable def minus(x:N3):N3:=⟨-x.a,-x.b,x.c⟩
noncomputable def au:N3:=⟨0,0,1⟩
noncomputable def one:N3:=⟨1,0,1⟩
theorem Ok.cn{x:N3}(h:Ok x):x.c≠0:=by have:=h.c;omega
theorem vJ{x y:N3}(h:Ok x)(g:Ok y):x.c*y.c≠0:=mul_ne_zero h.cn g.cn
theorem bB{x:N3}(h:Ok x):Ok (bW x):=⟨h.c,by show g3 x.a (-x.b) x.c=1;rw[EH];exact h.g⟩
theorem ie{x:N3}(h:Ok x):Ok (minus x):=⟨h.c,by show g3 (-x.a) (-x.b) x.c=1;rw[Kq,EH];exact h.g⟩
theorem dj{x y:N3}(h:Ok x)(g:Ok y):Ok (plus x y):=mS _ _ (vJ h g)
theorem eQ{x y:N3}(h:Ok x)(g:Ok y):Ok (less x y):=mS _ _ (vJ h g)
theorem aZ{d:Int}{x y:N3}(h:Ok x)(g:Ok y):Ok (times d x y):=mS _ _ (vJ h g)
theorem ba:Ok au:=⟨⋯,⋯⟩
theorem bF:Ok one:=⟨⋯,⋯⟩
theorem oG{n:Nat}{x:N3}(h:Bd n x):Bd n (bW x):=⟨h.a,h.b.neg,h.c⟩
theorem qT{n:Nat}{x:N3}(h:Bd n x):Bd n (minus x):=⟨h.a.neg,h.b.neg,h.c⟩
theorem sY{n m:Nat}{x y:N3}(hx:Ok x)(hy:Ok y)(h:Bd n x)(g:Bd m y):Bd (n+m+1) (plus x y):=
 qj (vJ hx hy) ((h.a.mul g.c).add ((g.a.mul h.c).mono ∅)) ((h.b.mul g.c).add ((g.b.mul h.c).mono ∅)) ((h.c.mul g.c).mono ∅)
theorem jU{d:Int}(h:2<=d)(h':d<=30):Sz 5 d:=by unfold Sz;omega
theorem fo{n m:Nat}{d:Int}{x y:N3}(hd:Sz 5 d)(hx:Ok x)(hy:Ok y)(h:Bd n x)(g:Bd m y):Bd (n+m+6) (times d x y):=
 qj (vJ hx hy) (((h.a.mul g.a).mono ∅).add (((hd.mul h.b).mul g.b).mono ∅)) ((((h.a.mul g.b).mono (by omega:n+m<=n+m)).add ((h.b.mul g.a).mono ∅)).mono ∅) ((h.c.mul g.c).mono ∅)
theorem wm{n:Nat}{d:Int}{x:N3}(hd:Sz 5 d)(h:Bd n x):Sz (2*n+6) (norm d x):=by
 have e1:=h.a.mul h.a
 have e2:=(hd.mul h.b).mul h.b
 exact ((e1.mono (by omega:n+n<=5+n+n)).sub e2).mono ∅
theorem jL{n:Nat}{d:Int}{x:N3}(hd:Sz 5 d)(hn:norm d x≠0)(h:Bd n x):Bd (2*n+6) (aX d x):=
 qj hn ((h.c.mul h.a).mono ∅) ((h.c.neg.mul h.b).mono ∅) (wm hd h)
noncomputable def aB(d:Int):Prop:=2<=d/\d<=30/\d≠4/\d≠9/\d≠16/\d≠25
theorem IH{d:Nat}(h:∀m:Nat,m*m≠d):∀{a b:Nat},a*a=d*(b*b)->b=0:=fun {a b} e=>by
 rcases Nat.eq_zero_or_pos b with hb|hb
 ·exact hb
 exfalso
 obtain⟨g,p,q,hg,hc,rfl,rfl⟩:=Nat.exists_coprime' (m:=a) (n:=b) (Nat.gcd_pos_of_pos_right _ hb)
 have e2:(p*p)*(g*g)=(d*(q*q))*(g*g):=by grind
 have e3:p*p=d*(q*q):=Nat.eq_of_mul_eq_mul_right (Nat.mul_pos hg hg) e2
 have hq:q ∣ p*p:=⟨d*q,by rw[e3];grind⟩
 have hq1:q ∣ p:=hc.symm.dvd_of_dvd_mul_left hq
 have hq2:q=1:=by
  have:=Nat.dvd_gcd hq1 (Nat.dvd_refl q)
  rw[hc] at this
  exact Nat.dvd_one.mp this
 subst hq2
 exact h p (by rw[e3];simp)
theorem aB.nat{d:Int}(h:aB d):∀m:Nat,m*m≠d.toNat:=fun m e=>by
 obtain⟨h1,h2,h3,h4,h5,h6⟩:=h
 have hm:m<=5:=by
  rcases lt_or_ge 5 m with z|z
  ·have:=Nat.mul_le_mul z z;omega
  ·exact z
 have:m=0\/m=1\/m=2\/m=3\/m=4\/m=5:=by omega
 rcases this with rfl|rfl|rfl|rfl|rfl|rfl<;>omega
theorem aB.GC{d a b:Int}(h:aB d)(e:a*a=d*b*b):a=0/\b=0:=by
 have hd:d=((d.toNat:Nat):Int):=by have:=h.1;omega
 have e1:a.natAbs*a.natAbs=d.toNat*(b.natAbs*b.natAbs):=by
  have e2:=congrArg Int.natAbs e
  rw[natAbs_mul,natAbs_mul,natAbs_mul] at e2
  rw[e2,Nat.mul_assoc]
  congr 1
  omega
 have hb:=IH h.nat e1
 have hb':b=0:=by omega
 subst hb'
 have:a*a=0:=by rw[e];simp
 exact⟨by rcases Int.mul_eq_zero.mp this with z|z<;>exact z,rfl⟩
theorem aB.norm{d:Int}{x:N3}(h:aB d)(ok:Ok x)(hx:x≠au):norm d x≠0:=fun e=>by
 have e':x.a*x.a=d*x.b*x.b:=by unfold NM.norm at e;omega
 obtain⟨h1,h2⟩:=h.GC e'
 apply hx
 have hg:=ok.g
 rw[h1,h2] at hg
 have hc:=ok.c
 have:x.c=1:=by
  unfold g3 at hg
  simp[Int.gcd] at hg
  omega
 exact N3.ext' h1 h2 this
theorem bO{d:Int}{x:N3}(h:NM.norm d x≠0):Ok (aX d x):=mS _ _ h
noncomputable def sg(d a b:Int):Int:=
 if a=0/\b=0 then 0 else if 0<=a/\0<=b then 1 else if a<=0/\b<=0 then -1 else if (if d*b*b<a*a then a else b)>0 then 1 else -1
theorem Oi{u v:Int}(hu:0<=u)(h:u*u<=v*v)(hv:0<=v):u<=v:=by
 rcases Int.lt_or_le v u with z|z
 ·have:=Int.mul_lt_mul_of_pos_left z (show 0<u by omega)
  have:=Int.mul_le_mul_of_nonneg_right (le_of_lt z) hv
  omega
 ·exact z
theorem sq_nonneg(u:Int):0<=u*u:=by
 rcases Int.le_total 0 u with h|h
 ·exact mul_nonneg h h
 ·exact Int.mul_nonneg_of_nonpos_of_nonpos h h
noncomputable def P(d a b:Int):Prop:=(0<=a/\0<=b/\¬ (a=0/\b=0))\/(0<a/\b<0/\d*b*b<a*a)\/(a<0/\0<b/\a*a<d*b*b)
theorem dH{d a b:Int}(h:aB d):sg d a b=1↔P d a b:=by
 unfold sg P
 have key:a*a=d*b*b->a=0/\b=0:=h.GC
 by_cases c1:d*b*b<a*a
 ·simp only[c1,if_true];split<;>(try split)<;>(try split)<;>(try split)<;>simp<;>omega
 ·simp only[c1,if_false];split<;>(try split)<;>(try split)<;>(try split)<;>simp<;>omega
theorem yK{d a b:Int}(h:aB d):sg d (-a) (-b) = - sg d a b:=by
 unfold sg
 have key:a*a=d*b*b->a=0/\b=0:=h.GC
 have e1:d * -b * -b=d*b*b:=by grind
 have e2:-a * -a=a*a:=by grind
 rw[e1,e2]
 by_cases c1:d*b*b<a*a
 ·simp only[c1,if_true];split<;>split<;>(try split)<;>(try split)<;>(try split)<;>(try split)<;>(try split)<;>(try split)<;>omega
 ·simp only[c1,if_false];split<;>split<;>(try split)<;>(try split)<;>(try split)<;>(try split)<;>(try split)<;>(try split)<;>omega
theorem b8{d a b:Int}:sg d a b=0↔a=0/\b=0:=by
 unfold sg;split<;>(try split)<;>(try split)<;>(try split)<;>omega
theorem jV(d a b:Int):sg d a b=0\/sg d a b=1\/sg d a b = -1:=by
 unfold sg;split<;>(try split)<;>(try split)<;>(try split)<;>omega
theorem RN{d a b:Int}(h:aB d):(a=0/\b=0)\/P d a b\/P d (-a) (-b):=by
 rcases jV d a b with e|e|e
 ·exact .inl (b8.mp e)
 ·exact .inr (.inl ((dH h).mp e))
 ·exact .inr (.inr ((dH h).mp (by rw[yK h,e];rfl)))
theorem n8{d a b:Int}(h:aB d)(n:d*b*b<a*a):P d a b↔0<a:=by
 unfold P
 have:=sq_nonneg b
 have h0:0<=d*b*b:=by rw[Int.mul_assoc];exact mul_nonneg (by have:=h.1;omega) this
 have ha:a≠0:=fun z=>by subst z;simp at n;omega
 omega
theorem kG{d a b:Int}(h:aB d)(n:a*a<d*b*b):P d a b↔0<b:=by
 unfold P
 have h0:=sq_nonneg a
 have hb:b≠0:=fun z=>by subst z;simp at n;omega
 omega
theorem sj{u v:Int}(h:v*v<u*u):0<u+v↔0<u:=by
 have hu:u≠0:=fun z=>by subst z;have:=sq_nonneg v;simp at h;omega
 have l:v.natAbs<u.natAbs:=by
  rcases lt_or_ge v.natAbs u.natAbs with z|z
  ·exact z
  ·have:=Nat.mul_le_mul z z
   have e1:((u.natAbs*u.natAbs:Nat):Int)=u*u:=Int.natAbs_mul_self
   have e2:((v.natAbs*v.natAbs:Nat):Int)=v*v:=Int.natAbs_mul_self
   omega
 omega
theorem mul_pos_iff{u v:Int}(hu:u≠0)(hv:v≠0):0<u*v↔(0<u↔0<v):=by
 rcases lt_or_gt_of_ne hu with h|h<;>rcases lt_or_gt_of_ne hv with g|g
 ·have:=Int.mul_pos_of_neg_of_neg h g;omega
 ·have:=Int.mul_neg_of_neg_of_pos h g;omega
 ·have:=Int.mul_neg_of_pos_of_neg h g;omega
 ·have:=mul_pos h g;omega
theorem xJ{u v s t:Int}(hu:0<=u)(h:u<v)(hs:0<=s)(g:s<t):u*s<v*t:=by
 have e1:u*s<=v*s:=Int.mul_le_mul_of_nonneg_right (le_of_lt h) hs
 have e2:v*s<v*t:=Int.mul_lt_mul_of_pos_left g ∅
 omega
theorem dsq{d b:Int}(hd:0<d):0<=d*b*b:=by rw[Int.mul_assoc];exact mul_nonneg (le_of_lt hd) (sq_nonneg b)
theorem So{d a b p q:Int}(h:aB d)(h1:¬ (a=0/\b=0))(h2:¬ (p=0/\q=0)):P d (a*p+d*b*q) (a*q+b*p)↔(P d a b↔P d p q):=by
 have hd:0<d:=by have:=h.1;omega
 have n1:a*a≠d*b*b:=fun e=>h1 (h.GC e)
 have n2:p*p≠d*q*q:=fun e=>h2 (h.GC e)
 have pz:∀{u v:Int},d*v*v<u*u->u≠0:=fun {u v} e z=>by subst z;have:=dsq (b:=v) hd;simp at e;omega
 have qz:∀{u v:Int},u*u<d*v*v->v≠0:=fun {u v} e z=>by subst z;have:=sq_nonneg u;simp at e;omega
 have id1:(a*p+d*b*q)*(a*p+d*b*q)-d*(a*q+b*p)*(a*q+b*p)=(a*a-d*b*b)*(p*p-d*q*q):=by grind
 rcases lt_or_gt_of_ne n1 with c1|c1<;>rcases lt_or_gt_of_ne n2 with c2|c2
 ·have pp:=Int.mul_pos_of_neg_of_neg (show a*a-d*b*b<0 by omega) (show p*p-d*q*q<0 by omega)
  rw[n8 h ∅,kG h c1,kG h c2]
  have sq:(a*p)*(a*p)<(d*b*q)*(d*b*q):=by
   have e2:=xJ (sq_nonneg a) c1 (sq_nonneg p) c2
   grind
  rw[Int.add_comm,sj sq,Int.mul_assoc,mul_pos_iff ∅ (mul_ne_zero (qz c1) (qz c2)),mul_pos_iff (qz c1) (qz c2)]
  omega
 ·have pp:=Int.mul_neg_of_neg_of_pos (show a*a-d*b*b<0 by omega) (show 0<p*p-d*q*q by omega)
  rw[kG h ∅,kG h c1,n8 h c2]
  have sq:(a*q)*(a*q)<(b*p)*(b*p):=by
   have e2:=xJ (sq_nonneg a) c1 (dsq (b:=q) hd) c2
   have e3:d*((a*q)*(a*q))<d*((b*p)*(b*p)):=by grind
   exact Int.lt_of_mul_lt_mul_left e3 (le_of_lt hd)
  rw[Int.add_comm,sj sq,mul_pos_iff (qz c1) (pz c2)]
 ·have pp:=Int.mul_neg_of_pos_of_neg (show 0<a*a-d*b*b by omega) (show p*p-d*q*q<0 by omega)
  rw[kG h ∅,n8 h c1,kG h c2]
  have sq:(b*p)*(b*p)<(a*q)*(a*q):=by
   have e2:=xJ (dsq (b:=b) hd) c1 (sq_nonneg p) c2
   have e3:d*((b*p)*(b*p))<d*((a*q)*(a*q)):=by grind
   exact Int.lt_of_mul_lt_mul_left e3 (le_of_lt hd)
  rw[sj sq,mul_pos_iff (pz c1) (qz c2)]
 ·have pp:=mul_pos (show 0<a*a-d*b*b by omega) (show 0<p*p-d*q*q by omega)
  rw[n8 h ∅,n8 h c1,n8 h c2]
  have sq:(d*b*q)*(d*b*q)<(a*p)*(a*p):=by
   have e2:=xJ (dsq (b:=b) hd) c1 (dsq (b:=q) hd) c2
   grind
  rw[sj sq,mul_pos_iff (pz c1) (pz c2)]
theorem RY{d A x B y:Int}(hd:0<d)(hA:0<=A)(hx:0<=x)(hB:0<=B)(hy:0<=y)(h1:A*A<=d*B*B)(h2:x*x<=d*y*y):A*x<=d*(B*y):=by
 refine Oi (mul_nonneg hA hx) ?_ (mul_nonneg (le_of_lt hd) (mul_nonneg hB hy))
 have:=Int.mul_le_mul h1 h2 (sq_nonneg x) (dsq hd)
 grind
theorem T1{d A x B y:Int}(hd:0<d)(hA:0<=A)(hx:0<=x)(hB:0<=B)(hy:0<=y)(h1:A*A<d*B*B)(h2:x*x<d*y*y):(A+x)*(A+x)<d*(B+y)*(B+y):=by
 have:=RY hd hA hx hB hy (le_of_lt h1) (le_of_lt h2)
 grind
theorem T2{d A x B y:Int}(hd:0<d)(hA:0<=A)(hx:0<=x)(hB:0<=B)(hy:0<=y)(h1:d*B*B<A*A)(h2:d*y*y<x*x):d*(B+y)*(B+y)<(A+x)*(A+x):=by
 have:d*(B*y)<=A*x:=by
  refine Oi (mul_nonneg (le_of_lt hd) (mul_nonneg hB hy)) ?_ (mul_nonneg hA hx)
  have:=xJ (dsq (b:=B) hd) h1 (dsq (b:=y) hd) h2
  grind
 grind
theorem Z1{d x1 y1 x2 y2:Int}(hd:0<d)(h1:x1*x1<d*y1*y1)(h2:d*y2*y2<x2*x2)(a1:0<=x2)(a2:x2<=x1)(a3:0<=y1)(a4:y1<=y2):False:=by
 have e1:=Int.mul_le_mul a2 a2 a1 (Int.le_trans a1 a2)
 have e2:=Int.mul_le_mul_of_nonneg_left (Int.mul_le_mul a4 a4 a3 (Int.le_trans a3 a4)) (le_of_lt hd)
 grind
theorem Z2{d x1 y1 x2 y2 x3 y3:Int}(hd:0<d)(h1:x1*x1<d*y1*y1)(h2:d*y2*y2<x2*x2)(h3:d*y3*y3<x3*x3)(a1:0<=x2)(a2:0<=y2)(a3:0<=x3)(a4:0<=y3)(e1:x1=x2+x3)(e2:y1=y2+y3):False:=by
 subst e1 e2
 have:=T2 hd a1 a3 a2 a4 h2 h3
 omega
theorem Z3{d x1 y1 x2 y2 x3 y3:Int}(hd:0<d)(h1:d*y1*y1<x1*x1)(h2:x2*x2<d*y2*y2)(h3:x3*x3<d*y3*y3)(a1:0<=x2)(a2:0<=y2)(a3:0<=x3)(a4:0<=y3)(e1:x1=x2+x3)(e2:y1=y2+y3):False:=by
 subst e1 e2
 have:=T1 hd a1 a3 a2 a4 h2 h3
 omega
theorem RK{d a b p q u v:Int}(h:aB d)(h1:P d a b)(h2:P d p q)(h3:P d u v)(e1:a+p+u=0)(e2:b+q+v=0):False:=by
 have hd:0<d:=by have:=h.1;omega
 unfold P at h1 h2 h3
 have x1:∀{u c:Int},u*u<c->-u * -u<c:=fun {u c} e=>by grind
 have x2:∀{u c:Int},c<u*u->c < -u * -u:=fun {u c} e=>by grind
 have x3:∀{u c:Int},c<d*u*u->c<d * -u * -u:=fun {u c} e=>by grind
 have x4:∀{u c:Int},d*u*u<c->d * -u * -u<c:=fun {u c} e=>by grind
 rcases h1 with ⟨u1,u2,u3⟩|⟨u1,u2,u3⟩|⟨u1,u2,u3⟩<;>rcases h2 with ⟨v1,v2,v3⟩|⟨v1,v2,v3⟩|⟨v1,v2,v3⟩<;>rcases h3 with ⟨w1,w2,w3⟩|⟨w1,w2,w3⟩|⟨w1,w2,w3⟩<;>(try omega)
 all_goals first
  |exact Z1 hd (x1 u3) (x4 v3) ∅ ∅ ∅ ∅
  |exact Z1 hd (x1 v3) (x4 u3) ∅ ∅ ∅ ∅
  |exact Z1 hd (x1 u3) (x4 w3) ∅ ∅ ∅ ∅
  |exact Z1 hd (x1 w3) (x4 u3) ∅ ∅ ∅ ∅
  |exact Z1 hd (x1 v3) (x4 w3) ∅ ∅ ∅ ∅
  |exact Z1 hd (x1 w3) (x4 v3) ∅ ∅ ∅ ∅
  |exact Z2 hd (x1 u3) (x4 v3) (x4 w3) ∅ ∅ ∅ ∅ ∅ ∅
  |exact Z2 hd (x1 v3) (x4 u3) (x4 w3) ∅ ∅ ∅ ∅ ∅ ∅
  |exact Z2 hd (x1 w3) (x4 u3) (x4 v3) ∅ ∅ ∅ ∅ ∅ ∅
  |exact Z3 hd (x4 u3) (x1 v3) (x1 w3) ∅ ∅ ∅ ∅ ∅ ∅
  |exact Z3 hd (x4 v3) (x1 u3) (x1 w3) ∅ ∅ ∅ ∅ ∅ ∅
  |exact Z3 hd (x4 w3) (x1 u3) (x1 v3) ∅ ∅ ∅ ∅ ∅ ∅
theorem OF{d a b p q:Int}(h:aB d)(h1:P d a b)(h2:P d p q):P d (a+p) (b+q):=by
 rcases RN (a:=a+p) (b:=b+q) h with ⟨e1,e2⟩|e|e
 ·have ea:p = -a:=by omega
  have eb:q = -b:=by omega
  subst ea eb
  have s1:=(dH h).mpr h1
  have s2:=(dH h).mpr h2
  rw[yK h,s1] at s2
  omega
 ·exact e
 ·exact (RK h h1 h2 e ∅ ∅).elim
theorem C6{d a b p q:Int}(h:aB d):sg d (a*p+d*b*q) (a*q+b*p)=sg d a b*sg d p q:=by
 by_cases h1:a=0/\b=0
 ·obtain⟨rfl,rfl⟩:=h1
  have e:sg d (0:Int) 0=0:=b8.mpr ⟨rfl,rfl⟩
  rw[e];simp[b8]
 by_cases h2:p=0/\q=0
 ·obtain⟨rfl,rfl⟩:=h2
  have e:sg d (0:Int) 0=0:=b8.mpr ⟨rfl,rfl⟩
  rw[e];simp[b8]
 have k:=So h h1 h2
 have h3:¬ (a*p+d*b*q=0/\a*q+b*p=0):=fun ⟨e1,e2⟩=>by
  have id1:(a*p+d*b*q)*(a*p+d*b*q)-d*(a*q+b*p)*(a*q+b*p)=(a*a-d*b*b)*(p*p-d*q*q):=by grind
  rw[e1,e2] at id1
  simp only[mul_zero,Int.sub_self] at id1
  rcases Int.mul_eq_zero.mp id1.symm with z|z
  ·exact h1 (h.GC ∅)
  ·exact h2 (h.GC ∅)
 rw[<- dH h,<- dH h,<- dH h] at k
 have t1:=jV d a b
 have t2:=jV d p q
 have t3:=jV d (a*p+d*b*q) (a*q+b*p)
 have z1:sg d a b≠0:=fun z=>h1 (b8.mp z)
 have z2:sg d p q≠0:=fun z=>h2 (b8.mp z)
 have z3:sg d (a*p+d*b*q) (a*q+b*p)≠0:=fun z=>h3 (b8.mp z)
 rcases t1 with e|e|e<;>rcases t2 with f|f|f<;>rcases t3 with g|g|g<;>simp_all
theorem fj{d a b k:Int}(h:aB d)(hk:0<k):sg d (k*a) (k*b)=sg d a b:=by
 have e:=C6 (a:=k) (b:=0) (p:=a) (q:=b) h
 have e1:sg d k 0=1:=by unfold sg;rw[if_neg ∅,if_pos ∅]
 rw[e1] at e
 simpa using e
end NM
namespace L2
open PySem PySem.Spec PyProof.Rows
section
variable {X:Cx}{pins:List (Addr×Obj)}{Z:St}{H:Hp}{s:Shared}{a:Addr}{y v:V}{u r:Value}{o:Option V}{A:Around}{E:Value->Shared->Prop}
theorem Inv.big(I:Inv X pins Z H s):sysModules<s.heap.objs.size:=by
 have h:mainGlobals<s.heap.objs.size:=(I.mod.glob.keeps I.bk).lt
 exact Nat.lt_trans ⋯ h
theorem G4{h':Heap}{t':Nat}{ob:HO}(I:Inv X pins Z H s)(mu:Mut (H a))(hs:Heap.SameBut a s.heap h')(he:∃q,h'.get? a=some q)(new:hV X.prog X.w (upd H a ob) h' a ob) :
  Inv X pins Z (upd H a ob) {s with heap:=h',toks:=t'}:=
 I.write (x:=a) (e:=a) mu (.inl rfl) (fun b q hb z=>(hs.2 b hb).trans z) he new
end
noncomputable def R1(i:Expr):Prop:=∀ov iv,subscripted i false ov iv=operate [ov,iv] (getItem ov iv)
theorem Nu{prog:Program}{w:World}{A:Around}{E:Value->Shared->Prop}{s:Shared}{env:Env}{value slice:Expr}{pos:Pos}{T id:String}{Q:Value->Shared->Prop}
  (hl:typeLookup (.type T) "__getitem__"=pure (some (.builtin id))) (hs:R1 slice)
  (h:wpAny (model prog w) A (eval value env) (fun o db=>wpAny (model prog w) A (eval slice env) (fun i im=>im.TypeIs o T/\wpAny (model prog w) A (getItem o i) Q E im) E db) E s) :
  wpAny (model prog w) A (eval (.Subscript value slice pos) env) Q E s:=by
 refine Subscript_ (wpAny_mono h (fun o db kw=>wpAny_mono kw (fun i im pi=>?_) fun _ _ x=>x) fun _ _ x=>x)
 obtain⟨hT,pi⟩:=pi
 unfold subscriptTail
 refine wpAny_bind ?_
 rw[getitemInPython_of_ne hT.not_modules]
 refine wpAny_bind (wpAny_specialOf hT hl ?_)
 have fin:wpAny (model prog w) A (subscripted slice false o i) (fun r bi=>wpAny (model prog w) A (letTemporaryGo value o r>>=fun _=>pure r) Q E bi) E im:=by
  rw[hs o i]
  exact wpAny_operating (wpAny_mono pi (fun r bi sK=>wpAny_bind (wpAny_letTemporaryGo (wpAny_pure sK))) fun _ _ x=>x)
 first
  |exact wpAny_pure (wpAny_bind fin)
  |exact wpAny_bind (wpAny_pure (wpAny_bind fin))
  |exact wpAny_bind fin
structure M1(X:Cx)(o:Expr)(m:Str)(apos:Pos)(e:Expr)(cpos:Pos):Prop where
 base:attributeBase o m X.env (eval o X.env)=eval o X.env
 few:((backTo cpos (starEach [e] X.env)).all (fun x=>!x.1)&&(backToKw cpos (keywordEach [] X.env)).all (fun x=>x.1.isSome)
  && decide (([e]:List Expr).length+([]:List Keyword).length+(if ([]:List Keyword).isEmpty then 0 else 1)<30))=true
 line:(apos.endLine==cpos.line)=true
 trees:backTo cpos (starEach [e] X.env)=[(false,eval e X.env)]
end L2
namespace NM
structure Rep(x:N3)(A B C:Int):Prop where
 c:C≠0
 a:x.a*C=A*x.c
 b:x.b*C=B*x.c
section
variable {x y:N3}{A B C A' B' C' d:Int}
theorem ay(h:Ok x):Rep x x.a x.b x.c:=⟨h.cn,rfl,rfl⟩
theorem oq{a b c:Int}(h:c≠0):Rep (low a b c) a b c:=by
 obtain⟨k,hk,_,p1,p2,p3,_⟩:=g9 a b h
 generalize low a b c=z at *
 exact⟨h,by grind,by grind⟩
theorem Rep.eq(ox:Ok x)(oy:Ok y)(h:Rep x A B C)(g:Rep y A' B' C')(e1:A*C'=A'*C)(e2:B*C'=B'*C):x=y:=by
 have hc:C*C'≠0:=mul_ne_zero h.c g.c
 obtain⟨_,h1,h2⟩:=h
 obtain⟨_,g1,g2⟩:=g
 exact ox.same oy (eq_of_mul_eq_mul_right hc (by grind)) (eq_of_mul_eq_mul_right hc (by grind))
theorem Rep.minus(h:Rep x A B C):Rep (minus x) (-A) (-B) C:=⟨h.c,by show -x.a*C = -A*x.c;have:=h.a;grind,by show -x.b*C = -B*x.c;have:=h.b;grind⟩
theorem Rep.plus(ox:Ok x)(oy:Ok y)(h:Rep x A B C)(g:Rep y A' B' C'):Rep (plus x y) (A*C'+A'*C) (B*C'+B'*C) (C*C'):=by
 have hc:=vJ ox oy
 obtain⟨_,q1,q2⟩:=oq (a:=x.a*y.c+y.a*x.c) (b:=x.b*y.c+y.b*x.c) hc
 obtain⟨hc1,h1,h2⟩:=h
 obtain⟨hc2,g1,g2⟩:=g
 change (NM.plus x y).a*(x.c*y.c)=_*(NM.plus x y).c at q1
 change (NM.plus x y).b*(x.c*y.c)=_*(NM.plus x y).c at q2
 generalize NM.plus x y=z at *
 exact⟨mul_ne_zero hc1 hc2,eq_of_mul_eq_mul_right hc (by grind),eq_of_mul_eq_mul_right hc (by grind)⟩
theorem Rep.less(ox:Ok x)(oy:Ok y)(h:Rep x A B C)(g:Rep y A' B' C'):Rep (less x y) (A*C'-A'*C) (B*C'-B'*C) (C*C'):=by
 have hc:=vJ ox oy
 obtain⟨_,q1,q2⟩:=oq (a:=x.a*y.c-y.a*x.c) (b:=x.b*y.c-y.b*x.c) hc
 obtain⟨hc1,h1,h2⟩:=h
 obtain⟨hc2,g1,g2⟩:=g
 change (NM.less x y).a*(x.c*y.c)=_*(NM.less x y).c at q1
 change (NM.less x y).b*(x.c*y.c)=_*(NM.less x y).c at q2
 generalize NM.less x y=z at *
 exact⟨mul_ne_zero hc1 hc2,eq_of_mul_eq_mul_right hc (by grind),eq_of_mul_eq_mul_right hc (by grind)⟩
theorem Rep.times(ox:Ok x)(oy:Ok y)(h:Rep x A B C)(g:Rep y A' B' C'):Rep (times d x y) (A*A'+d*B*B') (A*B'+B*A') (C*C'):=by
 have hc:=vJ ox oy
 obtain⟨_,q1,q2⟩:=oq (a:=x.a*y.a+d*x.b*y.b) (b:=x.a*y.b+x.b*y.a) hc
 obtain⟨hc1,h1,h2⟩:=h
 obtain⟨hc2,g1,g2⟩:=g
 change (NM.times d x y).a*(x.c*y.c)=_*(NM.times d x y).c at q1
 change (NM.times d x y).b*(x.c*y.c)=_*(NM.times d x y).c at q2
 generalize NM.times d x y=z at *
 exact⟨mul_ne_zero hc1 hc2,eq_of_mul_eq_mul_right hc (by grind),eq_of_mul_eq_mul_right hc (by grind)⟩
theorem Rep.norm(h:Rep x A B C):NM.norm d x*(C*C)=(A*A-d*B*B)*(x.c*x.c):=by
 obtain⟨_,h1,h2⟩:=h
 unfold NM.norm
 have e1:x.a*x.a*(C*C)=A*A*(x.c*x.c):=by
  have:(x.a*C)*(x.a*C)=(A*x.c)*(A*x.c):=by rw[h1]
  grind
 have e2:x.b*x.b*(C*C)=B*B*(x.c*x.c):=by
  have:(x.b*C)*(x.b*C)=(B*x.c)*(B*x.c):=by rw[h2]
  grind
 grind
theorem Rep.aX(ox:Ok x)(hn:NM.norm d x≠0)(h:Rep x A B C):Rep (aX d x) (C*A) (-C*B) (A*A-d*B*B):=by
 have hN:=h.norm (d:=d)
 have hcc:x.c*x.c≠0:=mul_ne_zero ox.cn ox.cn
 have hN0:A*A-d*B*B≠0:=fun z=>by
  rw[z,Int.zero_mul] at hN
  rcases Int.mul_eq_zero.mp hN with w|w
  ·exact hn w
  ·rcases Int.mul_eq_zero.mp w with w|w<;>exact h.c w
 obtain⟨_,q1,q2⟩:=oq (a:=x.c*x.a) (b:=-x.c*x.b) hn
 change (NM.aX d x).a*NM.norm d x=_*(NM.aX d x).c at q1
 change (NM.aX d x).b*NM.norm d x=_*(NM.aX d x).c at q2
 obtain⟨hc1,h1,h2⟩:=h
 generalize NM.aX d x=z at *
 generalize NM.norm d x=n at *
 generalize A*A-d*B*B=m at *
 refine⟨hN0,?_,?_⟩
 ·have e:z.a*m*(x.c*x.c)=C*A*z.c*(x.c*x.c):=by grind
  exact eq_of_mul_eq_mul_right hcc e
 ·have e:z.b*m*(x.c*x.c) = -C*B*z.c*(x.c*x.c):=by grind
  exact eq_of_mul_eq_mul_right hcc e
theorem Rep.sg(hd:aB d)(ox:Ok x)(h:Rep x A B C)(hC:0<C):sg d x.a x.b=NM.sg d A B:=by
 have e1:=fj (a:=x.a) (b:=x.b) hd hC
 have e2:=fj (a:=A) (b:=B) hd ox.c
 rw[show C*x.a=x.c*A by have:=h.a;grind,show C*x.b=x.c*B by have:=h.b;grind] at e1
 rw[<- e1,e2]
end
end NM
namespace NM
noncomputable def HC(d:Int)(x:N3):N3:=times d (times d (plus x (bW x)) (plus x (bW x))) (aX d (times d x (bW x)))
section
variable {d:Int}{x y z:N3}
theorem HI{a b c:Int}(h:aB d)(hc:0<c):sg d (low a b c).a (low a b c).b=sg d a b:=(oq (show c≠0 by omega)).sg h (mS _ _ ∅) hc
theorem oK(h:aB d)(ox:Ok x)(oy:Ok y):sg d (times d x y).a (times d x y).b=sg d x.a x.b*sg d y.a y.b:=by
 unfold times
 rw[HI h (mul_pos ox.c oy.c),C6 h]
theorem gI:sg d one.a one.b=1:=by
 unfold one sg
 rw[if_neg (by simp),if_pos (by simp)]
theorem nZ(h:aB d)(ox:Ok x)(hx:sg d x.a x.b=1):norm d x≠0:=h.norm ox (fun e=>by subst e;have:sg d au.a au.b=0:=b8.mpr ⟨rfl,rfl⟩;omega)
theorem iS(ox:Ok x)(hn:norm d x≠0):times d x (aX d x)=one:=by
 have oc:=bO hn
 exact ((ay ox).times ox oc ((ay ox).aX ox hn)).eq (aZ ox oc) bF (ay bF) (by simp only[one];grind) (by simp only[one];grind)
theorem uT(h:aB d)(ox:Ok x)(hx:sg d x.a x.b=1):sg d (aX d x).a (aX d x).b=1:=by
 have hn:=nZ h ox hx
 have e:=oK h ox (bO hn)
 rw[iS ox hn,gI,hx] at e
 omega
theorem Iw:norm d (bW y)=norm d y:=by unfold norm bW;grind
theorem M5(h:aB d)(ox:Ok x)(hx:sg d x.a x.b=1):sg d x.a (-x.b)=sg d (norm d x) 0:=by
 have e:=C6 (a:=x.a) (b:=x.b) (p:=x.a) (q:=-x.b) h
 rw[hx,Int.one_mul] at e
 rw[<- e]
 unfold norm
 congr 1<;>grind
theorem N0{n:Int}:sg d 0 n=if n=0 then 0 else if 0<n then 1 else -1:=by
 unfold sg
 by_cases h:n=0
 ·simp[h]
 ·rcases lt_or_gt_of_ne h with z|z
  ·rw[if_neg ∅,if_neg ∅,if_pos ∅,if_neg h,if_neg ∅]
  ·rw[if_neg ∅,if_pos ∅,if_neg h,if_pos ∅]
noncomputable def W(x y:N3):Int:=x.b*y.a-x.a*y.b
noncomputable def NN(d:Int)(x y:N3):Int:=sg d (x.a*y.c-y.a*x.c) (x.b*y.c-y.b*x.c)
theorem Kf(ox:Ok x)(oy:Ok y)(e:NN d x y=0):x=y:=by
 obtain⟨h1,h2⟩:=b8.mp e
 exact ox.same oy ∅ ∅
end
end NM
namespace NM
end NM
namespace NM
section
variable {d:Int}{x y z:N3}
noncomputable def gtL(d:Int)(k o:N3):Prop:=((HC d o).a.natAbs:Int)*(HC d k).c<((HC d k).a.natAbs:Int)*(HC d o).c
noncomputable instance:Decidable (gtL d x y):=by unfold gtL;infer_instance
end
end NM
set_option maxHeartbeats 1000000
namespace NM
section
variable {d:Int}{x y z k s o:N3}{A B C A' B' C' P Q R E F G:Int}
theorem Rep.conv(h:Rep x A B C)(hc:C'≠0)(e1:A*C'=A'*C)(e2:B*C'=B'*C):Rep x A' B' C':=by
 obtain⟨h0,h1,h2⟩:=h
 refine⟨hc,eq_of_mul_eq_mul_right h0 ?_,eq_of_mul_eq_mul_right h0 ?_⟩
 ·have:x.a*C'*C=(x.a*C)*C':=by grind
  rw[this,h1]
  have:A*x.c*C'=(A*C')*x.c:=by grind
  rw[this,e1]
  grind
 ·have:x.b*C'*C=(x.b*C)*C':=by grind
  rw[this,h2]
  have:B*x.c*C'=(B*C')*x.c:=by grind
  rw[this,e2]
  grind
noncomputable def fF(d:Int)(x:N3):Bool:=decide (x.b=0)&&decide (0<=sg d x.a x.b)
end
end NM
set_option maxHeartbeats 4000000
namespace NM
section
variable {d:Int}{n m:Nat}{x y:N3}
theorem sz0:Sz n 0:=Sz.of (by simp;exact Nat.pos_of_ne_zero (by simp))
theorem Lo(h:aB d)(ox:Ok x)(oy:Ok y)(hx:x=au\/sg d x.a x.b=1)(hy:sg d y.a y.b=1):sg d (plus x y).a (plus x y).b=1:=by
 have e:sg d (plus x y).a (plus x y).b=sg d (x.a*y.c+y.a*x.c) (x.b*y.c+y.b*x.c):=HI h (mul_pos ox.c oy.c)
 rw[e]
 rcases hx with rfl|hx
 ·have e1:au.a*y.c+y.a*au.c=y.a:=by show 0*y.c+y.a*1=y.a;omega
  have e2:au.b*y.c+y.b*au.c=y.b:=by show 0*y.c+y.b*1=y.b;omega
  rw[e1,e2];exact hy
 ·have p1:P d (y.c*x.a) (y.c*x.b):=(dH h).mp (by rw[fj h oy.c];exact hx)
  have p2:P d (x.c*y.a) (x.c*y.b):=(dH h).mp (by rw[fj h ox.c];exact hy)
  have:=(dH h).mpr (OF h p1 p2)
  have e1:x.a*y.c+y.a*x.c=y.c*x.a+x.c*y.a:=by grind
  have e2:x.b*y.c+y.b*x.c=y.c*x.b+x.c*y.b:=by grind
  rw[e1,e2];exact this
end
end NM
set_option maxHeartbeats 400000
namespace NM
end NM
namespace NM
end NM
set_option maxHeartbeats 4000000
namespace NM
section
variable {d:Int}{x y z u p q s t w h p' q' s' t' w' h':N3}
theorem iy:Ok au:=⟨⋯,⋯⟩
theorem LH:Ok one:=⟨⋯,⋯⟩
theorem SW(ox:Ok x):plus x au=x:=
 ((ay ox).plus ox iy (ay iy)).eq (dj ox iy) ox (ay ox) (by simp only[au];grind) (by simp only[au];grind)
theorem Tb(ox:Ok x):plus au x=x:=
 ((ay iy).plus iy ox (ay ox)).eq (dj iy ox) ox (ay ox) (by simp only[au];grind) (by simp only[au];grind)
theorem QE(ox:Ok x):times d one x=x:=
 ((ay LH).times LH ox (ay ox)).eq (aZ LH ox) ox (ay ox) (by simp only[one];grind) (by simp only[one];grind)
theorem Fd(ox:Ok x):times d au x=au:=
 ((ay iy).times iy ox (ay ox)).eq (aZ iy ox) iy (ay iy) (by simp only[au];grind) (by simp only[au];grind)
theorem Tf(ox:Ok x):times d x au=au:=
 ((ay ox).times ox iy (ay iy)).eq (aZ ox iy) iy (ay iy) (by simp only[au];grind) (by simp only[au];grind)
noncomputable def hf(d:Int)(p q h:N3):N3:=plus (times d p h) (times d q (bW h))
end
end NM
set_option maxHeartbeats 400000
namespace NM
section
variable {d:Int}{x y z k s o f u v:N3}
theorem Ki(ox:Ok x)(oy:Ok y):times d x y=times d y x:=
 Rep.eq (aZ ox oy) (aZ oy ox) (Rep.times ox oy (ay ox) (ay oy)) (Rep.times oy ox (ay oy) (ay ox)) (by grind) (by grind)
theorem xc(ox:Ok x):times d x one=x:=by rw[Ki ox bF,QE ox]
end
end NM
set_option maxHeartbeats 4000000
namespace GR
theorem pig{α:Type}[DecidableEq α]{l m:List α}(hn:l.Nodup)(hs:∀x∈l,x∈m):l.length<=m.length:=by
 induction l generalizing m with
 |nil=>exact zero_le _
 |cons a l ih=>
  obtain⟨h1,h2⟩:=List.nodup_cons.mp hn
  have hm:a∈m:=hs a mem_cons_self
  have:=ih (m:=m.erase a) h2 fun x hx=>(List.mem_erase_of_ne (show x≠a from fun e=>h1 (e▸hx))).mpr (hs x (mem_cons_of_mem _ hx))
  rw[List.length_erase_of_mem hm] at this
  have:0<m.length:=List.length_pos_of_mem hm
  simp only[length_cons]
  omega
theorem NU{α:Type}[DecidableEq α]{l m:List α}(hn:l.Nodup)(hs:∀x∈l,x∈m)(hl:m.length<=l.length){x:α}(hx:x∈m):x∈l:=by
 by_cases c:x∈l
 ·exact c
 ·have:=pig (l:=x::l) (m:=m) (List.nodup_cons.mpr ⟨c,hn⟩) fun y hy=>by
   rcases List.mem_cons.mp hy with rfl|hy
   ·exact hx
   ·exact hs y hy
  simp only[length_cons] at this
  omega
theorem RB{α:Type}[DecidableEq α]{l m:List α}(hn:l.Nodup)(hm:m.Nodup)(h:∀x,x∈l↔x∈m):l.length=m.length:=
 Nat.le_antisymm (pig hn fun x=>(h x).mp) (pig hm fun x=>(h x).mpr)
structure Bx where
 l:Nat
 r:Nat
 b:Nat
 t:Nat
noncomputable def Bx.has(q:Bx)(i j:Nat):Prop:=q.l<=i/\i<q.r/\q.b<=j/\j<q.t
noncomputable def run(a b:Nat):List Nat:=(List.range (b-a)).map (a + ·)
theorem Oe{a b x:Nat}:x∈run a b↔a<=x/\x<b:=by
 unfold run
 simp only[mem_map,List.mem_range]
 constructor
 ·rintro ⟨k,h,rfl⟩;omega
 ·rintro ⟨h1,h2⟩;exact⟨x-a,∅,∅⟩
theorem AF{a b:Nat}:(run a b).Nodup:=by
 unfold run
 refine List.Pairwise.map _ (fun x y h e=>h ∅) List.nodup_range
theorem gN{a b:Nat}:(run a b).length=b-a:=by simp[run]
noncomputable def cellsOf(q:Bx):List (Nat×Nat):=(run q.l q.r).flatMap fun i=>(run q.b q.t).map fun j=>(i,j)
theorem cO{q:Bx}{i j:Nat}:(i,j)∈cellsOf q↔q.has i j:=by
 unfold cellsOf Bx.has
 simp only[List.mem_flatMap,mem_map,Oe,Prod.mk.injEq]
 constructor
 ·rintro ⟨a,⟨h1,h2⟩,b,⟨h3,h4⟩,rfl,rfl⟩;exact⟨h1,h2,h3,h4⟩
 ·rintro ⟨h1,h2,h3,h4⟩;exact⟨i,⟨h1,h2⟩,j,⟨h3,h4⟩,rfl,rfl⟩
theorem xx{α β:Type}{f:α->List β}{l:List α}:(l.flatMap f).Nodup↔(∀x∈l,(f x).Nodup)/\l.Pairwise fun a b=>∀y∈f a,y ∉ f b:=by
 induction l with
 |nil=>simp
 |cons a l ih=>
  rw[flatMap_cons,List.nodup_append,ih,List.pairwise_cons]
  constructor
  ·rintro ⟨h1,⟨h2,h3⟩,h4⟩
   refine⟨fun x hx=>?_,fun b hb y hy hz=>h4 y hy y (List.mem_flatMap.mpr ⟨b,hb,hz⟩) rfl,h3⟩
   rcases List.mem_cons.mp hx with rfl|hx
   ·exact h1
   ·exact h2 x hx
  ·rintro ⟨h1,h2,h3⟩
   refine⟨h1 a mem_cons_self,⟨fun x hx=>h1 x (mem_cons_of_mem _ hx),h3⟩,fun y hy z hz e=>?_⟩
   obtain⟨b,hb,hz⟩:=List.mem_flatMap.mp hz
   exact h2 b hb y hy (e▸hz)
theorem pI(q:Bx):(cellsOf q).Nodup:=by
 unfold cellsOf
 rw[xx]
 refine⟨fun x _=>List.Pairwise.map _ (fun a b h e=>h (by injection e)) AF,?_⟩
 refine List.Pairwise.imp (fun {a b} h y hy hz=>?_) (AF (a:=q.l) (b:=q.r))
 obtain⟨j,_,rfl⟩:=List.mem_map.mp hy
 obtain⟨k,_,e⟩:=List.mem_map.mp hz
 injection e with e1 e2
 exact h e1.symm
noncomputable def cells(qs:List Bx):List (Nat×Nat):=qs.flatMap cellsOf
noncomputable def Apart(q p:Bx):Prop:=∀i j,q.has i j->¬ p.has i j
theorem nE{qs:List Bx}:(cells qs).Nodup↔qs.Pairwise Apart:=by
 unfold cells
 rw[xx]
 constructor
 ·rintro ⟨_,h⟩
  exact h.imp fun {a b} z i j h1 h2=>z (i,j) (cO.mpr h1) (cO.mpr h2)
 ·intro h
  exact⟨fun q _=>pI q,h.imp fun {a b} z y h1 h2=>z y.1 y.2 (cO.mp h1) (cO.mp h2)⟩
theorem ot{qs:List Bx}{i j:Nat}:(i,j)∈cells qs↔∃q∈qs,q.has i j:=by
 unfold cells
 simp only[List.mem_flatMap,cO]
noncomputable def vW(qs:List Bx)(C R:Nat):Bool:=decide (cells qs).Nodup&&decide ((cells qs).length=C*R)
theorem yM{C R:Nat}:(cellsOf ⟨0,C,0,R⟩).length=C*R:=by
 unfold cellsOf
 rw[List.length_flatMap]
 have:(fun i:Nat=>((run 0 R).map fun j=>(i,j)).length)=fun _=>R:=by funext i;rw[length_map,gN];rfl
 simp only[this,List.map_const',gN,List.sum_replicate_nat,Nat.sub_zero]
theorem Lu{qs:List Bx}{C R:Nat}(hin:∀q∈qs,q.r<=C/\q.t<=R):vW qs C R=true↔qs.Pairwise Apart/\∀i j,i<C->j<R->∃q∈qs,q.has i j:=by
 unfold vW
 rw[and_eq_true,decide_eq_true_iff,decide_eq_true_iff,nE]
 have sub:∀x∈cells qs,x∈cellsOf ⟨0,C,0,R⟩:=fun x hx=>by
  obtain⟨q,hq,h⟩:=ot.mp hx
  obtain⟨h1,h2⟩:=hin q hq
  exact cO.mpr ⟨zero_le _,lt_of_lt_of_le h.2.1 h1,zero_le _,lt_of_lt_of_le h.2.2.2 h2⟩
 constructor
 ·rintro ⟨h1,h2⟩
  refine⟨h1,fun i j hi hj=>?_⟩
  have:=NU (nE.mpr h1) sub (by rw[yM,h2];exact le_refl _) (x:=(i,j)) (cO.mpr ⟨zero_le _,hi,zero_le _,hj⟩)
  exact ot.mp this
 ·rintro ⟨h1,h2⟩
  refine⟨h1,?_⟩
  rw[<- yM]
  refine RB (nE.mpr h1) (pI _) fun x=>⟨sub x,fun hx=>?_⟩
  obtain⟨_,hi,_,hj⟩:=cO.mp hx
  exact ot.mpr (h2 x.1 x.2 hi hj)
structure AY(qs:List Bx)(C R:Nat):Prop where
 fits:∀q∈qs,q.l<q.r/\q.r<=C/\q.b<q.t/\q.t<=R
 apart:qs.Pairwise Apart
 all:∀i j,i<C->j<R->∃q∈qs,q.has i j
end GR
namespace GR
noncomputable abbrev Up(A:List Nat):Prop:=A.Pairwise (· < ·)
theorem dO{α:Type}[BEq α][LawfulBEq α]{A:List α}{a:α}(h:a∈A):A.idxOf a<A.length:=List.idxOf_lt_length_iff.mpr h
theorem wO{α:Type}[BEq α][LawfulBEq α]{A:List α}{a:α}(h:a∈A):A[A.idxOf a]'(dO h)=a:=List.getElem_idxOf (dO h)
theorem J5{A:List Nat}(hA:Up A){a i:Nat}(ha:a∈A)(hi:i<A.length):A.idxOf a<=i↔a<=A[i]:=by
 have e:=wO ha
 constructor
 ·intro h
  rcases Nat.lt_or_eq_of_le h with h|h
  ·have:=List.pairwise_iff_getElem.mp hA _ _ (dO ha) hi h
   omega
  ·have:A[A.idxOf a]'(dO ha)=A[i]:=by congr 1
   omega
 ·intro h
  rcases lt_or_ge i (A.idxOf a) with z|z
  ·have:=List.pairwise_iff_getElem.mp hA _ _ hi (dO ha) z
   omega
  ·exact z
theorem OK{A:List Nat}(hA:Up A){a i:Nat}(ha:a∈A)(hi:i<A.length):i<A.idxOf a↔A[i]<a:=by
 have:=J5 hA ha hi
 omega
noncomputable def cb(A B:List Nat)(q:Bx):Bx:=⟨A.idxOf q.l,A.idxOf q.r,B.idxOf q.b,B.idxOf q.t⟩
structure OnG(A B:List Nat)(q:Bx):Prop where
 l:q.l∈A
 r:q.r∈A
 b:q.b∈B
 t:q.t∈B
theorem Gv{A B:List Nat}(hA:Up A)(hB:Up B){q:Bx}(g:OnG A B q){i j:Nat}(hi:i<A.length)(hj:j<B.length):(cb A B q).has i j↔q.has A[i] B[j]:=by
 unfold Bx.has cb
 rw[J5 hA g.l hi,OK hA g.r hi,J5 hB g.b hj,OK hB g.t hj]
theorem Pw{A B:List Nat}(hA:Up A)(hB:Up B){qs:List Bx}{C R:Nat}(hc:AY qs C R)(g:∀q∈qs,OnG A B q)(hAC:∀a∈A,a<=C)(hBR:∀b∈B,b<=R):vW (qs.map (cb A B)) (A.length-1) (B.length-1)=true:=by
 refine (Lu ?_).mpr ⟨?_,?_⟩
 ·intro q hq
  obtain⟨q,hq2,rfl⟩:=List.mem_map.mp hq
  have a:=dO (g q hq2).r
  have b:=dO (g q hq2).t
  unfold cb
  dsimp only
  omega
 ·rw[List.pairwise_map]
  refine List.Pairwise.imp_of_mem (fun {q p} hq hp h i j h1 h2=>?_) hc.apart
  have gq:=g q hq
  have hi:i<A.length:=Nat.lt_trans h1.2.1 (dO gq.r)
  have hj:j<B.length:=Nat.lt_trans h1.2.2.2 (dO gq.t)
  exact h _ _ ((Gv hA hB gq hi hj).mp h1) ((Gv hA hB (g p hp) hi hj).mp h2)
 ·intro i j hi hj
  have a1:A[i]<A[i+1]:=List.pairwise_iff_getElem.mp hA _ _ ∅ ∅ ∅
  have a2:=hAC A[i+1] (getElem_mem _)
  have b1:B[j]<B[j+1]:=List.pairwise_iff_getElem.mp hB _ _ ∅ ∅ ∅
  have b2:=hBR B[j+1] (getElem_mem _)
  obtain⟨q,hq,h⟩:=hc.all A[i] B[j] ∅ ∅
  exact⟨_,mem_map_of_mem hq,(Gv hA hB (g q hq) ∅ ∅).mpr h⟩
theorem AY.ends{qs:List Bx}{C R:Nat}(h:AY qs C R)(hC:0<C)(hR:0<R):(∃q∈qs,q.l=0)/\(∃q∈qs,q.r=C)/\(∃q∈qs,q.b=0)/\(∃q∈qs,q.t=R):=by
 obtain⟨q,hq,h1⟩:=h.all 0 0 hC hR
 obtain⟨p,hp,h2⟩:=h.all (C-1) (R-1) ∅ ∅
 have f:=h.fits p hp
 refine⟨⟨q,hq,?_⟩,⟨p,hp,?_⟩,⟨q,hq,?_⟩,⟨p,hp,?_⟩⟩<;>unfold Bx.has at h1 h2<;>omega
end GR
namespace L2.DL
open PySem PySem.Spec PyProof.Rows
inductive Box where
 |dict (kvs:List (List Int×PyData))
 |set (ks:List (List Int))
structure Mu where
 l:Addr->Option (List PyData)
 b:Addr->Option Box
noncomputable instance:CoeFun Mu fun _=>Addr->Option (List PyData):=⟨Mu.l⟩
noncomputable abbrev PQ:=PySem.W.Frag->V->Mu->Hp->Prop
inductive D where
 |v (x:PyData)
 |m (a:Addr)
 |s (ns:List Int)
  /-- an object that is handed on -/
 |o (a:Addr)
  /-- a dict or a set -/
 |b (a:Addr)
  /-- a thing of which something is known that stays -/
 |q (P:PQ)
noncomputable abbrev Rho:=List (Option D)
noncomputable def aW(U:Mu)(a:Addr)(ds:List PyData):Mu:=⟨fun b=>if b=a then some ds else U b,U.b⟩
theorem aV{U:Mu}{a:Addr}{ds}:aW U a ds a=some ds:=if_pos rfl
theorem bM{U:Mu}{a b:Addr}{ds}(h:b≠a):aW U a ds b=U b:=if_neg h
noncomputable def ck(U:Mu)(a:Addr)(c:Box):Mu:=⟨U.l,fun b=>if b=a then some c else U.b b⟩
theorem bK{U:Mu}{a:Addr}{c}:(ck U a c).b a=some c:=if_pos rfl
theorem bY{U:Mu}{a b:Addr}{c}(h:b≠a):(ck U a c).b b=U.b b:=if_neg h
theorem Mu.eq{U ν:Mu}(h1:∀b,U b=ν b)(h2:∀b,U.b b=ν.b b):U=ν:=by
 obtain⟨l,b⟩:=U;obtain⟨l',b'⟩:=ν
 cases (funext h1:l=l');cases (funext h2:b=b');rfl
theorem Iq{U:Mu}{a:Addr}{c d}:ck (ck U a c) a d=ck U a d:=Mu.eq (fun _=>rfl) fun b=>by
 by_cases h:b=a
 ·subst h;rw[bK,bK]
 ·rw[bY h,bY h,bY h]
theorem ku{U:Mu}{a:Addr}{ds es}:aW (aW U a ds) a es=aW U a es:=Mu.eq (fun b=>by
 by_cases h:b=a
 ·subst h;rw[aV,aV]
 ·rw[bM h,bM h,bM h]) fun _=>rfl
mutual
inductive Rp(K:PySem.W.Frag)(U:Mu)(H:Hp):PyData->V->Prop
 |none:Rp K U H .none .non
 |bool (b:Bool):Rp K U H (.bool b) (.bl b)
 |int (i:Int):Rp K U H (.int i) (.int i)
 |str (x:Str):Rp K U H (.str x) (.str x)
 |list {a:Addr} {xs:List V} {ds:List PyData}:H a=some (.lst xs)->U a=Option.none->RpL K U H ds xs->Rp K U H (.list ds) (.ref a)
 |tuple {a:Addr} {xs:List V} {ds:List PyData}:SqT K H a xs->RpL K U H ds xs->Rp K U H (.tuple ds) (.ref a)
inductive RpL(K:PySem.W.Frag)(U:Mu)(H:Hp):List PyData->List V->Prop
 |nil:RpL K U H [] []
 |cons {d:PyData} {v:V} {ds:List PyData} {vs:List V}:Rp K U H d v->RpL K U H ds vs->RpL K U H (d::ds) (v::vs)
end
noncomputable def NT:HO->Prop
 |.tbl _=>False
 |.raw _=>False
 |_=>True
structure Ext(K:PySem.W.Frag)(U:Mu)(H:Hp)(ad:Mu)(H':Hp):Prop where
 keep:∀b o,H b=some o->U b=none->NT o->H' b=some o
 tb:∀b ps,H b=some (.tbl ps)->U b=none->∃ps',H' b=some (.tbl ps')
 dom:∀b ds,U b=some ds->∃es,ad b=some es
 fresh:∀b,U b=none->(H b≠none\/K.lookup b≠none)->ad b=none
 st:∀b o,H b=some o->U b=none->∃o',H' b=some o'
 bx:∀b c,U.b b=some c->∃c',ad.b b=some c'
noncomputable def RpD(K:PySem.W.Frag)(U:Mu)(H:Hp):D->V->Prop
 |.v x,u=>Rp K U H x u
 |.m a,u=>u = .ref a/\∃ds,U a=some ds
 |.s ns,u=>∃a,u = .ref a/\SqL K H a (ns.map V.int)/\U a=none
 |.o a,u=>u = .ref a
 |.b a,u=>u = .ref a/\∃c,U.b a=some c
 |.q P,u=>∀ad H',Ext K U H ad H'->P K u ad H'
noncomputable def codeAt(c:Addr)(q:Str)(h:Heap):Prop:=∃o vs t,h.get? c=some o/\o.data = .fields vs/\vs[1]? = some (.str q t)
noncomputable abbrev NF(q:Str):Str:=(q ++ ".<locals>.") ++ "<lambda>"
noncomputable def SR(H:Hp)(P:Addr)(q:Str):Prop:=∃ps:Array Value,H P=some (.tbl ps)/\TriplesOk ps.toList/\∀pos cv,codeAmong pos ps.toList=some cv->∃c,cv = .ref c/\H c=some (.ext (codeAt c (NF q)))
noncomputable def E4(K:PySem.W.Frag)(H:Hp):Prop:=∀c o P q,K.lookup c=some o->cT o=some (P,q)->SR H P q
noncomputable abbrev hI(ks:List Int):Int:=reduceHash (Builtin.Tuple.tupleHashOf (ks.map hashInt))
noncomputable def fg(K:PySem.W.Frag)(U:Mu)(H:Hp)(kvs:List (List Int×PyData))(xs:List (List Int×Addr×Value)):Prop:=
 Paired (fun (p:List Int×PyData) (q:List Int×Addr×Value)=>p.1=q.1/\SqT K H q.2.1 (p.1.map V.int)/\∃v,Rp K U H p.2 v/\RelV v q.2.2) kvs xs
noncomputable def g0(K:PySem.W.Frag)(U:Mu)(H:Hp):Box->Obj->Prop
 |.dict kvs,o=>kvs.length<=sizeLine/\o.ExactDict/\∃es ep,∃xs:List (List Int×Addr×Value),o.data = .dict es ep/\es.toList=xs.map (fun x=>⟨hI x.1,.ref x.2.1,x.2.2⟩)/\(xs.map (·.1)).Nodup/\fg K U H kvs xs
 |.set ks,o=>o.ExactSet/\∃(L:ST.Ln Value) (ep:Nat) (t:SetTable),o.data = .set (L.map (·.2)).toArray ep t/\ST.Tab t L/\L.length*5<t.mask*3/\L.length=ks.length /\
   (∀x∈L,∃k q,x.2.2 = .ref q/\SqT K H q (k.map V.int)/\x.2.1=hI k/\k∈ks)/\∀k∈ks,∃x∈L,∃q,x.2.2 = .ref q/\SqT K H q (k.map V.int)
structure bP(K:PySem.W.Frag)(U:Mu)(H:Hp):Prop where
 lst:∀a ds,U a=some ds->∃xs,H a=some (.lst xs)/\RpL K U H ds xs
 tab:E4 K H
 box:∀a c,U.b a=some c->(a==sysModules)=false/\∃o,H a=some (.raw o)/\g0 K U H c o
noncomputable instance {K:PySem.W.Frag} {U:Mu} {H:Hp}:CoeFun (bP K U H) fun _=>∀a ds,U a=some ds->∃xs,H a=some (.lst xs)/\RpL K U H ds xs:=⟨bP.lst⟩
theorem E4.of{K:PySem.W.Frag}{H H1:Hp}(t:E4 K H)(s:∀b o,H b=some o->(∀xs,o≠.lst xs)->(∀ob,o≠.raw ob)->H1 b=some o):E4 K H1:=fun c o P q h1 h2=>by
 obtain⟨ps,a1,a2,a3⟩:=t c o P q h1 h2
 exact⟨ps,s _ _ a1 (fun _ z=>nomatch z) (fun _ z=>nomatch z),a2,fun pos cv e=>let ⟨c,q1,q2⟩:=a3 pos cv e;⟨c,q1,s _ _ q2 (fun _ z=>nomatch z) (fun _ z=>nomatch z)⟩⟩
noncomputable def jN(K:PySem.W.Frag)(U:Mu)(H:Hp)(ρ:Rho)(Z:St):Prop:=
 ρ.length=Z.length/\∀(i:Nat) (d:D),ρ[i]? = some (some d)->∃u,Z[i]? = some (some u)/\RpD K U H d u
structure St0(K:PySem.W.Frag)(H:Hp)(ρ:Rho)(U:Mu)(Z:St):Prop where
 mu:bP K U H
 rho:jN K U H ρ Z
section
variable {K:PySem.W.Frag}{U al am:Mu}{H H1 H2:Hp}
theorem Ext.refl:Ext K U H U H:=⟨fun _ _ h _ _=>h,fun _ ps h _=>⟨ps,h⟩,fun _ ds h=>⟨ds,h⟩,fun _ h _=>h,fun _ o h _=>⟨o,h⟩,fun _ c h=>⟨c,h⟩⟩
theorem Ext.trans(a:Ext K U H al H1)(b:Ext K al H1 am H2):Ext K U H am H2 where
 keep:=fun c o h n t=>b.keep c o (a.keep c o h n t) (a.fresh c n (.inl (by rw[h];exact fun z=>nomatch z))) t
 tb:=fun c ps h n=>by
  obtain⟨ps1,h1⟩:=a.tb c ps h n
  exact b.tb c ps1 h1 (a.fresh c n (.inl (by rw[h];exact fun z=>nomatch z)))
 dom:=fun c ds h=>let ⟨es,q⟩:=a.dom c ds h;b.dom c es q
 fresh:=fun c n h=>by
  refine b.fresh c (a.fresh c n h) ?_
  rcases h with h|h
  ·cases q:H c with
   |none=>exact absurd q h
   |some o=>
    obtain⟨o',h'⟩:=a.st c o q n
    exact .inl (by rw[h'];exact fun z=>nomatch z)
  ·exact .inr h
 st:=fun c o h n=>by
  obtain⟨o',h'⟩:=a.st c o h n
  exact b.st c o' h' (a.fresh c n (.inl (by rw[h];exact fun z=>nomatch z)))
 bx:=fun c x h=>let ⟨x',q⟩:=a.bx c x h;b.bx c x' q
theorem Ext.of_same(s:CQ H H1):Ext K U H U H1:=⟨fun b o h _ _=>s b o h,fun b ps h _=>⟨ps,s b _ h⟩,fun _ ds h=>⟨ds,h⟩,fun _ h _=>h,fun b o h _=>⟨o,s b o h⟩,fun _ c h=>⟨c,h⟩⟩
theorem bP.not{a:Addr}{o:HO}(ok:bP K U H)(h:H a=some o)(n:∀xs,o≠.lst xs):U a=none:=by
 cases q:U a with
 |none=>rfl
 |some ds=>
  obtain⟨ys,e,_⟩:=ok a ds q
  rw[h] at e
  exact absurd (Option.some.inj e) (n ys)
theorem bP.free{a:Addr}(ok:bP K U H)(h:H a=none):U a=none:=by
 cases q:U a with
 |none=>rfl
 |some ds=>
  obtain⟨ys,e,_⟩:=ok a ds q
  rw[h] at e;cases e
theorem lu{a:Addr}{xs:List V}(ok:bP K U H)(e:Ext K U H al H1)(h:SqT K H a xs):SqT K H1 a xs:=by
 rcases h with (h|⟨o,h⟩)|h
 ·exact .inl (.inl (e.keep _ _ h (ok.not h fun _ z=>nomatch z) trivial))
 ·exact .inl (.inr ⟨o,e.keep _ _ h (ok.not h fun _ z=>nomatch z) trivial⟩)
 ·exact .inr h
theorem Hr{a:Addr}{xs:List V}(e:Ext K U H al H1)(h:SqL K H a xs)(n:U a=none):SqL K H1 a xs/\al a=none:=by
 rcases h with (h|⟨o,h⟩)|h
 ·exact⟨.inl (.inl (e.keep _ _ h n trivial)),e.fresh _ n (.inl (by rw[h];exact fun z=>nomatch z))⟩
 ·exact⟨.inl (.inr ⟨o,e.keep _ _ h n trivial⟩),e.fresh _ n (.inl (by rw[h];exact fun z=>nomatch z))⟩
 ·obtain⟨o,its,k,hk,r⟩:=id h
  exact⟨.inr h,e.fresh _ n (.inr (by rw[hk];exact fun z=>nomatch z))⟩
mutual
theorem Rp.ext{d:PyData}{u:V}(ok:bP K U H)(e:Ext K U H al H1):Rp K U H d u->Rp K al H1 d u
 |.none=>.none
 |.bool b=>.bool b
 |.int i=>.int i
 |.str x=>.str x
 |.list h n r=>.list (e.keep _ _ h n trivial) (e.fresh _ n (.inl (by rw[h];exact fun z=>nomatch z))) (RpL.ext ok e r)
 |.tuple h r=>.tuple (lu ok e h) (RpL.ext ok e r)
theorem RpL.ext{ds:List PyData}{us:List V}(ok:bP K U H)(e:Ext K U H al H1):RpL K U H ds us->RpL K al H1 ds us
 |.nil=>.nil
 |.cons h r=>.cons (Rp.ext ok e h) (RpL.ext ok e r)
end
theorem RpD.ext{d:D}{u:V}(ok:bP K U H)(e:Ext K U H al H1)(r:RpD K U H d u):RpD K al H1 d u:=by
 cases d with
 |v x=>exact Rp.ext ok e r
 |m a=>obtain⟨h,ds,q⟩:=r;exact⟨h,e.dom a ds q⟩
 |s ns=>obtain⟨a,h,q,n⟩:=r;exact⟨a,h,(Hr e q n).1,(Hr e q n).2⟩
 |o a=>exact r
 |b a=>obtain⟨h,c,q⟩:=r;exact⟨h,e.bx a c q⟩
 |q P=>exact fun ad H' e'=>r ad H' (e.trans e')
theorem g0.ext{c:Box}{o:Obj}(ok:bP K U H)(e:Ext K U H al H1)(r:g0 K U H c o):g0 K al H1 c o:=by
 cases c with
 |dict kvs=>
  obtain⟨h1,h2,es,ep,xs,h3,h4,h5,h6⟩:=r
  exact⟨h1,h2,es,ep,xs,h3,h4,h5,Paired.NP h6 fun p q ⟨z1,z2,v,z3,z4⟩=>⟨z1,lu ok e z2,v,Rp.ext ok e z3,z4⟩⟩
 |set ks=>
  obtain⟨h1,L,ep,t,h2,h3,h4,h5,h6,h7⟩:=r
  exact⟨h1,L,ep,t,h2,h3,h4,h5,fun x hx=>let ⟨k,q,z1,z2,z3⟩:=h6 x hx;⟨k,q,z1,lu ok e z2,z3⟩,fun k hk=>let ⟨x,hx,q,z1,z2⟩:=h7 k hk;⟨x,hx,q,z1,lu ok e z2⟩⟩
theorem bP.J6{a:Addr}(ok:bP K U H)(h:H a=none):U.b a=none:=by
 cases q:U.b a with
 |none=>rfl
 |some c=>
  obtain⟨_,ob,e,_⟩:=ok.box a c q
  rw[h] at e;cases e
theorem jN.ext{ρ:Rho}{Z:St}(ok:bP K U H)(e:Ext K U H al H1)(r:jN K U H ρ Z):jN K al H1 ρ Z:=
 ⟨r.1,fun i d h=>let ⟨u,h1,h2⟩:=r.2 i d h;⟨u,h1,h2.ext ok e⟩⟩
theorem RpL.length{ds:List PyData}{us:List V}:RpL K U H ds us->ds.length=us.length
 |.nil=>rfl
 |.cons _ r=>congrArg (· + 1) (RpL.length r)
theorem RpL.get{ds:List PyData}{us:List V}:∀{i:Nat} {d:PyData},RpL K U H ds us->ds[i]? = some d->∃u,us[i]? = some u/\Rp K U H d u
 |_,_,.nil,h=>by simp at h
 |0,_,.cons r _,h=>by simp at h;subst h;exact⟨_,rfl,r⟩
 |i+1,d,.cons _ t,h=>by
  obtain⟨u,h1,h2⟩:=RpL.get (i:=i) (d:=d) t (by simpa using h)
  exact⟨u,by simpa using h1,h2⟩
theorem RpL.append{ds es:List PyData}{us ws:List V}:RpL K U H ds us->RpL K U H es ws->RpL K U H (ds++es) (us++ws)
 |.nil,s=>s
 |.cons r t,s=>.cons r (RpL.append t s)
theorem RpL.take{ds:List PyData}{us:List V}:∀(n:Nat),RpL K U H ds us->RpL K U H (ds.take n) (us.take n)
 |0,_=>by simp;exact .nil
 |_+1,.nil=>by simp;exact .nil
 |n+1,.cons r t=>.cons r (RpL.take n t)
theorem RpL.drop{ds:List PyData}{us:List V}:∀(n:Nat),RpL K U H ds us->RpL K U H (ds.drop n) (us.drop n)
 |0,r=>r
 |_+1,.nil=>by simp;exact .nil
 |n+1,.cons _ t=>RpL.drop n t
theorem RpL.set{ds:List PyData}{us:List V}{d:PyData}{u:V}(q:Rp K U H d u):∀(i:Nat),RpL K U H ds us->RpL K U H (ds.set i d) (us.set i u)
 |_,.nil=>.nil
 |0,.cons _ t=>.cons q t
 |i+1,.cons r t=>.cons r (RpL.set q i t)
theorem Gn{ds:List PyData}{us:List V}{i:Int}{d:PyData}(r:RpL K U H ds us)(h:atI ds i=some d):∃u,atI us i=some u/\Rp K U H d u:=by
 unfold atI at h ⊢
 rw[<- r.length]
 cases q:ixN ds.length i with
 |none=>rw[q] at h;cases h
 |some j=>
  rw[q] at h
  exact r.get h
noncomputable abbrev DK:=D->Mu->Prop
noncomputable abbrev DTE:=Rho->Mu->DK->Prop
noncomputable abbrev DTT:=Rho->Mu->(Bool->Mu->Prop)->Prop
noncomputable abbrev DTA:=Rho->Mu->(List D->Mu->Prop)->Prop
structure Ej where
 nx:Rho->Mu->Prop
 rt:DK
 bk:Rho->Mu->Prop:=fun _ _=>False
 ct:Rho->Mu->Prop:=fun _ _=>False
noncomputable abbrev DTS:=Ej->Rho->Mu->Prop
inductive jt(K:PySem.W.Frag)(U:Mu)(H:Hp):List D->List V->Prop
 |nil:jt K U H [] []
 |cons {d:D} {u:V} {ds:List D} {us:List V}:RpD K U H d u->jt K U H ds us->jt K U H (d::ds) (u::us)
theorem jt.ext{ds:List D}{us:List V}(ok:bP K U H)(e:Ext K U H al H1):jt K U H ds us->jt K al H1 ds us
 |.nil=>.nil
 |.cons h r=>.cons (h.ext ok e) (jt.ext ok e r)
theorem jt.length{ds:List D}{us:List V}:jt K U H ds us->ds.length=us.length
 |.nil=>rfl
 |.cons _ r=>congrArg (· + 1) (jt.length r)
end
noncomputable def rL(K:PySem.W.Frag)(t:TE)(td:DTE):Prop:=∀(Z:St) (H:Hp) (ρ:Rho) (U:Mu) (Qd:DK) (Q:VK),St0 K H ρ U Z->td ρ U Qd ->
 (∀d u ad H',Ext K U H ad H'->St0 K H' ρ ad Z->RpD K ad H' d u->Qd d ad->Q u H')->t Z H Q
noncomputable def JP(K:PySem.W.Frag)(t:TT)(td:DTT):Prop:=∀(Z:St) (H:Hp) (ρ:Rho) (U:Mu) (Qd:Bool->Mu->Prop) (Q:Bool->Hp->Prop),St0 K H ρ U Z->td ρ U Qd ->
 (∀b ad H',Ext K U H ad H'->St0 K H' ρ ad Z->Qd b ad->Q b H')->t Z H Q
noncomputable def OC(K:PySem.W.Frag)(n:Nat)(t:TA)(td:DTA):Prop:=∀(Z:St) (H:Hp) (ρ:Rho) (U:Mu) (Qd:List D->Mu->Prop) (Q:List V->Hp->Prop),St0 K H ρ U Z->td ρ U Qd ->
 (∀ds us ad H',Ext K U H ad H'->St0 K H' ρ ad Z->jt K ad H' ds us->ds.length=n->Qd ds ad->Q us H')->t Z H Q
noncomputable def AB(K:PySem.W.Frag)(t:TS)(td:DTS):Prop:=∀(Z:St) (H:Hp) (ρ:Rho) (U:Mu) (Dd:Ej) (De:Ends),St0 K H ρ U Z->td Dd ρ U ->
 (∀ca ce ad H',Ext K U H ad H'->St0 K H' ce ad ca->Dd.nx ce ad->De.nx ca H') ->
 (∀d u ad H',Ext K U H ad H'->bP K ad H'->RpD K ad H' d u->Dd.rt d ad->De.rt u H') ->
 (∀ca ce ad H',Ext K U H ad H'->St0 K H' ce ad ca->Dd.bk ce ad->De.bk ca H') ->
 (∀ca ce ad H',Ext K U H ad H'->St0 K H' ce ad ca->Dd.ct ce ad->De.ct ca H')->t De Z H
noncomputable def DE(X:Cx)(e:Expr)(td:DTE):Prop:=∃t,PE X e t/\rL X.K t td
noncomputable def DT(X:Cx)(e:Expr)(td:DTT):Prop:=∃t,PT X e t/\JP X.K t td
noncomputable def DA(X:Cx)(es:List Expr)(td:DTA):Prop:=∃t,PA X es t/\OC X.K es.length t td
noncomputable def DS(X:Cx)(st:Stmt)(td:DTS):Prop:=∃t,PS X st t/\AB X.K t td
noncomputable def DSs(X:Cx)(st:List Stmt)(td:DTS):Prop:=∃t,PSs X st t/\AB X.K t td
section
variable {X:Cx}{a b c:Expr}{ta tb tc:DTE}{pos:Pos}
noncomputable def ag(i:Nat):DTE:=fun ρ U Q=>match ρ[i]? with
 |some (some d)=>Q d U
 |_=>False
noncomputable def dC(x:PyData):DTE:=fun _ U Q=>Q (.v x) U
theorem Kj{K:PySem.W.Frag}(i:Nat):rL K (RA i) (ag i):=by
 intro Z H ρ U Qd Q S h k
 unfold ag at h
 split at h
 ·rename_i d e
  obtain⟨u,h1,h2⟩:=S.rho.2 i d e
  exact⟨u,h1,k d u U H .refl S h2 h⟩
 ·exact h.elim
theorem dv(i:Nat){x:Str}{pos:Pos}(hN:X.N[i]? = some x:=by rfl)(hv:Vis X.env.scope x:=by first|exact Or.inl rfl|exact Or.inr (Or.inl rfl)|exact Or.inr (Or.inr rfl))(hd:(x==("__debug__":Str))=false:=by decide)
  (hcd:(x==("__classdict__":Str))=false:=by decide):DE X (.Name x pos) (ag i):=⟨_,Qe hN hv hd hcd,Kj i⟩
theorem xk{K:PySem.W.Frag}{x:PyData}{u:V}(h:∀U H,bP K U H->Rp K U H x u):rL K (tC u) (dC x):=fun Z H ρ U Qd Q S q k=>k (.v x) u U H .refl S (h U H S.mu) q
theorem ai{i j pos}:DE X (.Constant (.int i) j pos) (dC (.int i)):=⟨_,OY,xk fun _ _ _=>.int i⟩
theorem eJ{i j pos}:DE X (.Constant (.bool i) j pos) (dC (.bool i)):=⟨_,Sk,xk fun _ _ _=>.bool i⟩
theorem LL{j pos}:DE X (.Constant .none j pos) (dC .none):=⟨_,O1,xk fun _ _ _=>.none⟩
theorem en{x j pos}:DE X (.Constant (.str x) j pos) (dC (.str x)):=⟨_,Qu,xk fun _ _ _=>.str x⟩
theorem wA{x:Str}{d:PyData}{u:V}{w:Value}{pos:Pos}(hg:Gl X x)(hm:X.mg x=some w)(r:RelV u w)(h:∀U H,bP X.K U H->Rp X.K U H d u)(hd:(x==("__debug__":Str))=false:=by decide):DE X (.Name x pos) (dC d):=
 ⟨_,MG hg hm r hd,xk h⟩
noncomputable def jJ(K:PySem.W.Frag)(rr:R2)(r:D->D->Mu->DK->Prop):Prop:=∀(x y:D) (ux uy:V) (H:Hp) (U:Mu) (Qd:DK) (Q:VK),bP K U H->RpD K U H x ux->RpD K U H y uy->r x y U Qd ->
 (∀d u ad H',Ext K U H ad H'->bP K ad H'->RpD K ad H' d u->Qd d ad->Q u H')->rr ux uy H Q
noncomputable def dOp(r:D->D->Mu->DK->Prop)(ta tb:DTE):DTE:=fun ρ U Q=>ta ρ U fun x al=>tb ρ al fun y am=>r x y am Q
theorem wk{K:PySem.W.Frag}{rr:R2}{r}{t1 t2:TE}(lo:jJ K rr r)(la:rL K t1 ta)(lb:rL K t2 tb):rL K (tOp rr t1 t2) (dOp r ta tb):=by
 intro Z H ρ U Qd Q S h k
 refine la Z H ρ U _ _ S h fun x ux al H1 e1 S1 rx h1=>?_
 refine lb Z H1 ρ al _ _ S1 h1 fun y uy am H2 e2 S2 ry h2=>?_
 exact lo x y ux uy H2 am _ _ S2.mu (rx.ext S1.mu e2) ry h2 fun d u ad H' e3 ok r q=>k d u ad H' (e1.trans (e2.trans e3)) ⟨ok,S2.rho.ext S2.mu e3⟩ r q
theorem wW{op:Operator}{rr:R2}{r}(ho:OpR X (binaryOp op) rr)(lo:jJ X.K rr r)(ha:DE X a ta)(hb:DE X b tb):DE X (.BinOp a op b pos) (dOp r ta tb):=by
 obtain⟨t1,p1,l1⟩:=ha
 obtain⟨t2,p2,l2⟩:=hb
 exact⟨_,Rh ho p1 p2,wk lo l1 l2⟩
theorem b9{op:CmpOp}{rr:R2}{r}(ho:OpR X (compareOp op) rr)(lo:jJ X.K rr r)(ha:DE X a ta)(hb:DE X b tb)(hm:behindInMarks op b=false):DE X (.Compare a [op] [b] pos) (dOp r ta tb):=by
 obtain⟨t1,p1,l1⟩:=ha
 obtain⟨t2,p2,l2⟩:=hb
 exact⟨_,NL ho p1 p2 hm,wk lo l1 l2⟩
noncomputable def dB(t:DTE):DTT:=fun ρ U Q=>t ρ U fun d al=>match d with
 |.v (.bool k)=>Q k al
 |_=>False
theorem A2{K:PySem.W.Frag}{t:TE}{td:DTE}(l:rL K t td):JP K (OG t) (dB td):=by
 intro Z H ρ U Qd Q S h k
 refine l Z H ρ U _ _ S h fun d u al H1 e1 S1 r q=>?_
 split at q
 ·rename_i b
  cases r
  exact⟨b,rfl,k b al H1 e1 S1 q⟩
 ·exact q.elim
theorem aL{op:CmpOp}{rr:R2}{r}(ho:OpR X (compareOp op) rr)(lo:jJ X.K rr r)(ha:DE X a ta)(hb:DE X b tb)(hm:behindInMarks op b=false):DT X (.Compare a [op] [b] pos) (dB (dOp r ta tb)):=by
 obtain⟨t1,p1,l1⟩:=ha
 obtain⟨t2,p2,l2⟩:=hb
 exact⟨_,Mx ho p1 p2 hm,A2 (wk lo l1 l2)⟩
theorem bJ{e:Expr}{td:DTE}(h:DE X e td)(he:∀whole,isTrue e X.env whole=(do let v <- whole;standAt e.pos;holding [v] (truthy v)):=by intro _;rfl):DT X e (dB td):=by
 obtain⟨t,p,l⟩:=h
 exact⟨_,P0 p he,A2 l⟩
noncomputable def rII(C:Int->Int->Prop)(g:Int->Int->PyData):D->D->Mu->DK->Prop:=fun x y U Q=>match x,y with
 |.v (.int i),.v (.int j)=>C i j/\Q (.v (g i j)) U
 |_,_=>False
theorem Ni{K:PySem.W.Frag}{C:Int->Int->Prop}{g:Int->Int->V}{gd:Int->Int->PyData}(hg:∀U H i j,Rp K U H (gd i j) (g i j)):jJ K (rI C g) (rII C gd):=by
 intro x y ux uy H U Qd Q ok rx ry h k
 unfold rII at h
 split at h
 ·rename_i i j
  cases rx;cases ry
  exact⟨i,j,rfl,rfl,h.1,k (.v _) _ U H .refl ok (hg U H i j) h.2⟩
 ·exact h.elim
noncomputable def zM(g:Int->Int->PyData):D->D->Mu->DK->Prop:=fun x y U Q=>match x,y with
 |.v (.int i),.v (.int j)=>Q (.v (g i j)) U
 |_,_=>False
theorem K3{K:PySem.W.Frag}{g:Int->Int->V}{gd:Int->Int->PyData}(hg:∀U H i j,Rp K U H (gd i j) (g i j)):jJ K (rI0 g) (zM gd):=by
 intro x y ux uy H U Qd Q ok rx ry h k
 unfold zM at h
 split at h
 ·rename_i i j
  cases rx;cases ry
  exact⟨i,j,rfl,rfl,k (.v _) _ U H .refl ok (hg U H i j) h⟩
 ·exact h.elim
noncomputable abbrev jd(ta tb:DTE):DTE:=dOp (zM fun i j=>.int (i+j)) ta tb
noncomputable abbrev nB(ta tb:DTE):DTE:=dOp (zM fun i j=>.int (i-j)) ta tb
noncomputable abbrev MulOk(i j:Int):Prop:=IntMulOk i j
noncomputable abbrev bU(ta tb:DTE):DTE:=dOp (rII MulOk fun i j=>.int (i*j)) ta tb
noncomputable abbrev yA(ta tb:DTE):DTE:=dOp (rII (fun _ j=>j≠0) fun i j=>.int (i.fmod j)) ta tb
noncomputable abbrev rN(i j:Int):Prop:=j≠0/\Builtin.divisionGoesByPylong i j=false
noncomputable abbrev ui(ta tb:DTE):DTE:=dOp (rII rN fun i j=>.int (i.fdiv j)) ta tb
noncomputable abbrev QF(ta tb:DTE):DTE:=dOp (rII Qx fun i j=>.int (i ^ j.toNat)) ta tb
theorem Nv:OpR X (binaryOp .Mult) (rI MulOk fun i j=>.int (i*j)):=opI fun _ _ _ _ _ _ _ hc q=>mul_int q hc
theorem Mk:OpR X (binaryOp .FloorDiv) (rI rN fun i j=>.int (i.fdiv j)):=opI fun _ _ _ _ _ _ _ hc q=>floordiv_int hc.1 q (.inl hc.2)
theorem cI(ha:DE X a ta)(hb:DE X b tb):DE X (.BinOp a .Add b pos) (jd ta tb):=wW QP (K3 fun _ _ _ _=>.int _) ha hb
theorem eo(ha:DE X a ta)(hb:DE X b tb):DE X (.BinOp a .Sub b pos) (nB ta tb):=wW OW (K3 fun _ _ _ _=>.int _) ha hb
theorem aR(ha:DE X a ta)(hb:DE X b tb):DE X (.BinOp a .Mult b pos) (bU ta tb):=wW Nv (Ni fun _ _ _ _=>.int _) ha hb
theorem jX(ha:DE X a ta)(hb:DE X b tb):DE X (.BinOp a .Mod b pos) (yA ta tb):=wW M9 (Ni fun _ _ _ _=>.int _) ha hb
theorem ig(ha:DE X a ta)(hb:DE X b tb):DE X (.BinOp a .FloorDiv b pos) (ui ta tb):=wW Mk (Ni fun _ _ _ _=>.int _) ha hb
theorem JH(ha:DE X a ta)(hb:DE X b tb):DE X (.BinOp a .Pow b pos) (QF ta tb):=wW PB (Ni fun _ _ _ _=>.int _) ha hb
noncomputable abbrev rLt:=zM fun i j=>.bool (decide (i<j))
noncomputable abbrev rLe:=zM fun i j=>.bool (decide (i<=j))
noncomputable abbrev rGt:=zM fun i j=>.bool (decide (j<i))
noncomputable abbrev rGe:=zM fun i j=>.bool (decide (j<=i))
theorem dP{K:PySem.W.Frag}{p:Int->Int->Bool}:jJ K (rI0 fun i j=>.bl (p i j)) (zM fun i j=>.bool (p i j)):=K3 fun _ _ _ _=>.bool _
noncomputable def tU(ta:DTE):DTE:=fun ρ U Q=>ta ρ U fun x al=>match x with
 |.v (.int i)=>Q (.v (.int (-i))) al
 |_=>False
theorem iI(ha:DE X a ta):DE X (.UnaryOp .USub a pos) (tU ta):=by
 obtain⟨t1,p1,l1⟩:=ha
 refine⟨_,RF Px p1,fun Z H ρ U Qd Q S h k=>?_⟩
 refine l1 Z H ρ U _ _ S h fun x ux al H1 e1 S1 rx h1=>?_
 split at h1
 ·rename_i i
  cases rx
  exact⟨i,rfl,k (.v _) _ al H1 e1 S1 (Rp.int _) h1⟩
 ·exact h1.elim
noncomputable def A0(t u:DTT):DTT:=fun ρ U Q=>t ρ U fun c al=>if c=true then u ρ al Q else Q false al
noncomputable def iA(t u:DTT):DTT:=fun ρ U Q=>t ρ U fun c al=>if c=true then Q true al else u ρ al Q
noncomputable def de(t:DTT):DTT:=fun ρ U Q=>t ρ U fun c al=>Q (!c) al
noncomputable def DW(X:Cx)(e:Expr)(td:DTT):Prop:=∃t,PW X e t/\JP X.K t td
theorem DW.dt{e:Expr}{td:DTT}(h:DW X e td):DT X e td:=let ⟨t,p,l⟩:=h;⟨t,p.pt,l⟩
variable {tA tB':DTT}{rest:List Expr}
theorem wg(ha:DT X a tA):DW X (.BoolOp .And [a] pos) tA:=let ⟨t,p,l⟩:=ha;⟨t,pw_and1 p,l⟩
theorem eu(ha:DT X a tA):DW X (.BoolOp .Or [a] pos) tA:=let ⟨t,p,l⟩:=ha;⟨t,pw_or1 p,l⟩
theorem CL(ha:DT X a tA)(hb:DW X (.BoolOp .And (b::rest) pos) tB'):DW X (.BoolOp .And (a::b::rest) pos) (A0 tA tB'):=by
 obtain⟨t1,p1,l1⟩:=ha
 obtain⟨t2,p2,l2⟩:=hb
 refine⟨_,pw_and p1 p2,fun Z H ρ U Qd Q S h k=>?_⟩
 refine l1 Z H ρ U _ _ S h fun c al H1 e1 S1 h1=>?_
 cases c with
 |true=>
  refine IT (l2 Z H1 ρ al _ _ S1 (by simpa using h1) fun c am H2 e2 S2 h2=>k c am H2 (e1.trans e2) S2 h2)
 |false=>exact Ia (k false al H1 e1 S1 (by simpa using h1))
theorem eM(ha:DT X a tA)(hb:DW X (.BoolOp .Or (b::rest) pos) tB'):DW X (.BoolOp .Or (a::b::rest) pos) (iA tA tB'):=by
 obtain⟨t1,p1,l1⟩:=ha
 obtain⟨t2,p2,l2⟩:=hb
 refine⟨_,pw_or p1 p2,fun Z H ρ U Qd Q S h k=>?_⟩
 refine l1 Z H ρ U _ _ S h fun c al H1 e1 S1 h1=>?_
 cases c with
 |true=>exact IT (k true al H1 e1 S1 (by simpa using h1))
 |false=>
  refine Ia (l2 Z H1 ρ al _ _ S1 (by simpa using h1) fun c am H2 e2 S2 h2=>k c am H2 (e1.trans e2) S2 h2)
theorem cq(ha:DT X a tA):DT X (.UnaryOp .Not a pos) (de tA):=by
 obtain⟨t1,p1,l1⟩:=ha
 refine⟨_,Pp p1,fun Z H ρ U Qd Q S h k=>?_⟩
 exact l1 Z H ρ U _ _ S h fun c al H1 e1 S1 h1=>k _ al H1 e1 S1 h1
noncomputable def kK(ta tb:DTE):DTE:=fun ρ U Q=>ta ρ U fun x al=>match x with
 |.v (.bool c)=>if c=true then tb ρ al Q else Q (.v (.bool false)) al
 |_=>False
noncomputable def zV(ta:DTE):DTE:=fun ρ U Q=>ta ρ U fun x al=>match x with
 |.v (.bool c)=>Q (.v (.bool (!c))) al
 |_=>False
theorem nt{op}(h:DE X a ta):DE X (.BoolOp op [a] pos) ta:=let ⟨t,p,l⟩:=h;⟨t,OS p,l⟩
theorem ke(ha:DE X a ta)(hb:DE X (.BoolOp .And (b::rest) pos) tb):DE X (.BoolOp .And (a::b::rest) pos) (kK ta tb):=by
 obtain⟨t1,p1,l1⟩:=ha
 obtain⟨t2,p2,l2⟩:=hb
 refine⟨_,Q2 p1 p2,fun Z H ρ U Qd Q S h k=>?_⟩
 refine l1 Z H ρ U _ _ S h fun x ux al H1 e1 S1 rx h1=>?_
 split at h1
 ·rename_i c
  cases rx
  refine⟨c,rfl,?_⟩
  cases c with
  |true=>exact IT (l2 Z H1 ρ al _ _ S1 (by simpa using h1) fun d u am H2 e2 S2 r2 h2=>k d u am H2 (e1.trans e2) S2 r2 h2)
  |false=>exact Ia (k (.v _) _ al H1 e1 S1 (Rp.bool false) (by simpa using h1))
 ·exact h1.elim
theorem Bq(ha:DE X a ta):DE X (.UnaryOp .Not a pos) (zV ta):=by
 obtain⟨t1,p1,l1⟩:=ha
 refine⟨_,O6 p1,fun Z H ρ U Qd Q S h k=>?_⟩
 refine l1 Z H ρ U _ _ S h fun x ux al H1 e1 S1 rx h1=>?_
 split at h1
 ·rename_i c
  cases rx
  exact⟨c,rfl,k (.v _) _ al H1 e1 S1 (Rp.bool _) h1⟩
 ·exact h1.elim
noncomputable def dIf(t:DTT)(ta tb:DTE):DTE:=fun ρ U Q=>t ρ U fun c al=>if c=true then ta ρ al Q else tb ρ al Q
theorem rn{c:Expr}(hc:DT X c tA)(ha:DE X a ta)(hb:DE X b tb):DE X (.IfExp c a b pos) (dIf tA ta tb):=by
 obtain⟨t0,p0,l0⟩:=hc
 obtain⟨t1,p1,l1⟩:=ha
 obtain⟨t2,p2,l2⟩:=hb
 refine⟨_,LD p0 p1 p2,fun Z H ρ U Qd Q S h k=>?_⟩
 refine l0 Z H ρ U _ _ S h fun c al H1 e1 S1 h1=>?_
 cases c with
 |true=>exact IT (l1 Z H1 ρ al _ _ S1 (by simpa using h1) fun d u am H2 e2 S2 r2 h2=>k d u am H2 (e1.trans e2) S2 r2 h2)
 |false=>exact Ia (l2 Z H1 ρ al _ _ S1 (by simpa using h1) fun d u am H2 e2 S2 r2 h2=>k d u am H2 (e1.trans e2) S2 r2 h2)
end
section
variable {K:PySem.W.Frag}{U al:Mu}{H H1:Hp}{p:Addr}
theorem dM{o:HO}(h:H p=none):Ext K U H U (upd H p o):=
 ⟨fun b u e _ _=>by rw[aU (aY e h)];exact e,fun b ps e _=>⟨ps,by rw[aU (aY e h)];exact e⟩,fun _ ds q=>⟨ds,q⟩,fun _ q _=>q,fun b o e _=>⟨o,by rw[aU (aY e h)];exact e⟩,fun _ c q=>⟨c,q⟩⟩
theorem bP.NH(ok:bP K U H)(e:Ext K U H U H1)(s:CQ H H1):bP K U H1:=⟨fun a ds q=>by
 obtain⟨xs,h1,h2⟩:=ok a ds q
 exact⟨xs,s _ _ h1,h2.ext ok e⟩,ok.tab.of fun b o h _ _=>s b o h,fun a c q=>by
 obtain⟨z,o,h1,h2⟩:=ok.box a c q
 exact⟨z,o,s _ _ h1,h2.ext ok e⟩⟩
theorem DD{o:HO}(h:H p=none):CQ H (upd H p o):=fun b u q=>by rw[aU (aY q h)];exact q
theorem bP.new{o:HO}(ok:bP K U H)(h:H p=none):bP K U (upd H p o):=ok.NH (dM h) (DD h)
theorem St0.new{o:HO}{ρ:Rho}{Z:St}(S:St0 K H ρ U Z)(h:H p=none):St0 K (upd H p o) ρ U Z:=⟨S.mu.new h,S.rho.ext S.mu (dM h)⟩
theorem iN{us:List V}{ds:List PyData}(ok:bP K U H)(r:RpL K U H ds us)(h:H p=none):Rp K U (upd H p (.tup us)) (.tuple ds) (.ref p):=
 .tuple (SqT.of eN) (r.ext ok (dM h))
theorem gr{us:List V}{ds:List PyData}(ok:bP K U H)(r:RpL K U H ds us)(h:H p=none):Rp K U (upd H p (.lst us)) (.list ds) (.ref p):=
 .list eN (ok.free h) (r.ext ok (dM h))
theorem rR{o:HO}{ds:List PyData}(ok:bP K U H)(h:H p=none)(hk:K.lookup p=none):Ext K U H (aW U p ds) (upd H p o) where
 keep:=fun b u e _ _=>by rw[aU (aY e h)];exact e
 tb:=fun b ps e _=>⟨ps,by rw[aU (aY e h)];exact e⟩
 dom:=fun b es q=>by
  have:b≠p:=fun z=>by rw[z,ok.free h] at q;cases q
  exact⟨es,by rw[bM this];exact q⟩
 fresh:=fun b n q=>by
  have:b≠p:=fun z=>by
   rcases q with q|q
   ·exact q (by rw[z];exact h)
   ·exact q (by rw[z];exact hk)
  rw[bM this];exact n
 st:=fun b o e _=>⟨o,by rw[aU (aY e h)];exact e⟩
 bx:=fun b c q=>⟨c,q⟩
theorem bP.mut{us:List V}{ds:List PyData}(ok:bP K U H)(r:RpL K U H ds us)(h:H p=none)(hk:K.lookup p=none):bP K (aW U p ds) (upd H p (.lst us)):=⟨fun a es q=>by
 have e:=rR (o:=.lst us) (ds:=ds) ok h hk
 by_cases ha:a=p
 ·subst ha
  rw[aV] at q
  cases q
  exact⟨us,eN,r.ext ok e⟩
 ·rw[bM ha] at q
  obtain⟨xs,h1,h2⟩:=ok a es q
  exact⟨xs,by rw[aU ha];exact h1,h2.ext ok e⟩,ok.tab.of fun b o e _ _=>by rw[aU (aY e h)];exact e,fun a c q=>by
 obtain⟨z,o,h1,h2⟩:=ok.box a c q
 exact⟨z,o,by rw[aU (aY h1 h)];exact h1,h2.ext ok (rR ok h hk)⟩⟩
theorem lN{o:HO}{ds es:List PyData}(h:U p=some ds):Ext K U H (aW U p es) (upd H p o) where
 keep:=fun b u e n _=>by
  have:b≠p:=fun z=>by rw[z,h] at n;cases n
  rw[aU this];exact e
 tb:=fun b ps e n=>by
  have:b≠p:=fun z=>by rw[z,h] at n;cases n
  exact⟨ps,by rw[aU this];exact e⟩
 dom:=fun b fs q=>by
  by_cases hb:b=p
  ·subst hb;exact⟨es,aV⟩
  ·exact⟨fs,by rw[bM hb];exact q⟩
 fresh:=fun b n q=>by
  have:b≠p:=fun z=>by rw[z,h] at n;cases n
  rw[bM this];exact n
 st:=fun b o e n=>by
  have:b≠p:=fun z=>by rw[z,h] at n;cases n
  exact⟨o,by rw[aU this];exact e⟩
 bx:=fun b c q=>⟨c,q⟩
theorem bP.set{us:List V}{ds es:List PyData}(ok:bP K U H)(h:U p=some ds)(r:RpL K U H es us):bP K (aW U p es) (upd H p (.lst us)):=⟨fun a fs q=>by
 have e:Ext K U H (aW U p es) (upd H p (.lst us)):=lN h
 by_cases ha:a=p
 ·subst ha
  rw[aV] at q
  cases q
  exact⟨us,eN,r.ext ok e⟩
 ·rw[bM ha] at q
  obtain⟨xs,h1,h2⟩:=ok a fs q
  exact⟨xs,by rw[aU ha];exact h1,h2.ext ok e⟩,by
 obtain⟨ys,hy,_⟩:=ok p ds h
 exact ok.tab.of fun b o e n _=>by
  have:b≠p:=fun z=>by rw[z,hy] at e;exact n ys (Option.some.inj e).symm
  rw[aU this];exact e,fun a c q=>by
 obtain⟨ys,hy,_⟩:=ok p ds h
 obtain⟨z,o,h1,h2⟩:=ok.box a c q
 have:a≠p:=fun w=>by rw[w,hy] at h1;cases h1
 exact⟨z,o,by rw[aU this];exact h1,h2.ext ok (lN h)⟩⟩
end
noncomputable def cH:List D->Option (List PyData)
 |[]=>some []
 |.v x::r=>(cH r).map (x::·)
 |_::_=>none
theorem jt.data{K:PySem.W.Frag}{U:Mu}{H:Hp}:∀{ds:List D} {us:List V} {xs:List PyData},jt K U H ds us->cH ds=some xs->RpL K U H xs us
 |_,_,_,.nil,e=>by cases e;exact .nil
 |.v x::r,_,xs,.cons h t,e=>by
  simp only[cH] at e
  cases q:cH r with
  |none=>rw[q] at e;cases e
  |some ys=>rw[q] at e;cases e;exact .cons h (jt.data t q)
 |.m _::_,_,_,.cons _ _,e=>by simp[cH] at e
 |.s _::_,_,_,.cons _ _,e=>by simp[cH] at e
 |.o _::_,_,_,.cons _ _,e=>by simp[cH] at e
section
variable {X:Cx}{e:Expr}{es:List Expr}{te:DTE}{t:DTA}{pos:Pos}
noncomputable def ar:DTA:=fun _ U Q=>Q [] U
noncomputable def af(ta:DTE)(tr:DTA):DTA:=fun ρ U Q=>ta ρ U fun x al=>tr ρ al fun xs am=>Q (x::xs) am
theorem ah:DA X [] ar:=⟨_,Di,fun Z H ρ U Qd Q S h k=>k [] [] U H .refl S .nil rfl h⟩
theorem ae(ha:DE X e te)(hr:DA X es t)(hs:starEach (e::es) X.env=(false,eval e X.env)::starEach es X.env:=by rfl):DA X (e::es) (af te t):=by
 obtain⟨t1,p1,l1⟩:=ha
 obtain⟨t2,p2,l2⟩:=hr
 refine⟨_,oN p1 p2 hs,fun Z H ρ U Qd Q S h k=>?_⟩
 refine l1 Z H ρ U _ _ S h fun x ux al H1 e1 S1 rx h1=>?_
 refine l2 Z H1 ρ al _ _ S1 h1 fun xs us am H2 e2 S2 rs len h2=>?_
 exact k (x::xs) (ux::us) am H2 (e1.trans e2) S2 (.cons (rx.ext S1.mu e2) rs) (by rw[length_cons,length_cons,len]) h2
noncomputable def bR(t:DTA):DTE:=fun ρ U Q=>t ρ U fun ds al=>match cH ds with
 |some xs=>Q (.v (.tuple xs)) al
 |none=>False
noncomputable def vR(t:DTA):DTE:=fun ρ U Q=>t ρ U fun ds al=>match cH ds with
 |some xs=>Q (.v (.list xs)) al
 |none=>False
noncomputable def Ab(t:DTA):DTE:=fun ρ U Q=>t ρ U fun ds al=>match cH ds with
 |some xs=>∀p,al p=none->Q (.m p) (aW al p xs)
 |none=>False
theorem aQ{x1}(h:DA X es t)(hl:es.length<=1000:=by decide):DE X (.Tuple es x1 pos) (bR t):=by
 obtain⟨t1,p1,l1⟩:=h
 refine⟨_,P1 p1,fun Z H ρ U Qd Q S h k=>?_⟩
 refine l1 Z H ρ U _ _ S h fun ds us al H1 e1 S1 rs len h1=>?_
 cases q:cH ds with
 |none=>rw[q] at h1;exact h1.elim
 |some xs=>
  rw[q] at h1
  refine⟨Nat.le_of_lt (gx (by rw[<- rs.length,len];exact hl)),fun p hp=>?_⟩
  exact k (.v (.tuple xs)) _ al _ (e1.trans (dM hp)) (S1.new hp) (iN S1.mu (rs.data q) hp) h1
theorem jT(h:DA X es t)(hl:es.length<=1000:=by decide):DE X (.List es pos) (vR t):=by
 obtain⟨t1,p1,l1⟩:=h
 refine⟨_,P2 p1,fun Z H ρ U Qd Q S h k=>?_⟩
 refine l1 Z H ρ U _ _ S h fun ds us al H1 e1 S1 rs len h1=>?_
 cases q:cH ds with
 |none=>rw[q] at h1;exact h1.elim
 |some xs=>
  rw[q] at h1
  refine⟨Nat.le_of_lt (gx (by rw[<- rs.length,len];exact hl)),fun p hp=>?_⟩
  exact k (.v (.list xs)) _ al _ (e1.trans (dM hp)) (S1.new hp) (gr S1.mu (rs.data q) hp) h1
noncomputable def RL(K:PySem.W.Frag)(t:TA):TE:=fun Z H Q=>t Z H fun xs H1=>xs.length<=sizeLine/\∀p,H1 p=none->K.lookup p=none->Q (.ref p) (upd H1 p (.lst xs))
theorem Ob{t:TA}(h:PA X es t):PE X (.List es pos) (RL X.K t):=by
 intro pins s Z H Q I hq
 refine wpAny_List_spliced (thn (h pos pins s Z H _ I hq) fun us s1 ⟨xs,H1,I1,r,z,q⟩=>⟨by rw[<- r.length];exact z,?_⟩)
 have hf:H1 s1.heap.objs.size=none:=I1.hok.fresh (le_refl _)
 have hk:X.K.lookup s1.heap.objs.size=none:=by
  cases c:X.K.lookup s1.heap.objs.size with
  |none=>rfl
  |some o=>exact absurd (Heap.lt_size (I1.kIn _ _ c)) (lt_irrefl _)
 refine⟨.ref s1.heap.objs.size,upd H1 s1.heap.objs.size (.lst xs),I1.laid (t':=s1.toks) (fun b u e=>Heap.get?_push_of_some _ e) (le_refl _) ?_,rfl,q _ hf hk⟩
 exact⟨z,us,0,r,Heap.get?_push_size _ rfl⟩
theorem v5(h:DA X es t)(hl:es.length<=1000:=by decide):DE X (.List es pos) (Ab t):=by
 obtain⟨t1,p1,l1⟩:=h
 refine⟨_,Ob p1,fun Z H ρ U Qd Q S h k=>?_⟩
 refine l1 Z H ρ U _ _ S h fun ds us al H1 e1 S1 rs len h1=>?_
 cases q:cH ds with
 |none=>rw[q] at h1;exact h1.elim
 |some xs=>
  rw[q] at h1
  refine⟨Nat.le_of_lt (gx (by rw[<- rs.length,len];exact hl)),fun p hp hk=>?_⟩
  have ex:=rR (o:=.lst us) (ds:=xs) S1.mu hp hk
  exact k (.m p) _ (aW al p xs) _ (e1.trans ex) ⟨S1.mu.mut (rs.data q) hp hk,S1.rho.ext S1.mu ex⟩ ⟨rfl,xs,aV⟩ (h1 p (S1.mu.free hp))
end
section
variable {X:Cx}{pins:List (Addr×Obj)}{Z:St}{H:Hp}{s:Shared}{U:Mu}
mutual
theorem fX(I:Inv X pins Z H s):∀{d:PyData} {x:V} {u:Value},Rp X.K U H d x->RelV x u->∃as,Reads s.heap u d as
 |_,_,_,.none,r=>by cases r;exact⟨_,.none⟩
 |_,_,_,.bool b,r=>by cases r;exact⟨_,.bool b⟩
 |_,_,_,.int i,r=>by obtain⟨t,rfl⟩:=r;exact⟨_,.int i t⟩
 |_,_,_,.str y,r=>by obtain⟨t,rfl⟩:=r;exact⟨_,.str y t⟩
 |_,_,_,.list h _ q,r=>by
  cases r
  obtain⟨its,rv,⟨o,n,ho,hc,_,hd⟩,_⟩:=I.list (SqL.of h)
  obtain⟨as,ra⟩:=nP I q rv
  exact⟨_,.list ho hc hd (by simpa using ra)⟩
 |_,_,_,.tuple h q,r=>by
  cases r
  obtain⟨its,rv,⟨o,ho,hc,n,hd⟩,_⟩:=I.tuple h
  obtain⟨as,ra⟩:=nP I q rv
  exact⟨_,.tuple ho hc hd (by simpa using ra)⟩
theorem nP(I:Inv X pins Z H s):∀{ds:List PyData} {xs:List V} {us:List Value},RpL X.K U H ds xs->Vals xs us->∃as,ReadsAll s.heap us ds as
 |_,_,_,.nil,.nil=>⟨_,.nil⟩
 |_,_,_,.cons h t,.cons r q=>by
  obtain⟨as,ra⟩:=fX I h r
  obtain⟨bs,rb⟩:=nP I t q
  exact⟨_,.cons ra rb⟩
end
end
section
variable {X:Cx}
noncomputable def Qc(K:PySem.W.Frag)(neg:Bool):R2:=fun x y H Q=>∃U a b,Rp K U H a x/\Rp K U H b y/\SeqAt.shaped a=true/\SeqAt.shaped b=true/\Q (.bl (neg ^^ PyData.eqv a b)) H
theorem bI(hu:X.A.units+64<cLine):OpR X (compareOp .Eq) (Qc X.K false):=by
 intro pins s Z H x y v u Q I rx ry h
 obtain⟨U,a,b,ha,hb,sa,sb,q⟩:=h
 obtain⟨as,ra⟩:=fX I ha rx
 obtain⟨bs,rb⟩:=fX I hb ry
 exact eq_dataH ra rb sa sb hu ⟨.bl (PyData.eqv a b),H,I,rfl,by simpa using q⟩
theorem fw(hu:X.A.units+64<cLine):OpR X (compareOp .NotEq) (Qc X.K true):=by
 intro pins s Z H x y v u Q I rx ry h
 obtain⟨U,a,b,ha,hb,sa,sb,q⟩:=h
 obtain⟨as,ra⟩:=fX I ha rx
 obtain⟨bs,rb⟩:=fX I hb ry
 exact ne_dataH ra rb sa sb hu ⟨.bl (!PyData.eqv a b),H,I,rfl,by simpa using q⟩
noncomputable def bZ(neg:Bool):D->D->Mu->DK->Prop:=fun x y U Q=>match x,y with
 |.v a,.v b=>SeqAt.shaped a=true/\SeqAt.shaped b=true/\Q (.v (.bool (neg ^^ PyData.eqv a b))) U
 |_,_=>False
theorem bc{K:PySem.W.Frag}{neg:Bool}:jJ K (Qc K neg) (bZ neg):=by
 intro x y ux uy H U Qd Q ok rx ry h k
 unfold bZ at h
 split at h
 ·rename_i a b
  exact⟨U,a,b,rx,ry,h.1,h.2.1,k (.v _) _ U H .refl ok (Rp.bool _) h.2.2⟩
 ·exact h.elim
noncomputable def Qo(K:PySem.W.Frag)(neg:Bool):R2:=fun x y H Q=>∃U a bs,Rp K U H a x/\Rp K U H (.list bs) y/\PyData.canLayAll0 bs=true/\a.canLay0=true/\PyData.depth a<=60/\Q (.bl (neg ^^ bs.any fun b=>PyData.eqv b a)) H
theorem Gm(hu:X.A.units+64<cLine):OpR X (compareOp .In) (Qo X.K false):=by
 intro pins s Z H x y v u Q I rx ry h
 obtain⟨U,a,b,ha,hb,sb,sa,dp,q⟩:=h
 obtain⟨as,ra⟩:=fX I ha rx
 obtain⟨bs,rb⟩:=fX I hb ry
 refine SeqAt.in_list_reads rb ra sb sa ∅ ⟨.bl (b.any fun z=>PyData.eqv z a),H,I,rfl,by simpa using q⟩
theorem Ii(hu:X.A.units+64<cLine):OpR X (compareOp .NotIn) (Qo X.K true):=by
 intro pins s Z H x y v u Q I rx ry h
 obtain⟨U,a,b,ha,hb,sb,sa,dp,q⟩:=h
 obtain⟨as,ra⟩:=fX I ha rx
 obtain⟨bs,rb⟩:=fX I hb ry
 refine SeqAt.notIn_list_reads rb ra sb sa ∅ ⟨.bl (!b.any fun z=>PyData.eqv z a),H,I,rfl,by simpa using q⟩
noncomputable def GI(neg:Bool):D->D->Mu->DK->Prop:=fun x y U Q=>match x,y with
 |.v a,.v (.list bs)=>PyData.canLayAll0 bs=true/\a.canLay0=true/\PyData.depth a<=60/\Q (.v (.bool (neg ^^ bs.any fun b=>PyData.eqv b a))) U
 |_,_=>False
theorem Bn{K:PySem.W.Frag}{neg:Bool}:jJ K (Qo K neg) (GI neg):=by
 intro x y ux uy H U Qd Q ok rx ry h k
 unfold GI at h
 split at h
 ·rename_i a b
  exact⟨U,a,b,rx,ry,h.1,h.2.1,h.2.2.1,k (.v _) _ U H .refl ok (Rp.bool _) h.2.2.2⟩
 ·exact h.elim
end
section
variable {X:Cx}{a b e:Expr}{es:List Expr}{ta tb te:DTE}{t:DTA}{p pos:Pos}
noncomputable def aF:D->D->Mu->DK->Prop:=fun x y U Q=>match x,y with
 |.v (.list xs),.v (.int i)=>(match atI xs i with|some d=>Q (.v d) U|none=>False)
 |.v (.tuple xs),.v (.int i)=>(match atI xs i with|some d=>Q (.v d) U|none=>False)
 |.m l,.v (.int i)=>(match U l with
  |some xs=>(match atI xs i with|some d=>Q (.v d) U|none=>False)
  |none=>False)
 |.s ns,.v (.int i)=>(match atI ns i with|some d=>Q (.v (.int d)) U|none=>False)
 |_,_=>False
theorem Sb{K:PySem.W.Frag}:jJ K (rIx K) aF:=by
 intro x y ux uy H U Qd Q ok rx ry h k
 unfold aF at h
 split at h
 ·rename_i xs i
  cases ry
  cases q:atI xs i with
  |none=>rw[q] at h;exact h.elim
  |some d=>
   rw[q] at h
   cases rx with
   |list hs hn r=>
    obtain⟨u,e1,e2⟩:=Gn r q
    exact .inl ⟨_,_,i,u,rfl,rfl,SqL.of hs,e1,k (.v d) u U H .refl ok e2 h⟩
 ·rename_i xs i
  cases ry
  cases q:atI xs i with
  |none=>rw[q] at h;exact h.elim
  |some d=>
   rw[q] at h
   cases rx with
   |tuple hs r=>
    obtain⟨u,e1,e2⟩:=Gn r q
    exact .inr (.inl ⟨_,_,i,u,rfl,rfl,hs,e1,k (.v d) u U H .refl ok e2 h⟩)
 ·rename_i l i
  cases ry
  obtain⟨rfl,ds,hm⟩:=rx
  rw[hm] at h
  simp only at h
  cases q:atI ds i with
  |none=>rw[q] at h;exact h.elim
  |some d=>
   rw[q] at h
   obtain⟨us,hl,r⟩:=ok l ds hm
   obtain⟨u,e1,e2⟩:=Gn r q
   exact .inl ⟨_,_,i,u,rfl,rfl,SqL.of hl,e1,k (.v d) u U H .refl ok e2 h⟩
 ·rename_i ns i
  cases ry
  obtain⟨a,rfl,hs,hn⟩:=rx
  cases q:atI ns i with
  |none=>rw[q] at h;exact h.elim
  |some d=>
   rw[q] at h
   have e1:atI (ns.map V.int) i=some (.int d):=by
    unfold atI at q ⊢
    rw[length_map]
    cases z:ixN ns.length i with
    |none=>rw[z] at q;cases q
    |some j=>
     rw[z] at q
     simp only[bind_some,getElem?_map] at q ⊢
     rw[q]<;>rfl
   exact .inl ⟨_,_,i,_,rfl,rfl,hs,e1,k (.v (.int d)) _ U H .refl ok (Rp.int d) h⟩
 ·exact h.elim
theorem ax(ha:DE X a ta)(hb:DE X b tb)(hs:HS b:=by exact fun _ _=>rfl):DE X (.Subscript a b pos) (dOp aF ta tb):=by
 obtain⟨t1,p1,l1⟩:=ha
 obtain⟨t2,p2,l2⟩:=hb
 exact⟨_,Sf Qp p1 p2 hs,wk Sb l1 l2⟩
noncomputable def rj(U:Mu):D->Option (List PyData)
 |.v (.list xs)=>some xs
 |.m l=>U l
 |_=>none
theorem EK{K:PySem.W.Frag}{U:Mu}{H:Hp}{x:D}{u:V}{xs:List PyData}(ok:bP K U H)(r:RpD K U H x u)(h:rj U x=some xs):∃a us,u = .ref a/\H a=some (.lst us)/\RpL K U H xs us:=by
 cases x with
 |v d=>
  cases d<;>simp only[rj] at h<;>try cases h
  cases r with
  |list hs _ q=>exact⟨_,_,rfl,hs,q⟩
 |m l=>
  obtain⟨rfl,ds,hm⟩:=r
  obtain⟨us,hl,q⟩:=ok l xs h
  exact⟨l,us,rfl,hl,q⟩
 |s ns=>cases h
 |o a=>cases h
 |b a=>cases h
 |q P=>cases h
noncomputable def zZ:D->D->Mu->DK->Prop:=fun x y U Q=>match rj U x,rj U y with
 |some xs,some ys=>xs.length+ys.length<=1000/\Q (.v (.list (xs++ys))) U
 |_,_=>False
theorem M3{n:Nat}(h:n<=1000):n<=sizeLine:=Nat.le_of_lt (gx h)
theorem QW{K:PySem.W.Frag}:jJ K Ro zZ:=by
 intro x y ux uy H U Qd Q ok rx ry h k
 unfold zZ at h
 split at h
 ·rename_i xs ys hx hy
  obtain⟨a,us,rfl,ha,ra⟩:=EK ok rx hx
  obtain⟨b,ws,rfl,hb,rb⟩:=EK ok ry hy
  refine⟨a,b,us,ws,rfl,rfl,ha,hb,M3 (by rw[<- ra.length,<- rb.length];exact h.1),fun p hp=>?_⟩
  exact k (.v _) _ U _ (dM hp) (ok.new hp) (gr ok (ra.append rb) hp) h.2
 ·exact h.elim
theorem QN(ha:DE X a ta)(hb:DE X b tb):DE X (.BinOp a .Add b pos) (dOp zZ ta tb):=wW O9 QW ha hb
end
end L2.DL
namespace HT
open PySem PyProof.Rows
section
variable {prog:Program}{w:World}{A:Around}{E:Value->Shared->Prop}{s:Shared}
theorem qB{t sl:Addr}{items:Array Value}{vl vu:Value}{lo hi:Option Int}{Q:Value->Shared->Prop}(ht:IsTup s.heap t items)(hs:s.heap.IsSliceOf sl vl vu .none)(pl:IsPart vl lo)(pu:IsPart vu hi)
  (hw:sIx items.size 0 lo=0/\sIx items.size items.size hi=items.size) (h:Q (.ref t) s):wpAny (model prog w) A (getItem (.ref t) (.ref sl)) Q E s:=by
 obtain⟨os,hos,hcs,hds⟩:=id hs
 have hTs:s.TypeIs (.ref sl) "slice":=⟨os,hos,hcs⟩
 unfold getItem
 try with_reducible refine wpAny_holding ?_
 first|refine wpAny_bind (wpAny_pure ?_)|skip
 refine wpAny_bind (wpAny_sequenceKey ht.typeIs ⋯ ?_)
 refine wpAny_bind (wpAny_callSpecial?_slot (name:=Str.ofString "__getitem__") ht.typeIs PyProof.Rows.slot_tuple_getitem
  (wpAny_call_entry PyProof.Rows.slot_tuple_getitem ht.typeIs entry_tuple_getitem ?_ (args_tuple_getitem _ _)))
 show wpAny _ _ (Builtin.Tuple.tupleItemsOf (.ref t)>>=_) _ _ s
 refine wpAny_bind (tupleItemsOf_ ht ?_)
 refine wpAny_bind (wpAny_typeOf hTs ?_)
 rw[if_pos ⋯]
 refine wpAny_bind (ky hs pl pu ?_)
 have hno:((((sIx items.size 0 lo:Nat):Int)==0&&(1:Int)==1&&(sIx items.size items.size hi-sIx items.size 0 lo)==items.size)=true):=by
  rw[hw.1,hw.2]
  simp
 show wpAny _ _ (if (((sIx items.size 0 lo:Nat):Int)==0&&(1:Int)==1&&(sIx items.size items.size hi-sIx items.size 0 lo)==items.size)=true then _ else _) _ _ s
 rw[if_pos hno]
 refine wpAny_bind ?_
 unfold Builtin.Tuple.tupleIsExact
 refine wpAny_bind (wpAny_typeOf ht.typeIs (wpAny_pure ?_))
 rw[if_pos ⋯]
 refine wpAny_bind (wpAny_rule ?_)
 exact wpAny_pure ⟨_,rfl,wpAny_pure h⟩
end
end HT
namespace L2.DL
open PySem PySem.Spec PyProof.Rows
section
variable {X:Cx}{a b e:Expr}{lo hi:Option Expr}{ta tb te:DTE}{pos p2:Pos}
noncomputable def zD{α:Type}(xs:List α)(lo hi:Option Int):List α:=(xs.drop (HT.sIx xs.length 0 lo)).take (HT.sIx xs.length xs.length hi-HT.sIx xs.length 0 lo)
theorem RpL.cut{K:PySem.W.Frag}{U:Mu}{H:Hp}{ds:List PyData}{us:List V}{lo hi:Option Int}(r:RpL K U H ds us):RpL K U H (zD ds lo hi) (Bl us lo hi):=by
 unfold zD Bl
 rw[r.length]
 exact (r.drop _).take _
theorem Mw{α:Type}{xs:List α}{lo hi:Option Int}(h:HT.sIx xs.length 0 lo=0/\HT.sIx xs.length xs.length hi=xs.length):zD xs lo hi=xs:=by
 unfold zD
 rw[h.1,h.2]
 simp
noncomputable def RE(K:PySem.W.Frag):V->Option Int->Option Int->Hp->VK->Prop:=fun x lo hi H Q=>∃a xs,x = .ref a/\SqT K H a xs /\
 (HT.sIx xs.length 0 lo=0/\HT.sIx xs.length xs.length hi=xs.length->Q (.ref a) H)/\∀p,H p=none->Q (.ref p) (upd H p (.tup (Bl xs lo hi)))
theorem Ng:SlR X (RE X.K):=by
 intro pins s Z H x v vl vu lo hi sl Q I rx hs pl pu h
 obtain⟨a,xs,rfl,hx,q1,q⟩:=h
 by_cases hw:HT.sIx xs.length 0 lo=0/\HT.sIx xs.length xs.length hi=xs.length
 ·cases rx
  obtain⟨its,r,ht,hz⟩:=I.tuple hx
  have hlen:its.toArray.size=xs.length:=by rw[size_toArray];exact r.length.symm
  refine⟨"tuple",_,PyProof.Rows.slot_tuple_getitem.lookup,ht.typeIs,?_⟩
  exact HT.qB ht hs pl pu (by rw[hlen];exact hw) ⟨.ref a,H,I,rfl,q1 hw⟩
 ·exact Qa pins s Z H _ v vl vu lo hi sl Q I rx hs pl pu ⟨a,xs,rfl,hx,hw,q⟩
noncomputable abbrev DTO:=Rho->Mu->(Option Int->Mu->Prop)->Prop
noncomputable def Rk(K:PySem.W.Frag)(t:TO)(td:DTO):Prop:=∀(Z:St) (H:Hp) (ρ:Rho) (U:Mu) (Qd:Option Int->Mu->Prop) (Q:Option Int->Hp->Prop),St0 K H ρ U Z->td ρ U Qd ->
 (∀o ad H',Ext K U H ad H'->St0 K H' ρ ad Z->Qd o ad->Q o H')->t Z H Q
noncomputable def DO(X:Cx)(e:Option Expr)(td:DTO):Prop:=∃t,PO X e t/\Rk X.K t td
noncomputable def BL:DTO:=fun _ U Q=>Q none U
noncomputable def KH(t:DTE):DTO:=fun ρ U Q=>t ρ U fun x al=>match x with
 |.v (.int i)=>Q (some i) al
 |_=>False
theorem MJ:DO X none BL:=⟨_,NZ,fun Z H ρ U Qd Q S h k=>k none U H .refl S h⟩
theorem Na(h:DE X e te):DO X (some e) (KH te):=by
 obtain⟨t1,p1,l1⟩:=h
 refine⟨_,MU p1,fun Z H ρ U Qd Q S h k=>?_⟩
 refine l1 Z H ρ U _ _ S h fun x ux al H1 e1 S1 rx h1=>?_
 split at h1
 ·cases rx
  exact⟨_,rfl,k _ al H1 e1 S1 h1⟩
 ·exact h1.elim
noncomputable def MT(x:D)(lo hi:Option Int)(U:Mu)(Q:DK):Prop:=match x with
 |.v (.tuple xs)=>Q (.v (.tuple (zD xs lo hi))) U
 |.v (.list xs)=>Q (.v (.list (zD xs lo hi))) U
 |.m l=>(match U l with|some xs=>Q (.v (.list (zD xs lo hi))) U|none=>False)
 |_=>False
noncomputable def dSl(te:DTE)(tl th:DTO):DTE:=fun ρ U Q=>te ρ U fun x al=>tl ρ al fun l am=>th ρ am fun u ci=>MT x l u ci Q
theorem KO{tl th:DTO}(he:DE X e te)(hl:DO X lo tl)(hu:DO X hi th):DE X (.Subscript e (.Slice lo hi none p2) pos) (dSl te tl th):=by
 obtain⟨t1,p1,l1⟩:=he
 obtain⟨t2,p2,l2⟩:=hl
 obtain⟨t3,p3,l3⟩:=hu
 refine⟨_,Kz (N9.or Ng) p1 p2 p3,fun Z H ρ U Qd Q S h k=>?_⟩
 refine l1 Z H ρ U _ _ S h fun x ux al H1 e1 S1 rx h1=>?_
 refine l2 Z H1 ρ al _ _ S1 h1 fun l am H2 e2 S2 h2=>?_
 refine l3 Z H2 ρ am _ _ S2 h2 fun u ci H3 e3 S3 h3=>?_
 have rx3:=(rx.ext S1.mu e2).ext S2.mu e3
 have ee:=e1.trans (e2.trans e3)
 unfold MT at h3
 split at h3
 ·rename_i xs
  cases id rx3 with
  |@tuple a us _ ha ra=>
   refine .inr ⟨a,us,rfl,ha,fun hw=>?_,fun p hp=>?_⟩
   ·refine k (.v _) _ ci H3 ee S3 (show Rp _ _ _ (.tuple (zD xs l u)) _ from ?_) h3
    rw[Mw (by rw[ra.length];exact hw)]
    exact rx3
   ·exact k (.v _) _ ci _ (ee.trans (dM hp)) (S3.new hp) (iN S3.mu ra.cut hp) h3
 ·rename_i xs
  cases id rx3 with
  |@list a us _ ha hn ra=>exact .inl ⟨a,us,rfl,SqL.of ha,fun p hp=>k (.v _) _ ci _ (ee.trans (dM hp)) (S3.new hp) (gr S3.mu ra.cut hp) h3⟩
 ·rename_i a
  obtain⟨rfl,ds,hm⟩:=rx3
  rw[hm] at h3
  obtain⟨us,ha,ra⟩:=S3.mu a ds hm
  exact .inl ⟨a,us,rfl,SqL.of ha,fun p hp=>k (.v _) _ ci _ (ee.trans (dM hp)) (S3.new hp) (gr S3.mu ra.cut hp) h3⟩
 ·exact h3.elim
end
section
variable {X:Cx}{a b e:Expr}{es:List Expr}{ta tb te:DTE}{t:DTA}{p pos:Pos}{x:Str}{bid T:String}
noncomputable def mh(K:PySem.W.Frag)(r:List V->Hp->VK->Prop)(rd:List D->Mu->DK->Prop):Prop:=∀(xs:List D) (us:List V) (H:Hp) (U:Mu) (Qd:DK) (Q:VK),bP K U H->jt K U H xs us->rd xs U Qd ->
 (∀d u ad H',Ext K U H ad H'->bP K ad H'->RpD K ad H' d u->Qd d ad->Q u H')->r us H Q
noncomputable def dCB(rd:List D->Mu->DK->Prop)(t:DTA):DTE:=fun ρ U Q=>t ρ U fun ds al=>rd ds al Q
theorem HG{K:PySem.W.Frag}{n:Nat}{r:List V->Hp->VK->Prop}{rd:List D->Mu->DK->Prop}{t1:TA}(lc:mh K r rd)(l1:OC K n t1 t):rL K (tCB r t1) (dCB rd t):=by
 intro Z H ρ U Qd Q S h k
 refine l1 Z H ρ U _ _ S h fun xs us al H1 e1 S1 rs len h1=>?_
 exact lc xs us H1 al _ _ S1.mu rs h1 fun d u ad H' e2 ok r q=>k d u ad H' (e1.trans e2) ⟨ok,S1.rho.ext S1.mu e2⟩ r q
theorem jb{r:List V->Hp->VK->Prop}{rd:List D->Mu->DK->Prop}(hc:iP X (.builtin bid) r)(lc:mh X.K r rd)(hg:Gl X x)(hm:X.mg x=none)(hv:bootBuiltins x=some (.builtin bid))(ha:DA X (e::es) t)(hn:x ≠ "__name__":=by decide)(hdb:(x==("__debug__":Str))=false:=by decide)
  (he:starEach (e::es) X.env=(false,eval e X.env)::starEach es X.env:=by rfl) (hpl:(backTo pos (starEach es X.env)).any (·.1)=false:=by rfl):DE X (.Call (.Name x p) (e::es) [] pos) (dCB rd t):=by
 obtain⟨t1,p1,l1⟩:=ha
 exact⟨_,Eo hc hg hm hv p1 hn hdb he hpl,HG lc l1⟩
theorem tZ{r:List V->Hp->VK->Prop}{rd:List D->Mu->DK->Prop}(hc:iP X (.type T) r)(lc:mh X.K r rd)(hg:Gl X x)(hm:X.mg x=none)(hv:bootBuiltins x=some (.type T))(ha:DA X (e::es) t)(hn:x ≠ "__name__":=by decide)(hdb:(x==("__debug__":Str))=false:=by decide)
  (he:starEach (e::es) X.env=(false,eval e X.env)::starEach es X.env:=by rfl) (hpl:(backTo pos (starEach es X.env)).any (·.1)=false:=by rfl):DE X (.Call (.Name x p) (e::es) [] pos) (dCB rd t):=by
 obtain⟨t1,p1,l1⟩:=ha
 exact⟨_,IM hc hg hm hv p1 hn hdb he hpl,HG lc l1⟩
noncomputable def dJ:List D->Mu->DK->Prop:=fun xs U Q=>match xs with
 |[.v (.list ys)]=>Q (.v (.int (ys.length:Nat))) U
 |[.v (.tuple ys)]=>Q (.v (.int (ys.length:Nat))) U
 |[.m l]=>(match U l with|some ys=>Q (.v (.int (ys.length:Nat))) U|none=>False)
 |[.s ns]=>Q (.v (.int (ns.length:Nat))) U
 |_=>False
theorem P4{K:PySem.W.Frag}:mh K (fun xs H Q=>∃p ys,xs=[.ref p]/\(SqL K H p ys\/SqT K H p ys)/\Q (.int ys.length) H) dJ:=by
 intro xs us H U Qd Q ok rs h k
 unfold dJ at h
 split at h
 ·cases rs with
  |cons r1 r2=>
   cases r2
   cases r1 with
   |list hs hn r=>exact⟨_,_,rfl,.inl (SqL.of hs),k (.v _) _ U H .refl ok (by rw[<- r.length];exact Rp.int _) h⟩
 ·cases rs with
  |cons r1 r2=>
   cases r2
   cases r1 with
   |tuple hs r=>exact⟨_,_,rfl,.inr hs,k (.v _) _ U H .refl ok (by rw[<- r.length];exact Rp.int _) h⟩
 ·cases rs with
  |cons r1 r2=>
   cases r2
   obtain⟨rfl,ds,hm⟩:=r1
   rw[hm] at h
   obtain⟨us,hl,r⟩:=ok _ ds hm
   exact⟨_,_,rfl,.inl (SqL.of hl),k (.v _) _ U H .refl ok (by rw[<- r.length];exact Rp.int _) h⟩
 ·cases rs with
  |cons r1 r2=>
   cases r2
   obtain⟨a,rfl,hs,hn⟩:=r1
   exact⟨_,_,rfl,.inl hs,k (.v _) _ U H .refl ok (by rw[length_map];exact Rp.int _) h⟩
 ·exact h.elim
theorem dY(hg:Gl X "len")(hm:X.mg "len"=none)(ha:DA X (e::es) t)
  (he:starEach (e::es) X.env=(false,eval e X.env)::starEach es X.env:=by rfl) (hpl:(backTo pos (starEach es X.env)).any (·.1)=false:=by rfl):DE X (.Call (.Name "len" p) (e::es) [] pos) (dCB dJ t):=
 jb CZ P4 hg hm PySem.boot_len ha ⋯ ⋯ he hpl
noncomputable def sC:List D->Mu->DK->Prop:=fun xs U Q=>match xs with
 |[.v (.int i)]=>Q (.v (.int (i.natAbs:Nat))) U
 |_=>False
theorem OO{K:PySem.W.Frag}:mh K (fun xs H Q=>∃i,xs=[.int i]/\Q (.int (if i<0 then -i else i)) H) sC:=by
 intro xs us H U Qd Q ok rs h k
 unfold sC at h
 split at h
 ·rename_i i
  cases rs with
  |cons r1 r2=>
   cases r2
   cases r1
   refine⟨i,rfl,k (.v (.int (i.natAbs:Nat))) _ U H .refl ok ?_ h⟩
   have:(if i<0 then -i else i)=((i.natAbs:Nat):Int):=by split<;>omega
   rw[this]
   exact Rp.int _
 ·exact h.elim
theorem yp(hg:Gl X "abs")(hm:X.mg "abs"=none)(ha:DA X (e::es) t)
  (he:starEach (e::es) X.env=(false,eval e X.env)::starEach es X.env:=by rfl) (hpl:(backTo pos (starEach es X.env)).any (·.1)=false:=by rfl):DE X (.Call (.Name "abs" p) (e::es) [] pos) (dCB sC t):=
 jb Kr OO hg hm PyProof.Rows.Boot.«abs» ha ⋯ ⋯ he hpl
noncomputable def CF(g:Int->Int->Int):List D->Mu->DK->Prop:=fun xs U Q=>match xs with
 |[.v (.int i),.v (.int j)]=>Q (.v (.int (g i j))) U
 |_=>False
theorem OD{K:PySem.W.Frag}{g g':Int->Int->Int}(hg:∀i j,g i j=g' i j):mh K (fun xs H Q=>∃i j,xs=[.int i,.int j]/\Q (.int (g i j)) H) (CF g'):=by
 intro xs us H U Qd Q ok rs h k
 unfold CF at h
 split at h
 ·rename_i i j
  cases rs with
  |cons r1 r2=>
   cases r2 with
   |cons r2 r3=>
    cases r3
    cases r1
    cases r2
    exact⟨i,j,rfl,k (.v _) _ U H .refl ok (by rw[hg];exact Rp.int _) h⟩
 ·exact h.elim
theorem Ka(hc:X.calm=true)(hg:Gl X "max")(hm:X.mg "max"=none)(ha:DA X (e::es) t)
  (he:starEach (e::es) X.env=(false,eval e X.env)::starEach es X.env:=by rfl) (hpl:(backTo pos (starEach es X.env)).any (·.1)=false:=by rfl):DE X (.Call (.Name "max" p) (e::es) [] pos) (dCB (CF max) t):=
 jb (IZ hc) (OD (fun i j=>by show (if j>i then j else i)=max i j;simp only[Int.max_def];split<;>split<;>omega)) hg hm PyProof.Rows.Boot.«max» ha ⋯ ⋯ he hpl
theorem K8(hc:X.calm=true)(hg:Gl X "min")(hm:X.mg "min"=none)(ha:DA X (e::es) t)
  (he:starEach (e::es) X.env=(false,eval e X.env)::starEach es X.env:=by rfl) (hpl:(backTo pos (starEach es X.env)).any (·.1)=false:=by rfl):DE X (.Call (.Name "min" p) (e::es) [] pos) (dCB (CF min) t):=
 jb (Jp hc) (OD (fun i j=>by show (if j<i then j else i)=min i j;simp only[Int.min_def];split<;>split<;>omega)) hg hm PyProof.Rows.Boot.«min» ha ⋯ ⋯ he hpl
noncomputable def q5:List D->Mu->DK->Prop:=fun xs U Q=>match xs with
 |[.v (.int i)]=>Q (.v (.int i)) U
 |[.v (.bool k)]=>Q (.v (.int (if k then 1 else 0))) U
 |_=>False
theorem Py{K:PySem.W.Frag}:mh K (fun xs H Q=>(∃i,xs=[.int i]/\Q (.int i) H)\/∃k,xs=[.bl k]/\Q (.int (if k then 1 else 0)) H) q5:=by
 intro xs us H U Qd Q ok rs h k
 unfold q5 at h
 split at h
 ·rename_i i
  cases rs with
  |cons r1 r2=>cases r2;cases r1;exact .inl ⟨i,rfl,k (.v _) _ U H .refl ok (Rp.int _) h⟩
 ·rename_i b
  cases rs with
  |cons r1 r2=>cases r2;cases r1;exact .inr ⟨b,rfl,k (.v _) _ U H .refl ok (Rp.int _) h⟩
 ·exact h.elim
theorem nk(hg:Gl X "int")(hm:X.mg "int"=none)(ha:DA X (e::es) t)
  (he:starEach (e::es) X.env=(false,eval e X.env)::starEach es X.env:=by rfl) (hpl:(backTo pos (starEach es X.env)).any (·.1)=false:=by rfl):DE X (.Call (.Name "int" p) (e::es) [] pos) (dCB q5 t):=
 tZ IJ Py hg hm PyProof.Rows.Boot.«int» ha ⋯ ⋯ he hpl
noncomputable def xo:List D->Mu->DK->Prop:=fun xs U Q=>match xs with
 |[.v (.list ys)]=>Q (.v (.list ys)) U
 |[.v (.tuple ys)]=>Q (.v (.list ys)) U
 |_=>False
theorem Mj{K:PySem.W.Frag}:mh K (fun xs H Q=>∃p ys,xs=[.ref p]/\(SqL K H p ys\/SqT K H p ys)/\∀l,H l=none->Q (.ref l) (upd H l (.lst ys))) xo:=by
 intro xs us H U Qd Q ok rs h k
 unfold xo at h
 split at h
 ·cases rs with
  |cons r1 r2=>
   cases r2
   cases r1 with
   |list hs hn r=>exact⟨_,_,rfl,.inl (SqL.of hs),fun p hp=>k (.v _) _ U _ (dM hp) (ok.new hp) (gr ok r hp) h⟩
 ·cases rs with
  |cons r1 r2=>
   cases r2
   cases r1 with
   |tuple hs r=>exact⟨_,_,rfl,.inr hs,fun p hp=>k (.v _) _ U _ (dM hp) (ok.new hp) (gr ok r hp) h⟩
 ·exact h.elim
theorem MO(hg:Gl X "list")(hm:X.mg "list"=none)(ha:DA X (e::es) t)
  (he:starEach (e::es) X.env=(false,eval e X.env)::starEach es X.env:=by rfl) (hpl:(backTo pos (starEach es X.env)).any (·.1)=false:=by rfl):DE X (.Call (.Name "list" p) (e::es) [] pos) (dCB xo t):=
 tZ BR Mj hg hm PyProof.Rows.Boot.«list» ha ⋯ ⋯ he hpl
theorem EJ:∀{bs:List Bool} {us:List Value},Vals (bs.map V.bl) us->us=bs.map Value.bool
 |[],_,.nil=>rfl
 |b::r,_,.cons h t=>by cases h;rw[EJ t];rfl
theorem IU(hc:X.calm=true):iP X (.builtin "all") (fun xs H Q=>∃(p:Addr) (bs:List Bool),xs=[.ref p]/\H p=some (.lst (bs.map V.bl))/\Q (.bl (bs.all id)) H):=by
 intro pins s Z H xs us Q I r h
 obtain⟨l,bs,rfl,hl,q⟩:=h
 obtain⟨u,rfl,rx⟩:=vals1 r
 cases rx
 obtain⟨its,rv,pl,_⟩:=I.list (SqL.of hl)
 have eb:=EJ rv
 subst eb
 have hL:=pl.isList
 have hlt:=pl.lt
 refine call_all_walk (wpAny_pyIter_list hL ?_)
 refine⟨s.heap.objs.size,[s.heap.objs.size,l],[s.heap.objs.size],(bs.map Value.bool).toArray.size,_,_,fun i=>(bs[i]?).getD true,rfl,Walks.list (A:=X.A.in1) (by exact I.ok.hd hc) _ l (ne_of_lt hlt) (bs.map Value.bool).toArray,
  ⟨⟨_,Heap.get?_push_size _ rfl,rfl,rfl⟩,hL.push _⟩,fun i v s' Q' E' hP hQ=>?_,fun h' tk hk=>?_⟩
 ·have hP':(bs.map Value.bool)[i]? = some v:=by simpa using hP
  rw[getElem?_map] at hP'
  cases z:bs[i]? with
  |none=>rw[z] at hP';cases hP'
  |some b=>
   rw[z] at hP'
   cases hP'
   simp only[z,Option.getD_some] at hQ
   exact wpAny_truthy_bool hQ
 ·have e:((List.range (bs.map Value.bool).toArray.size).all fun i=>(bs[i]?).getD true)=bs.all id:=by
   rw[size_toArray,length_map];exact PyProof.Rows.LSm.range_all bs
  rw[e]
  exact⟨.bl (bs.all id),H,I.kept (PyProof.Rows.LSm.kept_iter hk),rfl,q⟩
noncomputable def b6:List PyData->Option (List Bool)
 |[]=>some []
 |.bool b::r=>(b6 r).map (b::·)
 |_::_=>none
theorem w5{K:PySem.W.Frag}{U:Mu}{H:Hp}:∀{xs:List PyData} {us:List V} {bs:List Bool},RpL K U H xs us->b6 xs=some bs->us=bs.map V.bl
 |_,_,_,.nil,e=>by cases e;rfl
 |.bool b::r,_,bs,.cons h t,e=>by
  simp only[b6] at e
  cases q:b6 r with
  |none=>rw[q] at e;cases e
  |some cs=>rw[q] at e;cases e;cases h;rw[w5 t q];rfl
 |.none::r,_,bs,.cons h t,e=>by simp[b6] at e
 |.int _::r,_,bs,.cons h t,e=>by simp[b6] at e
 |.str _::r,_,bs,.cons h t,e=>by simp[b6] at e
 |.list _::r,_,bs,.cons h t,e=>by simp[b6] at e
 |.tuple _::r,_,bs,.cons h t,e=>by simp[b6] at e
 |.dict _::r,_,bs,.cons h t,e=>by simp[b6] at e
noncomputable def rX:List D->Mu->DK->Prop:=fun xs U Q=>match xs with
 |[.v (.list ys)]=>(match b6 ys with|some bs=>Q (.v (.bool (bs.all id))) U|none=>False)
 |_=>False
theorem PK{K:PySem.W.Frag}:mh K (fun xs H Q=>∃(p:Addr) (bs:List Bool),xs=[.ref p]/\H p=some (.lst (bs.map V.bl))/\Q (.bl (bs.all id)) H) rX:=by
 intro xs us H U Qd Q ok rs h k
 unfold rX at h
 split at h
 ·rename_i ys
  cases q:b6 ys with
  |none=>rw[q] at h;exact h.elim
  |some bs=>
   rw[q] at h
   cases rs with
   |cons r1 r2=>
    cases r2
    cases r1 with
    |list hs hn r=>exact⟨_,bs,rfl,by rw[hs,w5 r q],k (.v _) _ U H .refl ok (Rp.bool _) h⟩
 ·exact h.elim
theorem xC(hc:X.calm=true)(hg:Gl X "all")(hm:X.mg "all"=none)(ha:DA X (e::es) t)
  (he:starEach (e::es) X.env=(false,eval e X.env)::starEach es X.env:=by rfl) (hpl:(backTo pos (starEach es X.env)).any (·.1)=false:=by rfl):DE X (.Call (.Name "all" p) (e::es) [] pos) (dCB rX t):=
 jb (IU hc) PK hg hm PyProof.Rows.Boot.«all» ha ⋯ ⋯ he hpl
noncomputable def tyD:PyData->String
 |.none=>"NoneType"
 |.bool _=>"bool"
 |.int _=>"int"
 |.str _=>"str"
 |.list _=>"list"
 |.tuple _=>"tuple"
 |.dict _=>"dict"
noncomputable def isT(T:String)(d:PyData):Bool:=tyD d==T || (T == "int"&&tyD d == "bool")
theorem IB{pins:List (Addr×Obj)}{Z:St}{H:Hp}{s:Shared}{U:Mu}{d:PyData}{u:V}{v:Value}{k:Bool}{A:Around}{E:Value->Shared->Prop}{Q:Value->Shared->Prop}(I:Inv X pins Z H s)(r:Rp X.K U H d u)(rx:RelV u v)
  (ek:kitOne X.K (.type (tyD d)) (.type T)=some k) (h:∀tk,Q (.bool k) {s with toks:=tk}):wpAny (model X.prog X.w) A (call (.builtin "isinstance") [v,.type T]) Q E s:=by
 cases r with
 |none=>cases rx;exact kia_one PySem.W.kitx_none I.kIn True.intro ek (fun z=>nomatch z) h
 |bool b=>cases rx;exact kia_one PySem.W.kitx_bool I.kIn True.intro ek (fun z=>nomatch z) h
 |int i=>obtain⟨t,rfl⟩:=rx;exact kia_one PySem.W.kitx_int I.kIn True.intro ek (fun z=>nomatch z) h
 |str y=>obtain⟨t,rfl⟩:=rx;exact kia_one PySem.W.kitx_str I.kIn True.intro ek (fun z=>nomatch z) h
 |list hs hn q=>
  cases rx
  obtain⟨its,rv,⟨o,n,h1,h2,_⟩,_⟩:=I.list (SqL.of hs)
  exact kia_one PySem.W.kitx_list I.kIn ⟨o,h1,h2⟩ ek (fun z=>nomatch z) h
 |tuple hs q=>
  cases rx
  obtain⟨its,rv,⟨o,h1,h2,_⟩,_⟩:=I.tuple hs
  exact kia_one PySem.W.kitx_tuple I.kIn ⟨o,h1,h2⟩ ek (fun z=>nomatch z) h
theorem ML(K:PySem.W.Frag)(d:PyData):kitOne K (.type (tyD d)) (.type "int")=some (isT "int" d):=by cases d<;>rfl
theorem Kh(K:PySem.W.Frag)(d:PyData):kitOne K (.type (tyD d)) (.type "bool")=some (isT "bool" d):=by cases d<;>rfl
theorem kit_tuple(K:PySem.W.Frag)(d:PyData):kitOne K (.type (tyD d)) (.type "tuple")=some (isT "tuple" d):=by cases d<;>rfl
theorem Ek(kt:∀d,kitOne X.K (.type (tyD d)) (.type T)=some (isT T d)):iP X (.builtin "isinstance") (fun xs H Q=>∃U d u,xs=[u,.ty T]/\Rp X.K U H d u/\Q (.bl (isT T d)) H):=by
 intro pins s Z H xs us Q I r h
 obtain⟨U,d,u,rfl,rd,q⟩:=h
 obtain⟨v,w',rfl,r1,r2⟩:=vals2 r
 cases r2
 exact IB I rd r1 (kt d) fun tk=>⟨.bl (isT T d),H,I.tok _,rfl,q⟩
noncomputable def w4(T:String)(te:DTE):DTE:=fun ρ U Q=>te ρ U fun x al=>match x with
 |.v d=>Q (.v (.bool (isT T d))) al
 |_=>False
theorem lJ{y:Str}{py:Pos}(kt:∀d,kitOne X.K (.type (tyD d)) (.type T)=some (isT T d))(hg:Gl X "isinstance")(hm:X.mg "isinstance"=none)(hgy:Gl X y)(hmy:X.mg y=none)(hvy:bootBuiltins y=some (.type T))(ha:DE X e te)
  (hny:y ≠ "__name__":=by decide) (hdy:(y==("__debug__":Str))=false:=by decide)
  (he:starEach [e,.Name y py] X.env=(false,eval e X.env)::starEach [.Name y py] X.env:=by rfl) (he2:starEach [.Name y py] X.env=[(false,eval (.Name y py) X.env)]:=by rfl) (hpl:(backTo pos (starEach [.Name y py] X.env)).any (·.1)=false:=by rfl):DE X (.Call (.Name "isinstance" p) [e,.Name y py] [] pos) (w4 T te):=by
 obtain⟨t1,p1,l1⟩:=ha
 refine⟨_,Eo (Ek kt) hg hm PyProof.Rows.Boot.«isinstance» (oN p1 (oN (NB (v:=.ty T) hgy hmy hvy rfl hny hdy) Di he2) he) ⋯ ⋯ he hpl,fun Z H ρ U Qd Q S h k=>?_⟩
 refine l1 Z H ρ U _ _ S h fun x ux al H1 e1 S1 rx h1=>?_
 split at h1
 ·exact⟨al,_,ux,rfl,rx,k (.v _) _ al H1 e1 S1 (Rp.bool _) h1⟩
 ·exact h1.elim
noncomputable def isC:PyData->PyData->Option Bool
 |.bool a,.bool b=>some (a==b)
 |.none,.none=>some true
 |_,_=>none
noncomputable def Rx:R2:=fun x y H Q=>(∃i j,x = .bl i/\y = .bl j/\Q (.bl (i==j)) H)\/(x = .non/\y = .non/\Q (.bl true) H)
theorem K1:OpR X (compareOp .Is) Rx:=by
 intro pins s Z H x y v u Q I rx ry h
 rcases h with ⟨i,j,rfl,rfl,q⟩|⟨rfl,rfl,q⟩
 ·cases rx;cases ry
  exact wpAny_is_plain rfl ⟨.bl (i==j),H,I,by cases i<;>cases j<;>rfl,q⟩
 ·cases rx;cases ry
  exact wpAny_is_plain rfl ⟨.bl true,H,I,rfl,q⟩
noncomputable def Kl:D->D->Mu->DK->Prop:=fun x y U Q=>match x,y with
 |.v (.bool i),.v (.bool j)=>Q (.v (.bool (i==j))) U
 |.v .none,.v .none=>Q (.v (.bool true)) U
 |_,_=>False
theorem OB{K:PySem.W.Frag}:jJ K Rx Kl:=by
 intro x y ux uy H U Qd Q ok rx ry h k
 unfold Kl at h
 split at h
 ·cases rx;cases ry;exact .inl ⟨_,_,rfl,rfl,k (.v _) _ U H .refl ok (Rp.bool _) h⟩
 ·cases rx;cases ry;exact .inr ⟨rfl,rfl,k (.v _) _ U H .refl ok (Rp.bool _) h⟩
 ·exact h.elim
end
section
variable {X:Cx}{a b e:Expr}{es:List Expr}{ta tb te:DTE}{t:DTA}{p pos:Pos}{st:Stmt}{rest sts:List Stmt}{td ud:DTS}{tc:DTT}
noncomputable def br:DTS:=fun Dd ρ U=>Dd.nx ρ U
noncomputable def aE(t u:DTS):DTS:=fun Dd ρ U=>t {Dd with nx:=u Dd} ρ U
noncomputable def aT(te:DTE):DTS:=fun Dd ρ U=>te ρ U Dd.rt
noncomputable def gW(te:DTE):DTS:=fun Dd ρ U=>te ρ U fun _ al=>Dd.nx ρ al
noncomputable def bQ(c:DTT)(t u:DTS):DTS:=fun Dd ρ U=>c ρ U fun b al=>if b=true then t Dd ρ al else u Dd ρ al
theorem aJ:DSs X [] br:=⟨_,NJ,fun Z H ρ U Dd De S h k1 k2 k3 k4=>k1 Z ρ U H .refl S h⟩
theorem ao(h:DS X st td):DSs X [st] td:=let ⟨t,p,l⟩:=h;⟨t,NR p,l⟩
theorem lift_seq{K:PySem.W.Frag}{t u:TS}(l1:AB K t td)(l2:AB K u ud):AB K (Sr t u) (aE td ud):=by
 intro Z H ρ U Dd De S h k1 k2 k3 k4
 refine l1 Z H ρ U _ _ S h (fun ca ce ad H' e' S' h'=>?_) k2 k3 k4
 exact l2 ca H' ce ad Dd De S' h' (fun a b c d e2=>k1 a b c d (e'.trans e2)) (fun a b c d e2=>k2 a b c d (e'.trans e2)) (fun a b c d e2=>k3 a b c d (e'.trans e2)) (fun a b c d e2=>k4 a b c d (e'.trans e2))
theorem ak(h1:DS X st td)(h2:DSs X rest ud):DSs X (st::rest) (aE td ud):=by
 obtain⟨t1,p1,l1⟩:=h1
 obtain⟨t2,p2,l2⟩:=h2
 exact⟨_,LQ p1 p2,lift_seq l1 l2⟩
theorem az(he:DE X e te):DS X (.Return (some e) pos) (aT te):=by
 obtain⟨t1,p1,l1⟩:=he
 exact⟨_,QU p1,fun Z H ρ U Dd De S h k1 k2 k3 k4=>l1 Z H ρ U _ _ S h fun d u ad H' e' S' r q=>k2 d u ad H' e' S'.mu r q⟩
theorem dg(he:DE X e te)(hs:swapsWith e none pos.line X.env=pure false:=by rfl):DS X (.Expr e pos) (gW te):=by
 obtain⟨t1,p1,l1⟩:=he
 exact⟨_,MB p1 hs,fun Z H ρ U Dd De S h k1 k2 k3 k4=>l1 Z H ρ U _ _ S h fun d u ad H' e' S' r q=>k1 Z ρ ad H' e' S' q⟩
theorem bj{c:Expr}{x y:List Stmt}(hc:DT X c tc)(ha:DSs X x td)(hb:DSs X y ud):DS X (.If c x y pos) (bQ tc td ud):=by
 obtain⟨t0,p0,l0⟩:=hc
 obtain⟨t1,p1,l1⟩:=ha
 obtain⟨t2,p2,l2⟩:=hb
 refine⟨_,Ri p0 p1 p2,fun Z H ρ U Dd De S h k1 k2 k3 k4=>?_⟩
 refine l0 Z H ρ U _ _ S h fun c al H1 e1 S1 h1=>?_
 cases c with
 |true=>exact IT (l1 Z H1 ρ al Dd De S1 (by simpa using h1) (fun a b c d e2=>k1 a b c d (e1.trans e2)) (fun a b c d e2=>k2 a b c d (e1.trans e2)) (fun a b c d e2=>k3 a b c d (e1.trans e2)) (fun a b c d e2=>k4 a b c d (e1.trans e2)))
 |false=>exact Ia (l2 Z H1 ρ al Dd De S1 (by simpa using h1) (fun a b c d e2=>k1 a b c d (e1.trans e2)) (fun a b c d e2=>k2 a b c d (e1.trans e2)) (fun a b c d e2=>k3 a b c d (e1.trans e2)) (fun a b c d e2=>k4 a b c d (e1.trans e2)))
noncomputable abbrev DTG:=D->Rho->Mu->(Rho->Mu->Prop)->Prop
noncomputable abbrev zz:=List PyData->Rho->Mu->(Rho->Mu->Prop)->Prop
noncomputable def Km(K:PySem.W.Frag)(g:TG)(gd:DTG):Prop:=∀(Z:St) (H:Hp) (ρ:Rho) (U:Mu) (d:D) (u:V) (Qd:Rho->Mu->Prop) (Q:St->Hp->Prop),St0 K H ρ U Z->RpD K U H d u->gd d ρ U Qd ->
 (∀ca ce ad H',Ext K U H ad H'->St0 K H' ce ad ca->Qd ce ad->Q ca H')->g u Z H Q
noncomputable def Pn(K:PySem.W.Frag)(g:TGs)(gd:zz):Prop:=∀(Z:St) (H:Hp) (ρ:Rho) (U:Mu) (ds:List PyData) (us:List V) (Qd:Rho->Mu->Prop) (Q:St->Hp->Prop),St0 K H ρ U Z->RpL K U H ds us->gd ds ρ U Qd ->
 (∀ca ce ad H',Ext K U H ad H'->St0 K H' ce ad ca->Qd ce ad->Q ca H')->g us Z H Q
noncomputable def DG(X:Cx)(tg:Expr)(gd:DTG):Prop:=∃g,PG X tg g/\Km X.K g gd
noncomputable def DGs(X:Cx)(tg:List Expr)(gd:zz):Prop:=∃g,PGs X tg g/\Pn X.K g gd
theorem jN.set{K:PySem.W.Frag}{U:Mu}{H:Hp}{ρ:Rho}{Z:St}{i:Nat}{d:D}{u:V}(r:jN K U H ρ Z)(h:RpD K U H d u):jN K U H (ρ.set i (some d)) (Z.set i (some u)):=by
 refine⟨by rw[List.length_set,List.length_set];exact r.1,fun j d' e=>?_⟩
 by_cases hj:i=j
 ·subst hj
  have hl:i<ρ.length:=by
   have:=(List.getElem?_eq_some_iff.mp e).1
   rw[List.length_set] at this
   exact this
  rw[List.getElem?_set_self hl] at e
  cases e
  exact⟨u,List.getElem?_set_self (by rw[<- r.1];exact hl),h⟩
 ·rw[List.getElem?_set_ne hj] at e
  obtain⟨w,e1,e2⟩:=r.2 j d' e
  exact⟨w,by rw[List.getElem?_set_ne hj];exact e1,e2⟩
noncomputable def aq(i:Nat):DTG:=fun d ρ U Q=>Q (ρ.set i (some d)) U
theorem xH{K:PySem.W.Frag}{i:Nat}:Km K (KY i) (aq i):=fun Z H ρ U d u Qd Q S r h k=>k _ _ U H .refl ⟨S.mu,S.rho.set r⟩ h
theorem HR{i:Nat}{x:Str}(hN:X.N.Nodup)(hi:X.N[i]? = some x)(hx:Loc X.env.scope x)(hf:X.fn x=true\/X.env.scope.names.lookup x=some .local:=by first|exact .inl rfl|exact .inr rfl|assumption):DG X (.Name x pos) (aq i):=⟨_,MW hN hi hx hf,xH⟩
noncomputable def eZ:zz:=fun ds ρ U Q=>match ds with
 |[]=>Q ρ U
 |_=>False
noncomputable def aP(g:DTG)(gs:zz):zz:=fun ds ρ U Q=>match ds with
 |d::r=>g (.v d) ρ U fun o0 al=>gs r o0 al Q
 |_=>False
theorem cF:DGs X [] eZ:=⟨_,Oc,fun Z H ρ U ds us Qd Q S r h k=>by
 cases r with
 |nil=>exact⟨rfl,k Z ρ U H .refl S h⟩
 |cons _ _=>exact h.elim⟩
theorem aD{g:DTG}{gs:zz}(h1:DG X e g)(h2:DGs X es gs)(hs:(assignEach (e::es) X.env).map (·.2)=assign e X.env::(assignEach es X.env).map (·.2):=by rfl):DGs X (e::es) (aP g gs):=by
 obtain⟨t1,p1,l1⟩:=h1
 obtain⟨t2,p2,l2⟩:=h2
 refine⟨_,KC p1 p2 hs,fun Z H ρ U ds us Qd Q S r h k=>?_⟩
 cases r with
 |nil=>exact h.elim
 |@cons d u ds us r1 r2=>
  refine⟨u,us,rfl,l1 Z H ρ U (.v d) u _ _ S r1 h fun ca ce ad H' e1 S' h1=>?_⟩
  exact l2 ca H' ce ad ds us _ _ S' (r2.ext S.mu e1) h1 fun a b c d e2=>k a b c d (e1.trans e2)
noncomputable def eK(n:Nat)(gs:zz):DTG:=fun d ρ U Q=>match d with
 |.v (.tuple xs)=>xs.length=n/\gs xs ρ U Q
 |_=>False
theorem dF{k n:Nat}{gs:zz}(hc:X.calm=X.calm)(h:DGs X es gs)
  (hn:(assignEach es X.env).length=n:=by rfl) (hst:(assignEach es X.env).findIdx? (·.1)=none:=by rfl):DG X (.Tuple es k pos) (eK n gs):=by
 obtain⟨t1,p1,l1⟩:=h
 refine⟨_,Qf hc p1 hn hst,fun Z H ρ U d u Qd Q S r h k=>?_⟩
 unfold eK at h
 split at h
 ·cases r with
  |@tuple a us _ ha ra=>exact⟨a,us,rfl,ha,by rw[<- ra.length];exact h.1,l1 Z H ρ U _ us _ _ S ra h.2 k⟩
 ·exact h.elim
noncomputable def Ha(to ti:DTE):DTG:=fun d ρ U Q=>to ρ U fun o al=>ti ρ al fun i am=>match o,i,d with
 |.m l,.v (.int k),.v x=>(match am l with
  |some xs=>(match ixN xs.length k with
   |some j=>Q ρ (aW am l (xs.set j x))
   |none=>False)
  |none=>False)
 |_,_,_=>False
theorem JL{o i:Expr}{to ti:DTE}(ho:DE X o to)(hi:DE X i ti)
  (ha:∀v,assign (.Subscript o i pos) X.env v=(do
   let ov <- holding [v] (eval o X.env)
   let iv <- holding [v,ov] (eval i X.env)
   standAt pos
   holding [v,ov,iv] (setItem ov iv v)
   release [v,ov,iv] []):=by intro _;rfl):DG X (.Subscript o i pos) (Ha to ti):=by
 obtain⟨t1,p1,l1⟩:=ho
 obtain⟨t2,p2,l2⟩:=hi
 refine⟨_,Qz p1 p2 set_list ha,fun Z H ρ U d u Qd Q S r h k=>?_⟩
 refine l1 Z H ρ U _ _ S h fun x ux al H1 e1 S1 rx h1=>?_
 refine l2 Z H1 ρ al _ _ S1 h1 fun y uy am H2 e2 S2 ry h2=>?_
 have r2:=(r.ext S.mu e1).ext S1.mu e2
 have rx2:=rx.ext S1.mu e2
 split at h2
 ·rename_i l kk xv
  obtain⟨rfl,ds,hm⟩:=rx2
  cases ry
  rw[hm] at h2
  obtain⟨us,hl,rl⟩:=S2.mu l ds hm
  simp only at h2
  cases q:ixN ds.length kk with
  |none=>rw[q] at h2;exact h2.elim
  |some j=>
   rw[q] at h2
   refine⟨l,us,kk,j,rfl,rfl,hl,by rw[<- rl.length];exact q,?_⟩
   have ex:Ext X.K am H2 (aW am l (ds.set j xv)) (upd H2 l (.lst (us.set j u))):=lN hm
   exact k Z ρ _ _ (e1.trans (e2.trans ex)) ⟨S2.mu.set hm (rl.set r2 j),S2.rho.ext S2.mu ex⟩ h2
 ·exact h2.elim
noncomputable def aS(te:DTE)(g:DTG):DTS:=fun Dd ρ U=>te ρ U fun d al=>g d ρ al Dd.nx
theorem Ed{K:PySem.W.Frag}{t:TE}{g:TG}{gd:DTG}(l1:rL K t te)(l2:Km K g gd):AB K (Q4 t g) (aS te gd):=by
 intro Z H ρ U Dd De S h k1 k2 k3 k4
 refine l1 Z H ρ U _ _ S h fun d u al H1 e1 S1 r h1=>?_
 exact l2 Z H1 ρ al d u _ _ S1 r h1 fun a b c d e2=>k1 a b c d (e1.trans e2)
theorem fU{tg:Expr}{g:DTG}(he:DE X e te)(hg:DG X tg g)(hs:swapsWithSole [tg] e pos.line X.env=pure false:=by rfl)(hw:swappedStores [tg] e X.env=pure none:=by rfl)
  (h1:(assignEach [tg] X.env).map (·.2)=[assign tg X.env]:=by rfl):DS X (.Assign [tg] e pos) (aS te g):=by
 obtain⟨t1,p1,l1⟩:=he
 obtain⟨t2,p2,l2⟩:=hg
 exact⟨_,Qk p1 p2 hs hw h1,Ed l1 l2⟩
theorem Me{i:Nat}{x:Str}{pos':Pos}(hN:X.N.Nodup)(hi:X.N[i]? = some x)(hx:Loc X.env.scope x)(he:DE X e te)(hs:swapsWith e (some (.Name x pos')) pos.line X.env=pure false:=by rfl)(hf:X.fn x=true\/X.env.scope.names.lookup x=some .local:=by first|exact .inl rfl|exact .inr rfl|assumption) :
  DS X (.Assign [.Name x pos'] e pos) (aS te (aq i)):=by
 obtain⟨t1,p1,l1⟩:=he
 exact⟨_,OX hN hi hx p1 hs hf,Ed l1 xH⟩
noncomputable def vG(i j:Nat)(t:DTA):DTS:=fun Dd ρ U=>t ρ U fun ds al=>match ds with
 |[v,w]=>Dd.nx ((ρ.set i (some v)).set j (some w)) al
 |_=>False
theorem j1{i j:Nat}{x y:Str}{a b:Expr}{t:DTA}{px py pt:Pos}{kt k2 pt2}(hc:X.calm=true)(hN:X.N.Nodup)(hi:X.N[i]? = some x)(hj:X.N[j]? = some y)(hij:i≠j)
  (hx:X.env.scope.names.lookup x=some .local) (hy:X.env.scope.names.lookup y=some .local) (ha:DA X [a,b] t)
  (hw:swappedStores [.Tuple [.Name x px,.Name y py] kt pt] (.Tuple [a,b] k2 pt2) X.env=pure (some [x,y]))
  (hs:swapsWithSole [.Tuple [.Name x px,.Name y py] kt pt] (.Tuple [a,b] k2 pt2) pos.line X.env=pure false:=by rfl) :
  DS X (.Assign [.Tuple [.Name x px,.Name y py] kt pt] (.Tuple [a,b] k2 pt2) pos) (vG i j t):=by
 obtain⟨t1,p1,l1⟩:=ha
 refine⟨_,O5 hc hN hi hj hij hx hy p1 hw hs,fun Z H ρ U Dd De S h k1 k2 k3 k4=>?_⟩
 refine l1 Z H ρ U _ _ S h fun ds us al H1 e1 S1 rs len h1=>?_
 split at h1
 ·cases rs with
  |cons r1 r2=>
   cases r2 with
   |cons r2 r3=>
    cases r3
    exact⟨_,_,rfl,k1 _ _ al H1 e1 ⟨S1.mu,(S1.rho.set r1).set r2⟩ h1⟩
 ·exact h1.elim
noncomputable def tS(c:DTT)(tb:DTS):DTS:=fun Dd ρ U=>∃W:Nat->Rho->Mu->Prop,(∃m,W m ρ U)/\∀m ρ U,W m ρ U ->
 c ρ U fun b al=>if b=true then tb {Dd with nx:=fun ce ad=>∃m',m'<m/\W m' ce ad,ct:=fun ce ad=>∃m',m'<m/\W m' ce ad,bk:=Dd.nx} ρ al else Dd.nx ρ al
theorem rP{c:Expr}{body:List Stmt}(hp:PassesOwn (model X.prog X.w) X.A X.env X.xe)(hc:DT X c tc)(hb:DSs X body td):DS X (.While c body [] pos) (tS tc td):=by
 obtain⟨t0,p0,l0⟩:=hc
 obtain⟨t1,p1,l1⟩:=hb
 refine⟨_,Ma hp p0 p1,fun Z H ρ U Dd De S h k1 k2 k3 k4=>?_⟩
 obtain⟨W,⟨m,w0⟩,turn⟩:=h
 refine⟨fun m ca H'=>∃ce ad,Ext X.K U H ad H'/\St0 X.K H' ce ad ca/\W m ce ad,⟨m,ρ,U,.refl,S,w0⟩,?_⟩
 rintro m lw H1 ⟨o0,al,e1,S1,w1⟩
 refine l0 lw H1 o0 al _ _ S1 (turn m o0 al w1) fun b am H2 e2 S2 h2=>?_
 cases b with
 |true=>
  refine IT ⟨fun ca H'=>∃m',m'<m/\∃ce ad,Ext X.K U H ad H'/\St0 X.K H' ce ad ca/\W m' ce ad,fun ca H' ⟨m',hm,q⟩=>⟨m',hm,q⟩,?_⟩
  have nxt:∀ca ce ad H',Ext X.K am H2 ad H'->St0 X.K H' ce ad ca->(∃m',m'<m/\W m' ce ad)->∃m',m'<m/\∃ce ad,Ext X.K U H ad H'/\St0 X.K H' ce ad ca/\W m' ce ad:=
   fun ca ce ad H' e3 S3 ⟨m',hm,q⟩=>⟨m',hm,ce,ad,e1.trans (e2.trans e3),S3,q⟩
  rw[if_pos rfl] at h2
  exact l1 lw H2 o0 am _ _ S2 h2 nxt (fun a b c d e3=>k2 a b c d (e1.trans (e2.trans e3))) (fun a b c d e3=>k1 a b c d (e1.trans (e2.trans e3))) nxt
 |false=>exact Ia (k1 lw o0 am H2 (e1.trans e2) S2 (by simpa using h2))
noncomputable abbrev DTI:=Rho->Mu->(List PyData->Mu->Prop)->Prop
noncomputable def NC(K:PySem.W.Frag)(J:It)(xs:List PyData)(al:Mu)(H1:Hp):Prop:=∀am H2,Ext K al H1 am H2->bP K am H2->∀i,(i<xs.length->J.go i H2/\∀x H',J.yld i H2 x H'->∃d,xs[i]? = some d/\CQ H2 H'/\Rp K am H' d x)/\(i=xs.length->J.stop i H2)
noncomputable def RD(K:PySem.W.Frag)(wi:TI)(src:DTI):Prop:=∀(Z:St) (H:Hp) (ρ:Rho) (U:Mu) (Qd:List PyData->Mu->Prop) (R:It->Hp->Prop),St0 K H ρ U Z->src ρ U Qd ->
 (∀xs al H1 J,Ext K U H al H1->St0 K H1 ρ al Z->NC K J xs al H1->Qd xs al->R J H1)->wi Z H R
noncomputable def DI(X:Cx)(tg iter:Expr)(src:DTI):Prop:=∃wi,PI X tg iter wi/\RD X.K wi src
variable {tg:Expr}
noncomputable def k7(te:DTE):DTI:=fun ρ U Q=>te ρ U fun d al=>match d with
 |.v (.list xs)=>Q xs al
 |_=>False
noncomputable def kP(te:DTE):DTI:=fun ρ U Q=>te ρ U fun d al=>match d with
 |.v (.tuple xs)=>Q xs al
 |_=>False
theorem k5(h:DE X e te):DI X tg e (k7 te):=by
 obtain⟨t1,p1,l1⟩:=h
 refine⟨_,Nb p1,fun Z H ρ U Qd R S h k=>?_⟩
 refine l1 Z H ρ U _ _ S h fun d u al H1 e1 S1 r h1=>?_
 split at h1
 ·rename_i xs
  cases r with
  |@list a us _ ha hn ra=>
   refine⟨a,rfl,⟨us,SqL.of ha⟩,k xs al H1 _ e1 S1 (fun am H2 e2 ok2 i=>⟨fun hi=>?_,fun hi=>?_⟩) h1⟩
   ·have ha2:=e2.keep _ _ ha hn trivial
    have hiu:i<us.length:=by rw[<- ra.length];exact hi
    refine⟨⟨us,us[i],SqL.of ha2,by simp[hiu]⟩,fun x H' hq0=>?_⟩
    obtain⟨eH,hx⟩:=hq0
    subst eH
    obtain⟨u',h1',h2'⟩:=ra.get (i:=i) (d:=xs[i]) (by simp[hi])
    have:=hx us (SqL.of ha2)
    rw[h1'] at this
    cases this
    exact⟨xs[i],by simp[hi],CQ.refl _,h2'.ext S1.mu e2⟩
   ·exact⟨us,SqL.of (e2.keep _ _ ha hn trivial),by rw[<- ra.length];omega⟩
 ·exact h1.elim
theorem jo(h:DE X e te):DI X tg e (kP te):=by
 obtain⟨t1,p1,l1⟩:=h
 refine⟨_,QC p1,fun Z H ρ U Qd R S h k=>?_⟩
 refine l1 Z H ρ U _ _ S h fun d u al H1 e1 S1 r h1=>?_
 split at h1
 ·rename_i xs
  cases r with
  |@tuple a us _ ha ra=>
   refine⟨a,rfl,⟨us,ha⟩,k xs al H1 _ e1 S1 (fun am H2 e2 ok2 i=>⟨fun hi=>?_,fun hi=>?_⟩) h1⟩
   ·have ha2:=lu S1.mu e2 ha
    have hiu:i<us.length:=by rw[<- ra.length];exact hi
    refine⟨⟨us,us[i],ha2,by simp[hiu]⟩,fun x H' hq0=>?_⟩
    obtain⟨eH,hx⟩:=hq0
    subst eH
    obtain⟨u',h1',h2'⟩:=ra.get (i:=i) (d:=xs[i]) (by simp[hi])
    have:=hx us ha2
    rw[h1'] at this
    cases this
    exact⟨xs[i],by simp[hi],CQ.refl _,h2'.ext S1.mu e2⟩
   ·exact⟨us,lu S1.mu e2 ha,by rw[<- ra.length];omega⟩
 ·exact h1.elim
noncomputable def mQ(lo:Int)(n:Nat):List PyData:=(List.range n).map fun (i:Nat)=>PyData.int (lo+(i:Int))
theorem JB{K:PySem.W.Frag}{lo:Int}{n:Nat}{U:Mu}{H:Hp}:NC K (Itr lo n) (mQ lo n) U H:=fun am H2 e2 ok2 i=>by
 have hl:(mQ lo n).length=n:=by unfold mQ;simp
 refine⟨fun hi=>?_,fun hi=>?_⟩
 ·rw[hl] at hi
  refine⟨hi,fun x H' hq0=>?_⟩
  obtain⟨eH,hx⟩:=hq0
  subst eH hx
  exact⟨.int (lo+i),by unfold mQ;simp[hi],CQ.refl _,.int _⟩
 ·show n<=i
  omega
noncomputable def tT(t:DTA):DTI:=fun ρ U Q=>t ρ U fun ds al=>match ds with
 |[.v (.int j)]=>(-(2 ^ 62)<=j/\j<2 ^ 62)/\Q (mQ 0 j.toNat) al
 |_=>False
noncomputable def tL(t:DTA):DTI:=fun ρ U Q=>t ρ U fun ds al=>match ds with
 |[.v (.int i),.v (.int j)]=>(-(2 ^ 62)<=i/\i<2 ^ 62/\-(2 ^ 62)<=j/\j<2 ^ 62)/\Q (mQ i (j-i).toNat) al
 |_=>False
theorem wb{a:Expr}{t:DTA}{p pos:Pos}(hg:Gl X "range")(hm:X.mg "range"=none)(ha:DA X [a] t)(hs:starEach [a] X.env=[(false,eval a X.env)]:=by rfl)(hc:X.calm=true:=by rfl):DI X tg (.Call (.Name "range" p) [a] [] pos) (tT t):=by
 obtain⟨t1,p1,l1⟩:=ha
 refine⟨_,IA hc hg hm p1 hs,fun Z H ρ U Qd R S h k=>?_⟩
 refine l1 Z H ρ U _ _ S h fun ds us al H1 e1 S1 rs len h1=>?_
 split at h1
 ·rename_i j
  cases rs with
  |cons r1 r2=>cases r2;cases r1;exact⟨j,rfl,h1.1.1,h1.1.2,k _ al H1 _ e1 S1 JB h1.2⟩
 ·exact h1.elim
theorem we{a b:Expr}{t:DTA}{p pos:Pos}(hg:Gl X "range")(hm:X.mg "range"=none)(ha:DA X [a,b] t)(hs:starEach [a,b] X.env=[(false,eval a X.env),(false,eval b X.env)]:=by rfl)(hs2:starEach [b] X.env=[(false,eval b X.env)]:=by rfl)(hc:X.calm=true:=by rfl):DI X tg (.Call (.Name "range" p) [a,b] [] pos) (tL t):=by
 obtain⟨t1,p1,l1⟩:=ha
 refine⟨_,IC hc hg hm p1 hs hs2,fun Z H ρ U Qd R S h k=>?_⟩
 refine l1 Z H ρ U _ _ S h fun ds us al H1 e1 S1 rs len h1=>?_
 split at h1
 ·rename_i i j
  cases rs with
  |cons r1 r2=>
   cases r2 with
   |cons r2 r3=>cases r3;cases r1;cases r2;exact⟨i,j,rfl,h1.1,k _ al H1 _ e1 S1 JB h1.2⟩
 ·exact h1.elim
noncomputable def qO(src:DTI)(g:DTG)(tb:DTS):DTS:=fun Dd ρ U=>src ρ U fun xs al=>∃Pv:Nat->Rho->Mu->Prop,Pv 0 ρ al /\
 (∀i x ce ad,xs[i]? = some x->Pv i ce ad->g (.v x) ce ad fun dl am=>tb {Dd with nx:=Pv (i+1),ct:=Pv (i+1),bk:=Dd.nx} dl am)/\(∀ce ad,Pv xs.length ce ad->Dd.nx ce ad)
theorem il{iter:Expr}{body:List Stmt}{src:DTI}{g:DTG}(hp:PassesOwn (model X.prog X.w) X.A X.env X.xe)(hc:X.calm=true)(hi:DI X tg iter src)(hg:DG X tg g)(hb:DSs X body td)
  (hs:∀x,foldedSetIterable iter X.env x=pure x:=by intro _;rfl):DS X (.For tg iter body [] pos) (qO src g td):=by
 obtain⟨t0,p0,l0⟩:=hi
 obtain⟨t1,p1,l1⟩:=hg
 obtain⟨t2,p2,l2⟩:=hb
 refine⟨_,QZ hp hc p0 p1 p2 hs,fun Z H ρ U Dd De S h k1 k2 k3 k4=>?_⟩
 refine l0 Z H ρ U _ _ S h fun xs al H1 J e1 S1 it h1=>?_
 obtain⟨Pv,pv0,turn,fin⟩:=h1
 refine⟨fun i m ca H'=>m=xs.length-i/\i<=xs.length/\∃ce ad,Ext X.K al H1 ad H'/\St0 X.K H' ce ad ca/\Pv i ce ad,⟨xs.length,by simp,zero_le _,ρ,al,.refl,S1,pv0⟩,?_⟩
 rintro i m ca H' ⟨rfl,hi,ce,ad,e2,S2,pv⟩
 obtain⟨go,stop⟩:=it ad H' e2 S2.mu i
 by_cases hlt:i<xs.length
 ·obtain⟨g1,y1⟩:=go hlt
  refine .inr ⟨g1,fun tx H2=>∃dl am,Ext X.K al H1 am H2/\St0 X.K H2 dl am tx/\Pv (i+1) dl am,fun tx H2 q=>⟨xs.length-(i+1),∅,rfl,hlt,q⟩,fun x H2 yl=>?_⟩
  obtain⟨d,hd,sm,rd⟩:=y1 x H2 yl
  have e3:Ext X.K ad H' ad H2:=.of_same sm
  have S3:St0 X.K H2 ce ad ca:=⟨S2.mu.NH e3 sm,S2.rho.ext S2.mu e3⟩
  refine l1 ca H2 ce ad (.v d) x _ _ S3 rd (turn i d ce ad hd pv) fun ww xL dL H4 e4 S4 h4=>?_
  have nxt:∀a b c dd,Ext X.K dL H4 c dd->St0 X.K dd b c a->Pv (i+1) b c->∃dl am,Ext X.K al H1 am dd/\St0 X.K dd dl am a/\Pv (i+1) dl am:=fun a b c dd e5 S5 q=>⟨b,c,e2.trans (e3.trans (e4.trans e5)),S5,q⟩
  have ee:=e1.trans (e2.trans (e3.trans e4))
  exact l2 ww H4 xL dL _ _ S4 h4 nxt (fun a b c d e5=>k2 a b c d (ee.trans e5)) (fun a b c d e5=>k1 a b c d (ee.trans e5)) nxt
 ·have ei:i=xs.length:=by omega
  subst ei
  exact .inl ⟨stop rfl,k1 ca ce ad H' (e1.trans e2) S2 (fin ce ad pv)⟩
end
noncomputable abbrev DSp:=List D->Mu->DK->Prop
noncomputable def spD(K:PySem.W.Frag)(dsp:DSp):Sp:=fun vs H Q _=>∃(ds:List D) (U:Mu) (Qd:DK),bP K U H/\jt K U H ds vs/\dsp ds U Qd /\
 (∀d u ad H',Ext K U H ad H'->bP K ad H'->RpD K ad H' d u->Qd d ad->Q u H')
noncomputable def aG(N:List Str)(ds:List D):Rho:=ds.map some++List.replicate (N.length-ds.length) none
theorem jt.get{K:PySem.W.Frag}{U:Mu}{H:Hp}{ds:List D}{us:List V}:∀{i:Nat} {d:D},jt K U H ds us->ds[i]? = some d->∃u,us[i]? = some u/\RpD K U H d u
 |_,_,.nil,h=>by simp at h
 |0,_,.cons r _,h=>by simp at h;subst h;exact⟨_,rfl,r⟩
 |i+1,d,.cons _ t,h=>by
  obtain⟨u,h1,h2⟩:=jt.get (i:=i) (d:=d) t (by simpa using h)
  exact⟨u,by simpa using h1,h2⟩
theorem Iu{K:PySem.W.Frag}{U:Mu}{H:Hp}{N:List Str}{ds:List D}{vs:List V}(r:jt K U H ds vs):jN K U H (aG N ds) (start N vs):=by
 have hl:=r.length
 refine⟨by unfold aG start;simp[hl],fun i d e=>?_⟩
 unfold aG at e
 by_cases hi:i<ds.length
 ·rw[getElem?_append_left (by simpa using hi),getElem?_map] at e
  unfold start
  rw[getElem?_append_left (by simpa [hl] using hi),getElem?_map]
  cases q:ds[i]? with
  |none=>rw[q] at e;cases e
  |some d'=>
   rw[q] at e
   cases e
   obtain⟨u,h1,h2⟩:=r.get q
   exact⟨u,by rw[h1];rfl,h2⟩
 ·rw[getElem?_append_right (by simpa using hi),List.getElem?_replicate] at e
  split at e<;>cases e
section
variable {P:Program}{w:World}{K:PySem.W.Frag}{mg:Str->Option Value}{base:Heap}
theorem _root_.L2.Fun.okD{x qual:Str}{st:Stmt}{f:Addr}{fd:FuncData}{N ps:List Str}{k:Nat}{dsp:DSp}(F:Fun K x qual st f fd)(S:aA N ps (aw st))(len:∀ds U Q,dsp ds U Q->ds.length=ps.length)
  (hbody:∀(cdv:Value) (A:Around) (outer:List Env) (s:Shared) (H:Hp) (E:XK),kL k (A.deeper (envOfC qual (aw st) s.heap.objs.size f cdv)) ->
   ∃td,DSs (Fq CX0 P w K mg base N qual (aw st) f cdv A outer s H E).nox (gM st) td/\∀ds U Qd,dsp ds U Qd->td ‹Qd› (aG N ds) U):mT P w K mg base CX0 (k+1) f fd ps (spD K dsp):=by
 refine F.ok S (fun vs H Q E h=>?_) (fun cdv A outer s H vs Q E hr h=>?_)
 ·obtain⟨ds,U,Qd,_,r,h,_⟩:=h
  rw[<- r.length]
  exact len ds U Qd h
 ·obtain⟨ds,U,Qd,ok,r,h,fin⟩:=h
  obtain⟨td,⟨t,p,l⟩,rd⟩:=hbody cdv A outer s H E hr
  refine⟨t,p,?_⟩
  exact l (start N vs) H (aG N ds) U _ _ ⟨ok,Iu r⟩ (rd ds U Qd h) (fun ca ce ad H' e' S' q=>fin (.v .none) .non ad H' e' S'.mu Rp.none q) (fun d u ad H' e' ok' r' q=>fin d u ad H' e' ok' r' q) (fun _ _ _ _ _ _ q=>q) (fun _ _ _ _ _ _ q=>q)
end
section
variable {X:Cx}{e:Expr}{es:List Expr}{t:DTA}{p pos:Pos}{x:Str}{k:Nat}{f:Addr}{fd:FuncData}{ps:List Str}{dsp:DSp}
noncomputable def av(dsp:DSp)(t:DTA):DTE:=fun ρ U Q=>t ρ U fun ds al=>dsp ds al Q
theorem NQ(F:mT X.prog X.w X.K X.mg X.base CX0 k f fd ps (spD X.K dsp))(hr:kL k X.A)(hg:Gl X x)(hm:X.mg x=some (.ref f))(hk:keepIn X.K (.ref f)=true)(hb:Binds X.K fd ps [])
  (ha:DA X (e::es) t) (hdb:(x==("__debug__":Str))=false:=by decide) (he:starEach (e::es) X.env=(false,eval e X.env)::starEach es X.env:=by rfl) (hpl:(backTo pos (starEach es X.env)).any (·.1)=false:=by rfl) :
  DE X (.Call (.Name x p) (e::es) [] pos) (av dsp t):=by
 obtain⟨t1,p1,l1⟩:=ha
 refine⟨_,Nl F hr hg hm hk hb .nil Sx p1 hdb he hpl,fun Z H ρ U Qd Q S h kk=>?_⟩
 refine l1 Z H ρ U _ _ S h fun ds us al H1 e1 S1 rs len h1=>?_
 refine⟨ds,al,Qd,S1.mu,by rw[append_nil];exact rs,h1,fun d u ad H' e2 ok r q=>?_⟩
 exact kk d u ad H' (e1.trans e2) ⟨ok,S1.rho.ext S1.mu e2⟩ r q
end
section
variable {X:Cx}{o e:Expr}{to te:DTE}{apos cpos:Pos}
noncomputable def My(to te:DTE):DTE:=fun ρ U Q=>to ρ U fun x al=>match x with
 |.m l=>te ρ al fun y am=>(match y,am l with
  |.v d,some xs=>xs.length<1000/\Q (.v .none) (aW am l (xs++[d]))
  |_,_=>False)
 |_=>False
theorem AS(ho:DE X o to)(ha:DE X e te)(hbase:attributeBase o "append" X.env (eval o X.env)=eval o X.env:=by rfl)
  (hfew:((backTo cpos (starEach [e] X.env)).all (fun x=>!x.1)&&(backToKw cpos (keywordEach [] X.env)).all (fun x=>x.1.isSome)
   && decide ([e].length+([]:List Keyword).length+(if ([]:List Keyword).isEmpty then 0 else 1)<30))=true:=by rfl)
  (hline:(apos.endLine==cpos.line)=true:=by rfl) (hs:starEach [e] X.env=(false,eval e X.env)::starEach [] X.env:=by rfl) (hplain:(backTo cpos (starEach [] X.env)).any (·.1)=false:=by rfl) :
  DE X (.Call (.Attribute o "append" apos) [e] [] cpos) (My to te):=by
 obtain⟨t1,p1,l1⟩:=ho
 obtain⟨t2,p2,l2⟩:=ha
 refine⟨_,Ow PySem.F.plainAttrs_list PySem.F.slot_list_append PySem.F.type_list_append uD p1 (oN p2 Di hs) hbase hfew hline hs hplain,fun Z H ρ U Qd Q S h k=>?_⟩
 refine l1 Z H ρ U _ _ S h fun x ux al H1 e1 S1 rx h1=>?_
 cases x with
 |m l=>
  obtain⟨rfl,ds,hm⟩:=id rx
  obtain⟨us,hl,rl⟩:=S1.mu l ds hm
  refine⟨.inl ⟨rfl,us,SqL.of hl⟩,?_⟩
  refine l2 Z H1 ρ al _ _ S1 h1 fun y uy am H2 e2 S2 ry h2=>?_
  obtain⟨_,ds2,hm2⟩:=rx.ext S1.mu e2
  obtain⟨us2,hl2,rl2⟩:=S2.mu l ds2 hm2
  rw[hm2] at h2
  cases y with
  |v d=>
   have h3:ds2.length<1000/\Qd (.v .none) (aW am l (ds2++[d])):=h2
   refine⟨l,us2,uy,rfl,rfl,hl2,by rw[<- rl2.length];exact gx (Nat.le_of_lt h3.1),?_⟩
   have ex:Ext X.K am H2 (aW am l (ds2++[d])) (upd H2 l (.lst (us2++[uy]))):=lN hm2
   exact k (.v .none) .non _ _ (e1.trans (e2.trans ex)) ⟨S2.mu.set hm2 (rl2.append (.cons ry .nil)),S2.rho.ext S2.mu ex⟩ Rp.none h3.2
  |m _=>exact h2.elim
  |s _=>exact h2.elim
  |o _=>exact h2.elim
  |b _=>exact h2.elim
  |q _=>exact h2.elim
 |v d=>exact h1.elim
 |s ns=>exact h1.elim
 |o _=>exact h1.elim
 |b _=>exact h1.elim
 |q _=>exact h1.elim
noncomputable def Tp(to te:DTE):DTE:=fun ρ U Q=>to ρ U fun x al=>match x with
 |.m l=>te ρ al fun y am=>(match y,am l with
  |.v (.list ys),some xs=>xs.length+ys.length<=1000/\Q (.v .none) (aW am l (xs++ys))
  |_,_=>False)
 |_=>False
end
section
variable {K:PySem.W.Frag}{U ad:Mu}{H:Hp}
mutual
theorem Rp.shrink{d:PyData}{u:V}(sub:∀a,ad a=none->U a=none):Rp K ad H d u->Rp K U H d u
 |.none=>.none
 |.bool b=>.bool b
 |.int i=>.int i
 |.str x=>.str x
 |.list h n r=>.list h (sub _ n) (RpL.shrink sub r)
 |.tuple h r=>.tuple h (RpL.shrink sub r)
theorem RpL.shrink{ds:List PyData}{us:List V}(sub:∀a,ad a=none->U a=none):RpL K ad H ds us->RpL K U H ds us
 |.nil=>.nil
 |.cons h r=>.cons (Rp.shrink sub h) (RpL.shrink sub r)
end
theorem g0.shrink{c:Box}{o:Obj}(sub:∀a,ad a=none->U a=none)(r:g0 K ad H c o):g0 K U H c o:=by
 cases c with
 |dict kvs=>
  obtain⟨h1,h2,es,ep,xs,h3,h4,h5,h6⟩:=r
  exact⟨h1,h2,es,ep,xs,h3,h4,h5,Paired.NP h6 fun p q ⟨z1,z2,v,z3,z4⟩=>⟨z1,z2,v,Rp.shrink sub z3,z4⟩⟩
 |set ks=>exact r
end
theorem R5{X:Cx}{e:Expr}{td:DTE}(h:∀(pins:List (Addr×Obj)) (s:Shared) (Z:St) (H:Hp) (ρ:Rho) (U:Mu) (Qd:DK) (Q:VK),Inv X pins Z H s->St0 X.K H ρ U Z->td ρ U Qd ->
  (∀d u ad H',Ext X.K U H ad H'->St0 X.K H' ρ ad Z->RpD X.K ad H' d u->Qd d ad->Q u H')->wpAny (model X.prog X.w) X.A (eval e X.env) (EP X pins Z Q) X.xe s):DE X e td:=
 ⟨fun Z H Q=>∃ρ U Qd,St0 X.K H ρ U Z/\td ρ U Qd/\(∀d u ad H',Ext X.K U H ad H'->St0 X.K H' ρ ad Z->RpD X.K ad H' d u->Qd d ad->Q u H'),
  fun pins s Z H Q I ⟨ρ,U,Qd,S,q,k⟩=>h pins s Z H ρ U Qd Q I S q k,fun Z H ρ U Qd Q S q k=>⟨ρ,U,Qd,S,q,k⟩⟩
noncomputable def aM(X:Cx)(N':List Str)(scope:Scope)(cl:List (Str×Addr))(fp:List Addr)(bi:Shared)(bv:Hp):Cx:=
 {X with N:=N',ga:=bi,H₀:=bv,env:=compEnvC scope cl bi.heap.objs.size X.env,outer:=X.stack,stack:=X.stack,ex:=fp,fn:=fun _=>false,pn:=X.pn,xe:=fun _ _=>False}
noncomputable def Le:Rho->Rho->Prop
 |[],[]=>True
 |none::r,_::r'=>Le r r'
 |some d::r,some d'::r'=>d=d'/\Le r r'
 |_,_=>False
theorem Le.get:∀{ρ ce:Rho},Le ρ ce->ρ.length=ce.length/\∀(i:Nat) d,ρ[i]? = some (some d)->ce[i]? = some (some d)
 |[],[],_=>⟨rfl,fun _ _ h=>h⟩
 |none::r,x::r',h=>by
  obtain⟨h1,h2⟩:=Le.get (ρ:=r) (ce:=r') h
  refine⟨congrArg (· + 1) h1,fun i d e=>?_⟩
  cases i with
  |zero=>simp at e
  |succ j=>exact h2 j d (by simpa using e)
 |some d::r,some d'::r',h=>by
  obtain⟨rfl,h⟩:=h
  obtain⟨h1,h2⟩:=Le.get (ρ:=r) (ce:=r') h
  refine⟨congrArg (· + 1) h1,fun i d e=>?_⟩
  cases i with
  |zero=>simpa using e
  |succ j=>exact h2 j d (by simpa using e)
 |some d::r,none::r',h=>h.elim
 |[],_::_,h=>h.elim
 |none::_,[],h=>h.elim
 |some _::_,[],h=>h.elim
noncomputable def dh{α:Type}(cap:List (Option Nat))(ρ:List (Option α)):List (Option α):=cap.map fun o=>o.bind fun j=>(ρ[j]?).join
noncomputable def nX(cap:List (Option Nat))(src:DTI)(g:DTG)(c:DTT)(elt:DTE):DTE:=fun ρ U Q=>src ρ U fun xs al=>xs.length<=1000/\∃f:PyData->Option PyData,
 (∀x∈xs,∀ad:Mu,(∀a ds,al a=some ds->ad a=some ds)->g (.v x) (dh cap ρ) ad fun dl am=>Le (dh cap ρ) dl/\c dl am fun b ci=>
  if b=true then elt dl ci fun d dL=>dL=ad/\(match d with|.v y=>f x=some y|_=>False) else ci=ad/\f x=none)/\Q (.v (.list (xs.filterMap f))) al
noncomputable def yX(X:Cx)(ifs:List Expr)(c:DTT):Prop:=∀(pins:List (Addr×Obj)) (s:Shared) (Z:St) (H:Hp) (ρ:Rho) (U:Mu) (Qd:Bool->Mu->Prop) (Q:Bool->Hp->Prop),Inv X pins Z H s->St0 X.K H ρ U Z->c ρ U Qd ->
 (∀b ad H',Ext X.K U H ad H'->St0 X.K H' ρ ad Z->Qd b ad->Q b H') ->
 wpAny (model X.prog X.w) X.A (forIn ifs true fun c r=>if r=true then do let ok <- isTrue c X.env (eval c X.env);pure (ForInStep.yield ok) else pure (ForInStep.yield r)) (TP X pins Z Q) X.xe s
noncomputable def ko:DTT:=fun _ U Q=>Q true U
theorem dZ{X:Cx}:yX X [] ko:=fun pins s Z H ρ U Qd Q I S h k=>wpAny_tests_nil ⟨H,I,k true U H .refl S h⟩
theorem J0{X:Cx}{c:Expr}{tc:DTT}(h:DT X c tc):yX X [c] tc:=by
 obtain⟨t,p,l⟩:=h
 exact fun pins s Z H ρ U Qd Q I S h k=>wpAny_tests_one (p pins s Z H _ I (l Z H ρ U _ _ S h k))
theorem Un.after{fs ex:List Addr}{H H1:Hp}{h h1 h':Heap}(u:Un fs ex H H1 h h1)(k:∀b o,b<h.objs.size->h1.get? b=some o->h'.get? b=some o):Un fs ex H H1 h h':=
 ⟨fun b o e n hb hx=>k b o (Heap.lt_size e) (u.keep b o e n hb hx),fun b o e n hb hx=>let ⟨sl,q⟩:=u.slot b o e n hb hx;⟨sl,k b _ (Heap.lt_size e) q⟩,u.free,fun b o e hx=>let ⟨o',q⟩:=u.there b o e hx;⟨o',k b _ (Heap.lt_size e) q⟩,u.vU,u.tV,u.tN⟩
theorem D9{α:Type}{cap:List (Option Nat)}{ρ:List (Option α)}{i:Nat}{d:α}(h:(dh cap ρ)[i]? = some (some d)):∃j,cap[i]? = some (some j)/\ρ[j]? = some (some d):=by
 unfold dh at h
 rw[getElem?_map] at h
 cases q:cap[i]? with
 |none=>rw[q] at h;cases h
 |some o=>
  rw[q] at h
  cases o with
  |none=>cases h
  |some j=>
   refine⟨j,rfl,?_⟩
   simp only[map_some,bind_some,Option.some.injEq] at h
   cases z:ρ[j]? with
   |none=>rw[z] at h;cases h
   |some y=>rw[z] at h;simp only[join_some] at h;rw[h]
theorem Lp{α:Type}{cap:List (Option Nat)}{ρ:List (Option α)}{i j:Nat}{d:α}(h:cap[i]? = some (some j))(e:ρ[j]? = some (some d)):(dh cap ρ)[i]? = some (some d):=by
 unfold dh
 rw[getElem?_map,h]
 simp[e]
theorem jN.cap{K:PySem.W.Frag}{U:Mu}{H:Hp}{ρ:Rho}{Z:St}{cap:List (Option Nat)}(r:jN K U H ρ Z):jN K U H (dh cap ρ) (dh cap Z):=by
 refine⟨by unfold dh;simp,fun i d e=>?_⟩
 obtain⟨j,h1,h2⟩:=D9 e
 obtain⟨u,h3,h4⟩:=r.2 j d h2
 exact⟨u,Lp h1 h3,h4⟩
theorem jN.le{K:PySem.W.Frag}{U:Mu}{H:Hp}{ρ ce:Rho}{Z:St}(r:jN K U H ce Z)(l:Le ρ ce):jN K U H ρ Z:=
 ⟨l.get.1.trans r.1,fun i d e=>r.2 i d (l.get.2 i d e)⟩
theorem N5{xs:List PyData}{f:PyData->Option PyData}{i:Nat}{d:PyData}(h:xs[i]? = some d):(xs.take (i+1)).filterMap f=(xs.take i).filterMap f++(f d).toList:=by
 obtain⟨hi,e⟩:=List.getElem?_eq_some_iff.mp h
 rw[List.take_succ_eq_append_getElem hi,List.filterMap_append,e]
 cases q:f d<;>simp[q]
theorem Ae{α:Type}{x:α}{xs:List α}:atI (x::xs) 0=some x:=by unfold atI ixN;simp
theorem Ai{α:Type}{x y:α}{xs:List α}:atI (x::y::xs) 1=some y:=by
 have h:=wC (xs:=x::y::xs) (j:=1) (v:=y) rfl
 exact h
theorem DF{α:Type}{x y z:α}{xs:List α}:atI (x::y::z::xs) 2=some z:=by
 have h:=wC (xs:=x::y::z::xs) (j:=2) (v:=z) rfl
 exact h
theorem HY{α:Type}{x y z u:α}{xs:List α}:atI (x::y::z::u::xs) 3=some u:=by
 have h:=wC (xs:=x::y::z::u::xs) (j:=3) (v:=u) rfl
 exact h
noncomputable def TM:D->D->Mu->DK->Prop:=fun x y U Q=>match x,y with
 |.v (.int i),.v (.int j)=>Q (.v (.int (i+j))) U
 |.v (.tuple xs),.v (.tuple ys)=>xs.length+ys.length<=1000/\Q (.v (.tuple (xs++ys))) U
 |_,_=>zZ x y U Q
section
variable {ρ:Rho}{U:Mu}{Q:DK}{QT:Bool->Mu->Prop}{QA:List D->Mu->Prop}{QG:Rho->Mu->Prop}{QI:List PyData->Mu->Prop}{QO:Option Int->Mu->Prop}{Dd:Ej}{ta tb tc:DTE}{t u:DTT}{tA:DTA}{s1 s2:DTS}{i j:Int}{x y:PyData}{xs ys:List PyData}{d e:D}
noncomputable def k6:DTS:=fun _ _ _=>False
theorem iZ{X:Cx}{st:Stmt}:DS X st k6:=⟨fun _ _ _=>False,fun _ _ _ _ _ _ h=>h.elim,fun _ _ _ _ _ _ _ h=>h.elim⟩
theorem FZ{o:Rho}:ag 0 (some d::o) U Q=Q d U:=propext Iff.rfl
theorem F3{a}{o:Rho}:ag 1 (a::some d::o) U Q=Q d U:=propext Iff.rfl
theorem GA{a b}{o:Rho}:ag 2 (a::b::some d::o) U Q=Q d U:=propext Iff.rfl
theorem Ga{a b c}{o:Rho}:ag 3 (a::b::c::some d::o) U Q=Q d U:=propext Iff.rfl
theorem FP{a b c f}{o:Rho}:ag 4 (a::b::c::f::some d::o) U Q=Q d U:=propext Iff.rfl
theorem F5{a b c f g}{o:Rho}:ag 5 (a::b::c::f::g::some d::o) U Q=Q d U:=propext Iff.rfl
theorem Fy{a b c f g h}{o:Rho}:ag 6 (a::b::c::f::g::h::some d::o) U Q=Q d U:=propext Iff.rfl
theorem FL{a b c f g h k}{o:Rho}:ag 7 (a::b::c::f::g::h::k::some d::o) U Q=Q d U:=propext Iff.rfl
theorem FF{a b c f g h k l}{o:Rho}:ag 8 (a::b::c::f::g::h::k::l::some d::o) U Q=Q d U:=propext Iff.rfl
theorem Gs{a b c f g h k l m}{o:Rho}:ag 9 (a::b::c::f::g::h::k::l::m::some d::o) U Q=Q d U:=propext Iff.rfl
theorem B7{a b c f g h k l m n}{o:Rho}:ag 10 (a::b::c::f::g::h::k::l::m::n::some d::o) U Q=Q d U:=propext Iff.rfl
theorem q_c:dC x ρ U Q=Q (.v x) U:=propext Iff.rfl
theorem RU{r}:dOp r ta tb ρ U Q=ta ρ U fun x al=>tb ρ al fun y am=>r x y am Q:=propext Iff.rfl
theorem q_B:dB ta ρ U QT=ta ρ U fun d al=>match d with|.v (.bool k)=>QT k al|_=>False:=propext Iff.rfl
theorem QR{C:Int->Int->Prop}{g:Int->Int->PyData}:rII C g (.v (.int i)) (.v (.int j)) U Q=(C i j/\Q (.v (g i j)) U):=propext Iff.rfl
theorem Ju{g:Int->Int->PyData}:zM g (.v (.int i)) (.v (.int j)) U Q=Q (.v (g i j)) U:=propext Iff.rfl
theorem L1:tU ta ρ U Q=ta ρ U fun x al=>match x with|.v (.int i)=>Q (.v (.int (-i))) al|_=>False:=propext Iff.rfl
theorem LA:A0 t u ρ U QT=t ρ U fun c al=>if c=true then u ρ al QT else QT false al:=propext Iff.rfl
theorem Oh:iA t u ρ U QT=t ρ U fun c al=>if c=true then QT true al else u ρ al QT:=propext Iff.rfl
theorem Gy:de t ρ U QT=t ρ U fun c al=>QT (!c) al:=propext Iff.rfl
theorem JQ:kK ta tb ρ U Q=ta ρ U fun x al=>match x with|.v (.bool c)=>if c=true then tb ρ al Q else Q (.v (.bool false)) al|_=>False:=propext Iff.rfl
theorem Fm:zV ta ρ U Q=ta ρ U fun x al=>match x with|.v (.bool c)=>Q (.v (.bool (!c))) al|_=>False:=propext Iff.rfl
theorem R4:dIf t ta tb ρ U Q=t ρ U fun c al=>if c=true then ta ρ al Q else tb ρ al Q:=propext Iff.rfl
theorem Mg:ar ρ U QA=QA [] U:=propext Iff.rfl
theorem Gz:af ta tA ρ U QA=ta ρ U fun x al=>tA ρ al fun xs am=>QA (x::xs) am:=propext Iff.rfl
theorem LC:bR tA ρ U Q=tA ρ U fun ds al=>match cH ds with|some xs=>Q (.v (.tuple xs)) al|none=>False:=propext Iff.rfl
theorem La:vR tA ρ U Q=tA ρ U fun ds al=>match cH ds with|some xs=>Q (.v (.list xs)) al|none=>False:=propext Iff.rfl
theorem Gb:Ab tA ρ U Q=tA ρ U fun ds al=>match cH ds with|some xs=>∀p,al p=none->Q (.m p) (aW al p xs)|none=>False:=propext Iff.rfl
theorem Lw:cH []=some []:=by rw[cH]
theorem KQ{r:List D}:cH (.v x::r)=(cH r).map (x::·):=by rw[cH]
theorem LS{neg:Bool}:bZ neg (.v x) (.v y) U Q=(SeqAt.shaped x=true/\SeqAt.shaped y=true/\Q (.v (.bool (neg ^^ PyData.eqv x y))) U):=propext Iff.rfl
theorem Mh{neg:Bool}:bZ neg (.v (.int i)) (.v (.int j)) U Q=Q (.v (.bool (neg ^^ decide (i=j)))) U:=by
 have e:PyData.eqv (.int i) (.int j)=decide (i=j):=by simp[PyData.eqv];rfl
 rw[LS,e]
 exact propext ⟨fun h=>h.2.2,fun h=>⟨rfl,rfl,h⟩⟩
theorem J2{neg:Bool}:bZ neg (.v (.tuple xs)) (.v (.tuple ys)) U Q=(SeqAt.shaped (.tuple xs)=true/\SeqAt.shaped (.tuple ys)=true/\Q (.v (.bool (neg ^^ PyData.eqv (.tuple xs) (.tuple ys)))) U):=propext Iff.rfl
theorem KD{neg a b:Bool}:bZ neg (.v (.bool a)) (.v (.bool b)) U Q=Q (.v (.bool (neg ^^ (a==b)))) U:=by
 have e:PyData.eqv (.bool a) (.bool b)=(a==b):=by cases a<;>cases b<;>simp[PyData.eqv]<;>rfl
 rw[LS,e]
 exact propext ⟨fun h=>h.2.2,fun h=>⟨rfl,rfl,h⟩⟩
theorem JR{neg:Bool}:GI neg (.v x) (.v (.list ys)) U Q=(PyData.canLayAll0 ys=true/\x.canLay0=true/\PyData.depth x<=60/\Q (.v (.bool (neg ^^ ys.any fun b=>PyData.eqv b x))) U):=propext Iff.rfl
theorem zY:aF (.v (.list xs)) (.v (.int i)) U Q=(match atI xs i with|some d=>Q (.v d) U|none=>False):=propext Iff.rfl
theorem xX:aF (.v (.tuple xs)) (.v (.int i)) U Q=(match atI xs i with|some d=>Q (.v d) U|none=>False):=propext Iff.rfl
theorem Lb{l:Addr}:aF (.m l) (.v (.int i)) U Q=(match U l with|some xs=>(match atI xs i with|some d=>Q (.v d) U|none=>False)|none=>False):=propext Iff.rfl
theorem JD{ns:List Int}:aF (.s ns) (.v (.int i)) U Q=(match atI ns i with|some d=>Q (.v (.int d)) U|none=>False):=propext Iff.rfl
theorem Fv:aF (.v (.list (x::xs))) (.v (.int 0)) U Q=Q (.v x) U:=by rw[zY,Ae]
theorem Dh:aF (.v (.tuple (x::xs))) (.v (.int 0)) U Q=Q (.v x) U:=by rw[xX,Ae]
theorem Ge{z}:aF (.v (.list (z::x::xs))) (.v (.int 1)) U Q=Q (.v x) U:=by rw[zY,Ai]
theorem Bp{z}:aF (.v (.tuple (z::x::xs))) (.v (.int 1)) U Q=Q (.v x) U:=by rw[xX,Ai]
theorem F0{z w}:aF (.v (.list (z::w::x::xs))) (.v (.int 2)) U Q=Q (.v x) U:=by rw[zY,DF]
theorem Bv{z w}:aF (.v (.tuple (z::w::x::xs))) (.v (.int 2)) U Q=Q (.v x) U:=by rw[xX,DF]
theorem Gu{z w v}:aF (.v (.tuple (z::w::v::x::xs))) (.v (.int 3)) U Q=Q (.v x) U:=by rw[xX,HY]
theorem JG:zZ d e U Q=(match rj U d,rj U e with|some xs,some ys=>xs.length+ys.length<=1000/\Q (.v (.list (xs++ys))) U|_,_=>False):=propext Iff.rfl
theorem Pm{tl th:DTO}:dSl ta tl th ρ U Q=ta ρ U fun x al=>tl ρ al fun l am=>th ρ am fun u ci=>MT x l u ci Q:=propext Iff.rfl
theorem ym:BL ρ U QO=QO none U:=propext Iff.rfl
theorem FJ:KH ta ρ U QO=ta ρ U fun x al=>match x with|.v (.int i)=>QO (some i) al|_=>False:=propext Iff.rfl
theorem LF{lo hi:Option Int}:MT (.v (.tuple xs)) lo hi U Q=Q (.v (.tuple (zD xs lo hi))) U:=propext Iff.rfl
theorem Su{rd}:dCB rd tA ρ U Q=tA ρ U fun ds al=>rd ds al Q:=propext Iff.rfl
theorem FV:dJ [.v (.list ys)] U Q=Q (.v (.int (ys.length:Nat))) U:=propext Iff.rfl
theorem FG:dJ [.v (.tuple ys)] U Q=Q (.v (.int (ys.length:Nat))) U:=propext Iff.rfl
theorem GB{ns:List Int}:dJ [.s ns] U Q=Q (.v (.int (ns.length:Nat))) U:=propext Iff.rfl
theorem Fx{l:Addr}:dJ [.m l] U Q=(match U l with|some ys=>Q (.v (.int (ys.length:Nat))) U|none=>False):=propext Iff.rfl
theorem Lc:sC [.v (.int i)] U Q=Q (.v (.int (i.natAbs:Nat))) U:=propext Iff.rfl
theorem Qw{g:Int->Int->Int}:CF g [.v (.int i),.v (.int j)] U Q=Q (.v (.int (g i j))) U:=propext Iff.rfl
theorem F7{k:Bool}:q5 [.v (.bool k)] U Q=Q (.v (.int (if k then 1 else 0))) U:=propext Iff.rfl
theorem BJ:xo [.v (.tuple ys)] U Q=Q (.v (.list ys)) U:=propext Iff.rfl
theorem Ku:rX [.v (.list ys)] U Q=(match b6 ys with|some bs=>Q (.v (.bool (bs.all id))) U|none=>False):=propext Iff.rfl
theorem Ko{T:String}:w4 T ta ρ U Q=ta ρ U fun x al=>match x with|.v d=>Q (.v (.bool (isT T d))) al|_=>False:=propext Iff.rfl
theorem JK{a b:Bool}:Kl (.v (.bool a)) (.v (.bool b)) U Q=Q (.v (.bool (a==b))) U:=propext Iff.rfl
theorem BF{n:Nat}:aq n d ρ U QG=QG (ρ.set n (some d)) U:=propext Iff.rfl
theorem Gf:eZ [] ρ U QG=QG ρ U:=propext Iff.rfl
theorem BZ{g:DTG}{gs:zz}:aP g gs (x::xs) ρ U QG=g (.v x) ρ U fun o0 al=>gs xs o0 al QG:=propext Iff.rfl
theorem FU{n:Nat}{gs:zz}:eK n gs (.v (.tuple xs)) ρ U QG=(xs.length=n/\gs xs ρ U QG):=propext Iff.rfl
theorem F8:Ha ta tb d ρ U QG=ta ρ U fun o al=>tb ρ al fun i am=>match o,i,d with
 |.m l,.v (.int k),.v x=>(match am l with
  |some xs=>(match ixN xs.length k with
   |some j=>QG ρ (aW am l (xs.set j x))
   |none=>False)
  |none=>False)
 |_,_,_=>False:=propext Iff.rfl
theorem OE{g:DTG}:aS ta g Dd ρ U=ta ρ U fun d al=>g d ρ al Dd.nx:=propext Iff.rfl
theorem KA{i j:Nat}:vG i j tA Dd ρ U=tA ρ U fun ds al=>match ds with|[v,w]=>Dd.nx ((ρ.set i (some v)).set j (some w)) al|_=>False:=propext Iff.rfl
theorem Gx:br Dd ρ U=Dd.nx ρ U:=propext Iff.rfl
theorem Hv:aE s1 s2 Dd ρ U=s1 {Dd with nx:=s2 Dd} ρ U:=propext Iff.rfl
theorem LJ:aT ta Dd ρ U=ta ρ U Dd.rt:=propext Iff.rfl
theorem GG:gW ta Dd ρ U=ta ρ U fun _ al=>Dd.nx ρ al:=propext Iff.rfl
theorem OL:bQ t s1 s2 Dd ρ U=t ρ U fun b al=>if b=true then s1 Dd ρ al else s2 Dd ρ al:=propext Iff.rfl
theorem Co:k6 Dd ρ U=False:=propext Iff.rfl
theorem Ke{dsp:DSp}:av dsp tA ρ U Q=tA ρ U fun ds al=>dsp ds al Q:=propext Iff.rfl
theorem Mf:My ta tb ρ U Q=ta ρ U fun x al=>match x with
 |.m l=>tb ρ al fun y am=>(match y,am l with
  |.v d,some xs=>xs.length<1000/\Q (.v .none) (aW am l (xs++[d]))
  |_,_=>False)
 |_=>False:=propext Iff.rfl
theorem L3:Tp ta tb ρ U Q=ta ρ U fun x al=>match x with
 |.m l=>tb ρ al fun y am=>(match y,am l with
  |.v (.list ys),some xs=>xs.length+ys.length<=1000/\Q (.v .none) (aW am l (xs++ys))
  |_,_=>False)
 |_=>False:=propext Iff.rfl
theorem FK:ko ρ U QT=QT true U:=propext Iff.rfl
theorem yJ:k7 ta ρ U QI=ta ρ U fun d al=>match d with|.v (.list xs)=>QI xs al|_=>False:=propext Iff.rfl
theorem CC:kP ta ρ U QI=ta ρ U fun d al=>match d with|.v (.tuple xs)=>QI xs al|_=>False:=propext Iff.rfl
theorem yF:tT tA ρ U QI=tA ρ U fun ds al=>match ds with|[.v (.int j)]=>(-(2 ^ 62)<=j/\j<2 ^ 62)/\QI (mQ 0 j.toNat) al|_=>False:=propext Iff.rfl
theorem xU:tL tA ρ U QI=tA ρ U fun ds al=>match ds with|[.v (.int i),.v (.int j)]=>(-(2 ^ 62)<=i/\i<2 ^ 62/\-(2 ^ 62)<=j/\j<2 ^ 62)/\QI (mQ i (j-i).toNat) al|_=>False:=propext Iff.rfl
theorem kQ{src:DTI}{g:DTG}:qO src g s1 Dd ρ U=src ρ U fun xs al=>∃Pv:Nat->Rho->Mu->Prop,Pv 0 ρ al /\
 (∀i x ce ad,xs[i]? = some x->Pv i ce ad->g (.v x) ce ad fun dl am=>s1 {Dd with nx:=Pv (i+1),ct:=Pv (i+1),bk:=Dd.nx} dl am)/\(∀ce ad,Pv xs.length ce ad->Dd.nx ce ad):=propext Iff.rfl
theorem xy{cap:List (Option Nat)}{src:DTI}{g:DTG}:nX cap src g t ta ρ U Q=src ρ U fun xs al=>xs.length<=1000/\∃f:PyData->Option PyData,
 (∀x∈xs,∀ad:Mu,(∀a ds,al a=some ds->ad a=some ds)->g (.v x) (dh cap ρ) ad fun dl am=>Le (dh cap ρ) dl/\t dl am fun b ci=>
  if b=true then ta dl ci fun d dL=>dL=ad/\(match d with|.v y=>f x=some y|_=>False) else ci=ad/\f x=none)/\Q (.v (.list (xs.filterMap f))) al:=propext Iff.rfl
theorem Fg{α:Type}{r:List (Option α)}:dh [] r=[]:=rfl
theorem Fh{α:Type}{o:Option Nat}{c:List (Option Nat)}{r:List (Option α)}:dh (o::c) r=(o.bind fun j=>(r[j]?).join)::dh c r:=rfl
theorem J4:Le [] []=True:=propext ⟨fun _=>trivial,fun h=>h⟩
theorem LV{r r':Rho}{o:Option D}:Le (none::r) (o::r')=Le r r':=propext Iff.rfl
theorem JZ{r r':Rho}{d d':D}:Le (some d::r) (some d'::r')=(d=d'/\Le r r'):=propext Iff.rfl
theorem Hi:tS t s1 Dd ρ U=(∃W:Nat->Rho->Mu->Prop,(∃m,W m ρ U)/\∀m ρ U,W m ρ U ->
 t ρ U fun b al=>if b=true then s1 {Dd with nx:=fun ce ad=>∃m',m'<m/\W m' ce ad,ct:=fun ce ad=>∃m',m'<m/\W m' ce ad,bk:=Dd.nx} ρ al else Dd.nx ρ al):=propext Iff.rfl
end
theorem Mb{α β:Type}[BEq α][LawfulBEq α]{x:α}{k:β}:∀{l:List (α×β)},l.lookup x=some k->(x,k)∈l
 |[],h=>by cases h
 |(y,j)::r,h=>by
  rw[lookup_cons] at h
  cases e:x==y with
  |true=>
   rw[e] at h
   simp only[Option.some.injEq] at h
   have:x=y:=eq_of_beq e
   subst this h
   exact mem_cons_self
  |false=>
   rw[e] at h
   exact mem_cons_of_mem _ (Mb h)
noncomputable def cfK:NameKind->Bool
 |.cell=>true
 |.free=>true
 |_=>false
theorem Qn{names:List (Str×NameKind)}{cl:List (Str×Addr)}(h:(names.all fun y=>!(cfK y.2) || (cl.lookup y.1).isSome)=true)(x:Str)(hx:names.lookup x=some .cell\/names.lookup x=some .free):∃a,cl.lookup x=some a:=by
 rw[List.all_eq_true] at h
 have key:∀k,cfK k=true->names.lookup x=some k->∃a,cl.lookup x=some a:=fun k hk e=>by
  have q:=h _ (Mb e)
  simp only[hk,Bool.not_true,Bool.false_or] at q
  exact Option.isSome_iff_exists.mp q
 rcases hx with e|e
 ·exact key _ rfl e
 ·exact key _ rfl e
noncomputable def Kp(X:Cx)(sc:Scope):List (Option Nat)->List Str->Prop
 |none::c,_::n=>Kp X sc c n
 |some j::c,x::n=>(X.N[j]? = some x/\Vis X.env.scope x/\X.env.kindOf x≠some .local/\((relabel sc X.env).names.lookup x=some .cell\/(relabel sc X.env).names.lookup x=some .free))/\Kp X sc c n
 |_,_=>True
theorem FW{X:Cx}{sc:Scope}:∀{c:List (Option Nat)} {n:List Str},Kp X sc c n->∀(i j:Nat) (x:Str),c[i]? = some (some j)->n[i]? = some x ->
  X.N[j]? = some x/\Vis X.env.scope x/\X.env.kindOf x≠some .local/\((relabel sc X.env).names.lookup x=some .cell\/(relabel sc X.env).names.lookup x=some .free)
 |[],_,_,i,j,x,h,_=>by simp at h
 |_::_,[],_,i,j,x,_,h=>by simp at h
 |none::c,y::n,k,0,j,x,h,_=>by simp at h
 |none::c,y::n,k,i+1,j,x,h,g=>FW (c:=c) (n:=n) k i j x (by simpa using h) (by simpa using g)
 |some l::c,y::n,k,0,j,x,h,g=>by
  simp only[List.getElem?_cons_zero,Option.some.injEq] at h g
  subst h g
  exact k.1
 |some l::c,y::n,k,i+1,j,x,h,g=>FW (c:=c) (n:=n) k.2 i j x (by simpa using h) (by simpa using g)
theorem SQ{X:Cx}{sc:Scope}{j:Nat}{x:Str}(h1:X.N[j]? = some x:=by rfl)(h2:Vis X.env.scope x:=by first|exact Or.inl rfl|exact Or.inr (Or.inl rfl)|exact Or.inr (Or.inr rfl))(h3:X.env.kindOf x≠some .local:=by first|(intro z;cases z)|exact (fun z=>nomatch z))
  (h4:(relabel sc X.env).names.lookup x=some .cell\/(relabel sc X.env).names.lookup x=some .free:=by first|exact Or.inl rfl|exact Or.inr rfl):X.N[j]? = some x/\Vis X.env.scope x/\X.env.kindOf x≠some .local/\((relabel sc X.env).names.lookup x=some .cell\/(relabel sc X.env).names.lookup x=some .free):=⟨h1,h2,h3,h4⟩
noncomputable def mn(U:Mu)(p:Addr):Mu:=⟨fun b=>if b=p then none else U b,U.b⟩
theorem nG{U:Mu}{p b:Addr}(h:b≠p):mn U p b=U b:=if_neg h
theorem jm{U:Mu}{p:Addr}:mn U p p=none:=if_pos rfl
noncomputable def qi(cap:List (Option Nat))(src:DTI)(g:DTG)(c:DTT)(elt:DTE):DTE:=fun ρ U Q=>src ρ U fun xs al=>xs.length<=1000/\∀p,al p=none->∃Pv:Nat->List PyData->Mu->Prop,Pv 0 [] (aW al p []) /\
 (∀i x acc ad,xs[i]? = some x->ad p=some acc->Pv i acc ad->g (.v x) (dh cap ρ) ad fun dl am=>Le (dh cap ρ) dl/\c dl am fun b ci=>
  if b=true then elt dl ci fun d dL=>dL p=some acc/\(match d with|.v y=>Pv (i+1) (acc++[y]) (aW dL p (acc++[y]))|_=>False) else ci p=some acc/\Pv (i+1) acc ci) /\
 (∀acc ad,Pv xs.length acc ad->ad p=some acc->Q (.v (.list acc)) (mn ad p))
theorem ns_obj{h:Heap}{C:Addr}{m:Str->Option Value}(hn:h.Ns C m):∃o,h.get? C=some o/\∀v,o.data≠.cell v:=let ⟨o,es,ep,ho,hd,_⟩:=hn;⟨o,ho,fun v z=>by rw[hd] at z;cases z⟩
theorem MS{h h':Heap}{C:Addr}{m:Str->Option Value}(hn:h.Ns C m)(e:h'.get? C=h.get? C):h'.Ns C m:=let ⟨o,es,ep,ho,r⟩:=hn;⟨o,es,ep,e.trans ho,r⟩
theorem Bs{cap:List (Option Nat)}{src:DTI}{g:DTG}{t:DTT}{ta:DTE}{ρ:Rho}{U:Mu}{Q:DK}:qi cap src g t ta ρ U Q=src ρ U fun xs al=>xs.length<=1000/\∀p,al p=none->∃Pv:Nat->List PyData->Mu->Prop,Pv 0 [] (aW al p []) /\
 (∀i x acc ad,xs[i]? = some x->ad p=some acc->Pv i acc ad->g (.v x) (dh cap ρ) ad fun dl am=>Le (dh cap ρ) dl/\t dl am fun b ci=>
  if b=true then ta dl ci fun d dL=>dL p=some acc/\(match d with|.v y=>Pv (i+1) (acc++[y]) (aW dL p (acc++[y]))|_=>False) else ci p=some acc/\Pv (i+1) acc ci) /\
 (∀acc ad,Pv xs.length acc ad->ad p=some acc->Q (.v (.list acc)) (mn ad p)):=propext Iff.rfl
theorem Az{U:Mu}{p:Addr}{ds:List PyData}(h:U p=none):mn (aW U p ds) p=U:=Mu.eq (fun b=>by
 by_cases e:b=p
 ·rw[e,jm,h]
 ·rw[nG e,bM e]) fun _=>rfl
theorem Ph{xs:List PyData}{f:PyData->Option PyData}{i:Nat}{d:PyData}(h:xs[i]? = some d):(xs.take (i+1)).filterMap f=(xs.take i).filterMap f++(f d).toList:=N5 h
theorem Inv.FI{X:Cx}{pins:List (Addr×Obj)}{Z:St}{H:Hp}{s:Shared}{h':Heap}{t':Nat}{ch:List Addr}{a:Addr}{o:HO}(I:Inv X pins Z H s)(hc:∀b∈ch,x5 X pins H b)
  (k:∀b u,b ∉ ch->s.heap.get? b=some u->h'.get? b=some u) (hp:s.heap.objs.size<=a) (new:hV X.prog X.w (upd H a o) h' a o):Inv X pins Z (upd H a o) {s with heap:=h',toks:=t'}:=by
 have hn:=I.hok.fresh hp
 have nin:∀b u,H b=some u->b ∉ ch:=fun b u e z=>by rw[(hc b z).1] at e;cases e
 refine I.call (g':=s.gens) (d':=s.drawn) (t':=t') (ch:=ch) ?_ ?_ I.bare fun b hb=>?_
 ·exact⟨fun b u q _ _ x=>k b u x q,fun b u q _ _ x=>⟨u.slots,k b u x q⟩,fun b u q n _=>by rw[aU (ne_of_lt (lt_of_lt_of_le (Heap.lt_size q) hp))];exact n,fun b u q x=>⟨u,k b u x q⟩,
   fun b xs q=>by rw[aU (aY q hn)];exact q,fun b u xs q=>by rw[aU (aY q hn)];exact q,fun b ps q=>⟨#[],by rw[aU (aY q hn),q];simp⟩⟩
 ·intro b u e
  by_cases hb:b=a
  ·subst hb;rw[eN] at e;cases e;exact new
  ·rw[aU hb] at e
   refine (I.hok b u e).CN (fun c v hcv q=>k c v ?_ q) (fun c q=>by rw[aU (aY q hn)];exact q) fun c xs q=>by rw[aU (aY q hn)];exact q
   rcases hcv with z|z
   ·rw[z];exact nin b u e
   ·exact nin c _ z
 ·obtain⟨_,f1,f2,f3,f4,f5⟩:=hc b hb
  exact⟨f3,f1,f4,f5⟩
theorem Inv.M6{X:Cx}{pins:List (Addr×Obj)}{Z:St}{H:Hp}{s:Shared}{h':Heap}{t':Nat}{ch:List Addr}(I:Inv X pins Z H s)(hc:∀b∈ch,x5 X pins H b)
  (k:∀b u,b ∉ ch->s.heap.get? b=some u->h'.get? b=some u):Inv X pins Z H {s with heap:=h',toks:=t'}:=by
 have nin:∀b u,H b=some u->b ∉ ch:=fun b u e z=>by rw[(hc b z).1] at e;cases e
 refine I.call (g':=s.gens) (d':=s.drawn) (t':=t') (ch:=ch) ?_ ?_ I.bare fun b hb=>?_
 ·exact⟨fun b u q _ _ x=>k b u x q,fun b u q _ _ x=>⟨u.slots,k b u x q⟩,fun b u q n _=>n,fun b u q x=>⟨u,k b u x q⟩,fun b xs q=>q,fun b u xs q=>q,fun b ps q=>⟨#[],by rw[q];simp⟩⟩
 ·intro b u e
  refine (I.hok b u e).CN (fun c v hcv q=>k c v ?_ q) (fun c q=>q) fun c xs q=>q
  rcases hcv with z|z
  ·rw[z];exact nin b u e
  ·exact nin c _ z
 ·obtain⟨_,f1,f2,f3,f4,f5⟩:=hc b hb
  exact⟨f3,f1,f4,f5⟩
section
variable {X:Cx}{es:List Expr}{x1:Nat}{tpos:Pos}
noncomputable def NG:List PyData->List PyData->List PyData
 |x::xs,y::ys=>.tuple [x,y]::NG xs ys
 |_,_=>[]
end
section
variable {X:Cx}{a b e:Expr}{es:List Expr}{ta tb te:DTE}{t:DTA}{p pos:Pos}
noncomputable def v9:List D->Mu->DK->Prop:=fun xs U Q=>match xs with
 |[.v (.list ys)]=>Q (.v (.tuple ys)) U
 |[.v (.tuple ys)]=>Q (.v (.tuple ys)) U
 |[.m l]=>(match U l with|some ys=>Q (.v (.tuple ys)) U|none=>False)
 |_=>False
theorem JT{K:PySem.W.Frag}:mh K (fun xs H Q=>∃p ys,xs=[.ref p]/\((SqL K H p ys/\∀l,H l=none->Q (.ref l) (upd H l (.tup ys)))\/(SqT K H p ys/\Q (.ref p) H))) v9:=by
 intro xs us H U Qd Q ok rs h k
 unfold v9 at h
 split at h
 ·cases rs with
  |cons r1 r2=>
   cases r2
   cases r1 with
   |list hs hn r=>exact⟨_,_,rfl,.inl ⟨SqL.of hs,fun l hl=>k (.v _) _ U _ (dM hl) (ok.new hl) (iN ok r hl) h⟩⟩
 ·cases rs with
  |cons r1 r2=>
   cases r2
   cases id r1 with
   |tuple hs r=>exact⟨_,_,rfl,.inr ⟨hs,k (.v _) _ U H .refl ok r1 h⟩⟩
 ·cases rs with
  |cons r1 r2=>
   cases r2
   obtain⟨rfl,ds,hm⟩:=r1
   rw[hm] at h
   obtain⟨us,hl,r⟩:=ok _ ds hm
   exact⟨_,_,rfl,.inl ⟨SqL.of hl,fun l hl'=>k (.v _) _ U _ (dM hl') (ok.new hl') (iN ok r hl') h⟩⟩
 ·exact h.elim
theorem Jx(hg:Gl X "tuple")(hm:X.mg "tuple"=none)(ha:DA X (e::es) t)
  (he:starEach (e::es) X.env=(false,eval e X.env)::starEach es X.env:=by rfl) (hpl:(backTo pos (starEach es X.env)).any (·.1)=false:=by rfl):DE X (.Call (.Name "tuple" p) (e::es) [] pos) (dCB v9 t):=
 tZ zK JT hg hm PyProof.Rows.Boot.«tuple» ha ⋯ ⋯ he hpl
end
theorem cl1{k:Str}{v:Addr}{r:List (Str×Addr)}{x:Str}{a:Addr}(h:List.lookup x [(k,v)]=some a):List.lookup x ((k,v)::r)=some a:=by
 simp only[lookup_cons] at h ⊢
 cases e:x==k with
 |true=>rw[e] at h;exact h
 |false=>rw[e] at h;exact absurd h (by simp)
theorem cl2{k k':Str}{v v':Addr}{r:List (Str×Addr)}{x:Str}{a:Addr}(n:(k==k')=false)(h:List.lookup x [(k,v)]=some a):List.lookup x ((k',v')::(k,v)::r)=some a:=by
 have g:=cl1 (r:=r) h
 simp only[lookup_cons] at h
 cases e:x==k with
 |true=>
  have e':x=k:=by simpa using e
  subst e'
  rw[lookup_cons,n]
  exact g
 |false=>rw[e] at h;exact absurd h (by simp)
section
variable {X:Cx}{e:Expr}{es:List Expr}{t:DTA}{p pos:Pos}
theorem HQ:∀{ns:List Int} {us:List Value},Vals (ns.map V.int) us->PyProof.Rows.IntsAre us ns
 |[],_,.nil=>.nil
 |n::r,_,.cons h t=>by obtain⟨tk,rfl⟩:=h;exact .cons n tk (HQ t)
theorem IX(hc:X.calm=true):iP X (.builtin "sum") (fun xs H Q=>∃(p:Addr) (ns:List Int),xs=[.ref p]/\H p=some (.lst (ns.map V.int))/\Q (.int ns.sum) H):=by
 intro pins s Z H xs us Q I r h
 obtain⟨l,ns,rfl,hl,q⟩:=h
 obtain⟨u,rfl,rx⟩:=vals1 r
 cases rx
 obtain⟨its,rv,pl,_⟩:=I.list (SqL.of hl)
 have hi:=HQ rv
 have hL:=pl.isList
 obtain⟨xs,hx⟩:=hi.allInts.items
 have hn:numsOf its.toArray.toList=ns:=by rw[show its.toArray.toList=its from rfl,hi.numsOf]
 rw[hx] at hL hn
 rw[nums_intItems] at hn
 refine sum_intListG (I.ok.hd hc) hL fun h' tk t' hk=>?_
 rw[preSum_eq,List.take_of_length_le (by simp),hn]
 exact⟨.int ns.sum,H,I.kept hk,⟨_,rfl⟩,q⟩
noncomputable def ej:List PyData->Option (List Int)
 |[]=>some []
 |.int b::r=>(ej r).map (b::·)
 |_::_=>none
theorem Ad{K:PySem.W.Frag}{U:Mu}{H:Hp}:∀{xs:List PyData} {us:List V} {bs:List Int},RpL K U H xs us->ej xs=some bs->us=bs.map V.int
 |_,_,_,.nil,e=>by cases e;rfl
 |.int b::r,_,bs,.cons h t,e=>by
  simp only[ej] at e
  cases q:ej r with
  |none=>rw[q] at e;cases e
  |some cs=>rw[q] at e;cases e;cases h;rw[Ad t q];rfl
 |.none::r,_,bs,.cons h t,e=>by simp[ej] at e
 |.bool _::r,_,bs,.cons h t,e=>by simp[ej] at e
 |.str _::r,_,bs,.cons h t,e=>by simp[ej] at e
 |.list _::r,_,bs,.cons h t,e=>by simp[ej] at e
 |.tuple _::r,_,bs,.cons h t,e=>by simp[ej] at e
 |.dict _::r,_,bs,.cons h t,e=>by simp[ej] at e
noncomputable def yr:List D->Mu->DK->Prop:=fun xs U Q=>match xs with
 |[.v (.list ys)]=>(match ej ys with|some bs=>Q (.v (.int bs.sum)) U|none=>False)
 |_=>False
theorem P5{K:PySem.W.Frag}:mh K (fun xs H Q=>∃(p:Addr) (ns:List Int),xs=[.ref p]/\H p=some (.lst (ns.map V.int))/\Q (.int ns.sum) H) yr:=by
 intro xs us H U Qd Q ok rs h k
 unfold yr at h
 split at h
 ·rename_i ys
  cases q:ej ys with
  |none=>rw[q] at h;exact h.elim
  |some bs=>
   rw[q] at h
   cases rs with
   |cons r1 r2=>
    cases r2
    cases r1 with
    |list hs hn r=>exact⟨_,bs,rfl,by rw[hs,Ad r q],k (.v _) _ U H .refl ok (Rp.int _) h⟩
 ·exact h.elim
theorem Fw(hc:X.calm=true)(hg:Gl X "sum")(hm:X.mg "sum"=none)(ha:DA X (e::es) t)
  (he:starEach (e::es) X.env=(false,eval e X.env)::starEach es X.env:=by rfl) (hpl:(backTo pos (starEach es X.env)).any (·.1)=false:=by rfl):DE X (.Call (.Name "sum" p) (e::es) [] pos) (dCB yr t):=
 jb (IX hc) P5 hg hm PyProof.Rows.Boot.«sum» ha ⋯ ⋯ he hpl
theorem Oy{ys:List PyData}{U:Mu}{Q:DK}:yr [.v (.list ys)] U Q=(match ej ys with|some bs=>Q (.v (.int bs.sum)) U|none=>False):=propext Iff.rfl
end
section
variable {X:Cx}{o e:Expr}{to te:DTE}{apos cpos pos:Pos}
noncomputable def Ra(to te:DTE):DTE:=fun ρ U Q=>to ρ U fun x al=>match x with
 |.m l=>te ρ al fun y am=>(match y,am l with
  |.v (.int i),some xs=>(0<=i/\i<1000)/\∃d,xs[i.toNat]? = some d/\Q (.v d) (aW am l (xs.eraseIdx i.toNat))
  |_,_=>False)
 |_=>False
end
noncomputable abbrev DTX:=Rho->Mu->(Mu->Prop)->Prop
noncomputable abbrev XSp:=List D->Mu->(Mu->Prop)->Prop
end L2.DL
namespace L2
open PySem PySem.Spec PyProof.Rows DL
noncomputable def R8(tabs:List Addr)(H:Hp):Prop:=∀b,H b=none\/(∃o xs,H b=some (.frz o (.lst xs)))\/(b∈tabs/\H b=some (.tbl #[]))
theorem IF{P:Program}{w:World}{K:PySem.W.Frag}{mg mb:Str->Option Value}{CX:CXT}{k:Nat}{fa a:Addr}{fd:FuncData}{x:Str}{sp:Sp}{db:Shared}{vs:List Value}{ns:List Int}(tabs:List Addr)
  (hT:∀p∈tabs,db.heap.get? p=some (PySem.W.tabObj #[])/\K.lookup p=none) (hA2:∀c o p q,K.lookup c=some o->cT o=some (p,q)->p∈tabs) (hC:∀p∈tabs,isCodeTable db.heap p)
  (KX:K.In db.heap) (hns:db.heap.Ns mainGlobals mg) (hb:db.heap.Ns builtinsNs mb) (hbb:∀x:Str,x ≠ "__name__"->mb x=bootBuiltins x) (hlim:db.heap.NoLimit) (hg:db.gens = #[])
  (ha:db.heap.get? a=some {cls:=.type "list",data:=.seq vs.toArray}) (hi:IntsAre vs ns) (hl:ns.length<=sizeLine) (hr:kL k callerA)
  (F:∀base:Heap,K.In base->base.Ns mainGlobals mg->mT P w K mg base CX k fa fd [x] sp) (hbind:∀(s:Shared) (u:Value),BindsTo s fd ⟨[u],[]⟩ [(x,u)])
  (hsp:∀H:Hp,E4 K H->SqL K H a (ns.map V.int)->sp [.ref a] H (fun v _=>v = .bl true) fun _ _ _=>False)
  (hCX:∀H e s',CX [] H db (fun _ _ _=>False) e s'->False) :
  codeAny (model P w) callerA (.call (.ref fa) ⟨[.ref a],[]⟩) (fun r s'=>r = .ok (.ret (.bool true))/\OldK db.heap s'.heap/\s'.os=db.os/\AllBare s'.gens) db:=by
 have rv:=Au hi
 have lenV:=hi.length
 have ant:a ∉ tabs:=fun z=>by have:=(hT a z).1;rw[ha] at this;cases this
 have core:∀H:Hp,R8 tabs H->SqL K H a (ns.map V.int)->HOk P w H db.heap->(∀b,H b≠none->b=a\/b∈tabs)->(H a≠none->K.lookup a=none)->(∀p∈tabs,H p=some (.tbl #[])) ->
   codeAny (model P w) callerA (.call (.ref fa) ⟨[.ref a],[]⟩) (fun r s'=>r = .ok (.ret (.bool true))/\OldK db.heap s'.heap/\s'.os=db.os/\AllBare s'.gens) db:=by
  intro H hO hS hok hA hK hP
  have base_of:∀{b:Addr} {o:Obj},db.heap.get? b=some o->H b=none->(BX db.heap H).get? b=some o:=fun e n=>J8 e n
  have noA:∀{b:Addr} {o:Obj} {es:Array DictEntry} {ep:Nat},db.heap.get? b=some o->o.data = .dict es ep->H b=none:=fun {b o es ep} e d=>by
   cases q:H b with
   |none=>rfl
   |some u=>
    rcases hA b (by rw[q];simp) with e'|e'
    ·subst e'
     rw[ha] at e;cases e
     have d':Data.seq vs.toArray _=Data.dict es ep:=d
     cases d'
    ·rw[(hT b e').1] at e;cases e
     have d':Data.fields #[]=Data.dict es ep:=d
     cases d'
  have nsK:∀{b:Addr} {m:Str->Option Value},db.heap.Ns b m->(BX db.heap H).Ns b m:=fun {b m} ⟨o,es,ep,e,d,r⟩=>⟨o,es,ep,base_of e (noA e d),d,r⟩
  have hKb:K.In (BX db.heap H):=fun b o e=>base_of (KX b o e) (by
   cases q:H b with
   |none=>rfl
   |some u=>
    rcases hA b (by rw[q];simp) with e'|e'
    ·subst e'
     rw[hK (by rw[q];simp)] at e;cases e
    ·have e2:=e;rw[show K.lookup b=none from (hT b e').2] at e2;cases e2)
  have hM:Mod K mg (BX db.heap H):=⟨hKb,nsK hns,⟨mb,nsK hb,hbb⟩,let ⟨mc,h1,h2⟩:=hlim;⟨mc,nsK h1,h2⟩⟩
  have e0:ND P w K mg (BX db.heap H) callerA [] db H:=⟨rfl,hM,fun b o e=>Nr e,Nat.le_of_eq (Js _ _),trivial,fun b hb=>absurd (show b∈([]:List Addr) from hb) (by simp),hok,.of_eq hg⟩
  have tb:E4 K H:=fun c o p q h1 h2=>⟨#[],hP p (hA2 c o p q h1 h2),trivial,fun pos cv e=>by simp[codeAmong] at e⟩
  refine codeAny_mono ((F _ hKb (nsK hns)).run callerA [] db H ⟨[.ref a],[]⟩ [.ref a] [.ref a] _ _ hr e0 (hbind db (.ref a)) (.cons rfl .nil) (hsp H tb hS)) fun r s' h=>?_
  cases r with
  |error e=>exact (hCX H e s' h).elim
  |ok fl=>
   cases fl with
   |next=>exact False.elim h
   |brk=>exact False.elim h
   |cont=>exact False.elim h
   |ret u=>
    obtain⟨v,H',os,bare,un,hok',r',q⟩:=h
    have q':v = .bl true:=q
    subst q'
    obtain rfl:u=Value.bool true:=r'
    refine⟨rfl,⟨fun b o e=>?_,fun b o e=>un.there b o e (by simp)⟩,os,bare⟩
    cases q:H b with
    |none=>exact .inl (un.keep b o e q (by intro z;exact absurd (show b∈([]:List Addr) from z) (by simp)) (by simp))
    |some u=>
     rcases hO b with z|⟨ob,xs,z⟩|⟨zt,z⟩
     ·rw[q] at z;cases z
     ·have z2:=un.tV b ob _ z
      obtain⟨e1,_⟩:=hok b _ z
      obtain⟨e2,_⟩:=hok' b _ z2
      rw[e] at e1;cases e1
      exact .inl e2
     ·obtain⟨more,z2⟩:=un.tN b _ z
      have e2:s'.heap.get? b=some {cls:=.none,data:=.fields (#[]++more)}:=hok' b _ z2
      have e1:=(hT b zt).1
      rw[e] at e1;cases e1
      exact .inr (.inl ⟨hC b zt,rfl,#[],more,rfl,e2⟩)
 have okT:∀p∈tabs,db.heap.get? p=some {cls:=.none,data:=.fields #[]}:=fun p hp=>(hT p hp).1
 cases hk:K.lookup a with
 |some o=>
  have e:=KX a o hk
  rw[ha] at e
  cases e
  refine core (fun b=>if b∈tabs then some (.tbl #[]) else none) (fun b=>?_) (.inr ⟨_,vs.toArray,_,hk,rfl,rfl,rfl,by rw[size_toArray,lenV];exact hl,by simpa using rv⟩) (fun b u z=>?_) (fun b z=>?_) (fun z=>absurd (if_neg ant) z) (fun p hp=>if_pos hp)
  ·by_cases hb:b∈tabs
   ·exact .inr (.inr ⟨hb,if_pos hb⟩)
   ·exact .inl (if_neg hb)
  ·by_cases hb:b∈tabs
   ·have z':=(if_pos hb).symm.trans z;cases z';exact okT b hb
   ·have z':=(if_neg hb).symm.trans z;cases z'
  ·by_cases hb:b∈tabs
   ·exact .inr hb
   ·exact absurd (if_neg hb) z
 |none=>
  refine core (fun b=>if b=a then some (.frz {cls:=.type "list",data:=.seq vs.toArray} (.lst (ns.map V.int))) else if b∈tabs then some (.tbl #[]) else none) (fun b=>?_) (.inl (.inr ⟨{cls:=.type "list",data:=.seq vs.toArray},if_pos rfl⟩)) (fun b u z=>?_) (fun b z=>?_) (fun _=>hk) (fun p hp=>by
   have:p≠a:=fun y=>ant (by rw[<- y];exact hp)
   exact (if_neg this).trans (if_pos hp))
  ·by_cases hb:b=a
   ·exact .inr (.inl ⟨_,_,if_pos hb⟩)
   ·by_cases hb2:b∈tabs
    ·exact .inr (.inr ⟨hb2,(if_neg hb).trans (if_pos hb2)⟩)
    ·exact .inl ((if_neg hb).trans (if_neg hb2))
  ·by_cases hb:b=a
   ·have z':=(if_pos hb).symm.trans z
    cases z'
    subst hb
    exact⟨ha,by rw[length_map];exact hl,vs,_,rv,ha⟩
   ·by_cases hb2:b∈tabs
    ·have z':=((if_neg hb).trans (if_pos hb2)).symm.trans z;cases z';exact okT b hb2
    ·have z':=((if_neg hb).trans (if_neg hb2)).symm.trans z;cases z'
  ·by_cases hb:b=a
   ·exact .inl hb
   ·by_cases hb2:b∈tabs
    ·exact .inr hb2
    ·exact absurd ((if_neg hb).trans (if_neg hb2)) z
theorem JN{l:PySem.W.OpenLaw}{n k:Nat}{q:Program}{loose:List Str}{XP:(Str->Option Value)->Heap->Prop}{YP:World->Heap->Prop}{d:DefRec}{K:Params->PySem.W.Frag}{CX:World->CXT}{sp:World->Sp}{x:Str}(tabs:List Addr)
  (hn:l.most=some n) (hn2:n<=sizeLine) (hdf:d.params.defaults=[]) (hr:kL k callerA)
  (hY:∀(w:World) (h:Heap),YP w h->(K w.params).In h/\(∀p∈tabs,h.get? p=some (PySem.W.tabObj #[])/\(K w.params).lookup p=none)/\(∀p∈tabs,isCodeTable h p))
  (hA2:∀(w:World) c o p q,(K w.params).lookup c=some o->cT o=some (p,q)->p∈tabs)
  (F:∀(w:World) (mg:Str->Option Value) (fa:Addr) (h:Heap),(K w.params).In h->h.Ns mainGlobals mg->mg d.name=some (.ref fa) ->
   ∃fd:FuncData,(∀(s:Shared) (u:Value),BindsTo s fd ⟨[u],[]⟩ [(x,u)]) /\
    ∀base:Heap,(K w.params).In base->base.Ns mainGlobals mg->mT l.prog w (K w.params) mg base (CX w) k fa fd [x] (sp w))
  (hsp:∀(w:World) (H:Hp) (a:Addr) (ns:List Int),ns.length<=n->E4 (K w.params) H->SqL (K w.params) H a (ns.map V.int)->sp w [.ref a] H (fun v _=>v = .bl true) fun _ _ _=>False)
  (hCX:∀(w:World) (H:Hp) (s:Shared) (e:Value) (s':Shared),CX w [] H s (fun _ _ _=>False) e s'->False) :
  PySem.W.WalkO q loose XP YP l.row.toRowW d [] (fun f vs=>PySem.call f vs):=by
 refine Att.Eu hn hdf fun w ga db mg mb fa o pm cd doc a vs ns G Y ho hd hcd hmg hobj hints hlen hg=>?_
 obtain⟨KX,hT,hC⟩:=hY w _ Y
 obtain⟨fd,hb,hF⟩:=F w mg fa _ KX G.T.g hmg
 exact IF tabs hT (hA2 w) hC KX G.T.g G.T.b G.T.builtins G.T.nolimit hg hobj hints (le_trans hlen hn2) hr hF hb (fun H hO hS=>hsp w H a ns hlen hO hS) fun H e s'=>hCX w H db e s'
end L2
namespace L2.DL
open PySem PySem.Spec PyProof.Rows
theorem MK{K:PySem.W.Frag}{l:List (Addr×Str)}(h:(K.filterMap fun p=>cT p.2)=l){c:Addr}{o:Obj}{P:Addr}{q:Str}(e:K.lookup c=some o)(e2:cT o=some (P,q)):(P,q)∈l:=by
 rw[<- h]
 have mem:∀(L:List (Addr×Obj)),List.lookup c L=some o->(c,o)∈L:=fun L=>by
  induction L with
  |nil=>intro z;cases z
  |cons a r ih=>
   intro z
   rw[lookup_cons] at z
   by_cases y:c=a.1
   ·rw[y] at z ⊢;simp at z;rw[<- z];exact mem_cons_self
   ·rw[show (c==a.1)=false from by simpa using y] at z
    exact mem_cons_of_mem _ (ih z)
 exact List.mem_filterMap.mpr ⟨(c,o),mem K e,e2⟩
theorem Ay{K:PySem.W.Frag}{h:Heap}{c P:Addr}{o:Obj}{q:Str}(X:K.In h)(l:K.lookup c=some o)(e:cT o=some (P,q)):isCodeTable h P:=by
 have ho:=X _ _ l
 unfold cT at e
 split at e
 ·rename_i cn vs hcls hd
  split at e
  ·rename_i hcn
   subst hcn
   split at e
   ·rename_i e11 e18
    split at e
    ·cases e
     exact⟨c,o,vs,ho,hcls,hd,by assumption⟩
    ·cases e
   ·cases e
  ·cases e
 ·cases e
theorem GV{K:PySem.W.Frag}{c P:Addr}{q:Str}(h:(K.lookup c).bind cT=some (P,q)):∃o,K.lookup c=some o/\cT o=some (P,q):=Option.bind_eq_some_iff.mp h
theorem Cu{K T:PySem.W.Frag}{h:Heap}(X:PySem.W.Frag.In (K++T) h):K.In h:=fun b o e=>X b o (by
 show List.lookup b (K++T)=some o
 rw[List.lookup_append,show List.lookup b K=some o from e];rfl)
noncomputable def QT(ds:List D):PQ:=fun K u U H=>∃a us,u = .ref a/\H a=some (.tup us)/\jt K U H ds us
noncomputable def Sm(k:Int):List Int->Option Nat
 |[]=>none
 |x::r=>if x=k then some 0 else (Sm k r).map (· + 1)
section
variable {X:Cx}{o e:Expr}{to te:DTE}{apos cpos:Pos}
noncomputable def SJ(to te:DTE):DTE:=fun ρ U Q=>to ρ U fun x al=>match x with
 |.v (.list xs)=>te ρ al fun y am=>(match y with
  |.v (.int k)=>∃is j,xs=is.map PyData.int/\Sm k is=some j/\Q (.v (.int (j:Nat))) am
  |_=>False)
 |_=>False
end
section
variable {X:Cx}
noncomputable def RR:R2:=fun x y H Q=>y = .non/\((x = .non/\Q (.bl true) H)\/(∃i,x = .int i/\Q (.bl false) H))
theorem MA:OpR X (compareOp .Is) RR:=by
 intro pins s Z H x y v u Q I rx ry h
 obtain⟨rfl,⟨rfl,q⟩|⟨i,rfl,q⟩⟩:=h
 ·cases rx;cases ry
  exact wpAny_is_plain rfl ⟨.bl true,H,I,rfl,q⟩
 ·obtain⟨t,rfl⟩:=rx
  cases ry
  exact wpAny_is_plain rfl ⟨.bl false,H,I,rfl,q⟩
noncomputable def GO:D->D->Mu->DK->Prop:=fun x y U Q=>match x,y with
 |.v .none,.v .none=>Q (.v (.bool true)) U
 |.v (.int _),.v .none=>Q (.v (.bool false)) U
 |_,_=>False
theorem QV{K:PySem.W.Frag}:jJ K RR GO:=by
 intro x y ux uy H U Qd Q ok rx ry h k
 unfold GO at h
 split at h
 ·cases rx;cases ry;exact⟨rfl,.inl ⟨rfl,k (.v _) _ U H .refl ok (Rp.bool _) h⟩⟩
 ·cases rx;cases ry;exact⟨rfl,.inr ⟨_,rfl,k (.v _) _ U H .refl ok (Rp.bool _) h⟩⟩
 ·exact h.elim
theorem Mr{U:Mu}{Q:DK}{i:Int}:GO (.v (.int i)) (.v .none) U Q=Q (.v (.bool false)) U:=propext Iff.rfl
end
mutual
theorem Rp.sub{K:PySem.W.Frag}{U al:Mu}{H:Hp}(h:∀a,al a=none->U a=none):∀{d:PyData} {u:V},Rp K al H d u->Rp K U H d u
 |_,_,.none=>.none
 |_,_,.bool b=>.bool b
 |_,_,.int i=>.int i
 |_,_,.str x=>.str x
 |_,_,.list a b c=>.list a (h _ b) (RpL.sub h c)
 |_,_,.tuple a c=>.tuple a (RpL.sub h c)
theorem RpL.sub{K:PySem.W.Frag}{U al:Mu}{H:Hp}(h:∀a,al a=none->U a=none):∀{ds:List PyData} {us:List V},RpL K al H ds us->RpL K U H ds us
 |_,_,.nil=>.nil
 |_,_,.cons a b=>.cons (Rp.sub h a) (RpL.sub h b)
end
structure eY(U ad:Mu):Prop where
 l:∀b ds,U b=some ds->ad b=some ds
 b:∀b c,U.b b=some c->ad.b b=some c
noncomputable instance {U ad:Mu}:CoeFun (eY U ad) fun _=>∀b ds,U b=some ds->ad b=some ds:=⟨eY.l⟩
theorem eY.refl{U:Mu}:eY U U:=⟨fun _ _ e=>e,fun _ _ e=>e⟩
theorem eY.none{U ad:Mu}(h:eY U ad){b:Addr}(e:ad b=none):U b=none:=by
 cases z:U b with
 |none=>rfl
 |some ds=>rw[h b ds z] at e;cases e
theorem DV{K:PySem.W.Frag}{U ad:Mu}{H:Hp}(ok:bP K ad H)(s:eY U ad):bP K U H:=⟨fun a ds z=>by
 obtain⟨xs,h1,h2⟩:=ok.lst a ds (s a ds z)
 exact⟨xs,h1,h2.sub fun b hb=>s.none hb⟩,ok.tab,fun a c z=>by
 obtain⟨y,o,h1,h2⟩:=ok.box a c (s.b a c z)
 exact⟨y,o,h1,h2.shrink fun b hb=>s.none hb⟩⟩
theorem eY.set{U ad:Mu}{p:Addr}{ds:List PyData}(h:eY U ad)(n:U p=Option.none):eY U (aW ad p ds):=⟨fun b es e=>by
 have:b≠p:=fun z=>by rw[z,n] at e;cases e
 rw[bM this];exact h b es e,h.b⟩
theorem eY.box{U ad:Mu}{p:Addr}{c:Box}(h:eY U ad)(n:U.b p=Option.none):eY U (ck ad p c):=⟨h.l,fun b x e=>by
 have:b≠p:=fun z=>by rw[z,n] at e;cases e
 rw[bY this];exact h.b b x e⟩
noncomputable def frz(U:Mu)(Qd:DK):DK:=fun d ad=>match d with
 |.v x=>eY U ad/\Qd (.v x) U
 |.m a=>(U a=none/\eY U ad)/\∃es,ad a=some es/\Qd (.v (.list es)) U
 |_=>False
theorem BE{P:Program}{w:World}{K:PySem.W.Frag}{mg:Str->Option Value}{base:Heap}{CX:CXT}{k:Nat}{f:Addr}{fd:FuncData}{ps:List Str}{sp sp':DSp}(F:mT P w K mg base CX k f fd ps (spD K sp))
  (h:∀ds U Qd,sp' ds U Qd->sp ds U (frz U Qd)):mT P w K mg base CX k f fd ps (spD K sp'):=by
 refine F.imp fun vs H Q E h'=>?_
 obtain⟨ds,U,Qd,ok,r,s,kk⟩:=h'
 refine⟨ds,U,_,ok,r,h _ _ _ s,fun d u ad H' e ok' rd q=>?_⟩
 cases d with
 |v x=>
  obtain⟨sb,q⟩:=q
  exact kk (.v x) u U H' ⟨e.keep,e.tb,fun b ds z=>⟨ds,z⟩,fun _ z _=>z,e.st,fun _ c z=>⟨c,z⟩⟩ (DV ok' sb) (show Rp K U H' x u from (show Rp K ad H' x u from rd).sub fun b hb=>sb.none hb) q
 |m a=>
  obtain⟨⟨n,sb⟩,es,he,q⟩:=q
  obtain⟨rfl,_⟩:=rd
  obtain⟨xs,h1,h2⟩:=ok'.lst a es he
  exact kk (.v (.list es)) (.ref a) U H' ⟨e.keep,e.tb,fun b ds z=>⟨ds,z⟩,fun _ z _=>z,e.st,fun _ c z=>⟨c,z⟩⟩ (DV ok' sb) (show Rp K U H' (.list es) (.ref a) from .list h1 n (h2.sub fun b hb=>sb.none hb)) q
 |s ns=>exact q.elim
 |o a=>exact q.elim
 |b a=>exact q.elim
 |q p=>exact q.elim
end L2.DL
namespace L2
open PySem PySem.W PyProof.Rows
end L2
namespace L2.DL
open PySem PySem.Spec PyProof.Rows
end L2.DL
namespace L2
open PySem PySem.W PyProof.Rows
end L2
namespace L2.DL
open PySem PySem.Spec PyProof.Rows
end L2.DL
namespace L2
open PySem PySem.Spec PyProof.Rows
end L2
namespace L2.DL
open PySem PySem.W PyProof.Rows
open PySem PySem.Spec PyProof.Rows
end L2.DL
namespace L2
open PySem PySem.Spec PyProof.Rows
end L2
namespace L2.DL
open PySem PySem.Spec PyProof.Rows
end L2.DL
namespace L2
open PySem PySem.Spec PyProof.Rows
section
variable {X:Cx}
noncomputable def MY:V->List V->Hp->VK->Prop:=fun x vs H Q=>∃(l:Addr) (xs:List V) (i:Nat) (y:V),x = .ref l/\vs=[.int (i:Nat),y]/\H l=some (.lst xs)/\i<=xs.length/\xs.length<=1000/\Q .non (upd H l (.lst (xs.take i++y::xs.drop i)))
theorem Vals.ins{xs:List V}{us:List Value}{y:V}{u:Value}(h:Vals xs us)(r:RelV y u):∀i:Nat,Vals (xs.take i++y::xs.drop i) (us.take i++u::us.drop i):=by
 induction h with
 |nil=>intro i;simp;exact .cons r .nil
 |cons p t ih=>
  intro i
  cases i with
  |zero=>exact .cons r (.cons p t)
  |succ i=>exact .cons p (ih i)
theorem Ig:MtM X "list.insert" MY:=by
 intro pins s Z H x vs v us Q I rx rv h
 obtain⟨l,xs,i,y,rfl,rfl,hH,hi,hz,q⟩:=h
 cases rx
 obtain⟨u1,u2,rfl,ru1,ru2⟩:=vals2 rv
 obtain⟨t,rfl⟩:=ru1
 obtain⟨z,its,n,r,hl,e⟩:=I.IS hH
 have hs:(1000:Nat)<sizeLine:=by decide
 have fit:Builtin.List.listFitsIndex (i:Int)=true:=by
  unfold Builtin.List.listFitsIndex
  rw[and_eq_true,decide_eq_true_eq,decide_eq_true_eq]
  have p:(2:Int) ^ 63=9223372036854775808:=by decide
  rw[p]
  omega
 obtain⟨x,hx⟩:∃x:Int,x=(i:Int):=⟨_,rfl⟩
 rw[<- hx] at fit ⊢
 have hn:¬ (!Builtin.List.listFitsIndex x)=true:=by rw[fit];exact Bool.false_ne_true
 have hsz:its.toArray.size<=sizeLine:=by rw[size_toArray];omega
 have M:=AutoSeq1.list_insert_list_int_val_1 l its.toArray n x t u2 hn hsz
 refine call_meets F.slot_list_insert ⟨_,e,rfl⟩ F.entry_list_insert (F.args_list_insert_3 _ _ _) M ⟨e,?_⟩
 refine⟨.non,_,I.PH (its':=its.take i++u2::its.drop i) hH e ?_ (Vals.ins r ru2 i) ?_,rfl,q⟩
 ·dsimp only
  rw[if_neg ∅,hx,Int.toNat_natCast,size_toArray,min_eq_left ∅]
  apply Array.ext'
  simp
  exact List.take_of_length_le (by simp)
 ·simp
  omega
end
end L2
namespace L2.DL
open PySem PySem.Spec PyProof.Rows
section
variable {X:Cx}{o i e:Expr}{to ti te:DTE}{apos cpos:Pos}
theorem RpL.ins{K:PySem.W.Frag}{U:Mu}{H:Hp}{ds:List PyData}{us:List V}{d:PyData}{u:V}(q:Rp K U H d u):∀(i:Nat),RpL K U H ds us->RpL K U H (ds.take i++d::ds.drop i) (us.take i++u::us.drop i)
 |_,.nil=>by simp;exact .cons q .nil
 |0,.cons p t=>.cons q (.cons p t)
 |i+1,.cons p t=>.cons p (RpL.ins q i t)
noncomputable def MM(to ti te:DTE):DTE:=fun ρ U Q=>to ρ U fun x al=>match x with
 |.m l=>ti ρ al fun z am=>te ρ am fun y ci=>∃(j:Nat) (d:PyData) (xs:List PyData),z = .v (.int (j:Nat))/\y = .v d/\ci l=some xs/\j<=xs.length/\xs.length<=1000/\Q (.v .none) (aW ci l (xs.take j++d::xs.drop j))
 |_=>False
theorem II(ho:DE X o to)(hi:DE X i ti)(ha:DE X e te)(hbase:attributeBase o "insert" X.env (eval o X.env)=eval o X.env:=by rfl)
  (hfew:((backTo cpos (starEach [i,e] X.env)).all (fun x=>!x.1)&&(backToKw cpos (keywordEach [] X.env)).all (fun x=>x.1.isSome)
   && decide ([i,e].length+([]:List Keyword).length+(if ([]:List Keyword).isEmpty then 0 else 1)<30))=true:=by rfl)
  (hline:(apos.endLine==cpos.line)=true:=by rfl) (hs:starEach [i,e] X.env=(false,eval i X.env)::starEach [e] X.env:=by rfl) (hs2:starEach [e] X.env=(false,eval e X.env)::starEach [] X.env:=by rfl) (hplain:(backTo cpos (starEach [e] X.env)).any (·.1)=false:=by rfl) :
  DE X (.Call (.Attribute o "insert" apos) [i,e] [] cpos) (MM to ti te):=by
 obtain⟨t1,p1,l1⟩:=ho
 obtain⟨t3,p3,l3⟩:=hi
 obtain⟨t2,p2,l2⟩:=ha
 refine⟨_,Ow PySem.F.plainAttrs_list PySem.F.slot_list_insert PySem.F.type_list_insert Ig p1 (oN p3 (oN p2 Di hs2) hs) hbase hfew hline hs hplain,fun Z H ρ U Qd Q S h k=>?_⟩
 refine l1 Z H ρ U _ _ S h fun x ux al H1 e1 S1 rx h1=>?_
 cases x with
 |m l=>
  obtain⟨rfl,ds,hm⟩:=id rx
  obtain⟨us,hl,rl⟩:=S1.mu l ds hm
  refine⟨.inl ⟨rfl,us,SqL.of hl⟩,?_⟩
  refine l3 Z H1 ρ al _ _ S1 h1 fun z uz am H2 e2 S2 rz h2=>?_
  refine l2 Z H2 ρ am _ _ S2 h2 fun y uy ci H3 e3 S3 ry h3=>?_
  obtain⟨j,d,xs,rfl,rfl,hx,hj,hz,q⟩:=h3
  obtain⟨us3,hl3,rl3⟩:=S3.mu l xs hx
  cases rz
  refine⟨l,us3,j,uy,rfl,rfl,hl3,by rw[<- rl3.length];exact hj,by rw[<- rl3.length];exact hz,?_⟩
  have ex:Ext X.K ci H3 (aW ci l (xs.take j++d::xs.drop j)) (upd H3 l (.lst (us3.take j++uy::us3.drop j))):=lN hx
  exact k (.v .none) .non _ _ (e1.trans (e2.trans (e3.trans ex))) ⟨S3.mu.set hx (rl3.ins ry j),S3.rho.ext S3.mu ex⟩ Rp.none q
 |v d=>exact h1.elim
 |s _=>exact h1.elim
 |o _=>exact h1.elim
 |b _=>exact h1.elim
 |q _=>exact h1.elim
theorem Ss{ρ:Rho}{U:Mu}{Q:DK}:MM to ti te ρ U Q=to ρ U (fun x al=>match x with
 |.m l=>ti ρ al fun z am=>te ρ am fun y ci=>∃(j:Nat) (d:PyData) (xs:List PyData),z = .v (.int (j:Nat))/\y = .v d/\ci l=some xs/\j<=xs.length/\xs.length<=1000/\Q (.v .none) (aW ci l (xs.take j++d::xs.drop j))
 |_=>False):=propext Iff.rfl
end
end L2.DL
namespace L2
open PySem PySem.Spec PyProof.Rows
section
variable {X:Cx}
noncomputable def Pr(x y:Str):Int:=match Builtin.Str.lastOccurrence x y 0 x.length with|some i=>(i:Nat)|none=>-1
end
end L2
namespace L2
open PySem PySem.Spec PyProof.Rows
end L2
namespace L2
open PySem PySem.Spec PyProof.Rows
end L2
namespace L2.DL
open PySem PySem.Spec PyProof.Rows
section
variable {X:Cx}{a b e e1 e2 o:Expr}{es:List Expr}{ta tb te to:DTE}{t:DTA}{pos p p2 apos cpos:Pos}{lo hi:Option Expr}
noncomputable def MZ(x y:Str):Bool:=decide (0+y.length<=x.length)&&Builtin.Str.subAt x y 0
noncomputable def Sw(x y:Str):Bool:=decide (0+y.length<=x.length)&&Builtin.Str.subAt x y (x.length-y.length)
end
section
variable {X:Cx}{a b e e1 e2 o tg:Expr}{es:List Expr}{ta tb te to:DTE}{t:DTA}{pos p p2 apos cpos:Pos}{lo hi:Option Expr}
noncomputable abbrev DTJ:=Str->Rho->Mu->(Str->Mu->Prop)->Prop
end
section
variable {X:Cx}{e o:Expr}{te to:DTE}{apos cpos:Pos}
noncomputable def Ny(x y:Str):PyData:=.bool (MZ x y)
noncomputable def R3(x y:Str):PyData:=.bool (Sw x y)
noncomputable def OZ(x y:Str):PyData:=.int (Pr x y)
end
noncomputable def Ite(K:PySem.W.Frag)(l:Addr):It:=
 ⟨fun i H=>∃xs x,SqL K H l xs/\xs[i]? = some x,
  fun i H v H'=>∃p x,v = .ref p/\H p=none/\H'=upd H p (.tup [.int i,x])/\(∀xs,SqL K H l xs->xs[i]? = some x),
  fun i H=>∃xs,SqL K H l xs/\xs.length<=i⟩
noncomputable def Qt(e it l:Addr)(i:Nat)(h:Heap):Prop:=(∃old,IsEnum h e it i old)/\h.IsListIter it l i
theorem Jh{P:Program}{w:World}{K:PySem.W.Frag}{es:List Expr}{x1:Nat}{pos:Pos}(e it l:Addr)(hei:e≠it) :
  Turn true P w K (.Tuple es x1 pos) (Ite K l) [e,it] e (Qt e it l) where
 mem:=by simp
 obj:=fun i h st b hb=>by
  obtain⟨⟨old,a1⟩,⟨o4,a4,c4,d4⟩⟩:=st
  simp only[mem_cons,not_mem_nil,or_false] at hb
  rcases hb with rfl|rfl
  ·exact⟨_,a1,fun v z=>by cases z⟩
  ·exact⟨_,a4,fun v z=>by rw[d4] at z;cases z⟩
 keep:=fun i h h' st k=>by
  obtain⟨⟨old,a1⟩,a4⟩:=st
  exact⟨⟨old,k e (by simp) _ a1⟩,a4.at fun o e=>k it (by simp) o e⟩
 item:=by
  intro X hP hw hK hc i pins s Z H E I hf st hg
  subst hP hw hK
  obtain⟨xs,x,hq1,hx⟩:=hg
  obtain⟨its1,rv1,p1,_⟩:=I.list hq1
  obtain⟨u,hu,ru⟩:=rv1.get hx
  obtain⟨⟨old,a1⟩,a4⟩:=id st
  refine wpAny_pyNext_enum_item a1 a4 p1.isList (x:=u) (by simpa using hu) hei fun h' b1 b2 b3 b4 b5=>?_
  refine⟨.ref s.heap.objs.size,rfl,wpAny_letOwnedTupleGo_enum (s:={s with heap:=h',toks:=s.toks+1}) b1 fun h2 c1 sb=>?_⟩
  have hne:s.heap.objs.size≠e:=Nat.ne_of_gt (Heap.lt_size a1)
  have hT:h2.get? s.heap.objs.size=some {cls:=.type "tuple",data:=.seq #[.int i s.toks,u]}:=sb.extBut _ _ hne b3
  refine⟨.ref s.heap.objs.size,upd H s.heap.objs.size (.tup [.int i,x]),?_,rfl,⟨s.heap.objs.size,x,rfl,I.hok.fresh (le_refl _),rfl,fun zs hz=>by rw[I.EX hz hq1];exact hx⟩,?_,fun b hb=>?_⟩
  ·refine Inv.FI (s:=s) (h':=h2) (t':=s.toks+1) (ch:=[e,it]) I hf (fun b o hb e=>?_) (le_refl _) ⟨by show 2<=sizeLine;decide,[.int i s.toks,u],.cons ⟨_,rfl⟩ (.cons ru .nil),_,hT,rfl,0,rfl⟩
   simp only[mem_cons,not_mem_nil,or_false,not_or] at hb
   exact sb.extBut _ _ hb.1 (b5 b o hb.1 hb.2 e)
  ·exact⟨⟨_,by simpa using c1⟩,b2.at fun o e=>sb.extBut _ o (Ne.symm hei) e⟩
  ·have hb':b<s.heap.objs.size:=by
    simp only[mem_cons,not_mem_nil,or_false] at hb
    obtain⟨o4,e4,_⟩:=a4
    rcases hb with rfl|rfl
    ·exact Heap.lt_size a1
    ·exact Heap.lt_size e4
   rw[aU (ne_of_lt hb')]
   exact (hf b hb).1
 done:=by
  intro X hP hw hK hc i pins s Z H E I hf st hg
  subst hP hw hK
  obtain⟨xs,hq1,hx⟩:=hg
  obtain⟨its1,rv1,p1,_⟩:=I.list hq1
  obtain⟨⟨old,a1⟩,a4⟩:=id st
  have hl1:=rv1.length
  refine wpAny_pyNext_enum_end (I.ok.hd (hc rfl)) a1 a4 p1.isList (by simp;omega) fun h' b7=>⟨rfl,?_⟩
  refine Inv.M6 (t':=s.toks) (ch:=[e,it]) I hf fun b o hb e=>?_
  simp only[mem_cons,not_mem_nil,or_false,not_or] at hb
  exact b7 b o hb.2 e
 self:=fun _ _ _ _ _ st h=>by
  obtain⟨⟨old,a1⟩,_⟩:=st
  exact wpAny_pyIter_enum a1 h
section
variable {X:Cx}{es:List Expr}{x1:Nat}{tpos:Pos}
noncomputable def R7(K:PySem.W.Frag)(ta:TA):TI:=fun Z H R=>ta Z H fun vs H1=>∃l,vs=[.ref l]/\(∃xs,SqL K H1 l xs)/\R (Ite K l) H1
theorem Nt{a:Expr}{ta:TA}{p pos:Pos}(hc:X.calm=true)(hg:Gl X "enumerate")(hm:X.mg "enumerate"=none)(ha:PA X [a] ta)(hs:starEach [a] X.env=[(false,eval a X.env)]:=by rfl) :
  PI X (.Tuple es x1 tpos) (.Call (.Name "enumerate" p) [a] [] pos) (R7 X.K ta):=by
 intro pins s Z H R I h
 refine Call_ (p7 I hg hm PyProof.Rows.Boot.«enumerate» (PyProof.Rows.callWith_type1 (thn (ha pos pins s Z H _ I h) fun us s1 hq0=>?_) (by rw[hs];rfl) (by rfl)))
 obtain⟨vs,H1,I1,r1,q1⟩:=hq0
 obtain⟨l1,e,⟨xs,hq1⟩,q⟩:=q1
 subst e
 cases r1 with
 |cons r rr=>
  cases rr
  cases r
  obtain⟨its1,rv1,p1,_⟩:=I1.list hq1
  refine call_enumerate_list p1.isList fun h' hz hi1 hsz hk=>?_
  refine wpAny_pyIter_enum (s:={s1 with heap:=h'}) hz ?_
  refine⟨s1.heap.objs.size+1,[s1.heap.objs.size+1,s1.heap.objs.size],_,_,H1,rfl,I1.kept (t':=s1.toks) hk,(Jh _ _ l1 (Nat.succ_ne_self _)).calm hc,⟨⟨_,hz⟩,hi1⟩,fun b hb=>?_,q⟩
  have hb':s1.heap.objs.size<=b:=by
   simp only[mem_cons,not_mem_nil,or_false] at hb
   rcases hb with rfl|rfl
   ·exact Nat.le_add_right _ 1
   ·exact le_refl _
  exact I1.L8 hb' (I1.hok.fresh hb')
noncomputable def jD:Nat->List PyData->List PyData
 |_,[]=>[]
 |i,x::xs=>.tuple [.int i,x]::jD (i+1) xs
theorem AO:∀{xs:List PyData} {j i:Nat} {x:PyData},xs[i]? = some x->(jD j xs)[i]? = some (.tuple [.int ((j+i:Nat):Int),x])
 |_::_,j,0,x,h=>by simp at h;subst h;rfl
 |_::xs,j,i+1,x,h=>by
  have:=AO (xs:=xs) (j:=j+1) (i:=i) (x:=x) (by simpa using h)
  rw[show j+1+i=j+(i+1) by omega] at this
  exact this
 |[],j,i,x,h=>by simp at h
theorem uF:∀(j:Nat) (xs:List PyData),(jD j xs).length=xs.length
 |_,[]=>rfl
 |j,_::xs=>by show (jD (j+1) xs).length+1=xs.length+1;rw[uF]
noncomputable def CY(t:DTA):DTI:=fun ρ U Q=>t ρ U fun ds al=>match ds with
 |[.v (.list xs)]=>Q (jD 0 xs) al
 |_=>False
theorem GQ{a:Expr}{t:DTA}{p pos:Pos}(hg:Gl X "enumerate")(hm:X.mg "enumerate"=none)(ha:DA X [a] t)(hs:starEach [a] X.env=[(false,eval a X.env)]:=by rfl)(hc:X.calm=true:=by rfl) :
  DI X (.Tuple es x1 tpos) (.Call (.Name "enumerate" p) [a] [] pos) (CY t):=by
 obtain⟨t1,p1,l1⟩:=ha
 refine⟨_,Nt hc hg hm p1 hs,fun Z H ρ U Qd R S h k=>?_⟩
 refine l1 Z H ρ U _ _ S h fun ds us al H1 e1 S1 rs len h1=>?_
 split at h1
 ·rename_i xs
  cases rs with
  |cons r1 r2=>
   cases r2
   cases r1 with
   |@list a us _ ha hn ra=>
    refine⟨a,rfl,⟨us,SqL.of ha⟩,k (jD 0 xs) al H1 _ e1 S1 (fun am H2 e2 ok2 i=>⟨fun hi=>?_,fun hi=>?_⟩) h1⟩
    ·rw[uF] at hi
     have ha2:=e2.keep _ _ ha hn trivial
     have i1:i<us.length:=by rw[<- ra.length];omega
     refine⟨⟨us,us[i],SqL.of ha2,by simp[i1]⟩,?_⟩
     rintro v H' ⟨p,x,rfl,hp,rfl,hx⟩
     obtain⟨u',h1',h2'⟩:=ra.get (i:=i) (d:=xs[i]'∅) (by simp)
     have z1:=hx us (SqL.of ha2)
     rw[h1'] at z1
     cases z1
     have eg:=AO (xs:=xs) (j:=0) (i:=i) (x:=xs[i]'∅) (by simp)
     rw[Nat.zero_add] at eg
     refine⟨.tuple [.int i,xs[i]'∅],eg,DD hp,?_⟩
     exact iN ok2 (.cons (Rp.int _) (.cons (h2'.ext S1.mu e2) .nil)) hp
    ·rw[uF] at hi
     have l1:=ra.length
     exact⟨us,SqL.of (e2.keep _ _ ha hn trivial),∅⟩
 ·exact h1.elim
theorem J3{t:DTA}{ρ:Rho}{U:Mu}{Q:List PyData->Mu->Prop}:CY t ρ U Q=t ρ U fun ds al=>match ds with|[.v (.list xs)]=>Q (jD 0 xs) al|_=>False:=propext Iff.rfl
end
open PySem PySem.Spec PyProof.Rows NM
theorem gg{n m:Nat}{i j:Int}(h:Sz n i)(g:Sz m j)(l:n+m<=100000):IntMulOk i j:=by
 have b1:∀{k:Nat} {z:Int},Sz k z->Builtin.Int.intBits z<=k:=fun {k z} hz=>by
  unfold Builtin.Int.intBits
  split
  ·exact zero_le _
  ·rename_i q
   have hz':z.natAbs≠0:=by simp at q;omega
   have:=(Nat.log2_lt hz').mpr hz.lt
   omega
 have e1:=b1 h
 have e2:=b1 g
 unfold IntMulOk
 intro z
 simp only[and_eq_true] at z
 have z3:=z.2
 unfold Builtin.Int.intTooBig at z3
 simp only[decide_eq_true_eq] at z3
 have:(100000:Int)<=bitsLine:=by decide
 omega
theorem Aq{n:Nat}{i j:Int}(h0:j≠0)(h:Sz n j)(l:n<=8900):rN i j:=by
 refine⟨h0,PyProof.noPylong_of_log2 ?_⟩
 have hz':j.natAbs≠0:=by omega
 have:=(Nat.log2_lt hz').mpr h.lt
 omega
theorem divC{i j:Int}(h0:j≠0)(h1:j.natAbs<1073741824):rN i j:=⟨h0,PyProof.noPylong_small h1⟩
theorem mulL{i j:Int}(h:i.natAbs<2 ^ 64):IntMulOk i j:=Nj.ok (.inl ∅)
theorem mulR{i j:Int}(h:j.natAbs<2 ^ 64):IntMulOk i j:=Nj.ok (.inr ∅)
noncomputable def dN(x:N3):PyData:=.tuple [.int x.a,.int x.b,.int x.c]
noncomputable def isWhole(d:PyData):Bool:=isT "int" d&&!isT "bool" d
noncomputable def isNum:PyData->Bool
 |.tuple [.int a,.int b,.int c]=>decide (1<=c)&&(g3 a b c==1)
 |_=>false
noncomputable def oi:DSp:=fun ds U Q=>∃d,ds=[.v d]/\Q (.v (.bool (isWhole d))) U
noncomputable def sD:DSp:=fun ds U Q=>∃a b:Int,ds=[.v (.int a),.v (.int b)]/\Q (.v (.int (Int.gcd a b:Nat))) U
noncomputable def xl:DSp:=fun ds U Q=>∃a b c:Int,ds=[.v (.int a),.v (.int b),.v (.int c)]/\Q (.v (.int (g3 a b c:Nat))) U
noncomputable def Few:PyData->Prop
 |.tuple xs=>xs.length<=1000
 |_=>True
noncomputable def pW:DSp:=fun ds U Q=>∃d,ds=[.v d]/\Few d/\Q (.v (.bool (isNum d))) U
noncomputable def cE:DSp:=fun ds U Q=>∃a b c:Int,ds=[.v (.int a),.v (.int b),.v (.int c)]/\c≠0/\Sz 8800 c/\Q (.v (dN (low a b c))) U
noncomputable def eR:DSp:=fun ds U Q=>∃x:N3,ds=[.v (dN x)]/\Q (.v (dN (bW x))) U
noncomputable def og:DSp:=fun ds U Q=>∃x:N3,ds=[.v (dN x)]/\Q (.v (dN (minus x))) U
noncomputable def sp2(f:N3->N3->N3):DSp:=fun ds U Q=>∃x y:N3,ds=[.v (dN x),.v (dN y)]/\Ok x/\Ok y/\Bd 4300 x/\Bd 4300 y/\Q (.v (dN (f x y))) U
noncomputable abbrev dE:DSp:=sp2 plus
noncomputable abbrev j6:DSp:=sp2 less
noncomputable def bz:DSp:=fun ds U Q=>∃(d:Int) (x y:N3),ds=[.v (.int d),.v (dN x),.v (dN y)]/\Sz 5 d/\Ok x/\Ok y/\Bd 4300 x/\Bd 4300 y/\Q (.v (dN (times d x y))) U
noncomputable def cS:DSp:=fun ds U Q=>∃(d:Int) (x:N3),ds=[.v (.int d),.v (dN x)]/\Sz 5 d/\norm d x≠0/\Bd 4300 x/\Q (.v (dN (aX d x))) U
noncomputable def iu:DSp:=fun ds U Q=>∃(d:Int) (x y:N3),ds=[.v (.int d),.v (dN x),.v (dN y)]/\aB d/\Ok x/\Ok y/\y≠au/\Bd 2100 x/\Bd 2100 y/\Q (.v (dN (times d x (aX d y)))) U
noncomputable def tq:DSp:=fun ds U Q=>∃d a b:Int,ds=[.v (.int d),.v (.int a),.v (.int b)]/\Sz 5 d/\Sz 9900 a/\Sz 9900 b/\Q (.v (.int (sg d a b))) U
noncomputable def dI:DSp:=fun ds U Q=>∃(d:Int) (x:N3),ds=[.v (.int d),.v (dN x)]/\aB d/\Bd 8900 x/\Q (.v (.int (sg d x.a x.b))) U
noncomputable def dif(d:Int)(x y:N3):Int:=sg d (x.a*y.c-y.a*x.c) (x.b*y.c-y.b*x.c)
noncomputable def oA:DSp:=fun ds U Q=>∃(d:Int) (x y:N3),ds=[.v (.int d),.v (dN x),.v (dN y)]/\aB d/\Bd 4400 x/\Bd 4400 y/\Q (.v (.bool (decide (dif d x y=1)))) U
noncomputable def sW:DSp:=fun ds U Q=>∃(d:Int) (x y:N3),ds=[.v (.int d),.v (dN x),.v (dN y)]/\aB d/\Ok x/\Ok y/\Bd 4300 x/\Bd 4300 y/\Q (.v (.bool (decide (dif d y x=1)))) U
noncomputable def Bag(U:Mu)(a:Addr):Prop:=∃g m:Int,U a=some [.int g,.int m]/\0<=g/\0<=m/\m<2147483648
noncomputable def Step(a:Addr)(U ad:Mu):Prop:=Bag ad a/\∀b,b≠a->ad b=U b
noncomputable def GY:DSp:=fun ds U Q=>∃(ns:List Int) (k:Int),ds=[.s ns,.v (.int k)]/\0<=k/\k<=1000/\∀p ad,U p=none->Step p U ad->Q (.m p) ad
noncomputable def cW:DSp:=fun ds U Q=>∃(a:Addr) (n:Int),ds=[.m a,.v (.int n)]/\1<=n/\n<=1000000000/\Bag U a/\∀r ad,0<=r->r<n->Step a U ad->Q (.v (.int r)) ad
noncomputable def oE:DSp:=fun ds U Q=>∃a:Addr,ds=[.m a]/\Bag U a/\∀x ad,Ok x->Bd 20 x->Step a U ad->Q (.v (dN x)) ad
noncomputable def wj:DSp:=fun ds U Q=>∃a:Addr,ds=[.m a]/\Bag U a/\∀d ad,aB d->Step a U ad->Q (.v (.int d)) ad
theorem Step.trans{a:Addr}{U al am:Mu}(h:Step a U al)(g:Step a al am):Step a U am:=⟨g.1,fun b n=>(g.2 b n).trans (h.2 b n)⟩
theorem Step.set{a:Addr}{U:Mu}{g m:Int}(h1:0<=g)(h2:0<=m)(h3:m<2147483648):Step a U (aW U a [.int g,.int m]):=⟨⟨g,m,aV,h1,h2,h3⟩,fun b n=>bM n⟩
def mkW(s:String):Lean.MacroM (Lean.TSyntax `tactic):=do let a<-(s.splitOn " ").toArray.mapM fun t=>if t.front=='↓' then `(Lean.Parser.Tactic.simpLemma|↓$(Lean.mkIdent (t.drop 1).toName):term) else `(Lean.Parser.Tactic.simpLemma|$(Lean.mkIdent t.toName):term);`(tactic|simp only[$a,*])
local macro_rules|`(tactic| walk_at "rd")=>mkW "↓FZ ↓F3 ↓GA ↓Ga ↓FP ↓F5 ↓Fy ↓FL ↓FF ↓Gs ↓B7 ↓q_c ↓RU ↓q_B ↓QR ↓Ju ↓L1 ↓LA ↓Oh ↓Gy ↓JQ ↓Fm ↓R4 ↓Mg ↓Gz ↓LC ↓La ↓Gb ↓Lw ↓KQ ↓Mh ↓J2 ↓KD ↓JR ↓Fv ↓Ge ↓F0 ↓Dh ↓Bp ↓Bv ↓Gu ↓zY ↓xX ↓Lb ↓JD ↓JG ↓Pm ↓ym ↓FJ ↓LF ↓Su ↓FV ↓FG ↓GB ↓Fx ↓Lc ↓Qw ↓F7 ↓BJ ↓Ku ↓Ko ↓JK ↓BF ↓Gf ↓BZ ↓FU ↓F8 ↓OE ↓KA ↓Gx ↓Hv ↓LJ ↓GG ↓OL ↓Co ↓Ke ↓Mf ↓L3 ↓FK ↓yJ ↓CC ↓yF ↓xU NG ↓xy ↓Bs Fg Fh J4 LV JZ Option.bind_none bind_some join_some List.getElem?_cons_zero List.getElem?_cons_succ aG dN rj Ae Ai DF HY List.map List.append List.replicate length_cons length_nil Nat.reduceAdd Nat.reduceSub List.nil_append List.cons_append List.set_cons_zero List.set_cons_succ map_some ↓reduceIte Bool.not_true Bool.not_false false_eq_true Bool.true_eq_false xor_false false_xor"
noncomputable def nY:DTS:=
 (aT (kK (w4 "int" (ag 0)) (zV (w4 "bool" (ag 0)))))
noncomputable def fY:DTS:=
 (aE (tS (dB (dOp (bZ true) (ag 1) (dC (.int 0)))) (vG 0 1 (af (ag 1) (af (yA (ag 0) (ag 1)) ar))))
 (aT (dCB sC (af (ag 0) ar))))
noncomputable def gb:DTS:=
 (aT (av sD (af (av sD (af (ag 2) (af (ag 0) ar))) (af (ag 1) ar))))
noncomputable def jl:DTS:=
 (aE (vG 0 1 (af (dCB sC (af (ag 0) ar)) (af (dCB sC (af (ag 1) ar)) ar)))
 (aE (tS (dB (dOp rGt (ag 1) (dC (.int 0)))) (vG 0 1 (af (ag 1) (af (yA (ag 0) (ag 1)) ar))))
 (aT (ag 0))))
section
theorem GW(x:Int){y:Int}(h:y≠0):(x.fmod y).natAbs<y.natAbs:=by
 have e:=Int.mul_fdiv_add_fmod x y
 have:=Int.fmod_def x y
 rcases lt_or_gt_of_ne h with h|h
 ·have k:=Int.neg_fmod_neg (a:=x) (b:=y)
  have h1:=Int.fmod_nonneg_of_pos (-x) (show 0 < -y by omega)
  have h2:=Int.fmod_lt_of_pos (-x) (show 0 < -y by omega)
  omega
 ·have h1:=Int.fmod_nonneg_of_pos x h
  have h2:=Int.fmod_lt_of_pos x h
  omega
theorem E3(x y:Int):Int.gcd y (x.fmod y)=Int.gcd x y:=by
 have e:=Int.mul_fdiv_add_fmod x y
 have e':x.fmod y=x+y*(-(x.fdiv y)):=by rw[Int.mul_neg];omega
 rw[e',Int.gcd_add_mul_left_right,Int.gcd_comm]
theorem EU{U Qd ds}(h:oi ds U Qd):nY ‹Qd› (aG ["thing"] ds) U:=by
 obtain⟨d,rfl,q⟩:=h
 unfold nY
 walk_at "rd"
 unfold isWhole at q
 cases hb:isT "int" d<;>simp_all
theorem sJ{U Qd ds}(h:sD ds U Qd):fY ‹Qd› (aG ["a","b"] ds) U:=by
 obtain⟨a,b,rfl,q⟩:=h
 unfold fY
 walk_at "rd"
 refine⟨fun m ρ ad=>∃x y:Int,ρ=[some (.v (.int x)),some (.v (.int y))]/\m=y.natAbs/\Int.gcd x y=Int.gcd a b/\ad=U,⟨_,a,b,rfl,rfl,rfl,rfl⟩,?_⟩
 rintro m ρ ad ⟨x,y,rfl,rfl,hg,rfl⟩
 walk_at "rd"
 by_cases hy:y=0
 ·subst hy
  have e:Int.gcd x 0=x.natAbs:=Int.gcd_zero_right x
  rw[<- hg,e] at q
  simpa using q
 ·have z:(true ^^ decide (y=0))=true:=by simp[hy]
  rw[if_pos z]
  exact⟨hy,_,GW x hy,y,x.fmod y,rfl,rfl,(E3 x y).trans hg,trivial⟩
theorem xn{U Qd ds}(h:sD ds U Qd):jl ‹Qd› (aG ["_law_one","_law_other"] ds) U:=by
 obtain⟨a,b,rfl,q⟩:=h
 unfold jl
 walk_at "rd"
 refine⟨fun m ρ ad=>∃x y:Int,ρ=[some (.v (.int x)),some (.v (.int y))]/\m=y.natAbs/\0<=x/\0<=y/\Int.gcd x y=Int.gcd a b/\ad=U,⟨_,_,_,rfl,rfl,∅,∅,by simp[Int.gcd],rfl⟩,?_⟩
 rintro m ρ ad ⟨x,y,rfl,rfl,hx,hy,hg,rfl⟩
 walk_at "rd"
 by_cases h0:0<y
 ·rw[if_pos (by simpa using h0)]
  have hy':y≠0:=by omega
  exact⟨hy',_,GW x hy',y,x.fmod y,rfl,rfl,∅,Int.fmod_nonneg_of_pos x h0,(E3 x y).trans hg,trivial⟩
 ·rw[if_neg (by simpa using h0)]
  have e:y=0:=by omega
  subst e
  rw[Int.gcd_zero_right] at hg
  have:x=((Int.gcd a b:Nat):Int):=by omega
  rw[this]
  exact q
theorem qw{U Qd ds}(h:xl ds U Qd):gb ‹Qd› (aG ["a","b","c"] ds) U:=by
 obtain⟨a,b,c,rfl,q⟩:=h
 unfold gb
 walk_at "rd"
 rw[<- Mv] at q
 exact⟨c,a,rfl,_,b,rfl,q⟩
end
noncomputable def uc:DTS:=
 (aE (bQ (dB (dOp (bZ false) (ag 2) (dC (.int 0)))) k6 br)
 (aE (aS (av xl (af (ag 0) (af (ag 1) (af (ag 2) ar)))) (aq 3))
 (aE (bQ (dB (dOp rLt (ag 2) (dC (.int 0)))) (aS (tU (ag 3)) (aq 3)) br)
 (aT (bR (af (ui (ag 0) (ag 3)) (af (ui (ag 1) (ag 3)) (af (ui (ag 2) (ag 3)) ar))))))))
noncomputable def nD:DTS:=
 (aE (aS (bU (av sD (af (av sD (af (ag 0) (af (ag 1) ar))) (af (ag 2) ar))) (dOp aF (vR (af (dC (.int 1)) (af (tU (dC (.int 1))) ar))) (dCB q5 (af (dOp rLt (ag 2) (dC (.int 0))) ar)))) (aq 3))
 (aT (bR (af (ui (ag 0) (ag 3)) (af (ui (ag 1) (ag 3)) (af (ui (ag 2) (ag 3)) ar))))))
noncomputable def jY:DTS:=
 (aT (bR (af (nB (dC (.int 0)) (dOp aF (ag 0) (dC (.int 0)))) (af (nB (dC (.int 0)) (dOp aF (ag 0) (dC (.int 1)))) (af (dOp aF (ag 0) (dC (.int 2))) ar)))))
noncomputable def C0:DTS:=
 (aT (av cE (af (jd (bU (dOp aF (ag 0) (dC (.int 0))) (dOp aF (ag 1) (dC (.int 2)))) (bU (dOp aF (ag 1) (dC (.int 0))) (dOp aF (ag 0) (dC (.int 2))))) (af (jd (bU (dOp aF (ag 0) (dC (.int 1))) (dOp aF (ag 1) (dC (.int 2)))) (bU (dOp aF (ag 1) (dC (.int 1))) (dOp aF (ag 0) (dC (.int 2))))) (af (bU (dOp aF (ag 0) (dC (.int 2))) (dOp aF (ag 1) (dC (.int 2)))) ar)))))
noncomputable def qM:DTS:=
 (aT (av cE (af (jd (bU (dOp aF (ag 0) (dC (.int 0))) (dOp aF (ag 1) (dC (.int 2)))) (bU (dOp aF (ag 1) (dC (.int 0))) (dOp aF (ag 0) (dC (.int 2))))) (af (jd (bU (dOp aF (ag 0) (dC (.int 1))) (dOp aF (ag 1) (dC (.int 2)))) (bU (dOp aF (ag 1) (dC (.int 1))) (dOp aF (ag 0) (dC (.int 2))))) (af (bU (dOp aF (ag 0) (dC (.int 2))) (dOp aF (ag 1) (dC (.int 2)))) ar)))))
noncomputable def Cf:DTS:=
 (aT (av cE (af (nB (bU (dOp aF (ag 0) (dC (.int 0))) (dOp aF (ag 1) (dC (.int 2)))) (bU (dOp aF (ag 1) (dC (.int 0))) (dOp aF (ag 0) (dC (.int 2))))) (af (nB (bU (dOp aF (ag 0) (dC (.int 1))) (dOp aF (ag 1) (dC (.int 2)))) (bU (dOp aF (ag 1) (dC (.int 1))) (dOp aF (ag 0) (dC (.int 2))))) (af (bU (dOp aF (ag 0) (dC (.int 2))) (dOp aF (ag 1) (dC (.int 2)))) ar)))))
noncomputable def xt:DTS:=
 (aT (av cE (af (jd (bU (dOp aF (ag 1) (dC (.int 0))) (dOp aF (ag 2) (dC (.int 0)))) (bU (bU (ag 0) (dOp aF (ag 1) (dC (.int 1)))) (dOp aF (ag 2) (dC (.int 1))))) (af (jd (bU (dOp aF (ag 1) (dC (.int 0))) (dOp aF (ag 2) (dC (.int 1)))) (bU (dOp aF (ag 1) (dC (.int 1))) (dOp aF (ag 2) (dC (.int 0))))) (af (bU (dOp aF (ag 1) (dC (.int 2))) (dOp aF (ag 2) (dC (.int 2)))) ar)))))
noncomputable def pA:DTS:=
 (aT (av cE (af (jd (bU (dOp aF (ag 1) (dC (.int 0))) (dOp aF (ag 2) (dC (.int 0)))) (bU (bU (ag 0) (dOp aF (ag 1) (dC (.int 1)))) (dOp aF (ag 2) (dC (.int 1))))) (af (jd (bU (dOp aF (ag 1) (dC (.int 0))) (dOp aF (ag 2) (dC (.int 1)))) (bU (dOp aF (ag 1) (dC (.int 1))) (dOp aF (ag 2) (dC (.int 0))))) (af (bU (dOp aF (ag 1) (dC (.int 2))) (dOp aF (ag 2) (dC (.int 2)))) ar)))))
noncomputable def n6:DTS:=
 (aE (aS (nB (bU (dOp aF (ag 1) (dC (.int 0))) (dOp aF (ag 1) (dC (.int 0)))) (bU (bU (ag 0) (dOp aF (ag 1) (dC (.int 1)))) (dOp aF (ag 1) (dC (.int 1))))) (aq 2))
 (aT (av cE (af (bU (dOp aF (ag 1) (dC (.int 2))) (dOp aF (ag 1) (dC (.int 0)))) (af (bU (tU (dOp aF (ag 1) (dC (.int 2)))) (dOp aF (ag 1) (dC (.int 1)))) (af (ag 2) ar))))))
noncomputable def gF:DTS:=
 (aT (av cE (af (bU (dOp aF (ag 1) (dC (.int 0))) (dOp aF (ag 1) (dC (.int 2)))) (af (nB (dC (.int 0)) (bU (dOp aF (ag 1) (dC (.int 1))) (dOp aF (ag 1) (dC (.int 2))))) (af (nB (bU (dOp aF (ag 1) (dC (.int 0))) (dOp aF (ag 1) (dC (.int 0)))) (bU (bU (ag 0) (dOp aF (ag 1) (dC (.int 1)))) (dOp aF (ag 1) (dC (.int 1))))) ar)))))
noncomputable def Bm:DTS:=
 (aE (bQ (dB (dOp (bZ false) (ag 2) (dC (.tuple [.int 0,.int 0,.int 1])))) k6 br)
 (aT (av bz (af (ag 0) (af (ag 1) (af (av cS (af (ag 0) (af (ag 2) ar))) ar))))))
noncomputable def Dl:DTS:=
 (aT (bR (af (dOp aF (ag 0) (dC (.int 0))) (af (tU (dOp aF (ag 0) (dC (.int 1)))) (af (dOp aF (ag 0) (dC (.int 2))) ar)))))
section
variable {U:Mu}{Qd:DK}{ds:List D}
theorem To(i j:Int):PyData.eqv (.int i) (.int j)=decide (i=j):=by simp[PyData.eqv];rfl
theorem gdv{a b c:Int}(h:Sz 8800 c)(hc:c≠0):Sz 8800 ((g3 a b c:Nat):Int):=by
 have h1:=(LK a b c).2.2
 have h2:=Int.natAbs_dvd_natAbs.mpr h1
 exact h.le (Nat.le_of_dvd ∅ h2)
theorem Ja(h:cE ds U Qd):uc ‹Qd› (aG ["a","b","c","divisor"] ds) U:=by
 obtain⟨a,b,c,rfl,hc,hz,q⟩:=h
 unfold uc
 walk_at "rd"
 rw[decide_eq_false hc]
 simp only[xor_false,false_eq_true,↓reduceIte]
 refine⟨a,b,c,rfl,?_⟩
 walk_at "rd"
 have hp:=Bb (a:=a) (b:=b) hc
 have hg:=gdv (a:=a) (b:=b) hz hc
 unfold low NM.dv dN at q
 simp only at q
 by_cases hn:c<0
 ·rw[if_pos (by simpa using hn)]
  rw[if_pos hn] at q
  have o:∀i:Int,rN i (-((g3 a b c:Nat):Int)):=fun i=>Aq ∅ hg.neg ⋯
  exact⟨o _,o _,o _,q⟩
 ·rw[if_neg (by simpa using hn)]
  rw[if_neg hn] at q
  have o:∀i:Int,rN i ((g3 a b c:Nat):Int):=fun i=>Aq ∅ hg ⋯
  exact⟨o _,o _,o _,q⟩
theorem E1(h:cE ds U Qd):nD ‹Qd› (aG ["_law_a","_law_b","_law_c","_law_common"] ds) U:=by
 obtain⟨a,b,c,rfl,hc,hz,q⟩:=h
 unfold nD
 walk_at "rd"
 refine⟨a,b,rfl,_,c,rfl,?_⟩
 walk_at "rd"
 have hp:=Bb (a:=a) (b:=b) hc
 have hg:=gdv (a:=a) (b:=b) hz hc
 unfold low NM.dv dN at q
 simp only at q
 by_cases hn:c<0
 ·simp only[hn,decide_true,↓reduceIte,Ai]
  rw[if_pos hn] at q
  have e:((Int.gcd (Int.gcd a b:Nat) c:Nat):Int) * -1 = -((g3 a b c:Nat):Int):=by unfold g3;omega
  walk_at "rd"
  rw[e]
  have o:∀i:Int,rN i (-((g3 a b c:Nat):Int)):=fun i=>Aq ∅ hg.neg ⋯
  exact⟨mulR ⋯,o _,o _,o _,q⟩
 ·simp only[hn,decide_false,false_eq_true,↓reduceIte,Ae]
  rw[if_neg hn] at q
  have e:((Int.gcd (Int.gcd a b:Nat) c:Nat):Int)*1=((g3 a b c:Nat):Int):=by unfold g3;omega
  walk_at "rd"
  rw[e]
  have o:∀i:Int,rN i ((g3 a b c:Nat):Int):=fun i=>Aq ∅ hg ⋯
  exact⟨mulR ⋯,o _,o _,o _,q⟩
theorem Nn(h:eR ds U Qd):Dl ‹Qd› (aG ["x"] ds) U:=by
 obtain⟨x,rfl,q⟩:=h
 unfold Dl
 walk_at "rd"
 exact q
theorem zG(h:og ds U Qd):jY ‹Qd› (aG ["_law_x"] ds) U:=by
 obtain⟨x,rfl,q⟩:=h
 unfold jY
 walk_at "rd"
 simp only[Int.zero_sub]
 exact q
theorem HL(h:dE ds U Qd):C0 ‹Qd› (aG ["x","y"] ds) U:=by
 obtain⟨x,y,rfl,ox,oy,bx,by',q⟩:=h
 unfold C0
 walk_at "rd"
 have m:∀{i j:Int},Sz 4300 i->Sz 4300 j->IntMulOk i j:=fun h g=>gg h g ⋯
 exact⟨m bx.a by'.c,m by'.a bx.c,m bx.b by'.c,m by'.b bx.c,m bx.c by'.c,_,_,_,rfl,vJ ox oy,(bx.c.mul by'.c).mono ⋯,q⟩
theorem BP(h:dE ds U Qd):qM ‹Qd› (aG ["_law_x","_law_y"] ds) U:=HL h
theorem N4(h:j6 ds U Qd):Cf ‹Qd› (aG ["x","y"] ds) U:=by
 obtain⟨x,y,rfl,ox,oy,bx,by',q⟩:=h
 unfold Cf
 walk_at "rd"
 have m:∀{i j:Int},Sz 4300 i->Sz 4300 j->IntMulOk i j:=fun h g=>gg h g ⋯
 exact⟨m bx.a by'.c,m by'.a bx.c,m bx.b by'.c,m by'.b bx.c,m bx.c by'.c,_,_,_,rfl,vJ ox oy,(bx.c.mul by'.c).mono ⋯,q⟩
theorem Fc(h:bz ds U Qd):xt ‹Qd› (aG ["d","x","y"] ds) U:=by
 obtain⟨d,x,y,rfl,hd,ox,oy,bx,by',q⟩:=h
 unfold xt
 walk_at "rd"
 have m:∀{i j:Int},Sz 4300 i->Sz 4300 j->IntMulOk i j:=fun h g=>gg h g ⋯
 exact⟨m bx.a by'.a,gg hd bx.b ⋯,gg (hd.mul bx.b) by'.b ⋯,m bx.a by'.b,m bx.b by'.a,m bx.c by'.c,_,_,_,rfl,vJ ox oy,(bx.c.mul by'.c).mono ⋯,q⟩
theorem zj(h:bz ds U Qd):pA ‹Qd› (aG ["_law_d","_law_x","_law_y"] ds) U:=Fc h
theorem Et(h:cS ds U Qd):n6 ‹Qd› (aG ["d","x","norm"] ds) U:=by
 obtain⟨d,x,rfl,hd,hn,bx,q⟩:=h
 unfold n6
 walk_at "rd"
 have m:∀{i j:Int},Sz 4300 i->Sz 4300 j->IntMulOk i j:=fun h g=>gg h g ⋯
 exact⟨m bx.a bx.a,gg hd bx.b ⋯,gg (hd.mul bx.b) bx.b ⋯,m bx.c bx.a,m bx.c.neg bx.b,_,_,_,rfl,hn,(wm hd bx).mono ⋯,q⟩
theorem tJ(h:cS ds U Qd):gF ‹Qd› (aG ["_law_d","_law_x"] ds) U:=by
 obtain⟨d,x,rfl,hd,hn,bx,q⟩:=h
 unfold gF
 walk_at "rd"
 have m:∀{i j:Int},Sz 4300 i->Sz 4300 j->IntMulOk i j:=fun h g=>gg h g ⋯
 refine⟨m bx.a bx.c,m bx.b bx.c,m bx.a bx.a,gg hd bx.b ⋯,gg (hd.mul bx.b) bx.b ⋯,_,_,_,rfl,hn,(wm hd bx).mono ⋯,?_⟩
 have e1:x.a*x.c=x.c*x.a:=Int.mul_comm ..
 have e2:0-x.b*x.c = -x.c*x.b:=by grind
 rw[e1,e2]
 exact q
theorem Rt(a b c a' b' c':Int):PyData.eqv (.tuple [.int a,.int b,.int c]) (.tuple [.int a',.int b',.int c'])=decide (a=a'/\b=b'/\c=c'):=by
 simp[PyData.eqv,PyData.eqvAll]
 rfl
theorem Nf(h:iu ds U Qd):Bm ‹Qd› (aG ["d","x","y"] ds) U:=by
 obtain⟨d,x,y,rfl,hd,ox,oy,hy,bx,by',q⟩:=h
 unfold Bm
 walk_at "rd"
 refine⟨rfl,rfl,?_⟩
 have hn:¬ (y.a=0/\y.b=0/\y.c=1):=fun z=>hy (N3.ext' z.1 z.2.1 z.2.2)
 rw[Rt,decide_eq_false hn]
 simp only[xor_false,false_eq_true,↓reduceIte]
 have s5:=jU hd.1 hd.2.1
 have nz:=hd.norm oy hy
 exact⟨d,y,rfl,s5,nz,by'.mono ⋯,d,x,_,rfl,s5,ox,bO nz,bx.mono ⋯,(jL s5 nz by').mono ⋯,q⟩
end
noncomputable def gw:DTS:=
 (aE (bQ (A0 (dB (dOp (bZ false) (ag 1) (dC (.int 0)))) (dB (dOp (bZ false) (ag 2) (dC (.int 0))))) (aT (dC (.int 0))) br)
 (aE (bQ (A0 (dB (dOp rGe (ag 1) (dC (.int 0)))) (dB (dOp rGe (ag 2) (dC (.int 0))))) (aT (dC (.int 1))) br)
 (aE (bQ (A0 (dB (dOp rLe (ag 1) (dC (.int 0)))) (dB (dOp rLe (ag 2) (dC (.int 0))))) (aT (tU (dC (.int 1)))) br)
 (aE (aS (dIf (dB (dOp rGt (bU (ag 1) (ag 1)) (bU (bU (ag 0) (ag 2)) (ag 2)))) (ag 1) (ag 2)) (aq 3))
 (aT (dIf (dB (dOp rGt (ag 3) (dC (.int 0)))) (dC (.int 1)) (tU (dC (.int 1)))))))))
noncomputable def pR:DTS:=
 (aT (av tq (af (ag 0) (af (dOp aF (ag 1) (dC (.int 0))) (af (dOp aF (ag 1) (dC (.int 1))) ar)))))
noncomputable def nT:DTS:=
 (aE (aS (nB (bU (dOp aF (ag 1) (dC (.int 0))) (dOp aF (ag 2) (dC (.int 2)))) (bU (dOp aF (ag 2) (dC (.int 0))) (dOp aF (ag 1) (dC (.int 2))))) (aq 3))
 (aE (aS (nB (bU (dOp aF (ag 1) (dC (.int 1))) (dOp aF (ag 2) (dC (.int 2)))) (bU (dOp aF (ag 2) (dC (.int 1))) (dOp aF (ag 1) (dC (.int 2))))) (aq 4))
 (aT (dOp (bZ false) (av tq (af (ag 0) (af (ag 3) (af (ag 4) ar)))) (dC (.int 1))))))
noncomputable def lT:DTS:=
 (aE (vG 2 3 (af (bU (dOp aF (ag 1) (dC (.int 0))) (dOp aF (ag 1) (dC (.int 0)))) (af (bU (bU (ag 0) (dOp aF (ag 1) (dC (.int 1)))) (dOp aF (ag 1) (dC (.int 1)))) ar)))
 (aE (aS (vR (af (nB (dCB q5 (af (dOp rGt (dOp aF (ag 1) (dC (.int 0))) (dC (.int 0))) ar)) (dCB q5 (af (dOp rLt (dOp aF (ag 1) (dC (.int 0))) (dC (.int 0))) ar))) (af (nB (dCB q5 (af (dOp rGt (dOp aF (ag 1) (dC (.int 1))) (dC (.int 0))) ar)) (dCB q5 (af (dOp rLt (dOp aF (ag 1) (dC (.int 1))) (dC (.int 0))) ar))) ar))) (aq 4))
 (aE (bQ (dB (dOp rGe (bU (dOp aF (ag 4) (dC (.int 0))) (dOp aF (ag 4) (dC (.int 1)))) (dC (.int 0)))) (aT (dIf (dB (dOp (bZ true) (dOp aF (ag 4) (dC (.int 0))) (dC (.int 0)))) (dOp aF (ag 4) (dC (.int 0))) (dOp aF (ag 4) (dC (.int 1))))) br)
 (aT (dIf (dB (dOp rGt (ag 2) (ag 3))) (dOp aF (ag 4) (dC (.int 0))) (dOp aF (ag 4) (dC (.int 1))))))))
noncomputable def j8:DTS:=
 (aT (dOp rGt (av dI (af (ag 0) (af (av dE (af (ag 2) (af (av og (af (ag 1) ar)) ar))) ar))) (dC (.int 0))))
section
variable {U:Mu}{Qd:DK}{ds:List D}
theorem um(h:tq ds U Qd):gw ‹Qd› (aG ["d","a","b","prevailing"] ds) U:=by
 obtain⟨d,a,b,rfl,hd,ha,hb,q⟩:=h
 unfold gw
 walk_at "rd"
 have m1:MulOk a a:=gg ha ha ⋯
 have m2:MulOk d b:=gg hd hb ⋯
 have m3:MulOk (d*b) b:=gg (hd.mul hb) hb ⋯
 unfold sg at q
 by_cases h1:a=0
 ·by_cases h2:b=0
  ·subst h1 h2;simpa using q
  ·subst h1
   rcases lt_or_gt_of_ne h2 with h3|h3
   ·have e:¬ (0<=b):=by omega
    have e':b<=0:=by omega
    simp only[h2,e,e',and_false,true_and,if_true,if_false,decide_true,decide_false,Int.le_refl,↓reduceIte,false_eq_true] at q ⊢
    exact q
   ·have e:(0<=b):=by omega
    simp only[h2,e,and_false,true_and,if_true,if_false,decide_true,decide_false,Int.le_refl,↓reduceIte,false_eq_true] at q ⊢
    exact q
 ·by_cases h3:0<=a<;>by_cases h4:0<=b<;>by_cases h5:a<=0<;>by_cases h6:b<=0<;>by_cases h7:d*b*b<a*a<;>(try (exfalso;omega))<;>
   simp only[h1,h3,h4,h5,h6,h7,and_false,false_and,and_true,true_and,if_true,if_false,decide_true,decide_false,↓reduceIte,false_eq_true,and_self,m1,m2,m3,gt_iff_lt] at q ⊢<;>(try exact q)
  all_goals
   first
   |(by_cases h8:0<a<;>simp only[h8,if_true,if_false,decide_true,decide_false,↓reduceIte,false_eq_true] at q ⊢<;>exact q)
   |(by_cases h8:0<b<;>simp only[h8,if_true,if_false,decide_true,decide_false,↓reduceIte,false_eq_true] at q ⊢<;>exact q)
theorem FX(h:dI ds U Qd):pR ‹Qd› (aG ["d","x"] ds) U:=by
 obtain⟨d,x,rfl,hd,bx,q⟩:=h
 unfold pR
 walk_at "rd"
 exact⟨d,x.a,x.b,rfl,jU hd.1 hd.2.1,bx.a.mono ⋯,bx.b.mono ⋯,q⟩
theorem Dx(h:oA ds U Qd):nT ‹Qd› (aG ["d","x","y","a","b"] ds) U:=by
 obtain⟨d,x,y,rfl,hd,bx,by',q⟩:=h
 unfold nT
 walk_at "rd"
 have m:∀{i j:Int},Sz 4400 i->Sz 4400 j->IntMulOk i j:=fun h g=>gg h g ⋯
 refine⟨m bx.a by'.c,m by'.a bx.c,m bx.b by'.c,m by'.b bx.c,d,_,_,rfl,jU hd.1 hd.2.1,((bx.a.mul by'.c).sub (by'.a.mul bx.c)).mono ⋯,((bx.b.mul by'.c).sub (by'.b.mul bx.c)).mono ⋯,?_⟩
 walk_at "rd"
 exact q
theorem Pj{d a b sa sb:Int}(ha:(a<0/\sa = -1)\/(a=0/\sa=0)\/(0<a/\sa=1))(hb:(b<0/\sb = -1)\/(b=0/\sb=0)\/(0<b/\sb=1)) :
  sg d a b=if 0<=sa*sb then (if sa≠0 then sa else sb) else if d*b*b<a*a then sa else sb:=by
 unfold sg
 by_cases h7:d*b*b<a*a<;>rcases ha with ⟨h1,rfl⟩|⟨h1,rfl⟩|⟨h1,rfl⟩<;>rcases hb with ⟨h2,rfl⟩|⟨h2,rfl⟩|⟨h2,rfl⟩<;>simp only[h7,↓reduceIte]<;>(repeat' split)<;>omega
theorem Bt(h:dI ds U Qd):lT ‹Qd› (aG ["_law_d","_law_x","_law_first","_law_second","_law_sides"] ds) U:=by
 obtain⟨d,x,rfl,hd,bx,q⟩:=h
 unfold lT
 walk_at "rd"
 have s5:=jU hd.1 hd.2.1
 refine⟨gg bx.a bx.a ⋯,gg s5 bx.b ⋯,gg (s5.mul bx.b) bx.b ⋯,?_⟩
 have sd:∀u:Int,(u<0/\((if decide (0<u)=true then 1 else 0)-if decide (u<0)=true then 1 else 0:Int) = -1)\/(u=0/\((if decide (0<u)=true then 1 else 0)-if decide (u<0)=true then 1 else 0:Int)=0)\/(0<u/\((if decide (0<u)=true then 1 else 0)-if decide (u<0)=true then 1 else 0:Int)=1):=fun u=>by
  simp only[decide_eq_true_eq]
  split<;>split<;>omega
 have ha:=sd x.a
 have hb:=sd x.b
 generalize ((if decide (0<x.a)=true then 1 else 0)-if decide (x.a<0)=true then 1 else 0:Int)=sa at ha ⊢
 generalize ((if decide (0<x.b)=true then 1 else 0)-if decide (x.b<0)=true then 1 else 0:Int)=sb at hb ⊢
 rw[Pj ha hb] at q
 refine⟨mulL ∅,?_⟩
 by_cases c1:0<=sa*sb<;>by_cases c2:sa=0<;>by_cases c3:d*x.b*x.b<x.a*x.a<;>simp only[c1,c2,c3,decide_true,decide_false,↓reduceIte,false_eq_true,xor_false,Bool.xor_true,Bool.not_true,ne_eq,not_true_eq_false,not_false_eq_true,Int.zero_mul,Int.le_refl] at q ⊢<;>exact q
theorem zv(h:sW ds U Qd):j8 ‹Qd› (aG ["_law_d","_law_x","_law_y"] ds) U:=by
 obtain⟨d,x,y,rfl,hd,ox,oy,bx,by',q⟩:=h
 unfold j8
 walk_at "rd"
 refine⟨x,rfl,y,minus x,rfl,oy,ie ox,by'.mono ⋯,(qT bx).mono ⋯,d,plus y (minus x),rfl,hd,(sY oy (ie ox) by' (qT bx)).mono ⋯,?_⟩
 walk_at "rd"
 have e:sg d (plus y (minus x)).a (plus y (minus x)).b=dif d y x:=by
  obtain⟨k,hk,hs,p1,p2,p3,_⟩:=g9 (y.a*(minus x).c+(minus x).a*y.c) (y.b*(minus x).c+(minus x).b*y.c) (vJ oy (ie ox))
  have hk0:0<k:=hs.mpr (mul_pos oy.c (ie ox).c)
  unfold dif
  have e1:y.a*x.c-x.a*y.c=k*(plus y (minus x)).a:=by rw[show k*(plus y (minus x)).a=_ from p1.symm];show _=y.a*x.c + -x.a*y.c;grind
  have e2:y.b*x.c-x.b*y.c=k*(plus y (minus x)).b:=by rw[show k*(plus y (minus x)).b=_ from p2.symm];show _=y.b*x.c + -x.b*y.c;grind
  rw[e1,e2,fj hd hk0]
 rw[e]
 have t:=jV d (y.a*x.c-x.a*y.c) (y.b*x.c-x.b*y.c)
 have f:decide (0<dif d y x)=decide (dif d y x=1):=by unfold dif;rcases t with z|z|z<;>rw[z]<;>decide
 rw[f]
 exact q
end
noncomputable def nL:DTS:=
 (aE (aS (dC (.int 0)) (aq 2))
 (aE (bQ (dB (dOp rLt (ag 1) (dCB dJ (af (ag 0) ar)))) (aS (dOp aF (ag 0) (ag 1)) (aq 2)) br)
 (aE (aS (dC (.int 0)) (aq 3))
 (aE (bQ (dB (dOp rGe (dCB sC (af (ag 2) ar)) (QF (dC (.int 10)) (dC (.int 18))))) (aS (dCB sC (af (ag 2) ar)) (aq 3)) br)
 (aE (aS (vR (af (dC (.int 2147483647)) (af (dC (.int 2147483629)) (af (dC (.int 2147483587)) (af (dC (.int 2147483579)) (af (dC (.int 2147483563)) (af (dC (.int 2147483549)) (af (dC (.int 2147483543)) (af (dC (.int 2147483497)) ar))))))))) (aq 4))
 (aE (aS (jd (jd (jd (bU (yA (ag 2) (dC (.int 2147483647))) (dC (.int 69623))) (bU (bU (dC (.int 104729)) (ag 1)) (ag 1))) (bU (dC (.int 7919)) (ag 1))) (dC (.int 12345))) (aq 5))
 (aT (Ab (af (ag 3) (af (yA (ag 5) (dOp aF (ag 4) (yA (ag 1) (dC (.int 8))))) ar))))))))))
noncomputable def k8:DTS:=
 (aE (bQ (dB (dOp rGt (dOp aF (ag 0) (dC (.int 0))) (dC (.int 0)))) (aE (aS (yA (dOp aF (ag 0) (dC (.int 0))) (ag 1)) (aq 2))
 (aE (aS (ui (dOp aF (ag 0) (dC (.int 0))) (ag 1)) (Ha (ag 0) (dC (.int 0))))
 (aT (ag 2)))) br)
 (aE (aS (yA (jd (bU (dOp aF (ag 0) (dC (.int 1))) (dC (.int 48271))) (dC (.int 2531011))) (dC (.int 2147483647))) (Ha (ag 0) (dC (.int 1))))
 (aT (yA (ui (yA (QF (dOp aF (ag 0) (dC (.int 1))) (dC (.int 3))) (dC (.int 2147483629))) (dC (.int 64))) (ag 1)))))
section
variable {U:Mu}{Qd:DK}{ds:List D}
theorem BO{α:Type}{xs:List α}{i:Int}(h0:0<=i)(h:i<(xs.length:Nat)):∃d,atI xs i=some d/\d∈xs:=by
 have hj:i.toNat<xs.length:=by omega
 have e:=wC (xs:=xs) (j:=i.toNat) (v:=xs[i.toNat]) (by simp[hj])
 rw[show ((i.toNat:Nat):Int)=i by omega] at e
 exact⟨_,e,getElem_mem _⟩
theorem nS(x:Int){y:Int}(h:0<y):0<=x.fmod y/\x.fmod y<y:=⟨Int.fmod_nonneg_of_pos x h,Int.fmod_lt_of_pos x h⟩
theorem Nw{x y:Int}(hx:0<=x)(hy:0<y):0<=x.fdiv y:=by rw[Int.fdiv_eq_ediv_of_nonneg _ ∅];exact Int.ediv_nonneg hx ∅
noncomputable def n9:List PyData:=[.int 2147483647,.int 2147483629,.int 2147483587,.int 2147483579,.int 2147483563,.int 2147483549,.int 2147483543,.int 2147483497]
theorem DN(h:GY ds U Qd):nL ‹Qd› (aG ["_law_script","_law_at","_law_cell","_law_great","_law_primes","_law_mixed"] ds) U:=by
 obtain⟨ns,k,rfl,h0,h1,q⟩:=h
 unfold nL
 have hp:∃pr:Int,atI n9 (k.fmod 8)=some (.int pr)/\0<pr/\pr<2147483648:=by
  obtain⟨h2,h3⟩:=nS k (show (0:Int)<8 by decide)
  obtain⟨p,e,hm⟩:=BO (xs:=n9) h2 (by exact h3)
  simp only[n9,mem_cons,not_mem_nil,or_false] at hm
  rcases hm with rfl|rfl|rfl|rfl|rfl|rfl|rfl|rfl<;>exact⟨_,e,⋯,⋯⟩
 obtain⟨pr,hpe,hp0,hp1⟩:=hp
 unfold n9 at hpe
 walk_at "rd"
 rw[hpe]
 walk_at "rd"
 have c1:Qx 10 18:=⟨⋯,⋯,⋯⟩
 have z1:(2147483647:Int)≠0:=by decide
 have z2:(8:Int)≠0:=by decide
 have m1:∀i:Int,MulOk i 69623:=fun i=>mulR ⋯
 have m2:MulOk 104729 k:=mulL ⋯
 have m3:MulOk (104729*k) k:=mulR ∅
 have m4:MulOk 7919 k:=mulL ⋯
 have z3:pr≠0:=by omega
 have fin:∀G x:Int,0<=G->∀p,U p=none->Qd (.m p) (aW U p [.int G,.int (x.fmod pr)]):=fun G x hG p hp=>by
  obtain⟨h2,h3⟩:=nS x hp0
  exact q p _ hp (Step.set hG h2 ∅)
 by_cases hk:k<(ns.length:Nat)
 ·rw[if_pos (by simpa using hk)]
  obtain⟨c,hc,_⟩:=BO h0 hk
  rw[hc]
  walk_at "rd"
  refine⟨c1,?_⟩
  split
  ·exact⟨z1,m1 _,m2,m3,m4,z2,z3,fin _ _ ∅⟩
  ·exact⟨z1,m1 _,m2,m3,m4,z2,z3,fin _ _ ∅⟩
 ·rw[if_neg (by simpa using hk)]
  refine⟨c1,?_⟩
  split
  ·exact⟨z1,m1 _,m2,m3,m4,z2,z3,fin _ _ ∅⟩
  ·exact⟨z1,m1 _,m2,m3,m4,z2,z3,fin _ _ ∅⟩
theorem CA(h:cW ds U Qd):k8 ‹Qd› (aG ["_law_bag_here","_law_many","_law_digit"] ds) U:=by
 obtain⟨a,n,rfl,h0,h1,⟨g,m,hb,hg,hm,hm'⟩,q⟩:=h
 unfold k8
 walk_at "rd"
 rw[hb]
 walk_at "rd"
 rw[hb]
 walk_at "rd"
 have n0:n≠0:=by omega
 have i0:ixN 2 0=some 0:=by rfl
 have i1:ixN 2 1=some 1:=by rfl
 by_cases hg0:0<g
 ·rw[if_pos (by simpa using hg0)]
  simp only[hb]
  walk_at "rd"
  obtain⟨r0,r1⟩:=nS g (show 0<n by omega)
  refine⟨n0,?_⟩
  simp only[hb]
  walk_at "rd"
  refine⟨divC n0 ∅,?_⟩
  simp only[hb,length_cons,length_nil,Nat.reduceAdd,i0,List.set_cons_zero]
  exact q _ _ r0 r1 (Step.set (Nw hg ∅) hm hm')
 ·rw[if_neg (by simpa using hg0)]
  simp only[hb,i1,aV]
  walk_at "rd"
  obtain⟨s0,s1⟩:=nS (m*48271+2531011) (show (0:Int)<2147483647 by decide)
  generalize (m*48271+2531011).fmod 2147483647=w at s0 s1 ⊢
  obtain⟨r0,r1⟩:=nS ((((w ^ Int.toNat 3).fmod 2147483629).fdiv 64)) (show 0<n by omega)
  refine⟨mulL ∅,⋯,?_⟩
  refine⟨⟨⋯,⋯,∅⟩,(by show (2147483629:Int)≠0;decide),divC ⋯ ⋯,n0,?_⟩
  exact q _ _ r0 r1 (Step.set hg s0 ∅)
end
noncomputable def lV:DTS:=
 (aE (bQ (iA (de (dB (w4 "tuple" (ag 0)))) (dB (dOp (bZ true) (dCB dJ (af (ag 0) ar)) (dC (.int 3))))) (aT (dC (.bool false))) br)
 (aE (aS (ag 0) (eK 3 (aP (aq 1) (aP (aq 2) (aP (aq 3) eZ)))))
 (aE (bQ (iA (de (dB (av oi (af (ag 1) ar)))) (iA (de (dB (av oi (af (ag 2) ar)))) (de (dB (av oi (af (ag 3) ar)))))) (aT (dC (.bool false))) br)
 (aT (kK (dOp rGe (ag 3) (dC (.int 1))) (dOp (bZ false) (av xl (af (ag 1) (af (ag 2) (af (ag 3) ar)))) (dC (.int 1))))))))
section
variable {U:Mu}{Qd:DK}{ds:List D}
noncomputable def GN(i:Int):Bool:=decide (2<=i)&&decide (i<=30)&&!(decide (i=4) || decide (i=9) || decide (i=16) || decide (i=25))
theorem kb(d:PyData):(∃i,d = .int i/\isWhole d=true)\/((∀i,d≠.int i)/\isWhole d=false):=by
 cases d<;>first|exact .inl ⟨_,rfl,rfl⟩|exact .inr ⟨fun _ z=>(by cases z),rfl⟩
theorem Hx(d:PyData):(∃xs,d = .tuple xs/\isT "tuple" d=true)\/((∀xs,d≠.tuple xs)/\isT "tuple" d=false):=by
 cases d<;>first|exact .inl ⟨_,rfl,rfl⟩|exact .inr ⟨fun _ z=>(by cases z),rfl⟩
theorem Io{d:PyData}(h:∀xs,d≠.tuple xs):isNum d=false:=by cases d<;>first|rfl|exact absurd rfl (h _)
theorem Jk{xs:List PyData}(h:xs.length≠3):isNum (.tuple xs)=false:=by
 unfold isNum
 split
 ·rename_i e;cases e;exact absurd rfl h
 ·rfl
theorem three{α:Type}{xs:List α}(h:xs.length=3):∃a b c,xs=[a,b,c]:=by
 match xs,h with
 |[a,b,c],_=>exact⟨a,b,c,rfl⟩
theorem BM(h:pW ds U Qd):lV ‹Qd› (aG ["thing","a","b","c"] ds) U:=by
 obtain⟨d,rfl,_,q⟩:=h
 unfold lV
 walk_at "rd"
 rcases Hx d with ⟨xs,rfl,e⟩|⟨hn,e⟩
 ·rw[e]
  walk_at "rd"
  by_cases hl:xs.length=3
  ·obtain⟨a,b,c,rfl⟩:=three hl
   have e3:decide ((([a,b,c].length:Nat):Int)=3)=true:=rfl
   have e3':[a,b,c].length=3:=rfl
   simp only[e3,Bool.xor_self,false_eq_true,↓reduceIte]
   refine⟨rfl,?_⟩
   walk_at "rd"
   refine⟨a,rfl,?_⟩
   rcases kb a with ⟨i,rfl,e⟩|⟨hn,e⟩
   ·rw[e]
    walk_at "rd"
    refine⟨b,rfl,?_⟩
    rcases kb b with ⟨j,rfl,e⟩|⟨hn,e⟩
    ·rw[e]
     walk_at "rd"
     refine⟨c,rfl,?_⟩
     rcases kb c with ⟨k,rfl,e⟩|⟨hn,e⟩
     ·rw[e]
      walk_at "rd"
      have q':Qd (.v (.bool (decide (1<=k)&&(g3 i j k==1)))) U:=q
      by_cases hk:1<=k
      ·rw[if_pos (by simpa using hk)]
       refine⟨i,j,k,rfl,?_⟩
       walk_at "rd"
       have ee:decide (((g3 i j k:Nat):Int)=1)=(decide (1<=k)&&(g3 i j k==1)):=by
        rw[decide_eq_true hk,Bool.true_and,Bool.eq_iff_iff];simp;omega
       rw[ee]
       exact q'
      ·rw[if_neg (by simpa using hk)]
       rw[decide_eq_false hk] at q'
       exact q'
     ·rw[e]
      walk_at "rd"
      have:isNum (.tuple [.int i,.int j,c])=false:=by cases c<;>first|rfl|exact absurd rfl (hn _)
      rw[this] at q
      exact q
    ·rw[e]
     walk_at "rd"
     have:isNum (.tuple [.int i,b,c])=false:=by cases b<;>first|rfl|exact absurd rfl (hn _)
     rw[this] at q
     exact q
   ·rw[e]
    walk_at "rd"
    have:isNum (.tuple [a,b,c])=false:=by cases a<;>first|rfl|exact absurd rfl (hn _)
    rw[this] at q
    exact q
  ·rw[Jk hl] at q
   have:decide (((xs.length:Nat):Int)=3)=false:=by simp;omega
   rw[this]
   simp only[xor_false,↓reduceIte]
   exact q
 ·rw[e]
  rw[Io hn] at q
  walk_at "rd"
  exact q
end
noncomputable def jf:DTS:=
 (aE (aS (dOp aF (vR (af (dC (.int 4)) (af (dC (.int 10)) (af (dC (.int 100)) (af (dC (.int 1000000)) ar))))) (av cW (af (ag 0) (af (dC (.int 4)) ar)))) (aq 1))
 (aE (vG 2 3 (af (nB (av cW (af (ag 0) (af (ag 1) ar))) (ui (ag 1) (dC (.int 2)))) (af (nB (av cW (af (ag 0) (af (ag 1) ar))) (ui (ag 1) (dC (.int 2)))) ar)))
 (aE (aS (jd (dC (.int 1)) (av cW (af (ag 0) (af (nB (ag 1) (dC (.int 1))) ar)))) (aq 4))
 (aE (aS (av cW (af (ag 0) (af (dC (.int 8)) ar))) (aq 5))
 (aT (av cE (af (dOp aF (vR (af (ag 2) (af (ag 2) (af (ag 2) (af (ag 2) (af (ag 2) (af (ag 2) (af (ag 2) (af (dC (.int 0)) ar))))))))) (ag 5)) (af (dOp aF (vR (af (ag 3) (af (ag 3) (af (ag 3) (af (ag 3) (af (ag 3) (af (dC (.int 0)) (af (dC (.int 0)) (af (ag 3) ar))))))))) (ag 5)) (af (dOp aF (vR (af (ag 4) (af (ag 4) (af (dC (.int 1)) (af (ag 4) (af (dC (.int 1)) (af (ag 4) (af (dC (.int 1)) (af (ag 4) ar))))))))) (ag 5)) ar)))))))))
section
variable {U:Mu}{Qd:DK}{ds:List D}
theorem pick{P:PyData->Prop}{xs:List PyData}{i:Int}(h0:0<=i)(h1:i<(xs.length:Nat))(h:∀x∈xs,P x):∃d,atI xs i=some d/\P d:=let ⟨d,e,m⟩:=BO h0 h1;⟨d,e,h d m⟩
theorem EO{i:Int}(h1:-1048576<i)(h2:i<1048576):Sz 20 i:=Sz.of (by show i.natAbs<1048576;omega)
theorem wN(h:oE ds U Qd):jf ‹Qd› (aG ["_law_bag_here","_law_wide","_law_a","_law_b","_law_c","_law_way"] ds) U:=by
 obtain⟨a,rfl,hb,q⟩:=h
 unfold jf
 walk_at "rd"
 refine⟨a,4,rfl,⋯,⋯,hb,fun r0 al h0 h1 s1=>?_⟩
 walk_at "rd"
 obtain⟨w,e,i,rfl,w0,w1⟩:=pick (P:=fun d=>∃i:Int,d = .int i/\4<=i/\i<=1000000) (xs:=[PyData.int 4,PyData.int 10,PyData.int 100,PyData.int 1000000]) h0 (by exact h1) (by
  intro x hx
  simp only[mem_cons,not_mem_nil,or_false] at hx
  rcases hx with rfl|rfl|rfl|rfl<;>exact⟨_,rfl,⋯,⋯⟩)
 rw[e]
 walk_at "rd"
 refine⟨a,i,rfl,∅,∅,s1.1,fun r1 am h2 h3 s2=>?_⟩
 walk_at "rd"
 refine⟨divC ⋯ ⋯,a,i,rfl,∅,∅,s2.1,fun r2 ci h4 h5 s3=>?_⟩
 walk_at "rd"
 refine⟨divC ⋯ ⋯,a,i-1,rfl,∅,∅,s3.1,fun r3 dL h6 h7 s4=>?_⟩
 walk_at "rd"
 refine⟨a,8,rfl,⋯,⋯,s4.1,fun r4 gl h8 h9 s5=>?_⟩
 walk_at "rd"
 have ef:i.fdiv 2=i / 2:=Int.fdiv_eq_ediv_of_nonneg _ ∅
 rw[ef]
 have za:Sz 20 (r1-i / 2):=EO ∅ ∅
 have zb:Sz 20 (r2-i / 2):=EO ∅ ∅
 have zc:Sz 20 (1+r3):=EO ∅ ∅
 have z0:Sz 20 0:=EO ∅ ∅
 have z1:Sz 20 1:=EO ∅ ∅
 obtain⟨d1,e1,i1,rfl,b1⟩:=pick (P:=fun d=>∃i:Int,d = .int i/\Sz 20 i) (xs:=[PyData.int (r1-i / 2),PyData.int (r1-i / 2),PyData.int (r1-i / 2),PyData.int (r1-i / 2),PyData.int (r1-i / 2),PyData.int (r1-i / 2),PyData.int (r1-i / 2),PyData.int 0]) h8 (by exact h9) (by
  intro x hx
  simp only[mem_cons,not_mem_nil,or_false] at hx
  rcases hx with rfl|rfl|rfl|rfl|rfl|rfl|rfl|rfl<;>exact⟨_,rfl,by assumption⟩)
 rw[e1]
 walk_at "rd"
 obtain⟨d2,e2,i2,rfl,b2⟩:=pick (P:=fun d=>∃i:Int,d = .int i/\Sz 20 i) (xs:=[PyData.int (r2-i / 2),PyData.int (r2-i / 2),PyData.int (r2-i / 2),PyData.int (r2-i / 2),PyData.int (r2-i / 2),PyData.int 0,PyData.int 0,PyData.int (r2-i / 2)]) h8 (by exact h9) (by
  intro x hx
  simp only[mem_cons,not_mem_nil,or_false] at hx
  rcases hx with rfl|rfl|rfl|rfl|rfl|rfl|rfl|rfl<;>exact⟨_,rfl,by assumption⟩)
 rw[e2]
 walk_at "rd"
 obtain⟨d3,e3,i3,rfl,b3,p3⟩:=pick (P:=fun d=>∃i:Int,d = .int i/\Sz 20 i/\0<i) (xs:=[PyData.int (1+r3),PyData.int (1+r3),PyData.int 1,PyData.int (1+r3),PyData.int 1,PyData.int (1+r3),PyData.int 1,PyData.int (1+r3)]) h8 (by exact h9) (by
  intro x hx
  simp only[mem_cons,not_mem_nil,or_false] at hx
  rcases hx with rfl|rfl|rfl|rfl|rfl|rfl|rfl|rfl<;>exact⟨_,rfl,by assumption,∅⟩)
 rw[e3]
 walk_at "rd"
 have n3:i3≠0:=by omega
 exact⟨i1,i2,i3,rfl,n3,b3.mono ⋯,q _ _ (mS _ _ n3) (qj n3 b1 b2 b3) (s1.trans (s2.trans (s3.trans (s4.trans s5))))⟩
end
noncomputable def lQ:DTS:=
 (aE (bQ (dB (dOp (bZ false) (av cW (af (ag 0) (af (dC (.int 2)) ar))) (dC (.int 0)))) (aT (dOp aF (vR (af (dC (.int 2)) (af (dC (.int 3)) (af (dC (.int 5)) ar)))) (av cW (af (ag 0) (af (dC (.int 3)) ar))))) br)
 (aE (aS (qi [none] (tL (af (dC (.int 2)) (af (dC (.int 31)) ar))) (aq 0) (dB (dOp (GI true) (ag 0) (vR (af (dC (.int 4)) (af (dC (.int 9)) (af (dC (.int 16)) (af (dC (.int 25)) ar))))))) (ag 0)) (aq 1))
 (aT (dOp aF (ag 1) (av cW (af (ag 0) (af (dC (.int 25)) ar)))))))
noncomputable def j0:DTS:=
 (aE (aS (av oE (af (ag 0) ar)) (aq 2))
 (aE (aS (av dI (af (ag 1) (af (ag 2) ar))) (aq 3))
 (aE (bQ (dB (dOp (bZ false) (ag 3) (dC (.int 0)))) (aT (bR (af (jd (dC (.int 1)) (av cW (af (ag 0) (af (dC (.int 5)) ar)))) (af (dC (.int 0)) (af (dC (.int 1)) ar))))) br)
 (aT (dIf (dB (dOp rGt (ag 3) (dC (.int 0)))) (ag 2) (av og (af (ag 2) ar)))))))
section
variable {U:Mu}{Qd:DK}{ds:List D}
theorem Mp{lo:Int}{n:Nat}{x:PyData}(h:x∈mQ lo n):∃i:Int,x = .int i/\lo<=i/\i<lo+n:=by
 unfold mQ at h
 obtain⟨k,hk,rfl⟩:=List.mem_map.mp h
 have:=List.mem_range.mp hk
 exact⟨_,rfl,∅,∅⟩
noncomputable def Dy:PyData->Option PyData
 |.int i=>if GN i then some (.int i) else none
 |_=>none
noncomputable def Bi:List PyData:=[2,3,5,6,7,8,10,11,12,13,14,15,17,18,19,20,21,22,23,24,26,27,28,29,30].map PyData.int
theorem in4(i:Int):(List.any [PyData.int 4,PyData.int 9,PyData.int 16,PyData.int 25] fun b=>PyData.eqv b (.int i))=(decide (i=4) || decide (i=9) || decide (i=16) || decide (i=25)):=by
 have ev:∀j:Int,PyData.eqv (.int j) (.int i)=decide (i=j):=fun j=>by rw[To];simp[eq_comm]
 simp only[List.any_cons,List.any_nil,ev,Bool.or_false,Bool.or_assoc]
theorem Cy(h:wj ds U Qd):lQ ‹Qd› (aG ["_law_bag_here","_law_some"] ds) U:=by
 obtain⟨a,rfl,hb,q⟩:=h
 unfold lQ
 walk_at "rd"
 refine⟨a,2,rfl,⋯,⋯,hb,fun r0 al h0 h1 s1=>?_⟩
 walk_at "rd"
 by_cases hr:r0=0
 ·rw[if_pos (by simpa using hr)]
  refine⟨a,3,rfl,⋯,⋯,s1.1,fun r1 am h2 h3 s2=>?_⟩
  walk_at "rd"
  obtain⟨w,e,i,rfl,w0⟩:=pick (P:=fun d=>∃i:Int,d = .int i/\aB i) (xs:=[PyData.int 2,PyData.int 3,PyData.int 5]) h2 (by exact h3) (by
   intro x hx
   simp only[mem_cons,not_mem_nil,or_false] at hx
   rcases hx with rfl|rfl|rfl<;>exact⟨_,rfl,by unfold aB;omega⟩)
  rw[e]
  exact q _ _ w0 (s1.trans s2)
 ·rw[if_neg (by simpa using hr)]
  refine⟨⟨⋯,⋯,⋯,⋯⟩,⋯,fun p hp=>⟨fun i acc ad=>acc=((mQ 2 29).take i).filterMap Dy/\ad=aW al p acc,⟨rfl,rfl⟩,?_,?_⟩⟩
  ·rintro i x acc ad hx hpa ⟨e0,e1⟩
   obtain⟨k,rfl,i0,i1⟩:=Mp (mem_of_getElem? hx)
   refine⟨trivial,rfl,rfl,by show 0<=60;decide,?_⟩
   rw[in4]
   have i1':k<31:=by simpa using i1
   have e:Dy (.int k)=if GN k then some (.int k) else none:=rfl
   have e2:GN k = !(decide (k=4) || decide (k=9) || decide (k=16) || decide (k=25)):=by
    unfold GN
    rw[decide_eq_true i0,decide_eq_true (show k<=30 by omega)]
    rfl
   have ft:((mQ 2 29).take (i+1)).filterMap Dy=((mQ 2 29).take i).filterMap Dy++(Dy (.int k)).toList:=Ph hx
   rw[e,e2] at ft
   cases hh:(decide (k=4) || decide (k=9) || decide (k=16) || decide (k=25))
   ·rw[hh] at ft
    simp only[Bool.true_xor,Bool.not_false,↓reduceIte] at ft ⊢
    refine⟨hpa,?_,?_⟩
    ·rw[ft,e0];rfl
    ·rw[e1,ku]
   ·rw[hh] at ft
    simp only[Bool.true_xor,Bool.not_true,↓reduceIte,false_eq_true] at ft ⊢
    refine⟨hpa,?_,e1⟩
    rw[ft,e0];simp
  rintro acc ad ⟨e0,e1⟩ _
  have ed:mn ad p=al:=by rw[e1];exact Az hp
  rw[ed]
  have e0':acc=Bi:=by rw[e0];rfl
  rw[e0']
  refine⟨a,25,rfl,⋯,⋯,s1.1,fun r1 am h2 h3 s2=>?_⟩
  walk_at "rd"
  obtain⟨w,e,i,rfl,w0⟩:=pick (P:=fun d=>∃i:Int,d = .int i/\aB i) (xs:=Bi) h2 (by exact h3) (by
   intro x hx
   unfold Bi at hx
   obtain⟨k,hk,rfl⟩:=List.mem_map.mp hx
   exact⟨_,rfl,(show ∀k∈([2,3,5,6,7,8,10,11,12,13,14,15,17,18,19,20,21,22,23,24,26,27,28,29,30]:List Int),aB k by unfold aB;decide) k hk⟩)
  rw[e]
  exact q _ _ w0 (s1.trans s2)
noncomputable def mV:DSp:=fun ds U Q=>∃(a:Addr) (d:Int),ds=[.m a,.v (.int d)]/\aB d/\Bag U a/\∀x ad,Ok x->Bd 20 x->sg d x.a x.b=1->Step a U ad->Q (.v (dN x)) ad
theorem yZ(h:mV ds U Qd):j0 ‹Qd› (aG ["_law_bag_here","_law_d","_law_x","_law_sign_here"] ds) U:=by
 obtain⟨a,d,rfl,hd,hb,q⟩:=h
 unfold j0
 walk_at "rd"
 refine⟨a,rfl,hb,fun x al ox bx s1=>?_⟩
 walk_at "rd"
 refine⟨d,x,rfl,hd,bx.mono ⋯,?_⟩
 walk_at "rd"
 have t:=jV d x.a x.b
 by_cases h0:sg d x.a x.b=0
 ·rw[if_pos (by simpa using h0)]
  refine⟨a,5,rfl,⋯,⋯,s1.1,fun r am r0 r1 s2=>?_⟩
  walk_at "rd"
  have ok:Ok ⟨1+r,0,1⟩:=⟨by show (0:Int)<1;decide,by unfold g3;simp⟩
  refine q ⟨1+r,0,1⟩ am ok ⟨EO (by show -1048576<1+r;omega) (by show 1+r<1048576;omega),EO (by show -1048576<(0:Int);decide) (by show (0:Int)<1048576;decide),EO (by show -1048576<(1:Int);decide) (by show (1:Int)<1048576;decide)⟩ ?_ (s1.trans s2)
  show sg d (1+r) 0=1
  unfold sg
  rw[if_neg ∅,if_pos ∅]
 ·rw[if_neg (by simpa using h0)]
  by_cases h1:0<sg d x.a x.b
  ·rw[if_pos (by simpa using h1)]
   exact q x al ox bx ∅ s1
  ·rw[if_neg (by simpa using h1)]
   refine⟨x,rfl,?_⟩
   refine q (minus x) al (ie ox) (qT bx) ?_ s1
   show sg d (-x.a) (-x.b)=1
   rw[yK hd]
   omega
end
section
variable {U:Mu}{Q:DK}{ds:List D}
noncomputable def xg:DSp:=fun ds U Q=>∃ns:List Int,ds=[.s ns]/\ns.length<=63/\∀ad,Q (.v (.bool true)) ad
theorem Ff(h:oi ds U Q):ds.length=1:=by obtain⟨_,rfl,_⟩:=h;rfl
theorem AK(h:sD ds U Q):ds.length=2:=by obtain⟨_,_,rfl,_⟩:=h;rfl
theorem FY(h:xl ds U Q):ds.length=3:=by obtain⟨_,_,_,rfl,_⟩:=h;rfl
theorem F6(h:pW ds U Q):ds.length=1:=by obtain⟨_,rfl,_⟩:=h;rfl
theorem rC(h:cE ds U Q):ds.length=3:=by obtain⟨_,_,_,rfl,_⟩:=h;rfl
theorem Gj(h:eR ds U Q):ds.length=1:=by obtain⟨_,rfl,_⟩:=h;rfl
theorem DQ(h:og ds U Q):ds.length=1:=by obtain⟨_,rfl,_⟩:=h;rfl
theorem xF(h:dE ds U Q):ds.length=2:=by obtain⟨_,_,rfl,_⟩:=h;rfl
theorem xR(h:j6 ds U Q):ds.length=2:=by obtain⟨_,_,rfl,_⟩:=h;rfl
theorem vf(h:bz ds U Q):ds.length=3:=by obtain⟨_,_,_,rfl,_⟩:=h;rfl
theorem mM(h:cS ds U Q):ds.length=2:=by obtain⟨_,_,rfl,_⟩:=h;rfl
theorem yI(h:iu ds U Q):ds.length=3:=by obtain⟨_,_,_,rfl,_⟩:=h;rfl
theorem E8(h:tq ds U Q):ds.length=3:=by obtain⟨_,_,_,rfl,_⟩:=h;rfl
theorem yE(h:dI ds U Q):ds.length=2:=by obtain⟨_,_,rfl,_⟩:=h;rfl
theorem EG(h:oA ds U Q):ds.length=3:=by obtain⟨_,_,_,rfl,_⟩:=h;rfl
theorem Ei(h:sW ds U Q):ds.length=3:=by obtain⟨_,_,_,rfl,_⟩:=h;rfl
theorem Jm(h:GY ds U Q):ds.length=2:=by obtain⟨_,_,rfl,_⟩:=h;rfl
theorem GH(h:cW ds U Q):ds.length=2:=by obtain⟨_,_,rfl,_⟩:=h;rfl
theorem zd(h:oE ds U Q):ds.length=1:=by obtain⟨_,rfl,_⟩:=h;rfl
theorem El(h:wj ds U Q):ds.length=1:=by obtain⟨_,rfl,_⟩:=h;rfl
theorem CP(h:mV ds U Q):ds.length=2:=by obtain⟨_,_,rfl,_⟩:=h;rfl
theorem IW(h:xg ds U Q):ds.length=1:=by obtain⟨_,rfl,_⟩:=h;rfl
end
structure P8(K:PySem.W.Frag)(mg:Str->Option Value)(x:Str)(g:Addr)(a b c:Int):Prop where
 m:mg x=some (.ref g)
 l:∃(od:Option Addr) (n:Nat) (sl:Array (Option Value)) (t u v:Tok),K.lookup g=some ⟨.type "tuple",od,.seq #[.int a t,.int b u,.int c v] n,sl⟩
theorem cj{X:Cx}{x:Str}{g:Addr}{a b c:Int}{pos:Pos}(hg:Gl X x)(h:P8 X.K X.mg x g a b c)(hd:(x==("__debug__":Str))=false:=by decide):DE X (.Name x pos) (dC (.tuple [.int a,.int b,.int c])):=by
 obtain⟨od,n,sl,t,u,v,e⟩:=h.l
 refine wA (u:=.ref g) hg h.m rfl (fun U H _=>Rp.tuple (xs:=[.int a,.int b,.int c]) (.inr ⟨_,_,_,e,rfl,rfl,(by show 3<=sizeLine;decide),.cons ⟨t,rfl⟩ (.cons ⟨u,rfl⟩ (.cons ⟨v,rfl⟩ .nil))⟩) (.cons (.int a) (.cons (.int b) (.cons (.int c) .nil)))) hd
theorem Iv{K:PySem.W.Frag}{H:Hp}{a:Addr}{ns:List Int}(hl:ns.length<=63)(hT:E4 K H)(hS:SqL K H a (ns.map V.int)):spD K xg [.ref a] H (fun v _=>v = .bl true) fun _ _ _=>False:=by
 refine⟨[.s ns],⟨fun _=>none,fun _=>none⟩,fun d _=>d = .v (.bool true),⟨fun a ds h=>(by cases h),hT,fun a c h=>(by cases h)⟩,.cons ⟨a,rfl,hS,rfl⟩ .nil,⟨ns,rfl,hl,fun _=>rfl⟩,fun d u ad H' _ _ r q=>?_⟩
 subst q
 cases r
 rfl
end L2.DL
namespace L2
open PySem PySem.Spec PyProof.Rows
end L2
namespace L2.DL
open PySem PySem.Spec PyProof.Rows
end L2.DL
namespace L2
open PySem PySem.Spec PyProof.Rows
end L2
namespace L2.DL
open PySem PySem.Spec PyProof.Rows
end L2.DL
namespace L2
open PySem PySem.Spec PyProof.Rows
end L2
namespace L2.DL
open PySem PySem.Spec PyProof.Rows
end L2.DL
namespace L2
open PySem PySem.Spec PyProof.Rows
end L2
namespace L2
open PySem PySem.Spec PyProof.Rows
end L2
namespace L2.DL
open PySem PySem.Spec PyProof.Rows
noncomputable def intsOf:List PyData->Option (List Int)
 |[]=>some []
 |.int i::r=>(intsOf r).map (i::·)
 |_=>none
theorem G9{K:PySem.W.Frag}{U:Mu}{H:Hp}:∀{ds:List PyData} {us:List V} {k:List Int},RpL K U H ds us->intsOf ds=some k->us=k.map V.int
 |[],_,_,.nil,e=>by cases e;rfl
 |d::ds,_,k,.cons h t,e=>by
  cases d with
  |int i=>
   cases h
   rw[intsOf] at e
   cases q:intsOf ds with
   |none=>rw[q] at e;cases e
   |some k'=>rw[q] at e;cases e;rw[G9 t q];rfl
  |_=>cases e
section
variable {α:Type}
noncomputable def dR(kvs:List (List Int×α))(k:List Int):Option α:=(kvs.find? fun x=>decide (x.1=k)).map (·.2)
noncomputable def nV(kvs:List (List Int×α))(k:List Int)(v:α):List (List Int×α):=if (dR kvs k).isSome=true then kvs.map (fun x=>if x.1=k then (x.1,v) else x) else kvs++[(k,v)]
theorem d5{p:List Int×α}{r:List (List Int×α)}{k:List Int}(e:p.1=k):dR (p::r) k=some p.2:=by simp[dR,List.find?_cons,e]
theorem d7{p:List Int×α}{r:List (List Int×α)}{k:List Int}(e:¬ p.1=k):dR (p::r) k=dR r k:=by simp[dR,List.find?_cons,e]
theorem AM(k j:List Int)(v:α):∀kvs:List (List Int×α),dR (kvs.map fun x=>if x.1=k then (x.1,v) else x) j=if j=k then (dR kvs j).map (fun _=>v) else dR kvs j
 |[]=>by split<;>rfl
 |p::r=>by
  have ih:=AM k j v r
  rw[map_cons]
  by_cases h:p.1=k
  ·rw[if_pos h]
   by_cases e:p.1=j
   ·rw[d5 (p:=(p.1,v)) e,if_pos (e.symm.trans h),d5 e];rfl
   ·rw[d7 (p:=(p.1,v)) e,ih,d7 e]
  ·rw[if_neg h]
   by_cases e:p.1=j
   ·rw[d5 e,if_neg (fun z=>h (e.trans z)),d5 e]
   ·rw[d7 e,ih,d7 e]
theorem xa(k j:List Int)(v:α):∀kvs:List (List Int×α),dR kvs k=none->dR (kvs++[(k,v)]) j=if j=k then some v else dR kvs j
 |[],_=>by
  by_cases e:k=j
  ·rw[if_pos e.symm];exact d5 (p:=(k,v)) e
  ·rw[if_neg (fun z=>e z.symm)];exact d7 (p:=(k,v)) e
 |p::r,h=>by
  rw[List.cons_append]
  by_cases e:p.1=k
  ·rw[d5 e] at h;cases h
  ·rw[d7 e] at h
   by_cases f:p.1=j
   ·rw[d5 f,d5 f,if_neg (fun z=>e (f.trans z))]
   ·rw[d7 f,xa k j v r h,d7 f]
theorem IQ(kvs:List (List Int×α))(k j:List Int)(v:α):dR (nV kvs k v) j=if j=k then some v else dR kvs j:=by
 unfold nV
 cases q:dR kvs k with
 |none=>
  rw[if_neg (fun z=>nomatch z)]
  exact xa k j v kvs q
 |some x=>
  rw[if_pos (show (some x).isSome=true from rfl),AM]
  by_cases e:j=k
  ·subst e;rw[if_pos rfl,if_pos rfl,q];rfl
  ·rw[if_neg e,if_neg e]
theorem Dz(kvs:List (List Int×α))(k:List Int)(v:α):(nV kvs k v).length<=kvs.length+1:=by
 unfold nV
 split
 ·rw[length_map];omega
 ·rw[length_append];exact le_refl _
end
section
variable {K:PySem.W.Frag}{U al:Mu}{H H1:Hp}{p:Addr}
theorem fg.look{kvs:List (List Int×PyData)}{xs:List (List Int×Addr×Value)}(r:fg K U H kvs xs)(k:List Int) :
  (dR kvs k=none/\atKey xs k=none)\/∃d q v w,dR kvs k=some d/\atKey xs k=some (q,w)/\Rp K U H d v/\RelV v w:=by
 unfold fg at r
 induction r with
 |nil=>exact .inl ⟨rfl,rfl⟩
 |@cons a b as bs h t ih=>
  obtain⟨h1,h2,v,h3,h4⟩:=h
  by_cases e:a.1=k
  ·refine .inr ⟨a.2,b.2.1,v,b.2.2,d5 e,?_,h3,h4⟩
   have:b.1=k:=h1.symm.trans e
   simp[atKey,List.find?_cons,this]
  ·have e2:¬ b.1=k:=fun z=>e (h1.trans z)
   have e3:atKey (b::bs) k=atKey bs k:=by simp[atKey,List.find?_cons,e2]
   rw[d7 e,e3]
   exact ih
theorem fg.put{kvs:List (List Int×PyData)}{xs:List (List Int×Addr×Value)}(r:fg K U H kvs xs){k:List Int}{q:Addr}{d:PyData}{v:V}{w:Value}(hq:SqT K H q (k.map V.int))(hd:Rp K U H d v)(hv:RelV v w) :
  fg K U H (nV kvs k d) (storedH xs k q w):=by
 have hl:=r.look k
 unfold nV storedH
 rcases hl with ⟨l1,l2⟩|⟨d',q',v',w',l1,l2,_,_⟩
 ·rw[l1,l2]
  exact Paired.snoc r ⟨rfl,hq,v,hd,hv⟩
 ·rw[l1,l2]
  rw[if_pos (show (some d').isSome=true from rfl),if_pos (show (some (q',w')).isSome=true from rfl)]
  clear l1 l2
  unfold fg at r ⊢
  induction r with
  |nil=>exact .nil
  |@cons a b as bs h t ih=>
   obtain⟨h1,h2,h3⟩:=h
   refine .cons ?_ ih
   unfold putAt
   dsimp only
   by_cases e:a.1=k
   ·rw[if_pos e,if_pos (h1.symm.trans e)]
    exact⟨h1,h2,v,hd,hv⟩
   ·rw[if_neg e,if_neg (fun z=>e (h1.trans z))]
    exact⟨h1,h2,h3⟩
theorem fg.length{kvs:List (List Int×PyData)}{xs:List (List Int×Addr×Value)}(r:fg K U H kvs xs):kvs.length=xs.length:=Paired.length r
theorem B9{o o':Obj}{c:Box}(h:H p=some (.raw o)):Ext K U H (ck U p c) (upd H p (.raw o')) where
 keep:=fun b u e n t=>by
  have:b≠p:=fun z=>by rw[z,h] at e;cases e;exact t
  rw[aU this];exact e
 tb:=fun b ps e n=>by
  have:b≠p:=fun z=>by rw[z,h] at e;cases e
  exact⟨ps,by rw[aU this];exact e⟩
 dom:=fun b ds q=>⟨ds,q⟩
 fresh:=fun b n q=>n
 st:=fun b u e n=>by
  by_cases z:b=p
  ·subst z;exact⟨_,eN⟩
  ·exact⟨u,by rw[aU z];exact e⟩
 bx:=fun b c' q=>by
  by_cases z:b=p
  ·subst z;exact⟨_,bK⟩
  ·exact⟨c',by rw[bY z];exact q⟩
theorem bP.Kx{c:Box}{o o':Obj}(ok:bP K U H)(hs:(p==sysModules)=false)(h:H p=some (.raw o))(r:g0 K U H c o'):bP K (ck U p c) (upd H p (.raw o')):=by
 have e:Ext K U H (ck U p c) (upd H p (.raw o')):=B9 h
 refine⟨fun a ds q=>?_,ok.tab.of fun b u e' n1 n2=>?_,fun a c' q=>?_⟩
 ·obtain⟨xs,h1,h2⟩:=ok.lst a ds q
  have:a≠p:=fun z=>by rw[z,h] at h1;cases h1
  exact⟨xs,by rw[aU this];exact h1,h2.ext ok e⟩
 ·have:b≠p:=fun z=>by rw[z,h] at e';exact n2 o (Option.some.inj e').symm
  rw[aU this];exact e'
 ·by_cases z:a=p
  ·subst z
   rw[bK] at q;cases q
   exact⟨hs,o',eN,r.ext ok e⟩
  ·rw[bY z] at q
   obtain⟨y,ob,h1,h2⟩:=ok.box a c' q
   exact⟨y,ob,by rw[aU z];exact h1,h2.ext ok e⟩
theorem pS{o:Obj}{c:Box}(ok:bP K U H)(h:H p=none):Ext K U H (ck U p c) (upd H p (.raw o)) where
 keep:=fun b u e _ _=>by rw[aU (aY e h)];exact e
 tb:=fun b ps e _=>⟨ps,by rw[aU (aY e h)];exact e⟩
 dom:=fun b ds q=>⟨ds,q⟩
 fresh:=fun b n q=>n
 st:=fun b u e _=>⟨u,by rw[aU (aY e h)];exact e⟩
 bx:=fun b c' q=>by
  have:b≠p:=fun z=>by rw[z,ok.J6 h] at q;cases q
  exact⟨c',by rw[bY this];exact q⟩
theorem bP.K5{c:Box}{o:Obj}(ok:bP K U H)(hs:(p==sysModules)=false)(h:H p=none)(r:g0 K U H c o):bP K (ck U p c) (upd H p (.raw o)):=by
 have e:Ext K U H (ck U p c) (upd H p (.raw o)):=pS ok h
 refine⟨fun a ds q=>?_,ok.tab.of fun b u e' _ _=>?_,fun a c' q=>?_⟩
 ·obtain⟨xs,h1,h2⟩:=ok.lst a ds q
  exact⟨xs,by rw[aU (aY h1 h)];exact h1,h2.ext ok e⟩
 ·rw[aU (aY e' h)];exact e'
 ·by_cases z:a=p
  ·subst z
   rw[bK] at q;cases q
   exact⟨hs,o,eN,r.ext ok e⟩
  ·rw[bY z] at q
   obtain⟨y,ob,h1,h2⟩:=ok.box a c' q
   exact⟨y,ob,by rw[aU z];exact h1,h2.ext ok e⟩
theorem Jj{o:Obj}(h:o={cls:=.type "dict",data:=.dict #[]}):g0 K U H (.dict []) o:=by
 subst h
 exact⟨zero_le _,⟨rfl,rfl,rfl⟩,#[],0,[],rfl,rfl,List.nodup_nil,.nil⟩
theorem JE{o:Obj}{led:Bool}(h:o={cls:=.type "set",dict:=none,data:=.set #[] 0 (.fresh 0 0 led)}):g0 K U H (.set []) o:=by
 subst h
 exact⟨⟨rfl,rfl,rfl⟩,[],0,_,rfl,{place:=rfl,ris:=.nil,le:=fun _ h=>by simp at h,dum:=rfl,two:=⟨3,rfl,le_refl _⟩,on:=fun _ h=>by simp at h},(show 0*5<7*3 by decide),rfl,fun _ h=>by simp at h,fun _ h=>by simp at h⟩
end
section
variable {X:Cx}{pins:List (Addr×Obj)}{Z:St}{H:Hp}{s:Shared}{U:Mu}
theorem items_int{P:Program}{w:World}:∀{ks:List Int} {us:List Value},Vals (ks.map V.int) us->ItemsAre (intKind P w) ks us
 |[],_,r=>by rw[map_nil] at r;cases r;exact .nil
 |k::ks,_,r=>by
  rw[map_cons] at r
  cases r with
  |cons h t=>obtain⟨tk,rfl⟩:=h;exact .cons (by show Value.isInt k (.int k tk)=true;simp[Value.isInt]) (items_int t)
theorem jA{q:Addr}{ks:List Int}(I:Inv X pins Z H s)(h:SqT X.K H q (ks.map V.int)):IsTupleKey (intKind X.prog X.w) s.heap ks q:=by
 obtain⟨its,r,⟨o,h1,h2,n,h3⟩,_⟩:=I.tuple h
 exact⟨o,its.toArray,n,h1,h2,h3,by simpa using items_int r⟩
theorem Ll{kvs:List (List Int×PyData)}{xs:List (List Int×Addr×Value)}(I:Inv X pins Z H s)(r:fg X.K U H kvs xs):∀x∈xs,IsTupleKey (intKind X.prog X.w) s.heap x.1 x.2.1:=by
 unfold fg at r
 induction r with
 |nil=>intro x hx;exact nomatch hx
 |@cons a b as bs h t ih=>
  intro x hx
  rcases List.mem_cons.mp hx with rfl|hx
  ·obtain⟨h1,h2,_⟩:=h
   rw[<- h1]
   exact jA I h2
  ·exact ih x hx
theorem wt{kvs:List (List Int×PyData)}{a:Addr}{o:Obj}(I:Inv X pins Z H s)(h:H a=some (.raw o))(r:g0 X.K U H (.dict kvs) o) :
  ∃xs,fg X.K U H kvs xs/\s.heap.DictOfH (tupleKind (intKind X.prog X.w)) a xs/\xs.length<=sizeLine:=by
 obtain⟨h1,h2,es,ep,xs,h3,h4,h5,h6⟩:=r
 exact⟨xs,h6,⟨o,es,ep,(show s.heap.get? a=some o from I.hok a _ h),h2,h3,h4,Ll I h6,h5⟩,by rw[<- h6.length];exact h1⟩
theorem Ir{kvs:List (List Int×PyData)}{a:Addr}{xs:List (List Int×Addr×Value)}{h':Heap}(hl:kvs.length<=sizeLine)(r:fg X.K U H kvs xs)(d:h'.DictOfH (tupleKind (intKind X.prog X.w)) a xs) :
  ∃o,h'.get? a=some o/\g0 X.K U H (.dict kvs) o:=by
 obtain⟨o,es,ep,h1,h2,h3,h4,_,h5⟩:=d
 exact⟨o,h1,hl,h2,es,ep,xs,h3,h4,h5,r⟩
end
section
variable {X:Cx}{pins:List (Addr×Obj)}{Z:St}{H:Hp}{s:Shared}{U:Mu}{A:Around}{E:Value->Shared->Prop}
theorem Gi{ks:List (List Int)}{a:Addr}{o:Obj}(I:Inv X pins Z H s)(h:H a=some (.raw o))(r:g0 X.K U H (.set ks) o) :
  ∃L:ST.Ln Value,ST.ES s.heap a L/\L.length=ks.length/\(∀x∈L,∃k,ST.Ent (intKind X.prog X.w) s.heap x k/\k∈ks)/\(∀k∈ks,∃x∈L,ST.Ent (intKind X.prog X.w) s.heap x k) /\
   (∀x∈L,∃k q,x.2.2 = .ref q/\SqT X.K H q (k.map V.int)/\x.2.1=hI k/\k∈ks)/\∀k∈ks,∃x∈L,∃q,x.2.2 = .ref q/\SqT X.K H q (k.map V.int):=by
 obtain⟨h1,L,ep,t,h2,h3,h4,h5,h6,h7⟩:=r
 have ent:∀x∈L,∃k,ST.Ent (intKind X.prog X.w) s.heap x k/\k∈ks:=fun x hx=>by
  obtain⟨k,q,z1,z2,z3,z4⟩:=h6 x hx
  exact⟨k,⟨q,z1,jA I z2,z3⟩,z4⟩
 refine⟨L,⟨o,ep,t,(show s.heap.get? a=some o from I.hok a _ h),h1,h2,h3,h4⟩,h5,ent,fun k hk=>?_,h6,h7⟩
 obtain⟨x,hx,q,z1,z2⟩:=h7 k hk
 obtain⟨k',e',_⟩:=ent x hx
 have:k=k':=by
  obtain⟨q',y1,y2,_⟩:=e'
  rw[z1] at y1;cases y1
  exact (jA I z2).inj y2
 subst this
 exact⟨x,hx,e'⟩
theorem HA{L:ST.Ln Value}{ks:List (List Int)}{h:Heap}{k:List Int}(a:∀x∈L,∃k,ST.Ent (intKind X.prog X.w) h x k/\k∈ks)(b:∀k∈ks,∃x∈L,ST.Ent (intKind X.prog X.w) h x k) :
  (∃x∈L,ST.Ent (intKind X.prog X.w) h x k)↔k∈ks:=by
 constructor
 ·rintro ⟨x,hx,e⟩
  obtain⟨k',e',hk⟩:=a x hx
  rw[e.inj e'];exact hk
 ·exact b k
theorem PF{ks:List (List Int)}{a q:Addr}{o:Obj}{k:List Int}{Q:Value->Shared->Prop}(hu:A.units+64<cLine)(I:Inv X pins Z H s)(h:H a=some (.raw o))(r:g0 X.K U H (.set ks) o)(hk:SqT X.K H q (k.map V.int))(hb:ks.length<=9800)
  (hq:∀s',Inv X pins Z H s'->Q (.bool (decide (k∈ks))) s'):wpAny (model X.prog X.w) A (compareOp .In (.ref q) (.ref a)) Q E s:=by
 obtain⟨L,S,len,en1,en2,_,_⟩:=Gi I h r
 have hT:s.TypeIs (.ref a) "set":=let ⟨o,_,_,ho,hc,_⟩:=S;⟨o,ho,hc.1⟩
 show wpAny _ _ (do return .bool (<- contains (.ref a) (.ref q))) Q E s
 refine wpAny_bind ?_
 unfold contains
 try with_reducible refine wpAny_holding ?_
 refine wpAny_bind (wpAny_specialOf hT PySem.F.slot_set_contains.lookup ?_)
 show wpAny _ _ (if (some (Value.builtin "set.__contains__")==some Value.none)=true then _ else _) _ E s
 rw[if_neg (by rw[beq_builtin_none];exact Bool.false_ne_true)]
 refine wpAny_bind (wpAny_callSpecialUnlessNone?_slot (name:=Str.ofString "__contains__") hT PySem.F.slot_set_contains
  (wpAny_call_entry PySem.F.slot_set_contains hT entry_set_contains ?_ (PySem.F.args_set_contains_2 _ _)))
 unfold Builtin.«frozenset.__contains__» Builtin.Frozenset.oneOther
 simp only[List.isEmpty_nil,bind_assoc]
 unfold Builtin.Frozenset.addrOf Builtin.Frozenset.withSetAsKey
 refine wpAny_bind (wpAny_pure ?_)
 try dsimp only
 refine wpAny_bind (wpAny_pure ?_)
 try dsimp only
 refine wpAny_bind (wpAny_tryCatch ?_)
 refine ST.D5 (by show A.units+1<cLine;omega) S (fun x hx=>let ⟨k,e,_⟩:=en1 x hx;⟨k,e⟩) ∅ (jA I hk) fun b hbq=>?_
 have e:b=decide (k∈ks):=by
  rw[Bool.eq_iff_iff,hbq,HA en1 en2,decide_eq_true_eq]
 show wpAny _ _ (ret (Value.bool b)) _ _ _
 exact wpAny_pure ⟨_,rfl,wpAny_truthy_bool (wpAny_pure (by rw[e];exact hq _ (I.tok _)))⟩
theorem ME{ks:List (List Int)}{a q:Addr}{o:Obj}{k:List Int}{Q:Value->Shared->Prop}(hu:A.units+64<cLine)(I:Inv X pins Z H s)(h:H a=some (.raw o))(r:g0 X.K U H (.set ks) o)(hk:SqT X.K H q (k.map V.int))(hb:ks.length<=9800)(hn:k ∉ ks)
  (hq:∀o' s',Inv X pins Z (upd H a (.raw o')) s'->g0 X.K U H (.set (ks++[k])) o'->Q .none s'):wpAny (model X.prog X.w) A (call (.builtin "set.add") [.ref a,.ref q]) Q E s:=by
 obtain⟨L,S,len,en1,en2,r1,r2⟩:=Gi I h r
 have hT:s.TypeIs (.ref a) "set":=let ⟨o,_,_,ho,hc,_⟩:=S;⟨o,ho,hc.1⟩
 refine wpAny_call_entry PySem.F.slot_set_add hT PySem.F.entry_set_add ?_ (PySem.F.args_set_add_2 _ _)
 unfold Builtin.«set.add» Builtin.Frozenset.oneOther
 simp only[List.isEmpty_nil,bind_assoc]
 unfold Builtin.Frozenset.addrOf
 refine wpAny_bind (wpAny_pure ?_)
 try dsimp only
 refine wpAny_bind (wpAny_pure ?_)
 try dsimp only
 refine wpAny_bind ?_
 refine ST.Qb (by show A.units+1<cLine;omega) S (fun x hx=>let ⟨k,e,_⟩:=en1 x hx;⟨k,e⟩) ∅ (jA I hk) (fun z=>absurd ((HA en1 en2).mp z) hn) fun _ h' L' sb S' len' mem'=>?_
 obtain⟨o',ep,t,ho,hex,hd,T,hr⟩:=S'
 show wpAny _ _ (ret Value.none) _ _ _
 refine wpAny_pure ⟨_,rfl,hq o' _ (G4 I (by rw[h];exact True.intro) sb ⟨o',ho⟩ ho) ⟨hex,L',ep,t,hd,T,hr,by rw[len',len,length_append];rfl,fun x hx=>?_,fun k' hk'=>?_⟩⟩
 ·rcases (mem' x.2).mp (List.mem_map.mpr ⟨x,hx,rfl⟩) with z|z
  ·obtain⟨y,hy,ey⟩:=List.mem_map.mp z
   obtain⟨k',q',y1,y2,y3,y4⟩:=r1 y hy
   exact⟨k',q',by rw[<- ey];exact y1,y2,by rw[<- ey];exact y3,mem_append_left _ y4⟩
  ·exact⟨k,q,by rw[z],hk,by rw[z];rfl,mem_append_right _ (List.mem_singleton.mpr rfl)⟩
 ·rcases List.mem_append.mp hk' with z|z
  ·obtain⟨y,hy,q',y1,y2⟩:=r2 k' z
   obtain⟨x,hx,ex⟩:=List.mem_map.mp ((mem' y.2).mpr (.inl (List.mem_map.mpr ⟨y,hy,rfl⟩)))
   exact⟨x,hx,q',by rw[ex];exact y1,y2⟩
  ·rw[List.mem_singleton] at z
   subst z
   obtain⟨x,hx,ex⟩:=List.mem_map.mp ((mem' (tupleKeyHash (intKind X.prog X.w) k',.ref q)).mpr (.inr rfl))
   exact⟨x,hx,q,by rw[ex],hk⟩
end
section
variable {X:Cx}{a b e o:Expr}{ta tb te to:DTE}{pos p apos cpos:Pos}
theorem DE.mk{td:DTE}(h:∀(pins:List (Addr×Obj)) (s:Shared) (Z:St) (H:Hp) (ρ:Rho) (U:Mu) (Qd:DK),Inv X pins Z H s->St0 X.K H ρ U Z->td ρ U Qd ->
  wpAny (model X.prog X.w) X.A (eval e X.env) (fun v s'=>∃d u ad H',Inv X pins Z H' s'/\RelV u v/\Ext X.K U H ad H'/\St0 X.K H' ρ ad Z/\RpD X.K ad H' d u/\Qd d ad) X.xe s):DE X e td:=by
 refine⟨fun Z H Q=>∃ρ U Qd,St0 X.K H ρ U Z/\td ρ U Qd/\∀d u ad H',Ext X.K U H ad H'->St0 X.K H' ρ ad Z->RpD X.K ad H' d u->Qd d ad->Q u H',?_,fun Z H ρ U Qd Q S h k=>⟨ρ,U,Qd,S,h,k⟩⟩
 intro pins s Z H Q I ⟨ρ,U,Qd,S,q,k⟩
 exact wpAny_mono (h pins s Z H ρ U Qd I S q) (fun v s' ⟨d,u,ad,H',I',rv,ex,S',rd,q'⟩=>⟨u,H',I',rv,k d u ad H' ex S' rd q'⟩) fun _ _ z=>z
theorem DE.use{td:DTE}(h:DE X e td){pins:List (Addr×Obj)}{s:Shared}{Z:St}{H:Hp}{ρ:Rho}{U:Mu}{Qd:DK}(I:Inv X pins Z H s)(S:St0 X.K H ρ U Z)(q:td ρ U Qd) :
  wpAny (model X.prog X.w) X.A (eval e X.env) (fun v s'=>∃d u ad H',Inv X pins Z H' s'/\RelV u v/\Ext X.K U H ad H'/\St0 X.K H' ρ ad Z/\RpD X.K ad H' d u/\Qd d ad) X.xe s:=by
 obtain⟨t,p,l⟩:=h
 exact wpAny_mono (p pins s Z H (fun u H'=>∃d ad,Ext X.K U H ad H'/\St0 X.K H' ρ ad Z/\RpD X.K ad H' d u/\Qd d ad) I (l Z H ρ U Qd _ S q fun d u ad H' ex S' r z=>⟨d,ad,ex,S',r,z⟩))
  (fun v s' ⟨u,H',I',rv,d,ad,ex,S',r,z⟩=>⟨d,u,ad,H',I',rv,ex,S',r,z⟩) fun _ _ z=>z
noncomputable def BB:DTE:=fun _ U Q=>∀p,U.b p=none->Q (.b p) (ck U p (.set []))
noncomputable def Np:DTE:=fun _ U Q=>∀p,U.b p=none->Q (.b p) (ck U p (.dict []))
theorem Md{ρ:Rho}{U:Mu}{Q:DK}:BB ρ U Q = ∀p,U.b p=none->Q (.b p) (ck U p (.set [])):=rfl
theorem KU{ρ:Rho}{U:Mu}{Q:DK}:Np ρ U Q = ∀p,U.b p=none->Q (.b p) (ck U p (.dict [])):=rfl
theorem L7{pins:List (Addr×Obj)}{s:Shared}{Z:St}{H:Hp}(I:Inv X pins Z H s):(s.heap.objs.size==sysModules)=false:=beq_eq_false_iff_ne.mpr (Ne.symm (ne_of_lt I.big))
theorem Im(hg:Gl X "set")(hm:X.mg "set"=none):DE X (.Call (.Name "set" p) [] [] pos) BB:=by
 refine DE.mk fun pins s Z H ρ U Qd I S q=>?_
 refine wpAny_Call_Name_kw (p7 I hg hm PyProof.Rows.Boot.«set» ?_ ⋯ ⋯)
 refine PyProof.Rows.callWith_type0 (call_set_0 fun led=>?_)
 have hn:=I.hok.fresh (le_refl s.heap.objs.size)
 have ex:=pS (K:=X.K) (o:={cls:=.type "set",dict:=none,data:=.set #[] 0 (.fresh 0 0 led)}) (c:=.set []) S.mu hn
 refine⟨.b s.heap.objs.size,.ref s.heap.objs.size,ck U s.heap.objs.size (.set []),_,I.laid (a:=s.heap.objs.size) (o:=.raw _) (t':=s.toks) (fun _ _ q=>Heap.get?_push_of_some _ q) (le_refl _) (Heap.get?_push_size _ rfl),rfl,ex,
  ⟨S.mu.K5 (L7 I) hn (JE rfl),S.rho.ext S.mu ex⟩,⟨rfl,_,bK⟩,q _ (S.mu.J6 hn)⟩
noncomputable def ue:D->Option (List Int)
 |.v (.tuple ds)=>intsOf ds
 |_=>none
theorem wd{K:PySem.W.Frag}{U:Mu}{H:Hp}{d:D}{u:V}{k:List Int}(r:RpD K U H d u)(h:ue d=some k):∃q,u = .ref q/\SqT K H q (k.map V.int):=by
 cases d with
 |v x=>
  cases x with
  |tuple ds=>
   cases r with
   |tuple hs rl=>exact⟨_,rfl,by rw[<- G9 rl h];exact hs⟩
  |_=>cases h
 |_=>cases h
noncomputable def inB(c:Box)(k:List Int):Bool:=match c with
 |.set ks=>decide (k∈ks)
 |.dict kvs=>(dR kvs k).isSome
noncomputable def KL:Box->Prop
 |.set ks=>ks.length<=9800
 |.dict kvs=>kvs.length<=9800
noncomputable def QM(neg:Bool):D->D->Mu->DK->Prop:=fun x y U Q=>∃k a c,ue x=some k/\y = .b a/\U.b a=some c/\KL c/\(neg=true->∃kvs,c = .dict kvs)/\Q (.v (.bool (xor neg (inB c k)))) U
noncomputable def Rj(K:PySem.W.Frag)(r:D->D->Mu->DK->Prop):R2:=fun ux uy H Q=>∃x y U Qd,bP K U H/\RpD K U H x ux/\RpD K U H y uy/\r x y U Qd/\∀d u ad H',Ext K U H ad H'->bP K ad H'->RpD K ad H' d u->Qd d ad->Q u H'
theorem O3{K:PySem.W.Frag}{r:D->D->Mu->DK->Prop}:jJ K (Rj K r) r:=fun x y ux uy H U Qd Q ok rx ry h k=>⟨x,y,U,Qd,ok,rx,ry,h,k⟩
theorem Q1(hu:X.A.units+64<cLine):OpR X (compareOp .In) (Rj X.K (QM false)):=by
 intro pins s Z H ux uy v u Q I rv ru h
 obtain⟨x,y,U,Qd,ok,rx,ry,⟨k,a,c,hk,rfl,hc,few,_,q⟩,kk⟩:=h
 obtain⟨qk,rfl,hq⟩:=wd rx hk
 obtain⟨rfl,_⟩:=ry
 cases rv;cases ru
 obtain⟨ns,ob,hr,hb⟩:=ok.box a c hc
 have fin:∀s',Inv X pins Z H s'->EP X pins Z Q (.bool (inB c k)) s':=fun s' I'=>⟨.bl (inB c k),H,I',rfl,kk (.v (.bool (inB c k))) _ U H .refl ok (Rp.bool _) (by rw[false_xor] at q;exact q)⟩
 cases c with
 |set ks=>exact PF hu I hr hb hq few fin
 |dict kvs=>
  obtain⟨xs,dp,dd,len⟩:=wt I hr hb
  refine wpAny_in_heap (tupleKind_room_in1 ∅) (jA I hq) ns dd ?_
  have e:(atKey xs k).isSome=inB (.dict kvs) k:=by
   show _=(dR kvs k).isSome
   rcases dp.look k with ⟨l1,l2⟩|⟨d',q',v',w',l1,l2,_,_⟩
   ·rw[l1,l2];rfl
   ·rw[l1,l2];rfl
  rw[e]
  exact fin _ (I.tok _)
theorem PU(hu:X.A.units+64<cLine)(ha:DE X a ta)(hb:DE X b tb)(hm:behindInMarks .In b=false:=by rfl):DT X (.Compare a [.In] [b] pos) (dB (dOp (QM false) ta tb)):=aL (Q1 hu) O3 ha hb hm
end
section
variable {X:Cx}{a b e o i value:Expr}{ta tb te to ti tv:DTE}{pos pos' p apos cpos:Pos}
noncomputable def JX(to te:DTE):DTE:=fun ρ U Q=>to ρ U fun x al=>∃a ks0,x = .b a/\al.b a=some (.set ks0)/\te ρ al fun y am=>∃k ks,ue y=some k/\am.b a=some (.set ks)/\ks.length<=9800/\k ∉ ks/\Q (.v .none) (ck am a (.set (ks++[k])))
theorem P9{ρ:Rho}{U:Mu}{Q:DK}:JX to te ρ U Q=to ρ U fun x al=>∃a ks0,x = .b a/\al.b a=some (.set ks0)/\te ρ al fun y am=>∃k ks,ue y=some k/\am.b a=some (.set ks)/\ks.length<=9800/\k ∉ ks/\Q (.v .none) (ck am a (.set (ks++[k]))):=rfl
theorem Nq(hu:X.A.units+64<cLine)(ho:DE X o to)(he:DE X e te)(m:M1 X o "add" apos e cpos:=by exact⟨rfl,rfl,rfl,rfl⟩):DE X (.Call (.Attribute o "add" apos) [e] [] cpos) (JX to te):=by
 refine DE.mk fun pins s Z H ρ U Qd I S q=>?_
 refine wpAny_Call_method m.base m.few m.line PySem.F.plainAttrs_set PySem.F.slot_set_add PySem.F.type_set_add (thn (ho.use I S q) fun u s1 h1=>?_)
 obtain⟨x,ux,al,H1,I1,rx,e1,S1,rd,a,ks0,ex,hb0,q1⟩:=h1
 subst ex
 obtain⟨rfl,_⟩:=rd
 cases rx
 obtain⟨ns,ob,hr,hb⟩:=S1.mu.box a _ hb0
 obtain⟨L,SA,_,_,_,_,_⟩:=Gi I1 hr hb
 obtain⟨ob',ep,t,g1,g2,_⟩:=SA
 refine⟨⟨ob',g1,g2.1⟩,fun b z=>by cases z;exact⟨ob',g1,g2.2.1⟩,?_⟩
 rw[m.trees]
 refine Calls.callWith_builtin rfl (Calls.evalArgs_plain (Calls.spliced_cons (thn (he.use I1 S1 q1) fun iv s2 h2=>Calls.spliced_nil ?_)))
 obtain⟨y,uy,am,H2,I2,ry,e2,S2,rd2,k,ks,hk,hb2,few,hn,q2⟩:=h2
 obtain⟨qk,rfl,hq⟩:=wd rd2 hk
 cases ry
 obtain⟨_,ob2,hr2,hb3⟩:=S2.mu.box a _ hb2
 refine ME hu I2 hr2 hb3 hq few hn fun o' s3 I3 hb4=>?_
 have ex:=B9 (K:=X.K) (U:=am) (c:=.set (ks++[k])) (o':=o') hr2
 exact⟨.v .none,.non,_,_,I3,rfl,e1.trans (e2.trans ex),⟨S2.mu.Kx ns hr2 hb4,S2.rho.ext S2.mu ex⟩,Rp.none,q2⟩
noncomputable def Jg(to ti:DTE):DTE:=fun ρ U Q=>to ρ U fun x al=>ti ρ al fun y am=>∃a kvs k d,x = .b a/\ue y=some k/\am.b a=some (.dict kvs)/\dR kvs k=some d/\Q (.v d) am
theorem RS{ρ:Rho}{U:Mu}{Q:DK}:Jg to ti ρ U Q=to ρ U fun x al=>ti ρ al fun y am=>∃a kvs k d,x = .b a/\ue y=some k/\am.b a=some (.dict kvs)/\dR kvs k=some d/\Q (.v d) am:=rfl
theorem CI(hu:X.A.units+64<cLine)(ho:DE X o to)(hi:DE X i ti)(hs:R1 i:=by exact fun _ _=>rfl):DE X (.Subscript o i pos) (Jg to ti):=by
 refine DE.mk fun pins s Z H ρ U Qd I S q=>?_
 refine Nu PySem.F.slot_dict_getitem.lookup hs (thn (ho.use I S q) fun u s1 h1=>?_)
 obtain⟨x,ux,al,H1,I1,rx,e1,S1,rd,q1⟩:=h1
 refine thn (hi.use I1 S1 q1) fun iv s2 h2=>?_
 obtain⟨y,uy,am,H2,I2,ry,e2,S2,rd2,a,kvs,k,d,ex,hk,hb2,hl,q2⟩:=h2
 subst ex
 obtain⟨rfl,_⟩:=rd
 cases rx
 obtain⟨qk,rfl,hq⟩:=wd rd2 hk
 cases ry
 obtain⟨ns,ob,hr,hb⟩:=S2.mu.box a _ hb2
 obtain⟨xs,dp,dd,len⟩:=wt I2 hr hb
 rcases dp.look k with ⟨l1,_⟩|⟨d',q',v',w',l1,l2,l3,l4⟩
 ·rw[hl] at l1;cases l1
 ·rw[hl] at l1;cases l1
  refine⟨dd.typeIs,wpAny_getItem_heap (tupleKind_room_in1 ∅) (jA I2 hq) dd l2 ?_⟩
  exact⟨.v d,v',am,H2,I2.tok _,l4,e1.trans e2,S2,l3,q2⟩
noncomputable def RH(to ti tv:DTE):DTS:=fun D ρ U=>tv ρ U fun v al=>to ρ al fun x am=>ti ρ am fun y ci=>∃a kvs k d,v = .v d/\x = .b a/\ue y=some k/\ci.b a=some (.dict kvs)/\kvs.length<=9800/\D.nx ρ (ck ci a (.dict (nV kvs k d)))
theorem P6{D:Ej}{ρ:Rho}{U:Mu}:RH to ti tv D ρ U=tv ρ U fun v al=>to ρ al fun x am=>ti ρ am fun y ci=>∃a kvs k d,v = .v d/\x = .b a/\ue y=some k/\ci.b a=some (.dict kvs)/\kvs.length<=9800/\D.nx ρ (ck ci a (.dict (nV kvs k d))):=rfl
noncomputable def DY:Box->Nat
 |.set ks=>ks.length
 |.dict kvs=>kvs.length
theorem vC{prog:Program}{w:World}{K:Type}[DecidableEq K](knd:HeapKind prog w K)(d:Addr)(hd:(d==sysModules)=false) :
  MeetsIn prog w (Builtin.«dict.__len__» ⟨[.ref d],[]⟩) (fun _ R s=>∃kvs,s.heap.DictOfH knd d kvs/\R (.ok (.ret (.int kvs.length s.toks))) {s with toks:=s.toks+1}):=
 .of_wp fun A R s ⟨kvs,hm,h⟩=>by
  obtain⟨o,es,ep,ho,hc,hdat,hk,hp,hn⟩:=hm
  show wpAny _ _ (dictSize d>>=_) _ _ s
  unfold dictSize
  refine wpAny_bind (wpAny_bind (wpAny_dictEntries ho hdat (wpAny_pure ?_)))
  show wpAny _ _ (Builtin.Dict.pendingCount d>>=_) _ _ s
  refine wpAny_bind (wpAny_pendingCount_other hd ?_)
  refine wpAny_ret_mkInt ?_
  have:es.size=kvs.length:=size_of_entries hk
  rw[Nat.add_zero,this];exact h
theorem xi{prog:Program}{w:World}{K:Type}[DecidableEq K]{knd:HeapKind prog w K}{A:Around}{E:Value->Shared->Prop}{s:Shared}{d:Addr}{kvs:List (K×Addr×Value)}{Q:Value->Shared->Prop}(hd:(d==sysModules)=false)(hm:s.heap.DictOfH knd d kvs)(hfit:(kvs.length:Int)<2 ^ 63)
  (h:Q (.int kvs.length (s.toks+1)) {s with toks:=s.toks+1+1}):wpAny (model prog w) A (call (.builtin "len") [.ref d]) Q E s:=by
 refine Calls.call_function_entry kind_len plain_len entry_len (args_len1 _) ?_
 unfold Builtin.«len»
 refine wpAny_bind (m:=oneArg "len" _) (wpAny_pure ?_)
 refine wpAny_bind (m:=callSpecial? (.ref d) (Str.ofString "__len__")) (wpAny_callSpecial?_slot (name:=Str.ofString "__len__") hm.typeIs PySem.F.slot_dict_len
  (call_meetsIn PySem.F.slot_dict_len hm.typeIs PySem.F.entry_dict_len (PySem.F.args_dict_len_1 _) (vC knd d hd) ⟨kvs,hm,?_⟩))
 show wpAny _ _ _ _ _ {s with toks:=s.toks+1}
 refine wpAny_bind (wpAny_holding (wpAny_pure ?_))
 refine wpAny_bind (wpAny_letGo ?_)
 show wpAny _ _ (if ((kvs.length:Nat):Int)<0 then _ else _) _ _ _
 rw[if_neg ∅]
 show wpAny _ _ (if ((kvs.length:Nat):Int) ≥ 2 ^ 63 then _ else _) _ _ _
 rw[if_neg ∅]
 exact wpAny_bind (wpAny_mkInt (wpAny_pure ⟨_,rfl,h⟩))
noncomputable def LR:List D->Mu->DK->Prop:=fun xs U Q=>∃a c,xs=[.b a]/\U.b a=some c/\KL c/\Q (.v (.int (DY c:Nat))) U
noncomputable def RT(K:PySem.W.Frag)(r:List D->Mu->DK->Prop):List V->Hp->VK->Prop:=fun us H Q=>∃ds U Qd,bP K U H/\jt K U H ds us/\r ds U Qd/\∀d u ad H',Ext K U H ad H'->bP K ad H'->RpD K ad H' d u->Qd d ad->Q u H'
theorem Q8{K:PySem.W.Frag}{r:List D->Mu->DK->Prop}:mh K (RT K r) r:=fun xs us H U Qd Q ok rs h k=>⟨xs,U,Qd,ok,rs,h,k⟩
theorem Ih:iP X (.builtin "len") (RT X.K LR):=by
 intro pins s Z H xs us Q I r h
 obtain⟨ds,U,Qd,ok,rs,⟨a,c,rfl,hc,few,q⟩,kk⟩:=h
 cases rs with
 |cons r1 r2=>
  cases r2
  obtain⟨rfl,_⟩:=r1
  obtain⟨u,rfl,rx⟩:=vals1 r
  cases rx
  obtain⟨ns,ob,hr,hb⟩:=ok.box a c hc
  have fin:∀(t:Tok) s',Inv X pins Z H s'->EP X pins Z Q (.int (DY c:Nat) t) s':=fun t s' I'=>⟨.int (DY c:Nat),H,I',⟨t,rfl⟩,kk (.v (.int (DY c:Nat))) _ U H .refl ok (Rp.int _) q⟩
  cases c with
  |set ks=>
   obtain⟨h1,L,ep,t,h2,h3,h4,h5,_,_⟩:=hb
   have hs:(L.map (·.2)).toArray.size=ks.length:=by rw[size_toArray,length_map,h5]
   have few':ks.length<=9800:=few
   refine PySem.call_len_set (show s.heap.get? a=some ob from I.hok a _ hr) h1 h2 (ST.fits_of h3 ∅) (by rw[hs];exact Int.lt_of_le_of_lt (by exact_mod_cast few':(ks.length:Int)<=9800) ⋯) ?_
   rw[hs]
   exact fin _ _ (I.kept (h':=s.heap) (t':=s.toks+1+1) fun _ _ e=>e)
  |dict kvs=>
   obtain⟨xs,dp,dd,len⟩:=wt I hr hb
   have few':kvs.length<=9800:=few
   refine xi ns dd (by rw[<- dp.length];exact Int.lt_of_le_of_lt (by exact_mod_cast few':(kvs.length:Int)<=9800) ⋯) ?_
   rw[<- dp.length]
   exact fin _ _ (I.kept (h':=s.heap) (t':=s.toks+1+1) fun _ _ e=>e)
theorem Nz{es:List Expr}{t:DTA}(hg:Gl X "len")(hm:X.mg "len"=none)(ha:DA X (e::es) t)
  (he:starEach (e::es) X.env=(false,eval e X.env)::starEach es X.env:=by rfl) (hpl:(backTo pos (starEach es X.env)).any (·.1)=false:=by rfl):DE X (.Call (.Name "len" p) (e::es) [] pos) (dCB LR t):=
 jb Ih Q8 hg hm PySem.boot_len ha ⋯ ⋯ he hpl
end
noncomputable def putAll{α:Type}(l:List (List Int×α)):List (List Int×α):=l.foldl (fun a x=>nV a x.1 x.2) []
theorem putAll_snoc{α:Type}(l:List (List Int×α))(k:List Int)(y:α):putAll (l++[(k,y)])=nV (putAll l) k y:=by unfold putAll;rw[List.foldl_append];rfl
theorem GJ{α:Type}(l:List (List Int×α)):(putAll l).length<=l.length:=by
 have:∀(l a:List (List Int×α)),(l.foldl (fun a x=>nV a x.1 x.2) a).length<=a.length+l.length:=fun l=>by
  induction l with
  |nil=>intro a;exact le_refl _
  |cons x l ih=>
   intro a
   rw[List.foldl_cons,length_cons]
   have h1:=ih (nV a x.1 x.2)
   have h2:=Dz a x.1 x.2
   omega
 have h:=this l []
 rw[length_nil,Nat.zero_add] at h
 exact h
theorem EY{β:Type}{xs:List PyData}{f:PyData->Option β}{i:Nat}{d:PyData}(h:xs[i]? = some d):(xs.take (i+1)).filterMap f=(xs.take i).filterMap f++(f d).toList:=by
 obtain⟨hi,e⟩:=List.getElem?_eq_some_iff.mp h
 rw[List.take_succ_eq_append_getElem hi,List.filterMap_append,e]
 cases q:f d<;>simp[q]
noncomputable def xK(cap:List (Option Nat))(src:DTI)(g:DTG)(c:DTT)(tk tv:DTE):DTE:=fun ρ U Q=>src ρ U fun xs al=>xs.length<=1000/\∃f:PyData->Option (List Int×PyData),
 (∀x∈xs,∀ad:Mu,(∀a ds,al a=some ds->ad a=some ds)->g (.v x) (dh cap ρ) ad fun dl am=>Le (dh cap ρ) dl/\c dl am fun b ci=>
  if b=true then tk dl ci fun dk dL=>tv dl dL fun dv gl=>gl=ad/\∃k y,ue dk=some k/\dv = .v y/\f x=some (k,y) else ci=ad/\f x=none)/\∀p,al.b p=none->Q (.b p) (ck al p (.dict (putAll (xs.filterMap f))))
theorem HN{cap:List (Option Nat)}{src:DTI}{g:DTG}{c:DTT}{tk tv:DTE}{ρ:Rho}{U:Mu}{Q:DK}:xK cap src g c tk tv ρ U Q=src ρ U fun xs al=>xs.length<=1000/\∃f:PyData->Option (List Int×PyData),
 (∀x∈xs,∀ad:Mu,(∀a ds,al a=some ds->ad a=some ds)->g (.v x) (dh cap ρ) ad fun dl am=>Le (dh cap ρ) dl/\c dl am fun b ci=>
  if b=true then tk dl ci fun dk dL=>tv dl dL fun dv gl=>gl=ad/\∃k y,ue dk=some k/\dv = .v y/\f x=some (k,y) else ci=ad/\f x=none)/\∀p,al.b p=none->Q (.b p) (ck al p (.dict (putAll (xs.filterMap f)))):=rfl
noncomputable abbrev two(elt tg iter tg2 iter2:Expr)(scope:Scope)(pos:Pos):Expr:=.ListComp elt [⟨tg,iter,[],0⟩,⟨tg2,iter2,[],0⟩] scope pos
theorem zf(elt tg iter tg2 iter2:Expr)(scope:Scope)(pos:Pos)(it acc:Value)(env:Env) :
  compTurn (two elt tg iter tg2 iter2 scope pos) 0 it acc env=(standAt iter.pos>>=fun _=>pyNext it>>=fun r=>match r with
   |none=>pure (.done .next)
   |some v=>letOwnedTupleGo tg it v>>=fun _=>assign tg env v>>=fun _=>
    (eval iter2 env>>=fun x=>standAt iter2.pos>>=fun _=>foldedSetIterable iter2 env x>>=fun x=>holding [x] (pyIter x)>>=fun it2=>runOwn (.compStart (two elt tg iter tg2 iter2 scope pos) 1 it2 acc env) env>>=fun _=>
     again (.compLoop (two elt tg iter tg2 iter2 scope pos) 0 it acc env))):=by rfl
theorem y9(elt tg iter tg2 iter2:Expr)(scope:Scope)(pos:Pos)(it acc:Value)(env:Env) :
  compTurn (two elt tg iter tg2 iter2 scope pos) 1 it acc env=(standAt iter2.pos>>=fun _=>pyNext it>>=fun r=>match r with
   |none=>pure (.done .next)
   |some v=>letOwnedTupleGo tg2 it v>>=fun _=>assign tg2 env v>>=fun _=>
    (eval elt env>>=fun x=>call (.builtin "list.append") [acc,x]>>=fun _=>pure ())>>=fun _=>
     again (.compLoop (two elt tg iter tg2 iter2 scope pos) 1 it acc env)):=by rfl
section
variable {prog:Program}{w:World}{A:Around}{R:Result->Shared->Prop}{s:Shared}{elt tg iter tg2 iter2:Expr}{scope:Scope}{pos:Pos}{it acc:Value}{env:Env}
theorem Be(I:Nat->Shared->Prop)
  (turn:∀n s,I n s->wpAny (model prog w) A (pyNext it) (fun r db=>match r with
   |none=>R (.ok .next) db
   |some v=>wpAny (model prog w) A (letOwnedTupleGo tg2 it v) (fun _ s'=>wpAny (model prog w) A (assign tg2 env v) (fun _ bi=>
      wpAny (model prog w) A (eval elt env) (fun x ut=>
       wpAny (model prog w) A (call (.builtin "list.append") [acc,x]) (fun _ wf=>∃m,m<n/\I m wf) (fun _ _=>False) ut) (fun _ _=>False) bi) (fun _ _=>False) s') (fun _ _=>False) db) (fun _ _=>False) s)
  (n:Nat) (h:I n s) :
  codeAny (model prog w) A (.compLoop (two elt tg iter tg2 iter2 scope pos) 1 it acc env) R s:=by
 refine codeAny_loop rfl I (fun n s hI=>?_) n h
 show wpAny _ A ((compTurn (two elt tg iter tg2 iter2 scope pos) 1 it acc env).onRaise (fun x=>do noteFrame x env;theTreesLotGoes x)) _ _ s
 refine wpAny_noted ?_
 rw[y9]
 refine wpAny_bind (wpAny_standAt (wpAny_bind (wpAny_mono (turn n s hI) (fun r db kw=>?_) fun _ _ h'=>h'.elim)))
 cases r with
 |none=>exact wpAny_pure kw
 |some v=>
  refine wpAny_bind (wpAny_mono kw (fun _ s' h'=>?_) fun _ _ h'=>h'.elim)
  refine wpAny_bind (wpAny_mono h' (fun _ bi sK=>?_) fun _ _ h'=>h'.elim)
  exact wpAny_bind (wpAny_bind (wpAny_mono sK (fun x ut wr=>wpAny_bind (wpAny_mono wr (fun _ wf wv=>wpAny_pure (wpAny_pure ⟨rfl,wv⟩)) fun _ _ h'=>h'.elim)) fun _ _ h'=>h'.elim))
theorem xm
  (h0:codeAny (model prog w) A (.compLoop (two elt tg iter tg2 iter2 scope pos) 1 it acc env) R s)
  (h:wpAny (model prog w) A (pyIter it) (fun it' s'=>codeAny (model prog w) A (.compLoop (two elt tg iter tg2 iter2 scope pos) 1 it' acc env) R s')
   (notedBy (model prog w) A env fun x s'=>R (.error x) s') s) :
  codeAny (model prog w) A (.compStart (two elt tg iter tg2 iter2 scope pos) 1 it acc env) R s:=by
 refine codeAny_of_tree ?_
 show wpAny _ _ ((compStart (two elt tg iter tg2 iter2 scope pos) 1 it acc env).onRaise (fun x=>do noteFrame x env;standAt theWindowsPlace)) _ _ s
 refine wpAny_notedAt ?_
 unfold compStart
 show wpAny _ _ (ask>>=_) _ _ s
 refine wpAny_bind (wpAny_askSetting (wpAny_ite ?_))
 split
 ·first
   |exact wpAny_bind (wpAny_pure (wpAny_pure (And.intro rfl h0)))
   |exact wpAny_pure (And.intro rfl h0)
 ·first
   |exact wpAny_bind (wpAny_rule (wpAny_bind (wpAny_standAt (wpAny_bind (wpAny_mono h (fun it' s' h'=>wpAny_pure (And.intro rfl h')) fun _ _ x=>x)))))
   |(refine wpAny_bind (wpAny_rule ?_);show wpAny _ _ (standAt iter2.pos>>=_) _ _ s;exact wpAny_bind (wpAny_standAt (wpAny_bind (wpAny_mono h (fun it' s' h'=>wpAny_pure (And.intro rfl h')) fun _ _ x=>x))))
end
theorem w6{U:Mu}{p:Addr}{ds:List PyData}(h:U p=some ds):aW U p ds=U:=Mu.eq (fun b=>by
 by_cases e:b=p
 ·rw[e,aV,h]
 ·rw[bM e]) fun _=>rfl
theorem Ib{X:Cx}{N':List Str}{cl:List (Str×Addr)}{fp0:List Addr}{bi:Shared}{bv:Hp}{elt tg iter tg2 iter2:Expr}{scope:Scope}{pos:Pos}{src2:DTI}{g2:DTG}{te:DTE}
  (hi2:DI (aM X N' scope cl fp0 bi bv) tg2 iter2 src2) (hg2:DG (aM X N' scope cl fp0 bi bv) tg2 g2) (he:DE (aM X N' scope cl fp0 bi bv) elt te)
  {pins:List (Addr×Obj)} {s:Shared} {Z:St} {H:Hp} {ρ:Rho} {U:Mu} {p:Addr} {acc zs:List PyData} (I:Inv (aM X N' scope cl fp0 bi bv) pins Z H s) (S:St0 X.K H ρ U Z) (hp:U p=some acc) (hlen:acc.length+zs.length<=1000)
  (q:src2 ρ U fun ys ci=>ci=U/\∃h:PyData->PyData,zs=ys.map h/\∀y∈ys,∀ge:Mu,(∀a ds,a≠p->U a=some ds->ge a=some ds)->g2 (.v y) ρ ge fun lf dL=>Le ρ lf/\te lf dL fun d gl=>gl=ge/\d = .v (h y)) :
  wpAny (model X.prog X.w) X.A (eval iter2 (aM X N' scope cl fp0 bi bv).env) (fun x s1=>wpAny (model X.prog X.w) X.A (pyIter x) (fun it2 s2=>
   codeAny (model X.prog X.w) X.A (.compStart (two elt tg iter tg2 iter2 scope pos) 1 it2 (.ref p) (aM X N' scope cl fp0 bi bv).env) (fun r s3=>∃f,r = .ok f/\∃jp H3,Inv (aM X N' scope cl fp0 bi bv) pins jp H3 s3/\St0 X.K H3 ρ (aW U p (acc++zs)) jp/\Ext X.K U H (aW U p (acc++zs)) H3) s2) (fun _ _=>False) s1) (fun _ _=>False) s:=by
 obtain⟨wi,pw,li⟩:=hi2
 refine thn (pw pins s Z H _ I (li Z H ρ U _ (fun J H1=>∃ys ci,Ext X.K U H ci H1/\St0 X.K H1 ρ ci Z/\NC X.K J ys ci H1/\ci=U/\∃h:PyData->PyData,zs=ys.map h/\∀y∈ys,∀ge:Mu,(∀a ds,a≠p->U a=some ds->ge a=some ds)->g2 (.v y) ρ ge fun lf dL=>Le ρ lf/\te lf dL fun d gl=>gl=ge/\d = .v (h y)) S q
  (fun ys ci H1 J e1 S1 it q=>⟨ys,ci,e1,S1,it,q⟩))) fun v s1 h1=>thn h1 fun itv s2 h2=>?_
 obtain⟨it,fp,tn,J,H2,rfl,I2,T,st2,f2,ys,ci,e1,S1,itok,rfl,h,rfl,body⟩:=h2
 have loop:codeAny (model X.prog X.w) X.A (.compLoop (two elt tg iter tg2 iter2 scope pos) 1 (.ref it) (.ref p) (aM X N' scope cl fp0 bi bv).env) (fun r s3=>∃f,r = .ok f/\∃jp H3,Inv (aM X N' scope cl fp0 bi bv) pins jp H3 s3/\St0 X.K H3 ρ (aW ci p (acc++ys.map h)) jp/\Ext X.K ci H (aW ci p (acc++ys.map h)) H3) s2:=by
  refine Be (fun n s'=>∃(j:Nat) (ii:St) (Hc:Hp),n=ys.length-j/\j<=ys.length/\Inv (aM X N' scope cl fp0 bi bv) pins ii Hc s'/\tn j s'.heap/\(∀b∈fp,Hc b=none) /\
   St0 X.K Hc ρ (aW ci p (acc++(ys.take j).map h)) ii/\Ext X.K ci H2 (aW ci p (acc++(ys.take j).map h)) Hc) ?_ ys.length
   ⟨0,Z,H2,by simp,zero_le _,I2,st2,fun b hb=>(f2 b hb).1,?_,?_⟩
  ·rintro n s' ⟨i,ii,Hc,rfl,hi,Ic,tc,frc,Sc,Ec⟩
   have stat:∀{Hd:Hp},(∀b∈fp,Hd b=none)->∀b∈fp,x5 (aM X N' scope cl fp0 bi bv) pins Hd b:=fun hn b hb=>⟨hn b hb,(f2 b hb).2⟩
   obtain⟨go,stop⟩:=itok _ Hc Ec Sc.mu i
   by_cases hlt:i<ys.length
   ·obtain⟨g1,y1⟩:=go hlt
    refine thn (T.item (aM X N' scope cl fp0 bi bv) rfl rfl rfl (fun z=>z) i pins s' ii Hc (fun _ _=>False) Ic (stat frc) tc g1) fun r s4 hq0=>?_
    obtain⟨u,hr,h4⟩:=hq0
    subst hr
    refine thn h4 fun _ s5 hq0=>?_
    obtain⟨x,H5,I5,r5,y5,st5,fr5⟩:=hq0
    obtain⟨d,hd,sm,rd⟩:=y1 x H5 y5
    have I5':=I5.pinned (stat fr5) (T.obj _ _ st5)
    have e5:Ext X.K _ Hc _ H5:=.of_same (U:=aW ci p (acc++(ys.take i).map h)) sm
    have S5:St0 X.K H5 ρ (aW ci p (acc++(ys.take i).map h)) ii:=⟨Sc.mu.NH e5 sm,Sc.rho.ext Sc.mu e5⟩
    obtain⟨gt,pg,lg⟩:=hg2
    have hmem:d∈ys:=mem_of_getElem? hd
    have sub:∀a ds,a≠p->ci a=some ds->aW ci p (acc++(ys.take i).map h) a=some ds:=fun a ds ne e=>by rw[bM ne];exact e
    refine thn (pg _ s5 ii H5 x u (fun ca H'=>∃ce ad,Ext X.K (aW ci p (acc++(ys.take i).map h)) H5 ad H'/\St0 X.K H' ce ad ca/\Le ρ ce/\te ce ad fun d' gl=>gl=aW ci p (acc++(ys.take i).map h)/\d' = .v (h d)) I5' r5
     (lg ii H5 ρ _ (.v d) x _ _ S5 rd (body d hmem _ sub) fun ca ce ad H' e' S' q=>⟨ce,ad,e',S',q⟩)) fun _ s6 ⟨re,H6,I6,xz,u8,e6,S6,le6,q6⟩=>?_
    refine thn (he.use I6 S6 q6) fun v s8 hq0=>?_
    obtain⟨d',v8,tj,H8,I8,r8,e8,S8,ry,wT,ed⟩:=hq0
    subst wT;subst ed
    obtain⟨us,hacc,rus⟩:=S8.mu.lst p _ aV
    have hle:(acc++(ys.take i).map h).length<1000:=by
     rw[length_append,length_map,length_take]
     rw[length_map] at hlen
     omega
    refine thn (uD (X:=aM X N' scope cl fp0 bi bv) _ s8 re H8 (.ref p) [v8] (.ref p) [v] (fun _ H'=>H'=upd H8 p (.lst (us++[v8]))) I8 rfl (.cons r8 .nil) ⟨_,us,v8,rfl,rfl,hacc,by rw[<- rus.length];exact gx (Nat.le_of_lt hle),rfl⟩) fun _ s9 hq0=>?_
    obtain⟨_,H9,I9,_,e9⟩:=hq0
    subst e9
    have et:acc++(ys.take (i+1)).map h=acc++(ys.take i).map h++[h d]:=by
     obtain⟨hi',e⟩:=List.getElem?_eq_some_iff.mp hd
     rw[List.take_succ_eq_append_getElem hi',map_append,e,append_assoc]
     rfl
    have ex:Ext X.K (aW ci p (acc++(ys.take i).map h)) H8 (aW (aW ci p (acc++(ys.take i).map h)) p (acc++(ys.take i).map h++[h d])) (upd H8 p (.lst (us++[v8]))):=lN aV
    have m9:=S8.mu.set aV (rus.append (.cons ry .nil))
    rw[ku,<- et] at ex m9
    have Ef:=Ec.trans (e5.trans (e6.trans (e8.trans ex)))
    refine⟨ys.length-(i+1),∅,i+1,re,_,rfl,hlt,I9.kM,T.keep _ _ _ st5 fun b hb o e=>(I9.pin (b,o) (mem_append_right _ (mem_append_right _ (eX hb e)))).1,fun b hb=>?_,⟨m9,(S8.rho.ext S8.mu ex).le le6⟩,Ef⟩
    obtain⟨o,e,_⟩:=T.obj _ _ st5 b hb
    exact (I9.pin (b,o) (mem_append_right _ (mem_append_right _ (eX hb e)))).2.1
   ·have ei:i=ys.length:=by omega
    subst ei
    refine thn (T.done (aM X N' scope cl fp0 bi bv) rfl rfl rfl (fun z=>z) _ pins s' ii Hc (fun _ _=>False) Ic (stat frc) tc (stop rfl)) fun r s4 hq0=>?_
    obtain⟨hr,I5⟩:=hq0
    subst hr
    rw[take_length] at Sc Ec
    exact⟨_,rfl,ii,Hc,I5,Sc,e1.trans Ec⟩
  ·rw[List.take_zero,map_nil,append_nil,w6 hp]
   exact S1
  ·rw[List.take_zero,map_nil,append_nil,w6 hp]
   exact .refl
 exact xm loop (T.self X.A 0 _ _ _ st2 loop)
noncomputable def xG(cap:List (Option Nat))(src:DTI)(g:DTG)(src2:DTI)(g2:DTG)(te:DTE):DTE:=fun ρ U Q=>src ρ U fun xs al=>xs.length<=1000/\∃f:PyData->List PyData,(xs.flatMap f).length<=1000 /\
   (∀x∈xs,∀ad:Mu,(∀a ds,al a=some ds->ad a=some ds)->g (.v x) (dh cap ρ) ad fun dl am=>Le (dh cap ρ) dl/\am=ad/\src2 dl ad fun ys ci=>ci=ad/\∃h:PyData->PyData,f x=ys.map h/\∀y∈ys,∀ge:Mu,(∀a ds,al a=some ds->ge a=some ds) ->
    g2 (.v y) dl ge fun lf dL=>Le dl lf/\te lf dL fun d gl=>gl=ge/\d = .v (h y))/\Q (.v (.list (xs.flatMap f))) al
theorem G8{cap:List (Option Nat)}{src:DTI}{g:DTG}{src2:DTI}{g2:DTG}{te:DTE}{ρ:Rho}{U:Mu}{Q:DK}:xG cap src g src2 g2 te ρ U Q=src ρ U fun xs al=>xs.length<=1000/\∃f:PyData->List PyData,(xs.flatMap f).length<=1000 /\
   (∀x∈xs,∀ad:Mu,(∀a ds,al a=some ds->ad a=some ds)->g (.v x) (dh cap ρ) ad fun dl am=>Le (dh cap ρ) dl/\am=ad/\src2 dl ad fun ys ci=>ci=ad/\∃h:PyData->PyData,f x=ys.map h/\∀y∈ys,∀ge:Mu,(∀a ds,al a=some ds->ge a=some ds) ->
    g2 (.v y) dl ge fun lf dL=>Le dl lf/\te lf dL fun d gl=>gl=ge/\d = .v (h y))/\Q (.v (.list (xs.flatMap f))) al:=rfl
theorem ln1{p:List Value->Prop}(h:∀a0,p [a0])(us:List Value)(hl:us.length=1):p us:=match us,hl with|[a0],_=>h a0
theorem ln2{p:List Value->Prop}(h:∀a0 a1,p [a0,a1])(us:List Value)(hl:us.length=2):p us:=match us,hl with|[a0,a1],_=>h a0 a1
theorem ln3{p:List Value->Prop}(h:∀a0 a1 a2,p [a0,a1,a2])(us:List Value)(hl:us.length=3):p us:=match us,hl with|[a0,a1,a2],_=>h a0 a1 a2
theorem ln4{p:List Value->Prop}(h:∀a0 a1 a2 a3,p [a0,a1,a2,a3])(us:List Value)(hl:us.length=4):p us:=match us,hl with|[a0,a1,a2,a3],_=>h a0 a1 a2 a3
noncomputable def upE(te:DTE):DTE:=fun ρ U Q=>∃Q',te ρ U Q'/\∀d ad,Q' d ad->Q d ad
noncomputable def upG(g:DTG):DTG:=fun d ρ U Q=>∃Q',g d ρ U Q'/\∀ce ad,Q' ce ad->Q ce ad
noncomputable def upT(c:DTT):DTT:=fun ρ U Q=>∃Q',c ρ U Q'/\∀b ad,Q' b ad->Q b ad
noncomputable def upI(c:DTI):DTI:=fun ρ U Q=>∃Q',c ρ U Q'/\∀b ad,Q' b ad->Q b ad
theorem Hh{X:Cx}{e:Expr}{te:DTE}(h:DE X e te):DE X e (upE te):=
 let ⟨t,p,l⟩:=h
 ⟨t,p,fun Z H ρ U _ Q S ⟨Q',h,z⟩ k=>l Z H ρ U Q' Q S h fun d u ad H' a b c q=>k d u ad H' a b c (z _ _ q)⟩
theorem Hl{X:Cx}{e:Expr}{g:DTG}(h:DG X e g):DG X e (upG g):=
 let ⟨t,p,l⟩:=h
 ⟨t,p,fun Z H ρ U d u _ Q S r ⟨Q',h,z⟩ k=>l Z H ρ U d u Q' Q S r h fun ca ce ad H' a b q=>k ca ce ad H' a b (z _ _ q)⟩
theorem BI{X:Cx}{es:List Expr}{c:DTT}(h:yX X es c):yX X es (upT c):=
 fun pins s Z H ρ U _ Q I S ⟨Q',h',z⟩ k=>h pins s Z H ρ U Q' Q I S h' fun b ad H' x y q=>k b ad H' x y (z _ _ q)
theorem Eh{X:Cx}{tg e:Expr}{c:DTI}(h:DI X tg e c):DI X tg e (upI c):=
 let ⟨t,p,l⟩:=h
 ⟨t,p,fun Z H ρ U _ R S ⟨Q',h,z⟩ k=>l Z H ρ U Q' R S h fun xs al H1 J a b c q=>k xs al H1 J a b c (z _ _ q)⟩
theorem Sg{X:Cx}{e:Expr}{te te':DTE}(h:DE X e te)(w:∀ρ U Q,te' ρ U Q->te ρ U Q):DE X e te':=
 let ⟨t,p,l⟩:=h
 ⟨t,p,fun Z H ρ U Qd Q S h k=>l Z H ρ U Qd Q S (w _ _ _ h) k⟩
theorem Ml{U:Mu}{p:Addr}{l:List PyData}(h:U p=none):mn (aW U p l) p=U:=Mu.eq (fun b=>by
 by_cases e:b=p
 ·rw[e,jm,h]
 ·rw[nG e,bM e]) fun _=>rfl
theorem Iz{cap:List (Option Nat)}{src:DTI}{g:DTG}{c:DTT}{te:DTE}{ρ:Rho}{U:Mu}{Q:DK}(h:nX cap src g c te ρ U Q):qi cap (upI src) (upG g) (upT c) (upE te) ρ U Q:=by
 refine⟨_,h,fun xs al ⟨hl,f,body,q⟩=>⟨hl,fun p hp=>⟨fun i acc ad=>acc=(xs.take i).filterMap f/\ad=aW al p acc,⟨rfl,rfl⟩,fun i x acc ad hx _ P=>?_,fun acc ad P _=>?_⟩⟩⟩
 ·obtain⟨e,rfl⟩:=P
  have tk:∀o,f x=o->(xs.take (i+1)).filterMap f=acc++o.toList:=fun o z=>by
   rw[List.take_add_one,hx,List.filterMap_append,e]
   show _++List.filterMap f [x]=_
   rw[filterMap_cons,z]
   cases o<;>rfl
  refine⟨_,body x (mem_of_getElem? hx) _ (fun a ds z=>by rw[bM (fun w=>by rw[w,hp] at z;cases z),z]),fun dl am ⟨l,cc⟩=>⟨l,_,cc,fun b ci r=>?_⟩⟩
  cases b with
  |true=>
   rw[if_pos rfl] at r ⊢
   refine⟨_,r,fun d dL hq0=>?_⟩
   obtain⟨e4,m⟩:=hq0
   subst e4
   refine⟨aV,?_⟩
   split at m
   ·exact⟨(tk _ m).symm,ku⟩
   ·exact m.elim
  |false=>
   rw[if_neg ⋯] at r ⊢
   obtain⟨rfl,z⟩:=r
   exact⟨aV,by rw[tk _ z];exact (append_nil _).symm,rfl⟩
 ·obtain⟨rfl,rfl⟩:=P
  rw[take_length,Ml hp]
  exact q
structure Cal(K:PySem.W.Frag)(mg:Str->Option Value)(n:Str)(ps:List Str)(st:Stmt)(a:Addr)(d:FuncData):Prop where
 f:Fun K n n st a d
 m:mg n=some (.ref a)
 k:keepIn K (.ref a)=true
 b:Binds K d ps []
theorem aj{X:Cx}{k j:Nat}{f:Addr}{fd:FuncData}{x:Str}{p pos:Pos}{e:Expr}{es:List Expr}{ps:List Str}{st:Stmt}{dsp:DSp}{t:DTA}(F:mT X.prog X.w X.K X.mg X.base CX0 k f fd ps (spD X.K dsp))(hr:kL j X.A)(C:Cal X.K X.mg x ps st f fd)
  (ha:DA X (e::es) t) (h:k<=j:=by decide) (hg:Gl X x:=by rfl) (hdb:(x==("__debug__":Str))=false:=by decide) (he:starEach (e::es) X.env=(false,eval e X.env)::starEach es X.env:=by rfl) (hpl:(backTo pos (starEach es X.env)).any (·.1)=false:=by rfl) :
  DE X (.Call (.Name x p) (e::es) [] pos) (av dsp t):=NQ F (hr.mono h) hg C.m C.k C.b ha hdb he hpl
theorem bD{X:Cx}{pos:Pos}{i:Nat}{x:Str}(hN:X.N.Nodup)(hi:X.N[i]? = some x:=by rfl)(hx:Loc X.env.scope x:=by exact Or.inl rfl)(hf:X.fn x=true\/X.env.scope.names.lookup x=some .local:=by first|exact .inl rfl|exact .inr rfl|assumption):DG X (.Name x pos) (aq i):=HR hN hi hx hf
theorem dc{X:Cx}{N':List Str}{scope:Scope}{cl:List (Str×Addr)}{fp:List Addr}{s:Shared}{H:Hp}{pos:Pos}(i:Nat){x:Str}(hN:N'.Nodup:=by decide +kernel)(hi:N'[i]? = some x:=by rfl)(hx:Loc (aM X N' scope cl fp s H).env.scope x:=by exact Or.inl rfl)(hf:(aM X N' scope cl fp s H).fn x=true\/(aM X N' scope cl fp s H).env.scope.names.lookup x=some .local:=by first|exact .inl rfl|exact .inr rfl|assumption):DG (aM X N' scope cl fp s H) (.Name x pos) (aq i):=HR hN hi hx hf
theorem aN{X:Cx}{e:Expr}{te:DTE}{pos:Pos}{i:Nat}{x:Str}{pos':Pos}(hN:X.N.Nodup)(he:DE X e te)(hi:X.N[i]? = some x:=by rfl)(hx:Loc X.env.scope x:=by exact Or.inl rfl)(hs:swapsWith e (some (.Name x pos')) pos.line X.env=pure false:=by rfl)(hf:X.fn x=true\/X.env.scope.names.lookup x=some .local:=by first|exact .inl rfl|exact .inr rfl|assumption) :
  DS X (.Assign [.Name x pos'] e pos) (aS te (aq i)):=Me hN hi hx he hs hf
theorem bG{N P:List Str}{sc:Scope}(h1:sc.kind = .function:=by rfl)(h2:sc.isCoroutine=false:=by rfl)(h3:sc.isGenerator=false:=by rfl)(h4:N.Nodup:=by decide +kernel)(h5:N.take P.length=P:=by rfl)
  (h6:∀x∈P,sc.names.lookup x=some .local\/sc.names.lookup x=some .cell:=by decide +kernel) (h7:∀y∈sc.names,y.2≠.free:=by decide +kernel):aA N P sc:=⟨h1,h2,h3,h4,h5,h6,h7⟩
structure CH(X:Cx)(N':List Str)(scope:Scope)(cl:List (Str×Addr))(cap:List (Option Nat)):Prop where
 cell:∀y∈scope.names,y.2≠.cell
 kind:scope.kind = .function
 nms:∀y∈scope.names,y.2 = .local->scope.names.lookup y.1=some .local
 sub:∀x a,cl.lookup x=some a->X.env.cells.lookup x=some a
 has:∀x,(relabel scope X.env).names.lookup x=some .cell\/(relabel scope X.env).names.lookup x=some .free->∃a,cl.lookup x=some a
 len:cap.length=N'.length
 cap:∀(i j:Nat) (x:Str),cap[i]? = some (some j)->N'[i]? = some x->X.N[j]? = some x/\Vis X.env.scope x/\X.env.kindOf x≠some .local/\((relabel scope X.env).names.lookup x=some .cell\/(relabel scope X.env).names.lookup x=some .free)
noncomputable def Core(X:Cx)(E:Expr)(scope:Scope)(mk:Sem Value)(iter:Expr)(te:DTE):Prop:=∀(pos:Pos) (use:Option (Value->Sem Unit)) (QQ:Value->Shared->Prop) (pins:List (Addr×Obj)) (s:Shared) (Z:St) (H:Hp) (ρ:Rho) (U:Mu) (Qd:DK),Inv X pins Z H s->St0 X.K H ρ U Z->te ρ U Qd ->
 (∀(s4:Shared) (Hc:Hp) (C pa:Addr) (m:Str->Option Value) (d:D) (ld:Mu),s4.heap.Ns C m->x5 X pins Hc C->(∀h',Heap.SameBut C s4.heap h'->Inv X pins Z Hc {s4 with heap:=h'}) ->
  Ext X.K U H ld Hc->St0 X.K Hc ρ ld Z->RpD X.K ld Hc d (.ref pa)->Qd d ld->compPost (model X.prog X.w) X.A X.xe use QQ (.ref pa) C (.ok .next) s4) ->
 wpAny (model X.prog X.w) X.A (comprehension E scope X.env pos mk false (eval iter X.env) use) QQ X.xe s
theorem G2{X:Cx}{E iter:Expr}{scope:Scope}{mk:Sem Value}{te:DTE}{pos:Pos}(h:Core X E scope mk iter te)(e:eval E X.env=comprehension E scope X.env pos mk false (eval iter X.env)):DE X E te:=
 R5 fun pins s Z H ρ U Qd Q I S q k=>by
  rw[e]
  exact h _ _ _ _ _ _ _ _ _ _ I S q fun s4 Hc C pa m d ld hn _ hI e1 S1 r q=>⟨m,hn,fun h' hs'=>⟨.ref pa,Hc,hI h' hs',rfl,k d _ ld Hc e1 S1 r q⟩⟩
theorem G6{X:Cx}{i:Nat}{x:Str}{pos' spos pos:Pos}{E iter:Expr}{scope:Scope}{mk:Sem Value}{te:DTE}(h:Core X E scope mk iter te)(hN:X.N.Nodup)(hix:X.N[i]? = some x)(hx:X.env.scope.names.lookup x=some .local)
  (hsw:swapsWith E (some (.Name x pos')) spos.line X.env=pure true) (e:evalThenUse E X.env (assign (.Name x pos') X.env)=comprehension E scope X.env pos mk false (eval iter X.env) (some (assign (.Name x pos') X.env))>>=fun _=>pure ()):DS X (.Assign [.Name x pos'] E spos) (aS te (aq i)):=by
 refine⟨fun D Z H=>∃ρ U Dd,St0 X.K H ρ U Z/\aS te (aq i) Dd ρ U/\(∀ca ce ad H',Ext X.K U H ad H'->St0 X.K H' ce ad ca->Dd.nx ce ad->D.nx ca H'),?_,fun Z H ρ U Dd De S h k1 k2 k3 k4=>⟨ρ,U,Dd,S,h,k1⟩⟩
 intro pins s Z H D I hq
 obtain⟨ρ,U,Dd,S,q,k1⟩:=hq
 rw[exec_Assign_Name_used _ _ _ _ hsw,e]
 refine wpAny_bind (wpAny_standAt (wpAny_bind (wpAny_bind (h _ _ _ pins s Z H ρ U (fun d al=>aq i d ρ al Dd.nx) I S q fun s4 Hc C pa m d ld hn fC hI e1 S1 r q=>?_))))
 obtain⟨oC,hoC,hdC⟩:=ns_obj hn
 have I5:=(hI s4.heap (Heap.SameBut.refl _ _)).pinned (fp:=[C]) (fun b hb=>by rw[List.mem_singleton.mp hb];exact fC) (fun b hb=>by rw[List.mem_singleton.mp hb];exact⟨oC,hoC,hdC⟩)
 show wpAny _ _ (assign (.Name x pos') X.env (.ref pa)) _ _ s4
 refine wpAny_assign_Name (nW I5 hN hix (Or.inl hx) (show RelV (.ref pa) (.ref pa) from rfl) (fun s' I'=>?_) (.inr hx))
 have keepC:s'.heap.get? C=some oC:=(I'.pin (C,oC) (mem_append_right _ (mem_append_right _ (eX (List.mem_singleton.mpr rfl) hoC)))).1
 refine⟨m,MS hn (by rw[keepC,hoC]),fun h' hs'=>wpAny_pure (wpAny_pure ⟨Z.set i (some (.ref pa)),Hc,?_,k1 _ _ _ _ e1 ⟨S1.mu,S1.rho.set r⟩ q⟩)⟩
 refine I'.kM.Ot (ch:=[C]) rfl ⟨fun b o e n hb hx=>?_,fun b o e n hb hx=>?_,fun b o e n hx=>n,fun b o e hx=>?_,fun b xs e=>e,fun b o u e=>e,fun b ps e=>⟨#[],by rw[Array.append_empty];exact e⟩⟩ ?_ I'.bare fun b hb=>?_
 ·exact hs'.extBut b o (fun z=>hx (List.mem_singleton.mpr z)) e
 ·exact⟨o.slots,hs'.extBut b o (fun z=>hx (List.mem_singleton.mpr z)) e⟩
 ·exact⟨o,hs'.extBut b o (fun z=>hx (List.mem_singleton.mpr z)) e⟩
 ·exact fun b ob e=>by
   refine (I'.hok b ob e).CN (fun cc v hcc q=>hs'.extBut cc v ?_ q) (fun _ q=>q) fun _ _ q=>q
   rintro rfl
   rcases hcc with z|z
   ·rw[<- z,fC.1] at e;cases e
   ·rw[fC.1] at z;cases z
 ·rw[List.mem_singleton.mp hb]
  exact⟨fC.2.2.2.1,fC.2.1,fC.2.2.2.2.1,fC.2.2.2.2.2⟩
theorem Fn{X:Cx}{N':List Str}{scope:Scope}{cl:List (Str×Addr)}{cap:List (Option Nat)}{E tg:Expr}{gc:Comprehension}{gs:List Comprehension}{src:DTI}{g:DTG}{te:DTE}
  {T0:String} {dt:Data} {oH:HO} {mk0:Mu->Addr->Mu} {rest:Value->Addr->Env->Sem PySem.Fin} {Kb:Addr->PyData->Rho->Mu->(Mu->Prop)->Prop} {fin:DK->Mu->Addr->Mu->Prop}
  (hclos:closureFor scope X.env=pure cl) (hC:CH X N' scope cl cap) (hi:DI X tg gc.iter src) (hg:∀fp bi bv,DG (aM X N' scope cl fp bi bv) tg g)
  (hE:clausesOf E=gc::gs) (hs:∀x,foldedSetIterable gc.iter X.env x=pure x)
  (hst:∀{R:Result->Shared->Prop} {s:Shared} {it acc:Value} {env:Env},codeAny (model X.prog X.w) X.A (.compLoop E 0 it acc env) R s->wpAny (model X.prog X.w) X.A (pyIter it) (fun it' s'=>codeAny (model X.prog X.w) X.A (.compLoop E 0 it' acc env) R s') (notedBy (model X.prog X.w) X.A env fun x s'=>R (.error x) s') s->codeAny (model X.prog X.w) X.A (.compStart E 0 it acc env) R s)
  (hT:∀(it:Value) (D:Addr) (env:Env),compTurn E 0 it (.ref D) env=(standAt gc.iter.pos>>=fun _=>pyNext it>>=fun r=>match r with
   |none=>pure (.done .next)
   |some v=>letOwnedTupleGo tg it v>>=fun _=>assign tg env v>>=fun _=>rest it D env))
  (hU:∀{it:Value} {D:Addr} {env:Env} {Q:PySem.Fin->Shared->Prop} {Er:Value->Shared->Prop} {s:Shared},wpAny (model X.prog X.w) X.A ((compTurn E 0 it (.ref D) env).onRaise fun x=>do noteFrame x env;theTreesLotGoes x) Q Er s->wpAny (model X.prog X.w) (X.A.under (.compLoop E 0 it (.ref D) env)) ((model X.prog X.w).den (.compLoop E 0 it (.ref D) env)) Q Er s)
  (hsz:sizeOk dt) (hob:∀(H:Hp) (h:Heap),hV X.prog X.w (upd H h.objs.size oH) (h.push {cls:=.type T0,dict:=none,data:=dt}) h.objs.size oH)
  (hm0:∀{al:Mu} {H2:Hp} {p:Addr},bP X.K al H2->H2 p=none->X.K.lookup p=none->(p==sysModules)=false->bP X.K (mk0 al p) (upd H2 p oH)/\Ext X.K al H2 (mk0 al p) (upd H2 p oH))
  (hbd:∀{fp:List Addr} {s3:Shared} {H3:Hp} {pins:List (Addr×Obj)} {s:Shared} {Z:St} {H:Hp} {ρ:Rho} {U:Mu} {p:Addr} {d:PyData} {it:Value} {Qm:Mu->Prop} {Q:Shared->Prop},Inv (aM X N' scope cl fp s3 H3) pins Z H s->St0 X.K H ρ U Z->Kb p d ρ U Qm ->
   (∀s' ca H' ad,Inv (aM X N' scope cl fp s3 H3) pins ca H' s'->St0 X.K H' ρ ad ca->Ext X.K U H ad H'->Qm ad->Q s') ->
   wpAny (model X.prog X.w) X.A (rest it p (aM X N' scope cl fp s3 H3).env) (fun r s'=>r = .again (.compLoop E 0 it (.ref p) (aM X N' scope cl fp s3 H3).env)/\Q s') (fun _ _=>False) s)
  (hte:∀ρ U Qd,te ρ U Qd->src ρ U fun xs al=>∀p,al p=none->al.b p=none->∃P:Nat->Mu->Prop,P 0 (mk0 al p)/\(∀i x ad,xs[i]? = some x->P i ad->g (.v x) (dh cap ρ) ad fun dl am=>Le (dh cap ρ) dl/\Kb p x dl am (P (i+1)))/\∀ad,P xs.length ad->fin Qd al p ad)
  (hend:∀{Qd:DK} {Z:St} {ρ:Rho} {p:Addr} {U al gV:Mu} {H H1 Hc:Hp},al p=none->al.b p=none->Ext X.K U H al H1->St0 X.K H1 ρ al Z->Ext X.K al H1 gV Hc->bP X.K gV Hc->fin Qd al p gV->∃d ld,Ext X.K U H ld Hc/\St0 X.K Hc ρ ld Z/\RpD X.K ld Hc d (.ref p)/\Qd d ld) :
  Core X E scope (newObj (.type T0) dt) gc.iter te:=by
 intro pos use QQ pins s Z H ρ U Qd I S h hd0
 obtain⟨wi,pw,li⟩:=hi
 refine wpAny_comprehension_free hE hs hclos hC.kind hC.nms (thn (pw pins s Z H _ I (li Z H ρ U _ (fun J H1=>∃xs al,Ext X.K U H al H1/\St0 X.K H1 ρ al Z/\NC X.K J xs al H1/\∀p,al p=none->al.b p=none->∃P:Nat->Mu->Prop,P 0 (mk0 al p)/\(∀i x ad,xs[i]? = some x->P i ad->g (.v x) (dh cap ρ) ad fun dl am=>Le (dh cap ρ) dl/\Kb p x dl am (P (i+1)))/\∀ad,P xs.length ad->fin Qd al p ad) S (hte _ _ _ h) (fun xs al H1 J e1 S1 it q=>⟨xs,al,e1,S1,it,q⟩)))
  fun v s1 h1=>thn h1 fun itv s2 h2=>?_)
 obtain⟨it,fp,tn,J,H2,rfl,I2,T,st2,f2,xs,al,e1,S1,itok,allp⟩:=h2
 refine wpAny_newObj_type (wpAny_newFunctionEnv hC.cell (by intro y hy;simp at hy) (fun kw pd po=>?_) hC.kind) hsz
 dsimp only at pd po ⊢
 have hfree2:H2 s2.heap.objs.size=none:=I2.hok.fresh (le_refl _)
 have hK2:X.K.lookup s2.heap.objs.size=none:=by
  cases z:X.K.lookup s2.heap.objs.size with
  |none=>rfl
  |some o=>exact absurd (Heap.lt_size (I2.kIn _ _ z)) (lt_irrefl _)
 have I3:Inv X pins Z (upd H2 s2.heap.objs.size oH) {s2 with heap:=s2.heap.push {cls:=.type T0,dict:=none,data:=dt}}:=
  I2.laid (t':=s2.toks) (fun b u e=>Heap.get?_push_of_some _ e) (le_refl _) (hob _ _)
 generalize hH:s2.heap.push {cls:=.type T0,dict:=none,data:=dt} = hp3 at pd po I3 ⊢
 have hsz3:hp3.objs.size=s2.heap.objs.size+1:=by rw[<- hH,Heap.size_push]
 have kept3:∀b o,hp3.get? b=some o->kw.get? b=some o:=fun b o e=>po.extBut b o (ne_of_lt (Heap.lt_size e)) (Heap.get?_push_of_some _ e)
 have old3:∀b o,s2.heap.get? b=some o->hp3.get? b=some o:=fun b o e=>by rw[<- hH];exact Heap.get?_push_of_some _ e
 have fplt:∀b∈fp,b<s2.heap.objs.size:=fun b hb=>by obtain⟨o,e,_⟩:=T.obj 0 _ st2 b hb;exact Heap.lt_size e
 have fpst:∀b∈fp,b ∉ frs X.stack:=fun b hb hz=>by
  rcases List.mem_cons.mp (I2.Bk b hz) with e|e
  ·exact (f2 b hb).2.1 e
  ·exact (f2 b hb).2.2.1 e
 obtain⟨s3,hs3⟩:∃s3:Shared,s3={s2 with heap:=hp3}:=⟨_,rfl⟩
 obtain⟨H3,hH3⟩:∃H3:Hp,H3=upd H2 s2.heap.objs.size oH:=⟨_,rfl⟩
 have heap3:s3.heap=hp3:=by rw[hs3]
 rw[<- hH3] at I3
 have I3':Inv X pins Z H3 s3:=by rw[hs3];exact I3
 have hloc:H3 hp3.objs.size=none:=by have:=I3'.hok.fresh (a:=hp3.objs.size) (by rw[heap3];exact le_refl _);exact this
 have okc:(aM X N' scope cl fp s3 H3).Ok:=by
  refine⟨I3.ok.mod,?_,I3.ok.glob,I3.ok.blt,le_refl _,fun x y a h1 h2=>I3.ok.inj x y a (hC.sub x a h1) (hC.sub y a h2),fun x hx=>hC.has x hx,fun x a h=>(nomatch h),I3.ok.hd,I3.ok.qt,I3.ok.frames,.inl rfl,fun b hb=>⟨?_,fun x a h=>(f2 b hb).2.2.2.2.1 x a (hC.sub x a h)⟩,
   I3'.bs,le_trans I3.ok.bsz I3'.sz,fun b o e hb=>?_,fun b hb=>fpst b hb,I3'.stack,I3'.G0⟩
  ·exact hC.kind
  ·show b≠s3.heap.objs.size
   rw[heap3,hsz3]
   exact ne_of_lt (Nat.lt_succ_of_lt (fplt b hb))
  ·rcases (f2 b hb).2.2.2.1 with z|z
   ·exact I3.ok.LI b o e z
   ·exact absurd (lt_of_lt_of_le (Heap.lt_size (I3.ok.bs b o e).1) z) (lt_irrefl _)
 have I4:Inv (aM X N' scope cl fp s3 H3) [] (dh cap Z) H3 {s2 with heap:=kw,toks:=s2.toks+([]:List (Str×Value)).length}:=by
  refine⟨okc,by show s2.os=s3.os;rw[hs3],I3.bare,Un.kept (by show ∀b o,s3.heap.get? b=some o->_;rw[heap3];exact kept3),⟨_,(by show kw.Ns s3.heap.objs.size _;rw[heap3];exact pd),fun i x v e1 e2 e3=>?_⟩,fun x a h=>?_,(by show H3 s3.heap.objs.size=none;rw[heap3];exact hloc),fun x a h=>I3.pB x a (hC.sub x a h),fun p hp=>?_,I3.hok.kept kept3,?_⟩
  ·obtain⟨j,h1,h2⟩:=D9 e2
   obtain⟨hN,hv,hnl,hk⟩:=hC.cap i j x h1 e1
   obtain⟨m,_,hl⟩:=I3.loc
   obtain⟨u,r,lk⟩:=hl j x v hN h2 hv
   refine⟨u,r,.inr ⟨hk,?_⟩⟩
   obtain⟨a,ha⟩:=hC.has x hk
   rcases lk with ⟨z,_⟩|⟨_,a',z1,z2⟩
   ·exact absurd z hnl
   ·have:a'=a:=by have q:=hC.sub x a ha;rw[z1] at q;exact Option.some.inj q
    subst this
    obtain⟨o,ho,hd⟩:=z2
    exact⟨a',ha,o,kept3 _ _ ho,hd⟩
  ·obtain⟨v,o,ho,hd⟩:=I3.cell x a (hC.sub x a h)
   exact⟨v,o,kept3 _ _ ho,hd⟩
  ·have hp':p∈X.pn++pins:=mem_append_left _ (by simpa using (show p∈X.pn++[] from hp))
   obtain⟨z1,z2,z3,z4,z5⟩:=I3'.pin p hp'
   refine⟨kept3 _ _ (by rw[<- heap3];exact z1),z2,(show p.1≠s3.heap.objs.size from ne_of_lt (Heap.lt_size z1)),fun z=>?_,z5⟩
   rcases List.mem_cons.mp (I3'.Bk p.1 z) with e|e
   ·exact z3 e
   ·exact z4 e
  ·show (dh cap Z).length=N'.length
   unfold dh
   rw[length_map]
   exact hC.len
 have lv:al s2.heap.objs.size=none:=S1.mu.free hfree2
 have v4:al.b s2.heap.objs.size=none:=S1.mu.J6 hfree2
 obtain⟨P,p0,body,hfin⟩:=allp s2.heap.objs.size lv v4
 obtain⟨m0,x0⟩:=hm0 S1.mu hfree2 hK2 (L7 I2)
 have loop:codeAny (model X.prog X.w) X.A (.compLoop E 0 (.ref it) (.ref s2.heap.objs.size) (aM X N' scope cl fp s3 H3).env)
   (compPost (model X.prog X.w) X.A X.xe use QQ (.ref s2.heap.objs.size) hp3.objs.size) {s2 with heap:=kw,toks:=s2.toks+([]:List (Str×Value)).length}:=by
  refine codeAny_loop rfl (fun n s'=>∃(i:Nat) (ii:St) (Hc:Hp) (gV:Mu),n=xs.length-i/\i<=xs.length/\Inv (aM X N' scope cl fp s3 H3) [] ii Hc s'/\tn i s'.heap/\(∀b∈fp,Hc b=none) /\
   P i gV/\St0 X.K Hc (dh cap ρ) gV ii/\Ext X.K al H2 gV Hc) (fun n s' hI=>?_) xs.length
   ⟨0,dh cap Z,H3,mk0 al s2.heap.objs.size,by simp,zero_le _,I4,T.keep 0 _ _ st2 (fun b hb o e=>kept3 b o (old3 b o e)),fun b hb=>?_,p0,?_,?_⟩
  ·obtain⟨i,ii,Hc,gV,rfl,hi,Ic,tc,frc,pvi,Sc,Ec⟩:=hI
   refine hU ?_
   refine wpAny_noted ?_
   rw[hT]
   have stat:∀{Hd:Hp},(∀b∈fp,Hd b=none)->∀b∈fp,x5 (aM X N' scope cl fp s3 H3) [] Hd b:=fun hn b hb=>
    ⟨hn b hb,(okc.exf b hb).1,fpst b hb,.inl hb,fun x a h=>(okc.exf b hb).2 x a h,fun p hp=>(f2 b hb).2.2.2.2.2 p (mem_append_left _ (by simpa using (show p∈X.pn++[] from hp)))⟩
   obtain⟨go,stop⟩:=itok _ Hc Ec Sc.mu i
   refine wpAny_bind (wpAny_standAt (wpAny_bind ?_))
   by_cases hlt:i<xs.length
   ·obtain⟨g1,y1⟩:=go hlt
    refine wpAny_mono (T.item (aM X N' scope cl fp s3 H3) rfl rfl rfl (fun z=>z) i [] s' ii Hc (fun _ _=>False) Ic (stat frc) tc g1) (fun r s4 hr=>?_) fun _ _ h'=>h'.elim
    obtain⟨u,rfl,h4⟩:=hr
    refine wpAny_bind (wpAny_mono h4 (fun _ s5 h5=>?_) fun _ _ h'=>h'.elim)
    obtain⟨x,H5,I5,r5,y5,st5,fr5⟩:=h5
    obtain⟨d,hd,sm,rd⟩:=y1 x H5 y5
    have I5':=I5.pinned (stat fr5) (T.obj _ _ st5)
    have e5:Ext X.K _ Hc _ H5:=.of_same (U:=gV) sm
    have S5:St0 X.K H5 (dh cap ρ) gV ii:=⟨Sc.mu.NH e5 sm,Sc.rho.ext Sc.mu e5⟩
    obtain⟨gt,pg,lg⟩:=hg fp s3 H3
    refine wpAny_bind (wpAny_mono (pg _ s5 ii H5 x u (fun ca H'=>∃ce ad,Ext X.K gV H5 ad H'/\St0 X.K H' ce ad ca/\Le (dh cap ρ) ce/\Kb s2.heap.objs.size d ce ad (P (i+1))) I5' r5
     (lg ii H5 (dh cap ρ) _ (.v d) x _ _ S5 rd (body i d gV hd pvi) fun ca ce ad H' e' S' q=>⟨ce,ad,e',S',q⟩)) (fun _ s6 h6=>?_) fun _ _ h'=>h'.elim)
    obtain⟨re,H6,I6,xz,u8,e6,S6,le6,q6⟩:=h6
    refine wpAny_mono (hbd (it:=.ref it) (Q:=fun s9=>∃m,m<xs.length-i/\∃(i:Nat) (ii:St) (Hc:Hp) (gV:Mu),m=xs.length-i/\i<=xs.length/\Inv (aM X N' scope cl fp s3 H3) [] ii Hc s9/\tn i s9.heap/\(∀b∈fp,Hc b=none) /\
     P i gV/\St0 X.K Hc (dh cap ρ) gV ii/\Ext X.K al H2 gV Hc) I6 S6 q6 fun s9 wE H9 tt I9 S9 e9 p9=>?_) (fun r s9 hr=>?_) fun _ _ h'=>h'.elim
    ·refine⟨xs.length-(i+1),∅,i+1,wE,H9,tt,rfl,hlt,I9.kM,T.keep _ _ _ st5 fun b hb o e=>(I9.pin (b,o) (mem_append_right _ (mem_append_right _ (eX hb e)))).1,fun b hb=>?_,p9,⟨S9.mu,S9.rho.le le6⟩,Ec.trans (e5.trans (e6.trans e9))⟩
     obtain⟨o,e,_⟩:=T.obj _ _ st5 b hb
     exact (I9.pin (b,o) (mem_append_right _ (mem_append_right _ (eX hb e)))).2.1
    ·obtain⟨rfl,q⟩:=hr
     exact⟨rfl,q⟩
   ·have ei:i=xs.length:=by omega
    subst ei
    refine wpAny_mono (T.done (aM X N' scope cl fp s3 H3) rfl rfl rfl (fun z=>z) _ [] s' ii Hc (fun _ _=>False) Ic (stat frc) tc (stop rfl)) (fun r s4 hr=>?_) fun _ _ h'=>h'.elim
    obtain⟨rfl,I5⟩:=hr
    refine wpAny_pure ?_
    obtain⟨m,hn,_⟩:=I5.loc
    have hcC:Hc hp3.objs.size=none:=by have z:Hc s3.heap.objs.size=none:=I5.free;rw[heap3] at z;exact z
    obtain⟨d,ld,eF,SF,rF,qF⟩:=hend lv v4 e1 S1 Ec Sc.mu (hfin _ pvi)
    refine hd0 s4 Hc hp3.objs.size s2.heap.objs.size m d ld (by have z:s4.heap.Ns s3.heap.objs.size m:=hn;rw[heap3] at z;exact z) (I2.L8 (by rw[hsz3];exact Nat.le_succ _) hcC) (fun h' hs'=>?_) eF SF rF qF
    have kp:∀b o,b<s2.heap.objs.size->s4.heap.get? b=some o->h'.get? b=some o:=fun b o hb e=>hs'.extBut b o (by rw[hsz3];exact ne_of_lt (Nat.lt_succ_of_lt hb)) e
    have hok':HOk X.prog X.w Hc h':=fun b ob e=>by
     refine (I5.hok b ob e).CN (fun cc v hcc q=>hs'.extBut cc v ?_ q) (fun _ q=>q) fun _ _ q=>q
     rintro rfl
     rcases hcc with z|z
     ·rw[<- z,hcC] at e;cases e
     ·rw[hcC] at z;cases z
    have u1:Un (frs X.stack) fp H2 H3 s2.heap s3.heap:=by rw[heap3,hH3];exact Un.laid old3 (le_refl _) hfree2
    have u2:Un (frs X.stack) fp H3 Hc s3.heap s4.heap:=I5.base
    exact I2.Ot (ch:=fp) (by show s4.os=s2.os;have z:s4.os=s3.os:=I5.os;rw[z,hs3]) (Un.after (u1.trans u2) kp) hok' I5.bare fun b hb=>⟨(f2 b hb).2.2.2.1,(f2 b hb).2.1,(f2 b hb).2.2.2.2.1,(f2 b hb).2.2.2.2.2⟩
  ·have z:b≠s2.heap.objs.size:=ne_of_lt (fplt b hb)
   rw[hH3,aU z]
   exact (f2 b hb).1
  ·rw[hH3]
   exact⟨m0,(S1.rho.ext S1.mu x0).cap⟩
  ·rw[hH3]
   exact x0
 have envE:(aM X N' scope cl fp s3 H3).env=compEnvC scope cl hp3.objs.size X.env:=by show compEnvC scope cl s3.heap.objs.size X.env=_;rw[heap3]
 rw[envE] at loop
 exact hst loop (T.self X.A 0 _ _ _ (T.keep 0 _ _ st2 (fun b hb o e=>kept3 b o (old3 b o e))) loop)
theorem D8{X:Cx}{N':List Str}{scope:Scope}{cl:List (Str×Addr)}{cap:List (Option Nat)}
  (h1:∀y∈scope.names,y.2≠.cell:=by decide +kernel) (h2:scope.kind = .function:=by rfl) (h3:∀y∈scope.names,y.2 = .local->scope.names.lookup y.1=some .local:=by decide +kernel)
  (h4:∀x a,cl.lookup x=some a->X.env.cells.lookup x=some a:=by intro _ _ h;first|exact h|exact cl1 h|exact cl2 nofun h|exact cl3 nofun h|exact cl_of (cl_c rfl cl_n) _ _ h|exact cl_of (cl_c rfl (cl_c rfl cl_n)) _ _ h|exact cl_of (cl_c rfl (cl_c rfl (cl_c rfl cl_n))) _ _ h|exact cl_of cl_n _ _ h|cases h)
  (h5:∀x,(relabel scope X.env).names.lookup x=some .cell\/(relabel scope X.env).names.lookup x=some .free->∃a,cl.lookup x=some a:=by exact Qn rfl) (h6:cap.length=N'.length:=by rfl)
  (h7:∀(i j:Nat) (x:Str),cap[i]? = some (some j)->N'[i]? = some x->X.N[j]? = some x/\Vis X.env.scope x/\X.env.kindOf x≠some .local/\((relabel scope X.env).names.lookup x=some .cell\/(relabel scope X.env).names.lookup x=some .free):=by exact FW (by repeat' first|exact trivial|refine⟨SQ,?_⟩)):CH X N' scope cl cap:=⟨h1,h2,h3,h4,h5,h6,h7⟩
section
variable {X:Cx}{N':List Str}{scope:Scope}{cl:List (Str×Addr)}{iter tg:Expr}{ifs:List Expr}{pos:Pos}{cap:List (Option Nat)}{src:DTI}{g:DTG}{c:DTT}
theorem Af{elt:Expr}{te:DTE}(hclos:closureFor scope X.env=pure cl)(hi:DI X tg iter src)(hg:∀fp bi bv,DG (aM X N' scope cl fp bi bv) tg g)(hif:∀fp bi bv,yX (aM X N' scope cl fp bi bv) ifs c)(he:∀fp bi bv,DE (aM X N' scope cl fp bi bv) elt te)
  (hC:CH X N' scope cl cap) (hs:∀x,foldedSetIterable iter X.env x=pure x):Core X (.ListComp elt [⟨tg,iter,ifs,0⟩] scope pos) scope (newList []) iter (qi cap src g c te):=by
 refine Fn (gc:=⟨tg,iter,ifs,0⟩) (oH:=.lst []) (mk0:=fun U p=>aW U p [])
  (Kb:=fun p _ ρ U R=>upT c ρ U fun b ci=>if b=true then upE te ρ ci fun d dL=>∃acc y,dL p=some acc/\acc.length<=1000/\d = .v y/\R (aW dL p (acc++[y])) else R ci)
  (fin:=fun Qd _ p ad=>∃acc,ad p=some acc/\Qd (.v (.list acc)) (mn ad p))
  hclos hC (Eh hi) (fun a b c=>Hl (hg a b c)) rfl hs codeAny_compStart_list (fun it D env=>compTurn_list elt tg iter ifs scope pos it (.ref D) env) (fun h=>h) (zero_le _) (fun H h=>⟨zero_le _,[],0,.nil,Heap.get?_push_size _ rfl⟩)
  (fun m f k _=>⟨m.mut .nil f k,rR m f k⟩) ?_ ?_ ?_
 ·intro fp s3 H3 pins s Z H ρ U p d it Qm Q I S q k
  refine wpAny_bind (wpAny_mono (BI (hif fp s3 H3) pins s Z H ρ U _ (fun b H'=>∃ad,Ext X.K U H ad H'/\St0 X.K H' ρ ad Z/\if b=true then upE te ρ ad fun d dL=>∃acc y,dL p=some acc/\acc.length<=1000/\d = .v y/\Qm (aW dL p (acc++[y])) else Qm ad) I S q fun b ad H' e' S' q=>⟨ad,e',S',q⟩)
   (fun ok s7 h7=>?_) fun _ _ h'=>h'.elim)
  obtain⟨H7,I7,wP,e7,S7,q7⟩:=h7
  cases ok with
  |false=>
   rw[if_neg ⋯] at q7
   exact wpAny_pure ⟨rfl,k _ _ _ _ I7 S7 e7 q7⟩
  |true=>
   rw[if_pos rfl] at q7
   refine wpAny_bind (wpAny_bind (wpAny_mono ((Hh (he fp s3 H3)).use I7 S7 q7) (fun v s8 h8=>?_) fun _ _ h'=>h'.elim))
   obtain⟨d',v8,tj,H8,I8,r8,e8,S8,ry,acc,y,pa,hle,rfl,q8⟩:=h8
   obtain⟨us,hacc,rus⟩:=S8.mu.lst p _ pa
   refine wpAny_bind (wpAny_mono (uD (X:=aM X N' scope cl fp s3 H3) _ s8 Z H8 (.ref p) [v8] (.ref p) [v] (fun _ H'=>H'=upd H8 p (.lst (us++[v8]))) I8 rfl (.cons r8 .nil) ⟨_,us,v8,rfl,rfl,hacc,by rw[<- rus.length];exact gx hle,rfl⟩) (fun _ s9 h9=>?_) fun _ _ h'=>h'.elim)
   obtain⟨_,H9,I9,_,e9⟩:=h9
   subst e9
   have ex:Ext X.K tj H8 (aW tj p (acc++[y])) (upd H8 p (.lst (us++[v8]))):=lN pa
   exact wpAny_pure (wpAny_pure ⟨rfl,k _ _ _ _ I9 ⟨S8.mu.set pa (rus.append (.cons ry .nil)),S8.rho.ext S8.mu ex⟩ (e7.trans (e8.trans ex)) q8⟩)
 ·intro ρ U Qd h
  refine⟨_,h,fun xs al hx p hp _=>?_⟩
  obtain⟨hl,f⟩:=hx
  obtain⟨Pv,p0,body,fin⟩:=f p hp
  refine⟨fun i ad=>∃acc,ad p=some acc/\acc.length<=i/\Pv i acc ad,⟨[],aV,le_refl _,p0⟩,fun i x ad hx hP=>?_,fun ad hP=>?_⟩
  ·obtain⟨acc,e,l,v⟩:=hP
   have li:i<xs.length:=(List.getElem?_eq_some_iff.mp hx).1
   refine⟨_,body i x acc ad hx e v,fun dl am hq=>⟨hq.1,_,hq.2,fun b ci r=>?_⟩⟩
   cases b with
   |false=>
    rw[if_neg ⋯] at r ⊢
    exact⟨acc,r.1,Nat.le_succ_of_le l,r.2⟩
   |true=>
    rw[if_pos rfl] at r ⊢
    refine⟨_,r,fun d dL hm=>?_⟩
    obtain⟨e4,m⟩:=hm
    split at m
    ·exact⟨acc,_,e4,∅,rfl,_,aV,by rw[length_append];exact Nat.succ_le_succ l,m⟩
    ·exact m.elim
  ·obtain⟨acc,e,_,v⟩:=hP
   exact⟨acc,e,fin acc ad v e⟩
 ·intro Qd Z ρ p U al gV H H1 Hc lv _ e1 S1 Ec Sc hF
  obtain⟨acc,hpa,q⟩:=hF
  obtain⟨us,hacc,rus⟩:=Sc.lst p _ hpa
  have shr:∀a,gV a=none->mn gV p a=none:=fun a e=>by
   by_cases z:a=p
   ·rw[z];exact jm
   ·rw[nG z];exact e
  have dne:∀a ds,mn gV p a=some ds->gV a=some ds:=fun a ds e=>by
   by_cases z:a=p
   ·rw[z,jm] at e;cases e
   ·rw[nG z] at e;exact e
  have eF:Ext X.K al H1 (mn gV p) Hc:=by
   refine⟨Ec.keep,Ec.tb,fun b ds q=>?_,fun b q z=>shr b (Ec.fresh b q z),Ec.st,fun b c q=>Ec.bx b c q⟩
   obtain⟨es,q2⟩:=Ec.dom b ds q
   have:b≠p:=fun z=>by rw[z,lv] at q;cases q
   exact⟨es,by rw[nG this];exact q2⟩
  have mF:bP X.K (mn gV p) Hc:=⟨fun a ds q=>by
   obtain⟨ys,z1,z2⟩:=Sc.lst a ds (dne a ds q)
   exact⟨ys,z1,z2.shrink shr⟩,Sc.tab,fun a c q=>let ⟨z,o,w1,w2⟩:=Sc.box a c q;⟨z,o,w1,w2.shrink shr⟩⟩
  exact⟨.v (.list acc),_,e1.trans eF,⟨mF,S1.rho.ext S1.mu eF⟩,Rp.list hacc jm (rus.shrink shr),q⟩
theorem Jf{kx vx:Expr}{tk tv:DTE}(hclos:closureFor scope X.env=pure cl)(hu:X.A.units+64<cLine)(hi:DI X tg iter src)(hg:∀fp bi bv,DG (aM X N' scope cl fp bi bv) tg g)(hif:∀fp bi bv,yX (aM X N' scope cl fp bi bv) ifs c)(hkx:∀fp bi bv,DE (aM X N' scope cl fp bi bv) kx tk)(hvx:∀fp bi bv,DE (aM X N' scope cl fp bi bv) vx tv)
  (hC:CH X N' scope cl cap) (hs:∀x,foldedSetIterable iter X.env x=pure x):Core X (.DictComp kx vx [⟨tg,iter,ifs,0⟩] scope pos) scope newDict iter (xK cap src g c tk tv):=by
 refine Fn (gc:=⟨tg,iter,ifs,0⟩) (oH:=.raw {cls:=.type "dict",dict:=none,data:=.dict #[]}) (mk0:=fun U p=>ck U p (.dict []))
  (Kb:=fun p _ ρ U R=>upT c ρ U fun b ci=>if b=true then upE tk ρ ci fun dk dL=>upE tv ρ dL fun dv gl=>∃kvs kk y,gl.b p=some (.dict kvs)/\kvs.length<=1000/\ue dk=some kk/\dv = .v y/\R (ck gl p (.dict (nV kvs kk y))) else R ci)
  (fin:=fun Qd _ p ad=>(∃c,ad.b p=some c)/\Qd (.b p) ad)
  hclos hC (Eh hi) (fun a b c=>Hl (hg a b c)) rfl hs codeAny_compStart_dict (fun it D env=>compTurn_dict kx vx tg iter ifs scope pos it D env) (fun h=>h) (zero_le _) (fun H h=>Heap.get?_push_size _ rfl)
  (fun m f _ z=>⟨m.K5 z f (Jj rfl),pS m f⟩) ?_ ?_ (fun {_ _ _ p _ _ _ _ _ _} _ _ e1 S1 Ec Sc hF=>⟨.b p,_,e1.trans Ec,⟨Sc,S1.rho.ext S1.mu Ec⟩,⟨rfl,hF.1⟩,hF.2⟩)
 ·intro fp s3 H3 pins s Z H ρ U p d it Qm Q I S q k
  refine wpAny_bind (wpAny_mono (BI (hif fp s3 H3) pins s Z H ρ U _ (fun b H'=>∃ad,Ext X.K U H ad H'/\St0 X.K H' ρ ad Z/\if b=true then upE tk ρ ad fun dk dL=>upE tv ρ dL fun dv gl=>∃kvs kk y,gl.b p=some (.dict kvs)/\kvs.length<=1000/\ue dk=some kk/\dv = .v y/\Qm (ck gl p (.dict (nV kvs kk y))) else Qm ad) I S q fun b ad H' e' S' q=>⟨ad,e',S',q⟩)
   (fun ok s7 h7=>?_) fun _ _ h'=>h'.elim)
  obtain⟨H7,I7,wP,e7,S7,q7⟩:=h7
  cases ok with
  |false=>
   rw[if_neg ⋯] at q7
   exact wpAny_pure ⟨rfl,k _ _ _ _ I7 S7 e7 q7⟩
  |true=>
   rw[if_pos rfl] at q7
   refine wpAny_bind (wpAny_bind (wpAny_mono ((Hh (hkx fp s3 H3)).use I7 S7 q7) (fun v s8 h8=>?_) fun _ _ h'=>h'.elim))
   obtain⟨dk,uk,tj,H8,I8,rk,e8,S8,rdk,q9⟩:=h8
   refine wpAny_bind (wpAny_holding (wpAny_mono ((Hh (hvx fp s3 H3)).use I8 S8 q9) (fun v' s9 h9=>?_) fun _ _ h'=>h'.elim))
   obtain⟨dv,uv,tt,H9,I9,rv,e9,S9,rdv,kvs,kk,y,hb0,hle,hk,ev,q10⟩:=h9
   subst ev
   obtain⟨qk,rfl,hq8⟩:=wd rdk hk
   have hq:SqT X.K H9 qk (kk.map V.int):=lu S8.mu e9 hq8
   cases rk
   obtain⟨ns,ob,hr,hb⟩:=S9.mu.box p _ hb0
   obtain⟨es,dp,dd,len⟩:=wt I9 hr hb
   refine wpAny_bind (wpAny_standAt (wpAny_holding (wpAny_mono (wpAny_dictSet_heap (hsz:=len) (show X.A.units<cLine by omega) (jA I9 hq) dd (Q:=fun _ s'=>Q s') fun h' dd' sb=>?_) (fun _ s' h=>wpAny_pure ⟨rfl,h⟩) fun _ _ h'=>h')))
   have hl:(nV kvs kk y).length<=sizeLine:=by
    have h1:=Dz kvs kk y
    rw[sizeLine_eq];omega
   obtain⟨o',g1,g2⟩:=Ir (X:=X) (U:=tt) (H:=H9) hl (dp.put hq rdv rv) dd'
   have exx:=B9 (K:=X.K) (U:=tt) (c:=.dict (nV kvs kk y)) (o':=o') hr
   exact k _ _ _ _ (G4 (ob:=.raw o') I9 (by rw[hr];exact True.intro) sb ⟨o',g1⟩ g1) ⟨S9.mu.Kx ns hr g2,S9.rho.ext S9.mu exx⟩ (e7.trans (e8.trans (e9.trans exx))) q10
 ·intro ρ U Qd h
  refine⟨_,h,fun xs al hx p _ hp=>?_⟩
  obtain⟨hl,f,body,fin⟩:=hx
  have ll:∀i,(putAll ((xs.take i).filterMap f)).length<=1000:=fun i=>le_trans (GJ _) (le_trans (List.length_filterMap_le _ _) (le_trans (by rw[length_take];exact Nat.min_le_right _ _) hl))
  refine⟨fun i ad=>ad=ck al p (.dict (putAll ((xs.take i).filterMap f))),rfl,fun i x ad hx hP=>?_,fun ad hP=>?_⟩
  ·subst hP
   refine⟨_,body x (mem_of_getElem? hx) _ (fun a ds e=>e),fun dl am hq=>⟨hq.1,_,hq.2,fun b ci r=>?_⟩⟩
   cases b with
   |false=>
    rw[if_neg ⋯] at r ⊢
    show _=ck _ _ _
    rw[r.1,EY hx,r.2]
    simp
   |true=>
    rw[if_pos rfl] at r ⊢
    refine⟨_,r,fun dk dL hm=>⟨_,hm,fun dv gl hv=>?_⟩⟩
    obtain⟨rfl,kk,y,hk,ev,fy⟩:=hv
    refine⟨_,kk,y,bK,ll i,hk,ev,?_⟩
    show ck _ _ _=ck _ _ _
    rw[EY hx,fy]
    show ck _ _ _=ck _ _ (.dict (putAll (_++[(kk,y)])))
    rw[putAll_snoc,Iq]
  ·subst hP
   rw[take_length]
   exact⟨⟨_,bK⟩,fin p hp⟩
end
theorem KS{X:Cx}{N':List Str}{scope:Scope}{cl:List (Str×Addr)}{elt iter tg tg2 iter2:Expr}{pos:Pos}{cap:List (Option Nat)}{src src2:DTI}{g g2:DTG}{te:DTE}(hclos:closureFor scope X.env=pure cl)
  (hi:DI X tg iter src) (hg:∀fp bi bv,DG (aM X N' scope cl fp bi bv) tg g) (hi2:∀fp bi bv,DI (aM X N' scope cl fp bi bv) tg2 iter2 src2) (hg2:∀fp bi bv,DG (aM X N' scope cl fp bi bv) tg2 g2) (he:∀fp bi bv,DE (aM X N' scope cl fp bi bv) elt te)
  (hC:CH X N' scope cl cap) (hs:∀x,foldedSetIterable iter X.env x=pure x) (hs2:∀(env:Env) x,foldedSetIterable iter2 env x=pure x):Core X (two elt tg iter tg2 iter2 scope pos) scope (newList []) iter (xG cap src g src2 g2 te):=by
 refine Fn (gc:=⟨tg,iter,[],0⟩) (oH:=.lst []) (mk0:=fun U p=>aW U p [])
  (Kb:=fun p _ ρ U R=>∃acc zs,U p=some acc/\acc.length+zs.length<=1000/\(upI src2 ρ U fun ys ci=>ci=U/\∃h:PyData->PyData,zs=ys.map h/\∀y∈ys,∀ge:Mu,(∀a ds,a≠p->U a=some ds->ge a=some ds)->g2 (.v y) ρ ge fun lf dL=>Le ρ lf/\te lf dL fun d gl=>gl=ge/\d = .v (h y))/\R (aW U p (acc++zs)))
  (fin:=fun Qd al p ad=>∃acc,ad=aW al p acc/\Qd (.v (.list acc)) al)
  hclos hC (Eh hi) (fun a b c=>Hl (hg a b c)) rfl hs codeAny_compStart_list (fun it D env=>zf elt tg iter tg2 iter2 scope pos it (.ref D) env) (fun h=>h) (zero_le _) (fun H h=>⟨zero_le _,[],0,.nil,Heap.get?_push_size _ rfl⟩)
  (fun m f k _=>⟨m.mut .nil f k,rR m f k⟩) ?_ ?_ ?_
 ·intro fp s3 H3 pins s Z H ρ U p d it Qm Q I S q k
  obtain⟨acc,zs,hp,hl,q1,q2⟩:=q
  refine wpAny_bind (wpAny_mono (Ib (Eh (hi2 fp s3 H3)) (hg2 fp s3 H3) (he fp s3 H3) I S hp hl q1) (fun x s4 h4=>wpAny_bind (wpAny_standAt (wpAny_bind (wpAny_of_eq (hs2 _ x) (wpAny_bind (wpAny_holding (wpAny_mono h4 (fun it2 s5 h5=>wpAny_bind (wpAny_runOwn (codeAny_mono h5 fun r s6 h6=>?_))) fun _ _ h'=>h'.elim))))))) fun _ _ h'=>h'.elim)
  obtain⟨f,rfl,re,H6,I6,S6,e6⟩:=h6
  exact wpAny_pure ⟨rfl,k _ _ _ _ I6 S6 e6 q2⟩
 ·intro ρ U Qd h
  refine⟨_,h,fun xs al hx p hp _=>?_⟩
  obtain⟨hl,f,hfl,body,fin⟩:=hx
  have sub1:∀ys a ds,al a=some ds->aW al p ys a=some ds:=fun ys a ds e=>by rw[bM (fun z=>by rw[z,hp] at e;cases e)];exact e
  refine⟨fun i ad=>ad=aW al p ((xs.take i).flatMap f),rfl,fun i x ad hx hP=>?_,fun ad hP=>?_⟩
  ·subst hP
   refine⟨_,body x (mem_of_getElem? hx) _ (sub1 _),fun dl am hq=>?_⟩
   obtain⟨le,rfl,q⟩:=hq
   have et:(xs.take (i+1)).flatMap f=(xs.take i).flatMap f++f x:=by
    obtain⟨hi',e⟩:=List.getElem?_eq_some_iff.mp hx
    rw[List.take_succ_eq_append_getElem hi',List.flatMap_append,e]
    simp
   refine⟨le,_,f x,aV,?_,⟨_,q,fun ys ci hy=>?_⟩,by show aW _ _ _=aW _ _ _;rw[ku,et]⟩
   ·have h1:((xs.take (i+1)).flatMap f).length<=(xs.flatMap f).length:=by
     have:xs.flatMap f=(xs.take (i+1)).flatMap f++(xs.drop (i+1)).flatMap f:=by rw[<- List.flatMap_append,List.take_append_drop]
     rw[this,length_append]
     omega
    rw[et,length_append] at h1
    omega
   ·obtain⟨z1,h,z2,z3⟩:=hy
    refine⟨z1,h,z2,fun y hy ge sb=>z3 y hy ge fun a ds e=>?_⟩
    have ne:a≠p:=fun z=>by rw[z,hp] at e;cases e
    exact sb a ds ne (by rw[bM ne];exact e)
  ·subst hP
   rw[take_length]
   exact⟨_,rfl,fin⟩
 ·intro Qd Z ρ p U al gV H H1 Hc lv _ e1 S1 Ec Sc hF
  obtain⟨acc,rfl,q⟩:=hF
  obtain⟨us,hacc,rus⟩:=Sc.lst p _ aV
  have shr:∀a,aW al p acc a=none->al a=none:=fun a e=>by
   by_cases z:a=p
   ·rw[z];exact lv
   ·rw[bM z] at e;exact e
  have eF:Ext X.K al H1 al Hc:=by
   refine⟨Ec.keep,Ec.tb,fun b ds q=>⟨ds,q⟩,fun b q z=>q,Ec.st,fun b c q=>Ec.bx b c q⟩
  have mF:bP X.K al Hc:=⟨fun a ds q=>by
   obtain⟨ys,z1,z2⟩:=Sc.lst a ds (by rw[bM (fun z=>by rw[z,lv] at q;cases q)];exact q)
   exact⟨ys,z1,z2.shrink shr⟩,Sc.tab,fun a c q=>let ⟨z,o,w1,w2⟩:=Sc.box a c q;⟨z,o,w1,w2.shrink shr⟩⟩
  exact⟨.v (.list acc),_,e1.trans eF,⟨mF,S1.rho.ext S1.mu eF⟩,Rp.list hacc lv (rus.shrink shr),q⟩
section
variable {X:Cx}{N':List Str}{scope:Scope}{cl:List (Str×Addr)}{iter tg:Expr}{ifs:List Expr}{pos:Pos}{cap:List (Option Nat)}{src:DTI}{g:DTG}{c:DTT}
theorem Ry{elt:Expr}{te:DTE}(hclos:closureFor scope X.env=pure cl)(hi:DI X tg iter src)(hg:∀fp bi bv,DG (aM X N' scope cl fp bi bv) tg g)(hif:∀fp bi bv,yX (aM X N' scope cl fp bi bv) ifs c)(he:∀fp bi bv,DE (aM X N' scope cl fp bi bv) elt te)
  (hC:CH X N' scope cl cap:=by exact D8) (hs:∀x,foldedSetIterable iter X.env x=pure x:=by intro _;rfl):DE X (.ListComp elt [⟨tg,iter,ifs,0⟩] scope pos) (qi cap src g c te):=G2 (Af hclos hi hg hif he hC hs) (eval_ListComp _ _ _ _)
theorem uJ{elt:Expr}{te:DTE}(hclos:closureFor scope X.env=pure cl)(hi:DI X tg iter src)(hg:∀fp bi bv,DG (aM X N' scope cl fp bi bv) tg g)(hif:∀fp bi bv,yX (aM X N' scope cl fp bi bv) ifs c)(he:∀fp bi bv,DE (aM X N' scope cl fp bi bv) elt te)
  (hC:CH X N' scope cl cap:=by exact D8) (hs:∀x,foldedSetIterable iter X.env x=pure x:=by intro _;rfl):DE X (.ListComp elt [⟨tg,iter,ifs,0⟩] scope pos) (nX cap src g c te):=
 Sg (Ry hclos (Eh hi) (fun a b c=>Hl (hg a b c)) (fun a b c=>BI (hif a b c)) (fun a b c=>Hh (he a b c)) hC hs) fun _ _ _=>Iz
theorem ON{i:Nat}{x:Str}{pos' spos:Pos}{elt:Expr}{te:DTE}(hN:X.N.Nodup)(hix:X.N[i]? = some x)(hx:X.env.scope.names.lookup x=some .local)(hclos:closureFor scope X.env=pure cl)(hi:DI X tg iter src)(hg:∀fp bi bv,DG (aM X N' scope cl fp bi bv) tg g)(hif:∀fp bi bv,yX (aM X N' scope cl fp bi bv) ifs c)(he:∀fp bi bv,DE (aM X N' scope cl fp bi bv) elt te)
  (hC:CH X N' scope cl cap:=by exact D8) (hs:∀x,foldedSetIterable iter X.env x=pure x:=by intro _;rfl) (hsw:swapsWith (.ListComp elt [⟨tg,iter,ifs,0⟩] scope pos) (some (.Name x pos')) spos.line X.env=pure true:=by rfl):DS X (.Assign [.Name x pos'] (.ListComp elt [⟨tg,iter,ifs,0⟩] scope pos) spos) (aS (qi cap src g c te) (aq i)):=
 G6 (Af hclos hi hg hif he hC hs) hN hix hx hsw rfl
theorem OA{i:Nat}{x:Str}{pos' spos:Pos}{kx vx:Expr}{tk tv:DTE}(hN:X.N.Nodup)(hix:X.N[i]? = some x)(hx:X.env.scope.names.lookup x=some .local)(hclos:closureFor scope X.env=pure cl)(hu:X.A.units+64<cLine)(hi:DI X tg iter src)(hg:∀fp bi bv,DG (aM X N' scope cl fp bi bv) tg g)(hif:∀fp bi bv,yX (aM X N' scope cl fp bi bv) ifs c)(hkx:∀fp bi bv,DE (aM X N' scope cl fp bi bv) kx tk)(hvx:∀fp bi bv,DE (aM X N' scope cl fp bi bv) vx tv)
  (hC:CH X N' scope cl cap:=by exact D8) (hs:∀x,foldedSetIterable iter X.env x=pure x:=by intro _;rfl) (hsw:swapsWith (.DictComp kx vx [⟨tg,iter,ifs,0⟩] scope pos) (some (.Name x pos')) spos.line X.env=pure true:=by rfl):DS X (.Assign [.Name x pos'] (.DictComp kx vx [⟨tg,iter,ifs,0⟩] scope pos) spos) (aS (xK cap src g c tk tv) (aq i)):=
 G6 (Jf hclos hu hi hg hif hkx hvx hC hs) hN hix hx hsw rfl
theorem Oz{elt tg2 iter2:Expr}{src2:DTI}{g2:DTG}{te:DTE}(hclos:closureFor scope X.env=pure cl)(hi:DI X tg iter src)(hg:∀fp bi bv,DG (aM X N' scope cl fp bi bv) tg g)(hi2:∀fp bi bv,DI (aM X N' scope cl fp bi bv) tg2 iter2 src2)(hg2:∀fp bi bv,DG (aM X N' scope cl fp bi bv) tg2 g2)(he:∀fp bi bv,DE (aM X N' scope cl fp bi bv) elt te)
  (hC:CH X N' scope cl cap:=by exact D8) (hs:∀x,foldedSetIterable iter X.env x=pure x:=by intro _;rfl) (hs2:∀(env:Env) x,foldedSetIterable iter2 env x=pure x:=by intro _ _;rfl):DE X (two elt tg iter tg2 iter2 scope pos) (xG cap src g src2 g2 te):=
 G2 (KS hclos hi hg hi2 hg2 he hC hs hs2) (eval_ListComp _ _ _ _)
end
open PySem PySem.Spec PyProof.Rows NM
section
variable {U:Mu}{Q:DK}{ds:List D}{x y:N3}
theorem Ol(a b c:Int):PyData.tuple [.int a,.int b,.int c]=dN ⟨a,b,c⟩:=rfl
theorem Kv:aF (.v (dN x)) (.v (.int 0)) U Q=Q (.v (.int x.a)) U:=by unfold dN;rw[Dh]
theorem K9:aF (.v (dN x)) (.v (.int 1)) U Q=Q (.v (.int x.b)) U:=by unfold dN;rw[Bp]
theorem JV:aF (.v (dN x)) (.v (.int 2)) U Q=Q (.v (.int x.c)) U:=by unfold dN;rw[Bv]
theorem eqN:PyData.eqv (dN x) (dN y)=decide (x=y):=by
 unfold dN
 rw[Rt,Bool.eq_iff_iff]
 simp only[decide_eq_true_eq]
 exact⟨fun h=>N3.ext' h.1 h.2.1 h.2.2,fun h=>by subst h;exact⟨rfl,rfl,rfl⟩⟩
theorem HB{neg:Bool}:bZ neg (.v (dN x)) (.v (dN y)) U Q=Q (.v (.bool (neg ^^ decide (x=y)))) U:=by
 rw[LS,eqN]
 exact propext ⟨fun h=>h.2.2,fun h=>⟨rfl,rfl,h⟩⟩
theorem tE(h:Ok x):isNum (dN x)=true:=by
 have:=h.c
 show (decide (1<=x.c)&&(g3 x.a x.b x.c==1))=true
 rw[h.g]
 simp;omega
theorem Ez:Few (dN x):=by simp[dN,Few]
theorem Df{d a b c:Int}(h:aB d)(hc:0<c):sg d (low a b c).a (low a b c).b=sg d a b:=by
 obtain⟨k,hk,hs,p1,p2,p3,_⟩:=g9 a b (show c≠0 by omega)
 have e:=fj (a:=(low a b c).a) (b:=(low a b c).b) h (hs.mpr hc)
 rw[<- p1,<- p2] at e
 exact e.symm
theorem rS{d:Int}(h:aB d)(ox:Ok x)(oy:Ok y):sg d (times d x y).a (times d x y).b=sg d x.a x.b*sg d y.a y.b:=by
 unfold times
 rw[Df h (mul_pos ox.c oy.c),C6 h]
theorem vZ{d:Int}(h:aB d)(ox:Ok x)(oy:Ok y):sg d (less x y).a (less x y).b=dif d x y:=by
 unfold less dif
 rw[Df h (mul_pos ox.c oy.c)]
theorem L5{d:Int}:dif d x x=0:=by unfold dif;rw[Int.sub_self,Int.sub_self];exact b8.mpr ⟨rfl,rfl⟩
theorem LX{d a b:Int}:(sg d a b).natAbs<2 ^ 64:=by have:=jV d a b;omega
theorem AW{lo:Int}{n i:Nat}{x:PyData}(h:(mQ lo n)[i]? = some x):x = .int (lo+i)/\i<n:=by
 unfold mQ at h
 rw[getElem?_map] at h
 by_cases hi:i<n
 ·rw[List.getElem?_range hi] at h
  cases h
  exact⟨rfl,hi⟩
 ·rw[getElem?_eq_none (by simpa using hi)] at h
  cases h
theorem xS{lo:Int}{n:Nat}:(mQ lo n).length=n:=by unfold mQ;simp
end
end L2.DL
namespace NM
inductive Euc:Nat->Nat->List Nat->Prop
 |nil (r:Nat):Euc r 0 []
 |cons {r s:Nat} {cs:List Nat}:0<s->Euc s (r % s) cs->Euc r s (r / s::cs)
theorem Euc.eq{r s:Nat}{cs cs':List Nat}(h:Euc r s cs):Euc r s cs'->cs=cs':=by
 induction h generalizing cs' with
 |nil r=>
  intro g
  cases g with
  |nil=>rfl
  |cons h _=>exact absurd h ⋯
 |cons hs _ ih=>
  intro g
  cases g with
  |nil=>exact absurd hs ⋯
  |cons _ g=>rw[ih g]
theorem JJ:∀(n r s:Nat),s<=r->r*s<2 ^ n->∃cs,Euc r s cs/\cs.length<=n
 |0,r,s,h,hn=>by
  have:s=0:=by
   rcases Nat.eq_zero_or_pos s with z|z
   ·exact z
   ·have:=Nat.mul_le_mul (le_trans z h:1<=r) (z:1<=s)
    simp at hn this;omega
  subst this
  exact⟨[],.nil r,le_refl _⟩
 |n+1,r,s,h,hn=>by
  rcases Nat.eq_zero_or_pos s with z|z
  ·subst z;exact⟨[],.nil r,zero_le _⟩
  ·have hm:=mod_lt r z
   have h2:2*(r % s)<=r:=by
    have e:=div_add_mod r s
    have d1:1<=r / s:=Nat.div_pos h z
    have:=Nat.mul_le_mul_left s d1
    omega
   have hb:s*(r % s)<2 ^ n:=by
    have e1:2*(s*(r % s))=s*(2*(r % s)):=by rw[Nat.mul_left_comm]
    have e2:s*(2*(r % s))<=s*r:=Nat.mul_le_mul_left s h2
    rw[mul_comm r s,pow_succ] at hn
    omega
   obtain⟨cs,g,l⟩:=JJ n s (r % s) (Nat.le_of_lt hm) hb
   exact⟨_,.cons z g,by simpa using l⟩
noncomputable def Good:List Nat->Bool->Nat->Nat->Prop
 |[],_,_,_=>True
 |c::cs,true,a,b=>b<=a/\0<b/\c*b<=a/\Good cs false (a-c*b) b
 |c::cs,false,a,b=>a<b/\0<a/\c*a<=b/\Good cs true a (b-c*a)
theorem rB:∀(cs:List Nat) (a b:Nat),(b<=a->Euc a b cs->Good cs true a b)/\(a<b->Euc b a cs->Good cs false a b)
 |[],_,_=>⟨fun _ _=>trivial,fun _ _=>trivial⟩
 |c::cs,a,b=>by
  constructor
  ·intro h g
   cases g with
   |cons hb g=>
    have e:=div_add_mod a b
    have e1:a / b*b=b*(a / b):=mul_comm _ _
    refine⟨h,hb,∅,?_⟩
    rw[show a-a / b*b=a % b by omega]
    exact (rB cs (a % b) b).2 (mod_lt a hb) g
  ·intro h g
   cases g with
   |cons ha g=>
    have e:=div_add_mod b a
    have e1:b / a*a=a*(b / a):=mul_comm _ _
    refine⟨h,ha,∅,?_⟩
    rw[show b-b / a*a=b % a by omega]
    exact (rB cs a (b % a)).1 (Nat.le_of_lt (mod_lt b ha)) g
theorem Kt{a b:Nat}{cs:List Nat}(h:Euc (max a b) (min a b) cs):Good cs (decide (b<=a)) a b:=by
 by_cases z:b<=a
 ·rw[decide_eq_true z]
  rw[Nat.max_eq_left z,Nat.min_eq_right z] at h
  exact (rB cs a b).1 z h
 ·rw[decide_eq_false z]
  have z':a<b:=by omega
  rw[Nat.max_eq_right ∅,min_eq_left ∅] at h
  exact (rB cs a b).2 z' h
noncomputable abbrev T3:=Nat×Nat×Nat
noncomputable def mB(β:Bool)(c i j s:Nat):List T3:=(List.range c).map fun k=>if β=true then (i+k*s,j,s) else (i,j+k*s,s)
noncomputable def vT:List Nat->Bool->Nat->Nat->Nat->Nat->List T3
 |[],_,_,_,_,_=>[]
 |c::cs,true,i,j,a,b=>mB true c i j b++vT cs false (i+c*b) j (a-c*b) b
 |c::cs,false,i,j,a,b=>mB false c i j a++vT cs true i (j+c*a) a (b-c*a)
theorem vX{β:Bool}{c i j s:Nat}:(mB β c i j s).length=c:=by unfold mB;simp
theorem gN:∀(cs:List Nat) (β:Bool) (i j a b:Nat),(vT cs β i j a b).length=cs.sum
 |[],_,_,_,_,_=>rfl
 |c::cs,true,i,j,a,b=>by rw[vT];rw[length_append,vX,gN cs,sum_cons]
 |c::cs,false,i,j,a,b=>by rw[vT];rw[length_append,vX,gN cs,sum_cons]
noncomputable def Uq(d:Int)(u:N3)(i:Nat):N3:=times d u ⟨(i:Int),0,1⟩
section
variable {d:Int}{u:N3}{i j:Nat}
theorem g8(i:Int):Ok ⟨i,0,1⟩:=⟨by show (0:Int)<1;decide,by show Int.gcd (Int.gcd i 0) 1=1;exact Int.gcd_one_right _⟩
theorem bo(ou:Ok u):Ok (Uq d u i):=aZ ou (g8 i)
theorem Kd{n m:Nat}(hd:Sz 5 d)(ou:Ok u)(bu:Bd n u)(hi:i<2 ^ m)(hm:1<=m):Bd (n+m+6) (Uq d u i):=by
 have p:2<=2 ^ m:=le_trans (by decide:2<=2 ^ 1) (Nat.pow_le_pow_right ⋯ hm)
 exact fo hd ou (g8 i) bu ⟨Sz.of (by show (i:Int).natAbs<_;rw[Int.natAbs_natCast];exact hi),Sz.of (by show (0:Int).natAbs<_;simp;omega),Sz.of (by show (1:Int).natAbs<_;simp;omega)⟩
theorem i6(ou:Ok u):Rep (Uq d u i) (u.a*i) (u.b*i) u.c:=by
 have h:=(ay ou).times (d:=d) ou (g8 i) (ay (g8 i))
 have e1:u.a*(i:Int)+d*u.b*0=u.a*i:=by rw[mul_zero,Int.add_zero]
 have e2:u.a*0+u.b*(i:Int)=u.b*i:=by rw[mul_zero,Int.zero_add]
 have h':Rep (Uq d u i) (u.a*(i:Int)+d*u.b*0) (u.a*0+u.b*(i:Int)) (u.c*1):=h
 rw[e1,e2,mul_one] at h'
 exact h'
theorem Dg(ou:Ok u):plus (Uq d u i) (Uq d u j)=Uq d u (i+j):=
 Rep.eq (dj (bo ou) (bo ou)) (bo ou) ((i6 ou).plus (bo ou) (bo ou) (i6 ou)) (i6 ou) (by rw[Int.natCast_add];grind) (by rw[Int.natCast_add];grind)
theorem mX(ou:Ok u)(h:j<=i):less (Uq d u i) (Uq d u j)=Uq d u (i-j):=
 Rep.eq (eQ (bo ou) (bo ou)) (bo ou) ((i6 ou).less (bo ou) (bo ou) (i6 ou)) (i6 ou) (by rw[Int.natCast_sub h];grind) (by rw[Int.natCast_sub h];grind)
theorem wa(ou:Ok u):Uq d u 0=au:=
 Rep.eq (bo ou) ba (i6 ou) (ay ba) (by show u.a*(0:Nat)*1=0*u.c;simp) (by show u.b*(0:Nat)*1=0*u.c;simp)
theorem Kc(hd:aB d)(ou:Ok u)(su:sg d u.a u.b=1)(h:0<i):sg d (Uq d u i).a (Uq d u i).b=1:=by
 unfold Uq
 rw[oK hd ou (g8 i),su]
 have:sg d (i:Int) 0=1:=(dH hd).mpr (.inl ⟨∅,∅,∅⟩)
 rw[this];rfl
end
end NM
namespace L2.DL
open PySem PySem.Spec PyProof.Rows NM
structure Tg{α:Sort u}(x:α):Type where
noncomputable def hd{α:Sort u}(x:α)(_:Tg x):α:=x
section
variable {ρ:Rho}{U:Mu}{Q:DK}{QT:Bool->Mu->Prop}{Dd:Ej}{ta tb tc:DTE}{t u:DTT}{tA:DTA}{s1 s2:DTS}{d:D}{A B:Prop}{p:Tg A}{q:Tg B}
theorem Tz{w:Tg Q}:hd Q w d U=Q d U:=propext Iff.rfl
theorem l_T{i:Decidable True}:(if True then hd A p else hd B q)=A:=if_pos trivial
theorem l_F{i:Decidable False}:(if False then hd A p else hd B q)=B:=if_neg id
theorem l_t{i:Decidable (true=true)}:(if true=true then hd A p else hd B q)=A:=if_pos rfl
theorem l_f{i:Decidable (false=true)}:(if false=true then hd A p else hd B q)=B:=if_neg Bool.false_ne_true
theorem xB{c:Prop}{i:Decidable c}(h:c):(if c then hd A p else hd B q)=A:=if_pos h
theorem rV{c:Prop}{i:Decidable c}(h:¬ c):(if c then hd A p else hd B q)=B:=if_neg h
theorem Tt{i j:Int}{k:Decidable True}:(if True then i else j)=i:=if_pos trivial
theorem SI{i j:Int}{k:Decidable False}:(if False then i else j)=j:=if_neg id
theorem TJ{r}:dOp r ta tb ρ U Q=ta ρ U fun x al=>tb ρ al fun y am=>r x y am (hd Q .mk):=propext Iff.rfl
theorem Rl{g:DTG}:aS ta g Dd ρ U=ta ρ U (hd (fun d al=>g d ρ al Dd.nx) .mk):=propext Iff.rfl
theorem TL{rd}:dCB rd tA ρ U Q=tA ρ U fun ds al=>rd ds al (hd Q .mk):=propext Iff.rfl
theorem Pz{dsp:DSp}:av dsp tA ρ U Q=tA ρ U fun ds al=>dsp ds al (hd Q .mk):=propext Iff.rfl
theorem RO:iA t u ρ U QT=t ρ U fun c al=>if c=true then hd (QT true al) .mk else hd (u ρ al QT) .mk:=propext Iff.rfl
theorem Qh:kK ta tb ρ U Q=ta ρ U fun x al=>match x with|.v (.bool c)=>if c=true then hd (tb ρ al Q) .mk else hd (Q (.v (.bool false)) al) .mk|_=>False:=propext Iff.rfl
theorem Rq:bQ t s1 s2 Dd ρ U=t ρ U fun b al=>if b=true then hd (s1 Dd ρ al) .mk else hd (s2 Dd ρ al) .mk:=propext Iff.rfl
end
local macro_rules|`(tactic| walk_at "rn")=>mkW "↓FZ ↓F3 ↓GA ↓Ga ↓FP ↓F5 ↓Fy ↓FL ↓FF ↓Gs ↓B7 ↓q_c ↓RU ↓q_B ↓QR ↓Ju ↓L1 ↓LA ↓Oh ↓Gy ↓JQ ↓Fm ↓R4 ↓Mg ↓Gz ↓LC ↓La ↓Gb ↓Lw ↓KQ ↓Mh ↓J2 ↓KD ↓JR ↓Fv ↓Ge ↓F0 ↓Dh ↓Bp ↓Bv ↓Gu ↓zY ↓xX ↓Lb ↓JD ↓JG ↓Pm ↓ym ↓FJ ↓LF ↓Su ↓FV ↓FG ↓GB ↓Fx ↓Lc ↓Qw ↓F7 ↓BJ ↓Ku ↓Ko ↓JK ↓BF ↓Gf ↓BZ ↓FU ↓F8 ↓OE ↓KA ↓Gx ↓Hv ↓LJ ↓GG ↓OL ↓Co ↓Ke ↓Mf ↓L3 ↓FK ↓yJ ↓CC ↓yF ↓xU NG ↓xy ↓Bs Fg Fh J4 LV JZ Option.bind_none bind_some join_some List.getElem?_cons_zero List.getElem?_cons_succ aG Ol Kv K9 JV HB rj Ae Ai DF HY List.map List.append List.replicate length_cons length_nil Nat.reduceAdd Nat.reduceSub List.nil_append List.cons_append List.set_cons_zero List.set_cons_succ map_some ↓reduceIte Bool.not_true Bool.not_false false_eq_true Bool.true_eq_false xor_false false_xor"
theorem Fb{d:Int}{x y:N3}:dif d x y=NN d x y:=rfl
noncomputable def cD(d:Int):PyData->Bool
 |.tuple [.int a,.int b,.int c]=>isNum (.tuple [.int a,.int b,.int c])&&decide (sg d a b=1)
 |_=>false
noncomputable def eE:DSp:=fun ds U Q=>∃(d:Int) (t:PyData),ds=[.v (.int d),.v t]/\aB d/\Few t/\(∀x,t=dN x->Bd 8900 x)/\Q (.v (.bool (cD d t))) U
theorem C3{U:Mu}{Q:DK}{ds:List D}(h:eE ds U Q):ds.length=2:=by obtain⟨_,_,rfl,_⟩:=h;rfl
noncomputable def cQ:DSp:=fun ds U Q=>∃(d:Int) (x:N3),ds=[.v (.int d),.v (dN x)]/\aB d/\Ok x/\Bd 8900 x/\sg d x.a x.b=1/\Q (.v .none) U
theorem vP{U:Mu}{Q:DK}{ds:List D}(h:cQ ds U Q):ds.length=2:=by obtain⟨_,_,rfl,_⟩:=h;rfl
noncomputable def eV:DTS:=
 (aT (kK (av pW (af (ag 1) ar)) (dOp (bZ false) (av dI (af (ag 0) (af (ag 1) ar))) (dC (.int 1)))))
noncomputable def cV:DTS:=
 (bQ (de (dB (av eE (af (ag 0) (af (ag 1) ar))))) k6 br)
section
variable {U:Mu}{Qd:DK}{ds:List D}
theorem fG{d:Int}{x:N3}(ox:Ok x):cD d (dN x)=decide (sg d x.a x.b=1):=by
 show (isNum (dN x)&&decide (sg d x.a x.b=1))=_
 rw[tE ox,Bool.true_and]
theorem yi{d:Int}{t:PyData}(h:isNum t=false):cD d t=false:=by
 unfold cD
 split
 ·rw[h,Bool.false_and]
 ·rfl
theorem gC{t:PyData}(h:isNum t=true):∃x:N3,t=dN x/\Ok x:=by
 unfold isNum at h
 split at h
 ·rename_i a b c
  simp only[and_eq_true,decide_eq_true_eq,beq_iff_eq] at h
  exact⟨⟨a,b,c⟩,rfl,by show 0<c;omega,h.2⟩
 ·cases h
theorem pX(h:eE ds U Qd):eV ‹Qd› (aG ["d","thing"] ds) U:=by
 obtain⟨d,t,rfl,hd,ft,bt,q⟩:=h
 unfold eV
 walk_at "rn"
 refine⟨t,rfl,ft,?_⟩
 walk_at "rn"
 cases e:isNum t with
 |true=>
  walk_at "rn"
  obtain⟨x,rfl,ox⟩:=gC e
  refine⟨d,x,rfl,hd,bt x rfl,?_⟩
  walk_at "rn"
  rw[fG ox] at q
  exact q
 |false=>
  walk_at "rn"
  rw[yi e] at q
  exact q
theorem kj(h:cQ ds U Qd):cV ‹Qd› (aG ["d","thing"] ds) U:=by
 obtain⟨d,x,rfl,hd,ox,bx,hx,q⟩:=h
 unfold cV
 walk_at "rn"
 refine⟨d,dN x,rfl,hd,Ez,fun y e=>?_,?_⟩
 ·have:y=x:=by
   simp only[dN,PyData.tuple.injEq,List.cons.injEq,PyData.int.injEq,and_true] at e
   exact N3.ext' e.1.symm e.2.1.symm e.2.2.symm
  rw[this];exact bx
 ·walk_at "rn"
  rw[fG ox,hx]
  simp only[decide_true,Bool.not_true,false_eq_true,↓reduceIte]
  exact q
theorem Jv{x:PyData}(h:SeqAt.shaped x=true):x.eqv x=true:=SeqAt.eqv_refl _ (SeqAt.canLay_of_shaped h)
theorem lO{x y:N3}(e:dN x=dN y):x=y:=by
 simp only[dN,PyData.tuple.injEq,List.cons.injEq,PyData.int.injEq,and_true] at e
 exact N3.ext' e.1 e.2.1 e.2.2
end
noncomputable def oj:DSp:=fun ds U Q=>∃(d:Int) (x:N3),ds=[.v (.int d),.v (dN x)]/\aB d/\Bd 8900 x/\Q (.v (.bool (fF d x))) U
theorem zw{U:Mu}{Q:DK}{ds:List D}(h:oj ds U Q):ds.length=2:=by obtain⟨_,_,rfl,_⟩:=h;rfl
noncomputable def nN(x:N3)(w:Int):N3:=if 0<w then less x (bW x) else plus x (bW x)
noncomputable def yD:DSp:=fun ds U Q=>∃(x:N3) (w:Int),ds=[.v (dN x),.v (.int w)]/\Ok x/\Bd 2100 x/\Q (.v (dN (nN x w))) U
theorem Fl{U:Mu}{Q:DK}{ds:List D}(h:yD ds U Q):ds.length=2:=by obtain⟨_,_,rfl,_⟩:=h;rfl
noncomputable def Ar(d:Int)(s:N3)(w:Int):Int:=sg d (nN s w).a (nN s w).b
noncomputable def bLast(d:Int)(s:N3)(w:Int):N3:=times d (times d ⟨Ar d s w,0,2⟩ (nN s w)) (aX d (bW s))
noncomputable def mJ:DTS:=
 (aT (kK (dOp (bZ false) (dOp aF (ag 1) (dC (.int 1))) (dC (.int 0))) (dOp rGe (av dI (af (ag 0) (af (ag 1) ar))) (dC (.int 0)))))
noncomputable def Dm:DTS:=
 (aT (dIf (dB (dOp rGt (ag 1) (dC (.int 0)))) (av j6 (af (ag 0) (af (av eR (af (ag 0) ar)) ar))) (av dE (af (ag 0) (af (av eR (af (ag 0) ar)) ar)))))
section
variable {U:Mu}{Qd:DK}{ds:List D}
theorem kz{d:Int}{x:N3}(h:sg d x.a x.b=1):x≠au:=fun e=>by subst e;have:sg d au.a au.b=0:=b8.mpr ⟨rfl,rfl⟩;omega
theorem EA(h:oj ds U Qd):mJ ‹Qd› (aG ["d","x"] ds) U:=by
 obtain⟨d,x,rfl,hd,bx,q⟩:=h
 unfold mJ
 walk_at "rn"
 unfold fF at q
 cases e:decide (x.b=0) with
 |true=>
  rw[e,Bool.true_and] at q
  exact⟨d,x,rfl,hd,bx,q⟩
 |false=>
  rw[e,Bool.false_and] at q
  exact q
theorem Mq(h:yD ds U Qd):Dm ‹Qd› (aG ["shape","way"] ds) U:=by
 obtain⟨x,w,rfl,ox,bx,q⟩:=h
 unfold Dm
 walk_at "rn"
 unfold nN at q
 by_cases hw:0<w
 ·rw[if_pos hw] at q
  rw[if_pos (by simpa using hw)]
  exact⟨x,rfl,x,bW x,rfl,ox,bB ox,bx.mono ⋯,(oG bx).mono ⋯,q⟩
 ·rw[if_neg hw] at q
  rw[if_neg (by simpa using hw)]
  exact⟨x,rfl,x,bW x,rfl,ox,bB ox,bx.mono ⋯,(oG bx).mono ⋯,q⟩
theorem sv{x:N3}{w:Int}(ox:Ok x):Ok (nN x w):=by
 unfold nN
 split
 ·exact eQ ox (bB ox)
 ·exact dj ox (bB ox)
theorem _root_.NM.Rep.bd{x:N3}{A B C:Int}{n:Nat}(ox:Ok x)(r:Rep x A B C)(ha:Sz n A)(hb:Sz n B)(hc:Sz n C):Bd n x:=by
 have e:x=NM.low A B C:=ox.PY r.c r.a r.b
 rw[e]
 exact qj r.c ha hb hc
theorem Lj{n:Nat}{i:Int}(h:Sz n i):Sz (n+1) (2*i):=by
 have:=h.add h
 rw[show i+i=2*i by omega] at this
 exact this
theorem Mt{x:N3}{w:Int}{n:Nat}(ox:Ok x)(bx:Bd n x):Bd (n+1) (nN x w):=by
 unfold nN
 split
 ·have r:=Rep.less ox (bB ox) (ay ox) (ay (bB ox))
  have r2:Rep (less x (bW x)) 0 (2*x.b) x.c:=r.conv ox.cn (by show (x.a*x.c-x.a*x.c)*x.c=0*_;grind) (by show (x.b*x.c - -x.b*x.c)*x.c=2*x.b*(x.c*x.c);grind)
  exact r2.bd (eQ ox (bB ox)) sz0 (Lj bx.b) (bx.c.mono ∅)
 ·have r:=Rep.plus ox (bB ox) (ay ox) (ay (bB ox))
  have r2:Rep (plus x (bW x)) (2*x.a) 0 x.c:=r.conv ox.cn (by show (x.a*x.c+x.a*x.c)*x.c=2*x.a*(x.c*x.c);grind) (by show (x.b*x.c + -x.b*x.c)*x.c=0*_;grind)
  exact r2.bd (dj ox (bB ox)) (Lj bx.a) sz0 (bx.c.mono ∅)
theorem H0{d:Int}{x:N3}(ox:Ok x)(h:x≠au):sg d x.a x.b=1\/sg d x.a x.b = -1:=by
 rcases jV d x.a x.b with z|z|z
 ·exfalso
  obtain⟨h1,h2⟩:=b8.mp z
  have g:=ox.g
  rw[h1,h2] at g
  have hc:=ox.c
  refine h (N3.ext' h1 h2 ?_)
  show x.c=1
  simp[g3] at g
  omega
 ·exact .inl z
 ·exact .inr z
theorem EC{d:Int}{x y:N3}(hd:aB d)(ox:Ok x)(oy:Ok y)(hx:x≠au)(hy:y≠au):times d x y≠au:=fun e=>by
 have h:=oK hd ox oy
 rw[e] at h
 have z:sg d au.a au.b=0:=b8.mpr ⟨rfl,rfl⟩
 rw[z] at h
 rcases H0 (d:=d) ox hx with a|a<;>rcases H0 (d:=d) oy hy with b|b<;>rw[a,b] at h<;>exact absurd h ⋯
theorem Q0{d:Int}{x:N3}(hd:aB d)(ox:Ok x)(hx:x≠au):aX d x≠au:=fun e=>by
 have hn:=hd.norm ox hx
 have t:=iS ox hn
 rw[e] at t
 have h:=oK hd ox ba
 rw[t,show sg d au.a au.b=0 from b8.mpr ⟨rfl,rfl⟩,gI] at h
 simp at h
theorem CT{x:N3}(hx:x≠au):bW x≠au:=fun e=>hx (by
 have h1:x.a=0:=congrArg N3.a e
 have h2:-x.b=0:=congrArg N3.b e
 have h3:x.c=1:=congrArg N3.c e
 exact N3.ext' h1 (show x.b=0 by omega) h3)
theorem oB{t:Int}(h:t=1\/t = -1):Ok ⟨t,0,2⟩:=by
 rcases h with rfl|rfl
 ·exact⟨⋯,⋯⟩
 ·exact⟨⋯,⋯⟩
theorem Hn{t:Int}(h:t=1\/t = -1):Bd 3 ⟨t,0,2⟩:=⟨Sz.of (by show t.natAbs<8;omega),Sz.of (by show (0:Int).natAbs<8;decide),Sz.of (by show (2:Int).natAbs<8;decide)⟩
theorem MN{t:Int}(h:t=1\/t = -1):(⟨t,0,2⟩:N3)≠au:=fun e=>by
 have:(2:Int)=1:=congrArg N3.c e
 exact absurd this ⋯
structure LastOk(d:Int)(s:N3)(w:Int):Prop where
 ok:Ok (bLast d s w)
 bd:Bd 2090 (bLast d s w)
 ne:bLast d s w≠au
theorem B4{n:Nat}{d:Int}{s:N3}{w:Int}(hd:Sz 5 d)(os:Ok s)(bs:Bd n s)(nm:norm d (bW s)≠0){t:Int}(ht:t=1\/t = -1):Bd (2*n+10) (times d (times d ⟨t,0,2⟩ (nN s w)) (aX d (bW s))):=by
 have oh:=oB ht
 have of:=sv (w:=w) os
 have oc:=bO nm
 have o1:=aZ (d:=d) oh of
 have hmc:(bW s).c=s.c:=rfl
 have hma:(bW s).a=s.a:=rfl
 have hmb:(bW s).b = -s.b:=rfl
 have nn:norm d (bW s)=norm d s:=Iw
 have hN:Sz (2*n+6) (norm d s):=wm hd bs
 have tb:t.natAbs=1:=by omega
 have st:∀{k:Nat} {i:Int},Sz k i->Sz k (t*i):=fun h=>h.le (by rw[natAbs_mul,tb];omega)
 unfold nN at *
 split
 ·have r0:=Rep.less os (bB os) (ay os) (ay (bB os))
  have r2:Rep (less s (bW s)) 0 (2*s.b) s.c:=r0.conv os.cn (by show (s.a*s.c-s.a*s.c)*s.c=0*_;grind) (by show (s.b*s.c - -s.b*s.c)*s.c=2*s.b*(s.c*s.c);grind)
  have olm:=eQ os (bB os)
  have r3:=Rep.times (d:=d) (aZ (d:=d) oh olm) oc (Rep.times (d:=d) oh olm (ay oh) r2) ((ay (bB os)).aX (d:=d) (bB os) nm)
  have r4:Rep (times d (times d ⟨t,0,2⟩ (less s (bW s))) (aX d (bW s))) (t*(d*s.b*s.b)) (t*(s.b*s.a)) (norm d s):=by
   refine r3.conv (by rw[<- nn];exact nm) ?_ ?_
   ·show ((t*0+d*0*(2*s.b))*(s.c*s.a)+d*(t*(2*s.b)+0*0)*(-s.c * -s.b))*norm d s=t*(d*s.b*s.b)*(2*s.c*(s.a*s.a-d * -s.b * -s.b))
    unfold norm;grind
   ·show ((t*0+d*0*(2*s.b))*(-s.c * -s.b)+(t*(2*s.b)+0*0)*(s.c*s.a))*norm d s=t*(s.b*s.a)*(2*s.c*(s.a*s.a-d * -s.b * -s.b))
    unfold norm;grind
  refine r4.bd (aZ (aZ oh olm) oc) (st ?_) (st ?_) (hN.mono ∅)
  ·exact ((hd.mul bs.b).mul bs.b).mono ∅
  ·exact (bs.b.mul bs.a).mono ∅
 ·have r0:=Rep.plus os (bB os) (ay os) (ay (bB os))
  have r2:Rep (plus s (bW s)) (2*s.a) 0 s.c:=r0.conv os.cn (by show (s.a*s.c+s.a*s.c)*s.c=2*s.a*(s.c*s.c);grind) (by show (s.b*s.c + -s.b*s.c)*s.c=0*_;grind)
  have olm:=dj os (bB os)
  have r3:=Rep.times (d:=d) (aZ (d:=d) oh olm) oc (Rep.times (d:=d) oh olm (ay oh) r2) ((ay (bB os)).aX (d:=d) (bB os) nm)
  have r4:Rep (times d (times d ⟨t,0,2⟩ (plus s (bW s))) (aX d (bW s))) (t*(s.a*s.a)) (t*(s.a*s.b)) (norm d s):=by
   refine r3.conv (by rw[<- nn];exact nm) ?_ ?_
   ·show ((t*(2*s.a)+d*0*0)*(s.c*s.a)+d*(t*0+0*(2*s.a))*(-s.c * -s.b))*norm d s=t*(s.a*s.a)*(2*s.c*(s.a*s.a-d * -s.b * -s.b))
    unfold norm;grind
   ·show ((t*(2*s.a)+d*0*0)*(-s.c * -s.b)+(t*0+0*(2*s.a))*(s.c*s.a))*norm d s=t*(s.a*s.b)*(2*s.c*(s.a*s.a-d * -s.b * -s.b))
    unfold norm;grind
  refine r4.bd (aZ (aZ oh olm) oc) (st ?_) (st ?_) (hN.mono ∅)
  ·exact (bs.a.mul bs.a).mono ∅
  ·exact (bs.a.mul bs.b).mono ∅
theorem MV{d:Int}{s:N3}{w:Int}(hd:aB d)(os:Ok s)(bs:Bd 1000 s)(ns:s≠au)(hk:nN s w≠au):LastOk d s w:=by
 have s5:=jU hd.1 hd.2.1
 have of:=sv (w:=w) os
 have ht:Ar d s w=1\/Ar d s w = -1:=H0 of hk
 have nm:=hd.norm (bB os) (CT ns)
 have oc:=bO nm
 have o1:=aZ (d:=d) (oB ht) of
 exact⟨aZ o1 oc,(B4 s5 os bs nm ht).mono ⋯,EC hd o1 oc (EC hd (oB ht) of (MN ht) hk) (Q0 hd (bB os) (CT ns))⟩
noncomputable def Qv(d:Int):PyData->Option PyData
 |.tuple [.int a,.int b,.int c]=>some (.bool (fF d ⟨a,b,c⟩))
 |_=>none
end
structure A7(d:Int)(ks:List N3):Prop where
 l1:1<=ks.length
 l3:ks.length<=3
 ok:∀k∈ks,Ok k/\Bd 140 k/\sg d k.a k.b=1
noncomputable def d0:DSp:=fun ds U Q=>∃(d:Int) (ks:List N3),ds=[.v (.int d),.v (.tuple (ks.map dN))]/\aB d/\1<=ks.length/\ks.length<=3/\(∀k∈ks,Ok k/\Bd 140 k/\sg d k.a k.b=1)/\Q (.v .none) U
theorem vE{U:Mu}{Q:DK}{ds:List D}(h:d0 ds U Q):ds.length=2:=by obtain⟨_,_,rfl,_⟩:=h;rfl
noncomputable def Ru(d:Int)(t:PyData):Prop:=Few t/\∀x,t=dN x->Bd 8900 x
noncomputable def KT(d:Int):PyData->Prop
 |.tuple xs=>xs.length<=1000/\(xs.length<=3->∀x∈xs,Ru d x)
 |_=>True
noncomputable def Gg(d:Int):PyData->Bool
 |.tuple xs=>decide (1<=xs.length)&&(decide (xs.length<=3)&&xs.all (cD d))
 |_=>false
noncomputable def rG:DSp:=fun ds U Q=>∃(d:Int) (t:PyData),ds=[.v (.int d),.v t]/\aB d/\KT d t/\Q (.v (.bool (Gg d t))) U
theorem Cv{U:Mu}{Q:DK}{ds:List D}(h:rG ds U Q):ds.length=2:=by obtain⟨_,_,rfl,_⟩:=h;rfl
noncomputable def sgN(d:Int)(k:N3):Int:=sg d (norm d k) 0
noncomputable def wc:DSp:=fun ds U Q=>∃(d:Int) (ks:List N3),ds=[.v (.int d),.v (.tuple (ks.map dN))]/\aB d/\A7 d ks/\Q (.v (.list ((ks.map (sgN d)).map .int))) U
theorem Du{U:Mu}{Q:DK}{ds:List D}(h:wc ds U Q):ds.length=2:=by obtain⟨_,_,rfl,_⟩:=h;rfl
noncomputable def Ov(i:Int):PyData:=.tuple [.str "kind",.int i]
noncomputable def RW(i:Int):PyData:=.tuple [.str "turn",Ov i]
noncomputable def uj(x:N3)(P:PyData):PyData:=if x=one then P else .tuple [.str "grid",.int x.c,.int x.a,P]
noncomputable def Li(u v:N3)(F S:PyData):PyData:=if v=au then uj u F else if u=au then uj v S else .tuple [.str "upon",.tuple [uj u F,uj v S]]
noncomputable def ji:DSp:=fun ds U Q=>∃(x:N3) (P:PyData),ds=[.v (dN x),.v P]/\Q (.v (uj x P)) U
theorem Ci{U:Mu}{Q:DK}{ds:List D}(h:ji ds U Q):ds.length=2:=by obtain⟨_,_,rfl,_⟩:=h;rfl
noncomputable def qZ:DSp:=fun ds U Q=>∃(u v:N3) (F S:PyData),ds=[.v (dN u),.v F,.v (dN v),.v S]/\Q (.v (Li u v F S)) U
theorem Bf{U:Mu}{Q:DK}{ds:List D}(h:qZ ds U Q):ds.length=4:=by obtain⟨_,_,_,_,rfl,_⟩:=h;rfl
noncomputable def oo:DSp:=fun ds U Q=>∃(u v:N3) (i:Int),ds=[.v (dN u),.v (dN v),.v (.int i)]/\Q (.v (Li u v (Ov i) (RW i))) U
theorem y6{U:Mu}{Q:DK}{ds:List D}(h:oo ds U Q):ds.length=3:=by obtain⟨_,_,_,rfl,_⟩:=h;rfl
noncomputable def mN:DTS:=
 (aE (bQ (iA (de (dB (w4 "tuple" (ag 1)))) (iA (dB (dOp rLt (dCB dJ (af (ag 1) ar)) (dC (.int 1)))) (dB (dOp rGt (dCB dJ (af (ag 1) ar)) (dC (.int 3)))))) (aT (dC (.bool false))) br)
 (aT (dCB rX (af (nX [none,some 0] (kP (ag 1)) (aq 0) ko (av eE (af (ag 1) (af (ag 0) ar)))) ar))))
noncomputable def gz:DTS:=
 (bQ (de (dB (av rG (af (ag 0) (af (ag 1) ar))))) k6 br)
noncomputable def j2:DTS:=
 (aT (nX [none,some 0] (kP (ag 1)) (aq 0) ko (av dI (af (ag 1) (af (av eR (af (ag 0) ar)) ar)))))
noncomputable def ka:DTS:=
 (aE (bQ (dB (dOp (bZ false) (ag 0) (dC (.tuple [.int 1,.int 0,.int 1])))) (aT (ag 1)) br)
 (aT (bR (af (dC (.str "grid")) (af (dOp aF (ag 0) (dC (.int 2))) (af (dOp aF (ag 0) (dC (.int 0))) (af (ag 1) ar)))))))
noncomputable def fz:DTS:=
 (aE (bQ (dB (dOp (bZ false) (ag 2) (dC (.tuple [.int 0,.int 0,.int 1])))) (aT (av ji (af (ag 0) (af (ag 1) ar)))) br)
 (aE (bQ (dB (dOp (bZ false) (ag 0) (dC (.tuple [.int 0,.int 0,.int 1])))) (aT (av ji (af (ag 2) (af (ag 3) ar)))) br)
 (aT (bR (af (dC (.str "upon")) (af (bR (af (av ji (af (ag 0) (af (ag 1) ar))) (af (av ji (af (ag 2) (af (ag 3) ar))) ar))) ar))))))
noncomputable def eW:DTS:=
 (aE (aS (bR (af (dC (.str "kind")) (af (ag 2) ar))) (aq 3))
 (aT (av qZ (af (ag 0) (af (ag 3) (af (ag 1) (af (bR (af (dC (.str "turn")) (af (ag 3) ar))) ar)))))))
section
variable {U:Mu}{Qd:DK}{ds:List D}
theorem Q7{xs:List PyData}(g:PyData->Bool):b6 (xs.filterMap fun x=>some (.bool (g x)))=some (xs.map g):=by
 induction xs with
 |nil=>rfl
 |cons x xs ih=>
  rw[filterMap_cons]
  show b6 (PyData.bool (g x)::_)=_
  unfold b6
  rw[ih]
  rfl
theorem Eb(h:rG ds U Qd):mN ‹Qd› (aG ["d","thing"] ds) U:=by
 obtain⟨d,t,rfl,hd,kt,q⟩:=h
 unfold mN
 walk_at "rn"
 rcases Hx t with ⟨xs,rfl,e⟩|⟨hn,e⟩
 ·rw[e]
  walk_at "rn"
  have q':Qd (.v (.bool (decide (1<=xs.length)&&(decide (xs.length<=3)&&xs.all (cD d))))) U:=q
  by_cases h1:((xs.length:Nat):Int)<1
  ·rw[if_pos (by simpa using h1)]
   rw[decide_eq_false (show ¬ 1<=xs.length by omega),Bool.false_and] at q'
   exact q'
  ·rw[if_neg (by simpa using h1)]
   by_cases h3:(3:Int)<((xs.length:Nat):Int)
   ·rw[if_pos (by simpa using h3)]
    rw[decide_eq_false (show ¬ xs.length<=3 by omega),Bool.false_and,Bool.and_false] at q'
    exact q'
   ·rw[if_neg (by simpa using h3)]
    rw[decide_eq_true (show 1<=xs.length by omega),decide_eq_true (show xs.length<=3 by omega),Bool.true_and,Bool.true_and] at q'
    refine⟨∅,fun x=>some (.bool (cD d x)),fun x hx ad hs=>⟨⟨trivial,trivial⟩,?_⟩,?_⟩
    ·have p:=kt.2 ∅ x hx
     exact⟨d,x,rfl,hd,p.1,p.2,rfl,rfl⟩
    ·rw[Q7]
     dsimp only
     rw[all_map]
     exact q'
 ·rw[e]
  walk_at "rn"
  have:Gg d t=false:=by cases t<;>first|rfl|exact absurd rfl (hn _)
  rw[this] at q
  exact q
theorem Jb{d:Int}{ks:List N3}(h:A7 d ks):Gg d (.tuple (ks.map dN))=true:=by
 show (decide (1<=(ks.map dN).length)&&(decide ((ks.map dN).length<=3)&&(ks.map dN).all (cD d)))=true
 rw[length_map,decide_eq_true h.l1,decide_eq_true h.l3,Bool.true_and,Bool.true_and,all_map,List.all_eq_true]
 intro k hk
 obtain⟨ok,_,sk⟩:=h.ok k hk
 show cD d (dN k)=true
 rw[fG ok,sk]
 rfl
theorem Sq{d:Int}{ks:List N3}(h:A7 d ks):KT d (.tuple (ks.map dN)):=by
 refine⟨by rw[length_map];have:=h.l3;omega,fun _ x hx=>?_⟩
 obtain⟨k,hk,rfl⟩:=List.mem_map.mp hx
 exact⟨Ez,fun y e=>by rw[<- lO e];exact (h.ok k hk).2.1.mono ⋯⟩
theorem uu(h:d0 ds U Qd):gz ‹Qd› (aG ["d","thing"] ds) U:=by
 obtain⟨d,ks,rfl,hd,l1,l3,hk,q⟩:=h
 have ho:A7 d ks:=⟨l1,l3,hk⟩
 unfold gz
 walk_at "rn"
 refine⟨d,_,rfl,hd,Sq ho,?_⟩
 rw[Jb ho]
 exact q
theorem JA{d:Int}{k:N3}(hd:aB d)(ok:Ok k)(sk:sg d k.a k.b=1):sg d (bW k).a (bW k).b=sgN d k:=M5 hd ok sk
noncomputable def signOf(d:Int):PyData->Option PyData
 |.tuple [.int a,.int b,.int c]=>some (.int (sgN d ⟨a,b,c⟩))
 |_=>none
theorem MH{d:Int}(ks:List N3):(ks.map dN).filterMap (signOf d)=(ks.map (sgN d)).map .int:=by
 induction ks with
 |nil=>rfl
 |cons k ks ih=>
  rw[map_cons,filterMap_cons]
  show (PyData.int (sgN d k))::_=_
  rw[ih]
  rfl
theorem zq(h:wc ds U Qd):j2 ‹Qd› (aG ["d","kinds"] ds) U:=by
 obtain⟨d,ks,rfl,hd,ho,q⟩:=h
 unfold j2
 walk_at "rn"
 refine⟨by rw[length_map];have:=ho.l3;omega,signOf d,fun x hx ad hs=>⟨⟨trivial,trivial⟩,?_⟩,?_⟩
 ·obtain⟨k,hk,rfl⟩:=List.mem_map.mp hx
  obtain⟨ok,bk,sk⟩:=ho.ok k hk
  refine⟨k,rfl,d,bW k,rfl,hd,(oG bk).mono ⋯,rfl,?_⟩
  rw[JA hd ok sk]
  rfl
 ·rw[MH]
  exact q
theorem yW(h:ji ds U Qd):ka ‹Qd› (aG ["share","plan"] ds) U:=by
 obtain⟨x,P,rfl,q⟩:=h
 unfold ka
 walk_at "rn"
 unfold uj at q
 by_cases c:x=one
 ·rw[if_pos c] at q
  rw[if_pos (by simpa [one] using c)]
  exact q
 ·rw[if_neg c] at q
  rw[if_neg (by simpa [one] using c)]
  exact q
theorem rW(h:qZ ds U Qd):fz ‹Qd› (aG ["u","first","v","second"] ds) U:=by
 obtain⟨u,v,F,S,rfl,q⟩:=h
 unfold fz
 walk_at "rn"
 unfold Li at q
 by_cases c:v=au
 ·rw[if_pos c] at q
  rw[if_pos (by simpa [au] using c)]
  exact⟨u,F,rfl,q⟩
 ·rw[if_neg c] at q
  rw[if_neg (by simpa [au] using c)]
  by_cases c2:u=au
  ·rw[if_pos c2] at q
   rw[if_pos (by simpa [au] using c2)]
   exact⟨v,S,rfl,q⟩
  ·rw[if_neg c2] at q
   rw[if_neg (by simpa [au] using c2)]
   refine⟨u,F,rfl,?_⟩
   walk_at "rn"
   refine⟨v,S,rfl,?_⟩
   walk_at "rn"
   exact q
theorem pP(h:oo ds U Qd):eW ‹Qd› (aG ["u","v","place","kind"] ds) U:=by
 obtain⟨u,v,i,rfl,q⟩:=h
 unfold eW
 walk_at "rn"
 exact⟨u,v,_,_,rfl,q⟩
end
noncomputable def dG(d:Int)(ms:List N3):Prop:=ms.Pairwise fun a b=>dif d b a=1
noncomputable def sF:DSp:=fun ds U Q=>∃(d:Int) (p:Addr) (ms:List N3) (x:N3),ds=[.v (.int d),.m p,.v (dN x)]/\aB d/\U p=some (ms.map dN)/\(∀m∈ms,Ok m/\Bd 4400 m)/\Ok x/\Bd 4400 x/\dG d ms/\ms.length<=1000 /\
 ∀r:Nat,r<=ms.length->(∀i m,i<r->ms[i]? = some m->dif d x m=1)->(∀i m,r<=i->ms[i]? = some m->¬ dif d x m=1)->Q (.v (.int (r:Nat))) U
theorem CB{ds:List D}{U:Mu}{Q:DK}(h:sF ds U Q):ds.length=3:=by obtain⟨_,_,_,_,rfl,_⟩:=h;rfl
noncomputable def yh:DSp:=fun ds U Q=>∃(d:Int) (fs:List N3),ds=[.v (.int d),.v (.list (fs.map dN))]/\aB d/\(∀m∈fs,Ok m/\Bd 4400 m)/\fs.length<=1000 /\
 ∀p ms ad,U p=none->eY U ad->ad p=some (ms.map dN)->dG d ms->(∀x,x∈ms↔x∈fs)->Q (.m p) ad
theorem CG{ds:List D}{U:Mu}{Q:DK}(h:yh ds U Q):ds.length=2:=by obtain⟨_,_,rfl,_⟩:=h;rfl
noncomputable def iY:DTS:=
 (aE (aS (dC (.int 0)) (aq 3))
 (aE (aS (dCB dJ (af (ag 1) ar)) (aq 4))
 (aE (tS (dB (dOp rLt (ag 3) (ag 4))) (aE (aS (ui (jd (ag 3) (ag 4)) (dC (.int 2))) (aq 5))
 (bQ (dB (av oA (af (ag 0) (af (ag 2) (af (dOp aF (ag 1) (ag 5)) ar))))) (aS (jd (ag 5) (dC (.int 1))) (aq 3)) (aS (ag 5) (aq 4)))))
 (aT (ag 3)))))
noncomputable def iq:DTS:=
 (aE (aS (Ab ar) (aq 2))
 (aE (qO (k7 (ag 1)) (aq 3) (aE (aS (av sF (af (ag 0) (af (ag 2) (af (ag 3) ar)))) (aq 4))
 (bQ (iA (dB (dOp (bZ false) (ag 4) (dCB dJ (af (ag 2) ar)))) (dB (dOp (bZ true) (dOp aF (ag 2) (ag 4)) (ag 3)))) (gW (MM (ag 2) (ag 4) (ag 3))) br)))
 (aT (ag 2))))
section
variable {U:Mu}{Qd:DK}{ds:List D}
theorem Ox(r s:Nat):(r:Int).fdiv (s:Int)=((r / s:Nat):Int):=by rw[Int.fdiv_eq_ediv_of_nonneg _ (Int.natCast_nonneg s)];rfl
theorem EI{ks:List N3}{i:Nat}{m:N3}(h:ks[i]? = some m):atI (ks.map dN) (i:Int)=some (dN m):=by
 have hl:i<ks.length:=by
  rcases lt_or_ge i ks.length with z|z
  ·exact z
  ·rw[getElem?_eq_none z] at h;cases h
 unfold atI ixN
 rw[if_pos ∅,if_pos (by rw[length_map];omega)]
 simp only[bind_some,Int.toNat_natCast]
 rw[getElem?_map,h]
 rfl
theorem oD{d:Int}{x y z:N3}(hd:aB d)(ox:Ok x)(oy:Ok y)(oz:Ok z)(h1:dif d x y=1)(h2:dif d y z=1):dif d x z=1:=by
 rw[Fb] at *
 unfold NN at *
 have cx:=ox.c
 have cy:=oy.c
 have cz:=oz.c
 have a1:P d (z.c*(x.a*y.c-y.a*x.c)) (z.c*(x.b*y.c-y.b*x.c)):=(dH hd).mp (by rw[fj hd cz];exact h1)
 have a2:P d (x.c*(y.a*z.c-z.a*y.c)) (x.c*(y.b*z.c-z.b*y.c)):=(dH hd).mp (by rw[fj hd cx];exact h2)
 have a3:=(dH hd).mpr (OF hd a1 a2)
 have e1:z.c*(x.a*y.c-y.a*x.c)+x.c*(y.a*z.c-z.a*y.c)=y.c*(x.a*z.c-z.a*x.c):=by grind
 have e2:z.c*(x.b*y.c-y.b*x.c)+x.c*(y.b*z.c-z.b*y.c)=y.c*(x.b*z.c-z.b*x.c):=by grind
 rw[e1,e2,fj hd cy] at a3
 exact a3
theorem C9{d:Int}{ms:List N3}(h:dG d ms){i j:Nat}{a b:N3}(hij:i<j)(ha:ms[i]? = some a)(hb:ms[j]? = some b):dif d b a=1:=by
 obtain⟨hi,rfl⟩:=List.getElem?_eq_some_iff.mp ha
 obtain⟨hj,rfl⟩:=List.getElem?_eq_some_iff.mp hb
 exact List.pairwise_iff_getElem.mp h i j hi hj hij
theorem dif_neg{d:Int}{x y:N3}(hd:aB d):dif d y x = - dif d x y:=by
 rw[Fb,Fb]
 unfold NN
 rw[<- yK hd]
 congr 1<;>grind
theorem Nh{d:Int}{x y:N3}(hd:aB d)(ox:Ok x)(oy:Ok y)(h:¬ dif d x y=1)(n:y≠x):dif d y x=1:=by
 rw[dif_neg hd]
 have t:dif d x y=0\/dif d x y=1\/dif d x y = -1:=by rw[Fb];exact jV _ _ _
 rcases t with t|t|t
 ·exact absurd (Kf ox oy (by rw[<- Fb];exact t)).symm n
 ·exact absurd t h
 ·rw[t];rfl
theorem Lm{d:Int}{ms:List N3}{f:N3}{r:Nat}(hd:aB d)(gm:∀m∈ms,Ok m)(of:Ok f)(hr:dG d ms)(hl:r<=ms.length)(hb:∀i m,i<r->ms[i]? = some m->dif d f m=1)(ha:∀i m,r<=i->ms[i]? = some m->¬ dif d f m=1)(hn:∀m,ms[r]? = some m->m≠f):dG d (ms.take r++f::ms.drop r):=by
 unfold dG at *
 rw[List.pairwise_append]
 have hbm:∀m∈ms.take r,dif d f m=1:=fun m hm=>by
  obtain⟨i,hi,e⟩:=List.mem_iff_getElem.mp hm
  have hi':i<r:=by rw[length_take] at hi;omega
  refine hb i m hi' ?_
  rw[<- e,List.getElem_take]
  exact getElem?_eq_getElem _
 have ham:∀m∈ms.drop r,dif d m f=1:=fun m hm=>by
  obtain⟨i,hi,e⟩:=List.mem_iff_getElem.mp hm
  have hi2:r+i<ms.length:=by rw[List.length_drop] at hi;omega
  have em:ms[r+i]? = some m:=by rw[<- e,List.getElem_drop];exact getElem?_eq_getElem _
  have er:ms[r]? = some ms[r]:=getElem?_eq_getElem ∅
  have o1:=gm ms[r] (getElem_mem _)
  have b1:=Nh hd of o1 (ha r _ (le_refl _) er) (hn _ er)
  cases i with
  |zero=>rw[Nat.add_zero,er] at em;cases em;exact b1
  |succ i=>exact oD hd (gm m (mem_of_getElem? em)) o1 of (C9 hr ∅ er em) b1
 refine⟨hr.sublist (List.take_sublist _ _),List.pairwise_cons.mpr ⟨ham,hr.sublist (List.drop_sublist _ _)⟩,fun a ha' b hb'=>?_⟩
 rcases List.mem_cons.mp hb' with rfl|hb'
 ·exact hbm a ha'
 ·exact oD hd (gm b (List.mem_of_mem_drop hb')) of (gm a (List.mem_of_mem_take ha')) (ham b hb') (hbm a ha')
theorem Nk{α:Type}{ms:List α}{f x:α}{r:Nat}:x∈ms.take r++f::ms.drop r↔x=f\/x∈ms:=by
 rw[mem_append,mem_cons]
 have h:x∈ms↔x∈ms.take r\/x∈ms.drop r:=by
  conv=>lhs;rw[<- List.take_append_drop r ms]
  rw[mem_append]
 rw[h]
 constructor
 ·rintro (a|a|a)
  ·exact .inr (.inl a)
  ·exact .inl a
  ·exact .inr (.inr a)
 ·rintro (a|a|a)
  ·exact .inr (.inl a)
  ·exact .inl a
  ·exact .inr (.inr a)
theorem vV(h:yh ds U Qd):iq ‹Qd› (aG ["d","found","marks","x","place"] ds) U:=by
 obtain⟨d,fs,rfl,hd,gf,hl,q⟩:=h
 unfold iq
 walk_at "rn"
 intro p hp
 rw[kQ]
 walk_at "rn"
 refine⟨fun i ρ ad=>∃r3 r4 ms,ρ=[some (.v (.int d)),some (.v (.list (fs.map dN))),some (.m p),r3,r4]/\eY U ad/\ad p=some (ms.map dN)/\dG d ms/\(∀x,x∈ms↔x∈fs.take i)/\ms.length<=i,⟨_,_,[],rfl,eY.refl.set hp,aV,List.Pairwise.nil,by simp,le_refl _⟩,?_,?_⟩
 ·rintro i x ρ ad hx ⟨r3,r4,ms,rfl,sb,hm,hr,hms,lm⟩
  have hil:i<fs.length:=by
   rcases lt_or_ge i fs.length with z|z
   ·exact z
   ·rw[getElem?_eq_none (by rw[length_map];exact z)] at hx;cases hx
  obtain⟨f,ef,rfl⟩:∃f,fs[i]? = some f/\x=dN f:=by
   rw[getElem?_map,getElem?_eq_getElem hil] at hx
   exact⟨fs[i],getElem?_eq_getElem hil,(Option.some.inj hx).symm⟩
  have gm:∀m∈ms,Ok m/\Bd 4400 m:=fun m h=>gf m (List.mem_of_mem_take ((hms m).mp h))
  obtain⟨of,bf⟩:=gf f (mem_of_getElem? ef)
  have tk:fs.take (i+1)=fs.take i++[f]:=by rw[List.take_succ,ef];rfl
  walk_at "rn"
  refine⟨d,p,ms,f,rfl,hd,hm,gm,of,bf,hr,∅,fun r rl hb ha=>?_⟩
  have fin:(∀m,ms[r]? = some m->m≠f)->∃r3 r4 ms',[some (D.v (.int d)),some (D.v (.list (fs.map dN))),some (D.m p),some (D.v (dN f)),some (D.v (.int (r:Nat)))]=[some (.v (.int d)),some (.v (.list (fs.map dN))),some (.m p),r3,r4]/\eY U (aW ad p ((ms.map dN).take r++dN f::(ms.map dN).drop r))/\aW ad p ((ms.map dN).take r++dN f::(ms.map dN).drop r) p=some (ms'.map dN)/\dG d ms'/\(∀x,x∈ms'↔x∈fs.take (i+1))/\ms'.length<=i+1:=fun hn=>by
   refine⟨_,_,ms.take r++f::ms.drop r,rfl,sb.set hp,?_,Lm hd (fun m h=>(gm m h).1) of hr rl hb ha hn,fun x=>?_,by simp;omega⟩
   ·rw[aV,map_append,map_cons,List.map_take,List.map_drop]
   ·rw[Nk,tk,mem_append,List.mem_singleton,hms]
    exact Or.comm
  walk_at "rn"
  rw[hm]
  dsimp only
  rw[length_map]
  have put:(∀m,ms[r]? = some m->m≠f)->∀K:DK,(∀z,(∃r3 r4 ms',[some (D.v (.int d)),some (D.v (.list (fs.map dN))),some (D.m p),some (D.v (dN f)),some (D.v (.int (r:Nat)))]=[some (.v (.int d)),some (.v (.list (fs.map dN))),some (.m p),r3,r4]/\eY U z/\z p=some (ms'.map dN)/\dG d ms'/\(∀x,x∈ms'↔x∈fs.take (i+1))/\ms'.length<=i+1)->K (.v .none) z)->MM (ag 2) (ag 4) (ag 3) [some (D.v (.int d)),some (D.v (.list (fs.map dN))),some (D.m p),some (D.v (dN f)),some (D.v (.int (r:Nat)))] ad K:=fun hn K kk=>by
   rw[Ss]
   walk_at "rn"
   exact⟨r,dN f,ms.map dN,rfl,rfl,hm,by rw[length_map];exact rl,by rw[length_map];omega,kk _ (fin hn)⟩
  by_cases c:r=ms.length
  ·rw[if_pos (decide_eq_true ∅)]
   exact put (fun m e=>by rw[getElem?_eq_none ∅] at e;cases e) _ fun z h=>h
  ·rw[if_neg (by simp;omega)]
   have rl':r<ms.length:=by omega
   have er:ms[r]? = some ms[r]:=getElem?_eq_getElem rl'
   rw[EI er]
   dsimp only
   rw[HB]
   dsimp only
   by_cases cf:ms[r]=f
   ·rw[if_neg (by simp[cf])]
    refine⟨_,_,ms,rfl,sb,hm,hr,fun x=>?_,∅⟩
    rw[tk,mem_append,List.mem_singleton,hms]
    constructor
    ·exact .inl
    ·rintro (h|rfl)
     ·exact h
     ·rw[<- hms,<- cf];exact getElem_mem _
   ·rw[if_pos (by simp[cf])]
    exact put (fun m e=>by rw[er] at e;cases e;exact cf) _ fun z h=>h
 ·rintro ρ ad ⟨r3,r4,ms,rfl,sb,hm,hr,hms,lm⟩
  rw[length_map,take_length] at hms
  exact q p ms ad hp sb hm hr hms
theorem xf(h:sF ds U Qd):iY ‹Qd› (aG ["d","marks","x","low","high","middle"] ds) U:=by
 obtain⟨d,p,ms,x,rfl,hd,hp,gm,ox,bx,hr,hl,q⟩:=h
 unfold iY
 walk_at "rn"
 rw[hp]
 dsimp only
 rw[Hi,length_map]
 refine⟨fun n ρ ad=>∃(lo hi:Nat) (r5:Option D),ρ=[some (.v (.int d)),some (.m p),some (.v (dN x)),some (.v (.int (lo:Nat))),some (.v (.int (hi:Nat))),r5]/\ad=U/\n=hi-lo/\lo<=hi/\hi<=ms.length/\(∀i m,i<lo->ms[i]? = some m->dif d x m=1)/\(∀i m,hi<=i->ms[i]? = some m->¬ dif d x m=1),
  ⟨_,0,ms.length,none,rfl,rfl,rfl,zero_le _,le_refl _,fun i m z=>absurd z (Nat.not_lt_zero _),fun i m z e=>by rw[getElem?_eq_none z] at e;cases e⟩,?_⟩
 rintro n ρ ad ⟨lo,hi,r5,rfl,rfl,rfl,h1,h2,hb,ha⟩
 walk_at "rn"
 by_cases c:lo<hi
 ·rw[if_pos (by simpa using c)]
  have hm:(lo+hi) / 2<ms.length:=by omega
  have em:ms[(lo+hi) / 2]? = some ms[(lo+hi) / 2]:=getElem?_eq_getElem hm
  have ef:(((lo:Nat):Int)+((hi:Nat):Int)).fdiv 2=(((lo+hi) / 2:Nat):Int):=by
   have:((lo:Nat):Int)+((hi:Nat):Int)=((lo+hi:Nat):Int):=by omega
   rw[this]
   exact Ox (lo+hi) 2
  rw[hp,ef]
  dsimp only
  rw[EI em]
  generalize ms[(lo+hi) / 2]=mm at em
  obtain⟨omm,bmm⟩:=gm mm (mem_of_getElem? em)
  refine⟨Aq ⋯ (Sz.of (n:=2) ⋯) ⋯,d,x,mm,rfl,hd,bx,bmm,?_⟩
  dsimp only
  by_cases cc:dif d x mm=1
  ·rw[if_pos (decide_eq_true cc)]
   refine⟨_,?_,(lo+hi) / 2+1,hi,some (.v (.int (((lo+hi) / 2:Nat):Int))),by simp,rfl,rfl,∅,h2,fun i m z e=>?_,ha⟩
   ·omega
   ·rcases Nat.lt_or_eq_of_le (Nat.le_of_lt_succ z) with z|z
    ·obtain⟨om,_⟩:=gm m (mem_of_getElem? e)
     exact oD hd ox omm om cc (C9 hr z e em)
    ·rw[z,em] at e
     cases e
     exact cc
  ·rw[if_neg (by simpa using cc)]
   refine⟨_,?_,lo,(lo+hi) / 2,_,rfl,rfl,rfl,∅,∅,hb,fun i m z e f=>cc ?_⟩
   ·omega
   ·rcases Nat.lt_or_eq_of_le z with z|z
    ·obtain⟨om,_⟩:=gm m (mem_of_getElem? e)
     exact oD hd ox om omm f (C9 hr z em e)
    ·rw[<- z,em] at e
     cases e
     exact f
 ·rw[if_neg (by simpa using c)]
  obtain rfl:lo=hi:=by omega
  exact q lo h2 hb ha
end
noncomputable def numAt:PyData->N3
 |.tuple [.int a,.int b,.int c]=>⟨a,b,c⟩
 |_=>au
noncomputable def yz(t:PyData):Prop:=Few t/\∀x,t=dN x->Bd 4400 x
noncomputable def OH(t:PyData):Prop:=∀a b c e,t = .tuple [a,b,c,e]->yz a/\yz b/\yz c/\yz e
noncomputable def kJ(d:Int):PyData->Bool
 |.tuple [a,b,c,e]=>(isNum a&&(isNum b&&(decide (0<=sg d (numAt a).a (numAt a).b)&&decide (0<=sg d (numAt b).a (numAt b).b))))&&(cD d c&&cD d e)
 |_=>false
noncomputable def CM:DSp:=fun ds U Q=>∃(d:Int) (t:PyData),ds=[.v (.int d),.v t]/\aB d/\OH t/\Q (.v (.bool (kJ d t))) U
theorem Fs{ds:List D}{U:Mu}{Q:DK}(h:CM ds U Q):ds.length=2:=by obtain⟨_,_,rfl,_⟩:=h;rfl
noncomputable def JY(t:PyData):Prop:=∀a b c,t = .tuple [a,b,c]->yz a/\yz b/\∀ts,c = .tuple ts->ts.length<=1000/\∀x∈ts,OH x
noncomputable def qy(d:Int):PyData->Bool
 |.tuple [a,b,.tuple ts]=>cD d a&&(cD d b&&(decide (1<=ts.length)&&(decide (ts.length<=60)&&ts.all (kJ d))))
 |_=>false
noncomputable def vY:DSp:=fun ds U Q=>∃(d:Int) (t:PyData),ds=[.v (.int d),.v t]/\aB d/\JY t/\Q (.v (.bool (qy d t))) U
theorem Eg{ds:List D}{U:Mu}{Q:DK}(h:vY ds U Q):ds.length=2:=by obtain⟨_,_,rfl,_⟩:=h;rfl
noncomputable def p8:DTS:=
 (aE (bQ (iA (de (dB (w4 "tuple" (ag 1)))) (dB (dOp (bZ true) (dCB dJ (af (ag 1) ar)) (dC (.int 4))))) (aT (dC (.bool false))) br)
 (aE (aS (ag 1) (eK 4 (aP (aq 2) (aP (aq 3) (aP (aq 4) (aP (aq 5) eZ))))))
 (aE (bQ (iA (de (dB (av pW (af (ag 2) ar)))) (iA (de (dB (av pW (af (ag 3) ar)))) (iA (dB (dOp rLt (av dI (af (ag 0) (af (ag 2) ar))) (dC (.int 0)))) (dB (dOp rLt (av dI (af (ag 0) (af (ag 3) ar))) (dC (.int 0))))))) (aT (dC (.bool false))) br)
 (aT (kK (av eE (af (ag 0) (af (ag 4) ar))) (av eE (af (ag 0) (af (ag 5) ar))))))))
noncomputable def nJ:DTS:=
 (aE (bQ (iA (de (dB (w4 "tuple" (ag 1)))) (dB (dOp (bZ true) (dCB dJ (af (ag 1) ar)) (dC (.int 3))))) (aT (dC (.bool false))) br)
 (aE (aS (ag 1) (eK 3 (aP (aq 2) (aP (aq 3) (aP (aq 4) eZ)))))
 (aE (bQ (iA (de (dB (av eE (af (ag 0) (af (ag 2) ar))))) (de (dB (av eE (af (ag 0) (af (ag 3) ar)))))) (aT (dC (.bool false))) br)
 (aE (bQ (iA (de (dB (w4 "tuple" (ag 4)))) (iA (dB (dOp rLt (dCB dJ (af (ag 4) ar)) (dC (.int 1)))) (dB (dOp rGt (dCB dJ (af (ag 4) ar)) (dC (.int 60)))))) (aT (dC (.bool false))) br)
 (aT (dCB rX (af (nX [none,some 0] (kP (ag 4)) (aq 0) ko (av CM (af (ag 1) (af (ag 0) ar)))) ar)))))))
section
variable {U:Mu}{Qd:DK}{ds:List D}
theorem AI{d:Int}{xs:List PyData}(h:xs.length≠4):kJ d (.tuple xs)=false:=by
 match xs,h with
 |[],_=>rfl
 |[_],_=>rfl
 |[_,_],_=>rfl
 |[_,_,_],_=>rfl
 |[_,_,_,_],h=>exact absurd rfl h
 |_::_::_::_::_::_,_=>rfl
theorem zW{d:Int}{p:PyData}(h:¬ ∃xs,p = .tuple xs):kJ d p=false:=by cases p<;>first|rfl|exact absurd ⟨_,rfl⟩ h
theorem ye{p:PyData}(h:¬ ∃xs,p = .tuple xs):isT "tuple" p=false:=by cases p<;>first|rfl|exact absurd ⟨_,rfl⟩ h
theorem Ht{α:Type}{xs:List α}(hl:xs.length=4):∃a b c d,xs=[a,b,c,d]:=by
 match xs,hl with
 |[a,b,c,d],_=>exact⟨a,b,c,d,rfl⟩
theorem Bh{d:Int}{a b c e:PyData}:kJ d (.tuple [a,b,c,e])=((isNum a&&(isNum b&&(decide (0<=sg d (numAt a).a (numAt a).b)&&decide (0<=sg d (numAt b).a (numAt b).b))))&&(cD d c&&cD d e)):=rfl
theorem wo{x:N3}:numAt (dN x)=x:=rfl
theorem Gr(h:CM ds U Qd):p8 ‹Qd› (aG ["d","thing","x","y","width","height"] ds) U:=by
 obtain⟨d,t,rfl,hd,ht4,q⟩:=h
 unfold p8
 walk_at "rn"
 by_cases ht:∃xs,t = .tuple xs
 ·obtain⟨xs,rfl⟩:=ht
  rw[if_neg (by rw[show isT "tuple" (.tuple xs)=true from rfl];decide)]
  walk_at "rn"
  by_cases l4:xs.length=4
  ·obtain⟨a,b,c,e,rfl⟩:=Ht l4
   rw[if_neg (by simp)]
   obtain⟨pa,pb,pc,pe⟩:=ht4 a b c e rfl
   rw[Bh] at q
   walk_at "rn"
   refine⟨trivial,a,rfl,pa.1,?_⟩
   dsimp only
   cases na:isNum a with
   |false=>rw[if_pos ⋯];rw[na] at q;exact q
   |true=>
    rw[if_neg ⋯]
    rw[na,Bool.true_and] at q
    refine⟨b,rfl,pb.1,?_⟩
    dsimp only
    cases nb:isNum b with
    |false=>rw[if_pos ⋯];rw[nb] at q;exact q
    |true=>
     rw[if_neg ⋯]
     rw[nb,Bool.true_and] at q
     obtain⟨x,rfl,ox⟩:=gC na
     obtain⟨y,rfl,oy⟩:=gC nb
     rw[wo,wo] at q
     refine⟨d,x,rfl,hd,(pa.2 x rfl).mono ⋯,?_⟩
     walk_at "rn"
     by_cases cx:0<=sg d x.a x.b
     ·rw[if_neg (by simp;omega)]
      rw[decide_eq_true cx,Bool.true_and] at q
      refine⟨d,y,rfl,hd,(pb.2 y rfl).mono ⋯,?_⟩
      walk_at "rn"
      by_cases cy:0<=sg d y.a y.b
      ·rw[if_neg (by simp;omega)]
       rw[decide_eq_true cy,Bool.true_and] at q
       refine⟨d,c,rfl,hd,pc.1,fun x e=>(pc.2 x e).mono ⋯,?_⟩
       dsimp only
       cases ac:cD d c with
       |false=>rw[if_neg ⋯];rw[ac] at q;exact q
       |true=>
        rw[if_pos rfl]
        rw[ac,Bool.true_and] at q
        exact⟨d,e,rfl,hd,pe.1,fun x e=>(pe.2 x e).mono ⋯,q⟩
      ·rw[if_pos (by simp;omega)]
       rw[decide_eq_false cy] at q
       exact q
     ·rw[if_pos (by simp;omega)]
      rw[decide_eq_false cx] at q
      exact q
  ·rw[if_pos (by simp;omega)]
   rw[AI l4] at q
   exact q
 ·rw[if_pos (by rw[ye ht];rfl)]
  rw[zW ht] at q
  exact q
theorem AX{d:Int}{xs:List PyData}(h:xs.length≠3):qy d (.tuple xs)=false:=by
 match xs,h with
 |[],_=>rfl
 |[_],_=>rfl
 |[_,_],_=>rfl
 |[_,_,_],h=>exact absurd rfl h
 |_::_::c::_::_,_=>cases c<;>rfl
theorem Aa{d:Int}{p:PyData}(h:¬ ∃xs,p = .tuple xs):qy d p=false:=by cases p<;>first|rfl|exact absurd ⟨_,rfl⟩ h
theorem Cg{d:Int}{a b c:PyData}(h:¬ ∃ts,c = .tuple ts):qy d (.tuple [a,b,c])=false:=by cases c<;>first|rfl|exact absurd ⟨_,rfl⟩ h
theorem Ey{α:Type}{xs:List α}(hl:xs.length=3):∃a b c,xs=[a,b,c]:=by
 match xs,hl with
 |[a,b,c],_=>exact⟨a,b,c,rfl⟩
theorem AR{f:PyData->Bool}:∀(xs:List PyData),b6 (xs.filterMap fun x=>some (.bool (f x)))=some (xs.map f)
 |[]=>rfl
 |x::xs=>by
  rw[filterMap_cons]
  simp only[b6,AR xs,map_some,map_cons]
theorem Ea(h:vY ds U Qd):nJ ‹Qd› (aG ["d","thing","width","height","tiles"] ds) U:=by
 obtain⟨d,t,rfl,hd,ft,q⟩:=h
 unfold nJ
 walk_at "rn"
 by_cases ht:∃xs,t = .tuple xs
 ·obtain⟨xs,rfl⟩:=ht
  rw[if_neg (by rw[show isT "tuple" (.tuple xs)=true from rfl];decide)]
  walk_at "rn"
  by_cases l3:xs.length=3
  ·obtain⟨a,b,c,rfl⟩:=Ey l3
   rw[if_neg (by simp)]
   obtain⟨pa,pb,pc⟩:=ft a b c rfl
   walk_at "rn"
   have qf:(∃ts,c = .tuple ts)\/Qd (.v (.bool false)) U:=by
    by_cases hc:∃ts,c = .tuple ts
    ·exact .inl hc
    ·rw[Cg hc] at q;exact .inr q
   have q3:∀ts,c = .tuple ts->Qd (.v (.bool (cD d a&&(cD d b&&(decide (1<=ts.length)&&(decide (ts.length<=60)&&ts.all (kJ d))))))) U:=fun ts e=>by subst e;exact q
   refine⟨trivial,d,a,rfl,hd,pa.1,fun x e=>(pa.2 x e).mono ⋯,?_⟩
   dsimp only
   cases aa:cD d a with
   |false=>
    rw[if_pos ⋯]
    rcases qf with ⟨ts,e⟩|qf
    ·have:=q3 ts e;rw[aa] at this;exact this
    ·exact qf
   |true=>
    rw[if_neg ⋯]
    refine⟨d,b,rfl,hd,pb.1,fun x e=>(pb.2 x e).mono ⋯,?_⟩
    dsimp only
    cases ab:cD d b with
    |false=>
     rw[if_pos ⋯]
     rcases qf with ⟨ts,e⟩|qf
     ·have:=q3 ts e;rw[aa,ab] at this;exact this
     ·exact qf
    |true=>
     rw[if_neg ⋯]
     by_cases hc:∃ts,c = .tuple ts
     ·obtain⟨ts,rfl⟩:=hc
      have q4:=q3 ts rfl
      rw[aa,ab,Bool.true_and,Bool.true_and] at q4
      rw[if_neg (by rw[show isT "tuple" (.tuple ts)=true from rfl];decide)]
      walk_at "rn"
      by_cases c1:1<=ts.length
      ·rw[if_neg (by simp;omega)]
       rw[decide_eq_true c1,Bool.true_and] at q4
       by_cases c2:ts.length<=60
       ·rw[if_neg (by simp;omega)]
        rw[decide_eq_true c2,Bool.true_and] at q4
        obtain⟨tl,gt⟩:=pc ts rfl
        refine⟨tl,fun x=>some (.bool (kJ d x)),fun x hx ad _=>⟨⟨trivial,trivial⟩,d,x,rfl,hd,gt x hx,rfl,rfl⟩,?_⟩
        rw[AR]
        dsimp only
        have ea:(ts.map (kJ d)).all id=ts.all (kJ d):=by simp[all_map]
        rw[ea]
        exact q4
       ·rw[if_pos (by simp;omega)]
        rw[decide_eq_false c2] at q4
        exact q4
      ·rw[if_pos (by simp;omega)]
       rw[decide_eq_false c1] at q4
       exact q4
     ·rw[if_pos (by rw[ye hc];rfl)]
      rw[Cg hc] at q
      exact q
  ·rw[if_pos (by simp;omega)]
   rw[AX l3] at q
   exact q
 ·rw[if_pos (by rw[ye ht];rfl)]
  rw[Aa ht] at q
  exact q
end
structure Tl where
 x:N3
 y:N3
 w:N3
 h:N3
noncomputable def tlD(t:Tl):PyData:=.tuple [dN t.x,dN t.y,dN t.w,dN t.h]
structure TH(d:Int)(t:Tl):Prop where
 ox:Ok t.x
 oy:Ok t.y
 ow:Ok t.w
 oh:Ok t.h
 bx:Bd 2100 t.x
 by_:Bd 2100 t.y
 bw:Bd 2100 t.w
 bh:Bd 2100 t.h
noncomputable def tI(t:Tl):PyData:=.tuple [dN t.x,dN (plus t.x t.w),dN t.y,dN (plus t.y t.h)]
noncomputable def oJ:DSp:=fun ds U Q=>∃(d:Int) (t:Tl),ds=[.v (tlD t)]/\TH d t/\Q (.v (tI t)) U
theorem y8{ds:List D}{U:Mu}{Q:DK}(h:oJ ds U Q):ds.length=1:=by obtain⟨_,_,rfl,_⟩:=h;rfl
noncomputable def fM(ms:List N3)(e:N3):Bool:=decide (ms.head? = some au)&&decide (ms.getLast? = some e)
noncomputable def sN:DSp:=fun ds U Q=>∃(ms:List N3) (e:N3),ds=[.v (.list (ms.map dN)),.v (dN e)]/\ms≠[]/\Q (.v (.bool (fM ms e))) U
theorem DP{ds:List D}{U:Mu}{Q:DK}(h:sN ds U Q):ds.length=2:=by obtain⟨_,_,rfl,_⟩:=h;rfl
noncomputable def lB:DTS:=
 (aE (aS (ag 0) (eK 4 (aP (aq 1) (aP (aq 2) (aP (aq 3) (aP (aq 4) eZ))))))
 (aT (bR (af (ag 1) (af (av dE (af (ag 1) (af (ag 3) ar))) (af (ag 2) (af (av dE (af (ag 2) (af (ag 4) ar))) ar)))))))
noncomputable def ik:DTS:=
 (aT (kK (dOp (bZ false) (dOp aF (ag 0) (dC (.int 0))) (dC (.tuple [.int 0,.int 0,.int 1]))) (dOp (bZ false) (dOp aF (ag 0) (tU (dC (.int 1)))) (ag 1))))
section
variable {U:Mu}{Qd:DK}{ds:List D}
theorem BG(h:oJ ds U Qd):lB ‹Qd› (aG ["tile","x","y","width","height"] ds) U:=by
 obtain⟨d,t,rfl,o,q⟩:=h
 unfold lB tlD
 walk_at "rn"
 refine⟨trivial,t.x,t.w,rfl,o.ox,o.ow,o.bx.mono ⋯,o.bw.mono ⋯,?_⟩
 walk_at "rn"
 refine⟨t.y,t.h,rfl,o.oy,o.oh,o.by_.mono ⋯,o.bh.mono ⋯,?_⟩
 walk_at "rn"
 exact q
theorem JI{ms:List N3}{l:N3}(h:ms.getLast? = some l):atI (ms.map dN) (-1)=some (dN l):=by
 obtain⟨ys,rfl⟩:∃ys,ms=ys++[l]:=by
  have hn:ms≠[]:=fun e=>by rw[e] at h;cases h
  refine⟨ms.dropLast,?_⟩
  rw[List.getLast?_eq_getLast hn] at h
  have e:=List.dropLast_concat_getLast hn
  rw[Option.some.inj h] at e
  exact e.symm
 rw[map_append]
 unfold atI ixN
 have e:(ys.map dN++[dN l]).length=ys.length+1:=by simp
 rw[show List.map dN [l]=[dN l] from rfl,e]
 split
 ·omega
 ·rw[if_pos ∅]
  have z:(-1+((ys.length+1:Nat):Int)).toNat=ys.length:=by omega
  simp only[bind_some]
  rw[z]
  simp
theorem vO(h:sN ds U Qd):ik ‹Qd› (aG ["marks","end"] ds) U:=by
 obtain⟨ms,e,rfl,hn,q⟩:=h
 unfold ik
 obtain⟨l,hl⟩:∃l,ms.getLast? = some l:=⟨ms.getLast hn,List.getLast?_eq_getLast hn⟩
 obtain⟨f,r,rfl⟩:∃f r,ms=f::r:=by
  cases ms with
  |nil=>exact absurd rfl hn
  |cons f r=>exact⟨f,r,rfl⟩
 walk_at "rn"
 have er:fM (f::r) e=(decide (f=⟨0,0,1⟩)&&decide (l=e)):=by
  unfold fM
  rw[hl]
  congr 1
  ·rw[List.head?_cons]
   simp only[Option.some.injEq]
   rfl
  ·simp only[Option.some.injEq]
 rw[er] at q
 by_cases c:f=⟨0,0,1⟩
 ·rw[if_pos (decide_eq_true c),<- show (f::r).map dN=dN f::r.map dN from rfl,JI hl]
  dsimp only
  rw[HB,false_xor]
  rw[decide_eq_true c,Bool.true_and] at q
  exact q
 ·rw[if_neg (by simpa using c)]
  rw[decide_eq_false c] at q
  exact q
end
section
variable {U:Mu}{d:D}{Q:DK}
theorem Nc{a b c f g h k l m n n11}{o:Rho}:ag 11 (a::b::c::f::g::h::k::l::m::n::n11::some d::o) U Q=Q d U:=propext Iff.rfl
theorem Nd{to te:DTE}{ρ:Rho}{U:Mu}{Q:DK}:Ra to te ρ U Q=to ρ U fun x al=>match x with
 |.m l=>te ρ al fun y am=>(match y,am l with
  |.v (.int i),some xs=>(0<=i/\i<1000)/\∃d,xs[i.toNat]? = some d/\Q (.v d) (aW am l (xs.eraseIdx i.toNat))
  |_,_=>False)
 |_=>False:=propext Iff.rfl
end
noncomputable def Cs(x:N3):List Int:=[x.a,x.b,x.c]
theorem Kg{x y:N3}(h:Cs x=Cs y):x=y:=by
 cases x;cases y
 unfold Cs at h
 simp only[List.cons.injEq,and_true] at h
 obtain⟨rfl,rfl,rfl⟩:=h
 rfl
theorem Bw{d:Int}{x:N3}(hd:aB d):dif d x x≠1:=fun h=>by
 have:=dif_neg (x:=x) (y:=x) hd
 omega
theorem lR{d:Int}{P:List N3}(hd:aB d)(h:dG d P):P.Nodup:=by
 unfold List.Nodup
 refine List.Pairwise.imp (fun {a b} z (e:a=b)=>?_) h
 subst e
 exact Bw hd z
structure rq(d:Int)(P fs:List N3):Prop where
 up:dG d P
 mem:∀x,x∈P↔x∈fs
noncomputable def ents(P:List N3):List (List Int×PyData):=P.zipIdx.map fun x=>(Cs x.1,.int (x.2:Nat))
theorem Il{P:List N3}{x:N3}:ents (P++[x])=ents P++[(Cs x,.int (P.length:Nat))]:=by
 unfold ents
 rw[List.zipIdx_append,map_append]
 simp
noncomputable def book(P:List N3):List (List Int×PyData):=putAll (ents P)
theorem Jl{P:List N3}{x:N3}:book (P++[x])=nV (book P) (Cs x) (.int (P.length:Nat)):=by unfold book;rw[Il,putAll_snoc]
theorem snoc_ind{α:Type}{p:List α->Prop}(h0:p [])(h1:∀l x,p l->p (l++[x]))(l:List α):p l:=by
 rw[<- List.reverse_reverse l]
 generalize l.reverse=r
 induction r with
 |nil=>exact h0
 |cons a r ih=>rw[List.reverse_cons];exact h1 _ _ ih
theorem oP{x:N3}(P:List N3):P.Nodup->x∈P->dR (book P) (Cs x)=some (.int (P.idxOf x:Nat)):=by
 refine snoc_ind (p:=fun P=>P.Nodup->x∈P->dR (book P) (Cs x)=some (.int (P.idxOf x:Nat))) (fun _ h=>absurd h not_mem_nil) (fun P y ih hn hx=>?_) P
 rw[Jl,IQ]
 have hn':=List.nodup_append.mp hn
 rw[List.idxOf_append]
 by_cases e:x=y
 ·subst e
  have hxp:x ∉ P:=fun m=>hn'.2.2 x m x mem_cons_self rfl
  rw[if_pos rfl,if_neg hxp,List.idxOf_cons_self,Nat.zero_add]
 ·have hxp:x∈P:=by
   rcases List.mem_append.mp hx with m|m
   ·exact m
   ·exact absurd (List.mem_singleton.mp m) e
  rw[if_neg (fun z=>e (Kg z)),if_pos hxp,ih hn'.1 hxp]
noncomputable def G1:PyData->Option (List Int×PyData)
 |.tuple [i,.tuple [.int a,.int b,.int c]]=>some ([a,b,c],i)
 |_=>none
theorem Ag(P:List N3):(jD 0 (P.map dN)).filterMap G1=ents P:=by
 unfold ents
 have h:∀j,(jD j (P.map dN)).filterMap G1=(P.zipIdx j).map fun x=>(Cs x.1,PyData.int (x.2:Nat)):=by
  induction P with
  |nil=>intro j;rfl
  |cons x P ih=>
   intro j
   rw[map_cons,List.zipIdx_cons,map_cons,<- ih]
   rfl
 exact h 0
theorem D7{P:List N3}{x:PyData}(h:x∈jD 0 (P.map dN)):∃(i:Nat) (m:N3),x = .tuple [.int (i:Nat),dN m]/\m∈P:=by
 have k:∀j,x∈jD j (P.map dN)->∃(i:Nat) (m:N3),x = .tuple [.int (i:Nat),dN m]/\m∈P:=by
  clear h
  induction P with
  |nil=>intro j h;exact absurd h not_mem_nil
  |cons y P ih=>
   intro j h
   rw[map_cons] at h
   rcases List.mem_cons.mp h with rfl|h
   ·exact⟨j,y,rfl,mem_cons_self⟩
   ·obtain⟨i,m,e,hm⟩:=ih _ h
    exact⟨i,m,e,mem_cons_of_mem _ hm⟩
 exact k 0 h
theorem DM{xs:List PyData}:(jD 0 xs).length=xs.length:=by
 have h:∀j,(jD j xs).length=xs.length:=by
  induction xs with
  |nil=>intro j;rfl
  |cons y P ih=>intro j;show (jD (j+1) P).length+1=_;rw[ih];rfl
 exact h 0
noncomputable def ff(P Q:List N3)(t:Tl):GR.Bx:=⟨P.idxOf t.x,P.idxOf (plus t.x t.w),Q.idxOf t.y,Q.idxOf (plus t.y t.h)⟩
structure OnM(P Q:List N3)(t:Tl):Prop where
 l:t.x∈P
 r:plus t.x t.w∈P
 b:t.y∈Q
 t:plus t.y t.h∈Q
noncomputable def rK(x:Nat×Nat):List Int:=[(x.1:Nat),(x.2:Nat)]
theorem Jw{x y:Nat×Nat}(h:rK x=rK y):x=y:=by
 unfold rK at h
 simp only[List.cons.injEq,and_true,Int.natCast_inj] at h
 exact Prod.ext h.1 h.2
theorem yk{x:Nat×Nat}{l:List (Nat×Nat)}:rK x∈l.map rK↔x∈l:=by
 rw[mem_map]
 constructor
 ·rintro ⟨y,h,e⟩;exact Jw e▸h
 ·intro h;exact⟨x,h,rfl⟩
theorem AA{α β:Type}{f:α->List β}{l:List α}{i:Nat}{x:α}(h:l[i]? = some x):(l.take (i+1)).flatMap f=(l.take i).flatMap f++f x:=by
 rw[List.take_succ,h,List.flatMap_append]
 simp
theorem Ee{α β:Type}{f:α->List β}{l:List α}{i:Nat}:(l.take i).flatMap f <+: l.flatMap f:=by
 conv=>rhs;rw[<- List.take_append_drop i l,List.flatMap_append]
 exact List.prefix_append _ _
theorem Ld{a b i:Nat}(h:i<b-a):(GR.run a b)[i]? = some (a+i):=by
 unfold GR.run
 rw[getElem?_map,List.getElem?_range h]
 rfl
local macro_rules|`(tactic| walk_at "rb")=>mkW "Ny R3 OZ ↓Tz ↓l_t ↓l_f l_T l_F Tt SI ↓Oy ej decide_true decide_false Bool.xor_true Bool.true_xor ↓FZ ↓F3 ↓GA ↓Ga ↓FP ↓F5 ↓Fy ↓FL ↓FF ↓Gs ↓B7 ↓q_c ↓TJ ↓q_B ↓QR ↓Ju ↓L1 ↓RO ↓Gy ↓Qh ↓Fm ↓Mg ↓Gz ↓LC ↓La ↓Gb ↓Lw ↓KQ ↓Mh ↓J2 ↓KD ↓JR ↓Fv ↓Ge ↓F0 ↓Dh ↓Bp ↓Bv ↓Gu ↓zY ↓xX ↓Lb ↓JD ↓JG ↓Pm ↓ym ↓FJ ↓LF ↓TL ↓FV ↓FG ↓GB ↓Fx ↓Lc ↓Qw ↓F7 ↓BJ ↓Ku ↓Ko ↓JK ↓BF ↓Gf ↓BZ ↓FU ↓F8 ↓Rl ↓KA ↓Gx ↓Hv ↓LJ ↓GG ↓Rq ↓Co ↓Pz ↓Mf ↓L3 ↓FK ↓yJ ↓CC ↓yF ↓xU NG Fg Fh J4 LV JZ Option.bind_none bind_some join_some List.getElem?_cons_zero List.getElem?_cons_succ aG Ol Kv K9 JV HB rj Ae Ai DF HY map_cons map_nil List.append List.replicate length_cons length_nil Nat.reduceAdd Nat.reduceSub List.nil_append List.cons_append List.set_cons_zero List.set_cons_succ map_some Bool.not_true Bool.not_false false_eq_true Bool.true_eq_false xor_false false_xor ↓Nc ↓Nd ↓Md ↓KU ↓P9 ↓RS ↓P6 ↓J3"
noncomputable def J9(P Q:List N3)(ts:List Tl):Prop:=P.Nodup/\Q.Nodup/\P≠[]/\Q≠[]/\P.length<=900/\Q.length<=900/\ts.length<=900/\(∀t∈ts,OnM P Q t)/\(P.length-1)*(Q.length-1)<=9000
noncomputable def tO:DSp:=fun ds U K=>∃(P Q:List N3) (ts:List Tl),ds=[.v (.list (ts.map tI)),.v (.list (P.map dN)),.v (.list (Q.map dN))]/\J9 P Q ts /\
 ∀ad,eY U ad->K (.v (.bool (GR.vW (ts.map (ff P Q)) (P.length-1) (Q.length-1)))) ad
noncomputable def yt:DSp:=fun ds U K=>∃(P Q:List N3) (ts:List Tl),ds=[.v (.list (ts.map tI)),.v (.list (P.map dN)),.v (.list (Q.map dN))]/\J9 P Q ts /\
 K (.v (.bool (GR.vW (ts.map (ff P Q)) (P.length-1) (Q.length-1)))) U
theorem zB{ds:List D}{U:Mu}{Q:DK}(h:tO ds U Q):ds.length=3:=by obtain⟨_,_,_,rfl,_⟩:=h;rfl
theorem vS{ds:List D}{U:Mu}{Qd:DK}(h:yt ds U Qd):tO ds U (frz U Qd):=by
 obtain⟨P,Q,ts,rfl,pre,q⟩:=h
 exact⟨P,Q,ts,rfl,pre,fun ad sb=>⟨sb,q⟩⟩
noncomputable def oO:DSp:=fun ds U Q=>∃(d:Int) (fs:List N3),ds=[.v (.int d),.v (.list (fs.map dN))]/\aB d/\(∀m∈fs,Ok m/\Bd 4400 m)/\fs.length<=1000 /\
 ∀ms,rq d ms fs->Q (.v (.list (ms.map dN))) U
theorem uC{ds:List D}{U:Mu}{Qd:DK}(h:oO ds U Qd):yh ds U (frz U Qd):=by
 obtain⟨d,fs,rfl,hd,g,hl,q⟩:=h
 exact⟨d,fs,rfl,hd,g,hl,fun p ms ad hp sb hm hr hms=>⟨⟨hp,sb⟩,_,hm,q ms ⟨hr,hms⟩⟩⟩
noncomputable def iR:DTS:=
 (aE (aS (xK [none,none] (CY (af (ag 1) ar)) (eK 2 (aP (aq 0) (aP (aq 1) eZ))) ko (ag 1) (ag 0)) (aq 3))
 (aE (aS (xK [none,none] (CY (af (ag 2) ar)) (eK 2 (aP (aq 0) (aP (aq 1) eZ))) ko (ag 1) (ag 0)) (aq 4))
 (aE (aS BB (aq 5))
 (aE (qO (k7 (ag 0)) (eK 4 (aP (aq 6) (aP (aq 7) (aP (aq 8) (aP (aq 9) eZ))))) (qO (tL (af (Jg (ag 3) (ag 6)) (af (Jg (ag 3) (ag 7)) ar))) (aq 10) (qO (tL (af (Jg (ag 4) (ag 8)) (af (Jg (ag 4) (ag 9)) ar))) (aq 11) (aE (bQ (dB (dOp (QM false) (bR (af (ag 10) (af (ag 11) ar))) (ag 5))) (aT (dC (.bool false))) br)
 (gW (JX (ag 5) (bR (af (ag 10) (af (ag 11) ar)))))))))
 (aT (dOp (bZ false) (dCB LR (af (ag 5) ar)) (bU (nB (dCB dJ (af (ag 1) ar)) (dC (.int 1))) (nB (dCB dJ (af (ag 2) ar)) (dC (.int 1))))))))))
section
variable {U:Mu}{Qd:DK}{ds:List D}
structure zX(U:Mu)(P Q:List N3)(pc pr ps:Addr)(done:List (Nat×Nat))(ad:Mu):Prop where
 sub:eY U ad
 nc:U.b pc=none
 nr:U.b pr=none
 ns:U.b ps=none
 c:ad.b pc=some (.dict (book P))
 r:ad.b pr=some (.dict (book Q))
 s:ad.b ps=some (.set (done.map rK))
 nodup:done.Nodup
 sc:pc≠ps
 sr:pr≠ps
theorem zX.put{U ad:Mu}{P Q:List N3}{pc pr ps:Addr}{done:List (Nat×Nat)}{x:Nat×Nat}(h:zX U P Q pc pr ps done ad)(hx:x ∉ done):zX U P Q pc pr ps (done++[x]) (ck ad ps (.set (done.map rK++[rK x]))) where
 sub:=h.sub.box h.ns
 nc:=h.nc
 nr:=h.nr
 ns:=h.ns
 c:=by rw[bY h.sc];exact h.c
 r:=by rw[bY h.sr];exact h.r
 s:=by rw[bK,map_append];rfl
 nodup:=List.nodup_append.mpr ⟨h.nodup,by simp,fun a ha b hb e=>hx (by rw[List.mem_singleton.mp hb] at e;exact e▸ha)⟩
 sc:=h.sc
 sr:=h.sr
theorem MF{P Q:List N3}{ts:List Tl}(on:∀t∈ts,OnM P Q t):∀q∈ts.map (ff P Q),q.r<=P.length-1/\q.t<=Q.length-1:=fun q hq=>by
 obtain⟨t,ht,rfl⟩:=List.mem_map.mp hq
 have a:=GR.dO (on t ht).r
 have b:=GR.dO (on t ht).t
 show P.idxOf _<=_/\Q.idxOf _<=_
 omega
theorem sub_len{qs:List GR.Bx}{C R:Nat}(hin:∀q∈qs,q.r<=C/\q.t<=R){done:List (Nat×Nat)}(hn:done.Nodup)(hp:∀x∈done,x∈GR.cells qs):done.length<=C*R:=by
 rw[<- GR.yM]
 refine GR.pig hn fun x hx=>?_
 obtain⟨q,hq,h⟩:=GR.ot.mp (hp x hx)
 obtain⟨h1,h2⟩:=hin q hq
 exact GR.cO.mpr ⟨zero_le _,lt_of_lt_of_le h.2.1 h1,zero_le _,lt_of_lt_of_le h.2.2.2 h2⟩
theorem Dr{a b:Nat}:(GR.run a b).take (b-a)=GR.run a b:=List.take_of_length_le (by rw[GR.gN];exact le_refl _)
theorem xM(h:tO ds U Qd):iR ‹Qd› (aG ["bounds","across","upward","columns","rows","covered","left","right","bottom","top","column","row"] ds) U:=by
 obtain⟨P,Q,ts,rfl,⟨np,nq,p0,q0,lp,lq,lt,on,few⟩,q⟩:=h
 unfold iR
 walk_at "rb"
 rw[HN]
 walk_at "rb"
 refine⟨by rw[DM,length_map];omega,G1,?_,?_⟩
 ·intro x hx ad _
  obtain⟨i,m,rfl,_⟩:=D7 hx
  walk_at "rb"
  refine⟨trivial,trivial,?_⟩
  rw[if_pos trivial]
  exact⟨trivial,_,_,rfl,rfl,rfl⟩
 rw[Ag]
 intro pc hpc
 rw[HN]
 walk_at "rb"
 refine⟨by rw[DM,length_map];omega,G1,?_,?_⟩
 ·intro x hx ad _
  obtain⟨i,m,rfl,_⟩:=D7 hx
  walk_at "rb"
  refine⟨trivial,trivial,?_⟩
  rw[if_pos trivial]
  exact⟨trivial,_,_,rfl,rfl,rfl⟩
 rw[Ag]
 intro pr hpr ps hps
 have rc:pr≠pc:=fun e=>by rw[e,bK] at hpr;cases hpr
 have sr:ps≠pr:=fun e=>by rw[e,bK] at hps;cases hps
 have sc:ps≠pc:=fun e=>by rw[e,bY rc.symm,bK] at hps;cases hps
 have hpr':U.b pr=none:=by rw[bY rc] at hpr;exact hpr
 have hps':U.b ps=none:=by rw[bY sr,bY sc] at hps;exact hps
 rw[kQ]
 walk_at "rb"
 have fits:=MF on
 refine⟨fun i ρ ad=>∃r6 r7 r8 r9 r10 r11,ρ=[some (.v (.list (ts.map tI))),some (.v (.list (P.map dN))),some (.v (.list (Q.map dN))),some (.b pc),some (.b pr),some (.b ps),r6,r7,r8,r9,r10,r11]/\zX U P Q pc pr ps (GR.cells ((ts.map (ff P Q)).take i)) ad,
  ⟨_,_,_,_,_,_,rfl,⟨((eY.refl.box hpc).box hpr').box hps',hpc,hpr',hps',by rw[bY sc.symm,bY rc.symm,bK];rfl,by rw[bY sr.symm,bK];rfl,by rw[bK];rfl,List.nodup_nil,sc.symm,sr.symm⟩⟩,?_,?_⟩
 ·rintro i x ρ ad hx ⟨r6,r7,r8,r9,r10,r11,rfl,st⟩
  obtain⟨t,et,rfl⟩:∃t,ts[i]? = some t/\x=tI t:=by
   rw[getElem?_map] at hx
   cases e:ts[i]? with
   |none=>rw[e] at hx;cases hx
   |some t=>rw[e] at hx;exact⟨t,rfl,(Option.some.inj hx).symm⟩
  have o:=on t (mem_of_getElem? et)
  have eb:(ts.map (ff P Q))[i]? = some (ff P Q t):=by rw[getElem?_map,et];rfl
  have ea:GR.cells ((ts.map (ff P Q)).take (i+1))=GR.cells ((ts.map (ff P Q)).take i)++GR.cellsOf (ff P Q t):=AA eb
  have pa:GR.cells ((ts.map (ff P Q)).take (i+1)) <+: GR.cells (ts.map (ff P Q)):=Ee
  rw[show tI t = .tuple [dN t.x,dN (plus t.x t.w),dN t.y,dN (plus t.y t.h)] from rfl]
  walk_at "rb"
  refine⟨trivial,?_⟩
  rw[kQ]
  walk_at "rb"
  refine⟨pc,_,_,_,rfl,rfl,st.c,oP P np o.l,pc,_,_,_,rfl,rfl,st.c,oP P np o.r,?_⟩
  have e1:=GR.dO o.l
  have e2:=GR.dO o.r
  have e3:=GR.dO o.b
  have e4:=GR.dO o.t
  walk_at "rb"
  refine⟨∅,fun c ρ ad=>∃r10 r11,ρ=[some (.v (.list (ts.map tI))),some (.v (.list (P.map dN))),some (.v (.list (Q.map dN))),some (.b pc),some (.b pr),some (.b ps),some (.v (dN t.x)),some (.v (dN (plus t.x t.w))),some (.v (dN t.y)),some (.v (dN (plus t.y t.h))),r10,r11] /\
   zX U P Q pc pr ps (GR.cells ((ts.map (ff P Q)).take i)++((GR.run (P.idxOf t.x) (P.idxOf (plus t.x t.w))).take c).flatMap fun a=>(GR.run (Q.idxOf t.y) (Q.idxOf (plus t.y t.h))).map fun b=>(a,b)) ad,⟨_,_,rfl,by rw[List.take_zero,List.flatMap_nil,append_nil];exact st⟩,?_,?_⟩
  ·rintro c x ρ am hx2 ⟨s10,s11,rfl,st2⟩
   obtain⟨rfl,hc⟩:=AW hx2
   have ec:(GR.run (P.idxOf t.x) (P.idxOf (plus t.x t.w)))[c]? = some (P.idxOf t.x+c):=Ld ∅
   have eb2:GR.cells ((ts.map (ff P Q)).take i)++((GR.run (P.idxOf t.x) (P.idxOf (plus t.x t.w))).take (c+1)).flatMap (fun a=>(GR.run (Q.idxOf t.y) (Q.idxOf (plus t.y t.h))).map fun b=>(a,b))=(GR.cells ((ts.map (ff P Q)).take i)++((GR.run (P.idxOf t.x) (P.idxOf (plus t.x t.w))).take c).flatMap fun a=>(GR.run (Q.idxOf t.y) (Q.idxOf (plus t.y t.h))).map fun b=>(a,b))++(GR.run (Q.idxOf t.y) (Q.idxOf (plus t.y t.h))).map fun b=>(P.idxOf t.x+c,b):=by
    rw[AA ec,append_assoc]
   have pb:GR.cells ((ts.map (ff P Q)).take i)++((GR.run (P.idxOf t.x) (P.idxOf (plus t.x t.w))).take (c+1)).flatMap (fun a=>(GR.run (Q.idxOf t.y) (Q.idxOf (plus t.y t.h))).map fun b=>(a,b)) <+: GR.cells ((ts.map (ff P Q)).take (i+1)):=by
    rw[ea]
    exact (List.prefix_append_right_inj _).mpr Ee
   generalize GR.cells ((ts.map (ff P Q)).take i)++((GR.run (P.idxOf t.x) (P.idxOf (plus t.x t.w))).take c).flatMap (fun a=>(GR.run (Q.idxOf t.y) (Q.idxOf (plus t.y t.h))).map fun b=>(a,b))=pre at st2 eb2
   walk_at "rb"
   rw[kQ]
   walk_at "rb"
   refine⟨pr,_,_,_,rfl,rfl,st2.r,oP Q nq o.b,pr,_,_,_,rfl,rfl,st2.r,oP Q nq o.t,?_⟩
   walk_at "rb"
   refine⟨∅,fun k ρ ad=>∃r11,ρ=[some (.v (.list (ts.map tI))),some (.v (.list (P.map dN))),some (.v (.list (Q.map dN))),some (.b pc),some (.b pr),some (.b ps),some (.v (dN t.x)),some (.v (dN (plus t.x t.w))),some (.v (dN t.y)),some (.v (dN (plus t.y t.h))),some (.v (.int ((P.idxOf t.x:Nat)+(c:Nat)))),r11] /\
    zX U P Q pc pr ps (pre++((GR.run (Q.idxOf t.y) (Q.idxOf (plus t.y t.h))).take k).map fun b=>(P.idxOf t.x+c,b)) ad,⟨_,rfl,by rw[List.take_zero,map_nil,append_nil];exact st2⟩,?_,?_⟩
   ·rintro k x ρ ci hx3 ⟨s11,rfl,st3⟩
    obtain⟨rfl,hk⟩:=AW hx3
    have ek:(GR.run (Q.idxOf t.y) (Q.idxOf (plus t.y t.h)))[k]? = some (Q.idxOf t.y+k):=Ld ∅
    have es:pre++((GR.run (Q.idxOf t.y) (Q.idxOf (plus t.y t.h))).take (k+1)).map (fun b=>(P.idxOf t.x+c,b))=(pre++((GR.run (Q.idxOf t.y) (Q.idxOf (plus t.y t.h))).take k).map fun b=>(P.idxOf t.x+c,b))++[(P.idxOf t.x+c,Q.idxOf t.y+k)]:=by
     rw[List.take_succ,ek,map_append,append_assoc]
     rfl
    have pk:pre++((GR.run (Q.idxOf t.y) (Q.idxOf (plus t.y t.h))).take (k+1)).map (fun b=>(P.idxOf t.x+c,b)) <+: GR.cells (ts.map (ff P Q)):=by
     refine List.IsPrefix.trans ?_ (pb.trans pa)
     rw[eb2]
     exact (List.prefix_append_right_inj _).mpr (by rw[List.map_take];exact List.take_prefix _ _)
    have pk0:pre++((GR.run (Q.idxOf t.y) (Q.idxOf (plus t.y t.h))).take k).map (fun b=>(P.idxOf t.x+c,b)) <+: GR.cells (ts.map (ff P Q)):=List.IsPrefix.trans (by rw[es];exact List.prefix_append _ _) pk
    rw[es] at pk
    generalize pre++((GR.run (Q.idxOf t.y) (Q.idxOf (plus t.y t.h))).take k).map (fun b=>(P.idxOf t.x+c,b))=done at st3 es pk pk0
    have le:done.length<=9000:=le_trans (sub_len fits st3.nodup fun x hx=>pk0.subset hx) few
    have kc:ue (.v (.tuple [.int ((P.idxOf t.x:Nat)+(c:Nat)),.int ((Q.idxOf t.y:Nat)+(k:Nat))]))=some (rK (P.idxOf t.x+c,Q.idxOf t.y+k)):=by
     show some _=some _
     unfold rK
     simp only[Int.natCast_add]
    walk_at "rb"
    refine⟨_,ps,_,kc,rfl,st3.s,by show (done.map rK).length<=9800;rw[length_map];omega,fun z=>absurd z ⋯,?_⟩
    walk_at "rb"
    by_cases cc:(P.idxOf t.x+c,Q.idxOf t.y+k)∈done
    ·rw[xB (by show decide _=true;exact decide_eq_true (yk.mpr cc))]
     walk_at "rb"
     have e:GR.vW (ts.map (ff P Q)) (P.length-1) (Q.length-1)=false:=by
      unfold GR.vW
      rw[decide_eq_false,Bool.false_and]
      intro hn
      have:=List.nodup_append.mp (hn.sublist pk.sublist)
      exact this.2.2 _ cc _ mem_cons_self rfl
     rw[e] at q
     exact q _ st3.sub
    ·rw[rV (by show ¬ decide _=true;rw[decide_eq_true_iff,yk];exact cc)]
     walk_at "rb"
     refine⟨ps,_,rfl,st3.s,_,_,kc,st3.s,by rw[length_map];omega,fun z=>cc (yk.mp z),?_⟩
     exact⟨_,rfl,by rw[es];exact st3.put cc⟩
   ·rintro ρ ci ⟨s11,rfl,st3⟩
    rw[xS,show ((Q.idxOf (plus t.y t.h):Nat)-(Q.idxOf t.y:Nat):Int).toNat=Q.idxOf (plus t.y t.h)-Q.idxOf t.y by omega,Dr] at st3
    exact⟨_,_,rfl,by rw[eb2];exact st3⟩
  ·rintro ρ ci ⟨s10,s11,rfl,st3⟩
   rw[xS,show ((P.idxOf (plus t.x t.w):Nat)-(P.idxOf t.x:Nat):Int).toNat=P.idxOf (plus t.x t.w)-P.idxOf t.x by omega,Dr] at st3
   exact⟨_,_,_,_,_,_,rfl,by rw[ea];exact st3⟩
 ·rintro ρ ad ⟨r6,r7,r8,r9,r10,r11,rfl,st⟩
  rw[List.take_of_length_le (by rw[length_map,length_map];exact le_refl _)] at st
  have le:(GR.cells (ts.map (ff P Q))).length<=9000:=le_trans (sub_len fits st.nodup fun x hx=>hx) few
  walk_at "rb"
  refine⟨ps,_,rfl,st.s,by show (List.map rK _).length<=9800;rw[length_map];omega,?_⟩
  walk_at "rb"
  have:=q ad st.sub
  have l1:0<P.length:=List.length_pos_iff.mpr p0
  have l2:0<Q.length:=List.length_pos_iff.mpr q0
  rw[length_map,length_map,show ((P.length:Nat):Int)-1=((P.length-1:Nat):Int) by omega,show ((Q.length:Nat):Int)-1=((Q.length-1:Nat):Int) by omega]
  refine⟨gg (Sz.of (n:=10) ∅) (Sz.of (n:=10) ∅) ⋯,?_⟩
  have e:decide (((DY (Box.set (List.map rK (GR.cells (List.map (ff P Q) ts)))):Nat):Int)=((P.length-1:Nat):Int)*((Q.length-1:Nat):Int))=GR.vW (List.map (ff P Q) ts) (P.length-1) (Q.length-1):=by
   unfold GR.vW
   rw[decide_eq_true st.nodup,Bool.true_and]
   refine decide_eq_decide.mpr ?_
   show ((List.map rK (GR.cells (List.map (ff P Q) ts))).length:Int)=_↔_
   rw[length_map,<- Int.natCast_mul,Int.natCast_inj]
  rw[e]
  exact this
end
structure wK(d:Int)(t:Tl):Prop where
 ox:Ok t.x
 oy:Ok t.y
 ow:Ok t.w
 oh:Ok t.h
 sx:0<=sg d t.x.a t.x.b
 sy:0<=sg d t.y.a t.y.b
 sw:sg d t.w.a t.w.b=1
 sh:sg d t.h.a t.h.b=1
structure ER(d:Int)(w h:N3)(ts:List Tl):Prop where
 ow:Ok w
 oh:Ok h
 sw:sg d w.a w.b=1
 sh:sg d h.a h.b=1
 some:1<=ts.length
 few:ts.length<=60
 tile:∀t∈ts,wK d t
noncomputable def kF(w h:N3)(ts:List Tl):PyData:=.tuple [dN w,dN h,.tuple (ts.map tlD)]
structure Bd4(n:Nat)(t:Tl):Prop where
 x:Bd n t.x
 y:Bd n t.y
 w:Bd n t.w
 h:Bd n t.h
noncomputable def Ms(m:Nat)(ts:List Tl):Prop:=∃X Y:List N3,(∀t∈ts,OnM X Y t)/\X.length<=200/\Y.length<=200/\X.length*Y.length<=m
noncomputable def kR(ts:List Tl):List N3:=ts.flatMap fun t=>[t.x,plus t.x t.w]
noncomputable def kN(ts:List Tl):List N3:=ts.flatMap fun t=>[t.y,plus t.y t.h]
noncomputable def N8(t:PyData):Prop:=JY t/\∀w h ts,t=kF w h ts->Bd 2100 w/\Bd 2100 h/\(∀t∈ts,Bd4 2100 t)/\Ms 8000 ts
noncomputable def HX(d:Int)(t:PyData)(b:Bool):Prop:=(qy d t=false->b=false)/\∀w h ts,t=kF w h ts->ER d w h ts ->
 ∃P Q,rq d P (kR ts)/\rq d Q (kN ts)/\b=(fM P w&&(fM Q h&&GR.vW (ts.map (ff P Q)) (P.length-1) (Q.length-1)))
noncomputable def rA:DSp:=fun ds U K=>∃(d:Int) (t:PyData),ds=[.v (.int d),.v t]/\aB d/\N8 t/\∀b,HX d t b->K (.v (.bool b)) U
theorem BV{ds:List D}{U:Mu}{Q:DK}(h:rA ds U Q):ds.length=2:=by obtain⟨_,_,rfl,_⟩:=h;rfl
noncomputable def lC:DTS:=
 (aE (bQ (de (dB (av vY (af (ag 0) (af (ag 1) ar))))) (aT (dC (.bool false))) br)
 (aE (aS (ag 1) (eK 3 (aP (aq 2) (aP (aq 3) (aP (aq 4) eZ)))))
 (aE (aS (qi [none] (kP (ag 4)) (aq 0) ko (av oJ (af (ag 0) ar))) (aq 5))
 (aE (aS (av oO (af (ag 0) (af (xG [none,none,none,none,none] (k7 (ag 5)) (eK 4 (aP (aq 0) (aP (aq 1) (aP (aq 2) (aP (aq 3) eZ))))) (kP (bR (af (ag 0) (af (ag 1) ar)))) (aq 4) (ag 4)) ar))) (aq 6))
 (aE (aS (av oO (af (ag 0) (af (xG [none,none,none,none,none] (k7 (ag 5)) (eK 4 (aP (aq 0) (aP (aq 1) (aP (aq 2) (aP (aq 3) eZ))))) (kP (bR (af (ag 2) (af (ag 3) ar)))) (aq 4) (ag 4)) ar))) (aq 7))
 (aT (kK (av sN (af (ag 6) (af (ag 2) ar))) (kK (av sN (af (ag 7) (af (ag 3) ar))) (av yt (af (ag 5) (af (ag 6) (af (ag 7) ar))))))))))))
section
variable {U:Mu}{Qd:DK}{ds:List D}
theorem rO{d:Int}{t:PyData}(h:cD d t=true):∃x:N3,t=dN x/\Ok x/\sg d x.a x.b=1:=by
 cases n:isNum t with
 |false=>rw[yi n] at h;cases h
 |true=>
  obtain⟨x,rfl,ox⟩:=gC n
  rw[fG ox] at h
  exact⟨x,rfl,ox,of_decide_eq_true h⟩
theorem Mz{d:Int}{t:PyData}(h:kJ d t=true):∃tl,t=tlD tl/\wK d tl:=by
 by_cases ht:∃xs,t = .tuple xs
 ·obtain⟨xs,rfl⟩:=ht
  by_cases l:xs.length=4
  ·obtain⟨a,b,c,e,rfl⟩:=Ht l
   rw[Bh] at h
   simp only[and_eq_true,decide_eq_true_iff] at h
   obtain⟨⟨na,nb,sa,sb⟩,hc,he⟩:=h
   obtain⟨x,rfl,ox⟩:=gC na
   obtain⟨y,rfl,oy⟩:=gC nb
   obtain⟨w,rfl,ow,sw⟩:=rO hc
   obtain⟨k,rfl,ok,sk⟩:=rO he
   exact⟨⟨x,y,w,k⟩,rfl,ox,oy,ow,ok,sa,sb,sw,sk⟩
  ·rw[AI l] at h;cases h
 ·rw[zW ht] at h;cases h
theorem KW{d:Int}{ts:List PyData}(h:ts.all (kJ d)=true):∃us:List Tl,ts=us.map tlD/\∀t∈us,wK d t:=by
 induction ts with
 |nil=>exact⟨[],rfl,fun _ z=>absurd z not_mem_nil⟩
 |cons t ts ih=>
  rw[List.all_cons,and_eq_true] at h
  obtain⟨us,rfl,g⟩:=ih h.2
  obtain⟨tl,rfl,v⟩:=Mz h.1
  exact⟨tl::us,rfl,fun x hx=>by
   rcases List.mem_cons.mp hx with rfl|hx
   ·exact v
   ·exact g x hx⟩
theorem Mm{d:Int}{t:PyData}(h:qy d t=true):∃w k ts,t=kF w k ts/\ER d w k ts:=by
 by_cases ht:∃xs,t = .tuple xs
 ·obtain⟨xs,rfl⟩:=ht
  by_cases l:xs.length=3
  ·obtain⟨a,b,c,rfl⟩:=Ey l
   by_cases hc:∃ts,c = .tuple ts
   ·obtain⟨ts,rfl⟩:=hc
    unfold qy at h
    simp only[and_eq_true,decide_eq_true_iff] at h
    obtain⟨ha,hb,h1,h2,h3⟩:=h
    obtain⟨w,rfl,ow,sw⟩:=rO ha
    obtain⟨k,rfl,ok,sk⟩:=rO hb
    obtain⟨us,rfl,g⟩:=KW h3
    rw[length_map] at h1 h2
    exact⟨w,k,us,rfl,ow,ok,sw,sk,h1,h2,g⟩
   ·rw[Cg hc] at h;cases h
  ·rw[AX l] at h;cases h
 ·rw[Aa ht] at h;cases h
theorem Bg{t u:Tl}(h:tlD t=tlD u):t=u:=by
 cases t;cases u
 unfold tlD at h
 injection h with h
 simp only[List.cons.injEq,and_true] at h
 obtain⟨h1,h2,h3,h4⟩:=h
 rw[lO h1,lO h2,lO h3,lO h4]
theorem Ex:∀{xs ys:List Tl},xs.map tlD=ys.map tlD->xs=ys
 |[],[],_=>rfl
 |[],_::_,h=>by cases h
 |_::_,[],h=>by cases h
 |x::xs,y::ys,h=>by
  rw[map_cons,map_cons] at h
  injection h with h1 h2
  rw[Bg h1,Ex h2]
theorem J7{w h w' h':N3}{ts ts':List Tl}(e:kF w h ts=kF w' h' ts'):w=w'/\h=h'/\ts=ts':=by
 unfold kF at e
 injection e with e
 simp only[List.cons.injEq,and_true,PyData.tuple.injEq] at e
 exact⟨lO e.1,lO e.2.1,Ex e.2.2⟩
theorem As{d:Int}(hd:aB d){P fs X:List N3}(m:rq d P fs)(h:∀x∈fs,x∈X):P.length<=X.length:=GR.pig (lR hd m.up) fun x hx=>h x ((m.mem x).mp hx)
theorem L6{X Y:List N3}{ts:List Tl}(on:∀t∈ts,OnM X Y t):(∀x∈kR ts,x∈X)/\(∀y∈kN ts,y∈Y):=by
 constructor
 ·intro x hx
  obtain⟨t,ht,h⟩:=List.mem_flatMap.mp hx
  simp only[mem_cons,not_mem_nil,or_false] at h
  rcases h with rfl|rfl
  ·exact (on t ht).l
  ·exact (on t ht).r
 ·intro x hx
  obtain⟨t,ht,h⟩:=List.mem_flatMap.mp hx
  simp only[mem_cons,not_mem_nil,or_false] at h
  rcases h with rfl|rfl
  ·exact (on t ht).b
  ·exact (on t ht).t
theorem LN{d:Int}{P Q:List N3}{ts:List Tl}(mp:rq d P (kR ts))(mq:rq d Q (kN ts)):∀t∈ts,OnM P Q t:=fun t ht=>
 ⟨(mp.mem _).mpr (List.mem_flatMap.mpr ⟨t,ht,mem_cons_self⟩),(mp.mem _).mpr (List.mem_flatMap.mpr ⟨t,ht,mem_cons_of_mem _ mem_cons_self⟩),(mq.mem _).mpr (List.mem_flatMap.mpr ⟨t,ht,mem_cons_self⟩),(mq.mem _).mpr (List.mem_flatMap.mpr ⟨t,ht,mem_cons_of_mem _ mem_cons_self⟩)⟩
theorem Jy{d:Int}{ts:List Tl}(v:∀t∈ts,wK d t)(b:∀t∈ts,Bd4 2100 t):∀m∈kR ts,Ok m/\Bd 4400 m:=fun m hm=>by
 obtain⟨t,ht,h⟩:=List.mem_flatMap.mp hm
 have V:=v t ht
 have B:=b t ht
 simp only[mem_cons,not_mem_nil,or_false] at h
 rcases h with rfl|rfl
 ·exact⟨V.ox,B.x.mono ⋯⟩
 ·exact⟨dj V.ox V.ow,(sY V.ox V.ow B.x B.w).mono ⋯⟩
theorem Kk{d:Int}{ts:List Tl}(v:∀t∈ts,wK d t)(b:∀t∈ts,Bd4 2100 t):∀m∈kN ts,Ok m/\Bd 4400 m:=fun m hm=>by
 obtain⟨t,ht,h⟩:=List.mem_flatMap.mp hm
 have V:=v t ht
 have B:=b t ht
 simp only[mem_cons,not_mem_nil,or_false] at h
 rcases h with rfl|rfl
 ·exact⟨V.oy,B.y.mono ⋯⟩
 ·exact⟨dj V.oy V.oh,(sY V.oy V.oh B.y B.h).mono ⋯⟩
theorem ua{ts:List Tl}:(kR ts).length=2*ts.length:=by
 unfold kR
 induction ts with
 |nil=>rfl
 |cons t ts ih=>rw[flatMap_cons,length_append,ih,length_cons];simp only[length_cons,length_nil];omega
theorem uE{ts:List Tl}:(kN ts).length=2*ts.length:=by
 unfold kN
 induction ts with
 |nil=>rfl
 |cons t ts ih=>rw[flatMap_cons,length_append,ih,length_cons];simp only[length_cons,length_nil];omega
noncomputable def f2X:PyData->List PyData
 |.tuple [a,b,_,_]=>[a,b]
 |_=>[]
noncomputable def f2Y:PyData->List PyData
 |.tuple [_,_,a,b]=>[a,b]
 |_=>[]
theorem LY(ts:List Tl):(ts.map tI).flatMap f2X=(kR ts).map dN:=by
 induction ts with
 |nil=>rfl
 |cons t ts ih=>rw[map_cons,flatMap_cons,ih];rfl
theorem KP(ts:List Tl):(ts.map tI).flatMap f2Y=(kN ts).map dN:=by
 induction ts with
 |nil=>rfl
 |cons t ts ih=>rw[map_cons,flatMap_cons,ih];rfl
theorem OT{α:Type}{f:α->PyData}{g:PyData->Option PyData}{h:α->PyData}(e:∀x,g (f x)=some (h x))(ts:List α):(ts.map f).filterMap g=ts.map h:=by
 induction ts with
 |nil=>rfl
 |cons t ts ih=>rw[map_cons,filterMap_cons,e,ih];rfl
theorem MI{d:Int}{t:Tl}(v:wK d t):kJ d (tlD t)=true:=by
 unfold tlD
 rw[Bh,tE v.ox,tE v.oy,wo,wo,decide_eq_true v.sx,decide_eq_true v.sy,fG v.ow,fG v.oh,decide_eq_true v.sw,decide_eq_true v.sh]
 rfl
theorem NV{d:Int}{w k:N3}{ts:List Tl}(v:ER d w k ts):qy d (kF w k ts)=true:=by
 show (cD d (dN w)&&(cD d (dN k)&&(decide (1<=(ts.map tlD).length)&&(decide ((ts.map tlD).length<=60)&&(ts.map tlD).all (kJ d)))))=true
 rw[fG v.ow,fG v.oh,decide_eq_true v.sw,decide_eq_true v.sh,length_map,decide_eq_true v.some,decide_eq_true v.few,all_map]
 simp only[Bool.true_and]
 exact List.all_eq_true.mpr fun t ht=>MI (v.tile t ht)
theorem B3(h:rA ds U Qd):lC ‹Qd› (aG ["d","thing","width","height","tiles","bounds","across","upward"] ds) U:=by
 obtain⟨d,t,rfl,hd,⟨fp,lay⟩,q⟩:=h
 unfold lC
 walk_at "rb"
 refine⟨d,t,rfl,hd,fp,?_⟩
 walk_at "rb"
 cases fb:qy d t with
 |false=>
  rw[xB (by rfl)]
  walk_at "rb"
  exact q false ⟨fun _=>rfl,fun w k ts e v=>by rw[e,NV v] at fb;cases fb⟩
 |true=>
  rw[rV (by simp)]
  obtain⟨w,k,ts,rfl,v⟩:=Mm fb
  obtain⟨_,_,bd,X,Y,on,lX,lY,few⟩:=lay w k ts rfl
  have l60:=v.few
  have l1:=v.some
  unfold kF
  walk_at "rb"
  refine⟨trivial,?_⟩
  rw[Bs]
  walk_at "rb"
  refine⟨by rw[length_map];omega,fun p hp=>⟨fun i acc ad=>acc=(ts.take i).map tI/\ad=aW U p acc,⟨rfl,rfl⟩,?_,?_⟩⟩
  ·rintro i x acc ad hx ha ⟨e0,e1⟩
   obtain⟨t,et,rfl⟩:∃t,ts[i]? = some t/\x=tlD t:=by
    rw[getElem?_map] at hx
    cases e:ts[i]? with
    |none=>rw[e] at hx;cases hx
    |some t=>rw[e] at hx;exact⟨t,rfl,(Option.some.inj hx).symm⟩
   have V:=v.tile t (mem_of_getElem? et)
   have B:=bd t (mem_of_getElem? et)
   walk_at "rb"
   refine⟨trivial,?_⟩
   rw[if_pos trivial]
   refine⟨d,t,rfl,⟨V.ox,V.oy,V.ow,V.oh,B.x,B.y,B.w,B.h⟩,?_⟩
   walk_at "rb"
   refine⟨ha,?_,?_⟩
   ·rw[e0,List.take_succ,et,map_append];rfl
   ·rw[e1,ku]
  rintro acc ad ⟨e0,e1⟩ ha
  rw[length_map,take_length] at e0
  subst e0
  rw[e1,Az hp]
  rw[G8]
  walk_at "rb"
  refine⟨by rw[length_map];omega,f2X,by rw[LY,length_map,ua];omega,?_,?_⟩
  ·intro x hx ad _
   obtain⟨t,ht,rfl⟩:=List.mem_map.mp hx
   unfold tI
   walk_at "rb"
   refine⟨trivial,trivial,trivial,trivial,id,rfl,fun y hy ge _=>⟨⟨trivial,trivial,trivial,trivial,trivial⟩,trivial,rfl⟩⟩
  rw[LY]
  refine⟨d,kR ts,rfl,hd,Jy v.tile bd,by rw[ua];omega,fun P mp=>?_⟩
  walk_at "rb"
  rw[G8]
  walk_at "rb"
  refine⟨by rw[length_map];omega,f2Y,by rw[KP,length_map,uE];omega,?_,?_⟩
  ·intro x hx ad _
   obtain⟨t,ht,rfl⟩:=List.mem_map.mp hx
   unfold tI
   walk_at "rb"
   refine⟨trivial,trivial,trivial,trivial,id,rfl,fun y hy ge _=>⟨⟨trivial,trivial,trivial,trivial,trivial⟩,trivial,rfl⟩⟩
  rw[KP]
  refine⟨d,kN ts,rfl,hd,Kk v.tile bd,by rw[uE];omega,fun Q mq=>?_⟩
  walk_at "rb"
  have np:P≠[]:=fun e=>by
   have:kR ts≠[]:=fun z=>by have:=ua (ts:=ts);rw[z] at this;simp at this;omega
   obtain⟨x,hx⟩:=List.exists_mem_of_ne_nil _ this
   have:=(mp.mem x).mpr hx
   rw[e] at this
   exact absurd this not_mem_nil
  have nq:Q≠[]:=fun e=>by
   have:kN ts≠[]:=fun z=>by have:=uE (ts:=ts);rw[z] at this;simp at this;omega
   obtain⟨x,hx⟩:=List.exists_mem_of_ne_nil _ this
   have:=(mq.mem x).mpr hx
   rw[e] at this
   exact absurd this not_mem_nil
  have done:∀b,b=(fM P w&&(fM Q k&&GR.vW (ts.map (ff P Q)) (P.length-1) (Q.length-1)))->Qd (.v (.bool b)) U:=fun b e=>by
   refine q b ⟨fun z=>?_,fun w' k' ts' e' v'=>?_⟩
   ·rw[fb] at z;cases z
   ·obtain⟨rfl,rfl,rfl⟩:=J7 e'
    exact⟨P,Q,mp,mq,e⟩
  refine⟨P,w,rfl,np,?_⟩
  walk_at "rb"
  cases r1:fM P w with
  |false=>
   rw[rV ⋯]
   exact done false (by rw[r1];rfl)
  |true=>
   rw[xB rfl]
   walk_at "rb"
   refine⟨Q,k,rfl,nq,?_⟩
   walk_at "rb"
   cases r2:fM Q k with
   |false=>
    rw[rV ⋯]
    exact done false (by rw[r1,r2];rfl)
   |true=>
    rw[xB rfl]
    walk_at "rb"
    obtain⟨oX,oY⟩:=L6 on
    have fP:=As hd mp oX
    have fQ:=As hd mq oY
    have fm:(P.length-1)*(Q.length-1)<=X.length*Y.length:=Nat.mul_le_mul ∅ ∅
    refine⟨P,Q,ts,rfl,⟨lR hd mp.up,lR hd mq.up,np,nq,∅,∅,∅,LN mp mq,∅⟩,?_⟩
    walk_at "rb"
    exact done _ (by rw[r1,r2];rfl)
end
theorem A3{x y:N3}(ox:Ok x)(oy:Ok y):plus x (less y x)=y:=
 ((ay ox).plus ox (eQ oy ox) ((ay oy).less oy ox (ay ox))).eq (dj ox (eQ oy ox)) oy (ay oy) (by grind) (by grind)
theorem p4{d:Int}{x:N3}:dif d x au=sg d x.a x.b:=by
 unfold dif au
 simp only[mul_one,Int.zero_mul,Int.sub_zero]
theorem GK{d:Int}{x:N3}(hd:aB d):0<=sg d x.a x.b↔¬ dif d au x=1:=by
 rw[dif_neg hd,p4]
 have:=jV d x.a x.b
 omega
theorem D1{d:Int}(hd:aB d){P:List N3}(up:dG d P)(nn:∀x∈P,0<=sg d x.a x.b)(h0:au∈P):P.head? = some au:=by
 cases P with
 |nil=>exact absurd h0 not_mem_nil
 |cons x P=>
  rcases List.mem_cons.mp h0 with e|e
  ·rw[<- e];rfl
  ·exact absurd ((List.pairwise_cons.mp up).1 au e) ((GK hd).mp (nn x mem_cons_self))
theorem Jo{P:List N3}{e:N3}:fM P e=true↔P.head? = some au/\P.getLast? = some e:=by unfold fM;rw[and_eq_true,decide_eq_true_iff,decide_eq_true_iff]
noncomputable def jr(xs ys:List N3)(q:GR.Bx):Tl:=⟨xs.getD q.l au,ys.getD q.b au,less (xs.getD q.r au) (xs.getD q.l au),less (ys.getD q.t au) (ys.getD q.b au)⟩
structure jq(d:Int)(xs:List N3)(C:Nat):Prop where
 len:xs.length=C+1
 up:dG d xs
 ok:∀x∈xs,Ok x
 zero:xs[0]? = some au
theorem getD_at{xs:List N3}{i:Nat}(h:i<xs.length):xs.getD i au=xs[i]:=by
 rw[getD_eq_getElem?_getD,getElem?_eq_getElem h];rfl
theorem PX{xs:List N3}{i:Nat}(nd:xs.Nodup)(h:i<xs.length):xs.idxOf xs[i]=i:=by
 have hm:xs[i]∈xs:=getElem_mem h
 have e:=GR.wO hm
 have hl:=GR.dO hm
 rcases Nat.lt_trichotomy (xs.idxOf xs[i]) i with z|z|z
 ·exact absurd e (List.pairwise_iff_getElem.mp nd _ _ hl h z)
 ·exact z
 ·exact absurd e.symm (List.pairwise_iff_getElem.mp nd _ _ h hl z)
theorem idx_map{P:List N3}{f:N3->Nat}{x:N3}(hx:x∈P)(inj:∀a∈P,∀b∈P,f a=f b->a=b):P.idxOf x=(P.map f).idxOf (f x):=by
 induction P with
 |nil=>exact absurd hx not_mem_nil
 |cons y P ih=>
  rw[map_cons,List.idxOf_cons,List.idxOf_cons]
  by_cases e:y=x
  ·subst e;simp
  ·have e2:f y≠f x:=fun z=>e (inj y mem_cons_self x hx z)
   have hx':x∈P:=by
    rcases List.mem_cons.mp hx with z|z
    ·exact absurd z.symm e
    ·exact z
   simp only[beq_iff_eq,e,e2,if_false,cond_false,beq_eq_false_iff_ne.mpr e,beq_eq_false_iff_ne.mpr e2]
   rw[ih hx' fun a ha b hb=>inj a (mem_cons_of_mem _ ha) b (mem_cons_of_mem _ hb)]
theorem PJ{d:Int}(hd:aB d){xs:List N3}(up:dG d xs){a b:N3}(ha:a∈xs)(hb:b∈xs)(h:dif d b a=1):xs.idxOf a<xs.idxOf b:=by
 have ea:=GR.wO ha
 have eb:=GR.wO hb
 rcases Nat.lt_trichotomy (xs.idxOf a) (xs.idxOf b) with z|z|z
 ·exact z
 ·have:xs[xs.idxOf a]'(GR.dO ha)=xs[xs.idxOf b]'(GR.dO hb):=by congr 1
  rw[ea,eb] at this
  rw[this] at h
  exact absurd h (Bw hd)
 ·have:=List.pairwise_iff_getElem.mp up _ _ (GR.dO hb) (GR.dO ha) z
  rw[ea,eb] at this
  rw[dif_neg hd,this] at h
  exact absurd h ⋯
theorem PL{d:Int}(hd:aB d){xs P:List N3}(up:dG d xs)(hp:dG d P)(sub:∀x∈P,x∈xs):GR.Up (P.map xs.idxOf):=by
 unfold GR.Up
 rw[List.pairwise_map]
 exact List.Pairwise.imp_of_mem (fun {a b} ha hb h=>PJ hd up (sub a ha) (sub b hb) h) hp
theorem NX{d:Int}(hd:aB d){P:List N3}{w:N3}(up:dG d P)(hw:w∈P)(top:∀x∈P,¬ dif d x w=1):P.getLast? = some w:=by
 have l0:0<P.length:=List.length_pos_of_mem hw
 rw[List.getLast?_eq_getElem?,getElem?_eq_getElem ∅]
 have e:=GR.wO hw
 have hl:=GR.dO hw
 rcases lt_or_ge (P.idxOf w) (P.length-1) with z|z
 ·have:=List.pairwise_iff_getElem.mp up _ _ hl ∅ z
  rw[e] at this
  exact absurd this (top _ (getElem_mem _))
 ·have:P[P.idxOf w]'hl=P[P.length-1]:=by congr 1;omega
  rw[<- this,e]
theorem jq.at{d:Int}{xs:List N3}{C i:Nat}(f:jq d xs C)(h:i<=C):i<xs.length:=by have:=f.len;omega
theorem jq.iw{d:Int}{xs:List N3}{C i:Nat}(f:jq d xs C)(h:i<=C):Ok (xs.getD i au):=by rw[getD_at (f.at h)];exact f.ok _ (getElem_mem _)
theorem jq.lt{d:Int}{xs:List N3}{C i j:Nat}(f:jq d xs C)(h:i<j)(hj:j<=C):dif d (xs.getD j au) (xs.getD i au)=1:=by
 rw[getD_at (f.at hj),getD_at (f.at ∅)]
 exact List.pairwise_iff_getElem.mp f.up _ _ _ _ h
theorem jq.nn{d:Int}(hd:aB d){xs:List N3}{C i:Nat}(f:jq d xs C)(h:i<=C):0<=sg d (xs.getD i au).a (xs.getD i au).b:=by
 have z:xs.getD 0 au=au:=by rw[getD_eq_getElem?_getD,f.zero];rfl
 cases i with
 |zero=>rw[z,show sg d au.a au.b=0 from b8.mpr ⟨rfl,rfl⟩];exact Int.le_refl _
 |succ i=>
  have:=f.lt (i:=0) (j:=i+1) ∅ h
  rw[z,p4] at this
  omega
theorem jq.pos{d:Int}{xs:List N3}{C:Nat}(f:jq d xs C)(h:0<C):sg d (xs.getD C au).a (xs.getD C au).b=1:=by
 have z:xs.getD 0 au=au:=by rw[getD_eq_getElem?_getD,f.zero];rfl
 have:=f.lt (i:=0) (j:=C) h (le_refl _)
 rw[z,p4] at this
 exact this
theorem Dq{d:Int}{xs ys:List N3}{C R:Nat}(fx:jq d xs C){q:GR.Bx}(hl:q.l<q.r)(hr:q.r<=C):plus (jr xs ys q).x (jr xs ys q).w=xs.getD q.r au:=A3 (fx.iw ∅) (fx.iw hr)
theorem BC{d:Int}{xs ys:List N3}{C R:Nat}(fy:jq d ys R){q:GR.Bx}(hl:q.b<q.t)(hr:q.t<=R):plus (jr xs ys q).y (jr xs ys q).h=ys.getD q.t au:=A3 (fy.iw ∅) (fy.iw hr)
theorem Pd{d:Int}(hd:aB d){xs ys:List N3}{C R:Nat}(fx:jq d xs C)(fy:jq d ys R){q:GR.Bx}(h:q.l<q.r/\q.r<=C/\q.b<q.t/\q.t<=R):wK d (jr xs ys q) where
 ox:=fx.iw ∅
 oy:=fy.iw ∅
 ow:=eQ (fx.iw ∅) (fx.iw ∅)
 oh:=eQ (fy.iw ∅) (fy.iw ∅)
 sx:=fx.nn hd ∅
 sy:=fy.nn hd ∅
 sw:=by
  show sg d (less _ _).a (less _ _).b=1
  rw[vZ hd (fx.iw ∅) (fx.iw ∅)]
  exact fx.lt h.1 h.2.1
 sh:=by
  show sg d (less _ _).a (less _ _).b=1
  rw[vZ hd (fy.iw ∅) (fy.iw ∅)]
  exact fy.lt h.2.2.1 h.2.2.2
theorem Hf{d:Int}(hd:aB d){xs P es:List N3}{C:Nat}(f:jq d xs C)(hC:0<C)(mp:rq d P es)(sub:∀x∈es,x∈xs)(h0:au∈es)(h1:xs.getD C au∈es) :
  fM P (xs.getD C au)=true/\GR.Up (P.map xs.idxOf)/\(∀a∈P.map xs.idxOf,a<=C)/\(∀i,i<=C->xs.getD i au∈es->i∈P.map xs.idxOf/\P.idxOf (xs.getD i au)=(P.map xs.idxOf).idxOf i):=by
 have subP:∀x∈P,x∈xs:=fun x hx=>sub x ((mp.mem x).mp hx)
 have nd:=lR hd f.up
 have nnx:∀x∈xs,0<=sg d x.a x.b:=fun x hx=>by
  obtain⟨i,hi,rfl⟩:=List.mem_iff_getElem.mp hx
  have:=f.nn hd (i:=i) (by have:=f.len;omega)
  rw[getD_at hi] at this
  exact this
 have inj:∀a∈P,∀b∈P,xs.idxOf a=xs.idxOf b->a=b:=fun a ha b hb e=>by
  have e1:=GR.wO (subP a ha)
  have e2:=GR.wO (subP b hb)
  have:xs[xs.idxOf a]'(GR.dO (subP a ha))=xs[xs.idxOf b]'(GR.dO (subP b hb)):=by congr 1
  rw[e1,e2] at this
  exact this
 refine⟨Jo.mpr ⟨D1 hd mp.up (fun x hx=>nnx x (subP x hx)) ((mp.mem _).mpr h0),NX hd mp.up ((mp.mem _).mpr h1) fun x hx h=>?_⟩,PL hd f.up mp.up subP,fun a ha=>?_,fun i hi he=>?_⟩
 ·obtain⟨i,hi,rfl⟩:=List.mem_iff_getElem.mp (subP x hx)
  have hi':i<=C:=by have:=f.len;omega
  rcases Nat.lt_or_eq_of_le hi' with z|z
  ·have:=f.lt z (le_refl _)
   rw[getD_at hi] at this
   rw[dif_neg hd,this] at h
   exact absurd h ⋯
  ·subst z
   rw[getD_at hi] at h
   exact Bw hd h
 ·obtain⟨x,hx,rfl⟩:=List.mem_map.mp ha
  have:=GR.dO (subP x hx)
  have:=f.len
  omega
 ·have hp:xs.getD i au∈P:=(mp.mem _).mpr he
  have e:xs.idxOf (xs.getD i au)=i:=by rw[getD_at (f.at hi)];exact PX nd (f.at hi)
  refine⟨List.mem_map.mpr ⟨_,hp,e⟩,?_⟩
  rw[idx_map hp inj,e]
theorem Jd{d:Int}(hd:aB d){xs ys:List N3}{C R:Nat}(fx:jq d xs C)(fy:jq d ys R)(hC:0<C)(hR:0<R){qs:List GR.Bx}(cov:GR.AY qs C R){P Q:List N3}(mp:rq d P (kR (qs.map (jr xs ys))))(mq:rq d Q (kN (qs.map (jr xs ys)))) :
  (fM P (xs.getD C au)&&(fM Q (ys.getD R au)&&GR.vW ((qs.map (jr xs ys)).map (ff P Q)) (P.length-1) (Q.length-1)))=true:=by
 have inX:∀q∈qs,xs.getD q.l au∈kR (qs.map (jr xs ys))/\xs.getD q.r au∈kR (qs.map (jr xs ys)):=fun q hq=>by
  have h:=cov.fits q hq
  refine⟨List.mem_flatMap.mpr ⟨_,mem_map_of_mem hq,mem_cons_self⟩,List.mem_flatMap.mpr ⟨_,mem_map_of_mem hq,?_⟩⟩
  rw[Dq (R:=R) fx h.1 h.2.1]
  exact mem_cons_of_mem _ mem_cons_self
 have inY:∀q∈qs,ys.getD q.b au∈kN (qs.map (jr xs ys))/\ys.getD q.t au∈kN (qs.map (jr xs ys)):=fun q hq=>by
  have h:=cov.fits q hq
  refine⟨List.mem_flatMap.mpr ⟨_,mem_map_of_mem hq,mem_cons_self⟩,List.mem_flatMap.mpr ⟨_,mem_map_of_mem hq,?_⟩⟩
  rw[BC (C:=C) fy h.2.2.1 h.2.2.2]
  exact mem_cons_of_mem _ mem_cons_self
 have subX:∀x∈kR (qs.map (jr xs ys)),x∈xs:=fun x hx=>by
  obtain⟨t,ht,h⟩:=List.mem_flatMap.mp hx
  obtain⟨q,hq,rfl⟩:=List.mem_map.mp ht
  have g:=cov.fits q hq
  rw[Dq (R:=R) fx g.1 g.2.1] at h
  simp only[mem_cons,not_mem_nil,or_false] at h
  rcases h with rfl|rfl
  ·show xs.getD q.l au∈xs
   rw[getD_at (fx.at ∅)];exact getElem_mem _
  ·rw[getD_at (fx.at ∅)];exact getElem_mem _
 have subY:∀x∈kN (qs.map (jr xs ys)),x∈ys:=fun x hx=>by
  obtain⟨t,ht,h⟩:=List.mem_flatMap.mp hx
  obtain⟨q,hq,rfl⟩:=List.mem_map.mp ht
  have g:=cov.fits q hq
  rw[BC (C:=C) fy g.2.2.1 g.2.2.2] at h
  simp only[mem_cons,not_mem_nil,or_false] at h
  rcases h with rfl|rfl
  ·show ys.getD q.b au∈ys
   rw[getD_at (fy.at ∅)];exact getElem_mem _
  ·rw[getD_at (fy.at ∅)];exact getElem_mem _
 have zx:xs.getD 0 au=au:=by rw[getD_eq_getElem?_getD,fx.zero];rfl
 have zy:ys.getD 0 au=au:=by rw[getD_eq_getElem?_getD,fy.zero];rfl
 obtain⟨⟨q1,m1,e1⟩,⟨q2,m2,e2⟩,⟨q3,m3,e3⟩,⟨q4,m4,e4⟩⟩:=cov.ends hC hR
 obtain⟨r1,u1,a1,i1⟩:=Hf hd fx hC mp subX (by have:=(inX q1 m1).1;rw[e1,zx] at this;exact this) (by have:=(inX q2 m2).2;rw[e2] at this;exact this)
 obtain⟨r2,u2,a2,i2⟩:=Hf hd fy hR mq subY (by have:=(inY q3 m3).1;rw[e3,zy] at this;exact this) (by have:=(inY q4 m4).2;rw[e4] at this;exact this)
 rw[r1,r2,Bool.true_and,Bool.true_and]
 have g:∀q∈qs,GR.OnG (P.map xs.idxOf) (Q.map ys.idxOf) q:=fun q hq=>by
  have h:=cov.fits q hq
  exact⟨(i1 q.l ∅ (inX q hq).1).1,(i1 q.r ∅ (inX q hq).2).1,(i2 q.b ∅ (inY q hq).1).1,(i2 q.t ∅ (inY q hq).2).1⟩
 have key:=GR.Pw u1 u2 cov g a1 a2
 rw[length_map,length_map] at key
 have e:(qs.map (jr xs ys)).map (ff P Q)=qs.map (GR.cb (P.map xs.idxOf) (Q.map ys.idxOf)):=by
  rw[map_map]
  refine List.map_congr_left fun q hq=>?_
  have h:=cov.fits q hq
  show ff P Q (jr xs ys q)=_
  unfold ff GR.cb
  rw[Dq (R:=R) fx h.1 h.2.1,BC (C:=C) fy h.2.2.1 h.2.2.2,<- (i1 q.l ∅ (inX q hq).1).2,<- (i1 q.r ∅ (inX q hq).2).2,<- (i2 q.b ∅ (inY q hq).1).2,<- (i2 q.t ∅ (inY q hq).2).2]
  rfl
 rw[e]
 exact key
noncomputable def Six(k:Nat)(x:N3):Prop:=∃A B:Int,Rep x A B 6/\A.natAbs<=k/\B.natAbs<=k
structure Pa(d:Int)(xs ys:List N3)(C R:Nat)(qs:List GR.Bx):Prop where
 fx:jq d xs C
 fy:jq d ys R
 c0:0<C
 r0:0<R
 c60:C<=60
 r60:R<=60
 cr:C*R<=60
 bx:∀x∈xs,Six 3600 x
 by_:∀y∈ys,Six 3600 y
 cov:GR.AY qs C R
noncomputable def Drawn(d:Int)(t:PyData):Prop:=∃xs ys C R qs,Pa d xs ys C R qs/\t=kF (xs.getD C au) (ys.getD R au) (qs.map (jr xs ys))
noncomputable def lr:DTS:=
 (aT (av dE (af (ag 0) (af (av og (af (ag 1) ar)) ar))))
section
variable {U:Mu}{Qd:DK}{ds:List D}
theorem Dn(h:j6 ds U Qd):lr ‹Qd› (aG ["_law_x","_law_y"] ds) U:=by
 obtain⟨x,y,rfl,ox,oy,bx,by_,q⟩:=h
 unfold lr
 walk_at "rn"
 refine⟨y,rfl,x,minus y,rfl,ox,ie oy,bx.mono ⋯,(qT by_).mono ⋯,?_⟩
 have e:plus x (minus y)=less x y:=Rep.eq (dj ox (ie oy)) (eQ ox oy) ((ay ox).plus ox (ie oy) (ay oy).minus) ((ay ox).less ox oy (ay oy)) (by grind) (by grind)
 rw[e]
 exact q
end
noncomputable def rT(n:Nat)(t:PyData):Prop:=Few t/\∀x,t=dN x->Bd n x
noncomputable def Rv(z:PyData):Prop:=∀a b c e,z≠.tuple [a,b,c,e]
noncomputable def Nm(k:Nat)(ts:List Tl):Prop:=∃X Y:List N3,(∀t∈ts,OnM X Y t)/\X.length<=61+2*k/\Y.length<=61+2*k
noncomputable def NO(k n:Nat)(t:PyData):Prop:=JY t/\∀w h ts,t=kF w h ts->Bd n w/\Bd n h/\(∀t∈ts,Bd4 n t)/\Nm k ts
structure TOk(t:Tl):Prop where
 x:Ok t.x
 y:Ok t.y
 w:Ok t.w
 h:Ok t.h
structure QY(k n:Nat)(w h:N3)(ts:List Tl):Prop where
 ow:Ok w
 oh:Ok h
 bw:Bd n w
 bh:Bd n h
 ok:∀t∈ts,TOk t
 bd:∀t∈ts,Bd4 n t
 l1:1<=ts.length
 l60:ts.length<=60
 QH:Nm k ts
section
variable {U:Mu}{Qd:DK}{ds:List D}
theorem rT.part{n:Nat}{t:PyData}(h:rT n t)(l:n<=4400):yz t:=⟨h.1,fun x e=>(h.2 x e).mono l⟩
theorem tR{n:Nat}{x:N3}(b:Bd n x):rT n (dN x):=⟨Ez,fun y e=>by rw[<- lO e];exact b⟩
theorem OnM.mono{X Y X' Y':List N3}{t:Tl}(h:OnM X Y t)(hx:∀x∈X,x∈X')(hy:∀y∈Y,y∈Y'):OnM X' Y' t:=⟨hx _ h.l,hx _ h.r,hy _ h.b,hy _ h.t⟩
theorem Lr{ts:List Tl}(ys:List PyData):∀{X Y:List N3},(∀t∈ts,OnM X Y t)->∃X' Y':List N3,X'.length<=X.length+2*ys.length/\Y'.length<=Y.length+2*ys.length/\(∀t∈ts,OnM X' Y' t)/\∀u,tlD u∈ys->OnM X' Y' u:=by
 induction ys with
 |nil=>intro X Y on;exact⟨X,Y,le_refl _,le_refl _,on,fun u h=>absurd h not_mem_nil⟩
 |cons y ys ih=>
  intro X Y on
  obtain⟨X',Y',lx,ly,on',onu⟩:=ih on
  by_cases c:∃u,y=tlD u
  ·obtain⟨u,rfl⟩:=c
   have mx:∀x∈X',x∈u.x::plus u.x u.w::X':=fun x h=>mem_cons_of_mem _ (mem_cons_of_mem _ h)
   have my:∀x∈Y',x∈u.y::plus u.y u.h::Y':=fun x h=>mem_cons_of_mem _ (mem_cons_of_mem _ h)
   refine⟨u.x::plus u.x u.w::X',u.y::plus u.y u.h::Y',?_,?_,fun t ht=>(on' t ht).mono mx my,fun v hv=>?_⟩
   ·simp only[length_cons];omega
   ·simp only[length_cons];omega
   ·rcases List.mem_cons.mp hv with e|e
    ·rw[Bg e]
     exact⟨mem_cons_self,mem_cons_of_mem _ mem_cons_self,mem_cons_self,mem_cons_of_mem _ mem_cons_self⟩
    ·exact (onu v e).mono mx my
  ·refine⟨X',Y',?_,?_,on',fun v hv=>?_⟩
   ·simp only[length_cons];omega
   ·simp only[length_cons];omega
   ·rcases List.mem_cons.mp hv with e|e
    ·exact absurd ⟨v,e.symm⟩ c
    ·exact onu v e
noncomputable def Lq(n:Nat)(y:PyData):Prop:=∀a b c e,y = .tuple [a,b,c,e]->rT n a/\rT n b/\rT n c/\rT n e
theorem LW{n:Nat}{t:Tl}(h:Bd4 n t):Lq n (tlD t):=fun a b c e z=>by
 unfold tlD at z
 simp only[PyData.tuple.injEq,List.cons.injEq,and_true] at z
 obtain⟨rfl,rfl,rfl,rfl⟩:=z
 exact⟨tR h.x,tR h.y,tR h.w,tR h.h⟩
theorem OU{n:Nat}{y:PyData}(h:Lq n y){u:Tl}(e:y=tlD u):Bd4 n u:=by
 obtain⟨a,b,c,d⟩:=h _ _ _ _ e
 exact⟨a.2 _ rfl,b.2 _ rfl,c.2 _ rfl,d.2 _ rfl⟩
theorem KG{n:Nat}{y:PyData}(h:Rv y):Lq n y:=fun a b c e z=>absurd z (h a b c e)
theorem NW{k n:Nat}{ts:List Tl}(hn:n<=4400)(g:Nm k ts)(bd:∀t∈ts,Bd4 n t){a b c:PyData}(pa:rT n a)(pb:rT n b)(ys:List PyData)(hy:∀y∈ys,Lq n y)
  (hc:∀zs,c = .tuple zs->zs.length<=1000/\∀z∈zs,(∃t∈ts,z=tlD t)\/z∈ys\/Rv z):NO (k+ys.length) n (.tuple [a,b,c]):=by
 constructor
 ·intro a' b' c' e
  simp only[PyData.tuple.injEq,List.cons.injEq,and_true] at e
  obtain⟨rfl,rfl,rfl⟩:=e
  refine⟨pa.part hn,pb.part hn,fun zs ez=>⟨(hc zs ez).1,fun z hz=>?_⟩⟩
  have:Lq n z:=by
   rcases (hc zs ez).2 z hz with ⟨t,ht,rfl⟩|h|h
   ·exact LW (bd t ht)
   ·exact hy z h
   ·exact KG h
  exact fun a b c e h=>by
   obtain⟨h1,h2,h3,h4⟩:=this a b c e h
   exact⟨h1.part hn,h2.part hn,h3.part hn,h4.part hn⟩
 ·intro w h us e
  unfold kF at e
  simp only[PyData.tuple.injEq,List.cons.injEq,and_true] at e
  obtain⟨rfl,rfl,rfl⟩:=e
  have mem:∀u∈us,u∈ts\/tlD u∈ys:=fun u hu=>by
   rcases (hc _ rfl).2 _ (mem_map_of_mem hu) with ⟨t,ht,e⟩|h|h
   ·exact .inl (Bg e▸ht)
   ·exact .inr h
   ·exact absurd rfl (h _ _ _ _)
  obtain⟨X,Y,on,lx,ly⟩:=g
  obtain⟨X',Y',lx',ly',on',onu⟩:=Lr ys on
  refine⟨pa.2 _ rfl,pb.2 _ rfl,fun u hu=>?_,X',Y',fun u hu=>?_,∅,∅⟩
  ·rcases mem u hu with z|z
   ·exact bd u z
   ·exact OU (hy _ z) rfl
  ·rcases mem u hu with z|z
   ·exact on' u z
   ·exact onu u z
theorem NO.p{k n:Nat}{t:PyData}(h:NO k n t)(hk:k<=10)(hn:n<=2100):N8 t:=by
 refine⟨h.1,fun w k' ts e=>?_⟩
 obtain⟨h1,h2,h3,X,Y,on,lx,ly⟩:=h.2 w k' ts e
 refine⟨h1.mono hn,h2.mono hn,fun t ht=>⟨(h3 t ht).x.mono hn,(h3 t ht).y.mono hn,(h3 t ht).w.mono hn,(h3 t ht).h.mono hn⟩,X,Y,on,∅,∅,?_⟩
 exact le_trans (Nat.mul_le_mul (show X.length<=81 by omega) (show Y.length<=81 by omega)) ⋯
theorem QY.q{k n:Nat}{w h:N3}{ts:List Tl}(v:QY k n w h ts)(hn:n<=4400):NO k n (kF w h ts):=by
 have:=NW hn v.QH v.bd (c:=.tuple (ts.map tlD)) (tR v.bw) (tR v.bh) [] (fun _ h=>absurd h not_mem_nil) fun zs e=>by
  simp only[PyData.tuple.injEq] at e
  subst e
  have:=v.l60
  exact⟨by rw[length_map];omega,fun z hz=>by
   obtain⟨t,ht,rfl⟩:=List.mem_map.mp hz
   exact .inl ⟨t,ht,rfl⟩⟩
 exact this
end
structure LG(d:Int)(xs ys:List N3)(C R:Nat)(qs:List GR.Bx):Prop where
 fx:jq d xs C
 fy:jq d ys R
 c0:0<C
 r0:0<R
 cov:GR.AY qs C R
noncomputable def zN(d:Int)(w h:N3)(ts:List Tl):Prop:=∃xs ys C R qs,LG d xs ys C R qs/\w=xs.getD C au/\h=ys.getD R au/\ts=qs.map (jr xs ys)
theorem zN.LB{d:Int}(hd:aB d){w h:N3}{ts:List Tl}(r:zN d w h ts)(l60:ts.length<=60):ER d w h ts:=by
 obtain⟨xs,ys,C,R,qs,g,rfl,rfl,rfl⟩:=r
 refine⟨g.fx.iw (le_refl _),g.fy.iw (le_refl _),g.fx.pos g.c0,g.fy.pos g.r0,?_,l60,fun t ht=>?_⟩
 ·obtain⟨q,hq,_⟩:=g.cov.all 0 0 g.c0 g.r0
  exact List.length_pos_of_mem (mem_map_of_mem hq)
 ·obtain⟨q,hq,rfl⟩:=List.mem_map.mp ht
  exact Pd hd g.fx g.fy (g.cov.fits q hq)
theorem zN.yes{d:Int}(hd:aB d){w h:N3}{ts:List Tl}(r:zN d w h ts)(l60:ts.length<=60){b:Bool}(l:HX d (kF w h ts) b):b=true:=by
 obtain⟨P,Q,mp,mq,rfl⟩:=l.2 _ _ _ rfl (r.LB hd l60)
 obtain⟨xs,ys,C,R,qs,g,rfl,rfl,rfl⟩:=r
 exact Jd hd g.fx g.fy g.c0 g.r0 g.cov mp mq
theorem zN.QH{d:Int}{w h:N3}{ts:List Tl}(r:zN d w h ts)(l60:ts.length<=60):Nm 0 ts:=by
 obtain⟨xs,ys,C,R,qs,g,rfl,rfl,rfl⟩:=r
 have zx:xs.getD 0 au=au:=by rw[getD_eq_getElem?_getD,g.fx.zero];rfl
 have zy:ys.getD 0 au=au:=by rw[getD_eq_getElem?_getD,g.fy.zero];rfl
 have ap:∀q∈qs,∀p∈qs,∀i j,q.has i j->p.has i j->q=p:=fun q hq p hp i j h1 h2=>by
  refine Classical.byContradiction fun ne=>?_
  have:=g.cov.apart
  rcases List.mem_iff_getElem.mp hq with ⟨a,ha,rfl⟩
  rcases List.mem_iff_getElem.mp hp with ⟨b,hb,rfl⟩
  rcases Nat.lt_trichotomy a b with z|z|z
  ·exact List.pairwise_iff_getElem.mp this a b ha hb z i j h1 h2
  ·subst z;exact ne rfl
  ·exact List.pairwise_iff_getElem.mp this b a hb ha z i j h2 h1
 refine⟨au::(qs.map (jr xs ys)).map (fun t=>plus t.x t.w),au::(qs.map (jr xs ys)).map (fun t=>plus t.y t.h),fun t ht=>?_,by simp only[length_cons,length_map] at l60 ⊢;omega,by simp only[length_cons,length_map] at l60 ⊢;omega⟩
 obtain⟨q,hq,rfl⟩:=List.mem_map.mp ht
 have f:=g.cov.fits q hq
 refine⟨?_,mem_cons_of_mem _ (List.mem_map.mpr ⟨_,ht,rfl⟩),?_,mem_cons_of_mem _ (List.mem_map.mpr ⟨_,ht,rfl⟩)⟩
 ·show xs.getD q.l au∈_
  rcases Nat.eq_zero_or_pos q.l with z|z
  ·rw[z,zx];exact mem_cons_self
  ·obtain⟨p,hp,hh⟩:=g.cov.all (q.l-1) q.b ∅ ∅
   have fp:=g.cov.fits p hp
   have e:p.r=q.l:=by
    rcases lt_or_ge q.l p.r with y|y
    ·have:=ap q hq p hp q.l q.b ⟨le_refl _,f.1,le_refl _,f.2.2.1⟩ ⟨by have:=hh.1;omega,y,hh.2.2⟩
     subst this
     have:=hh.1
     omega
    ·have:=hh.2.1
     omega
   refine mem_cons_of_mem _ (List.mem_map.mpr ⟨_,mem_map_of_mem hp,?_⟩)
   rw[Dq (R:=R) g.fx fp.1 fp.2.1,e]
 ·show ys.getD q.b au∈_
  rcases Nat.eq_zero_or_pos q.b with z|z
  ·rw[z,zy];exact mem_cons_self
  ·obtain⟨p,hp,hh⟩:=g.cov.all q.l (q.b-1) ∅ ∅
   have fp:=g.cov.fits p hp
   have e:p.t=q.b:=by
    rcases lt_or_ge q.b p.t with y|y
    ·have:=ap q hq p hp q.l q.b ⟨le_refl _,f.1,le_refl _,f.2.2.1⟩ ⟨hh.1,hh.2.1,by have:=hh.2.2.1;omega,y⟩
     subst this
     have:=hh.2.2.1
     omega
    ·have:=hh.2.2.2
     omega
   refine mem_cons_of_mem _ (List.mem_map.mpr ⟨_,mem_map_of_mem hp,?_⟩)
   rw[BC (C:=C) g.fy fp.2.2.1 fp.2.2.2,e]
theorem zN.v{d:Int}(hd:aB d){n:Nat}{w h:N3}{ts:List Tl}(r:zN d w h ts)(l60:ts.length<=60)(bw:Bd n w)(bh:Bd n h)(bd:∀t∈ts,Bd4 n t):QY 0 n w h ts:=by
 have v:=r.LB hd l60
 exact⟨v.ow,v.oh,bw,bh,fun t ht=>⟨(v.tile t ht).ox,(v.tile t ht).oy,(v.tile t ht).ow,(v.tile t ht).oh⟩,bd,v.some,l60,r.QH l60⟩
structure FA(d:Int)(n:Nat)(w h:N3)(ts:List Tl):Prop where
 root:aB d
 r:zN d w h ts
 l60:ts.length<=60
 bw:Bd n w
 bh:Bd n h
 bd:∀t∈ts,Bd4 n t
noncomputable def oF:DSp:=fun ds U Q=>∃(d:Int) (t:PyData),ds=[.v (.int d),.v t]/\aB d/\N8 t/\(∀b,HX d t b->b=true)/\Q (.v .none) U
theorem zJ{ds:List D}{U:Mu}{Q:DK}(h:oF ds U Q):ds.length=2:=by obtain⟨_,_,rfl,_⟩:=h;rfl
noncomputable def fk:DTS:=
 (bQ (de (dB (av rA (af (ag 0) (af (ag 1) ar))))) k6 br)
section
variable {U:Mu}{Qd:DK}{ds:List D}
theorem FA.LB{d:Int}{n:Nat}{w h:N3}{ts:List Tl}(L:FA d n w h ts):ER d w h ts:=L.r.LB L.root L.l60
theorem FA.lp{d:Int}{n:Nat}{w h:N3}{ts:List Tl}(L:FA d n w h ts)(hn:n<=2100):N8 (kF w h ts):=((L.r.v L.root L.l60 L.bw L.bh L.bd).q ∅).p ⋯ hn
theorem FA.yes{d:Int}{n:Nat}{w h:N3}{ts:List Tl}(L:FA d n w h ts)(b:Bool)(l:HX d (kF w h ts) b):b=true:=L.r.yes L.root L.l60 l
theorem sU(h:oF ds U Qd):fk ‹Qd› (aG ["d","thing"] ds) U:=by
 obtain⟨d,t,rfl,hd,lp,yes,q⟩:=h
 unfold fk
 walk_at "rb"
 refine⟨d,t,rfl,hd,lp,fun b lb=>?_⟩
 obtain rfl:=yes b lb
 walk_at "rb"
 exact q
end
structure pQ(qs:List GR.Bx)(i j a b:Nat):Prop where
 fits:∀q∈qs,q.l<q.r/\i<=q.l/\q.r<=i+a/\q.b<q.t/\j<=q.b/\q.t<=j+b
 apart:qs.Pairwise GR.Apart
 all:∀u v,i<=u->u<i+a->j<=v->v<j+b->∃q∈qs,q.has u v
theorem pQ.apx{qs ps:List GR.Bx}{i j a a' b:Nat}(h:pQ qs i j a b)(g:pQ ps (i+a) j a' b):pQ (qs++ps) i j (a+a') b:=by
 refine⟨fun q hq=>?_,List.pairwise_append.mpr ⟨h.apart,g.apart,fun x hx y hy u v h1 h2=>?_⟩,fun u v h1 h2 h3 h4=>?_⟩
 ·rcases List.mem_append.mp hq with z|z
  ·have:=h.fits q z;omega
  ·have:=g.fits q z;omega
 ·have f1:=h.fits x hx
  have f2:=g.fits y hy
  have:=h1.2.1
  have:=h2.1
  omega
 ·by_cases z:u<i+a
  ·obtain⟨q,hq,hh⟩:=h.all u v h1 z h3 h4
   exact⟨q,mem_append_left _ hq,hh⟩
  ·obtain⟨q,hq,hh⟩:=g.all u v ∅ ∅ h3 h4
   exact⟨q,mem_append_right _ hq,hh⟩
theorem pQ.apy{qs ps:List GR.Bx}{i j a b b':Nat}(h:pQ qs i j a b)(g:pQ ps i (j+b) a b'):pQ (qs++ps) i j a (b+b'):=by
 refine⟨fun q hq=>?_,List.pairwise_append.mpr ⟨h.apart,g.apart,fun x hx y hy u v h1 h2=>?_⟩,fun u v h1 h2 h3 h4=>?_⟩
 ·rcases List.mem_append.mp hq with z|z
  ·have:=h.fits q z;omega
  ·have:=g.fits q z;omega
 ·have f1:=h.fits x hx
  have f2:=g.fits y hy
  have:=h1.2.2.2
  have:=h2.2.2.1
  omega
 ·by_cases z:v<j+b
  ·obtain⟨q,hq,hh⟩:=h.all u v h1 h2 h3 z
   exact⟨q,mem_append_left _ hq,hh⟩
  ·obtain⟨q,hq,hh⟩:=g.all u v h1 h2 ∅ ∅
   exact⟨q,mem_append_right _ hq,hh⟩
noncomputable def bxT(t:T3):GR.Bx:=⟨t.1,t.1+t.2.2,t.2.1,t.2.1+t.2.2⟩
theorem GZ{i j s:Nat}(h:0<s):pQ [bxT (i,j,s)] i j s s:=by
 refine⟨fun q hq=>?_,List.pairwise_singleton _ _,fun u v h1 h2 h3 h4=>⟨_,List.mem_singleton.mpr rfl,h1,h2,h3,h4⟩⟩
 rw[List.mem_singleton.mp hq]
 show i<i+s/\i<=i/\i+s<=i+s/\j<j+s/\j<=j/\j+s<=j+s
 omega
theorem v7{i j a b:Nat}(h:a=0\/b=0):pQ [] i j a b:=⟨fun _ z=>absurd z not_mem_nil,List.Pairwise.nil,fun u v h1 h2 h3 h4=>by omega⟩
theorem Ew{β:Bool}{t i j s:Nat}:mB β (t+1) i j s=mB β t i j s++[if β=true then (i+t*s,j,s) else (i,j+t*s,s)]:=by
 unfold mB
 rw[List.range_succ,map_append]
 rfl
theorem En{i j s:Nat}(h:0<s):∀c,pQ ((mB true c i j s).map bxT) i j (c*s) s
 |0=>v7 (.inl (Nat.zero_mul s))
 |c+1=>by
  rw[Ew,map_append,Nat.succ_mul]
  exact (En h c).apx (GZ h)
theorem E5{i j s:Nat}(h:0<s):∀c,pQ ((mB false c i j s).map bxT) i j s (c*s)
 |0=>v7 (.inr (Nat.zero_mul s))
 |c+1=>by
  rw[Ew,map_append,Nat.succ_mul]
  exact (E5 h c).apy (GZ h)
theorem wq:∀(cs:List Nat) (i j a b:Nat),(b<=a->Euc a b cs->pQ ((vT cs true i j a b).map bxT) i j a b)/\(a<b->Euc b a cs->pQ ((vT cs false i j a b).map bxT) i j a b)
 |[],_,_,a,b=>by
  constructor
  ·intro _ g;cases g;exact v7 (.inr rfl)
  ·intro _ g;cases g;exact v7 (.inl rfl)
 |c::cs,i,j,a,b=>by
  constructor
  ·intro h g
   cases g with
   |cons hb g=>
    have e:=div_add_mod a b
    rw[mul_comm] at e
    have ea:a-a / b*b=a % b:=by omega
    have hl:=mod_lt a hb
    rw[vT,map_append,ea]
    have k:=(En (i:=i) (j:=j) hb (a / b)).apx ((wq cs (i+a / b*b) j (a % b) b).2 hl g)
    rw[e] at k
    exact k
  ·intro h g
   cases g with
   |cons ha g=>
    have e:=div_add_mod b a
    rw[mul_comm] at e
    have eb:b-b / a*a=b % a:=by omega
    have hl:=mod_lt b ha
    rw[vT,map_append,eb]
    have k:=(E5 (i:=i) (j:=j) ha (b / a)).apy ((wq cs i (j+b / a*a) a (b % a)).1 (Nat.le_of_lt hl) g)
    rw[e] at k
    exact k
noncomputable def ni(q p:Nat)(cs:List Nat):List T3:=vT cs (decide (p<=q)) 0 0 q p
theorem Hw{q p:Nat}{cs:List Nat}(g:Euc (max p q) (min p q) cs):pQ ((ni q p cs).map bxT) 0 0 q p:=by
 unfold ni
 by_cases z:p<=q
 ·rw[decide_eq_true z]
  rw[Nat.max_eq_right z,min_eq_left z] at g
  exact (wq cs 0 0 q p).1 z g
 ·rw[decide_eq_false z]
  rw[Nat.max_eq_left ∅,Nat.min_eq_right ∅] at g
  exact (wq cs 0 0 q p).2 ∅ g
noncomputable def uL(d:Int)(u:N3)(n:Nat):List N3:=(List.range (n+1)).map (Uq d u)
theorem Ak{d:Int}{u:N3}{n i:Nat}(h:i<=n):(uL d u n).getD i au=Uq d u i:=by
 unfold uL
 rw[getD_eq_getElem?_getD,getElem?_map,List.getElem?_range ∅]
 rfl
theorem HH{d:Int}{u:N3}{n:Nat}(hd:aB d)(ou:Ok u)(su:sg d u.a u.b=1):jq d (uL d u n) n:=by
 refine⟨by unfold uL;simp,?_,fun x hx=>?_,?_⟩
 ·unfold dG uL
  rw[List.pairwise_map,List.pairwise_iff_getElem]
  intro i j hi hj l
  rw[List.getElem_range,List.getElem_range,<- vZ hd (bo ou) (bo ou),mX ou ∅,Kc hd ou su ∅]
 ·unfold uL at hx
  obtain⟨i,_,rfl⟩:=List.mem_map.mp hx
  exact bo ou
 ·unfold uL
  rw[getElem?_map,List.getElem?_range ∅]
  show some (Uq d u 0)=_
  rw[wa ou]
noncomputable def tlT(d:Int)(u:N3)(t:T3):Tl:=⟨Uq d u t.1,Uq d u t.2.1,Uq d u t.2.2,Uq d u t.2.2⟩
theorem Q5{d:Int}{u:N3}{q p:Nat}{cs:List Nat}(hd:aB d)(ou:Ok u)(su:sg d u.a u.b=1)(q0:0<q)(p0:0<p)(g:Euc (max p q) (min p q) cs):zN d (Uq d u q) (Uq d u p) ((ni q p cs).map (tlT d u)):=by
 have C:=Hw g
 refine⟨uL d u q,uL d u p,q,p,(ni q p cs).map bxT,⟨HH hd ou su,HH hd ou su,q0,p0,⟨fun b hb=>?_,C.apart,fun i j hi hj=>C.all i j (zero_le _) ∅ (zero_le _) ∅⟩⟩,(Ak (le_refl _)).symm,(Ak (le_refl _)).symm,?_⟩
 ·have:=C.fits b hb;omega
 ·rw[map_map]
  refine List.map_congr_left fun t ht=>?_
  have f:=C.fits _ (mem_map_of_mem ht)
  have e:bxT t=⟨t.1,t.1+t.2.2,t.2.1,t.2.1+t.2.2⟩:=rfl
  rw[e] at f
  dsimp only at f
  show tlT d u t=jr (uL d u q) (uL d u p) (bxT t)
  unfold tlT jr bxT
  dsimp only
  rw[Ak ∅,Ak ∅,Ak ∅,Ak ∅,mX ou ∅,mX ou ∅,Nat.add_sub_cancel_left,Nat.add_sub_cancel_left]
theorem NA{q p:Nat}{cs:List Nat}(g:Euc (max p q) (min p q) cs){t:T3}(ht:t∈ni q p cs):0<t.2.2/\t.1+t.2.2<=q/\t.2.1+t.2.2<=p:=by
 have f:=(Hw g).fits _ (mem_map_of_mem ht)
 have e:bxT t=⟨t.1,t.1+t.2.2,t.2.1,t.2.1+t.2.2⟩:=rfl
 rw[e] at f
 dsimp only at f
 omega
noncomputable def j5(cs:List Nat):List PyData:=cs.map fun c=>.int (c:Nat)
noncomputable def uA:DSp:=fun ds U Q=>∃(p q:Nat) (cs:List Nat),ds=[.v (dN ⟨p,0,q⟩)]/\p<2 ^ 192/\q<2 ^ 192/\Euc (max p q) (min p q) cs/\cs.length<=900/\∀a ad,U a=none->eY U ad->ad a=some (j5 cs)->Q (.m a) ad
theorem zS{ds:List D}{U:Mu}{Q:DK}(h:uA ds U Q):ds.length=1:=by obtain⟨_,_,_,rfl,_⟩:=h;rfl
noncomputable def x9:DSp:=fun ds U Q=>∃(p q:Nat) (cs:List Nat),ds=[.v (dN ⟨p,0,q⟩)]/\p<2 ^ 192/\q<2 ^ 192/\Euc (max p q) (min p q) cs/\cs.length<=900/\Q (.v (.list (j5 cs))) U
theorem zU{ds:List D}{U:Mu}{Qd:DK}(h:x9 ds U Qd):uA ds U (frz U Qd):=by
 obtain⟨p,q,cs,rfl,h1,h2,h,l,k⟩:=h
 exact⟨p,q,cs,rfl,h1,h2,h,l,fun a ad n s e=>⟨⟨n,s⟩,_,e,k⟩⟩
noncomputable def skw(x:N3):Int:=if 0<x.b then 1 else -1
noncomputable def wtD(e:Int):PyData:=.tuple [dN au,dN ⟨e,0,1⟩,dN ⟨-e,0,1⟩,dN au]
noncomputable def Lz(x:N3):PyData:=.tuple [dN one,wtD (skw x)]
noncomputable def tD:DSp:=fun ds U Q=>∃x:N3,ds=[.v (dN x)]/\Q (.v (Lz x)) U
theorem CS{ds:List D}{U:Mu}{Q:DK}(h:tD ds U Q):ds.length=1:=by obtain⟨_,rfl,_⟩:=h;rfl
structure o5(d:Int)(w h:N3):Prop where
 rt:aB d
 ow:Ok w
 oh:Ok h
 bw:Bd 60 w
 bh:Bd 60 h
 sw:sg d w.a w.b=1
 sh:sg d h.a h.b=1
noncomputable def shp(d:Int)(w h:N3):N3:=times d h (aX d w)
structure BS(d:Int)(w h:N3)(p q:Nat)(cs:List Nat):Prop where
 e:shp d w h=⟨p,0,q⟩
 p0:0<p
 q0:0<q
 pb:p<2 ^ 192
 qb:q<2 ^ 192
 g:Euc (max p q) (min p q) cs
 l:cs.length<=400
noncomputable def AN(d:Int)(u:N3)(t:T3):PyData:=.tuple [dN (Uq d u t.1),dN (Uq d u t.2.1),dN (Uq d u t.2.2),dN (Uq d u t.2.2)]
structure HV(d:Int)(u:N3)(q p:Nat):Prop where
 rt:aB d
 ou:Ok u
 su:sg d u.a u.b=1
 bu:Bd 300 u
 qb:q<2 ^ 192
 pb:p<2 ^ 192
noncomputable def tY:DSp:=fun ds U Q=>∃(d:Int) (u:N3) (q p:Nat) (cs:List Nat),ds=[.v (.int d),.v (dN (Uq d u q)),.v (dN (Uq d u p)),.v (.list (j5 cs))]/\HV d u q p/\Good cs (decide (p<=q)) q p/\cs.sum<=60/\∀a ad,U a=none->eY U ad->ad a=some ((ni q p cs).map (AN d u))->Q (.m a) ad
theorem zp{ds:List D}{U:Mu}{Q:DK}(h:tY ds U Q):ds.length=4:=by obtain⟨_,_,_,_,_,rfl,_⟩:=h;rfl
noncomputable def w8:DSp:=fun ds U Q=>∃(d:Int) (u:N3) (q p:Nat) (cs:List Nat),ds=[.v (.int d),.v (dN (Uq d u q)),.v (dN (Uq d u p)),.v (.list (j5 cs))]/\HV d u q p/\Good cs (decide (p<=q)) q p/\cs.sum<=60/\Q (.v (.list ((ni q p cs).map (AN d u)))) U
theorem oT{ds:List D}{U:Mu}{Qd:DK}(h:w8 ds U Qd):tY ds U (frz U Qd):=by
 obtain⟨d,u,q,p,cs,rfl,h1,h2,h3,k⟩:=h
 exact⟨d,u,q,p,cs,rfl,h1,h2,h3,fun a ad n s e=>⟨⟨n,s⟩,_,e,k⟩⟩
noncomputable def fT(d:Int)(w:N3)(q:Nat):N3:=times d w (low 1 0 q)
noncomputable def xw:DSp:=fun ds U Q=>∃(d:Int) (w h:N3),ds=[.v (.int d),.v (dN w),.v (dN h)]/\o5 d w h/\((shp d w h).b≠0->Q (.v (.tuple [.str "bar",Lz (shp d w h)])) U)/\(∀p q cs,BS d w h p q cs->Q (.v (.tuple [.str "squares",.list (j5 cs)])) U)
theorem Fj{ds:List D}{U:Mu}{Q:DK}(h:xw ds U Q):ds.length=3:=by obtain⟨_,_,_,rfl,_⟩:=h;rfl
noncomputable def qA:DSp:=fun ds U Q=>∃(d:Int) (w h:N3) (p q:Nat) (cs:List Nat),ds=[.v (.int d),.v (dN w),.v (dN h)]/\o5 d w h/\BS d w h p q cs/\cs.sum<=60/\Q (.v (kF w h ((ni q p cs).map (tlT d (fT d w q))))) U
theorem BY{ds:List D}{U:Mu}{Q:DK}(h:qA ds U Q):ds.length=3:=by obtain⟨_,_,_,_,_,_,rfl,_⟩:=h;rfl
noncomputable def eT:DTS:=
 (aE (aS (dIf (dB (dOp rGt (dOp aF (ag 0) (dC (.int 1))) (dC (.int 0)))) (dC (.int 1)) (tU (dC (.int 1)))) (aq 1))
 (aT (bR (af (dC (.tuple [.int 1,.int 0,.int 1])) (af (bR (af (dC (.tuple [.int 0,.int 0,.int 1])) (af (bR (af (ag 1) (af (dC (.int 0)) (af (dC (.int 1)) ar)))) (af (bR (af (tU (ag 1)) (af (dC (.int 0)) (af (dC (.int 1)) ar)))) (af (dC (.tuple [.int 0,.int 0,.int 1])) ar))))) ar)))))
noncomputable def k9:DTS:=
 (aE (aS (dCB (CF min) (af (dOp aF (ag 0) (dC (.int 0))) (af (dOp aF (ag 0) (dC (.int 2))) ar))) (aq 1))
 (aE (aS (dCB (CF max) (af (dOp aF (ag 0) (dC (.int 0))) (af (dOp aF (ag 0) (dC (.int 2))) ar))) (aq 2))
 (aE (aS (Ab ar) (aq 3))
 (aE (tS (dB (dOp (bZ true) (ag 1) (dC (.int 0)))) (aE (gW (My (ag 3) (ui (ag 2) (ag 1))))
 (vG 2 1 (af (ag 1) (af (yA (ag 2) (ag 1)) ar)))))
 (aT (ag 3))))))
noncomputable def eU:DTS:=
 (aE (aS (dC (.tuple [.int 0,.int 0,.int 1])) (aq 4))
 (aE (aS (dC (.tuple [.int 0,.int 0,.int 1])) (aq 5))
 (aE (aS (zV (av oA (af (ag 0) (af (ag 2) (af (ag 1) ar))))) (aq 6))
 (aE (aS (Ab ar) (aq 7))
 (aE (qO (k7 (ag 3)) (aq 8) (aE (aS (dIf (dB (ag 6)) (ag 2) (ag 1)) (aq 9))
 (aE (qO (tT (af (ag 8) ar)) (aq 10) (aE (gW (My (ag 7) (bR (af (ag 4) (af (ag 5) (af (ag 9) (af (ag 9) ar)))))))
 (bQ (dB (ag 6)) (aE (aS (av dE (af (ag 4) (af (ag 9) ar))) (aq 4))
 (aS (av j6 (af (ag 1) (af (ag 9) ar))) (aq 1))) (aE (aS (av dE (af (ag 5) (af (ag 9) ar))) (aq 5))
 (aS (av j6 (af (ag 2) (af (ag 9) ar))) (aq 2))))))
 (aS (zV (ag 6)) (aq 6)))))
 (aT (ag 7)))))))
noncomputable def kg:DTS:=
 (aE (gW (av cQ (af (ag 0) (af (ag 1) ar))))
 (aE (gW (av cQ (af (ag 0) (af (ag 2) ar))))
 (aE (aS (av iu (af (ag 0) (af (ag 2) (af (ag 1) ar)))) (aq 3))
 (aE (bQ (dB (dOp (bZ true) (dOp aF (ag 3) (dC (.int 1))) (dC (.int 0)))) (aT (bR (af (dC (.str "bar")) (af (av tD (af (ag 3) ar)) ar)))) br)
 (aT (bR (af (dC (.str "squares")) (af (av x9 (af (ag 3) ar)) ar))))))))
noncomputable def ip:DTS:=
 (aE (aS (av xw (af (ag 0) (af (ag 1) (af (ag 2) ar)))) (eK 2 (aP (aq 3) (aP (aq 4) eZ))))
 (aE (bQ (dB (dOp (bZ false) (ag 3) (dC (.str "bar")))) k6 br)
 (aE (bQ (dB (dOp rGt (dCB yr (af (ag 4) ar)) (dC (.int 60)))) k6 br)
 (aT (bR (af (ag 1) (af (ag 2) (af (dCB v9 (af (av w8 (af (ag 0) (af (ag 1) (af (ag 2) (af (ag 4) ar))))) ar)) ar))))))))
section
variable {U:Mu}{Qd:DK}{ds:List D}
theorem szN{n i:Nat}(h:i<2 ^ n):Sz n (i:Int):=Sz.of (by rw[Int.natAbs_natCast];exact h)
theorem KN{cs ds:List Nat}:j5 (cs++ds)=j5 cs++j5 ds:=map_append
theorem RG(r s:Nat):(r:Int).fmod (s:Int)=((r % s:Nat):Int):=by rw[Int.fmod_eq_emod_of_nonneg _ (Int.natCast_nonneg s)];rfl
theorem Te(p q:Nat):min (p:Int) (q:Int)=((min p q:Nat):Int):=by omega
theorem TK(p q:Nat):max (p:Int) (q:Int)=((max p q:Nat):Int):=by omega
theorem Ce(h:uA ds U Qd):k9 ‹Qd› (aG ["shape","short","rest","counts"] ds) U:=by
 obtain⟨p,q,cs,rfl,pb,qb,g,l,k⟩:=h
 unfold k9
 walk_at "rn"
 intro a ha
 rw[Te,TK,Hi]
 refine⟨fun m ρ ad=>∃(r s:Nat) (done rem:List Nat),ρ=[some (.v (dN ⟨p,0,q⟩)),some (.v (.int (s:Nat))),some (.v (.int (r:Nat))),some (.m a)]/\m=s/\done++rem=cs/\Euc r s rem/\s<2 ^ 192/\eY U ad/\ad a=some (j5 done),
  ⟨_,_,_,[],cs,rfl,rfl,rfl,g,∅,eY.refl.set ha,aV⟩,?_⟩
 rintro m ρ ad ⟨r,s,dn,rem,rfl,rfl,hc,g',hsb,sb,hm⟩
 walk_at "rn"
 cases g' with
 |nil=>
  rw[append_nil] at hc
  subst hc
  simp only[Int.natCast_zero,decide_true,Bool.xor_true,Bool.not_true,false_eq_true,↓reduceIte]
  exact k a ad ha sb hm
 |@cons _ _ rem hs g'=>
  have sn:(m:Int)≠0:=by omega
  rw[if_pos (by simp;omega)]
  have hl:dn.length<=900:=by have:=congrArg List.length hc;simp at this;omega
  rw[hm]
  simp only[Ox,RG]
  have dk:rN (r:Int) (m:Int):=Aq sn (szN hsb) ⋯
  refine⟨dk,by unfold j5;rw[length_map];omega,sn,_,mod_lt r hs,m,r % m,dn++[r / m],rem,rfl,rfl,by rw[<- hc];simp,g',Nat.lt_trans (mod_lt r hs) hsb,sb.set ha,?_⟩
  rw[aV,KN]
  rfl
theorem MP{d a:Int}(hd:aB d)(h:sg d a 0=1):0<a:=by
 rcases (dH hd).mp h with z|z|z
 ·omega
 ·omega
 ·omega
theorem NY{d:Int}{w h:N3}(s:o5 d w h)(hb:(shp d w h).b=0):∃p q cs,BS d w h p q cs:=by
 have s5:=jU s.rt.1 s.rt.2.1
 have nw:=nZ s.rt s.ow s.sw
 have oc:=bO nw
 have os:Ok (shp d w h):=aZ s.oh oc
 have bs:Bd 192 (shp d w h):=(fo s5 s.oh oc s.bh (jL s5 nw s.bw)).mono ⋯
 have ss:sg d (shp d w h).a (shp d w h).b=1:=by
  show sg d (times d h (aX d w)).a (times d h (aX d w)).b=1
  rw[rS s.rt s.oh oc,s.sh,uT s.rt s.ow s.sw];rfl
 rw[hb] at ss
 have ap:=MP s.rt ss
 have cp:=os.c
 generalize hx:shp d w h=x at os bs hb ap cp
 obtain⟨a,b,c⟩:=x
 simp only at hb ap cp
 subst hb
 obtain⟨p,rfl⟩:∃p:Nat,a=p:=⟨a.toNat,∅⟩
 obtain⟨q,rfl⟩:∃q:Nat,c=q:=⟨c.toNat,∅⟩
 have pb:p<2 ^ 192:=by have:=bs.a.lt;simpa using this
 have qb:q<2 ^ 192:=by have:=bs.c.lt;simpa using this
 have hm:max p q*min p q<2 ^ 384:=by
  have e:max p q*min p q=p*q:=by
   rcases Nat.le_total p q with z|z
   ·rw[Nat.max_eq_right z,min_eq_left z,mul_comm]
   ·rw[Nat.max_eq_left z,Nat.min_eq_right z]
  rw[e,show 2 ^ 384=2 ^ 192*2 ^ 192 by rw[<- Nat.pow_add]]
  exact Nat.mul_lt_mul'' pb qb
 obtain⟨cs,g,l⟩:=JJ 384 (max p q) (min p q) (le_trans (Nat.min_le_left p q) (Nat.le_max_left p q)) hm
 exact⟨p,q,cs,hx,∅,∅,pb,qb,g,∅⟩
theorem p5(h:tD ds U Qd):eT ‹Qd› (aG ["shape","skew"] ds) U:=by
 obtain⟨x,rfl,q⟩:=h
 unfold eT
 walk_at "rn"
 unfold Lz skw at q
 by_cases c:0<x.b
 ·rw[if_pos (by simpa using c)]
  rw[if_pos c] at q
  exact q
 ·rw[if_neg (by simpa using c)]
  rw[if_neg c] at q
  exact q
theorem Hj{d:Int}{u:N3}{i j:Nat}(hd:aB d)(ou:Ok u)(su:sg d u.a u.b=1):decide (dif d (Uq d u i) (Uq d u j)=1)=decide (j<i):=by
 have key:∀{i j:Nat},j<=i->dif d (Uq d u i) (Uq d u j)=if j<i then 1 else 0:=fun {i j} h=>by
  rw[<- vZ hd (bo ou) (bo ou),mX ou h]
  by_cases z:j<i
  ·rw[if_pos z,Kc hd ou su ∅]
  ·rw[if_neg z,show i-j=0 by omega,wa ou]
   exact b8.mpr ⟨rfl,rfl⟩
 by_cases h:j<i
 ·rw[key ∅,if_pos h,decide_eq_true h];rfl
 ·rw[decide_eq_false h,decide_eq_false]
  intro e
  have k2:=key (i:=j) (j:=i) ∅
  have e2:dif d (Uq d u j) (Uq d u i) = -1:=by
   unfold dif at e ⊢
   have n1:(Uq d u j).a*(Uq d u i).c-(Uq d u i).a*(Uq d u j).c = -((Uq d u i).a*(Uq d u j).c-(Uq d u j).a*(Uq d u i).c):=by omega
   have n2:(Uq d u j).b*(Uq d u i).c-(Uq d u i).b*(Uq d u j).c = -((Uq d u i).b*(Uq d u j).c-(Uq d u j).b*(Uq d u i).c):=by omega
   rw[n1,n2,yK hd,e]
  rw[e2] at k2
  split at k2<;>omega
theorem bdU{d:Int}{u:N3}{q p i:Nat}(h:HV d u q p)(hi:i<2 ^ 192):Bd 4300 (Uq d u i):=(Kd (jU h.rt.1 h.rt.2.1) h.ou h.bu hi ⋯).mono ⋯
theorem EZ{β:Bool}{t i j s:Nat}:mB β (t+1) i j s=mB β t i j s++[if β=true then (i+t*s,j,s) else (i,j+t*s,s)]:=by
 unfold mB
 rw[List.range_succ,map_append]
 rfl
theorem JM{cs:List Nat}{k:Nat}{x:PyData}(h:(j5 cs)[k]? = some x):∃c,cs[k]? = some c/\x = .int (c:Nat)/\cs.drop k=c::cs.drop (k+1):=by
 unfold j5 at h
 rw[getElem?_map] at h
 cases e:cs[k]? with
 |none=>rw[e] at h;cases h
 |some c=>
  rw[e] at h
  refine⟨c,rfl,by simpa using h.symm,?_⟩
  obtain⟨hk,e'⟩:=List.getElem?_eq_some_iff.mp e
  rw[List.drop_eq_getElem_cons hk,e']
structure rD(cs:List Nat)(q p:Nat)(rem:List Nat)(β:Bool)(i j a b:Nat)(acc:List T3):Prop where
 g:Good rem β a b
 hi:i+a=q
 hj:j+b=p
 full:acc++vT rem β i j a b=ni q p cs
theorem rD.t{cs:List Nat}{q p:Nat}{c:Nat}{rem:List Nat}{i j a b:Nat}{acc:List T3}(h:rD cs q p (c::rem) true i j a b acc):b<=a/\0<b/\c*b<=a/\rD cs q p rem false (i+c*b) j (a-c*b) b (acc++mB true c i j b):=by
 obtain⟨⟨g1,g2,g3,g4⟩,hi,hj,hf⟩:=h
 exact⟨g1,g2,g3,g4,∅,hj,by rw[append_assoc];exact hf⟩
theorem rD.f{cs:List Nat}{q p:Nat}{c:Nat}{rem:List Nat}{i j a b:Nat}{acc:List T3}(h:rD cs q p (c::rem) false i j a b acc):a<b/\0<a/\c*a<=b/\rD cs q p rem true i (j+c*a) a (b-c*a) (acc++mB false c i j a):=by
 obtain⟨⟨g1,g2,g3,g4⟩,hi,hj,hf⟩:=h
 exact⟨g1,g2,g3,g4,hi,∅,by rw[append_assoc];exact hf⟩
theorem rD.len{cs:List Nat}{q p:Nat}{rem:List Nat}{β:Bool}{i j a b:Nat}{acc:List T3}(h:rD cs q p rem β i j a b acc):acc.length+rem.sum=cs.sum:=by
 have:=congrArg List.length h.full
 unfold ni at this
 rw[length_append,gN,gN] at this
 exact this
theorem qm(h:tY ds U Qd):eU ‹Qd› (aG ["d","width","height","counts","x","y","beside","tiles","many","side","square"] ds) U:=by
 obtain⟨d,u,q,p,cs,rfl,hu,hg,hs,k⟩:=h
 have pb:=hu.pb
 have qb:=hu.qb
 unfold eU
 walk_at "rn"
 refine⟨d,_,_,rfl,hu.rt,(bdU hu pb).mono ⋯,(bdU hu qb).mono ⋯,?_⟩
 rw[Hj hu.rt hu.ou hu.su]
 walk_at "rn"
 intro m hm
 rw[show (!decide (q<p))=decide (p<=q) by rw[<- decide_not];exact decide_eq_decide.mpr ∅]
 rw[kQ]
 walk_at "rn"
 refine⟨fun kk ρ ad=>∃(β:Bool) (i j a b:Nat) (acc:List T3) (r8 r9 r10:Option D),ρ=[some (.v (.int d)),some (.v (dN (Uq d u a))),some (.v (dN (Uq d u b))),some (.v (.list (j5 cs))),some (.v (dN (Uq d u i))),some (.v (dN (Uq d u j))),some (.v (.bool β)),some (.m m),r8,r9,r10]/\rD cs q p (cs.drop kk) β i j a b acc/\eY U ad/\ad m=some (acc.map (AN d u)),
  ⟨decide (p<=q),0,0,q,p,[],_,_,_,by rw[wa hu.ou];rfl,⟨hg,∅,∅,rfl⟩,eY.refl.set hm,aV⟩,?_,?_⟩
 ·rintro kk x ρ al hx ⟨β,i,j,a,b,acc,r8,r9,r10,rfl,L,sb,hm1⟩
  obtain⟨c,hc,rfl,hd⟩:=JM hx
  rw[hd] at L
  have ll:=L.len
  rw[sum_cons] at ll
  cases β with
  |true=>
   obtain⟨g1,g2,g3,L'⟩:=L.t
   have hi:=L.hi
   have hj:=L.hj
   walk_at "rn"
   rw[kQ]
   walk_at "rn"
   refine⟨⟨∅,∅⟩,fun t ρ ad=>∃(r10:Option D),ρ=[some (.v (.int d)),some (.v (dN (Uq d u (a-t*b)))),some (.v (dN (Uq d u b))),some (.v (.list (j5 cs))),some (.v (dN (Uq d u (i+t*b)))),some (.v (dN (Uq d u j))),some (.v (.bool true)),some (.m m),some (.v (.int (c:Nat))),some (.v (dN (Uq d u b))),r10]/\eY U ad/\ad m=some ((acc++mB true t i j b).map (AN d u)),
    ⟨r10,by simp,sb,by rw[hm1];simp[mB]⟩,?_,?_⟩
   ·rintro t y ρ am hy ⟨r10,rfl,sb2,hm2⟩
    obtain⟨rfl,ht⟩:=AW hy
    have ht':t<c:=by omega
    have tb:(t+1)*b<=c*b:=Nat.mul_le_mul_right b ht'
    have e1:(t+1)*b=t*b+b:=Nat.succ_mul t b
    walk_at "rn"
    rw[hm2]
    refine⟨by rw[length_map,length_append,vX];omega,?_⟩
    refine⟨_,_,rfl,bo hu.ou,bo hu.ou,bdU hu ∅,bdU hu ∅,?_⟩
    rw[Dg hu.ou]
    walk_at "rn"
    refine⟨_,_,rfl,bo hu.ou,bo hu.ou,bdU hu ∅,bdU hu ∅,?_⟩
    rw[mX hu.ou ∅]
    refine⟨_,by rw[show i+(t+1)*b=i+t*b+b by omega,show a-(t+1)*b=a-t*b-b by omega],sb2.set hm,?_⟩
    rw[aV,EZ,<- append_assoc,map_append (l₂:=[_])]
    rfl
   ·rintro ρ am ⟨r10,rfl,sb2,hm2⟩
    rw[xS] at *
    walk_at "rn"
    rw[show (c:Int).toNat=c by omega] at *
    exact⟨false,_,_,_,_,_,_,_,_,rfl,L',sb2,hm2⟩
  |false=>
   obtain⟨g1,g2,g3,L'⟩:=L.f
   have hi:=L.hi
   have hj:=L.hj
   walk_at "rn"
   rw[kQ]
   walk_at "rn"
   refine⟨⟨∅,∅⟩,fun t ρ ad=>∃(r10:Option D),ρ=[some (.v (.int d)),some (.v (dN (Uq d u a))),some (.v (dN (Uq d u (b-t*a)))),some (.v (.list (j5 cs))),some (.v (dN (Uq d u i))),some (.v (dN (Uq d u (j+t*a)))),some (.v (.bool false)),some (.m m),some (.v (.int (c:Nat))),some (.v (dN (Uq d u a))),r10]/\eY U ad/\ad m=some ((acc++mB false t i j a).map (AN d u)),
    ⟨r10,by simp,sb,by rw[hm1];simp[mB]⟩,?_,?_⟩
   ·rintro t y ρ am hy ⟨r10,rfl,sb2,hm2⟩
    obtain⟨rfl,ht⟩:=AW hy
    have ht':t<c:=by omega
    have tb:(t+1)*a<=c*a:=Nat.mul_le_mul_right a ht'
    have e1:(t+1)*a=t*a+a:=Nat.succ_mul t a
    walk_at "rn"
    rw[hm2]
    refine⟨by rw[length_map,length_append,vX];omega,?_⟩
    refine⟨_,_,rfl,bo hu.ou,bo hu.ou,bdU hu ∅,bdU hu ∅,?_⟩
    rw[Dg hu.ou]
    walk_at "rn"
    refine⟨_,_,rfl,bo hu.ou,bo hu.ou,bdU hu ∅,bdU hu ∅,?_⟩
    rw[mX hu.ou ∅]
    refine⟨_,by rw[show j+(t+1)*a=j+t*a+a by omega,show b-(t+1)*a=b-t*a-a by omega],sb2.set hm,?_⟩
    rw[aV,EZ,<- append_assoc,map_append (l₂:=[_])]
    rfl
   ·rintro ρ am ⟨r10,rfl,sb2,hm2⟩
    rw[xS] at *
    walk_at "rn"
    rw[show (c:Int).toNat=c by omega] at *
    exact⟨true,_,_,_,_,_,_,_,_,rfl,L',sb2,hm2⟩
 ·rintro ρ al ⟨β,i,j,a,b,acc,r8,r9,r10,rfl,L,sb,hm1⟩
  have:(j5 cs).length=cs.length:=length_map _
  rw[this,List.drop_length] at L
  have hf:=L.full
  simp only[vT,append_nil] at hf
  rw[hf] at hm1
  exact k m al hm sb hm1
theorem Dp{d:Int}{w h:N3}{p q:Nat}{cs:List Nat}(s:o5 d w h)(F:BS d w h p q cs):HV d (fT d w q) q p/\Uq d (fT d w q) q=w/\Uq d (fT d w q) p=h:=by
 have hd:=s.rt
 have s5:=jU hd.1 hd.2.1
 have q0:(q:Int)≠0:=by have:=F.q0;omega
 have ol:Ok (low 1 0 q):=mS 1 0 q0
 have bl:Bd 192 (low 1 0 q):=qj q0 (Sz.of (by show (1:Int).natAbs<_;decide +kernel)) (Sz.of (by show (0:Int).natAbs<_;decide +kernel)) (szN F.qb)
 have sl:sg d (low 1 0 (q:Int)).a (low 1 0 (q:Int)).b=1:=by
  rw[Df hd (by have:=F.q0;omega)]
  exact (dH hd).mpr (.inl ⟨∅,∅,∅⟩)
 have ou:Ok (fT d w q):=aZ s.ow ol
 have su:sg d (fT d w q).a (fT d w q).b=1:=by
  show sg d (times d w (low 1 0 q)).a (times d w (low 1 0 q)).b=1
  rw[rS hd s.ow ol,s.sw,sl];rfl
 have ru:Rep (fT d w q) w.a w.b (w.c*q):=by
  have h:=(ay s.ow).times (d:=d) s.ow ol (oq (a:=1) (b:=0) q0)
  simp only[mul_one,mul_zero,Int.add_zero,Int.zero_add] at h
  exact h
 have rU:∀i:Nat,Rep (Uq d (fT d w q) i) (w.a*i) (w.b*i) (w.c*q):=fun i=>by
  have h:=ru.times (d:=d) ou (g8 i) (ay (g8 i))
  have h':Rep (Uq d (fT d w q) i) (w.a*(i:Int)+d*w.b*0) (w.a*0+w.b*(i:Int)) (w.c*q*1):=h
  simp only[mul_one,mul_zero,Int.add_zero,Int.zero_add] at h'
  exact h'
 have nw:=nZ hd s.ow s.sw
 have oc:=bO nw
 have os:Ok (shp d w h):=aZ s.oh oc
 refine⟨⟨hd,ou,su,(fo s5 s.ow ol s.bw bl).mono ⋯,F.qb,F.pb⟩,?_,?_⟩
 ·exact Rep.eq (bo ou) s.ow (rU q) (ay s.ow) (by grind) (by grind)
 ·have e1:Uq d (fT d w q) p=times d w (shp d w h):=by
   rw[F.e]
   have of:Ok ⟨(p:Int),0,(q:Int)⟩:=by rw[<- F.e];exact os
   have r2:=(ay s.ow).times (d:=d) s.ow of (ay of)
   refine Rep.eq (bo ou) (aZ s.ow of) (rU p) r2 ?_ ?_
   ·show w.a*p*(w.c*q)=(w.a*p+d*w.b*0)*(w.c*q);rw[mul_zero,Int.add_zero]
   ·show w.b*p*(w.c*q)=(w.a*0+w.b*p)*(w.c*q);rw[mul_zero,Int.zero_add]
  have r3:=(ay s.ow).times (d:=d) s.ow os ((ay s.oh).times (d:=d) s.oh oc ((ay s.ow).aX s.ow nw))
  rw[e1]
  exact Rep.eq (aZ s.ow os) s.oh r3 (ay s.oh) (by grind) (by grind)
theorem BS.same{d:Int}{w h:N3}{p q p' q':Nat}{cs cs':List Nat}(F:BS d w h p q cs)(G:BS d w h p' q' cs'):p'=p/\q'=q/\cs'=cs:=by
 have e:=G.e.symm.trans F.e
 have e1:p'=p:=by have z:(p':Int)=p:=congrArg N3.a e;omega
 have e2:q'=q:=by have z:(q':Int)=q:=congrArg N3.c e;omega
 subst e1 e2
 exact⟨rfl,rfl,G.g.eq F.g⟩
theorem pH:SeqAt.shaped (.str "bar")=true:=nofun
theorem vq:SeqAt.shaped (.str "squares")=true:=nofun
theorem Oj:PyData.eqv (.str "squares") (.str "bar")=false:=nofun
theorem yg(l:List Nat):ej (j5 l)=some (l.map fun c=>((c:Nat):Int)):=by
 unfold j5
 induction l with
 |nil=>rfl
 |cons x l ih=>
  rw[map_cons]
  unfold ej
  rw[ih]
  rfl
theorem Cc(l:List Nat):(l.map fun c=>((c:Nat):Int)).sum=((l.sum:Nat):Int):=by
 induction l with
 |nil=>rfl
 |cons x l ih=>rw[map_cons,sum_cons,sum_cons,ih];omega
theorem yT(h:xw ds U Qd):kg ‹Qd› (aG ["d","width","height","shape"] ds) U:=by
 obtain⟨d,w,h,rfl,s,k1,k2⟩:=h
 unfold kg
 walk_at "rn"
 have wn:w≠au:=fun z=>by have:=s.sw;rw[z] at this;rw[show sg d au.a au.b=0 from b8.mpr ⟨rfl,rfl⟩] at this;cases this
 refine⟨d,w,rfl,s.rt,s.ow,s.bw.mono ⋯,s.sw,?_⟩
 refine⟨d,h,rfl,s.rt,s.oh,s.bh.mono ⋯,s.sh,?_⟩
 refine⟨d,h,w,rfl,s.rt,s.oh,s.ow,wn,s.bh.mono ⋯,s.bw.mono ⋯,?_⟩
 walk_at "rn"
 rw[show times d h (aX d w)=shp d w h from rfl]
 by_cases hb:(shp d w h).b=0
 ·rw[if_neg (by simp[hb])]
  obtain⟨p,q,cs,F⟩:=NY s hb
  rw[F.e]
  refine⟨p,q,cs,rfl,F.pb,F.qb,F.g,by have:=F.l;omega,?_⟩
  exact k2 p q cs F
 ·rw[if_pos (by simp[hb])]
  exact⟨_,rfl,k1 hb⟩
theorem vD(h:qA ds U Qd):ip ‹Qd› (aG ["d","width","height","word","counts"] ds) U:=by
 obtain⟨d,w,h,p,q,cs,rfl,s,F,hs,k⟩:=h
 unfold ip
 walk_at "rn"
 refine⟨d,w,h,rfl,s,fun z=>absurd (by rw[F.e]) z,fun p' q' cs' F'=>?_⟩
 obtain⟨rfl,rfl,rfl⟩:=F.same F'
 walk_at "rn"
 refine⟨trivial,vq,pH,?_⟩
 rw[Oj]
 walk_at "rn"
 rw[Oy,yg]
 dsimp only
 rw[Cc]
 walk_at "rn"
 rw[if_neg (by simp;omega)]
 obtain⟨hu,eq,ep⟩:=Dp s F'
 refine⟨d,fT d w q',q',p',cs',by rw[eq,ep],hu,Kt (by rw[Nat.max_comm,Nat.min_comm];exact F'.g),hs,?_⟩
 have e:(ni q' p' cs').map (AN d (fT d w q'))=((ni q' p' cs').map (tlT d (fT d w q'))).map tlD:=by rw[map_map];rfl
 rw[e]
 exact k
end
noncomputable def uq:DSp:=fun _ _ _=>False
noncomputable def qC:DSp:=fun ds U Q=>∃d:Int,ds=[.v (.int d),.v (.tuple [dN one])]/\aB d/\Q (.v (.int 0)) U
theorem Cj{ds:List D}{U:Mu}{Q:DK}(h:qC ds U Q):ds.length=2:=by obtain⟨_,rfl,_⟩:=h;rfl
structure IP(d:Int)(s:N3):Prop where
 rt:aB d
 ok:Ok s
 bd:Bd 192 s
 sg:sg d s.a s.b=1
noncomputable def lM:DSp:=fun ds U Q=>∃(d:Int) (s:N3),ds=[.v (.int d),.v (dN one),.v (dN s)]/\IP d s/\s.b≠0/\∀t,Q (.v t) U
theorem xj{ds:List D}{U:Mu}{Q:DK}(h:lM ds U Q):ds.length=3:=by obtain⟨_,_,rfl,_⟩:=h;rfl
noncomputable def wx:DSp:=fun ds U Q=>∃(d:Int) (s:N3),ds=[.v (.int d),.v (dN one),.v (dN s)]/\IP d s/\(s.b=0->Q (.v (.tuple [.str "mixture",dN s,dN au])) U)/\(s.b≠0->∀t,Q (.v (.tuple [.str "bar",t])) U)
theorem DZ{ds:List D}{U:Mu}{Q:DK}(h:wx ds U Q):ds.length=3:=by obtain⟨_,_,rfl,_⟩:=h;rfl
noncomputable def qW:DSp:=fun ds U Q=>∃(d:Int) (s:N3),ds=[.v (.int d),.v (.tuple [dN one]),.v (dN s)]/\IP d s/\(s.b=0->∀t,Q (.v (.tuple [.str "plan",t])) U)/\(s.b≠0->∀t,Q (.v (.tuple [.str "bar",t])) U)
theorem Cp{ds:List D}{U:Mu}{Q:DK}(h:qW ds U Q):ds.length=3:=by obtain⟨_,_,rfl,_⟩:=h;rfl
noncomputable def sA:DSp:=fun ds U Q=>∃(d:Int) (s:N3),ds=[.v (.int d),.v (.tuple [dN one]),.v (dN s)]/\IP d s/\Q (.v (.bool (decide (s.b=0)))) U
theorem Ca{ds:List D}{U:Mu}{Q:DK}(h:sA ds U Q):ds.length=3:=by obtain⟨_,_,rfl,_⟩:=h;rfl
noncomputable def i4:DTS:=
 (aE (gW (av d0 (af (ag 0) (af (ag 1) ar))))
 (aE (aS (av wc (af (ag 0) (af (ag 1) ar))) (aq 2))
 (aE (bQ (A0 (dB (dOp (GI false) (dC (.int 1)) (ag 2))) (dB (dOp (GI false) (tU (dC (.int 1))) (ag 2)))) (aT (dC .none)) br)
 (aE (aS (dC (.int 0)) (aq 3))
 (aE (qO (tL (af (dC (.int 1)) (af (dCB dJ (af (ag 1) ar)) ar))) (aq 4) (bQ (dB (av uq (af (ag 0) (af (dOp aF (ag 1) (ag 4)) (af (dOp aF (ag 1) (ag 3)) ar))))) (aS (ag 4) (aq 3)) br))
 (aT (ag 3)))))))
noncomputable def nI:DTS:=
 (aE (aS (av dI (af (ag 0) (af (av eR (af (ag 1) ar)) ar))) (aq 3))
 (aE (bQ (dB (dOp (bZ true) (av dI (af (ag 0) (af (av eR (af (ag 2) ar)) ar))) (ag 3))) (aT (bR (af (dC (.tuple [.int 1,.int 0,.int 1])) (af (bR (af (dC (.tuple [.int 0,.int 0,.int 1])) (af (dC (.tuple [.int 0,.int 0,.int 1])) (af (dC (.tuple [.int 0,.int 0,.int 1])) (af (bR (af (ag 3) (af (dC (.int 0)) (af (dC (.int 1)) ar)))) ar))))) ar)))) br)
 (aE (aS (av yD (af (ag 1) (af (ag 3) ar))) (aq 4))
 (aE (aS (av yD (af (ag 2) (af (ag 3) ar))) (aq 5))
 (aE (aS (av dI (af (ag 0) (af (ag 5) ar))) (aq 6))
 (aE (aS (av iu (af (ag 0) (af (av bz (af (ag 0) (af (bR (af (ag 6) (af (dC (.int 0)) (af (dC (.int 2)) ar)))) (af (ag 5) ar)))) (af (av eR (af (ag 2) ar)) ar)))) (aq 7))
 (aE (aS (av iu (af (ag 0) (af (av bz (af (ag 0) (af (ag 4) (af (ag 4) ar)))) (af (av bz (af (ag 0) (af (bR (af (dC (.int 4)) (af (dC (.int 0)) (af (dC (.int 1)) ar)))) (af (av bz (af (ag 0) (af (ag 1) (af (av eR (af (ag 1) ar)) ar)))) ar)))) ar)))) (aq 8))
 (aT (bR (af (dC (.tuple [.int 1,.int 0,.int 1])) (af (bR (af (av iu (af (ag 0) (af (ag 8) (af (ag 7) ar)))) (af (bR (af (bU (ag 3) (ag 6)) (af (dC (.int 0)) (af (dC (.int 1)) ar)))) (af (bR (af (tU (ag 6)) (af (dC (.int 0)) (af (dC (.int 1)) ar)))) (af (ag 7) ar))))) ar)))))))))))
noncomputable def i5:DTS:=
 (aE (gW (av cQ (af (ag 0) (af (ag 1) ar))))
 (aE (gW (av cQ (af (ag 0) (af (ag 2) ar))))
 (aE (bQ (dB (dOp (bZ false) (dOp aF (av bz (af (ag 0) (af (ag 1) (af (ag 1) ar)))) (dC (.int 1))) (dC (.int 0)))) (aS (bR (af (av iu (af (ag 0) (af (ag 2) (af (ag 1) ar)))) (af (dC (.tuple [.int 0,.int 0,.int 1])) ar))) (aq 3)) (aS (av uq (af (ag 0) (af (ag 1) (af (av cS (af (ag 0) (af (ag 1) ar))) (af (ag 2) ar))))) (aq 3)))
 (aE (bQ (dB (dCB rX (af (nX [none,some 0] (kP (ag 3)) (aq 0) ko (av oj (af (ag 1) (af (ag 0) ar)))) ar))) (aT (bR (af (dC (.str "mixture")) (af (dOp aF (ag 3) (dC (.int 0))) (af (dOp aF (ag 3) (dC (.int 1))) ar))))) br)
 (aT (bR (af (dC (.str "bar")) (af (av lM (af (ag 0) (af (ag 1) (af (ag 2) ar)))) ar))))))))
noncomputable def lL:DTS:=
 (aE (gW (av d0 (af (ag 0) (af (ag 1) ar))))
 (aE (gW (av cQ (af (ag 0) (af (ag 2) ar))))
 (aE (aS (av qC (af (ag 0) (af (ag 1) ar))) (aq 3))
 (aE (bQ (dB (dOp GO (ag 3) (dC .none))) (aT (bR (af (dC (.str "plan")) (af (av uq (af (ag 0) (af (ag 1) (af (ag 2) ar)))) ar)))) br)
 (aE (aS (av wx (af (ag 0) (af (dOp aF (ag 1) (ag 3)) (af (ag 2) ar)))) (aq 4))
 (aE (bQ (dB (dOp (bZ false) (dOp aF (ag 4) (dC (.int 0))) (dC (.str "bar")))) (aT (ag 4)) br)
 (aT (bR (af (dC (.str "plan")) (af (av oo (af (dOp aF (ag 4) (dC (.int 1))) (af (dOp aF (ag 4) (dC (.int 2))) (af (ag 3) ar)))) ar))))))))))
noncomputable def qh:DTS:=
 (aT (dOp (bZ false) (dOp aF (av qW (af (ag 0) (af (ag 1) (af (ag 2) ar)))) (dC (.int 0))) (dC (.str "plan"))))
section
variable {U:Mu}{Qd:DK}{ds:List D}
theorem iT{n:Nat}(h:1<=n):Bd n one:=(show Bd 1 one from ⟨Sz.of ⋯,Sz.of ⋯,Sz.of ⋯⟩).mono h
theorem nM{n:Nat}(h:1<=n):Bd n au:=(show Bd 1 au from ⟨Sz.of ⋯,Sz.of ⋯,Sz.of ⋯⟩).mono h
theorem Cw{d:Int}(hd:aB d):norm d one≠0/\aX d one=one:=by
 have n1:norm d one≠0:=nZ hd bF gI
 exact⟨n1,Rep.eq (bO n1) bF ((ay bF).aX bF n1) (ay bF) (by show (1*1)*1=1*(1*1-d*0*0);simp) (by show (-1*0)*1=0*(1*1-d*0*0);simp)⟩
theorem kD{d:Int}:∀k∈[one],Ok k/\Bd 140 k/\sg d k.a k.b=1:=fun k hk=>by
 rw[List.mem_singleton.mp hk]
 exact⟨bF,iT ⋯,gI⟩
theorem MQ{d:Int}:sgN d one=1:=by
 unfold sgN norm
 show sg d (1*1-d*0*0) 0=1
 rw[mul_zero,Int.sub_zero]
 exact gI
theorem yB(h:qC ds U Qd):i4 ‹Qd› (aG ["d","kinds","signs","most","place"] ds) U:=by
 obtain⟨d,rfl,hd,q⟩:=h
 unfold i4
 walk_at "rn"
 refine⟨d,[one],rfl,hd,⋯,⋯,kD,d,[one],rfl,hd,⟨⋯,⋯,kD⟩,?_⟩
 rw[map_cons,map_cons,MQ]
 walk_at "rn"
 refine⟨rfl,rfl,⋯,?_⟩
 rw[if_pos ⋯]
 refine⟨rfl,rfl,⋯,?_⟩
 rw[if_neg ⋯]
 rw[kQ]
 walk_at "rn"
 refine⟨⋯,fun i ce ad=>ad=U/\ce=[some (.v (.int d)),some (.v (.tuple [dN one])),some (.v (.list [.int 1])),some (.v (.int 0)),none],⟨rfl,rfl⟩,fun i x ce ad hx _=>?_,?_⟩
 ·obtain⟨_,hi⟩:=AW hx
  exact absurd hi (by simp)
 ·rintro ce ad ⟨rfl,rfl⟩
  walk_at "rn"
  exact q
theorem EN(h:lM ds U Qd):nI ‹Qd› (aG ["d","kind","shape","way","own","floor","turn","last","both"] ds) U:=by
 obtain⟨d,s,rfl,S,sb,q⟩:=h
 have hd:=S.rt
 have os:=S.ok
 have bs:=S.bd
 have s5:=jU hd.1 hd.2.1
 have ns:=kz S.sg
 unfold nI
 walk_at "rn"
 refine⟨one,rfl,d,bW one,rfl,hd,iT ⋯,?_⟩
 rw[show sg d (bW one).a (bW one).b=1 from gI]
 walk_at "rn"
 refine⟨s,rfl,d,bW s,rfl,hd,(oG bs).mono ⋯,?_⟩
 walk_at "rn"
 by_cases hw:sg d (bW s).a (bW s).b=1
 ·rw[if_neg (by rw[hw];simp)]
  have of:=sv (w:=1) os
  have bf:=Mt (w:=1) os bs
  have hf:nN s 1≠au:=fun e=>by
   unfold nN at e
   rw[if_pos ⋯] at e
   have r:=Rep.less os (bB os) (ay os) (ay (bB os))
   rw[e] at r
   have rb:=r.b
   have h0:s.b*(bW s).c-(bW s).b*s.c=0:=by
    have e1:au.b=0:=rfl
    have e2:au.c=1:=rfl
    rw[e1,e2] at rb;omega
   have h1:s.b*s.c - -s.b*s.c=0:=h0
   have h2:s.b*s.c=0:=by rw[Int.neg_mul] at h1;omega
   exact sb ((Int.mul_eq_zero.mp h2).resolve_right os.cn)
  have e0:nN one 1=au:=by
   unfold nN
   rw[if_pos ⋯]
   exact Rep.eq (eQ bF (bB bF)) ba ((ay bF).less bF (bB bF) (ay (bB bF))) (ay ba) ⋯ ⋯
  have ht:Ar d s 1=1\/Ar d s 1 = -1:=H0 of hf
  have L:=MV (w:=1) hd os (bs.mono ⋯) ns hf
  refine⟨one,1,rfl,bF,iT ⋯,?_⟩
  rw[e0]
  walk_at "rn"
  refine⟨s,1,rfl,os,bs.mono ⋯,?_⟩
  walk_at "rn"
  refine⟨d,_,rfl,hd,bf.mono ⋯,?_⟩
  walk_at "rn"
  have o1:=aZ (d:=d) (oB ht) of
  have b1:=fo s5 (oB ht) of (Hn ht) bf
  refine⟨d,⟨Ar d s 1,0,2⟩,nN s 1,rfl,s5,oB ht,of,(Hn ht).mono ⋯,bf.mono ⋯,s,rfl,d,_,bW s,rfl,hd,o1,bB os,CT ns,b1.mono ⋯,(oG bs).mono ⋯,?_⟩
  walk_at "rn"
  have o4:Ok ⟨4,0,1⟩:=g8 4
  have b4:Bd 4 ⟨4,0,1⟩:=⟨Sz.of ⋯,Sz.of ⋯,Sz.of ⋯⟩
  have on4:=hd.norm o4 (fun e=>absurd (congrArg N3.a e) ⋯)
  refine⟨d,au,au,rfl,s5,ba,ba,nM ⋯,nM ⋯,one,rfl,d,one,bW one,rfl,s5,bF,bF,iT ⋯,iT ⋯,?_⟩
  rw[Fd ba,show times d one (bW one)=one from xc bF]
  refine⟨d,⟨4,0,1⟩,one,rfl,s5,o4,bF,b4.mono ⋯,iT ⋯,?_⟩
  rw[xc o4]
  refine⟨d,au,⟨4,0,1⟩,rfl,hd,ba,o4,fun e=>absurd (congrArg N3.a e) ⋯,nM ⋯,b4.mono ⋯,?_⟩
  rw[Fd (bO on4)]
  walk_at "rn"
  refine⟨d,au,bLast d s 1,rfl,hd,ba,L.ok,L.ne,nM ⋯,L.bd.mono ⋯,?_⟩
  refine⟨mulR LX,?_⟩
  exact q _
 ·rw[if_pos (by simpa using hw)]
  exact q _
theorem Ji{d:Int}(hd:aB d){s:N3}(ss:sg d s.a s.b=1):fF d s=decide (s.b=0):=by
 unfold fF
 rw[ss]
 simp
theorem xu(h:wx ds U Qd):i5 ‹Qd› (aG ["d","kind","shape","shares"] ds) U:=by
 obtain⟨d,s,rfl,S,q1,q2⟩:=h
 have hd:=S.rt
 have os:=S.ok
 have bs:=S.bd
 have s5:=jU hd.1 hd.2.1
 obtain⟨n1,ec⟩:=Cw hd
 have z0:fF d au=true:=by
  unfold fF
  rw[show sg d au.a au.b=0 from b8.mpr ⟨rfl,rfl⟩]
  rfl
 unfold i5
 walk_at "rn"
 refine⟨d,one,rfl,hd,bF,iT ⋯,gI,d,s,rfl,hd,os,bs.mono ⋯,S.sg,d,one,one,rfl,s5,bF,bF,iT ⋯,iT ⋯,?_⟩
 rw[xc bF]
 walk_at "rn"
 rw[if_pos ⋯]
 refine⟨d,s,one,rfl,hd,os,bF,kz (d:=d) gI,bs.mono ⋯,iT ⋯,?_⟩
 rw[ec,xc os]
 refine⟨(by show 2<=1000;decide),Qv d,fun x hx am h2=>⟨⟨trivial,trivial⟩,?_⟩,?_⟩
 ·simp only[mem_cons,not_mem_nil,or_false] at hx
  rcases hx with rfl|rfl
  ·exact⟨d,_,rfl,hd,bs.mono ⋯,rfl,rfl⟩
  ·exact⟨d,_,rfl,hd,nM ⋯,rfl,rfl⟩
 ·show (if List.all [fF d s,fF d au] id=true then _ else _)
  have e3:List.all [fF d s,fF d au] id=decide (s.b=0):=by simp[z0,Ji hd S.sg]
  rw[e3]
  by_cases hb:s.b=0
  ·rw[if_pos (by simpa using hb)]
   exact q1 hb
  ·rw[if_neg (by simpa using hb)]
   exact⟨d,s,rfl,S,hb,fun t=>q2 hb t⟩
theorem FH:SeqAt.shaped (.str "plan")=true:=nofun
theorem Se:SeqAt.shaped (.str "mixture")=true:=nofun
theorem Tu:PyData.eqv (.str "bar") (.str "plan")=false:=nofun
theorem SV:PyData.eqv (.str "mixture") (.str "bar")=false:=nofun
theorem B5(h:qW ds U Qd):lL ‹Qd› (aG ["d","kinds","shape","place","told"] ds) U:=by
 obtain⟨d,s,rfl,S,q1,q2⟩:=h
 have hd:=S.rt
 unfold lL
 walk_at "rn"
 refine⟨d,[one],rfl,hd,⋯,⋯,kD,d,s,rfl,hd,S.ok,S.bd.mono ⋯,S.sg,d,rfl,hd,?_⟩
 dsimp only
 rw[Mr]
 simp only[false_eq_true,↓reduceIte]
 walk_at "rn"
 refine⟨d,s,rfl,S,fun hb=>?_,fun hb t=>?_⟩
 ·walk_at "rn"
  refine⟨Se,pH,?_⟩
  rw[SV]
  walk_at "rn"
  refine⟨s,au,0,rfl,?_⟩
  walk_at "rn"
  exact q1 hb _
 ·walk_at "rn"
  refine⟨pH,pH,?_⟩
  rw[show PyData.eqv (.str "bar") (.str "bar")=true by decide +kernel]
  exact q2 hb t
theorem Gq(h:sA ds U Qd):qh ‹Qd› (aG ["d","kinds","shape"] ds) U:=by
 obtain⟨d,s,rfl,S,q⟩:=h
 unfold qh
 walk_at "rn"
 refine⟨d,s,rfl,S,fun hb t=>?_,fun hb t=>?_⟩
 ·walk_at "rn"
  refine⟨FH,FH,?_⟩
  rw[decide_eq_true hb] at q
  rw[show PyData.eqv (.str "plan") (.str "plan")=true by decide +kernel]
  exact q
 ·walk_at "rn"
  refine⟨pH,FH,?_⟩
  rw[decide_eq_false hb] at q
  rw[Tu]
  exact q
end
noncomputable def mD:DSp:=fun ds U Q=>∃(d e:Int),ds=[.v (.int d),.v (wtD e),.v (dN one)]/\aB d/\(e=1\/e = -1)/\Q (.v (.bool true)) U
theorem C4{ds:List D}{U:Mu}{Q:DK}(h:mD ds U Q):ds.length=3:=by obtain⟨_,_,rfl,_⟩:=h;rfl
noncomputable def jE:DSp:=fun ds U Q=>∃e:Int,ds=[.v (wtD e)]/\Q (.v (.bool true)) U
theorem vK{ds:List D}{U:Mu}{Q:DK}(h:jE ds U Q):ds.length=1:=by obtain⟨_,rfl,_⟩:=h;rfl
noncomputable def qH:DSp:=fun ds U Q=>∃(d e:Int) (x:N3),ds=[.v (.int d),.v (wtD e),.v (dN one),.v (dN x)]/\aB d/\(e=1\/e = -1)/\0<e*x.b/\Ok x/\Bd 222 x/\∀y,Bd 4300 y->sg d y.a y.b = -1->Q (.v (dN y)) U
theorem Cq{ds:List D}{U:Mu}{Q:DK}(h:qH ds U Q):ds.length=4:=by obtain⟨_,_,_,rfl,_⟩:=h;rfl
noncomputable def wz:DSp:=fun ds U Q=>∃(d:Int) (x:N3),ds=[.v (.int d),.v (.tuple [dN one]),.v (dN x),.v (Lz x)]/\IP d x/\x.b≠0/\Q (.v (.bool true)) U
theorem DC{ds:List D}{U:Mu}{Q:DK}(h:wz ds U Q):ds.length=4:=by obtain⟨_,_,rfl,_⟩:=h;rfl
noncomputable def j4:DTS:=
 (aE (bQ (iA (de (dB (w4 "tuple" (ag 0)))) (dB (dOp (bZ true) (dCB dJ (af (ag 0) ar)) (dC (.int 4))))) (aT (dC (.bool false))) br)
 (aT (dCB rX (af (nX [none] (kP (ag 0)) (aq 0) ko (av pW (af (ag 0) ar))) ar))))
noncomputable def iG:DTS:=
 (aE (aS (ag 1) (eK 4 (aP (aq 3) (aP (aq 4) (aP (aq 5) (aP (aq 6) eZ))))))
 (aE (aS (av bz (af (ag 0) (af (ag 3) (af (ag 2) ar)))) (aq 7))
 (aE (aS (av bz (af (ag 0) (af (ag 6) (af (av eR (af (ag 2) ar)) ar)))) (aq 8))
 (aE (bQ (iA (dB (dOp rLt (av dI (af (ag 0) (af (ag 7) ar))) (dC (.int 0)))) (dB (dOp rLt (av dI (af (ag 0) (af (ag 8) ar))) (dC (.int 0))))) (aT (dC (.bool false))) br)
 (aE (aS (av dE (af (av bz (af (ag 0) (af (ag 4) (af (av eR (af (ag 2) ar)) ar)))) (af (av bz (af (ag 0) (af (ag 5) (af (ag 2) ar)))) ar))) (aq 9))
 (aE (aS (av bz (af (ag 0) (af (bR (af (dC (.int 4)) (af (dC (.int 0)) (af (dC (.int 1)) ar)))) (af (av bz (af (ag 0) (af (ag 7) (af (ag 8) ar)))) ar)))) (aq 10))
 (aT (zV (av oA (af (ag 0) (af (av bz (af (ag 0) (af (ag 9) (af (ag 9) ar)))) (af (ag 10) ar))))))))))))
noncomputable def qd:DTS:=
 (aE (aS (ag 1) (eK 4 (aP (aq 4) (aP (aq 5) (aP (aq 6) (aP (aq 7) eZ))))))
 (aE (aS (av dE (af (av bz (af (ag 0) (af (ag 4) (af (ag 3) ar)))) (af (av bz (af (ag 0) (af (ag 5) (af (av eR (af (ag 3) ar)) ar)))) ar))) (aq 8))
 (aE (aS (av dE (af (av bz (af (ag 0) (af (ag 6) (af (ag 3) ar)))) (af (av bz (af (ag 0) (af (ag 7) (af (av eR (af (ag 3) ar)) ar)))) ar))) (aq 9))
 (aT (av dE (af (av bz (af (ag 0) (af (ag 2) (af (ag 8) ar)))) (af (av bz (af (ag 0) (af (av eR (af (ag 2) ar)) (af (ag 9) ar)))) ar)))))))
noncomputable def uB:DTS:=
 (aE (gW (av d0 (af (ag 0) (af (ag 1) ar))))
 (aE (gW (av cQ (af (ag 0) (af (ag 2) ar))))
 (aE (bQ (iA (de (dB (w4 "tuple" (ag 3)))) (dB (dOp (bZ true) (dCB dJ (af (ag 3) ar)) (dC (.int 2))))) (aT (dC (.bool false))) br)
 (aE (aS (ag 3) (eK 2 (aP (aq 4) (aP (aq 5) eZ))))
 (aE (bQ (iA (de (dB (av eE (af (ag 0) (af (ag 4) ar))))) (de (dB (av jE (af (ag 5) ar))))) (aT (dC (.bool false))) br)
 (aE (qO (kP (ag 1)) (aq 6) (bQ (iA (de (dB (av mD (af (ag 0) (af (ag 5) (af (ag 6) ar)))))) (de (dB (av mD (af (ag 0) (af (ag 5) (af (av cS (af (ag 0) (af (ag 6) ar))) ar))))))) (aT (dC (.bool false))) br))
 (aT (dOp rLt (av dI (af (ag 0) (af (av qH (af (ag 0) (af (ag 5) (af (ag 4) (af (av bz (af (ag 0) (af (ag 2) (af (ag 4) ar)))) ar))))) ar))) (dC (.int 0))))))))))
section
variable {U:Mu}{Qd:DK}{ds:List D}
theorem bd1{e:Int}(he:e=1\/e = -1):Bd 1 ⟨e,0,1⟩:=⟨Sz.of (by show e.natAbs<2;omega),Sz.of (by show (0:Int).natAbs<2;decide),Sz.of (by show (1:Int).natAbs<2;decide)⟩
theorem yc(h:mD ds U Qd):iG ‹Qd› (aG ["d","weights","kind","p","q","s","t","first","last","middle","most"] ds) U:=by
 obtain⟨d,e,rfl,hd,he,q⟩:=h
 have s5:=jU hd.1 hd.2.1
 have he':-e=1\/-e = -1:=by omega
 have b1:Bd 1 one:=⟨Sz.of ⋯,Sz.of ⋯,Sz.of ⋯⟩
 have b0:Bd 1 au:=⟨Sz.of ⋯,Sz.of ⋯,Sz.of ⋯⟩
 have be:=bd1 he
 have bn:=bd1 he'
 have oe:=g8 e
 have on:=g8 (-e)
 have em:bW one=one:=rfl
 have ep:plus ⟨e,0,1⟩ ⟨-e,0,1⟩=au:=Rep.eq (dj oe on) ba ((ay oe).plus oe on (ay on)) (ay ba) (by show (e*1 + -e*1)*1=0*(1*1);omega) (by show ((0:Int)*1+0*1)*1=0*(1*1);omega)
 have b4:Bd 3 ⟨4,0,1⟩:=⟨Sz.of (by show (4:Int).natAbs<8;decide),Sz.of (by show (0:Int).natAbs<8;decide),Sz.of (by show (1:Int).natAbs<8;decide)⟩
 unfold iG wtD
 walk_at "rn"
 refine⟨trivial,d,au,one,rfl,s5,ba,bF,b0.mono ⋯,b1.mono ⋯,?_⟩
 rw[Fd bF]
 refine⟨one,rfl,?_⟩
 rw[em]
 refine⟨d,au,one,rfl,s5,ba,bF,b0.mono ⋯,b1.mono ⋯,?_⟩
 rw[Fd bF]
 walk_at "rn"
 have z0:sg d au.a au.b=0:=b8.mpr ⟨rfl,rfl⟩
 refine⟨d,au,rfl,hd,b0.mono ⋯,?_⟩
 rw[z0]
 walk_at "rn"
 rw[show decide ((0:Int)<0)=false from rfl]
 walk_at "rn"
 refine⟨d,au,rfl,hd,b0.mono ⋯,?_⟩
 rw[z0]
 walk_at "rn"
 rw[show decide ((0:Int)<0)=false from rfl]
 walk_at "rn"
 refine⟨one,rfl,?_⟩
 rw[em]
 refine⟨d,_,one,rfl,s5,oe,bF,be.mono ⋯,b1.mono ⋯,?_⟩
 rw[xc oe]
 refine⟨d,_,one,rfl,s5,on,bF,bn.mono ⋯,b1.mono ⋯,?_⟩
 rw[xc on]
 refine⟨_,_,rfl,oe,on,be.mono ⋯,bn.mono ⋯,?_⟩
 rw[ep]
 walk_at "rn"
 refine⟨d,au,au,rfl,s5,ba,ba,b0.mono ⋯,b0.mono ⋯,?_⟩
 rw[Fd ba]
 refine⟨d,_,au,rfl,s5,g8 4,ba,b4.mono ⋯,b0.mono ⋯,?_⟩
 rw[Tf (g8 4)]
 walk_at "rn"
 refine⟨d,au,au,rfl,s5,ba,ba,b0.mono ⋯,b0.mono ⋯,?_⟩
 rw[Fd ba]
 refine⟨d,au,au,rfl,hd,b0.mono ⋯,b0.mono ⋯,?_⟩
 rw[L5]
 exact q
theorem FN(h:qH ds U Qd):qd ‹Qd› (aG ["d","weights","width","height","p","q","s","t","by_width","by_its_mate"] ds) U:=by
 obtain⟨d,e,x,rfl,hd,he,hp,ox,bx,q⟩:=h
 have s5:=jU hd.1 hd.2.1
 have he':-e=1\/-e = -1:=by omega
 have b1:Bd 1 one:=⟨Sz.of ⋯,Sz.of ⋯,Sz.of ⋯⟩
 have b0:Bd 1 au:=⟨Sz.of ⋯,Sz.of ⋯,Sz.of ⋯⟩
 have be:=bd1 he
 have bn:=bd1 he'
 have oe:=g8 e
 have on:=g8 (-e)
 have om:=bB ox
 have bm:=oG bx
 have em:bW one=one:=rfl
 have o1:=aZ (d:=d) oe om
 have o2:=aZ (d:=d) on ox
 have B1:=fo s5 oe om be bm
 have B2:=fo s5 on ox bn bx
 unfold qd wtD
 walk_at "rn"
 refine⟨trivial,d,au,x,rfl,s5,ba,ox,b0.mono ⋯,bx.mono ⋯,?_⟩
 rw[Fd ox]
 refine⟨x,rfl,d,_,bW x,rfl,s5,oe,om,be.mono ⋯,bm.mono ⋯,?_⟩
 refine⟨au,_,rfl,ba,o1,b0.mono ⋯,B1.mono ⋯,?_⟩
 rw[Tb o1]
 walk_at "rn"
 refine⟨d,_,x,rfl,s5,on,ox,bn.mono ⋯,bx.mono ⋯,?_⟩
 refine⟨x,rfl,d,au,bW x,rfl,s5,ba,om,b0.mono ⋯,bm.mono ⋯,?_⟩
 rw[Fd om]
 refine⟨_,au,rfl,o2,ba,B2.mono ⋯,b0.mono ⋯,?_⟩
 rw[SW o2]
 walk_at "rn"
 refine⟨d,one,_,rfl,s5,bF,o1,b1.mono ⋯,B1.mono ⋯,?_⟩
 rw[QE o1]
 refine⟨one,rfl,d,bW one,_,rfl,s5,bF,o2,b1.mono ⋯,B2.mono ⋯,?_⟩
 rw[em,QE o2]
 refine⟨_,_,rfl,o1,o2,B1.mono ⋯,B2.mono ⋯,?_⟩
 refine q _ ((sY o1 o2 B1 B2).mono ⋯) ?_
 have r:=((ay oe).times (d:=d) oe om (ay om)).plus o1 o2 ((ay on).times (d:=d) on ox (ay ox))
 have cp:=ox.c
 have hC:0<(1*(bW x).c)*(1*x.c):=by show 0<(1*x.c)*(1*x.c);rw[Int.one_mul];exact mul_pos cp cp
 rw[Rep.sg hd (dj o1 o2) r hC]
 have eA:(e*(bW x).a+d*0*(bW x).b)*(1*x.c)+(-e*x.a+d*0*x.b)*(1*(bW x).c)=0:=by
  show (e*x.a+d*0 * -x.b)*(1*x.c)+(-e*x.a+d*0*x.b)*(1*x.c)=0
  grind
 have eB:(e*(bW x).b+0*(bW x).a)*(1*x.c)+(-e*x.b+0*x.a)*(1*(bW x).c) = -(2*(e*x.b)*x.c):=by
  show (e * -x.b+0*x.a)*(1*x.c)+(-e*x.b+0*x.a)*(1*x.c) = -(2*(e*x.b)*x.c)
  grind
 rw[eA,eB,N0]
 have:0<2*(e*x.b)*x.c:=mul_pos ∅ cp
 rw[if_neg ∅,if_neg ∅]
theorem Q3(x:N3):skw x=1\/skw x = -1:=by unfold skw;split<;>omega
theorem M7{x:N3}(h:x.b≠0):0<skw x*x.b:=by unfold skw;split<;>omega
theorem yR(h:jE ds U Qd):j4 ‹Qd› (aG ["thing"] ds) U:=by
 obtain⟨e,rfl,q⟩:=h
 unfold j4
 have e2:isT "tuple" (wtD e)=true:=rfl
 walk_at "rn"
 rw[e2]
 unfold wtD
 walk_at "rn"
 rw[if_neg (by simp)]
 refine⟨⋯,fun _=>some (.bool true),fun y hy ad _=>⟨trivial,?_⟩,?_⟩
 ·obtain⟨z,rfl,oz⟩:∃z:N3,y=dN z/\Ok z:=by
   simp only[mem_cons,not_mem_nil,or_false] at hy
   rcases hy with rfl|rfl|rfl|rfl
   ·exact⟨_,rfl,ba⟩
   ·exact⟨_,rfl,g8 e⟩
   ·exact⟨_,rfl,g8 (-e)⟩
   ·exact⟨_,rfl,ba⟩
  exact⟨_,rfl,Ez,rfl,by rw[tE oz]⟩
 exact q
theorem IK(h:wz ds U Qd):uB ‹Qd› (aG ["d","kinds","shape","thing","width","weights","kind"] ds) U:=by
 obtain⟨d,x,rfl,S,hx,q⟩:=h
 have hd:=S.rt
 have ox:=S.ok
 have bx:=S.bd
 have s5:=jU hd.1 hd.2.1
 have pm:=Q3 x
 have sp:=M7 hx
 generalize hk:skw x=e at pm sp
 obtain⟨n1,ec⟩:=Cw hd
 unfold uB Lz
 rw[hk]
 have e1:isT "tuple" (.tuple [dN one,wtD e])=true:=rfl
 walk_at "rn"
 refine⟨d,[one],rfl,hd,⋯,⋯,kD,d,x,rfl,hd,ox,bx.mono ⋯,S.sg,?_⟩
 walk_at "rn"
 rw[e1]
 walk_at "rn"
 rw[if_neg (by simp)]
 refine⟨trivial,d,dN one,rfl,hd,Ez,fun y hy=>by rw[<- lO hy];exact iT ⋯,?_⟩
 rw[fG bF,show sg d one.a one.b=1 from gI]
 walk_at "rn"
 refine⟨e,rfl,?_⟩
 walk_at "rn"
 rw[kQ]
 walk_at "rn"
 refine⟨fun i ρ ad=>∃r6:Option D,ρ=[some (.v (.int d)),some (.v (.tuple [dN one])),some (.v (dN x)),some (.v (.tuple [dN one,wtD e])),some (.v (dN one)),some (.v (wtD e)),r6]/\ad=U,⟨_,rfl,rfl⟩,?_,?_⟩
 ·rintro i y ρ ad hy ⟨r6,rfl,rfl⟩
  obtain rfl:y=dN one:=by
   have:=mem_of_getElem? hy
   simpa using this
  walk_at "rn"
  refine⟨d,e,rfl,hd,pm,?_⟩
  walk_at "rn"
  refine⟨d,one,rfl,s5,n1,iT ⋯,?_⟩
  rw[ec]
  refine⟨d,e,rfl,hd,pm,?_⟩
  walk_at "rn"
  exact⟨_,rfl,trivial⟩
 ·rintro ρ ad ⟨r6,rfl,rfl⟩
  walk_at "rn"
  refine⟨d,x,one,rfl,s5,ox,bF,bx.mono ⋯,iT ⋯,?_⟩
  rw[xc ox]
  refine⟨d,e,x,rfl,hd,pm,sp,ox,bx.mono ⋯,fun y by_ sy=>?_⟩
  refine⟨d,y,rfl,hd,by_.mono ⋯,?_⟩
  rw[sy]
  exact q
end
structure Lh(d:Int)(w h:N3)(ts:List Tl):Prop where
 l:FA d 500 w h ts
 sq:∀t∈ts,t.h=t.w
noncomputable def lH:DSp:=fun ds U Q=>∃(d:Int) (w h:N3) (ts:List Tl),ds=[.v (.int d),.v (kF w h ts)]/\Lh d w h ts/\Q (.v (.list (ts.map fun _=>dN one))) U
theorem xQ{ds:List D}{U:Mu}{Q:DK}(h:lH ds U Q):ds.length=2:=by obtain⟨_,_,_,_,rfl,_⟩:=h;rfl
noncomputable def sS:DSp:=fun ds U Q=>∃(d:Int) (w h:N3) (ts:List Tl),ds=[.v (.int d),.v (kF w h ts),.v (.tuple [dN one])]/\Lh d w h ts/\Q (.v (.bool true)) U
theorem BQ{ds:List D}{U:Mu}{Q:DK}(h:sS ds U Q):ds.length=3:=by obtain⟨_,_,_,_,rfl,_⟩:=h;rfl
noncomputable def C2:DSp:=fun ds U Q=>∃(d:Int) (w h:N3) (p q:Nat) (cs:List Nat),ds=[.v (.int d),.v (dN w),.v (dN h),.v (.list (j5 cs))]/\o5 d w h/\BS d w h p q cs/\Q (.v (dN (times d w h))) U
theorem F9{ds:List D}{U:Mu}{Q:DK}(h:C2 ds U Q):ds.length=4:=by obtain⟨_,_,_,_,_,_,rfl,_⟩:=h;rfl
noncomputable def lF:DTS:=
 (aE (gW (av oF (af (ag 0) (af (ag 1) ar))))
 (aT (nX [none,none,none,none,some 0] (kP (dOp aF (ag 1) (dC (.int 2)))) (eK 4 (aP (aq 0) (aP (aq 1) (aP (aq 2) (aP (aq 3) eZ))))) ko (av iu (af (ag 4) (af (ag 3) (af (ag 2) ar)))))))
noncomputable def wR:DTS:=
 (aE (aS (av lH (af (ag 0) (af (ag 1) ar))) (aq 3))
 (aE (gW (av d0 (af (ag 0) (af (ag 2) ar))))
 (aE (aS (dOp zZ (dCB xo (af (ag 2) ar)) (nX [none,some 0] (kP (ag 2)) (aq 0) ko (av cS (af (ag 1) (af (ag 0) ar))))) (aq 4))
 (aT (dCB rX (af (nX [none,some 4] (k7 (ag 3)) (aq 0) ko (dOp (GI false) (ag 0) (ag 1))) ar))))))
noncomputable def lz:DTS:=
 (aT (av bz (af (ag 0) (af (ag 1) (af (av cS (af (ag 0) (af (ag 2) ar))) ar)))))
noncomputable def lG:DTS:=
 (aE (aS (bR (af (dC (.int 0)) (af (dC (.int 0)) (af (dC (.int 1)) ar)))) (aq 4))
 (aE (vG 5 6 (af (ag 1) (af (ag 2) ar)))
 (aE (qO (k7 (ag 3)) (aq 7) (aE (aS (dIf (dB (av sW (af (ag 0) (af (ag 6) (af (ag 5) ar))))) (ag 6) (ag 5)) (aq 8))
 (aE (aS (av dE (af (ag 4) (af (av bz (af (ag 0) (af (bR (af (ag 7) (af (dC (.int 0)) (af (dC (.int 1)) ar)))) (af (av bz (af (ag 0) (af (ag 8) (af (ag 8) ar)))) ar)))) ar))) (aq 4))
 (aE (aS (av bz (af (ag 0) (af (bR (af (ag 7) (af (dC (.int 0)) (af (dC (.int 1)) ar)))) (af (ag 8) ar)))) (aq 9))
 (bQ (dB (av sW (af (ag 0) (af (ag 6) (af (ag 5) ar))))) (aS (av j6 (af (ag 5) (af (ag 9) ar))) (aq 5)) (aS (av j6 (af (ag 6) (af (ag 9) ar))) (aq 6)))))))
 (aT (ag 4)))))
section
variable {U:Mu}{Qd:DK}{ds:List D}
theorem nrm{d:Int}(hd:aB d){x:N3}(ox:Ok x)(h:sg d x.a x.b=1):norm d x≠0:=hd.norm ox (kz h)
theorem Cd(h:lH ds U Qd):lF ‹Qd› (aG ["d","laying"] ds) U:=by
 obtain⟨d,w,h,ts,rfl,L,q⟩:=h
 have hd:=L.l.root
 have l60:=L.l.l60
 unfold lF
 walk_at "rb"
 refine⟨d,_,rfl,hd,L.l.lp ⋯,L.l.yes,?_⟩
 rw[show kF w h ts = .tuple [dN w,dN h,.tuple (ts.map tlD)] from rfl]
 walk_at "rb"
 rw[xy]
 walk_at "rb"
 refine⟨by rw[length_map];omega,fun _=>some (dN one),?_,?_⟩
 ·intro x hx ad _
  obtain⟨t,mt,rfl⟩:=List.mem_map.mp hx
  have v:=L.l.LB.tile t mt
  have b:=L.l.bd t mt
  rw[show tlD t = .tuple [dN t.x,dN t.y,dN t.w,dN t.h] from rfl]
  walk_at "rb"
  simp only[true_and,and_true,↓reduceIte]
  refine⟨d,t.h,t.w,rfl,hd,v.oh,v.ow,kz v.sw,b.h.mono ⋯,b.w.mono ⋯,?_⟩
  rw[L.sq t mt,iS v.ow (nrm hd v.ow v.sw)]
  exact⟨rfl,rfl⟩
 rw[OT (f:=tlD) (g:=fun _=>some (dN one)) (h:=fun _=>dN one) (fun _=>rfl)]
 exact q
theorem Mc(h:sS ds U Qd):wR ‹Qd› (aG ["d","laying","kinds","shapes","fitting"] ds) U:=by
 obtain⟨d,w,h,ts,rfl,L,q⟩:=h
 have hd:=L.l.root
 have l60:=L.l.l60
 have s5:=jU hd.1 hd.2.1
 obtain⟨n1,ec⟩:=Cw hd
 unfold wR
 walk_at "rb"
 refine⟨d,w,h,ts,rfl,L,?_⟩
 walk_at "rb"
 refine⟨d,[one],rfl,hd,⋯,⋯,kD,?_⟩
 walk_at "rb"
 rw[xy]
 walk_at "rb"
 refine⟨⋯,fun _=>some (dN one),?_,?_⟩
 ·intro x hx ad _
  rw[List.mem_singleton.mp hx]
  refine⟨⟨trivial,trivial⟩,?_⟩
  rw[if_pos trivial]
  refine⟨d,one,rfl,s5,n1,iT ⋯,?_⟩
  rw[ec]
  exact⟨rfl,rfl⟩
 refine⟨⋯,?_⟩
 rw[xy]
 walk_at "rb"
 refine⟨by rw[length_map];omega,fun x=>some (.bool true),?_,?_⟩
 ·intro x hx ad _
  obtain⟨t,_,rfl⟩:=List.mem_map.mp hx
  walk_at "rb"
  refine⟨⟨trivial,trivial⟩,?_⟩
  rw[if_pos trivial]
  exact⟨rfl,rfl,⋯,trivial,congrArg some (congrArg PyData.bool nofun)⟩
 rw[show (ts.map fun _=>dN one).filterMap (fun _=>some (PyData.bool true))=ts.map (fun _=>PyData.bool true) by rw[List.filterMap_map,<- List.filterMap_eq_map];rfl]
 have eb:∀us:List Tl,b6 (us.map fun _=>PyData.bool true)=some (us.map fun _=>true):=fun us=>by
  induction us with
  |nil=>rfl
  |cons u us ih=>rw[map_cons,map_cons];unfold b6;rw[ih];rfl
 have ea:(ts.map fun _=>true).all id=true:=by rw[all_map];exact List.all_eq_true.mpr fun _ _=>rfl
 rw[eb]
 dsimp only
 rw[ea]
 exact q
theorem Bu(h:iu ds U Qd):lz ‹Qd› (aG ["_law_d","_law_x","_law_y"] ds) U:=by
 obtain⟨d,x,y,rfl,hd,ox,oy,yn,bx,by_,q⟩:=h
 have s5:=jU hd.1 hd.2.1
 have ny:=hd.norm oy yn
 unfold lz
 walk_at "rn"
 refine⟨d,y,rfl,s5,ny,by_.mono ⋯,?_⟩
 exact⟨d,x,_,rfl,s5,ox,bO ny,bx.mono ⋯,(jL s5 ny by_).mono ⋯,q⟩
theorem BN{d:Int}{u:N3}(ou:Ok u){i c:Nat}:times d ⟨(c:Int),0,1⟩ (Uq d u i)=Uq d u (c*i):=by
 rw[Ki (g8 c) (bo ou)]
 refine Rep.eq (aZ (bo ou) (g8 c)) (bo ou) ((i6 ou).times (bo ou) (g8 c) (ay (g8 c))) (i6 ou) ?_ ?_
 ·show (u.a*i*c+d*(u.b*i)*0)*u.c=u.a*((c*i:Nat):Int)*(u.c*1)
  rw[Int.natCast_mul];grind
 ·show (u.a*i*0+u.b*i*c)*u.c=u.b*((c*i:Nat):Int)*(u.c*1)
  rw[Int.natCast_mul];grind
theorem JO{d:Int}{u:N3}(ou:Ok u){i j:Nat}:times d (Uq d u i) (Uq d u j)=Uq d (times d u u) (i*j):=by
 have o2:=aZ (d:=d) ou ou
 have r2:=(ay ou).times (d:=d) ou ou (ay ou)
 have r:=r2.times (d:=d) o2 (g8 ((i*j:Nat):Int)) (ay (g8 _))
 refine Rep.eq (aZ (bo ou) (bo ou)) (bo o2) ((i6 ou).times (bo ou) (bo ou) (i6 ou)) r ?_ ?_
 ·show (u.a*i*(u.a*j)+d*(u.b*i)*(u.b*j))*(u.c*u.c*1)=((u.a*u.a+d*u.b*u.b)*((i*j:Nat):Int)+d*(u.a*u.b+u.b*u.a)*0)*(u.c*u.c)
  rw[Int.natCast_mul];grind
 ·show (u.a*i*(u.b*j)+u.b*i*(u.a*j))*(u.c*u.c*1)=((u.a*u.a+d*u.b*u.b)*0+(u.a*u.b+u.b*u.a)*((i*j:Nat):Int))*(u.c*u.c)
  rw[Int.natCast_mul];grind
theorem Dj(h:C2 ds U Qd):lG ‹Qd› (aG ["_law_d","_law_width","_law_height","_law_counts","_law_found","_law_wide","_law_high","_law_count","_law_side","_law_taken"] ds) U:=by
 obtain⟨d,w,h,p,q,cs,rfl,s,F,k⟩:=h
 obtain⟨hu,eq,ep⟩:=Dp s F
 have pb:=hu.pb
 have qb:=hu.qb
 generalize hU:fT d w q=u at hu eq ep
 have hd:=hu.rt
 have s5:=jU hd.1 hd.2.1
 have ou:=hu.ou
 have o2:=aZ (d:=d) ou ou
 have b2:=fo s5 ou ou hu.bu hu.bu
 have qp:q*p<2 ^ 384:=by rw[show 2 ^ 384=2 ^ 192*2 ^ 192 by rw[<- Nat.pow_add]];exact Nat.mul_lt_mul'' qb pb
 have g2:∀{n},n<=q*p->Bd 4300 (Uq d (times d u u) n):=fun hn=>(Kd s5 o2 b2 (Nat.lt_of_le_of_lt hn qp) ⋯).mono ⋯
 have g1:∀{i},i<2 ^ 192->Bd 4300 (Uq d u i):=fun hi=>bdU hu hi
 have bw:∀{c:Nat},c<2 ^ 192->Bd 4300 ⟨(c:Int),0,1⟩:=fun hc=>⟨(szN hc).mono ⋯,(show Sz 1 (0:Int) from Sz.of ⋯).mono ⋯,(show Sz 1 (1:Int) from Sz.of ⋯).mono ⋯⟩
 have le:∀{x y:Nat},y<=x*y\/x=0:=fun {x y}=>by
  rcases Nat.eq_zero_or_pos x with z|z
  ·exact .inr z
  ·exact .inl (Nat.le_mul_of_pos_left y z)
 unfold lG
 walk_at "rn"
 rw[kQ]
 walk_at "rn"
 refine⟨fun kk ρ ad=>∃(a b n:Nat) (r7 r8 r9:Option D),ρ=[some (.v (.int d)),some (.v (dN w)),some (.v (dN h)),some (.v (.list (j5 cs))),some (.v (dN (Uq d (times d u u) n))),some (.v (dN (Uq d u a))),some (.v (dN (Uq d u b))),r7,r8,r9]/\n+a*b=q*p/\Euc (max a b) (min a b) (cs.drop kk)/\a<=q/\b<=p/\ad=U,
  ⟨q,p,0,_,_,_,by rw[wa o2,eq,ep];rfl,∅,by rw[List.drop_zero,Nat.max_comm,Nat.min_comm];exact F.g,le_refl _,le_refl _,rfl⟩,?_,?_⟩
 ·rintro kk x ρ al hx ⟨a,b,n,r7,r8,r9,rfl,hn,g,ha,hb,rfl⟩
  obtain⟨c,hc,rfl,hdr⟩:=JM hx
  rw[hdr] at g
  walk_at "rn"
  refine⟨d,_,_,rfl,hd,bo ou,bo ou,g1 ∅,g1 ∅,?_⟩
  rw[Hj hd ou hu.su]
  by_cases hlt:b<a
  ·rw[decide_eq_true hlt]
   walk_at "rn"
   rw[Nat.max_eq_left ∅,Nat.min_eq_right ∅] at g
   cases g with
   |cons hb0 g=>
    have e:=div_add_mod a b
    rw[mul_comm] at e
    have lm:=mod_lt a hb0
    generalize a / b=c at *
    generalize a % b=r at *
    have c1:c<=c*b:=Nat.le_mul_of_pos_right c hb0
    have ab:a*b=c*(b*b)+r*b:=by rw[<- e,Nat.add_mul,Nat.mul_assoc]
    refine⟨d,_,_,rfl,s5,bo ou,bo ou,g1 ∅,g1 ∅,?_⟩
    rw[JO ou]
    have bb:b*b<=q*p:=le_trans (Nat.mul_le_mul_right b (show b<=a by omega)) ∅
    refine⟨d,_,_,rfl,s5,g8 c,bo o2,bw ∅,g2 bb,?_⟩
    rw[BN o2]
    refine⟨_,_,rfl,bo o2,bo o2,g2 ∅,g2 ∅,?_⟩
    rw[Dg o2]
    walk_at "rn"
    refine⟨d,_,_,rfl,s5,g8 c,bo ou,bw ∅,g1 ∅,?_⟩
    rw[BN ou]
    walk_at "rn"
    refine⟨d,_,_,rfl,hd,bo ou,bo ou,g1 ∅,g1 ∅,?_⟩
    rw[Hj hd ou hu.su,decide_eq_true hlt]
    walk_at "rn"
    refine⟨_,_,rfl,bo ou,bo ou,g1 ∅,g1 ∅,?_⟩
    rw[mX ou ∅,show a-c*b=r by omega]
    exact⟨r,b,_,_,_,_,rfl,∅,by rw[Nat.max_eq_right ∅,min_eq_left ∅];exact g,∅,hb,rfl⟩
  ·rw[decide_eq_false hlt]
   walk_at "rn"
   rw[Nat.max_eq_right ∅,min_eq_left ∅] at g
   cases g with
   |cons ha0 g=>
    have e:=div_add_mod b a
    rw[mul_comm] at e
    have lm:=mod_lt b ha0
    generalize b / a=c at *
    generalize b % a=r at *
    have c1:c<=c*a:=Nat.le_mul_of_pos_right c ha0
    have ab:a*b=c*(a*a)+a*r:=by rw[<- e,Nat.mul_add,Nat.mul_left_comm]
    refine⟨d,_,_,rfl,s5,bo ou,bo ou,g1 ∅,g1 ∅,?_⟩
    rw[JO ou]
    have aa:a*a<=q*p:=le_trans (Nat.mul_le_mul_left a (show a<=b by omega)) ∅
    refine⟨d,_,_,rfl,s5,g8 c,bo o2,bw ∅,g2 aa,?_⟩
    rw[BN o2]
    refine⟨_,_,rfl,bo o2,bo o2,g2 ∅,g2 ∅,?_⟩
    rw[Dg o2]
    walk_at "rn"
    refine⟨d,_,_,rfl,s5,g8 c,bo ou,bw ∅,g1 ∅,?_⟩
    rw[BN ou]
    walk_at "rn"
    refine⟨d,_,_,rfl,hd,bo ou,bo ou,g1 ∅,g1 ∅,?_⟩
    rw[Hj hd ou hu.su,decide_eq_false hlt]
    walk_at "rn"
    refine⟨_,_,rfl,bo ou,bo ou,g1 ∅,g1 ∅,?_⟩
    rw[mX ou ∅,show b-c*a=r by omega]
    exact⟨a,r,_,_,_,_,rfl,∅,by rw[Nat.max_eq_left ∅,Nat.min_eq_right ∅];exact g,ha,∅,rfl⟩
 ·rintro ρ al ⟨a,b,n,r7,r8,r9,rfl,hn,g,ha,hb,rfl⟩
  have:(j5 cs).length=cs.length:=length_map _
  rw[this,List.drop_length] at g
  have z:a*b=0:=by
   generalize hM:max a b=M at g
   generalize hm:min a b=m at g
   cases g
   have:a=0\/b=0:=by omega
   rcases this with rfl|rfl
   ·exact Nat.zero_mul _
   ·exact Nat.mul_zero _
  walk_at "rn"
  rw[show n=q*p by omega,<- JO ou,eq,ep]
  exact k
end
noncomputable def wu:DSp:=fun ds U Q=>∃(a:Addr) (d:Int),ds=[.m a,.v (.int d)]/\aB d/\Bag U a/\∀w h ad,o5 d w h->Step a U ad->Q (.v (.tuple [dN w,dN h])) ad
theorem D3{ds:List D}{U:Mu}{Q:DK}(h:wu ds U Q):ds.length=2:=by obtain⟨_,_,rfl,_⟩:=h;rfl
noncomputable def iF:DSp:=fun ds U Q=>∃(d:Int) (w h:N3),ds=[.v (.int d),.v (dN w),.v (dN h)]/\o5 d w h/\Q (.v (.bool true)) U
theorem yS{ds:List D}{U:Mu}{Q:DK}(h:iF ds U Q):ds.length=3:=by obtain⟨_,_,_,rfl,_⟩:=h;rfl
noncomputable def el:DTS:=
 (aE (aS (av cW (af (ag 0) (af (dC (.int 8)) ar))) (aq 2))
 (aE (aS (av mV (af (ag 0) (af (ag 1) ar))) (aq 3))
 (aE (bQ (dB (dOp (bZ false) (ag 2) (dC (.int 0)))) (aT (bR (af (ag 3) (af (av mV (af (ag 0) (af (ag 1) ar))) ar)))) br)
 (aE (bQ (dB (dOp (bZ false) (ag 2) (dC (.int 1)))) (aT (bR (af (ag 3) (af (av dE (af (ag 3) (af (bR (af (dC (.int 1)) (af (dC (.int 0)) (af (jd (dC (.int 1)) (av cW (af (ag 0) (af (dC (.int 9)) ar)))) ar)))) ar))) ar)))) br)
 (aE (vG 4 5 (af (jd (dC (.int 1)) (av cW (af (ag 0) (af (dC (.int 12)) ar)))) (af (jd (dC (.int 1)) (av cW (af (ag 0) (af (dC (.int 12)) ar)))) ar)))
 (aE (bQ (dB (dOp (bZ false) (ag 2) (dC (.int 2)))) (vG 4 5 (af (jd (dC (.int 1)) (av cW (af (ag 0) (af (dC (.int 999999)) ar)))) (af (jd (dC (.int 1)) (av cW (af (ag 0) (af (dC (.int 999999)) ar)))) ar))) br)
 (aE (bQ (dB (dOp (bZ false) (ag 2) (dC (.int 3)))) (aE (aS (bR (af (dC (.int 1)) (af (dC (.int 1)) ar))) (eK 2 (aP (aq 4) (aP (aq 5) eZ))))
 (qO (tT (af (av cW (af (ag 0) (af (dC (.int 26)) ar))) ar)) (aq 6) (vG 4 5 (af (ag 5) (af (jd (ag 4) (ag 5)) ar))))) br)
 (aE (bQ (dB (dOp (bZ false) (ag 2) (dC (.int 4)))) (aS (dOp aF (vR (af (bR (af (dC (.int 1)) (af (dC (.int 60)) ar))) (af (bR (af (dC (.int 60)) (af (dC (.int 1)) ar))) (af (bR (af (dC (.int 1)) (af (dC (.int 61)) ar))) (af (bR (af (dC (.int 61)) (af (dC (.int 1)) ar))) (af (bR (af (dC (.int 59)) (af (dC (.int 58)) ar))) (af (bR (af (dC (.int 2)) (af (dC (.int 59)) ar))) ar))))))) (av cW (af (ag 0) (af (dC (.int 6)) ar)))) (eK 2 (aP (aq 4) (aP (aq 5) eZ)))) br)
 (aT (bR (af (ag 3) (af (av bz (af (ag 1) (af (ag 3) (af (av cE (af (ag 4) (af (dC (.int 0)) (af (ag 5) ar)))) ar)))) ar))))))))))))
noncomputable def gA:DTS:=
 (aE (aS (bR (af (bR (af (dC (.int 1)) (af (dC (.int 0)) (af (dC (.int 1)) ar)))) ar)) (aq 3))
 (aE (aS (av iu (af (ag 0) (af (ag 2) (af (ag 1) ar)))) (aq 4))
 (aE (aS (av xw (af (ag 0) (af (ag 1) (af (ag 2) ar)))) (aq 5))
 (aE (bQ (iA (dB (dOp (bZ true) (av sA (af (ag 0) (af (ag 3) (af (ag 4) ar)))) (dOp (bZ false) (dOp aF (ag 5) (dC (.int 0))) (dC (.str "squares"))))) (dB (dOp (bZ true) (dOp (bZ false) (dOp aF (ag 4) (dC (.int 1))) (dC (.int 0))) (dOp (bZ false) (dOp aF (ag 5) (dC (.int 0))) (dC (.str "squares")))))) (aT (dC (.bool false))) br)
 (aE (bQ (dB (dOp (bZ false) (dOp aF (ag 5) (dC (.int 0))) (dC (.str "bar")))) (aT (dOp Kl (av wz (af (ag 0) (af (ag 3) (af (ag 4) (af (dOp aF (ag 5) (dC (.int 1))) ar))))) (dC (.bool true)))) br)
 (aE (bQ (dB (dOp (bZ true) (av C2 (af (ag 0) (af (ag 1) (af (ag 2) (af (dOp aF (ag 5) (dC (.int 1))) ar))))) (av bz (af (ag 0) (af (ag 1) (af (ag 2) ar)))))) (aT (dC (.bool false))) br)
 (aE (bQ (dB (dOp rGt (dCB yr (af (dOp aF (ag 5) (dC (.int 1))) ar)) (dC (.int 60)))) (aT (dC (.bool true))) br)
 (aE (aS (av qA (af (ag 0) (af (ag 1) (af (ag 2) ar)))) (aq 6))
 (aT (kK (dOp Kl (av sS (af (ag 0) (af (ag 6) (af (ag 3) ar)))) (dC (.bool true))) (kK (dOp (bZ false) (dCB dJ (af (dOp aF (ag 6) (dC (.int 2))) ar)) (dCB yr (af (dOp aF (ag 5) (dC (.int 1))) ar))) (dOp (bZ false) (dSl (ag 6) BL (KH (dC (.int 2)))) (bR (af (ag 1) (af (ag 2) ar)))))))))))))))
noncomputable def Gp:DTS:=
 (aE (qO (tT (af (dCB (CF max) (af (dC (.int 2)) (af (dCB (CF min) (af (dC (.int 5)) (af (dCB dJ (af (ag 0) ar)) ar))) ar))) ar)) (aq 1) (aE (aS (av GY (af (ag 0) (af (ag 1) ar))) (aq 2))
 (aE (aS (av wj (af (ag 2) ar)) (aq 3))
 (qO (tT (af (dC (.int 2)) ar)) (aq 4) (aE (aS (av wu (af (ag 2) (af (ag 3) ar))) (eK 2 (aP (aq 5) (aP (aq 6) eZ))))
 (bQ (iA (de (dB (av iF (af (ag 3) (af (ag 5) (af (ag 6) ar)))))) (de (dB (av iF (af (ag 3) (af (ag 6) (af (ag 5) ar))))))) (aT (dC (.bool false))) br))))))
 (aT (av iF (af (dC (.int 2)) (af (bR (af (dC (.int 1)) (af (dC (.int 0)) (af (dC (.int 1)) ar)))) (af (bR (af (dC (.int 0)) (af (dC (.int 1)) (af (dC (.int 1)) ar)))) ar))))))
section
variable {U:Mu}{Qd:DK}{ds:List D}{ρ:Rho}
theorem I0{d:Int}{w:N3}{p q:Int}(hd:aB d)(ow:Ok w)(bw:Bd 20 w)(sw:sg d w.a w.b=1)(p0:0<p)(q0:0<q)(pb:p<2 ^ 27)(qb:q<2 ^ 27):Ok (low p 0 q)/\Bd 27 (low p 0 q)/\o5 d w (times d w (low p 0 q)):=by
 have s5:=jU hd.1 hd.2.1
 have qn:q≠0:=by omega
 have ol:=mS p 0 qn
 have bl:Bd 27 (low p 0 q):=qj qn (Sz.of (by show p.natAbs<134217728;omega)) sz0 (Sz.of (by show q.natAbs<134217728;omega))
 have sl:sg d (low p 0 q).a (low p 0 q).b=1:=by
  rw[Df hd q0]
  exact (dH hd).mpr (.inl ⟨∅,∅,∅⟩)
 exact⟨ol,bl,hd,ow,aZ ow ol,bw.mono ⋯,(fo s5 ow ol bw bl).mono ⋯,sw,by rw[rS hd ow ol,sw,sl];rfl⟩
theorem oQ(h:wu ds U Qd):el ‹Qd› (aG ["_law_bag_here","_law_d","_law_way","_law_width","_law_p","_law_q","_law_turn"] ds) U:=by
 obtain⟨a,d,rfl,hd,hb,q⟩:=h
 have s5:=jU hd.1 hd.2.1
 unfold el
 walk_at "rn"
 refine⟨a,8,rfl,⋯,⋯,hb,fun way al w0 w1 s1=>?_⟩
 walk_at "rn"
 refine⟨a,d,rfl,hd,s1.1,fun w am ow bw sw s2=>?_⟩
 walk_at "rn"
 have s12:=s1.trans s2
 by_cases c0:way=0
 ·rw[if_pos (by simp[c0])]
  refine⟨a,d,rfl,hd,s2.1,fun h ci oh bh sh s3=>?_⟩
  exact q w h ci ⟨hd,ow,oh,bw.mono ⋯,bh.mono ⋯,sw,sh⟩ (s12.trans s3)
 ·rw[if_neg (by simp[c0])]
  by_cases c1:way=1
  ·rw[if_pos (by simp[c1])]
   refine⟨a,9,rfl,⋯,⋯,s2.1,fun t ci t0 t1 s3=>?_⟩
   walk_at "rn"
   have of:Ok ⟨1,0,1+t⟩:=⟨by show (0:Int)<1+t;omega,by show Int.gcd (Int.gcd 1 0) (1+t)=1;rw[show ((Int.gcd 1 0:Nat):Int)=1 from rfl];exact Int.gcd_one_left _⟩
   have bf:Bd 4 ⟨1,0,1+t⟩:=⟨Sz.of (by show (1:Int).natAbs<16;decide),Sz.of (by show (0:Int).natAbs<16;decide),Sz.of (by show (1+t).natAbs<16;omega)⟩
   have sf:sg d 1 0=1:=(dH hd).mpr (.inl ⟨∅,∅,∅⟩)
   refine⟨w,⟨1,0,1+t⟩,rfl,ow,of,bw.mono ⋯,bf.mono ⋯,?_⟩
   exact q _ _ ci ⟨hd,ow,dj ow of,bw.mono ⋯,(sY ow of bw bf).mono ⋯,sw,Lo hd ow of (.inr sw) sf⟩ (s12.trans s3)
  ·rw[if_neg (by simp[c1])]
   refine⟨a,12,rfl,⋯,⋯,s2.1,fun p ci p0 p1 s3=>?_⟩
   walk_at "rn"
   refine⟨a,12,rfl,⋯,⋯,s3.1,fun r dL r0 r1 s4=>?_⟩
   walk_at "rn"
   have s14:=s12.trans (s3.trans s4)
   have fin:∀(x y:Int) (ad:Mu),0<x->0<y->x<2 ^ 27->y<2 ^ 27->Step a U ad->cE [.v (.int x),.v (.int 0),.v (.int y)] ad (fun z al=>bz [.v (.int d),.v (dN w),z] al fun z al=>match Option.map (fun z=>dN w::z) (cH [z]) with|some xs=>Qd (.v (.tuple xs)) al|none=>False):=fun x y ad x0 y0 xb yb st=>by
    obtain⟨ol,bl,S⟩:=I0 hd ow bw sw x0 y0 xb yb
    refine⟨x,0,y,rfl,∅,(Sz.of (n:=27) (by show y.natAbs<134217728;omega)).mono ⋯,?_⟩
    exact⟨d,w,_,rfl,s5,ow,ol,bw.mono ⋯,bl.mono ⋯,q _ _ ad S st⟩
   by_cases c2:way=2
   ·subst c2
    rw[if_pos ⋯]
    refine⟨a,999999,rfl,⋯,⋯,s4.1,fun p' gl p0' p1' s5'=>?_⟩
    walk_at "rn"
    refine⟨a,999999,rfl,⋯,⋯,s5'.1,fun r' u8 r0' r1' s6=>?_⟩
    walk_at "rn"
    rw[if_neg ⋯,if_neg ⋯]
    exact fin _ _ u8 ∅ ∅ ∅ ∅ (s14.trans (s5'.trans s6))
   ·rw[if_neg (by simp[c2])]
    by_cases c3:way=3
    ·subst c3
     rw[if_pos ⋯]
     refine⟨trivial,?_⟩
     rw[kQ]
     walk_at "rn"
     refine⟨a,26,rfl,⋯,⋯,s4.1,fun n gl n0 n1 s5'=>?_⟩
     walk_at "rn"
     refine⟨⟨∅,∅⟩,fun i ρ ad=>∃(x y:Int) (r6:Option D),ρ=[some (.m a),some (.v (.int d)),some (.v (.int 3)),some (.v (dN w)),some (.v (.int x)),some (.v (.int y)),r6]/\0<x/\0<y/\x<=2 ^ i/\y<=2 ^ i/\ad=gl,⟨1,1,_,rfl,⋯,⋯,⋯,⋯,rfl⟩,?_,?_⟩
     ·rintro i v ρ ad hv ⟨x,y,r6,rfl,x0,y0,xb,yb,rfl⟩
      walk_at "rn"
      have e:(2:Int) ^ (i+1)=2 ^ i*2:=Int.pow_succ 2 i
      exact⟨y,x+y,_,rfl,y0,∅,∅,∅,trivial⟩
     ·rintro ρ ad ⟨x,y,r6,rfl,x0,y0,xb,yb,rfl⟩
      rw[xS] at xb yb
      walk_at "rn"
      rw[if_neg ⋯]
      have hp:(2:Int) ^ n.toNat<=2 ^ 26:=by
       have h:=Nat.pow_le_pow_right (show 0<2 by decide) (show n.toNat<=26 by omega)
       have h2:((2 ^ n.toNat:Nat):Int)<=((2 ^ 26:Nat):Int):=by exact_mod_cast h
       simpa using h2
      exact fin x y _ x0 y0 ∅ ∅ (s14.trans s5')
    ·rw[if_neg (by simp[c3])]
     by_cases c4:way=4
     ·subst c4
      rw[if_pos ⋯]
      refine⟨a,6,rfl,⋯,⋯,s4.1,fun n gl n0 n1 s5'=>?_⟩
      walk_at "rn"
      obtain⟨_,e,x,y,rfl,x0,y0,xb,yb⟩:=pick (P:=fun v=>∃x y:Int,v = .tuple [.int x,.int y]/\0<x/\0<y/\x<2 ^ 27/\y<2 ^ 27) (xs:=[.tuple [.int 1,.int 60],.tuple [.int 60,.int 1],.tuple [.int 1,.int 61],.tuple [.int 61,.int 1],.tuple [.int 59,.int 58],.tuple [.int 2,.int 59]]) n0 (by exact n1) (by
       intro v hv
       simp only[mem_cons,not_mem_nil,or_false] at hv
       rcases hv with rfl|rfl|rfl|rfl|rfl|rfl<;>exact⟨_,_,rfl,⋯,⋯,⋯,⋯⟩)
      rw[e]
      walk_at "rn"
      exact⟨trivial,fin x y _ x0 y0 xb yb (s14.trans s5')⟩
     ·rw[if_neg (by simp[c4])]
      exact fin _ _ dL ∅ ∅ ∅ ∅ s14
theorem R0:PyData.eqv (.str "bar") (.str "squares")=false:=nofun
theorem RQ:PyData.eqv (.str "squares") (.str "squares")=true:=nofun
theorem Ts:PyData.eqv (.str "bar") (.str "bar")=true:=nofun
theorem Rg{d:Int}{w h:N3}(s:o5 d w h):IP d (shp d w h):=by
 have s5:=jU s.rt.1 s.rt.2.1
 have nw:=nZ s.rt s.ow s.sw
 have oc:=bO nw
 refine⟨s.rt,aZ s.oh oc,(fo s5 s.oh oc s.bh (jL s5 nw s.bw)).mono ⋯,?_⟩
 show sg d (times d h (aX d w)).a (times d h (aX d w)).b=1
 rw[rS s.rt s.oh oc,s.sh,uT s.rt s.ow s.sw];rfl
theorem Tx{d:Int}{w h:N3}{p q:Nat}{cs:List Nat}(s:o5 d w h)(F:BS d w h p q cs)(l:cs.sum<=60):Lh d w h ((ni q p cs).map (tlT d (fT d w q))):=by
 obtain⟨hu,eq,ep⟩:=Dp s F
 have r:=Q5 hu.rt hu.ou hu.su F.q0 F.p0 F.g
 rw[eq,ep] at r
 refine⟨⟨s.rt,r,by rw[length_map];unfold ni;rw[gN];exact l,s.bw.mono ⋯,s.bh.mono ⋯,fun t ht=>?_⟩,fun t ht=>?_⟩
 ·obtain⟨x,hx,rfl⟩:=List.mem_map.mp ht
  obtain⟨h0,h1,h2⟩:=NA F.g hx
  have g:∀{i},i<2 ^ 192->Bd 500 (Uq d (fT d w q) i):=fun hi=>(Kd (jU s.rt.1 s.rt.2.1) hu.ou hu.bu hi ⋯).mono ⋯
  have qb:=F.qb
  have pb:=F.pb
  exact⟨g ∅,g ∅,g ∅,g ∅⟩
 ·obtain⟨x,hx,rfl⟩:=List.mem_map.mp ht
  rfl
theorem tX(h:iF ds U Qd):gA ‹Qd› (aG ["_law_d","_law_width","_law_height","_law_square","_law_shape","_law_told","_law_laying"] ds) U:=by
 obtain⟨d,w,h,rfl,s,q⟩:=h
 have S:=Rg s
 have hd:=s.rt
 have s5:=jU hd.1 hd.2.1
 unfold gA
 walk_at "rb"
 refine⟨d,h,w,rfl,hd,s.oh,s.ow,kz s.sw,s.bh.mono ⋯,s.bw.mono ⋯,?_⟩
 rw[show times d h (aX d w)=shp d w h from rfl]
 walk_at "rb"
 refine⟨d,w,h,rfl,s,fun hb=>?_,fun p q' cs F=>?_⟩
 ·walk_at "rb"
  refine⟨d,shp d w h,rfl,S,?_⟩
  walk_at "rb"
  refine⟨pH,vq,?_⟩
  rw[R0,decide_eq_false hb]
  walk_at "rb"
  rw[rV ⋯]
  walk_at "rb"
  refine⟨pH,vq,?_⟩
  rw[R0,decide_eq_false hb]
  walk_at "rb"
  rw[rV ⋯]
  walk_at "rb"
  refine⟨pH,pH,?_⟩
  rw[Ts]
  walk_at "rb"
  refine⟨d,shp d w h,rfl,S,hb,?_⟩
  walk_at "rb"
  exact q
 ·have hb:(shp d w h).b=0:=by rw[F.e]
  walk_at "rb"
  refine⟨d,shp d w h,rfl,S,?_⟩
  walk_at "rb"
  refine⟨vq,vq,?_⟩
  rw[RQ,decide_eq_true hb]
  walk_at "rb"
  rw[rV ⋯]
  walk_at "rb"
  refine⟨vq,vq,?_⟩
  rw[RQ,decide_eq_true hb]
  walk_at "rb"
  rw[rV ⋯]
  walk_at "rb"
  refine⟨vq,pH,?_⟩
  rw[Oj]
  walk_at "rb"
  refine⟨d,w,h,p,q',cs,rfl,s,F,?_⟩
  refine⟨d,w,h,rfl,s5,s.ow,s.oh,s.bw.mono ⋯,s.bh.mono ⋯,?_⟩
  walk_at "rb"
  rw[yg]
  dsimp only
  rw[Cc]
  by_cases hs:60<cs.sum
  ·rw[xB (by rw[decide_eq_true_eq];omega)]
   walk_at "rb"
   exact q
  ·rw[rV (by rw[decide_eq_true_eq];omega)]
   walk_at "rb"
   refine⟨d,w,h,p,q',cs,rfl,s,F,∅,?_⟩
   walk_at "rb"
   refine⟨d,w,h,_,rfl,Tx s F ∅,?_⟩
   have ln:((ni q' p cs).map (tlT d (fT d w q'))).length=cs.sum:=by rw[length_map];unfold ni;rw[gN]
   generalize (ni q' p cs).map (tlT d (fT d w q'))=ts at ln
   walk_at "rb"
   rw[show kF w h ts = .tuple [dN w,dN h,.tuple (ts.map tlD)] from rfl]
   rw[xB ⋯]
   walk_at "rb"
   rw[yg]
   dsimp only
   rw[Cc,length_map,ln,xB (by simp)]
   walk_at "rb"
   have sh:SeqAt.shaped (.tuple [dN w,dN h])=true:=rfl
   refine⟨sh,sh,?_⟩
   rw[show PyData.eqv (.tuple (zD [dN w,dN h,.tuple (ts.map tlD)] none (some 2))) (.tuple [dN w,dN h])=true from Jv sh]
   exact q
theorem Pe(h:xg ds U Qd):Gp ‹Qd› (aG ["_law_script","_law_k","_law_bag_here","_law_d","_law_turn","_law_width","_law_height"] ds) U:=by
 obtain⟨ns,rfl,h63,q⟩:=h
 unfold Gp
 rw[Hv,kQ]
 walk_at "rn"
 have hm:(-(2 ^ 62)<=max 2 (min 5 ((ns.length:Nat):Int))/\max 2 (min 5 ((ns.length:Nat):Int))<2 ^ 62):=by omega
 refine⟨hm,fun i ρ ad=>∃r1 r2 r3 r4 r5 r6,ρ=[some (.s ns),r1,r2,r3,r4,r5,r6],⟨_,_,_,_,_,_,rfl⟩,?_,?_⟩
 ·rintro i x ρ wS hx ⟨r1,r2,r3,r4,r5,r6,rfl⟩
  obtain⟨rfl,hi⟩:=AW hx
  walk_at "rn"
  refine⟨ns,_,rfl,∅,∅,fun a al ha s1=>?_⟩
  walk_at "rn"
  refine⟨a,rfl,s1.1,fun d am hd s2=>?_⟩
  dsimp only
  rw[kQ]
  walk_at "rn"
  refine⟨⋯,fun j ρ ad=>∃r4 r5 r6,ρ=[some (.s ns),some (.v (.int (0+(i:Int)))),some (.m a),some (.v (.int d)),r4,r5,r6]/\Bag ad a,⟨_,_,_,rfl,s2.1⟩,?_,?_⟩
  ·rintro j x ρ ci hx ⟨r4,r5,r6,rfl,hb⟩
   walk_at "rn"
   refine⟨a,d,rfl,hd,hb,fun w h dL S s4=>?_⟩
   walk_at "rn"
   refine⟨trivial,d,w,h,rfl,S,?_⟩
   walk_at "rn"
   refine⟨d,h,w,rfl,⟨S.rt,S.oh,S.ow,S.bh,S.bw,S.sh,S.sw⟩,?_⟩
   walk_at "rn"
   exact⟨_,_,_,rfl,s4.1⟩
  ·rintro ρ ci ⟨r4,r5,r6,rfl,hb⟩
   exact⟨_,_,_,_,_,_,rfl⟩
 ·rintro ρ wS ⟨r1,r2,r3,r4,r5,r6,rfl⟩
  have h2:aB 2:=⟨⋯,⋯,⋯,⋯,⋯,⋯⟩
  refine⟨2,one,⟨0,1,1⟩,rfl,⟨h2,bF,⟨⋯,⋯⟩,iT ⋯,(show Bd 1 ⟨0,1,1⟩ from ⟨Sz.of ⋯,Sz.of ⋯,Sz.of ⋯⟩).mono ⋯,gI,⋯⟩,?_⟩
  exact q _
end
end L2.DL
namespace K21
open PySem L2 L2.DL
set_option genInjectivity false in
structure Adr where
 yO:Addr
 yG:FuncData
 ki:Addr
 kU:FuncData
 vm:Addr
 u6:FuncData
 kY:Addr
 kA:FuncData
 E2:Addr
 D4:FuncData
 Jz:Addr
 Lg:FuncData
 LM:Addr
 JC:FuncData
 KZ:Addr
 Lk:FuncData
 GX:Addr
 Hs:FuncData
 Ls:Addr
 KR:FuncData
 xD:Addr
 wZ:FuncData
 Al:Addr
 AZ:FuncData
 mz:Addr
 l7:FuncData
 yq:Addr
 yu:FuncData
 jO:Addr
 jQ:FuncData
 gi:Addr
 fO:FuncData
 AV:Addr
 AJ:FuncData
 xA:Addr
 xr:FuncData
 uX:Addr
 ve:FuncData
 pq:Addr
 oV:FuncData
 nK:Addr
 mL:FuncData
 nj:Addr
 mC:FuncData
 pG:Addr
 pf:FuncData
 uS:Addr
 vn:FuncData
 xN:Addr
 wH:FuncData
 kC:Addr
 kO:FuncData
 mr:Addr
 mj:FuncData
 vA:Addr
 uO:FuncData
 GS:Addr
 Hz:FuncData
 rf:Addr
 tm:FuncData
 jC:Addr
 jy:FuncData
 uW:Addr
 uR:FuncData
 nC:Addr
 mP:FuncData
 jH:Addr
 jR:FuncData
 qI:Addr
 sX:FuncData
 Am:Addr
 Av:FuncData
 o7:Addr
 ph:FuncData
 EL:Addr
 DR:FuncData
 qR:Addr
 qS:FuncData
 uK:Addr
 uG:FuncData
 xh:Addr
 yw:FuncData
 Aw:Addr
 Ap:FuncData
 K6:Addr
 LP:FuncData
 jK:Addr
 jS:FuncData
 kE:Addr
 kH:FuncData
 qN:Addr
 rH:FuncData
 vv:Addr
 uU:FuncData
 AD:Addr
 Aj:FuncData
 rZ:Addr
 se:FuncData
 sR:Addr
 sM:FuncData
 sG:Addr
 tG:FuncData
 nF:Addr
 n4:FuncData
 qX:Addr
 qx:FuncData
 uH:Addr
 vt:FuncData
 uZ:Addr
 uI:FuncData
 wD:Addr
 yy:FuncData
 oZ:Addr
 o3:FuncData
 qr:Addr
 tp:FuncData
 sQ:Addr
 rp:FuncData
 u0:Addr
 uN:FuncData
 vp:Addr
 vw:FuncData
 ma:Addr
 mf:FuncData
 xP:Addr
 xO:FuncData
 uY:Addr
 u4:FuncData
 va:Addr
 uV:FuncData
 iM:Addr
 iX:FuncData
 rQ:Addr
 rJ:FuncData
 pJ:Addr
 pK:FuncData
 u9:Addr
 vd:FuncData
 mv:Addr
 mw:FuncData
 Ou:Addr
 Oq:FuncData
 zI:Tok
 yP:Tok
 IE:Addr
 QJ:Addr
structure Txt(K:PySem.W.Frag)(mg:Str->Option Value)(t:Adr):Prop where
 lU:Cal K mg "is_whole" ["thing"] iW t.yO t.yG
 gv:Cal K mg "common_divisor" ["a","b"] cY t.ki t.kU
 gS:Cal K mg "is_number" ["thing"] gX t.vm t.u6
 gB:Cal K mg "divisor_of_all" ["a","b","c"] da t.kY t.kA
 nO:Cal K mg "number" ["a","b","c"] mG t.E2 t.D4
 gD:Cal K mg "mate" ["x"] wM t.Jz t.Lg
 kf:Cal K mg "plus" ["x","y"] yL t.LM t.JC
 CU:Cal K mg "less" ["x","y"] xp t.KZ t.Lk
 bX:Cal K mg "times" ["d","x","y"] qL t.GX t.Hs
 pZ:Cal K mg "over" ["d","x","y"] xE t.Ls t.KR
 jk:Cal K mg "contrary" ["d","x"] jj t.xD t.wZ
 cJ:Cal K mg "sign_of" ["d","x"] kr t.Al t.AZ
 ir:Cal K mg "sign_of_parts" ["d","a","b"] dr t.mz t.l7
 lP:Cal K mg "is_above" ["d","x","y"] i7 t.yq t.yu
 bH:Cal K mg "is_above_nought" ["d","thing"] cM t.jO t.jQ
 bC:Cal K mg "must_be_above_nought" ["d","thing"] bS t.gi t.fO
 AU:Cal K mg "is_tile" ["d","thing"] km t.AV t.AJ
 yv:Cal K mg "has_form" ["d","thing"] iV t.xA t.xr
 vb:Cal K mg "bounds_of" ["tile"] ib t.uX t.ve
 o6:Cal K mg "place_among" ["d","marks","x"] eD t.pq t.oV
 jc:Cal K mg "rising_marks" ["d","found"] dS t.nK t.mL
 jg:Cal K mg "reaches_just" ["marks","end"] dX t.nj t.mC
 o9:Cal K mg "covers_once" ["bounds","across","upward"] eI t.pG t.pf
 uM:Cal K mg "is_laying" ["d","thing"] gT t.uS t.vn
 yN:Cal K mg "is_kinds" ["d","thing"] iQ t.xN t.wH
 kh:Cal K mg "must_be_laying" ["d","thing"] cX t.kC t.kO
 dy:Cal K mg "must_be_kinds" ["d","thing"] dz t.mr t.mj
 u5:Cal K mg "shapes_in" ["d","laying"] ic t.vA t.uO
 G3:Cal K mg "is_by" ["d","laying","kinds"] sL t.GS t.Hz
 lI:Cal K mg "squares_of" ["d","width","height"] fh t.rf t.tm
 jP:Cal K mg "bar_for_squares" ["shape"] cR t.jC t.jy
 vz:Cal K mg "counts_of" ["shape"] gO t.uW t.uR
 nH:Cal K mg "squares_laid" ["d","width","height"] dQ t.nC t.mP
 jw:Cal K mg "tiles_by_counts" ["d","width","height","counts"] cP t.jH t.jR
 sV:Cal K mg "is_weights" ["thing"] fD t.qI t.sX
 Ah:Cal K mg "weighed" ["d","weights","width","height"] kX t.Am t.Av
 jZ:Cal K mg "never_below" ["d","weights","kind"] eG t.o7 t.ph
 EM:Cal K mg "is_bar" ["d","kinds","shape","thing"] mU t.EL t.DR
 qQ:Cal K mg "mixture_of" ["d","kind","shape"] fJ t.qR t.qS
 DJ:Cal K mg "shares_of" ["d","first","second","shape"] gR t.uK t.uG
 yd:Cal K mg "is_share" ["d","x"] jn t.xh t.yw
 Ax:Cal K mg "bar_for" ["d","kind","shape"] kq t.Aw t.Ap
 Ft:Cal K mg "skew" ["shape","way"] wL t.K6 t.LP
 jG:Cal K mg "plan_of_mixture" ["u","v","place"] cL t.jK t.jS
 kS:Cal K mg "plan_of_shares" ["u","first","v","second"] cU t.kE t.kH
 fS:Cal K mg "share_plan" ["share","plan"] fK t.qN t.rH
 vi:Cal K mg "wish_told" ["d","kinds","shape"] gQ t.vv t.uU
 AH:Cal K mg "is_laid" ["d","kinds","shape"] kW t.AD t.Aj
 qD:Cal K mg "leans_most" ["d","kinds"] gj t.rZ t.se
 sH:Cal K mg "mate_signs" ["d","kinds"] fA t.sR t.sM
 BK:Cal K mg "leans_more" ["d","kind","other"] fN t.sG t.tG
 xZ:Cal K mg "plan_by_both" ["d","kinds","shape"] dU t.nF t.n4
 lh:Cal K mg "_law_below" ["_law_d","_law_x","_law_y"] fq t.qX t.qx
 mE:Cal K mg "_law_sign" ["_law_d","_law_x"] ia t.uH t.vt
 gU:Cal K mg "_law_plus" ["_law_x","_law_y"] hW t.uZ t.uI
 gy:Cal K mg "_law_low" ["_law_a","_law_b","_law_c"] iO t.wD t.yy
 kd:Cal K mg "_law_shared" ["_law_one","_law_other"] eL t.oZ t.o3
 iE:Cal K mg "_law_minus" ["_law_x"] fu t.qr t.tp
 di:Cal K mg "_law_times" ["_law_d","_law_x","_law_y"] fE t.sQ t.rp
 mH:Cal K mg "_law_less" ["_law_x","_law_y"] gZ t.u0 t.uN
 vo:Cal K mg "_law_over" ["_law_d","_law_x","_law_y"] hJ t.vp t.vw
 md:Cal K mg "_law_contrary" ["_law_d","_law_x"] dw t.ma t.mf
 yo:Cal K mg "_law_bag" ["_law_script","_law_at"] jh t.xP t.xO
 vj:Cal K mg "_law_root" ["_law_bag_here"] gP t.uY t.u4
 bp:Cal K mg "_law_take" ["_law_bag_here","_law_many"] hX t.va t.uV
 iK:Cal K mg "_law_floor_sides" ["_law_bag_here","_law_d"] cC t.iM t.iX
 lD:Cal K mg "_law_above" ["_law_bag_here","_law_d"] fI t.rQ t.rJ
 pE:Cal K mg "_law_number" ["_law_bag_here"] eC t.pJ t.pK
 vg:Cal K mg "_law_area" ["_law_d","_law_width","_law_height","_law_counts"] gY t.u9 t.vd
 eP:Cal K mg "_law_is_right" ["_law_d","_law_width","_law_height"] du t.mv t.mw
 RZ:Cal K mg "law" ["_law_script"] qJ t.Ou t.Oq
 cm:mg "isinstance"=none
 AL:mg "int"=none
 P7:mg "bool"=none
 Dt:mg "abs"=none
 jv:mg "tuple"=none
 gp:mg "len"=none
 Es:mg "all"=none
 Sl:mg "set"=none
 jF:mg "range"=none
 uQ:mg "enumerate"=none
 QD:mg "list"=none
 Om:mg "min"=none
 OI:mg "max"=none
 JU:mg "sum"=none
 A9:mg "MOST_KINDS"=some (.int 3 t.zI)
 sO:mg "MOST_TILES"=some (.int 60 t.yP)
 dA:P8 K mg "NOUGHT" t.IE 0 0 1
 Hy:P8 K mg "ONE" t.QJ 1 0 1
structure EQ where
 P:Program
 w:World
 K:PySem.W.Frag
 mg:Str->Option Value
 base:Heap
 t:Adr
noncomputable abbrev FO(e:EQ)(k:Nat)(a:Addr)(d:FuncData)(ps:List Str)(sp:DSp):Prop:=mT e.P e.w e.K e.mg e.base CX0 k a d ps (spD e.K sp)
noncomputable abbrev TX(e:EQ):Prop:=Txt e.K e.mg e.t
noncomputable abbrev vy(e:EQ):Prop:=FO e 1 e.t.yO e.t.yG ["thing"] oi
noncomputable abbrev jz(e:EQ):Prop:=FO e 1 e.t.ki e.t.kU ["a","b"] sD
noncomputable abbrev iB(e:EQ):Prop:=FO e 3 e.t.vm e.t.u6 ["thing"] pW
noncomputable abbrev fV(e:EQ):Prop:=FO e 2 e.t.kY e.t.kA ["a","b","c"] xl
noncomputable abbrev k0(e:EQ):Prop:=FO e 3 e.t.E2 e.t.D4 ["a","b","c"] cE
noncomputable abbrev oI(e:EQ):Prop:=FO e 1 e.t.Jz e.t.Lg ["x"] eR
noncomputable abbrev oM(e:EQ):Prop:=FO e 4 e.t.LM e.t.JC ["x","y"] dE
noncomputable abbrev Cm(e:EQ):Prop:=FO e 4 e.t.KZ e.t.Lk ["x","y"] j6
noncomputable abbrev iJ(e:EQ):Prop:=FO e 4 e.t.GX e.t.Hs ["d","x","y"] bz
noncomputable abbrev qu(e:EQ):Prop:=FO e 5 e.t.Ls e.t.KR ["d","x","y"] iu
noncomputable abbrev hZ(e:EQ):Prop:=FO e 4 e.t.xD e.t.wZ ["d","x"] cS
noncomputable abbrev dW(e:EQ):Prop:=FO e 2 e.t.Al e.t.AZ ["d","x"] dI
noncomputable abbrev gu(e:EQ):Prop:=FO e 1 e.t.mz e.t.l7 ["d","a","b"] tq
noncomputable abbrev jI(e:EQ):Prop:=FO e 2 e.t.yq e.t.yu ["d","x","y"] oA
noncomputable abbrev bV(e:EQ):Prop:=FO e 4 e.t.jO e.t.jQ ["d","thing"] eE
noncomputable abbrev bN(e:EQ):Prop:=FO e 5 e.t.gi e.t.fO ["d","thing"] cQ
noncomputable abbrev ya(e:EQ):Prop:=FO e 5 e.t.AV e.t.AJ ["d","thing"] CM
noncomputable abbrev u7(e:EQ):Prop:=FO e 6 e.t.xA e.t.xr ["d","thing"] vY
noncomputable abbrev rM(e:EQ):Prop:=FO e 5 e.t.uX e.t.ve ["tile"] oJ
noncomputable abbrev nh(e:EQ):Prop:=FO e 3 e.t.pq e.t.oV ["d","marks","x"] sF
noncomputable abbrev ml(e:EQ):Prop:=FO e 4 e.t.nK e.t.mL ["d","found"] oO
noncomputable abbrev l9(e:EQ):Prop:=FO e 1 e.t.nj e.t.mC ["marks","end"] sN
noncomputable abbrev n5(e:EQ):Prop:=FO e 1 e.t.pG e.t.pf ["bounds","across","upward"] yt
noncomputable abbrev qP(e:EQ):Prop:=FO e 7 e.t.uS e.t.vn ["d","thing"] rA
noncomputable abbrev vh(e:EQ):Prop:=FO e 5 e.t.xN e.t.wH ["d","thing"] rG
noncomputable abbrev jB(e:EQ):Prop:=FO e 8 e.t.kC e.t.kO ["d","thing"] oF
noncomputable abbrev cZ(e:EQ):Prop:=FO e 6 e.t.mr e.t.mj ["d","thing"] d0
noncomputable abbrev tH(e:EQ):Prop:=FO e 9 e.t.vA e.t.uO ["d","laying"] lH
noncomputable abbrev EV(e:EQ):Prop:=FO e 10 e.t.GS e.t.Hz ["d","laying","kinds"] sS
noncomputable abbrev j3(e:EQ):Prop:=FO e 7 e.t.rf e.t.tm ["d","width","height"] xw
noncomputable abbrev i8(e:EQ):Prop:=FO e 6 e.t.jC e.t.jy ["shape"] tD
noncomputable abbrev rY(e:EQ):Prop:=FO e 1 e.t.uW e.t.uR ["shape"] x9
noncomputable abbrev l8(e:EQ):Prop:=FO e 8 e.t.nC e.t.mP ["d","width","height"] qA
noncomputable abbrev iH(e:EQ):Prop:=FO e 5 e.t.jH e.t.jR ["d","width","height","counts"] w8
noncomputable abbrev o8(e:EQ):Prop:=FO e 4 e.t.qI e.t.sX ["thing"] jE
noncomputable abbrev xY(e:EQ):Prop:=FO e 5 e.t.Am e.t.Av ["d","weights","width","height"] qH
noncomputable abbrev mK(e:EQ):Prop:=FO e 5 e.t.o7 e.t.ph ["d","weights","kind"] mD
noncomputable abbrev A5(e:EQ):Prop:=FO e 7 e.t.EL e.t.DR ["d","kinds","shape","thing"] wz
noncomputable abbrev pC(e:EQ):Prop:=FO e 7 e.t.qR e.t.qS ["d","kind","shape"] wx
noncomputable abbrev si(e:EQ):Prop:=FO e 1 e.t.uK e.t.uG ["d","first","second","shape"] uq
noncomputable abbrev vc(e:EQ):Prop:=FO e 3 e.t.xh e.t.yw ["d","x"] oj
noncomputable abbrev yj(e:EQ):Prop:=FO e 6 e.t.Aw e.t.Ap ["d","kind","shape"] lM
noncomputable abbrev HU(e:EQ):Prop:=FO e 5 e.t.K6 e.t.LP ["shape","way"] yD
noncomputable abbrev i9(e:EQ):Prop:=FO e 3 e.t.jK e.t.jS ["u","v","place"] oo
noncomputable abbrev jx(e:EQ):Prop:=FO e 2 e.t.kE e.t.kH ["u","first","v","second"] qZ
noncomputable abbrev pj(e:EQ):Prop:=FO e 1 e.t.qN e.t.rH ["share","plan"] ji
noncomputable abbrev qG(e:EQ):Prop:=FO e 8 e.t.vv e.t.uU ["d","kinds","shape"] qW
noncomputable abbrev xW(e:EQ):Prop:=FO e 9 e.t.AD e.t.Aj ["d","kinds","shape"] sA
noncomputable abbrev pL(e:EQ):Prop:=FO e 7 e.t.rZ e.t.se ["d","kinds"] qC
noncomputable abbrev pD(e:EQ):Prop:=FO e 3 e.t.sR e.t.sM ["d","kinds"] wc
noncomputable abbrev oW(e:EQ):Prop:=FO e 1 e.t.sG e.t.tG ["d","kind","other"] uq
noncomputable abbrev mi(e:EQ):Prop:=FO e 1 e.t.nF e.t.n4 ["d","kinds","shape"] uq
noncomputable abbrev oU(e:EQ):Prop:=FO e 4 e.t.qX e.t.qx ["_law_d","_law_x","_law_y"] sW
noncomputable abbrev lE(e:EQ):Prop:=FO e 1 e.t.uH e.t.vt ["_law_d","_law_x"] dI
noncomputable abbrev gh(e:EQ):Prop:=FO e 3 e.t.uZ e.t.uI ["_law_x","_law_y"] dE
noncomputable abbrev fc(e:EQ):Prop:=FO e 2 e.t.wD e.t.yy ["_law_a","_law_b","_law_c"] cE
noncomputable abbrev mR(e:EQ):Prop:=FO e 1 e.t.oZ e.t.o3 ["_law_one","_law_other"] sD
noncomputable abbrev gJ(e:EQ):Prop:=FO e 1 e.t.qr e.t.tp ["_law_x"] og
noncomputable abbrev eO(e:EQ):Prop:=FO e 3 e.t.sQ e.t.rp ["_law_d","_law_x","_law_y"] bz
noncomputable abbrev sI(e:EQ):Prop:=FO e 4 e.t.u0 e.t.uN ["_law_x","_law_y"] j6
noncomputable abbrev rh(e:EQ):Prop:=FO e 4 e.t.vp e.t.vw ["_law_d","_law_x","_law_y"] iu
noncomputable abbrev kZ(e:EQ):Prop:=FO e 3 e.t.ma e.t.mf ["_law_d","_law_x"] cS
noncomputable abbrev vk(e:EQ):Prop:=FO e 1 e.t.xP e.t.xO ["_law_script","_law_at"] GY
noncomputable abbrev rg(e:EQ):Prop:=FO e 2 e.t.uY e.t.u4 ["_law_bag_here"] wj
noncomputable abbrev fH(e:EQ):Prop:=FO e 1 e.t.va e.t.uV ["_law_bag_here","_law_many"] cW
noncomputable abbrev ix(e:EQ):Prop:=FO e 5 e.t.iM e.t.iX ["_law_bag_here","_law_d"] wu
noncomputable abbrev pF(e:EQ):Prop:=FO e 4 e.t.rQ e.t.rJ ["_law_bag_here","_law_d"] mV
noncomputable abbrev nU(e:EQ):Prop:=FO e 3 e.t.pJ e.t.pK ["_law_bag_here"] oE
noncomputable abbrev qv(e:EQ):Prop:=FO e 5 e.t.u9 e.t.vd ["_law_d","_law_width","_law_height","_law_counts"] C2
noncomputable abbrev kT(e:EQ):Prop:=FO e 11 e.t.mv e.t.mw ["_law_d","_law_width","_law_height"] iF
noncomputable abbrev JS(e:EQ):Prop:=FO e 12 e.t.Ou e.t.Oq ["_law_script"] xg
section
variable {e:EQ}
theorem E6:aA ["thing"] ["thing"] (aw iW):=bG
theorem EW(T:TX e):vy e:=by
 have S:=E6
 exact T.lU.f.okD S (fun ds U Q h=>Ff h) (fun cdv A outer s H E hr=>⟨nY,(ao (az (ke (lJ (ML _) rfl T.cm rfl T.AL PyProof.Rows.Boot.«int» (dv 0)) (nt (Bq (lJ (Kh _) rfl T.cm rfl T.P7 PyProof.Rows.Boot.«bool» (dv 0))))))),fun ds U Qd h=>EU h⟩)
theorem tw:aA ["a","b"] ["a","b"] (aw cY):=bG
theorem qE(T:TX e):jz e:=by
 have S:=tw
 exact T.gv.f.okD S (fun ds U Q h=>AK h) (fun cdv A outer s H E hr=>⟨fY,(ak (rP PassesOwn.never (aL (fw hr.units) bc (dv 1) ai (aC _)) (ao (j1 (i:=0) (j:=1) rfl S.nd rfl rfl ⋯ rfl rfl (ae (dv 1) (ae (jX (dv 0) (dv 1)) ah)) rfl)))
  (ao (az (yp rfl T.Dt (ae (dv 0) ah))))),fun ds U Qd h=>sJ h⟩)
theorem Mn:aA ["x"] ["x"] (aw wM):=bG
theorem bB(T:TX e):oI e:=by
 have S:=Mn
 exact T.gD.f.okD S (fun ds U Q h=>Gj h) (fun cdv A outer s H E hr=>⟨Dl,(ao (az (aQ (ae (ax (dv 0) ai) (ae (iI (ax (dv 0) ai)) (ae (ax (dv 0) ai) ah)))))),fun ds U Qd h=>Nn h⟩)
theorem uh:aA ["d","a","b","prevailing"] ["d","a","b"] (aw dr):=bG
theorem tW(T:TX e):gu e:=by
 have S:=uh
 exact T.ir.f.okD S (fun ds U Q h=>E8 h) (fun cdv A outer s H E hr=>⟨gw,(ak (bj (DW.dt (CL (aL (bI hr.units) bc (dv 1) ai (aC _)) (wg (aL (bI hr.units) bc (dv 2) ai (aC _))))) (ao (az ai)) aJ)
  (ak (bj (DW.dt (CL (aL AE dP (dv 1) ai (aC _)) (wg (aL AE dP (dv 2) ai (aC _))))) (ao (az ai)) aJ)
  (ak (bj (DW.dt (CL (aL Oo dP (dv 1) ai (aC _)) (wg (aL Oo dP (dv 2) ai (aC _))))) (ao (az (iI ai))) aJ)
  (ak (aN (i:=3) S.nd (rn (aL ja dP (aR (dv 1) (dv 1)) (aR (aR (dv 0) (dv 2)) (dv 2)) (aC _)) (dv 1) (dv 2)))
  (ao (az (rn (aL ja dP (dv 3) ai (aC _)) ai (iI ai)))))))),fun ds U Qd h=>um h⟩)
theorem vL:aA ["marks","end"] ["marks","end"] (aw dX):=bG
theorem vH(T:TX e):l9 e:=by
 have S:=vL
 exact T.jg.f.okD S (fun ds U Q h=>DP h) (fun cdv A outer s H E hr=>⟨ik,(ao (az (ke (b9 (bI hr.units) bc (ax (dv 0) ai) (cj rfl T.dA) (aC _)) (nt (b9 (bI hr.units) bc (ax (dv 0) (iI ai)) (dv 1) (aC _)))))),fun ds U Qd h=>vO h⟩)
theorem x8:aA ["bounds","across","upward","columns","rows","covered","left","right","bottom","top","column","row"] ["bounds","across","upward"] (aw eI):=bG
theorem yC(T:TX e):n5 e:=by
 have S:=x8
 exact BE (T.o9.f.okD S (fun ds U Q h=>zB h) (fun cdv A outer s H E hr=>⟨iR,(ak (OA (i:=3) (N':=["at","x"]) (cap:=[none,none]) S.nd rfl rfl rfl hr.units (GQ rfl T.uQ (ae (dv 1) ah)) (fun _ _ _=>(dF (n:=2) rfl (aD (dc 0) (aD (dc 1) cF)))) (fun _ _ _=>dZ) (fun _ _ _=>(dv 1)) (fun _ _ _=>(dv 0)))
  (ak (OA (i:=4) (N':=["at","y"]) (cap:=[none,none]) S.nd rfl rfl rfl hr.units (GQ rfl T.uQ (ae (dv 2) ah)) (fun _ _ _=>(dF (n:=2) rfl (aD (dc 0) (aD (dc 1) cF)))) (fun _ _ _=>dZ) (fun _ _ _=>(dv 1)) (fun _ _ _=>(dv 0)))
  (ak (aN (i:=5) S.nd (Im rfl T.Sl))
  (ak (il PassesOwn.never rfl (k5 (dv 0)) (dF (n:=4) rfl (aD (bD (i:=6) S.nd) (aD (bD (i:=7) S.nd) (aD (bD (i:=8) S.nd) (aD (bD (i:=9) S.nd) cF))))) (ao (il PassesOwn.never rfl (we rfl T.jF (ae (CI hr.units (dv 3) (dv 6)) (ae (CI hr.units (dv 3) (dv 7)) ah))) (bD (i:=10) S.nd) (ao (il PassesOwn.never rfl (we rfl T.jF (ae (CI hr.units (dv 4) (dv 8)) (ae (CI hr.units (dv 4) (dv 9)) ah))) (bD (i:=11) S.nd) (ak (bj (PU hr.units (aQ (ae (dv 10) (ae (dv 11) ah))) (dv 5) (by with_unfolding_all rfl)) (ao (az eJ)) aJ)
  (ao (dg (Nq hr.units (dv 5) (aQ (ae (dv 10) (ae (dv 11) ah))))))))))))
  (ao (az (b9 (bI hr.units) bc (Nz rfl T.gp (ae (dv 5) ah)) (aR (eo (dY rfl T.gp (ae (dv 1) ah)) ai) (eo (dY rfl T.gp (ae (dv 2) ah)) ai)) (aC _)))))))),fun ds U Qd h=>xM h⟩)) (fun ds U Qd h=>vS h)
theorem CO:aA ["shape","short","rest","counts"] ["shape"] (aw gO):=bG
theorem Bz(T:TX e):rY e:=by
 have S:=CO
 exact BE (T.vz.f.okD S (fun ds U Q h=>zS h) (fun cdv A outer s H E hr=>⟨k9,(ak (aN (i:=1) S.nd (K8 rfl rfl T.Om (ae (ax (dv 0) ai) (ae (ax (dv 0) ai) ah))))
  (ak (aN (i:=2) S.nd (Ka rfl rfl T.OI (ae (ax (dv 0) ai) (ae (ax (dv 0) ai) ah))))
  (ak (aN (i:=3) S.nd (v5 ah))
  (ak (rP PassesOwn.never (aL (fw hr.units) bc (dv 1) ai (aC _)) (ak (dg (AS (dv 3) (ig (dv 2) (dv 1))))
  (ao (j1 (i:=2) (j:=1) rfl S.nd rfl rfl ⋯ rfl rfl (ae (dv 1) (ae (jX (dv 2) (dv 1)) ah)) rfl))))
  (ao (az (dv 3))))))),fun ds U Qd h=>Ce h⟩)) (fun ds U Qd h=>zU h)
theorem NI:aA ["d","first","second","shape","whole","part","of_second","of_first"] ["d","first","second","shape"] (aw gR):=bG
theorem B6(_:TX e):si e:=
 ⟨fun vs H Q E h=>by obtain⟨ds,U,Qd,_,r,z,_⟩:=h;exact z.elim,fun A outer s H args us vs Q E hr e0 hb hv h=>by obtain⟨ds,U,Qd,_,r,z,_⟩:=h;exact z.elim⟩
theorem zC:aA ["share","plan"] ["share","plan"] (aw fK):=bG
theorem zo(T:TX e):pj e:=by
 have S:=zC
 exact T.fS.f.okD S (fun ds U Q h=>Ci h) (fun cdv A outer s H E hr=>⟨ka,(ak (bj (aL (bI hr.units) bc (dv 0) (cj rfl T.Hy) (aC _)) (ao (az (dv 1))) aJ)
  (ao (az (aQ (ae en (ae (ax (dv 0) ai) (ae (ax (dv 0) ai) (ae (dv 1) ah)))))))),fun ds U Qd h=>yW h⟩)
theorem Mi:aA ["d","kind","other","a","b","c","other_a","other_b","other_c"] ["d","kind","other"] (aw fN):=bG
theorem zm(_:TX e):oW e:=
 ⟨fun vs H Q E h=>by obtain⟨ds,U,Qd,_,r,z,_⟩:=h;exact z.elim,fun A outer s H args us vs Q E hr e0 hb hv h=>by obtain⟨ds,U,Qd,_,r,z,_⟩:=h;exact z.elim⟩
theorem Jt:aA ["d","kinds","shape","signs","first","first_plan","second","second_plan","is_contrary","u","v","plan"] ["d","kinds","shape"] (aw dU):=bG
theorem vI(_:TX e):mi e:=
 ⟨fun vs H Q E h=>by obtain⟨ds,U,Qd,_,r,z,_⟩:=h;exact z.elim,fun A outer s H args us vs Q E hr e0 hb hv h=>by obtain⟨ds,U,Qd,_,r,z,_⟩:=h;exact z.elim⟩
theorem Ck:aA ["_law_d","_law_x","_law_first","_law_second","_law_sides"] ["_law_d","_law_x"] (aw ia):=bG
theorem B8(T:TX e):lE e:=by
 have S:=Ck
 exact T.mE.f.okD S (fun ds U Q h=>yE h) (fun cdv A outer s H E hr=>⟨lT,(ak (j1 (i:=2) (j:=3) rfl S.nd rfl rfl ⋯ rfl rfl (ae (aR (ax (dv 1) ai) (ax (dv 1) ai)) (ae (aR (aR (dv 0) (ax (dv 1) ai)) (ax (dv 1) ai)) ah)) rfl)
  (ak (aN (i:=4) S.nd (jT (ae (eo (nk rfl T.AL (ae (b9 ja dP (ax (dv 1) ai) ai (aC _)) ah)) (nk rfl T.AL (ae (b9 kv dP (ax (dv 1) ai) ai (aC _)) ah))) (ae (eo (nk rfl T.AL (ae (b9 ja dP (ax (dv 1) ai) ai (aC _)) ah)) (nk rfl T.AL (ae (b9 kv dP (ax (dv 1) ai) ai (aC _)) ah))) ah))))
  (ak (bj (aL AE dP (aR (ax (dv 4) ai) (ax (dv 4) ai)) ai (aC _)) (ao (az (rn (aL (fw hr.units) bc (ax (dv 4) ai) ai (aC _)) (ax (dv 4) ai) (ax (dv 4) ai)))) aJ)
  (ao (az (rn (aL ja dP (dv 2) (dv 3) (aC _)) (ax (dv 4) ai) (ax (dv 4) ai))))))),fun ds U Qd h=>Bt h⟩)
theorem yf:aA ["_law_one","_law_other"] ["_law_one","_law_other"] (aw eL):=bG
theorem yH(T:TX e):mR e:=by
 have S:=yf
 exact T.kd.f.okD S (fun ds U Q h=>AK h) (fun cdv A outer s H E hr=>⟨jl,(ak (j1 (i:=0) (j:=1) rfl S.nd rfl rfl ⋯ rfl rfl (ae (yp rfl T.Dt (ae (dv 0) ah)) (ae (yp rfl T.Dt (ae (dv 1) ah)) ah)) rfl)
  (ak (rP PassesOwn.never (aL ja dP (dv 1) ai (aC _)) (ao (j1 (i:=0) (j:=1) rfl S.nd rfl rfl ⋯ rfl rfl (ae (dv 1) (ae (jX (dv 0) (dv 1)) ah)) rfl)))
  (ao (az (dv 0))))),fun ds U Qd h=>xn h⟩)
theorem yQ:aA ["_law_x"] ["_law_x"] (aw fu):=bG
theorem yU(T:TX e):gJ e:=by
 have S:=yQ
 exact T.iE.f.okD S (fun ds U Q h=>DQ h) (fun cdv A outer s H E hr=>⟨jY,(ao (az (aQ (ae (eo ai (ax (dv 0) ai)) (ae (eo ai (ax (dv 0) ai)) (ae (ax (dv 0) ai) ah)))))),fun ds U Qd h=>zG h⟩)
theorem DH:aA ["_law_script","_law_at","_law_cell","_law_great","_law_primes","_law_mixed"] ["_law_script","_law_at"] (aw jh):=bG
theorem DB(T:TX e):vk e:=by
 have S:=DH
 exact T.yo.f.okD S (fun ds U Q h=>Jm h) (fun cdv A outer s H E hr=>⟨nL,(ak (aN (i:=2) S.nd ai)
  (ak (bj (aL kv dP (dv 1) (dY rfl T.gp (ae (dv 0) ah)) (aC _)) (ao (aN (i:=2) S.nd (ax (dv 0) (dv 1)))) aJ)
  (ak (aN (i:=3) S.nd ai)
  (ak (bj (aL AE dP (yp rfl T.Dt (ae (dv 2) ah)) (JH ai ai) (aC _)) (ao (aN (i:=3) S.nd (yp rfl T.Dt (ae (dv 2) ah)))) aJ)
  (ak (aN (i:=4) S.nd (jT (ae ai (ae ai (ae ai (ae ai (ae ai (ae ai (ae ai (ae ai ah))))))))))
  (ak (aN (i:=5) S.nd (cI (cI (cI (aR (jX (dv 2) ai) ai) (aR (aR ai (dv 1)) (dv 1))) (aR ai (dv 1))) ai))
  (ao (az (v5 (ae (dv 3) (ae (jX (dv 5) (ax (dv 4) (jX (dv 1) ai))) ah))))))))))),fun ds U Qd h=>DN h⟩)
theorem Dc:aA ["_law_bag_here","_law_many","_law_digit"] ["_law_bag_here","_law_many"] (aw hX):=bG
theorem BH(T:TX e):fH e:=by
 have S:=Dc
 exact T.bp.f.okD S (fun ds U Q h=>GH h) (fun cdv A outer s H E hr=>⟨k8,(ak (bj (aL ja dP (ax (dv 0) ai) ai (aC _)) (ak (aN (i:=2) S.nd (jX (ax (dv 0) ai) (dv 1)))
  (ak (fU (ig (ax (dv 0) ai) (dv 1)) (JL (dv 0) ai))
  (ao (az (dv 2))))) aJ)
  (ak (fU (jX (cI (aR (ax (dv 0) ai) ai) ai) ai) (JL (dv 0) ai))
  (ao (az (jX (ig (jX (JH (ax (dv 0) ai) ai) ai) ai) (dv 1)))))),fun ds U Qd h=>CA h⟩)
theorem qY:aA ["a","b","c"] ["a","b","c"] (aw da):=bG
theorem rE(T:TX e)(d6:jz e):fV e:=by
 have S:=qY
 exact T.gB.f.okD S (fun ds U Q h=>FY h) (fun cdv A outer s H E hr=>⟨gb,(ao (az (aj d6 hr T.gv (ae (aj d6 hr T.gv (ae (dv 2) (ae (dv 0) ah))) (ae (dv 1) ah))))),fun ds U Qd h=>qw h⟩)
theorem Gk:aA ["d","x"] ["d","x"] (aw kr):=bG
theorem FC(T:TX e)(cK:gu e):dW e:=by
 have S:=Gk
 exact T.cJ.f.okD S (fun ds U Q h=>yE h) (fun cdv A outer s H E hr=>⟨pR,(ao (az (aj cK hr T.ir (ae (dv 0) (ae (ax (dv 1) ai) (ae (ax (dv 1) ai) ah)))))),fun ds U Qd h=>FX h⟩)
theorem ET:aA ["d","x","y","a","b"] ["d","x","y"] (aw i7):=bG
theorem E7(T:TX e)(cK:gu e):jI e:=by
 have S:=ET
 exact T.lP.f.okD S (fun ds U Q h=>EG h) (fun cdv A outer s H E hr=>⟨nT,(ak (aN (i:=3) S.nd (eo (aR (ax (dv 1) ai) (ax (dv 2) ai)) (aR (ax (dv 2) ai) (ax (dv 1) ai))))
  (ak (aN (i:=4) S.nd (eo (aR (ax (dv 1) ai) (ax (dv 2) ai)) (aR (ax (dv 2) ai) (ax (dv 1) ai))))
  (ao (az (b9 (bI hr.units) bc (aj cK hr T.ir (ae (dv 0) (ae (dv 3) (ae (dv 4) ah)))) ai (aC _)))))),fun ds U Qd h=>Dx h⟩)
theorem tF:aA ["u","first","v","second"] ["u","first","v","second"] (aw cU):=bG
theorem qV(T:TX e)(d9:pj e):jx e:=by
 have S:=tF
 exact T.kS.f.okD S (fun ds U Q h=>Bf h) (fun cdv A outer s H E hr=>⟨fz,(ak (bj (aL (bI hr.units) bc (dv 2) (cj rfl T.dA) (aC _)) (ao (az (aj d9 hr T.fS (ae (dv 0) (ae (dv 1) ah))))) aJ)
  (ak (bj (aL (bI hr.units) bc (dv 0) (cj rfl T.dA) (aC _)) (ao (az (aj d9 hr T.fS (ae (dv 2) (ae (dv 3) ah))))) aJ)
  (ao (az (aQ (ae en (ae (aQ (ae (aj d9 hr T.fS (ae (dv 0) (ae (dv 1) ah))) (ae (aj d9 hr T.fS (ae (dv 2) (ae (dv 3) ah))) ah))) ah))))))),fun ds U Qd h=>rW h⟩)
theorem E9:aA ["_law_a","_law_b","_law_c","_law_common"] ["_law_a","_law_b","_law_c"] (aw iO):=bG
theorem DX(T:TX e)(gL:mR e):fc e:=by
 have S:=E9
 exact T.gy.f.okD S (fun ds U Q h=>rC h) (fun cdv A outer s H E hr=>⟨nD,(ak (aN (i:=3) S.nd (aR (aj gL hr T.kd (ae (aj gL hr T.kd (ae (dv 0) (ae (dv 1) ah))) (ae (dv 2) ah))) (ax (jT (ae ai (ae (iI ai) ah))) (nk rfl T.AL (ae (b9 kv dP (dv 2) ai (aC _)) ah)))))
  (ao (az (aQ (ae (ig (dv 0) (dv 3)) (ae (ig (dv 1) (dv 3)) (ae (ig (dv 2) (dv 3)) ah))))))),fun ds U Qd h=>E1 h⟩)
theorem Cr:aA ["_law_bag_here","_law_some"] ["_law_bag_here"] (aw gP):=bG
theorem CW(T:TX e)(aO:fH e):rg e:=by
 have S:=Cr
 exact T.vj.f.okD S (fun ds U Q h=>El h) (fun cdv A outer s H E hr=>⟨lQ,(ak (bj (aL (bI hr.units) bc (aj aO hr T.bp (ae (dv 0) (ae ai ah))) ai (aC _)) (ao (az (ax (jT (ae ai (ae ai (ae ai ah)))) (aj aO hr T.bp (ae (dv 0) (ae ai ah)))))) aJ)
  (ak (ON (i:=1) (N':=["_law_d"]) (cap:=[none]) S.nd rfl rfl rfl (we rfl T.jF (ae ai (ae ai ah))) (fun _ _ _=>(dc 0)) (fun _ _ _=>(J0 (aL (Ii hr.units) Bn (dv 0) (jT (ae ai (ae ai (ae ai (ae ai ah))))) (by with_unfolding_all rfl)))) (fun _ _ _=>(dv 0)))
  (ao (az (ax (dv 1) (aj aO hr T.bp (ae (dv 0) (ae ai ah)))))))),fun ds U Qd h=>Cy h⟩)
theorem BW:aA ["thing","a","b","c"] ["thing"] (aw gX):=bG
theorem BU(T:TX e)(iU:vy e)(cA:fV e):iB e:=by
 have S:=BW
 exact T.gS.f.okD S (fun ds U Q h=>F6 h) (fun cdv A outer s H E hr=>⟨lV,(ak (bj (DW.dt (eM (cq (bJ (lJ (kit_tuple _) rfl T.cm rfl T.jv PyProof.Rows.Boot.«tuple» (dv 0)))) (eu (aL (fw hr.units) bc (dY rfl T.gp (ae (dv 0) ah)) ai (aC _))))) (ao (az eJ)) aJ)
  (ak (fU (dv 0) (dF (n:=3) rfl (aD (bD (i:=1) S.nd) (aD (bD (i:=2) S.nd) (aD (bD (i:=3) S.nd) cF)))))
  (ak (bj (DW.dt (eM (cq (bJ (aj iU hr T.lU (ae (dv 1) ah)))) (eM (cq (bJ (aj iU hr T.lU (ae (dv 2) ah)))) (eu (cq (bJ (aj iU hr T.lU (ae (dv 3) ah)))))))) (ao (az eJ)) aJ)
  (ao (az (ke (b9 AE dP (dv 3) ai (aC _)) (nt (b9 (bI hr.units) bc (aj cA hr T.gB (ae (dv 1) (ae (dv 2) (ae (dv 3) ah)))) ai (aC _))))))))),fun ds U Qd h=>BM h⟩)
theorem Jc:aA ["a","b","c","divisor"] ["a","b","c"] (aw mG):=bG
theorem Ie(T:TX e)(cA:fV e):k0 e:=by
 have S:=Jc
 exact T.nO.f.okD S (fun ds U Q h=>rC h) (fun cdv A outer s H E hr=>⟨uc,(ak (bj (aL (bI hr.units) bc (dv 2) ai (aC _)) (ao iZ) aJ)
  (ak (aN (i:=3) S.nd (aj cA hr T.gB (ae (dv 0) (ae (dv 1) (ae (dv 2) ah)))))
  (ak (bj (aL kv dP (dv 2) ai (aC _)) (ao (aN (i:=3) S.nd (iI (dv 3)))) aJ)
  (ao (az (aQ (ae (ig (dv 0) (dv 3)) (ae (ig (dv 1) (dv 3)) (ae (ig (dv 2) (dv 3)) ah))))))))),fun ds U Qd h=>Ja h⟩)
theorem wX:aA ["d","marks","x","low","high","middle"] ["d","marks","x"] (aw eD):=bG
theorem wQ(T:TX e)(df:jI e):nh e:=by
 have S:=wX
 exact T.o6.f.okD S (fun ds U Q h=>CB h) (fun cdv A outer s H E hr=>⟨iY,(ak (aN (i:=3) S.nd ai)
  (ak (aN (i:=4) S.nd (dY rfl T.gp (ae (dv 1) ah)))
  (ak (rP PassesOwn.never (aL kv dP (dv 3) (dv 4) (aC _)) (ak (aN (i:=5) S.nd (ig (cI (dv 3) (dv 4)) ai))
  (ao (bj (bJ (aj df hr T.lP (ae (dv 0) (ae (dv 2) (ae (ax (dv 1) (dv 5)) ah))))) (ao (aN (i:=3) S.nd (cI (dv 5) ai))) (ao (aN (i:=4) S.nd (dv 5)))))))
  (ao (az (dv 3)))))),fun ds U Qd h=>xf h⟩)
theorem Fe:aA ["d","x"] ["d","x"] (aw jn):=bG
theorem EE(T:TX e)(bg:dW e):vc e:=by
 have S:=Fe
 exact T.yd.f.okD S (fun ds U Q h=>zw h) (fun cdv A outer s H E hr=>⟨mJ,(ao (az (ke (b9 (bI hr.units) bc (ax (dv 1) ai) ai (aC _)) (nt (b9 AE dP (aj bg hr T.cJ (ae (dv 0) (ae (dv 1) ah))) ai (aC _)))))),fun ds U Qd h=>EA h⟩)
theorem pM:aA ["u","v","place","kind"] ["u","v","place"] (aw cL):=bG
theorem qc(T:TX e)(gE:jx e):i9 e:=by
 have S:=pM
 exact T.jG.f.okD S (fun ds U Q h=>y6 h) (fun cdv A outer s H E hr=>⟨eW,(ak (aN (i:=3) S.nd (aQ (ae en (ae (dv 2) ah))))
  (ao (az (aj gE hr T.kS (ae (dv 0) (ae (dv 3) (ae (dv 1) (ae (aQ (ae en (ae (dv 3) ah))) ah)))))))),fun ds U Qd h=>pP h⟩)
theorem zR:aA ["d","kinds"] ["d","kinds"] (aw fA):=bG
theorem zh(T:TX e)(bg:dW e)(cG:oI e):pD e:=by
 have S:=zR
 exact T.sH.f.okD S (fun ds U Q h=>Du h) (fun cdv A outer s H E hr=>⟨j2,(ao (az (uJ (N':=["kind","d"]) (cap:=[none,some 0]) rfl (jo (dv 1)) (fun _ _ _=>(dc 0)) (fun _ _ _=>dZ) (fun _ _ _=>(aj bg hr T.cJ (ae (dv 1) (ae (aj cG hr T.gD (ae (dv 0) ah)) ah))))))),fun ds U Qd h=>zq h⟩)
theorem C1:aA ["_law_x","_law_y"] ["_law_x","_law_y"] (aw hW):=bG
theorem Dk(T:TX e)(bL:fc e):gh e:=by
 have S:=C1
 exact T.gU.f.okD S (fun ds U Q h=>xF h) (fun cdv A outer s H E hr=>⟨qM,(ao (az (aj bL hr T.gy (ae (cI (aR (ax (dv 0) ai) (ax (dv 1) ai)) (aR (ax (dv 1) ai) (ax (dv 0) ai))) (ae (cI (aR (ax (dv 0) ai) (ax (dv 1) ai)) (aR (ax (dv 1) ai) (ax (dv 0) ai))) (ae (aR (ax (dv 0) ai) (ax (dv 1) ai)) ah)))))),fun ds U Qd h=>BP h⟩)
theorem zH:aA ["_law_d","_law_x","_law_y"] ["_law_d","_law_x","_law_y"] (aw fE):=bG
theorem zP(T:TX e)(bL:fc e):eO e:=by
 have S:=zH
 exact T.di.f.okD S (fun ds U Q h=>vf h) (fun cdv A outer s H E hr=>⟨pA,(ao (az (aj bL hr T.gy (ae (cI (aR (ax (dv 1) ai) (ax (dv 2) ai)) (aR (aR (dv 0) (ax (dv 1) ai)) (ax (dv 2) ai))) (ae (cI (aR (ax (dv 1) ai) (ax (dv 2) ai)) (aR (ax (dv 1) ai) (ax (dv 2) ai))) (ae (aR (ax (dv 1) ai) (ax (dv 2) ai)) ah)))))),fun ds U Qd h=>zj h⟩)
theorem tK:aA ["_law_d","_law_x"] ["_law_d","_law_x"] (aw dw):=bG
theorem ug(T:TX e)(bL:fc e):kZ e:=by
 have S:=tK
 exact T.md.f.okD S (fun ds U Q h=>mM h) (fun cdv A outer s H E hr=>⟨gF,(ao (az (aj bL hr T.gy (ae (aR (ax (dv 1) ai) (ax (dv 1) ai)) (ae (eo ai (aR (ax (dv 1) ai) (ax (dv 1) ai))) (ae (eo (aR (ax (dv 1) ai) (ax (dv 1) ai)) (aR (aR (dv 0) (ax (dv 1) ai)) (ax (dv 1) ai))) ah)))))),fun ds U Qd h=>tJ h⟩)
theorem xV:aA ["_law_bag_here","_law_wide","_law_a","_law_b","_law_c","_law_way"] ["_law_bag_here"] (aw eC):=bG
theorem xT(T:TX e)(aO:fH e)(bL:fc e):nU e:=by
 have S:=xV
 exact T.pE.f.okD S (fun ds U Q h=>zd h) (fun cdv A outer s H E hr=>⟨jf,(ak (aN (i:=1) S.nd (ax (jT (ae ai (ae ai (ae ai (ae ai ah))))) (aj aO hr T.bp (ae (dv 0) (ae ai ah)))))
  (ak (j1 (i:=2) (j:=3) rfl S.nd rfl rfl ⋯ rfl rfl (ae (eo (aj aO hr T.bp (ae (dv 0) (ae (dv 1) ah))) (ig (dv 1) ai)) (ae (eo (aj aO hr T.bp (ae (dv 0) (ae (dv 1) ah))) (ig (dv 1) ai)) ah)) rfl)
  (ak (aN (i:=4) S.nd (cI ai (aj aO hr T.bp (ae (dv 0) (ae (eo (dv 1) ai) ah)))))
  (ak (aN (i:=5) S.nd (aj aO hr T.bp (ae (dv 0) (ae ai ah))))
  (ao (az (aj bL hr T.gy (ae (ax (jT (ae (dv 2) (ae (dv 2) (ae (dv 2) (ae (dv 2) (ae (dv 2) (ae (dv 2) (ae (dv 2) (ae ai ah))))))))) (dv 5)) (ae (ax (jT (ae (dv 3) (ae (dv 3) (ae (dv 3) (ae (dv 3) (ae (dv 3) (ae ai (ae ai (ae (dv 3) ah))))))))) (dv 5)) (ae (ax (jT (ae (dv 4) (ae (dv 4) (ae ai (ae (dv 4) (ae ai (ae (dv 4) (ae ai (ae (dv 4) ah))))))))) (dv 5)) ah)))))))))),fun ds U Qd h=>wN h⟩)
theorem Of:aA ["x","y"] ["x","y"] (aw yL):=bG
theorem dj(T:TX e)(dq:k0 e):oM e:=by
 have S:=Of
 exact T.kf.f.okD S (fun ds U Q h=>xF h) (fun cdv A outer s H E hr=>⟨C0,(ao (az (aj dq hr T.nO (ae (cI (aR (ax (dv 0) ai) (ax (dv 1) ai)) (aR (ax (dv 1) ai) (ax (dv 0) ai))) (ae (cI (aR (ax (dv 0) ai) (ax (dv 1) ai)) (aR (ax (dv 1) ai) (ax (dv 0) ai))) (ae (aR (ax (dv 0) ai) (ax (dv 1) ai)) ah)))))),fun ds U Qd h=>HL h⟩)
theorem N7:aA ["x","y"] ["x","y"] (aw xp):=bG
theorem eQ(T:TX e)(dq:k0 e):Cm e:=by
 have S:=N7
 exact T.CU.f.okD S (fun ds U Q h=>xR h) (fun cdv A outer s H E hr=>⟨Cf,(ao (az (aj dq hr T.nO (ae (eo (aR (ax (dv 0) ai) (ax (dv 1) ai)) (aR (ax (dv 1) ai) (ax (dv 0) ai))) (ae (eo (aR (ax (dv 0) ai) (ax (dv 1) ai)) (aR (ax (dv 1) ai) (ax (dv 0) ai))) (ae (aR (ax (dv 0) ai) (ax (dv 1) ai)) ah)))))),fun ds U Qd h=>N4 h⟩)
theorem K0:aA ["d","x","y"] ["d","x","y"] (aw qL):=bG
theorem aZ(T:TX e)(dq:k0 e):iJ e:=by
 have S:=K0
 exact T.bX.f.okD S (fun ds U Q h=>vf h) (fun cdv A outer s H E hr=>⟨xt,(ao (az (aj dq hr T.nO (ae (cI (aR (ax (dv 1) ai) (ax (dv 2) ai)) (aR (aR (dv 0) (ax (dv 1) ai)) (ax (dv 2) ai))) (ae (cI (aR (ax (dv 1) ai) (ax (dv 2) ai)) (aR (ax (dv 1) ai) (ax (dv 2) ai))) (ae (aR (ax (dv 1) ai) (ax (dv 2) ai)) ah)))))),fun ds U Qd h=>Fc h⟩)
theorem DU:aA ["d","x","norm"] ["d","x"] (aw jj):=bG
theorem bO(T:TX e)(dq:k0 e):hZ e:=by
 have S:=DU
 exact T.jk.f.okD S (fun ds U Q h=>mM h) (fun cdv A outer s H E hr=>⟨n6,(ak (aN (i:=2) S.nd (eo (aR (ax (dv 1) ai) (ax (dv 1) ai)) (aR (aR (dv 0) (ax (dv 1) ai)) (ax (dv 1) ai))))
  (ao (az (aj dq hr T.nO (ae (aR (ax (dv 1) ai) (ax (dv 1) ai)) (ae (aR (iI (ax (dv 1) ai)) (ax (dv 1) ai)) (ae (dv 2) ah))))))),fun ds U Qd h=>Et h⟩)
theorem qo:aA ["d","thing"] ["d","thing"] (aw cM):=bG
theorem qg(T:TX e)(cw:iB e)(bg:dW e):bV e:=by
 have S:=qo
 exact T.bH.f.okD S (fun ds U Q h=>C3 h) (fun cdv A outer s H E hr=>⟨eV,(ao (az (ke (aj cw hr T.gS (ae (dv 1) ah)) (nt (b9 (bI hr.units) bc (aj bg hr T.cJ (ae (dv 0) (ae (dv 1) ah))) ai (aC _)))))),fun ds U Qd h=>pX h⟩)
theorem vN:aA ["d","found","marks","x","place"] ["d","found"] (aw dS):=bG
theorem vF(T:TX e)(j7:nh e):ml e:=by
 have S:=vN
 exact BE (T.jc.f.okD S (fun ds U Q h=>CG h) (fun cdv A outer s H E hr=>⟨iq,(ak (aN (i:=2) S.nd (v5 ah))
  (ak (il PassesOwn.never rfl (k5 (dv 1)) (bD (i:=3) S.nd) (ak (aN (i:=4) S.nd (aj j7 hr T.o6 (ae (dv 0) (ae (dv 2) (ae (dv 3) ah)))))
  (ao (bj (DW.dt (eM (aL (bI hr.units) bc (dv 4) (dY rfl T.gp (ae (dv 2) ah)) (aC _)) (eu (aL (fw hr.units) bc (ax (dv 2) (dv 4)) (dv 3) (aC _))))) (ao (dg (II (dv 2) (dv 4) (dv 3)))) aJ))))
  (ao (az (dv 2))))),fun ds U Qd h=>vV h⟩)) (fun ds U Qd h=>uC h)
theorem zl:aA ["thing"] ["thing"] (aw fD):=bG
theorem zA(T:TX e)(cw:iB e):o8 e:=by
 have S:=zl
 exact T.sV.f.okD S (fun ds U Q h=>vK h) (fun cdv A outer s H E hr=>⟨j4,(ak (bj (DW.dt (eM (cq (bJ (lJ (kit_tuple _) rfl T.cm rfl T.jv PyProof.Rows.Boot.«tuple» (dv 0)))) (eu (aL (fw hr.units) bc (dY rfl T.gp (ae (dv 0) ah)) ai (aC _))))) (ao (az eJ)) aJ)
  (ao (az (xC rfl rfl T.Es (ae (uJ (N':=["part"]) (cap:=[none]) rfl (jo (dv 0)) (fun _ _ _=>(dc 0)) (fun _ _ _=>dZ) (fun _ _ _=>(aj cw hr T.gS (ae (dv 0) ah)))) ah))))),fun ds U Qd h=>yR h⟩)
theorem yY:aA ["_law_d","_law_x","_law_y"] ["_law_d","_law_x","_law_y"] (aw fq):=bG
theorem y7(T:TX e)(fe:lE e)(bT:gh e)(cu:gJ e):oU e:=by
 have S:=yY
 exact T.lh.f.okD S (fun ds U Q h=>Ei h) (fun cdv A outer s H E hr=>⟨j8,(ao (az (b9 ja dP (aj fe hr T.mE (ae (dv 0) (ae (aj bT hr T.gU (ae (dv 2) (ae (aj cu hr T.iE (ae (dv 1) ah)) ah))) ah))) ai (aC _)))),fun ds U Qd h=>zv h⟩)
theorem C7:aA ["_law_x","_law_y"] ["_law_x","_law_y"] (aw gZ):=bG
theorem C5(T:TX e)(bT:gh e)(cu:gJ e):sI e:=by
 have S:=C7
 exact T.mH.f.okD S (fun ds U Q h=>xR h) (fun cdv A outer s H E hr=>⟨lr,(ao (az (aj bT hr T.gU (ae (dv 0) (ae (aj cu hr T.iE (ae (dv 1) ah)) ah))))),fun ds U Qd h=>Dn h⟩)
theorem Bo:aA ["_law_d","_law_x","_law_y"] ["_law_d","_law_x","_law_y"] (aw hJ):=bG
theorem BA(T:TX e)(bE:eO e)(ij:kZ e):rh e:=by
 have S:=Bo
 exact T.vo.f.okD S (fun ds U Q h=>yI h) (fun cdv A outer s H E hr=>⟨lz,(ao (az (aj bE hr T.di (ae (dv 0) (ae (dv 1) (ae (aj ij hr T.md (ae (dv 0) (ae (dv 2) ah))) ah)))))),fun ds U Qd h=>Bu h⟩)
theorem zF:aA ["_law_bag_here","_law_d","_law_x","_law_sign_here"] ["_law_bag_here","_law_d"] (aw fI):=bG
theorem zQ(T:TX e)(j9:nU e)(fe:lE e)(aO:fH e)(cu:gJ e):pF e:=by
 have S:=zF
 exact T.lD.f.okD S (fun ds U Q h=>CP h) (fun cdv A outer s H E hr=>⟨j0,(ak (aN (i:=2) S.nd (aj j9 hr T.pE (ae (dv 0) ah)))
  (ak (aN (i:=3) S.nd (aj fe hr T.mE (ae (dv 1) (ae (dv 2) ah))))
  (ak (bj (aL (bI hr.units) bc (dv 3) ai (aC _)) (ao (az (aQ (ae (cI ai (aj aO hr T.bp (ae (dv 0) (ae ai ah)))) (ae ai (ae ai ah)))))) aJ)
  (ao (az (rn (aL ja dP (dv 3) ai (aC _)) (dv 2) (aj cu hr T.iE (ae (dv 2) ah)))))))),fun ds U Qd h=>yZ h⟩)
theorem Od:aA ["d","x","y"] ["d","x","y"] (aw xE):=bG
theorem Nx(T:TX e)(bA:iJ e)(cg:hZ e):qu e:=by
 have S:=Od
 exact T.pZ.f.okD S (fun ds U Q h=>yI h) (fun cdv A outer s H E hr=>⟨Bm,(ak (bj (aL (bI hr.units) bc (dv 2) (cj rfl T.dA) (aC _)) (ao iZ) aJ)
  (ao (az (aj bA hr T.bX (ae (dv 0) (ae (dv 1) (ae (aj cg hr T.jk (ae (dv 0) (ae (dv 2) ah))) ah))))))),fun ds U Qd h=>Nf h⟩)
theorem kB:aA ["d","thing"] ["d","thing"] (aw bS):=bG
theorem kI(T:TX e)(aK:bV e):bN e:=by
 have S:=kB
 exact T.bC.f.okD S (fun ds U Q h=>vP h) (fun cdv A outer s H E hr=>⟨cV,(ao (bj (cq (bJ (aj aK hr T.bH (ae (dv 0) (ae (dv 1) ah))))) (ao iZ) aJ)),fun ds U Qd h=>kj h⟩)
theorem F1:aA ["d","thing","x","y","width","height"] ["d","thing"] (aw km):=bG
theorem GF(T:TX e)(cw:iB e)(bg:dW e)(aK:bV e):ya e:=by
 have S:=F1
 exact T.AU.f.okD S (fun ds U Q h=>Fs h) (fun cdv A outer s H E hr=>⟨p8,(ak (bj (DW.dt (eM (cq (bJ (lJ (kit_tuple _) rfl T.cm rfl T.jv PyProof.Rows.Boot.«tuple» (dv 1)))) (eu (aL (fw hr.units) bc (dY rfl T.gp (ae (dv 1) ah)) ai (aC _))))) (ao (az eJ)) aJ)
  (ak (fU (dv 1) (dF (n:=4) rfl (aD (bD (i:=2) S.nd) (aD (bD (i:=3) S.nd) (aD (bD (i:=4) S.nd) (aD (bD (i:=5) S.nd) cF))))))
  (ak (bj (DW.dt (eM (cq (bJ (aj cw hr T.gS (ae (dv 2) ah)))) (eM (cq (bJ (aj cw hr T.gS (ae (dv 3) ah)))) (eM (aL kv dP (aj bg hr T.cJ (ae (dv 0) (ae (dv 2) ah))) ai (aC _)) (eu (aL kv dP (aj bg hr T.cJ (ae (dv 0) (ae (dv 3) ah))) ai (aC _))))))) (ao (az eJ)) aJ)
  (ao (az (ke (aj aK hr T.bH (ae (dv 0) (ae (dv 4) ah))) (nt (aj aK hr T.bH (ae (dv 0) (ae (dv 5) ah)))))))))),fun ds U Qd h=>Gr h⟩)
theorem CV:aA ["tile","x","y","width","height"] ["tile"] (aw ib):=bG
theorem BD(T:TX e)(dm:oM e):rM e:=by
 have S:=CV
 exact T.vb.f.okD S (fun ds U Q h=>y8 h) (fun cdv A outer s H E hr=>⟨lB,(ak (fU (dv 0) (dF (n:=4) rfl (aD (bD (i:=1) S.nd) (aD (bD (i:=2) S.nd) (aD (bD (i:=3) S.nd) (aD (bD (i:=4) S.nd) cF))))))
  (ao (az (aQ (ae (dv 1) (ae (aj dm hr T.kf (ae (dv 1) (ae (dv 3) ah))) (ae (dv 2) (ae (aj dm hr T.kf (ae (dv 2) (ae (dv 4) ah))) ah)))))))),fun ds U Qd h=>BG h⟩)
theorem D0:aA ["d","thing"] ["d","thing"] (aw iQ):=bG
theorem ED(T:TX e)(aK:bV e):vh e:=by
 have S:=D0
 exact T.yN.f.okD S (fun ds U Q h=>Cv h) (fun cdv A outer s H E hr=>⟨mN,(ak (bj (DW.dt (eM (cq (bJ (lJ (kit_tuple _) rfl T.cm rfl T.jv PyProof.Rows.Boot.«tuple» (dv 1)))) (eM (aL kv dP (dY rfl T.gp (ae (dv 1) ah)) ai (aC _)) (eu (aL ja dP (dY rfl T.gp (ae (dv 1) ah)) (wA (u:=.int 3) rfl T.A9 ⟨_,rfl⟩ (fun _ _ _=>Rp.int 3)) (aC _)))))) (ao (az eJ)) aJ)
  (ao (az (xC rfl rfl T.Es (ae (uJ (N':=["kind","d"]) (cap:=[none,some 0]) rfl (jo (dv 1)) (fun _ _ _=>(dc 0)) (fun _ _ _=>dZ) (fun _ _ _=>(aj aK hr T.bH (ae (dv 1) (ae (dv 0) ah))))) ah))))),fun ds U Qd h=>Eb h⟩)
theorem pT:aA ["d","width","height","counts","x","y","beside","tiles","many","side","square"] ["d","width","height","counts"] (aw cP):=bG
theorem pU(T:TX e)(df:jI e)(dm:oM e)(qq:Cm e):iH e:=by
 have S:=pT
 exact BE (T.jw.f.okD S (fun ds U Q h=>zp h) (fun cdv A outer s H E hr=>⟨eU,(ak (aN (i:=4) S.nd (cj rfl T.dA))
  (ak (aN (i:=5) S.nd (cj rfl T.dA))
  (ak (aN (i:=6) S.nd (Bq (aj df hr T.lP (ae (dv 0) (ae (dv 2) (ae (dv 1) ah))))))
  (ak (aN (i:=7) S.nd (v5 ah))
  (ak (il PassesOwn.never rfl (k5 (dv 3)) (bD (i:=8) S.nd) (ak (aN (i:=9) S.nd (rn (bJ (dv 6)) (dv 2) (dv 1)))
  (ak (il PassesOwn.never rfl (wb rfl T.jF (ae (dv 8) ah)) (bD (i:=10) S.nd) (ak (dg (AS (dv 7) (aQ (ae (dv 4) (ae (dv 5) (ae (dv 9) (ae (dv 9) ah)))))))
  (ao (bj (bJ (dv 6)) (ak (aN (i:=4) S.nd (aj dm hr T.kf (ae (dv 4) (ae (dv 9) ah))))
  (ao (aN (i:=1) S.nd (aj qq hr T.CU (ae (dv 1) (ae (dv 9) ah)))))) (ak (aN (i:=5) S.nd (aj dm hr T.kf (ae (dv 5) (ae (dv 9) ah))))
  (ao (aN (i:=2) S.nd (aj qq hr T.CU (ae (dv 2) (ae (dv 9) ah))))))))))
  (ao (aN (i:=6) S.nd (Bq (dv 6)))))))
  (ao (az (dv 7)))))))),fun ds U Qd h=>qm h⟩)) (fun ds U Qd h=>oT h)
theorem Gw:aA ["d","weights","width","height","p","q","s","t","by_width","by_its_mate"] ["d","weights","width","height"] (aw kX):=bG
theorem GD(T:TX e)(dm:oM e)(bA:iJ e)(cG:oI e):xY e:=by
 have S:=Gw
 exact T.Ah.f.okD S (fun ds U Q h=>Cq h) (fun cdv A outer s H E hr=>⟨qd,(ak (fU (dv 1) (dF (n:=4) rfl (aD (bD (i:=4) S.nd) (aD (bD (i:=5) S.nd) (aD (bD (i:=6) S.nd) (aD (bD (i:=7) S.nd) cF))))))
  (ak (aN (i:=8) S.nd (aj dm hr T.kf (ae (aj bA hr T.bX (ae (dv 0) (ae (dv 4) (ae (dv 3) ah)))) (ae (aj bA hr T.bX (ae (dv 0) (ae (dv 5) (ae (aj cG hr T.gD (ae (dv 3) ah)) ah)))) ah))))
  (ak (aN (i:=9) S.nd (aj dm hr T.kf (ae (aj bA hr T.bX (ae (dv 0) (ae (dv 6) (ae (dv 3) ah)))) (ae (aj bA hr T.bX (ae (dv 0) (ae (dv 7) (ae (aj cG hr T.gD (ae (dv 3) ah)) ah)))) ah))))
  (ao (az (aj dm hr T.kf (ae (aj bA hr T.bX (ae (dv 0) (ae (dv 2) (ae (dv 8) ah)))) (ae (aj bA hr T.bX (ae (dv 0) (ae (aj cG hr T.gD (ae (dv 2) ah)) (ae (dv 9) ah)))) ah)))))))),fun ds U Qd h=>FN h⟩)
theorem wG:aA ["d","weights","kind","p","q","s","t","first","last","middle","most"] ["d","weights","kind"] (aw eG):=bG
theorem wF(T:TX e)(bA:iJ e)(cG:oI e)(bg:dW e)(dm:oM e)(df:jI e):mK e:=by
 have S:=wG
 exact T.jZ.f.okD S (fun ds U Q h=>C4 h) (fun cdv A outer s H E hr=>⟨iG,(ak (fU (dv 1) (dF (n:=4) rfl (aD (bD (i:=3) S.nd) (aD (bD (i:=4) S.nd) (aD (bD (i:=5) S.nd) (aD (bD (i:=6) S.nd) cF))))))
  (ak (aN (i:=7) S.nd (aj bA hr T.bX (ae (dv 0) (ae (dv 3) (ae (dv 2) ah)))))
  (ak (aN (i:=8) S.nd (aj bA hr T.bX (ae (dv 0) (ae (dv 6) (ae (aj cG hr T.gD (ae (dv 2) ah)) ah)))))
  (ak (bj (DW.dt (eM (aL kv dP (aj bg hr T.cJ (ae (dv 0) (ae (dv 7) ah))) ai (aC _)) (eu (aL kv dP (aj bg hr T.cJ (ae (dv 0) (ae (dv 8) ah))) ai (aC _))))) (ao (az eJ)) aJ)
  (ak (aN (i:=9) S.nd (aj dm hr T.kf (ae (aj bA hr T.bX (ae (dv 0) (ae (dv 4) (ae (aj cG hr T.gD (ae (dv 2) ah)) ah)))) (ae (aj bA hr T.bX (ae (dv 0) (ae (dv 5) (ae (dv 2) ah)))) ah))))
  (ak (aN (i:=10) S.nd (aj bA hr T.bX (ae (dv 0) (ae (aQ (ae ai (ae ai (ae ai ah)))) (ae (aj bA hr T.bX (ae (dv 0) (ae (dv 7) (ae (dv 8) ah)))) ah)))))
  (ao (az (Bq (aj df hr T.lP (ae (dv 0) (ae (aj bA hr T.bX (ae (dv 0) (ae (dv 9) (ae (dv 9) ah)))) (ae (dv 10) ah))))))))))))),fun ds U Qd h=>yc h⟩)
theorem MR:aA ["shape","way"] ["shape","way"] (aw wL):=bG
theorem sv(T:TX e)(qq:Cm e)(cG:oI e)(dm:oM e):HU e:=by
 have S:=MR
 exact T.Ft.f.okD S (fun ds U Q h=>Fl h) (fun cdv A outer s H E hr=>⟨Dm,(ao (az (rn (aL ja dP (dv 1) ai (aC _)) (aj qq hr T.CU (ae (dv 0) (ae (aj cG hr T.gD (ae (dv 0) ah)) ah))) (aj dm hr T.kf (ae (dv 0) (ae (aj cG hr T.gD (ae (dv 0) ah)) ah)))))),fun ds U Qd h=>Mq h⟩)
theorem oR:aA ["_law_bag_here","_law_d","_law_way","_law_width","_law_p","_law_q","_law_turn"] ["_law_bag_here","_law_d"] (aw cC):=bG
theorem oS(T:TX e)(aO:fH e)(iz:pF e)(bT:gh e)(bE:eO e)(bL:fc e):ix e:=by
 have S:=oR
 exact T.iK.f.okD S (fun ds U Q h=>D3 h) (fun cdv A outer s H E hr=>⟨el,(ak (aN (i:=2) S.nd (aj aO hr T.bp (ae (dv 0) (ae ai ah))))
  (ak (aN (i:=3) S.nd (aj iz hr T.lD (ae (dv 0) (ae (dv 1) ah))))
  (ak (bj (aL (bI hr.units) bc (dv 2) ai (aC _)) (ao (az (aQ (ae (dv 3) (ae (aj iz hr T.lD (ae (dv 0) (ae (dv 1) ah))) ah))))) aJ)
  (ak (bj (aL (bI hr.units) bc (dv 2) ai (aC _)) (ao (az (aQ (ae (dv 3) (ae (aj bT hr T.gU (ae (dv 3) (ae (aQ (ae ai (ae ai (ae (cI ai (aj aO hr T.bp (ae (dv 0) (ae ai ah)))) ah)))) ah))) ah))))) aJ)
  (ak (j1 (i:=4) (j:=5) rfl S.nd rfl rfl ⋯ rfl rfl (ae (cI ai (aj aO hr T.bp (ae (dv 0) (ae ai ah)))) (ae (cI ai (aj aO hr T.bp (ae (dv 0) (ae ai ah)))) ah)) rfl)
  (ak (bj (aL (bI hr.units) bc (dv 2) ai (aC _)) (ao (j1 (i:=4) (j:=5) rfl S.nd rfl rfl ⋯ rfl rfl (ae (cI ai (aj aO hr T.bp (ae (dv 0) (ae ai ah)))) (ae (cI ai (aj aO hr T.bp (ae (dv 0) (ae ai ah)))) ah)) rfl)) aJ)
  (ak (bj (aL (bI hr.units) bc (dv 2) ai (aC _)) (ak (fU (aQ (ae ai (ae ai ah))) (dF (n:=2) rfl (aD (bD (i:=4) S.nd) (aD (bD (i:=5) S.nd) cF))))
  (ao (il PassesOwn.never rfl (wb rfl T.jF (ae (aj aO hr T.bp (ae (dv 0) (ae ai ah))) ah)) (bD (i:=6) S.nd) (ao (j1 (i:=4) (j:=5) rfl S.nd rfl rfl ⋯ rfl rfl (ae (dv 5) (ae (cI (dv 4) (dv 5)) ah)) rfl))))) aJ)
  (ak (bj (aL (bI hr.units) bc (dv 2) ai (aC _)) (ao (fU (ax (jT (ae (aQ (ae ai (ae ai ah))) (ae (aQ (ae ai (ae ai ah))) (ae (aQ (ae ai (ae ai ah))) (ae (aQ (ae ai (ae ai ah))) (ae (aQ (ae ai (ae ai ah))) (ae (aQ (ae ai (ae ai ah))) ah))))))) (aj aO hr T.bp (ae (dv 0) (ae ai ah)))) (dF (n:=2) rfl (aD (bD (i:=4) S.nd) (aD (bD (i:=5) S.nd) cF))))) aJ)
  (ao (az (aQ (ae (dv 3) (ae (aj bE hr T.di (ae (dv 1) (ae (dv 3) (ae (aj bL hr T.gy (ae (dv 4) (ae ai (ae (dv 5) ah)))) ah)))) ah))))))))))))),fun ds U Qd h=>oQ h⟩)
theorem Bc:aA ["_law_d","_law_width","_law_height","_law_counts","_law_found","_law_wide","_law_high","_law_count","_law_side","_law_taken"] ["_law_d","_law_width","_law_height","_law_counts"] (aw gY):=bG
theorem Br(T:TX e)(iC:oU e)(bT:gh e)(bE:eO e)(jM:sI e):qv e:=by
 have S:=Bc
 exact T.vg.f.okD S (fun ds U Q h=>F9 h) (fun cdv A outer s H E hr=>⟨lG,(ak (aN (i:=4) S.nd (aQ (ae ai (ae ai (ae ai ah)))))
  (ak (j1 (i:=5) (j:=6) rfl S.nd rfl rfl ⋯ rfl rfl (ae (dv 1) (ae (dv 2) ah)) rfl)
  (ak (il PassesOwn.never rfl (k5 (dv 3)) (bD (i:=7) S.nd) (ak (aN (i:=8) S.nd (rn (bJ (aj iC hr T.lh (ae (dv 0) (ae (dv 6) (ae (dv 5) ah))))) (dv 6) (dv 5)))
  (ak (aN (i:=4) S.nd (aj bT hr T.gU (ae (dv 4) (ae (aj bE hr T.di (ae (dv 0) (ae (aQ (ae (dv 7) (ae ai (ae ai ah)))) (ae (aj bE hr T.di (ae (dv 0) (ae (dv 8) (ae (dv 8) ah)))) ah)))) ah))))
  (ak (aN (i:=9) S.nd (aj bE hr T.di (ae (dv 0) (ae (aQ (ae (dv 7) (ae ai (ae ai ah)))) (ae (dv 8) ah)))))
  (ao (bj (bJ (aj iC hr T.lh (ae (dv 0) (ae (dv 6) (ae (dv 5) ah))))) (ao (aN (i:=5) S.nd (aj jM hr T.mH (ae (dv 5) (ae (dv 9) ah))))) (ao (aN (i:=6) S.nd (aj jM hr T.mH (ae (dv 6) (ae (dv 9) ah)))))))))))
  (ao (az (dv 4)))))),fun ds U Qd h=>Dj h⟩)
theorem EF:aA ["d","thing","width","height","tiles"] ["d","thing"] (aw iV):=bG
theorem EB(T:TX e)(aK:bV e)(tQ:ya e):u7 e:=by
 have S:=EF
 exact T.yv.f.okD S (fun ds U Q h=>Eg h) (fun cdv A outer s H E hr=>⟨nJ,(ak (bj (DW.dt (eM (cq (bJ (lJ (kit_tuple _) rfl T.cm rfl T.jv PyProof.Rows.Boot.«tuple» (dv 1)))) (eu (aL (fw hr.units) bc (dY rfl T.gp (ae (dv 1) ah)) ai (aC _))))) (ao (az eJ)) aJ)
  (ak (fU (dv 1) (dF (n:=3) rfl (aD (bD (i:=2) S.nd) (aD (bD (i:=3) S.nd) (aD (bD (i:=4) S.nd) cF)))))
  (ak (bj (DW.dt (eM (cq (bJ (aj aK hr T.bH (ae (dv 0) (ae (dv 2) ah))))) (eu (cq (bJ (aj aK hr T.bH (ae (dv 0) (ae (dv 3) ah)))))))) (ao (az eJ)) aJ)
  (ak (bj (DW.dt (eM (cq (bJ (lJ (kit_tuple _) rfl T.cm rfl T.jv PyProof.Rows.Boot.«tuple» (dv 4)))) (eM (aL kv dP (dY rfl T.gp (ae (dv 4) ah)) ai (aC _)) (eu (aL ja dP (dY rfl T.gp (ae (dv 4) ah)) (wA (u:=.int 60) rfl T.sO ⟨_,rfl⟩ (fun _ _ _=>Rp.int 60)) (aC _)))))) (ao (az eJ)) aJ)
  (ao (az (xC rfl rfl T.Es (ae (uJ (N':=["tile","d"]) (cap:=[none,some 0]) rfl (jo (dv 4)) (fun _ _ _=>(dc 0)) (fun _ _ _=>dZ) (fun _ _ _=>(aj tQ hr T.AU (ae (dv 1) (ae (dv 0) ah))))) ah)))))))),fun ds U Qd h=>Ea h⟩)
theorem uf:aA ["d","thing"] ["d","thing"] (aw dz):=bG
theorem ur(T:TX e)(pO:vh e):cZ e:=by
 have S:=uf
 exact T.dy.f.okD S (fun ds U Q h=>vE h) (fun cdv A outer s H E hr=>⟨gz,(ao (bj (cq (bJ (aj pO hr T.yN (ae (dv 0) (ae (dv 1) ah))))) (ao iZ) aJ)),fun ds U Qd h=>uu h⟩)
theorem ql:aA ["shape","skew"] ["shape"] (aw cR):=bG
theorem pN(T:TX e):i8 e:=by
 have S:=ql
 exact T.jP.f.okD S (fun ds U Q h=>CS h) (fun cdv A outer s H E hr=>⟨eT,(ak (aN (i:=1) S.nd (rn (aL ja dP (ax (dv 0) ai) ai (aC _)) ai (iI ai)))
  (ao (az (aQ (ae (cj rfl T.Hy) (ae (aQ (ae (cj rfl T.dA) (ae (aQ (ae (dv 1) (ae ai (ae ai ah)))) (ae (aQ (ae (iI (dv 1)) (ae ai (ae ai ah)))) (ae (cj rfl T.dA) ah))))) ah)))))),fun ds U Qd h=>p5 h⟩)
theorem Fz:aA ["d","kind","shape","way","own","floor","turn","last","both"] ["d","kind","shape"] (aw kq):=bG
theorem FR(T:TX e)(bg:dW e)(cG:oI e)(Ba:HU e)(fW:qu e)(bA:iJ e):yj e:=by
 have S:=Fz
 exact T.Ax.f.okD S (fun ds U Q h=>xj h) (fun cdv A outer s H E hr=>⟨nI,(ak (aN (i:=3) S.nd (aj bg hr T.cJ (ae (dv 0) (ae (aj cG hr T.gD (ae (dv 1) ah)) ah))))
  (ak (bj (aL (fw hr.units) bc (aj bg hr T.cJ (ae (dv 0) (ae (aj cG hr T.gD (ae (dv 2) ah)) ah))) (dv 3) (aC _)) (ao (az (aQ (ae (cj rfl T.Hy) (ae (aQ (ae (cj rfl T.dA) (ae (cj rfl T.dA) (ae (cj rfl T.dA) (ae (aQ (ae (dv 3) (ae ai (ae ai ah)))) ah))))) ah))))) aJ)
  (ak (aN (i:=4) S.nd (aj Ba hr T.Ft (ae (dv 1) (ae (dv 3) ah))))
  (ak (aN (i:=5) S.nd (aj Ba hr T.Ft (ae (dv 2) (ae (dv 3) ah))))
  (ak (aN (i:=6) S.nd (aj bg hr T.cJ (ae (dv 0) (ae (dv 5) ah))))
  (ak (aN (i:=7) S.nd (aj fW hr T.pZ (ae (dv 0) (ae (aj bA hr T.bX (ae (dv 0) (ae (aQ (ae (dv 6) (ae ai (ae ai ah)))) (ae (dv 5) ah)))) (ae (aj cG hr T.gD (ae (dv 2) ah)) ah)))))
  (ak (aN (i:=8) S.nd (aj fW hr T.pZ (ae (dv 0) (ae (aj bA hr T.bX (ae (dv 0) (ae (dv 4) (ae (dv 4) ah)))) (ae (aj bA hr T.bX (ae (dv 0) (ae (aQ (ae ai (ae ai (ae ai ah)))) (ae (aj bA hr T.bX (ae (dv 0) (ae (dv 1) (ae (aj cG hr T.gD (ae (dv 1) ah)) ah)))) ah)))) ah)))))
  (ao (az (aQ (ae (cj rfl T.Hy) (ae (aQ (ae (aj fW hr T.pZ (ae (dv 0) (ae (dv 8) (ae (dv 7) ah)))) (ae (aQ (ae (aR (dv 3) (dv 6)) (ae ai (ae ai ah)))) (ae (aQ (ae (iI (dv 6)) (ae ai (ae ai ah)))) (ae (dv 7) ah))))) ah)))))))))))),fun ds U Qd h=>EN h⟩)
theorem CD:aA ["d","thing","width","height","tiles","bounds","across","upward"] ["d","thing"] (aw gT):=bG
theorem B0(T:TX e)(pY:u7 e)(mZ:rM e)(gk:ml e)(fv:l9 e)(jW:n5 e):qP e:=by
 have S:=CD
 exact T.uM.f.okD S (fun ds U Q h=>BV h) (fun cdv A outer s H E hr=>⟨lC,(ak (bj (cq (bJ (aj pY hr T.yv (ae (dv 0) (ae (dv 1) ah))))) (ao (az eJ)) aJ)
  (ak (fU (dv 1) (dF (n:=3) rfl (aD (bD (i:=2) S.nd) (aD (bD (i:=3) S.nd) (aD (bD (i:=4) S.nd) cF)))))
  (ak (ON (i:=5) (N':=["tile"]) (cap:=[none]) S.nd rfl rfl rfl (jo (dv 4)) (fun _ _ _=>(dc 0)) (fun _ _ _=>dZ) (fun _ _ _=>(aj mZ hr T.vb (ae (dv 0) ah))))
  (ak (aN (i:=6) S.nd (aj gk hr T.jc (ae (dv 0) (ae (Oz (N':=["left","right","bottom","top","x"]) (cap:=[none,none,none,none,none]) rfl (k5 (dv 5)) (fun _ _ _=>(dF (n:=4) rfl (aD (dc 0) (aD (dc 1) (aD (dc 2) (aD (dc 3) cF)))))) (fun _ _ _=>(jo (aQ (ae (dv 0) (ae (dv 1) ah))))) (fun _ _ _=>(dc 4)) (fun _ _ _=>(dv 4))) ah))))
  (ak (aN (i:=7) S.nd (aj gk hr T.jc (ae (dv 0) (ae (Oz (N':=["left","right","bottom","top","y"]) (cap:=[none,none,none,none,none]) rfl (k5 (dv 5)) (fun _ _ _=>(dF (n:=4) rfl (aD (dc 0) (aD (dc 1) (aD (dc 2) (aD (dc 3) cF)))))) (fun _ _ _=>(jo (aQ (ae (dv 2) (ae (dv 3) ah))))) (fun _ _ _=>(dc 4)) (fun _ _ _=>(dv 4))) ah))))
  (ao (az (ke (aj fv hr T.jg (ae (dv 6) (ae (dv 2) ah))) (ke (aj fv hr T.jg (ae (dv 7) (ae (dv 3) ah))) (nt (aj jW hr T.o9 (ae (dv 5) (ae (dv 6) (ae (dv 7) ah)))))))))))))),fun ds U Qd h=>B3 h⟩)
theorem zu:aA ["d","width","height","shape"] ["d","width","height"] (aw fh):=bG
theorem zL(T:TX e)(aH:bN e)(fW:qu e)(fZ:i8 e)(ng:rY e):j3 e:=by
 have S:=zu
 exact T.lI.f.okD S (fun ds U Q h=>Fj h) (fun cdv A outer s H E hr=>⟨kg,(ak (dg (aj aH hr T.bC (ae (dv 0) (ae (dv 1) ah))))
  (ak (dg (aj aH hr T.bC (ae (dv 0) (ae (dv 2) ah))))
  (ak (aN (i:=3) S.nd (aj fW hr T.pZ (ae (dv 0) (ae (dv 2) (ae (dv 1) ah)))))
  (ak (bj (aL (fw hr.units) bc (ax (dv 3) ai) ai (aC _)) (ao (az (aQ (ae en (ae (aj fZ hr T.jP (ae (dv 3) ah)) ah))))) aJ)
  (ao (az (aQ (ae en (ae (aj ng hr T.vz (ae (dv 3) ah)) ah))))))))),fun ds U Qd h=>yT h⟩)
theorem IL:aA ["d","kinds","shape","thing","width","weights","kind"] ["d","kinds","shape","thing"] (aw mU):=bG
theorem ID(T:TX e)(bq:cZ e)(aH:bN e)(aK:bV e)(lK:o8 e)(gH:mK e)(cg:hZ e)(bg:dW e)(tM:xY e)(bA:iJ e):A5 e:=by
 have S:=IL
 exact T.EM.f.okD S (fun ds U Q h=>DC h) (fun cdv A outer s H E hr=>⟨uB,(ak (dg (aj bq hr T.dy (ae (dv 0) (ae (dv 1) ah))))
  (ak (dg (aj aH hr T.bC (ae (dv 0) (ae (dv 2) ah))))
  (ak (bj (DW.dt (eM (cq (bJ (lJ (kit_tuple _) rfl T.cm rfl T.jv PyProof.Rows.Boot.«tuple» (dv 3)))) (eu (aL (fw hr.units) bc (dY rfl T.gp (ae (dv 3) ah)) ai (aC _))))) (ao (az eJ)) aJ)
  (ak (fU (dv 3) (dF (n:=2) rfl (aD (bD (i:=4) S.nd) (aD (bD (i:=5) S.nd) cF))))
  (ak (bj (DW.dt (eM (cq (bJ (aj aK hr T.bH (ae (dv 0) (ae (dv 4) ah))))) (eu (cq (bJ (aj lK hr T.sV (ae (dv 5) ah))))))) (ao (az eJ)) aJ)
  (ak (il PassesOwn.never rfl (jo (dv 1)) (bD (i:=6) S.nd) (ao (bj (DW.dt (eM (cq (bJ (aj gH hr T.jZ (ae (dv 0) (ae (dv 5) (ae (dv 6) ah)))))) (eu (cq (bJ (aj gH hr T.jZ (ae (dv 0) (ae (dv 5) (ae (aj cg hr T.jk (ae (dv 0) (ae (dv 6) ah))) ah))))))))) (ao (az eJ)) aJ)))
  (ao (az (b9 kv dP (aj bg hr T.cJ (ae (dv 0) (ae (aj tM hr T.Ah (ae (dv 0) (ae (dv 5) (ae (dv 4) (ae (aj bA hr T.bX (ae (dv 0) (ae (dv 2) (ae (dv 4) ah)))) ah))))) ah))) ai (aC _)))))))))),fun ds U Qd h=>IK h⟩)
theorem zk:aA ["d","kind","shape","shares"] ["d","kind","shape"] (aw fJ):=bG
theorem zE(T:TX e)(aH:bN e)(bA:iJ e)(fW:qu e)(mO:si e)(cg:hZ e)(pV:vc e)(uw:yj e):pC e:=by
 have S:=zk
 exact T.qQ.f.okD S (fun ds U Q h=>DZ h) (fun cdv A outer s H E hr=>⟨i5,(ak (dg (aj aH hr T.bC (ae (dv 0) (ae (dv 1) ah))))
  (ak (dg (aj aH hr T.bC (ae (dv 0) (ae (dv 2) ah))))
  (ak (bj (aL (bI hr.units) bc (ax (aj bA hr T.bX (ae (dv 0) (ae (dv 1) (ae (dv 1) ah)))) ai) ai (aC _)) (ao (aN (i:=3) S.nd (aQ (ae (aj fW hr T.pZ (ae (dv 0) (ae (dv 2) (ae (dv 1) ah)))) (ae (cj rfl T.dA) ah))))) (ao (aN (i:=3) S.nd (aj mO hr T.DJ (ae (dv 0) (ae (dv 1) (ae (aj cg hr T.jk (ae (dv 0) (ae (dv 1) ah))) (ae (dv 2) ah))))))))
  (ak (bj (bJ (xC rfl rfl T.Es (ae (uJ (N':=["share","d"]) (cap:=[none,some 0]) rfl (jo (dv 3)) (fun _ _ _=>(dc 0)) (fun _ _ _=>dZ) (fun _ _ _=>(aj pV hr T.yd (ae (dv 1) (ae (dv 0) ah))))) ah))) (ao (az (aQ (ae en (ae (ax (dv 3) ai) (ae (ax (dv 3) ai) ah)))))) aJ)
  (ao (az (aQ (ae en (ae (aj uw hr T.Ax (ae (dv 0) (ae (dv 1) (ae (dv 2) ah)))) ah))))))))),fun ds U Qd h=>xu h⟩)
theorem yV:aA ["d","kinds","signs","most","place"] ["d","kinds"] (aw gj):=bG
theorem zr(T:TX e)(bq:cZ e)(lZ:pD e)(lA:oW e):pL e:=by
 have S:=yV
 exact T.qD.f.okD S (fun ds U Q h=>Cj h) (fun cdv A outer s H E hr=>⟨i4,(ak (dg (aj bq hr T.dy (ae (dv 0) (ae (dv 1) ah))))
  (ak (aN (i:=2) S.nd (aj lZ hr T.sH (ae (dv 0) (ae (dv 1) ah))))
  (ak (bj (DW.dt (CL (aL (Gm hr.units) Bn ai (dv 2) (by with_unfolding_all rfl)) (wg (aL (Gm hr.units) Bn (iI ai) (dv 2) (by with_unfolding_all rfl))))) (ao (az LL)) aJ)
  (ak (aN (i:=3) S.nd ai)
  (ak (il PassesOwn.never rfl (we rfl T.jF (ae ai (ae (dY rfl T.gp (ae (dv 1) ah)) ah))) (bD (i:=4) S.nd) (ao (bj (bJ (aj lA hr T.BK (ae (dv 0) (ae (ax (dv 1) (dv 4)) (ae (ax (dv 1) (dv 3)) ah))))) (ao (aN (i:=3) S.nd (dv 4))) aJ)))
  (ao (az (dv 3)))))))),fun ds U Qd h=>yB h⟩)
theorem qK:aA ["d","thing"] ["d","thing"] (aw cX):=bG
theorem qU(T:TX e)(nu:qP e):jB e:=by
 have S:=qK
 exact T.kh.f.okD S (fun ds U Q h=>zJ h) (fun cdv A outer s H E hr=>⟨fk,(ao (bj (cq (bJ (aj nu hr T.uM (ae (dv 0) (ae (dv 1) ah))))) (ao iZ) aJ)),fun ds U Qd h=>sU h⟩)
theorem vB:aA ["d","width","height","word","counts"] ["d","width","height"] (aw dQ):=bG
theorem vM(T:TX e)(d8:j3 e)(gn:iH e):l8 e:=by
 have S:=vB
 exact T.nH.f.okD S (fun ds U Q h=>BY h) (fun cdv A outer s H E hr=>⟨ip,(ak (fU (aj d8 hr T.lI (ae (dv 0) (ae (dv 1) (ae (dv 2) ah)))) (dF (n:=2) rfl (aD (bD (i:=3) S.nd) (aD (bD (i:=4) S.nd) cF))))
  (ak (bj (aL (bI hr.units) bc (dv 3) en (aC _)) (ao iZ) aJ)
  (ak (bj (aL ja dP (Fw rfl rfl T.JU (ae (dv 4) ah)) (wA (u:=.int 60) rfl T.sO ⟨_,rfl⟩ (fun _ _ _=>Rp.int 60)) (aC _)) (ao iZ) aJ)
  (ao (az (aQ (ae (dv 1) (ae (dv 2) (ae (Jx rfl T.jv (ae (aj gn hr T.jw (ae (dv 0) (ae (dv 1) (ae (dv 2) (ae (dv 4) ah))))) ah)) ah))))))))),fun ds U Qd h=>vD h⟩)
theorem CJ:aA ["d","kinds","shape","place","told"] ["d","kinds","shape"] (aw gQ):=bG
theorem Ct(T:TX e)(bq:cZ e)(aH:bN e)(lW:pL e)(iL:mi e)(lS:pC e)(fR:i9 e):qG e:=by
 have S:=CJ
 exact T.vi.f.okD S (fun ds U Q h=>Cp h) (fun cdv A outer s H E hr=>⟨lL,(ak (dg (aj bq hr T.dy (ae (dv 0) (ae (dv 1) ah))))
  (ak (dg (aj aH hr T.bC (ae (dv 0) (ae (dv 2) ah))))
  (ak (aN (i:=3) S.nd (aj lW hr T.qD (ae (dv 0) (ae (dv 1) ah))))
  (ak (bj (aL MA QV (dv 3) LL (aC _)) (ao (az (aQ (ae en (ae (aj iL hr T.xZ (ae (dv 0) (ae (dv 1) (ae (dv 2) ah)))) ah))))) aJ)
  (ak (aN (i:=4) S.nd (aj lS hr T.qQ (ae (dv 0) (ae (ax (dv 1) (dv 3)) (ae (dv 2) ah)))))
  (ak (bj (aL (bI hr.units) bc (ax (dv 4) ai) en (aC _)) (ao (az (dv 4))) aJ)
  (ao (az (aQ (ae en (ae (aj fR hr T.jG (ae (ax (dv 4) ai) (ae (ax (dv 4) ai) (ae (dv 3) ah)))) ah))))))))))),fun ds U Qd h=>B5 h⟩)
theorem Cn:aA ["d","laying"] ["d","laying"] (aw ic):=bG
theorem Bj(T:TX e)(gG:jB e)(fW:qu e):tH e:=by
 have S:=Cn
 exact T.u5.f.okD S (fun ds U Q h=>xQ h) (fun cdv A outer s H E hr=>⟨lF,(ak (dg (aj gG hr T.kh (ae (dv 0) (ae (dv 1) ah))))
  (ao (az (uJ (N':=["x","y","width","height","d"]) (cap:=[none,none,none,none,some 0]) rfl (jo (ax (dv 1) ai)) (fun _ _ _=>(dF (n:=4) rfl (aD (dc 0) (aD (dc 1) (aD (dc 2) (aD (dc 3) cF)))))) (fun _ _ _=>dZ) (fun _ _ _=>(aj fW hr T.pZ (ae (dv 4) (ae (dv 3) (ae (dv 2) ah))))))))),fun ds U Qd h=>Cd h⟩)
theorem Fo:aA ["d","kinds","shape"] ["d","kinds","shape"] (aw kW):=bG
theorem Gd(T:TX e)(mI:qG e):xW e:=by
 have S:=Fo
 exact T.AH.f.okD S (fun ds U Q h=>Ca h) (fun cdv A outer s H E hr=>⟨qh,(ao (az (b9 (bI hr.units) bc (ax (aj mI hr T.vi (ae (dv 0) (ae (dv 1) (ae (dv 2) ah)))) ai) en (aC _)))),fun ds U Qd h=>Gq h⟩)
theorem Kn:aA ["d","laying","kinds","shapes","fitting"] ["d","laying","kinds"] (aw sL):=bG
theorem Ks(T:TX e)(nQ:tH e)(bq:cZ e)(cg:hZ e):EV e:=by
 have S:=Kn
 exact T.G3.f.okD S (fun ds U Q h=>BQ h) (fun cdv A outer s H E hr=>⟨wR,(ak (aN (i:=3) S.nd (aj nQ hr T.u5 (ae (dv 0) (ae (dv 1) ah))))
  (ak (dg (aj bq hr T.dy (ae (dv 0) (ae (dv 2) ah))))
  (ak (Me (i:=4) S.nd rfl (Or.inr rfl) (QN (MO rfl T.QD (ae (dv 2) ah)) (uJ (N':=["kind","d"]) (cap:=[none,some 0]) rfl (jo (dv 2)) (fun _ _ _=>(dc 0)) (fun _ _ _=>dZ) (fun _ _ _=>(aj cg hr T.jk (ae (dv 1) (ae (dv 0) ah)))))))
  (ao (az (xC rfl rfl T.Es (ae (uJ (N':=["shape","fitting"]) (cap:=[none,some 4]) rfl (k5 (dv 3)) (fun _ _ _=>(dc 0)) (fun _ _ _=>dZ) (fun _ _ _=>(b9 (Gm hr.units) Bn (dv 0) (dv 1) (by with_unfolding_all rfl)))) ah))))))),fun ds U Qd h=>Mc h⟩)
theorem ub:aA ["_law_d","_law_width","_law_height","_law_square","_law_shape","_law_told","_law_laying"] ["_law_d","_law_width","_law_height"] (aw du):=bG
theorem uo(T:TX e)(nR:rh e)(d8:j3 e)(tP:xW e)(x6:A5 e)(mW:qv e)(bE:eO e)(je:l8 e)(Cz:EV e):kT e:=by
 have S:=ub
 exact T.eP.f.okD S (fun ds U Q h=>yS h) (fun cdv A outer s H E hr=>⟨gA,(ak (aN (i:=3) S.nd (aQ (ae (aQ (ae ai (ae ai (ae ai ah)))) ah)))
  (ak (aN (i:=4) S.nd (aj nR hr T.vo (ae (dv 0) (ae (dv 2) (ae (dv 1) ah)))))
  (ak (aN (i:=5) S.nd (aj d8 hr T.lI (ae (dv 0) (ae (dv 1) (ae (dv 2) ah)))))
  (ak (bj (DW.dt (eM (aL (fw hr.units) bc (aj tP hr T.AH (ae (dv 0) (ae (dv 3) (ae (dv 4) ah)))) (b9 (bI hr.units) bc (ax (dv 5) ai) en (aC _)) (aC _)) (eu (aL (fw hr.units) bc (b9 (bI hr.units) bc (ax (dv 4) ai) ai (aC _)) (b9 (bI hr.units) bc (ax (dv 5) ai) en (aC _)) (aC _))))) (ao (az eJ)) aJ)
  (ak (bj (aL (bI hr.units) bc (ax (dv 5) ai) en (aC _)) (ao (az (b9 K1 OB (aj x6 hr T.EM (ae (dv 0) (ae (dv 3) (ae (dv 4) (ae (ax (dv 5) ai) ah))))) eJ (aC _)))) aJ)
  (ak (bj (aL (fw hr.units) bc (aj mW hr T.vg (ae (dv 0) (ae (dv 1) (ae (dv 2) (ae (ax (dv 5) ai) ah))))) (aj bE hr T.di (ae (dv 0) (ae (dv 1) (ae (dv 2) ah)))) (aC _)) (ao (az eJ)) aJ)
  (ak (bj (aL ja dP (Fw rfl rfl T.JU (ae (ax (dv 5) ai) ah)) ai (aC _)) (ao (az eJ)) aJ)
  (ak (aN (i:=6) S.nd (aj je hr T.nH (ae (dv 0) (ae (dv 1) (ae (dv 2) ah)))))
  (ao (az (ke (b9 K1 OB (aj Cz hr T.G3 (ae (dv 0) (ae (dv 6) (ae (dv 3) ah)))) eJ (aC _)) (ke (b9 (bI hr.units) bc (dY rfl T.gp (ae (ax (dv 6) ai) ah)) (Fw rfl rfl T.JU (ae (ax (dv 5) ai) ah)) (aC _)) (nt (b9 (bI hr.units) bc (KO (dv 6) MJ (Na ai)) (aQ (ae (dv 1) (ae (dv 2) ah))) (aC _))))))))))))))),fun ds U Qd h=>tX h⟩)
theorem Pb:aA ["_law_script","_law_k","_law_bag_here","_law_d","_law_turn","_law_width","_law_height"] ["_law_script"] (aw qJ):=bG
theorem OQ(T:TX e)(p6:vk e)(mY:rg e)(eS:ix e)(dD:kT e):JS e:=by
 have S:=Pb
 exact T.RZ.f.okD S (fun ds U Q h=>IW h) (fun cdv A outer s H E hr=>⟨Gp,(ak (il PassesOwn.never rfl (wb rfl T.jF (ae (Ka rfl rfl T.OI (ae ai (ae (K8 rfl rfl T.Om (ae ai (ae (dY rfl T.gp (ae (dv 0) ah)) ah))) ah))) ah)) (bD (i:=1) S.nd) (ak (aN (i:=2) S.nd (aj p6 hr T.yo (ae (dv 0) (ae (dv 1) ah))))
  (ak (aN (i:=3) S.nd (aj mY hr T.vj (ae (dv 2) ah)))
  (ao (il PassesOwn.never rfl (wb rfl T.jF (ae ai ah)) (bD (i:=4) S.nd) (ak (fU (aj eS hr T.iK (ae (dv 2) (ae (dv 3) ah))) (dF (n:=2) rfl (aD (bD (i:=5) S.nd) (aD (bD (i:=6) S.nd) cF))))
  (ao (bj (DW.dt (eM (cq (bJ (aj dD hr T.eP (ae (dv 3) (ae (dv 5) (ae (dv 6) ah)))))) (eu (cq (bJ (aj dD hr T.eP (ae (dv 3) (ae (dv 6) (ae (dv 5) ah))))))))) (ao (az eJ)) aJ))))))))
  (ao (az (aj dD hr T.eP (ae ai (ae (aQ (ae ai (ae ai (ae ai ah)))) (ae (aQ (ae ai (ae ai (ae ai ah)))) ah))))))),fun ds U Qd h=>Pe h⟩)
theorem QX(T:TX e):JS e:=by
 have iU:=EW T
 have d6:=qE T
 have cG:=bB T
 have cK:=tW T
 have fv:=vH T
 have jW:=yC T
 have ng:=Bz T
 have mO:=B6 T
 have d9:=zo T
 have lA:=zm T
 have iL:=vI T
 have fe:=B8 T
 have gL:=yH T
 have cu:=yU T
 have p6:=DB T
 have aO:=BH T
 have cA:=rE T d6
 have bg:=FC T cK
 have df:=E7 T cK
 have gE:=qV T d9
 have bL:=DX T gL
 have mY:=CW T aO
 have cw:=BU T iU cA
 have dq:=Ie T cA
 have j7:=wQ T df
 have pV:=EE T bg
 have fR:=qc T gE
 have lZ:=zh T bg cG
 have bT:=Dk T bL
 have bE:=zP T bL
 have ij:=ug T bL
 have j9:=xT T aO bL
 have dm:=dj T dq
 have qq:=eQ T dq
 have bA:=aZ T dq
 have cg:=bO T dq
 have aK:=qg T cw bg
 have gk:=vF T j7
 have lK:=zA T cw
 have iC:=y7 T fe bT cu
 have jM:=C5 T bT cu
 have nR:=BA T bE ij
 have iz:=zQ T j9 fe aO cu
 have fW:=Nx T bA cg
 have aH:=kI T aK
 have tQ:=GF T cw bg aK
 have mZ:=BD T dm
 have pO:=ED T aK
 have gn:=pU T df dm qq
 have tM:=GD T dm bA cG
 have gH:=wF T bA cG bg dm df
 have Ba:=sv T qq cG dm
 have eS:=oS T aO iz bT bE bL
 have mW:=Br T iC bT bE jM
 have pY:=EB T aK tQ
 have bq:=ur T pO
 have fZ:=pN T
 have uw:=FR T bg cG Ba fW bA
 have nu:=B0 T pY mZ gk fv jW
 have d8:=zL T aH fW fZ ng
 have x6:=ID T bq aH aK lK gH cg bg tM bA
 have lS:=zE T aH bA fW mO cg pV uw
 have lW:=zr T bq lZ lA
 have gG:=qU T nu
 have je:=vM T d8 gn
 have mI:=Ct T bq aH lW iL lS fR
 have nQ:=Bj T gG fW
 have tP:=Gd T mI
 have Cz:=Ks T nQ bq cg
 have dD:=uo T nR d8 tP x6 mW bE je Cz
 exact OQ T p6 mY eS dD
end
theorem aI{K:PySem.W.Frag}{h:Heap}{mg:Str->Option Value}{n m:Str}{st:Stmt}{f c:Addr}{t:Tok}{ps:List Str}(X:K.In h)(G:h.Ns mainGlobals mg)(a:FQ K n st f c t m)
  (b:∀(kV doc pm:Value) (an:Option Addr) (cdv ct:Value) (us:List Value),us.length=ps.length->bindArgs (fnOf n n (iD st) (gM st) (aw st) .none kV doc pm an cdv ct) ⟨us,[]⟩=pure (ps.zip us)):Cal K mg n ps st f (fd n st t m c):=
 have F:=O0 (st:=st) a.2.1 a.2.2.1 a.2.2.2
 ⟨F,mg_of X G a.1,a.2.2.2,F.binds b⟩
theorem all_mk{l:PySem.W.OpenLaw}{w:World}{K:PySem.W.Frag}{h:Heap}{mg:Str->Option Value}{fa:Addr}(X:K.In h)(G:h.Ns mainGlobals mg)(hfa:mg "law"=some (.ref fa))
  {f0 c0 f1 c1 f2 c2 f3 c3 f4 c4 f5 c5 f6 c6 f7 c7 f8 c8 f9 c9 f10 c10 f11 c11 f12 c12 f13 c13 f14 c14 f15 c15 f16 c16 f17 c17 f18 c18 f19 c19 f20 c20 f21 c21 f22 c22 f23 c23 f24 c24 f25 c25 f26 c26 f27 c27 f28 c28 f29 c29 f30 c30 f31 c31 f32 c32 f33 c33 f34 c34 f35 c35 f36 c36 f37 c37 f38 c38 f39 c39 f40 c40 f41 c41 f42 c42 f43 c43 f44 c44 f45 c45 f46 c46 f47 c47 f48 c48 f49 c49 f50 c50 f51 c51 f52 c52 f53 c53 f54 c54 f55 c55 f56 c56 f57 c57 f58 c58 f59 c59 f60 c60 f61 c61 f62 c62 f63 c63 f64 c64 f65 c65 f66 c66 f67 c67 f68 c68 f69 c69 f70 c70:Addr} {t0 t1 t2 t3 t4 t5 t6 t7 t8 t9 t10 t11 t12 t13 t14 t15 t16 t17 t18 t19 t20 t21 t22 t23 t24 t25 t26 t27 t28 t29 t30 t31 t32 t33 t34 t35 t36 t37 t38 t39 t40 t41 t42 t43 t44 t45 t46 t47 t48 t49 t50 t51 t52 t53 t54 t55 t56 t57 t58 t59 t60 t61 t62 t63 t64 t65 t66 t67 t68 t69 t70:Tok} {m0 m1 m2 m3 m4 m5 m6 m7 m8 m9 m10 m11 m12 m13 m14 m15 m16 m17 m18 m19 m20 m21 m22 m23 m24 m25 m26 m27 m28 m29 m30 m31 m32 m33 m34 m35 m36 m37 m38 m39 m40 m41 m42 m43 m44 m45 m46 m47 m48 m49 m50 m51 m52 m53 m54 m55 m56 m57 m58 m59 m60 m61 m62 m63 m64 m65 m66 m67 m68 m69 m70:Str} {q0:Tok} {q1:Tok} {g2:Addr} {go2:Option Addr} {q2a q2b q2c:Tok} {gn2:Nat} {gs2:Array (Option Value)} {g3:Addr} {go3:Option Addr} {q3a q3b q3c:Tok} {gn3:Nat} {gs3:Array (Option Value)}
  (a0:FQ K "is_whole" iW f0 c0 t0 m0)
  (a1:FQ K "common_divisor" cY f1 c1 t1 m1)
  (a2:FQ K "is_number" gX f2 c2 t2 m2)
  (a3:FQ K "divisor_of_all" da f3 c3 t3 m3)
  (a4:FQ K "number" mG f4 c4 t4 m4)
  (a5:FQ K "mate" wM f5 c5 t5 m5)
  (a6:FQ K "plus" yL f6 c6 t6 m6)
  (a7:FQ K "less" xp f7 c7 t7 m7)
  (a8:FQ K "times" qL f8 c8 t8 m8)
  (a9:FQ K "over" xE f9 c9 t9 m9)
  (a10:FQ K "contrary" jj f10 c10 t10 m10)
  (a11:FQ K "sign_of" kr f11 c11 t11 m11)
  (a12:FQ K "sign_of_parts" dr f12 c12 t12 m12)
  (a13:FQ K "is_above" i7 f13 c13 t13 m13)
  (a14:FQ K "is_above_nought" cM f14 c14 t14 m14)
  (a15:FQ K "must_be_above_nought" bS f15 c15 t15 m15)
  (a16:FQ K "is_tile" km f16 c16 t16 m16)
  (a17:FQ K "has_form" iV f17 c17 t17 m17)
  (a18:FQ K "bounds_of" ib f18 c18 t18 m18)
  (a19:FQ K "place_among" eD f19 c19 t19 m19)
  (a20:FQ K "rising_marks" dS f20 c20 t20 m20)
  (a21:FQ K "reaches_just" dX f21 c21 t21 m21)
  (a22:FQ K "covers_once" eI f22 c22 t22 m22)
  (a23:FQ K "is_laying" gT f23 c23 t23 m23)
  (a24:FQ K "is_kinds" iQ f24 c24 t24 m24)
  (a25:FQ K "must_be_laying" cX f25 c25 t25 m25)
  (a26:FQ K "must_be_kinds" dz f26 c26 t26 m26)
  (a27:FQ K "shapes_in" ic f27 c27 t27 m27)
  (a28:FQ K "is_by" sL f28 c28 t28 m28)
  (a29:FQ K "squares_of" fh f29 c29 t29 m29)
  (a30:FQ K "bar_for_squares" cR f30 c30 t30 m30)
  (a31:FQ K "counts_of" gO f31 c31 t31 m31)
  (a32:FQ K "squares_laid" dQ f32 c32 t32 m32)
  (a33:FQ K "tiles_by_counts" cP f33 c33 t33 m33)
  (a34:FQ K "is_weights" fD f34 c34 t34 m34)
  (a35:FQ K "weighed" kX f35 c35 t35 m35)
  (a36:FQ K "never_below" eG f36 c36 t36 m36)
  (a37:FQ K "is_bar" mU f37 c37 t37 m37)
  (a38:FQ K "mixture_of" fJ f38 c38 t38 m38)
  (a39:FQ K "shares_of" gR f39 c39 t39 m39)
  (a40:FQ K "is_share" jn f40 c40 t40 m40)
  (a41:FQ K "bar_for" kq f41 c41 t41 m41)
  (a42:FQ K "skew" wL f42 c42 t42 m42)
  (a43:FQ K "plan_of_mixture" cL f43 c43 t43 m43)
  (a44:FQ K "plan_of_shares" cU f44 c44 t44 m44)
  (a45:FQ K "share_plan" fK f45 c45 t45 m45)
  (a46:FQ K "wish_told" gQ f46 c46 t46 m46)
  (a47:FQ K "is_laid" kW f47 c47 t47 m47)
  (a48:FQ K "leans_most" gj f48 c48 t48 m48)
  (a49:FQ K "mate_signs" fA f49 c49 t49 m49)
  (a50:FQ K "leans_more" fN f50 c50 t50 m50)
  (a51:FQ K "plan_by_both" dU f51 c51 t51 m51)
  (a52:FQ K "_law_below" fq f52 c52 t52 m52)
  (a53:FQ K "_law_sign" ia f53 c53 t53 m53)
  (a54:FQ K "_law_plus" hW f54 c54 t54 m54)
  (a55:FQ K "_law_low" iO f55 c55 t55 m55)
  (a56:FQ K "_law_shared" eL f56 c56 t56 m56)
  (a57:FQ K "_law_minus" fu f57 c57 t57 m57)
  (a58:FQ K "_law_times" fE f58 c58 t58 m58)
  (a59:FQ K "_law_less" gZ f59 c59 t59 m59)
  (a60:FQ K "_law_over" hJ f60 c60 t60 m60)
  (a61:FQ K "_law_contrary" dw f61 c61 t61 m61)
  (a62:FQ K "_law_bag" jh f62 c62 t62 m62)
  (a63:FQ K "_law_root" gP f63 c63 t63 m63)
  (a64:FQ K "_law_take" hX f64 c64 t64 m64)
  (a65:FQ K "_law_floor_sides" cC f65 c65 t65 m65)
  (a66:FQ K "_law_above" fI f66 c66 t66 m66)
  (a67:FQ K "_law_number" eC f67 c67 t67 m67)
  (a68:FQ K "_law_area" gY f68 c68 t68 m68)
  (a69:FQ K "_law_is_right" du f69 c69 t69 m69)
  (a70:FQ K "law" qJ f70 c70 t70 m70)
  (z0:nsIn K mainGlobals "isinstance"=some none)
  (z1:nsIn K mainGlobals "int"=some none)
  (z2:nsIn K mainGlobals "bool"=some none)
  (z3:nsIn K mainGlobals "abs"=some none)
  (z4:nsIn K mainGlobals "tuple"=some none)
  (z5:nsIn K mainGlobals "len"=some none)
  (z6:nsIn K mainGlobals "all"=some none)
  (z7:nsIn K mainGlobals "set"=some none)
  (z8:nsIn K mainGlobals "range"=some none)
  (z9:nsIn K mainGlobals "enumerate"=some none)
  (z10:nsIn K mainGlobals "list"=some none)
  (z11:nsIn K mainGlobals "min"=some none)
  (z12:nsIn K mainGlobals "max"=some none)
  (z13:nsIn K mainGlobals "sum"=some none)
  (v0:nsIn K mainGlobals "MOST_KINDS"=some (some (.int 3 q0)))
  (v1:nsIn K mainGlobals "MOST_TILES"=some (some (.int 60 q1)))
  (v2:nsIn K mainGlobals "NOUGHT"=some (some (.ref g2))) (w2:K.lookup g2=some ⟨.type "tuple",go2,.seq #[.int 0 q2a,.int 0 q2b,.int 1 q2c] gn2,gs2⟩)
  (v3:nsIn K mainGlobals "ONE"=some (some (.ref g3))) (w3:K.lookup g3=some ⟨.type "tuple",go3,.seq #[.int 1 q3a,.int 0 q3b,.int 1 q3c] gn3,gs3⟩) :
  ∃fd:FuncData,(∀(s:Shared) (v:Value),BindsTo s fd ⟨[v],[]⟩ [("_law_script",v)])/\∀base:Heap,K.In base->base.Ns mainGlobals mg->mT l.prog w K mg base CX0 12 fa fd ["_law_script"] (spD K xg):=by
 have e:=hfa.symm.trans (mg_of X G a70.1)
 cases e
 have T:Txt K mg ⟨f0,fd "is_whole" iW t0 m0 c0,f1,fd "common_divisor" cY t1 m1 c1,f2,fd "is_number" gX t2 m2 c2,f3,fd "divisor_of_all" da t3 m3 c3,f4,fd "number" mG t4 m4 c4,f5,fd "mate" wM t5 m5 c5,f6,fd "plus" yL t6 m6 c6,f7,fd "less" xp t7 m7 c7,f8,fd "times" qL t8 m8 c8,f9,fd "over" xE t9 m9 c9,f10,fd "contrary" jj t10 m10 c10,f11,fd "sign_of" kr t11 m11 c11,f12,fd "sign_of_parts" dr t12 m12 c12,f13,fd "is_above" i7 t13 m13 c13,f14,fd "is_above_nought" cM t14 m14 c14,f15,fd "must_be_above_nought" bS t15 m15 c15,f16,fd "is_tile" km t16 m16 c16,f17,fd "has_form" iV t17 m17 c17,f18,fd "bounds_of" ib t18 m18 c18,f19,fd "place_among" eD t19 m19 c19,f20,fd "rising_marks" dS t20 m20 c20,f21,fd "reaches_just" dX t21 m21 c21,f22,fd "covers_once" eI t22 m22 c22,f23,fd "is_laying" gT t23 m23 c23,f24,fd "is_kinds" iQ t24 m24 c24,f25,fd "must_be_laying" cX t25 m25 c25,f26,fd "must_be_kinds" dz t26 m26 c26,f27,fd "shapes_in" ic t27 m27 c27,f28,fd "is_by" sL t28 m28 c28,f29,fd "squares_of" fh t29 m29 c29,f30,fd "bar_for_squares" cR t30 m30 c30,f31,fd "counts_of" gO t31 m31 c31,f32,fd "squares_laid" dQ t32 m32 c32,f33,fd "tiles_by_counts" cP t33 m33 c33,f34,fd "is_weights" fD t34 m34 c34,f35,fd "weighed" kX t35 m35 c35,f36,fd "never_below" eG t36 m36 c36,f37,fd "is_bar" mU t37 m37 c37,f38,fd "mixture_of" fJ t38 m38 c38,f39,fd "shares_of" gR t39 m39 c39,f40,fd "is_share" jn t40 m40 c40,f41,fd "bar_for" kq t41 m41 c41,f42,fd "skew" wL t42 m42 c42,f43,fd "plan_of_mixture" cL t43 m43 c43,f44,fd "plan_of_shares" cU t44 m44 c44,f45,fd "share_plan" fK t45 m45 c45,f46,fd "wish_told" gQ t46 m46 c46,f47,fd "is_laid" kW t47 m47 c47,f48,fd "leans_most" gj t48 m48 c48,f49,fd "mate_signs" fA t49 m49 c49,f50,fd "leans_more" fN t50 m50 c50,f51,fd "plan_by_both" dU t51 m51 c51,f52,fd "_law_below" fq t52 m52 c52,f53,fd "_law_sign" ia t53 m53 c53,f54,fd "_law_plus" hW t54 m54 c54,f55,fd "_law_low" iO t55 m55 c55,f56,fd "_law_shared" eL t56 m56 c56,f57,fd "_law_minus" fu t57 m57 c57,f58,fd "_law_times" fE t58 m58 c58,f59,fd "_law_less" gZ t59 m59 c59,f60,fd "_law_over" hJ t60 m60 c60,f61,fd "_law_contrary" dw t61 m61 c61,f62,fd "_law_bag" jh t62 m62 c62,f63,fd "_law_root" gP t63 m63 c63,f64,fd "_law_take" hX t64 m64 c64,f65,fd "_law_floor_sides" cC t65 m65 c65,f66,fd "_law_above" fI t66 m66 c66,f67,fd "_law_number" eC t67 m67 c67,f68,fd "_law_area" gY t68 m68 c68,f69,fd "_law_is_right" du t69 m69 c69,fa,fd "law" qJ t70 m70 c70,q0,q1,g2,g3⟩:=⟨aI X G a0 (fun _ _ _ _ _ _=>ln1 fun _=>rfl),aI X G a1 (fun _ _ _ _ _ _=>ln2 fun _ _=>rfl),aI X G a2 (fun _ _ _ _ _ _=>ln1 fun _=>rfl),aI X G a3 (fun _ _ _ _ _ _=>ln3 fun _ _ _=>rfl),aI X G a4 (fun _ _ _ _ _ _=>ln3 fun _ _ _=>rfl),aI X G a5 (fun _ _ _ _ _ _=>ln1 fun _=>rfl),aI X G a6 (fun _ _ _ _ _ _=>ln2 fun _ _=>rfl),aI X G a7 (fun _ _ _ _ _ _=>ln2 fun _ _=>rfl),aI X G a8 (fun _ _ _ _ _ _=>ln3 fun _ _ _=>rfl),aI X G a9 (fun _ _ _ _ _ _=>ln3 fun _ _ _=>rfl),aI X G a10 (fun _ _ _ _ _ _=>ln2 fun _ _=>rfl),aI X G a11 (fun _ _ _ _ _ _=>ln2 fun _ _=>rfl),aI X G a12 (fun _ _ _ _ _ _=>ln3 fun _ _ _=>rfl),aI X G a13 (fun _ _ _ _ _ _=>ln3 fun _ _ _=>rfl),aI X G a14 (fun _ _ _ _ _ _=>ln2 fun _ _=>rfl),aI X G a15 (fun _ _ _ _ _ _=>ln2 fun _ _=>rfl),aI X G a16 (fun _ _ _ _ _ _=>ln2 fun _ _=>rfl),aI X G a17 (fun _ _ _ _ _ _=>ln2 fun _ _=>rfl),aI X G a18 (fun _ _ _ _ _ _=>ln1 fun _=>rfl),aI X G a19 (fun _ _ _ _ _ _=>ln3 fun _ _ _=>rfl),aI X G a20 (fun _ _ _ _ _ _=>ln2 fun _ _=>rfl),aI X G a21 (fun _ _ _ _ _ _=>ln2 fun _ _=>rfl),aI X G a22 (fun _ _ _ _ _ _=>ln3 fun _ _ _=>rfl),aI X G a23 (fun _ _ _ _ _ _=>ln2 fun _ _=>rfl),aI X G a24 (fun _ _ _ _ _ _=>ln2 fun _ _=>rfl),aI X G a25 (fun _ _ _ _ _ _=>ln2 fun _ _=>rfl),aI X G a26 (fun _ _ _ _ _ _=>ln2 fun _ _=>rfl),aI X G a27 (fun _ _ _ _ _ _=>ln2 fun _ _=>rfl),aI X G a28 (fun _ _ _ _ _ _=>ln3 fun _ _ _=>rfl),aI X G a29 (fun _ _ _ _ _ _=>ln3 fun _ _ _=>rfl),aI X G a30 (fun _ _ _ _ _ _=>ln1 fun _=>rfl),aI X G a31 (fun _ _ _ _ _ _=>ln1 fun _=>rfl),aI X G a32 (fun _ _ _ _ _ _=>ln3 fun _ _ _=>rfl),aI X G a33 (fun _ _ _ _ _ _=>ln4 fun _ _ _ _=>rfl),aI X G a34 (fun _ _ _ _ _ _=>ln1 fun _=>rfl),aI X G a35 (fun _ _ _ _ _ _=>ln4 fun _ _ _ _=>rfl),aI X G a36 (fun _ _ _ _ _ _=>ln3 fun _ _ _=>rfl),aI X G a37 (fun _ _ _ _ _ _=>ln4 fun _ _ _ _=>rfl),aI X G a38 (fun _ _ _ _ _ _=>ln3 fun _ _ _=>rfl),aI X G a39 (fun _ _ _ _ _ _=>ln4 fun _ _ _ _=>rfl),aI X G a40 (fun _ _ _ _ _ _=>ln2 fun _ _=>rfl),aI X G a41 (fun _ _ _ _ _ _=>ln3 fun _ _ _=>rfl),aI X G a42 (fun _ _ _ _ _ _=>ln2 fun _ _=>rfl),aI X G a43 (fun _ _ _ _ _ _=>ln3 fun _ _ _=>rfl),aI X G a44 (fun _ _ _ _ _ _=>ln4 fun _ _ _ _=>rfl),aI X G a45 (fun _ _ _ _ _ _=>ln2 fun _ _=>rfl),aI X G a46 (fun _ _ _ _ _ _=>ln3 fun _ _ _=>rfl),aI X G a47 (fun _ _ _ _ _ _=>ln3 fun _ _ _=>rfl),aI X G a48 (fun _ _ _ _ _ _=>ln2 fun _ _=>rfl),aI X G a49 (fun _ _ _ _ _ _=>ln2 fun _ _=>rfl),aI X G a50 (fun _ _ _ _ _ _=>ln3 fun _ _ _=>rfl),aI X G a51 (fun _ _ _ _ _ _=>ln3 fun _ _ _=>rfl),aI X G a52 (fun _ _ _ _ _ _=>ln3 fun _ _ _=>rfl),aI X G a53 (fun _ _ _ _ _ _=>ln2 fun _ _=>rfl),aI X G a54 (fun _ _ _ _ _ _=>ln2 fun _ _=>rfl),aI X G a55 (fun _ _ _ _ _ _=>ln3 fun _ _ _=>rfl),aI X G a56 (fun _ _ _ _ _ _=>ln2 fun _ _=>rfl),aI X G a57 (fun _ _ _ _ _ _=>ln1 fun _=>rfl),aI X G a58 (fun _ _ _ _ _ _=>ln3 fun _ _ _=>rfl),aI X G a59 (fun _ _ _ _ _ _=>ln2 fun _ _=>rfl),aI X G a60 (fun _ _ _ _ _ _=>ln3 fun _ _ _=>rfl),aI X G a61 (fun _ _ _ _ _ _=>ln2 fun _ _=>rfl),aI X G a62 (fun _ _ _ _ _ _=>ln2 fun _ _=>rfl),aI X G a63 (fun _ _ _ _ _ _=>ln1 fun _=>rfl),aI X G a64 (fun _ _ _ _ _ _=>ln2 fun _ _=>rfl),aI X G a65 (fun _ _ _ _ _ _=>ln2 fun _ _=>rfl),aI X G a66 (fun _ _ _ _ _ _=>ln2 fun _ _=>rfl),aI X G a67 (fun _ _ _ _ _ _=>ln1 fun _=>rfl),aI X G a68 (fun _ _ _ _ _ _=>ln4 fun _ _ _ _=>rfl),aI X G a69 (fun _ _ _ _ _ _=>ln3 fun _ _ _=>rfl),aI X G a70 (fun _ _ _ _ _ _=>ln1 fun _=>rfl),mg_none_of X G z0,mg_none_of X G z1,mg_none_of X G z2,mg_none_of X G z3,mg_none_of X G z4,mg_none_of X G z5,mg_none_of X G z6,mg_none_of X G z7,mg_none_of X G z8,mg_none_of X G z9,mg_none_of X G z10,mg_none_of X G z11,mg_none_of X G z12,mg_none_of X G z13,mg_of X G v0,mg_of X G v1,⟨mg_of X G v2,⟨_,_,_,_,_,_,w2⟩⟩,⟨mg_of X G v3,⟨_,_,_,_,_,_,w3⟩⟩⟩
 exact⟨_,fun s v=>.of_eq rfl,fun base _ _=>QX (e:=⟨l.prog,w,K,mg,base,_⟩) T⟩
theorem walk{l:PySem.W.OpenLaw}{q:Program}{loose:List Str}{XP:(Str->Option Value)->Heap->Prop}{YP:World->Heap->Prop}{d:DefRec}{K:Params->PySem.W.Frag}(tabs:List Addr)(hn:l.most=some 63)(hdf:d.params.defaults=[])
  (hY:∀(w:World) (h:Heap),YP w h->(K w.params).In h/\(∀p∈tabs,h.get? p=some (PySem.W.tabObj #[])/\(K w.params).lookup p=none)/\(∀p∈tabs,isCodeTable h p))
  (hA2:∀(w:World) c o p q,(K w.params).lookup c=some o->cT o=some (p,q)->p∈tabs)
  (F:∀(w:World) (mg:Str->Option Value) (fa:Addr) (h:Heap),(K w.params).In h->h.Ns mainGlobals mg->mg d.name=some (.ref fa) ->
   ∃fd:FuncData,(∀(s:Shared) (u:Value),BindsTo s fd ⟨[u],[]⟩ [("_law_script",u)])/\∀base:Heap,(K w.params).In base->base.Ns mainGlobals mg->mT l.prog w (K w.params) mg base CX0 12 fa fd ["_law_script"] (spD (K w.params) xg)) :
  PySem.W.WalkO q loose XP YP l.row.toRowW d [] (fun f vs=>PySem.call f vs):=
 L2.JN (n:=63) (k:=12) (x:="_law_script") (CX:=fun _=>CX0) (sp:=fun w=>spD (K w.params) xg) tabs hn ⋯ hdf ⟨rfl,⋯,⋯⟩ hY hA2 F (fun w H a ns hl hT hS=>Iv hl hT hS) fun _ _ _ _ _ z=>z
end K21
open PySem PySem.W PyProof.Rows L2.DL in
set_option maxRecDepth 100000 in
set_option maxHeartbeats 0 in
theorem PySem.Challenge.cw_matefloors_k21_whole_squares_holds : PySem.Challenge.rw_matefloors_k21_whole_squares.Holds :=
 holds_law K21.H.ws fun said=>holds_open (XP:=XL K21.H.V []) (YP:=K21.H.HK.says) (d:=K21.H.D) (kwd:=[]) K21.H.left K21.H.HK.of K21.H.HK.keeps (fun s e=>xl_of s (Bool.and_eq_true_iff.mp e).1) XL.keeps ⟨⟩ ⟨⟩ ⟨⟩
  (fun s e=>recFacts_of (Bool.and_eq_true_iff.mp e).2) ⟨⟩ said ⟨⟩ ⟨⟨⟩,⟨⟩,⟨⟩,⟨⟩,⟨⟩,⟨⟩⟩ ⟨[.list []],⟨⟩,⟨⟩⟩
  (K21.walk (l:=PySem.Challenge.rw_matefloors_k21_whole_squares) (K:=K21.H.K) K21.H.tabs ⟨⟩ ⟨⟩ (fun w h Y=>by
   have Y:(K21.H.KF w.params).In h:=Y
   refine⟨Cu Y,fun p hp=>?_,fun p hp=>?_⟩
   ·rcases List.mem_cons.mp hp with rfl|hp
    ·exact⟨Y _ _ (K21.H.ju w.params).1,(K21.H.ju w.params).2⟩
    rcases List.mem_cons.mp hp with rfl|hp
    ·exact⟨Y _ _ (K21.H.Hb w.params).1,(K21.H.Hb w.params).2⟩
    exact nomatch hp
   ·rcases List.mem_cons.mp hp with rfl|hp
    ·obtain⟨o,e1,e2⟩:=GV (K21.H.qe w.params);exact Ay (Cu Y) e1 e2
    rcases List.mem_cons.mp hp with rfl|hp
    ·obtain⟨o,e1,e2⟩:=GV (K21.H.LZ w.params);exact Ay (Cu Y) e1 e2
    exact nomatch hp) (fun w c o p q e e2=>by
   have h:=MK (K21.H.PV w.params) e e2
   have h2:=mem_map_of_mem (f:=fun x:Addr×Str=>x.1) h
   exact h2) fun w mg fa h KX G hmg=>by
   obtain⟨h0,h1,h2,h3,h4,h5,h6,h7,h8,h9,h10,h11,h12,h13⟩:=K21.H.QB w.params
   obtain⟨h14,h15,h16,h17,h18,h19,h20,h21,h22,h23,h24,h25,h26,h27⟩:=K21.H.Pk w.params
   obtain⟨h28,h29,h30,h31,h32,h33,h34,h35,h36,h37,h38,h39,h40,h41⟩:=K21.H.Qg w.params
   obtain⟨h42,h43,h44,h45,h46,h47,h48,h49,h50,h51,h52,h53,h54,h55⟩:=K21.H.Qj w.params
   obtain⟨h56,h57,h58,h59,h60,h61,h62,h63,h64,h65,h66,h67,h68,h69⟩:=K21.H.Pu w.params
   obtain⟨h70,h71,h72,h73,h74,h75,h76,h77,h78,h79,h80,h81,h82,h83⟩:=K21.H.Qy w.params
   obtain⟨h84,h85,h86,h87,h88⟩:=K21.H.Q6 w.params
   exact K21.all_mk KX G hmg h0 h1 h2 h3 h4 h5 h6 h7 h8 h9 h10 h11 h12 h13 h14 h15 h16 h17 h18 h19 h20 h21 h22 h23 h24 h25 h26 h27 h28 h29 h30 h31 h32 h33 h34 h35 h36 h37 h38 h39 h40 h41 h42 h43 h44 h45 h46 h47 h48 h49 h50 h51 h52 h53 h54 h55 h56 h57 h58 h59 h60 h61 h62 h63 h64 h65 h66 h67 h68 h69 h70 h71 h72 h73 h74 h75 h76 h77 h78 h79 h80 h81 h82 h83 h84 h85 h86 h87.1 h87.2 h88.1 h88.2)
