import PyProof.Rows.All
import KE.KFind
import KE.KLam
import KE.KTryMore
import KE.LcSums
import KE.KRevSl
import Lean
import PyProof.DictCompW
import PyProof.DictTable
import PyProof.IsRules
import PyProof.SetKind
import PyProof.TupleKey
import PySem.SetTable
import PyProof.EnumMake
import PyProof.WalksEnum
import PyProof.Rows.SetFrom
import PyProof.SetRoads
import PySem.Challenge.RW_matefloors_k10_tiles_at_spots
set_option Elab.async false
set_option linter.all false
set_option maxRecDepth 100000
set_option maxHeartbeats 4000000
set_option genSizeOf false
set_option compiler.extract_closed false
set_option bootstrap.genMatcherCode false
local macro_rules|`(‹$q›)=>`({nx:=fun _ y=>$q (.v .none) y,rt:=$q})
set_option genInjectivity false
local macro_rules | `(⋯) => `((by decide))
local macro_rules | `(∅) => `((by omega))
local macro_rules | `(nofun) => `((by decide +kernel))
local macro_rules | `(⟨⟩) => `((by kernel_rfl))
local macro_rules | `(tactic| walk_at "s") => `(tactic| exact ⟨rfl, rfl, rfl, by decide +kernel, rfl, by decide +kernel, by decide +kernel⟩)
local macro_rules | `(tactic| walk_at "b") => `(tactic| (intro _ _ _ _ _ _ us hl; first | exact (match us, hl with | [], _ => rfl) | exact (match us, hl with | [_], _ => rfl) | exact (match us, hl with | [_, _], _ => rfl) | exact (match us, hl with | [_, _, _], _ => rfl) | exact (match us, hl with | [_, _, _, _], _ => rfl) | exact (match us, hl with | [_, _, _, _, _], _ => rfl)))
open PySem.W (fnOf nsIn codeIn keepIn kitOne kia_one mg_of mg_none_of)
open List (map_append map_map mem_append_left filterMap_cons mem_cons_self mem_cons_of_mem mem_append_right append_nil length_take getElem?_append_right getElem?_append_left getElem?_map mem_of_getElem? length_append length_map size_toArray reverse_cons replicate_succ flatten_cons append_assoc nil_append map_nil map_cons length_cons getElem_mem getElem?_eq_none mem_append mem_cons getElem?_eq_getElem mem_singleton length_nil mem_map flatMap_cons mem_map_of_mem not_mem_nil lookup_cons take_length cons_append take_succ)
open Int (natAbs_mul le_of_lt mul_nonneg)
open Nat (lt_of_lt_of_le ne_of_lt lt_irrefl le_trans le_refl pow_succ zero_le le_of_lt_succ lt_or_ge not_lt_zero zero_add mul_le_mul lt_or_eq_of_le lt_succ_of_lt)
open Bool (false_eq_true and_eq_true xor_false false_xor true_xor)
open PySem.F (plainAttrs_list)
open Option (bind_some map_some join_some bind_none)
open PySem (mem_of_lookup)
namespace L2
open PySem PySem.W
def j6:Sem Fin->Bool
 |.choose ..=>false
 |.os ..=>false
 |_=>true
theorem MQ{den:Code->Sem Fin}{p:Program}{w:World}{os:OsState}{s s':Shared}{t t':Thread}(h:j6 t.cur=true)(e:step den p ⟨fun _ _=>0,w.params⟩ s t = .go s' t') :
  step den p w {s with os:=os} t = .go {s' with os:=os} t':=by
 obtain⟨heap,gens,drawn,toks,os0⟩:=s
 obtain⟨cur,code,pos,stack⟩:=t
 cases cur<;>simp only[step,finish,j6] at e h ⊢<;>(try (cases h;done))<;>(repeat' split at e)<;>simp_all<;>(try (obtain⟨rfl,rfl⟩:=e;simp_all))<;>(try (obtain⟨h1,h2⟩:=e;subst h1;rfl))
def qv(tb:String->Option Builtin)(p:Program)(P:Params)(lw:Nat)(ann:Option Value):Nat->Shared->Thread->Option Shared
 |0,_,_=>none
 |n+1,s,t=>match through t with
  |true=>some s
  |false=>match stepOk lw ann t&&j6 t.cur with
   |false=>none
   |true=>match step (denote tb) p ⟨fun _ _=>0,P⟩ s t with
    |.go s' t'=>qv tb p P lw ann n s' t'
    |.halt _ _=>none
theorem uW{tb:String->Option Builtin}{p:Program}{w:World}{lw:Nat}{ann:Option Value}{os:OsState}:∀{n:Nat} {s s':Shared} {t:Thread},qv tb p w.params lw ann n s t=some s'->topRun tb p w lw ann n {s with os:=os} t=some {s' with os:=os}
 |0,_,_,_,h=>by cases h
 |n+1,s,s',t,h=>by
  unfold qv at h
  unfold topRun
  cases ht:through t with
  |true=>rw[ht] at h;cases h;rfl
  |false=>
   rw[ht] at h
   cases hk:(stepOk lw ann t&&j6 t.cur) with
   |false=>rw[hk] at h;cases h
   |true=>
    rw[hk] at h
    obtain⟨k1,k2⟩:=Bool.and_eq_true_iff.mp hk
    cases hs:step (denote tb) p ⟨fun _ _=>0,w.params⟩ s t with
    |halt o ii=>rw[hs] at h;cases h
    |go ii ul=>
     rw[hs] at h
     rw[k1,MQ (os:=os) k2 hs]
     exact uW h
noncomputable def uj(p:Program)(P:Params)(lw:Nat)(ann:Option Value):Nat->Shared->Thread->Option Shared
 |0,_,_=>none
 |n+1,s,t=>match through t with
  |true=>some s
  |false=>match Fast.tw6613529449190102663 lw ann t&&j6 t.cur with
   |false=>none
   |true=>match Fast.tw8437177126325714943 (Fast.tw11892475500146522536 Fast.tw14364793385576792824) p ⟨fun _ _=>0,P⟩ s t with
    |.go s' t'=>uj p P lw ann n s' t'
    |.halt _ _=>none
theorem uH{p:Program}{P:Params}{lw:Nat}{ann:Option Value}:∀(n:Nat) (s:Shared) (t:Thread),uj p P lw ann n s t=qv treeTable p P lw ann n s t
 |0,_,_=>rfl
 |n+1,s,t=>by
  unfold uj qv
  rw[<- Fast.te6613529449190102663,<- Fast.te8437177126325714943,<- Fast.te11892475500146522536,<- Fast.te14364793385576792824]
  cases through t with
  |true=>rfl
  |false=>
   cases (stepOk lw ann t&&j6 t.cur) with
   |false=>rfl
   |true=>
    cases step (denote treeTable) p ⟨fun _ _=>0,P⟩ s t with
    |halt o ii=>rfl
    |go ii ul=>exact uH n ii ul
end L2
namespace L2
open PySem
def je(s:Stmt):Arguments:=match s with
 |.FunctionDef _ a _ _ _ _ _ _ _ _=>a
 |_=>{posonlyargs:=[],args:=[],vararg:=none,kwonlyargs:=[],kw_defaults:=[],kwarg:=none,defaults:=[]}
def g0(s:Stmt):List Stmt:=match s with
 |.FunctionDef _ _ b _ _ _ _ _ _ _=>b
 |_=>[]
def aB(s:Stmt):Scope:=match s with
 |.FunctionDef _ _ _ _ _ _ sc _ _ _=>sc
 |_=>{kind:=.function,names:=[],isGenerator:=false,isCoroutine:=false}
end L2
namespace L2.DL
open PySem
def Ie:List Str:=["law","_law_is_right","_law_is_put","_law_are_refused","_law_is_told","_law_said","_law_is_plan_told"]
def cX(o:Obj):Option (Addr×Str):=match o.cls,o.data with
 |.type c,.fields vs=>if c = "code" then (match vs[1]?,vs[7]?,vs[9]?,vs[10]?,vs[11]?,vs[18]? with
  |some (Value.str q _),some (Value.int _ _),some (Value.bool _),some (Value.int _ _),some (Value.ref P),some (Value.str _ _)=>if Ie.contains q=true then some (P,q) else none
  |_,_,_,_,_,_=>none) else none
 |_,_=>none
end L2.DL
namespace K10
open PySem L2
def top(i:Nat):Stmt:=PySem.Challenge.pw_matefloors_k10_tiles_at_spots.main.body.getD i (.Pass ⟨0,0,0,0⟩)
abbrev fS:Stmt:=top 6
abbrev bV:Stmt:=top 7
abbrev eI:Stmt:=top 8
abbrev bW:Stmt:=top 9
abbrev j4:Stmt:=top 10
abbrev rp:Stmt:=top 11
abbrev iA:Stmt:=top 12
abbrev cm:Stmt:=top 13
abbrev fI:Stmt:=top 14
abbrev bN:Stmt:=top 15
abbrev ix:Stmt:=top 18
abbrev fW:Stmt:=top 19
abbrev eK:Stmt:=top 20
abbrev cQ:Stmt:=top 21
abbrev cD:Stmt:=top 22
abbrev cC:Stmt:=top 23
abbrev cR:Stmt:=top 24
abbrev eB:Stmt:=top 25
abbrev bU:Stmt:=top 26
abbrev dq:Stmt:=top 27
abbrev fV:Stmt:=top 28
abbrev fO:Stmt:=top 30
abbrev eC:Stmt:=top 31
abbrev eM:Stmt:=top 32
abbrev cS:Stmt:=top 33
abbrev cj:Stmt:=top 34
abbrev dy:Stmt:=top 35
abbrev eJ:Stmt:=top 36
abbrev eO:Stmt:=top 37
abbrev fY:Stmt:=top 38
abbrev cN:Stmt:=top 39
abbrev dJ:Stmt:=top 40
abbrev eu:Stmt:=top 41
abbrev eG:Stmt:=top 42
abbrev dw:Stmt:=top 43
abbrev dA:Stmt:=top 44
abbrev eL:Stmt:=top 45
abbrev bM:Stmt:=top 46
abbrev cP:Stmt:=top 47
abbrev eD:Stmt:=top 48
abbrev dD:Stmt:=top 49
abbrev cO:Stmt:=top 50
abbrev dF:Stmt:=top 51
abbrev dI:Stmt:=top 52
abbrev dO:Stmt:=top 53
abbrev cg:Stmt:=top 54
abbrev og:Stmt:=top 55
abbrev fd(n:Str)(s:Stmt)(tk:Tok)(m:Str)(cd:Addr):FuncData:=fnOf n n (je s) (g0 s) (aB s) .none .none .none (.str m tk) none (.ref cd) .none
noncomputable abbrev FQ(K:PySem.W.Frag)(n:Str)(s:Stmt)(a cd:Addr)(tk:Tok)(m:Str):Prop:=nsIn K mainGlobals n=some (some (.ref a))/\K.lookup a=some ⟨.type "function",none,.func (fd n s tk m cd),#[]⟩/\codeIn K (.ref cd) n=true/\keepIn K (.ref a)=true
end K10
namespace K10.H
open PySem PySem.W PyProof.Rows L2 L2.DL
set_option maxHeartbeats 0
abbrev R:OpenLaw:=PySem.Challenge.rw_matefloors_k10_tiles_at_spots
abbrev LO:List Str:=["has_form","has_form_layings","has_form_plans"]
noncomputable def sT(P:Params):Option Shared:=uj R.row.prog P 11 (some (.ref 6)) 20000 {heap:=boot_heap P,gens:=#[],drawn:=boot_drawn,toks:=boot_toks,os:=default} (topStub R.row.prog)
def defName:Stmt->Str
 |.FunctionDef n _ _ _ _ _ _ _ _ _=>n
 |_=>Str.empty
def Fo:Stmt->Int
 |.FunctionDef _ _ _ _ _ _ _ _ _ p=>Int.ofNat p.line
 |_=>0
def cn(o:Obj)(r:List Obj):List Obj:=o::r
def g(P:Params)(x:Str)(t:Nat)(v:Value):DictEntry:=⟨PyData.keyHash P x,.str x t,v⟩
def gf(P:Params)(i t a:Nat):DictEntry:=g P (defName (top i)) t (.ref a)
def tb:List (Int×Nat)->List Value
 |[]=>[]
 |(a,b)::l=>.int a 0::.int 0 0::.ref b::tb l
def tu(l:List Value):Obj:=⟨.type "tuple",none,.seq l.toArray 0,#[]⟩
def nf:Obj:=⟨.none,none,.fields #[],#[]⟩
def dp(s:Stmt):List Str:=(je s).args.map (·.arg)
def fd(s:Stmt)(a:Addr)(p c:Value):Data:=.func {name:=defName s,qualname:=defName s,params:=je s,body:=.stmts (g0 s),scope:=aB s,globals:=a,closure:=[],defaults:=.none,kwdefaults:=.none,pyModule:=p,code:=c}
def co(s:Stmt)(a t u:Nat)(x y:Value)(d:Nat):Obj:=⟨.type "code",none,.fields #[.str (defName s) t,.str (defName s) (t+1),.str "/claim/cut.py" (t+2),.int (Fo s) 0,.int (Int.ofNat (dp s).length) 0,.int 0 0,.int 0 0,.int 3 0,.ref a,.bool true,.int 181 0,.ref (a+1),.none,x,y,.ref (a+d),.int (Int.ofNat u) 0,.int (Fo s) 0,.str "/claim/cut.py" (u+1)],#[]⟩
def nv:Nat->List Str->List Value
 |_,[]=>[]
 |t,x::l=>.str x t::nv (t+1) l
def fB(i a t:Nat)(l:List Str)(p:Value)(r:List Obj):List Obj:=tu []::nf::tu (nv (t+3) (dp (top i)++l))::tu []::⟨.none,none,fd (top i) 0 .none .none,#[]⟩::co (top i) a t (t+3+(dp (top i)++l).length) (.ref (a+2)) (.ref (a+3)) 4::⟨.type "function",none,fd (top i) 3 p (.ref (a+5)),#[]⟩::r
def fL(i a t:Nat)(p:Value)(r:List Obj):List Obj:=tu []::nf::⟨.none,none,fd (top i) 0 .none .none,#[]⟩::co (top i) a t (t+3) .none .none 2::⟨.type "function",none,fd (top i) 3 p (.ref (a+3)),#[]⟩::r
def me:Value:=.str "matefloors.errors" 187
def cB(P:Params)(x:Str)(i t:Nat)(n:Int)(r:List Obj):List Obj:=tu [.ref 24]::⟨.type "builtin_function_or_method",none,.fields #[.builtin "type.__prepare__",.type "type"],#[]⟩::⟨.type "dict",none,.dict #[g P "__module__" (t+5) me,g P "__qualname__" (t+7) (.str x (t+6)),g P "__firstlineno__" (t+9) (.int n (t+8)),g P "__static_attributes__" (t+10) (.ref (i+7))] 4,#[]⟩::tu []::nf::⟨.type "code",none,.fields #[.str x t,.str x (t+1),.str "/claim/cut.py" (t+2),.int n 0,.int 0 0,.int 0 0,.int 0 0,.int 0 0,.ref (i+3),.bool false,.int 181 0,.ref (i+4),.none,.none,.none,.none,.int (Int.ofNat (t+3)) 0,.int n 0,.str "/claim/cut.py" (t+4)],#[]⟩::⟨.type "frame",none,.plain,#[some (.ref (i+5)),some (.ref 3),some (.ref (i+2)),none,some me,none,some (.ref 0)]⟩::tu []::⟨.type "dict",none,.dict #[g P "__module__" (t+5) me,g P "__firstlineno__" (t+9) (.int n (t+8)),g P "__static_attributes__" (t+10) (.ref (i+7)),g P "__doc__" (t+11) .none] 2,#[]⟩::⟨.type "type",none,.cls ⟨x,[.ref 24],[.ref (i+9),.ref 24,.type "ValueError",.type "Exception",.type "BaseException",.type "object"],i+8,x,true,[],[],false,none,false⟩,#[some (.ref i),none,some (.str x (t-2)),some (.str x (t+6)),some (.builtin "ValueError.__new__"),some (.bool true)]⟩::⟨.type "super",none,.fields #[.ref (i+9),.ref (i+9),.ref (i+9)],#[]⟩::⟨.type "builtin_function_or_method",none,.fields #[.builtin "object.__init_subclass__",.ref (i+9)],#[]⟩::r
def m0:Value:=.str "matefloors.numbers" 239
def m1:Value:=.str "matefloors.layings" 334
def m2:Value:=.str "law_matefloors_k10_tiles_at_spots" 439
noncomputable def ho0(P:Params)(r:List Obj):List Obj:=cn (boot_o_0 P) <| cn (boot_o_1 P) <| cn (boot_o_2 P) <| cn (⟨.type "dict",none,.dict #[g P "__name__" 165 (.str "law_matefloors_k10_tiles_at_spots" 439),g P "__doc__" 166 .none,g P "__package__" 167 .none,g P "__loader__" 168 (.builtin "__main__.__loader__#opaque"),g P "__spec__" 169 .none,g P "__annotations__" 170 (.ref 6),g P "__builtins__" 171 (.ref 4),g P "__file__" 173 (.str "/claim/cut.py" 172),g P "__cached__" 174 .none,g P "FloorError" 206 (.ref 24),g P "NoNumber" 222 (.ref 37),g P "NoLaying" 238 (.ref 49),g P "NOUGHT" 244 (.ref 52),gf P 6 251 59,gf P 7 259 66,gf P 8 269 73,gf P 9 278 80,gf P 10 288 87,gf P 11 296 94,gf P 12 304 101,gf P 13 314 108,gf P 14 325 115,gf P 15 333 122,g P "MOST_TILES" 337 (.int 60 336),gf P 18 349 129,gf P 19 355 134,gf P 20 366 141,gf P 21 378 148,gf P 22 389 155,gf P 23 397 162,gf P 24 403 167,gf P 25 409 172,gf P 26 417 179,gf P 27 432 186,gf P 28 438 191,gf P 30 452 198,gf P 31 458 203,gf P 32 467 210,gf P 33 478 217,gf P 34 484 222,gf P 35 504 229,gf P 36 513 236,gf P 37 521 243,gf P 38 531 250,gf P 39 539 257,gf P 40 545 262,gf P 41 556 269,gf P 42 567 276,gf P 43 574 283,gf P 44 580 288,gf P 45 588 295,gf P 46 596 302,gf P 47 613 309,gf P 48 624 316,gf P 49 646 323,gf P 50 658 330,gf P 51 667 337,gf P 52 681 344,gf P 53 690 351,gf P 54 697 358,gf P 55 703 363] 61,#[]⟩) <| cn (boot_o_4 P) <| cn (boot_o_5 P) <| cn (boot_o_6 P) <| cn (boot_o_7 P) <| cn (boot_o_8 P) <| cn (boot_o_9 P) <| cn (boot_o_10 P) <| cn (⟨(.type "tuple"),none,(.seq #[] 0),#[]⟩) <| cn (⟨.none,none,.fields (tb [(2,20),(4,33),(6,45),(10,58),(12,65),(16,72),(23,79),(25,86),(32,93),(34,100),(36,107),(45,114),(49,121),(53,128),(60,133),(69,140),(72,147),(82,154),(89,161),(91,166),(102,171),(110,178),(113,185),(117,190),(123,197),(133,202),(138,209),(145,216),(151,221),(157,228),(164,235),(169,242),(171,249),(174,256),(179,261),(184,268),(194,275),(200,282),(202,287),(205,294),(207,301),(214,308),(227,315),(232,322),(243,329),(249,336),(251,343),(256,350),(258,357),(260,362)]).toArray,#[]⟩) <| cn (⟨(.type "code"),none,(.fields #[(.str "<module>" 182),(.str "<module>" 183),(.str "/claim/cut.py" 184),(.int 1 0),(.int 0 0),(.int 0 0),(.int 0 0),(.int 0 0),(.ref 11),(.bool false),(.int 181 0),(.ref 12),.none,.none,.none,.none,(.int 185 0),(.int 1 0),(.str "/claim/cut.py" 186)]),#[]⟩) <| cn (⟨(.type "frame"),none,.plain,#[some (.ref 13),some (.ref 3),some (.ref 3),none,some (.str "__main__" 164),none,some (.ref 0)]⟩) <| cn (⟨(.type "tuple"),none,(.seq #[(.type "ValueError")] 0),#[]⟩) <| cn (⟨(.type "builtin_function_or_method"),none,(.fields #[(.builtin "type.__prepare__"),(.type "type")]),#[]⟩) <| cn (⟨(.type "dict"),none,(.dict #[⟨PyData.keyHash P "__module__",(.str "__module__" 196),(.str "matefloors.errors" 187)⟩,⟨PyData.keyHash P "__qualname__",(.str "__qualname__" 198),(.str "FloorError" 197)⟩,⟨PyData.keyHash P "__firstlineno__",(.str "__firstlineno__" 200),(.int 2 199)⟩,⟨PyData.keyHash P "__static_attributes__",(.str "__static_attributes__" 201),(.ref 22)⟩] 4),#[]⟩) <| cn (⟨(.type "tuple"),none,(.seq #[] 0),#[]⟩) <| cn (⟨.none,none,(.fields #[]),#[]⟩) <| r
noncomputable def ho1(P:Params)(r:List Obj):List Obj:=cn (⟨(.type "code"),none,(.fields #[(.str "FloorError" 191),(.str "FloorError" 192),(.str "/claim/cut.py" 193),(.int 2 0),(.int 0 0),(.int 0 0),(.int 0 0),(.int 0 0),(.ref 18),(.bool false),(.int 181 0),(.ref 19),.none,.none,.none,.none,(.int 194 0),(.int 2 0),(.str "/claim/cut.py" 195)]),#[]⟩) <| cn (⟨(.type "frame"),none,.plain,#[some (.ref 20),some (.ref 3),some (.ref 17),none,some (.str "matefloors.errors" 187),none,some (.ref 0)]⟩) <| cn (⟨(.type "tuple"),none,(.seq #[] 0),#[]⟩) <| cn (⟨(.type "dict"),none,(.dict #[⟨PyData.keyHash P "__module__",(.str "__module__" 196),(.str "matefloors.errors" 187)⟩,⟨PyData.keyHash P "__firstlineno__",(.str "__firstlineno__" 200),(.int 2 199)⟩,⟨PyData.keyHash P "__static_attributes__",(.str "__static_attributes__" 201),(.ref 22)⟩,⟨PyData.keyHash P "__weakref__",(.str "__weakref__" 203),(.ref 25)⟩,⟨PyData.keyHash P "__doc__",(.str "__doc__" 204),.none⟩] 3),#[]⟩) <| cn (⟨(.type "type"),none,(.cls ⟨"FloorError",[(.type "ValueError")],[(.ref 24),(.type "ValueError"),(.type "Exception"),(.type "BaseException"),(.type "object")],23,"FloorError",true,[],[(.ref 37),(.ref 49)],false,none,false⟩),#[some (.ref 15),none,some (.str "FloorError" 189),some (.str "FloorError" 197),some (.builtin "ValueError.__new__"),some (.bool true)]⟩) <| cn (⟨(.type "getset_descriptor"),none,(.fields #[(.str "__weakref__" 202),(.ref 24),(.builtin "ExceptionGroup.__weakref__"),.none]),#[]⟩) <| cn (⟨(.type "super"),none,(.fields #[(.ref 24),(.ref 24),(.ref 24)]),#[]⟩) <| cn (⟨(.type "builtin_function_or_method"),none,(.fields #[(.builtin "object.__init_subclass__"),(.ref 24)]),#[]⟩) <| cB P "NoNumber" 28 209 4 <| cB P "NoLaying" 40 225 6 <| cn (⟨(.type "tuple"),none,(.seq #[(.int 0 241),(.int 0 242),(.int 1 243)] 0),#[]⟩) <| fB 6 53 245 [] m0 <| fB 7 60 252 [] m0 <| fB 8 67 260 ["a","b","c"] m0 <| fB 9 74 270 [] m0 <| fB 10 81 279 ["divisor"] m0 <| fB 11 88 289 [] m0 <| fB 12 95 297 [] m0 <| fB 13 102 305 ["prevailing"] m0 <| fB 14 109 315 ["a","b"] m0 <| r
noncomputable def ho2(P:Params)(r:List Obj):List Obj:=fB 15 116 326 [] m0 <| fB 18 123 338 ["x","y","width","height"] m1 <| fL 19 130 350 m1 <| fB 20 135 356 ["x","y","width","height"] m1 <| fB 21 142 367 ["low","high","middle"] m1 <| fB 22 149 379 ["marks","x","place"] m1 <| fB 23 156 390 [] m1 <| fL 24 163 398 m1 <| fL 25 168 404 m1 <| fB 26 173 410 [] m1 <| fB 27 180 418 ["left","right","bottom","top","beyond"] m1 <| fL 28 187 433 m1 <| fB 30 192 441 ["_law_cell","_law_great","_law_primes","_law_mixed_here"] m2 <| fL 31 199 453 m2 <| fB 32 204 459 ["_law_digit"] m2 <| fB 33 211 468 ["_law_columns","_law_rows","_law_blocks_here"] m2 <| fL 34 218 479 m2 <| fB 35 223 485 ["_law_xs","_law_ys","_law_tiles","_law_column","_law_row","_law_wide","_law_high","_law_width","_law_height"] m2 <| fB 36 230 505 ["_law_found","_law_side_here"] m2 <| fB 37 237 514 [] m2 <| r
noncomputable def ho3(P:Params)(r:List Obj):List Obj:=fB 38 244 522 ["_law_common"] m2 <| fB 39 251 532 [] m2 <| fL 40 258 540 m2 <| fB 41 263 546 ["_law_x","_law_sign_here"] m2 <| fB 42 270 557 ["_law_first","_law_second","_law_sides_here"] m2 <| fB 43 277 568 [] m2 <| fL 44 284 575 m2 <| fB 45 289 581 [] m2 <| fB 46 296 589 ["_law_draw"] m2 <| fB 47 303 597 ["_law_met","_law_found","_law_most","_law_row","_law_column","_law_wide","_law_high","_law_k"] m2 <| fB 48 310 614 ["_law_found"] m2 <| fB 49 317 625 ["_law_width","_law_height","_law_tiles","_law_half","_law_found","_law_turn","_law_x","_law_y","_law_w","_law_h","_law_parts","_law_across","_law_up"] m2 <| fB 50 324 647 ["_law_wide","_law_a","_law_b","_law_c","_law_way"] m2 <| fB 51 331 659 [] m2 <| fB 52 338 668 ["_law_left","_law_low_here","_law_w","_law_h"] m2 <| fB 53 345 682 [] m2 <| fB 54 352 691 [] m2 <| fL 55 359 698 m2 <| r
noncomputable def hT(P:Params):Heap:=⟨⟨ho0 P <| ho1 P <| ho2 P <| ho3 P []⟩,(boot_heap P).life⟩
abbrev mz0:Str:="matefloors.numbers"
abbrev mz1:Str:="matefloors.layings"
abbrev mz2:Str:="law_matefloors_k10_tiles_at_spots"
def isNm:Stmt->Bool
 |.Assign [.Name x _] _ _=>x == "__name__"
 |_=>false
def V:Program:={R.row.prog with main:={R.row.prog.main with body:=R.row.prog.main.body.filter fun s=>!isNm s}}
def as:List Addr:=[3,59,58,66,65,73,72,80,79,87,86,94,93,101,100,108,107,115,114,122,121,129,128,134,133,141,140,148,147,155,154,162,161,167,166,172,171,179,178,186,185,191,190,198,197,203,202,210,209,217,216,222,221,229,228,236,235,243,242,250,249,257,256,262,261,269,268,276,275,283,282,288,287,295,294,302,301,309,308,316,315,323,322,330,329,337,336,344,343,351,350,358,357,363,362,52]
def tabs:List Addr:=[360]
noncomputable def K(P:Params):Frag:=as.map fun a=>(a,((hT P).get? a).getD default)
noncomputable def TF(P:Params):Frag:=tabs.map fun a=>(a,((hT P).get? a).getD default)
noncomputable def KF(P:Params):Frag:=K P++TF P
theorem kAs(P:Params):as++tabs=(KF P).map (·.1):=by
 unfold KF K TF
 rw[map_append,map_map,map_map]
 exact congr (congrArg HAppend.hAppend (List.map_id _).symm) (List.map_id _).symm
noncomputable def HK:Hook:=kHook KF (as++tabs) kAs
def posOf:Stmt->Pos
 |.FunctionDef _ _ _ _ _ _ _ _ _ p=>p
 |_=>⟨0,0,0,0⟩
def D:DefRec:=⟨"law",je K10.og,g0 K10.og,aB K10.og,posOf K10.og⟩
def Xt:Shared->Bool:=fun s=>xlAt V [] s&&recOk R.row.records s
theorem runC(P:Params):(sT P).map (fun s=>(s.heap,s.gens,s.drawn,s.toks))=some (hT P,#[],{},704):=⟨⟩
theorem P2{A B C D:Type}{a a':A}{b b':B}{c c':C}{d d':D}(h:(a,b,c,d)=(a',b',c',d')):a=a'/\b=b'/\c=c'/\d=d':=by
 cases h;exact⟨rfl,rfl,rfl,rfl⟩
theorem run(w:World)(os:OsState):topRun treeTable R.row.prog w 11 (some (.ref 6)) 20000 {heap:=boot_heap w.params,gens:=#[],drawn:=boot_drawn,toks:=boot_toks,os:=os} (topStub R.row.prog)=some {heap:=hT w.params,gens:=#[],drawn:={},toks:=704,os:=os}:=by
 have h:=runC w.params
 cases e:sT w.params with
 |none=>rw[e] at h;cases h
 |some s=>
  rw[e] at h
  obtain⟨heap,gens,drawn,toks,os0⟩:=s
  have h':some (heap,gens,drawn,toks)=some (hT w.params,(#[]:Array GenState),({}:Drawn),704):=h
  obtain⟨rfl,rfl,rfl,rfl⟩:=P2 (Option.some.inj h')
  exact uW (w:=w) (os:=os) ((uH _ _ _).symm.trans e)
theorem OK(w:World)(os:OsState):(staticsOk (importedModules R.row.prog.main.body) (boot_heap w.params) (hT w.params)&&namesBound R.row.prog (hT w.params)&&gensDone {heap:=hT w.params,gens:=#[],drawn:={},toks:=704,os:=os}&&laidKept (boot_heap w.params) (hT w.params))=true:=⟨⟩
theorem NP(w:World)(os:OsState):seen (List.map (fun x=>x.name) (recsOf V)) (ownsOf V) [] {heap:=hT w.params,drawn:={},toks:=704,os:=os} = expectedOf V:=⟨⟩
theorem Nc(w:World)(os:OsState):(hT w.params).bltView=bltViewBooted:=⟨⟩
theorem NC(w:World)(os:OsState):((hT w.params).keysOk (looseW V LO) (List.map (fun x=>x.name) (recsOf V)) (List.map (fun x=>x.fst) (litsOf V)) (List.map (fun x=>x.name) (clssOf V (looseW V LO)))&&(hT w.params).accountedOkI (importedModules R.row.prog.main.body)&&(hT w.params).isNs mainGlobals&&(hT w.params).isNs builtinsNs&&tablesOk V (hT w.params)&&Xt {heap:=hT w.params,gens:=#[],drawn:={},toks:=704,os:=os}&&(if true=true then (#[]:Array GenState).size==0 else !leftWithCleanup (#[]:Array GenState)))=true:=⟨⟩
theorem NQ(w:World)(os:OsState):tabsOk V {heap:=hT w.params,gens:=#[],drawn:={},toks:=704,os:=os} = true:=⟨⟩
theorem NH(w:World)(os:OsState):pinSeenD V (drecsOf V) {heap:=hT w.params,gens:=#[],drawn:={},toks:=704,os:=os} = pinGoodD (drecsOf V):=⟨⟩
theorem N4(w:World)(os:OsState):plainSeenE V (looseW V LO) {heap:=hT w.params,gens:=#[],drawn:={},toks:=704,os:=os} = plainGoodE V (looseW V LO):=⟨⟩
theorem NB(w:World)(os:OsState):plainSeenD V LO {heap:=hT w.params,gens:=#[],drawn:={},toks:=704,os:=os} = plainGoodD V LO:=⟨⟩
theorem N7(w:World)(os:OsState):wideSeen V {heap:=hT w.params,gens:=#[],drawn:={},toks:=704,os:=os} = wideGood V:=⟨⟩
theorem N9(w:World)(os:OsState):clsSeenW V LO {heap:=hT w.params,gens:=#[],drawn:={},toks:=704,os:=os} = clsGoodW V LO:=⟨⟩
theorem OG{A B C D E F G H I:Type}{a a':A}{b b':B}{c c':C}{d d':D}{e e':E}{f f':F}{g g':G}{h h':H}{i i':I}(h0:a=a')(h1:b=b')(h2:c=c')(h3:d=d')(h4:e=e')(h5:f=f')(h6:g=g')(h7:h=h')(h8:i=i'):(a,b,c,d,e,f,g,h,i)=(a',b',c',d',e',f',g',h',i'):=by
 rw[h0,h1,h2,h3,h4,h5,h6,h7,h8]
theorem OC(w:World)(os:OsState):openSeen V LO (importedModules R.row.prog.main.body) Xt true {heap:=hT w.params,gens:=#[],drawn:={},toks:=704,os:=os} = openGood V LO:=OG (NP w os) (Nc w os) (NC w os) (NQ w os) (NH w os) (N4 w os) (NB w os) (N7 w os) (N9 w os)
theorem PD(w:World)(os:OsState):HK.obs {heap:=hT w.params,gens:=#[],drawn:={},toks:=704,os:=os} = HK.val w:=⟨⟩
theorem seen(w:World):(fun os=>(staticsOk (importedModules R.row.prog.main.body) (boot_heap w.params) (hT w.params)&&namesBound R.row.prog (hT w.params)&&gensDone {heap:=hT w.params,gens:=#[],drawn:={},toks:=704,os:=os}&&laidKept (boot_heap w.params) (hT w.params),
  openSeen V LO (importedModules R.row.prog.main.body) Xt true {heap:=hT w.params,gens:=#[],drawn:={},toks:=704,os:=os},HK.obs {heap:=hT w.params,gens:=#[],drawn:={},toks:=704,os:=os}))=fun _:OsState=>(true,openGood V LO,HK.val w):=
 funext fun os=>Prod.ext (OK w os) (Prod.ext (OC w os) (PD w os))
theorem lkb{a b:Bool}(x:a=true)(y:b=true):(a&&b)=true:=by rw[x,y];rfl
theorem wsA:(sreFenced R.row.prog.main&&((moduleNames R.row.prog.main.body).isEmpty || lookedIntoSs (moduleNames R.row.prog.main.body) R.row.prog.main.body))=true:=⟨⟩
theorem wsB:namesResolve R.row.prog=true:=⟨⟩
theorem wsC:R.row.prog.boundNames.all (fun n=>!worldNames.contains n)=true:=⟨⟩
theorem wsD:noRoadLSs {strict:=!(importedModules R.row.prog.main.body).all cThrough.contains,foot:=none,bare:=(["vars","dir","locals"]:List Str).filter (readsOut R.row.prog R.row.prog.main.body)} R.row.prog.main.body=true:=⟨⟩
theorem wsE:(namesMeet R.row.prog R.row.prog.main.body fun _ n=>attrL n)=true:=⟨⟩
theorem wsF:looksOpen R.row.prog=true:=lkb (lkb (lkb (lkb wsA wsB) wsC) wsD) wsE
theorem wsG:R.row.wellSaid=true:=by
 unfold OpenRow.wellSaid OpenRow.partSaid
 rw[wsF]
 kernel_rfl
theorem wsH:noClassBlock R.prog R.footing=true:=⟨⟩
theorem wsI:noRoadLSs {strict:=true,foot:=some R.bound',writes:=R.writes,may:=R.may} R.footing=true:=⟨⟩
theorem wsJ:R.namesIt=true:=⟨⟩
theorem wsK:R.bound'.all (fun n=>!builtinNamed n || R.about==[n] || !R.reads n)=true:=⟨⟩
theorem wsL:namesMeet R.prog R.footing (fun sc n=>(!(["type","isinstance","issubclass","getattr","hasattr"]:List Str).contains n || sc.names.lookup n==some .globalImplicit)&&(R.may != some n || sc.kind==.module || sc.names.lookup n==some .globalImplicit))=true:=⟨⟩
theorem wsM:namesMeet R.prog R.above (fun _ n=>!R.own.contains n)=true:=⟨⟩
theorem wsN:(namesMeet R.prog R.footing fun sc n=>sc.kind==.module || sc.names.lookup n != some .globalExplicit)=true:=⟨⟩
theorem ws:R.wellSaid=true:=by
 unfold OpenLaw.wellSaid
 rw[wsG,wsH,wsI,wsJ,wsK,wsL,wsM,wsN]
 kernel_rfl
theorem MN(P:Params):FQ (K P) "is_whole" fS 59 58 239 mz0/\FQ (K P) "common_divisor" bV 66 65 239 mz0/\FQ (K P) "is_number" eI 73 72 239 mz0/\FQ (K P) "divisor_of_all" bW 80 79 239 mz0/\FQ (K P) "number" j4 87 86 239 mz0/\FQ (K P) "plus" rp 94 93 239 mz0/\FQ (K P) "sign_of" iA 101 100 239 mz0/\FQ (K P) "sign_of_parts" cm 108 107 239 mz0/\FQ (K P) "is_above" fI 115 114 239 mz0/\FQ (K P) "is_above_nought" bN 122 121 239 mz0/\FQ (K P) "is_tile" ix 129 128 334 mz1/\FQ (K P) "has_form" fW 134 133 334 mz1/\FQ (K P) "bounds_of" eK 141 140 334 mz1/\FQ (K P) "place_among" cQ 148 147 334 mz1:=
 by (repeat' apply And.intro)<;>first|kernel_rfl|decide
theorem Nl(P:Params):FQ (K P) "rising_marks" cD 155 154 334 mz1/\FQ (K P) "reaches_just" cC 162 161 334 mz1/\FQ (K P) "covers_once" cR 167 166 334 mz1/\FQ (K P) "is_laying" eB 172 171 334 mz1/\FQ (K P) "must_be_laying" bU 179 178 334 mz1/\FQ (K P) "holds_spot" dq 186 185 334 mz1/\FQ (K P) "tiles_at" fV 191 190 334 mz1/\FQ (K P) "_law_bag" fO 198 197 439 mz2/\FQ (K P) "_law_root" eC 203 202 439 mz2/\FQ (K P) "_law_take" eM 210 209 439 mz2/\FQ (K P) "_law_laying" cS 217 216 439 mz2/\FQ (K P) "_law_pinwheel" cj 222 221 439 mz2/\FQ (K P) "_law_floor" dy 229 228 439 mz2/\FQ (K P) "_law_ends" eJ 236 235 439 mz2:=
 by (repeat' apply And.intro)<;>first|kernel_rfl|decide
theorem Nk(P:Params):FQ (K P) "_law_plus" eO 243 242 439 mz2/\FQ (K P) "_law_low" fY 250 249 439 mz2/\FQ (K P) "_law_shared" cN 257 256 439 mz2/\FQ (K P) "_law_sides" dJ 262 261 439 mz2/\FQ (K P) "_law_side" eu 269 268 439 mz2/\FQ (K P) "_law_sign" eG 276 275 439 mz2/\FQ (K P) "_law_minus" dw 283 282 439 mz2/\FQ (K P) "_law_mixed" dA 288 287 439 mz2/\FQ (K P) "_law_less" eL 295 294 439 mz2/\FQ (K P) "_law_many_cells" bM 302 301 439 mz2/\FQ (K P) "_law_blocks" cP 309 308 439 mz2/\FQ (K P) "_law_room" eD 316 315 439 mz2/\FQ (K P) "_law_spots" dD 323 322 439 mz2/\FQ (K P) "_law_number" cO 330 329 439 mz2:=
 by (repeat' apply And.intro)<;>first|kernel_rfl|decide
theorem MZ(P:Params):FQ (K P) "_law_times" dF 337 336 439 mz2/\FQ (K P) "_law_is_at" dI 344 343 439 mz2/\FQ (K P) "_law_below" dO 351 350 439 mz2/\FQ (K P) "_law_is_whole" cg 358 357 439 mz2/\FQ (K P) "law" og 363 362 439 mz2/\nsIn (K P) mainGlobals "isinstance"=some none/\nsIn (K P) mainGlobals "int"=some none/\nsIn (K P) mainGlobals "bool"=some none/\nsIn (K P) mainGlobals "abs"=some none/\nsIn (K P) mainGlobals "tuple"=some none/\nsIn (K P) mainGlobals "len"=some none/\nsIn (K P) mainGlobals "all"=some none/\nsIn (K P) mainGlobals "set"=some none/\nsIn (K P) mainGlobals "range"=some none:=
 by (repeat' apply And.intro)<;>first|kernel_rfl|decide
theorem NN(P:Params):nsIn (K P) mainGlobals "enumerate"=some none/\nsIn (K P) mainGlobals "list"=some none/\nsIn (K P) mainGlobals "min"=some none/\nsIn (K P) mainGlobals "max"=some none/\nsIn (K P) mainGlobals "MOST_TILES"=some (some (.int 60 336))/\(nsIn (K P) mainGlobals "NOUGHT"=some (some (.ref 52))/\(K P).lookup 52=some ⟨.type "tuple",none,.seq #[.int 0 241,.int 0 242,.int 1 243] 0,#[]⟩):=
 by (repeat' apply And.intro)<;>first|kernel_rfl|decide
theorem L4(P:Params):((K P).filterMap fun p=>cX p.2)=[(360,("law":Str))]/\((K P).lookup 362).bind cX=some (360,("law":Str))/\(KF P).lookup 360=some (tabObj #[])/\(K P).lookup 360=none:=⟨⟨⟩,⟨⟩,⟨⟩,⟨⟩⟩
theorem N6(P:Params):((K P).filterMap fun p=>cX p.2)=[(360,("law":Str))]:=(L4 P).1
theorem IK(P:Params):((K P).lookup 362).bind cX=some (360,("law":Str)):=(L4 P).2.1
theorem OL{q2:Str}(h:((360:Addr),q2)∈([(360,("law":Str))]:List (Addr×Str))):q2 = "law":=by simpa using h
theorem FD(P:Params):(KF P).lookup 360=some (tabObj #[])/\(K P).lookup 360=none:=⟨(L4 P).2.2.1,(L4 P).2.2.2⟩
theorem left:LeftO R.row.prog V LO Xt HK.obs HK.val 20000:=
 LeftO.of_pieces (H₀:=boot_heap) (H₁:=hT) (gs₀:=#[]) (gs₁:=#[]) (d₀:=boot_drawn) (d₁:={}) (k₀:=boot_toks) (k₁:=704) (m₀:=11) (ann:=some (.ref 6)) (M:=20000)
  (boot_open ⟨⟩ ⟨⟩ (fun s=>⟨⟩)) (fun w=>⟨⟩) run ⟨⟩ seen
end K10.H
namespace L2
open PySem PySem.Spec PyProof.Rows
noncomputable def gu(A:Around)(h:Heap):Prop:=A.handled=none\/∃(e:Addr) (oe:Obj) (vs:Array Value),A.handled=some (.ref e)/\h.get? e=some oe/\oe.data = .fields vs/\vs[2]? = some .none
theorem xO:entryFor table "proto.unchain"=some Builtin.«proto.unchain»:=entryFor_of_tree ⟨⟩
section
variable {prog:Program}{w:World}{A:Around}{E:Value->Shared->Prop}{s:Shared}
theorem zT{x e:Addr}{oe:Obj}{vs:Array Value}{Q:Value->Shared->Prop}(he:s.heap.get? e=some oe)(hd:oe.data = .fields vs)(h2:vs[2]? = some .none)(h:Q .none s) :
  wpAny (model prog w) A (runValue (.builtin "proto.unchain" ⟨[.ref x,.ref e,.ref e,.bool false],[]⟩)) Q E s:=by
 refine wpAny_runValue (codeAny_builtin xO ?_)
 unfold Builtin.«proto.unchain»
 dsimp only
 refine wpAny_bind (wpAny_field he hd h2 ?_)
 rw[if_pos (by rfl)]
 exact wpAny_pure h
theorem vk{α:Type}{a:Addr}{oa:Obj}{ws:Array Value}{Q:α->Shared->Prop}(q:gu A s.heap)(ha:s.heap.get? a=some oa)(hda:oa.data = .fields ws)(hz:2<ws.size)
  (hnew:∀e oe,A.handled=some (.ref e)->s.heap.get? e=some oe->e≠a)
  (h:∀h',Heap.ExtBut a s.heap h'->(∃o',h'.get? a=some o'/\o'.cls=oa.cls)->E (.ref a) {s with heap:=h'}):wpAny (model prog w) A (raiseNew (.ref a):Sem α) Q E s:=by
 unfold raiseNew
 refine wpAny_bind (wpAny_handled ?_)
 rcases q with q|⟨e,oe,vs,q,he,hd,h2⟩
 ·rw[q]
  exact wpAny_bind (wpAny_pure (wpAny_throw (h s.heap (fun b o _ z=>z) ⟨oa,ha,rfl⟩)))
 ·rw[q]
  have ne:e≠a:=hnew e oe q he
  dsimp only
  rw[if_pos (by simp[ne])]
  refine wpAny_bind (wpAny_holding (zT he hd h2 ?_))
  refine wpAny_bind ?_
  refine wpAny_setField ha hda hz (wpAny_throw ?_)
  have hd':=Obj.data_mapFields hda (·.setIfInBounds 2 (Value.ref e))
  exact h _ (Heap.SameBut.update ..).extBut ⟨_,Heap.get?_update_self _ ha (Obj.isFreed_of_fields hd'),Obj.cls_mapFields ..⟩
theorem vp{it:Addr}{α:Type}{h0:Heap}{Q:α->Shared->Prop}(q:gu A s.heap)(k:Heap.ExtBut it h0 s.heap)(kl:∀e oe,A.handled=some (.ref e)->s.heap.get? e=some oe->True)
  (h:∀h' a,Heap.ExtBut it h0 h'->(∃o',h'.get? a=some o'/\o'.cls = .type "StopIteration")->E (.ref a) {s with heap:=h'}):wpAny (model prog w) A (newExc (.type "StopIteration") []>>=fun e=>(raiseNew e:Sem α)) Q E s:=by
 refine wpAny_bind ?_;simp only[newExc,newTuple]
 refine wpAny_bind (wpAny_newObj_type ?_ (by size_fits));refine wpAny_bind (m:=firstArgMember _ _) (wpAny_of_eq (a:=Value.none) (by first|rfl|(simp only[firstArgMember];rfl)) ?_);refine wpAny_newObj_type ?_ (by size_fits)
 have q':∀o1 o2:Obj,gu A ((s.heap.push o1).push o2):=fun o1 o2=>by
  rcases q with q|⟨e,oe,vs,q,he,r⟩
  ·exact .inl q
  ·exact .inr ⟨e,oe,vs,q,Heap.get?_push_of_some _ (Heap.get?_push_of_some _ he),r⟩
 refine vk (q' _ _) (Heap.get?_push_size _ rfl) rfl (by rw[Array.size_append];exact lt_of_lt_of_le (by decide:2<6) (Nat.le_add_right _ _)) (fun e oe hq he z=>?_) fun h' hx ⟨o',ho',hc'⟩=>h h' _ (fun b o hb e=>hx b o ?_ (Heap.get?_push_of_some _ (Heap.get?_push_of_some _ (k b o hb e)))) ⟨o',ho',hc'⟩
 ·rcases q with q|⟨e1,oe1,vs,q,he1,r⟩
  ·rw[q] at hq;cases hq
  ·rw[q] at hq;cases hq
   exact absurd (Heap.lt_size he1) (by rw[z];simp)
 ·exact ne_of_lt (lt_of_lt_of_le (Heap.lt_size (k b o hb e)) (by simp))
theorem pG{it:Addr}{o:Obj}{ws:Array Value}{f:Array Value->Array Value}(q:gu A s.heap)(ho:s.heap.get? it=some o)(hd:o.data = .fields ws)(hn:∀e,A.handled=some (.ref e)->e≠it):gu A (s.heap.update it (Obj.mapFields f)):=by
 rcases q with q|⟨e,oe,vs,q,he,r⟩
 ·exact .inl q
 ·exact .inr ⟨e,oe,vs,q,by rw[Heap.get?_update_other _ _ (Ne.symm (hn e q))];exact he,r⟩
theorem xk{it l:Addr}{i:Nat}{items}{Q:Option Value->Shared->Prop}(q:gu A s.heap)(hn:∀e,A.handled=some (.ref e)->e≠it)(hit:s.heap.IsListIter it l i)(hl:s.heap.IsList l items)(hx:items[i]? = none)
  (hQ:∀h',Heap.ExtBut it s.heap h'->Q none {s with heap:=h'}):wpAny (model prog w) A (pyNext (.ref it)) Q E s:=by
 obtain⟨o,ho,hc,hd⟩:=id hit
 obtain⟨ol,hol,_,nl,hdl⟩:=hl;unfold pyNext
 refine wpAny_bind (wpAny_attempt (wpAny_callSpecial?_slot (name:=Str.ofString "__next__") hit.typeIs slot_listiter_next (wpAny_call_entry slot_listiter_next hit.typeIs entry_listiter_next ?_ (args_listiter_next _))))
 show wpAny _ _ (field (.ref it) 0>>=_) _ _ s;refine wpAny_bind (wpAny_field ho hd (x:=.ref l) rfl ?_)
 show wpAny _ _ (if (Value.ref l==Value.none)=true then _ else _) _ _ s;rw[if_neg (show ¬ ((Value.ref l==Value.none)=true) from Bool.false_ne_true)]
 show wpAny _ _ (field (.ref it) 1>>=_) _ _ s;refine wpAny_bind (wpAny_field ho hd (x:=.int i 0) rfl ?_)
 show wpAny _ _ (seqItems? (.ref l)>>=_) _ _ s;refine wpAny_bind (wpAny_seqItems hol hdl ?_);simp only[Int.toNat_natCast,hx]
 refine wpAny_bind (wpAny_rule (wpAny_bind (wpAny_setField ho hd (by simp) ?_)))
 refine vp (it:=it) (h0:=s.heap) (A:=A.in1) (pG (A:=A.in1) q ho hd hn) (Heap.SameBut.update ..).extBut (fun _ _ _ _=>trivial) fun h' a hx' hq0=>?_
 obtain⟨o',ho',hc'⟩:=hq0
 refine wpAny_bind (wpAny_isInstance (T:="StopIteration") (b:=true) ⟨_,ho',hc'⟩ isSubtype_stop ?_);exact wpAny_pure (hQ _ hx')
theorem pS{it t:Addr}{i:Nat}{items}{Q:Option Value->Shared->Prop}(q:gu A s.heap)(hn:∀e,A.handled=some (.ref e)->e≠it)(hit:IsTupIter s.heap it t i)(ht:IsTup s.heap t items)(hx:items[i]? = none)
  (hQ:∀h',Heap.ExtBut it s.heap h'->Q none {s with heap:=h'}):wpAny (model prog w) A (pyNext (.ref it)) Q E s:=by
 obtain⟨o,ho,hc,hd⟩:=id hit
 obtain⟨ol,hol,_,nl,hdl⟩:=ht;unfold pyNext
 refine wpAny_bind (wpAny_attempt (wpAny_callSpecial?_slot (name:=Str.ofString "__next__") hit.typeIs slot_tupleiter_next (wpAny_call_entry slot_tupleiter_next hit.typeIs entry_tupleiter_next ?_ (args_tupleiter_next _))))
 show wpAny _ _ (field (.ref it) 0>>=_) _ _ s;refine wpAny_bind (wpAny_field ho hd (x:=.ref t) rfl ?_)
 show wpAny _ _ (if (Value.ref t==Value.none)=true then _ else _) _ _ s;rw[if_neg (show ¬ ((Value.ref t==Value.none)=true) from Bool.false_ne_true)]
 show wpAny _ _ (field (.ref it) 1>>=_) _ _ s;refine wpAny_bind (wpAny_field ho hd (x:=.int i 0) rfl ?_)
 show wpAny _ _ (seqItems? (.ref t)>>=_) _ _ s;refine wpAny_bind (wpAny_seqItems hol hdl ?_);simp only[Int.toNat_natCast,hx]
 refine wpAny_bind (wpAny_rule (wpAny_bind (wpAny_setField ho hd (by simp) ?_)))
 refine vp (it:=it) (h0:=s.heap) (A:=A.in1) (pG (A:=A.in1) q ho hd hn) (Heap.SameBut.update ..).extBut (fun _ _ _ _=>trivial) fun h' a hx' hq0=>?_
 obtain⟨o',ho',hc'⟩:=hq0
 refine wpAny_bind (wpAny_isInstance (T:="StopIteration") (b:=true) ⟨_,ho',hc'⟩ isSubtype_stop ?_);exact wpAny_pure (hQ _ hx')
theorem wV{env:Env}{elts:List Expr}{x1}{pos:Pos}{t:Addr}{items:Array Value}{Q:Unit->Shared->Prop}(q:gu A s.heap)(ht:IsTup s.heap t items)(hn:(assignEach elts env).length=items.size)
  (hstar:(assignEach elts env).findIdx? (·.1)=none) (h:∀h',Heap.ExtBut s.heap.objs.size s.heap h'->wpAny (model prog w) A (assignInOrder ((assignEach elts env).map (·.2)) items.toList) Q E {s with heap:=h'}) :
  wpAny (model prog w) A (assign (.Tuple elts x1 pos) env (.ref t)) Q E s:=by
 rw[assign_Tuple]
 refine wpAny_bind (wpAny_standAt ?_)
 unfold unpack;rw[hn,hstar]
 refine wpAny_bind (wpAny_holding ?_)
 have hlt:t≠s.heap.objs.size:=by obtain⟨o,ho,_⟩:=ht;exact ne_of_lt (Heap.lt_size ho)
 unfold unpackItems;refine wpAny_bind ?_
 unfold notIterableAtAll;refine wpAny_bind (wpAny_specialOf ht.typeIs slot_tuple_iter.lookup ?_);refine wpAny_pure ?_;simp only[false_eq_true,if_false]
 refine wpAny_bind (wpAny_holding (iter_tuple ht ?_))
 refine wpAny_bind (wpAny_holding (draw_tuple hlt items.size 0 _ _ ⟨_,Heap.get?_push_size _ rfl,rfl,rfl⟩ (ht.push _) ∅ fun dl v6 tz=>?_))
 rw[show List.take items.size (List.drop 0 items.toList)=items.toList from by rw[List.drop_zero];exact List.take_of_length_le (by simp),if_neg (by simp)]
 have fr:∀e,A.handled=some (.ref e)->e≠s.heap.objs.size:=fun e hq=>by
  rcases q with q|⟨e1,oe1,vs,q,he1,r⟩
  ·rw[q] at hq;cases hq
  ·rw[q] at hq;cases hq;exact ne_of_lt (Heap.lt_size he1)
 have q1:gu A dl:=by
  rcases q with q|⟨e,oe,vs,q,he,r⟩
  ·exact .inl q
  ·exact .inr ⟨e,oe,vs,q,tz.extBut e oe (fr e q) (Heap.get?_push_of_some _ he),r⟩
 refine wpAny_bind (wpAny_holding (pS q1 fr v6 ((ht.push _).extBut tz.extBut hlt) (by simp) fun po wp=>?_));simp only[Option.isSome_none,false_eq_true,if_false]
 exact wpAny_pure (h po fun b o hb e=>wp b o hb (tz.extBut b o hb (Heap.get?_push_of_some _ e)))
end
end L2
namespace L2
open PySem PySem.Spec PyProof.Rows
abbrev Key:=Sum Int Str
def Mt:Key->Value->Bool
 |.inl k,v=>Value.isInt k v
 |.inr x,v=>Value.isStrOf x v
def PX(w:World):Key->Int
 |.inl k=>hashInt k
 |.inr x=>hashStr w x
theorem cq:∀{k:Key} {v:Value},Mt k v=true->(∃i t,k=Sum.inl i/\v=Value.int i t)\/(∃x t,k=Sum.inr x/\v=Value.str x t)
 |.inl i,v,h=>by
  obtain⟨t,e⟩:=Value.isInt_shape (k:=i) (v:=v) h
  exact .inl ⟨i,t,rfl,e⟩
 |.inr x,v,h=>by
  obtain⟨t,e⟩:=Value.isStrOf_shape (x:=x) (v:=v) h
  exact .inr ⟨x,t,rfl,e⟩
theorem Np(a b:Int):decide ((Sum.inl a:Key)=Sum.inl b)=(a==b):=by
 by_cases e:a=b
 ·subst e;simp
 ·have h:¬ (Sum.inl a:Key)=Sum.inl b:=fun q=>e (Sum.inl.inj q)
  rw[decide_eq_false h]
  exact (beq_eq_false_iff_ne.mpr e).symm
theorem ML(a b:Str):decide ((Sum.inr a:Key)=Sum.inr b)=decide (a=b):=by
 by_cases e:a=b
 ·subst e;simp
 ·have h:¬ (Sum.inr a:Key)=Sum.inr b:=fun q=>e (Sum.inr.inj q)
  rw[decide_eq_false h,decide_eq_false e]
theorem MY(a:Int)(b:Str):decide ((Sum.inl a:Key)=Sum.inr b)=false:=decide_eq_false (fun q=>nomatch q)
theorem Oj(a:Str)(b:Int):decide ((Sum.inr a:Key)=Sum.inl b)=false:=decide_eq_false (fun q=>nomatch q)
def EX(prog:Program)(w:World):PySem.KeyKind prog w Key where
 is:=Mt
 hash:=PX w
 inj:=fun v a b ha hb=>by
  rcases cq ha with ⟨i,t,rfl,rfl⟩|⟨x,t,rfl,rfl⟩
  ·rcases cq hb with ⟨j,u,rfl,e⟩|⟨y,u,rfl,e⟩
   ·injection e with e1 _;rw[e1]
   ·exact nomatch e
  ·rcases cq hb with ⟨j,u,rfl,e⟩|⟨y,u,rfl,e⟩
   ·exact nomatch e
   ·injection e with e1 _;rw[e1]
 byValue:=fun k v h=>by
  rcases cq h with ⟨i,t,rfl,rfl⟩|⟨x,t,rfl,rfl⟩<;>rfl
 pyHash:=fun hv h=>by
  rcases cq hv with ⟨i,t,rfl,rfl⟩|⟨x,t,rfl,rfl⟩
  ·exact wpAny_pyHash_int h
  ·exact wpAny_pyHash_str h
 eqBool:=fun hu hv h=>by
  rcases cq hu with ⟨i,t,rfl,rfl⟩|⟨x,t,rfl,rfl⟩
  ·rcases cq hv with ⟨j,u,rfl,rfl⟩|⟨y,u,rfl,rfl⟩
   ·rw[Np] at h;exact wpAny_eqBool_int h
   ·rw[MY] at h;exact SeqAt.EqAt.int_str i t y u _ _ _ _ h
  ·rcases cq hv with ⟨j,u,rfl,rfl⟩|⟨y,u,rfl,rfl⟩
   ·rw[Oj] at h;exact SeqAt.EqAt.str_int x t j u _ _ _ _ h
   ·rw[ML] at h;exact wpAny_eqBool_str h
 «strs»:=fun k x t v h=>by
  rcases cq h with ⟨i,u,rfl,e⟩|⟨y,u,rfl,e⟩
  ·exact nomatch e
  ·injection e with e1 _
   subst e1
   cases v<;>rfl
end L2
namespace L2
open PySem PySem.Spec PyProof.Rows
inductive V where
 |non|bl (b:Bool)|int (i:Int)|str (x:Str)|byt (b:Array UInt8)|flt (b:UInt64)|ref (a:Addr)|ty (n:String)
 deriving DecidableEq
def RelV:V->Value->Prop
 |.non,u=>u=Value.none
 |.bl b,u=>u=Value.bool b
 |.int i,u=>∃t,u=Value.int i t
 |.str x,u=>∃t,u=Value.str x t
 |.byt b,u=>∃t,u=Value.bytes b t
 |.flt b,u=>∃t,u=Value.float b t
 |.ref a,u=>u=Value.ref a
 |.ty n,u=>u=Value.type n
abbrev Vals:List V->List Value->Prop:=Paired RelV
theorem Vals.length{xs:List V}{us:List Value}(r:Vals xs us):xs.length=us.length:=Paired.length r
theorem Vals.get:∀{xs:List V} {us:List Value} {i:Nat} {x:V},Vals xs us->xs[i]? = some x->∃u,us[i]? = some u/\RelV x u
 |_,_,_,_,.nil,e=>by simp at e
 |_,_,0,_,.cons r _,e=>by simp at e;subst e;exact⟨_,rfl,r⟩
 |_,_,i+1,x,.cons _ t,e=>by
  obtain⟨u,h1,h2⟩:=Vals.get (i:=i) (x:=x) t (by simpa using e)
  exact⟨u,by simpa using h1,h2⟩
theorem Vals.set{x:V}{u:Value}(r:RelV x u):∀{xs:List V} {us:List Value} (i:Nat),Vals xs us->Vals (xs.set i x) (us.set i u)
 |_,_,_,.nil=>.nil
 |_,_,0,.cons _ t=>.cons r t
 |_,_,i+1,.cons q t=>.cons q (Vals.set r i t)
theorem Vals.append:∀{xs ys:List V} {us ws:List Value},Vals xs us->Vals ys ws->Vals (xs++ys) (us++ws)
 |_,_,_,_,.nil,s=>s
 |_,_,_,_,.cons r t,s=>.cons r (Vals.append t s)
theorem Vals.take:∀{xs:List V} {us:List Value} (n:Nat),Vals xs us->Vals (xs.take n) (us.take n)
 |_,_,0,_=>.nil
 |_,_,_+1,.nil=>.nil
 |_,_,n+1,.cons r t=>.cons r (Vals.take n t)
theorem Vals.drop:∀{xs:List V} {us:List Value} (n:Nat),Vals xs us->Vals (xs.drop n) (us.drop n)
 |_,_,0,r=>r
 |_,_,_+1,.nil=>.nil
 |_,_,n+1,.cons _ t=>Vals.drop n t
def O5:Option V->Option Value->Prop
 |some v,some u=>RelV v u
 |none,none=>True
 |_,_=>False
def KV{κ:Type}:List (κ×V)->List (κ×Value)->Prop:=Paired fun (p:κ×V) (q:κ×Value)=>p.1=q.1/\RelV p.2 q.2
def kV:Key->V
 |.inl i=>.int i
 |.inr x=>.str x
inductive HO where
  /-- a list -/
 |lst (xs:List V)
  /-- a tuple (never changes) -/
 |tup (xs:List V)
  /-- a dict whose keys are ints and texts; one whose keys are tuples of ints and texts (the empty one is both) -/
 |dK (kvs:List (Key×V))|dT (kvs:List (List Key×V))
  /-- a set of ints: its members, its size -/
 |set (S:Int->Bool) (n:Nat)
  /-- an instance of the class at C, its dict at dx, its attributes -/
 |ins (C dx:Addr) (fs:List (Str×V))
  /-- the dict of the instance at x -/
 |own (x:Addr)
  /-- the dict of an exception -/
 |xd (fs:List (Str×V))
  /-- a bound method, f of x -/
 |met (f x:Addr)
  /-- a range object lo, lo + 1, .. below hi -/
 |rng (lo hi:Int)
  /-- a thing that is known to the object (the script; a dict while a loop walks it): read, never written while it is so -/
 |frz (o:Obj) (u:HO)
  /-- a code object's table -/
 |tbl (ps:Array Value)
  /-- any other thing, by what is true of its one object (a def of one's own: SetO a S n := HO.ext fun h => ..) -/
 |ext (φ:Heap->Prop)
  /-- the object itself; it may change -/
 |raw (o:Obj)
abbrev Hp:=Addr->Option HO
def upd(H:Hp)(a:Addr)(o:HO):Hp:=fun b=>if b=a then some o else H b
theorem dW{H:Hp}{a:Addr}{o:HO}:upd H a o a=some o:=by unfold upd;rw[if_pos rfl]
theorem aR{H:Hp}{a b:Addr}{o:HO}(h:b≠a):upd H a o b=H b:=by unfold upd;rw[if_neg h]
theorem aV{H:Hp}{a b:Addr}{o:HO}(h:H a=some o)(h':H b=none):a≠b:=by
 intro e;subst e;rw[h] at h';cases h'
section
variable (P:Program)(w:World)
def iI(H:Hp)(h:Heap)(a:Addr):HO->Prop
 |.lst xs=>xs.length<=sizeLine/\∃(its:List Value) (n:Nat),Vals xs its/\h.get? a=some {cls:=.type "list",data:=.seq its.toArray n}
 |.tup xs=>xs.length<=sizeLine/\∃its:List Value,Vals xs its/\IsTup h a its.toArray
 |.dK kvs=>kvs.length<=sizeLine/\(a==sysModules)=false/\∃vs,KV kvs vs/\h.DictOf (EX P w) a vs
 |.dT kvs=>kvs.length<=sizeLine/\(a==sysModules)=false/\∃xs:List (List Key×Addr×Value),
   Paired (fun (p:List Key×V) (q:List Key×Addr×Value)=>p.1=q.1/\H q.2.1=some (.tup (p.1.map kV))/\RelV p.2 q.2.2) kvs xs /\
   ∃o es ep,h.get? a=some o/\o.ExactDict/\o.data = .dict es ep/\es.toList=xs.map (entryOfKey (tupleKind (EX P w)))/\(xs.map (·.1)).Nodup
 |.set S n=>h.SetOf (intKind P w) a S n
 |.ins C dx fs=>H dx=some (.own a)/\fs.length<=1000/\dx≠a/\h.get? a=some (PySem.W.instObj C dx) /\
   ∃mA,h.Ns1 dx mA/\(∀f,O5 (fs.lookup f) (mA f))/\PySem.Within mA (fs.map (·.1))
 |.own _=>∃o,h.get? a=some o
 |.xd fs=>∃mA,h.Ns1 a mA/\∀f,O5 (fs.lookup f) (mA f)
 |.rng lo hi=>∃t u v,h.get? a=some {cls:=.type "range",data:=.fields #[.int lo t,.int hi u,.int 1 v]}
 |.frz o u=>h.get? a=some o/\iI H h a u
 |.tbl ps=>h.get? a=some {cls:=.none,data:=.fields ps}
 |.met f x=>h.get? a=some (PySem.W.methodObj (.ref f) (.ref x))
 |.ext φ=>φ h/\(∃o,h.get? a=some o)/\∀h1 h2:Heap,φ h1->(∀o,h1.get? a=some o->h2.get? a=some o)->φ h2
 |.raw o=>h.get? a=some o
noncomputable def HOk(H:Hp)(h:Heap):Prop:=∀a o,H a=some o->iI P w H h a o
end
section
variable {P:Program}{w:World}{H H':Hp}{h h':Heap}{a:Addr}{o:HO}
theorem iI.lt(x:iI P w H h a o):a<h.objs.size:=by
 cases o with
 |lst xs=>obtain⟨_,_,_,_,e⟩:=x;exact Heap.lt_size e
 |tup xs=>obtain⟨_,_,_,p⟩:=x;exact p.lt
 |dK kvs=>obtain⟨_,_,_,_,o,_,_,e,_⟩:=x;exact Heap.lt_size e
 |dT kvs=>obtain⟨_,_,_,_,o,_,_,e,_⟩:=x;exact Heap.lt_size e
 |set S n=>obtain⟨o,_,_,_,e,_⟩:=x;exact Heap.lt_size e
 |ins C dx fs=>obtain⟨_,_,_,e,_⟩:=x;exact Heap.lt_size e
 |own y=>obtain⟨_,e⟩:=x;exact Heap.lt_size e
 |xd fs=>obtain⟨_,⟨_,_,_,e,_⟩,_⟩:=x;exact Heap.lt_size e
 |rng lo hi=>obtain⟨_,_,_,e⟩:=x;exact Heap.lt_size e
 |frz ob u=>obtain⟨e,_⟩:=x;exact Heap.lt_size e
 |tbl ps=>exact Heap.lt_size (show h.get? a=some _ from x)
 |met f y=>exact Heap.lt_size (show h.get? a=some _ from x)
 |ext φ=>obtain⟨_,⟨_,e⟩,_⟩:=x;exact Heap.lt_size e
 |raw ob=>exact Heap.lt_size (show h.get? a=some ob from x)
theorem Paired.Lr{α β:Type}{F G:α->β->Prop}:∀{wf:List α} {v4:List β},Paired F wf v4->(∀a b,F a b->G a b)->Paired G wf v4
 |_,_,.nil,_=>.nil
 |_,_,.cons r t,f=>.cons (f _ _ r) (Paired.Lr t f)
theorem iI.pM(x:iI P w H h a o)(k:∀b u,(b=a\/H b=some (.own a))->h.get? b=some u->h'.get? b=some u)
  (ho:∀b,H b=some (.own a)->H' b=some (.own a)) (ht:∀b xs,H b=some (.tup xs)->H' b=some (.tup xs)):iI P w H' h' a o:=by
 induction o with
 |lst xs=>obtain⟨z,its,n,r,e⟩:=x;exact⟨z,its,n,r,k _ _ (.inl rfl) e⟩
 |tup xs=>obtain⟨z,its,r,ob,e,c⟩:=x;exact⟨z,its,r,ob,k _ _ (.inl rfl) e,c⟩
 |dK kvs=>obtain⟨z,y,vs,r,ob,es,ep,e,c⟩:=x;exact⟨z,y,vs,r,ob,es,ep,k _ _ (.inl rfl) e,c⟩
 |dT kvs=>
  obtain⟨z,y,xs,r,ob,es,ep,e,c⟩:=x
  exact⟨z,y,xs,Paired.Lr r fun p q z=>⟨z.1,ht _ _ z.2.1,z.2.2⟩,ob,es,ep,k _ _ (.inl rfl) e,c⟩
 |set S n=>obtain⟨ob,es,ep,t,e,c⟩:=x;exact⟨ob,es,ep,t,k _ _ (.inl rfl) e,c⟩
 |ins C dx fs=>
  obtain⟨d,z,ne,e,mA,⟨od,es,ep,e2,c⟩,r⟩:=x
  exact⟨ho _ d,z,ne,k _ _ (.inl rfl) e,mA,⟨od,es,ep,k _ _ (.inr d) e2,c⟩,r⟩
 |own y=>obtain⟨ob,e⟩:=x;exact⟨ob,k _ _ (.inl rfl) e⟩
 |xd fs=>obtain⟨mA,⟨od,es,ep,e,c⟩,r⟩:=x;exact⟨mA,⟨od,es,ep,k _ _ (.inl rfl) e,c⟩,r⟩
 |rng lo hi=>obtain⟨t,u,v,e⟩:=x;exact⟨t,u,v,k _ _ (.inl rfl) e⟩
 |frz ob u ih=>obtain⟨e,q⟩:=x;exact⟨k _ _ (.inl rfl) e,ih q⟩
 |tbl ps=>
  have e:h.get? a=some {cls:=.none,data:=.fields ps}:=x
  show h'.get? a=some {cls:=.none,data:=.fields ps}
  exact k a _ (.inl rfl) e
 |met f y=>
  have e:h.get? a=some (PySem.W.methodObj (.ref f) (.ref y)):=x
  show h'.get? a=some (PySem.W.methodObj (.ref f) (.ref y))
  exact k a _ (.inl rfl) e
 |raw ob=>
  have e:h.get? a=some ob:=x
  show h'.get? a=some ob
  exact k a _ (.inl rfl) e
 |ext φ=>obtain⟨p,⟨o,e⟩,st⟩:=x;exact⟨st _ _ p fun o q=>k _ _ (.inl rfl) q,⟨o,k _ _ (.inl rfl) e⟩,st⟩
theorem HOk.lt(x:HOk P w H h)(e:H a=some o):a<h.objs.size:=(x a o e).lt
theorem HOk.fresh(x:HOk P w H h)(e:h.objs.size<=a):H a=none:=by
 cases q:H a with
 |none=>rfl
 |some u=>exact absurd (lt_of_lt_of_le (x.lt q) e) (lt_irrefl _)
theorem HOk.kept(x:HOk P w H h)(k:∀b u,h.get? b=some u->h'.get? b=some u):HOk P w H h':=fun a o e=>
 (x a o e).pM (fun b u _ q=>k b u q) (fun _ q=>q) fun _ _ q=>q
theorem HOk.laid(x:HOk P w H h)(k:∀b u,h.get? b=some u->h'.get? b=some u)(hp:h.objs.size<=a)(new:iI P w (upd H a o) h' a o):HOk P w (upd H a o) h':=fun b u e=>by
 have hn:=x.fresh hp
 by_cases hb:b=a
 ·subst hb;rw[dW] at e;cases e;exact new
 ·rw[aR hb] at e
  exact (x b u e).pM (fun c v _ q=>k c v q) (fun c q=>by rw[aR (aV q hn)];exact q) fun c xs q=>by rw[aR (aV q hn)];exact q
end
noncomputable def Rd(H:Hp)(a:Addr)(u:HO):Prop:=H a=some u\/∃o,H a=some (.frz o u)
theorem Rd.ok{P:Program}{w:World}{H:Hp}{h:Heap}{a:Addr}{u:HO}(r:Rd H a u)(x:HOk P w H h):iI P w H h a u:=by
 rcases r with r|⟨o,r⟩
 ·exact x a u r
 ·obtain⟨_,q⟩:=x a _ r
  exact q
def Mut:Option HO->Prop
 |some (.lst _)=>True
 |some (.dK _)=>True
 |some (.dT _)=>True
 |some (.set _ _)=>True
 |some (.ins _ _ _)=>True
 |some (.ext _)=>True
 |some (.raw _)=>True
 |_=>False
section
variable {P:Program}{w:World}{H:Hp}{h h':Heap}{x e:Addr}{o':HO}
theorem HOk.write(ok:HOk P w H h)(mu:Mut (H x))(he:e=x\/H e=some (.own x))(k:∀b u,b≠e->h.get? b=some u->h'.get? b=some u)(heo:∃u,h'.get? e=some u)
  (new:iI P w (upd H x o') h' x o'):HOk P w (upd H x o') h':=fun b u q=>by
 have nown:∀c y,H c=some (.own y)->c≠x:=fun c y r z=>by subst z;rw[r] at mu;exact mu
 have ntup:∀c xs,H c=some (.tup xs)->c≠x:=fun c xs r z=>by subst z;rw[r] at mu;exact mu
 by_cases hb:b=x
 ·subst hb;rw[dW] at q;cases q;exact new
 ·rw[aR hb] at q
  by_cases hbe:b=e
  ·have q':H b=some (.own x):=by
    rcases he with z|z
    ·exact absurd (hbe.trans z) hb
    ·rw[hbe];exact z
   rw[q] at q';cases q'
   obtain⟨v,hv⟩:=heo
   exact⟨v,by rw[hbe];exact hv⟩
  ·refine (ok b u q).pM (fun c v hc r=>k c v ?_ r) (fun c r=>by rw[aR (nown c b r)];exact r) fun c xs r=>by rw[aR (ntup c xs r)];exact r
   rcases hc with rfl|hc
   ·exact hbe
   ·rintro rfl
    rcases he with z|z
    ·exact nown c b hc z
    ·rw[hc] at z;cases z;exact hb rfl
end
structure Un(fs ex:List Addr)(H H':Hp)(h h':Heap):Prop where
 keep:∀b o,h.get? b=some o->H b=none->b ∉ fs->b ∉ ex->h'.get? b=some o
 slot:∀b o,h.get? b=some o->H b=none->b∈fs->b ∉ ex->∃sl,h'.get? b=some {o with slots:=sl}
 free:∀b o,h.get? b=some o->H b=none->b ∉ ex->H' b=none
 there:∀b o,h.get? b=some o->b ∉ ex->∃o',h'.get? b=some o'
 tY:∀b xs,H b=some (.tup xs)->H' b=some (.tup xs)
 rj:∀b o u,H b=some (.frz o u)->H' b=some (.frz o u)
 rA:∀b ps,H b=some (.tbl ps)->∃more,H' b=some (.tbl (ps++more))
section
variable {fs fs' ex ex':List Addr}{H H1 H2:Hp}{h h1 h2 h':Heap}{a x e:Addr}{o:HO}
theorem Un.any(u:Un fs ex H H1 h h1){b:Addr}{ob:Obj}(q:h.get? b=some ob)(n:H b=none)(hx:b ∉ ex):∃sl,h1.get? b=some {ob with slots:=sl}:=by
 by_cases hb:b∈fs
 ·exact u.slot b ob q n hb hx
 ·exact⟨ob.slots,u.keep b ob q n hb hx⟩
theorem Un.trans(a:Un fs ex H H1 h h1)(b:Un fs ex H1 H2 h1 h2):Un fs ex H H2 h h2 where
 keep:=fun c ob q n hc hx=>b.keep c ob (a.keep c ob q n hc hx) (a.free c ob q n hx) hc hx
 slot:=fun c ob q n hc hx=>by
  obtain⟨sl,e1⟩:=a.slot c ob q n hc hx
  obtain⟨sl',e2⟩:=b.slot c _ e1 (a.free c ob q n hx) hc hx
  exact⟨sl',e2⟩
 free:=fun c ob q n hx=>by
  obtain⟨o',e1⟩:=a.there c ob q hx
  exact b.free c o' e1 (a.free c ob q n hx) hx
 there:=fun c ob q hx=>by
  obtain⟨o',e1⟩:=a.there c ob q hx
  exact b.there c o' e1 hx
 tY:=fun c xs q=>b.tY c xs (a.tY c xs q)
 rj:=fun c ob xs q=>b.rj c ob xs (a.rj c ob xs q)
 rA:=fun c ps q=>by
  obtain⟨m1,e1⟩:=a.rA c ps q
  obtain⟨m2,e2⟩:=b.rA c _ e1
  exact⟨m1++m2,by rw[e2,Array.append_assoc]⟩
theorem Un.kept(k:∀b u,h.get? b=some u->h'.get? b=some u):Un fs ex H H h h':=
 ⟨fun b ob q _ _ _=>k b ob q,fun b ob q _ _ _=>⟨ob.slots,k b ob q⟩,fun _ _ _ n _=>n,fun b ob q _=>⟨ob,k b ob q⟩,fun _ _ q=>q,fun _ _ _ q=>q,fun _ ps q=>⟨#[],by rw[q];simp⟩⟩
theorem Un.refl:Un fs ex H H h h:=Un.kept fun _ _ q=>q
theorem Un.laid(k:∀b u,h.get? b=some u->h'.get? b=some u)(hp:h.objs.size<=a)(hn:H a=none):Un fs ex H (upd H a o) h h' where
 keep:=fun b u q _ _ _=>k b u q
 slot:=fun b u q _ _ _=>⟨u.slots,k b u q⟩
 free:=fun b u q n _=>by rw[aR (ne_of_lt (lt_of_lt_of_le (Heap.lt_size q) hp))];exact n
 there:=fun b u q _=>⟨u,k b u q⟩
 tY:=fun b xs q=>by rw[aR (aV q hn)];exact q
 rj:=fun b u xs q=>by rw[aR (aV q hn)];exact q
 rA:=fun b ps q=>⟨#[],by rw[aR (aV q hn),q];simp⟩
theorem Un.write(mu:Mut (H x))(he:e=x\/H e=some (.own x))(k:∀b u,b≠e->h.get? b=some u->h'.get? b=some u)(heo:∃u,h'.get? e=some u):Un fs ex H (upd H x o) h h':=by
 have hx:∀b,H b=none->b≠x:=fun b n z=>by subst z;rw[n] at mu;exact mu
 have hb:∀b,H b=none->b≠e:=fun b n z=>by
  subst z
  rcases he with r|r
  ·exact hx b n r
  ·rw[n] at r;cases r
 have hm:∀b u,H b=some u->¬ Mut (some u)->b≠x:=fun b u q nm z=>by subst z;rw[q] at mu;exact nm mu
 refine⟨fun b u q n _ _=>k b u (hb b n) q,fun b u q n _ _=>⟨u.slots,k b u (hb b n) q⟩,fun b u q n _=>by rw[aR (hx b n)];exact n,fun b u q _=>?_,
  fun b xs q=>by rw[aR (hm b _ q fun z=>z)];exact q,fun b u xs q=>by rw[aR (hm b _ q fun z=>z)];exact q,fun b ps q=>⟨#[],by rw[aR (hm b _ q fun z=>z),q];simp⟩⟩
 by_cases hbe:b=e
 ·subst hbe;exact heo
 ·exact⟨u,k b u hbe q⟩
end
def trk(h:Heap)(H:Hp):List Addr:=(List.range h.objs.size).filter fun a=>(H a).isSome
def Ad(h:Heap)(H:Hp):Heap:=PySem.W.hideAll h (trk h H)
theorem Ht(h:Heap)(H:Hp):(Ad h H).objs.size=h.objs.size:=PySem.W.hideAll_size _ _
theorem Ki{h:Heap}{H:Hp}{b:Addr}{o:Obj}(e:h.get? b=some o)(n:H b=none):(Ad h H).get? b=some o:=
 PySem.W.hideAll_get _ e fun hm=>by
  have q:(H b).isSome=true:=(List.mem_filter.mp hm).2
  rw[n] at q;simp at q
theorem Ls{h:Heap}{H:Hp}{b:Addr}{o:Obj}(e:(Ad h H).get? b=some o):h.get? b=some o/\H b=none:=by
 have e':h.get? b=some o:=PySem.W.of_hideAll (trk h H) e
 refine⟨e',?_⟩
 cases q:H b with
 |none=>rfl
 |some x=>
  have hm:b∈trk h H:=List.mem_filter.mpr ⟨List.mem_range.mpr (Heap.lt_size e'),by simp[q]⟩
  have z:(Ad h H).get? b=none:=PySem.W.hideAll_none (trk h H) hm
  rw[z] at e;cases e
def LC(g h:Heap)(L:Addr):List (Addr×Obj):=(List.range h.objs.size).filterMap fun a=>if a=L\/(g.get? a).isSome=true then none else (h.get? a).map fun o=>(a,o)
def rest(g h:Heap)(L d:Addr):List (Addr×Obj):=(LC g h L).filter fun p=>decide (p.1≠d)
end L2
namespace L2
open PySem PySem.Spec PyProof.Rows
structure Mod(K:PySem.W.Frag)(mg:Str->Option Value)(base:Heap):Prop where
 kin:K.In base
 glob:base.Ns mainGlobals mg
 blt:∃mb,base.Ns builtinsNs mb/\∀x:Str,x ≠ "__name__"->mb x=bootBuiltins x
 nolimit:base.NoLimit
structure Cx where
 prog:Program
 w:World
 K:PySem.W.Frag
 mg:Str->Option Value
 base:Heap
 A:Around
 N:List Str
 im:Shared
 H₀:Hp
 env:Env
 outer:List Env
 stack:List Env
 ex:List Addr
 fn:Str->Bool
 calm:Bool
 pn:List (Addr×Obj)
 xe:Value->Shared->Prop
def frs(l:List Env):List Addr:=l.filterMap (·.frame)
abbrev Cx.fs(X:Cx):List Addr:=frs X.outer
noncomputable def Vis(sc:Scope)(x:Str):Prop:=sc.names.lookup x=some .local\/sc.names.lookup x=some .cell\/sc.names.lookup x=some .free
noncomputable def Loc(sc:Scope)(x:Str):Prop:=sc.names.lookup x=some .local\/sc.names.lookup x=some .cell
noncomputable def Look(env:Env)(h:Heap)(m:Str->Option Value)(x:Str)(u:Value):Prop:=
 (env.kindOf x=some .local/\m x=some u)\/((env.kindOf x=some .cell\/env.kindOf x=some .free)/\∃c,env.cells.lookup x=some c/\h.IsCell c (some u))
structure Cx.Ok(X:Cx):Prop where
 mod:Mod X.K X.mg X.base
 kind:X.env.scope.kind = .function
 glob:X.env.globals=mainGlobals
 blt:X.env.builtins=builtinsNs
 above:X.im.heap.objs.size<=X.env.locals
 inj:∀x y c,X.env.cells.lookup x=some c->X.env.cells.lookup y=some c->x=y
 has:∀x,(X.env.kindOf x=some .cell\/X.env.kindOf x=some .free)->∃c,X.env.cells.lookup x=some c
 cab:∀x c,X.fn x=true->X.env.cells.lookup x=some c->X.im.heap.objs.size<=c
 hd:X.calm=true->X.A.handled=none
 qt:X.A.handled=none\/∃(e:Addr) (oe:Obj) (vs:Array Value),X.A.handled=some (.ref e)/\(e,oe)∈X.pn/\oe.data = .fields vs/\vs[2]? = some .none
 frames:X.A.frames=some X.stack
 stk:X.stack=X.outer\/(X.stack=X.env::X.outer/\X.env.frame=some X.env.locals)
 exf:∀b∈X.ex,b≠X.env.locals/\∀x c,X.env.cells.lookup x=some c->c≠b
 bs:∀b o,X.base.get? b=some o->X.im.heap.get? b=some o/\X.H₀ b=none
 bsz:X.base.objs.size<=X.im.heap.objs.size
 A6:∀b o,X.base.get? b=some o->b ∉ X.ex
 KJ:∀b∈X.ex,b ∉ X.fs
 wm:X.im.heap.FunFrames X.base X.outer
 frf:∀b∈X.fs,X.H₀ b=none
structure Inv(X:Cx)(pins:List (Addr×Obj))(σ:List (Option V))(H:Hp)(s:Shared):Prop where
 ok:X.Ok
 os:s.os=X.im.os
 bare:AllBare s.gens
 base:Un X.fs X.ex X.H₀ H X.im.heap s.heap
 loc:∃m,s.heap.Ns X.env.locals m/\∀(i:Nat) (x:Str) (v:V),X.N[i]? = some x->σ[i]? = some (some v)->Vis X.env.scope x->∃u,RelV v u/\Look X.env s.heap m x u
 cell:∀x c,X.env.cells.lookup x=some c->∃v,s.heap.IsCell c v
 free:H X.env.locals=none
 jt:∀x c,X.env.cells.lookup x=some c->H c=none
 pin:∀p∈X.pn++pins,s.heap.get? p.1=some p.2/\H p.1=none/\p.1≠X.env.locals/\p.1 ∉ X.fs/\∀v,p.2.data≠.cell v
 hok:HOk X.prog X.w H s.heap
 len:σ.length=X.N.length
section
variable {X:Cx}{pins:List (Addr×Obj)}{σ:List (Option V)}{H H':Hp}{s:Shared}{h':Heap}
theorem Inv.Dy(I:Inv X pins σ H s):gu X.A s.heap:=by
 rcases I.ok.qt with q|⟨e,oe,vs,q,hp,r⟩
 ·exact .inl q
 ·exact .inr ⟨e,oe,vs,q,(I.pin (e,oe) (mem_append_left _ hp)).1,r⟩
theorem Inv.hne(I:Inv X pins σ H s){b:Addr}(hb:∀p∈X.pn++pins,p.1≠b):∀e,X.A.handled=some (.ref e)->e≠b:=fun e he=>by
 rcases I.ok.qt with q|⟨e1,oe,vs,q,hp,r⟩
 ·rw[q] at he;cases he
 ·rw[q] at he;cases he;exact hb (e,oe) (mem_append_left _ hp)
theorem Cx.Ok.Qq(ok:X.Ok){b:Addr}{o:Obj}(e:X.base.get? b=some o):b ∉ X.fs:=fun hb=>by
 have:=(ok.wm.mem hb).1
 rw[e] at this;cases this
theorem Inv.bs(I:Inv X pins σ H s):∀b o,X.base.get? b=some o->s.heap.get? b=some o/\H b=none:=fun b o e=>
 ⟨I.base.keep b o (I.ok.bs b o e).1 (I.ok.bs b o e).2 (I.ok.Qq e) (I.ok.A6 b o e),I.base.free b o (I.ok.bs b o e).1 (I.ok.bs b o e).2 (I.ok.A6 b o e)⟩
theorem Inv.bk(I:Inv X pins σ H s):∀b o,X.base.get? b=some o->s.heap.get? b=some o:=fun b o e=>(I.bs b o e).1
theorem Inv.mod(I:Inv X pins σ H s):Mod X.K X.mg X.base:=I.ok.mod
theorem Inv.kIn(I:Inv X pins σ H s):X.K.In s.heap:=I.ok.mod.kin.keeps I.bk
theorem Inv.lt(I:Inv X pins σ H s):X.env.locals<s.heap.objs.size:=let ⟨_,hn,_⟩:=I.loc;hn.lt
theorem Inv.sz(I:Inv X pins σ H s):X.im.heap.objs.size<=s.heap.objs.size:=le_trans I.ok.above (Nat.le_of_lt I.lt)
theorem Inv.Qm(I:Inv X pins σ H s){a:Addr}(h:s.heap.objs.size<=a):a ∉ X.fs:=fun hb=>by
 obtain⟨_,o,ho,_⟩:=I.ok.wm.mem hb
 exact absurd (lt_of_lt_of_le (Heap.lt_size ho) (le_trans I.sz h)) (lt_irrefl _)
theorem Inv.cne(I:Inv X pins σ H s):∀x c,X.env.cells.lookup x=some c->c≠X.env.locals:=fun x c e z=>by
 obtain⟨v,o,ho,hd⟩:=I.cell x c e
 obtain⟨m,⟨o',es,ep,ho',hd',_⟩,_⟩:=I.loc
 rw[z,ho'] at ho;cases ho;rw[hd'] at hd;cases hd
theorem Inv.wm(I:Inv X pins σ H s):s.heap.FunFrames X.base X.outer:=by
 have all:∀(l:List Env),(∀b∈frs l,b∈X.fs)->X.im.heap.FunFrames X.base l->s.heap.FunFrames X.base l:=by
  intro l
  induction l with
  |nil=>intro _ _;trivial
  |cons env r ih=>
   intro hs hl
   obtain⟨hk,⟨L,o,hf,hn,ho,hd⟩,hr⟩:=hl
   have hL:L∈X.fs:=hs L (by unfold frs;rw[filterMap_cons,hf];exact mem_cons_self)
   obtain⟨sl,e⟩:=I.base.slot L o ho (I.ok.frf L hL) hL fun z=>I.ok.KJ L z hL
   exact⟨hk,⟨L,_,hf,hn,e,hd⟩,ih (fun b hb=>hs b (by unfold frs;rw[filterMap_cons,hf];exact mem_cons_of_mem _ hb)) hr⟩
 exact all X.outer (fun _ hb=>hb) I.ok.wm
theorem Inv.stack(I:Inv X pins σ H s):s.heap.FunFrames X.base X.stack:=by
 rcases I.ok.stk with e|⟨e,hf⟩
 ·rw[e];exact I.wm
 ·rw[e]
  obtain⟨m,hn,_⟩:=I.loc
  refine .cons (by rw[I.ok.kind];decide) hf hn ?_ I.wm
  exact Heap.get?_none_of_le (le_trans I.ok.bsz I.ok.above)
theorem Inv.gO(I:Inv X pins σ H s):∀b∈frs X.stack,b∈X.env.locals::X.fs:=fun b hb=>by
 rcases I.ok.stk with e|⟨e,hf⟩
 ·rw[e] at hb;exact mem_cons_of_mem _ hb
 ·rw[e] at hb
  unfold frs at hb
  rw[filterMap_cons,hf] at hb
  exact hb
theorem Inv.nI(I:Inv X pins σ H s):∀b∈frs X.stack,H b=none:=fun b hb=>by
 rcases List.mem_cons.mp (I.gO b hb) with e|hb
 ·rw[e];exact I.free
 ·obtain⟨_,o,ho,_⟩:=I.ok.wm.mem hb
  exact I.base.free b o ho (I.ok.frf b hb) fun z=>I.ok.KJ b z hb
theorem Inv.step{g':Array GenState}{t':Nat}{d':Drawn}{ch:List Addr}(I:Inv X pins σ H s)
  (hch:∀b∈ch,(b∈X.ex\/X.im.heap.objs.size<=b)/\b≠X.env.locals/\(∀x c,X.env.cells.lookup x=some c->c≠b)/\∀p∈X.pn++pins,p.1≠b)
  (keep:∀b o,b≠X.env.locals->b ∉ X.fs->b ∉ ch->s.heap.get? b=some o->H b=none->h'.get? b=some o)
  (slot:∀b o,b≠X.env.locals->b∈X.fs->b ∉ ch->s.heap.get? b=some o->H b=none->∃sl,h'.get? b=some {o with slots:=sl}) (free:∀b o,b ∉ ch->s.heap.get? b=some o->H b=none->H' b=none)
  (there:∀b o,b ∉ ch->s.heap.get? b=some o->∃o',h'.get? b=some o')
  (tY:∀b xs,H b=some (.tup xs)->H' b=some (.tup xs)) (rj:∀b o u,H b=some (.frz o u)->H' b=some (.frz o u)) (rA:∀b ps,H b=some (.tbl ps)->∃more,H' b=some (.tbl (ps++more)))
  (ns:∀m,s.heap.Ns X.env.locals m->h'.Ns X.env.locals m) (hok:HOk X.prog X.w H' h') (hg:AllBare g') :
  Inv X pins σ H' {s with heap:=h',gens:=g',drawn:=d',toks:=t'}:=by
 have neL:∀b o,X.im.heap.get? b=some o->b≠X.env.locals:=fun b o e=>ne_of_lt (lt_of_lt_of_le (Heap.lt_size e) I.ok.above)
 have neC:∀b o,X.im.heap.get? b=some o->b ∉ X.ex->b ∉ ch:=fun b o e hx hb=>by
  rcases (hch b hb).1 with z|z
  ·exact hx z
  ·exact absurd (lt_of_lt_of_le (Heap.lt_size e) z) (lt_irrefl _)
 have cellK:∀x c,X.env.cells.lookup x=some c->∀v,s.heap.IsCell c v->h'.IsCell c v:=fun x c e v ⟨o,ho,hd⟩=>by
  have nch:c ∉ ch:=fun z=>(hch c z).2.2.1 x c e rfl
  by_cases hc:c∈X.fs
  ·obtain⟨sl,q⟩:=slot c o (I.cne x c e) hc nch ho (I.jt x c e)
   exact⟨_,q,hd⟩
  ·exact⟨o,keep c o (I.cne x c e) hc nch ho (I.jt x c e),hd⟩
 refine⟨I.ok,I.os,hg,⟨fun b o e n hb hx=>?_,fun b o e n hb hx=>?_,fun b o e n hx=>?_,fun b o e hx=>?_,fun b xs e=>tY b xs (I.base.tY b xs e),fun b o xs e=>rj b o xs (I.base.rj b o xs e),fun b ps e=>?_⟩,?_,fun x c e=>?_,?_,fun x c e=>?_,fun p hp=>?_,hok,I.len⟩
 ·exact keep b o (neL b o e) hb (neC b o e hx) (I.base.keep b o e n hb hx) (I.base.free b o e n hx)
 ·obtain⟨sl,e1⟩:=I.base.slot b o e n hb hx
  obtain⟨sl',e2⟩:=slot b _ (neL b o e) hb (neC b o e hx) e1 (I.base.free b o e n hx)
  exact⟨sl',e2⟩
 ·obtain⟨o',e1⟩:=I.base.there b o e hx
  exact free b o' (neC b o e hx) e1 (I.base.free b o e n hx)
 ·obtain⟨o',e1⟩:=I.base.there b o e hx
  exact there b o' (neC b o e hx) e1
 ·obtain⟨m1,e1⟩:=I.base.rA b ps e
  obtain⟨m2,e2⟩:=rA b _ e1
  exact⟨m1++m2,by rw[e2,Array.append_assoc]⟩
 ·obtain⟨m,hn,hl⟩:=I.loc
  refine⟨m,ns m hn,fun i x v e1 e2 e3=>?_⟩
  obtain⟨u,r,l⟩:=hl i x v e1 e2 e3
  refine⟨u,r,?_⟩
  rcases l with l|⟨k,c,e,z⟩
  ·exact .inl l
  ·exact .inr ⟨k,c,e,cellK x c e _ z⟩
 ·obtain⟨v,z⟩:=I.cell x c e
  exact⟨v,cellK x c e v z⟩
 ·obtain⟨m,⟨o,_,_,ho,_⟩,_⟩:=I.loc
  exact free _ o (fun z=>(hch _ z).2.1 rfl) ho I.free
 ·obtain⟨v,o,ho,hd⟩:=I.cell x c e
  exact free c o (fun z=>(hch c z).2.2.1 x c e rfl) ho (I.jt x c e)
 ·obtain⟨e,n,ne,nf,d⟩:=I.pin p hp
  have nch:p.1 ∉ ch:=fun z=>(hch p.1 z).2.2.2 p hp rfl
  exact⟨keep p.1 p.2 ne nf nch e n,free p.1 p.2 nch e n,ne,nf,d⟩
theorem Inv.un{t':Nat}(I:Inv X pins σ H s)(u:Un X.fs [] H H' s.heap h')(hok:HOk X.prog X.w H' h'):Inv X pins σ H' {s with heap:=h',toks:=t'}:=by
 obtain⟨m,⟨o,es,ep,ho,r⟩,_⟩:=id I.loc
 obtain⟨sl,hL⟩:=u.any ho I.free (by simp)
 exact I.step (g':=s.gens) (d':=s.drawn) (ch:=[]) (fun _ z=>nomatch z) (fun b o _ hb _ e n=>u.keep b o e n hb (by simp)) (fun b o _ hb _ e n=>u.slot b o e n hb (by simp)) (fun b o _ e n=>u.free b o e n (by simp)) (fun b o _ e=>u.there b o e (by simp)) u.tY u.rj u.rA (fun m' hm=>by
  obtain⟨o',es',ep',ho',r'⟩:=hm
  rw[ho] at ho';cases ho'
  exact⟨_,es',ep',hL,r'⟩) hok I.bare
theorem Inv.call{g':Array GenState}{t':Nat}{d':Drawn}{ch:List Addr}(I:Inv X pins σ H s)(u:Un (frs X.stack) ch H H' s.heap h')(hok:HOk X.prog X.w H' h')(hg:AllBare g')
  (hch:∀b∈ch,(b∈X.ex\/X.im.heap.objs.size<=b)/\b≠X.env.locals/\(∀x c,X.env.cells.lookup x=some c->c≠b)/\∀p∈X.pn++pins,p.1≠b) :
  Inv X pins σ H' {s with heap:=h',gens:=g',drawn:=d',toks:=t'}:=by
 obtain⟨m,⟨o,es,ep,ho,r⟩,_⟩:=id I.loc
 obtain⟨sl,hL⟩:=u.any ho I.free fun z=>(hch _ z).2.1 rfl
 exact I.step (ch:=ch) hch (fun b o hL hb hc e n=>u.keep b o e n (fun z=>(List.mem_cons.mp (I.gO b z)).elim hL hb) hc) (fun b o _ _ hc e n=>u.any e n hc) (fun b o hc e n=>u.free b o e n hc) (fun b o hc e=>u.there b o e hc) u.tY u.rj u.rA (fun m' hm=>by
  obtain⟨o',es',ep',ho',r'⟩:=hm
  rw[ho] at ho';cases ho'
  exact⟨_,es',ep',hL,r'⟩) hok hg
theorem Inv.turned{t':Nat}{it:Addr}(I:Inv X pins σ H s)(k:∀b o,b≠it->s.heap.get? b=some o->h'.get? b=some o)(hn:H it=none)(hL:it≠X.env.locals)
  (h1:it∈X.ex\/X.im.heap.objs.size<=it) (h2:∀x c,X.env.cells.lookup x=some c->c≠it) (h3:∀p∈X.pn++pins,p.1≠it):Inv X pins σ H {s with heap:=h',toks:=t'}:=by
 have nit:∀b u,H b=some u->b≠it:=fun b u e z=>by rw[z,hn] at e;cases e
 refine I.step (g':=s.gens) (d':=s.drawn) (ch:=[it]) (fun b hb=>?_) (fun b o _ _ hc e _=>k b o (fun z=>hc (by simp[z])) e) (fun b o _ _ hc e _=>⟨o.slots,k b o (fun z=>hc (by simp[z])) e⟩) (fun _ _ _ _ n=>n)
  (fun b o hc e=>⟨o,k b o (fun z=>hc (by simp[z])) e⟩) (fun _ _ e=>e) (fun _ _ _ e=>e) (fun b ps e=>⟨#[],by rw[e];simp⟩) (fun m hm=>?_) (fun b u e=>?_) I.bare
 ·have e:b=it:=by simpa using hb
  subst e
  exact⟨h1,hL,h2,h3⟩
 ·obtain⟨o,es,ep,ho,r⟩:=hm
  exact⟨o,es,ep,k _ o (Ne.symm hL) ho,r⟩
 ·refine (I.hok b u e).pM (fun c v hc q=>k c v ?_ q) (fun _ q=>q) fun _ _ q=>q
  rcases hc with z|z
  ·rw[z];exact nit b u e
  ·exact nit c _ z
theorem Inv.tok(I:Inv X pins σ H s)(t:Nat):Inv X pins σ H {s with toks:=t}:=I.un (h':=s.heap) (t':=t) Un.refl I.hok
theorem Inv.kept{t':Nat}(I:Inv X pins σ H s)(k:∀b u,s.heap.get? b=some u->h'.get? b=some u):Inv X pins σ H {s with heap:=h',toks:=t'}:=I.un (Un.kept k) (I.hok.kept k)
theorem Inv.laid{a:Addr}{o:HO}{t':Nat}(I:Inv X pins σ H s)(k:∀b u,s.heap.get? b=some u->h'.get? b=some u)(hp:s.heap.objs.size<=a)(new:iI X.prog X.w (upd H a o) h' a o) :
  Inv X pins σ (upd H a o) {s with heap:=h',toks:=t'}:=I.un (Un.laid k hp (I.hok.fresh hp)) (I.hok.laid k hp new)
theorem Inv.write{x e:Addr}{o:HO}{t':Nat}(I:Inv X pins σ H s)(mu:Mut (H x))(he:e=x\/H e=some (.own x))(k:∀b u,b≠e->s.heap.get? b=some u->h'.get? b=some u)(heo:∃u,h'.get? e=some u)
  (new:iI X.prog X.w (upd H x o) h' x o):Inv X pins σ (upd H x o) {s with heap:=h',toks:=t'}:=I.un (Un.write mu he k heo) (I.hok.write mu he k heo new)
theorem Inv.FR{pins':List (Addr×Obj)}(I:Inv X pins σ H s)(h:∀p∈pins',s.heap.get? p.1=some p.2/\H p.1=none/\p.1≠X.env.locals/\p.1 ∉ X.fs/\∀v,p.2.data≠.cell v):Inv X pins' σ H s:=
 ⟨I.ok,I.os,I.bare,I.base,I.loc,I.cell,I.free,I.jt,fun p hp=>(List.mem_append.mp hp).elim (fun z=>I.pin p (mem_append_left _ z)) (h p),I.hok,I.len⟩
theorem CQ{N:List Str}(hN:N.Nodup){i j:Nat}{x:Str}(a:N[i]? = some x)(b:N[j]? = some x):i=j:=by
 obtain⟨h1,e1⟩:=List.getElem?_eq_some_iff.mp a
 obtain⟨h2,e2⟩:=List.getElem?_eq_some_iff.mp b
 exact (List.getElem_inj hN).mp (e1.trans e2.symm)
theorem Hm{M:Model}{A:Around}{E:Value->Shared->Prop}{i:Nat}{x:Str}{v:V}{u:Value}{Q:Unit->Shared->Prop}(I:Inv X pins σ H s)(hN:X.N.Nodup)(hi:X.N[i]? = some x)(hx:Loc X.env.scope x)(r:RelV v u)
  (h:∀s',Inv X pins (σ.set i (some v)) H s'->(∃a,Heap.SameBut a s.heap s'.heap/\(a=X.env.locals\/X.env.cells.lookup x=some a))->Q () s') (hf:X.fn x=true\/X.env.scope.names.lookup x=some .local:=by first|exact .inl rfl|exact .inr rfl|assumption):wpAny M A (storeName X.env x u) Q E s:=by
 obtain⟨m,hn,hl⟩:=id I.loc
 have hcls:(X.env.scope.kind==.class || (X.env.scope.kind==.module&&X.env.locals != X.env.globals))=false:=by rw[I.ok.kind];rfl
 have ut:i<σ.length:=by rw[I.len];exact (List.getElem?_eq_some_iff.mp hi).1
 have cne:=I.cne
 have tracked:∀{a:Addr} {h':Heap},(∃o,s.heap.get? a=some o/\H a=none)->Heap.SameBut a s.heap h'->HOk X.prog X.w H h':=fun {a h'} ha hs b ob e=>by
  obtain⟨_,_,hfree⟩:=ha
  refine (I.hok b ob e).pM (fun c w' hc q=>(hs.2 c ?_).trans q) (fun _ q=>q) fun _ _ q=>q
  rintro rfl
  rcases hc with rfl|hc
  ·rw[hfree] at e;cases e
  ·rw[hfree] at hc;cases hc
 rcases hx with hk|hk
 ·refine wpAny_storeName_local hk hn (fun h' hn' hs=>?_) hcls
  obtain⟨oL,_,_,hoL,_⟩:=id hn
  refine h _ ⟨I.ok,I.os,I.bare,⟨fun b o e n hb hx=>?_,fun b o e n hb hx=>?_,I.base.free,fun b o e hx=>?_,I.base.tY,I.base.rj,I.base.rA⟩,⟨_,hn',fun j y v' e1 e2 e3=>?_⟩,fun y c e=>?_,I.free,I.jt,fun p hp=>?_,tracked ⟨oL,hoL,I.free⟩ hs,by simpa using I.len⟩ ⟨_,hs,.inl rfl⟩
  ·exact (hs.2 b (ne_of_lt (lt_of_lt_of_le (Heap.lt_size e) I.ok.above))).trans (I.base.keep b o e n hb hx)
  ·obtain⟨sl,e1⟩:=I.base.slot b o e n hb hx
   exact⟨sl,(hs.2 b (ne_of_lt (lt_of_lt_of_le (Heap.lt_size e) I.ok.above))).trans e1⟩
  ·obtain⟨o',e1⟩:=I.base.there b o e hx
   exact⟨o',(hs.2 b (ne_of_lt (lt_of_lt_of_le (Heap.lt_size e) I.ok.above))).trans e1⟩
  ·by_cases hj:j=i
   ·subst hj
    rw[hi] at e1;cases e1
    rw[List.getElem?_set_self ut] at e2
    cases e2
    exact⟨u,r,.inl ⟨hk,by simp⟩⟩
   ·rw[List.getElem?_set_ne (Ne.symm hj)] at e2
    obtain⟨u',r',q⟩:=hl j y v' e1 e2 e3
    refine⟨u',r',?_⟩
    rcases q with ⟨k,e⟩|⟨k,c,e,z⟩
    ·refine .inl ⟨k,?_⟩
     have:y≠x:=fun e=>hj (CQ hN e1 (e▸hi))
     simp[this,e]
    ·exact .inr ⟨k,c,e,z.sameBut hs (cne y c e)⟩
  ·obtain⟨w',z⟩:=I.cell y c e
   exact⟨w',z.sameBut hs (cne y c e)⟩
  ·obtain⟨e,n,ne,nf,d⟩:=I.pin p hp
   exact⟨(hs.2 p.1 ne).trans e,n,ne,nf,d⟩
 ·have hfn:X.fn x=true:=by
   rcases hf with z|z
   ·exact z
   ·rw[z] at hk;cases hk
  obtain⟨c,hc⟩:=I.ok.has x (.inl hk)
  obtain⟨w',z⟩:=I.cell x c hc
  refine wpAny_storeName_cell I.ok.kind hk hc z (fun h' hc' hs=>?_)
  obtain⟨oc,hoc,hocd⟩:=id z
  refine h {s with heap:=h'} ⟨I.ok,I.os,I.bare,⟨fun b o e n hb hx=>?_,fun b o e n hb hx=>?_,I.base.free,fun b o e hx=>?_,I.base.tY,I.base.rj,I.base.rA⟩,⟨m,hn.sameBut hs (Ne.symm (cne x c hc)),fun j y v' e1 e2 e3=>?_⟩,fun y c' e=>?_,I.free,I.jt,fun p hp=>?_,tracked ⟨oc,hoc,I.jt x c hc⟩ hs,by simpa using I.len⟩ ⟨c,hs,.inr hc⟩
  ·exact (hs.2 b (ne_of_lt (lt_of_lt_of_le (Heap.lt_size e) (I.ok.cab x c hfn hc)))).trans (I.base.keep b o e n hb hx)
  ·obtain⟨sl,e1⟩:=I.base.slot b o e n hb hx
   exact⟨sl,(hs.2 b (ne_of_lt (lt_of_lt_of_le (Heap.lt_size e) (I.ok.cab x c hfn hc)))).trans e1⟩
  ·obtain⟨o',e1⟩:=I.base.there b o e hx
   exact⟨o',(hs.2 b (ne_of_lt (lt_of_lt_of_le (Heap.lt_size e) (I.ok.cab x c hfn hc)))).trans e1⟩
  ·by_cases hj:j=i
   ·subst hj
    rw[hi] at e1;cases e1
    rw[List.getElem?_set_self ut] at e2
    cases e2
    exact⟨u,r,.inr ⟨.inl hk,c,hc,hc'⟩⟩
   ·rw[List.getElem?_set_ne (Ne.symm hj)] at e2
    obtain⟨u',r',q⟩:=hl j y v' e1 e2 e3
    refine⟨u',r',?_⟩
    rcases q with q|⟨k,c',e,z'⟩
    ·exact .inl q
    ·refine .inr ⟨k,c',e,z'.sameBut hs ?_⟩
     rintro rfl
     exact hj (CQ hN e1 (I.ok.inj _ _ _ e hc▸hi))
  ·by_cases hcc:c'=c
   ·subst hcc;exact⟨_,hc'⟩
   ·obtain⟨w2,z2⟩:=I.cell y c' e
    exact⟨w2,z2.sameBut hs hcc⟩
  ·obtain⟨e,n,ne,nf,d⟩:=I.pin p hp
   refine⟨(hs.2 p.1 ?_).trans e,n,ne,nf,d⟩
   intro q
   rw[q,hoc] at e
   have q':oc=p.2:=Option.some.inj e
   exact d w' (by rw[<- q'];exact hocd)
theorem kd{M:Model}{A:Around}{E:Value->Shared->Prop}{i:Nat}{x:Str}{v:V}{u:Value}{Q:Unit->Shared->Prop}(I:Inv X pins σ H s)(hN:X.N.Nodup)(hi:X.N[i]? = some x)(hx:Loc X.env.scope x)(r:RelV v u)
  (h:∀s',Inv X pins (σ.set i (some v)) H s'->Q () s') (hf:X.fn x=true\/X.env.scope.names.lookup x=some .local:=by first|exact .inl rfl|exact .inr rfl|assumption):wpAny M A (storeName X.env x u) Q E s:=
 Hm I hN hi hx r (fun s' I' _=>h s' I') hf
theorem Inv.uJ{s':Shared}{ch:List Addr}(I:Inv X pins σ H s)(ho:s'.os=s.os)(u:Un (frs X.stack) ch H H' s.heap s'.heap)(hok:HOk X.prog X.w H' s'.heap)(hg:AllBare s'.gens)
  (hch:∀b∈ch,(b∈X.ex\/X.im.heap.objs.size<=b)/\b≠X.env.locals/\(∀x c,X.env.cells.lookup x=some c->c≠b)/\∀p∈X.pn++pins,p.1≠b):Inv X pins σ H' s':=by
 obtain⟨h',g',d',t',o'⟩:=s'
 have e:o'=s.os:=ho
 subst e
 exact I.call (g':=g') (t':=t') (d':=d') u hok hg hch
end
abbrev XK:=Value->Option Addr->Hp->Prop
abbrev St:=List (Option V)
abbrev VK:=V->Hp->Prop
abbrev TE:=St->Hp->VK->Prop
abbrev TT:=St->Hp->(Bool->Hp->Prop)->Prop
abbrev TA:=St->Hp->(List V->Hp->Prop)->Prop
structure Ends where
 nx:St->Hp->Prop
 rt:VK
 bk:St->Hp->Prop:=fun _ _=>False
 ct:St->Hp->Prop:=fun _ _=>False
abbrev TS:=Ends->St->Hp->Prop
noncomputable def EP(X:Cx)(pins:List (Addr×Obj))(σ:St)(Q:VK)(u:Value)(s':Shared):Prop:=∃v H',Inv X pins σ H' s'/\RelV v u/\Q v H'
noncomputable def TP(X:Cx)(pins:List (Addr×Obj))(σ:St)(Q:Bool->Hp->Prop)(b:Bool)(s':Shared):Prop:=∃H',Inv X pins σ H' s'/\Q b H'
noncomputable def AP(X:Cx)(pins:List (Addr×Obj))(σ:St)(Q:List V->Hp->Prop)(us:List Value)(s':Shared):Prop:=∃vs H',Inv X pins σ H' s'/\Vals vs us/\Q vs H'
noncomputable def SP(X:Cx)(pins:List (Addr×Obj))(D:Ends)(f:Flow)(s':Shared):Prop:=
 match f with
 |.next=>∃bn H',Inv X pins bn H' s'/\D.nx bn H'
 |.brk=>∃bn H',Inv X pins bn H' s'/\D.bk bn H'
 |.cont=>∃bn H',Inv X pins bn H' s'/\D.ct bn H'
 |.ret u=>∃v bn H',Inv X pins bn H' s'/\RelV v u/\D.rt v H'
noncomputable def PE(X:Cx)(e:Expr)(t:TE):Prop:=
 ∀(pins:List (Addr×Obj)) (s:Shared) (σ:St) (H:Hp) (Q:VK),Inv X pins σ H s->t σ H Q->wpAny (model X.prog X.w) X.A (eval e X.env) (EP X pins σ Q) X.xe s
noncomputable def PT(X:Cx)(e:Expr)(t:TT):Prop:=
 ∀(pins:List (Addr×Obj)) (s:Shared) (σ:St) (H:Hp) (Q:Bool->Hp->Prop),Inv X pins σ H s->t σ H Q->wpAny (model X.prog X.w) X.A (isTrue e X.env (eval e X.env)) (TP X pins σ Q) X.xe s
noncomputable def PW(X:Cx)(e:Expr)(t:TT):Prop:=
 ∀(whole:Sem Value) (pins:List (Addr×Obj)) (s:Shared) (σ:St) (H:Hp) (Q:Bool->Hp->Prop),Inv X pins σ H s->t σ H Q->wpAny (model X.prog X.w) X.A (isTrue e X.env whole) (TP X pins σ Q) X.xe s
theorem PW.pt{X:Cx}{e:Expr}{t:TT}(h:PW X e t):PT X e t:=h _
noncomputable def PA(X:Cx)(es:List Expr)(t:TA):Prop:=
 ∀(pos:Pos) (pins:List (Addr×Obj)) (s:Shared) (σ:St) (H:Hp) (Q:List V->Hp->Prop),Inv X pins σ H s->t σ H Q->wpAny (model X.prog X.w) X.A (spliced (backTo pos (starEach es X.env))) (AP X pins σ Q) X.xe s
noncomputable def PS(X:Cx)(st:Stmt)(t:TS):Prop:=
 ∀(pins:List (Addr×Obj)) (s:Shared) (σ:St) (H:Hp) (D:Ends),Inv X pins σ H s->t D σ H->wpAny (model X.prog X.w) X.A (exec st X.env) (SP X pins D) X.xe s
noncomputable def PSs(X:Cx)(st:List Stmt)(t:TS):Prop:=
 ∀(pins:List (Addr×Obj)) (s:Shared) (σ:St) (H:Hp) (D:Ends),Inv X pins σ H s->t D σ H->wpAny (model X.prog X.w) X.A (execs st X.env) (SP X pins D) X.xe s
theorem thn{α:Type}{t:Sem α}{Q Q':α->Shared->Prop}{M:Model}{A:Around}{E:Value->Shared->Prop}{s:Shared}(h:wpAny M A t Q E s)(hQ:∀a s,Q a s->Q' a s):wpAny M A t Q' E s:=wpAny_mono h hQ fun _ _ x=>x
end L2
namespace L2
open PySem PySem.Spec PyProof.Rows
section
variable {X:Cx}
theorem bin{a b:Expr}{ta tb:TE}(ha:PE X a ta)(hb:PE X b tb){pins:List (Addr×Obj)}{s:Shared}{σ:St}{H:Hp}{R:V->V->Hp->Prop}(I:Inv X pins σ H s)(h:ta σ H fun x H1=>tb σ H1 fun y H2=>R x y H2)
  {α:Type} {Q:α->Shared->Prop} {f:Value->Value->Sem α}
  (hf:∀v u s2 x y H2,Inv X pins σ H2 s2->RelV x v->RelV y u->R x y H2->wpAny (model X.prog X.w) X.A (f v u) Q X.xe s2) :
  wpAny (model X.prog X.w) X.A (eval a X.env) (fun v ca=>wpAny (model X.prog X.w) X.A (eval b X.env) (fun u ii=>wpAny (model X.prog X.w) X.A (f v u) Q X.xe ii) X.xe ca) X.xe s:=by
 refine thn (ha pins s σ H _ I h) fun v s1 hq0=>?_
 obtain⟨x,H1,I1,r1,q1⟩:=hq0
 refine thn (hb pins s1 σ H1 _ I1 q1) fun u s2 hq0=>?_
 obtain⟨y,H2,I2,r2,q2⟩:=hq0
 exact hf v u s2 x y H2 I2 r1 r2 q2
noncomputable def OY(i:Nat):TE:=fun σ H Q=>∃v,σ[i]? = some (some v)/\Q v H
noncomputable def tC(v:V):TE:=fun _ H Q=>Q v H
theorem MX{i:Nat}{x:Str}{pos:Pos}(hN:X.N[i]? = some x)(hv:Vis X.env.scope x)(hd:(x==("__debug__":Str))=false:=by decide)(hcd:(x==("__classdict__":Str))=false:=by decide):PE X (.Name x pos) (OY i):=by
 intro pins s σ H Q I h
 obtain⟨v,e,h⟩:=h
 obtain⟨m,hn,hl⟩:=I.loc
 obtain⟨u,r,l⟩:=hl i x v hN e hv
 have fin:EP X pins σ Q u s:=⟨v,H,I,r,h⟩
 rcases l with ⟨hk,hm⟩|⟨hk,c,hc,hcell⟩
 ·exact wpAny_Name (wpAny_loadName_local I.ok.kind hk hn hm fin) hd
 ·rcases hk with hk|hk
  ·exact wpAny_Name (wpAny_loadName_cell I.ok.kind hk hc hcell fin) hd
  ·exact wpAny_Name (wpAny_loadName_free I.ok.kind hk hc hcell fin hcd) hd
theorem Ko{i j pos}:PE X (.Constant (.int i) j pos) (tC (.int i)):=fun _ _ _ H _ I h=>wpAny_Constant_int ⟨.int i,H,I.tok _,⟨_,rfl⟩,h⟩
theorem OM{b j pos}:PE X (.Constant (.bool b) j pos) (tC (.bl b)):=fun _ _ _ H _ I h=>Constant_bool ⟨.bl b,H,I,rfl,h⟩
noncomputable def Gl(X:Cx)(x:Str):Prop:=X.env.kindOf x=some .globalImplicit
theorem FV{E:Value->Shared->Prop}{pins:List (Addr×Obj)}{s:Shared}{σ:St}{H:Hp}{x:Str}{u:Value}{pos:Pos}{Q:Value->Shared->Prop}(I:Inv X pins σ H s)(hg:Gl X x)(hm:X.mg x=some u)(h:Q u s)
  (hd:(x==("__debug__":Str))=false:=by decide):wpAny (model X.prog X.w) X.A (eval (.Name x pos) X.env) Q E s:=
 Calls.Name_function_global I.ok.kind hg (Calls.loadGlobal_global (by rw[I.ok.glob];exact I.mod.glob.keeps I.bk) hm h) hd
theorem nj{E:Value->Shared->Prop}{pins:List (Addr×Obj)}{s:Shared}{σ:St}{H:Hp}{x:Str}{u:Value}{pos:Pos}{Q:Value->Shared->Prop}(I:Inv X pins σ H s)(hg:Gl X x)(hm:X.mg x=none)(hv:bootBuiltins x=some u)(h:Q u s)
  (hn:x ≠ "__name__":=by decide) (hd:(x==("__debug__":Str))=false:=by decide):wpAny (model X.prog X.w) X.A (eval (.Name x pos) X.env) Q E s:=by
 obtain⟨mb,h1,h2⟩:=I.mod.blt
 exact Calls.Name_function_global I.ok.kind hg (Calls.loadGlobal_builtin (by rw[I.ok.glob];exact I.mod.glob.keeps I.bk) hm (by rw[I.ok.blt];exact h1.keeps I.bk) ((h2 x hn).trans hv) h) hd
theorem Lf{x:Str}{v:V}{u:Value}{pos:Pos}(hg:Gl X x)(hm:X.mg x=some u)(r:RelV v u)(hd:(x==("__debug__":Str))=false:=by decide):PE X (.Name x pos) (tC v):=
 fun _ _ _ H _ I h=>FV I hg hm ⟨v,H,I,r,h⟩ hd
theorem Fb{x:Str}{v:V}{u:Value}{pos:Pos}(hg:Gl X x)(hm:X.mg x=none)(hv:bootBuiltins x=some u)(r:RelV v u)(hn:x ≠ "__name__":=by decide)(hd:(x==("__debug__":Str))=false:=by decide):PE X (.Name x pos) (tC v):=
 fun _ _ _ H _ I h=>nj I hg hm hv ⟨v,H,I,r,h⟩ hn hd
variable {a b:Expr}{ta tb:TE}{pos:Pos}
noncomputable def PC(X:Cx)(op:CmpOp)(a b:Expr)(t:TE):Prop:=
 ∀(pins:List (Addr×Obj)) (s:Shared) (σ:St) (H:Hp) (Q:VK),Inv X pins σ H s->t σ H Q ->
  wpAny (model X.prog X.w) X.A (eval a X.env) (fun v ca=>wpAny (model X.prog X.w) X.A (eval b X.env) (fun u ii=>wpAny (model X.prog X.w) X.A (compareOp op v u) (EP X pins σ Q) X.xe ii) X.xe ca) X.xe s
theorem J8(b:Expr){op:CmpOp}(h:op≠.In)(h2:op≠.NotIn):behindInMarks op b=false:=by
 have e1:(op==CmpOp.In)=false:=by cases op<;>first|rfl|exact absurd rfl h
 have e2:(op==CmpOp.NotIn)=false:=by cases op<;>first|rfl|exact absurd rfl h2
 cases b<;>simp[behindInMarks,e1,e2]
noncomputable def tB(t:TE):TT:=fun σ H Q=>t σ H fun x H1=>∃c,x = .bl c/\Q c H1
theorem P5{op:CmpOp}{t:TE}(h:PC X op a b t)(h1:behindInMarks op b=false:=by first|exact J8 _ ⋯ ⋯|rfl):PT X (.Compare a [op] [b] pos) (tB t):=by
 intro pins s σ H Q I hw
 refine wpAny_isTrue_Compare1 (thn (h pins s σ H _ I hw) fun v s1 h1=>thn h1 fun u s2 h2=>thn h2 fun c s3 hq0=>?_) h1
 obtain⟨x,H1,I1,r1,q1⟩:=hq0
 obtain⟨d,rfl,q⟩:=q1
 cases r1
 exact wpAny_truthy_bool ⟨H1,I1,q⟩
theorem Nd{e:Expr}{t:TE}(h:PE X e t)(he:∀whole,isTrue e X.env whole=(do let v <- whole;standAt e.pos;holding [v] (truthy v)):=by intro _;rfl):PT X e (tB t):=by
 intro pins s σ H Q I hw
 refine isTrue_plain (thn (h pins s σ H _ I hw) fun v s1 hq0=>?_) (he _)
 obtain⟨x,H1,I1,r1,q1⟩:=hq0
 obtain⟨d,rfl,q⟩:=q1
 cases r1
 exact wpAny_truthy_bool ⟨H1,I1,q⟩
variable {tA tB':TT}{rest:List Expr}
noncomputable def Qt(t u:TT):TT:=fun σ H Q=>t σ H fun c H1=>if c=true then u σ H1 Q else Q false H1
noncomputable def tOr(t u:TT):TT:=fun σ H Q=>t σ H fun c H1=>if c=true then Q true H1 else u σ H1 Q
noncomputable def Qh(t:TT):TT:=fun σ H Q=>t σ H fun c H1=>Q (!c) H1
theorem pw_and1(ha:PT X a tA):PW X (.BoolOp .And [a] pos) tA:=by
 intro wh pins s σ H Q I h
 refine isTrue_and (thn (ha pins s σ H Q I h) fun c s1 e=>?_)
 cases c with
 |true=>exact isTrue_and_nil e
 |false=>exact e
theorem pw_or1(ha:PT X a tA):PW X (.BoolOp .Or [a] pos) tA:=by
 intro wh pins s σ H Q I h
 refine isTrue_or (thn (ha pins s σ H Q I h) fun c s1 e=>?_)
 cases c with
 |false=>exact isTrue_or_nil e
 |true=>exact e
theorem pw_and(ha:PT X a tA)(hb:PW X (.BoolOp .And (b::rest) pos) tB'):PW X (.BoolOp .And (a::b::rest) pos) (Qt tA tB'):=by
 intro wh pins s σ H Q I h
 refine isTrue_and (thn (ha pins s σ H _ I h) fun c s1 hq0=>?_)
 obtain⟨H1,I1,q1⟩:=hq0
 cases c with
 |true=>exact hb wh pins s1 σ H1 Q I1 q1
 |false=>exact⟨H1,I1,q1⟩
theorem pw_or(ha:PT X a tA)(hb:PW X (.BoolOp .Or (b::rest) pos) tB'):PW X (.BoolOp .Or (a::b::rest) pos) (tOr tA tB'):=by
 intro wh pins s σ H Q I h
 refine isTrue_or (thn (ha pins s σ H _ I h) fun c s1 hq0=>?_)
 obtain⟨H1,I1,q1⟩:=hq0
 cases c with
 |true=>exact⟨H1,I1,q1⟩
 |false=>exact hb wh pins s1 σ H1 Q I1 q1
theorem N0(ha:PT X a tA):PT X (.UnaryOp .Not a pos) (Qh tA):=by
 intro pins s σ H Q I h
 exact isTrue_not (ha pins s σ H (fun c H1=>Q (!c) H1) I h)
noncomputable def PK(ta tb:TE):TE:=fun σ H Q=>ta σ H fun x H1=>∃c,x = .bl c/\if c=true then tb σ H1 Q else Q (.bl false) H1
noncomputable def Qj(ta tb:TE):TE:=fun σ H Q=>ta σ H fun x H1=>∃c,x = .bl c/\if c=true then Q (.bl true) H1 else tb σ H1 Q
noncomputable def O0(ta:TE):TE:=fun σ H Q=>ta σ H fun x H1=>∃c,x = .bl c/\Q (.bl (!c)) H1
theorem NU{op}{t:TE}(h:PE X a t):PE X (.BoolOp op [a] pos) t:=fun pins s σ H Q I hw=>BoolOp_one (h pins s σ H Q I hw)
theorem MI(ha:PE X a ta)(hb:PE X (.BoolOp .And (b::rest) pos) tb):PE X (.BoolOp .And (a::b::rest) pos) (PK ta tb):=by
 intro pins s σ H Q I h
 refine BoolOp_and (thn (ha pins s σ H _ I h) fun v s1 hq0=>?_)
 obtain⟨x,H1,I1,r1,q1⟩:=hq0
 obtain⟨c,rfl,q1⟩:=q1
 cases r1
 refine wpAny_truthy_bool ?_
 cases c with
 |true=>exact hb pins s1 σ H1 Q I1 q1
 |false=>exact⟨.bl false,H1,I1,rfl,q1⟩
theorem Pr(ha:PE X a ta)(hb:PE X (.BoolOp .Or (b::rest) pos) tb):PE X (.BoolOp .Or (a::b::rest) pos) (Qj ta tb):=by
 intro pins s σ H Q I h
 refine BoolOp_or (thn (ha pins s σ H _ I h) fun v s1 hq0=>?_)
 obtain⟨x,H1,I1,r1,q1⟩:=hq0
 obtain⟨c,rfl,q1⟩:=q1
 cases r1
 refine wpAny_truthy_bool ?_
 cases c with
 |false=>exact hb pins s1 σ H1 Q I1 q1
 |true=>exact⟨.bl true,H1,I1,rfl,q1⟩
theorem NX(ha:PE X a ta):PE X (.UnaryOp .Not a pos) (O0 ta):=by
 intro pins s σ H Q I h
 refine UnaryOp_ (thn (ha pins s σ H _ I h) fun v s1 hq0=>?_)
 obtain⟨x,H1,I1,r1,q1⟩:=hq0
 obtain⟨c,rfl,q1⟩:=q1
 cases r1
 exact not_of (wpAny_truthy_bool ⟨.bl (!c),H1,I1,rfl,q1⟩)
noncomputable def tIf(t:TT)(ta tb:TE):TE:=fun σ H Q=>t σ H fun c H1=>if c=true then ta σ H1 Q else tb σ H1 Q
theorem Jg{c:Expr}(hc:PT X c tA)(ha:PE X a ta)(hb:PE X b tb):PE X (.IfExp c a b pos) (tIf tA ta tb):=by
 intro pins s σ H Q I h
 refine wpAny_IfExp (thn (hc pins s σ H _ I h) fun d s1 hq0=>?_)
 obtain⟨H1,I1,q1⟩:=hq0
 cases d with
 |true=>exact ha pins s1 σ H1 Q I1 q1
 |false=>exact hb pins s1 σ H1 Q I1 q1
end
end L2
namespace L2
open PySem PySem.Spec PyProof.Rows
noncomputable def SqL(K:PySem.W.Frag)(H:Hp)(a:Addr)(xs:List V):Prop:=
 Rd H a (.lst xs) \/
  ∃(o:Obj) (its:Array Value) (n:Nat),K.lookup a=some o/\o.cls = .type "list"/\o.dict=none/\o.data = .seq its n/\its.size<=sizeLine/\Vals xs its.toList
noncomputable def SqT(K:PySem.W.Frag)(H:Hp)(a:Addr)(xs:List V):Prop:=
 Rd H a (.tup xs) \/
  ∃(o:Obj) (its:Array Value) (n:Nat),K.lookup a=some o/\o.cls = .type "tuple"/\o.data = .seq its n/\its.size<=sizeLine/\Vals xs its.toList
def Qg:Value->Option V
 |.none=>some .non
 |.bool b=>some (.bl b)
 |.int i _=>some (.int i)
 |.str x _=>some (.str x)
 |.bytes b _=>some (.byt b)
 |.float b _=>some (.flt b)
 |.ref a=>some (.ref a)
 |.type n=>some (.ty n)
 |_=>none
theorem RelV.abs{x:V}{u:Value}(r:RelV x u):Qg u=some x:=by
 cases x with
 |non=>cases r;rfl
 |bl _=>cases r;rfl
 |int _=>obtain⟨t,rfl⟩:=r;rfl
 |str _=>obtain⟨t,rfl⟩:=r;rfl
 |byt _=>obtain⟨t,rfl⟩:=r;rfl
 |flt _=>obtain⟨t,rfl⟩:=r;rfl
 |ref _=>cases r;rfl
 |ty _=>cases r;rfl
theorem RelV.inj{x y:V}{u:Value}(r:RelV x u)(q:RelV y u):x=y:=Option.some.inj (r.abs.symm.trans q.abs)
theorem Vals.inj:∀{xs ys:List V} {us:List Value},Vals xs us->Vals ys us->xs=ys
 |_,_,_,.nil,.nil=>rfl
 |_,_,_,.cons r t,.cons r' t'=>by rw[r.inj r',Vals.inj t t']
section
variable {X:Cx}{pins:List (Addr×Obj)}{σ:St}{H:Hp}{s:Shared}{a:Addr}{xs ys:List V}
theorem SqL.of{K:PySem.W.Frag}(h:H a=some (.lst xs)):SqL K H a xs:=.inl (.inl h)
theorem SqT.of{K:PySem.W.Frag}(h:H a=some (.tup xs)):SqT K H a xs:=.inl (.inl h)
theorem Inv.list(I:Inv X pins σ H s)(h:SqL X.K H a xs):∃its:List Value,Vals xs its/\PlainL s.heap a its.toArray/\xs.length<=sizeLine:=by
 rcases h with h|⟨o,its,n,hk,hc,hd,hs,hz,r⟩
 ·obtain⟨z,its,n,r,e⟩:=h.ok I.hok
  exact⟨its,r,⟨_,n,e,rfl,rfl,rfl⟩,z⟩
 ·refine⟨its.toList,r,⟨o,n,I.kIn a o hk,hc,hd,by simpa using hs⟩,?_⟩
  have e:=r.length
  simp only[Array.length_toList] at e
  omega
theorem Inv.tuple(I:Inv X pins σ H s)(h:SqT X.K H a xs):∃its:List Value,Vals xs its/\IsTup s.heap a its.toArray/\xs.length<=sizeLine:=by
 rcases h with h|⟨o,its,n,hk,hc,hs,hz,r⟩
 ·obtain⟨z,its,r,p⟩:=h.ok I.hok
  exact⟨its,r,p,z⟩
 ·refine⟨its.toList,r,⟨o,I.kIn a o hk,hc,n,by simpa using hs⟩,?_⟩
  have e:=r.length
  simp only[Array.length_toList] at e
  omega
theorem Inv.Dh(I:Inv X pins σ H s)(h:SqL X.K H a xs)(h':SqL X.K H a ys):xs=ys:=by
 obtain⟨its,r,⟨o,n,e,_,_,d⟩,_⟩:=I.list h
 obtain⟨its',r',⟨o',n',e',_,_,d'⟩,_⟩:=I.list h'
 rw[e] at e';cases e'
 rw[d] at d'
 injection d' with d1 _
 have:its=its':=by simpa using congrArg Array.toList d1
 subst this
 exact r.inj r'
theorem Inv.yv(I:Inv X pins σ H s)(h:SqT X.K H a xs)(h':SqT X.K H a ys):xs=ys:=by
 obtain⟨its,r,⟨o,e,_,n,d⟩,_⟩:=I.tuple h
 obtain⟨its',r',⟨o',e',_,n',d'⟩,_⟩:=I.tuple h'
 rw[e] at e';cases e'
 rw[d] at d'
 injection d' with d1 _
 have:its=its':=by simpa using congrArg Array.toList d1
 subst this
 exact r.inj r'
end
abbrev Cx.xI(X:Cx)(E:Value->Shared->Prop):Cx:={X with xe:=E}
abbrev Cx.nox(X:Cx):Cx:=X.xI fun _ _=>False
theorem Cx.Ok.xI{X:Cx}(ok:X.Ok)(E:Value->Shared->Prop):(X.xI E).Ok:=
 ⟨ok.mod,ok.kind,ok.glob,ok.blt,ok.above,ok.inj,ok.has,ok.cab,ok.hd,ok.qt,ok.frames,ok.stk,ok.exf,ok.bs,ok.bsz,ok.A6,ok.KJ,ok.wm,ok.frf⟩
theorem Cx.Ok.mr{X:Cx}{E:Value->Shared->Prop}(ok:(X.xI E).Ok):X.Ok:=
 ⟨ok.mod,ok.kind,ok.glob,ok.blt,ok.above,ok.inj,ok.has,ok.cab,ok.hd,ok.qt,ok.frames,ok.stk,ok.exf,ok.bs,ok.bsz,ok.A6,ok.KJ,ok.wm,ok.frf⟩
section
variable {X:Cx}{pins:List (Addr×Obj)}{σ:St}{H:Hp}{s:Shared}{E:Value->Shared->Prop}
theorem Inv.xI(I:Inv X pins σ H s)(E:Value->Shared->Prop):Inv (X.xI E) pins σ H s:=⟨I.ok.xI E,I.os,I.bare,I.base,I.loc,I.cell,I.free,I.jt,I.pin,I.hok,I.len⟩
theorem Inv.mr(I:Inv (X.xI E) pins σ H s):Inv X pins σ H s:=⟨I.ok.mr,I.os,I.bare,I.base,I.loc,I.cell,I.free,I.jt,I.pin,I.hok,I.len⟩
theorem SP.mr{D:Ends}{f:Flow}{s':Shared}(h:SP (X.xI E) pins D f s'):SP X pins D f s':=by
 cases f with
 |next=>obtain⟨bn,H',I,q⟩:=h;exact⟨bn,H',I.mr,q⟩
 |brk=>obtain⟨bn,H',I,q⟩:=h;exact⟨bn,H',I.mr,q⟩
 |cont=>obtain⟨bn,H',I,q⟩:=h;exact⟨bn,H',I.mr,q⟩
 |ret u=>obtain⟨v,bn,H',I,r,q⟩:=h;exact⟨v,bn,H',I.mr,r,q⟩
theorem PSs.nox{st:List Stmt}{t:TS}(h:PSs X.nox st t):PSs X st t:=fun pins s σ H D I hw=>
 wpAny_mono (h pins s σ H D (I.xI _) hw) (fun _ _ q=>q.mr) fun _ _ z=>False.elim z
end
section
variable {X:Cx}{st:Stmt}{rest:List Stmt}{t u:TS}{e:Expr}{te:TE}{pos:Pos}
noncomputable def O8:TS:=fun D σ H=>D.nx σ H
noncomputable def Py(t u:TS):TS:=fun D σ H=>t {D with nx:=u D} σ H
theorem LP:PSs X [] O8:=fun _ _ σ H _ I h=>wpAny_execs_nil ⟨σ,H,I,h⟩
theorem ID(h1:PS X st t)(h2:PSs X rest u):PSs X (st::rest) (Py t u):=by
 intro pins s σ H D I h
 refine wpAny_execs_cons (thn (h1 pins s σ H {D with nx:=u D} I h) fun f s1 q=>?_)
 cases f with
 |next=>
  obtain⟨bn,H',I',q⟩:=q
  exact h2 pins s1 bn H' D I' q
 |ret v=>exact q
 |brk=>exact q
 |cont=>exact q
theorem Lm(h1:PS X st t):PSs X [st] t:=by
 intro pins s σ H D I h
 refine wpAny_execs_cons (thn (h1 pins s σ H D I h) fun f s1 q=>?_)
 cases f with
 |next=>exact wpAny_execs_nil q
 |ret v=>exact q
 |brk=>exact q
 |cont=>exact q
theorem Inv.quiet{pins:List (Addr×Obj)}{σ:St}{H:Hp}{s:Shared}(I:Inv X pins σ H s):interactive X.env=false:=by simp[interactive,I.ok.kind]
noncomputable def PF(te:TE):TS:=fun D σ H=>te σ H fun _ H1=>D.nx σ H1
theorem KG(he:PE X e te)(hs:swapsWith e none pos.line X.env=pure false:=by rfl):PS X (.Expr e pos) (PF te):=by
 intro pins s σ H D I h
 exact wpAny_Expr_any (thn (he pins s σ H _ I h) fun v s1 ⟨x,H1,I1,r1,q1⟩=>⟨σ,H1,I1,q1⟩) I.quiet hs
noncomputable def P4(te:TE):TS:=fun D σ H=>te σ H D.rt
theorem MJ(he:PE X e te):PS X (.Return (some e) pos) (P4 te):=by
 intro pins s σ H D I h
 exact wpAny_Return_some (thn (he pins s σ H _ I h) fun v s1 ⟨x,H1,I1,r1,q1⟩=>⟨x,σ,H1,I1,r1,q1⟩)
noncomputable def Qk(c:TT)(t u:TS):TS:=fun D σ H=>c σ H fun b H1=>if b=true then t D σ H1 else u D σ H1
theorem OA{c:Expr}{a b:List Stmt}{tc:TT}(hc:PT X c tc)(ha:PSs X a t)(hb:PSs X b u):PS X (.If c a b pos) (Qk tc t u):=by
 intro pins s σ H D I h
 refine wpAny_If (thn (hc pins s σ H _ I h) fun d s1 hq0=>?_)
 obtain⟨H1,I1,q1⟩:=hq0
 cases d with
 |true=>exact ha pins s1 σ H1 D I1 q1
 |false=>exact hb pins s1 σ H1 D I1 q1
end
abbrev TG:=V->St->Hp->(St->Hp->Prop)->Prop
abbrev TGs:=List V->St->Hp->(St->Hp->Prop)->Prop
noncomputable def PG(X:Cx)(target:Expr)(t:TG):Prop:=
 ∀(pins:List (Addr×Obj)) (s:Shared) (σ:St) (H:Hp) (v:V) (u:Value) (Q:St->Hp->Prop),Inv X pins σ H s->RelV v u->t v σ H Q ->
  wpAny (model X.prog X.w) X.A (assign target X.env u) (fun _ s'=>∃bn H',Inv X pins bn H' s'/\Q bn H') X.xe s
noncomputable def PGs(X:Cx)(ts:List Expr)(t:TGs):Prop:=
 ∀(pins:List (Addr×Obj)) (s:Shared) (σ:St) (H:Hp) (vs:List V) (us:List Value) (Q:St->Hp->Prop),Inv X pins σ H s->Vals vs us->t vs σ H Q ->
  wpAny (model X.prog X.w) X.A (assignInOrder ((assignEach ts X.env).map (·.2)) us) (fun _ s'=>∃bn H',Inv X pins bn H' s'/\Q bn H') X.xe s
abbrev NA:=V->V->V->Hp->(Hp->Prop)->Prop
noncomputable def Pn(X:Cx)(t:NA):Prop:=
 ∀(pins:List (Addr×Obj)) (s:Shared) (σ:St) (H:Hp) (o i v:V) (ov iv u:Value) (Q:Hp->Prop),Inv X pins σ H s->RelV o ov->RelV i iv->RelV v u->t o i v H Q ->
  wpAny (model X.prog X.w) X.A (setItem ov iv u) (fun _ s'=>∃H',Inv X pins σ H' s'/\Q H') X.xe s
section
variable {X:Cx}{pos:Pos}
noncomputable def IP(i:Nat):TG:=fun v σ H Q=>Q (σ.set i (some v)) H
theorem K2{i:Nat}{x:Str}(hN:X.N.Nodup)(hi:X.N[i]? = some x)(hx:Loc X.env.scope x)(hf:X.fn x=true\/X.env.scope.names.lookup x=some .local:=by first|exact .inl rfl|exact .inr rfl|assumption):PG X (.Name x pos) (IP i):=by
 intro pins s σ H v u Q I r h
 exact wpAny_assign_Name (kd I hN hi hx r (fun s' I'=>⟨_,H,I',h⟩) hf)
def PY:TGs:=fun vs σ H Q=>vs=[]/\Q σ H
def OD(t:TG)(u:TGs):TGs:=fun vs σ H Q=>∃v r,vs=v::r/\t v σ H fun bn H'=>u r bn H' Q
theorem K0:PGs X [] PY:=by
 intro pins s σ H vs us Q I r h
 obtain⟨e,h⟩:=h
 subst e
 cases r
 exact assignInOrder_nil ⟨σ,H,I,h⟩
theorem J6{e:Expr}{es:List Expr}{t:TG}{u:TGs}(h1:PG X e t)(h2:PGs X es u)
  (hs:(assignEach (e::es) X.env).map (·.2)=assign e X.env::(assignEach es X.env).map (·.2):=by rfl):PGs X (e::es) (OD t u):=by
 intro pins s σ H vs us Q I r h
 obtain⟨v,vr,e1,h⟩:=h
 subst e1
 cases r with
 |cons r rr=>
  rw[hs]
  refine assignInOrder_cons (thn (h1 pins s σ H _ _ _ I r h) fun _ s1 hq0=>?_)
  obtain⟨sK,H1,I1,q1⟩:=hq0
  exact h2 pins s1 sK H1 _ _ Q I1 rr q1
noncomputable def PZ(K:PySem.W.Frag)(n:Nat)(t:TGs):TG:=fun v σ H Q=>∃a xs,v = .ref a/\SqT K H a xs/\xs.length=n/\t xs σ H Q
theorem MO{es:List Expr}{k:Nat}{t:TGs}{n:Nat}(hc:X.calm=X.calm)(h:PGs X es t)
  (hn:(assignEach es X.env).length=n:=by rfl) (hst:(assignEach es X.env).findIdx? (·.1)=none:=by rfl):PG X (.Tuple es k pos) (PZ X.K n t):=by
 intro pins s σ H v u Q I r hw
 obtain⟨a,xs,e1,hq,hl,hw⟩:=hw
 subst e1
 cases r
 obtain⟨its,rv,ht,hz⟩:=I.tuple hq
 refine wV I.Dy ht (by simp[hn,<- hl,rv.length]) hst fun h' hx=>?_
 have I1:Inv X pins σ H {s with heap:=h'}:=I.kept (t':=s.toks) fun b o e=>hx b o (ne_of_lt (Heap.lt_size e)) e
 exact h pins _ σ H xs _ Q I1 (by simpa using rv) hw
noncomputable def Qc(to ti:TE)(t:NA):TG:=fun v σ H Q=>to σ H fun o H1=>ti σ H1 fun i H2=>t o i v H2 fun H3=>Q σ H3
theorem NI{o i:Expr}{to ti:TE}{t:NA}(ho:PE X o to)(hi:PE X i ti)(hs:Pn X t)
  (ha:∀v,assign (.Subscript o i pos) X.env v=(do
   let ov <- holding [v] (eval o X.env)
   let iv <- holding [v,ov] (eval i X.env)
   standAt pos
   holding [v,ov,iv] (setItem ov iv v)
   release [v,ov,iv] []):=by intro _;rfl):PG X (.Subscript o i pos) (Qc to ti t):=by
 intro pins s σ H v u Q I r h
 rw[ha]
 refine wpAny_bind (wpAny_holding (thn (ho pins s σ H _ I h) fun ov s1 hq0=>?_))
 obtain⟨x,H1,I1,r1,q1⟩:=hq0
 refine wpAny_bind (wpAny_holding (thn (hi pins s1 σ H1 _ I1 q1) fun iv s2 hq0=>?_))
 obtain⟨y,H2,I2,r2,q2⟩:=hq0
 refine wpAny_bind (wpAny_standAt (wpAny_bind (wpAny_holding (thn (hs pins s2 σ H2 x y v ov iv u _ I2 r1 r2 r q2) fun _ s3 hq0=>?_))))
 obtain⟨H3,I3,q3⟩:=hq0
 exact wpAny_release ⟨σ,H3,I3,q3⟩
noncomputable def Nr(te:TE)(g:TG):TS:=fun D σ H=>te σ H fun x H1=>g x σ H1 D.nx
theorem Mz{tg e:Expr}{te:TE}{g:TG}(he:PE X e te)(hg:PG X tg g)(hs:swapsWithSole [tg] e pos.line X.env=pure false:=by rfl)(hw:swappedStores [tg] e X.env=pure none:=by rfl)
  (h1:(assignEach [tg] X.env).map (·.2)=[assign tg X.env]:=by rfl):PS X (.Assign [tg] e pos) (Nr te g):=by
 intro pins s σ H D I h
 refine wpAny_Assign_stores (thn (he pins s σ H _ I h) fun v s1 hq0=>?_) hs hw
 obtain⟨x,H1,I1,r1,q1⟩:=hq0
 rw[h1]
 exact thn (hg pins s1 σ H1 x v _ I1 r1 q1) fun _ s2 q=>q
theorem MD{i:Nat}{x:Str}{e:Expr}{te:TE}{pos':Pos}(hN:X.N.Nodup)(hi:X.N[i]? = some x)(hx:Loc X.env.scope x)(he:PE X e te)(hs:swapsWith e (some (.Name x pos')) pos.line X.env=pure false:=by rfl)(hf:X.fn x=true\/X.env.scope.names.lookup x=some .local:=by first|exact .inl rfl|exact .inr rfl|assumption) :
  PS X (.Assign [.Name x pos'] e pos) (Nr te (IP i)):=by
 intro pins s σ H D I h
 refine wpAny_Assign_Name (thn (he pins s σ H _ I h) fun v s1 hq0=>?_) hs
 obtain⟨y,H1,I1,r1,q1⟩:=hq0
 exact kd I1 hN hi hx r1 (fun s2 I2=>⟨_,H1,I2,q1⟩) hf
noncomputable def Qx(i j:Nat)(ta:TA):TS:=fun D σ H=>ta σ H fun vs H1=>∃v w,vs=[v,w]/\D.nx ((σ.set i (some v)).set j (some w)) H1
theorem Od{i j:Nat}{x y:Str}{a b:Expr}{ta:TA}{px py pt:Pos}{kt k2 pt2}(hc:X.calm=true)(hN:X.N.Nodup)(hi:X.N[i]? = some x)(hj:X.N[j]? = some y)(hij:i≠j)
  (hx:X.env.scope.names.lookup x=some .local) (hy:X.env.scope.names.lookup y=some .local) (ha:PA X [a,b] ta)
  (hw:swappedStores [.Tuple [.Name x px,.Name y py] kt pt] (.Tuple [a,b] k2 pt2) X.env=pure (some [x,y]))
  (hs:swapsWithSole [.Tuple [.Name x px,.Name y py] kt pt] (.Tuple [a,b] k2 pt2) pos.line X.env=pure false:=by rfl) :
  PS X (.Assign [.Tuple [.Name x px,.Name y py] kt pt] (.Tuple [a,b] k2 pt2) pos) (Qx i j ta):=by
 intro pins s σ H D I h
 rw[exec_Assign_arm]
 refine wpAny_bind (wpAny_standAt ?_)
 rw[hs]
 refine wpAny_bind (wpAny_pure ?_)
 rw[if_neg ⋯]
 refine wpAny_bind (Tuple_ (thn (ha _ pins s σ H _ I h) fun us s1 hq0=>?_))
 obtain⟨vs,H1,I1,r1,q1⟩:=hq0
 obtain⟨v,w,e1,q1⟩:=q1
 subst e1
 obtain⟨u1,u2,rfl,rv,rw'⟩:∃u1 u2,us=[u1,u2]/\RelV v u1/\RelV w u2:=by
  cases r1 with
  |cons p q=>
   cases q with
   |cons p' q'=>
    cases q'
    exact⟨_,_,rfl,p,p'⟩
 refine wpAny_newObj_type ?_ (by show 2<=sizeLine;decide)
 have I2:Inv X pins σ H1 {s1 with heap:=s1.heap.push {cls:=.type "tuple",data:=.seq [u1,u2].toArray}}:=I1.kept (t':=s1.toks) fun b o e=>Heap.get?_push_of_some _ e
 rw[hw]
 refine wpAny_bind (wpAny_pure ?_)
 show wpAny (model X.prog X.w) X.A (do rule "assign.swapped-stores";let items <- unpackItems (.ref s1.heap.objs.size) 2 none;assignInOrder [fun v=>bindName X.env y v,fun v=>bindName X.env x v] items.reverse;pure Flow.next) _ _ _
 refine wpAny_bind (wpAny_rule (wpAny_bind (unpackItems_tuple (items:=#[u1,u2]) (I.ok.hd hc) (IsTup.new s1.heap _) fun h' hx'=>?_)))
 have I3:=I2.kept (h':=h') (t':=s1.toks) fun b o e=>hx' b o (ne_of_lt (Heap.lt_size e)) e
 show wpAny _ _ (assignInOrder [fun v=>bindName X.env y v,fun v=>bindName X.env x v] [u2,u1]>>=fun _=>pure Flow.next) _ _ _
 refine wpAny_bind (assignInOrder_cons (wpAny_bindName (kd I3 hN hj (.inl hy) rw' (fun s2 I4=>?_) (.inr hy))))
 refine assignInOrder_cons (wpAny_bindName (kd I4 hN hi (.inl hx) rv (fun s3 I5=>assignInOrder_nil (wpAny_pure ?_)) (.inr hx)))
 rw[List.set_comm _ _ (Ne.symm hij)] at I5
 exact⟨_,H1,I5,q1⟩
end
section
variable {X:Cx}{pos:Pos}
noncomputable def Nw(c:TT)(tb:TS):TS:=fun D σ H=>∃W:Nat->St->Hp->Prop,(∃m,W m σ H)/\∀m σ H,W m σ H ->
 c σ H fun b H1=>if b=true then ∃N:St->Hp->Prop,(∀bn H',N bn H'->∃m',m'<m/\W m' bn H')/\tb {D with nx:=N,ct:=N,bk:=D.nx} σ H1 else D.nx σ H1
theorem HU{c:Expr}{body:List Stmt}{tc:TT}{tb:TS}(hp:PassesOwn (model X.prog X.w) X.A X.env X.xe)(hc:PT X c tc)(hb:PSs X body tb):PS X (.While c body [] pos) (Nw tc tb):=by
 intro pins s σ H D I h
 obtain⟨W,⟨m0,w0⟩,turn⟩:=h
 refine wpAny_While (codeAny_whileLoop (fun n s'=>∃bn H',Inv X pins bn H' s'/\W n bn H') ?_ m0 ⟨σ,H,I,w0⟩)
 rintro n s1 ⟨sK,H1,I1,w1⟩
 refine wpAny_passesOwn hp (thn (hc pins s1 sK H1 _ I1 (turn n sK H1 w1)) fun b s2 hq0=>?_)
 obtain⟨H2,I2,q2⟩:=hq0
 cases b with
 |true=>
  obtain⟨N,hN,q2⟩:=q2
  rw[if_pos rfl]
  refine wpAny_passesOwn hp (thn (hb pins s2 sK H2 _ I2 q2) fun f s3 q3=>?_)
  cases f with
  |next=>
   obtain⟨mt,H3,I3,n3⟩:=q3
   obtain⟨m',hm,w3⟩:=hN mt H3 n3
   exact⟨m',hm,mt,H3,I3,w3⟩
  |cont=>
   obtain⟨mt,H3,I3,n3⟩:=q3
   obtain⟨m',hm,w3⟩:=hN mt H3 n3
   exact⟨m',hm,mt,H3,I3,w3⟩
  |brk=>exact q3
  |ret v=>exact q3
 |false=>
  rw[if_neg Bool.false_ne_true]
  exact wpAny_execs_nil ⟨sK,H2,I2,q2⟩
end
structure It where
 go:Nat->Hp->Prop
 yld:Nat->Hp->V->Hp->Prop
 stop:Nat->Hp->Prop
noncomputable def mh(X:Cx)(pins:List (Addr×Obj))(H:Hp)(b:Addr):Prop:=
 H b=none/\b≠X.env.locals/\b ∉ X.fs/\(b∈X.ex\/X.im.heap.objs.size<=b)/\(∀x c,X.env.cells.lookup x=some c->c≠b)/\∀p∈X.pn++pins,p.1≠b
theorem Inv.BZ{X:Cx}{pins:List (Addr×Obj)}{σ:St}{H H':Hp}{s:Shared}{b:Addr}(I:Inv X pins σ H s)(hb:s.heap.objs.size<=b)(hn:H' b=none):mh X pins H' b:=by
 refine⟨hn,Nat.ne_of_gt (lt_of_lt_of_le I.lt hb),I.Qm hb,.inr (le_trans I.sz hb),fun x c e z=>?_,fun p hp z=>?_⟩
 ·obtain⟨v,q⟩:=I.cell x c e
  exact absurd (lt_of_lt_of_le q.lt (by rw[z];exact hb)) (lt_irrefl _)
 ·exact absurd (lt_of_lt_of_le (Heap.lt_size (I.pin p hp).1) (by rw[z];exact hb)) (lt_irrefl _)
structure Turn(c:Bool)(P:Program)(w:World)(K:PySem.W.Frag)(tg:Expr)(J:It)(fp:List Addr)(it:Addr)(tn:Nat->Heap->Prop):Prop where
 mem:it∈fp
 obj:∀i h,tn i h->∀b∈fp,∃o,h.get? b=some o/\∀v,o.data≠.cell v
 keep:∀i h h',tn i h->(∀b∈fp,∀o,h.get? b=some o->h'.get? b=some o)->tn i h'
 item:∀(X:Cx),X.prog=P->X.w=w->X.K=K->(c=true->X.calm=true)->∀(i:Nat) (pins:List (Addr×Obj)) (s:Shared) (σ:St) (H:Hp) (E:Value->Shared->Prop),Inv X pins σ H s->(∀b∈fp,mh X pins H b)->tn i s.heap->J.go i H ->
  wpAny (model P w) X.A (pyNext (.ref it)) (fun r s1=>∃u,r=some u /\
   wpAny (model P w) X.A (letOwnedTupleGo tg (.ref it) u) (fun _ s2=>∃x H',Inv X pins σ H' s2/\RelV x u/\J.yld i H x H'/\tn (i+1) s2.heap/\∀b∈fp,H' b=none) E s1) E s
 done:∀(X:Cx),X.prog=P->X.w=w->X.K=K->(c=true->X.calm=true)->∀(i:Nat) (pins:List (Addr×Obj)) (s:Shared) (σ:St) (H:Hp) (E:Value->Shared->Prop),Inv X pins σ H s->(∀b∈fp,mh X pins H b)->tn i s.heap->J.stop i H ->
  wpAny (model P w) X.A (pyNext (.ref it)) (fun r s1=>r=none/\Inv X pins σ H s1) E s
 self:∀(A:Around) (i:Nat) (s:Shared) (Q:Value->Shared->Prop) (E:Value->Shared->Prop),tn i s.heap->Q (.ref it) s->wpAny (model P w) A (pyIter (.ref it)) Q E s
theorem Turn.calm{c:Bool}{P:Program}{w:World}{K:PySem.W.Frag}{tg:Expr}{J:It}{fp:List Addr}{it:Addr}{tn:Nat->Heap->Prop}(T:Turn true P w K tg J fp it tn)(h:c=true):Turn c P w K tg J fp it tn:=by subst h;exact T
abbrev TI:=St->Hp->(It->Hp->Prop)->Prop
noncomputable def PIE(X:Cx)(pins:List (Addr×Obj))(σ:St)(tg:Expr)(R:It->Hp->Prop)(itv:Value)(s2:Shared):Prop:=
 ∃(it:Addr) (fp:List Addr) (tn:Nat->Heap->Prop) (J:It) (H':Hp),itv = .ref it/\Inv X pins σ H' s2/\Turn X.calm X.prog X.w X.K tg J fp it tn/\tn 0 s2.heap/\(∀b∈fp,mh X pins H' b)/\R J H'
noncomputable def PI(X:Cx)(tg iter:Expr)(wi:TI):Prop:=
 ∀(pins:List (Addr×Obj)) (s:Shared) (σ:St) (H:Hp) (R:It->Hp->Prop),Inv X pins σ H s->wi σ H R ->
  wpAny (model X.prog X.w) X.A (eval iter X.env) (fun v s1=>wpAny (model X.prog X.w) X.A (pyIter v) (PIE X pins σ tg R) X.xe s1) X.xe s
theorem Im{M:Model}{A:Around}{E:Value->Shared->Prop}{s:Shared}{tg:Expr}{it:Addr}{u:Value}{o:Obj}{n:String}{vs:Array Value}{Q:Unit->Shared->Prop}(ho:s.heap.get? it=some o)(hc:o.cls = .type n)(hd:o.data = .fields vs)
  (hn:["enumerate","zip","dict_itemiterator","dict_reverseitemiterator","odict_iterator","itertools.zip_longest","itertools.pairwise"].contains n=false) (hQ:Q () s):wpAny M A (letOwnedTupleGo tg (.ref it) u) Q E s:=by
 unfold letOwnedTupleGo
 cases tg<;>first
  |exact wpAny_pure hQ
  |(cases u<;>first
    |exact wpAny_pure hQ
    |(refine wpAny_bind (wpAny_load ho ?_)
      rw[hc,hd]
      show wpAny M A (if (["enumerate","zip","dict_itemiterator","dict_reverseitemiterator","odict_iterator","itertools.zip_longest","itertools.pairwise"].contains n&&vs[0]?==some (rawInt _))=true then _ else _) Q E s
      rw[if_neg (by intro h;rw[hn,Bool.false_and] at h;cases h)]
      exact wpAny_pure hQ))
def Itl(K:PySem.W.Frag)(a:Addr):It:=
 ⟨fun i H=>∃xs x,SqL K H a xs/\xs[i]? = some x,fun i H x H'=>H'=H/\∀xs,SqL K H a xs->xs[i]? = some x,fun i H=>∃xs,SqL K H a xs/\xs.length<=i⟩
def Itt(K:PySem.W.Frag)(a:Addr):It:=
 ⟨fun i H=>∃xs x,SqT K H a xs/\xs[i]? = some x,fun i H x H'=>H'=H/\∀xs,SqT K H a xs->xs[i]? = some x,fun i H=>∃xs,SqT K H a xs/\xs.length<=i⟩
def Itr(lo:Int)(n:Nat):It:=⟨fun i _=>i<n,fun i H x H'=>H'=H/\x = .int (lo+i),fun i _=>n<=i⟩
theorem GV{c:Bool}{P:Program}{w:World}{K:PySem.W.Frag}{tg:Expr}(a it:Addr):Turn c P w K tg (Itl K a) [it] it (fun i h=>h.IsListIter it a i) where
 mem:=by simp
 obj:=fun i h st b hb=>by
  have e:b=it:=by simpa using hb
  subst e
  obtain⟨o,e,c,d⟩:=st
  exact⟨o,e,fun v z=>by rw[d] at z;cases z⟩
 keep:=fun i h h' st k=>st.at fun o e=>k it (by simp) o e
 item:=by
  intro X hP hw hK hc i pins s σ H E I hf st hg
  subst hP hw hK
  obtain⟨xs,x,hq,hx⟩:=hg
  obtain⟨its,rv,p,hz⟩:=I.list hq
  obtain⟨u,hu,ru⟩:=rv.get hx
  obtain⟨f0,f1,f2,f3,f4,f5⟩:=hf it (by simp)
  refine wpAny_pyNext_list_item st p.isList (x:=u) (by simpa using hu) fun h' st' sb=>?_
  have I1:Inv X pins σ H {s with heap:=h'}:=I.turned (t':=s.toks) (fun b o hb e=>(sb.2 b hb).trans e) f0 f1 f3 f4 f5
  obtain⟨o,e,c,d⟩:=id st'
  exact⟨u,rfl,Im (s:={s with heap:=h'}) e c d ⋯ ⟨x,H,I1,ru,⟨rfl,fun ys hy=>by rw[I.Dh hy hq];exact hx⟩,st',fun b hb=>(hf b hb).1⟩⟩
 done:=by
  intro X hP hw hK hc i pins s σ H E I hf st hg
  subst hP hw hK
  obtain⟨xs,hq,hx⟩:=hg
  obtain⟨its,rv,p,hz⟩:=I.list hq
  obtain⟨f0,f1,f2,f3,f4,f5⟩:=hf it (by simp)
  have hl:=rv.length
  exact xk I.Dy (I.hne f5) st p.isList (by simp;omega) fun h' eb=>⟨rfl,I.turned (t':=s.toks) (fun b o hb e=>eb b o hb e) f0 f1 f3 f4 f5⟩
 self:=fun _ _ _ _ _ st h=>wpAny_pyIter_listiter st h
theorem D6{c:Bool}{P:Program}{w:World}{K:PySem.W.Frag}{tg:Expr}(a it:Addr):Turn c P w K tg (Itt K a) [it] it (fun i h=>h.IsTupleIter it a i) where
 mem:=by simp
 obj:=fun i h st b hb=>by
  have e:b=it:=by simpa using hb
  subst e
  obtain⟨o,e,c,d⟩:=st
  exact⟨o,e,fun v z=>by rw[d] at z;cases z⟩
 keep:=fun i h h' st k=>st.at fun o e=>k it (by simp) o e
 item:=by
  intro X hP hw hK hc i pins s σ H E I hf st hg
  subst hP hw hK
  obtain⟨xs,x,hq,hx⟩:=hg
  obtain⟨its,rv,p,hz⟩:=I.tuple hq
  obtain⟨u,hu,ru⟩:=rv.get hx
  obtain⟨f0,f1,f2,f3,f4,f5⟩:=hf it (by simp)
  refine wpAny_pyNext_tuple_item st (show s.heap.IsTuple a its.toArray from p) (x:=u) (by simpa using hu) fun h' st' sb=>?_
  have I1:Inv X pins σ H {s with heap:=h'}:=I.turned (t':=s.toks) (fun b o hb e=>(sb.2 b hb).trans e) f0 f1 f3 f4 f5
  obtain⟨o,e,c,d⟩:=id st'
  exact⟨u,rfl,Im (s:={s with heap:=h'}) e c d ⋯ ⟨x,H,I1,ru,⟨rfl,fun ys hy=>by rw[I.yv hy hq];exact hx⟩,st',fun b hb=>(hf b hb).1⟩⟩
 done:=by
  intro X hP hw hK hc i pins s σ H E I hf st hg
  subst hP hw hK
  obtain⟨xs,hq,hx⟩:=hg
  obtain⟨its,rv,p,hz⟩:=I.tuple hq
  obtain⟨f0,f1,f2,f3,f4,f5⟩:=hf it (by simp)
  have hl:=rv.length
  exact pS I.Dy (I.hne f5) st (show s.heap.IsTuple a its.toArray from p) (by simp;omega) fun h' eb=>⟨rfl,I.turned (t':=s.toks) (fun b o hb e=>eb b o hb e) f0 f1 f3 f4 f5⟩
 self:=fun _ _ _ _ _ st h=>wpAny_pyIter_tupleiter st h
theorem EL{P:Program}{w:World}{K:PySem.W.Frag}{tg:Expr}(it:Addr)(lo:Int)(n:Nat):Turn true P w K tg (Itr lo n) [it] it (fun i h=>IsRangeIter h it (lo+(i:Nat)*1) ((n:Int)-(i:Nat)) 1) where
 mem:=by simp
 obj:=fun i h st b hb=>by
  have e:b=it:=by simpa using hb
  subst e
  exact⟨_,st,fun v z=>by
   have z':Data.fields _=Data.cell v:=z
   cases z'⟩
 keep:=fun i h h' st k=>k it (by simp) _ st
 item:=by
  intro X hP hw hK hc i pins s σ H E I hf st hg
  subst hP hw hK
  obtain⟨f0,f1,f2,f3,f4,f5⟩:=hf it (by simp)
  have W:=Walks.range (prog:=X.prog) (w:=X.w) (I.ok.hd (hc rfl)) it lo 1 n
  refine W.item i s _ _ hg st fun v h' tk hv st' kk=>?_
  obtain⟨t,rfl⟩:=hv
  have I1:Inv X pins σ H {s with heap:=h',toks:=tk}:=I.turned (fun b o hb e=>kk b o (by simpa using hb) e) f0 f1 f3 f4 f5
  refine⟨_,rfl,Im (s:={s with heap:=h',toks:=tk}) (n:="range_iterator") st' rfl rfl ⋯ ⟨.int (lo+i),H,I1,⟨t,?_⟩,⟨rfl,rfl⟩,st',fun b hb=>(hf b hb).1⟩⟩
  rw[Int.mul_one]
 done:=by
  intro X hP hw hK hc i pins s σ H E I hf st hg
  subst hP hw hK
  obtain⟨f0,f1,f2,f3,f4,f5⟩:=hf it (by simp)
  exact wpAny_pyNext_range_end (I.ok.hd (hc rfl)) st (by have:n<=i:=hg;omega) fun h' eb=>⟨rfl,I.turned (t':=s.toks) (fun b o hb e=>eb b o hb e) f0 f1 f3 f4 f5⟩
 self:=fun _ _ _ _ _ st h=>wpAny_pyIter_rangeiter st h
end L2
namespace L2
open PySem PySem.Spec PyProof.Rows
section
variable {X:Cx}{tg:Expr}
noncomputable def OZ(K:PySem.W.Frag)(tl:TE):TI:=fun σ H R=>tl σ H fun x H1=>∃a,x = .ref a/\(∃xs,SqL K H1 a xs)/\R (Itl K a) H1
noncomputable def Qv(K:PySem.W.Frag)(tl:TE):TI:=fun σ H R=>tl σ H fun x H1=>∃a,x = .ref a/\(∃xs,SqT K H1 a xs)/\R (Itt K a) H1
theorem Gp{l:Expr}{tl:TE}(hl:PE X l tl):PI X tg l (OZ X.K tl):=by
 intro pins s σ H R I h
 refine thn (hl pins s σ H _ I h) fun v s1 hq0=>?_
 obtain⟨x,H1,I1,r1,q1⟩:=hq0
 obtain⟨a,e,⟨xs,hq⟩,q⟩:=q1
 subst e
 cases r1
 obtain⟨its,rv,p,hz⟩:=I1.list hq
 refine wpAny_pyIter_list p.isList ?_
 refine⟨s1.heap.objs.size,[s1.heap.objs.size],_,_,H1,rfl,I1.kept (t':=s1.toks) fun b o e=>Heap.get?_push_of_some _ e,GV a _,⟨_,Heap.get?_push_size _ rfl,rfl,rfl⟩,fun b hb=>?_,q⟩
 have e:b=s1.heap.objs.size:=by simpa using hb
 subst e
 exact I1.BZ (le_refl _) (I1.hok.fresh (le_refl _))
theorem MR{l:Expr}{tl:TE}(hl:PE X l tl):PI X tg l (Qv X.K tl):=by
 intro pins s σ H R I h
 refine thn (hl pins s σ H _ I h) fun v s1 hq0=>?_
 obtain⟨x,H1,I1,r1,q1⟩:=hq0
 obtain⟨a,e,⟨xs,hq⟩,q⟩:=q1
 subst e
 cases r1
 obtain⟨its,rv,p,hz⟩:=I1.tuple hq
 refine wpAny_pyIter_tuple (show s1.heap.IsTuple a its.toArray from p) ?_
 refine⟨s1.heap.objs.size,[s1.heap.objs.size],_,_,H1,rfl,I1.kept (t':=s1.toks) fun b o e=>Heap.get?_push_of_some _ e,D6 a _,⟨_,Heap.get?_push_size _ rfl,rfl,rfl⟩,fun b hb=>?_,q⟩
 have e:b=s1.heap.objs.size:=by simpa using hb
 subst e
 exact I1.BZ (le_refl _) (I1.hok.fresh (le_refl _))
theorem BC(hc:X.calm=true){pins:List (Addr×Obj)}{σ:St}{H:Hp}{s:Shared}{R:It->Hp->Prop}{E:Value->Shared->Prop}{lo hi:Int}{t u v:Tok}{tk:Nat}(I:Inv X pins σ H s)(h1:-(2 ^ 62)<=lo)(h2:lo<2 ^ 62)(h3:-(2 ^ 62)<=hi)(h4:hi<2 ^ 62)
  (q:R (Itr lo (hi-lo).toNat) H):wpAny (model X.prog X.w) X.A (pyIter (.ref s.heap.objs.size)) (PIE X pins σ tg R) E {s with heap:=s.heap.push {cls:=.type "range",data:=.fields #[.int lo t,.int hi u,.int 1 v]},toks:=tk}:=by
 refine wpAny_pyIter_range (IsRange.new ..) (small_one h1 h2 h3 h4) ?_
 have I1:Inv X pins σ H {s with heap:=s.heap.push {cls:=.type "range",data:=.fields #[.int lo t,.int hi u,.int 1 v]},toks:=tk}:=I.kept fun b o e=>Heap.get?_push_of_some _ e
 refine⟨(s.heap.push {cls:=.type "range",data:=.fields #[.int lo t,.int hi u,.int 1 v]}).objs.size,[(s.heap.push {cls:=.type "range",data:=.fields #[.int lo t,.int hi u,.int 1 v]}).objs.size],_,_,H,rfl,
  I1.kept (t':=tk) fun b o e=>Heap.get?_push_of_some _ e,(EL _ lo (hi-lo).toNat).calm hc,?_,fun b hb=>?_,q⟩
 ·have e1:lo+((0:Nat):Int)*1=lo:=by simp
  have e2:(((hi-lo).toNat:Nat):Int)-((0:Nat):Int)=Builtin.Range.rangeSize lo hi 1:=by rw[rangeSize_one];split<;>omega
  show IsRangeIter _ _ (lo+((0:Nat):Int)*1) ((((hi-lo).toNat:Nat):Int)-((0:Nat):Int)) 1
  rw[e1,e2]
  exact Heap.get?_push_size _ rfl
 ·have e:b=(s.heap.push {cls:=.type "range",data:=.fields #[.int lo t,.int hi u,.int 1 v]}).objs.size:=by simpa using hb
  subst e
  exact I1.BZ (le_refl _) (I1.hok.fresh (le_refl _))
noncomputable def PB(ta:TA):TI:=fun σ H R=>ta σ H fun vs H1=>∃j:Int,vs=[.int j]/\-(2 ^ 62)<=j/\j<2 ^ 62/\R (Itr 0 j.toNat) H1
noncomputable def OT(ta:TA):TI:=fun σ H R=>ta σ H fun vs H1=>∃i j:Int,vs=[.int i,.int j]/\(-(2 ^ 62)<=i/\i<2 ^ 62/\-(2 ^ 62)<=j/\j<2 ^ 62)/\R (Itr i (j-i).toNat) H1
theorem G4{a:Expr}{ta:TA}{p pos:Pos}(hc:X.calm=true)(hg:Gl X "range")(hm:X.mg "range"=none)(ha:PA X [a] ta)(hs:starEach [a] X.env=[(false,eval a X.env)]:=by rfl):PI X tg (.Call (.Name "range" p) [a] [] pos) (PB ta):=by
 intro pins s σ H R I h
 refine Call_ (nj I hg hm boot_range (PyProof.Rows.callWith_type1 (thn (ha pos pins s σ H _ I h) fun us s1 hq0=>?_) hs rfl))
 obtain⟨vs,H1,I1,r1,q1⟩:=hq0
 obtain⟨j,e,q1,q2,q⟩:=q1
 subst e
 cases r1 with
 |cons r rr=>
  cases rr
  obtain⟨t,rfl⟩:=r
  exact call_range_1 (BC hc I1 ∅ ∅ q1 q2 (by simpa using q))
theorem HC{a b:Expr}{ta:TA}{p pos:Pos}(hc:X.calm=true)(hg:Gl X "range")(hm:X.mg "range"=none)(ha:PA X [a,b] ta)(hs:starEach [a,b] X.env=[(false,eval a X.env),(false,eval b X.env)]:=by rfl)(hs2:starEach [b] X.env=[(false,eval b X.env)]:=by rfl) :
  PI X tg (.Call (.Name "range" p) [a,b] [] pos) (OT ta):=by
 intro pins s σ H R I h
 refine Call_ (nj I hg hm boot_range (PyProof.Rows.callWith_type1 (thn (ha pos pins s σ H _ I h) fun us s1 hq0=>?_) (by rw[hs,hs2]) (by rw[hs2];rfl)))
 obtain⟨vs,H1,I1,r1,q1⟩:=hq0
 obtain⟨i,j,e,⟨q1,q2,q3,q4⟩,q⟩:=q1
 subst e
 cases r1 with
 |cons r rr=>
  cases rr with
  |cons r' rr=>
   cases rr
   obtain⟨t,rfl⟩:=r
   obtain⟨t',rfl⟩:=r'
   exact call_range_2 (BC hc I1 q1 q2 q3 q4 q)
noncomputable def P1(wi:TI)(g:TG)(tb:TS):TS:=fun D σ H=>wi σ H fun J H1=>∃W:Nat->Nat->St->Hp->Prop,(∃m,W 0 m σ H1)/\∀i m σ H,W i m σ H ->
 (J.stop i H/\D.nx σ H)\/(J.go i H/\∃N:St->Hp->Prop,(∀bn H',N bn H'->∃m',m'<m/\W (i+1) m' bn H')/\∀x H',J.yld i H x H'->g x σ H' fun u8 H2=>tb {D with nx:=N,ct:=N,bk:=D.nx} u8 H2)
def mI(fp:List Addr)(h:Heap):List (Addr×Obj):=fp.filterMap fun b=>(h.get? b).map fun o=>(b,o)
theorem bA{fp:List Addr}{h:Heap}{b:Addr}{o:Obj}(hb:b∈fp)(e:h.get? b=some o):(b,o)∈mI fp h:=List.mem_filterMap.mpr ⟨b,hb,by rw[e];rfl⟩
theorem Hx{fp:List Addr}{h:Heap}{p:Addr×Obj}(hp:p∈mI fp h):p.1∈fp/\h.get? p.1=some p.2:=by
 obtain⟨b,hb,e⟩:=List.mem_filterMap.mp hp
 cases q:h.get? b with
 |none=>rw[q] at e;cases e
 |some o=>
  rw[q] at e
  have e':(b,o)=p:=Option.some.inj e
  subst e'
  exact⟨hb,q⟩
theorem Inv.pinned{pins:List (Addr×Obj)}{σ:St}{H:Hp}{s:Shared}{fp:List Addr}(I:Inv X pins σ H s)(hf:∀b∈fp,mh X pins H b)(ho:∀b∈fp,∃o,s.heap.get? b=some o/\∀v,o.data≠.cell v):Inv X (pins++mI fp s.heap) σ H s:=
 I.FR fun p hp=>(List.mem_append.mp hp).elim (fun z=>I.pin p (mem_append_right _ z)) fun z=>by
  obtain⟨hb,e⟩:=Hx z
  obtain⟨f0,f1,f2,_⟩:=hf p.1 hb
  obtain⟨o,e',d⟩:=ho p.1 hb
  rw[e] at e';cases e'
  exact⟨e,f0,f1,f2,d⟩
theorem Inv.dn{pins pl:List (Addr×Obj)}{σ:St}{H:Hp}{s:Shared}(I:Inv X (pins++pl) σ H s):Inv X pins σ H s:=I.FR fun p hp=>I.pin p (mem_append_right _ (mem_append_left _ hp))
theorem M7{iter:Expr}{body:List Stmt}{wi:TI}{g:TG}{tb:TS}{pos:Pos}(hp:PassesOwn (model X.prog X.w) X.A X.env X.xe)(hc:X.calm=true)(hi:PI X tg iter wi)(hg:PG X tg g)(hb:PSs X body tb)
  (hs:∀x,foldedSetIterable iter X.env x=pure x:=by intro _;rfl):PS X (.For tg iter body [] pos) (P1 wi g tb):=by
 intro pins s σ H D I h
 refine wpAny_For (thn (hi pins s σ H _ I h) fun v s1 h1=>thn h1 fun itv s2 h2=>?_) hs
 obtain⟨it,fp,tn,J,H2,e,I2,T,st2,f2,W,⟨m0,w0⟩,turn⟩:=h2
 subst e
 have stat:∀{H':Hp},(∀b∈fp,H' b=none)->∀b∈fp,mh X pins H' b:=fun hn b hb=>⟨hn b hb,(f2 b hb).2⟩
 refine codeAny_forLoop_any (fun n s'=>∃i bn H',Inv X pins bn H' s'/\tn i s'.heap/\(∀b∈fp,H' b=none)/\W i n bn H') ?_ m0 ⟨0,σ,H2,I2,st2,fun b hb=>(f2 b hb).1,w0⟩
 rintro n s3 ⟨i,mt,H3,I3,st3,fr3,w3⟩
 rcases turn i n mt H3 w3 with ⟨stop,qn⟩|⟨go,N,hN,step⟩
 ·refine wpAny_passesOwn hp (thn (T.done X rfl rfl rfl (fun z=>z) i pins s3 mt H3 X.xe I3 (stat fr3) st3 stop) fun r s4 hq0=>?_)
  obtain⟨hr,I4⟩:=hq0
  subst hr
  exact wpAny_execs_nil ⟨mt,H3,I4,qn⟩
 ·refine wpAny_passesOwn hp (thn (T.item X rfl rfl rfl (fun z=>z) i pins s3 mt H3 X.xe I3 (stat fr3) st3 go) fun r s4 hq0=>?_)
  obtain⟨u,hr,h4⟩:=hq0
  subst hr
  refine wpAny_passesOwn hp (thn h4 fun _ s5 hq0=>?_)
  obtain⟨x,H5,I5,r5,y5,st5,fr5⟩:=hq0
  have I5':=I5.pinned (stat fr5) (T.obj _ _ st5)
  refine wpAny_passesOwn hp (thn (hg _ s5 mt H5 x u _ I5' r5 (step x H5 y5)) fun _ s6 hq0=>?_)
  obtain⟨ga,H6,I6,q6⟩:=hq0
  refine wpAny_passesOwn hp (thn (hb _ s6 ga H6 _ I6 q6) fun f s7 q7=>?_)
  have again:∀{sB:St} {H7:Hp},Inv X (pins++mI fp s5.heap) sB H7 s7->N sB H7->∃m,m<n/\∃i bn H',Inv X pins bn H' s7/\tn i s7.heap/\(∀b∈fp,H' b=none)/\W i m bn H':=fun {sB H7} I7 n7=>by
   obtain⟨m',hm,w7⟩:=hN sB H7 n7
   refine⟨m',hm,i+1,sB,H7,I7.dn,T.keep _ _ _ st5 fun b hb o e=>(I7.pin (b,o) (mem_append_right _ (mem_append_right _ (bA hb e)))).1,fun b hb=>?_,w7⟩
   obtain⟨o,e,d⟩:=T.obj _ _ st5 b hb
   exact (I7.pin (b,o) (mem_append_right _ (mem_append_right _ (bA hb e)))).2.1
  cases f with
  |next=>obtain⟨sB,H7,I7,n7⟩:=q7;exact again I7 n7
  |cont=>obtain⟨sB,H7,I7,n7⟩:=q7;exact again I7 n7
  |brk=>obtain⟨sB,H7,I7,q7⟩:=q7;exact⟨sB,H7,I7.dn,q7⟩
  |ret v=>obtain⟨x7,sB,H7,I7,r7,q7⟩:=q7;exact⟨x7,sB,H7,I7.dn,r7,q7⟩
end
end L2
namespace L2
open PySem PySem.Spec PyProof.Rows
abbrev R2:=V->V->Hp->VK->Prop
noncomputable def OpR(X:Cx)(f:Value->Value->Sem Value)(r:R2):Prop:=
 ∀(pins:List (Addr×Obj)) (s:Shared) (σ:St) (H:Hp) (x y:V) (v u:Value) (Q:VK),Inv X pins σ H s->RelV x v->RelV y u->r x y H Q ->
  wpAny (model X.prog X.w) X.A (f v u) (EP X pins σ Q) X.xe s
noncomputable def UnR(X:Cx)(f:Value->Sem Value)(r:V->Hp->VK->Prop):Prop:=
 ∀(pins:List (Addr×Obj)) (s:Shared) (σ:St) (H:Hp) (x:V) (v:Value) (Q:VK),Inv X pins σ H s->RelV x v->r x H Q ->
  wpAny (model X.prog X.w) X.A (f v) (EP X pins σ Q) X.xe s
noncomputable def jk(X:Cx)(f:Value)(r:List V->Hp->VK->Prop):Prop:=
 ∀(pins:List (Addr×Obj)) (s:Shared) (σ:St) (H:Hp) (xs:List V) (us:List Value) (Q:VK),Inv X pins σ H s->Vals xs us->r xs H Q ->
  wpAny (model X.prog X.w) X.A (call f us) (EP X pins σ Q) X.xe s
noncomputable def tOp(r:R2)(ta tb:TE):TE:=fun σ H Q=>ta σ H fun x H1=>tb σ H1 fun y H2=>r x y H2 Q
noncomputable def tUn(r:V->Hp->VK->Prop)(ta:TE):TE:=fun σ H Q=>ta σ H fun x H1=>r x H1 Q
noncomputable def rI(C:Int->Int->Prop)(g:Int->Int->V):R2:=fun x y H Q=>∃i j,x = .int i/\y = .int j/\C i j/\Q (g i j) H
noncomputable def rI0(g:Int->Int->V):R2:=fun x y H Q=>∃i j,x = .int i/\y = .int j/\Q (g i j) H
def rU(g:Int->V):V->Hp->VK->Prop:=fun x H Q=>∃i,x = .int i/\Q (g i) H
section
variable {X:Cx}{a b c:Expr}{ta tb tc:TE}{pos:Pos}
theorem Ol(ha:PE X a ta)(hb:PE X b tb){pins:List (Addr×Obj)}{s:Shared}{σ:St}{H:Hp}{R:V->V->Hp->Prop}(I:Inv X pins σ H s)
  (h:ta σ H fun x H1=>tb σ H1 fun y H2=>R x y H2) {Q:Value->Shared->Prop} {f:Value->Value->Sem Value}
  (hf:∀v u s2 x y H2,Inv X pins σ H2 s2->RelV x v->RelV y u->R x y H2->wpAny (model X.prog X.w) X.A (f v u) Q X.xe s2) :
  wpAny (model X.prog X.w) X.A (eval a X.env) (fun v ca=>wpAny (model X.prog X.w) X.A (eval b X.env) (fun u ii=>wpAny (model X.prog X.w) X.A (f v u) Q X.xe ii) X.xe ca) X.xe s:=by
 refine thn (ha pins s σ H _ I h) fun v s1 hq0=>?_
 obtain⟨x,H1,I1,r1,q1⟩:=hq0
 refine thn (hb pins s1 σ H1 _ I1 q1) fun u s2 hq0=>?_
 obtain⟨y,H2,I2,r2,q2⟩:=hq0
 exact hf v u s2 x y H2 I2 r1 r2 q2
theorem O4{op:Operator}{r:R2}(ho:OpR X (binaryOp op) r)(ha:PE X a ta)(hb:PE X b tb):PE X (.BinOp a op b pos) (tOp r ta tb):=by
 intro pins s σ H Q I h
 exact wpAny_BinOp (Ol ha hb I h fun v u s2 x y H2 I2 rx ry q=>ho pins s2 σ H2 x y v u Q I2 rx ry q)
theorem Mp{op:UnaryOp}{r:V->Hp->VK->Prop}(ho:UnR X (unaryOp op) r)(ha:PE X a ta):PE X (.UnaryOp op a pos) (tUn r ta):=by
 intro pins s σ H Q I h
 exact UnaryOp_ (thn (ha pins s σ H _ I h) fun v s1 ⟨x,H1,I1,r1,q1⟩=>ho pins s1 σ H1 x v Q I1 r1 q1)
theorem opI{f:Value->Value->Sem Value}{C:Int->Int->Prop}{g:Int->Int->Int}
  (rule:∀(i j:Int) (t u:Tok) (s:Shared) (Q:Value->Shared->Prop) (E:Value->Shared->Prop),C i j->Q (.int (g i j) s.toks) {s with toks:=s.toks+1}->wpAny (model X.prog X.w) X.A (f (.int i t) (.int j u)) Q E s) :
  OpR X f (rI C fun i j=>.int (g i j)):=by
 intro pins s σ H x y v u Q I rx ry h
 obtain⟨i,j,rfl,rfl,hc,q⟩:=h
 obtain⟨t,rfl⟩:=rx
 obtain⟨t',rfl⟩:=ry
 exact rule i j t t' s _ _ hc ⟨.int (g i j),H,I.tok _,⟨_,rfl⟩,q⟩
theorem Oz{f:Value->Value->Sem Value}{g:Int->Int->Int}
  (rule:∀(i j:Int) (t u:Tok) (s:Shared) (Q:Value->Shared->Prop) (E:Value->Shared->Prop),Q (.int (g i j) s.toks) {s with toks:=s.toks+1}->wpAny (model X.prog X.w) X.A (f (.int i t) (.int j u)) Q E s) :
  OpR X f (rI0 fun i j=>.int (g i j)):=by
 intro pins s σ H x y v u Q I rx ry h
 obtain⟨i,j,rfl,rfl,q⟩:=h
 obtain⟨t,rfl⟩:=rx
 obtain⟨t',rfl⟩:=ry
 exact rule i j t t' s _ _ ⟨.int (g i j),H,I.tok _,⟨_,rfl⟩,q⟩
theorem LJ{f:Value->Value->Sem Value}{g:Int->Int->Bool}
  (rule:∀(i j:Int) (t u:Tok) (s:Shared) (Q:Value->Shared->Prop) (E:Value->Shared->Prop),Q (.bool (g i j)) s->wpAny (model X.prog X.w) X.A (f (.int i t) (.int j u)) Q E s) :
  OpR X f (rI0 fun i j=>.bl (g i j)):=by
 intro pins s σ H x y v u Q I rx ry h
 obtain⟨i,j,rfl,rfl,q⟩:=h
 obtain⟨t,rfl⟩:=rx
 obtain⟨t',rfl⟩:=ry
 exact rule i j t t' s _ _ ⟨.bl (g i j),H,I,rfl,q⟩
noncomputable def Nt(i j:Int):Prop:=0<=j/\j<=1000000/\i.natAbs<2 ^ 64
noncomputable def KL(i j:Int):Prop:=(-(2 ^ 64)<i/\i<2 ^ 64)\/(-(2 ^ 64)<j/\j<2 ^ 64)
theorem KL.ok{i j:Int}(h:KL i j):IntMulOk i j:=by
 rcases h with ⟨h1,h2⟩|⟨h1,h2⟩
 ·exact .of_left (intBits_le_64 h1 h2)
 ·exact .of_right (intBits_le_64 h1 h2)
theorem JD:OpR X (binaryOp .Add) (rI0 fun i j=>.int (i+j)):=Oz fun _ _ _ _ _ _ _ q=>add_int q
theorem Oq:OpR X (binaryOp .Sub) (rI0 fun i j=>.int (i-j)):=Oz fun _ _ _ _ _ _ _ q=>sub_int q
theorem L5:OpR X (binaryOp .Mod) (rI (fun _ j=>j≠0) fun i j=>.int (i.fmod j)):=opI fun _ _ _ _ _ _ _ hc q=>mod_int' hc q
theorem Og:OpR X (binaryOp .Pow) (rI Nt fun i j=>.int (i ^ j.toNat)):=opI fun _ _ _ _ _ _ _ hc q=>pow_int_small hc.1 hc.2.1 hc.2.2 q
theorem unI{f:Value->Sem Value}{g:Int->Int}
  (rule:∀(i:Int) (t:Tok) (s:Shared) (Q:Value->Shared->Prop) (E:Value->Shared->Prop),Q (.int (g i) s.toks) {s with toks:=s.toks+1}->wpAny (model X.prog X.w) X.A (f (.int i t)) Q E s) :
  UnR X f (rU fun i=>.int (g i)):=by
 intro pins s σ H x v Q I rx h
 obtain⟨i,rfl,q⟩:=h
 obtain⟨t,rfl⟩:=rx
 exact rule i t s _ _ ⟨.int (g i),H,I.tok _,⟨_,rfl⟩,q⟩
theorem Kk:UnR X (unaryOp .USub) (rU fun i=>.int (-i)):=unI fun _ _ _ _ _ q=>neg_int q
end
section
variable {X:Cx}{a b c:Expr}{ta tb tc:TE}{pos:Pos}
theorem mw:OpR X (compareOp .Lt) (rI0 fun i j=>.bl (decide (i<j))):=LJ fun _ _ _ _ _ _ _ q=>lt_int q
theorem Mj:OpR X (compareOp .LtE) (rI0 fun i j=>.bl (decide (i<=j))):=LJ fun _ _ _ _ _ _ _ q=>le_int q
theorem oF:OpR X (compareOp .Gt) (rI0 fun i j=>.bl (decide (j<i))):=LJ fun _ _ _ _ _ _ _ q=>gt_int q
theorem Cs:OpR X (compareOp .GtE) (rI0 fun i j=>.bl (decide (j<=i))):=LJ fun _ _ _ _ _ _ _ q=>ge_int q
theorem OpR.or{f:Value->Value->Sem Value}{r r':R2}(h:OpR X f r)(h':OpR X f r'):OpR X f (fun x y H Q=>r x y H Q\/r' x y H Q):=by
 intro pins s σ H x y v u Q I rx ry q
 rcases q with q|q
 ·exact h pins s σ H x y v u Q I rx ry q
 ·exact h' pins s σ H x y v u Q I rx ry q
theorem aS(b:Expr){op:CmpOp}(h:op≠.In:=by decide)(h2:op≠.NotIn:=by decide):behindInMarks op b=false:=by
 have e1:(op==CmpOp.In)=false:=by cases op<;>first|rfl|exact absurd rfl h
 have e2:(op==CmpOp.NotIn)=false:=by cases op<;>first|rfl|exact absurd rfl h2
 cases b<;>simp[behindInMarks,e1,e2]
theorem LZ{op:CmpOp}{r:R2}(ho:OpR X (compareOp op) r)(ha:PE X a ta)(hb:PE X b tb)(hm:behindInMarks op b=false):PE X (.Compare a [op] [b] pos) (tOp r ta tb):=by
 intro pins s σ H Q I h
 exact wpAny_Compare1 (Ol ha hb I h fun v u s2 x y H2 I2 rx ry q=>ho pins s2 σ H2 x y v u Q I2 rx ry q) hm
noncomputable def Ms(t:TE):TT:=fun σ H Q=>t σ H fun x H'=>∃k,x = .bl k/\Q k H'
theorem LB{op:CmpOp}{r:R2}(ho:OpR X (compareOp op) r)(ha:PE X a ta)(hb:PE X b tb)(hm:behindInMarks op b=false):PT X (.Compare a [op] [b] pos) (Ms (tOp r ta tb)):=by
 intro pins s σ H Q I h
 refine wpAny_isTrue_Compare1 (thn (ha pins s σ H _ I h) fun v s1 ⟨x,H1,I1,r1,q1⟩=>thn (hb pins s1 σ H1 _ I1 q1) fun u s2 ⟨y,H2,I2,r2,q2⟩=>
  thn (ho pins s2 σ H2 x y v u _ I2 r1 r2 q2) fun c s3 ⟨z,H3,I3,r3,k,e,q3⟩=>?_) hm
 subst e
 cases r3
 exact wpAny_truthy_bool ⟨H3,I3,q3⟩
theorem vH:(sizeLine:Nat)<2 ^ 63:=by rw[sizeLine_eq];decide
theorem vals1{x:V}{us:List Value}(r:Vals [x] us):∃u,us=[u]/\RelV x u:=by
 cases r with
 |cons r1 r2=>cases r2;exact⟨_,rfl,r1⟩
theorem vals2{x y:V}{us:List Value}(r:Vals [x,y] us):∃u w',us=[u,w']/\RelV x u/\RelV y w':=by
 cases r with
 |cons r1 r2=>
  cases r2 with
  |cons r3 r4=>cases r4;exact⟨_,_,rfl,r1,r3⟩
theorem HW:jk X (.builtin "abs") (fun xs H Q=>∃i,xs=[.int i]/\Q (.int (if i<0 then -i else i)) H):=by
 intro pins s σ H xs us Q I r h
 obtain⟨i,rfl,q⟩:=h
 obtain⟨u,rfl,t,rfl⟩:=vals1 r
 exact call_abs_int fun u tk=>⟨.int (if i<0 then -i else i),H,I.tok _,⟨_,rfl⟩,q⟩
theorem Hs(hc:X.calm=true):jk X (.builtin "max") (fun xs H Q=>∃i j,xs=[.int i,.int j]/\Q (.int (if j>i then j else i)) H):=by
 intro pins s σ H xs us Q I r h
 obtain⟨i,j,rfl,q⟩:=h
 obtain⟨u,w',rfl,⟨t,rfl⟩,⟨t',rfl⟩⟩:=vals2 r
 refine max_two_ints (I.ok.hd hc) fun h' tk k=>⟨_,H,I.kept k,?_,q⟩
 by_cases hj:j>i
 ·rw[if_pos hj,if_pos hj];exact⟨_,rfl⟩
 ·rw[if_neg hj,if_neg hj];exact⟨_,rfl⟩
theorem GS(hc:X.calm=true):jk X (.builtin "min") (fun xs H Q=>∃i j,xs=[.int i,.int j]/\Q (.int (if j<i then j else i)) H):=by
 intro pins s σ H xs us Q I r h
 obtain⟨i,j,rfl,q⟩:=h
 obtain⟨u,w',rfl,⟨t,rfl⟩,⟨t',rfl⟩⟩:=vals2 r
 refine min_two_ints (I.ok.hd hc) fun h' tk k=>⟨_,H,I.kept k,?_,q⟩
 by_cases hj:j<i
 ·rw[if_pos hj,if_pos hj];exact⟨_,rfl⟩
 ·rw[if_neg hj,if_neg hj];exact⟨_,rfl⟩
theorem GK:jk X (.type "int") (fun xs H Q=>(∃i,xs=[.int i]/\Q (.int i) H)\/∃k,xs=[.bl k]/\Q (.int (if k then 1 else 0)) H):=by
 intro pins s σ H xs us Q I r h
 rcases h with ⟨i,rfl,q⟩|⟨k,rfl,q⟩
 ·obtain⟨u,rfl,t,rfl⟩:=vals1 r
  exact call_int_int ⟨.int i,H,I,⟨_,rfl⟩,q⟩
 ·obtain⟨u,rfl,r1⟩:=vals1 r
  cases r1
  exact call_int_bool ⟨.int (if k then 1 else 0),H,I.tok _,⟨_,rfl⟩,q⟩
end
end L2
namespace L2
open PySem PySem.Spec PyProof.Rows
end L2
namespace L2
open PySem PySem.Spec PyProof.Rows
structure ku(k:Nat)(A:Around):Prop where
 hd:A.handled=none
 dp:A.depth+3*k+5<recursionLimit
 un:A.units+16*k+200<cLine
theorem ku.mono{j k:Nat}{A:Around}(r:ku k A)(h:j<=k):ku j A:=⟨r.hd,by have:=r.dp;omega,by have:=r.un;omega⟩
theorem ku.deeper{k:Nat}{A:Around}(r:ku (k+1) A)(env:Env):ku k (A.deeper env):=
 ⟨r.hd,by have:=r.dp;show A.depth+1+3*k+5<_;omega,by have:=r.un;show A.units+3+16*k+200<_;omega⟩
theorem ku.depth{k:Nat}{A:Around}(r:ku k A):A.depth<recursionLimit:=by have:=r.dp;omega
theorem ku.units{k:Nat}{A:Around}(r:ku k A):A.units+64<cLine:=by have:=r.un;omega
noncomputable def P8:TA:=fun _ H Q=>Q [] H
noncomputable def OP(ta:TE)(tr:TA):TA:=fun σ H Q=>ta σ H fun x H1=>tr σ H1 fun xs H2=>Q (x::xs) H2
section
variable {X:Cx}{e:Expr}{es:List Expr}{te:TE}{t:TA}{pos:Pos}
theorem sj:PA X [] P8:=fun _ _ _ _ H Q I h=>Calls.spliced_nil ⟨[],H,I,.nil,h⟩
theorem hW(ha:PE X e te)(hr:PA X es t)(hs:starEach (e::es) X.env=(false,eval e X.env)::starEach es X.env:=by rfl):PA X (e::es) (OP te t):=by
 intro pos pins s σ H Q I h
 rw[hs]
 show wpAny _ _ (spliced ((false,eval e X.env)::backTo pos (starEach es X.env))) _ _ s
 refine Calls.spliced_cons (thn (ha pins s σ H _ I h) fun u s1 hq0=>?_)
 obtain⟨x,H1,I1,r1,q1⟩:=hq0
 exact thn (hr pos pins s1 σ H1 _ I1 q1) fun us s2 ⟨xs,H2,I2,r2,q2⟩=>⟨x::xs,H2,I2,.cons r1 r2,q2⟩
noncomputable def Qn(t:TA):TE:=fun σ H Q=>t σ H fun xs H1=>xs.length<=sizeLine/\∀p,H1 p=none->Q (.ref p) (upd H1 p (.tup xs))
noncomputable def Qr(t:TA):TE:=fun σ H Q=>t σ H fun xs H1=>xs.length<=sizeLine/\∀p,H1 p=none->Q (.ref p) (upd H1 p (.lst xs))
theorem MM{x1}(h:PA X es t):PE X (.Tuple es x1 pos) (Qn t):=by
 intro pins s σ H Q I hq
 refine wpAny_Tuple_spliced (thn (h pos pins s σ H _ I hq) fun us s1 ⟨xs,H1,I1,r,z,q⟩=>⟨by rw[<- r.length];exact z,?_⟩)
 have hf:H1 s1.heap.objs.size=none:=I1.hok.fresh (le_refl _)
 refine⟨.ref s1.heap.objs.size,upd H1 s1.heap.objs.size (.tup xs),I1.laid (t':=s1.toks) (fun b u e=>Heap.get?_push_of_some _ e) (le_refl _) ?_,rfl,q _ hf⟩
 exact⟨z,us,r,⟨_,Heap.get?_push_size _ rfl,rfl,_,rfl⟩⟩
theorem Ny(h:PA X es t):PE X (.List es pos) (Qr t):=by
 intro pins s σ H Q I hq
 refine wpAny_List_spliced (thn (h pos pins s σ H _ I hq) fun us s1 ⟨xs,H1,I1,r,z,q⟩=>⟨by rw[<- r.length];exact z,?_⟩)
 have hf:H1 s1.heap.objs.size=none:=I1.hok.fresh (le_refl _)
 refine⟨.ref s1.heap.objs.size,upd H1 s1.heap.objs.size (.lst xs),I1.laid (t':=s1.toks) (fun b u e=>Heap.get?_push_of_some _ e) (le_refl _) ?_,rfl,q _ hf⟩
 exact⟨z,us,0,r,Heap.get?_push_size _ rfl⟩
end
abbrev Sp:=List V->Hp->VK->XK->Prop
abbrev CXT:=List Env->Hp->Shared->XK->Value->Shared->Prop
structure LX(P:Program)(w:World)(K:PySem.W.Frag)(mg:Str->Option Value)(base:Heap)(A:Around)(outer:List Env)(s:Shared)(H:Hp):Prop where
 frames:A.frames=some outer
 mod:Mod K mg base
 bs:∀b o,base.get? b=some o->s.heap.get? b=some o/\H b=none
 bsz:base.objs.size<=s.heap.objs.size
 wm:s.heap.FunFrames base outer
 frf:∀b∈frs outer,H b=none
 hok:HOk P w H s.heap
 bare:AllBare s.gens
noncomputable def CE(outer:List Env)(P:Program)(w:World)(H:Hp)(s:Shared)(Q:VK)(u:Value)(s':Shared):Prop:=
 ∃v H',s'.os=s.os/\AllBare s'.gens/\Un (frs outer) [] H H' s.heap s'.heap/\HOk P w H' s'.heap/\RelV v u/\Q v H'
noncomputable def CR(CX:CXT)(outer:List Env)(P:Program)(w:World)(H:Hp)(s:Shared)(Q:VK)(E:XK)(r:Result)(s':Shared):Prop:=
 match r with
 |.ok (.ret u)=>CE outer P w H s Q u s'
 |.ok _=>False
 |.error e=>CX outer H s E e s'
structure bC(P:Program)(w:World)(K:PySem.W.Frag)(mg:Str->Option Value)(base:Heap)(CX:CXT)(k:Nat)(f:Addr)(fd:FuncData)(ps:List Str)(sp:Sp):Prop where
 len:∀vs H Q E,sp vs H Q E->vs.length=ps.length
 run:∀(A:Around) (outer:List Env) (s:Shared) (H:Hp) (args:Args) (us:List Value) (vs:List V) (Q:VK) (E:XK),ku k A->LX P w K mg base A outer s H->BindsTo s fd args (ps.zip us)->Vals vs us->sp vs H Q E ->
  codeAny (model P w) A (.call (.ref f) args) (CR CX outer P w H s Q E) s
theorem bC.imp{P:Program}{w:World}{K:PySem.W.Frag}{mg:Str->Option Value}{base:Heap}{CX:CXT}{k:Nat}{f:Addr}{fd:FuncData}{ps:List Str}{sp sp':Sp}(F:bC P w K mg base CX k f fd ps sp)
  (h:∀vs H Q E,sp' vs H Q E->sp vs H Q E):bC P w K mg base CX k f fd ps sp':=
 ⟨fun vs H Q E q=>F.len vs H Q E (h _ _ _ _ q),fun A outer s H args us vs Q E hr he hb hv hs=>F.run A outer s H args us vs Q E hr he hb hv (h _ _ _ _ hs)⟩
section
variable {X:Cx}{pins:List (Addr×Obj)}{σ:St}{H:Hp}{s s':Shared}
theorem Inv.Qf(I:Inv X pins σ H s):LX X.prog X.w X.K X.mg X.base X.A X.stack s H:=
 ⟨I.ok.frames,I.ok.mod,I.bs,le_trans I.ok.bsz I.sz,I.stack,I.nI,I.hok,I.bare⟩
theorem Inv.after{Q:VK}{u:Value}(I:Inv X pins σ H s)(h:CE X.stack X.prog X.w H s Q u s'):EP X pins σ Q u s':=by
 obtain⟨v,H',os,bare,un,hok,r,q⟩:=h
 obtain⟨hh,g,d,t,os'⟩:=s'
 obtain rfl:os'=s.os:=os
 exact⟨v,H',I.call (h':=hh) (g':=g) (d':=d) (t':=t) (ch:=[]) un hok bare (fun b z=>absurd z (by simp)),r,q⟩
end
noncomputable def O1(sp:Sp)(dvs:List V)(E:XK)(t:TA):TE:=fun σ H Q=>t σ H fun vs H1=>sp (vs++dvs) H1 Q E
noncomputable def Binds(K:PySem.W.Frag)(fd:FuncData)(ps:List Str)(ds:List Value):Prop:=
 ∀(s:Shared) (us:List Value),K.In s.heap->(us++ds).length=ps.length->BindsTo s fd ⟨us,[]⟩ (ps.zip (us++ds))
theorem Binds.all{K:PySem.W.Frag}{fd:FuncData}{ps:List Str}(h:∀us:List Value,us.length=ps.length->bindArgs fd ⟨us,[]⟩=pure (ps.zip us)):Binds K fd ps []:=fun s us _ hl=>by
 rw[append_nil] at hl ⊢
 exact .of_eq (h us hl)
noncomputable def Passes(CX:CXT)(X:Cx)(E:XK):Prop:=∀(pins:List (Addr×Obj)) (σ:St) (H:Hp) (s:Shared) (e:Value) (s':Shared),Inv X pins σ H s->CX X.stack H s E e s'->X.xe e s'
section
variable {X:Cx}{CX:CXT}{k:Nat}{f C:Addr}{fd:FuncData}{ps:List Str}{sp:Sp}{dvs:List V}{ds:List Value}{E:XK}{x m:Str}{p pos apos:Pos}{e o:Expr}{es:List Expr}{ta:TE}{t:TA}
theorem N8{pins:List (Addr×Obj)}{σ:St}{H:Hp}{s:Shared}{Q:VK}{us:List Value}{vs:List V}(F:bC X.prog X.w X.K X.mg X.base CX k f fd ps sp)(hr:ku k X.A)(hb:Binds X.K fd ps ds)(hd:Vals dvs ds)(hx:Passes CX X E)
  (I:Inv X pins σ H s) (r:Vals vs us) (h:sp (vs++dvs) H Q E):wpAny (model X.prog X.w) X.A (call (.ref f) us) (EP X pins σ Q) X.xe s:=by
 have r2:Vals (vs++dvs) (us++ds):=r.append hd
 have hl:(us++ds).length=ps.length:=by rw[<- r2.length];exact F.len _ _ _ _ h
 refine wpAny_call (codeAny_mono (F.run X.A X.stack s H ⟨us,[]⟩ (us++ds) (vs++dvs) Q E hr I.Qf (hb s us I.kIn hl) r2 h) fun r s' hq=>?_)
 cases r with
 |error e=>exact hx pins σ H s e s' I hq
 |ok fl=>
  cases fl with
  |ret u=>exact I.after hq
  |next=>exact False.elim hq
  |brk=>exact False.elim hq
  |cont=>exact False.elim hq
theorem K7(F:bC X.prog X.w X.K X.mg X.base CX k f fd ps sp)(hr:ku k X.A)(hg:Gl X x)(hm:X.mg x=some (.ref f))(hk:keepIn X.K (.ref f)=true)(hb:Binds X.K fd ps ds)(hd:Vals dvs ds)(hx:Passes CX X E)
  (ha:PA X (e::es) t) (hdb:(x==("__debug__":Str))=false:=by decide) (he:starEach (e::es) X.env=(false,eval e X.env)::starEach es X.env:=by rfl) (hpl:(backTo pos (starEach es X.env)).any (·.1)=false:=by rfl) :
  PE X (.Call (.Name x p) (e::es) [] pos) (O1 sp dvs E t):=by
 intro pins s σ H Q I h
 refine wpAny_Call_Name_kw (FV I hg hm ?_ hdb)
 refine PySem.W.callWith_K (h₀:=X.base) I.ok.mod.kin hk (thn (ha pos pins s σ H _ I h) fun us s1 ⟨vs,H1,I1,r,q⟩=>⟨I1.kIn,?_⟩) he hpl
 exact N8 F hr hb hd hx I1 r q
end
structure aM(N P:List Str)(sc:Scope):Prop where
 kind:sc.kind = .function
 co:sc.isCoroutine=false
 gen:sc.isGenerator=false
 nd:N.Nodup
 pre:N.take P.length=P
 par:∀x∈P,sc.names.lookup x=some .local\/sc.names.lookup x=some .cell
 NW:∀y∈sc.names,y.2≠.free
theorem yn{kindOf:Str->Option NameKind}{x:Str}:∀{binds:List (Str×Value)} {m:Str->Option Value},(∀v,(x,v) ∉ binds)->bindL kindOf binds m x=m x
 |[],_,_=>rfl
 |(n,v)::r,m,h=>by
  unfold bindL
  rw[yn fun w hw=>h w (mem_cons_of_mem _ hw)]
  split
  ·have:x≠n:=by rintro rfl;exact h v mem_cons_self
   simp[this]
  ·rfl
theorem xY{kindOf:Str->Option NameKind}{x:Str}:∀{binds:List (Str×Value)} {m:Str->Option Value},(∀v,(x,v) ∉ binds)->bindC kindOf binds m x=m x
 |[],_,_=>rfl
 |(n,v)::r,m,h=>by
  unfold bindC
  rw[xY fun w hw=>h w (mem_cons_of_mem _ hw)]
  split
  ·rfl
  ·have:x≠n:=by rintro rfl;exact h v mem_cons_self
   simp[this]
theorem ye{kindOf:Str->Option NameKind}{x:Str}{v:Value}:∀{P:List Str} {vs:List Value} {i:Nat} {m:Str->Option Value},P.Nodup->P[i]? = some x->vs[i]? = some v->kindOf x=some .local ->
  bindL kindOf (P.zip vs) m x=some v
 |[],_,_,_,_,h,_,_=>by simp at h
 |_::_,[],_,_,_,_,h,_=>by simp at h
 |p::P,w::vs,0,m,nd,h1,h2,hk=>by
  simp at h1 h2;subst h1;subst h2
  show bindL kindOf ((p,w)::P.zip vs) m p=_
  unfold bindL
  rw[yn fun v hv=>(List.nodup_cons.mp nd).1 (List.of_mem_zip hv).1,if_pos hk]
  simp
 |p::P,w::vs,i+1,m,nd,h1,h2,hk=>by
  show bindL kindOf ((p,w)::P.zip vs) m x=_
  unfold bindL
  exact ye (i:=i) (List.nodup_cons.mp nd).2 (by simpa using h1) (by simpa using h2) hk
theorem yH{kindOf:Str->Option NameKind}{x:Str}{v:Value}:∀{P:List Str} {vs:List Value} {i:Nat} {m:Str->Option Value},P.Nodup->P[i]? = some x->vs[i]? = some v->kindOf x≠some .local ->
  bindC kindOf (P.zip vs) m x=some v
 |[],_,_,_,_,h,_,_=>by simp at h
 |_::_,[],_,_,_,_,h,_=>by simp at h
 |p::P,w::vs,0,m,nd,h1,h2,hk=>by
  simp at h1 h2;subst h1;subst h2
  show bindC kindOf ((p,w)::P.zip vs) m p=_
  unfold bindC
  rw[xY fun v hv=>(List.nodup_cons.mp nd).1 (List.of_mem_zip hv).1,if_neg hk]
  simp
 |p::P,w::vs,i+1,m,nd,h1,h2,hk=>by
  show bindC kindOf ((p,w)::P.zip vs) m x=_
  unfold bindC
  exact yH (i:=i) (List.nodup_cons.mp nd).2 (by simpa using h1) (by simpa using h2) hk
def start(N:List Str)(vs:List V):St:=vs.map some++List.replicate (N.length-vs.length) none
def DO(CX:CXT)(P:Program)(w:World)(K:PySem.W.Frag)(mg:Str->Option Value)(base:Heap)(N:List Str)(qual:Str)(scope:Scope)(f:Addr)(cd:Value)(A:Around)(outer:List Env)(s:Shared)(H:Hp)(E:XK):Cx where
 prog:=P
 w:=w
 K:=K
 mg:=mg
 base:=base
 A:=A.deeper (envOfC qual scope s.heap.objs.size f cd)
 N:=N
 im:=s
 H₀:=H
 env:=envOfC qual scope s.heap.objs.size f cd
 outer:=outer
 stack:=envOfC qual scope s.heap.objs.size f cd::outer
 ex:=[]
 calm:=true
 fn:=fun _=>true
 pn:=[]
 xe:=fun e s'=>wpAny (model P w) (A.deeper (envOfC qual scope s.heap.objs.size f cd)) (leaving (envOfC qual scope s.heap.objs.size f cd) e) (fun _ s''=>CX outer H s E e s'') (fun e' s''=>CX outer H s E e' s'') s'
theorem Dp{sc:Scope}{n:Nat}{x:Str}(h:sc.names.lookup x=some .cell):∃c,(cellsFrom n sc.names []).lookup x=some c:=by
 have q:=PySem.W.cellsFrom_some sc.names n [] (.inl h)
 exact Option.isSome_iff_exists.mp q
theorem GQ{CX:CXT}{P:Program}{w:World}{K:PySem.W.Frag}{mg:Str->Option Value}{base:Heap}{N ps:List Str}{qual:Str}{scope:Scope}{f:Addr}{cd:Value}{A:Around}{outer:List Env}{s s1:Shared}{H:Hp}{E:XK}{us:List Value}{vs:List V}
  (S:aM N ps scope) (hd:A.handled=none) (e0:LX P w K mg base A outer s H) (hl:vs.length=ps.length) (r:Vals vs us)
  (x:InCallC s s.heap.objs.size (bindL (envOfC qual scope s.heap.objs.size f cd).kindOf (ps.zip us) fun _=>none) (cellsFrom (s.heap.objs.size+1) scope.names []) (bindC (envOfC qual scope s.heap.objs.size f cd).kindOf (ps.zip us) fun _=>none) s1) :
  Inv (DO CX P w K mg base N qual scope f cd A outer s H E) [] (start N vs) H s1:=by
 have hpl:ps.length<=N.length:=by have:=congrArg List.length S.pre;rw[length_take] at this;omega
 obtain⟨h1,tk,rfl,hk⟩:=x.done
 have noA:∀b:Addr,b ∉ (DO CX P w K mg base N qual scope f cd A outer s H E).ex:=fun b z=>absurd (show b∈([]:List Addr) from z) (by simp)
 refine⟨⟨e0.mod,S.kind,rfl,rfl,le_refl _,fun y z c h1 h2=>?_,fun y hy=>?_,fun y c _ h=>?_,fun _=>hd,.inl hd,Around.frames_deeper e0.frames,.inr ⟨rfl,rfl⟩,fun b z=>absurd z (noA b),e0.bs,e0.bsz,fun b _ _=>noA b,fun b z=>absurd z (noA b),e0.wm,e0.frf⟩,
  rfl,e0.bare,Un.kept hk,⟨_,x.toInCall.ns,fun i y v h1 h2 h3=>?_⟩,fun y c h=>⟨_,x.cell y c h⟩,e0.hok.fresh (le_refl _),fun y c h=>?_,fun p hp=>absurd (show p∈([]:List (Addr×Obj)) from hp) (by simp),e0.hok.kept hk,?_⟩
 ·exact name_of_addr x.apart (mem_of_lookup h1) (mem_of_lookup h2)
 ·have hy:scope.names.lookup y=some .cell\/scope.names.lookup y=some .free:=hy
  rcases hy with hy|hy
  ·exact Dp hy
  ·exact absurd rfl (S.NW _ (mem_of_lookup hy))
 ·exact Nat.le_of_lt (x.above y c (mem_of_lookup h))
 ·have hi:i<vs.length:=by
   unfold start at h2
   by_cases hi:i<vs.length
   ·exact hi
   ·rw[getElem?_append_right (by simpa using hi)] at h2
    rw[List.getElem?_replicate] at h2
    split at h2<;>cases h2
  have ha:vs[i]? = some v:=by
   unfold start at h2
   rw[getElem?_append_left (by simpa using hi),getElem?_map] at h2
   cases e:vs[i]? with
   |none=>rw[e] at h2;cases h2
   |some a=>rw[e] at h2;cases h2;rfl
  obtain⟨u,hu,rv⟩:=r.get ha
  have hp:ps[i]? = some y:=by
   rw[<- S.pre,List.getElem?_take_of_lt ∅];exact h1
  have ndP:ps.Nodup:=by rw[<- S.pre];exact S.nd.sublist (List.take_sublist _ _)
  refine⟨u,rv,?_⟩
  rcases S.par y (mem_of_getElem? hp) with k|k
  ·exact .inl ⟨k,ye ndP hp hu k⟩
  ·obtain⟨c,e⟩:=Dp (n:=s.heap.objs.size+1) k
   refine .inr ⟨.inl k,c,e,?_⟩
   have q:=x.cell y c e
   rw[yH ndP hp hu (by show scope.names.lookup y≠_;rw[k];decide)] at q
   exact q
 ·exact e0.hok.fresh (Nat.le_of_lt (x.above y c (mem_of_lookup h)))
 ·unfold start
  show _=N.length
  rw[length_append,length_map,List.length_replicate]
  omega
theorem Pw{CX:CXT}{P:Program}{w:World}{K:PySem.W.Frag}{mg:Str->Option Value}{base:Heap}{k:Nat}{f:Addr}{name qual:Str}{params:Arguments}{body:List Stmt}{scope:Scope}{dV kV doc pm cdv ct oc:Value}{an od:Option Addr}
  {osl:Array (Option Value)} {N ps:List Str} {sp:Sp} (lk:K.lookup f=some ⟨oc,od,.func (fnOf name qual params body scope dV kV doc pm an cdv ct),osl⟩) (hcd:codeIn K cdv qual=true) (S:aM N ps scope)
  (len:∀vs H Q E,sp vs H Q E->vs.length=ps.length)
  (hbody:∀(A:Around) (outer:List Env) (s:Shared) (H:Hp) (vs:List V) (Q:VK) (E:XK),ku k (A.deeper (envOfC qual scope s.heap.objs.size f cdv))->sp vs H Q E ->
   ∃t,PSs (DO CX P w K mg base N qual scope f cdv A outer s H E) body t/\t {nx:=fun _ H'=>Q .non H',rt:=Q} (start N vs) H) :
  bC P w K mg base CX (k+1) f (fnOf name qual params body scope dV kV doc pm an cdv ct) ps sp:=by
 refine⟨len,fun A outer s H args us vs Q E hr e0 hb r hsp=>?_⟩
 have hl:=len _ _ _ _ hsp
 have KX:K.In s.heap:=e0.mod.kin.keeps fun b o e=>(e0.bs b o e).1
 have lim:s.heap.NoLimit:=e0.mod.nolimit.keeps fun b o e=>(e0.bs b o e).1
 have hkind:∀y∈ps.zip us,scope.names.lookup y.1=some .local\/(scope.names.lookup y.1=some .cell/\((cellsFrom (s.heap.objs.size+1) scope.names []).lookup y.1).isSome=true):=fun ⟨n,v⟩ hy=>by
  rcases S.par n (List.of_mem_zip hy).1 with q|q
  ·exact .inl q
  ·exact .inr ⟨q,PySem.W.cellsFrom_some _ _ _ (.inl q)⟩
 refine codeAny_call_function hr.depth (KX _ _ lk) rfl S.co S.gen rfl (PySem.W.codeRec_of KX hcd) (hb _ _ _ _ ?_)
 refine wpAny_newFunctionEnv_cells S.kind hkind fun env he s1 x=>?_
 subst he
 refine⟨lim.keeps x.toInCall.keep,codeAny_func ?_⟩
 obtain⟨t,ht,hq⟩:=hbody A outer s H vs Q E (hr.deeper _) hsp
 have I:Inv (DO CX P w K mg base N qual scope f cdv A outer s H E) [] (start N vs) H s1:=GQ S hr.hd e0 hl r x
 refine wpAny_mono (ht [] s1 (start N vs) H _ I hq) (fun fl s' hs=>?_) fun e s' hs=>hs
 have fin:∀{bn:St} {H':Hp} {v:V} {u:Value},Inv (DO CX P w K mg base N qual scope f cdv A outer s H E) [] bn H' s'->RelV v u->Q v H'->CE outer P w H s Q u s':=
  fun {bn H' v u} J rv q=>⟨v,H',J.os,J.bare,J.base,J.hok,rv,q⟩
 cases fl with
 |ret u=>
  obtain⟨v,bn,H',J,rv,q⟩:=hs
  exact fin J rv q
 |next=>
  obtain⟨bn,H',J,q⟩:=hs
  exact fin (v:=V.non) (u:=Value.none) J rfl q
 |brk=>
  obtain⟨_,_,_,q⟩:=hs
  exact False.elim q
 |cont=>
  obtain⟨_,_,_,q⟩:=hs
  exact False.elim q
end L2
namespace L2
open PySem PySem.Spec PyProof.Rows
section
variable {X:Cx}{x:Str}{p pos:Pos}{e:Expr}{es:List Expr}{t:TA}{id T:String}{r:List V->Hp->VK->Prop}
noncomputable def tCB(r:List V->Hp->VK->Prop)(t:TA):TE:=fun σ H Q=>t σ H fun vs H1=>r vs H1 Q
theorem uM(hc:jk X (.builtin id) r)(hg:Gl X x)(hm:X.mg x=none)(hv:bootBuiltins x=some (.builtin id))(ha:PA X (e::es) t)(hn:x ≠ "__name__":=by decide)(hdb:(x==("__debug__":Str))=false:=by decide)
  (he:starEach (e::es) X.env=(false,eval e X.env)::starEach es X.env:=by rfl) (hpl:(backTo pos (starEach es X.env)).any (·.1)=false:=by rfl):PE X (.Call (.Name x p) (e::es) [] pos) (tCB r t):=by
 intro pins s σ H Q I h
 refine wpAny_Call_Name_kw (nj I hg hm hv ?_ hn hdb)
 exact PyProof.Rows.callWith_builtin1 (thn (ha pos pins s σ H _ I h) fun us s1 ⟨vs,H1,I1,r1,q1⟩=>hc pins s1 σ H1 vs us Q I1 r1 q1) he hpl
theorem HL(hc:jk X (.type T) r)(hg:Gl X x)(hm:X.mg x=none)(hv:bootBuiltins x=some (.type T))(ha:PA X (e::es) t)(hn:x ≠ "__name__":=by decide)(hdb:(x==("__debug__":Str))=false:=by decide)
  (he:starEach (e::es) X.env=(false,eval e X.env)::starEach es X.env:=by rfl) (hpl:(backTo pos (starEach es X.env)).any (·.1)=false:=by rfl):PE X (.Call (.Name x p) (e::es) [] pos) (tCB r t):=by
 intro pins s σ H Q I h
 refine wpAny_Call_Name_kw (nj I hg hm hv ?_ hn hdb)
 exact PyProof.Rows.callWith_type1 (thn (ha pos pins s σ H _ I h) fun us s1 ⟨vs,H1,I1,r1,q1⟩=>hc pins s1 σ H1 vs us Q I1 r1 q1) he hpl
end
end L2
namespace HT
open PySem PyProof.Rows
section
open PySem.SeqAt
open PySem.AutoSeq1 (wpAny_loadPart')
open PySem.MeetsSeq PySem.MeetsSeq2 PySem.MeetsSeq3
end
section
variable {prog:Program}{w:World}{A:Around}{E:Value->Shared->Prop}{s:Shared}
theorem KN{t b:Addr}{vs ws:List Value}{Q:Value->Shared->Prop}(ht:IsTup s.heap t vs.toArray)(hb:IsTup s.heap b ws.toArray)(hv:vs≠[])
  (h1:ws=[]->Q (.ref t) s) (h2:ws≠[]->Q (.ref s.heap.objs.size) {s with heap:=s.heap.push {cls:=.type "tuple",data:=.seq (vs++ws).toArray}})
  (hsz:vs.length+ws.length<=sizeLine):wpAny (model prog w) A (binaryOp .Add (.ref t) (.ref b)) Q E s:=by
 obtain⟨⟨cls,dd,data,sl⟩,ho,hc,n,hd⟩:=id ht
 obtain⟨⟨cls2,dd2,data2,sl2⟩,ho2,hc2,n2,hd2⟩:=id hb
 simp only at hc hd hc2 hd2
 subst hc hd hc2 hd2
 have e:vs.toArray++ws.toArray=(vs++ws).toArray:=by simp
 by_cases hw:ws=[]
 ·exact concat_meets ⟨_,ho,rfl⟩ ⟨_,ho2,rfl⟩ noFill_tuple_add seq_tuple_add PySem.F.slot_tuple_add PySem.F.entry_tuple_add (PySem.F.args_tuple_add_2 _ _)
   (tuple_addW1 t b vs.toArray ws.toArray n n2 dd dd2 sl sl2 (by simpa using hv) (by simp[hw])) ⟨ho,ho2,h1 hw⟩
 ·refine concat_meets ⟨_,ho,rfl⟩ ⟨_,ho2,rfl⟩ noFill_tuple_add seq_tuple_add PySem.F.slot_tuple_add PySem.F.entry_tuple_add (PySem.F.args_tuple_add_2 _ _)
   (tuple_addW2 t b vs.toArray ws.toArray n n2 dd dd2 sl sl2 (by simpa using hv) (by simpa using hw) (by rw[size_toArray,size_toArray];exact hsz)) ⟨ho,ho2,?_⟩
  rw[e]
  exact h2 hw
def sIx(n d:Nat):Option Int->Nat
 |none=>d
 |some v=>if v<0 then (v+(n:Int)).toNat else min v.toNat n
end
end HT
namespace L2
open PySem PySem.Spec PyProof.Rows
abbrev TO:=St->Hp->(Option Int->Hp->Prop)->Prop
section
variable {X:Cx}{e:Expr}{te:TE}{lo hi:Option Expr}{tl th:TO}{pos p2:Pos}
noncomputable def SlR(X:Cx)(r:V->Option Int->Option Int->Hp->VK->Prop):Prop:=
 ∀(pins:List (Addr×Obj)) (s:Shared) (σ:St) (H:Hp) (x:V) (v vl vu:Value) (lo hi:Option Int) (sl:Addr) (Q:VK),Inv X pins σ H s->RelV x v->s.heap.IsSliceOf sl vl vu .none->IsPart vl lo->IsPart vu hi->r x lo hi H Q ->
  ∃T id,typeLookup (.type T) "__getitem__"=pure (some (.builtin id))/\s.TypeIs v T/\wpAny (model X.prog X.w) X.A (getItem v (.ref sl)) (EP X pins σ Q) X.xe s
def KO(xs:List V)(lo hi:Option Int):List V:=(xs.drop (HT.sIx xs.length 0 lo)).take (HT.sIx xs.length xs.length hi-HT.sIx xs.length 0 lo)
theorem BU(xs:List V)(lo hi:Option Int):(KO xs lo hi).length<=xs.length:=by
 unfold KO
 rw[length_take,List.length_drop]
 omega
noncomputable def OS(K:PySem.W.Frag):R2:=fun x y H Q=>∃a b xs ys,x = .ref a/\y = .ref b/\SqT K H a xs/\SqT K H b ys/\xs≠[]/\xs.length+ys.length<=sizeLine /\
 (ys=[]->Q (.ref a) H)/\(ys≠[]->∀p,H p=none->Q (.ref p) (upd H p (.tup (xs++ys))))
theorem Vals.AG{xs:List V}{us:List Value}(r:Vals xs us):us=[]↔xs=[]:=by
 cases r with
 |nil=>simp
 |cons _ _=>simp
theorem LQ:OpR X (binaryOp .Add) (OS X.K):=by
 intro pins s σ H x y v u Q I rx ry h
 obtain⟨a,b,xs,ys,rfl,rfl,ha,hb,hx,hz,q1,q2⟩:=h
 cases rx
 cases ry
 obtain⟨its,r1,p1,_⟩:=I.tuple ha
 obtain⟨its2,r2,p2,_⟩:=I.tuple hb
 refine HT.KN p1 p2 (fun z=>hx (r1.AG.mp z)) (fun z=>⟨.ref a,H,I,rfl,q1 (r2.AG.mp z)⟩) (fun z=>?_) (by rw[<- r1.length,<- r2.length];exact hz)
 refine⟨.ref s.heap.objs.size,_,I.laid (t':=s.toks) (o:=.tup (xs++ys)) (fun b ob q=>Heap.get?_push_of_some _ q) (le_refl _) ?_,rfl,q2 (fun w=>z (r2.AG.mpr w)) _ (I.hok.fresh (le_refl _))⟩
 exact⟨by rw[length_append];exact hz,_,r1.append r2,IsTup.new _ _⟩
end
end L2
namespace L2
open PySem PySem.Spec PyProof.Rows
def ixN(n:Nat)(i:Int):Option Nat:=if 0<=i then (if i<n then some i.toNat else none) else if -(n:Int)<=i then some (i+n).toNat else none
def atI{α:Type}(xs:List α)(i:Int):Option α:=(ixN xs.length i).bind fun j=>xs[j]?
theorem Gh{n:Nat}{i:Int}{j:Nat}(h:ixN n i=some j):seqIndex? i n=some j/\j<n/\-(n:Int)<=i/\i<n:=by
 unfold ixN at h
 by_cases h0:0<=i
 ·rw[if_pos h0] at h
  by_cases h1:i<n
  ·rw[if_pos h1] at h
   have e:i.toNat=j:=Option.some.inj h
   exact⟨by rw[seqIndex_of h0 h1,e],∅,∅,h1⟩
  ·rw[if_neg h1] at h;cases h
 ·rw[if_neg h0] at h
  by_cases h1:-(n:Int)<=i
  ·rw[if_pos h1] at h
   have e:(i+n).toNat=j:=Option.some.inj h
   exact⟨by rw[seqIndex_neg ∅ h1,e],∅,h1,∅⟩
  ·rw[if_neg h1] at h;cases h
theorem zh{α:Type}{xs:List α}{i:Int}{v:α}(h:atI xs i=some v):∃j,seqIndex? i xs.length=some j/\xs[j]? = some v/\j<xs.length/\-(xs.length:Int)<=i/\i<xs.length:=by
 unfold atI at h
 cases e:ixN xs.length i with
 |none=>rw[e] at h;cases h
 |some j=>
  rw[e] at h
  obtain⟨h1,h2,h3,h4⟩:=Gh e
  exact⟨j,h1,h,h2,h3,h4⟩
theorem um{α:Type}{xs:List α}{j:Nat}{v:α}(h:xs[j]? = some v):atI xs (j:Int)=some v:=by
 have hj:j<xs.length:=(List.getElem?_eq_some_iff.mp h).1
 have e:ixN xs.length (j:Int)=some j:=by
  unfold ixN
  rw[if_pos ∅,if_pos ∅];simp
 unfold atI;rw[e];exact h
noncomputable def yW(b:Expr):Prop:=∀o i,subscripted b false o i=operate [o,i] (getItem o i)
noncomputable def IxR(X:Cx)(r:R2):Prop:=
 ∀(value slice:Expr) (pins:List (Addr×Obj)) (s:Shared) (σ:St) (H:Hp) (x y:V) (v u:Value) (Q:VK),Inv X pins σ H s->RelV x v->RelV y u->r x y H Q ->
  subscripted slice false v u=operate [v,u] (getItem v u)->wpAny (model X.prog X.w) X.A (subscriptTail value slice v u) (EP X pins σ Q) X.xe s
noncomputable def MtR(X:Cx)(id:String)(r:V->List V->Hp->VK->Prop):Prop:=
 ∀(pins:List (Addr×Obj)) (s:Shared) (σ:St) (H:Hp) (x:V) (xs:List V) (v:Value) (us:List Value) (Q:VK),Inv X pins σ H s->RelV x v->Vals xs us->r x xs H Q ->
  wpAny (model X.prog X.w) X.A (call (.builtin id) (v::us)) (EP X pins σ Q) X.xe s
section
variable {X:Cx}{a b:Expr}{ta tb:TE}{pos:Pos}
theorem IxR.or{r r':R2}(h:IxR X r)(h':IxR X r'):IxR X (fun x y H Q=>r x y H Q\/r' x y H Q):=by
 intro value slice pins s σ H x y v u Q I rx ry q hs
 rcases q with q|q
 ·exact h value slice pins s σ H x y v u Q I rx ry q hs
 ·exact h' value slice pins s σ H x y v u Q I rx ry q hs
theorem Mk{r:R2}(hr:IxR X r)(ha:PE X a ta)(hb:PE X b tb)(hs:yW b):PE X (.Subscript a b pos) (tOp r ta tb):=by
 intro pins s σ H Q I h
 exact Subscript_ (Ol ha hb I h fun v u s2 x y H2 I2 rx ry q=>hr a b pins s2 σ H2 x y v u Q I2 rx ry q (hs _ _))
noncomputable def OB(K:PySem.W.Frag):R2:=fun x y H Q=>∃p xs i v,x = .ref p/\y = .int i/\SqL K H p xs/\atI xs i=some v/\Q v H
noncomputable def OV(K:PySem.W.Frag):R2:=fun x y H Q=>∃p xs i v,x = .ref p/\y = .int i/\SqT K H p xs/\atI xs i=some v/\Q v H
noncomputable def PR:R2:=fun x y H Q=>∃z i c,x = .str z/\y = .int i/\z.length<=sizeLine/\atI z.cps.toList i=some c/\Q (.str ⟨#[c]⟩) H
theorem LR:IxR X (OB X.K):=by
 intro value slice pins s σ H x y v u Q I rx ry h hs
 obtain⟨p,xs,i,z,rfl,rfl,hq,he,q⟩:=h
 cases rx
 obtain⟨t,rfl⟩:=ry
 obtain⟨its,r,pl,hz⟩:=I.list hq
 obtain⟨j,h1,h2,h3,h4,h5⟩:=zh he
 obtain⟨w,ew,rw'⟩:=r.get h2
 have hl:=r.length
 have hn:=vH
 have fin:EP X pins σ Q w s:=⟨z,H,I,rw',q⟩
 by_cases h0:0<=i
 ·have hj:i.toNat=j:=by
   rw[seqIndex_of h0 h5] at h1
   exact Option.some.inj h1
  exact item_listR pl.isList h0 ∅ (by rw[hj];simpa using ew) fin hs
 ·have hj:(i+(its.toArray.size:Int)).toNat=j:=by
   rw[seqIndex_neg ∅ h4] at h1
   rw[size_toArray,<- hl]
   exact Option.some.inj h1
  exact subscriptTail_builtinR (x:=w) pl.isList.typeIs slot_list_getitem.lookup
   (wpAny_getItem_list_neg (Q:=fun r s'=>r=w/\EP X pins σ Q r s') pl.isList ∅ (by rw[size_toArray]<;>omega) ∅ (by rw[hj];simpa using ew) ⟨rfl,fin⟩) hs
theorem M6:IxR X (OV X.K):=by
 intro value slice pins s σ H x y v u Q I rx ry h hs
 obtain⟨p,xs,i,z,rfl,rfl,hq,he,q⟩:=h
 cases rx
 obtain⟨t,rfl⟩:=ry
 obtain⟨its,r,pl,hz⟩:=I.tuple hq
 obtain⟨j,h1,h2,h3,h4,h5⟩:=zh he
 obtain⟨w,ew,rw'⟩:=r.get h2
 have hl:=r.length
 have hn:=vH
 have fin:EP X pins σ Q w s:=⟨z,H,I,rw',q⟩
 exact subscriptTail_builtinR (x:=w) pl.typeIs slot_tuple_getitem.lookup
  (getItem_tuple (j:=j) (Q:=fun r s'=>r=w/\EP X pins σ Q r s') pl ∅ ∅ (by rw[size_toArray,<- hl];exact h1) (by simpa using ew) ⟨rfl,fin⟩) hs
theorem NG:IxR X PR:=by
 intro value slice pins s σ H x y v u Q I rx ry h hs
 obtain⟨z,i,c,rfl,rfl,hz,he,q⟩:=h
 obtain⟨t,rfl⟩:=rx
 obtain⟨t',rfl⟩:=ry
 obtain⟨j,h1,h2,h3,h4,h5⟩:=zh he
 have hl:z.cps.toList.length=z.length:=by simp[Str.length]
 rw[hl] at h1 h4 h5
 have hn:=vH
 exact tail_any (typeIs_str s z t) slot_str_getitem.lookup (getItem_str (c:=c) (by
  have e1:decide (i < -(2 ^ 63:Int))=false:=decide_eq_false ∅
  have e2:decide (i ≥ 2 ^ 63)=false:=decide_eq_false ∅
  rw[e1,e2,Bool.or_false]) (by rw[h1];simpa using h2) ⟨.str ⟨#[c]⟩,H,I.tok _,⟨_,rfl⟩,q⟩) hs
noncomputable def rIx(K:PySem.W.Frag):R2:=fun x y H Q=>OB K x y H Q\/OV K x y H Q\/PR x y H Q
theorem Iu:IxR X (rIx X.K):=LR.or (M6.or NG)
theorem EF(its:List Value)(n j:Nat)(u:Value):Obj.mapSeq (·.setIfInBounds j u) {cls:=.type "list",data:=.seq its.toArray n} = {cls:=.type "list",data:=.seq (its.set j u).toArray n}:=by
 simp[Obj.mapSeq]
theorem Inv.lst{pins:List (Addr×Obj)}{σ:St}{H:Hp}{s:Shared}{p:Addr}{xs:List V}(I:Inv X pins σ H s)(h:H p=some (.lst xs)) :
  ∃(its:List Value) (n:Nat),Vals xs its/\s.heap.get? p=some {cls:=.type "list",data:=.seq its.toArray n}/\xs.length<=sizeLine:=by
 obtain⟨z,its,n,r,e⟩:=I.hok p _ h
 exact⟨its,n,r,e,z⟩
theorem Inv.M8{pins:List (Addr×Obj)}{σ:St}{H:Hp}{s:Shared}{p:Addr}{xs ys:List V}{its its':List Value}{n n':Nat}{f:Obj->Obj}(I:Inv X pins σ H s)(h:H p=some (.lst xs))
  (ho:s.heap.get? p=some {cls:=.type "list",data:=.seq its.toArray n}) (hf:f {cls:=.type "list",data:=.seq its.toArray n} = {cls:=.type "list",data:=.seq its'.toArray n'}) (r:Vals ys its') (hz:ys.length<=sizeLine) (t:Nat) :
  Inv X pins σ (upd H p (.lst ys)) {s with heap:=s.heap.update p f,toks:=t}:=by
 have e:(s.heap.update p f).get? p=some {cls:=.type "list",data:=.seq its'.toArray n'}:=by
  rw[Heap.get?_update_self f ho (by rw[hf]<;>rfl),hf]
 refine I.write (x:=p) (e:=p) (by rw[h];trivial) (.inl rfl) (fun b u hb q=>(Heap.get?_update_other _ _ (Ne.symm hb)).trans q) ⟨_,e⟩ ?_
 exact⟨hz,its',n',r,e⟩
def Po:V->V->V->Hp->(Hp->Prop)->Prop:=fun o i v H Q=>∃p xs k j,o = .ref p/\i = .int k/\H p=some (.lst xs)/\ixN xs.length k=some j/\Q (upd H p (.lst (xs.set j v)))
theorem set_list:Pn X Po:=by
 intro pins s σ H o i v ov iv u Q I ro ri rv h
 obtain⟨p,xs,k,j,rfl,rfl,hp,hj,q⟩:=h
 cases ro
 obtain⟨t,rfl⟩:=ri
 obtain⟨its,n,r,ho,hz⟩:=I.lst hp
 obtain⟨h1,h2,h3,h4⟩:=Gh hj
 have hl:=r.length
 have hn:=vH
 have I':Inv X pins σ (upd H p (.lst (xs.set j v))) {s with heap:=s.heap.update p (Obj.mapSeq (·.setIfInBounds j u))}:=
  I.M8 hp ho (EF its n j u) (r.set rv j) (by rw[List.length_set];exact hz) s.toks
 by_cases h0:0<=k
 ·have hk:k.toNat=j:=by
   rw[seqIndex_of h0 h4] at h1
   exact Option.some.inj h1
  exact PySem.W.ki_setAt ho h0 ∅ (by rw[size_toArray,<- hl];exact h4) (by rw[hk];exact⟨_,I',q⟩)
 ·have hk:(k+(its.toArray.size:Int)).toNat=j:=by
   rw[seqIndex_neg ∅ h3] at h1
   rw[size_toArray,<- hl]
   exact Option.some.inj h1
  exact PySem.W.ki_setBack ho ∅ (by rw[size_toArray,<- hl];exact h3) ∅ (by rw[hk];exact⟨_,I',q⟩)
theorem AF(lo hi:Option Int)(n:Nat):(sliceBounds lo hi none n).1=((HT.sIx n 0 lo:Nat):Int)/\(sliceBounds lo hi none n).2.1=((HT.sIx n n hi:Nat):Int)/\(sliceBounds lo hi none n).2.2=1:=by
 refine⟨?_,?_,rfl⟩
 ·cases lo with
  |none=>simp[sliceBounds,HT.sIx]
  |some i=>
   simp only[sliceBounds,HT.sIx,Option.getD_none,show (1:Int)>0 by decide,if_true]
   by_cases h:i<0
   ·simp only[h,if_true]<;>omega
   ·simp only[h,if_false]<;>omega
 ·cases hi with
  |none=>simp[sliceBounds,HT.sIx]
  |some i=>
   simp only[sliceBounds,HT.sIx,Option.getD_none,show (1:Int)>0 by decide,if_true]
   by_cases h:i<0
   ·simp only[h,if_true]<;>omega
   ·simp only[h,if_false]<;>omega
theorem xr(its:List Value)(lo hi:Option Int):slicePick its.toArray lo hi none=((its.drop (HT.sIx its.length 0 lo)).take (HT.sIx its.length its.length hi-HT.sIx its.length 0 lo)).toArray:=by
 obtain⟨h1,h2,h3⟩:=AF lo hi its.toArray.size
 unfold slicePick
 rw[h1,h2,h3]
 simp only[sliceRange_one,pick_run,size_toArray]<;>rfl
def Qu(K:PySem.W.Frag):V->Option Int->Option Int->Hp->VK->Prop:=fun x lo hi H Q=>∃a xs,x = .ref a/\SqL K H a xs/\∀p,H p=none->Q (.ref p) (upd H p (.lst (KO xs lo hi)))
theorem PU:SlR X (Qu X.K):=by
 intro pins s σ H x v vl vu lo hi sl Q I rx hs pl pu h
 obtain⟨a,xs,rfl,hx,q⟩:=h
 cases rx
 obtain⟨its,r,ht,hz⟩:=I.list hx
 have hlen:=r.length
 refine⟨"list",_,slot_list_getitem.lookup,ht.isList.typeIs,?_⟩
 refine wpAny_getItem_list_slice ht.isList hs pl pu .none (by simp) ?_ (by rw[size_toArray]<;>omega)
 rw[xr,<- hlen]
 refine⟨.ref s.heap.objs.size,_,I.laid (t':=s.toks) (o:=.lst (KO xs lo hi)) (fun b ob q=>Heap.get?_push_of_some _ q) (le_refl _) ?_,rfl,q _ (I.hok.fresh (le_refl _))⟩
 exact⟨le_trans (BU xs lo hi) hz,_,0,(r.drop (HT.sIx xs.length 0 lo)).take (HT.sIx xs.length xs.length hi-HT.sIx xs.length 0 lo),Heap.get?_push_size _ rfl⟩
theorem qi:jk X (.builtin "len") (fun xs H Q=>∃p ys,xs=[.ref p]/\(SqL X.K H p ys\/SqT X.K H p ys)/\Q (.int ys.length) H):=by
 intro pins s σ H xs us Q I r h
 obtain⟨p,ys,rfl,hq,q⟩:=h
 obtain⟨u,rfl,rx⟩:=vals1 r
 cases rx
 have hn:=vH
 rcases hq with hq|hq
 ·obtain⟨its,r',pl,hz⟩:=I.list hq
  have hlen:=r'.length
  exact Calls.call_len_list pl.isList (by simp only[size_toArray]<;>omega) ⟨.int ys.length,H,I.tok _,⟨s.toks+1,by rw[size_toArray,hlen]⟩,q⟩
 ·obtain⟨its,r',pl,hz⟩:=I.tuple hq
  have hlen:=r'.length
  exact len_tuple pl (by simp only[size_toArray]<;>omega) ⟨.int ys.length,H,I.tok _,⟨s.toks+1,by rw[size_toArray,hlen]⟩,q⟩
theorem xC:jk X (.type "tuple") (fun xs H Q=>∃p ys,xs=[.ref p]/\((SqL X.K H p ys/\∀l,H l=none->Q (.ref l) (upd H l (.tup ys)))\/(SqT X.K H p ys/\Q (.ref p) H))):=by
 intro pins s σ H xs us Q I r h
 obtain⟨p,ys,rfl,h⟩:=h
 obtain⟨u,rfl,rx⟩:=vals1 r
 cases rx
 rcases h with ⟨hq,q⟩|⟨hq,q⟩
 ·obtain⟨its,r',pl,hz⟩:=I.list hq
  have hlen:=r'.length
  refine call_tuple_list pl.isList (fun h' kp=>?_) (by simp only[size_toArray]<;>omega)
  have I1:Inv X pins σ H {s with heap:=h'}:=I.kept (t':=s.toks) kp
  have I2:Inv X pins σ (upd H h'.objs.size (.tup ys)) {s with heap:=h'.push {cls:=.type "tuple",data:=.seq its.toArray}}:=
   I1.laid (t':=s.toks) (fun b o e=>Heap.get?_push_of_some _ e) (le_refl _) (show iI X.prog X.w _ _ _ (.tup ys) from ⟨hz,its,r',IsTup.new _ _⟩)
  exact⟨.ref h'.objs.size,_,I2,rfl,q _ (I1.hok.fresh (le_refl _))⟩
 ·obtain⟨its,r',pl,hz⟩:=I.tuple hq
  exact call_tuple_same pl ⟨.ref p,H,I,rfl,q⟩
noncomputable def tyV(K:PySem.W.Frag)(T:String)(x:V)(H:Hp):Prop:=match x with
 |.str _=>T = "str"
 |.int _=>T = "int"
 |.ref p=>(T = "list"/\∃xs,SqL K H p xs)\/(T = "tuple"/\∃o,K.lookup p=some o/\o.cls = .type "tuple"/\o.dict=none) \/
   (T = "dict"/\((∃kvs,H p=some (.dK kvs))\/∃kvs,H p=some (.dT kvs)))\/(T = "set"/\∃S n,H p=some (.set S n))
 |_=>False
theorem I0{pins:List (Addr×Obj)}{σ:St}{H:Hp}{s:Shared}{T:String}{x:V}{v:Value}(I:Inv X pins σ H s)(r:RelV x v)(ty:tyV X.K T x H) :
  s.TypeIs v T/\∀a,v = .ref a->∃ob,s.heap.get? a=some ob/\ob.dict=none:=by
 cases x with
 |str z=>
  obtain⟨t,rfl⟩:=r
  cases (show T = "str" from ty)
  exact⟨typeIs_str s z t,fun _ e=>nomatch e⟩
 |int i=>
  obtain⟨t,rfl⟩:=r
  cases (show T = "int" from ty)
  exact⟨typeIs_int s i t,fun _ e=>nomatch e⟩
 |ref p=>
  cases r
  rcases ty with ⟨rfl,xs,hq⟩|⟨rfl,o,hk,hc,hd⟩|⟨rfl,hk⟩|⟨rfl,S,n,hk⟩
  ·obtain⟨its,_,pl,_⟩:=I.list hq
   refine⟨pl.isList.typeIs,fun a e=>?_⟩
   cases e
   obtain⟨o,n,e,c,hd,_⟩:=pl
   exact⟨o,e,hd⟩
  ·refine⟨⟨o,I.kIn p o hk,hc⟩,fun a e=>?_⟩
   cases e
   exact⟨o,I.kIn _ o hk,hd⟩
  ·have z:∃o,s.heap.get? p=some o/\o.ExactDict:=by
    rcases hk with ⟨kvs,hk⟩|⟨kvs,hk⟩
    ·obtain⟨_,_,_,_,o,_,_,e,ex,_⟩:=I.hok p _ hk
     exact⟨o,e,ex⟩
    ·obtain⟨_,_,_,_,o,_,_,e,ex,_⟩:=I.hok p _ hk
     exact⟨o,e,ex⟩
   obtain⟨o,e,ex⟩:=z
   refine⟨⟨o,e,ex.1⟩,fun a e2=>?_⟩
   cases e2
   exact⟨o,e,ex.2.1⟩
  ·obtain⟨o,_,_,_,e,ex,_⟩:=I.hok p _ hk
   refine⟨⟨o,e,ex.1⟩,fun a e2=>?_⟩
   cases e2
   exact⟨o,e,ex.2.1⟩
 |_=>exact False.elim ty
noncomputable def Qi(K:PySem.W.Frag)(T:String)(r:V->List V->Hp->VK->Prop)(to:TE):TE:=fun σ H Q=>to σ H fun x H1=>tyV K T x H1/\r x [] H1 Q
noncomputable def tBM(K:PySem.W.Frag)(T:String)(r:V->List V->Hp->VK->Prop)(to:TE)(t:TA):TE:=fun σ H Q=>to σ H fun x H1=>tyV K T x H1/\t σ H1 fun xs H2=>r x xs H2 Q
variable {o e:Expr}{es:List Expr}{to:TE}{t:TA}{name:Str}{apos cpos:Pos}{T id:String}{r:V->List V->Hp->VK->Prop}
theorem Oo(pa:PlainAttrs T)(slot:Slot T name id)(hty:typeOf (.builtin id)=pure (.type "method_descriptor"))(hm:MtR X id r)(ho:PE X o to)
  (hbase:attributeBase o name X.env (eval o X.env)=eval o X.env:=by rfl) (hline:(apos.endLine==cpos.line)=true:=by rfl):PE X (.Call (.Attribute o name apos) [] [] cpos) (Qi X.K T r to):=by
 intro pins s σ H Q I h
 refine wpAny_Call_method0_late hbase hline (thn (ho pins s σ H _ I h) fun v s1 hq0=>?_)
 obtain⟨x,H1,I1,r1,ty,q1⟩:=hq0
 obtain⟨h1,h2⟩:=I0 I1 r1 ty
 exact⟨T,id,pa,slot,hty,h1,h2,Calls.callWith_builtin rfl (PySem.evalArgs_none (hm pins s1 σ H1 x [] v [] Q I1 r1 .nil q1))⟩
theorem JJ(pa:PlainAttrs T)(slot:Slot T name id)(hty:typeOf (.builtin id)=pure (.type "method_descriptor"))(hm:MtR X id r)(ho:PE X o to)(ha:PA X (e::es) t)
  (hbase:attributeBase o name X.env (eval o X.env)=eval o X.env:=by rfl)
  (hfew:((backTo cpos (starEach (e::es) X.env)).all (fun x=>!x.1)&&(backToKw cpos (keywordEach [] X.env)).all (fun x=>x.1.isSome)
   && decide ((e::es).length+([]:List Keyword).length+(if ([]:List Keyword).isEmpty then 0 else 1)<30))=true:=by rfl)
  (hline:(apos.endLine==cpos.line)=true:=by rfl) (hs:starEach (e::es) X.env=(false,eval e X.env)::starEach es X.env:=by rfl) (hplain:(backTo cpos (starEach es X.env)).any (·.1)=false:=by rfl) :
  PE X (.Call (.Attribute o name apos) (e::es) [] cpos) (tBM X.K T r to t):=by
 intro pins s σ H Q I h
 refine wpAny_Call_method_late hbase hfew hline rfl (thn (ho pins s σ H _ I h) fun v s1 hq0=>?_)
 obtain⟨x,H1,I1,r1,ty,q1⟩:=hq0
 obtain⟨h1,h2⟩:=I0 I1 r1 ty
 refine⟨T,id,pa,slot,hty,h1,h2,?_⟩
 have hA:=ha cpos pins s1 σ H1 _ I1 q1
 rw[hs] at hA ⊢
 refine Calls.callWith_builtin (by show (false || (backTo cpos (starEach es X.env)).any (·.1))=false;rw[hplain]<;>rfl) (Calls.evalArgs_plain ?_)
 exact thn hA fun us s2 ⟨vs,H2,I2,r2,q2⟩=>hm pins s2 σ H2 x vs v us Q I2 r1 r2 q2
end
end L2
namespace L2
open PySem PySem.Spec PyProof.Rows
noncomputable def MtM(X:Cx)(id:String)(r:V->List V->Hp->VK->Prop):Prop:=
 ∀(pins:List (Addr×Obj)) (s:Shared) (σ:St) (H:Hp) (x:V) (xs:List V) (v:Value) (us:List Value) (Q:VK),Inv X pins σ H s->RelV x v->Vals xs us->r x xs H Q ->
  wpAny (model X.prog X.w) X.A (call (.builtin id) (v::us)) (EP X pins σ Q) X.xe s
theorem Vals.one:∀{x:V} {us:List Value},Vals [x] us->∃u,us=[u]/\RelV x u
 |_,_,.cons r .nil=>⟨_,rfl,r⟩
theorem Vals.zero:∀{us:List Value},Vals [] us->us=[]
 |_,.nil=>rfl
theorem Vals.dropLast{xs:List V}{us:List Value}(h:Vals xs us):Vals xs.dropLast us.dropLast:=by
 induction h with
 |nil=>exact .nil
 |cons r t ih=>
  cases t with
  |nil=>exact .nil
  |cons q t'=>exact .cons r ih
theorem Vals.eraseIdx:∀{xs:List V} {us:List Value} (i:Nat),Vals xs us->Vals (xs.eraseIdx i) (us.eraseIdx i)
 |_,_,_,.nil=>.nil
 |_,_,0,.cons _ t=>t
 |_,_,i+1,.cons r t=>.cons r (Vals.eraseIdx i t)
theorem Vals.reverse{xs:List V}{us:List Value}(h:Vals xs us):Vals xs.reverse us.reverse:=by
 induction h with
 |nil=>exact .nil
 |cons r t ih=>rw[reverse_cons,reverse_cons];exact Vals.append ih (.cons r .nil)
theorem Vals.rep{xs:List V}{us:List Value}(h:Vals xs us):∀k:Nat,Vals (List.replicate k xs).flatten (List.replicate k us).flatten
 |0=>.nil
 |k+1=>by
  rw[replicate_succ,replicate_succ,flatten_cons,flatten_cons]
  exact Vals.append h (Vals.rep h k)
theorem DR{α:Type}(l:List α):l.eraseIdx (l.length-1)=l.dropLast:=by
 induction l with
 |nil=>rfl
 |cons a r ih=>
  cases r with
  |nil=>rfl
  |cons b r=>
   have e:(a::b::r).length-1=((b::r).length-1)+1:=by
    have h1:(a::b::r).length=r.length+2:=rfl
    have h2:(b::r).length=r.length+1:=rfl
    omega
   rw[e,List.eraseIdx_cons_succ,ih]
   all_goals rfl
theorem yE{α:Type}:∀(l:List α) (i:Nat),(l.eraseIdx i).length<=l.length
 |[],_=>le_refl _
 |_::_,0=>Nat.le_succ _
 |_::r,i+1=>Nat.succ_le_succ (yE r i)
theorem foldl_rep(its:List Value):∀(k:Nat) (acc:List Value),
  List.foldl (fun x1 x2=>x1++x2) acc.toArray (List.replicate k its.toArray)=(acc++(List.replicate k its).flatten).toArray
 |0,acc=>by simp
 |k+1,acc=>by
  have e:acc.toArray++its.toArray=(acc++its).toArray:=by simp
  have e2:(acc++its)++(List.replicate k its).flatten=acc++(List.replicate (k+1) its).flatten:=by
   rw[replicate_succ,flatten_cons,append_assoc]
  rw[<- e2,<- foldl_rep its k (acc++its),<- e,replicate_succ,List.foldl_cons]
section
variable {X:Cx}{pins:List (Addr×Obj)}{σ:St}{H:Hp}{s:Shared}{l b:Addr}{xs ys zs:List V}
theorem Inv.GP{its its':List Value}{n:Nat}{f:Array Value->Array Value}{t':Nat}(I:Inv X pins σ H s)(hH:H l=some (.lst xs))
  (e:s.heap.get? l=some {cls:=.type "list",data:=.seq its.toArray n}) (hf:f its.toArray=its'.toArray) (hv:Vals ys its') (hz:ys.length<=sizeLine) :
  Inv X pins σ (upd H l (.lst ys)) {s with heap:=s.heap.update l (Obj.mapSeq f),toks:=t'}:=by
 have q:=PySem.IsL.update e f
 rw[hf] at q
 refine I.write (x:=l) (e:=l) (by rw[hH];exact trivial) (.inl rfl) (fun b' u hb hu=>(Heap.get?_update_other s.heap (Obj.mapSeq f) (Ne.symm hb)).trans hu) ⟨_,q⟩ ?_
 exact⟨hz,its',_,hv,q⟩
theorem Inv.Pj{its:List Value}{t':Nat}(I:Inv X pins σ H s)(hv:Vals ys its)(hz:ys.length<=sizeLine) :
  Inv X pins σ (upd H s.heap.objs.size (.lst ys)) {s with heap:=s.heap.push {cls:=.type "list",data:=.seq its.toArray},toks:=t'}:=
 I.laid (fun _ _ q=>Heap.get?_push_of_some _ q) (le_refl _) ⟨hz,its,0,hv,Heap.get?_push_size _ rfl⟩
theorem Inv.fresh(I:Inv X pins σ H s):H s.heap.objs.size=none:=I.hok.fresh (le_refl _)
theorem Inv.xE(I:Inv X pins σ H s)(hH:H l=some (.lst xs)):xs.length<=sizeLine/\∃(its:List Value) (n:Nat),Vals xs its/\xs.length=its.length/\s.heap.get? l=some {cls:=.type "list",data:=.seq its.toArray n}:=by
 obtain⟨z,its,n,r,e⟩:=I.hok l _ hH
 exact⟨z,its,n,r,r.length,e⟩
theorem Bw{n:Nat}(h:n<=sizeLine):Builtin.List.listTooLong n=false:=by
 unfold Builtin.List.listTooLong
 exact decide_eq_false ∅
end
section
variable {X:Cx}
def L6:V->List V->Hp->VK->Prop:=fun x vs H Q=>∃l xs y,x = .ref l/\vs=[y]/\H l=some (.lst xs)/\xs.length<sizeLine/\Q .non (upd H l (.lst (xs++[y])))
theorem j3:MtM X "list.append" L6:=by
 intro pins s σ H x vs v us Q I rx rv h
 obtain⟨l,xs,y,rfl,rfl,hH,hz,q⟩:=h
 cases rx
 obtain⟨u,rfl,ru⟩:=rv.one
 obtain⟨z,its,n,r,hl,e⟩:=I.xE hH
 refine call_meets F.slot_list_append ⟨_,e,rfl⟩ F.entry_list_append (F.args_list_append_2 _ _) (PySem.list_append l its.toArray n u (by rw[size_toArray];omega)) ⟨e,?_⟩
 refine⟨.non,_,I.GP (its':=its++[u]) hH e (by simp) (r.append (.cons ru .nil)) ?_,rfl,q⟩
 rw[length_append,List.length_singleton]
 omega
def KR:V->List V->Hp->VK->Prop:=fun x vs H Q=>∃l b xs zs,x = .ref l/\vs=[.ref b]/\H l=some (.lst xs)/\H b=some (.lst zs)/\xs.length+zs.length<=sizeLine/\Q .non (upd H l (.lst (xs++zs)))
theorem Ow:MtM X "list.extend" KR:=by
 intro pins s σ H x vs v us Q I rx rv h
 obtain⟨l,b,xs,zs,rfl,rfl,hH,hB,hz,q⟩:=h
 cases rx
 obtain⟨u,rfl,ru⟩:=rv.one
 cases ru
 obtain⟨z,its,n,r,hl,e⟩:=I.xE hH
 obtain⟨z2,its2,n2,r2,hl2,e2⟩:=I.xE hB
 have hsz:its.toArray.size+its2.toArray.size<=sizeLine:=by rw[size_toArray,size_toArray];omega
 have hlong:¬ (!its.toArray.isEmpty&&Builtin.List.listTooLong (its.toArray.size+its2.toArray.size))=true:=by
  rw[Bw hsz,Bool.and_false]
  exact Bool.false_ne_true
 refine call_meets F.slot_list_extend ⟨_,e,rfl⟩ F.entry_list_extend (F.args_list_extend_2 _ _)
  (AutoSeq1.list_extend_list_list_0 l its.toArray n b its2.toArray n2 hlong (by rw[size_toArray];omega) ∅) ⟨e,e2,?_⟩
 refine⟨.non,_,I.GP (its':=its++its2) hH e (by simp) (r.append r2) ?_,rfl,q⟩
 rw[length_append]
 omega
def Qa:V->List V->Hp->VK->Prop:=fun x vs H Q=>∃l xs y,x = .ref l/\vs=[]/\H l=some (.lst xs)/\xs[xs.length-1]? = some y/\Q y (upd H l (.lst xs.dropLast))
theorem Ql:MtM X "list.pop" Qa:=by
 intro pins s σ H x vs v us Q I rx rv h
 obtain⟨l,xs,y,rfl,rfl,hH,hy,q⟩:=h
 cases rx
 have hus:=rv.zero
 subst hus
 obtain⟨z,its,n,r,hl,e⟩:=I.xE hH
 obtain⟨u,hu,ru⟩:=r.get hy
 have hy':its.toArray[its.toArray.size-1]? = some u:=by
  show its.toArray[its.length-1]? = some u
  rw[<- Array.getElem?_toList,<- hl]
  exact hu
 refine call_meets F.slot_list_pop ⟨_,e,rfl⟩ F.entry_list_pop (F.args_list_pop_1 _) (MeetsSeq.list_pop_last l its.toArray n u hy' (by rw[size_toArray];omega)) ⟨e,?_⟩
 refine⟨y,_,I.GP (its':=its.dropLast) hH e ?_ r.dropLast ?_,ru,q⟩
 ·show its.toArray.eraseIdxIfInBounds (its.toArray.size-1)=its.dropLast.toArray
  rw[size_toArray,List.eraseIdxIfInBounds_toArray,DR]
 ·rw[List.length_dropLast]
  omega
def MG:V->List V->Hp->VK->Prop:=fun x vs H Q=>∃l xs i k y,x = .ref l/\vs=[.int i]/\H l=some (.lst xs)/\-(2 ^ 63)<=i/\i<2 ^ 63/\seqIndex? i xs.length=some k/\xs[k]? = some y/\Q y (upd H l (.lst (xs.eraseIdx k)))
theorem Jc:MtM X "list.pop" MG:=by
 intro pins s σ H x vs v us Q I rx rv h
 obtain⟨l,xs,i,k,y,rfl,rfl,hH,h1,h2,hk,hy,q⟩:=h
 cases rx
 obtain⟨u,rfl,ru⟩:=rv.one
 obtain⟨t,rfl⟩:=ru
 obtain⟨z,its,n,r,hl,e⟩:=I.xE hH
 obtain⟨w,hw,rw'⟩:=r.get hy
 refine call_meets F.slot_list_pop ⟨_,e,rfl⟩ F.entry_list_pop (F.args_list_pop_2 _ _)
  (MeetsSeq.list_pop_at l its.toArray n i t k w (fitsIndex_both h1 h2) (by rw[size_toArray,<- hl];exact hk) (by rw[<- Array.getElem?_toList];exact hw) (by rw[size_toArray];omega)) ⟨e,?_⟩
 refine⟨y,_,I.GP (its':=its.eraseIdx k) hH e ?_ (r.eraseIdx k) ?_,rw',q⟩
 ·show its.toArray.eraseIdxIfInBounds k=(its.eraseIdx k).toArray
  rw[List.eraseIdxIfInBounds_toArray]
 ·have:=yE xs k
  omega
def JF:V->List V->Hp->VK->Prop:=fun x vs H Q=>∃l xs,x = .ref l/\vs=[]/\H l=some (.lst xs)/\Q .non (upd H l (.lst xs.reverse))
theorem D5:MtM X "list.reverse" JF:=by
 intro pins s σ H x vs v us Q I rx rv h
 obtain⟨l,xs,rfl,rfl,hH,q⟩:=h
 cases rx
 have hus:=rv.zero
 subst hus
 obtain⟨z,its,n,r,hl,e⟩:=I.xE hH
 refine call_meets F.slot_list_reverse ⟨_,e,rfl⟩ F.entry_list_reverse (F.args_list_reverse_1 _) (AutoSeq1.list_reverse_list_0 l its.toArray n (by rw[size_toArray];omega)) ⟨e,?_⟩
 refine⟨.non,_,I.GP (its':=its.reverse) hH e (by simp) r.reverse ?_,rfl,q⟩
 rw[List.length_reverse]
 omega
noncomputable def MW:R2:=fun x y H Q=>∃l b xs zs,x = .ref l/\y = .ref b/\H l=some (.lst xs)/\H b=some (.lst zs)/\xs.length+zs.length<=sizeLine/\∀p,H p=none->Q (.ref p) (upd H p (.lst (xs++zs)))
theorem J3:OpR X (binaryOp .Add) MW:=by
 intro pins s σ H x y v u Q I rx ry h
 obtain⟨l,b,xs,zs,rfl,rfl,hH,hB,hz,q⟩:=h
 cases rx
 cases ry
 obtain⟨z,its,n,r,hl,e⟩:=I.xE hH
 obtain⟨z2,its2,n2,r2,hl2,e2⟩:=I.xE hB
 refine PySem.P.add_list e e2 ?_ (by rw[size_toArray,size_toArray];omega)
 have ea:its.toArray++its2.toArray=(its++its2).toArray:=by simp
 rw[ea]
 exact⟨.ref _,_,I.Pj (t':=s.toks) (r.append r2) (by rw[length_append];omega),rfl,q _ I.fresh⟩
noncomputable def Ph:R2:=fun x y H Q=>∃l k xs,x = .ref l/\y = .int k/\H l=some (.lst xs)/\-(2 ^ 63)<=k/\k<2 ^ 63/\xs.length*k.toNat<=sizeLine /\
 ∀p,H p=none->Q (.ref p) (upd H p (.lst (List.replicate k.toNat xs).flatten))
theorem len_rep{α:Type}(xs:List α)(k:Nat):(List.replicate k xs).flatten.length=k*xs.length:=by
 induction k with
 |zero=>simp
 |succ k ih=>rw[replicate_succ,flatten_cons,length_append,ih,Nat.succ_mul,Nat.add_comm]
theorem Ov:OpR X (binaryOp .Mult) Ph:=by
 intro pins s σ H x y v u Q I rx ry h
 obtain⟨l,k,xs,rfl,rfl,hH,h1,h2,hz,q⟩:=h
 cases rx
 obtain⟨t,rfl⟩:=ry
 obtain⟨z,its,n,r,hl,e⟩:=I.xE hH
 have hlen:its.toArray.size*k.toNat<=sizeLine:=by rw[size_toArray,<- hl];exact hz
 have hcap:¬ its.toArray.size*k.toNat>(2 ^ 63-1) / 8:=by
  have:(sizeLine:Nat)<=(2 ^ 63-1) / 8:=by decide
  omega
 have hfit:¬ (!Builtin.List.listFitsIndex k)=true:=by
  rw[fitsIndex_both h1 h2]
  exact Bool.false_ne_true
 have hlong:¬ Builtin.List.listTooLong (its.toArray.size*k.toNat)=true:=by
  rw[Bw hlen]
  exact Bool.false_ne_true
 have hnew:List.foldl (fun x1 x2=>x1++x2) #[] (List.replicate (if its.toArray.isEmpty=true then 0 else k.toNat) its.toArray)=(List.replicate k.toNat its).flatten.toArray:=by
  have f0:∀m:Nat,List.foldl (fun x1 x2=>x1++x2) #[] (List.replicate m its.toArray)=(List.replicate m its).flatten.toArray:=fun m=>by
   have:=foldl_rep its m []
   rw[nil_append] at this
   exact this
  rw[f0]
  cases its with
  |nil=>simp
  |cons a r'=>rw[if_neg (by simp)]
 refine wpAny_binaryOp_repeat_ref (T:="list") (U:="int") ⋯ ⟨_,e,rfl⟩ (fun s'=>typeIs_int s' k t) noFill_list_mul F.fills_int_mul F.slot_int_rmul repeat_list F.slot_int_index.lookup
  (call_meets F.slot_int_rmul (typeIs_int s k t) F.entry_int_rmul (F.args_int_rmul_2 _ _) (int___rmul___int_list k t l its.toArray n)
   ⟨e,rfl,⟨_,e,rfl⟩,call_meets F.slot_list_mul ⟨_,e,rfl⟩ F.entry_list_mul (F.args_list_mul_2 _ _) (AutoListH.list___mul___list_int_3 l its.toArray n k t hfit hcap hlong) ⟨e,?_⟩⟩)
 rw[hnew]
 exact⟨.ref _,_,I.Pj (t':=s.toks) (r.rep k.toNat) (by rw[len_rep,Nat.mul_comm];exact hz),rfl,q _ I.fresh⟩
end
end L2
namespace Att
open PySem PySem.W PySem.Calls PyProof.Rows
theorem tU{P:Params}{h:Heap}:∀(ns:List Int) (vs:List Value),WellAll P h vs (ns.map WData.int)->IntsAre vs ns:=by
 intro ns
 induction ns with
 |nil=>
  intro vs w
  rw[map_nil] at w
  cases w
  exact .nil
 |cons n ns ih=>
  intro vs w
  rw[map_cons] at w
  cases w with
  |cons a b=>
   cases a
   exact .cons _ _ (ih _ b)
theorem HR{l:OpenLaw}{n:Nat}(hn:l.most=some n){P:Params}{h:Heap}{args:List WData}{vals:List Value}
  (hpre:l.row.toRowW.claim.pre args=true) (hwl:WellAll P h vals args) :
  ∃a vs ns,vals=[Value.ref a]/\args=[WData.list (ns.map WData.int)]/\h.get? a=some {cls:=.type "list",data:=.seq vs.toArray}/\IntsAre vs ns/\ns.length<=n:=by
 have hsh:WShape.hasAll [] args [.list .int]=true:=(pre_splitW hpre).1
 have hc:l.pre.holds [] {args:=args} = true:=(pre_splitW hpre).2
 obtain⟨d,r,rfl,h1,h2⟩:=hasAllW_cons hsh
 obtain rfl:=hasAllW_nil h2
 obtain⟨xs,rfl,h3⟩:=hasW_list h1
 obtain⟨ns,rfl⟩:=items_int h3
 have hlen:ns.length<=n:=by
  unfold OpenLaw.pre at hc
  have h4:(WTm.not (.lt (.lit (.int (n:Int))) (.len (.arg 0)))).holds [] {args:=[.list (ns.map .int)]} = true:=by
   have h4:=(holds_andW hc).1
   rw[hn] at h4
   exact h4
  have h5:=condW_of h4 (w_not (w_lt w_lit (w_len_list (w_arg rfl))))
  rw[length_map] at h5
  refine Nat.le_of_not_lt fun q=>?_
  have q':(n:Int)<((ns.length:Nat):Int):=by omega
  first
   |(rw[decide_eq_true q'] at h5;exact absurd h5 ⋯)
   |(simp at h5;omega)
 cases hwl with
 |cons w1 w2=>
  cases w2
  cases w1 with
  |list ho hall=>exact⟨_,_,ns,rfl,rfl,ho,tU ns _ hall,hlen⟩
theorem Hk(l:OpenLaw)(args:List WData):l.row.toRowW.claim.post args (.bool true) args=true:=
 postW_of (r:=l.row.toRowW) (X:=(true==true))
  (show WShape.has [] (.bool true) .bool=true by first|rfl|decide|simp[WShape.has,WShape.arms,WShape.armsAll])
  (show (WTm.eq .res (.lit (.bool true))).value [] {args:=args,res:=some (.bool true),after:=args} = some (.bool (true==true)) from w_eq_bool (w_res rfl) w_lit) rfl
theorem BD{l:OpenLaw}{n:Nat}{q:Program}{loose:List Str}{XP:(Str->Option Value)->Heap->Prop}{YP:World->Heap->Prop}{d:DefRec}
  (hn:l.most=some n) (hdf:d.params.defaults=[])
  (call:∀(w:World) (im ca:Shared) (mg mb:Str->Option Value) (fa:Addr) (o:Obj) (pm cd doc:Value) (a:Addr) (vs:List Value) (ns:List Int),
   Ground q loose [] XP w im mg mb ca.heap->YP w ca.heap ->
   ca.heap.get? fa=some o->o.data = .func (docDef d.name d.params d.body d.scope pm cd doc)->ca.heap.CodeRec cd d.name->mg d.name=some (.ref fa) ->
   ca.heap.get? a=some {cls:=.type "list",data:=.seq vs.toArray}->IntsAre vs ns->ns.length<=n->ca.gens = #[] ->
   codeAny (model l.prog w) callerA (.call (.ref fa) ⟨[.ref a],[]⟩) (fun r s'=>r = .ok (.ret (.bool true))/\OldK ca.heap s'.heap/\s'.os=ca.os/\AllBare s'.gens) ca) :
  WalkO q loose XP YP l.row.toRowW d [] (fun f vs=>PySem.call f vs):=by
 intro w im ca mg mb G Y fa o pm cd doc dV kV ho hd hcd hD hmg hg args vals as hpre hlay hrd hwl hlo
 obtain rfl:dV = .none:=Dflts.none hD hdf
 obtain rfl:kV = .none:=Dflts.noKw hD
 obtain⟨a,vs,ns,rfl,rfl,hobj,hints,hlen⟩:=HR hn hpre hwl
 refine enter_call (codeAny_mono (call w im ca mg mb fa o pm cd doc a vs ns G Y ho (fd_plain hd) hcd hmg hobj hints hlen hg) fun r s' hq=>?_)
 obtain⟨rfl,h2,h3,h4⟩:=hq
 exact⟨.inl ⟨.bool true,.bool true,[],rfl,fun _=>rfl,.bool true,Hk l _,fun _=>⟨List.Pairwise.nil,fun _ hm=>(nomatch hm)⟩⟩,h2,h3,h4⟩
end Att
namespace L2
open PySem PySem.Spec PyProof.Rows
theorem yi:∀{vs:List Value} {ns:List Int},IntsAre vs ns->Vals (ns.map V.int) vs
 |_,_,.nil=>.nil
 |_,_,.cons n t h=>.cons ⟨t,rfl⟩ (yi h)
end L2
namespace L2
open PySem PySem.Spec PyProof.Rows
end L2
namespace L2
open PySem PySem.Spec PyProof.Rows
noncomputable abbrev CX0:CXT:=fun _ _ _ _ _ _=>False
noncomputable abbrev E0:XK:=fun _ _ _=>False
theorem OX{X:Cx}:Passes CX0 X E0:=fun _ _ _ _ _ _ _ h=>h.elim
structure Fun(K:PySem.W.Frag)(x qual:Str)(st:Stmt)(f:Addr)(fd:FuncData):Prop where
 ex:∃(oc:Value) (od:Option Addr) (kV doc pm:Value) (an:Option Addr) (cdv ct:Value) (osl:Array (Option Value)),
  fd=fnOf x qual (je st) (g0 st) (aB st) .none kV doc pm an cdv ct/\K.lookup f=some ⟨oc,od,.func fd,osl⟩/\codeIn K cdv qual=true
 kp:keepIn K (.ref f)=true
section
variable {P:Program}{w:World}{K:PySem.W.Frag}{mg:Str->Option Value}{base:Heap}
theorem Fun.ok{x qual:Str}{st:Stmt}{f:Addr}{fd:FuncData}{N ps:List Str}{k:Nat}{sp:Sp}(F:Fun K x qual st f fd)(S:aM N ps (aB st))(len:∀vs H Q E,sp vs H Q E->vs.length=ps.length)
  (hbody:∀(cdv:Value) (A:Around) (outer:List Env) (s:Shared) (H:Hp) (vs:List V) (Q:VK) (E:XK),ku k (A.deeper (envOfC qual (aB st) s.heap.objs.size f cdv))->sp vs H Q E ->
   ∃t,PSs (DO CX0 P w K mg base N qual (aB st) f cdv A outer s H E).nox (g0 st) t/\t {nx:=fun _ H'=>Q .non H',rt:=Q} (start N vs) H):bC P w K mg base CX0 (k+1) f fd ps sp:=by
 obtain⟨oc,od,kV,doc,pm,an,cdv,ct,osl,rfl,lk,hcd⟩:=F.ex
 refine Pw lk hcd S len fun A outer s H vs Q E hr hsp=>?_
 obtain⟨t,h,q⟩:=hbody cdv A outer s H vs Q E hr hsp
 exact⟨t,h.nox,q⟩
theorem Fun.binds{x qual:Str}{st:Stmt}{f:Addr}{fd:FuncData}{ps:List Str}(F:Fun K x qual st f fd)
  (h:∀(kV doc pm:Value) (an:Option Addr) (cdv ct:Value) (us:List Value),us.length=ps.length->bindArgs (fnOf x qual (je st) (g0 st) (aB st) .none kV doc pm an cdv ct) ⟨us,[]⟩=pure (ps.zip us)):Binds K fd ps []:=by
 obtain⟨oc,od,kV,doc,pm,an,cdv,ct,osl,rfl,lk,hcd⟩:=F.ex
 exact .all (h kV doc pm an cdv ct)
theorem aW{x qual:Str}{st:Stmt}{f:Addr}{oc:Value}{od an:Option Addr}{osl:Array (Option Value)}{kV doc pm cdv ct:Value}(l:K.lookup f=some ⟨oc,od,.func (fnOf x qual (je st) (g0 st) (aB st) .none kV doc pm an cdv ct),osl⟩)
  (c:codeIn K cdv qual=true) (k:keepIn K (.ref f)=true):Fun K x qual st f (fnOf x qual (je st) (g0 st) (aB st) .none kV doc pm an cdv ct):=⟨⟨oc,od,kV,doc,pm,an,cdv,ct,osl,rfl,l,c⟩,k⟩
end
theorem dP{n:Nat}(h:n<=1000):n<sizeLine:=Nat.lt_of_le_of_lt h ⋯
theorem vj{A B:Prop}(h:B):if false=true then A else B:=by
 rw[if_neg Bool.false_ne_true]
 exact h
theorem ve{A B:Prop}(h:A):if true=true then A else B:=by
 rw[if_pos rfl]
 exact h
noncomputable def uA(H H':Hp):Prop:=∀b o,H b=some o->H' b=some o
theorem uA.refl(H:Hp):uA H H:=fun _ _ h=>h
end L2
namespace ST
open PySem PySem.SetTable
def fiv(M x:Nat):Nat:=(x*5+1) % M
def itf(M:Nat):Nat->Nat->Nat
 |0,x=>x
 |n+1,x=>fiv M (itf M n x)
def geo:Nat->Nat
 |0=>0
 |p+1=>5*geo p+1
theorem LN:∀p,4*geo p+1=5 ^ p
 |0=>rfl
 |p+1=>by
  have:=LN p
  rw[geo,pow_succ]
  omega
theorem Gg:∀p,geo p % 2=p % 2
 |0=>rfl
 |p+1=>by
  have:=Gg p
  rw[geo]
  omega
theorem Lp(q:Nat):geo (2*q)=geo q*(2*geo q+1)*2:=by
 have h1:=LN (2*q)
 have h2:=LN q
 have h3:5 ^ (2*q)=5 ^ q*5 ^ q:=by rw[<- Nat.pow_add];congr 1;omega
 rw[h3,<- h2] at h1
 have h4:(4*geo q+1)*(4*geo q+1)=4*(geo q*(2*geo q+1)*2)+1:=by
  generalize geo q=g
  have:geo q=geo q:=rfl
  simp only[Nat.add_mul,Nat.mul_add,Nat.mul_assoc,Nat.mul_one,Nat.one_mul]
  have e1:g*(4*g)=4*(g*g):=by rw[Nat.mul_left_comm]
  have e2:g*(2*(g*2))=4*(g*g):=by rw[Nat.mul_left_comm,<- Nat.mul_assoc g g 2];omega
  rw[e1,e2]
  omega
 rw[h4] at h1
 omega
theorem Fq:∀k p:Nat,2 ^ k ∣ geo p->2 ^ k ∣ p
 |0,p,_=>by rw[Nat.pow_zero];exact Nat.one_dvd p
 |k+1,p,h=>by
  have h2:2 ∣ geo p:=Nat.dvd_trans ⟨2 ^ k,by rw[pow_succ,Nat.mul_comm]⟩ h
  have hp:p % 2=0:=by rw[<- Gg];omega
  obtain⟨q,rfl⟩:∃q,p=2*q:=⟨p / 2,∅⟩
  rw[Lp,pow_succ] at h
  have h3:=Nat.dvd_of_mul_dvd_mul_right (by decide:0<2) h
  have co:Nat.Coprime (2 ^ k) (2*geo q+1):=by
   refine Nat.Coprime.pow_left k ?_
   unfold Nat.Coprime
   rw[Nat.gcd_rec]
   have:(2*geo q+1) % 2=1:=by omega
   rw[this]
   decide
  have h4:=Fq k q (co.dvd_of_dvd_mul_right h3)
  rw[pow_succ,Nat.mul_comm 2 q]
  exact Nat.mul_dvd_mul_right h4 2
theorem JK{M a b:Nat}(h:a % M=b % M):(a*5+1) % M=(b*5+1) % M:=by
 rw[Nat.add_mod,Nat.mul_mod,h,<- Nat.mul_mod,<- Nat.add_mod]
theorem FX(M:Nat)(x:Nat):∀n,itf M n x % M=(5 ^ n*x+geo n) % M
 |0=>by rw[itf,geo,Nat.pow_zero,Nat.one_mul,Nat.add_zero]
 |n+1=>by
  rw[itf,fiv,Nat.mod_mod,JK (FX M x n),geo,pow_succ]
  congr 1
  rw[Nat.add_mul,Nat.mul_right_comm,Nat.mul_comm (geo n) 5];omega
theorem FO(M:Nat)(a x:Nat):∀b,itf M (a+b) x=itf M b (itf M a x)
 |0=>rfl
 |b+1=>by show fiv M (itf M (a+b) x)=_;rw[FO M a x b];rfl
theorem cyc{k p x:Nat}(h:(5 ^ p*x+geo p) % 2 ^ k=x % 2 ^ k):2 ^ k ∣ p:=by
 refine Fq k p ?_
 have h1:=Nat.sub_mod_eq_zero_of_mod_eq h
 have e:5 ^ p*x+geo p-x=geo p*(4*x+1):=by
  rw[<- LN p,Nat.add_mul,Nat.mul_add,Nat.mul_one,Nat.one_mul]
  have:4*geo p*x=geo p*(4*x):=by rw[Nat.mul_comm 4,Nat.mul_assoc]
  omega
 rw[e] at h1
 have co:Nat.Coprime (2 ^ k) (4*x+1):=by
  refine Nat.Coprime.pow_left k ?_
  unfold Nat.Coprime
  rw[Nat.gcd_rec]
  have:(4*x+1) % 2=1:=by omega
  rw[this]
  decide
 exact co.dvd_of_dvd_mul_right (Nat.dvd_of_mod_eq_zero h1)
theorem KZ{k a b x:Nat}(h:a<b)(hb:b<2 ^ k)(hx:itf (2 ^ k) a x=itf (2 ^ k) b x):False:=by
 obtain⟨p,rfl⟩:∃p,b=a+p:=⟨b-a,∅⟩
 rw[FO] at hx
 have h1:=FX (2 ^ k) (itf (2 ^ k) a x) p
 rw[<- hx] at h1
 have h2:=Nat.le_of_dvd ∅ (cyc h1.symm)
 omega
theorem pig:∀(l O:List Nat),l.Nodup->(∀x∈l,x∈O)->l.length<=O.length
 |[],_,_,_=>zero_le _
 |a::l,O,h,s=>by
  rw[List.nodup_cons] at h
  have ha:=s a (mem_cons_self ..)
  have:=pig l (O.erase a) h.2 fun x hx=>(List.mem_erase_of_ne (fun z=>h.1 (by rw[<- z];exact hx))).mpr (s x (mem_cons_of_mem _ hx))
  rw[List.length_erase_of_mem ha] at this
  have:0<O.length:=List.length_pos_of_mem ha
  rw[length_cons]
  omega
theorem GX{k:Nat}{O:List Nat}(x:Nat)(hc:O.length<2 ^ k):∃r,r<=O.length/\itf (2 ^ k) r x ∉ O:=by
 by_cases h:∃r,r<=O.length/\itf (2 ^ k) r x ∉ O
 ·exact h
 exfalso
 have a:∀r,r<=O.length->itf (2 ^ k) r x∈O:=fun r hr=>Classical.byContradiction fun z=>h ⟨r,hr,z⟩
 have:=pig ((List.range (O.length+1)).map fun r=>itf (2 ^ k) r x) O ?_ fun y hy=>?_
 ·rw[length_map,List.length_range] at this
  omega
 ·refine List.pairwise_map.mpr (List.Pairwise.imp_of_mem (fun {p q} hp hq (hpq:p<q) z=>?_) List.pairwise_lt_range)
  rw[List.mem_range] at hq
  exact KZ hpq ∅ z
 ·obtain⟨r,hr,rfl⟩:=List.mem_map.mp hy
  rw[List.mem_range] at hr
  exact a r ∅
def lp(m:Nat)(s:Nat×Nat):Nat->Nat×Nat
 |0=>s
 |n+1=>leap m (lp m s n).1 (lp m s n).2
theorem Jb(m:Nat)(s:Nat×Nat):∀n,(lp m s n).2=s.2 / 32 ^ n
 |0=>by rw[Nat.pow_zero,Nat.div_one];rfl
 |n+1=>by
  show (lp m s n).2 / 32=_
  rw[Jb m s n,Nat.div_div_eq_div_mul,pow_succ]
theorem Fy(m:Nat)(s:Nat×Nat)(h:s.2<2 ^ 64):∀r,lp m s (13+r)=(itf (m+1) r (lp m s 13).1,0)
 |0=>by
  have:=Jb m s 13
  rw[Nat.div_eq_of_lt (lt_of_lt_of_le h ⋯)] at this
  exact Prod.ext rfl this
 |r+1=>by
  show leap m (lp m s (13+r)).1 (lp m s (13+r)).2=_
  rw[Fy m s h r]
  show ((itf (m+1) r (lp m s 13).1*5+1+0 / 32) % (m+1),0 / 32)=_
  rw[Nat.zero_div,Nat.add_zero]
  rfl
theorem yk{m k:Nat}(hm:m+1=2 ^ k){O:List Nat}(hc:O.length<=m)(s:Nat×Nat)(h:s.2<2 ^ 64):∃L,L<=13+O.length/\(lp m s L).1 ∉ O:=by
 obtain⟨r,h1,h2⟩:=GX (k:=k) (O:=O) (lp m s 13).1 ∅
 refine⟨13+r,∅,?_⟩
 rw[Fy m s h,hm]
 exact h2
theorem EU(m i p:Nat):(leap m i p).1<=m:=by
 have:(i*5+1+p / 32) % (m+1)<m+1:=Nat.mod_lt _ (Nat.succ_pos m)
 show (i*5+1+p / 32) % (m+1)<=m
 omega
theorem Fp(h:Int):bits h<2 ^ 64:=by
 unfold bits
 have:=Int.emod_lt_of_pos h (show (0:Int)<2 ^ 64 by decide)
 have:=Int.emod_nonneg h (show (2 ^ 64:Int)≠0 by decide)
 omega
def adv(m:Nat)(p:Probe):Probe:=
 if p.more>0 then {p with j:=p.j+1,more:=p.more-1} else
 {p with j:=(leap m p.i p.perturb).1,more:=runEnd m (leap m p.i p.perturb).1-(leap m p.i p.perturb).1,i:=(leap m p.i p.perturb).1,perturb:=(leap m p.i p.perturb).2}
def st(m:Nat)(s:Nat×Nat):Probe:={j:=s.1,more:=runEnd m s.1-s.1,i:=s.1,perturb:=s.2,dummy:=none}
def sth(m:Nat)(h:Int):Probe:=st m (bits h % (m+1),bits h)
inductive Way(m:Nat)(O:Nat->Prop):Probe->Nat->Nat->Prop
 |here {p:Probe}:p.dummy=none->¬ O p.j->Way m O p 0 p.j
 |step {p:Probe} {n e:Nat}:p.dummy=none->O p.j->Way m O (adv m p) n e->Way m O p (n+1) e
inductive On(m:Nat)(O:Nat->Prop):Probe->Nat->Prop
 |here {p:Probe}:On m O p p.j
 |step {p:Probe} {j:Nat}:O p.j->On m O (adv m p) j->On m O p j
theorem On.mono{m:Nat}{O O':Nat->Prop}(s:∀j,O j->O' j){p:Probe}{j:Nat}(h:On m O p j):On m O' p j:=by
 induction h with
 |here=>exact .here
 |step a _ ih=>exact .step (s _ a) ih
theorem Way.on{m:Nat}{O:Nat->Prop}{p:Probe}{n e:Nat}(h:Way m O p n e):On m O p e/\¬ O e:=by
 induction h with
 |here _ a=>exact⟨.here,a⟩
 |step _ a _ ih=>exact⟨.step a ih.1,ih.2⟩
theorem MF(m i:Nat):runEnd m i-i<=9:=by unfold runEnd;split<;>omega
theorem ED{m i:Nat}(h:i<=m):runEnd m i<=m:=by unfold runEnd;split<;>omega
theorem DJ(m i:Nat):i<=runEnd m i:=by unfold runEnd;split<;>omega
theorem Way.le{m:Nat}{O:Nat->Prop}{p:Probe}{n e:Nat}(h:Way m O p n e):p.j+p.more<=m->e<=m:=by
 induction h with
 |here _ _=>omega
 |@step p n e _ a _ ih=>
  intro hp
  refine ih ?_
  unfold adv
  split
  ·show p.j+1+(p.more-1)<=m;omega
  ·show (leap m p.i p.perturb).1+(runEnd m (leap m p.i p.perturb).1-(leap m p.i p.perturb).1)<=m
   have h1:=EU m p.i p.perturb
   have:=ED h1
   omega
theorem Ft{m:Nat}{O:Nat->Prop}{i pt n1 e1:Nat}(w:Way m O (st m (leap m i pt)) n1 e1):∀(more j:Nat),∃n e,Way m O {j:=j,more:=more,i:=i,perturb:=pt,dummy:=none} n e/\n<=more+1+n1
 |0,j=>by
  by_cases h:O j
  ·exact⟨n1+1,e1,.step rfl h w,∅⟩
  ·exact⟨0,j,.here rfl h,∅⟩
 |more+1,j=>by
  by_cases h:O j
  ·obtain⟨n,e,w1,hn⟩:=Ft w more (j+1)
   exact⟨n+1,e,.step rfl h w1,∅⟩
  ·exact⟨0,j,.here rfl h,∅⟩
theorem Jr{m:Nat}{O:Nat->Prop}{s:Nat×Nat}{L:Nat}(hL:¬ O (lp m s L).1):∀d,d<=L->∃n e,Way m O (st m (lp m s (L-d))) n e/\n<=10*d
 |0,_=>⟨0,_,.here rfl hL,∅⟩
 |d+1,hd=>by
  obtain⟨n,e,w,hn⟩:=Jr hL d ∅
  have e1:L-d=(L-(d+1))+1:=by omega
  rw[e1] at w
  obtain⟨n',e',w',hn'⟩:=Ft (i:=(lp m s (L-(d+1))).1) (pt:=(lp m s (L-(d+1))).2) w (runEnd m (lp m s (L-(d+1))).1-(lp m s (L-(d+1))).1) (lp m s (L-(d+1))).1
  have:=MF m (lp m s (L-(d+1))).1
  exact⟨n',e',w',∅⟩
theorem Kg{m k:Nat}(hm:m+1=2 ^ k){O:List Nat}(hc:O.length<=m)(h:Int):∃n e,Way m (·∈O) (sth m h) n e/\n<=10*(13+O.length)/\e<=m:=by
 obtain⟨L,h1,h2⟩:=yk hm hc (bits h % (m+1),bits h) (Fp h)
 obtain⟨n,e,w,hn⟩:=Jr (O:=(·∈O)) h2 L (le_refl _)
 rw[Nat.sub_self] at w
 refine⟨n,e,w,∅,w.le ?_⟩
 have:=ED (m:=m) (i:=bits h % (m+1)) (le_of_lt_succ (Nat.mod_lt _ (Nat.succ_pos m)))
 have:=DJ m (bits h % (m+1))
 show bits h % (m+1)+(runEnd m (bits h % (m+1))-bits h % (m+1))<=m
 omega
theorem wz{A B:List Nat}{j:Nat}(hA:∀a∈A,a<j)(hB:∀b∈B,j<=b):∀fuel lo hi,lo<=A.length->A.length<=hi->hi<=(A++B).length->hi-lo<=fuel->below.go (A++B).toArray j fuel lo hi=A.length
 |0,lo,hi,h1,h2,_,h4=>by show lo=_;omega
 |fuel+1,lo,hi,h1,h2,h3,h4=>by
  rw[below.go]
  by_cases c:lo<hi
  ·rw[if_pos c]
   have hmid:(lo+hi) / 2<(A++B).length:=by omega
   have hg:(A++B).toArray.getD ((lo+hi) / 2) j=(A++B)[(lo+hi) / 2]:=by rw[Array.getD];exact dif_pos (by rw[size_toArray];exact hmid)
   simp only[hg]
   by_cases d:(lo+hi) / 2<A.length
   ·have:(A++B)[(lo+hi) / 2]=A[(lo+hi) / 2]:=List.getElem_append_left d
    rw[this,if_pos (hA _ (getElem_mem d))]
    exact wz hA hB fuel _ _ ∅ h2 h3 ∅
   ·have:(A++B)[(lo+hi) / 2]=B[(lo+hi) / 2-A.length]'(by rw[length_append] at hmid;omega):=List.getElem_append_right ∅
    rw[this,if_neg (Nat.not_lt.mpr (hB _ (getElem_mem _)))]
    exact wz hA hB fuel _ _ h1 ∅ ∅ ∅
  ·rw[if_neg c]
   omega
theorem J7{A B:List Nat}{j:Nat}(hA:∀a∈A,a<j)(hB:∀b∈B,j<=b):below (A++B).toArray j=A.length:=by
 unfold below
 refine wz hA hB _ _ _ (zero_le _) ?_ ?_ ?_
 ·rw[size_toArray,length_append];omega
 ·rw[size_toArray];exact le_refl _
 ·omega
theorem yJ{α:Type}(A B:List α)(x:α):insertAt (A++B).toArray A.length x=(A++x::B).toArray:=by
 unfold insertAt
 apply Array.ext'
 simp
end ST
namespace ST
open PySem PySem.SetTable
theorem On.inv{m:Nat}{O:Nat->Prop}{p:Probe}{j:Nat}(h:On m O p j):j=p.j\/(O p.j/\On m O (adv m p) j):=by
 cases h with
 |here=>exact .inl rfl
 |step a b=>exact .inr ⟨a,b⟩
section
variable {β:Type}
abbrev Ln(β:Type):=List (Nat×Int×β)
noncomputable def Occ(L:Ln β)(j:Nat):Prop:=j∈L.map (·.1)
structure Tab(t:SetTable)(L:Ln β):Prop where
 place:t.place=(L.map (·.1)).toArray
 ris:L.Pairwise fun a b=>a.1<b.1
 le:∀x∈L,x.1<=t.mask
 dum:t.dummies = #[]
 two:∃k,t.mask+1=2 ^ k/\3<=k
 on:∀x∈L,On t.mask (Occ L) (sth t.mask x.2.1) x.1
theorem E3(j:Nat):has #[] j=false:=by
 have:below #[] j=0:=rfl
 unfold has
 rw[this]
 rfl
theorem Dx{L:Ln β}(r:L.Pairwise fun a b=>a.1<b.1)(j:Nat):∃A B:Ln β,L=A++B/\(∀a∈A,a.1<j)/\∀b∈B,j<=b.1:=by
 induction L with
 |nil=>exact⟨[],[],rfl,fun _ h=>by simp at h,fun _ h=>by simp at h⟩
 |cons x L ih=>
  rw[List.pairwise_cons] at r
  by_cases h:x.1<j
  ·obtain⟨A,B,rfl,h1,h2⟩:=ih r.2
   refine⟨x::A,B,rfl,fun a ha=>?_,h2⟩
   rcases List.mem_cons.mp ha with rfl|ha
   ·exact h
   ·exact h1 a ha
  ·refine⟨[],x::L,rfl,fun _ h=>by simp at h,fun b hb=>?_⟩
   rcases List.mem_cons.mp hb with rfl|hb
   ·omega
   ·have:=r.1 b hb;omega
theorem Tab.below{t:SetTable}{A B:Ln β}(T:Tab t (A++B)){j:Nat}(h1:∀a∈A,a.1<j)(h2:∀b∈B,j<=b.1):SetTable.below t.place j=A.length:=by
 rw[T.place,map_append]
 rw[J7 (j:=j) (fun a ha=>by obtain⟨x,hx,rfl⟩:=List.mem_map.mp ha;exact h1 x hx) (fun b hb=>by obtain⟨x,hx,rfl⟩:=List.mem_map.mp hb;exact h2 x hx),length_map]
theorem Tab.G2{t:SetTable}{L:Ln β}(T:Tab t L){j:Nat}(h:¬ Occ L j):t.slot j = .empty:=by
 obtain⟨A,B,rfl,h1,h2⟩:=Dx T.ris j
 unfold slot
 rw[T.below h1 h2,T.dum,E3]
 have:(t.place[A.length]?==some j)=false:=by
  rw[T.place]
  cases B with
  |nil=>simp
  |cons b B=>
   simp only[map_append,map_cons,List.getElem?_toArray]
   rw[getElem?_append_right (by simp),length_map,Nat.sub_self]
   have:b.1≠j:=fun z=>h (by unfold Occ;rw[<- z];simp)
   simp[this]
 rw[if_neg (by rw[this];decide)]
 rfl
theorem Gd{A B:Ln β}{x:Nat×Int×β}(r:(A++x::B).Pairwise fun a b=>a.1<b.1):(∀a∈A,a.1<x.1)/\∀b∈B,x.1<b.1:=by
 rw[List.pairwise_append,List.pairwise_cons] at r
 exact⟨fun a ha=>r.2.2 a ha x (mem_cons_self ..),fun b hb=>r.2.1.1 b hb⟩
theorem Tab.Hb{t:SetTable}{A B:Ln β}{x:Nat×Int×β}(T:Tab t (A++x::B)):t.slot x.1 = .live A.length:=by
 obtain⟨h1,h2⟩:=Gd T.ris
 unfold slot
 rw[T.below h1 (fun b hb=>by rcases List.mem_cons.mp hb with rfl|hb;exact le_refl _;exact Nat.le_of_lt (h2 b hb))]
 have:(t.place[A.length]?==some x.1)=true:=by
  rw[T.place]
  simp
 rw[if_pos this]
theorem Tab.Lq{t:SetTable}{L:Ln β}(T:Tab t L){j:Nat}(h:Occ L j):∃i x,t.slot j = .live i/\L[i]? = some (j,x):=by
 obtain⟨⟨j',x⟩,hx,rfl⟩:=List.mem_map.mp h
 obtain⟨A,B,rfl⟩:=List.append_of_mem hx
 exact⟨A.length,x,T.Hb,by simp⟩
theorem Tab.uniq{t:SetTable}{L:Ln β}(T:Tab t L){j:Nat}{x y:Int×β}(h1:(j,x)∈L)(h2:(j,y)∈L):x=y:=by
 obtain⟨A,B,rfl⟩:=List.append_of_mem h1
 obtain⟨a1,a2⟩:=Gd T.ris
 rcases List.mem_append.mp h2 with h|h
 ·exact absurd (a1 _ h) (lt_irrefl _)
 ·rcases List.mem_cons.mp h with h|h
  ·cases h;rfl
  ·exact absurd (a2 _ h) (lt_irrefl _)
def hashOf(L:Ln β)(i:Nat):Int:=(L[i]?.map (·.2.1)).getD 0
theorem Kr{t:SetTable}{L:Ln β}(T:Tab t L){hashAt:Nat->Int}(hh:∀i,i<L.length->hashAt i=hashOf L i)(h:Int) :
  ∀(n:Nat) (p:Probe) (e fuel:Nat),Way t.mask (Occ L) p n e->n<fuel ->
   (probe.go t hashAt h fuel p=some (.empty e none)/\∀x∈L,x.2.1=h->¬ On t.mask (Occ L) p x.1) \/
   (∃i x next n',probe.go t hashAt h fuel p=some (.candidate x.1 i next)/\L[i]? = some x/\t.slot x.1 = .live i/\x.2.1=h/\n'<n/\Way t.mask (Occ L) next n' e /\
    ∀y∈L,y.2.1=h->On t.mask (Occ L) p y.1->y=x\/On t.mask (Occ L) next y.1):=by
 intro n
 induction n with
 |zero=>
  intro p e fuel w hf
  cases w with
  |here hd ho=>
   obtain⟨f,rfl⟩:∃f,fuel=f+1:=⟨fuel-1,∅⟩
   left
   refine⟨?_,fun x hx _ hon=>?_⟩
   ·rw[probe.go,T.G2 ho,hd]
   ·rcases hon.inv with z|⟨a,_⟩
    ·exact ho (List.mem_map.mpr ⟨x,hx,z⟩)
    ·exact ho a
 |succ n ih=>
  intro p e fuel w hf
  obtain⟨f,rfl⟩:∃f,fuel=f+1:=⟨fuel-1,∅⟩
  cases w with
  |step hd ho w=>
   obtain⟨i,x,h1,h2⟩:=T.Lq ho
   have hlt:i<L.length:=by
    rcases lt_or_ge i L.length with z|z
    ·exact z
    ·rw[getElem?_eq_none z] at h2;cases h2
   have eh:hashAt i=x.1:=by rw[hh i hlt,hashOf,h2];rfl
   by_cases c:x.1=h
   ·right
    refine⟨i,(p.j,x),adv t.mask p,n,?_,h2,h1,c,Nat.lt_succ_self n,w,fun y hy _ hon=>?_⟩
    ·rw[probe.go,h1]
     show (if (hashAt i==h)=true then _ else _)=_
     rw[if_pos (by rw[eh,c];exact beq_self_eq_true h)]
     rfl
    ·rcases hon.inv with z|⟨_,b⟩
     ·left
      obtain⟨y1,y2⟩:=y
      cases z
      rw[T.uniq hy (mem_of_getElem? h2)]
     ·exact .inr b
   ·have e1:probe.go t hashAt h (f+1) p=probe.go t hashAt h f (adv t.mask p):=by
     rw[probe.go,h1]
     show (if (hashAt i==h)=true then _ else _)=_
     rw[if_neg (by rw[eh];simpa using c)]
     rfl
    have on_next:∀y∈L,y.2.1=h->On t.mask (Occ L) p y.1->On t.mask (Occ L) (adv t.mask p) y.1:=fun y hy ey hon=>by
     rcases hon.inv with z|⟨_,b⟩
     ·obtain⟨y1,y2⟩:=y
      cases z
      rw[T.uniq hy (mem_of_getElem? h2)] at ey
      exact absurd ey c
     ·exact b
    rw[e1]
    rcases ih (adv t.mask p) e f w ∅ with ⟨a,b⟩|⟨i',x',next,n',a1,a2,a3,a4,a5,a6,a7⟩
    ·exact .inl ⟨a,fun y hy ey hon=>b y hy ey (on_next y hy ey hon)⟩
    ·exact .inr ⟨i',x',next,n',a1,a2,a3,a4,∅,a6,fun y hy ey hon=>a7 y hy ey (on_next y hy ey hon)⟩
theorem Tab.fill{t:SetTable}{L:Ln β}(T:Tab t L):t.fill=L.length:=by
 unfold SetTable.fill
 rw[T.place,T.dum,size_toArray,length_map]
 rfl
theorem Tab.odd{t:SetTable}{L:Ln β}(T:Tab t L):t.mask % 2=1:=by
 obtain⟨k,h1,h2⟩:=T.two
 obtain⟨q,rfl⟩:∃q,k=q+1:=⟨k-1,∅⟩
 rw[pow_succ] at h1
 omega
theorem Tab.way{t:SetTable}{L:Ln β}(T:Tab t L)(hc:L.length<=t.mask)(h:Int):∃n e,Way t.mask (Occ L) (sth t.mask h) n e/\n<=10*(13+L.length)/\e<=t.mask:=by
 obtain⟨k,h1,h2⟩:=T.two
 have:=Kg h1 (O:=L.map (·.1)) (by rw[length_map];exact hc) h
 rw[length_map] at this
 exact this
theorem Tab.put{t:SetTable}{L:Ln β}(T:Tab t L){n e:Nat}{h:Int}{y:β}(w:Way t.mask (Occ L) (sth t.mask h) n e)(he:e<=t.mask) :
  ∃A B,L=A++B/\(t.put e).2=A.length/\Tab (t.put e).1 (A++(e,h,y)::B):=by
 obtain⟨A,B,rfl,h1,h2⟩:=Dx T.ris e
 have hb:=T.below h1 h2
 obtain⟨won,wno⟩:=w.on
 have h2':∀b∈B,e<b.1:=fun b hb=>by
  have:=h2 b hb
  have:b.1≠e:=fun z=>wno (List.mem_map.mpr ⟨b,mem_append_right _ hb,z⟩)
  omega
 have hp:(t.put e).1={t with place:=insertAt t.place A.length e}:=by
  unfold SetTable.put
  rw[hb]
  show {t with place:=insertAt t.place A.length e,dummies:=if has t.dummies e=true then eraseAt t.dummies (SetTable.below t.dummies e) else t.dummies} = _
  rw[T.dum,E3]
  rfl
 have oc:∀j,Occ (A++B) j->Occ (A++(e,h,y)::B) j:=fun j hj=>by
  unfold Occ at hj ⊢
  rw[map_append,mem_append] at hj
  rw[map_append,mem_append,map_cons,mem_cons]
  rcases hj with z|z
  ·exact .inl z
  ·exact .inr (.inr z)
 refine⟨A,B,rfl,hb,?_⟩
 rw[hp]
 exact {
  place:=by
   show insertAt t.place A.length e=_
   rw[T.place,map_append]
   have:=yJ (A.map (·.1)) (B.map (·.1)) e
   rw[length_map] at this
   rw[this,map_append]
   rfl
  ris:=by
   have r:=T.ris
   rw[List.pairwise_append] at r ⊢
   refine⟨r.1,List.pairwise_cons.mpr ⟨fun b hb=>h2' b hb,r.2.1⟩,fun a ha b hb=>?_⟩
   rcases List.mem_cons.mp hb with rfl|hb
   ·exact h1 a ha
   ·exact r.2.2 a ha b hb
  le:=fun x hx=>by
   rcases List.mem_append.mp hx with z|z
   ·exact T.le x (mem_append_left _ z)
   ·rcases List.mem_cons.mp z with rfl|z
    ·exact he
    ·exact T.le x (mem_append_right _ z)
  dum:=T.dum
  two:=T.two
  on:=fun x hx=>by
   rcases List.mem_append.mp hx with z|z
   ·exact (T.on x (mem_append_left _ z)).mono oc
   ·rcases List.mem_cons.mp z with rfl|z
    ·exact won.mono oc
    ·exact (T.on x (mem_append_right _ z)).mono oc}
end
end ST
namespace ST
open PySem PySem.SetTable
theorem IB{m:Nat}{O:Nat->Prop}{i pt:Nat}:∀(k more j:Nat),k<=more->(∀q,q<k->O (j+q))->On m O {j:=j,more:=more,i:=i,perturb:=pt,dummy:=none} (j+k)
 |0,more,j,_,_=>.here
 |k+1,more,j,hk,ho=>by
  have hm:more>0:=by omega
  refine .step (ho 0 ∅) ?_
  have:adv m {j:=j,more:=more,i:=i,perturb:=pt,dummy:=none} = {j:=j+1,more:=more-1,i:=i,perturb:=pt,dummy:=none}:=by
   unfold adv;exact if_pos hm
  rw[this]
  have e:j+(k+1)=j+1+k:=by omega
  rw[e]
  exact IB k (more-1) (j+1) ∅ fun q hq=>by
   have:=ho (q+1) ∅
   have e:j+1+q=j+(q+1):=by omega
   rw[e];exact this
theorem vV{m:Nat}{O:Nat->Prop}{i pt e:Nat}(w:On m O (st m (leap m i pt)) e):∀(more j:Nat),(∀q,q<=more->O (j+q))->On m O {j:=j,more:=more,i:=i,perturb:=pt,dummy:=none} e
 |0,j,ho=>.step (ho 0 (le_refl _)) w
 |more+1,j,ho=>by
  refine .step (ho 0 ∅) ?_
  exact vV w more (j+1) fun q hq=>by
   have:=ho (q+1) ∅
   have e:j+1+q=j+(q+1):=by omega
   rw[e];exact this
theorem Ma{m:Nat}{s:Nat×Nat}(h:s.1<=m):∀n,(lp m s n).1<=m
 |0=>h
 |n+1=>EU m _ _
theorem K3{m:Nat}{owner:Array (Option Nat)}{js:List Nat}(ho:∀j,j<=m->((owner.getD j (some 0)).isNone=true↔j ∉ js)){s:Nat×Nat}(hs:s.1<=m){L:Nat}(hL:(lp m s L).1 ∉ js) :
  ∀(d fuel:Nat),d<fuel->d<=L->∃e,layClean.free m owner fuel (lp m s (L-d)).1 (lp m s (L-d)).2=some e/\On m (·∈js) (st m (lp m s (L-d))) e/\e ∉ js/\e<=m:=by
 intro d
 induction d with
 |zero=>
  intro fuel hf hd
  obtain⟨f,rfl⟩:∃f,fuel=f+1:=⟨fuel-1,∅⟩
  have hi:=Ma hs L
  rw[layClean.free]
  have hr:=DJ m (lp m s L).1
  have e1:(List.range (runEnd m (lp m s L).1+1-(lp m s L).1)).find? (fun k=>(owner.getD ((lp m s L).1+k) (some 0)).isNone)=some 0:=by
   rw[List.find?_range_eq_some]
   exact⟨(ho _ hi).mpr hL,List.mem_range.mpr ∅,fun j hj=>absurd hj (not_lt_zero j)⟩
  rw[Nat.sub_zero,e1]
  exact⟨_,rfl,.here,hL,hi⟩
 |succ d ih=>
  intro fuel hf hd
  obtain⟨f,rfl⟩:∃f,fuel=f+1:=⟨fuel-1,∅⟩
  have hi:=Ma hs (L-(d+1))
  obtain⟨e,a1,a2,a3,a4⟩:=ih f ∅ ∅
  have e1:L-d=(L-(d+1))+1:=by omega
  rw[e1] at a1 a2
  have hr:=DJ m (lp m s (L-(d+1))).1
  have hin:=ED hi
  rw[layClean.free]
  cases q:(List.range (runEnd m (lp m s (L-(d+1))).1+1-(lp m s (L-(d+1))).1)).find? (fun k=>(owner.getD ((lp m s (L-(d+1))).1+k) (some 0)).isNone) with
  |some k=>
   rw[List.find?_range_eq_some] at q
   obtain⟨q1,q2,q3⟩:=q
   rw[List.mem_range] at q2
   refine⟨_,rfl,IB k _ _ ∅ fun z hz=>?_,(ho _ ∅).mp q1,∅⟩
   have h1:=q3 z hz
   have h2:=ho ((lp m s (L-(d+1))).1+z) ∅
   rw[Bool.not_eq_true'] at h1
   exact Classical.byContradiction fun w=>by rw[h2.mpr w] at h1;cases h1
  |none=>
   rw[List.find?_eq_none] at q
   refine⟨e,a1,vV a2 _ _ fun z hz=>?_,a3,a4⟩
   have h1:=q z (List.mem_range.mpr ∅)
   have h2:=ho ((lp m s (L-(d+1))).1+z) ∅
   exact Classical.byContradiction fun w=>h1 (h2.mpr w)
structure Own(m:Nat)(owner:Array (Option Nat))(js:List Nat)(hs:List Int):Prop where
 size:owner.size=m+1
 len:js.length=hs.length
 nd:js.Nodup
 le:∀j∈js,j<=m
 is:∀j i,owner.getD j none=some i↔js[i]? = some j
 on:∀(i j:Nat) (h:Int),js[i]? = some j->hs[i]? = some h->On m (·∈js) (sth m h) j
theorem Own.none{m:Nat}{owner:Array (Option Nat)}{js:List Nat}{hs:List Int}(w:Own m owner js hs){j:Nat}(hj:j<=m):(owner.getD j (some 0)).isNone=true↔j ∉ js:=by
 have hj':j<owner.size:=by rw[w.size];omega
 have e:owner.getD j (some 0)=owner.getD j .none:=by unfold Array.getD;rw[dif_pos hj',dif_pos hj']
 rw[e]
 constructor
 ·intro h z
  obtain⟨i,hi,rfl⟩:=List.getElem_of_mem z
  have:=(w.is js[i] i).mpr (getElem?_eq_getElem hi)
  rw[this] at h
  cases h
 ·intro h
  cases q:owner.getD j .none with
  |none=>rfl
  |some i=>exact absurd (mem_of_getElem? ((w.is j i).mp q)) h
def fld(m:Nat)(acc:Option (Array (Option Nat)×Nat))(h:Int):Option (Array (Option Nat)×Nat):=do
  let (owner,k) <- acc
  let j <- layClean.free m owner (turns m) (bits h % (m+1)) (bits h)
  pure (owner.setIfInBounds j (some k),k+1)
theorem Ij{m k:Nat}(hm:m+1=2 ^ k){owner:Array (Option Nat)}{js:List Nat}{hs:List Int}(w:Own m owner js hs)(hc:js.length<m)(h:Int) :
  ∃e,fld m (some (owner,js.length)) h=some (owner.setIfInBounds e (some js.length),js.length+1)/\Own m (owner.setIfInBounds e (some js.length)) (js++[e]) (hs++[h]):=by
 have hb:bits h % (m+1)<=m:=le_of_lt_succ (Nat.mod_lt _ (Nat.succ_pos m))
 obtain⟨L,h1,h2⟩:=yk hm (O:=js) ∅ (bits h % (m+1),bits h) (Fp h)
 obtain⟨e,a1,a2,a3,a4⟩:=K3 (fun j hj=>w.none hj) (s:=(bits h % (m+1),bits h)) hb h2 L (turns m) (by unfold turns;omega) (le_refl _)
 rw[Nat.sub_self] at a1 a2
 have he:e<owner.size:=by rw[w.size];omega
 refine⟨e,?_,?_⟩
 ·unfold fld
  show (do let j <- layClean.free m owner (turns m) (bits h % (m+1)) (bits h);pure (owner.setIfInBounds j (some js.length),js.length+1))=_
  have a1':layClean.free m owner (turns m) (bits h % (m+1)) (bits h)=some e:=a1
  rw[a1']
  rfl
 ·have sub:∀j,j∈js->j∈js++[e]:=fun j hj=>mem_append_left _ hj
  have gd:∀j,(owner.setIfInBounds e (some js.length)).getD j none=if j=e then some js.length else owner.getD j none:=fun j=>by
   rw[Array.getD_eq_getD_getElem?,Array.getD_eq_getD_getElem?,Array.getElem?_setIfInBounds]
   by_cases c:e=j
   ·rw[if_pos c,if_pos c.symm,if_pos he];rfl
   ·rw[if_neg c,if_neg (fun z=>c z.symm)]
  exact {
   size:=by rw[Array.size_setIfInBounds];exact w.size
   len:=by rw[length_append,length_append,w.len];rfl
   nd:=by
    rw[List.nodup_append]
    refine⟨w.nd,List.pairwise_singleton _ _,fun a ha b hb z=>?_⟩
    rw[mem_singleton] at hb
    subst hb;subst z;exact a3 ha
   le:=fun j hj=>by
    rcases List.mem_append.mp hj with z|z
    ·exact w.le j z
    ·rw[mem_singleton] at z;omega
   is:=fun j i=>by
    rw[gd]
    by_cases c:j=e
    ·subst c
     rw[if_pos rfl]
     constructor
     ·intro z;cases z
      rw[getElem?_append_right (le_refl _),Nat.sub_self];rfl
     ·intro z
      rcases lt_or_ge i js.length with y|y
      ·rw[getElem?_append_left y] at z
       exact absurd (mem_of_getElem? z) a3
      ·rw[getElem?_append_right y] at z
       cases d:i-js.length with
       |zero=>congr 1;omega
       |succ n=>rw[d] at z;simp at z
    ·rw[if_neg c,w.is]
     rcases lt_or_ge i js.length with y|y
     ·rw[getElem?_append_left y]
     ·rw[getElem?_append_right y,getElem?_eq_none y]
      constructor
      ·intro z;cases z
      ·intro z
       cases d:i-js.length with
       |zero=>rw[d] at z;simp at z;exact absurd z.symm c
       |succ n=>rw[d] at z;simp at z
   on:=fun i j h' z1 z2=>by
    rcases lt_or_ge i js.length with y|y
    ·rw[getElem?_append_left y] at z1
     rw[getElem?_append_left (by rw[<- w.len];exact y)] at z2
     exact (w.on i j h' z1 z2).mono sub
    ·rw[getElem?_append_right y] at z1
     rw[getElem?_append_right (by rw[<- w.len];exact y),<- w.len] at z2
     cases d:i-js.length with
     |zero=>
      rw[d] at z1 z2
      simp at z1 z2
      subst z1;subst z2
      exact a2.mono sub
     |succ n=>rw[d] at z1;simp at z1}
theorem FL{m k:Nat}(hm:m+1=2 ^ k):∀(rest:List Int) (owner:Array (Option Nat)) (js:List Nat) (hs:List Int),Own m owner js hs->js.length+rest.length<=m ->
  ∃owner' js',rest.foldl (fld m) (some (owner,js.length))=some (owner',js'.length)/\Own m owner' js' (hs++rest)
 |[],owner,js,hs,w,_=>⟨owner,js,rfl,by rw[append_nil];exact w⟩
 |h::rest,owner,js,hs,w,hc=>by
  rw[length_cons] at hc
  obtain⟨e,a1,a2⟩:=Ij hm w ∅ h
  obtain⟨owner',js',b1,b2⟩:=FL hm rest _ _ _ a2 (by rw[length_append,List.length_singleton];omega)
  refine⟨owner',js',?_,by rw[append_assoc] at b2;exact b2⟩
  rw[List.foldl_cons,a1]
  rw[length_append,List.length_singleton] at b1
  exact b1
theorem HH(m:Nat):Own m (Array.replicate (m+1) none) [] [] where
 size:=Array.size_replicate
 len:=rfl
 nd:=List.Pairwise.nil
 le:=fun _ h=>by simp at h
 is:=fun j i=>by
  rw[Array.getD_eq_getD_getElem?,Array.getElem?_replicate]
  constructor
  ·intro z;split at z<;>cases z
  ·intro z;simp at z
 on:=fun i j h z _=>by simp at z
theorem Dn{m k:Nat}(hm:m+1=2 ^ k)(hs:List Int)(hc:hs.length<=m):∃owner js,layClean m hs.toArray=some owner/\Own m owner js hs:=by
 obtain⟨owner,js,h1,h2⟩:=FL hm hs _ _ _ (HH m) (by rw[length_nil,zero_add];exact hc)
 refine⟨owner,js,?_,h2⟩
 have h1':hs.foldl (fld m) (some (Array.replicate (m+1) none,0))=some (owner,js.length):=h1
 unfold layClean
 rw[List.foldl_toArray]
 show Option.map (·.1) (hs.foldl (fld m) (some (Array.replicate (m+1) none,0)))=_
 rw[h1']
 rfl
section
variable {β:Type}
theorem IZ{D:List (Int×β)}:∀(l:List (Nat×Nat)),(∀q∈l,q.2<D.length)->(l.filterMap fun q=>(D[q.2]?).map fun x=>(q.1,x)).map (·.1)=l.map (·.1) /\
  (l.filterMap fun q=>(D[q.2]?).map fun x=>(q.1,x)).map (·.2)=(l.map (·.2)).filterMap (D[·]?)
 |[],_=>⟨rfl,rfl⟩
 |q::l,h=>by
  obtain⟨h1,h2⟩:=IZ l fun q hq=>h q (mem_cons_of_mem _ hq)
  have hq:=h q (mem_cons_self ..)
  have e:D[q.2]? = some D[q.2]:=getElem?_eq_getElem hq
  constructor
  ·rw[List.filterMap_cons_some (b:=(q.1,D[q.2])) (by rw[e];rfl),map_cons,map_cons,h1]
  ·rw[List.filterMap_cons_some (b:=(q.1,D[q.2])) (by rw[e];rfl),map_cons,map_cons,h2,List.filterMap_cons_some e]
theorem Ll{m k:Nat}(hm:m+1=2 ^ k)(hk:3<=k)(D:List (Int×β))(hc:D.length<=m)(fi mo:Nat)(led pl:Bool) :
  ∃(t:SetTable) (order:Array Nat) (L:Ln β),laid m fi mo led pl (D.toArray.map (·.1))=some (t,order)/\order.filterMap (D.toArray[·]?)=(L.map (·.2)).toArray/\Tab t L/\L.length=D.length/\(∀x,x∈L.map (·.2)↔x∈D)/\t.mask=m/\t.led=led/\t.plain=pl:=by
 obtain⟨owner,js,h1,w⟩:=Dn hm (D.map (·.1)) (by rw[length_map];exact hc)
 have lj:js.length=D.length:=by rw[w.len,length_map]
 let live:=(List.range (m+1)).filterMap fun j=>(owner.getD j none).map (j,·)
 have mem_live:∀j i,(j,i)∈live↔js[i]? = some j:=fun j i=>by
  rw[List.mem_filterMap]
  constructor
  ·rintro ⟨a,_,e⟩
   cases q:owner.getD a none with
   |none=>rw[q] at e;cases e
   |some b=>rw[q] at e;cases e;exact (w.is _ _).mp q
  ·intro z
   refine⟨j,List.mem_range.mpr (Nat.lt_succ_of_le (w.le j (mem_of_getElem? z))),?_⟩
   rw[(w.is j i).mpr z]
   rfl
 have lt_live:∀q∈live,q.2<D.length:=fun q hq=>by
  have:=(mem_live q.1 q.2).mp hq
  rcases lt_or_ge q.2 js.length with z|z
  ·omega
  ·rw[getElem?_eq_none z] at this;cases this
 have ris_live:(live.map (·.1)).Pairwise (· < ·):=by
  refine List.pairwise_map.mpr (List.Pairwise.filterMap _ (fun a b hab x hx y hy=>?_) List.pairwise_lt_range)
  cases qa:owner.getD a none with
  |none=>rw[qa] at hx;cases hx
  |some i=>
   cases qb:owner.getD b none with
   |none=>rw[qb] at hy;cases hy
   |some i'=>rw[qa] at hx;rw[qb] at hy;cases hx;cases hy;exact hab
 have len_live:live.length=js.length:=by
  refine Nat.le_antisymm ?_ ?_
  ·have nd:(live.map fun q=>q.1).Nodup:=by
    unfold List.Nodup
    exact ris_live.imp fun {a b} (h:a<b)=>ne_of_lt h
   have:=pig _ js nd fun x hx=>by
    obtain⟨q,hq,rfl⟩:=List.mem_map.mp hx
    exact mem_of_getElem? ((mem_live q.1 q.2).mp hq)
   rw[length_map] at this
   exact this
  ·have:=pig js (live.map (·.1)) w.nd fun x hx=>by
    obtain⟨i,hi,rfl⟩:=List.getElem_of_mem hx
    exact List.mem_map.mpr ⟨(js[i],i),(mem_live _ _).mpr (getElem?_eq_getElem hi),rfl⟩
   rw[length_map] at this
   exact this
 let L:Ln β:=live.filterMap fun q=>(D[q.2]?).map fun x=>(q.1,x)
 obtain⟨f1,f2⟩:=IZ (D:=D) live lt_live
 have f1:L.map (·.1)=live.map (·.1):=f1
 have f2:L.map (·.2)=(live.map (·.2)).filterMap (D[·]?):=f2
 have mem_L:∀j x,(j,x)∈L↔∃i,js[i]? = some j/\D[i]? = some x:=fun j x=>by
  rw[List.mem_filterMap]
  constructor
  ·rintro ⟨q,hq,e⟩
   cases z:D[q.2]? with
   |none=>rw[z] at e;cases e
   |some y=>rw[z] at e;cases e;exact⟨q.2,(mem_live _ _).mp hq,z⟩
  ·rintro ⟨i,h1,h2⟩
   exact⟨(j,i),(mem_live j i).mpr h1,by rw[h2];rfl⟩
 have occ:∀j,j∈js->Occ L j:=fun j hj=>by
  unfold Occ
  rw[f1]
  obtain⟨i,hi,rfl⟩:=List.getElem_of_mem hj
  exact List.mem_map.mpr ⟨(js[i],i),(mem_live _ _).mpr (getElem?_eq_getElem hi),rfl⟩
 refine⟨{mask:=m,place:=(live.map (·.1)).toArray,dummies:=#[],finger:=fi,led:=led,moves:=mo,plain:=pl},(live.map (·.2)).toArray,L,?_,?_,?_,?_,?_,rfl,rfl,rfl⟩
 ·unfold laid
  have e:(D.toArray.map (·.1))=(D.map (·.1)).toArray:=by simp
  rw[e,h1]
  rfl
 ·rw[f2]
  simp
 ·exact {
   place:=by rw[f1]
   ris:=by
    have:=ris_live
    rw[<- f1] at this
    exact List.pairwise_map.mp this
   le:=fun x hx=>by
    obtain⟨i,h1,_⟩:=(mem_L x.1 x.2).mp hx
    exact w.le _ (mem_of_getElem? h1)
   dum:=rfl
   two:=⟨k,hm,hk⟩
   on:=fun x hx=>by
    obtain⟨i,h1,h2⟩:=(mem_L x.1 x.2).mp hx
    exact (w.on i x.1 x.2.1 h1 (by rw[getElem?_map,h2];rfl)).mono occ}
 ·rw[<- lj,<- len_live,<- length_map (f:=(·.1)) (as:=L),f1,length_map]
 ·intro x
  rw[mem_map]
  constructor
  ·rintro ⟨⟨j,y⟩,hy,rfl⟩
   obtain⟨i,_,h2⟩:=(mem_L j y).mp hy
   exact mem_of_getElem? h2
  ·intro hx
   obtain⟨i,hi,rfl⟩:=List.getElem_of_mem hx
   have hij:i<js.length:=by omega
   exact⟨(js[i],D[i]),(mem_L _ _).mpr ⟨i,getElem?_eq_getElem hij,getElem?_eq_getElem hi⟩,rfl⟩
end
theorem Gj(n:Nat):∀(fuel k:Nat),∃q,sizeAbove.go n fuel (2 ^ k)=2 ^ q/\k<=q/\(n<2 ^ (k+fuel)->n<2 ^ q)/\(2 ^ q=2 ^ k\/2 ^ q<=2*n)
 |0,k=>⟨k,rfl,le_refl _,fun h=>h,.inl rfl⟩
 |fuel+1,k=>by
  rw[sizeAbove.go]
  by_cases c:2 ^ k<=n
  ·rw[if_pos c]
   obtain⟨q,h1,h2,h3,h4⟩:=Gj n fuel (k+1)
   rw[<- pow_succ]
   refine⟨q,h1,∅,fun h=>h3 (by rw[Nat.add_assoc,Nat.add_comm 1 fuel];exact h),.inr ?_⟩
   rcases h4 with h4|h4
   ·rw[h4,pow_succ];omega
   ·exact h4
  ·rw[if_neg c]
   exact⟨k,rfl,le_refl _,fun _=>by omega,.inl rfl⟩
theorem K5(n:Nat)(h:n<2 ^ 60):∃k,sizeAbove n=2 ^ k/\3<=k/\n<2 ^ k/\(2 ^ k=8\/2 ^ k<=2*n):=by
 obtain⟨q,h1,h2,h3,h4⟩:=Gj n 64 3
 exact⟨q,h1,h2,h3 (lt_of_lt_of_le h (Nat.pow_le_pow_right ⋯ ⋯)),h4⟩
end ST
set_option maxHeartbeats 1000000
namespace ST
open PySem PySem.SetTable
section
variable {prog:Program}{w:World}{K:Type}[DecidableEq K]{knd:KeyKind prog w K}
variable {A:Around}{E:Value->Shared->Prop}{s:Shared}
theorem BL{ks:List K}{a:Addr}{Q:Bool->Shared->Prop}(hk:IsTupleKey knd s.heap ks a)(h:Q false s):wpAny (model prog w) A (ofAClassStatement 8 (.ref a)) Q E s:=by
 have hT:=hk.typeIs
 obtain⟨o,items,n,ho,_,hd,hi⟩:=hk
 unfold ofAClassStatement
 refine wpAny_bind (wpAny_typeOf hT ?_)
 dsimp only
 rw[if_pos ⋯]
 refine wpAny_bind (wpAny_pure ?_)
 simp only[Bool.not_true,false_eq_true,if_false]
 refine wpAny_bind (wpAny_seqItems ho hd ?_)
 refine wpAny_bind ?_
 show wpAny _ _ (forIn items _ _) _ _ s
 rw[<- Array.forIn_toList]
 refine wpAny_forIn_list _ (fun rest r s'=>r.1=none/\s'=s/\∀v∈rest,carriedByValue v=true) _ ?_ ?_ _ _ ⟨rfl,rfl,hi.byValue⟩
 ·rintro v rest r s' ⟨hr,rfl,hall⟩
  have e:ofAClassStatement 7 v=pure false:=by
   have:=hall v mem_cons_self
   cases v with
   |ref a=>simp[carriedByValue] at this
   |_=>first|rfl|simp[ofAClassStatement]|(unfold ofAClassStatement;rfl)
  rw[e]
  refine wpAny_bind (wpAny_pure ?_)
  simp only[false_eq_true,if_false]
  exact wpAny_pure ⟨rfl,rfl,fun u hu'=>hall u (mem_cons_of_mem _ hu')⟩
 ·rintro ⟨r1,r2⟩ s' ⟨hr,rfl,_⟩
  simp only at hr
  subst hr
  exact wpAny_pure h
theorem JE{k:List K}{q:Addr}(hk:IsTupleKey knd s.heap k q)(stored:List Value)(hs:∀v∈stored,∃k' q',v = .ref q'/\IsTupleKey knd s.heap k' q'){Q:Bool->Shared->Prop}(h:Q false s) :
  wpAny (model prog w) A (searchCouldBeSeen (.ref q) stored) Q E s:=by
 unfold searchCouldBeSeen
 refine wpAny_bind ?_
 refine wpAny_forIn_list _ (fun rest r s'=>r.1=none/\s'=s/\∀v∈rest,∃k' q',v = .ref q'/\IsTupleKey knd s.heap k' q') _ ?_ ?_ _ _ ⟨rfl,rfl,hs⟩
 ·rintro v rest r s' ⟨hr,rfl,hall⟩
  obtain⟨k',q',rfl,hk'⟩:=hall v mem_cons_self
  have up:∀v∈rest,∃k' q',v = .ref q'/\IsTupleKey knd s'.heap k' q':=fun u hu'=>hall u (mem_cons_of_mem _ hu')
  dsimp only
  split
  ·exact wpAny_pure ⟨rfl,rfl,up⟩
  ·refine wpAny_bind (wpAny_eqIsQuiet_tuple hk ?_)
   simp only[Bool.not_true,false_eq_true,if_false]
   refine wpAny_bind (wpAny_eqIsQuiet_tuple hk' ?_)
   simp only[Bool.not_true,false_eq_true,if_false]
   refine wpAny_bind (BL hk ?_)
   simp only[false_eq_true,if_false]
   refine wpAny_bind (BL hk' ?_)
   simp only[false_eq_true,if_false]
   exact wpAny_pure ⟨rfl,rfl,up⟩
 ·rintro ⟨r1,r2⟩ s' ⟨hr,rfl,_⟩
  simp only at hr
  subst hr
  exact wpAny_pure h
noncomputable def Ent(knd:KeyKind prog w K)(h:Heap)(x:Nat×Int×Value)(k:List K):Prop:=∃q,x.2.2 = .ref q/\IsTupleKey knd h k q/\x.2.1=tupleKeyHash knd k
theorem Ent.inj{h:Heap}{x:Nat×Int×Value}{k k':List K}(a:Ent knd h x k)(b:Ent knd h x k'):k=k':=by
 obtain⟨q,a1,a2,_⟩:=a
 obtain⟨q',b1,b2,_⟩:=b
 rw[a1] at b1;cases b1
 exact a2.inj b2
theorem fits_of{t:SetTable}{L:Ln Value}(T:Tab t L)(hc:L.length<=t.mask):t.fits (L.map (·.2)).toArray.size=true:=by
 unfold SetTable.fits
 rw[T.fill,T.place]
 simp[hc]
theorem Du{a:Addr}{o:Obj}{L:Ln Value}{ep:Nat}{t:SetTable}(hA:A.units<cLine)(ho:s.heap.get? a=some o)(hd:o.data = .set (L.map (·.2)).toArray ep t)(T:Tab t L)(hc:L.length<=t.mask)
  (hL:∀x∈L,∃k,Ent knd s.heap x k) {k:List K} {q:Addr} (hk:IsTupleKey knd s.heap k q) {adding:Bool} {e:Nat} {Q:SetFound->Shared->Prop}
  (yes:(∃x∈L,Ent knd s.heap x k)->∀r,(adding=false->r.isSome=true)->Q (.there r) s) (no:(∀x∈L,¬ Ent knd s.heap x k)->Q (.free e false) s) :
  ∀(n fuel:Nat) (stand:Option Probe),Way t.mask (Occ L) (stand.getD (t.probeStart (tupleKeyHash knd k))) n e->n<fuel->n<10*turns t.mask ->
   (∀y∈L,Ent knd s.heap y k->On t.mask (Occ L) (stand.getD (t.probeStart (tupleKeyHash knd k))) y.1) ->
   wpAny (model prog w) A (setSearchFrom a (.ref q) (tupleKeyHash knd k) adding fuel stand) Q E s:=by
 intro n
 induction n using Nat.strongRecOn with
 |_ n ih=>
  intro fuel stand wy hf hf2 hon
  obtain⟨f,rfl⟩:∃f,fuel=f+1:=⟨fuel-1,∅⟩
  have hfit:=fits_of T hc
  unfold setSearchFrom
  refine wpAny_bind (wpAny_setState_of ho hd hfit ?_)
  dsimp only
  have hgw:t.gaveWay=false:=by
   unfold SetTable.gaveWay
   rw[T.odd]
   rfl
  rw[hgw]
  simp only[false_eq_true,if_false]
  have hp:=Kr T (hashAt:=fun i=>(((L.map (·.2)).toArray)[i]?.map (·.1)).getD 0) (fun i hi=>by
   unfold hashOf
   simp
   rfl) (tupleKeyHash knd k) n _ e (10*turns t.mask) wy hf2
  rcases hp with ⟨g1,g2⟩|⟨i,x,next,n',g1,g2,g3,g4,g5,g6,g7⟩
  ·refine (show wpAny (model prog w) A (match t.probe (fun i=>(((L.map (·.2)).toArray)[i]?.map (·.1)).getD 0) (tupleKeyHash knd k) (stand.getD (t.probeStart (tupleKeyHash knd k))) with|some met=>_|_=>_) Q E s from ?_)
   unfold probe
   rw[g1]
   refine wpAny_pure (no fun x hx z=>?_)
   obtain⟨_,_,_,z3⟩:=id z
   exact g2 x hx z3 (hon x hx z)
  ·refine (show wpAny (model prog w) A (match t.probe (fun i=>(((L.map (·.2)).toArray)[i]?.map (·.1)).getD 0) (tupleKeyHash knd k) (stand.getD (t.probeStart (tupleKeyHash knd k))) with|some met=>_|_=>_) Q E s from ?_)
   unfold probe
   rw[g1]
   dsimp only
   obtain⟨k',hk'⟩:=hL x (mem_of_getElem? g2)
   obtain⟨q',e1,e2,e3⟩:=id hk'
   have hes:(L.map (·.2)).toArray[i]? = some (x.2.1,.ref q'):=by
    rw[List.getElem?_toArray,getElem?_map,g2,<- e1]
    rfl
   have go:wpAny (model prog w) A (do
     let some (_,y):=((L.map (·.2)).toArray)[i]?|unsupported "internal:set-entry"
     let equal <- holding [y] (eqBool y (.ref q))
     let (es',_,t') <- setState a
     if adding&&equal then return .there none
     let some same:=t'.sameMemory t.moves t.mask|unsupported "set.changed-during-lookup:is-the-new-block-at-the-old-address"
     let still <- match (if same then t'.slot x.1 else .empty) with
      |.live i'=>match es'[i']? with
       |some (_,y')=>do pure (if <- isSame y' y then some i' else none)
       |none=>pure none
      |_=>pure none
     match still with
     |none=>rule "set.search.anew";setSearchFrom a (.ref q) (tupleKeyHash knd k) adding f none
     |some i'=>if equal then return .there (some i') else setSearchFrom a (.ref q) (tupleKeyHash knd k) adding f (some next)) Q E s:=by
    rw[hes]
    dsimp only
    refine wpAny_bind (wpAny_holding (wpAny_eqBool_tuple hA e2 hk ?_))
    refine wpAny_bind (wpAny_setState_of ho hd hfit ?_)
    dsimp only
    have sm:t.sameMemory t.moves t.mask=some true:=by
     unfold sameMemory
     rw[if_pos (beq_self_eq_true _)]
    by_cases c:k'=k
    ·subst c
     have hex:∃x∈L,Ent knd s.heap x k':=⟨x,mem_of_getElem? g2,hk'⟩
     rw[decide_eq_true rfl]
     cases adding with
     |true=>exact wpAny_pure (yes hex none fun z=>nomatch z)
     |false=>
      simp only[Bool.false_and,false_eq_true,if_false]
      rw[sm]
      dsimp only
      rw[if_pos rfl,g3]
      dsimp only
      rw[hes]
      dsimp only
      refine wpAny_bind (wpAny_isSame_ref_self (wpAny_bind (wpAny_pure ?_)))
      rw[if_pos rfl]
      dsimp only
      rw[if_pos trivial]
      exact wpAny_pure (yes hex _ fun _=>rfl)
    ·rw[decide_eq_false c]
     simp only[Bool.and_false,false_eq_true,if_false]
     rw[sm]
     dsimp only
     rw[if_pos rfl,g3]
     dsimp only
     rw[hes]
     dsimp only
     refine wpAny_bind (wpAny_isSame_ref_self (wpAny_bind (wpAny_pure ?_)))
     rw[if_pos rfl]
     dsimp only
     refine ih n' g5 f (some next) g6 ∅ ∅ fun y hy hyk=>?_
     obtain⟨_,_,_,z3⟩:=id hyk
     rcases g7 y hy z3 (hon y hy hyk) with z|z
     ·subst z
      exact absurd (hk'.inj hyk) c
     ·exact z
   cases hl:t.led with
   |true=>
    simp only[Bool.not_true,false_eq_true,if_false]
    exact go
   |false=>
    simp only[Bool.not_false,if_true]
    refine wpAny_bind (JE hk _ (fun v hv=>?_) ?_)
    ·obtain⟨y,hy,rfl⟩:=List.mem_map.mp hv
     have hy1:y∈L.map (·.2):=by
      have:=Array.mem_toList_iff.mp hy
      rw[Array.mem_filter] at this
      simpa using this.1
     obtain⟨x',hx',rfl⟩:=List.mem_map.mp hy1
     obtain⟨k'',q'',b1,b2,_⟩:=hL x' hx'
     exact⟨k'',q'',b1,b2⟩
    ·simp only[false_eq_true,if_false]
     exact go
end
end ST
namespace ST
open PySem PySem.SetTable
noncomputable def CF(h:Heap)(a:Addr)(L:Ln Value):Prop:=∃o ep t,h.get? a=some o/\o.ExactSet/\o.data = .set (L.map (·.2)).toArray ep t/\Tab t L/\L.length*5<t.mask*3
section
variable {prog:Program}{w:World}{K:Type}[DecidableEq K]{knd:KeyKind prog w K}
variable {A:Around}{E:Value->Shared->Prop}{s:Shared}
theorem yA{a:Addr}{o:Obj}{L:Ln Value}{ep:Nat}{t:SetTable}(hA:A.units<cLine)(ho:s.heap.get? a=some o)(hd:o.data = .set (L.map (·.2)).toArray ep t)(T:Tab t L)(hc:L.length<=t.mask)
  (hL:∀x∈L,∃k,Ent knd s.heap x k) (hb:L.length<=9900) {k:List K} {q:Addr} (hk:IsTupleKey knd s.heap k q) {adding:Bool} {Q:SetFound->Shared->Prop}
  (yes:(∃x∈L,Ent knd s.heap x k)->∀r,(adding=false->r.isSome=true)->Q (.there r) s)
  (no:(∀x∈L,¬ Ent knd s.heap x k)->∀n e,Way t.mask (Occ L) (sth t.mask (tupleKeyHash knd k)) n e->e<=t.mask->Q (.free e false) s) :
  wpAny (model prog w) A (setSearch a (.ref q) (tupleKeyHash knd k) adding) Q E s:=by
 obtain⟨n,e,wy,hn,he⟩:=T.way hc (tupleKeyHash knd k)
 refine Du hA ho hd T hc hL hk yes (fun z=>no z n e wy he) n 100000 none wy ∅ (by unfold turns;omega) fun y hy hyk=>?_
 obtain⟨_,_,_,z3⟩:=hyk
 have:=T.on y hy
 rw[z3] at this
 exact this
theorem ES(q:Addr)(es:Array (Int×Value)):byScan (.ref q) es=false:=rfl
theorem CJ{a:Addr}{L:Ln Value}(hA:A.units<cLine)(S:CF s.heap a L)(hL:∀x∈L,∃k,Ent knd s.heap x k)(hb:L.length<=9900){k:List K}{q:Addr}(hk:IsTupleKey knd s.heap k q){Q:Bool->Shared->Prop}
  (h:∀b:Bool,(b=true↔∃x∈L,Ent knd s.heap x k)->Q b {s with toks:=s.toks+(k.length+1)}):wpAny (model prog w) A (setContains a (.ref q)) Q E s:=by
 obtain⟨o,ep,t,ho,hex,hd,T,hr⟩:=S
 unfold setContains
 refine wpAny_holding (wpAny_bind (wpAny_pyHash_tuple hA hk (wpAny_bind ?_)))
 have hc:L.length<=t.mask:=by omega
 unfold setFind setFindIn
 refine wpAny_bind (wpAny_setState_of (s:={s with toks:=s.toks+(k.length+1)}) ho hd (fits_of T hc) ?_)
 dsimp only
 rw[ES]
 simp only[false_eq_true,if_false]
 refine wpAny_bind (yA (s:={s with toks:=s.toks+(k.length+1)}) hA ho hd T hc hL hb hk (fun z r hr=>?_) fun z n e _ _=>?_)
 ·refine wpAny_pure (wpAny_pure (h _ ⟨fun _=>z,fun _=>hr rfl⟩))
 ·refine wpAny_pure (wpAny_pure (h _ ⟨fun w=>(nomatch w),fun ⟨x,hx,hx2⟩=>absurd hx2 (z x hx)⟩))
theorem HY{ks:List K}{a:Addr}{Q:Bool->Shared->Prop}(hk:IsTupleKey knd s.heap ks a)(h:∀b,Q b s):wpAny (model prog w) A (hashByValue 8 (.ref a)) Q E s:=by
 have hT:=hk.typeIs
 obtain⟨o,items,n,ho,_,hd,hi⟩:=hk
 unfold hashByValue
 refine wpAny_bind (wpAny_specialOf hT F.slot_tuple_hash.lookup ?_)
 dsimp only
 refine wpAny_bind (wpAny_seqItems ho hd ?_)
 refine wpAny_bind ?_
 show wpAny _ _ (forIn items _ _) _ _ s
 rw[<- Array.forIn_toList]
 refine wpAny_forIn_list _ (fun rest r s'=>r.1=none/\s'=s/\∀v∈rest,carriedByValue v=true) _ ?_ ?_ _ _ ⟨rfl,rfl,hi.byValue⟩
 ·rintro v rest r s' ⟨hr,rfl,hall⟩
  have e:∃b,hashByValue 7 v=pure b:=by
   have:=hall v mem_cons_self
   cases v with
   |ref a=>simp[carriedByValue] at this
   |_=>exact⟨_,rfl⟩
  obtain⟨b,e⟩:=e
  rw[e]
  refine wpAny_bind (wpAny_pure ?_)
  cases b with
  |true=>
   simp only[Bool.not_true,false_eq_true,if_false]
   exact wpAny_pure ⟨rfl,rfl,fun u hu'=>hall u (mem_cons_of_mem _ hu')⟩
  |false=>
   simp only[Bool.not_false,if_true]
   exact wpAny_pure (wpAny_pure (h _))
 ·rintro ⟨r1,r2⟩ s' ⟨hr,rfl,_⟩
  simp only at hr
  subst hr
  exact wpAny_pure (h _)
theorem Tab.plain{t:SetTable}{L:Ln Value}(T:Tab t L)(b:Bool):Tab {t with plain:=b} L:=⟨T.place,T.ris,T.le,T.dum,T.two,T.on⟩
theorem yz{h:Heap}{a:Addr}{o:Obj}{es:Array (Int×Value)}{ep:Nat}{t:SetTable}(ho:h.get? a=some o)(hd:o.data = .set es ep t)(es':Array (Int×Value))(t':SetTable) :
  (h.update a (Obj.putSet es' t')).get? a=some {o with data:=.set es' (ep+1) t'}:=by
 have:=Heap.get?_update_self (Obj.putSet es' t') ho (by rw[putSet_of es' t' hd];rfl)
 rw[putSet_of es' t' hd] at this;exact this
theorem Jy{a:Addr}{o:Obj}{L:Ln Value}{ep:Nat}{t:SetTable}(ho:s.heap.get? a=some o)(hex:o.ExactSet)(hd:o.data = .set (L.map (·.2)).toArray ep t)(T:Tab t L)(hc:L.length<=t.mask)(h0:0<L.length)(hb:L.length<=9900)
  {Q:Unit->Shared->Prop} (h:∀h' L',Heap.SameBut a s.heap h'->CF h' a L'->L'.length=L.length->(∀y,y∈L'.map (·.2)↔y∈L.map (·.2))->Q () {s with heap:=h'}) :
  wpAny (model prog w) A (setRelay a (SetTable.grown L.length)) Q E s:=by
 have eg:SetTable.grown L.length=L.length*4:=by
  unfold SetTable.grown
  rw[if_neg ∅]
 rw[eg]
 obtain⟨k,k1,k2,k3,k4⟩:=K5 (L.length*4) (Nat.lt_of_le_of_lt (show L.length*4<=40000 by omega) ⋯)
 have hk8:2 ^ 3<=2 ^ k:=Nat.pow_le_pow_right (show 2>0 by decide) k2
 have hm:(SetTable.sizeAbove (L.length*4)-1)+1=2 ^ k:=by rw[k1];omega
 have hD:(L.map (·.2)).length=L.length:=length_map ..
 obtain⟨t',order,L',l1,l2,l3,l4,l5,l6,_,_⟩:=Ll (β:=Value) hm k2 (L.map (·.2)) (by rw[hD,k1];omega) t.finger (t.movedTo (SetTable.sizeAbove (L.length*4)-1)) t.led t.plain
 rw[hD] at l4
 unfold setRelay
 refine wpAny_bind (wpAny_setState_of ho hd (fits_of T hc) ?_)
 dsimp only
 rw[if_neg (by rw[k1,sizeLine_eq];omega)]
 have er:t.relaid ((L.map (·.2)).toArray.map (·.1)) (L.length*4)=some (t',order):=l1
 rw[er]
 refine wpAny_bind ?_
 show wpAny _ _ (if ((order.filterMap ((L.map (·.2)).toArray[·]?)).size != (L.map (·.2)).toArray.size)=true then _ else _) _ _ s
 rw[l2]
 have e0:((L'.map (·.2)).toArray.size != (L.map (·.2)).toArray.size)=false:=by simp[l4]
 rw[e0]
 simp only[false_eq_true,if_false]
 refine wpAny_pure ?_
 dsimp only
 refine wpAny_storeSet_of ho hd ?_ (by rw[size_toArray,length_map,l4,sizeLine_eq];omega)
 exact h _ L' (Heap.SameBut.update s.heap a _) ⟨_,_,t',yz ho hd _ _,hex,rfl,l3,by rw[l4,l6,k1];omega⟩ l4 l5
theorem Ni{a:Addr}{L:Ln Value}(hA:A.units<cLine)(S:CF s.heap a L)(hL:∀x∈L,∃k,Ent knd s.heap x k)(hb:L.length<=9800){k:List K}{q:Addr}(hk:IsTupleKey knd s.heap k q){Q:Bool->Shared->Prop}
  (yes:(∃x∈L,Ent knd s.heap x k)->Q false {s with toks:=s.toks+(k.length+1)})
  (no:(∀x∈L,¬ Ent knd s.heap x k)->∀h' L',Heap.SameBut a s.heap h'->CF h' a L'->L'.length=L.length+1->(∀y,y∈L'.map (·.2)↔y∈L.map (·.2)\/y=(tupleKeyHash knd k,.ref q)) ->
   Q true {s with heap:=h',toks:=s.toks+(k.length+1)}):wpAny (model prog w) A (setAdd a (.ref q)) Q E s:=by
 obtain⟨o,ep,t,ho,hex,hd,T,hr⟩:=S
 have hc:L.length<=t.mask:=by omega
 unfold setAdd
 refine wpAny_holding (wpAny_bind (wpAny_pyHash_tuple hA hk ?_))
 unfold setAddHashed
 refine wpAny_holding ?_
 unfold setAddHashedIn
 refine wpAny_bind (wpAny_setState_of (s:={s with toks:=s.toks+(k.length+1)}) ho hd (fits_of T hc) ?_)
 dsimp only
 rw[ES]
 simp only[false_eq_true,if_false]
 refine wpAny_bind (yA (s:={s with toks:=s.toks+(k.length+1)}) hA ho hd T hc hL ∅ hk (fun z r hr=>?_) fun z n e wy he=>?_)
 ·exact wpAny_pure (yes z)
 ·dsimp only
  refine wpAny_bind (wpAny_setState_of (s:={s with toks:=s.toks+(k.length+1)}) ho hd (fits_of T hc) ?_)
  dsimp only
  obtain⟨B1,B2,rfl,p1,p2⟩:=T.put (y:=Value.ref q) wy he
  have mk:(t.put e).1.mask=t.mask:=rfl
  rw[p1]
  have ees:insertAt ((B1++B2).map (·.2)).toArray B1.length (tupleKeyHash knd k,Value.ref q)=((B1++(e,tupleKeyHash knd k,Value.ref q)::B2).map (·.2)).toArray:=by
   rw[map_append,map_append]
   have:=yJ (B1.map (·.2)) (B2.map (·.2)) (tupleKeyHash knd k,Value.ref q)
   rw[length_map] at this
   exact this
  have len1:(B1++(e,tupleKeyHash knd k,Value.ref q)::B2).length=(B1++B2).length+1:=by simp;omega
  have mem1:∀y,y∈(B1++(e,tupleKeyHash knd k,Value.ref q)::B2).map (·.2)↔y∈(B1++B2).map (·.2)\/y=(tupleKeyHash knd k,.ref q):=fun y=>by
   rw[map_append,map_append,mem_append,mem_append,map_cons,mem_cons]
   constructor
   ·rintro (z|z|z)
    ·exact .inl (.inl z)
    ·exact .inr z
    ·exact .inl (.inr z)
   ·rintro ((z|z)|z)
    ·exact .inl z
    ·exact .inr (.inr z)
    ·exact .inr (.inl z)
  have tail:∀(t1:SetTable),Tab t1 (B1++(e,tupleKeyHash knd k,Value.ref q)::B2)->t1.mask=t.mask->wpAny (model prog w) A (do
    storeSet a (insertAt ((B1++B2).map (·.2)).toArray B1.length (tupleKeyHash knd k,Value.ref q)) t1
    if (!false&&t1.tooFull)=true then do
     setRelay a (SetTable.grown (((B1++B2).map (·.2)).toArray.size+1))
     pure true
    else pure true) Q E {s with toks:=s.toks+(k.length+1)}:=by
   intro t1 T1 m1
   rw[ees]
   have hs1:((B1++(e,tupleKeyHash knd k,Value.ref q)::B2).map (·.2)).toArray.size<=sizeLine:=by
    rw[size_toArray,length_map,len1,sizeLine_eq];omega
   refine wpAny_bind (wpAny_storeSet_of (s:={s with toks:=s.toks+(k.length+1)}) ho hd ?_ hs1)
   have ho1:=yz ho hd ((B1++(e,tupleKeyHash knd k,Value.ref q)::B2).map (·.2)).toArray t1
   have sb1:=Heap.SameBut.update s.heap a (Obj.putSet ((B1++(e,tupleKeyHash knd k,Value.ref q)::B2).map (·.2)).toArray t1)
   have esz:((B1++B2).map (·.2)).toArray.size+1=(B1++(e,tupleKeyHash knd k,Value.ref q)::B2).length:=by
    rw[len1,size_toArray,length_map]
   rw[esz]
   by_cases tf:t1.tooFull=true
   ·rw[tf]
    rw[if_pos (by rfl)]
    refine wpAny_bind (Jy (s:={s with heap:=_,toks:=s.toks+(k.length+1)}) ho1 hex rfl T1 (by rw[len1,m1];omega) ∅ ∅ fun h' L' c1 c2 c3 c4=>?_)
    exact wpAny_pure (no z h' L' (sb1.trans c1) c2 (c3.trans len1) fun y=>(c4 y).trans (mem1 y))
   ·rw[if_neg (by simpa using tf)]
    refine wpAny_pure (no z _ _ sb1 ⟨_,_,t1,ho1,hex,rfl,T1,?_⟩ len1 mem1)
    unfold tooFull at tf
    rw[T1.fill] at tf
    simpa using tf
  by_cases pl:(t.put e).1.plain=true
  ·rw[if_pos pl]
   refine wpAny_bind (HY (s:={s with toks:=s.toks+(k.length+1)}) hk fun b=>?_)
   cases b with
   |true=>exact tail _ p2 rfl
   |false=>exact tail _ (p2.plain false) rfl
  ·rw[if_neg pl]
   refine wpAny_bind (wpAny_pure ?_)
   exact tail _ p2 rfl
end
end ST
set_option maxHeartbeats 4000000
namespace NM
@[irreducible] def Sz (n:Nat) (i:Int):Prop:=i.natAbs<2 ^ n
theorem Sz.mono{n m:Nat}{i:Int}(h:Sz n i)(l:n<=m):Sz m i:=by unfold Sz at *;exact lt_of_lt_of_le h (Nat.pow_le_pow_right ⋯ l)
theorem Sz.mul{n m:Nat}{i j:Int}(h:Sz n i)(g:Sz m j):Sz (n+m) (i*j):=by
 unfold Sz at *
 rw[natAbs_mul,Nat.pow_add]
 exact Nat.mul_lt_mul'' h g
theorem Sz.add{n:Nat}{i j:Int}(h:Sz n i)(g:Sz n j):Sz (n+1) (i+j):=by
 unfold Sz at *
 have:=Int.natAbs_add_le i j
 rw[pow_succ]
 omega
theorem Sz.neg{n:Nat}{i:Int}(h:Sz n i):Sz n (-i):=by unfold Sz at *;rw[Int.natAbs_neg];exact h
theorem Sz.sub{n:Nat}{i j:Int}(h:Sz n i)(g:Sz n j):Sz (n+1) (i-j):=by rw[Int.sub_eq_add_neg];exact h.add g.neg
theorem Sz.le{n:Nat}{i j:Int}(h:Sz n i)(g:j.natAbs<=i.natAbs):Sz n j:=by unfold Sz at *;exact Nat.lt_of_le_of_lt g h
theorem Sz.of{n:Nat}{i:Int}(h:i.natAbs<2 ^ n):Sz n i:=by unfold Sz;exact h
theorem Sz.lt{n:Nat}{i:Int}(h:Sz n i):i.natAbs<2 ^ n:=by unfold Sz at h;exact h
def g3(a b c:Int):Nat:=Int.gcd (Int.gcd a b:Nat) c
theorem KQ(a b c:Int):Int.gcd (Int.gcd c a:Nat) b=g3 a b c:=by
 unfold g3
 simp only[Int.gcd,Int.natAbs_natCast]
 rw[Nat.gcd_assoc,Nat.gcd_comm]
theorem IQ(a b c:Int):((g3 a b c:Nat):Int) ∣ a/\((g3 a b c:Nat):Int) ∣ b/\((g3 a b c:Nat):Int) ∣ c:=by
 have h:((g3 a b c:Nat):Int) ∣ ((Int.gcd a b:Nat):Int):=Int.gcd_dvd_left ..
 exact⟨Int.dvd_trans h (Int.gcd_dvd_left ..),Int.dvd_trans h (Int.gcd_dvd_right ..),Int.gcd_dvd_right ..⟩
theorem Nh{a b c:Int}{k:Nat}(h1:(k:Int) ∣ a)(h2:(k:Int) ∣ b)(h3:(k:Int) ∣ c):k ∣ g3 a b c:=by
 unfold g3
 exact Int.dvd_gcd (Int.natCast_dvd_natCast.mpr (Int.dvd_gcd h1 h2)) h3
theorem zI{a b c:Int}(h:c≠0):0<g3 a b c:=by
 unfold g3
 exact Int.gcd_pos_of_ne_zero_right _ h
theorem IG(a b c k:Int):g3 (a*k) (b*k) (c*k)=g3 a b c*k.natAbs:=by
 unfold g3
 simp only[Int.gcd,Int.natAbs_natCast,natAbs_mul,Nat.gcd_mul_right]
theorem IM(a b c:Int):g3 a (-b) c=g3 a b c:=by
 unfold g3
 rw[Int.gcd_neg]
theorem Kq(a b c:Int):g3 (-a) b c=g3 a b c:=by
 unfold g3
 rw[Int.neg_gcd]
structure N3 where
 a:Int
 b:Int
 c:Int
deriving DecidableEq
theorem N3.ext'{x y:N3}(h1:x.a=y.a)(h2:x.b=y.b)(h3:x.c=y.c):x=y:=by cases x;cases y;simp_all
structure Ok(x:N3):Prop where
 c:0<x.c
 g:g3 x.a x.b x.c=1
def dv(a b c:Int):Int:=if c<0 then -(g3 a b c:Nat) else (g3 a b c:Nat)
def low(a b c:Int):N3:=⟨a.fdiv (dv a b c),b.fdiv (dv a b c),c.fdiv (dv a b c)⟩
theorem zO{a k q:Int}(hk:k≠0)(h:a=k*q):a.fdiv k=q:=by
 subst h
 exact Int.mul_fdiv_cancel_left q hk
theorem Pa{a b c:Int}(h:c≠0):dv a b c≠0:=by
 have:=zI (a:=a) (b:=b) h
 unfold dv
 split<;>omega
theorem N1(a b c:Int):dv a b c ∣ a/\dv a b c ∣ b/\dv a b c ∣ c:=by
 obtain⟨h1,h2,h3⟩:=IQ a b c
 unfold dv
 split
 ·exact⟨Int.neg_dvd.mpr h1,Int.neg_dvd.mpr h2,Int.neg_dvd.mpr h3⟩
 ·exact⟨h1,h2,h3⟩
theorem kj(a b:Int){c:Int}(h:c≠0):∃k:Int,k≠0/\(0<k↔0<c)/\a=k*(low a b c).a/\b=k*(low a b c).b/\c=k*(low a b c).c/\Ok (low a b c):=by
 have hk:=Pa (a:=a) (b:=b) h
 obtain⟨⟨p,hp⟩,⟨q,hq⟩,⟨r,hr⟩⟩:=N1 a b c
 have ep:(low a b c).a=p:=zO hk hp
 have eq:(low a b c).b=q:=zO hk hq
 have er:(low a b c).c=r:=zO hk hr
 have hg:=zI (a:=a) (b:=b) h
 have hs:0<dv a b c↔0<c:=by unfold dv;split<;>omega
 have hr0:0<r:=by
  have hr':r≠0:=fun z=>h (by rw[hr,z,Int.mul_zero])
  rcases Int.lt_trichotomy 0 (dv a b c) with z|z|z
  ·have:=hs.mp z
   rw[hr] at this
   rw[Int.mul_comm] at this
   exact Int.pos_of_mul_pos_left this z |> fun t=>t
  ·exact absurd z.symm hk
  ·have:c<0:=by omega
   rcases Int.lt_trichotomy 0 r with w|w|w
   ·exact w
   ·exact absurd w.symm hr'
   ·have:=Int.mul_pos_of_neg_of_neg z w
    rw[<- hr] at this
    omega
 refine⟨dv a b c,hk,hs,by rw[ep];exact hp,by rw[eq];exact hq,by rw[er];exact hr,by rw[er];exact hr0,?_⟩
 rw[ep,eq,er]
 have e:=IG p q r (dv a b c)
 rw[Int.mul_comm p,Int.mul_comm q,Int.mul_comm r,<- hp,<- hq,<- hr] at e
 have e2:(dv a b c).natAbs=g3 a b c:=by unfold dv;split<;>simp
 rw[e2] at e
 have:g3 p q r*g3 a b c=1*g3 a b c:=by omega
 exact Nat.eq_of_mul_eq_mul_right hg this
theorem k9(a b:Int){c:Int}(h:c≠0):Ok (low a b c):=(kj a b h).choose_spec.2.2.2.2.2
theorem Ok.same{x y:N3}(hx:Ok x)(hy:Ok y)(h1:x.a*y.c=y.a*x.c)(h2:x.b*y.c=y.b*x.c):x=y:=by
 have key:∀{u v:N3},Ok u->Ok v->u.a*v.c=v.a*u.c->u.b*v.c=v.b*u.c->u.c ∣ v.c:=fun {u v} hu hv e1 e2=>by
  have hd:u.c.natAbs ∣ g3 (u.a*v.c) (u.b*v.c) (u.c*v.c):=Nh
   (by rw[Int.natAbs_of_nonneg (le_of_lt hu.c),e1];exact Int.dvd_mul_left _ _) (by rw[Int.natAbs_of_nonneg (le_of_lt hu.c),e2];exact Int.dvd_mul_left _ _) (by rw[Int.natAbs_of_nonneg (le_of_lt hu.c)];exact Int.dvd_mul_right _ _)
  rw[IG,hu.g,Nat.one_mul] at hd
  exact Int.natAbs_dvd_natAbs.mp hd
 have hc:x.c=y.c:=Int.dvd_antisymm (le_of_lt hx.c) (le_of_lt hy.c) (key hx hy h1 h2) (key hy hx h1.symm h2.symm)
 have hn:y.c≠0:=by have:=hy.c;omega
 rw[hc] at h1 h2
 exact N3.ext' (Int.eq_of_mul_eq_mul_right hn h1) (Int.eq_of_mul_eq_mul_right hn h2) hc
theorem Na(a b:Int){c:Int}(h:c≠0):(low a b c).a.natAbs<=a.natAbs/\(low a b c).b.natAbs<=b.natAbs/\(low a b c).c.natAbs<=c.natAbs:=by
 obtain⟨k,hk,_,p1,p2,p3,_⟩:=kj a b h
 have hk':1<=k.natAbs:=by omega
 have le:∀{u v:Int},u=k*v->v.natAbs<=u.natAbs:=fun {u v} e=>by
  rw[e,natAbs_mul]
  exact Nat.le_mul_of_pos_left _ hk'
 exact⟨le p1,le p2,le p3⟩
structure Bd(n:Nat)(x:N3):Prop where
 a:Sz n x.a
 b:Sz n x.b
 c:Sz n x.c
theorem Bd.mono{n m:Nat}{x:N3}(h:Bd n x)(l:n<=m):Bd m x:=⟨h.a.mono l,h.b.mono l,h.c.mono l⟩
theorem rO{a b c:Int}{n:Nat}(h:c≠0)(ha:Sz n a)(hb:Sz n b)(hc:Sz n c):Bd n (low a b c):=by
 obtain⟨h1,h2,h3⟩:=Na a b h
 exact⟨ha.le h1,hb.le h2,hc.le h3⟩
def plus(x y:N3):N3:=low (x.a*y.c+y.a*x.c) (x.b*y.c+y.b*x.c) (x.c*y.c)
def less(x y:N3):N3:=low (x.a*y.c-y.a*x.c) (x.b*y.c-y.b*x.c) (x.c*y.c)
def times(d:Int)(x y:N3):N3:=low (x.a*y.a+d*x.b*y.b) (x.a*y.b+x.b*y.a) (x.c*y.c)
def norm(d:Int)(x:N3):Int:=x.a*x.a-d*x.b*x.b
def Kf(d:Int)(x:N3):N3:=low (x.c*x.a) (-x.c*x.b) (norm d x)
def Ky(x:N3):N3:=⟨x.a,-x.b,x.c⟩
def minus(x:N3):N3:=⟨-x.a,-x.b,x.c⟩
def aC:N3:=⟨0,0,1⟩
def one:N3:=⟨1,0,1⟩
theorem Ok.cn{x:N3}(h:Ok x):x.c≠0:=by have:=h.c;omega
theorem wK{x y:N3}(h:Ok x)(g:Ok y):x.c*y.c≠0:=Int.mul_ne_zero h.cn g.cn
theorem gH{x:N3}(h:Ok x):Ok (minus x):=⟨h.c,by show g3 (-x.a) (-x.b) x.c=1;rw[Kq,IM];exact h.g⟩
theorem cA{x y:N3}(h:Ok x)(g:Ok y):Ok (plus x y):=k9 _ _ (wK h g)
theorem i8{x y:N3}(h:Ok x)(g:Ok y):Ok (less x y):=k9 _ _ (wK h g)
theorem CN{d:Int}{x y:N3}(h:Ok x)(g:Ok y):Ok (times d x y):=k9 _ _ (wK h g)
theorem yr:Ok aC:=⟨⋯,⋯⟩
theorem Nb:Ok one:=⟨⋯,⋯⟩
theorem p4{n:Nat}{x:N3}(h:Bd n x):Bd n (minus x):=⟨h.a.neg,h.b.neg,h.c⟩
theorem gB{n m:Nat}{x y:N3}(hx:Ok x)(hy:Ok y)(h:Bd n x)(g:Bd m y):Bd (n+m+1) (plus x y):=
 rO (wK hx hy) ((h.a.mul g.c).add ((g.a.mul h.c).mono ∅)) ((h.b.mul g.c).add ((g.b.mul h.c).mono ∅)) ((h.c.mul g.c).mono ∅)
theorem KY{d:Int}(h:2<=d)(h':d<=30):Sz 5 d:=by unfold Sz;omega
theorem Df{n m:Nat}{d:Int}{x y:N3}(hd:Sz 5 d)(hx:Ok x)(hy:Ok y)(h:Bd n x)(g:Bd m y):Bd (n+m+6) (times d x y):=
 rO (wK hx hy) (((h.a.mul g.a).mono ∅).add (((hd.mul h.b).mul g.b).mono ∅)) ((((h.a.mul g.b).mono (by omega:n+m<=n+m)).add ((h.b.mul g.a).mono ∅)).mono ∅) ((h.c.mul g.c).mono ∅)
noncomputable def aL(d:Int):Prop:=2<=d/\d<=30/\d≠4/\d≠9/\d≠16/\d≠25
theorem HP{d:Nat}(h:∀m:Nat,m*m≠d):∀{a b:Nat},a*a=d*(b*b)->b=0:=fun {a b} e=>by
 rcases Nat.eq_zero_or_pos b with hb|hb
 ·exact hb
 exfalso
 obtain⟨g,p,q,hg,hc,rfl,rfl⟩:=Nat.exists_coprime' (m:=a) (n:=b) (Nat.gcd_pos_of_pos_right _ hb)
 have e2:(p*p)*(g*g)=(d*(q*q))*(g*g):=by grind
 have e3:p*p=d*(q*q):=Nat.eq_of_mul_eq_mul_right (Nat.mul_pos hg hg) e2
 have hq:q ∣ p*p:=⟨d*q,by rw[e3];grind⟩
 have hq1:q ∣ p:=hc.symm.dvd_of_dvd_mul_left hq
 have hq2:q=1:=by
  have:=Nat.dvd_gcd hq1 (Nat.dvd_refl q)
  rw[hc] at this
  exact Nat.dvd_one.mp this
 subst hq2
 exact h p (by rw[e3];simp)
theorem aL.nat{d:Int}(h:aL d):∀m:Nat,m*m≠d.toNat:=fun m e=>by
 obtain⟨h1,h2,h3,h4,h5,h6⟩:=h
 have hm:m<=5:=by
  rcases lt_or_ge 5 m with z|z
  ·have:=mul_le_mul z z;omega
  ·exact z
 have:m=0\/m=1\/m=2\/m=3\/m=4\/m=5:=by omega
 rcases this with rfl|rfl|rfl|rfl|rfl|rfl<;>omega
theorem aL.HG{d a b:Int}(h:aL d)(e:a*a=d*b*b):a=0/\b=0:=by
 have hd:d=((d.toNat:Nat):Int):=by have:=h.1;omega
 have e1:a.natAbs*a.natAbs=d.toNat*(b.natAbs*b.natAbs):=by
  have e2:=congrArg Int.natAbs e
  rw[natAbs_mul,natAbs_mul,natAbs_mul] at e2
  rw[e2,Nat.mul_assoc]
  congr 1
  omega
 have hb:=HP h.nat e1
 have hb':b=0:=by omega
 subst hb'
 have:a*a=0:=by rw[e];simp
 exact⟨by rcases Int.mul_eq_zero.mp this with z|z<;>exact z,rfl⟩
def sg(d a b:Int):Int:=
 if a=0/\b=0 then 0 else if 0<=a/\0<=b then 1 else if a<=0/\b<=0 then -1 else if (if d*b*b<a*a then a else b)>0 then 1 else -1
theorem Mw{u v:Int}(hu:0<=u)(h:u*u<=v*v)(hv:0<=v):u<=v:=by
 rcases Int.lt_or_le v u with z|z
 ·have:=Int.mul_lt_mul_of_pos_left z (show 0<u by omega)
  have:=Int.mul_le_mul_of_nonneg_right (le_of_lt z) hv
  omega
 ·exact z
theorem sq_nonneg(u:Int):0<=u*u:=by
 rcases Int.le_total 0 u with h|h
 ·exact mul_nonneg h h
 ·exact Int.mul_nonneg_of_nonpos_of_nonpos h h
noncomputable def P(d a b:Int):Prop:=(0<=a/\0<=b/\¬ (a=0/\b=0))\/(0<a/\b<0/\d*b*b<a*a)\/(a<0/\0<b/\a*a<d*b*b)
theorem jO{d a b:Int}(h:aL d):sg d a b=1↔P d a b:=by
 unfold sg P
 have key:a*a=d*b*b->a=0/\b=0:=h.HG
 by_cases c1:d*b*b<a*a
 ·simp only[c1,if_true];split<;>(try split)<;>(try split)<;>(try split)<;>simp<;>omega
 ·simp only[c1,if_false];split<;>(try split)<;>(try split)<;>(try split)<;>simp<;>omega
theorem y6{d a b:Int}(h:aL d):sg d (-a) (-b) = - sg d a b:=by
 unfold sg
 have key:a*a=d*b*b->a=0/\b=0:=h.HG
 have e1:d * -b * -b=d*b*b:=by grind
 have e2:-a * -a=a*a:=by grind
 rw[e1,e2]
 by_cases c1:d*b*b<a*a
 ·simp only[c1,if_true];split<;>split<;>(try split)<;>(try split)<;>(try split)<;>(try split)<;>(try split)<;>(try split)<;>omega
 ·simp only[c1,if_false];split<;>split<;>(try split)<;>(try split)<;>(try split)<;>(try split)<;>(try split)<;>(try split)<;>omega
theorem gr{d a b:Int}:sg d a b=0↔a=0/\b=0:=by
 unfold sg;split<;>(try split)<;>(try split)<;>(try split)<;>omega
theorem mT(d a b:Int):sg d a b=0\/sg d a b=1\/sg d a b = -1:=by
 unfold sg;split<;>(try split)<;>(try split)<;>(try split)<;>omega
theorem Pl{d a b:Int}(h:aL d):(a=0/\b=0)\/P d a b\/P d (-a) (-b):=by
 rcases mT d a b with e|e|e
 ·exact .inl (gr.mp e)
 ·exact .inr (.inl ((jO h).mp e))
 ·exact .inr (.inr ((jO h).mp (by rw[y6 h,e];rfl)))
theorem nO{d a b:Int}(h:aL d)(n:d*b*b<a*a):P d a b↔0<a:=by
 unfold P
 have:=sq_nonneg b
 have h0:0<=d*b*b:=by rw[Int.mul_assoc];exact mul_nonneg (by have:=h.1;omega) this
 have ha:a≠0:=fun z=>by subst z;simp at n;omega
 omega
theorem kb{d a b:Int}(h:aL d)(n:a*a<d*b*b):P d a b↔0<b:=by
 unfold P
 have h0:=sq_nonneg a
 have hb:b≠0:=fun z=>by subst z;simp at n;omega
 omega
theorem qO{u v:Int}(h:v*v<u*u):0<u+v↔0<u:=by
 have hu:u≠0:=fun z=>by subst z;have:=sq_nonneg v;simp at h;omega
 have l:v.natAbs<u.natAbs:=by
  rcases lt_or_ge v.natAbs u.natAbs with z|z
  ·exact z
  ·have:=mul_le_mul z z
   have e1:((u.natAbs*u.natAbs:Nat):Int)=u*u:=Int.natAbs_mul_self
   have e2:((v.natAbs*v.natAbs:Nat):Int)=v*v:=Int.natAbs_mul_self
   omega
 omega
theorem mul_pos_iff{u v:Int}(hu:u≠0)(hv:v≠0):0<u*v↔(0<u↔0<v):=by
 rcases Int.lt_or_gt_of_ne hu with h|h<;>rcases Int.lt_or_gt_of_ne hv with g|g
 ·have:=Int.mul_pos_of_neg_of_neg h g;omega
 ·have:=Int.mul_neg_of_neg_of_pos h g;omega
 ·have:=Int.mul_neg_of_pos_of_neg h g;omega
 ·have:=Int.mul_pos h g;omega
theorem u6{u v s t:Int}(hu:0<=u)(h:u<v)(hs:0<=s)(g:s<t):u*s<v*t:=by
 have e1:u*s<=v*s:=Int.mul_le_mul_of_nonneg_right (le_of_lt h) hs
 have e2:v*s<v*t:=Int.mul_lt_mul_of_pos_left g ∅
 omega
theorem dsq{d b:Int}(hd:0<d):0<=d*b*b:=by rw[Int.mul_assoc];exact mul_nonneg (le_of_lt hd) (sq_nonneg b)
theorem PM{d a b p q:Int}(h:aL d)(h1:¬ (a=0/\b=0))(h2:¬ (p=0/\q=0)):P d (a*p+d*b*q) (a*q+b*p)↔(P d a b↔P d p q):=by
 have hd:0<d:=by have:=h.1;omega
 have n1:a*a≠d*b*b:=fun e=>h1 (h.HG e)
 have n2:p*p≠d*q*q:=fun e=>h2 (h.HG e)
 have pz:∀{u v:Int},d*v*v<u*u->u≠0:=fun {u v} e z=>by subst z;have:=dsq (b:=v) hd;simp at e;omega
 have qz:∀{u v:Int},u*u<d*v*v->v≠0:=fun {u v} e z=>by subst z;have:=sq_nonneg u;simp at e;omega
 have id1:(a*p+d*b*q)*(a*p+d*b*q)-d*(a*q+b*p)*(a*q+b*p)=(a*a-d*b*b)*(p*p-d*q*q):=by grind
 rcases Int.lt_or_gt_of_ne n1 with c1|c1<;>rcases Int.lt_or_gt_of_ne n2 with c2|c2
 ·have pp:=Int.mul_pos_of_neg_of_neg (show a*a-d*b*b<0 by omega) (show p*p-d*q*q<0 by omega)
  rw[nO h ∅,kb h c1,kb h c2]
  have sq:(a*p)*(a*p)<(d*b*q)*(d*b*q):=by
   have e2:=u6 (sq_nonneg a) c1 (sq_nonneg p) c2
   grind
  rw[Int.add_comm,qO sq,Int.mul_assoc,mul_pos_iff ∅ (Int.mul_ne_zero (qz c1) (qz c2)),mul_pos_iff (qz c1) (qz c2)]
  omega
 ·have pp:=Int.mul_neg_of_neg_of_pos (show a*a-d*b*b<0 by omega) (show 0<p*p-d*q*q by omega)
  rw[kb h ∅,kb h c1,nO h c2]
  have sq:(a*q)*(a*q)<(b*p)*(b*p):=by
   have e2:=u6 (sq_nonneg a) c1 (dsq (b:=q) hd) c2
   have e3:d*((a*q)*(a*q))<d*((b*p)*(b*p)):=by grind
   exact Int.lt_of_mul_lt_mul_left e3 (le_of_lt hd)
  rw[Int.add_comm,qO sq,mul_pos_iff (qz c1) (pz c2)]
 ·have pp:=Int.mul_neg_of_pos_of_neg (show 0<a*a-d*b*b by omega) (show p*p-d*q*q<0 by omega)
  rw[kb h ∅,nO h c1,kb h c2]
  have sq:(b*p)*(b*p)<(a*q)*(a*q):=by
   have e2:=u6 (dsq (b:=b) hd) c1 (sq_nonneg p) c2
   have e3:d*((b*p)*(b*p))<d*((a*q)*(a*q)):=by grind
   exact Int.lt_of_mul_lt_mul_left e3 (le_of_lt hd)
  rw[qO sq,mul_pos_iff (pz c1) (qz c2)]
 ·have pp:=Int.mul_pos (show 0<a*a-d*b*b by omega) (show 0<p*p-d*q*q by omega)
  rw[nO h ∅,nO h c1,nO h c2]
  have sq:(d*b*q)*(d*b*q)<(a*p)*(a*p):=by
   have e2:=u6 (dsq (b:=b) hd) c1 (dsq (b:=q) hd) c2
   grind
  rw[qO sq,mul_pos_iff (pz c1) (pz c2)]
theorem PL{d A x B y:Int}(hd:0<d)(hA:0<=A)(hx:0<=x)(hB:0<=B)(hy:0<=y)(h1:A*A<=d*B*B)(h2:x*x<=d*y*y):A*x<=d*(B*y):=by
 refine Mw (mul_nonneg hA hx) ?_ (mul_nonneg (le_of_lt hd) (mul_nonneg hB hy))
 have:=Int.mul_le_mul h1 h2 (sq_nonneg x) (dsq hd)
 grind
theorem T1{d A x B y:Int}(hd:0<d)(hA:0<=A)(hx:0<=x)(hB:0<=B)(hy:0<=y)(h1:A*A<d*B*B)(h2:x*x<d*y*y):(A+x)*(A+x)<d*(B+y)*(B+y):=by
 have:=PL hd hA hx hB hy (le_of_lt h1) (le_of_lt h2)
 grind
theorem T2{d A x B y:Int}(hd:0<d)(hA:0<=A)(hx:0<=x)(hB:0<=B)(hy:0<=y)(h1:d*B*B<A*A)(h2:d*y*y<x*x):d*(B+y)*(B+y)<(A+x)*(A+x):=by
 have:d*(B*y)<=A*x:=by
  refine Mw (mul_nonneg (le_of_lt hd) (mul_nonneg hB hy)) ?_ (mul_nonneg hA hx)
  have:=u6 (dsq (b:=B) hd) h1 (dsq (b:=y) hd) h2
  grind
 grind
theorem Z1{d x1 y1 x2 y2:Int}(hd:0<d)(h1:x1*x1<d*y1*y1)(h2:d*y2*y2<x2*x2)(a1:0<=x2)(a2:x2<=x1)(a3:0<=y1)(a4:y1<=y2):False:=by
 have e1:=Int.mul_le_mul a2 a2 a1 (Int.le_trans a1 a2)
 have e2:=Int.mul_le_mul_of_nonneg_left (Int.mul_le_mul a4 a4 a3 (Int.le_trans a3 a4)) (le_of_lt hd)
 grind
theorem Z2{d x1 y1 x2 y2 x3 y3:Int}(hd:0<d)(h1:x1*x1<d*y1*y1)(h2:d*y2*y2<x2*x2)(h3:d*y3*y3<x3*x3)(a1:0<=x2)(a2:0<=y2)(a3:0<=x3)(a4:0<=y3)(e1:x1=x2+x3)(e2:y1=y2+y3):False:=by
 subst e1 e2
 have:=T2 hd a1 a3 a2 a4 h2 h3
 omega
theorem Z3{d x1 y1 x2 y2 x3 y3:Int}(hd:0<d)(h1:d*y1*y1<x1*x1)(h2:x2*x2<d*y2*y2)(h3:x3*x3<d*y3*y3)(a1:0<=x2)(a2:0<=y2)(a3:0<=x3)(a4:0<=y3)(e1:x1=x2+x3)(e2:y1=y2+y3):False:=by
 subst e1 e2
 have:=T1 hd a1 a3 a2 a4 h2 h3
 omega
theorem PN{d a b p q u v:Int}(h:aL d)(h1:P d a b)(h2:P d p q)(h3:P d u v)(e1:a+p+u=0)(e2:b+q+v=0):False:=by
 have hd:0<d:=by have:=h.1;omega
 unfold P at h1 h2 h3
 have x1:∀{u c:Int},u*u<c->-u * -u<c:=fun {u c} e=>by grind
 have x2:∀{u c:Int},c<u*u->c < -u * -u:=fun {u c} e=>by grind
 have x3:∀{u c:Int},c<d*u*u->c<d * -u * -u:=fun {u c} e=>by grind
 have x4:∀{u c:Int},d*u*u<c->d * -u * -u<c:=fun {u c} e=>by grind
 rcases h1 with ⟨u1,u2,u3⟩|⟨u1,u2,u3⟩|⟨u1,u2,u3⟩<;>rcases h2 with ⟨v1,v2,v3⟩|⟨v1,v2,v3⟩|⟨v1,v2,v3⟩<;>rcases h3 with ⟨w1,w2,w3⟩|⟨w1,w2,w3⟩|⟨w1,w2,w3⟩<;>(try omega)
 all_goals first
  |exact Z1 hd (x1 u3) (x4 v3) ∅ ∅ ∅ ∅
  |exact Z1 hd (x1 v3) (x4 u3) ∅ ∅ ∅ ∅
  |exact Z1 hd (x1 u3) (x4 w3) ∅ ∅ ∅ ∅
  |exact Z1 hd (x1 w3) (x4 u3) ∅ ∅ ∅ ∅
  |exact Z1 hd (x1 v3) (x4 w3) ∅ ∅ ∅ ∅
  |exact Z1 hd (x1 w3) (x4 v3) ∅ ∅ ∅ ∅
  |exact Z2 hd (x1 u3) (x4 v3) (x4 w3) ∅ ∅ ∅ ∅ ∅ ∅
  |exact Z2 hd (x1 v3) (x4 u3) (x4 w3) ∅ ∅ ∅ ∅ ∅ ∅
  |exact Z2 hd (x1 w3) (x4 u3) (x4 v3) ∅ ∅ ∅ ∅ ∅ ∅
  |exact Z3 hd (x4 u3) (x1 v3) (x1 w3) ∅ ∅ ∅ ∅ ∅ ∅
  |exact Z3 hd (x4 v3) (x1 u3) (x1 w3) ∅ ∅ ∅ ∅ ∅ ∅
  |exact Z3 hd (x4 w3) (x1 u3) (x1 v3) ∅ ∅ ∅ ∅ ∅ ∅
theorem O6{d a b p q:Int}(h:aL d)(h1:P d a b)(h2:P d p q):P d (a+p) (b+q):=by
 rcases Pl (a:=a+p) (b:=b+q) h with ⟨e1,e2⟩|e|e
 ·have ea:p = -a:=by omega
  have eb:q = -b:=by omega
  subst ea eb
  have s1:=(jO h).mpr h1
  have s2:=(jO h).mpr h2
  rw[y6 h,s1] at s2
  omega
 ·exact e
 ·exact (PN h h1 h2 e ∅ ∅).elim
theorem Of{d a b p q:Int}(h:aL d):sg d (a*p+d*b*q) (a*q+b*p)=sg d a b*sg d p q:=by
 by_cases h1:a=0/\b=0
 ·obtain⟨rfl,rfl⟩:=h1
  have e:sg d (0:Int) 0=0:=gr.mpr ⟨rfl,rfl⟩
  rw[e];simp[gr]
 by_cases h2:p=0/\q=0
 ·obtain⟨rfl,rfl⟩:=h2
  have e:sg d (0:Int) 0=0:=gr.mpr ⟨rfl,rfl⟩
  rw[e];simp[gr]
 have k:=PM h h1 h2
 have h3:¬ (a*p+d*b*q=0/\a*q+b*p=0):=fun ⟨e1,e2⟩=>by
  have id1:(a*p+d*b*q)*(a*p+d*b*q)-d*(a*q+b*p)*(a*q+b*p)=(a*a-d*b*b)*(p*p-d*q*q):=by grind
  rw[e1,e2] at id1
  simp only[Int.mul_zero,Int.sub_self] at id1
  rcases Int.mul_eq_zero.mp id1.symm with z|z
  ·exact h1 (h.HG ∅)
  ·exact h2 (h.HG ∅)
 rw[<- jO h,<- jO h,<- jO h] at k
 have t1:=mT d a b
 have t2:=mT d p q
 have t3:=mT d (a*p+d*b*q) (a*q+b*p)
 have z1:sg d a b≠0:=fun z=>h1 (gr.mp z)
 have z2:sg d p q≠0:=fun z=>h2 (gr.mp z)
 have z3:sg d (a*p+d*b*q) (a*q+b*p)≠0:=fun z=>h3 (gr.mp z)
 rcases t1 with e|e|e<;>rcases t2 with f|f|f<;>rcases t3 with g|g|g<;>simp_all
theorem mj{d a b k:Int}(h:aL d)(hk:0<k):sg d (k*a) (k*b)=sg d a b:=by
 have e:=Of (a:=k) (b:=0) (p:=a) (q:=b) h
 have e1:sg d k 0=1:=by unfold sg;rw[if_neg ∅,if_pos ∅]
 rw[e1] at e
 simpa using e
end NM
namespace L2
open PySem PySem.Spec PyProof.Rows
section
variable {X:Cx}{pins:List (Addr×Obj)}{σ:St}{H:Hp}{s:Shared}{a:Addr}{y v:V}{u r:Value}{o:Option V}{A:Around}{E:Value->Shared->Prop}
theorem Inv.big(I:Inv X pins σ H s):sysModules<s.heap.objs.size:=by
 have h:mainGlobals<s.heap.objs.size:=(I.mod.glob.keeps I.bk).lt
 exact Nat.lt_trans ⋯ h
theorem Bo{h':Heap}{t':Nat}{ob:HO}(I:Inv X pins σ H s)(mu:Mut (H a))(hs:Heap.SameBut a s.heap h')(he:∃q,h'.get? a=some q)(new:iI X.prog X.w (upd H a ob) h' a ob) :
  Inv X pins σ (upd H a ob) {s with heap:=h',toks:=t'}:=
 I.write (x:=a) (e:=a) mu (.inl rfl) (fun b q hb z=>(hs.2 b hb).trans z) he new
end
noncomputable def Pb(i:Expr):Prop:=∀ov iv,subscripted i false ov iv=operate [ov,iv] (getItem ov iv)
theorem LY{prog:Program}{w:World}{A:Around}{E:Value->Shared->Prop}{s:Shared}{env:Env}{value slice:Expr}{pos:Pos}{T id:String}{Q:Value->Shared->Prop}
  (hl:typeLookup (.type T) "__getitem__"=pure (some (.builtin id))) (hs:Pb slice)
  (h:wpAny (model prog w) A (eval value env) (fun o ca=>wpAny (model prog w) A (eval slice env) (fun i ii=>ii.TypeIs o T/\wpAny (model prog w) A (getItem o i) Q E ii) E ca) E s) :
  wpAny (model prog w) A (eval (.Subscript value slice pos) env) Q E s:=by
 refine Subscript_ (wpAny_mono h (fun o ca dl=>wpAny_mono dl (fun i ii po=>?_) fun _ _ x=>x) fun _ _ x=>x)
 obtain⟨hT,po⟩:=po
 unfold subscriptTail
 refine wpAny_bind ?_
 rw[getitemInPython_of_ne hT.not_modules]
 refine wpAny_bind (wpAny_specialOf hT hl ?_)
 have fin:wpAny (model prog w) A (subscripted slice false o i) (fun r bi=>wpAny (model prog w) A (letTemporaryGo value o r>>=fun _=>pure r) Q E bi) E ii:=by
  rw[hs o i]
  exact wpAny_operating (wpAny_mono po (fun r bi pd=>wpAny_bind (wpAny_letTemporaryGo (wpAny_pure pd))) fun _ _ x=>x)
 first
  |exact wpAny_pure (wpAny_bind fin)
  |exact wpAny_bind (wpAny_pure (wpAny_bind fin))
  |exact wpAny_bind fin
structure M1(X:Cx)(o:Expr)(m:Str)(apos:Pos)(e:Expr)(cpos:Pos):Prop where
 base:attributeBase o m X.env (eval o X.env)=eval o X.env
 few:((backTo cpos (starEach [e] X.env)).all (fun x=>!x.1)&&(backToKw cpos (keywordEach [] X.env)).all (fun x=>x.1.isSome)
  && decide (([e]:List Expr).length+([]:List Keyword).length+(if ([]:List Keyword).isEmpty then 0 else 1)<30))=true
 line:(apos.endLine==cpos.line)=true
 trees:backTo cpos (starEach [e] X.env)=[(false,eval e X.env)]
end L2
namespace NM
structure Rep(x:N3)(A B C:Int):Prop where
 c:C≠0
 a:x.a*C=A*x.c
 b:x.b*C=B*x.c
section
variable {x y:N3}{A B C A' B' C' d:Int}
theorem cE(h:Ok x):Rep x x.a x.b x.c:=⟨h.cn,rfl,rfl⟩
theorem ik{a b c:Int}(h:c≠0):Rep (low a b c) a b c:=by
 obtain⟨k,hk,_,p1,p2,p3,_⟩:=kj a b h
 generalize low a b c=z at *
 exact⟨h,by grind,by grind⟩
theorem Rep.eq(ox:Ok x)(oy:Ok y)(h:Rep x A B C)(g:Rep y A' B' C')(e1:A*C'=A'*C)(e2:B*C'=B'*C):x=y:=by
 have hc:C*C'≠0:=Int.mul_ne_zero h.c g.c
 obtain⟨_,h1,h2⟩:=h
 obtain⟨_,g1,g2⟩:=g
 exact ox.same oy (Int.eq_of_mul_eq_mul_right hc (by grind)) (Int.eq_of_mul_eq_mul_right hc (by grind))
theorem Rep.minus(h:Rep x A B C):Rep (minus x) (-A) (-B) C:=⟨h.c,by show -x.a*C = -A*x.c;have:=h.a;grind,by show -x.b*C = -B*x.c;have:=h.b;grind⟩
theorem Rep.plus(ox:Ok x)(oy:Ok y)(h:Rep x A B C)(g:Rep y A' B' C'):Rep (plus x y) (A*C'+A'*C) (B*C'+B'*C) (C*C'):=by
 have hc:=wK ox oy
 obtain⟨_,q1,q2⟩:=ik (a:=x.a*y.c+y.a*x.c) (b:=x.b*y.c+y.b*x.c) hc
 obtain⟨hc1,h1,h2⟩:=h
 obtain⟨hc2,g1,g2⟩:=g
 change (NM.plus x y).a*(x.c*y.c)=_*(NM.plus x y).c at q1
 change (NM.plus x y).b*(x.c*y.c)=_*(NM.plus x y).c at q2
 generalize NM.plus x y=z at *
 exact⟨Int.mul_ne_zero hc1 hc2,Int.eq_of_mul_eq_mul_right hc (by grind),Int.eq_of_mul_eq_mul_right hc (by grind)⟩
theorem Rep.less(ox:Ok x)(oy:Ok y)(h:Rep x A B C)(g:Rep y A' B' C'):Rep (less x y) (A*C'-A'*C) (B*C'-B'*C) (C*C'):=by
 have hc:=wK ox oy
 obtain⟨_,q1,q2⟩:=ik (a:=x.a*y.c-y.a*x.c) (b:=x.b*y.c-y.b*x.c) hc
 obtain⟨hc1,h1,h2⟩:=h
 obtain⟨hc2,g1,g2⟩:=g
 change (NM.less x y).a*(x.c*y.c)=_*(NM.less x y).c at q1
 change (NM.less x y).b*(x.c*y.c)=_*(NM.less x y).c at q2
 generalize NM.less x y=z at *
 exact⟨Int.mul_ne_zero hc1 hc2,Int.eq_of_mul_eq_mul_right hc (by grind),Int.eq_of_mul_eq_mul_right hc (by grind)⟩
end
end NM
namespace NM
def GA(d:Int)(x:N3):N3:=times d (times d (plus x (Ky x)) (plus x (Ky x))) (Kf d (times d x (Ky x)))
section
variable {d:Int}{x y z:N3}
def W(x y:N3):Int:=x.b*y.a-x.a*y.b
def KS(d:Int)(x y:N3):Int:=sg d (x.a*y.c-y.a*x.c) (x.b*y.c-y.b*x.c)
theorem JU(ox:Ok x)(oy:Ok y)(e:KS d x y=0):x=y:=by
 obtain⟨h1,h2⟩:=gr.mp e
 exact ox.same oy ∅ ∅
end
end NM
namespace NM
end NM
namespace NM
section
variable {d:Int}{x y z:N3}
noncomputable def gtL(d:Int)(k o:N3):Prop:=((GA d o).a.natAbs:Int)*(GA d k).c<((GA d k).a.natAbs:Int)*(GA d o).c
instance:Decidable (gtL d x y):=by unfold gtL;infer_instance
end
end NM
set_option maxHeartbeats 1000000
namespace NM
end NM
set_option maxHeartbeats 4000000
namespace NM
end NM
set_option maxHeartbeats 400000
namespace NM
end NM
namespace NM
end NM
set_option maxHeartbeats 4000000
namespace NM
section
variable {d:Int}{x y z u p q s t w h p' q' s' t' w' h':N3}
def hf(d:Int)(p q h:N3):N3:=plus (times d p h) (times d q (Ky h))
end
end NM
set_option maxHeartbeats 400000
namespace NM
end NM
set_option maxHeartbeats 4000000
namespace GR
theorem pig{α:Type}[DecidableEq α]{l m:List α}(hn:l.Nodup)(hs:∀x∈l,x∈m):l.length<=m.length:=by
 induction l generalizing m with
 |nil=>exact zero_le _
 |cons a l ih=>
  obtain⟨h1,h2⟩:=List.nodup_cons.mp hn
  have hm:a∈m:=hs a mem_cons_self
  have:=ih (m:=m.erase a) h2 fun x hx=>(List.mem_erase_of_ne (show x≠a from fun e=>h1 (e▸hx))).mpr (hs x (mem_cons_of_mem _ hx))
  rw[List.length_erase_of_mem hm] at this
  have:0<m.length:=List.length_pos_of_mem hm
  simp only[length_cons]
  omega
theorem Lj{α:Type}[DecidableEq α]{l m:List α}(hn:l.Nodup)(hs:∀x∈l,x∈m)(hl:m.length<=l.length){x:α}(hx:x∈m):x∈l:=by
 by_cases c:x∈l
 ·exact c
 ·have:=pig (l:=x::l) (m:=m) (List.nodup_cons.mpr ⟨c,hn⟩) fun y hy=>by
   rcases List.mem_cons.mp hy with rfl|hy
   ·exact hx
   ·exact hs y hy
  simp only[length_cons] at this
  omega
theorem PO{α:Type}[DecidableEq α]{l m:List α}(hn:l.Nodup)(hm:m.Nodup)(h:∀x,x∈l↔x∈m):l.length=m.length:=
 Nat.le_antisymm (pig hn fun x=>(h x).mp) (pig hm fun x=>(h x).mpr)
structure Bx where
 l:Nat
 r:Nat
 b:Nat
 t:Nat
noncomputable def Bx.has(q:Bx)(i j:Nat):Prop:=q.l<=i/\i<q.r/\q.b<=j/\j<q.t
def run(a b:Nat):List Nat:=(List.range (b-a)).map (a + ·)
theorem Lh{a b x:Nat}:x∈run a b↔a<=x/\x<b:=by
 unfold run
 simp only[mem_map,List.mem_range]
 constructor
 ·rintro ⟨k,h,rfl⟩;omega
 ·rintro ⟨h1,h2⟩;exact⟨x-a,∅,∅⟩
theorem yp{a b:Nat}:(run a b).Nodup:=by
 unfold run
 refine List.Pairwise.map _ (fun x y h e=>h ∅) List.nodup_range
theorem nU{a b:Nat}:(run a b).length=b-a:=by simp[run]
def cellsOf(q:Bx):List (Nat×Nat):=(run q.l q.r).flatMap fun i=>(run q.b q.t).map fun j=>(i,j)
theorem bG{q:Bx}{i j:Nat}:(i,j)∈cellsOf q↔q.has i j:=by
 unfold cellsOf Bx.has
 simp only[List.mem_flatMap,mem_map,Lh,Prod.mk.injEq]
 constructor
 ·rintro ⟨a,⟨h1,h2⟩,b,⟨h3,h4⟩,rfl,rfl⟩;exact⟨h1,h2,h3,h4⟩
 ·rintro ⟨h1,h2,h3,h4⟩;exact⟨i,⟨h1,h2⟩,j,⟨h3,h4⟩,rfl,rfl⟩
theorem vR{α β:Type}{f:α->List β}{l:List α}:(l.flatMap f).Nodup↔(∀x∈l,(f x).Nodup)/\l.Pairwise fun a b=>∀y∈f a,y ∉ f b:=by
 induction l with
 |nil=>simp
 |cons a l ih=>
  rw[flatMap_cons,List.nodup_append,ih,List.pairwise_cons]
  constructor
  ·rintro ⟨h1,⟨h2,h3⟩,h4⟩
   refine⟨fun x hx=>?_,fun b hb y hy hz=>h4 y hy y (List.mem_flatMap.mpr ⟨b,hb,hz⟩) rfl,h3⟩
   rcases List.mem_cons.mp hx with rfl|hx
   ·exact h1
   ·exact h2 x hx
  ·rintro ⟨h1,h2,h3⟩
   refine⟨h1 a mem_cons_self,⟨fun x hx=>h1 x (mem_cons_of_mem _ hx),h3⟩,fun y hy z hz e=>?_⟩
   obtain⟨b,hb,hz⟩:=List.mem_flatMap.mp hz
   exact h2 b hb y hy (e▸hz)
theorem n9(q:Bx):(cellsOf q).Nodup:=by
 unfold cellsOf
 rw[vR]
 refine⟨fun x _=>List.Pairwise.map _ (fun a b h e=>h (by injection e)) yp,?_⟩
 refine List.Pairwise.imp (fun {a b} h y hy hz=>?_) (yp (a:=q.l) (b:=q.r))
 obtain⟨j,_,rfl⟩:=List.mem_map.mp hy
 obtain⟨k,_,e⟩:=List.mem_map.mp hz
 injection e with e1 e2
 exact h e1.symm
def cells(qs:List Bx):List (Nat×Nat):=qs.flatMap cellsOf
noncomputable def Apart(q p:Bx):Prop:=∀i j,q.has i j->¬ p.has i j
theorem Apart.symm{q p:Bx}(h:Apart q p):Apart p q:=fun i j h1 h2=>h i j h2 h1
theorem lV{qs:List Bx}:(cells qs).Nodup↔qs.Pairwise Apart:=by
 unfold cells
 rw[vR]
 constructor
 ·rintro ⟨_,h⟩
  exact h.imp fun {a b} z i j h1 h2=>z (i,j) (bG.mpr h1) (bG.mpr h2)
 ·intro h
  exact⟨fun q _=>n9 q,h.imp fun {a b} z y h1 h2=>z y.1 y.2 (bG.mp h1) (bG.mp h2)⟩
theorem iz{qs:List Bx}{i j:Nat}:(i,j)∈cells qs↔∃q∈qs,q.has i j:=by
 unfold cells
 simp only[List.mem_flatMap,bG]
def si(qs:List Bx)(C R:Nat):Bool:=decide (cells qs).Nodup&&decide ((cells qs).length=C*R)
theorem qQ{C R:Nat}:(cellsOf ⟨0,C,0,R⟩).length=C*R:=by
 unfold cellsOf
 rw[List.length_flatMap]
 have:(fun i:Nat=>((run 0 R).map fun j=>(i,j)).length)=fun _=>R:=by funext i;rw[length_map,nU];rfl
 simp only[this,List.map_const',nU,List.sum_replicate_nat,Nat.sub_zero]
theorem C7{qs:List Bx}{C R:Nat}(hin:∀q∈qs,q.r<=C/\q.t<=R):si qs C R=true↔qs.Pairwise Apart/\∀i j,i<C->j<R->∃q∈qs,q.has i j:=by
 unfold si
 rw[and_eq_true,decide_eq_true_iff,decide_eq_true_iff,lV]
 have sub:∀x∈cells qs,x∈cellsOf ⟨0,C,0,R⟩:=fun x hx=>by
  obtain⟨q,hq,h⟩:=iz.mp hx
  obtain⟨h1,h2⟩:=hin q hq
  exact bG.mpr ⟨zero_le _,lt_of_lt_of_le h.2.1 h1,zero_le _,lt_of_lt_of_le h.2.2.2 h2⟩
 constructor
 ·rintro ⟨h1,h2⟩
  refine⟨h1,fun i j hi hj=>?_⟩
  have:=Lj (lV.mpr h1) sub (by rw[qQ,h2];exact le_refl _) (x:=(i,j)) (bG.mpr ⟨zero_le _,hi,zero_le _,hj⟩)
  exact iz.mp this
 ·rintro ⟨h1,h2⟩
  refine⟨h1,?_⟩
  rw[<- qQ]
  refine PO (lV.mpr h1) (n9 _) fun x=>⟨sub x,fun hx=>?_⟩
  obtain⟨_,hi,_,hj⟩:=bG.mp hx
  exact iz.mpr (h2 x.1 x.2 hi hj)
structure gZ(qs:List Bx)(C R:Nat):Prop where
 fits:∀q∈qs,q.l<q.r/\q.r<=C/\q.b<q.t/\q.t<=R
 apart:qs.Pairwise Apart
 all:∀i j,i<C->j<R->∃q∈qs,q.has i j
theorem gZ.perm{qs ps:List Bx}{C R:Nat}(h:gZ qs C R)(p:ps.Perm qs):gZ ps C R:=
 ⟨fun q hq=>h.fits q (p.mem_iff.mp hq),(p.pairwise_iff fun z=>z.symm).mpr h.apart,fun i j hi hj=>by
  obtain⟨q,hq,z⟩:=h.all i j hi hj
  exact⟨q,p.mem_iff.mpr hq,z⟩⟩
end GR
namespace GR
noncomputable abbrev Up(A:List Nat):Prop:=A.Pairwise (· < ·)
theorem cZ{α:Type}[BEq α][LawfulBEq α]{A:List α}{a:α}(h:a∈A):A.idxOf a<A.length:=List.idxOf_lt_length_iff.mpr h
theorem uB{α:Type}[BEq α][LawfulBEq α]{A:List α}{a:α}(h:a∈A):A[A.idxOf a]'(cZ h)=a:=List.getElem_idxOf (cZ h)
theorem Ik{A:List Nat}(hA:Up A){a i:Nat}(ha:a∈A)(hi:i<A.length):A.idxOf a<=i↔a<=A[i]:=by
 have e:=uB ha
 constructor
 ·intro h
  rcases lt_or_eq_of_le h with h|h
  ·have:=List.pairwise_iff_getElem.mp hA _ _ (cZ ha) hi h
   omega
  ·have:A[A.idxOf a]'(cZ ha)=A[i]:=by congr 1
   omega
 ·intro h
  rcases lt_or_ge i (A.idxOf a) with z|z
  ·have:=List.pairwise_iff_getElem.mp hA _ _ hi (cZ ha) z
   omega
  ·exact z
theorem Mb{A:List Nat}(hA:Up A){a i:Nat}(ha:a∈A)(hi:i<A.length):i<A.idxOf a↔A[i]<a:=by
 have:=Ik hA ha hi
 omega
def cb(A B:List Nat)(q:Bx):Bx:=⟨A.idxOf q.l,A.idxOf q.r,B.idxOf q.b,B.idxOf q.t⟩
structure OnG(A B:List Nat)(q:Bx):Prop where
 l:q.l∈A
 r:q.r∈A
 b:q.b∈B
 t:q.t∈B
theorem D8{A B:List Nat}(hA:Up A)(hB:Up B){q:Bx}(g:OnG A B q){i j:Nat}(hi:i<A.length)(hj:j<B.length):(cb A B q).has i j↔q.has A[i] B[j]:=by
 unfold Bx.has cb
 rw[Ik hA g.l hi,Mb hA g.r hi,Ik hB g.b hj,Mb hB g.t hj]
theorem My{A B:List Nat}(hA:Up A)(hB:Up B){qs:List Bx}{C R:Nat}(hc:gZ qs C R)(g:∀q∈qs,OnG A B q)(hAC:∀a∈A,a<=C)(hBR:∀b∈B,b<=R):si (qs.map (cb A B)) (A.length-1) (B.length-1)=true:=by
 refine (C7 ?_).mpr ⟨?_,?_⟩
 ·intro q hq
  obtain⟨q,hq2,rfl⟩:=List.mem_map.mp hq
  have a:=cZ (g q hq2).r
  have b:=cZ (g q hq2).t
  unfold cb
  dsimp only
  omega
 ·rw[List.pairwise_map]
  refine List.Pairwise.imp_of_mem (fun {q p} hq hp h i j h1 h2=>?_) hc.apart
  have gq:=g q hq
  have hi:i<A.length:=Nat.lt_trans h1.2.1 (cZ gq.r)
  have hj:j<B.length:=Nat.lt_trans h1.2.2.2 (cZ gq.t)
  exact h _ _ ((D8 hA hB gq hi hj).mp h1) ((D8 hA hB (g p hp) hi hj).mp h2)
 ·intro i j hi hj
  have a1:A[i]<A[i+1]:=List.pairwise_iff_getElem.mp hA _ _ ∅ ∅ ∅
  have a2:=hAC A[i+1] (getElem_mem _)
  have b1:B[j]<B[j+1]:=List.pairwise_iff_getElem.mp hB _ _ ∅ ∅ ∅
  have b2:=hBR B[j+1] (getElem_mem _)
  obtain⟨q,hq,h⟩:=hc.all A[i] B[j] ∅ ∅
  exact⟨_,mem_map_of_mem hq,(D8 hA hB (g q hq) ∅ ∅).mpr h⟩
theorem gZ.ends{qs:List Bx}{C R:Nat}(h:gZ qs C R)(hC:0<C)(hR:0<R):(∃q∈qs,q.l=0)/\(∃q∈qs,q.r=C)/\(∃q∈qs,q.b=0)/\(∃q∈qs,q.t=R):=by
 obtain⟨q,hq,h1⟩:=h.all 0 0 hC hR
 obtain⟨p,hp,h2⟩:=h.all (C-1) (R-1) ∅ ∅
 have f:=h.fits p hp
 refine⟨⟨q,hq,?_⟩,⟨p,hp,?_⟩,⟨q,hq,?_⟩,⟨p,hp,?_⟩⟩<;>unfold Bx.has at h1 h2<;>omega
structure Laid(qs:List Bx)(C R x y:Nat):Prop where
 fits:∀q∈qs,q.l<q.r/\q.r<=C/\q.b<q.t/\q.t<=R/\q.b<=y
 apart:qs.Pairwise Apart
 below:∀i j,i<C->j<y->∃q∈qs,q.has i j
 before:∀i,i<x->i<C->∃q∈qs,q.has i y
theorem Laid.nil{C R:Nat}:Laid [] C R 0 0:=⟨fun _ h=>absurd h not_mem_nil,.nil,fun _ _ _ h=>absurd h (not_lt_zero _),fun _ h=>absurd h (not_lt_zero _)⟩
theorem Laid.row{qs:List Bx}{C R y:Nat}(h:Laid qs C R C y):Laid qs C R 0 (y+1):=
 ⟨fun q hq=>by have:=h.fits q hq;omega,h.apart,fun i j hi hj=>by
  rcases lt_or_eq_of_le (le_of_lt_succ hj) with z|z
  ·exact h.below i j hi z
  ·rw[z];exact h.before i hi hi,fun _ h=>absurd h (not_lt_zero _)⟩
theorem Laid.met{qs:List Bx}{C R x y:Nat}(h:Laid qs C R x y)(m:∃q∈qs,q.has x y):Laid qs C R (x+1) y:=
 ⟨h.fits,h.apart,h.below,fun i hi hc=>by
  rcases lt_or_eq_of_le (le_of_lt_succ hi) with z|z
  ·exact h.before i z hc
  ·rw[z];exact m⟩
theorem Laid.put{qs:List Bx}{C R x y w k:Nat}(h:Laid qs C R x y)(hw:0<w)(hk:0<k)(hx:x+w<=C)(hy:y+k<=R)(free:∀i,x<=i->i<x+w->∀q∈qs,¬ q.has i y):Laid (qs++[⟨x,x+w,y,y+k⟩]) C R (x+1) y:=by
 refine⟨fun q hq=>?_,?_,fun i j hi hj=>?_,fun i hi hc=>?_⟩
 ·rcases List.mem_append.mp hq with hq|hq
  ·exact h.fits q hq
  ·obtain rfl:=List.mem_singleton.mp hq
   dsimp only
   omega
 ·refine List.pairwise_append.mpr ⟨h.apart,List.pairwise_singleton _ _,fun a ha b hb i j h1 h2=>?_⟩
  obtain rfl:=List.mem_singleton.mp hb
  have f:=h.fits a ha
  unfold Bx.has at h1 h2
  dsimp only at h2
  exact free i h2.1 h2.2.1 a ha ⟨h1.1,h1.2.1,∅,∅⟩
 ·obtain⟨q,hq,z⟩:=h.below i j hi hj
  exact⟨q,mem_append_left _ hq,z⟩
 ·rcases lt_or_eq_of_le (le_of_lt_succ hi) with z|z
  ·obtain⟨q,hq,z⟩:=h.before i z hc
   exact⟨q,mem_append_left _ hq,z⟩
  ·exact⟨_,mem_append_right _ mem_cons_self,by subst z;unfold Bx.has;dsimp only;omega⟩
theorem Laid.done{qs:List Bx}{C R:Nat}(h:Laid qs C R 0 R):gZ qs C R:=⟨fun q hq=>by have:=h.fits q hq;omega,h.apart,h.below⟩
end GR
namespace L2.DL
open PySem PySem.Spec PyProof.Rows
inductive Box where
 |dict (kvs:List (List Int×PyData))
 |set (ks:List (List Int))
structure Mu where
 l:Addr->Option (List PyData)
 b:Addr->Option Box
instance:CoeFun Mu fun _=>Addr->Option (List PyData):=⟨Mu.l⟩
abbrev PQ:=PySem.W.Frag->V->Mu->Hp->Prop
inductive D where
 |v (x:PyData)
 |m (a:Addr)
 |s (ns:List Int)
  /-- an object that is handed on -/
 |o (a:Addr)
  /-- a dict or a set -/
 |b (a:Addr)
  /-- a thing of which something is known that stays -/
 |q (P:PQ)
abbrev Rho:=List (Option D)
def aA(Z:Mu)(a:Addr)(ds:List PyData):Mu:=⟨fun b=>if b=a then some ds else Z b,Z.b⟩
theorem aD{Z:Mu}{a:Addr}{ds}:aA Z a ds a=some ds:=if_pos rfl
theorem aQ{Z:Mu}{a b:Addr}{ds}(h:b≠a):aA Z a ds b=Z b:=if_neg h
def bg(Z:Mu)(a:Addr)(c:Box):Mu:=⟨Z.l,fun b=>if b=a then some c else Z.b b⟩
theorem bo{Z:Mu}{a:Addr}{c}:(bg Z a c).b a=some c:=if_pos rfl
theorem bK{Z:Mu}{a b:Addr}{c}(h:b≠a):(bg Z a c).b b=Z.b b:=if_neg h
theorem Mu.eq{Z ν:Mu}(h1:∀b,Z b=ν b)(h2:∀b,Z.b b=ν.b b):Z=ν:=by
 obtain⟨l,b⟩:=Z;obtain⟨l',b'⟩:=ν
 cases (funext h1:l=l');cases (funext h2:b=b');rfl
theorem GZ{Z:Mu}{a:Addr}{c d}:bg (bg Z a c) a d=bg Z a d:=Mu.eq (fun _=>rfl) fun b=>by
 by_cases h:b=a
 ·subst h;rw[bo,bo]
 ·rw[bK h,bK h,bK h]
theorem eN{Z:Mu}{a:Addr}{ds es}:aA (aA Z a ds) a es=aA Z a es:=Mu.eq (fun b=>by
 by_cases h:b=a
 ·subst h;rw[aD,aD]
 ·rw[aQ h,aQ h,aQ h]) fun _=>rfl
mutual
inductive Rp(K:PySem.W.Frag)(Z:Mu)(H:Hp):PyData->V->Prop
 |none:Rp K Z H .none .non
 |bool (b:Bool):Rp K Z H (.bool b) (.bl b)
 |int (i:Int):Rp K Z H (.int i) (.int i)
 |str (x:Str):Rp K Z H (.str x) (.str x)
 |list {a:Addr} {xs:List V} {ds:List PyData}:H a=some (.lst xs)->Z a=Option.none->RpL K Z H ds xs->Rp K Z H (.list ds) (.ref a)
 |tuple {a:Addr} {xs:List V} {ds:List PyData}:SqT K H a xs->RpL K Z H ds xs->Rp K Z H (.tuple ds) (.ref a)
inductive RpL(K:PySem.W.Frag)(Z:Mu)(H:Hp):List PyData->List V->Prop
 |nil:RpL K Z H [] []
 |cons {d:PyData} {v:V} {ds:List PyData} {vs:List V}:Rp K Z H d v->RpL K Z H ds vs->RpL K Z H (d::ds) (v::vs)
end
def NT:HO->Prop
 |.tbl _=>False
 |.raw _=>False
 |_=>True
structure Ext(K:PySem.W.Frag)(Z:Mu)(H:Hp)(U:Mu)(H':Hp):Prop where
 keep:∀b o,H b=some o->Z b=none->NT o->H' b=some o
 tb:∀b ps,H b=some (.tbl ps)->Z b=none->∃ps',H' b=some (.tbl ps')
 dom:∀b ds,Z b=some ds->∃es,U b=some es
 fresh:∀b,Z b=none->(H b≠none\/K.lookup b≠none)->U b=none
 st:∀b o,H b=some o->Z b=none->∃o',H' b=some o'
 bx:∀b c,Z.b b=some c->∃c',U.b b=some c'
def RpD(K:PySem.W.Frag)(Z:Mu)(H:Hp):D->V->Prop
 |.v x,u=>Rp K Z H x u
 |.m a,u=>u = .ref a/\∃ds,Z a=some ds
 |.s ns,u=>∃a,u = .ref a/\SqL K H a (ns.map V.int)/\Z a=none
 |.o a,u=>u = .ref a
 |.b a,u=>u = .ref a/\∃c,Z.b a=some c
 |.q P,u=>∀U H',Ext K Z H U H'->P K u U H'
noncomputable def codeAt(c:Addr)(q:Str)(h:Heap):Prop:=∃o vs t,h.get? c=some o/\o.data = .fields vs/\vs[1]? = some (.str q t)
abbrev KD(q:Str):Str:=(q ++ ".<locals>.") ++ "<lambda>"
noncomputable def Qb(H:Hp)(P:Addr)(q:Str):Prop:=∃ps:Array Value,H P=some (.tbl ps)/\TriplesOk ps.toList/\∀pos cv,codeAmong pos ps.toList=some cv->∃c,cv = .ref c/\H c=some (.ext (codeAt c (KD q)))
noncomputable def Dt(K:PySem.W.Frag)(H:Hp):Prop:=∀c o P q,K.lookup c=some o->cX o=some (P,q)->Qb H P q
abbrev hI(ks:List Int):Int:=reduceHash (Builtin.Tuple.tupleHashOf (ks.map hashInt))
noncomputable def fh(K:PySem.W.Frag)(Z:Mu)(H:Hp)(kvs:List (List Int×PyData))(xs:List (List Int×Addr×Value)):Prop:=
 Paired (fun (p:List Int×PyData) (q:List Int×Addr×Value)=>p.1=q.1/\SqT K H q.2.1 (p.1.map V.int)/\∃v,Rp K Z H p.2 v/\RelV v q.2.2) kvs xs
def gK(K:PySem.W.Frag)(Z:Mu)(H:Hp):Box->Obj->Prop
 |.dict kvs,o=>kvs.length<=sizeLine/\o.ExactDict/\∃es ep,∃xs:List (List Int×Addr×Value),o.data = .dict es ep/\es.toList=xs.map (fun x=>⟨hI x.1,.ref x.2.1,x.2.2⟩)/\(xs.map (·.1)).Nodup/\fh K Z H kvs xs
 |.set ks,o=>o.ExactSet/\∃(L:ST.Ln Value) (ep:Nat) (t:SetTable),o.data = .set (L.map (·.2)).toArray ep t/\ST.Tab t L/\L.length*5<t.mask*3/\L.length=ks.length /\
   (∀x∈L,∃k q,x.2.2 = .ref q/\SqT K H q (k.map V.int)/\x.2.1=hI k/\k∈ks)/\∀k∈ks,∃x∈L,∃q,x.2.2 = .ref q/\SqT K H q (k.map V.int)
structure bD(K:PySem.W.Frag)(Z:Mu)(H:Hp):Prop where
 lst:∀a ds,Z a=some ds->∃xs,H a=some (.lst xs)/\RpL K Z H ds xs
 tab:Dt K H
 box:∀a c,Z.b a=some c->(a==sysModules)=false/\∃o,H a=some (.raw o)/\gK K Z H c o
instance {K:PySem.W.Frag} {Z:Mu} {H:Hp}:CoeFun (bD K Z H) fun _=>∀a ds,Z a=some ds->∃xs,H a=some (.lst xs)/\RpL K Z H ds xs:=⟨bD.lst⟩
theorem Dt.of{K:PySem.W.Frag}{H H1:Hp}(t:Dt K H)(s:∀b o,H b=some o->(∀xs,o≠.lst xs)->(∀ob,o≠.raw ob)->H1 b=some o):Dt K H1:=fun c o P q h1 h2=>by
 obtain⟨ps,a1,a2,a3⟩:=t c o P q h1 h2
 exact⟨ps,s _ _ a1 (fun _ z=>nomatch z) (fun _ z=>nomatch z),a2,fun pos cv e=>let ⟨c,q1,q2⟩:=a3 pos cv e;⟨c,q1,s _ _ q2 (fun _ z=>nomatch z) (fun _ z=>nomatch z)⟩⟩
noncomputable def fG(K:PySem.W.Frag)(Z:Mu)(H:Hp)(ρ:Rho)(σ:St):Prop:=
 ρ.length=σ.length/\∀(i:Nat) (d:D),ρ[i]? = some (some d)->∃u,σ[i]? = some (some u)/\RpD K Z H d u
structure St0(K:PySem.W.Frag)(H:Hp)(ρ:Rho)(Z:Mu)(σ:St):Prop where
 mu:bD K Z H
 rho:fG K Z H ρ σ
section
variable {K:PySem.W.Frag}{Z ad am:Mu}{H H1 H2:Hp}
theorem Ext.refl:Ext K Z H Z H:=⟨fun _ _ h _ _=>h,fun _ ps h _=>⟨ps,h⟩,fun _ ds h=>⟨ds,h⟩,fun _ h _=>h,fun _ o h _=>⟨o,h⟩,fun _ c h=>⟨c,h⟩⟩
theorem Ext.trans(a:Ext K Z H ad H1)(b:Ext K ad H1 am H2):Ext K Z H am H2 where
 keep:=fun c o h n t=>b.keep c o (a.keep c o h n t) (a.fresh c n (.inl (by rw[h];exact fun z=>nomatch z))) t
 tb:=fun c ps h n=>by
  obtain⟨ps1,h1⟩:=a.tb c ps h n
  exact b.tb c ps1 h1 (a.fresh c n (.inl (by rw[h];exact fun z=>nomatch z)))
 dom:=fun c ds h=>let ⟨es,q⟩:=a.dom c ds h;b.dom c es q
 fresh:=fun c n h=>by
  refine b.fresh c (a.fresh c n h) ?_
  rcases h with h|h
  ·cases q:H c with
   |none=>exact absurd q h
   |some o=>
    obtain⟨o',h'⟩:=a.st c o q n
    exact .inl (by rw[h'];exact fun z=>nomatch z)
  ·exact .inr h
 st:=fun c o h n=>by
  obtain⟨o',h'⟩:=a.st c o h n
  exact b.st c o' h' (a.fresh c n (.inl (by rw[h];exact fun z=>nomatch z)))
 bx:=fun c x h=>let ⟨x',q⟩:=a.bx c x h;b.bx c x' q
theorem Ext.of_same(s:uA H H1):Ext K Z H Z H1:=⟨fun b o h _ _=>s b o h,fun b ps h _=>⟨ps,s b _ h⟩,fun _ ds h=>⟨ds,h⟩,fun _ h _=>h,fun b o h _=>⟨o,s b o h⟩,fun _ c h=>⟨c,h⟩⟩
theorem bD.not{a:Addr}{o:HO}(ok:bD K Z H)(h:H a=some o)(n:∀xs,o≠.lst xs):Z a=none:=by
 cases q:Z a with
 |none=>rfl
 |some ds=>
  obtain⟨ys,e,_⟩:=ok a ds q
  rw[h] at e
  exact absurd (Option.some.inj e) (n ys)
theorem bD.free{a:Addr}(ok:bD K Z H)(h:H a=none):Z a=none:=by
 cases q:Z a with
 |none=>rfl
 |some ds=>
  obtain⟨ys,e,_⟩:=ok a ds q
  rw[h] at e;cases e
theorem iw{a:Addr}{xs:List V}(ok:bD K Z H)(e:Ext K Z H ad H1)(h:SqT K H a xs):SqT K H1 a xs:=by
 rcases h with (h|⟨o,h⟩)|h
 ·exact .inl (.inl (e.keep _ _ h (ok.not h fun _ z=>nomatch z) trivial))
 ·exact .inl (.inr ⟨o,e.keep _ _ h (ok.not h fun _ z=>nomatch z) trivial⟩)
 ·exact .inr h
theorem FT{a:Addr}{xs:List V}(e:Ext K Z H ad H1)(h:SqL K H a xs)(n:Z a=none):SqL K H1 a xs/\ad a=none:=by
 rcases h with (h|⟨o,h⟩)|h
 ·exact⟨.inl (.inl (e.keep _ _ h n trivial)),e.fresh _ n (.inl (by rw[h];exact fun z=>nomatch z))⟩
 ·exact⟨.inl (.inr ⟨o,e.keep _ _ h n trivial⟩),e.fresh _ n (.inl (by rw[h];exact fun z=>nomatch z))⟩
 ·obtain⟨o,its,k,hk,r⟩:=id h
  exact⟨.inr h,e.fresh _ n (.inr (by rw[hk];exact fun z=>nomatch z))⟩
mutual
theorem Rp.ext{d:PyData}{u:V}(ok:bD K Z H)(e:Ext K Z H ad H1):Rp K Z H d u->Rp K ad H1 d u
 |.none=>.none
 |.bool b=>.bool b
 |.int i=>.int i
 |.str x=>.str x
 |.list h n r=>.list (e.keep _ _ h n trivial) (e.fresh _ n (.inl (by rw[h];exact fun z=>nomatch z))) (RpL.ext ok e r)
 |.tuple h r=>.tuple (iw ok e h) (RpL.ext ok e r)
theorem RpL.ext{ds:List PyData}{us:List V}(ok:bD K Z H)(e:Ext K Z H ad H1):RpL K Z H ds us->RpL K ad H1 ds us
 |.nil=>.nil
 |.cons h r=>.cons (Rp.ext ok e h) (RpL.ext ok e r)
end
theorem RpD.ext{d:D}{u:V}(ok:bD K Z H)(e:Ext K Z H ad H1)(r:RpD K Z H d u):RpD K ad H1 d u:=by
 cases d with
 |v x=>exact Rp.ext ok e r
 |m a=>obtain⟨h,ds,q⟩:=r;exact⟨h,e.dom a ds q⟩
 |s ns=>obtain⟨a,h,q,n⟩:=r;exact⟨a,h,(FT e q n).1,(FT e q n).2⟩
 |o a=>exact r
 |b a=>obtain⟨h,c,q⟩:=r;exact⟨h,e.bx a c q⟩
 |q P=>exact fun U H' e'=>r U H' (e.trans e')
theorem gK.ext{c:Box}{o:Obj}(ok:bD K Z H)(e:Ext K Z H ad H1)(r:gK K Z H c o):gK K ad H1 c o:=by
 cases c with
 |dict kvs=>
  obtain⟨h1,h2,es,ep,xs,h3,h4,h5,h6⟩:=r
  exact⟨h1,h2,es,ep,xs,h3,h4,h5,Paired.Lr h6 fun p q ⟨z1,z2,v,z3,z4⟩=>⟨z1,iw ok e z2,v,Rp.ext ok e z3,z4⟩⟩
 |set ks=>
  obtain⟨h1,L,ep,t,h2,h3,h4,h5,h6,h7⟩:=r
  exact⟨h1,L,ep,t,h2,h3,h4,h5,fun x hx=>let ⟨k,q,z1,z2,z3⟩:=h6 x hx;⟨k,q,z1,iw ok e z2,z3⟩,fun k hk=>let ⟨x,hx,q,z1,z2⟩:=h7 k hk;⟨x,hx,q,z1,iw ok e z2⟩⟩
theorem bD.Fx{a:Addr}(ok:bD K Z H)(h:H a=none):Z.b a=none:=by
 cases q:Z.b a with
 |none=>rfl
 |some c=>
  obtain⟨_,ob,e,_⟩:=ok.box a c q
  rw[h] at e;cases e
theorem fG.ext{ρ:Rho}{σ:St}(ok:bD K Z H)(e:Ext K Z H ad H1)(r:fG K Z H ρ σ):fG K ad H1 ρ σ:=
 ⟨r.1,fun i d h=>let ⟨u,h1,h2⟩:=r.2 i d h;⟨u,h1,h2.ext ok e⟩⟩
theorem RpL.length{ds:List PyData}{us:List V}:RpL K Z H ds us->ds.length=us.length
 |.nil=>rfl
 |.cons _ r=>congrArg (· + 1) (RpL.length r)
theorem RpL.get{ds:List PyData}{us:List V}:∀{i:Nat} {d:PyData},RpL K Z H ds us->ds[i]? = some d->∃u,us[i]? = some u/\Rp K Z H d u
 |_,_,.nil,h=>by simp at h
 |0,_,.cons r _,h=>by simp at h;subst h;exact⟨_,rfl,r⟩
 |i+1,d,.cons _ t,h=>by
  obtain⟨u,h1,h2⟩:=RpL.get (i:=i) (d:=d) t (by simpa using h)
  exact⟨u,by simpa using h1,h2⟩
theorem RpL.append{ds es:List PyData}{us ws:List V}:RpL K Z H ds us->RpL K Z H es ws->RpL K Z H (ds++es) (us++ws)
 |.nil,s=>s
 |.cons r t,s=>.cons r (RpL.append t s)
theorem RpL.reverse{ds:List PyData}{us:List V}:RpL K Z H ds us->RpL K Z H ds.reverse us.reverse
 |.nil=>.nil
 |.cons r t=>by rw[reverse_cons,reverse_cons];exact (RpL.reverse t).append (.cons r .nil)
theorem RpL.set{ds:List PyData}{us:List V}{d:PyData}{u:V}(q:Rp K Z H d u):∀(i:Nat),RpL K Z H ds us->RpL K Z H (ds.set i d) (us.set i u)
 |_,.nil=>.nil
 |0,.cons _ t=>.cons q t
 |i+1,.cons r t=>.cons r (RpL.set q i t)
theorem ER{ds:List PyData}{us:List V}{i:Int}{d:PyData}(r:RpL K Z H ds us)(h:atI ds i=some d):∃u,atI us i=some u/\Rp K Z H d u:=by
 unfold atI at h ⊢
 rw[<- r.length]
 cases q:ixN ds.length i with
 |none=>rw[q] at h;cases h
 |some j=>
  rw[q] at h
  exact r.get h
abbrev DK:=D->Mu->Prop
abbrev DTE:=Rho->Mu->DK->Prop
abbrev DTT:=Rho->Mu->(Bool->Mu->Prop)->Prop
abbrev DTA:=Rho->Mu->(List D->Mu->Prop)->Prop
structure BI where
 nx:Rho->Mu->Prop
 rt:DK
 bk:Rho->Mu->Prop:=fun _ _=>False
 ct:Rho->Mu->Prop:=fun _ _=>False
abbrev DTS:=BI->Rho->Mu->Prop
inductive i6(K:PySem.W.Frag)(Z:Mu)(H:Hp):List D->List V->Prop
 |nil:i6 K Z H [] []
 |cons {d:D} {u:V} {ds:List D} {us:List V}:RpD K Z H d u->i6 K Z H ds us->i6 K Z H (d::ds) (u::us)
theorem i6.ext{ds:List D}{us:List V}(ok:bD K Z H)(e:Ext K Z H ad H1):i6 K Z H ds us->i6 K ad H1 ds us
 |.nil=>.nil
 |.cons h r=>.cons (h.ext ok e) (i6.ext ok e r)
theorem i6.length{ds:List D}{us:List V}:i6 K Z H ds us->ds.length=us.length
 |.nil=>rfl
 |.cons _ r=>congrArg (· + 1) (i6.length r)
end
noncomputable def pP(K:PySem.W.Frag)(t:TE)(td:DTE):Prop:=∀(σ:St) (H:Hp) (ρ:Rho) (Z:Mu) (Qd:DK) (Q:VK),St0 K H ρ Z σ->td ρ Z Qd ->
 (∀d u U H',Ext K Z H U H'->St0 K H' ρ U σ->RpD K U H' d u->Qd d U->Q u H')->t σ H Q
noncomputable def Km(K:PySem.W.Frag)(t:TT)(td:DTT):Prop:=∀(σ:St) (H:Hp) (ρ:Rho) (Z:Mu) (Qd:Bool->Mu->Prop) (Q:Bool->Hp->Prop),St0 K H ρ Z σ->td ρ Z Qd ->
 (∀b U H',Ext K Z H U H'->St0 K H' ρ U σ->Qd b U->Q b H')->t σ H Q
noncomputable def L8(K:PySem.W.Frag)(n:Nat)(t:TA)(td:DTA):Prop:=∀(σ:St) (H:Hp) (ρ:Rho) (Z:Mu) (Qd:List D->Mu->Prop) (Q:List V->Hp->Prop),St0 K H ρ Z σ->td ρ Z Qd ->
 (∀ds us U H',Ext K Z H U H'->St0 K H' ρ U σ->i6 K U H' ds us->ds.length=n->Qd ds U->Q us H')->t σ H Q
noncomputable def yh(K:PySem.W.Frag)(t:TS)(td:DTS):Prop:=∀(σ:St) (H:Hp) (ρ:Rho) (Z:Mu) (Dd:BI) (De:Ends),St0 K H ρ Z σ->td Dd ρ Z ->
 (∀bn bm U H',Ext K Z H U H'->St0 K H' bm U bn->Dd.nx bm U->De.nx bn H') ->
 (∀d u U H',Ext K Z H U H'->bD K U H'->RpD K U H' d u->Dd.rt d U->De.rt u H') ->
 (∀bn bm U H',Ext K Z H U H'->St0 K H' bm U bn->Dd.bk bm U->De.bk bn H') ->
 (∀bn bm U H',Ext K Z H U H'->St0 K H' bm U bn->Dd.ct bm U->De.ct bn H')->t De σ H
noncomputable def DE(X:Cx)(e:Expr)(td:DTE):Prop:=∃t,PE X e t/\pP X.K t td
noncomputable def DT(X:Cx)(e:Expr)(td:DTT):Prop:=∃t,PT X e t/\Km X.K t td
noncomputable def DA(X:Cx)(es:List Expr)(td:DTA):Prop:=∃t,PA X es t/\L8 X.K es.length t td
noncomputable def DS(X:Cx)(st:Stmt)(td:DTS):Prop:=∃t,PS X st t/\yh X.K t td
noncomputable def DSs(X:Cx)(st:List Stmt)(td:DTS):Prop:=∃t,PSs X st t/\yh X.K t td
section
variable {X:Cx}{a b c:Expr}{ta tb tc:DTE}{pos:Pos}
noncomputable def ai(i:Nat):DTE:=fun ρ Z Q=>match ρ[i]? with
 |some (some d)=>Q d Z
 |_=>False
noncomputable def dC(x:PyData):DTE:=fun _ Z Q=>Q (.v x) Z
theorem Jj{K:PySem.W.Frag}(i:Nat):pP K (OY i) (ai i):=by
 intro σ H ρ Z Qd Q S h k
 unfold ai at h
 split at h
 ·rename_i d e
  obtain⟨u,h1,h2⟩:=S.rho.2 i d e
  exact⟨u,h1,k d u Z H .refl S h2 h⟩
 ·exact h.elim
theorem dv(i:Nat){x:Str}{pos:Pos}(hN:X.N[i]? = some x:=by rfl)(hv:Vis X.env.scope x:=by first|exact Or.inl rfl|exact Or.inr (Or.inl rfl)|exact Or.inr (Or.inr rfl))(hd:(x==("__debug__":Str))=false:=by decide)
  (hcd:(x==("__classdict__":Str))=false:=by decide):DE X (.Name x pos) (ai i):=⟨_,MX hN hv hd hcd,Jj i⟩
theorem EN{K:PySem.W.Frag}{x:PyData}{u:V}(h:∀Z H,bD K Z H->Rp K Z H x u):pP K (tC u) (dC x):=fun σ H ρ Z Qd Q S q k=>k (.v x) u Z H .refl S (h Z H S.mu) q
theorem ah{i j pos}:DE X (.Constant (.int i) j pos) (dC (.int i)):=⟨_,Ko,EN fun _ _ _=>.int i⟩
theorem lP{i j pos}:DE X (.Constant (.bool i) j pos) (dC (.bool i)):=⟨_,OM,EN fun _ _ _=>.bool i⟩
theorem Fs{x:Str}{d:PyData}{u:V}{w:Value}{pos:Pos}(hg:Gl X x)(hm:X.mg x=some w)(r:RelV u w)(h:∀Z H,bD X.K Z H->Rp X.K Z H d u)(hd:(x==("__debug__":Str))=false:=by decide):DE X (.Name x pos) (dC d):=
 ⟨_,Lf hg hm r hd,EN h⟩
noncomputable def gC(K:PySem.W.Frag)(rr:R2)(r:D->D->Mu->DK->Prop):Prop:=∀(x y:D) (ux uy:V) (H:Hp) (Z:Mu) (Qd:DK) (Q:VK),bD K Z H->RpD K Z H x ux->RpD K Z H y uy->r x y Z Qd ->
 (∀d u U H',Ext K Z H U H'->bD K U H'->RpD K U H' d u->Qd d U->Q u H')->rr ux uy H Q
noncomputable def dOp(r:D->D->Mu->DK->Prop)(ta tb:DTE):DTE:=fun ρ Z Q=>ta ρ Z fun x ad=>tb ρ ad fun y am=>r x y am Q
theorem qq{K:PySem.W.Frag}{rr:R2}{r}{t1 t2:TE}(lo:gC K rr r)(la:pP K t1 ta)(lb:pP K t2 tb):pP K (tOp rr t1 t2) (dOp r ta tb):=by
 intro σ H ρ Z Qd Q S h k
 refine la σ H ρ Z _ _ S h fun x ux ad H1 e1 S1 rx h1=>?_
 refine lb σ H1 ρ ad _ _ S1 h1 fun y uy am H2 e2 S2 ry h2=>?_
 exact lo x y ux uy H2 am _ _ S2.mu (rx.ext S1.mu e2) ry h2 fun d u U H' e3 ok r q=>k d u U H' (e1.trans (e2.trans e3)) ⟨ok,S2.rho.ext S2.mu e3⟩ r q
theorem pY{op:Operator}{rr:R2}{r}(ho:OpR X (binaryOp op) rr)(lo:gC X.K rr r)(ha:DE X a ta)(hb:DE X b tb):DE X (.BinOp a op b pos) (dOp r ta tb):=by
 obtain⟨t1,p1,l1⟩:=ha
 obtain⟨t2,p2,l2⟩:=hb
 exact⟨_,O4 ho p1 p2,qq lo l1 l2⟩
theorem fo{op:CmpOp}{rr:R2}{r}(ho:OpR X (compareOp op) rr)(lo:gC X.K rr r)(ha:DE X a ta)(hb:DE X b tb)(hm:behindInMarks op b=false):DE X (.Compare a [op] [b] pos) (dOp r ta tb):=by
 obtain⟨t1,p1,l1⟩:=ha
 obtain⟨t2,p2,l2⟩:=hb
 exact⟨_,LZ ho p1 p2 hm,qq lo l1 l2⟩
noncomputable def dB(t:DTE):DTT:=fun ρ Z Q=>t ρ Z fun d ad=>match d with
 |.v (.bool k)=>Q k ad
 |_=>False
theorem yo{K:PySem.W.Frag}{t:TE}{td:DTE}(l:pP K t td):Km K (Ms t) (dB td):=by
 intro σ H ρ Z Qd Q S h k
 refine l σ H ρ Z _ _ S h fun d u ad H1 e1 S1 r q=>?_
 split at q
 ·rename_i b
  cases r
  exact⟨b,rfl,k b ad H1 e1 S1 q⟩
 ·exact q.elim
theorem aY{op:CmpOp}{rr:R2}{r}(ho:OpR X (compareOp op) rr)(lo:gC X.K rr r)(ha:DE X a ta)(hb:DE X b tb)(hm:behindInMarks op b=false):DT X (.Compare a [op] [b] pos) (dB (dOp r ta tb)):=by
 obtain⟨t1,p1,l1⟩:=ha
 obtain⟨t2,p2,l2⟩:=hb
 exact⟨_,LB ho p1 p2 hm,yo (qq lo l1 l2)⟩
theorem bY{e:Expr}{td:DTE}(h:DE X e td)(he:∀whole,isTrue e X.env whole=(do let v <- whole;standAt e.pos;holding [v] (truthy v)):=by intro _;rfl):DT X e (dB td):=by
 obtain⟨t,p,l⟩:=h
 exact⟨_,Nd p he,yo l⟩
def rII(C:Int->Int->Prop)(g:Int->Int->PyData):D->D->Mu->DK->Prop:=fun x y Z Q=>match x,y with
 |.v (.int i),.v (.int j)=>C i j/\Q (.v (g i j)) Z
 |_,_=>False
theorem Ld{K:PySem.W.Frag}{C:Int->Int->Prop}{g:Int->Int->V}{gd:Int->Int->PyData}(hg:∀Z H i j,Rp K Z H (gd i j) (g i j)):gC K (rI C g) (rII C gd):=by
 intro x y ux uy H Z Qd Q ok rx ry h k
 unfold rII at h
 split at h
 ·rename_i i j
  cases rx;cases ry
  exact⟨i,j,rfl,rfl,h.1,k (.v _) _ Z H .refl ok (hg Z H i j) h.2⟩
 ·exact h.elim
def wX(g:Int->Int->PyData):D->D->Mu->DK->Prop:=fun x y Z Q=>match x,y with
 |.v (.int i),.v (.int j)=>Q (.v (g i j)) Z
 |_,_=>False
theorem FG{K:PySem.W.Frag}{g:Int->Int->V}{gd:Int->Int->PyData}(hg:∀Z H i j,Rp K Z H (gd i j) (g i j)):gC K (rI0 g) (wX gd):=by
 intro x y ux uy H Z Qd Q ok rx ry h k
 unfold wX at h
 split at h
 ·rename_i i j
  cases rx;cases ry
  exact⟨i,j,rfl,rfl,k (.v _) _ Z H .refl ok (hg Z H i j) h⟩
 ·exact h.elim
noncomputable abbrev cp(ta tb:DTE):DTE:=dOp (wX fun i j=>.int (i+j)) ta tb
noncomputable abbrev lZ(ta tb:DTE):DTE:=dOp (wX fun i j=>.int (i-j)) ta tb
noncomputable abbrev MulOk(i j:Int):Prop:=IntMulOk i j
noncomputable abbrev cw(ta tb:DTE):DTE:=dOp (rII MulOk fun i j=>.int (i*j)) ta tb
noncomputable abbrev uL(ta tb:DTE):DTE:=dOp (rII (fun _ j=>j≠0) fun i j=>.int (i.fmod j)) ta tb
noncomputable abbrev tE(i j:Int):Prop:=j≠0/\Builtin.divisionGoesByPylong i j=false
noncomputable abbrev su(ta tb:DTE):DTE:=dOp (rII tE fun i j=>.int (i.fdiv j)) ta tb
noncomputable abbrev M9(ta tb:DTE):DTE:=dOp (rII Nt fun i j=>.int (i ^ j.toNat)) ta tb
theorem L0:OpR X (binaryOp .Mult) (rI MulOk fun i j=>.int (i*j)):=opI fun _ _ _ _ _ _ _ hc q=>mul_int q hc
theorem K6:OpR X (binaryOp .FloorDiv) (rI tE fun i j=>.int (i.fdiv j)):=opI fun _ _ _ _ _ _ _ hc q=>floordiv_int hc.1 q (.inl hc.2)
theorem bb(ha:DE X a ta)(hb:DE X b tb):DE X (.BinOp a .Add b pos) (cp ta tb):=pY JD (FG fun _ _ _ _=>.int _) ha hb
theorem dR(ha:DE X a ta)(hb:DE X b tb):DE X (.BinOp a .Sub b pos) (lZ ta tb):=pY Oq (FG fun _ _ _ _=>.int _) ha hb
theorem bz(ha:DE X a ta)(hb:DE X b tb):DE X (.BinOp a .Mult b pos) (cw ta tb):=pY L0 (Ld fun _ _ _ _=>.int _) ha hb
theorem jS(ha:DE X a ta)(hb:DE X b tb):DE X (.BinOp a .Mod b pos) (uL ta tb):=pY L5 (Ld fun _ _ _ _=>.int _) ha hb
theorem gX(ha:DE X a ta)(hb:DE X b tb):DE X (.BinOp a .FloorDiv b pos) (su ta tb):=pY K6 (Ld fun _ _ _ _=>.int _) ha hb
theorem JH(ha:DE X a ta)(hb:DE X b tb):DE X (.BinOp a .Pow b pos) (M9 ta tb):=pY Og (Ld fun _ _ _ _=>.int _) ha hb
abbrev rLt:=wX fun i j=>.bool (decide (i<j))
abbrev rLe:=wX fun i j=>.bool (decide (i<=j))
abbrev rGt:=wX fun i j=>.bool (decide (j<i))
abbrev rGe:=wX fun i j=>.bool (decide (j<=i))
theorem fD{K:PySem.W.Frag}{p:Int->Int->Bool}:gC K (rI0 fun i j=>.bl (p i j)) (wX fun i j=>.bool (p i j)):=FG fun _ _ _ _=>.bool _
noncomputable def wa(ta:DTE):DTE:=fun ρ Z Q=>ta ρ Z fun x ad=>match x with
 |.v (.int i)=>Q (.v (.int (-i))) ad
 |_=>False
theorem kI(ha:DE X a ta):DE X (.UnaryOp .USub a pos) (wa ta):=by
 obtain⟨t1,p1,l1⟩:=ha
 refine⟨_,Mp Kk p1,fun σ H ρ Z Qd Q S h k=>?_⟩
 refine l1 σ H ρ Z _ _ S h fun x ux ad H1 e1 S1 rx h1=>?_
 split at h1
 ·rename_i i
  cases rx
  exact⟨i,rfl,k (.v _) _ ad H1 e1 S1 (Rp.int _) h1⟩
 ·exact h1.elim
noncomputable def uO(t u:DTT):DTT:=fun ρ Z Q=>t ρ Z fun c ad=>if c=true then u ρ ad Q else Q false ad
noncomputable def kQ(t u:DTT):DTT:=fun ρ Z Q=>t ρ Z fun c ad=>if c=true then Q true ad else u ρ ad Q
noncomputable def fA(t:DTT):DTT:=fun ρ Z Q=>t ρ Z fun c ad=>Q (!c) ad
noncomputable def DW(X:Cx)(e:Expr)(td:DTT):Prop:=∃t,PW X e t/\Km X.K t td
theorem DW.dt{e:Expr}{td:DTT}(h:DW X e td):DT X e td:=let ⟨t,p,l⟩:=h;⟨t,p.pt,l⟩
variable {tA tB':DTT}{rest:List Expr}
theorem ur(ha:DT X a tA):DW X (.BoolOp .And [a] pos) tA:=let ⟨t,p,l⟩:=ha;⟨t,pw_and1 p,l⟩
theorem iF(ha:DT X a tA):DW X (.BoolOp .Or [a] pos) tA:=let ⟨t,p,l⟩:=ha;⟨t,pw_or1 p,l⟩
theorem zX(ha:DT X a tA)(hb:DW X (.BoolOp .And (b::rest) pos) tB'):DW X (.BoolOp .And (a::b::rest) pos) (uO tA tB'):=by
 obtain⟨t1,p1,l1⟩:=ha
 obtain⟨t2,p2,l2⟩:=hb
 refine⟨_,pw_and p1 p2,fun σ H ρ Z Qd Q S h k=>?_⟩
 refine l1 σ H ρ Z _ _ S h fun c ad H1 e1 S1 h1=>?_
 cases c with
 |true=>
  refine ve (l2 σ H1 ρ ad _ _ S1 (by simpa using h1) fun c am H2 e2 S2 h2=>k c am H2 (e1.trans e2) S2 h2)
 |false=>exact vj (k false ad H1 e1 S1 (by simpa using h1))
theorem gY(ha:DT X a tA)(hb:DW X (.BoolOp .Or (b::rest) pos) tB'):DW X (.BoolOp .Or (a::b::rest) pos) (kQ tA tB'):=by
 obtain⟨t1,p1,l1⟩:=ha
 obtain⟨t2,p2,l2⟩:=hb
 refine⟨_,pw_or p1 p2,fun σ H ρ Z Qd Q S h k=>?_⟩
 refine l1 σ H ρ Z _ _ S h fun c ad H1 e1 S1 h1=>?_
 cases c with
 |true=>exact ve (k true ad H1 e1 S1 (by simpa using h1))
 |false=>
  refine vj (l2 σ H1 ρ ad _ _ S1 (by simpa using h1) fun c am H2 e2 S2 h2=>k c am H2 (e1.trans e2) S2 h2)
theorem di(ha:DT X a tA):DT X (.UnaryOp .Not a pos) (fA tA):=by
 obtain⟨t1,p1,l1⟩:=ha
 refine⟨_,N0 p1,fun σ H ρ Z Qd Q S h k=>?_⟩
 exact l1 σ H ρ Z _ _ S h fun c ad H1 e1 S1 h1=>k _ ad H1 e1 S1 h1
noncomputable def mS(ta tb:DTE):DTE:=fun ρ Z Q=>ta ρ Z fun x ad=>match x with
 |.v (.bool c)=>if c=true then tb ρ ad Q else Q (.v (.bool false)) ad
 |_=>False
noncomputable def JG(ta tb:DTE):DTE:=fun ρ Z Q=>ta ρ Z fun x ad=>match x with
 |.v (.bool c)=>if c=true then Q (.v (.bool true)) ad else tb ρ ad Q
 |_=>False
noncomputable def yf(ta:DTE):DTE:=fun ρ Z Q=>ta ρ Z fun x ad=>match x with
 |.v (.bool c)=>Q (.v (.bool (!c))) ad
 |_=>False
theorem kU{op}(h:DE X a ta):DE X (.BoolOp op [a] pos) ta:=let ⟨t,p,l⟩:=h;⟨t,NU p,l⟩
theorem ky(ha:DE X a ta)(hb:DE X (.BoolOp .And (b::rest) pos) tb):DE X (.BoolOp .And (a::b::rest) pos) (mS ta tb):=by
 obtain⟨t1,p1,l1⟩:=ha
 obtain⟨t2,p2,l2⟩:=hb
 refine⟨_,MI p1 p2,fun σ H ρ Z Qd Q S h k=>?_⟩
 refine l1 σ H ρ Z _ _ S h fun x ux ad H1 e1 S1 rx h1=>?_
 split at h1
 ·rename_i c
  cases rx
  refine⟨c,rfl,?_⟩
  cases c with
  |true=>exact ve (l2 σ H1 ρ ad _ _ S1 (by simpa using h1) fun d u am H2 e2 S2 r2 h2=>k d u am H2 (e1.trans e2) S2 r2 h2)
  |false=>exact vj (k (.v _) _ ad H1 e1 S1 (Rp.bool false) (by simpa using h1))
 ·exact h1.elim
theorem JW(ha:DE X a ta)(hb:DE X (.BoolOp .Or (b::rest) pos) tb):DE X (.BoolOp .Or (a::b::rest) pos) (JG ta tb):=by
 obtain⟨t1,p1,l1⟩:=ha
 obtain⟨t2,p2,l2⟩:=hb
 refine⟨_,Pr p1 p2,fun σ H ρ Z Qd Q S h k=>?_⟩
 refine l1 σ H ρ Z _ _ S h fun x ux ad H1 e1 S1 rx h1=>?_
 split at h1
 ·rename_i c
  cases rx
  refine⟨c,rfl,?_⟩
  cases c with
  |true=>exact ve (k (.v _) _ ad H1 e1 S1 (Rp.bool true) (by simpa using h1))
  |false=>exact vj (l2 σ H1 ρ ad _ _ S1 (by simpa using h1) fun d u am H2 e2 S2 r2 h2=>k d u am H2 (e1.trans e2) S2 r2 h2)
 ·exact h1.elim
theorem uX(ha:DE X a ta):DE X (.UnaryOp .Not a pos) (yf ta):=by
 obtain⟨t1,p1,l1⟩:=ha
 refine⟨_,NX p1,fun σ H ρ Z Qd Q S h k=>?_⟩
 refine l1 σ H ρ Z _ _ S h fun x ux ad H1 e1 S1 rx h1=>?_
 split at h1
 ·rename_i c
  cases rx
  exact⟨c,rfl,k (.v _) _ ad H1 e1 S1 (Rp.bool _) h1⟩
 ·exact h1.elim
noncomputable def dIf(t:DTT)(ta tb:DTE):DTE:=fun ρ Z Q=>t ρ Z fun c ad=>if c=true then ta ρ ad Q else tb ρ ad Q
theorem B4{c:Expr}(hc:DT X c tA)(ha:DE X a ta)(hb:DE X b tb):DE X (.IfExp c a b pos) (dIf tA ta tb):=by
 obtain⟨t0,p0,l0⟩:=hc
 obtain⟨t1,p1,l1⟩:=ha
 obtain⟨t2,p2,l2⟩:=hb
 refine⟨_,Jg p0 p1 p2,fun σ H ρ Z Qd Q S h k=>?_⟩
 refine l0 σ H ρ Z _ _ S h fun c ad H1 e1 S1 h1=>?_
 cases c with
 |true=>exact ve (l1 σ H1 ρ ad _ _ S1 (by simpa using h1) fun d u am H2 e2 S2 r2 h2=>k d u am H2 (e1.trans e2) S2 r2 h2)
 |false=>exact vj (l2 σ H1 ρ ad _ _ S1 (by simpa using h1) fun d u am H2 e2 S2 r2 h2=>k d u am H2 (e1.trans e2) S2 r2 h2)
end
section
variable {K:PySem.W.Frag}{Z ad:Mu}{H H1:Hp}{p:Addr}
theorem de{o:HO}(h:H p=none):Ext K Z H Z (upd H p o):=
 ⟨fun b u e _ _=>by rw[aR (aV e h)];exact e,fun b ps e _=>⟨ps,by rw[aR (aV e h)];exact e⟩,fun _ ds q=>⟨ds,q⟩,fun _ q _=>q,fun b o e _=>⟨o,by rw[aR (aV e h)];exact e⟩,fun _ c q=>⟨c,q⟩⟩
theorem bD.BM(ok:bD K Z H)(e:Ext K Z H Z H1)(s:uA H H1):bD K Z H1:=⟨fun a ds q=>by
 obtain⟨xs,h1,h2⟩:=ok a ds q
 exact⟨xs,s _ _ h1,h2.ext ok e⟩,ok.tab.of fun b o h _ _=>s b o h,fun a c q=>by
 obtain⟨z,o,h1,h2⟩:=ok.box a c q
 exact⟨z,o,s _ _ h1,h2.ext ok e⟩⟩
theorem vX{o:HO}(h:H p=none):uA H (upd H p o):=fun b u q=>by rw[aR (aV q h)];exact q
theorem bD.new{o:HO}(ok:bD K Z H)(h:H p=none):bD K Z (upd H p o):=ok.BM (de h) (vX h)
theorem St0.new{o:HO}{ρ:Rho}{σ:St}(S:St0 K H ρ Z σ)(h:H p=none):St0 K (upd H p o) ρ Z σ:=⟨S.mu.new h,S.rho.ext S.mu (de h)⟩
theorem eo{us:List V}{ds:List PyData}(ok:bD K Z H)(r:RpL K Z H ds us)(h:H p=none):Rp K Z (upd H p (.tup us)) (.tuple ds) (.ref p):=
 .tuple (SqT.of dW) (r.ext ok (de h))
theorem iC{us:List V}{ds:List PyData}(ok:bD K Z H)(r:RpL K Z H ds us)(h:H p=none):Rp K Z (upd H p (.lst us)) (.list ds) (.ref p):=
 .list dW (ok.free h) (r.ext ok (de h))
theorem d5{o:HO}{ds:List PyData}(ok:bD K Z H)(h:H p=none)(hk:K.lookup p=none):Ext K Z H (aA Z p ds) (upd H p o) where
 keep:=fun b u e _ _=>by rw[aR (aV e h)];exact e
 tb:=fun b ps e _=>⟨ps,by rw[aR (aV e h)];exact e⟩
 dom:=fun b es q=>by
  have:b≠p:=fun z=>by rw[z,ok.free h] at q;cases q
  exact⟨es,by rw[aQ this];exact q⟩
 fresh:=fun b n q=>by
  have:b≠p:=fun z=>by
   rcases q with q|q
   ·exact q (by rw[z];exact h)
   ·exact q (by rw[z];exact hk)
  rw[aQ this];exact n
 st:=fun b o e _=>⟨o,by rw[aR (aV e h)];exact e⟩
 bx:=fun b c q=>⟨c,q⟩
theorem bD.mut{us:List V}{ds:List PyData}(ok:bD K Z H)(r:RpL K Z H ds us)(h:H p=none)(hk:K.lookup p=none):bD K (aA Z p ds) (upd H p (.lst us)):=⟨fun a es q=>by
 have e:=d5 (o:=.lst us) (ds:=ds) ok h hk
 by_cases ha:a=p
 ·subst ha
  rw[aD] at q
  cases q
  exact⟨us,dW,r.ext ok e⟩
 ·rw[aQ ha] at q
  obtain⟨xs,h1,h2⟩:=ok a es q
  exact⟨xs,by rw[aR ha];exact h1,h2.ext ok e⟩,ok.tab.of fun b o e _ _=>by rw[aR (aV e h)];exact e,fun a c q=>by
 obtain⟨z,o,h1,h2⟩:=ok.box a c q
 exact⟨z,o,by rw[aR (aV h1 h)];exact h1,h2.ext ok (d5 ok h hk)⟩⟩
theorem eS{o:HO}{ds es:List PyData}(h:Z p=some ds):Ext K Z H (aA Z p es) (upd H p o) where
 keep:=fun b u e n _=>by
  have:b≠p:=fun z=>by rw[z,h] at n;cases n
  rw[aR this];exact e
 tb:=fun b ps e n=>by
  have:b≠p:=fun z=>by rw[z,h] at n;cases n
  exact⟨ps,by rw[aR this];exact e⟩
 dom:=fun b fs q=>by
  by_cases hb:b=p
  ·subst hb;exact⟨es,aD⟩
  ·exact⟨fs,by rw[aQ hb];exact q⟩
 fresh:=fun b n q=>by
  have:b≠p:=fun z=>by rw[z,h] at n;cases n
  rw[aQ this];exact n
 st:=fun b o e n=>by
  have:b≠p:=fun z=>by rw[z,h] at n;cases n
  exact⟨o,by rw[aR this];exact e⟩
 bx:=fun b c q=>⟨c,q⟩
theorem bD.set{us:List V}{ds es:List PyData}(ok:bD K Z H)(h:Z p=some ds)(r:RpL K Z H es us):bD K (aA Z p es) (upd H p (.lst us)):=⟨fun a fs q=>by
 have e:Ext K Z H (aA Z p es) (upd H p (.lst us)):=eS h
 by_cases ha:a=p
 ·subst ha
  rw[aD] at q
  cases q
  exact⟨us,dW,r.ext ok e⟩
 ·rw[aQ ha] at q
  obtain⟨xs,h1,h2⟩:=ok a fs q
  exact⟨xs,by rw[aR ha];exact h1,h2.ext ok e⟩,by
 obtain⟨ys,hy,_⟩:=ok p ds h
 exact ok.tab.of fun b o e n _=>by
  have:b≠p:=fun z=>by rw[z,hy] at e;exact n ys (Option.some.inj e).symm
  rw[aR this];exact e,fun a c q=>by
 obtain⟨ys,hy,_⟩:=ok p ds h
 obtain⟨z,o,h1,h2⟩:=ok.box a c q
 have:a≠p:=fun w=>by rw[w,hy] at h1;cases h1
 exact⟨z,o,by rw[aR this];exact h1,h2.ext ok (eS h)⟩⟩
end
def cu:List D->Option (List PyData)
 |[]=>some []
 |.v x::r=>(cu r).map (x::·)
 |_::_=>none
theorem i6.data{K:PySem.W.Frag}{Z:Mu}{H:Hp}:∀{ds:List D} {us:List V} {xs:List PyData},i6 K Z H ds us->cu ds=some xs->RpL K Z H xs us
 |_,_,_,.nil,e=>by cases e;exact .nil
 |.v x::r,_,xs,.cons h t,e=>by
  simp only[cu] at e
  cases q:cu r with
  |none=>rw[q] at e;cases e
  |some ys=>rw[q] at e;cases e;exact .cons h (i6.data t q)
 |.m _::_,_,_,.cons _ _,e=>by simp[cu] at e
 |.s _::_,_,_,.cons _ _,e=>by simp[cu] at e
 |.o _::_,_,_,.cons _ _,e=>by simp[cu] at e
section
variable {X:Cx}{e:Expr}{es:List Expr}{te:DTE}{t:DTA}{pos:Pos}
noncomputable def ar:DTA:=fun _ Z Q=>Q [] Z
noncomputable def ag(ta:DTE)(tr:DTA):DTA:=fun ρ Z Q=>ta ρ Z fun x ad=>tr ρ ad fun xs am=>Q (x::xs) am
theorem aj:DA X [] ar:=⟨_,sj,fun σ H ρ Z Qd Q S h k=>k [] [] Z H .refl S .nil rfl h⟩
theorem ae(ha:DE X e te)(hr:DA X es t)(hs:starEach (e::es) X.env=(false,eval e X.env)::starEach es X.env:=by rfl):DA X (e::es) (ag te t):=by
 obtain⟨t1,p1,l1⟩:=ha
 obtain⟨t2,p2,l2⟩:=hr
 refine⟨_,hW p1 p2 hs,fun σ H ρ Z Qd Q S h k=>?_⟩
 refine l1 σ H ρ Z _ _ S h fun x ux ad H1 e1 S1 rx h1=>?_
 refine l2 σ H1 ρ ad _ _ S1 h1 fun xs us am H2 e2 S2 rs len h2=>?_
 exact k (x::xs) (ux::us) am H2 (e1.trans e2) S2 (.cons (rx.ext S1.mu e2) rs) (by rw[length_cons,length_cons,len]) h2
noncomputable def bq(t:DTA):DTE:=fun ρ Z Q=>t ρ Z fun ds ad=>match cu ds with
 |some xs=>Q (.v (.tuple xs)) ad
 |none=>False
noncomputable def lS(t:DTA):DTE:=fun ρ Z Q=>t ρ Z fun ds ad=>match cu ds with
 |some xs=>Q (.v (.list xs)) ad
 |none=>False
noncomputable def sL(t:DTA):DTE:=fun ρ Z Q=>t ρ Z fun ds ad=>match cu ds with
 |some xs=>∀p,ad p=none->Q (.m p) (aA ad p xs)
 |none=>False
theorem aK{x1}(h:DA X es t)(hl:es.length<=1000:=by decide):DE X (.Tuple es x1 pos) (bq t):=by
 obtain⟨t1,p1,l1⟩:=h
 refine⟨_,MM p1,fun σ H ρ Z Qd Q S h k=>?_⟩
 refine l1 σ H ρ Z _ _ S h fun ds us ad H1 e1 S1 rs len h1=>?_
 cases q:cu ds with
 |none=>rw[q] at h1;exact h1.elim
 |some xs=>
  rw[q] at h1
  refine⟨Nat.le_of_lt (dP (by rw[<- rs.length,len];exact hl)),fun p hp=>?_⟩
  exact k (.v (.tuple xs)) _ ad _ (e1.trans (de hp)) (S1.new hp) (eo S1.mu (rs.data q) hp) h1
theorem dQ(h:DA X es t)(hl:es.length<=1000:=by decide):DE X (.List es pos) (lS t):=by
 obtain⟨t1,p1,l1⟩:=h
 refine⟨_,Ny p1,fun σ H ρ Z Qd Q S h k=>?_⟩
 refine l1 σ H ρ Z _ _ S h fun ds us ad H1 e1 S1 rs len h1=>?_
 cases q:cu ds with
 |none=>rw[q] at h1;exact h1.elim
 |some xs=>
  rw[q] at h1
  refine⟨Nat.le_of_lt (dP (by rw[<- rs.length,len];exact hl)),fun p hp=>?_⟩
  exact k (.v (.list xs)) _ ad _ (e1.trans (de hp)) (S1.new hp) (iC S1.mu (rs.data q) hp) h1
noncomputable def Ox(K:PySem.W.Frag)(t:TA):TE:=fun σ H Q=>t σ H fun xs H1=>xs.length<=sizeLine/\∀p,H1 p=none->K.lookup p=none->Q (.ref p) (upd H1 p (.lst xs))
theorem Lx{t:TA}(h:PA X es t):PE X (.List es pos) (Ox X.K t):=by
 intro pins s σ H Q I hq
 refine wpAny_List_spliced (thn (h pos pins s σ H _ I hq) fun us s1 ⟨xs,H1,I1,r,z,q⟩=>⟨by rw[<- r.length];exact z,?_⟩)
 have hf:H1 s1.heap.objs.size=none:=I1.hok.fresh (le_refl _)
 have hk:X.K.lookup s1.heap.objs.size=none:=by
  cases c:X.K.lookup s1.heap.objs.size with
  |none=>rfl
  |some o=>exact absurd (Heap.lt_size (I1.kIn _ _ c)) (lt_irrefl _)
 refine⟨.ref s1.heap.objs.size,upd H1 s1.heap.objs.size (.lst xs),I1.laid (t':=s1.toks) (fun b u e=>Heap.get?_push_of_some _ e) (le_refl _) ?_,rfl,q _ hf hk⟩
 exact⟨z,us,0,r,Heap.get?_push_size _ rfl⟩
theorem nR(h:DA X es t)(hl:es.length<=1000:=by decide):DE X (.List es pos) (sL t):=by
 obtain⟨t1,p1,l1⟩:=h
 refine⟨_,Lx p1,fun σ H ρ Z Qd Q S h k=>?_⟩
 refine l1 σ H ρ Z _ _ S h fun ds us ad H1 e1 S1 rs len h1=>?_
 cases q:cu ds with
 |none=>rw[q] at h1;exact h1.elim
 |some xs=>
  rw[q] at h1
  refine⟨Nat.le_of_lt (dP (by rw[<- rs.length,len];exact hl)),fun p hp hk=>?_⟩
  have ex:=d5 (o:=.lst us) (ds:=xs) S1.mu hp hk
  exact k (.m p) _ (aA ad p xs) _ (e1.trans ex) ⟨S1.mu.mut (rs.data q) hp hk,S1.rho.ext S1.mu ex⟩ ⟨rfl,xs,aD⟩ (h1 p (S1.mu.free hp))
end
section
variable {X:Cx}{pins:List (Addr×Obj)}{σ:St}{H:Hp}{s:Shared}{Z:Mu}
mutual
theorem fg(I:Inv X pins σ H s):∀{d:PyData} {x:V} {u:Value},Rp X.K Z H d x->RelV x u->∃as,Reads s.heap u d as
 |_,_,_,.none,r=>by cases r;exact⟨_,.none⟩
 |_,_,_,.bool b,r=>by cases r;exact⟨_,.bool b⟩
 |_,_,_,.int i,r=>by obtain⟨t,rfl⟩:=r;exact⟨_,.int i t⟩
 |_,_,_,.str y,r=>by obtain⟨t,rfl⟩:=r;exact⟨_,.str y t⟩
 |_,_,_,.list h _ q,r=>by
  cases r
  obtain⟨its,rv,⟨o,n,ho,hc,_,hd⟩,_⟩:=I.list (SqL.of h)
  obtain⟨as,ra⟩:=lT I q rv
  exact⟨_,.list ho hc hd (by simpa using ra)⟩
 |_,_,_,.tuple h q,r=>by
  cases r
  obtain⟨its,rv,⟨o,ho,hc,n,hd⟩,_⟩:=I.tuple h
  obtain⟨as,ra⟩:=lT I q rv
  exact⟨_,.tuple ho hc hd (by simpa using ra)⟩
theorem lT(I:Inv X pins σ H s):∀{ds:List PyData} {xs:List V} {us:List Value},RpL X.K Z H ds xs->Vals xs us->∃as,ReadsAll s.heap us ds as
 |_,_,_,.nil,.nil=>⟨_,.nil⟩
 |_,_,_,.cons h t,.cons r q=>by
  obtain⟨as,ra⟩:=fg I h r
  obtain⟨bs,rb⟩:=lT I t q
  exact⟨_,.cons ra rb⟩
end
end
section
variable {X:Cx}
noncomputable def LM(K:PySem.W.Frag)(neg:Bool):R2:=fun x y H Q=>∃Z a b,Rp K Z H a x/\Rp K Z H b y/\SeqAt.shaped a=true/\SeqAt.shaped b=true/\Q (.bl (neg ^^ PyData.eqv a b)) H
theorem cK(hu:X.A.units+64<cLine):OpR X (compareOp .Eq) (LM X.K false):=by
 intro pins s σ H x y v u Q I rx ry h
 obtain⟨Z,a,b,ha,hb,sa,sb,q⟩:=h
 obtain⟨as,ra⟩:=fg I ha rx
 obtain⟨bs,rb⟩:=fg I hb ry
 exact eq_dataH ra rb sa sb hu ⟨.bl (PyData.eqv a b),H,I,rfl,by simpa using q⟩
theorem oO(hu:X.A.units+64<cLine):OpR X (compareOp .NotEq) (LM X.K true):=by
 intro pins s σ H x y v u Q I rx ry h
 obtain⟨Z,a,b,ha,hb,sa,sb,q⟩:=h
 obtain⟨as,ra⟩:=fg I ha rx
 obtain⟨bs,rb⟩:=fg I hb ry
 exact ne_dataH ra rb sa sb hu ⟨.bl (!PyData.eqv a b),H,I,rfl,by simpa using q⟩
def d8(neg:Bool):D->D->Mu->DK->Prop:=fun x y Z Q=>match x,y with
 |.v a,.v b=>SeqAt.shaped a=true/\SeqAt.shaped b=true/\Q (.v (.bool (neg ^^ PyData.eqv a b))) Z
 |_,_=>False
theorem bP{K:PySem.W.Frag}{neg:Bool}:gC K (LM K neg) (d8 neg):=by
 intro x y ux uy H Z Qd Q ok rx ry h k
 unfold d8 at h
 split at h
 ·rename_i a b
  exact⟨Z,a,b,rx,ry,h.1,h.2.1,k (.v _) _ Z H .refl ok (Rp.bool _) h.2.2⟩
 ·exact h.elim
noncomputable def Nz(K:PySem.W.Frag)(neg:Bool):R2:=fun x y H Q=>∃Z a bs,Rp K Z H a x/\Rp K Z H (.list bs) y/\PyData.canLayAll0 bs=true/\a.canLay0=true/\PyData.depth a<=60/\Q (.bl (neg ^^ bs.any fun b=>PyData.eqv b a)) H
theorem Qe(hu:X.A.units+64<cLine):OpR X (compareOp .In) (Nz X.K false):=by
 intro pins s σ H x y v u Q I rx ry h
 obtain⟨Z,a,b,ha,hb,sb,sa,dp,q⟩:=h
 obtain⟨as,ra⟩:=fg I ha rx
 obtain⟨bs,rb⟩:=fg I hb ry
 refine SeqAt.in_list_reads rb ra sb sa ∅ ⟨.bl (b.any fun z=>PyData.eqv z a),H,I,rfl,by simpa using q⟩
theorem Hv(hu:X.A.units+64<cLine):OpR X (compareOp .NotIn) (Nz X.K true):=by
 intro pins s σ H x y v u Q I rx ry h
 obtain⟨Z,a,b,ha,hb,sb,sa,dp,q⟩:=h
 obtain⟨as,ra⟩:=fg I ha rx
 obtain⟨bs,rb⟩:=fg I hb ry
 refine SeqAt.notIn_list_reads rb ra sb sa ∅ ⟨.bl (!b.any fun z=>PyData.eqv z a),H,I,rfl,by simpa using q⟩
def K9(neg:Bool):D->D->Mu->DK->Prop:=fun x y Z Q=>match x,y with
 |.v a,.v (.list bs)=>PyData.canLayAll0 bs=true/\a.canLay0=true/\PyData.depth a<=60/\Q (.v (.bool (neg ^^ bs.any fun b=>PyData.eqv b a))) Z
 |_,_=>False
theorem MT{K:PySem.W.Frag}{neg:Bool}:gC K (Nz K neg) (K9 neg):=by
 intro x y ux uy H Z Qd Q ok rx ry h k
 unfold K9 at h
 split at h
 ·rename_i a b
  exact⟨Z,a,b,rx,ry,h.1,h.2.1,h.2.2.1,k (.v _) _ Z H .refl ok (Rp.bool _) h.2.2.2⟩
 ·exact h.elim
end
section
variable {X:Cx}{a b e:Expr}{es:List Expr}{ta tb te:DTE}{t:DTA}{p pos:Pos}
def aN:D->D->Mu->DK->Prop:=fun x y Z Q=>match x,y with
 |.v (.list xs),.v (.int i)=>(match atI xs i with|some d=>Q (.v d) Z|none=>False)
 |.v (.tuple xs),.v (.int i)=>(match atI xs i with|some d=>Q (.v d) Z|none=>False)
 |.m l,.v (.int i)=>(match Z l with
  |some xs=>(match atI xs i with|some d=>Q (.v d) Z|none=>False)
  |none=>False)
 |.s ns,.v (.int i)=>(match atI ns i with|some d=>Q (.v (.int d)) Z|none=>False)
 |_,_=>False
theorem Mg{K:PySem.W.Frag}:gC K (rIx K) aN:=by
 intro x y ux uy H Z Qd Q ok rx ry h k
 unfold aN at h
 split at h
 ·rename_i xs i
  cases ry
  cases q:atI xs i with
  |none=>rw[q] at h;exact h.elim
  |some d=>
   rw[q] at h
   cases rx with
   |list hs hn r=>
    obtain⟨u,e1,e2⟩:=ER r q
    exact .inl ⟨_,_,i,u,rfl,rfl,SqL.of hs,e1,k (.v d) u Z H .refl ok e2 h⟩
 ·rename_i xs i
  cases ry
  cases q:atI xs i with
  |none=>rw[q] at h;exact h.elim
  |some d=>
   rw[q] at h
   cases rx with
   |tuple hs r=>
    obtain⟨u,e1,e2⟩:=ER r q
    exact .inr (.inl ⟨_,_,i,u,rfl,rfl,hs,e1,k (.v d) u Z H .refl ok e2 h⟩)
 ·rename_i l i
  cases ry
  obtain⟨rfl,ds,hm⟩:=rx
  rw[hm] at h
  simp only at h
  cases q:atI ds i with
  |none=>rw[q] at h;exact h.elim
  |some d=>
   rw[q] at h
   obtain⟨us,hl,r⟩:=ok l ds hm
   obtain⟨u,e1,e2⟩:=ER r q
   exact .inl ⟨_,_,i,u,rfl,rfl,SqL.of hl,e1,k (.v d) u Z H .refl ok e2 h⟩
 ·rename_i ns i
  cases ry
  obtain⟨a,rfl,hs,hn⟩:=rx
  cases q:atI ns i with
  |none=>rw[q] at h;exact h.elim
  |some d=>
   rw[q] at h
   have e1:atI (ns.map V.int) i=some (.int d):=by
    unfold atI at q ⊢
    rw[length_map]
    cases z:ixN ns.length i with
    |none=>rw[z] at q;cases q
    |some j=>
     rw[z] at q
     simp only[bind_some,getElem?_map] at q ⊢
     rw[q]<;>rfl
   exact .inl ⟨_,_,i,_,rfl,rfl,hs,e1,k (.v (.int d)) _ Z H .refl ok (Rp.int d) h⟩
 ·exact h.elim
theorem aJ(ha:DE X a ta)(hb:DE X b tb)(hs:yW b:=by exact fun _ _=>rfl):DE X (.Subscript a b pos) (dOp aN ta tb):=by
 obtain⟨t1,p1,l1⟩:=ha
 obtain⟨t2,p2,l2⟩:=hb
 exact⟨_,Mk Iu p1 p2 hs,qq Mg l1 l2⟩
theorem JP{prog:Program}{w:World}{A:Around}{E:Value->Shared->Prop}{s:Shared}{t b:Addr}{ws:List Value}{Q:Value->Shared->Prop}(ht:IsTup s.heap t #[])(hb:IsTup s.heap b ws.toArray)
  (h1:Q (.ref b) s):wpAny (model prog w) A (binaryOp .Add (.ref t) (.ref b)) Q E s:=by
 obtain⟨⟨cls,dd,data,sl⟩,ho,hc,n,hd⟩:=id ht
 obtain⟨⟨cls2,dd2,data2,sl2⟩,ho2,hc2,n2,hd2⟩:=id hb
 simp only at hc hd hc2 hd2
 subst hc hd hc2 hd2
 exact concat_meets ⟨_,ho,rfl⟩ ⟨_,ho2,rfl⟩ noFill_tuple_add seq_tuple_add PySem.F.slot_tuple_add PySem.F.entry_tuple_add (PySem.F.args_tuple_add_2 _ _)
  (tuple_addW0 t b #[] ws.toArray n n2 dd dd2 sl sl2 rfl) ⟨ho,ho2,h1⟩
def n5(Z:Mu):D->Option (List PyData)
 |.v (.list xs)=>some xs
 |.m l=>Z l
 |_=>none
theorem Bz{K:PySem.W.Frag}{Z:Mu}{H:Hp}{x:D}{u:V}{xs:List PyData}(ok:bD K Z H)(r:RpD K Z H x u)(h:n5 Z x=some xs):∃a us,u = .ref a/\H a=some (.lst us)/\RpL K Z H xs us:=by
 cases x with
 |v d=>
  cases d<;>simp only[n5] at h<;>try cases h
  cases r with
  |list hs _ q=>exact⟨_,_,rfl,hs,q⟩
 |m l=>
  obtain⟨rfl,ds,hm⟩:=r
  obtain⟨us,hl,q⟩:=ok l xs h
  exact⟨l,us,rfl,hl,q⟩
 |s ns=>cases h
 |o a=>cases h
 |b a=>cases h
 |q P=>cases h
def yD:D->D->Mu->DK->Prop:=fun x y Z Q=>match n5 Z x,n5 Z y with
 |some xs,some ys=>xs.length+ys.length<=1000/\Q (.v (.list (xs++ys))) Z
 |_,_=>False
theorem yO{n:Nat}(h:n<=1000):n<=sizeLine:=Nat.le_of_lt (dP h)
theorem IH{K:PySem.W.Frag}:gC K MW yD:=by
 intro x y ux uy H Z Qd Q ok rx ry h k
 unfold yD at h
 split at h
 ·rename_i xs ys hx hy
  obtain⟨a,us,rfl,ha,ra⟩:=Bz ok rx hx
  obtain⟨b,ws,rfl,hb,rb⟩:=Bz ok ry hy
  refine⟨a,b,us,ws,rfl,rfl,ha,hb,yO (by rw[<- ra.length,<- rb.length];exact h.1),fun p hp=>?_⟩
  exact k (.v _) _ Z _ (de hp) (ok.new hp) (iC ok (ra.append rb) hp) h.2
 ·exact h.elim
theorem NK(ha:DE X a ta)(hb:DE X b tb):DE X (.BinOp a .Add b pos) (dOp yD ta tb):=pY J3 IH ha hb
noncomputable def EB(K:PySem.W.Frag):R2:=fun x y H Q=>∃a b xs ys,x = .ref a/\y = .ref b/\SqT K H a xs/\SqT K H b ys/\xs.length+ys.length<=sizeLine /\
 (xs=[]->Q (.ref b) H)/\(ys=[]->Q (.ref a) H)/\(∀p,H p=none->Q (.ref p) (upd H p (.tup (xs++ys))))
theorem J4:OpR X (binaryOp .Add) (EB X.K):=by
 intro pins s σ H x y v u Q I rx ry h
 obtain⟨a,b,xs,ys,rfl,rfl,ha,hb,hz,q0,q1,q2⟩:=h
 by_cases hx:xs=[]
 ·subst hx
  cases rx
  cases ry
  obtain⟨its,r1,p1,_⟩:=I.tuple ha
  obtain⟨its2,r2,p2,_⟩:=I.tuple hb
  cases r1
  exact JP p1 p2 ⟨.ref b,H,I,rfl,q0 rfl⟩
 ·exact LQ pins s σ H _ _ v u Q I rx ry ⟨a,b,xs,ys,rfl,rfl,ha,hb,hx,hz,q1,fun _=>q2⟩
def J1:D->D->Mu->DK->Prop:=fun x y Z Q=>match x,y with
 |.v (.tuple xs),.v (.tuple ys)=>xs.length+ys.length<=1000/\Q (.v (.tuple (xs++ys))) Z
 |_,_=>False
theorem Kx{K:PySem.W.Frag}:gC K (EB K) J1:=by
 intro x y ux uy H Z Qd Q ok rx ry h k
 unfold J1 at h
 split at h
 ·rename_i xs ys
  cases id rx with
  |@tuple a us _ ha ra=>
   cases id ry with
   |@tuple b ws _ hb rb=>
    refine⟨a,b,us,ws,rfl,rfl,ha,hb,yO (by rw[<- ra.length,<- rb.length];exact h.1),fun z=>?_,fun z=>?_,fun p hp=>?_⟩
    ·subst z
     cases ra
     exact k (.v _) _ Z H .refl ok ry (by simpa using h.2)
    ·subst z
     cases rb
     exact k (.v _) _ Z H .refl ok rx (by simpa using h.2)
    ·exact k (.v _) _ Z _ (de hp) (ok.new hp) (eo ok (ra.append rb) hp) h.2
 ·exact h.elim
end
end L2.DL
namespace HT
open PySem PyProof.Rows
section
variable {prog:Program}{w:World}{A:Around}{E:Value->Shared->Prop}{s:Shared}
theorem EG(n:Nat):Builtin.Slice.sliceAdjust none none (-1) (n:Int)=((n:Int)-1,-1):=by
 unfold Builtin.Slice.sliceAdjust
 simp
theorem Eh(n:Nat):Builtin.Slice.slicePlaces ((n:Int)-1) (-1) (-1)=n:=by
 unfold Builtin.Slice.slicePlaces
 simp
 omega
theorem rY{sl:Addr}{t:Tok}{n:Nat}{Q:Int×Int×Nat->Shared->Prop}(hs:s.heap.IsSliceOf sl .none .none (.int (-1) t))
  (h:Q ((n:Int)-1,-1,n) s):wpAny (model prog w) A (Builtin.Slice.sliceApplied (.ref sl) (pure (n:Int))) Q E s:=by
 obtain⟨os,hos,hcs,hds⟩:=id hs
 unfold Builtin.Slice.sliceApplied Builtin.Slice.sliceFields
 refine wpAny_bind (wpAny_bind (wpAny_field hos hds (x:=.none) rfl (wpAny_bind (wpAny_field hos hds (x:=.none) rfl (wpAny_bind (wpAny_field hos hds (x:=.int (-1) t) rfl (wpAny_pure ?_)))))))
 refine wpAny_bind (slicePart_int ?_)
 show wpAny _ _ (if ((-1:Int)==0)=true then _ else _) _ _ s
 rw[if_neg ⋯]
 refine wpAny_bind (slicePart_none (wpAny_bind (slicePart_none (wpAny_bind (wpAny_pure ?_)))))
 show wpAny _ _ (match Builtin.Slice.sliceAdjust none none (-1) (n:Int) with|(lo,hi)=>pure (lo,(-1:Int),Builtin.Slice.slicePlaces lo hi (-1))) _ _ s
 rw[EG]
 show wpAny _ _ (pure ((n:Int)-1,(-1:Int),Builtin.Slice.slicePlaces ((n:Int)-1) (-1) (-1))) _ _ s
 rw[Eh]
 exact wpAny_pure h
theorem Cn{α β:Type}{f g:α->Option β}:∀{l:List α},(∀x∈l,f x=g x)->l.filterMap f=l.filterMap g
 |[],_=>rfl
 |x::r,h=>by rw[filterMap_cons,filterMap_cons,h x mem_cons_self,Cn fun y hy=>h y (mem_cons_of_mem _ hy)]
theorem Jd(xs:Array Value):((List.range xs.size).filterMap fun (m:Nat)=>xs[(((xs.size:Int)-1)+(m:Int)*(-1)).toNat]?).toArray=xs.toList.reverse.toArray:=by
 have h:=PySem.W.krv_pick xs
 unfold slicePick at h
 rw[PySem.W.krv_bounds] at h
 have h':((sliceRange ((xs.size:Int)-1) (-1) (-1)).filterMap (xs[·]?)).toArray=xs.toList.reverse.toArray:=h
 rw[PySem.W.krv_sliceRange,List.filterMap_map] at h'
 rw[<- h']
 congr 1
 refine Cn fun k hk=>?_
 have:=List.mem_range.mp hk
 simp only[Function.comp]
 congr 1
 omega
theorem pA{t sl:Addr}{items:Array Value}{tk:Tok}{Q:Value->Shared->Prop}(ht:IsTup s.heap t items)(hs:s.heap.IsSliceOf sl .none .none (.int (-1) tk))
  (h:Q (.ref s.heap.objs.size) {s with heap:=s.heap.push {cls:=.type "tuple",data:=.seq items.toList.reverse.toArray}})
  (hsz:items.size<=sizeLine):wpAny (model prog w) A (getItem (.ref t) (.ref sl)) Q E s:=by
 have htake:sizeOk (.seq items.toList.reverse.toArray):=by
  show items.toList.reverse.toArray.size<=sizeLine
  rw[size_toArray,List.length_reverse,Array.length_toList]
  omega
 obtain⟨os,hos,hcs,hds⟩:=id hs
 have hTs:s.TypeIs (.ref sl) "slice":=⟨os,hos,hcs⟩
 unfold getItem
 try with_reducible refine wpAny_holding ?_
 first|refine wpAny_bind (wpAny_pure ?_)|skip
 refine wpAny_bind (wpAny_sequenceKey ht.typeIs ⋯ ?_)
 refine wpAny_bind (wpAny_callSpecial?_slot (name:=Str.ofString "__getitem__") ht.typeIs PyProof.Rows.slot_tuple_getitem
  (wpAny_call_entry PyProof.Rows.slot_tuple_getitem ht.typeIs entry_tuple_getitem ?_ (args_tuple_getitem _ _)))
 show wpAny _ _ (Builtin.Tuple.tupleItemsOf (.ref t)>>=_) _ _ s
 refine wpAny_bind (tupleItemsOf_ ht ?_)
 refine wpAny_bind (wpAny_typeOf hTs ?_)
 rw[if_pos ⋯]
 refine wpAny_bind (rY hs ?_)
 have hno:¬ ((((items.size:Int)-1)==0&&(-1:Int)==1&&items.size==items.size)=true):=by simp
 show wpAny _ _ (if (((items.size:Int)-1)==0&&(-1:Int)==1&&items.size==items.size)=true then _ else _) _ _ s
 rw[if_neg hno,Jd]
 first
  |exact wpAny_bind (m:=Builtin.Tuple.tupleExact _) (wpAny_newObj_type (wpAny_pure ⟨_,rfl,wpAny_pure h⟩) htake)
  |exact wpAny_bind (m:=Builtin.Tuple.tupleExact _) (wpAny_newObj_type (wpAny_bind (wpAny_pure (wpAny_pure ⟨_,rfl,wpAny_pure h⟩))) htake)
  |exact wpAny_bind (wpAny_bind (m:=Builtin.Tuple.tupleExact _) (wpAny_newObj_type (wpAny_pure (wpAny_pure ⟨_,rfl,wpAny_pure h⟩)) htake))
  |exact wpAny_bind (wpAny_bind (m:=Builtin.Tuple.tupleExact _) (wpAny_newObj_type (wpAny_pure ⟨_,rfl,wpAny_pure h⟩) htake))
end
end HT
namespace L2.DL
open PySem PySem.Spec PyProof.Rows
section
variable {X:Cx}{a b e:Expr}{lo hi:Option Expr}{ta tb te:DTE}{pos p2:Pos}
def NV{α:Type}(xs:List α)(lo hi:Option Int):List α:=(xs.drop (HT.sIx xs.length 0 lo)).take (HT.sIx xs.length xs.length hi-HT.sIx xs.length 0 lo)
abbrev DTO:=Rho->Mu->(Option Int->Mu->Prop)->Prop
noncomputable def QD(x:D)(lo hi:Option Int)(Z:Mu)(Q:DK):Prop:=match x with
 |.v (.tuple xs)=>Q (.v (.tuple (NV xs lo hi))) Z
 |.v (.list xs)=>Q (.v (.list (NV xs lo hi))) Z
 |.m l=>(match Z l with|some xs=>Q (.v (.list (NV xs lo hi))) Z|none=>False)
 |_=>False
noncomputable def PV(K:PySem.W.Frag)(te:TE):TE:=fun σ H Q=>te σ H fun x H1=>∃a xs,x = .ref a/\((SqL K H1 a xs/\∀p,H1 p=none->Q (.ref p) (upd H1 p (.lst xs.reverse)))\/(SqT K H1 a xs/\∀p,H1 p=none->Q (.ref p) (upd H1 p (.tup xs.reverse))))
theorem Vals.rev{xs:List V}{us:List Value}(h:Vals xs us):Vals xs.reverse us.reverse:=Vals.reverse h
theorem M0{te:TE}{j:Nat}{pz q2:Pos}(he:PE X e te):PE X (.Subscript e (.Slice none none (some (.UnaryOp .USub (.Constant (.int 1) j pz) q2)) p2) pos) (PV X.K te):=by
 intro pins s σ H Q I h
 refine Subscript_ (thn (he pins s σ H _ I h) fun v s1 hq0=>?_)
 obtain⟨x,H1,I1,r1,q1⟩:=hq0
 refine wpAny_Slice ?_
 rw[evalPart_none,evalPart_some]
 refine wpAny_pure (wpAny_pure ?_)
 refine thn ((Mp Kk (Ko (X:=X) (i:=1) (j:=j) (pos:=pz))) pins s1 σ H1 (fun u H2=>u = .int (-1)/\H2=H1) I1 ⟨1,rfl,rfl,rfl⟩) fun st s2 hq0=>?_
 obtain⟨z,H2,I2,r2,e2,e3⟩:=hq0
 subst e2 e3
 obtain⟨tk,rfl⟩:=r2
 have I4:Inv X pins σ H2 {s2 with heap:=s2.heap.push {cls:=.type "slice",data:=.fields #[.none,.none,.int (-1) tk]}}:=I2.kept (t':=s2.toks) fun b ob q=>Heap.get?_push_of_some _ q
 obtain⟨a,xs,rfl,q1⟩:=q1
 cases r1
 have hsl:({s2 with heap:=s2.heap.push {cls:=.type "slice",data:=.fields #[.none,.none,.int (-1) tk]}}:Shared).heap.IsSliceOf s2.heap.objs.size .none .none (.int (-1) tk):=Heap.IsSliceOf.new ..
 rcases q1 with ⟨hx,q⟩|⟨hx,q⟩
 ·obtain⟨its,r,ht,hz⟩:=I4.list hx
  have hlen:=r.length
  refine tail_any (ops:=[.ref a,.ref s2.heap.objs.size]) ht.isList.typeIs slot_list_getitem.lookup ?_ (by with_unfolding_all rfl)
  refine wpAny_getItem_list_slice ht.isList hsl .none .none (.int (-1) tk) ⋯ ?_ (by rw[size_toArray]<;>omega)
  rw[PySem.W.krv_pick]
  refine⟨.ref _,_,I4.laid (t':=s2.toks) (o:=.lst xs.reverse) (fun b ob q=>Heap.get?_push_of_some _ q) (le_refl _) ?_,rfl,q _ (I4.hok.fresh (le_refl _))⟩
  exact⟨by rw[List.length_reverse];exact hz,_,0,Vals.rev r,Heap.get?_push_size _ rfl⟩
 ·obtain⟨its,r,ht,hz⟩:=I4.tuple hx
  have hlen:=r.length
  refine tail_any (ops:=[.ref a,.ref s2.heap.objs.size]) ht.typeIs PyProof.Rows.slot_tuple_getitem.lookup ?_ (by with_unfolding_all rfl)
  refine HT.pA ht hsl ?_ (by rw[size_toArray]<;>omega)
  refine⟨.ref _,_,I4.laid (t':=s2.toks) (o:=.tup xs.reverse) (fun b ob q=>Heap.get?_push_of_some _ q) (le_refl _) ?_,rfl,q _ (I4.hok.fresh (le_refl _))⟩
  exact⟨by rw[List.length_reverse];exact hz,_,Vals.rev r,IsTup.new _ _⟩
noncomputable def NY(te:DTE):DTE:=fun ρ Z Q=>te ρ Z fun x ad=>match x with
 |.v (.tuple xs)=>Q (.v (.tuple xs.reverse)) ad
 |.v (.list xs)=>Q (.v (.list xs.reverse)) ad
 |.m l=>(match ad l with|some xs=>Q (.v (.list xs.reverse)) ad|none=>False)
 |_=>False
theorem Oi{j:Nat}{pz q2:Pos}(he:DE X e te):DE X (.Subscript e (.Slice none none (some (.UnaryOp .USub (.Constant (.int 1) j pz) q2)) p2) pos) (NY te):=by
 obtain⟨t1,p1,l1⟩:=he
 refine⟨_,M0 p1,fun σ H ρ Z Qd Q S h k=>?_⟩
 refine l1 σ H ρ Z _ _ S h fun x ux ad H1 e1 S1 rx h1=>?_
 split at h1
 ·cases rx with
  |@tuple a us _ ha ra=>exact⟨a,us,rfl,.inr ⟨ha,fun p hp=>k (.v _) _ ad _ (e1.trans (de hp)) (S1.new hp) (eo S1.mu ra.reverse hp) h1⟩⟩
 ·cases rx with
  |@list a us _ ha hn ra=>exact⟨a,us,rfl,.inl ⟨SqL.of ha,fun p hp=>k (.v _) _ ad _ (e1.trans (de hp)) (S1.new hp) (iC S1.mu ra.reverse hp) h1⟩⟩
 ·rename_i a
  obtain⟨rfl,ds,hm⟩:=rx
  rw[hm] at h1
  obtain⟨us,ha,ra⟩:=S1.mu a ds hm
  exact⟨a,us,rfl,.inl ⟨SqL.of ha,fun p hp=>k (.v _) _ ad _ (e1.trans (de hp)) (S1.new hp) (iC S1.mu ra.reverse hp) h1⟩⟩
 ·exact h1.elim
end
section
variable {X:Cx}{a b e:Expr}{es:List Expr}{ta tb te:DTE}{t:DTA}{p pos:Pos}{x:Str}{bid T:String}
noncomputable def lN(K:PySem.W.Frag)(r:List V->Hp->VK->Prop)(rd:List D->Mu->DK->Prop):Prop:=∀(xs:List D) (us:List V) (H:Hp) (Z:Mu) (Qd:DK) (Q:VK),bD K Z H->i6 K Z H xs us->rd xs Z Qd ->
 (∀d u U H',Ext K Z H U H'->bD K U H'->RpD K U H' d u->Qd d U->Q u H')->r us H Q
noncomputable def dCB(rd:List D->Mu->DK->Prop)(t:DTA):DTE:=fun ρ Z Q=>t ρ Z fun ds ad=>rd ds ad Q
theorem E5{K:PySem.W.Frag}{n:Nat}{r:List V->Hp->VK->Prop}{rd:List D->Mu->DK->Prop}{t1:TA}(lc:lN K r rd)(l1:L8 K n t1 t):pP K (tCB r t1) (dCB rd t):=by
 intro σ H ρ Z Qd Q S h k
 refine l1 σ H ρ Z _ _ S h fun xs us ad H1 e1 S1 rs len h1=>?_
 exact lc xs us H1 ad _ _ S1.mu rs h1 fun d u U H' e2 ok r q=>k d u U H' (e1.trans e2) ⟨ok,S1.rho.ext S1.mu e2⟩ r q
theorem iR{r:List V->Hp->VK->Prop}{rd:List D->Mu->DK->Prop}(hc:jk X (.builtin bid) r)(lc:lN X.K r rd)(hg:Gl X x)(hm:X.mg x=none)(hv:bootBuiltins x=some (.builtin bid))(ha:DA X (e::es) t)(hn:x ≠ "__name__":=by decide)(hdb:(x==("__debug__":Str))=false:=by decide)
  (he:starEach (e::es) X.env=(false,eval e X.env)::starEach es X.env:=by rfl) (hpl:(backTo pos (starEach es X.env)).any (·.1)=false:=by rfl):DE X (.Call (.Name x p) (e::es) [] pos) (dCB rd t):=by
 obtain⟨t1,p1,l1⟩:=ha
 exact⟨_,uM hc hg hm hv p1 hn hdb he hpl,E5 lc l1⟩
theorem qY{r:List V->Hp->VK->Prop}{rd:List D->Mu->DK->Prop}(hc:jk X (.type T) r)(lc:lN X.K r rd)(hg:Gl X x)(hm:X.mg x=none)(hv:bootBuiltins x=some (.type T))(ha:DA X (e::es) t)(hn:x ≠ "__name__":=by decide)(hdb:(x==("__debug__":Str))=false:=by decide)
  (he:starEach (e::es) X.env=(false,eval e X.env)::starEach es X.env:=by rfl) (hpl:(backTo pos (starEach es X.env)).any (·.1)=false:=by rfl):DE X (.Call (.Name x p) (e::es) [] pos) (dCB rd t):=by
 obtain⟨t1,p1,l1⟩:=ha
 exact⟨_,HL hc hg hm hv p1 hn hdb he hpl,E5 lc l1⟩
def dX:List D->Mu->DK->Prop:=fun xs Z Q=>match xs with
 |[.v (.list ys)]=>Q (.v (.int (ys.length:Nat))) Z
 |[.v (.tuple ys)]=>Q (.v (.int (ys.length:Nat))) Z
 |[.m l]=>(match Z l with|some ys=>Q (.v (.int (ys.length:Nat))) Z|none=>False)
 |[.s ns]=>Q (.v (.int (ns.length:Nat))) Z
 |_=>False
theorem IE{K:PySem.W.Frag}:lN K (fun xs H Q=>∃p ys,xs=[.ref p]/\(SqL K H p ys\/SqT K H p ys)/\Q (.int ys.length) H) dX:=by
 intro xs us H Z Qd Q ok rs h k
 unfold dX at h
 split at h
 ·cases rs with
  |cons r1 r2=>
   cases r2
   cases r1 with
   |list hs hn r=>exact⟨_,_,rfl,.inl (SqL.of hs),k (.v _) _ Z H .refl ok (by rw[<- r.length];exact Rp.int _) h⟩
 ·cases rs with
  |cons r1 r2=>
   cases r2
   cases r1 with
   |tuple hs r=>exact⟨_,_,rfl,.inr hs,k (.v _) _ Z H .refl ok (by rw[<- r.length];exact Rp.int _) h⟩
 ·cases rs with
  |cons r1 r2=>
   cases r2
   obtain⟨rfl,ds,hm⟩:=r1
   rw[hm] at h
   obtain⟨us,hl,r⟩:=ok _ ds hm
   exact⟨_,_,rfl,.inl (SqL.of hl),k (.v _) _ Z H .refl ok (by rw[<- r.length];exact Rp.int _) h⟩
 ·cases rs with
  |cons r1 r2=>
   cases r2
   obtain⟨a,rfl,hs,hn⟩:=r1
   exact⟨_,_,rfl,.inl hs,k (.v _) _ Z H .refl ok (by rw[length_map];exact Rp.int _) h⟩
 ·exact h.elim
theorem gL(hg:Gl X "len")(hm:X.mg "len"=none)(ha:DA X (e::es) t)
  (he:starEach (e::es) X.env=(false,eval e X.env)::starEach es X.env:=by rfl) (hpl:(backTo pos (starEach es X.env)).any (·.1)=false:=by rfl):DE X (.Call (.Name "len" p) (e::es) [] pos) (dCB dX t):=
 iR qi IE hg hm PySem.boot_len ha ⋯ ⋯ he hpl
def pZ:List D->Mu->DK->Prop:=fun xs Z Q=>match xs with
 |[.v (.int i)]=>Q (.v (.int (i.natAbs:Nat))) Z
 |_=>False
theorem NL{K:PySem.W.Frag}:lN K (fun xs H Q=>∃i,xs=[.int i]/\Q (.int (if i<0 then -i else i)) H) pZ:=by
 intro xs us H Z Qd Q ok rs h k
 unfold pZ at h
 split at h
 ·rename_i i
  cases rs with
  |cons r1 r2=>
   cases r2
   cases r1
   refine⟨i,rfl,k (.v (.int (i.natAbs:Nat))) _ Z H .refl ok ?_ h⟩
   have:(if i<0 then -i else i)=((i.natAbs:Nat):Int):=by split<;>omega
   rw[this]
   exact Rp.int _
 ·exact h.elim
theorem vG(hg:Gl X "abs")(hm:X.mg "abs"=none)(ha:DA X (e::es) t)
  (he:starEach (e::es) X.env=(false,eval e X.env)::starEach es X.env:=by rfl) (hpl:(backTo pos (starEach es X.env)).any (·.1)=false:=by rfl):DE X (.Call (.Name "abs" p) (e::es) [] pos) (dCB pZ t):=
 iR HW NL hg hm PyProof.Rows.Boot.«abs» ha ⋯ ⋯ he hpl
def A2(g:Int->Int->Int):List D->Mu->DK->Prop:=fun xs Z Q=>match xs with
 |[.v (.int i),.v (.int j)]=>Q (.v (.int (g i j))) Z
 |_=>False
theorem L9{K:PySem.W.Frag}{g g':Int->Int->Int}(hg:∀i j,g i j=g' i j):lN K (fun xs H Q=>∃i j,xs=[.int i,.int j]/\Q (.int (g i j)) H) (A2 g'):=by
 intro xs us H Z Qd Q ok rs h k
 unfold A2 at h
 split at h
 ·rename_i i j
  cases rs with
  |cons r1 r2=>
   cases r2 with
   |cons r2 r3=>
    cases r3
    cases r1
    cases r2
    exact⟨i,j,rfl,k (.v _) _ Z H .refl ok (by rw[hg];exact Rp.int _) h⟩
 ·exact h.elim
theorem Nj(hc:X.calm=true)(hg:Gl X "max")(hm:X.mg "max"=none)(ha:DA X (e::es) t)
  (he:starEach (e::es) X.env=(false,eval e X.env)::starEach es X.env:=by rfl) (hpl:(backTo pos (starEach es X.env)).any (·.1)=false:=by rfl):DE X (.Call (.Name "max" p) (e::es) [] pos) (dCB (A2 max) t):=
 iR (Hs hc) (L9 (fun i j=>by show (if j>i then j else i)=max i j;simp only[Int.max_def];split<;>split<;>omega)) hg hm PyProof.Rows.Boot.«max» ha ⋯ ⋯ he hpl
theorem DU(hc:X.calm=true)(hg:Gl X "min")(hm:X.mg "min"=none)(ha:DA X (e::es) t)
  (he:starEach (e::es) X.env=(false,eval e X.env)::starEach es X.env:=by rfl) (hpl:(backTo pos (starEach es X.env)).any (·.1)=false:=by rfl):DE X (.Call (.Name "min" p) (e::es) [] pos) (dCB (A2 min) t):=
 iR (GS hc) (L9 (fun i j=>by show (if j<i then j else i)=min i j;simp only[Int.min_def];split<;>split<;>omega)) hg hm PyProof.Rows.Boot.«min» ha ⋯ ⋯ he hpl
def qp:List D->Mu->DK->Prop:=fun xs Z Q=>match xs with
 |[.v (.int i)]=>Q (.v (.int i)) Z
 |[.v (.bool k)]=>Q (.v (.int (if k then 1 else 0))) Z
 |_=>False
theorem M5{K:PySem.W.Frag}:lN K (fun xs H Q=>(∃i,xs=[.int i]/\Q (.int i) H)\/∃k,xs=[.bl k]/\Q (.int (if k then 1 else 0)) H) qp:=by
 intro xs us H Z Qd Q ok rs h k
 unfold qp at h
 split at h
 ·rename_i i
  cases rs with
  |cons r1 r2=>cases r2;cases r1;exact .inl ⟨i,rfl,k (.v _) _ Z H .refl ok (Rp.int _) h⟩
 ·rename_i b
  cases rs with
  |cons r1 r2=>cases r2;cases r1;exact .inr ⟨b,rfl,k (.v _) _ Z H .refl ok (Rp.int _) h⟩
 ·exact h.elim
theorem mv(hg:Gl X "int")(hm:X.mg "int"=none)(ha:DA X (e::es) t)
  (he:starEach (e::es) X.env=(false,eval e X.env)::starEach es X.env:=by rfl) (hpl:(backTo pos (starEach es X.env)).any (·.1)=false:=by rfl):DE X (.Call (.Name "int" p) (e::es) [] pos) (dCB qp t):=
 qY GK M5 hg hm PyProof.Rows.Boot.«int» ha ⋯ ⋯ he hpl
theorem Dj:∀{bs:List Bool} {us:List Value},Vals (bs.map V.bl) us->us=bs.map Value.bool
 |[],_,.nil=>rfl
 |b::r,_,.cons h t=>by cases h;rw[Dj t];rfl
theorem HB(hc:X.calm=true):jk X (.builtin "all") (fun xs H Q=>∃(p:Addr) (bs:List Bool),xs=[.ref p]/\H p=some (.lst (bs.map V.bl))/\Q (.bl (bs.all id)) H):=by
 intro pins s σ H xs us Q I r h
 obtain⟨l,bs,rfl,hl,q⟩:=h
 obtain⟨u,rfl,rx⟩:=vals1 r
 cases rx
 obtain⟨its,rv,pl,_⟩:=I.list (SqL.of hl)
 have eb:=Dj rv
 subst eb
 have hL:=pl.isList
 have hlt:=pl.lt
 refine call_all_walk (wpAny_pyIter_list hL ?_)
 refine⟨s.heap.objs.size,[s.heap.objs.size,l],[s.heap.objs.size],(bs.map Value.bool).toArray.size,_,_,fun i=>(bs[i]?).getD true,rfl,Walks.list (A:=X.A.in1) (by exact I.ok.hd hc) _ l (ne_of_lt hlt) (bs.map Value.bool).toArray,
  ⟨⟨_,Heap.get?_push_size _ rfl,rfl,rfl⟩,hL.push _⟩,fun i v s' Q' E' hP hQ=>?_,fun h' tk hk=>?_⟩
 ·have hP':(bs.map Value.bool)[i]? = some v:=by simpa using hP
  rw[getElem?_map] at hP'
  cases z:bs[i]? with
  |none=>rw[z] at hP';cases hP'
  |some b=>
   rw[z] at hP'
   cases hP'
   simp only[z,Option.getD_some] at hQ
   exact wpAny_truthy_bool hQ
 ·have e:((List.range (bs.map Value.bool).toArray.size).all fun i=>(bs[i]?).getD true)=bs.all id:=by
   rw[size_toArray,length_map];exact PyProof.Rows.LSm.range_all bs
  rw[e]
  exact⟨.bl (bs.all id),H,I.kept (PyProof.Rows.LSm.kept_iter hk),rfl,q⟩
def cI:List PyData->Option (List Bool)
 |[]=>some []
 |.bool b::r=>(cI r).map (b::·)
 |_::_=>none
theorem wc{K:PySem.W.Frag}{Z:Mu}{H:Hp}:∀{xs:List PyData} {us:List V} {bs:List Bool},RpL K Z H xs us->cI xs=some bs->us=bs.map V.bl
 |_,_,_,.nil,e=>by cases e;rfl
 |.bool b::r,_,bs,.cons h t,e=>by
  simp only[cI] at e
  cases q:cI r with
  |none=>rw[q] at e;cases e
  |some cs=>rw[q] at e;cases e;cases h;rw[wc t q];rfl
 |.none::r,_,bs,.cons h t,e=>by simp[cI] at e
 |.int _::r,_,bs,.cons h t,e=>by simp[cI] at e
 |.str _::r,_,bs,.cons h t,e=>by simp[cI] at e
 |.list _::r,_,bs,.cons h t,e=>by simp[cI] at e
 |.tuple _::r,_,bs,.cons h t,e=>by simp[cI] at e
 |.dict _::r,_,bs,.cons h t,e=>by simp[cI] at e
def x9:List D->Mu->DK->Prop:=fun xs Z Q=>match xs with
 |[.v (.list ys)]=>(match cI ys with|some bs=>Q (.v (.bool (bs.all id))) Z|none=>False)
 |_=>False
theorem MA{K:PySem.W.Frag}:lN K (fun xs H Q=>∃(p:Addr) (bs:List Bool),xs=[.ref p]/\H p=some (.lst (bs.map V.bl))/\Q (.bl (bs.all id)) H) x9:=by
 intro xs us H Z Qd Q ok rs h k
 unfold x9 at h
 split at h
 ·rename_i ys
  cases q:cI ys with
  |none=>rw[q] at h;exact h.elim
  |some bs=>
   rw[q] at h
   cases rs with
   |cons r1 r2=>
    cases r2
    cases r1 with
    |list hs hn r=>exact⟨_,bs,rfl,by rw[hs,wc r q],k (.v _) _ Z H .refl ok (Rp.bool _) h⟩
 ·exact h.elim
theorem Kj(hc:X.calm=true)(hg:Gl X "all")(hm:X.mg "all"=none)(ha:DA X (e::es) t)
  (he:starEach (e::es) X.env=(false,eval e X.env)::starEach es X.env:=by rfl) (hpl:(backTo pos (starEach es X.env)).any (·.1)=false:=by rfl):DE X (.Call (.Name "all" p) (e::es) [] pos) (dCB x9 t):=
 iR (HB hc) MA hg hm PyProof.Rows.Boot.«all» ha ⋯ ⋯ he hpl
def tyD:PyData->String
 |.none=>"NoneType"
 |.bool _=>"bool"
 |.int _=>"int"
 |.str _=>"str"
 |.list _=>"list"
 |.tuple _=>"tuple"
 |.dict _=>"dict"
def isT(T:String)(d:PyData):Bool:=tyD d==T || (T == "int"&&tyD d == "bool")
theorem G7{pins:List (Addr×Obj)}{σ:St}{H:Hp}{s:Shared}{Z:Mu}{d:PyData}{u:V}{v:Value}{k:Bool}{A:Around}{E:Value->Shared->Prop}{Q:Value->Shared->Prop}(I:Inv X pins σ H s)(r:Rp X.K Z H d u)(rx:RelV u v)
  (ek:kitOne X.K (.type (tyD d)) (.type T)=some k) (h:∀tk,Q (.bool k) {s with toks:=tk}):wpAny (model X.prog X.w) A (call (.builtin "isinstance") [v,.type T]) Q E s:=by
 cases r with
 |none=>cases rx;exact kia_one PySem.W.kitx_none I.kIn True.intro ek (fun z=>nomatch z) h
 |bool b=>cases rx;exact kia_one PySem.W.kitx_bool I.kIn True.intro ek (fun z=>nomatch z) h
 |int i=>obtain⟨t,rfl⟩:=rx;exact kia_one PySem.W.kitx_int I.kIn True.intro ek (fun z=>nomatch z) h
 |str y=>obtain⟨t,rfl⟩:=rx;exact kia_one PySem.W.kitx_str I.kIn True.intro ek (fun z=>nomatch z) h
 |list hs hn q=>
  cases rx
  obtain⟨its,rv,⟨o,n,h1,h2,_⟩,_⟩:=I.list (SqL.of hs)
  exact kia_one PySem.W.kitx_list I.kIn ⟨o,h1,h2⟩ ek (fun z=>nomatch z) h
 |tuple hs q=>
  cases rx
  obtain⟨its,rv,⟨o,h1,h2,_⟩,_⟩:=I.tuple hs
  exact kia_one PySem.W.kitx_tuple I.kIn ⟨o,h1,h2⟩ ek (fun z=>nomatch z) h
theorem E7(K:PySem.W.Frag)(d:PyData):kitOne K (.type (tyD d)) (.type "int")=some (isT "int" d):=by cases d<;>rfl
theorem BP(K:PySem.W.Frag)(d:PyData):kitOne K (.type (tyD d)) (.type "bool")=some (isT "bool" d):=by cases d<;>rfl
theorem kit_tuple(K:PySem.W.Frag)(d:PyData):kitOne K (.type (tyD d)) (.type "tuple")=some (isT "tuple" d):=by cases d<;>rfl
theorem IY(K:PySem.W.Frag)(d:PyData):kitOne K (.type (tyD d)) (.type "list")=some (isT "list" d):=by cases d<;>rfl
theorem sJ(kt:∀d,kitOne X.K (.type (tyD d)) (.type T)=some (isT T d)):jk X (.builtin "isinstance") (fun xs H Q=>∃Z d u,xs=[u,.ty T]/\Rp X.K Z H d u/\Q (.bl (isT T d)) H):=by
 intro pins s σ H xs us Q I r h
 obtain⟨Z,d,u,rfl,rd,q⟩:=h
 obtain⟨v,w',rfl,r1,r2⟩:=vals2 r
 cases r2
 exact G7 I rd r1 (kt d) fun tk=>⟨.bl (isT T d),H,I.tok _,rfl,q⟩
noncomputable def CI(T:String)(te:DTE):DTE:=fun ρ Z Q=>te ρ Z fun x ad=>match x with
 |.v d=>Q (.v (.bool (isT T d))) ad
 |_=>False
theorem mD{y:Str}{py:Pos}(kt:∀d,kitOne X.K (.type (tyD d)) (.type T)=some (isT T d))(hg:Gl X "isinstance")(hm:X.mg "isinstance"=none)(hgy:Gl X y)(hmy:X.mg y=none)(hvy:bootBuiltins y=some (.type T))(ha:DE X e te)
  (hny:y ≠ "__name__":=by decide) (hdy:(y==("__debug__":Str))=false:=by decide)
  (he:starEach [e,.Name y py] X.env=(false,eval e X.env)::starEach [.Name y py] X.env:=by rfl) (he2:starEach [.Name y py] X.env=[(false,eval (.Name y py) X.env)]:=by rfl) (hpl:(backTo pos (starEach [.Name y py] X.env)).any (·.1)=false:=by rfl):DE X (.Call (.Name "isinstance" p) [e,.Name y py] [] pos) (CI T te):=by
 obtain⟨t1,p1,l1⟩:=ha
 refine⟨_,uM (sJ kt) hg hm PyProof.Rows.Boot.«isinstance» (hW p1 (hW (Fb (v:=.ty T) hgy hmy hvy rfl hny hdy) sj he2) he) ⋯ ⋯ he hpl,fun σ H ρ Z Qd Q S h k=>?_⟩
 refine l1 σ H ρ Z _ _ S h fun x ux ad H1 e1 S1 rx h1=>?_
 split at h1
 ·exact⟨ad,_,ux,rfl,rx,k (.v _) _ ad H1 e1 S1 (Rp.bool _) h1⟩
 ·exact h1.elim
end
section
variable {X:Cx}{a b e:Expr}{es:List Expr}{ta tb te:DTE}{t:DTA}{p pos:Pos}{st:Stmt}{rest sts:List Stmt}{td ud:DTS}{tc:DTT}
noncomputable def bL:DTS:=fun Dd ρ Z=>Dd.nx ρ Z
noncomputable def aO(t u:DTS):DTS:=fun Dd ρ Z=>t {Dd with nx:=u Dd} ρ Z
noncomputable def bp(te:DTE):DTS:=fun Dd ρ Z=>te ρ Z Dd.rt
noncomputable def lK(te:DTE):DTS:=fun Dd ρ Z=>te ρ Z fun _ ad=>Dd.nx ρ ad
noncomputable def cV(c:DTT)(t u:DTS):DTS:=fun Dd ρ Z=>c ρ Z fun b ad=>if b=true then t Dd ρ ad else u Dd ρ ad
theorem ba:DSs X [] bL:=⟨_,LP,fun σ H ρ Z Dd De S h k1 k2 k3 k4=>k1 σ ρ Z H .refl S h⟩
theorem au(h:DS X st td):DSs X [st] td:=let ⟨t,p,l⟩:=h;⟨t,Lm p,l⟩
theorem lift_seq{K:PySem.W.Frag}{t u:TS}(l1:yh K t td)(l2:yh K u ud):yh K (Py t u) (aO td ud):=by
 intro σ H ρ Z Dd De S h k1 k2 k3 k4
 refine l1 σ H ρ Z _ _ S h (fun bn bm U H' e' S' h'=>?_) k2 k3 k4
 exact l2 bn H' bm U Dd De S' h' (fun a b c d e2=>k1 a b c d (e'.trans e2)) (fun a b c d e2=>k2 a b c d (e'.trans e2)) (fun a b c d e2=>k3 a b c d (e'.trans e2)) (fun a b c d e2=>k4 a b c d (e'.trans e2))
theorem ak(h1:DS X st td)(h2:DSs X rest ud):DSs X (st::rest) (aO td ud):=by
 obtain⟨t1,p1,l1⟩:=h1
 obtain⟨t2,p2,l2⟩:=h2
 exact⟨_,ID p1 p2,lift_seq l1 l2⟩
theorem aI(he:DE X e te):DS X (.Return (some e) pos) (bp te):=by
 obtain⟨t1,p1,l1⟩:=he
 exact⟨_,MJ p1,fun σ H ρ Z Dd De S h k1 k2 k3 k4=>l1 σ H ρ Z _ _ S h fun d u U H' e' S' r q=>k2 d u U H' e' S'.mu r q⟩
theorem gv(he:DE X e te)(hs:swapsWith e none pos.line X.env=pure false:=by rfl):DS X (.Expr e pos) (lK te):=by
 obtain⟨t1,p1,l1⟩:=he
 exact⟨_,KG p1 hs,fun σ H ρ Z Dd De S h k1 k2 k3 k4=>l1 σ H ρ Z _ _ S h fun d u U H' e' S' r q=>k1 σ ρ U H' e' S' q⟩
theorem bO{c:Expr}{x y:List Stmt}(hc:DT X c tc)(ha:DSs X x td)(hb:DSs X y ud):DS X (.If c x y pos) (cV tc td ud):=by
 obtain⟨t0,p0,l0⟩:=hc
 obtain⟨t1,p1,l1⟩:=ha
 obtain⟨t2,p2,l2⟩:=hb
 refine⟨_,OA p0 p1 p2,fun σ H ρ Z Dd De S h k1 k2 k3 k4=>?_⟩
 refine l0 σ H ρ Z _ _ S h fun c ad H1 e1 S1 h1=>?_
 cases c with
 |true=>exact ve (l1 σ H1 ρ ad Dd De S1 (by simpa using h1) (fun a b c d e2=>k1 a b c d (e1.trans e2)) (fun a b c d e2=>k2 a b c d (e1.trans e2)) (fun a b c d e2=>k3 a b c d (e1.trans e2)) (fun a b c d e2=>k4 a b c d (e1.trans e2)))
 |false=>exact vj (l2 σ H1 ρ ad Dd De S1 (by simpa using h1) (fun a b c d e2=>k1 a b c d (e1.trans e2)) (fun a b c d e2=>k2 a b c d (e1.trans e2)) (fun a b c d e2=>k3 a b c d (e1.trans e2)) (fun a b c d e2=>k4 a b c d (e1.trans e2)))
abbrev DTG:=D->Rho->Mu->(Rho->Mu->Prop)->Prop
abbrev wW:=List PyData->Rho->Mu->(Rho->Mu->Prop)->Prop
noncomputable def Jq(K:PySem.W.Frag)(g:TG)(gd:DTG):Prop:=∀(σ:St) (H:Hp) (ρ:Rho) (Z:Mu) (d:D) (u:V) (Qd:Rho->Mu->Prop) (Q:St->Hp->Prop),St0 K H ρ Z σ->RpD K Z H d u->gd d ρ Z Qd ->
 (∀bn bm U H',Ext K Z H U H'->St0 K H' bm U bn->Qd bm U->Q bn H')->g u σ H Q
noncomputable def NR(K:PySem.W.Frag)(g:TGs)(gd:wW):Prop:=∀(σ:St) (H:Hp) (ρ:Rho) (Z:Mu) (ds:List PyData) (us:List V) (Qd:Rho->Mu->Prop) (Q:St->Hp->Prop),St0 K H ρ Z σ->RpL K Z H ds us->gd ds ρ Z Qd ->
 (∀bn bm U H',Ext K Z H U H'->St0 K H' bm U bn->Qd bm U->Q bn H')->g us σ H Q
noncomputable def DG(X:Cx)(tg:Expr)(gd:DTG):Prop:=∃g,PG X tg g/\Jq X.K g gd
noncomputable def DGs(X:Cx)(tg:List Expr)(gd:wW):Prop:=∃g,PGs X tg g/\NR X.K g gd
theorem fG.set{K:PySem.W.Frag}{Z:Mu}{H:Hp}{ρ:Rho}{σ:St}{i:Nat}{d:D}{u:V}(r:fG K Z H ρ σ)(h:RpD K Z H d u):fG K Z H (ρ.set i (some d)) (σ.set i (some u)):=by
 refine⟨by rw[List.length_set,List.length_set];exact r.1,fun j d' e=>?_⟩
 by_cases hj:i=j
 ·subst hj
  have hl:i<ρ.length:=by
   have:=(List.getElem?_eq_some_iff.mp e).1
   rw[List.length_set] at this
   exact this
  rw[List.getElem?_set_self hl] at e
  cases e
  exact⟨u,List.getElem?_set_self (by rw[<- r.1];exact hl),h⟩
 ·rw[List.getElem?_set_ne hj] at e
  obtain⟨w,e1,e2⟩:=r.2 j d' e
  exact⟨w,by rw[List.getElem?_set_ne hj];exact e1,e2⟩
noncomputable def aq(i:Nat):DTG:=fun d ρ Z Q=>Q (ρ.set i (some d)) Z
theorem wo{K:PySem.W.Frag}{i:Nat}:Jq K (IP i) (aq i):=fun σ H ρ Z d u Qd Q S r h k=>k _ _ Z H .refl ⟨S.mu,S.rho.set r⟩ h
theorem aw{i:Nat}{x:Str}(hN:X.N.Nodup)(hi:X.N[i]? = some x)(hx:Loc X.env.scope x)(hf:X.fn x=true\/X.env.scope.names.lookup x=some .local:=by first|exact .inl rfl|exact .inr rfl|assumption):DG X (.Name x pos) (aq i):=⟨_,K2 hN hi hx hf,wo⟩
def cY:wW:=fun ds ρ Z Q=>match ds with
 |[]=>Q ρ Z
 |_=>False
def aH(g:DTG)(gs:wW):wW:=fun ds ρ Z Q=>match ds with
 |d::r=>g (.v d) ρ Z fun tt ad=>gs r tt ad Q
 |_=>False
theorem bH:DGs X [] cY:=⟨_,K0,fun σ H ρ Z ds us Qd Q S r h k=>by
 cases r with
 |nil=>exact⟨rfl,k σ ρ Z H .refl S h⟩
 |cons _ _=>exact h.elim⟩
theorem ax{g:DTG}{gs:wW}(h1:DG X e g)(h2:DGs X es gs)(hs:(assignEach (e::es) X.env).map (·.2)=assign e X.env::(assignEach es X.env).map (·.2):=by rfl):DGs X (e::es) (aH g gs):=by
 obtain⟨t1,p1,l1⟩:=h1
 obtain⟨t2,p2,l2⟩:=h2
 refine⟨_,J6 p1 p2 hs,fun σ H ρ Z ds us Qd Q S r h k=>?_⟩
 cases r with
 |nil=>exact h.elim
 |@cons d u ds us r1 r2=>
  refine⟨u,us,rfl,l1 σ H ρ Z (.v d) u _ _ S r1 h fun bn bm U H' e1 S' h1=>?_⟩
  exact l2 bn H' bm U ds us _ _ S' (r2.ext S.mu e1) h1 fun a b c d e2=>k a b c d (e1.trans e2)
noncomputable def cM(n:Nat)(gs:wW):DTG:=fun d ρ Z Q=>match d with
 |.v (.tuple xs)=>xs.length=n/\gs xs ρ Z Q
 |_=>False
theorem bZ{k n:Nat}{gs:wW}(hc:X.calm=X.calm)(h:DGs X es gs)
  (hn:(assignEach es X.env).length=n:=by rfl) (hst:(assignEach es X.env).findIdx? (·.1)=none:=by rfl):DG X (.Tuple es k pos) (cM n gs):=by
 obtain⟨t1,p1,l1⟩:=h
 refine⟨_,MO hc p1 hn hst,fun σ H ρ Z d u Qd Q S r h k=>?_⟩
 unfold cM at h
 split at h
 ·cases r with
  |@tuple a us _ ha ra=>exact⟨a,us,rfl,ha,by rw[<- ra.length];exact h.1,l1 σ H ρ Z _ us _ _ S ra h.2 k⟩
 ·exact h.elim
noncomputable def Fh(to ti:DTE):DTG:=fun d ρ Z Q=>to ρ Z fun o ad=>ti ρ ad fun i am=>match o,i,d with
 |.m l,.v (.int k),.v x=>(match am l with
  |some xs=>(match ixN xs.length k with
   |some j=>Q ρ (aA am l (xs.set j x))
   |none=>False)
  |none=>False)
 |_,_,_=>False
theorem JC{o i:Expr}{to ti:DTE}(ho:DE X o to)(hi:DE X i ti)
  (ha:∀v,assign (.Subscript o i pos) X.env v=(do
   let ov <- holding [v] (eval o X.env)
   let iv <- holding [v,ov] (eval i X.env)
   standAt pos
   holding [v,ov,iv] (setItem ov iv v)
   release [v,ov,iv] []):=by intro _;rfl):DG X (.Subscript o i pos) (Fh to ti):=by
 obtain⟨t1,p1,l1⟩:=ho
 obtain⟨t2,p2,l2⟩:=hi
 refine⟨_,NI p1 p2 set_list ha,fun σ H ρ Z d u Qd Q S r h k=>?_⟩
 refine l1 σ H ρ Z _ _ S h fun x ux ad H1 e1 S1 rx h1=>?_
 refine l2 σ H1 ρ ad _ _ S1 h1 fun y uy am H2 e2 S2 ry h2=>?_
 have r2:=(r.ext S.mu e1).ext S1.mu e2
 have rx2:=rx.ext S1.mu e2
 split at h2
 ·rename_i l kk xv
  obtain⟨rfl,ds,hm⟩:=rx2
  cases ry
  rw[hm] at h2
  obtain⟨us,hl,rl⟩:=S2.mu l ds hm
  simp only at h2
  cases q:ixN ds.length kk with
  |none=>rw[q] at h2;exact h2.elim
  |some j=>
   rw[q] at h2
   refine⟨l,us,kk,j,rfl,rfl,hl,by rw[<- rl.length];exact q,?_⟩
   have ex:Ext X.K am H2 (aA am l (ds.set j xv)) (upd H2 l (.lst (us.set j u))):=eS hm
   exact k σ ρ _ _ (e1.trans (e2.trans ex)) ⟨S2.mu.set hm (rl.set r2 j),S2.rho.ext S2.mu ex⟩ h2
 ·exact h2.elim
noncomputable def bc(te:DTE)(g:DTG):DTS:=fun Dd ρ Z=>te ρ Z fun d ad=>g d ρ ad Dd.nx
theorem BA{K:PySem.W.Frag}{t:TE}{g:TG}{gd:DTG}(l1:pP K t te)(l2:Jq K g gd):yh K (Nr t g) (bc te gd):=by
 intro σ H ρ Z Dd De S h k1 k2 k3 k4
 refine l1 σ H ρ Z _ _ S h fun d u ad H1 e1 S1 r h1=>?_
 exact l2 σ H1 ρ ad d u _ _ S1 r h1 fun a b c d e2=>k1 a b c d (e1.trans e2)
theorem fq{tg:Expr}{g:DTG}(he:DE X e te)(hg:DG X tg g)(hs:swapsWithSole [tg] e pos.line X.env=pure false:=by rfl)(hw:swappedStores [tg] e X.env=pure none:=by rfl)
  (h1:(assignEach [tg] X.env).map (·.2)=[assign tg X.env]:=by rfl):DS X (.Assign [tg] e pos) (bc te g):=by
 obtain⟨t1,p1,l1⟩:=he
 obtain⟨t2,p2,l2⟩:=hg
 exact⟨_,Mz p1 p2 hs hw h1,BA l1 l2⟩
theorem aU{i:Nat}{x:Str}{pos':Pos}(hN:X.N.Nodup)(hi:X.N[i]? = some x)(hx:Loc X.env.scope x)(he:DE X e te)(hs:swapsWith e (some (.Name x pos')) pos.line X.env=pure false:=by rfl)(hf:X.fn x=true\/X.env.scope.names.lookup x=some .local:=by first|exact .inl rfl|exact .inr rfl|assumption) :
  DS X (.Assign [.Name x pos'] e pos) (bc te (aq i)):=by
 obtain⟨t1,p1,l1⟩:=he
 exact⟨_,MD hN hi hx p1 hs hf,BA l1 wo⟩
noncomputable def wR(i j:Nat)(t:DTA):DTS:=fun Dd ρ Z=>t ρ Z fun ds ad=>match ds with
 |[v,w]=>Dd.nx ((ρ.set i (some v)).set j (some w)) ad
 |_=>False
theorem mH{i j:Nat}{x y:Str}{a b:Expr}{t:DTA}{px py pt:Pos}{kt k2 pt2}(hc:X.calm=true)(hN:X.N.Nodup)(hi:X.N[i]? = some x)(hj:X.N[j]? = some y)(hij:i≠j)
  (hx:X.env.scope.names.lookup x=some .local) (hy:X.env.scope.names.lookup y=some .local) (ha:DA X [a,b] t)
  (hw:swappedStores [.Tuple [.Name x px,.Name y py] kt pt] (.Tuple [a,b] k2 pt2) X.env=pure (some [x,y]))
  (hs:swapsWithSole [.Tuple [.Name x px,.Name y py] kt pt] (.Tuple [a,b] k2 pt2) pos.line X.env=pure false:=by rfl) :
  DS X (.Assign [.Tuple [.Name x px,.Name y py] kt pt] (.Tuple [a,b] k2 pt2) pos) (wR i j t):=by
 obtain⟨t1,p1,l1⟩:=ha
 refine⟨_,Od hc hN hi hj hij hx hy p1 hw hs,fun σ H ρ Z Dd De S h k1 k2 k3 k4=>?_⟩
 refine l1 σ H ρ Z _ _ S h fun ds us ad H1 e1 S1 rs len h1=>?_
 split at h1
 ·cases rs with
  |cons r1 r2=>
   cases r2 with
   |cons r2 r3=>
    cases r3
    exact⟨_,_,rfl,k1 _ _ ad H1 e1 ⟨S1.mu,(S1.rho.set r1).set r2⟩ h1⟩
 ·exact h1.elim
noncomputable def se(c:DTT)(tb:DTS):DTS:=fun Dd ρ Z=>∃W:Nat->Rho->Mu->Prop,(∃m,W m ρ Z)/\∀m ρ Z,W m ρ Z ->
 c ρ Z fun b ad=>if b=true then tb {Dd with nx:=fun bm U=>∃m',m'<m/\W m' bm U,ct:=fun bm U=>∃m',m'<m/\W m' bm U,bk:=Dd.nx} ρ ad else Dd.nx ρ ad
theorem ql{c:Expr}{body:List Stmt}(hp:PassesOwn (model X.prog X.w) X.A X.env X.xe)(hc:DT X c tc)(hb:DSs X body td):DS X (.While c body [] pos) (se tc td):=by
 obtain⟨t0,p0,l0⟩:=hc
 obtain⟨t1,p1,l1⟩:=hb
 refine⟨_,HU hp p0 p1,fun σ H ρ Z Dd De S h k1 k2 k3 k4=>?_⟩
 obtain⟨W,⟨m,w0⟩,turn⟩:=h
 refine⟨fun m bn H'=>∃bm U,Ext X.K Z H U H'/\St0 X.K H' bm U bn/\W m bm U,⟨m,ρ,Z,.refl,S,w0⟩,?_⟩
 rintro m sK H1 ⟨tt,ad,e1,S1,w1⟩
 refine l0 sK H1 tt ad _ _ S1 (turn m tt ad w1) fun b am H2 e2 S2 h2=>?_
 cases b with
 |true=>
  refine ve ⟨fun bn H'=>∃m',m'<m/\∃bm U,Ext X.K Z H U H'/\St0 X.K H' bm U bn/\W m' bm U,fun bn H' ⟨m',hm,q⟩=>⟨m',hm,q⟩,?_⟩
  have nxt:∀bn bm U H',Ext X.K am H2 U H'->St0 X.K H' bm U bn->(∃m',m'<m/\W m' bm U)->∃m',m'<m/\∃bm U,Ext X.K Z H U H'/\St0 X.K H' bm U bn/\W m' bm U:=
   fun bn bm U H' e3 S3 ⟨m',hm,q⟩=>⟨m',hm,bm,U,e1.trans (e2.trans e3),S3,q⟩
  rw[if_pos rfl] at h2
  exact l1 sK H2 tt am _ _ S2 h2 nxt (fun a b c d e3=>k2 a b c d (e1.trans (e2.trans e3))) (fun a b c d e3=>k1 a b c d (e1.trans (e2.trans e3))) nxt
 |false=>exact vj (k1 sK tt am H2 (e1.trans e2) S2 (by simpa using h2))
abbrev DTI:=Rho->Mu->(List PyData->Mu->Prop)->Prop
noncomputable def DY(K:PySem.W.Frag)(J:It)(xs:List PyData)(ad:Mu)(H1:Hp):Prop:=∀am H2,Ext K ad H1 am H2->bD K am H2->∀i,(i<xs.length->J.go i H2/\∀x H',J.yld i H2 x H'->∃d,xs[i]? = some d/\uA H2 H'/\Rp K am H' d x)/\(i=xs.length->J.stop i H2)
noncomputable def OQ(K:PySem.W.Frag)(wi:TI)(src:DTI):Prop:=∀(σ:St) (H:Hp) (ρ:Rho) (Z:Mu) (Qd:List PyData->Mu->Prop) (R:It->Hp->Prop),St0 K H ρ Z σ->src ρ Z Qd ->
 (∀xs ad H1 J,Ext K Z H ad H1->St0 K H1 ρ ad σ->DY K J xs ad H1->Qd xs ad->R J H1)->wi σ H R
noncomputable def DI(X:Cx)(tg iter:Expr)(src:DTI):Prop:=∃wi,PI X tg iter wi/\OQ X.K wi src
variable {tg:Expr}
noncomputable def gW(te:DTE):DTI:=fun ρ Z Q=>te ρ Z fun d ad=>match d with
 |.v (.list xs)=>Q xs ad
 |_=>False
noncomputable def qX(te:DTE):DTI:=fun ρ Z Q=>te ρ Z fun d ad=>match d with
 |.v (.tuple xs)=>Q xs ad
 |_=>False
theorem gb(h:DE X e te):DI X tg e (gW te):=by
 obtain⟨t1,p1,l1⟩:=h
 refine⟨_,Gp p1,fun σ H ρ Z Qd R S h k=>?_⟩
 refine l1 σ H ρ Z _ _ S h fun d u ad H1 e1 S1 r h1=>?_
 split at h1
 ·rename_i xs
  cases r with
  |@list a us _ ha hn ra=>
   refine⟨a,rfl,⟨us,SqL.of ha⟩,k xs ad H1 _ e1 S1 (fun am H2 e2 ok2 i=>⟨fun hi=>?_,fun hi=>?_⟩) h1⟩
   ·have ha2:=e2.keep _ _ ha hn trivial
    have hiu:i<us.length:=by rw[<- ra.length];exact hi
    refine⟨⟨us,us[i],SqL.of ha2,by simp[hiu]⟩,fun x H' hq0=>?_⟩
    obtain⟨eH,hx⟩:=hq0
    subst eH
    obtain⟨u',h1',h2'⟩:=ra.get (i:=i) (d:=xs[i]) (by simp[hi])
    have:=hx us (SqL.of ha2)
    rw[h1'] at this
    cases this
    exact⟨xs[i],by simp[hi],uA.refl _,h2'.ext S1.mu e2⟩
   ·exact⟨us,SqL.of (e2.keep _ _ ha hn trivial),by rw[<- ra.length];omega⟩
 ·exact h1.elim
theorem A7(h:DE X e te):DI X tg e (qX te):=by
 obtain⟨t1,p1,l1⟩:=h
 refine⟨_,MR p1,fun σ H ρ Z Qd R S h k=>?_⟩
 refine l1 σ H ρ Z _ _ S h fun d u ad H1 e1 S1 r h1=>?_
 split at h1
 ·rename_i xs
  cases r with
  |@tuple a us _ ha ra=>
   refine⟨a,rfl,⟨us,ha⟩,k xs ad H1 _ e1 S1 (fun am H2 e2 ok2 i=>⟨fun hi=>?_,fun hi=>?_⟩) h1⟩
   ·have ha2:=iw S1.mu e2 ha
    have hiu:i<us.length:=by rw[<- ra.length];exact hi
    refine⟨⟨us,us[i],ha2,by simp[hiu]⟩,fun x H' hq0=>?_⟩
    obtain⟨eH,hx⟩:=hq0
    subst eH
    obtain⟨u',h1',h2'⟩:=ra.get (i:=i) (d:=xs[i]) (by simp[hi])
    have:=hx us ha2
    rw[h1'] at this
    cases this
    exact⟨xs[i],by simp[hi],uA.refl _,h2'.ext S1.mu e2⟩
   ·exact⟨us,iw S1.mu e2 ha,by rw[<- ra.length];omega⟩
 ·exact h1.elim
def mX(lo:Int)(n:Nat):List PyData:=(List.range n).map fun (i:Nat)=>PyData.int (lo+(i:Int))
theorem Ii{K:PySem.W.Frag}{lo:Int}{n:Nat}{Z:Mu}{H:Hp}:DY K (Itr lo n) (mX lo n) Z H:=fun am H2 e2 ok2 i=>by
 have hl:(mX lo n).length=n:=by unfold mX;simp
 refine⟨fun hi=>?_,fun hi=>?_⟩
 ·rw[hl] at hi
  refine⟨hi,fun x H' hq0=>?_⟩
  obtain⟨eH,hx⟩:=hq0
  subst eH hx
  exact⟨.int (lo+i),by unfold mX;simp[hi],uA.refl _,.int _⟩
 ·show n<=i
  omega
noncomputable def nB(t:DTA):DTI:=fun ρ Z Q=>t ρ Z fun ds ad=>match ds with
 |[.v (.int j)]=>(-(2 ^ 62)<=j/\j<2 ^ 62)/\Q (mX 0 j.toNat) ad
 |_=>False
noncomputable def vY(t:DTA):DTI:=fun ρ Z Q=>t ρ Z fun ds ad=>match ds with
 |[.v (.int i),.v (.int j)]=>(-(2 ^ 62)<=i/\i<2 ^ 62/\-(2 ^ 62)<=j/\j<2 ^ 62)/\Q (mX i (j-i).toNat) ad
 |_=>False
theorem nQ{a:Expr}{t:DTA}{p pos:Pos}(hg:Gl X "range")(hm:X.mg "range"=none)(ha:DA X [a] t)(hs:starEach [a] X.env=[(false,eval a X.env)]:=by rfl)(hc:X.calm=true:=by rfl):DI X tg (.Call (.Name "range" p) [a] [] pos) (nB t):=by
 obtain⟨t1,p1,l1⟩:=ha
 refine⟨_,G4 hc hg hm p1 hs,fun σ H ρ Z Qd R S h k=>?_⟩
 refine l1 σ H ρ Z _ _ S h fun ds us ad H1 e1 S1 rs len h1=>?_
 split at h1
 ·rename_i j
  cases rs with
  |cons r1 r2=>cases r2;cases r1;exact⟨j,rfl,h1.1.1,h1.1.2,k _ ad H1 _ e1 S1 Ii h1.2⟩
 ·exact h1.elim
theorem zM{a b:Expr}{t:DTA}{p pos:Pos}(hg:Gl X "range")(hm:X.mg "range"=none)(ha:DA X [a,b] t)(hs:starEach [a,b] X.env=[(false,eval a X.env),(false,eval b X.env)]:=by rfl)(hs2:starEach [b] X.env=[(false,eval b X.env)]:=by rfl)(hc:X.calm=true:=by rfl):DI X tg (.Call (.Name "range" p) [a,b] [] pos) (vY t):=by
 obtain⟨t1,p1,l1⟩:=ha
 refine⟨_,HC hc hg hm p1 hs hs2,fun σ H ρ Z Qd R S h k=>?_⟩
 refine l1 σ H ρ Z _ _ S h fun ds us ad H1 e1 S1 rs len h1=>?_
 split at h1
 ·rename_i i j
  cases rs with
  |cons r1 r2=>
   cases r2 with
   |cons r2 r3=>cases r3;cases r1;cases r2;exact⟨i,j,rfl,h1.1,k _ ad H1 _ e1 S1 Ii h1.2⟩
 ·exact h1.elim
noncomputable def qr(src:DTI)(g:DTG)(tb:DTS):DTS:=fun Dd ρ Z=>src ρ Z fun xs ad=>∃Pv:Nat->Rho->Mu->Prop,Pv 0 ρ ad /\
 (∀i x bm U,xs[i]? = some x->Pv i bm U->g (.v x) bm U fun ce am=>tb {Dd with nx:=Pv (i+1),ct:=Pv (i+1),bk:=Dd.nx} ce am)/\(∀bm U,Pv xs.length bm U->Dd.nx bm U)
theorem gR{iter:Expr}{body:List Stmt}{src:DTI}{g:DTG}(hp:PassesOwn (model X.prog X.w) X.A X.env X.xe)(hc:X.calm=true)(hi:DI X tg iter src)(hg:DG X tg g)(hb:DSs X body td)
  (hs:∀x,foldedSetIterable iter X.env x=pure x:=by intro _;rfl):DS X (.For tg iter body [] pos) (qr src g td):=by
 obtain⟨t0,p0,l0⟩:=hi
 obtain⟨t1,p1,l1⟩:=hg
 obtain⟨t2,p2,l2⟩:=hb
 refine⟨_,M7 hp hc p0 p1 p2 hs,fun σ H ρ Z Dd De S h k1 k2 k3 k4=>?_⟩
 refine l0 σ H ρ Z _ _ S h fun xs ad H1 J e1 S1 it h1=>?_
 obtain⟨Pv,pv0,turn,fin⟩:=h1
 refine⟨fun i m bn H'=>m=xs.length-i/\i<=xs.length/\∃bm U,Ext X.K ad H1 U H'/\St0 X.K H' bm U bn/\Pv i bm U,⟨xs.length,by simp,zero_le _,ρ,ad,.refl,S1,pv0⟩,?_⟩
 rintro i m bn H' ⟨rfl,hi,bm,U,e2,S2,pv⟩
 obtain⟨go,stop⟩:=it U H' e2 S2.mu i
 by_cases hlt:i<xs.length
 ·obtain⟨g1,y1⟩:=go hlt
  refine .inr ⟨g1,fun u8 H2=>∃ce am,Ext X.K ad H1 am H2/\St0 X.K H2 ce am u8/\Pv (i+1) ce am,fun u8 H2 q=>⟨xs.length-(i+1),∅,rfl,hlt,q⟩,fun x H2 yl=>?_⟩
  obtain⟨d,hd,sm,rd⟩:=y1 x H2 yl
  have e3:Ext X.K U H' U H2:=.of_same sm
  have S3:St0 X.K H2 bm U bn:=⟨S2.mu.BM e3 sm,S2.rho.ext S2.mu e3⟩
  refine l1 bn H2 bm U (.v d) x _ _ S3 rd (turn i d bm U hd pv) fun ww wE ci H4 e4 S4 h4=>?_
  have nxt:∀a b c dd,Ext X.K ci H4 c dd->St0 X.K dd b c a->Pv (i+1) b c->∃ce am,Ext X.K ad H1 am dd/\St0 X.K dd ce am a/\Pv (i+1) ce am:=fun a b c dd e5 S5 q=>⟨b,c,e2.trans (e3.trans (e4.trans e5)),S5,q⟩
  have ee:=e1.trans (e2.trans (e3.trans e4))
  exact l2 ww H4 wE ci _ _ S4 h4 nxt (fun a b c d e5=>k2 a b c d (ee.trans e5)) (fun a b c d e5=>k1 a b c d (ee.trans e5)) nxt
 ·have ei:i=xs.length:=by omega
  subst ei
  exact .inl ⟨stop rfl,k1 bn bm U H' (e1.trans e2) S2 (fin bm U pv)⟩
end
abbrev DSp:=List D->Mu->DK->Prop
noncomputable def spD(K:PySem.W.Frag)(dsp:DSp):Sp:=fun vs H Q _=>∃(ds:List D) (Z:Mu) (Qd:DK),bD K Z H/\i6 K Z H ds vs/\dsp ds Z Qd /\
 (∀d u U H',Ext K Z H U H'->bD K U H'->RpD K U H' d u->Qd d U->Q u H')
def aP(N:List Str)(ds:List D):Rho:=ds.map some++List.replicate (N.length-ds.length) none
theorem i6.get{K:PySem.W.Frag}{Z:Mu}{H:Hp}{ds:List D}{us:List V}:∀{i:Nat} {d:D},i6 K Z H ds us->ds[i]? = some d->∃u,us[i]? = some u/\RpD K Z H d u
 |_,_,.nil,h=>by simp at h
 |0,_,.cons r _,h=>by simp at h;subst h;exact⟨_,rfl,r⟩
 |i+1,d,.cons _ t,h=>by
  obtain⟨u,h1,h2⟩:=i6.get (i:=i) (d:=d) t (by simpa using h)
  exact⟨u,by simpa using h1,h2⟩
theorem G0{K:PySem.W.Frag}{Z:Mu}{H:Hp}{N:List Str}{ds:List D}{vs:List V}(r:i6 K Z H ds vs):fG K Z H (aP N ds) (start N vs):=by
 have hl:=r.length
 refine⟨by unfold aP start;simp[hl],fun i d e=>?_⟩
 unfold aP at e
 by_cases hi:i<ds.length
 ·rw[getElem?_append_left (by simpa using hi),getElem?_map] at e
  unfold start
  rw[getElem?_append_left (by simpa [hl] using hi),getElem?_map]
  cases q:ds[i]? with
  |none=>rw[q] at e;cases e
  |some d'=>
   rw[q] at e
   cases e
   obtain⟨u,h1,h2⟩:=r.get q
   exact⟨u,by rw[h1];rfl,h2⟩
 ·rw[getElem?_append_right (by simpa using hi),List.getElem?_replicate] at e
  split at e<;>cases e
section
variable {P:Program}{w:World}{K:PySem.W.Frag}{mg:Str->Option Value}{base:Heap}
theorem _root_.L2.Fun.okD{x qual:Str}{st:Stmt}{f:Addr}{fd:FuncData}{N ps:List Str}{k:Nat}{dsp:DSp}(F:Fun K x qual st f fd)(S:aM N ps (aB st))(len:∀ds Z Q,dsp ds Z Q->ds.length=ps.length)
  (hbody:∀(cdv:Value) (A:Around) (outer:List Env) (s:Shared) (H:Hp) (E:XK),ku k (A.deeper (envOfC qual (aB st) s.heap.objs.size f cdv)) ->
   ∃td,DSs (DO CX0 P w K mg base N qual (aB st) f cdv A outer s H E).nox (g0 st) td/\∀ds Z Qd,dsp ds Z Qd->td ‹Qd› (aP N ds) Z):bC P w K mg base CX0 (k+1) f fd ps (spD K dsp):=by
 refine F.ok S (fun vs H Q E h=>?_) (fun cdv A outer s H vs Q E hr h=>?_)
 ·obtain⟨ds,Z,Qd,_,r,h,_⟩:=h
  rw[<- r.length]
  exact len ds Z Qd h
 ·obtain⟨ds,Z,Qd,ok,r,h,fin⟩:=h
  obtain⟨td,⟨t,p,l⟩,rd⟩:=hbody cdv A outer s H E hr
  refine⟨t,p,?_⟩
  exact l (start N vs) H (aP N ds) Z _ _ ⟨ok,G0 r⟩ (rd ds Z Qd h) (fun bn bm U H' e' S' q=>fin (.v .none) .non U H' e' S'.mu Rp.none q) (fun d u U H' e' ok' r' q=>fin d u U H' e' ok' r' q) (fun _ _ _ _ _ _ q=>q) (fun _ _ _ _ _ _ q=>q)
end
section
variable {X:Cx}{e:Expr}{es:List Expr}{t:DTA}{p pos:Pos}{x:Str}{k:Nat}{f:Addr}{fd:FuncData}{ps:List Str}{dsp:DSp}
noncomputable def ay(dsp:DSp)(t:DTA):DTE:=fun ρ Z Q=>t ρ Z fun ds ad=>dsp ds ad Q
theorem ao(F:bC X.prog X.w X.K X.mg X.base CX0 k f fd ps (spD X.K dsp))(hr:ku k X.A)(hg:Gl X x)(hm:X.mg x=some (.ref f))(hk:keepIn X.K (.ref f)=true)(hb:Binds X.K fd ps [])
  (ha:DA X (e::es) t) (hdb:(x==("__debug__":Str))=false:=by decide) (he:starEach (e::es) X.env=(false,eval e X.env)::starEach es X.env:=by rfl) (hpl:(backTo pos (starEach es X.env)).any (·.1)=false:=by rfl) :
  DE X (.Call (.Name x p) (e::es) [] pos) (ay dsp t):=by
 obtain⟨t1,p1,l1⟩:=ha
 refine⟨_,K7 F hr hg hm hk hb .nil OX p1 hdb he hpl,fun σ H ρ Z Qd Q S h kk=>?_⟩
 refine l1 σ H ρ Z _ _ S h fun ds us ad H1 e1 S1 rs len h1=>?_
 refine⟨ds,ad,Qd,S1.mu,by rw[append_nil];exact rs,h1,fun d u U H' e2 ok r q=>?_⟩
 exact kk d u U H' (e1.trans e2) ⟨ok,S1.rho.ext S1.mu e2⟩ r q
end
section
variable {X:Cx}{o e:Expr}{to te:DTE}{apos cpos:Pos}
noncomputable def CD(to te:DTE):DTE:=fun ρ Z Q=>to ρ Z fun x ad=>match x with
 |.m l=>te ρ ad fun y am=>(match y,am l with
  |.v d,some xs=>xs.length<1000/\Q (.v .none) (aA am l (xs++[d]))
  |_,_=>False)
 |_=>False
theorem iy(ho:DE X o to)(ha:DE X e te)(hbase:attributeBase o "append" X.env (eval o X.env)=eval o X.env:=by rfl)
  (hfew:((backTo cpos (starEach [e] X.env)).all (fun x=>!x.1)&&(backToKw cpos (keywordEach [] X.env)).all (fun x=>x.1.isSome)
   && decide ([e].length+([]:List Keyword).length+(if ([]:List Keyword).isEmpty then 0 else 1)<30))=true:=by rfl)
  (hline:(apos.endLine==cpos.line)=true:=by rfl) (hs:starEach [e] X.env=(false,eval e X.env)::starEach [] X.env:=by rfl) (hplain:(backTo cpos (starEach [] X.env)).any (·.1)=false:=by rfl) :
  DE X (.Call (.Attribute o "append" apos) [e] [] cpos) (CD to te):=by
 obtain⟨t1,p1,l1⟩:=ho
 obtain⟨t2,p2,l2⟩:=ha
 refine⟨_,JJ plainAttrs_list PySem.F.slot_list_append PySem.F.type_list_append j3 p1 (hW p2 sj hs) hbase hfew hline hs hplain,fun σ H ρ Z Qd Q S h k=>?_⟩
 refine l1 σ H ρ Z _ _ S h fun x ux ad H1 e1 S1 rx h1=>?_
 cases x with
 |m l=>
  obtain⟨rfl,ds,hm⟩:=id rx
  obtain⟨us,hl,rl⟩:=S1.mu l ds hm
  refine⟨.inl ⟨rfl,us,SqL.of hl⟩,?_⟩
  refine l2 σ H1 ρ ad _ _ S1 h1 fun y uy am H2 e2 S2 ry h2=>?_
  obtain⟨_,ds2,hm2⟩:=rx.ext S1.mu e2
  obtain⟨us2,hl2,rl2⟩:=S2.mu l ds2 hm2
  rw[hm2] at h2
  cases y with
  |v d=>
   have h3:ds2.length<1000/\Qd (.v .none) (aA am l (ds2++[d])):=h2
   refine⟨l,us2,uy,rfl,rfl,hl2,by rw[<- rl2.length];exact dP (Nat.le_of_lt h3.1),?_⟩
   have ex:Ext X.K am H2 (aA am l (ds2++[d])) (upd H2 l (.lst (us2++[uy]))):=eS hm2
   exact k (.v .none) .non _ _ (e1.trans (e2.trans ex)) ⟨S2.mu.set hm2 (rl2.append (.cons ry .nil)),S2.rho.ext S2.mu ex⟩ Rp.none h3.2
  |m _=>exact h2.elim
  |s _=>exact h2.elim
  |o _=>exact h2.elim
  |b _=>exact h2.elim
  |q _=>exact h2.elim
 |v d=>exact h1.elim
 |s ns=>exact h1.elim
 |o _=>exact h1.elim
 |b _=>exact h1.elim
 |q _=>exact h1.elim
noncomputable def Qp(to te:DTE):DTE:=fun ρ Z Q=>to ρ Z fun x ad=>match x with
 |.m l=>te ρ ad fun y am=>(match y,am l with
  |.v (.list ys),some xs=>xs.length+ys.length<=1000/\Q (.v .none) (aA am l (xs++ys))
  |_,_=>False)
 |_=>False
end
theorem fc{prog:Program}{w:World}{A:Around}{R:Result->Shared->Prop}{s:Shared}{elt target iter:Expr}{ifs:List Expr}{scope:Scope}{pos:Pos}{it acc:Value}{env:Env}(I:Nat->Shared->Prop)
  (turn:∀n s,I n s->wpAny (model prog w) A (pyNext it) (fun r ca=>match r with
   |none=>R (.ok .next) ca
   |some v=>wpAny (model prog w) A (letOwnedTupleGo target it v) (fun _ s'=>wpAny (model prog w) A (assign target env v) (fun _ ii=>
     wpAny (model prog w) A (forIn ifs true fun c r=>if r=true then do let ok <- isTrue c env (eval c env);pure (ForInStep.yield ok) else pure (ForInStep.yield r)) (fun ok bi=>
      if ok=true then wpAny (model prog w) A (eval elt env) (fun x pi=>
       wpAny (model prog w) A (call (.builtin "list.append") [acc,x]) (fun _ re=>∃m,m<n/\I m re) (fun _ _=>False) pi) (fun _ _=>False) bi
      else ∃m,m<n/\I m bi) (fun _ _=>False) ii) (fun _ _=>False) s') (fun _ _=>False) ca) (fun _ _=>False) s)
  (n:Nat) (h:I n s) :
  codeAny (model prog w) A (.compLoop (.ListComp elt [⟨target,iter,ifs,0⟩] scope pos) 0 it acc env) R s:=by
 refine codeAny_loop rfl I (fun n s hI=>?_) n h
 show wpAny _ A ((compTurn (.ListComp elt [⟨target,iter,ifs,0⟩] scope pos) 0 it acc env).onRaise (fun x=>do noteFrame x env;theTreesLotGoes x)) _ _ s
 refine wpAny_noted ?_
 rw[compTurn_list]
 refine wpAny_bind (wpAny_standAt (wpAny_bind (wpAny_mono (turn n s hI) (fun r ca dl=>?_) fun _ _ h'=>h'.elim)))
 cases r with
 |none=>exact wpAny_pure dl
 |some v=>
  refine wpAny_bind (wpAny_mono dl (fun _ s' h'=>?_) fun _ _ h'=>h'.elim)
  refine wpAny_bind (wpAny_mono h' (fun _ ii po=>wpAny_bind (wpAny_mono po (fun ok bi pd=>?_) fun _ _ h'=>h'.elim)) fun _ _ h'=>h'.elim)
  cases ok with
  |false=>exact wpAny_pure ⟨rfl,pd⟩
  |true=>
   exact wpAny_bind (wpAny_bind (wpAny_mono pd (fun x pi tj=>wpAny_bind (wpAny_mono tj (fun _ re tx=>wpAny_pure (wpAny_pure ⟨rfl,tx⟩)) fun _ _ h'=>h'.elim)) fun _ _ h'=>h'.elim))
section
variable {K:PySem.W.Frag}{Z U:Mu}{H:Hp}
mutual
theorem Rp.shrink{d:PyData}{u:V}(sub:∀a,U a=none->Z a=none):Rp K U H d u->Rp K Z H d u
 |.none=>.none
 |.bool b=>.bool b
 |.int i=>.int i
 |.str x=>.str x
 |.list h n r=>.list h (sub _ n) (RpL.shrink sub r)
 |.tuple h r=>.tuple h (RpL.shrink sub r)
theorem RpL.shrink{ds:List PyData}{us:List V}(sub:∀a,U a=none->Z a=none):RpL K U H ds us->RpL K Z H ds us
 |.nil=>.nil
 |.cons h r=>.cons (Rp.shrink sub h) (RpL.shrink sub r)
end
theorem gK.shrink{c:Box}{o:Obj}(sub:∀a,U a=none->Z a=none)(r:gK K U H c o):gK K Z H c o:=by
 cases c with
 |dict kvs=>
  obtain⟨h1,h2,es,ep,xs,h3,h4,h5,h6⟩:=r
  exact⟨h1,h2,es,ep,xs,h3,h4,h5,Paired.Lr h6 fun p q ⟨z1,z2,v,z3,z4⟩=>⟨z1,z2,v,Rp.shrink sub z3,z4⟩⟩
 |set ks=>exact r
end
theorem E8{X:Cx}{e:Expr}{td:DTE}(h:∀(pins:List (Addr×Obj)) (s:Shared) (σ:St) (H:Hp) (ρ:Rho) (Z:Mu) (Qd:DK) (Q:VK),Inv X pins σ H s->St0 X.K H ρ Z σ->td ρ Z Qd ->
  (∀d u U H',Ext X.K Z H U H'->St0 X.K H' ρ U σ->RpD X.K U H' d u->Qd d U->Q u H')->wpAny (model X.prog X.w) X.A (eval e X.env) (EP X pins σ Q) X.xe s):DE X e td:=
 ⟨fun σ H Q=>∃ρ Z Qd,St0 X.K H ρ Z σ/\td ρ Z Qd/\(∀d u U H',Ext X.K Z H U H'->St0 X.K H' ρ U σ->RpD X.K U H' d u->Qd d U->Q u H'),
  fun pins s σ H Q I ⟨ρ,Z,Qd,S,q,k⟩=>h pins s σ H ρ Z Qd Q I S q k,fun σ H ρ Z Qd Q S q k=>⟨ρ,Z,Qd,S,q,k⟩⟩
def az(X:Cx)(N':List Str)(scope:Scope)(cl:List (Str×Addr))(fp:List Addr)(bi:Shared)(bv:Hp):Cx:=
 {X with N:=N',im:=bi,H₀:=bv,env:=compEnvC scope cl bi.heap.objs.size X.env,outer:=X.stack,stack:=X.stack,ex:=fp,fn:=fun _=>false,pn:=X.pn,xe:=fun _ _=>False}
def Le:Rho->Rho->Prop
 |[],[]=>True
 |none::r,_::r'=>Le r r'
 |some d::r,some d'::r'=>d=d'/\Le r r'
 |_,_=>False
theorem Le.get:∀{ρ bm:Rho},Le ρ bm->ρ.length=bm.length/\∀(i:Nat) d,ρ[i]? = some (some d)->bm[i]? = some (some d)
 |[],[],_=>⟨rfl,fun _ _ h=>h⟩
 |none::r,x::r',h=>by
  obtain⟨h1,h2⟩:=Le.get (ρ:=r) (bm:=r') h
  refine⟨congrArg (· + 1) h1,fun i d e=>?_⟩
  cases i with
  |zero=>simp at e
  |succ j=>exact h2 j d (by simpa using e)
 |some d::r,some d'::r',h=>by
  obtain⟨rfl,h⟩:=h
  obtain⟨h1,h2⟩:=Le.get (ρ:=r) (bm:=r') h
  refine⟨congrArg (· + 1) h1,fun i d e=>?_⟩
  cases i with
  |zero=>simpa using e
  |succ j=>exact h2 j d (by simpa using e)
 |some d::r,none::r',h=>h.elim
 |[],_::_,h=>h.elim
 |none::_,[],h=>h.elim
 |some _::_,[],h=>h.elim
def aX{α:Type}(cap:List (Option Nat))(ρ:List (Option α)):List (Option α):=cap.map fun o=>o.bind fun j=>(ρ[j]?).join
noncomputable def C6(cap:List (Option Nat))(src:DTI)(g:DTG)(c:DTT)(elt:DTE):DTE:=fun ρ Z Q=>src ρ Z fun xs ad=>xs.length<=1000/\∃f:PyData->Option PyData,
 (∀x∈xs,∀U:Mu,(∀a ds,ad a=some ds->U a=some ds)->g (.v x) (aX cap ρ) U fun ce am=>Le (aX cap ρ) ce/\c ce am fun b be=>
  if b=true then elt ce be fun d ci=>ci=U/\(match d with|.v y=>f x=some y|_=>False) else be=U/\f x=none)/\Q (.v (.list (xs.filterMap f))) ad
noncomputable def w5(X:Cx)(ifs:List Expr)(c:DTT):Prop:=∀(pins:List (Addr×Obj)) (s:Shared) (σ:St) (H:Hp) (ρ:Rho) (Z:Mu) (Qd:Bool->Mu->Prop) (Q:Bool->Hp->Prop),Inv X pins σ H s->St0 X.K H ρ Z σ->c ρ Z Qd ->
 (∀b U H',Ext X.K Z H U H'->St0 X.K H' ρ U σ->Qd b U->Q b H') ->
 wpAny (model X.prog X.w) X.A (forIn ifs true fun c r=>if r=true then do let ok <- isTrue c X.env (eval c X.env);pure (ForInStep.yield ok) else pure (ForInStep.yield r)) (TP X pins σ Q) X.xe s
noncomputable def ny:DTT:=fun _ Z Q=>Q true Z
theorem eV{X:Cx}:w5 X [] ny:=fun pins s σ H ρ Z Qd Q I S h k=>wpAny_tests_nil ⟨H,I,k true Z H .refl S h⟩
theorem vw{X:Cx}{c:Expr}{tc:DTT}(h:DT X c tc):w5 X [c] tc:=by
 obtain⟨t,p,l⟩:=h
 exact fun pins s σ H ρ Z Qd Q I S h k=>wpAny_tests_one (p pins s σ H _ I (l σ H ρ Z _ _ S h k))
theorem Un.after{fs ex:List Addr}{H H1:Hp}{h h1 h':Heap}(u:Un fs ex H H1 h h1)(k:∀b o,b<h.objs.size->h1.get? b=some o->h'.get? b=some o):Un fs ex H H1 h h':=
 ⟨fun b o e n hb hx=>k b o (Heap.lt_size e) (u.keep b o e n hb hx),fun b o e n hb hx=>let ⟨sl,q⟩:=u.slot b o e n hb hx;⟨sl,k b _ (Heap.lt_size e) q⟩,u.free,fun b o e hx=>let ⟨o',q⟩:=u.there b o e hx;⟨o',k b _ (Heap.lt_size e) q⟩,u.tY,u.rj,u.rA⟩
theorem km{α:Type}{cap:List (Option Nat)}{ρ:List (Option α)}{i:Nat}{d:α}(h:(aX cap ρ)[i]? = some (some d)):∃j,cap[i]? = some (some j)/\ρ[j]? = some (some d):=by
 unfold aX at h
 rw[getElem?_map] at h
 cases q:cap[i]? with
 |none=>rw[q] at h;cases h
 |some o=>
  rw[q] at h
  cases o with
  |none=>cases h
  |some j=>
   refine⟨j,rfl,?_⟩
   simp only[map_some,bind_some,Option.some.injEq] at h
   cases z:ρ[j]? with
   |none=>rw[z] at h;cases h
   |some y=>rw[z] at h;simp only[join_some] at h;rw[h]
theorem Ig{α:Type}{cap:List (Option Nat)}{ρ:List (Option α)}{i j:Nat}{d:α}(h:cap[i]? = some (some j))(e:ρ[j]? = some (some d)):(aX cap ρ)[i]? = some (some d):=by
 unfold aX
 rw[getElem?_map,h]
 simp[e]
theorem fG.cap{K:PySem.W.Frag}{Z:Mu}{H:Hp}{ρ:Rho}{σ:St}{cap:List (Option Nat)}(r:fG K Z H ρ σ):fG K Z H (aX cap ρ) (aX cap σ):=by
 refine⟨by unfold aX;simp,fun i d e=>?_⟩
 obtain⟨j,h1,h2⟩:=km e
 obtain⟨u,h3,h4⟩:=r.2 j d h2
 exact⟨u,Ig h1 h3,h4⟩
theorem fG.le{K:PySem.W.Frag}{Z:Mu}{H:Hp}{ρ bm:Rho}{σ:St}(r:fG K Z H bm σ)(l:Le ρ bm):fG K Z H ρ σ:=
 ⟨l.get.1.trans r.1,fun i d e=>r.2 i d (l.get.2 i d e)⟩
theorem Aa{xs:List PyData}{f:PyData->Option PyData}{i:Nat}{d:PyData}(h:xs[i]? = some d):(xs.take (i+1)).filterMap f=(xs.take i).filterMap f++(f d).toList:=by
 obtain⟨hi,e⟩:=List.getElem?_eq_some_iff.mp h
 rw[List.take_succ_eq_append_getElem hi,List.filterMap_append,e]
 cases q:f d<;>simp[q]
theorem wb{α:Type}{x:α}{xs:List α}:atI (x::xs) 0=some x:=by unfold atI ixN;simp
theorem uF{α:Type}{x y:α}{xs:List α}:atI (x::y::xs) 1=some y:=by
 have h:=um (xs:=x::y::xs) (j:=1) (v:=y) rfl
 exact h
theorem yx{α:Type}{x y z:α}{xs:List α}:atI (x::y::z::xs) 2=some z:=by
 have h:=um (xs:=x::y::z::xs) (j:=2) (v:=z) rfl
 exact h
theorem Cw{α:Type}{x y z u:α}{xs:List α}:atI (x::y::z::u::xs) 3=some u:=by
 have h:=um (xs:=x::y::z::u::xs) (j:=3) (v:=u) rfl
 exact h
def CY:D->D->Mu->DK->Prop:=fun x y Z Q=>match x,y with
 |.v (.int i),.v (.int j)=>Q (.v (.int (i+j))) Z
 |.v (.tuple xs),.v (.tuple ys)=>xs.length+ys.length<=1000/\Q (.v (.tuple (xs++ys))) Z
 |_,_=>yD x y Z Q
theorem ME{K:PySem.W.Frag}:gC K (fun x y H Q=>(rI0 fun i j=>.int (i+j)) x y H Q\/((EB K) x y H Q\/MW x y H Q)) CY:=by
 intro x y ux uy H Z Qd Q ok rx ry h k
 unfold CY at h
 split at h
 ·exact .inl (FG (K:=K) (gd:=fun i j=>.int (i+j)) (fun _ _ _ _=>.int _) _ _ ux uy H Z Qd Q ok rx ry h k)
 ·exact .inr (.inl (Kx _ _ ux uy H Z Qd Q ok rx ry h k))
 ·exact .inr (.inr (IH _ _ ux uy H Z Qd Q ok rx ry h k))
theorem Ly{X:Cx}{a b:Expr}{ta tb:DTE}{pos:Pos}(ha:DE X a ta)(hb:DE X b tb):DE X (.BinOp a .Add b pos) (dOp CY ta tb):=pY (JD.or (J4.or J3)) ME ha hb
section
variable {ρ:Rho}{Z:Mu}{Q:DK}{QT:Bool->Mu->Prop}{QA:List D->Mu->Prop}{QG:Rho->Mu->Prop}{QI:List PyData->Mu->Prop}{QO:Option Int->Mu->Prop}{Dd:BI}{ta tb tc:DTE}{t u:DTT}{tA:DTA}{s1 s2:DTS}{i j:Int}{x y:PyData}{xs ys:List PyData}{d e:D}
noncomputable def wj:DTS:=fun _ _ _=>False
theorem va{X:Cx}{st:Stmt}:DS X st wj:=⟨fun _ _ _=>False,fun _ _ _ _ _ _ h=>h.elim,fun _ _ _ _ _ _ _ h=>h.elim⟩
theorem AJ{o:Rho}:ai 0 (some d::o) Z Q=Q d Z:=propext Iff.rfl
theorem AD{a}{o:Rho}:ai 1 (a::some d::o) Z Q=Q d Z:=propext Iff.rfl
theorem AR{a b}{o:Rho}:ai 2 (a::b::some d::o) Z Q=Q d Z:=propext Iff.rfl
theorem yY{a b c}{o:Rho}:ai 3 (a::b::c::some d::o) Z Q=Q d Z:=propext Iff.rfl
theorem Bh{a b c f}{o:Rho}:ai 4 (a::b::c::f::some d::o) Z Q=Q d Z:=propext Iff.rfl
theorem Ai{a b c f g}{o:Rho}:ai 5 (a::b::c::f::g::some d::o) Z Q=Q d Z:=propext Iff.rfl
theorem Ax{a b c f g h}{o:Rho}:ai 6 (a::b::c::f::g::h::some d::o) Z Q=Q d Z:=propext Iff.rfl
theorem AE{a b c f g h k}{o:Rho}:ai 7 (a::b::c::f::g::h::k::some d::o) Z Q=Q d Z:=propext Iff.rfl
theorem A4{a b c f g h k l}{o:Rho}:ai 8 (a::b::c::f::g::h::k::l::some d::o) Z Q=Q d Z:=propext Iff.rfl
theorem AO{a b c f g h k l m}{o:Rho}:ai 9 (a::b::c::f::g::h::k::l::m::some d::o) Z Q=Q d Z:=propext Iff.rfl
theorem uo{a b c f g h k l m n}{o:Rho}:ai 10 (a::b::c::f::g::h::k::l::m::n::some d::o) Z Q=Q d Z:=propext Iff.rfl
theorem q_c:dC x ρ Z Q=Q (.v x) Z:=propext Iff.rfl
theorem O7{r}:dOp r ta tb ρ Z Q=ta ρ Z fun x ad=>tb ρ ad fun y am=>r x y am Q:=propext Iff.rfl
theorem q_B:dB ta ρ Z QT=ta ρ Z fun d ad=>match d with|.v (.bool k)=>QT k ad|_=>False:=propext Iff.rfl
theorem Lg{C:Int->Int->Prop}{g:Int->Int->PyData}:rII C g (.v (.int i)) (.v (.int j)) Z Q=(C i j/\Q (.v (g i j)) Z):=propext Iff.rfl
theorem Gy{g:Int->Int->PyData}:wX g (.v (.int i)) (.v (.int j)) Z Q=Q (.v (g i j)) Z:=propext Iff.rfl
theorem Fw:wa ta ρ Z Q=ta ρ Z fun x ad=>match x with|.v (.int i)=>Q (.v (.int (-i))) ad|_=>False:=propext Iff.rfl
theorem IS:uO t u ρ Z QT=t ρ Z fun c ad=>if c=true then u ρ ad QT else QT false ad:=propext Iff.rfl
theorem Mc:kQ t u ρ Z QT=t ρ Z fun c ad=>if c=true then QT true ad else u ρ ad QT:=propext Iff.rfl
theorem Bq:fA t ρ Z QT=t ρ Z fun c ad=>QT (!c) ad:=propext Iff.rfl
theorem Jx:mS ta tb ρ Z Q=ta ρ Z fun x ad=>match x with|.v (.bool c)=>if c=true then tb ρ ad Q else Q (.v (.bool false)) ad|_=>False:=propext Iff.rfl
theorem AW:yf ta ρ Z Q=ta ρ Z fun x ad=>match x with|.v (.bool c)=>Q (.v (.bool (!c))) ad|_=>False:=propext Iff.rfl
theorem O2:dIf t ta tb ρ Z Q=t ρ Z fun c ad=>if c=true then ta ρ ad Q else tb ρ ad Q:=propext Iff.rfl
theorem FY:ar ρ Z QA=QA [] Z:=propext Iff.rfl
theorem ze:ag ta tA ρ Z QA=ta ρ Z fun x ad=>tA ρ ad fun xs am=>QA (x::xs) am:=propext Iff.rfl
theorem E1:bq tA ρ Z Q=tA ρ Z fun ds ad=>match cu ds with|some xs=>Q (.v (.tuple xs)) ad|none=>False:=propext Iff.rfl
theorem Fg:lS tA ρ Z Q=tA ρ Z fun ds ad=>match cu ds with|some xs=>Q (.v (.list xs)) ad|none=>False:=propext Iff.rfl
theorem A5:sL tA ρ Z Q=tA ρ Z fun ds ad=>match cu ds with|some xs=>∀p,ad p=none->Q (.m p) (aA ad p xs)|none=>False:=propext Iff.rfl
theorem Fd:cu []=some []:=by rw[cu]
theorem Gs{r:List D}:cu (.v x::r)=(cu r).map (x::·):=by rw[cu]
theorem Mh{neg:Bool}:d8 neg (.v x) (.v y) Z Q=(SeqAt.shaped x=true/\SeqAt.shaped y=true/\Q (.v (.bool (neg ^^ PyData.eqv x y))) Z):=propext Iff.rfl
theorem Ge{neg:Bool}:d8 neg (.v (.int i)) (.v (.int j)) Z Q=Q (.v (.bool (neg ^^ decide (i=j)))) Z:=by
 have e:PyData.eqv (.int i) (.int j)=decide (i=j):=by simp[PyData.eqv];rfl
 rw[Mh,e]
 exact propext ⟨fun h=>h.2.2,fun h=>⟨rfl,rfl,h⟩⟩
theorem Fz{neg:Bool}:K9 neg (.v x) (.v (.list ys)) Z Q=(PyData.canLayAll0 ys=true/\x.canLay0=true/\PyData.depth x<=60/\Q (.v (.bool (neg ^^ ys.any fun b=>PyData.eqv b x))) Z):=propext Iff.rfl
theorem vD:aN (.v (.list xs)) (.v (.int i)) Z Q=(match atI xs i with|some d=>Q (.v d) Z|none=>False):=propext Iff.rfl
theorem sG:aN (.v (.tuple xs)) (.v (.int i)) Z Q=(match atI xs i with|some d=>Q (.v d) Z|none=>False):=propext Iff.rfl
theorem GH{l:Addr}:aN (.m l) (.v (.int i)) Z Q=(match Z l with|some xs=>(match atI xs i with|some d=>Q (.v d) Z|none=>False)|none=>False):=propext Iff.rfl
theorem Gz{ns:List Int}:aN (.s ns) (.v (.int i)) Z Q=(match atI ns i with|some d=>Q (.v (.int d)) Z|none=>False):=propext Iff.rfl
theorem yR:aN (.v (.list (x::xs))) (.v (.int 0)) Z Q=Q (.v x) Z:=by rw[vD,wb]
theorem vN:aN (.v (.tuple (x::xs))) (.v (.int 0)) Z Q=Q (.v x) Z:=by rw[sG,wb]
theorem zw{z}:aN (.v (.list (z::x::xs))) (.v (.int 1)) Z Q=Q (.v x) Z:=by rw[vD,uF]
theorem uP{z}:aN (.v (.tuple (z::x::xs))) (.v (.int 1)) Z Q=Q (.v x) Z:=by rw[sG,uF]
theorem A3{z w}:aN (.v (.list (z::w::x::xs))) (.v (.int 2)) Z Q=Q (.v x) Z:=by rw[vD,yx]
theorem vT{z w}:aN (.v (.tuple (z::w::x::xs))) (.v (.int 2)) Z Q=Q (.v x) Z:=by rw[sG,yx]
theorem Bs{z w v}:aN (.v (.tuple (z::w::v::x::xs))) (.v (.int 3)) Z Q=Q (.v x) Z:=by rw[sG,Cw]
theorem FE:yD d e Z Q=(match n5 Z d,n5 Z e with|some xs,some ys=>xs.length+ys.length<=1000/\Q (.v (.list (xs++ys))) Z|_,_=>False):=propext Iff.rfl
theorem Bj:CY (.v (.tuple xs)) (.v (.tuple ys)) Z Q=(xs.length+ys.length<=1000/\Q (.v (.tuple (xs++ys))) Z):=propext Iff.rfl
theorem Gn:NY ta ρ Z Q=ta ρ Z fun x ad=>match x with|.v (.tuple xs)=>Q (.v (.tuple xs.reverse)) ad|.v (.list xs)=>Q (.v (.list xs.reverse)) ad|.m l=>(match ad l with|some xs=>Q (.v (.list xs.reverse)) ad|none=>False)|_=>False:=propext Iff.rfl
theorem OF{rd}:dCB rd tA ρ Z Q=tA ρ Z fun ds ad=>rd ds ad Q:=propext Iff.rfl
theorem Al:dX [.v (.list ys)] Z Q=Q (.v (.int (ys.length:Nat))) Z:=propext Iff.rfl
theorem zA:dX [.v (.tuple ys)] Z Q=Q (.v (.int (ys.length:Nat))) Z:=propext Iff.rfl
theorem A0{ns:List Int}:dX [.s ns] Z Q=Q (.v (.int (ns.length:Nat))) Z:=propext Iff.rfl
theorem AZ{l:Addr}:dX [.m l] Z Q=(match Z l with|some ys=>Q (.v (.int (ys.length:Nat))) Z|none=>False):=propext Iff.rfl
theorem GB:pZ [.v (.int i)] Z Q=Q (.v (.int (i.natAbs:Nat))) Z:=propext Iff.rfl
theorem KH{g:Int->Int->Int}:A2 g [.v (.int i),.v (.int j)] Z Q=Q (.v (.int (g i j))) Z:=propext Iff.rfl
theorem Ak{k:Bool}:qp [.v (.bool k)] Z Q=Q (.v (.int (if k then 1 else 0))) Z:=propext Iff.rfl
theorem FF:x9 [.v (.list ys)] Z Q=(match cI ys with|some bs=>Q (.v (.bool (bs.all id))) Z|none=>False):=propext Iff.rfl
theorem Ga{T:String}:CI T ta ρ Z Q=ta ρ Z fun x ad=>match x with|.v d=>Q (.v (.bool (isT T d))) ad|_=>False:=propext Iff.rfl
theorem uc{n:Nat}:aq n d ρ Z QG=QG (ρ.set n (some d)) Z:=propext Iff.rfl
theorem AI:cY [] ρ Z QG=QG ρ Z:=propext Iff.rfl
theorem uu{g:DTG}{gs:wW}:aH g gs (x::xs) ρ Z QG=g (.v x) ρ Z fun tt ad=>gs xs tt ad QG:=propext Iff.rfl
theorem zd{n:Nat}{gs:wW}:cM n gs (.v (.tuple xs)) ρ Z QG=(xs.length=n/\gs xs ρ Z QG):=propext Iff.rfl
theorem AS:Fh ta tb d ρ Z QG=ta ρ Z fun o ad=>tb ρ ad fun i am=>match o,i,d with
 |.m l,.v (.int k),.v x=>(match am l with
  |some xs=>(match ixN xs.length k with
   |some j=>QG ρ (aA am l (xs.set j x))
   |none=>False)
  |none=>False)
 |_,_,_=>False:=propext Iff.rfl
theorem Mo{g:DTG}:bc ta g Dd ρ Z=ta ρ Z fun d ad=>g d ρ ad Dd.nx:=propext Iff.rfl
theorem FC{i j:Nat}:wR i j tA Dd ρ Z=tA ρ Z fun ds ad=>match ds with|[v,w]=>Dd.nx ((ρ.set i (some v)).set j (some w)) ad|_=>False:=propext Iff.rfl
theorem A8:bL Dd ρ Z=Dd.nx ρ Z:=propext Iff.rfl
theorem FK:aO s1 s2 Dd ρ Z=s1 {Dd with nx:=s2 Dd} ρ Z:=propext Iff.rfl
theorem GG:bp ta Dd ρ Z=ta ρ Z Dd.rt:=propext Iff.rfl
theorem zL:lK ta Dd ρ Z=ta ρ Z fun _ ad=>Dd.nx ρ ad:=propext Iff.rfl
theorem Md:cV t s1 s2 Dd ρ Z=t ρ Z fun b ad=>if b=true then s1 Dd ρ ad else s2 Dd ρ ad:=propext Iff.rfl
theorem ub:wj Dd ρ Z=False:=propext Iff.rfl
theorem Jk{dsp:DSp}:ay dsp tA ρ Z Q=tA ρ Z fun ds ad=>dsp ds ad Q:=propext Iff.rfl
theorem E6:CD ta tb ρ Z Q=ta ρ Z fun x ad=>match x with
 |.m l=>tb ρ ad fun y am=>(match y,am l with
  |.v d,some xs=>xs.length<1000/\Q (.v .none) (aA am l (xs++[d]))
  |_,_=>False)
 |_=>False:=propext Iff.rfl
theorem Gw:Qp ta tb ρ Z Q=ta ρ Z fun x ad=>match x with
 |.m l=>tb ρ ad fun y am=>(match y,am l with
  |.v (.list ys),some xs=>xs.length+ys.length<=1000/\Q (.v .none) (aA am l (xs++ys))
  |_,_=>False)
 |_=>False:=propext Iff.rfl
theorem yL:ny ρ Z QT=QT true Z:=propext Iff.rfl
theorem qe:gW ta ρ Z QI=ta ρ Z fun d ad=>match d with|.v (.list xs)=>QI xs ad|_=>False:=propext Iff.rfl
theorem ue:qX ta ρ Z QI=ta ρ Z fun d ad=>match d with|.v (.tuple xs)=>QI xs ad|_=>False:=propext Iff.rfl
theorem qH:nB tA ρ Z QI=tA ρ Z fun ds ad=>match ds with|[.v (.int j)]=>(-(2 ^ 62)<=j/\j<2 ^ 62)/\QI (mX 0 j.toNat) ad|_=>False:=propext Iff.rfl
theorem p6:vY tA ρ Z QI=tA ρ Z fun ds ad=>match ds with|[.v (.int i),.v (.int j)]=>(-(2 ^ 62)<=i/\i<2 ^ 62/\-(2 ^ 62)<=j/\j<2 ^ 62)/\QI (mX i (j-i).toNat) ad|_=>False:=propext Iff.rfl
theorem lJ{src:DTI}{g:DTG}:qr src g s1 Dd ρ Z=src ρ Z fun xs ad=>∃Pv:Nat->Rho->Mu->Prop,Pv 0 ρ ad /\
 (∀i x bm U,xs[i]? = some x->Pv i bm U->g (.v x) bm U fun ce am=>s1 {Dd with nx:=Pv (i+1),ct:=Pv (i+1),bk:=Dd.nx} ce am)/\(∀bm U,Pv xs.length bm U->Dd.nx bm U):=propext Iff.rfl
theorem Au{cap:List (Option Nat)}{src:DTI}{g:DTG}:C6 cap src g t ta ρ Z Q=src ρ Z fun xs ad=>xs.length<=1000/\∃f:PyData->Option PyData,
 (∀x∈xs,∀U:Mu,(∀a ds,ad a=some ds->U a=some ds)->g (.v x) (aX cap ρ) U fun ce am=>Le (aX cap ρ) ce/\t ce am fun b be=>
  if b=true then ta ce be fun d ci=>ci=U/\(match d with|.v y=>f x=some y|_=>False) else be=U/\f x=none)/\Q (.v (.list (xs.filterMap f))) ad:=propext Iff.rfl
theorem AX{α:Type}{r:List (Option α)}:aX [] r=[]:=rfl
theorem AH{α:Type}{o:Option Nat}{c:List (Option Nat)}{r:List (Option α)}:aX (o::c) r=(o.bind fun j=>(r[j]?).join)::aX c r:=rfl
theorem E2:Le [] []=True:=propext ⟨fun _=>trivial,fun h=>h⟩
theorem Gf{r r':Rho}{o:Option D}:Le (none::r) (o::r')=Le r r':=propext Iff.rfl
theorem Gu{r r':Rho}{d d':D}:Le (some d::r) (some d'::r')=(d=d'/\Le r r'):=propext Iff.rfl
theorem Fi:se t s1 Dd ρ Z=(∃W:Nat->Rho->Mu->Prop,(∃m,W m ρ Z)/\∀m ρ Z,W m ρ Z ->
 t ρ Z fun b ad=>if b=true then s1 {Dd with nx:=fun bm U=>∃m',m'<m/\W m' bm U,ct:=fun bm U=>∃m',m'<m/\W m' bm U,bk:=Dd.nx} ρ ad else Dd.nx ρ ad):=propext Iff.rfl
end
theorem JR{α β:Type}[BEq α][LawfulBEq α]{x:α}{k:β}:∀{l:List (α×β)},l.lookup x=some k->(x,k)∈l
 |[],h=>by cases h
 |(y,j)::r,h=>by
  rw[lookup_cons] at h
  cases e:x==y with
  |true=>
   rw[e] at h
   simp only[Option.some.injEq] at h
   have:x=y:=eq_of_beq e
   subst this h
   exact mem_cons_self
  |false=>
   rw[e] at h
   exact mem_cons_of_mem _ (JR h)
def cfK:NameKind->Bool
 |.cell=>true
 |.free=>true
 |_=>false
theorem fe{names:List (Str×NameKind)}{cl:List (Str×Addr)}(h:(names.all fun y=>!(cfK y.2) || (cl.lookup y.1).isSome)=true)(x:Str)(hx:names.lookup x=some .cell\/names.lookup x=some .free):∃a,cl.lookup x=some a:=by
 rw[List.all_eq_true] at h
 have key:∀k,cfK k=true->names.lookup x=some k->∃a,cl.lookup x=some a:=fun k hk e=>by
  have q:=h _ (JR e)
  simp only[hk,Bool.not_true,Bool.false_or] at q
  exact Option.isSome_iff_exists.mp q
 rcases hx with e|e
 ·exact key _ rfl e
 ·exact key _ rfl e
def IF(X:Cx)(sc:Scope):List (Option Nat)->List Str->Prop
 |none::c,_::n=>IF X sc c n
 |some j::c,x::n=>(X.N[j]? = some x/\Vis X.env.scope x/\X.env.kindOf x≠some .local/\((relabel sc X.env).names.lookup x=some .cell\/(relabel sc X.env).names.lookup x=some .free))/\IF X sc c n
 |_,_=>True
theorem dU{X:Cx}{sc:Scope}:∀{c:List (Option Nat)} {n:List Str},IF X sc c n->∀(i j:Nat) (x:Str),c[i]? = some (some j)->n[i]? = some x ->
  X.N[j]? = some x/\Vis X.env.scope x/\X.env.kindOf x≠some .local/\((relabel sc X.env).names.lookup x=some .cell\/(relabel sc X.env).names.lookup x=some .free)
 |[],_,_,i,j,x,h,_=>by simp at h
 |_::_,[],_,i,j,x,_,h=>by simp at h
 |none::c,y::n,k,0,j,x,h,_=>by simp at h
 |none::c,y::n,k,i+1,j,x,h,g=>dU (c:=c) (n:=n) k i j x (by simpa using h) (by simpa using g)
 |some l::c,y::n,k,0,j,x,h,g=>by
  simp only[List.getElem?_cons_zero,Option.some.injEq] at h g
  subst h g
  exact k.1
 |some l::c,y::n,k,i+1,j,x,h,g=>dU (c:=c) (n:=n) k.2 i j x (by simpa using h) (by simpa using g)
theorem sC{X:Cx}{sc:Scope}{j:Nat}{x:Str}(h1:X.N[j]? = some x:=by rfl)(h2:Vis X.env.scope x:=by first|exact Or.inl rfl|exact Or.inr (Or.inl rfl)|exact Or.inr (Or.inr rfl))(h3:X.env.kindOf x≠some .local:=by first|(intro z;cases z)|exact (fun z=>nomatch z))
  (h4:(relabel sc X.env).names.lookup x=some .cell\/(relabel sc X.env).names.lookup x=some .free:=by first|exact Or.inl rfl|exact Or.inr rfl):X.N[j]? = some x/\Vis X.env.scope x/\X.env.kindOf x≠some .local/\((relabel sc X.env).names.lookup x=some .cell\/(relabel sc X.env).names.lookup x=some .free):=⟨h1,h2,h3,h4⟩
def jY(Z:Mu)(p:Addr):Mu:=⟨fun b=>if b=p then none else Z b,Z.b⟩
theorem gF{Z:Mu}{p b:Addr}(h:b≠p):jY Z p b=Z b:=if_neg h
theorem iU{Z:Mu}{p:Addr}:jY Z p p=none:=if_pos rfl
noncomputable def iL(cap:List (Option Nat))(src:DTI)(g:DTG)(c:DTT)(elt:DTE):DTE:=fun ρ Z Q=>src ρ Z fun xs ad=>xs.length<=1000/\∀p,ad p=none->∃Pv:Nat->List PyData->Mu->Prop,Pv 0 [] (aA ad p []) /\
 (∀i x acc U,xs[i]? = some x->U p=some acc->Pv i acc U->g (.v x) (aX cap ρ) U fun ce am=>Le (aX cap ρ) ce/\c ce am fun b be=>
  if b=true then elt ce be fun d ci=>ci p=some acc/\(match d with|.v y=>Pv (i+1) (acc++[y]) (aA ci p (acc++[y]))|_=>False) else be p=some acc/\Pv (i+1) acc be) /\
 (∀acc U,Pv xs.length acc U->U p=some acc->Q (.v (.list acc)) (jY U p))
theorem yF{X:Cx}{pos2:Pos}{use:Option (Value->Sem Unit)}{QQ:Value->Shared->Prop}{pins:List (Addr×Obj)}{s:Shared}{σ:St}{H:Hp}{ρ:Rho}{Z:Mu}{Qd:DK}{N':List Str}{scope:Scope}{cl:List (Str×Addr)}{elt iter tg:Expr}{ifs:List Expr}{pos:Pos}{cap:List (Option Nat)}{src:DTI}{g:DTG}{c:DTT}{te:DTE}(hc:X.calm=X.calm)
  (hi:DI X tg iter src) (hg:∀fp bi bv,DG (az X N' scope cl fp bi bv) tg g) (hif:∀fp bi bv,w5 (az X N' scope cl fp bi bv) ifs c) (he:∀fp bi bv,DE (az X N' scope cl fp bi bv) elt te)
  (hclos:closureFor scope X.env=pure cl) (hcell:∀y∈scope.names,y.2≠.cell) (hkind:scope.kind = .function) (hnames:∀y∈scope.names,y.2 = .local->scope.names.lookup y.1=some .local)
  (hcl:∀x a,cl.lookup x=some a->X.env.cells.lookup x=some a) (hhas:∀x,(relabel scope X.env).names.lookup x=some .cell\/(relabel scope X.env).names.lookup x=some .free->∃a,cl.lookup x=some a)
  (hlen:cap.length=N'.length) (hcap:∀(i j:Nat) (x:Str),cap[i]? = some (some j)->N'[i]? = some x->X.N[j]? = some x/\Vis X.env.scope x/\X.env.kindOf x≠some .local/\((relabel scope X.env).names.lookup x=some .cell\/(relabel scope X.env).names.lookup x=some .free))
  (hs:∀x,foldedSetIterable iter X.env x=pure x )
  (I:Inv X pins σ H s) (S:St0 X.K H ρ Z σ) (h:iL cap src g c te ρ Z Qd)
  (hend:∀(s4:Shared) (Hc:Hp) (C pa:Addr) (m:Str->Option Value) (acc:List PyData) (lf:Mu),s4.heap.Ns C m->mh X pins Hc C->(∀h',Heap.SameBut C s4.heap h'->Inv X pins σ Hc {s4 with heap:=h'}) ->
   Ext X.K Z H lf Hc->St0 X.K Hc ρ lf σ->Rp X.K lf Hc (.list acc) (.ref pa)->Qd (.v (.list acc)) lf->compPost (model X.prog X.w) X.A X.xe use QQ (.ref pa) C (.ok .next) s4) :
  wpAny (model X.prog X.w) X.A (comprehension (.ListComp elt [⟨tg,iter,ifs,0⟩] scope pos) scope X.env pos2 (newList []) false (eval iter X.env) use) QQ X.xe s:=by
 obtain⟨wi,pw,li⟩:=hi
 refine wpAny_comprehension_free rfl hs hclos hkind hnames (thn (pw pins s σ H _ I (li σ H ρ Z _ (fun J H1=>∃xs ad,Ext X.K Z H ad H1/\St0 X.K H1 ρ ad σ/\DY X.K J xs ad H1/\xs.length<=1000/\∀p,ad p=none->∃Pv:Nat->List PyData->Mu->Prop,Pv 0 [] (aA ad p []) /\
   (∀i x acc U,xs[i]? = some x->U p=some acc->Pv i acc U->g (.v x) (aX cap ρ) U fun ce am=>Le (aX cap ρ) ce/\c ce am fun b be=>
    if b=true then te ce be fun d ci=>ci p=some acc/\(match d with|.v y=>Pv (i+1) (acc++[y]) (aA ci p (acc++[y]))|_=>False) else be p=some acc/\Pv (i+1) acc be) /\
   (∀acc U,Pv xs.length acc U->U p=some acc->Qd (.v (.list acc)) (jY U p))) S h (fun xs ad H1 J e1 S1 it q=>⟨xs,ad,e1,S1,it,q⟩)))
  fun v s1 h1=>thn h1 fun itv s2 h2=>?_)
 obtain⟨it,fp,tn,J,H2,rfl,I2,T,st2,f2,xs,ad,e1,S1,itok,hxs,allp⟩:=h2
 refine wpAny_newObj_type (wpAny_newFunctionEnv hcell (by intro y hy;simp at hy) (fun dl gV gl=>?_) hkind)
 dsimp only at gV gl ⊢
 have hfree2:H2 s2.heap.objs.size=none:=I2.hok.fresh (le_refl _)
 have hK2:X.K.lookup s2.heap.objs.size=none:=by
  cases z:X.K.lookup s2.heap.objs.size with
  |none=>rfl
  |some o=>exact absurd (Heap.lt_size (I2.kIn _ _ z)) (lt_irrefl _)
 have I3:Inv X pins σ (upd H2 s2.heap.objs.size (.lst [])) {s2 with heap:=s2.heap.push {cls:=.type "list",dict:=none,data:=.seq ([]:List Value).toArray}}:=
  I2.laid (t':=s2.toks) (fun b u e=>Heap.get?_push_of_some _ e) (le_refl _) ⟨zero_le _,[],0,.nil,Heap.get?_push_size _ rfl⟩
 generalize hH:s2.heap.push {cls:=.type "list",dict:=none,data:=.seq ([]:List Value).toArray} = hp3 at gV gl I3 ⊢
 have hsz3:hp3.objs.size=s2.heap.objs.size+1:=by rw[<- hH,Heap.size_push]
 have kept3:∀b o,hp3.get? b=some o->dl.get? b=some o:=fun b o e=>gl.extBut b o (ne_of_lt (Heap.lt_size e)) (Heap.get?_push_of_some _ e)
 have old3:∀b o,s2.heap.get? b=some o->hp3.get? b=some o:=fun b o e=>by rw[<- hH];exact Heap.get?_push_of_some _ e
 have fplt:∀b∈fp,b<s2.heap.objs.size:=fun b hb=>by obtain⟨o,e,_⟩:=T.obj 0 _ st2 b hb;exact Heap.lt_size e
 have fpst:∀b∈fp,b ∉ frs X.stack:=fun b hb hz=>by
  rcases List.mem_cons.mp (I2.gO b hz) with e|e
  ·exact (f2 b hb).2.1 e
  ·exact (f2 b hb).2.2.1 e
 obtain⟨s3,hs3⟩:∃s3:Shared,s3={s2 with heap:=hp3}:=⟨_,rfl⟩
 obtain⟨H3,hH3⟩:∃H3:Hp,H3=upd H2 s2.heap.objs.size (.lst []):=⟨_,rfl⟩
 have heap3:s3.heap=hp3:=by rw[hs3]
 rw[<- hH3] at I3
 have I3':Inv X pins σ H3 s3:=by rw[hs3];exact I3
 have hloc:H3 hp3.objs.size=none:=by have:=I3'.hok.fresh (a:=hp3.objs.size) (by rw[heap3];exact le_refl _);exact this
 have okc:(az X N' scope cl fp s3 H3).Ok:=by
  refine⟨I3.ok.mod,?_,I3.ok.glob,I3.ok.blt,le_refl _,fun x y a h1 h2=>I3.ok.inj x y a (hcl x a h1) (hcl y a h2),fun x hx=>hhas x hx,fun x a h=>(nomatch h),I3.ok.hd,I3.ok.qt,I3.ok.frames,.inl rfl,fun b hb=>⟨?_,fun x a h=>(f2 b hb).2.2.2.2.1 x a (hcl x a h)⟩,
   I3'.bs,le_trans I3.ok.bsz I3'.sz,fun b o e hb=>?_,fun b hb=>fpst b hb,I3'.stack,I3'.nI⟩
  ·exact hkind
  ·show b≠s3.heap.objs.size
   rw[heap3,hsz3]
   exact ne_of_lt (lt_succ_of_lt (fplt b hb))
  ·rcases (f2 b hb).2.2.2.1 with z|z
   ·exact I3.ok.A6 b o e z
   ·exact absurd (lt_of_lt_of_le (Heap.lt_size (I3.ok.bs b o e).1) z) (lt_irrefl _)
 have I4:Inv (az X N' scope cl fp s3 H3) [] (aX cap σ) H3 {s2 with heap:=dl,toks:=s2.toks+([]:List (Str×Value)).length}:=by
  refine⟨okc,by show s2.os=s3.os;rw[hs3],I3.bare,Un.kept (by show ∀b o,s3.heap.get? b=some o->_;rw[heap3];exact kept3),⟨_,(by show dl.Ns s3.heap.objs.size _;rw[heap3];exact gV),fun i x v e1 e2 e3=>?_⟩,fun x a h=>?_,(by show H3 s3.heap.objs.size=none;rw[heap3];exact hloc),fun x a h=>I3.jt x a (hcl x a h),fun p hp=>?_,I3.hok.kept kept3,?_⟩
  ·obtain⟨j,h1,h2⟩:=km e2
   obtain⟨hN,hv,hnl,hk⟩:=hcap i j x h1 e1
   obtain⟨m,_,hl⟩:=I3.loc
   obtain⟨u,r,lk⟩:=hl j x v hN h2 hv
   refine⟨u,r,.inr ⟨hk,?_⟩⟩
   obtain⟨a,ha⟩:=hhas x hk
   rcases lk with ⟨z,_⟩|⟨_,a',z1,z2⟩
   ·exact absurd z hnl
   ·have:a'=a:=by have q:=hcl x a ha;rw[z1] at q;exact Option.some.inj q
    subst this
    obtain⟨o,ho,hd⟩:=z2
    exact⟨a',ha,o,kept3 _ _ ho,hd⟩
  ·obtain⟨v,o,ho,hd⟩:=I3.cell x a (hcl x a h)
   exact⟨v,o,kept3 _ _ ho,hd⟩
  ·have hp':p∈X.pn++pins:=mem_append_left _ (by simpa using (show p∈X.pn++[] from hp))
   obtain⟨z1,z2,z3,z4,z5⟩:=I3'.pin p hp'
   refine⟨kept3 _ _ (by rw[<- heap3];exact z1),z2,(show p.1≠s3.heap.objs.size from ne_of_lt (Heap.lt_size z1)),fun z=>?_,z5⟩
   rcases List.mem_cons.mp (I3'.gO p.1 z) with e|e
   ·exact z3 e
   ·exact z4 e
  ·show (aX cap σ).length=N'.length
   unfold aX
   rw[length_map]
   exact hlen
 have ld:ad s2.heap.objs.size=none:=S1.mu.free hfree2
 obtain⟨Pv,pv0,body,fin⟩:=allp s2.heap.objs.size ld
 have loop:codeAny (model X.prog X.w) X.A (.compLoop (.ListComp elt [⟨tg,iter,ifs,0⟩] scope pos) 0 (.ref it) (.ref s2.heap.objs.size) (az X N' scope cl fp s3 H3).env)
   (compPost (model X.prog X.w) X.A X.xe use QQ (.ref s2.heap.objs.size) hp3.objs.size) {s2 with heap:=dl,toks:=s2.toks+([]:List (Str×Value)).length}:=by
  refine fc (fun n s'=>∃(i:Nat) (db:St) (Hc:Hp) (acc:List PyData) (ge:Mu),n=xs.length-i/\i<=xs.length/\Inv (az X N' scope cl fp s3 H3) [] db Hc s'/\tn i s'.heap/\(∀b∈fp,Hc b=none) /\
   acc.length<=i/\ge s2.heap.objs.size=some acc/\Pv i acc ge/\St0 X.K Hc (aX cap ρ) ge db/\Ext X.K ad H2 ge Hc) ?_ xs.length
   ⟨0,aX cap σ,H3,[],aA ad s2.heap.objs.size [],by simp,zero_le _,I4,T.keep 0 _ _ st2 (fun b hb o e=>kept3 b o (old3 b o e)),fun b hb=>?_,le_refl _,aD,pv0,?_,?_⟩
  ·rintro n s' ⟨i,db,Hc,acc,ge,rfl,hi,Ic,tc,frc,hal,hpa,pvi,Sc,Ec⟩
   have stat:∀{Hd:Hp},(∀b∈fp,Hd b=none)->∀b∈fp,mh (az X N' scope cl fp s3 H3) [] Hd b:=fun hn b hb=>
    ⟨hn b hb,(okc.exf b hb).1,fpst b hb,.inl hb,fun x a h=>(okc.exf b hb).2 x a h,fun p hp=>(f2 b hb).2.2.2.2.2 p (mem_append_left _ (by simpa using (show p∈X.pn++[] from hp)))⟩
   obtain⟨go,stop⟩:=itok _ Hc Ec Sc.mu i
   by_cases hlt:i<xs.length
   ·obtain⟨g1,y1⟩:=go hlt
    refine thn (T.item (az X N' scope cl fp s3 H3) rfl rfl rfl (fun z=>z) i [] s' db Hc (fun _ _=>False) Ic (stat frc) tc g1) fun r s4 hq0=>?_
    obtain⟨u,hr,h4⟩:=hq0
    subst hr
    refine thn h4 fun _ s5 hq0=>?_
    obtain⟨x,H5,I5,r5,y5,st5,fr5⟩:=hq0
    obtain⟨d,hd,sm,rd⟩:=y1 x H5 y5
    have I5':=I5.pinned (stat fr5) (T.obj _ _ st5)
    have e5:Ext X.K _ Hc _ H5:=.of_same (Z:=ge) sm
    have S5:St0 X.K H5 (aX cap ρ) ge db:=⟨Sc.mu.BM e5 sm,Sc.rho.ext Sc.mu e5⟩
    obtain⟨gt,pg,lg⟩:=hg fp s3 H3
    refine thn (pg _ s5 db H5 x u (fun bn H'=>∃bm U,Ext X.K ge H5 U H'/\St0 X.K H' bm U bn/\Le (aX cap ρ) bm/\c bm U fun b be=>
      if b=true then te bm be fun d' ci=>ci s2.heap.objs.size=some acc/\(match d' with|.v y=>Pv (i+1) (acc++[y]) (aA ci s2.heap.objs.size (acc++[y]))|_=>False) else be s2.heap.objs.size=some acc/\Pv (i+1) acc be) I5' r5
     (lg db H5 (aX cap ρ) _ (.v d) x _ _ S5 rd (body i d acc ge hd hpa pvi) fun bn bm U H' e' S' q=>⟨bm,U,e',S',q⟩)) fun _ s6 ⟨ga,H6,I6,jp,nw,e6,S6,le6,q6⟩=>?_
    refine thn (hif fp s3 H3 _ s6 ga H6 jp nw _ (fun b H'=>∃U,Ext X.K nw H6 U H'/\St0 X.K H' jp U ga/\if b=true then te jp U fun d' ci=>ci s2.heap.objs.size=some acc/\(match d' with|.v y=>Pv (i+1) (acc++[y]) (aA ci s2.heap.objs.size (acc++[y]))|_=>False) else U s2.heap.objs.size=some acc/\Pv (i+1) acc U)
     I6 S6 q6 fun b U H' e' S' q=>⟨U,e',S',q⟩) fun b s7 ⟨H7,I7,ls,e7,S7,q7⟩=>?_
    have again:∀{H9:Hp} {s9:Shared} {acc':List PyData} {o0:Mu},Inv (az X N' scope cl fp s3 H3) ([]++mI fp s5.heap) ga H9 s9->acc'.length<=i+1->o0 s2.heap.objs.size=some acc'->Pv (i+1) acc' o0->bD X.K o0 H9->fG X.K o0 H9 (aX cap ρ) ga ->
      Ext X.K ad H2 o0 H9->∃m,m<xs.length-i/\∃(i:Nat) (db:St) (Hc:Hp) (acc:List PyData) (ge:Mu),m=xs.length-i/\i<=xs.length/\Inv (az X N' scope cl fp s3 H3) [] db Hc s9/\tn i s9.heap/\(∀b∈fp,Hc b=none) /\
       acc.length<=i/\ge s2.heap.objs.size=some acc/\Pv i acc ge/\St0 X.K Hc (aX cap ρ) ge db/\Ext X.K ad H2 ge Hc:=fun {H9 s9 acc' o0} I9 l9 p9 v9 m9 r9 e9=>by
     refine⟨xs.length-(i+1),∅,i+1,ga,H9,acc',o0,rfl,hlt,I9.dn,T.keep _ _ _ st5 fun b hb o e=>(I9.pin (b,o) (mem_append_right _ (mem_append_right _ (bA hb e)))).1,fun b hb=>?_,l9,p9,v9,⟨m9,r9⟩,e9⟩
     obtain⟨o,e,_⟩:=T.obj _ _ st5 b hb
     exact (I9.pin (b,o) (mem_append_right _ (mem_append_right _ (bA hb e)))).2.1
    cases b with
    |false=>
     have q8:ls s2.heap.objs.size=some acc/\Pv (i+1) acc ls:=by simpa using q7
     refine vj ?_
     exact again I7 ∅ q8.1 q8.2 S7.mu (S7.rho.le le6) (Ec.trans (e5.trans (e6.trans e7)))
    |true=>
     refine ve ?_
     obtain⟨t8,p8,l8⟩:=he fp s3 H3
     refine thn (p8 _ s7 ga H7 (fun v H'=>∃y kw,Ext X.K ls H7 kw H'/\St0 X.K H' jp kw ga/\Rp X.K kw H' y v/\kw s2.heap.objs.size=some acc/\Pv (i+1) (acc++[y]) (aA kw s2.heap.objs.size (acc++[y]))) I7
      (l8 ga H7 jp ls _ _ S7 (by simpa using q7) fun d' v kw H8 e8 S8 r8 q8=>?_)) fun v s8 ⟨v8,H8,I8,r8,y,kw,e8,S8,ry,pa8,fy⟩=>?_
     ·obtain⟨q80,q8⟩:=q8
      cases d' with
      |v y=>exact⟨y,kw,e8,S8,r8,q80,q8⟩
      |m _=>exact q8.elim
      |s _=>exact q8.elim
      |o _=>exact q8.elim
      |b _=>exact q8.elim
      |q _=>exact q8.elim
     ·obtain⟨us,hacc,rus⟩:=S8.mu s2.heap.objs.size _ pa8
      have hle:acc.length<=1000:=by omega
      refine thn (j3 (X:=az X N' scope cl fp s3 H3) _ s8 ga H8 (.ref s2.heap.objs.size) [v8] (.ref s2.heap.objs.size) [v] (fun _ H'=>H'=upd H8 s2.heap.objs.size (.lst (us++[v8]))) I8 rfl (.cons r8 .nil) ⟨_,us,v8,rfl,rfl,hacc,by rw[<- rus.length];exact dP hle,rfl⟩) fun _ s9 hq0=>?_
      obtain⟨_,H9,I9,_,e9⟩:=hq0
      subst e9
      have ex:Ext X.K kw H8 (aA kw s2.heap.objs.size (acc++[y])) (upd H8 s2.heap.objs.size (.lst (us++[v8]))):=eS pa8
      exact again I9 (by rw[length_append,List.length_singleton];omega) aD fy (S8.mu.set pa8 (rus.append (.cons ry .nil))) ((S8.rho.le le6).ext S8.mu ex) (Ec.trans (e5.trans (e6.trans (e7.trans (e8.trans ex)))))
   ·have ei:i=xs.length:=by omega
    subst ei
    refine thn (T.done (az X N' scope cl fp s3 H3) rfl rfl rfl (fun z=>z) _ [] s' db Hc (fun _ _=>False) Ic (stat frc) tc (stop rfl)) fun r s4 hq0=>?_
    obtain⟨hr,I5⟩:=hq0
    subst hr
    obtain⟨m,hn,_⟩:=I5.loc
    have hcC:Hc hp3.objs.size=none:=by have z:Hc s3.heap.objs.size=none:=I5.free;rw[heap3] at z;exact z
    obtain⟨us,hacc,rus⟩:=Sc.mu s2.heap.objs.size _ hpa
    have shr:∀a,ge a=none->jY ge s2.heap.objs.size a=none:=fun a e=>by
     by_cases z:a=s2.heap.objs.size
     ·rw[z];exact iU
     ·rw[gF z];exact e
    have dne:∀a ds,jY ge s2.heap.objs.size a=some ds->ge a=some ds:=fun a ds e=>by
     by_cases z:a=s2.heap.objs.size
     ·rw[z,iU] at e;cases e
     ·rw[gF z] at e;exact e
    have eF:Ext X.K ad H2 (jY ge s2.heap.objs.size) Hc:=by
     refine⟨Ec.keep,Ec.tb,fun b ds q=>?_,fun b q z=>shr b (Ec.fresh b q z),Ec.st,fun b c q=>Ec.bx b c q⟩
     obtain⟨es,q2⟩:=Ec.dom b ds q
     have:b≠s2.heap.objs.size:=fun z=>by rw[z,ld] at q;cases q
     exact⟨es,by rw[gF this];exact q2⟩
    have mF:bD X.K (jY ge s2.heap.objs.size) Hc:=⟨fun a ds q=>by
     obtain⟨ys,z1,z2⟩:=Sc.mu a ds (dne a ds q)
     exact⟨ys,z1,z2.shrink shr⟩,Sc.mu.tab,fun a c q=>let ⟨z,o,w1,w2⟩:=Sc.mu.box a c q;⟨z,o,w1,w2.shrink shr⟩⟩
    refine hend s4 Hc hp3.objs.size s2.heap.objs.size m acc (jY ge s2.heap.objs.size) (by have z:s4.heap.Ns s3.heap.objs.size m:=hn;rw[heap3] at z;exact z) (I2.BZ (by rw[hsz3];exact Nat.le_succ _) hcC) (fun h' hs'=>?_) (e1.trans eF) ⟨mF,S1.rho.ext S1.mu eF⟩ (Rp.list hacc iU (rus.shrink shr)) (fin acc ge pvi hpa)
    have kp:∀b o,b<s2.heap.objs.size->s4.heap.get? b=some o->h'.get? b=some o:=fun b o hb e=>hs'.extBut b o (by rw[hsz3];exact ne_of_lt (lt_succ_of_lt hb)) e
    have hok':HOk X.prog X.w Hc h':=fun b ob e=>by
     refine (I5.hok b ob e).pM (fun cc v hcc q=>hs'.extBut cc v ?_ q) (fun _ q=>q) fun _ _ q=>q
     rintro rfl
     rcases hcc with z|z
     ·rw[<- z,hcC] at e;cases e
     ·rw[hcC] at z;cases z
    have u1:Un (frs X.stack) fp H2 H3 s2.heap s3.heap:=by rw[heap3,hH3];exact Un.laid old3 (le_refl _) hfree2
    have u2:Un (frs X.stack) fp H3 Hc s3.heap s4.heap:=I5.base
    exact I2.uJ (ch:=fp) (by show s4.os=s2.os;have z:s4.os=s3.os:=I5.os;rw[z,hs3]) (Un.after (u1.trans u2) kp) hok' I5.bare fun b hb=>⟨(f2 b hb).2.2.2.1,(f2 b hb).2.1,(f2 b hb).2.2.2.2.1,(f2 b hb).2.2.2.2.2⟩
  ·have z:b≠s2.heap.objs.size:=ne_of_lt (fplt b hb)
   rw[hH3,aR z]
   exact (f2 b hb).1
  ·have ex:=d5 (o:=.lst []) (ds:=[]) S1.mu hfree2 hK2
   rw[hH3]
   exact⟨S1.mu.mut .nil hfree2 hK2,(S1.rho.ext S1.mu ex).cap⟩
  ·rw[hH3]
   exact d5 (o:=.lst []) (ds:=[]) S1.mu hfree2 hK2
 have envE:(az X N' scope cl fp s3 H3).env=compEnvC scope cl hp3.objs.size X.env:=by show compEnvC scope cl s3.heap.objs.size X.env=_;rw[heap3]
 rw[envE] at loop
 exact codeAny_compStart_list loop (T.self X.A 0 _ _ _ (T.keep 0 _ _ st2 (fun b hb o e=>kept3 b o (old3 b o e))) loop)
theorem Ct{X:Cx}{N':List Str}{scope:Scope}{cl:List (Str×Addr)}{elt iter tg:Expr}{ifs:List Expr}{pos:Pos}{cap:List (Option Nat)}{src:DTI}{g:DTG}{c:DTT}{te:DTE}(hc:X.calm=X.calm)
  (hi:DI X tg iter src) (hg:∀fp bi bv,DG (az X N' scope cl fp bi bv) tg g) (hif:∀fp bi bv,w5 (az X N' scope cl fp bi bv) ifs c) (he:∀fp bi bv,DE (az X N' scope cl fp bi bv) elt te)
  (hclos:closureFor scope X.env=pure cl) (hcell:∀y∈scope.names,y.2≠.cell) (hkind:scope.kind = .function) (hnames:∀y∈scope.names,y.2 = .local->scope.names.lookup y.1=some .local)
  (hcl:∀x a,cl.lookup x=some a->X.env.cells.lookup x=some a) (hhas:∀x,(relabel scope X.env).names.lookup x=some .cell\/(relabel scope X.env).names.lookup x=some .free->∃a,cl.lookup x=some a)
  (hlen:cap.length=N'.length) (hcap:∀(i j:Nat) (x:Str),cap[i]? = some (some j)->N'[i]? = some x->X.N[j]? = some x/\Vis X.env.scope x/\X.env.kindOf x≠some .local/\((relabel scope X.env).names.lookup x=some .cell\/(relabel scope X.env).names.lookup x=some .free))
  (hs:∀x,foldedSetIterable iter X.env x=pure x:=by intro _;rfl):DE X (.ListComp elt [⟨tg,iter,ifs,0⟩] scope pos) (iL cap src g c te):=by
 refine E8 fun pins s σ H ρ Z Qd Q I S h k=>?_
 rw[eval_ListComp]
 refine yF hc hi hg hif he hclos hcell hkind hnames hcl hhas hlen hcap hs I S h fun s4 Hc C pa m acc lf hn _ hI e1 S1 r q=>?_
 exact⟨m,hn,fun h' hs'=>⟨.ref pa,Hc,hI h' hs',rfl,k (.v (.list acc)) _ lf Hc e1 S1 r q⟩⟩
theorem ns_obj{h:Heap}{C:Addr}{m:Str->Option Value}(hn:h.Ns C m):∃o,h.get? C=some o/\∀v,o.data≠.cell v:=let ⟨o,es,ep,ho,hd,_⟩:=hn;⟨o,ho,fun v z=>by rw[hd] at z;cases z⟩
theorem GC{h h':Heap}{C:Addr}{m:Str->Option Value}(hn:h.Ns C m)(e:h'.get? C=h.get? C):h'.Ns C m:=let ⟨o,es,ep,ho,r⟩:=hn;⟨o,es,ep,e.trans ho,r⟩
theorem ug{X:Cx}{i:Nat}{x:Str}{pos' spos:Pos}{N':List Str}{scope:Scope}{cl:List (Str×Addr)}{elt iter tg:Expr}{ifs:List Expr}{pos:Pos}{cap:List (Option Nat)}{src:DTI}{g:DTG}{c:DTT}{te:DTE}(hN:X.N.Nodup)(hix:X.N[i]? = some x)(hx:X.env.scope.names.lookup x=some .local)(hc:X.calm=X.calm)
  (hi:DI X tg iter src) (hg:∀fp bi bv,DG (az X N' scope cl fp bi bv) tg g) (hif:∀fp bi bv,w5 (az X N' scope cl fp bi bv) ifs c) (he:∀fp bi bv,DE (az X N' scope cl fp bi bv) elt te)
  (hclos:closureFor scope X.env=pure cl) (hcell:∀y∈scope.names,y.2≠.cell) (hkind:scope.kind = .function) (hnames:∀y∈scope.names,y.2 = .local->scope.names.lookup y.1=some .local)
  (hcl:∀x a,cl.lookup x=some a->X.env.cells.lookup x=some a) (hhas:∀x,(relabel scope X.env).names.lookup x=some .cell\/(relabel scope X.env).names.lookup x=some .free->∃a,cl.lookup x=some a)
  (hlen:cap.length=N'.length) (hcap:∀(i j:Nat) (x:Str),cap[i]? = some (some j)->N'[i]? = some x->X.N[j]? = some x/\Vis X.env.scope x/\X.env.kindOf x≠some .local/\((relabel scope X.env).names.lookup x=some .cell\/(relabel scope X.env).names.lookup x=some .free))
  (hs:∀x,foldedSetIterable iter X.env x=pure x:=by intro _;rfl)
  (hsw:swapsWith (.ListComp elt [⟨tg,iter,ifs,0⟩] scope pos) (some (.Name x pos')) spos.line X.env=pure true:=by rfl):DS X (.Assign [.Name x pos'] (.ListComp elt [⟨tg,iter,ifs,0⟩] scope pos) spos) (bc (iL cap src g c te) (aq i)):=by
 refine⟨fun D σ H=>∃ρ Z Dd,St0 X.K H ρ Z σ/\bc (iL cap src g c te) (aq i) Dd ρ Z/\(∀bn bm U H',Ext X.K Z H U H'->St0 X.K H' bm U bn->Dd.nx bm U->D.nx bn H'),?_,fun σ H ρ Z Dd De S h k1 k2 k3 k4=>⟨ρ,Z,Dd,S,h,k1⟩⟩
 rintro pins s σ H D I ⟨ρ,Z,Dd,S,h,k1⟩
 rw[exec_Assign_Name_used _ _ _ _ hsw]
 refine wpAny_bind (wpAny_standAt ?_)
 show wpAny _ _ ((comprehension (.ListComp elt [⟨tg,iter,ifs,0⟩] scope pos) scope X.env (firstIterPos [⟨tg,iter,ifs,0⟩] pos) (newList []) false (eval iter X.env) (some (assign (.Name x pos') X.env))>>=fun _=>pure ())>>=_) _ _ s
 refine wpAny_bind (wpAny_bind (yF (Qd:=fun d ad=>aq i d ρ ad Dd.nx) hc hi hg hif he hclos hcell hkind hnames hcl hhas hlen hcap hs I S h fun s4 Hc C pa m acc lf hn fC hI e1 S1 r q=>?_))
 have I4:Inv X pins σ Hc s4:=hI s4.heap (Heap.SameBut.refl _ _)
 obtain⟨oC,hoC,hdC⟩:∃o,s4.heap.get? C=some o/\∀v,o.data≠.cell v:=by
  obtain⟨o,h1,h2⟩:=ns_obj hn
  exact⟨o,h1,h2⟩
 have I5:=I4.pinned (fp:=[C]) (fun b hb=>by rw[List.mem_singleton.mp hb];exact fC) (fun b hb=>by rw[List.mem_singleton.mp hb];exact⟨oC,hoC,hdC⟩)
 show wpAny _ _ (assign (.Name x pos') X.env (.ref pa)) _ _ s4
 refine wpAny_assign_Name (kd I5 hN hix (Or.inl hx) (show RelV (.ref pa) (.ref pa) from rfl) (fun s' I'=>?_) (.inr hx))
 have keepC:s'.heap.get? C=some oC:=(I'.pin (C,oC) (mem_append_right _ (mem_append_right _ (bA (List.mem_singleton.mpr rfl) hoC)))).1
 have hn':s'.heap.Ns C m:=GC hn (by rw[keepC,hoC])
 refine⟨m,hn',fun h' hs'=>wpAny_pure (wpAny_pure ?_)⟩
 refine⟨σ.set i (some (.ref pa)),Hc,?_,k1 _ _ _ _ e1 ⟨S1.mu,S1.rho.set (d:=.v (.list acc)) r⟩ q⟩
 refine I'.dn.uJ (ch:=[C]) rfl ⟨fun b o e n hb hx=>?_,fun b o e n hb hx=>?_,fun b o e n hx=>n,fun b o e hx=>?_,fun b xs e=>e,fun b o u e=>e,fun b ps e=>⟨#[],by rw[Array.append_empty];exact e⟩⟩ ?_ I'.bare fun b hb=>?_
 ·exact hs'.extBut b o (fun z=>hx (List.mem_singleton.mpr z)) e
 ·exact⟨o.slots,hs'.extBut b o (fun z=>hx (List.mem_singleton.mpr z)) e⟩
 ·exact⟨o,hs'.extBut b o (fun z=>hx (List.mem_singleton.mpr z)) e⟩
 ·exact fun b ob e=>by
   refine (I'.hok b ob e).pM (fun cc v hcc q=>hs'.extBut cc v ?_ q) (fun _ q=>q) fun _ _ q=>q
   rintro rfl
   rcases hcc with z|z
   ·rw[<- z,fC.1] at e;cases e
   ·rw[fC.1] at z;cases z
 ·rw[List.mem_singleton.mp hb]
  exact⟨fC.2.2.2.1,fC.2.1,fC.2.2.2.2.1,fC.2.2.2.2.2⟩
theorem kX{cap:List (Option Nat)}{src:DTI}{g:DTG}{t:DTT}{ta:DTE}{ρ:Rho}{Z:Mu}{Q:DK}:iL cap src g t ta ρ Z Q=src ρ Z fun xs ad=>xs.length<=1000/\∀p,ad p=none->∃Pv:Nat->List PyData->Mu->Prop,Pv 0 [] (aA ad p []) /\
 (∀i x acc U,xs[i]? = some x->U p=some acc->Pv i acc U->g (.v x) (aX cap ρ) U fun ce am=>Le (aX cap ρ) ce/\t ce am fun b be=>
  if b=true then ta ce be fun d ci=>ci p=some acc/\(match d with|.v y=>Pv (i+1) (acc++[y]) (aA ci p (acc++[y]))|_=>False) else be p=some acc/\Pv (i+1) acc be) /\
 (∀acc U,Pv xs.length acc U->U p=some acc->Q (.v (.list acc)) (jY U p)):=propext Iff.rfl
theorem nV{Z:Mu}{p:Addr}{ds:List PyData}(h:Z p=none):jY (aA Z p ds) p=Z:=Mu.eq (fun b=>by
 by_cases e:b=p
 ·rw[e,iU,h]
 ·rw[gF e,aQ e]) fun _=>rfl
theorem Ob{xs:List PyData}{f:PyData->Option PyData}{i:Nat}{d:PyData}(h:xs[i]? = some d):(xs.take (i+1)).filterMap f=(xs.take i).filterMap f++(f d).toList:=Aa h
theorem Inv.we{X:Cx}{pins:List (Addr×Obj)}{σ:St}{H:Hp}{s:Shared}{h':Heap}{t':Nat}{ch:List Addr}{a:Addr}{o:HO}(I:Inv X pins σ H s)(hc:∀b∈ch,mh X pins H b)
  (k:∀b u,b ∉ ch->s.heap.get? b=some u->h'.get? b=some u) (hp:s.heap.objs.size<=a) (new:iI X.prog X.w (upd H a o) h' a o):Inv X pins σ (upd H a o) {s with heap:=h',toks:=t'}:=by
 have hn:=I.hok.fresh hp
 have nin:∀b u,H b=some u->b ∉ ch:=fun b u e z=>by rw[(hc b z).1] at e;cases e
 refine I.call (g':=s.gens) (d':=s.drawn) (t':=t') (ch:=ch) ?_ ?_ I.bare fun b hb=>?_
 ·exact⟨fun b u q _ _ x=>k b u x q,fun b u q _ _ x=>⟨u.slots,k b u x q⟩,fun b u q n _=>by rw[aR (ne_of_lt (lt_of_lt_of_le (Heap.lt_size q) hp))];exact n,fun b u q x=>⟨u,k b u x q⟩,
   fun b xs q=>by rw[aR (aV q hn)];exact q,fun b u xs q=>by rw[aR (aV q hn)];exact q,fun b ps q=>⟨#[],by rw[aR (aV q hn),q];simp⟩⟩
 ·intro b u e
  by_cases hb:b=a
  ·subst hb;rw[dW] at e;cases e;exact new
  ·rw[aR hb] at e
   refine (I.hok b u e).pM (fun c v hcv q=>k c v ?_ q) (fun c q=>by rw[aR (aV q hn)];exact q) fun c xs q=>by rw[aR (aV q hn)];exact q
   rcases hcv with z|z
   ·rw[z];exact nin b u e
   ·exact nin c _ z
 ·obtain⟨_,f1,f2,f3,f4,f5⟩:=hc b hb
  exact⟨f3,f1,f4,f5⟩
theorem Inv.Ff{X:Cx}{pins:List (Addr×Obj)}{σ:St}{H:Hp}{s:Shared}{h':Heap}{t':Nat}{ch:List Addr}(I:Inv X pins σ H s)(hc:∀b∈ch,mh X pins H b)
  (k:∀b u,b ∉ ch->s.heap.get? b=some u->h'.get? b=some u):Inv X pins σ H {s with heap:=h',toks:=t'}:=by
 have nin:∀b u,H b=some u->b ∉ ch:=fun b u e z=>by rw[(hc b z).1] at e;cases e
 refine I.call (g':=s.gens) (d':=s.drawn) (t':=t') (ch:=ch) ?_ ?_ I.bare fun b hb=>?_
 ·exact⟨fun b u q _ _ x=>k b u x q,fun b u q _ _ x=>⟨u.slots,k b u x q⟩,fun b u q n _=>n,fun b u q x=>⟨u,k b u x q⟩,fun b xs q=>q,fun b u xs q=>q,fun b ps q=>⟨#[],by rw[q];simp⟩⟩
 ·intro b u e
  refine (I.hok b u e).pM (fun c v hcv q=>k c v ?_ q) (fun c q=>q) fun c xs q=>q
  rcases hcv with z|z
  ·rw[z];exact nin b u e
  ·exact nin c _ z
 ·obtain⟨_,f1,f2,f3,f4,f5⟩:=hc b hb
  exact⟨f3,f1,f4,f5⟩
section
variable {X:Cx}{es:List Expr}{x1:Nat}{tpos:Pos}
def JB:List PyData->List PyData->List PyData
 |x::xs,y::ys=>.tuple [x,y]::JB xs ys
 |_,_=>[]
end
section
variable {X:Cx}{a b e:Expr}{es:List Expr}{ta tb te:DTE}{t:DTA}{p pos:Pos}
def k0:List D->Mu->DK->Prop:=fun xs Z Q=>match xs with
 |[.v (.list ys)]=>Q (.v (.tuple ys)) Z
 |[.v (.tuple ys)]=>Q (.v (.tuple ys)) Z
 |[.m l]=>(match Z l with|some ys=>Q (.v (.tuple ys)) Z|none=>False)
 |_=>False
theorem Jl{K:PySem.W.Frag}:lN K (fun xs H Q=>∃p ys,xs=[.ref p]/\((SqL K H p ys/\∀l,H l=none->Q (.ref l) (upd H l (.tup ys)))\/(SqT K H p ys/\Q (.ref p) H))) k0:=by
 intro xs us H Z Qd Q ok rs h k
 unfold k0 at h
 split at h
 ·cases rs with
  |cons r1 r2=>
   cases r2
   cases r1 with
   |list hs hn r=>exact⟨_,_,rfl,.inl ⟨SqL.of hs,fun l hl=>k (.v _) _ Z _ (de hl) (ok.new hl) (eo ok r hl) h⟩⟩
 ·cases rs with
  |cons r1 r2=>
   cases r2
   cases id r1 with
   |tuple hs r=>exact⟨_,_,rfl,.inr ⟨hs,k (.v _) _ Z H .refl ok r1 h⟩⟩
 ·cases rs with
  |cons r1 r2=>
   cases r2
   obtain⟨rfl,ds,hm⟩:=r1
   rw[hm] at h
   obtain⟨us,hl,r⟩:=ok _ ds hm
   exact⟨_,_,rfl,.inl ⟨SqL.of hl,fun l hl'=>k (.v _) _ Z _ (de hl') (ok.new hl') (eo ok r hl') h⟩⟩
 ·exact h.elim
theorem BY(hg:Gl X "tuple")(hm:X.mg "tuple"=none)(ha:DA X (e::es) t)
  (he:starEach (e::es) X.env=(false,eval e X.env)::starEach es X.env:=by rfl) (hpl:(backTo pos (starEach es X.env)).any (·.1)=false:=by rfl):DE X (.Call (.Name "tuple" p) (e::es) [] pos) (dCB k0 t):=
 qY xC Jl hg hm PyProof.Rows.Boot.«tuple» ha ⋯ ⋯ he hpl
theorem pN{ys:List PyData}{Z:Mu}{Q:DK}:k0 [.v (.list ys)] Z Q=Q (.v (.tuple ys)) Z:=propext Iff.rfl
theorem pL{l:Addr}{Z:Mu}{Q:DK}:k0 [.m l] Z Q=(match Z l with|some ys=>Q (.v (.tuple ys)) Z|none=>False):=propext Iff.rfl
def BH:D->D->Mu->DK->Prop:=fun x y Z Q=>match x,y with
 |.v (.list xs),.v (.int k)=>(0<=k/\k<=1000/\xs.length*k.toNat<=1000)/\Q (.v (.list (List.replicate k.toNat xs).flatten)) Z
 |_,_=>False
theorem RpL.rep{K:PySem.W.Frag}{Z:Mu}{H:Hp}{ds:List PyData}{us:List V}(r:RpL K Z H ds us):∀n:Nat,RpL K Z H (List.replicate n ds).flatten (List.replicate n us).flatten
 |0=>.nil
 |n+1=>by rw[replicate_succ,flatten_cons,replicate_succ,flatten_cons];exact r.append (RpL.rep r n)
theorem Oh{K:PySem.W.Frag}:gC K Ph BH:=by
 intro x y ux uy H Z Qd Q ok rx ry h k
 unfold BH at h
 split at h
 ·rename_i xs n
  cases ry
  cases rx with
  |@list a us _ ha hn ra=>exact⟨a,n,us,rfl,rfl,ha,∅,∅,yO (by rw[<- ra.length];exact h.1.2.2),fun p hp=>k (.v _) _ Z _ (de hp) (ok.new hp) (iC ok (ra.rep _) hp) h.2⟩
 ·exact h.elim
theorem Nf(ha:DE X a ta)(hb:DE X b tb):DE X (.BinOp a .Mult b pos) (dOp BH ta tb):=pY Ov Oh ha hb
theorem Fl{xs:List PyData}{k:Int}{Z:Mu}{Q:DK}:BH (.v (.list xs)) (.v (.int k)) Z Q=((0<=k/\k<=1000/\xs.length*k.toNat<=1000)/\Q (.v (.list (List.replicate k.toNat xs).flatten)) Z):=propext Iff.rfl
end
section
variable {prog:Program}{w:World}{A:Around}{E:Value->Shared->Prop}{s:Shared}
theorem D2{it t:Addr}{i:Nat}{items:Array Value}{x:Value}{Q:Value->Shared->Prop}(hit:IsTupIter s.heap it t i)(ht:IsTup s.heap t items)(hx:items[i]? = some x)
  (k:∀h',IsTupIter h' it t (i+1)->Heap.SameBut it s.heap h'->Q x {s with heap:=h'}):wpAny (model prog w) A (Builtin.SmallTypes.nextOf (.ref it)) Q E s:=by
 obtain⟨o,ho,hc,hd⟩:=id hit
 obtain⟨ol,hol,_,nl,hdl⟩:=ht
 unfold Builtin.SmallTypes.nextOf
 refine wpAny_bind (wpAny_callSpecial?_slot (name:=Str.ofString "__next__") hit.typeIs slot_tupleiter_next (wpAny_call_entry slot_tupleiter_next hit.typeIs entry_tupleiter_next ?_ (args_tupleiter_next _)))
 show wpAny _ _ (field (.ref it) 0>>=_) _ _ s
 refine wpAny_bind (wpAny_field ho hd (x:=.ref t) rfl ?_)
 show wpAny _ _ (if (Value.ref t==Value.none)=true then _ else _) _ _ s
 rw[if_neg (show ¬ ((Value.ref t==Value.none)=true) from Bool.false_ne_true)]
 refine wpAny_bind (wpAny_field ho hd (x:=.int i 0) rfl (wpAny_bind (m:=seqItems? (.ref t)) (wpAny_seqItems hol hdl ?_)))
 simp only[Int.toNat_natCast,hx]
 refine wpAny_bind (wpAny_setField ho hd (by simp) (wpAny_pure ⟨x,rfl,wpAny_pure (k _ ⟨_,Heap.get?_update_self _ ho (Obj.isFreed_of_fields (Obj.data_mapFields hd _)),(Obj.cls_mapFields ..).trans hc,?_⟩ (Heap.SameBut.update ..))⟩))
 rw[Obj.data_mapFields hd]
 simp[rawInt]
theorem sM{it t:Addr}{i:Nat}{items:Array Value}{Q:Value->Shared->Prop}(hh:A.handled=none)(hit:IsTupIter s.heap it t i)(ht:IsTup s.heap t items)(hx:items[i]? = none)
  (k:∀h' e,Heap.ExtBut it s.heap h'->(∃o,h'.get? e=some o/\o.cls = .type "StopIteration")->E (.ref e) {s with heap:=h'}):wpAny (model prog w) A (Builtin.SmallTypes.nextOf (.ref it)) Q E s:=by
 obtain⟨o,ho,hc,hd⟩:=id hit
 obtain⟨ol,hol,_,nl,hdl⟩:=ht
 unfold Builtin.SmallTypes.nextOf
 refine wpAny_bind (wpAny_callSpecial?_slot (name:=Str.ofString "__next__") hit.typeIs slot_tupleiter_next (wpAny_call_entry slot_tupleiter_next hit.typeIs entry_tupleiter_next ?_ (args_tupleiter_next _)))
 show wpAny _ _ (field (.ref it) 0>>=_) _ _ s
 refine wpAny_bind (wpAny_field ho hd (x:=.ref t) rfl ?_)
 show wpAny _ _ (if (Value.ref t==Value.none)=true then _ else _) _ _ s
 rw[if_neg (show ¬ ((Value.ref t==Value.none)=true) from Bool.false_ne_true)]
 refine wpAny_bind (wpAny_field ho hd (x:=.int i 0) rfl (wpAny_bind (m:=seqItems? (.ref t)) (wpAny_seqItems hol hdl ?_)))
 simp only[Int.toNat_natCast,hx]
 refine wpAny_bind (wpAny_rule (wpAny_bind (wpAny_setField ho hd (by simp) ?_)))
 show wpAny _ _ (newExc (.type "StopIteration") []>>=_) _ _ _
 refine wpAny_bind ?_
 simp only[newExc,newTuple]
 refine wpAny_bind (wpAny_newObj_type ?_ (by size_fits))
 refine wpAny_bind (m:=firstArgMember _ _) (wpAny_of_eq (a:=Value.none) (by first|rfl|(simp only[firstArgMember];rfl)) ?_)
 refine wpAny_newObj_type ?_ (by size_fits)
 simp only[raiseNew]
 refine wpAny_bind (wpAny_handled ?_)
 first|rw[show A.in1.handled=none from hh]|rw[hh]
 refine wpAny_bind (wpAny_pure (wpAny_throw ?_))
 refine k _ _ (fun c o hc' e=>?_) ⟨_,Heap.get?_push_size _ rfl,rfl⟩
 exact Heap.get?_push_of_some _ (Heap.get?_push_of_some _ ((Heap.SameBut.update ..).extBut _ _ hc' e))
theorem pU{h h':Heap}{a t:Addr}{i:Nat}(x:IsTupIter h a t i)(e:∀o,h.get? a=some o->h'.get? a=some o):IsTupIter h' a t i:=let ⟨o,ho,r⟩:=x;⟨o,e _ ho,r⟩
abbrev zt1(h:Heap)(l:Addr):Heap:=h.push {cls:=.type "tuple_iterator",data:=.fields #[.ref l,.int 0 0]}
end
theorem cl1{k:Str}{v:Addr}{r:List (Str×Addr)}{x:Str}{a:Addr}(h:List.lookup x [(k,v)]=some a):List.lookup x ((k,v)::r)=some a:=by
 simp only[lookup_cons] at h ⊢
 cases e:x==k with
 |true=>rw[e] at h;exact h
 |false=>rw[e] at h;exact absurd h (by simp)
theorem cl2{k k':Str}{v v':Addr}{r:List (Str×Addr)}{x:Str}{a:Addr}(n:(k==k')=false)(h:List.lookup x [(k,v)]=some a):List.lookup x ((k',v')::(k,v)::r)=some a:=by
 have g:=cl1 (r:=r) h
 simp only[lookup_cons] at h
 cases e:x==k with
 |true=>
  have e':x=k:=by simpa using e
  subst e'
  rw[lookup_cons,n]
  exact g
 |false=>rw[e] at h;exact absurd h (by simp)
section
variable {X:Cx}{e:Expr}{es:List Expr}{t:DTA}{p pos:Pos}
def Ez:List PyData->Option (List Int)
 |[]=>some []
 |.int b::r=>(Ez r).map (b::·)
 |_::_=>none
end
section
variable {X:Cx}{a b c:Expr}{ta tb tc:DTE}{pos:Pos}
theorem cl3{k k':Str}{v v':Addr}{x:Str}{a:Addr}(n:(k==k')=false)(h:List.lookup x [(k,v),(k',v')]=some a):List.lookup x [(k',v'),(k,v)]=some a:=by
 simp only[lookup_cons,List.lookup_nil] at h ⊢
 cases e:x==k with
 |true=>
  have e':x=k:=by simpa using e
  subst e'
  rw[e] at h
  rw[n]
  exact h
 |false=>
  rw[e] at h
  cases e2:x==k' with
  |true=>rw[e2] at h;exact h
  |false=>rw[e2] at h;exact absurd h (by simp)
end
section
variable {X:Cx}{o e:Expr}{to te:DTE}{apos cpos pos:Pos}
noncomputable def QC(to:DTE):DTE:=fun ρ Z Q=>to ρ Z fun x ad=>match x with
 |.m l=>(match ad l with
  |some xs=>∃d,xs[xs.length-1]? = some d/\Q (.v d) (aA ad l xs.dropLast)
  |none=>False)
 |_=>False
theorem RpL.eraseIdx{K:PySem.W.Frag}{Z:Mu}{H:Hp}:∀{ds:List PyData} {us:List V} (i:Nat),RpL K Z H ds us->RpL K Z H (ds.eraseIdx i) (us.eraseIdx i)
 |_,_,_,.nil=>.nil
 |_,_,0,.cons _ t=>t
 |_,_,i+1,.cons h t=>.cons h (RpL.eraseIdx i t)
noncomputable def Dz(to te:DTE):DTE:=fun ρ Z Q=>to ρ Z fun x ad=>match x with
 |.m l=>te ρ ad fun y am=>(match y,am l with
  |.v (.int i),some xs=>(0<=i/\i<1000)/\∃d,xs[i.toNat]? = some d/\Q (.v d) (aA am l (xs.eraseIdx i.toNat))
  |_,_=>False)
 |_=>False
theorem Pq{i:Int}{n:Nat}(h0:0<=i)(h:i.toNat<n):seqIndex? i n=some i.toNat:=by
 unfold seqIndex?
 simp only[Option.ite_none_right_eq_some,Option.some.injEq]<;>first|(split<;>(try split)<;>simp_all<;>omega)|(constructor<;>omega)|omega
theorem Ka(ho:DE X o to)(ha:DE X e te)(hbase:attributeBase o "pop" X.env (eval o X.env)=eval o X.env:=by rfl)
  (hfew:((backTo cpos (starEach [e] X.env)).all (fun x=>!x.1)&&(backToKw cpos (keywordEach [] X.env)).all (fun x=>x.1.isSome)
   && decide ([e].length+([]:List Keyword).length+(if ([]:List Keyword).isEmpty then 0 else 1)<30))=true:=by rfl)
  (hline:(apos.endLine==cpos.line)=true:=by rfl) (hs:starEach [e] X.env=(false,eval e X.env)::starEach [] X.env:=by rfl) (hplain:(backTo cpos (starEach [] X.env)).any (·.1)=false:=by rfl) :
  DE X (.Call (.Attribute o "pop" apos) [e] [] cpos) (Dz to te):=by
 obtain⟨t1,p1,l1⟩:=ho
 obtain⟨t2,p2,l2⟩:=ha
 refine⟨_,JJ plainAttrs_list PySem.F.slot_list_pop PySem.F.type_list_pop Jc p1 (hW p2 sj hs) hbase hfew hline hs hplain,fun σ H ρ Z Qd Q S h k=>?_⟩
 refine l1 σ H ρ Z _ _ S h fun x ux ad H1 e1 S1 rx h1=>?_
 cases x with
 |m l=>
  obtain⟨rfl,ds,hm⟩:=id rx
  obtain⟨us,hl,rl⟩:=S1.mu l ds hm
  refine⟨.inl ⟨rfl,us,SqL.of hl⟩,?_⟩
  refine l2 σ H1 ρ ad _ _ S1 h1 fun y uy am H2 e2 S2 ry h2=>?_
  obtain⟨_,ds2,hm2⟩:=rx.ext S1.mu e2
  obtain⟨us2,hl2,rl2⟩:=S2.mu l ds2 hm2
  rw[hm2] at h2
  split at h2
  ·rename_i i ds3 e3
   cases e3
   obtain⟨⟨i0,i1⟩,d,hd,q⟩:=h2
   cases ry
   obtain⟨u,hu,ru⟩:=rl2.get hd
   have hlt:i.toNat<us2.length:=by
    rcases lt_or_ge i.toNat us2.length with z|z
    ·exact z
    ·rw[getElem?_eq_none z] at hu;cases hu
   have ex:Ext X.K am H2 (aA am l (ds2.eraseIdx i.toNat)) (upd H2 l (.lst (us2.eraseIdx i.toNat))):=eS hm2
   exact⟨l,us2,i,i.toNat,u,rfl,rfl,hl2,∅,∅,Pq i0 hlt,hu,k (.v d) u _ _ (e1.trans (e2.trans ex)) ⟨S2.mu.set hm2 (rl2.eraseIdx _),S2.rho.ext S2.mu ex⟩ (ru.ext S2.mu ex) q⟩
  ·exact h2.elim
 |v d=>exact h1.elim
 |s ns=>exact h1.elim
 |o _=>exact h1.elim
 |b _=>exact h1.elim
 |q _=>exact h1.elim
end
noncomputable def zD(cap:List (Option Nat))(src:DTI)(g:DTG)(c:DTT)(elt:DTE):DTE:=fun ρ Z Q=>src ρ Z fun xs ad=>xs.length<=1000/\∀p,ad p=none->∃Pv:Nat->List PyData->Mu->Prop,Pv 0 [] (aA ad p []) /\
 (∀i x acc U,xs[i]? = some x->U p=some acc->Pv i acc U->g (.v x) (aX cap ρ) U fun ce am=>Le (aX cap ρ) ce/\c ce am fun b be=>
  if b=true then elt ce be fun d ci=>ci p=some acc/\(match d with|.v y=>Pv (i+1) (acc++[y]) (aA ci p (acc++[y]))|_=>False) else be p=some acc/\Pv (i+1) acc be) /\
 (∀acc U,Pv xs.length acc U->U p=some acc->Q (.m p) U)
theorem Er{X:Cx}{pos2:Pos}{use:Option (Value->Sem Unit)}{QQ:Value->Shared->Prop}{pins:List (Addr×Obj)}{s:Shared}{σ:St}{H:Hp}{ρ:Rho}{Z:Mu}{Qd:DK}{N':List Str}{scope:Scope}{cl:List (Str×Addr)}{elt iter tg:Expr}{ifs:List Expr}{pos:Pos}{cap:List (Option Nat)}{src:DTI}{g:DTG}{c:DTT}{te:DTE}(hc:X.calm=X.calm)
  (hi:DI X tg iter src) (hg:∀fp bi bv,DG (az X N' scope cl fp bi bv) tg g) (hif:∀fp bi bv,w5 (az X N' scope cl fp bi bv) ifs c) (he:∀fp bi bv,DE (az X N' scope cl fp bi bv) elt te)
  (hclos:closureFor scope X.env=pure cl) (hcell:∀y∈scope.names,y.2≠.cell) (hkind:scope.kind = .function) (hnames:∀y∈scope.names,y.2 = .local->scope.names.lookup y.1=some .local)
  (hcl:∀x a,cl.lookup x=some a->X.env.cells.lookup x=some a) (hhas:∀x,(relabel scope X.env).names.lookup x=some .cell\/(relabel scope X.env).names.lookup x=some .free->∃a,cl.lookup x=some a)
  (hlen:cap.length=N'.length) (hcap:∀(i j:Nat) (x:Str),cap[i]? = some (some j)->N'[i]? = some x->X.N[j]? = some x/\Vis X.env.scope x/\X.env.kindOf x≠some .local/\((relabel scope X.env).names.lookup x=some .cell\/(relabel scope X.env).names.lookup x=some .free))
  (hs:∀x,foldedSetIterable iter X.env x=pure x )
  (I:Inv X pins σ H s) (S:St0 X.K H ρ Z σ) (h:zD cap src g c te ρ Z Qd)
  (hend:∀(s4:Shared) (Hc:Hp) (C pa:Addr) (m:Str->Option Value) (acc:List PyData) (lf:Mu),s4.heap.Ns C m->mh X pins Hc C->(∀h',Heap.SameBut C s4.heap h'->Inv X pins σ Hc {s4 with heap:=h'}) ->
   Ext X.K Z H lf Hc->St0 X.K Hc ρ lf σ->RpD X.K lf Hc (.m pa) (.ref pa)->Qd (.m pa) lf->compPost (model X.prog X.w) X.A X.xe use QQ (.ref pa) C (.ok .next) s4) :
  wpAny (model X.prog X.w) X.A (comprehension (.ListComp elt [⟨tg,iter,ifs,0⟩] scope pos) scope X.env pos2 (newList []) false (eval iter X.env) use) QQ X.xe s:=by
 obtain⟨wi,pw,li⟩:=hi
 refine wpAny_comprehension_free rfl hs hclos hkind hnames (thn (pw pins s σ H _ I (li σ H ρ Z _ (fun J H1=>∃xs ad,Ext X.K Z H ad H1/\St0 X.K H1 ρ ad σ/\DY X.K J xs ad H1/\xs.length<=1000/\∀p,ad p=none->∃Pv:Nat->List PyData->Mu->Prop,Pv 0 [] (aA ad p []) /\
   (∀i x acc U,xs[i]? = some x->U p=some acc->Pv i acc U->g (.v x) (aX cap ρ) U fun ce am=>Le (aX cap ρ) ce/\c ce am fun b be=>
    if b=true then te ce be fun d ci=>ci p=some acc/\(match d with|.v y=>Pv (i+1) (acc++[y]) (aA ci p (acc++[y]))|_=>False) else be p=some acc/\Pv (i+1) acc be) /\
   (∀acc U,Pv xs.length acc U->U p=some acc->Qd (.m p) U)) S h (fun xs ad H1 J e1 S1 it q=>⟨xs,ad,e1,S1,it,q⟩)))
  fun v s1 h1=>thn h1 fun itv s2 h2=>?_)
 obtain⟨it,fp,tn,J,H2,rfl,I2,T,st2,f2,xs,ad,e1,S1,itok,hxs,allp⟩:=h2
 refine wpAny_newObj_type (wpAny_newFunctionEnv hcell (by intro y hy;simp at hy) (fun dl gV gl=>?_) hkind)
 dsimp only at gV gl ⊢
 have hfree2:H2 s2.heap.objs.size=none:=I2.hok.fresh (le_refl _)
 have hK2:X.K.lookup s2.heap.objs.size=none:=by
  cases z:X.K.lookup s2.heap.objs.size with
  |none=>rfl
  |some o=>exact absurd (Heap.lt_size (I2.kIn _ _ z)) (lt_irrefl _)
 have I3:Inv X pins σ (upd H2 s2.heap.objs.size (.lst [])) {s2 with heap:=s2.heap.push {cls:=.type "list",dict:=none,data:=.seq ([]:List Value).toArray}}:=
  I2.laid (t':=s2.toks) (fun b u e=>Heap.get?_push_of_some _ e) (le_refl _) ⟨zero_le _,[],0,.nil,Heap.get?_push_size _ rfl⟩
 generalize hH:s2.heap.push {cls:=.type "list",dict:=none,data:=.seq ([]:List Value).toArray} = hp3 at gV gl I3 ⊢
 have hsz3:hp3.objs.size=s2.heap.objs.size+1:=by rw[<- hH,Heap.size_push]
 have kept3:∀b o,hp3.get? b=some o->dl.get? b=some o:=fun b o e=>gl.extBut b o (ne_of_lt (Heap.lt_size e)) (Heap.get?_push_of_some _ e)
 have old3:∀b o,s2.heap.get? b=some o->hp3.get? b=some o:=fun b o e=>by rw[<- hH];exact Heap.get?_push_of_some _ e
 have fplt:∀b∈fp,b<s2.heap.objs.size:=fun b hb=>by obtain⟨o,e,_⟩:=T.obj 0 _ st2 b hb;exact Heap.lt_size e
 have fpst:∀b∈fp,b ∉ frs X.stack:=fun b hb hz=>by
  rcases List.mem_cons.mp (I2.gO b hz) with e|e
  ·exact (f2 b hb).2.1 e
  ·exact (f2 b hb).2.2.1 e
 obtain⟨s3,hs3⟩:∃s3:Shared,s3={s2 with heap:=hp3}:=⟨_,rfl⟩
 obtain⟨H3,hH3⟩:∃H3:Hp,H3=upd H2 s2.heap.objs.size (.lst []):=⟨_,rfl⟩
 have heap3:s3.heap=hp3:=by rw[hs3]
 rw[<- hH3] at I3
 have I3':Inv X pins σ H3 s3:=by rw[hs3];exact I3
 have hloc:H3 hp3.objs.size=none:=by have:=I3'.hok.fresh (a:=hp3.objs.size) (by rw[heap3];exact le_refl _);exact this
 have okc:(az X N' scope cl fp s3 H3).Ok:=by
  refine⟨I3.ok.mod,?_,I3.ok.glob,I3.ok.blt,le_refl _,fun x y a h1 h2=>I3.ok.inj x y a (hcl x a h1) (hcl y a h2),fun x hx=>hhas x hx,fun x a h=>(nomatch h),I3.ok.hd,I3.ok.qt,I3.ok.frames,.inl rfl,fun b hb=>⟨?_,fun x a h=>(f2 b hb).2.2.2.2.1 x a (hcl x a h)⟩,
   I3'.bs,le_trans I3.ok.bsz I3'.sz,fun b o e hb=>?_,fun b hb=>fpst b hb,I3'.stack,I3'.nI⟩
  ·exact hkind
  ·show b≠s3.heap.objs.size
   rw[heap3,hsz3]
   exact ne_of_lt (lt_succ_of_lt (fplt b hb))
  ·rcases (f2 b hb).2.2.2.1 with z|z
   ·exact I3.ok.A6 b o e z
   ·exact absurd (lt_of_lt_of_le (Heap.lt_size (I3.ok.bs b o e).1) z) (lt_irrefl _)
 have I4:Inv (az X N' scope cl fp s3 H3) [] (aX cap σ) H3 {s2 with heap:=dl,toks:=s2.toks+([]:List (Str×Value)).length}:=by
  refine⟨okc,by show s2.os=s3.os;rw[hs3],I3.bare,Un.kept (by show ∀b o,s3.heap.get? b=some o->_;rw[heap3];exact kept3),⟨_,(by show dl.Ns s3.heap.objs.size _;rw[heap3];exact gV),fun i x v e1 e2 e3=>?_⟩,fun x a h=>?_,(by show H3 s3.heap.objs.size=none;rw[heap3];exact hloc),fun x a h=>I3.jt x a (hcl x a h),fun p hp=>?_,I3.hok.kept kept3,?_⟩
  ·obtain⟨j,h1,h2⟩:=km e2
   obtain⟨hN,hv,hnl,hk⟩:=hcap i j x h1 e1
   obtain⟨m,_,hl⟩:=I3.loc
   obtain⟨u,r,lk⟩:=hl j x v hN h2 hv
   refine⟨u,r,.inr ⟨hk,?_⟩⟩
   obtain⟨a,ha⟩:=hhas x hk
   rcases lk with ⟨z,_⟩|⟨_,a',z1,z2⟩
   ·exact absurd z hnl
   ·have:a'=a:=by have q:=hcl x a ha;rw[z1] at q;exact Option.some.inj q
    subst this
    obtain⟨o,ho,hd⟩:=z2
    exact⟨a',ha,o,kept3 _ _ ho,hd⟩
  ·obtain⟨v,o,ho,hd⟩:=I3.cell x a (hcl x a h)
   exact⟨v,o,kept3 _ _ ho,hd⟩
  ·have hp':p∈X.pn++pins:=mem_append_left _ (by simpa using (show p∈X.pn++[] from hp))
   obtain⟨z1,z2,z3,z4,z5⟩:=I3'.pin p hp'
   refine⟨kept3 _ _ (by rw[<- heap3];exact z1),z2,(show p.1≠s3.heap.objs.size from ne_of_lt (Heap.lt_size z1)),fun z=>?_,z5⟩
   rcases List.mem_cons.mp (I3'.gO p.1 z) with e|e
   ·exact z3 e
   ·exact z4 e
  ·show (aX cap σ).length=N'.length
   unfold aX
   rw[length_map]
   exact hlen
 have ld:ad s2.heap.objs.size=none:=S1.mu.free hfree2
 obtain⟨Pv,pv0,body,fin⟩:=allp s2.heap.objs.size ld
 have loop:codeAny (model X.prog X.w) X.A (.compLoop (.ListComp elt [⟨tg,iter,ifs,0⟩] scope pos) 0 (.ref it) (.ref s2.heap.objs.size) (az X N' scope cl fp s3 H3).env)
   (compPost (model X.prog X.w) X.A X.xe use QQ (.ref s2.heap.objs.size) hp3.objs.size) {s2 with heap:=dl,toks:=s2.toks+([]:List (Str×Value)).length}:=by
  refine fc (fun n s'=>∃(i:Nat) (db:St) (Hc:Hp) (acc:List PyData) (ge:Mu),n=xs.length-i/\i<=xs.length/\Inv (az X N' scope cl fp s3 H3) [] db Hc s'/\tn i s'.heap/\(∀b∈fp,Hc b=none) /\
   acc.length<=i/\ge s2.heap.objs.size=some acc/\Pv i acc ge/\St0 X.K Hc (aX cap ρ) ge db/\Ext X.K ad H2 ge Hc) ?_ xs.length
   ⟨0,aX cap σ,H3,[],aA ad s2.heap.objs.size [],by simp,zero_le _,I4,T.keep 0 _ _ st2 (fun b hb o e=>kept3 b o (old3 b o e)),fun b hb=>?_,le_refl _,aD,pv0,?_,?_⟩
  ·rintro n s' ⟨i,db,Hc,acc,ge,rfl,hi,Ic,tc,frc,hal,hpa,pvi,Sc,Ec⟩
   have stat:∀{Hd:Hp},(∀b∈fp,Hd b=none)->∀b∈fp,mh (az X N' scope cl fp s3 H3) [] Hd b:=fun hn b hb=>
    ⟨hn b hb,(okc.exf b hb).1,fpst b hb,.inl hb,fun x a h=>(okc.exf b hb).2 x a h,fun p hp=>(f2 b hb).2.2.2.2.2 p (mem_append_left _ (by simpa using (show p∈X.pn++[] from hp)))⟩
   obtain⟨go,stop⟩:=itok _ Hc Ec Sc.mu i
   by_cases hlt:i<xs.length
   ·obtain⟨g1,y1⟩:=go hlt
    refine thn (T.item (az X N' scope cl fp s3 H3) rfl rfl rfl (fun z=>z) i [] s' db Hc (fun _ _=>False) Ic (stat frc) tc g1) fun r s4 hq0=>?_
    obtain⟨u,hr,h4⟩:=hq0
    subst hr
    refine thn h4 fun _ s5 hq0=>?_
    obtain⟨x,H5,I5,r5,y5,st5,fr5⟩:=hq0
    obtain⟨d,hd,sm,rd⟩:=y1 x H5 y5
    have I5':=I5.pinned (stat fr5) (T.obj _ _ st5)
    have e5:Ext X.K _ Hc _ H5:=.of_same (Z:=ge) sm
    have S5:St0 X.K H5 (aX cap ρ) ge db:=⟨Sc.mu.BM e5 sm,Sc.rho.ext Sc.mu e5⟩
    obtain⟨gt,pg,lg⟩:=hg fp s3 H3
    refine thn (pg _ s5 db H5 x u (fun bn H'=>∃bm U,Ext X.K ge H5 U H'/\St0 X.K H' bm U bn/\Le (aX cap ρ) bm/\c bm U fun b be=>
      if b=true then te bm be fun d' ci=>ci s2.heap.objs.size=some acc/\(match d' with|.v y=>Pv (i+1) (acc++[y]) (aA ci s2.heap.objs.size (acc++[y]))|_=>False) else be s2.heap.objs.size=some acc/\Pv (i+1) acc be) I5' r5
     (lg db H5 (aX cap ρ) _ (.v d) x _ _ S5 rd (body i d acc ge hd hpa pvi) fun bn bm U H' e' S' q=>⟨bm,U,e',S',q⟩)) fun _ s6 ⟨ga,H6,I6,jp,nw,e6,S6,le6,q6⟩=>?_
    refine thn (hif fp s3 H3 _ s6 ga H6 jp nw _ (fun b H'=>∃U,Ext X.K nw H6 U H'/\St0 X.K H' jp U ga/\if b=true then te jp U fun d' ci=>ci s2.heap.objs.size=some acc/\(match d' with|.v y=>Pv (i+1) (acc++[y]) (aA ci s2.heap.objs.size (acc++[y]))|_=>False) else U s2.heap.objs.size=some acc/\Pv (i+1) acc U)
     I6 S6 q6 fun b U H' e' S' q=>⟨U,e',S',q⟩) fun b s7 ⟨H7,I7,ls,e7,S7,q7⟩=>?_
    have again:∀{H9:Hp} {s9:Shared} {acc':List PyData} {o0:Mu},Inv (az X N' scope cl fp s3 H3) ([]++mI fp s5.heap) ga H9 s9->acc'.length<=i+1->o0 s2.heap.objs.size=some acc'->Pv (i+1) acc' o0->bD X.K o0 H9->fG X.K o0 H9 (aX cap ρ) ga ->
      Ext X.K ad H2 o0 H9->∃m,m<xs.length-i/\∃(i:Nat) (db:St) (Hc:Hp) (acc:List PyData) (ge:Mu),m=xs.length-i/\i<=xs.length/\Inv (az X N' scope cl fp s3 H3) [] db Hc s9/\tn i s9.heap/\(∀b∈fp,Hc b=none) /\
       acc.length<=i/\ge s2.heap.objs.size=some acc/\Pv i acc ge/\St0 X.K Hc (aX cap ρ) ge db/\Ext X.K ad H2 ge Hc:=fun {H9 s9 acc' o0} I9 l9 p9 v9 m9 r9 e9=>by
     refine⟨xs.length-(i+1),∅,i+1,ga,H9,acc',o0,rfl,hlt,I9.dn,T.keep _ _ _ st5 fun b hb o e=>(I9.pin (b,o) (mem_append_right _ (mem_append_right _ (bA hb e)))).1,fun b hb=>?_,l9,p9,v9,⟨m9,r9⟩,e9⟩
     obtain⟨o,e,_⟩:=T.obj _ _ st5 b hb
     exact (I9.pin (b,o) (mem_append_right _ (mem_append_right _ (bA hb e)))).2.1
    cases b with
    |false=>
     have q8:ls s2.heap.objs.size=some acc/\Pv (i+1) acc ls:=by simpa using q7
     refine vj ?_
     exact again I7 ∅ q8.1 q8.2 S7.mu (S7.rho.le le6) (Ec.trans (e5.trans (e6.trans e7)))
    |true=>
     refine ve ?_
     obtain⟨t8,p8,l8⟩:=he fp s3 H3
     refine thn (p8 _ s7 ga H7 (fun v H'=>∃y kw,Ext X.K ls H7 kw H'/\St0 X.K H' jp kw ga/\Rp X.K kw H' y v/\kw s2.heap.objs.size=some acc/\Pv (i+1) (acc++[y]) (aA kw s2.heap.objs.size (acc++[y]))) I7
      (l8 ga H7 jp ls _ _ S7 (by simpa using q7) fun d' v kw H8 e8 S8 r8 q8=>?_)) fun v s8 ⟨v8,H8,I8,r8,y,kw,e8,S8,ry,pa8,fy⟩=>?_
     ·obtain⟨q80,q8⟩:=q8
      cases d' with
      |v y=>exact⟨y,kw,e8,S8,r8,q80,q8⟩
      |m _=>exact q8.elim
      |s _=>exact q8.elim
      |o _=>exact q8.elim
      |b _=>exact q8.elim
      |q _=>exact q8.elim
     ·obtain⟨us,hacc,rus⟩:=S8.mu s2.heap.objs.size _ pa8
      have hle:acc.length<=1000:=by omega
      refine thn (j3 (X:=az X N' scope cl fp s3 H3) _ s8 ga H8 (.ref s2.heap.objs.size) [v8] (.ref s2.heap.objs.size) [v] (fun _ H'=>H'=upd H8 s2.heap.objs.size (.lst (us++[v8]))) I8 rfl (.cons r8 .nil) ⟨_,us,v8,rfl,rfl,hacc,by rw[<- rus.length];exact dP hle,rfl⟩) fun _ s9 hq0=>?_
      obtain⟨_,H9,I9,_,e9⟩:=hq0
      subst e9
      have ex:Ext X.K kw H8 (aA kw s2.heap.objs.size (acc++[y])) (upd H8 s2.heap.objs.size (.lst (us++[v8]))):=eS pa8
      exact again I9 (by rw[length_append,List.length_singleton];omega) aD fy (S8.mu.set pa8 (rus.append (.cons ry .nil))) ((S8.rho.le le6).ext S8.mu ex) (Ec.trans (e5.trans (e6.trans (e7.trans (e8.trans ex)))))
   ·have ei:i=xs.length:=by omega
    subst ei
    refine thn (T.done (az X N' scope cl fp s3 H3) rfl rfl rfl (fun z=>z) _ [] s' db Hc (fun _ _=>False) Ic (stat frc) tc (stop rfl)) fun r s4 hq0=>?_
    obtain⟨hr,I5⟩:=hq0
    subst hr
    obtain⟨m,hn,_⟩:=I5.loc
    have hcC:Hc hp3.objs.size=none:=by have z:Hc s3.heap.objs.size=none:=I5.free;rw[heap3] at z;exact z
    obtain⟨us,hacc,rus⟩:=Sc.mu s2.heap.objs.size _ hpa
    refine hend s4 Hc hp3.objs.size s2.heap.objs.size m acc ge (by have z:s4.heap.Ns s3.heap.objs.size m:=hn;rw[heap3] at z;exact z) (I2.BZ (by rw[hsz3];exact Nat.le_succ _) hcC) (fun h' hs'=>?_) (e1.trans Ec) ⟨Sc.mu,S1.rho.ext S1.mu Ec⟩ ⟨rfl,acc,hpa⟩ (fin acc ge pvi hpa)
    have kp:∀b o,b<s2.heap.objs.size->s4.heap.get? b=some o->h'.get? b=some o:=fun b o hb e=>hs'.extBut b o (by rw[hsz3];exact ne_of_lt (lt_succ_of_lt hb)) e
    have hok':HOk X.prog X.w Hc h':=fun b ob e=>by
     refine (I5.hok b ob e).pM (fun cc v hcc q=>hs'.extBut cc v ?_ q) (fun _ q=>q) fun _ _ q=>q
     rintro rfl
     rcases hcc with z|z
     ·rw[<- z,hcC] at e;cases e
     ·rw[hcC] at z;cases z
    have u1:Un (frs X.stack) fp H2 H3 s2.heap s3.heap:=by rw[heap3,hH3];exact Un.laid old3 (le_refl _) hfree2
    have u2:Un (frs X.stack) fp H3 Hc s3.heap s4.heap:=I5.base
    exact I2.uJ (ch:=fp) (by show s4.os=s2.os;have z:s4.os=s3.os:=I5.os;rw[z,hs3]) (Un.after (u1.trans u2) kp) hok' I5.bare fun b hb=>⟨(f2 b hb).2.2.2.1,(f2 b hb).2.1,(f2 b hb).2.2.2.2.1,(f2 b hb).2.2.2.2.2⟩
  ·have z:b≠s2.heap.objs.size:=ne_of_lt (fplt b hb)
   rw[hH3,aR z]
   exact (f2 b hb).1
  ·have ex:=d5 (o:=.lst []) (ds:=[]) S1.mu hfree2 hK2
   rw[hH3]
   exact⟨S1.mu.mut .nil hfree2 hK2,(S1.rho.ext S1.mu ex).cap⟩
  ·rw[hH3]
   exact d5 (o:=.lst []) (ds:=[]) S1.mu hfree2 hK2
 have envE:(az X N' scope cl fp s3 H3).env=compEnvC scope cl hp3.objs.size X.env:=by show compEnvC scope cl s3.heap.objs.size X.env=_;rw[heap3]
 rw[envE] at loop
 exact codeAny_compStart_list loop (T.self X.A 0 _ _ _ (T.keep 0 _ _ st2 (fun b hb o e=>kept3 b o (old3 b o e))) loop)
theorem HX{X:Cx}{N':List Str}{scope:Scope}{cl:List (Str×Addr)}{elt iter tg:Expr}{ifs:List Expr}{pos:Pos}{cap:List (Option Nat)}{src:DTI}{g:DTG}{c:DTT}{te:DTE}(hc:X.calm=X.calm)
  (hi:DI X tg iter src) (hg:∀fp bi bv,DG (az X N' scope cl fp bi bv) tg g) (hif:∀fp bi bv,w5 (az X N' scope cl fp bi bv) ifs c) (he:∀fp bi bv,DE (az X N' scope cl fp bi bv) elt te)
  (hclos:closureFor scope X.env=pure cl) (hcell:∀y∈scope.names,y.2≠.cell) (hkind:scope.kind = .function) (hnames:∀y∈scope.names,y.2 = .local->scope.names.lookup y.1=some .local)
  (hcl:∀x a,cl.lookup x=some a->X.env.cells.lookup x=some a) (hhas:∀x,(relabel scope X.env).names.lookup x=some .cell\/(relabel scope X.env).names.lookup x=some .free->∃a,cl.lookup x=some a)
  (hlen:cap.length=N'.length) (hcap:∀(i j:Nat) (x:Str),cap[i]? = some (some j)->N'[i]? = some x->X.N[j]? = some x/\Vis X.env.scope x/\X.env.kindOf x≠some .local/\((relabel scope X.env).names.lookup x=some .cell\/(relabel scope X.env).names.lookup x=some .free))
  (hs:∀x,foldedSetIterable iter X.env x=pure x:=by intro _;rfl):DE X (.ListComp elt [⟨tg,iter,ifs,0⟩] scope pos) (zD cap src g c te):=by
 refine E8 fun pins s σ H ρ Z Qd Q I S h k=>?_
 rw[eval_ListComp]
 refine Er hc hi hg hif he hclos hcell hkind hnames hcl hhas hlen hcap hs I S h fun s4 Hc C pa m acc lf hn _ hI e1 S1 r q=>?_
 exact⟨m,hn,fun h' hs'=>⟨.ref pa,Hc,hI h' hs',rfl,k (.m pa) _ lf Hc e1 S1 r q⟩⟩
theorem Li{cap:List (Option Nat)}{src:DTI}{g:DTG}{t:DTT}{ta:DTE}{ρ:Rho}{Z:Mu}{Q:DK}:zD cap src g t ta ρ Z Q=src ρ Z fun xs ad=>xs.length<=1000/\∀p,ad p=none->∃Pv:Nat->List PyData->Mu->Prop,Pv 0 [] (aA ad p []) /\
 (∀i x acc U,xs[i]? = some x->U p=some acc->Pv i acc U->g (.v x) (aX cap ρ) U fun ce am=>Le (aX cap ρ) ce/\t ce am fun b be=>
  if b=true then ta ce be fun d ci=>ci p=some acc/\(match d with|.v y=>Pv (i+1) (acc++[y]) (aA ci p (acc++[y]))|_=>False) else be p=some acc/\Pv (i+1) acc be) /\
 (∀acc U,Pv xs.length acc U->U p=some acc->Q (.m p) U):=propext Iff.rfl
def Kp(cells:List (Str×Addr)):List (Str×Addr)->Prop
 |[]=>True
 |(k,v)::r=>cells.lookup k=some v/\Kp cells r
theorem BX{cells:List (Str×Addr)}:Kp cells []:=trivial
theorem fE{cells r:List (Str×Addr)}{k:Str}{v:Addr}(h:cells.lookup k=some v)(t:Kp cells r):Kp cells ((k,v)::r):=⟨h,t⟩
theorem p7{cells:List (Str×Addr)}:∀{cl:List (Str×Addr)},Kp cells cl->∀x a,cl.lookup x=some a->cells.lookup x=some a
 |[],_,_,_,h=>by simp at h
 |(k,v)::r,c,x,a,h=>by
  rw[lookup_cons] at h
  cases e:x==k with
  |true=>
   have e':x=k:=by simpa using e
   rw[e] at h
   subst e'
   rw[c.1];exact h
  |false=>
   rw[e] at h
   exact p7 c.2 x a h
abbrev DTX:=Rho->Mu->(Mu->Prop)->Prop
abbrev XSp:=List D->Mu->(Mu->Prop)->Prop
end L2.DL
namespace L2
open PySem PySem.Spec PyProof.Rows DL
noncomputable def OI(tabs:List Addr)(H:Hp):Prop:=∀b,H b=none\/(∃o xs,H b=some (.frz o (.lst xs)))\/(b∈tabs/\H b=some (.tbl #[]))
theorem Ho{P:Program}{w:World}{K:PySem.W.Frag}{mg mb:Str->Option Value}{CX:CXT}{k:Nat}{fa a:Addr}{fd:FuncData}{x:Str}{sp:Sp}{ca:Shared}{vs:List Value}{ns:List Int}(tabs:List Addr)
  (hT:∀p∈tabs,ca.heap.get? p=some (PySem.W.tabObj #[])/\K.lookup p=none) (hA2:∀c o p q,K.lookup c=some o->cX o=some (p,q)->p∈tabs) (hC:∀p∈tabs,isCodeTable ca.heap p)
  (KX:K.In ca.heap) (hns:ca.heap.Ns mainGlobals mg) (hb:ca.heap.Ns builtinsNs mb) (hbb:∀x:Str,x ≠ "__name__"->mb x=bootBuiltins x) (hlim:ca.heap.NoLimit) (hg:ca.gens = #[])
  (ha:ca.heap.get? a=some {cls:=.type "list",data:=.seq vs.toArray}) (hi:IntsAre vs ns) (hl:ns.length<=sizeLine) (hr:ku k callerA)
  (F:∀base:Heap,K.In base->base.Ns mainGlobals mg->bC P w K mg base CX k fa fd [x] sp) (hbind:∀(s:Shared) (u:Value),BindsTo s fd ⟨[u],[]⟩ [(x,u)])
  (hsp:∀H:Hp,Dt K H->SqL K H a (ns.map V.int)->sp [.ref a] H (fun v _=>v = .bl true) fun _ _ _=>False)
  (hCX:∀H e s',CX [] H ca (fun _ _ _=>False) e s'->False) :
  codeAny (model P w) callerA (.call (.ref fa) ⟨[.ref a],[]⟩) (fun r s'=>r = .ok (.ret (.bool true))/\OldK ca.heap s'.heap/\s'.os=ca.os/\AllBare s'.gens) ca:=by
 have rv:=yi hi
 have lenV:=hi.length
 have ant:a ∉ tabs:=fun z=>by have:=(hT a z).1;rw[ha] at this;cases this
 have core:∀H:Hp,OI tabs H->SqL K H a (ns.map V.int)->HOk P w H ca.heap->(∀b,H b≠none->b=a\/b∈tabs)->(H a≠none->K.lookup a=none)->(∀p∈tabs,H p=some (.tbl #[])) ->
   codeAny (model P w) callerA (.call (.ref fa) ⟨[.ref a],[]⟩) (fun r s'=>r = .ok (.ret (.bool true))/\OldK ca.heap s'.heap/\s'.os=ca.os/\AllBare s'.gens) ca:=by
  intro H hO hS hok hA hK hP
  have base_of:∀{b:Addr} {o:Obj},ca.heap.get? b=some o->H b=none->(Ad ca.heap H).get? b=some o:=fun e n=>Ki e n
  have noA:∀{b:Addr} {o:Obj} {es:Array DictEntry} {ep:Nat},ca.heap.get? b=some o->o.data = .dict es ep->H b=none:=fun {b o es ep} e d=>by
   cases q:H b with
   |none=>rfl
   |some u=>
    rcases hA b (by rw[q];simp) with e'|e'
    ·subst e'
     rw[ha] at e;cases e
     have d':Data.seq vs.toArray _=Data.dict es ep:=d
     cases d'
    ·rw[(hT b e').1] at e;cases e
     have d':Data.fields #[]=Data.dict es ep:=d
     cases d'
  have nsK:∀{b:Addr} {m:Str->Option Value},ca.heap.Ns b m->(Ad ca.heap H).Ns b m:=fun {b m} ⟨o,es,ep,e,d,r⟩=>⟨o,es,ep,base_of e (noA e d),d,r⟩
  have hKb:K.In (Ad ca.heap H):=fun b o e=>base_of (KX b o e) (by
   cases q:H b with
   |none=>rfl
   |some u=>
    rcases hA b (by rw[q];simp) with e'|e'
    ·subst e'
     rw[hK (by rw[q];simp)] at e;cases e
    ·have e2:=e;rw[show K.lookup b=none from (hT b e').2] at e2;cases e2)
  have hM:Mod K mg (Ad ca.heap H):=⟨hKb,nsK hns,⟨mb,nsK hb,hbb⟩,let ⟨mc,h1,h2⟩:=hlim;⟨mc,nsK h1,h2⟩⟩
  have e0:LX P w K mg (Ad ca.heap H) callerA [] ca H:=⟨rfl,hM,fun b o e=>Ls e,Nat.le_of_eq (Ht _ _),trivial,fun b hb=>absurd (show b∈([]:List Addr) from hb) (by simp),hok,.of_eq hg⟩
  have tb:Dt K H:=fun c o p q h1 h2=>⟨#[],hP p (hA2 c o p q h1 h2),trivial,fun pos cv e=>by simp[codeAmong] at e⟩
  refine codeAny_mono ((F _ hKb (nsK hns)).run callerA [] ca H ⟨[.ref a],[]⟩ [.ref a] [.ref a] _ _ hr e0 (hbind ca (.ref a)) (.cons rfl .nil) (hsp H tb hS)) fun r s' h=>?_
  cases r with
  |error e=>exact (hCX H e s' h).elim
  |ok fl=>
   cases fl with
   |next=>exact False.elim h
   |brk=>exact False.elim h
   |cont=>exact False.elim h
   |ret u=>
    obtain⟨v,H',os,bare,un,hok',r',q⟩:=h
    have q':v = .bl true:=q
    subst q'
    obtain rfl:u=Value.bool true:=r'
    refine⟨rfl,⟨fun b o e=>?_,fun b o e=>un.there b o e (by simp)⟩,os,bare⟩
    cases q:H b with
    |none=>exact .inl (un.keep b o e q (by intro z;exact absurd (show b∈([]:List Addr) from z) (by simp)) (by simp))
    |some u=>
     rcases hO b with z|⟨ob,xs,z⟩|⟨zt,z⟩
     ·rw[q] at z;cases z
     ·have z2:=un.rj b ob _ z
      obtain⟨e1,_⟩:=hok b _ z
      obtain⟨e2,_⟩:=hok' b _ z2
      rw[e] at e1;cases e1
      exact .inl e2
     ·obtain⟨more,z2⟩:=un.rA b _ z
      have e2:s'.heap.get? b=some {cls:=.none,data:=.fields (#[]++more)}:=hok' b _ z2
      have e1:=(hT b zt).1
      rw[e] at e1;cases e1
      exact .inr (.inl ⟨hC b zt,rfl,#[],more,rfl,e2⟩)
 have okT:∀p∈tabs,ca.heap.get? p=some {cls:=.none,data:=.fields #[]}:=fun p hp=>(hT p hp).1
 cases hk:K.lookup a with
 |some o=>
  have e:=KX a o hk
  rw[ha] at e
  cases e
  refine core (fun b=>if b∈tabs then some (.tbl #[]) else none) (fun b=>?_) (.inr ⟨_,vs.toArray,_,hk,rfl,rfl,rfl,by rw[size_toArray,lenV];exact hl,by simpa using rv⟩) (fun b u z=>?_) (fun b z=>?_) (fun z=>absurd (if_neg ant) z) (fun p hp=>if_pos hp)
  ·by_cases hb:b∈tabs
   ·exact .inr (.inr ⟨hb,if_pos hb⟩)
   ·exact .inl (if_neg hb)
  ·by_cases hb:b∈tabs
   ·have z':=(if_pos hb).symm.trans z;cases z';exact okT b hb
   ·have z':=(if_neg hb).symm.trans z;cases z'
  ·by_cases hb:b∈tabs
   ·exact .inr hb
   ·exact absurd (if_neg hb) z
 |none=>
  refine core (fun b=>if b=a then some (.frz {cls:=.type "list",data:=.seq vs.toArray} (.lst (ns.map V.int))) else if b∈tabs then some (.tbl #[]) else none) (fun b=>?_) (.inl (.inr ⟨{cls:=.type "list",data:=.seq vs.toArray},if_pos rfl⟩)) (fun b u z=>?_) (fun b z=>?_) (fun _=>hk) (fun p hp=>by
   have:p≠a:=fun y=>ant (by rw[<- y];exact hp)
   exact (if_neg this).trans (if_pos hp))
  ·by_cases hb:b=a
   ·exact .inr (.inl ⟨_,_,if_pos hb⟩)
   ·by_cases hb2:b∈tabs
    ·exact .inr (.inr ⟨hb2,(if_neg hb).trans (if_pos hb2)⟩)
    ·exact .inl ((if_neg hb).trans (if_neg hb2))
  ·by_cases hb:b=a
   ·have z':=(if_pos hb).symm.trans z
    cases z'
    subst hb
    exact⟨ha,by rw[length_map];exact hl,vs,_,rv,ha⟩
   ·by_cases hb2:b∈tabs
    ·have z':=((if_neg hb).trans (if_pos hb2)).symm.trans z;cases z';exact okT b hb2
    ·have z':=((if_neg hb).trans (if_neg hb2)).symm.trans z;cases z'
  ·by_cases hb:b=a
   ·exact .inl hb
   ·by_cases hb2:b∈tabs
    ·exact .inr hb2
    ·exact absurd ((if_neg hb).trans (if_neg hb2)) z
theorem JY{l:PySem.W.OpenLaw}{n k:Nat}{q:Program}{loose:List Str}{XP:(Str->Option Value)->Heap->Prop}{YP:World->Heap->Prop}{d:DefRec}{K:Params->PySem.W.Frag}{CX:World->CXT}{sp:World->Sp}{x:Str}(tabs:List Addr)
  (hn:l.most=some n) (hn2:n<=sizeLine) (hdf:d.params.defaults=[]) (hr:ku k callerA)
  (hY:∀(w:World) (h:Heap),YP w h->(K w.params).In h/\(∀p∈tabs,h.get? p=some (PySem.W.tabObj #[])/\(K w.params).lookup p=none)/\(∀p∈tabs,isCodeTable h p))
  (hA2:∀(w:World) c o p q,(K w.params).lookup c=some o->cX o=some (p,q)->p∈tabs)
  (F:∀(w:World) (mg:Str->Option Value) (fa:Addr) (h:Heap),(K w.params).In h->h.Ns mainGlobals mg->mg d.name=some (.ref fa) ->
   ∃fd:FuncData,(∀(s:Shared) (u:Value),BindsTo s fd ⟨[u],[]⟩ [(x,u)]) /\
    ∀base:Heap,(K w.params).In base->base.Ns mainGlobals mg->bC l.prog w (K w.params) mg base (CX w) k fa fd [x] (sp w))
  (hsp:∀(w:World) (H:Hp) (a:Addr) (ns:List Int),ns.length<=n->Dt (K w.params) H->SqL (K w.params) H a (ns.map V.int)->sp w [.ref a] H (fun v _=>v = .bl true) fun _ _ _=>False)
  (hCX:∀(w:World) (H:Hp) (s:Shared) (e:Value) (s':Shared),CX w [] H s (fun _ _ _=>False) e s'->False) :
  PySem.W.WalkO q loose XP YP l.row.toRowW d [] (fun f vs=>PySem.call f vs):=by
 refine Att.BD hn hdf fun w im ca mg mb fa o pm cd doc a vs ns G Y ho hd hcd hmg hobj hints hlen hg=>?_
 obtain⟨KX,hT,hC⟩:=hY w _ Y
 obtain⟨fd,hb,hF⟩:=F w mg fa _ KX G.T.g hmg
 exact Ho tabs hT (hA2 w) hC KX G.T.g G.T.b G.T.builtins G.T.nolimit hg hobj hints (le_trans hlen hn2) hr hF hb (fun H hO hS=>hsp w H a ns hlen hO hS) fun H e s'=>hCX w H ca e s'
end L2
namespace L2.DL
open PySem PySem.Spec PyProof.Rows
theorem KU{K:PySem.W.Frag}{l:List (Addr×Str)}(h:(K.filterMap fun p=>cX p.2)=l){c:Addr}{o:Obj}{P:Addr}{q:Str}(e:K.lookup c=some o)(e2:cX o=some (P,q)):(P,q)∈l:=by
 rw[<- h]
 have mem:∀(L:List (Addr×Obj)),List.lookup c L=some o->(c,o)∈L:=fun L=>by
  induction L with
  |nil=>intro z;cases z
  |cons a r ih=>
   intro z
   rw[lookup_cons] at z
   by_cases y:c=a.1
   ·rw[y] at z ⊢;simp at z;rw[<- z];exact mem_cons_self
   ·rw[show (c==a.1)=false from by simpa using y] at z
    exact mem_cons_of_mem _ (ih z)
 exact List.mem_filterMap.mpr ⟨(c,o),mem K e,e2⟩
theorem GL{K:PySem.W.Frag}{h:Heap}{c P:Addr}{o:Obj}{q:Str}(X:K.In h)(l:K.lookup c=some o)(e:cX o=some (P,q)):isCodeTable h P:=by
 have ho:=X _ _ l
 unfold cX at e
 split at e
 ·rename_i cn vs hcls hd
  split at e
  ·rename_i hcn
   subst hcn
   split at e
   ·rename_i e11 e18
    split at e
    ·cases e
     exact⟨c,o,vs,ho,hcls,hd,by assumption⟩
    ·cases e
   ·cases e
  ·cases e
 ·cases e
theorem Lw{K:PySem.W.Frag}{c P:Addr}{q:Str}(h:(K.lookup c).bind cX=some (P,q)):∃o,K.lookup c=some o/\cX o=some (P,q):=Option.bind_eq_some_iff.mp h
theorem FW{K T:PySem.W.Frag}{h:Heap}(X:PySem.W.Frag.In (K++T) h):K.In h:=fun b o e=>X b o (by
 show List.lookup b (K++T)=some o
 rw[List.lookup_append,show List.lookup b K=some o from e];rfl)
section
noncomputable def L7(K:PySem.W.Frag)(J:It)(xs:List PyData)(ad:Mu)(H1:Hp):Prop:=∀am H2,Ext K ad H1 am H2->bD K am H2->(∀a ds,ad a=some ds->am a=some ds)->∀i,(i<xs.length->J.go i H2/\∀x H',J.yld i H2 x H'->∃d,xs[i]? = some d/\uA H2 H'/\Rp K am H' d x)/\(i=xs.length->J.stop i H2)
noncomputable def Nu(K:PySem.W.Frag)(wi:TI)(src:DTI):Prop:=∀(σ:St) (H:Hp) (ρ:Rho) (Z:Mu) (Qd:List PyData->Mu->Prop) (R:It->Hp->Prop),St0 K H ρ Z σ->src ρ Z Qd ->
 (∀xs ad H1 J,Ext K Z H ad H1->St0 K H1 ρ ad σ->L7 K J xs ad H1->Qd xs ad->R J H1)->wi σ H R
noncomputable def DIW(X:Cx)(tg iter:Expr)(src:DTI):Prop:=∃wi,PI X tg iter wi/\Nu X.K wi src
noncomputable def diM(te:DTE):DTI:=fun ρ Z Q=>te ρ Z fun d ad=>match d with
 |.m l=>∃xs,ad l=some xs/\Q xs ad
 |_=>False
theorem Qo{te:DTE}{ρ:Rho}{Z:Mu}{Q:List PyData->Mu->Prop}:diM te ρ Z Q=te ρ Z fun d ad=>match d with
 |.m l=>∃xs,ad l=some xs/\Q xs ad
 |_=>False:=propext Iff.rfl
theorem P9{X:Cx}{e tg:Expr}{te:DTE}(h:DE X e te):DIW X tg e (diM te):=by
 obtain⟨t1,p1,l1⟩:=h
 refine⟨_,Gp p1,fun σ H ρ Z Qd R S h k=>?_⟩
 refine l1 σ H ρ Z _ _ S h fun d u ad H1 e1 S1 r h1=>?_
 split at h1
 ·rename_i l
  obtain⟨xs,hl,h1⟩:=h1
  obtain⟨rfl,_⟩:=r
  obtain⟨us0,hus0,_⟩:=S1.mu l xs hl
  refine⟨l,rfl,⟨us0,SqL.of hus0⟩,k xs ad H1 _ e1 S1 (fun am H2 e2 ok2 st i=>?_) h1⟩
  obtain⟨us,hus,ra⟩:=ok2 l xs (st l xs hl)
  refine⟨fun hi=>?_,fun hi=>⟨us,SqL.of hus,by rw[<- ra.length];omega⟩⟩
  have hiu:i<us.length:=by rw[<- ra.length];exact hi
  refine⟨⟨us,us[i],SqL.of hus,by simp[hiu]⟩,fun x H' hq0=>?_⟩
  obtain⟨eH,hx⟩:=hq0
  subst eH
  obtain⟨u',h1',h2'⟩:=ra.get (i:=i) (d:=xs[i]) (by simp[hi])
  have:=hx us (SqL.of hus)
  rw[h1'] at this
  cases this
  exact⟨xs[i],by simp[hi],uA.refl _,h2'⟩
 ·exact h1.elim
theorem vt{X:Cx}{N':List Str}{scope:Scope}{cl:List (Str×Addr)}{elt iter tg:Expr}{ifs:List Expr}{pos:Pos}{cap:List (Option Nat)}{src:DTI}{g:DTG}{c:DTT}{te:DTE}(hc:X.calm=X.calm)
  (hi:DIW X tg iter src) (hg:∀fp bi bv,DG (az X N' scope cl fp bi bv) tg g) (hif:∀fp bi bv,w5 (az X N' scope cl fp bi bv) ifs c) (he:∀fp bi bv,DE (az X N' scope cl fp bi bv) elt te)
  (hclos:closureFor scope X.env=pure cl) (hcell:∀y∈scope.names,y.2≠.cell) (hkind:scope.kind = .function) (hnames:∀y∈scope.names,y.2 = .local->scope.names.lookup y.1=some .local)
  (hcl:∀x a,cl.lookup x=some a->X.env.cells.lookup x=some a) (hhas:∀x,(relabel scope X.env).names.lookup x=some .cell\/(relabel scope X.env).names.lookup x=some .free->∃a,cl.lookup x=some a)
  (hlen:cap.length=N'.length) (hcap:∀(i j:Nat) (x:Str),cap[i]? = some (some j)->N'[i]? = some x->X.N[j]? = some x/\Vis X.env.scope x/\X.env.kindOf x≠some .local/\((relabel scope X.env).names.lookup x=some .cell\/(relabel scope X.env).names.lookup x=some .free))
  (hs:∀x,foldedSetIterable iter X.env x=pure x:=by intro _;rfl):DE X (.ListComp elt [⟨tg,iter,ifs,0⟩] scope pos) (C6 cap src g c te):=by
 refine E8 fun pins s σ H ρ Z Qd Q I S h k=>?_
 obtain⟨wi,pw,li⟩:=hi
 rw[eval_ListComp]
 refine wpAny_comprehension_free (use:=none) rfl hs hclos hkind hnames (thn (pw pins s σ H _ I (li σ H ρ Z _ (fun J H1=>∃xs ad,Ext X.K Z H ad H1/\St0 X.K H1 ρ ad σ/\L7 X.K J xs ad H1/\xs.length<=1000/\∃f:PyData->Option PyData,
   (∀x∈xs,∀U:Mu,(∀a ds,ad a=some ds->U a=some ds)->g (.v x) (aX cap ρ) U fun ce am=>Le (aX cap ρ) ce/\c ce am fun b be=>
    if b=true then te ce be fun d ci=>ci=U/\(match d with|.v y=>f x=some y|_=>False) else be=U/\f x=none)/\Qd (.v (.list (xs.filterMap f))) ad) S h (fun xs ad H1 J e1 S1 it q=>⟨xs,ad,e1,S1,it,q⟩)))
  fun v s1 h1=>thn h1 fun itv s2 h2=>?_)
 obtain⟨it,fp,tn,J,H2,rfl,I2,T,st2,f2,xs,ad,e1,S1,itok,hxs,f,body,fin⟩:=h2
 refine wpAny_newObj_type (wpAny_newFunctionEnv hcell (by intro y hy;simp at hy) (fun dl gV gl=>?_) hkind)
 dsimp only at gV gl ⊢
 have hfree2:H2 s2.heap.objs.size=none:=I2.hok.fresh (le_refl _)
 have hK2:X.K.lookup s2.heap.objs.size=none:=by
  cases z:X.K.lookup s2.heap.objs.size with
  |none=>rfl
  |some o=>exact absurd (Heap.lt_size (I2.kIn _ _ z)) (lt_irrefl _)
 have I3:Inv X pins σ (upd H2 s2.heap.objs.size (.lst [])) {s2 with heap:=s2.heap.push {cls:=.type "list",dict:=none,data:=.seq ([]:List Value).toArray}}:=
  I2.laid (t':=s2.toks) (fun b u e=>Heap.get?_push_of_some _ e) (le_refl _) ⟨zero_le _,[],0,.nil,Heap.get?_push_size _ rfl⟩
 generalize hH:s2.heap.push {cls:=.type "list",dict:=none,data:=.seq ([]:List Value).toArray} = hp3 at gV gl I3 ⊢
 have hsz3:hp3.objs.size=s2.heap.objs.size+1:=by rw[<- hH,Heap.size_push]
 have kept3:∀b o,hp3.get? b=some o->dl.get? b=some o:=fun b o e=>gl.extBut b o (ne_of_lt (Heap.lt_size e)) (Heap.get?_push_of_some _ e)
 have old3:∀b o,s2.heap.get? b=some o->hp3.get? b=some o:=fun b o e=>by rw[<- hH];exact Heap.get?_push_of_some _ e
 have fplt:∀b∈fp,b<s2.heap.objs.size:=fun b hb=>by obtain⟨o,e,_⟩:=T.obj 0 _ st2 b hb;exact Heap.lt_size e
 have fpst:∀b∈fp,b ∉ frs X.stack:=fun b hb hz=>by
  rcases List.mem_cons.mp (I2.gO b hz) with e|e
  ·exact (f2 b hb).2.1 e
  ·exact (f2 b hb).2.2.1 e
 obtain⟨s3,hs3⟩:∃s3:Shared,s3={s2 with heap:=hp3}:=⟨_,rfl⟩
 obtain⟨H3,hH3⟩:∃H3:Hp,H3=upd H2 s2.heap.objs.size (.lst []):=⟨_,rfl⟩
 have heap3:s3.heap=hp3:=by rw[hs3]
 rw[<- hH3] at I3
 have I3':Inv X pins σ H3 s3:=by rw[hs3];exact I3
 have hloc:H3 hp3.objs.size=none:=by have:=I3'.hok.fresh (a:=hp3.objs.size) (by rw[heap3];exact le_refl _);exact this
 have okc:(az X N' scope cl fp s3 H3).Ok:=by
  refine⟨I3.ok.mod,?_,I3.ok.glob,I3.ok.blt,le_refl _,fun x y a h1 h2=>I3.ok.inj x y a (hcl x a h1) (hcl y a h2),fun x hx=>hhas x hx,fun x a h=>(nomatch h),I3.ok.hd,I3.ok.qt,I3.ok.frames,.inl rfl,fun b hb=>⟨?_,fun x a h=>(f2 b hb).2.2.2.2.1 x a (hcl x a h)⟩,
   I3'.bs,le_trans I3.ok.bsz I3'.sz,fun b o e hb=>?_,fun b hb=>fpst b hb,I3'.stack,I3'.nI⟩
  ·exact hkind
  ·show b≠s3.heap.objs.size
   rw[heap3,hsz3]
   exact ne_of_lt (lt_succ_of_lt (fplt b hb))
  ·rcases (f2 b hb).2.2.2.1 with z|z
   ·exact I3.ok.A6 b o e z
   ·exact absurd (lt_of_lt_of_le (Heap.lt_size (I3.ok.bs b o e).1) z) (lt_irrefl _)
 have I4:Inv (az X N' scope cl fp s3 H3) [] (aX cap σ) H3 {s2 with heap:=dl,toks:=s2.toks+([]:List (Str×Value)).length}:=by
  refine⟨okc,by show s2.os=s3.os;rw[hs3],I3.bare,Un.kept (by show ∀b o,s3.heap.get? b=some o->_;rw[heap3];exact kept3),⟨_,(by show dl.Ns s3.heap.objs.size _;rw[heap3];exact gV),fun i x v e1 e2 e3=>?_⟩,fun x a h=>?_,(by show H3 s3.heap.objs.size=none;rw[heap3];exact hloc),fun x a h=>I3.jt x a (hcl x a h),fun p hp=>?_,I3.hok.kept kept3,?_⟩
  ·obtain⟨j,h1,h2⟩:=km e2
   obtain⟨hN,hv,hnl,hk⟩:=hcap i j x h1 e1
   obtain⟨m,_,hl⟩:=I3.loc
   obtain⟨u,r,lk⟩:=hl j x v hN h2 hv
   refine⟨u,r,.inr ⟨hk,?_⟩⟩
   obtain⟨a,ha⟩:=hhas x hk
   rcases lk with ⟨z,_⟩|⟨_,a',z1,z2⟩
   ·exact absurd z hnl
   ·have:a'=a:=by have q:=hcl x a ha;rw[z1] at q;exact Option.some.inj q
    subst this
    obtain⟨o,ho,hd⟩:=z2
    exact⟨a',ha,o,kept3 _ _ ho,hd⟩
  ·obtain⟨v,o,ho,hd⟩:=I3.cell x a (hcl x a h)
   exact⟨v,o,kept3 _ _ ho,hd⟩
  ·have hp':p∈X.pn++pins:=mem_append_left _ (by simpa using (show p∈X.pn++[] from hp))
   obtain⟨z1,z2,z3,z4,z5⟩:=I3'.pin p hp'
   refine⟨kept3 _ _ (by rw[<- heap3];exact z1),z2,(show p.1≠s3.heap.objs.size from ne_of_lt (Heap.lt_size z1)),fun z=>?_,z5⟩
   rcases List.mem_cons.mp (I3'.gO p.1 z) with e|e
   ·exact z3 e
   ·exact z4 e
  ·show (aX cap σ).length=N'.length
   unfold aX
   rw[length_map]
   exact hlen
 have ld:ad s2.heap.objs.size=none:=S1.mu.free hfree2
 have sub1:∀ys a ds,ad a=some ds->aA ad s2.heap.objs.size ys a=some ds:=fun ys a ds e=>by
  have:a≠s2.heap.objs.size:=fun z=>by rw[z,ld] at e;cases e
  rw[aQ this];exact e
 have loop:codeAny (model X.prog X.w) X.A (.compLoop (.ListComp elt [⟨tg,iter,ifs,0⟩] scope pos) 0 (.ref it) (.ref s2.heap.objs.size) (az X N' scope cl fp s3 H3).env)
   (compPost (model X.prog X.w) X.A X.xe none (EP X pins σ Q) (.ref s2.heap.objs.size) hp3.objs.size) {s2 with heap:=dl,toks:=s2.toks+([]:List (Str×Value)).length}:=by
  refine fc (fun n s'=>∃(i:Nat) (db:St) (Hc:Hp),n=xs.length-i/\i<=xs.length/\Inv (az X N' scope cl fp s3 H3) [] db Hc s'/\tn i s'.heap/\(∀b∈fp,Hc b=none) /\
   St0 X.K Hc (aX cap ρ) (aA ad s2.heap.objs.size ((xs.take i).filterMap f)) db/\Ext X.K ad H2 (aA ad s2.heap.objs.size ((xs.take i).filterMap f)) Hc) ?_ xs.length
   ⟨0,aX cap σ,H3,by simp,zero_le _,I4,T.keep 0 _ _ st2 (fun b hb o e=>kept3 b o (old3 b o e)),fun b hb=>?_,?_,?_⟩
  ·rintro n s' ⟨i,db,Hc,rfl,hi,Ic,tc,frc,Sc,Ec⟩
   have stat:∀{Hd:Hp},(∀b∈fp,Hd b=none)->∀b∈fp,mh (az X N' scope cl fp s3 H3) [] Hd b:=fun hn b hb=>
    ⟨hn b hb,(okc.exf b hb).1,fpst b hb,.inl hb,fun x a h=>(okc.exf b hb).2 x a h,fun p hp=>(f2 b hb).2.2.2.2.2 p (mem_append_left _ (by simpa using (show p∈X.pn++[] from hp)))⟩
   obtain⟨go,stop⟩:=itok _ Hc Ec Sc.mu (sub1 _) i
   by_cases hlt:i<xs.length
   ·obtain⟨g1,y1⟩:=go hlt
    refine thn (T.item (az X N' scope cl fp s3 H3) rfl rfl rfl (fun z=>z) i [] s' db Hc (fun _ _=>False) Ic (stat frc) tc g1) fun r s4 hq0=>?_
    obtain⟨u,hr,h4⟩:=hq0
    subst hr
    refine thn h4 fun _ s5 hq0=>?_
    obtain⟨x,H5,I5,r5,y5,st5,fr5⟩:=hq0
    obtain⟨d,hd,sm,rd⟩:=y1 x H5 y5
    have I5':=I5.pinned (stat fr5) (T.obj _ _ st5)
    have e5:Ext X.K _ Hc _ H5:=.of_same (Z:=aA ad s2.heap.objs.size ((xs.take i).filterMap f)) sm
    have S5:St0 X.K H5 (aX cap ρ) (aA ad s2.heap.objs.size ((xs.take i).filterMap f)) db:=⟨Sc.mu.BM e5 sm,Sc.rho.ext Sc.mu e5⟩
    obtain⟨gt,pg,lg⟩:=hg fp s3 H3
    have hmem:d∈xs:=mem_of_getElem? hd
    refine thn (pg _ s5 db H5 x u (fun bn H'=>∃bm U,Ext X.K (aA ad s2.heap.objs.size ((xs.take i).filterMap f)) H5 U H'/\St0 X.K H' bm U bn/\Le (aX cap ρ) bm/\c bm U fun b be=>
      if b=true then te bm be fun d' ci=>ci=aA ad s2.heap.objs.size ((xs.take i).filterMap f)/\(match d' with|.v y=>f d=some y|_=>False) else be=aA ad s2.heap.objs.size ((xs.take i).filterMap f)/\f d=none) I5' r5
     (lg db H5 (aX cap ρ) _ (.v d) x _ _ S5 rd (body d hmem _ (sub1 _)) fun bn bm U H' e' S' q=>⟨bm,U,e',S',q⟩)) fun _ s6 ⟨ga,H6,I6,jp,nw,e6,S6,le6,q6⟩=>?_
    refine thn (hif fp s3 H3 _ s6 ga H6 jp nw _ (fun b H'=>∃U,Ext X.K nw H6 U H'/\St0 X.K H' jp U ga/\if b=true then te jp U fun d' ci=>ci=aA ad s2.heap.objs.size ((xs.take i).filterMap f)/\(match d' with|.v y=>f d=some y|_=>False) else U=aA ad s2.heap.objs.size ((xs.take i).filterMap f)/\f d=none)
     I6 S6 q6 fun b U H' e' S' q=>⟨U,e',S',q⟩) fun b s7 ⟨H7,I7,ls,e7,S7,q7⟩=>?_
    have again:∀{H9:Hp} {s9:Shared},Inv (az X N' scope cl fp s3 H3) ([]++mI fp s5.heap) ga H9 s9->bD X.K (aA ad s2.heap.objs.size ((xs.take (i+1)).filterMap f)) H9->fG X.K (aA ad s2.heap.objs.size ((xs.take (i+1)).filterMap f)) H9 (aX cap ρ) ga ->
      Ext X.K ad H2 (aA ad s2.heap.objs.size ((xs.take (i+1)).filterMap f)) H9->∃m,m<xs.length-i/\∃(i:Nat) (db:St) (Hc:Hp),m=xs.length-i/\i<=xs.length/\Inv (az X N' scope cl fp s3 H3) [] db Hc s9/\tn i s9.heap/\(∀b∈fp,Hc b=none) /\
       St0 X.K Hc (aX cap ρ) (aA ad s2.heap.objs.size ((xs.take i).filterMap f)) db/\Ext X.K ad H2 (aA ad s2.heap.objs.size ((xs.take i).filterMap f)) Hc:=fun {H9 s9} I9 m9 r9 e9=>by
     refine⟨xs.length-(i+1),∅,i+1,ga,H9,rfl,hlt,I9.dn,T.keep _ _ _ st5 fun b hb o e=>(I9.pin (b,o) (mem_append_right _ (mem_append_right _ (bA hb e)))).1,fun b hb=>?_,⟨m9,r9⟩,e9⟩
     obtain⟨o,e,_⟩:=T.obj _ _ st5 b hb
     exact (I9.pin (b,o) (mem_append_right _ (mem_append_right _ (bA hb e)))).2.1
    cases b with
    |false=>
     have q8:ls=aA ad s2.heap.objs.size ((xs.take i).filterMap f)/\f d=none:=by simpa using q7
     refine vj ?_
     have et:(xs.take (i+1)).filterMap f=(xs.take i).filterMap f:=by rw[Aa hd,q8.2];simp
     have sn:aA ad s2.heap.objs.size ((xs.take (i+1)).filterMap f)=ls:=by rw[et,q8.1]
     refine again I7 (by rw[sn];exact S7.mu) (by rw[sn];exact S7.rho.le le6) ?_
     rw[sn]
     exact Ec.trans (e5.trans (e6.trans e7))
    |true=>
     refine ve ?_
     obtain⟨t8,p8,l8⟩:=he fp s3 H3
     refine thn (p8 _ s7 ga H7 (fun v H'=>∃y,Ext X.K ls H7 (aA ad s2.heap.objs.size ((xs.take i).filterMap f)) H'/\St0 X.K H' jp (aA ad s2.heap.objs.size ((xs.take i).filterMap f)) ga/\Rp X.K (aA ad s2.heap.objs.size ((xs.take i).filterMap f)) H' y v/\f d=some y) I7
      (l8 ga H7 jp ls _ _ S7 (by simpa using q7) fun d' v kw H8 e8 S8 r8 q8=>?_)) fun v s8 ⟨v8,H8,I8,r8,y,e8,S8,ry,fy⟩=>?_
     ·obtain⟨rfl,q8⟩:=q8
      cases d' with
      |v y=>exact⟨y,e8,S8,r8,q8⟩
      |m _=>exact q8.elim
      |s _=>exact q8.elim
      |o _=>exact q8.elim
      |b _=>exact q8.elim
      |q _=>exact q8.elim
     ·obtain⟨us,hacc,rus⟩:=S8.mu s2.heap.objs.size _ aD
      have hle:((xs.take i).filterMap f).length<=1000:=le_trans (List.length_filterMap_le _ _) (le_trans (by rw[length_take];exact Nat.min_le_right _ _) hxs)
      refine thn (j3 (X:=az X N' scope cl fp s3 H3) _ s8 ga H8 (.ref s2.heap.objs.size) [v8] (.ref s2.heap.objs.size) [v] (fun _ H'=>H'=upd H8 s2.heap.objs.size (.lst (us++[v8]))) I8 rfl (.cons r8 .nil) ⟨_,us,v8,rfl,rfl,hacc,by rw[<- rus.length];exact dP hle,rfl⟩) fun _ s9 hq0=>?_
      obtain⟨_,H9,I9,_,e9⟩:=hq0
      subst e9
      have et:(xs.take (i+1)).filterMap f=(xs.take i).filterMap f++[y]:=by rw[Aa hd,fy];rfl
      have mset:aA (aA ad s2.heap.objs.size ((xs.take i).filterMap f)) s2.heap.objs.size ((xs.take (i+1)).filterMap f)=aA ad s2.heap.objs.size ((xs.take (i+1)).filterMap f):=eN
      have ex:Ext X.K (aA ad s2.heap.objs.size ((xs.take i).filterMap f)) H8 (aA ad s2.heap.objs.size ((xs.take (i+1)).filterMap f)) (upd H8 s2.heap.objs.size (.lst (us++[v8]))):=by
       rw[<- mset]
       exact eS aD
      refine again I9 ?_ ((S8.rho.le le6).ext S8.mu ex) (Ec.trans (e5.trans (e6.trans (e7.trans (e8.trans ex)))))
      rw[<- mset]
      refine S8.mu.set aD ?_
      rw[et]
      exact rus.append (.cons ry .nil)
   ·have ei:i=xs.length:=by omega
    subst ei
    refine thn (T.done (az X N' scope cl fp s3 H3) rfl rfl rfl (fun z=>z) _ [] s' db Hc (fun _ _=>False) Ic (stat frc) tc (stop rfl)) fun r s4 hq0=>?_
    obtain⟨hr,I5⟩:=hq0
    subst hr
    rw[take_length] at Sc Ec
    obtain⟨m,hn,_⟩:=I5.loc
    refine⟨m,(by have z:s4.heap.Ns s3.heap.objs.size m:=hn;rw[heap3] at z;exact z),fun h' hs'=>?_⟩
    have kp:∀b o,b<s2.heap.objs.size->s4.heap.get? b=some o->h'.get? b=some o:=fun b o hb e=>hs'.extBut b o (by rw[hsz3];exact ne_of_lt (lt_succ_of_lt hb)) e
    have hcC:Hc hp3.objs.size=none:=by have z:Hc s3.heap.objs.size=none:=I5.free;rw[heap3] at z;exact z
    have hok':HOk X.prog X.w Hc h':=fun b ob e=>by
     refine (I5.hok b ob e).pM (fun cc v hcc q=>hs'.extBut cc v ?_ q) (fun _ q=>q) fun _ _ q=>q
     rintro rfl
     rcases hcc with z|z
     ·rw[<- z,hcC] at e;cases e
     ·rw[hcC] at z;cases z
    have u1:Un (frs X.stack) fp H2 H3 s2.heap s3.heap:=by rw[heap3,hH3];exact Un.laid old3 (le_refl _) hfree2
    have u2:Un (frs X.stack) fp H3 Hc s3.heap s4.heap:=I5.base
    have If:Inv X pins σ Hc {s4 with heap:=h'}:=I2.uJ (ch:=fp) (by show s4.os=s2.os;have z:s4.os=s3.os:=I5.os;rw[z,hs3]) (Un.after (u1.trans u2) kp) hok' I5.bare fun b hb=>⟨(f2 b hb).2.2.2.1,(f2 b hb).2.1,(f2 b hb).2.2.2.2.1,(f2 b hb).2.2.2.2.2⟩
    obtain⟨us,hacc,rus⟩:=Sc.mu s2.heap.objs.size _ aD
    have shr:∀a,aA ad s2.heap.objs.size (xs.filterMap f) a=none->ad a=none:=fun a e=>by
     by_cases ha:a=s2.heap.objs.size
     ·rw[ha];exact ld
     ·rw[aQ ha] at e;exact e
    have eF:Ext X.K ad H2 ad Hc:=⟨Ec.keep,Ec.tb,fun _ ds q=>⟨ds,q⟩,fun _ q _=>q,Ec.st,fun _ c q=>⟨c,q⟩⟩
    have mF:bD X.K ad Hc:=⟨fun a ds q=>by
     obtain⟨ys,z1,z2⟩:=Sc.mu a ds (sub1 _ a ds q)
     exact⟨ys,z1,z2.shrink shr⟩,Sc.mu.tab,fun a c q=>let ⟨z,o,w1,w2⟩:=Sc.mu.box a c q;⟨z,o,w1,w2.shrink shr⟩⟩
    exact⟨.ref s2.heap.objs.size,Hc,If,rfl,k (.v (.list (xs.filterMap f))) _ ad Hc (e1.trans eF) ⟨mF,S1.rho.ext S1.mu eF⟩ (Rp.list hacc ld (rus.shrink shr)) fin⟩
  ·have z:b≠s2.heap.objs.size:=ne_of_lt (fplt b hb)
   rw[hH3,aR z]
   exact (f2 b hb).1
  ·have ex:=d5 (o:=.lst []) (ds:=[]) S1.mu hfree2 hK2
   rw[hH3]
   exact⟨S1.mu.mut .nil hfree2 hK2,(S1.rho.ext S1.mu ex).cap⟩
  ·rw[hH3]
   exact d5 (o:=.lst []) (ds:=[]) S1.mu hfree2 hK2
 have envE:(az X N' scope cl fp s3 H3).env=compEnvC scope cl hp3.objs.size X.env:=by show compEnvC scope cl s3.heap.objs.size X.env=_;rw[heap3]
 rw[envE] at loop
 exact codeAny_compStart_list loop (T.self X.A 0 _ _ _ (T.keep 0 _ _ st2 (fun b hb o e=>kept3 b o (old3 b o e))) loop)
end
noncomputable def QT(ds:List D):PQ:=fun K u Z H=>∃a us,u = .ref a/\H a=some (.tup us)/\i6 K Z H ds us
mutual
theorem Rp.sub{K:PySem.W.Frag}{Z ad:Mu}{H:Hp}(h:∀a,ad a=none->Z a=none):∀{d:PyData} {u:V},Rp K ad H d u->Rp K Z H d u
 |_,_,.none=>.none
 |_,_,.bool b=>.bool b
 |_,_,.int i=>.int i
 |_,_,.str x=>.str x
 |_,_,.list a b c=>.list a (h _ b) (RpL.sub h c)
 |_,_,.tuple a c=>.tuple a (RpL.sub h c)
theorem RpL.sub{K:PySem.W.Frag}{Z ad:Mu}{H:Hp}(h:∀a,ad a=none->Z a=none):∀{ds:List PyData} {us:List V},RpL K ad H ds us->RpL K Z H ds us
 |_,_,.nil=>.nil
 |_,_,.cons a b=>.cons (Rp.sub h a) (RpL.sub h b)
end
structure eW(Z U:Mu):Prop where
 l:∀b ds,Z b=some ds->U b=some ds
 b:∀b c,Z.b b=some c->U.b b=some c
instance {Z U:Mu}:CoeFun (eW Z U) fun _=>∀b ds,Z b=some ds->U b=some ds:=⟨eW.l⟩
theorem eW.refl{Z:Mu}:eW Z Z:=⟨fun _ _ e=>e,fun _ _ e=>e⟩
theorem eW.none{Z U:Mu}(h:eW Z U){b:Addr}(e:U b=none):Z b=none:=by
 cases z:Z b with
 |none=>rfl
 |some ds=>rw[h b ds z] at e;cases e
theorem vo{K:PySem.W.Frag}{Z U:Mu}{H:Hp}(ok:bD K U H)(s:eW Z U):bD K Z H:=⟨fun a ds z=>by
 obtain⟨xs,h1,h2⟩:=ok.lst a ds (s a ds z)
 exact⟨xs,h1,h2.sub fun b hb=>s.none hb⟩,ok.tab,fun a c z=>by
 obtain⟨y,o,h1,h2⟩:=ok.box a c (s.b a c z)
 exact⟨y,o,h1,h2.shrink fun b hb=>s.none hb⟩⟩
theorem eW.set{Z U:Mu}{p:Addr}{ds:List PyData}(h:eW Z U)(n:Z p=Option.none):eW Z (aA U p ds):=⟨fun b es e=>by
 have:b≠p:=fun z=>by rw[z,n] at e;cases e
 rw[aQ this];exact h b es e,h.b⟩
theorem eW.box{Z U:Mu}{p:Addr}{c:Box}(h:eW Z U)(n:Z.b p=Option.none):eW Z (bg U p c):=⟨h.l,fun b x e=>by
 have:b≠p:=fun z=>by rw[z,n] at e;cases e
 rw[bK this];exact h.b b x e⟩
noncomputable def frz(Z:Mu)(Qd:DK):DK:=fun d U=>match d with
 |.v x=>eW Z U/\Qd (.v x) Z
 |.m a=>(Z a=none/\eW Z U)/\∃es,U a=some es/\Qd (.v (.list es)) Z
 |_=>False
theorem EA{P:Program}{w:World}{K:PySem.W.Frag}{mg:Str->Option Value}{base:Heap}{CX:CXT}{k:Nat}{f:Addr}{fd:FuncData}{ps:List Str}{sp sp':DSp}(F:bC P w K mg base CX k f fd ps (spD K sp))
  (h:∀ds Z Qd,sp' ds Z Qd->sp ds Z (frz Z Qd)):bC P w K mg base CX k f fd ps (spD K sp'):=by
 refine F.imp fun vs H Q E h'=>?_
 obtain⟨ds,Z,Qd,ok,r,s,kk⟩:=h'
 refine⟨ds,Z,_,ok,r,h _ _ _ s,fun d u U H' e ok' rd q=>?_⟩
 cases d with
 |v x=>
  obtain⟨sb,q⟩:=q
  exact kk (.v x) u Z H' ⟨e.keep,e.tb,fun b ds z=>⟨ds,z⟩,fun _ z _=>z,e.st,fun _ c z=>⟨c,z⟩⟩ (vo ok' sb) (show Rp K Z H' x u from (show Rp K U H' x u from rd).sub fun b hb=>sb.none hb) q
 |m a=>
  obtain⟨⟨n,sb⟩,es,he,q⟩:=q
  obtain⟨rfl,_⟩:=rd
  obtain⟨xs,h1,h2⟩:=ok'.lst a es he
  exact kk (.v (.list es)) (.ref a) Z H' ⟨e.keep,e.tb,fun b ds z=>⟨ds,z⟩,fun _ z _=>z,e.st,fun _ c z=>⟨c,z⟩⟩ (vo ok' sb) (show Rp K Z H' (.list es) (.ref a) from .list h1 n (h2.sub fun b hb=>sb.none hb)) q
 |s ns=>exact q.elim
 |o a=>exact q.elim
 |b a=>exact q.elim
 |q p=>exact q.elim
noncomputable def QP(x:PyData)(a:Addr):PQ:=QT [.v x,.m a]
section
variable {K:PySem.W.Frag}{Z:Mu}{H:Hp}
theorem JZ{x:PyData}{u:V}(r:Rp K Z H x u):Rp K ⟨fun _=>none,fun _=>none⟩ H x u:=r.sub fun _ _=>rfl
theorem MH{a:Addr}{es:List PyData}(ok:bD K Z H)(h:Z a=some es):Rp K ⟨fun _=>none,fun _=>none⟩ H (.list es) (.ref a):=by
 obtain⟨xs,h1,h2⟩:=ok.lst a es h
 exact .list h1 rfl (h2.sub fun _ _=>rfl)
theorem Fm{x:PyData}{a:Addr}{u:V}(r:RpD K Z H (.q (QP x a)) u):∃p ux,u = .ref p/\SqT K H p [ux,.ref a]/\Rp K Z H x ux/\∃ds,Z a=some ds:=by
 obtain⟨p,us,rfl,hp,rs⟩:=r Z H .refl
 cases rs with
 |cons r1 r2=>
  cases r2 with
  |cons r2 r3=>
   cases r3
   obtain⟨rfl,ds,hd⟩:=r2
   exact⟨p,_,rfl,.inl (.inl hp),r1,ds,hd⟩
theorem OH{x:PyData}{a:Addr}{u:V}{es:List PyData}(ok:bD K Z H)(h:Z a=some es)(r:RpD K Z H (.q (QP x a)) u):Rp K ⟨fun _=>none,fun _=>none⟩ H (.tuple [x,.list es]) u:=by
 obtain⟨p,ux,rfl,hp,r1,_⟩:=Fm r
 exact .tuple hp (.cons (JZ r1) (.cons (MH ok h) .nil))
def HD:D->D->Mu->DK->Prop:=fun x y Z Q=>match x,y with
 |.q P,.v (.int i)=>∃z a,P=QP z a/\((i=0/\Q (.v z) Z)\/(i=1/\Q (.m a) Z))
 |x,y=>aN x y Z Q
theorem Nx:gC K (rIx K) HD:=by
 intro x y ux uy H Z Qd Q ok rx ry h k
 unfold HD at h
 split at h
 ·obtain⟨z,a,rfl,h⟩:=h
  cases ry
  obtain⟨p,u,rfl,hp,r1,ds,hd⟩:=Fm rx
  rcases h with ⟨rfl,h⟩|⟨rfl,h⟩
  ·exact .inr (.inl ⟨p,_,0,u,rfl,rfl,hp,rfl,k (.v z) u Z H .refl ok r1 h⟩)
  ·exact .inr (.inl ⟨p,_,1,.ref a,rfl,rfl,hp,rfl,k (.m a) _ Z H .refl ok ⟨rfl,ds,hd⟩ h⟩)
 ·exact Mg x y ux uy H Z Qd Q ok rx ry h k
def yt:List D->Mu->DK->Prop:=fun xs Z Q=>match xs with
 |[.q P]=>∃z a,P=QP z a/\Q (.v (.int 2)) Z
 |xs=>dX xs Z Q
theorem Lv:lN K (fun xs H Q=>∃p ys,xs=[.ref p]/\(SqL K H p ys\/SqT K H p ys)/\Q (.int ys.length) H) yt:=by
 intro xs us H Z Qd Q ok rs h k
 unfold yt at h
 split at h
 ·obtain⟨z,a,rfl,h⟩:=h
  cases rs with
  |cons r1 r2=>
   cases r2
   obtain⟨p,u,rfl,hp,_⟩:=Fm r1
   exact⟨p,_,rfl,.inr hp,k (.v (.int 2)) _ Z H .refl ok (Rp.int _) h⟩
 ·exact IE xs us H Z Qd Q ok rs h k
def Hy(neg:Bool):D->D->Mu->DK->Prop:=fun x y Z Q=>match x,y with
 |.m a,.v b=>∃es,Z a=some es/\SeqAt.shaped (.list es)=true/\SeqAt.shaped b=true/\Q (.v (.bool (neg ^^ PyData.eqv (.list es) b))) Z
 |x,y=>d8 neg x y Z Q
theorem Ip{neg:Bool}:gC K (LM K neg) (Hy neg):=by
 intro x y ux uy H Z Qd Q ok rx ry h k
 unfold Hy at h
 split at h
 ·rename_i a b
  obtain⟨es,hm,s1,s2,h⟩:=h
  obtain⟨rfl,_⟩:=rx
  exact⟨_,_,_,MH ok hm,JZ ry,s1,s2,k (.v _) _ Z H .refl ok (Rp.bool _) h⟩
 ·exact bP x y ux uy H Z Qd Q ok rx ry h k
end
section
variable {X:Cx}{a b e:Expr}{ta tb te:DTE}{pos p:Pos}{T:String}
theorem Ot(ha:DE X a ta)(hb:DE X b tb)(hs:yW b):DE X (.Subscript a b pos) (dOp HD ta tb):=by
 obtain⟨t1,p1,l1⟩:=ha
 obtain⟨t2,p2,l2⟩:=hb
 exact⟨_,Mk Iu p1 p2 hs,qq Nx l1 l2⟩
theorem LS{es:List Expr}{t:DTA}(hg:Gl X "len")(hm:X.mg "len"=none)(ha:DA X (e::es) t)
  (he:starEach (e::es) X.env=(false,eval e X.env)::starEach es X.env:=by rfl) (hpl:(backTo pos (starEach es X.env)).any (·.1)=false:=by rfl):DE X (.Call (.Name "len" p) (e::es) [] pos) (dCB yt t):=
 iR qi Lv hg hm PySem.boot_len ha ⋯ ⋯ he hpl
noncomputable def Ia(T:String)(te:DTE):DTE:=fun ρ Z Q=>te ρ Z fun x ad=>match x with
 |.v d=>Q (.v (.bool (isT T d))) ad
 |.q P=>∃z a,P=QP z a/\Q (.v (.bool (isT T (.tuple [])))) ad
 |.m _=>Q (.v (.bool (isT T (.list [])))) ad
 |_=>False
theorem Kv{y:Str}{py:Pos}(kt:∀d,kitOne X.K (.type (tyD d)) (.type T)=some (isT T d))(hg:Gl X "isinstance")(hm:X.mg "isinstance"=none)(hgy:Gl X y)(hmy:X.mg y=none)(hvy:bootBuiltins y=some (.type T))(ha:DE X e te)
  (hny:y ≠ "__name__":=by decide) (hdy:(y==("__debug__":Str))=false:=by decide)
  (he:starEach [e,.Name y py] X.env=(false,eval e X.env)::starEach [.Name y py] X.env:=by rfl) (he2:starEach [.Name y py] X.env=[(false,eval (.Name y py) X.env)]:=by rfl) (hpl:(backTo pos (starEach [.Name y py] X.env)).any (·.1)=false:=by rfl):DE X (.Call (.Name "isinstance" p) [e,.Name y py] [] pos) (Ia T te):=by
 obtain⟨t1,p1,l1⟩:=ha
 refine⟨_,uM (sJ kt) hg hm PyProof.Rows.Boot.«isinstance» (hW p1 (hW (Fb (v:=.ty T) hgy hmy hvy rfl hny hdy) sj he2) he) ⋯ ⋯ he hpl,fun σ H ρ Z Qd Q S h k=>?_⟩
 refine l1 σ H ρ Z _ _ S h fun x ux ad H1 e1 S1 rx h1=>?_
 split at h1
 ·exact⟨ad,_,ux,rfl,rx,k (.v _) _ ad H1 e1 S1 (Rp.bool _) h1⟩
 ·obtain⟨z,a,rfl,h1⟩:=h1
  obtain⟨_,_,_,_,_,ds,hd⟩:=Fm rx
  exact⟨_,_,ux,rfl,OH S1.mu hd rx,k (.v _) _ ad H1 e1 S1 (Rp.bool _) h1⟩
 ·obtain⟨rfl,ds,hd⟩:=rx
  exact⟨_,_,_,rfl,MH S1.mu hd,k (.v _) _ ad H1 e1 S1 (Rp.bool _) h1⟩
 ·exact h1.elim
noncomputable def HV(to:DTE):DTE:=fun ρ Z Q=>to ρ Z fun x ad=>match x with
 |.m l=>(match ad l with
  |some xs=>Q (.v .none) (aA ad l xs.reverse)
  |none=>False)
 |_=>False
theorem RpL.snoc{K:PySem.W.Frag}{Z:Mu}{H:Hp}:∀{ds:List PyData} {us:List V} {d:PyData} {u:V},RpL K Z H ds us->Rp K Z H d u->RpL K Z H (ds++[d]) (us++[u])
 |_,_,_,_,.nil,r=>.cons r .nil
 |_,_,_,_,.cons a b,r=>.cons a (RpL.snoc b r)
theorem RpL.rev{K:PySem.W.Frag}{Z:Mu}{H:Hp}:∀{ds:List PyData} {us:List V},RpL K Z H ds us->RpL K Z H ds.reverse us.reverse
 |_,_,.nil=>.nil
 |_,_,.cons a b=>by rw[reverse_cons,reverse_cons];exact RpL.snoc (RpL.rev b) a
theorem L3{o:Expr}{to:DTE}{apos cpos:Pos}(ho:DE X o to)(hbase:attributeBase o "reverse" X.env (eval o X.env)=eval o X.env:=by rfl)(hline:(apos.endLine==cpos.line)=true:=by rfl) :
  DE X (.Call (.Attribute o "reverse" apos) [] [] cpos) (HV to):=by
 obtain⟨t1,p1,l1⟩:=ho
 refine⟨_,Oo plainAttrs_list PySem.F.slot_list_reverse PySem.F.type_list_reverse D5 p1 hbase hline,fun σ H ρ Z Qd Q S h k=>?_⟩
 refine l1 σ H ρ Z _ _ S h fun x ux ad H1 e1 S1 rx h1=>?_
 cases x with
 |m l=>
  obtain⟨rfl,ds,hm⟩:=id rx
  obtain⟨us,hl,rl⟩:=S1.mu l ds hm
  refine⟨.inl ⟨rfl,us,SqL.of hl⟩,?_⟩
  dsimp only at h1
  rw[hm] at h1
  have ex:Ext X.K ad H1 (aA ad l ds.reverse) (upd H1 l (.lst us.reverse)):=eS hm
  exact⟨l,us,rfl,rfl,hl,k (.v .none) .non _ _ (e1.trans ex) ⟨S1.mu.set hm rl.rev,S1.rho.ext S1.mu ex⟩ Rp.none h1⟩
 |v d=>exact h1.elim
 |s ns=>exact h1.elim
 |o _=>exact h1.elim
 |b _=>exact h1.elim
 |q _=>exact h1.elim
end
theorem NJ{T:String}{te:DTE}{ρ:Rho}{Z:Mu}{Q:DK}:Ia T te ρ Z Q=te ρ Z (fun x ad=>match x with
 |.v d=>Q (.v (.bool (isT T d))) ad
 |.q P=>∃z a,P=QP z a/\Q (.v (.bool (isT T (.tuple [])))) ad
 |.m _=>Q (.v (.bool (isT T (.list [])))) ad
 |_=>False):=propext Iff.rfl
theorem H0{to:DTE}{ρ:Rho}{Z:Mu}{Q:DK}:HV to ρ Z Q=to ρ Z (fun x ad=>match x with
 |.m l=>(match ad l with
  |some xs=>Q (.v .none) (aA ad l xs.reverse)
  |none=>False)
 |_=>False):=propext Iff.rfl
theorem Om{x:PyData}{d:D}{Z:Mu}{Q:DK}:HD (.v x) d Z Q=aN (.v x) d Z Q:=by unfold HD;rfl
theorem N5{neg:Bool}{x:PyData}{d:D}{Z:Mu}{Q:DK}:Hy neg (.v x) d Z Q=d8 neg (.v x) d Z Q:=by unfold Hy;rfl
theorem LW{x:PyData}{Z:Mu}{Q:DK}:yt [.v x] Z Q=dX [.v x] Z Q:=by unfold yt;rfl
end L2.DL
namespace L2
open PySem PySem.W PyProof.Rows
end L2
namespace L2.DL
open PySem PySem.Spec PyProof.Rows
end L2.DL
namespace L2
open PySem PySem.W PyProof.Rows
section
variable {X:Cx}
theorem PJ{pins:List (Addr×Obj)}{σ:St}{H:Hp}{s:Shared}(I:Inv X pins σ H s):X.K.lookup s.heap.objs.size=none:=by
 cases c:X.K.lookup s.heap.objs.size with
 |none=>rfl
 |some o=>exact absurd (Heap.lt_size (I.kIn _ _ c)) (lt_irrefl _)
theorem DC:jk X (.type "list") (fun xs H Q=>∃p ys,xs=[.ref p]/\(SqL X.K H p ys\/SqT X.K H p ys)/\∀l,H l=none->X.K.lookup l=none->Q (.ref l) (upd H l (.lst ys))):=by
 intro pins s σ H xs us Q I r h
 obtain⟨p,ys,rfl,hq,q⟩:=h
 have hk:=PJ I
 obtain⟨u,rfl,rx⟩:=vals1 r
 cases rx
 have go:∀(A:Around) (E:Value->Shared->Prop) (its:List Value),Vals ys its->ys.length<=sizeLine->∀(o:Obj) (n:Nat),(o.cls = .type "list"\/o.cls = .type "tuple")->s.heap.get? p=some o->o.data = .seq its.toArray n->wpAny (model X.prog X.w) A (call (.type "list") [.ref p]) (EP X pins σ Q) E s:=fun A E its rv hz o n hc ho hd=>by
  have hlen:=rv.length
  rcases hc with hc|hc
  ·refine call_list_seq p (.inl rfl) ho hc hd (fun h' c' kp e=>⟨.ref s.heap.objs.size,_,I.laid (t':=s.toks) kp (le_refl _) ?_,rfl,q _ (I.hok.fresh (le_refl _)) hk⟩) (by rw[size_toArray];omega)
   exact⟨hz,its,c',rv,e⟩
  ·refine call_list_seq p (.inr rfl) ho hc hd (fun h' c' kp e=>⟨.ref s.heap.objs.size,_,I.laid (t':=s.toks) kp (le_refl _) ?_,rfl,q _ (I.hok.fresh (le_refl _)) hk⟩) (by rw[size_toArray];omega)
   exact⟨hz,its,c',rv,e⟩
 rcases hq with hq|hq
 ·obtain⟨its,rv,pl,hz⟩:=I.list hq
  obtain⟨o,ho,hc,n,hd⟩:=pl.isList
  exact go _ _ its rv hz o n (.inl hc) ho hd
 ·obtain⟨its,rv,pl,hz⟩:=I.tuple hq
  obtain⟨o,ho,hc,n,hd⟩:=pl
  exact go _ _ its rv hz o n (.inr hc) ho hd
end
end L2
namespace L2.DL
open PySem PySem.Spec PyProof.Rows
def zi:List D->Mu->DK->Prop:=fun xs Z Q=>match xs with
 |[.v (.list ys)]=>∀p,Z p=none->Q (.m p) (aA Z p ys)
 |[.v (.tuple ys)]=>∀p,Z p=none->Q (.m p) (aA Z p ys)
 |[.m a]=>∃ys,Z a=some ys/\∀p,Z p=none->Q (.m p) (aA Z p ys)
 |_=>False
theorem JQ{K:PySem.W.Frag}:lN K (fun xs H Q=>∃p ys,xs=[.ref p]/\(SqL K H p ys\/SqT K H p ys)/\∀l,H l=none->K.lookup l=none->Q (.ref l) (upd H l (.lst ys))) zi:=by
 intro xs us H Z Qd Q ok rs h k
 have fin:∀(ys:List PyData) (vs:List V),RpL K Z H ys vs->(∀p,Z p=none->Qd (.m p) (aA Z p ys))->∀l,H l=none->K.lookup l=none->Q (.ref l) (upd H l (.lst vs)):=fun ys vs r q l hl hk=>
  k (.m l) _ (aA Z l ys) _ (d5 (o:=.lst vs) (ds:=ys) ok hl hk) (ok.mut r hl hk) ⟨rfl,ys,aD⟩ (q l (ok.free hl))
 unfold zi at h
 split at h
 ·cases rs with
  |cons r1 r2=>
   cases r2
   cases r1 with
   |list hs hn r=>exact⟨_,_,rfl,.inl (SqL.of hs),fin _ _ r h⟩
 ·cases rs with
  |cons r1 r2=>
   cases r2
   cases r1 with
   |tuple hs r=>exact⟨_,_,rfl,.inr hs,fin _ _ r h⟩
 ·cases rs with
  |cons r1 r2=>
   cases r2
   obtain⟨ys,hm,h⟩:=h
   obtain⟨rfl,_⟩:=r1
   obtain⟨vs,hl,r⟩:=ok.lst _ ys hm
   exact⟨_,_,rfl,.inl (SqL.of hl),fin _ _ r h⟩
 ·exact h.elim
theorem Je{X:Cx}{e:Expr}{es:List Expr}{t:DTA}{pos p:Pos}(hg:Gl X "list")(hm:X.mg "list"=none)(ha:DA X (e::es) t)
  (he:starEach (e::es) X.env=(false,eval e X.env)::starEach es X.env:=by rfl) (hpl:(backTo pos (starEach es X.env)).any (·.1)=false:=by rfl):DE X (.Call (.Name "list" p) (e::es) [] pos) (dCB zi t):=
 qY DC JQ hg hm PyProof.Rows.Boot.«list» ha ⋯ ⋯ he hpl
end L2.DL
namespace L2
open PySem PySem.Spec PyProof.Rows
end L2
namespace L2.DL
open PySem PySem.W PyProof.Rows
open PySem PySem.Spec PyProof.Rows
def uG(Z:Mu)(a:Addr):Mu:=⟨fun b=>if b=a then none else Z b,Z.b⟩
theorem uV{Z:Mu}{a:Addr}:uG Z a a=none:=if_pos rfl
theorem qB{Z:Mu}{a b:Addr}(h:b≠a):uG Z a b=Z b:=if_neg h
noncomputable def MV(Z:Mu)(Qd:DK):DK:=fun d U=>match d with
 |.v x=>Qd (.v x) U
 |.m a=>Z a=none/\∃es,U a=some es/\Qd (.v (.list es)) (uG U a)
 |_=>False
theorem Gb{P:Program}{w:World}{K:PySem.W.Frag}{mg:Str->Option Value}{base:Heap}{CX:CXT}{k:Nat}{f:Addr}{fd:FuncData}{ps:List Str}{sp sp':DSp}(F:bC P w K mg base CX k f fd ps (spD K sp))
  (h:∀ds Z Qd,sp' ds Z Qd->sp ds Z (MV Z Qd)):bC P w K mg base CX k f fd ps (spD K sp'):=by
 refine F.imp fun vs H Q E h'=>?_
 obtain⟨ds,Z,Qd,ok,r,s,kk⟩:=h'
 refine⟨ds,Z,_,ok,r,h _ _ _ s,fun d u U H' e ok' rd q=>?_⟩
 cases d with
 |v x=>exact kk (.v x) u U H' e ok' rd q
 |m a=>
  obtain⟨n,es,he,q⟩:=q
  obtain⟨rfl,_⟩:=rd
  obtain⟨xs,h1,h2⟩:=ok'.lst a es he
  have sb:eW (uG U a) U:=⟨fun b ds z=>by
   by_cases c:b=a
   ·rw[c,uV] at z;cases z
   ·rw[qB c] at z;exact z,fun _ _ z=>z⟩
  refine kk (.v (.list es)) (.ref a) (uG U a) H' ⟨e.keep,e.tb,fun b ds z=>?_,fun b z g=>?_,e.st,e.bx⟩ (vo ok' sb) (show Rp K (uG U a) H' (.list es) (.ref a) from .list h1 uV (h2.sub fun b hb=>sb.none hb)) q
  ·have c:b≠a:=fun c=>by rw[c,n] at z;cases z
   rw[qB c];exact e.dom b ds z
  ·exact sb.none (e.fresh b z g)
 |s ns=>exact q.elim
 |o a=>exact q.elim
 |b _=>exact q.elim
 |q p=>exact q.elim
end L2.DL
namespace L2
open PySem PySem.Spec PyProof.Rows
end L2
namespace L2.DL
open PySem PySem.Spec PyProof.Rows
end L2.DL
namespace L2
open PySem PySem.Spec PyProof.Rows
section
variable {X:Cx}
def K1:V->List V->Hp->VK->Prop:=fun x vs H Q=>∃(l:Addr) (xs:List V) (i:Nat) (y:V),x = .ref l/\vs=[.int (i:Nat),y]/\H l=some (.lst xs)/\i<=xs.length/\xs.length<=1000/\Q .non (upd H l (.lst (xs.take i++y::xs.drop i)))
theorem Vals.ins{xs:List V}{us:List Value}{y:V}{u:Value}(h:Vals xs us)(r:RelV y u):∀i:Nat,Vals (xs.take i++y::xs.drop i) (us.take i++u::us.drop i):=by
 induction h with
 |nil=>intro i;simp;exact .cons r .nil
 |cons p t ih=>
  intro i
  cases i with
  |zero=>exact .cons r (.cons p t)
  |succ i=>exact .cons p (ih i)
theorem HA:MtM X "list.insert" K1:=by
 intro pins s σ H x vs v us Q I rx rv h
 obtain⟨l,xs,i,y,rfl,rfl,hH,hi,hz,q⟩:=h
 cases rx
 obtain⟨u1,u2,rfl,ru1,ru2⟩:=vals2 rv
 obtain⟨t,rfl⟩:=ru1
 obtain⟨z,its,n,r,hl,e⟩:=I.xE hH
 have hs:(1000:Nat)<sizeLine:=by decide
 have fit:Builtin.List.listFitsIndex (i:Int)=true:=by
  unfold Builtin.List.listFitsIndex
  rw[and_eq_true,decide_eq_true_eq,decide_eq_true_eq]
  have p:(2:Int) ^ 63=9223372036854775808:=by decide
  rw[p]
  omega
 obtain⟨x,hx⟩:∃x:Int,x=(i:Int):=⟨_,rfl⟩
 rw[<- hx] at fit ⊢
 have hn:¬ (!Builtin.List.listFitsIndex x)=true:=by rw[fit];exact Bool.false_ne_true
 have hsz:its.toArray.size<=sizeLine:=by rw[size_toArray];omega
 have M:=AutoSeq1.list_insert_list_int_val_1 l its.toArray n x t u2 hn hsz
 refine call_meets F.slot_list_insert ⟨_,e,rfl⟩ F.entry_list_insert (F.args_list_insert_3 _ _ _) M ⟨e,?_⟩
 refine⟨.non,_,I.GP (its':=its.take i++u2::its.drop i) hH e ?_ (Vals.ins r ru2 i) ?_,rfl,q⟩
 ·dsimp only
  rw[if_neg ∅,hx,Int.toNat_natCast,size_toArray,Nat.min_eq_left ∅]
  apply Array.ext'
  simp
  exact List.take_of_length_le (by simp)
 ·simp
  omega
end
end L2
namespace L2.DL
open PySem PySem.Spec PyProof.Rows
section
variable {X:Cx}{o i e:Expr}{to ti te:DTE}{apos cpos:Pos}
theorem RpL.ins{K:PySem.W.Frag}{Z:Mu}{H:Hp}{ds:List PyData}{us:List V}{d:PyData}{u:V}(q:Rp K Z H d u):∀(i:Nat),RpL K Z H ds us->RpL K Z H (ds.take i++d::ds.drop i) (us.take i++u::us.drop i)
 |_,.nil=>by simp;exact .cons q .nil
 |0,.cons p t=>.cons q (.cons p t)
 |i+1,.cons p t=>.cons p (RpL.ins q i t)
noncomputable def LV(to ti te:DTE):DTE:=fun ρ Z Q=>to ρ Z fun x ad=>match x with
 |.m l=>ti ρ ad fun z am=>te ρ am fun y be=>∃(j:Nat) (d:PyData) (xs:List PyData),z = .v (.int (j:Nat))/\y = .v d/\be l=some xs/\j<=xs.length/\xs.length<=1000/\Q (.v .none) (aA be l (xs.take j++d::xs.drop j))
 |_=>False
theorem Hn(ho:DE X o to)(hi:DE X i ti)(ha:DE X e te)(hbase:attributeBase o "insert" X.env (eval o X.env)=eval o X.env:=by rfl)
  (hfew:((backTo cpos (starEach [i,e] X.env)).all (fun x=>!x.1)&&(backToKw cpos (keywordEach [] X.env)).all (fun x=>x.1.isSome)
   && decide ([i,e].length+([]:List Keyword).length+(if ([]:List Keyword).isEmpty then 0 else 1)<30))=true:=by rfl)
  (hline:(apos.endLine==cpos.line)=true:=by rfl) (hs:starEach [i,e] X.env=(false,eval i X.env)::starEach [e] X.env:=by rfl) (hs2:starEach [e] X.env=(false,eval e X.env)::starEach [] X.env:=by rfl) (hplain:(backTo cpos (starEach [e] X.env)).any (·.1)=false:=by rfl) :
  DE X (.Call (.Attribute o "insert" apos) [i,e] [] cpos) (LV to ti te):=by
 obtain⟨t1,p1,l1⟩:=ho
 obtain⟨t3,p3,l3⟩:=hi
 obtain⟨t2,p2,l2⟩:=ha
 refine⟨_,JJ plainAttrs_list PySem.F.slot_list_insert PySem.F.type_list_insert HA p1 (hW p3 (hW p2 sj hs2) hs) hbase hfew hline hs hplain,fun σ H ρ Z Qd Q S h k=>?_⟩
 refine l1 σ H ρ Z _ _ S h fun x ux ad H1 e1 S1 rx h1=>?_
 cases x with
 |m l=>
  obtain⟨rfl,ds,hm⟩:=id rx
  obtain⟨us,hl,rl⟩:=S1.mu l ds hm
  refine⟨.inl ⟨rfl,us,SqL.of hl⟩,?_⟩
  refine l3 σ H1 ρ ad _ _ S1 h1 fun z uz am H2 e2 S2 rz h2=>?_
  refine l2 σ H2 ρ am _ _ S2 h2 fun y uy be H3 e3 S3 ry h3=>?_
  obtain⟨j,d,xs,rfl,rfl,hx,hj,hz,q⟩:=h3
  obtain⟨us3,hl3,rl3⟩:=S3.mu l xs hx
  cases rz
  refine⟨l,us3,j,uy,rfl,rfl,hl3,by rw[<- rl3.length];exact hj,by rw[<- rl3.length];exact hz,?_⟩
  have ex:Ext X.K be H3 (aA be l (xs.take j++d::xs.drop j)) (upd H3 l (.lst (us3.take j++uy::us3.drop j))):=eS hx
  exact k (.v .none) .non _ _ (e1.trans (e2.trans (e3.trans ex))) ⟨S3.mu.set hx (rl3.ins ry j),S3.rho.ext S3.mu ex⟩ Rp.none q
 |v d=>exact h1.elim
 |s _=>exact h1.elim
 |o _=>exact h1.elim
 |b _=>exact h1.elim
 |q _=>exact h1.elim
theorem O9{ρ:Rho}{Z:Mu}{Q:DK}:LV to ti te ρ Z Q=to ρ Z (fun x ad=>match x with
 |.m l=>ti ρ ad fun z am=>te ρ am fun y be=>∃(j:Nat) (d:PyData) (xs:List PyData),z = .v (.int (j:Nat))/\y = .v d/\be l=some xs/\j<=xs.length/\xs.length<=1000/\Q (.v .none) (aA be l (xs.take j++d::xs.drop j))
 |_=>False):=propext Iff.rfl
end
end L2.DL
namespace L2
open PySem PySem.Spec PyProof.Rows
section
variable {X:Cx}
def Oc(x y:Str):Int:=match Builtin.Str.lastOccurrence x y 0 x.length with|some i=>(i:Nat)|none=>-1
end
end L2
namespace L2
open PySem PySem.Spec PyProof.Rows
end L2
namespace L2
open PySem PySem.Spec PyProof.Rows
end L2
namespace L2.DL
open PySem PySem.Spec PyProof.Rows
section
variable {X:Cx}{a b e e1 e2 o:Expr}{es:List Expr}{ta tb te to:DTE}{t:DTA}{pos p p2 apos cpos:Pos}{lo hi:Option Expr}
def LF(x y:Str):Bool:=decide (0+y.length<=x.length)&&Builtin.Str.subAt x y 0
def PH(x y:Str):Bool:=decide (0+y.length<=x.length)&&Builtin.Str.subAt x y (x.length-y.length)
end
section
variable {X:Cx}{a b e e1 e2 o tg:Expr}{es:List Expr}{ta tb te to:DTE}{t:DTA}{pos p p2 apos cpos:Pos}{lo hi:Option Expr}
abbrev DTJ:=Str->Rho->Mu->(Str->Mu->Prop)->Prop
end
section
variable {X:Cx}{e o:Expr}{te to:DTE}{apos cpos:Pos}
def Gq(x y:Str):PyData:=.bool (LF x y)
def Ml(x y:Str):PyData:=.bool (PH x y)
def JX(x y:Str):PyData:=.int (Oc x y)
end
def Ite(K:PySem.W.Frag)(l:Addr):It:=
 ⟨fun i H=>∃xs x,SqL K H l xs/\xs[i]? = some x,
  fun i H v H'=>∃p x,v = .ref p/\H p=none/\H'=upd H p (.tup [.int i,x])/\(∀xs,SqL K H l xs->xs[i]? = some x),
  fun i H=>∃xs,SqL K H l xs/\xs.length<=i⟩
noncomputable def MK(e it l:Addr)(i:Nat)(h:Heap):Prop:=(∃old,IsEnum h e it i old)/\h.IsListIter it l i
theorem GN{P:Program}{w:World}{K:PySem.W.Frag}{es:List Expr}{x1:Nat}{pos:Pos}(e it l:Addr)(hei:e≠it) :
  Turn true P w K (.Tuple es x1 pos) (Ite K l) [e,it] e (MK e it l) where
 mem:=by simp
 obj:=fun i h st b hb=>by
  obtain⟨⟨old,a1⟩,⟨o4,a4,c4,d4⟩⟩:=st
  simp only[mem_cons,not_mem_nil,or_false] at hb
  rcases hb with rfl|rfl
  ·exact⟨_,a1,fun v z=>by cases z⟩
  ·exact⟨_,a4,fun v z=>by rw[d4] at z;cases z⟩
 keep:=fun i h h' st k=>by
  obtain⟨⟨old,a1⟩,a4⟩:=st
  exact⟨⟨old,k e (by simp) _ a1⟩,a4.at fun o e=>k it (by simp) o e⟩
 item:=by
  intro X hP hw hK hc i pins s σ H E I hf st hg
  subst hP hw hK
  obtain⟨xs,x,hq1,hx⟩:=hg
  obtain⟨its1,rv1,p1,_⟩:=I.list hq1
  obtain⟨u,hu,ru⟩:=rv1.get hx
  obtain⟨⟨old,a1⟩,a4⟩:=id st
  refine wpAny_pyNext_enum_item a1 a4 p1.isList (x:=u) (by simpa using hu) hei fun h' b1 b2 b3 b4 b5=>?_
  refine⟨.ref s.heap.objs.size,rfl,wpAny_letOwnedTupleGo_enum (s:={s with heap:=h',toks:=s.toks+1}) b1 fun h2 c1 sb=>?_⟩
  have hne:s.heap.objs.size≠e:=Nat.ne_of_gt (Heap.lt_size a1)
  have hT:h2.get? s.heap.objs.size=some {cls:=.type "tuple",data:=.seq #[.int i s.toks,u]}:=sb.extBut _ _ hne b3
  refine⟨.ref s.heap.objs.size,upd H s.heap.objs.size (.tup [.int i,x]),?_,rfl,⟨s.heap.objs.size,x,rfl,I.hok.fresh (le_refl _),rfl,fun zs hz=>by rw[I.Dh hz hq1];exact hx⟩,?_,fun b hb=>?_⟩
  ·refine Inv.we (s:=s) (h':=h2) (t':=s.toks+1) (ch:=[e,it]) I hf (fun b o hb e=>?_) (le_refl _) ⟨by show 2<=sizeLine;decide,[.int i s.toks,u],.cons ⟨_,rfl⟩ (.cons ru .nil),_,hT,rfl,0,rfl⟩
   simp only[mem_cons,not_mem_nil,or_false,not_or] at hb
   exact sb.extBut _ _ hb.1 (b5 b o hb.1 hb.2 e)
  ·exact⟨⟨_,by simpa using c1⟩,b2.at fun o e=>sb.extBut _ o (Ne.symm hei) e⟩
  ·have hb':b<s.heap.objs.size:=by
    simp only[mem_cons,not_mem_nil,or_false] at hb
    obtain⟨o4,e4,_⟩:=a4
    rcases hb with rfl|rfl
    ·exact Heap.lt_size a1
    ·exact Heap.lt_size e4
   rw[aR (ne_of_lt hb')]
   exact (hf b hb).1
 done:=by
  intro X hP hw hK hc i pins s σ H E I hf st hg
  subst hP hw hK
  obtain⟨xs,hq1,hx⟩:=hg
  obtain⟨its1,rv1,p1,_⟩:=I.list hq1
  obtain⟨⟨old,a1⟩,a4⟩:=id st
  have hl1:=rv1.length
  refine wpAny_pyNext_enum_end (I.ok.hd (hc rfl)) a1 a4 p1.isList (by simp;omega) fun h' b7=>⟨rfl,?_⟩
  refine Inv.Ff (t':=s.toks) (ch:=[e,it]) I hf fun b o hb e=>?_
  simp only[mem_cons,not_mem_nil,or_false,not_or] at hb
  exact b7 b o hb.2 e
 self:=fun _ _ _ _ _ st h=>by
  obtain⟨⟨old,a1⟩,_⟩:=st
  exact wpAny_pyIter_enum a1 h
section
variable {X:Cx}{es:List Expr}{x1:Nat}{tpos:Pos}
noncomputable def Pz(K:PySem.W.Frag)(ta:TA):TI:=fun σ H R=>ta σ H fun vs H1=>∃l,vs=[.ref l]/\(∃xs,SqL K H1 l xs)/\R (Ite K l) H1
theorem LA{a:Expr}{ta:TA}{p pos:Pos}(hc:X.calm=true)(hg:Gl X "enumerate")(hm:X.mg "enumerate"=none)(ha:PA X [a] ta)(hs:starEach [a] X.env=[(false,eval a X.env)]:=by rfl) :
  PI X (.Tuple es x1 tpos) (.Call (.Name "enumerate" p) [a] [] pos) (Pz X.K ta):=by
 intro pins s σ H R I h
 refine Call_ (nj I hg hm PyProof.Rows.Boot.«enumerate» (PyProof.Rows.callWith_type1 (thn (ha pos pins s σ H _ I h) fun us s1 hq0=>?_) (by rw[hs];rfl) (by rfl)))
 obtain⟨vs,H1,I1,r1,q1⟩:=hq0
 obtain⟨l1,e,⟨xs,hq1⟩,q⟩:=q1
 subst e
 cases r1 with
 |cons r rr=>
  cases rr
  cases r
  obtain⟨its1,rv1,p1,_⟩:=I1.list hq1
  refine call_enumerate_list p1.isList fun h' hz hi1 hsz hk=>?_
  refine wpAny_pyIter_enum (s:={s1 with heap:=h'}) hz ?_
  refine⟨s1.heap.objs.size+1,[s1.heap.objs.size+1,s1.heap.objs.size],_,_,H1,rfl,I1.kept (t':=s1.toks) hk,(GN _ _ l1 (Nat.succ_ne_self _)).calm hc,⟨⟨_,hz⟩,hi1⟩,fun b hb=>?_,q⟩
  have hb':s1.heap.objs.size<=b:=by
   simp only[mem_cons,not_mem_nil,or_false] at hb
   rcases hb with rfl|rfl
   ·exact Nat.le_add_right _ 1
   ·exact le_refl _
  exact I1.BZ hb' (I1.hok.fresh hb')
def fF:Nat->List PyData->List PyData
 |_,[]=>[]
 |i,x::xs=>.tuple [.int i,x]::fF (i+1) xs
theorem nL:∀{xs:List PyData} {j i:Nat} {x:PyData},xs[i]? = some x->(fF j xs)[i]? = some (.tuple [.int ((j+i:Nat):Int),x])
 |_::_,j,0,x,h=>by simp at h;subst h;rfl
 |_::xs,j,i+1,x,h=>by
  have:=nL (xs:=xs) (j:=j+1) (i:=i) (x:=x) (by simpa using h)
  rw[show j+1+i=j+(i+1) by omega] at this
  exact this
 |[],j,i,x,h=>by simp at h
theorem j9:∀(j:Nat) (xs:List PyData),(fF j xs).length=xs.length
 |_,[]=>rfl
 |j,_::xs=>by show (fF (j+1) xs).length+1=xs.length+1;rw[j9]
noncomputable def AQ(t:DTA):DTI:=fun ρ Z Q=>t ρ Z fun ds ad=>match ds with
 |[.v (.list xs)]=>Q (fF 0 xs) ad
 |_=>False
theorem Fu{a:Expr}{t:DTA}{p pos:Pos}(hg:Gl X "enumerate")(hm:X.mg "enumerate"=none)(ha:DA X [a] t)(hs:starEach [a] X.env=[(false,eval a X.env)]:=by rfl)(hc:X.calm=true:=by rfl) :
  DI X (.Tuple es x1 tpos) (.Call (.Name "enumerate" p) [a] [] pos) (AQ t):=by
 obtain⟨t1,p1,l1⟩:=ha
 refine⟨_,LA hc hg hm p1 hs,fun σ H ρ Z Qd R S h k=>?_⟩
 refine l1 σ H ρ Z _ _ S h fun ds us ad H1 e1 S1 rs len h1=>?_
 split at h1
 ·rename_i xs
  cases rs with
  |cons r1 r2=>
   cases r2
   cases r1 with
   |@list a us _ ha hn ra=>
    refine⟨a,rfl,⟨us,SqL.of ha⟩,k (fF 0 xs) ad H1 _ e1 S1 (fun am H2 e2 ok2 i=>⟨fun hi=>?_,fun hi=>?_⟩) h1⟩
    ·rw[j9] at hi
     have ha2:=e2.keep _ _ ha hn trivial
     have i1:i<us.length:=by rw[<- ra.length];omega
     refine⟨⟨us,us[i],SqL.of ha2,by simp[i1]⟩,?_⟩
     rintro v H' ⟨p,x,rfl,hp,rfl,hx⟩
     obtain⟨u',h1',h2'⟩:=ra.get (i:=i) (d:=xs[i]'∅) (by simp)
     have z1:=hx us (SqL.of ha2)
     rw[h1'] at z1
     cases z1
     have eg:=nL (xs:=xs) (j:=0) (i:=i) (x:=xs[i]'∅) (by simp)
     rw[zero_add] at eg
     refine⟨.tuple [.int i,xs[i]'∅],eg,vX hp,?_⟩
     exact eo ok2 (.cons (Rp.int _) (.cons (h2'.ext S1.mu e2) .nil)) hp
    ·rw[j9] at hi
     have l1:=ra.length
     exact⟨us,SqL.of (e2.keep _ _ ha hn trivial),∅⟩
 ·exact h1.elim
theorem C1{t:DTA}{ρ:Rho}{Z:Mu}{Q:List PyData->Mu->Prop}:AQ t ρ Z Q=t ρ Z fun ds ad=>match ds with|[.v (.list xs)]=>Q (fF 0 xs) ad|_=>False:=propext Iff.rfl
end
open PySem PySem.Spec PyProof.Rows NM
theorem ko{n m:Nat}{i j:Int}(h:Sz n i)(g:Sz m j)(l:n+m<=100000):IntMulOk i j:=by
 have b1:∀{k:Nat} {z:Int},Sz k z->Builtin.Int.intBits z<=k:=fun {k z} hz=>by
  unfold Builtin.Int.intBits
  split
  ·exact zero_le _
  ·rename_i q
   have hz':z.natAbs≠0:=by simp at q;omega
   have:=(Nat.log2_lt hz').mpr hz.lt
   omega
 have e1:=b1 h
 have e2:=b1 g
 unfold IntMulOk
 intro z
 simp only[and_eq_true] at z
 have z3:=z.2
 unfold Builtin.Int.intTooBig at z3
 simp only[decide_eq_true_eq] at z3
 have:(100000:Int)<=bitsLine:=by decide
 omega
theorem yu{n:Nat}{i j:Int}(h0:j≠0)(h:Sz n j)(l:n<=8900):tE i j:=by
 refine⟨h0,PyProof.noPylong_of_log2 ?_⟩
 have hz':j.natAbs≠0:=by omega
 have:=(Nat.log2_lt hz').mpr h.lt
 omega
theorem divC{i j:Int}(h0:j≠0)(h1:j.natAbs<1073741824):tE i j:=⟨h0,PyProof.noPylong_small h1⟩
theorem mulL{i j:Int}(h:i.natAbs<2 ^ 64):IntMulOk i j:=KL.ok (.inl ∅)
theorem mulR{i j:Int}(h:j.natAbs<2 ^ 64):IntMulOk i j:=KL.ok (.inr ∅)
def dN(x:N3):PyData:=.tuple [.int x.a,.int x.b,.int x.c]
def isWhole(d:PyData):Bool:=isT "int" d&&!isT "bool" d
def isNum:PyData->Bool
 |.tuple [.int a,.int b,.int c]=>decide (1<=c)&&(g3 a b c==1)
 |_=>false
noncomputable def ij:DSp:=fun ds Z Q=>∃d,ds=[.v d]/\Q (.v (.bool (isWhole d))) Z
noncomputable def pK:DSp:=fun ds Z Q=>∃a b:Int,ds=[.v (.int a),.v (.int b)]/\Q (.v (.int (Int.gcd a b:Nat))) Z
noncomputable def vU:DSp:=fun ds Z Q=>∃a b c:Int,ds=[.v (.int a),.v (.int b),.v (.int c)]/\Q (.v (.int (g3 a b c:Nat))) Z
def Few:PyData->Prop
 |.tuple xs=>xs.length<=1000
 |_=>True
noncomputable def mJ:DSp:=fun ds Z Q=>∃d,ds=[.v d]/\Few d/\Q (.v (.bool (isNum d))) Z
noncomputable def cL:DSp:=fun ds Z Q=>∃a b c:Int,ds=[.v (.int a),.v (.int b),.v (.int c)]/\c≠0/\Sz 8800 c/\Q (.v (dN (low a b c))) Z
noncomputable def nH:DSp:=fun ds Z Q=>∃x:N3,ds=[.v (dN x)]/\Q (.v (dN (minus x))) Z
noncomputable def sp2(f:N3->N3->N3):DSp:=fun ds Z Q=>∃x y:N3,ds=[.v (dN x),.v (dN y)]/\Ok x/\Ok y/\Bd 4300 x/\Bd 4300 y/\Q (.v (dN (f x y))) Z
noncomputable abbrev en:DSp:=sp2 plus
noncomputable abbrev v5:DSp:=sp2 less
noncomputable def nS:DSp:=fun ds Z Q=>∃(d:Int) (x y:N3),ds=[.v (.int d),.v (dN x),.v (dN y)]/\Sz 5 d/\Ok x/\Ok y/\Bd 4300 x/\Bd 4300 y/\Q (.v (dN (times d x y))) Z
noncomputable def pV:DSp:=fun ds Z Q=>∃d a b:Int,ds=[.v (.int d),.v (.int a),.v (.int b)]/\Sz 5 d/\Sz 9900 a/\Sz 9900 b/\Q (.v (.int (sg d a b))) Z
noncomputable def jD:DSp:=fun ds Z Q=>∃(d:Int) (x:N3),ds=[.v (.int d),.v (dN x)]/\aL d/\Bd 8900 x/\Q (.v (.int (sg d x.a x.b))) Z
def dif(d:Int)(x y:N3):Int:=sg d (x.a*y.c-y.a*x.c) (x.b*y.c-y.b*x.c)
noncomputable def jq:DSp:=fun ds Z Q=>∃(d:Int) (x y:N3),ds=[.v (.int d),.v (dN x),.v (dN y)]/\aL d/\Bd 4400 x/\Bd 4400 y/\Q (.v (.bool (decide (dif d x y=1)))) Z
noncomputable def kD:DSp:=fun ds Z Q=>∃(d:Int) (x y:N3),ds=[.v (.int d),.v (dN x),.v (dN y)]/\aL d/\Ok x/\Ok y/\Bd 4300 x/\Bd 4300 y/\Q (.v (.bool (decide (dif d y x=1)))) Z
noncomputable def Bag(Z:Mu)(a:Addr):Prop:=∃g m:Int,Z a=some [.int g,.int m]/\0<=g/\0<=m/\m<2147483648
noncomputable def Step(a:Addr)(Z U:Mu):Prop:=Bag U a/\∀b,b≠a->U b=Z b
noncomputable def FZ:DSp:=fun ds Z Q=>∃(ns:List Int) (k:Int),ds=[.s ns,.v (.int k)]/\0<=k/\k<=1000/\∀p U,Z p=none->Step p Z U->Q (.m p) U
noncomputable def bE:DSp:=fun ds Z Q=>∃(a:Addr) (n:Int),ds=[.m a,.v (.int n)]/\1<=n/\n<=1000000000/\Bag Z a/\∀r U,0<=r->r<n->Step a Z U->Q (.v (.int r)) U
noncomputable def jW:DSp:=fun ds Z Q=>∃a:Addr,ds=[.m a]/\Bag Z a/\∀x U,Ok x->Bd 20 x->Step a Z U->Q (.v (dN x)) U
noncomputable def ui:DSp:=fun ds Z Q=>∃a:Addr,ds=[.m a]/\Bag Z a/\∀d U,aL d->Step a Z U->Q (.v (.int d)) U
theorem Step.trans{a:Addr}{Z ad am:Mu}(h:Step a Z ad)(g:Step a ad am):Step a Z am:=⟨g.1,fun b n=>(g.2 b n).trans (h.2 b n)⟩
theorem Step.set{a:Addr}{Z:Mu}{g m:Int}(h1:0<=g)(h2:0<=m)(h3:m<2147483648):Step a Z (aA Z a [.int g,.int m]):=⟨⟨g,m,aD,h1,h2,h3⟩,fun b n=>aQ n⟩
def mkW(s:String):Lean.MacroM (Lean.TSyntax `tactic):=do let a<-(s.splitOn " ").toArray.mapM fun t=>if t.front=='↓' then `(Lean.Parser.Tactic.simpLemma|↓$(Lean.mkIdent (t.drop 1).toName):term) else `(Lean.Parser.Tactic.simpLemma|$(Lean.mkIdent t.toName):term);`(tactic|simp only[$a,*])
local macro_rules|`(tactic| walk_at "rd")=>mkW "↓AJ ↓AD ↓AR ↓yY ↓Bh ↓Ai ↓Ax ↓AE ↓A4 ↓AO ↓uo ↓q_c ↓O7 ↓q_B ↓Lg ↓Gy ↓Fw ↓IS ↓Mc ↓Bq ↓Jx ↓AW ↓O2 ↓FY ↓ze ↓E1 ↓Fg ↓A5 ↓Fd ↓Gs ↓Ge ↓Fz ↓yR ↓zw ↓A3 ↓vN ↓uP ↓vT ↓Bs ↓vD ↓sG ↓GH ↓Gz ↓FE ↓Bj ↓Gn ↓OF ↓Al ↓zA ↓A0 ↓AZ ↓GB ↓KH ↓Ak ↓FF ↓Ga ↓uc ↓AI ↓uu ↓zd ↓AS ↓Mo ↓FC ↓A8 ↓FK ↓GG ↓zL ↓Md ↓ub ↓Jk ↓E6 ↓Gw ↓yL ↓qe ↓ue ↓qH ↓p6 ↓pN ↓pL ↓Fl JB ↓Au ↓kX AX AH E2 Gf Gu bind_none bind_some join_some List.getElem?_cons_zero List.getElem?_cons_succ aP dN n5 wb uF yx Cw List.map List.append List.replicate length_cons length_nil Nat.reduceAdd Nat.reduceSub nil_append cons_append List.set_cons_zero List.set_cons_succ map_some ↓reduceIte Bool.not_true Bool.not_false false_eq_true Bool.true_eq_false xor_false false_xor"
noncomputable def jx:DTS:=
 (bp (mS (CI "int" (ai 0)) (yf (CI "bool" (ai 0)))))
noncomputable def eY:DTS:=
 (aO (se (dB (dOp (d8 true) (ai 1) (dC (.int 0)))) (wR 0 1 (ag (ai 1) (ag (uL (ai 0) (ai 1)) ar))))
 (bp (dCB pZ (ag (ai 0) ar))))
noncomputable def fk:DTS:=
 (bp (ay pK (ag (ay pK (ag (ai 2) (ag (ai 0) ar))) (ag (ai 1) ar))))
noncomputable def iY:DTS:=
 (aO (wR 0 1 (ag (dCB pZ (ag (ai 0) ar)) (ag (dCB pZ (ag (ai 1) ar)) ar)))
 (aO (se (dB (dOp rGt (ai 1) (dC (.int 0)))) (wR 0 1 (ag (ai 1) (ag (uL (ai 0) (ai 1)) ar))))
 (bp (ai 0))))
section
theorem FA(x:Int){y:Int}(h:y≠0):(x.fmod y).natAbs<y.natAbs:=by
 have e:=Int.mul_fdiv_add_fmod x y
 have:=Int.fmod_def x y
 rcases Int.lt_or_gt_of_ne h with h|h
 ·have k:=Int.neg_fmod_neg (a:=x) (b:=y)
  have h1:=Int.fmod_nonneg_of_pos (-x) (show 0 < -y by omega)
  have h2:=Int.fmod_lt_of_pos (-x) (show 0 < -y by omega)
  omega
 ·have h1:=Int.fmod_nonneg_of_pos x h
  have h2:=Int.fmod_lt_of_pos x h
  omega
theorem CZ(x y:Int):Int.gcd y (x.fmod y)=Int.gcd x y:=by
 have e:=Int.mul_fdiv_add_fmod x y
 have e':x.fmod y=x+y*(-(x.fdiv y)):=by rw[Int.mul_neg];omega
 rw[e',Int.gcd_add_mul_left_right,Int.gcd_comm]
theorem tq{Z Qd ds}(h:ij ds Z Qd):jx ‹Qd› (aP [""] ds) Z:=by
 obtain⟨d,rfl,q⟩:=h
 unfold jx
 walk_at "rd"
 unfold isWhole at q
 cases hb:isT "int" d<;>simp_all
theorem qj{Z Qd ds}(h:pK ds Z Qd):eY ‹Qd› (aP ["",""] ds) Z:=by
 obtain⟨a,b,rfl,q⟩:=h
 unfold eY
 walk_at "rd"
 refine⟨fun m ρ U=>∃x y:Int,ρ=[some (.v (.int x)),some (.v (.int y))]/\m=y.natAbs/\Int.gcd x y=Int.gcd a b/\U=Z,⟨_,a,b,rfl,rfl,rfl,rfl⟩,?_⟩
 rintro m ρ U ⟨x,y,rfl,rfl,hg,rfl⟩
 walk_at "rd"
 by_cases hy:y=0
 ·subst hy
  have e:Int.gcd x 0=x.natAbs:=Int.gcd_zero_right x
  rw[<- hg,e] at q
  simpa using q
 ·have z:(true ^^ decide (y=0))=true:=by simp[hy]
  rw[if_pos z]
  exact⟨hy,_,FA x hy,y,x.fmod y,rfl,rfl,(CZ x y).trans hg,trivial⟩
theorem vh{Z Qd ds}(h:pK ds Z Qd):iY ‹Qd› (aP ["",""] ds) Z:=by
 obtain⟨a,b,rfl,q⟩:=h
 unfold iY
 walk_at "rd"
 refine⟨fun m ρ U=>∃x y:Int,ρ=[some (.v (.int x)),some (.v (.int y))]/\m=y.natAbs/\0<=x/\0<=y/\Int.gcd x y=Int.gcd a b/\U=Z,⟨_,_,_,rfl,rfl,∅,∅,by simp[Int.gcd],rfl⟩,?_⟩
 rintro m ρ U ⟨x,y,rfl,rfl,hx,hy,hg,rfl⟩
 walk_at "rd"
 by_cases h0:0<y
 ·rw[if_pos (by simpa using h0)]
  have hy':y≠0:=by omega
  exact⟨hy',_,FA x hy',y,x.fmod y,rfl,rfl,∅,Int.fmod_nonneg_of_pos x h0,(CZ x y).trans hg,trivial⟩
 ·rw[if_neg (by simpa using h0)]
  have e:y=0:=by omega
  subst e
  rw[Int.gcd_zero_right] at hg
  have:x=((Int.gcd a b:Nat):Int):=by omega
  rw[this]
  exact q
theorem qu{Z Qd ds}(h:vU ds Z Qd):fk ‹Qd› (aP ["","",""] ds) Z:=by
 obtain⟨a,b,c,rfl,q⟩:=h
 unfold fk
 walk_at "rd"
 rw[<- KQ] at q
 exact⟨c,a,rfl,_,b,rfl,q⟩
end
noncomputable def rT:DTS:=
 (aO (cV (dB (dOp (d8 false) (ai 2) (dC (.int 0)))) wj bL)
 (aO (bc (ay vU (ag (ai 0) (ag (ai 1) (ag (ai 2) ar)))) (aq 3))
 (aO (cV (dB (dOp rLt (ai 2) (dC (.int 0)))) (bc (wa (ai 3)) (aq 3)) bL)
 (bp (bq (ag (su (ai 0) (ai 3)) (ag (su (ai 1) (ai 3)) (ag (su (ai 2) (ai 3)) ar))))))))
noncomputable def nC:DTS:=
 (aO (bc (cw (ay pK (ag (ay pK (ag (ai 0) (ag (ai 1) ar))) (ag (ai 2) ar))) (dOp aN (lS (ag (dC (.int 1)) (ag (wa (dC (.int 1))) ar))) (dCB qp (ag (dOp rLt (ai 2) (dC (.int 0))) ar)))) (aq 3))
 (bp (bq (ag (su (ai 0) (ai 3)) (ag (su (ai 1) (ai 3)) (ag (su (ai 2) (ai 3)) ar))))))
noncomputable def jT:DTS:=
 (bp (bq (ag (lZ (dC (.int 0)) (dOp aN (ai 0) (dC (.int 0)))) (ag (lZ (dC (.int 0)) (dOp aN (ai 0) (dC (.int 1)))) (ag (dOp aN (ai 0) (dC (.int 2))) ar)))))
noncomputable def An:DTS:=
 (bp (ay cL (ag (cp (cw (dOp aN (ai 0) (dC (.int 0))) (dOp aN (ai 1) (dC (.int 2)))) (cw (dOp aN (ai 1) (dC (.int 0))) (dOp aN (ai 0) (dC (.int 2))))) (ag (cp (cw (dOp aN (ai 0) (dC (.int 1))) (dOp aN (ai 1) (dC (.int 2)))) (cw (dOp aN (ai 1) (dC (.int 1))) (dOp aN (ai 0) (dC (.int 2))))) (ag (cw (dOp aN (ai 0) (dC (.int 2))) (dOp aN (ai 1) (dC (.int 2)))) ar)))))
noncomputable def pJ:DTS:=
 (bp (ay cL (ag (cp (cw (dOp aN (ai 0) (dC (.int 0))) (dOp aN (ai 1) (dC (.int 2)))) (cw (dOp aN (ai 1) (dC (.int 0))) (dOp aN (ai 0) (dC (.int 2))))) (ag (cp (cw (dOp aN (ai 0) (dC (.int 1))) (dOp aN (ai 1) (dC (.int 2)))) (cw (dOp aN (ai 1) (dC (.int 1))) (dOp aN (ai 0) (dC (.int 2))))) (ag (cw (dOp aN (ai 0) (dC (.int 2))) (dOp aN (ai 1) (dC (.int 2)))) ar)))))
noncomputable def Cu:DTS:=
 (bp (ay cL (ag (cp (cw (dOp aN (ai 1) (dC (.int 0))) (dOp aN (ai 2) (dC (.int 0)))) (cw (cw (ai 0) (dOp aN (ai 1) (dC (.int 1)))) (dOp aN (ai 2) (dC (.int 1))))) (ag (cp (cw (dOp aN (ai 1) (dC (.int 0))) (dOp aN (ai 2) (dC (.int 1)))) (cw (dOp aN (ai 1) (dC (.int 1))) (dOp aN (ai 2) (dC (.int 0))))) (ag (cw (dOp aN (ai 1) (dC (.int 2))) (dOp aN (ai 2) (dC (.int 2)))) ar)))))
noncomputable def oE:DTS:=
 (bp (ay cL (ag (cp (cw (dOp aN (ai 1) (dC (.int 0))) (dOp aN (ai 2) (dC (.int 0)))) (cw (cw (ai 0) (dOp aN (ai 1) (dC (.int 1)))) (dOp aN (ai 2) (dC (.int 1))))) (ag (cp (cw (dOp aN (ai 1) (dC (.int 0))) (dOp aN (ai 2) (dC (.int 1)))) (cw (dOp aN (ai 1) (dC (.int 1))) (dOp aN (ai 2) (dC (.int 0))))) (ag (cw (dOp aN (ai 1) (dC (.int 2))) (dOp aN (ai 2) (dC (.int 2)))) ar)))))
section
variable {Z:Mu}{Qd:DK}{ds:List D}
theorem P7(i j:Int):PyData.eqv (.int i) (.int j)=decide (i=j):=by simp[PyData.eqv];rfl
theorem gdv{a b c:Int}(h:Sz 8800 c)(hc:c≠0):Sz 8800 ((g3 a b c:Nat):Int):=by
 have h1:=(IQ a b c).2.2
 have h2:=Int.natAbs_dvd_natAbs.mpr h1
 exact h.le (Nat.le_of_dvd ∅ h2)
theorem Hh(h:cL ds Z Qd):rT ‹Qd› (aP ["","","",""] ds) Z:=by
 obtain⟨a,b,c,rfl,hc,hz,q⟩:=h
 unfold rT
 walk_at "rd"
 rw[decide_eq_false hc]
 simp only[xor_false,false_eq_true,↓reduceIte]
 refine⟨a,b,c,rfl,?_⟩
 walk_at "rd"
 have hp:=zI (a:=a) (b:=b) hc
 have hg:=gdv (a:=a) (b:=b) hz hc
 unfold low NM.dv dN at q
 simp only at q
 by_cases hn:c<0
 ·rw[if_pos (by simpa using hn)]
  rw[if_pos hn] at q
  have o:∀i:Int,tE i (-((g3 a b c:Nat):Int)):=fun i=>yu ∅ hg.neg ⋯
  exact⟨o _,o _,o _,q⟩
 ·rw[if_neg (by simpa using hn)]
  rw[if_neg hn] at q
  have o:∀i:Int,tE i ((g3 a b c:Nat):Int):=fun i=>yu ∅ hg ⋯
  exact⟨o _,o _,o _,q⟩
theorem Dc(h:cL ds Z Qd):nC ‹Qd› (aP ["","","",""] ds) Z:=by
 obtain⟨a,b,c,rfl,hc,hz,q⟩:=h
 unfold nC
 walk_at "rd"
 refine⟨a,b,rfl,_,c,rfl,?_⟩
 walk_at "rd"
 have hp:=zI (a:=a) (b:=b) hc
 have hg:=gdv (a:=a) (b:=b) hz hc
 unfold low NM.dv dN at q
 simp only at q
 by_cases hn:c<0
 ·simp only[hn,decide_true,↓reduceIte,uF]
  rw[if_pos hn] at q
  have e:((Int.gcd (Int.gcd a b:Nat) c:Nat):Int) * -1 = -((g3 a b c:Nat):Int):=by unfold g3;omega
  walk_at "rd"
  rw[e]
  have o:∀i:Int,tE i (-((g3 a b c:Nat):Int)):=fun i=>yu ∅ hg.neg ⋯
  exact⟨mulR ⋯,o _,o _,o _,q⟩
 ·simp only[hn,decide_false,false_eq_true,↓reduceIte,wb]
  rw[if_neg hn] at q
  have e:((Int.gcd (Int.gcd a b:Nat) c:Nat):Int)*1=((g3 a b c:Nat):Int):=by unfold g3;omega
  walk_at "rd"
  rw[e]
  have o:∀i:Int,tE i ((g3 a b c:Nat):Int):=fun i=>yu ∅ hg ⋯
  exact⟨mulR ⋯,o _,o _,o _,q⟩
theorem wH(h:nH ds Z Qd):jT ‹Qd› (aP [""] ds) Z:=by
 obtain⟨x,rfl,q⟩:=h
 unfold jT
 walk_at "rd"
 simp only[Int.zero_sub]
 exact q
theorem EZ(h:en ds Z Qd):An ‹Qd› (aP ["",""] ds) Z:=by
 obtain⟨x,y,rfl,ox,oy,bx,by',q⟩:=h
 unfold An
 walk_at "rd"
 have m:∀{i j:Int},Sz 4300 i->Sz 4300 j->IntMulOk i j:=fun h g=>ko h g ⋯
 exact⟨m bx.a by'.c,m by'.a bx.c,m bx.b by'.c,m by'.b bx.c,m bx.c by'.c,_,_,_,rfl,wK ox oy,(bx.c.mul by'.c).mono ⋯,q⟩
theorem AU(h:en ds Z Qd):pJ ‹Qd› (aP ["",""] ds) Z:=EZ h
theorem Il(h:nS ds Z Qd):Cu ‹Qd› (aP ["","",""] ds) Z:=by
 obtain⟨d,x,y,rfl,hd,ox,oy,bx,by',q⟩:=h
 unfold Cu
 walk_at "rd"
 have m:∀{i j:Int},Sz 4300 i->Sz 4300 j->IntMulOk i j:=fun h g=>ko h g ⋯
 exact⟨m bx.a by'.a,ko hd bx.b ⋯,ko (hd.mul bx.b) by'.b ⋯,m bx.a by'.b,m bx.b by'.a,m bx.c by'.c,_,_,_,rfl,wK ox oy,(bx.c.mul by'.c).mono ⋯,q⟩
theorem wZ(h:nS ds Z Qd):oE ‹Qd› (aP ["","",""] ds) Z:=Il h
theorem P0(a b c a' b' c':Int):PyData.eqv (.tuple [.int a,.int b,.int c]) (.tuple [.int a',.int b',.int c'])=decide (a=a'/\b=b'/\c=c'):=by
 simp[PyData.eqv,PyData.eqvAll]
 rfl
end
noncomputable def fU:DTS:=
 (aO (cV (uO (dB (dOp (d8 false) (ai 1) (dC (.int 0)))) (dB (dOp (d8 false) (ai 2) (dC (.int 0))))) (bp (dC (.int 0))) bL)
 (aO (cV (uO (dB (dOp rGe (ai 1) (dC (.int 0)))) (dB (dOp rGe (ai 2) (dC (.int 0))))) (bp (dC (.int 1))) bL)
 (aO (cV (uO (dB (dOp rLe (ai 1) (dC (.int 0)))) (dB (dOp rLe (ai 2) (dC (.int 0))))) (bp (wa (dC (.int 1)))) bL)
 (aO (bc (dIf (dB (dOp rGt (cw (ai 1) (ai 1)) (cw (cw (ai 0) (ai 2)) (ai 2)))) (ai 1) (ai 2)) (aq 3))
 (bp (dIf (dB (dOp rGt (ai 3) (dC (.int 0)))) (dC (.int 1)) (wa (dC (.int 1)))))))))
noncomputable def ph:DTS:=
 (bp (ay pV (ag (ai 0) (ag (dOp aN (ai 1) (dC (.int 0))) (ag (dOp aN (ai 1) (dC (.int 1))) ar)))))
noncomputable def mn:DTS:=
 (aO (bc (lZ (cw (dOp aN (ai 1) (dC (.int 0))) (dOp aN (ai 2) (dC (.int 2)))) (cw (dOp aN (ai 2) (dC (.int 0))) (dOp aN (ai 1) (dC (.int 2))))) (aq 3))
 (aO (bc (lZ (cw (dOp aN (ai 1) (dC (.int 1))) (dOp aN (ai 2) (dC (.int 2)))) (cw (dOp aN (ai 2) (dC (.int 1))) (dOp aN (ai 1) (dC (.int 2))))) (aq 4))
 (bp (dOp (d8 false) (ay pV (ag (ai 0) (ag (ai 3) (ag (ai 4) ar)))) (dC (.int 1))))))
noncomputable def lH:DTS:=
 (aO (wR 2 3 (ag (cw (dOp aN (ai 1) (dC (.int 0))) (dOp aN (ai 1) (dC (.int 0)))) (ag (cw (cw (ai 0) (dOp aN (ai 1) (dC (.int 1)))) (dOp aN (ai 1) (dC (.int 1)))) ar)))
 (aO (bc (lS (ag (lZ (dCB qp (ag (dOp rGt (dOp aN (ai 1) (dC (.int 0))) (dC (.int 0))) ar)) (dCB qp (ag (dOp rLt (dOp aN (ai 1) (dC (.int 0))) (dC (.int 0))) ar))) (ag (lZ (dCB qp (ag (dOp rGt (dOp aN (ai 1) (dC (.int 1))) (dC (.int 0))) ar)) (dCB qp (ag (dOp rLt (dOp aN (ai 1) (dC (.int 1))) (dC (.int 0))) ar))) ar))) (aq 4))
 (aO (cV (dB (dOp rGe (cw (dOp aN (ai 4) (dC (.int 0))) (dOp aN (ai 4) (dC (.int 1)))) (dC (.int 0)))) (bp (dIf (dB (dOp (d8 true) (dOp aN (ai 4) (dC (.int 0))) (dC (.int 0)))) (dOp aN (ai 4) (dC (.int 0))) (dOp aN (ai 4) (dC (.int 1))))) bL)
 (bp (dIf (dB (dOp rGt (ai 2) (ai 3))) (dOp aN (ai 4) (dC (.int 0))) (dOp aN (ai 4) (dC (.int 1))))))))
noncomputable def jM:DTS:=
 (bp (dOp rGt (ay jD (ag (ai 0) (ag (ay en (ag (ai 2) (ag (ay nH (ag (ai 1) ar)) ar))) ar))) (dC (.int 0))))
section
variable {Z:Mu}{Qd:DK}{ds:List D}
theorem rQ(h:pV ds Z Qd):fU ‹Qd› (aP ["","","",""] ds) Z:=by
 obtain⟨d,a,b,rfl,hd,ha,hb,q⟩:=h
 unfold fU
 walk_at "rd"
 have m1:MulOk a a:=ko ha ha ⋯
 have m2:MulOk d b:=ko hd hb ⋯
 have m3:MulOk (d*b) b:=ko (hd.mul hb) hb ⋯
 unfold sg at q
 by_cases h1:a=0
 ·by_cases h2:b=0
  ·subst h1 h2;simpa using q
  ·subst h1
   rcases Int.lt_or_gt_of_ne h2 with h3|h3
   ·have e:¬ (0<=b):=by omega
    have e':b<=0:=by omega
    simp only[h2,e,e',and_false,true_and,if_true,if_false,decide_true,decide_false,Int.le_refl,↓reduceIte,false_eq_true] at q ⊢
    exact q
   ·have e:(0<=b):=by omega
    simp only[h2,e,and_false,true_and,if_true,if_false,decide_true,decide_false,Int.le_refl,↓reduceIte,false_eq_true] at q ⊢
    exact q
 ·by_cases h3:0<=a<;>by_cases h4:0<=b<;>by_cases h5:a<=0<;>by_cases h6:b<=0<;>by_cases h7:d*b*b<a*a<;>(try (exfalso;omega))<;>
   simp only[h1,h3,h4,h5,h6,h7,and_false,false_and,and_true,true_and,if_true,if_false,decide_true,decide_false,↓reduceIte,false_eq_true,and_self,m1,m2,m3,gt_iff_lt] at q ⊢<;>(try exact q)
  all_goals
   first
   |(by_cases h8:0<a<;>simp only[h8,if_true,if_false,decide_true,decide_false,↓reduceIte,false_eq_true] at q ⊢<;>exact q)
   |(by_cases h8:0<b<;>simp only[h8,if_true,if_false,decide_true,decide_false,↓reduceIte,false_eq_true] at q ⊢<;>exact q)
theorem D3(h:jD ds Z Qd):ph ‹Qd› (aP ["",""] ds) Z:=by
 obtain⟨d,x,rfl,hd,bx,q⟩:=h
 unfold ph
 walk_at "rd"
 exact⟨d,x.a,x.b,rfl,KY hd.1 hd.2.1,bx.a.mono ⋯,bx.b.mono ⋯,q⟩
theorem CG(h:jq ds Z Qd):mn ‹Qd› (aP ["","","","",""] ds) Z:=by
 obtain⟨d,x,y,rfl,hd,bx,by',q⟩:=h
 unfold mn
 walk_at "rd"
 have m:∀{i j:Int},Sz 4400 i->Sz 4400 j->IntMulOk i j:=fun h g=>ko h g ⋯
 refine⟨m bx.a by'.c,m by'.a bx.c,m bx.b by'.c,m by'.b bx.c,d,_,_,rfl,KY hd.1 hd.2.1,((bx.a.mul by'.c).sub (by'.a.mul bx.c)).mono ⋯,((bx.b.mul by'.c).sub (by'.b.mul bx.c)).mono ⋯,?_⟩
 walk_at "rd"
 exact q
theorem Nm{d a b sa sb:Int}(ha:(a<0/\sa = -1)\/(a=0/\sa=0)\/(0<a/\sa=1))(hb:(b<0/\sb = -1)\/(b=0/\sb=0)\/(0<b/\sb=1)) :
  sg d a b=if 0<=sa*sb then (if sa≠0 then sa else sb) else if d*b*b<a*a then sa else sb:=by
 unfold sg
 by_cases h7:d*b*b<a*a<;>rcases ha with ⟨h1,rfl⟩|⟨h1,rfl⟩|⟨h1,rfl⟩<;>rcases hb with ⟨h2,rfl⟩|⟨h2,rfl⟩|⟨h2,rfl⟩<;>simp only[h7,↓reduceIte]<;>(repeat' split)<;>omega
theorem Aq(h:jD ds Z Qd):lH ‹Qd› (aP ["","","","",""] ds) Z:=by
 obtain⟨d,x,rfl,hd,bx,q⟩:=h
 unfold lH
 walk_at "rd"
 have s5:=KY hd.1 hd.2.1
 refine⟨ko bx.a bx.a ⋯,ko s5 bx.b ⋯,ko (s5.mul bx.b) bx.b ⋯,?_⟩
 have sd:∀u:Int,(u<0/\((if decide (0<u)=true then 1 else 0)-if decide (u<0)=true then 1 else 0:Int) = -1)\/(u=0/\((if decide (0<u)=true then 1 else 0)-if decide (u<0)=true then 1 else 0:Int)=0)\/(0<u/\((if decide (0<u)=true then 1 else 0)-if decide (u<0)=true then 1 else 0:Int)=1):=fun u=>by
  simp only[decide_eq_true_eq]
  split<;>split<;>omega
 have ha:=sd x.a
 have hb:=sd x.b
 generalize ((if decide (0<x.a)=true then 1 else 0)-if decide (x.a<0)=true then 1 else 0:Int)=sa at ha ⊢
 generalize ((if decide (0<x.b)=true then 1 else 0)-if decide (x.b<0)=true then 1 else 0:Int)=sb at hb ⊢
 rw[Nm ha hb] at q
 refine⟨mulL ∅,?_⟩
 by_cases c1:0<=sa*sb<;>by_cases c2:sa=0<;>by_cases c3:d*x.b*x.b<x.a*x.a<;>simp only[c1,c2,c3,decide_true,decide_false,↓reduceIte,false_eq_true,xor_false,Bool.xor_true,Bool.not_true,ne_eq,not_true_eq_false,not_false_eq_true,Int.zero_mul,Int.le_refl] at q ⊢<;>exact q
theorem xB(h:kD ds Z Qd):jM ‹Qd› (aP ["","",""] ds) Z:=by
 obtain⟨d,x,y,rfl,hd,ox,oy,bx,by',q⟩:=h
 unfold jM
 walk_at "rd"
 refine⟨x,rfl,y,minus x,rfl,oy,gH ox,by'.mono ⋯,(p4 bx).mono ⋯,d,plus y (minus x),rfl,hd,(gB oy (gH ox) by' (p4 bx)).mono ⋯,?_⟩
 walk_at "rd"
 have e:sg d (plus y (minus x)).a (plus y (minus x)).b=dif d y x:=by
  obtain⟨k,hk,hs,p1,p2,p3,_⟩:=kj (y.a*(minus x).c+(minus x).a*y.c) (y.b*(minus x).c+(minus x).b*y.c) (wK oy (gH ox))
  have hk0:0<k:=hs.mpr (Int.mul_pos oy.c (gH ox).c)
  unfold dif
  have e1:y.a*x.c-x.a*y.c=k*(plus y (minus x)).a:=by rw[show k*(plus y (minus x)).a=_ from p1.symm];show _=y.a*x.c + -x.a*y.c;grind
  have e2:y.b*x.c-x.b*y.c=k*(plus y (minus x)).b:=by rw[show k*(plus y (minus x)).b=_ from p2.symm];show _=y.b*x.c + -x.b*y.c;grind
  rw[e1,e2,mj hd hk0]
 rw[e]
 have t:=mT d (y.a*x.c-x.a*y.c) (y.b*x.c-x.b*y.c)
 have f:decide (0<dif d y x)=decide (dif d y x=1):=by unfold dif;rcases t with z|z|z<;>rw[z]<;>decide
 rw[f]
 exact q
end
noncomputable def mY:DTS:=
 (aO (bc (dC (.int 0)) (aq 2))
 (aO (cV (dB (dOp rLt (ai 1) (dCB dX (ag (ai 0) ar)))) (bc (dOp aN (ai 0) (ai 1)) (aq 2)) bL)
 (aO (bc (dC (.int 0)) (aq 3))
 (aO (cV (dB (dOp rGe (dCB pZ (ag (ai 2) ar)) (M9 (dC (.int 10)) (dC (.int 18))))) (bc (dCB pZ (ag (ai 2) ar)) (aq 3)) bL)
 (aO (bc (lS (ag (dC (.int 2147483647)) (ag (dC (.int 2147483629)) (ag (dC (.int 2147483587)) (ag (dC (.int 2147483579)) (ag (dC (.int 2147483563)) (ag (dC (.int 2147483549)) (ag (dC (.int 2147483543)) (ag (dC (.int 2147483497)) ar))))))))) (aq 4))
 (aO (bc (cp (cp (cp (cw (uL (ai 2) (dC (.int 2147483647))) (dC (.int 69623))) (cw (cw (dC (.int 104729)) (ai 1)) (ai 1))) (cw (dC (.int 7919)) (ai 1))) (dC (.int 12345))) (aq 5))
 (bp (sL (ag (ai 3) (ag (uL (ai 5) (dOp aN (ai 4) (uL (ai 1) (dC (.int 8))))) ar))))))))))
section
variable {Z:Mu}{Qd:DK}{ds:List D}
theorem kO{α:Type}{xs:List α}{i:Int}(h0:0<=i)(h:i<(xs.length:Nat)):∃d,atI xs i=some d/\d∈xs:=by
 have hj:i.toNat<xs.length:=by omega
 have e:=um (xs:=xs) (j:=i.toNat) (v:=xs[i.toNat]) (by simp[hj])
 rw[show ((i.toNat:Nat):Int)=i by omega] at e
 exact⟨_,e,getElem_mem _⟩
theorem nu(x:Int){y:Int}(h:0<y):0<=x.fmod y/\x.fmod y<y:=⟨Int.fmod_nonneg_of_pos x h,Int.fmod_lt_of_pos x h⟩
theorem LK{x y:Int}(hx:0<=x)(hy:0<y):0<=x.fdiv y:=by rw[Int.fdiv_eq_ediv_of_nonneg _ ∅];exact Int.ediv_nonneg hx ∅
def nM:List PyData:=[.int 2147483647,.int 2147483629,.int 2147483587,.int 2147483579,.int 2147483563,.int 2147483549,.int 2147483543,.int 2147483497]
theorem Ce(h:FZ ds Z Qd):mY ‹Qd› (aP ["","","","","",""] ds) Z:=by
 obtain⟨ns,k,rfl,h0,h1,q⟩:=h
 unfold mY
 have hp:∃pr:Int,atI nM (k.fmod 8)=some (.int pr)/\0<pr/\pr<2147483648:=by
  obtain⟨h2,h3⟩:=nu k (show (0:Int)<8 by decide)
  obtain⟨p,e,hm⟩:=kO (xs:=nM) h2 (by exact h3)
  simp only[nM,mem_cons,not_mem_nil,or_false] at hm
  rcases hm with rfl|rfl|rfl|rfl|rfl|rfl|rfl|rfl<;>exact⟨_,e,⋯,⋯⟩
 obtain⟨pr,hpe,hp0,hp1⟩:=hp
 unfold nM at hpe
 walk_at "rd"
 rw[hpe]
 walk_at "rd"
 have c1:Nt 10 18:=⟨⋯,⋯,⋯⟩
 have z1:(2147483647:Int)≠0:=by decide
 have z2:(8:Int)≠0:=by decide
 have m1:∀i:Int,MulOk i 69623:=fun i=>mulR ⋯
 have m2:MulOk 104729 k:=mulL ⋯
 have m3:MulOk (104729*k) k:=mulR ∅
 have m4:MulOk 7919 k:=mulL ⋯
 have z3:pr≠0:=by omega
 have fin:∀G x:Int,0<=G->∀p,Z p=none->Qd (.m p) (aA Z p [.int G,.int (x.fmod pr)]):=fun G x hG p hp=>by
  obtain⟨h2,h3⟩:=nu x hp0
  exact q p _ hp (Step.set hG h2 ∅)
 by_cases hk:k<(ns.length:Nat)
 ·rw[if_pos (by simpa using hk)]
  obtain⟨c,hc,_⟩:=kO h0 hk
  rw[hc]
  walk_at "rd"
  refine⟨c1,?_⟩
  split
  ·exact⟨z1,m1 _,m2,m3,m4,z2,z3,fin _ _ ∅⟩
  ·exact⟨z1,m1 _,m2,m3,m4,z2,z3,fin _ _ ∅⟩
 ·rw[if_neg (by simpa using hk)]
  refine⟨c1,?_⟩
  split
  ·exact⟨z1,m1 _,m2,m3,m4,z2,z3,fin _ _ ∅⟩
  ·exact⟨z1,m1 _,m2,m3,m4,z2,z3,fin _ _ ∅⟩
end
noncomputable def lA:DTS:=
 (aO (cV (kQ (fA (dB (CI "tuple" (ai 0)))) (dB (dOp (d8 true) (dCB dX (ag (ai 0) ar)) (dC (.int 3))))) (bp (dC (.bool false))) bL)
 (aO (bc (ai 0) (cM 3 (aH (aq 1) (aH (aq 2) (aH (aq 3) cY)))))
 (aO (cV (kQ (fA (dB (ay ij (ag (ai 1) ar)))) (kQ (fA (dB (ay ij (ag (ai 2) ar)))) (fA (dB (ay ij (ag (ai 3) ar)))))) (bp (dC (.bool false))) bL)
 (bp (mS (dOp rGe (ai 3) (dC (.int 1))) (dOp (d8 false) (ay vU (ag (ai 1) (ag (ai 2) (ag (ai 3) ar)))) (dC (.int 1))))))))
section
variable {Z:Mu}{Qd:DK}{ds:List D}
def FJ(i:Int):Bool:=decide (2<=i)&&decide (i<=30)&&!(decide (i=4) || decide (i=9) || decide (i=16) || decide (i=25))
theorem jC(d:PyData):(∃i,d = .int i/\isWhole d=true)\/((∀i,d≠.int i)/\isWhole d=false):=by
 cases d<;>first|exact .inl ⟨_,rfl,rfl⟩|exact .inr ⟨fun _ z=>(by cases z),rfl⟩
theorem Kz(d:PyData):(∃xs,d = .tuple xs/\isT "tuple" d=true)\/((∀xs,d≠.tuple xs)/\isT "tuple" d=false):=by
 cases d<;>first|exact .inl ⟨_,rfl,rfl⟩|exact .inr ⟨fun _ z=>(by cases z),rfl⟩
theorem He{d:PyData}(h:∀xs,d≠.tuple xs):isNum d=false:=by cases d<;>first|rfl|exact absurd rfl (h _)
theorem Hg{xs:List PyData}(h:xs.length≠3):isNum (.tuple xs)=false:=by
 unfold isNum
 split
 ·rename_i e;cases e;exact absurd rfl h
 ·rfl
theorem three{α:Type}{xs:List α}(h:xs.length=3):∃a b c,xs=[a,b,c]:=by
 match xs,h with
 |[a,b,c],_=>exact⟨a,b,c,rfl⟩
theorem yM(h:mJ ds Z Qd):lA ‹Qd› (aP ["","","",""] ds) Z:=by
 obtain⟨d,rfl,_,q⟩:=h
 unfold lA
 walk_at "rd"
 rcases Kz d with ⟨xs,rfl,e⟩|⟨hn,e⟩
 ·rw[e]
  walk_at "rd"
  by_cases hl:xs.length=3
  ·obtain⟨a,b,c,rfl⟩:=three hl
   have e3:decide ((([a,b,c].length:Nat):Int)=3)=true:=rfl
   have e3':[a,b,c].length=3:=rfl
   simp only[e3,Bool.xor_self,false_eq_true,↓reduceIte]
   refine⟨rfl,?_⟩
   walk_at "rd"
   refine⟨a,rfl,?_⟩
   rcases jC a with ⟨i,rfl,e⟩|⟨hn,e⟩
   ·rw[e]
    walk_at "rd"
    refine⟨b,rfl,?_⟩
    rcases jC b with ⟨j,rfl,e⟩|⟨hn,e⟩
    ·rw[e]
     walk_at "rd"
     refine⟨c,rfl,?_⟩
     rcases jC c with ⟨k,rfl,e⟩|⟨hn,e⟩
     ·rw[e]
      walk_at "rd"
      have q':Qd (.v (.bool (decide (1<=k)&&(g3 i j k==1)))) Z:=q
      by_cases hk:1<=k
      ·rw[if_pos (by simpa using hk)]
       refine⟨i,j,k,rfl,?_⟩
       walk_at "rd"
       have ee:decide (((g3 i j k:Nat):Int)=1)=(decide (1<=k)&&(g3 i j k==1)):=by
        rw[decide_eq_true hk,Bool.true_and,Bool.eq_iff_iff];simp;omega
       rw[ee]
       exact q'
      ·rw[if_neg (by simpa using hk)]
       rw[decide_eq_false hk] at q'
       exact q'
     ·rw[e]
      walk_at "rd"
      have:isNum (.tuple [.int i,.int j,c])=false:=by cases c<;>first|rfl|exact absurd rfl (hn _)
      rw[this] at q
      exact q
    ·rw[e]
     walk_at "rd"
     have:isNum (.tuple [.int i,b,c])=false:=by cases b<;>first|rfl|exact absurd rfl (hn _)
     rw[this] at q
     exact q
   ·rw[e]
    walk_at "rd"
    have:isNum (.tuple [a,b,c])=false:=by cases a<;>first|rfl|exact absurd rfl (hn _)
    rw[this] at q
    exact q
  ·rw[Hg hl] at q
   have:decide (((xs.length:Nat):Int)=3)=false:=by simp;omega
   rw[this]
   simp only[xor_false,↓reduceIte]
   exact q
 ·rw[e]
  rw[He hn] at q
  walk_at "rd"
  exact q
end
noncomputable def iN:DTS:=
 (aO (bc (dOp aN (lS (ag (dC (.int 4)) (ag (dC (.int 10)) (ag (dC (.int 100)) (ag (dC (.int 1000000)) ar))))) (ay bE (ag (ai 0) (ag (dC (.int 4)) ar)))) (aq 1))
 (aO (wR 2 3 (ag (lZ (ay bE (ag (ai 0) (ag (ai 1) ar))) (su (ai 1) (dC (.int 2)))) (ag (lZ (ay bE (ag (ai 0) (ag (ai 1) ar))) (su (ai 1) (dC (.int 2)))) ar)))
 (aO (bc (cp (dC (.int 1)) (ay bE (ag (ai 0) (ag (lZ (ai 1) (dC (.int 1))) ar)))) (aq 4))
 (aO (bc (ay bE (ag (ai 0) (ag (dC (.int 8)) ar))) (aq 5))
 (bp (ay cL (ag (dOp aN (lS (ag (ai 2) (ag (ai 2) (ag (ai 2) (ag (ai 2) (ag (ai 2) (ag (ai 2) (ag (ai 2) (ag (dC (.int 0)) ar))))))))) (ai 5)) (ag (dOp aN (lS (ag (ai 3) (ag (ai 3) (ag (ai 3) (ag (ai 3) (ag (ai 3) (ag (dC (.int 0)) (ag (dC (.int 0)) (ag (ai 3) ar))))))))) (ai 5)) (ag (dOp aN (lS (ag (ai 4) (ag (ai 4) (ag (dC (.int 1)) (ag (ai 4) (ag (dC (.int 1)) (ag (ai 4) (ag (dC (.int 1)) (ag (ai 4) ar))))))))) (ai 5)) ar)))))))))
section
variable {Z:Mu}{Qd:DK}{ds:List D}
theorem pick{P:PyData->Prop}{xs:List PyData}{i:Int}(h0:0<=i)(h1:i<(xs.length:Nat))(h:∀x∈xs,P x):∃d,atI xs i=some d/\P d:=let ⟨d,e,m⟩:=kO h0 h1;⟨d,e,h d m⟩
theorem J5{i:Int}(h1:-1048576<i)(h2:i<1048576):Sz 20 i:=Sz.of (by show i.natAbs<1048576;omega)
theorem vQ(h:jW ds Z Qd):iN ‹Qd› (aP ["","","","","",""] ds) Z:=by
 obtain⟨a,rfl,hb,q⟩:=h
 unfold iN
 walk_at "rd"
 refine⟨a,4,rfl,⋯,⋯,hb,fun r0 ad h0 h1 s1=>?_⟩
 walk_at "rd"
 obtain⟨w,e,i,rfl,w0,w1⟩:=pick (P:=fun d=>∃i:Int,d = .int i/\4<=i/\i<=1000000) (xs:=[PyData.int 4,PyData.int 10,PyData.int 100,PyData.int 1000000]) h0 (by exact h1) (by
  intro x hx
  simp only[mem_cons,not_mem_nil,or_false] at hx
  rcases hx with rfl|rfl|rfl|rfl<;>exact⟨_,rfl,⋯,⋯⟩)
 rw[e]
 walk_at "rd"
 refine⟨a,i,rfl,∅,∅,s1.1,fun r1 am h2 h3 s2=>?_⟩
 walk_at "rd"
 refine⟨divC ⋯ ⋯,a,i,rfl,∅,∅,s2.1,fun r2 be h4 h5 s3=>?_⟩
 walk_at "rd"
 refine⟨divC ⋯ ⋯,a,i-1,rfl,∅,∅,s3.1,fun r3 ci h6 h7 s4=>?_⟩
 walk_at "rd"
 refine⟨a,8,rfl,⋯,⋯,s4.1,fun r4 io h8 h9 s5=>?_⟩
 walk_at "rd"
 have ef:i.fdiv 2=i / 2:=Int.fdiv_eq_ediv_of_nonneg _ ∅
 rw[ef]
 have za:Sz 20 (r1-i / 2):=J5 ∅ ∅
 have zb:Sz 20 (r2-i / 2):=J5 ∅ ∅
 have zc:Sz 20 (1+r3):=J5 ∅ ∅
 have z0:Sz 20 0:=J5 ∅ ∅
 have z1:Sz 20 1:=J5 ∅ ∅
 obtain⟨d1,e1,i1,rfl,b1⟩:=pick (P:=fun d=>∃i:Int,d = .int i/\Sz 20 i) (xs:=[PyData.int (r1-i / 2),PyData.int (r1-i / 2),PyData.int (r1-i / 2),PyData.int (r1-i / 2),PyData.int (r1-i / 2),PyData.int (r1-i / 2),PyData.int (r1-i / 2),PyData.int 0]) h8 (by exact h9) (by
  intro x hx
  simp only[mem_cons,not_mem_nil,or_false] at hx
  rcases hx with rfl|rfl|rfl|rfl|rfl|rfl|rfl|rfl<;>exact⟨_,rfl,by assumption⟩)
 rw[e1]
 walk_at "rd"
 obtain⟨d2,e2,i2,rfl,b2⟩:=pick (P:=fun d=>∃i:Int,d = .int i/\Sz 20 i) (xs:=[PyData.int (r2-i / 2),PyData.int (r2-i / 2),PyData.int (r2-i / 2),PyData.int (r2-i / 2),PyData.int (r2-i / 2),PyData.int 0,PyData.int 0,PyData.int (r2-i / 2)]) h8 (by exact h9) (by
  intro x hx
  simp only[mem_cons,not_mem_nil,or_false] at hx
  rcases hx with rfl|rfl|rfl|rfl|rfl|rfl|rfl|rfl<;>exact⟨_,rfl,by assumption⟩)
 rw[e2]
 walk_at "rd"
 obtain⟨d3,e3,i3,rfl,b3,p3⟩:=pick (P:=fun d=>∃i:Int,d = .int i/\Sz 20 i/\0<i) (xs:=[PyData.int (1+r3),PyData.int (1+r3),PyData.int 1,PyData.int (1+r3),PyData.int 1,PyData.int (1+r3),PyData.int 1,PyData.int (1+r3)]) h8 (by exact h9) (by
  intro x hx
  simp only[mem_cons,not_mem_nil,or_false] at hx
  rcases hx with rfl|rfl|rfl|rfl|rfl|rfl|rfl|rfl<;>exact⟨_,rfl,by assumption,∅⟩)
 rw[e3]
 walk_at "rd"
 have n3:i3≠0:=by omega
 exact⟨i1,i2,i3,rfl,n3,b3.mono ⋯,q _ _ (k9 _ _ n3) (rO n3 b1 b2 b3) (s1.trans (s2.trans (s3.trans (s4.trans s5))))⟩
end
noncomputable def kA:DTS:=
 (aO (cV (dB (dOp (d8 false) (ay bE (ag (ai 0) (ag (dC (.int 2)) ar))) (dC (.int 0)))) (bp (dOp aN (lS (ag (dC (.int 2)) (ag (dC (.int 3)) (ag (dC (.int 5)) ar)))) (ay bE (ag (ai 0) (ag (dC (.int 3)) ar))))) bL)
 (aO (bc (iL [none] (vY (ag (dC (.int 2)) (ag (dC (.int 31)) ar))) (aq 0) (dB (dOp (K9 true) (ai 0) (lS (ag (dC (.int 4)) (ag (dC (.int 9)) (ag (dC (.int 16)) (ag (dC (.int 25)) ar))))))) (ai 0)) (aq 1))
 (bp (dOp aN (ai 1) (ay bE (ag (ai 0) (ag (dC (.int 25)) ar)))))))
section
variable {Z:Mu}{Qd:DK}{ds:List D}
theorem Lo{lo:Int}{n:Nat}{x:PyData}(h:x∈mX lo n):∃i:Int,x = .int i/\lo<=i/\i<lo+n:=by
 unfold mX at h
 obtain⟨k,hk,rfl⟩:=List.mem_map.mp h
 have:=List.mem_range.mp hk
 exact⟨_,rfl,∅,∅⟩
def B6:PyData->Option PyData
 |.int i=>if FJ i then some (.int i) else none
 |_=>none
def zG:List PyData:=[2,3,5,6,7,8,10,11,12,13,14,15,17,18,19,20,21,22,23,24,26,27,28,29,30].map PyData.int
theorem in4(i:Int):(List.any [PyData.int 4,PyData.int 9,PyData.int 16,PyData.int 25] fun b=>PyData.eqv b (.int i))=(decide (i=4) || decide (i=9) || decide (i=16) || decide (i=25)):=by
 have ev:∀j:Int,PyData.eqv (.int j) (.int i)=decide (i=j):=fun j=>by rw[P7];simp[eq_comm]
 simp only[List.any_cons,List.any_nil,ev,Bool.or_false,Bool.or_assoc]
theorem yU(h:ui ds Z Qd):kA ‹Qd› (aP ["",""] ds) Z:=by
 obtain⟨a,rfl,hb,q⟩:=h
 unfold kA
 walk_at "rd"
 refine⟨a,2,rfl,⋯,⋯,hb,fun r0 ad h0 h1 s1=>?_⟩
 walk_at "rd"
 by_cases hr:r0=0
 ·rw[if_pos (by simpa using hr)]
  refine⟨a,3,rfl,⋯,⋯,s1.1,fun r1 am h2 h3 s2=>?_⟩
  walk_at "rd"
  obtain⟨w,e,i,rfl,w0⟩:=pick (P:=fun d=>∃i:Int,d = .int i/\aL i) (xs:=[PyData.int 2,PyData.int 3,PyData.int 5]) h2 (by exact h3) (by
   intro x hx
   simp only[mem_cons,not_mem_nil,or_false] at hx
   rcases hx with rfl|rfl|rfl<;>exact⟨_,rfl,by unfold aL;omega⟩)
  rw[e]
  exact q _ _ w0 (s1.trans s2)
 ·rw[if_neg (by simpa using hr)]
  refine⟨⟨⋯,⋯,⋯,⋯⟩,⋯,fun p hp=>⟨fun i acc U=>acc=((mX 2 29).take i).filterMap B6/\U=aA ad p acc,⟨rfl,rfl⟩,?_,?_⟩⟩
  ·rintro i x acc U hx hpa ⟨e0,e1⟩
   obtain⟨k,rfl,i0,i1⟩:=Lo (mem_of_getElem? hx)
   refine⟨trivial,rfl,rfl,by show 0<=60;decide,?_⟩
   rw[in4]
   have i1':k<31:=by simpa using i1
   have e:B6 (.int k)=if FJ k then some (.int k) else none:=rfl
   have e2:FJ k = !(decide (k=4) || decide (k=9) || decide (k=16) || decide (k=25)):=by
    unfold FJ
    rw[decide_eq_true i0,decide_eq_true (show k<=30 by omega)]
    rfl
   have ft:((mX 2 29).take (i+1)).filterMap B6=((mX 2 29).take i).filterMap B6++(B6 (.int k)).toList:=Ob hx
   rw[e,e2] at ft
   cases hh:(decide (k=4) || decide (k=9) || decide (k=16) || decide (k=25))
   ·rw[hh] at ft
    simp only[true_xor,Bool.not_false,↓reduceIte] at ft ⊢
    refine⟨hpa,?_,?_⟩
    ·rw[ft,e0];rfl
    ·rw[e1,eN]
   ·rw[hh] at ft
    simp only[true_xor,Bool.not_true,↓reduceIte,false_eq_true] at ft ⊢
    refine⟨hpa,?_,e1⟩
    rw[ft,e0];simp
  rintro acc U ⟨e0,e1⟩ _
  have ed:jY U p=ad:=by rw[e1];exact nV hp
  rw[ed]
  have e0':acc=zG:=by rw[e0];rfl
  rw[e0']
  refine⟨a,25,rfl,⋯,⋯,s1.1,fun r1 am h2 h3 s2=>?_⟩
  walk_at "rd"
  obtain⟨w,e,i,rfl,w0⟩:=pick (P:=fun d=>∃i:Int,d = .int i/\aL i) (xs:=zG) h2 (by exact h3) (by
   intro x hx
   unfold zG at hx
   obtain⟨k,hk,rfl⟩:=List.mem_map.mp hx
   exact⟨_,rfl,(show ∀k∈([2,3,5,6,7,8,10,11,12,13,14,15,17,18,19,20,21,22,23,24,26,27,28,29,30]:List Int),aL k by unfold aL;decide) k hk⟩)
  rw[e]
  exact q _ _ w0 (s1.trans s2)
end
section
variable {Z:Mu}{Q:DK}{ds:List D}
noncomputable def wq:DSp:=fun ds Z Q=>∃ns:List Int,ds=[.s ns]/\ns.length<=63/\∀U,Q (.v (.bool true)) U
theorem sF(h:ij ds Z Q):ds.length=1:=by obtain⟨_,rfl,_⟩:=h;rfl
theorem yw(h:pK ds Z Q):ds.length=2:=by obtain⟨_,_,rfl,_⟩:=h;rfl
theorem EI(h:vU ds Z Q):ds.length=3:=by obtain⟨_,_,_,rfl,_⟩:=h;rfl
theorem DP(h:mJ ds Z Q):ds.length=1:=by obtain⟨_,rfl,_⟩:=h;rfl
theorem pO(h:cL ds Z Q):ds.length=3:=by obtain⟨_,_,_,rfl,_⟩:=h;rfl
theorem CK(h:nH ds Z Q):ds.length=1:=by obtain⟨_,rfl,_⟩:=h;rfl
theorem u9(h:en ds Z Q):ds.length=2:=by obtain⟨_,_,rfl,_⟩:=h;rfl
theorem EJ(h:v5 ds Z Q):ds.length=2:=by obtain⟨_,_,rfl,_⟩:=h;rfl
theorem CH(h:nS ds Z Q):ds.length=3:=by obtain⟨_,_,_,rfl,_⟩:=h;rfl
theorem Bt(h:pV ds Z Q):ds.length=3:=by obtain⟨_,_,_,rfl,_⟩:=h;rfl
theorem uZ(h:jD ds Z Q):ds.length=2:=by obtain⟨_,_,rfl,_⟩:=h;rfl
theorem Cg(h:jq ds Z Q):ds.length=3:=by obtain⟨_,_,_,rfl,_⟩:=h;rfl
theorem Dq(h:kD ds Z Q):ds.length=3:=by obtain⟨_,_,_,rfl,_⟩:=h;rfl
theorem Ha(h:FZ ds Z Q):ds.length=2:=by obtain⟨_,_,rfl,_⟩:=h;rfl
theorem xu(h:jW ds Z Q):ds.length=1:=by obtain⟨_,rfl,_⟩:=h;rfl
theorem CV(h:ui ds Z Q):ds.length=1:=by obtain⟨_,rfl,_⟩:=h;rfl
theorem G8(h:wq ds Z Q):ds.length=1:=by obtain⟨_,rfl,_⟩:=h;rfl
end
noncomputable def kq:DTS:=jx
theorem rM{Z Qd ds}(h:ij ds Z Qd):kq ‹Qd› (aP [""] ds) Z:=tq h
structure Pk(K:PySem.W.Frag)(mg:Str->Option Value)(x:Str)(g:Addr)(a b c:Int):Prop where
 m:mg x=some (.ref g)
 l:∃(od:Option Addr) (n:Nat) (sl:Array (Option Value)) (t u v:Tok),K.lookup g=some ⟨.type "tuple",od,.seq #[.int a t,.int b u,.int c v] n,sl⟩
theorem Jm{X:Cx}{x:Str}{g:Addr}{a b c:Int}{pos:Pos}(hg:Gl X x)(h:Pk X.K X.mg x g a b c)(hd:(x==("__debug__":Str))=false:=by decide):DE X (.Name x pos) (dC (.tuple [.int a,.int b,.int c])):=by
 obtain⟨od,n,sl,t,u,v,e⟩:=h.l
 refine Fs (u:=.ref g) hg h.m rfl (fun Z H _=>Rp.tuple (xs:=[.int a,.int b,.int c]) (.inr ⟨_,_,_,e,rfl,rfl,(by show 3<=sizeLine;decide),.cons ⟨t,rfl⟩ (.cons ⟨u,rfl⟩ (.cons ⟨v,rfl⟩ .nil))⟩) (.cons (.int a) (.cons (.int b) (.cons (.int c) .nil)))) hd
theorem HQ{K:PySem.W.Frag}{H:Hp}{a:Addr}{ns:List Int}(hl:ns.length<=63)(hT:Dt K H)(hS:SqL K H a (ns.map V.int)):spD K wq [.ref a] H (fun v _=>v = .bl true) fun _ _ _=>False:=by
 refine⟨[.s ns],⟨fun _=>none,fun _=>none⟩,fun d _=>d = .v (.bool true),⟨fun a ds h=>(by cases h),hT,fun a c h=>(by cases h)⟩,.cons ⟨a,rfl,hS,rfl⟩ .nil,⟨ns,rfl,hl,fun _=>rfl⟩,fun d u U H' _ _ r q=>?_⟩
 subst q
 cases r
 rfl
end L2.DL
namespace L2
open PySem PySem.Spec PyProof.Rows
end L2
namespace L2.DL
open PySem PySem.Spec PyProof.Rows
end L2.DL
namespace L2
open PySem PySem.Spec PyProof.Rows
end L2
namespace L2.DL
open PySem PySem.Spec PyProof.Rows
end L2.DL
namespace L2
open PySem PySem.Spec PyProof.Rows
end L2
namespace L2.DL
open PySem PySem.Spec PyProof.Rows
end L2.DL
namespace L2
open PySem PySem.Spec PyProof.Rows
end L2
namespace L2
open PySem PySem.Spec PyProof.Rows
end L2
namespace L2.DL
open PySem PySem.Spec PyProof.Rows
def intsOf:List PyData->Option (List Int)
 |[]=>some []
 |.int i::r=>(intsOf r).map (i::·)
 |_=>none
theorem FN{K:PySem.W.Frag}{Z:Mu}{H:Hp}:∀{ds:List PyData} {us:List V} {k:List Int},RpL K Z H ds us->intsOf ds=some k->us=k.map V.int
 |[],_,_,.nil,e=>by cases e;rfl
 |d::ds,_,k,.cons h t,e=>by
  cases d with
  |int i=>
   cases h
   rw[intsOf] at e
   cases q:intsOf ds with
   |none=>rw[q] at e;cases e
   |some k'=>rw[q] at e;cases e;rw[FN t q];rfl
  |_=>cases e
section
variable {α:Type}
def bS(kvs:List (List Int×α))(k:List Int):Option α:=(kvs.find? fun x=>decide (x.1=k)).map (·.2)
def hU(kvs:List (List Int×α))(k:List Int)(v:α):List (List Int×α):=if (bS kvs k).isSome=true then kvs.map (fun x=>if x.1=k then (x.1,v) else x) else kvs++[(k,v)]
theorem cT{p:List Int×α}{r:List (List Int×α)}{k:List Int}(e:p.1=k):bS (p::r) k=some p.2:=by simp[bS,List.find?_cons,e]
theorem cU{p:List Int×α}{r:List (List Int×α)}{k:List Int}(e:¬ p.1=k):bS (p::r) k=bS r k:=by simp[bS,List.find?_cons,e]
theorem yc(k j:List Int)(v:α):∀kvs:List (List Int×α),bS (kvs.map fun x=>if x.1=k then (x.1,v) else x) j=if j=k then (bS kvs j).map (fun _=>v) else bS kvs j
 |[]=>by split<;>rfl
 |p::r=>by
  have ih:=yc k j v r
  rw[map_cons]
  by_cases h:p.1=k
  ·rw[if_pos h]
   by_cases e:p.1=j
   ·rw[cT (p:=(p.1,v)) e,if_pos (e.symm.trans h),cT e];rfl
   ·rw[cU (p:=(p.1,v)) e,ih,cU e]
  ·rw[if_neg h]
   by_cases e:p.1=j
   ·rw[cT e,if_neg (fun z=>h (e.trans z)),cT e]
   ·rw[cU e,ih,cU e]
theorem vn(k j:List Int)(v:α):∀kvs:List (List Int×α),bS kvs k=none->bS (kvs++[(k,v)]) j=if j=k then some v else bS kvs j
 |[],_=>by
  by_cases e:k=j
  ·rw[if_pos e.symm];exact cT (p:=(k,v)) e
  ·rw[if_neg (fun z=>e z.symm)];exact cU (p:=(k,v)) e
 |p::r,h=>by
  rw[cons_append]
  by_cases e:p.1=k
  ·rw[cT e] at h;cases h
  ·rw[cU e] at h
   by_cases f:p.1=j
   ·rw[cT f,cT f,if_neg (fun z=>e (f.trans z))]
   ·rw[cU f,vn k j v r h,cU f]
theorem HJ(kvs:List (List Int×α))(k j:List Int)(v:α):bS (hU kvs k v) j=if j=k then some v else bS kvs j:=by
 unfold hU
 cases q:bS kvs k with
 |none=>
  rw[if_neg (fun z=>nomatch z)]
  exact vn k j v kvs q
 |some x=>
  rw[if_pos (show (some x).isSome=true from rfl),yc]
  by_cases e:j=k
  ·subst e;rw[if_pos rfl,if_pos rfl,q];rfl
  ·rw[if_neg e,if_neg e]
theorem IJ{kvs:List (List Int×α)}{k:List Int}{v:α}(h:bS kvs k=none):hU kvs k v=kvs++[(k,v)]:=by unfold hU;rw[h];rfl
theorem uQ(kvs:List (List Int×α))(k:List Int)(v:α):(hU kvs k v).length<=kvs.length+1:=by
 unfold hU
 split
 ·rw[length_map];omega
 ·rw[length_append];exact le_refl _
end
section
variable {K:PySem.W.Frag}{Z ad:Mu}{H H1:Hp}{p:Addr}
theorem fh.look{kvs:List (List Int×PyData)}{xs:List (List Int×Addr×Value)}(r:fh K Z H kvs xs)(k:List Int) :
  (bS kvs k=none/\atKey xs k=none)\/∃d q v w,bS kvs k=some d/\atKey xs k=some (q,w)/\Rp K Z H d v/\RelV v w:=by
 unfold fh at r
 induction r with
 |nil=>exact .inl ⟨rfl,rfl⟩
 |@cons a b as bs h t ih=>
  obtain⟨h1,h2,v,h3,h4⟩:=h
  by_cases e:a.1=k
  ·refine .inr ⟨a.2,b.2.1,v,b.2.2,cT e,?_,h3,h4⟩
   have:b.1=k:=h1.symm.trans e
   simp[atKey,List.find?_cons,this]
  ·have e2:¬ b.1=k:=fun z=>e (h1.trans z)
   have e3:atKey (b::bs) k=atKey bs k:=by simp[atKey,List.find?_cons,e2]
   rw[cU e,e3]
   exact ih
theorem fh.put{kvs:List (List Int×PyData)}{xs:List (List Int×Addr×Value)}(r:fh K Z H kvs xs){k:List Int}{q:Addr}{d:PyData}{v:V}{w:Value}(hq:SqT K H q (k.map V.int))(hd:Rp K Z H d v)(hv:RelV v w) :
  fh K Z H (hU kvs k d) (storedH xs k q w):=by
 have hl:=r.look k
 unfold hU storedH
 rcases hl with ⟨l1,l2⟩|⟨d',q',v',w',l1,l2,_,_⟩
 ·rw[l1,l2]
  exact Paired.snoc r ⟨rfl,hq,v,hd,hv⟩
 ·rw[l1,l2]
  rw[if_pos (show (some d').isSome=true from rfl),if_pos (show (some (q',w')).isSome=true from rfl)]
  clear l1 l2
  unfold fh at r ⊢
  induction r with
  |nil=>exact .nil
  |@cons a b as bs h t ih=>
   obtain⟨h1,h2,h3⟩:=h
   refine .cons ?_ ih
   unfold putAt
   dsimp only
   by_cases e:a.1=k
   ·rw[if_pos e,if_pos (h1.symm.trans e)]
    exact⟨h1,h2,v,hd,hv⟩
   ·rw[if_neg e,if_neg (fun z=>e (h1.trans z))]
    exact⟨h1,h2,h3⟩
theorem fh.length{kvs:List (List Int×PyData)}{xs:List (List Int×Addr×Value)}(r:fh K Z H kvs xs):kvs.length=xs.length:=Paired.length r
theorem ua{o o':Obj}{c:Box}(h:H p=some (.raw o)):Ext K Z H (bg Z p c) (upd H p (.raw o')) where
 keep:=fun b u e n t=>by
  have:b≠p:=fun z=>by rw[z,h] at e;cases e;exact t
  rw[aR this];exact e
 tb:=fun b ps e n=>by
  have:b≠p:=fun z=>by rw[z,h] at e;cases e
  exact⟨ps,by rw[aR this];exact e⟩
 dom:=fun b ds q=>⟨ds,q⟩
 fresh:=fun b n q=>n
 st:=fun b u e n=>by
  by_cases z:b=p
  ·subst z;exact⟨_,dW⟩
  ·exact⟨u,by rw[aR z];exact e⟩
 bx:=fun b c' q=>by
  by_cases z:b=p
  ·subst z;exact⟨_,bo⟩
  ·exact⟨c',by rw[bK z];exact q⟩
theorem bD.D1{c:Box}{o o':Obj}(ok:bD K Z H)(hs:(p==sysModules)=false)(h:H p=some (.raw o))(r:gK K Z H c o'):bD K (bg Z p c) (upd H p (.raw o')):=by
 have e:Ext K Z H (bg Z p c) (upd H p (.raw o')):=ua h
 refine⟨fun a ds q=>?_,ok.tab.of fun b u e' n1 n2=>?_,fun a c' q=>?_⟩
 ·obtain⟨xs,h1,h2⟩:=ok.lst a ds q
  have:a≠p:=fun z=>by rw[z,h] at h1;cases h1
  exact⟨xs,by rw[aR this];exact h1,h2.ext ok e⟩
 ·have:b≠p:=fun z=>by rw[z,h] at e';exact n2 o (Option.some.inj e').symm
  rw[aR this];exact e'
 ·by_cases z:a=p
  ·subst z
   rw[bo] at q;cases q
   exact⟨hs,o',dW,r.ext ok e⟩
  ·rw[bK z] at q
   obtain⟨y,ob,h1,h2⟩:=ok.box a c' q
   exact⟨y,ob,by rw[aR z];exact h1,h2.ext ok e⟩
theorem iG{o:Obj}{c:Box}(ok:bD K Z H)(h:H p=none):Ext K Z H (bg Z p c) (upd H p (.raw o)) where
 keep:=fun b u e _ _=>by rw[aR (aV e h)];exact e
 tb:=fun b ps e _=>⟨ps,by rw[aR (aV e h)];exact e⟩
 dom:=fun b ds q=>⟨ds,q⟩
 fresh:=fun b n q=>n
 st:=fun b u e _=>⟨u,by rw[aR (aV e h)];exact e⟩
 bx:=fun b c' q=>by
  have:b≠p:=fun z=>by rw[z,ok.Fx h] at q;cases q
  exact⟨c',by rw[bK this];exact q⟩
theorem bD.EH{c:Box}{o:Obj}(ok:bD K Z H)(hs:(p==sysModules)=false)(h:H p=none)(r:gK K Z H c o):bD K (bg Z p c) (upd H p (.raw o)):=by
 have e:Ext K Z H (bg Z p c) (upd H p (.raw o)):=iG ok h
 refine⟨fun a ds q=>?_,ok.tab.of fun b u e' _ _=>?_,fun a c' q=>?_⟩
 ·obtain⟨xs,h1,h2⟩:=ok.lst a ds q
  exact⟨xs,by rw[aR (aV h1 h)];exact h1,h2.ext ok e⟩
 ·rw[aR (aV e' h)];exact e'
 ·by_cases z:a=p
  ·subst z
   rw[bo] at q;cases q
   exact⟨hs,o,dW,r.ext ok e⟩
  ·rw[bK z] at q
   obtain⟨y,ob,h1,h2⟩:=ok.box a c' q
   exact⟨y,ob,by rw[aR z];exact h1,h2.ext ok e⟩
theorem yg{o:Obj}(h:o={cls:=.type "dict",data:=.dict #[]}):gK K Z H (.dict []) o:=by
 subst h
 exact⟨zero_le _,⟨rfl,rfl,rfl⟩,#[],0,[],rfl,rfl,List.nodup_nil,.nil⟩
theorem Kl{o:Obj}{led:Bool}(h:o={cls:=.type "set",dict:=none,data:=.set #[] 0 (.fresh 0 0 led)}):gK K Z H (.set []) o:=by
 subst h
 exact⟨⟨rfl,rfl,rfl⟩,[],0,_,rfl,{place:=rfl,ris:=.nil,le:=fun _ h=>by simp at h,dum:=rfl,two:=⟨3,rfl,le_refl _⟩,on:=fun _ h=>by simp at h},(show 0*5<7*3 by decide),rfl,fun _ h=>by simp at h,fun _ h=>by simp at h⟩
end
section
variable {X:Cx}{pins:List (Addr×Obj)}{σ:St}{H:Hp}{s:Shared}{Z:Mu}
theorem items_int{P:Program}{w:World}:∀{ks:List Int} {us:List Value},Vals (ks.map V.int) us->ItemsAre (intKind P w) ks us
 |[],_,r=>by rw[map_nil] at r;cases r;exact .nil
 |k::ks,_,r=>by
  rw[map_cons] at r
  cases r with
  |cons h t=>obtain⟨tk,rfl⟩:=h;exact .cons (by show Value.isInt k (.int k tk)=true;simp[Value.isInt]) (items_int t)
theorem gi{q:Addr}{ks:List Int}(I:Inv X pins σ H s)(h:SqT X.K H q (ks.map V.int)):IsTupleKey (intKind X.prog X.w) s.heap ks q:=by
 obtain⟨its,r,⟨o,h1,h2,n,h3⟩,_⟩:=I.tuple h
 exact⟨o,its.toArray,n,h1,h2,h3,by simpa using items_int r⟩
theorem Jw{kvs:List (List Int×PyData)}{xs:List (List Int×Addr×Value)}(I:Inv X pins σ H s)(r:fh X.K Z H kvs xs):∀x∈xs,IsTupleKey (intKind X.prog X.w) s.heap x.1 x.2.1:=by
 unfold fh at r
 induction r with
 |nil=>intro x hx;exact nomatch hx
 |@cons a b as bs h t ih=>
  intro x hx
  rcases List.mem_cons.mp hx with rfl|hx
  ·obtain⟨h1,h2,_⟩:=h
   rw[<- h1]
   exact gi I h2
  ·exact ih x hx
theorem nP{kvs:List (List Int×PyData)}{a:Addr}{o:Obj}(I:Inv X pins σ H s)(h:H a=some (.raw o))(r:gK X.K Z H (.dict kvs) o) :
  ∃xs,fh X.K Z H kvs xs/\s.heap.DictOfH (tupleKind (intKind X.prog X.w)) a xs/\xs.length<=sizeLine:=by
 obtain⟨h1,h2,es,ep,xs,h3,h4,h5,h6⟩:=r
 exact⟨xs,h6,⟨o,es,ep,(show s.heap.get? a=some o from I.hok a _ h),h2,h3,h4,Jw I h6,h5⟩,by rw[<- h6.length];exact h1⟩
theorem xZ{kvs:List (List Int×PyData)}{a:Addr}{xs:List (List Int×Addr×Value)}{h':Heap}(hl:kvs.length<=sizeLine)(r:fh X.K Z H kvs xs)(d:h'.DictOfH (tupleKind (intKind X.prog X.w)) a xs) :
  ∃o,h'.get? a=some o/\gK X.K Z H (.dict kvs) o:=by
 obtain⟨o,es,ep,h1,h2,h3,h4,_,h5⟩:=d
 exact⟨o,h1,hl,h2,es,ep,xs,h3,h4,h5,r⟩
end
section
variable {X:Cx}{pins:List (Addr×Obj)}{σ:St}{H:Hp}{s:Shared}{Z:Mu}{A:Around}{E:Value->Shared->Prop}
theorem Et{ks:List (List Int)}{a:Addr}{o:Obj}(I:Inv X pins σ H s)(h:H a=some (.raw o))(r:gK X.K Z H (.set ks) o) :
  ∃L:ST.Ln Value,ST.CF s.heap a L/\L.length=ks.length/\(∀x∈L,∃k,ST.Ent (intKind X.prog X.w) s.heap x k/\k∈ks)/\(∀k∈ks,∃x∈L,ST.Ent (intKind X.prog X.w) s.heap x k) /\
   (∀x∈L,∃k q,x.2.2 = .ref q/\SqT X.K H q (k.map V.int)/\x.2.1=hI k/\k∈ks)/\∀k∈ks,∃x∈L,∃q,x.2.2 = .ref q/\SqT X.K H q (k.map V.int):=by
 obtain⟨h1,L,ep,t,h2,h3,h4,h5,h6,h7⟩:=r
 have ent:∀x∈L,∃k,ST.Ent (intKind X.prog X.w) s.heap x k/\k∈ks:=fun x hx=>by
  obtain⟨k,q,z1,z2,z3,z4⟩:=h6 x hx
  exact⟨k,⟨q,z1,gi I z2,z3⟩,z4⟩
 refine⟨L,⟨o,ep,t,(show s.heap.get? a=some o from I.hok a _ h),h1,h2,h3,h4⟩,h5,ent,fun k hk=>?_,h6,h7⟩
 obtain⟨x,hx,q,z1,z2⟩:=h7 k hk
 obtain⟨k',e',_⟩:=ent x hx
 have:k=k':=by
  obtain⟨q',y1,y2,_⟩:=e'
  rw[z1] at y1;cases y1
  exact (gi I z2).inj y2
 subst this
 exact⟨x,hx,e'⟩
theorem Fv{L:ST.Ln Value}{ks:List (List Int)}{h:Heap}{k:List Int}(a:∀x∈L,∃k,ST.Ent (intKind X.prog X.w) h x k/\k∈ks)(b:∀k∈ks,∃x∈L,ST.Ent (intKind X.prog X.w) h x k) :
  (∃x∈L,ST.Ent (intKind X.prog X.w) h x k)↔k∈ks:=by
 constructor
 ·rintro ⟨x,hx,e⟩
  obtain⟨k',e',hk⟩:=a x hx
  rw[e.inj e'];exact hk
 ·exact b k
theorem Oe{ks:List (List Int)}{a q:Addr}{o:Obj}{k:List Int}{Q:Value->Shared->Prop}(hu:A.units+64<cLine)(I:Inv X pins σ H s)(h:H a=some (.raw o))(r:gK X.K Z H (.set ks) o)(hk:SqT X.K H q (k.map V.int))(hb:ks.length<=9800)
  (hq:∀s',Inv X pins σ H s'->Q (.bool (decide (k∈ks))) s'):wpAny (model X.prog X.w) A (compareOp .In (.ref q) (.ref a)) Q E s:=by
 obtain⟨L,S,len,en1,en2,_,_⟩:=Et I h r
 have hT:s.TypeIs (.ref a) "set":=let ⟨o,_,_,ho,hc,_⟩:=S;⟨o,ho,hc.1⟩
 show wpAny _ _ (do return .bool (<- contains (.ref a) (.ref q))) Q E s
 refine wpAny_bind ?_
 unfold contains
 try with_reducible refine wpAny_holding ?_
 refine wpAny_bind (wpAny_specialOf hT PySem.F.slot_set_contains.lookup ?_)
 show wpAny _ _ (if (some (Value.builtin "set.__contains__")==some Value.none)=true then _ else _) _ E s
 rw[if_neg (by rw[beq_builtin_none];exact Bool.false_ne_true)]
 refine wpAny_bind (wpAny_callSpecialUnlessNone?_slot (name:=Str.ofString "__contains__") hT PySem.F.slot_set_contains
  (wpAny_call_entry PySem.F.slot_set_contains hT entry_set_contains ?_ (PySem.F.args_set_contains_2 _ _)))
 unfold Builtin.«frozenset.__contains__» Builtin.Frozenset.oneOther
 simp only[List.isEmpty_nil,bind_assoc]
 unfold Builtin.Frozenset.addrOf Builtin.Frozenset.withSetAsKey
 refine wpAny_bind (wpAny_pure ?_)
 try dsimp only
 refine wpAny_bind (wpAny_pure ?_)
 try dsimp only
 refine wpAny_bind (wpAny_tryCatch ?_)
 refine ST.CJ (by show A.units+1<cLine;omega) S (fun x hx=>let ⟨k,e,_⟩:=en1 x hx;⟨k,e⟩) ∅ (gi I hk) fun b hbq=>?_
 have e:b=decide (k∈ks):=by
  rw[Bool.eq_iff_iff,hbq,Fv en1 en2,decide_eq_true_eq]
 show wpAny _ _ (ret (Value.bool b)) _ _ _
 exact wpAny_pure ⟨_,rfl,wpAny_truthy_bool (wpAny_pure (by rw[e];exact hq _ (I.tok _)))⟩
theorem L1{ks:List (List Int)}{a q:Addr}{o:Obj}{k:List Int}{Q:Value->Shared->Prop}(hu:A.units+64<cLine)(I:Inv X pins σ H s)(h:H a=some (.raw o))(r:gK X.K Z H (.set ks) o)(hk:SqT X.K H q (k.map V.int))(hb:ks.length<=9800)(hn:k ∉ ks)
  (hq:∀o' s',Inv X pins σ (upd H a (.raw o')) s'->gK X.K Z H (.set (ks++[k])) o'->Q .none s'):wpAny (model X.prog X.w) A (call (.builtin "set.add") [.ref a,.ref q]) Q E s:=by
 obtain⟨L,S,len,en1,en2,r1,r2⟩:=Et I h r
 have hT:s.TypeIs (.ref a) "set":=let ⟨o,_,_,ho,hc,_⟩:=S;⟨o,ho,hc.1⟩
 refine wpAny_call_entry PySem.F.slot_set_add hT PySem.F.entry_set_add ?_ (PySem.F.args_set_add_2 _ _)
 unfold Builtin.«set.add» Builtin.Frozenset.oneOther
 simp only[List.isEmpty_nil,bind_assoc]
 unfold Builtin.Frozenset.addrOf
 refine wpAny_bind (wpAny_pure ?_)
 try dsimp only
 refine wpAny_bind (wpAny_pure ?_)
 try dsimp only
 refine wpAny_bind ?_
 refine ST.Ni (by show A.units+1<cLine;omega) S (fun x hx=>let ⟨k,e,_⟩:=en1 x hx;⟨k,e⟩) ∅ (gi I hk) (fun z=>absurd ((Fv en1 en2).mp z) hn) fun _ h' L' sb S' len' mem'=>?_
 obtain⟨o',ep,t,ho,hex,hd,T,hr⟩:=S'
 show wpAny _ _ (ret Value.none) _ _ _
 refine wpAny_pure ⟨_,rfl,hq o' _ (Bo I (by rw[h];exact True.intro) sb ⟨o',ho⟩ ho) ⟨hex,L',ep,t,hd,T,hr,by rw[len',len,length_append];rfl,fun x hx=>?_,fun k' hk'=>?_⟩⟩
 ·rcases (mem' x.2).mp (List.mem_map.mpr ⟨x,hx,rfl⟩) with z|z
  ·obtain⟨y,hy,ey⟩:=List.mem_map.mp z
   obtain⟨k',q',y1,y2,y3,y4⟩:=r1 y hy
   exact⟨k',q',by rw[<- ey];exact y1,y2,by rw[<- ey];exact y3,mem_append_left _ y4⟩
  ·exact⟨k,q,by rw[z],hk,by rw[z];rfl,mem_append_right _ (List.mem_singleton.mpr rfl)⟩
 ·rcases List.mem_append.mp hk' with z|z
  ·obtain⟨y,hy,q',y1,y2⟩:=r2 k' z
   obtain⟨x,hx,ex⟩:=List.mem_map.mp ((mem' y.2).mpr (.inl (List.mem_map.mpr ⟨y,hy,rfl⟩)))
   exact⟨x,hx,q',by rw[ex];exact y1,y2⟩
  ·rw[mem_singleton] at z
   subst z
   obtain⟨x,hx,ex⟩:=List.mem_map.mp ((mem' (tupleKeyHash (intKind X.prog X.w) k',.ref q)).mpr (.inr rfl))
   exact⟨x,hx,q,by rw[ex],hk⟩
end
section
variable {X:Cx}{a b e o:Expr}{ta tb te to:DTE}{pos p apos cpos:Pos}
theorem DE.mk{td:DTE}(h:∀(pins:List (Addr×Obj)) (s:Shared) (σ:St) (H:Hp) (ρ:Rho) (Z:Mu) (Qd:DK),Inv X pins σ H s->St0 X.K H ρ Z σ->td ρ Z Qd ->
  wpAny (model X.prog X.w) X.A (eval e X.env) (fun v s'=>∃d u U H',Inv X pins σ H' s'/\RelV u v/\Ext X.K Z H U H'/\St0 X.K H' ρ U σ/\RpD X.K U H' d u/\Qd d U) X.xe s):DE X e td:=by
 refine⟨fun σ H Q=>∃ρ Z Qd,St0 X.K H ρ Z σ/\td ρ Z Qd/\∀d u U H',Ext X.K Z H U H'->St0 X.K H' ρ U σ->RpD X.K U H' d u->Qd d U->Q u H',?_,fun σ H ρ Z Qd Q S h k=>⟨ρ,Z,Qd,S,h,k⟩⟩
 intro pins s σ H Q I ⟨ρ,Z,Qd,S,q,k⟩
 exact wpAny_mono (h pins s σ H ρ Z Qd I S q) (fun v s' ⟨d,u,U,H',I',rv,ex,S',rd,q'⟩=>⟨u,H',I',rv,k d u U H' ex S' rd q'⟩) fun _ _ z=>z
theorem DE.use{td:DTE}(h:DE X e td){pins:List (Addr×Obj)}{s:Shared}{σ:St}{H:Hp}{ρ:Rho}{Z:Mu}{Qd:DK}(I:Inv X pins σ H s)(S:St0 X.K H ρ Z σ)(q:td ρ Z Qd) :
  wpAny (model X.prog X.w) X.A (eval e X.env) (fun v s'=>∃d u U H',Inv X pins σ H' s'/\RelV u v/\Ext X.K Z H U H'/\St0 X.K H' ρ U σ/\RpD X.K U H' d u/\Qd d U) X.xe s:=by
 obtain⟨t,p,l⟩:=h
 exact wpAny_mono (p pins s σ H (fun u H'=>∃d U,Ext X.K Z H U H'/\St0 X.K H' ρ U σ/\RpD X.K U H' d u/\Qd d U) I (l σ H ρ Z Qd _ S q fun d u U H' ex S' r z=>⟨d,U,ex,S',r,z⟩))
  (fun v s' ⟨u,H',I',rv,d,U,ex,S',r,z⟩=>⟨d,u,U,H',I',rv,ex,S',r,z⟩) fun _ _ z=>z
noncomputable def Bb:DTE:=fun _ Z Q=>∀p,Z.b p=none->Q (.b p) (bg Z p (.set []))
noncomputable def AY:DTE:=fun _ Z Q=>∀p,Z.b p=none->Q (.b p) (bg Z p (.dict []))
theorem BG{ρ:Rho}{Z:Mu}{Q:DK}:Bb ρ Z Q = ∀p,Z.b p=none->Q (.b p) (bg Z p (.set [])):=rfl
theorem Dw{ρ:Rho}{Z:Mu}{Q:DK}:AY ρ Z Q = ∀p,Z.b p=none->Q (.b p) (bg Z p (.dict [])):=rfl
theorem Eg{pins:List (Addr×Obj)}{s:Shared}{σ:St}{H:Hp}(I:Inv X pins σ H s):(s.heap.objs.size==sysModules)=false:=beq_eq_false_iff_ne.mpr (Ne.symm (ne_of_lt I.big))
theorem Hi(hg:Gl X "set")(hm:X.mg "set"=none):DE X (.Call (.Name "set" p) [] [] pos) Bb:=by
 refine DE.mk fun pins s σ H ρ Z Qd I S q=>?_
 refine wpAny_Call_Name_kw (nj I hg hm PyProof.Rows.Boot.«set» ?_ ⋯ ⋯)
 refine PyProof.Rows.callWith_type0 (call_set_0 fun led=>?_)
 have hn:=I.hok.fresh (le_refl s.heap.objs.size)
 have ex:=iG (K:=X.K) (o:={cls:=.type "set",dict:=none,data:=.set #[] 0 (.fresh 0 0 led)}) (c:=.set []) S.mu hn
 refine⟨.b s.heap.objs.size,.ref s.heap.objs.size,bg Z s.heap.objs.size (.set []),_,I.laid (a:=s.heap.objs.size) (o:=.raw _) (t':=s.toks) (fun _ _ q=>Heap.get?_push_of_some _ q) (le_refl _) (Heap.get?_push_size _ rfl),rfl,ex,
  ⟨S.mu.EH (Eg I) hn (Kl rfl),S.rho.ext S.mu ex⟩,⟨rfl,_,bo⟩,q _ (S.mu.Fx hn)⟩
theorem G6:DE X (.Dict [] [] pos) AY:=by
 refine DE.mk fun pins s σ H ρ Z Qd I S q=>?_
 refine wpAny_Dict_empty ?_
 have hn:=I.hok.fresh (le_refl s.heap.objs.size)
 have ex:=iG (K:=X.K) (o:={cls:=.type "dict",data:=.dict #[]}) (c:=.dict []) S.mu hn
 refine⟨.b s.heap.objs.size,.ref s.heap.objs.size,bg Z s.heap.objs.size (.dict []),_,I.laid (a:=s.heap.objs.size) (o:=.raw _) (t':=s.toks) (fun _ _ q=>Heap.get?_push_of_some _ q) (le_refl _) (Heap.get?_push_size _ rfl),rfl,ex,
  ⟨S.mu.EH (Eg I) hn (yg rfl),S.rho.ext S.mu ex⟩,⟨rfl,_,bo⟩,q _ (S.mu.Fx hn)⟩
def ni:D->Option (List Int)
 |.v (.tuple ds)=>intsOf ds
 |_=>none
theorem nE{K:PySem.W.Frag}{Z:Mu}{H:Hp}{d:D}{u:V}{k:List Int}(r:RpD K Z H d u)(h:ni d=some k):∃q,u = .ref q/\SqT K H q (k.map V.int):=by
 cases d with
 |v x=>
  cases x with
  |tuple ds=>
   cases r with
   |tuple hs rl=>exact⟨_,rfl,by rw[<- FN rl h];exact hs⟩
  |_=>cases h
 |_=>cases h
def inB(c:Box)(k:List Int):Bool:=match c with
 |.set ks=>decide (k∈ks)
 |.dict kvs=>(bS kvs k).isSome
def Kc:Box->Prop
 |.set ks=>ks.length<=9800
 |.dict kvs=>kvs.length<=9800
def Ew(neg:Bool):D->D->Mu->DK->Prop:=fun x y Z Q=>∃k a c,ni x=some k/\y = .b a/\Z.b a=some c/\Kc c/\(neg=true->∃kvs,c = .dict kvs)/\Q (.v (.bool (xor neg (inB c k)))) Z
noncomputable def MB(K:PySem.W.Frag)(r:D->D->Mu->DK->Prop):R2:=fun ux uy H Q=>∃x y Z Qd,bD K Z H/\RpD K Z H x ux/\RpD K Z H y uy/\r x y Z Qd/\∀d u U H',Ext K Z H U H'->bD K U H'->RpD K U H' d u->Qd d U->Q u H'
theorem JL{K:PySem.W.Frag}{r:D->D->Mu->DK->Prop}:gC K (MB K r) r:=fun x y ux uy H Z Qd Q ok rx ry h k=>⟨x,y,Z,Qd,ok,rx,ry,h,k⟩
theorem Oa(hu:X.A.units+64<cLine):OpR X (compareOp .In) (MB X.K (Ew false)):=by
 intro pins s σ H ux uy v u Q I rv ru h
 obtain⟨x,y,Z,Qd,ok,rx,ry,⟨k,a,c,hk,rfl,hc,few,_,q⟩,kk⟩:=h
 obtain⟨qk,rfl,hq⟩:=nE rx hk
 obtain⟨rfl,_⟩:=ry
 cases rv;cases ru
 obtain⟨ns,ob,hr,hb⟩:=ok.box a c hc
 have fin:∀s',Inv X pins σ H s'->EP X pins σ Q (.bool (inB c k)) s':=fun s' I'=>⟨.bl (inB c k),H,I',rfl,kk (.v (.bool (inB c k))) _ Z H .refl ok (Rp.bool _) (by rw[false_xor] at q;exact q)⟩
 cases c with
 |set ks=>exact Oe hu I hr hb hq few fin
 |dict kvs=>
  obtain⟨xs,dp,dd,len⟩:=nP I hr hb
  refine wpAny_in_heap (tupleKind_room_in1 ∅) (gi I hq) ns dd ?_
  have e:(atKey xs k).isSome=inB (.dict kvs) k:=by
   show _=(bS kvs k).isSome
   rcases dp.look k with ⟨l1,l2⟩|⟨d',q',v',w',l1,l2,_,_⟩
   ·rw[l1,l2];rfl
   ·rw[l1,l2];rfl
  rw[e]
  exact fin _ (I.tok _)
theorem G5(hu:X.A.units+64<cLine):OpR X (compareOp .NotIn) (MB X.K (Ew true)):=by
 intro pins s σ H ux uy v u Q I rv ru h
 obtain⟨x,y,Z,Qd,ok,rx,ry,⟨k,a,c,hk,rfl,hc,few,hn,q⟩,kk⟩:=h
 obtain⟨qk,rfl,hq⟩:=nE rx hk
 obtain⟨rfl,_⟩:=ry
 cases rv;cases ru
 obtain⟨ns,ob,hr,hb⟩:=ok.box a c hc
 obtain⟨kvs,rfl⟩:=hn rfl
 obtain⟨xs,dp,dd,len⟩:=nP I hr hb
 refine wpAny_notIn_heap (tupleKind_room_in1 ∅) (gi I hq) ns dd ?_
 have e:(atKey xs k).isSome=inB (.dict kvs) k:=by
  show _=(bS kvs k).isSome
  rcases dp.look k with ⟨l1,l2⟩|⟨d',q',v',w',l1,l2,_,_⟩
  ·rw[l1,l2];rfl
  ·rw[l1,l2];rfl
 rw[e]
 exact⟨.bl (!inB (.dict kvs) k),H,I.tok _,rfl,kk (.v (.bool _)) _ Z H .refl ok (Rp.bool _) (by rw[true_xor] at q;exact q)⟩
theorem M4(hu:X.A.units+64<cLine)(ha:DE X a ta)(hb:DE X b tb)(hm:behindInMarks .In b=false:=by rfl):DT X (.Compare a [.In] [b] pos) (dB (dOp (Ew false) ta tb)):=aY (Oa hu) JL ha hb hm
theorem x8(hu:X.A.units+64<cLine)(ha:DE X a ta)(hb:DE X b tb)(hm:behindInMarks .NotIn b=false:=by rfl):DT X (.Compare a [.NotIn] [b] pos) (dB (dOp (Ew true) ta tb)):=aY (G5 hu) JL ha hb hm
end
section
variable {X:Cx}{a b e o i value:Expr}{ta tb te to ti tv:DTE}{pos pos' p apos cpos:Pos}
noncomputable def IU(to te:DTE):DTE:=fun ρ Z Q=>to ρ Z fun x ad=>∃a ks0,x = .b a/\ad.b a=some (.set ks0)/\te ρ ad fun y am=>∃k ks,ni y=some k/\am.b a=some (.set ks)/\ks.length<=9800/\k ∉ ks/\Q (.v .none) (bg am a (.set (ks++[k])))
theorem Ib{ρ:Rho}{Z:Mu}{Q:DK}:IU to te ρ Z Q=to ρ Z fun x ad=>∃a ks0,x = .b a/\ad.b a=some (.set ks0)/\te ρ ad fun y am=>∃k ks,ni y=some k/\am.b a=some (.set ks)/\ks.length<=9800/\k ∉ ks/\Q (.v .none) (bg am a (.set (ks++[k]))):=rfl
theorem LL(hu:X.A.units+64<cLine)(ho:DE X o to)(he:DE X e te)(m:M1 X o "add" apos e cpos:=by exact⟨rfl,rfl,rfl,rfl⟩):DE X (.Call (.Attribute o "add" apos) [e] [] cpos) (IU to te):=by
 refine DE.mk fun pins s σ H ρ Z Qd I S q=>?_
 refine wpAny_Call_method m.base m.few m.line PySem.F.plainAttrs_set PySem.F.slot_set_add PySem.F.type_set_add (thn (ho.use I S q) fun u s1 h1=>?_)
 obtain⟨x,ux,ad,H1,I1,rx,e1,S1,rd,a,ks0,ex,hb0,q1⟩:=h1
 subst ex
 obtain⟨rfl,_⟩:=rd
 cases rx
 obtain⟨ns,ob,hr,hb⟩:=S1.mu.box a _ hb0
 obtain⟨L,SA,_,_,_,_,_⟩:=Et I1 hr hb
 obtain⟨ob',ep,t,g1,g2,_⟩:=SA
 refine⟨⟨ob',g1,g2.1⟩,fun b z=>by cases z;exact⟨ob',g1,g2.2.1⟩,?_⟩
 rw[m.trees]
 refine Calls.callWith_builtin rfl (Calls.evalArgs_plain (Calls.spliced_cons (thn (he.use I1 S1 q1) fun iv s2 h2=>Calls.spliced_nil ?_)))
 obtain⟨y,uy,am,H2,I2,ry,e2,S2,rd2,k,ks,hk,hb2,few,hn,q2⟩:=h2
 obtain⟨qk,rfl,hq⟩:=nE rd2 hk
 cases ry
 obtain⟨_,ob2,hr2,hb3⟩:=S2.mu.box a _ hb2
 refine L1 hu I2 hr2 hb3 hq few hn fun o' s3 I3 hb4=>?_
 have ex:=ua (K:=X.K) (Z:=am) (c:=.set (ks++[k])) (o':=o') hr2
 exact⟨.v .none,.non,_,_,I3,rfl,e1.trans (e2.trans ex),⟨S2.mu.D1 ns hr2 hb4,S2.rho.ext S2.mu ex⟩,Rp.none,q2⟩
noncomputable def Hr(to ti:DTE):DTE:=fun ρ Z Q=>to ρ Z fun x ad=>ti ρ ad fun y am=>∃a kvs k d,x = .b a/\ni y=some k/\am.b a=some (.dict kvs)/\bS kvs k=some d/\Q (.v d) am
theorem Mq{ρ:Rho}{Z:Mu}{Q:DK}:Hr to ti ρ Z Q=to ρ Z fun x ad=>ti ρ ad fun y am=>∃a kvs k d,x = .b a/\ni y=some k/\am.b a=some (.dict kvs)/\bS kvs k=some d/\Q (.v d) am:=rfl
theorem AA(hu:X.A.units+64<cLine)(ho:DE X o to)(hi:DE X i ti)(hs:Pb i:=by exact fun _ _=>rfl):DE X (.Subscript o i pos) (Hr to ti):=by
 refine DE.mk fun pins s σ H ρ Z Qd I S q=>?_
 refine LY PySem.F.slot_dict_getitem.lookup hs (thn (ho.use I S q) fun u s1 h1=>?_)
 obtain⟨x,ux,ad,H1,I1,rx,e1,S1,rd,q1⟩:=h1
 refine thn (hi.use I1 S1 q1) fun iv s2 h2=>?_
 obtain⟨y,uy,am,H2,I2,ry,e2,S2,rd2,a,kvs,k,d,ex,hk,hb2,hl,q2⟩:=h2
 subst ex
 obtain⟨rfl,_⟩:=rd
 cases rx
 obtain⟨qk,rfl,hq⟩:=nE rd2 hk
 cases ry
 obtain⟨ns,ob,hr,hb⟩:=S2.mu.box a _ hb2
 obtain⟨xs,dp,dd,len⟩:=nP I2 hr hb
 rcases dp.look k with ⟨l1,_⟩|⟨d',q',v',w',l1,l2,l3,l4⟩
 ·rw[hl] at l1;cases l1
 ·rw[hl] at l1;cases l1
  refine⟨dd.typeIs,wpAny_getItem_heap (tupleKind_room_in1 ∅) (gi I2 hq) dd l2 ?_⟩
  exact⟨.v d,v',am,H2,I2.tok _,l4,e1.trans e2,S2,l3,q2⟩
noncomputable def Gx(to ti tv:DTE):DTS:=fun D ρ Z=>tv ρ Z fun v ad=>to ρ ad fun x am=>ti ρ am fun y be=>∃a kvs k d,v = .v d/\x = .b a/\ni y=some k/\be.b a=some (.dict kvs)/\kvs.length<=9800/\D.nx ρ (bg be a (.dict (hU kvs k d)))
theorem Kt{D:BI}{ρ:Rho}{Z:Mu}:Gx to ti tv D ρ Z=tv ρ Z fun v ad=>to ρ ad fun x am=>ti ρ am fun y be=>∃a kvs k d,v = .v d/\x = .b a/\ni y=some k/\be.b a=some (.dict kvs)/\kvs.length<=9800/\D.nx ρ (bg be a (.dict (hU kvs k d))):=rfl
theorem LG(hu:X.A.units+64<cLine)(ho:DE X o to)(hi:DE X i ti)(hv:DE X value tv)(hs:swapsWith value (some (.Subscript o i pos')) pos.line X.env=pure false:=by rfl):DS X (.Assign [.Subscript o i pos'] value pos) (Gx to ti tv):=by
 refine⟨fun De σ H=>∃ρ Z Dd,St0 X.K H ρ Z σ/\Gx to ti tv Dd ρ Z/\∀bn bm U H',Ext X.K Z H U H'->St0 X.K H' bm U bn->Dd.nx bm U->De.nx bn H',?_,fun σ H ρ Z Dd De S h kn _ _ _=>⟨ρ,Z,Dd,S,h,kn⟩⟩
 intro pins s σ H D I ⟨ρ,Z,Dd,S,q,kn⟩
 refine wpAny_Assign_Subscript (thn (hv.use I S q) fun r s1 h1=>?_) hs
 obtain⟨v,uv,ad,H1,I1,rv,e1,S1,rd1,q1⟩:=h1
 refine thn (ho.use I1 S1 q1) fun u s2 h2=>?_
 obtain⟨x,ux,am,H2,I2,rx,e2,S2,rd2,q2⟩:=h2
 refine thn (hi.use I2 S2 q2) fun iv s3 h3=>?_
 obtain⟨y,uy,be,H3,I3,ry,e3,S3,rd3,a,kvs,k,d,ev,ex,hk,hb3,few,q3⟩:=h3
 subst ex;subst ev
 obtain⟨rfl,_⟩:=rd2
 cases rx
 obtain⟨qk,rfl,hq⟩:=nE rd3 hk
 cases ry
 obtain⟨ns,ob,hr,hb⟩:=S3.mu.box a _ hb3
 obtain⟨xs,dp,dd,len⟩:=nP I3 hr hb
 have rd1':Rp X.K be H3 d uv:=Rp.ext S1.mu (e2.trans e3) rd1
 refine wpAny_setItem_heap (hsz:=len) (tupleKind_room_in1 ∅) (gi I3 hq) dd fun h' dd' sb=>?_
 have hl:(hU kvs k d).length<=sizeLine:=by have:=uQ kvs k d;rw[sizeLine_eq];omega
 obtain⟨o',g1,g2⟩:=xZ (X:=X) (Z:=be) (H:=H3) hl (dp.put hq rd1' rv) dd'
 have exx:=ua (K:=X.K) (Z:=be) (c:=.dict (hU kvs k d)) (o':=o') hr
 exact⟨σ,upd H3 a (.raw o'),Bo (ob:=.raw o') I3 (by rw[hr];exact True.intro) sb ⟨o',g1⟩ g1,kn σ ρ _ _ (e1.trans (e2.trans (e3.trans exx))) ⟨S3.mu.D1 ns hr g2,S3.rho.ext S3.mu exx⟩ q3⟩
def Ca:Box->Nat
 |.set ks=>ks.length
 |.dict kvs=>kvs.length
theorem tG{prog:Program}{w:World}{K:Type}[DecidableEq K](knd:HeapKind prog w K)(d:Addr)(hd:(d==sysModules)=false) :
  MeetsIn prog w (Builtin.«dict.__len__» ⟨[.ref d],[]⟩) (fun _ R s=>∃kvs,s.heap.DictOfH knd d kvs/\R (.ok (.ret (.int kvs.length s.toks))) {s with toks:=s.toks+1}):=
 .of_wp fun A R s ⟨kvs,hm,h⟩=>by
  obtain⟨o,es,ep,ho,hc,hdat,hk,hp,hn⟩:=hm
  show wpAny _ _ (dictSize d>>=_) _ _ s
  unfold dictSize
  refine wpAny_bind (wpAny_bind (wpAny_dictEntries ho hdat (wpAny_pure ?_)))
  show wpAny _ _ (Builtin.Dict.pendingCount d>>=_) _ _ s
  refine wpAny_bind (wpAny_pendingCount_other hd ?_)
  refine wpAny_ret_mkInt ?_
  have:es.size=kvs.length:=size_of_entries hk
  rw[Nat.add_zero,this];exact h
theorem uI{prog:Program}{w:World}{K:Type}[DecidableEq K]{knd:HeapKind prog w K}{A:Around}{E:Value->Shared->Prop}{s:Shared}{d:Addr}{kvs:List (K×Addr×Value)}{Q:Value->Shared->Prop}(hd:(d==sysModules)=false)(hm:s.heap.DictOfH knd d kvs)(hfit:(kvs.length:Int)<2 ^ 63)
  (h:Q (.int kvs.length (s.toks+1)) {s with toks:=s.toks+1+1}):wpAny (model prog w) A (call (.builtin "len") [.ref d]) Q E s:=by
 refine Calls.call_function_entry kind_len plain_len entry_len (args_len1 _) ?_
 unfold Builtin.«len»
 refine wpAny_bind (m:=oneArg "len" _) (wpAny_pure ?_)
 refine wpAny_bind (m:=callSpecial? (.ref d) (Str.ofString "__len__")) (wpAny_callSpecial?_slot (name:=Str.ofString "__len__") hm.typeIs PySem.F.slot_dict_len
  (call_meetsIn PySem.F.slot_dict_len hm.typeIs PySem.F.entry_dict_len (PySem.F.args_dict_len_1 _) (tG knd d hd) ⟨kvs,hm,?_⟩))
 show wpAny _ _ _ _ _ {s with toks:=s.toks+1}
 refine wpAny_bind (wpAny_holding (wpAny_pure ?_))
 refine wpAny_bind (wpAny_letGo ?_)
 show wpAny _ _ (if ((kvs.length:Nat):Int)<0 then _ else _) _ _ _
 rw[if_neg ∅]
 show wpAny _ _ (if ((kvs.length:Nat):Int) ≥ 2 ^ 63 then _ else _) _ _ _
 rw[if_neg ∅]
 exact wpAny_bind (wpAny_mkInt (wpAny_pure ⟨_,rfl,h⟩))
def IT:List D->Mu->DK->Prop:=fun xs Z Q=>∃a c,xs=[.b a]/\Z.b a=some c/\Kc c/\Q (.v (.int (Ca c:Nat))) Z
def Oy(K:PySem.W.Frag)(r:List D->Mu->DK->Prop):List V->Hp->VK->Prop:=fun us H Q=>∃ds Z Qd,bD K Z H/\i6 K Z H ds us/\r ds Z Qd/\∀d u U H',Ext K Z H U H'->bD K U H'->RpD K U H' d u->Qd d U->Q u H'
theorem Ng{K:PySem.W.Frag}{r:List D->Mu->DK->Prop}:lN K (Oy K r) r:=fun xs us H Z Qd Q ok rs h k=>⟨xs,Z,Qd,ok,rs,h,k⟩
theorem G9:jk X (.builtin "len") (Oy X.K IT):=by
 intro pins s σ H xs us Q I r h
 obtain⟨ds,Z,Qd,ok,rs,⟨a,c,rfl,hc,few,q⟩,kk⟩:=h
 cases rs with
 |cons r1 r2=>
  cases r2
  obtain⟨rfl,_⟩:=r1
  obtain⟨u,rfl,rx⟩:=vals1 r
  cases rx
  obtain⟨ns,ob,hr,hb⟩:=ok.box a c hc
  have fin:∀(t:Tok) s',Inv X pins σ H s'->EP X pins σ Q (.int (Ca c:Nat) t) s':=fun t s' I'=>⟨.int (Ca c:Nat),H,I',⟨t,rfl⟩,kk (.v (.int (Ca c:Nat))) _ Z H .refl ok (Rp.int _) q⟩
  cases c with
  |set ks=>
   obtain⟨h1,L,ep,t,h2,h3,h4,h5,_,_⟩:=hb
   have hs:(L.map (·.2)).toArray.size=ks.length:=by rw[size_toArray,length_map,h5]
   have few':ks.length<=9800:=few
   refine PySem.call_len_set (show s.heap.get? a=some ob from I.hok a _ hr) h1 h2 (ST.fits_of h3 ∅) (by rw[hs];exact Int.lt_of_le_of_lt (by exact_mod_cast few':(ks.length:Int)<=9800) ⋯) ?_
   rw[hs]
   exact fin _ _ (I.kept (h':=s.heap) (t':=s.toks+1+1) fun _ _ e=>e)
  |dict kvs=>
   obtain⟨xs,dp,dd,len⟩:=nP I hr hb
   have few':kvs.length<=9800:=few
   refine uI ns dd (by rw[<- dp.length];exact Int.lt_of_le_of_lt (by exact_mod_cast few':(kvs.length:Int)<=9800) ⋯) ?_
   rw[<- dp.length]
   exact fin _ _ (I.kept (h':=s.heap) (t':=s.toks+1+1) fun _ _ e=>e)
theorem KC{es:List Expr}{t:DTA}(hg:Gl X "len")(hm:X.mg "len"=none)(ha:DA X (e::es) t)
  (he:starEach (e::es) X.env=(false,eval e X.env)::starEach es X.env:=by rfl) (hpl:(backTo pos (starEach es X.env)).any (·.1)=false:=by rfl):DE X (.Call (.Name "len" p) (e::es) [] pos) (dCB IT t):=
 iR G9 Ng hg hm PySem.boot_len ha ⋯ ⋯ he hpl
end
theorem oG{prog:Program}{w:World}{A:Around}{R:Result->Shared->Prop}{s:Shared}{kx vx target iter:Expr}{ifs:List Expr}{scope:Scope}{pos:Pos}{it:Value}{D:Addr}{env:Env}(I:Nat->Shared->Prop)
  (turn:∀n s,I n s->wpAny (model prog w) A (pyNext it) (fun r ca=>match r with
   |none=>R (.ok .next) ca
   |some v=>wpAny (model prog w) A (letOwnedTupleGo target it v) (fun _ s'=>wpAny (model prog w) A (assign target env v) (fun _ ii=>
     wpAny (model prog w) A (forIn ifs true fun c r=>if r=true then do let ok <- isTrue c env (eval c env);pure (ForInStep.yield ok) else pure (ForInStep.yield r)) (fun ok bi=>
      if ok=true then wpAny (model prog w) A (eval kx env) (fun kv pi=>wpAny (model prog w) A (eval vx env) (fun vv re=>
       wpAny (model prog w) A (dictSet D kv vv) (fun _ wl=>∃m,m<n/\I m wl) (fun _ _=>False) re) (fun _ _=>False) pi) (fun _ _=>False) bi
      else ∃m,m<n/\I m bi) (fun _ _=>False) ii) (fun _ _=>False) s') (fun _ _=>False) ca) (fun _ _=>False) s)
  (n:Nat) (h:I n s) :
  codeAny (model prog w) A (.compLoop (.DictComp kx vx [⟨target,iter,ifs,0⟩] scope pos) 0 it (.ref D) env) R s:=by
 refine codeAny_loop rfl I (fun n s hI=>?_) n h
 show wpAny _ A ((compTurn (.DictComp kx vx [⟨target,iter,ifs,0⟩] scope pos) 0 it (.ref D) env).onRaise (fun x=>do noteFrame x env;theTreesLotGoes x)) _ _ s
 refine wpAny_noted ?_
 rw[compTurn_dict]
 refine wpAny_bind (wpAny_standAt (wpAny_bind (wpAny_mono (turn n s hI) (fun r ca dl=>?_) fun _ _ h'=>h'.elim)))
 cases r with
 |none=>exact wpAny_pure dl
 |some v=>
  refine wpAny_bind (wpAny_mono dl (fun _ s' h'=>?_) fun _ _ h'=>h'.elim)
  refine wpAny_bind (wpAny_mono h' (fun _ ii po=>wpAny_bind (wpAny_mono po (fun ok bi pd=>?_) fun _ _ h'=>h'.elim)) fun _ _ h'=>h'.elim)
  cases ok with
  |false=>exact wpAny_pure ⟨rfl,pd⟩
  |true=>
   exact wpAny_bind (wpAny_bind (wpAny_mono pd (fun kv pi tj=>wpAny_bind (wpAny_holding (wpAny_mono tj (fun vv re tx=>wpAny_bind (wpAny_standAt (wpAny_holding (wpAny_mono tx (fun _ wl wr=>wpAny_pure ⟨rfl,wr⟩) fun _ _ h'=>h'.elim)))) fun _ _ h'=>h'.elim))) fun _ _ h'=>h'.elim))
def putAll{α:Type}(l:List (List Int×α)):List (List Int×α):=l.foldl (fun a x=>hU a x.1 x.2) []
theorem putAll_snoc{α:Type}(l:List (List Int×α))(k:List Int)(y:α):putAll (l++[(k,y)])=hU (putAll l) k y:=by unfold putAll;rw[List.foldl_append];rfl
theorem Ei{α:Type}(l:List (List Int×α)):(putAll l).length<=l.length:=by
 have:∀(l a:List (List Int×α)),(l.foldl (fun a x=>hU a x.1 x.2) a).length<=a.length+l.length:=fun l=>by
  induction l with
  |nil=>intro a;exact le_refl _
  |cons x l ih=>
   intro a
   rw[List.foldl_cons,length_cons]
   have h1:=ih (hU a x.1 x.2)
   have h2:=uQ a x.1 x.2
   omega
 have h:=this l []
 rw[length_nil,zero_add] at h
 exact h
theorem Cz{β:Type}{xs:List PyData}{f:PyData->Option β}{i:Nat}{d:PyData}(h:xs[i]? = some d):(xs.take (i+1)).filterMap f=(xs.take i).filterMap f++(f d).toList:=by
 obtain⟨hi,e⟩:=List.getElem?_eq_some_iff.mp h
 rw[List.take_succ_eq_append_getElem hi,List.filterMap_append,e]
 cases q:f d<;>simp[q]
noncomputable def rK(cap:List (Option Nat))(src:DTI)(g:DTG)(c:DTT)(tk tv:DTE):DTE:=fun ρ Z Q=>src ρ Z fun xs ad=>xs.length<=1000/\∃f:PyData->Option (List Int×PyData),
 (∀x∈xs,∀U:Mu,(∀a ds,ad a=some ds->U a=some ds)->g (.v x) (aX cap ρ) U fun ce am=>Le (aX cap ρ) ce/\c ce am fun b be=>
  if b=true then tk ce be fun dk ci=>tv ce ci fun dv io=>io=U/\∃k y,ni dk=some k/\dv = .v y/\f x=some (k,y) else be=U/\f x=none)/\∀p,ad.b p=none->Q (.b p) (bg ad p (.dict (putAll (xs.filterMap f))))
theorem FI{cap:List (Option Nat)}{src:DTI}{g:DTG}{c:DTT}{tk tv:DTE}{ρ:Rho}{Z:Mu}{Q:DK}:rK cap src g c tk tv ρ Z Q=src ρ Z fun xs ad=>xs.length<=1000/\∃f:PyData->Option (List Int×PyData),
 (∀x∈xs,∀U:Mu,(∀a ds,ad a=some ds->U a=some ds)->g (.v x) (aX cap ρ) U fun ce am=>Le (aX cap ρ) ce/\c ce am fun b be=>
  if b=true then tk ce be fun dk ci=>tv ce ci fun dv io=>io=U/\∃k y,ni dk=some k/\dv = .v y/\f x=some (k,y) else be=U/\f x=none)/\∀p,ad.b p=none->Q (.b p) (bg ad p (.dict (putAll (xs.filterMap f)))):=rfl
theorem Es{X:Cx}{pos2:Pos}{use:Option (Value->Sem Unit)}{QQ:Value->Shared->Prop}{pins:List (Addr×Obj)}{s:Shared}{σ:St}{H:Hp}{ρ:Rho}{Z:Mu}{Qd:DK}{N':List Str}{scope:Scope}{cl:List (Str×Addr)}{kx vx iter tg:Expr}{ifs:List Expr}{pos:Pos}{cap:List (Option Nat)}{src:DTI}{g:DTG}{c:DTT}{tk tv:DTE}(hc:X.calm=X.calm)(hu:X.A.units+64<cLine)
  (hi:DI X tg iter src) (hg:∀fp bi bv,DG (az X N' scope cl fp bi bv) tg g) (hif:∀fp bi bv,w5 (az X N' scope cl fp bi bv) ifs c) (hkx:∀fp bi bv,DE (az X N' scope cl fp bi bv) kx tk) (hvx:∀fp bi bv,DE (az X N' scope cl fp bi bv) vx tv)
  (hclos:closureFor scope X.env=pure cl) (hcell:∀y∈scope.names,y.2≠.cell) (hkind:scope.kind = .function) (hnames:∀y∈scope.names,y.2 = .local->scope.names.lookup y.1=some .local)
  (hcl:∀x a,cl.lookup x=some a->X.env.cells.lookup x=some a) (hhas:∀x,(relabel scope X.env).names.lookup x=some .cell\/(relabel scope X.env).names.lookup x=some .free->∃a,cl.lookup x=some a)
  (hlen:cap.length=N'.length) (hcap:∀(i j:Nat) (x:Str),cap[i]? = some (some j)->N'[i]? = some x->X.N[j]? = some x/\Vis X.env.scope x/\X.env.kindOf x≠some .local/\((relabel scope X.env).names.lookup x=some .cell\/(relabel scope X.env).names.lookup x=some .free))
  (hs:∀x,foldedSetIterable iter X.env x=pure x) (I:Inv X pins σ H s) (S:St0 X.K H ρ Z σ) (h:rK cap src g c tk tv ρ Z Qd)
  (hend:∀(s4:Shared) (Hc:Hp) (C pa:Addr) (m:Str->Option Value) (lf:Mu),s4.heap.Ns C m->mh X pins Hc C->(∀h',Heap.SameBut C s4.heap h'->Inv X pins σ Hc {s4 with heap:=h'}) ->
   Ext X.K Z H lf Hc->St0 X.K Hc ρ lf σ->RpD X.K lf Hc (.b pa) (.ref pa)->Qd (.b pa) lf->compPost (model X.prog X.w) X.A X.xe use QQ (.ref pa) C (.ok .next) s4) :
  wpAny (model X.prog X.w) X.A (comprehension (.DictComp kx vx [⟨tg,iter,ifs,0⟩] scope pos) scope X.env pos2 newDict false (eval iter X.env) use) QQ X.xe s:=by
 obtain⟨wi,pw,li⟩:=hi
 refine wpAny_comprehension_free rfl hs hclos hkind hnames (thn (pw pins s σ H _ I (li σ H ρ Z _ (fun J H1=>∃xs ad,Ext X.K Z H ad H1/\St0 X.K H1 ρ ad σ/\DY X.K J xs ad H1/\xs.length<=1000/\∃f:PyData->Option (List Int×PyData),
   (∀x∈xs,∀U:Mu,(∀a ds,ad a=some ds->U a=some ds)->g (.v x) (aX cap ρ) U fun ce am=>Le (aX cap ρ) ce/\c ce am fun b be=>
    if b=true then tk ce be fun dk ci=>tv ce ci fun dv io=>io=U/\∃k y,ni dk=some k/\dv = .v y/\f x=some (k,y) else be=U/\f x=none)/\∀p,ad.b p=none->Qd (.b p) (bg ad p (.dict (putAll (xs.filterMap f))))) S h (fun xs ad H1 J e1 S1 it q=>⟨xs,ad,e1,S1,it,q⟩)))
  fun v s1 h1=>thn h1 fun itv s2 h2=>?_)
 obtain⟨it,fp,tn,J,H2,rfl,I2,T,st2,f2,xs,ad,e1,S1,itok,hxs,f,body,fin⟩:=h2
 refine wpAny_newObj_type (wpAny_newFunctionEnv hcell (by intro y hy;simp at hy) (fun dl gV gl=>?_) hkind)
 dsimp only at gV gl ⊢
 have hfree2:H2 s2.heap.objs.size=none:=I2.hok.fresh (le_refl _)
 have hK2:X.K.lookup s2.heap.objs.size=none:=by
  cases z:X.K.lookup s2.heap.objs.size with
  |none=>rfl
  |some o=>exact absurd (Heap.lt_size (I2.kIn _ _ z)) (lt_irrefl _)
 have I3:Inv X pins σ (upd H2 s2.heap.objs.size (.raw {cls:=.type "dict",dict:=none,data:=.dict #[]})) {s2 with heap:=s2.heap.push {cls:=.type "dict",dict:=none,data:=.dict #[]}}:=
  I2.laid (t':=s2.toks) (fun b u e=>Heap.get?_push_of_some _ e) (le_refl _) (Heap.get?_push_size _ rfl)
 generalize hH:s2.heap.push {cls:=.type "dict",dict:=none,data:=.dict #[]} = hp3 at gV gl I3 ⊢
 have hsz3:hp3.objs.size=s2.heap.objs.size+1:=by rw[<- hH,Heap.size_push]
 have kept3:∀b o,hp3.get? b=some o->dl.get? b=some o:=fun b o e=>gl.extBut b o (ne_of_lt (Heap.lt_size e)) (Heap.get?_push_of_some _ e)
 have old3:∀b o,s2.heap.get? b=some o->hp3.get? b=some o:=fun b o e=>by rw[<- hH];exact Heap.get?_push_of_some _ e
 have fplt:∀b∈fp,b<s2.heap.objs.size:=fun b hb=>by obtain⟨o,e,_⟩:=T.obj 0 _ st2 b hb;exact Heap.lt_size e
 have fpst:∀b∈fp,b ∉ frs X.stack:=fun b hb hz=>by
  rcases List.mem_cons.mp (I2.gO b hz) with e|e
  ·exact (f2 b hb).2.1 e
  ·exact (f2 b hb).2.2.1 e
 obtain⟨s3,hs3⟩:∃s3:Shared,s3={s2 with heap:=hp3}:=⟨_,rfl⟩
 obtain⟨H3,hH3⟩:∃H3:Hp,H3=upd H2 s2.heap.objs.size (.raw {cls:=.type "dict",dict:=none,data:=.dict #[]}):=⟨_,rfl⟩
 have heap3:s3.heap=hp3:=by rw[hs3]
 rw[<- hH3] at I3
 have I3':Inv X pins σ H3 s3:=by rw[hs3];exact I3
 have hloc:H3 hp3.objs.size=none:=by have:=I3'.hok.fresh (a:=hp3.objs.size) (by rw[heap3];exact le_refl _);exact this
 have okc:(az X N' scope cl fp s3 H3).Ok:=by
  refine⟨I3.ok.mod,?_,I3.ok.glob,I3.ok.blt,le_refl _,fun x y a h1 h2=>I3.ok.inj x y a (hcl x a h1) (hcl y a h2),fun x hx=>hhas x hx,fun x a h=>(nomatch h),I3.ok.hd,I3.ok.qt,I3.ok.frames,.inl rfl,fun b hb=>⟨?_,fun x a h=>(f2 b hb).2.2.2.2.1 x a (hcl x a h)⟩,
   I3'.bs,le_trans I3.ok.bsz I3'.sz,fun b o e hb=>?_,fun b hb=>fpst b hb,I3'.stack,I3'.nI⟩
  ·exact hkind
  ·show b≠s3.heap.objs.size
   rw[heap3,hsz3]
   exact ne_of_lt (lt_succ_of_lt (fplt b hb))
  ·rcases (f2 b hb).2.2.2.1 with z|z
   ·exact I3.ok.A6 b o e z
   ·exact absurd (lt_of_lt_of_le (Heap.lt_size (I3.ok.bs b o e).1) z) (lt_irrefl _)
 have I4:Inv (az X N' scope cl fp s3 H3) [] (aX cap σ) H3 {s2 with heap:=dl,toks:=s2.toks+([]:List (Str×Value)).length}:=by
  refine⟨okc,by show s2.os=s3.os;rw[hs3],I3.bare,Un.kept (by show ∀b o,s3.heap.get? b=some o->_;rw[heap3];exact kept3),⟨_,(by show dl.Ns s3.heap.objs.size _;rw[heap3];exact gV),fun i x v e1 e2 e3=>?_⟩,fun x a h=>?_,(by show H3 s3.heap.objs.size=none;rw[heap3];exact hloc),fun x a h=>I3.jt x a (hcl x a h),fun p hp=>?_,I3.hok.kept kept3,?_⟩
  ·obtain⟨j,h1,h2⟩:=km e2
   obtain⟨hN,hv,hnl,hk⟩:=hcap i j x h1 e1
   obtain⟨m,_,hl⟩:=I3.loc
   obtain⟨u,r,lk⟩:=hl j x v hN h2 hv
   refine⟨u,r,.inr ⟨hk,?_⟩⟩
   obtain⟨a,ha⟩:=hhas x hk
   rcases lk with ⟨z,_⟩|⟨_,a',z1,z2⟩
   ·exact absurd z hnl
   ·have:a'=a:=by have q:=hcl x a ha;rw[z1] at q;exact Option.some.inj q
    subst this
    obtain⟨o,ho,hd⟩:=z2
    exact⟨a',ha,o,kept3 _ _ ho,hd⟩
  ·obtain⟨v,o,ho,hd⟩:=I3.cell x a (hcl x a h)
   exact⟨v,o,kept3 _ _ ho,hd⟩
  ·have hp':p∈X.pn++pins:=mem_append_left _ (by simpa using (show p∈X.pn++[] from hp))
   obtain⟨z1,z2,z3,z4,z5⟩:=I3'.pin p hp'
   refine⟨kept3 _ _ (by rw[<- heap3];exact z1),z2,(show p.1≠s3.heap.objs.size from ne_of_lt (Heap.lt_size z1)),fun z=>?_,z5⟩
   rcases List.mem_cons.mp (I3'.gO p.1 z) with e|e
   ·exact z3 e
   ·exact z4 e
  ·show (aX cap σ).length=N'.length
   unfold aX
   rw[length_map]
   exact hlen
 have ld:ad.b s2.heap.objs.size=none:=S1.mu.Fx hfree2
 have sub1:∀(ys:Box) a ds,ad a=some ds->bg ad s2.heap.objs.size ys a=some ds:=fun ys a ds e=>e
 have loop:codeAny (model X.prog X.w) X.A (.compLoop (.DictComp kx vx [⟨tg,iter,ifs,0⟩] scope pos) 0 (.ref it) (.ref s2.heap.objs.size) (az X N' scope cl fp s3 H3).env)
   (compPost (model X.prog X.w) X.A X.xe use QQ (.ref s2.heap.objs.size) hp3.objs.size) {s2 with heap:=dl,toks:=s2.toks+([]:List (Str×Value)).length}:=by
  refine oG (fun n s'=>∃(i:Nat) (db:St) (Hc:Hp),n=xs.length-i/\i<=xs.length/\Inv (az X N' scope cl fp s3 H3) [] db Hc s'/\tn i s'.heap/\(∀b∈fp,Hc b=none) /\
   St0 X.K Hc (aX cap ρ) (bg ad s2.heap.objs.size (.dict (putAll ((xs.take i).filterMap f)))) db/\Ext X.K ad H2 (bg ad s2.heap.objs.size (.dict (putAll ((xs.take i).filterMap f)))) Hc) ?_ xs.length
   ⟨0,aX cap σ,H3,by simp,zero_le _,I4,T.keep 0 _ _ st2 (fun b hb o e=>kept3 b o (old3 b o e)),fun b hb=>?_,?_,?_⟩
  ·rintro n s' ⟨i,db,Hc,rfl,hi,Ic,tc,frc,Sc,Ec⟩
   have stat:∀{Hd:Hp},(∀b∈fp,Hd b=none)->∀b∈fp,mh (az X N' scope cl fp s3 H3) [] Hd b:=fun hn b hb=>
    ⟨hn b hb,(okc.exf b hb).1,fpst b hb,.inl hb,fun x a h=>(okc.exf b hb).2 x a h,fun p hp=>(f2 b hb).2.2.2.2.2 p (mem_append_left _ (by simpa using (show p∈X.pn++[] from hp)))⟩
   obtain⟨go,stop⟩:=itok _ Hc Ec Sc.mu i
   by_cases hlt:i<xs.length
   ·obtain⟨g1,y1⟩:=go hlt
    refine thn (T.item (az X N' scope cl fp s3 H3) rfl rfl rfl (fun z=>z) i [] s' db Hc (fun _ _=>False) Ic (stat frc) tc g1) fun r s4 hq0=>?_
    obtain⟨u,hr,h4⟩:=hq0
    subst hr
    refine thn h4 fun _ s5 hq0=>?_
    obtain⟨x,H5,I5,r5,y5,st5,fr5⟩:=hq0
    obtain⟨d,hd,sm,rd⟩:=y1 x H5 y5
    have I5':=I5.pinned (stat fr5) (T.obj _ _ st5)
    have e5:Ext X.K _ Hc _ H5:=.of_same (Z:=bg ad s2.heap.objs.size (.dict (putAll ((xs.take i).filterMap f)))) sm
    have S5:St0 X.K H5 (aX cap ρ) (bg ad s2.heap.objs.size (.dict (putAll ((xs.take i).filterMap f)))) db:=⟨Sc.mu.BM e5 sm,Sc.rho.ext Sc.mu e5⟩
    obtain⟨gt,pg,lg⟩:=hg fp s3 H3
    have hmem:d∈xs:=mem_of_getElem? hd
    refine thn (pg _ s5 db H5 x u (fun bn H'=>∃bm U,Ext X.K (bg ad s2.heap.objs.size (.dict (putAll ((xs.take i).filterMap f)))) H5 U H'/\St0 X.K H' bm U bn/\Le (aX cap ρ) bm/\c bm U fun b be=>
      if b=true then tk bm be fun dk ci=>tv bm ci fun dv io=>io=bg ad s2.heap.objs.size (.dict (putAll ((xs.take i).filterMap f)))/\∃k y,ni dk=some k/\dv = .v y/\f d=some (k,y) else be=bg ad s2.heap.objs.size (.dict (putAll ((xs.take i).filterMap f)))/\f d=none) I5' r5
     (lg db H5 (aX cap ρ) _ (.v d) x _ _ S5 rd (body d hmem _ (sub1 _)) fun bn bm U H' e' S' q=>⟨bm,U,e',S',q⟩)) fun _ s6 ⟨ga,H6,I6,jp,nw,e6,S6,le6,q6⟩=>?_
    refine thn (hif fp s3 H3 _ s6 ga H6 jp nw _ (fun b H'=>∃U,Ext X.K nw H6 U H'/\St0 X.K H' jp U ga/\if b=true then tk jp U fun dk ci=>tv jp ci fun dv io=>io=bg ad s2.heap.objs.size (.dict (putAll ((xs.take i).filterMap f)))/\∃k y,ni dk=some k/\dv = .v y/\f d=some (k,y) else U=bg ad s2.heap.objs.size (.dict (putAll ((xs.take i).filterMap f)))/\f d=none)
     I6 S6 q6 fun b U H' e' S' q=>⟨U,e',S',q⟩) fun b s7 ⟨H7,I7,ls,e7,S7,q7⟩=>?_
    have again:∀{H9:Hp} {s9:Shared},Inv (az X N' scope cl fp s3 H3) ([]++mI fp s5.heap) ga H9 s9->bD X.K (bg ad s2.heap.objs.size (.dict (putAll ((xs.take (i+1)).filterMap f)))) H9->fG X.K (bg ad s2.heap.objs.size (.dict (putAll ((xs.take (i+1)).filterMap f)))) H9 (aX cap ρ) ga ->
      Ext X.K ad H2 (bg ad s2.heap.objs.size (.dict (putAll ((xs.take (i+1)).filterMap f)))) H9->∃m,m<xs.length-i/\∃(i:Nat) (db:St) (Hc:Hp),m=xs.length-i/\i<=xs.length/\Inv (az X N' scope cl fp s3 H3) [] db Hc s9/\tn i s9.heap/\(∀b∈fp,Hc b=none) /\
       St0 X.K Hc (aX cap ρ) (bg ad s2.heap.objs.size (.dict (putAll ((xs.take i).filterMap f)))) db/\Ext X.K ad H2 (bg ad s2.heap.objs.size (.dict (putAll ((xs.take i).filterMap f)))) Hc:=fun {H9 s9} I9 m9 r9 e9=>by
     refine⟨xs.length-(i+1),∅,i+1,ga,H9,rfl,hlt,I9.dn,T.keep _ _ _ st5 fun b hb o e=>(I9.pin (b,o) (mem_append_right _ (mem_append_right _ (bA hb e)))).1,fun b hb=>?_,⟨m9,r9⟩,e9⟩
     obtain⟨o,e,_⟩:=T.obj _ _ st5 b hb
     exact (I9.pin (b,o) (mem_append_right _ (mem_append_right _ (bA hb e)))).2.1
    cases b with
    |false=>
     have q8:ls=bg ad s2.heap.objs.size (.dict (putAll ((xs.take i).filterMap f)))/\f d=none:=by simpa using q7
     refine vj ?_
     have et:(xs.take (i+1)).filterMap f=(xs.take i).filterMap f:=by rw[Cz hd,q8.2];simp
     have sn:bg ad s2.heap.objs.size (.dict (putAll ((xs.take (i+1)).filterMap f)))=ls:=by rw[et,q8.1]
     refine again I7 (by rw[sn];exact S7.mu) (by rw[sn];exact S7.rho.le le6) ?_
     rw[sn]
     exact Ec.trans (e5.trans (e6.trans e7))
    |true=>
     refine ve ?_
     have q8:tk jp ls fun dk ci=>tv jp ci fun dv io=>io=bg ad s2.heap.objs.size (.dict (putAll ((xs.take i).filterMap f)))/\∃k y,ni dk=some k/\dv = .v y/\f d=some (k,y):=by simpa using q7
     refine thn ((hkx fp s3 H3).use I7 S7 q8) fun v s8 hq0=>?_
     obtain⟨dk,uk,kw,H8,I8,rk,e8,S8,rdk,q9⟩:=hq0
     refine thn ((hvx fp s3 H3).use I8 S8 q9) fun v' s9 hq0=>?_
     obtain⟨dv,uv,o0,H9,I9,rv,e9,S9,rdv,sn,kk,y,hk,ev,fy⟩:=hq0
     subst sn;subst ev
     obtain⟨qk,rfl,hq8⟩:=nE rdk hk
     have hq:SqT X.K H9 qk (kk.map V.int):=iw S8.mu e9 hq8
     cases rk
     have hle:((xs.take i).filterMap f).length<=1000:=le_trans (List.length_filterMap_le _ _) (le_trans (by rw[length_take];exact Nat.min_le_right _ _) hxs)
     obtain⟨ns,ob,hr,hb⟩:=S9.mu.box s2.heap.objs.size _ bo
     obtain⟨es,dp,dd,len⟩:=nP I9 hr hb
     refine wpAny_dictSet_heap (hsz:=len) (show X.A.units<cLine by omega) (gi I9 hq) dd fun h' dd' sb=>?_
     have et:(xs.take (i+1)).filterMap f=(xs.take i).filterMap f++[(kk,y)]:=by rw[Cz hd,fy];rfl
     have ep:putAll ((xs.take (i+1)).filterMap f)=hU (putAll ((xs.take i).filterMap f)) kk y:=by rw[et,putAll_snoc]
     have hl:(hU (putAll ((xs.take i).filterMap f)) kk y).length<=sizeLine:=by
      have h1:=uQ (putAll ((xs.take i).filterMap f)) kk y
      have h2:=Ei ((xs.take i).filterMap f)
      rw[sizeLine_eq];omega
     obtain⟨o',g1,g2⟩:=xZ (X:=X) (Z:=bg ad s2.heap.objs.size (.dict (putAll ((xs.take i).filterMap f)))) (H:=H9) hl (dp.put hq rdv rv) dd'
     have exx:=ua (K:=X.K) (Z:=bg ad s2.heap.objs.size (.dict (putAll ((xs.take i).filterMap f)))) (c:=.dict (hU (putAll ((xs.take i).filterMap f)) kk y)) (o':=o') hr
     have mset:bg (bg ad s2.heap.objs.size (.dict (putAll ((xs.take i).filterMap f)))) s2.heap.objs.size (.dict (hU (putAll ((xs.take i).filterMap f)) kk y))=bg ad s2.heap.objs.size (.dict (putAll ((xs.take (i+1)).filterMap f))):=by rw[ep];exact GZ
     have m9:=S9.mu.D1 ns hr g2
     rw[mset] at exx m9
     refine again (Bo (ob:=.raw o') I9 (by rw[hr];exact True.intro) sb ⟨o',g1⟩ g1) m9 ?_ ?_
     ·exact (S9.rho.le le6).ext S9.mu exx
     ·exact Ec.trans (e5.trans (e6.trans (e7.trans (e8.trans (e9.trans exx)))))
   ·have ei:i=xs.length:=by omega
    subst ei
    refine thn (T.done (az X N' scope cl fp s3 H3) rfl rfl rfl (fun z=>z) _ [] s' db Hc (fun _ _=>False) Ic (stat frc) tc (stop rfl)) fun r s4 hq0=>?_
    obtain⟨hr,I5⟩:=hq0
    subst hr
    rw[take_length] at Sc Ec
    obtain⟨m,hn,_⟩:=I5.loc
    have hcC:Hc hp3.objs.size=none:=by have z:Hc s3.heap.objs.size=none:=I5.free;rw[heap3] at z;exact z
    refine hend s4 Hc hp3.objs.size s2.heap.objs.size m _ (by have z:s4.heap.Ns s3.heap.objs.size m:=hn;rw[heap3] at z;exact z) (I2.BZ (by rw[hsz3];exact Nat.le_succ _) hcC) (fun h' hs'=>?_) (e1.trans Ec) ⟨Sc.mu,S1.rho.ext S1.mu Ec⟩ ⟨rfl,_,bo⟩ (fin _ ld)
    have kp:∀b o,b<s2.heap.objs.size->s4.heap.get? b=some o->h'.get? b=some o:=fun b o hb e=>hs'.extBut b o (by rw[hsz3];exact ne_of_lt (lt_succ_of_lt hb)) e
    have hok':HOk X.prog X.w Hc h':=fun b ob e=>by
     refine (I5.hok b ob e).pM (fun cc v hcc q=>hs'.extBut cc v ?_ q) (fun _ q=>q) fun _ _ q=>q
     rintro rfl
     rcases hcc with z|z
     ·rw[<- z,hcC] at e;cases e
     ·rw[hcC] at z;cases z
    have u1:Un (frs X.stack) fp H2 H3 s2.heap s3.heap:=by rw[heap3,hH3];exact Un.laid old3 (le_refl _) hfree2
    have u2:Un (frs X.stack) fp H3 Hc s3.heap s4.heap:=I5.base
    exact I2.uJ (ch:=fp) (by show s4.os=s2.os;have z:s4.os=s3.os:=I5.os;rw[z,hs3]) (Un.after (u1.trans u2) kp) hok' I5.bare fun b hb=>⟨(f2 b hb).2.2.2.1,(f2 b hb).2.1,(f2 b hb).2.2.2.2.1,(f2 b hb).2.2.2.2.2⟩
  ·have z:b≠s2.heap.objs.size:=ne_of_lt (fplt b hb)
   rw[hH3,aR z]
   exact (f2 b hb).1
  ·have ex:=iG (K:=X.K) (o:={cls:=.type "dict",dict:=none,data:=.dict #[]}) (c:=.dict []) S1.mu hfree2
   rw[hH3]
   exact⟨S1.mu.EH (Eg I2) hfree2 (yg rfl),(S1.rho.ext S1.mu ex).cap⟩
  ·rw[hH3]
   exact iG (K:=X.K) (o:={cls:=.type "dict",dict:=none,data:=.dict #[]}) (c:=.dict []) S1.mu hfree2
 have envE:(az X N' scope cl fp s3 H3).env=compEnvC scope cl hp3.objs.size X.env:=by show compEnvC scope cl s3.heap.objs.size X.env=_;rw[heap3]
 rw[envE] at loop
 exact codeAny_compStart_dict loop (T.self X.A 0 _ _ _ (T.keep 0 _ _ st2 (fun b hb o e=>kept3 b o (old3 b o e))) loop)
theorem Fj{X:Cx}{i:Nat}{x:Str}{pos' spos:Pos}{N':List Str}{scope:Scope}{cl:List (Str×Addr)}{kx vx iter tg:Expr}{ifs:List Expr}{pos:Pos}{cap:List (Option Nat)}{src:DTI}{g:DTG}{c:DTT}{tk tv:DTE}(hN:X.N.Nodup)(hix:X.N[i]? = some x)(hx:X.env.scope.names.lookup x=some .local)(hc:X.calm=X.calm)(hu:X.A.units+64<cLine)
  (hi:DI X tg iter src) (hg:∀fp bi bv,DG (az X N' scope cl fp bi bv) tg g) (hif:∀fp bi bv,w5 (az X N' scope cl fp bi bv) ifs c) (hkx:∀fp bi bv,DE (az X N' scope cl fp bi bv) kx tk) (hvx:∀fp bi bv,DE (az X N' scope cl fp bi bv) vx tv)
  (hclos:closureFor scope X.env=pure cl) (hcell:∀y∈scope.names,y.2≠.cell) (hkind:scope.kind = .function) (hnames:∀y∈scope.names,y.2 = .local->scope.names.lookup y.1=some .local)
  (hcl:∀x a,cl.lookup x=some a->X.env.cells.lookup x=some a) (hhas:∀x,(relabel scope X.env).names.lookup x=some .cell\/(relabel scope X.env).names.lookup x=some .free->∃a,cl.lookup x=some a)
  (hlen:cap.length=N'.length) (hcap:∀(i j:Nat) (x:Str),cap[i]? = some (some j)->N'[i]? = some x->X.N[j]? = some x/\Vis X.env.scope x/\X.env.kindOf x≠some .local/\((relabel scope X.env).names.lookup x=some .cell\/(relabel scope X.env).names.lookup x=some .free))
  (hs:∀x,foldedSetIterable iter X.env x=pure x:=by intro _;rfl)
  (hsw:swapsWith (.DictComp kx vx [⟨tg,iter,ifs,0⟩] scope pos) (some (.Name x pos')) spos.line X.env=pure true:=by rfl):DS X (.Assign [.Name x pos'] (.DictComp kx vx [⟨tg,iter,ifs,0⟩] scope pos) spos) (bc (rK cap src g c tk tv) (aq i)):=by
 refine⟨fun D σ H=>∃ρ Z Dd,St0 X.K H ρ Z σ/\bc (rK cap src g c tk tv) (aq i) Dd ρ Z/\(∀bn bm U H',Ext X.K Z H U H'->St0 X.K H' bm U bn->Dd.nx bm U->D.nx bn H'),?_,fun σ H ρ Z Dd De S h k1 k2 k3 k4=>⟨ρ,Z,Dd,S,h,k1⟩⟩
 rintro pins s σ H D I ⟨ρ,Z,Dd,S,h,k1⟩
 rw[exec_Assign_Name_used _ _ _ _ hsw]
 refine wpAny_bind (wpAny_standAt ?_)
 show wpAny _ _ ((comprehension (.DictComp kx vx [⟨tg,iter,ifs,0⟩] scope pos) scope X.env (firstIterPos [⟨tg,iter,ifs,0⟩] pos) newDict false (eval iter X.env) (some (assign (.Name x pos') X.env))>>=fun _=>pure ())>>=_) _ _ s
 refine wpAny_bind (wpAny_bind (Es (Qd:=fun d ad=>aq i d ρ ad Dd.nx) hc hu hi hg hif hkx hvx hclos hcell hkind hnames hcl hhas hlen hcap hs I S h fun s4 Hc C pa m lf hn fC hI e1 S1 r q=>?_))
 have I4:Inv X pins σ Hc s4:=hI s4.heap (Heap.SameBut.refl _ _)
 obtain⟨oC,hoC,hdC⟩:∃o,s4.heap.get? C=some o/\∀v,o.data≠.cell v:=by
  obtain⟨o,h1,h2⟩:=ns_obj hn
  exact⟨o,h1,h2⟩
 have I5:=I4.pinned (fp:=[C]) (fun b hb=>by rw[List.mem_singleton.mp hb];exact fC) (fun b hb=>by rw[List.mem_singleton.mp hb];exact⟨oC,hoC,hdC⟩)
 show wpAny _ _ (assign (.Name x pos') X.env (.ref pa)) _ _ s4
 refine wpAny_assign_Name (kd I5 hN hix (Or.inl hx) (show RelV (.ref pa) (.ref pa) from rfl) (fun s' I'=>?_) (.inr hx))
 have keepC:s'.heap.get? C=some oC:=(I'.pin (C,oC) (mem_append_right _ (mem_append_right _ (bA (List.mem_singleton.mpr rfl) hoC)))).1
 have hn':s'.heap.Ns C m:=GC hn (by rw[keepC,hoC])
 refine⟨m,hn',fun h' hs'=>wpAny_pure (wpAny_pure ?_)⟩
 refine⟨σ.set i (some (.ref pa)),Hc,?_,k1 _ _ _ _ e1 ⟨S1.mu,S1.rho.set (d:=.b pa) r⟩ q⟩
 refine I'.dn.uJ (ch:=[C]) rfl ⟨fun b o e n hb hx=>?_,fun b o e n hb hx=>?_,fun b o e n hx=>n,fun b o e hx=>?_,fun b xs e=>e,fun b o u e=>e,fun b ps e=>⟨#[],by rw[Array.append_empty];exact e⟩⟩ ?_ I'.bare fun b hb=>?_
 ·exact hs'.extBut b o (fun z=>hx (List.mem_singleton.mpr z)) e
 ·exact⟨o.slots,hs'.extBut b o (fun z=>hx (List.mem_singleton.mpr z)) e⟩
 ·exact⟨o,hs'.extBut b o (fun z=>hx (List.mem_singleton.mpr z)) e⟩
 ·exact fun b ob e=>by
   refine (I'.hok b ob e).pM (fun cc v hcc q=>hs'.extBut cc v ?_ q) (fun _ q=>q) fun _ _ q=>q
   rintro rfl
   rcases hcc with z|z
   ·rw[<- z,fC.1] at e;cases e
   ·rw[fC.1] at z;cases z
 ·rw[List.mem_singleton.mp hb]
  exact⟨fC.2.2.2.1,fC.2.1,fC.2.2.2.2.1,fC.2.2.2.2.2⟩
abbrev two(elt tg iter tg2 iter2:Expr)(scope:Scope)(pos:Pos):Expr:=.ListComp elt [⟨tg,iter,[],0⟩,⟨tg2,iter2,[],0⟩] scope pos
theorem xq(elt tg iter tg2 iter2:Expr)(scope:Scope)(pos:Pos)(it acc:Value)(env:Env) :
  compTurn (two elt tg iter tg2 iter2 scope pos) 0 it acc env=(standAt iter.pos>>=fun _=>pyNext it>>=fun r=>match r with
   |none=>pure (.done .next)
   |some v=>letOwnedTupleGo tg it v>>=fun _=>assign tg env v>>=fun _=>
    (eval iter2 env>>=fun x=>standAt iter2.pos>>=fun _=>foldedSetIterable iter2 env x>>=fun x=>holding [x] (pyIter x)>>=fun it2=>runOwn (.compStart (two elt tg iter tg2 iter2 scope pos) 1 it2 acc env) env>>=fun _=>
     again (.compLoop (two elt tg iter tg2 iter2 scope pos) 0 it acc env))):=by rfl
theorem xj(elt tg iter tg2 iter2:Expr)(scope:Scope)(pos:Pos)(it acc:Value)(env:Env) :
  compTurn (two elt tg iter tg2 iter2 scope pos) 1 it acc env=(standAt iter2.pos>>=fun _=>pyNext it>>=fun r=>match r with
   |none=>pure (.done .next)
   |some v=>letOwnedTupleGo tg2 it v>>=fun _=>assign tg2 env v>>=fun _=>
    (eval elt env>>=fun x=>call (.builtin "list.append") [acc,x]>>=fun _=>pure ())>>=fun _=>
     again (.compLoop (two elt tg iter tg2 iter2 scope pos) 1 it acc env)):=by rfl
section
variable {prog:Program}{w:World}{A:Around}{R:Result->Shared->Prop}{s:Shared}{elt tg iter tg2 iter2:Expr}{scope:Scope}{pos:Pos}{it acc:Value}{env:Env}
theorem Ae(I:Nat->Shared->Prop)(hs:∀x,foldedSetIterable iter2 env x=pure x)
  (turn:∀n s,I n s->wpAny (model prog w) A (pyNext it) (fun r ca=>match r with
   |none=>R (.ok .next) ca
   |some v=>wpAny (model prog w) A (letOwnedTupleGo tg it v) (fun _ s'=>wpAny (model prog w) A (assign tg env v) (fun _ ii=>
     wpAny (model prog w) A (eval iter2 env) (fun x bi=>wpAny (model prog w) A (pyIter x) (fun it2 pi=>
       codeAny (model prog w) A (.compStart (two elt tg iter tg2 iter2 scope pos) 1 it2 acc env) (fun r re=>∃f,r = .ok f/\∃m,m<n/\I m re) pi) (fun _ _=>False) bi) (fun _ _=>False) ii) (fun _ _=>False) s') (fun _ _=>False) ca) (fun _ _=>False) s)
  (n:Nat) (h:I n s) :
  codeAny (model prog w) A (.compLoop (two elt tg iter tg2 iter2 scope pos) 0 it acc env) R s:=by
 refine codeAny_loop rfl I (fun n s hI=>?_) n h
 show wpAny _ A ((compTurn (two elt tg iter tg2 iter2 scope pos) 0 it acc env).onRaise (fun x=>do noteFrame x env;theTreesLotGoes x)) _ _ s
 refine wpAny_noted ?_
 rw[xq]
 refine wpAny_bind (wpAny_standAt (wpAny_bind (wpAny_mono (turn n s hI) (fun r ca dl=>?_) fun _ _ h'=>h'.elim)))
 cases r with
 |none=>exact wpAny_pure dl
 |some v=>
  refine wpAny_bind (wpAny_mono dl (fun _ s' h'=>?_) fun _ _ h'=>h'.elim)
  refine wpAny_bind (wpAny_mono h' (fun _ ii po=>wpAny_bind (wpAny_mono po (fun x bi pd=>?_) fun _ _ h'=>h'.elim)) fun _ _ h'=>h'.elim)
  refine wpAny_bind (wpAny_standAt (wpAny_bind (wpAny_of_eq (hs x) (wpAny_bind (wpAny_holding (wpAny_mono pd (fun it2 pi tj=>wpAny_bind (wpAny_runOwn ?_)) fun _ _ h'=>h'.elim))))))
  refine codeAny_mono tj fun r re hq0=>?_
  obtain⟨f,e,m,hm,hI'⟩:=hq0
  subst e
  exact wpAny_pure ⟨rfl,m,hm,hI'⟩
theorem zV(I:Nat->Shared->Prop)
  (turn:∀n s,I n s->wpAny (model prog w) A (pyNext it) (fun r ca=>match r with
   |none=>R (.ok .next) ca
   |some v=>wpAny (model prog w) A (letOwnedTupleGo tg2 it v) (fun _ s'=>wpAny (model prog w) A (assign tg2 env v) (fun _ bi=>
      wpAny (model prog w) A (eval elt env) (fun x pi=>
       wpAny (model prog w) A (call (.builtin "list.append") [acc,x]) (fun _ re=>∃m,m<n/\I m re) (fun _ _=>False) pi) (fun _ _=>False) bi) (fun _ _=>False) s') (fun _ _=>False) ca) (fun _ _=>False) s)
  (n:Nat) (h:I n s) :
  codeAny (model prog w) A (.compLoop (two elt tg iter tg2 iter2 scope pos) 1 it acc env) R s:=by
 refine codeAny_loop rfl I (fun n s hI=>?_) n h
 show wpAny _ A ((compTurn (two elt tg iter tg2 iter2 scope pos) 1 it acc env).onRaise (fun x=>do noteFrame x env;theTreesLotGoes x)) _ _ s
 refine wpAny_noted ?_
 rw[xj]
 refine wpAny_bind (wpAny_standAt (wpAny_bind (wpAny_mono (turn n s hI) (fun r ca dl=>?_) fun _ _ h'=>h'.elim)))
 cases r with
 |none=>exact wpAny_pure dl
 |some v=>
  refine wpAny_bind (wpAny_mono dl (fun _ s' h'=>?_) fun _ _ h'=>h'.elim)
  refine wpAny_bind (wpAny_mono h' (fun _ bi pd=>?_) fun _ _ h'=>h'.elim)
  exact wpAny_bind (wpAny_bind (wpAny_mono pd (fun x pi tj=>wpAny_bind (wpAny_mono tj (fun _ re tx=>wpAny_pure (wpAny_pure ⟨rfl,tx⟩)) fun _ _ h'=>h'.elim)) fun _ _ h'=>h'.elim))
theorem vf
  (h0:codeAny (model prog w) A (.compLoop (two elt tg iter tg2 iter2 scope pos) 1 it acc env) R s)
  (h:wpAny (model prog w) A (pyIter it) (fun it' s'=>codeAny (model prog w) A (.compLoop (two elt tg iter tg2 iter2 scope pos) 1 it' acc env) R s')
   (notedBy (model prog w) A env fun x s'=>R (.error x) s') s) :
  codeAny (model prog w) A (.compStart (two elt tg iter tg2 iter2 scope pos) 1 it acc env) R s:=by
 refine codeAny_of_tree ?_
 show wpAny _ _ ((compStart (two elt tg iter tg2 iter2 scope pos) 1 it acc env).onRaise (fun x=>do noteFrame x env;standAt theWindowsPlace)) _ _ s
 refine wpAny_notedAt ?_
 unfold compStart
 show wpAny _ _ (ask>>=_) _ _ s
 refine wpAny_bind (wpAny_askSetting (wpAny_ite ?_))
 split
 ·first
   |exact wpAny_bind (wpAny_pure (wpAny_pure (And.intro rfl h0)))
   |exact wpAny_pure (And.intro rfl h0)
 ·first
   |exact wpAny_bind (wpAny_rule (wpAny_bind (wpAny_standAt (wpAny_bind (wpAny_mono h (fun it' s' h'=>wpAny_pure (And.intro rfl h')) fun _ _ x=>x)))))
   |(refine wpAny_bind (wpAny_rule ?_);show wpAny _ _ (standAt iter2.pos>>=_) _ _ s;exact wpAny_bind (wpAny_standAt (wpAny_bind (wpAny_mono h (fun it' s' h'=>wpAny_pure (And.intro rfl h')) fun _ _ x=>x))))
end
theorem vK{Z:Mu}{p:Addr}{ds:List PyData}(h:Z p=some ds):aA Z p ds=Z:=Mu.eq (fun b=>by
 by_cases e:b=p
 ·rw[e,aD,h]
 ·rw[aQ e]) fun _=>rfl
theorem Hz{X:Cx}{N':List Str}{cl:List (Str×Addr)}{fp0:List Addr}{bi:Shared}{bv:Hp}{elt tg iter tg2 iter2:Expr}{scope:Scope}{pos:Pos}{src2:DTI}{g2:DTG}{te:DTE}
  (hi2:DI (az X N' scope cl fp0 bi bv) tg2 iter2 src2) (hg2:DG (az X N' scope cl fp0 bi bv) tg2 g2) (he:DE (az X N' scope cl fp0 bi bv) elt te)
  {pins:List (Addr×Obj)} {s:Shared} {σ:St} {H:Hp} {ρ:Rho} {Z:Mu} {p:Addr} {acc zs:List PyData} (I:Inv (az X N' scope cl fp0 bi bv) pins σ H s) (S:St0 X.K H ρ Z σ) (hp:Z p=some acc) (hlen:acc.length+zs.length<=1000)
  (q:src2 ρ Z fun ys be=>be=Z/\∃h:PyData->PyData,zs=ys.map h/\∀y∈ys,∀dL:Mu,(∀a ds,a≠p->Z a=some ds->dL a=some ds)->g2 (.v y) ρ dL fun ln ci=>Le ρ ln/\te ln ci fun d io=>io=dL/\d = .v (h y)) :
  wpAny (model X.prog X.w) X.A (eval iter2 (az X N' scope cl fp0 bi bv).env) (fun x s1=>wpAny (model X.prog X.w) X.A (pyIter x) (fun it2 s2=>
   codeAny (model X.prog X.w) X.A (.compStart (two elt tg iter tg2 iter2 scope pos) 1 it2 (.ref p) (az X N' scope cl fp0 bi bv).env) (fun r s3=>∃f,r = .ok f/\∃mt H3,Inv (az X N' scope cl fp0 bi bv) pins mt H3 s3/\St0 X.K H3 ρ (aA Z p (acc++zs)) mt/\Ext X.K Z H (aA Z p (acc++zs)) H3) s2) (fun _ _=>False) s1) (fun _ _=>False) s:=by
 obtain⟨wi,pw,li⟩:=hi2
 refine thn (pw pins s σ H _ I (li σ H ρ Z _ (fun J H1=>∃ys be,Ext X.K Z H be H1/\St0 X.K H1 ρ be σ/\DY X.K J ys be H1/\be=Z/\∃h:PyData->PyData,zs=ys.map h/\∀y∈ys,∀dL:Mu,(∀a ds,a≠p->Z a=some ds->dL a=some ds)->g2 (.v y) ρ dL fun ln ci=>Le ρ ln/\te ln ci fun d io=>io=dL/\d = .v (h y)) S q
  (fun ys be H1 J e1 S1 it q=>⟨ys,be,e1,S1,it,q⟩))) fun v s1 h1=>thn h1 fun itv s2 h2=>?_
 obtain⟨it,fp,tn,J,H2,rfl,I2,T,st2,f2,ys,be,e1,S1,itok,rfl,h,rfl,body⟩:=h2
 have loop:codeAny (model X.prog X.w) X.A (.compLoop (two elt tg iter tg2 iter2 scope pos) 1 (.ref it) (.ref p) (az X N' scope cl fp0 bi bv).env) (fun r s3=>∃f,r = .ok f/\∃mt H3,Inv (az X N' scope cl fp0 bi bv) pins mt H3 s3/\St0 X.K H3 ρ (aA be p (acc++ys.map h)) mt/\Ext X.K be H (aA be p (acc++ys.map h)) H3) s2:=by
  refine zV (fun n s'=>∃(j:Nat) (db:St) (Hc:Hp),n=ys.length-j/\j<=ys.length/\Inv (az X N' scope cl fp0 bi bv) pins db Hc s'/\tn j s'.heap/\(∀b∈fp,Hc b=none) /\
   St0 X.K Hc ρ (aA be p (acc++(ys.take j).map h)) db/\Ext X.K be H2 (aA be p (acc++(ys.take j).map h)) Hc) ?_ ys.length
   ⟨0,σ,H2,by simp,zero_le _,I2,st2,fun b hb=>(f2 b hb).1,?_,?_⟩
  ·rintro n s' ⟨i,db,Hc,rfl,hi,Ic,tc,frc,Sc,Ec⟩
   have stat:∀{Hd:Hp},(∀b∈fp,Hd b=none)->∀b∈fp,mh (az X N' scope cl fp0 bi bv) pins Hd b:=fun hn b hb=>⟨hn b hb,(f2 b hb).2⟩
   obtain⟨go,stop⟩:=itok _ Hc Ec Sc.mu i
   by_cases hlt:i<ys.length
   ·obtain⟨g1,y1⟩:=go hlt
    refine thn (T.item (az X N' scope cl fp0 bi bv) rfl rfl rfl (fun z=>z) i pins s' db Hc (fun _ _=>False) Ic (stat frc) tc g1) fun r s4 hq0=>?_
    obtain⟨u,hr,h4⟩:=hq0
    subst hr
    refine thn h4 fun _ s5 hq0=>?_
    obtain⟨x,H5,I5,r5,y5,st5,fr5⟩:=hq0
    obtain⟨d,hd,sm,rd⟩:=y1 x H5 y5
    have I5':=I5.pinned (stat fr5) (T.obj _ _ st5)
    have e5:Ext X.K _ Hc _ H5:=.of_same (Z:=aA be p (acc++(ys.take i).map h)) sm
    have S5:St0 X.K H5 ρ (aA be p (acc++(ys.take i).map h)) db:=⟨Sc.mu.BM e5 sm,Sc.rho.ext Sc.mu e5⟩
    obtain⟨gt,pg,lg⟩:=hg2
    have hmem:d∈ys:=mem_of_getElem? hd
    have sub:∀a ds,a≠p->be a=some ds->aA be p (acc++(ys.take i).map h) a=some ds:=fun a ds ne e=>by rw[aQ ne];exact e
    refine thn (pg _ s5 db H5 x u (fun bn H'=>∃bm U,Ext X.K (aA be p (acc++(ys.take i).map h)) H5 U H'/\St0 X.K H' bm U bn/\Le ρ bm/\te bm U fun d' io=>io=aA be p (acc++(ys.take i).map h)/\d' = .v (h d)) I5' r5
     (lg db H5 ρ _ (.v d) x _ _ S5 rd (body d hmem _ sub) fun bn bm U H' e' S' q=>⟨bm,U,e',S',q⟩)) fun _ s6 ⟨ga,H6,I6,jp,nw,e6,S6,le6,q6⟩=>?_
    refine thn (he.use I6 S6 q6) fun v s8 hq0=>?_
    obtain⟨d',v8,kw,H8,I8,r8,e8,S8,ry,sn,ed⟩:=hq0
    subst sn;subst ed
    obtain⟨us,hacc,rus⟩:=S8.mu.lst p _ aD
    have hle:(acc++(ys.take i).map h).length<1000:=by
     rw[length_append,length_map,length_take]
     rw[length_map] at hlen
     omega
    refine thn (j3 (X:=az X N' scope cl fp0 bi bv) _ s8 ga H8 (.ref p) [v8] (.ref p) [v] (fun _ H'=>H'=upd H8 p (.lst (us++[v8]))) I8 rfl (.cons r8 .nil) ⟨_,us,v8,rfl,rfl,hacc,by rw[<- rus.length];exact dP (Nat.le_of_lt hle),rfl⟩) fun _ s9 hq0=>?_
    obtain⟨_,H9,I9,_,e9⟩:=hq0
    subst e9
    have et:acc++(ys.take (i+1)).map h=acc++(ys.take i).map h++[h d]:=by
     obtain⟨hi',e⟩:=List.getElem?_eq_some_iff.mp hd
     rw[List.take_succ_eq_append_getElem hi',map_append,e,append_assoc]
     rfl
    have ex:Ext X.K (aA be p (acc++(ys.take i).map h)) H8 (aA (aA be p (acc++(ys.take i).map h)) p (acc++(ys.take i).map h++[h d])) (upd H8 p (.lst (us++[v8]))):=eS aD
    have m9:=S8.mu.set aD (rus.append (.cons ry .nil))
    rw[eN,<- et] at ex m9
    have Ef:=Ec.trans (e5.trans (e6.trans (e8.trans ex)))
    refine⟨ys.length-(i+1),∅,i+1,ga,_,rfl,hlt,I9.dn,T.keep _ _ _ st5 fun b hb o e=>(I9.pin (b,o) (mem_append_right _ (mem_append_right _ (bA hb e)))).1,fun b hb=>?_,⟨m9,(S8.rho.ext S8.mu ex).le le6⟩,Ef⟩
    obtain⟨o,e,_⟩:=T.obj _ _ st5 b hb
    exact (I9.pin (b,o) (mem_append_right _ (mem_append_right _ (bA hb e)))).2.1
   ·have ei:i=ys.length:=by omega
    subst ei
    refine thn (T.done (az X N' scope cl fp0 bi bv) rfl rfl rfl (fun z=>z) _ pins s' db Hc (fun _ _=>False) Ic (stat frc) tc (stop rfl)) fun r s4 hq0=>?_
    obtain⟨hr,I5⟩:=hq0
    subst hr
    rw[take_length] at Sc Ec
    exact⟨_,rfl,db,Hc,I5,Sc,e1.trans Ec⟩
  ·rw[List.take_zero,map_nil,append_nil,vK hp]
   exact S1
  ·rw[List.take_zero,map_nil,append_nil,vK hp]
   exact .refl
 exact vf loop (T.self X.A 0 _ _ _ st2 loop)
noncomputable def AN(cap:List (Option Nat))(src:DTI)(g:DTG)(src2:DTI)(g2:DTG)(te:DTE):DTE:=fun ρ Z Q=>src ρ Z fun xs ad=>xs.length<=1000/\∃f:PyData->List PyData,(xs.flatMap f).length<=1000 /\
   (∀x∈xs,∀U:Mu,(∀a ds,ad a=some ds->U a=some ds)->g (.v x) (aX cap ρ) U fun ce am=>Le (aX cap ρ) ce/\am=U/\src2 ce U fun ys be=>be=U/\∃h:PyData->PyData,f x=ys.map h/\∀y∈ys,∀dL:Mu,(∀a ds,ad a=some ds->dL a=some ds) ->
    g2 (.v y) ce dL fun ln ci=>Le ce ln/\te ln ci fun d io=>io=dL/\d = .v (h y))/\Q (.v (.list (xs.flatMap f))) ad
theorem FP{cap:List (Option Nat)}{src:DTI}{g:DTG}{src2:DTI}{g2:DTG}{te:DTE}{ρ:Rho}{Z:Mu}{Q:DK}:AN cap src g src2 g2 te ρ Z Q=src ρ Z fun xs ad=>xs.length<=1000/\∃f:PyData->List PyData,(xs.flatMap f).length<=1000 /\
   (∀x∈xs,∀U:Mu,(∀a ds,ad a=some ds->U a=some ds)->g (.v x) (aX cap ρ) U fun ce am=>Le (aX cap ρ) ce/\am=U/\src2 ce U fun ys be=>be=U/\∃h:PyData->PyData,f x=ys.map h/\∀y∈ys,∀dL:Mu,(∀a ds,ad a=some ds->dL a=some ds) ->
    g2 (.v y) ce dL fun ln ci=>Le ce ln/\te ln ci fun d io=>io=dL/\d = .v (h y))/\Q (.v (.list (xs.flatMap f))) ad:=rfl
theorem Cc{X:Cx}{N':List Str}{scope:Scope}{cl:List (Str×Addr)}{elt iter tg tg2 iter2:Expr}{pos:Pos}{cap:List (Option Nat)}{src src2:DTI}{g g2:DTG}{te:DTE}(hc:X.calm=X.calm)
  (hi:DI X tg iter src) (hg:∀fp bi bv,DG (az X N' scope cl fp bi bv) tg g) (hi2:∀fp bi bv,DI (az X N' scope cl fp bi bv) tg2 iter2 src2) (hg2:∀fp bi bv,DG (az X N' scope cl fp bi bv) tg2 g2) (he:∀fp bi bv,DE (az X N' scope cl fp bi bv) elt te)
  (hclos:closureFor scope X.env=pure cl) (hcell:∀y∈scope.names,y.2≠.cell) (hkind:scope.kind = .function) (hnames:∀y∈scope.names,y.2 = .local->scope.names.lookup y.1=some .local)
  (hcl:∀x a,cl.lookup x=some a->X.env.cells.lookup x=some a) (hhas:∀x,(relabel scope X.env).names.lookup x=some .cell\/(relabel scope X.env).names.lookup x=some .free->∃a,cl.lookup x=some a)
  (hmono:∀(ρ:Rho) (Z:Mu) (Q Q':List PyData->Mu->Prop),src2 ρ Z Q->(∀ys U,Q ys U->Q' ys U)->src2 ρ Z Q') (hlen:cap.length=N'.length) (hcap:∀(i j:Nat) (x:Str),cap[i]? = some (some j)->N'[i]? = some x->X.N[j]? = some x/\Vis X.env.scope x/\X.env.kindOf x≠some .local/\((relabel scope X.env).names.lookup x=some .cell\/(relabel scope X.env).names.lookup x=some .free))
  (hs:∀x,foldedSetIterable iter X.env x=pure x:=by intro _;rfl) (hs2:∀(env:Env) x,foldedSetIterable iter2 env x=pure x:=by intro _ _;rfl):DE X (two elt tg iter tg2 iter2 scope pos) (AN cap src g src2 g2 te):=by
 refine E8 fun pins s σ H ρ Z Qd Q I S h k=>?_
 obtain⟨wi,pw,li⟩:=hi
 show wpAny _ _ (eval (.ListComp elt [⟨tg,iter,[],0⟩,⟨tg2,iter2,[],0⟩] scope pos) X.env) _ _ _
 rw[eval_ListComp]
 refine wpAny_comprehension_free (use:=none) rfl hs hclos hkind hnames (thn (pw pins s σ H _ I (li σ H ρ Z _ (fun J H1=>∃xs ad,Ext X.K Z H ad H1/\St0 X.K H1 ρ ad σ/\DY X.K J xs ad H1/\xs.length<=1000/\∃f:PyData->List PyData,(xs.flatMap f).length<=1000 /\
   (∀x∈xs,∀U:Mu,(∀a ds,ad a=some ds->U a=some ds)->g (.v x) (aX cap ρ) U fun ce am=>Le (aX cap ρ) ce/\am=U/\src2 ce U fun ys be=>be=U/\∃h:PyData->PyData,f x=ys.map h/\∀y∈ys,∀dL:Mu,(∀a ds,ad a=some ds->dL a=some ds) ->
    g2 (.v y) ce dL fun ln ci=>Le ce ln/\te ln ci fun d io=>io=dL/\d = .v (h y))/\Qd (.v (.list (xs.flatMap f))) ad) S h (fun xs ad H1 J e1 S1 it q=>⟨xs,ad,e1,S1,it,q⟩)))
  fun v s1 h1=>thn h1 fun itv s2 h2=>?_)
 obtain⟨it,fp,tn,J,H2,rfl,I2,T,st2,f2,xs,ad,e1,S1,itok,hxs,f,hfl,body,fin⟩:=h2
 refine wpAny_newObj_type (wpAny_newFunctionEnv hcell (by intro y hy;simp at hy) (fun dl gV gl=>?_) hkind)
 dsimp only at gV gl ⊢
 have hfree2:H2 s2.heap.objs.size=none:=I2.hok.fresh (le_refl _)
 have hK2:X.K.lookup s2.heap.objs.size=none:=by
  cases z:X.K.lookup s2.heap.objs.size with
  |none=>rfl
  |some o=>exact absurd (Heap.lt_size (I2.kIn _ _ z)) (lt_irrefl _)
 have I3:Inv X pins σ (upd H2 s2.heap.objs.size (.lst [])) {s2 with heap:=s2.heap.push {cls:=.type "list",dict:=none,data:=.seq ([]:List Value).toArray}}:=
  I2.laid (t':=s2.toks) (fun b u e=>Heap.get?_push_of_some _ e) (le_refl _) ⟨zero_le _,[],0,.nil,Heap.get?_push_size _ rfl⟩
 generalize hH:s2.heap.push {cls:=.type "list",dict:=none,data:=.seq ([]:List Value).toArray} = hp3 at gV gl I3 ⊢
 have hsz3:hp3.objs.size=s2.heap.objs.size+1:=by rw[<- hH,Heap.size_push]
 have kept3:∀b o,hp3.get? b=some o->dl.get? b=some o:=fun b o e=>gl.extBut b o (ne_of_lt (Heap.lt_size e)) (Heap.get?_push_of_some _ e)
 have old3:∀b o,s2.heap.get? b=some o->hp3.get? b=some o:=fun b o e=>by rw[<- hH];exact Heap.get?_push_of_some _ e
 have fplt:∀b∈fp,b<s2.heap.objs.size:=fun b hb=>by obtain⟨o,e,_⟩:=T.obj 0 _ st2 b hb;exact Heap.lt_size e
 have fpst:∀b∈fp,b ∉ frs X.stack:=fun b hb hz=>by
  rcases List.mem_cons.mp (I2.gO b hz) with e|e
  ·exact (f2 b hb).2.1 e
  ·exact (f2 b hb).2.2.1 e
 obtain⟨s3,hs3⟩:∃s3:Shared,s3={s2 with heap:=hp3}:=⟨_,rfl⟩
 obtain⟨H3,hH3⟩:∃H3:Hp,H3=upd H2 s2.heap.objs.size (.lst []):=⟨_,rfl⟩
 have heap3:s3.heap=hp3:=by rw[hs3]
 rw[<- hH3] at I3
 have I3':Inv X pins σ H3 s3:=by rw[hs3];exact I3
 have hloc:H3 hp3.objs.size=none:=by have:=I3'.hok.fresh (a:=hp3.objs.size) (by rw[heap3];exact le_refl _);exact this
 have okc:(az X N' scope cl fp s3 H3).Ok:=by
  refine⟨I3.ok.mod,?_,I3.ok.glob,I3.ok.blt,le_refl _,fun x y a h1 h2=>I3.ok.inj x y a (hcl x a h1) (hcl y a h2),fun x hx=>hhas x hx,fun x a h=>(nomatch h),I3.ok.hd,I3.ok.qt,I3.ok.frames,.inl rfl,fun b hb=>⟨?_,fun x a h=>(f2 b hb).2.2.2.2.1 x a (hcl x a h)⟩,
   I3'.bs,le_trans I3.ok.bsz I3'.sz,fun b o e hb=>?_,fun b hb=>fpst b hb,I3'.stack,I3'.nI⟩
  ·exact hkind
  ·show b≠s3.heap.objs.size
   rw[heap3,hsz3]
   exact ne_of_lt (lt_succ_of_lt (fplt b hb))
  ·rcases (f2 b hb).2.2.2.1 with z|z
   ·exact I3.ok.A6 b o e z
   ·exact absurd (lt_of_lt_of_le (Heap.lt_size (I3.ok.bs b o e).1) z) (lt_irrefl _)
 have I4:Inv (az X N' scope cl fp s3 H3) [] (aX cap σ) H3 {s2 with heap:=dl,toks:=s2.toks+([]:List (Str×Value)).length}:=by
  refine⟨okc,by show s2.os=s3.os;rw[hs3],I3.bare,Un.kept (by show ∀b o,s3.heap.get? b=some o->_;rw[heap3];exact kept3),⟨_,(by show dl.Ns s3.heap.objs.size _;rw[heap3];exact gV),fun i x v e1 e2 e3=>?_⟩,fun x a h=>?_,(by show H3 s3.heap.objs.size=none;rw[heap3];exact hloc),fun x a h=>I3.jt x a (hcl x a h),fun p hp=>?_,I3.hok.kept kept3,?_⟩
  ·obtain⟨j,h1,h2⟩:=km e2
   obtain⟨hN,hv,hnl,hk⟩:=hcap i j x h1 e1
   obtain⟨m,_,hl⟩:=I3.loc
   obtain⟨u,r,lk⟩:=hl j x v hN h2 hv
   refine⟨u,r,.inr ⟨hk,?_⟩⟩
   obtain⟨a,ha⟩:=hhas x hk
   rcases lk with ⟨z,_⟩|⟨_,a',z1,z2⟩
   ·exact absurd z hnl
   ·have:a'=a:=by have q:=hcl x a ha;rw[z1] at q;exact Option.some.inj q
    subst this
    obtain⟨o,ho,hd⟩:=z2
    exact⟨a',ha,o,kept3 _ _ ho,hd⟩
  ·obtain⟨v,o,ho,hd⟩:=I3.cell x a (hcl x a h)
   exact⟨v,o,kept3 _ _ ho,hd⟩
  ·have hp':p∈X.pn++pins:=mem_append_left _ (by simpa using (show p∈X.pn++[] from hp))
   obtain⟨z1,z2,z3,z4,z5⟩:=I3'.pin p hp'
   refine⟨kept3 _ _ (by rw[<- heap3];exact z1),z2,(show p.1≠s3.heap.objs.size from ne_of_lt (Heap.lt_size z1)),fun z=>?_,z5⟩
   rcases List.mem_cons.mp (I3'.gO p.1 z) with e|e
   ·exact z3 e
   ·exact z4 e
  ·show (aX cap σ).length=N'.length
   unfold aX
   rw[length_map]
   exact hlen
 have ld:ad s2.heap.objs.size=none:=S1.mu.free hfree2
 have sub1:∀ys a ds,ad a=some ds->aA ad s2.heap.objs.size ys a=some ds:=fun ys a ds e=>by
  have:a≠s2.heap.objs.size:=fun z=>by rw[z,ld] at e;cases e
  rw[aQ this];exact e
 have loop:codeAny (model X.prog X.w) X.A (.compLoop (two elt tg iter tg2 iter2 scope pos) 0 (.ref it) (.ref s2.heap.objs.size) (az X N' scope cl fp s3 H3).env)
   (compPost (model X.prog X.w) X.A X.xe none (EP X pins σ Q) (.ref s2.heap.objs.size) hp3.objs.size) {s2 with heap:=dl,toks:=s2.toks+([]:List (Str×Value)).length}:=by
  refine Ae (I:=fun n s'=>∃(i:Nat) (db:St) (Hc:Hp),n=xs.length-i/\i<=xs.length/\Inv (az X N' scope cl fp s3 H3) [] db Hc s'/\tn i s'.heap/\(∀b∈fp,Hc b=none) /\
   St0 X.K Hc (aX cap ρ) (aA ad s2.heap.objs.size ((xs.take i).flatMap f)) db/\Ext X.K ad H2 (aA ad s2.heap.objs.size ((xs.take i).flatMap f)) Hc) (hs2 _) ?_ xs.length
   ⟨0,aX cap σ,H3,by simp,zero_le _,I4,T.keep 0 _ _ st2 (fun b hb o e=>kept3 b o (old3 b o e)),fun b hb=>?_,?_,?_⟩
  ·rintro n s' ⟨i,db,Hc,rfl,hi,Ic,tc,frc,Sc,Ec⟩
   have stat:∀{Hd:Hp},(∀b∈fp,Hd b=none)->∀b∈fp,mh (az X N' scope cl fp s3 H3) [] Hd b:=fun hn b hb=>
    ⟨hn b hb,(okc.exf b hb).1,fpst b hb,.inl hb,fun x a h=>(okc.exf b hb).2 x a h,fun p hp=>(f2 b hb).2.2.2.2.2 p (mem_append_left _ (by simpa using (show p∈X.pn++[] from hp)))⟩
   obtain⟨go,stop⟩:=itok _ Hc Ec Sc.mu i
   by_cases hlt:i<xs.length
   ·obtain⟨g1,y1⟩:=go hlt
    refine thn (T.item (az X N' scope cl fp s3 H3) rfl rfl rfl (fun z=>z) i [] s' db Hc (fun _ _=>False) Ic (stat frc) tc g1) fun r s4 hq0=>?_
    obtain⟨u,hr,h4⟩:=hq0
    subst hr
    refine thn h4 fun _ s5 hq0=>?_
    obtain⟨x,H5,I5,r5,y5,st5,fr5⟩:=hq0
    obtain⟨d,hd,sm,rd⟩:=y1 x H5 y5
    have I5':=I5.pinned (stat fr5) (T.obj _ _ st5)
    have e5:Ext X.K _ Hc _ H5:=.of_same (Z:=aA ad s2.heap.objs.size ((xs.take i).flatMap f)) sm
    have S5:St0 X.K H5 (aX cap ρ) (aA ad s2.heap.objs.size ((xs.take i).flatMap f)) db:=⟨Sc.mu.BM e5 sm,Sc.rho.ext Sc.mu e5⟩
    obtain⟨gt,pg,lg⟩:=hg fp s3 H3
    have hmem:d∈xs:=mem_of_getElem? hd
    refine thn (pg _ s5 db H5 x u (fun bn H'=>∃bm U,Ext X.K (aA ad s2.heap.objs.size ((xs.take i).flatMap f)) H5 U H'/\St0 X.K H' bm U bn/\Le (aX cap ρ) bm/\U=aA ad s2.heap.objs.size ((xs.take i).flatMap f)/\src2 bm (aA ad s2.heap.objs.size ((xs.take i).flatMap f)) fun ys be=>be=aA ad s2.heap.objs.size ((xs.take i).flatMap f)/\∃h:PyData->PyData,f d=ys.map h/\∀y∈ys,∀dL:Mu,(∀a ds,ad a=some ds->dL a=some ds) ->
      g2 (.v y) bm dL fun ln ci=>Le bm ln/\te ln ci fun d io=>io=dL/\d = .v (h y)) I5' r5
     (lg db H5 (aX cap ρ) _ (.v d) x _ _ S5 rd (body d hmem _ (sub1 _)) fun bn bm U H' e' S' q=>⟨bm,U,e',S',q⟩)) fun _ s6 ⟨ga,H6,I6,jp,nw,e6,S6,le6,sn,q6⟩=>?_
    subst sn
    have et:(xs.take (i+1)).flatMap f=(xs.take i).flatMap f++f d:=by
     obtain⟨hi',e⟩:=List.getElem?_eq_some_iff.mp hd
     rw[List.take_succ_eq_append_getElem hi',List.flatMap_append,e]
     simp
    have hl2:((xs.take i).flatMap f).length+(f d).length<=1000:=by
     have h1:((xs.take (i+1)).flatMap f).length<=(xs.flatMap f).length:=by
      have:xs.flatMap f=(xs.take (i+1)).flatMap f++(xs.drop (i+1)).flatMap f:=by rw[<- List.flatMap_append,List.take_append_drop]
      rw[this,length_append]
      omega
     rw[et,length_append] at h1
     omega
    have q7:src2 jp (aA ad s2.heap.objs.size ((xs.take i).flatMap f)) fun ys be=>be=aA ad s2.heap.objs.size ((xs.take i).flatMap f)/\∃h:PyData->PyData,f d=ys.map h/\∀y∈ys,∀dL:Mu,(∀a ds,a≠s2.heap.objs.size->aA ad s2.heap.objs.size ((xs.take i).flatMap f) a=some ds->dL a=some ds) ->
      g2 (.v y) jp dL fun ln ci=>Le jp ln/\te ln ci fun d io=>io=dL/\d = .v (h y):=by
     refine hmono _ _ _ _ q6 fun ys be ⟨z1,h,z2,z3⟩=>⟨z1,h,z2,fun y hy dL sb=>z3 y hy dL fun a ds e=>?_⟩
     have ne:a≠s2.heap.objs.size:=fun z=>by rw[z,ld] at e;cases e
     exact sb a ds ne (by rw[aQ ne];exact e)
    refine thn (Hz (hi2 fp s3 H3) (hg2 fp s3 H3) (he fp s3 H3) I6 S6 aD hl2 q7) fun v7 s7 h7=>thn h7 fun it2 s8 h8=>codeAny_mono h8 fun r s9 ⟨fl,er,wv,H9,I9,S9,E9⟩=>⟨fl,er,?_⟩
    rw[eN,<- et] at S9 E9
    refine⟨xs.length-(i+1),∅,i+1,wv,H9,rfl,hlt,I9.dn,T.keep _ _ _ st5 fun b hb o e=>(I9.pin (b,o) (mem_append_right _ (mem_append_right _ (bA hb e)))).1,fun b hb=>?_,⟨S9.mu,S9.rho.le le6⟩,Ec.trans (e5.trans (e6.trans E9))⟩
    obtain⟨o,e,_⟩:=T.obj _ _ st5 b hb
    exact (I9.pin (b,o) (mem_append_right _ (mem_append_right _ (bA hb e)))).2.1
   ·have ei:i=xs.length:=by omega
    subst ei
    refine thn (T.done (az X N' scope cl fp s3 H3) rfl rfl rfl (fun z=>z) _ [] s' db Hc (fun _ _=>False) Ic (stat frc) tc (stop rfl)) fun r s4 hq0=>?_
    obtain⟨hr,I5⟩:=hq0
    subst hr
    rw[take_length] at Sc Ec
    obtain⟨m,hn,_⟩:=I5.loc
    refine⟨m,(by have z:s4.heap.Ns s3.heap.objs.size m:=hn;rw[heap3] at z;exact z),fun h' hs'=>?_⟩
    have kp:∀b o,b<s2.heap.objs.size->s4.heap.get? b=some o->h'.get? b=some o:=fun b o hb e=>hs'.extBut b o (by rw[hsz3];exact ne_of_lt (lt_succ_of_lt hb)) e
    have hcC:Hc hp3.objs.size=none:=by have z:Hc s3.heap.objs.size=none:=I5.free;rw[heap3] at z;exact z
    have hok':HOk X.prog X.w Hc h':=fun b ob e=>by
     refine (I5.hok b ob e).pM (fun cc v hcc q=>hs'.extBut cc v ?_ q) (fun _ q=>q) fun _ _ q=>q
     rintro rfl
     rcases hcc with z|z
     ·rw[<- z,hcC] at e;cases e
     ·rw[hcC] at z;cases z
    have u1:Un (frs X.stack) fp H2 H3 s2.heap s3.heap:=by rw[heap3,hH3];exact Un.laid old3 (le_refl _) hfree2
    have u2:Un (frs X.stack) fp H3 Hc s3.heap s4.heap:=I5.base
    have If:Inv X pins σ Hc {s4 with heap:=h'}:=I2.uJ (ch:=fp) (by show s4.os=s2.os;have z:s4.os=s3.os:=I5.os;rw[z,hs3]) (Un.after (u1.trans u2) kp) hok' I5.bare fun b hb=>⟨(f2 b hb).2.2.2.1,(f2 b hb).2.1,(f2 b hb).2.2.2.2.1,(f2 b hb).2.2.2.2.2⟩
    obtain⟨us,hacc,rus⟩:=Sc.mu s2.heap.objs.size _ aD
    have shr:∀a,aA ad s2.heap.objs.size (xs.flatMap f) a=none->ad a=none:=fun a e=>by
     by_cases ha:a=s2.heap.objs.size
     ·rw[ha];exact ld
     ·rw[aQ ha] at e;exact e
    have eF:Ext X.K ad H2 ad Hc:=⟨Ec.keep,Ec.tb,fun _ ds q=>⟨ds,q⟩,fun _ q _=>q,Ec.st,fun _ c q=>⟨c,q⟩⟩
    have mF:bD X.K ad Hc:=⟨fun a ds q=>by
     obtain⟨ys,z1,z2⟩:=Sc.mu a ds (sub1 _ a ds q)
     exact⟨ys,z1,z2.shrink shr⟩,Sc.mu.tab,fun a c q=>let ⟨z,o,w1,w2⟩:=Sc.mu.box a c q;⟨z,o,w1,w2.shrink shr⟩⟩
    exact⟨.ref s2.heap.objs.size,Hc,If,rfl,k (.v (.list (xs.flatMap f))) _ ad Hc (e1.trans eF) ⟨mF,S1.rho.ext S1.mu eF⟩ (Rp.list hacc ld (rus.shrink shr)) fin⟩
  ·have z:b≠s2.heap.objs.size:=ne_of_lt (fplt b hb)
   rw[hH3,aR z]
   exact (f2 b hb).1
  ·have ex:=d5 (o:=.lst []) (ds:=[]) S1.mu hfree2 hK2
   rw[hH3]
   exact⟨S1.mu.mut .nil hfree2 hK2,(S1.rho.ext S1.mu ex).cap⟩
  ·rw[hH3]
   exact d5 (o:=.lst []) (ds:=[]) S1.mu hfree2 hK2
 have envE:(az X N' scope cl fp s3 H3).env=compEnvC scope cl hp3.objs.size X.env:=by show compEnvC scope cl s3.heap.objs.size X.env=_;rw[heap3]
 rw[envE] at loop
 exact codeAny_compStart_list loop (T.self X.A 0 _ _ _ (T.keep 0 _ _ st2 (fun b hb o e=>kept3 b o (old3 b o e))) loop)
theorem BN{i:Nat}{ρ:Rho}{Z:Mu}{Q Q':DK}(h:ai i ρ Z Q)(k:∀d U,Q d U->Q' d U):ai i ρ Z Q':=by
 unfold ai at h ⊢
 split at h
 ·exact k _ _ h
 ·exact h.elim
theorem ym{i j:Nat}(ρ:Rho)(Z:Mu)(Q Q':List PyData->Mu->Prop)(h:qX (bq (ag (ai i) (ag (ai j) ar))) ρ Z Q)(k:∀ys U,Q ys U->Q' ys U):qX (bq (ag (ai i) (ag (ai j) ar))) ρ Z Q':=by
 unfold qX bq ag at h ⊢
 refine BN h fun x ad h=>BN h fun y am h=>?_
 dsimp only[ar] at h ⊢
 split at h
 ·exact k _ _ h
 ·exact h.elim
section
variable {prog:Program}{w:World}{A:Around}{E:Value->Shared->Prop}{s:Shared}
abbrev et2(h:Heap)(l:Addr):Heap:=(zt1 h l).push {cls:=.type "enumerate",data:=.fields #[.none,.bool false,.ref h.objs.size,rawInt 0,.none,.none]}
theorem CC(l:Addr)(xs:Array Value):Meets (Builtin.«enumerate.__new__» ⟨[.type "enumerate",.ref l],[]⟩) (fun _ R s=>IsTup s.heap l xs/\R (.ok (.ret (.ref (zt1 s.heap l).objs.size))) {s with heap:=et2 s.heap l}):=
 .of_wp fun prog w A R s h=>by
  obtain⟨hp,g,d,tk,os⟩:=s
  obtain⟨t1,h⟩:=h
  have T1:IsTup (Shared.heap ⟨hp,g,d,tk,os⟩) l xs:=t1
  have hsub:=sub_enumerate
  wp_walk using iter_tuple T1
  refine wpAny_stack fun st=>?_
  intro _ _ _
  refine wpAny_pure ?_
  split
  ·rename_i c _ _ _ _ _
   cases c==Value.type "enumerate"
   ·refine wpAny_bind (wpAny_of_eq (a:=(Value.ref l,none)) (by first|rfl|simp) ?_)
    wp_walk using iter_tuple T1
    exact⟨_,rfl,h⟩
   ·refine wpAny_bind (wpAny_of_eq (a:=(Value.ref l,none)) (by first|rfl|simp) ?_)
    wp_walk using iter_tuple T1
    exact⟨_,rfl,h⟩
  ·refine wpAny_bind (wpAny_of_eq (a:=(Value.ref l,none)) (by first|rfl|simp) ?_)
   wp_walk using iter_tuple T1
   exact⟨_,rfl,h⟩
theorem D9{l:Addr}{xs:Array Value}{Q:Value->Shared->Prop}(t1:IsTup s.heap l xs)
  (k:∀h',IsEnum h' (s.heap.objs.size+1) s.heap.objs.size 0 .none->IsTupIter h' s.heap.objs.size l 0->(∀c o,s.heap.get? c=some o->h'.get? c=some o)->Q (.ref (s.heap.objs.size+1)) {s with heap:=h'}) :
  wpAny (model prog w) A (call (.type "enumerate") [.ref l]) Q E s:=by
 refine callType_new F.called_enumerate ⋯ (F.typeCall_enumerate_1 _) (F.newCall_enumerate_1 _) (fun obj=>F.args_object_init_2 obj _) F.entry_enumerate_new (CC l xs) ⟨t1,?_⟩
 have e1:(zt1 s.heap l).objs.size=s.heap.objs.size+1:=Heap.size_push ..
 have g2:(et2 s.heap l).get? (zt1 s.heap l).objs.size=some _:=Heap.get?_push_size _ rfl
 have g1:(et2 s.heap l).get? s.heap.objs.size=some _:=Heap.get?_push_of_some _ (Heap.get?_push_size _ rfl)
 show _/\_
 rw[e1] at g2
 rw[e1]
 exact⟨⟨_,g2,rfl⟩,k _ g2 ⟨_,g1,rfl,rfl⟩ fun c o x=>Heap.get?_push_of_some _ (Heap.get?_push_of_some _ x)⟩
end
theorem HM{prog:Program}{w:World}{A:Around}{it t:Addr}{items:Array Value}(hh:A.handled=none)(hne:it≠t) :
  Draws prog w A it [it,t] items.size (fun i x=>items[i]? = some x) (fun i h=>IsTupIter h it t i/\IsTup h t items) where
 live:=fun i h st=>by obtain⟨⟨o,ho,_⟩,_⟩:=st;exact⟨o,ho⟩
 frame:=fun i h h' st k=>⟨pU st.1 fun o e=>k it (by simp) o e,let ⟨o,ho,r⟩:=st.2;⟨o,k t (by simp) o ho,r⟩⟩
 item:=fun i s Q E hi st k=>by
  have hx:items[i]? = some items[i]:=by simp[hi]
  refine D2 st.1 st.2 hx fun h' b1 b2=>?_
  have:=k items[i] h' s.toks hx ⟨b1,let ⟨o,ho,r⟩:=st.2;⟨o,b2.extBut _ _ hne.symm ho,r⟩⟩ b2
  exact this
 done:=fun s Q E st k=>sM hh st.1 st.2 (by simp) fun h' e b1 b2=>k h' e b1 b2
theorem Hf{prog:Program}{w:World}{A:Around}{it t:Addr}{items:Array Value}{n:Nat}(hh:A.handled=none)(hn:items.size<=n) :
  Draws prog w A it [it,t] n (fun _ _=>True) (fun i h=>i=n/\IsTupIter h it t n/\IsTup h t items) where
 live:=fun i h st=>by obtain⟨_,⟨o,ho,_⟩,_⟩:=st;exact⟨o,ho⟩
 frame:=fun i h h' st k=>⟨st.1,pU st.2.1 fun o e=>k it (by simp) o e,let ⟨o,ho,r⟩:=st.2.2;⟨o,k t (by simp) o ho,r⟩⟩
 item:=fun i s Q E hi st k=>absurd st.1 (ne_of_lt hi)
 done:=fun s Q E st k=>sM hh st.2.1 st.2.2 (by simp;omega) fun h' e b1 b2=>k h' e b1 b2
def Px(K:PySem.W.Frag)(l:Addr):It:=
 ⟨fun i H=>∃xs x,SqT K H l xs/\xs[i]? = some x,
  fun i H v H'=>∃p x,v = .ref p/\H p=none/\H'=upd H p (.tup [.int i,x])/\(∀xs,SqT K H l xs->xs[i]? = some x),
  fun i H=>∃xs,SqT K H l xs/\xs.length<=i⟩
noncomputable def LH(e it l:Addr)(i:Nat)(h:Heap):Prop:=(∃old,IsEnum h e it i old)/\IsTupIter h it l i
theorem Hw{h:Heap}{it l:Addr}{i:Nat}{xs:Array Value}(a:IsTupIter h it l i)(b:IsTup h l xs):it≠l:=fun e=>by
 obtain⟨o,ho,hc,hd⟩:=a
 obtain⟨o',ho',hc',n,hd'⟩:=b
 rw[e,ho'] at ho
 cases ho
 rw[hd'] at hd
 cases hd
theorem EC{h:Heap}{e it l:Addr}{i:Int}{old:Value}{xs:Array Value}(a:IsEnum h e it i old)(b:IsTup h l xs):e≠l:=fun z=>by
 obtain⟨o',ho',hc',n,hd'⟩:=b
 rw[<- z,a] at ho'
 cases ho'
 cases hd'
theorem DM{P:Program}{w:World}{K:PySem.W.Frag}{es:List Expr}{x1:Nat}{pos:Pos}(e it l:Addr)(hei:e≠it) :
  Turn true P w K (.Tuple es x1 pos) (Px K l) [e,it] e (LH e it l) where
 mem:=by simp
 obj:=fun i h st b hb=>by
  obtain⟨⟨old,a1⟩,⟨o4,a4,c4,d4⟩⟩:=st
  simp only[mem_cons,not_mem_nil,or_false] at hb
  rcases hb with rfl|rfl
  ·exact⟨_,a1,fun v z=>by cases z⟩
  ·exact⟨_,a4,fun v z=>by rw[d4] at z;cases z⟩
 keep:=fun i h h' st k=>by
  obtain⟨⟨old,a1⟩,a4⟩:=st
  exact⟨⟨old,k e (by simp) _ a1⟩,pU a4 fun o e=>k it (by simp) o e⟩
 item:=by
  intro X hP hw hK hc i pins s σ H E I hf st hg
  subst hP hw hK
  obtain⟨xs,x,hq1,hx⟩:=hg
  obtain⟨its1,rv1,p1,_⟩:=I.tuple hq1
  obtain⟨u,hu,ru⟩:=rv1.get hx
  obtain⟨⟨old,a1⟩,a4⟩:=id st
  have ap:=Hw a4 p1
  have ep:=EC a1 p1
  have hu':its1.toArray[i]? = some u:=by simpa using hu
  have hi:i<its1.toArray.size:=by
   rcases lt_or_ge i its1.toArray.size with z|z
   ·exact z
   ·rw[Array.getElem?_eq_none z] at hu';cases hu'
  refine wpAny_pyNext_enum_itemD (HM (I.ok.hd (hc rfl)) ap) a1 ⟨a4,p1⟩ hi hei (by simp;exact⟨hei,ep⟩) fun u' h' tk b0 b1 b2 b3 b4 b5=>?_
  rw[hu'] at b0
  cases b0
  refine⟨.ref s.heap.objs.size,rfl,wpAny_letOwnedTupleGo_enum (s:={s with heap:=h',toks:=tk+1}) b1 fun h2 c1 sb=>?_⟩
  have hne:s.heap.objs.size≠e:=Nat.ne_of_gt (Heap.lt_size a1)
  have hT:h2.get? s.heap.objs.size=some {cls:=.type "tuple",data:=.seq #[.int i tk,u]}:=sb.extBut _ _ hne b3
  refine⟨.ref s.heap.objs.size,upd H s.heap.objs.size (.tup [.int i,x]),?_,rfl,⟨s.heap.objs.size,x,rfl,I.hok.fresh (le_refl _),rfl,fun zs hz=>by rw[I.yv hz hq1];exact hx⟩,?_,fun b hb=>?_⟩
  ·refine Inv.we (s:=s) (h':=h2) (t':=tk+1) (ch:=[e,it]) I hf (fun b o hb e=>?_) (le_refl _) ⟨by show 2<=sizeLine;decide,[.int i tk,u],.cons ⟨_,rfl⟩ (.cons ru .nil),_,hT,rfl,0,rfl⟩
   simp only[mem_cons,not_mem_nil,or_false,not_or] at hb
   exact sb.extBut _ _ hb.1 (b5 b o hb.1 hb.2 e)
  ·exact⟨⟨_,by simpa using c1⟩,pU b2.1 fun o e=>sb.extBut _ o (Ne.symm hei) e⟩
  ·have hb':b<s.heap.objs.size:=by
    simp only[mem_cons,not_mem_nil,or_false] at hb
    obtain⟨o4,e4,_⟩:=a4
    rcases hb with rfl|rfl
    ·exact Heap.lt_size a1
    ·exact Heap.lt_size e4
   rw[aR (ne_of_lt hb')]
   exact (hf b hb).1
 done:=by
  intro X hP hw hK hc i pins s σ H E I hf st hg
  subst hP hw hK
  obtain⟨xs,hq1,hx⟩:=hg
  obtain⟨its1,rv1,p1,_⟩:=I.tuple hq1
  obtain⟨⟨old,a1⟩,a4⟩:=id st
  have hl1:=rv1.length
  have hn:its1.toArray.size<=i:=by simp;omega
  refine wpAny_pyNext_enum_endD (Hf (I.ok.hd (hc rfl)) hn) a1 ⟨rfl,a4,p1⟩ fun h' b7=>⟨rfl,?_⟩
  refine Inv.Ff (t':=s.toks) (ch:=[e,it]) I hf fun b o hb e=>?_
  simp only[mem_cons,not_mem_nil,or_false,not_or] at hb
  exact b7 b o hb.2 e
 self:=fun _ _ _ _ _ st h=>by
  obtain⟨⟨old,a1⟩,_⟩:=st
  exact wpAny_pyIter_enum a1 h
section
variable {X:Cx}{es:List Expr}{x1:Nat}{tpos:Pos}
noncomputable def MS(K:PySem.W.Frag)(ta:TA):TI:=fun σ H R=>ta σ H fun vs H1=>∃l,vs=[.ref l]/\(∃xs,SqT K H1 l xs)/\R (Px K l) H1
theorem JT{a:Expr}{ta:TA}{p pos:Pos}(hc:X.calm=true)(hg:Gl X "enumerate")(hm:X.mg "enumerate"=none)(ha:PA X [a] ta)(hs:starEach [a] X.env=[(false,eval a X.env)]:=by rfl) :
  PI X (.Tuple es x1 tpos) (.Call (.Name "enumerate" p) [a] [] pos) (MS X.K ta):=by
 intro pins s σ H R I h
 refine Call_ (nj I hg hm PyProof.Rows.Boot.«enumerate» (PyProof.Rows.callWith_type1 (thn (ha pos pins s σ H _ I h) fun us s1 hq0=>?_) (by rw[hs];rfl) (by rfl)))
 obtain⟨vs,H1,I1,r1,q1⟩:=hq0
 obtain⟨l1,e,⟨xs,hq1⟩,q⟩:=q1
 subst e
 cases r1 with
 |cons r rr=>
  cases rr
  cases r
  obtain⟨its1,rv1,p1,_⟩:=I1.tuple hq1
  refine D9 p1 fun h' hz hi1 hk=>?_
  refine wpAny_pyIter_enum (s:={s1 with heap:=h'}) hz ?_
  refine⟨s1.heap.objs.size+1,[s1.heap.objs.size+1,s1.heap.objs.size],_,_,H1,rfl,I1.kept (t':=s1.toks) hk,(DM _ _ l1 (Nat.succ_ne_self _)).calm hc,⟨⟨_,hz⟩,hi1⟩,fun b hb=>?_,q⟩
  have hb':s1.heap.objs.size<=b:=by
   simp only[mem_cons,not_mem_nil,or_false] at hb
   rcases hb with rfl|rfl
   ·exact Nat.le_add_right _ 1
   ·exact le_refl _
  exact I1.BZ hb' (I1.hok.fresh hb')
noncomputable def uw(t:DTA):DTI:=fun ρ Z Q=>t ρ Z fun ds ad=>match ds with
 |[.v (.tuple xs)]=>Q (fF 0 xs) ad
 |_=>False
theorem Cj{a:Expr}{t:DTA}{p pos:Pos}(hg:Gl X "enumerate")(hm:X.mg "enumerate"=none)(ha:DA X [a] t)(hs:starEach [a] X.env=[(false,eval a X.env)]:=by rfl)(hc:X.calm=true:=by rfl) :
  DI X (.Tuple es x1 tpos) (.Call (.Name "enumerate" p) [a] [] pos) (uw t):=by
 obtain⟨t1,p1,l1⟩:=ha
 refine⟨_,JT hc hg hm p1 hs,fun σ H ρ Z Qd R S h k=>?_⟩
 refine l1 σ H ρ Z _ _ S h fun ds us ad H1 e1 S1 rs len h1=>?_
 split at h1
 ·rename_i xs
  cases rs with
  |cons r1 r2=>
   cases r2
   cases r1 with
   |@tuple a us _ ha ra=>
    refine⟨a,rfl,⟨us,ha⟩,k (fF 0 xs) ad H1 _ e1 S1 (fun am H2 e2 ok2 i=>⟨fun hi=>?_,fun hi=>?_⟩) h1⟩
    ·rw[j9] at hi
     have ha2:=iw S1.mu e2 ha
     have i1:i<us.length:=by rw[<- ra.length];omega
     refine⟨⟨us,us[i],ha2,by simp[i1]⟩,?_⟩
     rintro v H' ⟨p,x,rfl,hp,rfl,hx⟩
     obtain⟨u',h1',h2'⟩:=ra.get (i:=i) (d:=xs[i]'∅) (by simp)
     have z1:=hx us ha2
     rw[h1'] at z1
     cases z1
     have eg:=nL (xs:=xs) (j:=0) (i:=i) (x:=xs[i]'∅) (by simp)
     rw[zero_add] at eg
     refine⟨.tuple [.int i,xs[i]'∅],eg,vX hp,?_⟩
     exact eo ok2 (.cons (Rp.int _) (.cons (h2'.ext S1.mu e2) .nil)) hp
    ·rw[j9] at hi
     have l1:=ra.length
     exact⟨us,iw S1.mu e2 ha,∅⟩
 ·exact h1.elim
theorem HE{t:DTA}{ρ:Rho}{Z:Mu}{Q:List PyData->Mu->Prop}:uw t ρ Z Q=t ρ Z fun ds ad=>match ds with|[.v (.tuple xs)]=>Q (fF 0 xs) ad|_=>False:=propext Iff.rfl
end
theorem Pc{X:Cx}{tg e:Expr}{src:DTI}(h:DI X tg e src):DIW X tg e src:=by
 obtain⟨wi,p,l⟩:=h
 exact⟨wi,p,fun σ H ρ Z Qd R S s k=>l σ H ρ Z Qd R S s fun xs ad H1 J e st ok q=>k xs ad H1 J e st (fun am H2 e2 m2 _=>ok am H2 e2 m2) q⟩
open PySem PySem.Spec PyProof.Rows NM
section
variable {Z:Mu}{Q:DK}{ds:List D}{x y:N3}
theorem J0(a b c:Int):PyData.tuple [.int a,.int b,.int c]=dN ⟨a,b,c⟩:=rfl
theorem DD:aN (.v (dN x)) (.v (.int 0)) Z Q=Q (.v (.int x.a)) Z:=by unfold dN;rw[vN]
theorem D4:aN (.v (dN x)) (.v (.int 1)) Z Q=Q (.v (.int x.b)) Z:=by unfold dN;rw[uP]
theorem EK:aN (.v (dN x)) (.v (.int 2)) Z Q=Q (.v (.int x.c)) Z:=by unfold dN;rw[vT]
theorem eqN:PyData.eqv (dN x) (dN y)=decide (x=y):=by
 unfold dN
 rw[P0,Bool.eq_iff_iff]
 simp only[decide_eq_true_eq]
 exact⟨fun h=>N3.ext' h.1 h.2.1 h.2.2,fun h=>by subst h;exact⟨rfl,rfl,rfl⟩⟩
theorem By{neg:Bool}:d8 neg (.v (dN x)) (.v (dN y)) Z Q=Q (.v (.bool (neg ^^ decide (x=y)))) Z:=by
 rw[Mh,eqN]
 exact propext ⟨fun h=>h.2.2,fun h=>⟨rfl,rfl,h⟩⟩
theorem mi(h:Ok x):isNum (dN x)=true:=by
 have:=h.c
 show (decide (1<=x.c)&&(g3 x.a x.b x.c==1))=true
 rw[h.g]
 simp;omega
theorem IX:Few (dN x):=by simp[dN,Few]
theorem IC{d a b c:Int}(h:aL d)(hc:0<c):sg d (low a b c).a (low a b c).b=sg d a b:=by
 obtain⟨k,hk,hs,p1,p2,p3,_⟩:=kj a b (show c≠0 by omega)
 have e:=mj (a:=(low a b c).a) (b:=(low a b c).b) h (hs.mpr hc)
 rw[<- p1,<- p2] at e
 exact e.symm
theorem Bl{d:Int}(h:aL d)(ox:Ok x)(oy:Ok y):sg d (less x y).a (less x y).b=dif d x y:=by
 unfold less dif
 rw[IC h (Int.mul_pos ox.c oy.c)]
theorem uU{lo:Int}{n i:Nat}{x:PyData}(h:(mX lo n)[i]? = some x):x = .int (lo+i)/\i<n:=by
 unfold mX at h
 rw[getElem?_map] at h
 by_cases hi:i<n
 ·rw[List.getElem?_range hi] at h
  cases h
  exact⟨rfl,hi⟩
 ·rw[getElem?_eq_none (by simpa using hi)] at h
  cases h
theorem o5{lo:Int}{n:Nat}:(mX lo n).length=n:=by unfold mX;simp
end
end L2.DL
namespace NM
abbrev T3:=Nat×Nat×Nat
def K4(β:Bool)(c i j s:Nat):List T3:=(List.range c).map fun k=>if β=true then (i+k*s,j,s) else (i,j+k*s,s)
def Ku:List Nat->Bool->Nat->Nat->Nat->Nat->List T3
 |[],_,_,_,_,_=>[]
 |c::cs,true,i,j,a,b=>K4 true c i j b++Ku cs false (i+c*b) j (a-c*b) b
 |c::cs,false,i,j,a,b=>K4 false c i j a++Ku cs true i (j+c*a) a (b-c*a)
theorem Fe{β:Bool}{c i j s:Nat}:(K4 β c i j s).length=c:=by unfold K4;simp
theorem nU:∀(cs:List Nat) (β:Bool) (i j a b:Nat),(Ku cs β i j a b).length=cs.sum
 |[],_,_,_,_,_=>rfl
 |c::cs,true,i,j,a,b=>by rw[Ku];rw[length_append,Fe,nU cs,List.sum_cons]
 |c::cs,false,i,j,a,b=>by rw[Ku];rw[length_append,Fe,nU cs,List.sum_cons]
end NM
namespace L2.DL
open PySem PySem.Spec PyProof.Rows NM
structure Tg{α:Sort u}(x:α):Type where
def hd{α:Sort u}(x:α)(_:Tg x):α:=x
section
variable {ρ:Rho}{Z:Mu}{Q:DK}{QT:Bool->Mu->Prop}{Dd:BI}{ta tb tc:DTE}{t u:DTT}{tA:DTA}{s1 s2:DTS}{d:D}{A B:Prop}{p:Tg A}{q:Tg B}
theorem Pm{w:Tg Q}:hd Q w d Z=Q d Z:=propext Iff.rfl
theorem l_T{i:Decidable True}:(if True then hd A p else hd B q)=A:=if_pos trivial
theorem l_F{i:Decidable False}:(if False then hd A p else hd B q)=B:=if_neg id
theorem l_t{i:Decidable (true=true)}:(if true=true then hd A p else hd B q)=A:=if_pos rfl
theorem l_f{i:Decidable (false=true)}:(if false=true then hd A p else hd B q)=B:=if_neg Bool.false_ne_true
theorem dY{c:Prop}{i:Decidable c}(h:c):(if c then hd A p else hd B q)=A:=if_pos h
theorem dj{c:Prop}{i:Decidable c}(h:¬ c):(if c then hd A p else hd B q)=B:=if_neg h
theorem Pu{i j:Int}{k:Decidable True}:(if True then i else j)=i:=if_pos trivial
theorem Pf{i j:Int}{k:Decidable False}:(if False then i else j)=j:=if_neg id
theorem Pp{r}:dOp r ta tb ρ Z Q=ta ρ Z fun x ad=>tb ρ ad fun y am=>r x y am (hd Q .mk):=propext Iff.rfl
theorem Mf{g:DTG}:bc ta g Dd ρ Z=ta ρ Z (hd (fun d ad=>g d ρ ad Dd.nx) .mk):=propext Iff.rfl
theorem OE{rd}:dCB rd tA ρ Z Q=tA ρ Z fun ds ad=>rd ds ad (hd Q .mk):=propext Iff.rfl
theorem IA{dsp:DSp}:ay dsp tA ρ Z Q=tA ρ Z fun ds ad=>dsp ds ad (hd Q .mk):=propext Iff.rfl
theorem IW:uO t u ρ Z QT=t ρ Z fun c ad=>if c=true then hd (u ρ ad QT) .mk else hd (QT false ad) .mk:=propext Iff.rfl
theorem Mn:kQ t u ρ Z QT=t ρ Z fun c ad=>if c=true then hd (QT true ad) .mk else hd (u ρ ad QT) .mk:=propext Iff.rfl
theorem Ir:mS ta tb ρ Z Q=ta ρ Z fun x ad=>match x with|.v (.bool c)=>if c=true then hd (tb ρ ad Q) .mk else hd (Q (.v (.bool false)) ad) .mk|_=>False:=propext Iff.rfl
theorem Mx:JG ta tb ρ Z Q=ta ρ Z fun x ad=>match x with|.v (.bool c)=>if c=true then hd (Q (.v (.bool true)) ad) .mk else hd (tb ρ ad Q) .mk|_=>False:=propext Iff.rfl
theorem OW:dIf t ta tb ρ Z Q=t ρ Z fun c ad=>if c=true then hd (ta ρ ad Q) .mk else hd (tb ρ ad Q) .mk:=propext Iff.rfl
theorem Mr:cV t s1 s2 Dd ρ Z=t ρ Z fun b ad=>if b=true then hd (s1 Dd ρ ad) .mk else hd (s2 Dd ρ ad) .mk:=propext Iff.rfl
end
local macro_rules|`(tactic| walk_at "rn")=>mkW "↓AJ ↓AD ↓AR ↓yY ↓Bh ↓Ai ↓Ax ↓AE ↓A4 ↓AO ↓uo ↓q_c ↓O7 ↓q_B ↓Lg ↓Gy ↓Fw ↓IS ↓Mc ↓Bq ↓Jx ↓AW ↓O2 ↓FY ↓ze ↓E1 ↓Fg ↓A5 ↓Fd ↓Gs ↓Ge ↓Fz ↓yR ↓zw ↓A3 ↓vN ↓uP ↓vT ↓Bs ↓vD ↓sG ↓GH ↓Gz ↓FE ↓Bj ↓Gn ↓OF ↓Al ↓zA ↓A0 ↓AZ ↓GB ↓KH ↓Ak ↓FF ↓Ga ↓uc ↓AI ↓uu ↓zd ↓AS ↓Mo ↓FC ↓A8 ↓FK ↓GG ↓zL ↓Md ↓ub ↓Jk ↓E6 ↓Gw ↓yL ↓qe ↓ue ↓qH ↓p6 ↓pN ↓pL ↓Fl JB ↓Au ↓kX AX AH E2 Gf Gu bind_none bind_some join_some List.getElem?_cons_zero List.getElem?_cons_succ aP J0 DD D4 EK By n5 wb uF yx Cw List.map List.append List.replicate length_cons length_nil Nat.reduceAdd Nat.reduceSub nil_append cons_append List.set_cons_zero List.set_cons_succ map_some ↓reduceIte Bool.not_true Bool.not_false false_eq_true Bool.true_eq_false xor_false false_xor"
theorem B0{d:Int}{x y:N3}:dif d x y=KS d x y:=rfl
def cW(d:Int):PyData->Bool
 |.tuple [.int a,.int b,.int c]=>isNum (.tuple [.int a,.int b,.int c])&&decide (sg d a b=1)
 |_=>false
noncomputable def iQ:DSp:=fun ds Z Q=>∃(d:Int) (t:PyData),ds=[.v (.int d),.v t]/\aL d/\Few t/\(∀x,t=dN x->Bd 8900 x)/\Q (.v (.bool (cW d t))) Z
theorem zQ{Z:Mu}{Q:DK}{ds:List D}(h:iQ ds Z Q):ds.length=2:=by obtain⟨_,_,rfl,_⟩:=h;rfl
noncomputable def iD(a:Addr)(Z U:Mu):Prop:=Bag U a/\∀b,b≠a->∀ds,Z b=some ds->U b=some ds
noncomputable def d9:DTS:=
 (bp (mS (ay mJ (ag (ai 1) ar)) (dOp (d8 false) (ay jD (ag (ai 0) (ag (ai 1) ar))) (dC (.int 1)))))
section
variable {Z:Mu}{Qd:DK}{ds:List D}
theorem j0{d:Int}{x:N3}(ox:Ok x):cW d (dN x)=decide (sg d x.a x.b=1):=by
 show (isNum (dN x)&&decide (sg d x.a x.b=1))=_
 rw[mi ox,Bool.true_and]
theorem vz{d:Int}{t:PyData}(h:isNum t=false):cW d t=false:=by
 unfold cW
 split
 ·rw[h,Bool.false_and]
 ·rfl
theorem fR{t:PyData}(h:isNum t=true):∃x:N3,t=dN x/\Ok x:=by
 unfold isNum at h
 split at h
 ·rename_i a b c
  simp only[and_eq_true,decide_eq_true_eq,beq_iff_eq] at h
  exact⟨⟨a,b,c⟩,rfl,by show 0<c;omega,h.2⟩
 ·cases h
theorem o9(h:iQ ds Z Qd):d9 ‹Qd› (aP ["",""] ds) Z:=by
 obtain⟨d,t,rfl,hd,ft,bt,q⟩:=h
 unfold d9
 walk_at "rn"
 refine⟨t,rfl,ft,?_⟩
 walk_at "rn"
 cases e:isNum t with
 |true=>
  walk_at "rn"
  obtain⟨x,rfl,ox⟩:=fR e
  refine⟨d,x,rfl,hd,bt x rfl,?_⟩
  walk_at "rn"
  rw[j0 ox] at q
  exact q
 |false=>
  walk_at "rn"
  rw[vz e] at q
  exact q
theorem oV{x y:N3}(e:dN x=dN y):x=y:=by
 simp only[dN,PyData.tuple.injEq,List.cons.injEq,PyData.int.injEq,and_true] at e
 exact N3.ext' e.1 e.2.1 e.2.2
theorem iD.trans{a:Addr}{Z ad am:Mu}(h:iD a Z ad)(g:iD a ad am):iD a Z am:=⟨g.1,fun b n ds e=>g.2 b n ds (h.2 b n ds e)⟩
theorem Step.w{a:Addr}{Z U:Mu}(h:Step a Z U):iD a Z U:=⟨h.1,fun b n ds e=>by rw[h.2 b n];exact e⟩
end
noncomputable def dm(d:Int)(ms:List N3):Prop:=ms.Pairwise fun a b=>dif d b a=1
noncomputable def qT:DSp:=fun ds Z Q=>∃(d:Int) (p:Addr) (ms:List N3) (x:N3),ds=[.v (.int d),.m p,.v (dN x)]/\aL d/\Z p=some (ms.map dN)/\(∀m∈ms,Ok m/\Bd 4400 m)/\Ok x/\Bd 4400 x/\dm d ms/\ms.length<=1000 /\
 ∀r:Nat,r<=ms.length->(∀i m,i<r->ms[i]? = some m->dif d x m=1)->(∀i m,r<=i->ms[i]? = some m->¬ dif d x m=1)->Q (.v (.int (r:Nat))) Z
theorem y0{ds:List D}{Z:Mu}{Q:DK}(h:qT ds Z Q):ds.length=3:=by obtain⟨_,_,_,_,rfl,_⟩:=h;rfl
noncomputable def uD:DSp:=fun ds Z Q=>∃(d:Int) (fs:List N3),ds=[.v (.int d),.v (.list (fs.map dN))]/\aL d/\(∀m∈fs,Ok m/\Bd 4400 m)/\fs.length<=1000 /\
 ∀p ms U,Z p=none->eW Z U->U p=some (ms.map dN)->dm d ms->(∀x,x∈ms↔x∈fs)->Q (.m p) U
theorem yT{ds:List D}{Z:Mu}{Q:DK}(h:uD ds Z Q):ds.length=2:=by obtain⟨_,_,rfl,_⟩:=h;rfl
noncomputable def iE:DTS:=
 (aO (bc (dC (.int 0)) (aq 3))
 (aO (bc (dCB dX (ag (ai 1) ar)) (aq 4))
 (aO (se (dB (dOp rLt (ai 3) (ai 4))) (aO (bc (su (cp (ai 3) (ai 4)) (dC (.int 2))) (aq 5))
 (cV (dB (ay jq (ag (ai 0) (ag (ai 2) (ag (dOp aN (ai 1) (ai 5)) ar))))) (bc (cp (ai 5) (dC (.int 1))) (aq 3)) (bc (ai 5) (aq 4)))))
 (bp (ai 3)))))
noncomputable def gT:DTS:=
 (aO (bc (sL ar) (aq 2))
 (aO (qr (gW (ai 1)) (aq 3) (aO (bc (ay qT (ag (ai 0) (ag (ai 2) (ag (ai 3) ar)))) (aq 4))
 (cV (kQ (dB (dOp (d8 false) (ai 4) (dCB dX (ag (ai 2) ar)))) (dB (dOp (d8 true) (dOp aN (ai 2) (ai 4)) (ai 3)))) (lK (LV (ai 2) (ai 4) (ai 3))) bL)))
 (bp (ai 2))))
section
variable {Z:Mu}{Qd:DK}{ds:List D}
theorem Mm(r s:Nat):(r:Int).fdiv (s:Int)=((r / s:Nat):Int):=by rw[Int.fdiv_eq_ediv_of_nonneg _ (Int.natCast_nonneg s)];rfl
theorem vI{ks:List N3}{i:Nat}{m:N3}(h:ks[i]? = some m):atI (ks.map dN) (i:Int)=some (dN m):=by
 have hl:i<ks.length:=by
  rcases lt_or_ge i ks.length with z|z
  ·exact z
  ·rw[getElem?_eq_none z] at h;cases h
 unfold atI ixN
 rw[if_pos ∅,if_pos (by rw[length_map];omega)]
 simp only[bind_some,Int.toNat_natCast]
 rw[getElem?_map,h]
 rfl
theorem j1{d:Int}{x y z:N3}(hd:aL d)(ox:Ok x)(oy:Ok y)(oz:Ok z)(h1:dif d x y=1)(h2:dif d y z=1):dif d x z=1:=by
 rw[B0] at *
 unfold KS at *
 have cx:=ox.c
 have cy:=oy.c
 have cz:=oz.c
 have a1:P d (z.c*(x.a*y.c-y.a*x.c)) (z.c*(x.b*y.c-y.b*x.c)):=(jO hd).mp (by rw[mj hd cz];exact h1)
 have a2:P d (x.c*(y.a*z.c-z.a*y.c)) (x.c*(y.b*z.c-z.b*y.c)):=(jO hd).mp (by rw[mj hd cx];exact h2)
 have a3:=(jO hd).mpr (O6 hd a1 a2)
 have e1:z.c*(x.a*y.c-y.a*x.c)+x.c*(y.a*z.c-z.a*y.c)=y.c*(x.a*z.c-z.a*x.c):=by grind
 have e2:z.c*(x.b*y.c-y.b*x.c)+x.c*(y.b*z.c-z.b*y.c)=y.c*(x.b*z.c-z.b*x.c):=by grind
 rw[e1,e2,mj hd cy] at a3
 exact a3
theorem zo{d:Int}{ms:List N3}(h:dm d ms){i j:Nat}{a b:N3}(hij:i<j)(ha:ms[i]? = some a)(hb:ms[j]? = some b):dif d b a=1:=by
 obtain⟨hi,rfl⟩:=List.getElem?_eq_some_iff.mp ha
 obtain⟨hj,rfl⟩:=List.getElem?_eq_some_iff.mp hb
 exact List.pairwise_iff_getElem.mp h i j hi hj hij
theorem dif_neg{d:Int}{x y:N3}(hd:aL d):dif d y x = - dif d x y:=by
 rw[B0,B0]
 unfold KS
 rw[<- y6 hd]
 congr 1<;>grind
theorem La{d:Int}{x y:N3}(hd:aL d)(ox:Ok x)(oy:Ok y)(h:¬ dif d x y=1)(n:y≠x):dif d y x=1:=by
 rw[dif_neg hd]
 have t:dif d x y=0\/dif d x y=1\/dif d x y = -1:=by rw[B0];exact mT _ _ _
 rcases t with t|t|t
 ·exact absurd (JU ox oy (by rw[<- B0];exact t)).symm n
 ·exact absurd t h
 ·rw[t];rfl
theorem Jv{d:Int}{ms:List N3}{f:N3}{r:Nat}(hd:aL d)(gm:∀m∈ms,Ok m)(of:Ok f)(hr:dm d ms)(hl:r<=ms.length)(hb:∀i m,i<r->ms[i]? = some m->dif d f m=1)(ha:∀i m,r<=i->ms[i]? = some m->¬ dif d f m=1)(hn:∀m,ms[r]? = some m->m≠f):dm d (ms.take r++f::ms.drop r):=by
 unfold dm at *
 rw[List.pairwise_append]
 have hbm:∀m∈ms.take r,dif d f m=1:=fun m hm=>by
  obtain⟨i,hi,e⟩:=List.mem_iff_getElem.mp hm
  have hi':i<r:=by rw[length_take] at hi;omega
  refine hb i m hi' ?_
  rw[<- e,List.getElem_take]
  exact getElem?_eq_getElem _
 have ham:∀m∈ms.drop r,dif d m f=1:=fun m hm=>by
  obtain⟨i,hi,e⟩:=List.mem_iff_getElem.mp hm
  have hi2:r+i<ms.length:=by rw[List.length_drop] at hi;omega
  have em:ms[r+i]? = some m:=by rw[<- e,List.getElem_drop];exact getElem?_eq_getElem _
  have er:ms[r]? = some ms[r]:=getElem?_eq_getElem ∅
  have o1:=gm ms[r] (getElem_mem _)
  have b1:=La hd of o1 (ha r _ (le_refl _) er) (hn _ er)
  cases i with
  |zero=>rw[Nat.add_zero,er] at em;cases em;exact b1
  |succ i=>exact j1 hd (gm m (mem_of_getElem? em)) o1 of (zo hr ∅ er em) b1
 refine⟨hr.sublist (List.take_sublist _ _),List.pairwise_cons.mpr ⟨ham,hr.sublist (List.drop_sublist _ _)⟩,fun a ha' b hb'=>?_⟩
 rcases List.mem_cons.mp hb' with rfl|hb'
 ·exact hbm a ha'
 ·exact j1 hd (gm b (List.mem_of_mem_drop hb')) of (gm a (List.mem_of_mem_take ha')) (ham b hb') (hbm a ha')
theorem LD{α:Type}{ms:List α}{f x:α}{r:Nat}:x∈ms.take r++f::ms.drop r↔x=f\/x∈ms:=by
 rw[mem_append,mem_cons]
 have h:x∈ms↔x∈ms.take r\/x∈ms.drop r:=by
  conv=>lhs;rw[<- List.take_append_drop r ms]
  rw[mem_append]
 rw[h]
 constructor
 ·rintro (a|a|a)
  ·exact .inr (.inl a)
  ·exact .inl a
  ·exact .inr (.inr a)
 ·rintro (a|a|a)
  ·exact .inr (.inl a)
  ·exact .inl a
  ·exact .inr (.inr a)
theorem tT(h:uD ds Z Qd):gT ‹Qd› (aP ["","","","",""] ds) Z:=by
 obtain⟨d,fs,rfl,hd,gf,hl,q⟩:=h
 unfold gT
 walk_at "rn"
 intro p hp
 rw[lJ]
 walk_at "rn"
 refine⟨fun i ρ U=>∃r3 r4 ms,ρ=[some (.v (.int d)),some (.v (.list (fs.map dN))),some (.m p),r3,r4]/\eW Z U/\U p=some (ms.map dN)/\dm d ms/\(∀x,x∈ms↔x∈fs.take i)/\ms.length<=i,⟨_,_,[],rfl,eW.refl.set hp,aD,List.Pairwise.nil,by simp,le_refl _⟩,?_,?_⟩
 ·rintro i x ρ U hx ⟨r3,r4,ms,rfl,sb,hm,hr,hms,lm⟩
  have hil:i<fs.length:=by
   rcases lt_or_ge i fs.length with z|z
   ·exact z
   ·rw[getElem?_eq_none (by rw[length_map];exact z)] at hx;cases hx
  obtain⟨f,ef,rfl⟩:∃f,fs[i]? = some f/\x=dN f:=by
   rw[getElem?_map,getElem?_eq_getElem hil] at hx
   exact⟨fs[i],getElem?_eq_getElem hil,(Option.some.inj hx).symm⟩
  have gm:∀m∈ms,Ok m/\Bd 4400 m:=fun m h=>gf m (List.mem_of_mem_take ((hms m).mp h))
  obtain⟨of,bf⟩:=gf f (mem_of_getElem? ef)
  have tk:fs.take (i+1)=fs.take i++[f]:=by rw[take_succ,ef];rfl
  walk_at "rn"
  refine⟨d,p,ms,f,rfl,hd,hm,gm,of,bf,hr,∅,fun r rl hb ha=>?_⟩
  have fin:(∀m,ms[r]? = some m->m≠f)->∃r3 r4 ms',[some (D.v (.int d)),some (D.v (.list (fs.map dN))),some (D.m p),some (D.v (dN f)),some (D.v (.int (r:Nat)))]=[some (.v (.int d)),some (.v (.list (fs.map dN))),some (.m p),r3,r4]/\eW Z (aA U p ((ms.map dN).take r++dN f::(ms.map dN).drop r))/\aA U p ((ms.map dN).take r++dN f::(ms.map dN).drop r) p=some (ms'.map dN)/\dm d ms'/\(∀x,x∈ms'↔x∈fs.take (i+1))/\ms'.length<=i+1:=fun hn=>by
   refine⟨_,_,ms.take r++f::ms.drop r,rfl,sb.set hp,?_,Jv hd (fun m h=>(gm m h).1) of hr rl hb ha hn,fun x=>?_,by simp;omega⟩
   ·rw[aD,map_append,map_cons,List.map_take,List.map_drop]
   ·rw[LD,tk,mem_append,mem_singleton,hms]
    exact Or.comm
  walk_at "rn"
  rw[hm]
  dsimp only
  rw[length_map]
  have put:(∀m,ms[r]? = some m->m≠f)->∀K:DK,(∀z,(∃r3 r4 ms',[some (D.v (.int d)),some (D.v (.list (fs.map dN))),some (D.m p),some (D.v (dN f)),some (D.v (.int (r:Nat)))]=[some (.v (.int d)),some (.v (.list (fs.map dN))),some (.m p),r3,r4]/\eW Z z/\z p=some (ms'.map dN)/\dm d ms'/\(∀x,x∈ms'↔x∈fs.take (i+1))/\ms'.length<=i+1)->K (.v .none) z)->LV (ai 2) (ai 4) (ai 3) [some (D.v (.int d)),some (D.v (.list (fs.map dN))),some (D.m p),some (D.v (dN f)),some (D.v (.int (r:Nat)))] U K:=fun hn K kk=>by
   rw[O9]
   walk_at "rn"
   exact⟨r,dN f,ms.map dN,rfl,rfl,hm,by rw[length_map];exact rl,by rw[length_map];omega,kk _ (fin hn)⟩
  by_cases c:r=ms.length
  ·rw[if_pos (decide_eq_true ∅)]
   exact put (fun m e=>by rw[getElem?_eq_none ∅] at e;cases e) _ fun z h=>h
  ·rw[if_neg (by simp;omega)]
   have rl':r<ms.length:=by omega
   have er:ms[r]? = some ms[r]:=getElem?_eq_getElem rl'
   rw[vI er]
   dsimp only
   rw[By]
   dsimp only
   by_cases cf:ms[r]=f
   ·rw[if_neg (by simp[cf])]
    refine⟨_,_,ms,rfl,sb,hm,hr,fun x=>?_,∅⟩
    rw[tk,mem_append,mem_singleton,hms]
    constructor
    ·exact .inl
    ·rintro (h|rfl)
     ·exact h
     ·rw[<- hms,<- cf];exact getElem_mem _
   ·rw[if_pos (by simp[cf])]
    exact put (fun m e=>by rw[er] at e;cases e;exact cf) _ fun z h=>h
 ·rintro ρ U ⟨r3,r4,ms,rfl,sb,hm,hr,hms,lm⟩
  rw[length_map,take_length] at hms
  exact q p ms U hp sb hm hr hms
theorem wg(h:qT ds Z Qd):iE ‹Qd› (aP ["","","","","",""] ds) Z:=by
 obtain⟨d,p,ms,x,rfl,hd,hp,gm,ox,bx,hr,hl,q⟩:=h
 unfold iE
 walk_at "rn"
 rw[hp]
 dsimp only
 rw[Fi,length_map]
 refine⟨fun n ρ U=>∃(lo hi:Nat) (r5:Option D),ρ=[some (.v (.int d)),some (.m p),some (.v (dN x)),some (.v (.int (lo:Nat))),some (.v (.int (hi:Nat))),r5]/\U=Z/\n=hi-lo/\lo<=hi/\hi<=ms.length/\(∀i m,i<lo->ms[i]? = some m->dif d x m=1)/\(∀i m,hi<=i->ms[i]? = some m->¬ dif d x m=1),
  ⟨_,0,ms.length,none,rfl,rfl,rfl,zero_le _,le_refl _,fun i m z=>absurd z (not_lt_zero _),fun i m z e=>by rw[getElem?_eq_none z] at e;cases e⟩,?_⟩
 rintro n ρ U ⟨lo,hi,r5,rfl,rfl,rfl,h1,h2,hb,ha⟩
 walk_at "rn"
 by_cases c:lo<hi
 ·rw[if_pos (by simpa using c)]
  have hm:(lo+hi) / 2<ms.length:=by omega
  have em:ms[(lo+hi) / 2]? = some ms[(lo+hi) / 2]:=getElem?_eq_getElem hm
  have ef:(((lo:Nat):Int)+((hi:Nat):Int)).fdiv 2=(((lo+hi) / 2:Nat):Int):=by
   have:((lo:Nat):Int)+((hi:Nat):Int)=((lo+hi:Nat):Int):=by omega
   rw[this]
   exact Mm (lo+hi) 2
  rw[hp,ef]
  dsimp only
  rw[vI em]
  generalize ms[(lo+hi) / 2]=mm at em
  obtain⟨omm,bmm⟩:=gm mm (mem_of_getElem? em)
  refine⟨yu ⋯ (Sz.of (n:=2) ⋯) ⋯,d,x,mm,rfl,hd,bx,bmm,?_⟩
  dsimp only
  by_cases cc:dif d x mm=1
  ·rw[if_pos (decide_eq_true cc)]
   refine⟨_,?_,(lo+hi) / 2+1,hi,some (.v (.int (((lo+hi) / 2:Nat):Int))),by simp,rfl,rfl,∅,h2,fun i m z e=>?_,ha⟩
   ·omega
   ·rcases lt_or_eq_of_le (le_of_lt_succ z) with z|z
    ·obtain⟨om,_⟩:=gm m (mem_of_getElem? e)
     exact j1 hd ox omm om cc (zo hr z e em)
    ·rw[z,em] at e
     cases e
     exact cc
  ·rw[if_neg (by simpa using cc)]
   refine⟨_,?_,lo,(lo+hi) / 2,_,rfl,rfl,rfl,∅,∅,hb,fun i m z e f=>cc ?_⟩
   ·omega
   ·rcases lt_or_eq_of_le z with z|z
    ·obtain⟨om,_⟩:=gm m (mem_of_getElem? e)
     exact j1 hd ox om omm f (zo hr z em e)
    ·rw[<- z,em] at e
     cases e
     exact f
 ·rw[if_neg (by simpa using c)]
  obtain rfl:lo=hi:=by omega
  exact q lo h2 hb ha
end
def numAt:PyData->N3
 |.tuple [.int a,.int b,.int c]=>⟨a,b,c⟩
 |_=>aC
noncomputable def wd(t:PyData):Prop:=Few t/\∀x,t=dN x->Bd 4400 x
noncomputable def Mi(t:PyData):Prop:=∀a b c e,t = .tuple [a,b,c,e]->wd a/\wd b/\wd c/\wd e
def j7(d:Int):PyData->Bool
 |.tuple [a,b,c,e]=>(isNum a&&(isNum b&&(decide (0<=sg d (numAt a).a (numAt a).b)&&decide (0<=sg d (numAt b).a (numAt b).b))))&&(cW d c&&cW d e)
 |_=>false
noncomputable def yZ:DSp:=fun ds Z Q=>∃(d:Int) (t:PyData),ds=[.v (.int d),.v t]/\aL d/\Mi t/\Q (.v (.bool (j7 d t))) Z
theorem D7{ds:List D}{Z:Mu}{Q:DK}(h:yZ ds Z Q):ds.length=2:=by obtain⟨_,_,rfl,_⟩:=h;rfl
noncomputable def JO(t:PyData):Prop:=∀a b c,t = .tuple [a,b,c]->wd a/\wd b/\∀ts,c = .tuple ts->ts.length<=1000/\∀x∈ts,Mi x
def qV(d:Int):PyData->Bool
 |.tuple [a,b,.tuple ts]=>cW d a&&(cW d b&&(decide (1<=ts.length)&&(decide (ts.length<=60)&&ts.all (j7 d))))
 |_=>false
noncomputable def uq:DSp:=fun ds Z Q=>∃(d:Int) (t:PyData),ds=[.v (.int d),.v t]/\aL d/\JO t/\Q (.v (.bool (qV d t))) Z
theorem C0{ds:List D}{Z:Mu}{Q:DK}(h:uq ds Z Q):ds.length=2:=by obtain⟨_,_,rfl,_⟩:=h;rfl
noncomputable def oZ:DTS:=
 (aO (cV (kQ (fA (dB (CI "tuple" (ai 1)))) (dB (dOp (d8 true) (dCB dX (ag (ai 1) ar)) (dC (.int 4))))) (bp (dC (.bool false))) bL)
 (aO (bc (ai 1) (cM 4 (aH (aq 2) (aH (aq 3) (aH (aq 4) (aH (aq 5) cY))))))
 (aO (cV (kQ (fA (dB (ay mJ (ag (ai 2) ar)))) (kQ (fA (dB (ay mJ (ag (ai 3) ar)))) (kQ (dB (dOp rLt (ay jD (ag (ai 0) (ag (ai 2) ar))) (dC (.int 0)))) (dB (dOp rLt (ay jD (ag (ai 0) (ag (ai 3) ar))) (dC (.int 0))))))) (bp (dC (.bool false))) bL)
 (bp (mS (ay iQ (ag (ai 0) (ag (ai 4) ar))) (ay iQ (ag (ai 0) (ag (ai 5) ar))))))))
noncomputable def mL:DTS:=
 (aO (cV (kQ (fA (dB (CI "tuple" (ai 1)))) (dB (dOp (d8 true) (dCB dX (ag (ai 1) ar)) (dC (.int 3))))) (bp (dC (.bool false))) bL)
 (aO (bc (ai 1) (cM 3 (aH (aq 2) (aH (aq 3) (aH (aq 4) cY)))))
 (aO (cV (kQ (fA (dB (ay iQ (ag (ai 0) (ag (ai 2) ar))))) (fA (dB (ay iQ (ag (ai 0) (ag (ai 3) ar)))))) (bp (dC (.bool false))) bL)
 (aO (cV (kQ (fA (dB (CI "tuple" (ai 4)))) (kQ (dB (dOp rLt (dCB dX (ag (ai 4) ar)) (dC (.int 1)))) (dB (dOp rGt (dCB dX (ag (ai 4) ar)) (dC (.int 60)))))) (bp (dC (.bool false))) bL)
 (bp (dCB x9 (ag (C6 [none,some 0] (qX (ai 4)) (aq 0) ny (ay yZ (ag (ai 1) (ag (ai 0) ar)))) ar)))))))
section
variable {Z:Mu}{Qd:DK}{ds:List D}
theorem yj{d:Int}{xs:List PyData}(h:xs.length≠4):j7 d (.tuple xs)=false:=by
 match xs,h with
 |[],_=>rfl
 |[_],_=>rfl
 |[_,_],_=>rfl
 |[_,_,_],_=>rfl
 |[_,_,_,_],h=>exact absurd rfl h
 |_::_::_::_::_::_,_=>rfl
theorem yb{d:Int}{p:PyData}(h:¬ ∃xs,p = .tuple xs):j7 d p=false:=by cases p<;>first|rfl|exact absurd ⟨_,rfl⟩ h
theorem uN{p:PyData}(h:¬ ∃xs,p = .tuple xs):isT "tuple" p=false:=by cases p<;>first|rfl|exact absurd ⟨_,rfl⟩ h
theorem Fn{α:Type}{xs:List α}(hl:xs.length=4):∃a b c d,xs=[a,b,c,d]:=by
 match xs,hl with
 |[a,b,c,d],_=>exact⟨a,b,c,d,rfl⟩
theorem zJ{d:Int}{a b c e:PyData}:j7 d (.tuple [a,b,c,e])=((isNum a&&(isNum b&&(decide (0<=sg d (numAt a).a (numAt a).b)&&decide (0<=sg d (numAt b).a (numAt b).b))))&&(cW d c&&cW d e)):=rfl
theorem uf{x:N3}:numAt (dN x)=x:=rfl
theorem En(h:yZ ds Z Qd):oZ ‹Qd› (aP ["","","","","",""] ds) Z:=by
 obtain⟨d,t,rfl,hd,ht4,q⟩:=h
 unfold oZ
 walk_at "rn"
 by_cases ht:∃xs,t = .tuple xs
 ·obtain⟨xs,rfl⟩:=ht
  rw[if_neg (by rw[show isT "tuple" (.tuple xs)=true from rfl];decide)]
  walk_at "rn"
  by_cases l4:xs.length=4
  ·obtain⟨a,b,c,e,rfl⟩:=Fn l4
   rw[if_neg (by simp)]
   obtain⟨pa,pb,pc,pe⟩:=ht4 a b c e rfl
   rw[zJ] at q
   walk_at "rn"
   refine⟨trivial,a,rfl,pa.1,?_⟩
   dsimp only
   cases na:isNum a with
   |false=>rw[if_pos ⋯];rw[na] at q;exact q
   |true=>
    rw[if_neg ⋯]
    rw[na,Bool.true_and] at q
    refine⟨b,rfl,pb.1,?_⟩
    dsimp only
    cases nb:isNum b with
    |false=>rw[if_pos ⋯];rw[nb] at q;exact q
    |true=>
     rw[if_neg ⋯]
     rw[nb,Bool.true_and] at q
     obtain⟨x,rfl,ox⟩:=fR na
     obtain⟨y,rfl,oy⟩:=fR nb
     rw[uf,uf] at q
     refine⟨d,x,rfl,hd,(pa.2 x rfl).mono ⋯,?_⟩
     walk_at "rn"
     by_cases cx:0<=sg d x.a x.b
     ·rw[if_neg (by simp;omega)]
      rw[decide_eq_true cx,Bool.true_and] at q
      refine⟨d,y,rfl,hd,(pb.2 y rfl).mono ⋯,?_⟩
      walk_at "rn"
      by_cases cy:0<=sg d y.a y.b
      ·rw[if_neg (by simp;omega)]
       rw[decide_eq_true cy,Bool.true_and] at q
       refine⟨d,c,rfl,hd,pc.1,fun x e=>(pc.2 x e).mono ⋯,?_⟩
       dsimp only
       cases ac:cW d c with
       |false=>rw[if_neg ⋯];rw[ac] at q;exact q
       |true=>
        rw[if_pos rfl]
        rw[ac,Bool.true_and] at q
        exact⟨d,e,rfl,hd,pe.1,fun x e=>(pe.2 x e).mono ⋯,q⟩
      ·rw[if_pos (by simp;omega)]
       rw[decide_eq_false cy] at q
       exact q
     ·rw[if_pos (by simp;omega)]
      rw[decide_eq_false cx] at q
      exact q
  ·rw[if_pos (by simp;omega)]
   rw[yj l4] at q
   exact q
 ·rw[if_pos (by rw[uN ht];rfl)]
  rw[yb ht] at q
  exact q
theorem yB{d:Int}{xs:List PyData}(h:xs.length≠3):qV d (.tuple xs)=false:=by
 match xs,h with
 |[],_=>rfl
 |[_],_=>rfl
 |[_,_],_=>rfl
 |[_,_,_],h=>exact absurd rfl h
 |_::_::c::_::_,_=>cases c<;>rfl
theorem yd{d:Int}{p:PyData}(h:¬ ∃xs,p = .tuple xs):qV d p=false:=by cases p<;>first|rfl|exact absurd ⟨_,rfl⟩ h
theorem yQ{d:Int}{a b c:PyData}(h:¬ ∃ts,c = .tuple ts):qV d (.tuple [a,b,c])=false:=by cases c<;>first|rfl|exact absurd ⟨_,rfl⟩ h
theorem Cm{α:Type}{xs:List α}(hl:xs.length=3):∃a b c,xs=[a,b,c]:=by
 match xs,hl with
 |[a,b,c],_=>exact⟨a,b,c,rfl⟩
theorem rh{f:PyData->Bool}:∀(xs:List PyData),cI (xs.filterMap fun x=>some (.bool (f x)))=some (xs.map f)
 |[]=>rfl
 |x::xs=>by
  rw[filterMap_cons]
  simp only[cI,rh xs,map_some,map_cons]
theorem CS(h:uq ds Z Qd):mL ‹Qd› (aP ["","","","",""] ds) Z:=by
 obtain⟨d,t,rfl,hd,ft,q⟩:=h
 unfold mL
 walk_at "rn"
 by_cases ht:∃xs,t = .tuple xs
 ·obtain⟨xs,rfl⟩:=ht
  rw[if_neg (by rw[show isT "tuple" (.tuple xs)=true from rfl];decide)]
  walk_at "rn"
  by_cases l3:xs.length=3
  ·obtain⟨a,b,c,rfl⟩:=Cm l3
   rw[if_neg (by simp)]
   obtain⟨pa,pb,pc⟩:=ft a b c rfl
   walk_at "rn"
   have qf:(∃ts,c = .tuple ts)\/Qd (.v (.bool false)) Z:=by
    by_cases hc:∃ts,c = .tuple ts
    ·exact .inl hc
    ·rw[yQ hc] at q;exact .inr q
   have q3:∀ts,c = .tuple ts->Qd (.v (.bool (cW d a&&(cW d b&&(decide (1<=ts.length)&&(decide (ts.length<=60)&&ts.all (j7 d))))))) Z:=fun ts e=>by subst e;exact q
   refine⟨trivial,d,a,rfl,hd,pa.1,fun x e=>(pa.2 x e).mono ⋯,?_⟩
   dsimp only
   cases aa:cW d a with
   |false=>
    rw[if_pos ⋯]
    rcases qf with ⟨ts,e⟩|qf
    ·have:=q3 ts e;rw[aa] at this;exact this
    ·exact qf
   |true=>
    rw[if_neg ⋯]
    refine⟨d,b,rfl,hd,pb.1,fun x e=>(pb.2 x e).mono ⋯,?_⟩
    dsimp only
    cases ab:cW d b with
    |false=>
     rw[if_pos ⋯]
     rcases qf with ⟨ts,e⟩|qf
     ·have:=q3 ts e;rw[aa,ab] at this;exact this
     ·exact qf
    |true=>
     rw[if_neg ⋯]
     by_cases hc:∃ts,c = .tuple ts
     ·obtain⟨ts,rfl⟩:=hc
      have q4:=q3 ts rfl
      rw[aa,ab,Bool.true_and,Bool.true_and] at q4
      rw[if_neg (by rw[show isT "tuple" (.tuple ts)=true from rfl];decide)]
      walk_at "rn"
      by_cases c1:1<=ts.length
      ·rw[if_neg (by simp;omega)]
       rw[decide_eq_true c1,Bool.true_and] at q4
       by_cases c2:ts.length<=60
       ·rw[if_neg (by simp;omega)]
        rw[decide_eq_true c2,Bool.true_and] at q4
        obtain⟨tl,gt⟩:=pc ts rfl
        refine⟨tl,fun x=>some (.bool (j7 d x)),fun x hx U _=>⟨⟨trivial,trivial⟩,d,x,rfl,hd,gt x hx,rfl,rfl⟩,?_⟩
        rw[rh]
        dsimp only
        have ea:(ts.map (j7 d)).all id=ts.all (j7 d):=by simp[List.all_map]
        rw[ea]
        exact q4
       ·rw[if_pos (by simp;omega)]
        rw[decide_eq_false c2] at q4
        exact q4
      ·rw[if_pos (by simp;omega)]
       rw[decide_eq_false c1] at q4
       exact q4
     ·rw[if_pos (by rw[uN hc];rfl)]
      rw[yQ hc] at q
      exact q
  ·rw[if_pos (by simp;omega)]
   rw[yB l3] at q
   exact q
 ·rw[if_pos (by rw[uN ht];rfl)]
  rw[yd ht] at q
  exact q
end
structure Tl where
 x:N3
 y:N3
 w:N3
 h:N3
def tlD(t:Tl):PyData:=.tuple [dN t.x,dN t.y,dN t.w,dN t.h]
structure P6(d:Int)(t:Tl):Prop where
 ox:Ok t.x
 oy:Ok t.y
 ow:Ok t.w
 oh:Ok t.h
 bx:Bd 2100 t.x
 by_:Bd 2100 t.y
 bw:Bd 2100 t.w
 bh:Bd 2100 t.h
def qd(t:Tl):PyData:=.tuple [dN t.x,dN (plus t.x t.w),dN t.y,dN (plus t.y t.h)]
noncomputable def j8:DSp:=fun ds Z Q=>∃(d:Int) (t:Tl),ds=[.v (tlD t)]/\P6 d t/\Q (.v (qd t)) Z
theorem w8{ds:List D}{Z:Mu}{Q:DK}(h:j8 ds Z Q):ds.length=1:=by obtain⟨_,_,rfl,_⟩:=h;rfl
def eR(ms:List N3)(e:N3):Bool:=decide (ms.head? = some aC)&&decide (ms.getLast? = some e)
noncomputable def pW:DSp:=fun ds Z Q=>∃(ms:List N3) (e:N3),ds=[.v (.list (ms.map dN)),.v (dN e)]/\ms≠[]/\Q (.v (.bool (eR ms e))) Z
theorem B3{ds:List D}{Z:Mu}{Q:DK}(h:pW ds Z Q):ds.length=2:=by obtain⟨_,_,rfl,_⟩:=h;rfl
noncomputable def ll:DTS:=
 (aO (bc (ai 0) (cM 4 (aH (aq 1) (aH (aq 2) (aH (aq 3) (aH (aq 4) cY))))))
 (bp (bq (ag (ai 1) (ag (ay en (ag (ai 1) (ag (ai 3) ar))) (ag (ai 2) (ag (ay en (ag (ai 2) (ag (ai 4) ar))) ar)))))))
noncomputable def gQ:DTS:=
 (bp (mS (dOp (d8 false) (dOp aN (ai 0) (dC (.int 0))) (dC (.tuple [.int 0,.int 0,.int 1]))) (dOp (d8 false) (dOp aN (ai 0) (wa (dC (.int 1)))) (ai 1))))
section
variable {Z:Mu}{Qd:DK}{ds:List D}
theorem Av(h:j8 ds Z Qd):ll ‹Qd› (aP ["","","","",""] ds) Z:=by
 obtain⟨d,t,rfl,o,q⟩:=h
 unfold ll tlD
 walk_at "rn"
 refine⟨trivial,t.x,t.w,rfl,o.ox,o.ow,o.bx.mono ⋯,o.bw.mono ⋯,?_⟩
 walk_at "rn"
 refine⟨t.y,t.h,rfl,o.oy,o.oh,o.by_.mono ⋯,o.bh.mono ⋯,?_⟩
 walk_at "rn"
 exact q
theorem qJ{ms:List N3}{l:N3}(h:ms.getLast? = some l):atI (ms.map dN) (-1)=some (dN l):=by
 obtain⟨ys,rfl⟩:∃ys,ms=ys++[l]:=by
  have hn:ms≠[]:=fun e=>by rw[e] at h;cases h
  refine⟨ms.dropLast,?_⟩
  rw[List.getLast?_eq_getLast hn] at h
  have e:=List.dropLast_concat_getLast hn
  rw[Option.some.inj h] at e
  exact e.symm
 rw[map_append]
 unfold atI ixN
 have e:(ys.map dN++[dN l]).length=ys.length+1:=by simp
 rw[show List.map dN [l]=[dN l] from rfl,e]
 split
 ·omega
 ·rw[if_pos ∅]
  have z:(-1+((ys.length+1:Nat):Int)).toNat=ys.length:=by omega
  simp only[bind_some]
  rw[z]
  simp
theorem tJ(h:pW ds Z Qd):gQ ‹Qd› (aP ["",""] ds) Z:=by
 obtain⟨ms,e,rfl,hn,q⟩:=h
 unfold gQ
 obtain⟨l,hl⟩:∃l,ms.getLast? = some l:=⟨ms.getLast hn,List.getLast?_eq_getLast hn⟩
 obtain⟨f,r,rfl⟩:∃f r,ms=f::r:=by
  cases ms with
  |nil=>exact absurd rfl hn
  |cons f r=>exact⟨f,r,rfl⟩
 walk_at "rn"
 have er:eR (f::r) e=(decide (f=⟨0,0,1⟩)&&decide (l=e)):=by
  unfold eR
  rw[hl]
  congr 1
  ·rw[List.head?_cons]
   simp only[Option.some.injEq]
   rfl
  ·simp only[Option.some.injEq]
 rw[er] at q
 by_cases c:f=⟨0,0,1⟩
 ·rw[if_pos (decide_eq_true c),<- show (f::r).map dN=dN f::r.map dN from rfl,qJ hl]
  dsimp only
  rw[By,false_xor]
  rw[decide_eq_true c,Bool.true_and] at q
  exact q
 ·rw[if_neg (by simpa using c)]
  rw[decide_eq_false c] at q
  exact q
end
section
variable {Z:Mu}{d:D}{Q:DK}
theorem Gk{a b c f g h k l m n n11}{o:Rho}:ai 11 (a::b::c::f::g::h::k::l::m::n::n11::some d::o) Z Q=Q d Z:=propext Iff.rfl
theorem GD{a b c f g h k l m n n11 n12}{o:Rho}:ai 12 (a::b::c::f::g::h::k::l::m::n::n11::n12::some d::o) Z Q=Q d Z:=propext Iff.rfl
theorem FH{a b c f g h k l m n n11 n12 n13}{o:Rho}:ai 13 (a::b::c::f::g::h::k::l::m::n::n11::n12::n13::some d::o) Z Q=Q d Z:=propext Iff.rfl
theorem ET{a b c f g h k l m n n11 n12 n13 n14}{o:Rho}:ai 14 (a::b::c::f::g::h::k::l::m::n::n11::n12::n13::n14::some d::o) Z Q=Q d Z:=propext Iff.rfl
theorem FU{to te:DTE}{ρ:Rho}{Z:Mu}{Q:DK}:Dz to te ρ Z Q=to ρ Z fun x ad=>match x with
 |.m l=>te ρ ad fun y am=>(match y,am l with
  |.v (.int i),some xs=>(0<=i/\i<1000)/\∃d,xs[i.toNat]? = some d/\Q (.v d) (aA am l (xs.eraseIdx i.toNat))
  |_,_=>False)
 |_=>False:=propext Iff.rfl
end
def yP(x:N3):List Int:=[x.a,x.b,x.c]
theorem JA{x y:N3}(h:yP x=yP y):x=y:=by
 cases x;cases y
 unfold yP at h
 simp only[List.cons.injEq,and_true] at h
 obtain⟨rfl,rfl,rfl⟩:=h
 rfl
theorem AM{d:Int}{x:N3}(hd:aL d):dif d x x≠1:=fun h=>by
 have:=dif_neg (x:=x) (y:=x) hd
 omega
theorem lE{d:Int}{P:List N3}(hd:aL d)(h:dm d P):P.Nodup:=by
 unfold List.Nodup
 refine List.Pairwise.imp (fun {a b} z (e:a=b)=>?_) h
 subst e
 exact AM hd z
structure p5(d:Int)(P fs:List N3):Prop where
 up:dm d P
 mem:∀x,x∈P↔x∈fs
def ents(P:List N3):List (List Int×PyData):=P.zipIdx.map fun x=>(yP x.1,.int (x.2:Nat))
theorem Hu{P:List N3}{x:N3}:ents (P++[x])=ents P++[(yP x,.int (P.length:Nat))]:=by
 unfold ents
 rw[List.zipIdx_append,map_append]
 simp
def book(P:List N3):List (List Int×PyData):=putAll (ents P)
theorem G1{P:List N3}{x:N3}:book (P++[x])=hU (book P) (yP x) (.int (P.length:Nat)):=by unfold book;rw[Hu,putAll_snoc]
theorem snoc_ind{α:Type}{p:List α->Prop}(h0:p [])(h1:∀l x,p l->p (l++[x]))(l:List α):p l:=by
 rw[<- List.reverse_reverse l]
 generalize l.reverse=r
 induction r with
 |nil=>exact h0
 |cons a r ih=>rw[reverse_cons];exact h1 _ _ ih
theorem nN{x:N3}(P:List N3):P.Nodup->x∈P->bS (book P) (yP x)=some (.int (P.idxOf x:Nat)):=by
 refine snoc_ind (p:=fun P=>P.Nodup->x∈P->bS (book P) (yP x)=some (.int (P.idxOf x:Nat))) (fun _ h=>absurd h not_mem_nil) (fun P y ih hn hx=>?_) P
 rw[G1,HJ]
 have hn':=List.nodup_append.mp hn
 rw[List.idxOf_append]
 by_cases e:x=y
 ·subst e
  have hxp:x ∉ P:=fun m=>hn'.2.2 x m x mem_cons_self rfl
  rw[if_pos rfl,if_neg hxp,List.idxOf_cons_self,zero_add]
 ·have hxp:x∈P:=by
   rcases List.mem_append.mp hx with m|m
   ·exact m
   ·exact absurd (List.mem_singleton.mp m) e
  rw[if_neg (fun z=>e (JA z)),if_pos hxp,ih hn'.1 hxp]
def GF:PyData->Option (List Int×PyData)
 |.tuple [i,.tuple [.int a,.int b,.int c]]=>some ([a,b,c],i)
 |_=>none
theorem yI(P:List N3):(fF 0 (P.map dN)).filterMap GF=ents P:=by
 unfold ents
 have h:∀j,(fF j (P.map dN)).filterMap GF=(P.zipIdx j).map fun x=>(yP x.1,PyData.int (x.2:Nat)):=by
  induction P with
  |nil=>intro j;rfl
  |cons x P ih=>
   intro j
   rw[map_cons,List.zipIdx_cons,map_cons,<- ih]
   rfl
 exact h 0
theorem B5{P:List N3}{x:PyData}(h:x∈fF 0 (P.map dN)):∃(i:Nat) (m:N3),x = .tuple [.int (i:Nat),dN m]/\m∈P:=by
 have k:∀j,x∈fF j (P.map dN)->∃(i:Nat) (m:N3),x = .tuple [.int (i:Nat),dN m]/\m∈P:=by
  clear h
  induction P with
  |nil=>intro j h;exact absurd h not_mem_nil
  |cons y P ih=>
   intro j h
   rw[map_cons] at h
   rcases List.mem_cons.mp h with rfl|h
   ·exact⟨j,y,rfl,mem_cons_self⟩
   ·obtain⟨i,m,e,hm⟩:=ih _ h
    exact⟨i,m,e,mem_cons_of_mem _ hm⟩
 exact k 0 h
theorem iJ{xs:List PyData}:(fF 0 xs).length=xs.length:=by
 have h:∀j,(fF j xs).length=xs.length:=by
  induction xs with
  |nil=>intro j;rfl
  |cons y P ih=>intro j;show (fF (j+1) P).length+1=_;rw[ih];rfl
 exact h 0
def eP(P Q:List N3)(t:Tl):GR.Bx:=⟨P.idxOf t.x,P.idxOf (plus t.x t.w),Q.idxOf t.y,Q.idxOf (plus t.y t.h)⟩
structure OnM(P Q:List N3)(t:Tl):Prop where
 l:t.x∈P
 r:plus t.x t.w∈P
 b:t.y∈Q
 t:plus t.y t.h∈Q
def fu(x:Nat×Nat):List Int:=[(x.1:Nat),(x.2:Nat)]
theorem B9{x y:Nat×Nat}(h:fu x=fu y):x=y:=by
 unfold fu at h
 simp only[List.cons.injEq,and_true,Int.natCast_inj] at h
 exact Prod.ext h.1 h.2
theorem vO{x:Nat×Nat}{l:List (Nat×Nat)}:fu x∈l.map fu↔x∈l:=by
 rw[mem_map]
 constructor
 ·rintro ⟨y,h,e⟩;exact B9 e▸h
 ·intro h;exact⟨x,h,rfl⟩
theorem yC{α β:Type}{f:α->List β}{l:List α}{i:Nat}{x:α}(h:l[i]? = some x):(l.take (i+1)).flatMap f=(l.take i).flatMap f++f x:=by
 rw[take_succ,h,List.flatMap_append]
 simp
theorem CU{α β:Type}{f:α->List β}{l:List α}{i:Nat}:(l.take i).flatMap f <+: l.flatMap f:=by
 conv=>rhs;rw[<- List.take_append_drop i l,List.flatMap_append]
 exact List.prefix_append _ _
theorem Iz{a b i:Nat}(h:i<b-a):(GR.run a b)[i]? = some (a+i):=by
 unfold GR.run
 rw[getElem?_map,List.getElem?_range h]
 rfl
local macro_rules|`(tactic| walk_at "rb")=>mkW "↓H0 Gq Ml JX ↓Pm ↓l_t ↓l_f l_T l_F Pu Pf Ez decide_true decide_false Bool.xor_true true_xor ↓AJ ↓AD ↓AR ↓yY ↓Bh ↓Ai ↓Ax ↓AE ↓A4 ↓AO ↓uo ↓q_c ↓Pp ↓q_B ↓Lg ↓Gy ↓Fw ↓IW ↓Mn ↓Bq ↓Ir ↓Mx ↓AW ↓OW ↓FY ↓ze ↓E1 ↓Fg ↓A5 ↓Fd ↓Gs ↓Ge ↓Fz ↓yR ↓zw ↓A3 ↓vN ↓uP ↓vT ↓Bs ↓vD ↓sG ↓GH ↓Gz ↓FE ↓Bj ↓Gn ↓OE ↓Al ↓zA ↓A0 ↓AZ ↓GB ↓KH ↓Ak ↓FF ↓Ga ↓uc ↓AI ↓uu ↓zd ↓AS ↓Mf ↓FC ↓A8 ↓FK ↓GG ↓zL ↓Mr ↓ub ↓IA ↓E6 ↓Gw ↓yL ↓qe ↓ue ↓qH ↓p6 ↓pN ↓pL ↓Fl JB AX AH E2 Gf Gu bind_none bind_some join_some List.getElem?_cons_zero List.getElem?_cons_succ aP J0 DD D4 EK By n5 wb uF yx Cw map_cons map_nil List.append List.replicate length_cons length_nil Nat.reduceAdd Nat.reduceSub nil_append cons_append List.set_cons_zero List.set_cons_succ map_some Bool.not_true Bool.not_false false_eq_true Bool.true_eq_false xor_false false_xor ↓Gk ↓GD ↓FH ↓ET ↓FU ↓BG ↓Dw ↓Ib ↓Mq ↓Kt ↓C1"
noncomputable def II(P Q:List N3)(ts:List Tl):Prop:=P.Nodup/\Q.Nodup/\P≠[]/\Q≠[]/\P.length<=900/\Q.length<=900/\ts.length<=900/\(∀t∈ts,OnM P Q t)/\(P.length-1)*(Q.length-1)<=9000
noncomputable def rN:DSp:=fun ds Z K=>∃(P Q:List N3) (ts:List Tl),ds=[.v (.list (ts.map qd)),.v (.list (P.map dN)),.v (.list (Q.map dN))]/\II P Q ts /\
 ∀U,eW Z U->K (.v (.bool (GR.si (ts.map (eP P Q)) (P.length-1) (Q.length-1)))) U
noncomputable def uE:DSp:=fun ds Z K=>∃(P Q:List N3) (ts:List Tl),ds=[.v (.list (ts.map qd)),.v (.list (P.map dN)),.v (.list (Q.map dN))]/\II P Q ts /\
 K (.v (.bool (GR.si (ts.map (eP P Q)) (P.length-1) (Q.length-1)))) Z
theorem xJ{ds:List D}{Z:Mu}{Q:DK}(h:rN ds Z Q):ds.length=3:=by obtain⟨_,_,_,rfl,_⟩:=h;rfl
theorem tK{ds:List D}{Z:Mu}{Qd:DK}(h:uE ds Z Qd):rN ds Z (frz Z Qd):=by
 obtain⟨P,Q,ts,rfl,pre,q⟩:=h
 exact⟨P,Q,ts,rfl,pre,fun U sb=>⟨sb,q⟩⟩
noncomputable def nG:DSp:=fun ds Z Q=>∃(d:Int) (fs:List N3),ds=[.v (.int d),.v (.list (fs.map dN))]/\aL d/\(∀m∈fs,Ok m/\Bd 4400 m)/\fs.length<=1000 /\
 ∀ms,p5 d ms fs->Q (.v (.list (ms.map dN))) Z
theorem rB{ds:List D}{Z:Mu}{Qd:DK}(h:nG ds Z Qd):uD ds Z (frz Z Qd):=by
 obtain⟨d,fs,rfl,hd,g,hl,q⟩:=h
 exact⟨d,fs,rfl,hd,g,hl,fun p ms U hp sb hm hr hms=>⟨⟨hp,sb⟩,_,hm,q ms ⟨hr,hms⟩⟩⟩
noncomputable def iW:DTS:=
 (aO (bc (rK [none,none] (AQ (ag (ai 1) ar)) (cM 2 (aH (aq 0) (aH (aq 1) cY))) ny (ai 1) (ai 0)) (aq 3))
 (aO (bc (rK [none,none] (AQ (ag (ai 2) ar)) (cM 2 (aH (aq 0) (aH (aq 1) cY))) ny (ai 1) (ai 0)) (aq 4))
 (aO (bc Bb (aq 5))
 (aO (qr (gW (ai 0)) (cM 4 (aH (aq 6) (aH (aq 7) (aH (aq 8) (aH (aq 9) cY))))) (qr (vY (ag (Hr (ai 3) (ai 6)) (ag (Hr (ai 3) (ai 7)) ar))) (aq 10) (qr (vY (ag (Hr (ai 4) (ai 8)) (ag (Hr (ai 4) (ai 9)) ar))) (aq 11) (aO (cV (dB (dOp (Ew false) (bq (ag (ai 10) (ag (ai 11) ar))) (ai 5))) (bp (dC (.bool false))) bL)
 (lK (IU (ai 5) (bq (ag (ai 10) (ag (ai 11) ar)))))))))
 (bp (dOp (d8 false) (dCB IT (ag (ai 5) ar)) (cw (lZ (dCB dX (ag (ai 1) ar)) (dC (.int 1))) (lZ (dCB dX (ag (ai 2) ar)) (dC (.int 1))))))))))
section
variable {Z:Mu}{Qd:DK}{ds:List D}
structure x5(Z:Mu)(P Q:List N3)(pc pr ps:Addr)(done:List (Nat×Nat))(U:Mu):Prop where
 sub:eW Z U
 nc:Z.b pc=none
 nr:Z.b pr=none
 ns:Z.b ps=none
 c:U.b pc=some (.dict (book P))
 r:U.b pr=some (.dict (book Q))
 s:U.b ps=some (.set (done.map fu))
 nodup:done.Nodup
 sc:pc≠ps
 sr:pr≠ps
theorem x5.put{Z U:Mu}{P Q:List N3}{pc pr ps:Addr}{done:List (Nat×Nat)}{x:Nat×Nat}(h:x5 Z P Q pc pr ps done U)(hx:x ∉ done):x5 Z P Q pc pr ps (done++[x]) (bg U ps (.set (done.map fu++[fu x]))) where
 sub:=h.sub.box h.ns
 nc:=h.nc
 nr:=h.nr
 ns:=h.ns
 c:=by rw[bK h.sc];exact h.c
 r:=by rw[bK h.sr];exact h.r
 s:=by rw[bo,map_append];rfl
 nodup:=List.nodup_append.mpr ⟨h.nodup,by simp,fun a ha b hb e=>hx (by rw[List.mem_singleton.mp hb] at e;exact e▸ha)⟩
 sc:=h.sc
 sr:=h.sr
theorem Lk{P Q:List N3}{ts:List Tl}(on:∀t∈ts,OnM P Q t):∀q∈ts.map (eP P Q),q.r<=P.length-1/\q.t<=Q.length-1:=fun q hq=>by
 obtain⟨t,ht,rfl⟩:=List.mem_map.mp hq
 have a:=GR.cZ (on t ht).r
 have b:=GR.cZ (on t ht).t
 show P.idxOf _<=_/\Q.idxOf _<=_
 omega
theorem sub_len{qs:List GR.Bx}{C R:Nat}(hin:∀q∈qs,q.r<=C/\q.t<=R){done:List (Nat×Nat)}(hn:done.Nodup)(hp:∀x∈done,x∈GR.cells qs):done.length<=C*R:=by
 rw[<- GR.qQ]
 refine GR.pig hn fun x hx=>?_
 obtain⟨q,hq,h⟩:=GR.iz.mp (hp x hx)
 obtain⟨h1,h2⟩:=hin q hq
 exact GR.bG.mpr ⟨zero_le _,lt_of_lt_of_le h.2.1 h1,zero_le _,lt_of_lt_of_le h.2.2.2 h2⟩
theorem C8{a b:Nat}:(GR.run a b).take (b-a)=GR.run a b:=List.take_of_length_le (by rw[GR.nU];exact le_refl _)
theorem u4(h:rN ds Z Qd):iW ‹Qd› (aP ["","","","","","","","","","","",""] ds) Z:=by
 obtain⟨P,Q,ts,rfl,⟨np,nq,p0,q0,lp,lq,lt,on,few⟩,q⟩:=h
 unfold iW
 walk_at "rb"
 rw[FI]
 walk_at "rb"
 refine⟨by rw[iJ,length_map];omega,GF,?_,?_⟩
 ·intro x hx U _
  obtain⟨i,m,rfl,_⟩:=B5 hx
  walk_at "rb"
  refine⟨trivial,trivial,?_⟩
  rw[if_pos trivial]
  exact⟨trivial,_,_,rfl,rfl,rfl⟩
 rw[yI]
 intro pc hpc
 rw[FI]
 walk_at "rb"
 refine⟨by rw[iJ,length_map];omega,GF,?_,?_⟩
 ·intro x hx U _
  obtain⟨i,m,rfl,_⟩:=B5 hx
  walk_at "rb"
  refine⟨trivial,trivial,?_⟩
  rw[if_pos trivial]
  exact⟨trivial,_,_,rfl,rfl,rfl⟩
 rw[yI]
 intro pr hpr ps hps
 have rc:pr≠pc:=fun e=>by rw[e,bo] at hpr;cases hpr
 have sr:ps≠pr:=fun e=>by rw[e,bo] at hps;cases hps
 have sc:ps≠pc:=fun e=>by rw[e,bK rc.symm,bo] at hps;cases hps
 have hpr':Z.b pr=none:=by rw[bK rc] at hpr;exact hpr
 have hps':Z.b ps=none:=by rw[bK sr,bK sc] at hps;exact hps
 rw[lJ]
 walk_at "rb"
 have fits:=Lk on
 refine⟨fun i ρ U=>∃r6 r7 r8 r9 r10 r11,ρ=[some (.v (.list (ts.map qd))),some (.v (.list (P.map dN))),some (.v (.list (Q.map dN))),some (.b pc),some (.b pr),some (.b ps),r6,r7,r8,r9,r10,r11]/\x5 Z P Q pc pr ps (GR.cells ((ts.map (eP P Q)).take i)) U,
  ⟨_,_,_,_,_,_,rfl,⟨((eW.refl.box hpc).box hpr').box hps',hpc,hpr',hps',by rw[bK sc.symm,bK rc.symm,bo];rfl,by rw[bK sr.symm,bo];rfl,by rw[bo];rfl,List.nodup_nil,sc.symm,sr.symm⟩⟩,?_,?_⟩
 ·rintro i x ρ U hx ⟨r6,r7,r8,r9,r10,r11,rfl,st⟩
  obtain⟨t,et,rfl⟩:∃t,ts[i]? = some t/\x=qd t:=by
   rw[getElem?_map] at hx
   cases e:ts[i]? with
   |none=>rw[e] at hx;cases hx
   |some t=>rw[e] at hx;exact⟨t,rfl,(Option.some.inj hx).symm⟩
  have o:=on t (mem_of_getElem? et)
  have eb:(ts.map (eP P Q))[i]? = some (eP P Q t):=by rw[getElem?_map,et];rfl
  have ea:GR.cells ((ts.map (eP P Q)).take (i+1))=GR.cells ((ts.map (eP P Q)).take i)++GR.cellsOf (eP P Q t):=yC eb
  have pa:GR.cells ((ts.map (eP P Q)).take (i+1)) <+: GR.cells (ts.map (eP P Q)):=CU
  rw[show qd t = .tuple [dN t.x,dN (plus t.x t.w),dN t.y,dN (plus t.y t.h)] from rfl]
  walk_at "rb"
  refine⟨trivial,?_⟩
  rw[lJ]
  walk_at "rb"
  refine⟨pc,_,_,_,rfl,rfl,st.c,nN P np o.l,pc,_,_,_,rfl,rfl,st.c,nN P np o.r,?_⟩
  have e1:=GR.cZ o.l
  have e2:=GR.cZ o.r
  have e3:=GR.cZ o.b
  have e4:=GR.cZ o.t
  walk_at "rb"
  refine⟨∅,fun c ρ U=>∃r10 r11,ρ=[some (.v (.list (ts.map qd))),some (.v (.list (P.map dN))),some (.v (.list (Q.map dN))),some (.b pc),some (.b pr),some (.b ps),some (.v (dN t.x)),some (.v (dN (plus t.x t.w))),some (.v (dN t.y)),some (.v (dN (plus t.y t.h))),r10,r11] /\
   x5 Z P Q pc pr ps (GR.cells ((ts.map (eP P Q)).take i)++((GR.run (P.idxOf t.x) (P.idxOf (plus t.x t.w))).take c).flatMap fun a=>(GR.run (Q.idxOf t.y) (Q.idxOf (plus t.y t.h))).map fun b=>(a,b)) U,⟨_,_,rfl,by rw[List.take_zero,List.flatMap_nil,append_nil];exact st⟩,?_,?_⟩
  ·rintro c x ρ am hx2 ⟨s10,s11,rfl,st2⟩
   obtain⟨rfl,hc⟩:=uU hx2
   have ec:(GR.run (P.idxOf t.x) (P.idxOf (plus t.x t.w)))[c]? = some (P.idxOf t.x+c):=Iz ∅
   have eb2:GR.cells ((ts.map (eP P Q)).take i)++((GR.run (P.idxOf t.x) (P.idxOf (plus t.x t.w))).take (c+1)).flatMap (fun a=>(GR.run (Q.idxOf t.y) (Q.idxOf (plus t.y t.h))).map fun b=>(a,b))=(GR.cells ((ts.map (eP P Q)).take i)++((GR.run (P.idxOf t.x) (P.idxOf (plus t.x t.w))).take c).flatMap fun a=>(GR.run (Q.idxOf t.y) (Q.idxOf (plus t.y t.h))).map fun b=>(a,b))++(GR.run (Q.idxOf t.y) (Q.idxOf (plus t.y t.h))).map fun b=>(P.idxOf t.x+c,b):=by
    rw[yC ec,append_assoc]
   have pb:GR.cells ((ts.map (eP P Q)).take i)++((GR.run (P.idxOf t.x) (P.idxOf (plus t.x t.w))).take (c+1)).flatMap (fun a=>(GR.run (Q.idxOf t.y) (Q.idxOf (plus t.y t.h))).map fun b=>(a,b)) <+: GR.cells ((ts.map (eP P Q)).take (i+1)):=by
    rw[ea]
    exact (List.prefix_append_right_inj _).mpr CU
   generalize GR.cells ((ts.map (eP P Q)).take i)++((GR.run (P.idxOf t.x) (P.idxOf (plus t.x t.w))).take c).flatMap (fun a=>(GR.run (Q.idxOf t.y) (Q.idxOf (plus t.y t.h))).map fun b=>(a,b))=pre at st2 eb2
   walk_at "rb"
   rw[lJ]
   walk_at "rb"
   refine⟨pr,_,_,_,rfl,rfl,st2.r,nN Q nq o.b,pr,_,_,_,rfl,rfl,st2.r,nN Q nq o.t,?_⟩
   walk_at "rb"
   refine⟨∅,fun k ρ U=>∃r11,ρ=[some (.v (.list (ts.map qd))),some (.v (.list (P.map dN))),some (.v (.list (Q.map dN))),some (.b pc),some (.b pr),some (.b ps),some (.v (dN t.x)),some (.v (dN (plus t.x t.w))),some (.v (dN t.y)),some (.v (dN (plus t.y t.h))),some (.v (.int ((P.idxOf t.x:Nat)+(c:Nat)))),r11] /\
    x5 Z P Q pc pr ps (pre++((GR.run (Q.idxOf t.y) (Q.idxOf (plus t.y t.h))).take k).map fun b=>(P.idxOf t.x+c,b)) U,⟨_,rfl,by rw[List.take_zero,map_nil,append_nil];exact st2⟩,?_,?_⟩
   ·rintro k x ρ be hx3 ⟨s11,rfl,st3⟩
    obtain⟨rfl,hk⟩:=uU hx3
    have ek:(GR.run (Q.idxOf t.y) (Q.idxOf (plus t.y t.h)))[k]? = some (Q.idxOf t.y+k):=Iz ∅
    have es:pre++((GR.run (Q.idxOf t.y) (Q.idxOf (plus t.y t.h))).take (k+1)).map (fun b=>(P.idxOf t.x+c,b))=(pre++((GR.run (Q.idxOf t.y) (Q.idxOf (plus t.y t.h))).take k).map fun b=>(P.idxOf t.x+c,b))++[(P.idxOf t.x+c,Q.idxOf t.y+k)]:=by
     rw[take_succ,ek,map_append,append_assoc]
     rfl
    have pk:pre++((GR.run (Q.idxOf t.y) (Q.idxOf (plus t.y t.h))).take (k+1)).map (fun b=>(P.idxOf t.x+c,b)) <+: GR.cells (ts.map (eP P Q)):=by
     refine List.IsPrefix.trans ?_ (pb.trans pa)
     rw[eb2]
     exact (List.prefix_append_right_inj _).mpr (by rw[List.map_take];exact List.take_prefix _ _)
    have pk0:pre++((GR.run (Q.idxOf t.y) (Q.idxOf (plus t.y t.h))).take k).map (fun b=>(P.idxOf t.x+c,b)) <+: GR.cells (ts.map (eP P Q)):=List.IsPrefix.trans (by rw[es];exact List.prefix_append _ _) pk
    rw[es] at pk
    generalize pre++((GR.run (Q.idxOf t.y) (Q.idxOf (plus t.y t.h))).take k).map (fun b=>(P.idxOf t.x+c,b))=done at st3 es pk pk0
    have le:done.length<=9000:=le_trans (sub_len fits st3.nodup fun x hx=>pk0.subset hx) few
    have kc:ni (.v (.tuple [.int ((P.idxOf t.x:Nat)+(c:Nat)),.int ((Q.idxOf t.y:Nat)+(k:Nat))]))=some (fu (P.idxOf t.x+c,Q.idxOf t.y+k)):=by
     show some _=some _
     unfold fu
     simp only[Int.natCast_add]
    walk_at "rb"
    refine⟨_,ps,_,kc,rfl,st3.s,by show (done.map fu).length<=9800;rw[length_map];omega,fun z=>absurd z ⋯,?_⟩
    walk_at "rb"
    by_cases cc:(P.idxOf t.x+c,Q.idxOf t.y+k)∈done
    ·rw[dY (by show decide _=true;exact decide_eq_true (vO.mpr cc))]
     walk_at "rb"
     have e:GR.si (ts.map (eP P Q)) (P.length-1) (Q.length-1)=false:=by
      unfold GR.si
      rw[decide_eq_false,Bool.false_and]
      intro hn
      have:=List.nodup_append.mp (hn.sublist pk.sublist)
      exact this.2.2 _ cc _ mem_cons_self rfl
     rw[e] at q
     exact q _ st3.sub
    ·rw[dj (by show ¬ decide _=true;rw[decide_eq_true_iff,vO];exact cc)]
     walk_at "rb"
     refine⟨ps,_,rfl,st3.s,_,_,kc,st3.s,by rw[length_map];omega,fun z=>cc (vO.mp z),?_⟩
     exact⟨_,rfl,by rw[es];exact st3.put cc⟩
   ·rintro ρ be ⟨s11,rfl,st3⟩
    rw[o5,show ((Q.idxOf (plus t.y t.h):Nat)-(Q.idxOf t.y:Nat):Int).toNat=Q.idxOf (plus t.y t.h)-Q.idxOf t.y by omega,C8] at st3
    exact⟨_,_,rfl,by rw[eb2];exact st3⟩
  ·rintro ρ be ⟨s10,s11,rfl,st3⟩
   rw[o5,show ((P.idxOf (plus t.x t.w):Nat)-(P.idxOf t.x:Nat):Int).toNat=P.idxOf (plus t.x t.w)-P.idxOf t.x by omega,C8] at st3
   exact⟨_,_,_,_,_,_,rfl,by rw[ea];exact st3⟩
 ·rintro ρ U ⟨r6,r7,r8,r9,r10,r11,rfl,st⟩
  rw[List.take_of_length_le (by rw[length_map,length_map];exact le_refl _)] at st
  have le:(GR.cells (ts.map (eP P Q))).length<=9000:=le_trans (sub_len fits st.nodup fun x hx=>hx) few
  walk_at "rb"
  refine⟨ps,_,rfl,st.s,by show (List.map fu _).length<=9800;rw[length_map];omega,?_⟩
  walk_at "rb"
  have:=q U st.sub
  have l1:0<P.length:=List.length_pos_iff.mpr p0
  have l2:0<Q.length:=List.length_pos_iff.mpr q0
  rw[length_map,length_map,show ((P.length:Nat):Int)-1=((P.length-1:Nat):Int) by omega,show ((Q.length:Nat):Int)-1=((Q.length-1:Nat):Int) by omega]
  refine⟨ko (Sz.of (n:=10) ∅) (Sz.of (n:=10) ∅) ⋯,?_⟩
  have e:decide (((Ca (Box.set (List.map fu (GR.cells (List.map (eP P Q) ts)))):Nat):Int)=((P.length-1:Nat):Int)*((Q.length-1:Nat):Int))=GR.si (List.map (eP P Q) ts) (P.length-1) (Q.length-1):=by
   unfold GR.si
   rw[decide_eq_true st.nodup,Bool.true_and]
   refine decide_eq_decide.mpr ?_
   show ((List.map fu (GR.cells (List.map (eP P Q) ts))).length:Int)=_↔_
   rw[length_map,<- Int.natCast_mul,Int.natCast_inj]
  rw[e]
  exact this
end
structure tw(d:Int)(t:Tl):Prop where
 ox:Ok t.x
 oy:Ok t.y
 ow:Ok t.w
 oh:Ok t.h
 sx:0<=sg d t.x.a t.x.b
 sy:0<=sg d t.y.a t.y.b
 sw:sg d t.w.a t.w.b=1
 sh:sg d t.h.a t.h.b=1
structure Cd(d:Int)(w h:N3)(ts:List Tl):Prop where
 ow:Ok w
 oh:Ok h
 sw:sg d w.a w.b=1
 sh:sg d h.a h.b=1
 some:1<=ts.length
 few:ts.length<=60
 tile:∀t∈ts,tw d t
def gE(w h:N3)(ts:List Tl):PyData:=.tuple [dN w,dN h,.tuple (ts.map tlD)]
structure Bd4(n:Nat)(t:Tl):Prop where
 x:Bd n t.x
 y:Bd n t.y
 w:Bd n t.w
 h:Bd n t.h
noncomputable def Kw(m:Nat)(ts:List Tl):Prop:=∃X Y:List N3,(∀t∈ts,OnM X Y t)/\X.length<=200/\Y.length<=200/\X.length*Y.length<=m
def j2(ts:List Tl):List N3:=ts.flatMap fun t=>[t.x,plus t.x t.w]
def ke(ts:List Tl):List N3:=ts.flatMap fun t=>[t.y,plus t.y t.h]
noncomputable def K8(t:PyData):Prop:=JO t/\∀w h ts,t=gE w h ts->Bd 2100 w/\Bd 2100 h/\(∀t∈ts,Bd4 2100 t)/\Kw 8000 ts
noncomputable def Gi(d:Int)(t:PyData)(b:Bool):Prop:=(qV d t=false->b=false)/\∀w h ts,t=gE w h ts->Cd d w h ts ->
 ∃P Q,p5 d P (j2 ts)/\p5 d Q (ke ts)/\b=(eR P w&&(eR Q h&&GR.si (ts.map (eP P Q)) (P.length-1) (Q.length-1)))
noncomputable def pR:DSp:=fun ds Z K=>∃(d:Int) (t:PyData),ds=[.v (.int d),.v t]/\aL d/\K8 t/\∀b,Gi d t b->K (.v (.bool b)) Z
theorem zP{ds:List D}{Z:Mu}{Q:DK}(h:pR ds Z Q):ds.length=2:=by obtain⟨_,_,rfl,_⟩:=h;rfl
noncomputable def kJ:DTS:=
 (aO (cV (fA (dB (ay uq (ag (ai 0) (ag (ai 1) ar))))) (bp (dC (.bool false))) bL)
 (aO (bc (ai 1) (cM 3 (aH (aq 2) (aH (aq 3) (aH (aq 4) cY)))))
 (aO (bc (iL [none] (qX (ai 4)) (aq 0) ny (ay j8 (ag (ai 0) ar))) (aq 5))
 (aO (bc (ay nG (ag (ai 0) (ag (AN [none,none,none,none,none] (gW (ai 5)) (cM 4 (aH (aq 0) (aH (aq 1) (aH (aq 2) (aH (aq 3) cY))))) (qX (bq (ag (ai 0) (ag (ai 1) ar)))) (aq 4) (ai 4)) ar))) (aq 6))
 (aO (bc (ay nG (ag (ai 0) (ag (AN [none,none,none,none,none] (gW (ai 5)) (cM 4 (aH (aq 0) (aH (aq 1) (aH (aq 2) (aH (aq 3) cY))))) (qX (bq (ag (ai 2) (ag (ai 3) ar)))) (aq 4) (ai 4)) ar))) (aq 7))
 (bp (mS (ay pW (ag (ai 6) (ag (ai 2) ar))) (mS (ay pW (ag (ai 7) (ag (ai 3) ar))) (ay uE (ag (ai 5) (ag (ai 6) (ag (ai 7) ar))))))))))))
section
variable {Z:Mu}{Qd:DK}{ds:List D}
theorem qA{d:Int}{t:PyData}(h:cW d t=true):∃x:N3,t=dN x/\Ok x/\sg d x.a x.b=1:=by
 cases n:isNum t with
 |false=>rw[vz n] at h;cases h
 |true=>
  obtain⟨x,rfl,ox⟩:=fR n
  rw[j0 ox] at h
  exact⟨x,rfl,ox,of_decide_eq_true h⟩
theorem KW{d:Int}{t:PyData}(h:j7 d t=true):∃tl,t=tlD tl/\tw d tl:=by
 by_cases ht:∃xs,t = .tuple xs
 ·obtain⟨xs,rfl⟩:=ht
  by_cases l:xs.length=4
  ·obtain⟨a,b,c,e,rfl⟩:=Fn l
   rw[zJ] at h
   simp only[and_eq_true,decide_eq_true_iff] at h
   obtain⟨⟨na,nb,sa,sb⟩,hc,he⟩:=h
   obtain⟨x,rfl,ox⟩:=fR na
   obtain⟨y,rfl,oy⟩:=fR nb
   obtain⟨w,rfl,ow,sw⟩:=qA hc
   obtain⟨k,rfl,ok,sk⟩:=qA he
   exact⟨⟨x,y,w,k⟩,rfl,ox,oy,ow,ok,sa,sb,sw,sk⟩
  ·rw[yj l] at h;cases h
 ·rw[yb ht] at h;cases h
theorem Jf{d:Int}{ts:List PyData}(h:ts.all (j7 d)=true):∃us:List Tl,ts=us.map tlD/\∀t∈us,tw d t:=by
 induction ts with
 |nil=>exact⟨[],rfl,fun _ z=>absurd z not_mem_nil⟩
 |cons t ts ih=>
  rw[List.all_cons,and_eq_true] at h
  obtain⟨us,rfl,g⟩:=ih h.2
  obtain⟨tl,rfl,v⟩:=KW h.1
  exact⟨tl::us,rfl,fun x hx=>by
   rcases List.mem_cons.mp hx with rfl|hx
   ·exact v
   ·exact g x hx⟩
theorem Lc{d:Int}{t:PyData}(h:qV d t=true):∃w k ts,t=gE w k ts/\Cd d w k ts:=by
 by_cases ht:∃xs,t = .tuple xs
 ·obtain⟨xs,rfl⟩:=ht
  by_cases l:xs.length=3
  ·obtain⟨a,b,c,rfl⟩:=Cm l
   by_cases hc:∃ts,c = .tuple ts
   ·obtain⟨ts,rfl⟩:=hc
    unfold qV at h
    simp only[and_eq_true,decide_eq_true_iff] at h
    obtain⟨ha,hb,h1,h2,h3⟩:=h
    obtain⟨w,rfl,ow,sw⟩:=qA ha
    obtain⟨k,rfl,ok,sk⟩:=qA hb
    obtain⟨us,rfl,g⟩:=Jf h3
    rw[length_map] at h1 h2
    exact⟨w,k,us,rfl,ow,ok,sw,sk,h1,h2,g⟩
   ·rw[yQ hc] at h;cases h
  ·rw[yB l] at h;cases h
 ·rw[yd ht] at h;cases h
theorem Bp{t u:Tl}(h:tlD t=tlD u):t=u:=by
 cases t;cases u
 unfold tlD at h
 injection h with h
 simp only[List.cons.injEq,and_true] at h
 obtain⟨h1,h2,h3,h4⟩:=h
 rw[oV h1,oV h2,oV h3,oV h4]
theorem CA:∀{xs ys:List Tl},xs.map tlD=ys.map tlD->xs=ys
 |[],[],_=>rfl
 |[],_::_,h=>by cases h
 |_::_,[],h=>by cases h
 |x::xs,y::ys,h=>by
  rw[map_cons,map_cons] at h
  injection h with h1 h2
  rw[Bp h1,CA h2]
theorem BQ{w h w' h':N3}{ts ts':List Tl}(e:gE w h ts=gE w' h' ts'):w=w'/\h=h'/\ts=ts':=by
 unfold gE at e
 injection e with e
 simp only[List.cons.injEq,and_true,PyData.tuple.injEq] at e
 exact⟨oV e.1,oV e.2.1,CA e.2.2⟩
theorem yq{d:Int}(hd:aL d){P fs X:List N3}(m:p5 d P fs)(h:∀x∈fs,x∈X):P.length<=X.length:=GR.pig (lE hd m.up) fun x hx=>h x ((m.mem x).mp hx)
theorem JN{X Y:List N3}{ts:List Tl}(on:∀t∈ts,OnM X Y t):(∀x∈j2 ts,x∈X)/\(∀y∈ke ts,y∈Y):=by
 constructor
 ·intro x hx
  obtain⟨t,ht,h⟩:=List.mem_flatMap.mp hx
  simp only[mem_cons,not_mem_nil,or_false] at h
  rcases h with rfl|rfl
  ·exact (on t ht).l
  ·exact (on t ht).r
 ·intro x hx
  obtain⟨t,ht,h⟩:=List.mem_flatMap.mp hx
  simp only[mem_cons,not_mem_nil,or_false] at h
  rcases h with rfl|rfl
  ·exact (on t ht).b
  ·exact (on t ht).t
theorem Js{d:Int}{P Q:List N3}{ts:List Tl}(mp:p5 d P (j2 ts))(mq:p5 d Q (ke ts)):∀t∈ts,OnM P Q t:=fun t ht=>
 ⟨(mp.mem _).mpr (List.mem_flatMap.mpr ⟨t,ht,mem_cons_self⟩),(mp.mem _).mpr (List.mem_flatMap.mpr ⟨t,ht,mem_cons_of_mem _ mem_cons_self⟩),(mq.mem _).mpr (List.mem_flatMap.mpr ⟨t,ht,mem_cons_self⟩),(mq.mem _).mpr (List.mem_flatMap.mpr ⟨t,ht,mem_cons_of_mem _ mem_cons_self⟩)⟩
theorem JS{d:Int}{ts:List Tl}(v:∀t∈ts,tw d t)(b:∀t∈ts,Bd4 2100 t):∀m∈j2 ts,Ok m/\Bd 4400 m:=fun m hm=>by
 obtain⟨t,ht,h⟩:=List.mem_flatMap.mp hm
 have V:=v t ht
 have B:=b t ht
 simp only[mem_cons,not_mem_nil,or_false] at h
 rcases h with rfl|rfl
 ·exact⟨V.ox,B.x.mono ⋯⟩
 ·exact⟨cA V.ox V.ow,(gB V.ox V.ow B.x B.w).mono ⋯⟩
theorem Ja{d:Int}{ts:List Tl}(v:∀t∈ts,tw d t)(b:∀t∈ts,Bd4 2100 t):∀m∈ke ts,Ok m/\Bd 4400 m:=fun m hm=>by
 obtain⟨t,ht,h⟩:=List.mem_flatMap.mp hm
 have V:=v t ht
 have B:=b t ht
 simp only[mem_cons,not_mem_nil,or_false] at h
 rcases h with rfl|rfl
 ·exact⟨V.oy,B.y.mono ⋯⟩
 ·exact⟨cA V.oy V.oh,(gB V.oy V.oh B.y B.h).mono ⋯⟩
theorem rC{ts:List Tl}:(j2 ts).length=2*ts.length:=by
 unfold j2
 induction ts with
 |nil=>rfl
 |cons t ts ih=>rw[flatMap_cons,length_append,ih,length_cons];simp only[length_cons,length_nil];omega
theorem rL{ts:List Tl}:(ke ts).length=2*ts.length:=by
 unfold ke
 induction ts with
 |nil=>rfl
 |cons t ts ih=>rw[flatMap_cons,length_append,ih,length_cons];simp only[length_cons,length_nil];omega
def f2X:PyData->List PyData
 |.tuple [a,b,_,_]=>[a,b]
 |_=>[]
def f2Y:PyData->List PyData
 |.tuple [_,_,a,b]=>[a,b]
 |_=>[]
theorem JI(ts:List Tl):(ts.map qd).flatMap f2X=(j2 ts).map dN:=by
 induction ts with
 |nil=>rfl
 |cons t ts ih=>rw[map_cons,flatMap_cons,ih];rfl
theorem Iy(ts:List Tl):(ts.map qd).flatMap f2Y=(ke ts).map dN:=by
 induction ts with
 |nil=>rfl
 |cons t ts ih=>rw[map_cons,flatMap_cons,ih];rfl
theorem Lu{d:Int}{t:Tl}(v:tw d t):j7 d (tlD t)=true:=by
 unfold tlD
 rw[zJ,mi v.ox,mi v.oy,uf,uf,decide_eq_true v.sx,decide_eq_true v.sy,j0 v.ow,j0 v.oh,decide_eq_true v.sw,decide_eq_true v.sh]
 rfl
theorem KI{d:Int}{w k:N3}{ts:List Tl}(v:Cd d w k ts):qV d (gE w k ts)=true:=by
 show (cW d (dN w)&&(cW d (dN k)&&(decide (1<=(ts.map tlD).length)&&(decide ((ts.map tlD).length<=60)&&(ts.map tlD).all (j7 d)))))=true
 rw[j0 v.ow,j0 v.oh,decide_eq_true v.sw,decide_eq_true v.sh,length_map,decide_eq_true v.some,decide_eq_true v.few,List.all_map]
 simp only[Bool.true_and]
 exact List.all_eq_true.mpr fun t ht=>Lu (v.tile t ht)
theorem y8(h:pR ds Z Qd):kJ ‹Qd› (aP ["","","","","","","",""] ds) Z:=by
 obtain⟨d,t,rfl,hd,⟨fp,lay⟩,q⟩:=h
 unfold kJ
 walk_at "rb"
 refine⟨d,t,rfl,hd,fp,?_⟩
 walk_at "rb"
 cases fb:qV d t with
 |false=>
  rw[dY (by rfl)]
  walk_at "rb"
  exact q false ⟨fun _=>rfl,fun w k ts e v=>by rw[e,KI v] at fb;cases fb⟩
 |true=>
  rw[dj (by simp)]
  obtain⟨w,k,ts,rfl,v⟩:=Lc fb
  obtain⟨_,_,bd,X,Y,on,lX,lY,few⟩:=lay w k ts rfl
  have l60:=v.few
  have l1:=v.some
  unfold gE
  walk_at "rb"
  refine⟨trivial,?_⟩
  rw[kX]
  walk_at "rb"
  refine⟨by rw[length_map];omega,fun p hp=>⟨fun i acc U=>acc=(ts.take i).map qd/\U=aA Z p acc,⟨rfl,rfl⟩,?_,?_⟩⟩
  ·rintro i x acc U hx ha ⟨e0,e1⟩
   obtain⟨t,et,rfl⟩:∃t,ts[i]? = some t/\x=tlD t:=by
    rw[getElem?_map] at hx
    cases e:ts[i]? with
    |none=>rw[e] at hx;cases hx
    |some t=>rw[e] at hx;exact⟨t,rfl,(Option.some.inj hx).symm⟩
   have V:=v.tile t (mem_of_getElem? et)
   have B:=bd t (mem_of_getElem? et)
   walk_at "rb"
   refine⟨trivial,?_⟩
   rw[if_pos trivial]
   refine⟨d,t,rfl,⟨V.ox,V.oy,V.ow,V.oh,B.x,B.y,B.w,B.h⟩,?_⟩
   walk_at "rb"
   refine⟨ha,?_,?_⟩
   ·rw[e0,take_succ,et,map_append];rfl
   ·rw[e1,eN]
  rintro acc U ⟨e0,e1⟩ ha
  rw[length_map,take_length] at e0
  subst e0
  rw[e1,nV hp]
  rw[FP]
  walk_at "rb"
  refine⟨by rw[length_map];omega,f2X,by rw[JI,length_map,rC];omega,?_,?_⟩
  ·intro x hx U _
   obtain⟨t,ht,rfl⟩:=List.mem_map.mp hx
   unfold qd
   walk_at "rb"
   refine⟨trivial,trivial,trivial,trivial,id,rfl,fun y hy dL _=>⟨⟨trivial,trivial,trivial,trivial,trivial⟩,trivial,rfl⟩⟩
  rw[JI]
  refine⟨d,j2 ts,rfl,hd,JS v.tile bd,by rw[rC];omega,fun P mp=>?_⟩
  walk_at "rb"
  rw[FP]
  walk_at "rb"
  refine⟨by rw[length_map];omega,f2Y,by rw[Iy,length_map,rL];omega,?_,?_⟩
  ·intro x hx U _
   obtain⟨t,ht,rfl⟩:=List.mem_map.mp hx
   unfold qd
   walk_at "rb"
   refine⟨trivial,trivial,trivial,trivial,id,rfl,fun y hy dL _=>⟨⟨trivial,trivial,trivial,trivial,trivial⟩,trivial,rfl⟩⟩
  rw[Iy]
  refine⟨d,ke ts,rfl,hd,Ja v.tile bd,by rw[rL];omega,fun Q mq=>?_⟩
  walk_at "rb"
  have np:P≠[]:=fun e=>by
   have:j2 ts≠[]:=fun z=>by have:=rC (ts:=ts);rw[z] at this;simp at this;omega
   obtain⟨x,hx⟩:=List.exists_mem_of_ne_nil _ this
   have:=(mp.mem x).mpr hx
   rw[e] at this
   exact absurd this not_mem_nil
  have nq:Q≠[]:=fun e=>by
   have:ke ts≠[]:=fun z=>by have:=rL (ts:=ts);rw[z] at this;simp at this;omega
   obtain⟨x,hx⟩:=List.exists_mem_of_ne_nil _ this
   have:=(mq.mem x).mpr hx
   rw[e] at this
   exact absurd this not_mem_nil
  have done:∀b,b=(eR P w&&(eR Q k&&GR.si (ts.map (eP P Q)) (P.length-1) (Q.length-1)))->Qd (.v (.bool b)) Z:=fun b e=>by
   refine q b ⟨fun z=>?_,fun w' k' ts' e' v'=>?_⟩
   ·rw[fb] at z;cases z
   ·obtain⟨rfl,rfl,rfl⟩:=BQ e'
    exact⟨P,Q,mp,mq,e⟩
  refine⟨P,w,rfl,np,?_⟩
  walk_at "rb"
  cases r1:eR P w with
  |false=>
   rw[dj ⋯]
   exact done false (by rw[r1];rfl)
  |true=>
   rw[dY rfl]
   walk_at "rb"
   refine⟨Q,k,rfl,nq,?_⟩
   walk_at "rb"
   cases r2:eR Q k with
   |false=>
    rw[dj ⋯]
    exact done false (by rw[r1,r2];rfl)
   |true=>
    rw[dY rfl]
    walk_at "rb"
    obtain⟨oX,oY⟩:=JN on
    have fP:=yq hd mp oX
    have fQ:=yq hd mq oY
    have fm:(P.length-1)*(Q.length-1)<=X.length*Y.length:=mul_le_mul ∅ ∅
    refine⟨P,Q,ts,rfl,⟨lE hd mp.up,lE hd mq.up,np,nq,∅,∅,∅,Js mp mq,∅⟩,?_⟩
    walk_at "rb"
    exact done _ (by rw[r1,r2];rfl)
end
def pairD(e:N3×N3):PyData:=.tuple [dN e.1,dN e.2]
section
variable {Z:Mu}{Qd:DK}{ds:List D}
theorem AB{α:Type}{f:α->PyData}{es:List α}{i:Nat}{x:PyData}(h:(es.map f)[i]? = some x):∃e,es[i]? = some e/\x=f e:=by
 rw[getElem?_map] at h
 cases k:es[i]? with
 |none=>rw[k] at h;cases h
 |some e=>rw[k] at h;exact⟨e,rfl,(Option.some.inj h).symm⟩
theorem take_snoc{α:Type}{es:List α}{i:Nat}{e:α}(h:es[i]? = some e):es.take (i+1)=es.take i++[e]:=by rw[take_succ,h];rfl
end
section
variable {Z:Mu}{Qd:DK}{ds:List D}
def dS(x:Nat×Nat):List Int×PyData:=(fu x,.bool true)
theorem iB{x:Nat×Nat}:∀(l:List (Nat×Nat)),(bS (l.map dS) (fu x)).isSome=decide (x∈l)
 |[]=>rfl
 |y::l=>by
  rw[map_cons]
  by_cases e:y=x
  ·subst e
   rw[cT (show (dS y).1=fu y from rfl)]
   simp
  ·rw[cU (show ¬ (dS y).1=fu x from fun z=>e (B9 z)),iB l]
   refine decide_eq_decide.mpr ?_
   rw[mem_cons]
   exact⟨.inr,fun h=>h.resolve_left fun z=>e z.symm⟩
end
theorem yG{x y:N3}(ox:Ok x)(oy:Ok y):plus x (less y x)=y:=
 ((cE ox).plus ox (i8 oy ox) ((cE oy).less oy ox (cE ox))).eq (cA ox (i8 oy ox)) oy (cE oy) (by grind) (by grind)
theorem Ej{x y:N3}(ox:Ok x)(oy:Ok y):less (plus x y) x=y:=
 (((cE ox).plus ox oy (cE oy)).less (cA ox oy) ox (cE ox)).eq (i8 (cA ox oy) ox) oy (cE oy) (by grind) (by grind)
theorem J9{d:Int}{x y:N3}(hd:aL d)(ox:Ok x)(oy:Ok y):dif d (plus x y) x=sg d y.a y.b:=by rw[<- Bl hd (cA ox oy) ox,Ej ox oy]
theorem oH{d:Int}{x:N3}:dif d x aC=sg d x.a x.b:=by
 unfold dif aC
 simp only[Int.mul_one,Int.zero_mul,Int.sub_zero]
theorem EE{d:Int}{x:N3}(hd:aL d):0<=sg d x.a x.b↔¬ dif d aC x=1:=by
 rw[dif_neg hd,oH]
 have:=mT d x.a x.b
 omega
theorem BB{d:Int}(hd:aL d){P:List N3}(up:dm d P)(nn:∀x∈P,0<=sg d x.a x.b)(h0:aC∈P):P.head? = some aC:=by
 cases P with
 |nil=>exact absurd h0 not_mem_nil
 |cons x P=>
  rcases List.mem_cons.mp h0 with e|e
  ·rw[<- e];rfl
  ·exact absurd ((List.pairwise_cons.mp up).1 aC e) ((EE hd).mp (nn x mem_cons_self))
theorem Lz{P:List N3}{x:N3}(h:P.getLast? = some x)(hl:P.length-1<P.length):P[P.length-1]=x:=by
 rw[List.getLast?_eq_getElem?,getElem?_eq_getElem hl] at h
 exact Option.some.inj h
theorem Hj{P:List N3}{e:N3}:eR P e=true↔P.head? = some aC/\P.getLast? = some e:=by unfold eR;rw[and_eq_true,decide_eq_true_iff,decide_eq_true_iff]
theorem vB{P:List N3}{x:N3}(h:P.getLast? = some x):x∈P:=List.mem_of_mem_getLast? h
def i7(xs ys:List N3)(q:GR.Bx):Tl:=⟨xs.getD q.l aC,ys.getD q.b aC,less (xs.getD q.r aC) (xs.getD q.l aC),less (ys.getD q.t aC) (ys.getD q.b aC)⟩
structure fX(d:Int)(xs:List N3)(C:Nat):Prop where
 len:xs.length=C+1
 up:dm d xs
 ok:∀x∈xs,Ok x
 zero:xs[0]? = some aC
theorem getD_at{xs:List N3}{i:Nat}(h:i<xs.length):xs.getD i aC=xs[i]:=by
 rw[List.getD_eq_getElem?_getD,getElem?_eq_getElem h];rfl
theorem NF{xs:List N3}{i:Nat}(nd:xs.Nodup)(h:i<xs.length):xs.idxOf xs[i]=i:=by
 have hm:xs[i]∈xs:=getElem_mem h
 have e:=GR.uB hm
 have hl:=GR.cZ hm
 rcases Nat.lt_trichotomy (xs.idxOf xs[i]) i with z|z|z
 ·exact absurd e (List.pairwise_iff_getElem.mp nd _ _ hl h z)
 ·exact z
 ·exact absurd e.symm (List.pairwise_iff_getElem.mp nd _ _ h hl z)
theorem idx_map{P:List N3}{f:N3->Nat}{x:N3}(hx:x∈P)(inj:∀a∈P,∀b∈P,f a=f b->a=b):P.idxOf x=(P.map f).idxOf (f x):=by
 induction P with
 |nil=>exact absurd hx not_mem_nil
 |cons y P ih=>
  rw[map_cons,List.idxOf_cons,List.idxOf_cons]
  by_cases e:y=x
  ·subst e;simp
  ·have e2:f y≠f x:=fun z=>e (inj y mem_cons_self x hx z)
   have hx':x∈P:=by
    rcases List.mem_cons.mp hx with z|z
    ·exact absurd z.symm e
    ·exact z
   simp only[beq_iff_eq,e,e2,if_false,cond_false,beq_eq_false_iff_ne.mpr e,beq_eq_false_iff_ne.mpr e2]
   rw[ih hx' fun a ha b hb=>inj a (mem_cons_of_mem _ ha) b (mem_cons_of_mem _ hb)]
theorem NS{d:Int}(hd:aL d){xs:List N3}(up:dm d xs){a b:N3}(ha:a∈xs)(hb:b∈xs)(h:dif d b a=1):xs.idxOf a<xs.idxOf b:=by
 have ea:=GR.uB ha
 have eb:=GR.uB hb
 rcases Nat.lt_trichotomy (xs.idxOf a) (xs.idxOf b) with z|z|z
 ·exact z
 ·have:xs[xs.idxOf a]'(GR.cZ ha)=xs[xs.idxOf b]'(GR.cZ hb):=by congr 1
  rw[ea,eb] at this
  rw[this] at h
  exact absurd h (AM hd)
 ·have:=List.pairwise_iff_getElem.mp up _ _ (GR.cZ hb) (GR.cZ ha) z
  rw[ea,eb] at this
  rw[dif_neg hd,this] at h
  exact absurd h ⋯
theorem Nq{d:Int}(hd:aL d){xs P:List N3}(up:dm d xs)(hp:dm d P)(sub:∀x∈P,x∈xs):GR.Up (P.map xs.idxOf):=by
 unfold GR.Up
 rw[List.pairwise_map]
 exact List.Pairwise.imp_of_mem (fun {a b} ha hb h=>NS hd up (sub a ha) (sub b hb) h) hp
theorem LI{d:Int}(hd:aL d){P:List N3}{w:N3}(up:dm d P)(hw:w∈P)(top:∀x∈P,¬ dif d x w=1):P.getLast? = some w:=by
 have l0:0<P.length:=List.length_pos_of_mem hw
 rw[List.getLast?_eq_getElem?,getElem?_eq_getElem ∅]
 have e:=GR.uB hw
 have hl:=GR.cZ hw
 rcases lt_or_ge (P.idxOf w) (P.length-1) with z|z
 ·have:=List.pairwise_iff_getElem.mp up _ _ hl ∅ z
  rw[e] at this
  exact absurd this (top _ (getElem_mem _))
 ·have:P[P.idxOf w]'hl=P[P.length-1]:=by congr 1;omega
  rw[<- this,e]
theorem fX.at{d:Int}{xs:List N3}{C i:Nat}(f:fX d xs C)(h:i<=C):i<xs.length:=by have:=f.len;omega
theorem fX.bX{d:Int}{xs:List N3}{C i:Nat}(f:fX d xs C)(h:i<=C):Ok (xs.getD i aC):=by rw[getD_at (f.at h)];exact f.ok _ (getElem_mem _)
theorem fX.lt{d:Int}{xs:List N3}{C i j:Nat}(f:fX d xs C)(h:i<j)(hj:j<=C):dif d (xs.getD j aC) (xs.getD i aC)=1:=by
 rw[getD_at (f.at hj),getD_at (f.at ∅)]
 exact List.pairwise_iff_getElem.mp f.up _ _ _ _ h
theorem fX.nn{d:Int}(hd:aL d){xs:List N3}{C i:Nat}(f:fX d xs C)(h:i<=C):0<=sg d (xs.getD i aC).a (xs.getD i aC).b:=by
 have z:xs.getD 0 aC=aC:=by rw[List.getD_eq_getElem?_getD,f.zero];rfl
 cases i with
 |zero=>rw[z,show sg d aC.a aC.b=0 from gr.mpr ⟨rfl,rfl⟩];exact Int.le_refl _
 |succ i=>
  have:=f.lt (i:=0) (j:=i+1) ∅ h
  rw[z,oH] at this
  omega
theorem fX.pos{d:Int}{xs:List N3}{C:Nat}(f:fX d xs C)(h:0<C):sg d (xs.getD C aC).a (xs.getD C aC).b=1:=by
 have z:xs.getD 0 aC=aC:=by rw[List.getD_eq_getElem?_getD,f.zero];rfl
 have:=f.lt (i:=0) (j:=C) h (le_refl _)
 rw[z,oH] at this
 exact this
theorem zZ{d:Int}{xs ys:List N3}{C R:Nat}(fx:fX d xs C){q:GR.Bx}(hl:q.l<q.r)(hr:q.r<=C):plus (i7 xs ys q).x (i7 xs ys q).w=xs.getD q.r aC:=yG (fx.bX ∅) (fx.bX hr)
theorem AL{d:Int}{xs ys:List N3}{C R:Nat}(fy:fX d ys R){q:GR.Bx}(hl:q.b<q.t)(hr:q.t<=R):plus (i7 xs ys q).y (i7 xs ys q).h=ys.getD q.t aC:=yG (fy.bX ∅) (fy.bX hr)
theorem Ou{d:Int}(hd:aL d){xs ys:List N3}{C R:Nat}(fx:fX d xs C)(fy:fX d ys R){q:GR.Bx}(h:q.l<q.r/\q.r<=C/\q.b<q.t/\q.t<=R):tw d (i7 xs ys q) where
 ox:=fx.bX ∅
 oy:=fy.bX ∅
 ow:=i8 (fx.bX ∅) (fx.bX ∅)
 oh:=i8 (fy.bX ∅) (fy.bX ∅)
 sx:=fx.nn hd ∅
 sy:=fy.nn hd ∅
 sw:=by
  show sg d (less _ _).a (less _ _).b=1
  rw[Bl hd (fx.bX ∅) (fx.bX ∅)]
  exact fx.lt h.1 h.2.1
 sh:=by
  show sg d (less _ _).a (less _ _).b=1
  rw[Bl hd (fy.bX ∅) (fy.bX ∅)]
  exact fy.lt h.2.2.1 h.2.2.2
theorem Gr{d:Int}(hd:aL d){xs P es:List N3}{C:Nat}(f:fX d xs C)(hC:0<C)(mp:p5 d P es)(sub:∀x∈es,x∈xs)(h0:aC∈es)(h1:xs.getD C aC∈es) :
  eR P (xs.getD C aC)=true/\GR.Up (P.map xs.idxOf)/\(∀a∈P.map xs.idxOf,a<=C)/\(∀i,i<=C->xs.getD i aC∈es->i∈P.map xs.idxOf/\P.idxOf (xs.getD i aC)=(P.map xs.idxOf).idxOf i):=by
 have subP:∀x∈P,x∈xs:=fun x hx=>sub x ((mp.mem x).mp hx)
 have nd:=lE hd f.up
 have nnx:∀x∈xs,0<=sg d x.a x.b:=fun x hx=>by
  obtain⟨i,hi,rfl⟩:=List.mem_iff_getElem.mp hx
  have:=f.nn hd (i:=i) (by have:=f.len;omega)
  rw[getD_at hi] at this
  exact this
 have inj:∀a∈P,∀b∈P,xs.idxOf a=xs.idxOf b->a=b:=fun a ha b hb e=>by
  have e1:=GR.uB (subP a ha)
  have e2:=GR.uB (subP b hb)
  have:xs[xs.idxOf a]'(GR.cZ (subP a ha))=xs[xs.idxOf b]'(GR.cZ (subP b hb)):=by congr 1
  rw[e1,e2] at this
  exact this
 refine⟨Hj.mpr ⟨BB hd mp.up (fun x hx=>nnx x (subP x hx)) ((mp.mem _).mpr h0),LI hd mp.up ((mp.mem _).mpr h1) fun x hx h=>?_⟩,Nq hd f.up mp.up subP,fun a ha=>?_,fun i hi he=>?_⟩
 ·obtain⟨i,hi,rfl⟩:=List.mem_iff_getElem.mp (subP x hx)
  have hi':i<=C:=by have:=f.len;omega
  rcases lt_or_eq_of_le hi' with z|z
  ·have:=f.lt z (le_refl _)
   rw[getD_at hi] at this
   rw[dif_neg hd,this] at h
   exact absurd h ⋯
  ·subst z
   rw[getD_at hi] at h
   exact AM hd h
 ·obtain⟨x,hx,rfl⟩:=List.mem_map.mp ha
  have:=GR.cZ (subP x hx)
  have:=f.len
  omega
 ·have hp:xs.getD i aC∈P:=(mp.mem _).mpr he
  have e:xs.idxOf (xs.getD i aC)=i:=by rw[getD_at (f.at hi)];exact NF nd (f.at hi)
  refine⟨List.mem_map.mpr ⟨_,hp,e⟩,?_⟩
  rw[idx_map hp inj,e]
theorem GU{d:Int}(hd:aL d){xs ys:List N3}{C R:Nat}(fx:fX d xs C)(fy:fX d ys R)(hC:0<C)(hR:0<R){qs:List GR.Bx}(cov:GR.gZ qs C R){P Q:List N3}(mp:p5 d P (j2 (qs.map (i7 xs ys))))(mq:p5 d Q (ke (qs.map (i7 xs ys)))) :
  (eR P (xs.getD C aC)&&(eR Q (ys.getD R aC)&&GR.si ((qs.map (i7 xs ys)).map (eP P Q)) (P.length-1) (Q.length-1)))=true:=by
 have inX:∀q∈qs,xs.getD q.l aC∈j2 (qs.map (i7 xs ys))/\xs.getD q.r aC∈j2 (qs.map (i7 xs ys)):=fun q hq=>by
  have h:=cov.fits q hq
  refine⟨List.mem_flatMap.mpr ⟨_,mem_map_of_mem hq,mem_cons_self⟩,List.mem_flatMap.mpr ⟨_,mem_map_of_mem hq,?_⟩⟩
  rw[zZ (R:=R) fx h.1 h.2.1]
  exact mem_cons_of_mem _ mem_cons_self
 have inY:∀q∈qs,ys.getD q.b aC∈ke (qs.map (i7 xs ys))/\ys.getD q.t aC∈ke (qs.map (i7 xs ys)):=fun q hq=>by
  have h:=cov.fits q hq
  refine⟨List.mem_flatMap.mpr ⟨_,mem_map_of_mem hq,mem_cons_self⟩,List.mem_flatMap.mpr ⟨_,mem_map_of_mem hq,?_⟩⟩
  rw[AL (C:=C) fy h.2.2.1 h.2.2.2]
  exact mem_cons_of_mem _ mem_cons_self
 have subX:∀x∈j2 (qs.map (i7 xs ys)),x∈xs:=fun x hx=>by
  obtain⟨t,ht,h⟩:=List.mem_flatMap.mp hx
  obtain⟨q,hq,rfl⟩:=List.mem_map.mp ht
  have g:=cov.fits q hq
  rw[zZ (R:=R) fx g.1 g.2.1] at h
  simp only[mem_cons,not_mem_nil,or_false] at h
  rcases h with rfl|rfl
  ·show xs.getD q.l aC∈xs
   rw[getD_at (fx.at ∅)];exact getElem_mem _
  ·rw[getD_at (fx.at ∅)];exact getElem_mem _
 have subY:∀x∈ke (qs.map (i7 xs ys)),x∈ys:=fun x hx=>by
  obtain⟨t,ht,h⟩:=List.mem_flatMap.mp hx
  obtain⟨q,hq,rfl⟩:=List.mem_map.mp ht
  have g:=cov.fits q hq
  rw[AL (C:=C) fy g.2.2.1 g.2.2.2] at h
  simp only[mem_cons,not_mem_nil,or_false] at h
  rcases h with rfl|rfl
  ·show ys.getD q.b aC∈ys
   rw[getD_at (fy.at ∅)];exact getElem_mem _
  ·rw[getD_at (fy.at ∅)];exact getElem_mem _
 have zx:xs.getD 0 aC=aC:=by rw[List.getD_eq_getElem?_getD,fx.zero];rfl
 have zy:ys.getD 0 aC=aC:=by rw[List.getD_eq_getElem?_getD,fy.zero];rfl
 obtain⟨⟨q1,m1,e1⟩,⟨q2,m2,e2⟩,⟨q3,m3,e3⟩,⟨q4,m4,e4⟩⟩:=cov.ends hC hR
 obtain⟨r1,u1,a1,i1⟩:=Gr hd fx hC mp subX (by have:=(inX q1 m1).1;rw[e1,zx] at this;exact this) (by have:=(inX q2 m2).2;rw[e2] at this;exact this)
 obtain⟨r2,u2,a2,i2⟩:=Gr hd fy hR mq subY (by have:=(inY q3 m3).1;rw[e3,zy] at this;exact this) (by have:=(inY q4 m4).2;rw[e4] at this;exact this)
 rw[r1,r2,Bool.true_and,Bool.true_and]
 have g:∀q∈qs,GR.OnG (P.map xs.idxOf) (Q.map ys.idxOf) q:=fun q hq=>by
  have h:=cov.fits q hq
  exact⟨(i1 q.l ∅ (inX q hq).1).1,(i1 q.r ∅ (inX q hq).2).1,(i2 q.b ∅ (inY q hq).1).1,(i2 q.t ∅ (inY q hq).2).1⟩
 have key:=GR.My u1 u2 cov g a1 a2
 rw[length_map,length_map] at key
 have e:(qs.map (i7 xs ys)).map (eP P Q)=qs.map (GR.cb (P.map xs.idxOf) (Q.map ys.idxOf)):=by
  rw[map_map]
  refine List.map_congr_left fun q hq=>?_
  have h:=cov.fits q hq
  show eP P Q (i7 xs ys q)=_
  unfold eP GR.cb
  rw[zZ (R:=R) fx h.1 h.2.1,AL (C:=C) fy h.2.2.1 h.2.2.2,<- (i1 q.l ∅ (inX q hq).1).2,<- (i1 q.r ∅ (inX q hq).2).2,<- (i2 q.b ∅ (inY q hq).1).2,<- (i2 q.t ∅ (inY q hq).2).2]
  rfl
 rw[e]
 exact key
theorem bj{P:Program}{w:World}{K:PySem.W.Frag}{mg:Str->Option Value}{base:Heap}{CX:CXT}{k:Nat}{f:Addr}{fd:FuncData}{ps:List Str}{sp sp':DSp}(F:bC P w K mg base CX k f fd ps (spD K sp))
  (h:∀ds Z Qd,sp' ds Z Qd->sp ds Z Qd):bC P w K mg base CX k f fd ps (spD K sp'):=by
 refine F.imp fun vs H Q E h'=>?_
 obtain⟨ds,Z,Qd,ok,r,s,kk⟩:=h'
 exact⟨ds,Z,Qd,ok,r,h _ _ _ s,kk⟩
noncomputable def Me(a:Addr)(Z U:Mu):Prop:=Step a Z U/\∀b,U.b b=Z.b b
noncomputable def kT:DSp:=fun ds Z Q=>∃(a:Addr) (n:Int),ds=[.m a,.v (.int n)]/\1<=n/\n<=1000000000/\Bag Z a/\∀r U,0<=r->r<n->Me a Z U->Q (.v (.int r)) U
theorem Cq{ds:List D}{Z:Mu}{Q:DK}(h:kT ds Z Q):ds.length=2:=by obtain⟨_,_,rfl,_⟩:=h;rfl
theorem aT(ds:List D)(Z:Mu)(Qd:DK)(h:bE ds Z Qd):kT ds Z Qd:=by
 obtain⟨a,n,rfl,h1,h2,hb,q⟩:=h
 exact⟨a,n,rfl,h1,h2,hb,fun r U r0 r1 s=>q r U r0 r1 s.1⟩
def bxD(q:GR.Bx):PyData:=.tuple [.int (q.l:Nat),.int (q.b:Nat),.int ((q.r-q.l:Nat):Int),.int ((q.t-q.b:Nat):Int)]
noncomputable def zq:DSp:=fun ds Z Q=>∃(p:Addr) (done:List (Nat×Nat)) (c r C:Nat),ds=[.b p,.v (.int (c:Nat)),.v (.int (r:Nat)),.v (.int (C:Nat))]/\Z.b p=some (.dict (done.map dS))/\done.length<=9000/\c<=C /\
 ∀n:Nat,c+n<=C->(∀i,c<=i->i<c+n->(i,r) ∉ done)->(c+n=C\/(c+n,r)∈done)->Q (.v (.int (n:Nat))) Z
theorem Ex{ds:List D}{Z:Mu}{Q:DK}(h:zq ds Z Q):ds.length=4:=by obtain⟨_,_,_,_,_,rfl,_⟩:=h;rfl
noncomputable def sA:DSp:=fun ds Z Q=>∃(a:Addr) (C R:Nat),ds=[.m a,.v (.int (C:Nat)),.v (.int (R:Nat))]/\0<C/\0<R/\C<=60/\R<=60/\C*R<=900/\Bag Z a /\
 ∀f qs U,Z f=none->GR.gZ qs C R->U f=some (qs.map bxD)->iD a Z U->Q (.m f) U
noncomputable def vF:DSp:=fun ds Z Q=>∃(a:Addr) (C R:Nat),ds=[.m a,.v (.int (C:Nat)),.v (.int (R:Nat))]/\0<C/\0<R/\C<=60/\R<=60/\C*R<=900/\Bag Z a /\
 ∀qs U,GR.gZ qs C R->iD a Z U->Q (.v (.list (qs.map bxD))) U
theorem xF{ds:List D}{Z:Mu}{Q:DK}(h:sA ds Z Q):ds.length=3:=by obtain⟨_,_,_,rfl,_⟩:=h;rfl
theorem iD.off{a f:Addr}{Z U:Mu}(hf:Z f=none)(hb:Bag Z a)(h:iD a Z U):iD a Z (uG U f):=by
 have af:a≠f:=fun e=>by obtain⟨g,m,h,_⟩:=hb;rw[e,hf] at h;cases h
 obtain⟨⟨g,m,e,r⟩,k⟩:=h
 refine⟨⟨g,m,by rw[qB af];exact e,r⟩,fun b hb ds hd=>?_⟩
 have bf:b≠f:=fun e=>by rw[e,hf] at hd;cases hd
 rw[qB bf]
 exact k b hb ds hd
theorem tM{ds:List D}{Z:Mu}{Qd:DK}(h:vF ds Z Qd):sA ds Z (MV Z Qd):=by
 obtain⟨a,C,R,rfl,h1,h2,h3,h4,h5,hb,q⟩:=h
 exact⟨a,C,R,rfl,h1,h2,h3,h4,h5,hb,fun f qs U hf cov e st=>⟨hf,_,e,q qs _ cov (st.off hf hb)⟩⟩
noncomputable def jF:DTS:=
 (aO (cV (dB (dOp rGt (dOp aN (ai 0) (dC (.int 0))) (dC (.int 0)))) (aO (bc (uL (dOp aN (ai 0) (dC (.int 0))) (ai 1)) (aq 2))
 (aO (bc (su (dOp aN (ai 0) (dC (.int 0))) (ai 1)) (Fh (ai 0) (dC (.int 0))))
 (bp (ai 2)))) bL)
 (aO (bc (uL (cp (cw (dOp aN (ai 0) (dC (.int 1))) (dC (.int 48271))) (dC (.int 2531011))) (dC (.int 2147483647))) (Fh (ai 0) (dC (.int 1))))
 (bp (uL (su (uL (M9 (dOp aN (ai 0) (dC (.int 1))) (dC (.int 3))) (dC (.int 2147483629))) (dC (.int 64))) (ai 1)))))
noncomputable def k6:DTS:=
 (aO (bc (dC (.int 0)) (aq 4))
 (aO (se (uO (dB (dOp rLt (cp (ai 1) (ai 4)) (ai 3))) (dB (dOp (Ew true) (bq (ag (cp (ai 1) (ai 4)) (ag (ai 2) ar))) (ai 0)))) (bc (cp (ai 4) (dC (.int 1))) (aq 4)))
 (bp (ai 4))))
section
variable {Z:Mu}{Qd:DK}{ds:List D}
theorem xR(h:kT ds Z Qd):jF ‹Qd› (aP ["","",""] ds) Z:=by
 obtain⟨a,n,rfl,h0,h1,⟨g,m,hb,hg,hm,hm'⟩,q⟩:=h
 unfold jF
 walk_at "rn"
 rw[hb]
 walk_at "rn"
 rw[hb]
 walk_at "rn"
 have n0:n≠0:=by omega
 have i0:ixN 2 0=some 0:=by rfl
 have i1:ixN 2 1=some 1:=by rfl
 by_cases hg0:0<g
 ·rw[if_pos (by simpa using hg0)]
  simp only[hb]
  walk_at "rn"
  obtain⟨r0,r1⟩:=nu g (show 0<n by omega)
  refine⟨n0,?_⟩
  simp only[hb]
  walk_at "rn"
  refine⟨divC n0 ∅,?_⟩
  simp only[hb,length_cons,length_nil,Nat.reduceAdd,i0,List.set_cons_zero]
  exact q _ _ r0 r1 ⟨Step.set (LK hg ∅) hm hm',fun _=>rfl⟩
 ·rw[if_neg (by simpa using hg0)]
  simp only[hb,i1,aD]
  walk_at "rn"
  obtain⟨s0,s1⟩:=nu (m*48271+2531011) (show (0:Int)<2147483647 by decide)
  generalize (m*48271+2531011).fmod 2147483647=w at s0 s1 ⊢
  obtain⟨r0,r1⟩:=nu ((((w ^ Int.toNat 3).fmod 2147483629).fdiv 64)) (show 0<n by omega)
  refine⟨mulL ∅,⋯,?_⟩
  refine⟨⟨⋯,⋯,∅⟩,(by show (2147483629:Int)≠0;decide),divC ⋯ ⋯,n0,?_⟩
  exact q _ _ r0 r1 ⟨Step.set hg s0 ∅,fun _=>rfl⟩
theorem HN{x:Nat×Nat}{l:List (Nat×Nat)}(h:x ∉ l):bS (l.map dS) (fu x)=none:=by
 have:=iB (x:=x) l
 rw[decide_eq_false h] at this
 cases z:bS (l.map dS) (fu x) with
 |none=>rfl
 |some v=>rw[z] at this;cases this
theorem Hq{x:Nat×Nat}{l:List (Nat×Nat)}:hU (l.map dS) (fu x) (.bool true)=(if x∈l then l else l++[x]).map dS:=by
 by_cases h:x∈l
 ·rw[if_pos h]
  unfold hU
  rw[iB,decide_eq_true h,if_pos rfl,map_map]
  refine List.map_congr_left fun y _=>?_
  show (if (dS y).1=fu x then ((dS y).1,PyData.bool true) else dS y)=dS y
  split<;>rfl
 ·rw[if_neg h,IJ (HN h),map_append]
  rfl
theorem Ay(h:zq ds Z Qd):k6 ‹Qd› (aP ["","","","",""] ds) Z:=by
 obtain⟨p,done,c,r,C,rfl,hp,few,hc,q⟩:=h
 unfold k6
 walk_at "rb"
 rw[Fi]
 refine⟨fun m ρ U=>∃n:Nat,ρ=[some (.b p),some (.v (.int (c:Nat))),some (.v (.int (r:Nat))),some (.v (.int (C:Nat))),some (.v (.int (n:Nat)))]/\U=Z/\m=C-(c+n)/\c+n<=C/\∀i,c<=i->i<c+n->(i,r) ∉ done,⟨_,0,rfl,rfl,rfl,∅,fun i h1 h2=>by omega⟩,?_⟩
 rintro m ρ U ⟨n,rfl,rfl,rfl,h1,h2⟩
 walk_at "rb"
 by_cases g:c+n<C
 ·rw[dY (decide_eq_true ∅)]
  walk_at "rb"
  have kc:ni (.v (.tuple [.int ((c:Nat)+(n:Nat)),.int (r:Nat)]))=some (fu (c+n,r)):=by
   show some _=some _
   unfold fu
   simp only[Int.natCast_add]
  refine⟨_,p,_,kc,rfl,hp,by show (done.map dS).length<=9800;rw[length_map];omega,fun _=>⟨_,rfl⟩,?_⟩
  walk_at "rb"
  have lc:=iB (x:=(c+n,r)) done
  by_cases cc:(c+n,r)∈done
  ·rw[if_neg (by show ¬ (!(bS _ _).isSome)=true;rw[lc,decide_eq_true cc];decide)]
   exact q n h1 h2 (.inr cc)
  ·rw[if_pos (by show (!(bS _ _).isSome)=true;rw[lc,decide_eq_false cc];decide)]
   refine⟨_,?_,n+1,by simp,trivial,rfl,∅,fun i i1 i2=>?_⟩
   ·omega
   ·rcases lt_or_ge i (c+n) with z|z
    ·exact h2 i i1 z
    ·rw[show i=c+n by omega];exact cc
 ·rw[dj (by simp;omega)]
  walk_at "rb"
  exact q n h1 h2 (.inl ∅)
end
structure Blk(Z:Mu)(a p f:Addr)(L:List GR.Bx)(done:List (Nat×Nat))(U:Mu):Prop where
 bag:Bag U a
 keep:∀b,b≠a->∀ds,Z b=some ds->U b=some ds
 hf:U f=some (L.map bxD)
 hp:U.b p=some (.dict (done.map dS))
 nd:done.Nodup
 nf:Z f=none
 af:a≠f
noncomputable def iZ:DTS:=
 (aO (bc AY (aq 3))
 (aO (bc (sL ar) (aq 4))
 (aO (bc (dOp aN (lS (ag (dC (.int 1)) (ag (dC (.int 2)) (ag (dC (.int 4)) (ag (dC (.int 60)) ar))))) (ay kT (ag (ai 0) (ag (dC (.int 4)) ar)))) (aq 5))
 (aO (qr (nB (ag (ai 2) ar)) (aq 6) (qr (nB (ag (ai 1) ar)) (aq 7) (cV (dB (dOp (Ew true) (bq (ag (ai 7) (ag (ai 6) ar))) (ai 3))) (aO (bc (cp (dC (.int 1)) (ay kT (ag (ai 0) (ag (dCB (A2 min) (ag (ai 5) (ag (ay zq (ag (ai 3) (ag (ai 7) (ag (ai 6) (ag (ai 1) ar))))) ar))) ar)))) (aq 8))
 (aO (bc (cp (dC (.int 1)) (ay kT (ag (ai 0) (ag (dCB (A2 min) (ag (ai 5) (ag (lZ (ai 2) (ai 6)) ar))) ar)))) (aq 9))
 (aO (lK (CD (ai 4) (bq (ag (ai 7) (ag (ai 6) (ag (ai 8) (ag (ai 9) ar)))))))
 (qr (nB (ag (cw (ai 8) (ai 9)) ar)) (aq 10) (Gx (ai 3) (bq (ag (cp (ai 7) (uL (ai 10) (ai 8))) (ag (cp (ai 6) (su (ai 10) (ai 8))) ar))) (dC (.bool true))))))) bL)))
 (bp (ai 4))))))
section
variable {Z:Mu}{Qd:DK}{ds:List D}
theorem Bag.off{Z:Mu}{a f:Addr}{es:List PyData}(h:Bag Z a)(n:a≠f):Bag (aA Z f es) a:=by
 obtain⟨g,m,e,r⟩:=h
 exact⟨g,m,by rw[aQ n];exact e,r⟩
theorem Blk.step{a p f:Addr}{L:List GR.Bx}{done:List (Nat×Nat)}{ad am:Mu}(h:Blk Z a p f L done ad)(s:Me a ad am):Blk Z a p f L done am where
 bag:=s.1.1
 keep:=fun b n ds e=>by rw[s.1.2 b n];exact h.keep b n ds e
 hf:=by rw[s.1.2 f h.af.symm];exact h.hf
 hp:=by rw[s.2 p];exact h.hp
 nd:=h.nd
 nf:=h.nf
 af:=h.af
theorem Blk.app{a p f:Addr}{L:List GR.Bx}{q:GR.Bx}{done:List (Nat×Nat)}{ad:Mu}(h:Blk Z a p f L done ad):Blk Z a p f (L++[q]) done (aA ad f (L.map bxD++[bxD q])) where
 bag:=h.bag.off h.af
 keep:=fun b n ds e=>by
  have bf:b≠f:=fun z=>by rw[z,h.nf] at e;cases e
  rw[aQ bf]
  exact h.keep b n ds e
 hf:=by rw[aD,map_append];rfl
 hp:=h.hp
 nd:=h.nd
 nf:=h.nf
 af:=h.af
theorem Blk.put{a p f:Addr}{L:List GR.Bx}{x:Nat×Nat}{done:List (Nat×Nat)}{ad:Mu}(h:Blk Z a p f L done ad):Blk Z a p f L (if x∈done then done else done++[x]) (bg ad p (.dict (hU (done.map dS) (fu x) (.bool true)))) where
 bag:=h.bag
 keep:=h.keep
 hf:=h.hf
 hp:=by rw[bo,Hq]
 nd:=by
  split
  ·exact h.nd
  ·rename_i hx
   exact List.nodup_append.mpr ⟨h.nd,by simp,fun a ha b hb e=>hx (by rw[List.mem_singleton.mp hb] at e;exact e▸ha)⟩
 nf:=h.nf
 af:=h.af
theorem Dk{x y:Nat×Nat}{c r w h k:Nat}(hk:k<w*h):(c+k % w,r+k / w)∈GR.cellsOf ⟨c,c+w,r,r+h⟩:=by
 have hw:0<w:=by
  rcases Nat.eq_zero_or_pos w with z|z
  ·rw[z,Nat.zero_mul] at hk;omega
  ·exact z
 have a:=Nat.mod_lt k hw
 have b:k / w<h:=Nat.div_lt_of_lt_mul hk
 rw[GR.bG]
 generalize k % w=u at a
 generalize k / w=v at b
 unfold GR.Bx.has
 dsimp only
 omega
theorem rg{qs:List GR.Bx}{C R:Nat}(fits:∀q∈qs,q.l<q.r/\q.r<=C/\q.b<q.t/\q.t<=R)(ap:qs.Pairwise GR.Apart):qs.length<=C*R:=by
 have nd:(qs.map fun q=>(q.l,q.b)).Nodup:=by
  unfold List.Nodup
  rw[List.pairwise_map]
  refine List.Pairwise.imp_of_mem (fun {a b} ha hb h e=>?_) ap
  have fa:=fits a ha
  have fb:=fits b hb
  injection e with e1 e2
  exact h a.l a.b ⟨le_refl _,fa.1,le_refl _,fa.2.2.1⟩ ⟨∅,∅,∅,∅⟩
 have:=GR.pig nd (m:=GR.cellsOf ⟨0,C,0,R⟩) fun x hx=>by
  obtain⟨q,hq,rfl⟩:=List.mem_map.mp hx
  have f:=fits q hq
  exact GR.bG.mpr ⟨zero_le _,by show q.l<C;omega,zero_le _,by show q.b<R;omega⟩
 rw[length_map,GR.qQ] at this
 exact this
theorem Jp{i j c r w h:Nat}(hc:(i,j)∈GR.cellsOf ⟨c,c+w,r,r+h⟩):∃k,k<w*h/\(i,j)=(c+k % w,r+k / w):=by
 rw[GR.bG] at hc
 unfold GR.Bx.has at hc
 dsimp only at hc
 have hw:0<w:=by omega
 have hlt:i-c<w:=by omega
 refine⟨(i-c)+w*(j-r),?_,?_⟩
 ·have:w*(j-r)+w<=w*h:=by
   rw[<- Nat.mul_succ]
   exact Nat.mul_le_mul_left _ ∅
  omega
 ·rw[Nat.add_mul_mod_self_left,Nat.mod_eq_of_lt hlt,Nat.add_mul_div_left _ _ hw,Nat.div_eq_of_lt hlt]
  refine Prod.ext ?_ ?_<;>dsimp only<;>omega
theorem vE{L:List GR.Bx}{q:GR.Bx}:GR.cells (L++[q])=GR.cells L++GR.cellsOf q:=by unfold GR.cells;rw[List.flatMap_append];simp
theorem vg(h:sA ds Z Qd):iZ ‹Qd› (aP ["","","","","","","","","","",""] ds) Z:=by
 obtain⟨a,C,R,rfl,hC,hR,c60,r60,cr,hb,q⟩:=h
 unfold iZ
 walk_at "rb"
 intro p hp f hf
 have hf':Z f=none:=hf
 have af:a≠f:=fun e=>by obtain⟨g,m,h,_⟩:=hb;rw[e,hf'] at h;cases h
 refine⟨a,4,rfl,⋯,⋯,hb.off af,fun r ad r0 r1 s1=>?_⟩
 have base:Blk Z a p f [] [] (aA (bg Z p (.dict [])) f []):=⟨Bag.off hb af,fun b n ds e=>by
  have bf:b≠f:=fun z=>by rw[z,hf'] at e;cases e
  rw[aQ bf]
  exact e,by rw[aD];rfl,by show (bg Z p (.dict [])).b p=_;rw[bo];rfl,List.nodup_nil,hf',af⟩
 have st0:Blk Z a p f [] [] ad:=base.step s1
 clear s1 base
 have hm:∃m:Nat,atI [PyData.int 1,.int 2,.int 4,.int 60] r=some (.int (m:Nat))/\1<=m/\m<=60:=by
  obtain⟨v,e,hm⟩:=kO (xs:=[PyData.int 1,.int 2,.int 4,.int 60]) r0 (by exact r1)
  simp only[mem_cons,not_mem_nil,or_false] at hm
  rcases hm with rfl|rfl|rfl|rfl
  ·exact⟨1,e,⋯,⋯⟩
  ·exact⟨2,e,⋯,⋯⟩
  ·exact⟨4,e,⋯,⋯⟩
  ·exact⟨60,e,⋯,⋯⟩
 obtain⟨m,em,m1,m60⟩:=hm
 walk_at "rb"
 rw[em]
 walk_at "rb"
 rw[lJ]
 walk_at "rb"
 refine⟨∅,fun y ρ U=>∃L done r6 r7 r8 r9 r10,ρ=[some (.m a),some (.v (.int (C:Nat))),some (.v (.int (R:Nat))),some (.b p),some (.m f),some (.v (.int (m:Nat))),r6,r7,r8,r9,r10]/\Blk Z a p f L done U/\(∀x,x∈done↔x∈GR.cells L)/\GR.Laid L C R 0 y,⟨[],[],_,_,_,_,_,rfl,st0,fun x=>Iff.rfl,GR.Laid.nil⟩,?_,?_⟩
 ·rintro y x ρ U hx ⟨L,done,r6,r7,r8,r9,r10,rfl,st,mem,laid⟩
  obtain⟨rfl,hy⟩:=uU hx
  rw[Int.zero_add]
  walk_at "rb"
  rw[lJ]
  walk_at "rb"
  refine⟨∅,fun c ρ U=>∃L done r7 r8 r9 r10,ρ=[some (.m a),some (.v (.int (C:Nat))),some (.v (.int (R:Nat))),some (.b p),some (.m f),some (.v (.int (m:Nat))),some (.v (.int (y:Nat))),r7,r8,r9,r10]/\Blk Z a p f L done U/\(∀x,x∈done↔x∈GR.cells L)/\GR.Laid L C R c y,⟨L,done,_,_,_,_,rfl,st,mem,laid⟩,?_,?_⟩
  ·clear st mem laid L done
   rintro c x ρ U hx2 ⟨L,done,r7,r8,r9,r10,rfl,st,mem,laid⟩
   obtain⟨rfl,hc⟩:=uU hx2
   rw[Int.zero_add]
   have hc':c<C:=by omega
   have hy':y<R:=by omega
   have fits:∀q∈L,q.r<=C/\q.t<=R:=fun q hq=>by have:=laid.fits q hq;omega
   have few:done.length<=900:=le_trans (sub_len fits st.nd fun x hx=>(mem x).mp hx) cr
   walk_at "rb"
   refine⟨_,p,_,rfl,rfl,st.hp,by show (done.map dS).length<=9800;rw[length_map];omega,fun _=>⟨_,rfl⟩,?_⟩
   walk_at "rb"
   have lc:=iB (x:=(c,y)) done
   by_cases cc:(c,y)∈done
   ·rw[dj (by show ¬ (!(bS _ (fu (c,y))).isSome)=true;rw[lc,decide_eq_true cc];decide)]
    walk_at "rb"
    exact⟨L,done,_,_,_,_,rfl,st,mem,laid.met (GR.iz.mp ((mem _).mp cc))⟩
   ·rw[dY (by show (!(bS _ (fu (c,y))).isSome)=true;rw[lc,decide_eq_false cc];decide)]
    walk_at "rb"
    refine⟨p,done,c,y,C,rfl,st.hp,∅,∅,fun n n1 n2 n3=>?_⟩
    have n0:1<=n:=by
     rcases Nat.eq_zero_or_pos n with z|z
     ·rw[z,Nat.add_zero] at n3
      rcases n3 with n3|n3
      ·omega
      ·exact absurd n3 cc
     ·exact z
    walk_at "rb"
    refine⟨a,_,rfl,∅,∅,st.bag,fun w0 am w1 w2 s2=>?_⟩
    replace st:=st.step s2
    obtain⟨w,hw⟩:∃w:Nat,1+w0=(w:Int):=⟨(1+w0).toNat,∅⟩
    walk_at "rb"
    rw[hw]
    refine⟨a,_,rfl,∅,∅,st.bag,fun h0 be h1 h2 s3=>?_⟩
    replace st:=st.step s3
    obtain⟨k,hk⟩:∃k:Nat,1+h0=(k:Int):=⟨(1+h0).toNat,∅⟩
    walk_at "rb"
    rw[hk,st.hf]
    walk_at "rb"
    have lL:L.length<=C*R:=rg (fun q hq=>by have:=laid.fits q hq;omega) laid.apart
    refine⟨by rw[length_map];omega,?_⟩
    have w1':1<=w:=by omega
    have wn:w<=n:=by omega
    have k1':1<=k:=by omega
    have kR:y+k<=R:=by omega
    have free:∀i,c<=i->i<c+w->∀q∈L,¬ q.has i y:=fun i i1 i2 q hq hh=>n2 i i1 ∅ ((mem _).mpr (GR.iz.mpr ⟨q,hq,hh⟩))
    have laid2:=laid.put w1' k1' ∅ kR free
    have eb:PyData.tuple [PyData.int (c:Nat),.int (y:Nat),.int (w:Nat),.int (k:Nat)]=bxD ⟨c,c+w,y,y+k⟩:=by
     unfold bxD
     dsimp only
     rw[Nat.add_sub_cancel_left,Nat.add_sub_cancel_left]
    rw[eb]
    have st2:=st.app (q:=⟨c,c+w,y,y+k⟩)
    clear st
    have fits2:∀q∈L++[⟨c,c+w,y,y+k⟩],q.r<=C/\q.t<=R:=fun q hq=>by have:=laid2.fits q hq;omega
    have wk:w*k<=3600:=mul_le_mul (show w<=60 by omega) (show k<=60 by omega)
    rw[lJ]
    walk_at "rb"
    have mk:((w:Nat):Int)*((k:Nat):Int)=((w*k:Nat):Int):=by rw[Int.natCast_mul]
    rw[mk]
    refine⟨ko (Sz.of (n:=10) ∅) (Sz.of (n:=10) ∅) ⋯,∅,fun j ρ U=>∃done' r10,ρ=[some (.m a),some (.v (.int (C:Nat))),some (.v (.int (R:Nat))),some (.b p),some (.m f),some (.v (.int (m:Nat))),some (.v (.int (y:Nat))),some (.v (.int (c:Nat))),some (.v (.int (w:Nat))),some (.v (.int (k:Nat))),r10]/\Blk Z a p f (L++[⟨c,c+w,y,y+k⟩]) done' U/\(∀x,x∈done'↔x∈GR.cells L\/∃i,i<j/\x=(c+i % w,y+i / w)),⟨done,_,rfl,st2,fun x=>by rw[mem];exact⟨.inl,fun h=>h.elim id fun ⟨i,hi,_⟩=>absurd hi (not_lt_zero _)⟩⟩,?_,?_⟩
    ·rintro j x ρ U hx3 ⟨done',r10',rfl,st3,mem3⟩
     obtain⟨rfl,hj⟩:=uU hx3
     rw[Int.zero_add]
     have hj':j<w*k:=by omega
     have sub3:∀x∈done',x∈GR.cells (L++[⟨c,c+w,y,y+k⟩]):=fun x hx=>by
      rw[vE,mem_append]
      rcases (mem3 x).mp hx with h|⟨i,hi,rfl⟩
      ·exact .inl h
      ·exact .inr (Dk (x:=(0,0)) (y:=(0,0)) ∅)
     have few3:done'.length<=900:=le_trans (sub_len fits2 st3.nd sub3) cr
     walk_at "rb"
     have em1:((j:Nat):Int).fmod ((w:Nat):Int)=((j % w:Nat):Int):=by rw[Int.fmod_eq_emod_of_nonneg _ ∅];rfl
     rw[em1,Mm]
     have kc:ni (.v (.tuple [.int ((c:Nat)+((j % w:Nat):Int)),.int ((y:Nat)+((j / w:Nat):Int))]))=some (fu (c+j % w,y+j / w)):=by
      show some _=some _
      unfold fu
      simp only[Int.natCast_add]
     refine⟨∅,yu ∅ (Sz.of (n:=10) ∅) ⋯,p,_,_,_,rfl,rfl,kc,st3.hp,by rw[length_map];omega,_,_,rfl,st3.put,fun x=>?_⟩
     have e:(x∈if (c+j % w,y+j / w)∈done' then done' else done'++[(c+j % w,y+j / w)])↔x∈done'\/x=(c+j % w,y+j / w):=by
      split
      ·rename_i z
       exact⟨.inl,fun h=>h.elim id fun h=>h▸z⟩
      ·rw[mem_append,mem_singleton]
     rw[e,mem3]
     constructor
     ·rintro ((h|⟨i,hi,rfl⟩)|rfl)
      ·exact .inl h
      ·exact .inr ⟨i,∅,rfl⟩
      ·exact .inr ⟨j,∅,rfl⟩
     ·rintro (h|⟨i,hi,rfl⟩)
      ·exact .inl (.inl h)
      ·rcases lt_or_eq_of_le (le_of_lt_succ hi) with z|z
       ·exact .inl (.inr ⟨i,z,rfl⟩)
       ·subst z;exact .inr rfl
    ·rintro ρ U ⟨done',r10',rfl,st3,mem3⟩
     rw[o5,show ((w*k:Nat):Int).toNat=w*k by omega] at mem3
     refine⟨_,done',_,_,_,_,rfl,st3,fun x=>?_,laid2⟩
     rw[mem3,vE,mem_append]
     constructor
     ·rintro (h|⟨i,hi,rfl⟩)
      ·exact .inl h
      ·exact .inr (Dk (x:=(0,0)) (y:=(0,0)) hi)
     ·rintro (h|h)
      ·exact .inl h
      ·obtain⟨i,hi,e⟩:=Jp (i:=x.1) (j:=x.2) h
       exact .inr ⟨i,hi,e⟩
  ·rintro ρ U ⟨L,done,r7,r8,r9,r10,rfl,st,mem,laid⟩
   rw[o5,show ((C:Nat):Int).toNat=C by omega] at laid
   exact⟨L,done,_,_,_,_,_,rfl,st,mem,laid.row⟩
 ·rintro ρ U ⟨L,done,r6,r7,r8,r9,r10,rfl,st,mem,laid⟩
  rw[o5,show ((R:Nat):Int).toNat=R by omega] at laid
  walk_at "rb"
  exact q f L U hf' laid.done st.hf ⟨st.bag,st.keep⟩
end
noncomputable def Six(k:Nat)(x:N3):Prop:=∃A B:Int,Rep x A B 6/\A.natAbs<=k/\B.natAbs<=k
noncomputable def u0(d:Int)(x:N3):Prop:=Ok x/\Bd 6 x/\sg d x.a x.b=1/\Six 60 x
noncomputable def pD:DSp:=fun ds Z Q=>∃(a:Addr) (d way:Int),ds=[.m a,.v (.int d),.v (.int way)]/\aL d/\Bag Z a/\∀x U,u0 d x->Step a Z U->Q (.v (dN x)) U
theorem Dv{ds:List D}{Z:Mu}{Q:DK}(h:pD ds Z Q):ds.length=3:=by obtain⟨_,_,_,rfl,_⟩:=h;rfl
noncomputable def qU:DSp:=fun ds Z Q=>∃(a:Addr) (d:Int) (n:Nat),ds=[.m a,.v (.int d),.v (.int (n:Nat))]/\aL d/\Bag Z a/\n<=60/\∀(ss:List N3) U,ss.length=n->(∀s∈ss,u0 d s)->Step a Z U->Q (.v (.list (ss.map dN))) U
theorem Cb{ds:List D}{Z:Mu}{Q:DK}(h:qU ds Z Q):ds.length=3:=by obtain⟨_,_,_,rfl,_⟩:=h;rfl
noncomputable def Ah:DSp:=fun ds Z Q=>∃(d:Int) (ss:List N3),ds=[.v (.list (ss.map dN))]/\aL d/\ss.length<=60/\(∀s∈ss,u0 d s)/\∀f (xs:List N3) U,Z f=none->eW Z U->fX d xs ss.length->(∀x∈xs,Six 3600 x)->U f=some (xs.map dN)->Q (.m f) U
noncomputable def Bk:DSp:=fun ds Z Q=>∃(d:Int) (ss:List N3),ds=[.v (.list (ss.map dN))]/\aL d/\ss.length<=60/\(∀s∈ss,u0 d s)/\∀xs,fX d xs ss.length->(∀x∈xs,Six 3600 x)->Q (.v (.list (xs.map dN))) Z
theorem BK{ds:List D}{Z:Mu}{Q:DK}(h:Ah ds Z Q):ds.length=1:=by obtain⟨_,_,rfl,_⟩:=h;rfl
theorem xN{ds:List D}{Z:Mu}{Qd:DK}(h:Bk ds Z Qd):Ah ds Z (frz Z Qd):=by
 obtain⟨d,ss,rfl,hd,l,g,q⟩:=h
 exact⟨d,ss,rfl,hd,l,g,fun f xs U hf sb fi bd e=>⟨⟨hf,sb⟩,_,e,q xs fi bd⟩⟩
noncomputable def qR:DSp:=fun ds Z Q=>∃(a:Addr) (xs:List PyData),ds=[.m a,.v (.list xs)]/\Bag Z a/\xs.length<=900/\∀(zs:List PyData) U,zs.Perm xs->iD a Z U->Q (.v (.list zs)) U
theorem zp{ds:List D}{Z:Mu}{Q:DK}(h:qR ds Z Q):ds.length=2:=by obtain⟨_,_,rfl,_⟩:=h;rfl
noncomputable def uh:DSp:=fun ds Z Q=>∃(a:Addr),ds=[.m a]/\Bag Z a/\∀(C R:Nat) U,0<C->0<R->C<=60->R<=60->C*R<=60->Step a Z U->Q (.v (.tuple [.int (C:Nat),.int (R:Nat)])) U
theorem Bv{ds:List D}{Z:Mu}{Q:DK}(h:uh ds Z Q):ds.length=1:=by obtain⟨_,rfl,_⟩:=h;rfl
noncomputable def kB:DTS:=
 (aO (cV (dB (dOp (d8 false) (ai 2) (dC (.int 0)))) (bp (bq (ag (cp (dC (.int 1)) (ay bE (ag (ai 0) (ag (dC (.int 6)) ar)))) (ag (dC (.int 0)) (ag (dC (.int 1)) ar))))) bL)
 (aO (cV (dB (dOp (d8 false) (ai 2) (dC (.int 1)))) (bp (ay cL (ag (cp (dC (.int 1)) (ay bE (ag (ai 0) (ag (dC (.int 9)) ar)))) (ag (dC (.int 0)) (ag (cp (dC (.int 1)) (ay bE (ag (ai 0) (ag (dC (.int 3)) ar)))) ar))))) bL)
 (aO (bc (ay cL (ag (lZ (ay bE (ag (ai 0) (ag (dC (.int 19)) ar))) (dC (.int 9))) (ag (lZ (ay bE (ag (ai 0) (ag (dC (.int 9)) ar))) (dC (.int 4))) (ag (cp (dC (.int 1)) (ay bE (ag (ai 0) (ag (dC (.int 2)) ar)))) ar)))) (aq 3))
 (aO (bc (ay jD (ag (ai 1) (ag (ai 3) ar))) (aq 4))
 (aO (cV (dB (dOp (d8 false) (ai 4) (dC (.int 0)))) (bp (bq (ag (dC (.int 1)) (ag (dC (.int 1)) (ag (dC (.int 1)) ar))))) bL)
 (bp (dIf (dB (dOp rGt (ai 4) (dC (.int 0)))) (ai 3) (ay nH (ag (ai 3) ar)))))))))
noncomputable def jU:DTS:=
 (aO (bc (ay bE (ag (ai 0) (ag (dC (.int 4)) ar))) (aq 3))
 (aO (cV (dB (dOp (d8 false) (ay bE (ag (ai 0) (ag (dC (.int 4)) ar))) (dC (.int 0)))) (bp (dOp BH (lS (ag (ay pD (ag (ai 0) (ag (ai 1) (ag (ai 3) ar)))) ar)) (ai 2))) bL)
 (bp (iL [none,some 0,some 1,some 3] (nB (ag (ai 2) ar)) (aq 0) ny (ay pD (ag (ai 1) (ag (ai 2) (ag (ai 3) ar))))))))
noncomputable def lh:DTS:=
 (aO (bc (sL (ag (bq (ag (dC (.int 0)) (ag (dC (.int 0)) (ag (dC (.int 1)) ar)))) ar)) (aq 1))
 (aO (qr (gW (ai 0)) (aq 2) (lK (CD (ai 1) (ay en (ag (dOp aN (ai 1) (wa (dC (.int 1)))) (ag (ai 2) ar))))))
 (bp (ai 1))))
noncomputable def jQ:DTS:=
 (aO (bc (dCB zi (ag (ai 1) ar)) (aq 2))
 (bp (iL [none,some 2,some 0] (gW (ai 1)) (aq 0) ny (Dz (ai 1) (ay bE (ag (ai 2) (ag (dCB dX (ag (ai 1) ar)) ar)))))))
noncomputable def ej:DTS:=
 (aO (bc (ay bE (ag (ai 0) (ag (dC (.int 16)) ar))) (aq 1))
 (aO (cV (dB (dOp (d8 false) (ai 1) (dC (.int 0)))) (bp (dOp aN (lS (ag (bq (ag (dC (.int 10)) (ag (dC (.int 6)) ar))) (ag (bq (ag (dC (.int 6)) (ag (dC (.int 10)) ar))) (ag (bq (ag (dC (.int 60)) (ag (dC (.int 1)) ar))) (ag (bq (ag (dC (.int 1)) (ag (dC (.int 60)) ar))) (ag (bq (ag (dC (.int 12)) (ag (dC (.int 5)) ar))) (ag (bq (ag (dC (.int 7)) (ag (dC (.int 8)) ar))) ar))))))) (ay bE (ag (ai 0) (ag (dC (.int 6)) ar))))) bL)
 (aO (cV (dB (dOp rLt (ai 1) (dC (.int 4)))) (bp (bq (ag (cp (dC (.int 1)) (ay bE (ag (ai 0) (ag (dC (.int 6)) ar)))) (ag (cp (dC (.int 1)) (ay bE (ag (ai 0) (ag (dC (.int 6)) ar)))) ar)))) bL)
 (bp (bq (ag (cp (dC (.int 1)) (ay bE (ag (ai 0) (ag (dC (.int 4)) ar)))) (ag (cp (dC (.int 1)) (ay bE (ag (ai 0) (ag (dC (.int 4)) ar)))) ar)))))))
section
variable {Z:Mu}{Qd:DK}{ds:List D}
theorem BR{a b c:Int}(ha:a.natAbs<64)(hb:b.natAbs<64)(hc:c.natAbs<64):Bd 6 ⟨a,b,c⟩:=⟨Sz.of ha,Sz.of hb,Sz.of hc⟩
theorem Iq{a b c:Int}(h:c≠0)(ha:a.natAbs<64)(hb:b.natAbs<64)(hc:c.natAbs<64):Bd 6 (low a b c):=rO h (Sz.of ha) (Sz.of hb) (Sz.of hc)
theorem EY{d a:Int}(h:0<a):sg d a 0=1:=by
 unfold sg
 rw[if_neg ∅,if_pos ∅]
theorem Ih{a:Int}:Ok ⟨a,0,1⟩:=by
 have:=k9 a 0 (show (1:Int)≠0 by decide)
 have e:low a 0 1=⟨a,0,1⟩:=by
  obtain⟨k,_,hk,p1,p2,p3,_⟩:=kj a 0 (show (1:Int)≠0 by decide)
  have hk1:k=1:=Int.eq_one_of_mul_eq_one_right ∅ p3.symm
  subst hk1
  rw[Int.one_mul] at p1 p2 p3
  exact N3.ext' p1.symm p2.symm p3.symm
 rw[e] at this
 exact this
theorem oN{x:N3}{a b c m:Int}{k:Nat}(h:Rep x a b c)(e:c*m=6)(ha:(a*m).natAbs<=k)(hb:(b*m).natAbs<=k):Six k x:=by
 have hm:m≠0:=fun z=>by rw[z,Int.mul_zero] at e;cases e
 refine⟨a*m,b*m,⟨⋯,?_,?_⟩,ha,hb⟩
 ·have:=h.a;rw[<- e];grind
 ·have:=h.b;rw[<- e];grind
theorem JM{x y:N3}{k l:Nat}(ox:Ok x)(oy:Ok y)(h:Six k x)(g:Six l y):Six (k+l) (plus x y):=by
 obtain⟨A,B,r,ha,hb⟩:=h
 obtain⟨A',B',r',ha',hb'⟩:=g
 have z:=r.plus ox oy r'
 refine⟨A+A',B+B',⟨⋯,?_,?_⟩,∅,∅⟩
 ·exact Int.eq_of_mul_eq_mul_left (show (6:Int)≠0 by decide) (by have:=z.a;grind)
 ·exact Int.eq_of_mul_eq_mul_left (show (6:Int)≠0 by decide) (by have:=z.b;grind)
theorem wB{x:N3}{k:Nat}(ox:Ok x)(h:Six k x)(hk:k<=4000):Bd 12 x:=by
 obtain⟨A,B,r,ha,hb⟩:=h
 have e:x=low A B 6:=r.eq ox (k9 _ _ ⋯) (ik ⋯) rfl rfl
 rw[e]
 exact rO ⋯ (Sz.of ∅) (Sz.of ∅) (Sz.of ⋯)
theorem CO{x:N3}{k:Nat}(ox:Ok x)(h:Six k x)(hk:k<=8000):Bd 13 x:=by
 obtain⟨A,B,r,ha,hb⟩:=h
 have e:x=low A B 6:=r.eq ox (k9 _ _ ⋯) (ik ⋯) rfl rfl
 rw[e]
 exact rO ⋯ (Sz.of ∅) (Sz.of ∅) (Sz.of ⋯)
theorem C3{x y:N3}{k l:Nat}(ox:Ok x)(oy:Ok y)(h:Six k x)(g:Six l y):Six (k+l) (less x y):=by
 obtain⟨A,B,r,ha,hb⟩:=h
 obtain⟨A',B',r',ha',hb'⟩:=g
 have z:=r.less ox oy r'
 refine⟨A-A',B-B',⟨⋯,?_,?_⟩,∅,∅⟩
 ·exact Int.eq_of_mul_eq_mul_left (show (6:Int)≠0 by decide) (by have:=z.a;grind)
 ·exact Int.eq_of_mul_eq_mul_left (show (6:Int)≠0 by decide) (by have:=z.b;grind)
theorem GW{x:N3}{k:Nat}(h:Six k x):Six k (minus x):=by
 obtain⟨A,B,r,ha,hb⟩:=h
 exact⟨-A,-B,r.minus,∅,∅⟩
theorem zH(h:pD ds Z Qd):kB ‹Qd› (aP ["","","","",""] ds) Z:=by
 obtain⟨a,d,way,rfl,hd,hb,q⟩:=h
 unfold kB
 walk_at "rb"
 by_cases c0:way=0
 ·rw[dY (decide_eq_true c0)]
  walk_at "rb"
  refine⟨a,6,rfl,⋯,⋯,hb,fun r ad r0 r1 s1=>?_⟩
  walk_at "rb"
  exact q ⟨1+r,0,1⟩ ad ⟨Ih,BR ∅ ⋯ ⋯,show sg d (1+r) 0=1 from EY ∅,oN (a:=1+r) (b:=0) (c:=1) (m:=6) ⟨⋯,rfl,rfl⟩ ⋯ ∅ ⋯⟩ s1
 rw[dj (by simpa using c0)]
 walk_at "rb"
 by_cases c1:way=1
 ·rw[dY (decide_eq_true c1)]
  walk_at "rb"
  refine⟨a,9,rfl,⋯,⋯,hb,fun r ad r0 r1 s1=>?_⟩
  walk_at "rb"
  refine⟨a,3,rfl,⋯,⋯,s1.1,fun r' am r0' r1' s2=>?_⟩
  walk_at "rb"
  refine⟨_,_,_,rfl,∅,Sz.mono (Sz.of (n:=6) ∅) ⋯,?_⟩
  walk_at "rb"
  refine q _ am ⟨k9 _ _ ∅,Iq ∅ ∅ ⋯ ∅,?_,?_⟩ (s1.trans s2)
  ·rw[IC hd ∅]
   exact EY ∅
  ·rcases (by omega:r'=0\/r'=1\/r'=2) with rfl|rfl|rfl
   ·exact oN (m:=6) (ik ⋯) ⋯ ∅ ⋯
   ·exact oN (m:=3) (ik ⋯) ⋯ ∅ ⋯
   ·exact oN (m:=2) (ik ⋯) ⋯ ∅ ⋯
 rw[dj (by simpa using c1)]
 walk_at "rb"
 refine⟨a,19,rfl,⋯,⋯,hb,fun r ad r0 r1 s1=>?_⟩
 walk_at "rb"
 refine⟨a,9,rfl,⋯,⋯,s1.1,fun r' am r0' r1' s2=>?_⟩
 walk_at "rb"
 refine⟨a,2,rfl,⋯,⋯,s2.1,fun r2 be r02 r12 s3=>?_⟩
 have s13:=(s1.trans s2).trans s3
 walk_at "rb"
 refine⟨_,_,_,rfl,∅,Sz.mono (Sz.of (n:=6) ∅) ⋯,?_⟩
 have ox:Ok (low (r-9) (r'-4) (1+r2)):=k9 _ _ ∅
 have bx:Bd 6 (low (r-9) (r'-4) (1+r2)):=Iq ∅ ∅ ∅ ∅
 have sx:Six 60 (low (r-9) (r'-4) (1+r2)):=by
  rcases (by omega:r2=0\/r2=1) with rfl|rfl
  ·exact oN (m:=6) (ik ⋯) ⋯ ∅ ∅
  ·exact oN (m:=3) (ik ⋯) ⋯ ∅ ∅
 generalize low (r-9) (r'-4) (1+r2)=x at ox bx sx
 walk_at "rb"
 refine⟨d,x,rfl,hd,bx.mono ⋯,?_⟩
 walk_at "rb"
 by_cases z:sg d x.a x.b=0
 ·rw[dY (decide_eq_true z)]
  walk_at "rb"
  exact q ⟨1,1,1⟩ be ⟨⟨⋯,⋯⟩,BR ⋯ ⋯ ⋯,by unfold sg;simp,oN (m:=6) (cE ⟨⋯,⋯⟩) ⋯ ⋯ ⋯⟩ s13
 rw[dj (by simpa using z)]
 walk_at "rb"
 have tri:=mT d x.a x.b
 by_cases z1:sg d x.a x.b>0
 ·rw[dY (decide_eq_true z1)]
  walk_at "rb"
  exact q x be ⟨ox,bx,∅,sx⟩ s13
 ·rw[dj (by simpa using z1)]
  walk_at "rb"
  refine⟨x,rfl,?_⟩
  walk_at "rb"
  refine q _ be ⟨gH ox,p4 bx,?_,GW sx⟩ s13
  show sg d (-x.a) (-x.b)=1
  rw[y6 hd]
  omega
theorem IV{a p:Addr}{U:Mu}(hb:Bag U a)(hp:Z p=none)(pa:a≠p)(k:∀b,b≠a->b≠p->U b=Z b):Step a Z (jY U p):=by
 obtain⟨g,m,e,r⟩:=hb
 refine⟨⟨g,m,by rw[gF pa];exact e,r⟩,fun b n=>?_⟩
 by_cases z:b=p
 ·rw[z,iU,hp]
 ·rw[gF z];exact k b n z
theorem u7{a p:Addr}(hb:Bag Z a)(hp:Z p=none):a≠p:=fun e=>by
 obtain⟨g,m,h,_⟩:=hb
 rw[e,hp] at h
 cases h
theorem Kh{α:Type}(n:Nat)(x:α):(List.replicate n [x]).flatten=List.replicate n x:=by
 induction n with
 |zero=>rfl
 |succ n ih=>rw[replicate_succ,replicate_succ,flatten_cons,ih];rfl
theorem w6(h:qU ds Z Qd):jU ‹Qd› (aP ["","","",""] ds) Z:=by
 obtain⟨a,d,n,rfl,hd,hb,n60,q⟩:=h
 unfold jU
 walk_at "rb"
 refine⟨a,4,rfl,⋯,⋯,hb,fun way ad _ _ s1=>?_⟩
 walk_at "rb"
 refine⟨a,4,rfl,⋯,⋯,s1.1,fun r am _ _ s2=>?_⟩
 have s12:=s1.trans s2
 walk_at "rb"
 by_cases c:r=0
 ·rw[dY (decide_eq_true c)]
  walk_at "rb"
  refine⟨a,d,way,rfl,hd,s2.1,fun x be gx s3=>?_⟩
  walk_at "rb"
  refine⟨⟨∅,∅,∅⟩,?_⟩
  have:=q (List.replicate n x) be (by rw[List.length_replicate]) (fun s hs=>by rw[(List.mem_replicate.mp hs).2];exact gx) (s12.trans s3)
  have e:(List.replicate (((n:Nat):Int).toNat) [dN x]).flatten=(List.replicate n x).map dN:=by
   rw[show ((n:Nat):Int).toNat=n by omega]
   exact Kh n (dN x) |>.trans (by rw[List.map_replicate])
  rw[e]
  exact this
 ·rw[dj (by simpa using c)]
  walk_at "rb"
  rw[kX]
  walk_at "rb"
  refine⟨∅,by rw[o5];omega,fun p hp=>?_⟩
  have pa:=u7 s2.1 hp
  refine⟨fun i acc U=>∃ss:List N3,acc=ss.map dN/\ss.length=i/\(∀s∈ss,u0 d s)/\Bag U a/\∀b,b≠a->b≠p->U b=am b,⟨[],rfl,rfl,fun _ z=>absurd z not_mem_nil,s2.1.off pa,fun b _ n2=>aQ n2⟩,?_,?_⟩
  ·rintro i x acc U hx ha ⟨ss,rfl,hl,g,hb',k⟩
   walk_at "rb"
   refine⟨⟨trivial,trivial,trivial,trivial⟩,?_⟩
   rw[if_pos trivial]
   refine⟨a,d,way,rfl,hd,hb',fun x be gx s3=>?_⟩
   walk_at "rb"
   refine⟨by rw[s3.2 p pa.symm];exact ha,ss++[x],by rw[map_append];rfl,by rw[length_append,hl];rfl,fun s hs=>?_,s3.1.off pa,fun b n1 n2=>by rw[aQ n2,s3.2 b n1];exact k b n1 n2⟩
   rcases List.mem_append.mp hs with z|z
   ·exact g s z
   ·rw[List.mem_singleton.mp z];exact gx
  ·rintro acc U ⟨ss,rfl,hl,g,hb',k⟩ ha
   rw[o5] at hl
   exact q ss _ ∅ g (s12.trans (IV hb' hp pa k))
theorem fX.snoc{d:Int}(hd:aL d){xs:List N3}{C:Nat}{l s:N3}(f:fX d xs C)(hl:xs.getLast? = some l)(os:Ok s)(ss:sg d s.a s.b=1):fX d (xs++[plus l s]) (C+1):=by
 have ne:xs≠[]:=fun e=>by rw[e] at hl;cases hl
 have l0:=List.length_pos_iff.mpr ne
 have lm:l∈xs:=vB hl
 have ol:=f.ok l lm
 refine⟨by rw[length_append,f.len];rfl,?_,fun x hx=>?_,?_⟩
 ·refine List.pairwise_append.mpr ⟨f.up,List.pairwise_singleton _ _,fun a ha b hb=>?_⟩
  rw[List.mem_singleton.mp hb]
  have e:dif d (plus l s) l=1:=by rw[J9 hd ol os];exact ss
  by_cases z:a=l
  ·rw[z];exact e
  ·refine j1 hd (cA ol os) ol (f.ok a ha) e ?_
   obtain⟨i,hi,rfl⟩:=List.mem_iff_getElem.mp ha
   have el:=Lz hl ∅
   rw[<- el]
   refine List.pairwise_iff_getElem.mp f.up _ _ hi ∅ ?_
   rcases lt_or_ge i (xs.length-1) with y|y
   ·exact y
   ·exact absurd (by rw[<- el];congr 1;omega) z
 ·rcases List.mem_append.mp hx with z|z
  ·exact f.ok x z
  ·rw[List.mem_singleton.mp z];exact cA ol os
 ·rw[getElem?_append_left l0];exact f.zero
theorem Am(h:Ah ds Z Qd):lh ‹Qd› (aP ["","",""] ds) Z:=by
 obtain⟨d,ss,rfl,hd,l60,gs,q⟩:=h
 unfold lh
 walk_at "rb"
 intro f hf
 rw[lJ]
 walk_at "rb"
 refine⟨fun i ρ U=>∃r2 xs,ρ=[some (.v (.list (ss.map dN))),some (.m f),r2]/\eW Z U/\U f=some (xs.map dN)/\fX d xs i/\(∀x∈xs,Six (60*i) x),⟨_,[aC],rfl,eW.refl.set hf,by rw[aD];rfl,⟨rfl,List.pairwise_singleton _ _,fun x hx=>by rw[List.mem_singleton.mp hx];exact yr,rfl⟩,fun x hx=>by rw[List.mem_singleton.mp hx];exact⟨0,0,⟨⋯,rfl,rfl⟩,⋯,⋯⟩⟩,?_,?_⟩
 ·rintro i x ρ U hx ⟨r2,xs,rfl,sb,hm,fi,bd⟩
  obtain⟨s,es,rfl⟩:=AB hx
  have hi:i<ss.length:=(List.getElem?_eq_some_iff.mp es).1
  obtain⟨os,bs,sgs,six⟩:=gs s (mem_of_getElem? es)
  have ne:xs≠[]:=fun e=>by have:=fi.len;rw[e] at this;cases this
  obtain⟨l,hl⟩:∃l,xs.getLast? = some l:=⟨xs.getLast ne,List.getLast?_eq_getLast ne⟩
  have ol:=fi.ok l (vB hl)
  have sl:=bd l (vB hl)
  have bl:=wB ol sl ∅
  walk_at "rb"
  rw[hm]
  dsimp only
  rw[qJ hl]
  walk_at "rb"
  refine⟨l,s,rfl,ol,os,bl.mono ∅,bs.mono ⋯,?_⟩
  walk_at "rb"
  rw[hm]
  dsimp only
  refine⟨by rw[length_map,fi.len];omega,_,xs++[plus l s],rfl,sb.set hf,by rw[aD,map_append];rfl,fi.snoc hd hl os sgs,fun x hx=>?_⟩
  rcases List.mem_append.mp hx with z|z
  ·obtain⟨A,B,r,ha,hb⟩:=bd x z
   exact⟨A,B,r,∅,∅⟩
  ·rw[List.mem_singleton.mp z]
   exact JM ol os sl six
 ·rintro ρ U ⟨r2,xs,rfl,sb,hm,fi,bd⟩
  rw[length_map] at fi bd
  walk_at "rb"
  exact q f xs U hf sb fi (fun x hx=>by obtain⟨A,B,r,ha,hb⟩:=bd x hx;exact⟨A,B,r,∅,∅⟩) hm
theorem u5{α:Type}:∀{l:List α} {i:Nat} {x:α},l[i]? = some x->(x::l.eraseIdx i).Perm l
 |[],i,x,h=>by cases h
 |y::l,0,x,h=>by cases h;exact .refl _
 |y::l,i+1,x,h=>by
  rw[List.eraseIdx_cons_succ]
  exact (List.Perm.swap _ _ _).trans ((u5 (l:=l) (i:=i) h).cons y)
theorem w4(h:qR ds Z Qd):jQ ‹Qd› (aP ["","",""] ds) Z:=by
 obtain⟨a,xs,rfl,hb,l9,q⟩:=h
 unfold jQ
 walk_at "rb"
 intro l hl
 have al:=u7 hb hl
 walk_at "rb"
 rw[kX]
 walk_at "rb"
 refine⟨∅,fun p hp=>?_⟩
 have lp:l≠p:=fun e=>by rw[<- e,aD] at hp;cases hp
 have pa:a≠p:=u7 (hb.off al) hp
 have hp':Z p=none:=by rw[aQ lp.symm] at hp;exact hp
 refine⟨fun i acc U=>∃rest:List PyData,(acc++rest).Perm xs/\rest.length+i=xs.length/\U l=some rest/\Bag U a/\∀b,b≠a->b≠p->b≠l->U b=Z b,⟨xs,.refl _,rfl,by rw[aQ lp,aD],(hb.off al).off pa,fun b n1 n2 n3=>by rw[aQ n2,aQ n3]⟩,?_,?_⟩
 ·rintro i x acc U hx ha ⟨rest,pm,hl2,hr,hb',k⟩
  have hi:i<xs.length:=(List.getElem?_eq_some_iff.mp hx).1
  walk_at "rb"
  refine⟨⟨trivial,trivial,trivial⟩,?_⟩
  rw[if_pos trivial,hr]
  dsimp only
  refine⟨a,_,rfl,∅,∅,hb',fun r be r0 r1 s3=>?_⟩
  walk_at "rb"
  rw[s3.2 l al.symm,hr]
  dsimp only
  have hrl:r.toNat<rest.length:=by omega
  refine⟨⟨r0,∅⟩,rest[r.toNat],getElem?_eq_getElem hrl,?_,rest.eraseIdx r.toNat,?_,?_,?_,?_,?_⟩
  ·rw[aQ lp.symm,s3.2 p pa.symm];exact ha
  ·rw[append_assoc]
   exact ((u5 (getElem?_eq_getElem hrl)).append_left acc).trans pm
  ·rw[List.length_eraseIdx_of_lt hrl];omega
  ·rw[aQ lp,aD]
  ·exact (s3.1.off al).off pa
  ·intro b n1 n2 n3
   rw[aQ n2,aQ n3,s3.2 b n1]
   exact k b n1 n2 n3
 ·rintro acc U ⟨rest,pm,hl2,hr,hb',k⟩ ha
  have e:rest=[]:=List.eq_nil_of_length_eq_zero ∅
  rw[e,append_nil] at pm
  obtain⟨g,m,eb,rb⟩:=hb'
  refine q acc _ pm ⟨⟨g,m,by rw[gF pa];exact eb,rb⟩,fun b n1 ds eds=>?_⟩
  have n2:b≠p:=fun z=>by rw[z,hp'] at eds;cases eds
  have n3:b≠l:=fun z=>by rw[z,hl] at eds;cases eds
  rw[gF n2,k b n1 n2 n3]
  exact eds
theorem oQ(h:uh ds Z Qd):ej ‹Qd› (aP ["",""] ds) Z:=by
 obtain⟨a,rfl,hb,q⟩:=h
 unfold ej
 walk_at "rb"
 refine⟨a,16,rfl,⋯,⋯,hb,fun r ad _ _ s1=>?_⟩
 walk_at "rb"
 by_cases c:r=0
 ·rw[dY (decide_eq_true c)]
  walk_at "rb"
  refine⟨a,6,rfl,⋯,⋯,s1.1,fun r' am r0 r1 s2=>?_⟩
  walk_at "rb"
  have hm:∃C R:Nat,atI [PyData.tuple [.int 10,.int 6],.tuple [.int 6,.int 10],.tuple [.int 60,.int 1],.tuple [.int 1,.int 60],.tuple [.int 12,.int 5],.tuple [.int 7,.int 8]] r'=some (.tuple [.int (C:Nat),.int (R:Nat)])/\0<C/\0<R/\C<=60/\R<=60/\C*R<=60:=by
   obtain⟨v,e,hm⟩:=kO (xs:=[PyData.tuple [.int 10,.int 6],.tuple [.int 6,.int 10],.tuple [.int 60,.int 1],.tuple [.int 1,.int 60],.tuple [.int 12,.int 5],.tuple [.int 7,.int 8]]) r0 (by exact r1)
   simp only[mem_cons,not_mem_nil,or_false] at hm
   rcases hm with rfl|rfl|rfl|rfl|rfl|rfl
   ·exact⟨10,6,e,⋯,⋯,⋯,⋯,⋯⟩
   ·exact⟨6,10,e,⋯,⋯,⋯,⋯,⋯⟩
   ·exact⟨60,1,e,⋯,⋯,⋯,⋯,⋯⟩
   ·exact⟨1,60,e,⋯,⋯,⋯,⋯,⋯⟩
   ·exact⟨12,5,e,⋯,⋯,⋯,⋯,⋯⟩
   ·exact⟨7,8,e,⋯,⋯,⋯,⋯,⋯⟩
  obtain⟨C,R,e,h1,h2,h3,h4,h5⟩:=hm
  rw[e]
  exact q C R am h1 h2 h3 h4 h5 (s1.trans s2)
 rw[dj (by simpa using c)]
 walk_at "rb"
 have two:∀(r1 r2:Int) (U:Mu),0<=r1->r1<6->0<=r2->r2<6->Step a Z U->Qd (.v (.tuple [.int (1+r1),.int (1+r2)])) U:=fun r1 r2 U a0 a1 b0 b1 st=>by
  obtain⟨C,hC⟩:∃C:Nat,1+r1=(C:Int):=⟨(1+r1).toNat,∅⟩
  obtain⟨R,hR⟩:∃R:Nat,1+r2=(R:Int):=⟨(1+r2).toNat,∅⟩
  rw[hC,hR]
  refine q C R U ∅ ∅ ∅ ∅ ?_ st
  have:C*R<=6*6:=mul_le_mul ∅ ∅
  omega
 by_cases c4:r<4
 ·rw[dY (decide_eq_true c4)]
  walk_at "rb"
  refine⟨a,6,rfl,⋯,⋯,s1.1,fun r1 am r0 r1' s2=>?_⟩
  walk_at "rb"
  refine⟨a,6,rfl,⋯,⋯,s2.1,fun r2 be r02 r12 s3=>?_⟩
  walk_at "rb"
  exact two r1 r2 be r0 r1' r02 r12 ((s1.trans s2).trans s3)
 ·rw[dj (by simpa using c4)]
  walk_at "rb"
  refine⟨a,4,rfl,⋯,⋯,s1.1,fun r1 am r0 r1' s2=>?_⟩
  walk_at "rb"
  refine⟨a,4,rfl,⋯,⋯,s2.1,fun r2 be r02 r12 s3=>?_⟩
  walk_at "rb"
  exact two r1 r2 be r0 ∅ r02 ∅ ((s1.trans s2).trans s3)
end
structure Ee(d:Int)(xs ys:List N3)(C R:Nat)(qs:List GR.Bx):Prop where
 fx:fX d xs C
 fy:fX d ys R
 c0:0<C
 r0:0<R
 c60:C<=60
 r60:R<=60
 cr:C*R<=60
 bx:∀x∈xs,Six 3600 x
 by_:∀y∈ys,Six 3600 y
 cov:GR.gZ qs C R
noncomputable def Drawn(d:Int)(t:PyData):Prop:=∃xs ys C R qs,Ee d xs ys C R qs/\t=gE (xs.getD C aC) (ys.getD R aC) (qs.map (i7 xs ys))
noncomputable def lr:DSp:=fun ds Z Q=>∃(a:Addr),ds=[.m a]/\Bag Z a/\∀(C R:Nat) qs U,0<C->0<R->C<=4->R<=4->GR.gZ qs C R->Step a Z U->Q (.v (.tuple [.int (C:Nat),.int (R:Nat),.list (qs.map bxD)])) U
theorem uK{ds:List D}{Z:Mu}{Q:DK}(h:lr ds Z Q):ds.length=1:=by obtain⟨_,rfl,_⟩:=h;rfl
noncomputable def mU:DSp:=fun ds Z Q=>∃(a:Addr) (d:Int) (C R:Nat) (qs:List GR.Bx),ds=[.m a,.v (.int d),.v (.int (C:Nat)),.v (.int (R:Nat)),.v (.list (qs.map bxD))]/\aL d/\Bag Z a/\0<C/\0<R/\C<=60/\R<=60/\C*R<=60/\GR.gZ qs C R /\
 ∀t U,Drawn d t->iD a Z U->Q (.v t) U
theorem zB{ds:List D}{Z:Mu}{Q:DK}(h:mU ds Z Q):ds.length=5:=by obtain⟨_,_,_,_,_,rfl,_⟩:=h;rfl
noncomputable def nW:DSp:=fun ds Z Q=>∃(a:Addr) (d:Int),ds=[.m a,.v (.int d)]/\aL d/\Bag Z a/\∀t U,Drawn d t->iD a Z U->Q (.v t) U
theorem xi{ds:List D}{Z:Mu}{Q:DK}(h:nW ds Z Q):ds.length=2:=by obtain⟨_,_,rfl,_⟩:=h;rfl
noncomputable def kE:DTS:=
 (bp (ay en (ag (ai 0) (ag (ay nH (ag (ai 1) ar)) ar))))
noncomputable def fH:DTS:=
 (aO (bc (bq (ag (cp (dC (.int 1)) (ay bE (ag (ai 0) (ag (dC (.int 2)) ar)))) (ag (cp (dC (.int 1)) (ay bE (ag (ai 0) (ag (dC (.int 2)) ar)))) ar))) (cM 2 (aH (aq 1) (aH (aq 2) cY))))
 (aO (bc (lS (ag (bq (ag (dC (.int 0)) (ag (dC (.int 0)) (ag (cp (ai 1) (dC (.int 1))) (ag (dC (.int 1)) ar))))) (ag (bq (ag (cp (ai 1) (dC (.int 1))) (ag (dC (.int 0)) (ag (dC (.int 1)) (ag (cp (ai 2) (dC (.int 1))) ar))))) (ag (bq (ag (dC (.int 1)) (ag (cp (ai 2) (dC (.int 1))) (ag (cp (ai 1) (dC (.int 1))) (ag (dC (.int 1)) ar))))) (ag (bq (ag (dC (.int 0)) (ag (dC (.int 1)) (ag (dC (.int 1)) (ag (cp (ai 2) (dC (.int 1))) ar))))) (ag (bq (ag (dC (.int 1)) (ag (dC (.int 1)) (ag (ai 1) (ag (ai 2) ar))))) ar)))))) (aq 3))
 (aO (cV (dB (dOp (d8 false) (ay bE (ag (ai 0) (ag (dC (.int 2)) ar))) (dC (.int 0)))) (bc (iL [none,none,none,none,some 1] (gW (ai 3)) (cM 4 (aH (aq 0) (aH (aq 1) (aH (aq 2) (aH (aq 3) cY))))) ny (bq (ag (lZ (lZ (cp (ai 4) (dC (.int 2))) (ai 0)) (ai 2)) (ag (ai 1) (ag (ai 2) (ag (ai 3) ar)))))) (aq 3)) bL)
 (bp (bq (ag (cp (ai 1) (dC (.int 2))) (ag (cp (ai 2) (dC (.int 2))) (ag (ai 3) ar))))))))
noncomputable def jP:DTS:=
 (aO (wR 5 6 (ag (ay Bk (ag (ay qU (ag (ai 0) (ag (ai 1) (ag (ai 2) ar)))) ar)) (ag (ay Bk (ag (ay qU (ag (ai 0) (ag (ai 1) (ag (ai 3) ar)))) ar)) ar)))
 (aO (bc (sL ar) (aq 7))
 (aO (qr (gW (ay qR (ag (ai 0) (ag (ai 4) ar)))) (cM 4 (aH (aq 8) (aH (aq 9) (aH (aq 10) (aH (aq 11) cY))))) (aO (wR 12 13 (ag (ay v5 (ag (dOp aN (ai 5) (cp (ai 8) (ai 10))) (ag (dOp aN (ai 5) (ai 8)) ar))) (ag (ay v5 (ag (dOp aN (ai 6) (cp (ai 9) (ai 11))) (ag (dOp aN (ai 6) (ai 9)) ar))) ar)))
 (lK (CD (ai 7) (bq (ag (dOp aN (ai 5) (ai 8)) (ag (dOp aN (ai 6) (ai 9)) (ag (ai 12) (ag (ai 13) ar)))))))))
 (bp (bq (ag (dOp aN (ai 5) (wa (dC (.int 1)))) (ag (dOp aN (ai 6) (wa (dC (.int 1)))) (ag (dCB k0 (ag (ai 7) ar)) ar))))))))
noncomputable def iK:DTS:=
 (aO (cV (dB (dOp (d8 false) (ay bE (ag (ai 0) (ag (dC (.int 5)) ar))) (dC (.int 0)))) (aO (bc (ay lr (ag (ai 0) ar)) (cM 3 (aH (aq 2) (aH (aq 3) (aH (aq 4) cY)))))
 (bp (ay mU (ag (ai 0) (ag (ai 1) (ag (ai 2) (ag (ai 3) (ag (ai 4) ar)))))))) bL)
 (aO (bc (ay uh (ag (ai 0) ar)) (cM 2 (aH (aq 2) (aH (aq 3) cY))))
 (bp (ay mU (ag (ai 0) (ag (ai 1) (ag (ai 2) (ag (ai 3) (ag (ay vF (ag (ai 0) (ag (ai 2) (ag (ai 3) ar)))) ar)))))))))
section
variable {Z:Mu}{Qd:DK}{ds:List D}
theorem rf{qs:List GR.Bx}{C R:Nat}(h1:qs.all (fun q=>decide (q.l<q.r)&&(decide (q.r<=C)&&(decide (q.b<q.t)&&decide (q.t<=R))))=true)(h2:GR.si qs C R=true):GR.gZ qs C R:=by
 have f:∀q∈qs,q.l<q.r/\q.r<=C/\q.b<q.t/\q.t<=R:=fun q hq=>by
  have:=List.all_eq_true.mp h1 q hq
  simp only[and_eq_true,decide_eq_true_iff] at this
  exact this
 obtain⟨a,b⟩:=(GR.C7 fun q hq=>⟨(f q hq).2.1,(f q hq).2.2.2⟩).mp h2
 exact⟨f,a,b⟩
def qsP(a b:Nat):List GR.Bx:=[⟨0,a+1,0,1⟩,⟨a+1,a+2,0,b+1⟩,⟨1,a+2,b+1,b+2⟩,⟨0,1,1,b+2⟩,⟨1,a+1,1,b+1⟩]
def mir(A:Nat)(q:GR.Bx):GR.Bx:=⟨A-q.r,A-q.l,q.b,q.t⟩
theorem Pg:∀a b:Nat,a=1\/a=2->b=1\/b=2->GR.gZ (qsP a b) (a+2) (b+2)/\GR.gZ ((qsP a b).map (mir (a+2))) (a+2) (b+2):=by
 rintro a b (rfl|rfl) (rfl|rfl)<;>exact⟨rf ⋯ ⋯,rf ⋯ ⋯⟩
theorem Pt{A:Nat}{q:GR.Bx}(h:q.l<q.r/\q.r<=A):PyData.tuple [.int (((A:Nat):Int)-(q.l:Nat)-((q.r-q.l:Nat):Int)),.int (q.b:Nat),.int ((q.r-q.l:Nat):Int),.int ((q.t-q.b:Nat):Int)]=bxD (mir A q):=by
 unfold bxD mir
 dsimp only
 rw[show ((A:Nat):Int)-(q.l:Nat)-((q.r-q.l:Nat):Int)=((A-q.r:Nat):Int) by omega,show A-q.l-(A-q.r)=q.r-q.l by omega]
theorem zv(h:v5 ds Z Qd):kE ‹Qd› (aP ["",""] ds) Z:=by
 obtain⟨x,y,rfl,ox,oy,bx,by_,q⟩:=h
 unfold kE
 walk_at "rn"
 refine⟨y,rfl,x,minus y,rfl,ox,gH oy,bx.mono ⋯,(p4 by_).mono ⋯,?_⟩
 have e:plus x (minus y)=less x y:=Rep.eq (cA ox (gH oy)) (i8 ox oy) ((cE ox).plus ox (gH oy) (cE oy).minus) ((cE ox).less ox oy (cE oy)) (by grind) (by grind)
 rw[e]
 exact q
theorem sv(h:lr ds Z Qd):fH ‹Qd› (aP ["","","",""] ds) Z:=by
 obtain⟨a,rfl,hb,q⟩:=h
 unfold fH
 walk_at "rb"
 refine⟨a,2,rfl,⋯,⋯,hb,fun r1 ad r10 r11 s1=>?_⟩
 walk_at "rb"
 refine⟨a,2,rfl,⋯,⋯,s1.1,fun r2 am r20 r21 s2=>?_⟩
 have s12:=s1.trans s2
 walk_at "rb"
 obtain⟨A,hA⟩:∃A:Nat,1+r1=(A:Int):=⟨(1+r1).toNat,∅⟩
 obtain⟨B,hB⟩:∃B:Nat,1+r2=(B:Int):=⟨(1+r2).toNat,∅⟩
 rw[hA,hB]
 have A12:A=1\/A=2:=by omega
 have B12:B=1\/B=2:=by omega
 obtain⟨cv1,cv2⟩:=Pg A B A12 B12
 refine⟨trivial,?_⟩
 refine⟨a,2,rfl,⋯,⋯,s2.1,fun r3 be r30 r31 s3=>?_⟩
 have s13:=s12.trans s3
 walk_at "rb"
 have e0:[PyData.tuple [.int 0,.int 0,.int ((A:Nat)+1),.int 1],.tuple [.int ((A:Nat)+1),.int 0,.int 1,.int ((B:Nat)+1)],.tuple [.int 1,.int ((B:Nat)+1),.int ((A:Nat)+1),.int 1],.tuple [.int 0,.int 1,.int 1,.int ((B:Nat)+1)],.tuple [.int 1,.int 1,.int (A:Nat),.int (B:Nat)]]=(qsP A B).map bxD:=by
  rcases A12 with rfl|rfl<;>rcases B12 with rfl|rfl<;>rfl
 rw[e0]
 by_cases c:r3=0
 ·rw[dY (decide_eq_true c)]
  walk_at "rb"
  rw[kX]
  walk_at "rb"
  refine⟨by rw[length_map];exact (by decide:(5:Nat)<=1000),fun p hp=>⟨fun i acc U=>acc=((qsP A B).take i).map (fun q=>bxD (mir (A+2) q))/\U=aA be p acc,⟨rfl,rfl⟩,?_,?_⟩⟩
  ·rintro i x acc U hx ha ⟨e1,e2⟩
   obtain⟨b,eb,rfl⟩:=AB hx
   have fb:=cv1.fits b (mem_of_getElem? eb)
   rw[show bxD b = .tuple [.int (b.l:Nat),.int (b.b:Nat),.int ((b.r-b.l:Nat):Int),.int ((b.t-b.b:Nat):Int)] from rfl]
   walk_at "rb"
   simp only[true_and,and_true,↓reduceIte]
   rw[show ((A:Nat):Int)+2=((A+2:Nat):Int) by omega,Pt ⟨fb.1,fb.2.1⟩]
   refine⟨ha,?_,?_⟩
   ·rw[e1,take_snoc eb,map_append];rfl
   ·rw[e2,eN]
  ·rintro acc U ⟨e1,e2⟩ ha
   rw[length_map,take_length] at e1
   subst e1
   rw[e2,nV hp]
   have:=q (A+2) (B+2) _ be ∅ ∅ ∅ ∅ cv2 s13
   rw[map_map] at this
   exact this
 ·rw[dj (by simpa using c)]
  walk_at "rb"
  have:=q (A+2) (B+2) _ be ∅ ∅ ∅ ∅ cv1 s13
  exact this
theorem Kn{α β:Type}{f:α->β}{zs m:List β}(h:zs.Perm m):∀{qs:List α},m=qs.map f->∃ps:List α,zs=ps.map f/\ps.Perm qs:=by
 induction h with
 |nil=>
  intro qs e
  cases qs with
  |nil=>exact⟨[],rfl,.refl _⟩
  |cons q qs=>cases e
 |cons x h ih=>
  intro qs e
  cases qs with
  |nil=>cases e
  |cons q qs=>
   rw[map_cons] at e
   injection e with e1 e2
   obtain⟨ps,e3,pm⟩:=ih e2
   exact⟨q::ps,by rw[map_cons,e1,e3],pm.cons q⟩
 |swap x y l=>
  intro qs e
  match qs,e with
  |a::b::rest,e=>
   rw[map_cons,map_cons] at e
   injection e with e1 e2
   injection e2 with e2 e3
   exact⟨b::a::rest,by rw[map_cons,map_cons,e1,e2,e3],.swap _ _ _⟩
 |trans h1 h2 ih1 ih2=>
  intro qs e
  obtain⟨ps,e3,pm⟩:=ih2 e
  obtain⟨ps',e4,pm'⟩:=ih1 e3
  exact⟨ps',e4,pm'.trans pm⟩
theorem at_getD{xs:List N3}{i:Nat}(h:i<xs.length):atI (xs.map dN) (i:Int)=some (dN (xs.getD i aC)):=by
 rw[getD_at h]
 exact vI (getElem?_eq_getElem h)
theorem x6{d:Int}{xs:List N3}{C:Nat}(f:fX d xs C):xs.getLast? = some (xs.getD C aC):=by
 rw[List.getLast?_eq_getElem?,f.len,Nat.add_sub_cancel,getElem?_eq_getElem (f.at (le_refl _)),getD_at]
theorem xQ(h:mU ds Z Qd):jP ‹Qd› (aP ["","","","","","","","","","","","","",""] ds) Z:=by
 obtain⟨a,d,C,R,qs,rfl,hd,hb,c0,r0,c60,r60,cr,cov,q⟩:=h
 unfold jP
 walk_at "rb"
 refine⟨a,d,C,rfl,hd,hb,c60,fun sx ad lx gx s1=>?_⟩
 walk_at "rb"
 refine⟨d,sx,rfl,hd,∅,gx,fun xs fx bx=>?_⟩
 rw[lx] at fx
 walk_at "rb"
 refine⟨a,d,R,rfl,hd,s1.1,r60,fun sy am ly gy s2=>?_⟩
 walk_at "rb"
 refine⟨d,sy,rfl,hd,∅,gy,fun ys fy by_=>?_⟩
 rw[ly] at fy
 have s12:=(s1.trans s2).w
 walk_at "rb"
 intro f hf
 have af:=u7 s2.1 hf
 rw[lJ]
 walk_at "rb"
 have lq:qs.length<=C*R:=rg cov.fits cov.apart
 refine⟨a,_,rfl,s2.1.off af,by rw[length_map];omega,fun zs be pm s3=>?_⟩
 obtain⟨ps,rfl,pp⟩:=Kn pm rfl
 have covp:=cov.perm pp
 have lp:ps.length=qs.length:=pp.length_eq
 walk_at "rb"
 have keep:∀b,b≠a->∀es,Z b=some es->b≠f/\be b=some es:=fun b n es e=>by
  have e2:=s12.2 b n es e
  have bf:b≠f:=fun z=>by rw[z,hf] at e2;cases e2
  exact⟨bf,s3.2 b n es (by rw[aQ bf];exact e2)⟩
 refine⟨fun i ρ U=>∃r8 r9 r10 r11 r12 r13,ρ=[some (.m a),some (.v (.int d)),some (.v (.int (C:Nat))),some (.v (.int (R:Nat))),some (.v (.list (qs.map bxD))),some (.v (.list (xs.map dN))),some (.v (.list (ys.map dN))),some (.m f),r8,r9,r10,r11,r12,r13]/\Bag U a/\(∀b,b≠a->∀es,Z b=some es->U b=some es)/\U f=some ((ps.take i).map fun q=>tlD (i7 xs ys q)),⟨_,_,_,_,_,_,rfl,s3.1,fun b n es e=>(keep b n es e).2,s3.2 f af.symm _ aD⟩,?_,?_⟩
 ·rintro i x ρ U hx ⟨r8,r9,r10,r11,r12,r13,rfl,hb',kp,hf'⟩
  obtain⟨b,eb,rfl⟩:=AB hx
  have hi:i<ps.length:=(List.getElem?_eq_some_iff.mp eb).1
  have fb:=covp.fits b (mem_of_getElem? eb)
  rw[show bxD b = .tuple [.int (b.l:Nat),.int (b.b:Nat),.int ((b.r-b.l:Nat):Int),.int ((b.t-b.b:Nat):Int)] from rfl]
  walk_at "rb"
  rw[show ((b.l:Nat):Int)+((b.r-b.l:Nat):Int)=((b.r:Nat):Int) by omega]
  have g:∀{j},j<=C->Bd 12 (xs.getD j aC):=fun h=>by rw[getD_at (fx.at h)];exact wB (fx.ok _ (getElem_mem _)) (bx _ (getElem_mem _)) ⋯
  have g':∀{j},j<=R->Bd 12 (ys.getD j aC):=fun h=>by rw[getD_at (fy.at h)];exact wB (fy.ok _ (getElem_mem _)) (by_ _ (getElem_mem _)) ⋯
  refine⟨trivial,?_⟩
  rw[at_getD (fx.at (show b.r<=C by omega)),at_getD (fx.at (show b.l<=C by omega))]
  dsimp only
  refine⟨_,_,rfl,fx.bX ∅,fx.bX ∅,(g ∅).mono ⋯,(g ∅).mono ⋯,?_⟩
  walk_at "rb"
  rw[show ((b.b:Nat):Int)+((b.t-b.b:Nat):Int)=((b.t:Nat):Int) by omega]
  rw[at_getD (fy.at (show b.t<=R by omega)),at_getD (fy.at (show b.b<=R by omega))]
  dsimp only
  refine⟨_,_,rfl,fy.bX ∅,fy.bX ∅,(g' ∅).mono ⋯,(g' ∅).mono ⋯,?_⟩
  walk_at "rb"
  rw[at_getD (fx.at (show b.l<=C by omega)),at_getD (fy.at (show b.b<=R by omega))]
  rw[hf']
  dsimp only
  have lt:(ps.take i).length<=60:=by rw[length_take];omega
  refine⟨by rw[length_map];omega,_,_,_,_,_,_,rfl,hb'.off af,fun c n es e=>?_,?_⟩
  ·rw[aQ (keep c n es e).1];exact kp c n es e
  ·rw[aD,take_snoc eb,map_append];rfl
 ·rintro ρ U ⟨r8,r9,r10,r11,r12,r13,rfl,hb',kp,hf'⟩
  rw[length_map,take_length] at hf'
  walk_at "rb"
  rw[qJ (x6 fx),qJ (x6 fy)]
  walk_at "rb"
  rw[hf']
  dsimp only
  refine q _ U ⟨xs,ys,C,R,ps,⟨fx,fy,c0,r0,c60,r60,cr,bx,by_,covp⟩,?_⟩ ⟨hb',kp⟩
  unfold gE
  rw[map_map]
  rfl
theorem uS(h:nW ds Z Qd):iK ‹Qd› (aP ["","","","",""] ds) Z:=by
 obtain⟨a,d,rfl,hd,hb,q⟩:=h
 unfold iK
 walk_at "rb"
 refine⟨a,5,rfl,⋯,⋯,hb,fun r ad _ _ s1=>?_⟩
 walk_at "rb"
 by_cases c:r=0
 ·rw[dY (decide_eq_true c)]
  walk_at "rb"
  refine⟨a,rfl,s1.1,fun C R qs am c0 r0 c4 r4 cov s2=>?_⟩
  walk_at "rb"
  have:C*R<=4*4:=mul_le_mul c4 r4
  refine⟨trivial,a,d,C,R,qs,rfl,hd,s2.1,c0,r0,∅,∅,∅,cov,fun t be dr s3=>?_⟩
  walk_at "rb"
  exact q t be dr ((s1.trans s2).w.trans s3)
 ·rw[dj (by simpa using c)]
  walk_at "rb"
  refine⟨a,rfl,s1.1,fun C R am c0 r0 c60 r60 cr s2=>?_⟩
  walk_at "rb"
  refine⟨trivial,a,C,R,rfl,c0,r0,c60,r60,∅,s2.1,fun qs be cov s3=>?_⟩
  walk_at "rb"
  refine⟨a,d,C,R,qs,rfl,hd,s3.1,c0,r0,c60,r60,cr,cov,fun t ci dr s4=>?_⟩
  walk_at "rb"
  exact q t ci dr (((s1.trans s2).w.trans s3).trans s4)
end
noncomputable def qI(n:Nat)(t:PyData):Prop:=Few t/\∀x,t=dN x->Bd n x
noncomputable def OJ(z:PyData):Prop:=∀a b c e,z≠.tuple [a,b,c,e]
noncomputable def Nv(k:Nat)(ts:List Tl):Prop:=∃X Y:List N3,(∀t∈ts,OnM X Y t)/\X.length<=61+2*k/\Y.length<=61+2*k
noncomputable def KA(k n:Nat)(t:PyData):Prop:=JO t/\∀w h ts,t=gE w h ts->Bd n w/\Bd n h/\(∀t∈ts,Bd4 n t)/\Nv k ts
structure TOk(t:Tl):Prop where
 x:Ok t.x
 y:Ok t.y
 w:Ok t.w
 h:Ok t.h
structure DH(k n:Nat)(w h:N3)(ts:List Tl):Prop where
 ow:Ok w
 oh:Ok h
 bw:Bd n w
 bh:Bd n h
 ok:∀t∈ts,TOk t
 bd:∀t∈ts,Bd4 n t
 l1:1<=ts.length
 l60:ts.length<=60
 Qs:Nv k ts
section
variable {Z:Mu}{Qd:DK}{ds:List D}
theorem qI.part{n:Nat}{t:PyData}(h:qI n t)(l:n<=4400):wd t:=⟨h.1,fun x e=>(h.2 x e).mono l⟩
theorem rG{n:Nat}{x:N3}(b:Bd n x):qI n (dN x):=⟨IX,fun y e=>by rw[<- oV e];exact b⟩
theorem OnM.mono{X Y X' Y':List N3}{t:Tl}(h:OnM X Y t)(hx:∀x∈X,x∈X')(hy:∀y∈Y,y∈Y'):OnM X' Y' t:=⟨hx _ h.l,hx _ h.r,hy _ h.b,hy _ h.t⟩
theorem Kb{ts:List Tl}(ys:List PyData):∀{X Y:List N3},(∀t∈ts,OnM X Y t)->∃X' Y':List N3,X'.length<=X.length+2*ys.length/\Y'.length<=Y.length+2*ys.length/\(∀t∈ts,OnM X' Y' t)/\∀u,tlD u∈ys->OnM X' Y' u:=by
 induction ys with
 |nil=>intro X Y on;exact⟨X,Y,le_refl _,le_refl _,on,fun u h=>absurd h not_mem_nil⟩
 |cons y ys ih=>
  intro X Y on
  obtain⟨X',Y',lx,ly,on',onu⟩:=ih on
  by_cases c:∃u,y=tlD u
  ·obtain⟨u,rfl⟩:=c
   have mx:∀x∈X',x∈u.x::plus u.x u.w::X':=fun x h=>mem_cons_of_mem _ (mem_cons_of_mem _ h)
   have my:∀x∈Y',x∈u.y::plus u.y u.h::Y':=fun x h=>mem_cons_of_mem _ (mem_cons_of_mem _ h)
   refine⟨u.x::plus u.x u.w::X',u.y::plus u.y u.h::Y',?_,?_,fun t ht=>(on' t ht).mono mx my,fun v hv=>?_⟩
   ·simp only[length_cons];omega
   ·simp only[length_cons];omega
   ·rcases List.mem_cons.mp hv with e|e
    ·rw[Bp e]
     exact⟨mem_cons_self,mem_cons_of_mem _ mem_cons_self,mem_cons_self,mem_cons_of_mem _ mem_cons_self⟩
    ·exact (onu v e).mono mx my
  ·refine⟨X',Y',?_,?_,on',fun v hv=>?_⟩
   ·simp only[length_cons];omega
   ·simp only[length_cons];omega
   ·rcases List.mem_cons.mp hv with e|e
    ·exact absurd ⟨v,e.symm⟩ c
    ·exact onu v e
noncomputable def Ji(n:Nat)(y:PyData):Prop:=∀a b c e,y = .tuple [a,b,c,e]->qI n a/\qI n b/\qI n c/\qI n e
theorem Jn{n:Nat}{t:Tl}(h:Bd4 n t):Ji n (tlD t):=fun a b c e z=>by
 unfold tlD at z
 simp only[PyData.tuple.injEq,List.cons.injEq,and_true] at z
 obtain⟨rfl,rfl,rfl,rfl⟩:=z
 exact⟨rG h.x,rG h.y,rG h.w,rG h.h⟩
theorem NO{n:Nat}{y:PyData}(h:Ji n y){u:Tl}(e:y=tlD u):Bd4 n u:=by
 obtain⟨a,b,c,d⟩:=h _ _ _ _ e
 exact⟨a.2 _ rfl,b.2 _ rfl,c.2 _ rfl,d.2 _ rfl⟩
theorem Ks{n:Nat}{y:PyData}(h:OJ y):Ji n y:=fun a b c e z=>absurd z (h a b c e)
theorem KP{k n:Nat}{ts:List Tl}(hn:n<=4400)(g:Nv k ts)(bd:∀t∈ts,Bd4 n t){a b c:PyData}(pa:qI n a)(pb:qI n b)(ys:List PyData)(hy:∀y∈ys,Ji n y)
  (hc:∀zs,c = .tuple zs->zs.length<=1000/\∀z∈zs,(∃t∈ts,z=tlD t)\/z∈ys\/OJ z):KA (k+ys.length) n (.tuple [a,b,c]):=by
 constructor
 ·intro a' b' c' e
  simp only[PyData.tuple.injEq,List.cons.injEq,and_true] at e
  obtain⟨rfl,rfl,rfl⟩:=e
  refine⟨pa.part hn,pb.part hn,fun zs ez=>⟨(hc zs ez).1,fun z hz=>?_⟩⟩
  have:Ji n z:=by
   rcases (hc zs ez).2 z hz with ⟨t,ht,rfl⟩|h|h
   ·exact Jn (bd t ht)
   ·exact hy z h
   ·exact Ks h
  exact fun a b c e h=>by
   obtain⟨h1,h2,h3,h4⟩:=this a b c e h
   exact⟨h1.part hn,h2.part hn,h3.part hn,h4.part hn⟩
 ·intro w h us e
  unfold gE at e
  simp only[PyData.tuple.injEq,List.cons.injEq,and_true] at e
  obtain⟨rfl,rfl,rfl⟩:=e
  have mem:∀u∈us,u∈ts\/tlD u∈ys:=fun u hu=>by
   rcases (hc _ rfl).2 _ (mem_map_of_mem hu) with ⟨t,ht,e⟩|h|h
   ·exact .inl (Bp e▸ht)
   ·exact .inr h
   ·exact absurd rfl (h _ _ _ _)
  obtain⟨X,Y,on,lx,ly⟩:=g
  obtain⟨X',Y',lx',ly',on',onu⟩:=Kb ys on
  refine⟨pa.2 _ rfl,pb.2 _ rfl,fun u hu=>?_,X',Y',fun u hu=>?_,∅,∅⟩
  ·rcases mem u hu with z|z
   ·exact bd u z
   ·exact NO (hy _ z) rfl
  ·rcases mem u hu with z|z
   ·exact on' u z
   ·exact onu u z
theorem KA.p{k n:Nat}{t:PyData}(h:KA k n t)(hk:k<=10)(hn:n<=2100):K8 t:=by
 refine⟨h.1,fun w k' ts e=>?_⟩
 obtain⟨h1,h2,h3,X,Y,on,lx,ly⟩:=h.2 w k' ts e
 refine⟨h1.mono hn,h2.mono hn,fun t ht=>⟨(h3 t ht).x.mono hn,(h3 t ht).y.mono hn,(h3 t ht).w.mono hn,(h3 t ht).h.mono hn⟩,X,Y,on,∅,∅,?_⟩
 exact le_trans (mul_le_mul (show X.length<=81 by omega) (show Y.length<=81 by omega)) ⋯
theorem DH.q{k n:Nat}{w h:N3}{ts:List Tl}(v:DH k n w h ts)(hn:n<=4400):KA k n (gE w h ts):=by
 have:=KP hn v.Qs v.bd (c:=.tuple (ts.map tlD)) (rG v.bw) (rG v.bh) [] (fun _ h=>absurd h not_mem_nil) fun zs e=>by
  simp only[PyData.tuple.injEq] at e
  subst e
  have:=v.l60
  exact⟨by rw[length_map];omega,fun z hz=>by
   obtain⟨t,ht,rfl⟩:=List.mem_map.mp hz
   exact .inl ⟨t,ht,rfl⟩⟩
 exact this
theorem Ee.v{d:Int}(hd:aL d){xs ys:List N3}{C R:Nat}{qs:List GR.Bx}(h:Ee d xs ys C R qs):DH 0 13 (xs.getD C aC) (ys.getD R aC) (qs.map (i7 xs ys))/\Cd d (xs.getD C aC) (ys.getD R aC) (qs.map (i7 xs ys)):=by
 have sx:∀{j},j<=C->Six 3600 (xs.getD j aC):=fun z=>by rw[getD_at (h.fx.at z)];exact h.bx _ (getElem_mem _)
 have gx:∀{j},j<=C->Bd 12 (xs.getD j aC):=fun z=>wB (h.fx.bX z) (sx z) ⋯
 have sy:∀{j},j<=R->Six 3600 (ys.getD j aC):=fun z=>by rw[getD_at (h.fy.at z)];exact h.by_ _ (getElem_mem _)
 have gy:∀{j},j<=R->Bd 12 (ys.getD j aC):=fun z=>wB (h.fy.bX z) (sy z) ⋯
 have l60:qs.length<=60:=le_trans (rg h.cov.fits h.cov.apart) h.cr
 have l1:1<=qs.length:=by
  obtain⟨q,hq,_⟩:=h.cov.all 0 0 h.c0 h.r0
  exact List.length_pos_of_mem hq
 have tv:∀t∈qs.map (i7 xs ys),tw d t:=fun t ht=>by
  obtain⟨q,hq,rfl⟩:=List.mem_map.mp ht
  exact Ou hd h.fx h.fy (h.cov.fits q hq)
 have fv:Cd d (xs.getD C aC) (ys.getD R aC) (qs.map (i7 xs ys)):=⟨h.fx.bX (le_refl _),h.fy.bX (le_refl _),h.fx.pos h.c0,h.fy.pos h.r0,by rw[length_map];exact l1,by rw[length_map];exact l60,tv⟩
 refine⟨⟨fv.ow,fv.oh,(gx (le_refl _)).mono ⋯,(gy (le_refl _)).mono ⋯,fun t ht=>⟨(tv t ht).ox,(tv t ht).oy,(tv t ht).ow,(tv t ht).oh⟩,fun t ht=>?_,fv.some,fv.few,xs,ys,fun t ht=>?_,?_,?_⟩,fv⟩
 ·obtain⟨q,hq,rfl⟩:=List.mem_map.mp ht
  have f:=h.cov.fits q hq
  exact⟨(gx ∅).mono ⋯,(gy ∅).mono ⋯,CO (i8 (h.fx.bX ∅) (h.fx.bX ∅)) (C3 (h.fx.bX ∅) (h.fx.bX ∅) (sx ∅) (sx ∅)) ⋯,CO (i8 (h.fy.bX ∅) (h.fy.bX ∅)) (C3 (h.fy.bX ∅) (h.fy.bX ∅) (sy ∅) (sy ∅)) ⋯⟩
 ·obtain⟨q,hq,rfl⟩:=List.mem_map.mp ht
  have f:=h.cov.fits q hq
  have mx:∀{j},j<=C->xs.getD j aC∈xs:=fun z=>by rw[getD_at (h.fx.at z)];exact getElem_mem _
  have my:∀{j},j<=R->ys.getD j aC∈ys:=fun z=>by rw[getD_at (h.fy.at z)];exact getElem_mem _
  refine⟨mx ∅,?_,my ∅,?_⟩
  ·rw[zZ (R:=R) h.fx f.1 f.2.1];exact mx ∅
  ·rw[AL (C:=C) h.fy f.2.2.1 f.2.2.2];exact my ∅
 ·have:=h.fx.len;have:=h.c60;omega
 ·have:=h.fy.len;have:=h.r60;omega
theorem Drawn.yes{d:Int}(hd:aL d){t:PyData}{b:Bool}(h:Drawn d t)(l:Gi d t b):b=true:=by
 obtain⟨xs,ys,C,R,qs,g,rfl⟩:=h
 obtain⟨P,Q,mp,mq,rfl⟩:=l.2 _ _ _ rfl (g.v hd).2
 exact GU hd g.fx g.fy g.c0 g.r0 g.cov mp mq
end
local macro_rules|`(tactic| walk_at "rb")=>mkW "↓H0 Gq Ml JX ↓Pm ↓l_t ↓l_f l_T l_F Pu Pf Ez decide_true decide_false Bool.xor_true true_xor ↓AJ ↓AD ↓AR ↓yY ↓Bh ↓Ai ↓Ax ↓AE ↓A4 ↓AO ↓uo ↓q_c ↓Pp ↓q_B ↓Lg ↓Gy ↓Fw ↓IW ↓Mn ↓Bq ↓Ir ↓Mx ↓AW ↓OW ↓FY ↓ze ↓E1 ↓Fg ↓A5 ↓Fd ↓Gs ↓Ge ↓Fz ↓yR ↓zw ↓A3 ↓vN ↓uP ↓vT ↓Bs ↓vD ↓sG ↓GH ↓Gz ↓FE ↓Bj ↓Gn ↓OE ↓Al ↓zA ↓A0 ↓AZ ↓GB ↓KH ↓Ak ↓FF ↓Ga ↓uc ↓AI ↓uu ↓zd ↓AS ↓Mf ↓FC ↓A8 ↓FK ↓GG ↓zL ↓Mr ↓ub ↓IA ↓E6 ↓Gw ↓yL ↓qe ↓ue ↓qH ↓p6 ↓pN ↓pL ↓Fl JB AX AH E2 Gf Gu bind_none bind_some join_some List.getElem?_cons_zero List.getElem?_cons_succ aP J0 DD D4 EK By n5 wb uF yx Cw map_cons map_nil List.append List.replicate length_cons length_nil Nat.reduceAdd Nat.reduceSub nil_append cons_append List.set_cons_zero List.set_cons_succ map_some Bool.not_true Bool.not_false false_eq_true Bool.true_eq_false xor_false false_xor ↓Gk ↓GD ↓FH ↓ET ↓FU ↓BG ↓Dw ↓Ib ↓Mq ↓Kt ↓C1 ↓NJ N5 Om LW ↓HE"
noncomputable def nT:DSp:=fun ds Z Q=>∃(d:Int) (t:PyData),ds=[.v (.int d),.v t]/\aL d/\K8 t/\(∀b,Gi d t b->b=true)/\Q (.v .none) Z
theorem wQ{ds:List D}{Z:Mu}{Q:DK}(h:nT ds Z Q):ds.length=2:=by obtain⟨_,_,rfl,_⟩:=h;rfl
def sU(d:Int)(t:Tl)(x y:N3):Bool:=!(decide (dif d t.x x=1) || (decide (dif d x (plus t.x t.w)=1) || (decide (dif d t.y y=1) || decide (dif d y (plus t.y t.h)=1))))
noncomputable def Pe(d:Int)(t:Tl)(x y:N3):Prop:=aL d/\TOk t/\Bd4 2100 t/\Ok x/\Ok y/\Bd 4300 x/\Bd 4300 y
noncomputable def lU:DSp:=fun ds Z Q=>∃(d:Int) (t:Tl) (x y:N3),ds=[.v (.int d),.v (tlD t),.v (dN x),.v (dN y)]/\Pe d t x y/\Q (.v (.bool (sU d t x y))) Z
theorem qN{ds:List D}{Z:Mu}{Q:DK}(h:lU ds Z Q):ds.length=4:=by obtain⟨_,_,_,_,rfl,_⟩:=h;rfl
noncomputable abbrev Ap:DSp:=lU
abbrev DQ{ds:List D}{Z:Mu}{Q:DK}(h:Ap ds Z Q):ds.length=4:=qN h
def plc(d:Int)(x y:N3):Nat->List Tl->List PyData
 |_,[]=>[]
 |j,t::ts=>if sU d t x y=true then .int (j:Nat)::plc d x y (j+1) ts else plc d x y (j+1) ts
structure OR(d:Int)(w h:N3)(ts:List Tl):Prop where
 root:aL d
 lp:K8 (gE w h ts)
 yes:∀b,Gi d (gE w h ts) b->b=true
 ok:∀t∈ts,TOk t
 bd:∀t∈ts,Bd4 2100 t
 l60:ts.length<=60
noncomputable def kh:DSp:=fun ds Z Q=>∃(d:Int) (w h:N3) (ts:List Tl) (x y:N3),ds=[.v (.int d),.v (gE w h ts),.v (dN x),.v (dN y)]/\OR d w h ts/\Ok x/\Ok y/\Bd 4300 x/\Bd 4300 y /\
 ∀p U,Z p=none->eW Z U->U p=some (plc d x y 0 ts)->Q (.m p) U
theorem xw{ds:List D}{Z:Mu}{Q:DK}(h:kh ds Z Q):ds.length=4:=by obtain⟨_,_,_,_,_,_,rfl,_⟩:=h;rfl
noncomputable def DV(p:N3×N3):Prop:=Ok p.1/\Bd 4300 p.1/\Ok p.2/\Bd 4300 p.2
noncomputable def vc:DSp:=fun ds Z Q=>∃(a:Addr) (d:Int) (w h:N3) (ts:List Tl),ds=[.m a,.v (.int d),.v (gE w h ts)]/\aL d/\DH 0 13 w h ts/\Bag Z a/\∀f (ps:List (N3×N3)) U,Z f=none->(∀p∈ps,DV p)->ps.length<=20->U f=some (ps.map pairD)->iD a Z U->Q (.m f) U
noncomputable def zm:DSp:=fun ds Z Q=>∃(a:Addr) (d:Int) (w h:N3) (ts:List Tl),ds=[.m a,.v (.int d),.v (gE w h ts)]/\aL d/\DH 0 13 w h ts/\Bag Z a/\∀(ps:List (N3×N3)) U,(∀p∈ps,DV p)->ps.length<=20->iD a Z U->Q (.v (.list (ps.map pairD))) U
theorem zY{ds:List D}{Z:Mu}{Q:DK}(h:vc ds Z Q):ds.length=3:=by obtain⟨_,_,_,_,_,rfl,_⟩:=h;rfl
theorem wu{ds:List D}{Z:Mu}{Qd:DK}(h:zm ds Z Qd):vc ds Z (MV Z Qd):=by
 obtain⟨a,d,w,h,ts,rfl,hd,v,hb,q⟩:=h
 exact⟨a,d,w,h,ts,rfl,hd,v,hb,fun f ps U hf g l e st=>⟨hf,_,e,q ps _ g l (st.off hf hb)⟩⟩
noncomputable def ff:DTS:=
 (cV (fA (dB (ay pR (ag (ai 0) (ag (ai 1) ar))))) wj bL)
noncomputable def jA:DTS:=
 (aO (bc (ay j8 (ag (ai 1) ar)) (cM 4 (aH (aq 4) (aH (aq 5) (aH (aq 6) (aH (aq 7) cY))))))
 (aO (bc (JG (ay jq (ag (ai 0) (ag (ai 4) (ag (ai 2) ar)))) (JG (ay jq (ag (ai 0) (ag (ai 2) (ag (ai 5) ar)))) (JG (ay jq (ag (ai 0) (ag (ai 6) (ag (ai 3) ar)))) (ay jq (ag (ai 0) (ag (ai 3) (ag (ai 7) ar))))))) (aq 8))
 (bp (yf (ai 8)))))
noncomputable def jL:DTS:=
 (aO (bc (ai 1) (cM 4 (aH (aq 4) (aH (aq 5) (aH (aq 6) (aH (aq 7) cY))))))
 (aO (cV (kQ (dB (ay kD (ag (ai 0) (ag (ai 2) (ag (ai 4) ar))))) (dB (ay kD (ag (ai 0) (ag (ai 3) (ag (ai 5) ar)))))) (bp (dC (.bool false))) bL)
 (bp (mS (yf (ay kD (ag (ai 0) (ag (ay en (ag (ai 4) (ag (ai 6) ar))) (ag (ai 2) ar))))) (yf (ay kD (ag (ai 0) (ag (ay en (ag (ai 5) (ag (ai 7) ar))) (ag (ai 3) ar)))))))))
noncomputable def mO:DTS:=
 (aO (lK (ay nT (ag (ai 0) (ag (ai 1) ar))))
 (aO (cV (kQ (fA (dB (ay mJ (ag (ai 2) ar)))) (fA (dB (ay mJ (ag (ai 3) ar))))) wj bL)
 (bp (zD [none,none,some 0,some 2,some 3] (uw (ag (dOp aN (ai 1) (dC (.int 2))) ar)) (cM 2 (aH (aq 0) (aH (aq 1) cY))) (dB (ay lU (ag (ai 2) (ag (ai 1) (ag (ai 3) (ag (ai 4) ar)))))) (ai 0)))))
section
variable {Z:Mu}{Qd:DK}{ds:List D}
theorem qL(h:nT ds Z Qd):ff ‹Qd› (aP ["",""] ds) Z:=by
 obtain⟨d,t,rfl,hd,lp,yes,q⟩:=h
 unfold ff
 walk_at "rb"
 refine⟨d,t,rfl,hd,lp,fun b lb=>?_⟩
 obtain rfl:=yes b lb
 walk_at "rb"
 exact q
theorem wM(h:lU ds Z Qd):jA ‹Qd› (aP ["","","","","","","","",""] ds) Z:=by
 obtain⟨d,t,x,y,rfl,⟨hd,ot,bt,ox,oy,bx,by_⟩,q⟩:=h
 unfold jA
 walk_at "rb"
 refine⟨d,t,rfl,⟨ot.x,ot.y,ot.w,ot.h,bt.x,bt.y,bt.w,bt.h⟩,?_⟩
 have br:Bd 4400 (plus t.x t.w):=(gB ot.x ot.w bt.x bt.w).mono ⋯
 have bu:Bd 4400 (plus t.y t.h):=(gB ot.y ot.h bt.y bt.h).mono ⋯
 rw[show qd t = .tuple [dN t.x,dN (plus t.x t.w),dN t.y,dN (plus t.y t.h)] from rfl]
 walk_at "rb"
 refine⟨trivial,d,t.x,x,rfl,hd,bt.x.mono ⋯,bx.mono ⋯,?_⟩
 unfold sU at q
 walk_at "rb"
 by_cases c1:dif d t.x x=1
 ·rw[dY (decide_eq_true c1)]
  walk_at "rb"
  rw[decide_eq_true c1] at q
  exact q
 rw[dj (by simpa using c1)]
 rw[decide_eq_false c1,Bool.false_or] at q
 walk_at "rb"
 refine⟨d,x,plus t.x t.w,rfl,hd,bx.mono ⋯,br,?_⟩
 walk_at "rb"
 by_cases c2:dif d x (plus t.x t.w)=1
 ·rw[dY (decide_eq_true c2)]
  walk_at "rb"
  rw[decide_eq_true c2] at q
  exact q
 rw[dj (by simpa using c2)]
 rw[decide_eq_false c2,Bool.false_or] at q
 walk_at "rb"
 refine⟨d,t.y,y,rfl,hd,bt.y.mono ⋯,by_.mono ⋯,?_⟩
 walk_at "rb"
 by_cases c3:dif d t.y y=1
 ·rw[dY (decide_eq_true c3)]
  walk_at "rb"
  rw[decide_eq_true c3] at q
  exact q
 rw[dj (by simpa using c3)]
 rw[decide_eq_false c3,Bool.false_or] at q
 walk_at "rb"
 refine⟨d,y,plus t.y t.h,rfl,hd,by_.mono ⋯,bu,?_⟩
 walk_at "rb"
 exact q
theorem w9(h:Ap ds Z Qd):jL ‹Qd› (aP ["","","","","","","",""] ds) Z:=by
 obtain⟨d,t,x,y,rfl,⟨hd,ot,bt,ox,oy,bx,by_⟩,q⟩:=h
 unfold jL
 have br:Bd 4300 (plus t.x t.w):=(gB ot.x ot.w bt.x bt.w).mono ⋯
 have bu:Bd 4300 (plus t.y t.h):=(gB ot.y ot.h bt.y bt.h).mono ⋯
 rw[show tlD t = .tuple [dN t.x,dN t.y,dN t.w,dN t.h] from rfl]
 walk_at "rb"
 refine⟨trivial,d,x,t.x,rfl,hd,ox,ot.x,bx,bt.x.mono ⋯,?_⟩
 unfold sU at q
 walk_at "rb"
 by_cases c1:dif d t.x x=1
 ·rw[dY (decide_eq_true c1)]
  walk_at "rb"
  rw[decide_eq_true c1] at q
  exact q
 rw[dj (by simpa using c1)]
 rw[decide_eq_false c1,Bool.false_or] at q
 walk_at "rb"
 refine⟨d,y,t.y,rfl,hd,oy,ot.y,by_,bt.y.mono ⋯,?_⟩
 walk_at "rb"
 by_cases c3:dif d t.y y=1
 ·rw[dY (decide_eq_true c3)]
  walk_at "rb"
  rw[decide_eq_true c3,Bool.true_or,Bool.or_true] at q
  exact q
 rw[dj (by simpa using c3)]
 rw[decide_eq_false c3,Bool.false_or] at q
 walk_at "rb"
 refine⟨t.x,t.w,rfl,ot.x,ot.w,bt.x.mono ⋯,bt.w.mono ⋯,?_⟩
 walk_at "rb"
 refine⟨d,plus t.x t.w,x,rfl,hd,cA ot.x ot.w,ox,br,bx,?_⟩
 walk_at "rb"
 by_cases c2:dif d x (plus t.x t.w)=1
 ·rw[decide_eq_true c2,Bool.true_or] at q
  rw[dj (by rw[decide_eq_true c2];decide)]
  exact q
 rw[decide_eq_false c2,Bool.false_or] at q
 rw[dY (by rw[decide_eq_false c2];rfl)]
 walk_at "rb"
 refine⟨t.y,t.h,rfl,ot.y,ot.h,bt.y.mono ⋯,bt.h.mono ⋯,?_⟩
 walk_at "rb"
 refine⟨d,plus t.y t.h,y,rfl,hd,cA ot.y ot.h,oy,bu,by_,?_⟩
 walk_at "rb"
 exact q
theorem vJ{d:Int}{x y:N3}:∀{ts:List Tl} {j i:Nat} {t:Tl},ts[i]? = some t->plc d x y j (ts.take (i+1))=plc d x y j (ts.take i)++(if sU d t x y=true then [.int ((j+i:Nat):Int)] else [])
 |[],j,i,t,h=>by cases h
 |u::ts,j,0,t,h=>by
  cases h
  show (if _ then _ else _)=_
  split<;>rfl
 |u::ts,j,i+1,t,h=>by
  have ih:=vJ (d:=d) (x:=x) (y:=y) (ts:=ts) (j:=j+1) (i:=i) (t:=t) h
  rw[show j+1+i=j+(i+1) by omega] at ih
  show (if _ then _ else _)=(if _ then _ else _)++_
  rw[ih]
  split<;>rfl
theorem EW{ts:List Tl}{i:Nat}{x:PyData}(h:(fF 0 (ts.map tlD))[i]? = some x):∃t,ts[i]? = some t/\x = .tuple [.int (i:Nat),tlD t]:=by
 have hi:i<ts.length:=by
  have:=(List.getElem?_eq_some_iff.mp h).1
  rw[iJ,length_map] at this
  exact this
 have e:=nL (xs:=ts.map tlD) (j:=0) (i:=i) (x:=tlD ts[i]) (by rw[getElem?_map,getElem?_eq_getElem hi];rfl)
 rw[h,zero_add] at e
 exact⟨ts[i],getElem?_eq_getElem hi,Option.some.inj e⟩
theorem CL(h:kh ds Z Qd):mO ‹Qd› (aP ["","","",""] ds) Z:=by
 obtain⟨d,w,h,ts,x,y,rfl,L,ox,oy,bx,by_,q⟩:=h
 have hd:=L.root
 have l60:=L.l60
 unfold mO
 walk_at "rb"
 refine⟨d,_,rfl,hd,L.lp,L.yes,?_⟩
 walk_at "rb"
 refine⟨_,rfl,IX,?_⟩
 rw[mi ox]
 walk_at "rb"
 refine⟨_,rfl,IX,?_⟩
 rw[mi oy]
 walk_at "rb"
 rw[Li]
 unfold gE
 walk_at "rb"
 refine⟨by rw[iJ,length_map];omega,fun p hp=>⟨fun i acc U=>acc=plc d x y 0 (ts.take i)/\U=aA Z p acc,⟨rfl,rfl⟩,?_,?_⟩⟩
 ·rintro i z acc U hz ha ⟨e0,e1⟩
  obtain⟨t,et,rfl⟩:=EW hz
  have ot:=L.ok t (mem_of_getElem? et)
  have bt:=L.bd t (mem_of_getElem? et)
  have st:=vJ (d:=d) (x:=x) (y:=y) (j:=0) et
  rw[zero_add] at st
  walk_at "rb"
  simp only[true_and,and_true]
  refine⟨d,t,x,y,rfl,⟨hd,ot,bt,ox,oy,bx,by_⟩,?_⟩
  walk_at "rb"
  cases c:sU d t x y with
  |true=>
   rw[if_pos rfl]
   rw[c,if_pos rfl] at st
   exact⟨ha,by rw[st,e0],by rw[e1,eN]⟩
  |false=>
   rw[if_neg ⋯]
   rw[c,if_neg ⋯,append_nil] at st
   exact⟨ha,by rw[st,e0],e1⟩
 ·rintro acc U ⟨e0,e1⟩ ha
  rw[iJ,length_map,take_length] at e0
  subst e0
  exact q p U hp (by rw[e1];exact eW.refl.set hp) ha
end
structure Sh(t:PyData):Prop where
 lay:t.canLay0=true
 dep:t.depth<=60
theorem Sh.shaped{t:PyData}(h:Sh t):SeqAt.shaped t=true:=by
 unfold SeqAt.shaped
 rw[h.lay,Bool.true_and,decide_eq_true_eq]
 have:=h.dep;omega
structure Lt(n:Nat)(t:PyData):Prop where
 lay:t.canLay0=true
 dep:t.depth<=n
theorem Lt.sh{n:Nat}{t:PyData}(h:Lt n t)(hn:n<=60):Sh t:=⟨h.lay,le_trans h.dep hn⟩
theorem E4{xs:List PyData}(h:∀x∈xs,x.canLay0=true):PyData.canLayAll0 xs=true:=by
 induction xs with
 |nil=>rfl
 |cons x r ih=>rw[PyData.canLayAll0,h x (by simp),ih (fun y hy=>h y (by simp[hy]))];rfl
theorem ya{xs:List PyData}{n:Nat}(h:∀x∈xs,x.depth<=n):PyData.depthAll xs<=n:=by
 induction xs with
 |nil=>exact zero_le _
 |cons x r ih=>
  rw[PyData.depthAll]
  have h1:=h x (by simp)
  have h2:=ih (fun y hy=>h y (by simp[hy]))
  omega
theorem Qw{xs:List PyData}{n:Nat}(h:∀x∈xs,Lt n x):Lt (n+1) (.tuple xs):=
 ⟨by rw[PyData.canLay0];exact E4 fun x hx=>(h x hx).lay,by rw[PyData.depth];have:=ya (n:=n) fun x hx=>(h x hx).dep;omega⟩
theorem Nn{xs:List PyData}{n:Nat}(h:∀x∈xs,Lt n x):Lt (n+1) (.list xs):=
 ⟨by rw[PyData.canLay0];exact E4 fun x hx=>(h x hx).lay,by rw[PyData.depth];have:=ya (n:=n) fun x hx=>(h x hx).dep;omega⟩
theorem lt_int{n:Nat}{i:Int}:Lt n (.int i):=⟨rfl,zero_le _⟩
noncomputable def jI:DTS:=
 (aO (bc (ai 2) (cM 3 (aH (aq 3) (aH (aq 4) (aH (aq 5) cY)))))
 (aO (bc (bq (ag (dC (.int 1)) (ag (dC (.int 0)) (ag (dC (.int 2)) ar)))) (aq 6))
 (aO (bc (sL (ag (bq (ag (bq (ag (dC (.int 0)) (ag (dC (.int 0)) (ag (dC (.int 1)) ar)))) (ag (bq (ag (dC (.int 0)) (ag (dC (.int 0)) (ag (dC (.int 1)) ar)))) ar))) (ag (bq (ag (ai 3) (ag (ai 4) ar))) (ag (bq (ag (ay en (ag (ai 3) (ag (ai 6) ar))) (ag (ai 4) ar))) (ag (bq (ag (ai 3) (ag (bq (ag (wa (dC (.int 1))) (ag (dC (.int 0)) (ag (dC (.int 3)) ar)))) ar))) ar))))) (aq 7))
 (aO (lK (CD (ai 7) (bq (ag (ay jW (ag (ai 0) ar)) (ag (ay jW (ag (ai 0) ar)) ar)))))
 (aO (qr (nB (ag (dC (.int 4)) ar)) (aq 8) (aO (bc (dOp aN (ai 5) (ay bE (ag (ai 0) (ag (dCB dX (ag (ai 5) ar)) ar)))) (cM 4 (aH (aq 9) (aH (aq 10) (aH (aq 11) (aH (aq 12) cY))))))
 (aO (bc (lS (ag (bq (ag (dC (.int 0)) (ag (dC (.int 0)) (ag (dC (.int 1)) ar)))) (ag (ai 6) (ag (bq (ag (dC (.int 1)) (ag (dC (.int 0)) (ag (dC (.int 1)) ar)))) (ag (bq (ag (dC (.int 1)) (ag (dC (.int 0)) (ag (dC (.int 3)) ar)))) ar))))) (aq 13))
 (aO (wR 14 15 (ag (dOp aN (ai 13) (ay bE (ag (ai 0) (ag (dC (.int 4)) ar)))) (ag (dOp aN (ai 13) (ay bE (ag (ai 0) (ag (dC (.int 4)) ar)))) ar)))
 (lK (CD (ai 7) (bq (ag (ay en (ag (ai 9) (ag (ay nS (ag (ai 1) (ag (ai 11) (ag (ai 14) ar)))) ar))) (ag (ay en (ag (ai 10) (ag (ay nS (ag (ai 1) (ag (ai 12) (ag (ai 15) ar)))) ar))) ar)))))))))
 (bp (ai 7)))))))
noncomputable def Em:DTS:=
 (aO (qr (nB (ag (dCB (A2 max) (ag (dC (.int 2)) (ag (dCB (A2 min) (ag (dC (.int 4)) (ag (dCB yt (ag (ai 0) ar)) ar))) ar))) ar)) (aq 1) (aO (bc (ay FZ (ag (ai 0) (ag (ai 1) ar))) (aq 2))
 (aO (bc (ay ui (ag (ai 2) ar)) (aq 3))
 (aO (bc (ay nW (ag (ai 2) (ag (ai 3) ar))) (aq 4))
 (aO (bc (ay zm (ag (ai 2) (ag (ai 3) (ag (ai 4) ar)))) (aq 5))
 (qr (gW (dOp yD (ai 5) (NY (ai 5)))) (cM 2 (aH (aq 6) (aH (aq 7) cY))) (aO (bc (iL [none,none,some 3,some 6,some 7] (uw (ag (dOp HD (ai 4) (dC (.int 2))) ar)) (cM 2 (aH (aq 0) (aH (aq 1) cY))) (dB (ay Ap (ag (ai 2) (ag (ai 1) (ag (ai 3) (ag (ai 4) ar)))))) (ai 0)) (aq 8))
 (aO (bc (ay kh (ag (ai 3) (ag (ai 4) (ag (ai 6) (ag (ai 7) ar))))) (aq 9))
 (aO (cV (kQ (fA (dB (Ia "list" (ai 9)))) (kQ (dB (dOp (Hy true) (ai 9) (ai 8))) (fA (dB (dCB x9 (ag (C6 [none] (diM (ai 9)) (aq 0) ny (ay ij (ag (ai 0) ar))) ar)))))) (bp (dC (.bool false))) bL)
 (aO (lK (CD (ai 9) (dC (.int 60))))
 (lK (HV (ai 9)))))))))))))
 (aO (bc (lS (ag (bq (ag (bq (ag (dC (.int 0)) (ag (dC (.int 0)) (ag (dC (.int 1)) ar)))) (ag (bq (ag (dC (.int 0)) (ag (dC (.int 0)) (ag (dC (.int 1)) ar)))) ar))) (ag (bq (ag (bq (ag (dC (.int 1)) (ag (dC (.int 0)) (ag (dC (.int 1)) ar)))) (ag (bq (ag (dC (.int 0)) (ag (dC (.int 0)) (ag (dC (.int 1)) ar)))) ar))) (ag (bq (ag (bq (ag (dC (.int 0)) (ag (dC (.int 0)) (ag (dC (.int 1)) ar)))) (ag (bq (ag (dC (.int 1)) (ag (dC (.int 0)) (ag (dC (.int 1)) ar)))) ar))) (ag (bq (ag (bq (ag (dC (.int 1)) (ag (dC (.int 0)) (ag (dC (.int 1)) ar)))) (ag (bq (ag (dC (.int 1)) (ag (dC (.int 0)) (ag (dC (.int 1)) ar)))) ar))) ar))))) (aq 10))
 (aO (bc (bq (ag (bq (ag (dC (.int 2)) (ag (dC (.int 0)) (ag (dC (.int 1)) ar)))) (ag (bq (ag (dC (.int 2)) (ag (dC (.int 0)) (ag (dC (.int 1)) ar)))) (ag (dCB k0 (ag (C6 [none] (gW (ai 10)) (aq 0) ny (dOp CY (ai 0) (bq (ag (bq (ag (dC (.int 1)) (ag (dC (.int 0)) (ag (dC (.int 1)) ar)))) (ag (bq (ag (dC (.int 1)) (ag (dC (.int 0)) (ag (dC (.int 1)) ar)))) ar))))) ar)) ar)))) (aq 11))
 (bp (dOp (Hy false) (ay kh (ag (dC (.int 3)) (ag (ai 11) (ag (bq (ag (dC (.int 1)) (ag (dC (.int 0)) (ag (dC (.int 1)) ar)))) (ag (bq (ag (dC (.int 1)) (ag (dC (.int 0)) (ag (dC (.int 1)) ar)))) ar))))) (lS (ag (dC (.int 0)) (ag (dC (.int 1)) (ag (dC (.int 2)) (ag (dC (.int 3)) ar))))))))))
section
variable {Z:Mu}{Qd:DK}{ds:List D}
theorem Lb{Z:Mu}{d:D}{Q:DK}{a b c f g h k l m n n11 n12 n13 n14 n15}{o:Rho}:ai 15 (a::b::c::f::g::h::k::l::m::n::n11::n12::n13::n14::n15::some d::o) Z Q=Q d Z:=propext Iff.rfl
theorem NZ{ts:List Tl}{z:PyData}(h:z∈ts.map tlD):∃t∈ts,z=tlD t:=by
 obtain⟨t,ht,rfl⟩:=List.mem_map.mp h
 exact⟨t,ht,rfl⟩
theorem Pd{ts:List Tl}{r:Int}(r0:0<=r)(r1:r<((ts.map tlD).length:Nat)):∃t∈ts,atI (ts.map tlD) r=some (.tuple [dN t.x,dN t.y,dN t.w,dN t.h]):=by
 obtain⟨v,e,hm⟩:=kO r0 r1
 obtain⟨t,ht,rfl⟩:=NZ hm
 exact⟨t,ht,e⟩
theorem Fc{r:Int}(r0:0<=r)(r1:r<4):∃x:N3,atI [dN ⟨0,0,1⟩,dN ⟨1,0,2⟩,dN ⟨1,0,1⟩,dN ⟨1,0,3⟩] r=some (dN x)/\Ok x/\Bd 2 x:=by
 obtain⟨v,e,hm⟩:=kO (xs:=[dN ⟨0,0,1⟩,dN ⟨1,0,2⟩,dN ⟨1,0,1⟩,dN ⟨1,0,3⟩]) r0 (by exact r1)
 simp only[mem_cons,not_mem_nil,or_false] at hm
 rcases hm with rfl|rfl|rfl|rfl
 ·exact⟨_,e,⟨⋯,⋯⟩,⟨Sz.of ⋯,Sz.of ⋯,Sz.of ⋯⟩⟩
 ·exact⟨_,e,⟨⋯,⋯⟩,⟨Sz.of ⋯,Sz.of ⋯,Sz.of ⋯⟩⟩
 ·exact⟨_,e,⟨⋯,⋯⟩,⟨Sz.of ⋯,Sz.of ⋯,Sz.of ⋯⟩⟩
 ·exact⟨_,e,⟨⋯,⋯⟩,⟨Sz.of ⋯,Sz.of ⋯,Sz.of ⋯⟩⟩
theorem xV(h:vc ds Z Qd):jI ‹Qd› (aP ["","","","","","","","","","","","","","","",""] ds) Z:=by
 obtain⟨a,d,w,h,ts,rfl,hd,v,hb,q⟩:=h
 have l1:=v.l1
 have l60:=v.l60
 have lm:(ts.map tlD).length=ts.length:=length_map _
 have s5:=KY hd.1 hd.2.1
 unfold jI gE
 walk_at "rb"
 have oh:Ok ⟨1,0,2⟩:=⟨⋯,⋯⟩
 have bh:Bd 2 ⟨1,0,2⟩:=⟨Sz.of ⋯,Sz.of ⋯,Sz.of ⋯⟩
 refine⟨trivial,w,⟨1,0,2⟩,rfl,v.ow,oh,v.bw.mono ⋯,bh.mono ⋯,?_⟩
 have ow2:=cA v.ow oh
 have bw2:Bd 4300 (plus w ⟨1,0,2⟩):=(gB v.ow oh v.bw bh).mono ⋯
 generalize plus w ⟨1,0,2⟩=w2 at ow2 bw2
 walk_at "rb"
 intro f hf
 have af:=u7 hb hf
 refine⟨a,rfl,hb.off af,fun n1 ad on1 bn1 s1=>?_⟩
 walk_at "rb"
 refine⟨a,rfl,s1.1,fun n2 am on2 bn2 s2=>?_⟩
 have s12:=s1.trans s2
 walk_at "rb"
 rw[s12.2 f af.symm,aD]
 walk_at "rb"
 refine⟨⋯,?_⟩
 rw[lJ]
 walk_at "rb"
 have hb2:=s2.1
 refine⟨⋯,fun i ρ U=>∃r8 r9 r10 r11 r12 r13 r14 r15 ps,ρ=[some (.m a),some (.v (.int d)),some (.v (.tuple [dN w,dN h,.tuple (ts.map tlD)])),some (.v (dN w)),some (.v (dN h)),some (.v (.tuple (ts.map tlD))),some (.v (dN ⟨1,0,2⟩)),some (.m f),r8,r9,r10,r11,r12,r13,r14,r15]/\Bag U a/\(∀b,b≠a->∀es,Z b=some es->U b=some es)/\U f=some (ps.map pairD)/\(∀p∈ps,DV p)/\ps.length<=5+i,
  ⟨_,_,_,_,_,_,_,_,[(⟨0,0,1⟩,⟨0,0,1⟩),(w,h),(w2,h),(w,⟨-1,0,3⟩),(n1,n2)],rfl,s2.1.off af,fun b nb es eb=>?_,by rw[aD];rfl,fun p hp=>?_,le_refl 5⟩,?_,?_⟩
 ·have bf:b≠f:=fun z=>by rw[z,hf] at eb;cases eb
  rw[aQ bf,s12.2 b nb,aQ bf]
  exact eb
 ·have sm:∀{a b c:Int},a.natAbs<4->b.natAbs<4->c.natAbs<4->Bd 4300 ⟨a,b,c⟩:=fun {a b c} ha hb hc=>(show Bd 2 ⟨a,b,c⟩ from ⟨Sz.of ha,Sz.of hb,Sz.of hc⟩).mono ⋯
  simp only[mem_cons,not_mem_nil,or_false] at hp
  rcases hp with rfl|rfl|rfl|rfl|rfl
  ·exact⟨⟨⋯,⋯⟩,sm ⋯ ⋯ ⋯,⟨⋯,⋯⟩,sm ⋯ ⋯ ⋯⟩
  ·exact⟨v.ow,v.bw.mono ⋯,v.oh,v.bh.mono ⋯⟩
  ·exact⟨ow2,bw2,v.oh,v.bh.mono ⋯⟩
  ·exact⟨v.ow,v.bw.mono ⋯,show Ok (⟨-1,0,3⟩:N3) from ⟨⋯,⋯⟩,sm ⋯ ⋯ ⋯⟩
  ·exact⟨on1,bn1.mono ⋯,on2,bn2.mono ⋯⟩
 ·rintro i x ρ be hx ⟨r8,r9,r10,r11,r12,r13,r14,r15,ps,rfl,hb3,kp,hf3,gp,lp⟩
  obtain⟨rfl,hi⟩:=uU hx
  walk_at "rb"
  refine⟨a,_,rfl,∅,∅,hb3,fun i ci i0 i1 s4=>?_⟩
  obtain⟨t,ht,et⟩:=Pd i0 i1
  have bt:=v.bd t ht
  have ot:=v.ok t ht
  walk_at "rb"
  rw[et]
  walk_at "rb"
  refine⟨trivial,a,4,rfl,⋯,⋯,s4.1,fun u1 io u10 u11 s5'=>?_⟩
  obtain⟨p1,e1,o1,b1⟩:=Fc u10 u11
  walk_at "rb"
  rw[e1]
  walk_at "rb"
  refine⟨a,4,rfl,⋯,⋯,s5'.1,fun u2 nw u20 u21 s6=>?_⟩
  obtain⟨p2,e2,o2,b2⟩:=Fc u20 u21
  walk_at "rb"
  rw[e2]
  walk_at "rb"
  refine⟨d,t.w,p1,rfl,s5,ot.w,o1,bt.w.mono ⋯,b1.mono ⋯,?_⟩
  walk_at "rb"
  have bt1:=Df s5 ot.w o1 bt.w b1
  have ot1:=CN (d:=d) ot.w o1
  refine⟨t.x,times d t.w p1,rfl,ot.x,ot1,bt.x.mono ⋯,bt1.mono ⋯,?_⟩
  walk_at "rb"
  simp only[Lb]
  refine⟨d,t.h,p2,rfl,s5,ot.h,o2,bt.h.mono ⋯,b2.mono ⋯,?_⟩
  have bt2:=Df s5 ot.h o2 bt.h b2
  have ot2:=CN (d:=d) ot.h o2
  walk_at "rb"
  refine⟨t.y,times d t.h p2,rfl,ot.y,ot2,bt.y.mono ⋯,bt2.mono ⋯,?_⟩
  have s46:=(s4.trans s5').trans s6
  walk_at "rb"
  rw[s46.2 f af.symm,hf3]
  dsimp only
  refine⟨by rw[length_map];omega,_,_,_,_,_,_,_,_,ps++[(plus t.x (times d t.w p1),plus t.y (times d t.h p2))],rfl,s46.1.off af,fun b nb es eb=>?_,by rw[aD,map_append];rfl,fun p hp=>?_,by rw[length_append];simp only[length_cons,length_nil];omega⟩
  ·have bf:b≠f:=fun z=>by rw[z,hf] at eb;cases eb
   rw[aQ bf,s46.2 b nb]
   exact kp b nb es eb
  ·rcases List.mem_append.mp hp with z|z
   ·exact gp p z
   ·rw[List.mem_singleton.mp z]
    exact⟨cA ot.x ot1,(gB ot.x ot1 bt.x bt1).mono ⋯,cA ot.y ot2,(gB ot.y ot2 bt.y bt2).mono ⋯⟩
 ·rintro ρ be ⟨r8,r9,r10,r11,r12,r13,r14,r15,ps,rfl,hb3,kp,hf3,gp,lp⟩
  have lp':ps.length<=9:=lp
  walk_at "rb"
  exact q f ps be hf gp ∅ hf3 ⟨hb3,kp⟩
theorem o6{d:Int}{x y:N3}:∀(ts:List Tl) (j:Nat),∀z∈plc d x y j ts,∃i:Int,z = .int i
 |[],j,z,h=>absurd h not_mem_nil
 |t::ts,j,z,h=>by
  unfold plc at h
  split at h
  ·rcases List.mem_cons.mp h with rfl|h
   ·exact⟨_,rfl⟩
   ·exact o6 ts (j+1) z h
  ·exact o6 ts (j+1) z h
theorem Gv{d:Int}{x y:N3}:∀(ts:List Tl) (j:Nat),(plc d x y j ts).length<=ts.length
 |[],j=>le_refl _
 |t::ts,j=>by
  unfold plc
  have:=Gv (d:=d) (x:=x) (y:=y) ts (j+1)
  split
  ·simp only[length_cons];omega
  ·simp only[length_cons];omega
theorem Ag{xs:List PyData}(h:∀z∈xs,∃i:Int,z = .int i):SeqAt.shaped (.list xs)=true:=
 ((Nn (n:=0) fun x hx=>by obtain⟨i,rfl⟩:=h x hx;exact lt_int).sh ⋯).shaped
theorem Jh{xs:List PyData}(h:∀z∈xs,∃i:Int,z = .int i):PyData.eqv (.list xs) (.list xs)=true:=SeqAt.eqv_refl _ (SeqAt.canLay_of_shaped (Ag h))
theorem MC:Drawn 3 (gE ⟨2,0,1⟩ ⟨2,0,1⟩ [⟨⟨0,0,1⟩,⟨0,0,1⟩,⟨1,0,1⟩,⟨1,0,1⟩⟩,⟨⟨1,0,1⟩,⟨0,0,1⟩,⟨1,0,1⟩,⟨1,0,1⟩⟩,⟨⟨0,0,1⟩,⟨1,0,1⟩,⟨1,0,1⟩,⟨1,0,1⟩⟩,⟨⟨1,0,1⟩,⟨1,0,1⟩,⟨1,0,1⟩,⟨1,0,1⟩⟩]):=by
 have f2:fX 3 [aC,one,⟨2,0,1⟩] 2:=⟨rfl,List.pairwise_cons.mpr ⟨fun x hx=>by
  simp only[mem_cons,not_mem_nil,or_false] at hx
  rcases hx with rfl|rfl<;>decide,List.pairwise_cons.mpr ⟨fun x hx=>by rw[List.mem_singleton.mp hx];decide,List.pairwise_singleton _ _⟩⟩,fun x hx=>by
  simp only[mem_cons,not_mem_nil,or_false] at hx
  rcases hx with rfl|rfl|rfl
  ·exact yr
  ·exact Nb
  ·exact⟨⋯,⋯⟩,rfl⟩
 have b1:∀x∈[aC,one,⟨2,0,1⟩],Six 3600 x:=fun x hx=>by
  simp only[mem_cons,not_mem_nil,or_false] at hx
  rcases hx with rfl|rfl|rfl
  ·exact⟨0,0,⟨⋯,rfl,rfl⟩,⋯,⋯⟩
  ·exact⟨6,0,⟨⋯,rfl,rfl⟩,⋯,⋯⟩
  ·exact⟨12,0,⟨⋯,rfl,rfl⟩,⋯,⋯⟩
 have e1:less one aC=one:=by decide
 have e2:less ⟨2,0,1⟩ one=one:=by decide
 refine⟨[aC,one,⟨2,0,1⟩],[aC,one,⟨2,0,1⟩],2,2,[⟨0,1,0,1⟩,⟨1,2,0,1⟩,⟨0,1,1,2⟩,⟨1,2,1,2⟩],⟨f2,f2,⋯,⋯,⋯,⋯,⋯,b1,b1,rf ⋯ ⋯⟩,?_⟩
 show _=gE ⟨2,0,1⟩ ⟨2,0,1⟩ [⟨aC,aC,less one aC,less one aC⟩,⟨one,aC,less ⟨2,0,1⟩ one,less one aC⟩,⟨aC,one,less one aC,less ⟨2,0,1⟩ one⟩,⟨one,one,less ⟨2,0,1⟩ one,less ⟨2,0,1⟩ one⟩]
 rw[e1,e2]
 rfl
theorem Gm{d:Int}(hd:aL d){w h:N3}{ts:List Tl}(dr:Drawn d (gE w h ts)):OR d w h ts/\DH 0 13 w h ts:=by
 have lv:DH 0 13 w h ts:=by
  obtain⟨xs,ys,C,R,qs,g,e⟩:=dr
  obtain⟨rfl,rfl,rfl⟩:=BQ e
  exact (g.v hd).1
 exact⟨⟨hd,(lv.q ⋯).p ⋯ ⋯,fun b lb=>dr.yes hd lb,lv.ok,fun t ht=>⟨(lv.bd t ht).x.mono ⋯,(lv.bd t ht).y.mono ⋯,(lv.bd t ht).w.mono ⋯,(lv.bd t ht).h.mono ⋯⟩,lv.l60⟩,lv⟩
theorem O3:aL 3:=⟨⋯,⋯,⋯,⋯,⋯,⋯⟩
theorem N2(h:wq ds Z Qd):Em ‹Qd› (aP ["","","","","","","","","","","",""] ds) Z:=by
 obtain⟨ns,rfl,h63,q⟩:=h
 unfold Em
 walk_at "rb"
 rw[lJ]
 walk_at "rb"
 have hm:(-(2 ^ 62)<=max 2 (min 4 ((ns.length:Nat):Int))/\max 2 (min 4 ((ns.length:Nat):Int))<2 ^ 62):=by omega
 refine⟨hm,fun i ρ U=>∃r1 r2 r3 r4 r5 r6 r7 r8 r9,ρ=[some (.s ns),r1,r2,r3,r4,r5,r6,r7,r8,r9,none,none],⟨_,_,_,_,_,_,_,_,_,rfl⟩,?_,?_⟩
 ·rintro i x ρ wP hx ⟨r1,r2,r3,r4,r5,r6,r7,r8,r9,rfl⟩
  obtain⟨rfl,hi⟩:=uU hx
  walk_at "rb"
  refine⟨ns,_,rfl,∅,∅,fun a ad ha s1=>?_⟩
  walk_at "rb"
  refine⟨a,rfl,s1.1,fun d am hd s2=>?_⟩
  walk_at "rb"
  refine⟨a,d,rfl,hd,s2.1,fun t ci dr s4=>?_⟩
  obtain⟨w,h,ts,rfl⟩:∃w h ts,t=gE w h ts:=by
   obtain⟨xs,ys,C,R,qs,g,rfl⟩:=dr
   exact⟨_,_,_,rfl⟩
  obtain⟨L,lv⟩:=Gm hd dr
  have l60:=L.l60
  walk_at "rb"
  refine⟨a,d,w,h,ts,rfl,hd,lv,s4.1,fun ps io gp lp s5=>?_⟩
  walk_at "rb"
  rw[lJ]
  walk_at "rb"
  refine⟨by rw[List.length_reverse,length_map];omega,fun i ρ U=>∃r1 r6 r7 r8 r9,ρ=[some (.s ns),r1,some (.m a),some (.v (.int d)),some (.v (gE w h ts)),some (.v (.list (ps.map pairD))),r6,r7,r8,r9,none,none],⟨_,_,_,_,_,rfl⟩,?_,?_⟩
  ·rintro j x ρ nw hx6 ⟨r1,r6,r7,r8,r9,rfl⟩
   obtain⟨p,hp,rfl⟩:∃p∈ps,x=pairD p:=by
    have:=mem_of_getElem? hx6
    rcases List.mem_append.mp this with z|z
    ·obtain⟨p,hp,rfl⟩:=List.mem_map.mp z
     exact⟨p,hp,rfl⟩
    ·obtain⟨p,hp,rfl⟩:=List.mem_map.mp (List.mem_reverse.mp z)
     exact⟨p,hp,rfl⟩
   obtain⟨ox,bx,oy,by_⟩:=gp p hp
   rw[show pairD p = .tuple [dN p.1,dN p.2] from rfl]
   walk_at "rb"
   refine⟨trivial,?_⟩
   rw[kX]
   rw[show gE w h ts = .tuple [dN w,dN h,.tuple (ts.map tlD)] from rfl]
   walk_at "rb"
   refine⟨by rw[iJ,length_map];omega,fun c hc=>⟨fun i acc U=>acc=plc d p.1 p.2 0 (ts.take i)/\U=aA nw c acc,⟨rfl,rfl⟩,?_,?_⟩⟩
   ·rintro i z acc U hz ha ⟨e0,e1⟩
    obtain⟨t,et,rfl⟩:=EW hz
    have ot:=L.ok t (mem_of_getElem? et)
    have bt:=L.bd t (mem_of_getElem? et)
    have st:=vJ (d:=d) (x:=p.1) (y:=p.2) (j:=0) et
    rw[zero_add] at st
    walk_at "rb"
    simp only[true_and,and_true]
    refine⟨d,t,p.1,p.2,rfl,⟨hd,ot,bt,ox,oy,bx,by_⟩,?_⟩
    walk_at "rb"
    cases c:sU d t p.1 p.2 with
    |true=>
     rw[if_pos rfl]
     rw[c,if_pos rfl] at st
     exact⟨ha,by rw[st,e0],by rw[e1,eN]⟩
    |false=>
     rw[if_neg ⋯]
     rw[c,if_neg ⋯,append_nil] at st
     exact⟨ha,by rw[st,e0],e1⟩
   ·rintro acc U ⟨e0,e1⟩ ha
    rw[iJ,length_map,take_length] at e0
    subst e0
    rw[e1,nV hc]
    have sh:=o6 (d:=d) (x:=p.1) (y:=p.2) ts 0
    have lpc:=Gv (d:=d) (x:=p.1) (y:=p.2) ts 0
    refine⟨d,w,h,ts,p.1,p.2,rfl,L,ox,oy,bx,by_,fun g ls hg sb hg7=>?_⟩
    walk_at "rb"
    rw[dj ⋯]
    walk_at "rb"
    refine⟨_,hg7,Ag sh,Ag sh,?_⟩
    rw[Jh sh]
    walk_at "rb"
    rw[Au,Qo]
    walk_at "rb"
    refine⟨_,hg7,∅,fun x=>some (.bool true),?_,?_⟩
    ·intro x hx U _
     obtain⟨i,rfl⟩:=sh x hx
     walk_at "rb"
     simp only[true_and,and_true,↓reduceIte]
     exact⟨_,rfl,rfl,rfl⟩
    rw[rh (f:=fun _=>true)]
    dsimp only
    rw[dj (by simp)]
    walk_at "rb"
    rw[hg7]
    walk_at "rb"
    rw[aD]
    refine⟨∅,?_⟩
    exact⟨_,_,_,_,_,rfl⟩
  ·rintro ρ U ⟨r1,r6,r7,r8,r9,rfl⟩
   exact⟨_,_,_,_,_,_,_,_,_,rfl⟩
 ·rintro ρ U ⟨r1,r2,r3,r4,r5,r6,r7,r8,r9,rfl⟩
  walk_at "rb"
  rw[Au]
  walk_at "rb"
  refine⟨⋯,fun x=>match x with|.tuple [a,b]=>some (.tuple [a,b,dN ⟨1,0,1⟩,dN ⟨1,0,1⟩])|_=>none,?_,?_⟩
  ·intro x hx U _
   simp only[mem_cons,not_mem_nil,or_false] at hx
   rcases hx with rfl|rfl|rfl|rfl<;>(walk_at "rb";simp only[true_and,and_true,↓reduceIte];exact (by decide:(4:Nat)<=1000))
  have o1:Ok ⟨1,0,1⟩:=⟨⋯,⋯⟩
  have b1:Bd 4300 ⟨1,0,1⟩:=(show Bd 2 ⟨1,0,1⟩ from ⟨Sz.of ⋯,Sz.of ⋯,Sz.of ⋯⟩).mono ⋯
  have ep:plc 3 ⟨1,0,1⟩ ⟨1,0,1⟩ 0 [⟨⟨0,0,1⟩,⟨0,0,1⟩,⟨1,0,1⟩,⟨1,0,1⟩⟩,⟨⟨1,0,1⟩,⟨0,0,1⟩,⟨1,0,1⟩,⟨1,0,1⟩⟩,⟨⟨0,0,1⟩,⟨1,0,1⟩,⟨1,0,1⟩,⟨1,0,1⟩⟩,⟨⟨1,0,1⟩,⟨1,0,1⟩,⟨1,0,1⟩,⟨1,0,1⟩⟩]=[.int 0,.int 1,.int 2,.int 3]:=by
   have hb:∀t∈([⟨⟨0,0,1⟩,⟨0,0,1⟩,⟨1,0,1⟩,⟨1,0,1⟩⟩,⟨⟨1,0,1⟩,⟨0,0,1⟩,⟨1,0,1⟩,⟨1,0,1⟩⟩,⟨⟨0,0,1⟩,⟨1,0,1⟩,⟨1,0,1⟩,⟨1,0,1⟩⟩,⟨⟨1,0,1⟩,⟨1,0,1⟩,⟨1,0,1⟩,⟨1,0,1⟩⟩]:List Tl),sU 3 t ⟨1,0,1⟩ ⟨1,0,1⟩=true:=fun t ht=>by
    simp only[mem_cons,not_mem_nil,or_false] at ht
    rcases ht with rfl|rfl|rfl|rfl<;>decide
   unfold plc
   rw[if_pos (hb _ (by simp))]
   unfold plc
   rw[if_pos (hb _ (by simp))]
   unfold plc
   rw[if_pos (hb _ (by simp))]
   unfold plc
   rw[if_pos (hb _ (by simp))]
   rfl
  refine⟨3,⟨2,0,1⟩,⟨2,0,1⟩,_,⟨1,0,1⟩,⟨1,0,1⟩,rfl,(Gm O3 MC).1,o1,o1,b1,b1,fun p ad hp sb hp1=>?_⟩
  rw[ep] at hp1
  walk_at "rb"
  refine⟨_,hp1,nofun,nofun,?_⟩
  have:PyData.eqv (.list [.int 0,.int 1,.int 2,.int 3]) (.list [.int 0,.int 1,.int 2,.int 3])=true:=nofun
  rw[this]
  exact q _
end
end L2.DL
namespace K10
open PySem L2 L2.DL
local macro_rules|`(tactic| walk_at "cl")=>`(tactic| (intro _ _ h;first|exact h|exact cl1 h|exact cl2 nofun h|exact cl3 nofun h|exact p7 (fE rfl BX) _ _ h|exact p7 (fE rfl (fE rfl BX)) _ _ h|exact p7 (fE rfl (fE rfl (fE rfl BX))) _ _ h|exact p7 (fE rfl (fE rfl (fE rfl (fE rfl BX)))) _ _ h|exact p7 (fE rfl (fE rfl (fE rfl (fE rfl (fE rfl BX))))) _ _ h|exact p7 (fE rfl (fE rfl (fE rfl (fE rfl (fE rfl (fE rfl BX)))))) _ _ h|exact p7 (fE rfl (fE rfl (fE rfl (fE rfl (fE rfl (fE rfl (fE rfl BX))))))) _ _ h|exact p7 BX _ _ h|cases h))
set_option genInjectivity false in
structure Adr where
 kZ:Addr
 oT:FuncData
 dG:Addr
 fZ:FuncData
 jw:Addr
 md:FuncData
 dM:Addr
 fM:FuncData
 qy:Addr
 wt:FuncData
 zF:Addr
 Ea:FuncData
 nJ:Addr
 rq:FuncData
 d0:Addr
 gP:FuncData
 lG:Addr
 o8:FuncData
 dc:Addr
 fw:FuncData
 nK:Addr
 rF:FuncData
 lC:Addr
 oW:FuncData
 jh:Addr
 nk:FuncData
 gA:Addr
 jR:FuncData
 eZ:Addr
 iV:FuncData
 fj:Addr
 iX:FuncData
 gk:Addr
 jz:FuncData
 ja:Addr
 mE:FuncData
 dH:Addr
 fT:FuncData
 ir:Addr
 kY:FuncData
 kK:Addr
 oS:FuncData
 lz:Addr
 oK:FuncData
 ju:Addr
 mQ:FuncData
 jd:Addr
 mz:FuncData
 gc:Addr
 jK:FuncData
 dZ:Addr
 gU:FuncData
 iu:Addr
 kG:FuncData
 jc:Addr
 nD:FuncData
 jn:Addr
 mV:FuncData
 kz:Addr
 oR:FuncData
 gz:Addr
 jN:FuncData
 hE:Addr
 kS:FuncData
 jr:Addr
 mN:FuncData
 jj:Addr
 mM:FuncData
 ic:Addr
 k5:FuncData
 g8:Addr
 k8:FuncData
 jo:Addr
 ng:FuncData
 df:Addr
 eU:FuncData
 gn:Addr
 jJ:FuncData
 jl:Addr
 mC:FuncData
 ip:Addr
 kC:FuncData
 gj:Addr
 jE:FuncData
 hX:Addr
 lF:FuncData
 g9:Addr
 kr:FuncData
 ie:Addr
 kN:FuncData
 d6:Addr
 gN:FuncData
 EV:Addr
 Io:FuncData
 xp:Tok
 GY:Addr
structure Txt(K:PySem.W.Frag)(mg:Str->Option Value)(t:Adr):Prop where
 Eb:Fun K "is_whole" "is_whole" fS t.kZ t.oT
 oI:mg "is_whole"=some (.ref t.kZ)
 oM:keepIn K (.ref t.kZ)=true
 pj:Binds K t.oT ["thing"] []
 rS:Fun K "common_divisor" "common_divisor" bV t.dG t.fZ
 jZ:mg "common_divisor"=some (.ref t.dG)
 kg:keepIn K (.ref t.dG)=true
 ki:Binds K t.fZ ["a","b"] []
 BJ:Fun K "is_number" "is_number" eI t.jw t.md
 gI:mg "is_number"=some (.ref t.jw)
 gD:keepIn K (.ref t.jw)=true
 gJ:Binds K t.md ["thing"] []
 rm:Fun K "divisor_of_all" "divisor_of_all" bW t.dM t.fM
 jV:mg "divisor_of_all"=some (.ref t.dM)
 jX:keepIn K (.ref t.dM)=true
 ka:Binds K t.fM ["a","b","c"] []
 HZ:Fun K "number" "number" j4 t.qy t.wt
 Iv:mg "number"=some (.ref t.qy)
 Ke:keepIn K (.ref t.qy)=true
 J2:Binds K t.wt ["a","b","c"] []
 MU:Fun K "plus" "plus" rp t.zF t.Ea
 Jt:mg "plus"=some (.ref t.zF)
 Jo:keepIn K (.ref t.zF)=true
 Kd:Binds K t.Ea ["x","y"] []
 GJ:Fun K "sign_of" "sign_of" iA t.nJ t.rq
 rW:mg "sign_of"=some (.ref t.nJ)
 rZ:keepIn K (.ref t.nJ)=true
 rD:Binds K t.rq ["d","x"] []
 tR:Fun K "sign_of_parts" "sign_of_parts" cm t.d0 t.gP
 lQ:mg "sign_of_parts"=some (.ref t.d0)
 lO:keepIn K (.ref t.d0)=true
 lI:Binds K t.gP ["d","a","b"] []
 Eo:Fun K "is_above" "is_above" fI t.lG t.o8
 iT:mg "is_above"=some (.ref t.lG)
 iP:keepIn K (.ref t.lG)=true
 iS:Binds K t.o8 ["d","x","y"] []
 qo:Fun K "is_above_nought" "is_above_nought" bN t.dc t.fw
 da:mg "is_above_nought"=some (.ref t.dc)
 dh:keepIn K (.ref t.dc)=true
 dg:Binds K t.fw ["d","thing"] []
 Hl:Fun K "is_tile" "is_tile" ix t.nK t.rF
 HI:mg "is_tile"=some (.ref t.nK)
 HS:keepIn K (.ref t.nK)=true
 GO:Binds K t.rF ["d","thing"] []
 Ek:Fun K "has_form" "has_form" fW t.lC t.oW
 Eu:mg "has_form"=some (.ref t.lC)
 DN:keepIn K (.ref t.lC)=true
 EO:Binds K t.oW ["d","thing"] []
 Cv:Fun K "bounds_of" "bounds_of" eK t.jh t.nk
 tm:mg "bounds_of"=some (.ref t.jh)
 sD:keepIn K (.ref t.jh)=true
 sP:Binds K t.nk ["tile"] []
 xf:Fun K "place_among" "place_among" cQ t.gA t.jR
 wG:mg "place_among"=some (.ref t.gA)
 xA:keepIn K (.ref t.gA)=true
 xS:Binds K t.jR ["d","marks","x"] []
 wA:Fun K "rising_marks" "rising_marks" cD t.eZ t.iV
 mZ:mg "rising_marks"=some (.ref t.eZ)
 mB:keepIn K (.ref t.eZ)=true
 nh:Binds K t.iV ["d","found"] []
 vS:Fun K "reaches_just" "reaches_just" cC t.fj t.iX
 mP:mg "reaches_just"=some (.ref t.fj)
 nt:keepIn K (.ref t.fj)=true
 mR:Binds K t.iX ["marks","end"] []
 wY:Fun K "covers_once" "covers_once" cR t.gk t.jz
 xH:mg "covers_once"=some (.ref t.gk)
 wN:keepIn K (.ref t.gk)=true
 xg:Binds K t.jz ["bounds","across","upward"] []
 Cy:Fun K "is_laying" "is_laying" eB t.ja t.mE
 Di:mg "is_laying"=some (.ref t.ja)
 Cp:keepIn K (.ref t.ja)=true
 BF:Binds K t.mE ["d","thing"] []
 qZ:Fun K "must_be_laying" "must_be_laying" bU t.dH t.fT
 rH:mg "must_be_laying"=some (.ref t.dH)
 rE:keepIn K (.ref t.dH)=true
 rX:Binds K t.fT ["d","thing"] []
 AV:Fun K "holds_spot" "holds_spot" dq t.ir t.kY
 y9:mg "holds_spot"=some (.ref t.ir)
 A9:keepIn K (.ref t.ir)=true
 A1:Binds K t.kY ["d","tile","x","y"] []
 Ed:Fun K "tiles_at" "tiles_at" fV t.kK t.oS
 vb:mg "tiles_at"=some (.ref t.kK)
 uR:keepIn K (.ref t.kK)=true
 uT:Binds K t.oS ["d","laying","x","y"] []
 DX:Fun K "_law_bag" "_law_bag" fO t.lz t.oK
 DF:mg "_law_bag"=some (.ref t.lz)
 D0:keepIn K (.ref t.lz)=true
 DB:Binds K t.oK ["_law_script","_law_at"] []
 Dl:Fun K "_law_root" "_law_root" eC t.ju t.mQ
 Ck:mg "_law_root"=some (.ref t.ju)
 Ci:keepIn K (.ref t.ju)=true
 Dg:Binds K t.mQ ["_law_bag_here"] []
 CP:Fun K "_law_take" "_law_take" eM t.jd t.mz
 aF:mg "_law_take"=some (.ref t.jd)
 aE:keepIn K (.ref t.jd)=true
 aG:Binds K t.mz ["_law_bag_here","_law_many"] []
 xo:Fun K "_law_laying" "_law_laying" cS t.gc t.jK
 xU:mg "_law_laying"=some (.ref t.gc)
 xX:keepIn K (.ref t.gc)=true
 xc:Binds K t.jK ["_law_bag_here","_law_d"] []
 tZ:Fun K "_law_pinwheel" "_law_pinwheel" cj t.dZ t.gU
 tX:mg "_law_pinwheel"=some (.ref t.dZ)
 tW:keepIn K (.ref t.dZ)=true
 tQ:Binds K t.gU ["_law_bag_here"] []
 Ba:Fun K "_law_floor" "_law_floor" dy t.iu t.kG
 pE:mg "_law_floor"=some (.ref t.iu)
 qh:keepIn K (.ref t.iu)=true
 pB:Binds K t.kG ["_law_bag_here","_law_d","_law_columns","_law_rows","_law_blocks_here"] []
 Bu:Fun K "_law_ends" "_law_ends" eJ t.jc t.nD
 sE:mg "_law_ends"=some (.ref t.jc)
 sY:keepIn K (.ref t.jc)=true
 sX:Binds K t.nD ["_law_sides_here"] []
 CT:Fun K "_law_plus" "_law_plus" eO t.jn t.mV
 cH:mg "_law_plus"=some (.ref t.jn)
 cG:keepIn K (.ref t.jn)=true
 cF:Binds K t.mV ["_law_x","_law_y"] []
 Ep:Fun K "_law_low" "_law_low" fY t.kz t.oR
 iM:mg "_law_low"=some (.ref t.kz)
 i5:keepIn K (.ref t.kz)=true
 i4:Binds K t.oR ["_law_a","_law_b","_law_c"] []
 wF:Fun K "_law_shared" "_law_shared" cN t.gz t.jN
 n6:mg "_law_shared"=some (.ref t.gz)
 oj:keepIn K (.ref t.gz)=true
 oo:Binds K t.jN ["_law_one","_law_other"] []
 Br:Fun K "_law_sides" "_law_sides" dJ t.hE t.kS
 pQ:mg "_law_sides"=some (.ref t.hE)
 qm:keepIn K (.ref t.hE)=true
 pT:Binds K t.kS ["_law_bag_here","_law_d","_law_many"] []
 BV:Fun K "_law_side" "_law_side" eu t.jr t.mN
 sV:mg "_law_side"=some (.ref t.jr)
 tp:keepIn K (.ref t.jr)=true
 tD:Binds K t.mN ["_law_bag_here","_law_d","_law_way"] []
 Dr:Fun K "_law_sign" "_law_sign" eG t.jj t.mM
 sO:mg "_law_sign"=some (.ref t.jj)
 sZ:keepIn K (.ref t.jj)=true
 sW:Binds K t.mM ["_law_d","_law_x"] []
 zg:Fun K "_law_minus" "_law_minus" dw t.ic t.k5
 kP:mg "_law_minus"=some (.ref t.ic)
 k7:keepIn K (.ref t.ic)=true
 kM:Binds K t.k5 ["_law_x"] []
 zU:Fun K "_law_mixed" "_law_mixed" dA t.g8 t.k8
 Bf:mg "_law_mixed"=some (.ref t.g8)
 Aj:keepIn K (.ref t.g8)=true
 AK:Binds K t.k8 ["_law_bag_here","_law_row"] []
 C2:Fun K "_law_less" "_law_less" eL t.jo t.ng
 sN:mg "_law_less"=some (.ref t.jo)
 tF:keepIn K (.ref t.jo)=true
 sI:Binds K t.ng ["_law_x","_law_y"] []
 qK:Fun K "_law_many_cells" "_law_many_cells" bM t.df t.eU
 qD:mg "_law_many_cells"=some (.ref t.df)
 pC:keepIn K (.ref t.df)=true
 qE:Binds K t.eU ["_law_bag_here"] []
 wJ:Fun K "_law_blocks" "_law_blocks" cP t.gn t.jJ
 xT:mg "_law_blocks"=some (.ref t.gn)
 xb:keepIn K (.ref t.gn)=true
 xa:Binds K t.jJ ["_law_bag_here","_law_columns","_law_rows"] []
 CB:Fun K "_law_room" "_law_room" eD t.jl t.mC
 Cr:mg "_law_room"=some (.ref t.jl)
 Ds:keepIn K (.ref t.jl)=true
 CW:Binds K t.mC ["_law_met","_law_column","_law_row","_law_columns"] []
 Bm:Fun K "_law_spots" "_law_spots" dD t.ip t.kC
 Ar:mg "_law_spots"=some (.ref t.ip)
 zl:keepIn K (.ref t.ip)=true
 Af:Binds K t.kC ["_law_bag_here","_law_d","_law_laying_here"] []
 wI:Fun K "_law_number" "_law_number" cO t.gj t.jE
 oA:mg "_law_number"=some (.ref t.gj)
 oi:keepIn K (.ref t.gj)=true
 n8:Binds K t.jE ["_law_bag_here"] []
 Bg:Fun K "_law_times" "_law_times" dF t.hX t.lF
 qc:mg "_law_times"=some (.ref t.hX)
 pH:keepIn K (.ref t.hX)=true
 qM:Binds K t.lF ["_law_d","_law_x","_law_y"] []
 yS:Fun K "_law_is_at" "_law_is_at" dI t.g9 t.kr
 Az:mg "_law_is_at"=some (.ref t.g9)
 zW:keepIn K (.ref t.g9)=true
 zu:Binds K t.kr ["_law_d","_law_tile","_law_x","_law_y"] []
 Ao:Fun K "_law_below" "_law_below" dO t.ie t.kN
 il:mg "_law_below"=some (.ref t.ie)
 iq:keepIn K (.ref t.ie)=true
 ib:Binds K t.kN ["_law_d","_law_x","_law_y"] []
 tN:Fun K "_law_is_whole" "_law_is_whole" cg t.d6 t.gN
 tP:mg "_law_is_whole"=some (.ref t.d6)
 tS:keepIn K (.ref t.d6)=true
 tH:Binds K t.gN ["_law_thing"] []
 OO:Fun K "law" "law" og t.EV t.Io
 Qy:mg "law"=some (.ref t.EV)
 QB:keepIn K (.ref t.EV)=true
 Qz:Binds K t.Io ["_law_script"] []
 bR:mg "isinstance"=none
 vZ:mg "int"=none
 IL:mg "bool"=none
 C9:mg "abs"=none
 nF:mg "tuple"=none
 jf:mg "len"=none
 Mv:mg "all"=none
 OU:mg "set"=none
 hZ:mg "range"=none
 jv:mg "enumerate"=none
 Jz:mg "list"=none
 JV:mg "min"=none
 ON:mg "max"=none
 zr:mg "MOST_TILES"=some (.int 60 t.xp)
 Ju:Pk K mg "NOUGHT" t.GY 0 0 1
structure EQ where
 P:Program
 w:World
 K:PySem.W.Frag
 mg:Str->Option Value
 base:Heap
 t:Adr
noncomputable abbrev TX(e:EQ):Prop:=Txt e.K e.mg e.t
noncomputable abbrev sQ(e:EQ):Prop:=bC e.P e.w e.K e.mg e.base CX0 1 e.t.kZ e.t.oT ["thing"] (spD e.K ij)
noncomputable abbrev i9(e:EQ):Prop:=bC e.P e.w e.K e.mg e.base CX0 1 e.t.dG e.t.fZ ["a","b"] (spD e.K pK)
noncomputable abbrev ig(e:EQ):Prop:=bC e.P e.w e.K e.mg e.base CX0 3 e.t.jw e.t.md ["thing"] (spD e.K mJ)
noncomputable abbrev eQ(e:EQ):Prop:=bC e.P e.w e.K e.mg e.base CX0 2 e.t.dM e.t.fM ["a","b","c"] (spD e.K vU)
noncomputable abbrev yy(e:EQ):Prop:=bC e.P e.w e.K e.mg e.base CX0 3 e.t.qy e.t.wt ["a","b","c"] (spD e.K cL)
noncomputable abbrev GI(e:EQ):Prop:=bC e.P e.w e.K e.mg e.base CX0 4 e.t.zF e.t.Ea ["x","y"] (spD e.K en)
noncomputable abbrev oU(e:EQ):Prop:=bC e.P e.w e.K e.mg e.base CX0 2 e.t.nJ e.t.rq ["d","x"] (spD e.K jD)
noncomputable abbrev fJ(e:EQ):Prop:=bC e.P e.w e.K e.mg e.base CX0 1 e.t.d0 e.t.gP ["d","a","b"] (spD e.K pV)
noncomputable abbrev ma(e:EQ):Prop:=bC e.P e.w e.K e.mg e.base CX0 2 e.t.lG e.t.o8 ["d","x","y"] (spD e.K jq)
noncomputable abbrev d7(e:EQ):Prop:=bC e.P e.w e.K e.mg e.base CX0 4 e.t.dc e.t.fw ["d","thing"] (spD e.K iQ)
noncomputable abbrev vW(e:EQ):Prop:=bC e.P e.w e.K e.mg e.base CX0 5 e.t.nK e.t.rF ["d","thing"] (spD e.K yZ)
noncomputable abbrev sR(e:EQ):Prop:=bC e.P e.w e.K e.mg e.base CX0 6 e.t.lC e.t.oW ["d","thing"] (spD e.K uq)
noncomputable abbrev kL(e:EQ):Prop:=bC e.P e.w e.K e.mg e.base CX0 5 e.t.jh e.t.nk ["tile"] (spD e.K j8)
noncomputable abbrev mG(e:EQ):Prop:=bC e.P e.w e.K e.mg e.base CX0 3 e.t.gA e.t.jR ["d","marks","x"] (spD e.K qT)
noncomputable abbrev lR(e:EQ):Prop:=bC e.P e.w e.K e.mg e.base CX0 4 e.t.eZ e.t.iV ["d","found"] (spD e.K nG)
noncomputable abbrev lM(e:EQ):Prop:=bC e.P e.w e.K e.mg e.base CX0 1 e.t.fj e.t.iX ["marks","end"] (spD e.K pW)
noncomputable abbrev nz(e:EQ):Prop:=bC e.P e.w e.K e.mg e.base CX0 1 e.t.gk e.t.jz ["bounds","across","upward"] (spD e.K uE)
noncomputable abbrev pF(e:EQ):Prop:=bC e.P e.w e.K e.mg e.base CX0 7 e.t.ja e.t.mE ["d","thing"] (spD e.K pR)
noncomputable abbrev jb(e:EQ):Prop:=bC e.P e.w e.K e.mg e.base CX0 8 e.t.dH e.t.fT ["d","thing"] (spD e.K nT)
noncomputable abbrev nX(e:EQ):Prop:=bC e.P e.w e.K e.mg e.base CX0 6 e.t.ir e.t.kY ["d","tile","x","y"] (spD e.K lU)
noncomputable abbrev sH(e:EQ):Prop:=bC e.P e.w e.K e.mg e.base CX0 9 e.t.kK e.t.oS ["d","laying","x","y"] (spD e.K kh)
noncomputable abbrev sS(e:EQ):Prop:=bC e.P e.w e.K e.mg e.base CX0 1 e.t.lz e.t.oK ["_law_script","_law_at"] (spD e.K FZ)
noncomputable abbrev qx(e:EQ):Prop:=bC e.P e.w e.K e.mg e.base CX0 2 e.t.ju e.t.mQ ["_law_bag_here"] (spD e.K ui)
noncomputable abbrev bF(e:EQ):Prop:=bC e.P e.w e.K e.mg e.base CX0 1 e.t.jd e.t.mz ["_law_bag_here","_law_many"] (spD e.K kT)
noncomputable abbrev nA(e:EQ):Prop:=bC e.P e.w e.K e.mg e.base CX0 6 e.t.gc e.t.jK ["_law_bag_here","_law_d"] (spD e.K nW)
noncomputable abbrev kf(e:EQ):Prop:=bC e.P e.w e.K e.mg e.base CX0 2 e.t.dZ e.t.gU ["_law_bag_here"] (spD e.K lr)
noncomputable abbrev oD(e:EQ):Prop:=bC e.P e.w e.K e.mg e.base CX0 5 e.t.iu e.t.kG ["_law_bag_here","_law_d","_law_columns","_law_rows","_law_blocks_here"] (spD e.K mU)
noncomputable abbrev qC(e:EQ):Prop:=bC e.P e.w e.K e.mg e.base CX0 4 e.t.jc e.t.nD ["_law_sides_here"] (spD e.K Bk)
noncomputable abbrev du(e:EQ):Prop:=bC e.P e.w e.K e.mg e.base CX0 3 e.t.jn e.t.mV ["_law_x","_law_y"] (spD e.K en)
noncomputable abbrev gG(e:EQ):Prop:=bC e.P e.w e.K e.mg e.base CX0 2 e.t.kz e.t.oR ["_law_a","_law_b","_law_c"] (spD e.K cL)
noncomputable abbrev lW(e:EQ):Prop:=bC e.P e.w e.K e.mg e.base CX0 1 e.t.gz e.t.jN ["_law_one","_law_other"] (spD e.K pK)
noncomputable abbrev nZ(e:EQ):Prop:=bC e.P e.w e.K e.mg e.base CX0 4 e.t.hE e.t.kS ["_law_bag_here","_law_d","_law_many"] (spD e.K qU)
noncomputable abbrev pX(e:EQ):Prop:=bC e.P e.w e.K e.mg e.base CX0 3 e.t.jr e.t.mN ["_law_bag_here","_law_d","_law_way"] (spD e.K pD)
noncomputable abbrev lD(e:EQ):Prop:=bC e.P e.w e.K e.mg e.base CX0 1 e.t.jj e.t.mM ["_law_d","_law_x"] (spD e.K jD)
noncomputable abbrev gg(e:EQ):Prop:=bC e.P e.w e.K e.mg e.base CX0 1 e.t.ic e.t.k5 ["_law_x"] (spD e.K nH)
noncomputable abbrev oq(e:EQ):Prop:=bC e.P e.w e.K e.mg e.base CX0 2 e.t.g8 e.t.k8 ["_law_bag_here","_law_row"] (spD e.K qR)
noncomputable abbrev qP(e:EQ):Prop:=bC e.P e.w e.K e.mg e.base CX0 4 e.t.jo e.t.ng ["_law_x","_law_y"] (spD e.K v5)
noncomputable abbrev iH(e:EQ):Prop:=bC e.P e.w e.K e.mg e.base CX0 2 e.t.df e.t.eU ["_law_bag_here"] (spD e.K uh)
noncomputable abbrev mW(e:EQ):Prop:=bC e.P e.w e.K e.mg e.base CX0 2 e.t.gn e.t.jJ ["_law_bag_here","_law_columns","_law_rows"] (spD e.K vF)
noncomputable abbrev qW(e:EQ):Prop:=bC e.P e.w e.K e.mg e.base CX0 1 e.t.jl e.t.mC ["_law_met","_law_column","_law_row","_law_columns"] (spD e.K zq)
noncomputable abbrev ou(e:EQ):Prop:=bC e.P e.w e.K e.mg e.base CX0 4 e.t.ip e.t.kC ["_law_bag_here","_law_d","_law_laying_here"] (spD e.K zm)
noncomputable abbrev mK(e:EQ):Prop:=bC e.P e.w e.K e.mg e.base CX0 3 e.t.gj e.t.jE ["_law_bag_here"] (spD e.K jW)
noncomputable abbrev oB(e:EQ):Prop:=bC e.P e.w e.K e.mg e.base CX0 3 e.t.hX e.t.lF ["_law_d","_law_x","_law_y"] (spD e.K nS)
noncomputable abbrev n4(e:EQ):Prop:=bC e.P e.w e.K e.mg e.base CX0 5 e.t.g9 e.t.kr ["_law_d","_law_tile","_law_x","_law_y"] (spD e.K Ap)
noncomputable abbrev nY(e:EQ):Prop:=bC e.P e.w e.K e.mg e.base CX0 4 e.t.ie e.t.kN ["_law_d","_law_x","_law_y"] (spD e.K kD)
noncomputable abbrev j5(e:EQ):Prop:=bC e.P e.w e.K e.mg e.base CX0 1 e.t.d6 e.t.gN ["_law_thing"] (spD e.K ij)
noncomputable abbrev Iw(e:EQ):Prop:=bC e.P e.w e.K e.mg e.base CX0 10 e.t.EV e.t.Io ["_law_script"] (spD e.K wq)
section
variable {e:EQ}
theorem BE:aM ["thing"] ["thing"] (aB fS):=by walk_at "s"
theorem CM(T:TX e):sQ e:=by
 have S:=BE
 exact T.Eb.okD S (fun ds Z Q h=>sF h) (fun cdv A outer s H E hr=>⟨jx,(au (aI (ky (mD (E7 _) rfl T.bR rfl T.vZ PyProof.Rows.Boot.«int» (dv 0)) (kU (uX (mD (BP _) rfl T.bR rfl T.IL PyProof.Rows.Boot.«bool» (dv 0))))))),fun ds Z Qd h=>tq h⟩)
theorem qG:aM ["a","b"] ["a","b"] (aB bV):=by walk_at "s"
theorem pI(T:TX e):i9 e:=by
 have S:=qG
 exact T.rS.okD S (fun ds Z Q h=>yw h) (fun cdv A outer s H E hr=>⟨eY,(ak (ql PassesOwn.never (aY (oO hr.units) bP (dv 1) ah (aS _)) (au (mH (i:=0) (j:=1) rfl S.nd rfl rfl ⋯ rfl rfl (ae (dv 1) (ae (jS (dv 0) (dv 1)) aj)) rfl)))
  (au (aI (vG rfl T.C9 (ae (dv 0) aj))))),fun ds Z Qd h=>qj h⟩)
theorem rV:aM ["d","a","b","prevailing"] ["d","a","b"] (aB cm):=by walk_at "s"
theorem rJ(T:TX e):fJ e:=by
 have S:=rV
 exact T.tR.okD S (fun ds Z Q h=>Bt h) (fun cdv A outer s H E hr=>⟨fU,(ak (bO (DW.dt (zX (aY (cK hr.units) bP (dv 1) ah (aS _)) (ur (aY (cK hr.units) bP (dv 2) ah (aS _))))) (au (aI ah)) ba)
  (ak (bO (DW.dt (zX (aY Cs fD (dv 1) ah (aS _)) (ur (aY Cs fD (dv 2) ah (aS _))))) (au (aI ah)) ba)
  (ak (bO (DW.dt (zX (aY Mj fD (dv 1) ah (aS _)) (ur (aY Mj fD (dv 2) ah (aS _))))) (au (aI (kI ah))) ba)
  (ak (aU (i:=3) S.nd rfl (Or.inl rfl) (B4 (aY oF fD (bz (dv 1) (dv 1)) (bz (bz (dv 0) (dv 2)) (dv 2)) (aS _)) (dv 1) (dv 2)))
  (au (aI (B4 (aY oF fD (dv 3) ah (aS _)) ah (kI ah)))))))),fun ds Z Qd h=>rQ h⟩)
theorem tL:aM ["marks","end"] ["marks","end"] (aB cC):=by walk_at "s"
theorem tI(T:TX e):lM e:=by
 have S:=tL
 exact T.vS.okD S (fun ds Z Q h=>B3 h) (fun cdv A outer s H E hr=>⟨gQ,(au (aI (ky (fo (cK hr.units) bP (aJ (dv 0) ah (fun _ _=>rfl)) (Jm rfl T.Ju) (aS _)) (kU (fo (cK hr.units) bP (aJ (dv 0) (kI ah) (fun _ _=>rfl)) (dv 1) (aS _)))))),fun ds Z Qd h=>tJ h⟩)
theorem vq:aM ["bounds","across","upward","columns","rows","covered","left","right","bottom","top","column","row"] ["bounds","across","upward"] (aB cR):=by walk_at "s"
theorem uC(T:TX e):nz e:=by
 have S:=vq
 exact EA (T.wY.okD S (fun ds Z Q h=>xJ h) (fun cdv A outer s H E hr=>⟨iW,(ak (Fj (i:=3) (N':=["at","x"]) (cap:=[none,none]) S.nd rfl rfl rfl hr.units (Fu rfl T.jv (ae (dv 1) aj)) (fun _ _ _=>(bZ (n:=2) rfl (ax (aw (i:=0) (show List.Nodup (["at","x"]:List Str) by decide +kernel) rfl (Or.inl rfl)) (ax (aw (i:=1) (show List.Nodup (["at","x"]:List Str) by decide +kernel) rfl (Or.inl rfl)) bH)))) (fun _ _ _=>eV) (fun _ _ _=>(dv 1)) (fun _ _ _=>(dv 0)) rfl nofun rfl nofun (by walk_at "cl") (fe rfl) rfl (dU trivial))
  (ak (Fj (i:=4) (N':=["at","y"]) (cap:=[none,none]) S.nd rfl rfl rfl hr.units (Fu rfl T.jv (ae (dv 2) aj)) (fun _ _ _=>(bZ (n:=2) rfl (ax (aw (i:=0) (show List.Nodup (["at","y"]:List Str) by decide +kernel) rfl (Or.inl rfl)) (ax (aw (i:=1) (show List.Nodup (["at","y"]:List Str) by decide +kernel) rfl (Or.inl rfl)) bH)))) (fun _ _ _=>eV) (fun _ _ _=>(dv 1)) (fun _ _ _=>(dv 0)) rfl nofun rfl nofun (by walk_at "cl") (fe rfl) rfl (dU trivial))
  (ak (aU (i:=5) S.nd rfl (Or.inl rfl) (Hi rfl T.OU))
  (ak (gR PassesOwn.never rfl (gb (dv 0)) (bZ (n:=4) rfl (ax (aw (i:=6) S.nd rfl (Or.inl rfl)) (ax (aw (i:=7) S.nd rfl (Or.inl rfl)) (ax (aw (i:=8) S.nd rfl (Or.inl rfl)) (ax (aw (i:=9) S.nd rfl (Or.inl rfl)) bH))))) (au (gR PassesOwn.never rfl (zM rfl T.hZ (ae (AA hr.units (dv 3) (dv 6)) (ae (AA hr.units (dv 3) (dv 7)) aj))) (aw (i:=10) S.nd rfl (Or.inl rfl)) (au (gR PassesOwn.never rfl (zM rfl T.hZ (ae (AA hr.units (dv 4) (dv 8)) (ae (AA hr.units (dv 4) (dv 9)) aj))) (aw (i:=11) S.nd rfl (Or.inl rfl)) (ak (bO (M4 hr.units (aK (ae (dv 10) (ae (dv 11) aj))) (dv 5) (by with_unfolding_all rfl)) (au (aI lP)) ba)
  (au (gv (LL hr.units (dv 5) (aK (ae (dv 10) (ae (dv 11) aj))))))))))))
  (au (aI (fo (cK hr.units) bP (KC rfl T.jf (ae (dv 5) aj)) (bz (dR (gL rfl T.jf (ae (dv 1) aj)) ah) (dR (gL rfl T.jf (ae (dv 2) aj)) ah)) (aS _)))))))),fun ds Z Qd h=>u4 h⟩)) (fun ds Z Qd h=>tK h)
theorem Co:aM ["_law_script","_law_at","_law_cell","_law_great","_law_primes","_law_mixed_here"] ["_law_script","_law_at"] (aB fO):=by walk_at "s"
theorem Cf(T:TX e):sS e:=by
 have S:=Co
 exact T.DX.okD S (fun ds Z Q h=>Ha h) (fun cdv A outer s H E hr=>⟨mY,(ak (aU (i:=2) S.nd rfl (Or.inl rfl) ah)
  (ak (bO (aY mw fD (dv 1) (gL rfl T.jf (ae (dv 0) aj)) (aS _)) (au (aU (i:=2) S.nd rfl (Or.inl rfl) (aJ (dv 0) (dv 1) (fun _ _=>rfl)))) ba)
  (ak (aU (i:=3) S.nd rfl (Or.inl rfl) ah)
  (ak (bO (aY Cs fD (vG rfl T.C9 (ae (dv 2) aj)) (JH ah ah) (aS _)) (au (aU (i:=3) S.nd rfl (Or.inl rfl) (vG rfl T.C9 (ae (dv 2) aj)))) ba)
  (ak (aU (i:=4) S.nd rfl (Or.inl rfl) (dQ (ae ah (ae ah (ae ah (ae ah (ae ah (ae ah (ae ah (ae ah aj))))))))))
  (ak (aU (i:=5) S.nd rfl (Or.inl rfl) (bb (bb (bb (bz (jS (dv 2) ah) ah) (bz (bz ah (dv 1)) (dv 1))) (bz ah (dv 1))) ah))
  (au (aI (nR (ae (dv 3) (ae (jS (dv 5) (aJ (dv 4) (jS (dv 1) ah) (fun _ _=>rfl))) aj))))))))))),fun ds Z Qd h=>Ce h⟩)
theorem zz:aM ["_law_bag_here","_law_many","_law_digit"] ["_law_bag_here","_law_many"] (aB eM):=by walk_at "s"
theorem Be(T:TX e):bF e:=by
 have S:=zz
 exact T.CP.okD S (fun ds Z Q h=>Cq h) (fun cdv A outer s H E hr=>⟨jF,(ak (bO (aY oF fD (aJ (dv 0) ah (fun _ _=>rfl)) ah (aS _)) (ak (aU (i:=2) S.nd rfl (Or.inl rfl) (jS (aJ (dv 0) ah (fun _ _=>rfl)) (dv 1)))
  (ak (fq (gX (aJ (dv 0) ah (fun _ _=>rfl)) (dv 1)) (JC (dv 0) ah))
  (au (aI (dv 2))))) ba)
  (ak (fq (jS (bb (bz (aJ (dv 0) ah (fun _ _=>rfl)) ah) ah) ah) (JC (dv 0) ah))
  (au (aI (jS (gX (jS (JH (aJ (dv 0) ah (fun _ _=>rfl)) ah) ah) ah) (dv 1)))))),fun ds Z Qd h=>xR h⟩)
theorem vA:aM ["_law_one","_law_other"] ["_law_one","_law_other"] (aB cN):=by walk_at "s"
theorem vC(T:TX e):lW e:=by
 have S:=vA
 exact T.wF.okD S (fun ds Z Q h=>yw h) (fun cdv A outer s H E hr=>⟨iY,(ak (mH (i:=0) (j:=1) rfl S.nd rfl rfl ⋯ rfl rfl (ae (vG rfl T.C9 (ae (dv 0) aj)) (ae (vG rfl T.C9 (ae (dv 1) aj)) aj)) rfl)
  (ak (ql PassesOwn.never (aY oF fD (dv 1) ah (aS _)) (au (mH (i:=0) (j:=1) rfl S.nd rfl rfl ⋯ rfl rfl (ae (dv 1) (ae (jS (dv 0) (dv 1)) aj)) rfl)))
  (au (aI (dv 0))))),fun ds Z Qd h=>vh h⟩)
theorem Ac:aM ["_law_d","_law_x","_law_first","_law_second","_law_sides_here"] ["_law_d","_law_x"] (aB eG):=by walk_at "s"
theorem yN(T:TX e):lD e:=by
 have S:=Ac
 exact T.Dr.okD S (fun ds Z Q h=>uZ h) (fun cdv A outer s H E hr=>⟨lH,(ak (mH (i:=2) (j:=3) rfl S.nd rfl rfl ⋯ rfl rfl (ae (bz (aJ (dv 1) ah (fun _ _=>rfl)) (aJ (dv 1) ah (fun _ _=>rfl))) (ae (bz (bz (dv 0) (aJ (dv 1) ah (fun _ _=>rfl))) (aJ (dv 1) ah (fun _ _=>rfl))) aj)) rfl)
  (ak (aU (i:=4) S.nd rfl (Or.inl rfl) (dQ (ae (dR (mv rfl T.vZ (ae (fo oF fD (aJ (dv 1) ah (fun _ _=>rfl)) ah (aS _)) aj)) (mv rfl T.vZ (ae (fo mw fD (aJ (dv 1) ah (fun _ _=>rfl)) ah (aS _)) aj))) (ae (dR (mv rfl T.vZ (ae (fo oF fD (aJ (dv 1) ah (fun _ _=>rfl)) ah (aS _)) aj)) (mv rfl T.vZ (ae (fo mw fD (aJ (dv 1) ah (fun _ _=>rfl)) ah (aS _)) aj))) aj))))
  (ak (bO (aY Cs fD (bz (aJ (dv 4) ah (fun _ _=>rfl)) (aJ (dv 4) ah (fun _ _=>rfl))) ah (aS _)) (au (aI (B4 (aY (oO hr.units) bP (aJ (dv 4) ah (fun _ _=>rfl)) ah (aS _)) (aJ (dv 4) ah (fun _ _=>rfl)) (aJ (dv 4) ah (fun _ _=>rfl))))) ba)
  (au (aI (B4 (aY oF fD (dv 2) (dv 3) (aS _)) (aJ (dv 4) ah (fun _ _=>rfl)) (aJ (dv 4) ah (fun _ _=>rfl)))))))),fun ds Z Qd h=>Aq h⟩)
theorem xt:aM ["_law_x"] ["_law_x"] (aB dw):=by walk_at "s"
theorem wC(T:TX e):gg e:=by
 have S:=xt
 exact T.zg.okD S (fun ds Z Q h=>CK h) (fun cdv A outer s H E hr=>⟨jT,(au (aI (aK (ae (dR ah (aJ (dv 0) ah (fun _ _=>rfl))) (ae (dR ah (aJ (dv 0) ah (fun _ _=>rfl))) (ae (aJ (dv 0) ah (fun _ _=>rfl)) aj)))))),fun ds Z Qd h=>wH h⟩)
theorem zE:aM ["_law_met","_law_column","_law_row","_law_columns","_law_found"] ["_law_met","_law_column","_law_row","_law_columns"] (aB eD):=by walk_at "s"
theorem Bn(T:TX e):qW e:=by
 have S:=zE
 exact T.CB.okD S (fun ds Z Q h=>Ex h) (fun cdv A outer s H E hr=>⟨k6,(ak (aU (i:=4) S.nd rfl (Or.inl rfl) ah)
  (ak (ql PassesOwn.never (DW.dt (zX (aY mw fD (bb (dv 1) (dv 4)) (dv 3) (aS _)) (ur (x8 hr.units (aK (ae (bb (dv 1) (dv 4)) (ae (dv 2) aj))) (dv 0) (by with_unfolding_all rfl))))) (au (aU (i:=4) S.nd rfl (Or.inl rfl) (bb (dv 4) ah))))
  (au (aI (dv 4))))),fun ds Z Qd h=>Ay h⟩)
theorem rP:aM ["_law_thing"] ["_law_thing"] (aB cg):=by walk_at "s"
theorem sf(T:TX e):j5 e:=by
 have S:=rP
 exact T.tN.okD S (fun ds Z Q h=>sF h) (fun cdv A outer s H E hr=>⟨kq,(au (aI (ky (mD (E7 _) rfl T.bR rfl T.vZ PyProof.Rows.Boot.«int» (dv 0)) (kU (uX (mD (BP _) rfl T.bR rfl T.IL PyProof.Rows.Boot.«bool» (dv 0))))))),fun ds Z Qd h=>rM h⟩)
theorem qS:aM ["a","b","c"] ["a","b","c"] (aB bW):=by walk_at "s"
theorem qw(T:TX e)(dz:i9 e):eQ e:=by
 have S:=qS
 exact T.rm.okD S (fun ds Z Q h=>EI h) (fun cdv A outer s H E hr=>⟨fk,(au (aI (ao dz (hr.mono ⋯) rfl T.jZ T.kg T.ki (ae (ao dz (hr.mono ⋯) rfl T.jZ T.kg T.ki (ae (dv 2) (ae (dv 0) aj))) (ae (dv 1) aj))))),fun ds Z Qd h=>qu h⟩)
theorem EM:aM ["d","x"] ["d","x"] (aB iA):=by walk_at "s"
theorem Ey(T:TX e)(ck:fJ e):oU e:=by
 have S:=EM
 exact T.GJ.okD S (fun ds Z Q h=>uZ h) (fun cdv A outer s H E hr=>⟨ph,(au (aI (ao ck (hr.mono ⋯) rfl T.lQ T.lO T.lI (ae (dv 0) (ae (aJ (dv 1) ah (fun _ _=>rfl)) (ae (aJ (dv 1) ah (fun _ _=>rfl)) aj)))))),fun ds Z Qd h=>D3 h⟩)
theorem B7:aM ["d","x","y","a","b"] ["d","x","y"] (aB fI):=by walk_at "s"
theorem BO(T:TX e)(ck:fJ e):ma e:=by
 have S:=B7
 exact T.Eo.okD S (fun ds Z Q h=>Cg h) (fun cdv A outer s H E hr=>⟨mn,(ak (aU (i:=3) S.nd rfl (Or.inl rfl) (dR (bz (aJ (dv 1) ah (fun _ _=>rfl)) (aJ (dv 2) ah (fun _ _=>rfl))) (bz (aJ (dv 2) ah (fun _ _=>rfl)) (aJ (dv 1) ah (fun _ _=>rfl)))))
  (ak (aU (i:=4) S.nd rfl (Or.inl rfl) (dR (bz (aJ (dv 1) ah (fun _ _=>rfl)) (aJ (dv 2) ah (fun _ _=>rfl))) (bz (aJ (dv 2) ah (fun _ _=>rfl)) (aJ (dv 1) ah (fun _ _=>rfl)))))
  (au (aI (fo (cK hr.units) bP (ao ck (hr.mono ⋯) rfl T.lQ T.lO T.lI (ae (dv 0) (ae (dv 3) (ae (dv 4) aj)))) ah (aS _)))))),fun ds Z Qd h=>CG h⟩)
theorem zC:aM ["_law_bag_here","_law_some"] ["_law_bag_here"] (aB eC):=by walk_at "s"
theorem zj(T:TX e)(av:bF e):qx e:=by
 have S:=zC
 exact T.Dl.okD S (fun ds Z Q h=>CV h) (fun cdv A outer s H E hr=>⟨kA,(ak (bO (aY (cK hr.units) bP (ao (bj av @aT) (hr.mono ⋯) rfl T.aF T.aE T.aG (ae (dv 0) (ae ah aj))) ah (aS _)) (au (aI (aJ (dQ (ae ah (ae ah (ae ah aj)))) (ao (bj av @aT) (hr.mono ⋯) rfl T.aF T.aE T.aG (ae (dv 0) (ae ah aj))) (fun _ _=>rfl)))) ba)
  (ak (ug (i:=1) (N':=["_law_d"]) (cap:=[none]) S.nd rfl rfl rfl (zM rfl T.hZ (ae ah (ae ah aj))) (fun _ _ _=>(aw (i:=0) (show List.Nodup (["_law_d"]:List Str) by decide +kernel) rfl (Or.inl rfl))) (fun _ _ _=>(vw (aY (Hv hr.units) MT (dv 0) (dQ (ae ah (ae ah (ae ah (ae ah aj))))) (by with_unfolding_all rfl)))) (fun _ _ _=>(dv 0)) rfl nofun rfl nofun (by walk_at "cl") (fe rfl) rfl (dU trivial))
  (au (aI (aJ (dv 1) (ao (bj av @aT) (hr.mono ⋯) rfl T.aF T.aE T.aG (ae (dv 0) (ae ah aj))) (fun _ _=>rfl)))))),fun ds Z Qd h=>yU h⟩)
theorem q5:aM ["_law_bag_here","_law_a","_law_b","_law_found"] ["_law_bag_here"] (aB cj):=by walk_at "s"
theorem rR(T:TX e)(av:bF e):kf e:=by
 have S:=q5
 exact T.tZ.okD S (fun ds Z Q h=>uK h) (fun cdv A outer s H E hr=>⟨fH,(ak (fq (aK (ae (bb ah (ao (bj av @aT) (hr.mono ⋯) rfl T.aF T.aE T.aG (ae (dv 0) (ae ah aj)))) (ae (bb ah (ao (bj av @aT) (hr.mono ⋯) rfl T.aF T.aE T.aG (ae (dv 0) (ae ah aj)))) aj))) (bZ (n:=2) rfl (ax (aw (i:=1) S.nd rfl (Or.inr rfl)) (ax (aw (i:=2) S.nd rfl (Or.inl rfl)) bH))))
  (ak (aU (i:=3) S.nd rfl (Or.inl rfl) (dQ (ae (aK (ae ah (ae ah (ae (bb (dv 1) ah) (ae ah aj))))) (ae (aK (ae (bb (dv 1) ah) (ae ah (ae ah (ae (bb (dv 2) ah) aj))))) (ae (aK (ae ah (ae (bb (dv 2) ah) (ae (bb (dv 1) ah) (ae ah aj))))) (ae (aK (ae ah (ae ah (ae ah (ae (bb (dv 2) ah) aj))))) (ae (aK (ae ah (ae ah (ae (dv 1) (ae (dv 2) aj))))) aj)))))))
  (ak (bO (aY (cK hr.units) bP (ao (bj av @aT) (hr.mono ⋯) rfl T.aF T.aE T.aG (ae (dv 0) (ae ah aj))) ah (aS _)) (au (ug (i:=3) (N':=["_law_column","_law_row","_law_wide","_law_high","_law_a"]) (cap:=[none,none,none,none,some 1]) S.nd rfl rfl rfl (gb (dv 3)) (fun _ _ _=>(bZ (n:=4) rfl (ax (aw (i:=0) (show List.Nodup (["_law_column","_law_row","_law_wide","_law_high","_law_a"]:List Str) by decide +kernel) rfl (Or.inl rfl)) (ax (aw (i:=1) (show List.Nodup (["_law_column","_law_row","_law_wide","_law_high","_law_a"]:List Str) by decide +kernel) rfl (Or.inl rfl)) (ax (aw (i:=2) (show List.Nodup (["_law_column","_law_row","_law_wide","_law_high","_law_a"]:List Str) by decide +kernel) rfl (Or.inl rfl)) (ax (aw (i:=3) (show List.Nodup (["_law_column","_law_row","_law_wide","_law_high","_law_a"]:List Str) by decide +kernel) rfl (Or.inl rfl)) bH)))))) (fun _ _ _=>eV) (fun _ _ _=>(aK (ae (dR (dR (bb (dv 4) ah) (dv 0)) (dv 2)) (ae (dv 1) (ae (dv 2) (ae (dv 3) aj)))))) rfl nofun rfl nofun (by walk_at "cl") (fe rfl) rfl (dU ⟨sC,trivial⟩))) ba)
  (au (aI (aK (ae (bb (dv 1) ah) (ae (bb (dv 2) ah) (ae (dv 3) aj))))))))),fun ds Z Qd h=>sv h⟩)
theorem C5:aM ["_law_a","_law_b","_law_c","_law_common"] ["_law_a","_law_b","_law_c"] (aB fY):=by walk_at "s"
theorem B8(T:TX e)(gw:lW e):gG e:=by
 have S:=C5
 exact T.Ep.okD S (fun ds Z Q h=>pO h) (fun cdv A outer s H E hr=>⟨nC,(ak (aU (i:=3) S.nd rfl (Or.inl rfl) (bz (ao gw (hr.mono ⋯) rfl T.n6 T.oj T.oo (ae (ao gw (hr.mono ⋯) rfl T.n6 T.oj T.oo (ae (dv 0) (ae (dv 1) aj))) (ae (dv 2) aj))) (aJ (dQ (ae ah (ae (kI ah) aj))) (mv rfl T.vZ (ae (fo mw fD (dv 2) ah (aS _)) aj)) (fun _ _=>rfl))))
  (au (aI (aK (ae (gX (dv 0) (dv 3)) (ae (gX (dv 1) (dv 3)) (ae (gX (dv 2) (dv 3)) aj))))))),fun ds Z Qd h=>Dc h⟩)
theorem xy:aM ["_law_bag_here","_law_row","_law_rest"] ["_law_bag_here","_law_row"] (aB dA):=by walk_at "s"
theorem xh(T:TX e)(av:bF e):oq e:=by
 have S:=xy
 exact T.zU.okD S (fun ds Z Q h=>zp h) (fun cdv A outer s H E hr=>⟨jQ,(ak (aU (i:=2) S.nd rfl (Or.inr rfl) (Je rfl T.Jz (ae (dv 1) aj)))
  (au (aI (Ct (N':=["_law_thing","_law_rest","_law_bag_here"]) (cap:=[none,some 2,some 0]) rfl (gb (dv 1)) (fun _ _ _=>(aw (i:=0) (show List.Nodup (["_law_thing","_law_rest","_law_bag_here"]:List Str) by decide +kernel) rfl (Or.inl rfl))) (fun _ _ _=>eV) (fun _ _ _=>(Ka (dv 1) (ao (bj av @aT) (hr.mono ⋯) rfl T.aF T.aE T.aG (ae (dv 2) (ae (gL rfl T.jf (ae (dv 1) aj)) aj))))) rfl nofun rfl nofun (by walk_at "cl") (fe rfl) rfl (dU ⟨sC,⟨sC,trivial⟩⟩))))),fun ds Z Qd h=>w4 h⟩)
theorem o3:aM ["_law_bag_here","_law_draw"] ["_law_bag_here"] (aB bM):=by walk_at "s"
theorem oJ(T:TX e)(av:bF e):iH e:=by
 have S:=o3
 exact T.qK.okD S (fun ds Z Q h=>Bv h) (fun cdv A outer s H E hr=>⟨ej,(ak (aU (i:=1) S.nd rfl (Or.inl rfl) (ao (bj av @aT) (hr.mono ⋯) rfl T.aF T.aE T.aG (ae (dv 0) (ae ah aj))))
  (ak (bO (aY (cK hr.units) bP (dv 1) ah (aS _)) (au (aI (aJ (dQ (ae (aK (ae ah (ae ah aj))) (ae (aK (ae ah (ae ah aj))) (ae (aK (ae ah (ae ah aj))) (ae (aK (ae ah (ae ah aj))) (ae (aK (ae ah (ae ah aj))) (ae (aK (ae ah (ae ah aj))) aj))))))) (ao (bj av @aT) (hr.mono ⋯) rfl T.aF T.aE T.aG (ae (dv 0) (ae ah aj))) (fun _ _=>rfl)))) ba)
  (ak (bO (aY mw fD (dv 1) ah (aS _)) (au (aI (aK (ae (bb ah (ao (bj av @aT) (hr.mono ⋯) rfl T.aF T.aE T.aG (ae (dv 0) (ae ah aj)))) (ae (bb ah (ao (bj av @aT) (hr.mono ⋯) rfl T.aF T.aE T.aG (ae (dv 0) (ae ah aj)))) aj))))) ba)
  (au (aI (aK (ae (bb ah (ao (bj av @aT) (hr.mono ⋯) rfl T.aF T.aE T.aG (ae (dv 0) (ae ah aj)))) (ae (bb ah (ao (bj av @aT) (hr.mono ⋯) rfl T.aF T.aE T.aG (ae (dv 0) (ae ah aj)))) aj)))))))),fun ds Z Qd h=>oQ h⟩)
theorem vd:aM ["_law_bag_here","_law_columns","_law_rows","_law_met","_law_found","_law_most","_law_row","_law_column","_law_wide","_law_high","_law_k"] ["_law_bag_here","_law_columns","_law_rows"] (aB cP):=by walk_at "s"
theorem vm(T:TX e)(av:bF e)(l7:qW e):mW e:=by
 have S:=vd
 exact Gb (T.wJ.okD S (fun ds Z Q h=>xF h) (fun cdv A outer s H E hr=>⟨iZ,(ak (aU (i:=3) S.nd rfl (Or.inl rfl) G6)
  (ak (aU (i:=4) S.nd rfl (Or.inl rfl) (nR aj))
  (ak (aU (i:=5) S.nd rfl (Or.inl rfl) (aJ (dQ (ae ah (ae ah (ae ah (ae ah aj))))) (ao av (hr.mono ⋯) rfl T.aF T.aE T.aG (ae (dv 0) (ae ah aj))) (fun _ _=>rfl)))
  (ak (gR PassesOwn.never rfl (nQ rfl T.hZ (ae (dv 2) aj)) (aw (i:=6) S.nd rfl (Or.inl rfl)) (au (gR PassesOwn.never rfl (nQ rfl T.hZ (ae (dv 1) aj)) (aw (i:=7) S.nd rfl (Or.inl rfl)) (au (bO (x8 hr.units (aK (ae (dv 7) (ae (dv 6) aj))) (dv 3) (by with_unfolding_all rfl)) (ak (aU (i:=8) S.nd rfl (Or.inl rfl) (bb ah (ao av (hr.mono ⋯) rfl T.aF T.aE T.aG (ae (dv 0) (ae (DU rfl rfl T.JV (ae (dv 5) (ae (ao l7 (hr.mono ⋯) rfl T.Cr T.Ds T.CW (ae (dv 3) (ae (dv 7) (ae (dv 6) (ae (dv 1) aj))))) aj))) aj)))))
  (ak (aU (i:=9) S.nd rfl (Or.inl rfl) (bb ah (ao av (hr.mono ⋯) rfl T.aF T.aE T.aG (ae (dv 0) (ae (DU rfl rfl T.JV (ae (dv 5) (ae (dR (dv 2) (dv 6)) aj))) aj)))))
  (ak (gv (iy (dv 4) (aK (ae (dv 7) (ae (dv 6) (ae (dv 8) (ae (dv 9) aj)))))))
  (au (gR PassesOwn.never rfl (nQ rfl T.hZ (ae (bz (dv 8) (dv 9)) aj)) (aw (i:=10) S.nd rfl (Or.inl rfl)) (au (LG hr.units (dv 3) (aK (ae (bb (dv 7) (jS (dv 10) (dv 8))) (ae (bb (dv 6) (gX (dv 10) (dv 8))) aj))) lP))))))) ba)))))
  (au (aI (dv 4))))))),fun ds Z Qd h=>vg h⟩)) (fun ds Z Qd h=>tM h)
theorem zN:aM ["thing","a","b","c"] ["thing"] (aB eI):=by walk_at "s"
theorem zk(T:TX e)(iO:sQ e)(bT:eQ e):ig e:=by
 have S:=zN
 exact T.BJ.okD S (fun ds Z Q h=>DP h) (fun cdv A outer s H E hr=>⟨lA,(ak (bO (DW.dt (gY (di (bY (mD (kit_tuple _) rfl T.bR rfl T.nF PyProof.Rows.Boot.«tuple» (dv 0)))) (iF (aY (oO hr.units) bP (gL rfl T.jf (ae (dv 0) aj)) ah (aS _))))) (au (aI lP)) ba)
  (ak (fq (dv 0) (bZ (n:=3) rfl (ax (aw (i:=1) S.nd rfl (Or.inl rfl)) (ax (aw (i:=2) S.nd rfl (Or.inl rfl)) (ax (aw (i:=3) S.nd rfl (Or.inl rfl)) bH)))))
  (ak (bO (DW.dt (gY (di (bY (ao iO (hr.mono ⋯) rfl T.oI T.oM T.pj (ae (dv 1) aj)))) (gY (di (bY (ao iO (hr.mono ⋯) rfl T.oI T.oM T.pj (ae (dv 2) aj)))) (iF (di (bY (ao iO (hr.mono ⋯) rfl T.oI T.oM T.pj (ae (dv 3) aj)))))))) (au (aI lP)) ba)
  (au (aI (ky (fo Cs fD (dv 3) ah (aS _)) (kU (fo (cK hr.units) bP (ao bT (hr.mono ⋯) rfl T.jV T.jX T.ka (ae (dv 1) (ae (dv 2) (ae (dv 3) aj)))) ah (aS _))))))))),fun ds Z Qd h=>yM h⟩)
theorem G3:aM ["a","b","c","divisor"] ["a","b","c"] (aB j4):=by walk_at "s"
theorem HF(T:TX e)(bT:eQ e):yy e:=by
 have S:=G3
 exact T.HZ.okD S (fun ds Z Q h=>pO h) (fun cdv A outer s H E hr=>⟨rT,(ak (bO (aY (cK hr.units) bP (dv 2) ah (aS _)) (au va) ba)
  (ak (aU (i:=3) S.nd rfl (Or.inl rfl) (ao bT (hr.mono ⋯) rfl T.jV T.jX T.ka (ae (dv 0) (ae (dv 1) (ae (dv 2) aj)))))
  (ak (bO (aY mw fD (dv 2) ah (aS _)) (au (aU (i:=3) S.nd rfl (Or.inl rfl) (kI (dv 3)))) ba)
  (au (aI (aK (ae (gX (dv 0) (dv 3)) (ae (gX (dv 1) (dv 3)) (ae (gX (dv 2) (dv 3)) aj))))))))),fun ds Z Qd h=>Hh h⟩)
theorem vi:aM ["d","marks","x","low","high","middle"] ["d","marks","x"] (aB cQ):=by walk_at "s"
theorem vy(T:TX e)(cJ:ma e):mG e:=by
 have S:=vi
 exact T.xf.okD S (fun ds Z Q h=>y0 h) (fun cdv A outer s H E hr=>⟨iE,(ak (aU (i:=3) S.nd rfl (Or.inl rfl) ah)
  (ak (aU (i:=4) S.nd rfl (Or.inl rfl) (gL rfl T.jf (ae (dv 1) aj)))
  (ak (ql PassesOwn.never (aY mw fD (dv 3) (dv 4) (aS _)) (ak (aU (i:=5) S.nd rfl (Or.inl rfl) (gX (bb (dv 3) (dv 4)) ah))
  (au (bO (bY (ao cJ (hr.mono ⋯) rfl T.iT T.iP T.iS (ae (dv 0) (ae (dv 2) (ae (aJ (dv 1) (dv 5) (fun _ _=>rfl)) aj))))) (au (aU (i:=3) S.nd rfl (Or.inl rfl) (bb (dv 5) ah))) (au (aU (i:=4) S.nd rfl (Or.inl rfl) (dv 5)))))))
  (au (aI (dv 3)))))),fun ds Z Qd h=>wg h⟩)
theorem zS:aM ["_law_x","_law_y"] ["_law_x","_law_y"] (aB eO):=by walk_at "s"
theorem zf(T:TX e)(bI:gG e):du e:=by
 have S:=zS
 exact T.CT.okD S (fun ds Z Q h=>u9 h) (fun cdv A outer s H E hr=>⟨pJ,(au (aI (ao bI (hr.mono ⋯) rfl T.iM T.i5 T.i4 (ae (bb (bz (aJ (dv 0) ah (fun _ _=>rfl)) (aJ (dv 1) ah (fun _ _=>rfl))) (bz (aJ (dv 1) ah (fun _ _=>rfl)) (aJ (dv 0) ah (fun _ _=>rfl)))) (ae (bb (bz (aJ (dv 0) ah (fun _ _=>rfl)) (aJ (dv 1) ah (fun _ _=>rfl))) (bz (aJ (dv 1) ah (fun _ _=>rfl)) (aJ (dv 0) ah (fun _ _=>rfl)))) (ae (bz (aJ (dv 0) ah (fun _ _=>rfl)) (aJ (dv 1) ah (fun _ _=>rfl))) aj)))))),fun ds Z Qd h=>AU h⟩)
theorem zK:aM ["_law_bag_here","_law_d","_law_way","_law_x","_law_sign_here"] ["_law_bag_here","_law_d","_law_way"] (aB eu):=by walk_at "s"
theorem y7(T:TX e)(av:bF e)(bI:gG e)(eE:lD e)(bQ:gg e):pX e:=by
 have S:=zK
 exact T.BV.okD S (fun ds Z Q h=>Dv h) (fun cdv A outer s H E hr=>⟨kB,(ak (bO (aY (cK hr.units) bP (dv 2) ah (aS _)) (au (aI (aK (ae (bb ah (ao (bj av @aT) (hr.mono ⋯) rfl T.aF T.aE T.aG (ae (dv 0) (ae ah aj)))) (ae ah (ae ah aj)))))) ba)
  (ak (bO (aY (cK hr.units) bP (dv 2) ah (aS _)) (au (aI (ao bI (hr.mono ⋯) rfl T.iM T.i5 T.i4 (ae (bb ah (ao (bj av @aT) (hr.mono ⋯) rfl T.aF T.aE T.aG (ae (dv 0) (ae ah aj)))) (ae ah (ae (bb ah (ao (bj av @aT) (hr.mono ⋯) rfl T.aF T.aE T.aG (ae (dv 0) (ae ah aj)))) aj)))))) ba)
  (ak (aU (i:=3) S.nd rfl (Or.inl rfl) (ao bI (hr.mono ⋯) rfl T.iM T.i5 T.i4 (ae (dR (ao (bj av @aT) (hr.mono ⋯) rfl T.aF T.aE T.aG (ae (dv 0) (ae ah aj))) ah) (ae (dR (ao (bj av @aT) (hr.mono ⋯) rfl T.aF T.aE T.aG (ae (dv 0) (ae ah aj))) ah) (ae (bb ah (ao (bj av @aT) (hr.mono ⋯) rfl T.aF T.aE T.aG (ae (dv 0) (ae ah aj)))) aj)))))
  (ak (aU (i:=4) S.nd rfl (Or.inl rfl) (ao eE (hr.mono ⋯) rfl T.sO T.sZ T.sW (ae (dv 1) (ae (dv 3) aj))))
  (ak (bO (aY (cK hr.units) bP (dv 4) ah (aS _)) (au (aI (aK (ae ah (ae ah (ae ah aj)))))) ba)
  (au (aI (B4 (aY oF fD (dv 4) ah (aS _)) (dv 3) (ao bQ (hr.mono ⋯) rfl T.kP T.k7 T.kM (ae (dv 3) aj)))))))))),fun ds Z Qd h=>zH h⟩)
theorem uY:aM ["_law_bag_here","_law_wide","_law_a","_law_b","_law_c","_law_way"] ["_law_bag_here"] (aB cO):=by walk_at "s"
theorem vP(T:TX e)(av:bF e)(bI:gG e):mK e:=by
 have S:=uY
 exact T.wI.okD S (fun ds Z Q h=>xu h) (fun cdv A outer s H E hr=>⟨iN,(ak (aU (i:=1) S.nd rfl (Or.inl rfl) (aJ (dQ (ae ah (ae ah (ae ah (ae ah aj))))) (ao (bj av @aT) (hr.mono ⋯) rfl T.aF T.aE T.aG (ae (dv 0) (ae ah aj))) (fun _ _=>rfl)))
  (ak (mH (i:=2) (j:=3) rfl S.nd rfl rfl ⋯ rfl rfl (ae (dR (ao (bj av @aT) (hr.mono ⋯) rfl T.aF T.aE T.aG (ae (dv 0) (ae (dv 1) aj))) (gX (dv 1) ah)) (ae (dR (ao (bj av @aT) (hr.mono ⋯) rfl T.aF T.aE T.aG (ae (dv 0) (ae (dv 1) aj))) (gX (dv 1) ah)) aj)) rfl)
  (ak (aU (i:=4) S.nd rfl (Or.inl rfl) (bb ah (ao (bj av @aT) (hr.mono ⋯) rfl T.aF T.aE T.aG (ae (dv 0) (ae (dR (dv 1) ah) aj)))))
  (ak (aU (i:=5) S.nd rfl (Or.inl rfl) (ao (bj av @aT) (hr.mono ⋯) rfl T.aF T.aE T.aG (ae (dv 0) (ae ah aj))))
  (au (aI (ao bI (hr.mono ⋯) rfl T.iM T.i5 T.i4 (ae (aJ (dQ (ae (dv 2) (ae (dv 2) (ae (dv 2) (ae (dv 2) (ae (dv 2) (ae (dv 2) (ae (dv 2) (ae ah aj))))))))) (dv 5) (fun _ _=>rfl)) (ae (aJ (dQ (ae (dv 3) (ae (dv 3) (ae (dv 3) (ae (dv 3) (ae (dv 3) (ae ah (ae ah (ae (dv 3) aj))))))))) (dv 5) (fun _ _=>rfl)) (ae (aJ (dQ (ae (dv 4) (ae (dv 4) (ae ah (ae (dv 4) (ae ah (ae (dv 4) (ae ah (ae (dv 4) aj))))))))) (dv 5) (fun _ _=>rfl)) aj)))))))))),fun ds Z Qd h=>vQ h⟩)
theorem wD:aM ["_law_d","_law_x","_law_y"] ["_law_d","_law_x","_law_y"] (aB dF):=by walk_at "s"
theorem xG(T:TX e)(bI:gG e):oB e:=by
 have S:=wD
 exact T.Bg.okD S (fun ds Z Q h=>CH h) (fun cdv A outer s H E hr=>⟨oE,(au (aI (ao bI (hr.mono ⋯) rfl T.iM T.i5 T.i4 (ae (bb (bz (aJ (dv 1) ah (fun _ _=>rfl)) (aJ (dv 2) ah (fun _ _=>rfl))) (bz (bz (dv 0) (aJ (dv 1) ah (fun _ _=>rfl))) (aJ (dv 2) ah (fun _ _=>rfl)))) (ae (bb (bz (aJ (dv 1) ah (fun _ _=>rfl)) (aJ (dv 2) ah (fun _ _=>rfl))) (bz (aJ (dv 1) ah (fun _ _=>rfl)) (aJ (dv 2) ah (fun _ _=>rfl)))) (ae (bz (aJ (dv 1) ah (fun _ _=>rfl)) (aJ (dv 2) ah (fun _ _=>rfl))) aj)))))),fun ds Z Qd h=>wZ h⟩)
theorem LU:aM ["x","y"] ["x","y"] (aB rp):=by walk_at "s"
theorem cA(T:TX e)(vL:yy e):GI e:=by
 have S:=LU
 exact T.MU.okD S (fun ds Z Q h=>u9 h) (fun cdv A outer s H E hr=>⟨An,(au (aI (ao vL (hr.mono ⋯) rfl T.Iv T.Ke T.J2 (ae (bb (bz (aJ (dv 0) ah (fun _ _=>rfl)) (aJ (dv 1) ah (fun _ _=>rfl))) (bz (aJ (dv 1) ah (fun _ _=>rfl)) (aJ (dv 0) ah (fun _ _=>rfl)))) (ae (bb (bz (aJ (dv 0) ah (fun _ _=>rfl)) (aJ (dv 1) ah (fun _ _=>rfl))) (bz (aJ (dv 1) ah (fun _ _=>rfl)) (aJ (dv 0) ah (fun _ _=>rfl)))) (ae (bz (aJ (dv 0) ah (fun _ _=>rfl)) (aJ (dv 1) ah (fun _ _=>rfl))) aj)))))),fun ds Z Qd h=>EZ h⟩)
theorem oP:aM ["d","thing"] ["d","thing"] (aB bN):=by walk_at "s"
theorem pq(T:TX e)(bJ:ig e)(fK:oU e):d7 e:=by
 have S:=oP
 exact T.qo.okD S (fun ds Z Q h=>zQ h) (fun cdv A outer s H E hr=>⟨d9,(au (aI (ky (ao bJ (hr.mono ⋯) rfl T.gI T.gD T.gJ (ae (dv 1) aj)) (kU (fo (cK hr.units) bP (ao fK (hr.mono ⋯) rfl T.rW T.rZ T.rD (ae (dv 0) (ae (dv 1) aj))) ah (aS _)))))),fun ds Z Qd h=>o9 h⟩)
theorem tV:aM ["d","found","marks","x","place"] ["d","found"] (aB cD):=by walk_at "s"
theorem tO(T:TX e)(jG:mG e):lR e:=by
 have S:=tV
 exact EA (T.wA.okD S (fun ds Z Q h=>yT h) (fun cdv A outer s H E hr=>⟨gT,(ak (aU (i:=2) S.nd rfl (Or.inl rfl) (nR aj))
  (ak (gR PassesOwn.never rfl (gb (dv 1)) (aw (i:=3) S.nd rfl (Or.inl rfl)) (ak (aU (i:=4) S.nd rfl (Or.inl rfl) (ao jG (hr.mono ⋯) rfl T.wG T.xA T.xS (ae (dv 0) (ae (dv 2) (ae (dv 3) aj)))))
  (au (bO (DW.dt (gY (aY (cK hr.units) bP (dv 4) (gL rfl T.jf (ae (dv 2) aj)) (aS _)) (iF (aY (oO hr.units) bP (aJ (dv 2) (dv 4) (fun _ _=>rfl)) (dv 3) (aS _))))) (au (gv (Hn (dv 2) (dv 4) (dv 3)))) ba))))
  (au (aI (dv 2))))),fun ds Z Qd h=>tT h⟩)) (fun ds Z Qd h=>rB h)
theorem yX:aM ["_law_sides_here","_law_found","_law_side_here"] ["_law_sides_here"] (aB eJ):=by walk_at "s"
theorem As(T:TX e)(aZ:du e):qC e:=by
 have S:=yX
 exact EA (T.Bu.okD S (fun ds Z Q h=>BK h) (fun cdv A outer s H E hr=>⟨lh,(ak (aU (i:=1) S.nd rfl (Or.inl rfl) (nR (ae (aK (ae ah (ae ah (ae ah aj)))) aj)))
  (ak (gR PassesOwn.never rfl (gb (dv 0)) (aw (i:=2) S.nd rfl (Or.inl rfl)) (au (gv (iy (dv 1) (ao aZ (hr.mono ⋯) rfl T.cH T.cG T.cF (ae (aJ (dv 1) (kI ah) (fun _ _=>rfl)) (ae (dv 2) aj)))))))
  (au (aI (dv 1))))),fun ds Z Qd h=>Am h⟩)) (fun ds Z Qd h=>xN h)
theorem xn:aM ["_law_bag_here","_law_d","_law_many","_law_way"] ["_law_bag_here","_law_d","_law_many"] (aB dJ):=by walk_at "s"
theorem wO(T:TX e)(av:bF e)(jm:pX e):nZ e:=by
 have S:=xn
 exact T.Br.okD S (fun ds Z Q h=>Cb h) (fun cdv A outer s H E hr=>⟨jU,(ak (aU (i:=3) S.nd rfl (Or.inr rfl) (ao (bj av @aT) (hr.mono ⋯) rfl T.aF T.aE T.aG (ae (dv 0) (ae ah aj))))
  (ak (bO (aY (cK hr.units) bP (ao (bj av @aT) (hr.mono ⋯) rfl T.aF T.aE T.aG (ae (dv 0) (ae ah aj))) ah (aS _)) (au (aI (Nf (dQ (ae (ao jm (hr.mono ⋯) rfl T.sV T.tp T.tD (ae (dv 0) (ae (dv 1) (ae (dv 3) aj)))) aj)) (dv 2)))) ba)
  (au (aI (Ct (N':=["_law_k","_law_bag_here","_law_d","_law_way"]) (cap:=[none,some 0,some 1,some 3]) rfl (nQ rfl T.hZ (ae (dv 2) aj)) (fun _ _ _=>(aw (i:=0) (show List.Nodup (["_law_k","_law_bag_here","_law_d","_law_way"]:List Str) by decide +kernel) rfl (Or.inl rfl))) (fun _ _ _=>eV) (fun _ _ _=>(ao jm (hr.mono ⋯) rfl T.sV T.tp T.tD (ae (dv 1) (ae (dv 2) (ae (dv 3) aj))))) rfl nofun rfl nofun (by walk_at "cl") (fe rfl) rfl (dU ⟨sC,⟨sC,⟨sC,trivial⟩⟩⟩)))))),fun ds Z Qd h=>w6 h⟩)
theorem zR:aM ["_law_x","_law_y"] ["_law_x","_law_y"] (aB eL):=by walk_at "s"
theorem Bi(T:TX e)(aZ:du e)(bQ:gg e):qP e:=by
 have S:=zR
 exact T.C2.okD S (fun ds Z Q h=>EJ h) (fun cdv A outer s H E hr=>⟨kE,(au (aI (ao aZ (hr.mono ⋯) rfl T.cH T.cG T.cF (ae (dv 0) (ae (ao bQ (hr.mono ⋯) rfl T.kP T.k7 T.kM (ae (dv 1) aj)) aj))))),fun ds Z Qd h=>zv h⟩)
theorem xW:aM ["_law_bag_here","_law_d","_law_laying_here","_law_width","_law_height","_law_tiles","_law_half","_law_found","_law_turn","_law_x","_law_y","_law_w","_law_h","_law_parts","_law_across","_law_up"] ["_law_bag_here","_law_d","_law_laying_here"] (aB dD):=by walk_at "s"
theorem xM(T:TX e)(aZ:du e)(gh:mK e)(av:bF e)(hJ:oB e):ou e:=by
 have S:=xW
 exact Gb (T.Bm.okD S (fun ds Z Q h=>zY h) (fun cdv A outer s H E hr=>⟨jI,(ak (fq (dv 2) (bZ (n:=3) rfl (ax (aw (i:=3) S.nd rfl (Or.inl rfl)) (ax (aw (i:=4) S.nd rfl (Or.inl rfl)) (ax (aw (i:=5) S.nd rfl (Or.inl rfl)) bH)))))
  (ak (aU (i:=6) S.nd rfl (Or.inl rfl) (aK (ae ah (ae ah (ae ah aj)))))
  (ak (aU (i:=7) S.nd rfl (Or.inl rfl) (nR (ae (aK (ae (aK (ae ah (ae ah (ae ah aj)))) (ae (aK (ae ah (ae ah (ae ah aj)))) aj))) (ae (aK (ae (dv 3) (ae (dv 4) aj))) (ae (aK (ae (ao aZ (hr.mono ⋯) rfl T.cH T.cG T.cF (ae (dv 3) (ae (dv 6) aj))) (ae (dv 4) aj))) (ae (aK (ae (dv 3) (ae (aK (ae (kI ah) (ae ah (ae ah aj)))) aj))) aj))))))
  (ak (gv (iy (dv 7) (aK (ae (ao gh (hr.mono ⋯) rfl T.oA T.oi T.n8 (ae (dv 0) aj)) (ae (ao gh (hr.mono ⋯) rfl T.oA T.oi T.n8 (ae (dv 0) aj)) aj)))))
  (ak (gR PassesOwn.never rfl (nQ rfl T.hZ (ae ah aj)) (aw (i:=8) S.nd rfl (Or.inl rfl)) (ak (fq (aJ (dv 5) (ao (bj av @aT) (hr.mono ⋯) rfl T.aF T.aE T.aG (ae (dv 0) (ae (gL rfl T.jf (ae (dv 5) aj)) aj))) (fun _ _=>rfl)) (bZ (n:=4) rfl (ax (aw (i:=9) S.nd rfl (Or.inl rfl)) (ax (aw (i:=10) S.nd rfl (Or.inl rfl)) (ax (aw (i:=11) S.nd rfl (Or.inl rfl)) (ax (aw (i:=12) S.nd rfl (Or.inl rfl)) bH))))))
  (ak (aU (i:=13) S.nd rfl (Or.inl rfl) (dQ (ae (aK (ae ah (ae ah (ae ah aj)))) (ae (dv 6) (ae (aK (ae ah (ae ah (ae ah aj)))) (ae (aK (ae ah (ae ah (ae ah aj)))) aj))))))
  (ak (mH (i:=14) (j:=15) rfl S.nd rfl rfl ⋯ rfl rfl (ae (aJ (dv 13) (ao (bj av @aT) (hr.mono ⋯) rfl T.aF T.aE T.aG (ae (dv 0) (ae ah aj))) (fun _ _=>rfl)) (ae (aJ (dv 13) (ao (bj av @aT) (hr.mono ⋯) rfl T.aF T.aE T.aG (ae (dv 0) (ae ah aj))) (fun _ _=>rfl)) aj)) rfl)
  (au (gv (iy (dv 7) (aK (ae (ao aZ (hr.mono ⋯) rfl T.cH T.cG T.cF (ae (dv 9) (ae (ao hJ (hr.mono ⋯) rfl T.qc T.pH T.qM (ae (dv 1) (ae (dv 11) (ae (dv 14) aj)))) aj))) (ae (ao aZ (hr.mono ⋯) rfl T.cH T.cG T.cF (ae (dv 10) (ae (ao hJ (hr.mono ⋯) rfl T.qc T.pH T.qM (ae (dv 1) (ae (dv 12) (ae (dv 15) aj)))) aj))) aj))))))))))
  (au (aI (dv 7)))))))),fun ds Z Qd h=>xV h⟩)) (fun ds Z Qd h=>wu h)
theorem wL:aM ["_law_d","_law_x","_law_y"] ["_law_d","_law_x","_law_y"] (aB dO):=by walk_at "s"
theorem xl(T:TX e)(eE:lD e)(aZ:du e)(bQ:gg e):nY e:=by
 have S:=wL
 exact T.Ao.okD S (fun ds Z Q h=>Dq h) (fun cdv A outer s H E hr=>⟨jM,(au (aI (fo oF fD (ao eE (hr.mono ⋯) rfl T.sO T.sZ T.sW (ae (dv 0) (ae (ao aZ (hr.mono ⋯) rfl T.cH T.cG T.cF (ae (dv 2) (ae (ao bQ (hr.mono ⋯) rfl T.kP T.k7 T.kM (ae (dv 1) aj)) aj))) aj))) ah (aS _)))),fun ds Z Qd h=>xB h⟩)
theorem El:aM ["d","thing","x","y","width","height"] ["d","thing"] (aB ix):=by walk_at "s"
theorem DZ(T:TX e)(bJ:ig e)(fK:oU e)(bB:d7 e):vW e:=by
 have S:=El
 exact T.Hl.okD S (fun ds Z Q h=>D7 h) (fun cdv A outer s H E hr=>⟨oZ,(ak (bO (DW.dt (gY (di (bY (mD (kit_tuple _) rfl T.bR rfl T.nF PyProof.Rows.Boot.«tuple» (dv 1)))) (iF (aY (oO hr.units) bP (gL rfl T.jf (ae (dv 1) aj)) ah (aS _))))) (au (aI lP)) ba)
  (ak (fq (dv 1) (bZ (n:=4) rfl (ax (aw (i:=2) S.nd rfl (Or.inl rfl)) (ax (aw (i:=3) S.nd rfl (Or.inl rfl)) (ax (aw (i:=4) S.nd rfl (Or.inl rfl)) (ax (aw (i:=5) S.nd rfl (Or.inl rfl)) bH))))))
  (ak (bO (DW.dt (gY (di (bY (ao bJ (hr.mono ⋯) rfl T.gI T.gD T.gJ (ae (dv 2) aj)))) (gY (di (bY (ao bJ (hr.mono ⋯) rfl T.gI T.gD T.gJ (ae (dv 3) aj)))) (gY (aY mw fD (ao fK (hr.mono ⋯) rfl T.rW T.rZ T.rD (ae (dv 0) (ae (dv 2) aj))) ah (aS _)) (iF (aY mw fD (ao fK (hr.mono ⋯) rfl T.rW T.rZ T.rD (ae (dv 0) (ae (dv 3) aj))) ah (aS _))))))) (au (aI lP)) ba)
  (au (aI (ky (ao bB (hr.mono ⋯) rfl T.da T.dh T.dg (ae (dv 0) (ae (dv 4) aj))) (kU (ao bB (hr.mono ⋯) rfl T.da T.dh T.dg (ae (dv 0) (ae (dv 5) aj)))))))))),fun ds Z Qd h=>En h⟩)
theorem Bc:aM ["tile","x","y","width","height"] ["tile"] (aB eK):=by walk_at "s"
theorem yK(T:TX e)(Ab:GI e):kL e:=by
 have S:=Bc
 exact T.Cv.okD S (fun ds Z Q h=>w8 h) (fun cdv A outer s H E hr=>⟨ll,(ak (fq (dv 0) (bZ (n:=4) rfl (ax (aw (i:=1) S.nd rfl (Or.inl rfl)) (ax (aw (i:=2) S.nd rfl (Or.inl rfl)) (ax (aw (i:=3) S.nd rfl (Or.inl rfl)) (ax (aw (i:=4) S.nd rfl (Or.inl rfl)) bH))))))
  (au (aI (aK (ae (dv 1) (ae (ao Ab (hr.mono ⋯) rfl T.Jt T.Jo T.Kd (ae (dv 1) (ae (dv 3) aj))) (ae (dv 2) (ae (ao Ab (hr.mono ⋯) rfl T.Jt T.Jo T.Kd (ae (dv 2) (ae (dv 4) aj))) aj)))))))),fun ds Z Qd h=>Av h⟩)
theorem xD:aM ["_law_bag_here","_law_d","_law_columns","_law_rows","_law_blocks_here","_law_xs","_law_ys","_law_tiles","_law_column","_law_row","_law_wide","_law_high","_law_width","_law_height"] ["_law_bag_here","_law_d","_law_columns","_law_rows","_law_blocks_here"] (aB dy):=by walk_at "s"
theorem xx(T:TX e)(jg:qC e)(ia:nZ e)(lu:oq e)(ji:qP e):oD e:=by
 have S:=xD
 exact T.Ba.okD S (fun ds Z Q h=>zB h) (fun cdv A outer s H E hr=>⟨jP,(ak (mH (i:=5) (j:=6) rfl S.nd rfl rfl ⋯ rfl rfl (ae (ao jg (hr.mono ⋯) rfl T.sE T.sY T.sX (ae (ao ia (hr.mono ⋯) rfl T.pQ T.qm T.pT (ae (dv 0) (ae (dv 1) (ae (dv 2) aj)))) aj)) (ae (ao jg (hr.mono ⋯) rfl T.sE T.sY T.sX (ae (ao ia (hr.mono ⋯) rfl T.pQ T.qm T.pT (ae (dv 0) (ae (dv 1) (ae (dv 3) aj)))) aj)) aj)) rfl)
  (ak (aU (i:=7) S.nd rfl (Or.inl rfl) (nR aj))
  (ak (gR PassesOwn.never rfl (gb (ao lu (hr.mono ⋯) rfl T.Bf T.Aj T.AK (ae (dv 0) (ae (dv 4) aj)))) (bZ (n:=4) rfl (ax (aw (i:=8) S.nd rfl (Or.inl rfl)) (ax (aw (i:=9) S.nd rfl (Or.inl rfl)) (ax (aw (i:=10) S.nd rfl (Or.inl rfl)) (ax (aw (i:=11) S.nd rfl (Or.inl rfl)) bH))))) (ak (mH (i:=12) (j:=13) rfl S.nd rfl rfl ⋯ rfl rfl (ae (ao ji (hr.mono ⋯) rfl T.sN T.tF T.sI (ae (aJ (dv 5) (bb (dv 8) (dv 10)) (fun _ _=>rfl)) (ae (aJ (dv 5) (dv 8) (fun _ _=>rfl)) aj))) (ae (ao ji (hr.mono ⋯) rfl T.sN T.tF T.sI (ae (aJ (dv 6) (bb (dv 9) (dv 11)) (fun _ _=>rfl)) (ae (aJ (dv 6) (dv 9) (fun _ _=>rfl)) aj))) aj)) rfl)
  (au (gv (iy (dv 7) (aK (ae (aJ (dv 5) (dv 8) (fun _ _=>rfl)) (ae (aJ (dv 6) (dv 9) (fun _ _=>rfl)) (ae (dv 12) (ae (dv 13) aj))))))))))
  (au (aI (aK (ae (aJ (dv 5) (kI ah) (fun _ _=>rfl)) (ae (aJ (dv 6) (kI ah) (fun _ _=>rfl)) (ae (BY rfl T.nF (ae (dv 7) aj)) aj))))))))),fun ds Z Qd h=>xQ h⟩)
theorem xm:aM ["_law_d","_law_tile","_law_x","_law_y","_law_left","_law_low_here","_law_w","_law_h"] ["_law_d","_law_tile","_law_x","_law_y"] (aB dI):=by walk_at "s"
theorem xK(T:TX e)(dE:nY e)(aZ:du e):n4 e:=by
 have S:=xm
 exact T.yS.okD S (fun ds Z Q h=>DQ h) (fun cdv A outer s H E hr=>⟨jL,(ak (fq (dv 1) (bZ (n:=4) rfl (ax (aw (i:=4) S.nd rfl (Or.inl rfl)) (ax (aw (i:=5) S.nd rfl (Or.inl rfl)) (ax (aw (i:=6) S.nd rfl (Or.inl rfl)) (ax (aw (i:=7) S.nd rfl (Or.inl rfl)) bH))))))
  (ak (bO (DW.dt (gY (bY (ao dE (hr.mono ⋯) rfl T.il T.iq T.ib (ae (dv 0) (ae (dv 2) (ae (dv 4) aj))))) (iF (bY (ao dE (hr.mono ⋯) rfl T.il T.iq T.ib (ae (dv 0) (ae (dv 3) (ae (dv 5) aj)))))))) (au (aI lP)) ba)
  (au (aI (ky (uX (ao dE (hr.mono ⋯) rfl T.il T.iq T.ib (ae (dv 0) (ae (ao aZ (hr.mono ⋯) rfl T.cH T.cG T.cF (ae (dv 4) (ae (dv 6) aj))) (ae (dv 2) aj))))) (kU (uX (ao dE (hr.mono ⋯) rfl T.il T.iq T.ib (ae (dv 0) (ae (ao aZ (hr.mono ⋯) rfl T.cH T.cG T.cF (ae (dv 5) (ae (dv 7) aj))) (ae (dv 3) aj))))))))))),fun ds Z Qd h=>w9 h⟩)
theorem Dm:aM ["d","thing","width","height","tiles"] ["d","thing"] (aB fW):=by walk_at "s"
theorem BS(T:TX e)(bB:d7 e)(rn:vW e):sR e:=by
 have S:=Dm
 exact T.Ek.okD S (fun ds Z Q h=>C0 h) (fun cdv A outer s H E hr=>⟨mL,(ak (bO (DW.dt (gY (di (bY (mD (kit_tuple _) rfl T.bR rfl T.nF PyProof.Rows.Boot.«tuple» (dv 1)))) (iF (aY (oO hr.units) bP (gL rfl T.jf (ae (dv 1) aj)) ah (aS _))))) (au (aI lP)) ba)
  (ak (fq (dv 1) (bZ (n:=3) rfl (ax (aw (i:=2) S.nd rfl (Or.inl rfl)) (ax (aw (i:=3) S.nd rfl (Or.inl rfl)) (ax (aw (i:=4) S.nd rfl (Or.inl rfl)) bH)))))
  (ak (bO (DW.dt (gY (di (bY (ao bB (hr.mono ⋯) rfl T.da T.dh T.dg (ae (dv 0) (ae (dv 2) aj))))) (iF (di (bY (ao bB (hr.mono ⋯) rfl T.da T.dh T.dg (ae (dv 0) (ae (dv 3) aj)))))))) (au (aI lP)) ba)
  (ak (bO (DW.dt (gY (di (bY (mD (kit_tuple _) rfl T.bR rfl T.nF PyProof.Rows.Boot.«tuple» (dv 4)))) (gY (aY mw fD (gL rfl T.jf (ae (dv 4) aj)) ah (aS _)) (iF (aY oF fD (gL rfl T.jf (ae (dv 4) aj)) (Fs (u:=.int 60) rfl T.zr ⟨_,rfl⟩ (fun _ _ _=>Rp.int 60)) (aS _)))))) (au (aI lP)) ba)
  (au (aI (Kj rfl rfl T.Mv (ae (vt (N':=["tile","d"]) (cap:=[none,some 0]) rfl (Pc (A7 (dv 4))) (fun _ _ _=>(aw (i:=0) (show List.Nodup (["tile","d"]:List Str) by decide +kernel) rfl (Or.inl rfl))) (fun _ _ _=>eV) (fun _ _ _=>(ao rn (hr.mono ⋯) rfl T.HI T.HS T.GO (ae (dv 1) (ae (dv 0) aj)))) rfl nofun rfl nofun (by walk_at "cl") (fe rfl) rfl (dU ⟨sC,trivial⟩)) aj)))))))),fun ds Z Qd h=>CS h⟩)
theorem xP:aM ["d","tile","x","y","left","right","bottom","top","beyond"] ["d","tile","x","y"] (aB dq):=by walk_at "s"
theorem wU(T:TX e)(eA:kL e)(cJ:ma e):nX e:=by
 have S:=xP
 exact T.AV.okD S (fun ds Z Q h=>qN h) (fun cdv A outer s H E hr=>⟨jA,(ak (fq (ao eA (hr.mono ⋯) rfl T.tm T.sD T.sP (ae (dv 1) aj)) (bZ (n:=4) rfl (ax (aw (i:=4) S.nd rfl (Or.inl rfl)) (ax (aw (i:=5) S.nd rfl (Or.inl rfl)) (ax (aw (i:=6) S.nd rfl (Or.inl rfl)) (ax (aw (i:=7) S.nd rfl (Or.inl rfl)) bH))))))
  (ak (aU (i:=8) S.nd rfl (Or.inl rfl) (JW (ao cJ (hr.mono ⋯) rfl T.iT T.iP T.iS (ae (dv 0) (ae (dv 4) (ae (dv 2) aj)))) (JW (ao cJ (hr.mono ⋯) rfl T.iT T.iP T.iS (ae (dv 0) (ae (dv 2) (ae (dv 5) aj)))) (JW (ao cJ (hr.mono ⋯) rfl T.iT T.iP T.iS (ae (dv 0) (ae (dv 6) (ae (dv 3) aj)))) (kU (ao cJ (hr.mono ⋯) rfl T.iT T.iP T.iS (ae (dv 0) (ae (dv 3) (ae (dv 7) aj)))))))))
  (au (aI (uX (dv 8)))))),fun ds Z Qd h=>wM h⟩)
theorem vM:aM ["_law_bag_here","_law_d","_law_columns","_law_rows","_law_blocks_here"] ["_law_bag_here","_law_d"] (aB cS):=by walk_at "s"
theorem wx(T:TX e)(av:bF e)(gS:kf e)(hV:oD e)(eX:iH e)(jH:mW e):nA e:=by
 have S:=vM
 exact T.xo.okD S (fun ds Z Q h=>xi h) (fun cdv A outer s H E hr=>⟨iK,(ak (bO (aY (cK hr.units) bP (ao (bj av @aT) (hr.mono ⋯) rfl T.aF T.aE T.aG (ae (dv 0) (ae ah aj))) ah (aS _)) (ak (fq (ao gS (hr.mono ⋯) rfl T.tX T.tW T.tQ (ae (dv 0) aj)) (bZ (n:=3) rfl (ax (aw (i:=2) S.nd rfl (Or.inl rfl)) (ax (aw (i:=3) S.nd rfl (Or.inl rfl)) (ax (aw (i:=4) S.nd rfl (Or.inl rfl)) bH)))))
  (au (aI (ao hV (hr.mono ⋯) rfl T.pE T.qh T.pB (ae (dv 0) (ae (dv 1) (ae (dv 2) (ae (dv 3) (ae (dv 4) aj))))))))) ba)
  (ak (fq (ao eX (hr.mono ⋯) rfl T.qD T.pC T.qE (ae (dv 0) aj)) (bZ (n:=2) rfl (ax (aw (i:=2) S.nd rfl (Or.inl rfl)) (ax (aw (i:=3) S.nd rfl (Or.inl rfl)) bH))))
  (au (aI (ao hV (hr.mono ⋯) rfl T.pE T.qh T.pB (ae (dv 0) (ae (dv 1) (ae (dv 2) (ae (dv 3) (ae (ao jH (hr.mono ⋯) rfl T.xT T.xb T.xa (ae (dv 0) (ae (dv 2) (ae (dv 3) aj)))) aj)))))))))),fun ds Z Qd h=>uS h⟩)
theorem Aw:aM ["d","thing","width","height","tiles","bounds","across","upward"] ["d","thing"] (aB eB):=by walk_at "s"
theorem yV(T:TX e)(o7:sR e)(eA:kL e)(fz:lR e)(eT:lM e)(jy:nz e):pF e:=by
 have S:=Aw
 exact T.Cy.okD S (fun ds Z Q h=>zP h) (fun cdv A outer s H E hr=>⟨kJ,(ak (bO (di (bY (ao o7 (hr.mono ⋯) rfl T.Eu T.DN T.EO (ae (dv 0) (ae (dv 1) aj))))) (au (aI lP)) ba)
  (ak (fq (dv 1) (bZ (n:=3) rfl (ax (aw (i:=2) S.nd rfl (Or.inl rfl)) (ax (aw (i:=3) S.nd rfl (Or.inl rfl)) (ax (aw (i:=4) S.nd rfl (Or.inl rfl)) bH)))))
  (ak (ug (i:=5) (N':=["tile"]) (cap:=[none]) S.nd rfl rfl rfl (A7 (dv 4)) (fun _ _ _=>(aw (i:=0) (show List.Nodup (["tile"]:List Str) by decide +kernel) rfl (Or.inl rfl))) (fun _ _ _=>eV) (fun _ _ _=>(ao eA (hr.mono ⋯) rfl T.tm T.sD T.sP (ae (dv 0) aj))) rfl nofun rfl nofun (by walk_at "cl") (fe rfl) rfl (dU trivial))
  (ak (aU (i:=6) S.nd rfl (Or.inl rfl) (ao fz (hr.mono ⋯) rfl T.mZ T.mB T.nh (ae (dv 0) (ae (Cc (N':=["left","right","bottom","top","x"]) (cap:=[none,none,none,none,none]) rfl (gb (dv 5)) (fun _ _ _=>(bZ (n:=4) rfl (ax (aw (i:=0) (show List.Nodup (["left","right","bottom","top","x"]:List Str) by decide +kernel) rfl (Or.inl rfl)) (ax (aw (i:=1) (show List.Nodup (["left","right","bottom","top","x"]:List Str) by decide +kernel) rfl (Or.inl rfl)) (ax (aw (i:=2) (show List.Nodup (["left","right","bottom","top","x"]:List Str) by decide +kernel) rfl (Or.inl rfl)) (ax (aw (i:=3) (show List.Nodup (["left","right","bottom","top","x"]:List Str) by decide +kernel) rfl (Or.inl rfl)) bH)))))) (fun _ _ _=>(A7 (aK (ae (dv 0) (ae (dv 1) aj))))) (fun _ _ _=>(aw (i:=4) (show List.Nodup (["left","right","bottom","top","x"]:List Str) by decide +kernel) rfl (Or.inl rfl))) (fun _ _ _=>(dv 4)) rfl nofun rfl nofun (by walk_at "cl") (fe rfl) ym rfl (dU trivial)) aj))))
  (ak (aU (i:=7) S.nd rfl (Or.inl rfl) (ao fz (hr.mono ⋯) rfl T.mZ T.mB T.nh (ae (dv 0) (ae (Cc (N':=["left","right","bottom","top","y"]) (cap:=[none,none,none,none,none]) rfl (gb (dv 5)) (fun _ _ _=>(bZ (n:=4) rfl (ax (aw (i:=0) (show List.Nodup (["left","right","bottom","top","y"]:List Str) by decide +kernel) rfl (Or.inl rfl)) (ax (aw (i:=1) (show List.Nodup (["left","right","bottom","top","y"]:List Str) by decide +kernel) rfl (Or.inl rfl)) (ax (aw (i:=2) (show List.Nodup (["left","right","bottom","top","y"]:List Str) by decide +kernel) rfl (Or.inl rfl)) (ax (aw (i:=3) (show List.Nodup (["left","right","bottom","top","y"]:List Str) by decide +kernel) rfl (Or.inl rfl)) bH)))))) (fun _ _ _=>(A7 (aK (ae (dv 2) (ae (dv 3) aj))))) (fun _ _ _=>(aw (i:=4) (show List.Nodup (["left","right","bottom","top","y"]:List Str) by decide +kernel) rfl (Or.inl rfl))) (fun _ _ _=>(dv 4)) rfl nofun rfl nofun (by walk_at "cl") (fe rfl) ym rfl (dU trivial)) aj))))
  (au (aI (ky (ao eT (hr.mono ⋯) rfl T.mP T.nt T.mR (ae (dv 6) (ae (dv 2) aj))) (ky (ao eT (hr.mono ⋯) rfl T.mP T.nt T.mR (ae (dv 7) (ae (dv 3) aj))) (kU (ao jy (hr.mono ⋯) rfl T.xH T.wN T.xg (ae (dv 5) (ae (dv 6) (ae (dv 7) aj)))))))))))))),fun ds Z Qd h=>y8 h⟩)
theorem qF:aM ["d","thing"] ["d","thing"] (aB bU):=by walk_at "s"
theorem qg(T:TX e)(mf:pF e):jb e:=by
 have S:=qF
 exact T.qZ.okD S (fun ds Z Q h=>wQ h) (fun cdv A outer s H E hr=>⟨ff,(au (bO (di (bY (ao mf (hr.mono ⋯) rfl T.Di T.Cp T.BF (ae (dv 0) (ae (dv 1) aj))))) (au va) ba)),fun ds Z Qd h=>qL h⟩)
theorem C4:aM ["d","laying","x","y"] ["d","laying","x","y"] (aB fV):=by walk_at "s"
theorem BW(T:TX e)(fN:jb e)(bJ:ig e)(kH:nX e):sH e:=by
 have S:=C4
 exact T.Ed.okD S (fun ds Z Q h=>xw h) (fun cdv A outer s H E hr=>⟨mO,(ak (gv (ao fN (hr.mono ⋯) rfl T.rH T.rE T.rX (ae (dv 0) (ae (dv 1) aj))))
  (ak (bO (DW.dt (gY (di (bY (ao bJ (hr.mono ⋯) rfl T.gI T.gD T.gJ (ae (dv 2) aj)))) (iF (di (bY (ao bJ (hr.mono ⋯) rfl T.gI T.gD T.gJ (ae (dv 3) aj))))))) (au va) ba)
  (au (aI (HX (N':=["place","tile","d","x","y"]) (cap:=[none,none,some 0,some 2,some 3]) rfl (Cj rfl T.jv (ae (aJ (dv 1) ah (fun _ _=>rfl)) aj)) (fun _ _ _=>(bZ (n:=2) rfl (ax (aw (i:=0) (show List.Nodup (["place","tile","d","x","y"]:List Str) by decide +kernel) rfl (Or.inl rfl)) (ax (aw (i:=1) (show List.Nodup (["place","tile","d","x","y"]:List Str) by decide +kernel) rfl (Or.inl rfl)) bH)))) (fun _ _ _=>(vw (bY (ao kH (hr.mono ⋯) rfl T.y9 T.A9 T.A1 (ae (dv 2) (ae (dv 1) (ae (dv 3) (ae (dv 4) aj)))))))) (fun _ _ _=>(dv 0)) rfl nofun rfl nofun (by walk_at "cl") (fe rfl) rfl (dU ⟨sC,⟨sC,⟨sC,trivial⟩⟩⟩)))))),fun ds Z Qd h=>CL h⟩)
theorem MP:aM ["_law_script","_law_k","_law_bag_here","_law_d","_law_laying_here","_law_spots_here","_law_x","_law_y","_law_due","_law_told","_law_cells","_law_four"] ["_law_script"] (aB og):=by walk_at "s"
theorem M3(T:TX e)(pf:sS e)(ml:qx e)(jB:nA e)(lB:ou e)(kW:n4 e)(kF:sH e)(gM:j5 e):Iw e:=by
 have S:=MP
 exact T.OO.okD S (fun ds Z Q h=>G8 h) (fun cdv A outer s H E hr=>⟨Em,(ak (gR PassesOwn.never rfl (nQ rfl T.hZ (ae (Nj rfl rfl T.ON (ae ah (ae (DU rfl rfl T.JV (ae ah (ae (LS rfl T.jf (ae (dv 0) aj)) aj))) aj))) aj)) (aw (i:=1) S.nd rfl (Or.inl rfl)) (ak (aU (i:=2) S.nd rfl (Or.inl rfl) (ao pf (hr.mono ⋯) rfl T.DF T.D0 T.DB (ae (dv 0) (ae (dv 1) aj))))
  (ak (aU (i:=3) S.nd rfl (Or.inr rfl) (ao ml (hr.mono ⋯) rfl T.Ck T.Ci T.Dg (ae (dv 2) aj)))
  (ak (aU (i:=4) S.nd rfl (Or.inl rfl) (ao jB (hr.mono ⋯) rfl T.xU T.xX T.xc (ae (dv 2) (ae (dv 3) aj))))
  (ak (aU (i:=5) S.nd rfl (Or.inl rfl) (ao lB (hr.mono ⋯) rfl T.Ar T.zl T.Af (ae (dv 2) (ae (dv 3) (ae (dv 4) aj)))))
  (au (gR PassesOwn.never rfl (gb (NK (dv 5) (Oi (dv 5)))) (bZ (n:=2) rfl (ax (aw (i:=6) S.nd rfl (Or.inr rfl)) (ax (aw (i:=7) S.nd rfl (Or.inr rfl)) bH))) (ak (ug (i:=8) (N':=["_law_place","_law_tile","_law_d","_law_x","_law_y"]) (cap:=[none,none,some 3,some 6,some 7]) S.nd rfl rfl rfl (Cj rfl T.jv (ae (Ot (dv 4) ah (fun _ _=>rfl)) aj)) (fun _ _ _=>(bZ (n:=2) rfl (ax (aw (i:=0) (show List.Nodup (["_law_place","_law_tile","_law_d","_law_x","_law_y"]:List Str) by decide +kernel) rfl (Or.inl rfl)) (ax (aw (i:=1) (show List.Nodup (["_law_place","_law_tile","_law_d","_law_x","_law_y"]:List Str) by decide +kernel) rfl (Or.inl rfl)) bH)))) (fun _ _ _=>(vw (bY (ao kW (hr.mono ⋯) rfl T.Az T.zW T.zu (ae (dv 2) (ae (dv 1) (ae (dv 3) (ae (dv 4) aj)))))))) (fun _ _ _=>(dv 0)) rfl nofun rfl nofun (by walk_at "cl") (fe rfl) rfl (dU ⟨sC,⟨sC,⟨sC,trivial⟩⟩⟩))
  (ak (aU (i:=9) S.nd rfl (Or.inl rfl) (ao kF (hr.mono ⋯) rfl T.vb T.uR T.uT (ae (dv 3) (ae (dv 4) (ae (dv 6) (ae (dv 7) aj))))))
  (ak (bO (DW.dt (gY (di (bY (Kv (IY _) rfl T.bR rfl T.Jz PyProof.Rows.Boot.«list» (dv 9)))) (gY (aY (oO hr.units) Ip (dv 9) (dv 8) (aS _)) (iF (di (bY (Kj rfl rfl T.Mv (ae (vt (N':=["_law_place"]) (cap:=[none]) rfl (P9 (dv 9)) (fun _ _ _=>(aw (i:=0) (show List.Nodup (["_law_place"]:List Str) by decide +kernel) rfl (Or.inl rfl))) (fun _ _ _=>eV) (fun _ _ _=>(ao gM (hr.mono ⋯) rfl T.tP T.tS T.tH (ae (dv 0) aj))) rfl nofun rfl nofun (by walk_at "cl") (fe rfl) rfl (dU trivial)) aj)))))))) (au (aI lP)) ba)
  (ak (gv (iy (dv 9) ah))
  (au (gv (L3 (dv 9)))))))))))))))
  (ak (aU (i:=10) S.nd rfl (Or.inl rfl) (dQ (ae (aK (ae (aK (ae ah (ae ah (ae ah aj)))) (ae (aK (ae ah (ae ah (ae ah aj)))) aj))) (ae (aK (ae (aK (ae ah (ae ah (ae ah aj)))) (ae (aK (ae ah (ae ah (ae ah aj)))) aj))) (ae (aK (ae (aK (ae ah (ae ah (ae ah aj)))) (ae (aK (ae ah (ae ah (ae ah aj)))) aj))) (ae (aK (ae (aK (ae ah (ae ah (ae ah aj)))) (ae (aK (ae ah (ae ah (ae ah aj)))) aj))) aj))))))
  (ak (aU (i:=11) S.nd rfl (Or.inl rfl) (aK (ae (aK (ae ah (ae ah (ae ah aj)))) (ae (aK (ae ah (ae ah (ae ah aj)))) (ae (BY rfl T.nF (ae (vt (N':=["_law_cell"]) (cap:=[none]) rfl (Pc (gb (dv 10))) (fun _ _ _=>(aw (i:=0) (show List.Nodup (["_law_cell"]:List Str) by decide +kernel) rfl (Or.inl rfl))) (fun _ _ _=>eV) (fun _ _ _=>(Ly (dv 0) (aK (ae (aK (ae ah (ae ah (ae ah aj)))) (ae (aK (ae ah (ae ah (ae ah aj)))) aj))))) rfl nofun rfl nofun (by walk_at "cl") (fe rfl) rfl (dU trivial)) aj)) aj)))))
  (au (aI (fo (cK hr.units) Ip (ao kF (hr.mono ⋯) rfl T.vb T.uR T.uT (ae ah (ae (dv 11) (ae (aK (ae ah (ae ah (ae ah aj)))) (ae (aK (ae ah (ae ah (ae ah aj)))) aj))))) (dQ (ae ah (ae ah (ae ah (ae ah aj))))) (aS _))))))),fun ds Z Qd h=>N2 h⟩)
theorem ND(T:TX e):Iw e:=by
 have iO:=CM T
 have dz:=pI T
 have ck:=rJ T
 have eT:=tI T
 have jy:=uC T
 have pf:=Cf T
 have av:=Be T
 have gw:=vC T
 have eE:=yN T
 have bQ:=wC T
 have l7:=Bn T
 have gM:=sf T
 have bT:=qw T dz
 have fK:=Ey T ck
 have cJ:=BO T ck
 have ml:=zj T av
 have gS:=rR T av
 have bI:=B8 T gw
 have lu:=xh T av
 have eX:=oJ T av
 have jH:=vm T av l7
 have bJ:=zk T iO bT
 have vL:=HF T bT
 have jG:=vy T cJ
 have aZ:=zf T bI
 have jm:=y7 T av bI eE bQ
 have gh:=vP T av bI
 have hJ:=xG T bI
 have Ab:=cA T vL
 have bB:=pq T bJ fK
 have fz:=tO T jG
 have jg:=As T aZ
 have ia:=wO T av jm
 have ji:=Bi T aZ bQ
 have lB:=xM T aZ gh av hJ
 have dE:=xl T eE aZ bQ
 have rn:=DZ T bJ fK bB
 have eA:=yK T Ab
 have hV:=xx T jg ia lu ji
 have kW:=xK T dE aZ
 have o7:=BS T bB rn
 have kH:=wU T eA cJ
 have jB:=wx T av gS hV eX jH
 have mf:=yV T o7 eA fz eT jy
 have fN:=qg T mf
 have kF:=BW T fN bJ kH
 exact M3 T pf ml jB lB kW kF gM
end
theorem all_mk{l:PySem.W.OpenLaw}{w:World}{K:PySem.W.Frag}{h:Heap}{mg:Str->Option Value}{fa:Addr}(X:K.In h)(G:h.Ns mainGlobals mg)(hfa:mg "law"=some (.ref fa))
  {f0 c0 f1 c1 f2 c2 f3 c3 f4 c4 f5 c5 f6 c6 f7 c7 f8 c8 f9 c9 f10 c10 f11 c11 f12 c12 f13 c13 f14 c14 f15 c15 f16 c16 f17 c17 f18 c18 f19 c19 f20 c20 f21 c21 f22 c22 f23 c23 f24 c24 f25 c25 f26 c26 f27 c27 f28 c28 f29 c29 f30 c30 f31 c31 f32 c32 f33 c33 f34 c34 f35 c35 f36 c36 f37 c37 f38 c38 f39 c39 f40 c40 f41 c41 f42 c42 f43 c43 f44 c44 f45 c45 f46 c46:Addr} {t0 t1 t2 t3 t4 t5 t6 t7 t8 t9 t10 t11 t12 t13 t14 t15 t16 t17 t18 t19 t20 t21 t22 t23 t24 t25 t26 t27 t28 t29 t30 t31 t32 t33 t34 t35 t36 t37 t38 t39 t40 t41 t42 t43 t44 t45 t46:Tok} {m0 m1 m2 m3 m4 m5 m6 m7 m8 m9 m10 m11 m12 m13 m14 m15 m16 m17 m18 m19 m20 m21 m22 m23 m24 m25 m26 m27 m28 m29 m30 m31 m32 m33 m34 m35 m36 m37 m38 m39 m40 m41 m42 m43 m44 m45 m46:Str} {q0:Tok} {g1:Addr} {go1:Option Addr} {q1a q1b q1c:Tok} {gn1:Nat} {gs1:Array (Option Value)}
  (a0:FQ K "is_whole" fS f0 c0 t0 m0)
  (a1:FQ K "common_divisor" bV f1 c1 t1 m1)
  (a2:FQ K "is_number" eI f2 c2 t2 m2)
  (a3:FQ K "divisor_of_all" bW f3 c3 t3 m3)
  (a4:FQ K "number" j4 f4 c4 t4 m4)
  (a5:FQ K "plus" rp f5 c5 t5 m5)
  (a6:FQ K "sign_of" iA f6 c6 t6 m6)
  (a7:FQ K "sign_of_parts" cm f7 c7 t7 m7)
  (a8:FQ K "is_above" fI f8 c8 t8 m8)
  (a9:FQ K "is_above_nought" bN f9 c9 t9 m9)
  (a10:FQ K "is_tile" ix f10 c10 t10 m10)
  (a11:FQ K "has_form" fW f11 c11 t11 m11)
  (a12:FQ K "bounds_of" eK f12 c12 t12 m12)
  (a13:FQ K "place_among" cQ f13 c13 t13 m13)
  (a14:FQ K "rising_marks" cD f14 c14 t14 m14)
  (a15:FQ K "reaches_just" cC f15 c15 t15 m15)
  (a16:FQ K "covers_once" cR f16 c16 t16 m16)
  (a17:FQ K "is_laying" eB f17 c17 t17 m17)
  (a18:FQ K "must_be_laying" bU f18 c18 t18 m18)
  (a19:FQ K "holds_spot" dq f19 c19 t19 m19)
  (a20:FQ K "tiles_at" fV f20 c20 t20 m20)
  (a21:FQ K "_law_bag" fO f21 c21 t21 m21)
  (a22:FQ K "_law_root" eC f22 c22 t22 m22)
  (a23:FQ K "_law_take" eM f23 c23 t23 m23)
  (a24:FQ K "_law_laying" cS f24 c24 t24 m24)
  (a25:FQ K "_law_pinwheel" cj f25 c25 t25 m25)
  (a26:FQ K "_law_floor" dy f26 c26 t26 m26)
  (a27:FQ K "_law_ends" eJ f27 c27 t27 m27)
  (a28:FQ K "_law_plus" eO f28 c28 t28 m28)
  (a29:FQ K "_law_low" fY f29 c29 t29 m29)
  (a30:FQ K "_law_shared" cN f30 c30 t30 m30)
  (a31:FQ K "_law_sides" dJ f31 c31 t31 m31)
  (a32:FQ K "_law_side" eu f32 c32 t32 m32)
  (a33:FQ K "_law_sign" eG f33 c33 t33 m33)
  (a34:FQ K "_law_minus" dw f34 c34 t34 m34)
  (a35:FQ K "_law_mixed" dA f35 c35 t35 m35)
  (a36:FQ K "_law_less" eL f36 c36 t36 m36)
  (a37:FQ K "_law_many_cells" bM f37 c37 t37 m37)
  (a38:FQ K "_law_blocks" cP f38 c38 t38 m38)
  (a39:FQ K "_law_room" eD f39 c39 t39 m39)
  (a40:FQ K "_law_spots" dD f40 c40 t40 m40)
  (a41:FQ K "_law_number" cO f41 c41 t41 m41)
  (a42:FQ K "_law_times" dF f42 c42 t42 m42)
  (a43:FQ K "_law_is_at" dI f43 c43 t43 m43)
  (a44:FQ K "_law_below" dO f44 c44 t44 m44)
  (a45:FQ K "_law_is_whole" cg f45 c45 t45 m45)
  (a46:FQ K "law" og f46 c46 t46 m46)
  (z0:nsIn K mainGlobals "isinstance"=some none)
  (z1:nsIn K mainGlobals "int"=some none)
  (z2:nsIn K mainGlobals "bool"=some none)
  (z3:nsIn K mainGlobals "abs"=some none)
  (z4:nsIn K mainGlobals "tuple"=some none)
  (z5:nsIn K mainGlobals "len"=some none)
  (z6:nsIn K mainGlobals "all"=some none)
  (z7:nsIn K mainGlobals "set"=some none)
  (z8:nsIn K mainGlobals "range"=some none)
  (z9:nsIn K mainGlobals "enumerate"=some none)
  (z10:nsIn K mainGlobals "list"=some none)
  (z11:nsIn K mainGlobals "min"=some none)
  (z12:nsIn K mainGlobals "max"=some none)
  (v0:nsIn K mainGlobals "MOST_TILES"=some (some (.int 60 q0)))
  (v1:nsIn K mainGlobals "NOUGHT"=some (some (.ref g1))) (w1:K.lookup g1=some ⟨.type "tuple",go1,.seq #[.int 0 q1a,.int 0 q1b,.int 1 q1c] gn1,gs1⟩) :
  ∃fd:FuncData,(∀(s:Shared) (v:Value),BindsTo s fd ⟨[v],[]⟩ [("_law_script",v)])/\∀base:Heap,K.In base->base.Ns mainGlobals mg->bC l.prog w K mg base CX0 10 fa fd ["_law_script"] (spD K wq):=by
 have e:=hfa.symm.trans (mg_of X G a46.1)
 cases e
 have F0:=aW (st:=fS) a0.2.1 a0.2.2.1 a0.2.2.2
 have b0:=F0.binds (ps:=["thing"]) (by walk_at "b")
 have F1:=aW (st:=bV) a1.2.1 a1.2.2.1 a1.2.2.2
 have b1:=F1.binds (ps:=["a","b"]) (by walk_at "b")
 have F2:=aW (st:=eI) a2.2.1 a2.2.2.1 a2.2.2.2
 have b2:=F2.binds (ps:=["thing"]) (by walk_at "b")
 have F3:=aW (st:=bW) a3.2.1 a3.2.2.1 a3.2.2.2
 have b3:=F3.binds (ps:=["a","b","c"]) (by walk_at "b")
 have F4:=aW (st:=j4) a4.2.1 a4.2.2.1 a4.2.2.2
 have b4:=F4.binds (ps:=["a","b","c"]) (by walk_at "b")
 have F5:=aW (st:=rp) a5.2.1 a5.2.2.1 a5.2.2.2
 have b5:=F5.binds (ps:=["x","y"]) (by walk_at "b")
 have F6:=aW (st:=iA) a6.2.1 a6.2.2.1 a6.2.2.2
 have b6:=F6.binds (ps:=["d","x"]) (by walk_at "b")
 have F7:=aW (st:=cm) a7.2.1 a7.2.2.1 a7.2.2.2
 have b7:=F7.binds (ps:=["d","a","b"]) (by walk_at "b")
 have F8:=aW (st:=fI) a8.2.1 a8.2.2.1 a8.2.2.2
 have b8:=F8.binds (ps:=["d","x","y"]) (by walk_at "b")
 have F9:=aW (st:=bN) a9.2.1 a9.2.2.1 a9.2.2.2
 have b9:=F9.binds (ps:=["d","thing"]) (by walk_at "b")
 have F10:=aW (st:=ix) a10.2.1 a10.2.2.1 a10.2.2.2
 have b10:=F10.binds (ps:=["d","thing"]) (by walk_at "b")
 have F11:=aW (st:=fW) a11.2.1 a11.2.2.1 a11.2.2.2
 have b11:=F11.binds (ps:=["d","thing"]) (by walk_at "b")
 have F12:=aW (st:=eK) a12.2.1 a12.2.2.1 a12.2.2.2
 have b12:=F12.binds (ps:=["tile"]) (by walk_at "b")
 have F13:=aW (st:=cQ) a13.2.1 a13.2.2.1 a13.2.2.2
 have b13:=F13.binds (ps:=["d","marks","x"]) (by walk_at "b")
 have F14:=aW (st:=cD) a14.2.1 a14.2.2.1 a14.2.2.2
 have b14:=F14.binds (ps:=["d","found"]) (by walk_at "b")
 have F15:=aW (st:=cC) a15.2.1 a15.2.2.1 a15.2.2.2
 have b15:=F15.binds (ps:=["marks","end"]) (by walk_at "b")
 have F16:=aW (st:=cR) a16.2.1 a16.2.2.1 a16.2.2.2
 have b16:=F16.binds (ps:=["bounds","across","upward"]) (by walk_at "b")
 have F17:=aW (st:=eB) a17.2.1 a17.2.2.1 a17.2.2.2
 have b17:=F17.binds (ps:=["d","thing"]) (by walk_at "b")
 have F18:=aW (st:=bU) a18.2.1 a18.2.2.1 a18.2.2.2
 have b18:=F18.binds (ps:=["d","thing"]) (by walk_at "b")
 have F19:=aW (st:=dq) a19.2.1 a19.2.2.1 a19.2.2.2
 have b19:=F19.binds (ps:=["d","tile","x","y"]) (by walk_at "b")
 have F20:=aW (st:=fV) a20.2.1 a20.2.2.1 a20.2.2.2
 have b20:=F20.binds (ps:=["d","laying","x","y"]) (by walk_at "b")
 have F21:=aW (st:=fO) a21.2.1 a21.2.2.1 a21.2.2.2
 have b21:=F21.binds (ps:=["_law_script","_law_at"]) (by walk_at "b")
 have F22:=aW (st:=eC) a22.2.1 a22.2.2.1 a22.2.2.2
 have b22:=F22.binds (ps:=["_law_bag_here"]) (by walk_at "b")
 have F23:=aW (st:=eM) a23.2.1 a23.2.2.1 a23.2.2.2
 have b23:=F23.binds (ps:=["_law_bag_here","_law_many"]) (by walk_at "b")
 have F24:=aW (st:=cS) a24.2.1 a24.2.2.1 a24.2.2.2
 have b24:=F24.binds (ps:=["_law_bag_here","_law_d"]) (by walk_at "b")
 have F25:=aW (st:=cj) a25.2.1 a25.2.2.1 a25.2.2.2
 have b25:=F25.binds (ps:=["_law_bag_here"]) (by walk_at "b")
 have F26:=aW (st:=dy) a26.2.1 a26.2.2.1 a26.2.2.2
 have b26:=F26.binds (ps:=["_law_bag_here","_law_d","_law_columns","_law_rows","_law_blocks_here"]) (by walk_at "b")
 have F27:=aW (st:=eJ) a27.2.1 a27.2.2.1 a27.2.2.2
 have b27:=F27.binds (ps:=["_law_sides_here"]) (by walk_at "b")
 have F28:=aW (st:=eO) a28.2.1 a28.2.2.1 a28.2.2.2
 have b28:=F28.binds (ps:=["_law_x","_law_y"]) (by walk_at "b")
 have F29:=aW (st:=fY) a29.2.1 a29.2.2.1 a29.2.2.2
 have b29:=F29.binds (ps:=["_law_a","_law_b","_law_c"]) (by walk_at "b")
 have F30:=aW (st:=cN) a30.2.1 a30.2.2.1 a30.2.2.2
 have b30:=F30.binds (ps:=["_law_one","_law_other"]) (by walk_at "b")
 have F31:=aW (st:=dJ) a31.2.1 a31.2.2.1 a31.2.2.2
 have b31:=F31.binds (ps:=["_law_bag_here","_law_d","_law_many"]) (by walk_at "b")
 have F32:=aW (st:=eu) a32.2.1 a32.2.2.1 a32.2.2.2
 have b32:=F32.binds (ps:=["_law_bag_here","_law_d","_law_way"]) (by walk_at "b")
 have F33:=aW (st:=eG) a33.2.1 a33.2.2.1 a33.2.2.2
 have b33:=F33.binds (ps:=["_law_d","_law_x"]) (by walk_at "b")
 have F34:=aW (st:=dw) a34.2.1 a34.2.2.1 a34.2.2.2
 have b34:=F34.binds (ps:=["_law_x"]) (by walk_at "b")
 have F35:=aW (st:=dA) a35.2.1 a35.2.2.1 a35.2.2.2
 have b35:=F35.binds (ps:=["_law_bag_here","_law_row"]) (by walk_at "b")
 have F36:=aW (st:=eL) a36.2.1 a36.2.2.1 a36.2.2.2
 have b36:=F36.binds (ps:=["_law_x","_law_y"]) (by walk_at "b")
 have F37:=aW (st:=bM) a37.2.1 a37.2.2.1 a37.2.2.2
 have b37:=F37.binds (ps:=["_law_bag_here"]) (by walk_at "b")
 have F38:=aW (st:=cP) a38.2.1 a38.2.2.1 a38.2.2.2
 have b38:=F38.binds (ps:=["_law_bag_here","_law_columns","_law_rows"]) (by walk_at "b")
 have F39:=aW (st:=eD) a39.2.1 a39.2.2.1 a39.2.2.2
 have b39:=F39.binds (ps:=["_law_met","_law_column","_law_row","_law_columns"]) (by walk_at "b")
 have F40:=aW (st:=dD) a40.2.1 a40.2.2.1 a40.2.2.2
 have b40:=F40.binds (ps:=["_law_bag_here","_law_d","_law_laying_here"]) (by walk_at "b")
 have F41:=aW (st:=cO) a41.2.1 a41.2.2.1 a41.2.2.2
 have b41:=F41.binds (ps:=["_law_bag_here"]) (by walk_at "b")
 have F42:=aW (st:=dF) a42.2.1 a42.2.2.1 a42.2.2.2
 have b42:=F42.binds (ps:=["_law_d","_law_x","_law_y"]) (by walk_at "b")
 have F43:=aW (st:=dI) a43.2.1 a43.2.2.1 a43.2.2.2
 have b43:=F43.binds (ps:=["_law_d","_law_tile","_law_x","_law_y"]) (by walk_at "b")
 have F44:=aW (st:=dO) a44.2.1 a44.2.2.1 a44.2.2.2
 have b44:=F44.binds (ps:=["_law_d","_law_x","_law_y"]) (by walk_at "b")
 have F45:=aW (st:=cg) a45.2.1 a45.2.2.1 a45.2.2.2
 have b45:=F45.binds (ps:=["_law_thing"]) (by walk_at "b")
 have F46:=aW (st:=og) a46.2.1 a46.2.2.1 a46.2.2.2
 have b46:=F46.binds (ps:=["_law_script"]) (by walk_at "b")
 have T:Txt K mg ⟨f0,fd "is_whole" fS t0 m0 c0,f1,fd "common_divisor" bV t1 m1 c1,f2,fd "is_number" eI t2 m2 c2,f3,fd "divisor_of_all" bW t3 m3 c3,f4,fd "number" j4 t4 m4 c4,f5,fd "plus" rp t5 m5 c5,f6,fd "sign_of" iA t6 m6 c6,f7,fd "sign_of_parts" cm t7 m7 c7,f8,fd "is_above" fI t8 m8 c8,f9,fd "is_above_nought" bN t9 m9 c9,f10,fd "is_tile" ix t10 m10 c10,f11,fd "has_form" fW t11 m11 c11,f12,fd "bounds_of" eK t12 m12 c12,f13,fd "place_among" cQ t13 m13 c13,f14,fd "rising_marks" cD t14 m14 c14,f15,fd "reaches_just" cC t15 m15 c15,f16,fd "covers_once" cR t16 m16 c16,f17,fd "is_laying" eB t17 m17 c17,f18,fd "must_be_laying" bU t18 m18 c18,f19,fd "holds_spot" dq t19 m19 c19,f20,fd "tiles_at" fV t20 m20 c20,f21,fd "_law_bag" fO t21 m21 c21,f22,fd "_law_root" eC t22 m22 c22,f23,fd "_law_take" eM t23 m23 c23,f24,fd "_law_laying" cS t24 m24 c24,f25,fd "_law_pinwheel" cj t25 m25 c25,f26,fd "_law_floor" dy t26 m26 c26,f27,fd "_law_ends" eJ t27 m27 c27,f28,fd "_law_plus" eO t28 m28 c28,f29,fd "_law_low" fY t29 m29 c29,f30,fd "_law_shared" cN t30 m30 c30,f31,fd "_law_sides" dJ t31 m31 c31,f32,fd "_law_side" eu t32 m32 c32,f33,fd "_law_sign" eG t33 m33 c33,f34,fd "_law_minus" dw t34 m34 c34,f35,fd "_law_mixed" dA t35 m35 c35,f36,fd "_law_less" eL t36 m36 c36,f37,fd "_law_many_cells" bM t37 m37 c37,f38,fd "_law_blocks" cP t38 m38 c38,f39,fd "_law_room" eD t39 m39 c39,f40,fd "_law_spots" dD t40 m40 c40,f41,fd "_law_number" cO t41 m41 c41,f42,fd "_law_times" dF t42 m42 c42,f43,fd "_law_is_at" dI t43 m43 c43,f44,fd "_law_below" dO t44 m44 c44,f45,fd "_law_is_whole" cg t45 m45 c45,fa,fd "law" og t46 m46 c46,q0,g1⟩:=⟨F0,mg_of X G a0.1,a0.2.2.2,b0,F1,mg_of X G a1.1,a1.2.2.2,b1,F2,mg_of X G a2.1,a2.2.2.2,b2,F3,mg_of X G a3.1,a3.2.2.2,b3,F4,mg_of X G a4.1,a4.2.2.2,b4,F5,mg_of X G a5.1,a5.2.2.2,b5,F6,mg_of X G a6.1,a6.2.2.2,b6,F7,mg_of X G a7.1,a7.2.2.2,b7,F8,mg_of X G a8.1,a8.2.2.2,b8,F9,mg_of X G a9.1,a9.2.2.2,b9,F10,mg_of X G a10.1,a10.2.2.2,b10,F11,mg_of X G a11.1,a11.2.2.2,b11,F12,mg_of X G a12.1,a12.2.2.2,b12,F13,mg_of X G a13.1,a13.2.2.2,b13,F14,mg_of X G a14.1,a14.2.2.2,b14,F15,mg_of X G a15.1,a15.2.2.2,b15,F16,mg_of X G a16.1,a16.2.2.2,b16,F17,mg_of X G a17.1,a17.2.2.2,b17,F18,mg_of X G a18.1,a18.2.2.2,b18,F19,mg_of X G a19.1,a19.2.2.2,b19,F20,mg_of X G a20.1,a20.2.2.2,b20,F21,mg_of X G a21.1,a21.2.2.2,b21,F22,mg_of X G a22.1,a22.2.2.2,b22,F23,mg_of X G a23.1,a23.2.2.2,b23,F24,mg_of X G a24.1,a24.2.2.2,b24,F25,mg_of X G a25.1,a25.2.2.2,b25,F26,mg_of X G a26.1,a26.2.2.2,b26,F27,mg_of X G a27.1,a27.2.2.2,b27,F28,mg_of X G a28.1,a28.2.2.2,b28,F29,mg_of X G a29.1,a29.2.2.2,b29,F30,mg_of X G a30.1,a30.2.2.2,b30,F31,mg_of X G a31.1,a31.2.2.2,b31,F32,mg_of X G a32.1,a32.2.2.2,b32,F33,mg_of X G a33.1,a33.2.2.2,b33,F34,mg_of X G a34.1,a34.2.2.2,b34,F35,mg_of X G a35.1,a35.2.2.2,b35,F36,mg_of X G a36.1,a36.2.2.2,b36,F37,mg_of X G a37.1,a37.2.2.2,b37,F38,mg_of X G a38.1,a38.2.2.2,b38,F39,mg_of X G a39.1,a39.2.2.2,b39,F40,mg_of X G a40.1,a40.2.2.2,b40,F41,mg_of X G a41.1,a41.2.2.2,b41,F42,mg_of X G a42.1,a42.2.2.2,b42,F43,mg_of X G a43.1,a43.2.2.2,b43,F44,mg_of X G a44.1,a44.2.2.2,b44,F45,mg_of X G a45.1,a45.2.2.2,b45,F46,mg_of X G a46.1,a46.2.2.2,b46,mg_none_of X G z0,mg_none_of X G z1,mg_none_of X G z2,mg_none_of X G z3,mg_none_of X G z4,mg_none_of X G z5,mg_none_of X G z6,mg_none_of X G z7,mg_none_of X G z8,mg_none_of X G z9,mg_none_of X G z10,mg_none_of X G z11,mg_none_of X G z12,mg_of X G v0,⟨mg_of X G v1,⟨_,_,_,_,_,_,w1⟩⟩⟩
 exact⟨_,fun s v=>.of_eq rfl,fun base _ _=>ND (e:=⟨l.prog,w,K,mg,base,_⟩) T⟩
theorem walk{l:PySem.W.OpenLaw}{q:Program}{loose:List Str}{XP:(Str->Option Value)->Heap->Prop}{YP:World->Heap->Prop}{d:DefRec}{K:Params->PySem.W.Frag}(tabs:List Addr)(hn:l.most=some 63)(hdf:d.params.defaults=[])
  (hY:∀(w:World) (h:Heap),YP w h->(K w.params).In h/\(∀p∈tabs,h.get? p=some (PySem.W.tabObj #[])/\(K w.params).lookup p=none)/\(∀p∈tabs,isCodeTable h p))
  (hA2:∀(w:World) c o p q,(K w.params).lookup c=some o->cX o=some (p,q)->p∈tabs)
  (F:∀(w:World) (mg:Str->Option Value) (fa:Addr) (h:Heap),(K w.params).In h->h.Ns mainGlobals mg->mg d.name=some (.ref fa) ->
   ∃fd:FuncData,(∀(s:Shared) (u:Value),BindsTo s fd ⟨[u],[]⟩ [("_law_script",u)])/\∀base:Heap,(K w.params).In base->base.Ns mainGlobals mg->bC l.prog w (K w.params) mg base CX0 10 fa fd ["_law_script"] (spD (K w.params) wq)) :
  PySem.W.WalkO q loose XP YP l.row.toRowW d [] (fun f vs=>PySem.call f vs):=
 L2.JY (n:=63) (k:=10) (x:="_law_script") (CX:=fun _=>CX0) (sp:=fun w=>spD (K w.params) wq) tabs hn ⋯ hdf ⟨rfl,⋯,⋯⟩ hY hA2 F (fun w H a ns hl hT hS=>HQ hl hT hS) fun _ _ _ _ _ z=>z
end K10
open PySem PySem.W PyProof.Rows L2.DL in
set_option maxRecDepth 100000 in
set_option maxHeartbeats 0 in
theorem PySem.Challenge.cw_matefloors_k10_tiles_at_spots_holds : PySem.Challenge.rw_matefloors_k10_tiles_at_spots.Holds :=
 holds_law K10.H.ws fun said=>holds_open (XP:=XL K10.H.V []) (YP:=K10.H.HK.says) (d:=K10.H.D) (kwd:=[]) K10.H.left K10.H.HK.of K10.H.HK.keeps (fun s e=>xl_of s (Bool.and_eq_true_iff.mp e).1) XL.keeps ⟨⟩ ⟨⟩ ⟨⟩
  (fun s e=>recFacts_of (Bool.and_eq_true_iff.mp e).2) ⟨⟩ said ⟨⟩ ⟨⟨⟩,⟨⟩,⟨⟩,⟨⟩,⟨⟩,⟨⟩⟩ ⟨[.list []],⟨⟩,⟨⟩⟩
  (K10.walk (l:=PySem.Challenge.rw_matefloors_k10_tiles_at_spots) (K:=K10.H.K) K10.H.tabs ⟨⟩ ⟨⟩ (fun w h Y=>by
   have Y:(K10.H.KF w.params).In h:=Y
   refine⟨FW Y,fun p hp=>?_,fun p hp=>?_⟩
   ·rcases List.mem_cons.mp hp with rfl|hp
    ·exact⟨Y _ _ (K10.H.FD w.params).1,(K10.H.FD w.params).2⟩
    exact nomatch hp
   ·rcases List.mem_cons.mp hp with rfl|hp
    ·obtain⟨o,e1,e2⟩:=Lw (K10.H.IK w.params);exact GL (FW Y) e1 e2
    exact nomatch hp) (fun w c o p q e e2=>by
   have h:=KU (K10.H.N6 w.params) e e2
   have h2:=mem_map_of_mem (f:=fun x:Addr×Str=>x.1) h
   exact h2) fun w mg fa h KX G hmg=>by
   obtain⟨h0,h1,h2,h3,h4,h5,h6,h7,h8,h9,h10,h11,h12,h13⟩:=K10.H.MN w.params
   obtain⟨h14,h15,h16,h17,h18,h19,h20,h21,h22,h23,h24,h25,h26,h27⟩:=K10.H.Nl w.params
   obtain⟨h28,h29,h30,h31,h32,h33,h34,h35,h36,h37,h38,h39,h40,h41⟩:=K10.H.Nk w.params
   obtain⟨h42,h43,h44,h45,h46,h47,h48,h49,h50,h51,h52,h53,h54,h55⟩:=K10.H.MZ w.params
   obtain⟨h56,h57,h58,h59,h60,h61⟩:=K10.H.NN w.params
   exact K10.all_mk KX G hmg h0 h1 h2 h3 h4 h5 h6 h7 h8 h9 h10 h11 h12 h13 h14 h15 h16 h17 h18 h19 h20 h21 h22 h23 h24 h25 h26 h27 h28 h29 h30 h31 h32 h33 h34 h35 h36 h37 h38 h39 h40 h41 h42 h43 h44 h45 h46 h47 h48 h49 h50 h51 h52 h53 h54 h55 h56 h57 h58 h59 h60 h61.1 h61.2)
