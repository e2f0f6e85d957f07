import PyProof.Rows.All
import KE.KFind
import KE.KLam
import KE.KTryMore
import KE.LcSums
import KE.KRevSl
import Lean
import PyProof.DictCompW
import PyProof.DictTable
import PyProof.IsRules
import PyProof.SetKind
import PyProof.TupleKey
import PySem.SetTable
import PyProof.EnumMake
import PyProof.WalksEnum
import PyProof.Rows.SetFrom
import PyProof.SetRoads
import PySem.Challenge.RW_matefloors_k09_shapes_and_kinds
set_option Elab.async false
set_option linter.all false
set_option maxRecDepth 100000
set_option maxHeartbeats 4000000
set_option genSizeOf false
set_option compiler.extract_closed false
set_option bootstrap.genMatcherCode false
local macro_rules|`(‹$q›)=>`({nx:=fun _ y=>$q (.v .none) y,rt:=$q})
set_option genInjectivity false
local macro_rules | `(⋯) => `((by decide))
local macro_rules | `(∅) => `((by omega))
local macro_rules | `(nofun) => `((by decide +kernel))
local macro_rules | `(⟨⟩) => `((by kernel_rfl))
local macro_rules | `(tactic| walk_at "s") => `(tactic| exact ⟨rfl, rfl, rfl, by decide +kernel, rfl, by decide +kernel, by decide +kernel⟩)
local macro_rules | `(tactic| walk_at "b") => `(tactic| (intro _ _ _ _ _ _ us hl; first | exact (match us, hl with | [], _ => rfl) | exact (match us, hl with | [_], _ => rfl) | exact (match us, hl with | [_, _], _ => rfl) | exact (match us, hl with | [_, _, _], _ => rfl) | exact (match us, hl with | [_, _, _, _], _ => rfl) | exact (match us, hl with | [_, _, _, _, _], _ => rfl)))
open PySem.W (fnOf nsIn codeIn keepIn kitOne kia_one mg_of mg_none_of)
open List (map_append map_map mem_append_left filterMap_cons mem_cons_self mem_cons_of_mem mem_append_right append_nil length_take getElem?_append_right getElem?_append_left getElem?_map mem_of_getElem? length_append length_map size_toArray reverse_cons replicate_succ flatten_cons append_assoc nil_append map_nil map_cons length_cons getElem_mem getElem?_eq_none mem_append mem_cons getElem?_eq_getElem mem_singleton length_nil mem_map flatMap_cons mem_map_of_mem not_mem_nil lookup_cons take_length cons_append set_cons_zero all_map take_succ)
open Int (natAbs_mul le_of_lt eq_of_mul_eq_mul_right mul_ne_zero mul_nonneg mul_pos)
open Nat (lt_of_lt_of_le ne_of_lt lt_irrefl le_trans le_refl pow_succ zero_le le_of_lt_succ lt_or_ge not_lt_zero mul_le_mul lt_or_eq_of_le lt_succ_of_lt)
open Bool (false_eq_true and_eq_true xor_false false_xor true_xor)
open PySem.F (plainAttrs_list)
open Option (bind_some map_some join_some bind_none)
open PySem (mem_of_lookup)
namespace L2
open PySem PySem.W
def lG:Sem Fin->Bool
 |.choose ..=>false
 |.os ..=>false
 |_=>true
theorem PL{den:Code->Sem Fin}{p:Program}{w:World}{os:OsState}{s s':Shared}{t t':Thread}(h:lG t.cur=true)(e:step den p ⟨fun _ _=>0,w.params⟩ s t = .go s' t') :
  step den p w {s with os:=os} t = .go {s' with os:=os} t':=by
 obtain⟨heap,gens,drawn,toks,os0⟩:=s
 obtain⟨cur,code,pos,stack⟩:=t
 cases cur<;>simp only[step,finish,lG] at e h ⊢<;>(try (cases h;done))<;>(repeat' split at e)<;>simp_all<;>(try (obtain⟨rfl,rfl⟩:=e;simp_all))<;>(try (obtain⟨h1,h2⟩:=e;subst h1;rfl))
def rY(tb:String->Option Builtin)(p:Program)(P:Params)(mt:Nat)(ann:Option Value):Nat->Shared->Thread->Option Shared
 |0,_,_=>none
 |n+1,s,t=>match through t with
  |true=>some s
  |false=>match stepOk mt ann t&&lG t.cur with
   |false=>none
   |true=>match step (denote tb) p ⟨fun _ _=>0,P⟩ s t with
    |.go s' t'=>rY tb p P mt ann n s' t'
    |.halt _ _=>none
theorem yU{tb:String->Option Builtin}{p:Program}{w:World}{mt:Nat}{ann:Option Value}{os:OsState}:∀{n:Nat} {s s':Shared} {t:Thread},rY tb p w.params mt ann n s t=some s'->topRun tb p w mt ann n {s with os:=os} t=some {s' with os:=os}
 |0,_,_,_,h=>by cases h
 |n+1,s,s',t,h=>by
  unfold rY at h
  unfold topRun
  cases ht:through t with
  |true=>rw[ht] at h;cases h;rfl
  |false=>
   rw[ht] at h
   cases hk:(stepOk mt ann t&&lG t.cur) with
   |false=>rw[hk] at h;cases h
   |true=>
    rw[hk] at h
    obtain⟨k1,k2⟩:=Bool.and_eq_true_iff.mp hk
    cases hs:step (denote tb) p ⟨fun _ _=>0,w.params⟩ s t with
    |halt o ii=>rw[hs] at h;cases h
    |go ii wp=>
     rw[hs] at h
     rw[k1,PL (os:=os) k2 hs]
     exact yU h
noncomputable def wX(p:Program)(P:Params)(mt:Nat)(ann:Option Value):Nat->Shared->Thread->Option Shared
 |0,_,_=>none
 |n+1,s,t=>match through t with
  |true=>some s
  |false=>match Fast.tw6613529449190102663 mt ann t&&lG t.cur with
   |false=>none
   |true=>match Fast.tw8437177126325714943 (Fast.tw11892475500146522536 Fast.tw14364793385576792824) p ⟨fun _ _=>0,P⟩ s t with
    |.go s' t'=>wX p P mt ann n s' t'
    |.halt _ _=>none
theorem xR{p:Program}{P:Params}{mt:Nat}{ann:Option Value}:∀(n:Nat) (s:Shared) (t:Thread),wX p P mt ann n s t=rY treeTable p P mt ann n s t
 |0,_,_=>rfl
 |n+1,s,t=>by
  unfold wX rY
  rw[<- Fast.te6613529449190102663,<- Fast.te8437177126325714943,<- Fast.te11892475500146522536,<- Fast.te14364793385576792824]
  cases through t with
  |true=>rfl
  |false=>
   cases (stepOk mt ann t&&lG t.cur) with
   |false=>rfl
   |true=>
    cases step (denote treeTable) p ⟨fun _ _=>0,P⟩ s t with
    |halt o ii=>rfl
    |go ii wp=>exact xR n ii wp
end L2
namespace L2
open PySem
def ki(s:Stmt):Arguments:=match s with
 |.FunctionDef _ a _ _ _ _ _ _ _ _=>a
 |_=>{posonlyargs:=[],args:=[],vararg:=none,kwonlyargs:=[],kw_defaults:=[],kwarg:=none,defaults:=[]}
def i9(s:Stmt):List Stmt:=match s with
 |.FunctionDef _ _ b _ _ _ _ _ _ _=>b
 |_=>[]
def ax(s:Stmt):Scope:=match s with
 |.FunctionDef _ _ _ _ _ _ sc _ _ _=>sc
 |_=>{kind:=.function,names:=[],isGenerator:=false,isCoroutine:=false}
end L2
namespace L2.DL
open PySem
def LM:List Str:=["law","_law_is_right","_law_is_put","_law_are_refused","_law_is_told","_law_said","_law_is_plan_told"]
def cV(o:Obj):Option (Addr×Str):=match o.cls,o.data with
 |.type c,.fields vs=>if c = "code" then (match vs[1]?,vs[7]?,vs[9]?,vs[10]?,vs[11]?,vs[18]? with
  |some (Value.str q _),some (Value.int _ _),some (Value.bool _),some (Value.int _ _),some (Value.ref P),some (Value.str _ _)=>if LM.contains q=true then some (P,q) else none
  |_,_,_,_,_,_=>none) else none
 |_,_=>none
end L2.DL
namespace K09
open PySem L2
def top(i:Nat):Stmt:=PySem.Challenge.pw_matefloors_k09_shapes_and_kinds.main.body.getD i (.Pass ⟨0,0,0,0⟩)
abbrev ic:Stmt:=top 7
abbrev ck:Stmt:=top 8
abbrev fo:Stmt:=top 9
abbrev cp:Stmt:=top 10
abbrev k0:Stmt:=top 11
abbrev u7:Stmt:=top 12
abbrev qd:Stmt:=top 13
abbrev uh:Stmt:=top 14
abbrev gQ:Stmt:=top 15
abbrev ji:Stmt:=top 16
abbrev cL:Stmt:=top 17
abbrev g8:Stmt:=top 18
abbrev bS:Stmt:=top 19
abbrev jg:Stmt:=top 23
abbrev hE:Stmt:=top 24
abbrev fe:Stmt:=top 25
abbrev dF:Stmt:=top 26
abbrev da:Stmt:=top 27
abbrev cY:Stmt:=top 28
abbrev dE:Stmt:=top 29
abbrev fw:Stmt:=top 30
abbrev hJ:Stmt:=top 31
abbrev cw:Stmt:=top 32
abbrev cM:Stmt:=top 33
abbrev fh:Stmt:=top 34
abbrev qh:Stmt:=top 35
abbrev fq:Stmt:=top 37
abbrev cK:Stmt:=top 38
abbrev gT:Stmt:=top 39
abbrev dz:Stmt:=top 40
abbrev d6:Stmt:=top 41
abbrev dn:Stmt:=top 42
abbrev eY:Stmt:=top 43
abbrev d8:Stmt:=top 44
abbrev dq:Stmt:=top 45
abbrev fu:Stmt:=top 46
abbrev eo:Stmt:=top 47
abbrev cu:Stmt:=top 48
abbrev cJ:Stmt:=top 49
abbrev gW:Stmt:=top 50
abbrev fj:Stmt:=top 51
abbrev dD:Stmt:=top 52
abbrev cH:Stmt:=top 53
abbrev d7:Stmt:=top 54
abbrev eX:Stmt:=top 55
abbrev fD:Stmt:=top 56
abbrev eA:Stmt:=top 57
abbrev fg:Stmt:=top 58
abbrev d5:Stmt:=top 59
abbrev fE:Stmt:=top 60
abbrev bT:Stmt:=top 61
abbrev dw:Stmt:=top 62
abbrev fc:Stmt:=top 63
abbrev cm:Stmt:=top 64
abbrev bU:Stmt:=top 65
abbrev cW:Stmt:=top 66
abbrev qw:Stmt:=top 67
abbrev fd(n:Str)(s:Stmt)(tk:Tok)(m:Str)(cd:Addr):FuncData:=fnOf n n (ki s) (i9 s) (ax s) .none .none .none (.str m tk) none (.ref cd) .none
noncomputable abbrev FQ(K:PySem.W.Frag)(n:Str)(s:Stmt)(a cd:Addr)(tk:Tok)(m:Str):Prop:=nsIn K mainGlobals n=some (some (.ref a))/\K.lookup a=some ⟨.type "function",none,.func (fd n s tk m cd),#[]⟩/\codeIn K (.ref cd) n=true/\keepIn K (.ref a)=true
end K09
namespace K09.H
open PySem PySem.W PyProof.Rows L2 L2.DL
set_option maxHeartbeats 0
abbrev R:OpenLaw:=PySem.Challenge.rw_matefloors_k09_shapes_and_kinds
abbrev LO:List Str:=["has_form","has_form_layings","has_form_plans"]
noncomputable def sT(P:Params):Option Shared:=wX R.row.prog P 11 (some (.ref 6)) 20000 {heap:=boot_heap P,gens:=#[],drawn:=boot_drawn,toks:=boot_toks,os:=default} (topStub R.row.prog)
def defName:Stmt->Str
 |.FunctionDef n _ _ _ _ _ _ _ _ _=>n
 |_=>Str.empty
def Jc:Stmt->Int
 |.FunctionDef _ _ _ _ _ _ _ _ _ p=>Int.ofNat p.line
 |_=>0
def cn(o:Obj)(r:List Obj):List Obj:=o::r
def g(P:Params)(x:Str)(t:Nat)(v:Value):DictEntry:=⟨PyData.keyHash P x,.str x t,v⟩
def gf(P:Params)(i t a:Nat):DictEntry:=g P (defName (top i)) t (.ref a)
def tb:List (Int×Nat)->List Value
 |[]=>[]
 |(a,b)::l=>.int a 0::.int 0 0::.ref b::tb l
def tu(l:List Value):Obj:=⟨.type "tuple",none,.seq l.toArray 0,#[]⟩
def nf:Obj:=⟨.none,none,.fields #[],#[]⟩
def dp(s:Stmt):List Str:=(ki s).args.map (·.arg)
def fd(s:Stmt)(a:Addr)(p c:Value):Data:=.func {name:=defName s,qualname:=defName s,params:=ki s,body:=.stmts (i9 s),scope:=ax s,globals:=a,closure:=[],defaults:=.none,kwdefaults:=.none,pyModule:=p,code:=c}
def co(s:Stmt)(a t u:Nat)(x y:Value)(d:Nat):Obj:=⟨.type "code",none,.fields #[.str (defName s) t,.str (defName s) (t+1),.str "/claim/cut.py" (t+2),.int (Jc s) 0,.int (Int.ofNat (dp s).length) 0,.int 0 0,.int 0 0,.int 3 0,.ref a,.bool true,.int 181 0,.ref (a+1),.none,x,y,.ref (a+d),.int (Int.ofNat u) 0,.int (Jc s) 0,.str "/claim/cut.py" (u+1)],#[]⟩
def nv:Nat->List Str->List Value
 |_,[]=>[]
 |t,x::l=>.str x t::nv (t+1) l
def fB(i a t:Nat)(l:List Str)(p:Value)(r:List Obj):List Obj:=tu []::nf::tu (nv (t+3) (dp (top i)++l))::tu []::⟨.none,none,fd (top i) 0 .none .none,#[]⟩::co (top i) a t (t+3+(dp (top i)++l).length) (.ref (a+2)) (.ref (a+3)) 4::⟨.type "function",none,fd (top i) 3 p (.ref (a+5)),#[]⟩::r
def fL(i a t:Nat)(p:Value)(r:List Obj):List Obj:=tu []::nf::⟨.none,none,fd (top i) 0 .none .none,#[]⟩::co (top i) a t (t+3) .none .none 2::⟨.type "function",none,fd (top i) 3 p (.ref (a+3)),#[]⟩::r
def me:Value:=.str "matefloors.errors" 187
def cB(P:Params)(x:Str)(i t:Nat)(n:Int)(r:List Obj):List Obj:=tu [.ref 24]::⟨.type "builtin_function_or_method",none,.fields #[.builtin "type.__prepare__",.type "type"],#[]⟩::⟨.type "dict",none,.dict #[g P "__module__" (t+5) me,g P "__qualname__" (t+7) (.str x (t+6)),g P "__firstlineno__" (t+9) (.int n (t+8)),g P "__static_attributes__" (t+10) (.ref (i+7))] 4,#[]⟩::tu []::nf::⟨.type "code",none,.fields #[.str x t,.str x (t+1),.str "/claim/cut.py" (t+2),.int n 0,.int 0 0,.int 0 0,.int 0 0,.int 0 0,.ref (i+3),.bool false,.int 181 0,.ref (i+4),.none,.none,.none,.none,.int (Int.ofNat (t+3)) 0,.int n 0,.str "/claim/cut.py" (t+4)],#[]⟩::⟨.type "frame",none,.plain,#[some (.ref (i+5)),some (.ref 3),some (.ref (i+2)),none,some me,none,some (.ref 0)]⟩::tu []::⟨.type "dict",none,.dict #[g P "__module__" (t+5) me,g P "__firstlineno__" (t+9) (.int n (t+8)),g P "__static_attributes__" (t+10) (.ref (i+7)),g P "__doc__" (t+11) .none] 2,#[]⟩::⟨.type "type",none,.cls ⟨x,[.ref 24],[.ref (i+9),.ref 24,.type "ValueError",.type "Exception",.type "BaseException",.type "object"],i+8,x,true,[],[],false,none,false⟩,#[some (.ref i),none,some (.str x (t-2)),some (.str x (t+6)),some (.builtin "ValueError.__new__"),some (.bool true)]⟩::⟨.type "super",none,.fields #[.ref (i+9),.ref (i+9),.ref (i+9)],#[]⟩::⟨.type "builtin_function_or_method",none,.fields #[.builtin "object.__init_subclass__",.ref (i+9)],#[]⟩::r
def m0:Value:=.str "matefloors.numbers" 255
def m1:Value:=.str "matefloors.layings" 377
def m2:Value:=.str "law_matefloors_k09_shapes_and_kinds" 489
noncomputable def ho0(P:Params)(r:List Obj):List Obj:=cn (boot_o_0 P) <| cn (boot_o_1 P) <| cn (boot_o_2 P) <| cn (⟨.type "dict",none,.dict #[g P "__name__" 165 (.str "law_matefloors_k09_shapes_and_kinds" 489),g P "__doc__" 166 .none,g P "__package__" 167 .none,g P "__loader__" 168 (.builtin "__main__.__loader__#opaque"),g P "__spec__" 169 .none,g P "__annotations__" 170 (.ref 6),g P "__builtins__" 171 (.ref 4),g P "__file__" 173 (.str "/claim/cut.py" 172),g P "__cached__" 174 .none,g P "FloorError" 206 (.ref 24),g P "NoNumber" 222 (.ref 37),g P "NoLaying" 238 (.ref 49),g P "NoKinds" 254 (.ref 61),g P "NOUGHT" 260 (.ref 64),gf P 7 267 71,gf P 8 275 78,gf P 9 285 85,gf P 10 294 92,gf P 11 304 99,gf P 12 312 106,gf P 13 321 113,gf P 14 330 120,gf P 15 339 127,gf P 16 347 134,gf P 17 357 141,gf P 18 368 148,gf P 19 376 155,g P "MOST_TILES" 380 (.int 60 379),g P "MOST_KINDS" 382 (.int 3 381),gf P 23 394 162,gf P 24 400 167,gf P 25 411 174,gf P 26 423 181,gf P 27 434 188,gf P 28 442 195,gf P 29 448 200,gf P 30 454 205,gf P 31 460 210,gf P 32 468 217,gf P 33 476 224,gf P 34 482 229,gf P 35 488 234,gf P 37 499 241,gf P 38 507 248,gf P 39 517 255,gf P 40 525 262,gf P 41 535 269,gf P 42 547 276,gf P 43 558 283,gf P 44 565 290,gf P 45 571 295,gf P 46 580 302,gf P 47 589 309,gf P 48 595 314,gf P 49 602 321,gf P 50 614 328,gf P 51 620 333,gf P 52 631 340,gf P 53 637 345,gf P 54 657 352,gf P 55 666 359,gf P 56 674 366,gf P 57 680 371,gf P 58 691 378,gf P 59 697 383,gf P 60 705 390,gf P 61 713 397,gf P 62 730 404,gf P 63 741 411,gf P 64 747 416,gf P 65 753 421,gf P 66 759 426,gf P 67 773 433] 73,#[]⟩) <| cn (boot_o_4 P) <| cn (boot_o_5 P) <| cn (boot_o_6 P) <| cn (boot_o_7 P) <| cn (boot_o_8 P) <| cn (boot_o_9 P) <| cn (boot_o_10 P) <| cn (⟨(.type "tuple"),none,(.seq #[] 0),#[]⟩) <| cn (⟨.none,none,.fields (tb [(2,20),(4,33),(6,45),(8,57),(12,70),(14,77),(18,84),(25,91),(27,98),(34,105),(36,112),(38,119),(42,126),(45,133),(47,140),(56,147),(60,154),(65,161),(72,166),(81,173),(84,180),(94,187),(101,194),(103,199),(114,204),(122,209),(126,216),(129,223),(132,228),(135,233),(141,240),(148,247),(150,254),(153,261),(158,268),(164,275),(170,282),(176,289),(178,294),(180,301),(182,308),(184,313),(188,320),(190,327),(200,332),(205,339),(211,344),(217,351),(224,358),(229,365),(231,370),(236,377),(246,382),(249,389),(251,396),(258,403),(271,410),(276,415),(285,420),(296,425),(310,432)]).toArray,#[]⟩) <| cn (⟨(.type "code"),none,(.fields #[(.str "<module>" 182),(.str "<module>" 183),(.str "/claim/cut.py" 184),(.int 1 0),(.int 0 0),(.int 0 0),(.int 0 0),(.int 0 0),(.ref 11),(.bool false),(.int 181 0),(.ref 12),.none,.none,.none,.none,(.int 185 0),(.int 1 0),(.str "/claim/cut.py" 186)]),#[]⟩) <| cn (⟨(.type "frame"),none,.plain,#[some (.ref 13),some (.ref 3),some (.ref 3),none,some (.str "__main__" 164),none,some (.ref 0)]⟩) <| cn (⟨(.type "tuple"),none,(.seq #[(.type "ValueError")] 0),#[]⟩) <| cn (⟨(.type "builtin_function_or_method"),none,(.fields #[(.builtin "type.__prepare__"),(.type "type")]),#[]⟩) <| cn (⟨(.type "dict"),none,(.dict #[⟨PyData.keyHash P "__module__",(.str "__module__" 196),(.str "matefloors.errors" 187)⟩,⟨PyData.keyHash P "__qualname__",(.str "__qualname__" 198),(.str "FloorError" 197)⟩,⟨PyData.keyHash P "__firstlineno__",(.str "__firstlineno__" 200),(.int 2 199)⟩,⟨PyData.keyHash P "__static_attributes__",(.str "__static_attributes__" 201),(.ref 22)⟩] 4),#[]⟩) <| cn (⟨(.type "tuple"),none,(.seq #[] 0),#[]⟩) <| cn (⟨.none,none,(.fields #[]),#[]⟩) <| r
noncomputable def ho1(P:Params)(r:List Obj):List Obj:=cn (⟨(.type "code"),none,(.fields #[(.str "FloorError" 191),(.str "FloorError" 192),(.str "/claim/cut.py" 193),(.int 2 0),(.int 0 0),(.int 0 0),(.int 0 0),(.int 0 0),(.ref 18),(.bool false),(.int 181 0),(.ref 19),.none,.none,.none,.none,(.int 194 0),(.int 2 0),(.str "/claim/cut.py" 195)]),#[]⟩) <| cn (⟨(.type "frame"),none,.plain,#[some (.ref 20),some (.ref 3),some (.ref 17),none,some (.str "matefloors.errors" 187),none,some (.ref 0)]⟩) <| cn (⟨(.type "tuple"),none,(.seq #[] 0),#[]⟩) <| cn (⟨(.type "dict"),none,(.dict #[⟨PyData.keyHash P "__module__",(.str "__module__" 196),(.str "matefloors.errors" 187)⟩,⟨PyData.keyHash P "__firstlineno__",(.str "__firstlineno__" 200),(.int 2 199)⟩,⟨PyData.keyHash P "__static_attributes__",(.str "__static_attributes__" 201),(.ref 22)⟩,⟨PyData.keyHash P "__weakref__",(.str "__weakref__" 203),(.ref 25)⟩,⟨PyData.keyHash P "__doc__",(.str "__doc__" 204),.none⟩] 3),#[]⟩) <| cn (⟨(.type "type"),none,(.cls ⟨"FloorError",[(.type "ValueError")],[(.ref 24),(.type "ValueError"),(.type "Exception"),(.type "BaseException"),(.type "object")],23,"FloorError",true,[],[(.ref 37),(.ref 49),(.ref 61)],false,none,false⟩),#[some (.ref 15),none,some (.str "FloorError" 189),some (.str "FloorError" 197),some (.builtin "ValueError.__new__"),some (.bool true)]⟩) <| cn (⟨(.type "getset_descriptor"),none,(.fields #[(.str "__weakref__" 202),(.ref 24),(.builtin "ExceptionGroup.__weakref__"),.none]),#[]⟩) <| cn (⟨(.type "super"),none,(.fields #[(.ref 24),(.ref 24),(.ref 24)]),#[]⟩) <| cn (⟨(.type "builtin_function_or_method"),none,(.fields #[(.builtin "object.__init_subclass__"),(.ref 24)]),#[]⟩) <| cB P "NoNumber" 28 209 4 <| cB P "NoLaying" 40 225 6 <| cB P "NoKinds" 52 241 8 <| cn (⟨(.type "tuple"),none,(.seq #[(.int 0 257),(.int 0 258),(.int 1 259)] 0),#[]⟩) <| fB 7 65 261 [] m0 <| fB 8 72 268 [] m0 <| fB 9 79 276 ["a","b","c"] m0 <| fB 10 86 286 [] m0 <| fB 11 93 295 ["divisor"] m0 <| fB 12 100 305 [] m0 <| fB 13 107 313 [] m0 <| fB 14 114 322 [] m0 <| r
noncomputable def ho2(P:Params)(r:List Obj):List Obj:=fB 15 121 331 ["norm"] m0 <| fB 16 128 340 [] m0 <| fB 17 135 348 ["prevailing"] m0 <| fB 18 142 358 ["a","b"] m0 <| fB 19 149 369 [] m0 <| fB 23 156 383 ["x","y","width","height"] m1 <| fL 24 163 395 m1 <| fB 25 168 401 ["x","y","width","height"] m1 <| fB 26 175 412 ["low","high","middle"] m1 <| fB 27 182 424 ["marks","x","place"] m1 <| fB 28 189 435 [] m1 <| fL 29 196 443 m1 <| fL 30 201 449 m1 <| fL 31 206 455 m1 <| fB 32 211 461 [] m1 <| fB 33 218 469 [] m1 <| fL 34 225 477 m1 <| fL 35 230 483 m1 <| fB 37 235 491 ["_law_digit"] m2 <| fB 38 242 500 [] m2 <| r
noncomputable def ho3(P:Params)(r:List Obj):List Obj:=fB 39 249 508 ["_law_common"] m2 <| fB 40 256 518 [] m2 <| fB 41 263 526 ["_law_x","_law_sign_here"] m2 <| fB 42 270 536 ["_law_wide","_law_a","_law_b","_law_c","_law_way"] m2 <| fB 43 277 548 ["_law_first","_law_second","_law_sides_here"] m2 <| fB 44 284 559 [] m2 <| fL 45 291 566 m2 <| fB 46 296 572 [] m2 <| fB 47 303 581 [] m2 <| fL 48 310 590 m2 <| fB 49 315 596 [] m2 <| fB 50 322 603 ["_law_cell","_law_great","_law_primes","_law_mixed_here"] m2 <| fL 51 329 615 m2 <| fB 52 334 621 ["_law_columns","_law_rows","_law_blocks_here"] m2 <| fL 53 341 632 m2 <| fB 54 346 638 ["_law_xs","_law_ys","_law_tiles","_law_column","_law_row","_law_wide","_law_high","_law_width","_law_height"] m2 <| fB 55 353 658 ["_law_found","_law_side_here"] m2 <| fB 56 360 667 [] m2 <| fL 57 367 675 m2 <| fB 58 372 681 ["_law_x","_law_sign_here"] m2 <| r
noncomputable def ho4(P:Params)(r:List Obj):List Obj:=fL 59 379 692 m2 <| fB 60 384 698 [] m2 <| fB 61 391 706 ["_law_draw"] m2 <| fB 62 398 714 ["_law_met","_law_found","_law_most","_law_row","_law_column","_law_wide","_law_high","_law_k"] m2 <| fB 63 405 731 ["_law_found"] m2 <| fL 64 412 742 m2 <| fL 65 417 748 m2 <| fL 66 422 754 m2 <| fB 67 427 760 ["_law_k","_law_bag_here","_law_d","_law_first","_law_second","_law_laying_here","_law_one"] m2 <| r
noncomputable def hT(P:Params):Heap:=⟨⟨ho0 P <| ho1 P <| ho2 P <| ho3 P <| ho4 P []⟩,(boot_heap P).life⟩
abbrev mz0:Str:="matefloors.numbers"
abbrev mz1:Str:="matefloors.layings"
abbrev mz2:Str:="law_matefloors_k09_shapes_and_kinds"
def isNm:Stmt->Bool
 |.Assign [.Name x _] _ _=>x == "__name__"
 |_=>false
def V:Program:={R.row.prog with main:={R.row.prog.main with body:=R.row.prog.main.body.filter fun s=>!isNm s}}
def as:List Addr:=[3,71,70,78,77,85,84,92,91,99,98,106,105,113,112,120,119,127,126,134,133,141,140,148,147,155,154,162,161,167,166,174,173,181,180,188,187,195,194,200,199,205,204,210,209,217,216,224,223,229,228,234,233,241,240,248,247,255,254,262,261,269,268,276,275,283,282,290,289,295,294,302,301,309,308,314,313,321,320,328,327,333,332,340,339,345,344,352,351,359,358,366,365,371,370,378,377,383,382,390,389,397,396,404,403,411,410,416,415,421,420,426,425,433,432,64]
def tabs:List Addr:=[423,428]
noncomputable def K(P:Params):Frag:=as.map fun a=>(a,((hT P).get? a).getD default)
noncomputable def TF(P:Params):Frag:=tabs.map fun a=>(a,((hT P).get? a).getD default)
noncomputable def KF(P:Params):Frag:=K P++TF P
theorem kAs(P:Params):as++tabs=(KF P).map (·.1):=by
 unfold KF K TF
 rw[map_append,map_map,map_map]
 exact congr (congrArg HAppend.hAppend (List.map_id _).symm) (List.map_id _).symm
noncomputable def HK:Hook:=kHook KF (as++tabs) kAs
def posOf:Stmt->Pos
 |.FunctionDef _ _ _ _ _ _ _ _ _ p=>p
 |_=>⟨0,0,0,0⟩
def D:DefRec:=⟨"law",ki K09.qw,i9 K09.qw,ax K09.qw,posOf K09.qw⟩
def Xt:Shared->Bool:=fun s=>xlAt V [] s&&recOk R.row.records s
theorem runC(P:Params):(sT P).map (fun s=>(s.heap,s.gens,s.drawn,s.toks))=some (hT P,#[],{},774):=⟨⟩
theorem TR{A B C D:Type}{a a':A}{b b':B}{c c':C}{d d':D}(h:(a,b,c,d)=(a',b',c',d')):a=a'/\b=b'/\c=c'/\d=d':=by
 cases h;exact⟨rfl,rfl,rfl,rfl⟩
theorem run(w:World)(os:OsState):topRun treeTable R.row.prog w 11 (some (.ref 6)) 20000 {heap:=boot_heap w.params,gens:=#[],drawn:=boot_drawn,toks:=boot_toks,os:=os} (topStub R.row.prog)=some {heap:=hT w.params,gens:=#[],drawn:={},toks:=774,os:=os}:=by
 have h:=runC w.params
 cases e:sT w.params with
 |none=>rw[e] at h;cases h
 |some s=>
  rw[e] at h
  obtain⟨heap,gens,drawn,toks,os0⟩:=s
  have h':some (heap,gens,drawn,toks)=some (hT w.params,(#[]:Array GenState),({}:Drawn),774):=h
  obtain⟨rfl,rfl,rfl,rfl⟩:=TR (Option.some.inj h')
  exact yU (w:=w) (os:=os) ((xR _ _ _).symm.trans e)
theorem SX(w:World)(os:OsState):(staticsOk (importedModules R.row.prog.main.body) (boot_heap w.params) (hT w.params)&&namesBound R.row.prog (hT w.params)&&gensDone {heap:=hT w.params,gens:=#[],drawn:={},toks:=774,os:=os}&&laidKept (boot_heap w.params) (hT w.params))=true:=⟨⟩
theorem QW(w:World)(os:OsState):seen (List.map (fun x=>x.name) (recsOf V)) (ownsOf V) [] {heap:=hT w.params,drawn:={},toks:=774,os:=os} = expectedOf V:=⟨⟩
theorem P9(w:World)(os:OsState):(hT w.params).bltView=bltViewBooted:=⟨⟩
theorem PH(w:World)(os:OsState):((hT w.params).keysOk (looseW V LO) (List.map (fun x=>x.name) (recsOf V)) (List.map (fun x=>x.fst) (litsOf V)) (List.map (fun x=>x.name) (clssOf V (looseW V LO)))&&(hT w.params).accountedOkI (importedModules R.row.prog.main.body)&&(hT w.params).isNs mainGlobals&&(hT w.params).isNs builtinsNs&&tablesOk V (hT w.params)&&Xt {heap:=hT w.params,gens:=#[],drawn:={},toks:=774,os:=os}&&(if true=true then (#[]:Array GenState).size==0 else !leftWithCleanup (#[]:Array GenState)))=true:=⟨⟩
theorem Qt(w:World)(os:OsState):tabsOk V {heap:=hT w.params,gens:=#[],drawn:={},toks:=774,os:=os} = true:=⟨⟩
theorem Qe(w:World)(os:OsState):pinSeenD V (drecsOf V) {heap:=hT w.params,gens:=#[],drawn:={},toks:=774,os:=os} = pinGoodD (drecsOf V):=⟨⟩
theorem RJ(w:World)(os:OsState):plainSeenE V (looseW V LO) {heap:=hT w.params,gens:=#[],drawn:={},toks:=774,os:=os} = plainGoodE V (looseW V LO):=⟨⟩
theorem Rq(w:World)(os:OsState):plainSeenD V LO {heap:=hT w.params,gens:=#[],drawn:={},toks:=774,os:=os} = plainGoodD V LO:=⟨⟩
theorem QF(w:World)(os:OsState):wideSeen V {heap:=hT w.params,gens:=#[],drawn:={},toks:=774,os:=os} = wideGood V:=⟨⟩
theorem Rn(w:World)(os:OsState):clsSeenW V LO {heap:=hT w.params,gens:=#[],drawn:={},toks:=774,os:=os} = clsGoodW V LO:=⟨⟩
theorem TB{A B C D E F G H I:Type}{a a':A}{b b':B}{c c':C}{d d':D}{e e':E}{f f':F}{g g':G}{h h':H}{i i':I}(h0:a=a')(h1:b=b')(h2:c=c')(h3:d=d')(h4:e=e')(h5:f=f')(h6:g=g')(h7:h=h')(h8:i=i'):(a,b,c,d,e,f,g,h,i)=(a',b',c',d',e',f',g',h',i'):=by
 rw[h0,h1,h2,h3,h4,h5,h6,h7,h8]
theorem R5(w:World)(os:OsState):openSeen V LO (importedModules R.row.prog.main.body) Xt true {heap:=hT w.params,gens:=#[],drawn:={},toks:=774,os:=os} = openGood V LO:=TB (QW w os) (P9 w os) (PH w os) (Qt w os) (Qe w os) (RJ w os) (Rq w os) (QF w os) (Rn w os)
theorem Sm(w:World)(os:OsState):HK.obs {heap:=hT w.params,gens:=#[],drawn:={},toks:=774,os:=os} = HK.val w:=⟨⟩
theorem seen(w:World):(fun os=>(staticsOk (importedModules R.row.prog.main.body) (boot_heap w.params) (hT w.params)&&namesBound R.row.prog (hT w.params)&&gensDone {heap:=hT w.params,gens:=#[],drawn:={},toks:=774,os:=os}&&laidKept (boot_heap w.params) (hT w.params),
  openSeen V LO (importedModules R.row.prog.main.body) Xt true {heap:=hT w.params,gens:=#[],drawn:={},toks:=774,os:=os},HK.obs {heap:=hT w.params,gens:=#[],drawn:={},toks:=774,os:=os}))=fun _:OsState=>(true,openGood V LO,HK.val w):=
 funext fun os=>Prod.ext (SX w os) (Prod.ext (R5 w os) (Sm w os))
theorem lkb{a b:Bool}(x:a=true)(y:b=true):(a&&b)=true:=by rw[x,y];rfl
theorem wsA:(sreFenced R.row.prog.main&&((moduleNames R.row.prog.main.body).isEmpty || lookedIntoSs (moduleNames R.row.prog.main.body) R.row.prog.main.body))=true:=⟨⟩
theorem wsB:namesResolve R.row.prog=true:=⟨⟩
theorem wsC:R.row.prog.boundNames.all (fun n=>!worldNames.contains n)=true:=⟨⟩
theorem wsD:noRoadLSs {strict:=!(importedModules R.row.prog.main.body).all cThrough.contains,foot:=none,bare:=(["vars","dir","locals"]:List Str).filter (readsOut R.row.prog R.row.prog.main.body)} R.row.prog.main.body=true:=⟨⟩
theorem wsE:(namesMeet R.row.prog R.row.prog.main.body fun _ n=>attrL n)=true:=⟨⟩
theorem wsF:looksOpen R.row.prog=true:=lkb (lkb (lkb (lkb wsA wsB) wsC) wsD) wsE
theorem wsG:R.row.wellSaid=true:=by
 unfold OpenRow.wellSaid OpenRow.partSaid
 rw[wsF]
 kernel_rfl
theorem wsH:noClassBlock R.prog R.footing=true:=⟨⟩
theorem wsI:noRoadLSs {strict:=true,foot:=some R.bound',writes:=R.writes,may:=R.may} R.footing=true:=⟨⟩
theorem wsJ:R.namesIt=true:=⟨⟩
theorem wsK:R.bound'.all (fun n=>!builtinNamed n || R.about==[n] || !R.reads n)=true:=⟨⟩
theorem wsL:namesMeet R.prog R.footing (fun sc n=>(!(["type","isinstance","issubclass","getattr","hasattr"]:List Str).contains n || sc.names.lookup n==some .globalImplicit)&&(R.may != some n || sc.kind==.module || sc.names.lookup n==some .globalImplicit))=true:=⟨⟩
theorem wsM:namesMeet R.prog R.above (fun _ n=>!R.own.contains n)=true:=⟨⟩
theorem wsN:(namesMeet R.prog R.footing fun sc n=>sc.kind==.module || sc.names.lookup n != some .globalExplicit)=true:=⟨⟩
theorem ws:R.wellSaid=true:=by
 unfold OpenLaw.wellSaid
 rw[wsG,wsH,wsI,wsJ,wsK,wsL,wsM,wsN]
 kernel_rfl
theorem PV(P:Params):FQ (K P) "is_whole" ic 71 70 255 mz0/\FQ (K P) "common_divisor" ck 78 77 255 mz0/\FQ (K P) "is_number" fo 85 84 255 mz0/\FQ (K P) "divisor_of_all" cp 92 91 255 mz0/\FQ (K P) "number" k0 99 98 255 mz0/\FQ (K P) "plus" u7 106 105 255 mz0/\FQ (K P) "times" qd 113 112 255 mz0/\FQ (K P) "over" uh 120 119 255 mz0/\FQ (K P) "contrary" gQ 127 126 255 mz0/\FQ (K P) "sign_of" ji 134 133 255 mz0/\FQ (K P) "sign_of_parts" cL 141 140 255 mz0/\FQ (K P) "is_above" g8 148 147 255 mz0/\FQ (K P) "is_above_nought" bS 155 154 255 mz0/\FQ (K P) "is_tile" jg 162 161 377 mz1:=
 by (repeat' apply And.intro)<;>first|kernel_rfl|decide
theorem Rj(P:Params):FQ (K P) "has_form" hE 167 166 377 mz1/\FQ (K P) "bounds_of" fe 174 173 377 mz1/\FQ (K P) "place_among" dF 181 180 377 mz1/\FQ (K P) "rising_marks" da 188 187 377 mz1/\FQ (K P) "reaches_just" cY 195 194 377 mz1/\FQ (K P) "covers_once" dE 200 199 377 mz1/\FQ (K P) "is_laying" fw 205 204 377 mz1/\FQ (K P) "is_kinds" hJ 210 209 377 mz1/\FQ (K P) "must_be_laying" cw 217 216 377 mz1/\FQ (K P) "must_be_kinds" cM 224 223 377 mz1/\FQ (K P) "shapes_in" fh 229 228 377 mz1/\FQ (K P) "is_by" qh 234 233 377 mz1/\FQ (K P) "_law_take" fq 241 240 489 mz2/\FQ (K P) "_law_contrary" cK 248 247 489 mz2:=
 by (repeat' apply And.intro)<;>first|kernel_rfl|decide
theorem RH(P:Params):FQ (K P) "_law_low" gT 255 254 489 mz2/\FQ (K P) "_law_shared" dz 262 261 489 mz2/\FQ (K P) "_law_above" d6 269 268 489 mz2/\FQ (K P) "_law_number" dn 276 275 489 mz2/\FQ (K P) "_law_sign" eY 283 282 489 mz2/\FQ (K P) "_law_minus" d8 290 289 489 mz2/\FQ (K P) "_law_shapes" dq 295 294 489 mz2/\FQ (K P) "_law_over" fu 302 301 489 mz2/\FQ (K P) "_law_times" eo 309 308 489 mz2/\FQ (K P) "_law_is_number" cu 314 313 489 mz2/\FQ (K P) "_law_is_whole" cJ 321 320 489 mz2/\FQ (K P) "_law_bag" gW 328 327 489 mz2/\FQ (K P) "_law_root" fj 333 332 489 mz2/\FQ (K P) "_law_laying" dD 340 339 489 mz2:=
 by (repeat' apply And.intro)<;>first|kernel_rfl|decide
theorem P5(P:Params):FQ (K P) "_law_pinwheel" cH 345 344 489 mz2/\FQ (K P) "_law_floor" d7 352 351 489 mz2/\FQ (K P) "_law_ends" eX 359 358 489 mz2/\FQ (K P) "_law_plus" fD 366 365 489 mz2/\FQ (K P) "_law_sides" eA 371 370 489 mz2/\FQ (K P) "_law_side" fg 378 377 489 mz2/\FQ (K P) "_law_mixed" d5 383 382 489 mz2/\FQ (K P) "_law_less" fE 390 389 489 mz2/\FQ (K P) "_law_many_cells" bT 397 396 489 mz2/\FQ (K P) "_law_blocks" dw 404 403 489 mz2/\FQ (K P) "_law_room" fc 411 410 489 mz2/\FQ (K P) "_law_few_tiles" cm 416 415 489 mz2/\FQ (K P) "_law_some_kinds" bU 421 420 489 mz2/\FQ (K P) "_law_is_told" cW 426 425 489 mz2:=
 by (repeat' apply And.intro)<;>first|kernel_rfl|decide
theorem QM(P:Params):FQ (K P) "law" qw 433 432 489 mz2/\nsIn (K P) mainGlobals "isinstance"=some none/\nsIn (K P) mainGlobals "int"=some none/\nsIn (K P) mainGlobals "bool"=some none/\nsIn (K P) mainGlobals "abs"=some none/\nsIn (K P) mainGlobals "tuple"=some none/\nsIn (K P) mainGlobals "len"=some none/\nsIn (K P) mainGlobals "all"=some none/\nsIn (K P) mainGlobals "set"=some none/\nsIn (K P) mainGlobals "range"=some none/\nsIn (K P) mainGlobals "enumerate"=some none/\nsIn (K P) mainGlobals "list"=some none/\nsIn (K P) mainGlobals "min"=some none/\nsIn (K P) mainGlobals "max"=some none:=
 by (repeat' apply And.intro)<;>first|kernel_rfl|decide
theorem Ru(P:Params):nsIn (K P) mainGlobals "MOST_KINDS"=some (some (.int 3 381))/\nsIn (K P) mainGlobals "MOST_TILES"=some (some (.int 60 379))/\(nsIn (K P) mainGlobals "NOUGHT"=some (some (.ref 64))/\(K P).lookup 64=some ⟨.type "tuple",none,.seq #[.int 0 257,.int 0 258,.int 1 259] 0,#[]⟩):=
 by (repeat' apply And.intro)<;>first|kernel_rfl|decide
theorem Ib(P:Params):((K P).filterMap fun p=>cV p.2)=[(423,("_law_is_told":Str)),(428,("law":Str))]/\((K P).lookup 425).bind cV=some (423,("_law_is_told":Str))/\((K P).lookup 432).bind cV=some (428,("law":Str))/\(KF P).lookup 423=some (tabObj #[])/\(KF P).lookup 428=some (tabObj #[])/\(K P).lookup 423=none/\(K P).lookup 428=none:=⟨⟨⟩,⟨⟩,⟨⟩,⟨⟩,⟨⟩,⟨⟩,⟨⟩⟩
theorem Ri(P:Params):((K P).filterMap fun p=>cV p.2)=[(423,("_law_is_told":Str)),(428,("law":Str))]:=(Ib P).1
theorem tH(P:Params):((K P).lookup 425).bind cV=some (423,("_law_is_told":Str)):=(Ib P).2.1
theorem JR{q2:Str}(h:((423:Addr),q2)∈([(423,("_law_is_told":Str)),(428,("law":Str))]:List (Addr×Str))):q2 = "_law_is_told":=by simpa using h
theorem Nw(P:Params):((K P).lookup 432).bind cV=some (428,("law":Str)):=(Ib P).2.2.1
theorem RU{q2:Str}(h:((428:Addr),q2)∈([(423,("_law_is_told":Str)),(428,("law":Str))]:List (Addr×Str))):q2 = "law":=by simpa using h
theorem lJ(P:Params):(KF P).lookup 423=some (tabObj #[])/\(K P).lookup 423=none:=⟨(Ib P).2.2.2.1,(Ib P).2.2.2.2.2.1⟩
theorem IX(P:Params):(KF P).lookup 428=some (tabObj #[])/\(K P).lookup 428=none:=⟨(Ib P).2.2.2.2.1,(Ib P).2.2.2.2.2.2⟩
theorem left:LeftO R.row.prog V LO Xt HK.obs HK.val 20000:=
 LeftO.of_pieces (H₀:=boot_heap) (H₁:=hT) (gs₀:=#[]) (gs₁:=#[]) (d₀:=boot_drawn) (d₁:={}) (k₀:=boot_toks) (k₁:=774) (m₀:=11) (ann:=some (.ref 6)) (M:=20000)
  (boot_open ⟨⟩ ⟨⟩ (fun s=>⟨⟩)) (fun w=>⟨⟩) run ⟨⟩ seen
end K09.H
namespace L2
open PySem PySem.Spec PyProof.Rows
noncomputable def iq(A:Around)(h:Heap):Prop:=A.handled=none\/∃(e:Addr) (oe:Obj) (vs:Array Value),A.handled=some (.ref e)/\h.get? e=some oe/\oe.data = .fields vs/\vs[2]? = some .none
theorem AJ:entryFor table "proto.unchain"=some Builtin.«proto.unchain»:=entryFor_of_tree ⟨⟩
section
variable {prog:Program}{w:World}{A:Around}{E:Value->Shared->Prop}{s:Shared}
theorem Cu{x e:Addr}{oe:Obj}{vs:Array Value}{Q:Value->Shared->Prop}(he:s.heap.get? e=some oe)(hd:oe.data = .fields vs)(h2:vs[2]? = some .none)(h:Q .none s) :
  wpAny (model prog w) A (runValue (.builtin "proto.unchain" ⟨[.ref x,.ref e,.ref e,.bool false],[]⟩)) Q E s:=by
 refine wpAny_runValue (codeAny_builtin AJ ?_)
 unfold Builtin.«proto.unchain»
 dsimp only
 refine wpAny_bind (wpAny_field he hd h2 ?_)
 rw[if_pos (by rfl)]
 exact wpAny_pure h
theorem zH{α:Type}{a:Addr}{oa:Obj}{ws:Array Value}{Q:α->Shared->Prop}(q:iq A s.heap)(ha:s.heap.get? a=some oa)(hda:oa.data = .fields ws)(hz:2<ws.size)
  (hnew:∀e oe,A.handled=some (.ref e)->s.heap.get? e=some oe->e≠a)
  (h:∀h',Heap.ExtBut a s.heap h'->(∃o',h'.get? a=some o'/\o'.cls=oa.cls)->E (.ref a) {s with heap:=h'}):wpAny (model prog w) A (raiseNew (.ref a):Sem α) Q E s:=by
 unfold raiseNew
 refine wpAny_bind (wpAny_handled ?_)
 rcases q with q|⟨e,oe,vs,q,he,hd,h2⟩
 ·rw[q]
  exact wpAny_bind (wpAny_pure (wpAny_throw (h s.heap (fun b o _ z=>z) ⟨oa,ha,rfl⟩)))
 ·rw[q]
  have ne:e≠a:=hnew e oe q he
  dsimp only
  rw[if_pos (by simp[ne])]
  refine wpAny_bind (wpAny_holding (Cu he hd h2 ?_))
  refine wpAny_bind ?_
  refine wpAny_setField ha hda hz (wpAny_throw ?_)
  have hd':=Obj.data_mapFields hda (·.setIfInBounds 2 (Value.ref e))
  exact h _ (Heap.SameBut.update ..).extBut ⟨_,Heap.get?_update_self _ ha (Obj.isFreed_of_fields hd'),Obj.cls_mapFields ..⟩
theorem xo{it:Addr}{α:Type}{h0:Heap}{Q:α->Shared->Prop}(q:iq A s.heap)(k:Heap.ExtBut it h0 s.heap)(kl:∀e oe,A.handled=some (.ref e)->s.heap.get? e=some oe->True)
  (h:∀h' a,Heap.ExtBut it h0 h'->(∃o',h'.get? a=some o'/\o'.cls = .type "StopIteration")->E (.ref a) {s with heap:=h'}):wpAny (model prog w) A (newExc (.type "StopIteration") []>>=fun e=>(raiseNew e:Sem α)) Q E s:=by
 refine wpAny_bind ?_;simp only[newExc,newTuple]
 refine wpAny_bind (wpAny_newObj_type ?_ (by size_fits));refine wpAny_bind (m:=firstArgMember _ _) (wpAny_of_eq (a:=Value.none) (by first|rfl|(simp only[firstArgMember];rfl)) ?_);refine wpAny_newObj_type ?_ (by size_fits)
 have q':∀o1 o2:Obj,iq A ((s.heap.push o1).push o2):=fun o1 o2=>by
  rcases q with q|⟨e,oe,vs,q,he,r⟩
  ·exact .inl q
  ·exact .inr ⟨e,oe,vs,q,Heap.get?_push_of_some _ (Heap.get?_push_of_some _ he),r⟩
 refine zH (q' _ _) (Heap.get?_push_size _ rfl) rfl (by rw[Array.size_append];exact lt_of_lt_of_le (by decide:2<6) (Nat.le_add_right _ _)) (fun e oe hq he z=>?_) fun h' hx ⟨o',ho',hc'⟩=>h h' _ (fun b o hb e=>hx b o ?_ (Heap.get?_push_of_some _ (Heap.get?_push_of_some _ (k b o hb e)))) ⟨o',ho',hc'⟩
 ·rcases q with q|⟨e1,oe1,vs,q,he1,r⟩
  ·rw[q] at hq;cases hq
  ·rw[q] at hq;cases hq
   exact absurd (Heap.lt_size he1) (by rw[z];simp)
 ·exact ne_of_lt (lt_of_lt_of_le (Heap.lt_size (k b o hb e)) (by simp))
theorem rT{it:Addr}{o:Obj}{ws:Array Value}{f:Array Value->Array Value}(q:iq A s.heap)(ho:s.heap.get? it=some o)(hd:o.data = .fields ws)(hn:∀e,A.handled=some (.ref e)->e≠it):iq A (s.heap.update it (Obj.mapFields f)):=by
 rcases q with q|⟨e,oe,vs,q,he,r⟩
 ·exact .inl q
 ·exact .inr ⟨e,oe,vs,q,by rw[Heap.get?_update_other _ _ (Ne.symm (hn e q))];exact he,r⟩
theorem Ag{it l:Addr}{i:Nat}{items}{Q:Option Value->Shared->Prop}(q:iq A s.heap)(hn:∀e,A.handled=some (.ref e)->e≠it)(hit:s.heap.IsListIter it l i)(hl:s.heap.IsList l items)(hx:items[i]? = none)
  (hQ:∀h',Heap.ExtBut it s.heap h'->Q none {s with heap:=h'}):wpAny (model prog w) A (pyNext (.ref it)) Q E s:=by
 obtain⟨o,ho,hc,hd⟩:=id hit
 obtain⟨ol,hol,_,nl,hdl⟩:=hl;unfold pyNext
 refine wpAny_bind (wpAny_attempt (wpAny_callSpecial?_slot (name:=Str.ofString "__next__") hit.typeIs slot_listiter_next (wpAny_call_entry slot_listiter_next hit.typeIs entry_listiter_next ?_ (args_listiter_next _))))
 show wpAny _ _ (field (.ref it) 0>>=_) _ _ s;refine wpAny_bind (wpAny_field ho hd (x:=.ref l) rfl ?_)
 show wpAny _ _ (if (Value.ref l==Value.none)=true then _ else _) _ _ s;rw[if_neg (show ¬ ((Value.ref l==Value.none)=true) from Bool.false_ne_true)]
 show wpAny _ _ (field (.ref it) 1>>=_) _ _ s;refine wpAny_bind (wpAny_field ho hd (x:=.int i 0) rfl ?_)
 show wpAny _ _ (seqItems? (.ref l)>>=_) _ _ s;refine wpAny_bind (wpAny_seqItems hol hdl ?_);simp only[Int.toNat_natCast,hx]
 refine wpAny_bind (wpAny_rule (wpAny_bind (wpAny_setField ho hd (by simp) ?_)))
 refine xo (it:=it) (h0:=s.heap) (A:=A.in1) (rT (A:=A.in1) q ho hd hn) (Heap.SameBut.update ..).extBut (fun _ _ _ _=>trivial) fun h' a hx' hq0=>?_
 obtain⟨o',ho',hc'⟩:=hq0
 refine wpAny_bind (wpAny_isInstance (T:="StopIteration") (b:=true) ⟨_,ho',hc'⟩ isSubtype_stop ?_);exact wpAny_pure (hQ _ hx')
theorem sI{it t:Addr}{i:Nat}{items}{Q:Option Value->Shared->Prop}(q:iq A s.heap)(hn:∀e,A.handled=some (.ref e)->e≠it)(hit:IsTupIter s.heap it t i)(ht:IsTup s.heap t items)(hx:items[i]? = none)
  (hQ:∀h',Heap.ExtBut it s.heap h'->Q none {s with heap:=h'}):wpAny (model prog w) A (pyNext (.ref it)) Q E s:=by
 obtain⟨o,ho,hc,hd⟩:=id hit
 obtain⟨ol,hol,_,nl,hdl⟩:=ht;unfold pyNext
 refine wpAny_bind (wpAny_attempt (wpAny_callSpecial?_slot (name:=Str.ofString "__next__") hit.typeIs slot_tupleiter_next (wpAny_call_entry slot_tupleiter_next hit.typeIs entry_tupleiter_next ?_ (args_tupleiter_next _))))
 show wpAny _ _ (field (.ref it) 0>>=_) _ _ s;refine wpAny_bind (wpAny_field ho hd (x:=.ref t) rfl ?_)
 show wpAny _ _ (if (Value.ref t==Value.none)=true then _ else _) _ _ s;rw[if_neg (show ¬ ((Value.ref t==Value.none)=true) from Bool.false_ne_true)]
 show wpAny _ _ (field (.ref it) 1>>=_) _ _ s;refine wpAny_bind (wpAny_field ho hd (x:=.int i 0) rfl ?_)
 show wpAny _ _ (seqItems? (.ref t)>>=_) _ _ s;refine wpAny_bind (wpAny_seqItems hol hdl ?_);simp only[Int.toNat_natCast,hx]
 refine wpAny_bind (wpAny_rule (wpAny_bind (wpAny_setField ho hd (by simp) ?_)))
 refine xo (it:=it) (h0:=s.heap) (A:=A.in1) (rT (A:=A.in1) q ho hd hn) (Heap.SameBut.update ..).extBut (fun _ _ _ _=>trivial) fun h' a hx' hq0=>?_
 obtain⟨o',ho',hc'⟩:=hq0
 refine wpAny_bind (wpAny_isInstance (T:="StopIteration") (b:=true) ⟨_,ho',hc'⟩ isSubtype_stop ?_);exact wpAny_pure (hQ _ hx')
theorem A2{env:Env}{elts:List Expr}{x1}{pos:Pos}{t:Addr}{items:Array Value}{Q:Unit->Shared->Prop}(q:iq A s.heap)(ht:IsTup s.heap t items)(hn:(assignEach elts env).length=items.size)
  (hstar:(assignEach elts env).findIdx? (·.1)=none) (h:∀h',Heap.ExtBut s.heap.objs.size s.heap h'->wpAny (model prog w) A (assignInOrder ((assignEach elts env).map (·.2)) items.toList) Q E {s with heap:=h'}) :
  wpAny (model prog w) A (assign (.Tuple elts x1 pos) env (.ref t)) Q E s:=by
 rw[assign_Tuple]
 refine wpAny_bind (wpAny_standAt ?_)
 unfold unpack;rw[hn,hstar]
 refine wpAny_bind (wpAny_holding ?_)
 have hlt:t≠s.heap.objs.size:=by obtain⟨o,ho,_⟩:=ht;exact ne_of_lt (Heap.lt_size ho)
 unfold unpackItems;refine wpAny_bind ?_
 unfold notIterableAtAll;refine wpAny_bind (wpAny_specialOf ht.typeIs slot_tuple_iter.lookup ?_);refine wpAny_pure ?_;simp only[false_eq_true,if_false]
 refine wpAny_bind (wpAny_holding (iter_tuple ht ?_))
 refine wpAny_bind (wpAny_holding (draw_tuple hlt items.size 0 _ _ ⟨_,Heap.get?_push_size _ rfl,rfl,rfl⟩ (ht.push _) ∅ fun dl wf u8=>?_))
 rw[show List.take items.size (List.drop 0 items.toList)=items.toList from by rw[List.drop_zero];exact List.take_of_length_le (by simp),if_neg (by simp)]
 have fr:∀e,A.handled=some (.ref e)->e≠s.heap.objs.size:=fun e hq=>by
  rcases q with q|⟨e1,oe1,vs,q,he1,r⟩
  ·rw[q] at hq;cases hq
  ·rw[q] at hq;cases hq;exact ne_of_lt (Heap.lt_size he1)
 have q1:iq A dl:=by
  rcases q with q|⟨e,oe,vs,q,he,r⟩
  ·exact .inl q
  ·exact .inr ⟨e,oe,vs,q,u8.extBut e oe (fr e q) (Heap.get?_push_of_some _ he),r⟩
 refine wpAny_bind (wpAny_holding (sI q1 fr wf ((ht.push _).extBut u8.extBut hlt) (by simp) fun sn wv=>?_));simp only[Option.isSome_none,false_eq_true,if_false]
 exact wpAny_pure (h sn fun b o hb e=>wv b o hb (u8.extBut b o hb (Heap.get?_push_of_some _ e)))
end
end L2
namespace L2
open PySem PySem.Spec PyProof.Rows
abbrev Key:=Sum Int Str
def Pm:Key->Value->Bool
 |.inl k,v=>Value.isInt k v
 |.inr x,v=>Value.isStrOf x v
def T5(w:World):Key->Int
 |.inl k=>hashInt k
 |.inr x=>hashStr w x
theorem cQ:∀{k:Key} {v:Value},Pm k v=true->(∃i t,k=Sum.inl i/\v=Value.int i t)\/(∃x t,k=Sum.inr x/\v=Value.str x t)
 |.inl i,v,h=>by
  obtain⟨t,e⟩:=Value.isInt_shape (k:=i) (v:=v) h
  exact .inl ⟨i,t,rfl,e⟩
 |.inr x,v,h=>by
  obtain⟨t,e⟩:=Value.isStrOf_shape (x:=x) (v:=v) h
  exact .inr ⟨x,t,rfl,e⟩
theorem Qb(a b:Int):decide ((Sum.inl a:Key)=Sum.inl b)=(a==b):=by
 by_cases e:a=b
 ·subst e;simp
 ·have h:¬ (Sum.inl a:Key)=Sum.inl b:=fun q=>e (Sum.inl.inj q)
  rw[decide_eq_false h]
  exact (beq_eq_false_iff_ne.mpr e).symm
theorem Rc(a b:Str):decide ((Sum.inr a:Key)=Sum.inr b)=decide (a=b):=by
 by_cases e:a=b
 ·subst e;simp
 ·have h:¬ (Sum.inr a:Key)=Sum.inr b:=fun q=>e (Sum.inr.inj q)
  rw[decide_eq_false h,decide_eq_false e]
theorem QE(a:Int)(b:Str):decide ((Sum.inl a:Key)=Sum.inr b)=false:=decide_eq_false (fun q=>nomatch q)
theorem Rx(a:Str)(b:Int):decide ((Sum.inr a:Key)=Sum.inl b)=false:=decide_eq_false (fun q=>nomatch q)
def Jd(prog:Program)(w:World):PySem.KeyKind prog w Key where
 is:=Pm
 hash:=T5 w
 inj:=fun v a b ha hb=>by
  rcases cQ ha with ⟨i,t,rfl,rfl⟩|⟨x,t,rfl,rfl⟩
  ·rcases cQ hb with ⟨j,u,rfl,e⟩|⟨y,u,rfl,e⟩
   ·injection e with e1 _;rw[e1]
   ·exact nomatch e
  ·rcases cQ hb with ⟨j,u,rfl,e⟩|⟨y,u,rfl,e⟩
   ·exact nomatch e
   ·injection e with e1 _;rw[e1]
 byValue:=fun k v h=>by
  rcases cQ h with ⟨i,t,rfl,rfl⟩|⟨x,t,rfl,rfl⟩<;>rfl
 pyHash:=fun hv h=>by
  rcases cQ hv with ⟨i,t,rfl,rfl⟩|⟨x,t,rfl,rfl⟩
  ·exact wpAny_pyHash_int h
  ·exact wpAny_pyHash_str h
 eqBool:=fun hu hv h=>by
  rcases cQ hu with ⟨i,t,rfl,rfl⟩|⟨x,t,rfl,rfl⟩
  ·rcases cQ hv with ⟨j,u,rfl,rfl⟩|⟨y,u,rfl,rfl⟩
   ·rw[Qb] at h;exact wpAny_eqBool_int h
   ·rw[QE] at h;exact SeqAt.EqAt.int_str i t y u _ _ _ _ h
  ·rcases cQ hv with ⟨j,u,rfl,rfl⟩|⟨y,u,rfl,rfl⟩
   ·rw[Rx] at h;exact SeqAt.EqAt.str_int x t j u _ _ _ _ h
   ·rw[Rc] at h;exact wpAny_eqBool_str h
 «strs»:=fun k x t v h=>by
  rcases cQ h with ⟨i,u,rfl,e⟩|⟨y,u,rfl,e⟩
  ·exact nomatch e
  ·injection e with e1 _
   subst e1
   cases v<;>rfl
end L2
namespace L2
open PySem PySem.Spec PyProof.Rows
inductive V where
 |non|bl (b:Bool)|int (i:Int)|str (x:Str)|byt (b:Array UInt8)|flt (b:UInt64)|ref (a:Addr)|ty (n:String)
 deriving DecidableEq
def RelV:V->Value->Prop
 |.non,u=>u=Value.none
 |.bl b,u=>u=Value.bool b
 |.int i,u=>∃t,u=Value.int i t
 |.str x,u=>∃t,u=Value.str x t
 |.byt b,u=>∃t,u=Value.bytes b t
 |.flt b,u=>∃t,u=Value.float b t
 |.ref a,u=>u=Value.ref a
 |.ty n,u=>u=Value.type n
abbrev Vals:List V->List Value->Prop:=Paired RelV
theorem Vals.length{xs:List V}{us:List Value}(r:Vals xs us):xs.length=us.length:=Paired.length r
theorem Vals.get:∀{xs:List V} {us:List Value} {i:Nat} {x:V},Vals xs us->xs[i]? = some x->∃u,us[i]? = some u/\RelV x u
 |_,_,_,_,.nil,e=>by simp at e
 |_,_,0,_,.cons r _,e=>by simp at e;subst e;exact⟨_,rfl,r⟩
 |_,_,i+1,x,.cons _ t,e=>by
  obtain⟨u,h1,h2⟩:=Vals.get (i:=i) (x:=x) t (by simpa using e)
  exact⟨u,by simpa using h1,h2⟩
theorem Vals.set{x:V}{u:Value}(r:RelV x u):∀{xs:List V} {us:List Value} (i:Nat),Vals xs us->Vals (xs.set i x) (us.set i u)
 |_,_,_,.nil=>.nil
 |_,_,0,.cons _ t=>.cons r t
 |_,_,i+1,.cons q t=>.cons q (Vals.set r i t)
theorem Vals.append:∀{xs ys:List V} {us ws:List Value},Vals xs us->Vals ys ws->Vals (xs++ys) (us++ws)
 |_,_,_,_,.nil,s=>s
 |_,_,_,_,.cons r t,s=>.cons r (Vals.append t s)
theorem Vals.take:∀{xs:List V} {us:List Value} (n:Nat),Vals xs us->Vals (xs.take n) (us.take n)
 |_,_,0,_=>.nil
 |_,_,_+1,.nil=>.nil
 |_,_,n+1,.cons r t=>.cons r (Vals.take n t)
theorem Vals.drop:∀{xs:List V} {us:List Value} (n:Nat),Vals xs us->Vals (xs.drop n) (us.drop n)
 |_,_,0,r=>r
 |_,_,_+1,.nil=>.nil
 |_,_,n+1,.cons _ t=>Vals.drop n t
def SU:Option V->Option Value->Prop
 |some v,some u=>RelV v u
 |none,none=>True
 |_,_=>False
def KV{κ:Type}:List (κ×V)->List (κ×Value)->Prop:=Paired fun (p:κ×V) (q:κ×Value)=>p.1=q.1/\RelV p.2 q.2
def kV:Key->V
 |.inl i=>.int i
 |.inr x=>.str x
inductive HO where
  /-- a list -/
 |lst (xs:List V)
  /-- a tuple (never changes) -/
 |tup (xs:List V)
  /-- a dict whose keys are ints and texts; one whose keys are tuples of ints and texts (the empty one is both) -/
 |dK (kvs:List (Key×V))|dT (kvs:List (List Key×V))
  /-- a set of ints: its members, its size -/
 |set (S:Int->Bool) (n:Nat)
  /-- an instance of the class at C, its dict at dx, its attributes -/
 |ins (C dx:Addr) (fs:List (Str×V))
  /-- the dict of the instance at x -/
 |own (x:Addr)
  /-- the dict of an exception -/
 |xd (fs:List (Str×V))
  /-- a bound method, f of x -/
 |met (f x:Addr)
  /-- a range object lo, lo + 1, .. below hi -/
 |rng (lo hi:Int)
  /-- a thing that is known to the object (the script; a dict while a loop walks it): read, never written while it is so -/
 |frz (o:Obj) (u:HO)
  /-- a code object's table -/
 |tbl (ps:Array Value)
  /-- any other thing, by what is true of its one object (a def of one's own: SetO a S n := HO.ext fun h => ..) -/
 |ext (φ:Heap->Prop)
  /-- the object itself; it may change -/
 |raw (o:Obj)
abbrev Hp:=Addr->Option HO
def upd(H:Hp)(a:Addr)(o:HO):Hp:=fun b=>if b=a then some o else H b
theorem eJ{H:Hp}{a:Addr}{o:HO}:upd H a o a=some o:=by unfold upd;rw[if_pos rfl]
theorem aV{H:Hp}{a b:Addr}{o:HO}(h:b≠a):upd H a o b=H b:=by unfold upd;rw[if_neg h]
theorem ba{H:Hp}{a b:Addr}{o:HO}(h:H a=some o)(h':H b=none):a≠b:=by
 intro e;subst e;rw[h] at h';cases h'
section
variable (P:Program)(w:World)
def iZ(H:Hp)(h:Heap)(a:Addr):HO->Prop
 |.lst xs=>xs.length<=sizeLine/\∃(its:List Value) (n:Nat),Vals xs its/\h.get? a=some {cls:=.type "list",data:=.seq its.toArray n}
 |.tup xs=>xs.length<=sizeLine/\∃its:List Value,Vals xs its/\IsTup h a its.toArray
 |.dK kvs=>kvs.length<=sizeLine/\(a==sysModules)=false/\∃vs,KV kvs vs/\h.DictOf (Jd P w) a vs
 |.dT kvs=>kvs.length<=sizeLine/\(a==sysModules)=false/\∃xs:List (List Key×Addr×Value),
   Paired (fun (p:List Key×V) (q:List Key×Addr×Value)=>p.1=q.1/\H q.2.1=some (.tup (p.1.map kV))/\RelV p.2 q.2.2) kvs xs /\
   ∃o es ep,h.get? a=some o/\o.ExactDict/\o.data = .dict es ep/\es.toList=xs.map (entryOfKey (tupleKind (Jd P w)))/\(xs.map (·.1)).Nodup
 |.set S n=>h.SetOf (intKind P w) a S n
 |.ins C dx fs=>H dx=some (.own a)/\fs.length<=1000/\dx≠a/\h.get? a=some (PySem.W.instObj C dx) /\
   ∃mA,h.Ns1 dx mA/\(∀f,SU (fs.lookup f) (mA f))/\PySem.Within mA (fs.map (·.1))
 |.own _=>∃o,h.get? a=some o
 |.xd fs=>∃mA,h.Ns1 a mA/\∀f,SU (fs.lookup f) (mA f)
 |.rng lo hi=>∃t u v,h.get? a=some {cls:=.type "range",data:=.fields #[.int lo t,.int hi u,.int 1 v]}
 |.frz o u=>h.get? a=some o/\iZ H h a u
 |.tbl ps=>h.get? a=some {cls:=.none,data:=.fields ps}
 |.met f x=>h.get? a=some (PySem.W.methodObj (.ref f) (.ref x))
 |.ext φ=>φ h/\(∃o,h.get? a=some o)/\∀h1 h2:Heap,φ h1->(∀o,h1.get? a=some o->h2.get? a=some o)->φ h2
 |.raw o=>h.get? a=some o
noncomputable def HOk(H:Hp)(h:Heap):Prop:=∀a o,H a=some o->iZ P w H h a o
end
section
variable {P:Program}{w:World}{H H':Hp}{h h':Heap}{a:Addr}{o:HO}
theorem iZ.lt(x:iZ P w H h a o):a<h.objs.size:=by
 cases o with
 |lst xs=>obtain⟨_,_,_,_,e⟩:=x;exact Heap.lt_size e
 |tup xs=>obtain⟨_,_,_,p⟩:=x;exact p.lt
 |dK kvs=>obtain⟨_,_,_,_,o,_,_,e,_⟩:=x;exact Heap.lt_size e
 |dT kvs=>obtain⟨_,_,_,_,o,_,_,e,_⟩:=x;exact Heap.lt_size e
 |set S n=>obtain⟨o,_,_,_,e,_⟩:=x;exact Heap.lt_size e
 |ins C dx fs=>obtain⟨_,_,_,e,_⟩:=x;exact Heap.lt_size e
 |own y=>obtain⟨_,e⟩:=x;exact Heap.lt_size e
 |xd fs=>obtain⟨_,⟨_,_,_,e,_⟩,_⟩:=x;exact Heap.lt_size e
 |rng lo hi=>obtain⟨_,_,_,e⟩:=x;exact Heap.lt_size e
 |frz ob u=>obtain⟨e,_⟩:=x;exact Heap.lt_size e
 |tbl ps=>exact Heap.lt_size (show h.get? a=some _ from x)
 |met f y=>exact Heap.lt_size (show h.get? a=some _ from x)
 |ext φ=>obtain⟨_,⟨_,e⟩,_⟩:=x;exact Heap.lt_size e
 |raw ob=>exact Heap.lt_size (show h.get? a=some ob from x)
theorem Paired.Pe{α β:Type}{F G:α->β->Prop}:∀{v6:List α} {v4:List β},Paired F v6 v4->(∀a b,F a b->G a b)->Paired G v6 v4
 |_,_,.nil,_=>.nil
 |_,_,.cons r t,f=>.cons (f _ _ r) (Paired.Pe t f)
theorem iZ.sC(x:iZ P w H h a o)(k:∀b u,(b=a\/H b=some (.own a))->h.get? b=some u->h'.get? b=some u)
  (ho:∀b,H b=some (.own a)->H' b=some (.own a)) (ht:∀b xs,H b=some (.tup xs)->H' b=some (.tup xs)):iZ P w H' h' a o:=by
 induction o with
 |lst xs=>obtain⟨z,its,n,r,e⟩:=x;exact⟨z,its,n,r,k _ _ (.inl rfl) e⟩
 |tup xs=>obtain⟨z,its,r,ob,e,c⟩:=x;exact⟨z,its,r,ob,k _ _ (.inl rfl) e,c⟩
 |dK kvs=>obtain⟨z,y,vs,r,ob,es,ep,e,c⟩:=x;exact⟨z,y,vs,r,ob,es,ep,k _ _ (.inl rfl) e,c⟩
 |dT kvs=>
  obtain⟨z,y,xs,r,ob,es,ep,e,c⟩:=x
  exact⟨z,y,xs,Paired.Pe r fun p q z=>⟨z.1,ht _ _ z.2.1,z.2.2⟩,ob,es,ep,k _ _ (.inl rfl) e,c⟩
 |set S n=>obtain⟨ob,es,ep,t,e,c⟩:=x;exact⟨ob,es,ep,t,k _ _ (.inl rfl) e,c⟩
 |ins C dx fs=>
  obtain⟨d,z,ne,e,mA,⟨od,es,ep,e2,c⟩,r⟩:=x
  exact⟨ho _ d,z,ne,k _ _ (.inl rfl) e,mA,⟨od,es,ep,k _ _ (.inr d) e2,c⟩,r⟩
 |own y=>obtain⟨ob,e⟩:=x;exact⟨ob,k _ _ (.inl rfl) e⟩
 |xd fs=>obtain⟨mA,⟨od,es,ep,e,c⟩,r⟩:=x;exact⟨mA,⟨od,es,ep,k _ _ (.inl rfl) e,c⟩,r⟩
 |rng lo hi=>obtain⟨t,u,v,e⟩:=x;exact⟨t,u,v,k _ _ (.inl rfl) e⟩
 |frz ob u ih=>obtain⟨e,q⟩:=x;exact⟨k _ _ (.inl rfl) e,ih q⟩
 |tbl ps=>
  have e:h.get? a=some {cls:=.none,data:=.fields ps}:=x
  show h'.get? a=some {cls:=.none,data:=.fields ps}
  exact k a _ (.inl rfl) e
 |met f y=>
  have e:h.get? a=some (PySem.W.methodObj (.ref f) (.ref y)):=x
  show h'.get? a=some (PySem.W.methodObj (.ref f) (.ref y))
  exact k a _ (.inl rfl) e
 |raw ob=>
  have e:h.get? a=some ob:=x
  show h'.get? a=some ob
  exact k a _ (.inl rfl) e
 |ext φ=>obtain⟨p,⟨o,e⟩,st⟩:=x;exact⟨st _ _ p fun o q=>k _ _ (.inl rfl) q,⟨o,k _ _ (.inl rfl) e⟩,st⟩
theorem HOk.lt(x:HOk P w H h)(e:H a=some o):a<h.objs.size:=(x a o e).lt
theorem HOk.fresh(x:HOk P w H h)(e:h.objs.size<=a):H a=none:=by
 cases q:H a with
 |none=>rfl
 |some u=>exact absurd (lt_of_lt_of_le (x.lt q) e) (lt_irrefl _)
theorem HOk.kept(x:HOk P w H h)(k:∀b u,h.get? b=some u->h'.get? b=some u):HOk P w H h':=fun a o e=>
 (x a o e).sC (fun b u _ q=>k b u q) (fun _ q=>q) fun _ _ q=>q
theorem HOk.laid(x:HOk P w H h)(k:∀b u,h.get? b=some u->h'.get? b=some u)(hp:h.objs.size<=a)(new:iZ P w (upd H a o) h' a o):HOk P w (upd H a o) h':=fun b u e=>by
 have hn:=x.fresh hp
 by_cases hb:b=a
 ·subst hb;rw[eJ] at e;cases e;exact new
 ·rw[aV hb] at e
  exact (x b u e).sC (fun c v _ q=>k c v q) (fun c q=>by rw[aV (ba q hn)];exact q) fun c xs q=>by rw[aV (ba q hn)];exact q
end
noncomputable def Rd(H:Hp)(a:Addr)(u:HO):Prop:=H a=some u\/∃o,H a=some (.frz o u)
theorem Rd.ok{P:Program}{w:World}{H:Hp}{h:Heap}{a:Addr}{u:HO}(r:Rd H a u)(x:HOk P w H h):iZ P w H h a u:=by
 rcases r with r|⟨o,r⟩
 ·exact x a u r
 ·obtain⟨_,q⟩:=x a _ r
  exact q
def Mut:Option HO->Prop
 |some (.lst _)=>True
 |some (.dK _)=>True
 |some (.dT _)=>True
 |some (.set _ _)=>True
 |some (.ins _ _ _)=>True
 |some (.ext _)=>True
 |some (.raw _)=>True
 |_=>False
section
variable {P:Program}{w:World}{H:Hp}{h h':Heap}{x e:Addr}{o':HO}
theorem HOk.write(ok:HOk P w H h)(mu:Mut (H x))(he:e=x\/H e=some (.own x))(k:∀b u,b≠e->h.get? b=some u->h'.get? b=some u)(heo:∃u,h'.get? e=some u)
  (new:iZ P w (upd H x o') h' x o'):HOk P w (upd H x o') h':=fun b u q=>by
 have nown:∀c y,H c=some (.own y)->c≠x:=fun c y r z=>by subst z;rw[r] at mu;exact mu
 have ntup:∀c xs,H c=some (.tup xs)->c≠x:=fun c xs r z=>by subst z;rw[r] at mu;exact mu
 by_cases hb:b=x
 ·subst hb;rw[eJ] at q;cases q;exact new
 ·rw[aV hb] at q
  by_cases hbe:b=e
  ·have q':H b=some (.own x):=by
    rcases he with z|z
    ·exact absurd (hbe.trans z) hb
    ·rw[hbe];exact z
   rw[q] at q';cases q'
   obtain⟨v,hv⟩:=heo
   exact⟨v,by rw[hbe];exact hv⟩
  ·refine (ok b u q).sC (fun c v hc r=>k c v ?_ r) (fun c r=>by rw[aV (nown c b r)];exact r) fun c xs r=>by rw[aV (ntup c xs r)];exact r
   rcases hc with rfl|hc
   ·exact hbe
   ·rintro rfl
    rcases he with z|z
    ·exact nown c b hc z
    ·rw[hc] at z;cases z;exact hb rfl
end
structure Un(fs ex:List Addr)(H H':Hp)(h h':Heap):Prop where
 keep:∀b o,h.get? b=some o->H b=none->b ∉ fs->b ∉ ex->h'.get? b=some o
 slot:∀b o,h.get? b=some o->H b=none->b∈fs->b ∉ ex->∃sl,h'.get? b=some {o with slots:=sl}
 free:∀b o,h.get? b=some o->H b=none->b ∉ ex->H' b=none
 there:∀b o,h.get? b=some o->b ∉ ex->∃o',h'.get? b=some o'
 wN:∀b xs,H b=some (.tup xs)->H' b=some (.tup xs)
 uf:∀b o u,H b=some (.frz o u)->H' b=some (.frz o u)
 vj:∀b ps,H b=some (.tbl ps)->∃more,H' b=some (.tbl (ps++more))
section
variable {fs fs' ex ex':List Addr}{H H1 H2:Hp}{h h1 h2 h':Heap}{a x e:Addr}{o:HO}
theorem Un.any(u:Un fs ex H H1 h h1){b:Addr}{ob:Obj}(q:h.get? b=some ob)(n:H b=none)(hx:b ∉ ex):∃sl,h1.get? b=some {ob with slots:=sl}:=by
 by_cases hb:b∈fs
 ·exact u.slot b ob q n hb hx
 ·exact⟨ob.slots,u.keep b ob q n hb hx⟩
theorem Un.trans(a:Un fs ex H H1 h h1)(b:Un fs ex H1 H2 h1 h2):Un fs ex H H2 h h2 where
 keep:=fun c ob q n hc hx=>b.keep c ob (a.keep c ob q n hc hx) (a.free c ob q n hx) hc hx
 slot:=fun c ob q n hc hx=>by
  obtain⟨sl,e1⟩:=a.slot c ob q n hc hx
  obtain⟨sl',e2⟩:=b.slot c _ e1 (a.free c ob q n hx) hc hx
  exact⟨sl',e2⟩
 free:=fun c ob q n hx=>by
  obtain⟨o',e1⟩:=a.there c ob q hx
  exact b.free c o' e1 (a.free c ob q n hx) hx
 there:=fun c ob q hx=>by
  obtain⟨o',e1⟩:=a.there c ob q hx
  exact b.there c o' e1 hx
 wN:=fun c xs q=>b.wN c xs (a.wN c xs q)
 uf:=fun c ob xs q=>b.uf c ob xs (a.uf c ob xs q)
 vj:=fun c ps q=>by
  obtain⟨m1,e1⟩:=a.vj c ps q
  obtain⟨m2,e2⟩:=b.vj c _ e1
  exact⟨m1++m2,by rw[e2,Array.append_assoc]⟩
theorem Un.kept(k:∀b u,h.get? b=some u->h'.get? b=some u):Un fs ex H H h h':=
 ⟨fun b ob q _ _ _=>k b ob q,fun b ob q _ _ _=>⟨ob.slots,k b ob q⟩,fun _ _ _ n _=>n,fun b ob q _=>⟨ob,k b ob q⟩,fun _ _ q=>q,fun _ _ _ q=>q,fun _ ps q=>⟨#[],by rw[q];simp⟩⟩
theorem Un.refl:Un fs ex H H h h:=Un.kept fun _ _ q=>q
theorem Un.laid(k:∀b u,h.get? b=some u->h'.get? b=some u)(hp:h.objs.size<=a)(hn:H a=none):Un fs ex H (upd H a o) h h' where
 keep:=fun b u q _ _ _=>k b u q
 slot:=fun b u q _ _ _=>⟨u.slots,k b u q⟩
 free:=fun b u q n _=>by rw[aV (ne_of_lt (lt_of_lt_of_le (Heap.lt_size q) hp))];exact n
 there:=fun b u q _=>⟨u,k b u q⟩
 wN:=fun b xs q=>by rw[aV (ba q hn)];exact q
 uf:=fun b u xs q=>by rw[aV (ba q hn)];exact q
 vj:=fun b ps q=>⟨#[],by rw[aV (ba q hn),q];simp⟩
theorem Un.write(mu:Mut (H x))(he:e=x\/H e=some (.own x))(k:∀b u,b≠e->h.get? b=some u->h'.get? b=some u)(heo:∃u,h'.get? e=some u):Un fs ex H (upd H x o) h h':=by
 have hx:∀b,H b=none->b≠x:=fun b n z=>by subst z;rw[n] at mu;exact mu
 have hb:∀b,H b=none->b≠e:=fun b n z=>by
  subst z
  rcases he with r|r
  ·exact hx b n r
  ·rw[n] at r;cases r
 have hm:∀b u,H b=some u->¬ Mut (some u)->b≠x:=fun b u q nm z=>by subst z;rw[q] at mu;exact nm mu
 refine⟨fun b u q n _ _=>k b u (hb b n) q,fun b u q n _ _=>⟨u.slots,k b u (hb b n) q⟩,fun b u q n _=>by rw[aV (hx b n)];exact n,fun b u q _=>?_,
  fun b xs q=>by rw[aV (hm b _ q fun z=>z)];exact q,fun b u xs q=>by rw[aV (hm b _ q fun z=>z)];exact q,fun b ps q=>⟨#[],by rw[aV (hm b _ q fun z=>z),q];simp⟩⟩
 by_cases hbe:b=e
 ·subst hbe;exact heo
 ·exact⟨u,k b u hbe q⟩
end
def trk(h:Heap)(H:Hp):List Addr:=(List.range h.objs.size).filter fun a=>(H a).isSome
def Dz(h:Heap)(H:Hp):Heap:=PySem.W.hideAll h (trk h H)
theorem KY(h:Heap)(H:Hp):(Dz h H).objs.size=h.objs.size:=PySem.W.hideAll_size _ _
theorem MR{h:Heap}{H:Hp}{b:Addr}{o:Obj}(e:h.get? b=some o)(n:H b=none):(Dz h H).get? b=some o:=
 PySem.W.hideAll_get _ e fun hm=>by
  have q:(H b).isSome=true:=(List.mem_filter.mp hm).2
  rw[n] at q;simp at q
theorem NX{h:Heap}{H:Hp}{b:Addr}{o:Obj}(e:(Dz h H).get? b=some o):h.get? b=some o/\H b=none:=by
 have e':h.get? b=some o:=PySem.W.of_hideAll (trk h H) e
 refine⟨e',?_⟩
 cases q:H b with
 |none=>rfl
 |some x=>
  have hm:b∈trk h H:=List.mem_filter.mpr ⟨List.mem_range.mpr (Heap.lt_size e'),by simp[q]⟩
  have z:(Dz h H).get? b=none:=PySem.W.hideAll_none (trk h H) hm
  rw[z] at e;cases e
def NP(g h:Heap)(L:Addr):List (Addr×Obj):=(List.range h.objs.size).filterMap fun a=>if a=L\/(g.get? a).isSome=true then none else (h.get? a).map fun o=>(a,o)
def rest(g h:Heap)(L d:Addr):List (Addr×Obj):=(NP g h L).filter fun p=>decide (p.1≠d)
end L2
namespace L2
open PySem PySem.Spec PyProof.Rows
structure Mod(K:PySem.W.Frag)(mg:Str->Option Value)(base:Heap):Prop where
 kin:K.In base
 glob:base.Ns mainGlobals mg
 blt:∃mb,base.Ns builtinsNs mb/\∀x:Str,x ≠ "__name__"->mb x=bootBuiltins x
 nolimit:base.NoLimit
structure Cx where
 prog:Program
 w:World
 K:PySem.W.Frag
 mg:Str->Option Value
 base:Heap
 A:Around
 N:List Str
 io:Shared
 H₀:Hp
 env:Env
 outer:List Env
 stack:List Env
 ex:List Addr
 fn:Str->Bool
 calm:Bool
 pn:List (Addr×Obj)
 xe:Value->Shared->Prop
def frs(l:List Env):List Addr:=l.filterMap (·.frame)
abbrev Cx.fs(X:Cx):List Addr:=frs X.outer
noncomputable def Vis(sc:Scope)(x:Str):Prop:=sc.names.lookup x=some .local\/sc.names.lookup x=some .cell\/sc.names.lookup x=some .free
noncomputable def Loc(sc:Scope)(x:Str):Prop:=sc.names.lookup x=some .local\/sc.names.lookup x=some .cell
noncomputable def Look(env:Env)(h:Heap)(m:Str->Option Value)(x:Str)(u:Value):Prop:=
 (env.kindOf x=some .local/\m x=some u)\/((env.kindOf x=some .cell\/env.kindOf x=some .free)/\∃c,env.cells.lookup x=some c/\h.IsCell c (some u))
structure Cx.Ok(X:Cx):Prop where
 mod:Mod X.K X.mg X.base
 kind:X.env.scope.kind = .function
 glob:X.env.globals=mainGlobals
 blt:X.env.builtins=builtinsNs
 above:X.io.heap.objs.size<=X.env.locals
 inj:∀x y c,X.env.cells.lookup x=some c->X.env.cells.lookup y=some c->x=y
 has:∀x,(X.env.kindOf x=some .cell\/X.env.kindOf x=some .free)->∃c,X.env.cells.lookup x=some c
 cab:∀x c,X.fn x=true->X.env.cells.lookup x=some c->X.io.heap.objs.size<=c
 hd:X.calm=true->X.A.handled=none
 qt:X.A.handled=none\/∃(e:Addr) (oe:Obj) (vs:Array Value),X.A.handled=some (.ref e)/\(e,oe)∈X.pn/\oe.data = .fields vs/\vs[2]? = some .none
 frames:X.A.frames=some X.stack
 stk:X.stack=X.outer\/(X.stack=X.env::X.outer/\X.env.frame=some X.env.locals)
 exf:∀b∈X.ex,b≠X.env.locals/\∀x c,X.env.cells.lookup x=some c->c≠b
 bs:∀b o,X.base.get? b=some o->X.io.heap.get? b=some o/\X.H₀ b=none
 bsz:X.base.objs.size<=X.io.heap.objs.size
 BS:∀b o,X.base.get? b=some o->b ∉ X.ex
 O8:∀b∈X.ex,b ∉ X.fs
 zd:X.io.heap.FunFrames X.base X.outer
 frf:∀b∈X.fs,X.H₀ b=none
structure Inv(X:Cx)(pins:List (Addr×Obj))(σ:List (Option V))(H:Hp)(s:Shared):Prop where
 ok:X.Ok
 os:s.os=X.io.os
 bare:AllBare s.gens
 base:Un X.fs X.ex X.H₀ H X.io.heap s.heap
 loc:∃m,s.heap.Ns X.env.locals m/\∀(i:Nat) (x:Str) (v:V),X.N[i]? = some x->σ[i]? = some (some v)->Vis X.env.scope x->∃u,RelV v u/\Look X.env s.heap m x u
 cell:∀x c,X.env.cells.lookup x=some c->∃v,s.heap.IsCell c v
 free:H X.env.locals=none
 j3:∀x c,X.env.cells.lookup x=some c->H c=none
 pin:∀p∈X.pn++pins,s.heap.get? p.1=some p.2/\H p.1=none/\p.1≠X.env.locals/\p.1 ∉ X.fs/\∀v,p.2.data≠.cell v
 hok:HOk X.prog X.w H s.heap
 len:σ.length=X.N.length
section
variable {X:Cx}{pins:List (Addr×Obj)}{σ:List (Option V)}{H H':Hp}{s:Shared}{h':Heap}
theorem Inv.Hl(I:Inv X pins σ H s):iq X.A s.heap:=by
 rcases I.ok.qt with q|⟨e,oe,vs,q,hp,r⟩
 ·exact .inl q
 ·exact .inr ⟨e,oe,vs,q,(I.pin (e,oe) (mem_append_left _ hp)).1,r⟩
theorem Inv.hne(I:Inv X pins σ H s){b:Addr}(hb:∀p∈X.pn++pins,p.1≠b):∀e,X.A.handled=some (.ref e)->e≠b:=fun e he=>by
 rcases I.ok.qt with q|⟨e1,oe,vs,q,hp,r⟩
 ·rw[q] at he;cases he
 ·rw[q] at he;cases he;exact hb (e,oe) (mem_append_left _ hp)
theorem Cx.Ok.Uj(ok:X.Ok){b:Addr}{o:Obj}(e:X.base.get? b=some o):b ∉ X.fs:=fun hb=>by
 have:=(ok.zd.mem hb).1
 rw[e] at this;cases this
theorem Inv.bs(I:Inv X pins σ H s):∀b o,X.base.get? b=some o->s.heap.get? b=some o/\H b=none:=fun b o e=>
 ⟨I.base.keep b o (I.ok.bs b o e).1 (I.ok.bs b o e).2 (I.ok.Uj e) (I.ok.BS b o e),I.base.free b o (I.ok.bs b o e).1 (I.ok.bs b o e).2 (I.ok.BS b o e)⟩
theorem Inv.bk(I:Inv X pins σ H s):∀b o,X.base.get? b=some o->s.heap.get? b=some o:=fun b o e=>(I.bs b o e).1
theorem Inv.mod(I:Inv X pins σ H s):Mod X.K X.mg X.base:=I.ok.mod
theorem Inv.kIn(I:Inv X pins σ H s):X.K.In s.heap:=I.ok.mod.kin.keeps I.bk
theorem Inv.lt(I:Inv X pins σ H s):X.env.locals<s.heap.objs.size:=let ⟨_,hn,_⟩:=I.loc;hn.lt
theorem Inv.sz(I:Inv X pins σ H s):X.io.heap.objs.size<=s.heap.objs.size:=le_trans I.ok.above (Nat.le_of_lt I.lt)
theorem Inv.TY(I:Inv X pins σ H s){a:Addr}(h:s.heap.objs.size<=a):a ∉ X.fs:=fun hb=>by
 obtain⟨_,o,ho,_⟩:=I.ok.zd.mem hb
 exact absurd (lt_of_lt_of_le (Heap.lt_size ho) (le_trans I.sz h)) (lt_irrefl _)
theorem Inv.cne(I:Inv X pins σ H s):∀x c,X.env.cells.lookup x=some c->c≠X.env.locals:=fun x c e z=>by
 obtain⟨v,o,ho,hd⟩:=I.cell x c e
 obtain⟨m,⟨o',es,ep,ho',hd',_⟩,_⟩:=I.loc
 rw[z,ho'] at ho;cases ho;rw[hd'] at hd;cases hd
theorem Inv.zd(I:Inv X pins σ H s):s.heap.FunFrames X.base X.outer:=by
 have all:∀(l:List Env),(∀b∈frs l,b∈X.fs)->X.io.heap.FunFrames X.base l->s.heap.FunFrames X.base l:=by
  intro l
  induction l with
  |nil=>intro _ _;trivial
  |cons env r ih=>
   intro hs hl
   obtain⟨hk,⟨L,o,hf,hn,ho,hd⟩,hr⟩:=hl
   have hL:L∈X.fs:=hs L (by unfold frs;rw[filterMap_cons,hf];exact mem_cons_self)
   obtain⟨sl,e⟩:=I.base.slot L o ho (I.ok.frf L hL) hL fun z=>I.ok.O8 L z hL
   exact⟨hk,⟨L,_,hf,hn,e,hd⟩,ih (fun b hb=>hs b (by unfold frs;rw[filterMap_cons,hf];exact mem_cons_of_mem _ hb)) hr⟩
 exact all X.outer (fun _ hb=>hb) I.ok.zd
theorem Inv.stack(I:Inv X pins σ H s):s.heap.FunFrames X.base X.stack:=by
 rcases I.ok.stk with e|⟨e,hf⟩
 ·rw[e];exact I.zd
 ·rw[e]
  obtain⟨m,hn,_⟩:=I.loc
  refine .cons (by rw[I.ok.kind];decide) hf hn ?_ I.zd
  exact Heap.get?_none_of_le (le_trans I.ok.bsz I.ok.above)
theorem Inv.iO(I:Inv X pins σ H s):∀b∈frs X.stack,b∈X.env.locals::X.fs:=fun b hb=>by
 rcases I.ok.stk with e|⟨e,hf⟩
 ·rw[e] at hb;exact mem_cons_of_mem _ hb
 ·rw[e] at hb
  unfold frs at hb
  rw[filterMap_cons,hf] at hb
  exact hb
theorem Inv.p5(I:Inv X pins σ H s):∀b∈frs X.stack,H b=none:=fun b hb=>by
 rcases List.mem_cons.mp (I.iO b hb) with e|hb
 ·rw[e];exact I.free
 ·obtain⟨_,o,ho,_⟩:=I.ok.zd.mem hb
  exact I.base.free b o ho (I.ok.frf b hb) fun z=>I.ok.O8 b z hb
theorem Inv.step{g':Array GenState}{t':Nat}{d':Drawn}{ch:List Addr}(I:Inv X pins σ H s)
  (hch:∀b∈ch,(b∈X.ex\/X.io.heap.objs.size<=b)/\b≠X.env.locals/\(∀x c,X.env.cells.lookup x=some c->c≠b)/\∀p∈X.pn++pins,p.1≠b)
  (keep:∀b o,b≠X.env.locals->b ∉ X.fs->b ∉ ch->s.heap.get? b=some o->H b=none->h'.get? b=some o)
  (slot:∀b o,b≠X.env.locals->b∈X.fs->b ∉ ch->s.heap.get? b=some o->H b=none->∃sl,h'.get? b=some {o with slots:=sl}) (free:∀b o,b ∉ ch->s.heap.get? b=some o->H b=none->H' b=none)
  (there:∀b o,b ∉ ch->s.heap.get? b=some o->∃o',h'.get? b=some o')
  (wN:∀b xs,H b=some (.tup xs)->H' b=some (.tup xs)) (uf:∀b o u,H b=some (.frz o u)->H' b=some (.frz o u)) (vj:∀b ps,H b=some (.tbl ps)->∃more,H' b=some (.tbl (ps++more)))
  (ns:∀m,s.heap.Ns X.env.locals m->h'.Ns X.env.locals m) (hok:HOk X.prog X.w H' h') (hg:AllBare g') :
  Inv X pins σ H' {s with heap:=h',gens:=g',drawn:=d',toks:=t'}:=by
 have neL:∀b o,X.io.heap.get? b=some o->b≠X.env.locals:=fun b o e=>ne_of_lt (lt_of_lt_of_le (Heap.lt_size e) I.ok.above)
 have neC:∀b o,X.io.heap.get? b=some o->b ∉ X.ex->b ∉ ch:=fun b o e hx hb=>by
  rcases (hch b hb).1 with z|z
  ·exact hx z
  ·exact absurd (lt_of_lt_of_le (Heap.lt_size e) z) (lt_irrefl _)
 have cellK:∀x c,X.env.cells.lookup x=some c->∀v,s.heap.IsCell c v->h'.IsCell c v:=fun x c e v ⟨o,ho,hd⟩=>by
  have nch:c ∉ ch:=fun z=>(hch c z).2.2.1 x c e rfl
  by_cases hc:c∈X.fs
  ·obtain⟨sl,q⟩:=slot c o (I.cne x c e) hc nch ho (I.j3 x c e)
   exact⟨_,q,hd⟩
  ·exact⟨o,keep c o (I.cne x c e) hc nch ho (I.j3 x c e),hd⟩
 refine⟨I.ok,I.os,hg,⟨fun b o e n hb hx=>?_,fun b o e n hb hx=>?_,fun b o e n hx=>?_,fun b o e hx=>?_,fun b xs e=>wN b xs (I.base.wN b xs e),fun b o xs e=>uf b o xs (I.base.uf b o xs e),fun b ps e=>?_⟩,?_,fun x c e=>?_,?_,fun x c e=>?_,fun p hp=>?_,hok,I.len⟩
 ·exact keep b o (neL b o e) hb (neC b o e hx) (I.base.keep b o e n hb hx) (I.base.free b o e n hx)
 ·obtain⟨sl,e1⟩:=I.base.slot b o e n hb hx
  obtain⟨sl',e2⟩:=slot b _ (neL b o e) hb (neC b o e hx) e1 (I.base.free b o e n hx)
  exact⟨sl',e2⟩
 ·obtain⟨o',e1⟩:=I.base.there b o e hx
  exact free b o' (neC b o e hx) e1 (I.base.free b o e n hx)
 ·obtain⟨o',e1⟩:=I.base.there b o e hx
  exact there b o' (neC b o e hx) e1
 ·obtain⟨m1,e1⟩:=I.base.vj b ps e
  obtain⟨m2,e2⟩:=vj b _ e1
  exact⟨m1++m2,by rw[e2,Array.append_assoc]⟩
 ·obtain⟨m,hn,hl⟩:=I.loc
  refine⟨m,ns m hn,fun i x v e1 e2 e3=>?_⟩
  obtain⟨u,r,l⟩:=hl i x v e1 e2 e3
  refine⟨u,r,?_⟩
  rcases l with l|⟨k,c,e,z⟩
  ·exact .inl l
  ·exact .inr ⟨k,c,e,cellK x c e _ z⟩
 ·obtain⟨v,z⟩:=I.cell x c e
  exact⟨v,cellK x c e v z⟩
 ·obtain⟨m,⟨o,_,_,ho,_⟩,_⟩:=I.loc
  exact free _ o (fun z=>(hch _ z).2.1 rfl) ho I.free
 ·obtain⟨v,o,ho,hd⟩:=I.cell x c e
  exact free c o (fun z=>(hch c z).2.2.1 x c e rfl) ho (I.j3 x c e)
 ·obtain⟨e,n,ne,nf,d⟩:=I.pin p hp
  have nch:p.1 ∉ ch:=fun z=>(hch p.1 z).2.2.2 p hp rfl
  exact⟨keep p.1 p.2 ne nf nch e n,free p.1 p.2 nch e n,ne,nf,d⟩
theorem Inv.un{t':Nat}(I:Inv X pins σ H s)(u:Un X.fs [] H H' s.heap h')(hok:HOk X.prog X.w H' h'):Inv X pins σ H' {s with heap:=h',toks:=t'}:=by
 obtain⟨m,⟨o,es,ep,ho,r⟩,_⟩:=id I.loc
 obtain⟨sl,hL⟩:=u.any ho I.free (by simp)
 exact I.step (g':=s.gens) (d':=s.drawn) (ch:=[]) (fun _ z=>nomatch z) (fun b o _ hb _ e n=>u.keep b o e n hb (by simp)) (fun b o _ hb _ e n=>u.slot b o e n hb (by simp)) (fun b o _ e n=>u.free b o e n (by simp)) (fun b o _ e=>u.there b o e (by simp)) u.wN u.uf u.vj (fun m' hm=>by
  obtain⟨o',es',ep',ho',r'⟩:=hm
  rw[ho] at ho';cases ho'
  exact⟨_,es',ep',hL,r'⟩) hok I.bare
theorem Inv.call{g':Array GenState}{t':Nat}{d':Drawn}{ch:List Addr}(I:Inv X pins σ H s)(u:Un (frs X.stack) ch H H' s.heap h')(hok:HOk X.prog X.w H' h')(hg:AllBare g')
  (hch:∀b∈ch,(b∈X.ex\/X.io.heap.objs.size<=b)/\b≠X.env.locals/\(∀x c,X.env.cells.lookup x=some c->c≠b)/\∀p∈X.pn++pins,p.1≠b) :
  Inv X pins σ H' {s with heap:=h',gens:=g',drawn:=d',toks:=t'}:=by
 obtain⟨m,⟨o,es,ep,ho,r⟩,_⟩:=id I.loc
 obtain⟨sl,hL⟩:=u.any ho I.free fun z=>(hch _ z).2.1 rfl
 exact I.step (ch:=ch) hch (fun b o hL hb hc e n=>u.keep b o e n (fun z=>(List.mem_cons.mp (I.iO b z)).elim hL hb) hc) (fun b o _ _ hc e n=>u.any e n hc) (fun b o hc e n=>u.free b o e n hc) (fun b o hc e=>u.there b o e hc) u.wN u.uf u.vj (fun m' hm=>by
  obtain⟨o',es',ep',ho',r'⟩:=hm
  rw[ho] at ho';cases ho'
  exact⟨_,es',ep',hL,r'⟩) hok hg
theorem Inv.turned{t':Nat}{it:Addr}(I:Inv X pins σ H s)(k:∀b o,b≠it->s.heap.get? b=some o->h'.get? b=some o)(hn:H it=none)(hL:it≠X.env.locals)
  (h1:it∈X.ex\/X.io.heap.objs.size<=it) (h2:∀x c,X.env.cells.lookup x=some c->c≠it) (h3:∀p∈X.pn++pins,p.1≠it):Inv X pins σ H {s with heap:=h',toks:=t'}:=by
 have nit:∀b u,H b=some u->b≠it:=fun b u e z=>by rw[z,hn] at e;cases e
 refine I.step (g':=s.gens) (d':=s.drawn) (ch:=[it]) (fun b hb=>?_) (fun b o _ _ hc e _=>k b o (fun z=>hc (by simp[z])) e) (fun b o _ _ hc e _=>⟨o.slots,k b o (fun z=>hc (by simp[z])) e⟩) (fun _ _ _ _ n=>n)
  (fun b o hc e=>⟨o,k b o (fun z=>hc (by simp[z])) e⟩) (fun _ _ e=>e) (fun _ _ _ e=>e) (fun b ps e=>⟨#[],by rw[e];simp⟩) (fun m hm=>?_) (fun b u e=>?_) I.bare
 ·have e:b=it:=by simpa using hb
  subst e
  exact⟨h1,hL,h2,h3⟩
 ·obtain⟨o,es,ep,ho,r⟩:=hm
  exact⟨o,es,ep,k _ o (Ne.symm hL) ho,r⟩
 ·refine (I.hok b u e).sC (fun c v hc q=>k c v ?_ q) (fun _ q=>q) fun _ _ q=>q
  rcases hc with z|z
  ·rw[z];exact nit b u e
  ·exact nit c _ z
theorem Inv.tok(I:Inv X pins σ H s)(t:Nat):Inv X pins σ H {s with toks:=t}:=I.un (h':=s.heap) (t':=t) Un.refl I.hok
theorem Inv.kept{t':Nat}(I:Inv X pins σ H s)(k:∀b u,s.heap.get? b=some u->h'.get? b=some u):Inv X pins σ H {s with heap:=h',toks:=t'}:=I.un (Un.kept k) (I.hok.kept k)
theorem Inv.laid{a:Addr}{o:HO}{t':Nat}(I:Inv X pins σ H s)(k:∀b u,s.heap.get? b=some u->h'.get? b=some u)(hp:s.heap.objs.size<=a)(new:iZ X.prog X.w (upd H a o) h' a o) :
  Inv X pins σ (upd H a o) {s with heap:=h',toks:=t'}:=I.un (Un.laid k hp (I.hok.fresh hp)) (I.hok.laid k hp new)
theorem Inv.write{x e:Addr}{o:HO}{t':Nat}(I:Inv X pins σ H s)(mu:Mut (H x))(he:e=x\/H e=some (.own x))(k:∀b u,b≠e->s.heap.get? b=some u->h'.get? b=some u)(heo:∃u,h'.get? e=some u)
  (new:iZ X.prog X.w (upd H x o) h' x o):Inv X pins σ (upd H x o) {s with heap:=h',toks:=t'}:=I.un (Un.write mu he k heo) (I.hok.write mu he k heo new)
theorem Inv.Jq{pins':List (Addr×Obj)}(I:Inv X pins σ H s)(h:∀p∈pins',s.heap.get? p.1=some p.2/\H p.1=none/\p.1≠X.env.locals/\p.1 ∉ X.fs/\∀v,p.2.data≠.cell v):Inv X pins' σ H s:=
 ⟨I.ok,I.os,I.bare,I.base,I.loc,I.cell,I.free,I.j3,fun p hp=>(List.mem_append.mp hp).elim (fun z=>I.pin p (mem_append_left _ z)) (h p),I.hok,I.len⟩
theorem Gb{N:List Str}(hN:N.Nodup){i j:Nat}{x:Str}(a:N[i]? = some x)(b:N[j]? = some x):i=j:=by
 obtain⟨h1,e1⟩:=List.getElem?_eq_some_iff.mp a
 obtain⟨h2,e2⟩:=List.getElem?_eq_some_iff.mp b
 exact (List.getElem_inj hN).mp (e1.trans e2.symm)
theorem K1{M:Model}{A:Around}{E:Value->Shared->Prop}{i:Nat}{x:Str}{v:V}{u:Value}{Q:Unit->Shared->Prop}(I:Inv X pins σ H s)(hN:X.N.Nodup)(hi:X.N[i]? = some x)(hx:Loc X.env.scope x)(r:RelV v u)
  (h:∀s',Inv X pins (σ.set i (some v)) H s'->(∃a,Heap.SameBut a s.heap s'.heap/\(a=X.env.locals\/X.env.cells.lookup x=some a))->Q () s') (hf:X.fn x=true\/X.env.scope.names.lookup x=some .local:=by first|exact .inl rfl|exact .inr rfl|assumption):wpAny M A (storeName X.env x u) Q E s:=by
 obtain⟨m,hn,hl⟩:=id I.loc
 have hcls:(X.env.scope.kind==.class || (X.env.scope.kind==.module&&X.env.locals != X.env.globals))=false:=by rw[I.ok.kind];rfl
 have wr:i<σ.length:=by rw[I.len];exact (List.getElem?_eq_some_iff.mp hi).1
 have cne:=I.cne
 have tracked:∀{a:Addr} {h':Heap},(∃o,s.heap.get? a=some o/\H a=none)->Heap.SameBut a s.heap h'->HOk X.prog X.w H h':=fun {a h'} ha hs b ob e=>by
  obtain⟨_,_,hfree⟩:=ha
  refine (I.hok b ob e).sC (fun c w' hc q=>(hs.2 c ?_).trans q) (fun _ q=>q) fun _ _ q=>q
  rintro rfl
  rcases hc with rfl|hc
  ·rw[hfree] at e;cases e
  ·rw[hfree] at hc;cases hc
 rcases hx with hk|hk
 ·refine wpAny_storeName_local hk hn (fun h' hn' hs=>?_) hcls
  obtain⟨oL,_,_,hoL,_⟩:=id hn
  refine h _ ⟨I.ok,I.os,I.bare,⟨fun b o e n hb hx=>?_,fun b o e n hb hx=>?_,I.base.free,fun b o e hx=>?_,I.base.wN,I.base.uf,I.base.vj⟩,⟨_,hn',fun j y v' e1 e2 e3=>?_⟩,fun y c e=>?_,I.free,I.j3,fun p hp=>?_,tracked ⟨oL,hoL,I.free⟩ hs,by simpa using I.len⟩ ⟨_,hs,.inl rfl⟩
  ·exact (hs.2 b (ne_of_lt (lt_of_lt_of_le (Heap.lt_size e) I.ok.above))).trans (I.base.keep b o e n hb hx)
  ·obtain⟨sl,e1⟩:=I.base.slot b o e n hb hx
   exact⟨sl,(hs.2 b (ne_of_lt (lt_of_lt_of_le (Heap.lt_size e) I.ok.above))).trans e1⟩
  ·obtain⟨o',e1⟩:=I.base.there b o e hx
   exact⟨o',(hs.2 b (ne_of_lt (lt_of_lt_of_le (Heap.lt_size e) I.ok.above))).trans e1⟩
  ·by_cases hj:j=i
   ·subst hj
    rw[hi] at e1;cases e1
    rw[List.getElem?_set_self wr] at e2
    cases e2
    exact⟨u,r,.inl ⟨hk,by simp⟩⟩
   ·rw[List.getElem?_set_ne (Ne.symm hj)] at e2
    obtain⟨u',r',q⟩:=hl j y v' e1 e2 e3
    refine⟨u',r',?_⟩
    rcases q with ⟨k,e⟩|⟨k,c,e,z⟩
    ·refine .inl ⟨k,?_⟩
     have:y≠x:=fun e=>hj (Gb hN e1 (e▸hi))
     simp[this,e]
    ·exact .inr ⟨k,c,e,z.sameBut hs (cne y c e)⟩
  ·obtain⟨w',z⟩:=I.cell y c e
   exact⟨w',z.sameBut hs (cne y c e)⟩
  ·obtain⟨e,n,ne,nf,d⟩:=I.pin p hp
   exact⟨(hs.2 p.1 ne).trans e,n,ne,nf,d⟩
 ·have hfn:X.fn x=true:=by
   rcases hf with z|z
   ·exact z
   ·rw[z] at hk;cases hk
  obtain⟨c,hc⟩:=I.ok.has x (.inl hk)
  obtain⟨w',z⟩:=I.cell x c hc
  refine wpAny_storeName_cell I.ok.kind hk hc z (fun h' hc' hs=>?_)
  obtain⟨oc,hoc,hocd⟩:=id z
  refine h {s with heap:=h'} ⟨I.ok,I.os,I.bare,⟨fun b o e n hb hx=>?_,fun b o e n hb hx=>?_,I.base.free,fun b o e hx=>?_,I.base.wN,I.base.uf,I.base.vj⟩,⟨m,hn.sameBut hs (Ne.symm (cne x c hc)),fun j y v' e1 e2 e3=>?_⟩,fun y c' e=>?_,I.free,I.j3,fun p hp=>?_,tracked ⟨oc,hoc,I.j3 x c hc⟩ hs,by simpa using I.len⟩ ⟨c,hs,.inr hc⟩
  ·exact (hs.2 b (ne_of_lt (lt_of_lt_of_le (Heap.lt_size e) (I.ok.cab x c hfn hc)))).trans (I.base.keep b o e n hb hx)
  ·obtain⟨sl,e1⟩:=I.base.slot b o e n hb hx
   exact⟨sl,(hs.2 b (ne_of_lt (lt_of_lt_of_le (Heap.lt_size e) (I.ok.cab x c hfn hc)))).trans e1⟩
  ·obtain⟨o',e1⟩:=I.base.there b o e hx
   exact⟨o',(hs.2 b (ne_of_lt (lt_of_lt_of_le (Heap.lt_size e) (I.ok.cab x c hfn hc)))).trans e1⟩
  ·by_cases hj:j=i
   ·subst hj
    rw[hi] at e1;cases e1
    rw[List.getElem?_set_self wr] at e2
    cases e2
    exact⟨u,r,.inr ⟨.inl hk,c,hc,hc'⟩⟩
   ·rw[List.getElem?_set_ne (Ne.symm hj)] at e2
    obtain⟨u',r',q⟩:=hl j y v' e1 e2 e3
    refine⟨u',r',?_⟩
    rcases q with q|⟨k,c',e,z'⟩
    ·exact .inl q
    ·refine .inr ⟨k,c',e,z'.sameBut hs ?_⟩
     rintro rfl
     exact hj (Gb hN e1 (I.ok.inj _ _ _ e hc▸hi))
  ·by_cases hcc:c'=c
   ·subst hcc;exact⟨_,hc'⟩
   ·obtain⟨w2,z2⟩:=I.cell y c' e
    exact⟨w2,z2.sameBut hs hcc⟩
  ·obtain⟨e,n,ne,nf,d⟩:=I.pin p hp
   refine⟨(hs.2 p.1 ?_).trans e,n,ne,nf,d⟩
   intro q
   rw[q,hoc] at e
   have q':oc=p.2:=Option.some.inj e
   exact d w' (by rw[<- q'];exact hocd)
theorem gg{M:Model}{A:Around}{E:Value->Shared->Prop}{i:Nat}{x:Str}{v:V}{u:Value}{Q:Unit->Shared->Prop}(I:Inv X pins σ H s)(hN:X.N.Nodup)(hi:X.N[i]? = some x)(hx:Loc X.env.scope x)(r:RelV v u)
  (h:∀s',Inv X pins (σ.set i (some v)) H s'->Q () s') (hf:X.fn x=true\/X.env.scope.names.lookup x=some .local:=by first|exact .inl rfl|exact .inr rfl|assumption):wpAny M A (storeName X.env x u) Q E s:=
 K1 I hN hi hx r (fun s' I' _=>h s' I') hf
theorem Inv.zj{s':Shared}{ch:List Addr}(I:Inv X pins σ H s)(ho:s'.os=s.os)(u:Un (frs X.stack) ch H H' s.heap s'.heap)(hok:HOk X.prog X.w H' s'.heap)(hg:AllBare s'.gens)
  (hch:∀b∈ch,(b∈X.ex\/X.io.heap.objs.size<=b)/\b≠X.env.locals/\(∀x c,X.env.cells.lookup x=some c->c≠b)/\∀p∈X.pn++pins,p.1≠b):Inv X pins σ H' s':=by
 obtain⟨h',g',d',t',o'⟩:=s'
 have e:o'=s.os:=ho
 subst e
 exact I.call (g':=g') (t':=t') (d':=d') u hok hg hch
end
abbrev XK:=Value->Option Addr->Hp->Prop
abbrev St:=List (Option V)
abbrev VK:=V->Hp->Prop
abbrev TE:=St->Hp->VK->Prop
abbrev TT:=St->Hp->(Bool->Hp->Prop)->Prop
abbrev TA:=St->Hp->(List V->Hp->Prop)->Prop
structure Ends where
 nx:St->Hp->Prop
 rt:VK
 bk:St->Hp->Prop:=fun _ _=>False
 ct:St->Hp->Prop:=fun _ _=>False
abbrev TS:=Ends->St->Hp->Prop
noncomputable def EP(X:Cx)(pins:List (Addr×Obj))(σ:St)(Q:VK)(u:Value)(s':Shared):Prop:=∃v H',Inv X pins σ H' s'/\RelV v u/\Q v H'
noncomputable def TP(X:Cx)(pins:List (Addr×Obj))(σ:St)(Q:Bool->Hp->Prop)(b:Bool)(s':Shared):Prop:=∃H',Inv X pins σ H' s'/\Q b H'
noncomputable def AP(X:Cx)(pins:List (Addr×Obj))(σ:St)(Q:List V->Hp->Prop)(us:List Value)(s':Shared):Prop:=∃vs H',Inv X pins σ H' s'/\Vals vs us/\Q vs H'
noncomputable def SP(X:Cx)(pins:List (Addr×Obj))(D:Ends)(f:Flow)(s':Shared):Prop:=
 match f with
 |.next=>∃bn H',Inv X pins bn H' s'/\D.nx bn H'
 |.brk=>∃bn H',Inv X pins bn H' s'/\D.bk bn H'
 |.cont=>∃bn H',Inv X pins bn H' s'/\D.ct bn H'
 |.ret u=>∃v bn H',Inv X pins bn H' s'/\RelV v u/\D.rt v H'
noncomputable def PE(X:Cx)(e:Expr)(t:TE):Prop:=
 ∀(pins:List (Addr×Obj)) (s:Shared) (σ:St) (H:Hp) (Q:VK),Inv X pins σ H s->t σ H Q->wpAny (model X.prog X.w) X.A (eval e X.env) (EP X pins σ Q) X.xe s
noncomputable def PT(X:Cx)(e:Expr)(t:TT):Prop:=
 ∀(pins:List (Addr×Obj)) (s:Shared) (σ:St) (H:Hp) (Q:Bool->Hp->Prop),Inv X pins σ H s->t σ H Q->wpAny (model X.prog X.w) X.A (isTrue e X.env (eval e X.env)) (TP X pins σ Q) X.xe s
noncomputable def PW(X:Cx)(e:Expr)(t:TT):Prop:=
 ∀(whole:Sem Value) (pins:List (Addr×Obj)) (s:Shared) (σ:St) (H:Hp) (Q:Bool->Hp->Prop),Inv X pins σ H s->t σ H Q->wpAny (model X.prog X.w) X.A (isTrue e X.env whole) (TP X pins σ Q) X.xe s
theorem PW.pt{X:Cx}{e:Expr}{t:TT}(h:PW X e t):PT X e t:=h _
noncomputable def PA(X:Cx)(es:List Expr)(t:TA):Prop:=
 ∀(pos:Pos) (pins:List (Addr×Obj)) (s:Shared) (σ:St) (H:Hp) (Q:List V->Hp->Prop),Inv X pins σ H s->t σ H Q->wpAny (model X.prog X.w) X.A (spliced (backTo pos (starEach es X.env))) (AP X pins σ Q) X.xe s
noncomputable def PS(X:Cx)(st:Stmt)(t:TS):Prop:=
 ∀(pins:List (Addr×Obj)) (s:Shared) (σ:St) (H:Hp) (D:Ends),Inv X pins σ H s->t D σ H->wpAny (model X.prog X.w) X.A (exec st X.env) (SP X pins D) X.xe s
noncomputable def PSs(X:Cx)(st:List Stmt)(t:TS):Prop:=
 ∀(pins:List (Addr×Obj)) (s:Shared) (σ:St) (H:Hp) (D:Ends),Inv X pins σ H s->t D σ H->wpAny (model X.prog X.w) X.A (execs st X.env) (SP X pins D) X.xe s
theorem thn{α:Type}{t:Sem α}{Q Q':α->Shared->Prop}{M:Model}{A:Around}{E:Value->Shared->Prop}{s:Shared}(h:wpAny M A t Q E s)(hQ:∀a s,Q a s->Q' a s):wpAny M A t Q' E s:=wpAny_mono h hQ fun _ _ x=>x
end L2
namespace L2
open PySem PySem.Spec PyProof.Rows
section
variable {X:Cx}
theorem bin{a b:Expr}{ta tb:TE}(ha:PE X a ta)(hb:PE X b tb){pins:List (Addr×Obj)}{s:Shared}{σ:St}{H:Hp}{R:V->V->Hp->Prop}(I:Inv X pins σ H s)(h:ta σ H fun x H1=>tb σ H1 fun y H2=>R x y H2)
  {α:Type} {Q:α->Shared->Prop} {f:Value->Value->Sem α}
  (hf:∀v u s2 x y H2,Inv X pins σ H2 s2->RelV x v->RelV y u->R x y H2->wpAny (model X.prog X.w) X.A (f v u) Q X.xe s2) :
  wpAny (model X.prog X.w) X.A (eval a X.env) (fun v ca=>wpAny (model X.prog X.w) X.A (eval b X.env) (fun u ii=>wpAny (model X.prog X.w) X.A (f v u) Q X.xe ii) X.xe ca) X.xe s:=by
 refine thn (ha pins s σ H _ I h) fun v s1 hq0=>?_
 obtain⟨x,H1,I1,r1,q1⟩:=hq0
 refine thn (hb pins s1 σ H1 _ I1 q1) fun u s2 hq0=>?_
 obtain⟨y,H2,I2,r2,q2⟩:=hq0
 exact hf v u s2 x y H2 I2 r1 r2 q2
noncomputable def Sl(i:Nat):TE:=fun σ H Q=>∃v,σ[i]? = some (some v)/\Q v H
noncomputable def tC(v:V):TE:=fun _ H Q=>Q v H
theorem QH{i:Nat}{x:Str}{pos:Pos}(hN:X.N[i]? = some x)(hv:Vis X.env.scope x)(hd:(x==("__debug__":Str))=false:=by decide)(hcd:(x==("__classdict__":Str))=false:=by decide):PE X (.Name x pos) (Sl i):=by
 intro pins s σ H Q I h
 obtain⟨v,e,h⟩:=h
 obtain⟨m,hn,hl⟩:=I.loc
 obtain⟨u,r,l⟩:=hl i x v hN e hv
 have fin:EP X pins σ Q u s:=⟨v,H,I,r,h⟩
 rcases l with ⟨hk,hm⟩|⟨hk,c,hc,hcell⟩
 ·exact wpAny_Name (wpAny_loadName_local I.ok.kind hk hn hm fin) hd
 ·rcases hk with hk|hk
  ·exact wpAny_Name (wpAny_loadName_cell I.ok.kind hk hc hcell fin) hd
  ·exact wpAny_Name (wpAny_loadName_free I.ok.kind hk hc hcell fin hcd) hd
theorem QZ{i j pos}:PE X (.Constant (.int i) j pos) (tC (.int i)):=fun _ _ _ H _ I h=>wpAny_Constant_int ⟨.int i,H,I.tok _,⟨_,rfl⟩,h⟩
theorem Sj{b j pos}:PE X (.Constant (.bool b) j pos) (tC (.bl b)):=fun _ _ _ H _ I h=>Constant_bool ⟨.bl b,H,I,rfl,h⟩
noncomputable def Gl(X:Cx)(x:Str):Prop:=X.env.kindOf x=some .globalImplicit
theorem IY{E:Value->Shared->Prop}{pins:List (Addr×Obj)}{s:Shared}{σ:St}{H:Hp}{x:Str}{u:Value}{pos:Pos}{Q:Value->Shared->Prop}(I:Inv X pins σ H s)(hg:Gl X x)(hm:X.mg x=some u)(h:Q u s)
  (hd:(x==("__debug__":Str))=false:=by decide):wpAny (model X.prog X.w) X.A (eval (.Name x pos) X.env) Q E s:=
 Calls.Name_function_global I.ok.kind hg (Calls.loadGlobal_global (by rw[I.ok.glob];exact I.mod.glob.keeps I.bk) hm h) hd
theorem rf{E:Value->Shared->Prop}{pins:List (Addr×Obj)}{s:Shared}{σ:St}{H:Hp}{x:Str}{u:Value}{pos:Pos}{Q:Value->Shared->Prop}(I:Inv X pins σ H s)(hg:Gl X x)(hm:X.mg x=none)(hv:bootBuiltins x=some u)(h:Q u s)
  (hn:x ≠ "__name__":=by decide) (hd:(x==("__debug__":Str))=false:=by decide):wpAny (model X.prog X.w) X.A (eval (.Name x pos) X.env) Q E s:=by
 obtain⟨mb,h1,h2⟩:=I.mod.blt
 exact Calls.Name_function_global I.ok.kind hg (Calls.loadGlobal_builtin (by rw[I.ok.glob];exact I.mod.glob.keeps I.bk) hm (by rw[I.ok.blt];exact h1.keeps I.bk) ((h2 x hn).trans hv) h) hd
theorem N5{x:Str}{v:V}{u:Value}{pos:Pos}(hg:Gl X x)(hm:X.mg x=some u)(r:RelV v u)(hd:(x==("__debug__":Str))=false:=by decide):PE X (.Name x pos) (tC v):=
 fun _ _ _ H _ I h=>IY I hg hm ⟨v,H,I,r,h⟩ hd
theorem J4{x:Str}{v:V}{u:Value}{pos:Pos}(hg:Gl X x)(hm:X.mg x=none)(hv:bootBuiltins x=some u)(r:RelV v u)(hn:x ≠ "__name__":=by decide)(hd:(x==("__debug__":Str))=false:=by decide):PE X (.Name x pos) (tC v):=
 fun _ _ _ H _ I h=>rf I hg hm hv ⟨v,H,I,r,h⟩ hn hd
variable {a b:Expr}{ta tb:TE}{pos:Pos}
noncomputable def PC(X:Cx)(op:CmpOp)(a b:Expr)(t:TE):Prop:=
 ∀(pins:List (Addr×Obj)) (s:Shared) (σ:St) (H:Hp) (Q:VK),Inv X pins σ H s->t σ H Q ->
  wpAny (model X.prog X.w) X.A (eval a X.env) (fun v ca=>wpAny (model X.prog X.w) X.A (eval b X.env) (fun u ii=>wpAny (model X.prog X.w) X.A (compareOp op v u) (EP X pins σ Q) X.xe ii) X.xe ca) X.xe s
theorem Lv(b:Expr){op:CmpOp}(h:op≠.In)(h2:op≠.NotIn):behindInMarks op b=false:=by
 have e1:(op==CmpOp.In)=false:=by cases op<;>first|rfl|exact absurd rfl h
 have e2:(op==CmpOp.NotIn)=false:=by cases op<;>first|rfl|exact absurd rfl h2
 cases b<;>simp[behindInMarks,e1,e2]
noncomputable def tB(t:TE):TT:=fun σ H Q=>t σ H fun x H1=>∃c,x = .bl c/\Q c H1
theorem TN{op:CmpOp}{t:TE}(h:PC X op a b t)(h1:behindInMarks op b=false:=by first|exact Lv _ ⋯ ⋯|rfl):PT X (.Compare a [op] [b] pos) (tB t):=by
 intro pins s σ H Q I hw
 refine wpAny_isTrue_Compare1 (thn (h pins s σ H _ I hw) fun v s1 h1=>thn h1 fun u s2 h2=>thn h2 fun c s3 hq0=>?_) h1
 obtain⟨x,H1,I1,r1,q1⟩:=hq0
 obtain⟨d,rfl,q⟩:=q1
 cases r1
 exact wpAny_truthy_bool ⟨H1,I1,q⟩
theorem RL{e:Expr}{t:TE}(h:PE X e t)(he:∀whole,isTrue e X.env whole=(do let v <- whole;standAt e.pos;holding [v] (truthy v)):=by intro _;rfl):PT X e (tB t):=by
 intro pins s σ H Q I hw
 refine isTrue_plain (thn (h pins s σ H _ I hw) fun v s1 hq0=>?_) (he _)
 obtain⟨x,H1,I1,r1,q1⟩:=hq0
 obtain⟨d,rfl,q⟩:=q1
 cases r1
 exact wpAny_truthy_bool ⟨H1,I1,q⟩
variable {tA tB':TT}{rest:List Expr}
noncomputable def T6(t u:TT):TT:=fun σ H Q=>t σ H fun c H1=>if c=true then u σ H1 Q else Q false H1
noncomputable def tOr(t u:TT):TT:=fun σ H Q=>t σ H fun c H1=>if c=true then Q true H1 else u σ H1 Q
noncomputable def T9(t:TT):TT:=fun σ H Q=>t σ H fun c H1=>Q (!c) H1
theorem pw_and1(ha:PT X a tA):PW X (.BoolOp .And [a] pos) tA:=by
 intro wh pins s σ H Q I h
 refine isTrue_and (thn (ha pins s σ H Q I h) fun c s1 e=>?_)
 cases c with
 |true=>exact isTrue_and_nil e
 |false=>exact e
theorem pw_or1(ha:PT X a tA):PW X (.BoolOp .Or [a] pos) tA:=by
 intro wh pins s σ H Q I h
 refine isTrue_or (thn (ha pins s σ H Q I h) fun c s1 e=>?_)
 cases c with
 |false=>exact isTrue_or_nil e
 |true=>exact e
theorem pw_and(ha:PT X a tA)(hb:PW X (.BoolOp .And (b::rest) pos) tB'):PW X (.BoolOp .And (a::b::rest) pos) (T6 tA tB'):=by
 intro wh pins s σ H Q I h
 refine isTrue_and (thn (ha pins s σ H _ I h) fun c s1 hq0=>?_)
 obtain⟨H1,I1,q1⟩:=hq0
 cases c with
 |true=>exact hb wh pins s1 σ H1 Q I1 q1
 |false=>exact⟨H1,I1,q1⟩
theorem pw_or(ha:PT X a tA)(hb:PW X (.BoolOp .Or (b::rest) pos) tB'):PW X (.BoolOp .Or (a::b::rest) pos) (tOr tA tB'):=by
 intro wh pins s σ H Q I h
 refine isTrue_or (thn (ha pins s σ H _ I h) fun c s1 hq0=>?_)
 obtain⟨H1,I1,q1⟩:=hq0
 cases c with
 |true=>exact⟨H1,I1,q1⟩
 |false=>exact hb wh pins s1 σ H1 Q I1 q1
theorem QB(ha:PT X a tA):PT X (.UnaryOp .Not a pos) (T9 tA):=by
 intro pins s σ H Q I h
 exact isTrue_not (ha pins s σ H (fun c H1=>Q (!c) H1) I h)
noncomputable def R0(ta tb:TE):TE:=fun σ H Q=>ta σ H fun x H1=>∃c,x = .bl c/\if c=true then tb σ H1 Q else Q (.bl false) H1
noncomputable def TU(ta tb:TE):TE:=fun σ H Q=>ta σ H fun x H1=>∃c,x = .bl c/\if c=true then Q (.bl true) H1 else tb σ H1 Q
noncomputable def SG(ta:TE):TE:=fun σ H Q=>ta σ H fun x H1=>∃c,x = .bl c/\Q (.bl (!c)) H1
theorem Q8{op}{t:TE}(h:PE X a t):PE X (.BoolOp op [a] pos) t:=fun pins s σ H Q I hw=>BoolOp_one (h pins s σ H Q I hw)
theorem Q5(ha:PE X a ta)(hb:PE X (.BoolOp .And (b::rest) pos) tb):PE X (.BoolOp .And (a::b::rest) pos) (R0 ta tb):=by
 intro pins s σ H Q I h
 refine BoolOp_and (thn (ha pins s σ H _ I h) fun v s1 hq0=>?_)
 obtain⟨x,H1,I1,r1,q1⟩:=hq0
 obtain⟨c,rfl,q1⟩:=q1
 cases r1
 refine wpAny_truthy_bool ?_
 cases c with
 |true=>exact hb pins s1 σ H1 Q I1 q1
 |false=>exact⟨.bl false,H1,I1,rfl,q1⟩
theorem Tz(ha:PE X a ta)(hb:PE X (.BoolOp .Or (b::rest) pos) tb):PE X (.BoolOp .Or (a::b::rest) pos) (TU ta tb):=by
 intro pins s σ H Q I h
 refine BoolOp_or (thn (ha pins s σ H _ I h) fun v s1 hq0=>?_)
 obtain⟨x,H1,I1,r1,q1⟩:=hq0
 obtain⟨c,rfl,q1⟩:=q1
 cases r1
 refine wpAny_truthy_bool ?_
 cases c with
 |false=>exact hb pins s1 σ H1 Q I1 q1
 |true=>exact⟨.bl true,H1,I1,rfl,q1⟩
theorem Qq(ha:PE X a ta):PE X (.UnaryOp .Not a pos) (SG ta):=by
 intro pins s σ H Q I h
 refine UnaryOp_ (thn (ha pins s σ H _ I h) fun v s1 hq0=>?_)
 obtain⟨x,H1,I1,r1,q1⟩:=hq0
 obtain⟨c,rfl,q1⟩:=q1
 cases r1
 exact not_of (wpAny_truthy_bool ⟨.bl (!c),H1,I1,rfl,q1⟩)
noncomputable def tIf(t:TT)(ta tb:TE):TE:=fun σ H Q=>t σ H fun c H1=>if c=true then ta σ H1 Q else tb σ H1 Q
theorem Nl{c:Expr}(hc:PT X c tA)(ha:PE X a ta)(hb:PE X b tb):PE X (.IfExp c a b pos) (tIf tA ta tb):=by
 intro pins s σ H Q I h
 refine wpAny_IfExp (thn (hc pins s σ H _ I h) fun d s1 hq0=>?_)
 obtain⟨H1,I1,q1⟩:=hq0
 cases d with
 |true=>exact ha pins s1 σ H1 Q I1 q1
 |false=>exact hb pins s1 σ H1 Q I1 q1
end
end L2
namespace L2
open PySem PySem.Spec PyProof.Rows
noncomputable def SqL(K:PySem.W.Frag)(H:Hp)(a:Addr)(xs:List V):Prop:=
 Rd H a (.lst xs) \/
  ∃(o:Obj) (its:Array Value) (n:Nat),K.lookup a=some o/\o.cls = .type "list"/\o.dict=none/\o.data = .seq its n/\its.size<=sizeLine/\Vals xs its.toList
noncomputable def SqT(K:PySem.W.Frag)(H:Hp)(a:Addr)(xs:List V):Prop:=
 Rd H a (.tup xs) \/
  ∃(o:Obj) (its:Array Value) (n:Nat),K.lookup a=some o/\o.cls = .type "tuple"/\o.data = .seq its n/\its.size<=sizeLine/\Vals xs its.toList
def Uh:Value->Option V
 |.none=>some .non
 |.bool b=>some (.bl b)
 |.int i _=>some (.int i)
 |.str x _=>some (.str x)
 |.bytes b _=>some (.byt b)
 |.float b _=>some (.flt b)
 |.ref a=>some (.ref a)
 |.type n=>some (.ty n)
 |_=>none
theorem RelV.abs{x:V}{u:Value}(r:RelV x u):Uh u=some x:=by
 cases x with
 |non=>cases r;rfl
 |bl _=>cases r;rfl
 |int _=>obtain⟨t,rfl⟩:=r;rfl
 |str _=>obtain⟨t,rfl⟩:=r;rfl
 |byt _=>obtain⟨t,rfl⟩:=r;rfl
 |flt _=>obtain⟨t,rfl⟩:=r;rfl
 |ref _=>cases r;rfl
 |ty _=>cases r;rfl
theorem RelV.inj{x y:V}{u:Value}(r:RelV x u)(q:RelV y u):x=y:=Option.some.inj (r.abs.symm.trans q.abs)
theorem Vals.inj:∀{xs ys:List V} {us:List Value},Vals xs us->Vals ys us->xs=ys
 |_,_,_,.nil,.nil=>rfl
 |_,_,_,.cons r t,.cons r' t'=>by rw[r.inj r',Vals.inj t t']
section
variable {X:Cx}{pins:List (Addr×Obj)}{σ:St}{H:Hp}{s:Shared}{a:Addr}{xs ys:List V}
theorem SqL.of{K:PySem.W.Frag}(h:H a=some (.lst xs)):SqL K H a xs:=.inl (.inl h)
theorem SqT.of{K:PySem.W.Frag}(h:H a=some (.tup xs)):SqT K H a xs:=.inl (.inl h)
theorem Inv.list(I:Inv X pins σ H s)(h:SqL X.K H a xs):∃its:List Value,Vals xs its/\PlainL s.heap a its.toArray/\xs.length<=sizeLine:=by
 rcases h with h|⟨o,its,n,hk,hc,hd,hs,hz,r⟩
 ·obtain⟨z,its,n,r,e⟩:=h.ok I.hok
  exact⟨its,r,⟨_,n,e,rfl,rfl,rfl⟩,z⟩
 ·refine⟨its.toList,r,⟨o,n,I.kIn a o hk,hc,hd,by simpa using hs⟩,?_⟩
  have e:=r.length
  simp only[Array.length_toList] at e
  omega
theorem Inv.tuple(I:Inv X pins σ H s)(h:SqT X.K H a xs):∃its:List Value,Vals xs its/\IsTup s.heap a its.toArray/\xs.length<=sizeLine:=by
 rcases h with h|⟨o,its,n,hk,hc,hs,hz,r⟩
 ·obtain⟨z,its,r,p⟩:=h.ok I.hok
  exact⟨its,r,p,z⟩
 ·refine⟨its.toList,r,⟨o,I.kIn a o hk,hc,n,by simpa using hs⟩,?_⟩
  have e:=r.length
  simp only[Array.length_toList] at e
  omega
theorem Inv.EM(I:Inv X pins σ H s)(h:SqL X.K H a xs)(h':SqL X.K H a ys):xs=ys:=by
 obtain⟨its,r,⟨o,n,e,_,_,d⟩,_⟩:=I.list h
 obtain⟨its',r',⟨o',n',e',_,_,d'⟩,_⟩:=I.list h'
 rw[e] at e';cases e'
 rw[d] at d'
 injection d' with d1 _
 have:its=its':=by simpa using congrArg Array.toList d1
 subst this
 exact r.inj r'
theorem Inv.Ld(I:Inv X pins σ H s)(h:SqT X.K H a xs)(h':SqT X.K H a ys):xs=ys:=by
 obtain⟨its,r,⟨o,e,_,n,d⟩,_⟩:=I.tuple h
 obtain⟨its',r',⟨o',e',_,n',d'⟩,_⟩:=I.tuple h'
 rw[e] at e';cases e'
 rw[d] at d'
 injection d' with d1 _
 have:its=its':=by simpa using congrArg Array.toList d1
 subst this
 exact r.inj r'
end
abbrev Cx.Ah(X:Cx)(E:Value->Shared->Prop):Cx:={X with xe:=E}
abbrev Cx.nox(X:Cx):Cx:=X.Ah fun _ _=>False
theorem Cx.Ok.Ah{X:Cx}(ok:X.Ok)(E:Value->Shared->Prop):(X.Ah E).Ok:=
 ⟨ok.mod,ok.kind,ok.glob,ok.blt,ok.above,ok.inj,ok.has,ok.cab,ok.hd,ok.qt,ok.frames,ok.stk,ok.exf,ok.bs,ok.bsz,ok.BS,ok.O8,ok.zd,ok.frf⟩
theorem Cx.Ok.oN{X:Cx}{E:Value->Shared->Prop}(ok:(X.Ah E).Ok):X.Ok:=
 ⟨ok.mod,ok.kind,ok.glob,ok.blt,ok.above,ok.inj,ok.has,ok.cab,ok.hd,ok.qt,ok.frames,ok.stk,ok.exf,ok.bs,ok.bsz,ok.BS,ok.O8,ok.zd,ok.frf⟩
section
variable {X:Cx}{pins:List (Addr×Obj)}{σ:St}{H:Hp}{s:Shared}{E:Value->Shared->Prop}
theorem Inv.Ah(I:Inv X pins σ H s)(E:Value->Shared->Prop):Inv (X.Ah E) pins σ H s:=⟨I.ok.Ah E,I.os,I.bare,I.base,I.loc,I.cell,I.free,I.j3,I.pin,I.hok,I.len⟩
theorem Inv.oN(I:Inv (X.Ah E) pins σ H s):Inv X pins σ H s:=⟨I.ok.oN,I.os,I.bare,I.base,I.loc,I.cell,I.free,I.j3,I.pin,I.hok,I.len⟩
theorem SP.oN{D:Ends}{f:Flow}{s':Shared}(h:SP (X.Ah E) pins D f s'):SP X pins D f s':=by
 cases f with
 |next=>obtain⟨bn,H',I,q⟩:=h;exact⟨bn,H',I.oN,q⟩
 |brk=>obtain⟨bn,H',I,q⟩:=h;exact⟨bn,H',I.oN,q⟩
 |cont=>obtain⟨bn,H',I,q⟩:=h;exact⟨bn,H',I.oN,q⟩
 |ret u=>obtain⟨v,bn,H',I,r,q⟩:=h;exact⟨v,bn,H',I.oN,r,q⟩
theorem PSs.nox{st:List Stmt}{t:TS}(h:PSs X.nox st t):PSs X st t:=fun pins s σ H D I hw=>
 wpAny_mono (h pins s σ H D (I.Ah _) hw) (fun _ _ q=>q.oN) fun _ _ z=>False.elim z
end
section
variable {X:Cx}{st:Stmt}{rest:List Stmt}{t u:TS}{e:Expr}{te:TE}{pos:Pos}
noncomputable def SF:TS:=fun D σ H=>D.nx σ H
noncomputable def Su(t u:TS):TS:=fun D σ H=>t {D with nx:=u D} σ H
theorem Od:PSs X [] SF:=fun _ _ σ H _ I h=>wpAny_execs_nil ⟨σ,H,I,h⟩
theorem L4(h1:PS X st t)(h2:PSs X rest u):PSs X (st::rest) (Su t u):=by
 intro pins s σ H D I h
 refine wpAny_execs_cons (thn (h1 pins s σ H {D with nx:=u D} I h) fun f s1 q=>?_)
 cases f with
 |next=>
  obtain⟨bn,H',I',q⟩:=q
  exact h2 pins s1 bn H' D I' q
 |ret v=>exact q
 |brk=>exact q
 |cont=>exact q
theorem Pg(h1:PS X st t):PSs X [st] t:=by
 intro pins s σ H D I h
 refine wpAny_execs_cons (thn (h1 pins s σ H D I h) fun f s1 q=>?_)
 cases f with
 |next=>exact wpAny_execs_nil q
 |ret v=>exact q
 |brk=>exact q
 |cont=>exact q
theorem Inv.quiet{pins:List (Addr×Obj)}{σ:St}{H:Hp}{s:Shared}(I:Inv X pins σ H s):interactive X.env=false:=by simp[interactive,I.ok.kind]
noncomputable def Tb(te:TE):TS:=fun D σ H=>te σ H fun _ H1=>D.nx σ H1
theorem Oz(he:PE X e te)(hs:swapsWith e none pos.line X.env=pure false:=by rfl):PS X (.Expr e pos) (Tb te):=by
 intro pins s σ H D I h
 exact wpAny_Expr_any (thn (he pins s σ H _ I h) fun v s1 ⟨x,H1,I1,r1,q1⟩=>⟨σ,H1,I1,q1⟩) I.quiet hs
noncomputable def Ub(te:TE):TS:=fun D σ H=>te σ H D.rt
theorem Ro(he:PE X e te):PS X (.Return (some e) pos) (Ub te):=by
 intro pins s σ H D I h
 exact wpAny_Return_some (thn (he pins s σ H _ I h) fun v s1 ⟨x,H1,I1,r1,q1⟩=>⟨x,σ,H1,I1,r1,q1⟩)
noncomputable def Uq(c:TT)(t u:TS):TS:=fun D σ H=>c σ H fun b H1=>if b=true then t D σ H1 else u D σ H1
theorem Sw{c:Expr}{a b:List Stmt}{tc:TT}(hc:PT X c tc)(ha:PSs X a t)(hb:PSs X b u):PS X (.If c a b pos) (Uq tc t u):=by
 intro pins s σ H D I h
 refine wpAny_If (thn (hc pins s σ H _ I h) fun d s1 hq0=>?_)
 obtain⟨H1,I1,q1⟩:=hq0
 cases d with
 |true=>exact ha pins s1 σ H1 D I1 q1
 |false=>exact hb pins s1 σ H1 D I1 q1
end
abbrev TG:=V->St->Hp->(St->Hp->Prop)->Prop
abbrev TGs:=List V->St->Hp->(St->Hp->Prop)->Prop
noncomputable def PG(X:Cx)(target:Expr)(t:TG):Prop:=
 ∀(pins:List (Addr×Obj)) (s:Shared) (σ:St) (H:Hp) (v:V) (u:Value) (Q:St->Hp->Prop),Inv X pins σ H s->RelV v u->t v σ H Q ->
  wpAny (model X.prog X.w) X.A (assign target X.env u) (fun _ s'=>∃bn H',Inv X pins bn H' s'/\Q bn H') X.xe s
noncomputable def PGs(X:Cx)(ts:List Expr)(t:TGs):Prop:=
 ∀(pins:List (Addr×Obj)) (s:Shared) (σ:St) (H:Hp) (vs:List V) (us:List Value) (Q:St->Hp->Prop),Inv X pins σ H s->Vals vs us->t vs σ H Q ->
  wpAny (model X.prog X.w) X.A (assignInOrder ((assignEach ts X.env).map (·.2)) us) (fun _ s'=>∃bn H',Inv X pins bn H' s'/\Q bn H') X.xe s
abbrev RM:=V->V->V->Hp->(Hp->Prop)->Prop
noncomputable def Tt(X:Cx)(t:RM):Prop:=
 ∀(pins:List (Addr×Obj)) (s:Shared) (σ:St) (H:Hp) (o i v:V) (ov iv u:Value) (Q:Hp->Prop),Inv X pins σ H s->RelV o ov->RelV i iv->RelV v u->t o i v H Q ->
  wpAny (model X.prog X.w) X.A (setItem ov iv u) (fun _ s'=>∃H',Inv X pins σ H' s'/\Q H') X.xe s
section
variable {X:Cx}{pos:Pos}
noncomputable def LS(i:Nat):TG:=fun v σ H Q=>Q (σ.set i (some v)) H
theorem OI{i:Nat}{x:Str}(hN:X.N.Nodup)(hi:X.N[i]? = some x)(hx:Loc X.env.scope x)(hf:X.fn x=true\/X.env.scope.names.lookup x=some .local:=by first|exact .inl rfl|exact .inr rfl|assumption):PG X (.Name x pos) (LS i):=by
 intro pins s σ H v u Q I r h
 exact wpAny_assign_Name (gg I hN hi hx r (fun s' I'=>⟨_,H,I',h⟩) hf)
def TQ:TGs:=fun vs σ H Q=>vs=[]/\Q σ H
def Tp(t:TG)(u:TGs):TGs:=fun vs σ H Q=>∃v r,vs=v::r/\t v σ H fun bn H'=>u r bn H' Q
theorem OD:PGs X [] TQ:=by
 intro pins s σ H vs us Q I r h
 obtain⟨e,h⟩:=h
 subst e
 cases r
 exact assignInOrder_nil ⟨σ,H,I,h⟩
theorem Nb{e:Expr}{es:List Expr}{t:TG}{u:TGs}(h1:PG X e t)(h2:PGs X es u)
  (hs:(assignEach (e::es) X.env).map (·.2)=assign e X.env::(assignEach es X.env).map (·.2):=by rfl):PGs X (e::es) (Tp t u):=by
 intro pins s σ H vs us Q I r h
 obtain⟨v,vr,e1,h⟩:=h
 subst e1
 cases r with
 |cons r rr=>
  rw[hs]
  refine assignInOrder_cons (thn (h1 pins s σ H _ _ _ I r h) fun _ s1 hq0=>?_)
  obtain⟨tj,H1,I1,q1⟩:=hq0
  exact h2 pins s1 tj H1 _ _ Q I1 rr q1
noncomputable def Ue(K:PySem.W.Frag)(n:Nat)(t:TGs):TG:=fun v σ H Q=>∃a xs,v = .ref a/\SqT K H a xs/\xs.length=n/\t xs σ H Q
theorem Rl{es:List Expr}{k:Nat}{t:TGs}{n:Nat}(hc:X.calm=X.calm)(h:PGs X es t)
  (hn:(assignEach es X.env).length=n:=by rfl) (hst:(assignEach es X.env).findIdx? (·.1)=none:=by rfl):PG X (.Tuple es k pos) (Ue X.K n t):=by
 intro pins s σ H v u Q I r hw
 obtain⟨a,xs,e1,hq,hl,hw⟩:=hw
 subst e1
 cases r
 obtain⟨its,rv,ht,hz⟩:=I.tuple hq
 refine A2 I.Hl ht (by simp[hn,<- hl,rv.length]) hst fun h' hx=>?_
 have I1:Inv X pins σ H {s with heap:=h'}:=I.kept (t':=s.toks) fun b o e=>hx b o (ne_of_lt (Heap.lt_size e)) e
 exact h pins _ σ H xs _ Q I1 (by simpa using rv) hw
noncomputable def T7(to ti:TE)(t:RM):TG:=fun v σ H Q=>to σ H fun o H1=>ti σ H1 fun i H2=>t o i v H2 fun H3=>Q σ H3
theorem Qx{o i:Expr}{to ti:TE}{t:RM}(ho:PE X o to)(hi:PE X i ti)(hs:Tt X t)
  (ha:∀v,assign (.Subscript o i pos) X.env v=(do
   let ov <- holding [v] (eval o X.env)
   let iv <- holding [v,ov] (eval i X.env)
   standAt pos
   holding [v,ov,iv] (setItem ov iv v)
   release [v,ov,iv] []):=by intro _;rfl):PG X (.Subscript o i pos) (T7 to ti t):=by
 intro pins s σ H v u Q I r h
 rw[ha]
 refine wpAny_bind (wpAny_holding (thn (ho pins s σ H _ I h) fun ov s1 hq0=>?_))
 obtain⟨x,H1,I1,r1,q1⟩:=hq0
 refine wpAny_bind (wpAny_holding (thn (hi pins s1 σ H1 _ I1 q1) fun iv s2 hq0=>?_))
 obtain⟨y,H2,I2,r2,q2⟩:=hq0
 refine wpAny_bind (wpAny_standAt (wpAny_bind (wpAny_holding (thn (hs pins s2 σ H2 x y v ov iv u _ I2 r1 r2 r q2) fun _ s3 hq0=>?_))))
 obtain⟨H3,I3,q3⟩:=hq0
 exact wpAny_release ⟨σ,H3,I3,q3⟩
noncomputable def QY(te:TE)(g:TG):TS:=fun D σ H=>te σ H fun x H1=>g x σ H1 D.nx
theorem RC{tg e:Expr}{te:TE}{g:TG}(he:PE X e te)(hg:PG X tg g)(hs:swapsWithSole [tg] e pos.line X.env=pure false:=by rfl)(hw:swappedStores [tg] e X.env=pure none:=by rfl)
  (h1:(assignEach [tg] X.env).map (·.2)=[assign tg X.env]:=by rfl):PS X (.Assign [tg] e pos) (QY te g):=by
 intro pins s σ H D I h
 refine wpAny_Assign_stores (thn (he pins s σ H _ I h) fun v s1 hq0=>?_) hs hw
 obtain⟨x,H1,I1,r1,q1⟩:=hq0
 rw[h1]
 exact thn (hg pins s1 σ H1 x v _ I1 r1 q1) fun _ s2 q=>q
theorem Qy{i:Nat}{x:Str}{e:Expr}{te:TE}{pos':Pos}(hN:X.N.Nodup)(hi:X.N[i]? = some x)(hx:Loc X.env.scope x)(he:PE X e te)(hs:swapsWith e (some (.Name x pos')) pos.line X.env=pure false:=by rfl)(hf:X.fn x=true\/X.env.scope.names.lookup x=some .local:=by first|exact .inl rfl|exact .inr rfl|assumption) :
  PS X (.Assign [.Name x pos'] e pos) (QY te (LS i)):=by
 intro pins s σ H D I h
 refine wpAny_Assign_Name (thn (he pins s σ H _ I h) fun v s1 hq0=>?_) hs
 obtain⟨y,H1,I1,r1,q1⟩:=hq0
 exact gg I1 hN hi hx r1 (fun s2 I2=>⟨_,H1,I2,q1⟩) hf
noncomputable def Uc(i j:Nat)(ta:TA):TS:=fun D σ H=>ta σ H fun vs H1=>∃v w,vs=[v,w]/\D.nx ((σ.set i (some v)).set j (some w)) H1
theorem PR{i j:Nat}{x y:Str}{a b:Expr}{ta:TA}{px py pt:Pos}{kt k2 pt2}(hc:X.calm=true)(hN:X.N.Nodup)(hi:X.N[i]? = some x)(hj:X.N[j]? = some y)(hij:i≠j)
  (hx:X.env.scope.names.lookup x=some .local) (hy:X.env.scope.names.lookup y=some .local) (ha:PA X [a,b] ta)
  (hw:swappedStores [.Tuple [.Name x px,.Name y py] kt pt] (.Tuple [a,b] k2 pt2) X.env=pure (some [x,y]))
  (hs:swapsWithSole [.Tuple [.Name x px,.Name y py] kt pt] (.Tuple [a,b] k2 pt2) pos.line X.env=pure false:=by rfl) :
  PS X (.Assign [.Tuple [.Name x px,.Name y py] kt pt] (.Tuple [a,b] k2 pt2) pos) (Uc i j ta):=by
 intro pins s σ H D I h
 rw[exec_Assign_arm]
 refine wpAny_bind (wpAny_standAt ?_)
 rw[hs]
 refine wpAny_bind (wpAny_pure ?_)
 rw[if_neg ⋯]
 refine wpAny_bind (Tuple_ (thn (ha _ pins s σ H _ I h) fun us s1 hq0=>?_))
 obtain⟨vs,H1,I1,r1,q1⟩:=hq0
 obtain⟨v,w,e1,q1⟩:=q1
 subst e1
 obtain⟨u1,u2,rfl,rv,rw'⟩:∃u1 u2,us=[u1,u2]/\RelV v u1/\RelV w u2:=by
  cases r1 with
  |cons p q=>
   cases q with
   |cons p' q'=>
    cases q'
    exact⟨_,_,rfl,p,p'⟩
 refine wpAny_newObj_type ?_ (by show 2<=sizeLine;decide)
 have I2:Inv X pins σ H1 {s1 with heap:=s1.heap.push {cls:=.type "tuple",data:=.seq [u1,u2].toArray}}:=I1.kept (t':=s1.toks) fun b o e=>Heap.get?_push_of_some _ e
 rw[hw]
 refine wpAny_bind (wpAny_pure ?_)
 show wpAny (model X.prog X.w) X.A (do rule "assign.swapped-stores";let items <- unpackItems (.ref s1.heap.objs.size) 2 none;assignInOrder [fun v=>bindName X.env y v,fun v=>bindName X.env x v] items.reverse;pure Flow.next) _ _ _
 refine wpAny_bind (wpAny_rule (wpAny_bind (unpackItems_tuple (items:=#[u1,u2]) (I.ok.hd hc) (IsTup.new s1.heap _) fun h' hx'=>?_)))
 have I3:=I2.kept (h':=h') (t':=s1.toks) fun b o e=>hx' b o (ne_of_lt (Heap.lt_size e)) e
 show wpAny _ _ (assignInOrder [fun v=>bindName X.env y v,fun v=>bindName X.env x v] [u2,u1]>>=fun _=>pure Flow.next) _ _ _
 refine wpAny_bind (assignInOrder_cons (wpAny_bindName (gg I3 hN hj (.inl hy) rw' (fun s2 I4=>?_) (.inr hy))))
 refine assignInOrder_cons (wpAny_bindName (gg I4 hN hi (.inl hx) rv (fun s3 I5=>assignInOrder_nil (wpAny_pure ?_)) (.inr hx)))
 rw[List.set_comm _ _ (Ne.symm hij)] at I5
 exact⟨_,H1,I5,q1⟩
end
section
variable {X:Cx}{pos:Pos}
noncomputable def Q1(c:TT)(tb:TS):TS:=fun D σ H=>∃W:Nat->St->Hp->Prop,(∃m,W m σ H)/\∀m σ H,W m σ H ->
 c σ H fun b H1=>if b=true then ∃N:St->Hp->Prop,(∀bn H',N bn H'->∃m',m'<m/\W m' bn H')/\tb {D with nx:=N,ct:=N,bk:=D.nx} σ H1 else D.nx σ H1
theorem LK{c:Expr}{body:List Stmt}{tc:TT}{tb:TS}(hp:PassesOwn (model X.prog X.w) X.A X.env X.xe)(hc:PT X c tc)(hb:PSs X body tb):PS X (.While c body [] pos) (Q1 tc tb):=by
 intro pins s σ H D I h
 obtain⟨W,⟨m0,w0⟩,turn⟩:=h
 refine wpAny_While (codeAny_whileLoop (fun n s'=>∃bn H',Inv X pins bn H' s'/\W n bn H') ?_ m0 ⟨σ,H,I,w0⟩)
 rintro n s1 ⟨tj,H1,I1,w1⟩
 refine wpAny_passesOwn hp (thn (hc pins s1 tj H1 _ I1 (turn n tj H1 w1)) fun b s2 hq0=>?_)
 obtain⟨H2,I2,q2⟩:=hq0
 cases b with
 |true=>
  obtain⟨N,hN,q2⟩:=q2
  rw[if_pos rfl]
  refine wpAny_passesOwn hp (thn (hb pins s2 tj H2 _ I2 q2) fun f s3 q3=>?_)
  cases f with
  |next=>
   obtain⟨o0,H3,I3,n3⟩:=q3
   obtain⟨m',hm,w3⟩:=hN o0 H3 n3
   exact⟨m',hm,o0,H3,I3,w3⟩
  |cont=>
   obtain⟨o0,H3,I3,n3⟩:=q3
   obtain⟨m',hm,w3⟩:=hN o0 H3 n3
   exact⟨m',hm,o0,H3,I3,w3⟩
  |brk=>exact q3
  |ret v=>exact q3
 |false=>
  rw[if_neg Bool.false_ne_true]
  exact wpAny_execs_nil ⟨tj,H2,I2,q2⟩
end
structure It where
 go:Nat->Hp->Prop
 yld:Nat->Hp->V->Hp->Prop
 stop:Nat->Hp->Prop
noncomputable def nW(X:Cx)(pins:List (Addr×Obj))(H:Hp)(b:Addr):Prop:=
 H b=none/\b≠X.env.locals/\b ∉ X.fs/\(b∈X.ex\/X.io.heap.objs.size<=b)/\(∀x c,X.env.cells.lookup x=some c->c≠b)/\∀p∈X.pn++pins,p.1≠b
theorem Inv.HP{X:Cx}{pins:List (Addr×Obj)}{σ:St}{H H':Hp}{s:Shared}{b:Addr}(I:Inv X pins σ H s)(hb:s.heap.objs.size<=b)(hn:H' b=none):nW X pins H' b:=by
 refine⟨hn,Nat.ne_of_gt (lt_of_lt_of_le I.lt hb),I.TY hb,.inr (le_trans I.sz hb),fun x c e z=>?_,fun p hp z=>?_⟩
 ·obtain⟨v,q⟩:=I.cell x c e
  exact absurd (lt_of_lt_of_le q.lt (by rw[z];exact hb)) (lt_irrefl _)
 ·exact absurd (lt_of_lt_of_le (Heap.lt_size (I.pin p hp).1) (by rw[z];exact hb)) (lt_irrefl _)
structure Turn(c:Bool)(P:Program)(w:World)(K:PySem.W.Frag)(tg:Expr)(J:It)(fp:List Addr)(it:Addr)(tn:Nat->Heap->Prop):Prop where
 mem:it∈fp
 obj:∀i h,tn i h->∀b∈fp,∃o,h.get? b=some o/\∀v,o.data≠.cell v
 keep:∀i h h',tn i h->(∀b∈fp,∀o,h.get? b=some o->h'.get? b=some o)->tn i h'
 item:∀(X:Cx),X.prog=P->X.w=w->X.K=K->(c=true->X.calm=true)->∀(i:Nat) (pins:List (Addr×Obj)) (s:Shared) (σ:St) (H:Hp) (E:Value->Shared->Prop),Inv X pins σ H s->(∀b∈fp,nW X pins H b)->tn i s.heap->J.go i H ->
  wpAny (model P w) X.A (pyNext (.ref it)) (fun r s1=>∃u,r=some u /\
   wpAny (model P w) X.A (letOwnedTupleGo tg (.ref it) u) (fun _ s2=>∃x H',Inv X pins σ H' s2/\RelV x u/\J.yld i H x H'/\tn (i+1) s2.heap/\∀b∈fp,H' b=none) E s1) E s
 done:∀(X:Cx),X.prog=P->X.w=w->X.K=K->(c=true->X.calm=true)->∀(i:Nat) (pins:List (Addr×Obj)) (s:Shared) (σ:St) (H:Hp) (E:Value->Shared->Prop),Inv X pins σ H s->(∀b∈fp,nW X pins H b)->tn i s.heap->J.stop i H ->
  wpAny (model P w) X.A (pyNext (.ref it)) (fun r s1=>r=none/\Inv X pins σ H s1) E s
 self:∀(A:Around) (i:Nat) (s:Shared) (Q:Value->Shared->Prop) (E:Value->Shared->Prop),tn i s.heap->Q (.ref it) s->wpAny (model P w) A (pyIter (.ref it)) Q E s
theorem Turn.calm{c:Bool}{P:Program}{w:World}{K:PySem.W.Frag}{tg:Expr}{J:It}{fp:List Addr}{it:Addr}{tn:Nat->Heap->Prop}(T:Turn true P w K tg J fp it tn)(h:c=true):Turn c P w K tg J fp it tn:=by subst h;exact T
abbrev TI:=St->Hp->(It->Hp->Prop)->Prop
noncomputable def PIE(X:Cx)(pins:List (Addr×Obj))(σ:St)(tg:Expr)(R:It->Hp->Prop)(itv:Value)(s2:Shared):Prop:=
 ∃(it:Addr) (fp:List Addr) (tn:Nat->Heap->Prop) (J:It) (H':Hp),itv = .ref it/\Inv X pins σ H' s2/\Turn X.calm X.prog X.w X.K tg J fp it tn/\tn 0 s2.heap/\(∀b∈fp,nW X pins H' b)/\R J H'
noncomputable def PI(X:Cx)(tg iter:Expr)(wi:TI):Prop:=
 ∀(pins:List (Addr×Obj)) (s:Shared) (σ:St) (H:Hp) (R:It->Hp->Prop),Inv X pins σ H s->wi σ H R ->
  wpAny (model X.prog X.w) X.A (eval iter X.env) (fun v s1=>wpAny (model X.prog X.w) X.A (pyIter v) (PIE X pins σ tg R) X.xe s1) X.xe s
theorem Nf{M:Model}{A:Around}{E:Value->Shared->Prop}{s:Shared}{tg:Expr}{it:Addr}{u:Value}{o:Obj}{n:String}{vs:Array Value}{Q:Unit->Shared->Prop}(ho:s.heap.get? it=some o)(hc:o.cls = .type n)(hd:o.data = .fields vs)
  (hn:["enumerate","zip","dict_itemiterator","dict_reverseitemiterator","odict_iterator","itertools.zip_longest","itertools.pairwise"].contains n=false) (hQ:Q () s):wpAny M A (letOwnedTupleGo tg (.ref it) u) Q E s:=by
 unfold letOwnedTupleGo
 cases tg<;>first
  |exact wpAny_pure hQ
  |(cases u<;>first
    |exact wpAny_pure hQ
    |(refine wpAny_bind (wpAny_load ho ?_)
      rw[hc,hd]
      show wpAny M A (if (["enumerate","zip","dict_itemiterator","dict_reverseitemiterator","odict_iterator","itertools.zip_longest","itertools.pairwise"].contains n&&vs[0]?==some (rawInt _))=true then _ else _) Q E s
      rw[if_neg (by intro h;rw[hn,Bool.false_and] at h;cases h)]
      exact wpAny_pure hQ))
def Itl(K:PySem.W.Frag)(a:Addr):It:=
 ⟨fun i H=>∃xs x,SqL K H a xs/\xs[i]? = some x,fun i H x H'=>H'=H/\∀xs,SqL K H a xs->xs[i]? = some x,fun i H=>∃xs,SqL K H a xs/\xs.length<=i⟩
def Itt(K:PySem.W.Frag)(a:Addr):It:=
 ⟨fun i H=>∃xs x,SqT K H a xs/\xs[i]? = some x,fun i H x H'=>H'=H/\∀xs,SqT K H a xs->xs[i]? = some x,fun i H=>∃xs,SqT K H a xs/\xs.length<=i⟩
def Itr(lo:Int)(n:Nat):It:=⟨fun i _=>i<n,fun i H x H'=>H'=H/\x = .int (lo+i),fun i _=>n<=i⟩
theorem KI{c:Bool}{P:Program}{w:World}{K:PySem.W.Frag}{tg:Expr}(a it:Addr):Turn c P w K tg (Itl K a) [it] it (fun i h=>h.IsListIter it a i) where
 mem:=by simp
 obj:=fun i h st b hb=>by
  have e:b=it:=by simpa using hb
  subst e
  obtain⟨o,e,c,d⟩:=st
  exact⟨o,e,fun v z=>by rw[d] at z;cases z⟩
 keep:=fun i h h' st k=>st.at fun o e=>k it (by simp) o e
 item:=by
  intro X hP hw hK hc i pins s σ H E I hf st hg
  subst hP hw hK
  obtain⟨xs,x,hq,hx⟩:=hg
  obtain⟨its,rv,p,hz⟩:=I.list hq
  obtain⟨u,hu,ru⟩:=rv.get hx
  obtain⟨f0,f1,f2,f3,f4,f5⟩:=hf it (by simp)
  refine wpAny_pyNext_list_item st p.isList (x:=u) (by simpa using hu) fun h' st' sb=>?_
  have I1:Inv X pins σ H {s with heap:=h'}:=I.turned (t':=s.toks) (fun b o hb e=>(sb.2 b hb).trans e) f0 f1 f3 f4 f5
  obtain⟨o,e,c,d⟩:=id st'
  exact⟨u,rfl,Nf (s:={s with heap:=h'}) e c d ⋯ ⟨x,H,I1,ru,⟨rfl,fun ys hy=>by rw[I.EM hy hq];exact hx⟩,st',fun b hb=>(hf b hb).1⟩⟩
 done:=by
  intro X hP hw hK hc i pins s σ H E I hf st hg
  subst hP hw hK
  obtain⟨xs,hq,hx⟩:=hg
  obtain⟨its,rv,p,hz⟩:=I.list hq
  obtain⟨f0,f1,f2,f3,f4,f5⟩:=hf it (by simp)
  have hl:=rv.length
  exact Ag I.Hl (I.hne f5) st p.isList (by simp;omega) fun h' eb=>⟨rfl,I.turned (t':=s.toks) (fun b o hb e=>eb b o hb e) f0 f1 f3 f4 f5⟩
 self:=fun _ _ _ _ _ st h=>wpAny_pyIter_listiter st h
theorem HG{c:Bool}{P:Program}{w:World}{K:PySem.W.Frag}{tg:Expr}(a it:Addr):Turn c P w K tg (Itt K a) [it] it (fun i h=>h.IsTupleIter it a i) where
 mem:=by simp
 obj:=fun i h st b hb=>by
  have e:b=it:=by simpa using hb
  subst e
  obtain⟨o,e,c,d⟩:=st
  exact⟨o,e,fun v z=>by rw[d] at z;cases z⟩
 keep:=fun i h h' st k=>st.at fun o e=>k it (by simp) o e
 item:=by
  intro X hP hw hK hc i pins s σ H E I hf st hg
  subst hP hw hK
  obtain⟨xs,x,hq,hx⟩:=hg
  obtain⟨its,rv,p,hz⟩:=I.tuple hq
  obtain⟨u,hu,ru⟩:=rv.get hx
  obtain⟨f0,f1,f2,f3,f4,f5⟩:=hf it (by simp)
  refine wpAny_pyNext_tuple_item st (show s.heap.IsTuple a its.toArray from p) (x:=u) (by simpa using hu) fun h' st' sb=>?_
  have I1:Inv X pins σ H {s with heap:=h'}:=I.turned (t':=s.toks) (fun b o hb e=>(sb.2 b hb).trans e) f0 f1 f3 f4 f5
  obtain⟨o,e,c,d⟩:=id st'
  exact⟨u,rfl,Nf (s:={s with heap:=h'}) e c d ⋯ ⟨x,H,I1,ru,⟨rfl,fun ys hy=>by rw[I.Ld hy hq];exact hx⟩,st',fun b hb=>(hf b hb).1⟩⟩
 done:=by
  intro X hP hw hK hc i pins s σ H E I hf st hg
  subst hP hw hK
  obtain⟨xs,hq,hx⟩:=hg
  obtain⟨its,rv,p,hz⟩:=I.tuple hq
  obtain⟨f0,f1,f2,f3,f4,f5⟩:=hf it (by simp)
  have hl:=rv.length
  exact sI I.Hl (I.hne f5) st (show s.heap.IsTuple a its.toArray from p) (by simp;omega) fun h' eb=>⟨rfl,I.turned (t':=s.toks) (fun b o hb e=>eb b o hb e) f0 f1 f3 f4 f5⟩
 self:=fun _ _ _ _ _ st h=>wpAny_pyIter_tupleiter st h
theorem HI{P:Program}{w:World}{K:PySem.W.Frag}{tg:Expr}(it:Addr)(lo:Int)(n:Nat):Turn true P w K tg (Itr lo n) [it] it (fun i h=>IsRangeIter h it (lo+(i:Nat)*1) ((n:Int)-(i:Nat)) 1) where
 mem:=by simp
 obj:=fun i h st b hb=>by
  have e:b=it:=by simpa using hb
  subst e
  exact⟨_,st,fun v z=>by
   have z':Data.fields _=Data.cell v:=z
   cases z'⟩
 keep:=fun i h h' st k=>k it (by simp) _ st
 item:=by
  intro X hP hw hK hc i pins s σ H E I hf st hg
  subst hP hw hK
  obtain⟨f0,f1,f2,f3,f4,f5⟩:=hf it (by simp)
  have W:=Walks.range (prog:=X.prog) (w:=X.w) (I.ok.hd (hc rfl)) it lo 1 n
  refine W.item i s _ _ hg st fun v h' tk hv st' kk=>?_
  obtain⟨t,rfl⟩:=hv
  have I1:Inv X pins σ H {s with heap:=h',toks:=tk}:=I.turned (fun b o hb e=>kk b o (by simpa using hb) e) f0 f1 f3 f4 f5
  refine⟨_,rfl,Nf (s:={s with heap:=h',toks:=tk}) (n:="range_iterator") st' rfl rfl ⋯ ⟨.int (lo+i),H,I1,⟨t,?_⟩,⟨rfl,rfl⟩,st',fun b hb=>(hf b hb).1⟩⟩
  rw[Int.mul_one]
 done:=by
  intro X hP hw hK hc i pins s σ H E I hf st hg
  subst hP hw hK
  obtain⟨f0,f1,f2,f3,f4,f5⟩:=hf it (by simp)
  exact wpAny_pyNext_range_end (I.ok.hd (hc rfl)) st (by have:n<=i:=hg;omega) fun h' eb=>⟨rfl,I.turned (t':=s.toks) (fun b o hb e=>eb b o hb e) f0 f1 f3 f4 f5⟩
 self:=fun _ _ _ _ _ st h=>wpAny_pyIter_rangeiter st h
end L2
namespace L2
open PySem PySem.Spec PyProof.Rows
section
variable {X:Cx}{tg:Expr}
noncomputable def R9(K:PySem.W.Frag)(tl:TE):TI:=fun σ H R=>tl σ H fun x H1=>∃a,x = .ref a/\(∃xs,SqL K H1 a xs)/\R (Itl K a) H1
noncomputable def Uo(K:PySem.W.Frag)(tl:TE):TI:=fun σ H R=>tl σ H fun x H1=>∃a,x = .ref a/\(∃xs,SqT K H1 a xs)/\R (Itt K a) H1
theorem Jb{l:Expr}{tl:TE}(hl:PE X l tl):PI X tg l (R9 X.K tl):=by
 intro pins s σ H R I h
 refine thn (hl pins s σ H _ I h) fun v s1 hq0=>?_
 obtain⟨x,H1,I1,r1,q1⟩:=hq0
 obtain⟨a,e,⟨xs,hq⟩,q⟩:=q1
 subst e
 cases r1
 obtain⟨its,rv,p,hz⟩:=I1.list hq
 refine wpAny_pyIter_list p.isList ?_
 refine⟨s1.heap.objs.size,[s1.heap.objs.size],_,_,H1,rfl,I1.kept (t':=s1.toks) fun b o e=>Heap.get?_push_of_some _ e,KI a _,⟨_,Heap.get?_push_size _ rfl,rfl,rfl⟩,fun b hb=>?_,q⟩
 have e:b=s1.heap.objs.size:=by simpa using hb
 subst e
 exact I1.HP (le_refl _) (I1.hok.fresh (le_refl _))
theorem QV{l:Expr}{tl:TE}(hl:PE X l tl):PI X tg l (Uo X.K tl):=by
 intro pins s σ H R I h
 refine thn (hl pins s σ H _ I h) fun v s1 hq0=>?_
 obtain⟨x,H1,I1,r1,q1⟩:=hq0
 obtain⟨a,e,⟨xs,hq⟩,q⟩:=q1
 subst e
 cases r1
 obtain⟨its,rv,p,hz⟩:=I1.tuple hq
 refine wpAny_pyIter_tuple (show s1.heap.IsTuple a its.toArray from p) ?_
 refine⟨s1.heap.objs.size,[s1.heap.objs.size],_,_,H1,rfl,I1.kept (t':=s1.toks) fun b o e=>Heap.get?_push_of_some _ e,HG a _,⟨_,Heap.get?_push_size _ rfl,rfl,rfl⟩,fun b hb=>?_,q⟩
 have e:b=s1.heap.objs.size:=by simpa using hb
 subst e
 exact I1.HP (le_refl _) (I1.hok.fresh (le_refl _))
theorem G8(hc:X.calm=true){pins:List (Addr×Obj)}{σ:St}{H:Hp}{s:Shared}{R:It->Hp->Prop}{E:Value->Shared->Prop}{lo hi:Int}{t u v:Tok}{tk:Nat}(I:Inv X pins σ H s)(h1:-(2 ^ 62)<=lo)(h2:lo<2 ^ 62)(h3:-(2 ^ 62)<=hi)(h4:hi<2 ^ 62)
  (q:R (Itr lo (hi-lo).toNat) H):wpAny (model X.prog X.w) X.A (pyIter (.ref s.heap.objs.size)) (PIE X pins σ tg R) E {s with heap:=s.heap.push {cls:=.type "range",data:=.fields #[.int lo t,.int hi u,.int 1 v]},toks:=tk}:=by
 refine wpAny_pyIter_range (IsRange.new ..) (small_one h1 h2 h3 h4) ?_
 have I1:Inv X pins σ H {s with heap:=s.heap.push {cls:=.type "range",data:=.fields #[.int lo t,.int hi u,.int 1 v]},toks:=tk}:=I.kept fun b o e=>Heap.get?_push_of_some _ e
 refine⟨(s.heap.push {cls:=.type "range",data:=.fields #[.int lo t,.int hi u,.int 1 v]}).objs.size,[(s.heap.push {cls:=.type "range",data:=.fields #[.int lo t,.int hi u,.int 1 v]}).objs.size],_,_,H,rfl,
  I1.kept (t':=tk) fun b o e=>Heap.get?_push_of_some _ e,(HI _ lo (hi-lo).toNat).calm hc,?_,fun b hb=>?_,q⟩
 ·have e1:lo+((0:Nat):Int)*1=lo:=by simp
  have e2:(((hi-lo).toNat:Nat):Int)-((0:Nat):Int)=Builtin.Range.rangeSize lo hi 1:=by rw[rangeSize_one];split<;>omega
  show IsRangeIter _ _ (lo+((0:Nat):Int)*1) ((((hi-lo).toNat:Nat):Int)-((0:Nat):Int)) 1
  rw[e1,e2]
  exact Heap.get?_push_size _ rfl
 ·have e:b=(s.heap.push {cls:=.type "range",data:=.fields #[.int lo t,.int hi u,.int 1 v]}).objs.size:=by simpa using hb
  subst e
  exact I1.HP (le_refl _) (I1.hok.fresh (le_refl _))
noncomputable def Te(ta:TA):TI:=fun σ H R=>ta σ H fun vs H1=>∃j:Int,vs=[.int j]/\-(2 ^ 62)<=j/\j<2 ^ 62/\R (Itr 0 j.toNat) H1
noncomputable def SM(ta:TA):TI:=fun σ H R=>ta σ H fun vs H1=>∃i j:Int,vs=[.int i,.int j]/\(-(2 ^ 62)<=i/\i<2 ^ 62/\-(2 ^ 62)<=j/\j<2 ^ 62)/\R (Itr i (j-i).toNat) H1
theorem Kc{a:Expr}{ta:TA}{p pos:Pos}(hc:X.calm=true)(hg:Gl X "range")(hm:X.mg "range"=none)(ha:PA X [a] ta)(hs:starEach [a] X.env=[(false,eval a X.env)]:=by rfl):PI X tg (.Call (.Name "range" p) [a] [] pos) (Te ta):=by
 intro pins s σ H R I h
 refine Call_ (rf I hg hm boot_range (PyProof.Rows.callWith_type1 (thn (ha pos pins s σ H _ I h) fun us s1 hq0=>?_) hs rfl))
 obtain⟨vs,H1,I1,r1,q1⟩:=hq0
 obtain⟨j,e,q1,q2,q⟩:=q1
 subst e
 cases r1 with
 |cons r rr=>
  cases rr
  obtain⟨t,rfl⟩:=r
  exact call_range_1 (G8 hc I1 ∅ ∅ q1 q2 (by simpa using q))
theorem K6{a b:Expr}{ta:TA}{p pos:Pos}(hc:X.calm=true)(hg:Gl X "range")(hm:X.mg "range"=none)(ha:PA X [a,b] ta)(hs:starEach [a,b] X.env=[(false,eval a X.env),(false,eval b X.env)]:=by rfl)(hs2:starEach [b] X.env=[(false,eval b X.env)]:=by rfl) :
  PI X tg (.Call (.Name "range" p) [a,b] [] pos) (SM ta):=by
 intro pins s σ H R I h
 refine Call_ (rf I hg hm boot_range (PyProof.Rows.callWith_type1 (thn (ha pos pins s σ H _ I h) fun us s1 hq0=>?_) (by rw[hs,hs2]) (by rw[hs2];rfl)))
 obtain⟨vs,H1,I1,r1,q1⟩:=hq0
 obtain⟨i,j,e,⟨q1,q2,q3,q4⟩,q⟩:=q1
 subst e
 cases r1 with
 |cons r rr=>
  cases rr with
  |cons r' rr=>
   cases rr
   obtain⟨t,rfl⟩:=r
   obtain⟨t',rfl⟩:=r'
   exact call_range_2 (G8 hc I1 q1 q2 q3 q4 q)
noncomputable def T8(wi:TI)(g:TG)(tb:TS):TS:=fun D σ H=>wi σ H fun J H1=>∃W:Nat->Nat->St->Hp->Prop,(∃m,W 0 m σ H1)/\∀i m σ H,W i m σ H ->
 (J.stop i H/\D.nx σ H)\/(J.go i H/\∃N:St->Hp->Prop,(∀bn H',N bn H'->∃m',m'<m/\W (i+1) m' bn H')/\∀x H',J.yld i H x H'->g x σ H' fun ut H2=>tb {D with nx:=N,ct:=N,bk:=D.nx} ut H2)
def oG(fp:List Addr)(h:Heap):List (Addr×Obj):=fp.filterMap fun b=>(h.get? b).map fun o=>(b,o)
theorem bD{fp:List Addr}{h:Heap}{b:Addr}{o:Obj}(hb:b∈fp)(e:h.get? b=some o):(b,o)∈oG fp h:=List.mem_filterMap.mpr ⟨b,hb,by rw[e];rfl⟩
theorem KN{fp:List Addr}{h:Heap}{p:Addr×Obj}(hp:p∈oG fp h):p.1∈fp/\h.get? p.1=some p.2:=by
 obtain⟨b,hb,e⟩:=List.mem_filterMap.mp hp
 cases q:h.get? b with
 |none=>rw[q] at e;cases e
 |some o=>
  rw[q] at e
  have e':(b,o)=p:=Option.some.inj e
  subst e'
  exact⟨hb,q⟩
theorem Inv.pinned{pins:List (Addr×Obj)}{σ:St}{H:Hp}{s:Shared}{fp:List Addr}(I:Inv X pins σ H s)(hf:∀b∈fp,nW X pins H b)(ho:∀b∈fp,∃o,s.heap.get? b=some o/\∀v,o.data≠.cell v):Inv X (pins++oG fp s.heap) σ H s:=
 I.Jq fun p hp=>(List.mem_append.mp hp).elim (fun z=>I.pin p (mem_append_right _ z)) fun z=>by
  obtain⟨hb,e⟩:=KN z
  obtain⟨f0,f1,f2,_⟩:=hf p.1 hb
  obtain⟨o,e',d⟩:=ho p.1 hb
  rw[e] at e';cases e'
  exact⟨e,f0,f1,f2,d⟩
theorem Inv.dS{pins pl:List (Addr×Obj)}{σ:St}{H:Hp}{s:Shared}(I:Inv X (pins++pl) σ H s):Inv X pins σ H s:=I.Jq fun p hp=>I.pin p (mem_append_right _ (mem_append_left _ hp))
theorem Rt{iter:Expr}{body:List Stmt}{wi:TI}{g:TG}{tb:TS}{pos:Pos}(hp:PassesOwn (model X.prog X.w) X.A X.env X.xe)(hc:X.calm=true)(hi:PI X tg iter wi)(hg:PG X tg g)(hb:PSs X body tb)
  (hs:∀x,foldedSetIterable iter X.env x=pure x:=by intro _;rfl):PS X (.For tg iter body [] pos) (T8 wi g tb):=by
 intro pins s σ H D I h
 refine wpAny_For (thn (hi pins s σ H _ I h) fun v s1 h1=>thn h1 fun itv s2 h2=>?_) hs
 obtain⟨it,fp,tn,J,H2,e,I2,T,st2,f2,W,⟨m0,w0⟩,turn⟩:=h2
 subst e
 have stat:∀{H':Hp},(∀b∈fp,H' b=none)->∀b∈fp,nW X pins H' b:=fun hn b hb=>⟨hn b hb,(f2 b hb).2⟩
 refine codeAny_forLoop_any (fun n s'=>∃i bn H',Inv X pins bn H' s'/\tn i s'.heap/\(∀b∈fp,H' b=none)/\W i n bn H') ?_ m0 ⟨0,σ,H2,I2,st2,fun b hb=>(f2 b hb).1,w0⟩
 rintro n s3 ⟨i,o0,H3,I3,st3,fr3,w3⟩
 rcases turn i n o0 H3 w3 with ⟨stop,qn⟩|⟨go,N,hN,step⟩
 ·refine wpAny_passesOwn hp (thn (T.done X rfl rfl rfl (fun z=>z) i pins s3 o0 H3 X.xe I3 (stat fr3) st3 stop) fun r s4 hq0=>?_)
  obtain⟨hr,I4⟩:=hq0
  subst hr
  exact wpAny_execs_nil ⟨o0,H3,I4,qn⟩
 ·refine wpAny_passesOwn hp (thn (T.item X rfl rfl rfl (fun z=>z) i pins s3 o0 H3 X.xe I3 (stat fr3) st3 go) fun r s4 hq0=>?_)
  obtain⟨u,hr,h4⟩:=hq0
  subst hr
  refine wpAny_passesOwn hp (thn h4 fun _ s5 hq0=>?_)
  obtain⟨x,H5,I5,r5,y5,st5,fr5⟩:=hq0
  have I5':=I5.pinned (stat fr5) (T.obj _ _ st5)
  refine wpAny_passesOwn hp (thn (hg _ s5 o0 H5 x u _ I5' r5 (step x H5 y5)) fun _ s6 hq0=>?_)
  obtain⟨ga,H6,I6,q6⟩:=hq0
  refine wpAny_passesOwn hp (thn (hb _ s6 ga H6 _ I6 q6) fun f s7 q7=>?_)
  have again:∀{sK:St} {H7:Hp},Inv X (pins++oG fp s5.heap) sK H7 s7->N sK H7->∃m,m<n/\∃i bn H',Inv X pins bn H' s7/\tn i s7.heap/\(∀b∈fp,H' b=none)/\W i m bn H':=fun {sK H7} I7 n7=>by
   obtain⟨m',hm,w7⟩:=hN sK H7 n7
   refine⟨m',hm,i+1,sK,H7,I7.dS,T.keep _ _ _ st5 fun b hb o e=>(I7.pin (b,o) (mem_append_right _ (mem_append_right _ (bD hb e)))).1,fun b hb=>?_,w7⟩
   obtain⟨o,e,d⟩:=T.obj _ _ st5 b hb
   exact (I7.pin (b,o) (mem_append_right _ (mem_append_right _ (bD hb e)))).2.1
  cases f with
  |next=>obtain⟨sK,H7,I7,n7⟩:=q7;exact again I7 n7
  |cont=>obtain⟨sK,H7,I7,n7⟩:=q7;exact again I7 n7
  |brk=>obtain⟨sK,H7,I7,q7⟩:=q7;exact⟨sK,H7,I7.dS,q7⟩
  |ret v=>obtain⟨x7,sK,H7,I7,r7,q7⟩:=q7;exact⟨x7,sK,H7,I7.dS,r7,q7⟩
end
end L2
namespace L2
open PySem PySem.Spec PyProof.Rows
abbrev R2:=V->V->Hp->VK->Prop
noncomputable def OpR(X:Cx)(f:Value->Value->Sem Value)(r:R2):Prop:=
 ∀(pins:List (Addr×Obj)) (s:Shared) (σ:St) (H:Hp) (x y:V) (v u:Value) (Q:VK),Inv X pins σ H s->RelV x v->RelV y u->r x y H Q ->
  wpAny (model X.prog X.w) X.A (f v u) (EP X pins σ Q) X.xe s
noncomputable def UnR(X:Cx)(f:Value->Sem Value)(r:V->Hp->VK->Prop):Prop:=
 ∀(pins:List (Addr×Obj)) (s:Shared) (σ:St) (H:Hp) (x:V) (v:Value) (Q:VK),Inv X pins σ H s->RelV x v->r x H Q ->
  wpAny (model X.prog X.w) X.A (f v) (EP X pins σ Q) X.xe s
noncomputable def jE(X:Cx)(f:Value)(r:List V->Hp->VK->Prop):Prop:=
 ∀(pins:List (Addr×Obj)) (s:Shared) (σ:St) (H:Hp) (xs:List V) (us:List Value) (Q:VK),Inv X pins σ H s->Vals xs us->r xs H Q ->
  wpAny (model X.prog X.w) X.A (call f us) (EP X pins σ Q) X.xe s
noncomputable def tOp(r:R2)(ta tb:TE):TE:=fun σ H Q=>ta σ H fun x H1=>tb σ H1 fun y H2=>r x y H2 Q
noncomputable def tUn(r:V->Hp->VK->Prop)(ta:TE):TE:=fun σ H Q=>ta σ H fun x H1=>r x H1 Q
noncomputable def rI(C:Int->Int->Prop)(g:Int->Int->V):R2:=fun x y H Q=>∃i j,x = .int i/\y = .int j/\C i j/\Q (g i j) H
noncomputable def rI0(g:Int->Int->V):R2:=fun x y H Q=>∃i j,x = .int i/\y = .int j/\Q (g i j) H
def rU(g:Int->V):V->Hp->VK->Prop:=fun x H Q=>∃i,x = .int i/\Q (g i) H
section
variable {X:Cx}{a b c:Expr}{ta tb tc:TE}{pos:Pos}
theorem QX(ha:PE X a ta)(hb:PE X b tb){pins:List (Addr×Obj)}{s:Shared}{σ:St}{H:Hp}{R:V->V->Hp->Prop}(I:Inv X pins σ H s)
  (h:ta σ H fun x H1=>tb σ H1 fun y H2=>R x y H2) {Q:Value->Shared->Prop} {f:Value->Value->Sem Value}
  (hf:∀v u s2 x y H2,Inv X pins σ H2 s2->RelV x v->RelV y u->R x y H2->wpAny (model X.prog X.w) X.A (f v u) Q X.xe s2) :
  wpAny (model X.prog X.w) X.A (eval a X.env) (fun v ca=>wpAny (model X.prog X.w) X.A (eval b X.env) (fun u ii=>wpAny (model X.prog X.w) X.A (f v u) Q X.xe ii) X.xe ca) X.xe s:=by
 refine thn (ha pins s σ H _ I h) fun v s1 hq0=>?_
 obtain⟨x,H1,I1,r1,q1⟩:=hq0
 refine thn (hb pins s1 σ H1 _ I1 q1) fun u s2 hq0=>?_
 obtain⟨y,H2,I2,r2,q2⟩:=hq0
 exact hf v u s2 x y H2 I2 r1 r2 q2
theorem R7{op:Operator}{r:R2}(ho:OpR X (binaryOp op) r)(ha:PE X a ta)(hb:PE X b tb):PE X (.BinOp a op b pos) (tOp r ta tb):=by
 intro pins s σ H Q I h
 exact wpAny_BinOp (QX ha hb I h fun v u s2 x y H2 I2 rx ry q=>ho pins s2 σ H2 x y v u Q I2 rx ry q)
theorem Tv{op:UnaryOp}{r:V->Hp->VK->Prop}(ho:UnR X (unaryOp op) r)(ha:PE X a ta):PE X (.UnaryOp op a pos) (tUn r ta):=by
 intro pins s σ H Q I h
 exact UnaryOp_ (thn (ha pins s σ H _ I h) fun v s1 ⟨x,H1,I1,r1,q1⟩=>ho pins s1 σ H1 x v Q I1 r1 q1)
theorem opI{f:Value->Value->Sem Value}{C:Int->Int->Prop}{g:Int->Int->Int}
  (rule:∀(i j:Int) (t u:Tok) (s:Shared) (Q:Value->Shared->Prop) (E:Value->Shared->Prop),C i j->Q (.int (g i j) s.toks) {s with toks:=s.toks+1}->wpAny (model X.prog X.w) X.A (f (.int i t) (.int j u)) Q E s) :
  OpR X f (rI C fun i j=>.int (g i j)):=by
 intro pins s σ H x y v u Q I rx ry h
 obtain⟨i,j,rfl,rfl,hc,q⟩:=h
 obtain⟨t,rfl⟩:=rx
 obtain⟨t',rfl⟩:=ry
 exact rule i j t t' s _ _ hc ⟨.int (g i j),H,I.tok _,⟨_,rfl⟩,q⟩
theorem Sx{f:Value->Value->Sem Value}{g:Int->Int->Int}
  (rule:∀(i j:Int) (t u:Tok) (s:Shared) (Q:Value->Shared->Prop) (E:Value->Shared->Prop),Q (.int (g i j) s.toks) {s with toks:=s.toks+1}->wpAny (model X.prog X.w) X.A (f (.int i t) (.int j u)) Q E s) :
  OpR X f (rI0 fun i j=>.int (g i j)):=by
 intro pins s σ H x y v u Q I rx ry h
 obtain⟨i,j,rfl,rfl,q⟩:=h
 obtain⟨t,rfl⟩:=rx
 obtain⟨t',rfl⟩:=ry
 exact rule i j t t' s _ _ ⟨.int (g i j),H,I.tok _,⟨_,rfl⟩,q⟩
theorem O9{f:Value->Value->Sem Value}{g:Int->Int->Bool}
  (rule:∀(i j:Int) (t u:Tok) (s:Shared) (Q:Value->Shared->Prop) (E:Value->Shared->Prop),Q (.bool (g i j)) s->wpAny (model X.prog X.w) X.A (f (.int i t) (.int j u)) Q E s) :
  OpR X f (rI0 fun i j=>.bl (g i j)):=by
 intro pins s σ H x y v u Q I rx ry h
 obtain⟨i,j,rfl,rfl,q⟩:=h
 obtain⟨t,rfl⟩:=rx
 obtain⟨t',rfl⟩:=ry
 exact rule i j t t' s _ _ ⟨.bl (g i j),H,I,rfl,q⟩
noncomputable def PN(i j:Int):Prop:=0<=j/\j<=1000000/\i.natAbs<2 ^ 64
noncomputable def NJ(i j:Int):Prop:=(-(2 ^ 64)<i/\i<2 ^ 64)\/(-(2 ^ 64)<j/\j<2 ^ 64)
theorem NJ.ok{i j:Int}(h:NJ i j):IntMulOk i j:=by
 rcases h with ⟨h1,h2⟩|⟨h1,h2⟩
 ·exact .of_left (intBits_le_64 h1 h2)
 ·exact .of_right (intBits_le_64 h1 h2)
theorem Rg:OpR X (binaryOp .Add) (rI0 fun i j=>.int (i+j)):=Sx fun _ _ _ _ _ _ _ q=>add_int q
theorem RQ:OpR X (binaryOp .Sub) (rI0 fun i j=>.int (i-j)):=Sx fun _ _ _ _ _ _ _ q=>sub_int q
theorem OO:OpR X (binaryOp .Mod) (rI (fun _ j=>j≠0) fun i j=>.int (i.fmod j)):=opI fun _ _ _ _ _ _ _ hc q=>mod_int' hc q
theorem P8:OpR X (binaryOp .Pow) (rI PN fun i j=>.int (i ^ j.toNat)):=opI fun _ _ _ _ _ _ _ hc q=>pow_int_small hc.1 hc.2.1 hc.2.2 q
theorem unI{f:Value->Sem Value}{g:Int->Int}
  (rule:∀(i:Int) (t:Tok) (s:Shared) (Q:Value->Shared->Prop) (E:Value->Shared->Prop),Q (.int (g i) s.toks) {s with toks:=s.toks+1}->wpAny (model X.prog X.w) X.A (f (.int i t)) Q E s) :
  UnR X f (rU fun i=>.int (g i)):=by
 intro pins s σ H x v Q I rx h
 obtain⟨i,rfl,q⟩:=h
 obtain⟨t,rfl⟩:=rx
 exact rule i t s _ _ ⟨.int (g i),H,I.tok _,⟨_,rfl⟩,q⟩
theorem Qn:UnR X (unaryOp .USub) (rU fun i=>.int (-i)):=unI fun _ _ _ _ _ q=>neg_int q
end
section
variable {X:Cx}{a b c:Expr}{ta tb tc:TE}{pos:Pos}
theorem nD:OpR X (compareOp .Lt) (rI0 fun i j=>.bl (decide (i<j))):=O9 fun _ _ _ _ _ _ _ q=>lt_int q
theorem Po:OpR X (compareOp .LtE) (rI0 fun i j=>.bl (decide (i<=j))):=O9 fun _ _ _ _ _ _ _ q=>le_int q
theorem kW:OpR X (compareOp .Gt) (rI0 fun i j=>.bl (decide (j<i))):=O9 fun _ _ _ _ _ _ _ q=>gt_int q
theorem G0:OpR X (compareOp .GtE) (rI0 fun i j=>.bl (decide (j<=i))):=O9 fun _ _ _ _ _ _ _ q=>ge_int q
theorem aN(b:Expr){op:CmpOp}(h:op≠.In:=by decide)(h2:op≠.NotIn:=by decide):behindInMarks op b=false:=by
 have e1:(op==CmpOp.In)=false:=by cases op<;>first|rfl|exact absurd rfl h
 have e2:(op==CmpOp.NotIn)=false:=by cases op<;>first|rfl|exact absurd rfl h2
 cases b<;>simp[behindInMarks,e1,e2]
theorem NU{op:CmpOp}{r:R2}(ho:OpR X (compareOp op) r)(ha:PE X a ta)(hb:PE X b tb)(hm:behindInMarks op b=false):PE X (.Compare a [op] [b] pos) (tOp r ta tb):=by
 intro pins s σ H Q I h
 exact wpAny_Compare1 (QX ha hb I h fun v u s2 x y H2 I2 rx ry q=>ho pins s2 σ H2 x y v u Q I2 rx ry q) hm
noncomputable def Pu(t:TE):TT:=fun σ H Q=>t σ H fun x H'=>∃k,x = .bl k/\Q k H'
theorem NR{op:CmpOp}{r:R2}(ho:OpR X (compareOp op) r)(ha:PE X a ta)(hb:PE X b tb)(hm:behindInMarks op b=false):PT X (.Compare a [op] [b] pos) (Pu (tOp r ta tb)):=by
 intro pins s σ H Q I h
 refine wpAny_isTrue_Compare1 (thn (ha pins s σ H _ I h) fun v s1 ⟨x,H1,I1,r1,q1⟩=>thn (hb pins s1 σ H1 _ I1 q1) fun u s2 ⟨y,H2,I2,r2,q2⟩=>
  thn (ho pins s2 σ H2 x y v u _ I2 r1 r2 q2) fun c s3 ⟨z,H3,I3,r3,k,e,q3⟩=>?_) hm
 subst e
 cases r3
 exact wpAny_truthy_bool ⟨H3,I3,q3⟩
theorem xG:(sizeLine:Nat)<2 ^ 63:=by rw[sizeLine_eq];decide
theorem vals1{x:V}{us:List Value}(r:Vals [x] us):∃u,us=[u]/\RelV x u:=by
 cases r with
 |cons r1 r2=>cases r2;exact⟨_,rfl,r1⟩
theorem vals2{x y:V}{us:List Value}(r:Vals [x,y] us):∃u w',us=[u,w']/\RelV x u/\RelV y w':=by
 cases r with
 |cons r1 r2=>
  cases r2 with
  |cons r3 r4=>cases r4;exact⟨_,_,rfl,r1,r3⟩
theorem Lk:jE X (.builtin "abs") (fun xs H Q=>∃i,xs=[.int i]/\Q (.int (if i<0 then -i else i)) H):=by
 intro pins s σ H xs us Q I r h
 obtain⟨i,rfl,q⟩:=h
 obtain⟨u,rfl,t,rfl⟩:=vals1 r
 exact call_abs_int fun u tk=>⟨.int (if i<0 then -i else i),H,I.tok _,⟨_,rfl⟩,q⟩
theorem Lc(hc:X.calm=true):jE X (.builtin "max") (fun xs H Q=>∃i j,xs=[.int i,.int j]/\Q (.int (if j>i then j else i)) H):=by
 intro pins s σ H xs us Q I r h
 obtain⟨i,j,rfl,q⟩:=h
 obtain⟨u,w',rfl,⟨t,rfl⟩,⟨t',rfl⟩⟩:=vals2 r
 refine max_two_ints (I.ok.hd hc) fun h' tk k=>⟨_,H,I.kept k,?_,q⟩
 by_cases hj:j>i
 ·rw[if_pos hj,if_pos hj];exact⟨_,rfl⟩
 ·rw[if_neg hj,if_neg hj];exact⟨_,rfl⟩
theorem KZ(hc:X.calm=true):jE X (.builtin "min") (fun xs H Q=>∃i j,xs=[.int i,.int j]/\Q (.int (if j<i then j else i)) H):=by
 intro pins s σ H xs us Q I r h
 obtain⟨i,j,rfl,q⟩:=h
 obtain⟨u,w',rfl,⟨t,rfl⟩,⟨t',rfl⟩⟩:=vals2 r
 refine min_two_ints (I.ok.hd hc) fun h' tk k=>⟨_,H,I.kept k,?_,q⟩
 by_cases hj:j<i
 ·rw[if_pos hj,if_pos hj];exact⟨_,rfl⟩
 ·rw[if_neg hj,if_neg hj];exact⟨_,rfl⟩
theorem K7:jE X (.type "int") (fun xs H Q=>(∃i,xs=[.int i]/\Q (.int i) H)\/∃k,xs=[.bl k]/\Q (.int (if k then 1 else 0)) H):=by
 intro pins s σ H xs us Q I r h
 rcases h with ⟨i,rfl,q⟩|⟨k,rfl,q⟩
 ·obtain⟨u,rfl,t,rfl⟩:=vals1 r
  exact call_int_int ⟨.int i,H,I,⟨_,rfl⟩,q⟩
 ·obtain⟨u,rfl,r1⟩:=vals1 r
  cases r1
  exact call_int_bool ⟨.int (if k then 1 else 0),H,I.tok _,⟨_,rfl⟩,q⟩
end
end L2
namespace L2
open PySem PySem.Spec PyProof.Rows
end L2
namespace L2
open PySem PySem.Spec PyProof.Rows
structure mC(k:Nat)(A:Around):Prop where
 hd:A.handled=none
 dp:A.depth+3*k+5<recursionLimit
 un:A.units+16*k+200<cLine
theorem mC.mono{j k:Nat}{A:Around}(r:mC k A)(h:j<=k):mC j A:=⟨r.hd,by have:=r.dp;omega,by have:=r.un;omega⟩
theorem mC.deeper{k:Nat}{A:Around}(r:mC (k+1) A)(env:Env):mC k (A.deeper env):=
 ⟨r.hd,by have:=r.dp;show A.depth+1+3*k+5<_;omega,by have:=r.un;show A.units+3+16*k+200<_;omega⟩
theorem mC.depth{k:Nat}{A:Around}(r:mC k A):A.depth<recursionLimit:=by have:=r.dp;omega
theorem mC.units{k:Nat}{A:Around}(r:mC k A):A.units+64<cLine:=by have:=r.un;omega
noncomputable def TL:TA:=fun _ H Q=>Q [] H
noncomputable def RW(ta:TE)(tr:TA):TA:=fun σ H Q=>ta σ H fun x H1=>tr σ H1 fun xs H2=>Q (x::xs) H2
section
variable {X:Cx}{e:Expr}{es:List Expr}{te:TE}{t:TA}{pos:Pos}
theorem uW:PA X [] TL:=fun _ _ _ _ H Q I h=>Calls.spliced_nil ⟨[],H,I,.nil,h⟩
theorem i6(ha:PE X e te)(hr:PA X es t)(hs:starEach (e::es) X.env=(false,eval e X.env)::starEach es X.env:=by rfl):PA X (e::es) (RW te t):=by
 intro pos pins s σ H Q I h
 rw[hs]
 show wpAny _ _ (spliced ((false,eval e X.env)::backTo pos (starEach es X.env))) _ _ s
 refine Calls.spliced_cons (thn (ha pins s σ H _ I h) fun u s1 hq0=>?_)
 obtain⟨x,H1,I1,r1,q1⟩:=hq0
 exact thn (hr pos pins s1 σ H1 _ I1 q1) fun us s2 ⟨xs,H2,I2,r2,q2⟩=>⟨x::xs,H2,I2,.cons r1 r2,q2⟩
noncomputable def Um(t:TA):TE:=fun σ H Q=>t σ H fun xs H1=>xs.length<=sizeLine/\∀p,H1 p=none->Q (.ref p) (upd H1 p (.tup xs))
noncomputable def TJ(t:TA):TE:=fun σ H Q=>t σ H fun xs H1=>xs.length<=sizeLine/\∀p,H1 p=none->Q (.ref p) (upd H1 p (.lst xs))
theorem QR{x1}(h:PA X es t):PE X (.Tuple es x1 pos) (Um t):=by
 intro pins s σ H Q I hq
 refine wpAny_Tuple_spliced (thn (h pos pins s σ H _ I hq) fun us s1 ⟨xs,H1,I1,r,z,q⟩=>⟨by rw[<- r.length];exact z,?_⟩)
 have hf:H1 s1.heap.objs.size=none:=I1.hok.fresh (le_refl _)
 refine⟨.ref s1.heap.objs.size,upd H1 s1.heap.objs.size (.tup xs),I1.laid (t':=s1.toks) (fun b u e=>Heap.get?_push_of_some _ e) (le_refl _) ?_,rfl,q _ hf⟩
 exact⟨z,us,r,⟨_,Heap.get?_push_size _ rfl,rfl,_,rfl⟩⟩
theorem Qk(h:PA X es t):PE X (.List es pos) (TJ t):=by
 intro pins s σ H Q I hq
 refine wpAny_List_spliced (thn (h pos pins s σ H _ I hq) fun us s1 ⟨xs,H1,I1,r,z,q⟩=>⟨by rw[<- r.length];exact z,?_⟩)
 have hf:H1 s1.heap.objs.size=none:=I1.hok.fresh (le_refl _)
 refine⟨.ref s1.heap.objs.size,upd H1 s1.heap.objs.size (.lst xs),I1.laid (t':=s1.toks) (fun b u e=>Heap.get?_push_of_some _ e) (le_refl _) ?_,rfl,q _ hf⟩
 exact⟨z,us,0,r,Heap.get?_push_size _ rfl⟩
end
abbrev Sp:=List V->Hp->VK->XK->Prop
abbrev CXT:=List Env->Hp->Shared->XK->Value->Shared->Prop
structure OH(P:Program)(w:World)(K:PySem.W.Frag)(mg:Str->Option Value)(base:Heap)(A:Around)(outer:List Env)(s:Shared)(H:Hp):Prop where
 frames:A.frames=some outer
 mod:Mod K mg base
 bs:∀b o,base.get? b=some o->s.heap.get? b=some o/\H b=none
 bsz:base.objs.size<=s.heap.objs.size
 zd:s.heap.FunFrames base outer
 frf:∀b∈frs outer,H b=none
 hok:HOk P w H s.heap
 bare:AllBare s.gens
noncomputable def CE(outer:List Env)(P:Program)(w:World)(H:Hp)(s:Shared)(Q:VK)(u:Value)(s':Shared):Prop:=
 ∃v H',s'.os=s.os/\AllBare s'.gens/\Un (frs outer) [] H H' s.heap s'.heap/\HOk P w H' s'.heap/\RelV v u/\Q v H'
noncomputable def CR(CX:CXT)(outer:List Env)(P:Program)(w:World)(H:Hp)(s:Shared)(Q:VK)(E:XK)(r:Result)(s':Shared):Prop:=
 match r with
 |.ok (.ret u)=>CE outer P w H s Q u s'
 |.ok _=>False
 |.error e=>CX outer H s E e s'
structure bu(P:Program)(w:World)(K:PySem.W.Frag)(mg:Str->Option Value)(base:Heap)(CX:CXT)(k:Nat)(f:Addr)(fd:FuncData)(ps:List Str)(sp:Sp):Prop where
 len:∀vs H Q E,sp vs H Q E->vs.length=ps.length
 run:∀(A:Around) (outer:List Env) (s:Shared) (H:Hp) (args:Args) (us:List Value) (vs:List V) (Q:VK) (E:XK),mC k A->OH P w K mg base A outer s H->BindsTo s fd args (ps.zip us)->Vals vs us->sp vs H Q E ->
  codeAny (model P w) A (.call (.ref f) args) (CR CX outer P w H s Q E) s
theorem bu.imp{P:Program}{w:World}{K:PySem.W.Frag}{mg:Str->Option Value}{base:Heap}{CX:CXT}{k:Nat}{f:Addr}{fd:FuncData}{ps:List Str}{sp sp':Sp}(F:bu P w K mg base CX k f fd ps sp)
  (h:∀vs H Q E,sp' vs H Q E->sp vs H Q E):bu P w K mg base CX k f fd ps sp':=
 ⟨fun vs H Q E q=>F.len vs H Q E (h _ _ _ _ q),fun A outer s H args us vs Q E hr he hb hv hs=>F.run A outer s H args us vs Q E hr he hb hv (h _ _ _ _ hs)⟩
section
variable {X:Cx}{pins:List (Addr×Obj)}{σ:St}{H:Hp}{s s':Shared}
theorem Inv.Ug(I:Inv X pins σ H s):OH X.prog X.w X.K X.mg X.base X.A X.stack s H:=
 ⟨I.ok.frames,I.ok.mod,I.bs,le_trans I.ok.bsz I.sz,I.stack,I.p5,I.hok,I.bare⟩
theorem Inv.after{Q:VK}{u:Value}(I:Inv X pins σ H s)(h:CE X.stack X.prog X.w H s Q u s'):EP X pins σ Q u s':=by
 obtain⟨v,H',os,bare,un,hok,r,q⟩:=h
 obtain⟨hh,g,d,t,os'⟩:=s'
 obtain rfl:os'=s.os:=os
 exact⟨v,H',I.call (h':=hh) (g':=g) (d':=d) (t':=t) (ch:=[]) un hok bare (fun b z=>absurd z (by simp)),r,q⟩
end
noncomputable def R4(sp:Sp)(dvs:List V)(E:XK)(t:TA):TE:=fun σ H Q=>t σ H fun vs H1=>sp (vs++dvs) H1 Q E
noncomputable def Binds(K:PySem.W.Frag)(fd:FuncData)(ps:List Str)(ds:List Value):Prop:=
 ∀(s:Shared) (us:List Value),K.In s.heap->(us++ds).length=ps.length->BindsTo s fd ⟨us,[]⟩ (ps.zip (us++ds))
theorem Binds.all{K:PySem.W.Frag}{fd:FuncData}{ps:List Str}(h:∀us:List Value,us.length=ps.length->bindArgs fd ⟨us,[]⟩=pure (ps.zip us)):Binds K fd ps []:=fun s us _ hl=>by
 rw[append_nil] at hl ⊢
 exact .of_eq (h us hl)
noncomputable def Passes(CX:CXT)(X:Cx)(E:XK):Prop:=∀(pins:List (Addr×Obj)) (σ:St) (H:Hp) (s:Shared) (e:Value) (s':Shared),Inv X pins σ H s->CX X.stack H s E e s'->X.xe e s'
section
variable {X:Cx}{CX:CXT}{k:Nat}{f C:Addr}{fd:FuncData}{ps:List Str}{sp:Sp}{dvs:List V}{ds:List Value}{E:XK}{x m:Str}{p pos apos:Pos}{e o:Expr}{es:List Expr}{ta:TE}{t:TA}
theorem Q7{pins:List (Addr×Obj)}{σ:St}{H:Hp}{s:Shared}{Q:VK}{us:List Value}{vs:List V}(F:bu X.prog X.w X.K X.mg X.base CX k f fd ps sp)(hr:mC k X.A)(hb:Binds X.K fd ps ds)(hd:Vals dvs ds)(hx:Passes CX X E)
  (I:Inv X pins σ H s) (r:Vals vs us) (h:sp (vs++dvs) H Q E):wpAny (model X.prog X.w) X.A (call (.ref f) us) (EP X pins σ Q) X.xe s:=by
 have r2:Vals (vs++dvs) (us++ds):=r.append hd
 have hl:(us++ds).length=ps.length:=by rw[<- r2.length];exact F.len _ _ _ _ h
 refine wpAny_call (codeAny_mono (F.run X.A X.stack s H ⟨us,[]⟩ (us++ds) (vs++dvs) Q E hr I.Ug (hb s us I.kIn hl) r2 h) fun r s' hq=>?_)
 cases r with
 |error e=>exact hx pins σ H s e s' I hq
 |ok fl=>
  cases fl with
  |ret u=>exact I.after hq
  |next=>exact False.elim hq
  |brk=>exact False.elim hq
  |cont=>exact False.elim hq
theorem N0(F:bu X.prog X.w X.K X.mg X.base CX k f fd ps sp)(hr:mC k X.A)(hg:Gl X x)(hm:X.mg x=some (.ref f))(hk:keepIn X.K (.ref f)=true)(hb:Binds X.K fd ps ds)(hd:Vals dvs ds)(hx:Passes CX X E)
  (ha:PA X (e::es) t) (hdb:(x==("__debug__":Str))=false:=by decide) (he:starEach (e::es) X.env=(false,eval e X.env)::starEach es X.env:=by rfl) (hpl:(backTo pos (starEach es X.env)).any (·.1)=false:=by rfl) :
  PE X (.Call (.Name x p) (e::es) [] pos) (R4 sp dvs E t):=by
 intro pins s σ H Q I h
 refine wpAny_Call_Name_kw (IY I hg hm ?_ hdb)
 refine PySem.W.callWith_K (h₀:=X.base) I.ok.mod.kin hk (thn (ha pos pins s σ H _ I h) fun us s1 ⟨vs,H1,I1,r,q⟩=>⟨I1.kIn,?_⟩) he hpl
 exact Q7 F hr hb hd hx I1 r q
end
structure aK(N P:List Str)(sc:Scope):Prop where
 kind:sc.kind = .function
 co:sc.isCoroutine=false
 gen:sc.isGenerator=false
 nd:N.Nodup
 pre:N.take P.length=P
 par:∀x∈P,sc.names.lookup x=some .local\/sc.names.lookup x=some .cell
 Q9:∀y∈sc.names,y.2≠.free
theorem BP{kindOf:Str->Option NameKind}{x:Str}:∀{binds:List (Str×Value)} {m:Str->Option Value},(∀v,(x,v) ∉ binds)->bindL kindOf binds m x=m x
 |[],_,_=>rfl
 |(n,v)::r,m,h=>by
  unfold bindL
  rw[BP fun w hw=>h w (mem_cons_of_mem _ hw)]
  split
  ·have:x≠n:=by rintro rfl;exact h v mem_cons_self
   simp[this]
  ·rfl
theorem By{kindOf:Str->Option NameKind}{x:Str}:∀{binds:List (Str×Value)} {m:Str->Option Value},(∀v,(x,v) ∉ binds)->bindC kindOf binds m x=m x
 |[],_,_=>rfl
 |(n,v)::r,m,h=>by
  unfold bindC
  rw[By fun w hw=>h w (mem_cons_of_mem _ hw)]
  split
  ·rfl
  ·have:x≠n:=by rintro rfl;exact h v mem_cons_self
   simp[this]
theorem BD{kindOf:Str->Option NameKind}{x:Str}{v:Value}:∀{P:List Str} {vs:List Value} {i:Nat} {m:Str->Option Value},P.Nodup->P[i]? = some x->vs[i]? = some v->kindOf x=some .local ->
  bindL kindOf (P.zip vs) m x=some v
 |[],_,_,_,_,h,_,_=>by simp at h
 |_::_,[],_,_,_,_,h,_=>by simp at h
 |p::P,w::vs,0,m,nd,h1,h2,hk=>by
  simp at h1 h2;subst h1;subst h2
  show bindL kindOf ((p,w)::P.zip vs) m p=_
  unfold bindL
  rw[BP fun v hv=>(List.nodup_cons.mp nd).1 (List.of_mem_zip hv).1,if_pos hk]
  simp
 |p::P,w::vs,i+1,m,nd,h1,h2,hk=>by
  show bindL kindOf ((p,w)::P.zip vs) m x=_
  unfold bindL
  exact BD (i:=i) (List.nodup_cons.mp nd).2 (by simpa using h1) (by simpa using h2) hk
theorem BM{kindOf:Str->Option NameKind}{x:Str}{v:Value}:∀{P:List Str} {vs:List Value} {i:Nat} {m:Str->Option Value},P.Nodup->P[i]? = some x->vs[i]? = some v->kindOf x≠some .local ->
  bindC kindOf (P.zip vs) m x=some v
 |[],_,_,_,_,h,_,_=>by simp at h
 |_::_,[],_,_,_,_,h,_=>by simp at h
 |p::P,w::vs,0,m,nd,h1,h2,hk=>by
  simp at h1 h2;subst h1;subst h2
  show bindC kindOf ((p,w)::P.zip vs) m p=_
  unfold bindC
  rw[By fun v hv=>(List.nodup_cons.mp nd).1 (List.of_mem_zip hv).1,if_neg hk]
  simp
 |p::P,w::vs,i+1,m,nd,h1,h2,hk=>by
  show bindC kindOf ((p,w)::P.zip vs) m x=_
  unfold bindC
  exact BM (i:=i) (List.nodup_cons.mp nd).2 (by simpa using h1) (by simpa using h2) hk
def start(N:List Str)(vs:List V):St:=vs.map some++List.replicate (N.length-vs.length) none
def IH(CX:CXT)(P:Program)(w:World)(K:PySem.W.Frag)(mg:Str->Option Value)(base:Heap)(N:List Str)(qual:Str)(scope:Scope)(f:Addr)(cd:Value)(A:Around)(outer:List Env)(s:Shared)(H:Hp)(E:XK):Cx where
 prog:=P
 w:=w
 K:=K
 mg:=mg
 base:=base
 A:=A.deeper (envOfC qual scope s.heap.objs.size f cd)
 N:=N
 io:=s
 H₀:=H
 env:=envOfC qual scope s.heap.objs.size f cd
 outer:=outer
 stack:=envOfC qual scope s.heap.objs.size f cd::outer
 ex:=[]
 calm:=true
 fn:=fun _=>true
 pn:=[]
 xe:=fun e s'=>wpAny (model P w) (A.deeper (envOfC qual scope s.heap.objs.size f cd)) (leaving (envOfC qual scope s.heap.objs.size f cd) e) (fun _ s''=>CX outer H s E e s'') (fun e' s''=>CX outer H s E e' s'') s'
theorem GU{sc:Scope}{n:Nat}{x:Str}(h:sc.names.lookup x=some .cell):∃c,(cellsFrom n sc.names []).lookup x=some c:=by
 have q:=PySem.W.cellsFrom_some sc.names n [] (.inl h)
 exact Option.isSome_iff_exists.mp q
theorem Ke{CX:CXT}{P:Program}{w:World}{K:PySem.W.Frag}{mg:Str->Option Value}{base:Heap}{N ps:List Str}{qual:Str}{scope:Scope}{f:Addr}{cd:Value}{A:Around}{outer:List Env}{s s1:Shared}{H:Hp}{E:XK}{us:List Value}{vs:List V}
  (S:aK N ps scope) (hd:A.handled=none) (e0:OH P w K mg base A outer s H) (hl:vs.length=ps.length) (r:Vals vs us)
  (x:InCallC s s.heap.objs.size (bindL (envOfC qual scope s.heap.objs.size f cd).kindOf (ps.zip us) fun _=>none) (cellsFrom (s.heap.objs.size+1) scope.names []) (bindC (envOfC qual scope s.heap.objs.size f cd).kindOf (ps.zip us) fun _=>none) s1) :
  Inv (IH CX P w K mg base N qual scope f cd A outer s H E) [] (start N vs) H s1:=by
 have hpl:ps.length<=N.length:=by have:=congrArg List.length S.pre;rw[length_take] at this;omega
 obtain⟨h1,tk,rfl,hk⟩:=x.done
 have noA:∀b:Addr,b ∉ (IH CX P w K mg base N qual scope f cd A outer s H E).ex:=fun b z=>absurd (show b∈([]:List Addr) from z) (by simp)
 refine⟨⟨e0.mod,S.kind,rfl,rfl,le_refl _,fun y z c h1 h2=>?_,fun y hy=>?_,fun y c _ h=>?_,fun _=>hd,.inl hd,Around.frames_deeper e0.frames,.inr ⟨rfl,rfl⟩,fun b z=>absurd z (noA b),e0.bs,e0.bsz,fun b _ _=>noA b,fun b z=>absurd z (noA b),e0.zd,e0.frf⟩,
  rfl,e0.bare,Un.kept hk,⟨_,x.toInCall.ns,fun i y v h1 h2 h3=>?_⟩,fun y c h=>⟨_,x.cell y c h⟩,e0.hok.fresh (le_refl _),fun y c h=>?_,fun p hp=>absurd (show p∈([]:List (Addr×Obj)) from hp) (by simp),e0.hok.kept hk,?_⟩
 ·exact name_of_addr x.apart (mem_of_lookup h1) (mem_of_lookup h2)
 ·have hy:scope.names.lookup y=some .cell\/scope.names.lookup y=some .free:=hy
  rcases hy with hy|hy
  ·exact GU hy
  ·exact absurd rfl (S.Q9 _ (mem_of_lookup hy))
 ·exact Nat.le_of_lt (x.above y c (mem_of_lookup h))
 ·have hi:i<vs.length:=by
   unfold start at h2
   by_cases hi:i<vs.length
   ·exact hi
   ·rw[getElem?_append_right (by simpa using hi)] at h2
    rw[List.getElem?_replicate] at h2
    split at h2<;>cases h2
  have ha:vs[i]? = some v:=by
   unfold start at h2
   rw[getElem?_append_left (by simpa using hi),getElem?_map] at h2
   cases e:vs[i]? with
   |none=>rw[e] at h2;cases h2
   |some a=>rw[e] at h2;cases h2;rfl
  obtain⟨u,hu,rv⟩:=r.get ha
  have hp:ps[i]? = some y:=by
   rw[<- S.pre,List.getElem?_take_of_lt ∅];exact h1
  have ndP:ps.Nodup:=by rw[<- S.pre];exact S.nd.sublist (List.take_sublist _ _)
  refine⟨u,rv,?_⟩
  rcases S.par y (mem_of_getElem? hp) with k|k
  ·exact .inl ⟨k,BD ndP hp hu k⟩
  ·obtain⟨c,e⟩:=GU (n:=s.heap.objs.size+1) k
   refine .inr ⟨.inl k,c,e,?_⟩
   have q:=x.cell y c e
   rw[BM ndP hp hu (by show scope.names.lookup y≠_;rw[k];decide)] at q
   exact q
 ·exact e0.hok.fresh (Nat.le_of_lt (x.above y c (mem_of_lookup h)))
 ·unfold start
  show _=N.length
  rw[length_append,length_map,List.length_replicate]
  omega
theorem SD{CX:CXT}{P:Program}{w:World}{K:PySem.W.Frag}{mg:Str->Option Value}{base:Heap}{k:Nat}{f:Addr}{name qual:Str}{params:Arguments}{body:List Stmt}{scope:Scope}{dV kV doc pm cdv ct oc:Value}{an od:Option Addr}
  {osl:Array (Option Value)} {N ps:List Str} {sp:Sp} (lk:K.lookup f=some ⟨oc,od,.func (fnOf name qual params body scope dV kV doc pm an cdv ct),osl⟩) (hcd:codeIn K cdv qual=true) (S:aK N ps scope)
  (len:∀vs H Q E,sp vs H Q E->vs.length=ps.length)
  (hbody:∀(A:Around) (outer:List Env) (s:Shared) (H:Hp) (vs:List V) (Q:VK) (E:XK),mC k (A.deeper (envOfC qual scope s.heap.objs.size f cdv))->sp vs H Q E ->
   ∃t,PSs (IH CX P w K mg base N qual scope f cdv A outer s H E) body t/\t {nx:=fun _ H'=>Q .non H',rt:=Q} (start N vs) H) :
  bu P w K mg base CX (k+1) f (fnOf name qual params body scope dV kV doc pm an cdv ct) ps sp:=by
 refine⟨len,fun A outer s H args us vs Q E hr e0 hb r hsp=>?_⟩
 have hl:=len _ _ _ _ hsp
 have KX:K.In s.heap:=e0.mod.kin.keeps fun b o e=>(e0.bs b o e).1
 have lim:s.heap.NoLimit:=e0.mod.nolimit.keeps fun b o e=>(e0.bs b o e).1
 have hkind:∀y∈ps.zip us,scope.names.lookup y.1=some .local\/(scope.names.lookup y.1=some .cell/\((cellsFrom (s.heap.objs.size+1) scope.names []).lookup y.1).isSome=true):=fun ⟨n,v⟩ hy=>by
  rcases S.par n (List.of_mem_zip hy).1 with q|q
  ·exact .inl q
  ·exact .inr ⟨q,PySem.W.cellsFrom_some _ _ _ (.inl q)⟩
 refine codeAny_call_function hr.depth (KX _ _ lk) rfl S.co S.gen rfl (PySem.W.codeRec_of KX hcd) (hb _ _ _ _ ?_)
 refine wpAny_newFunctionEnv_cells S.kind hkind fun env he s1 x=>?_
 subst he
 refine⟨lim.keeps x.toInCall.keep,codeAny_func ?_⟩
 obtain⟨t,ht,hq⟩:=hbody A outer s H vs Q E (hr.deeper _) hsp
 have I:Inv (IH CX P w K mg base N qual scope f cdv A outer s H E) [] (start N vs) H s1:=Ke S hr.hd e0 hl r x
 refine wpAny_mono (ht [] s1 (start N vs) H _ I hq) (fun fl s' hs=>?_) fun e s' hs=>hs
 have fin:∀{bn:St} {H':Hp} {v:V} {u:Value},Inv (IH CX P w K mg base N qual scope f cdv A outer s H E) [] bn H' s'->RelV v u->Q v H'->CE outer P w H s Q u s':=
  fun {bn H' v u} J rv q=>⟨v,H',J.os,J.bare,J.base,J.hok,rv,q⟩
 cases fl with
 |ret u=>
  obtain⟨v,bn,H',J,rv,q⟩:=hs
  exact fin J rv q
 |next=>
  obtain⟨bn,H',J,q⟩:=hs
  exact fin (v:=V.non) (u:=Value.none) J rfl q
 |brk=>
  obtain⟨_,_,_,q⟩:=hs
  exact False.elim q
 |cont=>
  obtain⟨_,_,_,q⟩:=hs
  exact False.elim q
end L2
namespace L2
open PySem PySem.Spec PyProof.Rows
section
variable {X:Cx}{x:Str}{p pos:Pos}{e:Expr}{es:List Expr}{t:TA}{id T:String}{r:List V->Hp->VK->Prop}
noncomputable def tCB(r:List V->Hp->VK->Prop)(t:TA):TE:=fun σ H Q=>t σ H fun vs H1=>r vs H1 Q
theorem xw(hc:jE X (.builtin id) r)(hg:Gl X x)(hm:X.mg x=none)(hv:bootBuiltins x=some (.builtin id))(ha:PA X (e::es) t)(hn:x ≠ "__name__":=by decide)(hdb:(x==("__debug__":Str))=false:=by decide)
  (he:starEach (e::es) X.env=(false,eval e X.env)::starEach es X.env:=by rfl) (hpl:(backTo pos (starEach es X.env)).any (·.1)=false:=by rfl):PE X (.Call (.Name x p) (e::es) [] pos) (tCB r t):=by
 intro pins s σ H Q I h
 refine wpAny_Call_Name_kw (rf I hg hm hv ?_ hn hdb)
 exact PyProof.Rows.callWith_builtin1 (thn (ha pos pins s σ H _ I h) fun us s1 ⟨vs,H1,I1,r1,q1⟩=>hc pins s1 σ H1 vs us Q I1 r1 q1) he hpl
theorem Kg(hc:jE X (.type T) r)(hg:Gl X x)(hm:X.mg x=none)(hv:bootBuiltins x=some (.type T))(ha:PA X (e::es) t)(hn:x ≠ "__name__":=by decide)(hdb:(x==("__debug__":Str))=false:=by decide)
  (he:starEach (e::es) X.env=(false,eval e X.env)::starEach es X.env:=by rfl) (hpl:(backTo pos (starEach es X.env)).any (·.1)=false:=by rfl):PE X (.Call (.Name x p) (e::es) [] pos) (tCB r t):=by
 intro pins s σ H Q I h
 refine wpAny_Call_Name_kw (rf I hg hm hv ?_ hn hdb)
 exact PyProof.Rows.callWith_type1 (thn (ha pos pins s σ H _ I h) fun us s1 ⟨vs,H1,I1,r1,q1⟩=>hc pins s1 σ H1 vs us Q I1 r1 q1) he hpl
end
end L2
namespace HT
open PySem PyProof.Rows
section
open PySem.SeqAt
open PySem.AutoSeq1 (wpAny_loadPart')
open PySem.MeetsSeq PySem.MeetsSeq2 PySem.MeetsSeq3
end
section
variable {prog:Program}{w:World}{A:Around}{E:Value->Shared->Prop}{s:Shared}
def sIx(n d:Nat):Option Int->Nat
 |none=>d
 |some v=>if v<0 then (v+(n:Int)).toNat else min v.toNat n
theorem Q0(n d:Nat)(hd:d<=n)(o:Option Int):sIx n d o<=n:=by
 cases o with
 |none=>exact hd
 |some v=>
  show (if v<0 then (v+(n:Int)).toNat else min v.toNat n)<=n
  by_cases hv:v<0
  ·rw[if_pos hv];omega
  ·rw[if_neg hv];exact Nat.min_le_right _ _
theorem Jj(v:Int)(n d:Nat):(if v<0 then max (v+(n:Int)) 0 else min v (n:Int))=((sIx n d (some v):Nat):Int):=by
 show (if v<0 then max (v+(n:Int)) 0 else min v (n:Int))=(((if v<0 then (v+(n:Int)).toNat else min v.toNat n):Nat):Int)
 by_cases hv:v<0
 ·simp only[if_pos hv];omega
 ·simp only[if_neg hv];omega
theorem HV(lo hi:Option Int)(n:Nat):Builtin.Slice.sliceAdjust lo hi 1 (n:Int)=(((sIx n 0 lo:Nat):Int),((sIx n n hi:Nat):Int)):=by
 have h1:¬ ((1:Int)<0):=by omega
 unfold Builtin.Slice.sliceAdjust
 simp only[h1,if_false]
 refine Prod.ext ?_ ?_
 ·cases lo with
  |none=>rfl
  |some v=>exact Jj v n 0
 ·cases hi with
  |none=>rfl
  |some v=>exact Jj v n n
theorem Ih(i j:Nat):Builtin.Slice.slicePlaces (i:Int) (j:Int) 1=j-i:=by
 unfold Builtin.Slice.slicePlaces
 have h1:(1:Int)>0:=by omega
 simp only[h1,if_true,Int.ediv_one]
 split<;>omega
theorem xh{v:Value}{o:Option Int}{Q:Option Int->Shared->Prop}(p:IsPart v o)(h:Q o s):wpAny (model prog w) A (Builtin.Slice.slicePartIndex v) Q E s:=by
 cases p with
 |none=>exact slicePart_none h
 |int i t=>exact slicePart_int h
theorem lB{sl:Addr}{vl vu:Value}{lo hi:Option Int}{n:Nat}{Q:Int×Int×Nat->Shared->Prop}(hs:s.heap.IsSliceOf sl vl vu .none)(pl:IsPart vl lo)(pu:IsPart vu hi)
  (h:Q (((sIx n 0 lo:Nat):Int),1,sIx n n hi-sIx n 0 lo) s):wpAny (model prog w) A (Builtin.Slice.sliceApplied (.ref sl) (pure (n:Int))) Q E s:=by
 obtain⟨os,hos,hcs,hds⟩:=id hs
 unfold Builtin.Slice.sliceApplied Builtin.Slice.sliceFields
 refine wpAny_bind (wpAny_bind (wpAny_field hos hds (x:=vl) rfl (wpAny_bind (wpAny_field hos hds (x:=vu) rfl (wpAny_bind (wpAny_field hos hds (x:=.none) rfl (wpAny_pure ?_)))))))
 refine wpAny_bind (slicePart_none ?_)
 show wpAny _ _ (if ((1:Int)==0)=true then _ else _) _ _ s
 rw[if_neg ⋯]
 refine wpAny_bind (xh pl (wpAny_bind (xh pu (wpAny_bind (wpAny_pure ?_)))))
 show wpAny _ _ (match Builtin.Slice.sliceAdjust lo hi 1 (n:Int) with|(lo,hi)=>pure (lo,(1:Int),Builtin.Slice.slicePlaces lo hi 1)) _ _ s
 rw[HV lo hi n]
 show wpAny _ _ (pure (((sIx n 0 lo:Nat):Int),(1:Int),Builtin.Slice.slicePlaces ((sIx n 0 lo:Nat):Int) ((sIx n n hi:Nat):Int) 1)) _ _ s
 rw[Ih]
 exact wpAny_pure h
theorem MQ(xs:Array Value)(i k:Nat):((List.range k).filterMap fun (m:Nat)=>xs[((i:Int)+(m:Int)*1).toNat]?).toArray=((xs.toList.drop i).take k).toArray:=by
 have e:(fun (m:Nat)=>xs[((i:Int)+(m:Int)*1).toNat]?)=fun m=>xs[i+m]?:=by
  funext m
  have:((i:Int)+(m:Int)*1).toNat=i+m:=by omega
  rw[this]
 rw[e]
 have:=pick_run xs i k
 rw[List.filterMap_map] at this
 have e2:((fun x=>xs[x]?) ∘ fun x=>i+x)=fun m=>xs[i+m]?:=rfl
 rw[e2] at this
 rw[this]
theorem sX{t sl:Addr}{items:Array Value}{vl vu:Value}{lo hi:Option Int}{Q:Value->Shared->Prop}(ht:IsTup s.heap t items)(hs:s.heap.IsSliceOf sl vl vu .none)(pl:IsPart vl lo)(pu:IsPart vu hi)
  (hw:¬ (sIx items.size 0 lo=0/\sIx items.size items.size hi=items.size))
  (h:Q (.ref s.heap.objs.size) {s with heap:=s.heap.push {cls:=.type "tuple",data:=.seq ((items.toList.drop (sIx items.size 0 lo)).take (sIx items.size items.size hi-sIx items.size 0 lo)).toArray}})
  (hsz:items.size<=sizeLine):wpAny (model prog w) A (getItem (.ref t) (.ref sl)) Q E s:=by
 have htake:sizeOk (.seq ((items.toList.drop (sIx items.size 0 lo)).take (sIx items.size items.size hi-sIx items.size 0 lo)).toArray):=by
  show ((items.toList.drop (sIx items.size 0 lo)).take (sIx items.size items.size hi-sIx items.size 0 lo)).toArray.size<=sizeLine
  rw[size_toArray,length_take,List.length_drop,Array.length_toList]
  omega
 have hj:sIx items.size items.size hi<=items.size:=Q0 _ _ (le_refl _) hi
 obtain⟨os,hos,hcs,hds⟩:=id hs
 have hTs:s.TypeIs (.ref sl) "slice":=⟨os,hos,hcs⟩
 unfold getItem
 try with_reducible refine wpAny_holding ?_
 first|refine wpAny_bind (wpAny_pure ?_)|skip
 refine wpAny_bind (wpAny_sequenceKey ht.typeIs ⋯ ?_)
 refine wpAny_bind (wpAny_callSpecial?_slot (name:=Str.ofString "__getitem__") ht.typeIs PyProof.Rows.slot_tuple_getitem
  (wpAny_call_entry PyProof.Rows.slot_tuple_getitem ht.typeIs entry_tuple_getitem ?_ (args_tuple_getitem _ _)))
 show wpAny _ _ (Builtin.Tuple.tupleItemsOf (.ref t)>>=_) _ _ s
 refine wpAny_bind (tupleItemsOf_ ht ?_)
 refine wpAny_bind (wpAny_typeOf hTs ?_)
 rw[if_pos ⋯]
 refine wpAny_bind (lB hs pl pu ?_)
 have hno:¬ ((((sIx items.size 0 lo:Nat):Int)==0&&(1:Int)==1&&(sIx items.size items.size hi-sIx items.size 0 lo)==items.size)=true):=by
  intro q
  rw[and_eq_true,and_eq_true] at q
  have q1:((sIx items.size 0 lo:Nat):Int)=0:=eq_of_beq q.1.1
  have q2:sIx items.size items.size hi-sIx items.size 0 lo=items.size:=eq_of_beq q.2
  exact hw ⟨∅,∅⟩
 show wpAny _ _ (if (((sIx items.size 0 lo:Nat):Int)==0&&(1:Int)==1&&(sIx items.size items.size hi-sIx items.size 0 lo)==items.size)=true then _ else _) _ _ s
 rw[if_neg hno,MQ]
 first
  |exact wpAny_bind (m:=Builtin.Tuple.tupleExact _) (wpAny_newObj_type (wpAny_pure ⟨_,rfl,wpAny_pure h⟩) htake)
  |exact wpAny_bind (m:=Builtin.Tuple.tupleExact _) (wpAny_newObj_type (wpAny_bind (wpAny_pure (wpAny_pure ⟨_,rfl,wpAny_pure h⟩))) htake)
  |exact wpAny_bind (wpAny_bind (m:=Builtin.Tuple.tupleExact _) (wpAny_newObj_type (wpAny_pure (wpAny_pure ⟨_,rfl,wpAny_pure h⟩)) htake))
  |exact wpAny_bind (wpAny_bind (m:=Builtin.Tuple.tupleExact _) (wpAny_newObj_type (wpAny_pure ⟨_,rfl,wpAny_pure h⟩) htake))
end
end HT
namespace L2
open PySem PySem.Spec PyProof.Rows
abbrev TO:=St->Hp->(Option Int->Hp->Prop)->Prop
noncomputable def PO(X:Cx)(e:Option Expr)(t:TO):Prop:=
 ∀(pins:List (Addr×Obj)) (s:Shared) (σ:St) (H:Hp) (Q:Option Int->Hp->Prop),Inv X pins σ H s->t σ H Q ->
  wpAny (model X.prog X.w) X.A (evalPart e X.env) (fun u s'=>∃o H',Inv X pins σ H' s'/\IsPart u o/\Q o H') X.xe s
noncomputable def O0:TO:=fun _ H Q=>Q none H
noncomputable def R8(t:TE):TO:=fun σ H Q=>t σ H fun x H1=>∃i,x = .int i/\Q (some i) H1
section
variable {X:Cx}{e:Expr}{te:TE}{lo hi:Option Expr}{tl th:TO}{pos p2:Pos}
theorem Oc:PO X none O0:=by
 intro pins s σ H Q I h
 rw[evalPart_none]
 exact wpAny_pure ⟨none,H,I,.none,h⟩
theorem Ob(h:PE X e te):PO X (some e) (R8 te):=by
 intro pins s σ H Q I hw
 rw[evalPart_some]
 refine thn (h pins s σ H _ I hw) fun u s1 hq0=>?_
 obtain⟨x,H1,I1,r1,q1⟩:=hq0
 obtain⟨i,rfl,q⟩:=q1
 obtain⟨t,rfl⟩:=r1
 exact⟨some i,H1,I1,.int i t,q⟩
noncomputable def SlR(X:Cx)(r:V->Option Int->Option Int->Hp->VK->Prop):Prop:=
 ∀(pins:List (Addr×Obj)) (s:Shared) (σ:St) (H:Hp) (x:V) (v vl vu:Value) (lo hi:Option Int) (sl:Addr) (Q:VK),Inv X pins σ H s->RelV x v->s.heap.IsSliceOf sl vl vu .none->IsPart vl lo->IsPart vu hi->r x lo hi H Q ->
  ∃T id,typeLookup (.type T) "__getitem__"=pure (some (.builtin id))/\s.TypeIs v T/\wpAny (model X.prog X.w) X.A (getItem v (.ref sl)) (EP X pins σ Q) X.xe s
theorem SlR.or{r r':V->Option Int->Option Int->Hp->VK->Prop}(h:SlR X r)(h':SlR X r'):SlR X (fun x lo hi H Q=>r x lo hi H Q\/r' x lo hi H Q):=by
 intro pins s σ H x v vl vu lo hi sl Q I rx hs pl pu q
 rcases q with q|q
 ·exact h pins s σ H x v vl vu lo hi sl Q I rx hs pl pu q
 ·exact h' pins s σ H x v vl vu lo hi sl Q I rx hs pl pu q
noncomputable def tSl(r:V->Option Int->Option Int->Hp->VK->Prop)(te:TE)(tl th:TO):TE:=fun σ H Q=>te σ H fun x H1=>tl σ H1 fun l H2=>th σ H2 fun u H3=>r x l u H3 Q
theorem Na{r:V->Option Int->Option Int->Hp->VK->Prop}(hr:SlR X r)(he:PE X e te)(hl:PO X lo tl)(hu:PO X hi th):PE X (.Subscript e (.Slice lo hi none p2) pos) (tSl r te tl th):=by
 intro pins s σ H Q I h
 refine Subscript_ (thn (he pins s σ H _ I h) fun v s1 hq0=>?_)
 obtain⟨x,H1,I1,r1,q1⟩:=hq0
 refine wpAny_Slice (thn (hl pins s1 σ H1 _ I1 q1) fun vl s2 ⟨l,H2,I2,pl,q2⟩=>thn (hu pins s2 σ H2 _ I2 q2) fun vu s3 hq0=>?_)
 obtain⟨u,H3,I3,pu,q3⟩:=hq0
 rw[evalPart_none]
 refine wpAny_pure ?_
 have I4:Inv X pins σ H3 {s3 with heap:=s3.heap.push {cls:=.type "slice",data:=.fields #[vl,vu,.none]}}:=I3.kept (t':=s3.toks) fun b ob q=>Heap.get?_push_of_some _ q
 obtain⟨T,id,hT,ht,hg⟩:=hr pins {s3 with heap:=s3.heap.push {cls:=.type "slice",data:=.fields #[vl,vu,.none]}} σ H3 x v vl vu l u s3.heap.objs.size Q I4 r1 (Heap.IsSliceOf.new ..) pl pu q3
 show wpAny (model X.prog X.w) X.A (subscriptTail e (.Slice lo hi none p2) v (.ref s3.heap.objs.size)) (EP X pins σ Q) X.xe {s3 with heap:=s3.heap.push {cls:=.type "slice",data:=.fields #[vl,vu,.none]}}
 exact tail_any (ops:=[.ref s3.heap.objs.size,v]) ht hT hg (by with_unfolding_all rfl)
def BU(xs:List V)(lo hi:Option Int):List V:=(xs.drop (HT.sIx xs.length 0 lo)).take (HT.sIx xs.length xs.length hi-HT.sIx xs.length 0 lo)
theorem vV(xs:List V)(lo hi:Option Int):(BU xs lo hi).length<=xs.length:=by
 unfold BU
 rw[length_take,List.length_drop]
 omega
def TV(K:PySem.W.Frag):V->Option Int->Option Int->Hp->VK->Prop:=fun x lo hi H Q=>∃a xs,x = .ref a/\SqT K H a xs /\
 ¬ (HT.sIx xs.length 0 lo=0/\HT.sIx xs.length xs.length hi=xs.length)/\∀p,H p=none->Q (.ref p) (upd H p (.tup (BU xs lo hi)))
theorem P4:SlR X (TV X.K):=by
 intro pins s σ H x v vl vu lo hi sl Q I rx hs pl pu h
 obtain⟨a,xs,rfl,hx,hw,q⟩:=h
 cases rx
 obtain⟨its,r,ht,hz⟩:=I.tuple hx
 have hlen:its.toArray.size=xs.length:=by rw[size_toArray];exact r.length.symm
 refine⟨"tuple",_,PyProof.Rows.slot_tuple_getitem.lookup,ht.typeIs,?_⟩
 refine HT.sX ht hs pl pu (by rw[hlen];exact hw) ?_ (by rw[hlen];exact hz)
 rw[hlen]
 refine⟨.ref s.heap.objs.size,_,I.laid (t':=s.toks) (o:=.tup (BU xs lo hi)) (fun b ob q=>Heap.get?_push_of_some _ q) (le_refl _) ?_,rfl,q _ (I.hok.fresh (le_refl _))⟩
 exact⟨le_trans (vV xs lo hi) hz,_,(r.drop (HT.sIx xs.length 0 lo)).take (HT.sIx xs.length xs.length hi-HT.sIx xs.length 0 lo),IsTup.new _ _⟩
end
end L2
namespace L2
open PySem PySem.Spec PyProof.Rows
def ixN(n:Nat)(i:Int):Option Nat:=if 0<=i then (if i<n then some i.toNat else none) else if -(n:Int)<=i then some (i+n).toNat else none
def atI{α:Type}(xs:List α)(i:Int):Option α:=(ixN xs.length i).bind fun j=>xs[j]?
theorem J1{n:Nat}{i:Int}{j:Nat}(h:ixN n i=some j):seqIndex? i n=some j/\j<n/\-(n:Int)<=i/\i<n:=by
 unfold ixN at h
 by_cases h0:0<=i
 ·rw[if_pos h0] at h
  by_cases h1:i<n
  ·rw[if_pos h1] at h
   have e:i.toNat=j:=Option.some.inj h
   exact⟨by rw[seqIndex_of h0 h1,e],∅,∅,h1⟩
  ·rw[if_neg h1] at h;cases h
 ·rw[if_neg h0] at h
  by_cases h1:-(n:Int)<=i
  ·rw[if_pos h1] at h
   have e:(i+n).toNat=j:=Option.some.inj h
   exact⟨by rw[seqIndex_neg ∅ h1,e],∅,h1,∅⟩
  ·rw[if_neg h1] at h;cases h
theorem CD{α:Type}{xs:List α}{i:Int}{v:α}(h:atI xs i=some v):∃j,seqIndex? i xs.length=some j/\xs[j]? = some v/\j<xs.length/\-(xs.length:Int)<=i/\i<xs.length:=by
 unfold atI at h
 cases e:ixN xs.length i with
 |none=>rw[e] at h;cases h
 |some j=>
  rw[e] at h
  obtain⟨h1,h2,h3,h4⟩:=J1 e
  exact⟨j,h1,h,h2,h3,h4⟩
theorem w4{α:Type}{xs:List α}{j:Nat}{v:α}(h:xs[j]? = some v):atI xs (j:Int)=some v:=by
 have hj:j<xs.length:=(List.getElem?_eq_some_iff.mp h).1
 have e:ixN xs.length (j:Int)=some j:=by
  unfold ixN
  rw[if_pos ∅,if_pos ∅];simp
 unfold atI;rw[e];exact h
noncomputable def Jp(b:Expr):Prop:=∀o i,subscripted b false o i=operate [o,i] (getItem o i)
noncomputable def IxR(X:Cx)(r:R2):Prop:=
 ∀(value slice:Expr) (pins:List (Addr×Obj)) (s:Shared) (σ:St) (H:Hp) (x y:V) (v u:Value) (Q:VK),Inv X pins σ H s->RelV x v->RelV y u->r x y H Q ->
  subscripted slice false v u=operate [v,u] (getItem v u)->wpAny (model X.prog X.w) X.A (subscriptTail value slice v u) (EP X pins σ Q) X.xe s
noncomputable def MtR(X:Cx)(id:String)(r:V->List V->Hp->VK->Prop):Prop:=
 ∀(pins:List (Addr×Obj)) (s:Shared) (σ:St) (H:Hp) (x:V) (xs:List V) (v:Value) (us:List Value) (Q:VK),Inv X pins σ H s->RelV x v->Vals xs us->r x xs H Q ->
  wpAny (model X.prog X.w) X.A (call (.builtin id) (v::us)) (EP X pins σ Q) X.xe s
section
variable {X:Cx}{a b:Expr}{ta tb:TE}{pos:Pos}
theorem IxR.or{r r':R2}(h:IxR X r)(h':IxR X r'):IxR X (fun x y H Q=>r x y H Q\/r' x y H Q):=by
 intro value slice pins s σ H x y v u Q I rx ry q hs
 rcases q with q|q
 ·exact h value slice pins s σ H x y v u Q I rx ry q hs
 ·exact h' value slice pins s σ H x y v u Q I rx ry q hs
theorem Sv{r:R2}(hr:IxR X r)(ha:PE X a ta)(hb:PE X b tb)(hs:Jp b):PE X (.Subscript a b pos) (tOp r ta tb):=by
 intro pins s σ H Q I h
 exact Subscript_ (QX ha hb I h fun v u s2 x y H2 I2 rx ry q=>hr a b pins s2 σ H2 x y v u Q I2 rx ry q (hs _ _))
noncomputable def Sd(K:PySem.W.Frag):R2:=fun x y H Q=>∃p xs i v,x = .ref p/\y = .int i/\SqL K H p xs/\atI xs i=some v/\Q v H
noncomputable def Tx(K:PySem.W.Frag):R2:=fun x y H Q=>∃p xs i v,x = .ref p/\y = .int i/\SqT K H p xs/\atI xs i=some v/\Q v H
noncomputable def SV:R2:=fun x y H Q=>∃z i c,x = .str z/\y = .int i/\z.length<=sizeLine/\atI z.cps.toList i=some c/\Q (.str ⟨#[c]⟩) H
theorem OC:IxR X (Sd X.K):=by
 intro value slice pins s σ H x y v u Q I rx ry h hs
 obtain⟨p,xs,i,z,rfl,rfl,hq,he,q⟩:=h
 cases rx
 obtain⟨t,rfl⟩:=ry
 obtain⟨its,r,pl,hz⟩:=I.list hq
 obtain⟨j,h1,h2,h3,h4,h5⟩:=CD he
 obtain⟨w,ew,rw'⟩:=r.get h2
 have hl:=r.length
 have hn:=xG
 have fin:EP X pins σ Q w s:=⟨z,H,I,rw',q⟩
 by_cases h0:0<=i
 ·have hj:i.toNat=j:=by
   rw[seqIndex_of h0 h5] at h1
   exact Option.some.inj h1
  exact item_listR pl.isList h0 ∅ (by rw[hj];simpa using ew) fin hs
 ·have hj:(i+(its.toArray.size:Int)).toNat=j:=by
   rw[seqIndex_neg ∅ h4] at h1
   rw[size_toArray,<- hl]
   exact Option.some.inj h1
  exact subscriptTail_builtinR (x:=w) pl.isList.typeIs slot_list_getitem.lookup
   (wpAny_getItem_list_neg (Q:=fun r s'=>r=w/\EP X pins σ Q r s') pl.isList ∅ (by rw[size_toArray]<;>omega) ∅ (by rw[hj];simpa using ew) ⟨rfl,fin⟩) hs
theorem RO:IxR X (Tx X.K):=by
 intro value slice pins s σ H x y v u Q I rx ry h hs
 obtain⟨p,xs,i,z,rfl,rfl,hq,he,q⟩:=h
 cases rx
 obtain⟨t,rfl⟩:=ry
 obtain⟨its,r,pl,hz⟩:=I.tuple hq
 obtain⟨j,h1,h2,h3,h4,h5⟩:=CD he
 obtain⟨w,ew,rw'⟩:=r.get h2
 have hl:=r.length
 have hn:=xG
 have fin:EP X pins σ Q w s:=⟨z,H,I,rw',q⟩
 exact subscriptTail_builtinR (x:=w) pl.typeIs slot_tuple_getitem.lookup
  (getItem_tuple (j:=j) (Q:=fun r s'=>r=w/\EP X pins σ Q r s') pl ∅ ∅ (by rw[size_toArray,<- hl];exact h1) (by simpa using ew) ⟨rfl,fin⟩) hs
theorem Qs:IxR X SV:=by
 intro value slice pins s σ H x y v u Q I rx ry h hs
 obtain⟨z,i,c,rfl,rfl,hz,he,q⟩:=h
 obtain⟨t,rfl⟩:=rx
 obtain⟨t',rfl⟩:=ry
 obtain⟨j,h1,h2,h3,h4,h5⟩:=CD he
 have hl:z.cps.toList.length=z.length:=by simp[Str.length]
 rw[hl] at h1 h4 h5
 have hn:=xG
 exact tail_any (typeIs_str s z t) slot_str_getitem.lookup (getItem_str (c:=c) (by
  have e1:decide (i < -(2 ^ 63:Int))=false:=decide_eq_false ∅
  have e2:decide (i ≥ 2 ^ 63)=false:=decide_eq_false ∅
  rw[e1,e2,Bool.or_false]) (by rw[h1];simpa using h2) ⟨.str ⟨#[c]⟩,H,I.tok _,⟨_,rfl⟩,q⟩) hs
noncomputable def rIx(K:PySem.W.Frag):R2:=fun x y H Q=>Sd K x y H Q\/Tx K x y H Q\/SV x y H Q
theorem Rz:IxR X (rIx X.K):=OC.or (RO.or Qs)
theorem Ia(its:List Value)(n j:Nat)(u:Value):Obj.mapSeq (·.setIfInBounds j u) {cls:=.type "list",data:=.seq its.toArray n} = {cls:=.type "list",data:=.seq (its.set j u).toArray n}:=by
 simp[Obj.mapSeq]
theorem Inv.lst{pins:List (Addr×Obj)}{σ:St}{H:Hp}{s:Shared}{p:Addr}{xs:List V}(I:Inv X pins σ H s)(h:H p=some (.lst xs)) :
  ∃(its:List Value) (n:Nat),Vals xs its/\s.heap.get? p=some {cls:=.type "list",data:=.seq its.toArray n}/\xs.length<=sizeLine:=by
 obtain⟨z,its,n,r,e⟩:=I.hok p _ h
 exact⟨its,n,r,e,z⟩
theorem Inv.Rr{pins:List (Addr×Obj)}{σ:St}{H:Hp}{s:Shared}{p:Addr}{xs ys:List V}{its its':List Value}{n n':Nat}{f:Obj->Obj}(I:Inv X pins σ H s)(h:H p=some (.lst xs))
  (ho:s.heap.get? p=some {cls:=.type "list",data:=.seq its.toArray n}) (hf:f {cls:=.type "list",data:=.seq its.toArray n} = {cls:=.type "list",data:=.seq its'.toArray n'}) (r:Vals ys its') (hz:ys.length<=sizeLine) (t:Nat) :
  Inv X pins σ (upd H p (.lst ys)) {s with heap:=s.heap.update p f,toks:=t}:=by
 have e:(s.heap.update p f).get? p=some {cls:=.type "list",data:=.seq its'.toArray n'}:=by
  rw[Heap.get?_update_self f ho (by rw[hf]<;>rfl),hf]
 refine I.write (x:=p) (e:=p) (by rw[h];trivial) (.inl rfl) (fun b u hb q=>(Heap.get?_update_other _ _ (Ne.symm hb)).trans q) ⟨_,e⟩ ?_
 exact⟨hz,its',n',r,e⟩
def Sn:V->V->V->Hp->(Hp->Prop)->Prop:=fun o i v H Q=>∃p xs k j,o = .ref p/\i = .int k/\H p=some (.lst xs)/\ixN xs.length k=some j/\Q (upd H p (.lst (xs.set j v)))
theorem set_list:Tt X Sn:=by
 intro pins s σ H o i v ov iv u Q I ro ri rv h
 obtain⟨p,xs,k,j,rfl,rfl,hp,hj,q⟩:=h
 cases ro
 obtain⟨t,rfl⟩:=ri
 obtain⟨its,n,r,ho,hz⟩:=I.lst hp
 obtain⟨h1,h2,h3,h4⟩:=J1 hj
 have hl:=r.length
 have hn:=xG
 have I':Inv X pins σ (upd H p (.lst (xs.set j v))) {s with heap:=s.heap.update p (Obj.mapSeq (·.setIfInBounds j u))}:=
  I.Rr hp ho (Ia its n j u) (r.set rv j) (by rw[List.length_set];exact hz) s.toks
 by_cases h0:0<=k
 ·have hk:k.toNat=j:=by
   rw[seqIndex_of h0 h4] at h1
   exact Option.some.inj h1
  exact PySem.W.ki_setAt ho h0 ∅ (by rw[size_toArray,<- hl];exact h4) (by rw[hk];exact⟨_,I',q⟩)
 ·have hk:(k+(its.toArray.size:Int)).toNat=j:=by
   rw[seqIndex_neg ∅ h3] at h1
   rw[size_toArray,<- hl]
   exact Option.some.inj h1
  exact PySem.W.ki_setBack ho ∅ (by rw[size_toArray,<- hl];exact h3) ∅ (by rw[hk];exact⟨_,I',q⟩)
theorem C8(lo hi:Option Int)(n:Nat):(sliceBounds lo hi none n).1=((HT.sIx n 0 lo:Nat):Int)/\(sliceBounds lo hi none n).2.1=((HT.sIx n n hi:Nat):Int)/\(sliceBounds lo hi none n).2.2=1:=by
 refine⟨?_,?_,rfl⟩
 ·cases lo with
  |none=>simp[sliceBounds,HT.sIx]
  |some i=>
   simp only[sliceBounds,HT.sIx,Option.getD_none,show (1:Int)>0 by decide,if_true]
   by_cases h:i<0
   ·simp only[h,if_true]<;>omega
   ·simp only[h,if_false]<;>omega
 ·cases hi with
  |none=>simp[sliceBounds,HT.sIx]
  |some i=>
   simp only[sliceBounds,HT.sIx,Option.getD_none,show (1:Int)>0 by decide,if_true]
   by_cases h:i<0
   ·simp only[h,if_true]<;>omega
   ·simp only[h,if_false]<;>omega
theorem Ax(its:List Value)(lo hi:Option Int):slicePick its.toArray lo hi none=((its.drop (HT.sIx its.length 0 lo)).take (HT.sIx its.length its.length hi-HT.sIx its.length 0 lo)).toArray:=by
 obtain⟨h1,h2,h3⟩:=C8 lo hi its.toArray.size
 unfold slicePick
 rw[h1,h2,h3]
 simp only[sliceRange_one,pick_run,size_toArray]<;>rfl
def Ud(K:PySem.W.Frag):V->Option Int->Option Int->Hp->VK->Prop:=fun x lo hi H Q=>∃a xs,x = .ref a/\SqL K H a xs/\∀p,H p=none->Q (.ref p) (upd H p (.lst (BU xs lo hi)))
theorem OG:SlR X (Ud X.K):=by
 intro pins s σ H x v vl vu lo hi sl Q I rx hs pl pu h
 obtain⟨a,xs,rfl,hx,q⟩:=h
 cases rx
 obtain⟨its,r,ht,hz⟩:=I.list hx
 have hlen:=r.length
 refine⟨"list",_,slot_list_getitem.lookup,ht.isList.typeIs,?_⟩
 refine wpAny_getItem_list_slice ht.isList hs pl pu .none (by simp) ?_ (by rw[size_toArray]<;>omega)
 rw[Ax,<- hlen]
 refine⟨.ref s.heap.objs.size,_,I.laid (t':=s.toks) (o:=.lst (BU xs lo hi)) (fun b ob q=>Heap.get?_push_of_some _ q) (le_refl _) ?_,rfl,q _ (I.hok.fresh (le_refl _))⟩
 exact⟨le_trans (vV xs lo hi) hz,_,0,(r.drop (HT.sIx xs.length 0 lo)).take (HT.sIx xs.length xs.length hi-HT.sIx xs.length 0 lo),Heap.get?_push_size _ rfl⟩
theorem DD:jE X (.builtin "len") (fun xs H Q=>∃p ys,xs=[.ref p]/\(SqL X.K H p ys\/SqT X.K H p ys)/\Q (.int ys.length) H):=by
 intro pins s σ H xs us Q I r h
 obtain⟨p,ys,rfl,hq,q⟩:=h
 obtain⟨u,rfl,rx⟩:=vals1 r
 cases rx
 have hn:=xG
 rcases hq with hq|hq
 ·obtain⟨its,r',pl,hz⟩:=I.list hq
  have hlen:=r'.length
  exact Calls.call_len_list pl.isList (by simp only[size_toArray]<;>omega) ⟨.int ys.length,H,I.tok _,⟨s.toks+1,by rw[size_toArray,hlen]⟩,q⟩
 ·obtain⟨its,r',pl,hz⟩:=I.tuple hq
  have hlen:=r'.length
  exact len_tuple pl (by simp only[size_toArray]<;>omega) ⟨.int ys.length,H,I.tok _,⟨s.toks+1,by rw[size_toArray,hlen]⟩,q⟩
theorem CC:jE X (.type "list") (fun xs H Q=>∃p ys,xs=[.ref p]/\(SqL X.K H p ys\/SqT X.K H p ys)/\∀l,H l=none->Q (.ref l) (upd H l (.lst ys))):=by
 intro pins s σ H xs us Q I r h
 obtain⟨p,ys,rfl,hq,q⟩:=h
 obtain⟨u,rfl,rx⟩:=vals1 r
 cases rx
 have fin:∀(its:List Value),Vals ys its->ys.length<=sizeLine->∀(h':Heap) (c':Nat),(∀b o',s.heap.get? b=some o'->h'.get? b=some o') ->
   h'.get? s.heap.objs.size=some {cls:=.type "list",dict:=none,data:=.seq its.toArray c',slots:=#[]}->EP X pins σ Q (.ref s.heap.objs.size) {s with heap:=h'}:=fun its r' hz h' c' kp e=>
  ⟨.ref s.heap.objs.size,_,I.laid (t':=s.toks) kp (le_refl _) (show iZ X.prog X.w _ h' _ (.lst ys) from ⟨hz,its,c',r',e⟩),rfl,q _ (I.hok.fresh (le_refl _))⟩
 rcases hq with hq|hq
 ·obtain⟨its,r',pl,hz⟩:=I.list hq
  have hlen:=r'.length
  obtain⟨o,ho,hc,n,hd⟩:=pl.isList
  exact call_list_seq p (.inl rfl) ho hc hd (fun h' c' kp e=>fin its r' hz h' c' kp e) (by simp only[size_toArray]<;>omega)
 ·obtain⟨its,r',pl,hz⟩:=I.tuple hq
  have hlen:=r'.length
  obtain⟨o,ho,hc,n,hd⟩:=pl
  exact call_list_seq p (.inr rfl) ho hc hd (fun h' c' kp e=>fin its r' hz h' c' kp e) (by simp only[size_toArray]<;>omega)
theorem Ac:jE X (.type "tuple") (fun xs H Q=>∃p ys,xs=[.ref p]/\((SqL X.K H p ys/\∀l,H l=none->Q (.ref l) (upd H l (.tup ys)))\/(SqT X.K H p ys/\Q (.ref p) H))):=by
 intro pins s σ H xs us Q I r h
 obtain⟨p,ys,rfl,h⟩:=h
 obtain⟨u,rfl,rx⟩:=vals1 r
 cases rx
 rcases h with ⟨hq,q⟩|⟨hq,q⟩
 ·obtain⟨its,r',pl,hz⟩:=I.list hq
  have hlen:=r'.length
  refine call_tuple_list pl.isList (fun h' kp=>?_) (by simp only[size_toArray]<;>omega)
  have I1:Inv X pins σ H {s with heap:=h'}:=I.kept (t':=s.toks) kp
  have I2:Inv X pins σ (upd H h'.objs.size (.tup ys)) {s with heap:=h'.push {cls:=.type "tuple",data:=.seq its.toArray}}:=
   I1.laid (t':=s.toks) (fun b o e=>Heap.get?_push_of_some _ e) (le_refl _) (show iZ X.prog X.w _ _ _ (.tup ys) from ⟨hz,its,r',IsTup.new _ _⟩)
  exact⟨.ref h'.objs.size,_,I2,rfl,q _ (I1.hok.fresh (le_refl _))⟩
 ·obtain⟨its,r',pl,hz⟩:=I.tuple hq
  exact call_tuple_same pl ⟨.ref p,H,I,rfl,q⟩
noncomputable def tyV(K:PySem.W.Frag)(T:String)(x:V)(H:Hp):Prop:=match x with
 |.str _=>T = "str"
 |.int _=>T = "int"
 |.ref p=>(T = "list"/\∃xs,SqL K H p xs)\/(T = "tuple"/\∃o,K.lookup p=some o/\o.cls = .type "tuple"/\o.dict=none) \/
   (T = "dict"/\((∃kvs,H p=some (.dK kvs))\/∃kvs,H p=some (.dT kvs)))\/(T = "set"/\∃S n,H p=some (.set S n))
 |_=>False
theorem M6{pins:List (Addr×Obj)}{σ:St}{H:Hp}{s:Shared}{T:String}{x:V}{v:Value}(I:Inv X pins σ H s)(r:RelV x v)(ty:tyV X.K T x H) :
  s.TypeIs v T/\∀a,v = .ref a->∃ob,s.heap.get? a=some ob/\ob.dict=none:=by
 cases x with
 |str z=>
  obtain⟨t,rfl⟩:=r
  cases (show T = "str" from ty)
  exact⟨typeIs_str s z t,fun _ e=>nomatch e⟩
 |int i=>
  obtain⟨t,rfl⟩:=r
  cases (show T = "int" from ty)
  exact⟨typeIs_int s i t,fun _ e=>nomatch e⟩
 |ref p=>
  cases r
  rcases ty with ⟨rfl,xs,hq⟩|⟨rfl,o,hk,hc,hd⟩|⟨rfl,hk⟩|⟨rfl,S,n,hk⟩
  ·obtain⟨its,_,pl,_⟩:=I.list hq
   refine⟨pl.isList.typeIs,fun a e=>?_⟩
   cases e
   obtain⟨o,n,e,c,hd,_⟩:=pl
   exact⟨o,e,hd⟩
  ·refine⟨⟨o,I.kIn p o hk,hc⟩,fun a e=>?_⟩
   cases e
   exact⟨o,I.kIn _ o hk,hd⟩
  ·have z:∃o,s.heap.get? p=some o/\o.ExactDict:=by
    rcases hk with ⟨kvs,hk⟩|⟨kvs,hk⟩
    ·obtain⟨_,_,_,_,o,_,_,e,ex,_⟩:=I.hok p _ hk
     exact⟨o,e,ex⟩
    ·obtain⟨_,_,_,_,o,_,_,e,ex,_⟩:=I.hok p _ hk
     exact⟨o,e,ex⟩
   obtain⟨o,e,ex⟩:=z
   refine⟨⟨o,e,ex.1⟩,fun a e2=>?_⟩
   cases e2
   exact⟨o,e,ex.2.1⟩
  ·obtain⟨o,_,_,_,e,ex,_⟩:=I.hok p _ hk
   refine⟨⟨o,e,ex.1⟩,fun a e2=>?_⟩
   cases e2
   exact⟨o,e,ex.2.1⟩
 |_=>exact False.elim ty
noncomputable def Uk(K:PySem.W.Frag)(T:String)(r:V->List V->Hp->VK->Prop)(to:TE):TE:=fun σ H Q=>to σ H fun x H1=>tyV K T x H1/\r x [] H1 Q
noncomputable def tBM(K:PySem.W.Frag)(T:String)(r:V->List V->Hp->VK->Prop)(to:TE)(t:TA):TE:=fun σ H Q=>to σ H fun x H1=>tyV K T x H1/\t σ H1 fun xs H2=>r x xs H2 Q
variable {o e:Expr}{es:List Expr}{to:TE}{t:TA}{name:Str}{apos cpos:Pos}{T id:String}{r:V->List V->Hp->VK->Prop}
theorem Q4(pa:PlainAttrs T)(slot:Slot T name id)(hty:typeOf (.builtin id)=pure (.type "method_descriptor"))(hm:MtR X id r)(ho:PE X o to)
  (hbase:attributeBase o name X.env (eval o X.env)=eval o X.env:=by rfl) (hline:(apos.endLine==cpos.line)=true:=by rfl):PE X (.Call (.Attribute o name apos) [] [] cpos) (Uk X.K T r to):=by
 intro pins s σ H Q I h
 refine wpAny_Call_method0_late hbase hline (thn (ho pins s σ H _ I h) fun v s1 hq0=>?_)
 obtain⟨x,H1,I1,r1,ty,q1⟩:=hq0
 obtain⟨h1,h2⟩:=M6 I1 r1 ty
 exact⟨T,id,pa,slot,hty,h1,h2,Calls.callWith_builtin rfl (PySem.evalArgs_none (hm pins s1 σ H1 x [] v [] Q I1 r1 .nil q1))⟩
theorem MW(pa:PlainAttrs T)(slot:Slot T name id)(hty:typeOf (.builtin id)=pure (.type "method_descriptor"))(hm:MtR X id r)(ho:PE X o to)(ha:PA X (e::es) t)
  (hbase:attributeBase o name X.env (eval o X.env)=eval o X.env:=by rfl)
  (hfew:((backTo cpos (starEach (e::es) X.env)).all (fun x=>!x.1)&&(backToKw cpos (keywordEach [] X.env)).all (fun x=>x.1.isSome)
   && decide ((e::es).length+([]:List Keyword).length+(if ([]:List Keyword).isEmpty then 0 else 1)<30))=true:=by rfl)
  (hline:(apos.endLine==cpos.line)=true:=by rfl) (hs:starEach (e::es) X.env=(false,eval e X.env)::starEach es X.env:=by rfl) (hplain:(backTo cpos (starEach es X.env)).any (·.1)=false:=by rfl) :
  PE X (.Call (.Attribute o name apos) (e::es) [] cpos) (tBM X.K T r to t):=by
 intro pins s σ H Q I h
 refine wpAny_Call_method_late hbase hfew hline rfl (thn (ho pins s σ H _ I h) fun v s1 hq0=>?_)
 obtain⟨x,H1,I1,r1,ty,q1⟩:=hq0
 obtain⟨h1,h2⟩:=M6 I1 r1 ty
 refine⟨T,id,pa,slot,hty,h1,h2,?_⟩
 have hA:=ha cpos pins s1 σ H1 _ I1 q1
 rw[hs] at hA ⊢
 refine Calls.callWith_builtin (by show (false || (backTo cpos (starEach es X.env)).any (·.1))=false;rw[hplain]<;>rfl) (Calls.evalArgs_plain ?_)
 exact thn hA fun us s2 ⟨vs,H2,I2,r2,q2⟩=>hm pins s2 σ H2 x vs v us Q I2 r1 r2 q2
end
end L2
namespace L2
open PySem PySem.Spec PyProof.Rows
noncomputable def MtM(X:Cx)(id:String)(r:V->List V->Hp->VK->Prop):Prop:=
 ∀(pins:List (Addr×Obj)) (s:Shared) (σ:St) (H:Hp) (x:V) (xs:List V) (v:Value) (us:List Value) (Q:VK),Inv X pins σ H s->RelV x v->Vals xs us->r x xs H Q ->
  wpAny (model X.prog X.w) X.A (call (.builtin id) (v::us)) (EP X pins σ Q) X.xe s
theorem Vals.one:∀{x:V} {us:List Value},Vals [x] us->∃u,us=[u]/\RelV x u
 |_,_,.cons r .nil=>⟨_,rfl,r⟩
theorem Vals.zero:∀{us:List Value},Vals [] us->us=[]
 |_,.nil=>rfl
theorem Vals.dropLast{xs:List V}{us:List Value}(h:Vals xs us):Vals xs.dropLast us.dropLast:=by
 induction h with
 |nil=>exact .nil
 |cons r t ih=>
  cases t with
  |nil=>exact .nil
  |cons q t'=>exact .cons r ih
theorem Vals.eraseIdx:∀{xs:List V} {us:List Value} (i:Nat),Vals xs us->Vals (xs.eraseIdx i) (us.eraseIdx i)
 |_,_,_,.nil=>.nil
 |_,_,0,.cons _ t=>t
 |_,_,i+1,.cons r t=>.cons r (Vals.eraseIdx i t)
theorem Vals.reverse{xs:List V}{us:List Value}(h:Vals xs us):Vals xs.reverse us.reverse:=by
 induction h with
 |nil=>exact .nil
 |cons r t ih=>rw[reverse_cons,reverse_cons];exact Vals.append ih (.cons r .nil)
theorem Vals.rep{xs:List V}{us:List Value}(h:Vals xs us):∀k:Nat,Vals (List.replicate k xs).flatten (List.replicate k us).flatten
 |0=>.nil
 |k+1=>by
  rw[replicate_succ,replicate_succ,flatten_cons,flatten_cons]
  exact Vals.append h (Vals.rep h k)
theorem H0{α:Type}(l:List α):l.eraseIdx (l.length-1)=l.dropLast:=by
 induction l with
 |nil=>rfl
 |cons a r ih=>
  cases r with
  |nil=>rfl
  |cons b r=>
   have e:(a::b::r).length-1=((b::r).length-1)+1:=by
    have h1:(a::b::r).length=r.length+2:=rfl
    have h2:(b::r).length=r.length+1:=rfl
    omega
   rw[e,List.eraseIdx_cons_succ,ih]
   all_goals rfl
theorem BG{α:Type}:∀(l:List α) (i:Nat),(l.eraseIdx i).length<=l.length
 |[],_=>le_refl _
 |_::_,0=>Nat.le_succ _
 |_::r,i+1=>Nat.succ_le_succ (BG r i)
theorem foldl_rep(its:List Value):∀(k:Nat) (acc:List Value),
  List.foldl (fun x1 x2=>x1++x2) acc.toArray (List.replicate k its.toArray)=(acc++(List.replicate k its).flatten).toArray
 |0,acc=>by simp
 |k+1,acc=>by
  have e:acc.toArray++its.toArray=(acc++its).toArray:=by simp
  have e2:(acc++its)++(List.replicate k its).flatten=acc++(List.replicate (k+1) its).flatten:=by
   rw[replicate_succ,flatten_cons,append_assoc]
  rw[<- e2,<- foldl_rep its k (acc++its),<- e,replicate_succ,List.foldl_cons]
section
variable {X:Cx}{pins:List (Addr×Obj)}{σ:St}{H:Hp}{s:Shared}{l b:Addr}{xs ys zs:List V}
theorem Inv.La{its its':List Value}{n:Nat}{f:Array Value->Array Value}{t':Nat}(I:Inv X pins σ H s)(hH:H l=some (.lst xs))
  (e:s.heap.get? l=some {cls:=.type "list",data:=.seq its.toArray n}) (hf:f its.toArray=its'.toArray) (hv:Vals ys its') (hz:ys.length<=sizeLine) :
  Inv X pins σ (upd H l (.lst ys)) {s with heap:=s.heap.update l (Obj.mapSeq f),toks:=t'}:=by
 have q:=PySem.IsL.update e f
 rw[hf] at q
 refine I.write (x:=l) (e:=l) (by rw[hH];exact trivial) (.inl rfl) (fun b' u hb hu=>(Heap.get?_update_other s.heap (Obj.mapSeq f) (Ne.symm hb)).trans hu) ⟨_,q⟩ ?_
 exact⟨hz,its',_,hv,q⟩
theorem Inv.Sr{its:List Value}{t':Nat}(I:Inv X pins σ H s)(hv:Vals ys its)(hz:ys.length<=sizeLine) :
  Inv X pins σ (upd H s.heap.objs.size (.lst ys)) {s with heap:=s.heap.push {cls:=.type "list",data:=.seq its.toArray},toks:=t'}:=
 I.laid (fun _ _ q=>Heap.get?_push_of_some _ q) (le_refl _) ⟨hz,its,0,hv,Heap.get?_push_size _ rfl⟩
theorem Inv.fresh(I:Inv X pins σ H s):H s.heap.objs.size=none:=I.hok.fresh (le_refl _)
theorem Inv.Ao(I:Inv X pins σ H s)(hH:H l=some (.lst xs)):xs.length<=sizeLine/\∃(its:List Value) (n:Nat),Vals xs its/\xs.length=its.length/\s.heap.get? l=some {cls:=.type "list",data:=.seq its.toArray n}:=by
 obtain⟨z,its,n,r,e⟩:=I.hok l _ hH
 exact⟨z,its,n,r,r.length,e⟩
theorem Gu{n:Nat}(h:n<=sizeLine):Builtin.List.listTooLong n=false:=by
 unfold Builtin.List.listTooLong
 exact decide_eq_false ∅
end
section
variable {X:Cx}
def NB:V->List V->Hp->VK->Prop:=fun x vs H Q=>∃l xs y,x = .ref l/\vs=[y]/\H l=some (.lst xs)/\xs.length<sizeLine/\Q .non (upd H l (.lst (xs++[y])))
theorem lh:MtM X "list.append" NB:=by
 intro pins s σ H x vs v us Q I rx rv h
 obtain⟨l,xs,y,rfl,rfl,hH,hz,q⟩:=h
 cases rx
 obtain⟨u,rfl,ru⟩:=rv.one
 obtain⟨z,its,n,r,hl,e⟩:=I.Ao hH
 refine call_meets F.slot_list_append ⟨_,e,rfl⟩ F.entry_list_append (F.args_list_append_2 _ _) (PySem.list_append l its.toArray n u (by rw[size_toArray];omega)) ⟨e,?_⟩
 refine⟨.non,_,I.La (its':=its++[u]) hH e (by simp) (r.append (.cons ru .nil)) ?_,rfl,q⟩
 rw[length_append,List.length_singleton]
 omega
def NN:V->List V->Hp->VK->Prop:=fun x vs H Q=>∃l b xs zs,x = .ref l/\vs=[.ref b]/\H l=some (.lst xs)/\H b=some (.lst zs)/\xs.length+zs.length<=sizeLine/\Q .non (upd H l (.lst (xs++zs)))
theorem RT:MtM X "list.extend" NN:=by
 intro pins s σ H x vs v us Q I rx rv h
 obtain⟨l,b,xs,zs,rfl,rfl,hH,hB,hz,q⟩:=h
 cases rx
 obtain⟨u,rfl,ru⟩:=rv.one
 cases ru
 obtain⟨z,its,n,r,hl,e⟩:=I.Ao hH
 obtain⟨z2,its2,n2,r2,hl2,e2⟩:=I.Ao hB
 have hsz:its.toArray.size+its2.toArray.size<=sizeLine:=by rw[size_toArray,size_toArray];omega
 have hlong:¬ (!its.toArray.isEmpty&&Builtin.List.listTooLong (its.toArray.size+its2.toArray.size))=true:=by
  rw[Gu hsz,Bool.and_false]
  exact Bool.false_ne_true
 refine call_meets F.slot_list_extend ⟨_,e,rfl⟩ F.entry_list_extend (F.args_list_extend_2 _ _)
  (AutoSeq1.list_extend_list_list_0 l its.toArray n b its2.toArray n2 hlong (by rw[size_toArray];omega) ∅) ⟨e,e2,?_⟩
 refine⟨.non,_,I.La (its':=its++its2) hH e (by simp) (r.append r2) ?_,rfl,q⟩
 rw[length_append]
 omega
def Ua:V->List V->Hp->VK->Prop:=fun x vs H Q=>∃l xs y,x = .ref l/\vs=[]/\H l=some (.lst xs)/\xs[xs.length-1]? = some y/\Q y (upd H l (.lst xs.dropLast))
theorem TZ:MtM X "list.pop" Ua:=by
 intro pins s σ H x vs v us Q I rx rv h
 obtain⟨l,xs,y,rfl,rfl,hH,hy,q⟩:=h
 cases rx
 have hus:=rv.zero
 subst hus
 obtain⟨z,its,n,r,hl,e⟩:=I.Ao hH
 obtain⟨u,hu,ru⟩:=r.get hy
 have hy':its.toArray[its.toArray.size-1]? = some u:=by
  show its.toArray[its.length-1]? = some u
  rw[<- Array.getElem?_toList,<- hl]
  exact hu
 refine call_meets F.slot_list_pop ⟨_,e,rfl⟩ F.entry_list_pop (F.args_list_pop_1 _) (MeetsSeq.list_pop_last l its.toArray n u hy' (by rw[size_toArray];omega)) ⟨e,?_⟩
 refine⟨y,_,I.La (its':=its.dropLast) hH e ?_ r.dropLast ?_,ru,q⟩
 ·show its.toArray.eraseIdxIfInBounds (its.toArray.size-1)=its.dropLast.toArray
  rw[size_toArray,List.eraseIdxIfInBounds_toArray,H0]
 ·rw[List.length_dropLast]
  omega
def QU:V->List V->Hp->VK->Prop:=fun x vs H Q=>∃l xs i k y,x = .ref l/\vs=[.int i]/\H l=some (.lst xs)/\-(2 ^ 63)<=i/\i<2 ^ 63/\seqIndex? i xs.length=some k/\xs[k]? = some y/\Q y (upd H l (.lst (xs.eraseIdx k)))
theorem Mv:MtM X "list.pop" QU:=by
 intro pins s σ H x vs v us Q I rx rv h
 obtain⟨l,xs,i,k,y,rfl,rfl,hH,h1,h2,hk,hy,q⟩:=h
 cases rx
 obtain⟨u,rfl,ru⟩:=rv.one
 obtain⟨t,rfl⟩:=ru
 obtain⟨z,its,n,r,hl,e⟩:=I.Ao hH
 obtain⟨w,hw,rw'⟩:=r.get hy
 refine call_meets F.slot_list_pop ⟨_,e,rfl⟩ F.entry_list_pop (F.args_list_pop_2 _ _)
  (MeetsSeq.list_pop_at l its.toArray n i t k w (fitsIndex_both h1 h2) (by rw[size_toArray,<- hl];exact hk) (by rw[<- Array.getElem?_toList];exact hw) (by rw[size_toArray];omega)) ⟨e,?_⟩
 refine⟨y,_,I.La (its':=its.eraseIdx k) hH e ?_ (r.eraseIdx k) ?_,rw',q⟩
 ·show its.toArray.eraseIdxIfInBounds k=(its.eraseIdx k).toArray
  rw[List.eraseIdxIfInBounds_toArray]
 ·have:=BG xs k
  omega
def ME:V->List V->Hp->VK->Prop:=fun x vs H Q=>∃l xs,x = .ref l/\vs=[]/\H l=some (.lst xs)/\Q .non (upd H l (.lst xs.reverse))
theorem Hf:MtM X "list.reverse" ME:=by
 intro pins s σ H x vs v us Q I rx rv h
 obtain⟨l,xs,rfl,rfl,hH,q⟩:=h
 cases rx
 have hus:=rv.zero
 subst hus
 obtain⟨z,its,n,r,hl,e⟩:=I.Ao hH
 refine call_meets F.slot_list_reverse ⟨_,e,rfl⟩ F.entry_list_reverse (F.args_list_reverse_1 _) (AutoSeq1.list_reverse_list_0 l its.toArray n (by rw[size_toArray];omega)) ⟨e,?_⟩
 refine⟨.non,_,I.La (its':=its.reverse) hH e (by simp) r.reverse ?_,rfl,q⟩
 rw[List.length_reverse]
 omega
noncomputable def Si:R2:=fun x y H Q=>∃l b xs zs,x = .ref l/\y = .ref b/\H l=some (.lst xs)/\H b=some (.lst zs)/\xs.length+zs.length<=sizeLine/\∀p,H p=none->Q (.ref p) (upd H p (.lst (xs++zs)))
theorem RR:OpR X (binaryOp .Add) Si:=by
 intro pins s σ H x y v u Q I rx ry h
 obtain⟨l,b,xs,zs,rfl,rfl,hH,hB,hz,q⟩:=h
 cases rx
 cases ry
 obtain⟨z,its,n,r,hl,e⟩:=I.Ao hH
 obtain⟨z2,its2,n2,r2,hl2,e2⟩:=I.Ao hB
 refine PySem.P.add_list e e2 ?_ (by rw[size_toArray,size_toArray];omega)
 have ea:its.toArray++its2.toArray=(its++its2).toArray:=by simp
 rw[ea]
 exact⟨.ref _,_,I.Sr (t':=s.toks) (r.append r2) (by rw[length_append];omega),rfl,q _ I.fresh⟩
noncomputable def Se:R2:=fun x y H Q=>∃l k xs,x = .ref l/\y = .int k/\H l=some (.lst xs)/\-(2 ^ 63)<=k/\k<2 ^ 63/\xs.length*k.toNat<=sizeLine /\
 ∀p,H p=none->Q (.ref p) (upd H p (.lst (List.replicate k.toNat xs).flatten))
theorem len_rep{α:Type}(xs:List α)(k:Nat):(List.replicate k xs).flatten.length=k*xs.length:=by
 induction k with
 |zero=>simp
 |succ k ih=>rw[replicate_succ,flatten_cons,length_append,ih,Nat.succ_mul,Nat.add_comm]
theorem Ra:OpR X (binaryOp .Mult) Se:=by
 intro pins s σ H x y v u Q I rx ry h
 obtain⟨l,k,xs,rfl,rfl,hH,h1,h2,hz,q⟩:=h
 cases rx
 obtain⟨t,rfl⟩:=ry
 obtain⟨z,its,n,r,hl,e⟩:=I.Ao hH
 have hlen:its.toArray.size*k.toNat<=sizeLine:=by rw[size_toArray,<- hl];exact hz
 have hcap:¬ its.toArray.size*k.toNat>(2 ^ 63-1) / 8:=by
  have:(sizeLine:Nat)<=(2 ^ 63-1) / 8:=by decide
  omega
 have hfit:¬ (!Builtin.List.listFitsIndex k)=true:=by
  rw[fitsIndex_both h1 h2]
  exact Bool.false_ne_true
 have hlong:¬ Builtin.List.listTooLong (its.toArray.size*k.toNat)=true:=by
  rw[Gu hlen]
  exact Bool.false_ne_true
 have hnew:List.foldl (fun x1 x2=>x1++x2) #[] (List.replicate (if its.toArray.isEmpty=true then 0 else k.toNat) its.toArray)=(List.replicate k.toNat its).flatten.toArray:=by
  have f0:∀m:Nat,List.foldl (fun x1 x2=>x1++x2) #[] (List.replicate m its.toArray)=(List.replicate m its).flatten.toArray:=fun m=>by
   have:=foldl_rep its m []
   rw[nil_append] at this
   exact this
  rw[f0]
  cases its with
  |nil=>simp
  |cons a r'=>rw[if_neg (by simp)]
 refine wpAny_binaryOp_repeat_ref (T:="list") (U:="int") ⋯ ⟨_,e,rfl⟩ (fun s'=>typeIs_int s' k t) noFill_list_mul F.fills_int_mul F.slot_int_rmul repeat_list F.slot_int_index.lookup
  (call_meets F.slot_int_rmul (typeIs_int s k t) F.entry_int_rmul (F.args_int_rmul_2 _ _) (int___rmul___int_list k t l its.toArray n)
   ⟨e,rfl,⟨_,e,rfl⟩,call_meets F.slot_list_mul ⟨_,e,rfl⟩ F.entry_list_mul (F.args_list_mul_2 _ _) (AutoListH.list___mul___list_int_3 l its.toArray n k t hfit hcap hlong) ⟨e,?_⟩⟩)
 rw[hnew]
 exact⟨.ref _,_,I.Sr (t':=s.toks) (r.rep k.toNat) (by rw[len_rep,Nat.mul_comm];exact hz),rfl,q _ I.fresh⟩
end
end L2
namespace Att
open PySem PySem.W PySem.Calls PyProof.Rows
theorem wO{P:Params}{h:Heap}:∀(ns:List Int) (vs:List Value),WellAll P h vs (ns.map WData.int)->IntsAre vs ns:=by
 intro ns
 induction ns with
 |nil=>
  intro vs w
  rw[map_nil] at w
  cases w
  exact .nil
 |cons n ns ih=>
  intro vs w
  rw[map_cons] at w
  cases w with
  |cons a b=>
   cases a
   exact .cons _ _ (ih _ b)
theorem KR{l:OpenLaw}{n:Nat}(hn:l.most=some n){P:Params}{h:Heap}{args:List WData}{vals:List Value}
  (hpre:l.row.toRowW.claim.pre args=true) (hwl:WellAll P h vals args) :
  ∃a vs ns,vals=[Value.ref a]/\args=[WData.list (ns.map WData.int)]/\h.get? a=some {cls:=.type "list",data:=.seq vs.toArray}/\IntsAre vs ns/\ns.length<=n:=by
 have hsh:WShape.hasAll [] args [.list .int]=true:=(pre_splitW hpre).1
 have hc:l.pre.holds [] {args:=args} = true:=(pre_splitW hpre).2
 obtain⟨d,r,rfl,h1,h2⟩:=hasAllW_cons hsh
 obtain rfl:=hasAllW_nil h2
 obtain⟨xs,rfl,h3⟩:=hasW_list h1
 obtain⟨ns,rfl⟩:=items_int h3
 have hlen:ns.length<=n:=by
  unfold OpenLaw.pre at hc
  have h4:(WTm.not (.lt (.lit (.int (n:Int))) (.len (.arg 0)))).holds [] {args:=[.list (ns.map .int)]} = true:=by
   have h4:=(holds_andW hc).1
   rw[hn] at h4
   exact h4
  have h5:=condW_of h4 (w_not (w_lt w_lit (w_len_list (w_arg rfl))))
  rw[length_map] at h5
  refine Nat.le_of_not_lt fun q=>?_
  have q':(n:Int)<((ns.length:Nat):Int):=by omega
  first
   |(rw[decide_eq_true q'] at h5;exact absurd h5 ⋯)
   |(simp at h5;omega)
 cases hwl with
 |cons w1 w2=>
  cases w2
  cases w1 with
  |list ho hall=>exact⟨_,_,ns,rfl,rfl,ho,wO ns _ hall,hlen⟩
theorem KU(l:OpenLaw)(args:List WData):l.row.toRowW.claim.post args (.bool true) args=true:=
 postW_of (r:=l.row.toRowW) (X:=(true==true))
  (show WShape.has [] (.bool true) .bool=true by first|rfl|decide|simp[WShape.has,WShape.arms,WShape.armsAll])
  (show (WTm.eq .res (.lit (.bool true))).value [] {args:=args,res:=some (.bool true),after:=args} = some (.bool (true==true)) from w_eq_bool (w_res rfl) w_lit) rfl
theorem ED{l:OpenLaw}{n:Nat}{q:Program}{loose:List Str}{XP:(Str->Option Value)->Heap->Prop}{YP:World->Heap->Prop}{d:DefRec}
  (hn:l.most=some n) (hdf:d.params.defaults=[])
  (call:∀(w:World) (io ca:Shared) (mg mb:Str->Option Value) (fa:Addr) (o:Obj) (pm cd doc:Value) (a:Addr) (vs:List Value) (ns:List Int),
   Ground q loose [] XP w io mg mb ca.heap->YP w ca.heap ->
   ca.heap.get? fa=some o->o.data = .func (docDef d.name d.params d.body d.scope pm cd doc)->ca.heap.CodeRec cd d.name->mg d.name=some (.ref fa) ->
   ca.heap.get? a=some {cls:=.type "list",data:=.seq vs.toArray}->IntsAre vs ns->ns.length<=n->ca.gens = #[] ->
   codeAny (model l.prog w) callerA (.call (.ref fa) ⟨[.ref a],[]⟩) (fun r s'=>r = .ok (.ret (.bool true))/\OldK ca.heap s'.heap/\s'.os=ca.os/\AllBare s'.gens) ca) :
  WalkO q loose XP YP l.row.toRowW d [] (fun f vs=>PySem.call f vs):=by
 intro w io ca mg mb G Y fa o pm cd doc dV kV ho hd hcd hD hmg hg args vals as hpre hlay hrd hwl hlo
 obtain rfl:dV = .none:=Dflts.none hD hdf
 obtain rfl:kV = .none:=Dflts.noKw hD
 obtain⟨a,vs,ns,rfl,rfl,hobj,hints,hlen⟩:=KR hn hpre hwl
 refine enter_call (codeAny_mono (call w io ca mg mb fa o pm cd doc a vs ns G Y ho (fd_plain hd) hcd hmg hobj hints hlen hg) fun r s' hq=>?_)
 obtain⟨rfl,h2,h3,h4⟩:=hq
 exact⟨.inl ⟨.bool true,.bool true,[],rfl,fun _=>rfl,.bool true,KU l _,fun _=>⟨List.Pairwise.nil,fun _ hm=>(nomatch hm)⟩⟩,h2,h3,h4⟩
end Att
namespace L2
open PySem PySem.Spec PyProof.Rows
theorem BA:∀{vs:List Value} {ns:List Int},IntsAre vs ns->Vals (ns.map V.int) vs
 |_,_,.nil=>.nil
 |_,_,.cons n t h=>.cons ⟨t,rfl⟩ (BA h)
end L2
namespace L2
open PySem PySem.Spec PyProof.Rows
end L2
namespace L2
open PySem PySem.Spec PyProof.Rows
noncomputable abbrev CX0:CXT:=fun _ _ _ _ _ _=>False
noncomputable abbrev E0:XK:=fun _ _ _=>False
theorem SQ{X:Cx}:Passes CX0 X E0:=fun _ _ _ _ _ _ _ h=>h.elim
structure Fun(K:PySem.W.Frag)(x qual:Str)(st:Stmt)(f:Addr)(fd:FuncData):Prop where
 ex:∃(oc:Value) (od:Option Addr) (kV doc pm:Value) (an:Option Addr) (cdv ct:Value) (osl:Array (Option Value)),
  fd=fnOf x qual (ki st) (i9 st) (ax st) .none kV doc pm an cdv ct/\K.lookup f=some ⟨oc,od,.func fd,osl⟩/\codeIn K cdv qual=true
 kp:keepIn K (.ref f)=true
section
variable {P:Program}{w:World}{K:PySem.W.Frag}{mg:Str->Option Value}{base:Heap}
theorem Fun.ok{x qual:Str}{st:Stmt}{f:Addr}{fd:FuncData}{N ps:List Str}{k:Nat}{sp:Sp}(F:Fun K x qual st f fd)(S:aK N ps (ax st))(len:∀vs H Q E,sp vs H Q E->vs.length=ps.length)
  (hbody:∀(cdv:Value) (A:Around) (outer:List Env) (s:Shared) (H:Hp) (vs:List V) (Q:VK) (E:XK),mC k (A.deeper (envOfC qual (ax st) s.heap.objs.size f cdv))->sp vs H Q E ->
   ∃t,PSs (IH CX0 P w K mg base N qual (ax st) f cdv A outer s H E).nox (i9 st) t/\t {nx:=fun _ H'=>Q .non H',rt:=Q} (start N vs) H):bu P w K mg base CX0 (k+1) f fd ps sp:=by
 obtain⟨oc,od,kV,doc,pm,an,cdv,ct,osl,rfl,lk,hcd⟩:=F.ex
 refine SD lk hcd S len fun A outer s H vs Q E hr hsp=>?_
 obtain⟨t,h,q⟩:=hbody cdv A outer s H vs Q E hr hsp
 exact⟨t,h.nox,q⟩
theorem Fun.binds{x qual:Str}{st:Stmt}{f:Addr}{fd:FuncData}{ps:List Str}(F:Fun K x qual st f fd)
  (h:∀(kV doc pm:Value) (an:Option Addr) (cdv ct:Value) (us:List Value),us.length=ps.length->bindArgs (fnOf x qual (ki st) (i9 st) (ax st) .none kV doc pm an cdv ct) ⟨us,[]⟩=pure (ps.zip us)):Binds K fd ps []:=by
 obtain⟨oc,od,kV,doc,pm,an,cdv,ct,osl,rfl,lk,hcd⟩:=F.ex
 exact .all (h kV doc pm an cdv ct)
theorem aU{x qual:Str}{st:Stmt}{f:Addr}{oc:Value}{od an:Option Addr}{osl:Array (Option Value)}{kV doc pm cdv ct:Value}(l:K.lookup f=some ⟨oc,od,.func (fnOf x qual (ki st) (i9 st) (ax st) .none kV doc pm an cdv ct),osl⟩)
  (c:codeIn K cdv qual=true) (k:keepIn K (.ref f)=true):Fun K x qual st f (fnOf x qual (ki st) (i9 st) (ax st) .none kV doc pm an cdv ct):=⟨⟨oc,od,kV,doc,pm,an,cdv,ct,osl,rfl,l,c⟩,k⟩
end
theorem d0{n:Nat}(h:n<=1000):n<sizeLine:=Nat.lt_of_le_of_lt h ⋯
theorem xP{A B:Prop}(h:B):if false=true then A else B:=by
 rw[if_neg Bool.false_ne_true]
 exact h
theorem zI{A B:Prop}(h:A):if true=true then A else B:=by
 rw[if_pos rfl]
 exact h
noncomputable def yf(H H':Hp):Prop:=∀b o,H b=some o->H' b=some o
theorem yf.refl(H:Hp):yf H H:=fun _ _ h=>h
end L2
namespace ST
open PySem PySem.SetTable
def fiv(M x:Nat):Nat:=(x*5+1) % M
def itf(M:Nat):Nat->Nat->Nat
 |0,x=>x
 |n+1,x=>fiv M (itf M n x)
def geo:Nat->Nat
 |0=>0
 |p+1=>5*geo p+1
theorem Pf:∀p,4*geo p+1=5 ^ p
 |0=>rfl
 |p+1=>by
  have:=Pf p
  rw[geo,pow_succ]
  omega
theorem IZ:∀p,geo p % 2=p % 2
 |0=>rfl
 |p+1=>by
  have:=IZ p
  rw[geo]
  omega
theorem OA(q:Nat):geo (2*q)=geo q*(2*geo q+1)*2:=by
 have h1:=Pf (2*q)
 have h2:=Pf q
 have h3:5 ^ (2*q)=5 ^ q*5 ^ q:=by rw[<- Nat.pow_add];congr 1;omega
 rw[h3,<- h2] at h1
 have h4:(4*geo q+1)*(4*geo q+1)=4*(geo q*(2*geo q+1)*2)+1:=by
  generalize geo q=g
  have:geo q=geo q:=rfl
  simp only[Nat.add_mul,Nat.mul_add,Nat.mul_assoc,Nat.mul_one,Nat.one_mul]
  have e1:g*(4*g)=4*(g*g):=by rw[Nat.mul_left_comm]
  have e2:g*(2*(g*2))=4*(g*g):=by rw[Nat.mul_left_comm,<- Nat.mul_assoc g g 2];omega
  rw[e1,e2]
  omega
 rw[h4] at h1
 omega
theorem JV:∀k p:Nat,2 ^ k ∣ geo p->2 ^ k ∣ p
 |0,p,_=>by rw[Nat.pow_zero];exact Nat.one_dvd p
 |k+1,p,h=>by
  have h2:2 ∣ geo p:=Nat.dvd_trans ⟨2 ^ k,by rw[pow_succ,Nat.mul_comm]⟩ h
  have hp:p % 2=0:=by rw[<- IZ];omega
  obtain⟨q,rfl⟩:∃q,p=2*q:=⟨p / 2,∅⟩
  rw[OA,pow_succ] at h
  have h3:=Nat.dvd_of_mul_dvd_mul_right (by decide:0<2) h
  have co:Nat.Coprime (2 ^ k) (2*geo q+1):=by
   refine Nat.Coprime.pow_left k ?_
   unfold Nat.Coprime
   rw[Nat.gcd_rec]
   have:(2*geo q+1) % 2=1:=by omega
   rw[this]
   decide
  have h4:=JV k q (co.dvd_of_dvd_mul_right h3)
  rw[pow_succ,Nat.mul_comm 2 q]
  exact Nat.mul_dvd_mul_right h4 2
theorem MO{M a b:Nat}(h:a % M=b % M):(a*5+1) % M=(b*5+1) % M:=by
 rw[Nat.add_mod,Nat.mul_mod,h,<- Nat.mul_mod,<- Nat.add_mod]
theorem JI(M:Nat)(x:Nat):∀n,itf M n x % M=(5 ^ n*x+geo n) % M
 |0=>by rw[itf,geo,Nat.pow_zero,Nat.one_mul,Nat.add_zero]
 |n+1=>by
  rw[itf,fiv,Nat.mod_mod,MO (JI M x n),geo,pow_succ]
  congr 1
  rw[Nat.add_mul,Nat.mul_right_comm,Nat.mul_comm (geo n) 5];omega
theorem JO(M:Nat)(a x:Nat):∀b,itf M (a+b) x=itf M b (itf M a x)
 |0=>rfl
 |b+1=>by show fiv M (itf M (a+b) x)=_;rw[JO M a x b];rfl
theorem cyc{k p x:Nat}(h:(5 ^ p*x+geo p) % 2 ^ k=x % 2 ^ k):2 ^ k ∣ p:=by
 refine JV k p ?_
 have h1:=Nat.sub_mod_eq_zero_of_mod_eq h
 have e:5 ^ p*x+geo p-x=geo p*(4*x+1):=by
  rw[<- Pf p,Nat.add_mul,Nat.mul_add,Nat.mul_one,Nat.one_mul]
  have:4*geo p*x=geo p*(4*x):=by rw[Nat.mul_comm 4,Nat.mul_assoc]
  omega
 rw[e] at h1
 have co:Nat.Coprime (2 ^ k) (4*x+1):=by
  refine Nat.Coprime.pow_left k ?_
  unfold Nat.Coprime
  rw[Nat.gcd_rec]
  have:(4*x+1) % 2=1:=by omega
  rw[this]
  decide
 exact co.dvd_of_dvd_mul_right (Nat.dvd_of_mod_eq_zero h1)
theorem OP{k a b x:Nat}(h:a<b)(hb:b<2 ^ k)(hx:itf (2 ^ k) a x=itf (2 ^ k) b x):False:=by
 obtain⟨p,rfl⟩:∃p,b=a+p:=⟨b-a,∅⟩
 rw[JO] at hx
 have h1:=JI (2 ^ k) (itf (2 ^ k) a x) p
 rw[<- hx] at h1
 have h2:=Nat.le_of_dvd ∅ (cyc h1.symm)
 omega
theorem pig:∀(l O:List Nat),l.Nodup->(∀x∈l,x∈O)->l.length<=O.length
 |[],_,_,_=>zero_le _
 |a::l,O,h,s=>by
  rw[List.nodup_cons] at h
  have ha:=s a (mem_cons_self ..)
  have:=pig l (O.erase a) h.2 fun x hx=>(List.mem_erase_of_ne (fun z=>h.1 (by rw[<- z];exact hx))).mpr (s x (mem_cons_of_mem _ hx))
  rw[List.length_erase_of_mem ha] at this
  have:0<O.length:=List.length_pos_of_mem ha
  rw[length_cons]
  omega
theorem K0{k:Nat}{O:List Nat}(x:Nat)(hc:O.length<2 ^ k):∃r,r<=O.length/\itf (2 ^ k) r x ∉ O:=by
 by_cases h:∃r,r<=O.length/\itf (2 ^ k) r x ∉ O
 ·exact h
 exfalso
 have a:∀r,r<=O.length->itf (2 ^ k) r x∈O:=fun r hr=>Classical.byContradiction fun z=>h ⟨r,hr,z⟩
 have:=pig ((List.range (O.length+1)).map fun r=>itf (2 ^ k) r x) O ?_ fun y hy=>?_
 ·rw[length_map,List.length_range] at this
  omega
 ·refine List.pairwise_map.mpr (List.Pairwise.imp_of_mem (fun {p q} hp hq (hpq:p<q) z=>?_) List.pairwise_lt_range)
  rw[List.mem_range] at hq
  exact OP hpq ∅ z
 ·obtain⟨r,hr,rfl⟩:=List.mem_map.mp hy
  rw[List.mem_range] at hr
  exact a r ∅
def lp(m:Nat)(s:Nat×Nat):Nat->Nat×Nat
 |0=>s
 |n+1=>leap m (lp m s n).1 (lp m s n).2
theorem Nv(m:Nat)(s:Nat×Nat):∀n,(lp m s n).2=s.2 / 32 ^ n
 |0=>by rw[Nat.pow_zero,Nat.div_one];rfl
 |n+1=>by
  show (lp m s n).2 / 32=_
  rw[Nv m s n,Nat.div_div_eq_div_mul,pow_succ]
theorem J3(m:Nat)(s:Nat×Nat)(h:s.2<2 ^ 64):∀r,lp m s (13+r)=(itf (m+1) r (lp m s 13).1,0)
 |0=>by
  have:=Nv m s 13
  rw[Nat.div_eq_of_lt (lt_of_lt_of_le h ⋯)] at this
  exact Prod.ext rfl this
 |r+1=>by
  show leap m (lp m s (13+r)).1 (lp m s (13+r)).2=_
  rw[J3 m s h r]
  show ((itf (m+1) r (lp m s 13).1*5+1+0 / 32) % (m+1),0 / 32)=_
  rw[Nat.zero_div,Nat.add_zero]
  rfl
theorem BJ{m k:Nat}(hm:m+1=2 ^ k){O:List Nat}(hc:O.length<=m)(s:Nat×Nat)(h:s.2<2 ^ 64):∃L,L<=13+O.length/\(lp m s L).1 ∉ O:=by
 obtain⟨r,h1,h2⟩:=K0 (k:=k) (O:=O) (lp m s 13).1 ∅
 refine⟨13+r,∅,?_⟩
 rw[J3 m s h,hm]
 exact h2
theorem JW(m i p:Nat):(leap m i p).1<=m:=by
 have:(i*5+1+p / 32) % (m+1)<m+1:=Nat.mod_lt _ (Nat.succ_pos m)
 show (i*5+1+p / 32) % (m+1)<=m
 omega
theorem I0(h:Int):bits h<2 ^ 64:=by
 unfold bits
 have:=Int.emod_lt_of_pos h (show (0:Int)<2 ^ 64 by decide)
 have:=Int.emod_nonneg h (show (2 ^ 64:Int)≠0 by decide)
 omega
def adv(m:Nat)(p:Probe):Probe:=
 if p.more>0 then {p with j:=p.j+1,more:=p.more-1} else
 {p with j:=(leap m p.i p.perturb).1,more:=runEnd m (leap m p.i p.perturb).1-(leap m p.i p.perturb).1,i:=(leap m p.i p.perturb).1,perturb:=(leap m p.i p.perturb).2}
def st(m:Nat)(s:Nat×Nat):Probe:={j:=s.1,more:=runEnd m s.1-s.1,i:=s.1,perturb:=s.2,dummy:=none}
def sth(m:Nat)(h:Int):Probe:=st m (bits h % (m+1),bits h)
inductive Way(m:Nat)(O:Nat->Prop):Probe->Nat->Nat->Prop
 |here {p:Probe}:p.dummy=none->¬ O p.j->Way m O p 0 p.j
 |step {p:Probe} {n e:Nat}:p.dummy=none->O p.j->Way m O (adv m p) n e->Way m O p (n+1) e
inductive On(m:Nat)(O:Nat->Prop):Probe->Nat->Prop
 |here {p:Probe}:On m O p p.j
 |step {p:Probe} {j:Nat}:O p.j->On m O (adv m p) j->On m O p j
theorem On.mono{m:Nat}{O O':Nat->Prop}(s:∀j,O j->O' j){p:Probe}{j:Nat}(h:On m O p j):On m O' p j:=by
 induction h with
 |here=>exact .here
 |step a _ ih=>exact .step (s _ a) ih
theorem Way.on{m:Nat}{O:Nat->Prop}{p:Probe}{n e:Nat}(h:Way m O p n e):On m O p e/\¬ O e:=by
 induction h with
 |here _ a=>exact⟨.here,a⟩
 |step _ a _ ih=>exact⟨.step a ih.1,ih.2⟩
theorem RA(m i:Nat):runEnd m i-i<=9:=by unfold runEnd;split<;>omega
theorem IB{m i:Nat}(h:i<=m):runEnd m i<=m:=by unfold runEnd;split<;>omega
theorem IG(m i:Nat):i<=runEnd m i:=by unfold runEnd;split<;>omega
theorem Way.le{m:Nat}{O:Nat->Prop}{p:Probe}{n e:Nat}(h:Way m O p n e):p.j+p.more<=m->e<=m:=by
 induction h with
 |here _ _=>omega
 |@step p n e _ a _ ih=>
  intro hp
  refine ih ?_
  unfold adv
  split
  ·show p.j+1+(p.more-1)<=m;omega
  ·show (leap m p.i p.perturb).1+(runEnd m (leap m p.i p.perturb).1-(leap m p.i p.perturb).1)<=m
   have h1:=JW m p.i p.perturb
   have:=IB h1
   omega
theorem Jv{m:Nat}{O:Nat->Prop}{i pt n1 e1:Nat}(w:Way m O (st m (leap m i pt)) n1 e1):∀(more j:Nat),∃n e,Way m O {j:=j,more:=more,i:=i,perturb:=pt,dummy:=none} n e/\n<=more+1+n1
 |0,j=>by
  by_cases h:O j
  ·exact⟨n1+1,e1,.step rfl h w,∅⟩
  ·exact⟨0,j,.here rfl h,∅⟩
 |more+1,j=>by
  by_cases h:O j
  ·obtain⟨n,e,w1,hn⟩:=Jv w more (j+1)
   exact⟨n+1,e,.step rfl h w1,∅⟩
  ·exact⟨0,j,.here rfl h,∅⟩
theorem MA{m:Nat}{O:Nat->Prop}{s:Nat×Nat}{L:Nat}(hL:¬ O (lp m s L).1):∀d,d<=L->∃n e,Way m O (st m (lp m s (L-d))) n e/\n<=10*d
 |0,_=>⟨0,_,.here rfl hL,∅⟩
 |d+1,hd=>by
  obtain⟨n,e,w,hn⟩:=MA hL d ∅
  have e1:L-d=(L-(d+1))+1:=by omega
  rw[e1] at w
  obtain⟨n',e',w',hn'⟩:=Jv (i:=(lp m s (L-(d+1))).1) (pt:=(lp m s (L-(d+1))).2) w (runEnd m (lp m s (L-(d+1))).1-(lp m s (L-(d+1))).1) (lp m s (L-(d+1))).1
  have:=RA m (lp m s (L-(d+1))).1
  exact⟨n',e',w',∅⟩
theorem Lm{m k:Nat}(hm:m+1=2 ^ k){O:List Nat}(hc:O.length<=m)(h:Int):∃n e,Way m (·∈O) (sth m h) n e/\n<=10*(13+O.length)/\e<=m:=by
 obtain⟨L,h1,h2⟩:=BJ hm hc (bits h % (m+1),bits h) (I0 h)
 obtain⟨n,e,w,hn⟩:=MA (O:=(·∈O)) h2 L (le_refl _)
 rw[Nat.sub_self] at w
 refine⟨n,e,w,∅,w.le ?_⟩
 have:=IB (m:=m) (i:=bits h % (m+1)) (le_of_lt_succ (Nat.mod_lt _ (Nat.succ_pos m)))
 have:=IG m (bits h % (m+1))
 show bits h % (m+1)+(runEnd m (bits h % (m+1))-bits h % (m+1))<=m
 omega
theorem zB{A B:List Nat}{j:Nat}(hA:∀a∈A,a<j)(hB:∀b∈B,j<=b):∀fuel lo hi,lo<=A.length->A.length<=hi->hi<=(A++B).length->hi-lo<=fuel->below.go (A++B).toArray j fuel lo hi=A.length
 |0,lo,hi,h1,h2,_,h4=>by show lo=_;omega
 |fuel+1,lo,hi,h1,h2,h3,h4=>by
  rw[below.go]
  by_cases c:lo<hi
  ·rw[if_pos c]
   have hmid:(lo+hi) / 2<(A++B).length:=by omega
   have hg:(A++B).toArray.getD ((lo+hi) / 2) j=(A++B)[(lo+hi) / 2]:=by rw[Array.getD];exact dif_pos (by rw[size_toArray];exact hmid)
   simp only[hg]
   by_cases d:(lo+hi) / 2<A.length
   ·have:(A++B)[(lo+hi) / 2]=A[(lo+hi) / 2]:=List.getElem_append_left d
    rw[this,if_pos (hA _ (getElem_mem d))]
    exact zB hA hB fuel _ _ ∅ h2 h3 ∅
   ·have:(A++B)[(lo+hi) / 2]=B[(lo+hi) / 2-A.length]'(by rw[length_append] at hmid;omega):=List.getElem_append_right ∅
    rw[this,if_neg (Nat.not_lt.mpr (hB _ (getElem_mem _)))]
    exact zB hA hB fuel _ _ h1 ∅ ∅ ∅
  ·rw[if_neg c]
   omega
theorem Nt{A B:List Nat}{j:Nat}(hA:∀a∈A,a<j)(hB:∀b∈B,j<=b):below (A++B).toArray j=A.length:=by
 unfold below
 refine zB hA hB _ _ _ (zero_le _) ?_ ?_ ?_
 ·rw[size_toArray,length_append];omega
 ·rw[size_toArray];exact le_refl _
 ·omega
theorem A9{α:Type}(A B:List α)(x:α):insertAt (A++B).toArray A.length x=(A++x::B).toArray:=by
 unfold insertAt
 apply Array.ext'
 simp
end ST
namespace ST
open PySem PySem.SetTable
theorem On.inv{m:Nat}{O:Nat->Prop}{p:Probe}{j:Nat}(h:On m O p j):j=p.j\/(O p.j/\On m O (adv m p) j):=by
 cases h with
 |here=>exact .inl rfl
 |step a b=>exact .inr ⟨a,b⟩
section
variable {β:Type}
abbrev Ln(β:Type):=List (Nat×Int×β)
noncomputable def Occ(L:Ln β)(j:Nat):Prop:=j∈L.map (·.1)
structure Tab(t:SetTable)(L:Ln β):Prop where
 place:t.place=(L.map (·.1)).toArray
 ris:L.Pairwise fun a b=>a.1<b.1
 le:∀x∈L,x.1<=t.mask
 dum:t.dummies = #[]
 two:∃k,t.mask+1=2 ^ k/\3<=k
 on:∀x∈L,On t.mask (Occ L) (sth t.mask x.2.1) x.1
theorem J8(j:Nat):has #[] j=false:=by
 have:below #[] j=0:=rfl
 unfold has
 rw[this]
 rfl
theorem Fe{L:Ln β}(r:L.Pairwise fun a b=>a.1<b.1)(j:Nat):∃A B:Ln β,L=A++B/\(∀a∈A,a.1<j)/\∀b∈B,j<=b.1:=by
 induction L with
 |nil=>exact⟨[],[],rfl,fun _ h=>by simp at h,fun _ h=>by simp at h⟩
 |cons x L ih=>
  rw[List.pairwise_cons] at r
  by_cases h:x.1<j
  ·obtain⟨A,B,rfl,h1,h2⟩:=ih r.2
   refine⟨x::A,B,rfl,fun a ha=>?_,h2⟩
   rcases List.mem_cons.mp ha with rfl|ha
   ·exact h
   ·exact h1 a ha
  ·refine⟨[],x::L,rfl,fun _ h=>by simp at h,fun b hb=>?_⟩
   rcases List.mem_cons.mp hb with rfl|hb
   ·omega
   ·have:=r.1 b hb;omega
theorem Tab.below{t:SetTable}{A B:Ln β}(T:Tab t (A++B)){j:Nat}(h1:∀a∈A,a.1<j)(h2:∀b∈B,j<=b.1):SetTable.below t.place j=A.length:=by
 rw[T.place,map_append]
 rw[Nt (j:=j) (fun a ha=>by obtain⟨x,hx,rfl⟩:=List.mem_map.mp ha;exact h1 x hx) (fun b hb=>by obtain⟨x,hx,rfl⟩:=List.mem_map.mp hb;exact h2 x hx),length_map]
theorem Tab.Kd{t:SetTable}{L:Ln β}(T:Tab t L){j:Nat}(h:¬ Occ L j):t.slot j = .empty:=by
 obtain⟨A,B,rfl,h1,h2⟩:=Fe T.ris j
 unfold slot
 rw[T.below h1 h2,T.dum,J8]
 have:(t.place[A.length]?==some j)=false:=by
  rw[T.place]
  cases B with
  |nil=>simp
  |cons b B=>
   simp only[map_append,map_cons,List.getElem?_toArray]
   rw[getElem?_append_right (by simp),length_map,Nat.sub_self]
   have:b.1≠j:=fun z=>h (by unfold Occ;rw[<- z];simp)
   simp[this]
 rw[if_neg (by rw[this];decide)]
 rfl
theorem Jf{A B:Ln β}{x:Nat×Int×β}(r:(A++x::B).Pairwise fun a b=>a.1<b.1):(∀a∈A,a.1<x.1)/\∀b∈B,x.1<b.1:=by
 rw[List.pairwise_append,List.pairwise_cons] at r
 exact⟨fun a ha=>r.2.2 a ha x (mem_cons_self ..),fun b hb=>r.2.1.1 b hb⟩
theorem Tab.KD{t:SetTable}{A B:Ln β}{x:Nat×Int×β}(T:Tab t (A++x::B)):t.slot x.1 = .live A.length:=by
 obtain⟨h1,h2⟩:=Jf T.ris
 unfold slot
 rw[T.below h1 (fun b hb=>by rcases List.mem_cons.mp hb with rfl|hb;exact le_refl _;exact Nat.le_of_lt (h2 b hb))]
 have:(t.place[A.length]?==some x.1)=true:=by
  rw[T.place]
  simp
 rw[if_pos this]
theorem Tab.Pd{t:SetTable}{L:Ln β}(T:Tab t L){j:Nat}(h:Occ L j):∃i x,t.slot j = .live i/\L[i]? = some (j,x):=by
 obtain⟨⟨j',x⟩,hx,rfl⟩:=List.mem_map.mp h
 obtain⟨A,B,rfl⟩:=List.append_of_mem hx
 exact⟨A.length,x,T.KD,by simp⟩
theorem Tab.uniq{t:SetTable}{L:Ln β}(T:Tab t L){j:Nat}{x y:Int×β}(h1:(j,x)∈L)(h2:(j,y)∈L):x=y:=by
 obtain⟨A,B,rfl⟩:=List.append_of_mem h1
 obtain⟨a1,a2⟩:=Jf T.ris
 rcases List.mem_append.mp h2 with h|h
 ·exact absurd (a1 _ h) (lt_irrefl _)
 ·rcases List.mem_cons.mp h with h|h
  ·cases h;rfl
  ·exact absurd (a2 _ h) (lt_irrefl _)
def hashOf(L:Ln β)(i:Nat):Int:=(L[i]?.map (·.2.1)).getD 0
theorem M3{t:SetTable}{L:Ln β}(T:Tab t L){hashAt:Nat->Int}(hh:∀i,i<L.length->hashAt i=hashOf L i)(h:Int) :
  ∀(n:Nat) (p:Probe) (e fuel:Nat),Way t.mask (Occ L) p n e->n<fuel ->
   (probe.go t hashAt h fuel p=some (.empty e none)/\∀x∈L,x.2.1=h->¬ On t.mask (Occ L) p x.1) \/
   (∃i x next n',probe.go t hashAt h fuel p=some (.candidate x.1 i next)/\L[i]? = some x/\t.slot x.1 = .live i/\x.2.1=h/\n'<n/\Way t.mask (Occ L) next n' e /\
    ∀y∈L,y.2.1=h->On t.mask (Occ L) p y.1->y=x\/On t.mask (Occ L) next y.1):=by
 intro n
 induction n with
 |zero=>
  intro p e fuel w hf
  cases w with
  |here hd ho=>
   obtain⟨f,rfl⟩:∃f,fuel=f+1:=⟨fuel-1,∅⟩
   left
   refine⟨?_,fun x hx _ hon=>?_⟩
   ·rw[probe.go,T.Kd ho,hd]
   ·rcases hon.inv with z|⟨a,_⟩
    ·exact ho (List.mem_map.mpr ⟨x,hx,z⟩)
    ·exact ho a
 |succ n ih=>
  intro p e fuel w hf
  obtain⟨f,rfl⟩:∃f,fuel=f+1:=⟨fuel-1,∅⟩
  cases w with
  |step hd ho w=>
   obtain⟨i,x,h1,h2⟩:=T.Pd ho
   have hlt:i<L.length:=by
    rcases lt_or_ge i L.length with z|z
    ·exact z
    ·rw[getElem?_eq_none z] at h2;cases h2
   have eh:hashAt i=x.1:=by rw[hh i hlt,hashOf,h2];rfl
   by_cases c:x.1=h
   ·right
    refine⟨i,(p.j,x),adv t.mask p,n,?_,h2,h1,c,Nat.lt_succ_self n,w,fun y hy _ hon=>?_⟩
    ·rw[probe.go,h1]
     show (if (hashAt i==h)=true then _ else _)=_
     rw[if_pos (by rw[eh,c];exact beq_self_eq_true h)]
     rfl
    ·rcases hon.inv with z|⟨_,b⟩
     ·left
      obtain⟨y1,y2⟩:=y
      cases z
      rw[T.uniq hy (mem_of_getElem? h2)]
     ·exact .inr b
   ·have e1:probe.go t hashAt h (f+1) p=probe.go t hashAt h f (adv t.mask p):=by
     rw[probe.go,h1]
     show (if (hashAt i==h)=true then _ else _)=_
     rw[if_neg (by rw[eh];simpa using c)]
     rfl
    have on_next:∀y∈L,y.2.1=h->On t.mask (Occ L) p y.1->On t.mask (Occ L) (adv t.mask p) y.1:=fun y hy ey hon=>by
     rcases hon.inv with z|⟨_,b⟩
     ·obtain⟨y1,y2⟩:=y
      cases z
      rw[T.uniq hy (mem_of_getElem? h2)] at ey
      exact absurd ey c
     ·exact b
    rw[e1]
    rcases ih (adv t.mask p) e f w ∅ with ⟨a,b⟩|⟨i',x',next,n',a1,a2,a3,a4,a5,a6,a7⟩
    ·exact .inl ⟨a,fun y hy ey hon=>b y hy ey (on_next y hy ey hon)⟩
    ·exact .inr ⟨i',x',next,n',a1,a2,a3,a4,∅,a6,fun y hy ey hon=>a7 y hy ey (on_next y hy ey hon)⟩
theorem Tab.fill{t:SetTable}{L:Ln β}(T:Tab t L):t.fill=L.length:=by
 unfold SetTable.fill
 rw[T.place,T.dum,size_toArray,length_map]
 rfl
theorem Tab.odd{t:SetTable}{L:Ln β}(T:Tab t L):t.mask % 2=1:=by
 obtain⟨k,h1,h2⟩:=T.two
 obtain⟨q,rfl⟩:∃q,k=q+1:=⟨k-1,∅⟩
 rw[pow_succ] at h1
 omega
theorem Tab.way{t:SetTable}{L:Ln β}(T:Tab t L)(hc:L.length<=t.mask)(h:Int):∃n e,Way t.mask (Occ L) (sth t.mask h) n e/\n<=10*(13+L.length)/\e<=t.mask:=by
 obtain⟨k,h1,h2⟩:=T.two
 have:=Lm h1 (O:=L.map (·.1)) (by rw[length_map];exact hc) h
 rw[length_map] at this
 exact this
theorem Tab.put{t:SetTable}{L:Ln β}(T:Tab t L){n e:Nat}{h:Int}{y:β}(w:Way t.mask (Occ L) (sth t.mask h) n e)(he:e<=t.mask) :
  ∃A B,L=A++B/\(t.put e).2=A.length/\Tab (t.put e).1 (A++(e,h,y)::B):=by
 obtain⟨A,B,rfl,h1,h2⟩:=Fe T.ris e
 have hb:=T.below h1 h2
 obtain⟨won,wno⟩:=w.on
 have h2':∀b∈B,e<b.1:=fun b hb=>by
  have:=h2 b hb
  have:b.1≠e:=fun z=>wno (List.mem_map.mpr ⟨b,mem_append_right _ hb,z⟩)
  omega
 have hp:(t.put e).1={t with place:=insertAt t.place A.length e}:=by
  unfold SetTable.put
  rw[hb]
  show {t with place:=insertAt t.place A.length e,dummies:=if has t.dummies e=true then eraseAt t.dummies (SetTable.below t.dummies e) else t.dummies} = _
  rw[T.dum,J8]
  rfl
 have oc:∀j,Occ (A++B) j->Occ (A++(e,h,y)::B) j:=fun j hj=>by
  unfold Occ at hj ⊢
  rw[map_append,mem_append] at hj
  rw[map_append,mem_append,map_cons,mem_cons]
  rcases hj with z|z
  ·exact .inl z
  ·exact .inr (.inr z)
 refine⟨A,B,rfl,hb,?_⟩
 rw[hp]
 exact {
  place:=by
   show insertAt t.place A.length e=_
   rw[T.place,map_append]
   have:=A9 (A.map (·.1)) (B.map (·.1)) e
   rw[length_map] at this
   rw[this,map_append]
   rfl
  ris:=by
   have r:=T.ris
   rw[List.pairwise_append] at r ⊢
   refine⟨r.1,List.pairwise_cons.mpr ⟨fun b hb=>h2' b hb,r.2.1⟩,fun a ha b hb=>?_⟩
   rcases List.mem_cons.mp hb with rfl|hb
   ·exact h1 a ha
   ·exact r.2.2 a ha b hb
  le:=fun x hx=>by
   rcases List.mem_append.mp hx with z|z
   ·exact T.le x (mem_append_left _ z)
   ·rcases List.mem_cons.mp z with rfl|z
    ·exact he
    ·exact T.le x (mem_append_right _ z)
  dum:=T.dum
  two:=T.two
  on:=fun x hx=>by
   rcases List.mem_append.mp hx with z|z
   ·exact (T.on x (mem_append_left _ z)).mono oc
   ·rcases List.mem_cons.mp z with rfl|z
    ·exact won.mono oc
    ·exact (T.on x (mem_append_right _ z)).mono oc}
end
end ST
namespace ST
open PySem PySem.SetTable
theorem LN{m:Nat}{O:Nat->Prop}{i pt:Nat}:∀(k more j:Nat),k<=more->(∀q,q<k->O (j+q))->On m O {j:=j,more:=more,i:=i,perturb:=pt,dummy:=none} (j+k)
 |0,more,j,_,_=>.here
 |k+1,more,j,hk,ho=>by
  have hm:more>0:=by omega
  refine .step (ho 0 ∅) ?_
  have:adv m {j:=j,more:=more,i:=i,perturb:=pt,dummy:=none} = {j:=j+1,more:=more-1,i:=i,perturb:=pt,dummy:=none}:=by
   unfold adv;exact if_pos hm
  rw[this]
  have e:j+(k+1)=j+1+k:=by omega
  rw[e]
  exact LN k (more-1) (j+1) ∅ fun q hq=>by
   have:=ho (q+1) ∅
   have e:j+1+q=j+(q+1):=by omega
   rw[e];exact this
theorem yA{m:Nat}{O:Nat->Prop}{i pt e:Nat}(w:On m O (st m (leap m i pt)) e):∀(more j:Nat),(∀q,q<=more->O (j+q))->On m O {j:=j,more:=more,i:=i,perturb:=pt,dummy:=none} e
 |0,j,ho=>.step (ho 0 (le_refl _)) w
 |more+1,j,ho=>by
  refine .step (ho 0 ∅) ?_
  exact yA w more (j+1) fun q hq=>by
   have:=ho (q+1) ∅
   have e:j+1+q=j+(q+1):=by omega
   rw[e];exact this
theorem Pl{m:Nat}{s:Nat×Nat}(h:s.1<=m):∀n,(lp m s n).1<=m
 |0=>h
 |n+1=>JW m _ _
theorem NC{m:Nat}{owner:Array (Option Nat)}{js:List Nat}(ho:∀j,j<=m->((owner.getD j (some 0)).isNone=true↔j ∉ js)){s:Nat×Nat}(hs:s.1<=m){L:Nat}(hL:(lp m s L).1 ∉ js) :
  ∀(d fuel:Nat),d<fuel->d<=L->∃e,layClean.free m owner fuel (lp m s (L-d)).1 (lp m s (L-d)).2=some e/\On m (·∈js) (st m (lp m s (L-d))) e/\e ∉ js/\e<=m:=by
 intro d
 induction d with
 |zero=>
  intro fuel hf hd
  obtain⟨f,rfl⟩:∃f,fuel=f+1:=⟨fuel-1,∅⟩
  have hi:=Pl hs L
  rw[layClean.free]
  have hr:=IG m (lp m s L).1
  have e1:(List.range (runEnd m (lp m s L).1+1-(lp m s L).1)).find? (fun k=>(owner.getD ((lp m s L).1+k) (some 0)).isNone)=some 0:=by
   rw[List.find?_range_eq_some]
   exact⟨(ho _ hi).mpr hL,List.mem_range.mpr ∅,fun j hj=>absurd hj (not_lt_zero j)⟩
  rw[Nat.sub_zero,e1]
  exact⟨_,rfl,.here,hL,hi⟩
 |succ d ih=>
  intro fuel hf hd
  obtain⟨f,rfl⟩:∃f,fuel=f+1:=⟨fuel-1,∅⟩
  have hi:=Pl hs (L-(d+1))
  obtain⟨e,a1,a2,a3,a4⟩:=ih f ∅ ∅
  have e1:L-d=(L-(d+1))+1:=by omega
  rw[e1] at a1 a2
  have hr:=IG m (lp m s (L-(d+1))).1
  have hin:=IB hi
  rw[layClean.free]
  cases q:(List.range (runEnd m (lp m s (L-(d+1))).1+1-(lp m s (L-(d+1))).1)).find? (fun k=>(owner.getD ((lp m s (L-(d+1))).1+k) (some 0)).isNone) with
  |some k=>
   rw[List.find?_range_eq_some] at q
   obtain⟨q1,q2,q3⟩:=q
   rw[List.mem_range] at q2
   refine⟨_,rfl,LN k _ _ ∅ fun z hz=>?_,(ho _ ∅).mp q1,∅⟩
   have h1:=q3 z hz
   have h2:=ho ((lp m s (L-(d+1))).1+z) ∅
   rw[Bool.not_eq_true'] at h1
   exact Classical.byContradiction fun w=>by rw[h2.mpr w] at h1;cases h1
  |none=>
   rw[List.find?_eq_none] at q
   refine⟨e,a1,yA a2 _ _ fun z hz=>?_,a3,a4⟩
   have h1:=q z (List.mem_range.mpr ∅)
   have h2:=ho ((lp m s (L-(d+1))).1+z) ∅
   exact Classical.byContradiction fun w=>h1 (h2.mpr w)
structure Own(m:Nat)(owner:Array (Option Nat))(js:List Nat)(hs:List Int):Prop where
 size:owner.size=m+1
 len:js.length=hs.length
 nd:js.Nodup
 le:∀j∈js,j<=m
 is:∀j i,owner.getD j none=some i↔js[i]? = some j
 on:∀(i j:Nat) (h:Int),js[i]? = some j->hs[i]? = some h->On m (·∈js) (sth m h) j
theorem Own.none{m:Nat}{owner:Array (Option Nat)}{js:List Nat}{hs:List Int}(w:Own m owner js hs){j:Nat}(hj:j<=m):(owner.getD j (some 0)).isNone=true↔j ∉ js:=by
 have hj':j<owner.size:=by rw[w.size];omega
 have e:owner.getD j (some 0)=owner.getD j .none:=by unfold Array.getD;rw[dif_pos hj',dif_pos hj']
 rw[e]
 constructor
 ·intro h z
  obtain⟨i,hi,rfl⟩:=List.getElem_of_mem z
  have:=(w.is js[i] i).mpr (getElem?_eq_getElem hi)
  rw[this] at h
  cases h
 ·intro h
  cases q:owner.getD j .none with
  |none=>rfl
  |some i=>exact absurd (mem_of_getElem? ((w.is j i).mp q)) h
def fld(m:Nat)(acc:Option (Array (Option Nat)×Nat))(h:Int):Option (Array (Option Nat)×Nat):=do
  let (owner,k) <- acc
  let j <- layClean.free m owner (turns m) (bits h % (m+1)) (bits h)
  pure (owner.setIfInBounds j (some k),k+1)
theorem Ms{m k:Nat}(hm:m+1=2 ^ k){owner:Array (Option Nat)}{js:List Nat}{hs:List Int}(w:Own m owner js hs)(hc:js.length<m)(h:Int) :
  ∃e,fld m (some (owner,js.length)) h=some (owner.setIfInBounds e (some js.length),js.length+1)/\Own m (owner.setIfInBounds e (some js.length)) (js++[e]) (hs++[h]):=by
 have hb:bits h % (m+1)<=m:=le_of_lt_succ (Nat.mod_lt _ (Nat.succ_pos m))
 obtain⟨L,h1,h2⟩:=BJ hm (O:=js) ∅ (bits h % (m+1),bits h) (I0 h)
 obtain⟨e,a1,a2,a3,a4⟩:=NC (fun j hj=>w.none hj) (s:=(bits h % (m+1),bits h)) hb h2 L (turns m) (by unfold turns;omega) (le_refl _)
 rw[Nat.sub_self] at a1 a2
 have he:e<owner.size:=by rw[w.size];omega
 refine⟨e,?_,?_⟩
 ·unfold fld
  show (do let j <- layClean.free m owner (turns m) (bits h % (m+1)) (bits h);pure (owner.setIfInBounds j (some js.length),js.length+1))=_
  have a1':layClean.free m owner (turns m) (bits h % (m+1)) (bits h)=some e:=a1
  rw[a1']
  rfl
 ·have sub:∀j,j∈js->j∈js++[e]:=fun j hj=>mem_append_left _ hj
  have gd:∀j,(owner.setIfInBounds e (some js.length)).getD j none=if j=e then some js.length else owner.getD j none:=fun j=>by
   rw[Array.getD_eq_getD_getElem?,Array.getD_eq_getD_getElem?,Array.getElem?_setIfInBounds]
   by_cases c:e=j
   ·rw[if_pos c,if_pos c.symm,if_pos he];rfl
   ·rw[if_neg c,if_neg (fun z=>c z.symm)]
  exact {
   size:=by rw[Array.size_setIfInBounds];exact w.size
   len:=by rw[length_append,length_append,w.len];rfl
   nd:=by
    rw[List.nodup_append]
    refine⟨w.nd,List.pairwise_singleton _ _,fun a ha b hb z=>?_⟩
    rw[mem_singleton] at hb
    subst hb;subst z;exact a3 ha
   le:=fun j hj=>by
    rcases List.mem_append.mp hj with z|z
    ·exact w.le j z
    ·rw[mem_singleton] at z;omega
   is:=fun j i=>by
    rw[gd]
    by_cases c:j=e
    ·subst c
     rw[if_pos rfl]
     constructor
     ·intro z;cases z
      rw[getElem?_append_right (le_refl _),Nat.sub_self];rfl
     ·intro z
      rcases lt_or_ge i js.length with y|y
      ·rw[getElem?_append_left y] at z
       exact absurd (mem_of_getElem? z) a3
      ·rw[getElem?_append_right y] at z
       cases d:i-js.length with
       |zero=>congr 1;omega
       |succ n=>rw[d] at z;simp at z
    ·rw[if_neg c,w.is]
     rcases lt_or_ge i js.length with y|y
     ·rw[getElem?_append_left y]
     ·rw[getElem?_append_right y,getElem?_eq_none y]
      constructor
      ·intro z;cases z
      ·intro z
       cases d:i-js.length with
       |zero=>rw[d] at z;simp at z;exact absurd z.symm c
       |succ n=>rw[d] at z;simp at z
   on:=fun i j h' z1 z2=>by
    rcases lt_or_ge i js.length with y|y
    ·rw[getElem?_append_left y] at z1
     rw[getElem?_append_left (by rw[<- w.len];exact y)] at z2
     exact (w.on i j h' z1 z2).mono sub
    ·rw[getElem?_append_right y] at z1
     rw[getElem?_append_right (by rw[<- w.len];exact y),<- w.len] at z2
     cases d:i-js.length with
     |zero=>
      rw[d] at z1 z2
      simp at z1 z2
      subst z1;subst z2
      exact a2.mono sub
     |succ n=>rw[d] at z1;simp at z1}
theorem JP{m k:Nat}(hm:m+1=2 ^ k):∀(rest:List Int) (owner:Array (Option Nat)) (js:List Nat) (hs:List Int),Own m owner js hs->js.length+rest.length<=m ->
  ∃owner' js',rest.foldl (fld m) (some (owner,js.length))=some (owner',js'.length)/\Own m owner' js' (hs++rest)
 |[],owner,js,hs,w,_=>⟨owner,js,rfl,by rw[append_nil];exact w⟩
 |h::rest,owner,js,hs,w,hc=>by
  rw[length_cons] at hc
  obtain⟨e,a1,a2⟩:=Ms hm w ∅ h
  obtain⟨owner',js',b1,b2⟩:=JP hm rest _ _ _ a2 (by rw[length_append,List.length_singleton];omega)
  refine⟨owner',js',?_,by rw[append_assoc] at b2;exact b2⟩
  rw[List.foldl_cons,a1]
  rw[length_append,List.length_singleton] at b1
  exact b1
theorem Kq(m:Nat):Own m (Array.replicate (m+1) none) [] [] where
 size:=Array.size_replicate
 len:=rfl
 nd:=List.Pairwise.nil
 le:=fun _ h=>by simp at h
 is:=fun j i=>by
  rw[Array.getD_eq_getD_getElem?,Array.getElem?_replicate]
  constructor
  ·intro z;split at z<;>cases z
  ·intro z;simp at z
 on:=fun i j h z _=>by simp at z
theorem GY{m k:Nat}(hm:m+1=2 ^ k)(hs:List Int)(hc:hs.length<=m):∃owner js,layClean m hs.toArray=some owner/\Own m owner js hs:=by
 obtain⟨owner,js,h1,h2⟩:=JP hm hs _ _ _ (Kq m) (by rw[length_nil,Nat.zero_add];exact hc)
 refine⟨owner,js,?_,h2⟩
 have h1':hs.foldl (fld m) (some (Array.replicate (m+1) none,0))=some (owner,js.length):=h1
 unfold layClean
 rw[List.foldl_toArray]
 show Option.map (·.1) (hs.foldl (fld m) (some (Array.replicate (m+1) none,0)))=_
 rw[h1']
 rfl
section
variable {β:Type}
theorem Mq{D:List (Int×β)}:∀(l:List (Nat×Nat)),(∀q∈l,q.2<D.length)->(l.filterMap fun q=>(D[q.2]?).map fun x=>(q.1,x)).map (·.1)=l.map (·.1) /\
  (l.filterMap fun q=>(D[q.2]?).map fun x=>(q.1,x)).map (·.2)=(l.map (·.2)).filterMap (D[·]?)
 |[],_=>⟨rfl,rfl⟩
 |q::l,h=>by
  obtain⟨h1,h2⟩:=Mq l fun q hq=>h q (mem_cons_of_mem _ hq)
  have hq:=h q (mem_cons_self ..)
  have e:D[q.2]? = some D[q.2]:=getElem?_eq_getElem hq
  constructor
  ·rw[List.filterMap_cons_some (b:=(q.1,D[q.2])) (by rw[e];rfl),map_cons,map_cons,h1]
  ·rw[List.filterMap_cons_some (b:=(q.1,D[q.2])) (by rw[e];rfl),map_cons,map_cons,h2,List.filterMap_cons_some e]
theorem NS{m k:Nat}(hm:m+1=2 ^ k)(hk:3<=k)(D:List (Int×β))(hc:D.length<=m)(fi mo:Nat)(led pl:Bool) :
  ∃(t:SetTable) (order:Array Nat) (L:Ln β),laid m fi mo led pl (D.toArray.map (·.1))=some (t,order)/\order.filterMap (D.toArray[·]?)=(L.map (·.2)).toArray/\Tab t L/\L.length=D.length/\(∀x,x∈L.map (·.2)↔x∈D)/\t.mask=m/\t.led=led/\t.plain=pl:=by
 obtain⟨owner,js,h1,w⟩:=GY hm (D.map (·.1)) (by rw[length_map];exact hc)
 have lj:js.length=D.length:=by rw[w.len,length_map]
 let live:=(List.range (m+1)).filterMap fun j=>(owner.getD j none).map (j,·)
 have mem_live:∀j i,(j,i)∈live↔js[i]? = some j:=fun j i=>by
  rw[List.mem_filterMap]
  constructor
  ·rintro ⟨a,_,e⟩
   cases q:owner.getD a none with
   |none=>rw[q] at e;cases e
   |some b=>rw[q] at e;cases e;exact (w.is _ _).mp q
  ·intro z
   refine⟨j,List.mem_range.mpr (Nat.lt_succ_of_le (w.le j (mem_of_getElem? z))),?_⟩
   rw[(w.is j i).mpr z]
   rfl
 have lt_live:∀q∈live,q.2<D.length:=fun q hq=>by
  have:=(mem_live q.1 q.2).mp hq
  rcases lt_or_ge q.2 js.length with z|z
  ·omega
  ·rw[getElem?_eq_none z] at this;cases this
 have ris_live:(live.map (·.1)).Pairwise (· < ·):=by
  refine List.pairwise_map.mpr (List.Pairwise.filterMap _ (fun a b hab x hx y hy=>?_) List.pairwise_lt_range)
  cases qa:owner.getD a none with
  |none=>rw[qa] at hx;cases hx
  |some i=>
   cases qb:owner.getD b none with
   |none=>rw[qb] at hy;cases hy
   |some i'=>rw[qa] at hx;rw[qb] at hy;cases hx;cases hy;exact hab
 have len_live:live.length=js.length:=by
  refine Nat.le_antisymm ?_ ?_
  ·have nd:(live.map fun q=>q.1).Nodup:=by
    unfold List.Nodup
    exact ris_live.imp fun {a b} (h:a<b)=>ne_of_lt h
   have:=pig _ js nd fun x hx=>by
    obtain⟨q,hq,rfl⟩:=List.mem_map.mp hx
    exact mem_of_getElem? ((mem_live q.1 q.2).mp hq)
   rw[length_map] at this
   exact this
  ·have:=pig js (live.map (·.1)) w.nd fun x hx=>by
    obtain⟨i,hi,rfl⟩:=List.getElem_of_mem hx
    exact List.mem_map.mpr ⟨(js[i],i),(mem_live _ _).mpr (getElem?_eq_getElem hi),rfl⟩
   rw[length_map] at this
   exact this
 let L:Ln β:=live.filterMap fun q=>(D[q.2]?).map fun x=>(q.1,x)
 obtain⟨f1,f2⟩:=Mq (D:=D) live lt_live
 have f1:L.map (·.1)=live.map (·.1):=f1
 have f2:L.map (·.2)=(live.map (·.2)).filterMap (D[·]?):=f2
 have mem_L:∀j x,(j,x)∈L↔∃i,js[i]? = some j/\D[i]? = some x:=fun j x=>by
  rw[List.mem_filterMap]
  constructor
  ·rintro ⟨q,hq,e⟩
   cases z:D[q.2]? with
   |none=>rw[z] at e;cases e
   |some y=>rw[z] at e;cases e;exact⟨q.2,(mem_live _ _).mp hq,z⟩
  ·rintro ⟨i,h1,h2⟩
   exact⟨(j,i),(mem_live j i).mpr h1,by rw[h2];rfl⟩
 have occ:∀j,j∈js->Occ L j:=fun j hj=>by
  unfold Occ
  rw[f1]
  obtain⟨i,hi,rfl⟩:=List.getElem_of_mem hj
  exact List.mem_map.mpr ⟨(js[i],i),(mem_live _ _).mpr (getElem?_eq_getElem hi),rfl⟩
 refine⟨{mask:=m,place:=(live.map (·.1)).toArray,dummies:=#[],finger:=fi,led:=led,moves:=mo,plain:=pl},(live.map (·.2)).toArray,L,?_,?_,?_,?_,?_,rfl,rfl,rfl⟩
 ·unfold laid
  have e:(D.toArray.map (·.1))=(D.map (·.1)).toArray:=by simp
  rw[e,h1]
  rfl
 ·rw[f2]
  simp
 ·exact {
   place:=by rw[f1]
   ris:=by
    have:=ris_live
    rw[<- f1] at this
    exact List.pairwise_map.mp this
   le:=fun x hx=>by
    obtain⟨i,h1,_⟩:=(mem_L x.1 x.2).mp hx
    exact w.le _ (mem_of_getElem? h1)
   dum:=rfl
   two:=⟨k,hm,hk⟩
   on:=fun x hx=>by
    obtain⟨i,h1,h2⟩:=(mem_L x.1 x.2).mp hx
    exact (w.on i x.1 x.2.1 h1 (by rw[getElem?_map,h2];rfl)).mono occ}
 ·rw[<- lj,<- len_live,<- length_map (f:=(·.1)) (as:=L),f1,length_map]
 ·intro x
  rw[mem_map]
  constructor
  ·rintro ⟨⟨j,y⟩,hy,rfl⟩
   obtain⟨i,_,h2⟩:=(mem_L j y).mp hy
   exact mem_of_getElem? h2
  ·intro hx
   obtain⟨i,hi,rfl⟩:=List.getElem_of_mem hx
   have hij:i<js.length:=by omega
   exact⟨(js[i],D[i]),(mem_L _ _).mpr ⟨i,getElem?_eq_getElem hij,getElem?_eq_getElem hi⟩,rfl⟩
end
theorem JB(n:Nat):∀(fuel k:Nat),∃q,sizeAbove.go n fuel (2 ^ k)=2 ^ q/\k<=q/\(n<2 ^ (k+fuel)->n<2 ^ q)/\(2 ^ q=2 ^ k\/2 ^ q<=2*n)
 |0,k=>⟨k,rfl,le_refl _,fun h=>h,.inl rfl⟩
 |fuel+1,k=>by
  rw[sizeAbove.go]
  by_cases c:2 ^ k<=n
  ·rw[if_pos c]
   obtain⟨q,h1,h2,h3,h4⟩:=JB n fuel (k+1)
   rw[<- pow_succ]
   refine⟨q,h1,∅,fun h=>h3 (by rw[Nat.add_assoc,Nat.add_comm 1 fuel];exact h),.inr ?_⟩
   rcases h4 with h4|h4
   ·rw[h4,pow_succ];omega
   ·exact h4
  ·rw[if_neg c]
   exact⟨k,rfl,le_refl _,fun _=>by omega,.inl rfl⟩
theorem OB(n:Nat)(h:n<2 ^ 60):∃k,sizeAbove n=2 ^ k/\3<=k/\n<2 ^ k/\(2 ^ k=8\/2 ^ k<=2*n):=by
 obtain⟨q,h1,h2,h3,h4⟩:=JB n 64 3
 exact⟨q,h1,h2,h3 (lt_of_lt_of_le h (Nat.pow_le_pow_right ⋯ ⋯)),h4⟩
end ST
set_option maxHeartbeats 1000000
namespace ST
open PySem PySem.SetTable
section
variable {prog:Program}{w:World}{K:Type}[DecidableEq K]{knd:KeyKind prog w K}
variable {A:Around}{E:Value->Shared->Prop}{s:Shared}
theorem G3{ks:List K}{a:Addr}{Q:Bool->Shared->Prop}(hk:IsTupleKey knd s.heap ks a)(h:Q false s):wpAny (model prog w) A (ofAClassStatement 8 (.ref a)) Q E s:=by
 have hT:=hk.typeIs
 obtain⟨o,items,n,ho,_,hd,hi⟩:=hk
 unfold ofAClassStatement
 refine wpAny_bind (wpAny_typeOf hT ?_)
 dsimp only
 rw[if_pos ⋯]
 refine wpAny_bind (wpAny_pure ?_)
 simp only[Bool.not_true,false_eq_true,if_false]
 refine wpAny_bind (wpAny_seqItems ho hd ?_)
 refine wpAny_bind ?_
 show wpAny _ _ (forIn items _ _) _ _ s
 rw[<- Array.forIn_toList]
 refine wpAny_forIn_list _ (fun rest r s'=>r.1=none/\s'=s/\∀v∈rest,carriedByValue v=true) _ ?_ ?_ _ _ ⟨rfl,rfl,hi.byValue⟩
 ·rintro v rest r s' ⟨hr,rfl,hall⟩
  have e:ofAClassStatement 7 v=pure false:=by
   have:=hall v mem_cons_self
   cases v with
   |ref a=>simp[carriedByValue] at this
   |_=>first|rfl|simp[ofAClassStatement]|(unfold ofAClassStatement;rfl)
  rw[e]
  refine wpAny_bind (wpAny_pure ?_)
  simp only[false_eq_true,if_false]
  exact wpAny_pure ⟨rfl,rfl,fun u hu'=>hall u (mem_cons_of_mem _ hu')⟩
 ·rintro ⟨r1,r2⟩ s' ⟨hr,rfl,_⟩
  simp only at hr
  subst hr
  exact wpAny_pure h
theorem MV{k:List K}{q:Addr}(hk:IsTupleKey knd s.heap k q)(stored:List Value)(hs:∀v∈stored,∃k' q',v = .ref q'/\IsTupleKey knd s.heap k' q'){Q:Bool->Shared->Prop}(h:Q false s) :
  wpAny (model prog w) A (searchCouldBeSeen (.ref q) stored) Q E s:=by
 unfold searchCouldBeSeen
 refine wpAny_bind ?_
 refine wpAny_forIn_list _ (fun rest r s'=>r.1=none/\s'=s/\∀v∈rest,∃k' q',v = .ref q'/\IsTupleKey knd s.heap k' q') _ ?_ ?_ _ _ ⟨rfl,rfl,hs⟩
 ·rintro v rest r s' ⟨hr,rfl,hall⟩
  obtain⟨k',q',rfl,hk'⟩:=hall v mem_cons_self
  have up:∀v∈rest,∃k' q',v = .ref q'/\IsTupleKey knd s'.heap k' q':=fun u hu'=>hall u (mem_cons_of_mem _ hu')
  dsimp only
  split
  ·exact wpAny_pure ⟨rfl,rfl,up⟩
  ·refine wpAny_bind (wpAny_eqIsQuiet_tuple hk ?_)
   simp only[Bool.not_true,false_eq_true,if_false]
   refine wpAny_bind (wpAny_eqIsQuiet_tuple hk' ?_)
   simp only[Bool.not_true,false_eq_true,if_false]
   refine wpAny_bind (G3 hk ?_)
   simp only[false_eq_true,if_false]
   refine wpAny_bind (G3 hk' ?_)
   simp only[false_eq_true,if_false]
   exact wpAny_pure ⟨rfl,rfl,up⟩
 ·rintro ⟨r1,r2⟩ s' ⟨hr,rfl,_⟩
  simp only at hr
  subst hr
  exact wpAny_pure h
noncomputable def Ent(knd:KeyKind prog w K)(h:Heap)(x:Nat×Int×Value)(k:List K):Prop:=∃q,x.2.2 = .ref q/\IsTupleKey knd h k q/\x.2.1=tupleKeyHash knd k
theorem Ent.inj{h:Heap}{x:Nat×Int×Value}{k k':List K}(a:Ent knd h x k)(b:Ent knd h x k'):k=k':=by
 obtain⟨q,a1,a2,_⟩:=a
 obtain⟨q',b1,b2,_⟩:=b
 rw[a1] at b1;cases b1
 exact a2.inj b2
theorem fits_of{t:SetTable}{L:Ln Value}(T:Tab t L)(hc:L.length<=t.mask):t.fits (L.map (·.2)).toArray.size=true:=by
 unfold SetTable.fits
 rw[T.fill,T.place]
 simp[hc]
theorem GK{a:Addr}{o:Obj}{L:Ln Value}{ep:Nat}{t:SetTable}(hA:A.units<cLine)(ho:s.heap.get? a=some o)(hd:o.data = .set (L.map (·.2)).toArray ep t)(T:Tab t L)(hc:L.length<=t.mask)
  (hL:∀x∈L,∃k,Ent knd s.heap x k) {k:List K} {q:Addr} (hk:IsTupleKey knd s.heap k q) {adding:Bool} {e:Nat} {Q:SetFound->Shared->Prop}
  (yes:(∃x∈L,Ent knd s.heap x k)->∀r,(adding=false->r.isSome=true)->Q (.there r) s) (no:(∀x∈L,¬ Ent knd s.heap x k)->Q (.free e false) s) :
  ∀(n fuel:Nat) (stand:Option Probe),Way t.mask (Occ L) (stand.getD (t.probeStart (tupleKeyHash knd k))) n e->n<fuel->n<10*turns t.mask ->
   (∀y∈L,Ent knd s.heap y k->On t.mask (Occ L) (stand.getD (t.probeStart (tupleKeyHash knd k))) y.1) ->
   wpAny (model prog w) A (setSearchFrom a (.ref q) (tupleKeyHash knd k) adding fuel stand) Q E s:=by
 intro n
 induction n using Nat.strongRecOn with
 |_ n ih=>
  intro fuel stand wy hf hf2 hon
  obtain⟨f,rfl⟩:∃f,fuel=f+1:=⟨fuel-1,∅⟩
  have hfit:=fits_of T hc
  unfold setSearchFrom
  refine wpAny_bind (wpAny_setState_of ho hd hfit ?_)
  dsimp only
  have hgw:t.gaveWay=false:=by
   unfold SetTable.gaveWay
   rw[T.odd]
   rfl
  rw[hgw]
  simp only[false_eq_true,if_false]
  have hp:=M3 T (hashAt:=fun i=>(((L.map (·.2)).toArray)[i]?.map (·.1)).getD 0) (fun i hi=>by
   unfold hashOf
   simp
   rfl) (tupleKeyHash knd k) n _ e (10*turns t.mask) wy hf2
  rcases hp with ⟨g1,g2⟩|⟨i,x,next,n',g1,g2,g3,g4,g5,g6,g7⟩
  ·refine (show wpAny (model prog w) A (match t.probe (fun i=>(((L.map (·.2)).toArray)[i]?.map (·.1)).getD 0) (tupleKeyHash knd k) (stand.getD (t.probeStart (tupleKeyHash knd k))) with|some met=>_|_=>_) Q E s from ?_)
   unfold probe
   rw[g1]
   refine wpAny_pure (no fun x hx z=>?_)
   obtain⟨_,_,_,z3⟩:=id z
   exact g2 x hx z3 (hon x hx z)
  ·refine (show wpAny (model prog w) A (match t.probe (fun i=>(((L.map (·.2)).toArray)[i]?.map (·.1)).getD 0) (tupleKeyHash knd k) (stand.getD (t.probeStart (tupleKeyHash knd k))) with|some met=>_|_=>_) Q E s from ?_)
   unfold probe
   rw[g1]
   dsimp only
   obtain⟨k',hk'⟩:=hL x (mem_of_getElem? g2)
   obtain⟨q',e1,e2,e3⟩:=id hk'
   have hes:(L.map (·.2)).toArray[i]? = some (x.2.1,.ref q'):=by
    rw[List.getElem?_toArray,getElem?_map,g2,<- e1]
    rfl
   have go:wpAny (model prog w) A (do
     let some (_,y):=((L.map (·.2)).toArray)[i]?|unsupported "internal:set-entry"
     let equal <- holding [y] (eqBool y (.ref q))
     let (es',_,t') <- setState a
     if adding&&equal then return .there none
     let some same:=t'.sameMemory t.moves t.mask|unsupported "set.changed-during-lookup:is-the-new-block-at-the-old-address"
     let still <- match (if same then t'.slot x.1 else .empty) with
      |.live i'=>match es'[i']? with
       |some (_,y')=>do pure (if <- isSame y' y then some i' else none)
       |none=>pure none
      |_=>pure none
     match still with
     |none=>rule "set.search.anew";setSearchFrom a (.ref q) (tupleKeyHash knd k) adding f none
     |some i'=>if equal then return .there (some i') else setSearchFrom a (.ref q) (tupleKeyHash knd k) adding f (some next)) Q E s:=by
    rw[hes]
    dsimp only
    refine wpAny_bind (wpAny_holding (wpAny_eqBool_tuple hA e2 hk ?_))
    refine wpAny_bind (wpAny_setState_of ho hd hfit ?_)
    dsimp only
    have sm:t.sameMemory t.moves t.mask=some true:=by
     unfold sameMemory
     rw[if_pos (beq_self_eq_true _)]
    by_cases c:k'=k
    ·subst c
     have hex:∃x∈L,Ent knd s.heap x k':=⟨x,mem_of_getElem? g2,hk'⟩
     rw[decide_eq_true rfl]
     cases adding with
     |true=>exact wpAny_pure (yes hex none fun z=>nomatch z)
     |false=>
      simp only[Bool.false_and,false_eq_true,if_false]
      rw[sm]
      dsimp only
      rw[if_pos rfl,g3]
      dsimp only
      rw[hes]
      dsimp only
      refine wpAny_bind (wpAny_isSame_ref_self (wpAny_bind (wpAny_pure ?_)))
      rw[if_pos rfl]
      dsimp only
      rw[if_pos trivial]
      exact wpAny_pure (yes hex _ fun _=>rfl)
    ·rw[decide_eq_false c]
     simp only[Bool.and_false,false_eq_true,if_false]
     rw[sm]
     dsimp only
     rw[if_pos rfl,g3]
     dsimp only
     rw[hes]
     dsimp only
     refine wpAny_bind (wpAny_isSame_ref_self (wpAny_bind (wpAny_pure ?_)))
     rw[if_pos rfl]
     dsimp only
     refine ih n' g5 f (some next) g6 ∅ ∅ fun y hy hyk=>?_
     obtain⟨_,_,_,z3⟩:=id hyk
     rcases g7 y hy z3 (hon y hy hyk) with z|z
     ·subst z
      exact absurd (hk'.inj hyk) c
     ·exact z
   cases hl:t.led with
   |true=>
    simp only[Bool.not_true,false_eq_true,if_false]
    exact go
   |false=>
    simp only[Bool.not_false,if_true]
    refine wpAny_bind (MV hk _ (fun v hv=>?_) ?_)
    ·obtain⟨y,hy,rfl⟩:=List.mem_map.mp hv
     have hy1:y∈L.map (·.2):=by
      have:=Array.mem_toList_iff.mp hy
      rw[Array.mem_filter] at this
      simpa using this.1
     obtain⟨x',hx',rfl⟩:=List.mem_map.mp hy1
     obtain⟨k'',q'',b1,b2,_⟩:=hL x' hx'
     exact⟨k'',q'',b1,b2⟩
    ·simp only[false_eq_true,if_false]
     exact go
end
end ST
namespace ST
open PySem PySem.SetTable
noncomputable def Eu(h:Heap)(a:Addr)(L:Ln Value):Prop:=∃o ep t,h.get? a=some o/\o.ExactSet/\o.data = .set (L.map (·.2)).toArray ep t/\Tab t L/\L.length*5<t.mask*3
section
variable {prog:Program}{w:World}{K:Type}[DecidableEq K]{knd:KeyKind prog w K}
variable {A:Around}{E:Value->Shared->Prop}{s:Shared}
theorem Bw{a:Addr}{o:Obj}{L:Ln Value}{ep:Nat}{t:SetTable}(hA:A.units<cLine)(ho:s.heap.get? a=some o)(hd:o.data = .set (L.map (·.2)).toArray ep t)(T:Tab t L)(hc:L.length<=t.mask)
  (hL:∀x∈L,∃k,Ent knd s.heap x k) (hb:L.length<=9900) {k:List K} {q:Addr} (hk:IsTupleKey knd s.heap k q) {adding:Bool} {Q:SetFound->Shared->Prop}
  (yes:(∃x∈L,Ent knd s.heap x k)->∀r,(adding=false->r.isSome=true)->Q (.there r) s)
  (no:(∀x∈L,¬ Ent knd s.heap x k)->∀n e,Way t.mask (Occ L) (sth t.mask (tupleKeyHash knd k)) n e->e<=t.mask->Q (.free e false) s) :
  wpAny (model prog w) A (setSearch a (.ref q) (tupleKeyHash knd k) adding) Q E s:=by
 obtain⟨n,e,wy,hn,he⟩:=T.way hc (tupleKeyHash knd k)
 refine GK hA ho hd T hc hL hk yes (fun z=>no z n e wy he) n 100000 none wy ∅ (by unfold turns;omega) fun y hy hyk=>?_
 obtain⟨_,_,_,z3⟩:=hyk
 have:=T.on y hy
 rw[z3] at this
 exact this
theorem Jr(q:Addr)(es:Array (Int×Value)):byScan (.ref q) es=false:=rfl
theorem FD{a:Addr}{L:Ln Value}(hA:A.units<cLine)(S:Eu s.heap a L)(hL:∀x∈L,∃k,Ent knd s.heap x k)(hb:L.length<=9900){k:List K}{q:Addr}(hk:IsTupleKey knd s.heap k q){Q:Bool->Shared->Prop}
  (h:∀b:Bool,(b=true↔∃x∈L,Ent knd s.heap x k)->Q b {s with toks:=s.toks+(k.length+1)}):wpAny (model prog w) A (setContains a (.ref q)) Q E s:=by
 obtain⟨o,ep,t,ho,hex,hd,T,hr⟩:=S
 unfold setContains
 refine wpAny_holding (wpAny_bind (wpAny_pyHash_tuple hA hk (wpAny_bind ?_)))
 have hc:L.length<=t.mask:=by omega
 unfold setFind setFindIn
 refine wpAny_bind (wpAny_setState_of (s:={s with toks:=s.toks+(k.length+1)}) ho hd (fits_of T hc) ?_)
 dsimp only
 rw[Jr]
 simp only[false_eq_true,if_false]
 refine wpAny_bind (Bw (s:={s with toks:=s.toks+(k.length+1)}) hA ho hd T hc hL hb hk (fun z r hr=>?_) fun z n e _ _=>?_)
 ·refine wpAny_pure (wpAny_pure (h _ ⟨fun _=>z,fun _=>hr rfl⟩))
 ·refine wpAny_pure (wpAny_pure (h _ ⟨fun w=>(nomatch w),fun ⟨x,hx,hx2⟩=>absurd hx2 (z x hx)⟩))
theorem Mm{ks:List K}{a:Addr}{Q:Bool->Shared->Prop}(hk:IsTupleKey knd s.heap ks a)(h:∀b,Q b s):wpAny (model prog w) A (hashByValue 8 (.ref a)) Q E s:=by
 have hT:=hk.typeIs
 obtain⟨o,items,n,ho,_,hd,hi⟩:=hk
 unfold hashByValue
 refine wpAny_bind (wpAny_specialOf hT F.slot_tuple_hash.lookup ?_)
 dsimp only
 refine wpAny_bind (wpAny_seqItems ho hd ?_)
 refine wpAny_bind ?_
 show wpAny _ _ (forIn items _ _) _ _ s
 rw[<- Array.forIn_toList]
 refine wpAny_forIn_list _ (fun rest r s'=>r.1=none/\s'=s/\∀v∈rest,carriedByValue v=true) _ ?_ ?_ _ _ ⟨rfl,rfl,hi.byValue⟩
 ·rintro v rest r s' ⟨hr,rfl,hall⟩
  have e:∃b,hashByValue 7 v=pure b:=by
   have:=hall v mem_cons_self
   cases v with
   |ref a=>simp[carriedByValue] at this
   |_=>exact⟨_,rfl⟩
  obtain⟨b,e⟩:=e
  rw[e]
  refine wpAny_bind (wpAny_pure ?_)
  cases b with
  |true=>
   simp only[Bool.not_true,false_eq_true,if_false]
   exact wpAny_pure ⟨rfl,rfl,fun u hu'=>hall u (mem_cons_of_mem _ hu')⟩
  |false=>
   simp only[Bool.not_false,if_true]
   exact wpAny_pure (wpAny_pure (h _))
 ·rintro ⟨r1,r2⟩ s' ⟨hr,rfl,_⟩
  simp only at hr
  subst hr
  exact wpAny_pure (h _)
theorem Tab.plain{t:SetTable}{L:Ln Value}(T:Tab t L)(b:Bool):Tab {t with plain:=b} L:=⟨T.place,T.ris,T.le,T.dum,T.two,T.on⟩
theorem Ba{h:Heap}{a:Addr}{o:Obj}{es:Array (Int×Value)}{ep:Nat}{t:SetTable}(ho:h.get? a=some o)(hd:o.data = .set es ep t)(es':Array (Int×Value))(t':SetTable) :
  (h.update a (Obj.putSet es' t')).get? a=some {o with data:=.set es' (ep+1) t'}:=by
 have:=Heap.get?_update_self (Obj.putSet es' t') ho (by rw[putSet_of es' t' hd];rfl)
 rw[putSet_of es' t' hd] at this;exact this
theorem LY{a:Addr}{o:Obj}{L:Ln Value}{ep:Nat}{t:SetTable}(ho:s.heap.get? a=some o)(hex:o.ExactSet)(hd:o.data = .set (L.map (·.2)).toArray ep t)(T:Tab t L)(hc:L.length<=t.mask)(h0:0<L.length)(hb:L.length<=9900)
  {Q:Unit->Shared->Prop} (h:∀h' L',Heap.SameBut a s.heap h'->Eu h' a L'->L'.length=L.length->(∀y,y∈L'.map (·.2)↔y∈L.map (·.2))->Q () {s with heap:=h'}) :
  wpAny (model prog w) A (setRelay a (SetTable.grown L.length)) Q E s:=by
 have eg:SetTable.grown L.length=L.length*4:=by
  unfold SetTable.grown
  rw[if_neg ∅]
 rw[eg]
 obtain⟨k,k1,k2,k3,k4⟩:=OB (L.length*4) (Nat.lt_of_le_of_lt (show L.length*4<=40000 by omega) ⋯)
 have hk8:2 ^ 3<=2 ^ k:=Nat.pow_le_pow_right (show 2>0 by decide) k2
 have hm:(SetTable.sizeAbove (L.length*4)-1)+1=2 ^ k:=by rw[k1];omega
 have hD:(L.map (·.2)).length=L.length:=length_map ..
 obtain⟨t',order,L',l1,l2,l3,l4,l5,l6,_,_⟩:=NS (β:=Value) hm k2 (L.map (·.2)) (by rw[hD,k1];omega) t.finger (t.movedTo (SetTable.sizeAbove (L.length*4)-1)) t.led t.plain
 rw[hD] at l4
 unfold setRelay
 refine wpAny_bind (wpAny_setState_of ho hd (fits_of T hc) ?_)
 dsimp only
 rw[if_neg (by rw[k1,sizeLine_eq];omega)]
 have er:t.relaid ((L.map (·.2)).toArray.map (·.1)) (L.length*4)=some (t',order):=l1
 rw[er]
 refine wpAny_bind ?_
 show wpAny _ _ (if ((order.filterMap ((L.map (·.2)).toArray[·]?)).size != (L.map (·.2)).toArray.size)=true then _ else _) _ _ s
 rw[l2]
 have e0:((L'.map (·.2)).toArray.size != (L.map (·.2)).toArray.size)=false:=by simp[l4]
 rw[e0]
 simp only[false_eq_true,if_false]
 refine wpAny_pure ?_
 dsimp only
 refine wpAny_storeSet_of ho hd ?_ (by rw[size_toArray,length_map,l4,sizeLine_eq];omega)
 exact h _ L' (Heap.SameBut.update s.heap a _) ⟨_,_,t',Ba ho hd _ _,hex,rfl,l3,by rw[l4,l6,k1];omega⟩ l4 l5
theorem RP{a:Addr}{L:Ln Value}(hA:A.units<cLine)(S:Eu s.heap a L)(hL:∀x∈L,∃k,Ent knd s.heap x k)(hb:L.length<=9800){k:List K}{q:Addr}(hk:IsTupleKey knd s.heap k q){Q:Bool->Shared->Prop}
  (yes:(∃x∈L,Ent knd s.heap x k)->Q false {s with toks:=s.toks+(k.length+1)})
  (no:(∀x∈L,¬ Ent knd s.heap x k)->∀h' L',Heap.SameBut a s.heap h'->Eu h' a L'->L'.length=L.length+1->(∀y,y∈L'.map (·.2)↔y∈L.map (·.2)\/y=(tupleKeyHash knd k,.ref q)) ->
   Q true {s with heap:=h',toks:=s.toks+(k.length+1)}):wpAny (model prog w) A (setAdd a (.ref q)) Q E s:=by
 obtain⟨o,ep,t,ho,hex,hd,T,hr⟩:=S
 have hc:L.length<=t.mask:=by omega
 unfold setAdd
 refine wpAny_holding (wpAny_bind (wpAny_pyHash_tuple hA hk ?_))
 unfold setAddHashed
 refine wpAny_holding ?_
 unfold setAddHashedIn
 refine wpAny_bind (wpAny_setState_of (s:={s with toks:=s.toks+(k.length+1)}) ho hd (fits_of T hc) ?_)
 dsimp only
 rw[Jr]
 simp only[false_eq_true,if_false]
 refine wpAny_bind (Bw (s:={s with toks:=s.toks+(k.length+1)}) hA ho hd T hc hL ∅ hk (fun z r hr=>?_) fun z n e wy he=>?_)
 ·exact wpAny_pure (yes z)
 ·dsimp only
  refine wpAny_bind (wpAny_setState_of (s:={s with toks:=s.toks+(k.length+1)}) ho hd (fits_of T hc) ?_)
  dsimp only
  obtain⟨B1,B2,rfl,p1,p2⟩:=T.put (y:=Value.ref q) wy he
  have mk:(t.put e).1.mask=t.mask:=rfl
  rw[p1]
  have ees:insertAt ((B1++B2).map (·.2)).toArray B1.length (tupleKeyHash knd k,Value.ref q)=((B1++(e,tupleKeyHash knd k,Value.ref q)::B2).map (·.2)).toArray:=by
   rw[map_append,map_append]
   have:=A9 (B1.map (·.2)) (B2.map (·.2)) (tupleKeyHash knd k,Value.ref q)
   rw[length_map] at this
   exact this
  have len1:(B1++(e,tupleKeyHash knd k,Value.ref q)::B2).length=(B1++B2).length+1:=by simp;omega
  have mem1:∀y,y∈(B1++(e,tupleKeyHash knd k,Value.ref q)::B2).map (·.2)↔y∈(B1++B2).map (·.2)\/y=(tupleKeyHash knd k,.ref q):=fun y=>by
   rw[map_append,map_append,mem_append,mem_append,map_cons,mem_cons]
   constructor
   ·rintro (z|z|z)
    ·exact .inl (.inl z)
    ·exact .inr z
    ·exact .inl (.inr z)
   ·rintro ((z|z)|z)
    ·exact .inl z
    ·exact .inr (.inr z)
    ·exact .inr (.inl z)
  have tail:∀(t1:SetTable),Tab t1 (B1++(e,tupleKeyHash knd k,Value.ref q)::B2)->t1.mask=t.mask->wpAny (model prog w) A (do
    storeSet a (insertAt ((B1++B2).map (·.2)).toArray B1.length (tupleKeyHash knd k,Value.ref q)) t1
    if (!false&&t1.tooFull)=true then do
     setRelay a (SetTable.grown (((B1++B2).map (·.2)).toArray.size+1))
     pure true
    else pure true) Q E {s with toks:=s.toks+(k.length+1)}:=by
   intro t1 T1 m1
   rw[ees]
   have hs1:((B1++(e,tupleKeyHash knd k,Value.ref q)::B2).map (·.2)).toArray.size<=sizeLine:=by
    rw[size_toArray,length_map,len1,sizeLine_eq];omega
   refine wpAny_bind (wpAny_storeSet_of (s:={s with toks:=s.toks+(k.length+1)}) ho hd ?_ hs1)
   have ho1:=Ba ho hd ((B1++(e,tupleKeyHash knd k,Value.ref q)::B2).map (·.2)).toArray t1
   have sb1:=Heap.SameBut.update s.heap a (Obj.putSet ((B1++(e,tupleKeyHash knd k,Value.ref q)::B2).map (·.2)).toArray t1)
   have esz:((B1++B2).map (·.2)).toArray.size+1=(B1++(e,tupleKeyHash knd k,Value.ref q)::B2).length:=by
    rw[len1,size_toArray,length_map]
   rw[esz]
   by_cases tf:t1.tooFull=true
   ·rw[tf]
    rw[if_pos (by rfl)]
    refine wpAny_bind (LY (s:={s with heap:=_,toks:=s.toks+(k.length+1)}) ho1 hex rfl T1 (by rw[len1,m1];omega) ∅ ∅ fun h' L' c1 c2 c3 c4=>?_)
    exact wpAny_pure (no z h' L' (sb1.trans c1) c2 (c3.trans len1) fun y=>(c4 y).trans (mem1 y))
   ·rw[if_neg (by simpa using tf)]
    refine wpAny_pure (no z _ _ sb1 ⟨_,_,t1,ho1,hex,rfl,T1,?_⟩ len1 mem1)
    unfold tooFull at tf
    rw[T1.fill] at tf
    simpa using tf
  by_cases pl:(t.put e).1.plain=true
  ·rw[if_pos pl]
   refine wpAny_bind (Mm (s:={s with toks:=s.toks+(k.length+1)}) hk fun b=>?_)
   cases b with
   |true=>exact tail _ p2 rfl
   |false=>exact tail _ (p2.plain false) rfl
  ·rw[if_neg pl]
   refine wpAny_bind (wpAny_pure ?_)
   exact tail _ p2 rfl
end
end ST
set_option maxHeartbeats 4000000
namespace NM
@[irreducible] def Sz (n:Nat) (i:Int):Prop:=i.natAbs<2 ^ n
theorem Sz.mono{n m:Nat}{i:Int}(h:Sz n i)(l:n<=m):Sz m i:=by unfold Sz at *;exact lt_of_lt_of_le h (Nat.pow_le_pow_right ⋯ l)
theorem Sz.mul{n m:Nat}{i j:Int}(h:Sz n i)(g:Sz m j):Sz (n+m) (i*j):=by
 unfold Sz at *
 rw[natAbs_mul,Nat.pow_add]
 exact Nat.mul_lt_mul'' h g
theorem Sz.add{n:Nat}{i j:Int}(h:Sz n i)(g:Sz n j):Sz (n+1) (i+j):=by
 unfold Sz at *
 have:=Int.natAbs_add_le i j
 rw[pow_succ]
 omega
theorem Sz.neg{n:Nat}{i:Int}(h:Sz n i):Sz n (-i):=by unfold Sz at *;rw[Int.natAbs_neg];exact h
theorem Sz.sub{n:Nat}{i j:Int}(h:Sz n i)(g:Sz n j):Sz (n+1) (i-j):=by rw[Int.sub_eq_add_neg];exact h.add g.neg
theorem Sz.le{n:Nat}{i j:Int}(h:Sz n i)(g:j.natAbs<=i.natAbs):Sz n j:=by unfold Sz at *;exact Nat.lt_of_le_of_lt g h
theorem Sz.of{n:Nat}{i:Int}(h:i.natAbs<2 ^ n):Sz n i:=by unfold Sz;exact h
theorem Sz.lt{n:Nat}{i:Int}(h:Sz n i):i.natAbs<2 ^ n:=by unfold Sz at h;exact h
def g3(a b c:Int):Nat:=Int.gcd (Int.gcd a b:Nat) c
theorem O2(a b c:Int):Int.gcd (Int.gcd c a:Nat) b=g3 a b c:=by
 unfold g3
 simp only[Int.gcd,Int.natAbs_natCast]
 rw[Nat.gcd_assoc,Nat.gcd_comm]
theorem Md(a b c:Int):((g3 a b c:Nat):Int) ∣ a/\((g3 a b c:Nat):Int) ∣ b/\((g3 a b c:Nat):Int) ∣ c:=by
 have h:((g3 a b c:Nat):Int) ∣ ((Int.gcd a b:Nat):Int):=Int.gcd_dvd_left ..
 exact⟨Int.dvd_trans h (Int.gcd_dvd_left ..),Int.dvd_trans h (Int.gcd_dvd_right ..),Int.gcd_dvd_right ..⟩
theorem QN{a b c:Int}{k:Nat}(h1:(k:Int) ∣ a)(h2:(k:Int) ∣ b)(h3:(k:Int) ∣ c):k ∣ g3 a b c:=by
 unfold g3
 exact Int.dvd_gcd (Int.natCast_dvd_natCast.mpr (Int.dvd_gcd h1 h2)) h3
theorem Em{a b c:Int}(h:c≠0):0<g3 a b c:=by
 unfold g3
 exact Int.gcd_pos_of_ne_zero_right _ h
theorem Nh(a b c k:Int):g3 (a*k) (b*k) (c*k)=g3 a b c*k.natAbs:=by
 unfold g3
 simp only[Int.gcd,Int.natAbs_natCast,natAbs_mul,Nat.gcd_mul_right]
theorem Ma(a b c:Int):g3 a (-b) c=g3 a b c:=by
 unfold g3
 rw[Int.gcd_neg]
theorem Ly(a b c:Int):g3 (-a) b c=g3 a b c:=by
 unfold g3
 rw[Int.neg_gcd]
structure N3 where
 a:Int
 b:Int
 c:Int
deriving DecidableEq
theorem N3.ext'{x y:N3}(h1:x.a=y.a)(h2:x.b=y.b)(h3:x.c=y.c):x=y:=by cases x;cases y;simp_all
structure Ok(x:N3):Prop where
 c:0<x.c
 g:g3 x.a x.b x.c=1
def dv(a b c:Int):Int:=if c<0 then -(g3 a b c:Nat) else (g3 a b c:Nat)
def low(a b c:Int):N3:=⟨a.fdiv (dv a b c),b.fdiv (dv a b c),c.fdiv (dv a b c)⟩
theorem Dv{a k q:Int}(hk:k≠0)(h:a=k*q):a.fdiv k=q:=by
 subst h
 exact Int.mul_fdiv_cancel_left q hk
theorem SR{a b c:Int}(h:c≠0):dv a b c≠0:=by
 have:=Em (a:=a) (b:=b) h
 unfold dv
 split<;>omega
theorem Q3(a b c:Int):dv a b c ∣ a/\dv a b c ∣ b/\dv a b c ∣ c:=by
 obtain⟨h1,h2,h3⟩:=Md a b c
 unfold dv
 split
 ·exact⟨Int.neg_dvd.mpr h1,Int.neg_dvd.mpr h2,Int.neg_dvd.mpr h3⟩
 ·exact⟨h1,h2,h3⟩
theorem pA(a b:Int){c:Int}(h:c≠0):∃k:Int,k≠0/\(0<k↔0<c)/\a=k*(low a b c).a/\b=k*(low a b c).b/\c=k*(low a b c).c/\Ok (low a b c):=by
 have hk:=SR (a:=a) (b:=b) h
 obtain⟨⟨p,hp⟩,⟨q,hq⟩,⟨r,hr⟩⟩:=Q3 a b c
 have ep:(low a b c).a=p:=Dv hk hp
 have eq:(low a b c).b=q:=Dv hk hq
 have er:(low a b c).c=r:=Dv hk hr
 have hg:=Em (a:=a) (b:=b) h
 have hs:0<dv a b c↔0<c:=by unfold dv;split<;>omega
 have hr0:0<r:=by
  have hr':r≠0:=fun z=>h (by rw[hr,z,Int.mul_zero])
  rcases Int.lt_trichotomy 0 (dv a b c) with z|z|z
  ·have:=hs.mp z
   rw[hr] at this
   rw[Int.mul_comm] at this
   exact Int.pos_of_mul_pos_left this z |> fun t=>t
  ·exact absurd z.symm hk
  ·have:c<0:=by omega
   rcases Int.lt_trichotomy 0 r with w|w|w
   ·exact w
   ·exact absurd w.symm hr'
   ·have:=Int.mul_pos_of_neg_of_neg z w
    rw[<- hr] at this
    omega
 refine⟨dv a b c,hk,hs,by rw[ep];exact hp,by rw[eq];exact hq,by rw[er];exact hr,by rw[er];exact hr0,?_⟩
 rw[ep,eq,er]
 have e:=Nh p q r (dv a b c)
 rw[Int.mul_comm p,Int.mul_comm q,Int.mul_comm r,<- hp,<- hq,<- hr] at e
 have e2:(dv a b c).natAbs=g3 a b c:=by unfold dv;split<;>simp
 rw[e2] at e
 have:g3 p q r*g3 a b c=1*g3 a b c:=by omega
 exact Nat.eq_of_mul_eq_mul_right hg this
theorem jn(a b:Int){c:Int}(h:c≠0):Ok (low a b c):=(pA a b h).choose_spec.2.2.2.2.2
theorem Ok.same{x y:N3}(hx:Ok x)(hy:Ok y)(h1:x.a*y.c=y.a*x.c)(h2:x.b*y.c=y.b*x.c):x=y:=by
 have key:∀{u v:N3},Ok u->Ok v->u.a*v.c=v.a*u.c->u.b*v.c=v.b*u.c->u.c ∣ v.c:=fun {u v} hu hv e1 e2=>by
  have hd:u.c.natAbs ∣ g3 (u.a*v.c) (u.b*v.c) (u.c*v.c):=QN
   (by rw[Int.natAbs_of_nonneg (le_of_lt hu.c),e1];exact Int.dvd_mul_left _ _) (by rw[Int.natAbs_of_nonneg (le_of_lt hu.c),e2];exact Int.dvd_mul_left _ _) (by rw[Int.natAbs_of_nonneg (le_of_lt hu.c)];exact Int.dvd_mul_right _ _)
  rw[Nh,hu.g,Nat.one_mul] at hd
  exact Int.natAbs_dvd_natAbs.mp hd
 have hc:x.c=y.c:=Int.dvd_antisymm (le_of_lt hx.c) (le_of_lt hy.c) (key hx hy h1 h2) (key hy hx h1.symm h2.symm)
 have hn:y.c≠0:=by have:=hy.c;omega
 rw[hc] at h1 h2
 exact N3.ext' (eq_of_mul_eq_mul_right hn h1) (eq_of_mul_eq_mul_right hn h2) hc
theorem Qh(a b:Int){c:Int}(h:c≠0):(low a b c).a.natAbs<=a.natAbs/\(low a b c).b.natAbs<=b.natAbs/\(low a b c).c.natAbs<=c.natAbs:=by
 obtain⟨k,hk,_,p1,p2,p3,_⟩:=pA a b h
 have hk':1<=k.natAbs:=by omega
 have le:∀{u v:Int},u=k*v->v.natAbs<=u.natAbs:=fun {u v} e=>by
  rw[e,natAbs_mul]
  exact Nat.le_mul_of_pos_left _ hk'
 exact⟨le p1,le p2,le p3⟩
structure Bd(n:Nat)(x:N3):Prop where
 a:Sz n x.a
 b:Sz n x.b
 c:Sz n x.c
theorem Bd.mono{n m:Nat}{x:N3}(h:Bd n x)(l:n<=m):Bd m x:=⟨h.a.mono l,h.b.mono l,h.c.mono l⟩
theorem qJ{a b c:Int}{n:Nat}(h:c≠0)(ha:Sz n a)(hb:Sz n b)(hc:Sz n c):Bd n (low a b c):=by
 obtain⟨h1,h2,h3⟩:=Qh a b h
 exact⟨ha.le h1,hb.le h2,hc.le h3⟩
def plus(x y:N3):N3:=low (x.a*y.c+y.a*x.c) (x.b*y.c+y.b*x.c) (x.c*y.c)
def less(x y:N3):N3:=low (x.a*y.c-y.a*x.c) (x.b*y.c-y.b*x.c) (x.c*y.c)
def times(d:Int)(x y:N3):N3:=low (x.a*y.a+d*x.b*y.b) (x.a*y.b+x.b*y.a) (x.c*y.c)
def norm(d:Int)(x:N3):Int:=x.a*x.a-d*x.b*x.b
def aL(d:Int)(x:N3):N3:=low (x.c*x.a) (-x.c*x.b) (norm d x)
def OE(x:N3):N3:=⟨x.a,-x.b,x.c⟩
def minus(x:N3):N3:=⟨-x.a,-x.b,x.c⟩
def aC:N3:=⟨0,0,1⟩
def one:N3:=⟨1,0,1⟩
theorem Ok.cn{x:N3}(h:Ok x):x.c≠0:=by have:=h.c;omega
theorem A7{x y:N3}(h:Ok x)(g:Ok y):x.c*y.c≠0:=mul_ne_zero h.cn g.cn
theorem pG{x:N3}(h:Ok x):Ok (minus x):=⟨h.c,by show g3 (-x.a) (-x.b) x.c=1;rw[Ly,Ma];exact h.g⟩
theorem gu{x y:N3}(h:Ok x)(g:Ok y):Ok (plus x y):=jn _ _ (A7 h g)
theorem jP{x y:N3}(h:Ok x)(g:Ok y):Ok (less x y):=jn _ _ (A7 h g)
theorem tG{d:Int}{x y:N3}(h:Ok x)(g:Ok y):Ok (times d x y):=jn _ _ (A7 h g)
theorem ue:Ok aC:=⟨⋯,⋯⟩
theorem HX:Ok one:=⟨⋯,⋯⟩
theorem xT{n:Nat}{x:N3}(h:Bd n x):Bd n (minus x):=⟨h.a.neg,h.b.neg,h.c⟩
theorem JS{n m:Nat}{x y:N3}(hx:Ok x)(hy:Ok y)(h:Bd n x)(g:Bd m y):Bd (n+m+1) (plus x y):=
 qJ (A7 hx hy) ((h.a.mul g.c).add ((g.a.mul h.c).mono ∅)) ((h.b.mul g.c).add ((g.b.mul h.c).mono ∅)) ((h.c.mul g.c).mono ∅)
theorem DU{d:Int}(h:2<=d)(h':d<=30):Sz 5 d:=by unfold Sz;omega
theorem Nj{n m:Nat}{d:Int}{x y:N3}(hd:Sz 5 d)(hx:Ok x)(hy:Ok y)(h:Bd n x)(g:Bd m y):Bd (n+m+6) (times d x y):=
 qJ (A7 hx hy) (((h.a.mul g.a).mono ∅).add (((hd.mul h.b).mul g.b).mono ∅)) ((((h.a.mul g.b).mono (by omega:n+m<=n+m)).add ((h.b.mul g.a).mono ∅)).mono ∅) ((h.c.mul g.c).mono ∅)
theorem Cf{n:Nat}{d:Int}{x:N3}(hd:Sz 5 d)(h:Bd n x):Sz (2*n+6) (norm d x):=by
 have e1:=h.a.mul h.a
 have e2:=(hd.mul h.b).mul h.b
 exact ((e1.mono (by omega:n+n<=5+n+n)).sub e2).mono ∅
theorem j6{n:Nat}{d:Int}{x:N3}(hd:Sz 5 d)(hn:norm d x≠0)(h:Bd n x):Bd (2*n+6) (aL d x):=
 qJ hn ((h.c.mul h.a).mono ∅) ((h.c.neg.mul h.b).mono ∅) (Cf hd h)
noncomputable def aJ(d:Int):Prop:=2<=d/\d<=30/\d≠4/\d≠9/\d≠16/\d≠25
theorem Kh{d:Nat}(h:∀m:Nat,m*m≠d):∀{a b:Nat},a*a=d*(b*b)->b=0:=fun {a b} e=>by
 rcases Nat.eq_zero_or_pos b with hb|hb
 ·exact hb
 exfalso
 obtain⟨g,p,q,hg,hc,rfl,rfl⟩:=Nat.exists_coprime' (m:=a) (n:=b) (Nat.gcd_pos_of_pos_right _ hb)
 have e2:(p*p)*(g*g)=(d*(q*q))*(g*g):=by grind
 have e3:p*p=d*(q*q):=Nat.eq_of_mul_eq_mul_right (Nat.mul_pos hg hg) e2
 have hq:q ∣ p*p:=⟨d*q,by rw[e3];grind⟩
 have hq1:q ∣ p:=hc.symm.dvd_of_dvd_mul_left hq
 have hq2:q=1:=by
  have:=Nat.dvd_gcd hq1 (Nat.dvd_refl q)
  rw[hc] at this
  exact Nat.dvd_one.mp this
 subst hq2
 exact h p (by rw[e3];simp)
theorem aJ.nat{d:Int}(h:aJ d):∀m:Nat,m*m≠d.toNat:=fun m e=>by
 obtain⟨h1,h2,h3,h4,h5,h6⟩:=h
 have hm:m<=5:=by
  rcases lt_or_ge 5 m with z|z
  ·have:=mul_le_mul z z;omega
  ·exact z
 have:m=0\/m=1\/m=2\/m=3\/m=4\/m=5:=by omega
 rcases this with rfl|rfl|rfl|rfl|rfl|rfl<;>omega
theorem aJ.Iq{d a b:Int}(h:aJ d)(e:a*a=d*b*b):a=0/\b=0:=by
 have hd:d=((d.toNat:Nat):Int):=by have:=h.1;omega
 have e1:a.natAbs*a.natAbs=d.toNat*(b.natAbs*b.natAbs):=by
  have e2:=congrArg Int.natAbs e
  rw[natAbs_mul,natAbs_mul,natAbs_mul] at e2
  rw[e2,Nat.mul_assoc]
  congr 1
  omega
 have hb:=Kh h.nat e1
 have hb':b=0:=by omega
 subst hb'
 have:a*a=0:=by rw[e];simp
 exact⟨by rcases Int.mul_eq_zero.mp this with z|z<;>exact z,rfl⟩
theorem aJ.norm{d:Int}{x:N3}(h:aJ d)(ok:Ok x)(hx:x≠aC):norm d x≠0:=fun e=>by
 have e':x.a*x.a=d*x.b*x.b:=by unfold NM.norm at e;omega
 obtain⟨h1,h2⟩:=h.Iq e'
 apply hx
 have hg:=ok.g
 rw[h1,h2] at hg
 have hc:=ok.c
 have:x.c=1:=by
  unfold g3 at hg
  simp[Int.gcd] at hg
  omega
 exact N3.ext' h1 h2 this
theorem bP{d:Int}{x:N3}(h:NM.norm d x≠0):Ok (aL d x):=jn _ _ h
def sg(d a b:Int):Int:=
 if a=0/\b=0 then 0 else if 0<=a/\0<=b then 1 else if a<=0/\b<=0 then -1 else if (if d*b*b<a*a then a else b)>0 then 1 else -1
theorem Pn{u v:Int}(hu:0<=u)(h:u*u<=v*v)(hv:0<=v):u<=v:=by
 rcases Int.lt_or_le v u with z|z
 ·have:=Int.mul_lt_mul_of_pos_left z (show 0<u by omega)
  have:=Int.mul_le_mul_of_nonneg_right (le_of_lt z) hv
  omega
 ·exact z
theorem sq_nonneg(u:Int):0<=u*u:=by
 rcases Int.le_total 0 u with h|h
 ·exact mul_nonneg h h
 ·exact Int.mul_nonneg_of_nonpos_of_nonpos h h
noncomputable def P(d a b:Int):Prop:=(0<=a/\0<=b/\¬ (a=0/\b=0))\/(0<a/\b<0/\d*b*b<a*a)\/(a<0/\0<b/\a*a<d*b*b)
theorem kz{d a b:Int}(h:aJ d):sg d a b=1↔P d a b:=by
 unfold sg P
 have key:a*a=d*b*b->a=0/\b=0:=h.Iq
 by_cases c1:d*b*b<a*a
 ·simp only[c1,if_true];split<;>(try split)<;>(try split)<;>(try split)<;>simp<;>omega
 ·simp only[c1,if_false];split<;>(try split)<;>(try split)<;>(try split)<;>simp<;>omega
theorem yP{d a b:Int}(h:aJ d):sg d (-a) (-b) = - sg d a b:=by
 unfold sg
 have key:a*a=d*b*b->a=0/\b=0:=h.Iq
 have e1:d * -b * -b=d*b*b:=by grind
 have e2:-a * -a=a*a:=by grind
 rw[e1,e2]
 by_cases c1:d*b*b<a*a
 ·simp only[c1,if_true];split<;>split<;>(try split)<;>(try split)<;>(try split)<;>(try split)<;>(try split)<;>(try split)<;>omega
 ·simp only[c1,if_false];split<;>split<;>(try split)<;>(try split)<;>(try split)<;>(try split)<;>(try split)<;>(try split)<;>omega
theorem eM{d a b:Int}:sg d a b=0↔a=0/\b=0:=by
 unfold sg;split<;>(try split)<;>(try split)<;>(try split)<;>omega
theorem oI(d a b:Int):sg d a b=0\/sg d a b=1\/sg d a b = -1:=by
 unfold sg;split<;>(try split)<;>(try split)<;>(try split)<;>omega
theorem Td{d a b:Int}(h:aJ d):(a=0/\b=0)\/P d a b\/P d (-a) (-b):=by
 rcases oI d a b with e|e|e
 ·exact .inl (eM.mp e)
 ·exact .inr (.inl ((kz h).mp e))
 ·exact .inr (.inr ((kz h).mp (by rw[yP h,e];rfl)))
theorem pO{d a b:Int}(h:aJ d)(n:d*b*b<a*a):P d a b↔0<a:=by
 unfold P
 have:=sq_nonneg b
 have h0:0<=d*b*b:=by rw[Int.mul_assoc];exact mul_nonneg (by have:=h.1;omega) this
 have ha:a≠0:=fun z=>by subst z;simp at n;omega
 omega
theorem kY{d a b:Int}(h:aJ d)(n:a*a<d*b*b):P d a b↔0<b:=by
 unfold P
 have h0:=sq_nonneg a
 have hb:b≠0:=fun z=>by subst z;simp at n;omega
 omega
theorem tF{u v:Int}(h:v*v<u*u):0<u+v↔0<u:=by
 have hu:u≠0:=fun z=>by subst z;have:=sq_nonneg v;simp at h;omega
 have l:v.natAbs<u.natAbs:=by
  rcases lt_or_ge v.natAbs u.natAbs with z|z
  ·exact z
  ·have:=mul_le_mul z z
   have e1:((u.natAbs*u.natAbs:Nat):Int)=u*u:=Int.natAbs_mul_self
   have e2:((v.natAbs*v.natAbs:Nat):Int)=v*v:=Int.natAbs_mul_self
   omega
 omega
theorem mul_pos_iff{u v:Int}(hu:u≠0)(hv:v≠0):0<u*v↔(0<u↔0<v):=by
 rcases Int.lt_or_gt_of_ne hu with h|h<;>rcases Int.lt_or_gt_of_ne hv with g|g
 ·have:=Int.mul_pos_of_neg_of_neg h g;omega
 ·have:=Int.mul_neg_of_neg_of_pos h g;omega
 ·have:=Int.mul_neg_of_pos_of_neg h g;omega
 ·have:=mul_pos h g;omega
theorem zl{u v s t:Int}(hu:0<=u)(h:u<v)(hs:0<=s)(g:s<t):u*s<v*t:=by
 have e1:u*s<=v*s:=Int.mul_le_mul_of_nonneg_right (le_of_lt h) hs
 have e2:v*s<v*t:=Int.mul_lt_mul_of_pos_left g ∅
 omega
theorem dsq{d b:Int}(hd:0<d):0<=d*b*b:=by rw[Int.mul_assoc];exact mul_nonneg (le_of_lt hd) (sq_nonneg b)
theorem SW{d a b p q:Int}(h:aJ d)(h1:¬ (a=0/\b=0))(h2:¬ (p=0/\q=0)):P d (a*p+d*b*q) (a*q+b*p)↔(P d a b↔P d p q):=by
 have hd:0<d:=by have:=h.1;omega
 have n1:a*a≠d*b*b:=fun e=>h1 (h.Iq e)
 have n2:p*p≠d*q*q:=fun e=>h2 (h.Iq e)
 have pz:∀{u v:Int},d*v*v<u*u->u≠0:=fun {u v} e z=>by subst z;have:=dsq (b:=v) hd;simp at e;omega
 have qz:∀{u v:Int},u*u<d*v*v->v≠0:=fun {u v} e z=>by subst z;have:=sq_nonneg u;simp at e;omega
 have id1:(a*p+d*b*q)*(a*p+d*b*q)-d*(a*q+b*p)*(a*q+b*p)=(a*a-d*b*b)*(p*p-d*q*q):=by grind
 rcases Int.lt_or_gt_of_ne n1 with c1|c1<;>rcases Int.lt_or_gt_of_ne n2 with c2|c2
 ·have pp:=Int.mul_pos_of_neg_of_neg (show a*a-d*b*b<0 by omega) (show p*p-d*q*q<0 by omega)
  rw[pO h ∅,kY h c1,kY h c2]
  have sq:(a*p)*(a*p)<(d*b*q)*(d*b*q):=by
   have e2:=zl (sq_nonneg a) c1 (sq_nonneg p) c2
   grind
  rw[Int.add_comm,tF sq,Int.mul_assoc,mul_pos_iff ∅ (mul_ne_zero (qz c1) (qz c2)),mul_pos_iff (qz c1) (qz c2)]
  omega
 ·have pp:=Int.mul_neg_of_neg_of_pos (show a*a-d*b*b<0 by omega) (show 0<p*p-d*q*q by omega)
  rw[kY h ∅,kY h c1,pO h c2]
  have sq:(a*q)*(a*q)<(b*p)*(b*p):=by
   have e2:=zl (sq_nonneg a) c1 (dsq (b:=q) hd) c2
   have e3:d*((a*q)*(a*q))<d*((b*p)*(b*p)):=by grind
   exact Int.lt_of_mul_lt_mul_left e3 (le_of_lt hd)
  rw[Int.add_comm,tF sq,mul_pos_iff (qz c1) (pz c2)]
 ·have pp:=Int.mul_neg_of_pos_of_neg (show 0<a*a-d*b*b by omega) (show p*p-d*q*q<0 by omega)
  rw[kY h ∅,pO h c1,kY h c2]
  have sq:(b*p)*(b*p)<(a*q)*(a*q):=by
   have e2:=zl (dsq (b:=b) hd) c1 (sq_nonneg p) c2
   have e3:d*((b*p)*(b*p))<d*((a*q)*(a*q)):=by grind
   exact Int.lt_of_mul_lt_mul_left e3 (le_of_lt hd)
  rw[tF sq,mul_pos_iff (pz c1) (qz c2)]
 ·have pp:=mul_pos (show 0<a*a-d*b*b by omega) (show 0<p*p-d*q*q by omega)
  rw[pO h ∅,pO h c1,pO h c2]
  have sq:(d*b*q)*(d*b*q)<(a*p)*(a*p):=by
   have e2:=zl (dsq (b:=b) hd) c1 (dsq (b:=q) hd) c2
   grind
  rw[tF sq,mul_pos_iff (pz c1) (pz c2)]
theorem Tw{d A x B y:Int}(hd:0<d)(hA:0<=A)(hx:0<=x)(hB:0<=B)(hy:0<=y)(h1:A*A<=d*B*B)(h2:x*x<=d*y*y):A*x<=d*(B*y):=by
 refine Pn (mul_nonneg hA hx) ?_ (mul_nonneg (le_of_lt hd) (mul_nonneg hB hy))
 have:=Int.mul_le_mul h1 h2 (sq_nonneg x) (dsq hd)
 grind
theorem T1{d A x B y:Int}(hd:0<d)(hA:0<=A)(hx:0<=x)(hB:0<=B)(hy:0<=y)(h1:A*A<d*B*B)(h2:x*x<d*y*y):(A+x)*(A+x)<d*(B+y)*(B+y):=by
 have:=Tw hd hA hx hB hy (le_of_lt h1) (le_of_lt h2)
 grind
theorem T2{d A x B y:Int}(hd:0<d)(hA:0<=A)(hx:0<=x)(hB:0<=B)(hy:0<=y)(h1:d*B*B<A*A)(h2:d*y*y<x*x):d*(B+y)*(B+y)<(A+x)*(A+x):=by
 have:d*(B*y)<=A*x:=by
  refine Pn (mul_nonneg (le_of_lt hd) (mul_nonneg hB hy)) ?_ (mul_nonneg hA hx)
  have:=zl (dsq (b:=B) hd) h1 (dsq (b:=y) hd) h2
  grind
 grind
theorem Z1{d x1 y1 x2 y2:Int}(hd:0<d)(h1:x1*x1<d*y1*y1)(h2:d*y2*y2<x2*x2)(a1:0<=x2)(a2:x2<=x1)(a3:0<=y1)(a4:y1<=y2):False:=by
 have e1:=Int.mul_le_mul a2 a2 a1 (Int.le_trans a1 a2)
 have e2:=Int.mul_le_mul_of_nonneg_left (Int.mul_le_mul a4 a4 a3 (Int.le_trans a3 a4)) (le_of_lt hd)
 grind
theorem Z2{d x1 y1 x2 y2 x3 y3:Int}(hd:0<d)(h1:x1*x1<d*y1*y1)(h2:d*y2*y2<x2*x2)(h3:d*y3*y3<x3*x3)(a1:0<=x2)(a2:0<=y2)(a3:0<=x3)(a4:0<=y3)(e1:x1=x2+x3)(e2:y1=y2+y3):False:=by
 subst e1 e2
 have:=T2 hd a1 a3 a2 a4 h2 h3
 omega
theorem Z3{d x1 y1 x2 y2 x3 y3:Int}(hd:0<d)(h1:d*y1*y1<x1*x1)(h2:x2*x2<d*y2*y2)(h3:x3*x3<d*y3*y3)(a1:0<=x2)(a2:0<=y2)(a3:0<=x3)(a4:0<=y3)(e1:x1=x2+x3)(e2:y1=y2+y3):False:=by
 subst e1 e2
 have:=T1 hd a1 a3 a2 a4 h2 h3
 omega
theorem RY{d a b p q u v:Int}(h:aJ d)(h1:P d a b)(h2:P d p q)(h3:P d u v)(e1:a+p+u=0)(e2:b+q+v=0):False:=by
 have hd:0<d:=by have:=h.1;omega
 unfold P at h1 h2 h3
 have x1:∀{u c:Int},u*u<c->-u * -u<c:=fun {u c} e=>by grind
 have x2:∀{u c:Int},c<u*u->c < -u * -u:=fun {u c} e=>by grind
 have x3:∀{u c:Int},c<d*u*u->c<d * -u * -u:=fun {u c} e=>by grind
 have x4:∀{u c:Int},d*u*u<c->d * -u * -u<c:=fun {u c} e=>by grind
 rcases h1 with ⟨u1,u2,u3⟩|⟨u1,u2,u3⟩|⟨u1,u2,u3⟩<;>rcases h2 with ⟨v1,v2,v3⟩|⟨v1,v2,v3⟩|⟨v1,v2,v3⟩<;>rcases h3 with ⟨w1,w2,w3⟩|⟨w1,w2,w3⟩|⟨w1,w2,w3⟩<;>(try omega)
 all_goals first
  |exact Z1 hd (x1 u3) (x4 v3) ∅ ∅ ∅ ∅
  |exact Z1 hd (x1 v3) (x4 u3) ∅ ∅ ∅ ∅
  |exact Z1 hd (x1 u3) (x4 w3) ∅ ∅ ∅ ∅
  |exact Z1 hd (x1 w3) (x4 u3) ∅ ∅ ∅ ∅
  |exact Z1 hd (x1 v3) (x4 w3) ∅ ∅ ∅ ∅
  |exact Z1 hd (x1 w3) (x4 v3) ∅ ∅ ∅ ∅
  |exact Z2 hd (x1 u3) (x4 v3) (x4 w3) ∅ ∅ ∅ ∅ ∅ ∅
  |exact Z2 hd (x1 v3) (x4 u3) (x4 w3) ∅ ∅ ∅ ∅ ∅ ∅
  |exact Z2 hd (x1 w3) (x4 u3) (x4 v3) ∅ ∅ ∅ ∅ ∅ ∅
  |exact Z3 hd (x4 u3) (x1 v3) (x1 w3) ∅ ∅ ∅ ∅ ∅ ∅
  |exact Z3 hd (x4 v3) (x1 u3) (x1 w3) ∅ ∅ ∅ ∅ ∅ ∅
  |exact Z3 hd (x4 w3) (x1 u3) (x1 v3) ∅ ∅ ∅ ∅ ∅ ∅
theorem RX{d a b p q:Int}(h:aJ d)(h1:P d a b)(h2:P d p q):P d (a+p) (b+q):=by
 rcases Td (a:=a+p) (b:=b+q) h with ⟨e1,e2⟩|e|e
 ·have ea:p = -a:=by omega
  have eb:q = -b:=by omega
  subst ea eb
  have s1:=(kz h).mpr h1
  have s2:=(kz h).mpr h2
  rw[yP h,s1] at s2
  omega
 ·exact e
 ·exact (RY h h1 h2 e ∅ ∅).elim
theorem IT{d a b p q:Int}(h:aJ d):sg d (a*p+d*b*q) (a*q+b*p)=sg d a b*sg d p q:=by
 by_cases h1:a=0/\b=0
 ·obtain⟨rfl,rfl⟩:=h1
  have e:sg d (0:Int) 0=0:=eM.mpr ⟨rfl,rfl⟩
  rw[e];simp[eM]
 by_cases h2:p=0/\q=0
 ·obtain⟨rfl,rfl⟩:=h2
  have e:sg d (0:Int) 0=0:=eM.mpr ⟨rfl,rfl⟩
  rw[e];simp[eM]
 have k:=SW h h1 h2
 have h3:¬ (a*p+d*b*q=0/\a*q+b*p=0):=fun ⟨e1,e2⟩=>by
  have id1:(a*p+d*b*q)*(a*p+d*b*q)-d*(a*q+b*p)*(a*q+b*p)=(a*a-d*b*b)*(p*p-d*q*q):=by grind
  rw[e1,e2] at id1
  simp only[Int.mul_zero,Int.sub_self] at id1
  rcases Int.mul_eq_zero.mp id1.symm with z|z
  ·exact h1 (h.Iq ∅)
  ·exact h2 (h.Iq ∅)
 rw[<- kz h,<- kz h,<- kz h] at k
 have t1:=oI d a b
 have t2:=oI d p q
 have t3:=oI d (a*p+d*b*q) (a*q+b*p)
 have z1:sg d a b≠0:=fun z=>h1 (eM.mp z)
 have z2:sg d p q≠0:=fun z=>h2 (eM.mp z)
 have z3:sg d (a*p+d*b*q) (a*q+b*p)≠0:=fun z=>h3 (eM.mp z)
 rcases t1 with e|e|e<;>rcases t2 with f|f|f<;>rcases t3 with g|g|g<;>simp_all
theorem k8{d a b k:Int}(h:aJ d)(hk:0<k):sg d (k*a) (k*b)=sg d a b:=by
 have e:=IT (a:=k) (b:=0) (p:=a) (q:=b) h
 have e1:sg d k 0=1:=by unfold sg;rw[if_neg ∅,if_pos ∅]
 rw[e1] at e
 simpa using e
end NM
namespace L2
open PySem PySem.Spec PyProof.Rows
section
variable {X:Cx}{pins:List (Addr×Obj)}{σ:St}{H:Hp}{s:Shared}{a:Addr}{y v:V}{u r:Value}{o:Option V}{A:Around}{E:Value->Shared->Prop}
theorem Inv.big(I:Inv X pins σ H s):sysModules<s.heap.objs.size:=by
 have h:mainGlobals<s.heap.objs.size:=(I.mod.glob.keeps I.bk).lt
 exact Nat.lt_trans ⋯ h
theorem CV{h':Heap}{t':Nat}{ob:HO}(I:Inv X pins σ H s)(mu:Mut (H a))(hs:Heap.SameBut a s.heap h')(he:∃q,h'.get? a=some q)(new:iZ X.prog X.w (upd H a ob) h' a ob) :
  Inv X pins σ (upd H a ob) {s with heap:=h',toks:=t'}:=
 I.write (x:=a) (e:=a) mu (.inl rfl) (fun b q hb z=>(hs.2 b hb).trans z) he new
end
noncomputable def Sq(i:Expr):Prop:=∀ov iv,subscripted i false ov iv=operate [ov,iv] (getItem ov iv)
theorem O1{prog:Program}{w:World}{A:Around}{E:Value->Shared->Prop}{s:Shared}{env:Env}{value slice:Expr}{pos:Pos}{T id:String}{Q:Value->Shared->Prop}
  (hl:typeLookup (.type T) "__getitem__"=pure (some (.builtin id))) (hs:Sq slice)
  (h:wpAny (model prog w) A (eval value env) (fun o ca=>wpAny (model prog w) A (eval slice env) (fun i ii=>ii.TypeIs o T/\wpAny (model prog w) A (getItem o i) Q E ii) E ca) E s) :
  wpAny (model prog w) A (eval (.Subscript value slice pos) env) Q E s:=by
 refine Subscript_ (wpAny_mono h (fun o ca dl=>wpAny_mono dl (fun i ii sn=>?_) fun _ _ x=>x) fun _ _ x=>x)
 obtain⟨hT,sn⟩:=sn
 unfold subscriptTail
 refine wpAny_bind ?_
 rw[getitemInPython_of_ne hT.not_modules]
 refine wpAny_bind (wpAny_specialOf hT hl ?_)
 have fin:wpAny (model prog w) A (subscripted slice false o i) (fun r bi=>wpAny (model prog w) A (letTemporaryGo value o r>>=fun _=>pure r) Q E bi) E ii:=by
  rw[hs o i]
  exact wpAny_operating (wpAny_mono sn (fun r bi pi=>wpAny_bind (wpAny_letTemporaryGo (wpAny_pure pi))) fun _ _ x=>x)
 first
  |exact wpAny_pure (wpAny_bind fin)
  |exact wpAny_bind (wpAny_pure (wpAny_bind fin))
  |exact wpAny_bind fin
structure M1(X:Cx)(o:Expr)(m:Str)(apos:Pos)(e:Expr)(cpos:Pos):Prop where
 base:attributeBase o m X.env (eval o X.env)=eval o X.env
 few:((backTo cpos (starEach [e] X.env)).all (fun x=>!x.1)&&(backToKw cpos (keywordEach [] X.env)).all (fun x=>x.1.isSome)
  && decide (([e]:List Expr).length+([]:List Keyword).length+(if ([]:List Keyword).isEmpty then 0 else 1)<30))=true
 line:(apos.endLine==cpos.line)=true
 trees:backTo cpos (starEach [e] X.env)=[(false,eval e X.env)]
end L2
namespace NM
structure Rep(x:N3)(A B C:Int):Prop where
 c:C≠0
 a:x.a*C=A*x.c
 b:x.b*C=B*x.c
section
variable {x y:N3}{A B C A' B' C' d:Int}
theorem bL(h:Ok x):Rep x x.a x.b x.c:=⟨h.cn,rfl,rfl⟩
theorem dZ{a b c:Int}(h:c≠0):Rep (low a b c) a b c:=by
 obtain⟨k,hk,_,p1,p2,p3,_⟩:=pA a b h
 generalize low a b c=z at *
 exact⟨h,by grind,by grind⟩
theorem Rep.eq(ox:Ok x)(oy:Ok y)(h:Rep x A B C)(g:Rep y A' B' C')(e1:A*C'=A'*C)(e2:B*C'=B'*C):x=y:=by
 have hc:C*C'≠0:=mul_ne_zero h.c g.c
 obtain⟨_,h1,h2⟩:=h
 obtain⟨_,g1,g2⟩:=g
 exact ox.same oy (eq_of_mul_eq_mul_right hc (by grind)) (eq_of_mul_eq_mul_right hc (by grind))
theorem Rep.minus(h:Rep x A B C):Rep (minus x) (-A) (-B) C:=⟨h.c,by show -x.a*C = -A*x.c;have:=h.a;grind,by show -x.b*C = -B*x.c;have:=h.b;grind⟩
theorem Rep.plus(ox:Ok x)(oy:Ok y)(h:Rep x A B C)(g:Rep y A' B' C'):Rep (plus x y) (A*C'+A'*C) (B*C'+B'*C) (C*C'):=by
 have hc:=A7 ox oy
 obtain⟨_,q1,q2⟩:=dZ (a:=x.a*y.c+y.a*x.c) (b:=x.b*y.c+y.b*x.c) hc
 obtain⟨hc1,h1,h2⟩:=h
 obtain⟨hc2,g1,g2⟩:=g
 change (NM.plus x y).a*(x.c*y.c)=_*(NM.plus x y).c at q1
 change (NM.plus x y).b*(x.c*y.c)=_*(NM.plus x y).c at q2
 generalize NM.plus x y=z at *
 exact⟨mul_ne_zero hc1 hc2,eq_of_mul_eq_mul_right hc (by grind),eq_of_mul_eq_mul_right hc (by grind)⟩
theorem Rep.less(ox:Ok x)(oy:Ok y)(h:Rep x A B C)(g:Rep y A' B' C'):Rep (less x y) (A*C'-A'*C) (B*C'-B'*C) (C*C'):=by
 have hc:=A7 ox oy
 obtain⟨_,q1,q2⟩:=dZ (a:=x.a*y.c-y.a*x.c) (b:=x.b*y.c-y.b*x.c) hc
 obtain⟨hc1,h1,h2⟩:=h
 obtain⟨hc2,g1,g2⟩:=g
 change (NM.less x y).a*(x.c*y.c)=_*(NM.less x y).c at q1
 change (NM.less x y).b*(x.c*y.c)=_*(NM.less x y).c at q2
 generalize NM.less x y=z at *
 exact⟨mul_ne_zero hc1 hc2,eq_of_mul_eq_mul_right hc (by grind),eq_of_mul_eq_mul_right hc (by grind)⟩
theorem Rep.times(ox:Ok x)(oy:Ok y)(h:Rep x A B C)(g:Rep y A' B' C'):Rep (times d x y) (A*A'+d*B*B') (A*B'+B*A') (C*C'):=by
 have hc:=A7 ox oy
 obtain⟨_,q1,q2⟩:=dZ (a:=x.a*y.a+d*x.b*y.b) (b:=x.a*y.b+x.b*y.a) hc
 obtain⟨hc1,h1,h2⟩:=h
 obtain⟨hc2,g1,g2⟩:=g
 change (NM.times d x y).a*(x.c*y.c)=_*(NM.times d x y).c at q1
 change (NM.times d x y).b*(x.c*y.c)=_*(NM.times d x y).c at q2
 generalize NM.times d x y=z at *
 exact⟨mul_ne_zero hc1 hc2,eq_of_mul_eq_mul_right hc (by grind),eq_of_mul_eq_mul_right hc (by grind)⟩
theorem Rep.norm(h:Rep x A B C):NM.norm d x*(C*C)=(A*A-d*B*B)*(x.c*x.c):=by
 obtain⟨_,h1,h2⟩:=h
 unfold NM.norm
 have e1:x.a*x.a*(C*C)=A*A*(x.c*x.c):=by
  have:(x.a*C)*(x.a*C)=(A*x.c)*(A*x.c):=by rw[h1]
  grind
 have e2:x.b*x.b*(C*C)=B*B*(x.c*x.c):=by
  have:(x.b*C)*(x.b*C)=(B*x.c)*(B*x.c):=by rw[h2]
  grind
 grind
theorem Rep.aL(ox:Ok x)(hn:NM.norm d x≠0)(h:Rep x A B C):Rep (aL d x) (C*A) (-C*B) (A*A-d*B*B):=by
 have hN:=h.norm (d:=d)
 have hcc:x.c*x.c≠0:=mul_ne_zero ox.cn ox.cn
 have hN0:A*A-d*B*B≠0:=fun z=>by
  rw[z,Int.zero_mul] at hN
  rcases Int.mul_eq_zero.mp hN with w|w
  ·exact hn w
  ·rcases Int.mul_eq_zero.mp w with w|w<;>exact h.c w
 obtain⟨_,q1,q2⟩:=dZ (a:=x.c*x.a) (b:=-x.c*x.b) hn
 change (NM.aL d x).a*NM.norm d x=_*(NM.aL d x).c at q1
 change (NM.aL d x).b*NM.norm d x=_*(NM.aL d x).c at q2
 obtain⟨hc1,h1,h2⟩:=h
 generalize NM.aL d x=z at *
 generalize NM.norm d x=n at *
 generalize A*A-d*B*B=m at *
 refine⟨hN0,?_,?_⟩
 ·have e:z.a*m*(x.c*x.c)=C*A*z.c*(x.c*x.c):=by grind
  exact eq_of_mul_eq_mul_right hcc e
 ·have e:z.b*m*(x.c*x.c) = -C*B*z.c*(x.c*x.c):=by grind
  exact eq_of_mul_eq_mul_right hcc e
theorem Rep.sg(hd:aJ d)(ox:Ok x)(h:Rep x A B C)(hC:0<C):sg d x.a x.b=NM.sg d A B:=by
 have e1:=k8 (a:=x.a) (b:=x.b) hd hC
 have e2:=k8 (a:=A) (b:=B) hd ox.c
 rw[show C*x.a=x.c*A by have:=h.a;grind,show C*x.b=x.c*B by have:=h.b;grind] at e1
 rw[<- e1,e2]
end
end NM
namespace NM
def JU(d:Int)(x:N3):N3:=times d (times d (plus x (OE x)) (plus x (OE x))) (aL d (times d x (OE x)))
section
variable {d:Int}{x y z:N3}
theorem NG{a b c:Int}(h:aJ d)(hc:0<c):sg d (low a b c).a (low a b c).b=sg d a b:=(dZ (show c≠0 by omega)).sg h (jn _ _ ∅) hc
theorem K2(h:aJ d)(ox:Ok x)(oy:Ok y):sg d (times d x y).a (times d x y).b=sg d x.a x.b*sg d y.a y.b:=by
 unfold times
 rw[NG h (mul_pos ox.c oy.c),IT h]
theorem OQ:sg d one.a one.b=1:=by
 unfold one sg
 rw[if_neg (by simp),if_pos (by simp)]
theorem Mt(h:aJ d)(ox:Ok x)(hx:sg d x.a x.b=1):norm d x≠0:=h.norm ox (fun e=>by subst e;have:sg d aC.a aC.b=0:=eM.mpr ⟨rfl,rfl⟩;omega)
theorem o3(ox:Ok x)(hn:norm d x≠0):times d x (aL d x)=one:=by
 have oc:=bP hn
 exact ((bL ox).times ox oc ((bL ox).aL ox hn)).eq (tG ox oc) HX (bL HX) (by simp only[one];grind) (by simp only[one];grind)
theorem vK(h:aJ d)(ox:Ok x)(hx:sg d x.a x.b=1):sg d (aL d x).a (aL d x).b=1:=by
 have hn:=Mt h ox hx
 have e:=K2 h ox (bP hn)
 rw[o3 ox hn,OQ,hx] at e
 omega
def W(x y:N3):Int:=x.b*y.a-x.a*y.b
def ON(d:Int)(x y:N3):Int:=sg d (x.a*y.c-y.a*x.c) (x.b*y.c-y.b*x.c)
theorem Mo(ox:Ok x)(oy:Ok y)(e:ON d x y=0):x=y:=by
 obtain⟨h1,h2⟩:=eM.mp e
 exact ox.same oy ∅ ∅
end
end NM
namespace NM
end NM
namespace NM
section
variable {d:Int}{x y z:N3}
noncomputable def gtL(d:Int)(k o:N3):Prop:=((JU d o).a.natAbs:Int)*(JU d k).c<((JU d k).a.natAbs:Int)*(JU d o).c
instance:Decidable (gtL d x y):=by unfold gtL;infer_instance
end
end NM
set_option maxHeartbeats 1000000
namespace NM
section
variable {d:Int}{x y z k s o:N3}{A B C A' B' C' P Q R E F G:Int}
theorem OK(hn:norm d k≠0):Rep (aL d k) (k.c*k.a) (-k.c*k.b) (norm d k):=dZ hn
end
end NM
set_option maxHeartbeats 4000000
namespace NM
end NM
set_option maxHeartbeats 400000
namespace NM
end NM
namespace NM
section
variable {d:Int}{x y z k s o f:N3}
theorem FA(ok:Ok k)(hn:norm d k≠0):norm d (aL d k)≠0:=by
 have o:=bP hn
 intro z
 have t:=o3 ok hn
 have e:=congrArg (norm d) t
 have n1:norm d one=1:=by unfold norm one;simp
 have r:=(Rep.times (d:=d) ok o (bL ok) (bL o)).norm (d:=d)
 rw[e,n1] at r
 have e2:(k.a*(aL d k).a+d*k.b*(aL d k).b)*(k.a*(aL d k).a+d*k.b*(aL d k).b)-d*(k.a*(aL d k).b+k.b*(aL d k).a)*(k.a*(aL d k).b+k.b*(aL d k).a)=norm d k*norm d (aL d k):=by
  unfold norm;grind
 rw[e2,z,Int.mul_zero,Int.zero_mul,Int.one_mul] at r
 have h1:=mul_ne_zero ok.cn o.cn
 exact mul_ne_zero h1 h1 r
theorem JK(ok:Ok k)(hn:norm d k≠0):aL d (aL d k)=k:=by
 have r:=(OK hn).aL (bP hn) (FA ok hn)
 have e:k.c*k.a*(k.c*k.a)-d*(-k.c*k.b)*(-k.c*k.b)=k.c*k.c*norm d k:=by unfold norm;grind
 rw[e] at r
 refine Rep.eq (bP (FA ok hn)) ok r (bL ok) ?_ ?_<;>grind
end
end NM
set_option maxHeartbeats 4000000
namespace NM
section
variable {d:Int}{x y z u p q s t w h p' q' s' t' w' h':N3}
def hf(d:Int)(p q h:N3):N3:=plus (times d p h) (times d q (OE h))
end
end NM
set_option maxHeartbeats 400000
namespace NM
end NM
set_option maxHeartbeats 4000000
namespace GR
theorem pig{α:Type}[DecidableEq α]{l m:List α}(hn:l.Nodup)(hs:∀x∈l,x∈m):l.length<=m.length:=by
 induction l generalizing m with
 |nil=>exact zero_le _
 |cons a l ih=>
  obtain⟨h1,h2⟩:=List.nodup_cons.mp hn
  have hm:a∈m:=hs a mem_cons_self
  have:=ih (m:=m.erase a) h2 fun x hx=>(List.mem_erase_of_ne (show x≠a from fun e=>h1 (e▸hx))).mpr (hs x (mem_cons_of_mem _ hx))
  rw[List.length_erase_of_mem hm] at this
  have:0<m.length:=List.length_pos_of_mem hm
  simp only[length_cons]
  omega
theorem N1{α:Type}[DecidableEq α]{l m:List α}(hn:l.Nodup)(hs:∀x∈l,x∈m)(hl:m.length<=l.length){x:α}(hx:x∈m):x∈l:=by
 by_cases c:x∈l
 ·exact c
 ·have:=pig (l:=x::l) (m:=m) (List.nodup_cons.mpr ⟨c,hn⟩) fun y hy=>by
   rcases List.mem_cons.mp hy with rfl|hy
   ·exact hx
   ·exact hs y hy
  simp only[length_cons] at this
  omega
theorem R3{α:Type}[DecidableEq α]{l m:List α}(hn:l.Nodup)(hm:m.Nodup)(h:∀x,x∈l↔x∈m):l.length=m.length:=
 Nat.le_antisymm (pig hn fun x=>(h x).mp) (pig hm fun x=>(h x).mpr)
structure Bx where
 l:Nat
 r:Nat
 b:Nat
 t:Nat
noncomputable def Bx.has(q:Bx)(i j:Nat):Prop:=q.l<=i/\i<q.r/\q.b<=j/\j<q.t
def run(a b:Nat):List Nat:=(List.range (b-a)).map (a + ·)
theorem Pc{a b x:Nat}:x∈run a b↔a<=x/\x<b:=by
 unfold run
 simp only[mem_map,List.mem_range]
 constructor
 ·rintro ⟨k,h,rfl⟩;omega
 ·rintro ⟨h1,h2⟩;exact⟨x-a,∅,∅⟩
theorem Bg{a b:Nat}:(run a b).Nodup:=by
 unfold run
 refine List.Pairwise.map _ (fun x y h e=>h ∅) List.nodup_range
theorem pN{a b:Nat}:(run a b).length=b-a:=by simp[run]
def cellsOf(q:Bx):List (Nat×Nat):=(run q.l q.r).flatMap fun i=>(run q.b q.t).map fun j=>(i,j)
theorem bM{q:Bx}{i j:Nat}:(i,j)∈cellsOf q↔q.has i j:=by
 unfold cellsOf Bx.has
 simp only[List.mem_flatMap,mem_map,Pc,Prod.mk.injEq]
 constructor
 ·rintro ⟨a,⟨h1,h2⟩,b,⟨h3,h4⟩,rfl,rfl⟩;exact⟨h1,h2,h3,h4⟩
 ·rintro ⟨h1,h2,h3,h4⟩;exact⟨i,⟨h1,h2⟩,j,⟨h3,h4⟩,rfl,rfl⟩
theorem zN{α β:Type}{f:α->List β}{l:List α}:(l.flatMap f).Nodup↔(∀x∈l,(f x).Nodup)/\l.Pairwise fun a b=>∀y∈f a,y ∉ f b:=by
 induction l with
 |nil=>simp
 |cons a l ih=>
  rw[flatMap_cons,List.nodup_append,ih,List.pairwise_cons]
  constructor
  ·rintro ⟨h1,⟨h2,h3⟩,h4⟩
   refine⟨fun x hx=>?_,fun b hb y hy hz=>h4 y hy y (List.mem_flatMap.mpr ⟨b,hb,hz⟩) rfl,h3⟩
   rcases List.mem_cons.mp hx with rfl|hx
   ·exact h1
   ·exact h2 x hx
  ·rintro ⟨h1,h2,h3⟩
   refine⟨h1 a mem_cons_self,⟨fun x hx=>h1 x (mem_cons_of_mem _ hx),h3⟩,fun y hy z hz e=>?_⟩
   obtain⟨b,hb,hz⟩:=List.mem_flatMap.mp hz
   exact h2 b hb y hy (e▸hz)
theorem ql(q:Bx):(cellsOf q).Nodup:=by
 unfold cellsOf
 rw[zN]
 refine⟨fun x _=>List.Pairwise.map _ (fun a b h e=>h (by injection e)) Bg,?_⟩
 refine List.Pairwise.imp (fun {a b} h y hy hz=>?_) (Bg (a:=q.l) (b:=q.r))
 obtain⟨j,_,rfl⟩:=List.mem_map.mp hy
 obtain⟨k,_,e⟩:=List.mem_map.mp hz
 injection e with e1 e2
 exact h e1.symm
def cells(qs:List Bx):List (Nat×Nat):=qs.flatMap cellsOf
noncomputable def Apart(q p:Bx):Prop:=∀i j,q.has i j->¬ p.has i j
theorem Apart.symm{q p:Bx}(h:Apart q p):Apart p q:=fun i j h1 h2=>h i j h2 h1
theorem oJ{qs:List Bx}:(cells qs).Nodup↔qs.Pairwise Apart:=by
 unfold cells
 rw[zN]
 constructor
 ·rintro ⟨_,h⟩
  exact h.imp fun {a b} z i j h1 h2=>z (i,j) (bM.mpr h1) (bM.mpr h2)
 ·intro h
  exact⟨fun q _=>ql q,h.imp fun {a b} z y h1 h2=>z y.1 y.2 (bM.mp h1) (bM.mp h2)⟩
theorem jh{qs:List Bx}{i j:Nat}:(i,j)∈cells qs↔∃q∈qs,q.has i j:=by
 unfold cells
 simp only[List.mem_flatMap,bM]
def uC(qs:List Bx)(C R:Nat):Bool:=decide (cells qs).Nodup&&decide ((cells qs).length=C*R)
theorem rA{C R:Nat}:(cellsOf ⟨0,C,0,R⟩).length=C*R:=by
 unfold cellsOf
 rw[List.length_flatMap]
 have:(fun i:Nat=>((run 0 R).map fun j=>(i,j)).length)=fun _=>R:=by funext i;rw[length_map,pN];rfl
 simp only[this,List.map_const',pN,List.sum_replicate_nat,Nat.sub_zero]
theorem Fs{qs:List Bx}{C R:Nat}(hin:∀q∈qs,q.r<=C/\q.t<=R):uC qs C R=true↔qs.Pairwise Apart/\∀i j,i<C->j<R->∃q∈qs,q.has i j:=by
 unfold uC
 rw[and_eq_true,decide_eq_true_iff,decide_eq_true_iff,oJ]
 have sub:∀x∈cells qs,x∈cellsOf ⟨0,C,0,R⟩:=fun x hx=>by
  obtain⟨q,hq,h⟩:=jh.mp hx
  obtain⟨h1,h2⟩:=hin q hq
  exact bM.mpr ⟨zero_le _,lt_of_lt_of_le h.2.1 h1,zero_le _,lt_of_lt_of_le h.2.2.2 h2⟩
 constructor
 ·rintro ⟨h1,h2⟩
  refine⟨h1,fun i j hi hj=>?_⟩
  have:=N1 (oJ.mpr h1) sub (by rw[rA,h2];exact le_refl _) (x:=(i,j)) (bM.mpr ⟨zero_le _,hi,zero_le _,hj⟩)
  exact jh.mp this
 ·rintro ⟨h1,h2⟩
  refine⟨h1,?_⟩
  rw[<- rA]
  refine R3 (oJ.mpr h1) (ql _) fun x=>⟨sub x,fun hx=>?_⟩
  obtain⟨_,hi,_,hj⟩:=bM.mp hx
  exact jh.mpr (h2 x.1 x.2 hi hj)
structure gF(qs:List Bx)(C R:Nat):Prop where
 fits:∀q∈qs,q.l<q.r/\q.r<=C/\q.b<q.t/\q.t<=R
 apart:qs.Pairwise Apart
 all:∀i j,i<C->j<R->∃q∈qs,q.has i j
theorem gF.perm{qs ps:List Bx}{C R:Nat}(h:gF qs C R)(p:ps.Perm qs):gF ps C R:=
 ⟨fun q hq=>h.fits q (p.mem_iff.mp hq),(p.pairwise_iff fun z=>z.symm).mpr h.apart,fun i j hi hj=>by
  obtain⟨q,hq,z⟩:=h.all i j hi hj
  exact⟨q,p.mem_iff.mpr hq,z⟩⟩
end GR
namespace GR
noncomputable abbrev Up(A:List Nat):Prop:=A.Pairwise (· < ·)
theorem dI{α:Type}[BEq α][LawfulBEq α]{A:List α}{a:α}(h:a∈A):A.idxOf a<A.length:=List.idxOf_lt_length_iff.mpr h
theorem zi{α:Type}[BEq α][LawfulBEq α]{A:List α}{a:α}(h:a∈A):A[A.idxOf a]'(dI h)=a:=List.getElem_idxOf (dI h)
theorem LG{A:List Nat}(hA:Up A){a i:Nat}(ha:a∈A)(hi:i<A.length):A.idxOf a<=i↔a<=A[i]:=by
 have e:=zi ha
 constructor
 ·intro h
  rcases lt_or_eq_of_le h with h|h
  ·have:=List.pairwise_iff_getElem.mp hA _ _ (dI ha) hi h
   omega
  ·have:A[A.idxOf a]'(dI ha)=A[i]:=by congr 1
   omega
 ·intro h
  rcases lt_or_ge i (A.idxOf a) with z|z
  ·have:=List.pairwise_iff_getElem.mp hA _ _ hi (dI ha) z
   omega
  ·exact z
theorem Py{A:List Nat}(hA:Up A){a i:Nat}(ha:a∈A)(hi:i<A.length):i<A.idxOf a↔A[i]<a:=by
 have:=LG hA ha hi
 omega
def cb(A B:List Nat)(q:Bx):Bx:=⟨A.idxOf q.l,A.idxOf q.r,B.idxOf q.b,B.idxOf q.t⟩
structure OnG(A B:List Nat)(q:Bx):Prop where
 l:q.l∈A
 r:q.r∈A
 b:q.b∈B
 t:q.t∈B
theorem Ir{A B:List Nat}(hA:Up A)(hB:Up B){q:Bx}(g:OnG A B q){i j:Nat}(hi:i<A.length)(hj:j<B.length):(cb A B q).has i j↔q.has A[i] B[j]:=by
 unfold Bx.has cb
 rw[LG hA g.l hi,Py hA g.r hi,LG hB g.b hj,Py hB g.t hj]
theorem RF{A B:List Nat}(hA:Up A)(hB:Up B){qs:List Bx}{C R:Nat}(hc:gF qs C R)(g:∀q∈qs,OnG A B q)(hAC:∀a∈A,a<=C)(hBR:∀b∈B,b<=R):uC (qs.map (cb A B)) (A.length-1) (B.length-1)=true:=by
 refine (Fs ?_).mpr ⟨?_,?_⟩
 ·intro q hq
  obtain⟨q,hq2,rfl⟩:=List.mem_map.mp hq
  have a:=dI (g q hq2).r
  have b:=dI (g q hq2).t
  unfold cb
  dsimp only
  omega
 ·rw[List.pairwise_map]
  refine List.Pairwise.imp_of_mem (fun {q p} hq hp h i j h1 h2=>?_) hc.apart
  have gq:=g q hq
  have hi:i<A.length:=Nat.lt_trans h1.2.1 (dI gq.r)
  have hj:j<B.length:=Nat.lt_trans h1.2.2.2 (dI gq.t)
  exact h _ _ ((Ir hA hB gq hi hj).mp h1) ((Ir hA hB (g p hp) hi hj).mp h2)
 ·intro i j hi hj
  have a1:A[i]<A[i+1]:=List.pairwise_iff_getElem.mp hA _ _ ∅ ∅ ∅
  have a2:=hAC A[i+1] (getElem_mem _)
  have b1:B[j]<B[j+1]:=List.pairwise_iff_getElem.mp hB _ _ ∅ ∅ ∅
  have b2:=hBR B[j+1] (getElem_mem _)
  obtain⟨q,hq,h⟩:=hc.all A[i] B[j] ∅ ∅
  exact⟨_,mem_map_of_mem hq,(Ir hA hB (g q hq) ∅ ∅).mpr h⟩
theorem gF.ends{qs:List Bx}{C R:Nat}(h:gF qs C R)(hC:0<C)(hR:0<R):(∃q∈qs,q.l=0)/\(∃q∈qs,q.r=C)/\(∃q∈qs,q.b=0)/\(∃q∈qs,q.t=R):=by
 obtain⟨q,hq,h1⟩:=h.all 0 0 hC hR
 obtain⟨p,hp,h2⟩:=h.all (C-1) (R-1) ∅ ∅
 have f:=h.fits p hp
 refine⟨⟨q,hq,?_⟩,⟨p,hp,?_⟩,⟨q,hq,?_⟩,⟨p,hp,?_⟩⟩<;>unfold Bx.has at h1 h2<;>omega
structure Laid(qs:List Bx)(C R x y:Nat):Prop where
 fits:∀q∈qs,q.l<q.r/\q.r<=C/\q.b<q.t/\q.t<=R/\q.b<=y
 apart:qs.Pairwise Apart
 below:∀i j,i<C->j<y->∃q∈qs,q.has i j
 before:∀i,i<x->i<C->∃q∈qs,q.has i y
theorem Laid.nil{C R:Nat}:Laid [] C R 0 0:=⟨fun _ h=>absurd h not_mem_nil,.nil,fun _ _ _ h=>absurd h (not_lt_zero _),fun _ h=>absurd h (not_lt_zero _)⟩
theorem Laid.row{qs:List Bx}{C R y:Nat}(h:Laid qs C R C y):Laid qs C R 0 (y+1):=
 ⟨fun q hq=>by have:=h.fits q hq;omega,h.apart,fun i j hi hj=>by
  rcases lt_or_eq_of_le (le_of_lt_succ hj) with z|z
  ·exact h.below i j hi z
  ·rw[z];exact h.before i hi hi,fun _ h=>absurd h (not_lt_zero _)⟩
theorem Laid.met{qs:List Bx}{C R x y:Nat}(h:Laid qs C R x y)(m:∃q∈qs,q.has x y):Laid qs C R (x+1) y:=
 ⟨h.fits,h.apart,h.below,fun i hi hc=>by
  rcases lt_or_eq_of_le (le_of_lt_succ hi) with z|z
  ·exact h.before i z hc
  ·rw[z];exact m⟩
theorem Laid.put{qs:List Bx}{C R x y w k:Nat}(h:Laid qs C R x y)(hw:0<w)(hk:0<k)(hx:x+w<=C)(hy:y+k<=R)(free:∀i,x<=i->i<x+w->∀q∈qs,¬ q.has i y):Laid (qs++[⟨x,x+w,y,y+k⟩]) C R (x+1) y:=by
 refine⟨fun q hq=>?_,?_,fun i j hi hj=>?_,fun i hi hc=>?_⟩
 ·rcases List.mem_append.mp hq with hq|hq
  ·exact h.fits q hq
  ·obtain rfl:=List.mem_singleton.mp hq
   dsimp only
   omega
 ·refine List.pairwise_append.mpr ⟨h.apart,List.pairwise_singleton _ _,fun a ha b hb i j h1 h2=>?_⟩
  obtain rfl:=List.mem_singleton.mp hb
  have f:=h.fits a ha
  unfold Bx.has at h1 h2
  dsimp only at h2
  exact free i h2.1 h2.2.1 a ha ⟨h1.1,h1.2.1,∅,∅⟩
 ·obtain⟨q,hq,z⟩:=h.below i j hi hj
  exact⟨q,mem_append_left _ hq,z⟩
 ·rcases lt_or_eq_of_le (le_of_lt_succ hi) with z|z
  ·obtain⟨q,hq,z⟩:=h.before i z hc
   exact⟨q,mem_append_left _ hq,z⟩
  ·exact⟨_,mem_append_right _ mem_cons_self,by subst z;unfold Bx.has;dsimp only;omega⟩
theorem Laid.done{qs:List Bx}{C R:Nat}(h:Laid qs C R 0 R):gF qs C R:=⟨fun q hq=>by have:=h.fits q hq;omega,h.apart,h.below⟩
end GR
namespace L2.DL
open PySem PySem.Spec PyProof.Rows
inductive Box where
 |dict (kvs:List (List Int×PyData))
 |set (ks:List (List Int))
structure Mu where
 l:Addr->Option (List PyData)
 b:Addr->Option Box
instance:CoeFun Mu fun _=>Addr->Option (List PyData):=⟨Mu.l⟩
abbrev PQ:=PySem.W.Frag->V->Mu->Hp->Prop
inductive D where
 |v (x:PyData)
 |m (a:Addr)
 |s (ns:List Int)
  /-- an object that is handed on -/
 |o (a:Addr)
  /-- a dict or a set -/
 |b (a:Addr)
  /-- a thing of which something is known that stays -/
 |q (P:PQ)
abbrev Rho:=List (Option D)
def az(Z:Mu)(a:Addr)(ds:List PyData):Mu:=⟨fun b=>if b=a then some ds else Z b,Z.b⟩
theorem aI{Z:Mu}{a:Addr}{ds}:az Z a ds a=some ds:=if_pos rfl
theorem aT{Z:Mu}{a b:Addr}{ds}(h:b≠a):az Z a ds b=Z b:=if_neg h
def br(Z:Mu)(a:Addr)(c:Box):Mu:=⟨Z.l,fun b=>if b=a then some c else Z.b b⟩
theorem bA{Z:Mu}{a:Addr}{c}:(br Z a c).b a=some c:=if_pos rfl
theorem bQ{Z:Mu}{a b:Addr}{c}(h:b≠a):(br Z a c).b b=Z.b b:=if_neg h
theorem Mu.eq{Z ν:Mu}(h1:∀b,Z b=ν b)(h2:∀b,Z.b b=ν.b b):Z=ν:=by
 obtain⟨l,b⟩:=Z;obtain⟨l',b'⟩:=ν
 cases (funext h1:l=l');cases (funext h2:b=b');rfl
theorem KA{Z:Mu}{a:Addr}{c d}:br (br Z a c) a d=br Z a d:=Mu.eq (fun _=>rfl) fun b=>by
 by_cases h:b=a
 ·subst h;rw[bA,bA]
 ·rw[bQ h,bQ h,bQ h]
theorem fA{Z:Mu}{a:Addr}{ds es}:az (az Z a ds) a es=az Z a es:=Mu.eq (fun b=>by
 by_cases h:b=a
 ·subst h;rw[aI,aI]
 ·rw[aT h,aT h,aT h]) fun _=>rfl
mutual
inductive Rp(K:PySem.W.Frag)(Z:Mu)(H:Hp):PyData->V->Prop
 |none:Rp K Z H .none .non
 |bool (b:Bool):Rp K Z H (.bool b) (.bl b)
 |int (i:Int):Rp K Z H (.int i) (.int i)
 |str (x:Str):Rp K Z H (.str x) (.str x)
 |list {a:Addr} {xs:List V} {ds:List PyData}:H a=some (.lst xs)->Z a=Option.none->RpL K Z H ds xs->Rp K Z H (.list ds) (.ref a)
 |tuple {a:Addr} {xs:List V} {ds:List PyData}:SqT K H a xs->RpL K Z H ds xs->Rp K Z H (.tuple ds) (.ref a)
inductive RpL(K:PySem.W.Frag)(Z:Mu)(H:Hp):List PyData->List V->Prop
 |nil:RpL K Z H [] []
 |cons {d:PyData} {v:V} {ds:List PyData} {vs:List V}:Rp K Z H d v->RpL K Z H ds vs->RpL K Z H (d::ds) (v::vs)
end
def NT:HO->Prop
 |.tbl _=>False
 |.raw _=>False
 |_=>True
structure Ext(K:PySem.W.Frag)(Z:Mu)(H:Hp)(U:Mu)(H':Hp):Prop where
 keep:∀b o,H b=some o->Z b=none->NT o->H' b=some o
 tb:∀b ps,H b=some (.tbl ps)->Z b=none->∃ps',H' b=some (.tbl ps')
 dom:∀b ds,Z b=some ds->∃es,U b=some es
 fresh:∀b,Z b=none->(H b≠none\/K.lookup b≠none)->U b=none
 st:∀b o,H b=some o->Z b=none->∃o',H' b=some o'
 bx:∀b c,Z.b b=some c->∃c',U.b b=some c'
def RpD(K:PySem.W.Frag)(Z:Mu)(H:Hp):D->V->Prop
 |.v x,u=>Rp K Z H x u
 |.m a,u=>u = .ref a/\∃ds,Z a=some ds
 |.s ns,u=>∃a,u = .ref a/\SqL K H a (ns.map V.int)/\Z a=none
 |.o a,u=>u = .ref a
 |.b a,u=>u = .ref a/\∃c,Z.b a=some c
 |.q P,u=>∀U H',Ext K Z H U H'->P K u U H'
noncomputable def codeAt(c:Addr)(q:Str)(h:Heap):Prop:=∃o vs t,h.get? c=some o/\o.data = .fields vs/\vs[1]? = some (.str q t)
abbrev NO(q:Str):Str:=(q ++ ".<locals>.") ++ "<lambda>"
noncomputable def Ul(H:Hp)(P:Addr)(q:Str):Prop:=∃ps:Array Value,H P=some (.tbl ps)/\TriplesOk ps.toList/\∀pos cv,codeAmong pos ps.toList=some cv->∃c,cv = .ref c/\H c=some (.ext (codeAt c (NO q)))
noncomputable def FI(K:PySem.W.Frag)(H:Hp):Prop:=∀c o P q,K.lookup c=some o->cV o=some (P,q)->Ul H P q
abbrev hI(ks:List Int):Int:=reduceHash (Builtin.Tuple.tupleHashOf (ks.map hashInt))
noncomputable def gr(K:PySem.W.Frag)(Z:Mu)(H:Hp)(kvs:List (List Int×PyData))(xs:List (List Int×Addr×Value)):Prop:=
 Paired (fun (p:List Int×PyData) (q:List Int×Addr×Value)=>p.1=q.1/\SqT K H q.2.1 (p.1.map V.int)/\∃v,Rp K Z H p.2 v/\RelV v q.2.2) kvs xs
def iH(K:PySem.W.Frag)(Z:Mu)(H:Hp):Box->Obj->Prop
 |.dict kvs,o=>kvs.length<=sizeLine/\o.ExactDict/\∃es ep,∃xs:List (List Int×Addr×Value),o.data = .dict es ep/\es.toList=xs.map (fun x=>⟨hI x.1,.ref x.2.1,x.2.2⟩)/\(xs.map (·.1)).Nodup/\gr K Z H kvs xs
 |.set ks,o=>o.ExactSet/\∃(L:ST.Ln Value) (ep:Nat) (t:SetTable),o.data = .set (L.map (·.2)).toArray ep t/\ST.Tab t L/\L.length*5<t.mask*3/\L.length=ks.length /\
   (∀x∈L,∃k q,x.2.2 = .ref q/\SqT K H q (k.map V.int)/\x.2.1=hI k/\k∈ks)/\∀k∈ks,∃x∈L,∃q,x.2.2 = .ref q/\SqT K H q (k.map V.int)
structure bG(K:PySem.W.Frag)(Z:Mu)(H:Hp):Prop where
 lst:∀a ds,Z a=some ds->∃xs,H a=some (.lst xs)/\RpL K Z H ds xs
 tab:FI K H
 box:∀a c,Z.b a=some c->(a==sysModules)=false/\∃o,H a=some (.raw o)/\iH K Z H c o
instance {K:PySem.W.Frag} {Z:Mu} {H:Hp}:CoeFun (bG K Z H) fun _=>∀a ds,Z a=some ds->∃xs,H a=some (.lst xs)/\RpL K Z H ds xs:=⟨bG.lst⟩
theorem FI.of{K:PySem.W.Frag}{H H1:Hp}(t:FI K H)(s:∀b o,H b=some o->(∀xs,o≠.lst xs)->(∀ob,o≠.raw ob)->H1 b=some o):FI K H1:=fun c o P q h1 h2=>by
 obtain⟨ps,a1,a2,a3⟩:=t c o P q h1 h2
 exact⟨ps,s _ _ a1 (fun _ z=>nomatch z) (fun _ z=>nomatch z),a2,fun pos cv e=>let ⟨c,q1,q2⟩:=a3 pos cv e;⟨c,q1,s _ _ q2 (fun _ z=>nomatch z) (fun _ z=>nomatch z)⟩⟩
noncomputable def gG(K:PySem.W.Frag)(Z:Mu)(H:Hp)(ρ:Rho)(σ:St):Prop:=
 ρ.length=σ.length/\∀(i:Nat) (d:D),ρ[i]? = some (some d)->∃u,σ[i]? = some (some u)/\RpD K Z H d u
structure St0(K:PySem.W.Frag)(H:Hp)(ρ:Rho)(Z:Mu)(σ:St):Prop where
 mu:bG K Z H
 rho:gG K Z H ρ σ
section
variable {K:PySem.W.Frag}{Z ad am:Mu}{H H1 H2:Hp}
theorem Ext.refl:Ext K Z H Z H:=⟨fun _ _ h _ _=>h,fun _ ps h _=>⟨ps,h⟩,fun _ ds h=>⟨ds,h⟩,fun _ h _=>h,fun _ o h _=>⟨o,h⟩,fun _ c h=>⟨c,h⟩⟩
theorem Ext.trans(a:Ext K Z H ad H1)(b:Ext K ad H1 am H2):Ext K Z H am H2 where
 keep:=fun c o h n t=>b.keep c o (a.keep c o h n t) (a.fresh c n (.inl (by rw[h];exact fun z=>nomatch z))) t
 tb:=fun c ps h n=>by
  obtain⟨ps1,h1⟩:=a.tb c ps h n
  exact b.tb c ps1 h1 (a.fresh c n (.inl (by rw[h];exact fun z=>nomatch z)))
 dom:=fun c ds h=>let ⟨es,q⟩:=a.dom c ds h;b.dom c es q
 fresh:=fun c n h=>by
  refine b.fresh c (a.fresh c n h) ?_
  rcases h with h|h
  ·cases q:H c with
   |none=>exact absurd q h
   |some o=>
    obtain⟨o',h'⟩:=a.st c o q n
    exact .inl (by rw[h'];exact fun z=>nomatch z)
  ·exact .inr h
 st:=fun c o h n=>by
  obtain⟨o',h'⟩:=a.st c o h n
  exact b.st c o' h' (a.fresh c n (.inl (by rw[h];exact fun z=>nomatch z)))
 bx:=fun c x h=>let ⟨x',q⟩:=a.bx c x h;b.bx c x' q
theorem Ext.of_same(s:yf H H1):Ext K Z H Z H1:=⟨fun b o h _ _=>s b o h,fun b ps h _=>⟨ps,s b _ h⟩,fun _ ds h=>⟨ds,h⟩,fun _ h _=>h,fun b o h _=>⟨o,s b o h⟩,fun _ c h=>⟨c,h⟩⟩
theorem bG.not{a:Addr}{o:HO}(ok:bG K Z H)(h:H a=some o)(n:∀xs,o≠.lst xs):Z a=none:=by
 cases q:Z a with
 |none=>rfl
 |some ds=>
  obtain⟨ys,e,_⟩:=ok a ds q
  rw[h] at e
  exact absurd (Option.some.inj e) (n ys)
theorem bG.free{a:Addr}(ok:bG K Z H)(h:H a=none):Z a=none:=by
 cases q:Z a with
 |none=>rfl
 |some ds=>
  obtain⟨ys,e,_⟩:=ok a ds q
  rw[h] at e;cases e
theorem mz{a:Addr}{xs:List V}(ok:bG K Z H)(e:Ext K Z H ad H1)(h:SqT K H a xs):SqT K H1 a xs:=by
 rcases h with (h|⟨o,h⟩)|h
 ·exact .inl (.inl (e.keep _ _ h (ok.not h fun _ z=>nomatch z) trivial))
 ·exact .inl (.inr ⟨o,e.keep _ _ h (ok.not h fun _ z=>nomatch z) trivial⟩)
 ·exact .inr h
theorem JH{a:Addr}{xs:List V}(e:Ext K Z H ad H1)(h:SqL K H a xs)(n:Z a=none):SqL K H1 a xs/\ad a=none:=by
 rcases h with (h|⟨o,h⟩)|h
 ·exact⟨.inl (.inl (e.keep _ _ h n trivial)),e.fresh _ n (.inl (by rw[h];exact fun z=>nomatch z))⟩
 ·exact⟨.inl (.inr ⟨o,e.keep _ _ h n trivial⟩),e.fresh _ n (.inl (by rw[h];exact fun z=>nomatch z))⟩
 ·obtain⟨o,its,k,hk,r⟩:=id h
  exact⟨.inr h,e.fresh _ n (.inr (by rw[hk];exact fun z=>nomatch z))⟩
mutual
theorem Rp.ext{d:PyData}{u:V}(ok:bG K Z H)(e:Ext K Z H ad H1):Rp K Z H d u->Rp K ad H1 d u
 |.none=>.none
 |.bool b=>.bool b
 |.int i=>.int i
 |.str x=>.str x
 |.list h n r=>.list (e.keep _ _ h n trivial) (e.fresh _ n (.inl (by rw[h];exact fun z=>nomatch z))) (RpL.ext ok e r)
 |.tuple h r=>.tuple (mz ok e h) (RpL.ext ok e r)
theorem RpL.ext{ds:List PyData}{us:List V}(ok:bG K Z H)(e:Ext K Z H ad H1):RpL K Z H ds us->RpL K ad H1 ds us
 |.nil=>.nil
 |.cons h r=>.cons (Rp.ext ok e h) (RpL.ext ok e r)
end
theorem RpD.ext{d:D}{u:V}(ok:bG K Z H)(e:Ext K Z H ad H1)(r:RpD K Z H d u):RpD K ad H1 d u:=by
 cases d with
 |v x=>exact Rp.ext ok e r
 |m a=>obtain⟨h,ds,q⟩:=r;exact⟨h,e.dom a ds q⟩
 |s ns=>obtain⟨a,h,q,n⟩:=r;exact⟨a,h,(JH e q n).1,(JH e q n).2⟩
 |o a=>exact r
 |b a=>obtain⟨h,c,q⟩:=r;exact⟨h,e.bx a c q⟩
 |q P=>exact fun U H' e'=>r U H' (e.trans e')
theorem iH.ext{c:Box}{o:Obj}(ok:bG K Z H)(e:Ext K Z H ad H1)(r:iH K Z H c o):iH K ad H1 c o:=by
 cases c with
 |dict kvs=>
  obtain⟨h1,h2,es,ep,xs,h3,h4,h5,h6⟩:=r
  exact⟨h1,h2,es,ep,xs,h3,h4,h5,Paired.Pe h6 fun p q ⟨z1,z2,v,z3,z4⟩=>⟨z1,mz ok e z2,v,Rp.ext ok e z3,z4⟩⟩
 |set ks=>
  obtain⟨h1,L,ep,t,h2,h3,h4,h5,h6,h7⟩:=r
  exact⟨h1,L,ep,t,h2,h3,h4,h5,fun x hx=>let ⟨k,q,z1,z2,z3⟩:=h6 x hx;⟨k,q,z1,mz ok e z2,z3⟩,fun k hk=>let ⟨x,hx,q,z1,z2⟩:=h7 k hk;⟨x,hx,q,z1,mz ok e z2⟩⟩
theorem bG.JT{a:Addr}(ok:bG K Z H)(h:H a=none):Z.b a=none:=by
 cases q:Z.b a with
 |none=>rfl
 |some c=>
  obtain⟨_,ob,e,_⟩:=ok.box a c q
  rw[h] at e;cases e
theorem gG.ext{ρ:Rho}{σ:St}(ok:bG K Z H)(e:Ext K Z H ad H1)(r:gG K Z H ρ σ):gG K ad H1 ρ σ:=
 ⟨r.1,fun i d h=>let ⟨u,h1,h2⟩:=r.2 i d h;⟨u,h1,h2.ext ok e⟩⟩
theorem RpL.length{ds:List PyData}{us:List V}:RpL K Z H ds us->ds.length=us.length
 |.nil=>rfl
 |.cons _ r=>congrArg (· + 1) (RpL.length r)
theorem RpL.get{ds:List PyData}{us:List V}:∀{i:Nat} {d:PyData},RpL K Z H ds us->ds[i]? = some d->∃u,us[i]? = some u/\Rp K Z H d u
 |_,_,.nil,h=>by simp at h
 |0,_,.cons r _,h=>by simp at h;subst h;exact⟨_,rfl,r⟩
 |i+1,d,.cons _ t,h=>by
  obtain⟨u,h1,h2⟩:=RpL.get (i:=i) (d:=d) t (by simpa using h)
  exact⟨u,by simpa using h1,h2⟩
theorem RpL.append{ds es:List PyData}{us ws:List V}:RpL K Z H ds us->RpL K Z H es ws->RpL K Z H (ds++es) (us++ws)
 |.nil,s=>s
 |.cons r t,s=>.cons r (RpL.append t s)
theorem RpL.take{ds:List PyData}{us:List V}:∀(n:Nat),RpL K Z H ds us->RpL K Z H (ds.take n) (us.take n)
 |0,_=>by simp;exact .nil
 |_+1,.nil=>by simp;exact .nil
 |n+1,.cons r t=>.cons r (RpL.take n t)
theorem RpL.drop{ds:List PyData}{us:List V}:∀(n:Nat),RpL K Z H ds us->RpL K Z H (ds.drop n) (us.drop n)
 |0,r=>r
 |_+1,.nil=>by simp;exact .nil
 |n+1,.cons _ t=>RpL.drop n t
theorem RpL.set{ds:List PyData}{us:List V}{d:PyData}{u:V}(q:Rp K Z H d u):∀(i:Nat),RpL K Z H ds us->RpL K Z H (ds.set i d) (us.set i u)
 |_,.nil=>.nil
 |0,.cons _ t=>.cons q t
 |i+1,.cons r t=>.cons r (RpL.set q i t)
theorem Hi{ds:List PyData}{us:List V}{i:Int}{d:PyData}(r:RpL K Z H ds us)(h:atI ds i=some d):∃u,atI us i=some u/\Rp K Z H d u:=by
 unfold atI at h ⊢
 rw[<- r.length]
 cases q:ixN ds.length i with
 |none=>rw[q] at h;cases h
 |some j=>
  rw[q] at h
  exact r.get h
abbrev DK:=D->Mu->Prop
abbrev DTE:=Rho->Mu->DK->Prop
abbrev DTT:=Rho->Mu->(Bool->Mu->Prop)->Prop
abbrev DTA:=Rho->Mu->(List D->Mu->Prop)->Prop
structure Bs where
 nx:Rho->Mu->Prop
 rt:DK
 bk:Rho->Mu->Prop:=fun _ _=>False
 ct:Rho->Mu->Prop:=fun _ _=>False
abbrev DTS:=Bs->Rho->Mu->Prop
inductive jO(K:PySem.W.Frag)(Z:Mu)(H:Hp):List D->List V->Prop
 |nil:jO K Z H [] []
 |cons {d:D} {u:V} {ds:List D} {us:List V}:RpD K Z H d u->jO K Z H ds us->jO K Z H (d::ds) (u::us)
theorem jO.ext{ds:List D}{us:List V}(ok:bG K Z H)(e:Ext K Z H ad H1):jO K Z H ds us->jO K ad H1 ds us
 |.nil=>.nil
 |.cons h r=>.cons (h.ext ok e) (jO.ext ok e r)
theorem jO.length{ds:List D}{us:List V}:jO K Z H ds us->ds.length=us.length
 |.nil=>rfl
 |.cons _ r=>congrArg (· + 1) (jO.length r)
end
noncomputable def rO(K:PySem.W.Frag)(t:TE)(td:DTE):Prop:=∀(σ:St) (H:Hp) (ρ:Rho) (Z:Mu) (Qd:DK) (Q:VK),St0 K H ρ Z σ->td ρ Z Qd ->
 (∀d u U H',Ext K Z H U H'->St0 K H' ρ U σ->RpD K U H' d u->Qd d U->Q u H')->t σ H Q
noncomputable def Mx(K:PySem.W.Frag)(t:TT)(td:DTT):Prop:=∀(σ:St) (H:Hp) (ρ:Rho) (Z:Mu) (Qd:Bool->Mu->Prop) (Q:Bool->Hp->Prop),St0 K H ρ Z σ->td ρ Z Qd ->
 (∀b U H',Ext K Z H U H'->St0 K H' ρ U σ->Qd b U->Q b H')->t σ H Q
noncomputable def Pk(K:PySem.W.Frag)(n:Nat)(t:TA)(td:DTA):Prop:=∀(σ:St) (H:Hp) (ρ:Rho) (Z:Mu) (Qd:List D->Mu->Prop) (Q:List V->Hp->Prop),St0 K H ρ Z σ->td ρ Z Qd ->
 (∀ds us U H',Ext K Z H U H'->St0 K H' ρ U σ->jO K U H' ds us->ds.length=n->Qd ds U->Q us H')->t σ H Q
noncomputable def Bf(K:PySem.W.Frag)(t:TS)(td:DTS):Prop:=∀(σ:St) (H:Hp) (ρ:Rho) (Z:Mu) (Dd:Bs) (De:Ends),St0 K H ρ Z σ->td Dd ρ Z ->
 (∀bn bm U H',Ext K Z H U H'->St0 K H' bm U bn->Dd.nx bm U->De.nx bn H') ->
 (∀d u U H',Ext K Z H U H'->bG K U H'->RpD K U H' d u->Dd.rt d U->De.rt u H') ->
 (∀bn bm U H',Ext K Z H U H'->St0 K H' bm U bn->Dd.bk bm U->De.bk bn H') ->
 (∀bn bm U H',Ext K Z H U H'->St0 K H' bm U bn->Dd.ct bm U->De.ct bn H')->t De σ H
noncomputable def DE(X:Cx)(e:Expr)(td:DTE):Prop:=∃t,PE X e t/\rO X.K t td
noncomputable def DT(X:Cx)(e:Expr)(td:DTT):Prop:=∃t,PT X e t/\Mx X.K t td
noncomputable def DA(X:Cx)(es:List Expr)(td:DTA):Prop:=∃t,PA X es t/\Pk X.K es.length t td
noncomputable def DS(X:Cx)(st:Stmt)(td:DTS):Prop:=∃t,PS X st t/\Bf X.K t td
noncomputable def DSs(X:Cx)(st:List Stmt)(td:DTS):Prop:=∃t,PSs X st t/\Bf X.K t td
section
variable {X:Cx}{a b c:Expr}{ta tb tc:DTE}{pos:Pos}
noncomputable def ai(i:Nat):DTE:=fun ρ Z Q=>match ρ[i]? with
 |some (some d)=>Q d Z
 |_=>False
noncomputable def dC(x:PyData):DTE:=fun _ Z Q=>Q (.v x) Z
theorem LR{K:PySem.W.Frag}(i:Nat):rO K (Sl i) (ai i):=by
 intro σ H ρ Z Qd Q S h k
 unfold ai at h
 split at h
 ·rename_i d e
  obtain⟨u,h1,h2⟩:=S.rho.2 i d e
  exact⟨u,h1,k d u Z H .refl S h2 h⟩
 ·exact h.elim
theorem dv(i:Nat){x:Str}{pos:Pos}(hN:X.N[i]? = some x:=by rfl)(hv:Vis X.env.scope x:=by first|exact Or.inl rfl|exact Or.inr (Or.inl rfl)|exact Or.inr (Or.inr rfl))(hd:(x==("__debug__":Str))=false:=by decide)
  (hcd:(x==("__classdict__":Str))=false:=by decide):DE X (.Name x pos) (ai i):=⟨_,QH hN hv hd hcd,LR i⟩
theorem IK{K:PySem.W.Frag}{x:PyData}{u:V}(h:∀Z H,bG K Z H->Rp K Z H x u):rO K (tC u) (dC x):=fun σ H ρ Z Qd Q S q k=>k (.v x) u Z H .refl S (h Z H S.mu) q
theorem ah{i j pos}:DE X (.Constant (.int i) j pos) (dC (.int i)):=⟨_,QZ,IK fun _ _ _=>.int i⟩
theorem iG{i j pos}:DE X (.Constant (.bool i) j pos) (dC (.bool i)):=⟨_,Sj,IK fun _ _ _=>.bool i⟩
theorem Cd{x:Str}{d:PyData}{u:V}{w:Value}{pos:Pos}(hg:Gl X x)(hm:X.mg x=some w)(r:RelV u w)(h:∀Z H,bG X.K Z H->Rp X.K Z H d u)(hd:(x==("__debug__":Str))=false:=by decide):DE X (.Name x pos) (dC d):=
 ⟨_,N5 hg hm r hd,IK h⟩
noncomputable def i4(K:PySem.W.Frag)(rr:R2)(r:D->D->Mu->DK->Prop):Prop:=∀(x y:D) (ux uy:V) (H:Hp) (Z:Mu) (Qd:DK) (Q:VK),bG K Z H->RpD K Z H x ux->RpD K Z H y uy->r x y Z Qd ->
 (∀d u U H',Ext K Z H U H'->bG K U H'->RpD K U H' d u->Qd d U->Q u H')->rr ux uy H Q
noncomputable def dOp(r:D->D->Mu->DK->Prop)(ta tb:DTE):DTE:=fun ρ Z Q=>ta ρ Z fun x ad=>tb ρ ad fun y am=>r x y am Q
theorem wV{K:PySem.W.Frag}{rr:R2}{r}{t1 t2:TE}(lo:i4 K rr r)(la:rO K t1 ta)(lb:rO K t2 tb):rO K (tOp rr t1 t2) (dOp r ta tb):=by
 intro σ H ρ Z Qd Q S h k
 refine la σ H ρ Z _ _ S h fun x ux ad H1 e1 S1 rx h1=>?_
 refine lb σ H1 ρ ad _ _ S1 h1 fun y uy am H2 e2 S2 ry h2=>?_
 exact lo x y ux uy H2 am _ _ S2.mu (rx.ext S1.mu e2) ry h2 fun d u U H' e3 ok r q=>k d u U H' (e1.trans (e2.trans e3)) ⟨ok,S2.rho.ext S2.mu e3⟩ r q
theorem vw{op:Operator}{rr:R2}{r}(ho:OpR X (binaryOp op) rr)(lo:i4 X.K rr r)(ha:DE X a ta)(hb:DE X b tb):DE X (.BinOp a op b pos) (dOp r ta tb):=by
 obtain⟨t1,p1,l1⟩:=ha
 obtain⟨t2,p2,l2⟩:=hb
 exact⟨_,R7 ho p1 p2,wV lo l1 l2⟩
theorem dc{op:CmpOp}{rr:R2}{r}(ho:OpR X (compareOp op) rr)(lo:i4 X.K rr r)(ha:DE X a ta)(hb:DE X b tb)(hm:behindInMarks op b=false):DE X (.Compare a [op] [b] pos) (dOp r ta tb):=by
 obtain⟨t1,p1,l1⟩:=ha
 obtain⟨t2,p2,l2⟩:=hb
 exact⟨_,NU ho p1 p2 hm,wV lo l1 l2⟩
noncomputable def dB(t:DTE):DTT:=fun ρ Z Q=>t ρ Z fun d ad=>match d with
 |.v (.bool k)=>Q k ad
 |_=>False
theorem BL{K:PySem.W.Frag}{t:TE}{td:DTE}(l:rO K t td):Mx K (Pu t) (dB td):=by
 intro σ H ρ Z Qd Q S h k
 refine l σ H ρ Z _ _ S h fun d u ad H1 e1 S1 r q=>?_
 split at q
 ·rename_i b
  cases r
  exact⟨b,rfl,k b ad H1 e1 S1 q⟩
 ·exact q.elim
theorem aW{op:CmpOp}{rr:R2}{r}(ho:OpR X (compareOp op) rr)(lo:i4 X.K rr r)(ha:DE X a ta)(hb:DE X b tb)(hm:behindInMarks op b=false):DT X (.Compare a [op] [b] pos) (dB (dOp r ta tb)):=by
 obtain⟨t1,p1,l1⟩:=ha
 obtain⟨t2,p2,l2⟩:=hb
 exact⟨_,NR ho p1 p2 hm,BL (wV lo l1 l2)⟩
theorem cF{e:Expr}{td:DTE}(h:DE X e td)(he:∀whole,isTrue e X.env whole=(do let v <- whole;standAt e.pos;holding [v] (truthy v)):=by intro _;rfl):DT X e (dB td):=by
 obtain⟨t,p,l⟩:=h
 exact⟨_,RL p he,BL l⟩
def rII(C:Int->Int->Prop)(g:Int->Int->PyData):D->D->Mu->DK->Prop:=fun x y Z Q=>match x,y with
 |.v (.int i),.v (.int j)=>C i j/\Q (.v (g i j)) Z
 |_,_=>False
theorem Om{K:PySem.W.Frag}{C:Int->Int->Prop}{g:Int->Int->V}{gd:Int->Int->PyData}(hg:∀Z H i j,Rp K Z H (gd i j) (g i j)):i4 K (rI C g) (rII C gd):=by
 intro x y ux uy H Z Qd Q ok rx ry h k
 unfold rII at h
 split at h
 ·rename_i i j
  cases rx;cases ry
  exact⟨i,j,rfl,rfl,h.1,k (.v _) _ Z H .refl ok (hg Z H i j) h.2⟩
 ·exact h.elim
def AK(g:Int->Int->PyData):D->D->Mu->DK->Prop:=fun x y Z Q=>match x,y with
 |.v (.int i),.v (.int j)=>Q (.v (g i j)) Z
 |_,_=>False
theorem Mf{K:PySem.W.Frag}{g:Int->Int->V}{gd:Int->Int->PyData}(hg:∀Z H i j,Rp K Z H (gd i j) (g i j)):i4 K (rI0 g) (AK gd):=by
 intro x y ux uy H Z Qd Q ok rx ry h k
 unfold AK at h
 split at h
 ·rename_i i j
  cases rx;cases ry
  exact⟨i,j,rfl,rfl,k (.v _) _ Z H .refl ok (hg Z H i j) h⟩
 ·exact h.elim
noncomputable abbrev bZ(ta tb:DTE):DTE:=dOp (AK fun i j=>.int (i+j)) ta tb
noncomputable abbrev lH(ta tb:DTE):DTE:=dOp (AK fun i j=>.int (i-j)) ta tb
noncomputable abbrev MulOk(i j:Int):Prop:=IntMulOk i j
noncomputable abbrev bR(ta tb:DTE):DTE:=dOp (rII MulOk fun i j=>.int (i*j)) ta tb
noncomputable abbrev wc(ta tb:DTE):DTE:=dOp (rII (fun _ j=>j≠0) fun i j=>.int (i.fmod j)) ta tb
noncomputable abbrev vC(i j:Int):Prop:=j≠0/\Builtin.divisionGoesByPylong i j=false
noncomputable abbrev uQ(ta tb:DTE):DTE:=dOp (rII vC fun i j=>.int (i.fdiv j)) ta tb
noncomputable abbrev Rm(ta tb:DTE):DTE:=dOp (rII PN fun i j=>.int (i ^ j.toNat)) ta tb
theorem OR:OpR X (binaryOp .Mult) (rI MulOk fun i j=>.int (i*j)):=opI fun _ _ _ _ _ _ _ hc q=>mul_int q hc
theorem Og:OpR X (binaryOp .FloorDiv) (rI vC fun i j=>.int (i.fdiv j)):=opI fun _ _ _ _ _ _ _ hc q=>floordiv_int hc.1 q (.inl hc.2)
theorem bb(ha:DE X a ta)(hb:DE X b tb):DE X (.BinOp a .Add b pos) (bZ ta tb):=vw Rg (Mf fun _ _ _ _=>.int _) ha hb
theorem df(ha:DE X a ta)(hb:DE X b tb):DE X (.BinOp a .Sub b pos) (lH ta tb):=vw RQ (Mf fun _ _ _ _=>.int _) ha hb
theorem aY(ha:DE X a ta)(hb:DE X b tb):DE X (.BinOp a .Mult b pos) (bR ta tb):=vw OR (Om fun _ _ _ _=>.int _) ha hb
theorem jm(ha:DE X a ta)(hb:DE X b tb):DE X (.BinOp a .Mod b pos) (wc ta tb):=vw OO (Om fun _ _ _ _=>.int _) ha hb
theorem iQ(ha:DE X a ta)(hb:DE X b tb):DE X (.BinOp a .FloorDiv b pos) (uQ ta tb):=vw Og (Om fun _ _ _ _=>.int _) ha hb
theorem M0(ha:DE X a ta)(hb:DE X b tb):DE X (.BinOp a .Pow b pos) (Rm ta tb):=vw P8 (Om fun _ _ _ _=>.int _) ha hb
abbrev rLt:=AK fun i j=>.bool (decide (i<j))
abbrev rLe:=AK fun i j=>.bool (decide (i<=j))
abbrev rGt:=AK fun i j=>.bool (decide (j<i))
abbrev rGe:=AK fun i j=>.bool (decide (j<=i))
theorem eI{K:PySem.W.Frag}{p:Int->Int->Bool}:i4 K (rI0 fun i j=>.bl (p i j)) (AK fun i j=>.bool (p i j)):=Mf fun _ _ _ _=>.bool _
noncomputable def yx(ta:DTE):DTE:=fun ρ Z Q=>ta ρ Z fun x ad=>match x with
 |.v (.int i)=>Q (.v (.int (-i))) ad
 |_=>False
theorem mD(ha:DE X a ta):DE X (.UnaryOp .USub a pos) (yx ta):=by
 obtain⟨t1,p1,l1⟩:=ha
 refine⟨_,Tv Qn p1,fun σ H ρ Z Qd Q S h k=>?_⟩
 refine l1 σ H ρ Z _ _ S h fun x ux ad H1 e1 S1 rx h1=>?_
 split at h1
 ·rename_i i
  cases rx
  exact⟨i,rfl,k (.v _) _ ad H1 e1 S1 (Rp.int _) h1⟩
 ·exact h1.elim
noncomputable def yZ(t u:DTT):DTT:=fun ρ Z Q=>t ρ Z fun c ad=>if c=true then u ρ ad Q else Q false ad
noncomputable def jM(t u:DTT):DTT:=fun ρ Z Q=>t ρ Z fun c ad=>if c=true then Q true ad else u ρ ad Q
noncomputable def dW(t:DTT):DTT:=fun ρ Z Q=>t ρ Z fun c ad=>Q (!c) ad
noncomputable def DW(X:Cx)(e:Expr)(td:DTT):Prop:=∃t,PW X e t/\Mx X.K t td
theorem DW.dt{e:Expr}{td:DTT}(h:DW X e td):DT X e td:=let ⟨t,p,l⟩:=h;⟨t,p.pt,l⟩
variable {tA tB':DTT}{rest:List Expr}
theorem xa(ha:DT X a tA):DW X (.BoolOp .And [a] pos) tA:=let ⟨t,p,l⟩:=ha;⟨t,pw_and1 p,l⟩
theorem iU(ha:DT X a tA):DW X (.BoolOp .Or [a] pos) tA:=let ⟨t,p,l⟩:=ha;⟨t,pw_or1 p,l⟩
theorem Cc(ha:DT X a tA)(hb:DW X (.BoolOp .And (b::rest) pos) tB'):DW X (.BoolOp .And (a::b::rest) pos) (yZ tA tB'):=by
 obtain⟨t1,p1,l1⟩:=ha
 obtain⟨t2,p2,l2⟩:=hb
 refine⟨_,pw_and p1 p2,fun σ H ρ Z Qd Q S h k=>?_⟩
 refine l1 σ H ρ Z _ _ S h fun c ad H1 e1 S1 h1=>?_
 cases c with
 |true=>
  refine zI (l2 σ H1 ρ ad _ _ S1 (by simpa using h1) fun c am H2 e2 S2 h2=>k c am H2 (e1.trans e2) S2 h2)
 |false=>exact xP (k false ad H1 e1 S1 (by simpa using h1))
theorem fR(ha:DT X a tA)(hb:DW X (.BoolOp .Or (b::rest) pos) tB'):DW X (.BoolOp .Or (a::b::rest) pos) (jM tA tB'):=by
 obtain⟨t1,p1,l1⟩:=ha
 obtain⟨t2,p2,l2⟩:=hb
 refine⟨_,pw_or p1 p2,fun σ H ρ Z Qd Q S h k=>?_⟩
 refine l1 σ H ρ Z _ _ S h fun c ad H1 e1 S1 h1=>?_
 cases c with
 |true=>exact zI (k true ad H1 e1 S1 (by simpa using h1))
 |false=>
  refine xP (l2 σ H1 ρ ad _ _ S1 (by simpa using h1) fun c am H2 e2 S2 h2=>k c am H2 (e1.trans e2) S2 h2)
theorem cT(ha:DT X a tA):DT X (.UnaryOp .Not a pos) (dW tA):=by
 obtain⟨t1,p1,l1⟩:=ha
 refine⟨_,QB p1,fun σ H ρ Z Qd Q S h k=>?_⟩
 exact l1 σ H ρ Z _ _ S h fun c ad H1 e1 S1 h1=>k _ ad H1 e1 S1 h1
noncomputable def nB(ta tb:DTE):DTE:=fun ρ Z Q=>ta ρ Z fun x ad=>match x with
 |.v (.bool c)=>if c=true then tb ρ ad Q else Q (.v (.bool false)) ad
 |_=>False
noncomputable def RI(ta tb:DTE):DTE:=fun ρ Z Q=>ta ρ Z fun x ad=>match x with
 |.v (.bool c)=>if c=true then Q (.v (.bool true)) ad else tb ρ ad Q
 |_=>False
noncomputable def Np(ta:DTE):DTE:=fun ρ Z Q=>ta ρ Z fun x ad=>match x with
 |.v (.bool c)=>Q (.v (.bool (!c))) ad
 |_=>False
theorem kT{op}(h:DE X a ta):DE X (.BoolOp op [a] pos) ta:=let ⟨t,p,l⟩:=h;⟨t,Q8 p,l⟩
theorem ko(ha:DE X a ta)(hb:DE X (.BoolOp .And (b::rest) pos) tb):DE X (.BoolOp .And (a::b::rest) pos) (nB ta tb):=by
 obtain⟨t1,p1,l1⟩:=ha
 obtain⟨t2,p2,l2⟩:=hb
 refine⟨_,Q5 p1 p2,fun σ H ρ Z Qd Q S h k=>?_⟩
 refine l1 σ H ρ Z _ _ S h fun x ux ad H1 e1 S1 rx h1=>?_
 split at h1
 ·rename_i c
  cases rx
  refine⟨c,rfl,?_⟩
  cases c with
  |true=>exact zI (l2 σ H1 ρ ad _ _ S1 (by simpa using h1) fun d u am H2 e2 S2 r2 h2=>k d u am H2 (e1.trans e2) S2 r2 h2)
  |false=>exact xP (k (.v _) _ ad H1 e1 S1 (Rp.bool false) (by simpa using h1))
 ·exact h1.elim
theorem Tj(ha:DE X a ta)(hb:DE X (.BoolOp .Or (b::rest) pos) tb):DE X (.BoolOp .Or (a::b::rest) pos) (RI ta tb):=by
 obtain⟨t1,p1,l1⟩:=ha
 obtain⟨t2,p2,l2⟩:=hb
 refine⟨_,Tz p1 p2,fun σ H ρ Z Qd Q S h k=>?_⟩
 refine l1 σ H ρ Z _ _ S h fun x ux ad H1 e1 S1 rx h1=>?_
 split at h1
 ·rename_i c
  cases rx
  refine⟨c,rfl,?_⟩
  cases c with
  |true=>exact zI (k (.v _) _ ad H1 e1 S1 (Rp.bool true) (by simpa using h1))
  |false=>exact xP (l2 σ H1 ρ ad _ _ S1 (by simpa using h1) fun d u am H2 e2 S2 r2 h2=>k d u am H2 (e1.trans e2) S2 r2 h2)
 ·exact h1.elim
theorem Lw(ha:DE X a ta):DE X (.UnaryOp .Not a pos) (Np ta):=by
 obtain⟨t1,p1,l1⟩:=ha
 refine⟨_,Qq p1,fun σ H ρ Z Qd Q S h k=>?_⟩
 refine l1 σ H ρ Z _ _ S h fun x ux ad H1 e1 S1 rx h1=>?_
 split at h1
 ·rename_i c
  cases rx
  exact⟨c,rfl,k (.v _) _ ad H1 e1 S1 (Rp.bool _) h1⟩
 ·exact h1.elim
noncomputable def dIf(t:DTT)(ta tb:DTE):DTE:=fun ρ Z Q=>t ρ Z fun c ad=>if c=true then ta ρ ad Q else tb ρ ad Q
theorem BF{c:Expr}(hc:DT X c tA)(ha:DE X a ta)(hb:DE X b tb):DE X (.IfExp c a b pos) (dIf tA ta tb):=by
 obtain⟨t0,p0,l0⟩:=hc
 obtain⟨t1,p1,l1⟩:=ha
 obtain⟨t2,p2,l2⟩:=hb
 refine⟨_,Nl p0 p1 p2,fun σ H ρ Z Qd Q S h k=>?_⟩
 refine l0 σ H ρ Z _ _ S h fun c ad H1 e1 S1 h1=>?_
 cases c with
 |true=>exact zI (l1 σ H1 ρ ad _ _ S1 (by simpa using h1) fun d u am H2 e2 S2 r2 h2=>k d u am H2 (e1.trans e2) S2 r2 h2)
 |false=>exact xP (l2 σ H1 ρ ad _ _ S1 (by simpa using h1) fun d u am H2 e2 S2 r2 h2=>k d u am H2 (e1.trans e2) S2 r2 h2)
end
section
variable {K:PySem.W.Frag}{Z ad:Mu}{H H1:Hp}{p:Addr}
theorem dj{o:HO}(h:H p=none):Ext K Z H Z (upd H p o):=
 ⟨fun b u e _ _=>by rw[aV (ba e h)];exact e,fun b ps e _=>⟨ps,by rw[aV (ba e h)];exact e⟩,fun _ ds q=>⟨ds,q⟩,fun _ q _=>q,fun b o e _=>⟨o,by rw[aV (ba e h)];exact e⟩,fun _ c q=>⟨c,q⟩⟩
theorem bG.FJ(ok:bG K Z H)(e:Ext K Z H Z H1)(s:yf H H1):bG K Z H1:=⟨fun a ds q=>by
 obtain⟨xs,h1,h2⟩:=ok a ds q
 exact⟨xs,s _ _ h1,h2.ext ok e⟩,ok.tab.of fun b o h _ _=>s b o h,fun a c q=>by
 obtain⟨z,o,h1,h2⟩:=ok.box a c q
 exact⟨z,o,s _ _ h1,h2.ext ok e⟩⟩
theorem Gk{o:HO}(h:H p=none):yf H (upd H p o):=fun b u q=>by rw[aV (ba q h)];exact q
theorem bG.new{o:HO}(ok:bG K Z H)(h:H p=none):bG K Z (upd H p o):=ok.FJ (dj h) (Gk h)
theorem St0.new{o:HO}{ρ:Rho}{σ:St}(S:St0 K H ρ Z σ)(h:H p=none):St0 K (upd H p o) ρ Z σ:=⟨S.mu.new h,S.rho.ext S.mu (dj h)⟩
theorem jB{us:List V}{ds:List PyData}(ok:bG K Z H)(r:RpL K Z H ds us)(h:H p=none):Rp K Z (upd H p (.tup us)) (.tuple ds) (.ref p):=
 .tuple (SqT.of eJ) (r.ext ok (dj h))
theorem eW{us:List V}{ds:List PyData}(ok:bG K Z H)(r:RpL K Z H ds us)(h:H p=none):Rp K Z (upd H p (.lst us)) (.list ds) (.ref p):=
 .list eJ (ok.free h) (r.ext ok (dj h))
theorem eP{o:HO}{ds:List PyData}(ok:bG K Z H)(h:H p=none)(hk:K.lookup p=none):Ext K Z H (az Z p ds) (upd H p o) where
 keep:=fun b u e _ _=>by rw[aV (ba e h)];exact e
 tb:=fun b ps e _=>⟨ps,by rw[aV (ba e h)];exact e⟩
 dom:=fun b es q=>by
  have:b≠p:=fun z=>by rw[z,ok.free h] at q;cases q
  exact⟨es,by rw[aT this];exact q⟩
 fresh:=fun b n q=>by
  have:b≠p:=fun z=>by
   rcases q with q|q
   ·exact q (by rw[z];exact h)
   ·exact q (by rw[z];exact hk)
  rw[aT this];exact n
 st:=fun b o e _=>⟨o,by rw[aV (ba e h)];exact e⟩
 bx:=fun b c q=>⟨c,q⟩
theorem bG.mut{us:List V}{ds:List PyData}(ok:bG K Z H)(r:RpL K Z H ds us)(h:H p=none)(hk:K.lookup p=none):bG K (az Z p ds) (upd H p (.lst us)):=⟨fun a es q=>by
 have e:=eP (o:=.lst us) (ds:=ds) ok h hk
 by_cases ha:a=p
 ·subst ha
  rw[aI] at q
  cases q
  exact⟨us,eJ,r.ext ok e⟩
 ·rw[aT ha] at q
  obtain⟨xs,h1,h2⟩:=ok a es q
  exact⟨xs,by rw[aV ha];exact h1,h2.ext ok e⟩,ok.tab.of fun b o e _ _=>by rw[aV (ba e h)];exact e,fun a c q=>by
 obtain⟨z,o,h1,h2⟩:=ok.box a c q
 exact⟨z,o,by rw[aV (ba h1 h)];exact h1,h2.ext ok (eP ok h hk)⟩⟩
theorem gh{o:HO}{ds es:List PyData}(h:Z p=some ds):Ext K Z H (az Z p es) (upd H p o) where
 keep:=fun b u e n _=>by
  have:b≠p:=fun z=>by rw[z,h] at n;cases n
  rw[aV this];exact e
 tb:=fun b ps e n=>by
  have:b≠p:=fun z=>by rw[z,h] at n;cases n
  exact⟨ps,by rw[aV this];exact e⟩
 dom:=fun b fs q=>by
  by_cases hb:b=p
  ·subst hb;exact⟨es,aI⟩
  ·exact⟨fs,by rw[aT hb];exact q⟩
 fresh:=fun b n q=>by
  have:b≠p:=fun z=>by rw[z,h] at n;cases n
  rw[aT this];exact n
 st:=fun b o e n=>by
  have:b≠p:=fun z=>by rw[z,h] at n;cases n
  exact⟨o,by rw[aV this];exact e⟩
 bx:=fun b c q=>⟨c,q⟩
theorem bG.set{us:List V}{ds es:List PyData}(ok:bG K Z H)(h:Z p=some ds)(r:RpL K Z H es us):bG K (az Z p es) (upd H p (.lst us)):=⟨fun a fs q=>by
 have e:Ext K Z H (az Z p es) (upd H p (.lst us)):=gh h
 by_cases ha:a=p
 ·subst ha
  rw[aI] at q
  cases q
  exact⟨us,eJ,r.ext ok e⟩
 ·rw[aT ha] at q
  obtain⟨xs,h1,h2⟩:=ok a fs q
  exact⟨xs,by rw[aV ha];exact h1,h2.ext ok e⟩,by
 obtain⟨ys,hy,_⟩:=ok p ds h
 exact ok.tab.of fun b o e n _=>by
  have:b≠p:=fun z=>by rw[z,hy] at e;exact n ys (Option.some.inj e).symm
  rw[aV this];exact e,fun a c q=>by
 obtain⟨ys,hy,_⟩:=ok p ds h
 obtain⟨z,o,h1,h2⟩:=ok.box a c q
 have:a≠p:=fun w=>by rw[w,hy] at h1;cases h1
 exact⟨z,o,by rw[aV this];exact h1,h2.ext ok (gh h)⟩⟩
end
def cS:List D->Option (List PyData)
 |[]=>some []
 |.v x::r=>(cS r).map (x::·)
 |_::_=>none
theorem jO.data{K:PySem.W.Frag}{Z:Mu}{H:Hp}:∀{ds:List D} {us:List V} {xs:List PyData},jO K Z H ds us->cS ds=some xs->RpL K Z H xs us
 |_,_,_,.nil,e=>by cases e;exact .nil
 |.v x::r,_,xs,.cons h t,e=>by
  simp only[cS] at e
  cases q:cS r with
  |none=>rw[q] at e;cases e
  |some ys=>rw[q] at e;cases e;exact .cons h (jO.data t q)
 |.m _::_,_,_,.cons _ _,e=>by simp[cS] at e
 |.s _::_,_,_,.cons _ _,e=>by simp[cS] at e
 |.o _::_,_,_,.cons _ _,e=>by simp[cS] at e
section
variable {X:Cx}{e:Expr}{es:List Expr}{te:DTE}{t:DTA}{pos:Pos}
noncomputable def av:DTA:=fun _ Z Q=>Q [] Z
noncomputable def ag(ta:DTE)(tr:DTA):DTA:=fun ρ Z Q=>ta ρ Z fun x ad=>tr ρ ad fun xs am=>Q (x::xs) am
theorem aj:DA X [] av:=⟨_,uW,fun σ H ρ Z Qd Q S h k=>k [] [] Z H .refl S .nil rfl h⟩
theorem ae(ha:DE X e te)(hr:DA X es t)(hs:starEach (e::es) X.env=(false,eval e X.env)::starEach es X.env:=by rfl):DA X (e::es) (ag te t):=by
 obtain⟨t1,p1,l1⟩:=ha
 obtain⟨t2,p2,l2⟩:=hr
 refine⟨_,i6 p1 p2 hs,fun σ H ρ Z Qd Q S h k=>?_⟩
 refine l1 σ H ρ Z _ _ S h fun x ux ad H1 e1 S1 rx h1=>?_
 refine l2 σ H1 ρ ad _ _ S1 h1 fun xs us am H2 e2 S2 rs len h2=>?_
 exact k (x::xs) (ux::us) am H2 (e1.trans e2) S2 (.cons (rx.ext S1.mu e2) rs) (by rw[length_cons,length_cons,len]) h2
noncomputable def bO(t:DTA):DTE:=fun ρ Z Q=>t ρ Z fun ds ad=>match cS ds with
 |some xs=>Q (.v (.tuple xs)) ad
 |none=>False
noncomputable def qi(t:DTA):DTE:=fun ρ Z Q=>t ρ Z fun ds ad=>match cS ds with
 |some xs=>Q (.v (.list xs)) ad
 |none=>False
noncomputable def vS(t:DTA):DTE:=fun ρ Z Q=>t ρ Z fun ds ad=>match cS ds with
 |some xs=>∀p,ad p=none->Q (.m p) (az ad p xs)
 |none=>False
theorem aZ{x1}(h:DA X es t)(hl:es.length<=1000:=by decide):DE X (.Tuple es x1 pos) (bO t):=by
 obtain⟨t1,p1,l1⟩:=h
 refine⟨_,QR p1,fun σ H ρ Z Qd Q S h k=>?_⟩
 refine l1 σ H ρ Z _ _ S h fun ds us ad H1 e1 S1 rs len h1=>?_
 cases q:cS ds with
 |none=>rw[q] at h1;exact h1.elim
 |some xs=>
  rw[q] at h1
  refine⟨Nat.le_of_lt (d0 (by rw[<- rs.length,len];exact hl)),fun p hp=>?_⟩
  exact k (.v (.tuple xs)) _ ad _ (e1.trans (dj hp)) (S1.new hp) (jB S1.mu (rs.data q) hp) h1
theorem fX(h:DA X es t)(hl:es.length<=1000:=by decide):DE X (.List es pos) (qi t):=by
 obtain⟨t1,p1,l1⟩:=h
 refine⟨_,Qk p1,fun σ H ρ Z Qd Q S h k=>?_⟩
 refine l1 σ H ρ Z _ _ S h fun ds us ad H1 e1 S1 rs len h1=>?_
 cases q:cS ds with
 |none=>rw[q] at h1;exact h1.elim
 |some xs=>
  rw[q] at h1
  refine⟨Nat.le_of_lt (d0 (by rw[<- rs.length,len];exact hl)),fun p hp=>?_⟩
  exact k (.v (.list xs)) _ ad _ (e1.trans (dj hp)) (S1.new hp) (eW S1.mu (rs.data q) hp) h1
noncomputable def Sf(K:PySem.W.Frag)(t:TA):TE:=fun σ H Q=>t σ H fun xs H1=>xs.length<=sizeLine/\∀p,H1 p=none->K.lookup p=none->Q (.ref p) (upd H1 p (.lst xs))
theorem Oj{t:TA}(h:PA X es t):PE X (.List es pos) (Sf X.K t):=by
 intro pins s σ H Q I hq
 refine wpAny_List_spliced (thn (h pos pins s σ H _ I hq) fun us s1 ⟨xs,H1,I1,r,z,q⟩=>⟨by rw[<- r.length];exact z,?_⟩)
 have hf:H1 s1.heap.objs.size=none:=I1.hok.fresh (le_refl _)
 have hk:X.K.lookup s1.heap.objs.size=none:=by
  cases c:X.K.lookup s1.heap.objs.size with
  |none=>rfl
  |some o=>exact absurd (Heap.lt_size (I1.kIn _ _ c)) (lt_irrefl _)
 refine⟨.ref s1.heap.objs.size,upd H1 s1.heap.objs.size (.lst xs),I1.laid (t':=s1.toks) (fun b u e=>Heap.get?_push_of_some _ e) (le_refl _) ?_,rfl,q _ hf hk⟩
 exact⟨z,us,0,r,Heap.get?_push_size _ rfl⟩
theorem pL(h:DA X es t)(hl:es.length<=1000:=by decide):DE X (.List es pos) (vS t):=by
 obtain⟨t1,p1,l1⟩:=h
 refine⟨_,Oj p1,fun σ H ρ Z Qd Q S h k=>?_⟩
 refine l1 σ H ρ Z _ _ S h fun ds us ad H1 e1 S1 rs len h1=>?_
 cases q:cS ds with
 |none=>rw[q] at h1;exact h1.elim
 |some xs=>
  rw[q] at h1
  refine⟨Nat.le_of_lt (d0 (by rw[<- rs.length,len];exact hl)),fun p hp hk=>?_⟩
  have ex:=eP (o:=.lst us) (ds:=xs) S1.mu hp hk
  exact k (.m p) _ (az ad p xs) _ (e1.trans ex) ⟨S1.mu.mut (rs.data q) hp hk,S1.rho.ext S1.mu ex⟩ ⟨rfl,xs,aI⟩ (h1 p (S1.mu.free hp))
end
section
variable {X:Cx}{pins:List (Addr×Obj)}{σ:St}{H:Hp}{s:Shared}{Z:Mu}
mutual
theorem dU(I:Inv X pins σ H s):∀{d:PyData} {x:V} {u:Value},Rp X.K Z H d x->RelV x u->∃as,Reads s.heap u d as
 |_,_,_,.none,r=>by cases r;exact⟨_,.none⟩
 |_,_,_,.bool b,r=>by cases r;exact⟨_,.bool b⟩
 |_,_,_,.int i,r=>by obtain⟨t,rfl⟩:=r;exact⟨_,.int i t⟩
 |_,_,_,.str y,r=>by obtain⟨t,rfl⟩:=r;exact⟨_,.str y t⟩
 |_,_,_,.list h _ q,r=>by
  cases r
  obtain⟨its,rv,⟨o,n,ho,hc,_,hd⟩,_⟩:=I.list (SqL.of h)
  obtain⟨as,ra⟩:=oR I q rv
  exact⟨_,.list ho hc hd (by simpa using ra)⟩
 |_,_,_,.tuple h q,r=>by
  cases r
  obtain⟨its,rv,⟨o,ho,hc,n,hd⟩,_⟩:=I.tuple h
  obtain⟨as,ra⟩:=oR I q rv
  exact⟨_,.tuple ho hc hd (by simpa using ra)⟩
theorem oR(I:Inv X pins σ H s):∀{ds:List PyData} {xs:List V} {us:List Value},RpL X.K Z H ds xs->Vals xs us->∃as,ReadsAll s.heap us ds as
 |_,_,_,.nil,.nil=>⟨_,.nil⟩
 |_,_,_,.cons h t,.cons r q=>by
  obtain⟨as,ra⟩:=dU I h r
  obtain⟨bs,rb⟩:=oR I t q
  exact⟨_,.cons ra rb⟩
end
end
section
variable {X:Cx}
noncomputable def OL(K:PySem.W.Frag)(neg:Bool):R2:=fun x y H Q=>∃Z a b,Rp K Z H a x/\Rp K Z H b y/\SeqAt.shaped a=true/\SeqAt.shaped b=true/\Q (.bl (neg ^^ PyData.eqv a b)) H
theorem bV(hu:X.A.units+64<cLine):OpR X (compareOp .Eq) (OL X.K false):=by
 intro pins s σ H x y v u Q I rx ry h
 obtain⟨Z,a,b,ha,hb,sa,sb,q⟩:=h
 obtain⟨as,ra⟩:=dU I ha rx
 obtain⟨bs,rb⟩:=dU I hb ry
 exact eq_dataH ra rb sa sb hu ⟨.bl (PyData.eqv a b),H,I,rfl,by simpa using q⟩
theorem nh(hu:X.A.units+64<cLine):OpR X (compareOp .NotEq) (OL X.K true):=by
 intro pins s σ H x y v u Q I rx ry h
 obtain⟨Z,a,b,ha,hb,sa,sb,q⟩:=h
 obtain⟨as,ra⟩:=dU I ha rx
 obtain⟨bs,rb⟩:=dU I hb ry
 exact ne_dataH ra rb sa sb hu ⟨.bl (!PyData.eqv a b),H,I,rfl,by simpa using q⟩
def de(neg:Bool):D->D->Mu->DK->Prop:=fun x y Z Q=>match x,y with
 |.v a,.v b=>SeqAt.shaped a=true/\SeqAt.shaped b=true/\Q (.v (.bool (neg ^^ PyData.eqv a b))) Z
 |_,_=>False
theorem bH{K:PySem.W.Frag}{neg:Bool}:i4 K (OL K neg) (de neg):=by
 intro x y ux uy H Z Qd Q ok rx ry h k
 unfold de at h
 split at h
 ·rename_i a b
  exact⟨Z,a,b,rx,ry,h.1,h.2.1,k (.v _) _ Z H .refl ok (Rp.bool _) h.2.2⟩
 ·exact h.elim
noncomputable def Qo(K:PySem.W.Frag)(neg:Bool):R2:=fun x y H Q=>∃Z a bs,Rp K Z H a x/\Rp K Z H (.list bs) y/\PyData.canLayAll0 bs=true/\a.canLay0=true/\PyData.depth a<=60/\Q (.bl (neg ^^ bs.any fun b=>PyData.eqv b a)) H
theorem Qw(hu:X.A.units+64<cLine):OpR X (compareOp .In) (Qo X.K false):=by
 intro pins s σ H x y v u Q I rx ry h
 obtain⟨Z,a,b,ha,hb,sb,sa,dp,q⟩:=h
 obtain⟨as,ra⟩:=dU I ha rx
 obtain⟨bs,rb⟩:=dU I hb ry
 refine SeqAt.in_list_reads rb ra sb sa ∅ ⟨.bl (b.any fun z=>PyData.eqv z a),H,I,rfl,by simpa using q⟩
theorem BQ(hu:X.A.units+64<cLine):OpR X (compareOp .NotIn) (Qo X.K true):=by
 intro pins s σ H x y v u Q I rx ry h
 obtain⟨Z,a,b,ha,hb,sb,sa,dp,q⟩:=h
 obtain⟨as,ra⟩:=dU I ha rx
 obtain⟨bs,rb⟩:=dU I hb ry
 refine SeqAt.notIn_list_reads rb ra sb sa ∅ ⟨.bl (!b.any fun z=>PyData.eqv z a),H,I,rfl,by simpa using q⟩
def K9(neg:Bool):D->D->Mu->DK->Prop:=fun x y Z Q=>match x,y with
 |.v a,.v (.list bs)=>PyData.canLayAll0 bs=true/\a.canLay0=true/\PyData.depth a<=60/\Q (.v (.bool (neg ^^ bs.any fun b=>PyData.eqv b a))) Z
 |_,_=>False
theorem Hg{K:PySem.W.Frag}{neg:Bool}:i4 K (Qo K neg) (K9 neg):=by
 intro x y ux uy H Z Qd Q ok rx ry h k
 unfold K9 at h
 split at h
 ·rename_i a b
  exact⟨Z,a,b,rx,ry,h.1,h.2.1,h.2.2.1,k (.v _) _ Z H .refl ok (Rp.bool _) h.2.2.2⟩
 ·exact h.elim
end
section
variable {X:Cx}{a b e:Expr}{es:List Expr}{ta tb te:DTE}{t:DTA}{p pos:Pos}
def aM:D->D->Mu->DK->Prop:=fun x y Z Q=>match x,y with
 |.v (.list xs),.v (.int i)=>(match atI xs i with|some d=>Q (.v d) Z|none=>False)
 |.v (.tuple xs),.v (.int i)=>(match atI xs i with|some d=>Q (.v d) Z|none=>False)
 |.m l,.v (.int i)=>(match Z l with
  |some xs=>(match atI xs i with|some d=>Q (.v d) Z|none=>False)
  |none=>False)
 |.s ns,.v (.int i)=>(match atI ns i with|some d=>Q (.v (.int d)) Z|none=>False)
 |_,_=>False
theorem S0{K:PySem.W.Frag}:i4 K (rIx K) aM:=by
 intro x y ux uy H Z Qd Q ok rx ry h k
 unfold aM at h
 split at h
 ·rename_i xs i
  cases ry
  cases q:atI xs i with
  |none=>rw[q] at h;exact h.elim
  |some d=>
   rw[q] at h
   cases rx with
   |list hs hn r=>
    obtain⟨u,e1,e2⟩:=Hi r q
    exact .inl ⟨_,_,i,u,rfl,rfl,SqL.of hs,e1,k (.v d) u Z H .refl ok e2 h⟩
 ·rename_i xs i
  cases ry
  cases q:atI xs i with
  |none=>rw[q] at h;exact h.elim
  |some d=>
   rw[q] at h
   cases rx with
   |tuple hs r=>
    obtain⟨u,e1,e2⟩:=Hi r q
    exact .inr (.inl ⟨_,_,i,u,rfl,rfl,hs,e1,k (.v d) u Z H .refl ok e2 h⟩)
 ·rename_i l i
  cases ry
  obtain⟨rfl,ds,hm⟩:=rx
  rw[hm] at h
  simp only at h
  cases q:atI ds i with
  |none=>rw[q] at h;exact h.elim
  |some d=>
   rw[q] at h
   obtain⟨us,hl,r⟩:=ok l ds hm
   obtain⟨u,e1,e2⟩:=Hi r q
   exact .inl ⟨_,_,i,u,rfl,rfl,SqL.of hl,e1,k (.v d) u Z H .refl ok e2 h⟩
 ·rename_i ns i
  cases ry
  obtain⟨a,rfl,hs,hn⟩:=rx
  cases q:atI ns i with
  |none=>rw[q] at h;exact h.elim
  |some d=>
   rw[q] at h
   have e1:atI (ns.map V.int) i=some (.int d):=by
    unfold atI at q ⊢
    rw[length_map]
    cases z:ixN ns.length i with
    |none=>rw[z] at q;cases q
    |some j=>
     rw[z] at q
     simp only[bind_some,getElem?_map] at q ⊢
     rw[q]<;>rfl
   exact .inl ⟨_,_,i,_,rfl,rfl,hs,e1,k (.v (.int d)) _ Z H .refl ok (Rp.int d) h⟩
 ·exact h.elim
theorem aD(ha:DE X a ta)(hb:DE X b tb)(hs:Jp b:=by exact fun _ _=>rfl):DE X (.Subscript a b pos) (dOp aM ta tb):=by
 obtain⟨t1,p1,l1⟩:=ha
 obtain⟨t2,p2,l2⟩:=hb
 exact⟨_,Sv Rz p1 p2 hs,wV S0 l1 l2⟩
def oA(Z:Mu):D->Option (List PyData)
 |.v (.list xs)=>some xs
 |.m l=>Z l
 |_=>none
theorem Fb{K:PySem.W.Frag}{Z:Mu}{H:Hp}{x:D}{u:V}{xs:List PyData}(ok:bG K Z H)(r:RpD K Z H x u)(h:oA Z x=some xs):∃a us,u = .ref a/\H a=some (.lst us)/\RpL K Z H xs us:=by
 cases x with
 |v d=>
  cases d<;>simp only[oA] at h<;>try cases h
  cases r with
  |list hs _ q=>exact⟨_,_,rfl,hs,q⟩
 |m l=>
  obtain⟨rfl,ds,hm⟩:=r
  obtain⟨us,hl,q⟩:=ok l xs h
  exact⟨l,us,rfl,hl,q⟩
 |s ns=>cases h
 |o a=>cases h
 |b a=>cases h
 |q P=>cases h
def Br:D->D->Mu->DK->Prop:=fun x y Z Q=>match oA Z x,oA Z y with
 |some xs,some ys=>xs.length+ys.length<=1000/\Q (.v (.list (xs++ys))) Z
 |_,_=>False
theorem Jm{n:Nat}(h:n<=1000):n<=sizeLine:=Nat.le_of_lt (d0 h)
theorem P0{K:PySem.W.Frag}:i4 K Si Br:=by
 intro x y ux uy H Z Qd Q ok rx ry h k
 unfold Br at h
 split at h
 ·rename_i xs ys hx hy
  obtain⟨a,us,rfl,ha,ra⟩:=Fb ok rx hx
  obtain⟨b,ws,rfl,hb,rb⟩:=Fb ok ry hy
  refine⟨a,b,us,ws,rfl,rfl,ha,hb,Jm (by rw[<- ra.length,<- rb.length];exact h.1),fun p hp=>?_⟩
  exact k (.v _) _ Z _ (dj hp) (ok.new hp) (eW ok (ra.append rb) hp) h.2
 ·exact h.elim
theorem Rw(ha:DE X a ta)(hb:DE X b tb):DE X (.BinOp a .Add b pos) (dOp Br ta tb):=vw RR P0 ha hb
end
end L2.DL
namespace HT
open PySem PyProof.Rows
section
variable {prog:Program}{w:World}{A:Around}{E:Value->Shared->Prop}{s:Shared}
theorem rF{t sl:Addr}{items:Array Value}{vl vu:Value}{lo hi:Option Int}{Q:Value->Shared->Prop}(ht:IsTup s.heap t items)(hs:s.heap.IsSliceOf sl vl vu .none)(pl:IsPart vl lo)(pu:IsPart vu hi)
  (hw:sIx items.size 0 lo=0/\sIx items.size items.size hi=items.size) (h:Q (.ref t) s):wpAny (model prog w) A (getItem (.ref t) (.ref sl)) Q E s:=by
 obtain⟨os,hos,hcs,hds⟩:=id hs
 have hTs:s.TypeIs (.ref sl) "slice":=⟨os,hos,hcs⟩
 unfold getItem
 try with_reducible refine wpAny_holding ?_
 first|refine wpAny_bind (wpAny_pure ?_)|skip
 refine wpAny_bind (wpAny_sequenceKey ht.typeIs ⋯ ?_)
 refine wpAny_bind (wpAny_callSpecial?_slot (name:=Str.ofString "__getitem__") ht.typeIs PyProof.Rows.slot_tuple_getitem
  (wpAny_call_entry PyProof.Rows.slot_tuple_getitem ht.typeIs entry_tuple_getitem ?_ (args_tuple_getitem _ _)))
 show wpAny _ _ (Builtin.Tuple.tupleItemsOf (.ref t)>>=_) _ _ s
 refine wpAny_bind (tupleItemsOf_ ht ?_)
 refine wpAny_bind (wpAny_typeOf hTs ?_)
 rw[if_pos ⋯]
 refine wpAny_bind (lB hs pl pu ?_)
 have hno:((((sIx items.size 0 lo:Nat):Int)==0&&(1:Int)==1&&(sIx items.size items.size hi-sIx items.size 0 lo)==items.size)=true):=by
  rw[hw.1,hw.2]
  simp
 show wpAny _ _ (if (((sIx items.size 0 lo:Nat):Int)==0&&(1:Int)==1&&(sIx items.size items.size hi-sIx items.size 0 lo)==items.size)=true then _ else _) _ _ s
 rw[if_pos hno]
 refine wpAny_bind ?_
 unfold Builtin.Tuple.tupleIsExact
 refine wpAny_bind (wpAny_typeOf ht.typeIs (wpAny_pure ?_))
 rw[if_pos ⋯]
 refine wpAny_bind (wpAny_rule ?_)
 exact wpAny_pure ⟨_,rfl,wpAny_pure h⟩
end
end HT
namespace L2.DL
open PySem PySem.Spec PyProof.Rows
section
variable {X:Cx}{a b e:Expr}{lo hi:Option Expr}{ta tb te:DTE}{pos p2:Pos}
def qP{α:Type}(xs:List α)(lo hi:Option Int):List α:=(xs.drop (HT.sIx xs.length 0 lo)).take (HT.sIx xs.length xs.length hi-HT.sIx xs.length 0 lo)
theorem RpL.cut{K:PySem.W.Frag}{Z:Mu}{H:Hp}{ds:List PyData}{us:List V}{lo hi:Option Int}(r:RpL K Z H ds us):RpL K Z H (qP ds lo hi) (BU us lo hi):=by
 unfold qP BU
 rw[r.length]
 exact (r.drop _).take _
theorem O3{α:Type}{xs:List α}{lo hi:Option Int}(h:HT.sIx xs.length 0 lo=0/\HT.sIx xs.length xs.length hi=xs.length):qP xs lo hi=xs:=by
 unfold qP
 rw[h.1,h.2]
 simp
def SS(K:PySem.W.Frag):V->Option Int->Option Int->Hp->VK->Prop:=fun x lo hi H Q=>∃a xs,x = .ref a/\SqT K H a xs /\
 (HT.sIx xs.length 0 lo=0/\HT.sIx xs.length xs.length hi=xs.length->Q (.ref a) H)/\∀p,H p=none->Q (.ref p) (upd H p (.tup (BU xs lo hi)))
theorem Oa:SlR X (SS X.K):=by
 intro pins s σ H x v vl vu lo hi sl Q I rx hs pl pu h
 obtain⟨a,xs,rfl,hx,q1,q⟩:=h
 by_cases hw:HT.sIx xs.length 0 lo=0/\HT.sIx xs.length xs.length hi=xs.length
 ·cases rx
  obtain⟨its,r,ht,hz⟩:=I.tuple hx
  have hlen:its.toArray.size=xs.length:=by rw[size_toArray];exact r.length.symm
  refine⟨"tuple",_,PyProof.Rows.slot_tuple_getitem.lookup,ht.typeIs,?_⟩
  exact HT.rF ht hs pl pu (by rw[hlen];exact hw) ⟨.ref a,H,I,rfl,q1 hw⟩
 ·exact P4 pins s σ H _ v vl vu lo hi sl Q I rx hs pl pu ⟨a,xs,rfl,hx,hw,q⟩
abbrev DTO:=Rho->Mu->(Option Int->Mu->Prop)->Prop
noncomputable def RV(K:PySem.W.Frag)(t:TO)(td:DTO):Prop:=∀(σ:St) (H:Hp) (ρ:Rho) (Z:Mu) (Qd:Option Int->Mu->Prop) (Q:Option Int->Hp->Prop),St0 K H ρ Z σ->td ρ Z Qd ->
 (∀o U H',Ext K Z H U H'->St0 K H' ρ U σ->Qd o U->Q o H')->t σ H Q
noncomputable def DO(X:Cx)(e:Option Expr)(td:DTO):Prop:=∃t,PO X e t/\RV X.K t td
noncomputable def Dn:DTO:=fun _ Z Q=>Q none Z
noncomputable def Lq(t:DTE):DTO:=fun ρ Z Q=>t ρ Z fun x ad=>match x with
 |.v (.int i)=>Q (some i) ad
 |_=>False
theorem O4:DO X none Dn:=⟨_,Oc,fun σ H ρ Z Qd Q S h k=>k none Z H .refl S h⟩
theorem NZ(h:DE X e te):DO X (some e) (Lq te):=by
 obtain⟨t1,p1,l1⟩:=h
 refine⟨_,Ob p1,fun σ H ρ Z Qd Q S h k=>?_⟩
 refine l1 σ H ρ Z _ _ S h fun x ux ad H1 e1 S1 rx h1=>?_
 split at h1
 ·cases rx
  exact⟨_,rfl,k _ ad H1 e1 S1 h1⟩
 ·exact h1.elim
noncomputable def Oy(x:D)(lo hi:Option Int)(Z:Mu)(Q:DK):Prop:=match x with
 |.v (.tuple xs)=>Q (.v (.tuple (qP xs lo hi))) Z
 |.v (.list xs)=>Q (.v (.list (qP xs lo hi))) Z
 |.m l=>(match Z l with|some xs=>Q (.v (.list (qP xs lo hi))) Z|none=>False)
 |_=>False
noncomputable def dSl(te:DTE)(tl th:DTO):DTE:=fun ρ Z Q=>te ρ Z fun x ad=>tl ρ ad fun l am=>th ρ am fun u be=>Oy x l u be Q
theorem Nm{tl th:DTO}(he:DE X e te)(hl:DO X lo tl)(hu:DO X hi th):DE X (.Subscript e (.Slice lo hi none p2) pos) (dSl te tl th):=by
 obtain⟨t1,p1,l1⟩:=he
 obtain⟨t2,p2,l2⟩:=hl
 obtain⟨t3,p3,l3⟩:=hu
 refine⟨_,Na (OG.or Oa) p1 p2 p3,fun σ H ρ Z Qd Q S h k=>?_⟩
 refine l1 σ H ρ Z _ _ S h fun x ux ad H1 e1 S1 rx h1=>?_
 refine l2 σ H1 ρ ad _ _ S1 h1 fun l am H2 e2 S2 h2=>?_
 refine l3 σ H2 ρ am _ _ S2 h2 fun u be H3 e3 S3 h3=>?_
 have rx3:=(rx.ext S1.mu e2).ext S2.mu e3
 have ee:=e1.trans (e2.trans e3)
 unfold Oy at h3
 split at h3
 ·rename_i xs
  cases id rx3 with
  |@tuple a us _ ha ra=>
   refine .inr ⟨a,us,rfl,ha,fun hw=>?_,fun p hp=>?_⟩
   ·refine k (.v _) _ be H3 ee S3 (show Rp _ _ _ (.tuple (qP xs l u)) _ from ?_) h3
    rw[O3 (by rw[ra.length];exact hw)]
    exact rx3
   ·exact k (.v _) _ be _ (ee.trans (dj hp)) (S3.new hp) (jB S3.mu ra.cut hp) h3
 ·rename_i xs
  cases id rx3 with
  |@list a us _ ha hn ra=>exact .inl ⟨a,us,rfl,SqL.of ha,fun p hp=>k (.v _) _ be _ (ee.trans (dj hp)) (S3.new hp) (eW S3.mu ra.cut hp) h3⟩
 ·rename_i a
  obtain⟨rfl,ds,hm⟩:=rx3
  rw[hm] at h3
  obtain⟨us,ha,ra⟩:=S3.mu a ds hm
  exact .inl ⟨a,us,rfl,SqL.of ha,fun p hp=>k (.v _) _ be _ (ee.trans (dj hp)) (S3.new hp) (eW S3.mu ra.cut hp) h3⟩
 ·exact h3.elim
end
section
variable {X:Cx}{a b e:Expr}{es:List Expr}{ta tb te:DTE}{t:DTA}{p pos:Pos}{x:Str}{bid T:String}
noncomputable def nL(K:PySem.W.Frag)(r:List V->Hp->VK->Prop)(rd:List D->Mu->DK->Prop):Prop:=∀(xs:List D) (us:List V) (H:Hp) (Z:Mu) (Qd:DK) (Q:VK),bG K Z H->jO K Z H xs us->rd xs Z Qd ->
 (∀d u U H',Ext K Z H U H'->bG K U H'->RpD K U H' d u->Qd d U->Q u H')->r us H Q
noncomputable def dCB(rd:List D->Mu->DK->Prop)(t:DTA):DTE:=fun ρ Z Q=>t ρ Z fun ds ad=>rd ds ad Q
theorem J7{K:PySem.W.Frag}{n:Nat}{r:List V->Hp->VK->Prop}{rd:List D->Mu->DK->Prop}{t1:TA}(lc:nL K r rd)(l1:Pk K n t1 t):rO K (tCB r t1) (dCB rd t):=by
 intro σ H ρ Z Qd Q S h k
 refine l1 σ H ρ Z _ _ S h fun xs us ad H1 e1 S1 rs len h1=>?_
 exact lc xs us H1 ad _ _ S1.mu rs h1 fun d u U H' e2 ok r q=>k d u U H' (e1.trans e2) ⟨ok,S1.rho.ext S1.mu e2⟩ r q
theorem lM{r:List V->Hp->VK->Prop}{rd:List D->Mu->DK->Prop}(hc:jE X (.builtin bid) r)(lc:nL X.K r rd)(hg:Gl X x)(hm:X.mg x=none)(hv:bootBuiltins x=some (.builtin bid))(ha:DA X (e::es) t)(hn:x ≠ "__name__":=by decide)(hdb:(x==("__debug__":Str))=false:=by decide)
  (he:starEach (e::es) X.env=(false,eval e X.env)::starEach es X.env:=by rfl) (hpl:(backTo pos (starEach es X.env)).any (·.1)=false:=by rfl):DE X (.Call (.Name x p) (e::es) [] pos) (dCB rd t):=by
 obtain⟨t1,p1,l1⟩:=ha
 exact⟨_,xw hc hg hm hv p1 hn hdb he hpl,J7 lc l1⟩
theorem pP{r:List V->Hp->VK->Prop}{rd:List D->Mu->DK->Prop}(hc:jE X (.type T) r)(lc:nL X.K r rd)(hg:Gl X x)(hm:X.mg x=none)(hv:bootBuiltins x=some (.type T))(ha:DA X (e::es) t)(hn:x ≠ "__name__":=by decide)(hdb:(x==("__debug__":Str))=false:=by decide)
  (he:starEach (e::es) X.env=(false,eval e X.env)::starEach es X.env:=by rfl) (hpl:(backTo pos (starEach es X.env)).any (·.1)=false:=by rfl):DE X (.Call (.Name x p) (e::es) [] pos) (dCB rd t):=by
 obtain⟨t1,p1,l1⟩:=ha
 exact⟨_,Kg hc hg hm hv p1 hn hdb he hpl,J7 lc l1⟩
def cZ:List D->Mu->DK->Prop:=fun xs Z Q=>match xs with
 |[.v (.list ys)]=>Q (.v (.int (ys.length:Nat))) Z
 |[.v (.tuple ys)]=>Q (.v (.int (ys.length:Nat))) Z
 |[.m l]=>(match Z l with|some ys=>Q (.v (.int (ys.length:Nat))) Z|none=>False)
 |[.s ns]=>Q (.v (.int (ns.length:Nat))) Z
 |_=>False
theorem RS{K:PySem.W.Frag}:nL K (fun xs H Q=>∃p ys,xs=[.ref p]/\(SqL K H p ys\/SqT K H p ys)/\Q (.int ys.length) H) cZ:=by
 intro xs us H Z Qd Q ok rs h k
 unfold cZ at h
 split at h
 ·cases rs with
  |cons r1 r2=>
   cases r2
   cases r1 with
   |list hs hn r=>exact⟨_,_,rfl,.inl (SqL.of hs),k (.v _) _ Z H .refl ok (by rw[<- r.length];exact Rp.int _) h⟩
 ·cases rs with
  |cons r1 r2=>
   cases r2
   cases r1 with
   |tuple hs r=>exact⟨_,_,rfl,.inr hs,k (.v _) _ Z H .refl ok (by rw[<- r.length];exact Rp.int _) h⟩
 ·cases rs with
  |cons r1 r2=>
   cases r2
   obtain⟨rfl,ds,hm⟩:=r1
   rw[hm] at h
   obtain⟨us,hl,r⟩:=ok _ ds hm
   exact⟨_,_,rfl,.inl (SqL.of hl),k (.v _) _ Z H .refl ok (by rw[<- r.length];exact Rp.int _) h⟩
 ·cases rs with
  |cons r1 r2=>
   cases r2
   obtain⟨a,rfl,hs,hn⟩:=r1
   exact⟨_,_,rfl,.inl hs,k (.v _) _ Z H .refl ok (by rw[length_map];exact Rp.int _) h⟩
 ·exact h.elim
theorem dG(hg:Gl X "len")(hm:X.mg "len"=none)(ha:DA X (e::es) t)
  (he:starEach (e::es) X.env=(false,eval e X.env)::starEach es X.env:=by rfl) (hpl:(backTo pos (starEach es X.env)).any (·.1)=false:=by rfl):DE X (.Call (.Name "len" p) (e::es) [] pos) (dCB cZ t):=
 lM DD RS hg hm PySem.boot_len ha ⋯ ⋯ he hpl
def sA:List D->Mu->DK->Prop:=fun xs Z Q=>match xs with
 |[.v (.int i)]=>Q (.v (.int (i.natAbs:Nat))) Z
 |_=>False
theorem Ry{K:PySem.W.Frag}:nL K (fun xs H Q=>∃i,xs=[.int i]/\Q (.int (if i<0 then -i else i)) H) sA:=by
 intro xs us H Z Qd Q ok rs h k
 unfold sA at h
 split at h
 ·rename_i i
  cases rs with
  |cons r1 r2=>
   cases r2
   cases r1
   refine⟨i,rfl,k (.v (.int (i.natAbs:Nat))) _ Z H .refl ok ?_ h⟩
   have:(if i<0 then -i else i)=((i.natAbs:Nat):Int):=by split<;>omega
   rw[this]
   exact Rp.int _
 ·exact h.elim
theorem yr(hg:Gl X "abs")(hm:X.mg "abs"=none)(ha:DA X (e::es) t)
  (he:starEach (e::es) X.env=(false,eval e X.env)::starEach es X.env:=by rfl) (hpl:(backTo pos (starEach es X.env)).any (·.1)=false:=by rfl):DE X (.Call (.Name "abs" p) (e::es) [] pos) (dCB sA t):=
 lM Lk Ry hg hm PyProof.Rows.Boot.«abs» ha ⋯ ⋯ he hpl
def En(g:Int->Int->Int):List D->Mu->DK->Prop:=fun xs Z Q=>match xs with
 |[.v (.int i),.v (.int j)]=>Q (.v (.int (g i j))) Z
 |_=>False
theorem Px{K:PySem.W.Frag}{g g':Int->Int->Int}(hg:∀i j,g i j=g' i j):nL K (fun xs H Q=>∃i j,xs=[.int i,.int j]/\Q (.int (g i j)) H) (En g'):=by
 intro xs us H Z Qd Q ok rs h k
 unfold En at h
 split at h
 ·rename_i i j
  cases rs with
  |cons r1 r2=>
   cases r2 with
   |cons r2 r3=>
    cases r3
    cases r1
    cases r2
    exact⟨i,j,rfl,k (.v _) _ Z H .refl ok (by rw[hg];exact Rp.int _) h⟩
 ·exact h.elim
theorem Qg(hc:X.calm=true)(hg:Gl X "max")(hm:X.mg "max"=none)(ha:DA X (e::es) t)
  (he:starEach (e::es) X.env=(false,eval e X.env)::starEach es X.env:=by rfl) (hpl:(backTo pos (starEach es X.env)).any (·.1)=false:=by rfl):DE X (.Call (.Name "max" p) (e::es) [] pos) (dCB (En max) t):=
 lM (Lc hc) (Px (fun i j=>by show (if j>i then j else i)=max i j;simp only[Int.max_def];split<;>split<;>omega)) hg hm PyProof.Rows.Boot.«max» ha ⋯ ⋯ he hpl
theorem Hr(hc:X.calm=true)(hg:Gl X "min")(hm:X.mg "min"=none)(ha:DA X (e::es) t)
  (he:starEach (e::es) X.env=(false,eval e X.env)::starEach es X.env:=by rfl) (hpl:(backTo pos (starEach es X.env)).any (·.1)=false:=by rfl):DE X (.Call (.Name "min" p) (e::es) [] pos) (dCB (En min) t):=
 lM (KZ hc) (Px (fun i j=>by show (if j<i then j else i)=min i j;simp only[Int.min_def];split<;>split<;>omega)) hg hm PyProof.Rows.Boot.«min» ha ⋯ ⋯ he hpl
def sV:List D->Mu->DK->Prop:=fun xs Z Q=>match xs with
 |[.v (.int i)]=>Q (.v (.int i)) Z
 |[.v (.bool k)]=>Q (.v (.int (if k then 1 else 0))) Z
 |_=>False
theorem Qj{K:PySem.W.Frag}:nL K (fun xs H Q=>(∃i,xs=[.int i]/\Q (.int i) H)\/∃k,xs=[.bl k]/\Q (.int (if k then 1 else 0)) H) sV:=by
 intro xs us H Z Qd Q ok rs h k
 unfold sV at h
 split at h
 ·rename_i i
  cases rs with
  |cons r1 r2=>cases r2;cases r1;exact .inl ⟨i,rfl,k (.v _) _ Z H .refl ok (Rp.int _) h⟩
 ·rename_i b
  cases rs with
  |cons r1 r2=>cases r2;cases r1;exact .inr ⟨b,rfl,k (.v _) _ Z H .refl ok (Rp.int _) h⟩
 ·exact h.elim
theorem ou(hg:Gl X "int")(hm:X.mg "int"=none)(ha:DA X (e::es) t)
  (he:starEach (e::es) X.env=(false,eval e X.env)::starEach es X.env:=by rfl) (hpl:(backTo pos (starEach es X.env)).any (·.1)=false:=by rfl):DE X (.Call (.Name "int" p) (e::es) [] pos) (dCB sV t):=
 pP K7 Qj hg hm PyProof.Rows.Boot.«int» ha ⋯ ⋯ he hpl
def xm:List D->Mu->DK->Prop:=fun xs Z Q=>match xs with
 |[.v (.list ys)]=>Q (.v (.list ys)) Z
 |[.v (.tuple ys)]=>Q (.v (.list ys)) Z
 |_=>False
theorem Of{K:PySem.W.Frag}:nL K (fun xs H Q=>∃p ys,xs=[.ref p]/\(SqL K H p ys\/SqT K H p ys)/\∀l,H l=none->Q (.ref l) (upd H l (.lst ys))) xm:=by
 intro xs us H Z Qd Q ok rs h k
 unfold xm at h
 split at h
 ·cases rs with
  |cons r1 r2=>
   cases r2
   cases r1 with
   |list hs hn r=>exact⟨_,_,rfl,.inl (SqL.of hs),fun p hp=>k (.v _) _ Z _ (dj hp) (ok.new hp) (eW ok r hp) h⟩
 ·cases rs with
  |cons r1 r2=>
   cases r2
   cases r1 with
   |tuple hs r=>exact⟨_,_,rfl,.inr hs,fun p hp=>k (.v _) _ Z _ (dj hp) (ok.new hp) (eW ok r hp) h⟩
 ·exact h.elim
theorem Ow(hg:Gl X "list")(hm:X.mg "list"=none)(ha:DA X (e::es) t)
  (he:starEach (e::es) X.env=(false,eval e X.env)::starEach es X.env:=by rfl) (hpl:(backTo pos (starEach es X.env)).any (·.1)=false:=by rfl):DE X (.Call (.Name "list" p) (e::es) [] pos) (dCB xm t):=
 pP CC Of hg hm PyProof.Rows.Boot.«list» ha ⋯ ⋯ he hpl
theorem EI:∀{bs:List Bool} {us:List Value},Vals (bs.map V.bl) us->us=bs.map Value.bool
 |[],_,.nil=>rfl
 |b::r,_,.cons h t=>by cases h;rw[EI t];rfl
theorem KQ(hc:X.calm=true):jE X (.builtin "all") (fun xs H Q=>∃(p:Addr) (bs:List Bool),xs=[.ref p]/\H p=some (.lst (bs.map V.bl))/\Q (.bl (bs.all id)) H):=by
 intro pins s σ H xs us Q I r h
 obtain⟨l,bs,rfl,hl,q⟩:=h
 obtain⟨u,rfl,rx⟩:=vals1 r
 cases rx
 obtain⟨its,rv,pl,_⟩:=I.list (SqL.of hl)
 have eb:=EI rv
 subst eb
 have hL:=pl.isList
 have hlt:=pl.lt
 refine call_all_walk (wpAny_pyIter_list hL ?_)
 refine⟨s.heap.objs.size,[s.heap.objs.size,l],[s.heap.objs.size],(bs.map Value.bool).toArray.size,_,_,fun i=>(bs[i]?).getD true,rfl,Walks.list (A:=X.A.in1) (by exact I.ok.hd hc) _ l (ne_of_lt hlt) (bs.map Value.bool).toArray,
  ⟨⟨_,Heap.get?_push_size _ rfl,rfl,rfl⟩,hL.push _⟩,fun i v s' Q' E' hP hQ=>?_,fun h' tk hk=>?_⟩
 ·have hP':(bs.map Value.bool)[i]? = some v:=by simpa using hP
  rw[getElem?_map] at hP'
  cases z:bs[i]? with
  |none=>rw[z] at hP';cases hP'
  |some b=>
   rw[z] at hP'
   cases hP'
   simp only[z,Option.getD_some] at hQ
   exact wpAny_truthy_bool hQ
 ·have e:((List.range (bs.map Value.bool).toArray.size).all fun i=>(bs[i]?).getD true)=bs.all id:=by
   rw[size_toArray,length_map];exact PyProof.Rows.LSm.range_all bs
  rw[e]
  exact⟨.bl (bs.all id),H,I.kept (PyProof.Rows.LSm.kept_iter hk),rfl,q⟩
def bN:List PyData->Option (List Bool)
 |[]=>some []
 |.bool b::r=>(bN r).map (b::·)
 |_::_=>none
theorem yX{K:PySem.W.Frag}{Z:Mu}{H:Hp}:∀{xs:List PyData} {us:List V} {bs:List Bool},RpL K Z H xs us->bN xs=some bs->us=bs.map V.bl
 |_,_,_,.nil,e=>by cases e;rfl
 |.bool b::r,_,bs,.cons h t,e=>by
  simp only[bN] at e
  cases q:bN r with
  |none=>rw[q] at e;cases e
  |some cs=>rw[q] at e;cases e;cases h;rw[yX t q];rfl
 |.none::r,_,bs,.cons h t,e=>by simp[bN] at e
 |.int _::r,_,bs,.cons h t,e=>by simp[bN] at e
 |.str _::r,_,bs,.cons h t,e=>by simp[bN] at e
 |.list _::r,_,bs,.cons h t,e=>by simp[bN] at e
 |.tuple _::r,_,bs,.cons h t,e=>by simp[bN] at e
 |.dict _::r,_,bs,.cons h t,e=>by simp[bN] at e
def qo:List D->Mu->DK->Prop:=fun xs Z Q=>match xs with
 |[.v (.list ys)]=>(match bN ys with|some bs=>Q (.v (.bool (bs.all id))) Z|none=>False)
 |_=>False
theorem PY{K:PySem.W.Frag}:nL K (fun xs H Q=>∃(p:Addr) (bs:List Bool),xs=[.ref p]/\H p=some (.lst (bs.map V.bl))/\Q (.bl (bs.all id)) H) qo:=by
 intro xs us H Z Qd Q ok rs h k
 unfold qo at h
 split at h
 ·rename_i ys
  cases q:bN ys with
  |none=>rw[q] at h;exact h.elim
  |some bs=>
   rw[q] at h
   cases rs with
   |cons r1 r2=>
    cases r2
    cases r1 with
    |list hs hn r=>exact⟨_,bs,rfl,by rw[hs,yX r q],k (.v _) _ Z H .refl ok (Rp.bool _) h⟩
 ·exact h.elim
theorem vf(hc:X.calm=true)(hg:Gl X "all")(hm:X.mg "all"=none)(ha:DA X (e::es) t)
  (he:starEach (e::es) X.env=(false,eval e X.env)::starEach es X.env:=by rfl) (hpl:(backTo pos (starEach es X.env)).any (·.1)=false:=by rfl):DE X (.Call (.Name "all" p) (e::es) [] pos) (dCB qo t):=
 lM (KQ hc) PY hg hm PyProof.Rows.Boot.«all» ha ⋯ ⋯ he hpl
def tyD:PyData->String
 |.none=>"NoneType"
 |.bool _=>"bool"
 |.int _=>"int"
 |.str _=>"str"
 |.list _=>"list"
 |.tuple _=>"tuple"
 |.dict _=>"dict"
def isT(T:String)(d:PyData):Bool:=tyD d==T || (T == "int"&&tyD d == "bool")
theorem Ku{pins:List (Addr×Obj)}{σ:St}{H:Hp}{s:Shared}{Z:Mu}{d:PyData}{u:V}{v:Value}{k:Bool}{A:Around}{E:Value->Shared->Prop}{Q:Value->Shared->Prop}(I:Inv X pins σ H s)(r:Rp X.K Z H d u)(rx:RelV u v)
  (ek:kitOne X.K (.type (tyD d)) (.type T)=some k) (h:∀tk,Q (.bool k) {s with toks:=tk}):wpAny (model X.prog X.w) A (call (.builtin "isinstance") [v,.type T]) Q E s:=by
 cases r with
 |none=>cases rx;exact kia_one PySem.W.kitx_none I.kIn True.intro ek (fun z=>nomatch z) h
 |bool b=>cases rx;exact kia_one PySem.W.kitx_bool I.kIn True.intro ek (fun z=>nomatch z) h
 |int i=>obtain⟨t,rfl⟩:=rx;exact kia_one PySem.W.kitx_int I.kIn True.intro ek (fun z=>nomatch z) h
 |str y=>obtain⟨t,rfl⟩:=rx;exact kia_one PySem.W.kitx_str I.kIn True.intro ek (fun z=>nomatch z) h
 |list hs hn q=>
  cases rx
  obtain⟨its,rv,⟨o,n,h1,h2,_⟩,_⟩:=I.list (SqL.of hs)
  exact kia_one PySem.W.kitx_list I.kIn ⟨o,h1,h2⟩ ek (fun z=>nomatch z) h
 |tuple hs q=>
  cases rx
  obtain⟨its,rv,⟨o,h1,h2,_⟩,_⟩:=I.tuple hs
  exact kia_one PySem.W.kitx_tuple I.kIn ⟨o,h1,h2⟩ ek (fun z=>nomatch z) h
theorem Je(K:PySem.W.Frag)(d:PyData):kitOne K (.type (tyD d)) (.type "int")=some (isT "int" d):=by cases d<;>rfl
theorem zP(K:PySem.W.Frag)(d:PyData):kitOne K (.type (tyD d)) (.type "bool")=some (isT "bool" d):=by cases d<;>rfl
theorem kit_tuple(K:PySem.W.Frag)(d:PyData):kitOne K (.type (tyD d)) (.type "tuple")=some (isT "tuple" d):=by cases d<;>rfl
theorem Ny(K:PySem.W.Frag)(d:PyData):kitOne K (.type (tyD d)) (.type "list")=some (isT "list" d):=by cases d<;>rfl
theorem vA(kt:∀d,kitOne X.K (.type (tyD d)) (.type T)=some (isT T d)):jE X (.builtin "isinstance") (fun xs H Q=>∃Z d u,xs=[u,.ty T]/\Rp X.K Z H d u/\Q (.bl (isT T d)) H):=by
 intro pins s σ H xs us Q I r h
 obtain⟨Z,d,u,rfl,rd,q⟩:=h
 obtain⟨v,w',rfl,r1,r2⟩:=vals2 r
 cases r2
 exact Ku I rd r1 (kt d) fun tk=>⟨.bl (isT T d),H,I.tok _,rfl,q⟩
noncomputable def zU(T:String)(te:DTE):DTE:=fun ρ Z Q=>te ρ Z fun x ad=>match x with
 |.v d=>Q (.v (.bool (isT T d))) ad
 |_=>False
theorem kr{y:Str}{py:Pos}(kt:∀d,kitOne X.K (.type (tyD d)) (.type T)=some (isT T d))(hg:Gl X "isinstance")(hm:X.mg "isinstance"=none)(hgy:Gl X y)(hmy:X.mg y=none)(hvy:bootBuiltins y=some (.type T))(ha:DE X e te)
  (hny:y ≠ "__name__":=by decide) (hdy:(y==("__debug__":Str))=false:=by decide)
  (he:starEach [e,.Name y py] X.env=(false,eval e X.env)::starEach [.Name y py] X.env:=by rfl) (he2:starEach [.Name y py] X.env=[(false,eval (.Name y py) X.env)]:=by rfl) (hpl:(backTo pos (starEach [.Name y py] X.env)).any (·.1)=false:=by rfl):DE X (.Call (.Name "isinstance" p) [e,.Name y py] [] pos) (zU T te):=by
 obtain⟨t1,p1,l1⟩:=ha
 refine⟨_,xw (vA kt) hg hm PyProof.Rows.Boot.«isinstance» (i6 p1 (i6 (J4 (v:=.ty T) hgy hmy hvy rfl hny hdy) uW he2) he) ⋯ ⋯ he hpl,fun σ H ρ Z Qd Q S h k=>?_⟩
 refine l1 σ H ρ Z _ _ S h fun x ux ad H1 e1 S1 rx h1=>?_
 split at h1
 ·exact⟨ad,_,ux,rfl,rx,k (.v _) _ ad H1 e1 S1 (Rp.bool _) h1⟩
 ·exact h1.elim
def isC:PyData->PyData->Option Bool
 |.bool a,.bool b=>some (a==b)
 |.none,.none=>some true
 |_,_=>none
noncomputable def TH:R2:=fun x y H Q=>(∃i j,x = .bl i/\y = .bl j/\Q (.bl (i==j)) H)\/(x = .non/\y = .non/\Q (.bl true) H)
theorem MD:OpR X (compareOp .Is) TH:=by
 intro pins s σ H x y v u Q I rx ry h
 rcases h with ⟨i,j,rfl,rfl,q⟩|⟨rfl,rfl,q⟩
 ·cases rx;cases ry
  exact wpAny_is_plain rfl ⟨.bl (i==j),H,I,by cases i<;>cases j<;>rfl,q⟩
 ·cases rx;cases ry
  exact wpAny_is_plain rfl ⟨.bl true,H,I,rfl,q⟩
def LP:D->D->Mu->DK->Prop:=fun x y Z Q=>match x,y with
 |.v (.bool i),.v (.bool j)=>Q (.v (.bool (i==j))) Z
 |.v .none,.v .none=>Q (.v (.bool true)) Z
 |_,_=>False
theorem Pp{K:PySem.W.Frag}:i4 K TH LP:=by
 intro x y ux uy H Z Qd Q ok rx ry h k
 unfold LP at h
 split at h
 ·cases rx;cases ry;exact .inl ⟨_,_,rfl,rfl,k (.v _) _ Z H .refl ok (Rp.bool _) h⟩
 ·cases rx;cases ry;exact .inr ⟨rfl,rfl,k (.v _) _ Z H .refl ok (Rp.bool _) h⟩
 ·exact h.elim
end
section
variable {X:Cx}{a b e:Expr}{es:List Expr}{ta tb te:DTE}{t:DTA}{p pos:Pos}{st:Stmt}{rest sts:List Stmt}{td ud:DTS}{tc:DTT}
noncomputable def bI:DTS:=fun Dd ρ Z=>Dd.nx ρ Z
noncomputable def aP(t u:DTS):DTS:=fun Dd ρ Z=>t {Dd with nx:=u Dd} ρ Z
noncomputable def bq(te:DTE):DTS:=fun Dd ρ Z=>te ρ Z Dd.rt
noncomputable def nC(te:DTE):DTS:=fun Dd ρ Z=>te ρ Z fun _ ad=>Dd.nx ρ ad
noncomputable def cC(c:DTT)(t u:DTS):DTS:=fun Dd ρ Z=>c ρ Z fun b ad=>if b=true then t Dd ρ ad else u Dd ρ ad
theorem aX:DSs X [] bI:=⟨_,Od,fun σ H ρ Z Dd De S h k1 k2 k3 k4=>k1 σ ρ Z H .refl S h⟩
theorem ar(h:DS X st td):DSs X [st] td:=let ⟨t,p,l⟩:=h;⟨t,Pg p,l⟩
theorem lift_seq{K:PySem.W.Frag}{t u:TS}(l1:Bf K t td)(l2:Bf K u ud):Bf K (Su t u) (aP td ud):=by
 intro σ H ρ Z Dd De S h k1 k2 k3 k4
 refine l1 σ H ρ Z _ _ S h (fun bn bm U H' e' S' h'=>?_) k2 k3 k4
 exact l2 bn H' bm U Dd De S' h' (fun a b c d e2=>k1 a b c d (e'.trans e2)) (fun a b c d e2=>k2 a b c d (e'.trans e2)) (fun a b c d e2=>k3 a b c d (e'.trans e2)) (fun a b c d e2=>k4 a b c d (e'.trans e2))
theorem ak(h1:DS X st td)(h2:DSs X rest ud):DSs X (st::rest) (aP td ud):=by
 obtain⟨t1,p1,l1⟩:=h1
 obtain⟨t2,p2,l2⟩:=h2
 exact⟨_,L4 p1 p2,lift_seq l1 l2⟩
theorem aH(he:DE X e te):DS X (.Return (some e) pos) (bq te):=by
 obtain⟨t1,p1,l1⟩:=he
 exact⟨_,Ro p1,fun σ H ρ Z Dd De S h k1 k2 k3 k4=>l1 σ H ρ Z _ _ S h fun d u U H' e' S' r q=>k2 d u U H' e' S'.mu r q⟩
theorem iy(he:DE X e te)(hs:swapsWith e none pos.line X.env=pure false:=by rfl):DS X (.Expr e pos) (nC te):=by
 obtain⟨t1,p1,l1⟩:=he
 exact⟨_,Oz p1 hs,fun σ H ρ Z Dd De S h k1 k2 k3 k4=>l1 σ H ρ Z _ _ S h fun d u U H' e' S' r q=>k1 σ ρ U H' e' S' q⟩
theorem bF{c:Expr}{x y:List Stmt}(hc:DT X c tc)(ha:DSs X x td)(hb:DSs X y ud):DS X (.If c x y pos) (cC tc td ud):=by
 obtain⟨t0,p0,l0⟩:=hc
 obtain⟨t1,p1,l1⟩:=ha
 obtain⟨t2,p2,l2⟩:=hb
 refine⟨_,Sw p0 p1 p2,fun σ H ρ Z Dd De S h k1 k2 k3 k4=>?_⟩
 refine l0 σ H ρ Z _ _ S h fun c ad H1 e1 S1 h1=>?_
 cases c with
 |true=>exact zI (l1 σ H1 ρ ad Dd De S1 (by simpa using h1) (fun a b c d e2=>k1 a b c d (e1.trans e2)) (fun a b c d e2=>k2 a b c d (e1.trans e2)) (fun a b c d e2=>k3 a b c d (e1.trans e2)) (fun a b c d e2=>k4 a b c d (e1.trans e2)))
 |false=>exact xP (l2 σ H1 ρ ad Dd De S1 (by simpa using h1) (fun a b c d e2=>k1 a b c d (e1.trans e2)) (fun a b c d e2=>k2 a b c d (e1.trans e2)) (fun a b c d e2=>k3 a b c d (e1.trans e2)) (fun a b c d e2=>k4 a b c d (e1.trans e2)))
abbrev DTG:=D->Rho->Mu->(Rho->Mu->Prop)->Prop
abbrev AQ:=List PyData->Rho->Mu->(Rho->Mu->Prop)->Prop
noncomputable def Lh(K:PySem.W.Frag)(g:TG)(gd:DTG):Prop:=∀(σ:St) (H:Hp) (ρ:Rho) (Z:Mu) (d:D) (u:V) (Qd:Rho->Mu->Prop) (Q:St->Hp->Prop),St0 K H ρ Z σ->RpD K Z H d u->gd d ρ Z Qd ->
 (∀bn bm U H',Ext K Z H U H'->St0 K H' bm U bn->Qd bm U->Q bn H')->g u σ H Q
noncomputable def Qc(K:PySem.W.Frag)(g:TGs)(gd:AQ):Prop:=∀(σ:St) (H:Hp) (ρ:Rho) (Z:Mu) (ds:List PyData) (us:List V) (Qd:Rho->Mu->Prop) (Q:St->Hp->Prop),St0 K H ρ Z σ->RpL K Z H ds us->gd ds ρ Z Qd ->
 (∀bn bm U H',Ext K Z H U H'->St0 K H' bm U bn->Qd bm U->Q bn H')->g us σ H Q
noncomputable def DG(X:Cx)(tg:Expr)(gd:DTG):Prop:=∃g,PG X tg g/\Lh X.K g gd
noncomputable def DGs(X:Cx)(tg:List Expr)(gd:AQ):Prop:=∃g,PGs X tg g/\Qc X.K g gd
theorem gG.set{K:PySem.W.Frag}{Z:Mu}{H:Hp}{ρ:Rho}{σ:St}{i:Nat}{d:D}{u:V}(r:gG K Z H ρ σ)(h:RpD K Z H d u):gG K Z H (ρ.set i (some d)) (σ.set i (some u)):=by
 refine⟨by rw[List.length_set,List.length_set];exact r.1,fun j d' e=>?_⟩
 by_cases hj:i=j
 ·subst hj
  have hl:i<ρ.length:=by
   have:=(List.getElem?_eq_some_iff.mp e).1
   rw[List.length_set] at this
   exact this
  rw[List.getElem?_set_self hl] at e
  cases e
  exact⟨u,List.getElem?_set_self (by rw[<- r.1];exact hl),h⟩
 ·rw[List.getElem?_set_ne hj] at e
  obtain⟨w,e1,e2⟩:=r.2 j d' e
  exact⟨w,by rw[List.getElem?_set_ne hj];exact e1,e2⟩
noncomputable def aq(i:Nat):DTG:=fun d ρ Z Q=>Q (ρ.set i (some d)) Z
theorem zw{K:PySem.W.Frag}{i:Nat}:Lh K (LS i) (aq i):=fun σ H ρ Z d u Qd Q S r h k=>k _ _ Z H .refl ⟨S.mu,S.rho.set r⟩ h
theorem aw{i:Nat}{x:Str}(hN:X.N.Nodup)(hi:X.N[i]? = some x)(hx:Loc X.env.scope x)(hf:X.fn x=true\/X.env.scope.names.lookup x=some .local:=by first|exact .inl rfl|exact .inr rfl|assumption):DG X (.Name x pos) (aq i):=⟨_,OI hN hi hx hf,zw⟩
def eK:AQ:=fun ds ρ Z Q=>match ds with
 |[]=>Q ρ Z
 |_=>False
def aQ(g:DTG)(gs:AQ):AQ:=fun ds ρ Z Q=>match ds with
 |d::r=>g (.v d) ρ Z fun tx ad=>gs r tx ad Q
 |_=>False
theorem bY:DGs X [] eK:=⟨_,OD,fun σ H ρ Z ds us Qd Q S r h k=>by
 cases r with
 |nil=>exact⟨rfl,k σ ρ Z H .refl S h⟩
 |cons _ _=>exact h.elim⟩
theorem aB{g:DTG}{gs:AQ}(h1:DG X e g)(h2:DGs X es gs)(hs:(assignEach (e::es) X.env).map (·.2)=assign e X.env::(assignEach es X.env).map (·.2):=by rfl):DGs X (e::es) (aQ g gs):=by
 obtain⟨t1,p1,l1⟩:=h1
 obtain⟨t2,p2,l2⟩:=h2
 refine⟨_,Nb p1 p2 hs,fun σ H ρ Z ds us Qd Q S r h k=>?_⟩
 cases r with
 |nil=>exact h.elim
 |@cons d u ds us r1 r2=>
  refine⟨u,us,rfl,l1 σ H ρ Z (.v d) u _ _ S r1 h fun bn bm U H' e1 S' h1=>?_⟩
  exact l2 bn H' bm U ds us _ _ S' (r2.ext S.mu e1) h1 fun a b c d e2=>k a b c d (e1.trans e2)
noncomputable def eD(n:Nat)(gs:AQ):DTG:=fun d ρ Z Q=>match d with
 |.v (.tuple xs)=>xs.length=n/\gs xs ρ Z Q
 |_=>False
theorem dg{k n:Nat}{gs:AQ}(hc:X.calm=X.calm)(h:DGs X es gs)
  (hn:(assignEach es X.env).length=n:=by rfl) (hst:(assignEach es X.env).findIdx? (·.1)=none:=by rfl):DG X (.Tuple es k pos) (eD n gs):=by
 obtain⟨t1,p1,l1⟩:=h
 refine⟨_,Rl hc p1 hn hst,fun σ H ρ Z d u Qd Q S r h k=>?_⟩
 unfold eD at h
 split at h
 ·cases r with
  |@tuple a us _ ha ra=>exact⟨a,us,rfl,ha,by rw[<- ra.length];exact h.1,l1 σ H ρ Z _ us _ _ S ra h.2 k⟩
 ·exact h.elim
noncomputable def JC(to ti:DTE):DTG:=fun d ρ Z Q=>to ρ Z fun o ad=>ti ρ ad fun i am=>match o,i,d with
 |.m l,.v (.int k),.v x=>(match am l with
  |some xs=>(match ixN xs.length k with
   |some j=>Q ρ (az am l (xs.set j x))
   |none=>False)
  |none=>False)
 |_,_,_=>False
theorem Nc{o i:Expr}{to ti:DTE}(ho:DE X o to)(hi:DE X i ti)
  (ha:∀v,assign (.Subscript o i pos) X.env v=(do
   let ov <- holding [v] (eval o X.env)
   let iv <- holding [v,ov] (eval i X.env)
   standAt pos
   holding [v,ov,iv] (setItem ov iv v)
   release [v,ov,iv] []):=by intro _;rfl):DG X (.Subscript o i pos) (JC to ti):=by
 obtain⟨t1,p1,l1⟩:=ho
 obtain⟨t2,p2,l2⟩:=hi
 refine⟨_,Qx p1 p2 set_list ha,fun σ H ρ Z d u Qd Q S r h k=>?_⟩
 refine l1 σ H ρ Z _ _ S h fun x ux ad H1 e1 S1 rx h1=>?_
 refine l2 σ H1 ρ ad _ _ S1 h1 fun y uy am H2 e2 S2 ry h2=>?_
 have r2:=(r.ext S.mu e1).ext S1.mu e2
 have rx2:=rx.ext S1.mu e2
 split at h2
 ·rename_i l kk xv
  obtain⟨rfl,ds,hm⟩:=rx2
  cases ry
  rw[hm] at h2
  obtain⟨us,hl,rl⟩:=S2.mu l ds hm
  simp only at h2
  cases q:ixN ds.length kk with
  |none=>rw[q] at h2;exact h2.elim
  |some j=>
   rw[q] at h2
   refine⟨l,us,kk,j,rfl,rfl,hl,by rw[<- rl.length];exact q,?_⟩
   have ex:Ext X.K am H2 (az am l (ds.set j xv)) (upd H2 l (.lst (us.set j u))):=gh hm
   exact k σ ρ _ _ (e1.trans (e2.trans ex)) ⟨S2.mu.set hm (rl.set r2 j),S2.rho.ext S2.mu ex⟩ h2
 ·exact h2.elim
noncomputable def bo(te:DTE)(g:DTG):DTS:=fun Dd ρ Z=>te ρ Z fun d ad=>g d ρ ad Dd.nx
theorem GX{K:PySem.W.Frag}{t:TE}{g:TG}{gd:DTG}(l1:rO K t te)(l2:Lh K g gd):Bf K (QY t g) (bo te gd):=by
 intro σ H ρ Z Dd De S h k1 k2 k3 k4
 refine l1 σ H ρ Z _ _ S h fun d u ad H1 e1 S1 r h1=>?_
 exact l2 σ H1 ρ ad d u _ _ S1 r h1 fun a b c d e2=>k1 a b c d (e1.trans e2)
theorem jI{tg:Expr}{g:DTG}(he:DE X e te)(hg:DG X tg g)(hs:swapsWithSole [tg] e pos.line X.env=pure false:=by rfl)(hw:swappedStores [tg] e X.env=pure none:=by rfl)
  (h1:(assignEach [tg] X.env).map (·.2)=[assign tg X.env]:=by rfl):DS X (.Assign [tg] e pos) (bo te g):=by
 obtain⟨t1,p1,l1⟩:=he
 obtain⟨t2,p2,l2⟩:=hg
 exact⟨_,RC p1 p2 hs hw h1,GX l1 l2⟩
theorem aS{i:Nat}{x:Str}{pos':Pos}(hN:X.N.Nodup)(hi:X.N[i]? = some x)(hx:Loc X.env.scope x)(he:DE X e te)(hs:swapsWith e (some (.Name x pos')) pos.line X.env=pure false:=by rfl)(hf:X.fn x=true\/X.env.scope.names.lookup x=some .local:=by first|exact .inl rfl|exact .inr rfl|assumption) :
  DS X (.Assign [.Name x pos'] e pos) (bo te (aq i)):=by
 obtain⟨t1,p1,l1⟩:=he
 exact⟨_,Qy hN hi hx p1 hs hf,GX l1 zw⟩
noncomputable def zJ(i j:Nat)(t:DTA):DTS:=fun Dd ρ Z=>t ρ Z fun ds ad=>match ds with
 |[v,w]=>Dd.nx ((ρ.set i (some v)).set j (some w)) ad
 |_=>False
theorem ml{i j:Nat}{x y:Str}{a b:Expr}{t:DTA}{px py pt:Pos}{kt k2 pt2}(hc:X.calm=true)(hN:X.N.Nodup)(hi:X.N[i]? = some x)(hj:X.N[j]? = some y)(hij:i≠j)
  (hx:X.env.scope.names.lookup x=some .local) (hy:X.env.scope.names.lookup y=some .local) (ha:DA X [a,b] t)
  (hw:swappedStores [.Tuple [.Name x px,.Name y py] kt pt] (.Tuple [a,b] k2 pt2) X.env=pure (some [x,y]))
  (hs:swapsWithSole [.Tuple [.Name x px,.Name y py] kt pt] (.Tuple [a,b] k2 pt2) pos.line X.env=pure false:=by rfl) :
  DS X (.Assign [.Tuple [.Name x px,.Name y py] kt pt] (.Tuple [a,b] k2 pt2) pos) (zJ i j t):=by
 obtain⟨t1,p1,l1⟩:=ha
 refine⟨_,PR hc hN hi hj hij hx hy p1 hw hs,fun σ H ρ Z Dd De S h k1 k2 k3 k4=>?_⟩
 refine l1 σ H ρ Z _ _ S h fun ds us ad H1 e1 S1 rs len h1=>?_
 split at h1
 ·cases rs with
  |cons r1 r2=>
   cases r2 with
   |cons r2 r3=>
    cases r3
    exact⟨_,_,rfl,k1 _ _ ad H1 e1 ⟨S1.mu,(S1.rho.set r1).set r2⟩ h1⟩
 ·exact h1.elim
noncomputable def uq(c:DTT)(tb:DTS):DTS:=fun Dd ρ Z=>∃W:Nat->Rho->Mu->Prop,(∃m,W m ρ Z)/\∀m ρ Z,W m ρ Z ->
 c ρ Z fun b ad=>if b=true then tb {Dd with nx:=fun bm U=>∃m',m'<m/\W m' bm U,ct:=fun bm U=>∃m',m'<m/\W m' bm U,bk:=Dd.nx} ρ ad else Dd.nx ρ ad
theorem tI{c:Expr}{body:List Stmt}(hp:PassesOwn (model X.prog X.w) X.A X.env X.xe)(hc:DT X c tc)(hb:DSs X body td):DS X (.While c body [] pos) (uq tc td):=by
 obtain⟨t0,p0,l0⟩:=hc
 obtain⟨t1,p1,l1⟩:=hb
 refine⟨_,LK hp p0 p1,fun σ H ρ Z Dd De S h k1 k2 k3 k4=>?_⟩
 obtain⟨W,⟨m,w0⟩,turn⟩:=h
 refine⟨fun m bn H'=>∃bm U,Ext X.K Z H U H'/\St0 X.K H' bm U bn/\W m bm U,⟨m,ρ,Z,.refl,S,w0⟩,?_⟩
 rintro m tj H1 ⟨tx,ad,e1,S1,w1⟩
 refine l0 tj H1 tx ad _ _ S1 (turn m tx ad w1) fun b am H2 e2 S2 h2=>?_
 cases b with
 |true=>
  refine zI ⟨fun bn H'=>∃m',m'<m/\∃bm U,Ext X.K Z H U H'/\St0 X.K H' bm U bn/\W m' bm U,fun bn H' ⟨m',hm,q⟩=>⟨m',hm,q⟩,?_⟩
  have nxt:∀bn bm U H',Ext X.K am H2 U H'->St0 X.K H' bm U bn->(∃m',m'<m/\W m' bm U)->∃m',m'<m/\∃bm U,Ext X.K Z H U H'/\St0 X.K H' bm U bn/\W m' bm U:=
   fun bn bm U H' e3 S3 ⟨m',hm,q⟩=>⟨m',hm,bm,U,e1.trans (e2.trans e3),S3,q⟩
  rw[if_pos rfl] at h2
  exact l1 tj H2 tx am _ _ S2 h2 nxt (fun a b c d e3=>k2 a b c d (e1.trans (e2.trans e3))) (fun a b c d e3=>k1 a b c d (e1.trans (e2.trans e3))) nxt
 |false=>exact xP (k1 tj tx am H2 (e1.trans e2) S2 (by simpa using h2))
abbrev DTI:=Rho->Mu->(List PyData->Mu->Prop)->Prop
noncomputable def HY(K:PySem.W.Frag)(J:It)(xs:List PyData)(ad:Mu)(H1:Hp):Prop:=∀am H2,Ext K ad H1 am H2->bG K am H2->∀i,(i<xs.length->J.go i H2/\∀x H',J.yld i H2 x H'->∃d,xs[i]? = some d/\yf H2 H'/\Rp K am H' d x)/\(i=xs.length->J.stop i H2)
noncomputable def Tf(K:PySem.W.Frag)(wi:TI)(src:DTI):Prop:=∀(σ:St) (H:Hp) (ρ:Rho) (Z:Mu) (Qd:List PyData->Mu->Prop) (R:It->Hp->Prop),St0 K H ρ Z σ->src ρ Z Qd ->
 (∀xs ad H1 J,Ext K Z H ad H1->St0 K H1 ρ ad σ->HY K J xs ad H1->Qd xs ad->R J H1)->wi σ H R
noncomputable def DI(X:Cx)(tg iter:Expr)(src:DTI):Prop:=∃wi,PI X tg iter wi/\Tf X.K wi src
variable {tg:Expr}
noncomputable def iV(te:DTE):DTI:=fun ρ Z Q=>te ρ Z fun d ad=>match d with
 |.v (.list xs)=>Q xs ad
 |_=>False
noncomputable def km(te:DTE):DTI:=fun ρ Z Q=>te ρ Z fun d ad=>match d with
 |.v (.tuple xs)=>Q xs ad
 |_=>False
theorem ig(h:DE X e te):DI X tg e (iV te):=by
 obtain⟨t1,p1,l1⟩:=h
 refine⟨_,Jb p1,fun σ H ρ Z Qd R S h k=>?_⟩
 refine l1 σ H ρ Z _ _ S h fun d u ad H1 e1 S1 r h1=>?_
 split at h1
 ·rename_i xs
  cases r with
  |@list a us _ ha hn ra=>
   refine⟨a,rfl,⟨us,SqL.of ha⟩,k xs ad H1 _ e1 S1 (fun am H2 e2 ok2 i=>⟨fun hi=>?_,fun hi=>?_⟩) h1⟩
   ·have ha2:=e2.keep _ _ ha hn trivial
    have hiu:i<us.length:=by rw[<- ra.length];exact hi
    refine⟨⟨us,us[i],SqL.of ha2,by simp[hiu]⟩,fun x H' hq0=>?_⟩
    obtain⟨eH,hx⟩:=hq0
    subst eH
    obtain⟨u',h1',h2'⟩:=ra.get (i:=i) (d:=xs[i]) (by simp[hi])
    have:=hx us (SqL.of ha2)
    rw[h1'] at this
    cases this
    exact⟨xs[i],by simp[hi],yf.refl _,h2'.ext S1.mu e2⟩
   ·exact⟨us,SqL.of (e2.keep _ _ ha hn trivial),by rw[<- ra.length];omega⟩
 ·exact h1.elim
theorem mJ(h:DE X e te):DI X tg e (km te):=by
 obtain⟨t1,p1,l1⟩:=h
 refine⟨_,QV p1,fun σ H ρ Z Qd R S h k=>?_⟩
 refine l1 σ H ρ Z _ _ S h fun d u ad H1 e1 S1 r h1=>?_
 split at h1
 ·rename_i xs
  cases r with
  |@tuple a us _ ha ra=>
   refine⟨a,rfl,⟨us,ha⟩,k xs ad H1 _ e1 S1 (fun am H2 e2 ok2 i=>⟨fun hi=>?_,fun hi=>?_⟩) h1⟩
   ·have ha2:=mz S1.mu e2 ha
    have hiu:i<us.length:=by rw[<- ra.length];exact hi
    refine⟨⟨us,us[i],ha2,by simp[hiu]⟩,fun x H' hq0=>?_⟩
    obtain⟨eH,hx⟩:=hq0
    subst eH
    obtain⟨u',h1',h2'⟩:=ra.get (i:=i) (d:=xs[i]) (by simp[hi])
    have:=hx us ha2
    rw[h1'] at this
    cases this
    exact⟨xs[i],by simp[hi],yf.refl _,h2'.ext S1.mu e2⟩
   ·exact⟨us,mz S1.mu e2 ha,by rw[<- ra.length];omega⟩
 ·exact h1.elim
def o8(lo:Int)(n:Nat):List PyData:=(List.range n).map fun (i:Nat)=>PyData.int (lo+(i:Int))
theorem LZ{K:PySem.W.Frag}{lo:Int}{n:Nat}{Z:Mu}{H:Hp}:HY K (Itr lo n) (o8 lo n) Z H:=fun am H2 e2 ok2 i=>by
 have hl:(o8 lo n).length=n:=by unfold o8;simp
 refine⟨fun hi=>?_,fun hi=>?_⟩
 ·rw[hl] at hi
  refine⟨hi,fun x H' hq0=>?_⟩
  obtain⟨eH,hx⟩:=hq0
  subst eH hx
  exact⟨.int (lo+i),by unfold o8;simp[hi],yf.refl _,.int _⟩
 ·show n<=i
  omega
noncomputable def kS(t:DTA):DTI:=fun ρ Z Q=>t ρ Z fun ds ad=>match ds with
 |[.v (.int j)]=>(-(2 ^ 62)<=j/\j<2 ^ 62)/\Q (o8 0 j.toNat) ad
 |_=>False
noncomputable def yR(t:DTA):DTI:=fun ρ Z Q=>t ρ Z fun ds ad=>match ds with
 |[.v (.int i),.v (.int j)]=>(-(2 ^ 62)<=i/\i<2 ^ 62/\-(2 ^ 62)<=j/\j<2 ^ 62)/\Q (o8 i (j-i).toNat) ad
 |_=>False
theorem j0{a:Expr}{t:DTA}{p pos:Pos}(hg:Gl X "range")(hm:X.mg "range"=none)(ha:DA X [a] t)(hs:starEach [a] X.env=[(false,eval a X.env)]:=by rfl)(hc:X.calm=true:=by rfl):DI X tg (.Call (.Name "range" p) [a] [] pos) (kS t):=by
 obtain⟨t1,p1,l1⟩:=ha
 refine⟨_,Kc hc hg hm p1 hs,fun σ H ρ Z Qd R S h k=>?_⟩
 refine l1 σ H ρ Z _ _ S h fun ds us ad H1 e1 S1 rs len h1=>?_
 split at h1
 ·rename_i j
  cases rs with
  |cons r1 r2=>cases r2;cases r1;exact⟨j,rfl,h1.1.1,h1.1.2,k _ ad H1 _ e1 S1 LZ h1.2⟩
 ·exact h1.elim
theorem Du{a b:Expr}{t:DTA}{p pos:Pos}(hg:Gl X "range")(hm:X.mg "range"=none)(ha:DA X [a,b] t)(hs:starEach [a,b] X.env=[(false,eval a X.env),(false,eval b X.env)]:=by rfl)(hs2:starEach [b] X.env=[(false,eval b X.env)]:=by rfl)(hc:X.calm=true:=by rfl):DI X tg (.Call (.Name "range" p) [a,b] [] pos) (yR t):=by
 obtain⟨t1,p1,l1⟩:=ha
 refine⟨_,K6 hc hg hm p1 hs hs2,fun σ H ρ Z Qd R S h k=>?_⟩
 refine l1 σ H ρ Z _ _ S h fun ds us ad H1 e1 S1 rs len h1=>?_
 split at h1
 ·rename_i i j
  cases rs with
  |cons r1 r2=>
   cases r2 with
   |cons r2 r3=>cases r3;cases r1;cases r2;exact⟨i,j,rfl,h1.1,k _ ad H1 _ e1 S1 LZ h1.2⟩
 ·exact h1.elim
noncomputable def qH(src:DTI)(g:DTG)(tb:DTS):DTS:=fun Dd ρ Z=>src ρ Z fun xs ad=>∃Pv:Nat->Rho->Mu->Prop,Pv 0 ρ ad /\
 (∀i x bm U,xs[i]? = some x->Pv i bm U->g (.v x) bm U fun ci am=>tb {Dd with nx:=Pv (i+1),ct:=Pv (i+1),bk:=Dd.nx} ci am)/\(∀bm U,Pv xs.length bm U->Dd.nx bm U)
theorem gK{iter:Expr}{body:List Stmt}{src:DTI}{g:DTG}(hp:PassesOwn (model X.prog X.w) X.A X.env X.xe)(hc:X.calm=true)(hi:DI X tg iter src)(hg:DG X tg g)(hb:DSs X body td)
  (hs:∀x,foldedSetIterable iter X.env x=pure x:=by intro _;rfl):DS X (.For tg iter body [] pos) (qH src g td):=by
 obtain⟨t0,p0,l0⟩:=hi
 obtain⟨t1,p1,l1⟩:=hg
 obtain⟨t2,p2,l2⟩:=hb
 refine⟨_,Rt hp hc p0 p1 p2 hs,fun σ H ρ Z Dd De S h k1 k2 k3 k4=>?_⟩
 refine l0 σ H ρ Z _ _ S h fun xs ad H1 J e1 S1 it h1=>?_
 obtain⟨Pv,pv0,turn,fin⟩:=h1
 refine⟨fun i m bn H'=>m=xs.length-i/\i<=xs.length/\∃bm U,Ext X.K ad H1 U H'/\St0 X.K H' bm U bn/\Pv i bm U,⟨xs.length,by simp,zero_le _,ρ,ad,.refl,S1,pv0⟩,?_⟩
 rintro i m bn H' ⟨rfl,hi,bm,U,e2,S2,pv⟩
 obtain⟨go,stop⟩:=it U H' e2 S2.mu i
 by_cases hlt:i<xs.length
 ·obtain⟨g1,y1⟩:=go hlt
  refine .inr ⟨g1,fun ut H2=>∃ci am,Ext X.K ad H1 am H2/\St0 X.K H2 ci am ut/\Pv (i+1) ci am,fun ut H2 q=>⟨xs.length-(i+1),∅,rfl,hlt,q⟩,fun x H2 yl=>?_⟩
  obtain⟨d,hd,sm,rd⟩:=y1 x H2 yl
  have e3:Ext X.K U H' U H2:=.of_same sm
  have S3:St0 X.K H2 bm U bn:=⟨S2.mu.FJ e3 sm,S2.rho.ext S2.mu e3⟩
  refine l1 bn H2 bm U (.v d) x _ _ S3 rd (turn i d bm U hd pv) fun wE wP ce H4 e4 S4 h4=>?_
  have nxt:∀a b c dd,Ext X.K ce H4 c dd->St0 X.K dd b c a->Pv (i+1) b c->∃ci am,Ext X.K ad H1 am dd/\St0 X.K dd ci am a/\Pv (i+1) ci am:=fun a b c dd e5 S5 q=>⟨b,c,e2.trans (e3.trans (e4.trans e5)),S5,q⟩
  have ee:=e1.trans (e2.trans (e3.trans e4))
  exact l2 wE H4 wP ce _ _ S4 h4 nxt (fun a b c d e5=>k2 a b c d (ee.trans e5)) (fun a b c d e5=>k1 a b c d (ee.trans e5)) nxt
 ·have ei:i=xs.length:=by omega
  subst ei
  exact .inl ⟨stop rfl,k1 bn bm U H' (e1.trans e2) S2 (fin bm U pv)⟩
end
abbrev DSp:=List D->Mu->DK->Prop
noncomputable def spD(K:PySem.W.Frag)(dsp:DSp):Sp:=fun vs H Q _=>∃(ds:List D) (Z:Mu) (Qd:DK),bG K Z H/\jO K Z H ds vs/\dsp ds Z Qd /\
 (∀d u U H',Ext K Z H U H'->bG K U H'->RpD K U H' d u->Qd d U->Q u H')
def aO(N:List Str)(ds:List D):Rho:=ds.map some++List.replicate (N.length-ds.length) none
theorem jO.get{K:PySem.W.Frag}{Z:Mu}{H:Hp}{ds:List D}{us:List V}:∀{i:Nat} {d:D},jO K Z H ds us->ds[i]? = some d->∃u,us[i]? = some u/\RpD K Z H d u
 |_,_,.nil,h=>by simp at h
 |0,_,.cons r _,h=>by simp at h;subst h;exact⟨_,rfl,r⟩
 |i+1,d,.cons _ t,h=>by
  obtain⟨u,h1,h2⟩:=jO.get (i:=i) (d:=d) t (by simpa using h)
  exact⟨u,by simpa using h1,h2⟩
theorem Kn{K:PySem.W.Frag}{Z:Mu}{H:Hp}{N:List Str}{ds:List D}{vs:List V}(r:jO K Z H ds vs):gG K Z H (aO N ds) (start N vs):=by
 have hl:=r.length
 refine⟨by unfold aO start;simp[hl],fun i d e=>?_⟩
 unfold aO at e
 by_cases hi:i<ds.length
 ·rw[getElem?_append_left (by simpa using hi),getElem?_map] at e
  unfold start
  rw[getElem?_append_left (by simpa [hl] using hi),getElem?_map]
  cases q:ds[i]? with
  |none=>rw[q] at e;cases e
  |some d'=>
   rw[q] at e
   cases e
   obtain⟨u,h1,h2⟩:=r.get q
   exact⟨u,by rw[h1];rfl,h2⟩
 ·rw[getElem?_append_right (by simpa using hi),List.getElem?_replicate] at e
  split at e<;>cases e
section
variable {P:Program}{w:World}{K:PySem.W.Frag}{mg:Str->Option Value}{base:Heap}
theorem _root_.L2.Fun.okD{x qual:Str}{st:Stmt}{f:Addr}{fd:FuncData}{N ps:List Str}{k:Nat}{dsp:DSp}(F:Fun K x qual st f fd)(S:aK N ps (ax st))(len:∀ds Z Q,dsp ds Z Q->ds.length=ps.length)
  (hbody:∀(cdv:Value) (A:Around) (outer:List Env) (s:Shared) (H:Hp) (E:XK),mC k (A.deeper (envOfC qual (ax st) s.heap.objs.size f cdv)) ->
   ∃td,DSs (IH CX0 P w K mg base N qual (ax st) f cdv A outer s H E).nox (i9 st) td/\∀ds Z Qd,dsp ds Z Qd->td ‹Qd› (aO N ds) Z):bu P w K mg base CX0 (k+1) f fd ps (spD K dsp):=by
 refine F.ok S (fun vs H Q E h=>?_) (fun cdv A outer s H vs Q E hr h=>?_)
 ·obtain⟨ds,Z,Qd,_,r,h,_⟩:=h
  rw[<- r.length]
  exact len ds Z Qd h
 ·obtain⟨ds,Z,Qd,ok,r,h,fin⟩:=h
  obtain⟨td,⟨t,p,l⟩,rd⟩:=hbody cdv A outer s H E hr
  refine⟨t,p,?_⟩
  exact l (start N vs) H (aO N ds) Z _ _ ⟨ok,Kn r⟩ (rd ds Z Qd h) (fun bn bm U H' e' S' q=>fin (.v .none) .non U H' e' S'.mu Rp.none q) (fun d u U H' e' ok' r' q=>fin d u U H' e' ok' r' q) (fun _ _ _ _ _ _ q=>q) (fun _ _ _ _ _ _ q=>q)
end
section
variable {X:Cx}{e:Expr}{es:List Expr}{t:DTA}{p pos:Pos}{x:Str}{k:Nat}{f:Addr}{fd:FuncData}{ps:List Str}{dsp:DSp}
noncomputable def ay(dsp:DSp)(t:DTA):DTE:=fun ρ Z Q=>t ρ Z fun ds ad=>dsp ds ad Q
theorem ao(F:bu X.prog X.w X.K X.mg X.base CX0 k f fd ps (spD X.K dsp))(hr:mC k X.A)(hg:Gl X x)(hm:X.mg x=some (.ref f))(hk:keepIn X.K (.ref f)=true)(hb:Binds X.K fd ps [])
  (ha:DA X (e::es) t) (hdb:(x==("__debug__":Str))=false:=by decide) (he:starEach (e::es) X.env=(false,eval e X.env)::starEach es X.env:=by rfl) (hpl:(backTo pos (starEach es X.env)).any (·.1)=false:=by rfl) :
  DE X (.Call (.Name x p) (e::es) [] pos) (ay dsp t):=by
 obtain⟨t1,p1,l1⟩:=ha
 refine⟨_,N0 F hr hg hm hk hb .nil SQ p1 hdb he hpl,fun σ H ρ Z Qd Q S h kk=>?_⟩
 refine l1 σ H ρ Z _ _ S h fun ds us ad H1 e1 S1 rs len h1=>?_
 refine⟨ds,ad,Qd,S1.mu,by rw[append_nil];exact rs,h1,fun d u U H' e2 ok r q=>?_⟩
 exact kk d u U H' (e1.trans e2) ⟨ok,S1.rho.ext S1.mu e2⟩ r q
end
section
variable {X:Cx}{o e:Expr}{to te:DTE}{apos cpos:Pos}
noncomputable def Il(to te:DTE):DTE:=fun ρ Z Q=>to ρ Z fun x ad=>match x with
 |.m l=>te ρ ad fun y am=>(match y,am l with
  |.v d,some xs=>xs.length<1000/\Q (.v .none) (az am l (xs++[d]))
  |_,_=>False)
 |_=>False
theorem k7(ho:DE X o to)(ha:DE X e te)(hbase:attributeBase o "append" X.env (eval o X.env)=eval o X.env:=by rfl)
  (hfew:((backTo cpos (starEach [e] X.env)).all (fun x=>!x.1)&&(backToKw cpos (keywordEach [] X.env)).all (fun x=>x.1.isSome)
   && decide ([e].length+([]:List Keyword).length+(if ([]:List Keyword).isEmpty then 0 else 1)<30))=true:=by rfl)
  (hline:(apos.endLine==cpos.line)=true:=by rfl) (hs:starEach [e] X.env=(false,eval e X.env)::starEach [] X.env:=by rfl) (hplain:(backTo cpos (starEach [] X.env)).any (·.1)=false:=by rfl) :
  DE X (.Call (.Attribute o "append" apos) [e] [] cpos) (Il to te):=by
 obtain⟨t1,p1,l1⟩:=ho
 obtain⟨t2,p2,l2⟩:=ha
 refine⟨_,MW plainAttrs_list PySem.F.slot_list_append PySem.F.type_list_append lh p1 (i6 p2 uW hs) hbase hfew hline hs hplain,fun σ H ρ Z Qd Q S h k=>?_⟩
 refine l1 σ H ρ Z _ _ S h fun x ux ad H1 e1 S1 rx h1=>?_
 cases x with
 |m l=>
  obtain⟨rfl,ds,hm⟩:=id rx
  obtain⟨us,hl,rl⟩:=S1.mu l ds hm
  refine⟨.inl ⟨rfl,us,SqL.of hl⟩,?_⟩
  refine l2 σ H1 ρ ad _ _ S1 h1 fun y uy am H2 e2 S2 ry h2=>?_
  obtain⟨_,ds2,hm2⟩:=rx.ext S1.mu e2
  obtain⟨us2,hl2,rl2⟩:=S2.mu l ds2 hm2
  rw[hm2] at h2
  cases y with
  |v d=>
   have h3:ds2.length<1000/\Qd (.v .none) (az am l (ds2++[d])):=h2
   refine⟨l,us2,uy,rfl,rfl,hl2,by rw[<- rl2.length];exact d0 (Nat.le_of_lt h3.1),?_⟩
   have ex:Ext X.K am H2 (az am l (ds2++[d])) (upd H2 l (.lst (us2++[uy]))):=gh hm2
   exact k (.v .none) .non _ _ (e1.trans (e2.trans ex)) ⟨S2.mu.set hm2 (rl2.append (.cons ry .nil)),S2.rho.ext S2.mu ex⟩ Rp.none h3.2
  |m _=>exact h2.elim
  |s _=>exact h2.elim
  |o _=>exact h2.elim
  |b _=>exact h2.elim
  |q _=>exact h2.elim
 |v d=>exact h1.elim
 |s ns=>exact h1.elim
 |o _=>exact h1.elim
 |b _=>exact h1.elim
 |q _=>exact h1.elim
noncomputable def TM(to te:DTE):DTE:=fun ρ Z Q=>to ρ Z fun x ad=>match x with
 |.m l=>te ρ ad fun y am=>(match y,am l with
  |.v (.list ys),some xs=>xs.length+ys.length<=1000/\Q (.v .none) (az am l (xs++ys))
  |_,_=>False)
 |_=>False
end
theorem gc{prog:Program}{w:World}{A:Around}{R:Result->Shared->Prop}{s:Shared}{elt target iter:Expr}{ifs:List Expr}{scope:Scope}{pos:Pos}{it acc:Value}{env:Env}(I:Nat->Shared->Prop)
  (turn:∀n s,I n s->wpAny (model prog w) A (pyNext it) (fun r ca=>match r with
   |none=>R (.ok .next) ca
   |some v=>wpAny (model prog w) A (letOwnedTupleGo target it v) (fun _ s'=>wpAny (model prog w) A (assign target env v) (fun _ ii=>
     wpAny (model prog w) A (forIn ifs true fun c r=>if r=true then do let ok <- isTrue c env (eval c env);pure (ForInStep.yield ok) else pure (ForInStep.yield r)) (fun ok bi=>
      if ok=true then wpAny (model prog w) A (eval elt env) (fun x po=>
       wpAny (model prog w) A (call (.builtin "list.append") [acc,x]) (fun _ re=>∃m,m<n/\I m re) (fun _ _=>False) po) (fun _ _=>False) bi
      else ∃m,m<n/\I m bi) (fun _ _=>False) ii) (fun _ _=>False) s') (fun _ _=>False) ca) (fun _ _=>False) s)
  (n:Nat) (h:I n s) :
  codeAny (model prog w) A (.compLoop (.ListComp elt [⟨target,iter,ifs,0⟩] scope pos) 0 it acc env) R s:=by
 refine codeAny_loop rfl I (fun n s hI=>?_) n h
 show wpAny _ A ((compTurn (.ListComp elt [⟨target,iter,ifs,0⟩] scope pos) 0 it acc env).onRaise (fun x=>do noteFrame x env;theTreesLotGoes x)) _ _ s
 refine wpAny_noted ?_
 rw[compTurn_list]
 refine wpAny_bind (wpAny_standAt (wpAny_bind (wpAny_mono (turn n s hI) (fun r ca dl=>?_) fun _ _ h'=>h'.elim)))
 cases r with
 |none=>exact wpAny_pure dl
 |some v=>
  refine wpAny_bind (wpAny_mono dl (fun _ s' h'=>?_) fun _ _ h'=>h'.elim)
  refine wpAny_bind (wpAny_mono h' (fun _ ii sn=>wpAny_bind (wpAny_mono sn (fun ok bi pi=>?_) fun _ _ h'=>h'.elim)) fun _ _ h'=>h'.elim)
  cases ok with
  |false=>exact wpAny_pure ⟨rfl,pi⟩
  |true=>
   exact wpAny_bind (wpAny_bind (wpAny_mono pi (fun x po tt=>wpAny_bind (wpAny_mono tt (fun _ re tz=>wpAny_pure (wpAny_pure ⟨rfl,tz⟩)) fun _ _ h'=>h'.elim)) fun _ _ h'=>h'.elim))
section
variable {K:PySem.W.Frag}{Z U:Mu}{H:Hp}
mutual
theorem Rp.shrink{d:PyData}{u:V}(sub:∀a,U a=none->Z a=none):Rp K U H d u->Rp K Z H d u
 |.none=>.none
 |.bool b=>.bool b
 |.int i=>.int i
 |.str x=>.str x
 |.list h n r=>.list h (sub _ n) (RpL.shrink sub r)
 |.tuple h r=>.tuple h (RpL.shrink sub r)
theorem RpL.shrink{ds:List PyData}{us:List V}(sub:∀a,U a=none->Z a=none):RpL K U H ds us->RpL K Z H ds us
 |.nil=>.nil
 |.cons h r=>.cons (Rp.shrink sub h) (RpL.shrink sub r)
end
theorem iH.shrink{c:Box}{o:Obj}(sub:∀a,U a=none->Z a=none)(r:iH K U H c o):iH K Z H c o:=by
 cases c with
 |dict kvs=>
  obtain⟨h1,h2,es,ep,xs,h3,h4,h5,h6⟩:=r
  exact⟨h1,h2,es,ep,xs,h3,h4,h5,Paired.Pe h6 fun p q ⟨z1,z2,v,z3,z4⟩=>⟨z1,z2,v,Rp.shrink sub z3,z4⟩⟩
 |set ks=>exact r
end
theorem Ja{X:Cx}{e:Expr}{td:DTE}(h:∀(pins:List (Addr×Obj)) (s:Shared) (σ:St) (H:Hp) (ρ:Rho) (Z:Mu) (Qd:DK) (Q:VK),Inv X pins σ H s->St0 X.K H ρ Z σ->td ρ Z Qd ->
  (∀d u U H',Ext X.K Z H U H'->St0 X.K H' ρ U σ->RpD X.K U H' d u->Qd d U->Q u H')->wpAny (model X.prog X.w) X.A (eval e X.env) (EP X pins σ Q) X.xe s):DE X e td:=
 ⟨fun σ H Q=>∃ρ Z Qd,St0 X.K H ρ Z σ/\td ρ Z Qd/\(∀d u U H',Ext X.K Z H U H'->St0 X.K H' ρ U σ->RpD X.K U H' d u->Qd d U->Q u H'),
  fun pins s σ H Q I ⟨ρ,Z,Qd,S,q,k⟩=>h pins s σ H ρ Z Qd Q I S q k,fun σ H ρ Z Qd Q S q k=>⟨ρ,Z,Qd,S,q,k⟩⟩
def aA(X:Cx)(N':List Str)(scope:Scope)(cl:List (Str×Addr))(fp:List Addr)(bi:Shared)(bv:Hp):Cx:=
 {X with N:=N',io:=bi,H₀:=bv,env:=compEnvC scope cl bi.heap.objs.size X.env,outer:=X.stack,stack:=X.stack,ex:=fp,fn:=fun _=>false,pn:=X.pn,xe:=fun _ _=>False}
def Le:Rho->Rho->Prop
 |[],[]=>True
 |none::r,_::r'=>Le r r'
 |some d::r,some d'::r'=>d=d'/\Le r r'
 |_,_=>False
theorem Le.get:∀{ρ bm:Rho},Le ρ bm->ρ.length=bm.length/\∀(i:Nat) d,ρ[i]? = some (some d)->bm[i]? = some (some d)
 |[],[],_=>⟨rfl,fun _ _ h=>h⟩
 |none::r,x::r',h=>by
  obtain⟨h1,h2⟩:=Le.get (ρ:=r) (bm:=r') h
  refine⟨congrArg (· + 1) h1,fun i d e=>?_⟩
  cases i with
  |zero=>simp at e
  |succ j=>exact h2 j d (by simpa using e)
 |some d::r,some d'::r',h=>by
  obtain⟨rfl,h⟩:=h
  obtain⟨h1,h2⟩:=Le.get (ρ:=r) (bm:=r') h
  refine⟨congrArg (· + 1) h1,fun i d e=>?_⟩
  cases i with
  |zero=>simpa using e
  |succ j=>exact h2 j d (by simpa using e)
 |some d::r,none::r',h=>h.elim
 |[],_::_,h=>h.elim
 |none::_,[],h=>h.elim
 |some _::_,[],h=>h.elim
def bj{α:Type}(cap:List (Option Nat))(ρ:List (Option α)):List (Option α):=cap.map fun o=>o.bind fun j=>(ρ[j]?).join
noncomputable def oF(cap:List (Option Nat))(src:DTI)(g:DTG)(c:DTT)(elt:DTE):DTE:=fun ρ Z Q=>src ρ Z fun xs ad=>xs.length<=1000/\∃f:PyData->Option PyData,
 (∀x∈xs,∀U:Mu,(∀a ds,ad a=some ds->U a=some ds)->g (.v x) (bj cap ρ) U fun ci am=>Le (bj cap ρ) ci/\c ci am fun b be=>
  if b=true then elt ci be fun d ce=>ce=U/\(match d with|.v y=>f x=some y|_=>False) else be=U/\f x=none)/\Q (.v (.list (xs.filterMap f))) ad
noncomputable def AY(X:Cx)(ifs:List Expr)(c:DTT):Prop:=∀(pins:List (Addr×Obj)) (s:Shared) (σ:St) (H:Hp) (ρ:Rho) (Z:Mu) (Qd:Bool->Mu->Prop) (Q:Bool->Hp->Prop),Inv X pins σ H s->St0 X.K H ρ Z σ->c ρ Z Qd ->
 (∀b U H',Ext X.K Z H U H'->St0 X.K H' ρ U σ->Qd b U->Q b H') ->
 wpAny (model X.prog X.w) X.A (forIn ifs true fun c r=>if r=true then do let ok <- isTrue c X.env (eval c X.env);pure (ForInStep.yield ok) else pure (ForInStep.yield r)) (TP X pins σ Q) X.xe s
noncomputable def gH:DTT:=fun _ Z Q=>Q true Z
theorem bW{X:Cx}:AY X [] gH:=fun pins s σ H ρ Z Qd Q I S h k=>wpAny_tests_nil ⟨H,I,k true Z H .refl S h⟩
theorem Ft{X:Cx}{c:Expr}{tc:DTT}(h:DT X c tc):AY X [c] tc:=by
 obtain⟨t,p,l⟩:=h
 exact fun pins s σ H ρ Z Qd Q I S h k=>wpAny_tests_one (p pins s σ H _ I (l σ H ρ Z _ _ S h k))
theorem Un.after{fs ex:List Addr}{H H1:Hp}{h h1 h':Heap}(u:Un fs ex H H1 h h1)(k:∀b o,b<h.objs.size->h1.get? b=some o->h'.get? b=some o):Un fs ex H H1 h h':=
 ⟨fun b o e n hb hx=>k b o (Heap.lt_size e) (u.keep b o e n hb hx),fun b o e n hb hx=>let ⟨sl,q⟩:=u.slot b o e n hb hx;⟨sl,k b _ (Heap.lt_size e) q⟩,u.free,fun b o e hx=>let ⟨o',q⟩:=u.there b o e hx;⟨o',k b _ (Heap.lt_size e) q⟩,u.wN,u.uf,u.vj⟩
theorem lO{α:Type}{cap:List (Option Nat)}{ρ:List (Option α)}{i:Nat}{d:α}(h:(bj cap ρ)[i]? = some (some d)):∃j,cap[i]? = some (some j)/\ρ[j]? = some (some d):=by
 unfold bj at h
 rw[getElem?_map] at h
 cases q:cap[i]? with
 |none=>rw[q] at h;cases h
 |some o=>
  rw[q] at h
  cases o with
  |none=>cases h
  |some j=>
   refine⟨j,rfl,?_⟩
   simp only[map_some,bind_some,Option.some.injEq] at h
   cases z:ρ[j]? with
   |none=>rw[z] at h;cases h
   |some y=>rw[z] at h;simp only[join_some] at h;rw[h]
theorem MS{α:Type}{cap:List (Option Nat)}{ρ:List (Option α)}{i j:Nat}{d:α}(h:cap[i]? = some (some j))(e:ρ[j]? = some (some d)):(bj cap ρ)[i]? = some (some d):=by
 unfold bj
 rw[getElem?_map,h]
 simp[e]
theorem gG.cap{K:PySem.W.Frag}{Z:Mu}{H:Hp}{ρ:Rho}{σ:St}{cap:List (Option Nat)}(r:gG K Z H ρ σ):gG K Z H (bj cap ρ) (bj cap σ):=by
 refine⟨by unfold bj;simp,fun i d e=>?_⟩
 obtain⟨j,h1,h2⟩:=lO e
 obtain⟨u,h3,h4⟩:=r.2 j d h2
 exact⟨u,MS h1 h3,h4⟩
theorem gG.le{K:PySem.W.Frag}{Z:Mu}{H:Hp}{ρ bm:Rho}{σ:St}(r:gG K Z H bm σ)(l:Le ρ bm):gG K Z H ρ σ:=
 ⟨l.get.1.trans r.1,fun i d e=>r.2 i d (l.get.2 i d e)⟩
theorem CS{xs:List PyData}{f:PyData->Option PyData}{i:Nat}{d:PyData}(h:xs[i]? = some d):(xs.take (i+1)).filterMap f=(xs.take i).filterMap f++(f d).toList:=by
 obtain⟨hi,e⟩:=List.getElem?_eq_some_iff.mp h
 rw[List.take_succ_eq_append_getElem hi,List.filterMap_append,e]
 cases q:f d<;>simp[q]
theorem vG{α:Type}{x:α}{xs:List α}:atI (x::xs) 0=some x:=by unfold atI ixN;simp
theorem vX{α:Type}{x y:α}{xs:List α}:atI (x::y::xs) 1=some y:=by
 have h:=w4 (xs:=x::y::xs) (j:=1) (v:=y) rfl
 exact h
theorem xD{α:Type}{x y z:α}{xs:List α}:atI (x::y::z::xs) 2=some z:=by
 have h:=w4 (xs:=x::y::z::xs) (j:=2) (v:=z) rfl
 exact h
theorem Bv{α:Type}{x y z u:α}{xs:List α}:atI (x::y::z::u::xs) 3=some u:=by
 have h:=w4 (xs:=x::y::z::u::xs) (j:=3) (v:=u) rfl
 exact h
def Us:D->D->Mu->DK->Prop:=fun x y Z Q=>match x,y with
 |.v (.int i),.v (.int j)=>Q (.v (.int (i+j))) Z
 |.v (.tuple xs),.v (.tuple ys)=>xs.length+ys.length<=1000/\Q (.v (.tuple (xs++ys))) Z
 |_,_=>Br x y Z Q
section
variable {ρ:Rho}{Z:Mu}{Q:DK}{QT:Bool->Mu->Prop}{QA:List D->Mu->Prop}{QG:Rho->Mu->Prop}{QI:List PyData->Mu->Prop}{QO:Option Int->Mu->Prop}{Dd:Bs}{ta tb tc:DTE}{t u:DTT}{tA:DTA}{s1 s2:DTS}{i j:Int}{x y:PyData}{xs ys:List PyData}{d e:D}
noncomputable def um:DTS:=fun _ _ _=>False
theorem tU{X:Cx}{st:Stmt}:DS X st um:=⟨fun _ _ _=>False,fun _ _ _ _ _ _ h=>h.elim,fun _ _ _ _ _ _ _ h=>h.elim⟩
theorem yF{o:Rho}:ai 0 (some d::o) Z Q=Q d Z:=propext Iff.rfl
theorem zk{a}{o:Rho}:ai 1 (a::some d::o) Z Q=Q d Z:=propext Iff.rfl
theorem zr{a b}{o:Rho}:ai 2 (a::b::some d::o) Z Q=Q d Z:=propext Iff.rfl
theorem xu{a b c}{o:Rho}:ai 3 (a::b::c::some d::o) Z Q=Q d Z:=propext Iff.rfl
theorem xY{a b c f}{o:Rho}:ai 4 (a::b::c::f::some d::o) Z Q=Q d Z:=propext Iff.rfl
theorem yo{a b c f g}{o:Rho}:ai 5 (a::b::c::f::g::some d::o) Z Q=Q d Z:=propext Iff.rfl
theorem x6{a b c f g h}{o:Rho}:ai 6 (a::b::c::f::g::h::some d::o) Z Q=Q d Z:=propext Iff.rfl
theorem yK{a b c f g h k}{o:Rho}:ai 7 (a::b::c::f::g::h::k::some d::o) Z Q=Q d Z:=propext Iff.rfl
theorem x9{a b c f g h k l}{o:Rho}:ai 8 (a::b::c::f::g::h::k::l::some d::o) Z Q=Q d Z:=propext Iff.rfl
theorem zR{a b c f g h k l m}{o:Rho}:ai 9 (a::b::c::f::g::h::k::l::m::some d::o) Z Q=Q d Z:=propext Iff.rfl
theorem sJ{a b c f g h k l m n}{o:Rho}:ai 10 (a::b::c::f::g::h::k::l::m::n::some d::o) Z Q=Q d Z:=propext Iff.rfl
theorem q_c:dC x ρ Z Q=Q (.v x) Z:=propext Iff.rfl
theorem Tn{r}:dOp r ta tb ρ Z Q=ta ρ Z fun x ad=>tb ρ ad fun y am=>r x y am Q:=propext Iff.rfl
theorem q_B:dB ta ρ Z QT=ta ρ Z fun d ad=>match d with|.v (.bool k)=>QT k ad|_=>False:=propext Iff.rfl
theorem Nn{C:Int->Int->Prop}{g:Int->Int->PyData}:rII C g (.v (.int i)) (.v (.int j)) Z Q=(C i j/\Q (.v (g i j)) Z):=propext Iff.rfl
theorem ET{g:Int->Int->PyData}:AK g (.v (.int i)) (.v (.int j)) Z Q=Q (.v (g i j)) Z:=propext Iff.rfl
theorem Fh:yx ta ρ Z Q=ta ρ Z fun x ad=>match x with|.v (.int i)=>Q (.v (.int (-i))) ad|_=>False:=propext Iff.rfl
theorem MX:yZ t u ρ Z QT=t ρ Z fun c ad=>if c=true then u ρ ad QT else QT false ad:=propext Iff.rfl
theorem PD:jM t u ρ Z QT=t ρ Z fun c ad=>if c=true then QT true ad else u ρ ad QT:=propext Iff.rfl
theorem xl:dW t ρ Z QT=t ρ Z fun c ad=>QT (!c) ad:=propext Iff.rfl
theorem Nq:nB ta tb ρ Z Q=ta ρ Z fun x ad=>match x with|.v (.bool c)=>if c=true then tb ρ ad Q else Q (.v (.bool false)) ad|_=>False:=propext Iff.rfl
theorem yc:Np ta ρ Z Q=ta ρ Z fun x ad=>match x with|.v (.bool c)=>Q (.v (.bool (!c))) ad|_=>False:=propext Iff.rfl
theorem Sy:dIf t ta tb ρ Z Q=t ρ Z fun c ad=>if c=true then ta ρ ad Q else tb ρ ad Q:=propext Iff.rfl
theorem GG:av ρ Z QA=QA [] Z:=propext Iff.rfl
theorem ze:ag ta tA ρ Z QA=ta ρ Z fun x ad=>tA ρ ad fun xs am=>QA (x::xs) am:=propext Iff.rfl
theorem GH:bO tA ρ Z Q=tA ρ Z fun ds ad=>match cS ds with|some xs=>Q (.v (.tuple xs)) ad|none=>False:=propext Iff.rfl
theorem GP:qi tA ρ Z Q=tA ρ Z fun ds ad=>match cS ds with|some xs=>Q (.v (.list xs)) ad|none=>False:=propext Iff.rfl
theorem yd:vS tA ρ Z Q=tA ρ Z fun ds ad=>match cS ds with|some xs=>∀p,ad p=none->Q (.m p) (az ad p xs)|none=>False:=propext Iff.rfl
theorem Fv:cS []=some []:=by rw[cS]
theorem Fj{r:List D}:cS (.v x::r)=(cS r).map (x::·):=by rw[cS]
theorem Mj{neg:Bool}:de neg (.v x) (.v y) Z Q=(SeqAt.shaped x=true/\SeqAt.shaped y=true/\Q (.v (.bool (neg ^^ PyData.eqv x y))) Z):=propext Iff.rfl
theorem EO{neg:Bool}:de neg (.v (.int i)) (.v (.int j)) Z Q=Q (.v (.bool (neg ^^ decide (i=j)))) Z:=by
 have e:PyData.eqv (.int i) (.int j)=decide (i=j):=by simp[PyData.eqv];rfl
 rw[Mj,e]
 exact propext ⟨fun h=>h.2.2,fun h=>⟨rfl,rfl,h⟩⟩
theorem E6{neg:Bool}:de neg (.v (.tuple xs)) (.v (.tuple ys)) Z Q=(SeqAt.shaped (.tuple xs)=true/\SeqAt.shaped (.tuple ys)=true/\Q (.v (.bool (neg ^^ PyData.eqv (.tuple xs) (.tuple ys)))) Z):=propext Iff.rfl
theorem EU{neg a b:Bool}:de neg (.v (.bool a)) (.v (.bool b)) Z Q=Q (.v (.bool (neg ^^ (a==b)))) Z:=by
 have e:PyData.eqv (.bool a) (.bool b)=(a==b):=by cases a<;>cases b<;>simp[PyData.eqv]<;>rfl
 rw[Mj,e]
 exact propext ⟨fun h=>h.2.2,fun h=>⟨rfl,rfl,h⟩⟩
theorem Gg{neg:Bool}:K9 neg (.v x) (.v (.list ys)) Z Q=(PyData.canLayAll0 ys=true/\x.canLay0=true/\PyData.depth x<=60/\Q (.v (.bool (neg ^^ ys.any fun b=>PyData.eqv b x))) Z):=propext Iff.rfl
theorem vy:aM (.v (.list xs)) (.v (.int i)) Z Q=(match atI xs i with|some d=>Q (.v d) Z|none=>False):=propext Iff.rfl
theorem rQ:aM (.v (.tuple xs)) (.v (.int i)) Z Q=(match atI xs i with|some d=>Q (.v d) Z|none=>False):=propext Iff.rfl
theorem FV{l:Addr}:aM (.m l) (.v (.int i)) Z Q=(match Z l with|some xs=>(match atI xs i with|some d=>Q (.v d) Z|none=>False)|none=>False):=propext Iff.rfl
theorem Fm{ns:List Int}:aM (.s ns) (.v (.int i)) Z Q=(match atI ns i with|some d=>Q (.v (.int d)) Z|none=>False):=propext Iff.rfl
theorem y6:aM (.v (.list (x::xs))) (.v (.int 0)) Z Q=Q (.v x) Z:=by rw[vy,vG]
theorem uK:aM (.v (.tuple (x::xs))) (.v (.int 0)) Z Q=Q (.v x) Z:=by rw[rQ,vG]
theorem x8{z}:aM (.v (.list (z::x::xs))) (.v (.int 1)) Z Q=Q (.v x) Z:=by rw[vy,vX]
theorem vd{z}:aM (.v (.tuple (z::x::xs))) (.v (.int 1)) Z Q=Q (.v x) Z:=by rw[rQ,vX]
theorem yI{z w}:aM (.v (.list (z::w::x::xs))) (.v (.int 2)) Z Q=Q (.v x) Z:=by rw[vy,xD]
theorem ur{z w}:aM (.v (.tuple (z::w::x::xs))) (.v (.int 2)) Z Q=Q (.v x) Z:=by rw[rQ,xD]
theorem yw{z w v}:aM (.v (.tuple (z::w::v::x::xs))) (.v (.int 3)) Z Q=Q (.v x) Z:=by rw[rQ,Bv]
theorem GC:Br d e Z Q=(match oA Z d,oA Z e with|some xs,some ys=>xs.length+ys.length<=1000/\Q (.v (.list (xs++ys))) Z|_,_=>False):=propext Iff.rfl
theorem L1{tl th:DTO}:dSl ta tl th ρ Z Q=ta ρ Z fun x ad=>tl ρ ad fun l am=>th ρ am fun u be=>Oy x l u be Q:=propext Iff.rfl
theorem oj:Dn ρ Z QO=QO none Z:=propext Iff.rfl
theorem yV:Lq ta ρ Z QO=ta ρ Z fun x ad=>match x with|.v (.int i)=>QO (some i) ad|_=>False:=propext Iff.rfl
theorem GJ{lo hi:Option Int}:Oy (.v (.list xs)) lo hi Z Q=Q (.v (.list (qP xs lo hi))) Z:=propext Iff.rfl
theorem RZ{rd}:dCB rd tA ρ Z Q=tA ρ Z fun ds ad=>rd ds ad Q:=propext Iff.rfl
theorem zA:cZ [.v (.list ys)] Z Q=Q (.v (.int (ys.length:Nat))) Z:=propext Iff.rfl
theorem x5:cZ [.v (.tuple ys)] Z Q=Q (.v (.int (ys.length:Nat))) Z:=propext Iff.rfl
theorem zE{ns:List Int}:cZ [.s ns] Z Q=Q (.v (.int (ns.length:Nat))) Z:=propext Iff.rfl
theorem zo{l:Addr}:cZ [.m l] Z Q=(match Z l with|some ys=>Q (.v (.int (ys.length:Nat))) Z|none=>False):=propext Iff.rfl
theorem E8:sA [.v (.int i)] Z Q=Q (.v (.int (i.natAbs:Nat))) Z:=propext Iff.rfl
theorem LW{g:Int->Int->Int}:En g [.v (.int i),.v (.int j)] Z Q=Q (.v (.int (g i j))) Z:=propext Iff.rfl
theorem yL{k:Bool}:sV [.v (.bool k)] Z Q=Q (.v (.int (if k then 1 else 0))) Z:=propext Iff.rfl
theorem tE:xm [.v (.tuple ys)] Z Q=Q (.v (.list ys)) Z:=propext Iff.rfl
theorem G5:qo [.v (.list ys)] Z Q=(match bN ys with|some bs=>Q (.v (.bool (bs.all id))) Z|none=>False):=propext Iff.rfl
theorem Et{T:String}:zU T ta ρ Z Q=ta ρ Z fun x ad=>match x with|.v d=>Q (.v (.bool (isT T d))) ad|_=>False:=propext Iff.rfl
theorem EH{a b:Bool}:LP (.v (.bool a)) (.v (.bool b)) Z Q=Q (.v (.bool (a==b))) Z:=propext Iff.rfl
theorem rV{n:Nat}:aq n d ρ Z QG=QG (ρ.set n (some d)) Z:=propext Iff.rfl
theorem yW:eK [] ρ Z QG=QG ρ Z:=propext Iff.rfl
theorem sS{g:DTG}{gs:AQ}:aQ g gs (x::xs) ρ Z QG=g (.v x) ρ Z fun tx ad=>gs xs tx ad QG:=propext Iff.rfl
theorem xp{n:Nat}{gs:AQ}:eD n gs (.v (.tuple xs)) ρ Z QG=(xs.length=n/\gs xs ρ Z QG):=propext Iff.rfl
theorem yh:JC ta tb d ρ Z QG=ta ρ Z fun o ad=>tb ρ ad fun i am=>match o,i,d with
 |.m l,.v (.int k),.v x=>(match am l with
  |some xs=>(match ixN xs.length k with
   |some j=>QG ρ (az am l (xs.set j x))
   |none=>False)
  |none=>False)
 |_,_,_=>False:=propext Iff.rfl
theorem Pz{g:DTG}:bo ta g Dd ρ Z=ta ρ Z fun d ad=>g d ρ ad Dd.nx:=propext Iff.rfl
theorem EK{i j:Nat}:zJ i j tA Dd ρ Z=tA ρ Z fun ds ad=>match ds with|[v,w]=>Dd.nx ((ρ.set i (some v)).set j (some w)) ad|_=>False:=propext Iff.rfl
theorem xn:bI Dd ρ Z=Dd.nx ρ Z:=propext Iff.rfl
theorem Gi:aP s1 s2 Dd ρ Z=s1 {Dd with nx:=s2 Dd} ρ Z:=propext Iff.rfl
theorem FU:bq ta Dd ρ Z=ta ρ Z Dd.rt:=propext Iff.rfl
theorem zG:nC ta Dd ρ Z=ta ρ Z fun _ ad=>Dd.nx ρ ad:=propext Iff.rfl
theorem Pw:cC t s1 s2 Dd ρ Z=t ρ Z fun b ad=>if b=true then s1 Dd ρ ad else s2 Dd ρ ad:=propext Iff.rfl
theorem sM:um Dd ρ Z=False:=propext Iff.rfl
theorem L3{dsp:DSp}:ay dsp tA ρ Z Q=tA ρ Z fun ds ad=>dsp ds ad Q:=propext Iff.rfl
theorem Gz:Il ta tb ρ Z Q=ta ρ Z fun x ad=>match x with
 |.m l=>tb ρ ad fun y am=>(match y,am l with
  |.v d,some xs=>xs.length<1000/\Q (.v .none) (az am l (xs++[d]))
  |_,_=>False)
 |_=>False:=propext Iff.rfl
theorem G9:TM ta tb ρ Z Q=ta ρ Z fun x ad=>match x with
 |.m l=>tb ρ ad fun y am=>(match y,am l with
  |.v (.list ys),some xs=>xs.length+ys.length<=1000/\Q (.v .none) (az am l (xs++ys))
  |_,_=>False)
 |_=>False:=propext Iff.rfl
theorem xx:gH ρ Z QT=QT true Z:=propext Iff.rfl
theorem nS:iV ta ρ Z QI=ta ρ Z fun d ad=>match d with|.v (.list xs)=>QI xs ad|_=>False:=propext Iff.rfl
theorem rR:km ta ρ Z QI=ta ρ Z fun d ad=>match d with|.v (.tuple xs)=>QI xs ad|_=>False:=propext Iff.rfl
theorem nX:kS tA ρ Z QI=tA ρ Z fun ds ad=>match ds with|[.v (.int j)]=>(-(2 ^ 62)<=j/\j<2 ^ 62)/\QI (o8 0 j.toNat) ad|_=>False:=propext Iff.rfl
theorem oV:yR tA ρ Z QI=tA ρ Z fun ds ad=>match ds with|[.v (.int i),.v (.int j)]=>(-(2 ^ 62)<=i/\i<2 ^ 62/\-(2 ^ 62)<=j/\j<2 ^ 62)/\QI (o8 i (j-i).toNat) ad|_=>False:=propext Iff.rfl
theorem lI{src:DTI}{g:DTG}:qH src g s1 Dd ρ Z=src ρ Z fun xs ad=>∃Pv:Nat->Rho->Mu->Prop,Pv 0 ρ ad /\
 (∀i x bm U,xs[i]? = some x->Pv i bm U->g (.v x) bm U fun ci am=>s1 {Dd with nx:=Pv (i+1),ct:=Pv (i+1),bk:=Dd.nx} ci am)/\(∀bm U,Pv xs.length bm U->Dd.nx bm U):=propext Iff.rfl
theorem n8{cap:List (Option Nat)}{src:DTI}{g:DTG}:oF cap src g t ta ρ Z Q=src ρ Z fun xs ad=>xs.length<=1000/\∃f:PyData->Option PyData,
 (∀x∈xs,∀U:Mu,(∀a ds,ad a=some ds->U a=some ds)->g (.v x) (bj cap ρ) U fun ci am=>Le (bj cap ρ) ci/\t ci am fun b be=>
  if b=true then ta ci be fun d ce=>ce=U/\(match d with|.v y=>f x=some y|_=>False) else be=U/\f x=none)/\Q (.v (.list (xs.filterMap f))) ad:=propext Iff.rfl
theorem zM{α:Type}{r:List (Option α)}:bj [] r=[]:=rfl
theorem y9{α:Type}{o:Option Nat}{c:List (Option Nat)}{r:List (Option α)}:bj (o::c) r=(o.bind fun j=>(r[j]?).join)::bj c r:=rfl
theorem Gp:Le [] []=True:=propext ⟨fun _=>trivial,fun h=>h⟩
theorem EA{r r':Rho}{o:Option D}:Le (none::r) (o::r')=Le r r':=propext Iff.rfl
theorem Fy{r r':Rho}{d d':D}:Le (some d::r) (some d'::r')=(d=d'/\Le r r'):=propext Iff.rfl
theorem vq{α:Type}(p:α->Bool):∀xs:List α,bN (xs.map fun x=>PyData.bool (p x))=some (xs.map p)
 |[]=>rfl
 |x::r=>by rw[map_cons,bN,vq p r];rfl
theorem Jx{α β:Type}(p:α->β):∀xs:List α,xs.filterMap (fun x=>some (p x))=xs.map p
 |[]=>rfl
 |x::r=>by rw[filterMap_cons,Jx p r];rfl
theorem Ju:uq t s1 Dd ρ Z=(∃W:Nat->Rho->Mu->Prop,(∃m,W m ρ Z)/\∀m ρ Z,W m ρ Z ->
 t ρ Z fun b ad=>if b=true then s1 {Dd with nx:=fun bm U=>∃m',m'<m/\W m' bm U,ct:=fun bm U=>∃m',m'<m/\W m' bm U,bk:=Dd.nx} ρ ad else Dd.nx ρ ad):=propext Iff.rfl
end
theorem MF{α β:Type}[BEq α][LawfulBEq α]{x:α}{k:β}:∀{l:List (α×β)},l.lookup x=some k->(x,k)∈l
 |[],h=>by cases h
 |(y,j)::r,h=>by
  rw[lookup_cons] at h
  cases e:x==y with
  |true=>
   rw[e] at h
   simp only[Option.some.injEq] at h
   have:x=y:=eq_of_beq e
   subst this h
   exact mem_cons_self
  |false=>
   rw[e] at h
   exact mem_cons_of_mem _ (MF h)
def cfK:NameKind->Bool
 |.cell=>true
 |.free=>true
 |_=>false
theorem cX{names:List (Str×NameKind)}{cl:List (Str×Addr)}(h:(names.all fun y=>!(cfK y.2) || (cl.lookup y.1).isSome)=true)(x:Str)(hx:names.lookup x=some .cell\/names.lookup x=some .free):∃a,cl.lookup x=some a:=by
 rw[List.all_eq_true] at h
 have key:∀k,cfK k=true->names.lookup x=some k->∃a,cl.lookup x=some a:=fun k hk e=>by
  have q:=h _ (MF e)
  simp only[hk,Bool.not_true,Bool.false_or] at q
  exact Option.isSome_iff_exists.mp q
 rcases hx with e|e
 ·exact key _ rfl e
 ·exact key _ rfl e
def LQ(X:Cx)(sc:Scope):List (Option Nat)->List Str->Prop
 |none::c,_::n=>LQ X sc c n
 |some j::c,x::n=>(X.N[j]? = some x/\Vis X.env.scope x/\X.env.kindOf x≠some .local/\((relabel sc X.env).names.lookup x=some .cell\/(relabel sc X.env).names.lookup x=some .free))/\LQ X sc c n
 |_,_=>True
theorem cE{X:Cx}{sc:Scope}:∀{c:List (Option Nat)} {n:List Str},LQ X sc c n->∀(i j:Nat) (x:Str),c[i]? = some (some j)->n[i]? = some x ->
  X.N[j]? = some x/\Vis X.env.scope x/\X.env.kindOf x≠some .local/\((relabel sc X.env).names.lookup x=some .cell\/(relabel sc X.env).names.lookup x=some .free)
 |[],_,_,i,j,x,h,_=>by simp at h
 |_::_,[],_,i,j,x,_,h=>by simp at h
 |none::c,y::n,k,0,j,x,h,_=>by simp at h
 |none::c,y::n,k,i+1,j,x,h,g=>cE (c:=c) (n:=n) k i j x (by simpa using h) (by simpa using g)
 |some l::c,y::n,k,0,j,x,h,g=>by
  simp only[List.getElem?_cons_zero,Option.some.injEq] at h g
  subst h g
  exact k.1
 |some l::c,y::n,k,i+1,j,x,h,g=>cE (c:=c) (n:=n) k.2 i j x (by simpa using h) (by simpa using g)
theorem qU{X:Cx}{sc:Scope}{j:Nat}{x:Str}(h1:X.N[j]? = some x:=by rfl)(h2:Vis X.env.scope x:=by first|exact Or.inl rfl|exact Or.inr (Or.inl rfl)|exact Or.inr (Or.inr rfl))(h3:X.env.kindOf x≠some .local:=by first|(intro z;cases z)|exact (fun z=>nomatch z))
  (h4:(relabel sc X.env).names.lookup x=some .cell\/(relabel sc X.env).names.lookup x=some .free:=by first|exact Or.inl rfl|exact Or.inr rfl):X.N[j]? = some x/\Vis X.env.scope x/\X.env.kindOf x≠some .local/\((relabel sc X.env).names.lookup x=some .cell\/(relabel sc X.env).names.lookup x=some .free):=⟨h1,h2,h3,h4⟩
def kZ(Z:Mu)(p:Addr):Mu:=⟨fun b=>if b=p then none else Z b,Z.b⟩
theorem iE{Z:Mu}{p b:Addr}(h:b≠p):kZ Z p b=Z b:=if_neg h
theorem jx{Z:Mu}{p:Addr}:kZ Z p p=none:=if_pos rfl
noncomputable def ju(cap:List (Option Nat))(src:DTI)(g:DTG)(c:DTT)(elt:DTE):DTE:=fun ρ Z Q=>src ρ Z fun xs ad=>xs.length<=1000/\∀p,ad p=none->∃Pv:Nat->List PyData->Mu->Prop,Pv 0 [] (az ad p []) /\
 (∀i x acc U,xs[i]? = some x->U p=some acc->Pv i acc U->g (.v x) (bj cap ρ) U fun ci am=>Le (bj cap ρ) ci/\c ci am fun b be=>
  if b=true then elt ci be fun d ce=>ce p=some acc/\(match d with|.v y=>Pv (i+1) (acc++[y]) (az ce p (acc++[y]))|_=>False) else be p=some acc/\Pv (i+1) acc be) /\
 (∀acc U,Pv xs.length acc U->U p=some acc->Q (.v (.list acc)) (kZ U p))
theorem Bt{X:Cx}{pos2:Pos}{use:Option (Value->Sem Unit)}{QQ:Value->Shared->Prop}{pins:List (Addr×Obj)}{s:Shared}{σ:St}{H:Hp}{ρ:Rho}{Z:Mu}{Qd:DK}{N':List Str}{scope:Scope}{cl:List (Str×Addr)}{elt iter tg:Expr}{ifs:List Expr}{pos:Pos}{cap:List (Option Nat)}{src:DTI}{g:DTG}{c:DTT}{te:DTE}(hc:X.calm=X.calm)
  (hi:DI X tg iter src) (hg:∀fp bi bv,DG (aA X N' scope cl fp bi bv) tg g) (hif:∀fp bi bv,AY (aA X N' scope cl fp bi bv) ifs c) (he:∀fp bi bv,DE (aA X N' scope cl fp bi bv) elt te)
  (hclos:closureFor scope X.env=pure cl) (hcell:∀y∈scope.names,y.2≠.cell) (hkind:scope.kind = .function) (hnames:∀y∈scope.names,y.2 = .local->scope.names.lookup y.1=some .local)
  (hcl:∀x a,cl.lookup x=some a->X.env.cells.lookup x=some a) (hhas:∀x,(relabel scope X.env).names.lookup x=some .cell\/(relabel scope X.env).names.lookup x=some .free->∃a,cl.lookup x=some a)
  (hlen:cap.length=N'.length) (hcap:∀(i j:Nat) (x:Str),cap[i]? = some (some j)->N'[i]? = some x->X.N[j]? = some x/\Vis X.env.scope x/\X.env.kindOf x≠some .local/\((relabel scope X.env).names.lookup x=some .cell\/(relabel scope X.env).names.lookup x=some .free))
  (hs:∀x,foldedSetIterable iter X.env x=pure x )
  (I:Inv X pins σ H s) (S:St0 X.K H ρ Z σ) (h:ju cap src g c te ρ Z Qd)
  (hend:∀(s4:Shared) (Hc:Hp) (C pa:Addr) (m:Str->Option Value) (acc:List PyData) (ln:Mu),s4.heap.Ns C m->nW X pins Hc C->(∀h',Heap.SameBut C s4.heap h'->Inv X pins σ Hc {s4 with heap:=h'}) ->
   Ext X.K Z H ln Hc->St0 X.K Hc ρ ln σ->Rp X.K ln Hc (.list acc) (.ref pa)->Qd (.v (.list acc)) ln->compPost (model X.prog X.w) X.A X.xe use QQ (.ref pa) C (.ok .next) s4) :
  wpAny (model X.prog X.w) X.A (comprehension (.ListComp elt [⟨tg,iter,ifs,0⟩] scope pos) scope X.env pos2 (newList []) false (eval iter X.env) use) QQ X.xe s:=by
 obtain⟨wi,pw,li⟩:=hi
 refine wpAny_comprehension_free rfl hs hclos hkind hnames (thn (pw pins s σ H _ I (li σ H ρ Z _ (fun J H1=>∃xs ad,Ext X.K Z H ad H1/\St0 X.K H1 ρ ad σ/\HY X.K J xs ad H1/\xs.length<=1000/\∀p,ad p=none->∃Pv:Nat->List PyData->Mu->Prop,Pv 0 [] (az ad p []) /\
   (∀i x acc U,xs[i]? = some x->U p=some acc->Pv i acc U->g (.v x) (bj cap ρ) U fun ci am=>Le (bj cap ρ) ci/\c ci am fun b be=>
    if b=true then te ci be fun d ce=>ce p=some acc/\(match d with|.v y=>Pv (i+1) (acc++[y]) (az ce p (acc++[y]))|_=>False) else be p=some acc/\Pv (i+1) acc be) /\
   (∀acc U,Pv xs.length acc U->U p=some acc->Qd (.v (.list acc)) (kZ U p))) S h (fun xs ad H1 J e1 S1 it q=>⟨xs,ad,e1,S1,it,q⟩)))
  fun v s1 h1=>thn h1 fun itv s2 h2=>?_)
 obtain⟨it,fp,tn,J,H2,rfl,I2,T,st2,f2,xs,ad,e1,S1,itok,hxs,allp⟩:=h2
 refine wpAny_newObj_type (wpAny_newFunctionEnv hcell (by intro y hy;simp at hy) (fun dl gV gl=>?_) hkind)
 dsimp only at gV gl ⊢
 have hfree2:H2 s2.heap.objs.size=none:=I2.hok.fresh (le_refl _)
 have hK2:X.K.lookup s2.heap.objs.size=none:=by
  cases z:X.K.lookup s2.heap.objs.size with
  |none=>rfl
  |some o=>exact absurd (Heap.lt_size (I2.kIn _ _ z)) (lt_irrefl _)
 have I3:Inv X pins σ (upd H2 s2.heap.objs.size (.lst [])) {s2 with heap:=s2.heap.push {cls:=.type "list",dict:=none,data:=.seq ([]:List Value).toArray}}:=
  I2.laid (t':=s2.toks) (fun b u e=>Heap.get?_push_of_some _ e) (le_refl _) ⟨zero_le _,[],0,.nil,Heap.get?_push_size _ rfl⟩
 generalize hH:s2.heap.push {cls:=.type "list",dict:=none,data:=.seq ([]:List Value).toArray} = hp3 at gV gl I3 ⊢
 have hsz3:hp3.objs.size=s2.heap.objs.size+1:=by rw[<- hH,Heap.size_push]
 have kept3:∀b o,hp3.get? b=some o->dl.get? b=some o:=fun b o e=>gl.extBut b o (ne_of_lt (Heap.lt_size e)) (Heap.get?_push_of_some _ e)
 have old3:∀b o,s2.heap.get? b=some o->hp3.get? b=some o:=fun b o e=>by rw[<- hH];exact Heap.get?_push_of_some _ e
 have fplt:∀b∈fp,b<s2.heap.objs.size:=fun b hb=>by obtain⟨o,e,_⟩:=T.obj 0 _ st2 b hb;exact Heap.lt_size e
 have fpst:∀b∈fp,b ∉ frs X.stack:=fun b hb hz=>by
  rcases List.mem_cons.mp (I2.iO b hz) with e|e
  ·exact (f2 b hb).2.1 e
  ·exact (f2 b hb).2.2.1 e
 obtain⟨s3,hs3⟩:∃s3:Shared,s3={s2 with heap:=hp3}:=⟨_,rfl⟩
 obtain⟨H3,hH3⟩:∃H3:Hp,H3=upd H2 s2.heap.objs.size (.lst []):=⟨_,rfl⟩
 have heap3:s3.heap=hp3:=by rw[hs3]
 rw[<- hH3] at I3
 have I3':Inv X pins σ H3 s3:=by rw[hs3];exact I3
 have hloc:H3 hp3.objs.size=none:=by have:=I3'.hok.fresh (a:=hp3.objs.size) (by rw[heap3];exact le_refl _);exact this
 have okc:(aA X N' scope cl fp s3 H3).Ok:=by
  refine⟨I3.ok.mod,?_,I3.ok.glob,I3.ok.blt,le_refl _,fun x y a h1 h2=>I3.ok.inj x y a (hcl x a h1) (hcl y a h2),fun x hx=>hhas x hx,fun x a h=>(nomatch h),I3.ok.hd,I3.ok.qt,I3.ok.frames,.inl rfl,fun b hb=>⟨?_,fun x a h=>(f2 b hb).2.2.2.2.1 x a (hcl x a h)⟩,
   I3'.bs,le_trans I3.ok.bsz I3'.sz,fun b o e hb=>?_,fun b hb=>fpst b hb,I3'.stack,I3'.p5⟩
  ·exact hkind
  ·show b≠s3.heap.objs.size
   rw[heap3,hsz3]
   exact ne_of_lt (lt_succ_of_lt (fplt b hb))
  ·rcases (f2 b hb).2.2.2.1 with z|z
   ·exact I3.ok.BS b o e z
   ·exact absurd (lt_of_lt_of_le (Heap.lt_size (I3.ok.bs b o e).1) z) (lt_irrefl _)
 have I4:Inv (aA X N' scope cl fp s3 H3) [] (bj cap σ) H3 {s2 with heap:=dl,toks:=s2.toks+([]:List (Str×Value)).length}:=by
  refine⟨okc,by show s2.os=s3.os;rw[hs3],I3.bare,Un.kept (by show ∀b o,s3.heap.get? b=some o->_;rw[heap3];exact kept3),⟨_,(by show dl.Ns s3.heap.objs.size _;rw[heap3];exact gV),fun i x v e1 e2 e3=>?_⟩,fun x a h=>?_,(by show H3 s3.heap.objs.size=none;rw[heap3];exact hloc),fun x a h=>I3.j3 x a (hcl x a h),fun p hp=>?_,I3.hok.kept kept3,?_⟩
  ·obtain⟨j,h1,h2⟩:=lO e2
   obtain⟨hN,hv,hnl,hk⟩:=hcap i j x h1 e1
   obtain⟨m,_,hl⟩:=I3.loc
   obtain⟨u,r,lk⟩:=hl j x v hN h2 hv
   refine⟨u,r,.inr ⟨hk,?_⟩⟩
   obtain⟨a,ha⟩:=hhas x hk
   rcases lk with ⟨z,_⟩|⟨_,a',z1,z2⟩
   ·exact absurd z hnl
   ·have:a'=a:=by have q:=hcl x a ha;rw[z1] at q;exact Option.some.inj q
    subst this
    obtain⟨o,ho,hd⟩:=z2
    exact⟨a',ha,o,kept3 _ _ ho,hd⟩
  ·obtain⟨v,o,ho,hd⟩:=I3.cell x a (hcl x a h)
   exact⟨v,o,kept3 _ _ ho,hd⟩
  ·have hp':p∈X.pn++pins:=mem_append_left _ (by simpa using (show p∈X.pn++[] from hp))
   obtain⟨z1,z2,z3,z4,z5⟩:=I3'.pin p hp'
   refine⟨kept3 _ _ (by rw[<- heap3];exact z1),z2,(show p.1≠s3.heap.objs.size from ne_of_lt (Heap.lt_size z1)),fun z=>?_,z5⟩
   rcases List.mem_cons.mp (I3'.iO p.1 z) with e|e
   ·exact z3 e
   ·exact z4 e
  ·show (bj cap σ).length=N'.length
   unfold bj
   rw[length_map]
   exact hlen
 have lf:ad s2.heap.objs.size=none:=S1.mu.free hfree2
 obtain⟨Pv,pv0,body,fin⟩:=allp s2.heap.objs.size lf
 have loop:codeAny (model X.prog X.w) X.A (.compLoop (.ListComp elt [⟨tg,iter,ifs,0⟩] scope pos) 0 (.ref it) (.ref s2.heap.objs.size) (aA X N' scope cl fp s3 H3).env)
   (compPost (model X.prog X.w) X.A X.xe use QQ (.ref s2.heap.objs.size) hp3.objs.size) {s2 with heap:=dl,toks:=s2.toks+([]:List (Str×Value)).length}:=by
  refine gc (fun n s'=>∃(i:Nat) (db:St) (Hc:Hp) (acc:List PyData) (ge:Mu),n=xs.length-i/\i<=xs.length/\Inv (aA X N' scope cl fp s3 H3) [] db Hc s'/\tn i s'.heap/\(∀b∈fp,Hc b=none) /\
   acc.length<=i/\ge s2.heap.objs.size=some acc/\Pv i acc ge/\St0 X.K Hc (bj cap ρ) ge db/\Ext X.K ad H2 ge Hc) ?_ xs.length
   ⟨0,bj cap σ,H3,[],az ad s2.heap.objs.size [],by simp,zero_le _,I4,T.keep 0 _ _ st2 (fun b hb o e=>kept3 b o (old3 b o e)),fun b hb=>?_,le_refl _,aI,pv0,?_,?_⟩
  ·rintro n s' ⟨i,db,Hc,acc,ge,rfl,hi,Ic,tc,frc,hal,hpa,pvi,Sc,Ec⟩
   have stat:∀{Hd:Hp},(∀b∈fp,Hd b=none)->∀b∈fp,nW (aA X N' scope cl fp s3 H3) [] Hd b:=fun hn b hb=>
    ⟨hn b hb,(okc.exf b hb).1,fpst b hb,.inl hb,fun x a h=>(okc.exf b hb).2 x a h,fun p hp=>(f2 b hb).2.2.2.2.2 p (mem_append_left _ (by simpa using (show p∈X.pn++[] from hp)))⟩
   obtain⟨go,stop⟩:=itok _ Hc Ec Sc.mu i
   by_cases hlt:i<xs.length
   ·obtain⟨g1,y1⟩:=go hlt
    refine thn (T.item (aA X N' scope cl fp s3 H3) rfl rfl rfl (fun z=>z) i [] s' db Hc (fun _ _=>False) Ic (stat frc) tc g1) fun r s4 hq0=>?_
    obtain⟨u,hr,h4⟩:=hq0
    subst hr
    refine thn h4 fun _ s5 hq0=>?_
    obtain⟨x,H5,I5,r5,y5,st5,fr5⟩:=hq0
    obtain⟨d,hd,sm,rd⟩:=y1 x H5 y5
    have I5':=I5.pinned (stat fr5) (T.obj _ _ st5)
    have e5:Ext X.K _ Hc _ H5:=.of_same (Z:=ge) sm
    have S5:St0 X.K H5 (bj cap ρ) ge db:=⟨Sc.mu.FJ e5 sm,Sc.rho.ext Sc.mu e5⟩
    obtain⟨gt,pg,lg⟩:=hg fp s3 H3
    refine thn (pg _ s5 db H5 x u (fun bn H'=>∃bm U,Ext X.K ge H5 U H'/\St0 X.K H' bm U bn/\Le (bj cap ρ) bm/\c bm U fun b be=>
      if b=true then te bm be fun d' ce=>ce s2.heap.objs.size=some acc/\(match d' with|.v y=>Pv (i+1) (acc++[y]) (az ce s2.heap.objs.size (acc++[y]))|_=>False) else be s2.heap.objs.size=some acc/\Pv (i+1) acc be) I5' r5
     (lg db H5 (bj cap ρ) _ (.v d) x _ _ S5 rd (body i d acc ge hd hpa pvi) fun bn bm U H' e' S' q=>⟨bm,U,e',S',q⟩)) fun _ s6 ⟨ga,H6,I6,jp,ld,e6,S6,le6,q6⟩=>?_
    refine thn (hif fp s3 H3 _ s6 ga H6 jp ld _ (fun b H'=>∃U,Ext X.K ld H6 U H'/\St0 X.K H' jp U ga/\if b=true then te jp U fun d' ce=>ce s2.heap.objs.size=some acc/\(match d' with|.v y=>Pv (i+1) (acc++[y]) (az ce s2.heap.objs.size (acc++[y]))|_=>False) else U s2.heap.objs.size=some acc/\Pv (i+1) acc U)
     I6 S6 q6 fun b U H' e' S' q=>⟨U,e',S',q⟩) fun b s7 ⟨H7,I7,lw,e7,S7,q7⟩=>?_
    have again:∀{H9:Hp} {s9:Shared} {acc':List PyData} {pd:Mu},Inv (aA X N' scope cl fp s3 H3) ([]++oG fp s5.heap) ga H9 s9->acc'.length<=i+1->pd s2.heap.objs.size=some acc'->Pv (i+1) acc' pd->bG X.K pd H9->gG X.K pd H9 (bj cap ρ) ga ->
      Ext X.K ad H2 pd H9->∃m,m<xs.length-i/\∃(i:Nat) (db:St) (Hc:Hp) (acc:List PyData) (ge:Mu),m=xs.length-i/\i<=xs.length/\Inv (aA X N' scope cl fp s3 H3) [] db Hc s9/\tn i s9.heap/\(∀b∈fp,Hc b=none) /\
       acc.length<=i/\ge s2.heap.objs.size=some acc/\Pv i acc ge/\St0 X.K Hc (bj cap ρ) ge db/\Ext X.K ad H2 ge Hc:=fun {H9 s9 acc' pd} I9 l9 p9 v9 m9 r9 e9=>by
     refine⟨xs.length-(i+1),∅,i+1,ga,H9,acc',pd,rfl,hlt,I9.dS,T.keep _ _ _ st5 fun b hb o e=>(I9.pin (b,o) (mem_append_right _ (mem_append_right _ (bD hb e)))).1,fun b hb=>?_,l9,p9,v9,⟨m9,r9⟩,e9⟩
     obtain⟨o,e,_⟩:=T.obj _ _ st5 b hb
     exact (I9.pin (b,o) (mem_append_right _ (mem_append_right _ (bD hb e)))).2.1
    cases b with
    |false=>
     have q8:lw s2.heap.objs.size=some acc/\Pv (i+1) acc lw:=by simpa using q7
     refine xP ?_
     exact again I7 ∅ q8.1 q8.2 S7.mu (S7.rho.le le6) (Ec.trans (e5.trans (e6.trans e7)))
    |true=>
     refine zI ?_
     obtain⟨t8,p8,l8⟩:=he fp s3 H3
     refine thn (p8 _ s7 ga H7 (fun v H'=>∃y kw,Ext X.K lw H7 kw H'/\St0 X.K H' jp kw ga/\Rp X.K kw H' y v/\kw s2.heap.objs.size=some acc/\Pv (i+1) (acc++[y]) (az kw s2.heap.objs.size (acc++[y]))) I7
      (l8 ga H7 jp lw _ _ S7 (by simpa using q7) fun d' v kw H8 e8 S8 r8 q8=>?_)) fun v s8 ⟨v8,H8,I8,r8,y,kw,e8,S8,ry,pa8,fy⟩=>?_
     ·obtain⟨q80,q8⟩:=q8
      cases d' with
      |v y=>exact⟨y,kw,e8,S8,r8,q80,q8⟩
      |m _=>exact q8.elim
      |s _=>exact q8.elim
      |o _=>exact q8.elim
      |b _=>exact q8.elim
      |q _=>exact q8.elim
     ·obtain⟨us,hacc,rus⟩:=S8.mu s2.heap.objs.size _ pa8
      have hle:acc.length<=1000:=by omega
      refine thn (lh (X:=aA X N' scope cl fp s3 H3) _ s8 ga H8 (.ref s2.heap.objs.size) [v8] (.ref s2.heap.objs.size) [v] (fun _ H'=>H'=upd H8 s2.heap.objs.size (.lst (us++[v8]))) I8 rfl (.cons r8 .nil) ⟨_,us,v8,rfl,rfl,hacc,by rw[<- rus.length];exact d0 hle,rfl⟩) fun _ s9 hq0=>?_
      obtain⟨_,H9,I9,_,e9⟩:=hq0
      subst e9
      have ex:Ext X.K kw H8 (az kw s2.heap.objs.size (acc++[y])) (upd H8 s2.heap.objs.size (.lst (us++[v8]))):=gh pa8
      exact again I9 (by rw[length_append,List.length_singleton];omega) aI fy (S8.mu.set pa8 (rus.append (.cons ry .nil))) ((S8.rho.le le6).ext S8.mu ex) (Ec.trans (e5.trans (e6.trans (e7.trans (e8.trans ex)))))
   ·have ei:i=xs.length:=by omega
    subst ei
    refine thn (T.done (aA X N' scope cl fp s3 H3) rfl rfl rfl (fun z=>z) _ [] s' db Hc (fun _ _=>False) Ic (stat frc) tc (stop rfl)) fun r s4 hq0=>?_
    obtain⟨hr,I5⟩:=hq0
    subst hr
    obtain⟨m,hn,_⟩:=I5.loc
    have hcC:Hc hp3.objs.size=none:=by have z:Hc s3.heap.objs.size=none:=I5.free;rw[heap3] at z;exact z
    obtain⟨us,hacc,rus⟩:=Sc.mu s2.heap.objs.size _ hpa
    have shr:∀a,ge a=none->kZ ge s2.heap.objs.size a=none:=fun a e=>by
     by_cases z:a=s2.heap.objs.size
     ·rw[z];exact jx
     ·rw[iE z];exact e
    have dne:∀a ds,kZ ge s2.heap.objs.size a=some ds->ge a=some ds:=fun a ds e=>by
     by_cases z:a=s2.heap.objs.size
     ·rw[z,jx] at e;cases e
     ·rw[iE z] at e;exact e
    have eF:Ext X.K ad H2 (kZ ge s2.heap.objs.size) Hc:=by
     refine⟨Ec.keep,Ec.tb,fun b ds q=>?_,fun b q z=>shr b (Ec.fresh b q z),Ec.st,fun b c q=>Ec.bx b c q⟩
     obtain⟨es,q2⟩:=Ec.dom b ds q
     have:b≠s2.heap.objs.size:=fun z=>by rw[z,lf] at q;cases q
     exact⟨es,by rw[iE this];exact q2⟩
    have mF:bG X.K (kZ ge s2.heap.objs.size) Hc:=⟨fun a ds q=>by
     obtain⟨ys,z1,z2⟩:=Sc.mu a ds (dne a ds q)
     exact⟨ys,z1,z2.shrink shr⟩,Sc.mu.tab,fun a c q=>let ⟨z,o,w1,w2⟩:=Sc.mu.box a c q;⟨z,o,w1,w2.shrink shr⟩⟩
    refine hend s4 Hc hp3.objs.size s2.heap.objs.size m acc (kZ ge s2.heap.objs.size) (by have z:s4.heap.Ns s3.heap.objs.size m:=hn;rw[heap3] at z;exact z) (I2.HP (by rw[hsz3];exact Nat.le_succ _) hcC) (fun h' hs'=>?_) (e1.trans eF) ⟨mF,S1.rho.ext S1.mu eF⟩ (Rp.list hacc jx (rus.shrink shr)) (fin acc ge pvi hpa)
    have kp:∀b o,b<s2.heap.objs.size->s4.heap.get? b=some o->h'.get? b=some o:=fun b o hb e=>hs'.extBut b o (by rw[hsz3];exact ne_of_lt (lt_succ_of_lt hb)) e
    have hok':HOk X.prog X.w Hc h':=fun b ob e=>by
     refine (I5.hok b ob e).sC (fun cc v hcc q=>hs'.extBut cc v ?_ q) (fun _ q=>q) fun _ _ q=>q
     rintro rfl
     rcases hcc with z|z
     ·rw[<- z,hcC] at e;cases e
     ·rw[hcC] at z;cases z
    have u1:Un (frs X.stack) fp H2 H3 s2.heap s3.heap:=by rw[heap3,hH3];exact Un.laid old3 (le_refl _) hfree2
    have u2:Un (frs X.stack) fp H3 Hc s3.heap s4.heap:=I5.base
    exact I2.zj (ch:=fp) (by show s4.os=s2.os;have z:s4.os=s3.os:=I5.os;rw[z,hs3]) (Un.after (u1.trans u2) kp) hok' I5.bare fun b hb=>⟨(f2 b hb).2.2.2.1,(f2 b hb).2.1,(f2 b hb).2.2.2.2.1,(f2 b hb).2.2.2.2.2⟩
  ·have z:b≠s2.heap.objs.size:=ne_of_lt (fplt b hb)
   rw[hH3,aV z]
   exact (f2 b hb).1
  ·have ex:=eP (o:=.lst []) (ds:=[]) S1.mu hfree2 hK2
   rw[hH3]
   exact⟨S1.mu.mut .nil hfree2 hK2,(S1.rho.ext S1.mu ex).cap⟩
  ·rw[hH3]
   exact eP (o:=.lst []) (ds:=[]) S1.mu hfree2 hK2
 have envE:(aA X N' scope cl fp s3 H3).env=compEnvC scope cl hp3.objs.size X.env:=by show compEnvC scope cl s3.heap.objs.size X.env=_;rw[heap3]
 rw[envE] at loop
 exact codeAny_compStart_list loop (T.self X.A 0 _ _ _ (T.keep 0 _ _ st2 (fun b hb o e=>kept3 b o (old3 b o e))) loop)
theorem GQ{X:Cx}{N':List Str}{scope:Scope}{cl:List (Str×Addr)}{elt iter tg:Expr}{ifs:List Expr}{pos:Pos}{cap:List (Option Nat)}{src:DTI}{g:DTG}{c:DTT}{te:DTE}(hc:X.calm=X.calm)
  (hi:DI X tg iter src) (hg:∀fp bi bv,DG (aA X N' scope cl fp bi bv) tg g) (hif:∀fp bi bv,AY (aA X N' scope cl fp bi bv) ifs c) (he:∀fp bi bv,DE (aA X N' scope cl fp bi bv) elt te)
  (hclos:closureFor scope X.env=pure cl) (hcell:∀y∈scope.names,y.2≠.cell) (hkind:scope.kind = .function) (hnames:∀y∈scope.names,y.2 = .local->scope.names.lookup y.1=some .local)
  (hcl:∀x a,cl.lookup x=some a->X.env.cells.lookup x=some a) (hhas:∀x,(relabel scope X.env).names.lookup x=some .cell\/(relabel scope X.env).names.lookup x=some .free->∃a,cl.lookup x=some a)
  (hlen:cap.length=N'.length) (hcap:∀(i j:Nat) (x:Str),cap[i]? = some (some j)->N'[i]? = some x->X.N[j]? = some x/\Vis X.env.scope x/\X.env.kindOf x≠some .local/\((relabel scope X.env).names.lookup x=some .cell\/(relabel scope X.env).names.lookup x=some .free))
  (hs:∀x,foldedSetIterable iter X.env x=pure x:=by intro _;rfl):DE X (.ListComp elt [⟨tg,iter,ifs,0⟩] scope pos) (ju cap src g c te):=by
 refine Ja fun pins s σ H ρ Z Qd Q I S h k=>?_
 rw[eval_ListComp]
 refine Bt hc hi hg hif he hclos hcell hkind hnames hcl hhas hlen hcap hs I S h fun s4 Hc C pa m acc ln hn _ hI e1 S1 r q=>?_
 exact⟨m,hn,fun h' hs'=>⟨.ref pa,Hc,hI h' hs',rfl,k (.v (.list acc)) _ ln Hc e1 S1 r q⟩⟩
theorem ns_obj{h:Heap}{C:Addr}{m:Str->Option Value}(hn:h.Ns C m):∃o,h.get? C=some o/\∀v,o.data≠.cell v:=let ⟨o,es,ep,ho,hd,_⟩:=hn;⟨o,ho,fun v z=>by rw[hd] at z;cases z⟩
theorem Jn{h h':Heap}{C:Addr}{m:Str->Option Value}(hn:h.Ns C m)(e:h'.get? C=h.get? C):h'.Ns C m:=let ⟨o,es,ep,ho,r⟩:=hn;⟨o,es,ep,e.trans ho,r⟩
theorem wW{X:Cx}{i:Nat}{x:Str}{pos' spos:Pos}{N':List Str}{scope:Scope}{cl:List (Str×Addr)}{elt iter tg:Expr}{ifs:List Expr}{pos:Pos}{cap:List (Option Nat)}{src:DTI}{g:DTG}{c:DTT}{te:DTE}(hN:X.N.Nodup)(hix:X.N[i]? = some x)(hx:X.env.scope.names.lookup x=some .local)(hc:X.calm=X.calm)
  (hi:DI X tg iter src) (hg:∀fp bi bv,DG (aA X N' scope cl fp bi bv) tg g) (hif:∀fp bi bv,AY (aA X N' scope cl fp bi bv) ifs c) (he:∀fp bi bv,DE (aA X N' scope cl fp bi bv) elt te)
  (hclos:closureFor scope X.env=pure cl) (hcell:∀y∈scope.names,y.2≠.cell) (hkind:scope.kind = .function) (hnames:∀y∈scope.names,y.2 = .local->scope.names.lookup y.1=some .local)
  (hcl:∀x a,cl.lookup x=some a->X.env.cells.lookup x=some a) (hhas:∀x,(relabel scope X.env).names.lookup x=some .cell\/(relabel scope X.env).names.lookup x=some .free->∃a,cl.lookup x=some a)
  (hlen:cap.length=N'.length) (hcap:∀(i j:Nat) (x:Str),cap[i]? = some (some j)->N'[i]? = some x->X.N[j]? = some x/\Vis X.env.scope x/\X.env.kindOf x≠some .local/\((relabel scope X.env).names.lookup x=some .cell\/(relabel scope X.env).names.lookup x=some .free))
  (hs:∀x,foldedSetIterable iter X.env x=pure x:=by intro _;rfl)
  (hsw:swapsWith (.ListComp elt [⟨tg,iter,ifs,0⟩] scope pos) (some (.Name x pos')) spos.line X.env=pure true:=by rfl):DS X (.Assign [.Name x pos'] (.ListComp elt [⟨tg,iter,ifs,0⟩] scope pos) spos) (bo (ju cap src g c te) (aq i)):=by
 refine⟨fun D σ H=>∃ρ Z Dd,St0 X.K H ρ Z σ/\bo (ju cap src g c te) (aq i) Dd ρ Z/\(∀bn bm U H',Ext X.K Z H U H'->St0 X.K H' bm U bn->Dd.nx bm U->D.nx bn H'),?_,fun σ H ρ Z Dd De S h k1 k2 k3 k4=>⟨ρ,Z,Dd,S,h,k1⟩⟩
 rintro pins s σ H D I ⟨ρ,Z,Dd,S,h,k1⟩
 rw[exec_Assign_Name_used _ _ _ _ hsw]
 refine wpAny_bind (wpAny_standAt ?_)
 show wpAny _ _ ((comprehension (.ListComp elt [⟨tg,iter,ifs,0⟩] scope pos) scope X.env (firstIterPos [⟨tg,iter,ifs,0⟩] pos) (newList []) false (eval iter X.env) (some (assign (.Name x pos') X.env))>>=fun _=>pure ())>>=_) _ _ s
 refine wpAny_bind (wpAny_bind (Bt (Qd:=fun d ad=>aq i d ρ ad Dd.nx) hc hi hg hif he hclos hcell hkind hnames hcl hhas hlen hcap hs I S h fun s4 Hc C pa m acc ln hn fC hI e1 S1 r q=>?_))
 have I4:Inv X pins σ Hc s4:=hI s4.heap (Heap.SameBut.refl _ _)
 obtain⟨oC,hoC,hdC⟩:∃o,s4.heap.get? C=some o/\∀v,o.data≠.cell v:=by
  obtain⟨o,h1,h2⟩:=ns_obj hn
  exact⟨o,h1,h2⟩
 have I5:=I4.pinned (fp:=[C]) (fun b hb=>by rw[List.mem_singleton.mp hb];exact fC) (fun b hb=>by rw[List.mem_singleton.mp hb];exact⟨oC,hoC,hdC⟩)
 show wpAny _ _ (assign (.Name x pos') X.env (.ref pa)) _ _ s4
 refine wpAny_assign_Name (gg I5 hN hix (Or.inl hx) (show RelV (.ref pa) (.ref pa) from rfl) (fun s' I'=>?_) (.inr hx))
 have keepC:s'.heap.get? C=some oC:=(I'.pin (C,oC) (mem_append_right _ (mem_append_right _ (bD (List.mem_singleton.mpr rfl) hoC)))).1
 have hn':s'.heap.Ns C m:=Jn hn (by rw[keepC,hoC])
 refine⟨m,hn',fun h' hs'=>wpAny_pure (wpAny_pure ?_)⟩
 refine⟨σ.set i (some (.ref pa)),Hc,?_,k1 _ _ _ _ e1 ⟨S1.mu,S1.rho.set (d:=.v (.list acc)) r⟩ q⟩
 refine I'.dS.zj (ch:=[C]) rfl ⟨fun b o e n hb hx=>?_,fun b o e n hb hx=>?_,fun b o e n hx=>n,fun b o e hx=>?_,fun b xs e=>e,fun b o u e=>e,fun b ps e=>⟨#[],by rw[Array.append_empty];exact e⟩⟩ ?_ I'.bare fun b hb=>?_
 ·exact hs'.extBut b o (fun z=>hx (List.mem_singleton.mpr z)) e
 ·exact⟨o.slots,hs'.extBut b o (fun z=>hx (List.mem_singleton.mpr z)) e⟩
 ·exact⟨o,hs'.extBut b o (fun z=>hx (List.mem_singleton.mpr z)) e⟩
 ·exact fun b ob e=>by
   refine (I'.hok b ob e).sC (fun cc v hcc q=>hs'.extBut cc v ?_ q) (fun _ q=>q) fun _ _ q=>q
   rintro rfl
   rcases hcc with z|z
   ·rw[<- z,fC.1] at e;cases e
   ·rw[fC.1] at z;cases z
 ·rw[List.mem_singleton.mp hb]
  exact⟨fC.2.2.2.1,fC.2.1,fC.2.2.2.2.1,fC.2.2.2.2.2⟩
theorem mK{cap:List (Option Nat)}{src:DTI}{g:DTG}{t:DTT}{ta:DTE}{ρ:Rho}{Z:Mu}{Q:DK}:ju cap src g t ta ρ Z Q=src ρ Z fun xs ad=>xs.length<=1000/\∀p,ad p=none->∃Pv:Nat->List PyData->Mu->Prop,Pv 0 [] (az ad p []) /\
 (∀i x acc U,xs[i]? = some x->U p=some acc->Pv i acc U->g (.v x) (bj cap ρ) U fun ci am=>Le (bj cap ρ) ci/\t ci am fun b be=>
  if b=true then ta ci be fun d ce=>ce p=some acc/\(match d with|.v y=>Pv (i+1) (acc++[y]) (az ce p (acc++[y]))|_=>False) else be p=some acc/\Pv (i+1) acc be) /\
 (∀acc U,Pv xs.length acc U->U p=some acc->Q (.v (.list acc)) (kZ U p)):=propext Iff.rfl
theorem pX{Z:Mu}{p:Addr}{ds:List PyData}(h:Z p=none):kZ (az Z p ds) p=Z:=Mu.eq (fun b=>by
 by_cases e:b=p
 ·rw[e,jx,h]
 ·rw[iE e,aT e]) fun _=>rfl
theorem QD{xs:List PyData}{f:PyData->Option PyData}{i:Nat}{d:PyData}(h:xs[i]? = some d):(xs.take (i+1)).filterMap f=(xs.take i).filterMap f++(f d).toList:=CS h
theorem Inv.Ig{X:Cx}{pins:List (Addr×Obj)}{σ:St}{H:Hp}{s:Shared}{h':Heap}{t':Nat}{ch:List Addr}{a:Addr}{o:HO}(I:Inv X pins σ H s)(hc:∀b∈ch,nW X pins H b)
  (k:∀b u,b ∉ ch->s.heap.get? b=some u->h'.get? b=some u) (hp:s.heap.objs.size<=a) (new:iZ X.prog X.w (upd H a o) h' a o):Inv X pins σ (upd H a o) {s with heap:=h',toks:=t'}:=by
 have hn:=I.hok.fresh hp
 have nin:∀b u,H b=some u->b ∉ ch:=fun b u e z=>by rw[(hc b z).1] at e;cases e
 refine I.call (g':=s.gens) (d':=s.drawn) (t':=t') (ch:=ch) ?_ ?_ I.bare fun b hb=>?_
 ·exact⟨fun b u q _ _ x=>k b u x q,fun b u q _ _ x=>⟨u.slots,k b u x q⟩,fun b u q n _=>by rw[aV (ne_of_lt (lt_of_lt_of_le (Heap.lt_size q) hp))];exact n,fun b u q x=>⟨u,k b u x q⟩,
   fun b xs q=>by rw[aV (ba q hn)];exact q,fun b u xs q=>by rw[aV (ba q hn)];exact q,fun b ps q=>⟨#[],by rw[aV (ba q hn),q];simp⟩⟩
 ·intro b u e
  by_cases hb:b=a
  ·subst hb;rw[eJ] at e;cases e;exact new
  ·rw[aV hb] at e
   refine (I.hok b u e).sC (fun c v hcv q=>k c v ?_ q) (fun c q=>by rw[aV (ba q hn)];exact q) fun c xs q=>by rw[aV (ba q hn)];exact q
   rcases hcv with z|z
   ·rw[z];exact nin b u e
   ·exact nin c _ z
 ·obtain⟨_,f1,f2,f3,f4,f5⟩:=hc b hb
  exact⟨f3,f1,f4,f5⟩
theorem Inv.Ov{X:Cx}{pins:List (Addr×Obj)}{σ:St}{H:Hp}{s:Shared}{h':Heap}{t':Nat}{ch:List Addr}(I:Inv X pins σ H s)(hc:∀b∈ch,nW X pins H b)
  (k:∀b u,b ∉ ch->s.heap.get? b=some u->h'.get? b=some u):Inv X pins σ H {s with heap:=h',toks:=t'}:=by
 have nin:∀b u,H b=some u->b ∉ ch:=fun b u e z=>by rw[(hc b z).1] at e;cases e
 refine I.call (g':=s.gens) (d':=s.drawn) (t':=t') (ch:=ch) ?_ ?_ I.bare fun b hb=>?_
 ·exact⟨fun b u q _ _ x=>k b u x q,fun b u q _ _ x=>⟨u.slots,k b u x q⟩,fun b u q n _=>n,fun b u q x=>⟨u,k b u x q⟩,fun b xs q=>q,fun b u xs q=>q,fun b ps q=>⟨#[],by rw[q];simp⟩⟩
 ·intro b u e
  refine (I.hok b u e).sC (fun c v hcv q=>k c v ?_ q) (fun c q=>q) fun c xs q=>q
  rcases hcv with z|z
  ·rw[z];exact nin b u e
  ·exact nin c _ z
 ·obtain⟨_,f1,f2,f3,f4,f5⟩:=hc b hb
  exact⟨f3,f1,f4,f5⟩
section
variable {X:Cx}{es:List Expr}{x1:Nat}{tpos:Pos}
def Ko:List PyData->List PyData->List PyData
 |x::xs,y::ys=>.tuple [x,y]::Ko xs ys
 |_,_=>[]
end
section
variable {X:Cx}{a b e:Expr}{es:List Expr}{ta tb te:DTE}{t:DTA}{p pos:Pos}
def nt:List D->Mu->DK->Prop:=fun xs Z Q=>match xs with
 |[.v (.list ys)]=>Q (.v (.tuple ys)) Z
 |[.v (.tuple ys)]=>Q (.v (.tuple ys)) Z
 |[.m l]=>(match Z l with|some ys=>Q (.v (.tuple ys)) Z|none=>False)
 |_=>False
theorem LI{K:PySem.W.Frag}:nL K (fun xs H Q=>∃p ys,xs=[.ref p]/\((SqL K H p ys/\∀l,H l=none->Q (.ref l) (upd H l (.tup ys)))\/(SqT K H p ys/\Q (.ref p) H))) nt:=by
 intro xs us H Z Qd Q ok rs h k
 unfold nt at h
 split at h
 ·cases rs with
  |cons r1 r2=>
   cases r2
   cases r1 with
   |list hs hn r=>exact⟨_,_,rfl,.inl ⟨SqL.of hs,fun l hl=>k (.v _) _ Z _ (dj hl) (ok.new hl) (jB ok r hl) h⟩⟩
 ·cases rs with
  |cons r1 r2=>
   cases r2
   cases id r1 with
   |tuple hs r=>exact⟨_,_,rfl,.inr ⟨hs,k (.v _) _ Z H .refl ok r1 h⟩⟩
 ·cases rs with
  |cons r1 r2=>
   cases r2
   obtain⟨rfl,ds,hm⟩:=r1
   rw[hm] at h
   obtain⟨us,hl,r⟩:=ok _ ds hm
   exact⟨_,_,rfl,.inl ⟨SqL.of hl,fun l hl'=>k (.v _) _ Z _ (dj hl') (ok.new hl') (jB ok r hl') h⟩⟩
 ·exact h.elim
theorem EW(hg:Gl X "tuple")(hm:X.mg "tuple"=none)(ha:DA X (e::es) t)
  (he:starEach (e::es) X.env=(false,eval e X.env)::starEach es X.env:=by rfl) (hpl:(backTo pos (starEach es X.env)).any (·.1)=false:=by rfl):DE X (.Call (.Name "tuple" p) (e::es) [] pos) (dCB nt t):=
 pP Ac LI hg hm PyProof.Rows.Boot.«tuple» ha ⋯ ⋯ he hpl
theorem nR{l:Addr}{Z:Mu}{Q:DK}:nt [.m l] Z Q=(match Z l with|some ys=>Q (.v (.tuple ys)) Z|none=>False):=propext Iff.rfl
def Gh:D->D->Mu->DK->Prop:=fun x y Z Q=>match x,y with
 |.v (.list xs),.v (.int k)=>(0<=k/\k<=1000/\xs.length*k.toNat<=1000)/\Q (.v (.list (List.replicate k.toNat xs).flatten)) Z
 |_,_=>False
theorem RpL.rep{K:PySem.W.Frag}{Z:Mu}{H:Hp}{ds:List PyData}{us:List V}(r:RpL K Z H ds us):∀n:Nat,RpL K Z H (List.replicate n ds).flatten (List.replicate n us).flatten
 |0=>.nil
 |n+1=>by rw[replicate_succ,flatten_cons,replicate_succ,flatten_cons];exact r.append (RpL.rep r n)
theorem QL{K:PySem.W.Frag}:i4 K Se Gh:=by
 intro x y ux uy H Z Qd Q ok rx ry h k
 unfold Gh at h
 split at h
 ·rename_i xs n
  cases ry
  cases rx with
  |@list a us _ ha hn ra=>exact⟨a,n,us,rfl,rfl,ha,∅,∅,Jm (by rw[<- ra.length];exact h.1.2.2),fun p hp=>k (.v _) _ Z _ (dj hp) (ok.new hp) (eW ok (ra.rep _) hp) h.2⟩
 ·exact h.elim
theorem Qr(ha:DE X a ta)(hb:DE X b tb):DE X (.BinOp a .Mult b pos) (dOp Gh ta tb):=vw Ra QL ha hb
theorem Fu{xs:List PyData}{k:Int}{Z:Mu}{Q:DK}:Gh (.v (.list xs)) (.v (.int k)) Z Q=((0<=k/\k<=1000/\xs.length*k.toNat<=1000)/\Q (.v (.list (List.replicate k.toNat xs).flatten)) Z):=propext Iff.rfl
end
theorem cl1{k:Str}{v:Addr}{r:List (Str×Addr)}{x:Str}{a:Addr}(h:List.lookup x [(k,v)]=some a):List.lookup x ((k,v)::r)=some a:=by
 simp only[lookup_cons] at h ⊢
 cases e:x==k with
 |true=>rw[e] at h;exact h
 |false=>rw[e] at h;exact absurd h (by simp)
theorem cl2{k k':Str}{v v':Addr}{r:List (Str×Addr)}{x:Str}{a:Addr}(n:(k==k')=false)(h:List.lookup x [(k,v)]=some a):List.lookup x ((k',v')::(k,v)::r)=some a:=by
 have g:=cl1 (r:=r) h
 simp only[lookup_cons] at h
 cases e:x==k with
 |true=>
  have e':x=k:=by simpa using e
  subst e'
  rw[lookup_cons,n]
  exact g
 |false=>rw[e] at h;exact absurd h (by simp)
section
variable {X:Cx}{e:Expr}{es:List Expr}{t:DTA}{p pos:Pos}
def Df:List PyData->Option (List Int)
 |[]=>some []
 |.int b::r=>(Df r).map (b::·)
 |_::_=>none
end
section
variable {X:Cx}{a b c:Expr}{ta tb tc:DTE}{pos:Pos}
theorem cl3{k k':Str}{v v':Addr}{x:Str}{a:Addr}(n:(k==k')=false)(h:List.lookup x [(k,v),(k',v')]=some a):List.lookup x [(k',v'),(k,v)]=some a:=by
 simp only[lookup_cons,List.lookup_nil] at h ⊢
 cases e:x==k with
 |true=>
  have e':x=k:=by simpa using e
  subst e'
  rw[e] at h
  rw[n]
  exact h
 |false=>
  rw[e] at h
  cases e2:x==k' with
  |true=>rw[e2] at h;exact h
  |false=>rw[e2] at h;exact absurd h (by simp)
end
section
variable {X:Cx}{o e:Expr}{to te:DTE}{apos cpos pos:Pos}
noncomputable def Uw(to:DTE):DTE:=fun ρ Z Q=>to ρ Z fun x ad=>match x with
 |.m l=>(match ad l with
  |some xs=>∃d,xs[xs.length-1]? = some d/\Q (.v d) (az ad l xs.dropLast)
  |none=>False)
 |_=>False
theorem RpL.eraseIdx{K:PySem.W.Frag}{Z:Mu}{H:Hp}:∀{ds:List PyData} {us:List V} (i:Nat),RpL K Z H ds us->RpL K Z H (ds.eraseIdx i) (us.eraseIdx i)
 |_,_,_,.nil=>.nil
 |_,_,0,.cons _ t=>t
 |_,_,i+1,.cons h t=>.cons h (RpL.eraseIdx i t)
noncomputable def IV(to te:DTE):DTE:=fun ρ Z Q=>to ρ Z fun x ad=>match x with
 |.m l=>te ρ ad fun y am=>(match y,am l with
  |.v (.int i),some xs=>(0<=i/\i<1000)/\∃d,xs[i.toNat]? = some d/\Q (.v d) (az am l (xs.eraseIdx i.toNat))
  |_,_=>False)
 |_=>False
theorem Sb{i:Int}{n:Nat}(h0:0<=i)(h:i.toNat<n):seqIndex? i n=some i.toNat:=by
 unfold seqIndex?
 simp only[Option.ite_none_right_eq_some,Option.some.injEq]<;>first|(split<;>(try split)<;>simp_all<;>omega)|(constructor<;>omega)|omega
theorem Ni(ho:DE X o to)(ha:DE X e te)(hbase:attributeBase o "pop" X.env (eval o X.env)=eval o X.env:=by rfl)
  (hfew:((backTo cpos (starEach [e] X.env)).all (fun x=>!x.1)&&(backToKw cpos (keywordEach [] X.env)).all (fun x=>x.1.isSome)
   && decide ([e].length+([]:List Keyword).length+(if ([]:List Keyword).isEmpty then 0 else 1)<30))=true:=by rfl)
  (hline:(apos.endLine==cpos.line)=true:=by rfl) (hs:starEach [e] X.env=(false,eval e X.env)::starEach [] X.env:=by rfl) (hplain:(backTo cpos (starEach [] X.env)).any (·.1)=false:=by rfl) :
  DE X (.Call (.Attribute o "pop" apos) [e] [] cpos) (IV to te):=by
 obtain⟨t1,p1,l1⟩:=ho
 obtain⟨t2,p2,l2⟩:=ha
 refine⟨_,MW plainAttrs_list PySem.F.slot_list_pop PySem.F.type_list_pop Mv p1 (i6 p2 uW hs) hbase hfew hline hs hplain,fun σ H ρ Z Qd Q S h k=>?_⟩
 refine l1 σ H ρ Z _ _ S h fun x ux ad H1 e1 S1 rx h1=>?_
 cases x with
 |m l=>
  obtain⟨rfl,ds,hm⟩:=id rx
  obtain⟨us,hl,rl⟩:=S1.mu l ds hm
  refine⟨.inl ⟨rfl,us,SqL.of hl⟩,?_⟩
  refine l2 σ H1 ρ ad _ _ S1 h1 fun y uy am H2 e2 S2 ry h2=>?_
  obtain⟨_,ds2,hm2⟩:=rx.ext S1.mu e2
  obtain⟨us2,hl2,rl2⟩:=S2.mu l ds2 hm2
  rw[hm2] at h2
  split at h2
  ·rename_i i ds3 e3
   cases e3
   obtain⟨⟨i0,i1⟩,d,hd,q⟩:=h2
   cases ry
   obtain⟨u,hu,ru⟩:=rl2.get hd
   have hlt:i.toNat<us2.length:=by
    rcases lt_or_ge i.toNat us2.length with z|z
    ·exact z
    ·rw[getElem?_eq_none z] at hu;cases hu
   have ex:Ext X.K am H2 (az am l (ds2.eraseIdx i.toNat)) (upd H2 l (.lst (us2.eraseIdx i.toNat))):=gh hm2
   exact⟨l,us2,i,i.toNat,u,rfl,rfl,hl2,∅,∅,Sb i0 hlt,hu,k (.v d) u _ _ (e1.trans (e2.trans ex)) ⟨S2.mu.set hm2 (rl2.eraseIdx _),S2.rho.ext S2.mu ex⟩ (ru.ext S2.mu ex) q⟩
  ·exact h2.elim
 |v d=>exact h1.elim
 |s ns=>exact h1.elim
 |o _=>exact h1.elim
 |b _=>exact h1.elim
 |q _=>exact h1.elim
end
noncomputable def D3(cap:List (Option Nat))(src:DTI)(g:DTG)(c:DTT)(elt:DTE):DTE:=fun ρ Z Q=>src ρ Z fun xs ad=>xs.length<=1000/\∀p,ad p=none->∃Pv:Nat->List PyData->Mu->Prop,Pv 0 [] (az ad p []) /\
 (∀i x acc U,xs[i]? = some x->U p=some acc->Pv i acc U->g (.v x) (bj cap ρ) U fun ci am=>Le (bj cap ρ) ci/\c ci am fun b be=>
  if b=true then elt ci be fun d ce=>ce p=some acc/\(match d with|.v y=>Pv (i+1) (acc++[y]) (az ce p (acc++[y]))|_=>False) else be p=some acc/\Pv (i+1) acc be) /\
 (∀acc U,Pv xs.length acc U->U p=some acc->Q (.m p) U)
theorem HJ{X:Cx}{pos2:Pos}{use:Option (Value->Sem Unit)}{QQ:Value->Shared->Prop}{pins:List (Addr×Obj)}{s:Shared}{σ:St}{H:Hp}{ρ:Rho}{Z:Mu}{Qd:DK}{N':List Str}{scope:Scope}{cl:List (Str×Addr)}{elt iter tg:Expr}{ifs:List Expr}{pos:Pos}{cap:List (Option Nat)}{src:DTI}{g:DTG}{c:DTT}{te:DTE}(hc:X.calm=X.calm)
  (hi:DI X tg iter src) (hg:∀fp bi bv,DG (aA X N' scope cl fp bi bv) tg g) (hif:∀fp bi bv,AY (aA X N' scope cl fp bi bv) ifs c) (he:∀fp bi bv,DE (aA X N' scope cl fp bi bv) elt te)
  (hclos:closureFor scope X.env=pure cl) (hcell:∀y∈scope.names,y.2≠.cell) (hkind:scope.kind = .function) (hnames:∀y∈scope.names,y.2 = .local->scope.names.lookup y.1=some .local)
  (hcl:∀x a,cl.lookup x=some a->X.env.cells.lookup x=some a) (hhas:∀x,(relabel scope X.env).names.lookup x=some .cell\/(relabel scope X.env).names.lookup x=some .free->∃a,cl.lookup x=some a)
  (hlen:cap.length=N'.length) (hcap:∀(i j:Nat) (x:Str),cap[i]? = some (some j)->N'[i]? = some x->X.N[j]? = some x/\Vis X.env.scope x/\X.env.kindOf x≠some .local/\((relabel scope X.env).names.lookup x=some .cell\/(relabel scope X.env).names.lookup x=some .free))
  (hs:∀x,foldedSetIterable iter X.env x=pure x )
  (I:Inv X pins σ H s) (S:St0 X.K H ρ Z σ) (h:D3 cap src g c te ρ Z Qd)
  (hend:∀(s4:Shared) (Hc:Hp) (C pa:Addr) (m:Str->Option Value) (acc:List PyData) (ln:Mu),s4.heap.Ns C m->nW X pins Hc C->(∀h',Heap.SameBut C s4.heap h'->Inv X pins σ Hc {s4 with heap:=h'}) ->
   Ext X.K Z H ln Hc->St0 X.K Hc ρ ln σ->RpD X.K ln Hc (.m pa) (.ref pa)->Qd (.m pa) ln->compPost (model X.prog X.w) X.A X.xe use QQ (.ref pa) C (.ok .next) s4) :
  wpAny (model X.prog X.w) X.A (comprehension (.ListComp elt [⟨tg,iter,ifs,0⟩] scope pos) scope X.env pos2 (newList []) false (eval iter X.env) use) QQ X.xe s:=by
 obtain⟨wi,pw,li⟩:=hi
 refine wpAny_comprehension_free rfl hs hclos hkind hnames (thn (pw pins s σ H _ I (li σ H ρ Z _ (fun J H1=>∃xs ad,Ext X.K Z H ad H1/\St0 X.K H1 ρ ad σ/\HY X.K J xs ad H1/\xs.length<=1000/\∀p,ad p=none->∃Pv:Nat->List PyData->Mu->Prop,Pv 0 [] (az ad p []) /\
   (∀i x acc U,xs[i]? = some x->U p=some acc->Pv i acc U->g (.v x) (bj cap ρ) U fun ci am=>Le (bj cap ρ) ci/\c ci am fun b be=>
    if b=true then te ci be fun d ce=>ce p=some acc/\(match d with|.v y=>Pv (i+1) (acc++[y]) (az ce p (acc++[y]))|_=>False) else be p=some acc/\Pv (i+1) acc be) /\
   (∀acc U,Pv xs.length acc U->U p=some acc->Qd (.m p) U)) S h (fun xs ad H1 J e1 S1 it q=>⟨xs,ad,e1,S1,it,q⟩)))
  fun v s1 h1=>thn h1 fun itv s2 h2=>?_)
 obtain⟨it,fp,tn,J,H2,rfl,I2,T,st2,f2,xs,ad,e1,S1,itok,hxs,allp⟩:=h2
 refine wpAny_newObj_type (wpAny_newFunctionEnv hcell (by intro y hy;simp at hy) (fun dl gV gl=>?_) hkind)
 dsimp only at gV gl ⊢
 have hfree2:H2 s2.heap.objs.size=none:=I2.hok.fresh (le_refl _)
 have hK2:X.K.lookup s2.heap.objs.size=none:=by
  cases z:X.K.lookup s2.heap.objs.size with
  |none=>rfl
  |some o=>exact absurd (Heap.lt_size (I2.kIn _ _ z)) (lt_irrefl _)
 have I3:Inv X pins σ (upd H2 s2.heap.objs.size (.lst [])) {s2 with heap:=s2.heap.push {cls:=.type "list",dict:=none,data:=.seq ([]:List Value).toArray}}:=
  I2.laid (t':=s2.toks) (fun b u e=>Heap.get?_push_of_some _ e) (le_refl _) ⟨zero_le _,[],0,.nil,Heap.get?_push_size _ rfl⟩
 generalize hH:s2.heap.push {cls:=.type "list",dict:=none,data:=.seq ([]:List Value).toArray} = hp3 at gV gl I3 ⊢
 have hsz3:hp3.objs.size=s2.heap.objs.size+1:=by rw[<- hH,Heap.size_push]
 have kept3:∀b o,hp3.get? b=some o->dl.get? b=some o:=fun b o e=>gl.extBut b o (ne_of_lt (Heap.lt_size e)) (Heap.get?_push_of_some _ e)
 have old3:∀b o,s2.heap.get? b=some o->hp3.get? b=some o:=fun b o e=>by rw[<- hH];exact Heap.get?_push_of_some _ e
 have fplt:∀b∈fp,b<s2.heap.objs.size:=fun b hb=>by obtain⟨o,e,_⟩:=T.obj 0 _ st2 b hb;exact Heap.lt_size e
 have fpst:∀b∈fp,b ∉ frs X.stack:=fun b hb hz=>by
  rcases List.mem_cons.mp (I2.iO b hz) with e|e
  ·exact (f2 b hb).2.1 e
  ·exact (f2 b hb).2.2.1 e
 obtain⟨s3,hs3⟩:∃s3:Shared,s3={s2 with heap:=hp3}:=⟨_,rfl⟩
 obtain⟨H3,hH3⟩:∃H3:Hp,H3=upd H2 s2.heap.objs.size (.lst []):=⟨_,rfl⟩
 have heap3:s3.heap=hp3:=by rw[hs3]
 rw[<- hH3] at I3
 have I3':Inv X pins σ H3 s3:=by rw[hs3];exact I3
 have hloc:H3 hp3.objs.size=none:=by have:=I3'.hok.fresh (a:=hp3.objs.size) (by rw[heap3];exact le_refl _);exact this
 have okc:(aA X N' scope cl fp s3 H3).Ok:=by
  refine⟨I3.ok.mod,?_,I3.ok.glob,I3.ok.blt,le_refl _,fun x y a h1 h2=>I3.ok.inj x y a (hcl x a h1) (hcl y a h2),fun x hx=>hhas x hx,fun x a h=>(nomatch h),I3.ok.hd,I3.ok.qt,I3.ok.frames,.inl rfl,fun b hb=>⟨?_,fun x a h=>(f2 b hb).2.2.2.2.1 x a (hcl x a h)⟩,
   I3'.bs,le_trans I3.ok.bsz I3'.sz,fun b o e hb=>?_,fun b hb=>fpst b hb,I3'.stack,I3'.p5⟩
  ·exact hkind
  ·show b≠s3.heap.objs.size
   rw[heap3,hsz3]
   exact ne_of_lt (lt_succ_of_lt (fplt b hb))
  ·rcases (f2 b hb).2.2.2.1 with z|z
   ·exact I3.ok.BS b o e z
   ·exact absurd (lt_of_lt_of_le (Heap.lt_size (I3.ok.bs b o e).1) z) (lt_irrefl _)
 have I4:Inv (aA X N' scope cl fp s3 H3) [] (bj cap σ) H3 {s2 with heap:=dl,toks:=s2.toks+([]:List (Str×Value)).length}:=by
  refine⟨okc,by show s2.os=s3.os;rw[hs3],I3.bare,Un.kept (by show ∀b o,s3.heap.get? b=some o->_;rw[heap3];exact kept3),⟨_,(by show dl.Ns s3.heap.objs.size _;rw[heap3];exact gV),fun i x v e1 e2 e3=>?_⟩,fun x a h=>?_,(by show H3 s3.heap.objs.size=none;rw[heap3];exact hloc),fun x a h=>I3.j3 x a (hcl x a h),fun p hp=>?_,I3.hok.kept kept3,?_⟩
  ·obtain⟨j,h1,h2⟩:=lO e2
   obtain⟨hN,hv,hnl,hk⟩:=hcap i j x h1 e1
   obtain⟨m,_,hl⟩:=I3.loc
   obtain⟨u,r,lk⟩:=hl j x v hN h2 hv
   refine⟨u,r,.inr ⟨hk,?_⟩⟩
   obtain⟨a,ha⟩:=hhas x hk
   rcases lk with ⟨z,_⟩|⟨_,a',z1,z2⟩
   ·exact absurd z hnl
   ·have:a'=a:=by have q:=hcl x a ha;rw[z1] at q;exact Option.some.inj q
    subst this
    obtain⟨o,ho,hd⟩:=z2
    exact⟨a',ha,o,kept3 _ _ ho,hd⟩
  ·obtain⟨v,o,ho,hd⟩:=I3.cell x a (hcl x a h)
   exact⟨v,o,kept3 _ _ ho,hd⟩
  ·have hp':p∈X.pn++pins:=mem_append_left _ (by simpa using (show p∈X.pn++[] from hp))
   obtain⟨z1,z2,z3,z4,z5⟩:=I3'.pin p hp'
   refine⟨kept3 _ _ (by rw[<- heap3];exact z1),z2,(show p.1≠s3.heap.objs.size from ne_of_lt (Heap.lt_size z1)),fun z=>?_,z5⟩
   rcases List.mem_cons.mp (I3'.iO p.1 z) with e|e
   ·exact z3 e
   ·exact z4 e
  ·show (bj cap σ).length=N'.length
   unfold bj
   rw[length_map]
   exact hlen
 have lf:ad s2.heap.objs.size=none:=S1.mu.free hfree2
 obtain⟨Pv,pv0,body,fin⟩:=allp s2.heap.objs.size lf
 have loop:codeAny (model X.prog X.w) X.A (.compLoop (.ListComp elt [⟨tg,iter,ifs,0⟩] scope pos) 0 (.ref it) (.ref s2.heap.objs.size) (aA X N' scope cl fp s3 H3).env)
   (compPost (model X.prog X.w) X.A X.xe use QQ (.ref s2.heap.objs.size) hp3.objs.size) {s2 with heap:=dl,toks:=s2.toks+([]:List (Str×Value)).length}:=by
  refine gc (fun n s'=>∃(i:Nat) (db:St) (Hc:Hp) (acc:List PyData) (ge:Mu),n=xs.length-i/\i<=xs.length/\Inv (aA X N' scope cl fp s3 H3) [] db Hc s'/\tn i s'.heap/\(∀b∈fp,Hc b=none) /\
   acc.length<=i/\ge s2.heap.objs.size=some acc/\Pv i acc ge/\St0 X.K Hc (bj cap ρ) ge db/\Ext X.K ad H2 ge Hc) ?_ xs.length
   ⟨0,bj cap σ,H3,[],az ad s2.heap.objs.size [],by simp,zero_le _,I4,T.keep 0 _ _ st2 (fun b hb o e=>kept3 b o (old3 b o e)),fun b hb=>?_,le_refl _,aI,pv0,?_,?_⟩
  ·rintro n s' ⟨i,db,Hc,acc,ge,rfl,hi,Ic,tc,frc,hal,hpa,pvi,Sc,Ec⟩
   have stat:∀{Hd:Hp},(∀b∈fp,Hd b=none)->∀b∈fp,nW (aA X N' scope cl fp s3 H3) [] Hd b:=fun hn b hb=>
    ⟨hn b hb,(okc.exf b hb).1,fpst b hb,.inl hb,fun x a h=>(okc.exf b hb).2 x a h,fun p hp=>(f2 b hb).2.2.2.2.2 p (mem_append_left _ (by simpa using (show p∈X.pn++[] from hp)))⟩
   obtain⟨go,stop⟩:=itok _ Hc Ec Sc.mu i
   by_cases hlt:i<xs.length
   ·obtain⟨g1,y1⟩:=go hlt
    refine thn (T.item (aA X N' scope cl fp s3 H3) rfl rfl rfl (fun z=>z) i [] s' db Hc (fun _ _=>False) Ic (stat frc) tc g1) fun r s4 hq0=>?_
    obtain⟨u,hr,h4⟩:=hq0
    subst hr
    refine thn h4 fun _ s5 hq0=>?_
    obtain⟨x,H5,I5,r5,y5,st5,fr5⟩:=hq0
    obtain⟨d,hd,sm,rd⟩:=y1 x H5 y5
    have I5':=I5.pinned (stat fr5) (T.obj _ _ st5)
    have e5:Ext X.K _ Hc _ H5:=.of_same (Z:=ge) sm
    have S5:St0 X.K H5 (bj cap ρ) ge db:=⟨Sc.mu.FJ e5 sm,Sc.rho.ext Sc.mu e5⟩
    obtain⟨gt,pg,lg⟩:=hg fp s3 H3
    refine thn (pg _ s5 db H5 x u (fun bn H'=>∃bm U,Ext X.K ge H5 U H'/\St0 X.K H' bm U bn/\Le (bj cap ρ) bm/\c bm U fun b be=>
      if b=true then te bm be fun d' ce=>ce s2.heap.objs.size=some acc/\(match d' with|.v y=>Pv (i+1) (acc++[y]) (az ce s2.heap.objs.size (acc++[y]))|_=>False) else be s2.heap.objs.size=some acc/\Pv (i+1) acc be) I5' r5
     (lg db H5 (bj cap ρ) _ (.v d) x _ _ S5 rd (body i d acc ge hd hpa pvi) fun bn bm U H' e' S' q=>⟨bm,U,e',S',q⟩)) fun _ s6 ⟨ga,H6,I6,jp,ld,e6,S6,le6,q6⟩=>?_
    refine thn (hif fp s3 H3 _ s6 ga H6 jp ld _ (fun b H'=>∃U,Ext X.K ld H6 U H'/\St0 X.K H' jp U ga/\if b=true then te jp U fun d' ce=>ce s2.heap.objs.size=some acc/\(match d' with|.v y=>Pv (i+1) (acc++[y]) (az ce s2.heap.objs.size (acc++[y]))|_=>False) else U s2.heap.objs.size=some acc/\Pv (i+1) acc U)
     I6 S6 q6 fun b U H' e' S' q=>⟨U,e',S',q⟩) fun b s7 ⟨H7,I7,lw,e7,S7,q7⟩=>?_
    have again:∀{H9:Hp} {s9:Shared} {acc':List PyData} {pd:Mu},Inv (aA X N' scope cl fp s3 H3) ([]++oG fp s5.heap) ga H9 s9->acc'.length<=i+1->pd s2.heap.objs.size=some acc'->Pv (i+1) acc' pd->bG X.K pd H9->gG X.K pd H9 (bj cap ρ) ga ->
      Ext X.K ad H2 pd H9->∃m,m<xs.length-i/\∃(i:Nat) (db:St) (Hc:Hp) (acc:List PyData) (ge:Mu),m=xs.length-i/\i<=xs.length/\Inv (aA X N' scope cl fp s3 H3) [] db Hc s9/\tn i s9.heap/\(∀b∈fp,Hc b=none) /\
       acc.length<=i/\ge s2.heap.objs.size=some acc/\Pv i acc ge/\St0 X.K Hc (bj cap ρ) ge db/\Ext X.K ad H2 ge Hc:=fun {H9 s9 acc' pd} I9 l9 p9 v9 m9 r9 e9=>by
     refine⟨xs.length-(i+1),∅,i+1,ga,H9,acc',pd,rfl,hlt,I9.dS,T.keep _ _ _ st5 fun b hb o e=>(I9.pin (b,o) (mem_append_right _ (mem_append_right _ (bD hb e)))).1,fun b hb=>?_,l9,p9,v9,⟨m9,r9⟩,e9⟩
     obtain⟨o,e,_⟩:=T.obj _ _ st5 b hb
     exact (I9.pin (b,o) (mem_append_right _ (mem_append_right _ (bD hb e)))).2.1
    cases b with
    |false=>
     have q8:lw s2.heap.objs.size=some acc/\Pv (i+1) acc lw:=by simpa using q7
     refine xP ?_
     exact again I7 ∅ q8.1 q8.2 S7.mu (S7.rho.le le6) (Ec.trans (e5.trans (e6.trans e7)))
    |true=>
     refine zI ?_
     obtain⟨t8,p8,l8⟩:=he fp s3 H3
     refine thn (p8 _ s7 ga H7 (fun v H'=>∃y kw,Ext X.K lw H7 kw H'/\St0 X.K H' jp kw ga/\Rp X.K kw H' y v/\kw s2.heap.objs.size=some acc/\Pv (i+1) (acc++[y]) (az kw s2.heap.objs.size (acc++[y]))) I7
      (l8 ga H7 jp lw _ _ S7 (by simpa using q7) fun d' v kw H8 e8 S8 r8 q8=>?_)) fun v s8 ⟨v8,H8,I8,r8,y,kw,e8,S8,ry,pa8,fy⟩=>?_
     ·obtain⟨q80,q8⟩:=q8
      cases d' with
      |v y=>exact⟨y,kw,e8,S8,r8,q80,q8⟩
      |m _=>exact q8.elim
      |s _=>exact q8.elim
      |o _=>exact q8.elim
      |b _=>exact q8.elim
      |q _=>exact q8.elim
     ·obtain⟨us,hacc,rus⟩:=S8.mu s2.heap.objs.size _ pa8
      have hle:acc.length<=1000:=by omega
      refine thn (lh (X:=aA X N' scope cl fp s3 H3) _ s8 ga H8 (.ref s2.heap.objs.size) [v8] (.ref s2.heap.objs.size) [v] (fun _ H'=>H'=upd H8 s2.heap.objs.size (.lst (us++[v8]))) I8 rfl (.cons r8 .nil) ⟨_,us,v8,rfl,rfl,hacc,by rw[<- rus.length];exact d0 hle,rfl⟩) fun _ s9 hq0=>?_
      obtain⟨_,H9,I9,_,e9⟩:=hq0
      subst e9
      have ex:Ext X.K kw H8 (az kw s2.heap.objs.size (acc++[y])) (upd H8 s2.heap.objs.size (.lst (us++[v8]))):=gh pa8
      exact again I9 (by rw[length_append,List.length_singleton];omega) aI fy (S8.mu.set pa8 (rus.append (.cons ry .nil))) ((S8.rho.le le6).ext S8.mu ex) (Ec.trans (e5.trans (e6.trans (e7.trans (e8.trans ex)))))
   ·have ei:i=xs.length:=by omega
    subst ei
    refine thn (T.done (aA X N' scope cl fp s3 H3) rfl rfl rfl (fun z=>z) _ [] s' db Hc (fun _ _=>False) Ic (stat frc) tc (stop rfl)) fun r s4 hq0=>?_
    obtain⟨hr,I5⟩:=hq0
    subst hr
    obtain⟨m,hn,_⟩:=I5.loc
    have hcC:Hc hp3.objs.size=none:=by have z:Hc s3.heap.objs.size=none:=I5.free;rw[heap3] at z;exact z
    obtain⟨us,hacc,rus⟩:=Sc.mu s2.heap.objs.size _ hpa
    refine hend s4 Hc hp3.objs.size s2.heap.objs.size m acc ge (by have z:s4.heap.Ns s3.heap.objs.size m:=hn;rw[heap3] at z;exact z) (I2.HP (by rw[hsz3];exact Nat.le_succ _) hcC) (fun h' hs'=>?_) (e1.trans Ec) ⟨Sc.mu,S1.rho.ext S1.mu Ec⟩ ⟨rfl,acc,hpa⟩ (fin acc ge pvi hpa)
    have kp:∀b o,b<s2.heap.objs.size->s4.heap.get? b=some o->h'.get? b=some o:=fun b o hb e=>hs'.extBut b o (by rw[hsz3];exact ne_of_lt (lt_succ_of_lt hb)) e
    have hok':HOk X.prog X.w Hc h':=fun b ob e=>by
     refine (I5.hok b ob e).sC (fun cc v hcc q=>hs'.extBut cc v ?_ q) (fun _ q=>q) fun _ _ q=>q
     rintro rfl
     rcases hcc with z|z
     ·rw[<- z,hcC] at e;cases e
     ·rw[hcC] at z;cases z
    have u1:Un (frs X.stack) fp H2 H3 s2.heap s3.heap:=by rw[heap3,hH3];exact Un.laid old3 (le_refl _) hfree2
    have u2:Un (frs X.stack) fp H3 Hc s3.heap s4.heap:=I5.base
    exact I2.zj (ch:=fp) (by show s4.os=s2.os;have z:s4.os=s3.os:=I5.os;rw[z,hs3]) (Un.after (u1.trans u2) kp) hok' I5.bare fun b hb=>⟨(f2 b hb).2.2.2.1,(f2 b hb).2.1,(f2 b hb).2.2.2.2.1,(f2 b hb).2.2.2.2.2⟩
  ·have z:b≠s2.heap.objs.size:=ne_of_lt (fplt b hb)
   rw[hH3,aV z]
   exact (f2 b hb).1
  ·have ex:=eP (o:=.lst []) (ds:=[]) S1.mu hfree2 hK2
   rw[hH3]
   exact⟨S1.mu.mut .nil hfree2 hK2,(S1.rho.ext S1.mu ex).cap⟩
  ·rw[hH3]
   exact eP (o:=.lst []) (ds:=[]) S1.mu hfree2 hK2
 have envE:(aA X N' scope cl fp s3 H3).env=compEnvC scope cl hp3.objs.size X.env:=by show compEnvC scope cl s3.heap.objs.size X.env=_;rw[heap3]
 rw[envE] at loop
 exact codeAny_compStart_list loop (T.self X.A 0 _ _ _ (T.keep 0 _ _ st2 (fun b hb o e=>kept3 b o (old3 b o e))) loop)
theorem Mw{X:Cx}{N':List Str}{scope:Scope}{cl:List (Str×Addr)}{elt iter tg:Expr}{ifs:List Expr}{pos:Pos}{cap:List (Option Nat)}{src:DTI}{g:DTG}{c:DTT}{te:DTE}(hc:X.calm=X.calm)
  (hi:DI X tg iter src) (hg:∀fp bi bv,DG (aA X N' scope cl fp bi bv) tg g) (hif:∀fp bi bv,AY (aA X N' scope cl fp bi bv) ifs c) (he:∀fp bi bv,DE (aA X N' scope cl fp bi bv) elt te)
  (hclos:closureFor scope X.env=pure cl) (hcell:∀y∈scope.names,y.2≠.cell) (hkind:scope.kind = .function) (hnames:∀y∈scope.names,y.2 = .local->scope.names.lookup y.1=some .local)
  (hcl:∀x a,cl.lookup x=some a->X.env.cells.lookup x=some a) (hhas:∀x,(relabel scope X.env).names.lookup x=some .cell\/(relabel scope X.env).names.lookup x=some .free->∃a,cl.lookup x=some a)
  (hlen:cap.length=N'.length) (hcap:∀(i j:Nat) (x:Str),cap[i]? = some (some j)->N'[i]? = some x->X.N[j]? = some x/\Vis X.env.scope x/\X.env.kindOf x≠some .local/\((relabel scope X.env).names.lookup x=some .cell\/(relabel scope X.env).names.lookup x=some .free))
  (hs:∀x,foldedSetIterable iter X.env x=pure x:=by intro _;rfl):DE X (.ListComp elt [⟨tg,iter,ifs,0⟩] scope pos) (D3 cap src g c te):=by
 refine Ja fun pins s σ H ρ Z Qd Q I S h k=>?_
 rw[eval_ListComp]
 refine HJ hc hi hg hif he hclos hcell hkind hnames hcl hhas hlen hcap hs I S h fun s4 Hc C pa m acc ln hn _ hI e1 S1 r q=>?_
 exact⟨m,hn,fun h' hs'=>⟨.ref pa,Hc,hI h' hs',rfl,k (.m pa) _ ln Hc e1 S1 r q⟩⟩
theorem OM{cap:List (Option Nat)}{src:DTI}{g:DTG}{t:DTT}{ta:DTE}{ρ:Rho}{Z:Mu}{Q:DK}:D3 cap src g t ta ρ Z Q=src ρ Z fun xs ad=>xs.length<=1000/\∀p,ad p=none->∃Pv:Nat->List PyData->Mu->Prop,Pv 0 [] (az ad p []) /\
 (∀i x acc U,xs[i]? = some x->U p=some acc->Pv i acc U->g (.v x) (bj cap ρ) U fun ci am=>Le (bj cap ρ) ci/\t ci am fun b be=>
  if b=true then ta ci be fun d ce=>ce p=some acc/\(match d with|.v y=>Pv (i+1) (acc++[y]) (az ce p (acc++[y]))|_=>False) else be p=some acc/\Pv (i+1) acc be) /\
 (∀acc U,Pv xs.length acc U->U p=some acc->Q (.m p) U):=propext Iff.rfl
def ML(cells:List (Str×Addr)):List (Str×Addr)->Prop
 |[]=>True
 |(k,v)::r=>cells.lookup k=some v/\ML cells r
theorem EY{cells:List (Str×Addr)}:ML cells []:=trivial
theorem gD{cells r:List (Str×Addr)}{k:Str}{v:Addr}(h:cells.lookup k=some v)(t:ML cells r):ML cells ((k,v)::r):=⟨h,t⟩
theorem rW{cells:List (Str×Addr)}:∀{cl:List (Str×Addr)},ML cells cl->∀x a,cl.lookup x=some a->cells.lookup x=some a
 |[],_,_,_,h=>by simp at h
 |(k,v)::r,c,x,a,h=>by
  rw[lookup_cons] at h
  cases e:x==k with
  |true=>
   have e':x=k:=by simpa using e
   rw[e] at h
   subst e'
   rw[c.1];exact h
  |false=>
   rw[e] at h
   exact rW c.2 x a h
abbrev DTX:=Rho->Mu->(Mu->Prop)->Prop
abbrev XSp:=List D->Mu->(Mu->Prop)->Prop
end L2.DL
namespace L2
open PySem PySem.Spec PyProof.Rows DL
noncomputable def Ts(tabs:List Addr)(H:Hp):Prop:=∀b,H b=none\/(∃o xs,H b=some (.frz o (.lst xs)))\/(b∈tabs/\H b=some (.tbl #[]))
theorem Kj{P:Program}{w:World}{K:PySem.W.Frag}{mg mb:Str->Option Value}{CX:CXT}{k:Nat}{fa a:Addr}{fd:FuncData}{x:Str}{sp:Sp}{ca:Shared}{vs:List Value}{ns:List Int}(tabs:List Addr)
  (hT:∀p∈tabs,ca.heap.get? p=some (PySem.W.tabObj #[])/\K.lookup p=none) (hA2:∀c o p q,K.lookup c=some o->cV o=some (p,q)->p∈tabs) (hC:∀p∈tabs,isCodeTable ca.heap p)
  (KX:K.In ca.heap) (hns:ca.heap.Ns mainGlobals mg) (hb:ca.heap.Ns builtinsNs mb) (hbb:∀x:Str,x ≠ "__name__"->mb x=bootBuiltins x) (hlim:ca.heap.NoLimit) (hg:ca.gens = #[])
  (ha:ca.heap.get? a=some {cls:=.type "list",data:=.seq vs.toArray}) (hi:IntsAre vs ns) (hl:ns.length<=sizeLine) (hr:mC k callerA)
  (F:∀base:Heap,K.In base->base.Ns mainGlobals mg->bu P w K mg base CX k fa fd [x] sp) (hbind:∀(s:Shared) (u:Value),BindsTo s fd ⟨[u],[]⟩ [(x,u)])
  (hsp:∀H:Hp,FI K H->SqL K H a (ns.map V.int)->sp [.ref a] H (fun v _=>v = .bl true) fun _ _ _=>False)
  (hCX:∀H e s',CX [] H ca (fun _ _ _=>False) e s'->False) :
  codeAny (model P w) callerA (.call (.ref fa) ⟨[.ref a],[]⟩) (fun r s'=>r = .ok (.ret (.bool true))/\OldK ca.heap s'.heap/\s'.os=ca.os/\AllBare s'.gens) ca:=by
 have rv:=BA hi
 have lenV:=hi.length
 have ant:a ∉ tabs:=fun z=>by have:=(hT a z).1;rw[ha] at this;cases this
 have core:∀H:Hp,Ts tabs H->SqL K H a (ns.map V.int)->HOk P w H ca.heap->(∀b,H b≠none->b=a\/b∈tabs)->(H a≠none->K.lookup a=none)->(∀p∈tabs,H p=some (.tbl #[])) ->
   codeAny (model P w) callerA (.call (.ref fa) ⟨[.ref a],[]⟩) (fun r s'=>r = .ok (.ret (.bool true))/\OldK ca.heap s'.heap/\s'.os=ca.os/\AllBare s'.gens) ca:=by
  intro H hO hS hok hA hK hP
  have base_of:∀{b:Addr} {o:Obj},ca.heap.get? b=some o->H b=none->(Dz ca.heap H).get? b=some o:=fun e n=>MR e n
  have noA:∀{b:Addr} {o:Obj} {es:Array DictEntry} {ep:Nat},ca.heap.get? b=some o->o.data = .dict es ep->H b=none:=fun {b o es ep} e d=>by
   cases q:H b with
   |none=>rfl
   |some u=>
    rcases hA b (by rw[q];simp) with e'|e'
    ·subst e'
     rw[ha] at e;cases e
     have d':Data.seq vs.toArray _=Data.dict es ep:=d
     cases d'
    ·rw[(hT b e').1] at e;cases e
     have d':Data.fields #[]=Data.dict es ep:=d
     cases d'
  have nsK:∀{b:Addr} {m:Str->Option Value},ca.heap.Ns b m->(Dz ca.heap H).Ns b m:=fun {b m} ⟨o,es,ep,e,d,r⟩=>⟨o,es,ep,base_of e (noA e d),d,r⟩
  have hKb:K.In (Dz ca.heap H):=fun b o e=>base_of (KX b o e) (by
   cases q:H b with
   |none=>rfl
   |some u=>
    rcases hA b (by rw[q];simp) with e'|e'
    ·subst e'
     rw[hK (by rw[q];simp)] at e;cases e
    ·have e2:=e;rw[show K.lookup b=none from (hT b e').2] at e2;cases e2)
  have hM:Mod K mg (Dz ca.heap H):=⟨hKb,nsK hns,⟨mb,nsK hb,hbb⟩,let ⟨mc,h1,h2⟩:=hlim;⟨mc,nsK h1,h2⟩⟩
  have e0:OH P w K mg (Dz ca.heap H) callerA [] ca H:=⟨rfl,hM,fun b o e=>NX e,Nat.le_of_eq (KY _ _),trivial,fun b hb=>absurd (show b∈([]:List Addr) from hb) (by simp),hok,.of_eq hg⟩
  have tb:FI K H:=fun c o p q h1 h2=>⟨#[],hP p (hA2 c o p q h1 h2),trivial,fun pos cv e=>by simp[codeAmong] at e⟩
  refine codeAny_mono ((F _ hKb (nsK hns)).run callerA [] ca H ⟨[.ref a],[]⟩ [.ref a] [.ref a] _ _ hr e0 (hbind ca (.ref a)) (.cons rfl .nil) (hsp H tb hS)) fun r s' h=>?_
  cases r with
  |error e=>exact (hCX H e s' h).elim
  |ok fl=>
   cases fl with
   |next=>exact False.elim h
   |brk=>exact False.elim h
   |cont=>exact False.elim h
   |ret u=>
    obtain⟨v,H',os,bare,un,hok',r',q⟩:=h
    have q':v = .bl true:=q
    subst q'
    obtain rfl:u=Value.bool true:=r'
    refine⟨rfl,⟨fun b o e=>?_,fun b o e=>un.there b o e (by simp)⟩,os,bare⟩
    cases q:H b with
    |none=>exact .inl (un.keep b o e q (by intro z;exact absurd (show b∈([]:List Addr) from z) (by simp)) (by simp))
    |some u=>
     rcases hO b with z|⟨ob,xs,z⟩|⟨zt,z⟩
     ·rw[q] at z;cases z
     ·have z2:=un.uf b ob _ z
      obtain⟨e1,_⟩:=hok b _ z
      obtain⟨e2,_⟩:=hok' b _ z2
      rw[e] at e1;cases e1
      exact .inl e2
     ·obtain⟨more,z2⟩:=un.vj b _ z
      have e2:s'.heap.get? b=some {cls:=.none,data:=.fields (#[]++more)}:=hok' b _ z2
      have e1:=(hT b zt).1
      rw[e] at e1;cases e1
      exact .inr (.inl ⟨hC b zt,rfl,#[],more,rfl,e2⟩)
 have okT:∀p∈tabs,ca.heap.get? p=some {cls:=.none,data:=.fields #[]}:=fun p hp=>(hT p hp).1
 cases hk:K.lookup a with
 |some o=>
  have e:=KX a o hk
  rw[ha] at e
  cases e
  refine core (fun b=>if b∈tabs then some (.tbl #[]) else none) (fun b=>?_) (.inr ⟨_,vs.toArray,_,hk,rfl,rfl,rfl,by rw[size_toArray,lenV];exact hl,by simpa using rv⟩) (fun b u z=>?_) (fun b z=>?_) (fun z=>absurd (if_neg ant) z) (fun p hp=>if_pos hp)
  ·by_cases hb:b∈tabs
   ·exact .inr (.inr ⟨hb,if_pos hb⟩)
   ·exact .inl (if_neg hb)
  ·by_cases hb:b∈tabs
   ·have z':=(if_pos hb).symm.trans z;cases z';exact okT b hb
   ·have z':=(if_neg hb).symm.trans z;cases z'
  ·by_cases hb:b∈tabs
   ·exact .inr hb
   ·exact absurd (if_neg hb) z
 |none=>
  refine core (fun b=>if b=a then some (.frz {cls:=.type "list",data:=.seq vs.toArray} (.lst (ns.map V.int))) else if b∈tabs then some (.tbl #[]) else none) (fun b=>?_) (.inl (.inr ⟨{cls:=.type "list",data:=.seq vs.toArray},if_pos rfl⟩)) (fun b u z=>?_) (fun b z=>?_) (fun _=>hk) (fun p hp=>by
   have:p≠a:=fun y=>ant (by rw[<- y];exact hp)
   exact (if_neg this).trans (if_pos hp))
  ·by_cases hb:b=a
   ·exact .inr (.inl ⟨_,_,if_pos hb⟩)
   ·by_cases hb2:b∈tabs
    ·exact .inr (.inr ⟨hb2,(if_neg hb).trans (if_pos hb2)⟩)
    ·exact .inl ((if_neg hb).trans (if_neg hb2))
  ·by_cases hb:b=a
   ·have z':=(if_pos hb).symm.trans z
    cases z'
    subst hb
    exact⟨ha,by rw[length_map];exact hl,vs,_,rv,ha⟩
   ·by_cases hb2:b∈tabs
    ·have z':=((if_neg hb).trans (if_pos hb2)).symm.trans z;cases z';exact okT b hb2
    ·have z':=((if_neg hb).trans (if_neg hb2)).symm.trans z;cases z'
  ·by_cases hb:b=a
   ·exact .inl hb
   ·by_cases hb2:b∈tabs
    ·exact .inr hb2
    ·exact absurd ((if_neg hb).trans (if_neg hb2)) z
theorem Lx{l:PySem.W.OpenLaw}{n k:Nat}{q:Program}{loose:List Str}{XP:(Str->Option Value)->Heap->Prop}{YP:World->Heap->Prop}{d:DefRec}{K:Params->PySem.W.Frag}{CX:World->CXT}{sp:World->Sp}{x:Str}(tabs:List Addr)
  (hn:l.most=some n) (hn2:n<=sizeLine) (hdf:d.params.defaults=[]) (hr:mC k callerA)
  (hY:∀(w:World) (h:Heap),YP w h->(K w.params).In h/\(∀p∈tabs,h.get? p=some (PySem.W.tabObj #[])/\(K w.params).lookup p=none)/\(∀p∈tabs,isCodeTable h p))
  (hA2:∀(w:World) c o p q,(K w.params).lookup c=some o->cV o=some (p,q)->p∈tabs)
  (F:∀(w:World) (mg:Str->Option Value) (fa:Addr) (h:Heap),(K w.params).In h->h.Ns mainGlobals mg->mg d.name=some (.ref fa) ->
   ∃fd:FuncData,(∀(s:Shared) (u:Value),BindsTo s fd ⟨[u],[]⟩ [(x,u)]) /\
    ∀base:Heap,(K w.params).In base->base.Ns mainGlobals mg->bu l.prog w (K w.params) mg base (CX w) k fa fd [x] (sp w))
  (hsp:∀(w:World) (H:Hp) (a:Addr) (ns:List Int),ns.length<=n->FI (K w.params) H->SqL (K w.params) H a (ns.map V.int)->sp w [.ref a] H (fun v _=>v = .bl true) fun _ _ _=>False)
  (hCX:∀(w:World) (H:Hp) (s:Shared) (e:Value) (s':Shared),CX w [] H s (fun _ _ _=>False) e s'->False) :
  PySem.W.WalkO q loose XP YP l.row.toRowW d [] (fun f vs=>PySem.call f vs):=by
 refine Att.ED hn hdf fun w io ca mg mb fa o pm cd doc a vs ns G Y ho hd hcd hmg hobj hints hlen hg=>?_
 obtain⟨KX,hT,hC⟩:=hY w _ Y
 obtain⟨fd,hb,hF⟩:=F w mg fa _ KX G.T.g hmg
 exact Kj tabs hT (hA2 w) hC KX G.T.g G.T.b G.T.builtins G.T.nolimit hg hobj hints (le_trans hlen hn2) hr hF hb (fun H hO hS=>hsp w H a ns hlen hO hS) fun H e s'=>hCX w H ca e s'
end L2
namespace L2.DL
open PySem PySem.Spec PyProof.Rows
theorem OU{K:PySem.W.Frag}{l:List (Addr×Str)}(h:(K.filterMap fun p=>cV p.2)=l){c:Addr}{o:Obj}{P:Addr}{q:Str}(e:K.lookup c=some o)(e2:cV o=some (P,q)):(P,q)∈l:=by
 rw[<- h]
 have mem:∀(L:List (Addr×Obj)),List.lookup c L=some o->(c,o)∈L:=fun L=>by
  induction L with
  |nil=>intro z;cases z
  |cons a r ih=>
   intro z
   rw[lookup_cons] at z
   by_cases y:c=a.1
   ·rw[y] at z ⊢;simp at z;rw[<- z];exact mem_cons_self
   ·rw[show (c==a.1)=false from by simpa using y] at z
    exact mem_cons_of_mem _ (ih z)
 exact List.mem_filterMap.mpr ⟨(c,o),mem K e,e2⟩
theorem Be{K:PySem.W.Frag}{h:Heap}{c P:Addr}{o:Obj}{q:Str}(X:K.In h)(l:K.lookup c=some o)(e:cV o=some (P,q)):isCodeTable h P:=by
 have ho:=X _ _ l
 unfold cV at e
 split at e
 ·rename_i cn vs hcls hd
  split at e
  ·rename_i hcn
   subst hcn
   split at e
   ·rename_i e11 e18
    split at e
    ·cases e
     exact⟨c,o,vs,ho,hcls,hd,by assumption⟩
    ·cases e
   ·cases e
  ·cases e
 ·cases e
theorem JE{K:PySem.W.Frag}{c P:Addr}{q:Str}(h:(K.lookup c).bind cV=some (P,q)):∃o,K.lookup c=some o/\cV o=some (P,q):=Option.bind_eq_some_iff.mp h
theorem Eb{K T:PySem.W.Frag}{h:Heap}(X:PySem.W.Frag.In (K++T) h):K.In h:=fun b o e=>X b o (by
 show List.lookup b (K++T)=some o
 rw[List.lookup_append,show List.lookup b K=some o from e];rfl)
section
noncomputable def Ph(K:PySem.W.Frag)(J:It)(xs:List PyData)(ad:Mu)(H1:Hp):Prop:=∀am H2,Ext K ad H1 am H2->bG K am H2->(∀a ds,ad a=some ds->am a=some ds)->∀i,(i<xs.length->J.go i H2/\∀x H',J.yld i H2 x H'->∃d,xs[i]? = some d/\yf H2 H'/\Rp K am H' d x)/\(i=xs.length->J.stop i H2)
noncomputable def Qm(K:PySem.W.Frag)(wi:TI)(src:DTI):Prop:=∀(σ:St) (H:Hp) (ρ:Rho) (Z:Mu) (Qd:List PyData->Mu->Prop) (R:It->Hp->Prop),St0 K H ρ Z σ->src ρ Z Qd ->
 (∀xs ad H1 J,Ext K Z H ad H1->St0 K H1 ρ ad σ->Ph K J xs ad H1->Qd xs ad->R J H1)->wi σ H R
noncomputable def DIW(X:Cx)(tg iter:Expr)(src:DTI):Prop:=∃wi,PI X tg iter wi/\Qm X.K wi src
noncomputable def diM(te:DTE):DTI:=fun ρ Z Q=>te ρ Z fun d ad=>match d with
 |.m l=>∃xs,ad l=some xs/\Q xs ad
 |_=>False
theorem Ti{te:DTE}{ρ:Rho}{Z:Mu}{Q:List PyData->Mu->Prop}:diM te ρ Z Q=te ρ Z fun d ad=>match d with
 |.m l=>∃xs,ad l=some xs/\Q xs ad
 |_=>False:=propext Iff.rfl
theorem R6{X:Cx}{e tg:Expr}{te:DTE}(h:DE X e te):DIW X tg e (diM te):=by
 obtain⟨t1,p1,l1⟩:=h
 refine⟨_,Jb p1,fun σ H ρ Z Qd R S h k=>?_⟩
 refine l1 σ H ρ Z _ _ S h fun d u ad H1 e1 S1 r h1=>?_
 split at h1
 ·rename_i l
  obtain⟨xs,hl,h1⟩:=h1
  obtain⟨rfl,_⟩:=r
  obtain⟨us0,hus0,_⟩:=S1.mu l xs hl
  refine⟨l,rfl,⟨us0,SqL.of hus0⟩,k xs ad H1 _ e1 S1 (fun am H2 e2 ok2 st i=>?_) h1⟩
  obtain⟨us,hus,ra⟩:=ok2 l xs (st l xs hl)
  refine⟨fun hi=>?_,fun hi=>⟨us,SqL.of hus,by rw[<- ra.length];omega⟩⟩
  have hiu:i<us.length:=by rw[<- ra.length];exact hi
  refine⟨⟨us,us[i],SqL.of hus,by simp[hiu]⟩,fun x H' hq0=>?_⟩
  obtain⟨eH,hx⟩:=hq0
  subst eH
  obtain⟨u',h1',h2'⟩:=ra.get (i:=i) (d:=xs[i]) (by simp[hi])
  have:=hx us (SqL.of hus)
  rw[h1'] at this
  cases this
  exact⟨xs[i],by simp[hi],yf.refl _,h2'⟩
 ·exact h1.elim
theorem fJ{X:Cx}{N':List Str}{scope:Scope}{cl:List (Str×Addr)}{elt iter tg:Expr}{ifs:List Expr}{pos:Pos}{cap:List (Option Nat)}{src:DTI}{g:DTG}{c:DTT}{te:DTE}(hc:X.calm=X.calm)
  (hi:DIW X tg iter src) (hg:∀fp bi bv,DG (aA X N' scope cl fp bi bv) tg g) (hif:∀fp bi bv,AY (aA X N' scope cl fp bi bv) ifs c) (he:∀fp bi bv,DE (aA X N' scope cl fp bi bv) elt te)
  (hclos:closureFor scope X.env=pure cl) (hcell:∀y∈scope.names,y.2≠.cell) (hkind:scope.kind = .function) (hnames:∀y∈scope.names,y.2 = .local->scope.names.lookup y.1=some .local)
  (hcl:∀x a,cl.lookup x=some a->X.env.cells.lookup x=some a) (hhas:∀x,(relabel scope X.env).names.lookup x=some .cell\/(relabel scope X.env).names.lookup x=some .free->∃a,cl.lookup x=some a)
  (hlen:cap.length=N'.length) (hcap:∀(i j:Nat) (x:Str),cap[i]? = some (some j)->N'[i]? = some x->X.N[j]? = some x/\Vis X.env.scope x/\X.env.kindOf x≠some .local/\((relabel scope X.env).names.lookup x=some .cell\/(relabel scope X.env).names.lookup x=some .free))
  (hs:∀x,foldedSetIterable iter X.env x=pure x:=by intro _;rfl):DE X (.ListComp elt [⟨tg,iter,ifs,0⟩] scope pos) (oF cap src g c te):=by
 refine Ja fun pins s σ H ρ Z Qd Q I S h k=>?_
 obtain⟨wi,pw,li⟩:=hi
 rw[eval_ListComp]
 refine wpAny_comprehension_free (use:=none) rfl hs hclos hkind hnames (thn (pw pins s σ H _ I (li σ H ρ Z _ (fun J H1=>∃xs ad,Ext X.K Z H ad H1/\St0 X.K H1 ρ ad σ/\Ph X.K J xs ad H1/\xs.length<=1000/\∃f:PyData->Option PyData,
   (∀x∈xs,∀U:Mu,(∀a ds,ad a=some ds->U a=some ds)->g (.v x) (bj cap ρ) U fun ci am=>Le (bj cap ρ) ci/\c ci am fun b be=>
    if b=true then te ci be fun d ce=>ce=U/\(match d with|.v y=>f x=some y|_=>False) else be=U/\f x=none)/\Qd (.v (.list (xs.filterMap f))) ad) S h (fun xs ad H1 J e1 S1 it q=>⟨xs,ad,e1,S1,it,q⟩)))
  fun v s1 h1=>thn h1 fun itv s2 h2=>?_)
 obtain⟨it,fp,tn,J,H2,rfl,I2,T,st2,f2,xs,ad,e1,S1,itok,hxs,f,body,fin⟩:=h2
 refine wpAny_newObj_type (wpAny_newFunctionEnv hcell (by intro y hy;simp at hy) (fun dl gV gl=>?_) hkind)
 dsimp only at gV gl ⊢
 have hfree2:H2 s2.heap.objs.size=none:=I2.hok.fresh (le_refl _)
 have hK2:X.K.lookup s2.heap.objs.size=none:=by
  cases z:X.K.lookup s2.heap.objs.size with
  |none=>rfl
  |some o=>exact absurd (Heap.lt_size (I2.kIn _ _ z)) (lt_irrefl _)
 have I3:Inv X pins σ (upd H2 s2.heap.objs.size (.lst [])) {s2 with heap:=s2.heap.push {cls:=.type "list",dict:=none,data:=.seq ([]:List Value).toArray}}:=
  I2.laid (t':=s2.toks) (fun b u e=>Heap.get?_push_of_some _ e) (le_refl _) ⟨zero_le _,[],0,.nil,Heap.get?_push_size _ rfl⟩
 generalize hH:s2.heap.push {cls:=.type "list",dict:=none,data:=.seq ([]:List Value).toArray} = hp3 at gV gl I3 ⊢
 have hsz3:hp3.objs.size=s2.heap.objs.size+1:=by rw[<- hH,Heap.size_push]
 have kept3:∀b o,hp3.get? b=some o->dl.get? b=some o:=fun b o e=>gl.extBut b o (ne_of_lt (Heap.lt_size e)) (Heap.get?_push_of_some _ e)
 have old3:∀b o,s2.heap.get? b=some o->hp3.get? b=some o:=fun b o e=>by rw[<- hH];exact Heap.get?_push_of_some _ e
 have fplt:∀b∈fp,b<s2.heap.objs.size:=fun b hb=>by obtain⟨o,e,_⟩:=T.obj 0 _ st2 b hb;exact Heap.lt_size e
 have fpst:∀b∈fp,b ∉ frs X.stack:=fun b hb hz=>by
  rcases List.mem_cons.mp (I2.iO b hz) with e|e
  ·exact (f2 b hb).2.1 e
  ·exact (f2 b hb).2.2.1 e
 obtain⟨s3,hs3⟩:∃s3:Shared,s3={s2 with heap:=hp3}:=⟨_,rfl⟩
 obtain⟨H3,hH3⟩:∃H3:Hp,H3=upd H2 s2.heap.objs.size (.lst []):=⟨_,rfl⟩
 have heap3:s3.heap=hp3:=by rw[hs3]
 rw[<- hH3] at I3
 have I3':Inv X pins σ H3 s3:=by rw[hs3];exact I3
 have hloc:H3 hp3.objs.size=none:=by have:=I3'.hok.fresh (a:=hp3.objs.size) (by rw[heap3];exact le_refl _);exact this
 have okc:(aA X N' scope cl fp s3 H3).Ok:=by
  refine⟨I3.ok.mod,?_,I3.ok.glob,I3.ok.blt,le_refl _,fun x y a h1 h2=>I3.ok.inj x y a (hcl x a h1) (hcl y a h2),fun x hx=>hhas x hx,fun x a h=>(nomatch h),I3.ok.hd,I3.ok.qt,I3.ok.frames,.inl rfl,fun b hb=>⟨?_,fun x a h=>(f2 b hb).2.2.2.2.1 x a (hcl x a h)⟩,
   I3'.bs,le_trans I3.ok.bsz I3'.sz,fun b o e hb=>?_,fun b hb=>fpst b hb,I3'.stack,I3'.p5⟩
  ·exact hkind
  ·show b≠s3.heap.objs.size
   rw[heap3,hsz3]
   exact ne_of_lt (lt_succ_of_lt (fplt b hb))
  ·rcases (f2 b hb).2.2.2.1 with z|z
   ·exact I3.ok.BS b o e z
   ·exact absurd (lt_of_lt_of_le (Heap.lt_size (I3.ok.bs b o e).1) z) (lt_irrefl _)
 have I4:Inv (aA X N' scope cl fp s3 H3) [] (bj cap σ) H3 {s2 with heap:=dl,toks:=s2.toks+([]:List (Str×Value)).length}:=by
  refine⟨okc,by show s2.os=s3.os;rw[hs3],I3.bare,Un.kept (by show ∀b o,s3.heap.get? b=some o->_;rw[heap3];exact kept3),⟨_,(by show dl.Ns s3.heap.objs.size _;rw[heap3];exact gV),fun i x v e1 e2 e3=>?_⟩,fun x a h=>?_,(by show H3 s3.heap.objs.size=none;rw[heap3];exact hloc),fun x a h=>I3.j3 x a (hcl x a h),fun p hp=>?_,I3.hok.kept kept3,?_⟩
  ·obtain⟨j,h1,h2⟩:=lO e2
   obtain⟨hN,hv,hnl,hk⟩:=hcap i j x h1 e1
   obtain⟨m,_,hl⟩:=I3.loc
   obtain⟨u,r,lk⟩:=hl j x v hN h2 hv
   refine⟨u,r,.inr ⟨hk,?_⟩⟩
   obtain⟨a,ha⟩:=hhas x hk
   rcases lk with ⟨z,_⟩|⟨_,a',z1,z2⟩
   ·exact absurd z hnl
   ·have:a'=a:=by have q:=hcl x a ha;rw[z1] at q;exact Option.some.inj q
    subst this
    obtain⟨o,ho,hd⟩:=z2
    exact⟨a',ha,o,kept3 _ _ ho,hd⟩
  ·obtain⟨v,o,ho,hd⟩:=I3.cell x a (hcl x a h)
   exact⟨v,o,kept3 _ _ ho,hd⟩
  ·have hp':p∈X.pn++pins:=mem_append_left _ (by simpa using (show p∈X.pn++[] from hp))
   obtain⟨z1,z2,z3,z4,z5⟩:=I3'.pin p hp'
   refine⟨kept3 _ _ (by rw[<- heap3];exact z1),z2,(show p.1≠s3.heap.objs.size from ne_of_lt (Heap.lt_size z1)),fun z=>?_,z5⟩
   rcases List.mem_cons.mp (I3'.iO p.1 z) with e|e
   ·exact z3 e
   ·exact z4 e
  ·show (bj cap σ).length=N'.length
   unfold bj
   rw[length_map]
   exact hlen
 have lf:ad s2.heap.objs.size=none:=S1.mu.free hfree2
 have sub1:∀ys a ds,ad a=some ds->az ad s2.heap.objs.size ys a=some ds:=fun ys a ds e=>by
  have:a≠s2.heap.objs.size:=fun z=>by rw[z,lf] at e;cases e
  rw[aT this];exact e
 have loop:codeAny (model X.prog X.w) X.A (.compLoop (.ListComp elt [⟨tg,iter,ifs,0⟩] scope pos) 0 (.ref it) (.ref s2.heap.objs.size) (aA X N' scope cl fp s3 H3).env)
   (compPost (model X.prog X.w) X.A X.xe none (EP X pins σ Q) (.ref s2.heap.objs.size) hp3.objs.size) {s2 with heap:=dl,toks:=s2.toks+([]:List (Str×Value)).length}:=by
  refine gc (fun n s'=>∃(i:Nat) (db:St) (Hc:Hp),n=xs.length-i/\i<=xs.length/\Inv (aA X N' scope cl fp s3 H3) [] db Hc s'/\tn i s'.heap/\(∀b∈fp,Hc b=none) /\
   St0 X.K Hc (bj cap ρ) (az ad s2.heap.objs.size ((xs.take i).filterMap f)) db/\Ext X.K ad H2 (az ad s2.heap.objs.size ((xs.take i).filterMap f)) Hc) ?_ xs.length
   ⟨0,bj cap σ,H3,by simp,zero_le _,I4,T.keep 0 _ _ st2 (fun b hb o e=>kept3 b o (old3 b o e)),fun b hb=>?_,?_,?_⟩
  ·rintro n s' ⟨i,db,Hc,rfl,hi,Ic,tc,frc,Sc,Ec⟩
   have stat:∀{Hd:Hp},(∀b∈fp,Hd b=none)->∀b∈fp,nW (aA X N' scope cl fp s3 H3) [] Hd b:=fun hn b hb=>
    ⟨hn b hb,(okc.exf b hb).1,fpst b hb,.inl hb,fun x a h=>(okc.exf b hb).2 x a h,fun p hp=>(f2 b hb).2.2.2.2.2 p (mem_append_left _ (by simpa using (show p∈X.pn++[] from hp)))⟩
   obtain⟨go,stop⟩:=itok _ Hc Ec Sc.mu (sub1 _) i
   by_cases hlt:i<xs.length
   ·obtain⟨g1,y1⟩:=go hlt
    refine thn (T.item (aA X N' scope cl fp s3 H3) rfl rfl rfl (fun z=>z) i [] s' db Hc (fun _ _=>False) Ic (stat frc) tc g1) fun r s4 hq0=>?_
    obtain⟨u,hr,h4⟩:=hq0
    subst hr
    refine thn h4 fun _ s5 hq0=>?_
    obtain⟨x,H5,I5,r5,y5,st5,fr5⟩:=hq0
    obtain⟨d,hd,sm,rd⟩:=y1 x H5 y5
    have I5':=I5.pinned (stat fr5) (T.obj _ _ st5)
    have e5:Ext X.K _ Hc _ H5:=.of_same (Z:=az ad s2.heap.objs.size ((xs.take i).filterMap f)) sm
    have S5:St0 X.K H5 (bj cap ρ) (az ad s2.heap.objs.size ((xs.take i).filterMap f)) db:=⟨Sc.mu.FJ e5 sm,Sc.rho.ext Sc.mu e5⟩
    obtain⟨gt,pg,lg⟩:=hg fp s3 H3
    have hmem:d∈xs:=mem_of_getElem? hd
    refine thn (pg _ s5 db H5 x u (fun bn H'=>∃bm U,Ext X.K (az ad s2.heap.objs.size ((xs.take i).filterMap f)) H5 U H'/\St0 X.K H' bm U bn/\Le (bj cap ρ) bm/\c bm U fun b be=>
      if b=true then te bm be fun d' ce=>ce=az ad s2.heap.objs.size ((xs.take i).filterMap f)/\(match d' with|.v y=>f d=some y|_=>False) else be=az ad s2.heap.objs.size ((xs.take i).filterMap f)/\f d=none) I5' r5
     (lg db H5 (bj cap ρ) _ (.v d) x _ _ S5 rd (body d hmem _ (sub1 _)) fun bn bm U H' e' S' q=>⟨bm,U,e',S',q⟩)) fun _ s6 ⟨ga,H6,I6,jp,ld,e6,S6,le6,q6⟩=>?_
    refine thn (hif fp s3 H3 _ s6 ga H6 jp ld _ (fun b H'=>∃U,Ext X.K ld H6 U H'/\St0 X.K H' jp U ga/\if b=true then te jp U fun d' ce=>ce=az ad s2.heap.objs.size ((xs.take i).filterMap f)/\(match d' with|.v y=>f d=some y|_=>False) else U=az ad s2.heap.objs.size ((xs.take i).filterMap f)/\f d=none)
     I6 S6 q6 fun b U H' e' S' q=>⟨U,e',S',q⟩) fun b s7 ⟨H7,I7,lw,e7,S7,q7⟩=>?_
    have again:∀{H9:Hp} {s9:Shared},Inv (aA X N' scope cl fp s3 H3) ([]++oG fp s5.heap) ga H9 s9->bG X.K (az ad s2.heap.objs.size ((xs.take (i+1)).filterMap f)) H9->gG X.K (az ad s2.heap.objs.size ((xs.take (i+1)).filterMap f)) H9 (bj cap ρ) ga ->
      Ext X.K ad H2 (az ad s2.heap.objs.size ((xs.take (i+1)).filterMap f)) H9->∃m,m<xs.length-i/\∃(i:Nat) (db:St) (Hc:Hp),m=xs.length-i/\i<=xs.length/\Inv (aA X N' scope cl fp s3 H3) [] db Hc s9/\tn i s9.heap/\(∀b∈fp,Hc b=none) /\
       St0 X.K Hc (bj cap ρ) (az ad s2.heap.objs.size ((xs.take i).filterMap f)) db/\Ext X.K ad H2 (az ad s2.heap.objs.size ((xs.take i).filterMap f)) Hc:=fun {H9 s9} I9 m9 r9 e9=>by
     refine⟨xs.length-(i+1),∅,i+1,ga,H9,rfl,hlt,I9.dS,T.keep _ _ _ st5 fun b hb o e=>(I9.pin (b,o) (mem_append_right _ (mem_append_right _ (bD hb e)))).1,fun b hb=>?_,⟨m9,r9⟩,e9⟩
     obtain⟨o,e,_⟩:=T.obj _ _ st5 b hb
     exact (I9.pin (b,o) (mem_append_right _ (mem_append_right _ (bD hb e)))).2.1
    cases b with
    |false=>
     have q8:lw=az ad s2.heap.objs.size ((xs.take i).filterMap f)/\f d=none:=by simpa using q7
     refine xP ?_
     have et:(xs.take (i+1)).filterMap f=(xs.take i).filterMap f:=by rw[CS hd,q8.2];simp
     have sB:az ad s2.heap.objs.size ((xs.take (i+1)).filterMap f)=lw:=by rw[et,q8.1]
     refine again I7 (by rw[sB];exact S7.mu) (by rw[sB];exact S7.rho.le le6) ?_
     rw[sB]
     exact Ec.trans (e5.trans (e6.trans e7))
    |true=>
     refine zI ?_
     obtain⟨t8,p8,l8⟩:=he fp s3 H3
     refine thn (p8 _ s7 ga H7 (fun v H'=>∃y,Ext X.K lw H7 (az ad s2.heap.objs.size ((xs.take i).filterMap f)) H'/\St0 X.K H' jp (az ad s2.heap.objs.size ((xs.take i).filterMap f)) ga/\Rp X.K (az ad s2.heap.objs.size ((xs.take i).filterMap f)) H' y v/\f d=some y) I7
      (l8 ga H7 jp lw _ _ S7 (by simpa using q7) fun d' v kw H8 e8 S8 r8 q8=>?_)) fun v s8 ⟨v8,H8,I8,r8,y,e8,S8,ry,fy⟩=>?_
     ·obtain⟨rfl,q8⟩:=q8
      cases d' with
      |v y=>exact⟨y,e8,S8,r8,q8⟩
      |m _=>exact q8.elim
      |s _=>exact q8.elim
      |o _=>exact q8.elim
      |b _=>exact q8.elim
      |q _=>exact q8.elim
     ·obtain⟨us,hacc,rus⟩:=S8.mu s2.heap.objs.size _ aI
      have hle:((xs.take i).filterMap f).length<=1000:=le_trans (List.length_filterMap_le _ _) (le_trans (by rw[length_take];exact Nat.min_le_right _ _) hxs)
      refine thn (lh (X:=aA X N' scope cl fp s3 H3) _ s8 ga H8 (.ref s2.heap.objs.size) [v8] (.ref s2.heap.objs.size) [v] (fun _ H'=>H'=upd H8 s2.heap.objs.size (.lst (us++[v8]))) I8 rfl (.cons r8 .nil) ⟨_,us,v8,rfl,rfl,hacc,by rw[<- rus.length];exact d0 hle,rfl⟩) fun _ s9 hq0=>?_
      obtain⟨_,H9,I9,_,e9⟩:=hq0
      subst e9
      have et:(xs.take (i+1)).filterMap f=(xs.take i).filterMap f++[y]:=by rw[CS hd,fy];rfl
      have mset:az (az ad s2.heap.objs.size ((xs.take i).filterMap f)) s2.heap.objs.size ((xs.take (i+1)).filterMap f)=az ad s2.heap.objs.size ((xs.take (i+1)).filterMap f):=fA
      have ex:Ext X.K (az ad s2.heap.objs.size ((xs.take i).filterMap f)) H8 (az ad s2.heap.objs.size ((xs.take (i+1)).filterMap f)) (upd H8 s2.heap.objs.size (.lst (us++[v8]))):=by
       rw[<- mset]
       exact gh aI
      refine again I9 ?_ ((S8.rho.le le6).ext S8.mu ex) (Ec.trans (e5.trans (e6.trans (e7.trans (e8.trans ex)))))
      rw[<- mset]
      refine S8.mu.set aI ?_
      rw[et]
      exact rus.append (.cons ry .nil)
   ·have ei:i=xs.length:=by omega
    subst ei
    refine thn (T.done (aA X N' scope cl fp s3 H3) rfl rfl rfl (fun z=>z) _ [] s' db Hc (fun _ _=>False) Ic (stat frc) tc (stop rfl)) fun r s4 hq0=>?_
    obtain⟨hr,I5⟩:=hq0
    subst hr
    rw[take_length] at Sc Ec
    obtain⟨m,hn,_⟩:=I5.loc
    refine⟨m,(by have z:s4.heap.Ns s3.heap.objs.size m:=hn;rw[heap3] at z;exact z),fun h' hs'=>?_⟩
    have kp:∀b o,b<s2.heap.objs.size->s4.heap.get? b=some o->h'.get? b=some o:=fun b o hb e=>hs'.extBut b o (by rw[hsz3];exact ne_of_lt (lt_succ_of_lt hb)) e
    have hcC:Hc hp3.objs.size=none:=by have z:Hc s3.heap.objs.size=none:=I5.free;rw[heap3] at z;exact z
    have hok':HOk X.prog X.w Hc h':=fun b ob e=>by
     refine (I5.hok b ob e).sC (fun cc v hcc q=>hs'.extBut cc v ?_ q) (fun _ q=>q) fun _ _ q=>q
     rintro rfl
     rcases hcc with z|z
     ·rw[<- z,hcC] at e;cases e
     ·rw[hcC] at z;cases z
    have u1:Un (frs X.stack) fp H2 H3 s2.heap s3.heap:=by rw[heap3,hH3];exact Un.laid old3 (le_refl _) hfree2
    have u2:Un (frs X.stack) fp H3 Hc s3.heap s4.heap:=I5.base
    have If:Inv X pins σ Hc {s4 with heap:=h'}:=I2.zj (ch:=fp) (by show s4.os=s2.os;have z:s4.os=s3.os:=I5.os;rw[z,hs3]) (Un.after (u1.trans u2) kp) hok' I5.bare fun b hb=>⟨(f2 b hb).2.2.2.1,(f2 b hb).2.1,(f2 b hb).2.2.2.2.1,(f2 b hb).2.2.2.2.2⟩
    obtain⟨us,hacc,rus⟩:=Sc.mu s2.heap.objs.size _ aI
    have shr:∀a,az ad s2.heap.objs.size (xs.filterMap f) a=none->ad a=none:=fun a e=>by
     by_cases ha:a=s2.heap.objs.size
     ·rw[ha];exact lf
     ·rw[aT ha] at e;exact e
    have eF:Ext X.K ad H2 ad Hc:=⟨Ec.keep,Ec.tb,fun _ ds q=>⟨ds,q⟩,fun _ q _=>q,Ec.st,fun _ c q=>⟨c,q⟩⟩
    have mF:bG X.K ad Hc:=⟨fun a ds q=>by
     obtain⟨ys,z1,z2⟩:=Sc.mu a ds (sub1 _ a ds q)
     exact⟨ys,z1,z2.shrink shr⟩,Sc.mu.tab,fun a c q=>let ⟨z,o,w1,w2⟩:=Sc.mu.box a c q;⟨z,o,w1,w2.shrink shr⟩⟩
    exact⟨.ref s2.heap.objs.size,Hc,If,rfl,k (.v (.list (xs.filterMap f))) _ ad Hc (e1.trans eF) ⟨mF,S1.rho.ext S1.mu eF⟩ (Rp.list hacc lf (rus.shrink shr)) fin⟩
  ·have z:b≠s2.heap.objs.size:=ne_of_lt (fplt b hb)
   rw[hH3,aV z]
   exact (f2 b hb).1
  ·have ex:=eP (o:=.lst []) (ds:=[]) S1.mu hfree2 hK2
   rw[hH3]
   exact⟨S1.mu.mut .nil hfree2 hK2,(S1.rho.ext S1.mu ex).cap⟩
  ·rw[hH3]
   exact eP (o:=.lst []) (ds:=[]) S1.mu hfree2 hK2
 have envE:(aA X N' scope cl fp s3 H3).env=compEnvC scope cl hp3.objs.size X.env:=by show compEnvC scope cl s3.heap.objs.size X.env=_;rw[heap3]
 rw[envE] at loop
 exact codeAny_compStart_list loop (T.self X.A 0 _ _ _ (T.keep 0 _ _ st2 (fun b hb o e=>kept3 b o (old3 b o e))) loop)
end
noncomputable def QT(ds:List D):PQ:=fun K u Z H=>∃a us,u = .ref a/\H a=some (.tup us)/\jO K Z H ds us
mutual
theorem Rp.sub{K:PySem.W.Frag}{Z ad:Mu}{H:Hp}(h:∀a,ad a=none->Z a=none):∀{d:PyData} {u:V},Rp K ad H d u->Rp K Z H d u
 |_,_,.none=>.none
 |_,_,.bool b=>.bool b
 |_,_,.int i=>.int i
 |_,_,.str x=>.str x
 |_,_,.list a b c=>.list a (h _ b) (RpL.sub h c)
 |_,_,.tuple a c=>.tuple a (RpL.sub h c)
theorem RpL.sub{K:PySem.W.Frag}{Z ad:Mu}{H:Hp}(h:∀a,ad a=none->Z a=none):∀{ds:List PyData} {us:List V},RpL K ad H ds us->RpL K Z H ds us
 |_,_,.nil=>.nil
 |_,_,.cons a b=>.cons (Rp.sub h a) (RpL.sub h b)
end
structure eS(Z U:Mu):Prop where
 l:∀b ds,Z b=some ds->U b=some ds
 b:∀b c,Z.b b=some c->U.b b=some c
instance {Z U:Mu}:CoeFun (eS Z U) fun _=>∀b ds,Z b=some ds->U b=some ds:=⟨eS.l⟩
theorem eS.refl{Z:Mu}:eS Z Z:=⟨fun _ _ e=>e,fun _ _ e=>e⟩
theorem eS.none{Z U:Mu}(h:eS Z U){b:Addr}(e:U b=none):Z b=none:=by
 cases z:Z b with
 |none=>rfl
 |some ds=>rw[h b ds z] at e;cases e
theorem xj{K:PySem.W.Frag}{Z U:Mu}{H:Hp}(ok:bG K U H)(s:eS Z U):bG K Z H:=⟨fun a ds z=>by
 obtain⟨xs,h1,h2⟩:=ok.lst a ds (s a ds z)
 exact⟨xs,h1,h2.sub fun b hb=>s.none hb⟩,ok.tab,fun a c z=>by
 obtain⟨y,o,h1,h2⟩:=ok.box a c (s.b a c z)
 exact⟨y,o,h1,h2.shrink fun b hb=>s.none hb⟩⟩
theorem eS.set{Z U:Mu}{p:Addr}{ds:List PyData}(h:eS Z U)(n:Z p=Option.none):eS Z (az U p ds):=⟨fun b es e=>by
 have:b≠p:=fun z=>by rw[z,n] at e;cases e
 rw[aT this];exact h b es e,h.b⟩
theorem eS.box{Z U:Mu}{p:Addr}{c:Box}(h:eS Z U)(n:Z.b p=Option.none):eS Z (br U p c):=⟨h.l,fun b x e=>by
 have:b≠p:=fun z=>by rw[z,n] at e;cases e
 rw[bQ this];exact h.b b x e⟩
noncomputable def frz(Z:Mu)(Qd:DK):DK:=fun d U=>match d with
 |.v x=>eS Z U/\Qd (.v x) Z
 |.m a=>(Z a=none/\eS Z U)/\∃es,U a=some es/\Qd (.v (.list es)) Z
 |_=>False
theorem DX{P:Program}{w:World}{K:PySem.W.Frag}{mg:Str->Option Value}{base:Heap}{CX:CXT}{k:Nat}{f:Addr}{fd:FuncData}{ps:List Str}{sp sp':DSp}(F:bu P w K mg base CX k f fd ps (spD K sp))
  (h:∀ds Z Qd,sp' ds Z Qd->sp ds Z (frz Z Qd)):bu P w K mg base CX k f fd ps (spD K sp'):=by
 refine F.imp fun vs H Q E h'=>?_
 obtain⟨ds,Z,Qd,ok,r,s,kk⟩:=h'
 refine⟨ds,Z,_,ok,r,h _ _ _ s,fun d u U H' e ok' rd q=>?_⟩
 cases d with
 |v x=>
  obtain⟨sb,q⟩:=q
  exact kk (.v x) u Z H' ⟨e.keep,e.tb,fun b ds z=>⟨ds,z⟩,fun _ z _=>z,e.st,fun _ c z=>⟨c,z⟩⟩ (xj ok' sb) (show Rp K Z H' x u from (show Rp K U H' x u from rd).sub fun b hb=>sb.none hb) q
 |m a=>
  obtain⟨⟨n,sb⟩,es,he,q⟩:=q
  obtain⟨rfl,_⟩:=rd
  obtain⟨xs,h1,h2⟩:=ok'.lst a es he
  exact kk (.v (.list es)) (.ref a) Z H' ⟨e.keep,e.tb,fun b ds z=>⟨ds,z⟩,fun _ z _=>z,e.st,fun _ c z=>⟨c,z⟩⟩ (xj ok' sb) (show Rp K Z H' (.list es) (.ref a) from .list h1 n (h2.sub fun b hb=>sb.none hb)) q
 |s ns=>exact q.elim
 |o a=>exact q.elim
 |b a=>exact q.elim
 |q p=>exact q.elim
noncomputable def QP(x:PyData)(a:Addr):PQ:=QT [.v x,.m a]
section
variable {K:PySem.W.Frag}{Z:Mu}{H:Hp}
theorem Mg{x:PyData}{u:V}(r:Rp K Z H x u):Rp K ⟨fun _=>none,fun _=>none⟩ H x u:=r.sub fun _ _=>rfl
theorem Q2{a:Addr}{es:List PyData}(ok:bG K Z H)(h:Z a=some es):Rp K ⟨fun _=>none,fun _=>none⟩ H (.list es) (.ref a):=by
 obtain⟨xs,h1,h2⟩:=ok.lst a es h
 exact .list h1 rfl (h2.sub fun _ _=>rfl)
theorem Pq{x:PyData}{a:Addr}{u:V}(r:RpD K Z H (.q (QP x a)) u):∃p ux,u = .ref p/\SqT K H p [ux,.ref a]/\Rp K Z H x ux/\∃ds,Z a=some ds:=by
 obtain⟨p,us,rfl,hp,rs⟩:=r Z H .refl
 cases rs with
 |cons r1 r2=>
  cases r2 with
  |cons r2 r3=>
   cases r3
   obtain⟨rfl,ds,hd⟩:=r2
   exact⟨p,_,rfl,.inl (.inl hp),r1,ds,hd⟩
theorem SO{x:PyData}{a:Addr}{u:V}{es:List PyData}(ok:bG K Z H)(h:Z a=some es)(r:RpD K Z H (.q (QP x a)) u):Rp K ⟨fun _=>none,fun _=>none⟩ H (.tuple [x,.list es]) u:=by
 obtain⟨p,ux,rfl,hp,r1,_⟩:=Pq r
 exact .tuple hp (.cons (Mg r1) (.cons (Q2 ok h) .nil))
def Tu:D->D->Mu->DK->Prop:=fun x y Z Q=>match x,y with
 |.q P,.v (.int i)=>∃z a,P=QP z a/\((i=0/\Q (.v z) Z)\/(i=1/\Q (.m a) Z))
 |x,y=>aM x y Z Q
def PB:List D->Mu->DK->Prop:=fun xs Z Q=>match xs with
 |[.q P]=>∃z a,P=QP z a/\Q (.v (.int 2)) Z
 |xs=>cZ xs Z Q
def Ho(neg:Bool):D->D->Mu->DK->Prop:=fun x y Z Q=>match x,y with
 |.m a,.v b=>∃es,Z a=some es/\SeqAt.shaped (.list es)=true/\SeqAt.shaped b=true/\Q (.v (.bool (neg ^^ PyData.eqv (.list es) b))) Z
 |x,y=>de neg x y Z Q
theorem Hj{neg:Bool}:i4 K (OL K neg) (Ho neg):=by
 intro x y ux uy H Z Qd Q ok rx ry h k
 unfold Ho at h
 split at h
 ·rename_i a b
  obtain⟨es,hm,s1,s2,h⟩:=h
  obtain⟨rfl,_⟩:=rx
  exact⟨_,_,_,Q2 ok hm,Mg ry,s1,s2,k (.v _) _ Z H .refl ok (Rp.bool _) h⟩
 ·exact bH x y ux uy H Z Qd Q ok rx ry h k
end
section
variable {X:Cx}{a b e:Expr}{ta tb te:DTE}{pos p:Pos}{T:String}
noncomputable def Jl(T:String)(te:DTE):DTE:=fun ρ Z Q=>te ρ Z fun x ad=>match x with
 |.v d=>Q (.v (.bool (isT T d))) ad
 |.q P=>∃z a,P=QP z a/\Q (.v (.bool (isT T (.tuple [])))) ad
 |.m _=>Q (.v (.bool (isT T (.list [])))) ad
 |_=>False
theorem Jo{y:Str}{py:Pos}(kt:∀d,kitOne X.K (.type (tyD d)) (.type T)=some (isT T d))(hg:Gl X "isinstance")(hm:X.mg "isinstance"=none)(hgy:Gl X y)(hmy:X.mg y=none)(hvy:bootBuiltins y=some (.type T))(ha:DE X e te)
  (hny:y ≠ "__name__":=by decide) (hdy:(y==("__debug__":Str))=false:=by decide)
  (he:starEach [e,.Name y py] X.env=(false,eval e X.env)::starEach [.Name y py] X.env:=by rfl) (he2:starEach [.Name y py] X.env=[(false,eval (.Name y py) X.env)]:=by rfl) (hpl:(backTo pos (starEach [.Name y py] X.env)).any (·.1)=false:=by rfl):DE X (.Call (.Name "isinstance" p) [e,.Name y py] [] pos) (Jl T te):=by
 obtain⟨t1,p1,l1⟩:=ha
 refine⟨_,xw (vA kt) hg hm PyProof.Rows.Boot.«isinstance» (i6 p1 (i6 (J4 (v:=.ty T) hgy hmy hvy rfl hny hdy) uW he2) he) ⋯ ⋯ he hpl,fun σ H ρ Z Qd Q S h k=>?_⟩
 refine l1 σ H ρ Z _ _ S h fun x ux ad H1 e1 S1 rx h1=>?_
 split at h1
 ·exact⟨ad,_,ux,rfl,rx,k (.v _) _ ad H1 e1 S1 (Rp.bool _) h1⟩
 ·obtain⟨z,a,rfl,h1⟩:=h1
  obtain⟨_,_,_,_,_,ds,hd⟩:=Pq rx
  exact⟨_,_,ux,rfl,SO S1.mu hd rx,k (.v _) _ ad H1 e1 S1 (Rp.bool _) h1⟩
 ·obtain⟨rfl,ds,hd⟩:=rx
  exact⟨_,_,_,rfl,Q2 S1.mu hd,k (.v _) _ ad H1 e1 S1 (Rp.bool _) h1⟩
 ·exact h1.elim
noncomputable def Lz(to:DTE):DTE:=fun ρ Z Q=>to ρ Z fun x ad=>match x with
 |.m l=>(match ad l with
  |some xs=>Q (.v .none) (az ad l xs.reverse)
  |none=>False)
 |_=>False
theorem RpL.snoc{K:PySem.W.Frag}{Z:Mu}{H:Hp}:∀{ds:List PyData} {us:List V} {d:PyData} {u:V},RpL K Z H ds us->Rp K Z H d u->RpL K Z H (ds++[d]) (us++[u])
 |_,_,_,_,.nil,r=>.cons r .nil
 |_,_,_,_,.cons a b,r=>.cons a (RpL.snoc b r)
theorem RpL.rev{K:PySem.W.Frag}{Z:Mu}{H:Hp}:∀{ds:List PyData} {us:List V},RpL K Z H ds us->RpL K Z H ds.reverse us.reverse
 |_,_,.nil=>.nil
 |_,_,.cons a b=>by rw[reverse_cons,reverse_cons];exact RpL.snoc (RpL.rev b) a
theorem N2{o:Expr}{to:DTE}{apos cpos:Pos}(ho:DE X o to)(hbase:attributeBase o "reverse" X.env (eval o X.env)=eval o X.env:=by rfl)(hline:(apos.endLine==cpos.line)=true:=by rfl) :
  DE X (.Call (.Attribute o "reverse" apos) [] [] cpos) (Lz to):=by
 obtain⟨t1,p1,l1⟩:=ho
 refine⟨_,Q4 plainAttrs_list PySem.F.slot_list_reverse PySem.F.type_list_reverse Hf p1 hbase hline,fun σ H ρ Z Qd Q S h k=>?_⟩
 refine l1 σ H ρ Z _ _ S h fun x ux ad H1 e1 S1 rx h1=>?_
 cases x with
 |m l=>
  obtain⟨rfl,ds,hm⟩:=id rx
  obtain⟨us,hl,rl⟩:=S1.mu l ds hm
  refine⟨.inl ⟨rfl,us,SqL.of hl⟩,?_⟩
  dsimp only at h1
  rw[hm] at h1
  have ex:Ext X.K ad H1 (az ad l ds.reverse) (upd H1 l (.lst us.reverse)):=gh hm
  exact⟨l,us,rfl,rfl,hl,k (.v .none) .non _ _ (e1.trans ex) ⟨S1.mu.set hm rl.rev,S1.rho.ext S1.mu ex⟩ Rp.none h1⟩
 |v d=>exact h1.elim
 |s ns=>exact h1.elim
 |o _=>exact h1.elim
 |b _=>exact h1.elim
 |q _=>exact h1.elim
end
theorem L5{T:String}{te:DTE}{ρ:Rho}{Z:Mu}{Q:DK}:Jl T te ρ Z Q=te ρ Z (fun x ad=>match x with
 |.v d=>Q (.v (.bool (isT T d))) ad
 |.q P=>∃z a,P=QP z a/\Q (.v (.bool (isT T (.tuple [])))) ad
 |.m _=>Q (.v (.bool (isT T (.list [])))) ad
 |_=>False):=propext Iff.rfl
theorem Ik{to:DTE}{ρ:Rho}{Z:Mu}{Q:DK}:Lz to ρ Z Q=to ρ Z (fun x ad=>match x with
 |.m l=>(match ad l with
  |some xs=>Q (.v .none) (az ad l xs.reverse)
  |none=>False)
 |_=>False):=propext Iff.rfl
theorem LA{x:PyData}{d:D}{Z:Mu}{Q:DK}:Tu (.v x) d Z Q=aM (.v x) d Z Q:=by unfold Tu;rfl
theorem Nu{neg:Bool}{x:PyData}{d:D}{Z:Mu}{Q:DK}:Ho neg (.v x) d Z Q=de neg (.v x) d Z Q:=by unfold Ho;rfl
theorem Jy{x:PyData}{Z:Mu}{Q:DK}:PB [.v x] Z Q=cZ [.v x] Z Q:=by unfold PB;rfl
end L2.DL
namespace L2
open PySem PySem.W PyProof.Rows
end L2
namespace L2.DL
open PySem PySem.Spec PyProof.Rows
end L2.DL
namespace L2
open PySem PySem.W PyProof.Rows
section
variable {X:Cx}
theorem SE{pins:List (Addr×Obj)}{σ:St}{H:Hp}{s:Shared}(I:Inv X pins σ H s):X.K.lookup s.heap.objs.size=none:=by
 cases c:X.K.lookup s.heap.objs.size with
 |none=>rfl
 |some o=>exact absurd (Heap.lt_size (I.kIn _ _ c)) (lt_irrefl _)
theorem Ht:jE X (.type "list") (fun xs H Q=>∃p ys,xs=[.ref p]/\(SqL X.K H p ys\/SqT X.K H p ys)/\∀l,H l=none->X.K.lookup l=none->Q (.ref l) (upd H l (.lst ys))):=by
 intro pins s σ H xs us Q I r h
 obtain⟨p,ys,rfl,hq,q⟩:=h
 have hk:=SE I
 obtain⟨u,rfl,rx⟩:=vals1 r
 cases rx
 have go:∀(A:Around) (E:Value->Shared->Prop) (its:List Value),Vals ys its->ys.length<=sizeLine->∀(o:Obj) (n:Nat),(o.cls = .type "list"\/o.cls = .type "tuple")->s.heap.get? p=some o->o.data = .seq its.toArray n->wpAny (model X.prog X.w) A (call (.type "list") [.ref p]) (EP X pins σ Q) E s:=fun A E its rv hz o n hc ho hd=>by
  have hlen:=rv.length
  rcases hc with hc|hc
  ·refine call_list_seq p (.inl rfl) ho hc hd (fun h' c' kp e=>⟨.ref s.heap.objs.size,_,I.laid (t':=s.toks) kp (le_refl _) ?_,rfl,q _ (I.hok.fresh (le_refl _)) hk⟩) (by rw[size_toArray];omega)
   exact⟨hz,its,c',rv,e⟩
  ·refine call_list_seq p (.inr rfl) ho hc hd (fun h' c' kp e=>⟨.ref s.heap.objs.size,_,I.laid (t':=s.toks) kp (le_refl _) ?_,rfl,q _ (I.hok.fresh (le_refl _)) hk⟩) (by rw[size_toArray];omega)
   exact⟨hz,its,c',rv,e⟩
 rcases hq with hq|hq
 ·obtain⟨its,rv,pl,hz⟩:=I.list hq
  obtain⟨o,ho,hc,n,hd⟩:=pl.isList
  exact go _ _ its rv hz o n (.inl hc) ho hd
 ·obtain⟨its,rv,pl,hz⟩:=I.tuple hq
  obtain⟨o,ho,hc,n,hd⟩:=pl
  exact go _ _ its rv hz o n (.inr hc) ho hd
end
end L2
namespace L2.DL
open PySem PySem.Spec PyProof.Rows
def CG:List D->Mu->DK->Prop:=fun xs Z Q=>match xs with
 |[.v (.list ys)]=>∀p,Z p=none->Q (.m p) (az Z p ys)
 |[.v (.tuple ys)]=>∀p,Z p=none->Q (.m p) (az Z p ys)
 |[.m a]=>∃ys,Z a=some ys/\∀p,Z p=none->Q (.m p) (az Z p ys)
 |_=>False
theorem LF{K:PySem.W.Frag}:nL K (fun xs H Q=>∃p ys,xs=[.ref p]/\(SqL K H p ys\/SqT K H p ys)/\∀l,H l=none->K.lookup l=none->Q (.ref l) (upd H l (.lst ys))) CG:=by
 intro xs us H Z Qd Q ok rs h k
 have fin:∀(ys:List PyData) (vs:List V),RpL K Z H ys vs->(∀p,Z p=none->Qd (.m p) (az Z p ys))->∀l,H l=none->K.lookup l=none->Q (.ref l) (upd H l (.lst vs)):=fun ys vs r q l hl hk=>
  k (.m l) _ (az Z l ys) _ (eP (o:=.lst vs) (ds:=ys) ok hl hk) (ok.mut r hl hk) ⟨rfl,ys,aI⟩ (q l (ok.free hl))
 unfold CG at h
 split at h
 ·cases rs with
  |cons r1 r2=>
   cases r2
   cases r1 with
   |list hs hn r=>exact⟨_,_,rfl,.inl (SqL.of hs),fin _ _ r h⟩
 ·cases rs with
  |cons r1 r2=>
   cases r2
   cases r1 with
   |tuple hs r=>exact⟨_,_,rfl,.inr hs,fin _ _ r h⟩
 ·cases rs with
  |cons r1 r2=>
   cases r2
   obtain⟨ys,hm,h⟩:=h
   obtain⟨rfl,_⟩:=r1
   obtain⟨vs,hl,r⟩:=ok.lst _ ys hm
   exact⟨_,_,rfl,.inl (SqL.of hl),fin _ _ r h⟩
 ·exact h.elim
theorem Nk{X:Cx}{e:Expr}{es:List Expr}{t:DTA}{pos p:Pos}(hg:Gl X "list")(hm:X.mg "list"=none)(ha:DA X (e::es) t)
  (he:starEach (e::es) X.env=(false,eval e X.env)::starEach es X.env:=by rfl) (hpl:(backTo pos (starEach es X.env)).any (·.1)=false:=by rfl):DE X (.Call (.Name "list" p) (e::es) [] pos) (dCB CG t):=
 pP Ht LF hg hm PyProof.Rows.Boot.«list» ha ⋯ ⋯ he hpl
end L2.DL
namespace L2
open PySem PySem.Spec PyProof.Rows
section
variable {X:Cx}{pos:Pos}
noncomputable def SY(i j l:Nat)(ta:TA):TS:=fun D σ H=>ta σ H fun vs H1=>∃v w u,vs=[v,w,u]/\D.nx (((σ.set i (some v)).set j (some w)).set l (some u)) H1
theorem Oo{i j l:Nat}{x y z:Str}{a b c:Expr}{ta:TA}{px py pz pt:Pos}{kt k2 pt2}(hc:X.calm=true)(hN:X.N.Nodup)(hi:X.N[i]? = some x)(hj:X.N[j]? = some y)(hl:X.N[l]? = some z)(hij:i≠j)(hil:i≠l)(hjl:j≠l)
  (hx:X.env.scope.names.lookup x=some .local) (hy:X.env.scope.names.lookup y=some .local) (hz:X.env.scope.names.lookup z=some .local) (ha:PA X [a,b,c] ta)
  (hw:swappedStores [.Tuple [.Name x px,.Name y py,.Name z pz] kt pt] (.Tuple [a,b,c] k2 pt2) X.env=pure (some [x,y,z]))
  (hs:swapsWithSole [.Tuple [.Name x px,.Name y py,.Name z pz] kt pt] (.Tuple [a,b,c] k2 pt2) pos.line X.env=pure false:=by rfl) :
  PS X (.Assign [.Tuple [.Name x px,.Name y py,.Name z pz] kt pt] (.Tuple [a,b,c] k2 pt2) pos) (SY i j l ta):=by
 intro pins s σ H D I h
 rw[exec_Assign_arm]
 refine wpAny_bind (wpAny_standAt ?_)
 rw[hs]
 refine wpAny_bind (wpAny_pure ?_)
 rw[if_neg ⋯]
 refine wpAny_bind (Tuple_ (thn (ha _ pins s σ H _ I h) fun us s1 hq0=>?_))
 obtain⟨vs,H1,I1,r1,q1⟩:=hq0
 obtain⟨v,w,u,e1,q1⟩:=q1
 subst e1
 obtain⟨u1,u2,u3,rfl,rv,rw',ru⟩:∃u1 u2 u3,us=[u1,u2,u3]/\RelV v u1/\RelV w u2/\RelV u u3:=by
  cases r1 with
  |cons p q=>
   cases q with
   |cons p' q'=>
    cases q' with
    |cons p'' q''=>
     cases q''
     exact⟨_,_,_,rfl,p,p',p''⟩
 refine wpAny_newObj_type ?_ (by show 3<=sizeLine;decide)
 have I2:Inv X pins σ H1 {s1 with heap:=s1.heap.push {cls:=.type "tuple",data:=.seq [u1,u2,u3].toArray}}:=I1.kept (t':=s1.toks) fun b o e=>Heap.get?_push_of_some _ e
 rw[hw]
 refine wpAny_bind (wpAny_pure ?_)
 show wpAny (model X.prog X.w) X.A (do rule "assign.swapped-stores";let items <- unpackItems (.ref s1.heap.objs.size) 3 none;assignInOrder [fun v=>bindName X.env z v,fun v=>bindName X.env y v,fun v=>bindName X.env x v] items.reverse;pure Flow.next) _ _ _
 refine wpAny_bind (wpAny_rule (wpAny_bind (unpackItems_tuple (items:=#[u1,u2,u3]) (I.ok.hd hc) (IsTup.new s1.heap _) fun h' hx'=>?_)))
 have I3:=I2.kept (h':=h') (t':=s1.toks) fun b o e=>hx' b o (ne_of_lt (Heap.lt_size e)) e
 show wpAny _ _ (assignInOrder [fun v=>bindName X.env z v,fun v=>bindName X.env y v,fun v=>bindName X.env x v] [u3,u2,u1]>>=fun _=>pure Flow.next) _ _ _
 refine wpAny_bind (assignInOrder_cons (wpAny_bindName (gg I3 hN hl (.inl hz) ru (fun s2 I4=>?_) (.inr hz))))
 refine assignInOrder_cons (wpAny_bindName (gg I4 hN hj (.inl hy) rw' (fun s3 I5=>?_) (.inr hy)))
 refine assignInOrder_cons (wpAny_bindName (gg I5 hN hi (.inl hx) rv (fun s4 I6=>assignInOrder_nil (wpAny_pure ?_)) (.inr hx)))
 rw[List.set_comm _ _ (Ne.symm hij),List.set_comm _ _ (Ne.symm hil),List.set_comm _ _ (Ne.symm hjl)] at I6
 exact⟨_,H1,I6,q1⟩
end
end L2
namespace L2.DL
open PySem PySem.W PyProof.Rows
section
variable {X:Cx}{pos:Pos}
noncomputable def MY(i j l:Nat)(t:DTA):DTS:=fun Dd ρ Z=>t ρ Z fun ds ad=>match ds with
 |[v,w,u]=>Dd.nx (((ρ.set i (some v)).set j (some w)).set l (some u)) ad
 |_=>False
theorem QC{i j l:Nat}{tA:DTA}{Dd:Bs}{ρ:Rho}{Z:Mu}:MY i j l tA Dd ρ Z=tA ρ Z fun ds ad=>match ds with|[v,w,u]=>Dd.nx (((ρ.set i (some v)).set j (some w)).set l (some u)) ad|_=>False:=propext Iff.rfl
theorem Ot{i j l:Nat}{x y z:Str}{a b c:Expr}{t:DTA}{px py pz pt:Pos}{kt k2 pt2}(hc:X.calm=true)(hN:X.N.Nodup)(hi:X.N[i]? = some x)(hj:X.N[j]? = some y)(hl:X.N[l]? = some z)(hij:i≠j)(hil:i≠l)(hjl:j≠l)
  (hx:X.env.scope.names.lookup x=some .local) (hy:X.env.scope.names.lookup y=some .local) (hz:X.env.scope.names.lookup z=some .local) (ha:DA X [a,b,c] t)
  (hw:swappedStores [.Tuple [.Name x px,.Name y py,.Name z pz] kt pt] (.Tuple [a,b,c] k2 pt2) X.env=pure (some [x,y,z]))
  (hs:swapsWithSole [.Tuple [.Name x px,.Name y py,.Name z pz] kt pt] (.Tuple [a,b,c] k2 pt2) pos.line X.env=pure false:=by rfl) :
  DS X (.Assign [.Tuple [.Name x px,.Name y py,.Name z pz] kt pt] (.Tuple [a,b,c] k2 pt2) pos) (MY i j l t):=by
 obtain⟨t1,p1,l1⟩:=ha
 refine⟨_,Oo hc hN hi hj hl hij hil hjl hx hy hz p1 hw hs,fun σ H ρ Z Dd De S h k1 k2 k3 k4=>?_⟩
 refine l1 σ H ρ Z _ _ S h fun ds us ad H1 e1 S1 rs len h1=>?_
 split at h1
 ·cases rs with
  |cons r1 r2=>
   cases r2 with
   |cons r2 r3=>
    cases r3 with
    |cons r3 r4=>
     cases r4
     exact⟨_,_,_,rfl,k1 _ _ ad H1 e1 ⟨S1.mu,((S1.rho.set r1).set r2).set r3⟩ h1⟩
 ·exact h1.elim
end
open PySem PySem.Spec PyProof.Rows
def yC(Z:Mu)(a:Addr):Mu:=⟨fun b=>if b=a then none else Z b,Z.b⟩
theorem xF{Z:Mu}{a:Addr}:yC Z a a=none:=if_pos rfl
theorem se{Z:Mu}{a b:Addr}(h:b≠a):yC Z a b=Z b:=if_neg h
noncomputable def Th(Z:Mu)(Qd:DK):DK:=fun d U=>match d with
 |.v x=>Qd (.v x) U
 |.m a=>Z a=none/\∃es,U a=some es/\Qd (.v (.list es)) (yC U a)
 |_=>False
theorem OV{P:Program}{w:World}{K:PySem.W.Frag}{mg:Str->Option Value}{base:Heap}{CX:CXT}{k:Nat}{f:Addr}{fd:FuncData}{ps:List Str}{sp sp':DSp}(F:bu P w K mg base CX k f fd ps (spD K sp))
  (h:∀ds Z Qd,sp' ds Z Qd->sp ds Z (Th Z Qd)):bu P w K mg base CX k f fd ps (spD K sp'):=by
 refine F.imp fun vs H Q E h'=>?_
 obtain⟨ds,Z,Qd,ok,r,s,kk⟩:=h'
 refine⟨ds,Z,_,ok,r,h _ _ _ s,fun d u U H' e ok' rd q=>?_⟩
 cases d with
 |v x=>exact kk (.v x) u U H' e ok' rd q
 |m a=>
  obtain⟨n,es,he,q⟩:=q
  obtain⟨rfl,_⟩:=rd
  obtain⟨xs,h1,h2⟩:=ok'.lst a es he
  have sb:eS (yC U a) U:=⟨fun b ds z=>by
   by_cases c:b=a
   ·rw[c,xF] at z;cases z
   ·rw[se c] at z;exact z,fun _ _ z=>z⟩
  refine kk (.v (.list es)) (.ref a) (yC U a) H' ⟨e.keep,e.tb,fun b ds z=>?_,fun b z g=>?_,e.st,e.bx⟩ (xj ok' sb) (show Rp K (yC U a) H' (.list es) (.ref a) from .list h1 xF (h2.sub fun b hb=>sb.none hb)) q
  ·have c:b≠a:=fun c=>by rw[c,n] at z;cases z
   rw[se c];exact e.dom b ds z
  ·exact sb.none (e.fresh b z g)
 |s ns=>exact q.elim
 |o a=>exact q.elim
 |b _=>exact q.elim
 |q p=>exact q.elim
end L2.DL
namespace L2
open PySem PySem.Spec PyProof.Rows
end L2
namespace L2.DL
open PySem PySem.Spec PyProof.Rows
end L2.DL
namespace L2
open PySem PySem.Spec PyProof.Rows
section
variable {X:Cx}
def OS:V->List V->Hp->VK->Prop:=fun x vs H Q=>∃(l:Addr) (xs:List V) (i:Nat) (y:V),x = .ref l/\vs=[.int (i:Nat),y]/\H l=some (.lst xs)/\i<=xs.length/\xs.length<=1000/\Q .non (upd H l (.lst (xs.take i++y::xs.drop i)))
theorem Vals.ins{xs:List V}{us:List Value}{y:V}{u:Value}(h:Vals xs us)(r:RelV y u):∀i:Nat,Vals (xs.take i++y::xs.drop i) (us.take i++u::us.drop i):=by
 induction h with
 |nil=>intro i;simp;exact .cons r .nil
 |cons p t ih=>
  intro i
  cases i with
  |zero=>exact .cons r (.cons p t)
  |succ i=>exact .cons p (ih i)
theorem KP:MtM X "list.insert" OS:=by
 intro pins s σ H x vs v us Q I rx rv h
 obtain⟨l,xs,i,y,rfl,rfl,hH,hi,hz,q⟩:=h
 cases rx
 obtain⟨u1,u2,rfl,ru1,ru2⟩:=vals2 rv
 obtain⟨t,rfl⟩:=ru1
 obtain⟨z,its,n,r,hl,e⟩:=I.Ao hH
 have hs:(1000:Nat)<sizeLine:=by decide
 have fit:Builtin.List.listFitsIndex (i:Int)=true:=by
  unfold Builtin.List.listFitsIndex
  rw[and_eq_true,decide_eq_true_eq,decide_eq_true_eq]
  have p:(2:Int) ^ 63=9223372036854775808:=by decide
  rw[p]
  omega
 obtain⟨x,hx⟩:∃x:Int,x=(i:Int):=⟨_,rfl⟩
 rw[<- hx] at fit ⊢
 have hn:¬ (!Builtin.List.listFitsIndex x)=true:=by rw[fit];exact Bool.false_ne_true
 have hsz:its.toArray.size<=sizeLine:=by rw[size_toArray];omega
 have M:=AutoSeq1.list_insert_list_int_val_1 l its.toArray n x t u2 hn hsz
 refine call_meets F.slot_list_insert ⟨_,e,rfl⟩ F.entry_list_insert (F.args_list_insert_3 _ _ _) M ⟨e,?_⟩
 refine⟨.non,_,I.La (its':=its.take i++u2::its.drop i) hH e ?_ (Vals.ins r ru2 i) ?_,rfl,q⟩
 ·dsimp only
  rw[if_neg ∅,hx,Int.toNat_natCast,size_toArray,Nat.min_eq_left ∅]
  apply Array.ext'
  simp
  exact List.take_of_length_le (by simp)
 ·simp
  omega
end
end L2
namespace L2.DL
open PySem PySem.Spec PyProof.Rows
section
variable {X:Cx}{o i e:Expr}{to ti te:DTE}{apos cpos:Pos}
theorem RpL.ins{K:PySem.W.Frag}{Z:Mu}{H:Hp}{ds:List PyData}{us:List V}{d:PyData}{u:V}(q:Rp K Z H d u):∀(i:Nat),RpL K Z H ds us->RpL K Z H (ds.take i++d::ds.drop i) (us.take i++u::us.drop i)
 |_,.nil=>by simp;exact .cons q .nil
 |0,.cons p t=>.cons q (.cons p t)
 |i+1,.cons p t=>.cons p (RpL.ins q i t)
noncomputable def Oq(to ti te:DTE):DTE:=fun ρ Z Q=>to ρ Z fun x ad=>match x with
 |.m l=>ti ρ ad fun z am=>te ρ am fun y be=>∃(j:Nat) (d:PyData) (xs:List PyData),z = .v (.int (j:Nat))/\y = .v d/\be l=some xs/\j<=xs.length/\xs.length<=1000/\Q (.v .none) (az be l (xs.take j++d::xs.drop j))
 |_=>False
theorem Lg(ho:DE X o to)(hi:DE X i ti)(ha:DE X e te)(hbase:attributeBase o "insert" X.env (eval o X.env)=eval o X.env:=by rfl)
  (hfew:((backTo cpos (starEach [i,e] X.env)).all (fun x=>!x.1)&&(backToKw cpos (keywordEach [] X.env)).all (fun x=>x.1.isSome)
   && decide ([i,e].length+([]:List Keyword).length+(if ([]:List Keyword).isEmpty then 0 else 1)<30))=true:=by rfl)
  (hline:(apos.endLine==cpos.line)=true:=by rfl) (hs:starEach [i,e] X.env=(false,eval i X.env)::starEach [e] X.env:=by rfl) (hs2:starEach [e] X.env=(false,eval e X.env)::starEach [] X.env:=by rfl) (hplain:(backTo cpos (starEach [e] X.env)).any (·.1)=false:=by rfl) :
  DE X (.Call (.Attribute o "insert" apos) [i,e] [] cpos) (Oq to ti te):=by
 obtain⟨t1,p1,l1⟩:=ho
 obtain⟨t3,p3,l3⟩:=hi
 obtain⟨t2,p2,l2⟩:=ha
 refine⟨_,MW plainAttrs_list PySem.F.slot_list_insert PySem.F.type_list_insert KP p1 (i6 p3 (i6 p2 uW hs2) hs) hbase hfew hline hs hplain,fun σ H ρ Z Qd Q S h k=>?_⟩
 refine l1 σ H ρ Z _ _ S h fun x ux ad H1 e1 S1 rx h1=>?_
 cases x with
 |m l=>
  obtain⟨rfl,ds,hm⟩:=id rx
  obtain⟨us,hl,rl⟩:=S1.mu l ds hm
  refine⟨.inl ⟨rfl,us,SqL.of hl⟩,?_⟩
  refine l3 σ H1 ρ ad _ _ S1 h1 fun z uz am H2 e2 S2 rz h2=>?_
  refine l2 σ H2 ρ am _ _ S2 h2 fun y uy be H3 e3 S3 ry h3=>?_
  obtain⟨j,d,xs,rfl,rfl,hx,hj,hz,q⟩:=h3
  obtain⟨us3,hl3,rl3⟩:=S3.mu l xs hx
  cases rz
  refine⟨l,us3,j,uy,rfl,rfl,hl3,by rw[<- rl3.length];exact hj,by rw[<- rl3.length];exact hz,?_⟩
  have ex:Ext X.K be H3 (az be l (xs.take j++d::xs.drop j)) (upd H3 l (.lst (us3.take j++uy::us3.drop j))):=gh hx
  exact k (.v .none) .non _ _ (e1.trans (e2.trans (e3.trans ex))) ⟨S3.mu.set hx (rl3.ins ry j),S3.rho.ext S3.mu ex⟩ Rp.none q
 |v d=>exact h1.elim
 |s _=>exact h1.elim
 |o _=>exact h1.elim
 |b _=>exact h1.elim
 |q _=>exact h1.elim
theorem So{ρ:Rho}{Z:Mu}{Q:DK}:Oq to ti te ρ Z Q=to ρ Z (fun x ad=>match x with
 |.m l=>ti ρ ad fun z am=>te ρ am fun y be=>∃(j:Nat) (d:PyData) (xs:List PyData),z = .v (.int (j:Nat))/\y = .v d/\be l=some xs/\j<=xs.length/\xs.length<=1000/\Q (.v .none) (az be l (xs.take j++d::xs.drop j))
 |_=>False):=propext Iff.rfl
end
end L2.DL
namespace L2
open PySem PySem.Spec PyProof.Rows
section
variable {X:Cx}
def RE(x y:Str):Int:=match Builtin.Str.lastOccurrence x y 0 x.length with|some i=>(i:Nat)|none=>-1
end
end L2
namespace L2
open PySem PySem.Spec PyProof.Rows
end L2
namespace L2
open PySem PySem.Spec PyProof.Rows
end L2
namespace L2.DL
open PySem PySem.Spec PyProof.Rows
section
variable {X:Cx}{a b e e1 e2 o:Expr}{es:List Expr}{ta tb te to:DTE}{t:DTA}{pos p p2 apos cpos:Pos}{lo hi:Option Expr}
def OY(x y:Str):Bool:=decide (0+y.length<=x.length)&&Builtin.Str.subAt x y 0
def Tc(x y:Str):Bool:=decide (0+y.length<=x.length)&&Builtin.Str.subAt x y (x.length-y.length)
end
section
variable {X:Cx}{a b e e1 e2 o tg:Expr}{es:List Expr}{ta tb te to:DTE}{t:DTA}{pos p p2 apos cpos:Pos}{lo hi:Option Expr}
abbrev DTJ:=Str->Rho->Mu->(Str->Mu->Prop)->Prop
end
section
variable {X:Cx}{e o:Expr}{te to:DTE}{apos cpos:Pos}
def C1(x y:Str):PyData:=.bool (OY x y)
def Mk(x y:Str):PyData:=.bool (Tc x y)
def Ha(x y:Str):PyData:=.int (RE x y)
end
def Ite(K:PySem.W.Frag)(l:Addr):It:=
 ⟨fun i H=>∃xs x,SqL K H l xs/\xs[i]? = some x,
  fun i H v H'=>∃p x,v = .ref p/\H p=none/\H'=upd H p (.tup [.int i,x])/\(∀xs,SqL K H l xs->xs[i]? = some x),
  fun i H=>∃xs,SqL K H l xs/\xs.length<=i⟩
noncomputable def PX(e it l:Addr)(i:Nat)(h:Heap):Prop:=(∃old,IsEnum h e it i old)/\h.IsListIter it l i
theorem Kk{P:Program}{w:World}{K:PySem.W.Frag}{es:List Expr}{x1:Nat}{pos:Pos}(e it l:Addr)(hei:e≠it) :
  Turn true P w K (.Tuple es x1 pos) (Ite K l) [e,it] e (PX e it l) where
 mem:=by simp
 obj:=fun i h st b hb=>by
  obtain⟨⟨old,a1⟩,⟨o4,a4,c4,d4⟩⟩:=st
  simp only[mem_cons,not_mem_nil,or_false] at hb
  rcases hb with rfl|rfl
  ·exact⟨_,a1,fun v z=>by cases z⟩
  ·exact⟨_,a4,fun v z=>by rw[d4] at z;cases z⟩
 keep:=fun i h h' st k=>by
  obtain⟨⟨old,a1⟩,a4⟩:=st
  exact⟨⟨old,k e (by simp) _ a1⟩,a4.at fun o e=>k it (by simp) o e⟩
 item:=by
  intro X hP hw hK hc i pins s σ H E I hf st hg
  subst hP hw hK
  obtain⟨xs,x,hq1,hx⟩:=hg
  obtain⟨its1,rv1,p1,_⟩:=I.list hq1
  obtain⟨u,hu,ru⟩:=rv1.get hx
  obtain⟨⟨old,a1⟩,a4⟩:=id st
  refine wpAny_pyNext_enum_item a1 a4 p1.isList (x:=u) (by simpa using hu) hei fun h' b1 b2 b3 b4 b5=>?_
  refine⟨.ref s.heap.objs.size,rfl,wpAny_letOwnedTupleGo_enum (s:={s with heap:=h',toks:=s.toks+1}) b1 fun h2 c1 sb=>?_⟩
  have hne:s.heap.objs.size≠e:=Nat.ne_of_gt (Heap.lt_size a1)
  have hT:h2.get? s.heap.objs.size=some {cls:=.type "tuple",data:=.seq #[.int i s.toks,u]}:=sb.extBut _ _ hne b3
  refine⟨.ref s.heap.objs.size,upd H s.heap.objs.size (.tup [.int i,x]),?_,rfl,⟨s.heap.objs.size,x,rfl,I.hok.fresh (le_refl _),rfl,fun zs hz=>by rw[I.EM hz hq1];exact hx⟩,?_,fun b hb=>?_⟩
  ·refine Inv.Ig (s:=s) (h':=h2) (t':=s.toks+1) (ch:=[e,it]) I hf (fun b o hb e=>?_) (le_refl _) ⟨by show 2<=sizeLine;decide,[.int i s.toks,u],.cons ⟨_,rfl⟩ (.cons ru .nil),_,hT,rfl,0,rfl⟩
   simp only[mem_cons,not_mem_nil,or_false,not_or] at hb
   exact sb.extBut _ _ hb.1 (b5 b o hb.1 hb.2 e)
  ·exact⟨⟨_,by simpa using c1⟩,b2.at fun o e=>sb.extBut _ o (Ne.symm hei) e⟩
  ·have hb':b<s.heap.objs.size:=by
    simp only[mem_cons,not_mem_nil,or_false] at hb
    obtain⟨o4,e4,_⟩:=a4
    rcases hb with rfl|rfl
    ·exact Heap.lt_size a1
    ·exact Heap.lt_size e4
   rw[aV (ne_of_lt hb')]
   exact (hf b hb).1
 done:=by
  intro X hP hw hK hc i pins s σ H E I hf st hg
  subst hP hw hK
  obtain⟨xs,hq1,hx⟩:=hg
  obtain⟨its1,rv1,p1,_⟩:=I.list hq1
  obtain⟨⟨old,a1⟩,a4⟩:=id st
  have hl1:=rv1.length
  refine wpAny_pyNext_enum_end (I.ok.hd (hc rfl)) a1 a4 p1.isList (by simp;omega) fun h' b7=>⟨rfl,?_⟩
  refine Inv.Ov (t':=s.toks) (ch:=[e,it]) I hf fun b o hb e=>?_
  simp only[mem_cons,not_mem_nil,or_false,not_or] at hb
  exact b7 b o hb.2 e
 self:=fun _ _ _ _ _ st h=>by
  obtain⟨⟨old,a1⟩,_⟩:=st
  exact wpAny_pyIter_enum a1 h
section
variable {X:Cx}{es:List Expr}{x1:Nat}{tpos:Pos}
noncomputable def Tq(K:PySem.W.Frag)(ta:TA):TI:=fun σ H R=>ta σ H fun vs H1=>∃l,vs=[.ref l]/\(∃xs,SqL K H1 l xs)/\R (Ite K l) H1
theorem Oh{a:Expr}{ta:TA}{p pos:Pos}(hc:X.calm=true)(hg:Gl X "enumerate")(hm:X.mg "enumerate"=none)(ha:PA X [a] ta)(hs:starEach [a] X.env=[(false,eval a X.env)]:=by rfl) :
  PI X (.Tuple es x1 tpos) (.Call (.Name "enumerate" p) [a] [] pos) (Tq X.K ta):=by
 intro pins s σ H R I h
 refine Call_ (rf I hg hm PyProof.Rows.Boot.«enumerate» (PyProof.Rows.callWith_type1 (thn (ha pos pins s σ H _ I h) fun us s1 hq0=>?_) (by rw[hs];rfl) (by rfl)))
 obtain⟨vs,H1,I1,r1,q1⟩:=hq0
 obtain⟨l1,e,⟨xs,hq1⟩,q⟩:=q1
 subst e
 cases r1 with
 |cons r rr=>
  cases rr
  cases r
  obtain⟨its1,rv1,p1,_⟩:=I1.list hq1
  refine call_enumerate_list p1.isList fun h' hz hi1 hsz hk=>?_
  refine wpAny_pyIter_enum (s:={s1 with heap:=h'}) hz ?_
  refine⟨s1.heap.objs.size+1,[s1.heap.objs.size+1,s1.heap.objs.size],_,_,H1,rfl,I1.kept (t':=s1.toks) hk,(Kk _ _ l1 (Nat.succ_ne_self _)).calm hc,⟨⟨_,hz⟩,hi1⟩,fun b hb=>?_,q⟩
  have hb':s1.heap.objs.size<=b:=by
   simp only[mem_cons,not_mem_nil,or_false] at hb
   rcases hb with rfl|rfl
   ·exact Nat.le_add_right _ 1
   ·exact le_refl _
  exact I1.HP hb' (I1.hok.fresh hb')
def j1:Nat->List PyData->List PyData
 |_,[]=>[]
 |i,x::xs=>.tuple [.int i,x]::j1 (i+1) xs
theorem uY:∀{xs:List PyData} {j i:Nat} {x:PyData},xs[i]? = some x->(j1 j xs)[i]? = some (.tuple [.int ((j+i:Nat):Int),x])
 |_::_,j,0,x,h=>by simp at h;subst h;rfl
 |_::xs,j,i+1,x,h=>by
  have:=uY (xs:=xs) (j:=j+1) (i:=i) (x:=x) (by simpa using h)
  rw[show j+1+i=j+(i+1) by omega] at this
  exact this
 |[],j,i,x,h=>by simp at h
theorem vc:∀(j:Nat) (xs:List PyData),(j1 j xs).length=xs.length
 |_,[]=>rfl
 |j,_::xs=>by show (j1 (j+1) xs).length+1=xs.length+1;rw[vc]
noncomputable def xU(t:DTA):DTI:=fun ρ Z Q=>t ρ Z fun ds ad=>match ds with
 |[.v (.list xs)]=>Q (j1 0 xs) ad
 |_=>False
theorem DQ{a:Expr}{t:DTA}{p pos:Pos}(hg:Gl X "enumerate")(hm:X.mg "enumerate"=none)(ha:DA X [a] t)(hs:starEach [a] X.env=[(false,eval a X.env)]:=by rfl)(hc:X.calm=true:=by rfl) :
  DI X (.Tuple es x1 tpos) (.Call (.Name "enumerate" p) [a] [] pos) (xU t):=by
 obtain⟨t1,p1,l1⟩:=ha
 refine⟨_,Oh hc hg hm p1 hs,fun σ H ρ Z Qd R S h k=>?_⟩
 refine l1 σ H ρ Z _ _ S h fun ds us ad H1 e1 S1 rs len h1=>?_
 split at h1
 ·rename_i xs
  cases rs with
  |cons r1 r2=>
   cases r2
   cases r1 with
   |@list a us _ ha hn ra=>
    refine⟨a,rfl,⟨us,SqL.of ha⟩,k (j1 0 xs) ad H1 _ e1 S1 (fun am H2 e2 ok2 i=>⟨fun hi=>?_,fun hi=>?_⟩) h1⟩
    ·rw[vc] at hi
     have ha2:=e2.keep _ _ ha hn trivial
     have i1:i<us.length:=by rw[<- ra.length];omega
     refine⟨⟨us,us[i],SqL.of ha2,by simp[i1]⟩,?_⟩
     rintro v H' ⟨p,x,rfl,hp,rfl,hx⟩
     obtain⟨u',h1',h2'⟩:=ra.get (i:=i) (d:=xs[i]'∅) (by simp)
     have z1:=hx us (SqL.of ha2)
     rw[h1'] at z1
     cases z1
     have eg:=uY (xs:=xs) (j:=0) (i:=i) (x:=xs[i]'∅) (by simp)
     rw[Nat.zero_add] at eg
     refine⟨.tuple [.int i,xs[i]'∅],eg,Gk hp,?_⟩
     exact jB ok2 (.cons (Rp.int _) (.cons (h2'.ext S1.mu e2) .nil)) hp
    ·rw[vc] at hi
     have l1:=ra.length
     exact⟨us,SqL.of (e2.keep _ _ ha hn trivial),∅⟩
 ·exact h1.elim
theorem yG{t:DTA}{ρ:Rho}{Z:Mu}{Q:List PyData->Mu->Prop}:xU t ρ Z Q=t ρ Z fun ds ad=>match ds with|[.v (.list xs)]=>Q (j1 0 xs) ad|_=>False:=propext Iff.rfl
end
open PySem PySem.Spec PyProof.Rows NM
theorem fH{n m:Nat}{i j:Int}(h:Sz n i)(g:Sz m j)(l:n+m<=100000):IntMulOk i j:=by
 have b1:∀{k:Nat} {z:Int},Sz k z->Builtin.Int.intBits z<=k:=fun {k z} hz=>by
  unfold Builtin.Int.intBits
  split
  ·exact zero_le _
  ·rename_i q
   have hz':z.natAbs≠0:=by simp at q;omega
   have:=(Nat.log2_lt hz').mpr hz.lt
   omega
 have e1:=b1 h
 have e2:=b1 g
 unfold IntMulOk
 intro z
 simp only[and_eq_true] at z
 have z3:=z.2
 unfold Builtin.Int.intTooBig at z3
 simp only[decide_eq_true_eq] at z3
 have:(100000:Int)<=bitsLine:=by decide
 omega
theorem BE{n:Nat}{i j:Int}(h0:j≠0)(h:Sz n j)(l:n<=8900):vC i j:=by
 refine⟨h0,PyProof.noPylong_of_log2 ?_⟩
 have hz':j.natAbs≠0:=by omega
 have:=(Nat.log2_lt hz').mpr h.lt
 omega
theorem divC{i j:Int}(h0:j≠0)(h1:j.natAbs<1073741824):vC i j:=⟨h0,PyProof.noPylong_small h1⟩
theorem mulL{i j:Int}(h:i.natAbs<2 ^ 64):IntMulOk i j:=NJ.ok (.inl ∅)
theorem mulR{i j:Int}(h:j.natAbs<2 ^ 64):IntMulOk i j:=NJ.ok (.inr ∅)
def dN(x:N3):PyData:=.tuple [.int x.a,.int x.b,.int x.c]
def isWhole(d:PyData):Bool:=isT "int" d&&!isT "bool" d
def isNum:PyData->Bool
 |.tuple [.int a,.int b,.int c]=>decide (1<=c)&&(g3 a b c==1)
 |_=>false
noncomputable def jb:DSp:=fun ds Z Q=>∃d,ds=[.v d]/\Q (.v (.bool (isWhole d))) Z
noncomputable def og:DSp:=fun ds Z Q=>∃a b:Int,ds=[.v (.int a),.v (.int b)]/\Q (.v (.int (Int.gcd a b:Nat))) Z
noncomputable def yH:DSp:=fun ds Z Q=>∃a b c:Int,ds=[.v (.int a),.v (.int b),.v (.int c)]/\Q (.v (.int (g3 a b c:Nat))) Z
def Few:PyData->Prop
 |.tuple xs=>xs.length<=1000
 |_=>True
noncomputable def lS:DSp:=fun ds Z Q=>∃d,ds=[.v d]/\Few d/\Q (.v (.bool (isNum d))) Z
noncomputable def cO:DSp:=fun ds Z Q=>∃a b c:Int,ds=[.v (.int a),.v (.int b),.v (.int c)]/\c≠0/\Sz 8800 c/\Q (.v (dN (low a b c))) Z
noncomputable def pT:DSp:=fun ds Z Q=>∃x:N3,ds=[.v (dN x)]/\Q (.v (dN (minus x))) Z
noncomputable def sp2(f:N3->N3->N3):DSp:=fun ds Z Q=>∃x y:N3,ds=[.v (dN x),.v (dN y)]/\Ok x/\Ok y/\Bd 4300 x/\Bd 4300 y/\Q (.v (dN (f x y))) Z
noncomputable abbrev mO:DSp:=sp2 plus
noncomputable abbrev xW:DSp:=sp2 less
noncomputable def lU:DSp:=fun ds Z Q=>∃(d:Int) (x y:N3),ds=[.v (.int d),.v (dN x),.v (dN y)]/\Sz 5 d/\Ok x/\Ok y/\Bd 4300 x/\Bd 4300 y/\Q (.v (dN (times d x y))) Z
noncomputable def cU:DSp:=fun ds Z Q=>∃(d:Int) (x:N3),ds=[.v (.int d),.v (dN x)]/\Sz 5 d/\norm d x≠0/\Bd 4300 x/\Q (.v (dN (aL d x))) Z
noncomputable def rg:DSp:=fun ds Z Q=>∃(d:Int) (x y:N3),ds=[.v (.int d),.v (dN x),.v (dN y)]/\aJ d/\Ok x/\Ok y/\y≠aC/\Bd 2100 x/\Bd 2100 y/\Q (.v (dN (times d x (aL d y)))) Z
noncomputable def rC:DSp:=fun ds Z Q=>∃d a b:Int,ds=[.v (.int d),.v (.int a),.v (.int b)]/\Sz 5 d/\Sz 9900 a/\Sz 9900 b/\Q (.v (.int (sg d a b))) Z
noncomputable def kJ:DSp:=fun ds Z Q=>∃(d:Int) (x:N3),ds=[.v (.int d),.v (dN x)]/\aJ d/\Bd 8900 x/\Q (.v (.int (sg d x.a x.b))) Z
def dif(d:Int)(x y:N3):Int:=sg d (x.a*y.c-y.a*x.c) (x.b*y.c-y.b*x.c)
noncomputable def w6:DSp:=fun ds Z Q=>∃(d:Int) (x y:N3),ds=[.v (.int d),.v (dN x),.v (dN y)]/\aJ d/\Bd 4400 x/\Bd 4400 y/\Q (.v (.bool (decide (dif d x y=1)))) Z
noncomputable def Bag(Z:Mu)(a:Addr):Prop:=∃g m:Int,Z a=some [.int g,.int m]/\0<=g/\0<=m/\m<2147483648
noncomputable def Step(a:Addr)(Z U:Mu):Prop:=Bag U a/\∀b,b≠a->U b=Z b
noncomputable def J2:DSp:=fun ds Z Q=>∃(ns:List Int) (k:Int),ds=[.s ns,.v (.int k)]/\0<=k/\k<=1000/\∀p U,Z p=none->Step p Z U->Q (.m p) U
noncomputable def bB:DSp:=fun ds Z Q=>∃(a:Addr) (n:Int),ds=[.m a,.v (.int n)]/\1<=n/\n<=1000000000/\Bag Z a/\∀r U,0<=r->r<n->Step a Z U->Q (.v (.int r)) U
noncomputable def pQ:DSp:=fun ds Z Q=>∃a:Addr,ds=[.m a]/\Bag Z a/\∀x U,Ok x->Bd 20 x->Step a Z U->Q (.v (dN x)) U
noncomputable def w8:DSp:=fun ds Z Q=>∃a:Addr,ds=[.m a]/\Bag Z a/\∀d U,aJ d->Step a Z U->Q (.v (.int d)) U
theorem Step.trans{a:Addr}{Z ad am:Mu}(h:Step a Z ad)(g:Step a ad am):Step a Z am:=⟨g.1,fun b n=>(g.2 b n).trans (h.2 b n)⟩
theorem Step.set{a:Addr}{Z:Mu}{g m:Int}(h1:0<=g)(h2:0<=m)(h3:m<2147483648):Step a Z (az Z a [.int g,.int m]):=⟨⟨g,m,aI,h1,h2,h3⟩,fun b n=>aT n⟩
def mkW(s:String):Lean.MacroM (Lean.TSyntax `tactic):=do let a<-(s.splitOn " ").toArray.mapM fun t=>if t.front=='↓' then `(Lean.Parser.Tactic.simpLemma|↓$(Lean.mkIdent (t.drop 1).toName):term) else `(Lean.Parser.Tactic.simpLemma|$(Lean.mkIdent t.toName):term);`(tactic|simp only[$a,*])
local macro_rules|`(tactic| walk_at "rd")=>mkW "↓yF ↓zk ↓zr ↓xu ↓xY ↓yo ↓x6 ↓yK ↓x9 ↓zR ↓sJ ↓q_c ↓Tn ↓q_B ↓Nn ↓ET ↓Fh ↓MX ↓PD ↓xl ↓Nq ↓yc ↓Sy ↓GG ↓ze ↓GH ↓GP ↓yd ↓Fv ↓Fj ↓EO ↓E6 ↓EU ↓Gg ↓y6 ↓x8 ↓yI ↓uK ↓vd ↓ur ↓yw ↓vy ↓rQ ↓FV ↓Fm ↓GC ↓L1 ↓oj ↓yV ↓GJ ↓RZ ↓zA ↓x5 ↓zE ↓zo ↓E8 ↓LW ↓yL ↓tE ↓G5 ↓Et ↓EH ↓rV ↓yW ↓sS ↓xp ↓yh ↓Pz ↓EK ↓xn ↓Gi ↓FU ↓zG ↓Pw ↓sM ↓L3 ↓Gz ↓G9 ↓xx ↓nS ↓rR ↓nX ↓oV ↓nR ↓Fu Ko ↓n8 ↓mK zM y9 Gp EA Fy bind_none bind_some join_some List.getElem?_cons_zero List.getElem?_cons_succ aO dN oA vG vX xD Bv List.map List.append List.replicate length_cons length_nil Nat.reduceAdd Nat.reduceSub nil_append cons_append set_cons_zero List.set_cons_succ map_some ↓reduceIte Bool.not_true Bool.not_false false_eq_true Bool.true_eq_false xor_false false_xor"
noncomputable def j2:DTS:=
 (bq (nB (zU "int" (ai 0)) (Np (zU "bool" (ai 0)))))
noncomputable def fM:DTS:=
 (aP (uq (dB (dOp (de true) (ai 1) (dC (.int 0)))) (zJ 0 1 (ag (ai 1) (ag (wc (ai 0) (ai 1)) av))))
 (bq (dCB sA (ag (ai 0) av))))
noncomputable def gn:DTS:=
 (bq (ay og (ag (ay og (ag (ai 2) (ag (ai 0) av))) (ag (ai 1) av))))
noncomputable def jC:DTS:=
 (aP (zJ 0 1 (ag (dCB sA (ag (ai 0) av)) (ag (dCB sA (ag (ai 1) av)) av)))
 (aP (uq (dB (dOp rGt (ai 1) (dC (.int 0)))) (zJ 0 1 (ag (ai 1) (ag (wc (ai 0) (ai 1)) av))))
 (bq (ai 0))))
section
theorem JQ(x:Int){y:Int}(h:y≠0):(x.fmod y).natAbs<y.natAbs:=by
 have e:=Int.mul_fdiv_add_fmod x y
 have:=Int.fmod_def x y
 rcases Int.lt_or_gt_of_ne h with h|h
 ·have k:=Int.neg_fmod_neg (a:=x) (b:=y)
  have h1:=Int.fmod_nonneg_of_pos (-x) (show 0 < -y by omega)
  have h2:=Int.fmod_lt_of_pos (-x) (show 0 < -y by omega)
  omega
 ·have h1:=Int.fmod_nonneg_of_pos x h
  have h2:=Int.fmod_lt_of_pos x h
  omega
theorem Er(x y:Int):Int.gcd y (x.fmod y)=Int.gcd x y:=by
 have e:=Int.mul_fdiv_add_fmod x y
 have e':x.fmod y=x+y*(-(x.fdiv y)):=by rw[Int.mul_neg];omega
 rw[e',Int.gcd_add_mul_left_right,Int.gcd_comm]
theorem wa{Z Qd ds}(h:jb ds Z Qd):j2 ‹Qd› (aO [""] ds) Z:=by
 obtain⟨d,rfl,q⟩:=h
 unfold j2
 walk_at "rd"
 unfold isWhole at q
 cases hb:isT "int" d<;>simp_all
theorem rP{Z Qd ds}(h:og ds Z Qd):fM ‹Qd› (aO ["",""] ds) Z:=by
 obtain⟨a,b,rfl,q⟩:=h
 unfold fM
 walk_at "rd"
 refine⟨fun m ρ U=>∃x y:Int,ρ=[some (.v (.int x)),some (.v (.int y))]/\m=y.natAbs/\Int.gcd x y=Int.gcd a b/\U=Z,⟨_,a,b,rfl,rfl,rfl,rfl⟩,?_⟩
 rintro m ρ U ⟨x,y,rfl,rfl,hg,rfl⟩
 walk_at "rd"
 by_cases hy:y=0
 ·subst hy
  have e:Int.gcd x 0=x.natAbs:=Int.gcd_zero_right x
  rw[<- hg,e] at q
  simpa using q
 ·have z:(true ^^ decide (y=0))=true:=by simp[hy]
  rw[if_pos z]
  exact⟨hy,_,JQ x hy,y,x.fmod y,rfl,rfl,(Er x y).trans hg,trivial⟩
theorem ye{Z Qd ds}(h:og ds Z Qd):jC ‹Qd› (aO ["",""] ds) Z:=by
 obtain⟨a,b,rfl,q⟩:=h
 unfold jC
 walk_at "rd"
 refine⟨fun m ρ U=>∃x y:Int,ρ=[some (.v (.int x)),some (.v (.int y))]/\m=y.natAbs/\0<=x/\0<=y/\Int.gcd x y=Int.gcd a b/\U=Z,⟨_,_,_,rfl,rfl,∅,∅,by simp[Int.gcd],rfl⟩,?_⟩
 rintro m ρ U ⟨x,y,rfl,rfl,hx,hy,hg,rfl⟩
 walk_at "rd"
 by_cases h0:0<y
 ·rw[if_pos (by simpa using h0)]
  have hy':y≠0:=by omega
  exact⟨hy',_,JQ x hy',y,x.fmod y,rfl,rfl,∅,Int.fmod_nonneg_of_pos x h0,(Er x y).trans hg,trivial⟩
 ·rw[if_neg (by simpa using h0)]
  have e:y=0:=by omega
  subst e
  rw[Int.gcd_zero_right] at hg
  have:x=((Int.gcd a b:Nat):Int):=by omega
  rw[this]
  exact q
theorem si{Z Qd ds}(h:yH ds Z Qd):gn ‹Qd› (aO ["","",""] ds) Z:=by
 obtain⟨a,b,c,rfl,q⟩:=h
 unfold gn
 walk_at "rd"
 rw[<- O2] at q
 exact⟨c,a,rfl,_,b,rfl,q⟩
end
noncomputable def u5:DTS:=
 (aP (cC (dB (dOp (de false) (ai 2) (dC (.int 0)))) um bI)
 (aP (bo (ay yH (ag (ai 0) (ag (ai 1) (ag (ai 2) av)))) (aq 3))
 (aP (cC (dB (dOp rLt (ai 2) (dC (.int 0)))) (bo (yx (ai 3)) (aq 3)) bI)
 (bq (bO (ag (uQ (ai 0) (ai 3)) (ag (uQ (ai 1) (ai 3)) (ag (uQ (ai 2) (ai 3)) av))))))))
noncomputable def nT:DTS:=
 (aP (bo (bR (ay og (ag (ay og (ag (ai 0) (ag (ai 1) av))) (ag (ai 2) av))) (dOp aM (qi (ag (dC (.int 1)) (ag (yx (dC (.int 1))) av))) (dCB sV (ag (dOp rLt (ai 2) (dC (.int 0))) av)))) (aq 3))
 (bq (bO (ag (uQ (ai 0) (ai 3)) (ag (uQ (ai 1) (ai 3)) (ag (uQ (ai 2) (ai 3)) av))))))
noncomputable def kF:DTS:=
 (bq (bO (ag (lH (dC (.int 0)) (dOp aM (ai 0) (dC (.int 0)))) (ag (lH (dC (.int 0)) (dOp aM (ai 0) (dC (.int 1)))) (ag (dOp aM (ai 0) (dC (.int 2))) av)))))
noncomputable def CT:DTS:=
 (bq (ay cO (ag (bZ (bR (dOp aM (ai 0) (dC (.int 0))) (dOp aM (ai 1) (dC (.int 2)))) (bR (dOp aM (ai 1) (dC (.int 0))) (dOp aM (ai 0) (dC (.int 2))))) (ag (bZ (bR (dOp aM (ai 0) (dC (.int 1))) (dOp aM (ai 1) (dC (.int 2)))) (bR (dOp aM (ai 1) (dC (.int 1))) (dOp aM (ai 0) (dC (.int 2))))) (ag (bR (dOp aM (ai 0) (dC (.int 2))) (dOp aM (ai 1) (dC (.int 2)))) av)))))
noncomputable def tR:DTS:=
 (bq (ay cO (ag (bZ (bR (dOp aM (ai 0) (dC (.int 0))) (dOp aM (ai 1) (dC (.int 2)))) (bR (dOp aM (ai 1) (dC (.int 0))) (dOp aM (ai 0) (dC (.int 2))))) (ag (bZ (bR (dOp aM (ai 0) (dC (.int 1))) (dOp aM (ai 1) (dC (.int 2)))) (bR (dOp aM (ai 1) (dC (.int 1))) (dOp aM (ai 0) (dC (.int 2))))) (ag (bR (dOp aM (ai 0) (dC (.int 2))) (dOp aM (ai 1) (dC (.int 2)))) av)))))
noncomputable def xq:DTS:=
 (bq (ay cO (ag (bZ (bR (dOp aM (ai 1) (dC (.int 0))) (dOp aM (ai 2) (dC (.int 0)))) (bR (bR (ai 0) (dOp aM (ai 1) (dC (.int 1)))) (dOp aM (ai 2) (dC (.int 1))))) (ag (bZ (bR (dOp aM (ai 1) (dC (.int 0))) (dOp aM (ai 2) (dC (.int 1)))) (bR (dOp aM (ai 1) (dC (.int 1))) (dOp aM (ai 2) (dC (.int 0))))) (ag (bR (dOp aM (ai 1) (dC (.int 2))) (dOp aM (ai 2) (dC (.int 2)))) av)))))
noncomputable def qq:DTS:=
 (bq (ay cO (ag (bZ (bR (dOp aM (ai 1) (dC (.int 0))) (dOp aM (ai 2) (dC (.int 0)))) (bR (bR (ai 0) (dOp aM (ai 1) (dC (.int 1)))) (dOp aM (ai 2) (dC (.int 1))))) (ag (bZ (bR (dOp aM (ai 1) (dC (.int 0))) (dOp aM (ai 2) (dC (.int 1)))) (bR (dOp aM (ai 1) (dC (.int 1))) (dOp aM (ai 2) (dC (.int 0))))) (ag (bR (dOp aM (ai 1) (dC (.int 2))) (dOp aM (ai 2) (dC (.int 2)))) av)))))
noncomputable def oP:DTS:=
 (aP (bo (lH (bR (dOp aM (ai 1) (dC (.int 0))) (dOp aM (ai 1) (dC (.int 0)))) (bR (bR (ai 0) (dOp aM (ai 1) (dC (.int 1)))) (dOp aM (ai 1) (dC (.int 1))))) (aq 2))
 (bq (ay cO (ag (bR (dOp aM (ai 1) (dC (.int 2))) (dOp aM (ai 1) (dC (.int 0)))) (ag (bR (yx (dOp aM (ai 1) (dC (.int 2)))) (dOp aM (ai 1) (dC (.int 1)))) (ag (ai 2) av))))))
noncomputable def gU:DTS:=
 (bq (ay cO (ag (bR (dOp aM (ai 1) (dC (.int 0))) (dOp aM (ai 1) (dC (.int 2)))) (ag (lH (dC (.int 0)) (bR (dOp aM (ai 1) (dC (.int 1))) (dOp aM (ai 1) (dC (.int 2))))) (ag (lH (bR (dOp aM (ai 1) (dC (.int 0))) (dOp aM (ai 1) (dC (.int 0)))) (bR (bR (ai 0) (dOp aM (ai 1) (dC (.int 1)))) (dOp aM (ai 1) (dC (.int 1))))) av)))))
noncomputable def B3:DTS:=
 (aP (cC (dB (dOp (de false) (ai 2) (dC (.tuple [.int 0,.int 0,.int 1])))) um bI)
 (bq (ay lU (ag (ai 0) (ag (ai 1) (ag (ay cU (ag (ai 0) (ag (ai 2) av))) av))))))
section
variable {Z:Mu}{Qd:DK}{ds:List D}
theorem Ur(i j:Int):PyData.eqv (.int i) (.int j)=decide (i=j):=by simp[PyData.eqv];rfl
theorem gdv{a b c:Int}(h:Sz 8800 c)(hc:c≠0):Sz 8800 ((g3 a b c:Nat):Int):=by
 have h1:=(Md a b c).2.2
 have h2:=Int.natAbs_dvd_natAbs.mpr h1
 exact h.le (Nat.le_of_dvd ∅ h2)
theorem Kw(h:cO ds Z Qd):u5 ‹Qd› (aO ["","","",""] ds) Z:=by
 obtain⟨a,b,c,rfl,hc,hz,q⟩:=h
 unfold u5
 walk_at "rd"
 rw[decide_eq_false hc]
 simp only[xor_false,false_eq_true,↓reduceIte]
 refine⟨a,b,c,rfl,?_⟩
 walk_at "rd"
 have hp:=Em (a:=a) (b:=b) hc
 have hg:=gdv (a:=a) (b:=b) hz hc
 unfold low NM.dv dN at q
 simp only at q
 by_cases hn:c<0
 ·rw[if_pos (by simpa using hn)]
  rw[if_pos hn] at q
  have o:∀i:Int,vC i (-((g3 a b c:Nat):Int)):=fun i=>BE ∅ hg.neg ⋯
  exact⟨o _,o _,o _,q⟩
 ·rw[if_neg (by simpa using hn)]
  rw[if_neg hn] at q
  have o:∀i:Int,vC i ((g3 a b c:Nat):Int):=fun i=>BE ∅ hg ⋯
  exact⟨o _,o _,o _,q⟩
theorem G6(h:cO ds Z Qd):nT ‹Qd› (aO ["","","",""] ds) Z:=by
 obtain⟨a,b,c,rfl,hc,hz,q⟩:=h
 unfold nT
 walk_at "rd"
 refine⟨a,b,rfl,_,c,rfl,?_⟩
 walk_at "rd"
 have hp:=Em (a:=a) (b:=b) hc
 have hg:=gdv (a:=a) (b:=b) hz hc
 unfold low NM.dv dN at q
 simp only at q
 by_cases hn:c<0
 ·simp only[hn,decide_true,↓reduceIte,vX]
  rw[if_pos hn] at q
  have e:((Int.gcd (Int.gcd a b:Nat) c:Nat):Int) * -1 = -((g3 a b c:Nat):Int):=by unfold g3;omega
  walk_at "rd"
  rw[e]
  have o:∀i:Int,vC i (-((g3 a b c:Nat):Int)):=fun i=>BE ∅ hg.neg ⋯
  exact⟨mulR ⋯,o _,o _,o _,q⟩
 ·simp only[hn,decide_false,false_eq_true,↓reduceIte,vG]
  rw[if_neg hn] at q
  have e:((Int.gcd (Int.gcd a b:Nat) c:Nat):Int)*1=((g3 a b c:Nat):Int):=by unfold g3;omega
  walk_at "rd"
  rw[e]
  have o:∀i:Int,vC i ((g3 a b c:Nat):Int):=fun i=>BE ∅ hg ⋯
  exact⟨mulR ⋯,o _,o _,o _,q⟩
theorem AI(h:pT ds Z Qd):kF ‹Qd› (aO [""] ds) Z:=by
 obtain⟨x,rfl,q⟩:=h
 unfold kF
 walk_at "rd"
 simp only[Int.zero_sub]
 exact q
theorem JD(h:mO ds Z Qd):CT ‹Qd› (aO ["",""] ds) Z:=by
 obtain⟨x,y,rfl,ox,oy,bx,by',q⟩:=h
 unfold CT
 walk_at "rd"
 have m:∀{i j:Int},Sz 4300 i->Sz 4300 j->IntMulOk i j:=fun h g=>fH h g ⋯
 exact⟨m bx.a by'.c,m by'.a bx.c,m bx.b by'.c,m by'.b bx.c,m bx.c by'.c,_,_,_,rfl,A7 ox oy,(bx.c.mul by'.c).mono ⋯,q⟩
theorem CW(h:mO ds Z Qd):tR ‹Qd› (aO ["",""] ds) Z:=JD h
theorem Gr(h:lU ds Z Qd):xq ‹Qd› (aO ["","",""] ds) Z:=by
 obtain⟨d,x,y,rfl,hd,ox,oy,bx,by',q⟩:=h
 unfold xq
 walk_at "rd"
 have m:∀{i j:Int},Sz 4300 i->Sz 4300 j->IntMulOk i j:=fun h g=>fH h g ⋯
 exact⟨m bx.a by'.a,fH hd bx.b ⋯,fH (hd.mul bx.b) by'.b ⋯,m bx.a by'.b,m bx.b by'.a,m bx.c by'.c,_,_,_,rfl,A7 ox oy,(bx.c.mul by'.c).mono ⋯,q⟩
theorem zW(h:lU ds Z Qd):qq ‹Qd› (aO ["","",""] ds) Z:=Gr h
theorem E5(h:cU ds Z Qd):oP ‹Qd› (aO ["","",""] ds) Z:=by
 obtain⟨d,x,rfl,hd,hn,bx,q⟩:=h
 unfold oP
 walk_at "rd"
 have m:∀{i j:Int},Sz 4300 i->Sz 4300 j->IntMulOk i j:=fun h g=>fH h g ⋯
 exact⟨m bx.a bx.a,fH hd bx.b ⋯,fH (hd.mul bx.b) bx.b ⋯,m bx.c bx.a,m bx.c.neg bx.b,_,_,_,rfl,hn,(Cf hd bx).mono ⋯,q⟩
theorem uP(h:cU ds Z Qd):gU ‹Qd› (aO ["",""] ds) Z:=by
 obtain⟨d,x,rfl,hd,hn,bx,q⟩:=h
 unfold gU
 walk_at "rd"
 have m:∀{i j:Int},Sz 4300 i->Sz 4300 j->IntMulOk i j:=fun h g=>fH h g ⋯
 refine⟨m bx.a bx.c,m bx.b bx.c,m bx.a bx.a,fH hd bx.b ⋯,fH (hd.mul bx.b) bx.b ⋯,_,_,_,rfl,hn,(Cf hd bx).mono ⋯,?_⟩
 have e1:x.a*x.c=x.c*x.a:=Int.mul_comm ..
 have e2:0-x.b*x.c = -x.c*x.b:=by grind
 rw[e1,e2]
 exact q
theorem SN(a b c a' b' c':Int):PyData.eqv (.tuple [.int a,.int b,.int c]) (.tuple [.int a',.int b',.int c'])=decide (a=a'/\b=b'/\c=c'):=by
 simp[PyData.eqv,PyData.eqvAll]
 rfl
theorem NF(h:rg ds Z Qd):B3 ‹Qd› (aO ["","",""] ds) Z:=by
 obtain⟨d,x,y,rfl,hd,ox,oy,hy,bx,by',q⟩:=h
 unfold B3
 walk_at "rd"
 refine⟨rfl,rfl,?_⟩
 have hn:¬ (y.a=0/\y.b=0/\y.c=1):=fun z=>hy (N3.ext' z.1 z.2.1 z.2.2)
 rw[SN,decide_eq_false hn]
 simp only[xor_false,false_eq_true,↓reduceIte]
 have s5:=DU hd.1 hd.2.1
 have nz:=hd.norm oy hy
 exact⟨d,y,rfl,s5,nz,by'.mono ⋯,d,x,_,rfl,s5,ox,bP nz,bx.mono ⋯,(j6 s5 nz by').mono ⋯,q⟩
end
noncomputable def gO:DTS:=
 (aP (cC (yZ (dB (dOp (de false) (ai 1) (dC (.int 0)))) (dB (dOp (de false) (ai 2) (dC (.int 0))))) (bq (dC (.int 0))) bI)
 (aP (cC (yZ (dB (dOp rGe (ai 1) (dC (.int 0)))) (dB (dOp rGe (ai 2) (dC (.int 0))))) (bq (dC (.int 1))) bI)
 (aP (cC (yZ (dB (dOp rLe (ai 1) (dC (.int 0)))) (dB (dOp rLe (ai 2) (dC (.int 0))))) (bq (yx (dC (.int 1)))) bI)
 (aP (bo (dIf (dB (dOp rGt (bR (ai 1) (ai 1)) (bR (bR (ai 0) (ai 2)) (ai 2)))) (ai 1) (ai 2)) (aq 3))
 (bq (dIf (dB (dOp rGt (ai 3) (dC (.int 0)))) (dC (.int 1)) (yx (dC (.int 1)))))))))
noncomputable def qS:DTS:=
 (bq (ay rC (ag (ai 0) (ag (dOp aM (ai 1) (dC (.int 0))) (ag (dOp aM (ai 1) (dC (.int 1))) av)))))
noncomputable def o6:DTS:=
 (aP (bo (lH (bR (dOp aM (ai 1) (dC (.int 0))) (dOp aM (ai 2) (dC (.int 2)))) (bR (dOp aM (ai 2) (dC (.int 0))) (dOp aM (ai 1) (dC (.int 2))))) (aq 3))
 (aP (bo (lH (bR (dOp aM (ai 1) (dC (.int 1))) (dOp aM (ai 2) (dC (.int 2)))) (bR (dOp aM (ai 2) (dC (.int 1))) (dOp aM (ai 1) (dC (.int 2))))) (aq 4))
 (bq (dOp (de false) (ay rC (ag (ai 0) (ag (ai 3) (ag (ai 4) av)))) (dC (.int 1))))))
noncomputable def mS:DTS:=
 (aP (zJ 2 3 (ag (bR (dOp aM (ai 1) (dC (.int 0))) (dOp aM (ai 1) (dC (.int 0)))) (ag (bR (bR (ai 0) (dOp aM (ai 1) (dC (.int 1)))) (dOp aM (ai 1) (dC (.int 1)))) av)))
 (aP (bo (qi (ag (lH (dCB sV (ag (dOp rGt (dOp aM (ai 1) (dC (.int 0))) (dC (.int 0))) av)) (dCB sV (ag (dOp rLt (dOp aM (ai 1) (dC (.int 0))) (dC (.int 0))) av))) (ag (lH (dCB sV (ag (dOp rGt (dOp aM (ai 1) (dC (.int 1))) (dC (.int 0))) av)) (dCB sV (ag (dOp rLt (dOp aM (ai 1) (dC (.int 1))) (dC (.int 0))) av))) av))) (aq 4))
 (aP (cC (dB (dOp rGe (bR (dOp aM (ai 4) (dC (.int 0))) (dOp aM (ai 4) (dC (.int 1)))) (dC (.int 0)))) (bq (dIf (dB (dOp (de true) (dOp aM (ai 4) (dC (.int 0))) (dC (.int 0)))) (dOp aM (ai 4) (dC (.int 0))) (dOp aM (ai 4) (dC (.int 1))))) bI)
 (bq (dIf (dB (dOp rGt (ai 2) (ai 3))) (dOp aM (ai 4) (dC (.int 0))) (dOp aM (ai 4) (dC (.int 1))))))))
section
variable {Z:Mu}{Qd:DK}{ds:List D}
theorem vm(h:rC ds Z Qd):gO ‹Qd› (aO ["","","",""] ds) Z:=by
 obtain⟨d,a,b,rfl,hd,ha,hb,q⟩:=h
 unfold gO
 walk_at "rd"
 have m1:MulOk a a:=fH ha ha ⋯
 have m2:MulOk d b:=fH hd hb ⋯
 have m3:MulOk (d*b) b:=fH (hd.mul hb) hb ⋯
 unfold sg at q
 by_cases h1:a=0
 ·by_cases h2:b=0
  ·subst h1 h2;simpa using q
  ·subst h1
   rcases Int.lt_or_gt_of_ne h2 with h3|h3
   ·have e:¬ (0<=b):=by omega
    have e':b<=0:=by omega
    simp only[h2,e,e',and_false,true_and,if_true,if_false,decide_true,decide_false,Int.le_refl,↓reduceIte,false_eq_true] at q ⊢
    exact q
   ·have e:(0<=b):=by omega
    simp only[h2,e,and_false,true_and,if_true,if_false,decide_true,decide_false,Int.le_refl,↓reduceIte,false_eq_true] at q ⊢
    exact q
 ·by_cases h3:0<=a<;>by_cases h4:0<=b<;>by_cases h5:a<=0<;>by_cases h6:b<=0<;>by_cases h7:d*b*b<a*a<;>(try (exfalso;omega))<;>
   simp only[h1,h3,h4,h5,h6,h7,and_false,false_and,and_true,true_and,if_true,if_false,decide_true,decide_false,↓reduceIte,false_eq_true,and_self,m1,m2,m3,gt_iff_lt] at q ⊢<;>(try exact q)
  all_goals
   first
   |(by_cases h8:0<a<;>simp only[h8,if_true,if_false,decide_true,decide_false,↓reduceIte,false_eq_true] at q ⊢<;>exact q)
   |(by_cases h8:0<b<;>simp only[h8,if_true,if_false,decide_true,decide_false,↓reduceIte,false_eq_true] at q ⊢<;>exact q)
theorem IU(h:kJ ds Z Qd):qS ‹Qd› (aO ["",""] ds) Z:=by
 obtain⟨d,x,rfl,hd,bx,q⟩:=h
 unfold qS
 walk_at "rd"
 exact⟨d,x.a,x.b,rfl,DU hd.1 hd.2.1,bx.a.mono ⋯,bx.b.mono ⋯,q⟩
theorem Fd(h:w6 ds Z Qd):o6 ‹Qd› (aO ["","","","",""] ds) Z:=by
 obtain⟨d,x,y,rfl,hd,bx,by',q⟩:=h
 unfold o6
 walk_at "rd"
 have m:∀{i j:Int},Sz 4400 i->Sz 4400 j->IntMulOk i j:=fun h g=>fH h g ⋯
 refine⟨m bx.a by'.c,m by'.a bx.c,m bx.b by'.c,m by'.b bx.c,d,_,_,rfl,DU hd.1 hd.2.1,((bx.a.mul by'.c).sub (by'.a.mul bx.c)).mono ⋯,((bx.b.mul by'.c).sub (by'.b.mul bx.c)).mono ⋯,?_⟩
 walk_at "rd"
 exact q
theorem RK{d a b sa sb:Int}(ha:(a<0/\sa = -1)\/(a=0/\sa=0)\/(0<a/\sa=1))(hb:(b<0/\sb = -1)\/(b=0/\sb=0)\/(0<b/\sb=1)) :
  sg d a b=if 0<=sa*sb then (if sa≠0 then sa else sb) else if d*b*b<a*a then sa else sb:=by
 unfold sg
 by_cases h7:d*b*b<a*a<;>rcases ha with ⟨h1,rfl⟩|⟨h1,rfl⟩|⟨h1,rfl⟩<;>rcases hb with ⟨h2,rfl⟩|⟨h2,rfl⟩|⟨h2,rfl⟩<;>simp only[h7,↓reduceIte]<;>(repeat' split)<;>omega
theorem CM(h:kJ ds Z Qd):mS ‹Qd› (aO ["","","","",""] ds) Z:=by
 obtain⟨d,x,rfl,hd,bx,q⟩:=h
 unfold mS
 walk_at "rd"
 have s5:=DU hd.1 hd.2.1
 refine⟨fH bx.a bx.a ⋯,fH s5 bx.b ⋯,fH (s5.mul bx.b) bx.b ⋯,?_⟩
 have sd:∀u:Int,(u<0/\((if decide (0<u)=true then 1 else 0)-if decide (u<0)=true then 1 else 0:Int) = -1)\/(u=0/\((if decide (0<u)=true then 1 else 0)-if decide (u<0)=true then 1 else 0:Int)=0)\/(0<u/\((if decide (0<u)=true then 1 else 0)-if decide (u<0)=true then 1 else 0:Int)=1):=fun u=>by
  simp only[decide_eq_true_eq]
  split<;>split<;>omega
 have ha:=sd x.a
 have hb:=sd x.b
 generalize ((if decide (0<x.a)=true then 1 else 0)-if decide (x.a<0)=true then 1 else 0:Int)=sa at ha ⊢
 generalize ((if decide (0<x.b)=true then 1 else 0)-if decide (x.b<0)=true then 1 else 0:Int)=sb at hb ⊢
 rw[RK ha hb] at q
 refine⟨mulL ∅,?_⟩
 by_cases c1:0<=sa*sb<;>by_cases c2:sa=0<;>by_cases c3:d*x.b*x.b<x.a*x.a<;>simp only[c1,c2,c3,decide_true,decide_false,↓reduceIte,false_eq_true,xor_false,Bool.xor_true,Bool.not_true,ne_eq,not_true_eq_false,not_false_eq_true,Int.zero_mul,Int.le_refl] at q ⊢<;>exact q
end
noncomputable def nV:DTS:=
 (aP (bo (dC (.int 0)) (aq 2))
 (aP (cC (dB (dOp rLt (ai 1) (dCB cZ (ag (ai 0) av)))) (bo (dOp aM (ai 0) (ai 1)) (aq 2)) bI)
 (aP (bo (dC (.int 0)) (aq 3))
 (aP (cC (dB (dOp rGe (dCB sA (ag (ai 2) av)) (Rm (dC (.int 10)) (dC (.int 18))))) (bo (dCB sA (ag (ai 2) av)) (aq 3)) bI)
 (aP (bo (qi (ag (dC (.int 2147483647)) (ag (dC (.int 2147483629)) (ag (dC (.int 2147483587)) (ag (dC (.int 2147483579)) (ag (dC (.int 2147483563)) (ag (dC (.int 2147483549)) (ag (dC (.int 2147483543)) (ag (dC (.int 2147483497)) av))))))))) (aq 4))
 (aP (bo (bZ (bZ (bZ (bR (wc (ai 2) (dC (.int 2147483647))) (dC (.int 69623))) (bR (bR (dC (.int 104729)) (ai 1)) (ai 1))) (bR (dC (.int 7919)) (ai 1))) (dC (.int 12345))) (aq 5))
 (bq (vS (ag (ai 3) (ag (wc (ai 5) (dOp aM (ai 4) (wc (ai 1) (dC (.int 8))))) av))))))))))
section
variable {Z:Mu}{Qd:DK}{ds:List D}
theorem pY{α:Type}{xs:List α}{i:Int}(h0:0<=i)(h:i<(xs.length:Nat)):∃d,atI xs i=some d/\d∈xs:=by
 have hj:i.toNat<xs.length:=by omega
 have e:=w4 (xs:=xs) (j:=i.toNat) (v:=xs[i.toNat]) (by simp[hj])
 rw[show ((i.toNat:Nat):Int)=i by omega] at e
 exact⟨_,e,getElem_mem _⟩
theorem lN(x:Int){y:Int}(h:0<y):0<=x.fmod y/\x.fmod y<y:=⟨Int.fmod_nonneg_of_pos x h,Int.fmod_lt_of_pos x h⟩
theorem N8{x y:Int}(hx:0<=x)(hy:0<y):0<=x.fdiv y:=by rw[Int.fdiv_eq_ediv_of_nonneg _ ∅];exact Int.ediv_nonneg hx ∅
def pR:List PyData:=[.int 2147483647,.int 2147483629,.int 2147483587,.int 2147483579,.int 2147483563,.int 2147483549,.int 2147483543,.int 2147483497]
theorem GB(h:J2 ds Z Qd):nV ‹Qd› (aO ["","","","","",""] ds) Z:=by
 obtain⟨ns,k,rfl,h0,h1,q⟩:=h
 unfold nV
 have hp:∃pr:Int,atI pR (k.fmod 8)=some (.int pr)/\0<pr/\pr<2147483648:=by
  obtain⟨h2,h3⟩:=lN k (show (0:Int)<8 by decide)
  obtain⟨p,e,hm⟩:=pY (xs:=pR) h2 (by exact h3)
  simp only[pR,mem_cons,not_mem_nil,or_false] at hm
  rcases hm with rfl|rfl|rfl|rfl|rfl|rfl|rfl|rfl<;>exact⟨_,e,⋯,⋯⟩
 obtain⟨pr,hpe,hp0,hp1⟩:=hp
 unfold pR at hpe
 walk_at "rd"
 rw[hpe]
 walk_at "rd"
 have c1:PN 10 18:=⟨⋯,⋯,⋯⟩
 have z1:(2147483647:Int)≠0:=by decide
 have z2:(8:Int)≠0:=by decide
 have m1:∀i:Int,MulOk i 69623:=fun i=>mulR ⋯
 have m2:MulOk 104729 k:=mulL ⋯
 have m3:MulOk (104729*k) k:=mulR ∅
 have m4:MulOk 7919 k:=mulL ⋯
 have z3:pr≠0:=by omega
 have fin:∀G x:Int,0<=G->∀p,Z p=none->Qd (.m p) (az Z p [.int G,.int (x.fmod pr)]):=fun G x hG p hp=>by
  obtain⟨h2,h3⟩:=lN x hp0
  exact q p _ hp (Step.set hG h2 ∅)
 by_cases hk:k<(ns.length:Nat)
 ·rw[if_pos (by simpa using hk)]
  obtain⟨c,hc,_⟩:=pY h0 hk
  rw[hc]
  walk_at "rd"
  refine⟨c1,?_⟩
  split
  ·exact⟨z1,m1 _,m2,m3,m4,z2,z3,fin _ _ ∅⟩
  ·exact⟨z1,m1 _,m2,m3,m4,z2,z3,fin _ _ ∅⟩
 ·rw[if_neg (by simpa using hk)]
  refine⟨c1,?_⟩
  split
  ·exact⟨z1,m1 _,m2,m3,m4,z2,z3,fin _ _ ∅⟩
  ·exact⟨z1,m1 _,m2,m3,m4,z2,z3,fin _ _ ∅⟩
end
noncomputable def md:DTS:=
 (aP (cC (jM (dW (dB (zU "tuple" (ai 0)))) (dB (dOp (de true) (dCB cZ (ag (ai 0) av)) (dC (.int 3))))) (bq (dC (.bool false))) bI)
 (aP (bo (ai 0) (eD 3 (aQ (aq 1) (aQ (aq 2) (aQ (aq 3) eK)))))
 (aP (cC (jM (dW (dB (ay jb (ag (ai 1) av)))) (jM (dW (dB (ay jb (ag (ai 2) av)))) (dW (dB (ay jb (ag (ai 3) av)))))) (bq (dC (.bool false))) bI)
 (bq (nB (dOp rGe (ai 3) (dC (.int 1))) (dOp (de false) (ay yH (ag (ai 1) (ag (ai 2) (ag (ai 3) av)))) (dC (.int 1))))))))
section
variable {Z:Mu}{Qd:DK}{ds:List D}
def JG(i:Int):Bool:=decide (2<=i)&&decide (i<=30)&&!(decide (i=4) || decide (i=9) || decide (i=16) || decide (i=25))
theorem dy(d:PyData):(∃i,d = .int i/\isWhole d=true)\/((∀i,d≠.int i)/\isWhole d=false):=by
 cases d<;>first|exact .inl ⟨_,rfl,rfl⟩|exact .inr ⟨fun _ z=>(by cases z),rfl⟩
theorem BW(d:PyData):(∃xs,d = .tuple xs/\isT "tuple" d=true)\/((∀xs,d≠.tuple xs)/\isT "tuple" d=false):=by
 cases d<;>first|exact .inl ⟨_,rfl,rfl⟩|exact .inr ⟨fun _ z=>(by cases z),rfl⟩
theorem BO{d:PyData}(h:∀xs,d≠.tuple xs):isNum d=false:=by cases d<;>first|rfl|exact absurd rfl (h _)
theorem Bm{xs:List PyData}(h:xs.length≠3):isNum (.tuple xs)=false:=by
 unfold isNum
 split
 ·rename_i e;cases e;exact absurd rfl h
 ·rfl
theorem three{α:Type}{xs:List α}(h:xs.length=3):∃a b c,xs=[a,b,c]:=by
 match xs,h with
 |[a,b,c],_=>exact⟨a,b,c,rfl⟩
theorem Dl(h:lS ds Z Qd):md ‹Qd› (aO ["","","",""] ds) Z:=by
 obtain⟨d,rfl,_,q⟩:=h
 unfold md
 walk_at "rd"
 rcases BW d with ⟨xs,rfl,e⟩|⟨hn,e⟩
 ·rw[e]
  walk_at "rd"
  by_cases hl:xs.length=3
  ·obtain⟨a,b,c,rfl⟩:=three hl
   have e3:decide ((([a,b,c].length:Nat):Int)=3)=true:=rfl
   have e3':[a,b,c].length=3:=rfl
   simp only[e3,Bool.xor_self,false_eq_true,↓reduceIte]
   refine⟨rfl,?_⟩
   walk_at "rd"
   refine⟨a,rfl,?_⟩
   rcases dy a with ⟨i,rfl,e⟩|⟨hn,e⟩
   ·rw[e]
    walk_at "rd"
    refine⟨b,rfl,?_⟩
    rcases dy b with ⟨j,rfl,e⟩|⟨hn,e⟩
    ·rw[e]
     walk_at "rd"
     refine⟨c,rfl,?_⟩
     rcases dy c with ⟨k,rfl,e⟩|⟨hn,e⟩
     ·rw[e]
      walk_at "rd"
      have q':Qd (.v (.bool (decide (1<=k)&&(g3 i j k==1)))) Z:=q
      by_cases hk:1<=k
      ·rw[if_pos (by simpa using hk)]
       refine⟨i,j,k,rfl,?_⟩
       walk_at "rd"
       have ee:decide (((g3 i j k:Nat):Int)=1)=(decide (1<=k)&&(g3 i j k==1)):=by
        rw[decide_eq_true hk,Bool.true_and,Bool.eq_iff_iff];simp;omega
       rw[ee]
       exact q'
      ·rw[if_neg (by simpa using hk)]
       rw[decide_eq_false hk] at q'
       exact q'
     ·rw[e]
      walk_at "rd"
      have:isNum (.tuple [.int i,.int j,c])=false:=by cases c<;>first|rfl|exact absurd rfl (hn _)
      rw[this] at q
      exact q
    ·rw[e]
     walk_at "rd"
     have:isNum (.tuple [.int i,b,c])=false:=by cases b<;>first|rfl|exact absurd rfl (hn _)
     rw[this] at q
     exact q
   ·rw[e]
    walk_at "rd"
    have:isNum (.tuple [a,b,c])=false:=by cases a<;>first|rfl|exact absurd rfl (hn _)
    rw[this] at q
    exact q
  ·rw[Bm hl] at q
   have:decide (((xs.length:Nat):Int)=3)=false:=by simp;omega
   rw[this]
   simp only[xor_false,↓reduceIte]
   exact q
 ·rw[e]
  rw[BO hn] at q
  walk_at "rd"
  exact q
end
noncomputable def fZ:DTS:=
 (aP (cC (jM (dW (dB (zU "tuple" (ai 0)))) (jM (dB (dOp (de true) (dCB cZ (ag (ai 0) av)) (dC (.int 3)))) (dW (dB (dCB qo (ag (oF [none] (km (ai 0)) (aq 0) gH (ay jb (ag (ai 0) av))) av)))))) (bq (dC (.bool false))) bI)
 (bq (nB (dOp rGt (dOp aM (ai 0) (dC (.int 2))) (dC (.int 0))) (dOp (de false) (ay og (ag (ay og (ag (dOp aM (ai 0) (dC (.int 0))) (ag (dOp aM (ai 0) (dC (.int 1))) av))) (ag (dOp aM (ai 0) (dC (.int 2))) av))) (dC (.int 1))))))
noncomputable def jo:DTS:=
 (aP (bo (dOp aM (qi (ag (dC (.int 4)) (ag (dC (.int 10)) (ag (dC (.int 100)) (ag (dC (.int 1000000)) av))))) (ay bB (ag (ai 0) (ag (dC (.int 4)) av)))) (aq 1))
 (aP (zJ 2 3 (ag (lH (ay bB (ag (ai 0) (ag (ai 1) av))) (uQ (ai 1) (dC (.int 2)))) (ag (lH (ay bB (ag (ai 0) (ag (ai 1) av))) (uQ (ai 1) (dC (.int 2)))) av)))
 (aP (bo (bZ (dC (.int 1)) (ay bB (ag (ai 0) (ag (lH (ai 1) (dC (.int 1))) av)))) (aq 4))
 (aP (bo (ay bB (ag (ai 0) (ag (dC (.int 8)) av))) (aq 5))
 (bq (ay cO (ag (dOp aM (qi (ag (ai 2) (ag (ai 2) (ag (ai 2) (ag (ai 2) (ag (ai 2) (ag (ai 2) (ag (ai 2) (ag (dC (.int 0)) av))))))))) (ai 5)) (ag (dOp aM (qi (ag (ai 3) (ag (ai 3) (ag (ai 3) (ag (ai 3) (ag (ai 3) (ag (dC (.int 0)) (ag (dC (.int 0)) (ag (ai 3) av))))))))) (ai 5)) (ag (dOp aM (qi (ag (ai 4) (ag (ai 4) (ag (dC (.int 1)) (ag (ai 4) (ag (dC (.int 1)) (ag (ai 4) (ag (dC (.int 1)) (ag (ai 4) av))))))))) (ai 5)) av)))))))))
section
variable {Z:Mu}{Qd:DK}{ds:List D}
theorem tW(h:lS ds Z Qd):fZ ‹Qd› (aO [""] ds) Z:=by
 obtain⟨d,rfl,few,q⟩:=h
 unfold fZ
 walk_at "rd"
 rcases BW d with ⟨xs,rfl,e⟩|⟨hn,e⟩
 ·rw[e]
  walk_at "rd"
  by_cases hl:xs.length=3
  ·obtain⟨a,b,c,rfl⟩:=three hl
   have e3:decide ((([a,b,c].length:Nat):Int)=3)=true:=rfl
   simp only[e3,Bool.xor_self,false_eq_true,↓reduceIte]
   refine⟨by simp,fun x=>some (.bool (isWhole x)),fun x hx U hs=>⟨trivial,x,rfl,rfl,rfl⟩,?_⟩
   rw[Jx (fun x=>PyData.bool (isWhole x)),vq]
   simp only[map_cons,map_nil,List.all_cons,List.all_nil,id,Bool.and_true]
   rcases dy a with ⟨i,rfl,ea⟩|⟨hn,ea⟩
   ·rcases dy b with ⟨j,rfl,e1⟩|⟨hn,e1⟩
    ·rcases dy c with ⟨k,rfl,e2⟩|⟨hn,e2⟩
     ·rw[ea,e1,e2]
      simp only[Bool.and_self]
      walk_at "rd"
      have q':Qd (.v (.bool (decide (1<=k)&&(g3 i j k==1)))) Z:=q
      by_cases hk:1<=k
      ·rw[if_pos (by simp;omega)]
       refine⟨i,j,rfl,_,k,rfl,?_⟩
       walk_at "rd"
       have ee:decide (((Int.gcd (Int.gcd i j:Nat) k:Nat):Int)=1)=(decide (1<=k)&&(g3 i j k==1)):=by
        unfold g3
        rw[decide_eq_true hk,Bool.true_and,Bool.eq_iff_iff];simp;omega
       rw[ee]
       exact q'
      ·rw[if_neg (by simp;omega)]
       rw[decide_eq_false hk] at q'
       exact q'
     ·rw[ea,e1,e2]
      simp only[Bool.and_false]
      walk_at "rd"
      have:isNum (.tuple [.int i,.int j,c])=false:=by cases c<;>first|rfl|exact absurd rfl (hn _)
      rw[this] at q
      exact q
    ·rw[ea,e1]
     simp only[Bool.and_false,Bool.false_and]
     walk_at "rd"
     have:isNum (.tuple [.int i,b,c])=false:=by cases b<;>first|rfl|exact absurd rfl (hn _)
     rw[this] at q
     exact q
   ·rw[ea]
    simp only[Bool.and_false,Bool.false_and]
    walk_at "rd"
    have:isNum (.tuple [a,b,c])=false:=by cases a<;>first|rfl|exact absurd rfl (hn _)
    rw[this] at q
    exact q
  ·rw[Bm hl] at q
   have:decide (((xs.length:Nat):Int)=3)=false:=by simp;omega
   rw[this]
   simp only[xor_false,↓reduceIte]
   exact q
 ·rw[e]
  rw[BO hn] at q
  walk_at "rd"
  exact q
theorem pick{P:PyData->Prop}{xs:List PyData}{i:Int}(h0:0<=i)(h1:i<(xs.length:Nat))(h:∀x∈xs,P x):∃d,atI xs i=some d/\P d:=let ⟨d,e,m⟩:=pY h0 h1;⟨d,e,h d m⟩
theorem FW{i:Int}(h1:-1048576<i)(h2:i<1048576):Sz 20 i:=Sz.of (by show i.natAbs<1048576;omega)
theorem xN(h:pQ ds Z Qd):jo ‹Qd› (aO ["","","","","",""] ds) Z:=by
 obtain⟨a,rfl,hb,q⟩:=h
 unfold jo
 walk_at "rd"
 refine⟨a,4,rfl,⋯,⋯,hb,fun r0 ad h0 h1 s1=>?_⟩
 walk_at "rd"
 obtain⟨w,e,i,rfl,w0,w1⟩:=pick (P:=fun d=>∃i:Int,d = .int i/\4<=i/\i<=1000000) (xs:=[PyData.int 4,PyData.int 10,PyData.int 100,PyData.int 1000000]) h0 (by exact h1) (by
  intro x hx
  simp only[mem_cons,not_mem_nil,or_false] at hx
  rcases hx with rfl|rfl|rfl|rfl<;>exact⟨_,rfl,⋯,⋯⟩)
 rw[e]
 walk_at "rd"
 refine⟨a,i,rfl,∅,∅,s1.1,fun r1 am h2 h3 s2=>?_⟩
 walk_at "rd"
 refine⟨divC ⋯ ⋯,a,i,rfl,∅,∅,s2.1,fun r2 be h4 h5 s3=>?_⟩
 walk_at "rd"
 refine⟨divC ⋯ ⋯,a,i-1,rfl,∅,∅,s3.1,fun r3 ce h6 h7 s4=>?_⟩
 walk_at "rd"
 refine⟨a,8,rfl,⋯,⋯,s4.1,fun r4 im h8 h9 s5=>?_⟩
 walk_at "rd"
 have ef:i.fdiv 2=i / 2:=Int.fdiv_eq_ediv_of_nonneg _ ∅
 rw[ef]
 have za:Sz 20 (r1-i / 2):=FW ∅ ∅
 have zb:Sz 20 (r2-i / 2):=FW ∅ ∅
 have zc:Sz 20 (1+r3):=FW ∅ ∅
 have z0:Sz 20 0:=FW ∅ ∅
 have z1:Sz 20 1:=FW ∅ ∅
 obtain⟨d1,e1,i1,rfl,b1⟩:=pick (P:=fun d=>∃i:Int,d = .int i/\Sz 20 i) (xs:=[PyData.int (r1-i / 2),PyData.int (r1-i / 2),PyData.int (r1-i / 2),PyData.int (r1-i / 2),PyData.int (r1-i / 2),PyData.int (r1-i / 2),PyData.int (r1-i / 2),PyData.int 0]) h8 (by exact h9) (by
  intro x hx
  simp only[mem_cons,not_mem_nil,or_false] at hx
  rcases hx with rfl|rfl|rfl|rfl|rfl|rfl|rfl|rfl<;>exact⟨_,rfl,by assumption⟩)
 rw[e1]
 walk_at "rd"
 obtain⟨d2,e2,i2,rfl,b2⟩:=pick (P:=fun d=>∃i:Int,d = .int i/\Sz 20 i) (xs:=[PyData.int (r2-i / 2),PyData.int (r2-i / 2),PyData.int (r2-i / 2),PyData.int (r2-i / 2),PyData.int (r2-i / 2),PyData.int 0,PyData.int 0,PyData.int (r2-i / 2)]) h8 (by exact h9) (by
  intro x hx
  simp only[mem_cons,not_mem_nil,or_false] at hx
  rcases hx with rfl|rfl|rfl|rfl|rfl|rfl|rfl|rfl<;>exact⟨_,rfl,by assumption⟩)
 rw[e2]
 walk_at "rd"
 obtain⟨d3,e3,i3,rfl,b3,p3⟩:=pick (P:=fun d=>∃i:Int,d = .int i/\Sz 20 i/\0<i) (xs:=[PyData.int (1+r3),PyData.int (1+r3),PyData.int 1,PyData.int (1+r3),PyData.int 1,PyData.int (1+r3),PyData.int 1,PyData.int (1+r3)]) h8 (by exact h9) (by
  intro x hx
  simp only[mem_cons,not_mem_nil,or_false] at hx
  rcases hx with rfl|rfl|rfl|rfl|rfl|rfl|rfl|rfl<;>exact⟨_,rfl,by assumption,∅⟩)
 rw[e3]
 walk_at "rd"
 have n3:i3≠0:=by omega
 exact⟨i1,i2,i3,rfl,n3,b3.mono ⋯,q _ _ (jn _ _ n3) (qJ n3 b1 b2 b3) (s1.trans (s2.trans (s3.trans (s4.trans s5))))⟩
end
noncomputable def mX:DTS:=
 (aP (cC (dB (dOp (de false) (ay bB (ag (ai 0) (ag (dC (.int 2)) av))) (dC (.int 0)))) (bq (dOp aM (qi (ag (dC (.int 2)) (ag (dC (.int 3)) (ag (dC (.int 5)) av)))) (ay bB (ag (ai 0) (ag (dC (.int 3)) av))))) bI)
 (aP (bo (ju [none] (yR (ag (dC (.int 2)) (ag (dC (.int 31)) av))) (aq 0) (dB (dOp (K9 true) (ai 0) (qi (ag (dC (.int 4)) (ag (dC (.int 9)) (ag (dC (.int 16)) (ag (dC (.int 25)) av))))))) (ai 0)) (aq 1))
 (bq (dOp aM (ai 1) (ay bB (ag (ai 0) (ag (dC (.int 25)) av)))))))
noncomputable def kC:DTS:=
 (aP (bo (ay pQ (ag (ai 0) av)) (aq 2))
 (aP (bo (ay kJ (ag (ai 1) (ag (ai 2) av))) (aq 3))
 (aP (cC (dB (dOp (de false) (ai 3) (dC (.int 0)))) (bq (bO (ag (bZ (dC (.int 1)) (ay bB (ag (ai 0) (ag (dC (.int 5)) av)))) (ag (dC (.int 0)) (ag (dC (.int 1)) av))))) bI)
 (bq (dIf (dB (dOp rGt (ai 3) (dC (.int 0)))) (ai 2) (ay pT (ag (ai 2) av)))))))
section
variable {Z:Mu}{Qd:DK}{ds:List D}
theorem JZ{lo:Int}{n:Nat}{x:PyData}(h:x∈o8 lo n):∃i:Int,x = .int i/\lo<=i/\i<lo+n:=by
 unfold o8 at h
 obtain⟨k,hk,rfl⟩:=List.mem_map.mp h
 have:=List.mem_range.mp hk
 exact⟨_,rfl,∅,∅⟩
def EC:PyData->Option PyData
 |.int i=>if JG i then some (.int i) else none
 |_=>none
def Cp:List PyData:=[2,3,5,6,7,8,10,11,12,13,14,15,17,18,19,20,21,22,23,24,26,27,28,29,30].map PyData.int
theorem in4(i:Int):(List.any [PyData.int 4,PyData.int 9,PyData.int 16,PyData.int 25] fun b=>PyData.eqv b (.int i))=(decide (i=4) || decide (i=9) || decide (i=16) || decide (i=25)):=by
 have ev:∀j:Int,PyData.eqv (.int j) (.int i)=decide (i=j):=fun j=>by rw[Ur];simp[eq_comm]
 simp only[List.any_cons,List.any_nil,ev,Bool.or_false,Bool.or_assoc]
theorem Dr(h:w8 ds Z Qd):mX ‹Qd› (aO ["",""] ds) Z:=by
 obtain⟨a,rfl,hb,q⟩:=h
 unfold mX
 walk_at "rd"
 refine⟨a,2,rfl,⋯,⋯,hb,fun r0 ad h0 h1 s1=>?_⟩
 walk_at "rd"
 by_cases hr:r0=0
 ·rw[if_pos (by simpa using hr)]
  refine⟨a,3,rfl,⋯,⋯,s1.1,fun r1 am h2 h3 s2=>?_⟩
  walk_at "rd"
  obtain⟨w,e,i,rfl,w0⟩:=pick (P:=fun d=>∃i:Int,d = .int i/\aJ i) (xs:=[PyData.int 2,PyData.int 3,PyData.int 5]) h2 (by exact h3) (by
   intro x hx
   simp only[mem_cons,not_mem_nil,or_false] at hx
   rcases hx with rfl|rfl|rfl<;>exact⟨_,rfl,by unfold aJ;omega⟩)
  rw[e]
  exact q _ _ w0 (s1.trans s2)
 ·rw[if_neg (by simpa using hr)]
  refine⟨⟨⋯,⋯,⋯,⋯⟩,⋯,fun p hp=>⟨fun i acc U=>acc=((o8 2 29).take i).filterMap EC/\U=az ad p acc,⟨rfl,rfl⟩,?_,?_⟩⟩
  ·rintro i x acc U hx hpa ⟨e0,e1⟩
   obtain⟨k,rfl,i0,i1⟩:=JZ (mem_of_getElem? hx)
   refine⟨trivial,rfl,rfl,by show 0<=60;decide,?_⟩
   rw[in4]
   have i1':k<31:=by simpa using i1
   have e:EC (.int k)=if JG k then some (.int k) else none:=rfl
   have e2:JG k = !(decide (k=4) || decide (k=9) || decide (k=16) || decide (k=25)):=by
    unfold JG
    rw[decide_eq_true i0,decide_eq_true (show k<=30 by omega)]
    rfl
   have ft:((o8 2 29).take (i+1)).filterMap EC=((o8 2 29).take i).filterMap EC++(EC (.int k)).toList:=QD hx
   rw[e,e2] at ft
   cases hh:(decide (k=4) || decide (k=9) || decide (k=16) || decide (k=25))
   ·rw[hh] at ft
    simp only[true_xor,Bool.not_false,↓reduceIte] at ft ⊢
    refine⟨hpa,?_,?_⟩
    ·rw[ft,e0];rfl
    ·rw[e1,fA]
   ·rw[hh] at ft
    simp only[true_xor,Bool.not_true,↓reduceIte,false_eq_true] at ft ⊢
    refine⟨hpa,?_,e1⟩
    rw[ft,e0];simp
  rintro acc U ⟨e0,e1⟩ _
  have ed:kZ U p=ad:=by rw[e1];exact pX hp
  rw[ed]
  have e0':acc=Cp:=by rw[e0];rfl
  rw[e0']
  refine⟨a,25,rfl,⋯,⋯,s1.1,fun r1 am h2 h3 s2=>?_⟩
  walk_at "rd"
  obtain⟨w,e,i,rfl,w0⟩:=pick (P:=fun d=>∃i:Int,d = .int i/\aJ i) (xs:=Cp) h2 (by exact h3) (by
   intro x hx
   unfold Cp at hx
   obtain⟨k,hk,rfl⟩:=List.mem_map.mp hx
   exact⟨_,rfl,(show ∀k∈([2,3,5,6,7,8,10,11,12,13,14,15,17,18,19,20,21,22,23,24,26,27,28,29,30]:List Int),aJ k by unfold aJ;decide) k hk⟩)
  rw[e]
  exact q _ _ w0 (s1.trans s2)
noncomputable def sU:DSp:=fun ds Z Q=>∃(a:Addr) (d:Int),ds=[.m a,.v (.int d)]/\aJ d/\Bag Z a/\∀x U,Ok x->Bd 20 x->sg d x.a x.b=1->Step a Z U->Q (.v (dN x)) U
theorem zZ(h:sU ds Z Qd):kC ‹Qd› (aO ["","","",""] ds) Z:=by
 obtain⟨a,d,rfl,hd,hb,q⟩:=h
 unfold kC
 walk_at "rd"
 refine⟨a,rfl,hb,fun x ad ox bx s1=>?_⟩
 walk_at "rd"
 refine⟨d,x,rfl,hd,bx.mono ⋯,?_⟩
 walk_at "rd"
 have t:=oI d x.a x.b
 by_cases h0:sg d x.a x.b=0
 ·rw[if_pos (by simpa using h0)]
  refine⟨a,5,rfl,⋯,⋯,s1.1,fun r am r0 r1 s2=>?_⟩
  walk_at "rd"
  have ok:Ok ⟨1+r,0,1⟩:=⟨by show (0:Int)<1;decide,by unfold g3;simp⟩
  refine q ⟨1+r,0,1⟩ am ok ⟨FW (by show -1048576<1+r;omega) (by show 1+r<1048576;omega),FW (by show -1048576<(0:Int);decide) (by show (0:Int)<1048576;decide),FW (by show -1048576<(1:Int);decide) (by show (1:Int)<1048576;decide)⟩ ?_ (s1.trans s2)
  show sg d (1+r) 0=1
  unfold sg
  rw[if_neg ∅,if_pos ∅]
 ·rw[if_neg (by simpa using h0)]
  by_cases h1:0<sg d x.a x.b
  ·rw[if_pos (by simpa using h1)]
   exact q x ad ox bx ∅ s1
  ·rw[if_neg (by simpa using h1)]
   refine⟨x,rfl,?_⟩
   refine q (minus x) ad (pG ox) (xT bx) ?_ s1
   show sg d (-x.a) (-x.b)=1
   rw[yP hd]
   omega
end
section
variable {Z:Mu}{Q:DK}{ds:List D}
noncomputable def xK:DSp:=fun ds Z Q=>∃ns:List Int,ds=[.s ns]/\ns.length<=63/\∀U,Q (.v (.bool true)) U
theorem vE(h:jb ds Z Q):ds.length=1:=by obtain⟨_,rfl,_⟩:=h;rfl
theorem Bn(h:og ds Z Q):ds.length=2:=by obtain⟨_,_,rfl,_⟩:=h;rfl
theorem HD(h:yH ds Z Q):ds.length=3:=by obtain⟨_,_,_,rfl,_⟩:=h;rfl
theorem zg(h:lS ds Z Q):ds.length=1:=by obtain⟨_,rfl,_⟩:=h;rfl
theorem tw(h:cO ds Z Q):ds.length=3:=by obtain⟨_,_,_,rfl,_⟩:=h;rfl
theorem FL(h:pT ds Z Q):ds.length=1:=by obtain⟨_,rfl,_⟩:=h;rfl
theorem yJ(h:mO ds Z Q):ds.length=2:=by obtain⟨_,_,rfl,_⟩:=h;rfl
theorem IJ(h:xW ds Z Q):ds.length=2:=by obtain⟨_,_,rfl,_⟩:=h;rfl
theorem vL(h:lU ds Z Q):ds.length=3:=by obtain⟨_,_,_,rfl,_⟩:=h;rfl
theorem oq(h:cU ds Z Q):ds.length=2:=by obtain⟨_,_,rfl,_⟩:=h;rfl
theorem yq(h:rg ds Z Q):ds.length=3:=by obtain⟨_,_,_,rfl,_⟩:=h;rfl
theorem Fg(h:rC ds Z Q):ds.length=3:=by obtain⟨_,_,_,rfl,_⟩:=h;rfl
theorem yE(h:kJ ds Z Q):ds.length=2:=by obtain⟨_,_,rfl,_⟩:=h;rfl
theorem Ez(h:w6 ds Z Q):ds.length=3:=by obtain⟨_,_,_,rfl,_⟩:=h;rfl
theorem KH(h:J2 ds Z Q):ds.length=2:=by obtain⟨_,_,rfl,_⟩:=h;rfl
theorem Aw(h:pQ ds Z Q):ds.length=1:=by obtain⟨_,rfl,_⟩:=h;rfl
theorem EG(h:w8 ds Z Q):ds.length=1:=by obtain⟨_,rfl,_⟩:=h;rfl
theorem D5(h:sU ds Z Q):ds.length=2:=by obtain⟨_,_,rfl,_⟩:=h;rfl
theorem J9(h:xK ds Z Q):ds.length=1:=by obtain⟨_,rfl,_⟩:=h;rfl
end
noncomputable def k9:DTS:=j2
theorem uu{Z Qd ds}(h:jb ds Z Qd):k9 ‹Qd› (aO [""] ds) Z:=wa h
structure Sg(K:PySem.W.Frag)(mg:Str->Option Value)(x:Str)(g:Addr)(a b c:Int):Prop where
 m:mg x=some (.ref g)
 l:∃(od:Option Addr) (n:Nat) (sl:Array (Option Value)) (t u v:Tok),K.lookup g=some ⟨.type "tuple",od,.seq #[.int a t,.int b u,.int c v] n,sl⟩
theorem EZ{X:Cx}{x:Str}{g:Addr}{a b c:Int}{pos:Pos}(hg:Gl X x)(h:Sg X.K X.mg x g a b c)(hd:(x==("__debug__":Str))=false:=by decide):DE X (.Name x pos) (dC (.tuple [.int a,.int b,.int c])):=by
 obtain⟨od,n,sl,t,u,v,e⟩:=h.l
 refine Cd (u:=.ref g) hg h.m rfl (fun Z H _=>Rp.tuple (xs:=[.int a,.int b,.int c]) (.inr ⟨_,_,_,e,rfl,rfl,(by show 3<=sizeLine;decide),.cons ⟨t,rfl⟩ (.cons ⟨u,rfl⟩ (.cons ⟨v,rfl⟩ .nil))⟩) (.cons (.int a) (.cons (.int b) (.cons (.int c) .nil)))) hd
theorem Kr{K:PySem.W.Frag}{H:Hp}{a:Addr}{ns:List Int}(hl:ns.length<=63)(hT:FI K H)(hS:SqL K H a (ns.map V.int)):spD K xK [.ref a] H (fun v _=>v = .bl true) fun _ _ _=>False:=by
 refine⟨[.s ns],⟨fun _=>none,fun _=>none⟩,fun d _=>d = .v (.bool true),⟨fun a ds h=>(by cases h),hT,fun a c h=>(by cases h)⟩,.cons ⟨a,rfl,hS,rfl⟩ .nil,⟨ns,rfl,hl,fun _=>rfl⟩,fun d u U H' _ _ r q=>?_⟩
 subst q
 cases r
 rfl
end L2.DL
namespace L2
open PySem PySem.Spec PyProof.Rows
section
variable {X:Cx}
def SH(x y:Str)(i:Int):Int:=match Builtin.Str.occurrences x y (fromIndex x.length i) x.length 1 with|k::_=>(k:Nat)|[]=>-1
end
end L2
namespace L2.DL
open PySem PySem.Spec PyProof.Rows
section
variable {X:Cx}{a b e i o:Expr}{ta tb te ti to:DTE}{pos apos cpos:Pos}
noncomputable def TK(to te ti:DTE):DTE:=fun ρ Z Q=>to ρ Z fun x ad=>match x with
 |.v (.str z)=>te ρ ad fun y am=>ti ρ am fun k be=>(match y,k with
  |.v (.str w),.v (.int n)=>Q (.v (.int (SH z w n))) be
  |_,_=>False)
 |_=>False
noncomputable def PF(K:PySem.W.Frag):R2:=fun x y H Q=>∃Z a bs,Rp K Z H a x/\Rp K Z H (.tuple bs) y/\PyData.canLayAll0 bs=true/\a.canLay0=true/\PyData.depth a<=60/\Q (.bl (bs.any fun b=>PyData.eqv b a)) H
theorem Nd(hu:X.A.units+64<cLine):OpR X (compareOp .In) (PF X.K):=by
 intro pins s σ H x y v u Q I rx ry h
 obtain⟨Z,a,b,ha,hb,sb,sa,dp,q⟩:=h
 obtain⟨as,ra⟩:=dU I ha rx
 obtain⟨bs,rb⟩:=dU I hb ry
 exact SeqAt.in_tuple_reads rb ra sb sa ∅ ⟨.bl (b.any fun z=>PyData.eqv z a),H,I,rfl,q⟩
def EE:D->D->Mu->DK->Prop:=fun x y Z Q=>match x,y with
 |.v a,.v (.tuple bs)=>PyData.canLayAll0 bs=true/\a.canLay0=true/\PyData.depth a<=60/\Q (.v (.bool (bs.any fun b=>PyData.eqv b a))) Z
 |_,_=>False
theorem Mr{K:PySem.W.Frag}:i4 K (PF K) EE:=by
 intro x y ux uy H Z Qd Q ok rx ry h k
 unfold EE at h
 split at h
 ·exact⟨Z,_,_,rx,ry,h.1,h.2.1,h.2.2.1,k (.v _) _ Z H .refl ok (.bool _) h.2.2.2⟩
 ·exact h.elim
end
section
variable {ρ:Rho}{Z:Mu}{Q:DK}{te ti to:DTE}{d:PyData}{xs:List PyData}
theorem R1:EE (.v d) (.v (.tuple xs)) Z Q=(PyData.canLayAll0 xs=true/\d.canLay0=true/\PyData.depth d<=60/\Q (.v (.bool (xs.any fun b=>PyData.eqv b d))) Z):=propext Iff.rfl
end
end L2.DL
namespace L2
open PySem PySem.Spec PyProof.Rows
end L2
namespace L2.DL
open PySem PySem.Spec PyProof.Rows
end L2.DL
namespace L2
open PySem PySem.Spec PyProof.Rows
end L2
namespace L2.DL
open PySem PySem.Spec PyProof.Rows
end L2.DL
namespace L2
open PySem PySem.Spec PyProof.Rows
end L2
namespace L2
open PySem PySem.Spec PyProof.Rows
end L2
namespace L2.DL
open PySem PySem.Spec PyProof.Rows
def intsOf:List PyData->Option (List Int)
 |[]=>some []
 |.int i::r=>(intsOf r).map (i::·)
 |_=>none
theorem Jk{K:PySem.W.Frag}{Z:Mu}{H:Hp}:∀{ds:List PyData} {us:List V} {k:List Int},RpL K Z H ds us->intsOf ds=some k->us=k.map V.int
 |[],_,_,.nil,e=>by cases e;rfl
 |d::ds,_,k,.cons h t,e=>by
  cases d with
  |int i=>
   cases h
   rw[intsOf] at e
   cases q:intsOf ds with
   |none=>rw[q] at e;cases e
   |some k'=>rw[q] at e;cases e;rw[Jk t q];rfl
  |_=>cases e
section
variable {α:Type}
def cg(kvs:List (List Int×α))(k:List Int):Option α:=(kvs.find? fun x=>decide (x.1=k)).map (·.2)
def ja(kvs:List (List Int×α))(k:List Int)(v:α):List (List Int×α):=if (cg kvs k).isSome=true then kvs.map (fun x=>if x.1=k then (x.1,v) else x) else kvs++[(k,v)]
theorem dm{p:List Int×α}{r:List (List Int×α)}{k:List Int}(e:p.1=k):cg (p::r) k=some p.2:=by simp[cg,List.find?_cons,e]
theorem du{p:List Int×α}{r:List (List Int×α)}{k:List Int}(e:¬ p.1=k):cg (p::r) k=cg r k:=by simp[cg,List.find?_cons,e]
theorem Bz(k j:List Int)(v:α):∀kvs:List (List Int×α),cg (kvs.map fun x=>if x.1=k then (x.1,v) else x) j=if j=k then (cg kvs j).map (fun _=>v) else cg kvs j
 |[]=>by split<;>rfl
 |p::r=>by
  have ih:=Bz k j v r
  rw[map_cons]
  by_cases h:p.1=k
  ·rw[if_pos h]
   by_cases e:p.1=j
   ·rw[dm (p:=(p.1,v)) e,if_pos (e.symm.trans h),dm e];rfl
   ·rw[du (p:=(p.1,v)) e,ih,du e]
  ·rw[if_neg h]
   by_cases e:p.1=j
   ·rw[dm e,if_neg (fun z=>h (e.trans z)),dm e]
   ·rw[du e,ih,du e]
theorem zv(k j:List Int)(v:α):∀kvs:List (List Int×α),cg kvs k=none->cg (kvs++[(k,v)]) j=if j=k then some v else cg kvs j
 |[],_=>by
  by_cases e:k=j
  ·rw[if_pos e.symm];exact dm (p:=(k,v)) e
  ·rw[if_neg (fun z=>e z.symm)];exact du (p:=(k,v)) e
 |p::r,h=>by
  rw[cons_append]
  by_cases e:p.1=k
  ·rw[dm e] at h;cases h
  ·rw[du e] at h
   by_cases f:p.1=j
   ·rw[dm f,dm f,if_neg (fun z=>e (f.trans z))]
   ·rw[du f,zv k j v r h,du f]
theorem Kx(kvs:List (List Int×α))(k j:List Int)(v:α):cg (ja kvs k v) j=if j=k then some v else cg kvs j:=by
 unfold ja
 cases q:cg kvs k with
 |none=>
  rw[if_neg (fun z=>nomatch z)]
  exact zv k j v kvs q
 |some x=>
  rw[if_pos (show (some x).isSome=true from rfl),Bz]
  by_cases e:j=k
  ·subst e;rw[if_pos rfl,if_pos rfl,q];rfl
  ·rw[if_neg e,if_neg e]
theorem MJ{kvs:List (List Int×α)}{k:List Int}{v:α}(h:cg kvs k=none):ja kvs k v=kvs++[(k,v)]:=by unfold ja;rw[h];rfl
theorem ya(kvs:List (List Int×α))(k:List Int)(v:α):(ja kvs k v).length<=kvs.length+1:=by
 unfold ja
 split
 ·rw[length_map];omega
 ·rw[length_append];exact le_refl _
end
section
variable {K:PySem.W.Frag}{Z ad:Mu}{H H1:Hp}{p:Addr}
theorem gr.look{kvs:List (List Int×PyData)}{xs:List (List Int×Addr×Value)}(r:gr K Z H kvs xs)(k:List Int) :
  (cg kvs k=none/\atKey xs k=none)\/∃d q v w,cg kvs k=some d/\atKey xs k=some (q,w)/\Rp K Z H d v/\RelV v w:=by
 unfold gr at r
 induction r with
 |nil=>exact .inl ⟨rfl,rfl⟩
 |@cons a b as bs h t ih=>
  obtain⟨h1,h2,v,h3,h4⟩:=h
  by_cases e:a.1=k
  ·refine .inr ⟨a.2,b.2.1,v,b.2.2,dm e,?_,h3,h4⟩
   have:b.1=k:=h1.symm.trans e
   simp[atKey,List.find?_cons,this]
  ·have e2:¬ b.1=k:=fun z=>e (h1.trans z)
   have e3:atKey (b::bs) k=atKey bs k:=by simp[atKey,List.find?_cons,e2]
   rw[du e,e3]
   exact ih
theorem gr.put{kvs:List (List Int×PyData)}{xs:List (List Int×Addr×Value)}(r:gr K Z H kvs xs){k:List Int}{q:Addr}{d:PyData}{v:V}{w:Value}(hq:SqT K H q (k.map V.int))(hd:Rp K Z H d v)(hv:RelV v w) :
  gr K Z H (ja kvs k d) (storedH xs k q w):=by
 have hl:=r.look k
 unfold ja storedH
 rcases hl with ⟨l1,l2⟩|⟨d',q',v',w',l1,l2,_,_⟩
 ·rw[l1,l2]
  exact Paired.snoc r ⟨rfl,hq,v,hd,hv⟩
 ·rw[l1,l2]
  rw[if_pos (show (some d').isSome=true from rfl),if_pos (show (some (q',w')).isSome=true from rfl)]
  clear l1 l2
  unfold gr at r ⊢
  induction r with
  |nil=>exact .nil
  |@cons a b as bs h t ih=>
   obtain⟨h1,h2,h3⟩:=h
   refine .cons ?_ ih
   unfold putAt
   dsimp only
   by_cases e:a.1=k
   ·rw[if_pos e,if_pos (h1.symm.trans e)]
    exact⟨h1,h2,v,hd,hv⟩
   ·rw[if_neg e,if_neg (fun z=>e (h1.trans z))]
    exact⟨h1,h2,h3⟩
theorem gr.length{kvs:List (List Int×PyData)}{xs:List (List Int×Addr×Value)}(r:gr K Z H kvs xs):kvs.length=xs.length:=Paired.length r
theorem wY{o o':Obj}{c:Box}(h:H p=some (.raw o)):Ext K Z H (br Z p c) (upd H p (.raw o')) where
 keep:=fun b u e n t=>by
  have:b≠p:=fun z=>by rw[z,h] at e;cases e;exact t
  rw[aV this];exact e
 tb:=fun b ps e n=>by
  have:b≠p:=fun z=>by rw[z,h] at e;cases e
  exact⟨ps,by rw[aV this];exact e⟩
 dom:=fun b ds q=>⟨ds,q⟩
 fresh:=fun b n q=>n
 st:=fun b u e n=>by
  by_cases z:b=p
  ·subst z;exact⟨_,eJ⟩
  ·exact⟨u,by rw[aV z];exact e⟩
 bx:=fun b c' q=>by
  by_cases z:b=p
  ·subst z;exact⟨_,bA⟩
  ·exact⟨c',by rw[bQ z];exact q⟩
theorem bG.Hs{c:Box}{o o':Obj}(ok:bG K Z H)(hs:(p==sysModules)=false)(h:H p=some (.raw o))(r:iH K Z H c o'):bG K (br Z p c) (upd H p (.raw o')):=by
 have e:Ext K Z H (br Z p c) (upd H p (.raw o')):=wY h
 refine⟨fun a ds q=>?_,ok.tab.of fun b u e' n1 n2=>?_,fun a c' q=>?_⟩
 ·obtain⟨xs,h1,h2⟩:=ok.lst a ds q
  have:a≠p:=fun z=>by rw[z,h] at h1;cases h1
  exact⟨xs,by rw[aV this];exact h1,h2.ext ok e⟩
 ·have:b≠p:=fun z=>by rw[z,h] at e';exact n2 o (Option.some.inj e').symm
  rw[aV this];exact e'
 ·by_cases z:a=p
  ·subst z
   rw[bA] at q;cases q
   exact⟨hs,o',eJ,r.ext ok e⟩
  ·rw[bQ z] at q
   obtain⟨y,ob,h1,h2⟩:=ok.box a c' q
   exact⟨y,ob,by rw[aV z];exact h1,h2.ext ok e⟩
theorem jG{o:Obj}{c:Box}(ok:bG K Z H)(h:H p=none):Ext K Z H (br Z p c) (upd H p (.raw o)) where
 keep:=fun b u e _ _=>by rw[aV (ba e h)];exact e
 tb:=fun b ps e _=>⟨ps,by rw[aV (ba e h)];exact e⟩
 dom:=fun b ds q=>⟨ds,q⟩
 fresh:=fun b n q=>n
 st:=fun b u e _=>⟨u,by rw[aV (ba e h)];exact e⟩
 bx:=fun b c' q=>by
  have:b≠p:=fun z=>by rw[z,ok.JT h] at q;cases q
  exact⟨c',by rw[bQ this];exact q⟩
theorem bG.HA{c:Box}{o:Obj}(ok:bG K Z H)(hs:(p==sysModules)=false)(h:H p=none)(r:iH K Z H c o):bG K (br Z p c) (upd H p (.raw o)):=by
 have e:Ext K Z H (br Z p c) (upd H p (.raw o)):=jG ok h
 refine⟨fun a ds q=>?_,ok.tab.of fun b u e' _ _=>?_,fun a c' q=>?_⟩
 ·obtain⟨xs,h1,h2⟩:=ok.lst a ds q
  exact⟨xs,by rw[aV (ba h1 h)];exact h1,h2.ext ok e⟩
 ·rw[aV (ba e' h)];exact e'
 ·by_cases z:a=p
  ·subst z
   rw[bA] at q;cases q
   exact⟨hs,o,eJ,r.ext ok e⟩
  ·rw[bQ z] at q
   obtain⟨y,ob,h1,h2⟩:=ok.box a c' q
   exact⟨y,ob,by rw[aV z];exact h1,h2.ext ok e⟩
theorem Bh{o:Obj}(h:o={cls:=.type "dict",data:=.dict #[]}):iH K Z H (.dict []) o:=by
 subst h
 exact⟨zero_le _,⟨rfl,rfl,rfl⟩,#[],0,[],rfl,rfl,List.nodup_nil,.nil⟩
theorem LL{o:Obj}{led:Bool}(h:o={cls:=.type "set",dict:=none,data:=.set #[] 0 (.fresh 0 0 led)}):iH K Z H (.set []) o:=by
 subst h
 exact⟨⟨rfl,rfl,rfl⟩,[],0,_,rfl,{place:=rfl,ris:=.nil,le:=fun _ h=>by simp at h,dum:=rfl,two:=⟨3,rfl,le_refl _⟩,on:=fun _ h=>by simp at h},(show 0*5<7*3 by decide),rfl,fun _ h=>by simp at h,fun _ h=>by simp at h⟩
end
section
variable {X:Cx}{pins:List (Addr×Obj)}{σ:St}{H:Hp}{s:Shared}{Z:Mu}
theorem items_int{P:Program}{w:World}:∀{ks:List Int} {us:List Value},Vals (ks.map V.int) us->ItemsAre (intKind P w) ks us
 |[],_,r=>by rw[map_nil] at r;cases r;exact .nil
 |k::ks,_,r=>by
  rw[map_cons] at r
  cases r with
  |cons h t=>obtain⟨tk,rfl⟩:=h;exact .cons (by show Value.isInt k (.int k tk)=true;simp[Value.isInt]) (items_int t)
theorem ij{q:Addr}{ks:List Int}(I:Inv X pins σ H s)(h:SqT X.K H q (ks.map V.int)):IsTupleKey (intKind X.prog X.w) s.heap ks q:=by
 obtain⟨its,r,⟨o,h1,h2,n,h3⟩,_⟩:=I.tuple h
 exact⟨o,its.toArray,n,h1,h2,h3,by simpa using items_int r⟩
theorem Nx{kvs:List (List Int×PyData)}{xs:List (List Int×Addr×Value)}(I:Inv X pins σ H s)(r:gr X.K Z H kvs xs):∀x∈xs,IsTupleKey (intKind X.prog X.w) s.heap x.1 x.2.1:=by
 unfold gr at r
 induction r with
 |nil=>intro x hx;exact nomatch hx
 |@cons a b as bs h t ih=>
  intro x hx
  rcases List.mem_cons.mp hx with rfl|hx
  ·obtain⟨h1,h2,_⟩:=h
   rw[<- h1]
   exact ij I h2
  ·exact ih x hx
theorem p4{kvs:List (List Int×PyData)}{a:Addr}{o:Obj}(I:Inv X pins σ H s)(h:H a=some (.raw o))(r:iH X.K Z H (.dict kvs) o) :
  ∃xs,gr X.K Z H kvs xs/\s.heap.DictOfH (tupleKind (intKind X.prog X.w)) a xs/\xs.length<=sizeLine:=by
 obtain⟨h1,h2,es,ep,xs,h3,h4,h5,h6⟩:=r
 exact⟨xs,h6,⟨o,es,ep,(show s.heap.get? a=some o from I.hok a _ h),h2,h3,h4,Nx I h6,h5⟩,by rw[<- h6.length];exact h1⟩
theorem Bl{kvs:List (List Int×PyData)}{a:Addr}{xs:List (List Int×Addr×Value)}{h':Heap}(hl:kvs.length<=sizeLine)(r:gr X.K Z H kvs xs)(d:h'.DictOfH (tupleKind (intKind X.prog X.w)) a xs) :
  ∃o,h'.get? a=some o/\iH X.K Z H (.dict kvs) o:=by
 obtain⟨o,es,ep,h1,h2,h3,h4,_,h5⟩:=d
 exact⟨o,h1,hl,h2,es,ep,xs,h3,h4,h5,r⟩
end
section
variable {X:Cx}{pins:List (Addr×Obj)}{σ:St}{H:Hp}{s:Shared}{Z:Mu}{A:Around}{E:Value->Shared->Prop}
theorem Iu{ks:List (List Int)}{a:Addr}{o:Obj}(I:Inv X pins σ H s)(h:H a=some (.raw o))(r:iH X.K Z H (.set ks) o) :
  ∃L:ST.Ln Value,ST.Eu s.heap a L/\L.length=ks.length/\(∀x∈L,∃k,ST.Ent (intKind X.prog X.w) s.heap x k/\k∈ks)/\(∀k∈ks,∃x∈L,ST.Ent (intKind X.prog X.w) s.heap x k) /\
   (∀x∈L,∃k q,x.2.2 = .ref q/\SqT X.K H q (k.map V.int)/\x.2.1=hI k/\k∈ks)/\∀k∈ks,∃x∈L,∃q,x.2.2 = .ref q/\SqT X.K H q (k.map V.int):=by
 obtain⟨h1,L,ep,t,h2,h3,h4,h5,h6,h7⟩:=r
 have ent:∀x∈L,∃k,ST.Ent (intKind X.prog X.w) s.heap x k/\k∈ks:=fun x hx=>by
  obtain⟨k,q,z1,z2,z3,z4⟩:=h6 x hx
  exact⟨k,⟨q,z1,ij I z2,z3⟩,z4⟩
 refine⟨L,⟨o,ep,t,(show s.heap.get? a=some o from I.hok a _ h),h1,h2,h3,h4⟩,h5,ent,fun k hk=>?_,h6,h7⟩
 obtain⟨x,hx,q,z1,z2⟩:=h7 k hk
 obtain⟨k',e',_⟩:=ent x hx
 have:k=k':=by
  obtain⟨q',y1,y2,_⟩:=e'
  rw[z1] at y1;cases y1
  exact (ij I z2).inj y2
 subst this
 exact⟨x,hx,e'⟩
theorem Ji{L:ST.Ln Value}{ks:List (List Int)}{h:Heap}{k:List Int}(a:∀x∈L,∃k,ST.Ent (intKind X.prog X.w) h x k/\k∈ks)(b:∀k∈ks,∃x∈L,ST.Ent (intKind X.prog X.w) h x k) :
  (∃x∈L,ST.Ent (intKind X.prog X.w) h x k)↔k∈ks:=by
 constructor
 ·rintro ⟨x,hx,e⟩
  obtain⟨k',e',hk⟩:=a x hx
  rw[e.inj e'];exact hk
 ·exact b k
theorem Qa{ks:List (List Int)}{a q:Addr}{o:Obj}{k:List Int}{Q:Value->Shared->Prop}(hu:A.units+64<cLine)(I:Inv X pins σ H s)(h:H a=some (.raw o))(r:iH X.K Z H (.set ks) o)(hk:SqT X.K H q (k.map V.int))(hb:ks.length<=9800)
  (hq:∀s',Inv X pins σ H s'->Q (.bool (decide (k∈ks))) s'):wpAny (model X.prog X.w) A (compareOp .In (.ref q) (.ref a)) Q E s:=by
 obtain⟨L,S,len,en1,en2,_,_⟩:=Iu I h r
 have hT:s.TypeIs (.ref a) "set":=let ⟨o,_,_,ho,hc,_⟩:=S;⟨o,ho,hc.1⟩
 show wpAny _ _ (do return .bool (<- contains (.ref a) (.ref q))) Q E s
 refine wpAny_bind ?_
 unfold contains
 try with_reducible refine wpAny_holding ?_
 refine wpAny_bind (wpAny_specialOf hT PySem.F.slot_set_contains.lookup ?_)
 show wpAny _ _ (if (some (Value.builtin "set.__contains__")==some Value.none)=true then _ else _) _ E s
 rw[if_neg (by rw[beq_builtin_none];exact Bool.false_ne_true)]
 refine wpAny_bind (wpAny_callSpecialUnlessNone?_slot (name:=Str.ofString "__contains__") hT PySem.F.slot_set_contains
  (wpAny_call_entry PySem.F.slot_set_contains hT entry_set_contains ?_ (PySem.F.args_set_contains_2 _ _)))
 unfold Builtin.«frozenset.__contains__» Builtin.Frozenset.oneOther
 simp only[List.isEmpty_nil,bind_assoc]
 unfold Builtin.Frozenset.addrOf Builtin.Frozenset.withSetAsKey
 refine wpAny_bind (wpAny_pure ?_)
 try dsimp only
 refine wpAny_bind (wpAny_pure ?_)
 try dsimp only
 refine wpAny_bind (wpAny_tryCatch ?_)
 refine ST.FD (by show A.units+1<cLine;omega) S (fun x hx=>let ⟨k,e,_⟩:=en1 x hx;⟨k,e⟩) ∅ (ij I hk) fun b hbq=>?_
 have e:b=decide (k∈ks):=by
  rw[Bool.eq_iff_iff,hbq,Ji en1 en2,decide_eq_true_eq]
 show wpAny _ _ (ret (Value.bool b)) _ _ _
 exact wpAny_pure ⟨_,rfl,wpAny_truthy_bool (wpAny_pure (by rw[e];exact hq _ (I.tok _)))⟩
theorem NY{ks:List (List Int)}{a q:Addr}{o:Obj}{k:List Int}{Q:Value->Shared->Prop}(hu:A.units+64<cLine)(I:Inv X pins σ H s)(h:H a=some (.raw o))(r:iH X.K Z H (.set ks) o)(hk:SqT X.K H q (k.map V.int))(hb:ks.length<=9800)(hn:k ∉ ks)
  (hq:∀o' s',Inv X pins σ (upd H a (.raw o')) s'->iH X.K Z H (.set (ks++[k])) o'->Q .none s'):wpAny (model X.prog X.w) A (call (.builtin "set.add") [.ref a,.ref q]) Q E s:=by
 obtain⟨L,S,len,en1,en2,r1,r2⟩:=Iu I h r
 have hT:s.TypeIs (.ref a) "set":=let ⟨o,_,_,ho,hc,_⟩:=S;⟨o,ho,hc.1⟩
 refine wpAny_call_entry PySem.F.slot_set_add hT PySem.F.entry_set_add ?_ (PySem.F.args_set_add_2 _ _)
 unfold Builtin.«set.add» Builtin.Frozenset.oneOther
 simp only[List.isEmpty_nil,bind_assoc]
 unfold Builtin.Frozenset.addrOf
 refine wpAny_bind (wpAny_pure ?_)
 try dsimp only
 refine wpAny_bind (wpAny_pure ?_)
 try dsimp only
 refine wpAny_bind ?_
 refine ST.RP (by show A.units+1<cLine;omega) S (fun x hx=>let ⟨k,e,_⟩:=en1 x hx;⟨k,e⟩) ∅ (ij I hk) (fun z=>absurd ((Ji en1 en2).mp z) hn) fun _ h' L' sb S' len' mem'=>?_
 obtain⟨o',ep,t,ho,hex,hd,T,hr⟩:=S'
 show wpAny _ _ (ret Value.none) _ _ _
 refine wpAny_pure ⟨_,rfl,hq o' _ (CV I (by rw[h];exact True.intro) sb ⟨o',ho⟩ ho) ⟨hex,L',ep,t,hd,T,hr,by rw[len',len,length_append];rfl,fun x hx=>?_,fun k' hk'=>?_⟩⟩
 ·rcases (mem' x.2).mp (List.mem_map.mpr ⟨x,hx,rfl⟩) with z|z
  ·obtain⟨y,hy,ey⟩:=List.mem_map.mp z
   obtain⟨k',q',y1,y2,y3,y4⟩:=r1 y hy
   exact⟨k',q',by rw[<- ey];exact y1,y2,by rw[<- ey];exact y3,mem_append_left _ y4⟩
  ·exact⟨k,q,by rw[z],hk,by rw[z];rfl,mem_append_right _ (List.mem_singleton.mpr rfl)⟩
 ·rcases List.mem_append.mp hk' with z|z
  ·obtain⟨y,hy,q',y1,y2⟩:=r2 k' z
   obtain⟨x,hx,ex⟩:=List.mem_map.mp ((mem' y.2).mpr (.inl (List.mem_map.mpr ⟨y,hy,rfl⟩)))
   exact⟨x,hx,q',by rw[ex];exact y1,y2⟩
  ·rw[mem_singleton] at z
   subst z
   obtain⟨x,hx,ex⟩:=List.mem_map.mp ((mem' (tupleKeyHash (intKind X.prog X.w) k',.ref q)).mpr (.inr rfl))
   exact⟨x,hx,q,by rw[ex],hk⟩
end
section
variable {X:Cx}{a b e o:Expr}{ta tb te to:DTE}{pos p apos cpos:Pos}
theorem DE.mk{td:DTE}(h:∀(pins:List (Addr×Obj)) (s:Shared) (σ:St) (H:Hp) (ρ:Rho) (Z:Mu) (Qd:DK),Inv X pins σ H s->St0 X.K H ρ Z σ->td ρ Z Qd ->
  wpAny (model X.prog X.w) X.A (eval e X.env) (fun v s'=>∃d u U H',Inv X pins σ H' s'/\RelV u v/\Ext X.K Z H U H'/\St0 X.K H' ρ U σ/\RpD X.K U H' d u/\Qd d U) X.xe s):DE X e td:=by
 refine⟨fun σ H Q=>∃ρ Z Qd,St0 X.K H ρ Z σ/\td ρ Z Qd/\∀d u U H',Ext X.K Z H U H'->St0 X.K H' ρ U σ->RpD X.K U H' d u->Qd d U->Q u H',?_,fun σ H ρ Z Qd Q S h k=>⟨ρ,Z,Qd,S,h,k⟩⟩
 intro pins s σ H Q I ⟨ρ,Z,Qd,S,q,k⟩
 exact wpAny_mono (h pins s σ H ρ Z Qd I S q) (fun v s' ⟨d,u,U,H',I',rv,ex,S',rd,q'⟩=>⟨u,H',I',rv,k d u U H' ex S' rd q'⟩) fun _ _ z=>z
theorem DE.use{td:DTE}(h:DE X e td){pins:List (Addr×Obj)}{s:Shared}{σ:St}{H:Hp}{ρ:Rho}{Z:Mu}{Qd:DK}(I:Inv X pins σ H s)(S:St0 X.K H ρ Z σ)(q:td ρ Z Qd) :
  wpAny (model X.prog X.w) X.A (eval e X.env) (fun v s'=>∃d u U H',Inv X pins σ H' s'/\RelV u v/\Ext X.K Z H U H'/\St0 X.K H' ρ U σ/\RpD X.K U H' d u/\Qd d U) X.xe s:=by
 obtain⟨t,p,l⟩:=h
 exact wpAny_mono (p pins s σ H (fun u H'=>∃d U,Ext X.K Z H U H'/\St0 X.K H' ρ U σ/\RpD X.K U H' d u/\Qd d U) I (l σ H ρ Z Qd _ S q fun d u U H' ex S' r z=>⟨d,U,ex,S',r,z⟩))
  (fun v s' ⟨u,H',I',rv,d,U,ex,S',r,z⟩=>⟨d,u,U,H',I',rv,ex,S',r,z⟩) fun _ _ z=>z
noncomputable def DZ:DTE:=fun _ Z Q=>∀p,Z.b p=none->Q (.b p) (br Z p (.set []))
noncomputable def Eg:DTE:=fun _ Z Q=>∀p,Z.b p=none->Q (.b p) (br Z p (.dict []))
theorem yg{ρ:Rho}{Z:Mu}{Q:DK}:DZ ρ Z Q = ∀p,Z.b p=none->Q (.b p) (br Z p (.set [])):=rfl
theorem xA{ρ:Rho}{Z:Mu}{Q:DK}:Eg ρ Z Q = ∀p,Z.b p=none->Q (.b p) (br Z p (.dict [])):=rfl
theorem Hy{pins:List (Addr×Obj)}{s:Shared}{σ:St}{H:Hp}(I:Inv X pins σ H s):(s.heap.objs.size==sysModules)=false:=beq_eq_false_iff_ne.mpr (Ne.symm (ne_of_lt I.big))
theorem Kb(hg:Gl X "set")(hm:X.mg "set"=none):DE X (.Call (.Name "set" p) [] [] pos) DZ:=by
 refine DE.mk fun pins s σ H ρ Z Qd I S q=>?_
 refine wpAny_Call_Name_kw (rf I hg hm PyProof.Rows.Boot.«set» ?_ ⋯ ⋯)
 refine PyProof.Rows.callWith_type0 (call_set_0 fun led=>?_)
 have hn:=I.hok.fresh (le_refl s.heap.objs.size)
 have ex:=jG (K:=X.K) (o:={cls:=.type "set",dict:=none,data:=.set #[] 0 (.fresh 0 0 led)}) (c:=.set []) S.mu hn
 refine⟨.b s.heap.objs.size,.ref s.heap.objs.size,br Z s.heap.objs.size (.set []),_,I.laid (a:=s.heap.objs.size) (o:=.raw _) (t':=s.toks) (fun _ _ q=>Heap.get?_push_of_some _ q) (le_refl _) (Heap.get?_push_size _ rfl),rfl,ex,
  ⟨S.mu.HA (Hy I) hn (LL rfl),S.rho.ext S.mu ex⟩,⟨rfl,_,bA⟩,q _ (S.mu.JT hn)⟩
theorem KW:DE X (.Dict [] [] pos) Eg:=by
 refine DE.mk fun pins s σ H ρ Z Qd I S q=>?_
 refine wpAny_Dict_empty ?_
 have hn:=I.hok.fresh (le_refl s.heap.objs.size)
 have ex:=jG (K:=X.K) (o:={cls:=.type "dict",data:=.dict #[]}) (c:=.dict []) S.mu hn
 refine⟨.b s.heap.objs.size,.ref s.heap.objs.size,br Z s.heap.objs.size (.dict []),_,I.laid (a:=s.heap.objs.size) (o:=.raw _) (t':=s.toks) (fun _ _ q=>Heap.get?_push_of_some _ q) (le_refl _) (Heap.get?_push_size _ rfl),rfl,ex,
  ⟨S.mu.HA (Hy I) hn (Bh rfl),S.rho.ext S.mu ex⟩,⟨rfl,_,bA⟩,q _ (S.mu.JT hn)⟩
def oi:D->Option (List Int)
 |.v (.tuple ds)=>intsOf ds
 |_=>none
theorem pK{K:PySem.W.Frag}{Z:Mu}{H:Hp}{d:D}{u:V}{k:List Int}(r:RpD K Z H d u)(h:oi d=some k):∃q,u = .ref q/\SqT K H q (k.map V.int):=by
 cases d with
 |v x=>
  cases x with
  |tuple ds=>
   cases r with
   |tuple hs rl=>exact⟨_,rfl,by rw[<- Jk rl h];exact hs⟩
  |_=>cases h
 |_=>cases h
def inB(c:Box)(k:List Int):Bool:=match c with
 |.set ks=>decide (k∈ks)
 |.dict kvs=>(cg kvs k).isSome
def Mp:Box->Prop
 |.set ks=>ks.length<=9800
 |.dict kvs=>kvs.length<=9800
def IA(neg:Bool):D->D->Mu->DK->Prop:=fun x y Z Q=>∃k a c,oi x=some k/\y = .b a/\Z.b a=some c/\Mp c/\(neg=true->∃kvs,c = .dict kvs)/\Q (.v (.bool (xor neg (inB c k)))) Z
noncomputable def QK(K:PySem.W.Frag)(r:D->D->Mu->DK->Prop):R2:=fun ux uy H Q=>∃x y Z Qd,bG K Z H/\RpD K Z H x ux/\RpD K Z H y uy/\r x y Z Qd/\∀d u U H',Ext K Z H U H'->bG K U H'->RpD K U H' d u->Qd d U->Q u H'
theorem Lu{K:PySem.W.Frag}{r:D->D->Mu->DK->Prop}:i4 K (QK K r) r:=fun x y ux uy H Z Qd Q ok rx ry h k=>⟨x,y,Z,Qd,ok,rx,ry,h,k⟩
theorem Rv(hu:X.A.units+64<cLine):OpR X (compareOp .In) (QK X.K (IA false)):=by
 intro pins s σ H ux uy v u Q I rv ru h
 obtain⟨x,y,Z,Qd,ok,rx,ry,⟨k,a,c,hk,rfl,hc,few,_,q⟩,kk⟩:=h
 obtain⟨qk,rfl,hq⟩:=pK rx hk
 obtain⟨rfl,_⟩:=ry
 cases rv;cases ru
 obtain⟨ns,ob,hr,hb⟩:=ok.box a c hc
 have fin:∀s',Inv X pins σ H s'->EP X pins σ Q (.bool (inB c k)) s':=fun s' I'=>⟨.bl (inB c k),H,I',rfl,kk (.v (.bool (inB c k))) _ Z H .refl ok (Rp.bool _) (by rw[false_xor] at q;exact q)⟩
 cases c with
 |set ks=>exact Qa hu I hr hb hq few fin
 |dict kvs=>
  obtain⟨xs,dp,dd,len⟩:=p4 I hr hb
  refine wpAny_in_heap (tupleKind_room_in1 ∅) (ij I hq) ns dd ?_
  have e:(atKey xs k).isSome=inB (.dict kvs) k:=by
   show _=(cg kvs k).isSome
   rcases dp.look k with ⟨l1,l2⟩|⟨d',q',v',w',l1,l2,_,_⟩
   ·rw[l1,l2];rfl
   ·rw[l1,l2];rfl
  rw[e]
  exact fin _ (I.tok _)
theorem KO(hu:X.A.units+64<cLine):OpR X (compareOp .NotIn) (QK X.K (IA true)):=by
 intro pins s σ H ux uy v u Q I rv ru h
 obtain⟨x,y,Z,Qd,ok,rx,ry,⟨k,a,c,hk,rfl,hc,few,hn,q⟩,kk⟩:=h
 obtain⟨qk,rfl,hq⟩:=pK rx hk
 obtain⟨rfl,_⟩:=ry
 cases rv;cases ru
 obtain⟨ns,ob,hr,hb⟩:=ok.box a c hc
 obtain⟨kvs,rfl⟩:=hn rfl
 obtain⟨xs,dp,dd,len⟩:=p4 I hr hb
 refine wpAny_notIn_heap (tupleKind_room_in1 ∅) (ij I hq) ns dd ?_
 have e:(atKey xs k).isSome=inB (.dict kvs) k:=by
  show _=(cg kvs k).isSome
  rcases dp.look k with ⟨l1,l2⟩|⟨d',q',v',w',l1,l2,_,_⟩
  ·rw[l1,l2];rfl
  ·rw[l1,l2];rfl
 rw[e]
 exact⟨.bl (!inB (.dict kvs) k),H,I.tok _,rfl,kk (.v (.bool _)) _ Z H .refl ok (Rp.bool _) (by rw[true_xor] at q;exact q)⟩
theorem Qu(hu:X.A.units+64<cLine)(ha:DE X a ta)(hb:DE X b tb)(hm:behindInMarks .In b=false:=by rfl):DT X (.Compare a [.In] [b] pos) (dB (dOp (IA false) ta tb)):=aW (Rv hu) Lu ha hb hm
theorem Bo(hu:X.A.units+64<cLine)(ha:DE X a ta)(hb:DE X b tb)(hm:behindInMarks .NotIn b=false:=by rfl):DT X (.Compare a [.NotIn] [b] pos) (dB (dOp (IA true) ta tb)):=aW (KO hu) Lu ha hb hm
end
section
variable {X:Cx}{a b e o i value:Expr}{ta tb te to ti tv:DTE}{pos pos' p apos cpos:Pos}
noncomputable def L0(to te:DTE):DTE:=fun ρ Z Q=>to ρ Z fun x ad=>∃a ks0,x = .b a/\ad.b a=some (.set ks0)/\te ρ ad fun y am=>∃k ks,oi y=some k/\am.b a=some (.set ks)/\ks.length<=9800/\k ∉ ks/\Q (.v .none) (br am a (.set (ks++[k])))
theorem IE{ρ:Rho}{Z:Mu}{Q:DK}:L0 to te ρ Z Q=to ρ Z fun x ad=>∃a ks0,x = .b a/\ad.b a=some (.set ks0)/\te ρ ad fun y am=>∃k ks,oi y=some k/\am.b a=some (.set ks)/\ks.length<=9800/\k ∉ ks/\Q (.v .none) (br am a (.set (ks++[k]))):=rfl
theorem N9(hu:X.A.units+64<cLine)(ho:DE X o to)(he:DE X e te)(m:M1 X o "add" apos e cpos:=by exact⟨rfl,rfl,rfl,rfl⟩):DE X (.Call (.Attribute o "add" apos) [e] [] cpos) (L0 to te):=by
 refine DE.mk fun pins s σ H ρ Z Qd I S q=>?_
 refine wpAny_Call_method m.base m.few m.line PySem.F.plainAttrs_set PySem.F.slot_set_add PySem.F.type_set_add (thn (ho.use I S q) fun u s1 h1=>?_)
 obtain⟨x,ux,ad,H1,I1,rx,e1,S1,rd,a,ks0,ex,hb0,q1⟩:=h1
 subst ex
 obtain⟨rfl,_⟩:=rd
 cases rx
 obtain⟨ns,ob,hr,hb⟩:=S1.mu.box a _ hb0
 obtain⟨L,SA,_,_,_,_,_⟩:=Iu I1 hr hb
 obtain⟨ob',ep,t,g1,g2,_⟩:=SA
 refine⟨⟨ob',g1,g2.1⟩,fun b z=>by cases z;exact⟨ob',g1,g2.2.1⟩,?_⟩
 rw[m.trees]
 refine Calls.callWith_builtin rfl (Calls.evalArgs_plain (Calls.spliced_cons (thn (he.use I1 S1 q1) fun iv s2 h2=>Calls.spliced_nil ?_)))
 obtain⟨y,uy,am,H2,I2,ry,e2,S2,rd2,k,ks,hk,hb2,few,hn,q2⟩:=h2
 obtain⟨qk,rfl,hq⟩:=pK rd2 hk
 cases ry
 obtain⟨_,ob2,hr2,hb3⟩:=S2.mu.box a _ hb2
 refine NY hu I2 hr2 hb3 hq few hn fun o' s3 I3 hb4=>?_
 have ex:=wY (K:=X.K) (Z:=am) (c:=.set (ks++[k])) (o':=o') hr2
 exact⟨.v .none,.non,_,_,I3,rfl,e1.trans (e2.trans ex),⟨S2.mu.Hs ns hr2 hb4,S2.rho.ext S2.mu ex⟩,Rp.none,q2⟩
noncomputable def Kt(to ti:DTE):DTE:=fun ρ Z Q=>to ρ Z fun x ad=>ti ρ ad fun y am=>∃a kvs k d,x = .b a/\oi y=some k/\am.b a=some (.dict kvs)/\cg kvs k=some d/\Q (.v d) am
theorem MT{ρ:Rho}{Z:Mu}{Q:DK}:Kt to ti ρ Z Q=to ρ Z fun x ad=>ti ρ ad fun y am=>∃a kvs k d,x = .b a/\oi y=some k/\am.b a=some (.dict kvs)/\cg kvs k=some d/\Q (.v d) am:=rfl
theorem CZ(hu:X.A.units+64<cLine)(ho:DE X o to)(hi:DE X i ti)(hs:Sq i:=by exact fun _ _=>rfl):DE X (.Subscript o i pos) (Kt to ti):=by
 refine DE.mk fun pins s σ H ρ Z Qd I S q=>?_
 refine O1 PySem.F.slot_dict_getitem.lookup hs (thn (ho.use I S q) fun u s1 h1=>?_)
 obtain⟨x,ux,ad,H1,I1,rx,e1,S1,rd,q1⟩:=h1
 refine thn (hi.use I1 S1 q1) fun iv s2 h2=>?_
 obtain⟨y,uy,am,H2,I2,ry,e2,S2,rd2,a,kvs,k,d,ex,hk,hb2,hl,q2⟩:=h2
 subst ex
 obtain⟨rfl,_⟩:=rd
 cases rx
 obtain⟨qk,rfl,hq⟩:=pK rd2 hk
 cases ry
 obtain⟨ns,ob,hr,hb⟩:=S2.mu.box a _ hb2
 obtain⟨xs,dp,dd,len⟩:=p4 I2 hr hb
 rcases dp.look k with ⟨l1,_⟩|⟨d',q',v',w',l1,l2,l3,l4⟩
 ·rw[hl] at l1;cases l1
 ·rw[hl] at l1;cases l1
  refine⟨dd.typeIs,wpAny_getItem_heap (tupleKind_room_in1 ∅) (ij I2 hq) dd l2 ?_⟩
  exact⟨.v d,v',am,H2,I2.tok _,l4,e1.trans e2,S2,l3,q2⟩
noncomputable def JM(to ti tv:DTE):DTS:=fun D ρ Z=>tv ρ Z fun v ad=>to ρ ad fun x am=>ti ρ am fun y be=>∃a kvs k d,v = .v d/\x = .b a/\oi y=some k/\be.b a=some (.dict kvs)/\kvs.length<=9800/\D.nx ρ (br be a (.dict (ja kvs k d)))
theorem Hw{D:Bs}{ρ:Rho}{Z:Mu}:JM to ti tv D ρ Z=tv ρ Z fun v ad=>to ρ ad fun x am=>ti ρ am fun y be=>∃a kvs k d,v = .v d/\x = .b a/\oi y=some k/\be.b a=some (.dict kvs)/\kvs.length<=9800/\D.nx ρ (br be a (.dict (ja kvs k d))):=rfl
theorem O5(hu:X.A.units+64<cLine)(ho:DE X o to)(hi:DE X i ti)(hv:DE X value tv)(hs:swapsWith value (some (.Subscript o i pos')) pos.line X.env=pure false:=by rfl):DS X (.Assign [.Subscript o i pos'] value pos) (JM to ti tv):=by
 refine⟨fun De σ H=>∃ρ Z Dd,St0 X.K H ρ Z σ/\JM to ti tv Dd ρ Z/\∀bn bm U H',Ext X.K Z H U H'->St0 X.K H' bm U bn->Dd.nx bm U->De.nx bn H',?_,fun σ H ρ Z Dd De S h kn _ _ _=>⟨ρ,Z,Dd,S,h,kn⟩⟩
 intro pins s σ H D I ⟨ρ,Z,Dd,S,q,kn⟩
 refine wpAny_Assign_Subscript (thn (hv.use I S q) fun r s1 h1=>?_) hs
 obtain⟨v,uv,ad,H1,I1,rv,e1,S1,rd1,q1⟩:=h1
 refine thn (ho.use I1 S1 q1) fun u s2 h2=>?_
 obtain⟨x,ux,am,H2,I2,rx,e2,S2,rd2,q2⟩:=h2
 refine thn (hi.use I2 S2 q2) fun iv s3 h3=>?_
 obtain⟨y,uy,be,H3,I3,ry,e3,S3,rd3,a,kvs,k,d,ev,ex,hk,hb3,few,q3⟩:=h3
 subst ex;subst ev
 obtain⟨rfl,_⟩:=rd2
 cases rx
 obtain⟨qk,rfl,hq⟩:=pK rd3 hk
 cases ry
 obtain⟨ns,ob,hr,hb⟩:=S3.mu.box a _ hb3
 obtain⟨xs,dp,dd,len⟩:=p4 I3 hr hb
 have rd1':Rp X.K be H3 d uv:=Rp.ext S1.mu (e2.trans e3) rd1
 refine wpAny_setItem_heap (hsz:=len) (tupleKind_room_in1 ∅) (ij I3 hq) dd fun h' dd' sb=>?_
 have hl:(ja kvs k d).length<=sizeLine:=by have:=ya kvs k d;rw[sizeLine_eq];omega
 obtain⟨o',g1,g2⟩:=Bl (X:=X) (Z:=be) (H:=H3) hl (dp.put hq rd1' rv) dd'
 have exx:=wY (K:=X.K) (Z:=be) (c:=.dict (ja kvs k d)) (o':=o') hr
 exact⟨σ,upd H3 a (.raw o'),CV (ob:=.raw o') I3 (by rw[hr];exact True.intro) sb ⟨o',g1⟩ g1,kn σ ρ _ _ (e1.trans (e2.trans (e3.trans exx))) ⟨S3.mu.Hs ns hr g2,S3.rho.ext S3.mu exx⟩ q3⟩
def Ew:Box->Nat
 |.set ks=>ks.length
 |.dict kvs=>kvs.length
theorem wz{prog:Program}{w:World}{K:Type}[DecidableEq K](knd:HeapKind prog w K)(d:Addr)(hd:(d==sysModules)=false) :
  MeetsIn prog w (Builtin.«dict.__len__» ⟨[.ref d],[]⟩) (fun _ R s=>∃kvs,s.heap.DictOfH knd d kvs/\R (.ok (.ret (.int kvs.length s.toks))) {s with toks:=s.toks+1}):=
 .of_wp fun A R s ⟨kvs,hm,h⟩=>by
  obtain⟨o,es,ep,ho,hc,hdat,hk,hp,hn⟩:=hm
  show wpAny _ _ (dictSize d>>=_) _ _ s
  unfold dictSize
  refine wpAny_bind (wpAny_bind (wpAny_dictEntries ho hdat (wpAny_pure ?_)))
  show wpAny _ _ (Builtin.Dict.pendingCount d>>=_) _ _ s
  refine wpAny_bind (wpAny_pendingCount_other hd ?_)
  refine wpAny_ret_mkInt ?_
  have:es.size=kvs.length:=size_of_entries hk
  rw[Nat.add_zero,this];exact h
theorem yt{prog:Program}{w:World}{K:Type}[DecidableEq K]{knd:HeapKind prog w K}{A:Around}{E:Value->Shared->Prop}{s:Shared}{d:Addr}{kvs:List (K×Addr×Value)}{Q:Value->Shared->Prop}(hd:(d==sysModules)=false)(hm:s.heap.DictOfH knd d kvs)(hfit:(kvs.length:Int)<2 ^ 63)
  (h:Q (.int kvs.length (s.toks+1)) {s with toks:=s.toks+1+1}):wpAny (model prog w) A (call (.builtin "len") [.ref d]) Q E s:=by
 refine Calls.call_function_entry kind_len plain_len entry_len (args_len1 _) ?_
 unfold Builtin.«len»
 refine wpAny_bind (m:=oneArg "len" _) (wpAny_pure ?_)
 refine wpAny_bind (m:=callSpecial? (.ref d) (Str.ofString "__len__")) (wpAny_callSpecial?_slot (name:=Str.ofString "__len__") hm.typeIs PySem.F.slot_dict_len
  (call_meetsIn PySem.F.slot_dict_len hm.typeIs PySem.F.entry_dict_len (PySem.F.args_dict_len_1 _) (wz knd d hd) ⟨kvs,hm,?_⟩))
 show wpAny _ _ _ _ _ {s with toks:=s.toks+1}
 refine wpAny_bind (wpAny_holding (wpAny_pure ?_))
 refine wpAny_bind (wpAny_letGo ?_)
 show wpAny _ _ (if ((kvs.length:Nat):Int)<0 then _ else _) _ _ _
 rw[if_neg ∅]
 show wpAny _ _ (if ((kvs.length:Nat):Int) ≥ 2 ^ 63 then _ else _) _ _ _
 rw[if_neg ∅]
 exact wpAny_bind (wpAny_mkInt (wpAny_pure ⟨_,rfl,h⟩))
def MN:List D->Mu->DK->Prop:=fun xs Z Q=>∃a c,xs=[.b a]/\Z.b a=some c/\Mp c/\Q (.v (.int (Ew c:Nat))) Z
def Sk(K:PySem.W.Frag)(r:List D->Mu->DK->Prop):List V->Hp->VK->Prop:=fun us H Q=>∃ds Z Qd,bG K Z H/\jO K Z H ds us/\r ds Z Qd/\∀d u U H',Ext K Z H U H'->bG K U H'->RpD K U H' d u->Qd d U->Q u H'
theorem RG{K:PySem.W.Frag}{r:List D->Mu->DK->Prop}:nL K (Sk K r) r:=fun xs us H Z Qd Q ok rs h k=>⟨xs,Z,Qd,ok,rs,h,k⟩
theorem Km:jE X (.builtin "len") (Sk X.K MN):=by
 intro pins s σ H xs us Q I r h
 obtain⟨ds,Z,Qd,ok,rs,⟨a,c,rfl,hc,few,q⟩,kk⟩:=h
 cases rs with
 |cons r1 r2=>
  cases r2
  obtain⟨rfl,_⟩:=r1
  obtain⟨u,rfl,rx⟩:=vals1 r
  cases rx
  obtain⟨ns,ob,hr,hb⟩:=ok.box a c hc
  have fin:∀(t:Tok) s',Inv X pins σ H s'->EP X pins σ Q (.int (Ew c:Nat) t) s':=fun t s' I'=>⟨.int (Ew c:Nat),H,I',⟨t,rfl⟩,kk (.v (.int (Ew c:Nat))) _ Z H .refl ok (Rp.int _) q⟩
  cases c with
  |set ks=>
   obtain⟨h1,L,ep,t,h2,h3,h4,h5,_,_⟩:=hb
   have hs:(L.map (·.2)).toArray.size=ks.length:=by rw[size_toArray,length_map,h5]
   have few':ks.length<=9800:=few
   refine PySem.call_len_set (show s.heap.get? a=some ob from I.hok a _ hr) h1 h2 (ST.fits_of h3 ∅) (by rw[hs];exact Int.lt_of_le_of_lt (by exact_mod_cast few':(ks.length:Int)<=9800) ⋯) ?_
   rw[hs]
   exact fin _ _ (I.kept (h':=s.heap) (t':=s.toks+1+1) fun _ _ e=>e)
  |dict kvs=>
   obtain⟨xs,dp,dd,len⟩:=p4 I hr hb
   have few':kvs.length<=9800:=few
   refine yt ns dd (by rw[<- dp.length];exact Int.lt_of_le_of_lt (by exact_mod_cast few':(kvs.length:Int)<=9800) ⋯) ?_
   rw[<- dp.length]
   exact fin _ _ (I.kept (h':=s.heap) (t':=s.toks+1+1) fun _ _ e=>e)
theorem O7{es:List Expr}{t:DTA}(hg:Gl X "len")(hm:X.mg "len"=none)(ha:DA X (e::es) t)
  (he:starEach (e::es) X.env=(false,eval e X.env)::starEach es X.env:=by rfl) (hpl:(backTo pos (starEach es X.env)).any (·.1)=false:=by rfl):DE X (.Call (.Name "len" p) (e::es) [] pos) (dCB MN t):=
 lM Km RG hg hm PySem.boot_len ha ⋯ ⋯ he hpl
end
theorem qF{prog:Program}{w:World}{A:Around}{R:Result->Shared->Prop}{s:Shared}{kx vx target iter:Expr}{ifs:List Expr}{scope:Scope}{pos:Pos}{it:Value}{D:Addr}{env:Env}(I:Nat->Shared->Prop)
  (turn:∀n s,I n s->wpAny (model prog w) A (pyNext it) (fun r ca=>match r with
   |none=>R (.ok .next) ca
   |some v=>wpAny (model prog w) A (letOwnedTupleGo target it v) (fun _ s'=>wpAny (model prog w) A (assign target env v) (fun _ ii=>
     wpAny (model prog w) A (forIn ifs true fun c r=>if r=true then do let ok <- isTrue c env (eval c env);pure (ForInStep.yield ok) else pure (ForInStep.yield r)) (fun ok bi=>
      if ok=true then wpAny (model prog w) A (eval kx env) (fun kv po=>wpAny (model prog w) A (eval vx env) (fun vv re=>
       wpAny (model prog w) A (dictSet D kv vv) (fun _ wl=>∃m,m<n/\I m wl) (fun _ _=>False) re) (fun _ _=>False) po) (fun _ _=>False) bi
      else ∃m,m<n/\I m bi) (fun _ _=>False) ii) (fun _ _=>False) s') (fun _ _=>False) ca) (fun _ _=>False) s)
  (n:Nat) (h:I n s) :
  codeAny (model prog w) A (.compLoop (.DictComp kx vx [⟨target,iter,ifs,0⟩] scope pos) 0 it (.ref D) env) R s:=by
 refine codeAny_loop rfl I (fun n s hI=>?_) n h
 show wpAny _ A ((compTurn (.DictComp kx vx [⟨target,iter,ifs,0⟩] scope pos) 0 it (.ref D) env).onRaise (fun x=>do noteFrame x env;theTreesLotGoes x)) _ _ s
 refine wpAny_noted ?_
 rw[compTurn_dict]
 refine wpAny_bind (wpAny_standAt (wpAny_bind (wpAny_mono (turn n s hI) (fun r ca dl=>?_) fun _ _ h'=>h'.elim)))
 cases r with
 |none=>exact wpAny_pure dl
 |some v=>
  refine wpAny_bind (wpAny_mono dl (fun _ s' h'=>?_) fun _ _ h'=>h'.elim)
  refine wpAny_bind (wpAny_mono h' (fun _ ii sn=>wpAny_bind (wpAny_mono sn (fun ok bi pi=>?_) fun _ _ h'=>h'.elim)) fun _ _ h'=>h'.elim)
  cases ok with
  |false=>exact wpAny_pure ⟨rfl,pi⟩
  |true=>
   exact wpAny_bind (wpAny_bind (wpAny_mono pi (fun kv po tt=>wpAny_bind (wpAny_holding (wpAny_mono tt (fun vv re tz=>wpAny_bind (wpAny_standAt (wpAny_holding (wpAny_mono tz (fun _ wl ww=>wpAny_pure ⟨rfl,ww⟩) fun _ _ h'=>h'.elim)))) fun _ _ h'=>h'.elim))) fun _ _ h'=>h'.elim))
def putAll{α:Type}(l:List (List Int×α)):List (List Int×α):=l.foldl (fun a x=>ja a x.1 x.2) []
theorem putAll_snoc{α:Type}(l:List (List Int×α))(k:List Int)(y:α):putAll (l++[(k,y)])=ja (putAll l) k y:=by unfold putAll;rw[List.foldl_append];rfl
theorem II{α:Type}(l:List (List Int×α)):(putAll l).length<=l.length:=by
 have:∀(l a:List (List Int×α)),(l.foldl (fun a x=>ja a x.1 x.2) a).length<=a.length+l.length:=fun l=>by
  induction l with
  |nil=>intro a;exact le_refl _
  |cons x l ih=>
   intro a
   rw[List.foldl_cons,length_cons]
   have h1:=ih (ja a x.1 x.2)
   have h2:=ya a x.1 x.2
   omega
 have h:=this l []
 rw[length_nil,Nat.zero_add] at h
 exact h
theorem FT{β:Type}{xs:List PyData}{f:PyData->Option β}{i:Nat}{d:PyData}(h:xs[i]? = some d):(xs.take (i+1)).filterMap f=(xs.take i).filterMap f++(f d).toList:=by
 obtain⟨hi,e⟩:=List.getElem?_eq_some_iff.mp h
 rw[List.take_succ_eq_append_getElem hi,List.filterMap_append,e]
 cases q:f d<;>simp[q]
noncomputable def tY(cap:List (Option Nat))(src:DTI)(g:DTG)(c:DTT)(tk tv:DTE):DTE:=fun ρ Z Q=>src ρ Z fun xs ad=>xs.length<=1000/\∃f:PyData->Option (List Int×PyData),
 (∀x∈xs,∀U:Mu,(∀a ds,ad a=some ds->U a=some ds)->g (.v x) (bj cap ρ) U fun ci am=>Le (bj cap ρ) ci/\c ci am fun b be=>
  if b=true then tk ci be fun dk ce=>tv ci ce fun dv im=>im=U/\∃k y,oi dk=some k/\dv = .v y/\f x=some (k,y) else be=U/\f x=none)/\∀p,ad.b p=none->Q (.b p) (br ad p (.dict (putAll (xs.filterMap f))))
theorem Jt{cap:List (Option Nat)}{src:DTI}{g:DTG}{c:DTT}{tk tv:DTE}{ρ:Rho}{Z:Mu}{Q:DK}:tY cap src g c tk tv ρ Z Q=src ρ Z fun xs ad=>xs.length<=1000/\∃f:PyData->Option (List Int×PyData),
 (∀x∈xs,∀U:Mu,(∀a ds,ad a=some ds->U a=some ds)->g (.v x) (bj cap ρ) U fun ci am=>Le (bj cap ρ) ci/\c ci am fun b be=>
  if b=true then tk ci be fun dk ce=>tv ci ce fun dv im=>im=U/\∃k y,oi dk=some k/\dv = .v y/\f x=some (k,y) else be=U/\f x=none)/\∀p,ad.b p=none->Q (.b p) (br ad p (.dict (putAll (xs.filterMap f)))):=rfl
theorem IW{X:Cx}{pos2:Pos}{use:Option (Value->Sem Unit)}{QQ:Value->Shared->Prop}{pins:List (Addr×Obj)}{s:Shared}{σ:St}{H:Hp}{ρ:Rho}{Z:Mu}{Qd:DK}{N':List Str}{scope:Scope}{cl:List (Str×Addr)}{kx vx iter tg:Expr}{ifs:List Expr}{pos:Pos}{cap:List (Option Nat)}{src:DTI}{g:DTG}{c:DTT}{tk tv:DTE}(hc:X.calm=X.calm)(hu:X.A.units+64<cLine)
  (hi:DI X tg iter src) (hg:∀fp bi bv,DG (aA X N' scope cl fp bi bv) tg g) (hif:∀fp bi bv,AY (aA X N' scope cl fp bi bv) ifs c) (hkx:∀fp bi bv,DE (aA X N' scope cl fp bi bv) kx tk) (hvx:∀fp bi bv,DE (aA X N' scope cl fp bi bv) vx tv)
  (hclos:closureFor scope X.env=pure cl) (hcell:∀y∈scope.names,y.2≠.cell) (hkind:scope.kind = .function) (hnames:∀y∈scope.names,y.2 = .local->scope.names.lookup y.1=some .local)
  (hcl:∀x a,cl.lookup x=some a->X.env.cells.lookup x=some a) (hhas:∀x,(relabel scope X.env).names.lookup x=some .cell\/(relabel scope X.env).names.lookup x=some .free->∃a,cl.lookup x=some a)
  (hlen:cap.length=N'.length) (hcap:∀(i j:Nat) (x:Str),cap[i]? = some (some j)->N'[i]? = some x->X.N[j]? = some x/\Vis X.env.scope x/\X.env.kindOf x≠some .local/\((relabel scope X.env).names.lookup x=some .cell\/(relabel scope X.env).names.lookup x=some .free))
  (hs:∀x,foldedSetIterable iter X.env x=pure x) (I:Inv X pins σ H s) (S:St0 X.K H ρ Z σ) (h:tY cap src g c tk tv ρ Z Qd)
  (hend:∀(s4:Shared) (Hc:Hp) (C pa:Addr) (m:Str->Option Value) (ln:Mu),s4.heap.Ns C m->nW X pins Hc C->(∀h',Heap.SameBut C s4.heap h'->Inv X pins σ Hc {s4 with heap:=h'}) ->
   Ext X.K Z H ln Hc->St0 X.K Hc ρ ln σ->RpD X.K ln Hc (.b pa) (.ref pa)->Qd (.b pa) ln->compPost (model X.prog X.w) X.A X.xe use QQ (.ref pa) C (.ok .next) s4) :
  wpAny (model X.prog X.w) X.A (comprehension (.DictComp kx vx [⟨tg,iter,ifs,0⟩] scope pos) scope X.env pos2 newDict false (eval iter X.env) use) QQ X.xe s:=by
 obtain⟨wi,pw,li⟩:=hi
 refine wpAny_comprehension_free rfl hs hclos hkind hnames (thn (pw pins s σ H _ I (li σ H ρ Z _ (fun J H1=>∃xs ad,Ext X.K Z H ad H1/\St0 X.K H1 ρ ad σ/\HY X.K J xs ad H1/\xs.length<=1000/\∃f:PyData->Option (List Int×PyData),
   (∀x∈xs,∀U:Mu,(∀a ds,ad a=some ds->U a=some ds)->g (.v x) (bj cap ρ) U fun ci am=>Le (bj cap ρ) ci/\c ci am fun b be=>
    if b=true then tk ci be fun dk ce=>tv ci ce fun dv im=>im=U/\∃k y,oi dk=some k/\dv = .v y/\f x=some (k,y) else be=U/\f x=none)/\∀p,ad.b p=none->Qd (.b p) (br ad p (.dict (putAll (xs.filterMap f))))) S h (fun xs ad H1 J e1 S1 it q=>⟨xs,ad,e1,S1,it,q⟩)))
  fun v s1 h1=>thn h1 fun itv s2 h2=>?_)
 obtain⟨it,fp,tn,J,H2,rfl,I2,T,st2,f2,xs,ad,e1,S1,itok,hxs,f,body,fin⟩:=h2
 refine wpAny_newObj_type (wpAny_newFunctionEnv hcell (by intro y hy;simp at hy) (fun dl gV gl=>?_) hkind)
 dsimp only at gV gl ⊢
 have hfree2:H2 s2.heap.objs.size=none:=I2.hok.fresh (le_refl _)
 have hK2:X.K.lookup s2.heap.objs.size=none:=by
  cases z:X.K.lookup s2.heap.objs.size with
  |none=>rfl
  |some o=>exact absurd (Heap.lt_size (I2.kIn _ _ z)) (lt_irrefl _)
 have I3:Inv X pins σ (upd H2 s2.heap.objs.size (.raw {cls:=.type "dict",dict:=none,data:=.dict #[]})) {s2 with heap:=s2.heap.push {cls:=.type "dict",dict:=none,data:=.dict #[]}}:=
  I2.laid (t':=s2.toks) (fun b u e=>Heap.get?_push_of_some _ e) (le_refl _) (Heap.get?_push_size _ rfl)
 generalize hH:s2.heap.push {cls:=.type "dict",dict:=none,data:=.dict #[]} = hp3 at gV gl I3 ⊢
 have hsz3:hp3.objs.size=s2.heap.objs.size+1:=by rw[<- hH,Heap.size_push]
 have kept3:∀b o,hp3.get? b=some o->dl.get? b=some o:=fun b o e=>gl.extBut b o (ne_of_lt (Heap.lt_size e)) (Heap.get?_push_of_some _ e)
 have old3:∀b o,s2.heap.get? b=some o->hp3.get? b=some o:=fun b o e=>by rw[<- hH];exact Heap.get?_push_of_some _ e
 have fplt:∀b∈fp,b<s2.heap.objs.size:=fun b hb=>by obtain⟨o,e,_⟩:=T.obj 0 _ st2 b hb;exact Heap.lt_size e
 have fpst:∀b∈fp,b ∉ frs X.stack:=fun b hb hz=>by
  rcases List.mem_cons.mp (I2.iO b hz) with e|e
  ·exact (f2 b hb).2.1 e
  ·exact (f2 b hb).2.2.1 e
 obtain⟨s3,hs3⟩:∃s3:Shared,s3={s2 with heap:=hp3}:=⟨_,rfl⟩
 obtain⟨H3,hH3⟩:∃H3:Hp,H3=upd H2 s2.heap.objs.size (.raw {cls:=.type "dict",dict:=none,data:=.dict #[]}):=⟨_,rfl⟩
 have heap3:s3.heap=hp3:=by rw[hs3]
 rw[<- hH3] at I3
 have I3':Inv X pins σ H3 s3:=by rw[hs3];exact I3
 have hloc:H3 hp3.objs.size=none:=by have:=I3'.hok.fresh (a:=hp3.objs.size) (by rw[heap3];exact le_refl _);exact this
 have okc:(aA X N' scope cl fp s3 H3).Ok:=by
  refine⟨I3.ok.mod,?_,I3.ok.glob,I3.ok.blt,le_refl _,fun x y a h1 h2=>I3.ok.inj x y a (hcl x a h1) (hcl y a h2),fun x hx=>hhas x hx,fun x a h=>(nomatch h),I3.ok.hd,I3.ok.qt,I3.ok.frames,.inl rfl,fun b hb=>⟨?_,fun x a h=>(f2 b hb).2.2.2.2.1 x a (hcl x a h)⟩,
   I3'.bs,le_trans I3.ok.bsz I3'.sz,fun b o e hb=>?_,fun b hb=>fpst b hb,I3'.stack,I3'.p5⟩
  ·exact hkind
  ·show b≠s3.heap.objs.size
   rw[heap3,hsz3]
   exact ne_of_lt (lt_succ_of_lt (fplt b hb))
  ·rcases (f2 b hb).2.2.2.1 with z|z
   ·exact I3.ok.BS b o e z
   ·exact absurd (lt_of_lt_of_le (Heap.lt_size (I3.ok.bs b o e).1) z) (lt_irrefl _)
 have I4:Inv (aA X N' scope cl fp s3 H3) [] (bj cap σ) H3 {s2 with heap:=dl,toks:=s2.toks+([]:List (Str×Value)).length}:=by
  refine⟨okc,by show s2.os=s3.os;rw[hs3],I3.bare,Un.kept (by show ∀b o,s3.heap.get? b=some o->_;rw[heap3];exact kept3),⟨_,(by show dl.Ns s3.heap.objs.size _;rw[heap3];exact gV),fun i x v e1 e2 e3=>?_⟩,fun x a h=>?_,(by show H3 s3.heap.objs.size=none;rw[heap3];exact hloc),fun x a h=>I3.j3 x a (hcl x a h),fun p hp=>?_,I3.hok.kept kept3,?_⟩
  ·obtain⟨j,h1,h2⟩:=lO e2
   obtain⟨hN,hv,hnl,hk⟩:=hcap i j x h1 e1
   obtain⟨m,_,hl⟩:=I3.loc
   obtain⟨u,r,lk⟩:=hl j x v hN h2 hv
   refine⟨u,r,.inr ⟨hk,?_⟩⟩
   obtain⟨a,ha⟩:=hhas x hk
   rcases lk with ⟨z,_⟩|⟨_,a',z1,z2⟩
   ·exact absurd z hnl
   ·have:a'=a:=by have q:=hcl x a ha;rw[z1] at q;exact Option.some.inj q
    subst this
    obtain⟨o,ho,hd⟩:=z2
    exact⟨a',ha,o,kept3 _ _ ho,hd⟩
  ·obtain⟨v,o,ho,hd⟩:=I3.cell x a (hcl x a h)
   exact⟨v,o,kept3 _ _ ho,hd⟩
  ·have hp':p∈X.pn++pins:=mem_append_left _ (by simpa using (show p∈X.pn++[] from hp))
   obtain⟨z1,z2,z3,z4,z5⟩:=I3'.pin p hp'
   refine⟨kept3 _ _ (by rw[<- heap3];exact z1),z2,(show p.1≠s3.heap.objs.size from ne_of_lt (Heap.lt_size z1)),fun z=>?_,z5⟩
   rcases List.mem_cons.mp (I3'.iO p.1 z) with e|e
   ·exact z3 e
   ·exact z4 e
  ·show (bj cap σ).length=N'.length
   unfold bj
   rw[length_map]
   exact hlen
 have lf:ad.b s2.heap.objs.size=none:=S1.mu.JT hfree2
 have sub1:∀(ys:Box) a ds,ad a=some ds->br ad s2.heap.objs.size ys a=some ds:=fun ys a ds e=>e
 have loop:codeAny (model X.prog X.w) X.A (.compLoop (.DictComp kx vx [⟨tg,iter,ifs,0⟩] scope pos) 0 (.ref it) (.ref s2.heap.objs.size) (aA X N' scope cl fp s3 H3).env)
   (compPost (model X.prog X.w) X.A X.xe use QQ (.ref s2.heap.objs.size) hp3.objs.size) {s2 with heap:=dl,toks:=s2.toks+([]:List (Str×Value)).length}:=by
  refine qF (fun n s'=>∃(i:Nat) (db:St) (Hc:Hp),n=xs.length-i/\i<=xs.length/\Inv (aA X N' scope cl fp s3 H3) [] db Hc s'/\tn i s'.heap/\(∀b∈fp,Hc b=none) /\
   St0 X.K Hc (bj cap ρ) (br ad s2.heap.objs.size (.dict (putAll ((xs.take i).filterMap f)))) db/\Ext X.K ad H2 (br ad s2.heap.objs.size (.dict (putAll ((xs.take i).filterMap f)))) Hc) ?_ xs.length
   ⟨0,bj cap σ,H3,by simp,zero_le _,I4,T.keep 0 _ _ st2 (fun b hb o e=>kept3 b o (old3 b o e)),fun b hb=>?_,?_,?_⟩
  ·rintro n s' ⟨i,db,Hc,rfl,hi,Ic,tc,frc,Sc,Ec⟩
   have stat:∀{Hd:Hp},(∀b∈fp,Hd b=none)->∀b∈fp,nW (aA X N' scope cl fp s3 H3) [] Hd b:=fun hn b hb=>
    ⟨hn b hb,(okc.exf b hb).1,fpst b hb,.inl hb,fun x a h=>(okc.exf b hb).2 x a h,fun p hp=>(f2 b hb).2.2.2.2.2 p (mem_append_left _ (by simpa using (show p∈X.pn++[] from hp)))⟩
   obtain⟨go,stop⟩:=itok _ Hc Ec Sc.mu i
   by_cases hlt:i<xs.length
   ·obtain⟨g1,y1⟩:=go hlt
    refine thn (T.item (aA X N' scope cl fp s3 H3) rfl rfl rfl (fun z=>z) i [] s' db Hc (fun _ _=>False) Ic (stat frc) tc g1) fun r s4 hq0=>?_
    obtain⟨u,hr,h4⟩:=hq0
    subst hr
    refine thn h4 fun _ s5 hq0=>?_
    obtain⟨x,H5,I5,r5,y5,st5,fr5⟩:=hq0
    obtain⟨d,hd,sm,rd⟩:=y1 x H5 y5
    have I5':=I5.pinned (stat fr5) (T.obj _ _ st5)
    have e5:Ext X.K _ Hc _ H5:=.of_same (Z:=br ad s2.heap.objs.size (.dict (putAll ((xs.take i).filterMap f)))) sm
    have S5:St0 X.K H5 (bj cap ρ) (br ad s2.heap.objs.size (.dict (putAll ((xs.take i).filterMap f)))) db:=⟨Sc.mu.FJ e5 sm,Sc.rho.ext Sc.mu e5⟩
    obtain⟨gt,pg,lg⟩:=hg fp s3 H3
    have hmem:d∈xs:=mem_of_getElem? hd
    refine thn (pg _ s5 db H5 x u (fun bn H'=>∃bm U,Ext X.K (br ad s2.heap.objs.size (.dict (putAll ((xs.take i).filterMap f)))) H5 U H'/\St0 X.K H' bm U bn/\Le (bj cap ρ) bm/\c bm U fun b be=>
      if b=true then tk bm be fun dk ce=>tv bm ce fun dv im=>im=br ad s2.heap.objs.size (.dict (putAll ((xs.take i).filterMap f)))/\∃k y,oi dk=some k/\dv = .v y/\f d=some (k,y) else be=br ad s2.heap.objs.size (.dict (putAll ((xs.take i).filterMap f)))/\f d=none) I5' r5
     (lg db H5 (bj cap ρ) _ (.v d) x _ _ S5 rd (body d hmem _ (sub1 _)) fun bn bm U H' e' S' q=>⟨bm,U,e',S',q⟩)) fun _ s6 ⟨ga,H6,I6,jp,ld,e6,S6,le6,q6⟩=>?_
    refine thn (hif fp s3 H3 _ s6 ga H6 jp ld _ (fun b H'=>∃U,Ext X.K ld H6 U H'/\St0 X.K H' jp U ga/\if b=true then tk jp U fun dk ce=>tv jp ce fun dv im=>im=br ad s2.heap.objs.size (.dict (putAll ((xs.take i).filterMap f)))/\∃k y,oi dk=some k/\dv = .v y/\f d=some (k,y) else U=br ad s2.heap.objs.size (.dict (putAll ((xs.take i).filterMap f)))/\f d=none)
     I6 S6 q6 fun b U H' e' S' q=>⟨U,e',S',q⟩) fun b s7 ⟨H7,I7,lw,e7,S7,q7⟩=>?_
    have again:∀{H9:Hp} {s9:Shared},Inv (aA X N' scope cl fp s3 H3) ([]++oG fp s5.heap) ga H9 s9->bG X.K (br ad s2.heap.objs.size (.dict (putAll ((xs.take (i+1)).filterMap f)))) H9->gG X.K (br ad s2.heap.objs.size (.dict (putAll ((xs.take (i+1)).filterMap f)))) H9 (bj cap ρ) ga ->
      Ext X.K ad H2 (br ad s2.heap.objs.size (.dict (putAll ((xs.take (i+1)).filterMap f)))) H9->∃m,m<xs.length-i/\∃(i:Nat) (db:St) (Hc:Hp),m=xs.length-i/\i<=xs.length/\Inv (aA X N' scope cl fp s3 H3) [] db Hc s9/\tn i s9.heap/\(∀b∈fp,Hc b=none) /\
       St0 X.K Hc (bj cap ρ) (br ad s2.heap.objs.size (.dict (putAll ((xs.take i).filterMap f)))) db/\Ext X.K ad H2 (br ad s2.heap.objs.size (.dict (putAll ((xs.take i).filterMap f)))) Hc:=fun {H9 s9} I9 m9 r9 e9=>by
     refine⟨xs.length-(i+1),∅,i+1,ga,H9,rfl,hlt,I9.dS,T.keep _ _ _ st5 fun b hb o e=>(I9.pin (b,o) (mem_append_right _ (mem_append_right _ (bD hb e)))).1,fun b hb=>?_,⟨m9,r9⟩,e9⟩
     obtain⟨o,e,_⟩:=T.obj _ _ st5 b hb
     exact (I9.pin (b,o) (mem_append_right _ (mem_append_right _ (bD hb e)))).2.1
    cases b with
    |false=>
     have q8:lw=br ad s2.heap.objs.size (.dict (putAll ((xs.take i).filterMap f)))/\f d=none:=by simpa using q7
     refine xP ?_
     have et:(xs.take (i+1)).filterMap f=(xs.take i).filterMap f:=by rw[FT hd,q8.2];simp
     have sB:br ad s2.heap.objs.size (.dict (putAll ((xs.take (i+1)).filterMap f)))=lw:=by rw[et,q8.1]
     refine again I7 (by rw[sB];exact S7.mu) (by rw[sB];exact S7.rho.le le6) ?_
     rw[sB]
     exact Ec.trans (e5.trans (e6.trans e7))
    |true=>
     refine zI ?_
     have q8:tk jp lw fun dk ce=>tv jp ce fun dv im=>im=br ad s2.heap.objs.size (.dict (putAll ((xs.take i).filterMap f)))/\∃k y,oi dk=some k/\dv = .v y/\f d=some (k,y):=by simpa using q7
     refine thn ((hkx fp s3 H3).use I7 S7 q8) fun v s8 hq0=>?_
     obtain⟨dk,uk,kw,H8,I8,rk,e8,S8,rdk,q9⟩:=hq0
     refine thn ((hvx fp s3 H3).use I8 S8 q9) fun v' s9 hq0=>?_
     obtain⟨dv,uv,pd,H9,I9,rv,e9,S9,rdv,sB,kk,y,hk,ev,fy⟩:=hq0
     subst sB;subst ev
     obtain⟨qk,rfl,hq8⟩:=pK rdk hk
     have hq:SqT X.K H9 qk (kk.map V.int):=mz S8.mu e9 hq8
     cases rk
     have hle:((xs.take i).filterMap f).length<=1000:=le_trans (List.length_filterMap_le _ _) (le_trans (by rw[length_take];exact Nat.min_le_right _ _) hxs)
     obtain⟨ns,ob,hr,hb⟩:=S9.mu.box s2.heap.objs.size _ bA
     obtain⟨es,dp,dd,len⟩:=p4 I9 hr hb
     refine wpAny_dictSet_heap (hsz:=len) (show X.A.units<cLine by omega) (ij I9 hq) dd fun h' dd' sb=>?_
     have et:(xs.take (i+1)).filterMap f=(xs.take i).filterMap f++[(kk,y)]:=by rw[FT hd,fy];rfl
     have ep:putAll ((xs.take (i+1)).filterMap f)=ja (putAll ((xs.take i).filterMap f)) kk y:=by rw[et,putAll_snoc]
     have hl:(ja (putAll ((xs.take i).filterMap f)) kk y).length<=sizeLine:=by
      have h1:=ya (putAll ((xs.take i).filterMap f)) kk y
      have h2:=II ((xs.take i).filterMap f)
      rw[sizeLine_eq];omega
     obtain⟨o',g1,g2⟩:=Bl (X:=X) (Z:=br ad s2.heap.objs.size (.dict (putAll ((xs.take i).filterMap f)))) (H:=H9) hl (dp.put hq rdv rv) dd'
     have exx:=wY (K:=X.K) (Z:=br ad s2.heap.objs.size (.dict (putAll ((xs.take i).filterMap f)))) (c:=.dict (ja (putAll ((xs.take i).filterMap f)) kk y)) (o':=o') hr
     have mset:br (br ad s2.heap.objs.size (.dict (putAll ((xs.take i).filterMap f)))) s2.heap.objs.size (.dict (ja (putAll ((xs.take i).filterMap f)) kk y))=br ad s2.heap.objs.size (.dict (putAll ((xs.take (i+1)).filterMap f))):=by rw[ep];exact KA
     have m9:=S9.mu.Hs ns hr g2
     rw[mset] at exx m9
     refine again (CV (ob:=.raw o') I9 (by rw[hr];exact True.intro) sb ⟨o',g1⟩ g1) m9 ?_ ?_
     ·exact (S9.rho.le le6).ext S9.mu exx
     ·exact Ec.trans (e5.trans (e6.trans (e7.trans (e8.trans (e9.trans exx)))))
   ·have ei:i=xs.length:=by omega
    subst ei
    refine thn (T.done (aA X N' scope cl fp s3 H3) rfl rfl rfl (fun z=>z) _ [] s' db Hc (fun _ _=>False) Ic (stat frc) tc (stop rfl)) fun r s4 hq0=>?_
    obtain⟨hr,I5⟩:=hq0
    subst hr
    rw[take_length] at Sc Ec
    obtain⟨m,hn,_⟩:=I5.loc
    have hcC:Hc hp3.objs.size=none:=by have z:Hc s3.heap.objs.size=none:=I5.free;rw[heap3] at z;exact z
    refine hend s4 Hc hp3.objs.size s2.heap.objs.size m _ (by have z:s4.heap.Ns s3.heap.objs.size m:=hn;rw[heap3] at z;exact z) (I2.HP (by rw[hsz3];exact Nat.le_succ _) hcC) (fun h' hs'=>?_) (e1.trans Ec) ⟨Sc.mu,S1.rho.ext S1.mu Ec⟩ ⟨rfl,_,bA⟩ (fin _ lf)
    have kp:∀b o,b<s2.heap.objs.size->s4.heap.get? b=some o->h'.get? b=some o:=fun b o hb e=>hs'.extBut b o (by rw[hsz3];exact ne_of_lt (lt_succ_of_lt hb)) e
    have hok':HOk X.prog X.w Hc h':=fun b ob e=>by
     refine (I5.hok b ob e).sC (fun cc v hcc q=>hs'.extBut cc v ?_ q) (fun _ q=>q) fun _ _ q=>q
     rintro rfl
     rcases hcc with z|z
     ·rw[<- z,hcC] at e;cases e
     ·rw[hcC] at z;cases z
    have u1:Un (frs X.stack) fp H2 H3 s2.heap s3.heap:=by rw[heap3,hH3];exact Un.laid old3 (le_refl _) hfree2
    have u2:Un (frs X.stack) fp H3 Hc s3.heap s4.heap:=I5.base
    exact I2.zj (ch:=fp) (by show s4.os=s2.os;have z:s4.os=s3.os:=I5.os;rw[z,hs3]) (Un.after (u1.trans u2) kp) hok' I5.bare fun b hb=>⟨(f2 b hb).2.2.2.1,(f2 b hb).2.1,(f2 b hb).2.2.2.2.1,(f2 b hb).2.2.2.2.2⟩
  ·have z:b≠s2.heap.objs.size:=ne_of_lt (fplt b hb)
   rw[hH3,aV z]
   exact (f2 b hb).1
  ·have ex:=jG (K:=X.K) (o:={cls:=.type "dict",dict:=none,data:=.dict #[]}) (c:=.dict []) S1.mu hfree2
   rw[hH3]
   exact⟨S1.mu.HA (Hy I2) hfree2 (Bh rfl),(S1.rho.ext S1.mu ex).cap⟩
  ·rw[hH3]
   exact jG (K:=X.K) (o:={cls:=.type "dict",dict:=none,data:=.dict #[]}) (c:=.dict []) S1.mu hfree2
 have envE:(aA X N' scope cl fp s3 H3).env=compEnvC scope cl hp3.objs.size X.env:=by show compEnvC scope cl s3.heap.objs.size X.env=_;rw[heap3]
 rw[envE] at loop
 exact codeAny_compStart_dict loop (T.self X.A 0 _ _ _ (T.keep 0 _ _ st2 (fun b hb o e=>kept3 b o (old3 b o e))) loop)
theorem J0{X:Cx}{i:Nat}{x:Str}{pos' spos:Pos}{N':List Str}{scope:Scope}{cl:List (Str×Addr)}{kx vx iter tg:Expr}{ifs:List Expr}{pos:Pos}{cap:List (Option Nat)}{src:DTI}{g:DTG}{c:DTT}{tk tv:DTE}(hN:X.N.Nodup)(hix:X.N[i]? = some x)(hx:X.env.scope.names.lookup x=some .local)(hc:X.calm=X.calm)(hu:X.A.units+64<cLine)
  (hi:DI X tg iter src) (hg:∀fp bi bv,DG (aA X N' scope cl fp bi bv) tg g) (hif:∀fp bi bv,AY (aA X N' scope cl fp bi bv) ifs c) (hkx:∀fp bi bv,DE (aA X N' scope cl fp bi bv) kx tk) (hvx:∀fp bi bv,DE (aA X N' scope cl fp bi bv) vx tv)
  (hclos:closureFor scope X.env=pure cl) (hcell:∀y∈scope.names,y.2≠.cell) (hkind:scope.kind = .function) (hnames:∀y∈scope.names,y.2 = .local->scope.names.lookup y.1=some .local)
  (hcl:∀x a,cl.lookup x=some a->X.env.cells.lookup x=some a) (hhas:∀x,(relabel scope X.env).names.lookup x=some .cell\/(relabel scope X.env).names.lookup x=some .free->∃a,cl.lookup x=some a)
  (hlen:cap.length=N'.length) (hcap:∀(i j:Nat) (x:Str),cap[i]? = some (some j)->N'[i]? = some x->X.N[j]? = some x/\Vis X.env.scope x/\X.env.kindOf x≠some .local/\((relabel scope X.env).names.lookup x=some .cell\/(relabel scope X.env).names.lookup x=some .free))
  (hs:∀x,foldedSetIterable iter X.env x=pure x:=by intro _;rfl)
  (hsw:swapsWith (.DictComp kx vx [⟨tg,iter,ifs,0⟩] scope pos) (some (.Name x pos')) spos.line X.env=pure true:=by rfl):DS X (.Assign [.Name x pos'] (.DictComp kx vx [⟨tg,iter,ifs,0⟩] scope pos) spos) (bo (tY cap src g c tk tv) (aq i)):=by
 refine⟨fun D σ H=>∃ρ Z Dd,St0 X.K H ρ Z σ/\bo (tY cap src g c tk tv) (aq i) Dd ρ Z/\(∀bn bm U H',Ext X.K Z H U H'->St0 X.K H' bm U bn->Dd.nx bm U->D.nx bn H'),?_,fun σ H ρ Z Dd De S h k1 k2 k3 k4=>⟨ρ,Z,Dd,S,h,k1⟩⟩
 rintro pins s σ H D I ⟨ρ,Z,Dd,S,h,k1⟩
 rw[exec_Assign_Name_used _ _ _ _ hsw]
 refine wpAny_bind (wpAny_standAt ?_)
 show wpAny _ _ ((comprehension (.DictComp kx vx [⟨tg,iter,ifs,0⟩] scope pos) scope X.env (firstIterPos [⟨tg,iter,ifs,0⟩] pos) newDict false (eval iter X.env) (some (assign (.Name x pos') X.env))>>=fun _=>pure ())>>=_) _ _ s
 refine wpAny_bind (wpAny_bind (IW (Qd:=fun d ad=>aq i d ρ ad Dd.nx) hc hu hi hg hif hkx hvx hclos hcell hkind hnames hcl hhas hlen hcap hs I S h fun s4 Hc C pa m ln hn fC hI e1 S1 r q=>?_))
 have I4:Inv X pins σ Hc s4:=hI s4.heap (Heap.SameBut.refl _ _)
 obtain⟨oC,hoC,hdC⟩:∃o,s4.heap.get? C=some o/\∀v,o.data≠.cell v:=by
  obtain⟨o,h1,h2⟩:=ns_obj hn
  exact⟨o,h1,h2⟩
 have I5:=I4.pinned (fp:=[C]) (fun b hb=>by rw[List.mem_singleton.mp hb];exact fC) (fun b hb=>by rw[List.mem_singleton.mp hb];exact⟨oC,hoC,hdC⟩)
 show wpAny _ _ (assign (.Name x pos') X.env (.ref pa)) _ _ s4
 refine wpAny_assign_Name (gg I5 hN hix (Or.inl hx) (show RelV (.ref pa) (.ref pa) from rfl) (fun s' I'=>?_) (.inr hx))
 have keepC:s'.heap.get? C=some oC:=(I'.pin (C,oC) (mem_append_right _ (mem_append_right _ (bD (List.mem_singleton.mpr rfl) hoC)))).1
 have hn':s'.heap.Ns C m:=Jn hn (by rw[keepC,hoC])
 refine⟨m,hn',fun h' hs'=>wpAny_pure (wpAny_pure ?_)⟩
 refine⟨σ.set i (some (.ref pa)),Hc,?_,k1 _ _ _ _ e1 ⟨S1.mu,S1.rho.set (d:=.b pa) r⟩ q⟩
 refine I'.dS.zj (ch:=[C]) rfl ⟨fun b o e n hb hx=>?_,fun b o e n hb hx=>?_,fun b o e n hx=>n,fun b o e hx=>?_,fun b xs e=>e,fun b o u e=>e,fun b ps e=>⟨#[],by rw[Array.append_empty];exact e⟩⟩ ?_ I'.bare fun b hb=>?_
 ·exact hs'.extBut b o (fun z=>hx (List.mem_singleton.mpr z)) e
 ·exact⟨o.slots,hs'.extBut b o (fun z=>hx (List.mem_singleton.mpr z)) e⟩
 ·exact⟨o,hs'.extBut b o (fun z=>hx (List.mem_singleton.mpr z)) e⟩
 ·exact fun b ob e=>by
   refine (I'.hok b ob e).sC (fun cc v hcc q=>hs'.extBut cc v ?_ q) (fun _ q=>q) fun _ _ q=>q
   rintro rfl
   rcases hcc with z|z
   ·rw[<- z,fC.1] at e;cases e
   ·rw[fC.1] at z;cases z
 ·rw[List.mem_singleton.mp hb]
  exact⟨fC.2.2.2.1,fC.2.1,fC.2.2.2.2.1,fC.2.2.2.2.2⟩
abbrev two(elt tg iter tg2 iter2:Expr)(scope:Scope)(pos:Pos):Expr:=.ListComp elt [⟨tg,iter,[],0⟩,⟨tg2,iter2,[],0⟩] scope pos
theorem An(elt tg iter tg2 iter2:Expr)(scope:Scope)(pos:Pos)(it acc:Value)(env:Env) :
  compTurn (two elt tg iter tg2 iter2 scope pos) 0 it acc env=(standAt iter.pos>>=fun _=>pyNext it>>=fun r=>match r with
   |none=>pure (.done .next)
   |some v=>letOwnedTupleGo tg it v>>=fun _=>assign tg env v>>=fun _=>
    (eval iter2 env>>=fun x=>standAt iter2.pos>>=fun _=>foldedSetIterable iter2 env x>>=fun x=>holding [x] (pyIter x)>>=fun it2=>runOwn (.compStart (two elt tg iter tg2 iter2 scope pos) 1 it2 acc env) env>>=fun _=>
     again (.compLoop (two elt tg iter tg2 iter2 scope pos) 0 it acc env))):=by rfl
theorem zY(elt tg iter tg2 iter2:Expr)(scope:Scope)(pos:Pos)(it acc:Value)(env:Env) :
  compTurn (two elt tg iter tg2 iter2 scope pos) 1 it acc env=(standAt iter2.pos>>=fun _=>pyNext it>>=fun r=>match r with
   |none=>pure (.done .next)
   |some v=>letOwnedTupleGo tg2 it v>>=fun _=>assign tg2 env v>>=fun _=>
    (eval elt env>>=fun x=>call (.builtin "list.append") [acc,x]>>=fun _=>pure ())>>=fun _=>
     again (.compLoop (two elt tg iter tg2 iter2 scope pos) 1 it acc env)):=by rfl
section
variable {prog:Program}{w:World}{A:Around}{R:Result->Shared->Prop}{s:Shared}{elt tg iter tg2 iter2:Expr}{scope:Scope}{pos:Pos}{it acc:Value}{env:Env}
theorem B4(I:Nat->Shared->Prop)(hs:∀x,foldedSetIterable iter2 env x=pure x)
  (turn:∀n s,I n s->wpAny (model prog w) A (pyNext it) (fun r ca=>match r with
   |none=>R (.ok .next) ca
   |some v=>wpAny (model prog w) A (letOwnedTupleGo tg it v) (fun _ s'=>wpAny (model prog w) A (assign tg env v) (fun _ ii=>
     wpAny (model prog w) A (eval iter2 env) (fun x bi=>wpAny (model prog w) A (pyIter x) (fun it2 po=>
       codeAny (model prog w) A (.compStart (two elt tg iter tg2 iter2 scope pos) 1 it2 acc env) (fun r re=>∃f,r = .ok f/\∃m,m<n/\I m re) po) (fun _ _=>False) bi) (fun _ _=>False) ii) (fun _ _=>False) s') (fun _ _=>False) ca) (fun _ _=>False) s)
  (n:Nat) (h:I n s) :
  codeAny (model prog w) A (.compLoop (two elt tg iter tg2 iter2 scope pos) 0 it acc env) R s:=by
 refine codeAny_loop rfl I (fun n s hI=>?_) n h
 show wpAny _ A ((compTurn (two elt tg iter tg2 iter2 scope pos) 0 it acc env).onRaise (fun x=>do noteFrame x env;theTreesLotGoes x)) _ _ s
 refine wpAny_noted ?_
 rw[An]
 refine wpAny_bind (wpAny_standAt (wpAny_bind (wpAny_mono (turn n s hI) (fun r ca dl=>?_) fun _ _ h'=>h'.elim)))
 cases r with
 |none=>exact wpAny_pure dl
 |some v=>
  refine wpAny_bind (wpAny_mono dl (fun _ s' h'=>?_) fun _ _ h'=>h'.elim)
  refine wpAny_bind (wpAny_mono h' (fun _ ii sn=>wpAny_bind (wpAny_mono sn (fun x bi pi=>?_) fun _ _ h'=>h'.elim)) fun _ _ h'=>h'.elim)
  refine wpAny_bind (wpAny_standAt (wpAny_bind (wpAny_of_eq (hs x) (wpAny_bind (wpAny_holding (wpAny_mono pi (fun it2 po tt=>wpAny_bind (wpAny_runOwn ?_)) fun _ _ h'=>h'.elim))))))
  refine codeAny_mono tt fun r re hq0=>?_
  obtain⟨f,e,m,hm,hI'⟩:=hq0
  subst e
  exact wpAny_pure ⟨rfl,m,hm,hI'⟩
theorem D4(I:Nat->Shared->Prop)
  (turn:∀n s,I n s->wpAny (model prog w) A (pyNext it) (fun r ca=>match r with
   |none=>R (.ok .next) ca
   |some v=>wpAny (model prog w) A (letOwnedTupleGo tg2 it v) (fun _ s'=>wpAny (model prog w) A (assign tg2 env v) (fun _ bi=>
      wpAny (model prog w) A (eval elt env) (fun x po=>
       wpAny (model prog w) A (call (.builtin "list.append") [acc,x]) (fun _ re=>∃m,m<n/\I m re) (fun _ _=>False) po) (fun _ _=>False) bi) (fun _ _=>False) s') (fun _ _=>False) ca) (fun _ _=>False) s)
  (n:Nat) (h:I n s) :
  codeAny (model prog w) A (.compLoop (two elt tg iter tg2 iter2 scope pos) 1 it acc env) R s:=by
 refine codeAny_loop rfl I (fun n s hI=>?_) n h
 show wpAny _ A ((compTurn (two elt tg iter tg2 iter2 scope pos) 1 it acc env).onRaise (fun x=>do noteFrame x env;theTreesLotGoes x)) _ _ s
 refine wpAny_noted ?_
 rw[zY]
 refine wpAny_bind (wpAny_standAt (wpAny_bind (wpAny_mono (turn n s hI) (fun r ca dl=>?_) fun _ _ h'=>h'.elim)))
 cases r with
 |none=>exact wpAny_pure dl
 |some v=>
  refine wpAny_bind (wpAny_mono dl (fun _ s' h'=>?_) fun _ _ h'=>h'.elim)
  refine wpAny_bind (wpAny_mono h' (fun _ bi pi=>?_) fun _ _ h'=>h'.elim)
  exact wpAny_bind (wpAny_bind (wpAny_mono pi (fun x po tt=>wpAny_bind (wpAny_mono tt (fun _ re tz=>wpAny_pure (wpAny_pure ⟨rfl,tz⟩)) fun _ _ h'=>h'.elim)) fun _ _ h'=>h'.elim))
theorem yb
  (h0:codeAny (model prog w) A (.compLoop (two elt tg iter tg2 iter2 scope pos) 1 it acc env) R s)
  (h:wpAny (model prog w) A (pyIter it) (fun it' s'=>codeAny (model prog w) A (.compLoop (two elt tg iter tg2 iter2 scope pos) 1 it' acc env) R s')
   (notedBy (model prog w) A env fun x s'=>R (.error x) s') s) :
  codeAny (model prog w) A (.compStart (two elt tg iter tg2 iter2 scope pos) 1 it acc env) R s:=by
 refine codeAny_of_tree ?_
 show wpAny _ _ ((compStart (two elt tg iter tg2 iter2 scope pos) 1 it acc env).onRaise (fun x=>do noteFrame x env;standAt theWindowsPlace)) _ _ s
 refine wpAny_notedAt ?_
 unfold compStart
 show wpAny _ _ (ask>>=_) _ _ s
 refine wpAny_bind (wpAny_askSetting (wpAny_ite ?_))
 split
 ·first
   |exact wpAny_bind (wpAny_pure (wpAny_pure (And.intro rfl h0)))
   |exact wpAny_pure (And.intro rfl h0)
 ·first
   |exact wpAny_bind (wpAny_rule (wpAny_bind (wpAny_standAt (wpAny_bind (wpAny_mono h (fun it' s' h'=>wpAny_pure (And.intro rfl h')) fun _ _ x=>x)))))
   |(refine wpAny_bind (wpAny_rule ?_);show wpAny _ _ (standAt iter2.pos>>=_) _ _ s;exact wpAny_bind (wpAny_standAt (wpAny_bind (wpAny_mono h (fun it' s' h'=>wpAny_pure (And.intro rfl h')) fun _ _ x=>x))))
end
theorem xV{Z:Mu}{p:Addr}{ds:List PyData}(h:Z p=some ds):az Z p ds=Z:=Mu.eq (fun b=>by
 by_cases e:b=p
 ·rw[e,aI,h]
 ·rw[aT e]) fun _=>rfl
theorem KG{X:Cx}{N':List Str}{cl:List (Str×Addr)}{fp0:List Addr}{bi:Shared}{bv:Hp}{elt tg iter tg2 iter2:Expr}{scope:Scope}{pos:Pos}{src2:DTI}{g2:DTG}{te:DTE}
  (hi2:DI (aA X N' scope cl fp0 bi bv) tg2 iter2 src2) (hg2:DG (aA X N' scope cl fp0 bi bv) tg2 g2) (he:DE (aA X N' scope cl fp0 bi bv) elt te)
  {pins:List (Addr×Obj)} {s:Shared} {σ:St} {H:Hp} {ρ:Rho} {Z:Mu} {p:Addr} {acc zs:List PyData} (I:Inv (aA X N' scope cl fp0 bi bv) pins σ H s) (S:St0 X.K H ρ Z σ) (hp:Z p=some acc) (hlen:acc.length+zs.length<=1000)
  (q:src2 ρ Z fun ys be=>be=Z/\∃h:PyData->PyData,zs=ys.map h/\∀y∈ys,∀dL:Mu,(∀a ds,a≠p->Z a=some ds->dL a=some ds)->g2 (.v y) ρ dL fun ls ce=>Le ρ ls/\te ls ce fun d im=>im=dL/\d = .v (h y)) :
  wpAny (model X.prog X.w) X.A (eval iter2 (aA X N' scope cl fp0 bi bv).env) (fun x s1=>wpAny (model X.prog X.w) X.A (pyIter x) (fun it2 s2=>
   codeAny (model X.prog X.w) X.A (.compStart (two elt tg iter tg2 iter2 scope pos) 1 it2 (.ref p) (aA X N' scope cl fp0 bi bv).env) (fun r s3=>∃f,r = .ok f/\∃o0 H3,Inv (aA X N' scope cl fp0 bi bv) pins o0 H3 s3/\St0 X.K H3 ρ (az Z p (acc++zs)) o0/\Ext X.K Z H (az Z p (acc++zs)) H3) s2) (fun _ _=>False) s1) (fun _ _=>False) s:=by
 obtain⟨wi,pw,li⟩:=hi2
 refine thn (pw pins s σ H _ I (li σ H ρ Z _ (fun J H1=>∃ys be,Ext X.K Z H be H1/\St0 X.K H1 ρ be σ/\HY X.K J ys be H1/\be=Z/\∃h:PyData->PyData,zs=ys.map h/\∀y∈ys,∀dL:Mu,(∀a ds,a≠p->Z a=some ds->dL a=some ds)->g2 (.v y) ρ dL fun ls ce=>Le ρ ls/\te ls ce fun d im=>im=dL/\d = .v (h y)) S q
  (fun ys be H1 J e1 S1 it q=>⟨ys,be,e1,S1,it,q⟩))) fun v s1 h1=>thn h1 fun itv s2 h2=>?_
 obtain⟨it,fp,tn,J,H2,rfl,I2,T,st2,f2,ys,be,e1,S1,itok,rfl,h,rfl,body⟩:=h2
 have loop:codeAny (model X.prog X.w) X.A (.compLoop (two elt tg iter tg2 iter2 scope pos) 1 (.ref it) (.ref p) (aA X N' scope cl fp0 bi bv).env) (fun r s3=>∃f,r = .ok f/\∃o0 H3,Inv (aA X N' scope cl fp0 bi bv) pins o0 H3 s3/\St0 X.K H3 ρ (az be p (acc++ys.map h)) o0/\Ext X.K be H (az be p (acc++ys.map h)) H3) s2:=by
  refine D4 (fun n s'=>∃(j:Nat) (db:St) (Hc:Hp),n=ys.length-j/\j<=ys.length/\Inv (aA X N' scope cl fp0 bi bv) pins db Hc s'/\tn j s'.heap/\(∀b∈fp,Hc b=none) /\
   St0 X.K Hc ρ (az be p (acc++(ys.take j).map h)) db/\Ext X.K be H2 (az be p (acc++(ys.take j).map h)) Hc) ?_ ys.length
   ⟨0,σ,H2,by simp,zero_le _,I2,st2,fun b hb=>(f2 b hb).1,?_,?_⟩
  ·rintro n s' ⟨i,db,Hc,rfl,hi,Ic,tc,frc,Sc,Ec⟩
   have stat:∀{Hd:Hp},(∀b∈fp,Hd b=none)->∀b∈fp,nW (aA X N' scope cl fp0 bi bv) pins Hd b:=fun hn b hb=>⟨hn b hb,(f2 b hb).2⟩
   obtain⟨go,stop⟩:=itok _ Hc Ec Sc.mu i
   by_cases hlt:i<ys.length
   ·obtain⟨g1,y1⟩:=go hlt
    refine thn (T.item (aA X N' scope cl fp0 bi bv) rfl rfl rfl (fun z=>z) i pins s' db Hc (fun _ _=>False) Ic (stat frc) tc g1) fun r s4 hq0=>?_
    obtain⟨u,hr,h4⟩:=hq0
    subst hr
    refine thn h4 fun _ s5 hq0=>?_
    obtain⟨x,H5,I5,r5,y5,st5,fr5⟩:=hq0
    obtain⟨d,hd,sm,rd⟩:=y1 x H5 y5
    have I5':=I5.pinned (stat fr5) (T.obj _ _ st5)
    have e5:Ext X.K _ Hc _ H5:=.of_same (Z:=az be p (acc++(ys.take i).map h)) sm
    have S5:St0 X.K H5 ρ (az be p (acc++(ys.take i).map h)) db:=⟨Sc.mu.FJ e5 sm,Sc.rho.ext Sc.mu e5⟩
    obtain⟨gt,pg,lg⟩:=hg2
    have hmem:d∈ys:=mem_of_getElem? hd
    have sub:∀a ds,a≠p->be a=some ds->az be p (acc++(ys.take i).map h) a=some ds:=fun a ds ne e=>by rw[aT ne];exact e
    refine thn (pg _ s5 db H5 x u (fun bn H'=>∃bm U,Ext X.K (az be p (acc++(ys.take i).map h)) H5 U H'/\St0 X.K H' bm U bn/\Le ρ bm/\te bm U fun d' im=>im=az be p (acc++(ys.take i).map h)/\d' = .v (h d)) I5' r5
     (lg db H5 ρ _ (.v d) x _ _ S5 rd (body d hmem _ sub) fun bn bm U H' e' S' q=>⟨bm,U,e',S',q⟩)) fun _ s6 ⟨ga,H6,I6,jp,ld,e6,S6,le6,q6⟩=>?_
    refine thn (he.use I6 S6 q6) fun v s8 hq0=>?_
    obtain⟨d',v8,kw,H8,I8,r8,e8,S8,ry,sB,ed⟩:=hq0
    subst sB;subst ed
    obtain⟨us,hacc,rus⟩:=S8.mu.lst p _ aI
    have hle:(acc++(ys.take i).map h).length<1000:=by
     rw[length_append,length_map,length_take]
     rw[length_map] at hlen
     omega
    refine thn (lh (X:=aA X N' scope cl fp0 bi bv) _ s8 ga H8 (.ref p) [v8] (.ref p) [v] (fun _ H'=>H'=upd H8 p (.lst (us++[v8]))) I8 rfl (.cons r8 .nil) ⟨_,us,v8,rfl,rfl,hacc,by rw[<- rus.length];exact d0 (Nat.le_of_lt hle),rfl⟩) fun _ s9 hq0=>?_
    obtain⟨_,H9,I9,_,e9⟩:=hq0
    subst e9
    have et:acc++(ys.take (i+1)).map h=acc++(ys.take i).map h++[h d]:=by
     obtain⟨hi',e⟩:=List.getElem?_eq_some_iff.mp hd
     rw[List.take_succ_eq_append_getElem hi',map_append,e,append_assoc]
     rfl
    have ex:Ext X.K (az be p (acc++(ys.take i).map h)) H8 (az (az be p (acc++(ys.take i).map h)) p (acc++(ys.take i).map h++[h d])) (upd H8 p (.lst (us++[v8]))):=gh aI
    have m9:=S8.mu.set aI (rus.append (.cons ry .nil))
    rw[fA,<- et] at ex m9
    have Ef:=Ec.trans (e5.trans (e6.trans (e8.trans ex)))
    refine⟨ys.length-(i+1),∅,i+1,ga,_,rfl,hlt,I9.dS,T.keep _ _ _ st5 fun b hb o e=>(I9.pin (b,o) (mem_append_right _ (mem_append_right _ (bD hb e)))).1,fun b hb=>?_,⟨m9,(S8.rho.ext S8.mu ex).le le6⟩,Ef⟩
    obtain⟨o,e,_⟩:=T.obj _ _ st5 b hb
    exact (I9.pin (b,o) (mem_append_right _ (mem_append_right _ (bD hb e)))).2.1
   ·have ei:i=ys.length:=by omega
    subst ei
    refine thn (T.done (aA X N' scope cl fp0 bi bv) rfl rfl rfl (fun z=>z) _ pins s' db Hc (fun _ _=>False) Ic (stat frc) tc (stop rfl)) fun r s4 hq0=>?_
    obtain⟨hr,I5⟩:=hq0
    subst hr
    rw[take_length] at Sc Ec
    exact⟨_,rfl,db,Hc,I5,Sc,e1.trans Ec⟩
  ·rw[List.take_zero,map_nil,append_nil,xV hp]
   exact S1
  ·rw[List.take_zero,map_nil,append_nil,xV hp]
   exact .refl
 exact yb loop (T.self X.A 0 _ _ _ st2 loop)
noncomputable def BY(cap:List (Option Nat))(src:DTI)(g:DTG)(src2:DTI)(g2:DTG)(te:DTE):DTE:=fun ρ Z Q=>src ρ Z fun xs ad=>xs.length<=1000/\∃f:PyData->List PyData,(xs.flatMap f).length<=1000 /\
   (∀x∈xs,∀U:Mu,(∀a ds,ad a=some ds->U a=some ds)->g (.v x) (bj cap ρ) U fun ci am=>Le (bj cap ρ) ci/\am=U/\src2 ci U fun ys be=>be=U/\∃h:PyData->PyData,f x=ys.map h/\∀y∈ys,∀dL:Mu,(∀a ds,ad a=some ds->dL a=some ds) ->
    g2 (.v y) ci dL fun ls ce=>Le ci ls/\te ls ce fun d im=>im=dL/\d = .v (h y))/\Q (.v (.list (xs.flatMap f))) ad
theorem JX{cap:List (Option Nat)}{src:DTI}{g:DTG}{src2:DTI}{g2:DTG}{te:DTE}{ρ:Rho}{Z:Mu}{Q:DK}:BY cap src g src2 g2 te ρ Z Q=src ρ Z fun xs ad=>xs.length<=1000/\∃f:PyData->List PyData,(xs.flatMap f).length<=1000 /\
   (∀x∈xs,∀U:Mu,(∀a ds,ad a=some ds->U a=some ds)->g (.v x) (bj cap ρ) U fun ci am=>Le (bj cap ρ) ci/\am=U/\src2 ci U fun ys be=>be=U/\∃h:PyData->PyData,f x=ys.map h/\∀y∈ys,∀dL:Mu,(∀a ds,ad a=some ds->dL a=some ds) ->
    g2 (.v y) ci dL fun ls ce=>Le ci ls/\te ls ce fun d im=>im=dL/\d = .v (h y))/\Q (.v (.list (xs.flatMap f))) ad:=rfl
theorem EL{X:Cx}{N':List Str}{scope:Scope}{cl:List (Str×Addr)}{elt iter tg tg2 iter2:Expr}{pos:Pos}{cap:List (Option Nat)}{src src2:DTI}{g g2:DTG}{te:DTE}(hc:X.calm=X.calm)
  (hi:DI X tg iter src) (hg:∀fp bi bv,DG (aA X N' scope cl fp bi bv) tg g) (hi2:∀fp bi bv,DI (aA X N' scope cl fp bi bv) tg2 iter2 src2) (hg2:∀fp bi bv,DG (aA X N' scope cl fp bi bv) tg2 g2) (he:∀fp bi bv,DE (aA X N' scope cl fp bi bv) elt te)
  (hclos:closureFor scope X.env=pure cl) (hcell:∀y∈scope.names,y.2≠.cell) (hkind:scope.kind = .function) (hnames:∀y∈scope.names,y.2 = .local->scope.names.lookup y.1=some .local)
  (hcl:∀x a,cl.lookup x=some a->X.env.cells.lookup x=some a) (hhas:∀x,(relabel scope X.env).names.lookup x=some .cell\/(relabel scope X.env).names.lookup x=some .free->∃a,cl.lookup x=some a)
  (hmono:∀(ρ:Rho) (Z:Mu) (Q Q':List PyData->Mu->Prop),src2 ρ Z Q->(∀ys U,Q ys U->Q' ys U)->src2 ρ Z Q') (hlen:cap.length=N'.length) (hcap:∀(i j:Nat) (x:Str),cap[i]? = some (some j)->N'[i]? = some x->X.N[j]? = some x/\Vis X.env.scope x/\X.env.kindOf x≠some .local/\((relabel scope X.env).names.lookup x=some .cell\/(relabel scope X.env).names.lookup x=some .free))
  (hs:∀x,foldedSetIterable iter X.env x=pure x:=by intro _;rfl) (hs2:∀(env:Env) x,foldedSetIterable iter2 env x=pure x:=by intro _ _;rfl):DE X (two elt tg iter tg2 iter2 scope pos) (BY cap src g src2 g2 te):=by
 refine Ja fun pins s σ H ρ Z Qd Q I S h k=>?_
 obtain⟨wi,pw,li⟩:=hi
 show wpAny _ _ (eval (.ListComp elt [⟨tg,iter,[],0⟩,⟨tg2,iter2,[],0⟩] scope pos) X.env) _ _ _
 rw[eval_ListComp]
 refine wpAny_comprehension_free (use:=none) rfl hs hclos hkind hnames (thn (pw pins s σ H _ I (li σ H ρ Z _ (fun J H1=>∃xs ad,Ext X.K Z H ad H1/\St0 X.K H1 ρ ad σ/\HY X.K J xs ad H1/\xs.length<=1000/\∃f:PyData->List PyData,(xs.flatMap f).length<=1000 /\
   (∀x∈xs,∀U:Mu,(∀a ds,ad a=some ds->U a=some ds)->g (.v x) (bj cap ρ) U fun ci am=>Le (bj cap ρ) ci/\am=U/\src2 ci U fun ys be=>be=U/\∃h:PyData->PyData,f x=ys.map h/\∀y∈ys,∀dL:Mu,(∀a ds,ad a=some ds->dL a=some ds) ->
    g2 (.v y) ci dL fun ls ce=>Le ci ls/\te ls ce fun d im=>im=dL/\d = .v (h y))/\Qd (.v (.list (xs.flatMap f))) ad) S h (fun xs ad H1 J e1 S1 it q=>⟨xs,ad,e1,S1,it,q⟩)))
  fun v s1 h1=>thn h1 fun itv s2 h2=>?_)
 obtain⟨it,fp,tn,J,H2,rfl,I2,T,st2,f2,xs,ad,e1,S1,itok,hxs,f,hfl,body,fin⟩:=h2
 refine wpAny_newObj_type (wpAny_newFunctionEnv hcell (by intro y hy;simp at hy) (fun dl gV gl=>?_) hkind)
 dsimp only at gV gl ⊢
 have hfree2:H2 s2.heap.objs.size=none:=I2.hok.fresh (le_refl _)
 have hK2:X.K.lookup s2.heap.objs.size=none:=by
  cases z:X.K.lookup s2.heap.objs.size with
  |none=>rfl
  |some o=>exact absurd (Heap.lt_size (I2.kIn _ _ z)) (lt_irrefl _)
 have I3:Inv X pins σ (upd H2 s2.heap.objs.size (.lst [])) {s2 with heap:=s2.heap.push {cls:=.type "list",dict:=none,data:=.seq ([]:List Value).toArray}}:=
  I2.laid (t':=s2.toks) (fun b u e=>Heap.get?_push_of_some _ e) (le_refl _) ⟨zero_le _,[],0,.nil,Heap.get?_push_size _ rfl⟩
 generalize hH:s2.heap.push {cls:=.type "list",dict:=none,data:=.seq ([]:List Value).toArray} = hp3 at gV gl I3 ⊢
 have hsz3:hp3.objs.size=s2.heap.objs.size+1:=by rw[<- hH,Heap.size_push]
 have kept3:∀b o,hp3.get? b=some o->dl.get? b=some o:=fun b o e=>gl.extBut b o (ne_of_lt (Heap.lt_size e)) (Heap.get?_push_of_some _ e)
 have old3:∀b o,s2.heap.get? b=some o->hp3.get? b=some o:=fun b o e=>by rw[<- hH];exact Heap.get?_push_of_some _ e
 have fplt:∀b∈fp,b<s2.heap.objs.size:=fun b hb=>by obtain⟨o,e,_⟩:=T.obj 0 _ st2 b hb;exact Heap.lt_size e
 have fpst:∀b∈fp,b ∉ frs X.stack:=fun b hb hz=>by
  rcases List.mem_cons.mp (I2.iO b hz) with e|e
  ·exact (f2 b hb).2.1 e
  ·exact (f2 b hb).2.2.1 e
 obtain⟨s3,hs3⟩:∃s3:Shared,s3={s2 with heap:=hp3}:=⟨_,rfl⟩
 obtain⟨H3,hH3⟩:∃H3:Hp,H3=upd H2 s2.heap.objs.size (.lst []):=⟨_,rfl⟩
 have heap3:s3.heap=hp3:=by rw[hs3]
 rw[<- hH3] at I3
 have I3':Inv X pins σ H3 s3:=by rw[hs3];exact I3
 have hloc:H3 hp3.objs.size=none:=by have:=I3'.hok.fresh (a:=hp3.objs.size) (by rw[heap3];exact le_refl _);exact this
 have okc:(aA X N' scope cl fp s3 H3).Ok:=by
  refine⟨I3.ok.mod,?_,I3.ok.glob,I3.ok.blt,le_refl _,fun x y a h1 h2=>I3.ok.inj x y a (hcl x a h1) (hcl y a h2),fun x hx=>hhas x hx,fun x a h=>(nomatch h),I3.ok.hd,I3.ok.qt,I3.ok.frames,.inl rfl,fun b hb=>⟨?_,fun x a h=>(f2 b hb).2.2.2.2.1 x a (hcl x a h)⟩,
   I3'.bs,le_trans I3.ok.bsz I3'.sz,fun b o e hb=>?_,fun b hb=>fpst b hb,I3'.stack,I3'.p5⟩
  ·exact hkind
  ·show b≠s3.heap.objs.size
   rw[heap3,hsz3]
   exact ne_of_lt (lt_succ_of_lt (fplt b hb))
  ·rcases (f2 b hb).2.2.2.1 with z|z
   ·exact I3.ok.BS b o e z
   ·exact absurd (lt_of_lt_of_le (Heap.lt_size (I3.ok.bs b o e).1) z) (lt_irrefl _)
 have I4:Inv (aA X N' scope cl fp s3 H3) [] (bj cap σ) H3 {s2 with heap:=dl,toks:=s2.toks+([]:List (Str×Value)).length}:=by
  refine⟨okc,by show s2.os=s3.os;rw[hs3],I3.bare,Un.kept (by show ∀b o,s3.heap.get? b=some o->_;rw[heap3];exact kept3),⟨_,(by show dl.Ns s3.heap.objs.size _;rw[heap3];exact gV),fun i x v e1 e2 e3=>?_⟩,fun x a h=>?_,(by show H3 s3.heap.objs.size=none;rw[heap3];exact hloc),fun x a h=>I3.j3 x a (hcl x a h),fun p hp=>?_,I3.hok.kept kept3,?_⟩
  ·obtain⟨j,h1,h2⟩:=lO e2
   obtain⟨hN,hv,hnl,hk⟩:=hcap i j x h1 e1
   obtain⟨m,_,hl⟩:=I3.loc
   obtain⟨u,r,lk⟩:=hl j x v hN h2 hv
   refine⟨u,r,.inr ⟨hk,?_⟩⟩
   obtain⟨a,ha⟩:=hhas x hk
   rcases lk with ⟨z,_⟩|⟨_,a',z1,z2⟩
   ·exact absurd z hnl
   ·have:a'=a:=by have q:=hcl x a ha;rw[z1] at q;exact Option.some.inj q
    subst this
    obtain⟨o,ho,hd⟩:=z2
    exact⟨a',ha,o,kept3 _ _ ho,hd⟩
  ·obtain⟨v,o,ho,hd⟩:=I3.cell x a (hcl x a h)
   exact⟨v,o,kept3 _ _ ho,hd⟩
  ·have hp':p∈X.pn++pins:=mem_append_left _ (by simpa using (show p∈X.pn++[] from hp))
   obtain⟨z1,z2,z3,z4,z5⟩:=I3'.pin p hp'
   refine⟨kept3 _ _ (by rw[<- heap3];exact z1),z2,(show p.1≠s3.heap.objs.size from ne_of_lt (Heap.lt_size z1)),fun z=>?_,z5⟩
   rcases List.mem_cons.mp (I3'.iO p.1 z) with e|e
   ·exact z3 e
   ·exact z4 e
  ·show (bj cap σ).length=N'.length
   unfold bj
   rw[length_map]
   exact hlen
 have lf:ad s2.heap.objs.size=none:=S1.mu.free hfree2
 have sub1:∀ys a ds,ad a=some ds->az ad s2.heap.objs.size ys a=some ds:=fun ys a ds e=>by
  have:a≠s2.heap.objs.size:=fun z=>by rw[z,lf] at e;cases e
  rw[aT this];exact e
 have loop:codeAny (model X.prog X.w) X.A (.compLoop (two elt tg iter tg2 iter2 scope pos) 0 (.ref it) (.ref s2.heap.objs.size) (aA X N' scope cl fp s3 H3).env)
   (compPost (model X.prog X.w) X.A X.xe none (EP X pins σ Q) (.ref s2.heap.objs.size) hp3.objs.size) {s2 with heap:=dl,toks:=s2.toks+([]:List (Str×Value)).length}:=by
  refine B4 (I:=fun n s'=>∃(i:Nat) (db:St) (Hc:Hp),n=xs.length-i/\i<=xs.length/\Inv (aA X N' scope cl fp s3 H3) [] db Hc s'/\tn i s'.heap/\(∀b∈fp,Hc b=none) /\
   St0 X.K Hc (bj cap ρ) (az ad s2.heap.objs.size ((xs.take i).flatMap f)) db/\Ext X.K ad H2 (az ad s2.heap.objs.size ((xs.take i).flatMap f)) Hc) (hs2 _) ?_ xs.length
   ⟨0,bj cap σ,H3,by simp,zero_le _,I4,T.keep 0 _ _ st2 (fun b hb o e=>kept3 b o (old3 b o e)),fun b hb=>?_,?_,?_⟩
  ·rintro n s' ⟨i,db,Hc,rfl,hi,Ic,tc,frc,Sc,Ec⟩
   have stat:∀{Hd:Hp},(∀b∈fp,Hd b=none)->∀b∈fp,nW (aA X N' scope cl fp s3 H3) [] Hd b:=fun hn b hb=>
    ⟨hn b hb,(okc.exf b hb).1,fpst b hb,.inl hb,fun x a h=>(okc.exf b hb).2 x a h,fun p hp=>(f2 b hb).2.2.2.2.2 p (mem_append_left _ (by simpa using (show p∈X.pn++[] from hp)))⟩
   obtain⟨go,stop⟩:=itok _ Hc Ec Sc.mu i
   by_cases hlt:i<xs.length
   ·obtain⟨g1,y1⟩:=go hlt
    refine thn (T.item (aA X N' scope cl fp s3 H3) rfl rfl rfl (fun z=>z) i [] s' db Hc (fun _ _=>False) Ic (stat frc) tc g1) fun r s4 hq0=>?_
    obtain⟨u,hr,h4⟩:=hq0
    subst hr
    refine thn h4 fun _ s5 hq0=>?_
    obtain⟨x,H5,I5,r5,y5,st5,fr5⟩:=hq0
    obtain⟨d,hd,sm,rd⟩:=y1 x H5 y5
    have I5':=I5.pinned (stat fr5) (T.obj _ _ st5)
    have e5:Ext X.K _ Hc _ H5:=.of_same (Z:=az ad s2.heap.objs.size ((xs.take i).flatMap f)) sm
    have S5:St0 X.K H5 (bj cap ρ) (az ad s2.heap.objs.size ((xs.take i).flatMap f)) db:=⟨Sc.mu.FJ e5 sm,Sc.rho.ext Sc.mu e5⟩
    obtain⟨gt,pg,lg⟩:=hg fp s3 H3
    have hmem:d∈xs:=mem_of_getElem? hd
    refine thn (pg _ s5 db H5 x u (fun bn H'=>∃bm U,Ext X.K (az ad s2.heap.objs.size ((xs.take i).flatMap f)) H5 U H'/\St0 X.K H' bm U bn/\Le (bj cap ρ) bm/\U=az ad s2.heap.objs.size ((xs.take i).flatMap f)/\src2 bm (az ad s2.heap.objs.size ((xs.take i).flatMap f)) fun ys be=>be=az ad s2.heap.objs.size ((xs.take i).flatMap f)/\∃h:PyData->PyData,f d=ys.map h/\∀y∈ys,∀dL:Mu,(∀a ds,ad a=some ds->dL a=some ds) ->
      g2 (.v y) bm dL fun ls ce=>Le bm ls/\te ls ce fun d im=>im=dL/\d = .v (h y)) I5' r5
     (lg db H5 (bj cap ρ) _ (.v d) x _ _ S5 rd (body d hmem _ (sub1 _)) fun bn bm U H' e' S' q=>⟨bm,U,e',S',q⟩)) fun _ s6 ⟨ga,H6,I6,jp,ld,e6,S6,le6,sB,q6⟩=>?_
    subst sB
    have et:(xs.take (i+1)).flatMap f=(xs.take i).flatMap f++f d:=by
     obtain⟨hi',e⟩:=List.getElem?_eq_some_iff.mp hd
     rw[List.take_succ_eq_append_getElem hi',List.flatMap_append,e]
     simp
    have hl2:((xs.take i).flatMap f).length+(f d).length<=1000:=by
     have h1:((xs.take (i+1)).flatMap f).length<=(xs.flatMap f).length:=by
      have:xs.flatMap f=(xs.take (i+1)).flatMap f++(xs.drop (i+1)).flatMap f:=by rw[<- List.flatMap_append,List.take_append_drop]
      rw[this,length_append]
      omega
     rw[et,length_append] at h1
     omega
    have q7:src2 jp (az ad s2.heap.objs.size ((xs.take i).flatMap f)) fun ys be=>be=az ad s2.heap.objs.size ((xs.take i).flatMap f)/\∃h:PyData->PyData,f d=ys.map h/\∀y∈ys,∀dL:Mu,(∀a ds,a≠s2.heap.objs.size->az ad s2.heap.objs.size ((xs.take i).flatMap f) a=some ds->dL a=some ds) ->
      g2 (.v y) jp dL fun ls ce=>Le jp ls/\te ls ce fun d im=>im=dL/\d = .v (h y):=by
     refine hmono _ _ _ _ q6 fun ys be ⟨z1,h,z2,z3⟩=>⟨z1,h,z2,fun y hy dL sb=>z3 y hy dL fun a ds e=>?_⟩
     have ne:a≠s2.heap.objs.size:=fun z=>by rw[z,lf] at e;cases e
     exact sb a ds ne (by rw[aT ne];exact e)
    refine thn (KG (hi2 fp s3 H3) (hg2 fp s3 H3) (he fp s3 H3) I6 S6 aI hl2 q7) fun v7 s7 h7=>thn h7 fun it2 s8 h8=>codeAny_mono h8 fun r s9 ⟨fl,er,wS,H9,I9,S9,E9⟩=>⟨fl,er,?_⟩
    rw[fA,<- et] at S9 E9
    refine⟨xs.length-(i+1),∅,i+1,wS,H9,rfl,hlt,I9.dS,T.keep _ _ _ st5 fun b hb o e=>(I9.pin (b,o) (mem_append_right _ (mem_append_right _ (bD hb e)))).1,fun b hb=>?_,⟨S9.mu,S9.rho.le le6⟩,Ec.trans (e5.trans (e6.trans E9))⟩
    obtain⟨o,e,_⟩:=T.obj _ _ st5 b hb
    exact (I9.pin (b,o) (mem_append_right _ (mem_append_right _ (bD hb e)))).2.1
   ·have ei:i=xs.length:=by omega
    subst ei
    refine thn (T.done (aA X N' scope cl fp s3 H3) rfl rfl rfl (fun z=>z) _ [] s' db Hc (fun _ _=>False) Ic (stat frc) tc (stop rfl)) fun r s4 hq0=>?_
    obtain⟨hr,I5⟩:=hq0
    subst hr
    rw[take_length] at Sc Ec
    obtain⟨m,hn,_⟩:=I5.loc
    refine⟨m,(by have z:s4.heap.Ns s3.heap.objs.size m:=hn;rw[heap3] at z;exact z),fun h' hs'=>?_⟩
    have kp:∀b o,b<s2.heap.objs.size->s4.heap.get? b=some o->h'.get? b=some o:=fun b o hb e=>hs'.extBut b o (by rw[hsz3];exact ne_of_lt (lt_succ_of_lt hb)) e
    have hcC:Hc hp3.objs.size=none:=by have z:Hc s3.heap.objs.size=none:=I5.free;rw[heap3] at z;exact z
    have hok':HOk X.prog X.w Hc h':=fun b ob e=>by
     refine (I5.hok b ob e).sC (fun cc v hcc q=>hs'.extBut cc v ?_ q) (fun _ q=>q) fun _ _ q=>q
     rintro rfl
     rcases hcc with z|z
     ·rw[<- z,hcC] at e;cases e
     ·rw[hcC] at z;cases z
    have u1:Un (frs X.stack) fp H2 H3 s2.heap s3.heap:=by rw[heap3,hH3];exact Un.laid old3 (le_refl _) hfree2
    have u2:Un (frs X.stack) fp H3 Hc s3.heap s4.heap:=I5.base
    have If:Inv X pins σ Hc {s4 with heap:=h'}:=I2.zj (ch:=fp) (by show s4.os=s2.os;have z:s4.os=s3.os:=I5.os;rw[z,hs3]) (Un.after (u1.trans u2) kp) hok' I5.bare fun b hb=>⟨(f2 b hb).2.2.2.1,(f2 b hb).2.1,(f2 b hb).2.2.2.2.1,(f2 b hb).2.2.2.2.2⟩
    obtain⟨us,hacc,rus⟩:=Sc.mu s2.heap.objs.size _ aI
    have shr:∀a,az ad s2.heap.objs.size (xs.flatMap f) a=none->ad a=none:=fun a e=>by
     by_cases ha:a=s2.heap.objs.size
     ·rw[ha];exact lf
     ·rw[aT ha] at e;exact e
    have eF:Ext X.K ad H2 ad Hc:=⟨Ec.keep,Ec.tb,fun _ ds q=>⟨ds,q⟩,fun _ q _=>q,Ec.st,fun _ c q=>⟨c,q⟩⟩
    have mF:bG X.K ad Hc:=⟨fun a ds q=>by
     obtain⟨ys,z1,z2⟩:=Sc.mu a ds (sub1 _ a ds q)
     exact⟨ys,z1,z2.shrink shr⟩,Sc.mu.tab,fun a c q=>let ⟨z,o,w1,w2⟩:=Sc.mu.box a c q;⟨z,o,w1,w2.shrink shr⟩⟩
    exact⟨.ref s2.heap.objs.size,Hc,If,rfl,k (.v (.list (xs.flatMap f))) _ ad Hc (e1.trans eF) ⟨mF,S1.rho.ext S1.mu eF⟩ (Rp.list hacc lf (rus.shrink shr)) fin⟩
  ·have z:b≠s2.heap.objs.size:=ne_of_lt (fplt b hb)
   rw[hH3,aV z]
   exact (f2 b hb).1
  ·have ex:=eP (o:=.lst []) (ds:=[]) S1.mu hfree2 hK2
   rw[hH3]
   exact⟨S1.mu.mut .nil hfree2 hK2,(S1.rho.ext S1.mu ex).cap⟩
  ·rw[hH3]
   exact eP (o:=.lst []) (ds:=[]) S1.mu hfree2 hK2
 have envE:(aA X N' scope cl fp s3 H3).env=compEnvC scope cl hp3.objs.size X.env:=by show compEnvC scope cl s3.heap.objs.size X.env=_;rw[heap3]
 rw[envE] at loop
 exact codeAny_compStart_list loop (T.self X.A 0 _ _ _ (T.keep 0 _ _ st2 (fun b hb o e=>kept3 b o (old3 b o e))) loop)
theorem Gy{i:Nat}{ρ:Rho}{Z:Mu}{Q Q':DK}(h:ai i ρ Z Q)(k:∀d U,Q d U->Q' d U):ai i ρ Z Q':=by
 unfold ai at h ⊢
 split at h
 ·exact k _ _ h
 ·exact h.elim
theorem Bi{i j:Nat}(ρ:Rho)(Z:Mu)(Q Q':List PyData->Mu->Prop)(h:km (bO (ag (ai i) (ag (ai j) av))) ρ Z Q)(k:∀ys U,Q ys U->Q' ys U):km (bO (ag (ai i) (ag (ai j) av))) ρ Z Q':=by
 unfold km bO ag at h ⊢
 refine Gy h fun x ad h=>Gy h fun y am h=>?_
 dsimp only[av] at h ⊢
 split at h
 ·exact k _ _ h
 ·exact h.elim
theorem Hb{X:Cx}{tg e:Expr}{src:DTI}(h:DI X tg e src):DIW X tg e src:=by
 obtain⟨wi,p,l⟩:=h
 exact⟨wi,p,fun σ H ρ Z Qd R S s k=>l σ H ρ Z Qd R S s fun xs ad H1 J e st ok q=>k xs ad H1 J e st (fun am H2 e2 m2 _=>ok am H2 e2 m2) q⟩
open PySem PySem.Spec PyProof.Rows NM
section
variable {Z:Mu}{Q:DK}{ds:List D}{x y:N3}
theorem JJ(a b c:Int):PyData.tuple [.int a,.int b,.int c]=dN ⟨a,b,c⟩:=rfl
theorem Dp:aM (.v (dN x)) (.v (.int 0)) Z Q=Q (.v (.int x.a)) Z:=by unfold dN;rw[uK]
theorem Dh:aM (.v (dN x)) (.v (.int 1)) Z Q=Q (.v (.int x.b)) Z:=by unfold dN;rw[vd]
theorem Dx:aM (.v (dN x)) (.v (.int 2)) Z Q=Q (.v (.int x.c)) Z:=by unfold dN;rw[ur]
theorem eqN:PyData.eqv (dN x) (dN y)=decide (x=y):=by
 unfold dN
 rw[SN,Bool.eq_iff_iff]
 simp only[decide_eq_true_eq]
 exact⟨fun h=>N3.ext' h.1 h.2.1 h.2.2,fun h=>by subst h;exact⟨rfl,rfl,rfl⟩⟩
theorem Bj{neg:Bool}:de neg (.v (dN x)) (.v (dN y)) Z Q=Q (.v (.bool (neg ^^ decide (x=y)))) Z:=by
 rw[Mj,eqN]
 exact propext ⟨fun h=>h.2.2,fun h=>⟨rfl,rfl,h⟩⟩
theorem sY(h:Ok x):isNum (dN x)=true:=by
 have:=h.c
 show (decide (1<=x.c)&&(g3 x.a x.b x.c==1))=true
 rw[h.g]
 simp;omega
theorem M4:Few (dN x):=by simp[dN,Few]
theorem Hm{d a b c:Int}(h:aJ d)(hc:0<c):sg d (low a b c).a (low a b c).b=sg d a b:=by
 obtain⟨k,hk,hs,p1,p2,p3,_⟩:=pA a b (show c≠0 by omega)
 have e:=k8 (a:=(low a b c).a) (b:=(low a b c).b) h (hs.mpr hc)
 rw[<- p1,<- p2] at e
 exact e.symm
theorem Mn{d:Int}(h:aJ d)(ox:Ok x)(oy:Ok y):sg d (times d x y).a (times d x y).b=sg d x.a x.b*sg d y.a y.b:=by
 unfold times
 rw[Hm h (mul_pos ox.c oy.c),IT h]
theorem Cs{d:Int}(h:aJ d)(ox:Ok x)(oy:Ok y):sg d (less x y).a (less x y).b=dif d x y:=by
 unfold less dif
 rw[Hm h (mul_pos ox.c oy.c)]
theorem wb{lo:Int}{n i:Nat}{x:PyData}(h:(o8 lo n)[i]? = some x):x = .int (lo+i)/\i<n:=by
 unfold o8 at h
 rw[getElem?_map] at h
 by_cases hi:i<n
 ·rw[List.getElem?_range hi] at h
  cases h
  exact⟨rfl,hi⟩
 ·rw[getElem?_eq_none (by simpa using hi)] at h
  cases h
theorem o7{lo:Int}{n:Nat}:(o8 lo n).length=n:=by unfold o8;simp
end
end L2.DL
namespace NM
abbrev T3:=Nat×Nat×Nat
def OW(β:Bool)(c i j s:Nat):List T3:=(List.range c).map fun k=>if β=true then (i+k*s,j,s) else (i,j+k*s,s)
def MK:List Nat->Bool->Nat->Nat->Nat->Nat->List T3
 |[],_,_,_,_,_=>[]
 |c::cs,true,i,j,a,b=>OW true c i j b++MK cs false (i+c*b) j (a-c*b) b
 |c::cs,false,i,j,a,b=>OW false c i j a++MK cs true i (j+c*a) a (b-c*a)
theorem Jz{β:Bool}{c i j s:Nat}:(OW β c i j s).length=c:=by unfold OW;simp
theorem pN:∀(cs:List Nat) (β:Bool) (i j a b:Nat),(MK cs β i j a b).length=cs.sum
 |[],_,_,_,_,_=>rfl
 |c::cs,true,i,j,a,b=>by rw[MK];rw[length_append,Jz,pN cs,List.sum_cons]
 |c::cs,false,i,j,a,b=>by rw[MK];rw[length_append,Jz,pN cs,List.sum_cons]
end NM
namespace L2.DL
open PySem PySem.Spec PyProof.Rows NM
structure Tg{α:Sort u}(x:α):Type where
def hd{α:Sort u}(x:α)(_:Tg x):α:=x
section
variable {ρ:Rho}{Z:Mu}{Q:DK}{QT:Bool->Mu->Prop}{Dd:Bs}{ta tb tc:DTE}{t u:DTT}{tA:DTA}{s1 s2:DTS}{d:D}{A B:Prop}{p:Tg A}{q:Tg B}
theorem P6{w:Tg Q}:hd Q w d Z=Q d Z:=propext Iff.rfl
theorem l_T{i:Decidable True}:(if True then hd A p else hd B q)=A:=if_pos trivial
theorem l_F{i:Decidable False}:(if False then hd A p else hd B q)=B:=if_neg id
theorem l_t{i:Decidable (true=true)}:(if true=true then hd A p else hd B q)=A:=if_pos rfl
theorem l_f{i:Decidable (false=true)}:(if false=true then hd A p else hd B q)=B:=if_neg Bool.false_ne_true
theorem fk{c:Prop}{i:Decidable c}(h:c):(if c then hd A p else hd B q)=A:=if_pos h
theorem dJ{c:Prop}{i:Decidable c}(h:¬ c):(if c then hd A p else hd B q)=B:=if_neg h
theorem Qf{i j:Int}{k:Decidable True}:(if True then i else j)=i:=if_pos trivial
theorem Q6{i j:Int}{k:Decidable False}:(if False then i else j)=j:=if_neg id
theorem RD{r}:dOp r ta tb ρ Z Q=ta ρ Z fun x ad=>tb ρ ad fun y am=>r x y am (hd Q .mk):=propext Iff.rfl
theorem M7{g:DTG}:bo ta g Dd ρ Z=ta ρ Z (hd (fun d ad=>g d ρ ad Dd.nx) .mk):=propext Iff.rfl
theorem PK{rd}:dCB rd tA ρ Z Q=tA ρ Z fun ds ad=>rd ds ad (hd Q .mk):=propext Iff.rfl
theorem HH{dsp:DSp}:ay dsp tA ρ Z Q=tA ρ Z fun ds ad=>dsp ds ad (hd Q .mk):=propext Iff.rfl
theorem IF:yZ t u ρ Z QT=t ρ Z fun c ad=>if c=true then hd (u ρ ad QT) .mk else hd (QT false ad) .mk:=propext Iff.rfl
theorem LD:jM t u ρ Z QT=t ρ Z fun c ad=>if c=true then hd (QT true ad) .mk else hd (u ρ ad QT) .mk:=propext Iff.rfl
theorem Ie:nB ta tb ρ Z Q=ta ρ Z fun x ad=>match x with|.v (.bool c)=>if c=true then hd (tb ρ ad Q) .mk else hd (Q (.v (.bool false)) ad) .mk|_=>False:=propext Iff.rfl
theorem MG:RI ta tb ρ Z Q=ta ρ Z fun x ad=>match x with|.v (.bool c)=>if c=true then hd (Q (.v (.bool true)) ad) .mk else hd (tb ρ ad Q) .mk|_=>False:=propext Iff.rfl
theorem P1:dIf t ta tb ρ Z Q=t ρ Z fun c ad=>if c=true then hd (ta ρ ad Q) .mk else hd (tb ρ ad Q) .mk:=propext Iff.rfl
theorem MI:cC t s1 s2 Dd ρ Z=t ρ Z fun b ad=>if b=true then hd (s1 Dd ρ ad) .mk else hd (s2 Dd ρ ad) .mk:=propext Iff.rfl
end
local macro_rules|`(tactic| walk_at "rn")=>mkW "↓yF ↓zk ↓zr ↓xu ↓xY ↓yo ↓x6 ↓yK ↓x9 ↓zR ↓sJ ↓q_c ↓Tn ↓q_B ↓Nn ↓ET ↓Fh ↓MX ↓PD ↓xl ↓Nq ↓yc ↓Sy ↓GG ↓ze ↓GH ↓GP ↓yd ↓Fv ↓Fj ↓EO ↓E6 ↓EU ↓Gg ↓y6 ↓x8 ↓yI ↓uK ↓vd ↓ur ↓yw ↓vy ↓rQ ↓FV ↓Fm ↓GC ↓L1 ↓oj ↓yV ↓GJ ↓RZ ↓zA ↓x5 ↓zE ↓zo ↓E8 ↓LW ↓yL ↓tE ↓G5 ↓Et ↓EH ↓rV ↓yW ↓sS ↓xp ↓yh ↓Pz ↓EK ↓xn ↓Gi ↓FU ↓zG ↓Pw ↓sM ↓L3 ↓Gz ↓G9 ↓xx ↓nS ↓rR ↓nX ↓oV ↓nR ↓Fu Ko ↓n8 ↓mK zM y9 Gp EA Fy bind_none bind_some join_some List.getElem?_cons_zero List.getElem?_cons_succ aO JJ Dp Dh Dx Bj oA vG vX xD Bv List.map List.append List.replicate length_cons length_nil Nat.reduceAdd Nat.reduceSub nil_append cons_append set_cons_zero List.set_cons_succ map_some ↓reduceIte Bool.not_true Bool.not_false false_eq_true Bool.true_eq_false xor_false false_xor"
theorem GI{d:Int}{x y:N3}:dif d x y=ON d x y:=rfl
def cA(d:Int):PyData->Bool
 |.tuple [.int a,.int b,.int c]=>isNum (.tuple [.int a,.int b,.int c])&&decide (sg d a b=1)
 |_=>false
noncomputable def iD:DSp:=fun ds Z Q=>∃(d:Int) (t:PyData),ds=[.v (.int d),.v t]/\aJ d/\Few t/\(∀x,t=dN x->Bd 8900 x)/\Q (.v (.bool (cA d t))) Z
theorem Dg{Z:Mu}{Q:DK}{ds:List D}(h:iD ds Z Q):ds.length=2:=by obtain⟨_,_,rfl,_⟩:=h;rfl
noncomputable def iF(a:Addr)(Z U:Mu):Prop:=Bag U a/\∀b,b≠a->∀ds,Z b=some ds->U b=some ds
noncomputable def eT:DTS:=
 (bq (nB (ay lS (ag (ai 1) av)) (dOp (de false) (ay kJ (ag (ai 0) (ag (ai 1) av))) (dC (.int 1)))))
section
variable {Z:Mu}{Qd:DK}{ds:List D}
theorem jz{d:Int}{x:N3}(ox:Ok x):cA d (dN x)=decide (sg d x.a x.b=1):=by
 show (isNum (dN x)&&decide (sg d x.a x.b=1))=_
 rw[sY ox,Bool.true_and]
theorem zD{d:Int}{t:PyData}(h:isNum t=false):cA d t=false:=by
 unfold cA
 split
 ·rw[h,Bool.false_and]
 ·rfl
theorem gL{t:PyData}(h:isNum t=true):∃x:N3,t=dN x/\Ok x:=by
 unfold isNum at h
 split at h
 ·rename_i a b c
  simp only[and_eq_true,decide_eq_true_eq,beq_iff_eq] at h
  exact⟨⟨a,b,c⟩,rfl,by show 0<c;omega,h.2⟩
 ·cases h
theorem qB(h:iD ds Z Qd):eT ‹Qd› (aO ["",""] ds) Z:=by
 obtain⟨d,t,rfl,hd,ft,bt,q⟩:=h
 unfold eT
 walk_at "rn"
 refine⟨t,rfl,ft,?_⟩
 walk_at "rn"
 cases e:isNum t with
 |true=>
  walk_at "rn"
  obtain⟨x,rfl,ox⟩:=gL e
  refine⟨d,x,rfl,hd,bt x rfl,?_⟩
  walk_at "rn"
  rw[jz ox] at q
  exact q
 |false=>
  walk_at "rn"
  rw[zD e] at q
  exact q
theorem nY{x y:N3}(e:dN x=dN y):x=y:=by
 simp only[dN,PyData.tuple.injEq,List.cons.injEq,PyData.int.injEq,and_true] at e
 exact N3.ext' e.1 e.2.1 e.2.2
theorem iF.trans{a:Addr}{Z ad am:Mu}(h:iF a Z ad)(g:iF a ad am):iF a Z am:=⟨g.1,fun b n ds e=>g.2 b n ds (h.2 b n ds e)⟩
theorem Step.w{a:Addr}{Z U:Mu}(h:Step a Z U):iF a Z U:=⟨h.1,fun b n ds e=>by rw[h.2 b n];exact e⟩
end
section
variable {Z:Mu}{Qd:DK}{ds:List D}
theorem vo{d:Int}{x:N3}(h:sg d x.a x.b=1):x≠aC:=fun e=>by subst e;have:sg d aC.a aC.b=0:=eM.mpr ⟨rfl,rfl⟩;omega
end
structure Hk(d:Int)(ks:List N3):Prop where
 l1:1<=ks.length
 l3:ks.length<=3
 ok:∀k∈ks,Ok k/\Bd 140 k/\sg d k.a k.b=1
noncomputable def j4:DSp:=fun ds Z Q=>∃(d:Int) (ks:List N3),ds=[.v (.int d),.v (.tuple (ks.map dN))]/\aJ d/\1<=ks.length/\ks.length<=3/\(∀k∈ks,Ok k/\Bd 140 k/\sg d k.a k.b=1)/\Q (.v .none) Z
theorem wD{Z:Mu}{Q:DK}{ds:List D}(h:j4 ds Z Q):ds.length=2:=by obtain⟨_,_,rfl,_⟩:=h;rfl
noncomputable def Sa(d:Int)(t:PyData):Prop:=Few t/\∀x,t=dN x->Bd 8900 x
def KT(d:Int):PyData->Prop
 |.tuple xs=>xs.length<=1000/\(xs.length<=3->∀x∈xs,Sa d x)
 |_=>True
def IC(d:Int):PyData->Bool
 |.tuple xs=>decide (1<=xs.length)&&(decide (xs.length<=3)&&xs.all (cA d))
 |_=>false
noncomputable def tP:DSp:=fun ds Z Q=>∃(d:Int) (t:PyData),ds=[.v (.int d),.v t]/\aJ d/\KT d t/\Q (.v (.bool (IC d t))) Z
theorem B7{Z:Mu}{Q:DK}{ds:List D}(h:tP ds Z Q):ds.length=2:=by obtain⟨_,_,rfl,_⟩:=h;rfl
noncomputable def oH:DTS:=
 (aP (cC (jM (dW (dB (zU "tuple" (ai 1)))) (jM (dB (dOp rLt (dCB cZ (ag (ai 1) av)) (dC (.int 1)))) (dB (dOp rGt (dCB cZ (ag (ai 1) av)) (dC (.int 3)))))) (bq (dC (.bool false))) bI)
 (bq (dCB qo (ag (oF [none,some 0] (km (ai 1)) (aq 0) gH (ay iD (ag (ai 1) (ag (ai 0) av)))) av))))
noncomputable def gM:DTS:=
 (cC (dW (dB (ay tP (ag (ai 0) (ag (ai 1) av))))) um bI)
section
variable {Z:Mu}{Qd:DK}{ds:List D}
theorem P7{xs:List PyData}(g:PyData->Bool):bN (xs.filterMap fun x=>some (.bool (g x)))=some (xs.map g):=by
 induction xs with
 |nil=>rfl
 |cons x xs ih=>
  rw[filterMap_cons]
  show bN (PyData.bool (g x)::_)=_
  unfold bN
  rw[ih]
  rfl
theorem EJ(h:tP ds Z Qd):oH ‹Qd› (aO ["",""] ds) Z:=by
 obtain⟨d,t,rfl,hd,kt,q⟩:=h
 unfold oH
 walk_at "rn"
 rcases BW t with ⟨xs,rfl,e⟩|⟨hn,e⟩
 ·rw[e]
  walk_at "rn"
  have q':Qd (.v (.bool (decide (1<=xs.length)&&(decide (xs.length<=3)&&xs.all (cA d))))) Z:=q
  by_cases h1:((xs.length:Nat):Int)<1
  ·rw[if_pos (by simpa using h1)]
   rw[decide_eq_false (show ¬ 1<=xs.length by omega),Bool.false_and] at q'
   exact q'
  ·rw[if_neg (by simpa using h1)]
   by_cases h3:(3:Int)<((xs.length:Nat):Int)
   ·rw[if_pos (by simpa using h3)]
    rw[decide_eq_false (show ¬ xs.length<=3 by omega),Bool.false_and,Bool.and_false] at q'
    exact q'
   ·rw[if_neg (by simpa using h3)]
    rw[decide_eq_true (show 1<=xs.length by omega),decide_eq_true (show xs.length<=3 by omega),Bool.true_and,Bool.true_and] at q'
    refine⟨∅,fun x=>some (.bool (cA d x)),fun x hx U hs=>⟨⟨trivial,trivial⟩,?_⟩,?_⟩
    ·have p:=kt.2 ∅ x hx
     exact⟨d,x,rfl,hd,p.1,p.2,rfl,rfl⟩
    ·rw[P7]
     dsimp only
     rw[all_map]
     exact q'
 ·rw[e]
  walk_at "rn"
  have:IC d t=false:=by cases t<;>first|rfl|exact absurd rfl (hn _)
  rw[this] at q
  exact q
theorem Ky{d:Int}{ks:List N3}(h:Hk d ks):IC d (.tuple (ks.map dN))=true:=by
 show (decide (1<=(ks.map dN).length)&&(decide ((ks.map dN).length<=3)&&(ks.map dN).all (cA d)))=true
 rw[length_map,decide_eq_true h.l1,decide_eq_true h.l3,Bool.true_and,Bool.true_and,all_map,List.all_eq_true]
 intro k hk
 obtain⟨ok,_,sk⟩:=h.ok k hk
 show cA d (dN k)=true
 rw[jz ok,sk]
 rfl
theorem To{d:Int}{ks:List N3}(h:Hk d ks):KT d (.tuple (ks.map dN)):=by
 refine⟨by rw[length_map];have:=h.l3;omega,fun _ x hx=>?_⟩
 obtain⟨k,hk,rfl⟩:=List.mem_map.mp hx
 exact⟨M4,fun y e=>by rw[<- nY e];exact (h.ok k hk).2.1.mono ⋯⟩
theorem vi(h:j4 ds Z Qd):gM ‹Qd› (aO ["",""] ds) Z:=by
 obtain⟨d,ks,rfl,hd,l1,l3,hk,q⟩:=h
 have ho:Hk d ks:=⟨l1,l3,hk⟩
 unfold gM
 walk_at "rn"
 refine⟨d,_,rfl,hd,To ho,?_⟩
 rw[Ky ho]
 exact q
theorem Ou{xs:List PyData}{lo hi:Option Int}{x:PyData}(h:x∈qP xs lo hi):x∈xs:=by
 unfold qP at h
 exact List.mem_of_mem_drop (List.mem_of_mem_take h)
end
noncomputable def dP(d:Int)(ms:List N3):Prop:=ms.Pairwise fun a b=>dif d b a=1
noncomputable def tJ:DSp:=fun ds Z Q=>∃(d:Int) (p:Addr) (ms:List N3) (x:N3),ds=[.v (.int d),.m p,.v (dN x)]/\aJ d/\Z p=some (ms.map dN)/\(∀m∈ms,Ok m/\Bd 4400 m)/\Ok x/\Bd 4400 x/\dP d ms/\ms.length<=1000 /\
 ∀r:Nat,r<=ms.length->(∀i m,i<r->ms[i]? = some m->dif d x m=1)->(∀i m,r<=i->ms[i]? = some m->¬ dif d x m=1)->Q (.v (.int (r:Nat))) Z
theorem DY{ds:List D}{Z:Mu}{Q:DK}(h:tJ ds Z Q):ds.length=3:=by obtain⟨_,_,_,_,rfl,_⟩:=h;rfl
noncomputable def zp:DSp:=fun ds Z Q=>∃(d:Int) (fs:List N3),ds=[.v (.int d),.v (.list (fs.map dN))]/\aJ d/\(∀m∈fs,Ok m/\Bd 4400 m)/\fs.length<=1000 /\
 ∀p ms U,Z p=none->eS Z U->U p=some (ms.map dN)->dP d ms->(∀x,x∈ms↔x∈fs)->Q (.m p) U
theorem DC{ds:List D}{Z:Mu}{Q:DK}(h:zp ds Z Q):ds.length=2:=by obtain⟨_,_,rfl,_⟩:=h;rfl
noncomputable def jw:DTS:=
 (aP (bo (dC (.int 0)) (aq 3))
 (aP (bo (dCB cZ (ag (ai 1) av)) (aq 4))
 (aP (uq (dB (dOp rLt (ai 3) (ai 4))) (aP (bo (uQ (bZ (ai 3) (ai 4)) (dC (.int 2))) (aq 5))
 (cC (dB (ay w6 (ag (ai 0) (ag (ai 2) (ag (dOp aM (ai 1) (ai 5)) av))))) (bo (bZ (ai 5) (dC (.int 1))) (aq 3)) (bo (ai 5) (aq 4)))))
 (bq (ai 3)))))
noncomputable def iK:DTS:=
 (aP (bo (vS av) (aq 2))
 (aP (qH (iV (ai 1)) (aq 3) (aP (bo (ay tJ (ag (ai 0) (ag (ai 2) (ag (ai 3) av)))) (aq 4))
 (cC (jM (dB (dOp (de false) (ai 4) (dCB cZ (ag (ai 2) av)))) (dB (dOp (de true) (dOp aM (ai 2) (ai 4)) (ai 3)))) (nC (Oq (ai 2) (ai 4) (ai 3))) bI)))
 (bq (ai 2))))
section
variable {Z:Mu}{Qd:DK}{ds:List D}
theorem Pj(r s:Nat):(r:Int).fdiv (s:Int)=((r / s:Nat):Int):=by rw[Int.fdiv_eq_ediv_of_nonneg _ (Int.natCast_nonneg s)];rfl
theorem zu{ks:List N3}{i:Nat}{m:N3}(h:ks[i]? = some m):atI (ks.map dN) (i:Int)=some (dN m):=by
 have hl:i<ks.length:=by
  rcases lt_or_ge i ks.length with z|z
  ·exact z
  ·rw[getElem?_eq_none z] at h;cases h
 unfold atI ixN
 rw[if_pos ∅,if_pos (by rw[length_map];omega)]
 simp only[bind_some,Int.toNat_natCast]
 rw[getElem?_map,h]
 rfl
theorem lz{d:Int}{x y z:N3}(hd:aJ d)(ox:Ok x)(oy:Ok y)(oz:Ok z)(h1:dif d x y=1)(h2:dif d y z=1):dif d x z=1:=by
 rw[GI] at *
 unfold ON at *
 have cx:=ox.c
 have cy:=oy.c
 have cz:=oz.c
 have a1:P d (z.c*(x.a*y.c-y.a*x.c)) (z.c*(x.b*y.c-y.b*x.c)):=(kz hd).mp (by rw[k8 hd cz];exact h1)
 have a2:P d (x.c*(y.a*z.c-z.a*y.c)) (x.c*(y.b*z.c-z.b*y.c)):=(kz hd).mp (by rw[k8 hd cx];exact h2)
 have a3:=(kz hd).mpr (RX hd a1 a2)
 have e1:z.c*(x.a*y.c-y.a*x.c)+x.c*(y.a*z.c-z.a*y.c)=y.c*(x.a*z.c-z.a*x.c):=by grind
 have e2:z.c*(x.b*y.c-y.b*x.c)+x.c*(y.b*z.c-z.b*y.c)=y.c*(x.b*z.c-z.b*x.c):=by grind
 rw[e1,e2,k8 hd cy] at a3
 exact a3
theorem Cw{d:Int}{ms:List N3}(h:dP d ms){i j:Nat}{a b:N3}(hij:i<j)(ha:ms[i]? = some a)(hb:ms[j]? = some b):dif d b a=1:=by
 obtain⟨hi,rfl⟩:=List.getElem?_eq_some_iff.mp ha
 obtain⟨hj,rfl⟩:=List.getElem?_eq_some_iff.mp hb
 exact List.pairwise_iff_getElem.mp h i j hi hj hij
theorem dif_neg{d:Int}{x y:N3}(hd:aJ d):dif d y x = - dif d x y:=by
 rw[GI,GI]
 unfold ON
 rw[<- yP hd]
 congr 1<;>grind
theorem Ol{d:Int}{x y:N3}(hd:aJ d)(ox:Ok x)(oy:Ok y)(h:¬ dif d x y=1)(n:y≠x):dif d y x=1:=by
 rw[dif_neg hd]
 have t:dif d x y=0\/dif d x y=1\/dif d x y = -1:=by rw[GI];exact oI _ _ _
 rcases t with t|t|t
 ·exact absurd (Mo ox oy (by rw[<- GI];exact t)).symm n
 ·exact absurd t h
 ·rw[t];rfl
theorem Ll{d:Int}{ms:List N3}{f:N3}{r:Nat}(hd:aJ d)(gm:∀m∈ms,Ok m)(of:Ok f)(hr:dP d ms)(hl:r<=ms.length)(hb:∀i m,i<r->ms[i]? = some m->dif d f m=1)(ha:∀i m,r<=i->ms[i]? = some m->¬ dif d f m=1)(hn:∀m,ms[r]? = some m->m≠f):dP d (ms.take r++f::ms.drop r):=by
 unfold dP at *
 rw[List.pairwise_append]
 have hbm:∀m∈ms.take r,dif d f m=1:=fun m hm=>by
  obtain⟨i,hi,e⟩:=List.mem_iff_getElem.mp hm
  have hi':i<r:=by rw[length_take] at hi;omega
  refine hb i m hi' ?_
  rw[<- e,List.getElem_take]
  exact getElem?_eq_getElem _
 have ham:∀m∈ms.drop r,dif d m f=1:=fun m hm=>by
  obtain⟨i,hi,e⟩:=List.mem_iff_getElem.mp hm
  have hi2:r+i<ms.length:=by rw[List.length_drop] at hi;omega
  have em:ms[r+i]? = some m:=by rw[<- e,List.getElem_drop];exact getElem?_eq_getElem _
  have er:ms[r]? = some ms[r]:=getElem?_eq_getElem ∅
  have o1:=gm ms[r] (getElem_mem _)
  have b1:=Ol hd of o1 (ha r _ (le_refl _) er) (hn _ er)
  cases i with
  |zero=>rw[Nat.add_zero,er] at em;cases em;exact b1
  |succ i=>exact lz hd (gm m (mem_of_getElem? em)) o1 of (Cw hr ∅ er em) b1
 refine⟨hr.sublist (List.take_sublist _ _),List.pairwise_cons.mpr ⟨ham,hr.sublist (List.drop_sublist _ _)⟩,fun a ha' b hb'=>?_⟩
 rcases List.mem_cons.mp hb' with rfl|hb'
 ·exact hbm a ha'
 ·exact lz hd (gm b (List.mem_of_mem_drop hb')) of (gm a (List.mem_of_mem_take ha')) (ham b hb') (hbm a ha')
theorem OF{α:Type}{ms:List α}{f x:α}{r:Nat}:x∈ms.take r++f::ms.drop r↔x=f\/x∈ms:=by
 rw[mem_append,mem_cons]
 have h:x∈ms↔x∈ms.take r\/x∈ms.drop r:=by
  conv=>lhs;rw[<- List.take_append_drop r ms]
  rw[mem_append]
 rw[h]
 constructor
 ·rintro (a|a|a)
  ·exact .inr (.inl a)
  ·exact .inl a
  ·exact .inr (.inr a)
 ·rintro (a|a|a)
  ·exact .inr (.inl a)
  ·exact .inl a
  ·exact .inr (.inr a)
theorem wA(h:zp ds Z Qd):iK ‹Qd› (aO ["","","","",""] ds) Z:=by
 obtain⟨d,fs,rfl,hd,gf,hl,q⟩:=h
 unfold iK
 walk_at "rn"
 intro p hp
 rw[lI]
 walk_at "rn"
 refine⟨fun i ρ U=>∃r3 r4 ms,ρ=[some (.v (.int d)),some (.v (.list (fs.map dN))),some (.m p),r3,r4]/\eS Z U/\U p=some (ms.map dN)/\dP d ms/\(∀x,x∈ms↔x∈fs.take i)/\ms.length<=i,⟨_,_,[],rfl,eS.refl.set hp,aI,List.Pairwise.nil,by simp,le_refl _⟩,?_,?_⟩
 ·rintro i x ρ U hx ⟨r3,r4,ms,rfl,sb,hm,hr,hms,lm⟩
  have hil:i<fs.length:=by
   rcases lt_or_ge i fs.length with z|z
   ·exact z
   ·rw[getElem?_eq_none (by rw[length_map];exact z)] at hx;cases hx
  obtain⟨f,ef,rfl⟩:∃f,fs[i]? = some f/\x=dN f:=by
   rw[getElem?_map,getElem?_eq_getElem hil] at hx
   exact⟨fs[i],getElem?_eq_getElem hil,(Option.some.inj hx).symm⟩
  have gm:∀m∈ms,Ok m/\Bd 4400 m:=fun m h=>gf m (List.mem_of_mem_take ((hms m).mp h))
  obtain⟨of,bf⟩:=gf f (mem_of_getElem? ef)
  have tk:fs.take (i+1)=fs.take i++[f]:=by rw[take_succ,ef];rfl
  walk_at "rn"
  refine⟨d,p,ms,f,rfl,hd,hm,gm,of,bf,hr,∅,fun r rl hb ha=>?_⟩
  have fin:(∀m,ms[r]? = some m->m≠f)->∃r3 r4 ms',[some (D.v (.int d)),some (D.v (.list (fs.map dN))),some (D.m p),some (D.v (dN f)),some (D.v (.int (r:Nat)))]=[some (.v (.int d)),some (.v (.list (fs.map dN))),some (.m p),r3,r4]/\eS Z (az U p ((ms.map dN).take r++dN f::(ms.map dN).drop r))/\az U p ((ms.map dN).take r++dN f::(ms.map dN).drop r) p=some (ms'.map dN)/\dP d ms'/\(∀x,x∈ms'↔x∈fs.take (i+1))/\ms'.length<=i+1:=fun hn=>by
   refine⟨_,_,ms.take r++f::ms.drop r,rfl,sb.set hp,?_,Ll hd (fun m h=>(gm m h).1) of hr rl hb ha hn,fun x=>?_,by simp;omega⟩
   ·rw[aI,map_append,map_cons,List.map_take,List.map_drop]
   ·rw[OF,tk,mem_append,mem_singleton,hms]
    exact Or.comm
  walk_at "rn"
  rw[hm]
  dsimp only
  rw[length_map]
  have put:(∀m,ms[r]? = some m->m≠f)->∀K:DK,(∀z,(∃r3 r4 ms',[some (D.v (.int d)),some (D.v (.list (fs.map dN))),some (D.m p),some (D.v (dN f)),some (D.v (.int (r:Nat)))]=[some (.v (.int d)),some (.v (.list (fs.map dN))),some (.m p),r3,r4]/\eS Z z/\z p=some (ms'.map dN)/\dP d ms'/\(∀x,x∈ms'↔x∈fs.take (i+1))/\ms'.length<=i+1)->K (.v .none) z)->Oq (ai 2) (ai 4) (ai 3) [some (D.v (.int d)),some (D.v (.list (fs.map dN))),some (D.m p),some (D.v (dN f)),some (D.v (.int (r:Nat)))] U K:=fun hn K kk=>by
   rw[So]
   walk_at "rn"
   exact⟨r,dN f,ms.map dN,rfl,rfl,hm,by rw[length_map];exact rl,by rw[length_map];omega,kk _ (fin hn)⟩
  by_cases c:r=ms.length
  ·rw[if_pos (decide_eq_true ∅)]
   exact put (fun m e=>by rw[getElem?_eq_none ∅] at e;cases e) _ fun z h=>h
  ·rw[if_neg (by simp;omega)]
   have rl':r<ms.length:=by omega
   have er:ms[r]? = some ms[r]:=getElem?_eq_getElem rl'
   rw[zu er]
   dsimp only
   rw[Bj]
   dsimp only
   by_cases cf:ms[r]=f
   ·rw[if_neg (by simp[cf])]
    refine⟨_,_,ms,rfl,sb,hm,hr,fun x=>?_,∅⟩
    rw[tk,mem_append,mem_singleton,hms]
    constructor
    ·exact .inl
    ·rintro (h|rfl)
     ·exact h
     ·rw[<- hms,<- cf];exact getElem_mem _
   ·rw[if_pos (by simp[cf])]
    exact put (fun m e=>by rw[er] at e;cases e;exact cf) _ fun z h=>h
 ·rintro ρ U ⟨r3,r4,ms,rfl,sb,hm,hr,hms,lm⟩
  rw[length_map,take_length] at hms
  exact q p ms U hp sb hm hr hms
theorem yS(h:tJ ds Z Qd):jw ‹Qd› (aO ["","","","","",""] ds) Z:=by
 obtain⟨d,p,ms,x,rfl,hd,hp,gm,ox,bx,hr,hl,q⟩:=h
 unfold jw
 walk_at "rn"
 rw[hp]
 dsimp only
 rw[Ju,length_map]
 refine⟨fun n ρ U=>∃(lo hi:Nat) (r5:Option D),ρ=[some (.v (.int d)),some (.m p),some (.v (dN x)),some (.v (.int (lo:Nat))),some (.v (.int (hi:Nat))),r5]/\U=Z/\n=hi-lo/\lo<=hi/\hi<=ms.length/\(∀i m,i<lo->ms[i]? = some m->dif d x m=1)/\(∀i m,hi<=i->ms[i]? = some m->¬ dif d x m=1),
  ⟨_,0,ms.length,none,rfl,rfl,rfl,zero_le _,le_refl _,fun i m z=>absurd z (not_lt_zero _),fun i m z e=>by rw[getElem?_eq_none z] at e;cases e⟩,?_⟩
 rintro n ρ U ⟨lo,hi,r5,rfl,rfl,rfl,h1,h2,hb,ha⟩
 walk_at "rn"
 by_cases c:lo<hi
 ·rw[if_pos (by simpa using c)]
  have hm:(lo+hi) / 2<ms.length:=by omega
  have em:ms[(lo+hi) / 2]? = some ms[(lo+hi) / 2]:=getElem?_eq_getElem hm
  have ef:(((lo:Nat):Int)+((hi:Nat):Int)).fdiv 2=(((lo+hi) / 2:Nat):Int):=by
   have:((lo:Nat):Int)+((hi:Nat):Int)=((lo+hi:Nat):Int):=by omega
   rw[this]
   exact Pj (lo+hi) 2
  rw[hp,ef]
  dsimp only
  rw[zu em]
  generalize ms[(lo+hi) / 2]=mm at em
  obtain⟨omm,bmm⟩:=gm mm (mem_of_getElem? em)
  refine⟨BE ⋯ (Sz.of (n:=2) ⋯) ⋯,d,x,mm,rfl,hd,bx,bmm,?_⟩
  dsimp only
  by_cases cc:dif d x mm=1
  ·rw[if_pos (decide_eq_true cc)]
   refine⟨_,?_,(lo+hi) / 2+1,hi,some (.v (.int (((lo+hi) / 2:Nat):Int))),by simp,rfl,rfl,∅,h2,fun i m z e=>?_,ha⟩
   ·omega
   ·rcases lt_or_eq_of_le (le_of_lt_succ z) with z|z
    ·obtain⟨om,_⟩:=gm m (mem_of_getElem? e)
     exact lz hd ox omm om cc (Cw hr z e em)
    ·rw[z,em] at e
     cases e
     exact cc
  ·rw[if_neg (by simpa using cc)]
   refine⟨_,?_,lo,(lo+hi) / 2,_,rfl,rfl,rfl,∅,∅,hb,fun i m z e f=>cc ?_⟩
   ·omega
   ·rcases lt_or_eq_of_le z with z|z
    ·obtain⟨om,_⟩:=gm m (mem_of_getElem? e)
     exact lz hd ox om omm f (Cw hr z em e)
    ·rw[<- z,em] at e
     cases e
     exact f
 ·rw[if_neg (by simpa using c)]
  obtain rfl:lo=hi:=by omega
  exact q lo h2 hb ha
end
def numAt:PyData->N3
 |.tuple [.int a,.int b,.int c]=>⟨a,b,c⟩
 |_=>aC
noncomputable def zh(t:PyData):Prop:=Few t/\∀x,t=dN x->Bd 4400 x
noncomputable def Pt(t:PyData):Prop:=∀a b c e,t = .tuple [a,b,c,e]->zh a/\zh b/\zh c/\zh e
def lF(d:Int):PyData->Bool
 |.tuple [a,b,c,e]=>(isNum a&&(isNum b&&(decide (0<=sg d (numAt a).a (numAt a).b)&&decide (0<=sg d (numAt b).a (numAt b).b))))&&(cA d c&&cA d e)
 |_=>false
noncomputable def D8:DSp:=fun ds Z Q=>∃(d:Int) (t:PyData),ds=[.v (.int d),.v t]/\aJ d/\Pt t/\Q (.v (.bool (lF d t))) Z
theorem HS{ds:List D}{Z:Mu}{Q:DK}(h:D8 ds Z Q):ds.length=2:=by obtain⟨_,_,rfl,_⟩:=h;rfl
noncomputable def M8(t:PyData):Prop:=∀a b c,t = .tuple [a,b,c]->zh a/\zh b/\∀ts,c = .tuple ts->ts.length<=1000/\∀x∈ts,Pt x
def sF(d:Int):PyData->Bool
 |.tuple [a,b,.tuple ts]=>cA d a&&(cA d b&&(decide (1<=ts.length)&&(decide (ts.length<=60)&&ts.all (lF d))))
 |_=>false
noncomputable def xf:DSp:=fun ds Z Q=>∃(d:Int) (t:PyData),ds=[.v (.int d),.v t]/\aJ d/\M8 t/\Q (.v (.bool (sF d t))) Z
theorem GD{ds:List D}{Z:Mu}{Q:DK}(h:xf ds Z Q):ds.length=2:=by obtain⟨_,_,rfl,_⟩:=h;rfl
noncomputable def qK:DTS:=
 (aP (cC (jM (dW (dB (zU "tuple" (ai 1)))) (dB (dOp (de true) (dCB cZ (ag (ai 1) av)) (dC (.int 4))))) (bq (dC (.bool false))) bI)
 (aP (bo (ai 1) (eD 4 (aQ (aq 2) (aQ (aq 3) (aQ (aq 4) (aQ (aq 5) eK))))))
 (aP (cC (jM (dW (dB (ay lS (ag (ai 2) av)))) (jM (dW (dB (ay lS (ag (ai 3) av)))) (jM (dB (dOp rLt (ay kJ (ag (ai 0) (ag (ai 2) av))) (dC (.int 0)))) (dB (dOp rLt (ay kJ (ag (ai 0) (ag (ai 3) av))) (dC (.int 0))))))) (bq (dC (.bool false))) bI)
 (bq (nB (ay iD (ag (ai 0) (ag (ai 4) av))) (ay iD (ag (ai 0) (ag (ai 5) av))))))))
noncomputable def nZ:DTS:=
 (aP (cC (jM (dW (dB (zU "tuple" (ai 1)))) (dB (dOp (de true) (dCB cZ (ag (ai 1) av)) (dC (.int 3))))) (bq (dC (.bool false))) bI)
 (aP (bo (ai 1) (eD 3 (aQ (aq 2) (aQ (aq 3) (aQ (aq 4) eK)))))
 (aP (cC (jM (dW (dB (ay iD (ag (ai 0) (ag (ai 2) av))))) (dW (dB (ay iD (ag (ai 0) (ag (ai 3) av)))))) (bq (dC (.bool false))) bI)
 (aP (cC (jM (dW (dB (zU "tuple" (ai 4)))) (jM (dB (dOp rLt (dCB cZ (ag (ai 4) av)) (dC (.int 1)))) (dB (dOp rGt (dCB cZ (ag (ai 4) av)) (dC (.int 60)))))) (bq (dC (.bool false))) bI)
 (bq (dCB qo (ag (oF [none,some 0] (km (ai 4)) (aq 0) gH (ay D8 (ag (ai 1) (ag (ai 0) av)))) av)))))))
section
variable {Z:Mu}{Qd:DK}{ds:List D}
theorem Bk{d:Int}{xs:List PyData}(h:xs.length≠4):lF d (.tuple xs)=false:=by
 match xs,h with
 |[],_=>rfl
 |[_],_=>rfl
 |[_,_],_=>rfl
 |[_,_,_],_=>rfl
 |[_,_,_,_],h=>exact absurd rfl h
 |_::_::_::_::_::_,_=>rfl
theorem Bc{d:Int}{p:PyData}(h:¬ ∃xs,p = .tuple xs):lF d p=false:=by cases p<;>first|rfl|exact absurd ⟨_,rfl⟩ h
theorem yM{p:PyData}(h:¬ ∃xs,p = .tuple xs):isT "tuple" p=false:=by cases p<;>first|rfl|exact absurd ⟨_,rfl⟩ h
theorem Jh{α:Type}{xs:List α}(hl:xs.length=4):∃a b c d,xs=[a,b,c,d]:=by
 match xs,hl with
 |[a,b,c,d],_=>exact⟨a,b,c,d,rfl⟩
theorem CQ{d:Int}{a b c e:PyData}:lF d (.tuple [a,b,c,e])=((isNum a&&(isNum b&&(decide (0<=sg d (numAt a).a (numAt a).b)&&decide (0<=sg d (numAt b).a (numAt b).b))))&&(cA d c&&cA d e)):=rfl
theorem xb{x:N3}:numAt (dN x)=x:=rfl
theorem Hu(h:D8 ds Z Qd):qK ‹Qd› (aO ["","","","","",""] ds) Z:=by
 obtain⟨d,t,rfl,hd,ht4,q⟩:=h
 unfold qK
 walk_at "rn"
 by_cases ht:∃xs,t = .tuple xs
 ·obtain⟨xs,rfl⟩:=ht
  rw[if_neg (by rw[show isT "tuple" (.tuple xs)=true from rfl];decide)]
  walk_at "rn"
  by_cases l4:xs.length=4
  ·obtain⟨a,b,c,e,rfl⟩:=Jh l4
   rw[if_neg (by simp)]
   obtain⟨pa,pb,pc,pe⟩:=ht4 a b c e rfl
   rw[CQ] at q
   walk_at "rn"
   refine⟨trivial,a,rfl,pa.1,?_⟩
   dsimp only
   cases na:isNum a with
   |false=>rw[if_pos ⋯];rw[na] at q;exact q
   |true=>
    rw[if_neg ⋯]
    rw[na,Bool.true_and] at q
    refine⟨b,rfl,pb.1,?_⟩
    dsimp only
    cases nb:isNum b with
    |false=>rw[if_pos ⋯];rw[nb] at q;exact q
    |true=>
     rw[if_neg ⋯]
     rw[nb,Bool.true_and] at q
     obtain⟨x,rfl,ox⟩:=gL na
     obtain⟨y,rfl,oy⟩:=gL nb
     rw[xb,xb] at q
     refine⟨d,x,rfl,hd,(pa.2 x rfl).mono ⋯,?_⟩
     walk_at "rn"
     by_cases cx:0<=sg d x.a x.b
     ·rw[if_neg (by simp;omega)]
      rw[decide_eq_true cx,Bool.true_and] at q
      refine⟨d,y,rfl,hd,(pb.2 y rfl).mono ⋯,?_⟩
      walk_at "rn"
      by_cases cy:0<=sg d y.a y.b
      ·rw[if_neg (by simp;omega)]
       rw[decide_eq_true cy,Bool.true_and] at q
       refine⟨d,c,rfl,hd,pc.1,fun x e=>(pc.2 x e).mono ⋯,?_⟩
       dsimp only
       cases ac:cA d c with
       |false=>rw[if_neg ⋯];rw[ac] at q;exact q
       |true=>
        rw[if_pos rfl]
        rw[ac,Bool.true_and] at q
        exact⟨d,e,rfl,hd,pe.1,fun x e=>(pe.2 x e).mono ⋯,q⟩
      ·rw[if_pos (by simp;omega)]
       rw[decide_eq_false cy] at q
       exact q
     ·rw[if_pos (by simp;omega)]
      rw[decide_eq_false cx] at q
      exact q
  ·rw[if_pos (by simp;omega)]
   rw[Bk l4] at q
   exact q
 ·rw[if_pos (by rw[yM ht];rfl)]
  rw[Bc ht] at q
  exact q
theorem BK{d:Int}{xs:List PyData}(h:xs.length≠3):sF d (.tuple xs)=false:=by
 match xs,h with
 |[],_=>rfl
 |[_],_=>rfl
 |[_,_],_=>rfl
 |[_,_,_],h=>exact absurd rfl h
 |_::_::c::_::_,_=>cases c<;>rfl
theorem BR{d:Int}{p:PyData}(h:¬ ∃xs,p = .tuple xs):sF d p=false:=by cases p<;>first|rfl|exact absurd ⟨_,rfl⟩ h
theorem DV{d:Int}{a b c:PyData}(h:¬ ∃ts,c = .tuple ts):sF d (.tuple [a,b,c])=false:=by cases c<;>first|rfl|exact absurd ⟨_,rfl⟩ h
theorem FN{α:Type}{xs:List α}(hl:xs.length=3):∃a b c,xs=[a,b,c]:=by
 match xs,hl with
 |[a,b,c],_=>exact⟨a,b,c,rfl⟩
theorem p7{f:PyData->Bool}:∀(xs:List PyData),bN (xs.filterMap fun x=>some (.bool (f x)))=some (xs.map f)
 |[]=>rfl
 |x::xs=>by
  rw[filterMap_cons]
  simp only[bN,p7 xs,map_some,map_cons]
theorem GF(h:xf ds Z Qd):nZ ‹Qd› (aO ["","","","",""] ds) Z:=by
 obtain⟨d,t,rfl,hd,ft,q⟩:=h
 unfold nZ
 walk_at "rn"
 by_cases ht:∃xs,t = .tuple xs
 ·obtain⟨xs,rfl⟩:=ht
  rw[if_neg (by rw[show isT "tuple" (.tuple xs)=true from rfl];decide)]
  walk_at "rn"
  by_cases l3:xs.length=3
  ·obtain⟨a,b,c,rfl⟩:=FN l3
   rw[if_neg (by simp)]
   obtain⟨pa,pb,pc⟩:=ft a b c rfl
   walk_at "rn"
   have qf:(∃ts,c = .tuple ts)\/Qd (.v (.bool false)) Z:=by
    by_cases hc:∃ts,c = .tuple ts
    ·exact .inl hc
    ·rw[DV hc] at q;exact .inr q
   have q3:∀ts,c = .tuple ts->Qd (.v (.bool (cA d a&&(cA d b&&(decide (1<=ts.length)&&(decide (ts.length<=60)&&ts.all (lF d))))))) Z:=fun ts e=>by subst e;exact q
   refine⟨trivial,d,a,rfl,hd,pa.1,fun x e=>(pa.2 x e).mono ⋯,?_⟩
   dsimp only
   cases aa:cA d a with
   |false=>
    rw[if_pos ⋯]
    rcases qf with ⟨ts,e⟩|qf
    ·have:=q3 ts e;rw[aa] at this;exact this
    ·exact qf
   |true=>
    rw[if_neg ⋯]
    refine⟨d,b,rfl,hd,pb.1,fun x e=>(pb.2 x e).mono ⋯,?_⟩
    dsimp only
    cases ab:cA d b with
    |false=>
     rw[if_pos ⋯]
     rcases qf with ⟨ts,e⟩|qf
     ·have:=q3 ts e;rw[aa,ab] at this;exact this
     ·exact qf
    |true=>
     rw[if_neg ⋯]
     by_cases hc:∃ts,c = .tuple ts
     ·obtain⟨ts,rfl⟩:=hc
      have q4:=q3 ts rfl
      rw[aa,ab,Bool.true_and,Bool.true_and] at q4
      rw[if_neg (by rw[show isT "tuple" (.tuple ts)=true from rfl];decide)]
      walk_at "rn"
      by_cases c1:1<=ts.length
      ·rw[if_neg (by simp;omega)]
       rw[decide_eq_true c1,Bool.true_and] at q4
       by_cases c2:ts.length<=60
       ·rw[if_neg (by simp;omega)]
        rw[decide_eq_true c2,Bool.true_and] at q4
        obtain⟨tl,gt⟩:=pc ts rfl
        refine⟨tl,fun x=>some (.bool (lF d x)),fun x hx U _=>⟨⟨trivial,trivial⟩,d,x,rfl,hd,gt x hx,rfl,rfl⟩,?_⟩
        rw[p7]
        dsimp only
        have ea:(ts.map (lF d)).all id=ts.all (lF d):=by simp[all_map]
        rw[ea]
        exact q4
       ·rw[if_pos (by simp;omega)]
        rw[decide_eq_false c2] at q4
        exact q4
      ·rw[if_pos (by simp;omega)]
       rw[decide_eq_false c1] at q4
       exact q4
     ·rw[if_pos (by rw[yM hc];rfl)]
      rw[DV hc] at q
      exact q
  ·rw[if_pos (by simp;omega)]
   rw[BK l3] at q
   exact q
 ·rw[if_pos (by rw[yM ht];rfl)]
  rw[BR ht] at q
  exact q
end
structure Tl where
 x:N3
 y:N3
 w:N3
 h:N3
def tlD(t:Tl):PyData:=.tuple [dN t.x,dN t.y,dN t.w,dN t.h]
structure Ui(d:Int)(t:Tl):Prop where
 ox:Ok t.x
 oy:Ok t.y
 ow:Ok t.w
 oh:Ok t.h
 bx:Bd 2100 t.x
 by_:Bd 2100 t.y
 bw:Bd 2100 t.w
 bh:Bd 2100 t.h
def ui(t:Tl):PyData:=.tuple [dN t.x,dN (plus t.x t.w),dN t.y,dN (plus t.y t.h)]
noncomputable def pM:DSp:=fun ds Z Q=>∃(d:Int) (t:Tl),ds=[.v (tlD t)]/\Ui d t/\Q (.v (ui t)) Z
theorem Ab{ds:List D}{Z:Mu}{Q:DK}(h:pM ds Z Q):ds.length=1:=by obtain⟨_,_,rfl,_⟩:=h;rfl
def fW(ms:List N3)(e:N3):Bool:=decide (ms.head? = some aC)&&decide (ms.getLast? = some e)
noncomputable def sP:DSp:=fun ds Z Q=>∃(ms:List N3) (e:N3),ds=[.v (.list (ms.map dN)),.v (dN e)]/\ms≠[]/\Q (.v (.bool (fW ms e))) Z
theorem GN{ds:List D}{Z:Mu}{Q:DK}(h:sP ds Z Q):ds.length=2:=by obtain⟨_,_,rfl,_⟩:=h;rfl
noncomputable def lW:DTS:=
 (aP (bo (ai 0) (eD 4 (aQ (aq 1) (aQ (aq 2) (aQ (aq 3) (aQ (aq 4) eK))))))
 (bq (bO (ag (ai 1) (ag (ay mO (ag (ai 1) (ag (ai 3) av))) (ag (ai 2) (ag (ay mO (ag (ai 2) (ag (ai 4) av))) av)))))))
noncomputable def iL:DTS:=
 (bq (nB (dOp (de false) (dOp aM (ai 0) (dC (.int 0))) (dC (.tuple [.int 0,.int 0,.int 1]))) (dOp (de false) (dOp aM (ai 0) (yx (dC (.int 1)))) (ai 1))))
section
variable {Z:Mu}{Qd:DK}{ds:List D}
theorem CH(h:pM ds Z Qd):lW ‹Qd› (aO ["","","","",""] ds) Z:=by
 obtain⟨d,t,rfl,o,q⟩:=h
 unfold lW tlD
 walk_at "rn"
 refine⟨trivial,t.x,t.w,rfl,o.ox,o.ow,o.bx.mono ⋯,o.bw.mono ⋯,?_⟩
 walk_at "rn"
 refine⟨t.y,t.h,rfl,o.oy,o.oh,o.by_.mono ⋯,o.bh.mono ⋯,?_⟩
 walk_at "rn"
 exact q
theorem sj{ms:List N3}{l:N3}(h:ms.getLast? = some l):atI (ms.map dN) (-1)=some (dN l):=by
 obtain⟨ys,rfl⟩:∃ys,ms=ys++[l]:=by
  have hn:ms≠[]:=fun e=>by rw[e] at h;cases h
  refine⟨ms.dropLast,?_⟩
  rw[List.getLast?_eq_getLast hn] at h
  have e:=List.dropLast_concat_getLast hn
  rw[Option.some.inj h] at e
  exact e.symm
 rw[map_append]
 unfold atI ixN
 have e:(ys.map dN++[dN l]).length=ys.length+1:=by simp
 rw[show List.map dN [l]=[dN l] from rfl,e]
 split
 ·omega
 ·rw[if_pos ∅]
  have z:(-1+((ys.length+1:Nat):Int)).toNat=ys.length:=by omega
  simp only[bind_some]
  rw[z]
  simp
theorem wx(h:sP ds Z Qd):iL ‹Qd› (aO ["",""] ds) Z:=by
 obtain⟨ms,e,rfl,hn,q⟩:=h
 unfold iL
 obtain⟨l,hl⟩:∃l,ms.getLast? = some l:=⟨ms.getLast hn,List.getLast?_eq_getLast hn⟩
 obtain⟨f,r,rfl⟩:∃f r,ms=f::r:=by
  cases ms with
  |nil=>exact absurd rfl hn
  |cons f r=>exact⟨f,r,rfl⟩
 walk_at "rn"
 have er:fW (f::r) e=(decide (f=⟨0,0,1⟩)&&decide (l=e)):=by
  unfold fW
  rw[hl]
  congr 1
  ·rw[List.head?_cons]
   simp only[Option.some.injEq]
   rfl
  ·simp only[Option.some.injEq]
 rw[er] at q
 by_cases c:f=⟨0,0,1⟩
 ·rw[if_pos (decide_eq_true c),<- show (f::r).map dN=dN f::r.map dN from rfl,sj hl]
  dsimp only
  rw[Bj,false_xor]
  rw[decide_eq_true c,Bool.true_and] at q
  exact q
 ·rw[if_neg (by simpa using c)]
  rw[decide_eq_false c] at q
  exact q
end
section
variable {Z:Mu}{d:D}{Q:DK}
theorem Ed{a b c f g h k l m n n11}{o:Rho}:ai 11 (a::b::c::f::g::h::k::l::m::n::n11::some d::o) Z Q=Q d Z:=propext Iff.rfl
theorem CI{a b c f g h k l m n n11 n12}{o:Rho}:ai 12 (a::b::c::f::g::h::k::l::m::n::n11::n12::some d::o) Z Q=Q d Z:=propext Iff.rfl
theorem Ct{a b c f g h k l m n n11 n12 n13}{o:Rho}:ai 13 (a::b::c::f::g::h::k::l::m::n::n11::n12::n13::some d::o) Z Q=Q d Z:=propext Iff.rfl
theorem Ej{to te:DTE}{ρ:Rho}{Z:Mu}{Q:DK}:IV to te ρ Z Q=to ρ Z fun x ad=>match x with
 |.m l=>te ρ ad fun y am=>(match y,am l with
  |.v (.int i),some xs=>(0<=i/\i<1000)/\∃d,xs[i.toNat]? = some d/\Q (.v d) (az am l (xs.eraseIdx i.toNat))
  |_,_=>False)
 |_=>False:=propext Iff.rfl
end
def Cj(x:N3):List Int:=[x.a,x.b,x.c]
theorem Mc{x y:N3}(h:Cj x=Cj y):x=y:=by
 cases x;cases y
 unfold Cj at h
 simp only[List.cons.injEq,and_true] at h
 obtain⟨rfl,rfl,rfl⟩:=h
 rfl
theorem Dt{d:Int}{x:N3}(hd:aJ d):dif d x x≠1:=fun h=>by
 have:=dif_neg (x:=x) (y:=x) hd
 omega
theorem lT{d:Int}{P:List N3}(hd:aJ d)(h:dP d P):P.Nodup:=by
 unfold List.Nodup
 refine List.Pairwise.imp (fun {a b} z (e:a=b)=>?_) h
 subst e
 exact Dt hd z
structure tT(d:Int)(P fs:List N3):Prop where
 up:dP d P
 mem:∀x,x∈P↔x∈fs
def ents(P:List N3):List (List Int×PyData):=P.zipIdx.map fun x=>(Cj x.1,.int (x.2:Nat))
theorem Kp{P:List N3}{x:N3}:ents (P++[x])=ents P++[(Cj x,.int (P.length:Nat))]:=by
 unfold ents
 rw[List.zipIdx_append,map_append]
 simp
def book(P:List N3):List (List Int×PyData):=putAll (ents P)
theorem Ks{P:List N3}{x:N3}:book (P++[x])=ja (book P) (Cj x) (.int (P.length:Nat)):=by unfold book;rw[Kp,putAll_snoc]
theorem snoc_ind{α:Type}{p:List α->Prop}(h0:p [])(h1:∀l x,p l->p (l++[x]))(l:List α):p l:=by
 rw[<- List.reverse_reverse l]
 generalize l.reverse=r
 induction r with
 |nil=>exact h0
 |cons a r ih=>rw[reverse_cons];exact h1 _ _ ih
theorem pS{x:N3}(P:List N3):P.Nodup->x∈P->cg (book P) (Cj x)=some (.int (P.idxOf x:Nat)):=by
 refine snoc_ind (p:=fun P=>P.Nodup->x∈P->cg (book P) (Cj x)=some (.int (P.idxOf x:Nat))) (fun _ h=>absurd h not_mem_nil) (fun P y ih hn hx=>?_) P
 rw[Ks,Kx]
 have hn':=List.nodup_append.mp hn
 rw[List.idxOf_append]
 by_cases e:x=y
 ·subst e
  have hxp:x ∉ P:=fun m=>hn'.2.2 x m x mem_cons_self rfl
  rw[if_pos rfl,if_neg hxp,List.idxOf_cons_self,Nat.zero_add]
 ·have hxp:x∈P:=by
   rcases List.mem_append.mp hx with m|m
   ·exact m
   ·exact absurd (List.mem_singleton.mp m) e
  rw[if_neg (fun z=>e (Mc z)),if_pos hxp,ih hn'.1 hxp]
def JF:PyData->Option (List Int×PyData)
 |.tuple [i,.tuple [.int a,.int b,.int c]]=>some ([a,b,c],i)
 |_=>none
theorem Bq(P:List N3):(j1 0 (P.map dN)).filterMap JF=ents P:=by
 unfold ents
 have h:∀j,(j1 j (P.map dN)).filterMap JF=(P.zipIdx j).map fun x=>(Cj x.1,PyData.int (x.2:Nat)):=by
  induction P with
  |nil=>intro j;rfl
  |cons x P ih=>
   intro j
   rw[map_cons,List.zipIdx_cons,map_cons,<- ih]
   rfl
 exact h 0
theorem GA{P:List N3}{x:PyData}(h:x∈j1 0 (P.map dN)):∃(i:Nat) (m:N3),x = .tuple [.int (i:Nat),dN m]/\m∈P:=by
 have k:∀j,x∈j1 j (P.map dN)->∃(i:Nat) (m:N3),x = .tuple [.int (i:Nat),dN m]/\m∈P:=by
  clear h
  induction P with
  |nil=>intro j h;exact absurd h not_mem_nil
  |cons y P ih=>
   intro j h
   rw[map_cons] at h
   rcases List.mem_cons.mp h with rfl|h
   ·exact⟨j,y,rfl,mem_cons_self⟩
   ·obtain⟨i,m,e,hm⟩:=ih _ h
    exact⟨i,m,e,mem_cons_of_mem _ hm⟩
 exact k 0 h
theorem pE{xs:List PyData}:(j1 0 xs).length=xs.length:=by
 have h:∀j,(j1 j xs).length=xs.length:=by
  induction xs with
  |nil=>intro j;rfl
  |cons y P ih=>intro j;show (j1 (j+1) P).length+1=_;rw[ih];rfl
 exact h 0
def fF(P Q:List N3)(t:Tl):GR.Bx:=⟨P.idxOf t.x,P.idxOf (plus t.x t.w),Q.idxOf t.y,Q.idxOf (plus t.y t.h)⟩
structure OnM(P Q:List N3)(t:Tl):Prop where
 l:t.x∈P
 r:plus t.x t.w∈P
 b:t.y∈Q
 t:plus t.y t.h∈Q
def gb(x:Nat×Nat):List Int:=[(x.1:Nat),(x.2:Nat)]
theorem FP{x y:Nat×Nat}(h:gb x=gb y):x=y:=by
 unfold gb at h
 simp only[List.cons.injEq,and_true,Int.natCast_inj] at h
 exact Prod.ext h.1 h.2
theorem y8{x:Nat×Nat}{l:List (Nat×Nat)}:gb x∈l.map gb↔x∈l:=by
 rw[mem_map]
 constructor
 ·rintro ⟨y,h,e⟩;exact FP e▸h
 ·intro h;exact⟨x,h,rfl⟩
theorem BC{α β:Type}{f:α->List β}{l:List α}{i:Nat}{x:α}(h:l[i]? = some x):(l.take (i+1)).flatMap f=(l.take i).flatMap f++f x:=by
 rw[take_succ,h,List.flatMap_append]
 simp
theorem Fn{α β:Type}{f:α->List β}{l:List α}{i:Nat}:(l.take i).flatMap f <+: l.flatMap f:=by
 conv=>rhs;rw[<- List.take_append_drop i l,List.flatMap_append]
 exact List.prefix_append _ _
theorem Mz{a b i:Nat}(h:i<b-a):(GR.run a b)[i]? = some (a+i):=by
 unfold GR.run
 rw[getElem?_map,List.getElem?_range h]
 rfl
local macro_rules|`(tactic| walk_at "rb")=>mkW "↓Ik C1 Mk Ha ↓P6 ↓l_t ↓l_f l_T l_F Qf Q6 Df decide_true decide_false Bool.xor_true true_xor ↓yF ↓zk ↓zr ↓xu ↓xY ↓yo ↓x6 ↓yK ↓x9 ↓zR ↓sJ ↓q_c ↓RD ↓q_B ↓Nn ↓ET ↓Fh ↓IF ↓LD ↓xl ↓Ie ↓MG ↓yc ↓P1 ↓GG ↓ze ↓GH ↓GP ↓yd ↓Fv ↓Fj ↓EO ↓E6 ↓EU ↓Gg ↓y6 ↓x8 ↓yI ↓uK ↓vd ↓ur ↓yw ↓vy ↓rQ ↓FV ↓Fm ↓GC ↓L1 ↓oj ↓yV ↓GJ ↓PK ↓zA ↓x5 ↓zE ↓zo ↓E8 ↓LW ↓yL ↓tE ↓G5 ↓Et ↓EH ↓rV ↓yW ↓sS ↓xp ↓yh ↓M7 ↓EK ↓xn ↓Gi ↓FU ↓zG ↓MI ↓sM ↓HH ↓Gz ↓G9 ↓xx ↓nS ↓rR ↓nX ↓oV ↓nR ↓Fu Ko zM y9 Gp EA Fy bind_none bind_some join_some List.getElem?_cons_zero List.getElem?_cons_succ aO JJ Dp Dh Dx Bj oA vG vX xD Bv map_cons map_nil List.append List.replicate length_cons length_nil Nat.reduceAdd Nat.reduceSub nil_append cons_append set_cons_zero List.set_cons_succ map_some Bool.not_true Bool.not_false false_eq_true Bool.true_eq_false xor_false false_xor ↓Ed ↓CI ↓Ct ↓Ej ↓yg ↓xA ↓IE ↓MT ↓Hw ↓yG"
noncomputable def MP(P Q:List N3)(ts:List Tl):Prop:=P.Nodup/\Q.Nodup/\P≠[]/\Q≠[]/\P.length<=900/\Q.length<=900/\ts.length<=900/\(∀t∈ts,OnM P Q t)/\(P.length-1)*(Q.length-1)<=9000
noncomputable def uO:DSp:=fun ds Z K=>∃(P Q:List N3) (ts:List Tl),ds=[.v (.list (ts.map ui)),.v (.list (P.map dN)),.v (.list (Q.map dN))]/\MP P Q ts /\
 ∀U,eS Z U->K (.v (.bool (GR.uC (ts.map (fF P Q)) (P.length-1) (Q.length-1)))) U
noncomputable def xC:DSp:=fun ds Z K=>∃(P Q:List N3) (ts:List Tl),ds=[.v (.list (ts.map ui)),.v (.list (P.map dN)),.v (.list (Q.map dN))]/\MP P Q ts /\
 K (.v (.bool (GR.uC (ts.map (fF P Q)) (P.length-1) (Q.length-1)))) Z
theorem AS{ds:List D}{Z:Mu}{Q:DK}(h:uO ds Z Q):ds.length=3:=by obtain⟨_,_,_,rfl,_⟩:=h;rfl
theorem we{ds:List D}{Z:Mu}{Qd:DK}(h:xC ds Z Qd):uO ds Z (frz Z Qd):=by
 obtain⟨P,Q,ts,rfl,pre,q⟩:=h
 exact⟨P,Q,ts,rfl,pre,fun U sb=>⟨sb,q⟩⟩
noncomputable def pU:DSp:=fun ds Z Q=>∃(d:Int) (fs:List N3),ds=[.v (.int d),.v (.list (fs.map dN))]/\aJ d/\(∀m∈fs,Ok m/\Bd 4400 m)/\fs.length<=1000 /\
 ∀ms,tT d ms fs->Q (.v (.list (ms.map dN))) Z
theorem uF{ds:List D}{Z:Mu}{Qd:DK}(h:pU ds Z Qd):zp ds Z (frz Z Qd):=by
 obtain⟨d,fs,rfl,hd,g,hl,q⟩:=h
 exact⟨d,fs,rfl,hd,g,hl,fun p ms U hp sb hm hr hms=>⟨⟨hp,sb⟩,_,hm,q ms ⟨hr,hms⟩⟩⟩
noncomputable def jK:DTS:=
 (aP (bo (tY [none,none] (xU (ag (ai 1) av)) (eD 2 (aQ (aq 0) (aQ (aq 1) eK))) gH (ai 1) (ai 0)) (aq 3))
 (aP (bo (tY [none,none] (xU (ag (ai 2) av)) (eD 2 (aQ (aq 0) (aQ (aq 1) eK))) gH (ai 1) (ai 0)) (aq 4))
 (aP (bo DZ (aq 5))
 (aP (qH (iV (ai 0)) (eD 4 (aQ (aq 6) (aQ (aq 7) (aQ (aq 8) (aQ (aq 9) eK))))) (qH (yR (ag (Kt (ai 3) (ai 6)) (ag (Kt (ai 3) (ai 7)) av))) (aq 10) (qH (yR (ag (Kt (ai 4) (ai 8)) (ag (Kt (ai 4) (ai 9)) av))) (aq 11) (aP (cC (dB (dOp (IA false) (bO (ag (ai 10) (ag (ai 11) av))) (ai 5))) (bq (dC (.bool false))) bI)
 (nC (L0 (ai 5) (bO (ag (ai 10) (ag (ai 11) av)))))))))
 (bq (dOp (de false) (dCB MN (ag (ai 5) av)) (bR (lH (dCB cZ (ag (ai 1) av)) (dC (.int 1))) (lH (dCB cZ (ag (ai 2) av)) (dC (.int 1))))))))))
section
variable {Z:Mu}{Qd:DK}{ds:List D}
structure BN(Z:Mu)(P Q:List N3)(pc pr ps:Addr)(done:List (Nat×Nat))(U:Mu):Prop where
 sub:eS Z U
 nc:Z.b pc=none
 nr:Z.b pr=none
 ns:Z.b ps=none
 c:U.b pc=some (.dict (book P))
 r:U.b pr=some (.dict (book Q))
 s:U.b ps=some (.set (done.map gb))
 nodup:done.Nodup
 sc:pc≠ps
 sr:pr≠ps
theorem BN.put{Z U:Mu}{P Q:List N3}{pc pr ps:Addr}{done:List (Nat×Nat)}{x:Nat×Nat}(h:BN Z P Q pc pr ps done U)(hx:x ∉ done):BN Z P Q pc pr ps (done++[x]) (br U ps (.set (done.map gb++[gb x]))) where
 sub:=h.sub.box h.ns
 nc:=h.nc
 nr:=h.nr
 ns:=h.ns
 c:=by rw[bQ h.sc];exact h.c
 r:=by rw[bQ h.sr];exact h.r
 s:=by rw[bA,map_append];rfl
 nodup:=List.nodup_append.mpr ⟨h.nodup,by simp,fun a ha b hb e=>hx (by rw[List.mem_singleton.mp hb] at e;exact e▸ha)⟩
 sc:=h.sc
 sr:=h.sr
theorem NW{P Q:List N3}{ts:List Tl}(on:∀t∈ts,OnM P Q t):∀q∈ts.map (fF P Q),q.r<=P.length-1/\q.t<=Q.length-1:=fun q hq=>by
 obtain⟨t,ht,rfl⟩:=List.mem_map.mp hq
 have a:=GR.dI (on t ht).r
 have b:=GR.dI (on t ht).t
 show P.idxOf _<=_/\Q.idxOf _<=_
 omega
theorem sub_len{qs:List GR.Bx}{C R:Nat}(hin:∀q∈qs,q.r<=C/\q.t<=R){done:List (Nat×Nat)}(hn:done.Nodup)(hp:∀x∈done,x∈GR.cells qs):done.length<=C*R:=by
 rw[<- GR.rA]
 refine GR.pig hn fun x hx=>?_
 obtain⟨q,hq,h⟩:=GR.jh.mp (hp x hx)
 obtain⟨h1,h2⟩:=hin q hq
 exact GR.bM.mpr ⟨zero_le _,lt_of_lt_of_le h.2.1 h1,zero_le _,lt_of_lt_of_le h.2.2.2 h2⟩
theorem GL{a b:Nat}:(GR.run a b).take (b-a)=GR.run a b:=List.take_of_length_le (by rw[GR.pN];exact le_refl _)
theorem zf(h:uO ds Z Qd):jK ‹Qd› (aO ["","","","","","","","","","","",""] ds) Z:=by
 obtain⟨P,Q,ts,rfl,⟨np,nq,p0,q0,lp,lq,lt,on,few⟩,q⟩:=h
 unfold jK
 walk_at "rb"
 rw[Jt]
 walk_at "rb"
 refine⟨by rw[pE,length_map];omega,JF,?_,?_⟩
 ·intro x hx U _
  obtain⟨i,m,rfl,_⟩:=GA hx
  walk_at "rb"
  refine⟨trivial,trivial,?_⟩
  rw[if_pos trivial]
  exact⟨trivial,_,_,rfl,rfl,rfl⟩
 rw[Bq]
 intro pc hpc
 rw[Jt]
 walk_at "rb"
 refine⟨by rw[pE,length_map];omega,JF,?_,?_⟩
 ·intro x hx U _
  obtain⟨i,m,rfl,_⟩:=GA hx
  walk_at "rb"
  refine⟨trivial,trivial,?_⟩
  rw[if_pos trivial]
  exact⟨trivial,_,_,rfl,rfl,rfl⟩
 rw[Bq]
 intro pr hpr ps hps
 have rc:pr≠pc:=fun e=>by rw[e,bA] at hpr;cases hpr
 have sr:ps≠pr:=fun e=>by rw[e,bA] at hps;cases hps
 have sc:ps≠pc:=fun e=>by rw[e,bQ rc.symm,bA] at hps;cases hps
 have hpr':Z.b pr=none:=by rw[bQ rc] at hpr;exact hpr
 have hps':Z.b ps=none:=by rw[bQ sr,bQ sc] at hps;exact hps
 rw[lI]
 walk_at "rb"
 have fits:=NW on
 refine⟨fun i ρ U=>∃r6 r7 r8 r9 r10 r11,ρ=[some (.v (.list (ts.map ui))),some (.v (.list (P.map dN))),some (.v (.list (Q.map dN))),some (.b pc),some (.b pr),some (.b ps),r6,r7,r8,r9,r10,r11]/\BN Z P Q pc pr ps (GR.cells ((ts.map (fF P Q)).take i)) U,
  ⟨_,_,_,_,_,_,rfl,⟨((eS.refl.box hpc).box hpr').box hps',hpc,hpr',hps',by rw[bQ sc.symm,bQ rc.symm,bA];rfl,by rw[bQ sr.symm,bA];rfl,by rw[bA];rfl,List.nodup_nil,sc.symm,sr.symm⟩⟩,?_,?_⟩
 ·rintro i x ρ U hx ⟨r6,r7,r8,r9,r10,r11,rfl,st⟩
  obtain⟨t,et,rfl⟩:∃t,ts[i]? = some t/\x=ui t:=by
   rw[getElem?_map] at hx
   cases e:ts[i]? with
   |none=>rw[e] at hx;cases hx
   |some t=>rw[e] at hx;exact⟨t,rfl,(Option.some.inj hx).symm⟩
  have o:=on t (mem_of_getElem? et)
  have eb:(ts.map (fF P Q))[i]? = some (fF P Q t):=by rw[getElem?_map,et];rfl
  have ea:GR.cells ((ts.map (fF P Q)).take (i+1))=GR.cells ((ts.map (fF P Q)).take i)++GR.cellsOf (fF P Q t):=BC eb
  have pa:GR.cells ((ts.map (fF P Q)).take (i+1)) <+: GR.cells (ts.map (fF P Q)):=Fn
  rw[show ui t = .tuple [dN t.x,dN (plus t.x t.w),dN t.y,dN (plus t.y t.h)] from rfl]
  walk_at "rb"
  refine⟨trivial,?_⟩
  rw[lI]
  walk_at "rb"
  refine⟨pc,_,_,_,rfl,rfl,st.c,pS P np o.l,pc,_,_,_,rfl,rfl,st.c,pS P np o.r,?_⟩
  have e1:=GR.dI o.l
  have e2:=GR.dI o.r
  have e3:=GR.dI o.b
  have e4:=GR.dI o.t
  walk_at "rb"
  refine⟨∅,fun c ρ U=>∃r10 r11,ρ=[some (.v (.list (ts.map ui))),some (.v (.list (P.map dN))),some (.v (.list (Q.map dN))),some (.b pc),some (.b pr),some (.b ps),some (.v (dN t.x)),some (.v (dN (plus t.x t.w))),some (.v (dN t.y)),some (.v (dN (plus t.y t.h))),r10,r11] /\
   BN Z P Q pc pr ps (GR.cells ((ts.map (fF P Q)).take i)++((GR.run (P.idxOf t.x) (P.idxOf (plus t.x t.w))).take c).flatMap fun a=>(GR.run (Q.idxOf t.y) (Q.idxOf (plus t.y t.h))).map fun b=>(a,b)) U,⟨_,_,rfl,by rw[List.take_zero,List.flatMap_nil,append_nil];exact st⟩,?_,?_⟩
  ·rintro c x ρ am hx2 ⟨s10,s11,rfl,st2⟩
   obtain⟨rfl,hc⟩:=wb hx2
   have ec:(GR.run (P.idxOf t.x) (P.idxOf (plus t.x t.w)))[c]? = some (P.idxOf t.x+c):=Mz ∅
   have eb2:GR.cells ((ts.map (fF P Q)).take i)++((GR.run (P.idxOf t.x) (P.idxOf (plus t.x t.w))).take (c+1)).flatMap (fun a=>(GR.run (Q.idxOf t.y) (Q.idxOf (plus t.y t.h))).map fun b=>(a,b))=(GR.cells ((ts.map (fF P Q)).take i)++((GR.run (P.idxOf t.x) (P.idxOf (plus t.x t.w))).take c).flatMap fun a=>(GR.run (Q.idxOf t.y) (Q.idxOf (plus t.y t.h))).map fun b=>(a,b))++(GR.run (Q.idxOf t.y) (Q.idxOf (plus t.y t.h))).map fun b=>(P.idxOf t.x+c,b):=by
    rw[BC ec,append_assoc]
   have pb:GR.cells ((ts.map (fF P Q)).take i)++((GR.run (P.idxOf t.x) (P.idxOf (plus t.x t.w))).take (c+1)).flatMap (fun a=>(GR.run (Q.idxOf t.y) (Q.idxOf (plus t.y t.h))).map fun b=>(a,b)) <+: GR.cells ((ts.map (fF P Q)).take (i+1)):=by
    rw[ea]
    exact (List.prefix_append_right_inj _).mpr Fn
   generalize GR.cells ((ts.map (fF P Q)).take i)++((GR.run (P.idxOf t.x) (P.idxOf (plus t.x t.w))).take c).flatMap (fun a=>(GR.run (Q.idxOf t.y) (Q.idxOf (plus t.y t.h))).map fun b=>(a,b))=pre at st2 eb2
   walk_at "rb"
   rw[lI]
   walk_at "rb"
   refine⟨pr,_,_,_,rfl,rfl,st2.r,pS Q nq o.b,pr,_,_,_,rfl,rfl,st2.r,pS Q nq o.t,?_⟩
   walk_at "rb"
   refine⟨∅,fun k ρ U=>∃r11,ρ=[some (.v (.list (ts.map ui))),some (.v (.list (P.map dN))),some (.v (.list (Q.map dN))),some (.b pc),some (.b pr),some (.b ps),some (.v (dN t.x)),some (.v (dN (plus t.x t.w))),some (.v (dN t.y)),some (.v (dN (plus t.y t.h))),some (.v (.int ((P.idxOf t.x:Nat)+(c:Nat)))),r11] /\
    BN Z P Q pc pr ps (pre++((GR.run (Q.idxOf t.y) (Q.idxOf (plus t.y t.h))).take k).map fun b=>(P.idxOf t.x+c,b)) U,⟨_,rfl,by rw[List.take_zero,map_nil,append_nil];exact st2⟩,?_,?_⟩
   ·rintro k x ρ be hx3 ⟨s11,rfl,st3⟩
    obtain⟨rfl,hk⟩:=wb hx3
    have ek:(GR.run (Q.idxOf t.y) (Q.idxOf (plus t.y t.h)))[k]? = some (Q.idxOf t.y+k):=Mz ∅
    have es:pre++((GR.run (Q.idxOf t.y) (Q.idxOf (plus t.y t.h))).take (k+1)).map (fun b=>(P.idxOf t.x+c,b))=(pre++((GR.run (Q.idxOf t.y) (Q.idxOf (plus t.y t.h))).take k).map fun b=>(P.idxOf t.x+c,b))++[(P.idxOf t.x+c,Q.idxOf t.y+k)]:=by
     rw[take_succ,ek,map_append,append_assoc]
     rfl
    have pk:pre++((GR.run (Q.idxOf t.y) (Q.idxOf (plus t.y t.h))).take (k+1)).map (fun b=>(P.idxOf t.x+c,b)) <+: GR.cells (ts.map (fF P Q)):=by
     refine List.IsPrefix.trans ?_ (pb.trans pa)
     rw[eb2]
     exact (List.prefix_append_right_inj _).mpr (by rw[List.map_take];exact List.take_prefix _ _)
    have pk0:pre++((GR.run (Q.idxOf t.y) (Q.idxOf (plus t.y t.h))).take k).map (fun b=>(P.idxOf t.x+c,b)) <+: GR.cells (ts.map (fF P Q)):=List.IsPrefix.trans (by rw[es];exact List.prefix_append _ _) pk
    rw[es] at pk
    generalize pre++((GR.run (Q.idxOf t.y) (Q.idxOf (plus t.y t.h))).take k).map (fun b=>(P.idxOf t.x+c,b))=done at st3 es pk pk0
    have le:done.length<=9000:=le_trans (sub_len fits st3.nodup fun x hx=>pk0.subset hx) few
    have kc:oi (.v (.tuple [.int ((P.idxOf t.x:Nat)+(c:Nat)),.int ((Q.idxOf t.y:Nat)+(k:Nat))]))=some (gb (P.idxOf t.x+c,Q.idxOf t.y+k)):=by
     show some _=some _
     unfold gb
     simp only[Int.natCast_add]
    walk_at "rb"
    refine⟨_,ps,_,kc,rfl,st3.s,by show (done.map gb).length<=9800;rw[length_map];omega,fun z=>absurd z ⋯,?_⟩
    walk_at "rb"
    by_cases cc:(P.idxOf t.x+c,Q.idxOf t.y+k)∈done
    ·rw[fk (by show decide _=true;exact decide_eq_true (y8.mpr cc))]
     walk_at "rb"
     have e:GR.uC (ts.map (fF P Q)) (P.length-1) (Q.length-1)=false:=by
      unfold GR.uC
      rw[decide_eq_false,Bool.false_and]
      intro hn
      have:=List.nodup_append.mp (hn.sublist pk.sublist)
      exact this.2.2 _ cc _ mem_cons_self rfl
     rw[e] at q
     exact q _ st3.sub
    ·rw[dJ (by show ¬ decide _=true;rw[decide_eq_true_iff,y8];exact cc)]
     walk_at "rb"
     refine⟨ps,_,rfl,st3.s,_,_,kc,st3.s,by rw[length_map];omega,fun z=>cc (y8.mp z),?_⟩
     exact⟨_,rfl,by rw[es];exact st3.put cc⟩
   ·rintro ρ be ⟨s11,rfl,st3⟩
    rw[o7,show ((Q.idxOf (plus t.y t.h):Nat)-(Q.idxOf t.y:Nat):Int).toNat=Q.idxOf (plus t.y t.h)-Q.idxOf t.y by omega,GL] at st3
    exact⟨_,_,rfl,by rw[eb2];exact st3⟩
  ·rintro ρ be ⟨s10,s11,rfl,st3⟩
   rw[o7,show ((P.idxOf (plus t.x t.w):Nat)-(P.idxOf t.x:Nat):Int).toNat=P.idxOf (plus t.x t.w)-P.idxOf t.x by omega,GL] at st3
   exact⟨_,_,_,_,_,_,rfl,by rw[ea];exact st3⟩
 ·rintro ρ U ⟨r6,r7,r8,r9,r10,r11,rfl,st⟩
  rw[List.take_of_length_le (by rw[length_map,length_map];exact le_refl _)] at st
  have le:(GR.cells (ts.map (fF P Q))).length<=9000:=le_trans (sub_len fits st.nodup fun x hx=>hx) few
  walk_at "rb"
  refine⟨ps,_,rfl,st.s,by show (List.map gb _).length<=9800;rw[length_map];omega,?_⟩
  walk_at "rb"
  have:=q U st.sub
  have l1:0<P.length:=List.length_pos_iff.mpr p0
  have l2:0<Q.length:=List.length_pos_iff.mpr q0
  rw[length_map,length_map,show ((P.length:Nat):Int)-1=((P.length-1:Nat):Int) by omega,show ((Q.length:Nat):Int)-1=((Q.length-1:Nat):Int) by omega]
  refine⟨fH (Sz.of (n:=10) ∅) (Sz.of (n:=10) ∅) ⋯,?_⟩
  have e:decide (((Ew (Box.set (List.map gb (GR.cells (List.map (fF P Q) ts)))):Nat):Int)=((P.length-1:Nat):Int)*((Q.length-1:Nat):Int))=GR.uC (List.map (fF P Q) ts) (P.length-1) (Q.length-1):=by
   unfold GR.uC
   rw[decide_eq_true st.nodup,Bool.true_and]
   refine decide_eq_decide.mpr ?_
   show ((List.map gb (GR.cells (List.map (fF P Q) ts))).length:Int)=_↔_
   rw[length_map,<- Int.natCast_mul,Int.natCast_inj]
  rw[e]
  exact this
end
structure qj(d:Int)(t:Tl):Prop where
 ox:Ok t.x
 oy:Ok t.y
 ow:Ok t.w
 oh:Ok t.h
 sx:0<=sg d t.x.a t.x.b
 sy:0<=sg d t.y.a t.y.b
 sw:sg d t.w.a t.w.b=1
 sh:sg d t.h.a t.h.b=1
structure BB(d:Int)(w h:N3)(ts:List Tl):Prop where
 ow:Ok w
 oh:Ok h
 sw:sg d w.a w.b=1
 sh:sg d h.a h.b=1
 some:1<=ts.length
 few:ts.length<=60
 tile:∀t∈ts,qj d t
def ia(w h:N3)(ts:List Tl):PyData:=.tuple [dN w,dN h,.tuple (ts.map tlD)]
structure Bd4(n:Nat)(t:Tl):Prop where
 x:Bd n t.x
 y:Bd n t.y
 w:Bd n t.w
 h:Bd n t.h
noncomputable def Oe(m:Nat)(ts:List Tl):Prop:=∃X Y:List N3,(∀t∈ts,OnM X Y t)/\X.length<=200/\Y.length<=200/\X.length*Y.length<=m
def lK(ts:List Tl):List N3:=ts.flatMap fun t=>[t.x,plus t.x t.w]
def lD(ts:List Tl):List N3:=ts.flatMap fun t=>[t.y,plus t.y t.h]
noncomputable def NK(t:PyData):Prop:=M8 t/\∀w h ts,t=ia w h ts->Bd 2100 w/\Bd 2100 h/\(∀t∈ts,Bd4 2100 t)/\Oe 8000 ts
noncomputable def Js(d:Int)(t:PyData)(b:Bool):Prop:=(sF d t=false->b=false)/\∀w h ts,t=ia w h ts->BB d w h ts ->
 ∃P Q,tT d P (lK ts)/\tT d Q (lD ts)/\b=(fW P w&&(fW Q h&&GR.uC (ts.map (fF P Q)) (P.length-1) (Q.length-1)))
noncomputable def rZ:DSp:=fun ds Z K=>∃(d:Int) (t:PyData),ds=[.v (.int d),.v t]/\aJ d/\NK t/\∀b,Js d t b->K (.v (.bool b)) Z
theorem CK{ds:List D}{Z:Mu}{Q:DK}(h:rZ ds Z Q):ds.length=2:=by obtain⟨_,_,rfl,_⟩:=h;rfl
noncomputable def mE:DTS:=
 (aP (cC (dW (dB (ay xf (ag (ai 0) (ag (ai 1) av))))) (bq (dC (.bool false))) bI)
 (aP (bo (ai 1) (eD 3 (aQ (aq 2) (aQ (aq 3) (aQ (aq 4) eK)))))
 (aP (bo (ju [none] (km (ai 4)) (aq 0) gH (ay pM (ag (ai 0) av))) (aq 5))
 (aP (bo (ay pU (ag (ai 0) (ag (BY [none,none,none,none,none] (iV (ai 5)) (eD 4 (aQ (aq 0) (aQ (aq 1) (aQ (aq 2) (aQ (aq 3) eK))))) (km (bO (ag (ai 0) (ag (ai 1) av)))) (aq 4) (ai 4)) av))) (aq 6))
 (aP (bo (ay pU (ag (ai 0) (ag (BY [none,none,none,none,none] (iV (ai 5)) (eD 4 (aQ (aq 0) (aQ (aq 1) (aQ (aq 2) (aQ (aq 3) eK))))) (km (bO (ag (ai 2) (ag (ai 3) av)))) (aq 4) (ai 4)) av))) (aq 7))
 (bq (nB (ay sP (ag (ai 6) (ag (ai 2) av))) (nB (ay sP (ag (ai 7) (ag (ai 3) av))) (ay xC (ag (ai 5) (ag (ai 6) (ag (ai 7) av))))))))))))
section
variable {Z:Mu}{Qd:DK}{ds:List D}
theorem rE{d:Int}{t:PyData}(h:cA d t=true):∃x:N3,t=dN x/\Ok x/\sg d x.a x.b=1:=by
 cases n:isNum t with
 |false=>rw[zD n] at h;cases h
 |true=>
  obtain⟨x,rfl,ox⟩:=gL n
  rw[jz ox] at h
  exact⟨x,rfl,ox,of_decide_eq_true h⟩
theorem NH{d:Int}{t:PyData}(h:lF d t=true):∃tl,t=tlD tl/\qj d tl:=by
 by_cases ht:∃xs,t = .tuple xs
 ·obtain⟨xs,rfl⟩:=ht
  by_cases l:xs.length=4
  ·obtain⟨a,b,c,e,rfl⟩:=Jh l
   rw[CQ] at h
   simp only[and_eq_true,decide_eq_true_iff] at h
   obtain⟨⟨na,nb,sa,sb⟩,hc,he⟩:=h
   obtain⟨x,rfl,ox⟩:=gL na
   obtain⟨y,rfl,oy⟩:=gL nb
   obtain⟨w,rfl,ow,sw⟩:=rE hc
   obtain⟨k,rfl,ok,sk⟩:=rE he
   exact⟨⟨x,y,w,k⟩,rfl,ox,oy,ow,ok,sa,sb,sw,sk⟩
  ·rw[Bk l] at h;cases h
 ·rw[Bc ht] at h;cases h
theorem M9{d:Int}{ts:List PyData}(h:ts.all (lF d)=true):∃us:List Tl,ts=us.map tlD/\∀t∈us,qj d t:=by
 induction ts with
 |nil=>exact⟨[],rfl,fun _ z=>absurd z not_mem_nil⟩
 |cons t ts ih=>
  rw[List.all_cons,and_eq_true] at h
  obtain⟨us,rfl,g⟩:=ih h.2
  obtain⟨tl,rfl,v⟩:=NH h.1
  exact⟨tl::us,rfl,fun x hx=>by
   rcases List.mem_cons.mp hx with rfl|hx
   ·exact v
   ·exact g x hx⟩
theorem NV{d:Int}{t:PyData}(h:sF d t=true):∃w k ts,t=ia w k ts/\BB d w k ts:=by
 by_cases ht:∃xs,t = .tuple xs
 ·obtain⟨xs,rfl⟩:=ht
  by_cases l:xs.length=3
  ·obtain⟨a,b,c,rfl⟩:=FN l
   by_cases hc:∃ts,c = .tuple ts
   ·obtain⟨ts,rfl⟩:=hc
    unfold sF at h
    simp only[and_eq_true,decide_eq_true_iff] at h
    obtain⟨ha,hb,h1,h2,h3⟩:=h
    obtain⟨w,rfl,ow,sw⟩:=rE ha
    obtain⟨k,rfl,ok,sk⟩:=rE hb
    obtain⟨us,rfl,g⟩:=M9 h3
    rw[length_map] at h1 h2
    exact⟨w,k,us,rfl,ow,ok,sw,sk,h1,h2,g⟩
   ·rw[DV hc] at h;cases h
  ·rw[BK l] at h;cases h
 ·rw[BR ht] at h;cases h
theorem Ck{t u:Tl}(h:tlD t=tlD u):t=u:=by
 cases t;cases u
 unfold tlD at h
 injection h with h
 simp only[List.cons.injEq,and_true] at h
 obtain⟨h1,h2,h3,h4⟩:=h
 rw[nY h1,nY h2,nY h3,nY h4]
theorem Fi:∀{xs ys:List Tl},xs.map tlD=ys.map tlD->xs=ys
 |[],[],_=>rfl
 |[],_::_,h=>by cases h
 |_::_,[],h=>by cases h
 |x::xs,y::ys,h=>by
  rw[map_cons,map_cons] at h
  injection h with h1 h2
  rw[Ck h1,Fi h2]
theorem Eo{w h w' h':N3}{ts ts':List Tl}(e:ia w h ts=ia w' h' ts'):w=w'/\h=h'/\ts=ts':=by
 unfold ia at e
 injection e with e
 simp only[List.cons.injEq,and_true,PyData.tuple.injEq] at e
 exact⟨nY e.1,nY e.2.1,Fi e.2.2⟩
theorem Bp{d:Int}(hd:aJ d){P fs X:List N3}(m:tT d P fs)(h:∀x∈fs,x∈X):P.length<=X.length:=GR.pig (lT hd m.up) fun x hx=>h x ((m.mem x).mp hx)
theorem LC{X Y:List N3}{ts:List Tl}(on:∀t∈ts,OnM X Y t):(∀x∈lK ts,x∈X)/\(∀y∈lD ts,y∈Y):=by
 constructor
 ·intro x hx
  obtain⟨t,ht,h⟩:=List.mem_flatMap.mp hx
  simp only[mem_cons,not_mem_nil,or_false] at h
  rcases h with rfl|rfl
  ·exact (on t ht).l
  ·exact (on t ht).r
 ·intro x hx
  obtain⟨t,ht,h⟩:=List.mem_flatMap.mp hx
  simp only[mem_cons,not_mem_nil,or_false] at h
  rcases h with rfl|rfl
  ·exact (on t ht).b
  ·exact (on t ht).t
theorem LJ{d:Int}{P Q:List N3}{ts:List Tl}(mp:tT d P (lK ts))(mq:tT d Q (lD ts)):∀t∈ts,OnM P Q t:=fun t ht=>
 ⟨(mp.mem _).mpr (List.mem_flatMap.mpr ⟨t,ht,mem_cons_self⟩),(mp.mem _).mpr (List.mem_flatMap.mpr ⟨t,ht,mem_cons_of_mem _ mem_cons_self⟩),(mq.mem _).mpr (List.mem_flatMap.mpr ⟨t,ht,mem_cons_self⟩),(mq.mem _).mpr (List.mem_flatMap.mpr ⟨t,ht,mem_cons_of_mem _ mem_cons_self⟩)⟩
theorem Lo{d:Int}{ts:List Tl}(v:∀t∈ts,qj d t)(b:∀t∈ts,Bd4 2100 t):∀m∈lK ts,Ok m/\Bd 4400 m:=fun m hm=>by
 obtain⟨t,ht,h⟩:=List.mem_flatMap.mp hm
 have V:=v t ht
 have B:=b t ht
 simp only[mem_cons,not_mem_nil,or_false] at h
 rcases h with rfl|rfl
 ·exact⟨V.ox,B.x.mono ⋯⟩
 ·exact⟨gu V.ox V.ow,(JS V.ox V.ow B.x B.w).mono ⋯⟩
theorem Nz{d:Int}{ts:List Tl}(v:∀t∈ts,qj d t)(b:∀t∈ts,Bd4 2100 t):∀m∈lD ts,Ok m/\Bd 4400 m:=fun m hm=>by
 obtain⟨t,ht,h⟩:=List.mem_flatMap.mp hm
 have V:=v t ht
 have B:=b t ht
 simp only[mem_cons,not_mem_nil,or_false] at h
 rcases h with rfl|rfl
 ·exact⟨V.oy,B.y.mono ⋯⟩
 ·exact⟨gu V.oy V.oh,(JS V.oy V.oh B.y B.h).mono ⋯⟩
theorem tZ{ts:List Tl}:(lK ts).length=2*ts.length:=by
 unfold lK
 induction ts with
 |nil=>rfl
 |cons t ts ih=>rw[flatMap_cons,length_append,ih,length_cons];simp only[length_cons,length_nil];omega
theorem ua{ts:List Tl}:(lD ts).length=2*ts.length:=by
 unfold lD
 induction ts with
 |nil=>rfl
 |cons t ts ih=>rw[flatMap_cons,length_append,ih,length_cons];simp only[length_cons,length_nil];omega
def f2X:PyData->List PyData
 |.tuple [a,b,_,_]=>[a,b]
 |_=>[]
def f2Y:PyData->List PyData
 |.tuple [_,_,a,b]=>[a,b]
 |_=>[]
theorem Ls(ts:List Tl):(ts.map ui).flatMap f2X=(lK ts).map dN:=by
 induction ts with
 |nil=>rfl
 |cons t ts ih=>rw[map_cons,flatMap_cons,ih];rfl
theorem Mi(ts:List Tl):(ts.map ui).flatMap f2Y=(lD ts).map dN:=by
 induction ts with
 |nil=>rfl
 |cons t ts ih=>rw[map_cons,flatMap_cons,ih];rfl
theorem MZ{α:Type}{f:α->PyData}{g:PyData->Option PyData}{h:α->PyData}(e:∀x,g (f x)=some (h x))(ts:List α):(ts.map f).filterMap g=ts.map h:=by
 induction ts with
 |nil=>rfl
 |cons t ts ih=>rw[map_cons,filterMap_cons,e,ih];rfl
theorem NL{d:Int}{t:Tl}(v:qj d t):lF d (tlD t)=true:=by
 unfold tlD
 rw[CQ,sY v.ox,sY v.oy,xb,xb,decide_eq_true v.sx,decide_eq_true v.sy,jz v.ow,jz v.oh,decide_eq_true v.sw,decide_eq_true v.sh]
 rfl
theorem Ox{d:Int}{w k:N3}{ts:List Tl}(v:BB d w k ts):sF d (ia w k ts)=true:=by
 show (cA d (dN w)&&(cA d (dN k)&&(decide (1<=(ts.map tlD).length)&&(decide ((ts.map tlD).length<=60)&&(ts.map tlD).all (lF d)))))=true
 rw[jz v.ow,jz v.oh,decide_eq_true v.sw,decide_eq_true v.sh,length_map,decide_eq_true v.some,decide_eq_true v.few,all_map]
 simp only[Bool.true_and]
 exact List.all_eq_true.mpr fun t ht=>NL (v.tile t ht)
theorem Dk(h:rZ ds Z Qd):mE ‹Qd› (aO ["","","","","","","",""] ds) Z:=by
 obtain⟨d,t,rfl,hd,⟨fp,lay⟩,q⟩:=h
 unfold mE
 walk_at "rb"
 refine⟨d,t,rfl,hd,fp,?_⟩
 walk_at "rb"
 cases fb:sF d t with
 |false=>
  rw[fk (by rfl)]
  walk_at "rb"
  exact q false ⟨fun _=>rfl,fun w k ts e v=>by rw[e,Ox v] at fb;cases fb⟩
 |true=>
  rw[dJ (by simp)]
  obtain⟨w,k,ts,rfl,v⟩:=NV fb
  obtain⟨_,_,bd,X,Y,on,lX,lY,few⟩:=lay w k ts rfl
  have l60:=v.few
  have l1:=v.some
  unfold ia
  walk_at "rb"
  refine⟨trivial,?_⟩
  rw[mK]
  walk_at "rb"
  refine⟨by rw[length_map];omega,fun p hp=>⟨fun i acc U=>acc=(ts.take i).map ui/\U=az Z p acc,⟨rfl,rfl⟩,?_,?_⟩⟩
  ·rintro i x acc U hx ha ⟨e0,e1⟩
   obtain⟨t,et,rfl⟩:∃t,ts[i]? = some t/\x=tlD t:=by
    rw[getElem?_map] at hx
    cases e:ts[i]? with
    |none=>rw[e] at hx;cases hx
    |some t=>rw[e] at hx;exact⟨t,rfl,(Option.some.inj hx).symm⟩
   have V:=v.tile t (mem_of_getElem? et)
   have B:=bd t (mem_of_getElem? et)
   walk_at "rb"
   refine⟨trivial,?_⟩
   rw[if_pos trivial]
   refine⟨d,t,rfl,⟨V.ox,V.oy,V.ow,V.oh,B.x,B.y,B.w,B.h⟩,?_⟩
   walk_at "rb"
   refine⟨ha,?_,?_⟩
   ·rw[e0,take_succ,et,map_append];rfl
   ·rw[e1,fA]
  rintro acc U ⟨e0,e1⟩ ha
  rw[length_map,take_length] at e0
  subst e0
  rw[e1,pX hp]
  rw[JX]
  walk_at "rb"
  refine⟨by rw[length_map];omega,f2X,by rw[Ls,length_map,tZ];omega,?_,?_⟩
  ·intro x hx U _
   obtain⟨t,ht,rfl⟩:=List.mem_map.mp hx
   unfold ui
   walk_at "rb"
   refine⟨trivial,trivial,trivial,trivial,id,rfl,fun y hy dL _=>⟨⟨trivial,trivial,trivial,trivial,trivial⟩,trivial,rfl⟩⟩
  rw[Ls]
  refine⟨d,lK ts,rfl,hd,Lo v.tile bd,by rw[tZ];omega,fun P mp=>?_⟩
  walk_at "rb"
  rw[JX]
  walk_at "rb"
  refine⟨by rw[length_map];omega,f2Y,by rw[Mi,length_map,ua];omega,?_,?_⟩
  ·intro x hx U _
   obtain⟨t,ht,rfl⟩:=List.mem_map.mp hx
   unfold ui
   walk_at "rb"
   refine⟨trivial,trivial,trivial,trivial,id,rfl,fun y hy dL _=>⟨⟨trivial,trivial,trivial,trivial,trivial⟩,trivial,rfl⟩⟩
  rw[Mi]
  refine⟨d,lD ts,rfl,hd,Nz v.tile bd,by rw[ua];omega,fun Q mq=>?_⟩
  walk_at "rb"
  have np:P≠[]:=fun e=>by
   have:lK ts≠[]:=fun z=>by have:=tZ (ts:=ts);rw[z] at this;simp at this;omega
   obtain⟨x,hx⟩:=List.exists_mem_of_ne_nil _ this
   have:=(mp.mem x).mpr hx
   rw[e] at this
   exact absurd this not_mem_nil
  have nq:Q≠[]:=fun e=>by
   have:lD ts≠[]:=fun z=>by have:=ua (ts:=ts);rw[z] at this;simp at this;omega
   obtain⟨x,hx⟩:=List.exists_mem_of_ne_nil _ this
   have:=(mq.mem x).mpr hx
   rw[e] at this
   exact absurd this not_mem_nil
  have done:∀b,b=(fW P w&&(fW Q k&&GR.uC (ts.map (fF P Q)) (P.length-1) (Q.length-1)))->Qd (.v (.bool b)) Z:=fun b e=>by
   refine q b ⟨fun z=>?_,fun w' k' ts' e' v'=>?_⟩
   ·rw[fb] at z;cases z
   ·obtain⟨rfl,rfl,rfl⟩:=Eo e'
    exact⟨P,Q,mp,mq,e⟩
  refine⟨P,w,rfl,np,?_⟩
  walk_at "rb"
  cases r1:fW P w with
  |false=>
   rw[dJ ⋯]
   exact done false (by rw[r1];rfl)
  |true=>
   rw[fk rfl]
   walk_at "rb"
   refine⟨Q,k,rfl,nq,?_⟩
   walk_at "rb"
   cases r2:fW Q k with
   |false=>
    rw[dJ ⋯]
    exact done false (by rw[r1,r2];rfl)
   |true=>
    rw[fk rfl]
    walk_at "rb"
    obtain⟨oX,oY⟩:=LC on
    have fP:=Bp hd mp oX
    have fQ:=Bp hd mq oY
    have fm:(P.length-1)*(Q.length-1)<=X.length*Y.length:=mul_le_mul ∅ ∅
    refine⟨P,Q,ts,rfl,⟨lT hd mp.up,lT hd mq.up,np,nq,∅,∅,∅,LJ mp mq,∅⟩,?_⟩
    walk_at "rb"
    exact done _ (by rw[r1,r2];rfl)
end
section
variable {Z:Mu}{Qd:DK}{ds:List D}
theorem wU{α:Type}{f:α->PyData}{es:List α}{i:Nat}{x:PyData}(h:(es.map f)[i]? = some x):∃e,es[i]? = some e/\x=f e:=by
 rw[getElem?_map] at h
 cases k:es[i]? with
 |none=>rw[k] at h;cases h
 |some e=>rw[k] at h;exact⟨e,rfl,(Option.some.inj h).symm⟩
theorem take_snoc{α:Type}{es:List α}{i:Nat}{e:α}(h:es[i]? = some e):es.take (i+1)=es.take i++[e]:=by rw[take_succ,h];rfl
end
section
variable {Z:Mu}{Qd:DK}{ds:List D}
def eE(x:Nat×Nat):List Int×PyData:=(gb x,.bool true)
theorem jq{x:Nat×Nat}:∀(l:List (Nat×Nat)),(cg (l.map eE) (gb x)).isSome=decide (x∈l)
 |[]=>rfl
 |y::l=>by
  rw[map_cons]
  by_cases e:y=x
  ·subst e
   rw[dm (show (eE y).1=gb y from rfl)]
   simp
  ·rw[du (show ¬ (eE y).1=gb x from fun z=>e (FP z)),jq l]
   refine decide_eq_decide.mpr ?_
   rw[mem_cons]
   exact⟨.inr,fun h=>h.resolve_left fun z=>e z.symm⟩
end
theorem BH{x y:N3}(ox:Ok x)(oy:Ok y):plus x (less y x)=y:=
 ((bL ox).plus ox (jP oy ox) ((bL oy).less oy ox (bL ox))).eq (gu ox (jP oy ox)) oy (bL oy) (by grind) (by grind)
theorem Ip{x y:N3}(ox:Ok x)(oy:Ok y):less (plus x y) x=y:=
 (((bL ox).plus ox oy (bL oy)).less (gu ox oy) ox (bL ox)).eq (jP (gu ox oy) ox) oy (bL oy) (by grind) (by grind)
theorem Lp{d:Int}{x y:N3}(hd:aJ d)(ox:Ok x)(oy:Ok y):dif d (plus x y) x=sg d y.a y.b:=by rw[<- Cs hd (gu ox oy) ox,Ip ox oy]
theorem qN{d:Int}{x:N3}:dif d x aC=sg d x.a x.b:=by
 unfold dif aC
 simp only[Int.mul_one,Int.zero_mul,Int.sub_zero]
theorem IQ{d:Int}{x:N3}(hd:aJ d):0<=sg d x.a x.b↔¬ dif d aC x=1:=by
 rw[dif_neg hd,qN]
 have:=oI d x.a x.b
 omega
theorem Gs{d:Int}(hd:aJ d){P:List N3}(up:dP d P)(nn:∀x∈P,0<=sg d x.a x.b)(h0:aC∈P):P.head? = some aC:=by
 cases P with
 |nil=>exact absurd h0 not_mem_nil
 |cons x P=>
  rcases List.mem_cons.mp h0 with e|e
  ·rw[<- e];rfl
  ·exact absurd ((List.pairwise_cons.mp up).1 aC e) ((IQ hd).mp (nn x mem_cons_self))
theorem N6{P:List N3}{x:N3}(h:P.getLast? = some x)(hl:P.length-1<P.length):P[P.length-1]=x:=by
 rw[List.getLast?_eq_getElem?,getElem?_eq_getElem hl] at h
 exact Option.some.inj h
theorem Kv{P:List N3}{e:N3}:fW P e=true↔P.head? = some aC/\P.getLast? = some e:=by unfold fW;rw[and_eq_true,decide_eq_true_iff,decide_eq_true_iff]
theorem yT{P:List N3}{x:N3}(h:P.getLast? = some x):x∈P:=List.mem_of_mem_getLast? h
def jN(xs ys:List N3)(q:GR.Bx):Tl:=⟨xs.getD q.l aC,ys.getD q.b aC,less (xs.getD q.r aC) (xs.getD q.l aC),less (ys.getD q.t aC) (ys.getD q.b aC)⟩
structure gE(d:Int)(xs:List N3)(C:Nat):Prop where
 len:xs.length=C+1
 up:dP d xs
 ok:∀x∈xs,Ok x
 zero:xs[0]? = some aC
theorem getD_at{xs:List N3}{i:Nat}(h:i<xs.length):xs.getD i aC=xs[i]:=by
 rw[List.getD_eq_getElem?_getD,getElem?_eq_getElem h];rfl
theorem Rh{xs:List N3}{i:Nat}(nd:xs.Nodup)(h:i<xs.length):xs.idxOf xs[i]=i:=by
 have hm:xs[i]∈xs:=getElem_mem h
 have e:=GR.zi hm
 have hl:=GR.dI hm
 rcases Nat.lt_trichotomy (xs.idxOf xs[i]) i with z|z|z
 ·exact absurd e (List.pairwise_iff_getElem.mp nd _ _ hl h z)
 ·exact z
 ·exact absurd e.symm (List.pairwise_iff_getElem.mp nd _ _ h hl z)
theorem idx_map{P:List N3}{f:N3->Nat}{x:N3}(hx:x∈P)(inj:∀a∈P,∀b∈P,f a=f b->a=b):P.idxOf x=(P.map f).idxOf (f x):=by
 induction P with
 |nil=>exact absurd hx not_mem_nil
 |cons y P ih=>
  rw[map_cons,List.idxOf_cons,List.idxOf_cons]
  by_cases e:y=x
  ·subst e;simp
  ·have e2:f y≠f x:=fun z=>e (inj y mem_cons_self x hx z)
   have hx':x∈P:=by
    rcases List.mem_cons.mp hx with z|z
    ·exact absurd z.symm e
    ·exact z
   simp only[beq_iff_eq,e,e2,if_false,cond_false,beq_eq_false_iff_ne.mpr e,beq_eq_false_iff_ne.mpr e2]
   rw[ih hx' fun a ha b hb=>inj a (mem_cons_of_mem _ ha) b (mem_cons_of_mem _ hb)]
theorem Rk{d:Int}(hd:aJ d){xs:List N3}(up:dP d xs){a b:N3}(ha:a∈xs)(hb:b∈xs)(h:dif d b a=1):xs.idxOf a<xs.idxOf b:=by
 have ea:=GR.zi ha
 have eb:=GR.zi hb
 rcases Nat.lt_trichotomy (xs.idxOf a) (xs.idxOf b) with z|z|z
 ·exact z
 ·have:xs[xs.idxOf a]'(GR.dI ha)=xs[xs.idxOf b]'(GR.dI hb):=by congr 1
  rw[ea,eb] at this
  rw[this] at h
  exact absurd h (Dt hd)
 ·have:=List.pairwise_iff_getElem.mp up _ _ (GR.dI hb) (GR.dI ha) z
  rw[ea,eb] at this
  rw[dif_neg hd,this] at h
  exact absurd h ⋯
theorem Rb{d:Int}(hd:aJ d){xs P:List N3}(up:dP d xs)(hp:dP d P)(sub:∀x∈P,x∈xs):GR.Up (P.map xs.idxOf):=by
 unfold GR.Up
 rw[List.pairwise_map]
 exact List.Pairwise.imp_of_mem (fun {a b} ha hb h=>Rk hd up (sub a ha) (sub b hb) h) hp
theorem OJ{d:Int}(hd:aJ d){P:List N3}{w:N3}(up:dP d P)(hw:w∈P)(top:∀x∈P,¬ dif d x w=1):P.getLast? = some w:=by
 have l0:0<P.length:=List.length_pos_of_mem hw
 rw[List.getLast?_eq_getElem?,getElem?_eq_getElem ∅]
 have e:=GR.zi hw
 have hl:=GR.dI hw
 rcases lt_or_ge (P.idxOf w) (P.length-1) with z|z
 ·have:=List.pairwise_iff_getElem.mp up _ _ hl ∅ z
  rw[e] at this
  exact absurd this (top _ (getElem_mem _))
 ·have:P[P.idxOf w]'hl=P[P.length-1]:=by congr 1;omega
  rw[<- this,e]
theorem gE.at{d:Int}{xs:List N3}{C i:Nat}(f:gE d xs C)(h:i<=C):i<xs.length:=by have:=f.len;omega
theorem gE.cD{d:Int}{xs:List N3}{C i:Nat}(f:gE d xs C)(h:i<=C):Ok (xs.getD i aC):=by rw[getD_at (f.at h)];exact f.ok _ (getElem_mem _)
theorem gE.lt{d:Int}{xs:List N3}{C i j:Nat}(f:gE d xs C)(h:i<j)(hj:j<=C):dif d (xs.getD j aC) (xs.getD i aC)=1:=by
 rw[getD_at (f.at hj),getD_at (f.at ∅)]
 exact List.pairwise_iff_getElem.mp f.up _ _ _ _ h
theorem gE.nn{d:Int}(hd:aJ d){xs:List N3}{C i:Nat}(f:gE d xs C)(h:i<=C):0<=sg d (xs.getD i aC).a (xs.getD i aC).b:=by
 have z:xs.getD 0 aC=aC:=by rw[List.getD_eq_getElem?_getD,f.zero];rfl
 cases i with
 |zero=>rw[z,show sg d aC.a aC.b=0 from eM.mpr ⟨rfl,rfl⟩];exact Int.le_refl _
 |succ i=>
  have:=f.lt (i:=0) (j:=i+1) ∅ h
  rw[z,qN] at this
  omega
theorem gE.pos{d:Int}{xs:List N3}{C:Nat}(f:gE d xs C)(h:0<C):sg d (xs.getD C aC).a (xs.getD C aC).b=1:=by
 have z:xs.getD 0 aC=aC:=by rw[List.getD_eq_getElem?_getD,f.zero];rfl
 have:=f.lt (i:=0) (j:=C) h (le_refl _)
 rw[z,qN] at this
 exact this
theorem CP{d:Int}{xs ys:List N3}{C R:Nat}(fx:gE d xs C){q:GR.Bx}(hl:q.l<q.r)(hr:q.r<=C):plus (jN xs ys q).x (jN xs ys q).w=xs.getD q.r aC:=BH (fx.cD ∅) (fx.cD hr)
theorem DF{d:Int}{xs ys:List N3}{C R:Nat}(fy:gE d ys R){q:GR.Bx}(hl:q.b<q.t)(hr:q.t<=R):plus (jN xs ys q).y (jN xs ys q).h=ys.getD q.t aC:=BH (fy.cD ∅) (fy.cD hr)
theorem PZ{d:Int}(hd:aJ d){xs ys:List N3}{C R:Nat}(fx:gE d xs C)(fy:gE d ys R){q:GR.Bx}(h:q.l<q.r/\q.r<=C/\q.b<q.t/\q.t<=R):qj d (jN xs ys q) where
 ox:=fx.cD ∅
 oy:=fy.cD ∅
 ow:=jP (fx.cD ∅) (fx.cD ∅)
 oh:=jP (fy.cD ∅) (fy.cD ∅)
 sx:=fx.nn hd ∅
 sy:=fy.nn hd ∅
 sw:=by
  show sg d (less _ _).a (less _ _).b=1
  rw[Cs hd (fx.cD ∅) (fx.cD ∅)]
  exact fx.lt h.1 h.2.1
 sh:=by
  show sg d (less _ _).a (less _ _).b=1
  rw[Cs hd (fy.cD ∅) (fy.cD ∅)]
  exact fy.lt h.2.2.1 h.2.2.2
theorem JA{d:Int}(hd:aJ d){xs P es:List N3}{C:Nat}(f:gE d xs C)(hC:0<C)(mp:tT d P es)(sub:∀x∈es,x∈xs)(h0:aC∈es)(h1:xs.getD C aC∈es) :
  fW P (xs.getD C aC)=true/\GR.Up (P.map xs.idxOf)/\(∀a∈P.map xs.idxOf,a<=C)/\(∀i,i<=C->xs.getD i aC∈es->i∈P.map xs.idxOf/\P.idxOf (xs.getD i aC)=(P.map xs.idxOf).idxOf i):=by
 have subP:∀x∈P,x∈xs:=fun x hx=>sub x ((mp.mem x).mp hx)
 have nd:=lT hd f.up
 have nnx:∀x∈xs,0<=sg d x.a x.b:=fun x hx=>by
  obtain⟨i,hi,rfl⟩:=List.mem_iff_getElem.mp hx
  have:=f.nn hd (i:=i) (by have:=f.len;omega)
  rw[getD_at hi] at this
  exact this
 have inj:∀a∈P,∀b∈P,xs.idxOf a=xs.idxOf b->a=b:=fun a ha b hb e=>by
  have e1:=GR.zi (subP a ha)
  have e2:=GR.zi (subP b hb)
  have:xs[xs.idxOf a]'(GR.dI (subP a ha))=xs[xs.idxOf b]'(GR.dI (subP b hb)):=by congr 1
  rw[e1,e2] at this
  exact this
 refine⟨Kv.mpr ⟨Gs hd mp.up (fun x hx=>nnx x (subP x hx)) ((mp.mem _).mpr h0),OJ hd mp.up ((mp.mem _).mpr h1) fun x hx h=>?_⟩,Rb hd f.up mp.up subP,fun a ha=>?_,fun i hi he=>?_⟩
 ·obtain⟨i,hi,rfl⟩:=List.mem_iff_getElem.mp (subP x hx)
  have hi':i<=C:=by have:=f.len;omega
  rcases lt_or_eq_of_le hi' with z|z
  ·have:=f.lt z (le_refl _)
   rw[getD_at hi] at this
   rw[dif_neg hd,this] at h
   exact absurd h ⋯
  ·subst z
   rw[getD_at hi] at h
   exact Dt hd h
 ·obtain⟨x,hx,rfl⟩:=List.mem_map.mp ha
  have:=GR.dI (subP x hx)
  have:=f.len
  omega
 ·have hp:xs.getD i aC∈P:=(mp.mem _).mpr he
  have e:xs.idxOf (xs.getD i aC)=i:=by rw[getD_at (f.at hi)];exact Rh nd (f.at hi)
  refine⟨List.mem_map.mpr ⟨_,hp,e⟩,?_⟩
  rw[idx_map hp inj,e]
theorem KS{d:Int}(hd:aJ d){xs ys:List N3}{C R:Nat}(fx:gE d xs C)(fy:gE d ys R)(hC:0<C)(hR:0<R){qs:List GR.Bx}(cov:GR.gF qs C R){P Q:List N3}(mp:tT d P (lK (qs.map (jN xs ys))))(mq:tT d Q (lD (qs.map (jN xs ys)))) :
  (fW P (xs.getD C aC)&&(fW Q (ys.getD R aC)&&GR.uC ((qs.map (jN xs ys)).map (fF P Q)) (P.length-1) (Q.length-1)))=true:=by
 have inX:∀q∈qs,xs.getD q.l aC∈lK (qs.map (jN xs ys))/\xs.getD q.r aC∈lK (qs.map (jN xs ys)):=fun q hq=>by
  have h:=cov.fits q hq
  refine⟨List.mem_flatMap.mpr ⟨_,mem_map_of_mem hq,mem_cons_self⟩,List.mem_flatMap.mpr ⟨_,mem_map_of_mem hq,?_⟩⟩
  rw[CP (R:=R) fx h.1 h.2.1]
  exact mem_cons_of_mem _ mem_cons_self
 have inY:∀q∈qs,ys.getD q.b aC∈lD (qs.map (jN xs ys))/\ys.getD q.t aC∈lD (qs.map (jN xs ys)):=fun q hq=>by
  have h:=cov.fits q hq
  refine⟨List.mem_flatMap.mpr ⟨_,mem_map_of_mem hq,mem_cons_self⟩,List.mem_flatMap.mpr ⟨_,mem_map_of_mem hq,?_⟩⟩
  rw[DF (C:=C) fy h.2.2.1 h.2.2.2]
  exact mem_cons_of_mem _ mem_cons_self
 have subX:∀x∈lK (qs.map (jN xs ys)),x∈xs:=fun x hx=>by
  obtain⟨t,ht,h⟩:=List.mem_flatMap.mp hx
  obtain⟨q,hq,rfl⟩:=List.mem_map.mp ht
  have g:=cov.fits q hq
  rw[CP (R:=R) fx g.1 g.2.1] at h
  simp only[mem_cons,not_mem_nil,or_false] at h
  rcases h with rfl|rfl
  ·show xs.getD q.l aC∈xs
   rw[getD_at (fx.at ∅)];exact getElem_mem _
  ·rw[getD_at (fx.at ∅)];exact getElem_mem _
 have subY:∀x∈lD (qs.map (jN xs ys)),x∈ys:=fun x hx=>by
  obtain⟨t,ht,h⟩:=List.mem_flatMap.mp hx
  obtain⟨q,hq,rfl⟩:=List.mem_map.mp ht
  have g:=cov.fits q hq
  rw[DF (C:=C) fy g.2.2.1 g.2.2.2] at h
  simp only[mem_cons,not_mem_nil,or_false] at h
  rcases h with rfl|rfl
  ·show ys.getD q.b aC∈ys
   rw[getD_at (fy.at ∅)];exact getElem_mem _
  ·rw[getD_at (fy.at ∅)];exact getElem_mem _
 have zx:xs.getD 0 aC=aC:=by rw[List.getD_eq_getElem?_getD,fx.zero];rfl
 have zy:ys.getD 0 aC=aC:=by rw[List.getD_eq_getElem?_getD,fy.zero];rfl
 obtain⟨⟨q1,m1,e1⟩,⟨q2,m2,e2⟩,⟨q3,m3,e3⟩,⟨q4,m4,e4⟩⟩:=cov.ends hC hR
 obtain⟨r1,u1,a1,i1⟩:=JA hd fx hC mp subX (by have:=(inX q1 m1).1;rw[e1,zx] at this;exact this) (by have:=(inX q2 m2).2;rw[e2] at this;exact this)
 obtain⟨r2,u2,a2,i2⟩:=JA hd fy hR mq subY (by have:=(inY q3 m3).1;rw[e3,zy] at this;exact this) (by have:=(inY q4 m4).2;rw[e4] at this;exact this)
 rw[r1,r2,Bool.true_and,Bool.true_and]
 have g:∀q∈qs,GR.OnG (P.map xs.idxOf) (Q.map ys.idxOf) q:=fun q hq=>by
  have h:=cov.fits q hq
  exact⟨(i1 q.l ∅ (inX q hq).1).1,(i1 q.r ∅ (inX q hq).2).1,(i2 q.b ∅ (inY q hq).1).1,(i2 q.t ∅ (inY q hq).2).1⟩
 have key:=GR.RF u1 u2 cov g a1 a2
 rw[length_map,length_map] at key
 have e:(qs.map (jN xs ys)).map (fF P Q)=qs.map (GR.cb (P.map xs.idxOf) (Q.map ys.idxOf)):=by
  rw[map_map]
  refine List.map_congr_left fun q hq=>?_
  have h:=cov.fits q hq
  show fF P Q (jN xs ys q)=_
  unfold fF GR.cb
  rw[CP (R:=R) fx h.1 h.2.1,DF (C:=C) fy h.2.2.1 h.2.2.2,<- (i1 q.l ∅ (inX q hq).1).2,<- (i1 q.r ∅ (inX q hq).2).2,<- (i2 q.b ∅ (inY q hq).1).2,<- (i2 q.t ∅ (inY q hq).2).2]
  rfl
 rw[e]
 exact key
theorem bc{P:Program}{w:World}{K:PySem.W.Frag}{mg:Str->Option Value}{base:Heap}{CX:CXT}{k:Nat}{f:Addr}{fd:FuncData}{ps:List Str}{sp sp':DSp}(F:bu P w K mg base CX k f fd ps (spD K sp))
  (h:∀ds Z Qd,sp' ds Z Qd->sp ds Z Qd):bu P w K mg base CX k f fd ps (spD K sp'):=by
 refine F.imp fun vs H Q E h'=>?_
 obtain⟨ds,Z,Qd,ok,r,s,kk⟩:=h'
 exact⟨ds,Z,Qd,ok,r,h _ _ _ s,kk⟩
noncomputable def Pr(a:Addr)(Z U:Mu):Prop:=Step a Z U/\∀b,U.b b=Z.b b
noncomputable def mv:DSp:=fun ds Z Q=>∃(a:Addr) (n:Int),ds=[.m a,.v (.int n)]/\1<=n/\n<=1000000000/\Bag Z a/\∀r U,0<=r->r<n->Pr a Z U->Q (.v (.int r)) U
theorem Fo{ds:List D}{Z:Mu}{Q:DK}(h:mv ds Z Q):ds.length=2:=by obtain⟨_,_,rfl,_⟩:=h;rfl
theorem aR(ds:List D)(Z:Mu)(Qd:DK)(h:bB ds Z Qd):mv ds Z Qd:=by
 obtain⟨a,n,rfl,h1,h2,hb,q⟩:=h
 exact⟨a,n,rfl,h1,h2,hb,fun r U r0 r1 s=>q r U r0 r1 s.1⟩
def bxD(q:GR.Bx):PyData:=.tuple [.int (q.l:Nat),.int (q.b:Nat),.int ((q.r-q.l:Nat):Int),.int ((q.t-q.b:Nat):Int)]
noncomputable def CU:DSp:=fun ds Z Q=>∃(p:Addr) (done:List (Nat×Nat)) (c r C:Nat),ds=[.b p,.v (.int (c:Nat)),.v (.int (r:Nat)),.v (.int (C:Nat))]/\Z.b p=some (.dict (done.map eE))/\done.length<=9000/\c<=C /\
 ∀n:Nat,c+n<=C->(∀i,c<=i->i<c+n->(i,r) ∉ done)->(c+n=C\/(c+n,r)∈done)->Q (.v (.int (n:Nat))) Z
theorem HM{ds:List D}{Z:Mu}{Q:DK}(h:CU ds Z Q):ds.length=4:=by obtain⟨_,_,_,_,_,rfl,_⟩:=h;rfl
noncomputable def vp:DSp:=fun ds Z Q=>∃(a:Addr) (C R:Nat),ds=[.m a,.v (.int (C:Nat)),.v (.int (R:Nat))]/\0<C/\0<R/\C<=60/\R<=60/\C*R<=900/\Bag Z a /\
 ∀f qs U,Z f=none->GR.gF qs C R->U f=some (qs.map bxD)->iF a Z U->Q (.m f) U
noncomputable def tO:DSp:=fun ds Z Q=>∃(a:Addr) (C R:Nat),ds=[.m a,.v (.int (C:Nat)),.v (.int (R:Nat))]/\0<C/\0<R/\C<=60/\R<=60/\C*R<=900/\Bag Z a /\
 ∀qs U,GR.gF qs C R->iF a Z U->Q (.v (.list (qs.map bxD))) U
theorem AF{ds:List D}{Z:Mu}{Q:DK}(h:vp ds Z Q):ds.length=3:=by obtain⟨_,_,_,rfl,_⟩:=h;rfl
theorem iF.off{a f:Addr}{Z U:Mu}(hf:Z f=none)(hb:Bag Z a)(h:iF a Z U):iF a Z (yC U f):=by
 have af:a≠f:=fun e=>by obtain⟨g,m,h,_⟩:=hb;rw[e,hf] at h;cases h
 obtain⟨⟨g,m,e,r⟩,k⟩:=h
 refine⟨⟨g,m,by rw[se af];exact e,r⟩,fun b hb ds hd=>?_⟩
 have bf:b≠f:=fun e=>by rw[e,hf] at hd;cases hd
 rw[se bf]
 exact k b hb ds hd
theorem wm{ds:List D}{Z:Mu}{Qd:DK}(h:tO ds Z Qd):vp ds Z (Th Z Qd):=by
 obtain⟨a,C,R,rfl,h1,h2,h3,h4,h5,hb,q⟩:=h
 exact⟨a,C,R,rfl,h1,h2,h3,h4,h5,hb,fun f qs U hf cov e st=>⟨hf,_,e,q qs _ cov (st.off hf hb)⟩⟩
noncomputable def kK:DTS:=
 (aP (cC (dB (dOp rGt (dOp aM (ai 0) (dC (.int 0))) (dC (.int 0)))) (aP (bo (wc (dOp aM (ai 0) (dC (.int 0))) (ai 1)) (aq 2))
 (aP (bo (uQ (dOp aM (ai 0) (dC (.int 0))) (ai 1)) (JC (ai 0) (dC (.int 0))))
 (bq (ai 2)))) bI)
 (aP (bo (wc (bZ (bR (dOp aM (ai 0) (dC (.int 1))) (dC (.int 48271))) (dC (.int 2531011))) (dC (.int 2147483647))) (JC (ai 0) (dC (.int 1))))
 (bq (wc (uQ (wc (Rm (dOp aM (ai 0) (dC (.int 1))) (dC (.int 3))) (dC (.int 2147483629))) (dC (.int 64))) (ai 1)))))
noncomputable def mr:DTS:=
 (aP (bo (dC (.int 0)) (aq 4))
 (aP (uq (yZ (dB (dOp rLt (bZ (ai 1) (ai 4)) (ai 3))) (dB (dOp (IA true) (bO (ag (bZ (ai 1) (ai 4)) (ag (ai 2) av))) (ai 0)))) (bo (bZ (ai 4) (dC (.int 1))) (aq 4)))
 (bq (ai 4))))
section
variable {Z:Mu}{Qd:DK}{ds:List D}
theorem Ae(h:mv ds Z Qd):kK ‹Qd› (aO ["","",""] ds) Z:=by
 obtain⟨a,n,rfl,h0,h1,⟨g,m,hb,hg,hm,hm'⟩,q⟩:=h
 unfold kK
 walk_at "rn"
 rw[hb]
 walk_at "rn"
 rw[hb]
 walk_at "rn"
 have n0:n≠0:=by omega
 have i0:ixN 2 0=some 0:=by rfl
 have i1:ixN 2 1=some 1:=by rfl
 by_cases hg0:0<g
 ·rw[if_pos (by simpa using hg0)]
  simp only[hb]
  walk_at "rn"
  obtain⟨r0,r1⟩:=lN g (show 0<n by omega)
  refine⟨n0,?_⟩
  simp only[hb]
  walk_at "rn"
  refine⟨divC n0 ∅,?_⟩
  simp only[hb,length_cons,length_nil,Nat.reduceAdd,i0,set_cons_zero]
  exact q _ _ r0 r1 ⟨Step.set (N8 hg ∅) hm hm',fun _=>rfl⟩
 ·rw[if_neg (by simpa using hg0)]
  simp only[hb,i1,aI]
  walk_at "rn"
  obtain⟨s0,s1⟩:=lN (m*48271+2531011) (show (0:Int)<2147483647 by decide)
  generalize (m*48271+2531011).fmod 2147483647=w at s0 s1 ⊢
  obtain⟨r0,r1⟩:=lN ((((w ^ Int.toNat 3).fmod 2147483629).fdiv 64)) (show 0<n by omega)
  refine⟨mulL ∅,⋯,?_⟩
  refine⟨⟨⋯,⋯,∅⟩,(by show (2147483629:Int)≠0;decide),divC ⋯ ⋯,n0,?_⟩
  exact q _ _ r0 r1 ⟨Step.set hg s0 ∅,fun _=>rfl⟩
theorem Ka{x:Nat×Nat}{l:List (Nat×Nat)}(h:x ∉ l):cg (l.map eE) (gb x)=none:=by
 have:=jq (x:=x) l
 rw[decide_eq_false h] at this
 cases z:cg (l.map eE) (gb x) with
 |none=>rfl
 |some v=>rw[z] at this;cases this
theorem KL{x:Nat×Nat}{l:List (Nat×Nat)}:ja (l.map eE) (gb x) (.bool true)=(if x∈l then l else l++[x]).map eE:=by
 by_cases h:x∈l
 ·rw[if_pos h]
  unfold ja
  rw[jq,decide_eq_true h,if_pos rfl,map_map]
  refine List.map_congr_left fun y _=>?_
  show (if (eE y).1=gb x then ((eE y).1,PyData.bool true) else eE y)=eE y
  split<;>rfl
 ·rw[if_neg h,MJ (Ka h),map_append]
  rfl
theorem CB(h:CU ds Z Qd):mr ‹Qd› (aO ["","","","",""] ds) Z:=by
 obtain⟨p,done,c,r,C,rfl,hp,few,hc,q⟩:=h
 unfold mr
 walk_at "rb"
 rw[Ju]
 refine⟨fun m ρ U=>∃n:Nat,ρ=[some (.b p),some (.v (.int (c:Nat))),some (.v (.int (r:Nat))),some (.v (.int (C:Nat))),some (.v (.int (n:Nat)))]/\U=Z/\m=C-(c+n)/\c+n<=C/\∀i,c<=i->i<c+n->(i,r) ∉ done,⟨_,0,rfl,rfl,rfl,∅,fun i h1 h2=>by omega⟩,?_⟩
 rintro m ρ U ⟨n,rfl,rfl,rfl,h1,h2⟩
 walk_at "rb"
 by_cases g:c+n<C
 ·rw[fk (decide_eq_true ∅)]
  walk_at "rb"
  have kc:oi (.v (.tuple [.int ((c:Nat)+(n:Nat)),.int (r:Nat)]))=some (gb (c+n,r)):=by
   show some _=some _
   unfold gb
   simp only[Int.natCast_add]
  refine⟨_,p,_,kc,rfl,hp,by show (done.map eE).length<=9800;rw[length_map];omega,fun _=>⟨_,rfl⟩,?_⟩
  walk_at "rb"
  have lc:=jq (x:=(c+n,r)) done
  by_cases cc:(c+n,r)∈done
  ·rw[if_neg (by show ¬ (!(cg _ _).isSome)=true;rw[lc,decide_eq_true cc];decide)]
   exact q n h1 h2 (.inr cc)
  ·rw[if_pos (by show (!(cg _ _).isSome)=true;rw[lc,decide_eq_false cc];decide)]
   refine⟨_,?_,n+1,by simp,trivial,rfl,∅,fun i i1 i2=>?_⟩
   ·omega
   ·rcases lt_or_ge i (c+n) with z|z
    ·exact h2 i i1 z
    ·rw[show i=c+n by omega];exact cc
 ·rw[dJ (by simp;omega)]
  walk_at "rb"
  exact q n h1 h2 (.inl ∅)
end
structure Blk(Z:Mu)(a p f:Addr)(L:List GR.Bx)(done:List (Nat×Nat))(U:Mu):Prop where
 bag:Bag U a
 keep:∀b,b≠a->∀ds,Z b=some ds->U b=some ds
 hf:U f=some (L.map bxD)
 hp:U.b p=some (.dict (done.map eE))
 nd:done.Nodup
 nf:Z f=none
 af:a≠f
noncomputable def jr:DTS:=
 (aP (bo Eg (aq 3))
 (aP (bo (vS av) (aq 4))
 (aP (bo (dOp aM (qi (ag (dC (.int 1)) (ag (dC (.int 2)) (ag (dC (.int 4)) (ag (dC (.int 60)) av))))) (ay mv (ag (ai 0) (ag (dC (.int 4)) av)))) (aq 5))
 (aP (qH (kS (ag (ai 2) av)) (aq 6) (qH (kS (ag (ai 1) av)) (aq 7) (cC (dB (dOp (IA true) (bO (ag (ai 7) (ag (ai 6) av))) (ai 3))) (aP (bo (bZ (dC (.int 1)) (ay mv (ag (ai 0) (ag (dCB (En min) (ag (ai 5) (ag (ay CU (ag (ai 3) (ag (ai 7) (ag (ai 6) (ag (ai 1) av))))) av))) av)))) (aq 8))
 (aP (bo (bZ (dC (.int 1)) (ay mv (ag (ai 0) (ag (dCB (En min) (ag (ai 5) (ag (lH (ai 2) (ai 6)) av))) av)))) (aq 9))
 (aP (nC (Il (ai 4) (bO (ag (ai 7) (ag (ai 6) (ag (ai 8) (ag (ai 9) av)))))))
 (qH (kS (ag (bR (ai 8) (ai 9)) av)) (aq 10) (JM (ai 3) (bO (ag (bZ (ai 7) (wc (ai 10) (ai 8))) (ag (bZ (ai 6) (uQ (ai 10) (ai 8))) av))) (dC (.bool true))))))) bI)))
 (bq (ai 4))))))
section
variable {Z:Mu}{Qd:DK}{ds:List D}
theorem Bag.off{Z:Mu}{a f:Addr}{es:List PyData}(h:Bag Z a)(n:a≠f):Bag (az Z f es) a:=by
 obtain⟨g,m,e,r⟩:=h
 exact⟨g,m,by rw[aT n];exact e,r⟩
theorem Blk.step{a p f:Addr}{L:List GR.Bx}{done:List (Nat×Nat)}{ad am:Mu}(h:Blk Z a p f L done ad)(s:Pr a ad am):Blk Z a p f L done am where
 bag:=s.1.1
 keep:=fun b n ds e=>by rw[s.1.2 b n];exact h.keep b n ds e
 hf:=by rw[s.1.2 f h.af.symm];exact h.hf
 hp:=by rw[s.2 p];exact h.hp
 nd:=h.nd
 nf:=h.nf
 af:=h.af
theorem Blk.app{a p f:Addr}{L:List GR.Bx}{q:GR.Bx}{done:List (Nat×Nat)}{ad:Mu}(h:Blk Z a p f L done ad):Blk Z a p f (L++[q]) done (az ad f (L.map bxD++[bxD q])) where
 bag:=h.bag.off h.af
 keep:=fun b n ds e=>by
  have bf:b≠f:=fun z=>by rw[z,h.nf] at e;cases e
  rw[aT bf]
  exact h.keep b n ds e
 hf:=by rw[aI,map_append];rfl
 hp:=h.hp
 nd:=h.nd
 nf:=h.nf
 af:=h.af
theorem Blk.put{a p f:Addr}{L:List GR.Bx}{x:Nat×Nat}{done:List (Nat×Nat)}{ad:Mu}(h:Blk Z a p f L done ad):Blk Z a p f L (if x∈done then done else done++[x]) (br ad p (.dict (ja (done.map eE) (gb x) (.bool true)))) where
 bag:=h.bag
 keep:=h.keep
 hf:=h.hf
 hp:=by rw[bA,KL]
 nd:=by
  split
  ·exact h.nd
  ·rename_i hx
   exact List.nodup_append.mpr ⟨h.nd,by simp,fun a ha b hb e=>hx (by rw[List.mem_singleton.mp hb] at e;exact e▸ha)⟩
 nf:=h.nf
 af:=h.af
theorem FF{x y:Nat×Nat}{c r w h k:Nat}(hk:k<w*h):(c+k % w,r+k / w)∈GR.cellsOf ⟨c,c+w,r,r+h⟩:=by
 have hw:0<w:=by
  rcases Nat.eq_zero_or_pos w with z|z
  ·rw[z,Nat.zero_mul] at hk;omega
  ·exact z
 have a:=Nat.mod_lt k hw
 have b:k / w<h:=Nat.div_lt_of_lt_mul hk
 rw[GR.bM]
 generalize k % w=u at a
 generalize k / w=v at b
 unfold GR.Bx.has
 dsimp only
 omega
theorem vn{qs:List GR.Bx}{C R:Nat}(fits:∀q∈qs,q.l<q.r/\q.r<=C/\q.b<q.t/\q.t<=R)(ap:qs.Pairwise GR.Apart):qs.length<=C*R:=by
 have nd:(qs.map fun q=>(q.l,q.b)).Nodup:=by
  unfold List.Nodup
  rw[List.pairwise_map]
  refine List.Pairwise.imp_of_mem (fun {a b} ha hb h e=>?_) ap
  have fa:=fits a ha
  have fb:=fits b hb
  injection e with e1 e2
  exact h a.l a.b ⟨le_refl _,fa.1,le_refl _,fa.2.2.1⟩ ⟨∅,∅,∅,∅⟩
 have:=GR.pig nd (m:=GR.cellsOf ⟨0,C,0,R⟩) fun x hx=>by
  obtain⟨q,hq,rfl⟩:=List.mem_map.mp hx
  have f:=fits q hq
  exact GR.bM.mpr ⟨zero_le _,by show q.l<C;omega,zero_le _,by show q.b<R;omega⟩
 rw[length_map,GR.rA] at this
 exact this
theorem Mh{i j c r w h:Nat}(hc:(i,j)∈GR.cellsOf ⟨c,c+w,r,r+h⟩):∃k,k<w*h/\(i,j)=(c+k % w,r+k / w):=by
 rw[GR.bM] at hc
 unfold GR.Bx.has at hc
 dsimp only at hc
 have hw:0<w:=by omega
 have hlt:i-c<w:=by omega
 refine⟨(i-c)+w*(j-r),?_,?_⟩
 ·have:w*(j-r)+w<=w*h:=by
   rw[<- Nat.mul_succ]
   exact Nat.mul_le_mul_left _ ∅
  omega
 ·rw[Nat.add_mul_mod_self_left,Nat.mod_eq_of_lt hlt,Nat.add_mul_div_left _ _ hw,Nat.div_eq_of_lt hlt]
  refine Prod.ext ?_ ?_<;>dsimp only<;>omega
theorem zO{L:List GR.Bx}{q:GR.Bx}:GR.cells (L++[q])=GR.cells L++GR.cellsOf q:=by unfold GR.cells;rw[List.flatMap_append];simp
theorem zF(h:vp ds Z Qd):jr ‹Qd› (aO ["","","","","","","","","","",""] ds) Z:=by
 obtain⟨a,C,R,rfl,hC,hR,c60,r60,cr,hb,q⟩:=h
 unfold jr
 walk_at "rb"
 intro p hp f hf
 have hf':Z f=none:=hf
 have af:a≠f:=fun e=>by obtain⟨g,m,h,_⟩:=hb;rw[e,hf'] at h;cases h
 refine⟨a,4,rfl,⋯,⋯,hb.off af,fun r ad r0 r1 s1=>?_⟩
 have base:Blk Z a p f [] [] (az (br Z p (.dict [])) f []):=⟨Bag.off hb af,fun b n ds e=>by
  have bf:b≠f:=fun z=>by rw[z,hf'] at e;cases e
  rw[aT bf]
  exact e,by rw[aI];rfl,by show (br Z p (.dict [])).b p=_;rw[bA];rfl,List.nodup_nil,hf',af⟩
 have st0:Blk Z a p f [] [] ad:=base.step s1
 clear s1 base
 have hm:∃m:Nat,atI [PyData.int 1,.int 2,.int 4,.int 60] r=some (.int (m:Nat))/\1<=m/\m<=60:=by
  obtain⟨v,e,hm⟩:=pY (xs:=[PyData.int 1,.int 2,.int 4,.int 60]) r0 (by exact r1)
  simp only[mem_cons,not_mem_nil,or_false] at hm
  rcases hm with rfl|rfl|rfl|rfl
  ·exact⟨1,e,⋯,⋯⟩
  ·exact⟨2,e,⋯,⋯⟩
  ·exact⟨4,e,⋯,⋯⟩
  ·exact⟨60,e,⋯,⋯⟩
 obtain⟨m,em,m1,m60⟩:=hm
 walk_at "rb"
 rw[em]
 walk_at "rb"
 rw[lI]
 walk_at "rb"
 refine⟨∅,fun y ρ U=>∃L done r6 r7 r8 r9 r10,ρ=[some (.m a),some (.v (.int (C:Nat))),some (.v (.int (R:Nat))),some (.b p),some (.m f),some (.v (.int (m:Nat))),r6,r7,r8,r9,r10]/\Blk Z a p f L done U/\(∀x,x∈done↔x∈GR.cells L)/\GR.Laid L C R 0 y,⟨[],[],_,_,_,_,_,rfl,st0,fun x=>Iff.rfl,GR.Laid.nil⟩,?_,?_⟩
 ·rintro y x ρ U hx ⟨L,done,r6,r7,r8,r9,r10,rfl,st,mem,laid⟩
  obtain⟨rfl,hy⟩:=wb hx
  rw[Int.zero_add]
  walk_at "rb"
  rw[lI]
  walk_at "rb"
  refine⟨∅,fun c ρ U=>∃L done r7 r8 r9 r10,ρ=[some (.m a),some (.v (.int (C:Nat))),some (.v (.int (R:Nat))),some (.b p),some (.m f),some (.v (.int (m:Nat))),some (.v (.int (y:Nat))),r7,r8,r9,r10]/\Blk Z a p f L done U/\(∀x,x∈done↔x∈GR.cells L)/\GR.Laid L C R c y,⟨L,done,_,_,_,_,rfl,st,mem,laid⟩,?_,?_⟩
  ·clear st mem laid L done
   rintro c x ρ U hx2 ⟨L,done,r7,r8,r9,r10,rfl,st,mem,laid⟩
   obtain⟨rfl,hc⟩:=wb hx2
   rw[Int.zero_add]
   have hc':c<C:=by omega
   have hy':y<R:=by omega
   have fits:∀q∈L,q.r<=C/\q.t<=R:=fun q hq=>by have:=laid.fits q hq;omega
   have few:done.length<=900:=le_trans (sub_len fits st.nd fun x hx=>(mem x).mp hx) cr
   walk_at "rb"
   refine⟨_,p,_,rfl,rfl,st.hp,by show (done.map eE).length<=9800;rw[length_map];omega,fun _=>⟨_,rfl⟩,?_⟩
   walk_at "rb"
   have lc:=jq (x:=(c,y)) done
   by_cases cc:(c,y)∈done
   ·rw[dJ (by show ¬ (!(cg _ (gb (c,y))).isSome)=true;rw[lc,decide_eq_true cc];decide)]
    walk_at "rb"
    exact⟨L,done,_,_,_,_,rfl,st,mem,laid.met (GR.jh.mp ((mem _).mp cc))⟩
   ·rw[fk (by show (!(cg _ (gb (c,y))).isSome)=true;rw[lc,decide_eq_false cc];decide)]
    walk_at "rb"
    refine⟨p,done,c,y,C,rfl,st.hp,∅,∅,fun n n1 n2 n3=>?_⟩
    have n0:1<=n:=by
     rcases Nat.eq_zero_or_pos n with z|z
     ·rw[z,Nat.add_zero] at n3
      rcases n3 with n3|n3
      ·omega
      ·exact absurd n3 cc
     ·exact z
    walk_at "rb"
    refine⟨a,_,rfl,∅,∅,st.bag,fun w0 am w1 w2 s2=>?_⟩
    replace st:=st.step s2
    obtain⟨w,hw⟩:∃w:Nat,1+w0=(w:Int):=⟨(1+w0).toNat,∅⟩
    walk_at "rb"
    rw[hw]
    refine⟨a,_,rfl,∅,∅,st.bag,fun h0 be h1 h2 s3=>?_⟩
    replace st:=st.step s3
    obtain⟨k,hk⟩:∃k:Nat,1+h0=(k:Int):=⟨(1+h0).toNat,∅⟩
    walk_at "rb"
    rw[hk,st.hf]
    walk_at "rb"
    have lL:L.length<=C*R:=vn (fun q hq=>by have:=laid.fits q hq;omega) laid.apart
    refine⟨by rw[length_map];omega,?_⟩
    have w1':1<=w:=by omega
    have wn:w<=n:=by omega
    have k1':1<=k:=by omega
    have kR:y+k<=R:=by omega
    have free:∀i,c<=i->i<c+w->∀q∈L,¬ q.has i y:=fun i i1 i2 q hq hh=>n2 i i1 ∅ ((mem _).mpr (GR.jh.mpr ⟨q,hq,hh⟩))
    have laid2:=laid.put w1' k1' ∅ kR free
    have eb:PyData.tuple [PyData.int (c:Nat),.int (y:Nat),.int (w:Nat),.int (k:Nat)]=bxD ⟨c,c+w,y,y+k⟩:=by
     unfold bxD
     dsimp only
     rw[Nat.add_sub_cancel_left,Nat.add_sub_cancel_left]
    rw[eb]
    have st2:=st.app (q:=⟨c,c+w,y,y+k⟩)
    clear st
    have fits2:∀q∈L++[⟨c,c+w,y,y+k⟩],q.r<=C/\q.t<=R:=fun q hq=>by have:=laid2.fits q hq;omega
    have wk:w*k<=3600:=mul_le_mul (show w<=60 by omega) (show k<=60 by omega)
    rw[lI]
    walk_at "rb"
    have mk:((w:Nat):Int)*((k:Nat):Int)=((w*k:Nat):Int):=by rw[Int.natCast_mul]
    rw[mk]
    refine⟨fH (Sz.of (n:=10) ∅) (Sz.of (n:=10) ∅) ⋯,∅,fun j ρ U=>∃done' r10,ρ=[some (.m a),some (.v (.int (C:Nat))),some (.v (.int (R:Nat))),some (.b p),some (.m f),some (.v (.int (m:Nat))),some (.v (.int (y:Nat))),some (.v (.int (c:Nat))),some (.v (.int (w:Nat))),some (.v (.int (k:Nat))),r10]/\Blk Z a p f (L++[⟨c,c+w,y,y+k⟩]) done' U/\(∀x,x∈done'↔x∈GR.cells L\/∃i,i<j/\x=(c+i % w,y+i / w)),⟨done,_,rfl,st2,fun x=>by rw[mem];exact⟨.inl,fun h=>h.elim id fun ⟨i,hi,_⟩=>absurd hi (not_lt_zero _)⟩⟩,?_,?_⟩
    ·rintro j x ρ U hx3 ⟨done',r10',rfl,st3,mem3⟩
     obtain⟨rfl,hj⟩:=wb hx3
     rw[Int.zero_add]
     have hj':j<w*k:=by omega
     have sub3:∀x∈done',x∈GR.cells (L++[⟨c,c+w,y,y+k⟩]):=fun x hx=>by
      rw[zO,mem_append]
      rcases (mem3 x).mp hx with h|⟨i,hi,rfl⟩
      ·exact .inl h
      ·exact .inr (FF (x:=(0,0)) (y:=(0,0)) ∅)
     have few3:done'.length<=900:=le_trans (sub_len fits2 st3.nd sub3) cr
     walk_at "rb"
     have em1:((j:Nat):Int).fmod ((w:Nat):Int)=((j % w:Nat):Int):=by rw[Int.fmod_eq_emod_of_nonneg _ ∅];rfl
     rw[em1,Pj]
     have kc:oi (.v (.tuple [.int ((c:Nat)+((j % w:Nat):Int)),.int ((y:Nat)+((j / w:Nat):Int))]))=some (gb (c+j % w,y+j / w)):=by
      show some _=some _
      unfold gb
      simp only[Int.natCast_add]
     refine⟨∅,BE ∅ (Sz.of (n:=10) ∅) ⋯,p,_,_,_,rfl,rfl,kc,st3.hp,by rw[length_map];omega,_,_,rfl,st3.put,fun x=>?_⟩
     have e:(x∈if (c+j % w,y+j / w)∈done' then done' else done'++[(c+j % w,y+j / w)])↔x∈done'\/x=(c+j % w,y+j / w):=by
      split
      ·rename_i z
       exact⟨.inl,fun h=>h.elim id fun h=>h▸z⟩
      ·rw[mem_append,mem_singleton]
     rw[e,mem3]
     constructor
     ·rintro ((h|⟨i,hi,rfl⟩)|rfl)
      ·exact .inl h
      ·exact .inr ⟨i,∅,rfl⟩
      ·exact .inr ⟨j,∅,rfl⟩
     ·rintro (h|⟨i,hi,rfl⟩)
      ·exact .inl (.inl h)
      ·rcases lt_or_eq_of_le (le_of_lt_succ hi) with z|z
       ·exact .inl (.inr ⟨i,z,rfl⟩)
       ·subst z;exact .inr rfl
    ·rintro ρ U ⟨done',r10',rfl,st3,mem3⟩
     rw[o7,show ((w*k:Nat):Int).toNat=w*k by omega] at mem3
     refine⟨_,done',_,_,_,_,rfl,st3,fun x=>?_,laid2⟩
     rw[mem3,zO,mem_append]
     constructor
     ·rintro (h|⟨i,hi,rfl⟩)
      ·exact .inl h
      ·exact .inr (FF (x:=(0,0)) (y:=(0,0)) hi)
     ·rintro (h|h)
      ·exact .inl h
      ·obtain⟨i,hi,e⟩:=Mh (i:=x.1) (j:=x.2) h
       exact .inr ⟨i,hi,e⟩
  ·rintro ρ U ⟨L,done,r7,r8,r9,r10,rfl,st,mem,laid⟩
   rw[o7,show ((C:Nat):Int).toNat=C by omega] at laid
   exact⟨L,done,_,_,_,_,_,rfl,st,mem,laid.row⟩
 ·rintro ρ U ⟨L,done,r6,r7,r8,r9,r10,rfl,st,mem,laid⟩
  rw[o7,show ((R:Nat):Int).toNat=R by omega] at laid
  walk_at "rb"
  exact q f L U hf' laid.done st.hf ⟨st.bag,st.keep⟩
end
noncomputable def Six(k:Nat)(x:N3):Prop:=∃A B:Int,Rep x A B 6/\A.natAbs<=k/\B.natAbs<=k
noncomputable def zL(d:Int)(x:N3):Prop:=Ok x/\Bd 6 x/\sg d x.a x.b=1/\Six 60 x
noncomputable def rX:DSp:=fun ds Z Q=>∃(a:Addr) (d way:Int),ds=[.m a,.v (.int d),.v (.int way)]/\aJ d/\Bag Z a/\∀x U,zL d x->Step a Z U->Q (.v (dN x)) U
theorem Gf{ds:List D}{Z:Mu}{Q:DK}(h:rX ds Z Q):ds.length=3:=by obtain⟨_,_,_,rfl,_⟩:=h;rfl
noncomputable def tX:DSp:=fun ds Z Q=>∃(a:Addr) (d:Int) (n:Nat),ds=[.m a,.v (.int d),.v (.int (n:Nat))]/\aJ d/\Bag Z a/\n<=60/\∀(ss:List N3) U,ss.length=n->(∀s∈ss,zL d s)->Step a Z U->Q (.v (.list (ss.map dN))) U
theorem Ep{ds:List D}{Z:Mu}{Q:DK}(h:tX ds Z Q):ds.length=3:=by obtain⟨_,_,_,rfl,_⟩:=h;rfl
noncomputable def C5:DSp:=fun ds Z Q=>∃(d:Int) (ss:List N3),ds=[.v (.list (ss.map dN))]/\aJ d/\ss.length<=60/\(∀s∈ss,zL d s)/\∀f (xs:List N3) U,Z f=none->eS Z U->gE d xs ss.length->(∀x∈xs,Six 3600 x)->U f=some (xs.map dN)->Q (.m f) U
noncomputable def Cq:DSp:=fun ds Z Q=>∃(d:Int) (ss:List N3),ds=[.v (.list (ss.map dN))]/\aJ d/\ss.length<=60/\(∀s∈ss,zL d s)/\∀xs,gE d xs ss.length->(∀x∈xs,Six 3600 x)->Q (.v (.list (xs.map dN))) Z
theorem E1{ds:List D}{Z:Mu}{Q:DK}(h:C5 ds Z Q):ds.length=1:=by obtain⟨_,_,rfl,_⟩:=h;rfl
theorem As{ds:List D}{Z:Mu}{Qd:DK}(h:Cq ds Z Qd):C5 ds Z (frz Z Qd):=by
 obtain⟨d,ss,rfl,hd,l,g,q⟩:=h
 exact⟨d,ss,rfl,hd,l,g,fun f xs U hf sb fi bd e=>⟨⟨hf,sb⟩,_,e,q xs fi bd⟩⟩
noncomputable def sE:DSp:=fun ds Z Q=>∃(a:Addr) (xs:List PyData),ds=[.m a,.v (.list xs)]/\Bag Z a/\xs.length<=900/\∀(zs:List PyData) U,zs.Perm xs->iF a Z U->Q (.v (.list zs)) U
theorem Dy{ds:List D}{Z:Mu}{Q:DK}(h:sE ds Z Q):ds.length=2:=by obtain⟨_,_,rfl,_⟩:=h;rfl
noncomputable def xc:DSp:=fun ds Z Q=>∃(a:Addr),ds=[.m a]/\Bag Z a/\∀(C R:Nat) U,0<C->0<R->C<=60->R<=60->C*R<=60->Step a Z U->Q (.v (.tuple [.int (C:Nat),.int (R:Nat)])) U
theorem FO{ds:List D}{Z:Mu}{Q:DK}(h:xc ds Z Q):ds.length=1:=by obtain⟨_,rfl,_⟩:=h;rfl
noncomputable def mP:DTS:=
 (aP (cC (dB (dOp (de false) (ai 2) (dC (.int 0)))) (bq (bO (ag (bZ (dC (.int 1)) (ay bB (ag (ai 0) (ag (dC (.int 6)) av)))) (ag (dC (.int 0)) (ag (dC (.int 1)) av))))) bI)
 (aP (cC (dB (dOp (de false) (ai 2) (dC (.int 1)))) (bq (ay cO (ag (bZ (dC (.int 1)) (ay bB (ag (ai 0) (ag (dC (.int 9)) av)))) (ag (dC (.int 0)) (ag (bZ (dC (.int 1)) (ay bB (ag (ai 0) (ag (dC (.int 3)) av)))) av))))) bI)
 (aP (bo (ay cO (ag (lH (ay bB (ag (ai 0) (ag (dC (.int 19)) av))) (dC (.int 9))) (ag (lH (ay bB (ag (ai 0) (ag (dC (.int 9)) av))) (dC (.int 4))) (ag (bZ (dC (.int 1)) (ay bB (ag (ai 0) (ag (dC (.int 2)) av)))) av)))) (aq 3))
 (aP (bo (ay kJ (ag (ai 1) (ag (ai 3) av))) (aq 4))
 (aP (cC (dB (dOp (de false) (ai 4) (dC (.int 0)))) (bq (bO (ag (dC (.int 1)) (ag (dC (.int 1)) (ag (dC (.int 1)) av))))) bI)
 (bq (dIf (dB (dOp rGt (ai 4) (dC (.int 0)))) (ai 3) (ay pT (ag (ai 3) av)))))))))
noncomputable def ku:DTS:=
 (aP (bo (ay bB (ag (ai 0) (ag (dC (.int 4)) av))) (aq 3))
 (aP (cC (dB (dOp (de false) (ay bB (ag (ai 0) (ag (dC (.int 4)) av))) (dC (.int 0)))) (bq (dOp Gh (qi (ag (ay rX (ag (ai 0) (ag (ai 1) (ag (ai 3) av)))) av)) (ai 2))) bI)
 (bq (ju [none,some 0,some 1,some 3] (kS (ag (ai 2) av)) (aq 0) gH (ay rX (ag (ai 1) (ag (ai 2) (ag (ai 3) av))))))))
noncomputable def mV:DTS:=
 (aP (bo (vS (ag (bO (ag (dC (.int 0)) (ag (dC (.int 0)) (ag (dC (.int 1)) av)))) av)) (aq 1))
 (aP (qH (iV (ai 0)) (aq 2) (nC (Il (ai 1) (ay mO (ag (dOp aM (ai 1) (yx (dC (.int 1)))) (ag (ai 2) av))))))
 (bq (ai 1))))
noncomputable def kG:DTS:=
 (aP (bo (dCB CG (ag (ai 1) av)) (aq 2))
 (bq (ju [none,some 2,some 0] (iV (ai 1)) (aq 0) gH (IV (ai 1) (ay bB (ag (ai 2) (ag (dCB cZ (ag (ai 1) av)) av)))))))
noncomputable def eU:DTS:=
 (aP (bo (ay bB (ag (ai 0) (ag (dC (.int 16)) av))) (aq 1))
 (aP (cC (dB (dOp (de false) (ai 1) (dC (.int 0)))) (bq (dOp aM (qi (ag (bO (ag (dC (.int 10)) (ag (dC (.int 6)) av))) (ag (bO (ag (dC (.int 6)) (ag (dC (.int 10)) av))) (ag (bO (ag (dC (.int 60)) (ag (dC (.int 1)) av))) (ag (bO (ag (dC (.int 1)) (ag (dC (.int 60)) av))) (ag (bO (ag (dC (.int 12)) (ag (dC (.int 5)) av))) (ag (bO (ag (dC (.int 7)) (ag (dC (.int 8)) av))) av))))))) (ay bB (ag (ai 0) (ag (dC (.int 6)) av))))) bI)
 (aP (cC (dB (dOp rLt (ai 1) (dC (.int 4)))) (bq (bO (ag (bZ (dC (.int 1)) (ay bB (ag (ai 0) (ag (dC (.int 6)) av)))) (ag (bZ (dC (.int 1)) (ay bB (ag (ai 0) (ag (dC (.int 6)) av)))) av)))) bI)
 (bq (bO (ag (bZ (dC (.int 1)) (ay bB (ag (ai 0) (ag (dC (.int 4)) av)))) (ag (bZ (dC (.int 1)) (ay bB (ag (ai 0) (ag (dC (.int 4)) av)))) av)))))))
section
variable {Z:Mu}{Qd:DK}{ds:List D}
theorem Fl{a b c:Int}(ha:a.natAbs<64)(hb:b.natAbs<64)(hc:c.natAbs<64):Bd 6 ⟨a,b,c⟩:=⟨Sz.of ha,Sz.of hb,Sz.of hc⟩
theorem Lr{a b c:Int}(h:c≠0)(ha:a.natAbs<64)(hb:b.natAbs<64)(hc:c.natAbs<64):Bd 6 (low a b c):=qJ h (Sz.of ha) (Sz.of hb) (Sz.of hc)
theorem Jg{d a:Int}(h:0<a):sg d a 0=1:=by
 unfold sg
 rw[if_neg ∅,if_pos ∅]
theorem Li{a:Int}:Ok ⟨a,0,1⟩:=by
 have:=jn a 0 (show (1:Int)≠0 by decide)
 have e:low a 0 1=⟨a,0,1⟩:=by
  obtain⟨k,_,hk,p1,p2,p3,_⟩:=pA a 0 (show (1:Int)≠0 by decide)
  have hk1:k=1:=Int.eq_one_of_mul_eq_one_right ∅ p3.symm
  subst hk1
  rw[Int.one_mul] at p1 p2 p3
  exact N3.ext' p1.symm p2.symm p3.symm
 rw[e] at this
 exact this
theorem qE{x:N3}{a b c m:Int}{k:Nat}(h:Rep x a b c)(e:c*m=6)(ha:(a*m).natAbs<=k)(hb:(b*m).natAbs<=k):Six k x:=by
 have hm:m≠0:=fun z=>by rw[z,Int.mul_zero] at e;cases e
 refine⟨a*m,b*m,⟨⋯,?_,?_⟩,ha,hb⟩
 ·have:=h.a;rw[<- e];grind
 ·have:=h.b;rw[<- e];grind
theorem LV{x y:N3}{k l:Nat}(ox:Ok x)(oy:Ok y)(h:Six k x)(g:Six l y):Six (k+l) (plus x y):=by
 obtain⟨A,B,r,ha,hb⟩:=h
 obtain⟨A',B',r',ha',hb'⟩:=g
 have z:=r.plus ox oy r'
 refine⟨A+A',B+B',⟨⋯,?_,?_⟩,∅,∅⟩
 ·exact Int.eq_of_mul_eq_mul_left (show (6:Int)≠0 by decide) (by have:=z.a;grind)
 ·exact Int.eq_of_mul_eq_mul_left (show (6:Int)≠0 by decide) (by have:=z.b;grind)
theorem xy{x:N3}{k:Nat}(ox:Ok x)(h:Six k x)(hk:k<=4000):Bd 12 x:=by
 obtain⟨A,B,r,ha,hb⟩:=h
 have e:x=low A B 6:=r.eq ox (jn _ _ ⋯) (dZ ⋯) rfl rfl
 rw[e]
 exact qJ ⋯ (Sz.of ∅) (Sz.of ∅) (Sz.of ⋯)
theorem GZ{x:N3}{k:Nat}(ox:Ok x)(h:Six k x)(hk:k<=8000):Bd 13 x:=by
 obtain⟨A,B,r,ha,hb⟩:=h
 have e:x=low A B 6:=r.eq ox (jn _ _ ⋯) (dZ ⋯) rfl rfl
 rw[e]
 exact qJ ⋯ (Sz.of ∅) (Sz.of ∅) (Sz.of ⋯)
theorem Gm{x y:N3}{k l:Nat}(ox:Ok x)(oy:Ok y)(h:Six k x)(g:Six l y):Six (k+l) (less x y):=by
 obtain⟨A,B,r,ha,hb⟩:=h
 obtain⟨A',B',r',ha',hb'⟩:=g
 have z:=r.less ox oy r'
 refine⟨A-A',B-B',⟨⋯,?_,?_⟩,∅,∅⟩
 ·exact Int.eq_of_mul_eq_mul_left (show (6:Int)≠0 by decide) (by have:=z.a;grind)
 ·exact Int.eq_of_mul_eq_mul_left (show (6:Int)≠0 by decide) (by have:=z.b;grind)
theorem Lb{x:N3}{k:Nat}(h:Six k x):Six k (minus x):=by
 obtain⟨A,B,r,ha,hb⟩:=h
 exact⟨-A,-B,r.minus,∅,∅⟩
theorem B8(h:rX ds Z Qd):mP ‹Qd› (aO ["","","","",""] ds) Z:=by
 obtain⟨a,d,way,rfl,hd,hb,q⟩:=h
 unfold mP
 walk_at "rb"
 by_cases c0:way=0
 ·rw[fk (decide_eq_true c0)]
  walk_at "rb"
  refine⟨a,6,rfl,⋯,⋯,hb,fun r ad r0 r1 s1=>?_⟩
  walk_at "rb"
  exact q ⟨1+r,0,1⟩ ad ⟨Li,Fl ∅ ⋯ ⋯,show sg d (1+r) 0=1 from Jg ∅,qE (a:=1+r) (b:=0) (c:=1) (m:=6) ⟨⋯,rfl,rfl⟩ ⋯ ∅ ⋯⟩ s1
 rw[dJ (by simpa using c0)]
 walk_at "rb"
 by_cases c1:way=1
 ·rw[fk (decide_eq_true c1)]
  walk_at "rb"
  refine⟨a,9,rfl,⋯,⋯,hb,fun r ad r0 r1 s1=>?_⟩
  walk_at "rb"
  refine⟨a,3,rfl,⋯,⋯,s1.1,fun r' am r0' r1' s2=>?_⟩
  walk_at "rb"
  refine⟨_,_,_,rfl,∅,Sz.mono (Sz.of (n:=6) ∅) ⋯,?_⟩
  walk_at "rb"
  refine q _ am ⟨jn _ _ ∅,Lr ∅ ∅ ⋯ ∅,?_,?_⟩ (s1.trans s2)
  ·rw[Hm hd ∅]
   exact Jg ∅
  ·rcases (by omega:r'=0\/r'=1\/r'=2) with rfl|rfl|rfl
   ·exact qE (m:=6) (dZ ⋯) ⋯ ∅ ⋯
   ·exact qE (m:=3) (dZ ⋯) ⋯ ∅ ⋯
   ·exact qE (m:=2) (dZ ⋯) ⋯ ∅ ⋯
 rw[dJ (by simpa using c1)]
 walk_at "rb"
 refine⟨a,19,rfl,⋯,⋯,hb,fun r ad r0 r1 s1=>?_⟩
 walk_at "rb"
 refine⟨a,9,rfl,⋯,⋯,s1.1,fun r' am r0' r1' s2=>?_⟩
 walk_at "rb"
 refine⟨a,2,rfl,⋯,⋯,s2.1,fun r2 be r02 r12 s3=>?_⟩
 have s13:=(s1.trans s2).trans s3
 walk_at "rb"
 refine⟨_,_,_,rfl,∅,Sz.mono (Sz.of (n:=6) ∅) ⋯,?_⟩
 have ox:Ok (low (r-9) (r'-4) (1+r2)):=jn _ _ ∅
 have bx:Bd 6 (low (r-9) (r'-4) (1+r2)):=Lr ∅ ∅ ∅ ∅
 have sx:Six 60 (low (r-9) (r'-4) (1+r2)):=by
  rcases (by omega:r2=0\/r2=1) with rfl|rfl
  ·exact qE (m:=6) (dZ ⋯) ⋯ ∅ ∅
  ·exact qE (m:=3) (dZ ⋯) ⋯ ∅ ∅
 generalize low (r-9) (r'-4) (1+r2)=x at ox bx sx
 walk_at "rb"
 refine⟨d,x,rfl,hd,bx.mono ⋯,?_⟩
 walk_at "rb"
 by_cases z:sg d x.a x.b=0
 ·rw[fk (decide_eq_true z)]
  walk_at "rb"
  exact q ⟨1,1,1⟩ be ⟨⟨⋯,⋯⟩,Fl ⋯ ⋯ ⋯,by unfold sg;simp,qE (m:=6) (bL ⟨⋯,⋯⟩) ⋯ ⋯ ⋯⟩ s13
 rw[dJ (by simpa using z)]
 walk_at "rb"
 have tri:=oI d x.a x.b
 by_cases z1:sg d x.a x.b>0
 ·rw[fk (decide_eq_true z1)]
  walk_at "rb"
  exact q x be ⟨ox,bx,∅,sx⟩ s13
 ·rw[dJ (by simpa using z1)]
  walk_at "rb"
  refine⟨x,rfl,?_⟩
  walk_at "rb"
  refine q _ be ⟨pG ox,xT bx,?_,Lb sx⟩ s13
  show sg d (-x.a) (-x.b)=1
  rw[yP hd]
  omega
theorem LB{a p:Addr}{U:Mu}(hb:Bag U a)(hp:Z p=none)(pa:a≠p)(k:∀b,b≠a->b≠p->U b=Z b):Step a Z (kZ U p):=by
 obtain⟨g,m,e,r⟩:=hb
 refine⟨⟨g,m,by rw[iE pa];exact e,r⟩,fun b n=>?_⟩
 by_cases z:b=p
 ·rw[z,jx,hp]
 ·rw[iE z];exact k b n z
theorem u4{a p:Addr}(hb:Bag Z a)(hp:Z p=none):a≠p:=fun e=>by
 obtain⟨g,m,h,_⟩:=hb
 rw[e,hp] at h
 cases h
theorem MB{α:Type}(n:Nat)(x:α):(List.replicate n [x]).flatten=List.replicate n x:=by
 induction n with
 |zero=>rfl
 |succ n ih=>rw[replicate_succ,replicate_succ,flatten_cons,ih];rfl
theorem Ar(h:tX ds Z Qd):ku ‹Qd› (aO ["","","",""] ds) Z:=by
 obtain⟨a,d,n,rfl,hd,hb,n60,q⟩:=h
 unfold ku
 walk_at "rb"
 refine⟨a,4,rfl,⋯,⋯,hb,fun way ad _ _ s1=>?_⟩
 walk_at "rb"
 refine⟨a,4,rfl,⋯,⋯,s1.1,fun r am _ _ s2=>?_⟩
 have s12:=s1.trans s2
 walk_at "rb"
 by_cases c:r=0
 ·rw[fk (decide_eq_true c)]
  walk_at "rb"
  refine⟨a,d,way,rfl,hd,s2.1,fun x be gx s3=>?_⟩
  walk_at "rb"
  refine⟨⟨∅,∅,∅⟩,?_⟩
  have:=q (List.replicate n x) be (by rw[List.length_replicate]) (fun s hs=>by rw[(List.mem_replicate.mp hs).2];exact gx) (s12.trans s3)
  have e:(List.replicate (((n:Nat):Int).toNat) [dN x]).flatten=(List.replicate n x).map dN:=by
   rw[show ((n:Nat):Int).toNat=n by omega]
   exact MB n (dN x) |>.trans (by rw[List.map_replicate])
  rw[e]
  exact this
 ·rw[dJ (by simpa using c)]
  walk_at "rb"
  rw[mK]
  walk_at "rb"
  refine⟨∅,by rw[o7];omega,fun p hp=>?_⟩
  have pa:=u4 s2.1 hp
  refine⟨fun i acc U=>∃ss:List N3,acc=ss.map dN/\ss.length=i/\(∀s∈ss,zL d s)/\Bag U a/\∀b,b≠a->b≠p->U b=am b,⟨[],rfl,rfl,fun _ z=>absurd z not_mem_nil,s2.1.off pa,fun b _ n2=>aT n2⟩,?_,?_⟩
  ·rintro i x acc U hx ha ⟨ss,rfl,hl,g,hb',k⟩
   walk_at "rb"
   refine⟨⟨trivial,trivial,trivial,trivial⟩,?_⟩
   rw[if_pos trivial]
   refine⟨a,d,way,rfl,hd,hb',fun x be gx s3=>?_⟩
   walk_at "rb"
   refine⟨by rw[s3.2 p pa.symm];exact ha,ss++[x],by rw[map_append];rfl,by rw[length_append,hl];rfl,fun s hs=>?_,s3.1.off pa,fun b n1 n2=>by rw[aT n2,s3.2 b n1];exact k b n1 n2⟩
   rcases List.mem_append.mp hs with z|z
   ·exact g s z
   ·rw[List.mem_singleton.mp z];exact gx
  ·rintro acc U ⟨ss,rfl,hl,g,hb',k⟩ ha
   rw[o7] at hl
   exact q ss _ ∅ g (s12.trans (LB hb' hp pa k))
theorem gE.snoc{d:Int}(hd:aJ d){xs:List N3}{C:Nat}{l s:N3}(f:gE d xs C)(hl:xs.getLast? = some l)(os:Ok s)(ss:sg d s.a s.b=1):gE d (xs++[plus l s]) (C+1):=by
 have ne:xs≠[]:=fun e=>by rw[e] at hl;cases hl
 have l0:=List.length_pos_iff.mpr ne
 have lm:l∈xs:=yT hl
 have ol:=f.ok l lm
 refine⟨by rw[length_append,f.len];rfl,?_,fun x hx=>?_,?_⟩
 ·refine List.pairwise_append.mpr ⟨f.up,List.pairwise_singleton _ _,fun a ha b hb=>?_⟩
  rw[List.mem_singleton.mp hb]
  have e:dif d (plus l s) l=1:=by rw[Lp hd ol os];exact ss
  by_cases z:a=l
  ·rw[z];exact e
  ·refine lz hd (gu ol os) ol (f.ok a ha) e ?_
   obtain⟨i,hi,rfl⟩:=List.mem_iff_getElem.mp ha
   have el:=N6 hl ∅
   rw[<- el]
   refine List.pairwise_iff_getElem.mp f.up _ _ hi ∅ ?_
   rcases lt_or_ge i (xs.length-1) with y|y
   ·exact y
   ·exact absurd (by rw[<- el];congr 1;omega) z
 ·rcases List.mem_append.mp hx with z|z
  ·exact f.ok x z
  ·rw[List.mem_singleton.mp z];exact gu ol os
 ·rw[getElem?_append_left l0];exact f.zero
theorem Co(h:C5 ds Z Qd):mV ‹Qd› (aO ["","",""] ds) Z:=by
 obtain⟨d,ss,rfl,hd,l60,gs,q⟩:=h
 unfold mV
 walk_at "rb"
 intro f hf
 rw[lI]
 walk_at "rb"
 refine⟨fun i ρ U=>∃r2 xs,ρ=[some (.v (.list (ss.map dN))),some (.m f),r2]/\eS Z U/\U f=some (xs.map dN)/\gE d xs i/\(∀x∈xs,Six (60*i) x),⟨_,[aC],rfl,eS.refl.set hf,by rw[aI];rfl,⟨rfl,List.pairwise_singleton _ _,fun x hx=>by rw[List.mem_singleton.mp hx];exact ue,rfl⟩,fun x hx=>by rw[List.mem_singleton.mp hx];exact⟨0,0,⟨⋯,rfl,rfl⟩,⋯,⋯⟩⟩,?_,?_⟩
 ·rintro i x ρ U hx ⟨r2,xs,rfl,sb,hm,fi,bd⟩
  obtain⟨s,es,rfl⟩:=wU hx
  have hi:i<ss.length:=(List.getElem?_eq_some_iff.mp es).1
  obtain⟨os,bs,sgs,six⟩:=gs s (mem_of_getElem? es)
  have ne:xs≠[]:=fun e=>by have:=fi.len;rw[e] at this;cases this
  obtain⟨l,hl⟩:∃l,xs.getLast? = some l:=⟨xs.getLast ne,List.getLast?_eq_getLast ne⟩
  have ol:=fi.ok l (yT hl)
  have sl:=bd l (yT hl)
  have bl:=xy ol sl ∅
  walk_at "rb"
  rw[hm]
  dsimp only
  rw[sj hl]
  walk_at "rb"
  refine⟨l,s,rfl,ol,os,bl.mono ∅,bs.mono ⋯,?_⟩
  walk_at "rb"
  rw[hm]
  dsimp only
  refine⟨by rw[length_map,fi.len];omega,_,xs++[plus l s],rfl,sb.set hf,by rw[aI,map_append];rfl,fi.snoc hd hl os sgs,fun x hx=>?_⟩
  rcases List.mem_append.mp hx with z|z
  ·obtain⟨A,B,r,ha,hb⟩:=bd x z
   exact⟨A,B,r,∅,∅⟩
  ·rw[List.mem_singleton.mp z]
   exact LV ol os sl six
 ·rintro ρ U ⟨r2,xs,rfl,sb,hm,fi,bd⟩
  rw[length_map] at fi bd
  walk_at "rb"
  exact q f xs U hf sb fi (fun x hx=>by obtain⟨A,B,r,ha,hb⟩:=bd x hx;exact⟨A,B,r,∅,∅⟩) hm
theorem xQ{α:Type}:∀{l:List α} {i:Nat} {x:α},l[i]? = some x->(x::l.eraseIdx i).Perm l
 |[],i,x,h=>by cases h
 |y::l,0,x,h=>by cases h;exact .refl _
 |y::l,i+1,x,h=>by
  rw[List.eraseIdx_cons_succ]
  exact (List.Perm.swap _ _ _).trans ((xQ (l:=l) (i:=i) h).cons y)
theorem Ad(h:sE ds Z Qd):kG ‹Qd› (aO ["","",""] ds) Z:=by
 obtain⟨a,xs,rfl,hb,l9,q⟩:=h
 unfold kG
 walk_at "rb"
 intro l hl
 have al:=u4 hb hl
 walk_at "rb"
 rw[mK]
 walk_at "rb"
 refine⟨∅,fun p hp=>?_⟩
 have lp:l≠p:=fun e=>by rw[<- e,aI] at hp;cases hp
 have pa:a≠p:=u4 (hb.off al) hp
 have hp':Z p=none:=by rw[aT lp.symm] at hp;exact hp
 refine⟨fun i acc U=>∃rest:List PyData,(acc++rest).Perm xs/\rest.length+i=xs.length/\U l=some rest/\Bag U a/\∀b,b≠a->b≠p->b≠l->U b=Z b,⟨xs,.refl _,rfl,by rw[aT lp,aI],(hb.off al).off pa,fun b n1 n2 n3=>by rw[aT n2,aT n3]⟩,?_,?_⟩
 ·rintro i x acc U hx ha ⟨rest,pm,hl2,hr,hb',k⟩
  have hi:i<xs.length:=(List.getElem?_eq_some_iff.mp hx).1
  walk_at "rb"
  refine⟨⟨trivial,trivial,trivial⟩,?_⟩
  rw[if_pos trivial,hr]
  dsimp only
  refine⟨a,_,rfl,∅,∅,hb',fun r be r0 r1 s3=>?_⟩
  walk_at "rb"
  rw[s3.2 l al.symm,hr]
  dsimp only
  have hrl:r.toNat<rest.length:=by omega
  refine⟨⟨r0,∅⟩,rest[r.toNat],getElem?_eq_getElem hrl,?_,rest.eraseIdx r.toNat,?_,?_,?_,?_,?_⟩
  ·rw[aT lp.symm,s3.2 p pa.symm];exact ha
  ·rw[append_assoc]
   exact ((xQ (getElem?_eq_getElem hrl)).append_left acc).trans pm
  ·rw[List.length_eraseIdx_of_lt hrl];omega
  ·rw[aT lp,aI]
  ·exact (s3.1.off al).off pa
  ·intro b n1 n2 n3
   rw[aT n2,aT n3,s3.2 b n1]
   exact k b n1 n2 n3
 ·rintro acc U ⟨rest,pm,hl2,hr,hb',k⟩ ha
  have e:rest=[]:=List.eq_nil_of_length_eq_zero ∅
  rw[e,append_nil] at pm
  obtain⟨g,m,eb,rb⟩:=hb'
  refine q acc _ pm ⟨⟨g,m,by rw[iE pa];exact eb,rb⟩,fun b n1 ds eds=>?_⟩
  have n2:b≠p:=fun z=>by rw[z,hp'] at eds;cases eds
  have n3:b≠l:=fun z=>by rw[z,hl] at eds;cases eds
  rw[iE n2,k b n1 n2 n3]
  exact eds
theorem qT(h:xc ds Z Qd):eU ‹Qd› (aO ["",""] ds) Z:=by
 obtain⟨a,rfl,hb,q⟩:=h
 unfold eU
 walk_at "rb"
 refine⟨a,16,rfl,⋯,⋯,hb,fun r ad _ _ s1=>?_⟩
 walk_at "rb"
 by_cases c:r=0
 ·rw[fk (decide_eq_true c)]
  walk_at "rb"
  refine⟨a,6,rfl,⋯,⋯,s1.1,fun r' am r0 r1 s2=>?_⟩
  walk_at "rb"
  have hm:∃C R:Nat,atI [PyData.tuple [.int 10,.int 6],.tuple [.int 6,.int 10],.tuple [.int 60,.int 1],.tuple [.int 1,.int 60],.tuple [.int 12,.int 5],.tuple [.int 7,.int 8]] r'=some (.tuple [.int (C:Nat),.int (R:Nat)])/\0<C/\0<R/\C<=60/\R<=60/\C*R<=60:=by
   obtain⟨v,e,hm⟩:=pY (xs:=[PyData.tuple [.int 10,.int 6],.tuple [.int 6,.int 10],.tuple [.int 60,.int 1],.tuple [.int 1,.int 60],.tuple [.int 12,.int 5],.tuple [.int 7,.int 8]]) r0 (by exact r1)
   simp only[mem_cons,not_mem_nil,or_false] at hm
   rcases hm with rfl|rfl|rfl|rfl|rfl|rfl
   ·exact⟨10,6,e,⋯,⋯,⋯,⋯,⋯⟩
   ·exact⟨6,10,e,⋯,⋯,⋯,⋯,⋯⟩
   ·exact⟨60,1,e,⋯,⋯,⋯,⋯,⋯⟩
   ·exact⟨1,60,e,⋯,⋯,⋯,⋯,⋯⟩
   ·exact⟨12,5,e,⋯,⋯,⋯,⋯,⋯⟩
   ·exact⟨7,8,e,⋯,⋯,⋯,⋯,⋯⟩
  obtain⟨C,R,e,h1,h2,h3,h4,h5⟩:=hm
  rw[e]
  exact q C R am h1 h2 h3 h4 h5 (s1.trans s2)
 rw[dJ (by simpa using c)]
 walk_at "rb"
 have two:∀(r1 r2:Int) (U:Mu),0<=r1->r1<6->0<=r2->r2<6->Step a Z U->Qd (.v (.tuple [.int (1+r1),.int (1+r2)])) U:=fun r1 r2 U a0 a1 b0 b1 st=>by
  obtain⟨C,hC⟩:∃C:Nat,1+r1=(C:Int):=⟨(1+r1).toNat,∅⟩
  obtain⟨R,hR⟩:∃R:Nat,1+r2=(R:Int):=⟨(1+r2).toNat,∅⟩
  rw[hC,hR]
  refine q C R U ∅ ∅ ∅ ∅ ?_ st
  have:C*R<=6*6:=mul_le_mul ∅ ∅
  omega
 by_cases c4:r<4
 ·rw[fk (decide_eq_true c4)]
  walk_at "rb"
  refine⟨a,6,rfl,⋯,⋯,s1.1,fun r1 am r0 r1' s2=>?_⟩
  walk_at "rb"
  refine⟨a,6,rfl,⋯,⋯,s2.1,fun r2 be r02 r12 s3=>?_⟩
  walk_at "rb"
  exact two r1 r2 be r0 r1' r02 r12 ((s1.trans s2).trans s3)
 ·rw[dJ (by simpa using c4)]
  walk_at "rb"
  refine⟨a,4,rfl,⋯,⋯,s1.1,fun r1 am r0 r1' s2=>?_⟩
  walk_at "rb"
  refine⟨a,4,rfl,⋯,⋯,s2.1,fun r2 be r02 r12 s3=>?_⟩
  walk_at "rb"
  exact two r1 r2 be r0 ∅ r02 ∅ ((s1.trans s2).trans s3)
end
structure Hq(d:Int)(xs ys:List N3)(C R:Nat)(qs:List GR.Bx):Prop where
 fx:gE d xs C
 fy:gE d ys R
 c0:0<C
 r0:0<R
 c60:C<=60
 r60:R<=60
 cr:C*R<=60
 bx:∀x∈xs,Six 3600 x
 by_:∀y∈ys,Six 3600 y
 cov:GR.gF qs C R
noncomputable def Drawn(d:Int)(t:PyData):Prop:=∃xs ys C R qs,Hq d xs ys C R qs/\t=ia (xs.getD C aC) (ys.getD R aC) (qs.map (jN xs ys))
noncomputable def jk:DSp:=fun ds Z Q=>∃(a:Addr),ds=[.m a]/\Bag Z a/\∀(C R:Nat) qs U,0<C->0<R->C<=4->R<=4->GR.gF qs C R->Step a Z U->Q (.v (.tuple [.int (C:Nat),.int (R:Nat),.list (qs.map bxD)])) U
theorem xi{ds:List D}{Z:Mu}{Q:DK}(h:jk ds Z Q):ds.length=1:=by obtain⟨_,rfl,_⟩:=h;rfl
noncomputable def kX:DSp:=fun ds Z Q=>∃(a:Addr) (d:Int) (C R:Nat) (qs:List GR.Bx),ds=[.m a,.v (.int d),.v (.int (C:Nat)),.v (.int (R:Nat)),.v (.list (qs.map bxD))]/\aJ d/\Bag Z a/\0<C/\0<R/\C<=60/\R<=60/\C*R<=60/\GR.gF qs C R /\
 ∀t U,Drawn d t->iF a Z U->Q (.v t) U
theorem Cn{ds:List D}{Z:Mu}{Q:DK}(h:kX ds Z Q):ds.length=5:=by obtain⟨_,_,_,_,_,rfl,_⟩:=h;rfl
noncomputable def pW:DSp:=fun ds Z Q=>∃(a:Addr) (d:Int),ds=[.m a,.v (.int d)]/\aJ d/\Bag Z a/\∀t U,Drawn d t->iF a Z U->Q (.v t) U
theorem Al{ds:List D}{Z:Mu}{Q:DK}(h:pW ds Z Q):ds.length=2:=by obtain⟨_,_,rfl,_⟩:=h;rfl
noncomputable def nj:DTS:=
 (bq (ay mO (ag (ai 0) (ag (ay pT (ag (ai 1) av)) av))))
noncomputable def gX:DTS:=
 (aP (bo (bO (ag (bZ (dC (.int 1)) (ay bB (ag (ai 0) (ag (dC (.int 2)) av)))) (ag (bZ (dC (.int 1)) (ay bB (ag (ai 0) (ag (dC (.int 2)) av)))) av))) (eD 2 (aQ (aq 1) (aQ (aq 2) eK))))
 (aP (bo (qi (ag (bO (ag (dC (.int 0)) (ag (dC (.int 0)) (ag (bZ (ai 1) (dC (.int 1))) (ag (dC (.int 1)) av))))) (ag (bO (ag (bZ (ai 1) (dC (.int 1))) (ag (dC (.int 0)) (ag (dC (.int 1)) (ag (bZ (ai 2) (dC (.int 1))) av))))) (ag (bO (ag (dC (.int 1)) (ag (bZ (ai 2) (dC (.int 1))) (ag (bZ (ai 1) (dC (.int 1))) (ag (dC (.int 1)) av))))) (ag (bO (ag (dC (.int 0)) (ag (dC (.int 1)) (ag (dC (.int 1)) (ag (bZ (ai 2) (dC (.int 1))) av))))) (ag (bO (ag (dC (.int 1)) (ag (dC (.int 1)) (ag (ai 1) (ag (ai 2) av))))) av)))))) (aq 3))
 (aP (cC (dB (dOp (de false) (ay bB (ag (ai 0) (ag (dC (.int 2)) av))) (dC (.int 0)))) (bo (ju [none,none,none,none,some 1] (iV (ai 3)) (eD 4 (aQ (aq 0) (aQ (aq 1) (aQ (aq 2) (aQ (aq 3) eK))))) gH (bO (ag (lH (lH (bZ (ai 4) (dC (.int 2))) (ai 0)) (ai 2)) (ag (ai 1) (ag (ai 2) (ag (ai 3) av)))))) (aq 3)) bI)
 (bq (bO (ag (bZ (ai 1) (dC (.int 2))) (ag (bZ (ai 2) (dC (.int 2))) (ag (ai 3) av))))))))
noncomputable def kD:DTS:=
 (aP (zJ 5 6 (ag (ay Cq (ag (ay tX (ag (ai 0) (ag (ai 1) (ag (ai 2) av)))) av)) (ag (ay Cq (ag (ay tX (ag (ai 0) (ag (ai 1) (ag (ai 3) av)))) av)) av)))
 (aP (bo (vS av) (aq 7))
 (aP (qH (iV (ay sE (ag (ai 0) (ag (ai 4) av)))) (eD 4 (aQ (aq 8) (aQ (aq 9) (aQ (aq 10) (aQ (aq 11) eK))))) (aP (zJ 12 13 (ag (ay xW (ag (dOp aM (ai 5) (bZ (ai 8) (ai 10))) (ag (dOp aM (ai 5) (ai 8)) av))) (ag (ay xW (ag (dOp aM (ai 6) (bZ (ai 9) (ai 11))) (ag (dOp aM (ai 6) (ai 9)) av))) av)))
 (nC (Il (ai 7) (bO (ag (dOp aM (ai 5) (ai 8)) (ag (dOp aM (ai 6) (ai 9)) (ag (ai 12) (ag (ai 13) av)))))))))
 (bq (bO (ag (dOp aM (ai 5) (yx (dC (.int 1)))) (ag (dOp aM (ai 6) (yx (dC (.int 1)))) (ag (dCB nt (ag (ai 7) av)) av))))))))
noncomputable def jA:DTS:=
 (aP (cC (dB (dOp (de false) (ay bB (ag (ai 0) (ag (dC (.int 5)) av))) (dC (.int 0)))) (aP (bo (ay jk (ag (ai 0) av)) (eD 3 (aQ (aq 2) (aQ (aq 3) (aQ (aq 4) eK)))))
 (bq (ay kX (ag (ai 0) (ag (ai 1) (ag (ai 2) (ag (ai 3) (ag (ai 4) av)))))))) bI)
 (aP (bo (ay xc (ag (ai 0) av)) (eD 2 (aQ (aq 2) (aQ (aq 3) eK))))
 (bq (ay kX (ag (ai 0) (ag (ai 1) (ag (ai 2) (ag (ai 3) (ag (ay tO (ag (ai 0) (ag (ai 2) (ag (ai 3) av)))) av)))))))))
section
variable {Z:Mu}{Qd:DK}{ds:List D}
theorem qe{qs:List GR.Bx}{C R:Nat}(h1:qs.all (fun q=>decide (q.l<q.r)&&(decide (q.r<=C)&&(decide (q.b<q.t)&&decide (q.t<=R))))=true)(h2:GR.uC qs C R=true):GR.gF qs C R:=by
 have f:∀q∈qs,q.l<q.r/\q.r<=C/\q.b<q.t/\q.t<=R:=fun q hq=>by
  have:=List.all_eq_true.mp h1 q hq
  simp only[and_eq_true,decide_eq_true_iff] at this
  exact this
 obtain⟨a,b⟩:=(GR.Fs fun q hq=>⟨(f q hq).2.1,(f q hq).2.2.2⟩).mp h2
 exact⟨f,a,b⟩
def qsP(a b:Nat):List GR.Bx:=[⟨0,a+1,0,1⟩,⟨a+1,a+2,0,b+1⟩,⟨1,a+2,b+1,b+2⟩,⟨0,1,1,b+2⟩,⟨1,a+1,1,b+1⟩]
def mir(A:Nat)(q:GR.Bx):GR.Bx:=⟨A-q.r,A-q.l,q.b,q.t⟩
theorem Ta:∀a b:Nat,a=1\/a=2->b=1\/b=2->GR.gF (qsP a b) (a+2) (b+2)/\GR.gF ((qsP a b).map (mir (a+2))) (a+2) (b+2):=by
 rintro a b (rfl|rfl) (rfl|rfl)<;>exact⟨qe ⋯ ⋯,qe ⋯ ⋯⟩
theorem Ss{A:Nat}{q:GR.Bx}(h:q.l<q.r/\q.r<=A):PyData.tuple [.int (((A:Nat):Int)-(q.l:Nat)-((q.r-q.l:Nat):Int)),.int (q.b:Nat),.int ((q.r-q.l:Nat):Int),.int ((q.t-q.b:Nat):Int)]=bxD (mir A q):=by
 unfold bxD mir
 dsimp only
 rw[show ((A:Nat):Int)-(q.l:Nat)-((q.r-q.l:Nat):Int)=((A-q.r:Nat):Int) by omega,show A-q.l-(A-q.r)=q.r-q.l by omega]
theorem Dj(h:xW ds Z Qd):nj ‹Qd› (aO ["",""] ds) Z:=by
 obtain⟨x,y,rfl,ox,oy,bx,by_,q⟩:=h
 unfold nj
 walk_at "rn"
 refine⟨y,rfl,x,minus y,rfl,ox,pG oy,bx.mono ⋯,(xT by_).mono ⋯,?_⟩
 have e:plus x (minus y)=less x y:=Rep.eq (gu ox (pG oy)) (jP ox oy) ((bL ox).plus ox (pG oy) (bL oy).minus) ((bL ox).less ox oy (bL oy)) (by grind) (by grind)
 rw[e]
 exact q
theorem u6(h:jk ds Z Qd):gX ‹Qd› (aO ["","","",""] ds) Z:=by
 obtain⟨a,rfl,hb,q⟩:=h
 unfold gX
 walk_at "rb"
 refine⟨a,2,rfl,⋯,⋯,hb,fun r1 ad r10 r11 s1=>?_⟩
 walk_at "rb"
 refine⟨a,2,rfl,⋯,⋯,s1.1,fun r2 am r20 r21 s2=>?_⟩
 have s12:=s1.trans s2
 walk_at "rb"
 obtain⟨A,hA⟩:∃A:Nat,1+r1=(A:Int):=⟨(1+r1).toNat,∅⟩
 obtain⟨B,hB⟩:∃B:Nat,1+r2=(B:Int):=⟨(1+r2).toNat,∅⟩
 rw[hA,hB]
 have A12:A=1\/A=2:=by omega
 have B12:B=1\/B=2:=by omega
 obtain⟨cv1,cv2⟩:=Ta A B A12 B12
 refine⟨trivial,?_⟩
 refine⟨a,2,rfl,⋯,⋯,s2.1,fun r3 be r30 r31 s3=>?_⟩
 have s13:=s12.trans s3
 walk_at "rb"
 have e0:[PyData.tuple [.int 0,.int 0,.int ((A:Nat)+1),.int 1],.tuple [.int ((A:Nat)+1),.int 0,.int 1,.int ((B:Nat)+1)],.tuple [.int 1,.int ((B:Nat)+1),.int ((A:Nat)+1),.int 1],.tuple [.int 0,.int 1,.int 1,.int ((B:Nat)+1)],.tuple [.int 1,.int 1,.int (A:Nat),.int (B:Nat)]]=(qsP A B).map bxD:=by
  rcases A12 with rfl|rfl<;>rcases B12 with rfl|rfl<;>rfl
 rw[e0]
 by_cases c:r3=0
 ·rw[fk (decide_eq_true c)]
  walk_at "rb"
  rw[mK]
  walk_at "rb"
  refine⟨by rw[length_map];exact (by decide:(5:Nat)<=1000),fun p hp=>⟨fun i acc U=>acc=((qsP A B).take i).map (fun q=>bxD (mir (A+2) q))/\U=az be p acc,⟨rfl,rfl⟩,?_,?_⟩⟩
  ·rintro i x acc U hx ha ⟨e1,e2⟩
   obtain⟨b,eb,rfl⟩:=wU hx
   have fb:=cv1.fits b (mem_of_getElem? eb)
   rw[show bxD b = .tuple [.int (b.l:Nat),.int (b.b:Nat),.int ((b.r-b.l:Nat):Int),.int ((b.t-b.b:Nat):Int)] from rfl]
   walk_at "rb"
   simp only[true_and,and_true,↓reduceIte]
   rw[show ((A:Nat):Int)+2=((A+2:Nat):Int) by omega,Ss ⟨fb.1,fb.2.1⟩]
   refine⟨ha,?_,?_⟩
   ·rw[e1,take_snoc eb,map_append];rfl
   ·rw[e2,fA]
  ·rintro acc U ⟨e1,e2⟩ ha
   rw[length_map,take_length] at e1
   subst e1
   rw[e2,pX hp]
   have:=q (A+2) (B+2) _ be ∅ ∅ ∅ ∅ cv2 s13
   rw[map_map] at this
   exact this
 ·rw[dJ (by simpa using c)]
  walk_at "rb"
  have:=q (A+2) (B+2) _ be ∅ ∅ ∅ ∅ cv1 s13
  exact this
theorem MH{α β:Type}{f:α->β}{zs m:List β}(h:zs.Perm m):∀{qs:List α},m=qs.map f->∃ps:List α,zs=ps.map f/\ps.Perm qs:=by
 induction h with
 |nil=>
  intro qs e
  cases qs with
  |nil=>exact⟨[],rfl,.refl _⟩
  |cons q qs=>cases e
 |cons x h ih=>
  intro qs e
  cases qs with
  |nil=>cases e
  |cons q qs=>
   rw[map_cons] at e
   injection e with e1 e2
   obtain⟨ps,e3,pm⟩:=ih e2
   exact⟨q::ps,by rw[map_cons,e1,e3],pm.cons q⟩
 |swap x y l=>
  intro qs e
  match qs,e with
  |a::b::rest,e=>
   rw[map_cons,map_cons] at e
   injection e with e1 e2
   injection e2 with e2 e3
   exact⟨b::a::rest,by rw[map_cons,map_cons,e1,e2,e3],.swap _ _ _⟩
 |trans h1 h2 ih1 ih2=>
  intro qs e
  obtain⟨ps,e3,pm⟩:=ih2 e
  obtain⟨ps',e4,pm'⟩:=ih1 e3
  exact⟨ps',e4,pm'.trans pm⟩
theorem at_getD{xs:List N3}{i:Nat}(h:i<xs.length):atI (xs.map dN) (i:Int)=some (dN (xs.getD i aC)):=by
 rw[getD_at h]
 exact zu (getElem?_eq_getElem h)
theorem BI{d:Int}{xs:List N3}{C:Nat}(f:gE d xs C):xs.getLast? = some (xs.getD C aC):=by
 rw[List.getLast?_eq_getElem?,f.len,Nat.add_sub_cancel,getElem?_eq_getElem (f.at (le_refl _)),getD_at]
theorem AH(h:kX ds Z Qd):kD ‹Qd› (aO ["","","","","","","","","","","","","",""] ds) Z:=by
 obtain⟨a,d,C,R,qs,rfl,hd,hb,c0,r0,c60,r60,cr,cov,q⟩:=h
 unfold kD
 walk_at "rb"
 refine⟨a,d,C,rfl,hd,hb,c60,fun sx ad lx gx s1=>?_⟩
 walk_at "rb"
 refine⟨d,sx,rfl,hd,∅,gx,fun xs fx bx=>?_⟩
 rw[lx] at fx
 walk_at "rb"
 refine⟨a,d,R,rfl,hd,s1.1,r60,fun sy am ly gy s2=>?_⟩
 walk_at "rb"
 refine⟨d,sy,rfl,hd,∅,gy,fun ys fy by_=>?_⟩
 rw[ly] at fy
 have s12:=(s1.trans s2).w
 walk_at "rb"
 intro f hf
 have af:=u4 s2.1 hf
 rw[lI]
 walk_at "rb"
 have lq:qs.length<=C*R:=vn cov.fits cov.apart
 refine⟨a,_,rfl,s2.1.off af,by rw[length_map];omega,fun zs be pm s3=>?_⟩
 obtain⟨ps,rfl,pp⟩:=MH pm rfl
 have covp:=cov.perm pp
 have lp:ps.length=qs.length:=pp.length_eq
 walk_at "rb"
 have keep:∀b,b≠a->∀es,Z b=some es->b≠f/\be b=some es:=fun b n es e=>by
  have e2:=s12.2 b n es e
  have bf:b≠f:=fun z=>by rw[z,hf] at e2;cases e2
  exact⟨bf,s3.2 b n es (by rw[aT bf];exact e2)⟩
 refine⟨fun i ρ U=>∃r8 r9 r10 r11 r12 r13,ρ=[some (.m a),some (.v (.int d)),some (.v (.int (C:Nat))),some (.v (.int (R:Nat))),some (.v (.list (qs.map bxD))),some (.v (.list (xs.map dN))),some (.v (.list (ys.map dN))),some (.m f),r8,r9,r10,r11,r12,r13]/\Bag U a/\(∀b,b≠a->∀es,Z b=some es->U b=some es)/\U f=some ((ps.take i).map fun q=>tlD (jN xs ys q)),⟨_,_,_,_,_,_,rfl,s3.1,fun b n es e=>(keep b n es e).2,s3.2 f af.symm _ aI⟩,?_,?_⟩
 ·rintro i x ρ U hx ⟨r8,r9,r10,r11,r12,r13,rfl,hb',kp,hf'⟩
  obtain⟨b,eb,rfl⟩:=wU hx
  have hi:i<ps.length:=(List.getElem?_eq_some_iff.mp eb).1
  have fb:=covp.fits b (mem_of_getElem? eb)
  rw[show bxD b = .tuple [.int (b.l:Nat),.int (b.b:Nat),.int ((b.r-b.l:Nat):Int),.int ((b.t-b.b:Nat):Int)] from rfl]
  walk_at "rb"
  rw[show ((b.l:Nat):Int)+((b.r-b.l:Nat):Int)=((b.r:Nat):Int) by omega]
  have g:∀{j},j<=C->Bd 12 (xs.getD j aC):=fun h=>by rw[getD_at (fx.at h)];exact xy (fx.ok _ (getElem_mem _)) (bx _ (getElem_mem _)) ⋯
  have g':∀{j},j<=R->Bd 12 (ys.getD j aC):=fun h=>by rw[getD_at (fy.at h)];exact xy (fy.ok _ (getElem_mem _)) (by_ _ (getElem_mem _)) ⋯
  refine⟨trivial,?_⟩
  rw[at_getD (fx.at (show b.r<=C by omega)),at_getD (fx.at (show b.l<=C by omega))]
  dsimp only
  refine⟨_,_,rfl,fx.cD ∅,fx.cD ∅,(g ∅).mono ⋯,(g ∅).mono ⋯,?_⟩
  walk_at "rb"
  rw[show ((b.b:Nat):Int)+((b.t-b.b:Nat):Int)=((b.t:Nat):Int) by omega]
  rw[at_getD (fy.at (show b.t<=R by omega)),at_getD (fy.at (show b.b<=R by omega))]
  dsimp only
  refine⟨_,_,rfl,fy.cD ∅,fy.cD ∅,(g' ∅).mono ⋯,(g' ∅).mono ⋯,?_⟩
  walk_at "rb"
  rw[at_getD (fx.at (show b.l<=C by omega)),at_getD (fy.at (show b.b<=R by omega))]
  rw[hf']
  dsimp only
  have lt:(ps.take i).length<=60:=by rw[length_take];omega
  refine⟨by rw[length_map];omega,_,_,_,_,_,_,rfl,hb'.off af,fun c n es e=>?_,?_⟩
  ·rw[aT (keep c n es e).1];exact kp c n es e
  ·rw[aI,take_snoc eb,map_append];rfl
 ·rintro ρ U ⟨r8,r9,r10,r11,r12,r13,rfl,hb',kp,hf'⟩
  rw[length_map,take_length] at hf'
  walk_at "rb"
  rw[sj (BI fx),sj (BI fy)]
  walk_at "rb"
  rw[hf']
  dsimp only
  refine q _ U ⟨xs,ys,C,R,ps,⟨fx,fy,c0,r0,c60,r60,cr,bx,by_,covp⟩,?_⟩ ⟨hb',kp⟩
  unfold ia
  rw[map_map]
  rfl
theorem xr(h:pW ds Z Qd):jA ‹Qd› (aO ["","","","",""] ds) Z:=by
 obtain⟨a,d,rfl,hd,hb,q⟩:=h
 unfold jA
 walk_at "rb"
 refine⟨a,5,rfl,⋯,⋯,hb,fun r ad _ _ s1=>?_⟩
 walk_at "rb"
 by_cases c:r=0
 ·rw[fk (decide_eq_true c)]
  walk_at "rb"
  refine⟨a,rfl,s1.1,fun C R qs am c0 r0 c4 r4 cov s2=>?_⟩
  walk_at "rb"
  have:C*R<=4*4:=mul_le_mul c4 r4
  refine⟨trivial,a,d,C,R,qs,rfl,hd,s2.1,c0,r0,∅,∅,∅,cov,fun t be dr s3=>?_⟩
  walk_at "rb"
  exact q t be dr ((s1.trans s2).w.trans s3)
 ·rw[dJ (by simpa using c)]
  walk_at "rb"
  refine⟨a,rfl,s1.1,fun C R am c0 r0 c60 r60 cr s2=>?_⟩
  walk_at "rb"
  refine⟨trivial,a,C,R,rfl,c0,r0,c60,r60,∅,s2.1,fun qs be cov s3=>?_⟩
  walk_at "rb"
  refine⟨a,d,C,R,qs,rfl,hd,s3.1,c0,r0,c60,r60,cr,cov,fun t ce dr s4=>?_⟩
  walk_at "rb"
  exact q t ce dr (((s1.trans s2).w.trans s3).trans s4)
end
noncomputable def rB(n:Nat)(t:PyData):Prop:=Few t/\∀x,t=dN x->Bd n x
noncomputable def TC(z:PyData):Prop:=∀a b c e,z≠.tuple [a,b,c,e]
noncomputable def RB(k:Nat)(ts:List Tl):Prop:=∃X Y:List N3,(∀t∈ts,OnM X Y t)/\X.length<=61+2*k/\Y.length<=61+2*k
noncomputable def Pa(k n:Nat)(t:PyData):Prop:=M8 t/\∀w h ts,t=ia w h ts->Bd n w/\Bd n h/\(∀t∈ts,Bd4 n t)/\RB k ts
structure TOk(t:Tl):Prop where
 x:Ok t.x
 y:Ok t.y
 w:Ok t.w
 h:Ok t.h
structure O6(k n:Nat)(w h:N3)(ts:List Tl):Prop where
 ow:Ok w
 oh:Ok h
 bw:Bd n w
 bh:Bd n h
 ok:∀t∈ts,TOk t
 bd:∀t∈ts,Bd4 n t
 l1:1<=ts.length
 l60:ts.length<=60
 T4:RB k ts
section
variable {Z:Mu}{Qd:DK}{ds:List D}
theorem rB.part{n:Nat}{t:PyData}(h:rB n t)(l:n<=4400):zh t:=⟨h.1,fun x e=>(h.2 x e).mono l⟩
theorem uL{n:Nat}{x:N3}(b:Bd n x):rB n (dN x):=⟨M4,fun y e=>by rw[<- nY e];exact b⟩
theorem OnM.mono{X Y X' Y':List N3}{t:Tl}(h:OnM X Y t)(hx:∀x∈X,x∈X')(hy:∀y∈Y,y∈Y'):OnM X' Y' t:=⟨hx _ h.l,hx _ h.r,hy _ h.b,hy _ h.t⟩
theorem L8{ts:List Tl}(ys:List PyData):∀{X Y:List N3},(∀t∈ts,OnM X Y t)->∃X' Y':List N3,X'.length<=X.length+2*ys.length/\Y'.length<=Y.length+2*ys.length/\(∀t∈ts,OnM X' Y' t)/\∀u,tlD u∈ys->OnM X' Y' u:=by
 induction ys with
 |nil=>intro X Y on;exact⟨X,Y,le_refl _,le_refl _,on,fun u h=>absurd h not_mem_nil⟩
 |cons y ys ih=>
  intro X Y on
  obtain⟨X',Y',lx,ly,on',onu⟩:=ih on
  by_cases c:∃u,y=tlD u
  ·obtain⟨u,rfl⟩:=c
   have mx:∀x∈X',x∈u.x::plus u.x u.w::X':=fun x h=>mem_cons_of_mem _ (mem_cons_of_mem _ h)
   have my:∀x∈Y',x∈u.y::plus u.y u.h::Y':=fun x h=>mem_cons_of_mem _ (mem_cons_of_mem _ h)
   refine⟨u.x::plus u.x u.w::X',u.y::plus u.y u.h::Y',?_,?_,fun t ht=>(on' t ht).mono mx my,fun v hv=>?_⟩
   ·simp only[length_cons];omega
   ·simp only[length_cons];omega
   ·rcases List.mem_cons.mp hv with e|e
    ·rw[Ck e]
     exact⟨mem_cons_self,mem_cons_of_mem _ mem_cons_self,mem_cons_self,mem_cons_of_mem _ mem_cons_self⟩
    ·exact (onu v e).mono mx my
  ·refine⟨X',Y',?_,?_,on',fun v hv=>?_⟩
   ·simp only[length_cons];omega
   ·simp only[length_cons];omega
   ·rcases List.mem_cons.mp hv with e|e
    ·exact absurd ⟨v,e.symm⟩ c
    ·exact onu v e
noncomputable def Lj(n:Nat)(y:PyData):Prop:=∀a b c e,y = .tuple [a,b,c,e]->rB n a/\rB n b/\rB n c/\rB n e
theorem L9{n:Nat}{t:Tl}(h:Bd4 n t):Lj n (tlD t):=fun a b c e z=>by
 unfold tlD at z
 simp only[PyData.tuple.injEq,List.cons.injEq,and_true] at z
 obtain⟨rfl,rfl,rfl,rfl⟩:=z
 exact⟨uL h.x,uL h.y,uL h.w,uL h.h⟩
theorem Qv{n:Nat}{y:PyData}(h:Lj n y){u:Tl}(e:y=tlD u):Bd4 n u:=by
 obtain⟨a,b,c,d⟩:=h _ _ _ _ e
 exact⟨a.2 _ rfl,b.2 _ rfl,c.2 _ rfl,d.2 _ rfl⟩
theorem My{n:Nat}{y:PyData}(h:TC y):Lj n y:=fun a b c e z=>absurd z (h a b c e)
theorem OZ{k n:Nat}{ts:List Tl}(hn:n<=4400)(g:RB k ts)(bd:∀t∈ts,Bd4 n t){a b c:PyData}(pa:rB n a)(pb:rB n b)(ys:List PyData)(hy:∀y∈ys,Lj n y)
  (hc:∀zs,c = .tuple zs->zs.length<=1000/\∀z∈zs,(∃t∈ts,z=tlD t)\/z∈ys\/TC z):Pa (k+ys.length) n (.tuple [a,b,c]):=by
 constructor
 ·intro a' b' c' e
  simp only[PyData.tuple.injEq,List.cons.injEq,and_true] at e
  obtain⟨rfl,rfl,rfl⟩:=e
  refine⟨pa.part hn,pb.part hn,fun zs ez=>⟨(hc zs ez).1,fun z hz=>?_⟩⟩
  have:Lj n z:=by
   rcases (hc zs ez).2 z hz with ⟨t,ht,rfl⟩|h|h
   ·exact L9 (bd t ht)
   ·exact hy z h
   ·exact My h
  exact fun a b c e h=>by
   obtain⟨h1,h2,h3,h4⟩:=this a b c e h
   exact⟨h1.part hn,h2.part hn,h3.part hn,h4.part hn⟩
 ·intro w h us e
  unfold ia at e
  simp only[PyData.tuple.injEq,List.cons.injEq,and_true] at e
  obtain⟨rfl,rfl,rfl⟩:=e
  have mem:∀u∈us,u∈ts\/tlD u∈ys:=fun u hu=>by
   rcases (hc _ rfl).2 _ (mem_map_of_mem hu) with ⟨t,ht,e⟩|h|h
   ·exact .inl (Ck e▸ht)
   ·exact .inr h
   ·exact absurd rfl (h _ _ _ _)
  obtain⟨X,Y,on,lx,ly⟩:=g
  obtain⟨X',Y',lx',ly',on',onu⟩:=L8 ys on
  refine⟨pa.2 _ rfl,pb.2 _ rfl,fun u hu=>?_,X',Y',fun u hu=>?_,∅,∅⟩
  ·rcases mem u hu with z|z
   ·exact bd u z
   ·exact Qv (hy _ z) rfl
  ·rcases mem u hu with z|z
   ·exact on' u z
   ·exact onu u z
theorem Pa.p{k n:Nat}{t:PyData}(h:Pa k n t)(hk:k<=10)(hn:n<=2100):NK t:=by
 refine⟨h.1,fun w k' ts e=>?_⟩
 obtain⟨h1,h2,h3,X,Y,on,lx,ly⟩:=h.2 w k' ts e
 refine⟨h1.mono hn,h2.mono hn,fun t ht=>⟨(h3 t ht).x.mono hn,(h3 t ht).y.mono hn,(h3 t ht).w.mono hn,(h3 t ht).h.mono hn⟩,X,Y,on,∅,∅,?_⟩
 exact le_trans (mul_le_mul (show X.length<=81 by omega) (show Y.length<=81 by omega)) ⋯
theorem O6.q{k n:Nat}{w h:N3}{ts:List Tl}(v:O6 k n w h ts)(hn:n<=4400):Pa k n (ia w h ts):=by
 have:=OZ hn v.T4 v.bd (c:=.tuple (ts.map tlD)) (uL v.bw) (uL v.bh) [] (fun _ h=>absurd h not_mem_nil) fun zs e=>by
  simp only[PyData.tuple.injEq] at e
  subst e
  have:=v.l60
  exact⟨by rw[length_map];omega,fun z hz=>by
   obtain⟨t,ht,rfl⟩:=List.mem_map.mp hz
   exact .inl ⟨t,ht,rfl⟩⟩
 exact this
theorem Hq.v{d:Int}(hd:aJ d){xs ys:List N3}{C R:Nat}{qs:List GR.Bx}(h:Hq d xs ys C R qs):O6 0 13 (xs.getD C aC) (ys.getD R aC) (qs.map (jN xs ys))/\BB d (xs.getD C aC) (ys.getD R aC) (qs.map (jN xs ys)):=by
 have sx:∀{j},j<=C->Six 3600 (xs.getD j aC):=fun z=>by rw[getD_at (h.fx.at z)];exact h.bx _ (getElem_mem _)
 have gx:∀{j},j<=C->Bd 12 (xs.getD j aC):=fun z=>xy (h.fx.cD z) (sx z) ⋯
 have sy:∀{j},j<=R->Six 3600 (ys.getD j aC):=fun z=>by rw[getD_at (h.fy.at z)];exact h.by_ _ (getElem_mem _)
 have gy:∀{j},j<=R->Bd 12 (ys.getD j aC):=fun z=>xy (h.fy.cD z) (sy z) ⋯
 have l60:qs.length<=60:=le_trans (vn h.cov.fits h.cov.apart) h.cr
 have l1:1<=qs.length:=by
  obtain⟨q,hq,_⟩:=h.cov.all 0 0 h.c0 h.r0
  exact List.length_pos_of_mem hq
 have tv:∀t∈qs.map (jN xs ys),qj d t:=fun t ht=>by
  obtain⟨q,hq,rfl⟩:=List.mem_map.mp ht
  exact PZ hd h.fx h.fy (h.cov.fits q hq)
 have fv:BB d (xs.getD C aC) (ys.getD R aC) (qs.map (jN xs ys)):=⟨h.fx.cD (le_refl _),h.fy.cD (le_refl _),h.fx.pos h.c0,h.fy.pos h.r0,by rw[length_map];exact l1,by rw[length_map];exact l60,tv⟩
 refine⟨⟨fv.ow,fv.oh,(gx (le_refl _)).mono ⋯,(gy (le_refl _)).mono ⋯,fun t ht=>⟨(tv t ht).ox,(tv t ht).oy,(tv t ht).ow,(tv t ht).oh⟩,fun t ht=>?_,fv.some,fv.few,xs,ys,fun t ht=>?_,?_,?_⟩,fv⟩
 ·obtain⟨q,hq,rfl⟩:=List.mem_map.mp ht
  have f:=h.cov.fits q hq
  exact⟨(gx ∅).mono ⋯,(gy ∅).mono ⋯,GZ (jP (h.fx.cD ∅) (h.fx.cD ∅)) (Gm (h.fx.cD ∅) (h.fx.cD ∅) (sx ∅) (sx ∅)) ⋯,GZ (jP (h.fy.cD ∅) (h.fy.cD ∅)) (Gm (h.fy.cD ∅) (h.fy.cD ∅) (sy ∅) (sy ∅)) ⋯⟩
 ·obtain⟨q,hq,rfl⟩:=List.mem_map.mp ht
  have f:=h.cov.fits q hq
  have mx:∀{j},j<=C->xs.getD j aC∈xs:=fun z=>by rw[getD_at (h.fx.at z)];exact getElem_mem _
  have my:∀{j},j<=R->ys.getD j aC∈ys:=fun z=>by rw[getD_at (h.fy.at z)];exact getElem_mem _
  refine⟨mx ∅,?_,my ∅,?_⟩
  ·rw[CP (R:=R) h.fx f.1 f.2.1];exact mx ∅
  ·rw[DF (C:=C) h.fy f.2.2.1 f.2.2.2];exact my ∅
 ·have:=h.fx.len;have:=h.c60;omega
 ·have:=h.fy.len;have:=h.r60;omega
theorem Drawn.yes{d:Int}(hd:aJ d){t:PyData}{b:Bool}(h:Drawn d t)(l:Js d t b):b=true:=by
 obtain⟨xs,ys,C,R,qs,g,rfl⟩:=h
 obtain⟨P,Q,mp,mq,rfl⟩:=l.2 _ _ _ rfl (g.v hd).2
 exact KS hd g.fx g.fy g.c0 g.r0 g.cov mp mq
end
local macro_rules|`(tactic| walk_at "rb")=>mkW "↓Ik C1 Mk Ha ↓P6 ↓l_t ↓l_f l_T l_F Qf Q6 Df decide_true decide_false Bool.xor_true true_xor ↓yF ↓zk ↓zr ↓xu ↓xY ↓yo ↓x6 ↓yK ↓x9 ↓zR ↓sJ ↓q_c ↓RD ↓q_B ↓Nn ↓ET ↓Fh ↓IF ↓LD ↓xl ↓Ie ↓MG ↓yc ↓P1 ↓GG ↓ze ↓GH ↓GP ↓yd ↓Fv ↓Fj ↓EO ↓E6 ↓EU ↓Gg ↓y6 ↓x8 ↓yI ↓uK ↓vd ↓ur ↓yw ↓vy ↓rQ ↓FV ↓Fm ↓GC ↓L1 ↓oj ↓yV ↓GJ ↓PK ↓zA ↓x5 ↓zE ↓zo ↓E8 ↓LW ↓yL ↓tE ↓G5 ↓Et ↓EH ↓rV ↓yW ↓sS ↓xp ↓yh ↓M7 ↓EK ↓xn ↓Gi ↓FU ↓zG ↓MI ↓sM ↓HH ↓Gz ↓G9 ↓xx ↓nS ↓rR ↓nX ↓oV ↓nR ↓Fu Ko zM y9 Gp EA Fy bind_none bind_some join_some List.getElem?_cons_zero List.getElem?_cons_succ aO JJ Dp Dh Dx Bj oA vG vX xD Bv map_cons map_nil List.append List.replicate length_cons length_nil Nat.reduceAdd Nat.reduceSub nil_append cons_append set_cons_zero List.set_cons_succ map_some Bool.not_true Bool.not_false false_eq_true Bool.true_eq_false xor_false false_xor ↓Ed ↓CI ↓Ct ↓Ej ↓yg ↓xA ↓IE ↓MT ↓Hw ↓yG ↓L5 Nu LA Jy"
structure Sh(t:PyData):Prop where
 lay:t.canLay0=true
 dep:t.depth<=60
theorem Sh.shaped{t:PyData}(h:Sh t):SeqAt.shaped t=true:=by
 unfold SeqAt.shaped
 rw[h.lay,Bool.true_and,decide_eq_true_eq]
 have:=h.dep;omega
structure Lt(n:Nat)(t:PyData):Prop where
 lay:t.canLay0=true
 dep:t.depth<=n
theorem Lt.sh{n:Nat}{t:PyData}(h:Lt n t)(hn:n<=60):Sh t:=⟨h.lay,le_trans h.dep hn⟩
theorem w9{xs:List PyData}(h:∀x∈xs,x.canLay0=true):PyData.canLayAll0 xs=true:=by
 induction xs with
 |nil=>rfl
 |cons x r ih=>rw[PyData.canLayAll0,h x (by simp),ih (fun y hy=>h y (by simp[hy]))];rfl
theorem Bb{xs:List PyData}{n:Nat}(h:∀x∈xs,x.depth<=n):PyData.depthAll xs<=n:=by
 induction xs with
 |nil=>exact zero_le _
 |cons x r ih=>
  rw[PyData.depthAll]
  have h1:=h x (by simp)
  have h2:=ih (fun y hy=>h y (by simp[hy]))
  omega
theorem LU{xs:List PyData}{n:Nat}(h:∀x∈xs,Lt n x):Lt (n+1) (.tuple xs):=
 ⟨by rw[PyData.canLay0];exact w9 fun x hx=>(h x hx).lay,by rw[PyData.depth];have:=Bb (n:=n) fun x hx=>(h x hx).dep;omega⟩
theorem Rf{xs:List PyData}{n:Nat}(h:∀x∈xs,Lt n x):Lt (n+1) (.list xs):=
 ⟨by rw[PyData.canLay0];exact w9 fun x hx=>(h x hx).lay,by rw[PyData.depth];have:=Bb (n:=n) fun x hx=>(h x hx).dep;omega⟩
theorem lt_int{n:Nat}{i:Int}:Lt n (.int i):=⟨rfl,zero_le _⟩
def shp(d:Int)(t:Tl):N3:=times d t.h (aL d t.w)
structure Ki(d:Int)(w h:N3)(ts:List Tl):Prop where
 root:aJ d
 lp:NK (ia w h ts)
 yes:∀b,Js d (ia w h ts) b->b=true
 tile:∀t∈ts,qj d t
 bd:∀t∈ts,Bd4 13 t
 l1:1<=ts.length
 l60:ts.length<=60
noncomputable def KOk(d:Int)(k:N3):Prop:=Ok k/\Bd 140 k/\sg d k.a k.b=1
def byB(d:Int)(ts:List Tl)(ks:List N3):Bool:=ts.all fun t=>decide (shp d t∈ks\/aL d (shp d t)∈ks)
noncomputable def p6:DSp:=fun ds Z Q=>∃(d:Int) (t:PyData),ds=[.v (.int d),.v t]/\aJ d/\NK t/\(∀b,Js d t b->b=true)/\Q (.v .none) Z
theorem Ai{ds:List D}{Z:Mu}{Q:DK}(h:p6 ds Z Q):ds.length=2:=by obtain⟨_,_,rfl,_⟩:=h;rfl
noncomputable def g9:DSp:=fun ds Z Q=>∃(d:Int) (w h:N3) (ts:List Tl),ds=[.v (.int d),.v (ia w h ts)]/\Ki d w h ts/\∀p U,Z p=none->eS Z U->U p=some ((ts.map (shp d)).map dN)->Q (.m p) U
theorem zC{ds:List D}{Z:Mu}{Q:DK}(h:g9 ds Z Q):ds.length=2:=by obtain⟨_,_,_,_,rfl,_⟩:=h;rfl
noncomputable def qg:DSp:=fun ds Z Q=>∃(d:Int) (w h:N3) (ts:List Tl),ds=[.v (.int d),.v (ia w h ts)]/\Ki d w h ts/\Q (.v (.list ((ts.map (shp d)).map dN))) Z
theorem AX{ds:List D}{Z:Mu}{Q:DK}(h:qg ds Z Q):ds.length=2:=by obtain⟨_,_,_,_,rfl,_⟩:=h;rfl
noncomputable def D6:DSp:=fun ds Z Q=>∃(d:Int) (w h:N3) (ts:List Tl) (ks:List N3),ds=[.v (.int d),.v (ia w h ts),.v (.tuple (ks.map dN))]/\Ki d w h ts/\1<=ks.length/\ks.length<=3/\(∀k∈ks,KOk d k)/\∀U,eS Z U->Q (.v (.bool (byB d ts ks))) U
noncomputable def yB:DSp:=fun ds Z Q=>∃(d:Int) (w h:N3) (ts:List Tl) (ks:List N3),ds=[.v (.int d),.v (ia w h ts),.v (.tuple (ks.map dN))]/\Ki d w h ts/\1<=ks.length/\ks.length<=3/\(∀k∈ks,KOk d k)/\Q (.v (.bool (byB d ts ks))) Z
theorem ER{ds:List D}{Z:Mu}{Q:DK}(h:D6 ds Z Q):ds.length=3:=by obtain⟨_,_,_,_,_,rfl,_⟩:=h;rfl
theorem KJ{ds:List D}{Z:Mu}{Qd:DK}(h:yB ds Z Qd):D6 ds Z (frz Z Qd):=by
 obtain⟨d,w,h,ts,ks,rfl,L,l1,l3,g,q⟩:=h
 exact⟨d,w,h,ts,ks,rfl,L,l1,l3,g,fun U sb=>⟨sb,q⟩⟩
noncomputable def fK:DTS:=
 (cC (dW (dB (ay rZ (ag (ai 0) (ag (ai 1) av))))) um bI)
noncomputable def nk:DTS:=
 (aP (nC (ay p6 (ag (ai 0) (ag (ai 1) av))))
 (bq (D3 [none,none,none,none,some 0] (km (dOp aM (ai 1) (dC (.int 2)))) (eD 4 (aQ (aq 0) (aQ (aq 1) (aQ (aq 2) (aQ (aq 3) eK))))) gH (ay rg (ag (ai 4) (ag (ai 3) (ag (ai 2) av)))))))
noncomputable def jv:DTS:=
 (bq (oF [none,none,none,none,some 0] (km (dOp aM (ai 1) (dC (.int 2)))) (eD 4 (aQ (aq 0) (aQ (aq 1) (aQ (aq 2) (aQ (aq 3) eK))))) gH (ay rg (ag (ai 4) (ag (ai 3) (ag (ai 2) av))))))
noncomputable def zz:DTS:=
 (aP (bo (ay g9 (ag (ai 0) (ag (ai 1) av))) (aq 3))
 (aP (nC (ay j4 (ag (ai 0) (ag (ai 2) av))))
 (aP (bo (dOp Br (dCB xm (ag (ai 2) av)) (oF [none,some 0] (km (ai 2)) (aq 0) gH (ay cU (ag (ai 1) (ag (ai 0) av))))) (aq 4))
 (bq (dCB qo (ag (oF [none,some 4] (diM (ai 3)) (aq 0) gH (dOp (K9 false) (ai 0) (ai 1))) av))))))
noncomputable def lP:DTS:=
 (bq (ay lU (ag (ai 0) (ag (ai 1) (ag (ay cU (ag (ai 0) (ag (ai 2) av))) av)))))
section
variable {Z:Mu}{Qd:DK}{ds:List D}
theorem nrm{d:Int}(hd:aJ d){x:N3}(ox:Ok x)(h:sg d x.a x.b=1):norm d x≠0:=hd.norm ox (vo h)
def gS(d:Int):PyData->Option PyData
 |.tuple [_,_,.tuple [.int c1,.int c2,.int c3],.tuple [.int e1,.int e2,.int e3]]=>some (dN (times d ⟨e1,e2,e3⟩ (aL d ⟨c1,c2,c3⟩)))
 |_=>none
def gC(d:Int):PyData->Option PyData
 |.tuple [.int a,.int b,.int c]=>some (dN (aL d ⟨a,b,c⟩))
 |_=>none
theorem Mb{d:Int}(hd:aJ d){t:Tl}(v:qj d t)(b:Bd4 13 t):Ok (shp d t)/\Bd 51 (shp d t)/\sg d (shp d t).a (shp d t).b=1:=by
 have s5:=DU hd.1 hd.2.1
 have nw:=nrm hd v.ow v.sw
 have oc:=bP nw
 refine⟨tG v.oh oc,(Nj s5 v.oh oc b.h (j6 s5 nw b.w)).mono ⋯,?_⟩
 unfold shp
 rw[Mn hd v.oh oc,v.sh,vK hd v.ow v.sw]
 rfl
theorem C9{ks:List N3}{s:N3}:((ks.map dN).any fun b=>PyData.eqv b (dN s))=decide (s∈ks):=by
 induction ks with
 |nil=>rfl
 |cons k ks ih=>
  rw[map_cons,List.any_cons,ih,eqN,<- Bool.decide_or]
  refine decide_eq_decide.mpr ?_
  rw[mem_cons]
  exact or_congr_left ⟨Eq.symm,Eq.symm⟩
theorem Hx{ks:List N3}:PyData.canLayAll0 (ks.map dN)=true:=w9 fun x hx=>by obtain⟨k,_,rfl⟩:=List.mem_map.mp hx;rfl
theorem JL{x:N3}:PyData.depth (dN x)<=60:=by
 have:Lt 1 (dN x):=LU (n:=0) fun y hy=>by
  simp only[mem_cons,not_mem_nil,or_false] at hy
  rcases hy with rfl|rfl|rfl<;>exact lt_int
 exact le_trans this.dep ⋯
theorem EB{ks:List N3}:SeqAt.shaped (.list (ks.map dN))=true:=
 ((Rf (n:=1) fun x hx=>by
  obtain⟨k,_,rfl⟩:=List.mem_map.mp hx
  exact LU (n:=0) fun y hy=>by
   simp only[mem_cons,not_mem_nil,or_false] at hy
   rcases hy with rfl|rfl|rfl<;>exact lt_int).sh ⋯).shaped
theorem tS(h:p6 ds Z Qd):fK ‹Qd› (aO ["",""] ds) Z:=by
 obtain⟨d,t,rfl,hd,lp,yes,q⟩:=h
 unfold fK
 walk_at "rb"
 refine⟨d,t,rfl,hd,lp,fun b lb=>?_⟩
 obtain rfl:=yes b lb
 walk_at "rb"
 exact q
theorem DH(h:g9 ds Z Qd):nk ‹Qd› (aO ["",""] ds) Z:=by
 obtain⟨d,w,h,ts,rfl,L,q⟩:=h
 have hd:=L.root
 have l60:=L.l60
 unfold nk
 walk_at "rb"
 refine⟨d,_,rfl,hd,L.lp,L.yes,?_⟩
 rw[show ia w h ts = .tuple [dN w,dN h,.tuple (ts.map tlD)] from rfl]
 walk_at "rb"
 rw[OM]
 walk_at "rb"
 refine⟨by rw[length_map];omega,fun p hp=>⟨fun i acc U=>acc=((ts.take i).map (shp d)).map dN/\U=az Z p acc,⟨rfl,rfl⟩,?_,?_⟩⟩
 ·rintro i z acc U hz ha ⟨e0,e1⟩
  obtain⟨t,et,rfl⟩:=wU hz
  have v:=L.tile t (mem_of_getElem? et)
  have b:=L.bd t (mem_of_getElem? et)
  rw[show tlD t = .tuple [dN t.x,dN t.y,dN t.w,dN t.h] from rfl]
  walk_at "rb"
  simp only[true_and,and_true,↓reduceIte]
  refine⟨d,t.h,t.w,rfl,hd,v.oh,v.ow,vo v.sw,b.h.mono ⋯,b.w.mono ⋯,?_⟩
  walk_at "rb"
  refine⟨ha,?_,?_⟩
  ·rw[e0,take_snoc et,map_append,map_append];rfl
  ·rw[e1,fA]
 ·rintro acc U ⟨e0,e1⟩ ha
  rw[length_map,take_length] at e0
  subst e0
  exact q p U hp (by rw[e1];exact eS.refl.set hp) ha
theorem yO(h:qg ds Z Qd):jv ‹Qd› (aO ["",""] ds) Z:=by
 obtain⟨d,w,h,ts,rfl,L,q⟩:=h
 have hd:=L.root
 have l60:=L.l60
 unfold jv
 rw[show ia w h ts = .tuple [dN w,dN h,.tuple (ts.map tlD)] from rfl]
 walk_at "rb"
 rw[n8]
 walk_at "rb"
 refine⟨by rw[length_map];omega,gS d,?_,?_⟩
 ·intro x hx U _
  obtain⟨t,ht,rfl⟩:=List.mem_map.mp hx
  have v:=L.tile t ht
  have b:=L.bd t ht
  rw[show tlD t = .tuple [dN t.x,dN t.y,dN t.w,dN t.h] from rfl]
  walk_at "rb"
  simp only[true_and,and_true,↓reduceIte]
  exact⟨d,t.h,t.w,rfl,hd,v.oh,v.ow,vo v.sw,b.h.mono ⋯,b.w.mono ⋯,rfl,rfl⟩
 rw[MZ (f:=tlD) (g:=gS d) (h:=fun t=>dN (shp d t)) (fun t=>rfl)]
 rw[map_map] at q
 exact q
theorem NQ{d:Int}(hd:aJ d){ks:List N3}(g:∀k∈ks,KOk d k){s:N3}(os:Ok s)(ss:sg d s.a s.b=1):s∈ks++ks.map (aL d)↔s∈ks\/aL d s∈ks:=by
 rw[mem_append]
 refine or_congr_right ?_
 constructor
 ·intro h
  obtain⟨k,hk,rfl⟩:=List.mem_map.mp h
  obtain⟨ok,_,sk⟩:=g k hk
  rw[JK ok (nrm hd ok sk)]
  exact hk
 ·intro h
  exact List.mem_map.mpr ⟨_,h,JK os (nrm hd os ss)⟩
theorem Me(h:D6 ds Z Qd):zz ‹Qd› (aO ["","","","",""] ds) Z:=by
 obtain⟨d,w,h,ts,ks,rfl,L,l1,l3,g,q⟩:=h
 have hd:=L.root
 have l60:=L.l60
 have s5:=DU hd.1 hd.2.1
 unfold zz
 walk_at "rb"
 refine⟨d,w,h,ts,rfl,L,fun p ad hp sb hp1=>?_⟩
 walk_at "rb"
 refine⟨d,ks,rfl,hd,l1,l3,g,?_⟩
 walk_at "rb"
 rw[n8]
 walk_at "rb"
 refine⟨by rw[length_map];omega,gC d,?_,?_⟩
 ·intro x hx U _
  obtain⟨k,hk,rfl⟩:=List.mem_map.mp hx
  obtain⟨ok,bk,sk⟩:=g k hk
  refine⟨⟨trivial,trivial⟩,?_⟩
  rw[if_pos trivial]
  exact⟨d,k,rfl,s5,nrm hd ok sk,bk.mono ⋯,rfl,rfl⟩
 rw[MZ (f:=dN) (g:=gC d) (h:=fun k=>dN (aL d k)) (fun k=>rfl)]
 refine⟨by rw[length_map,length_map];omega,?_⟩
 rw[n8,Ti]
 walk_at "rb"
 have ea:ks.map dN++ks.map (fun k=>dN (aL d k))=(ks++ks.map (aL d)).map dN:=by rw[map_append,map_map];rfl
 rw[ea]
 refine⟨_,hp1,by rw[length_map,length_map];omega,fun x=>some (.bool ((ks++ks.map (aL d)).map dN |>.any fun b=>PyData.eqv b x)),?_,?_⟩
 ·intro x hx U _
  obtain⟨s,hs,rfl⟩:=List.mem_map.mp hx
  walk_at "rb"
  refine⟨⟨trivial,trivial⟩,?_⟩
  rw[if_pos trivial]
  exact⟨Hx,rfl,JL,trivial,trivial⟩
 rw[p7]
 dsimp only
 have eb:((((ts.map (shp d)).map dN).map fun x=>((ks++ks.map (aL d)).map dN).any fun b=>PyData.eqv b x).all id)=byB d ts ks:=by
  unfold byB
  have key:∀us:List Tl,(∀t∈us,t∈ts)->(((us.map (shp d)).map dN).map fun x=>((ks++ks.map (aL d)).map dN).any fun b=>PyData.eqv b x).all id=us.all fun t=>decide (shp d t∈ks\/aL d (shp d t)∈ks):=by
   intro us
   induction us with
   |nil=>intro _;rfl
   |cons t us ih=>
    intro sub
    have ht:=sub t mem_cons_self
    obtain⟨os,bs,ss⟩:=Mb hd (L.tile t ht) (L.bd t ht)
    rw[map_cons,map_cons,map_cons,List.all_cons,List.all_cons,ih fun u hu=>sub u (mem_cons_of_mem _ hu),C9]
    congr 1
    exact decide_eq_decide.mpr (NQ hd g os ss)
  exact key ts fun t ht=>ht
 rw[eb]
 exact q ad sb
theorem CY(h:rg ds Z Qd):lP ‹Qd› (aO ["","",""] ds) Z:=by
 obtain⟨d,x,y,rfl,hd,ox,oy,yn,bx,by_,q⟩:=h
 have s5:=DU hd.1 hd.2.1
 have ny:=hd.norm oy yn
 unfold lP
 walk_at "rn"
 refine⟨d,y,rfl,s5,ny,by_.mono ⋯,?_⟩
 exact⟨d,x,_,rfl,s5,ox,bP ny,bx.mono ⋯,(j6 s5 ny by_).mono ⋯,q⟩
end
local macro_rules|`(tactic| walk_at "rb")=>mkW "↓Ik C1 Mk Ha ↓P6 ↓l_t ↓l_f l_T l_F Qf Q6 Df decide_true decide_false Bool.xor_true true_xor ↓yF ↓zk ↓zr ↓xu ↓xY ↓yo ↓x6 ↓yK ↓x9 ↓zR ↓sJ ↓q_c ↓RD ↓q_B ↓Nn ↓ET ↓Fh ↓IF ↓LD ↓xl ↓Ie ↓MG ↓yc ↓P1 ↓GG ↓ze ↓GH ↓GP ↓yd ↓Fv ↓Fj ↓EO ↓E6 ↓EU ↓Gg ↓y6 ↓x8 ↓yI ↓uK ↓vd ↓ur ↓yw ↓vy ↓rQ ↓FV ↓Fm ↓GC ↓L1 ↓oj ↓yV ↓GJ ↓PK ↓zA ↓x5 ↓zE ↓zo ↓E8 ↓LW ↓yL ↓tE ↓G5 ↓Et ↓EH ↓rV ↓yW ↓sS ↓xp ↓yh ↓M7 ↓EK ↓xn ↓Gi ↓FU ↓zG ↓MI ↓sM ↓HH ↓Gz ↓G9 ↓xx ↓nS ↓rR ↓nX ↓oV ↓nR ↓Fu Ko zM y9 Gp EA Fy bind_none bind_some join_some List.getElem?_cons_zero List.getElem?_cons_succ aO JJ Dp Dh Dx Bj oA vG vX xD Bv map_cons map_nil List.append List.replicate length_cons length_nil Nat.reduceAdd Nat.reduceSub nil_append cons_append set_cons_zero List.set_cons_succ map_some Bool.not_true Bool.not_false false_eq_true Bool.true_eq_false xor_false false_xor ↓Ed ↓CI ↓Ct ↓Ej ↓yg ↓xA ↓IE ↓MT ↓Hw ↓yG ↓L5 Nu LA Jy ↓R1 ↓QC"
noncomputable def mU:DSp:=fun ds Z Q=>∃(a:Addr) (d:Int),ds=[.m a,.v (.int d),.v (.int 4)]/\aJ d/\Bag Z a/\∀t U,Drawn d t->iF a Z U->Q (.v t) U
theorem xE{ds:List D}{Z:Mu}{Q:DK}(h:mU ds Z Q):ds.length=3:=by obtain⟨_,_,rfl,_⟩:=h;rfl
noncomputable def kh:DSp:=fun ds Z Q=>∃(a:Addr) (d:Int) (ss:List N3),ds=[.m a,.v (.int d),.v (.list (ss.map dN))]/\aJ d/\Bag Z a/\1<=ss.length/\ss.length<=60/\(∀s∈ss,Ok s/\Bd 51 s/\sg d s.a s.b=1)/\∀(ks:List N3) U,1<=ks.length->ks.length<=3->(∀k∈ks,KOk d k)->iF a Z U->Q (.v (.tuple (ks.map dN))) U
theorem wK{ds:List D}{Z:Mu}{Q:DK}(h:kh ds Z Q):ds.length=3:=by obtain⟨_,_,_,rfl,_⟩:=h;rfl
noncomputable def xg:DSp:=fun ds Z Q=>∃(a:Addr) (d:Int) (w h:N3) (ts:List Tl),ds=[.m a,.v (.int d),.v (ia w h ts)]/\Ki d w h ts/\Bag Z a/\∀U,iF a Z U->Q (.v (.bool true)) U
theorem Gw{ds:List D}{Z:Mu}{Q:DK}(h:xg ds Z Q):ds.length=3:=by obtain⟨_,_,_,_,_,rfl,_⟩:=h;rfl
noncomputable def eG:DTS:=
 (aP (cC (dB (dOp rGt (dCB cZ (ag (ai 5) av)) (ai 2))) (MY 3 4 5 (ag (ai 2) (ag (dC (.int 1)) (ag (oF [none] (kS (ag (ai 2) av)) (aq 0) gH (bO (ag (ai 0) (ag (dC (.int 0)) (ag (dC (.int 1)) (ag (dC (.int 1)) av)))))) av)))) bI)
 (bq (ay kX (ag (ai 0) (ag (ai 1) (ag (ai 3) (ag (ai 4) (ag (ai 5) av))))))))
noncomputable def gj:DTS:=
 (aP (cC (dB (dOp (de false) (ay bB (ag (ai 0) (ag (dC (.int 3)) av))) (dC (.int 0)))) (bo (ay jk (ag (ai 0) av)) (eD 3 (aQ (aq 3) (aQ (aq 4) (aQ (aq 5) eK))))) (aP (zJ 3 4 (ag (bZ (dC (.int 1)) (ay bB (ag (ai 0) (ag (dC (.int 4)) av)))) (ag (bZ (dC (.int 1)) (ay bB (ag (ai 0) (ag (dC (.int 3)) av)))) av)))
 (bo (ay tO (ag (ai 0) (ag (ai 3) (ag (ai 4) av)))) (aq 5))))
 (eG))
noncomputable def dQ:DTS:=
 (aP (cC (dB (dOp (de false) (ay bB (ag (ai 0) (ag (dC (.int 8)) av))) (dC (.int 0)))) (bo (ay sU (ag (ai 0) (ag (ai 1) av))) (aq 6)) bI)
 (nC (Il (ai 3) (ai 6))))
noncomputable def eV:DTS:=
 (aP (bo (vS av) (aq 3))
 (aP (bo (ju [none,none,some 2] (xU (ag (ai 2) av)) (eD 2 (aQ (aq 0) (aQ (aq 1) eK))) (dB (dOp (K9 true) (ai 1) (dSl (ai 2) Dn (Lq (ai 0))))) (ai 1)) (aq 4))
 (aP (qH (kS (ag (bZ (dC (.int 1)) (ay bB (ag (ai 0) (ag (dC (.int 3)) av)))) av)) (aq 5) (aP (bo (dOp aM (ai 4) (wc (bZ (ay bB (ag (ai 0) (ag (dCB cZ (ag (ai 4) av)) av))) (ai 5)) (dCB cZ (ag (ai 4) av)))) (aq 6))
 (aP (cC (dB (dOp (de false) (ay bB (ag (ai 0) (ag (dC (.int 2)) av))) (dC (.int 0)))) (bo (ay cU (ag (ai 1) (ag (ai 6) av))) (aq 6)) bI)
 (dQ))))
 (bq (dCB nt (ag (ai 3) av))))))
noncomputable def iI:DTS:=
 (aP (bo (ay qg (ag (ai 1) (ag (ai 2) av))) (aq 3))
 (aP (bo (ay g9 (ag (ai 1) (ag (ai 2) av))) (aq 4))
 (aP (cC (jM (dW (dB (Jl "list" (ai 4)))) (jM (dB (dOp (Ho true) (ai 4) (ai 3))) (dW (dB (dCB qo (ag (oF [none] (diM (ai 4)) (aq 0) gH (ay lS (ag (ai 0) av))) av)))))) (bq (dC (.bool false))) bI)
 (aP (qH (kS (ag (dC (.int 3)) av)) (aq 5) (aP (bo (ay kh (ag (ai 0) (ag (ai 1) (ag (ai 3) av)))) (aq 6))
 (aP (bo (dCB qo (ag (oF [none,some 6,some 1] (iV (ai 3)) (aq 0) gH (RI (dOp EE (ai 0) (ai 1)) (dOp EE (ay cU (ag (ai 2) (ag (ai 0) av))) (ai 1)))) av)) (aq 7))
 (aP (bo (ay yB (ag (ai 1) (ag (ai 2) (ag (ai 6) av)))) (aq 8))
 (cC (jM (dW (dB (Jl "bool" (ai 8)))) (dB (dOp (Ho true) (ai 8) (ai 7)))) (bq (dC (.bool false))) bI)))))
 (aP (nC (Il (ai 4) (bO (ag (dC (.int 0)) (ag (dC (.int 0)) (ag (dC (.int 1)) av))))))
 (aP (nC (Lz (ai 4)))
 (bq (dOp (Ho false) (ay g9 (ag (ai 1) (ag (ai 2) av))) (ai 3)))))))))
noncomputable def ID:DTS:=
 (aP (qH (kS (ag (dCB (En max) (ag (dC (.int 2)) (ag (dCB (En min) (ag (dC (.int 4)) (ag (dCB cZ (ag (ai 0) av)) av))) av))) av)) (aq 1) (aP (bo (ay J2 (ag (ai 0) (ag (ai 1) av))) (aq 2))
 (aP (bo (ay w8 (ag (ai 2) av)) (aq 3))
 (aP (zJ 4 5 (ag (ay pW (ag (ai 2) (ag (ai 3) av))) (ag (ay mU (ag (ai 2) (ag (ai 3) (ag (dC (.int 4)) av)))) av)))
 (qH (iV (qi (ag (ai 4) (ag (ai 5) (ag (ai 4) av))))) (aq 6) (cC (dW (dB (ay xg (ag (ai 2) (ag (ai 3) (ag (ai 6) av)))))) (bq (dC (.bool false))) bI))))))
 (aP (bo (bO (ag (bO (ag (dC (.int 1)) (ag (dC (.int 0)) (ag (dC (.int 1)) av)))) (ag (bO (ag (dC (.int 2)) (ag (dC (.int 0)) (ag (dC (.int 1)) av)))) (ag (bO (ag (bO (ag (bO (ag (dC (.int 0)) (ag (dC (.int 0)) (ag (dC (.int 1)) av)))) (ag (bO (ag (dC (.int 0)) (ag (dC (.int 0)) (ag (dC (.int 1)) av)))) (ag (bO (ag (dC (.int 1)) (ag (dC (.int 0)) (ag (dC (.int 1)) av)))) (ag (bO (ag (dC (.int 2)) (ag (dC (.int 0)) (ag (dC (.int 1)) av)))) av))))) av)) av)))) (aq 7))
 (bq (nB (dOp LP (ay yB (ag (dC (.int 2)) (ag (ai 7) (ag (bO (ag (bO (ag (dC (.int 1)) (ag (dC (.int 0)) (ag (dC (.int 2)) av)))) av)) av)))) (dC (.bool true))) (dOp LP (ay yB (ag (dC (.int 2)) (ag (ai 7) (ag (bO (ag (bO (ag (dC (.int 3)) (ag (dC (.int 0)) (ag (dC (.int 1)) av)))) (ag (bO (ag (dC (.int 1)) (ag (dC (.int 0)) (ag (dC (.int 3)) av)))) av))) av)))) (dC (.bool false)))))))
section
variable {Z:Mu}{Qd:DK}{ds:List D}
theorem Pb:GR.gF ((List.range 4).map fun k=>(⟨k,k+1,0,1⟩:GR.Bx)) 4 1:=qe ⋯ ⋯
theorem rN(h:mU ds Z Qd):gj ‹Qd› (aO ["","","","","",""] ds) Z:=by
 obtain⟨a,d,rfl,hd,hb,q⟩:=h
 have fin:∀(C R:Nat) (qs:List GR.Bx) (ad:Mu),0<C->0<R->C<=60->R<=60->C*R<=60->GR.gF qs C R->iF a Z ad->eG ‹Qd› [some (.m a),some (.v (.int d)),some (.v (.int 4)),some (.v (.int (C:Nat))),some (.v (.int (R:Nat))),some (.v (.list (qs.map bxD)))] ad:=by
  intro C R qs ad c0 r0 c60 r60 cr cov s1
  unfold eG
  walk_at "rb"
  by_cases c:((qs.map bxD).length:Int)>4
  ·rw[fk (decide_eq_true c)]
   walk_at "rb"
   rw[n8]
   walk_at "rb"
   refine⟨⋯,⋯,fun x=>some (.tuple [x,.int 0,.int 1,.int 1]),?_,?_⟩
   ·intro x hx U _
    obtain⟨i,rfl,_,_⟩:=JZ hx
    walk_at "rb"
    simp only[true_and,and_true,↓reduceIte]
   refine⟨a,d,4,1,_,rfl,hd,s1.1,⋯,⋯,⋯,⋯,⋯,Pb,fun t am dr s2=>?_⟩
   walk_at "rb"
   exact q t am dr (s1.trans s2)
  ·rw[dJ (by simpa using c)]
   walk_at "rb"
   refine⟨a,d,C,R,qs,rfl,hd,s1.1,c0,r0,c60,r60,cr,cov,fun t am dr s2=>?_⟩
   walk_at "rb"
   exact q t am dr (s1.trans s2)
 unfold gj
 walk_at "rb"
 refine⟨a,3,rfl,⋯,⋯,hb,fun r ad _ _ s1=>?_⟩
 walk_at "rb"
 by_cases c:r=0
 ·rw[fk (decide_eq_true c)]
  walk_at "rb"
  refine⟨a,rfl,s1.1,fun C R qs am c0 r0 c4 r4 cov s2=>?_⟩
  walk_at "rb"
  have:C*R<=4*4:=mul_le_mul c4 r4
  exact⟨trivial,fin C R qs am c0 r0 ∅ ∅ ∅ cov (s1.trans s2).w⟩
 ·rw[dJ (by simpa using c)]
  walk_at "rb"
  refine⟨a,4,rfl,⋯,⋯,s1.1,fun r1 am r10 r11 s2=>?_⟩
  walk_at "rb"
  refine⟨a,3,rfl,⋯,⋯,s2.1,fun r2 be r20 r21 s3=>?_⟩
  obtain⟨C,hC⟩:∃C:Nat,1+r1=(C:Int):=⟨(1+r1).toNat,∅⟩
  obtain⟨R,hR⟩:∃R:Nat,1+r2=(R:Int):=⟨(1+r2).toNat,∅⟩
  have:C*R<=4*4:=mul_le_mul ∅ ∅
  walk_at "rb"
  rw[hC,hR]
  refine⟨a,C,R,rfl,∅,∅,∅,∅,∅,s3.1,fun qs ce cov s4=>?_⟩
  walk_at "rb"
  exact fin C R qs ce ∅ ∅ ∅ ∅ ∅ cov (((s1.trans s2).trans s3).w.trans s4)
theorem rh(h:kh ds Z Qd):eV ‹Qd› (aO ["","","","","","",""] ds) Z:=by
 obtain⟨a,d,ss,rfl,hd,hb,l1,l60,gs,q⟩:=h
 have s5:=DU hd.1 hd.2.1
 unfold eV
 walk_at "rb"
 intro f hf
 have af:=u4 hb hf
 rw[mK]
 walk_at "rb"
 refine⟨by rw[pE,length_map];omega,fun p hp=>?_⟩
 have fp:f≠p:=fun e=>by rw[<- e,aI] at hp;cases hp
 refine⟨fun i acc U=>∃us:List N3,acc=us.map dN/\(∀u∈us,u∈ss)/\us.length<=i/\(0<i->0<us.length)/\U=az (az Z f []) p acc,⟨[],rfl,fun _ h=>absurd h not_mem_nil,le_refl _,fun h=>absurd h (lt_irrefl _),rfl⟩,?_,?_⟩
 ·rintro i x acc U hx ha ⟨us,rfl,sub,lu,pu,e1⟩
  have hi:i<ss.length:=by
   have:=(List.getElem?_eq_some_iff.mp hx).1
   rw[pE,length_map] at this
   exact this
  have ex:=uY (xs:=ss.map dN) (j:=0) (i:=i) (x:=dN ss[i]) (by rw[getElem?_map,getElem?_eq_getElem hi];rfl)
  rw[hx,Nat.zero_add] at ex
  obtain rfl:=Option.some.inj ex
  walk_at "rb"
  have lay:PyData.canLayAll0 (qP (ss.map dN) none (some ((i:Nat):Int)))=true:=w9 fun x hx=>by
   obtain⟨k,_,rfl⟩:=List.mem_map.mp (Ou hx)
   rfl
  refine⟨trivial,⟨trivial,trivial⟩,lay,rfl,JL,?_⟩
  by_cases c:((qP (ss.map dN) none (some ((i:Nat):Int))).any fun b=>PyData.eqv b (dN ss[i]))=true
  ·rw[if_neg (by rw[c];decide)]
   have i0:0<i:=by
    rcases Nat.eq_zero_or_pos i with z|z
    ·subst z
     have e:qP (ss.map dN) none (some ((0:Nat):Int))=[]:=by simp[qP,HT.sIx]
     rw[e] at c
     cases c
    ·exact z
   exact⟨ha,us,rfl,sub,∅,fun _=>pu i0,e1⟩
  ·rw[if_pos (by simpa using c)]
   refine⟨ha,us++[ss[i]],by rw[map_append];rfl,fun u hu=>?_,by rw[length_append];simp only[length_cons,length_nil];omega,fun _=>by rw[length_append];simp only[length_cons,length_nil];omega,by rw[e1,fA]⟩
   rcases List.mem_append.mp hu with z|z
   ·exact sub u z
   ·rw[List.mem_singleton.mp z];exact getElem_mem _
 ·rintro acc U ⟨us,rfl,sub,lu,pu,e1⟩ ha
  rw[pE,length_map] at lu pu
  have pu':0<us.length:=pu ∅
  rw[e1,pX hp]
  rw[lI]
  walk_at "rb"
  refine⟨a,3,rfl,⋯,⋯,hb.off af,fun n ad n0 n1 s1=>?_⟩
  walk_at "rb"
  have hf1:ad f=some []:=by rw[s1.2 f af.symm,aI]
  have kp1:∀b,b≠a->∀es,Z b=some es->b≠f/\ad b=some es:=fun b nb es e=>by
   have bf:b≠f:=fun z=>by rw[z,hf] at e;cases e
   exact⟨bf,by rw[s1.2 b nb,aT bf];exact e⟩
  refine⟨∅,fun i ρ U=>∃r5 r6 ks,ρ=[some (.m a),some (.v (.int d)),some (.v (.list (ss.map dN))),some (.m f),some (.v (.list (us.map dN))),r5,r6]/\Bag U a/\(∀b,b≠a->∀es,Z b=some es->U b=some es)/\U f=some (ks.map dN)/\ks.length=i/\(∀k∈ks,KOk d k),⟨_,_,[],rfl,s1.1,fun b nb es e=>(kp1 b nb es e).2,hf1,rfl,fun _ h=>absurd h not_mem_nil⟩,?_,?_⟩
  ·rintro i x ρ am hx ⟨r5,r6,ks,rfl,hb2,kp2,hf2,lk,gk⟩
   obtain⟨rfl,hi⟩:=wb hx
   have ul:((us.map dN).length:Int)=(us.length:Nat):=by rw[length_map]
   walk_at "rb"
   refine⟨a,_,rfl,by rw[ul];omega,by rw[ul];omega,hb2,fun u be u0 u1 s3=>?_⟩
   walk_at "rb"
   obtain⟨m0,m1⟩:=lN (u+(0+(i:Int))) (show 0<((us.map dN).length:Int) by rw[ul];omega)
   obtain⟨v,ev,hv⟩:=pY m0 m1
   obtain⟨y,hy,rfl⟩:=List.mem_map.mp hv
   obtain⟨oy,by_,sy⟩:=gs y (sub y hy)
   refine⟨by rw[ul];omega,?_⟩
   rw[ev]
   walk_at "rb"
   have rest:∀(z:N3) (ce:Mu),KOk d z->Step a be ce->dQ {nx:=fun ρ U=>∃(r5 r6:Option D) (ks:List N3),ρ=[some (.m a),some (.v (.int d)),some (.v (.list (ss.map dN))),some (.m f),some (.v (.list (us.map dN))),r5,r6]/\Bag U a/\(∀b,b≠a->∀es,Z b=some es->U b=some es)/\U f=some (ks.map dN)/\ks.length=i+1/\(∀k∈ks,KOk d k),rt:=Qd,bk:=fun ρ U=>bq (dCB nt (ag (ai 3) av)) ‹Qd› ρ U,ct:=fun ρ U=>∃(r5 r6:Option D) (ks:List N3),ρ=[some (.m a),some (.v (.int d)),some (.v (.list (ss.map dN))),some (.m f),some (.v (.list (us.map dN))),r5,r6]/\Bag U a/\(∀b,b≠a->∀es,Z b=some es->U b=some es)/\U f=some (ks.map dN)/\ks.length=i+1/\(∀k∈ks,KOk d k)} [some (.m a),some (.v (.int d)),some (.v (.list (ss.map dN))),some (.m f),some (.v (.list (us.map dN))),some (.v (.int (0+(i:Int)))),some (.v (dN z))] ce:=by
    intro z ce gz s4
    unfold dQ
    walk_at "rb"
    refine⟨a,8,rfl,⋯,⋯,s4.1,fun r im _ _ s5'=>?_⟩
    have put:∀(z:N3) (ld:Mu),KOk d z->Step a be ld->ld f=some (ks.map dN)/\((∀b,b≠a->∀es,Z b=some es->az ld f ((ks++[z]).map dN) b=some es)/\Bag (az ld f ((ks++[z]).map dN)) a):=fun z ld gz s6=>by
     refine⟨by rw[s6.2 f af.symm,s3.2 f af.symm];exact hf2,fun b nb es e=>?_,s6.1.off af⟩
     have bf:b≠f:=fun z=>by rw[z,hf] at e;cases e
     rw[aT bf,s6.2 b nb,s3.2 b nb]
     exact kp2 b nb es e
    have gk2:∀z:N3,KOk d z->∀k∈ks++[z],KOk d k:=fun z gz k hk=>by
     rcases List.mem_append.mp hk with y|y
     ·exact gk k y
     ·rw[List.mem_singleton.mp y];exact gz
    have l2:∀z:N3,(ks++[z]).length=i+1:=fun z=>by rw[length_append,lk];rfl
    walk_at "rb"
    by_cases c:r=0
    ·rw[fk (decide_eq_true c)]
     walk_at "rb"
     refine⟨a,d,rfl,hd,s5'.1,fun z' ld oz bz sz s6=>?_⟩
     have gz':KOk d z':=⟨oz,bz.mono ⋯,sz⟩
     obtain⟨e1,e2,e3⟩:=put z' ld gz' ((s4.trans s5').trans s6)
     walk_at "rb"
     rw[e1]
     dsimp only
     rw[show ks.map dN++[dN z']=(ks++[z']).map dN by rw[map_append];rfl]
     exact⟨by rw[length_map];omega,_,_,ks++[z'],rfl,e3,e2,aI,l2 z',gk2 z' gz'⟩
    ·rw[dJ (by simpa using c)]
     obtain⟨e1,e2,e3⟩:=put z im gz (s4.trans s5')
     walk_at "rb"
     rw[e1]
     dsimp only
     rw[show ks.map dN++[dN z]=(ks++[z]).map dN by rw[map_append];rfl]
     exact⟨by rw[length_map];omega,_,_,ks++[z],rfl,e3,e2,aI,l2 z,gk2 z gz⟩
   refine⟨a,2,rfl,⋯,⋯,s3.1,fun r ce _ _ s4=>?_⟩
   walk_at "rb"
   by_cases c:r=0
   ·rw[fk (decide_eq_true c)]
    walk_at "rb"
    have ny:=nrm hd oy sy
    refine⟨d,y,rfl,s5,ny,by_.mono ⋯,?_⟩
    walk_at "rb"
    exact rest (aL d y) ce ⟨bP ny,(j6 s5 ny by_).mono ⋯,vK hd oy sy⟩ s4
   ·rw[dJ (by simpa using c)]
    walk_at "rb"
    exact rest y ce ⟨oy,by_.mono ⋯,sy⟩ s4
  ·rintro ρ am ⟨r5,r6,ks,rfl,hb2,kp2,hf2,lk,gk⟩
   rw[o7] at lk
   walk_at "rb"
   rw[hf2]
   exact q ks am ∅ ∅ gk ⟨hb2,kp2⟩
def gB(d:Int)(ks:List N3):PyData->Option PyData
 |.tuple [.int a,.int b,.int c]=>some (.bool (decide ((⟨a,b,c⟩:N3)∈ks\/aL d ⟨a,b,c⟩∈ks)))
 |_=>none
theorem J6{d:Int}{ks:List N3}:∀ss:List N3,bN ((ss.map dN).filterMap (gB d ks))=some (ss.map fun s=>decide (s∈ks\/aL d s∈ks))
 |[]=>rfl
 |s::ss=>by
  rw[map_cons,filterMap_cons]
  simp only[gB,dN,bN]
  have:=J6 (d:=d) (ks:=ks) ss
  rw[this]
  rfl
theorem Bag.sub{Z ad:Mu}{a:Addr}(h:Bag Z a)(sb:eS Z ad):Bag ad a:=by
 obtain⟨g,m,e,r⟩:=h
 exact⟨g,m,sb.l a _ e,r⟩
theorem Nr{ks:List N3}:PyData.eqv (.list (ks.map dN)) (.list (ks.map dN))=true:=SeqAt.eqv_refl _ (SeqAt.canLay_of_shaped EB)
theorem wt(h:xg ds Z Qd):iI ‹Qd› (aO ["","","","","","","","",""] ds) Z:=by
 obtain⟨a,d,w,h,ts,rfl,L,hb,q⟩:=h
 have hd:=L.root
 have s5:=DU hd.1 hd.2.1
 have l1:=L.l1
 have l60:=L.l60
 have gs:∀s∈ts.map (shp d),Ok s/\Bd 51 s/\sg d s.a s.b=1:=fun s hs=>by
  obtain⟨t,ht,rfl⟩:=List.mem_map.mp hs
  exact Mb hd (L.tile t ht) (L.bd t ht)
 unfold iI
 walk_at "rb"
 refine⟨d,w,h,ts,rfl,L,?_⟩
 walk_at "rb"
 refine⟨d,w,h,ts,rfl,L,fun p ad hp sb hp1=>?_⟩
 have ap:=u4 hb hp
 walk_at "rb"
 rw[dJ ⋯]
 walk_at "rb"
 refine⟨_,hp1,EB,EB,?_⟩
 rw[Nr]
 walk_at "rb"
 rw[n8,Ti]
 walk_at "rb"
 refine⟨_,hp1,by rw[length_map,length_map];omega,fun x=>some (.bool true),?_,?_⟩
 ·intro x hx U _
  obtain⟨s,hs,rfl⟩:=List.mem_map.mp hx
  walk_at "rb"
  simp only[true_and,and_true,↓reduceIte]
  refine⟨_,rfl,M4,?_⟩
  rw[sY (gs s hs).1]
  exact⟨rfl,rfl⟩
 rw[p7 (f:=fun _=>true)]
 dsimp only
 rw[dJ (by simp)]
 walk_at "rb"
 rw[lI]
 walk_at "rb"
 refine⟨⋯,fun i ρ U=>∃r5 r6 r7 r8,ρ=[some (.m a),some (.v (.int d)),some (.v (ia w h ts)),some (.v (.list ((ts.map (shp d)).map dN))),some (.m p),r5,r6,r7,r8]/\Bag U a/\(∀b,b≠a->∀es,Z b=some es->U b=some es)/\U p=some ((ts.map (shp d)).map dN),⟨_,_,_,_,rfl,hb.sub sb,fun b _ es e=>sb.l b es e,hp1⟩,?_,?_⟩
 ·rintro i x ρ am hx ⟨r5,r6,r7,r8,rfl,hb2,kp2,hp2⟩
  obtain⟨rfl,hi⟩:=wb hx
  walk_at "rb"
  refine⟨a,d,ts.map (shp d),rfl,hd,hb2,by rw[length_map];omega,by rw[length_map];omega,gs,fun ks be k1 k3 gk s3=>?_⟩
  walk_at "rb"
  rw[n8]
  walk_at "rb"
  refine⟨by rw[length_map,length_map];omega,gB d ks,?_,?_⟩
  ·intro x hx U _
   obtain⟨s,hs,rfl⟩:=List.mem_map.mp hx
   obtain⟨os,bs,ss⟩:=gs s hs
   have ns:=nrm hd os ss
   have eg:gB d ks (dN s)=some (.bool (decide (s∈ks\/aL d s∈ks))):=rfl
   rw[eg]
   refine⟨⟨trivial,trivial,trivial⟩,?_⟩
   rw[if_pos trivial,C9]
   refine⟨Hx,rfl,JL,?_⟩
   by_cases c:s∈ks
   ·rw[fk (decide_eq_true c)]
    exact⟨rfl,by rw[decide_eq_true (.inl c)]⟩
   ·rw[dJ (by simpa using c)]
    walk_at "rb"
    refine⟨d,s,rfl,s5,ns,bs.mono ⋯,?_⟩
    walk_at "rb"
    refine⟨Hx,rfl,JL,trivial,?_⟩
    rw[C9]
    congr 2
    exact decide_eq_decide.mpr ⟨fun h=>h.resolve_left c,.inr⟩
  rw[J6]
  dsimp only
  have eb:(((ts.map (shp d)).map fun s=>decide (s∈ks\/aL d s∈ks)).all id)=byB d ts ks:=by
   unfold byB
   rw[map_map,all_map]
   rfl
  rw[eb]
  refine⟨d,w,h,ts,ks,rfl,L,k1,k3,gk,?_⟩
  walk_at "rb"
  rw[dJ (by rw[show isT "bool" (.bool (byB d ts ks))=true from rfl];decide)]
  walk_at "rb"
  rw[dJ (by rw[beq_self_eq_true];decide)]
  walk_at "rb"
  exact⟨_,_,_,_,rfl,s3.1,fun b nb es e=>s3.2 b nb es (kp2 b nb es e),s3.2 p ap.symm _ hp2⟩
 ·rintro ρ am ⟨r5,r6,r7,r8,rfl,hb2,kp2,hp2⟩
  walk_at "rb"
  rw[hp2]
  walk_at "rb"
  rw[aI]
  refine⟨by rw[length_map,length_map];omega,d,w,h,ts,rfl,L,fun p2 be hp3 sb3 hp23=>?_⟩
  walk_at "rb"
  refine⟨_,hp23,EB,EB,?_⟩
  rw[Nr]
  refine q be ⟨((hb2.off ap).off ap).sub sb3,fun b nb es e=>?_⟩
  have bp:b≠p:=fun z=>by rw[z,hp] at e;cases e
  refine sb3.l b es ?_
  rw[aT bp,aT bp]
  exact kp2 b nb es e
theorem J5{d:Int}(hd:aJ d){w h:N3}{ts:List Tl}(dr:Drawn d (ia w h ts)):Ki d w h ts:=by
 obtain⟨lv,fv⟩:O6 0 13 w h ts/\BB d w h ts:=by
  obtain⟨xs,ys,C,R,qs,g,e⟩:=dr
  obtain⟨rfl,rfl,rfl⟩:=Eo e
  exact g.v hd
 exact⟨hd,(lv.q ⋯).p ⋯ ⋯,fun b lb=>dr.yes hd lb,fv.tile,lv.bd,lv.l1,lv.l60⟩
theorem K4{d:Int}{t:PyData}(dr:Drawn d t):∃w h ts,t=ia w h ts:=by
 obtain⟨xs,ys,C,R,qs,g,rfl⟩:=dr
 exact⟨_,_,_,rfl⟩
theorem QJ:Drawn 2 (ia ⟨1,0,1⟩ ⟨2,0,1⟩ [⟨⟨0,0,1⟩,⟨0,0,1⟩,⟨1,0,1⟩,⟨2,0,1⟩⟩]):=by
 have f1:gE 2 [aC,one] 1:=⟨rfl,List.pairwise_cons.mpr ⟨fun x hx=>by rw[List.mem_singleton.mp hx];decide,List.pairwise_singleton _ _⟩,fun x hx=>by
  simp only[mem_cons,not_mem_nil,or_false] at hx
  rcases hx with rfl|rfl
  ·exact ue
  ·exact HX,rfl⟩
 have f2:gE 2 [aC,⟨2,0,1⟩] 1:=⟨rfl,List.pairwise_cons.mpr ⟨fun x hx=>by rw[List.mem_singleton.mp hx];decide,List.pairwise_singleton _ _⟩,fun x hx=>by
  simp only[mem_cons,not_mem_nil,or_false] at hx
  rcases hx with rfl|rfl
  ·exact ue
  ·exact⟨⋯,⋯⟩,rfl⟩
 have b1:∀x∈[aC,one],Six 3600 x:=fun x hx=>by
  simp only[mem_cons,not_mem_nil,or_false] at hx
  rcases hx with rfl|rfl
  ·exact⟨0,0,⟨⋯,rfl,rfl⟩,⋯,⋯⟩
  ·exact⟨6,0,⟨⋯,rfl,rfl⟩,⋯,⋯⟩
 have b2:∀x∈[aC,⟨2,0,1⟩],Six 3600 x:=fun x hx=>by
  simp only[mem_cons,not_mem_nil,or_false] at hx
  rcases hx with rfl|rfl
  ·exact⟨0,0,⟨⋯,rfl,rfl⟩,⋯,⋯⟩
  ·exact⟨12,0,⟨⋯,rfl,rfl⟩,⋯,⋯⟩
 have e1:less one aC=one:=by decide
 have e2:less ⟨2,0,1⟩ aC=⟨2,0,1⟩:=by decide
 refine⟨[aC,one],[aC,⟨2,0,1⟩],1,1,[⟨0,1,0,1⟩],⟨f1,f2,⋯,⋯,⋯,⋯,⋯,b1,b2,qe ⋯ ⋯⟩,?_⟩
 show _=ia one ⟨2,0,1⟩ [⟨aC,aC,less one aC,less ⟨2,0,1⟩ aC⟩]
 rw[e1,e2]
 rfl
theorem Tr:aJ 2:=⟨⋯,⋯,⋯,⋯,⋯,⋯⟩
theorem Qi(h:xK ds Z Qd):ID ‹Qd› (aO ["","","","","","","",""] ds) Z:=by
 obtain⟨ns,rfl,h63,q⟩:=h
 unfold ID
 walk_at "rb"
 rw[lI]
 walk_at "rb"
 have hm:(-(2 ^ 62)<=max 2 (min 4 ((ns.length:Nat):Int))/\max 2 (min 4 ((ns.length:Nat):Int))<2 ^ 62):=by omega
 refine⟨hm,fun i ρ U=>∃r1 r2 r3 r4 r5 r6,ρ=[some (.s ns),r1,r2,r3,r4,r5,r6,none],⟨_,_,_,_,_,_,rfl⟩,?_,?_⟩
 ·rintro i x ρ wT hx ⟨r1,r2,r3,r4,r5,r6,rfl⟩
  obtain⟨rfl,hi⟩:=wb hx
  walk_at "rb"
  refine⟨ns,_,rfl,∅,∅,fun a ad ha s1=>?_⟩
  walk_at "rb"
  refine⟨a,rfl,s1.1,fun d am hd s2=>?_⟩
  walk_at "rb"
  refine⟨a,d,rfl,hd,s2.1,fun t1 be dr1 s3=>?_⟩
  walk_at "rb"
  refine⟨a,d,rfl,hd,s3.1,fun t2 ce dr2 s4=>?_⟩
  walk_at "rb"
  rw[lI]
  walk_at "rb"
  refine⟨fun i ρ U=>∃r1 r6,ρ=[some (.s ns),r1,some (.m a),some (.v (.int d)),some (.v t1),some (.v t2),r6,none]/\Bag U a,⟨_,_,rfl,s4.1⟩,?_,?_⟩
  ·rintro j x ρ im hx5 ⟨r1,r6,rfl,hb5⟩
   have dr:Drawn d x:=by
    have:=mem_of_getElem? hx5
    simp only[mem_cons,not_mem_nil,or_false] at this
    rcases this with rfl|rfl|rfl
    ·exact dr1
    ·exact dr2
    ·exact dr1
   obtain⟨w,h,ts,rfl⟩:=K4 dr
   walk_at "rb"
   refine⟨a,d,w,h,ts,rfl,J5 hd dr,hb5,fun ld s6=>?_⟩
   walk_at "rb"
   exact⟨_,_,rfl,s6.1⟩
  ·rintro ρ im ⟨r1,r6,rfl,hb5⟩
   exact⟨_,_,_,_,_,_,rfl⟩
 ·rintro ρ U ⟨r1,r2,r3,r4,r5,r6,rfl⟩
  have L:=J5 Tr QJ
  have kk:∀{a b c:Int},a.natAbs<4->b.natAbs<4->c.natAbs<4->Bd 140 ⟨a,b,c⟩:=fun {a b c} ha hb hc=>(show Bd 2 ⟨a,b,c⟩ from ⟨Sz.of ha,Sz.of hb,Sz.of hc⟩).mono ⋯
  walk_at "rb"
  refine⟨2,⟨1,0,1⟩,⟨2,0,1⟩,_,[⟨1,0,2⟩],rfl,L,⋯,⋯,fun k hk=>?_,?_⟩
  ·rw[List.mem_singleton.mp hk]
   exact⟨⟨⋯,⋯⟩,kk ⋯ ⋯ ⋯,⋯⟩
  have e1:byB 2 [⟨⟨0,0,1⟩,⟨0,0,1⟩,⟨1,0,1⟩,⟨2,0,1⟩⟩] [⟨1,0,2⟩]=true:=by decide
  rw[e1]
  walk_at "rb"
  refine⟨2,⟨1,0,1⟩,⟨2,0,1⟩,_,[⟨3,0,1⟩,⟨1,0,3⟩],rfl,L,⋯,⋯,fun k hk=>?_,?_⟩
  ·simp only[mem_cons,not_mem_nil,or_false] at hk
   rcases hk with rfl|rfl
   ·exact⟨⟨⋯,⋯⟩,kk ⋯ ⋯ ⋯,⋯⟩
   ·exact⟨⟨⋯,⋯⟩,kk ⋯ ⋯ ⋯,⋯⟩
  have e2:byB 2 [⟨⟨0,0,1⟩,⟨0,0,1⟩,⟨1,0,1⟩,⟨2,0,1⟩⟩] [⟨3,0,1⟩,⟨1,0,3⟩]=false:=by decide
  rw[e2]
  walk_at "rb"
  exact q U
end
end L2.DL
namespace K09
open PySem L2 L2.DL
local macro_rules|`(tactic| walk_at "cl")=>`(tactic| (intro _ _ h;first|exact h|exact cl1 h|exact cl2 nofun h|exact cl3 nofun h|exact rW (gD rfl EY) _ _ h|exact rW (gD rfl (gD rfl EY)) _ _ h|exact rW (gD rfl (gD rfl (gD rfl EY))) _ _ h|exact rW (gD rfl (gD rfl (gD rfl (gD rfl EY)))) _ _ h|exact rW (gD rfl (gD rfl (gD rfl (gD rfl (gD rfl EY))))) _ _ h|exact rW (gD rfl (gD rfl (gD rfl (gD rfl (gD rfl (gD rfl EY)))))) _ _ h|exact rW (gD rfl (gD rfl (gD rfl (gD rfl (gD rfl (gD rfl (gD rfl EY))))))) _ _ h|exact rW EY _ _ h|cases h))
set_option genInjectivity false in
structure Adr where
 mj:Addr
 qL:FuncData
 ej:Addr
 ie:FuncData
 jT:Addr
 ph:FuncData
 eB:Addr
 gY:FuncData
 tL:Addr
 yY:FuncData
 Cb:Addr
 Hh:FuncData
 w5:Addr
 D1:FuncData
 Cz:Addr
 Iw:FuncData
 lR:Addr
 qY:FuncData
 pZ:Addr
 uZ:FuncData
 eN:Addr
 iS:FuncData
 mY:Addr
 qO:FuncData
 dH:Addr
 gi:FuncData
 pV:Addr
 vg:FuncData
 ma:Addr
 q5:FuncData
 jU:Addr
 oQ:FuncData
 ir:Addr
 kB:FuncData
 fT:Addr
 jD:FuncData
 fO:Addr
 jH:FuncData
 il:Addr
 kQ:FuncData
 kg:Addr
 oo:FuncData
 mf:Addr
 rj:FuncData
 d9:Addr
 gN:FuncData
 eQ:Addr
 iP:FuncData
 jX:Addr
 oZ:FuncData
 wZ:Addr
 BX:FuncData
 jW:Addr
 pC:FuncData
 eL:Addr
 iR:FuncData
 mZ:Addr
 qD:FuncData
 iC:Addr
 ky:FuncData
 jd:Addr
 mL:FuncData
 iA:Addr
 kq:FuncData
 j7:Addr
 oB:FuncData
 jc:Addr
 mQ:FuncData
 ik:Addr
 kP:FuncData
 j9:Addr
 n5:FuncData
 je:Addr
 mn:FuncData
 dY:Addr
 g0:FuncData
 eO:Addr
 iW:FuncData
 lV:Addr
 rq:FuncData
 kd:Addr
 pq:FuncData
 ip:Addr
 kO:FuncData
 eR:Addr
 iX:FuncData
 i8:Addr
 mH:FuncData
 jV:Addr
 pI:FuncData
 kb:Addr
 pj:FuncData
 jf:Addr
 mR:FuncData
 jR:Addr
 nP:FuncData
 i7:Addr
 mW:FuncData
 kf:Addr
 pB:FuncData
 dM:Addr
 fU:FuncData
 iB:Addr
 kI:FuncData
 ke:Addr
 n9:FuncData
 en:Addr
 gI:FuncData
 dO:Addr
 gv:FuncData
 gw:Addr
 jF:FuncData
 JY:Addr
 Ng:FuncData
 A3:Tok
 Am:Tok
 K3:Addr
structure Txt(K:PySem.W.Frag)(mg:Str->Option Value)(t:Adr):Prop where
 Io:Fun K "is_whole" "is_whole" ic t.mj t.qL
 rn:mg "is_whole"=some (.ref t.mj)
 qV:keepIn K (.ref t.mj)=true
 qX:Binds K t.qL ["thing"] []
 ub:Fun K "common_divisor" "common_divisor" ck t.ej t.ie
 lA:mg "common_divisor"=some (.ref t.ej)
 lE:keepIn K (.ref t.ej)=true
 ll:Binds K t.ie ["a","b"] []
 GW:Fun K "is_number" "is_number" fo t.jT t.ph
 nU:mg "is_number"=some (.ref t.jT)
 oT:keepIn K (.ref t.jT)=true
 n6:Binds K t.ph ["thing"] []
 ve:Fun K "divisor_of_all" "divisor_of_all" cp t.eB t.gY
 lr:mg "divisor_of_all"=some (.ref t.eB)
 kU:keepIn K (.ref t.eB)=true
 k6:Binds K t.gY ["a","b","c"] []
 LH:Fun K "number" "number" k0 t.tL t.yY
 yk:mg "number"=some (.ref t.tL)
 zK:keepIn K (.ref t.tL)=true
 y0:Binds K t.yY ["a","b","c"] []
 Ql:Fun K "plus" "plus" u7 t.Cb t.Hh
 Ml:mg "plus"=some (.ref t.Cb)
 MM:keepIn K (.ref t.Cb)=true
 LX:Binds K t.Hh ["x","y"] []
 Oi:Fun K "times" "times" qd t.w5 t.D1
 NA:mg "times"=some (.ref t.w5)
 NI:keepIn K (.ref t.w5)=true
 N4:Binds K t.D1 ["d","x","y"] []
 RN:Fun K "over" "over" uh t.Cz t.Iw
 PM:mg "over"=some (.ref t.Cz)
 PJ:keepIn K (.ref t.Cz)=true
 P2:Binds K t.Iw ["d","x","y"] []
 HE:Fun K "contrary" "contrary" gQ t.lR t.qY
 yi:mg "contrary"=some (.ref t.lR)
 xt:keepIn K (.ref t.lR)=true
 zm:Binds K t.qY ["d","x"] []
 Kl:Fun K "sign_of" "sign_of" ji t.pZ t.uZ
 vh:mg "sign_of"=some (.ref t.pZ)
 uI:keepIn K (.ref t.pZ)=true
 uM:Binds K t.uZ ["d","x"] []
 wd:Fun K "sign_of_parts" "sign_of_parts" cL t.eN t.iS
 nF:mg "sign_of_parts"=some (.ref t.eN)
 nA:keepIn K (.ref t.eN)=true
 nE:Binds K t.iS ["d","a","b"] []
 Iv:Fun K "is_above" "is_above" g8 t.mY t.qO
 HU:mg "is_above"=some (.ref t.mY)
 Hv:keepIn K (.ref t.mY)=true
 Iz:Binds K t.qO ["d","x","y"] []
 sG:Fun K "is_above_nought" "is_above_nought" bS t.dH t.gi
 cP:mg "is_above_nought"=some (.ref t.dH)
 cR:keepIn K (.ref t.dH)=true
 cN:Binds K t.gi ["d","thing"] []
 Lf:Fun K "is_tile" "is_tile" jg t.pV t.vg
 KC:mg "is_tile"=some (.ref t.pV)
 K5:keepIn K (.ref t.pV)=true
 Kz:Binds K t.vg ["d","thing"] []
 Hz:Fun K "has_form" "has_form" hE t.ma t.q5
 IL:mg "has_form"=some (.ref t.ma)
 HZ:keepIn K (.ref t.ma)=true
 HN:Binds K t.q5 ["d","thing"] []
 Ga:Fun K "bounds_of" "bounds_of" fe t.jU t.oQ
 FZ:mg "bounds_of"=some (.ref t.jU)
 GO:keepIn K (.ref t.jU)=true
 FG:Binds K t.oQ ["tile"] []
 A8:Fun K "place_among" "place_among" dF t.ir t.kB
 A0:mg "place_among"=some (.ref t.ir)
 zX:keepIn K (.ref t.ir)=true
 Av:Binds K t.kB ["d","marks","x"] []
 y7:Fun K "rising_marks" "rising_marks" da t.fT t.jD
 pF:mg "rising_marks"=some (.ref t.fT)
 oS:keepIn K (.ref t.fT)=true
 oU:Binds K t.jD ["d","found"] []
 zQ:Fun K "reaches_just" "reaches_just" cY t.fO t.jH
 o5:mg "reaches_just"=some (.ref t.fO)
 pf:keepIn K (.ref t.fO)=true
 oK:Binds K t.jH ["marks","end"] []
 A1:Fun K "covers_once" "covers_once" dE t.il t.kQ
 AD:mg "covers_once"=some (.ref t.il)
 Aa:keepIn K (.ref t.il)=true
 Ak:Binds K t.kQ ["bounds","across","upward"] []
 E7:Fun K "is_laying" "is_laying" fw t.kg t.oo
 GV:mg "is_laying"=some (.ref t.kg)
 E3:keepIn K (.ref t.kg)=true
 EV:Binds K t.oo ["d","thing"] []
 IP:Fun K "is_kinds" "is_kinds" hJ t.mf t.rj
 Ij:mg "is_kinds"=some (.ref t.mf)
 Iy:keepIn K (.ref t.mf)=true
 HW:Binds K t.rj ["d","thing"] []
 uo:Fun K "must_be_laying" "must_be_laying" cw t.d9 t.gN
 uG:mg "must_be_laying"=some (.ref t.d9)
 va:keepIn K (.ref t.d9)=true
 uU:Binds K t.gN ["d","thing"] []
 wQ:Fun K "must_be_kinds" "must_be_kinds" cM t.eQ t.iP
 wo:mg "must_be_kinds"=some (.ref t.eQ)
 wB:keepIn K (.ref t.eQ)=true
 wG:Binds K t.iP ["d","thing"] []
 Fc:Fun K "shapes_in" "shapes_in" fh t.jX t.oZ
 pH:mg "shapes_in"=some (.ref t.jX)
 ot:keepIn K (.ref t.jX)=true
 pD:Binds K t.oZ ["d","laying"] []
 OX:Fun K "is_by" "is_by" qh t.wZ t.BX
 Eh:mg "is_by"=some (.ref t.wZ)
 D9:keepIn K (.ref t.wZ)=true
 Cg:Binds K t.BX ["d","laying","kinds"] []
 Fw:Fun K "_law_take" "_law_take" fq t.jW t.pC
 aF:mg "_law_take"=some (.ref t.jW)
 aG:keepIn K (.ref t.jW)=true
 aE:Binds K t.pC ["_law_bag_here","_law_many"] []
 wR:Fun K "_law_contrary" "_law_contrary" cK t.eL t.iR
 iJ:mg "_law_contrary"=some (.ref t.eL)
 iT:keepIn K (.ref t.eL)=true
 iY:Binds K t.iR ["_law_d","_law_x"] []
 IM:Fun K "_law_low" "_law_low" gT t.mZ t.qD
 hV:mg "_law_low"=some (.ref t.mZ)
 hZ:keepIn K (.ref t.mZ)=true
 gP:Binds K t.qD ["_law_a","_law_b","_law_c"] []
 A6:Fun K "_law_shared" "_law_shared" dz t.iC t.ky
 iw:mg "_law_shared"=some (.ref t.iC)
 iz:keepIn K (.ref t.iC)=true
 iu:Binds K t.ky ["_law_one","_law_other"] []
 D2:Fun K "_law_above" "_law_above" d6 t.jd t.mL
 Dc:mg "_law_above"=some (.ref t.jd)
 DN:keepIn K (.ref t.jd)=true
 DB:Binds K t.mL ["_law_bag_here","_law_d"] []
 zT:Fun K "_law_number" "_law_number" dn t.iA t.kq
 AA:mg "_law_number"=some (.ref t.iA)
 zS:keepIn K (.ref t.iA)=true
 AM:Binds K t.kq ["_law_bag_here"] []
 EF:Fun K "_law_sign" "_law_sign" eY t.j7 t.oB
 vI:mg "_law_sign"=some (.ref t.j7)
 v5:keepIn K (.ref t.j7)=true
 vR:Binds K t.oB ["_law_d","_law_x"] []
 Cr:Fun K "_law_minus" "_law_minus" d8 t.jc t.mQ
 mB:mg "_law_minus"=some (.ref t.jc)
 mi:keepIn K (.ref t.jc)=true
 ng:Binds K t.mQ ["_law_x"] []
 AV:Fun K "_law_shapes" "_law_shapes" dq t.ik t.kP
 Aq:mg "_law_shapes"=some (.ref t.ik)
 zV:keepIn K (.ref t.ik)=true
 Aj:Binds K t.kP ["_law_d","_law_laying_here"] []
 Fp:Fun K "_law_over" "_law_over" fu t.j9 t.n5
 E4:mg "_law_over"=some (.ref t.j9)
 EN:keepIn K (.ref t.j9)=true
 Fz:Binds K t.n5 ["_law_d","_law_x","_law_y"] []
 B5:Fun K "_law_times" "_law_times" eo t.je t.mn
 DP:mg "_law_times"=some (.ref t.je)
 Cy:keepIn K (.ref t.je)=true
 D0:Binds K t.mn ["_law_d","_law_x","_law_y"] []
 uV:Fun K "_law_is_number" "_law_is_number" cu t.dY t.g0
 uX:mg "_law_is_number"=some (.ref t.dY)
 uj:keepIn K (.ref t.dY)=true
 uE:Binds K t.g0 ["_law_thing"] []
 wI:Fun K "_law_is_whole" "_law_is_whole" cJ t.eO t.iW
 wL:mg "_law_is_whole"=some (.ref t.eO)
 wH:keepIn K (.ref t.eO)=true
 wg:Binds K t.iW ["_law_thing"] []
 HL:Fun K "_law_bag" "_law_bag" gW t.lV t.rq
 Hn:mg "_law_bag"=some (.ref t.lV)
 Im:keepIn K (.ref t.lV)=true
 HF:Binds K t.rq ["_law_script","_law_at"] []
 E2:Fun K "_law_root" "_law_root" fj t.kd t.pq
 Gx:mg "_law_root"=some (.ref t.kd)
 Ex:keepIn K (.ref t.kd)=true
 FE:Binds K t.pq ["_law_bag_here"] []
 Ap:Fun K "_law_laying" "_law_laying" dD t.ip t.kO
 AE:mg "_law_laying"=some (.ref t.ip)
 Au:keepIn K (.ref t.ip)=true
 AN:Binds K t.kO ["_law_bag_here","_law_d"] []
 wj:Fun K "_law_pinwheel" "_law_pinwheel" cH t.eR t.iX
 nI:mg "_law_pinwheel"=some (.ref t.eR)
 nK:keepIn K (.ref t.eR)=true
 nJ:Binds K t.iX ["_law_bag_here"] []
 C7:Fun K "_law_floor" "_law_floor" d7 t.i8 t.mH
 mM:mg "_law_floor"=some (.ref t.i8)
 mN:keepIn K (.ref t.i8)=true
 lZ:Binds K t.mH ["_law_bag_here","_law_d","_law_columns","_law_rows","_law_blocks_here"] []
 Fq:Fun K "_law_ends" "_law_ends" eX t.jV t.pI
 vM:mg "_law_ends"=some (.ref t.jV)
 vt:keepIn K (.ref t.jV)=true
 vW:Binds K t.pI ["_law_sides_here"] []
 FX:Fun K "_law_plus" "_law_plus" fD t.kb t.pj
 vU:mg "_law_plus"=some (.ref t.kb)
 vJ:keepIn K (.ref t.kb)=true
 vB:Binds K t.pj ["_law_x","_law_y"] []
 C4:Fun K "_law_sides" "_law_sides" eA t.jf t.mR
 rG:mg "_law_sides"=some (.ref t.jf)
 sf:keepIn K (.ref t.jf)=true
 sD:Binds K t.mR ["_law_bag_here","_law_d","_law_many"] []
 G1:Fun K "_law_side" "_law_side" fg t.jR t.nP
 vT:mg "_law_side"=some (.ref t.jR)
 vZ:keepIn K (.ref t.jR)=true
 vD:Binds K t.nP ["_law_bag_here","_law_d","_law_way"] []
 Dq:Fun K "_law_mixed" "_law_mixed" d5 t.i7 t.mW
 Ca:mg "_law_mixed"=some (.ref t.i7)
 Ee:keepIn K (.ref t.i7)=true
 BV:Binds K t.mW ["_law_bag_here","_law_row"] []
 Gv:Fun K "_law_less" "_law_less" fE t.kf t.pB
 vH:mg "_law_less"=some (.ref t.kf)
 vz:keepIn K (.ref t.kf)=true
 vF:Binds K t.pB ["_law_x","_law_y"] []
 rM:Fun K "_law_many_cells" "_law_many_cells" bT t.dM t.fU
 rD:mg "_law_many_cells"=some (.ref t.dM)
 rJ:keepIn K (.ref t.dM)=true
 tQ:Binds K t.fU ["_law_bag_here"] []
 Az:Fun K "_law_blocks" "_law_blocks" dw t.iB t.kI
 qy:mg "_law_blocks"=some (.ref t.iB)
 qv:keepIn K (.ref t.iB)=true
 qp:Binds K t.kI ["_law_bag_here","_law_columns","_law_rows"] []
 Ff:Fun K "_law_room" "_law_room" fc t.ke t.n9
 G2:mg "_law_room"=some (.ref t.ke)
 Gq:keepIn K (.ref t.ke)=true
 FH:Binds K t.n9 ["_law_met","_law_column","_law_row","_law_columns"] []
 uD:Fun K "_law_few_tiles" "_law_few_tiles" cm t.en t.gI
 uJ:mg "_law_few_tiles"=some (.ref t.en)
 uA:keepIn K (.ref t.en)=true
 u9:Binds K t.gI ["_law_bag_here","_law_d","_law_most"] []
 sL:Fun K "_law_some_kinds" "_law_some_kinds" bU t.dO t.gv
 rS:mg "_law_some_kinds"=some (.ref t.dO)
 rH:keepIn K (.ref t.dO)=true
 sR:Binds K t.gv ["_law_bag_here","_law_d","_law_shapes_here"] []
 xJ:Fun K "_law_is_told" "_law_is_told" cW t.gw t.jF
 yD:mg "_law_is_told"=some (.ref t.gw)
 xM:keepIn K (.ref t.gw)=true
 yy:Binds K t.jF ["_law_bag_here","_law_d","_law_laying_here"] []
 SK:Fun K "law" "law" qw t.JY t.Ng
 Uv:mg "law"=some (.ref t.JY)
 Uu:keepIn K (.ref t.JY)=true
 Ut:Binds K t.Ng ["_law_script"] []
 bK:mg "isinstance"=none
 xO:mg "int"=none
 HR:mg "bool"=none
 ES:mg "abs"=none
 j5:mg "tuple"=none
 gA:mg "len"=none
 Bu:mg "all"=none
 SI:mg "set"=none
 fG:mg "range"=none
 oM:mg "enumerate"=none
 IS:mg "list"=none
 L7:mg "min"=none
 SJ:mg "max"=none
 B9:mg "MOST_KINDS"=some (.int 3 t.A3)
 Di:mg "MOST_TILES"=some (.int 60 t.Am)
 Gn:Sg K mg "NOUGHT" t.K3 0 0 1
structure EQ where
 P:Program
 w:World
 K:PySem.W.Frag
 mg:Str->Option Value
 base:Heap
 t:Adr
noncomputable abbrev TX(e:EQ):Prop:=Txt e.K e.mg e.t
noncomputable abbrev vN(e:EQ):Prop:=bu e.P e.w e.K e.mg e.base CX0 1 e.t.mj e.t.qL ["thing"] (spD e.K jb)
noncomputable abbrev jQ(e:EQ):Prop:=bu e.P e.w e.K e.mg e.base CX0 1 e.t.ej e.t.ie ["a","b"] (spD e.K og)
noncomputable abbrev mI(e:EQ):Prop:=bu e.P e.w e.K e.mg e.base CX0 3 e.t.jT e.t.ph ["thing"] (spD e.K lS)
noncomputable abbrev fY(e:EQ):Prop:=bu e.P e.w e.K e.mg e.base CX0 2 e.t.eB e.t.gY ["a","b","c"] (spD e.K yH)
noncomputable abbrev qc(e:EQ):Prop:=bu e.P e.w e.K e.mg e.base CX0 3 e.t.tL e.t.yY ["a","b","c"] (spD e.K cO)
noncomputable abbrev Jw(e:EQ):Prop:=bu e.P e.w e.K e.mg e.base CX0 4 e.t.Cb e.t.Hh ["x","y"] (spD e.K mO)
noncomputable abbrev FC(e:EQ):Prop:=bu e.P e.w e.K e.mg e.base CX0 4 e.t.w5 e.t.D1 ["d","x","y"] (spD e.K lU)
noncomputable abbrev JN(e:EQ):Prop:=bu e.P e.w e.K e.mg e.base CX0 5 e.t.Cz e.t.Iw ["d","x","y"] (spD e.K rg)
noncomputable abbrev o9(e:EQ):Prop:=bu e.P e.w e.K e.mg e.base CX0 4 e.t.lR e.t.qY ["d","x"] (spD e.K cU)
noncomputable abbrev qR(e:EQ):Prop:=bu e.P e.w e.K e.mg e.base CX0 2 e.t.pZ e.t.uZ ["d","x"] (spD e.K kJ)
noncomputable abbrev ib(e:EQ):Prop:=bu e.P e.w e.K e.mg e.base CX0 1 e.t.eN e.t.iS ["d","a","b"] (spD e.K rC)
noncomputable abbrev vY(e:EQ):Prop:=bu e.P e.w e.K e.mg e.base CX0 2 e.t.mY e.t.qO ["d","x","y"] (spD e.K w6)
noncomputable abbrev dh(e:EQ):Prop:=bu e.P e.w e.K e.mg e.base CX0 4 e.t.dH e.t.gi ["d","thing"] (spD e.K iD)
noncomputable abbrev xI(e:EQ):Prop:=bu e.P e.w e.K e.mg e.base CX0 5 e.t.pV e.t.vg ["d","thing"] (spD e.K D8)
noncomputable abbrev vO(e:EQ):Prop:=bu e.P e.w e.K e.mg e.base CX0 6 e.t.ma e.t.q5 ["d","thing"] (spD e.K xf)
noncomputable abbrev rL(e:EQ):Prop:=bu e.P e.w e.K e.mg e.base CX0 5 e.t.jU e.t.oQ ["tile"] (spD e.K pM)
noncomputable abbrev nQ(e:EQ):Prop:=bu e.P e.w e.K e.mg e.base CX0 3 e.t.ir e.t.kB ["d","marks","x"] (spD e.K tJ)
noncomputable abbrev nG(e:EQ):Prop:=bu e.P e.w e.K e.mg e.base CX0 4 e.t.fT e.t.jD ["d","found"] (spD e.K pU)
noncomputable abbrev nH(e:EQ):Prop:=bu e.P e.w e.K e.mg e.base CX0 1 e.t.fO e.t.jH ["marks","end"] (spD e.K sP)
noncomputable abbrev oW(e:EQ):Prop:=bu e.P e.w e.K e.mg e.base CX0 1 e.t.il e.t.kQ ["bounds","across","upward"] (spD e.K xC)
noncomputable abbrev sH(e:EQ):Prop:=bu e.P e.w e.K e.mg e.base CX0 7 e.t.kg e.t.oo ["d","thing"] (spD e.K rZ)
noncomputable abbrev vQ(e:EQ):Prop:=bu e.P e.w e.K e.mg e.base CX0 5 e.t.mf e.t.rj ["d","thing"] (spD e.K tP)
noncomputable abbrev ka(e:EQ):Prop:=bu e.P e.w e.K e.mg e.base CX0 8 e.t.d9 e.t.gN ["d","thing"] (spD e.K p6)
noncomputable abbrev k5(e:EQ):Prop:=bu e.P e.w e.K e.mg e.base CX0 6 e.t.eQ e.t.iP ["d","thing"] (spD e.K j4)
noncomputable abbrev l7(e:EQ):Prop:=bu e.P e.w e.K e.mg e.base CX0 9 e.t.jX e.t.oZ ["d","laying"] (spD e.K g9)
noncomputable abbrev yz(e:EQ):Prop:=bu e.P e.w e.K e.mg e.base CX0 10 e.t.wZ e.t.BX ["d","laying","kinds"] (spD e.K yB)
noncomputable abbrev bC(e:EQ):Prop:=bu e.P e.w e.K e.mg e.base CX0 1 e.t.jW e.t.pC ["_law_bag_here","_law_many"] (spD e.K mv)
noncomputable abbrev eC(e:EQ):Prop:=bu e.P e.w e.K e.mg e.base CX0 3 e.t.eL e.t.iR ["_law_d","_law_x"] (spD e.K cU)
noncomputable abbrev fz(e:EQ):Prop:=bu e.P e.w e.K e.mg e.base CX0 2 e.t.mZ e.t.qD ["_law_a","_law_b","_law_c"] (spD e.K cO)
noncomputable abbrev jL(e:EQ):Prop:=bu e.P e.w e.K e.mg e.base CX0 1 e.t.iC e.t.ky ["_law_one","_law_other"] (spD e.K og)
noncomputable abbrev qm(e:EQ):Prop:=bu e.P e.w e.K e.mg e.base CX0 4 e.t.jd e.t.mL ["_law_bag_here","_law_d"] (spD e.K sU)
noncomputable abbrev n4(e:EQ):Prop:=bu e.P e.w e.K e.mg e.base CX0 3 e.t.iA e.t.kq ["_law_bag_here"] (spD e.K pQ)
noncomputable abbrev mw(e:EQ):Prop:=bu e.P e.w e.K e.mg e.base CX0 1 e.t.j7 e.t.oB ["_law_d","_law_x"] (spD e.K kJ)
noncomputable abbrev ix(e:EQ):Prop:=bu e.P e.w e.K e.mg e.base CX0 1 e.t.jc e.t.mQ ["_law_x"] (spD e.K pT)
noncomputable abbrev oD(e:EQ):Prop:=bu e.P e.w e.K e.mg e.base CX0 5 e.t.ik e.t.kP ["_law_d","_law_laying_here"] (spD e.K qg)
noncomputable abbrev tV(e:EQ):Prop:=bu e.P e.w e.K e.mg e.base CX0 4 e.t.j9 e.t.n5 ["_law_d","_law_x","_law_y"] (spD e.K rg)
noncomputable abbrev qr(e:EQ):Prop:=bu e.P e.w e.K e.mg e.base CX0 3 e.t.je e.t.mn ["_law_d","_law_x","_law_y"] (spD e.K lU)
noncomputable abbrev jZ(e:EQ):Prop:=bu e.P e.w e.K e.mg e.base CX0 2 e.t.dY e.t.g0 ["_law_thing"] (spD e.K lS)
noncomputable abbrev lC(e:EQ):Prop:=bu e.P e.w e.K e.mg e.base CX0 1 e.t.eO e.t.iW ["_law_thing"] (spD e.K jb)
noncomputable abbrev vP(e:EQ):Prop:=bu e.P e.w e.K e.mg e.base CX0 1 e.t.lV e.t.rq ["_law_script","_law_at"] (spD e.K J2)
noncomputable abbrev tp(e:EQ):Prop:=bu e.P e.w e.K e.mg e.base CX0 2 e.t.kd e.t.pq ["_law_bag_here"] (spD e.K w8)
noncomputable abbrev nO(e:EQ):Prop:=bu e.P e.w e.K e.mg e.base CX0 6 e.t.ip e.t.kO ["_law_bag_here","_law_d"] (spD e.K pW)
noncomputable abbrev hW(e:EQ):Prop:=bu e.P e.w e.K e.mg e.base CX0 2 e.t.eR e.t.iX ["_law_bag_here"] (spD e.K jk)
noncomputable abbrev kH(e:EQ):Prop:=bu e.P e.w e.K e.mg e.base CX0 5 e.t.i8 e.t.mH ["_law_bag_here","_law_d","_law_columns","_law_rows","_law_blocks_here"] (spD e.K kX)
noncomputable abbrev tM(e:EQ):Prop:=bu e.P e.w e.K e.mg e.base CX0 4 e.t.jV e.t.pI ["_law_sides_here"] (spD e.K Cq)
noncomputable abbrev mT(e:EQ):Prop:=bu e.P e.w e.K e.mg e.base CX0 3 e.t.kb e.t.pj ["_law_x","_law_y"] (spD e.K mO)
noncomputable abbrev qu(e:EQ):Prop:=bu e.P e.w e.K e.mg e.base CX0 4 e.t.jf e.t.mR ["_law_bag_here","_law_d","_law_many"] (spD e.K tX)
noncomputable abbrev sN(e:EQ):Prop:=bu e.P e.w e.K e.mg e.base CX0 3 e.t.jR e.t.nP ["_law_bag_here","_law_d","_law_way"] (spD e.K rX)
noncomputable abbrev qx(e:EQ):Prop:=bu e.P e.w e.K e.mg e.base CX0 2 e.t.i7 e.t.mW ["_law_bag_here","_law_row"] (spD e.K sE)
noncomputable abbrev sv(e:EQ):Prop:=bu e.P e.w e.K e.mg e.base CX0 4 e.t.kf e.t.pB ["_law_x","_law_y"] (spD e.K xW)
noncomputable abbrev jt(e:EQ):Prop:=bu e.P e.w e.K e.mg e.base CX0 2 e.t.dM e.t.fU ["_law_bag_here"] (spD e.K xc)
noncomputable abbrev jl(e:EQ):Prop:=bu e.P e.w e.K e.mg e.base CX0 2 e.t.iB e.t.kI ["_law_bag_here","_law_columns","_law_rows"] (spD e.K tO)
noncomputable abbrev tq(e:EQ):Prop:=bu e.P e.w e.K e.mg e.base CX0 1 e.t.ke e.t.n9 ["_law_met","_law_column","_law_row","_law_columns"] (spD e.K CU)
noncomputable abbrev jS(e:EQ):Prop:=bu e.P e.w e.K e.mg e.base CX0 6 e.t.en e.t.gI ["_law_bag_here","_law_d","_law_most"] (spD e.K mU)
noncomputable abbrev jj(e:EQ):Prop:=bu e.P e.w e.K e.mg e.base CX0 5 e.t.dO e.t.gv ["_law_bag_here","_law_d","_law_shapes_here"] (spD e.K kh)
noncomputable abbrev nu(e:EQ):Prop:=bu e.P e.w e.K e.mg e.base CX0 11 e.t.gw e.t.jF ["_law_bag_here","_law_d","_law_laying_here"] (spD e.K xg)
noncomputable abbrev MU(e:EQ):Prop:=bu e.P e.w e.K e.mg e.base CX0 12 e.t.JY e.t.Ng ["_law_script"] (spD e.K xK)
section
variable {e:EQ}
theorem Gd:aK ["thing"] ["thing"] (ax ic):=by walk_at "s"
theorem Ge(T:TX e):vN e:=by
 have S:=Gd
 exact T.Io.okD S (fun ds Z Q h=>vE h) (fun cdv A outer s H E hr=>⟨j2,(ar (aH (ko (kr (Je _) rfl T.bK rfl T.xO PyProof.Rows.Boot.«int» (dv 0)) (kT (Lw (kr (zP _) rfl T.bK rfl T.HR PyProof.Rows.Boot.«bool» (dv 0))))))),fun ds Z Qd h=>wa h⟩)
theorem tN:aK ["a","b"] ["a","b"] (ax ck):=by walk_at "s"
theorem su(T:TX e):jQ e:=by
 have S:=tN
 exact T.ub.okD S (fun ds Z Q h=>Bn h) (fun cdv A outer s H E hr=>⟨fM,(ak (tI PassesOwn.never (aW (nh hr.units) bH (dv 1) ah (aN _)) (ar (ml (i:=0) (j:=1) rfl S.nd rfl rfl ⋯ rfl rfl (ae (dv 1) (ae (jm (dv 0) (dv 1)) aj)) rfl)))
  (ar (aH (yr rfl T.ES (ae (dv 0) aj))))),fun ds Z Qd h=>rP h⟩)
theorem ug:aK ["d","a","b","prevailing"] ["d","a","b"] (ax cL):=by walk_at "s"
theorem uR(T:TX e):ib e:=by
 have S:=ug
 exact T.wd.okD S (fun ds Z Q h=>Fg h) (fun cdv A outer s H E hr=>⟨gO,(ak (bF (DW.dt (Cc (aW (bV hr.units) bH (dv 1) ah (aN _)) (xa (aW (bV hr.units) bH (dv 2) ah (aN _))))) (ar (aH ah)) aX)
  (ak (bF (DW.dt (Cc (aW G0 eI (dv 1) ah (aN _)) (xa (aW G0 eI (dv 2) ah (aN _))))) (ar (aH ah)) aX)
  (ak (bF (DW.dt (Cc (aW Po eI (dv 1) ah (aN _)) (xa (aW Po eI (dv 2) ah (aN _))))) (ar (aH (mD ah))) aX)
  (ak (aS (i:=3) S.nd rfl (Or.inl rfl) (BF (aW kW eI (aY (dv 1) (dv 1)) (aY (aY (dv 0) (dv 2)) (dv 2)) (aN _)) (dv 1) (dv 2)))
  (ar (aH (BF (aW kW eI (dv 3) ah (aN _)) ah (mD ah)))))))),fun ds Z Qd h=>vm h⟩)
theorem wq:aK ["marks","end"] ["marks","end"] (ax cY):=by walk_at "s"
theorem wM(T:TX e):nH e:=by
 have S:=wq
 exact T.zQ.okD S (fun ds Z Q h=>GN h) (fun cdv A outer s H E hr=>⟨iL,(ar (aH (ko (dc (bV hr.units) bH (aD (dv 0) ah) (EZ rfl T.Gn) (aN _)) (kT (dc (bV hr.units) bH (aD (dv 0) (mD ah)) (dv 1) (aN _)))))),fun ds Z Qd h=>wx h⟩)
theorem yv:aK ["bounds","across","upward","columns","rows","covered","left","right","bottom","top","column","row"] ["bounds","across","upward"] (ax dE):=by walk_at "s"
theorem xX(T:TX e):oW e:=by
 have S:=yv
 exact DX (T.A1.okD S (fun ds Z Q h=>AS h) (fun cdv A outer s H E hr=>⟨jK,(ak (J0 (i:=3) (N':=["at","x"]) (cap:=[none,none]) S.nd rfl rfl rfl hr.units (DQ rfl T.oM (ae (dv 1) aj)) (fun _ _ _=>(dg (n:=2) rfl (aB (aw (i:=0) (show List.Nodup (["at","x"]:List Str) by decide +kernel) rfl (Or.inl rfl)) (aB (aw (i:=1) (show List.Nodup (["at","x"]:List Str) by decide +kernel) rfl (Or.inl rfl)) bY)))) (fun _ _ _=>bW) (fun _ _ _=>(dv 1)) (fun _ _ _=>(dv 0)) rfl nofun rfl nofun (by walk_at "cl") (cX rfl) rfl (cE trivial))
  (ak (J0 (i:=4) (N':=["at","y"]) (cap:=[none,none]) S.nd rfl rfl rfl hr.units (DQ rfl T.oM (ae (dv 2) aj)) (fun _ _ _=>(dg (n:=2) rfl (aB (aw (i:=0) (show List.Nodup (["at","y"]:List Str) by decide +kernel) rfl (Or.inl rfl)) (aB (aw (i:=1) (show List.Nodup (["at","y"]:List Str) by decide +kernel) rfl (Or.inl rfl)) bY)))) (fun _ _ _=>bW) (fun _ _ _=>(dv 1)) (fun _ _ _=>(dv 0)) rfl nofun rfl nofun (by walk_at "cl") (cX rfl) rfl (cE trivial))
  (ak (aS (i:=5) S.nd rfl (Or.inl rfl) (Kb rfl T.SI))
  (ak (gK PassesOwn.never rfl (ig (dv 0)) (dg (n:=4) rfl (aB (aw (i:=6) S.nd rfl (Or.inl rfl)) (aB (aw (i:=7) S.nd rfl (Or.inl rfl)) (aB (aw (i:=8) S.nd rfl (Or.inl rfl)) (aB (aw (i:=9) S.nd rfl (Or.inl rfl)) bY))))) (ar (gK PassesOwn.never rfl (Du rfl T.fG (ae (CZ hr.units (dv 3) (dv 6)) (ae (CZ hr.units (dv 3) (dv 7)) aj))) (aw (i:=10) S.nd rfl (Or.inl rfl)) (ar (gK PassesOwn.never rfl (Du rfl T.fG (ae (CZ hr.units (dv 4) (dv 8)) (ae (CZ hr.units (dv 4) (dv 9)) aj))) (aw (i:=11) S.nd rfl (Or.inl rfl)) (ak (bF (Qu hr.units (aZ (ae (dv 10) (ae (dv 11) aj))) (dv 5) (by with_unfolding_all rfl)) (ar (aH iG)) aX)
  (ar (iy (N9 hr.units (dv 5) (aZ (ae (dv 10) (ae (dv 11) aj))))))))))))
  (ar (aH (dc (bV hr.units) bH (O7 rfl T.gA (ae (dv 5) aj)) (aY (df (dG rfl T.gA (ae (dv 1) aj)) ah) (df (dG rfl T.gA (ae (dv 2) aj)) ah)) (aN _)))))))),fun ds Z Qd h=>zf h⟩)) (fun ds Z Qd h=>we h)
theorem D7:aK ["_law_bag_here","_law_many","_law_digit"] ["_law_bag_here","_law_many"] (ax fq):=by walk_at "s"
theorem Ei(T:TX e):bC e:=by
 have S:=D7
 exact T.Fw.okD S (fun ds Z Q h=>Fo h) (fun cdv A outer s H E hr=>⟨kK,(ak (bF (aW kW eI (aD (dv 0) ah) ah (aN _)) (ak (aS (i:=2) S.nd rfl (Or.inl rfl) (jm (aD (dv 0) ah) (dv 1)))
  (ak (jI (iQ (aD (dv 0) ah) (dv 1)) (Nc (dv 0) ah))
  (ar (aH (dv 2))))) aX)
  (ak (jI (jm (bb (aY (aD (dv 0) ah) ah) ah) ah) (Nc (dv 0) ah))
  (ar (aH (jm (iQ (jm (M0 (aD (dv 0) ah) ah) ah) ah) (dv 1)))))),fun ds Z Qd h=>Ae h⟩)
theorem zq:aK ["_law_one","_law_other"] ["_law_one","_law_other"] (ax dz):=by walk_at "s"
theorem xH(T:TX e):jL e:=by
 have S:=zq
 exact T.A6.okD S (fun ds Z Q h=>Bn h) (fun cdv A outer s H E hr=>⟨jC,(ak (ml (i:=0) (j:=1) rfl S.nd rfl rfl ⋯ rfl rfl (ae (yr rfl T.ES (ae (dv 0) aj)) (ae (yr rfl T.ES (ae (dv 1) aj)) aj)) rfl)
  (ak (tI PassesOwn.never (aW kW eI (dv 1) ah (aN _)) (ar (ml (i:=0) (j:=1) rfl S.nd rfl rfl ⋯ rfl rfl (ae (dv 1) (ae (jm (dv 0) (dv 1)) aj)) rfl)))
  (ar (aH (dv 0))))),fun ds Z Qd h=>ye h⟩)
theorem B6:aK ["_law_d","_law_x","_law_first","_law_second","_law_sides_here"] ["_law_d","_law_x"] (ax eY):=by walk_at "s"
theorem CJ(T:TX e):mw e:=by
 have S:=B6
 exact T.EF.okD S (fun ds Z Q h=>yE h) (fun cdv A outer s H E hr=>⟨mS,(ak (ml (i:=2) (j:=3) rfl S.nd rfl rfl ⋯ rfl rfl (ae (aY (aD (dv 1) ah) (aD (dv 1) ah)) (ae (aY (aY (dv 0) (aD (dv 1) ah)) (aD (dv 1) ah)) aj)) rfl)
  (ak (aS (i:=4) S.nd rfl (Or.inl rfl) (fX (ae (df (ou rfl T.xO (ae (dc kW eI (aD (dv 1) ah) ah (aN _)) aj)) (ou rfl T.xO (ae (dc nD eI (aD (dv 1) ah) ah (aN _)) aj))) (ae (df (ou rfl T.xO (ae (dc kW eI (aD (dv 1) ah) ah (aN _)) aj)) (ou rfl T.xO (ae (dc nD eI (aD (dv 1) ah) ah (aN _)) aj))) aj))))
  (ak (bF (aW G0 eI (aY (aD (dv 4) ah) (aD (dv 4) ah)) ah (aN _)) (ar (aH (BF (aW (nh hr.units) bH (aD (dv 4) ah) ah (aN _)) (aD (dv 4) ah) (aD (dv 4) ah)))) aX)
  (ar (aH (BF (aW kW eI (dv 2) (dv 3) (aN _)) (aD (dv 4) ah) (aD (dv 4) ah))))))),fun ds Z Qd h=>CM h⟩)
theorem AR:aK ["_law_x"] ["_law_x"] (ax d8):=by walk_at "s"
theorem A4(T:TX e):ix e:=by
 have S:=AR
 exact T.Cr.okD S (fun ds Z Q h=>FL h) (fun cdv A outer s H E hr=>⟨kF,(ar (aH (aZ (ae (df ah (aD (dv 0) ah)) (ae (df ah (aD (dv 0) ah)) (ae (aD (dv 0) ah) aj)))))),fun ds Z Qd h=>AI h⟩)
theorem uT:aK ["_law_thing"] ["_law_thing"] (ax cJ):=by walk_at "s"
theorem uS(T:TX e):lC e:=by
 have S:=uT
 exact T.wI.okD S (fun ds Z Q h=>vE h) (fun cdv A outer s H E hr=>⟨k9,(ar (aH (ko (kr (Je _) rfl T.bK rfl T.xO PyProof.Rows.Boot.«int» (dv 0)) (kT (Lw (kr (zP _) rfl T.bK rfl T.HR PyProof.Rows.Boot.«bool» (dv 0))))))),fun ds Z Qd h=>uu h⟩)
theorem Gj:aK ["_law_script","_law_at","_law_cell","_law_great","_law_primes","_law_mixed_here"] ["_law_script","_law_at"] (ax gW):=by walk_at "s"
theorem G7(T:TX e):vP e:=by
 have S:=Gj
 exact T.HL.okD S (fun ds Z Q h=>KH h) (fun cdv A outer s H E hr=>⟨nV,(ak (aS (i:=2) S.nd rfl (Or.inl rfl) ah)
  (ak (bF (aW nD eI (dv 1) (dG rfl T.gA (ae (dv 0) aj)) (aN _)) (ar (aS (i:=2) S.nd rfl (Or.inl rfl) (aD (dv 0) (dv 1)))) aX)
  (ak (aS (i:=3) S.nd rfl (Or.inl rfl) ah)
  (ak (bF (aW G0 eI (yr rfl T.ES (ae (dv 2) aj)) (M0 ah ah) (aN _)) (ar (aS (i:=3) S.nd rfl (Or.inl rfl) (yr rfl T.ES (ae (dv 2) aj)))) aX)
  (ak (aS (i:=4) S.nd rfl (Or.inl rfl) (fX (ae ah (ae ah (ae ah (ae ah (ae ah (ae ah (ae ah (ae ah aj))))))))))
  (ak (aS (i:=5) S.nd rfl (Or.inl rfl) (bb (bb (bb (aY (jm (dv 2) ah) ah) (aY (aY ah (dv 1)) (dv 1))) (aY ah (dv 1))) ah))
  (ar (aH (pL (ae (dv 3) (ae (jm (dv 5) (aD (dv 4) (jm (dv 1) ah))) aj))))))))))),fun ds Z Qd h=>GB h⟩)
theorem B0:aK ["_law_met","_law_column","_law_row","_law_columns","_law_found"] ["_law_met","_law_column","_law_row","_law_columns"] (ax fc):=by walk_at "s"
theorem BZ(T:TX e):tq e:=by
 have S:=B0
 exact T.Ff.okD S (fun ds Z Q h=>HM h) (fun cdv A outer s H E hr=>⟨mr,(ak (aS (i:=4) S.nd rfl (Or.inl rfl) ah)
  (ak (tI PassesOwn.never (DW.dt (Cc (aW nD eI (bb (dv 1) (dv 4)) (dv 3) (aN _)) (xa (Bo hr.units (aZ (ae (bb (dv 1) (dv 4)) (ae (dv 2) aj))) (dv 0) (by with_unfolding_all rfl))))) (ar (aS (i:=4) S.nd rfl (Or.inl rfl) (bb (dv 4) ah))))
  (ar (aH (dv 4))))),fun ds Z Qd h=>CB h⟩)
theorem sZ:aK ["a","b","c"] ["a","b","c"] (ax cp):=by walk_at "s"
theorem sO(T:TX e)(eu:jQ e):fY e:=by
 have S:=sZ
 exact T.ve.okD S (fun ds Z Q h=>HD h) (fun cdv A outer s H E hr=>⟨gn,(ar (aH (ao eu (hr.mono ⋯) rfl T.lA T.lE T.ll (ae (ao eu (hr.mono ⋯) rfl T.lA T.lE T.ll (ae (dv 2) (ae (dv 0) aj))) (ae (dv 1) aj))))),fun ds Z Qd h=>si h⟩)
theorem HQ:aK ["d","x"] ["d","x"] (ax ji):=by walk_at "s"
theorem HB(T:TX e)(cI:ib e):qR e:=by
 have S:=HQ
 exact T.Kl.okD S (fun ds Z Q h=>yE h) (fun cdv A outer s H E hr=>⟨qS,(ar (aH (ao cI (hr.mono ⋯) rfl T.nF T.nA T.nE (ae (dv 0) (ae (aD (dv 1) ah) (ae (aD (dv 1) ah) aj)))))),fun ds Z Qd h=>IU h⟩)
theorem EX:aK ["d","x","y","a","b"] ["d","x","y"] (ax g8):=by walk_at "s"
theorem Fx(T:TX e)(cI:ib e):vY e:=by
 have S:=EX
 exact T.Iv.okD S (fun ds Z Q h=>Ez h) (fun cdv A outer s H E hr=>⟨o6,(ak (aS (i:=3) S.nd rfl (Or.inl rfl) (df (aY (aD (dv 1) ah) (aD (dv 2) ah)) (aY (aD (dv 2) ah) (aD (dv 1) ah))))
  (ak (aS (i:=4) S.nd rfl (Or.inl rfl) (df (aY (aD (dv 1) ah) (aD (dv 2) ah)) (aY (aD (dv 2) ah) (aD (dv 1) ah))))
  (ar (aH (dc (bV hr.units) bH (ao cI (hr.mono ⋯) rfl T.nF T.nA T.nE (ae (dv 0) (ae (dv 3) (ae (dv 4) aj)))) ah (aN _)))))),fun ds Z Qd h=>Fd h⟩)
theorem FK:aK ["_law_a","_law_b","_law_c","_law_common"] ["_law_a","_law_b","_law_c"] (ax gT):=by walk_at "s"
theorem GS(T:TX e)(cj:jL e):fz e:=by
 have S:=FK
 exact T.IM.okD S (fun ds Z Q h=>tw h) (fun cdv A outer s H E hr=>⟨nT,(ak (aS (i:=3) S.nd rfl (Or.inl rfl) (aY (ao cj (hr.mono ⋯) rfl T.iw T.iz T.iu (ae (ao cj (hr.mono ⋯) rfl T.iw T.iz T.iu (ae (dv 0) (ae (dv 1) aj))) (ae (dv 2) aj))) (aD (fX (ae ah (ae (mD ah) aj))) (ou rfl T.xO (ae (dc nD eI (dv 2) ah (aN _)) aj)))))
  (ar (aH (aZ (ae (iQ (dv 0) (dv 3)) (ae (iQ (dv 1) (dv 3)) (ae (iQ (dv 2) (dv 3)) aj))))))),fun ds Z Qd h=>G6 h⟩)
theorem rK:aK ["_law_thing"] ["_law_thing"] (ax cu):=by walk_at "s"
theorem sQ(T:TX e)(iN:lC e)(cj:jL e):jZ e:=by
 have S:=rK
 exact T.uV.okD S (fun ds Z Q h=>zg h) (fun cdv A outer s H E hr=>⟨fZ,(ak (bF (DW.dt (fR (cT (cF (kr (kit_tuple _) rfl T.bK rfl T.j5 PyProof.Rows.Boot.«tuple» (dv 0)))) (fR (aW (nh hr.units) bH (dG rfl T.gA (ae (dv 0) aj)) ah (aN _)) (iU (cT (cF (vf rfl rfl T.Bu (ae (fJ (N':=["_law_one"]) (cap:=[none]) rfl (Hb (mJ (dv 0))) (fun _ _ _=>(aw (i:=0) (show List.Nodup (["_law_one"]:List Str) by decide +kernel) rfl (Or.inl rfl))) (fun _ _ _=>bW) (fun _ _ _=>(ao iN (hr.mono ⋯) rfl T.wL T.wH T.wg (ae (dv 0) aj))) rfl nofun rfl nofun (by walk_at "cl") (cX rfl) rfl (cE trivial)) aj)))))))) (ar (aH iG)) aX)
  (ar (aH (ko (dc kW eI (aD (dv 0) ah) ah (aN _)) (kT (dc (bV hr.units) bH (ao cj (hr.mono ⋯) rfl T.iw T.iz T.iu (ae (ao cj (hr.mono ⋯) rfl T.iw T.iz T.iu (ae (aD (dv 0) ah) (ae (aD (dv 0) ah) aj))) (ae (aD (dv 0) ah) aj))) ah (aN _))))))),fun ds Z Qd h=>tW h⟩)
theorem Cm:aK ["_law_bag_here","_law_some"] ["_law_bag_here"] (ax fj):=by walk_at "s"
theorem Ce(T:TX e)(au:bC e):tp e:=by
 have S:=Cm
 exact T.E2.okD S (fun ds Z Q h=>EG h) (fun cdv A outer s H E hr=>⟨mX,(ak (bF (aW (bV hr.units) bH (ao (bc au @aR) (hr.mono ⋯) rfl T.aF T.aG T.aE (ae (dv 0) (ae ah aj))) ah (aN _)) (ar (aH (aD (fX (ae ah (ae ah (ae ah aj)))) (ao (bc au @aR) (hr.mono ⋯) rfl T.aF T.aG T.aE (ae (dv 0) (ae ah aj)))))) aX)
  (ak (wW (i:=1) (N':=["_law_d"]) (cap:=[none]) S.nd rfl rfl rfl (Du rfl T.fG (ae ah (ae ah aj))) (fun _ _ _=>(aw (i:=0) (show List.Nodup (["_law_d"]:List Str) by decide +kernel) rfl (Or.inl rfl))) (fun _ _ _=>(Ft (aW (BQ hr.units) Hg (dv 0) (fX (ae ah (ae ah (ae ah (ae ah aj))))) (by with_unfolding_all rfl)))) (fun _ _ _=>(dv 0)) rfl nofun rfl nofun (by walk_at "cl") (cX rfl) rfl (cE trivial))
  (ar (aH (aD (dv 1) (ao (bc au @aR) (hr.mono ⋯) rfl T.aF T.aG T.aE (ae (dv 0) (ae ah aj)))))))),fun ds Z Qd h=>Dr h⟩)
theorem uN:aK ["_law_bag_here","_law_a","_law_b","_law_found"] ["_law_bag_here"] (ax cH):=by walk_at "s"
theorem vk(T:TX e)(au:bC e):hW e:=by
 have S:=uN
 exact T.wj.okD S (fun ds Z Q h=>xi h) (fun cdv A outer s H E hr=>⟨gX,(ak (jI (aZ (ae (bb ah (ao (bc au @aR) (hr.mono ⋯) rfl T.aF T.aG T.aE (ae (dv 0) (ae ah aj)))) (ae (bb ah (ao (bc au @aR) (hr.mono ⋯) rfl T.aF T.aG T.aE (ae (dv 0) (ae ah aj)))) aj))) (dg (n:=2) rfl (aB (aw (i:=1) S.nd rfl (Or.inr rfl)) (aB (aw (i:=2) S.nd rfl (Or.inl rfl)) bY))))
  (ak (aS (i:=3) S.nd rfl (Or.inl rfl) (fX (ae (aZ (ae ah (ae ah (ae (bb (dv 1) ah) (ae ah aj))))) (ae (aZ (ae (bb (dv 1) ah) (ae ah (ae ah (ae (bb (dv 2) ah) aj))))) (ae (aZ (ae ah (ae (bb (dv 2) ah) (ae (bb (dv 1) ah) (ae ah aj))))) (ae (aZ (ae ah (ae ah (ae ah (ae (bb (dv 2) ah) aj))))) (ae (aZ (ae ah (ae ah (ae (dv 1) (ae (dv 2) aj))))) aj)))))))
  (ak (bF (aW (bV hr.units) bH (ao (bc au @aR) (hr.mono ⋯) rfl T.aF T.aG T.aE (ae (dv 0) (ae ah aj))) ah (aN _)) (ar (wW (i:=3) (N':=["_law_column","_law_row","_law_wide","_law_high","_law_a"]) (cap:=[none,none,none,none,some 1]) S.nd rfl rfl rfl (ig (dv 3)) (fun _ _ _=>(dg (n:=4) rfl (aB (aw (i:=0) (show List.Nodup (["_law_column","_law_row","_law_wide","_law_high","_law_a"]:List Str) by decide +kernel) rfl (Or.inl rfl)) (aB (aw (i:=1) (show List.Nodup (["_law_column","_law_row","_law_wide","_law_high","_law_a"]:List Str) by decide +kernel) rfl (Or.inl rfl)) (aB (aw (i:=2) (show List.Nodup (["_law_column","_law_row","_law_wide","_law_high","_law_a"]:List Str) by decide +kernel) rfl (Or.inl rfl)) (aB (aw (i:=3) (show List.Nodup (["_law_column","_law_row","_law_wide","_law_high","_law_a"]:List Str) by decide +kernel) rfl (Or.inl rfl)) bY)))))) (fun _ _ _=>bW) (fun _ _ _=>(aZ (ae (df (df (bb (dv 4) ah) (dv 0)) (dv 2)) (ae (dv 1) (ae (dv 2) (ae (dv 3) aj)))))) rfl nofun rfl nofun (by walk_at "cl") (cX rfl) rfl (cE ⟨qU,trivial⟩))) aX)
  (ar (aH (aZ (ae (bb (dv 1) ah) (ae (bb (dv 2) ah) (ae (dv 3) aj))))))))),fun ds Z Qd h=>u6 h⟩)
theorem AU:aK ["_law_bag_here","_law_row","_law_rest"] ["_law_bag_here","_law_row"] (ax d5):=by walk_at "s"
theorem AG(T:TX e)(au:bC e):qx e:=by
 have S:=AU
 exact T.Dq.okD S (fun ds Z Q h=>Dy h) (fun cdv A outer s H E hr=>⟨kG,(ak (aS (i:=2) S.nd rfl (Or.inr rfl) (Nk rfl T.IS (ae (dv 1) aj)))
  (ar (aH (GQ (N':=["_law_thing","_law_rest","_law_bag_here"]) (cap:=[none,some 2,some 0]) rfl (ig (dv 1)) (fun _ _ _=>(aw (i:=0) (show List.Nodup (["_law_thing","_law_rest","_law_bag_here"]:List Str) by decide +kernel) rfl (Or.inl rfl))) (fun _ _ _=>bW) (fun _ _ _=>(Ni (dv 1) (ao (bc au @aR) (hr.mono ⋯) rfl T.aF T.aG T.aE (ae (dv 2) (ae (dG rfl T.gA (ae (dv 1) aj)) aj))))) rfl nofun rfl nofun (by walk_at "cl") (cX rfl) rfl (cE ⟨qU,⟨qU,trivial⟩⟩))))),fun ds Z Qd h=>Ad h⟩)
theorem qM:aK ["_law_bag_here","_law_draw"] ["_law_bag_here"] (ax bT):=by walk_at "s"
theorem qA(T:TX e)(au:bC e):jt e:=by
 have S:=qM
 exact T.rM.okD S (fun ds Z Q h=>FO h) (fun cdv A outer s H E hr=>⟨eU,(ak (aS (i:=1) S.nd rfl (Or.inl rfl) (ao (bc au @aR) (hr.mono ⋯) rfl T.aF T.aG T.aE (ae (dv 0) (ae ah aj))))
  (ak (bF (aW (bV hr.units) bH (dv 1) ah (aN _)) (ar (aH (aD (fX (ae (aZ (ae ah (ae ah aj))) (ae (aZ (ae ah (ae ah aj))) (ae (aZ (ae ah (ae ah aj))) (ae (aZ (ae ah (ae ah aj))) (ae (aZ (ae ah (ae ah aj))) (ae (aZ (ae ah (ae ah aj))) aj))))))) (ao (bc au @aR) (hr.mono ⋯) rfl T.aF T.aG T.aE (ae (dv 0) (ae ah aj)))))) aX)
  (ak (bF (aW nD eI (dv 1) ah (aN _)) (ar (aH (aZ (ae (bb ah (ao (bc au @aR) (hr.mono ⋯) rfl T.aF T.aG T.aE (ae (dv 0) (ae ah aj)))) (ae (bb ah (ao (bc au @aR) (hr.mono ⋯) rfl T.aF T.aG T.aE (ae (dv 0) (ae ah aj)))) aj))))) aX)
  (ar (aH (aZ (ae (bb ah (ao (bc au @aR) (hr.mono ⋯) rfl T.aF T.aG T.aE (ae (dv 0) (ae ah aj)))) (ae (bb ah (ao (bc au @aR) (hr.mono ⋯) rfl T.aF T.aG T.aE (ae (dv 0) (ae ah aj)))) aj)))))))),fun ds Z Qd h=>qT h⟩)
theorem yQ:aK ["_law_bag_here","_law_columns","_law_rows","_law_met","_law_found","_law_most","_law_row","_law_column","_law_wide","_law_high","_law_k"] ["_law_bag_here","_law_columns","_law_rows"] (ax dw):=by walk_at "s"
theorem yj(T:TX e)(au:bC e)(nN:tq e):jl e:=by
 have S:=yQ
 exact OV (T.Az.okD S (fun ds Z Q h=>AF h) (fun cdv A outer s H E hr=>⟨jr,(ak (aS (i:=3) S.nd rfl (Or.inl rfl) KW)
  (ak (aS (i:=4) S.nd rfl (Or.inl rfl) (pL aj))
  (ak (aS (i:=5) S.nd rfl (Or.inl rfl) (aD (fX (ae ah (ae ah (ae ah (ae ah aj))))) (ao au (hr.mono ⋯) rfl T.aF T.aG T.aE (ae (dv 0) (ae ah aj)))))
  (ak (gK PassesOwn.never rfl (j0 rfl T.fG (ae (dv 2) aj)) (aw (i:=6) S.nd rfl (Or.inl rfl)) (ar (gK PassesOwn.never rfl (j0 rfl T.fG (ae (dv 1) aj)) (aw (i:=7) S.nd rfl (Or.inl rfl)) (ar (bF (Bo hr.units (aZ (ae (dv 7) (ae (dv 6) aj))) (dv 3) (by with_unfolding_all rfl)) (ak (aS (i:=8) S.nd rfl (Or.inl rfl) (bb ah (ao au (hr.mono ⋯) rfl T.aF T.aG T.aE (ae (dv 0) (ae (Hr rfl rfl T.L7 (ae (dv 5) (ae (ao nN (hr.mono ⋯) rfl T.G2 T.Gq T.FH (ae (dv 3) (ae (dv 7) (ae (dv 6) (ae (dv 1) aj))))) aj))) aj)))))
  (ak (aS (i:=9) S.nd rfl (Or.inl rfl) (bb ah (ao au (hr.mono ⋯) rfl T.aF T.aG T.aE (ae (dv 0) (ae (Hr rfl rfl T.L7 (ae (dv 5) (ae (df (dv 2) (dv 6)) aj))) aj)))))
  (ak (iy (k7 (dv 4) (aZ (ae (dv 7) (ae (dv 6) (ae (dv 8) (ae (dv 9) aj)))))))
  (ar (gK PassesOwn.never rfl (j0 rfl T.fG (ae (aY (dv 8) (dv 9)) aj)) (aw (i:=10) S.nd rfl (Or.inl rfl)) (ar (O5 hr.units (dv 3) (aZ (ae (bb (dv 7) (jm (dv 10) (dv 8))) (ae (bb (dv 6) (iQ (dv 10) (dv 8))) aj))) iG))))))) aX)))))
  (ar (aH (dv 4))))))),fun ds Z Qd h=>zF h⟩)) (fun ds Z Qd h=>wm h)
theorem CF:aK ["thing","a","b","c"] ["thing"] (ax fo):=by walk_at "s"
theorem CN(T:TX e)(jJ:vN e)(cq:fY e):mI e:=by
 have S:=CF
 exact T.GW.okD S (fun ds Z Q h=>zg h) (fun cdv A outer s H E hr=>⟨md,(ak (bF (DW.dt (fR (cT (cF (kr (kit_tuple _) rfl T.bK rfl T.j5 PyProof.Rows.Boot.«tuple» (dv 0)))) (iU (aW (nh hr.units) bH (dG rfl T.gA (ae (dv 0) aj)) ah (aN _))))) (ar (aH iG)) aX)
  (ak (jI (dv 0) (dg (n:=3) rfl (aB (aw (i:=1) S.nd rfl (Or.inl rfl)) (aB (aw (i:=2) S.nd rfl (Or.inl rfl)) (aB (aw (i:=3) S.nd rfl (Or.inl rfl)) bY)))))
  (ak (bF (DW.dt (fR (cT (cF (ao jJ (hr.mono ⋯) rfl T.rn T.qV T.qX (ae (dv 1) aj)))) (fR (cT (cF (ao jJ (hr.mono ⋯) rfl T.rn T.qV T.qX (ae (dv 2) aj)))) (iU (cT (cF (ao jJ (hr.mono ⋯) rfl T.rn T.qV T.qX (ae (dv 3) aj)))))))) (ar (aH iG)) aX)
  (ar (aH (ko (dc G0 eI (dv 3) ah (aN _)) (kT (dc (bV hr.units) bH (ao cq (hr.mono ⋯) rfl T.lr T.kU T.k6 (ae (dv 1) (ae (dv 2) (ae (dv 3) aj)))) ah (aN _))))))))),fun ds Z Qd h=>Dl h⟩)
theorem Kf:aK ["a","b","c","divisor"] ["a","b","c"] (ax k0):=by walk_at "s"
theorem K8(T:TX e)(cq:fY e):qc e:=by
 have S:=Kf
 exact T.LH.okD S (fun ds Z Q h=>tw h) (fun cdv A outer s H E hr=>⟨u5,(ak (bF (aW (bV hr.units) bH (dv 2) ah (aN _)) (ar tU) aX)
  (ak (aS (i:=3) S.nd rfl (Or.inl rfl) (ao cq (hr.mono ⋯) rfl T.lr T.kU T.k6 (ae (dv 0) (ae (dv 1) (ae (dv 2) aj)))))
  (ak (bF (aW nD eI (dv 2) ah (aN _)) (ar (aS (i:=3) S.nd rfl (Or.inl rfl) (mD (dv 3)))) aX)
  (ar (aH (aZ (ae (iQ (dv 0) (dv 3)) (ae (iQ (dv 1) (dv 3)) (ae (iQ (dv 2) (dv 3)) aj))))))))),fun ds Z Qd h=>Kw h⟩)
theorem xZ:aK ["d","marks","x","low","high","middle"] ["d","marks","x"] (ax dF):=by walk_at "s"
theorem xS(T:TX e)(qC:vY e):nQ e:=by
 have S:=xZ
 exact T.A8.okD S (fun ds Z Q h=>DY h) (fun cdv A outer s H E hr=>⟨jw,(ak (aS (i:=3) S.nd rfl (Or.inl rfl) ah)
  (ak (aS (i:=4) S.nd rfl (Or.inl rfl) (dG rfl T.gA (ae (dv 1) aj)))
  (ak (tI PassesOwn.never (aW nD eI (dv 3) (dv 4) (aN _)) (ak (aS (i:=5) S.nd rfl (Or.inl rfl) (iQ (bb (dv 3) (dv 4)) ah))
  (ar (bF (cF (ao qC (hr.mono ⋯) rfl T.HU T.Hv T.Iz (ae (dv 0) (ae (dv 2) (ae (aD (dv 1) (dv 5)) aj))))) (ar (aS (i:=3) S.nd rfl (Or.inl rfl) (bb (dv 5) ah))) (ar (aS (i:=4) S.nd rfl (Or.inl rfl) (dv 5)))))))
  (ar (aH (dv 3)))))),fun ds Z Qd h=>yS h⟩)
theorem vb:aK ["_law_d","_law_x"] ["_law_d","_law_x"] (ax cK):=by walk_at "s"
theorem uB(T:TX e)(bE:fz e):eC e:=by
 have S:=vb
 exact T.wR.okD S (fun ds Z Q h=>oq h) (fun cdv A outer s H E hr=>⟨gU,(ar (aH (ao bE (hr.mono ⋯) rfl T.hV T.hZ T.gP (ae (aY (aD (dv 1) ah) (aD (dv 1) ah)) (ae (df ah (aY (aD (dv 1) ah) (aD (dv 1) ah))) (ae (df (aY (aD (dv 1) ah) (aD (dv 1) ah)) (aY (aY (dv 0) (aD (dv 1) ah)) (aD (dv 1) ah))) aj)))))),fun ds Z Qd h=>uP h⟩)
theorem xB:aK ["_law_bag_here","_law_wide","_law_a","_law_b","_law_c","_law_way"] ["_law_bag_here"] (ax dn):=by walk_at "s"
theorem yN(T:TX e)(au:bC e)(bE:fz e):n4 e:=by
 have S:=xB
 exact T.zT.okD S (fun ds Z Q h=>Aw h) (fun cdv A outer s H E hr=>⟨jo,(ak (aS (i:=1) S.nd rfl (Or.inl rfl) (aD (fX (ae ah (ae ah (ae ah (ae ah aj))))) (ao (bc au @aR) (hr.mono ⋯) rfl T.aF T.aG T.aE (ae (dv 0) (ae ah aj)))))
  (ak (ml (i:=2) (j:=3) rfl S.nd rfl rfl ⋯ rfl rfl (ae (df (ao (bc au @aR) (hr.mono ⋯) rfl T.aF T.aG T.aE (ae (dv 0) (ae (dv 1) aj))) (iQ (dv 1) ah)) (ae (df (ao (bc au @aR) (hr.mono ⋯) rfl T.aF T.aG T.aE (ae (dv 0) (ae (dv 1) aj))) (iQ (dv 1) ah)) aj)) rfl)
  (ak (aS (i:=4) S.nd rfl (Or.inl rfl) (bb ah (ao (bc au @aR) (hr.mono ⋯) rfl T.aF T.aG T.aE (ae (dv 0) (ae (df (dv 1) ah) aj)))))
  (ak (aS (i:=5) S.nd rfl (Or.inl rfl) (ao (bc au @aR) (hr.mono ⋯) rfl T.aF T.aG T.aE (ae (dv 0) (ae ah aj))))
  (ar (aH (ao bE (hr.mono ⋯) rfl T.hV T.hZ T.gP (ae (aD (fX (ae (dv 2) (ae (dv 2) (ae (dv 2) (ae (dv 2) (ae (dv 2) (ae (dv 2) (ae (dv 2) (ae ah aj))))))))) (dv 5)) (ae (aD (fX (ae (dv 3) (ae (dv 3) (ae (dv 3) (ae (dv 3) (ae (dv 3) (ae ah (ae ah (ae (dv 3) aj))))))))) (dv 5)) (ae (aD (fX (ae (dv 4) (ae (dv 4) (ae ah (ae (dv 4) (ae ah (ae (dv 4) (ae ah (ae (dv 4) aj))))))))) (dv 5)) aj)))))))))),fun ds Z Qd h=>xN h⟩)
theorem AZ:aK ["_law_d","_law_x","_law_y"] ["_law_d","_law_x","_law_y"] (ax eo):=by walk_at "s"
theorem AW(T:TX e)(bE:fz e):qr e:=by
 have S:=AZ
 exact T.B5.okD S (fun ds Z Q h=>vL h) (fun cdv A outer s H E hr=>⟨qq,(ar (aH (ao bE (hr.mono ⋯) rfl T.hV T.hZ T.gP (ae (bb (aY (aD (dv 1) ah) (aD (dv 2) ah)) (aY (aY (dv 0) (aD (dv 1) ah)) (aD (dv 2) ah))) (ae (bb (aY (aD (dv 1) ah) (aD (dv 2) ah)) (aY (aD (dv 1) ah) (aD (dv 2) ah))) (ae (aY (aD (dv 1) ah) (aD (dv 2) ah)) aj)))))),fun ds Z Qd h=>zW h⟩)
theorem Dw:aK ["_law_x","_law_y"] ["_law_x","_law_y"] (ax fD):=by walk_at "s"
theorem CO(T:TX e)(bE:fz e):mT e:=by
 have S:=Dw
 exact T.FX.okD S (fun ds Z Q h=>yJ h) (fun cdv A outer s H E hr=>⟨tR,(ar (aH (ao bE (hr.mono ⋯) rfl T.hV T.hZ T.gP (ae (bb (aY (aD (dv 0) ah) (aD (dv 1) ah)) (aY (aD (dv 1) ah) (aD (dv 0) ah))) (ae (bb (aY (aD (dv 0) ah) (aD (dv 1) ah)) (aY (aD (dv 1) ah) (aD (dv 0) ah))) (ae (aY (aD (dv 0) ah) (aD (dv 1) ah)) aj)))))),fun ds Z Qd h=>CW h⟩)
theorem Ea:aK ["_law_bag_here","_law_d","_law_way","_law_x","_law_sign_here"] ["_law_bag_here","_law_d","_law_way"] (ax fg):=by walk_at "s"
theorem Cv(T:TX e)(au:bC e)(bE:fz e)(ff:mw e)(bX:ix e):sN e:=by
 have S:=Ea
 exact T.G1.okD S (fun ds Z Q h=>Gf h) (fun cdv A outer s H E hr=>⟨mP,(ak (bF (aW (bV hr.units) bH (dv 2) ah (aN _)) (ar (aH (aZ (ae (bb ah (ao (bc au @aR) (hr.mono ⋯) rfl T.aF T.aG T.aE (ae (dv 0) (ae ah aj)))) (ae ah (ae ah aj)))))) aX)
  (ak (bF (aW (bV hr.units) bH (dv 2) ah (aN _)) (ar (aH (ao bE (hr.mono ⋯) rfl T.hV T.hZ T.gP (ae (bb ah (ao (bc au @aR) (hr.mono ⋯) rfl T.aF T.aG T.aE (ae (dv 0) (ae ah aj)))) (ae ah (ae (bb ah (ao (bc au @aR) (hr.mono ⋯) rfl T.aF T.aG T.aE (ae (dv 0) (ae ah aj)))) aj)))))) aX)
  (ak (aS (i:=3) S.nd rfl (Or.inl rfl) (ao bE (hr.mono ⋯) rfl T.hV T.hZ T.gP (ae (df (ao (bc au @aR) (hr.mono ⋯) rfl T.aF T.aG T.aE (ae (dv 0) (ae ah aj))) ah) (ae (df (ao (bc au @aR) (hr.mono ⋯) rfl T.aF T.aG T.aE (ae (dv 0) (ae ah aj))) ah) (ae (bb ah (ao (bc au @aR) (hr.mono ⋯) rfl T.aF T.aG T.aE (ae (dv 0) (ae ah aj)))) aj)))))
  (ak (aS (i:=4) S.nd rfl (Or.inl rfl) (ao ff (hr.mono ⋯) rfl T.vI T.v5 T.vR (ae (dv 1) (ae (dv 3) aj))))
  (ak (bF (aW (bV hr.units) bH (dv 4) ah (aN _)) (ar (aH (aZ (ae ah (ae ah (ae ah aj)))))) aX)
  (ar (aH (BF (aW kW eI (dv 4) ah (aN _)) (dv 3) (ao bX (hr.mono ⋯) rfl T.mB T.mi T.ng (ae (dv 3) aj)))))))))),fun ds Z Qd h=>B8 h⟩)
theorem OT:aK ["x","y"] ["x","y"] (ax u7):=by walk_at "s"
theorem gu(T:TX e)(fN:qc e):Jw e:=by
 have S:=OT
 exact T.Ql.okD S (fun ds Z Q h=>yJ h) (fun cdv A outer s H E hr=>⟨CT,(ar (aH (ao fN (hr.mono ⋯) rfl T.yk T.zK T.y0 (ae (bb (aY (aD (dv 0) ah) (aD (dv 1) ah)) (aY (aD (dv 1) ah) (aD (dv 0) ah))) (ae (bb (aY (aD (dv 0) ah) (aD (dv 1) ah)) (aY (aD (dv 1) ah) (aD (dv 0) ah))) (ae (aY (aD (dv 0) ah) (aD (dv 1) ah)) aj)))))),fun ds Z Qd h=>JD h⟩)
theorem M5:aK ["d","x","y"] ["d","x","y"] (ax qd):=by walk_at "s"
theorem tG(T:TX e)(fN:qc e):FC e:=by
 have S:=M5
 exact T.Oi.okD S (fun ds Z Q h=>vL h) (fun cdv A outer s H E hr=>⟨xq,(ar (aH (ao fN (hr.mono ⋯) rfl T.yk T.zK T.y0 (ae (bb (aY (aD (dv 1) ah) (aD (dv 2) ah)) (aY (aY (dv 0) (aD (dv 1) ah)) (aD (dv 2) ah))) (ae (bb (aY (aD (dv 1) ah) (aD (dv 2) ah)) (aY (aD (dv 1) ah) (aD (dv 2) ah))) (ae (aY (aD (dv 1) ah) (aD (dv 2) ah)) aj)))))),fun ds Z Qd h=>Gr h⟩)
theorem FR:aK ["d","x","norm"] ["d","x"] (ax gQ):=by walk_at "s"
theorem bP(T:TX e)(fN:qc e):o9 e:=by
 have S:=FR
 exact T.HE.okD S (fun ds Z Q h=>oq h) (fun cdv A outer s H E hr=>⟨oP,(ak (aS (i:=2) S.nd rfl (Or.inl rfl) (df (aY (aD (dv 1) ah) (aD (dv 1) ah)) (aY (aY (dv 0) (aD (dv 1) ah)) (aD (dv 1) ah))))
  (ar (aH (ao fN (hr.mono ⋯) rfl T.yk T.zK T.y0 (ae (aY (aD (dv 1) ah) (aD (dv 1) ah)) (ae (aY (mD (aD (dv 1) ah)) (aD (dv 1) ah)) (ae (dv 2) aj))))))),fun ds Z Qd h=>E5 h⟩)
theorem rm:aK ["d","thing"] ["d","thing"] (ax bS):=by walk_at "s"
theorem qG(T:TX e)(dX:mI e)(hX:qR e):dh e:=by
 have S:=rm
 exact T.sG.okD S (fun ds Z Q h=>Dg h) (fun cdv A outer s H E hr=>⟨eT,(ar (aH (ko (ao dX (hr.mono ⋯) rfl T.nU T.oT T.n6 (ae (dv 1) aj)) (kT (dc (bV hr.units) bH (ao hX (hr.mono ⋯) rfl T.vh T.uI T.uM (ae (dv 0) (ae (dv 1) aj))) ah (aN _)))))),fun ds Z Qd h=>qB h⟩)
theorem wF:aK ["d","found","marks","x","place"] ["d","found"] (ax da):=by walk_at "s"
theorem wu(T:TX e)(kA:nQ e):nG e:=by
 have S:=wF
 exact DX (T.y7.okD S (fun ds Z Q h=>DC h) (fun cdv A outer s H E hr=>⟨iK,(ak (aS (i:=2) S.nd rfl (Or.inl rfl) (pL aj))
  (ak (gK PassesOwn.never rfl (ig (dv 1)) (aw (i:=3) S.nd rfl (Or.inl rfl)) (ak (aS (i:=4) S.nd rfl (Or.inl rfl) (ao kA (hr.mono ⋯) rfl T.A0 T.zX T.Av (ae (dv 0) (ae (dv 2) (ae (dv 3) aj)))))
  (ar (bF (DW.dt (fR (aW (bV hr.units) bH (dv 4) (dG rfl T.gA (ae (dv 2) aj)) (aN _)) (iU (aW (nh hr.units) bH (aD (dv 2) (dv 4)) (dv 3) (aN _))))) (ar (iy (Lg (dv 2) (dv 4) (dv 3)))) aX))))
  (ar (aH (dv 2))))),fun ds Z Qd h=>wA h⟩)) (fun ds Z Qd h=>uF h)
theorem Af:aK ["_law_bag_here","_law_d","_law_x","_law_sign_here"] ["_law_bag_here","_law_d"] (ax d6):=by walk_at "s"
theorem AB(T:TX e)(kL:n4 e)(ff:mw e)(au:bC e)(bX:ix e):qm e:=by
 have S:=Af
 exact T.D2.okD S (fun ds Z Q h=>D5 h) (fun cdv A outer s H E hr=>⟨kC,(ak (aS (i:=2) S.nd rfl (Or.inl rfl) (ao kL (hr.mono ⋯) rfl T.AA T.zS T.AM (ae (dv 0) aj)))
  (ak (aS (i:=3) S.nd rfl (Or.inl rfl) (ao ff (hr.mono ⋯) rfl T.vI T.v5 T.vR (ae (dv 1) (ae (dv 2) aj))))
  (ak (bF (aW (bV hr.units) bH (dv 3) ah (aN _)) (ar (aH (aZ (ae (bb ah (ao (bc au @aR) (hr.mono ⋯) rfl T.aF T.aG T.aE (ae (dv 0) (ae ah aj)))) (ae ah (ae ah aj)))))) aX)
  (ar (aH (BF (aW kW eI (dv 3) ah (aN _)) (dv 2) (ao bX (hr.mono ⋯) rfl T.mB T.mi T.ng (ae (dv 2) aj)))))))),fun ds Z Qd h=>zZ h⟩)
theorem CA:aK ["_law_d","_law_x","_law_y"] ["_law_d","_law_x","_law_y"] (ax fu):=by walk_at "s"
theorem CL(T:TX e)(mh:qr e)(bJ:eC e):tV e:=by
 have S:=CA
 exact T.Fp.okD S (fun ds Z Q h=>yq h) (fun cdv A outer s H E hr=>⟨lP,(ar (aH (ao mh (hr.mono ⋯) rfl T.DP T.Cy T.D0 (ae (dv 0) (ae (dv 1) (ae (ao bJ (hr.mono ⋯) rfl T.iJ T.iT T.iY (ae (dv 0) (ae (dv 2) aj))) aj)))))),fun ds Z Qd h=>CY h⟩)
theorem DM:aK ["_law_sides_here","_law_found","_law_side_here"] ["_law_sides_here"] (ax eX):=by walk_at "s"
theorem Ek(T:TX e)(eZ:mT e):tM e:=by
 have S:=DM
 exact DX (T.Fq.okD S (fun ds Z Q h=>E1 h) (fun cdv A outer s H E hr=>⟨mV,(ak (aS (i:=1) S.nd rfl (Or.inl rfl) (pL (ae (aZ (ae ah (ae ah (ae ah aj)))) aj)))
  (ak (gK PassesOwn.never rfl (ig (dv 0)) (aw (i:=2) S.nd rfl (Or.inl rfl)) (ar (iy (k7 (dv 1) (ao eZ (hr.mono ⋯) rfl T.vU T.vJ T.vB (ae (aD (dv 1) (mD ah)) (ae (dv 2) aj)))))))
  (ar (aH (dv 1))))),fun ds Z Qd h=>Co h⟩)) (fun ds Z Qd h=>As h)
theorem AO:aK ["_law_bag_here","_law_d","_law_many","_law_way"] ["_law_bag_here","_law_d","_law_many"] (ax eA):=by walk_at "s"
theorem AL(T:TX e)(au:bC e)(jY:sN e):qu e:=by
 have S:=AO
 exact T.C4.okD S (fun ds Z Q h=>Ep h) (fun cdv A outer s H E hr=>⟨ku,(ak (aS (i:=3) S.nd rfl (Or.inr rfl) (ao (bc au @aR) (hr.mono ⋯) rfl T.aF T.aG T.aE (ae (dv 0) (ae ah aj))))
  (ak (bF (aW (bV hr.units) bH (ao (bc au @aR) (hr.mono ⋯) rfl T.aF T.aG T.aE (ae (dv 0) (ae ah aj))) ah (aN _)) (ar (aH (Qr (fX (ae (ao jY (hr.mono ⋯) rfl T.vT T.vZ T.vD (ae (dv 0) (ae (dv 1) (ae (dv 3) aj)))) aj)) (dv 2)))) aX)
  (ar (aH (GQ (N':=["_law_k","_law_bag_here","_law_d","_law_way"]) (cap:=[none,some 0,some 1,some 3]) rfl (j0 rfl T.fG (ae (dv 2) aj)) (fun _ _ _=>(aw (i:=0) (show List.Nodup (["_law_k","_law_bag_here","_law_d","_law_way"]:List Str) by decide +kernel) rfl (Or.inl rfl))) (fun _ _ _=>bW) (fun _ _ _=>(ao jY (hr.mono ⋯) rfl T.vT T.vZ T.vD (ae (dv 1) (ae (dv 2) (ae (dv 3) aj))))) rfl nofun rfl nofun (by walk_at "cl") (cX rfl) rfl (cE ⟨qU,⟨qU,⟨qU,trivial⟩⟩⟩)))))),fun ds Z Qd h=>Ar h⟩)
theorem C3:aK ["_law_x","_law_y"] ["_law_x","_law_y"] (ax fE):=by walk_at "s"
theorem C2(T:TX e)(eZ:mT e)(bX:ix e):sv e:=by
 have S:=C3
 exact T.Gv.okD S (fun ds Z Q h=>IJ h) (fun cdv A outer s H E hr=>⟨nj,(ar (aH (ao eZ (hr.mono ⋯) rfl T.vU T.vJ T.vB (ae (dv 0) (ae (ao bX (hr.mono ⋯) rfl T.mB T.mi T.ng (ae (dv 1) aj)) aj))))),fun ds Z Qd h=>Dj h⟩)
theorem N7:aK ["d","x","y"] ["d","x","y"] (ax uh):=by walk_at "s"
theorem ND(T:TX e)(Ci:FC e)(hU:o9 e):JN e:=by
 have S:=N7
 exact T.RN.okD S (fun ds Z Q h=>yq h) (fun cdv A outer s H E hr=>⟨B3,(ak (bF (aW (bV hr.units) bH (dv 2) (EZ rfl T.Gn) (aN _)) (ar tU) aX)
  (ar (aH (ao Ci (hr.mono ⋯) rfl T.NA T.NI T.N4 (ae (dv 0) (ae (dv 1) (ae (ao hU (hr.mono ⋯) rfl T.yi T.xt T.zm (ae (dv 0) (ae (dv 2) aj))) aj))))))),fun ds Z Qd h=>NF h⟩)
theorem Ii:aK ["d","thing","x","y","width","height"] ["d","thing"] (ax jg):=by walk_at "s"
theorem HC(T:TX e)(dX:mI e)(hX:qR e)(bg:dh e):xI e:=by
 have S:=Ii
 exact T.Lf.okD S (fun ds Z Q h=>HS h) (fun cdv A outer s H E hr=>⟨qK,(ak (bF (DW.dt (fR (cT (cF (kr (kit_tuple _) rfl T.bK rfl T.j5 PyProof.Rows.Boot.«tuple» (dv 1)))) (iU (aW (nh hr.units) bH (dG rfl T.gA (ae (dv 1) aj)) ah (aN _))))) (ar (aH iG)) aX)
  (ak (jI (dv 1) (dg (n:=4) rfl (aB (aw (i:=2) S.nd rfl (Or.inl rfl)) (aB (aw (i:=3) S.nd rfl (Or.inl rfl)) (aB (aw (i:=4) S.nd rfl (Or.inl rfl)) (aB (aw (i:=5) S.nd rfl (Or.inl rfl)) bY))))))
  (ak (bF (DW.dt (fR (cT (cF (ao dX (hr.mono ⋯) rfl T.nU T.oT T.n6 (ae (dv 2) aj)))) (fR (cT (cF (ao dX (hr.mono ⋯) rfl T.nU T.oT T.n6 (ae (dv 3) aj)))) (fR (aW nD eI (ao hX (hr.mono ⋯) rfl T.vh T.uI T.uM (ae (dv 0) (ae (dv 2) aj))) ah (aN _)) (iU (aW nD eI (ao hX (hr.mono ⋯) rfl T.vh T.uI T.uM (ae (dv 0) (ae (dv 3) aj))) ah (aN _))))))) (ar (aH iG)) aX)
  (ar (aH (ko (ao bg (hr.mono ⋯) rfl T.cP T.cR T.cN (ae (dv 0) (ae (dv 4) aj))) (kT (ao bg (hr.mono ⋯) rfl T.cP T.cR T.cN (ae (dv 0) (ae (dv 5) aj)))))))))),fun ds Z Qd h=>Hu h⟩)
theorem DR:aK ["tile","x","y","width","height"] ["tile"] (ax fe):=by walk_at "s"
theorem C0(T:TX e)(Dm:Jw e):rL e:=by
 have S:=DR
 exact T.Ga.okD S (fun ds Z Q h=>Ab h) (fun cdv A outer s H E hr=>⟨lW,(ak (jI (dv 0) (dg (n:=4) rfl (aB (aw (i:=1) S.nd rfl (Or.inl rfl)) (aB (aw (i:=2) S.nd rfl (Or.inl rfl)) (aB (aw (i:=3) S.nd rfl (Or.inl rfl)) (aB (aw (i:=4) S.nd rfl (Or.inl rfl)) bY))))))
  (ar (aH (aZ (ae (dv 1) (ae (ao Dm (hr.mono ⋯) rfl T.Ml T.MM T.LX (ae (dv 1) (ae (dv 3) aj))) (ae (dv 2) (ae (ao Dm (hr.mono ⋯) rfl T.Ml T.MM T.LX (ae (dv 2) (ae (dv 4) aj))) aj)))))))),fun ds Z Qd h=>CH h⟩)
theorem FY:aK ["d","thing"] ["d","thing"] (ax hJ):=by walk_at "s"
theorem Ey(T:TX e)(bg:dh e):vQ e:=by
 have S:=FY
 exact T.IP.okD S (fun ds Z Q h=>B7 h) (fun cdv A outer s H E hr=>⟨oH,(ak (bF (DW.dt (fR (cT (cF (kr (kit_tuple _) rfl T.bK rfl T.j5 PyProof.Rows.Boot.«tuple» (dv 1)))) (fR (aW nD eI (dG rfl T.gA (ae (dv 1) aj)) ah (aN _)) (iU (aW kW eI (dG rfl T.gA (ae (dv 1) aj)) (Cd (u:=.int 3) rfl T.B9 ⟨_,rfl⟩ (fun _ _ _=>Rp.int 3)) (aN _)))))) (ar (aH iG)) aX)
  (ar (aH (vf rfl rfl T.Bu (ae (fJ (N':=["kind","d"]) (cap:=[none,some 0]) rfl (Hb (mJ (dv 1))) (fun _ _ _=>(aw (i:=0) (show List.Nodup (["kind","d"]:List Str) by decide +kernel) rfl (Or.inl rfl))) (fun _ _ _=>bW) (fun _ _ _=>(ao bg (hr.mono ⋯) rfl T.cP T.cR T.cN (ae (dv 1) (ae (dv 0) aj)))) rfl nofun rfl nofun (by walk_at "cl") (cX rfl) rfl (cE ⟨qU,trivial⟩)) aj))))),fun ds Z Qd h=>EJ h⟩)
theorem ym:aK ["_law_d","_law_laying_here"] ["_law_d","_law_laying_here"] (ax dq):=by walk_at "s"
theorem xk(T:TX e)(oO:tV e):oD e:=by
 have S:=ym
 exact T.AV.okD S (fun ds Z Q h=>AX h) (fun cdv A outer s H E hr=>⟨jv,(ar (aH (fJ (N':=["_law_x","_law_y","_law_w","_law_h","_law_d"]) (cap:=[none,none,none,none,some 0]) rfl (Hb (mJ (aD (dv 1) ah))) (fun _ _ _=>(dg (n:=4) rfl (aB (aw (i:=0) (show List.Nodup (["_law_x","_law_y","_law_w","_law_h","_law_d"]:List Str) by decide +kernel) rfl (Or.inl rfl)) (aB (aw (i:=1) (show List.Nodup (["_law_x","_law_y","_law_w","_law_h","_law_d"]:List Str) by decide +kernel) rfl (Or.inl rfl)) (aB (aw (i:=2) (show List.Nodup (["_law_x","_law_y","_law_w","_law_h","_law_d"]:List Str) by decide +kernel) rfl (Or.inl rfl)) (aB (aw (i:=3) (show List.Nodup (["_law_x","_law_y","_law_w","_law_h","_law_d"]:List Str) by decide +kernel) rfl (Or.inl rfl)) bY)))))) (fun _ _ _=>bW) (fun _ _ _=>(ao oO (hr.mono ⋯) rfl T.E4 T.EN T.Fz (ae (dv 4) (ae (dv 3) (ae (dv 2) aj))))) rfl nofun rfl nofun (by walk_at "cl") (cX rfl) rfl (cE ⟨qU,trivial⟩)))),fun ds Z Qd h=>yO h⟩)
theorem A5:aK ["_law_bag_here","_law_d","_law_columns","_law_rows","_law_blocks_here","_law_xs","_law_ys","_law_tiles","_law_column","_law_row","_law_wide","_law_high","_law_width","_law_height"] ["_law_bag_here","_law_d","_law_columns","_law_rows","_law_blocks_here"] (ax d7):=by walk_at "s"
theorem Ay(T:TX e)(j8:tM e)(i5:qu e)(lQ:qx e)(kj:sv e):kH e:=by
 have S:=A5
 exact T.C7.okD S (fun ds Z Q h=>Cn h) (fun cdv A outer s H E hr=>⟨kD,(ak (ml (i:=5) (j:=6) rfl S.nd rfl rfl ⋯ rfl rfl (ae (ao j8 (hr.mono ⋯) rfl T.vM T.vt T.vW (ae (ao i5 (hr.mono ⋯) rfl T.rG T.sf T.sD (ae (dv 0) (ae (dv 1) (ae (dv 2) aj)))) aj)) (ae (ao j8 (hr.mono ⋯) rfl T.vM T.vt T.vW (ae (ao i5 (hr.mono ⋯) rfl T.rG T.sf T.sD (ae (dv 0) (ae (dv 1) (ae (dv 3) aj)))) aj)) aj)) rfl)
  (ak (aS (i:=7) S.nd rfl (Or.inl rfl) (pL aj))
  (ak (gK PassesOwn.never rfl (ig (ao lQ (hr.mono ⋯) rfl T.Ca T.Ee T.BV (ae (dv 0) (ae (dv 4) aj)))) (dg (n:=4) rfl (aB (aw (i:=8) S.nd rfl (Or.inl rfl)) (aB (aw (i:=9) S.nd rfl (Or.inl rfl)) (aB (aw (i:=10) S.nd rfl (Or.inl rfl)) (aB (aw (i:=11) S.nd rfl (Or.inl rfl)) bY))))) (ak (ml (i:=12) (j:=13) rfl S.nd rfl rfl ⋯ rfl rfl (ae (ao kj (hr.mono ⋯) rfl T.vH T.vz T.vF (ae (aD (dv 5) (bb (dv 8) (dv 10))) (ae (aD (dv 5) (dv 8)) aj))) (ae (ao kj (hr.mono ⋯) rfl T.vH T.vz T.vF (ae (aD (dv 6) (bb (dv 9) (dv 11))) (ae (aD (dv 6) (dv 9)) aj))) aj)) rfl)
  (ar (iy (k7 (dv 7) (aZ (ae (aD (dv 5) (dv 8)) (ae (aD (dv 6) (dv 9)) (ae (dv 12) (ae (dv 13) aj))))))))))
  (ar (aH (aZ (ae (aD (dv 5) (mD ah)) (ae (aD (dv 6) (mD ah)) (ae (EW rfl T.j5 (ae (dv 7) aj)) aj))))))))),fun ds Z Qd h=>AH h⟩)
theorem qQ:aK ["_law_bag_here","_law_d","_law_shapes_here","_law_found","_law_unlike","_law_turn","_law_kind"] ["_law_bag_here","_law_d","_law_shapes_here"] (ax bU):=by walk_at "s"
theorem qW(T:TX e)(au:bC e)(bJ:eC e)(ni:qm e):jj e:=by
 have S:=qQ
 exact T.sL.okD S (fun ds Z Q h=>wK h) (fun cdv A outer s H E hr=>⟨eV,(ak (aS (i:=3) S.nd rfl (Or.inl rfl) (pL aj))
  (ak (wW (i:=4) (N':=["_law_k","_law_shape","_law_shapes_here"]) (cap:=[none,none,some 2]) S.nd rfl rfl rfl (DQ rfl T.oM (ae (dv 2) aj)) (fun _ _ _=>(dg (n:=2) rfl (aB (aw (i:=0) (show List.Nodup (["_law_k","_law_shape","_law_shapes_here"]:List Str) by decide +kernel) rfl (Or.inl rfl)) (aB (aw (i:=1) (show List.Nodup (["_law_k","_law_shape","_law_shapes_here"]:List Str) by decide +kernel) rfl (Or.inl rfl)) bY)))) (fun _ _ _=>(Ft (aW (BQ hr.units) Hg (dv 1) (Nm (dv 2) O4 (NZ (dv 0))) (by with_unfolding_all rfl)))) (fun _ _ _=>(dv 1)) rfl nofun rfl nofun (by walk_at "cl") (cX rfl) rfl (cE ⟨qU,trivial⟩))
  (ak (gK PassesOwn.never rfl (j0 rfl T.fG (ae (bb ah (ao (bc au @aR) (hr.mono ⋯) rfl T.aF T.aG T.aE (ae (dv 0) (ae ah aj)))) aj)) (aw (i:=5) S.nd rfl (Or.inl rfl)) (ak (aS (i:=6) S.nd rfl (Or.inl rfl) (aD (dv 4) (jm (bb (ao (bc au @aR) (hr.mono ⋯) rfl T.aF T.aG T.aE (ae (dv 0) (ae (dG rfl T.gA (ae (dv 4) aj)) aj))) (dv 5)) (dG rfl T.gA (ae (dv 4) aj)))))
  (ak (bF (aW (bV hr.units) bH (ao (bc au @aR) (hr.mono ⋯) rfl T.aF T.aG T.aE (ae (dv 0) (ae ah aj))) ah (aN _)) (ar (aS (i:=6) S.nd rfl (Or.inl rfl) (ao bJ (hr.mono ⋯) rfl T.iJ T.iT T.iY (ae (dv 1) (ae (dv 6) aj))))) aX)
  (ak (bF (aW (bV hr.units) bH (ao (bc au @aR) (hr.mono ⋯) rfl T.aF T.aG T.aE (ae (dv 0) (ae ah aj))) ah (aN _)) (ar (aS (i:=6) S.nd rfl (Or.inl rfl) (ao ni (hr.mono ⋯) rfl T.Dc T.DN T.DB (ae (dv 0) (ae (dv 1) aj))))) aX)
  (ar (iy (k7 (dv 3) (dv 6))))))))
  (ar (aH (EW rfl T.j5 (ae (dv 3) aj))))))),fun ds Z Qd h=>rh h⟩)
theorem Es:aK ["d","thing","width","height","tiles"] ["d","thing"] (ax hE):=by walk_at "s"
theorem G4(T:TX e)(bg:dh e)(uw:xI e):vO e:=by
 have S:=Es
 exact T.Hz.okD S (fun ds Z Q h=>GD h) (fun cdv A outer s H E hr=>⟨nZ,(ak (bF (DW.dt (fR (cT (cF (kr (kit_tuple _) rfl T.bK rfl T.j5 PyProof.Rows.Boot.«tuple» (dv 1)))) (iU (aW (nh hr.units) bH (dG rfl T.gA (ae (dv 1) aj)) ah (aN _))))) (ar (aH iG)) aX)
  (ak (jI (dv 1) (dg (n:=3) rfl (aB (aw (i:=2) S.nd rfl (Or.inl rfl)) (aB (aw (i:=3) S.nd rfl (Or.inl rfl)) (aB (aw (i:=4) S.nd rfl (Or.inl rfl)) bY)))))
  (ak (bF (DW.dt (fR (cT (cF (ao bg (hr.mono ⋯) rfl T.cP T.cR T.cN (ae (dv 0) (ae (dv 2) aj))))) (iU (cT (cF (ao bg (hr.mono ⋯) rfl T.cP T.cR T.cN (ae (dv 0) (ae (dv 3) aj)))))))) (ar (aH iG)) aX)
  (ak (bF (DW.dt (fR (cT (cF (kr (kit_tuple _) rfl T.bK rfl T.j5 PyProof.Rows.Boot.«tuple» (dv 4)))) (fR (aW nD eI (dG rfl T.gA (ae (dv 4) aj)) ah (aN _)) (iU (aW kW eI (dG rfl T.gA (ae (dv 4) aj)) (Cd (u:=.int 60) rfl T.Di ⟨_,rfl⟩ (fun _ _ _=>Rp.int 60)) (aN _)))))) (ar (aH iG)) aX)
  (ar (aH (vf rfl rfl T.Bu (ae (fJ (N':=["tile","d"]) (cap:=[none,some 0]) rfl (Hb (mJ (dv 4))) (fun _ _ _=>(aw (i:=0) (show List.Nodup (["tile","d"]:List Str) by decide +kernel) rfl (Or.inl rfl))) (fun _ _ _=>bW) (fun _ _ _=>(ao uw (hr.mono ⋯) rfl T.KC T.K5 T.Kz (ae (dv 1) (ae (dv 0) aj)))) rfl nofun rfl nofun (by walk_at "cl") (cX rfl) rfl (cE ⟨qU,trivial⟩)) aj)))))))),fun ds Z Qd h=>GF h⟩)
theorem uc:aK ["d","thing"] ["d","thing"] (ax cM):=by walk_at "s"
theorem uH(T:TX e)(qI:vQ e):k5 e:=by
 have S:=uc
 exact T.wQ.okD S (fun ds Z Q h=>wD h) (fun cdv A outer s H E hr=>⟨gM,(ar (bF (cT (cF (ao qI (hr.mono ⋯) rfl T.Ij T.Iy T.HW (ae (dv 0) (ae (dv 1) aj))))) (ar tU) aX)),fun ds Z Qd h=>vi h⟩)
theorem yp:aK ["_law_bag_here","_law_d","_law_columns","_law_rows","_law_blocks_here"] ["_law_bag_here","_law_d"] (ax dD):=by walk_at "s"
theorem yu(T:TX e)(au:bC e)(cG:hW e)(di:kH e)(fS:jt e)(dA:jl e):nO e:=by
 have S:=yp
 exact T.Ap.okD S (fun ds Z Q h=>Al h) (fun cdv A outer s H E hr=>⟨jA,(ak (bF (aW (bV hr.units) bH (ao (bc au @aR) (hr.mono ⋯) rfl T.aF T.aG T.aE (ae (dv 0) (ae ah aj))) ah (aN _)) (ak (jI (ao cG (hr.mono ⋯) rfl T.nI T.nK T.nJ (ae (dv 0) aj)) (dg (n:=3) rfl (aB (aw (i:=2) S.nd rfl (Or.inl rfl)) (aB (aw (i:=3) S.nd rfl (Or.inl rfl)) (aB (aw (i:=4) S.nd rfl (Or.inl rfl)) bY)))))
  (ar (aH (ao di (hr.mono ⋯) rfl T.mM T.mN T.lZ (ae (dv 0) (ae (dv 1) (ae (dv 2) (ae (dv 3) (ae (dv 4) aj))))))))) aX)
  (ak (jI (ao fS (hr.mono ⋯) rfl T.rD T.rJ T.tQ (ae (dv 0) aj)) (dg (n:=2) rfl (aB (aw (i:=2) S.nd rfl (Or.inl rfl)) (aB (aw (i:=3) S.nd rfl (Or.inl rfl)) bY))))
  (ar (aH (ao di (hr.mono ⋯) rfl T.mM T.mN T.lZ (ae (dv 0) (ae (dv 1) (ae (dv 2) (ae (dv 3) (ae (ao dA (hr.mono ⋯) rfl T.qy T.qv T.qp (ae (dv 0) (ae (dv 2) (ae (dv 3) aj)))) aj)))))))))),fun ds Z Qd h=>xr h⟩)
theorem sW:aK ["_law_bag_here","_law_d","_law_most","_law_columns","_law_rows","_law_blocks_here"] ["_law_bag_here","_law_d","_law_most"] (ax cm):=by walk_at "s"
theorem tK(T:TX e)(au:bC e)(cG:hW e)(dA:jl e)(di:kH e):jS e:=by
 have S:=sW
 exact T.uD.okD S (fun ds Z Q h=>xE h) (fun cdv A outer s H E hr=>⟨gj,(ak (bF (aW (bV hr.units) bH (ao (bc au @aR) (hr.mono ⋯) rfl T.aF T.aG T.aE (ae (dv 0) (ae ah aj))) ah (aN _)) (ar (jI (ao cG (hr.mono ⋯) rfl T.nI T.nK T.nJ (ae (dv 0) aj)) (dg (n:=3) rfl (aB (aw (i:=3) S.nd rfl (Or.inl rfl)) (aB (aw (i:=4) S.nd rfl (Or.inl rfl)) (aB (aw (i:=5) S.nd rfl (Or.inl rfl)) bY)))))) (ak (ml (i:=3) (j:=4) rfl S.nd rfl rfl ⋯ rfl rfl (ae (bb ah (ao (bc au @aR) (hr.mono ⋯) rfl T.aF T.aG T.aE (ae (dv 0) (ae ah aj)))) (ae (bb ah (ao (bc au @aR) (hr.mono ⋯) rfl T.aF T.aG T.aE (ae (dv 0) (ae ah aj)))) aj)) rfl)
  (ar (aS (i:=5) S.nd rfl (Or.inl rfl) (ao dA (hr.mono ⋯) rfl T.qy T.qv T.qp (ae (dv 0) (ae (dv 3) (ae (dv 4) aj))))))))
  (ak (bF (aW kW eI (dG rfl T.gA (ae (dv 5) aj)) (dv 2) (aN _)) (ar (Ot (i:=3) (j:=4) (l:=5) rfl S.nd rfl rfl rfl ⋯ ⋯ ⋯ rfl rfl rfl (ae (dv 2) (ae ah (ae (fJ (N':=["_law_k"]) (cap:=[none]) rfl (Hb (j0 rfl T.fG (ae (dv 2) aj))) (fun _ _ _=>(aw (i:=0) (show List.Nodup (["_law_k"]:List Str) by decide +kernel) rfl (Or.inl rfl))) (fun _ _ _=>bW) (fun _ _ _=>(aZ (ae (dv 0) (ae ah (ae ah (ae ah aj)))))) rfl nofun rfl nofun (by walk_at "cl") (cX rfl) rfl (cE trivial)) aj))) rfl)) aX)
  (ar (aH (ao di (hr.mono ⋯) rfl T.mM T.mN T.lZ (ae (dv 0) (ae (dv 1) (ae (dv 3) (ae (dv 4) (ae (dv 5) aj)))))))))),fun ds Z Qd h=>rN h⟩)
theorem DJ:aK ["d","thing","width","height","tiles","bounds","across","upward"] ["d","thing"] (ax fw):=by walk_at "s"
theorem C6(T:TX e)(qZ:vO e)(oE:rL e)(fV:nG e)(fI:nH e)(kE:oW e):sH e:=by
 have S:=DJ
 exact T.E7.okD S (fun ds Z Q h=>CK h) (fun cdv A outer s H E hr=>⟨mE,(ak (bF (cT (cF (ao qZ (hr.mono ⋯) rfl T.IL T.HZ T.HN (ae (dv 0) (ae (dv 1) aj))))) (ar (aH iG)) aX)
  (ak (jI (dv 1) (dg (n:=3) rfl (aB (aw (i:=2) S.nd rfl (Or.inl rfl)) (aB (aw (i:=3) S.nd rfl (Or.inl rfl)) (aB (aw (i:=4) S.nd rfl (Or.inl rfl)) bY)))))
  (ak (wW (i:=5) (N':=["tile"]) (cap:=[none]) S.nd rfl rfl rfl (mJ (dv 4)) (fun _ _ _=>(aw (i:=0) (show List.Nodup (["tile"]:List Str) by decide +kernel) rfl (Or.inl rfl))) (fun _ _ _=>bW) (fun _ _ _=>(ao oE (hr.mono ⋯) rfl T.FZ T.GO T.FG (ae (dv 0) aj))) rfl nofun rfl nofun (by walk_at "cl") (cX rfl) rfl (cE trivial))
  (ak (aS (i:=6) S.nd rfl (Or.inl rfl) (ao fV (hr.mono ⋯) rfl T.pF T.oS T.oU (ae (dv 0) (ae (EL (N':=["left","right","bottom","top","x"]) (cap:=[none,none,none,none,none]) rfl (ig (dv 5)) (fun _ _ _=>(dg (n:=4) rfl (aB (aw (i:=0) (show List.Nodup (["left","right","bottom","top","x"]:List Str) by decide +kernel) rfl (Or.inl rfl)) (aB (aw (i:=1) (show List.Nodup (["left","right","bottom","top","x"]:List Str) by decide +kernel) rfl (Or.inl rfl)) (aB (aw (i:=2) (show List.Nodup (["left","right","bottom","top","x"]:List Str) by decide +kernel) rfl (Or.inl rfl)) (aB (aw (i:=3) (show List.Nodup (["left","right","bottom","top","x"]:List Str) by decide +kernel) rfl (Or.inl rfl)) bY)))))) (fun _ _ _=>(mJ (aZ (ae (dv 0) (ae (dv 1) aj))))) (fun _ _ _=>(aw (i:=4) (show List.Nodup (["left","right","bottom","top","x"]:List Str) by decide +kernel) rfl (Or.inl rfl))) (fun _ _ _=>(dv 4)) rfl nofun rfl nofun (by walk_at "cl") (cX rfl) Bi rfl (cE trivial)) aj))))
  (ak (aS (i:=7) S.nd rfl (Or.inl rfl) (ao fV (hr.mono ⋯) rfl T.pF T.oS T.oU (ae (dv 0) (ae (EL (N':=["left","right","bottom","top","y"]) (cap:=[none,none,none,none,none]) rfl (ig (dv 5)) (fun _ _ _=>(dg (n:=4) rfl (aB (aw (i:=0) (show List.Nodup (["left","right","bottom","top","y"]:List Str) by decide +kernel) rfl (Or.inl rfl)) (aB (aw (i:=1) (show List.Nodup (["left","right","bottom","top","y"]:List Str) by decide +kernel) rfl (Or.inl rfl)) (aB (aw (i:=2) (show List.Nodup (["left","right","bottom","top","y"]:List Str) by decide +kernel) rfl (Or.inl rfl)) (aB (aw (i:=3) (show List.Nodup (["left","right","bottom","top","y"]:List Str) by decide +kernel) rfl (Or.inl rfl)) bY)))))) (fun _ _ _=>(mJ (aZ (ae (dv 2) (ae (dv 3) aj))))) (fun _ _ _=>(aw (i:=4) (show List.Nodup (["left","right","bottom","top","y"]:List Str) by decide +kernel) rfl (Or.inl rfl))) (fun _ _ _=>(dv 4)) rfl nofun rfl nofun (by walk_at "cl") (cX rfl) Bi rfl (cE trivial)) aj))))
  (ar (aH (ko (ao fI (hr.mono ⋯) rfl T.o5 T.pf T.oK (ae (dv 6) (ae (dv 2) aj))) (ko (ao fI (hr.mono ⋯) rfl T.o5 T.pf T.oK (ae (dv 7) (ae (dv 3) aj))) (kT (ao kE (hr.mono ⋯) rfl T.AD T.Aa T.Ak (ae (dv 5) (ae (dv 6) (ae (dv 7) aj)))))))))))))),fun ds Z Qd h=>Dk h⟩)
theorem tD:aK ["d","thing"] ["d","thing"] (ax cw):=by walk_at "s"
theorem tm(T:TX e)(pJ:sH e):ka e:=by
 have S:=tD
 exact T.uo.okD S (fun ds Z Q h=>Ai h) (fun cdv A outer s H E hr=>⟨fK,(ar (bF (cT (cF (ao pJ (hr.mono ⋯) rfl T.GV T.E3 T.EV (ae (dv 0) (ae (dv 1) aj))))) (ar tU) aX)),fun ds Z Qd h=>tS h⟩)
theorem El:aK ["d","laying"] ["d","laying"] (ax fh):=by walk_at "s"
theorem Ds(T:TX e)(gJ:ka e)(He:JN e):l7 e:=by
 have S:=El
 exact T.Fc.okD S (fun ds Z Q h=>zC h) (fun cdv A outer s H E hr=>⟨nk,(ak (iy (ao gJ (hr.mono ⋯) rfl T.uG T.va T.uU (ae (dv 0) (ae (dv 1) aj))))
  (ar (aH (Mw (N':=["x","y","width","height","d"]) (cap:=[none,none,none,none,some 0]) rfl (mJ (aD (dv 1) ah)) (fun _ _ _=>(dg (n:=4) rfl (aB (aw (i:=0) (show List.Nodup (["x","y","width","height","d"]:List Str) by decide +kernel) rfl (Or.inl rfl)) (aB (aw (i:=1) (show List.Nodup (["x","y","width","height","d"]:List Str) by decide +kernel) rfl (Or.inl rfl)) (aB (aw (i:=2) (show List.Nodup (["x","y","width","height","d"]:List Str) by decide +kernel) rfl (Or.inl rfl)) (aB (aw (i:=3) (show List.Nodup (["x","y","width","height","d"]:List Str) by decide +kernel) rfl (Or.inl rfl)) bY)))))) (fun _ _ _=>bW) (fun _ _ _=>(ao He (hr.mono ⋯) rfl T.PM T.PJ T.P2 (ae (dv 4) (ae (dv 3) (ae (dv 2) aj))))) rfl nofun rfl nofun (by walk_at "cl") (cX rfl) rfl (cE ⟨qU,trivial⟩))))),fun ds Z Qd h=>DH h⟩)
theorem L6:aK ["d","laying","kinds","shapes","fitting"] ["d","laying","kinds"] (ax qh):=by walk_at "s"
theorem MC(T:TX e)(dR:l7 e)(iM:k5 e)(hU:o9 e):yz e:=by
 have S:=L6
 exact DX (T.OX.okD S (fun ds Z Q h=>ER h) (fun cdv A outer s H E hr=>⟨zz,(ak (aS (i:=3) S.nd rfl (Or.inl rfl) (ao dR (hr.mono ⋯) rfl T.pH T.ot T.pD (ae (dv 0) (ae (dv 1) aj))))
  (ak (iy (ao iM (hr.mono ⋯) rfl T.wo T.wB T.wG (ae (dv 0) (ae (dv 2) aj))))
  (ak (aS (i:=4) S.nd rfl (Or.inr rfl) (Rw (Ow rfl T.IS (ae (dv 2) aj)) (fJ (N':=["kind","d"]) (cap:=[none,some 0]) rfl (Hb (mJ (dv 2))) (fun _ _ _=>(aw (i:=0) (show List.Nodup (["kind","d"]:List Str) by decide +kernel) rfl (Or.inl rfl))) (fun _ _ _=>bW) (fun _ _ _=>(ao hU (hr.mono ⋯) rfl T.yi T.xt T.zm (ae (dv 1) (ae (dv 0) aj)))) rfl nofun rfl nofun (by walk_at "cl") (cX rfl) rfl (cE ⟨qU,trivial⟩))))
  (ar (aH (vf rfl rfl T.Bu (ae (fJ (N':=["shape","fitting"]) (cap:=[none,some 4]) rfl (R6 (dv 3)) (fun _ _ _=>(aw (i:=0) (show List.Nodup (["shape","fitting"]:List Str) by decide +kernel) rfl (Or.inl rfl))) (fun _ _ _=>bW) (fun _ _ _=>(dc (Qw hr.units) Hg (dv 0) (dv 1) (by with_unfolding_all rfl))) rfl nofun rfl nofun (by walk_at "cl") (cX rfl) rfl (cE ⟨qU,trivial⟩)) aj))))))),fun ds Z Qd h=>Me h⟩)) (fun ds Z Qd h=>KJ h)
theorem wC:aK ["_law_bag_here","_law_d","_law_laying_here","_law_shapes_here","_law_told","_law_turn","_law_kinds","_law_due","_law_found"] ["_law_bag_here","_law_d","_law_laying_here"] (ax cW):=by walk_at "s"
theorem wJ(T:TX e)(kM:oD e)(dR:l7 e)(gR:jZ e)(gp:jj e)(bJ:eC e)(mG:yz e):nu e:=by
 have S:=wC
 exact T.xJ.okD S (fun ds Z Q h=>Gw h) (fun cdv A outer s H E hr=>⟨iI,(ak (aS (i:=3) S.nd rfl (Or.inl rfl) (ao kM (hr.mono ⋯) rfl T.Aq T.zV T.Aj (ae (dv 1) (ae (dv 2) aj))))
  (ak (aS (i:=4) S.nd rfl (Or.inl rfl) (ao dR (hr.mono ⋯) rfl T.pH T.ot T.pD (ae (dv 1) (ae (dv 2) aj))))
  (ak (bF (DW.dt (fR (cT (cF (Jo (Ny _) rfl T.bK rfl T.IS PyProof.Rows.Boot.«list» (dv 4)))) (fR (aW (nh hr.units) Hj (dv 4) (dv 3) (aN _)) (iU (cT (cF (vf rfl rfl T.Bu (ae (fJ (N':=["_law_one"]) (cap:=[none]) rfl (R6 (dv 4)) (fun _ _ _=>(aw (i:=0) (show List.Nodup (["_law_one"]:List Str) by decide +kernel) rfl (Or.inl rfl))) (fun _ _ _=>bW) (fun _ _ _=>(ao gR (hr.mono ⋯) rfl T.uX T.uj T.uE (ae (dv 0) aj))) rfl nofun rfl nofun (by walk_at "cl") (cX rfl) rfl (cE trivial)) aj)))))))) (ar (aH iG)) aX)
  (ak (gK PassesOwn.never rfl (j0 rfl T.fG (ae ah aj)) (aw (i:=5) S.nd rfl (Or.inl rfl)) (ak (aS (i:=6) S.nd rfl (Or.inr rfl) (ao gp (hr.mono ⋯) rfl T.rS T.rH T.sR (ae (dv 0) (ae (dv 1) (ae (dv 3) aj)))))
  (ak (aS (i:=7) S.nd rfl (Or.inl rfl) (vf rfl rfl T.Bu (ae (fJ (N':=["_law_shape","_law_kinds","_law_d"]) (cap:=[none,some 6,some 1]) rfl (Hb (ig (dv 3))) (fun _ _ _=>(aw (i:=0) (show List.Nodup (["_law_shape","_law_kinds","_law_d"]:List Str) by decide +kernel) rfl (Or.inl rfl))) (fun _ _ _=>bW) (fun _ _ _=>(Tj (dc (Nd hr.units) Mr (dv 0) (dv 1) (by with_unfolding_all rfl)) (kT (dc (Nd hr.units) Mr (ao bJ (hr.mono ⋯) rfl T.iJ T.iT T.iY (ae (dv 2) (ae (dv 0) aj))) (dv 1) (by with_unfolding_all rfl))))) rfl nofun rfl nofun (by walk_at "cl") (cX rfl) rfl (cE ⟨qU,⟨qU,trivial⟩⟩)) aj)))
  (ak (aS (i:=8) S.nd rfl (Or.inl rfl) (ao mG (hr.mono ⋯) rfl T.Eh T.D9 T.Cg (ae (dv 1) (ae (dv 2) (ae (dv 6) aj)))))
  (ar (bF (DW.dt (fR (cT (cF (Jo (zP _) rfl T.bK rfl T.HR PyProof.Rows.Boot.«bool» (dv 8)))) (iU (aW (nh hr.units) Hj (dv 8) (dv 7) (aN _))))) (ar (aH iG)) aX))))))
  (ak (iy (k7 (dv 4) (aZ (ae ah (ae ah (ae ah aj))))))
  (ak (iy (N2 (dv 4)))
  (ar (aH (dc (bV hr.units) Hj (ao dR (hr.mono ⋯) rfl T.pH T.ot T.pD (ae (dv 1) (ae (dv 2) aj))) (dv 3) (aN _)))))))))),fun ds Z Qd h=>wt h⟩)
theorem Qz:aK ["_law_script","_law_k","_law_bag_here","_law_d","_law_first","_law_second","_law_laying_here","_law_one"] ["_law_script"] (ax qw):=by walk_at "s"
theorem Qp(T:TX e)(rp:vP e)(nM:tp e)(kN:nO e)(gZ:jS e)(jy:nu e)(mG:yz e):MU e:=by
 have S:=Qz
 exact T.SK.okD S (fun ds Z Q h=>J9 h) (fun cdv A outer s H E hr=>⟨ID,(ak (gK PassesOwn.never rfl (j0 rfl T.fG (ae (Qg rfl rfl T.SJ (ae ah (ae (Hr rfl rfl T.L7 (ae ah (ae (dG rfl T.gA (ae (dv 0) aj)) aj))) aj))) aj)) (aw (i:=1) S.nd rfl (Or.inl rfl)) (ak (aS (i:=2) S.nd rfl (Or.inl rfl) (ao rp (hr.mono ⋯) rfl T.Hn T.Im T.HF (ae (dv 0) (ae (dv 1) aj))))
  (ak (aS (i:=3) S.nd rfl (Or.inl rfl) (ao nM (hr.mono ⋯) rfl T.Gx T.Ex T.FE (ae (dv 2) aj)))
  (ak (ml (i:=4) (j:=5) rfl S.nd rfl rfl ⋯ rfl rfl (ae (ao kN (hr.mono ⋯) rfl T.AE T.Au T.AN (ae (dv 2) (ae (dv 3) aj))) (ae (ao gZ (hr.mono ⋯) rfl T.uJ T.uA T.u9 (ae (dv 2) (ae (dv 3) (ae ah aj)))) aj)) rfl)
  (ar (gK PassesOwn.never rfl (ig (fX (ae (dv 4) (ae (dv 5) (ae (dv 4) aj))))) (aw (i:=6) S.nd rfl (Or.inl rfl)) (ar (bF (cT (cF (ao jy (hr.mono ⋯) rfl T.yD T.xM T.yy (ae (dv 2) (ae (dv 3) (ae (dv 6) aj)))))) (ar (aH iG)) aX))))))))
  (ak (aS (i:=7) S.nd rfl (Or.inl rfl) (aZ (ae (aZ (ae ah (ae ah (ae ah aj)))) (ae (aZ (ae ah (ae ah (ae ah aj)))) (ae (aZ (ae (aZ (ae (aZ (ae ah (ae ah (ae ah aj)))) (ae (aZ (ae ah (ae ah (ae ah aj)))) (ae (aZ (ae ah (ae ah (ae ah aj)))) (ae (aZ (ae ah (ae ah (ae ah aj)))) aj))))) aj)) aj)))))
  (ar (aH (ko (dc MD Pp (ao mG (hr.mono ⋯) rfl T.Eh T.D9 T.Cg (ae ah (ae (dv 7) (ae (aZ (ae (aZ (ae ah (ae ah (ae ah aj)))) aj)) aj)))) iG (aN _)) (kT (dc MD Pp (ao mG (hr.mono ⋯) rfl T.Eh T.D9 T.Cg (ae ah (ae (dv 7) (ae (aZ (ae (aZ (ae ah (ae ah (ae ah aj)))) (ae (aZ (ae ah (ae ah (ae ah aj)))) aj))) aj)))) iG (aN _)))))))),fun ds Z Qd h=>Qi h⟩)
theorem PU(T:TX e):MU e:=by
 have jJ:=Ge T
 have eu:=su T
 have cI:=uR T
 have fI:=wM T
 have kE:=xX T
 have au:=Ei T
 have cj:=xH T
 have ff:=CJ T
 have bX:=A4 T
 have iN:=uS T
 have rp:=G7 T
 have nN:=BZ T
 have cq:=sO T eu
 have hX:=HB T cI
 have qC:=Fx T cI
 have bE:=GS T cj
 have gR:=sQ T iN cj
 have nM:=Ce T au
 have cG:=vk T au
 have lQ:=AG T au
 have fS:=qA T au
 have dA:=yj T au nN
 have dX:=CN T jJ cq
 have fN:=K8 T cq
 have kA:=xS T qC
 have bJ:=uB T bE
 have kL:=yN T au bE
 have mh:=AW T bE
 have eZ:=CO T bE
 have jY:=Cv T au bE ff bX
 have Dm:=gu T fN
 have Ci:=tG T fN
 have hU:=bP T fN
 have bg:=qG T dX hX
 have fV:=wu T kA
 have ni:=AB T kL ff au bX
 have oO:=CL T mh bJ
 have j8:=Ek T eZ
 have i5:=AL T au jY
 have kj:=C2 T eZ bX
 have He:=ND T Ci hU
 have uw:=HC T dX hX bg
 have oE:=C0 T Dm
 have qI:=Ey T bg
 have kM:=xk T oO
 have di:=Ay T j8 i5 lQ kj
 have gp:=qW T au bJ ni
 have qZ:=G4 T bg uw
 have iM:=uH T qI
 have kN:=yu T au cG di fS dA
 have gZ:=tK T au cG dA di
 have pJ:=C6 T qZ oE fV fI kE
 have gJ:=tm T pJ
 have dR:=Ds T gJ He
 have mG:=MC T dR iM hU
 have jy:=wJ T kM dR gR gp bJ mG
 exact Qp T rp nM kN gZ jy mG
end
theorem all_mk{l:PySem.W.OpenLaw}{w:World}{K:PySem.W.Frag}{h:Heap}{mg:Str->Option Value}{fa:Addr}(X:K.In h)(G:h.Ns mainGlobals mg)(hfa:mg "law"=some (.ref fa))
  {f0 c0 f1 c1 f2 c2 f3 c3 f4 c4 f5 c5 f6 c6 f7 c7 f8 c8 f9 c9 f10 c10 f11 c11 f12 c12 f13 c13 f14 c14 f15 c15 f16 c16 f17 c17 f18 c18 f19 c19 f20 c20 f21 c21 f22 c22 f23 c23 f24 c24 f25 c25 f26 c26 f27 c27 f28 c28 f29 c29 f30 c30 f31 c31 f32 c32 f33 c33 f34 c34 f35 c35 f36 c36 f37 c37 f38 c38 f39 c39 f40 c40 f41 c41 f42 c42 f43 c43 f44 c44 f45 c45 f46 c46 f47 c47 f48 c48 f49 c49 f50 c50 f51 c51 f52 c52 f53 c53 f54 c54 f55 c55 f56 c56:Addr} {t0 t1 t2 t3 t4 t5 t6 t7 t8 t9 t10 t11 t12 t13 t14 t15 t16 t17 t18 t19 t20 t21 t22 t23 t24 t25 t26 t27 t28 t29 t30 t31 t32 t33 t34 t35 t36 t37 t38 t39 t40 t41 t42 t43 t44 t45 t46 t47 t48 t49 t50 t51 t52 t53 t54 t55 t56:Tok} {m0 m1 m2 m3 m4 m5 m6 m7 m8 m9 m10 m11 m12 m13 m14 m15 m16 m17 m18 m19 m20 m21 m22 m23 m24 m25 m26 m27 m28 m29 m30 m31 m32 m33 m34 m35 m36 m37 m38 m39 m40 m41 m42 m43 m44 m45 m46 m47 m48 m49 m50 m51 m52 m53 m54 m55 m56:Str} {q0:Tok} {q1:Tok} {g2:Addr} {go2:Option Addr} {q2a q2b q2c:Tok} {gn2:Nat} {gs2:Array (Option Value)}
  (a0:FQ K "is_whole" ic f0 c0 t0 m0)
  (a1:FQ K "common_divisor" ck f1 c1 t1 m1)
  (a2:FQ K "is_number" fo f2 c2 t2 m2)
  (a3:FQ K "divisor_of_all" cp f3 c3 t3 m3)
  (a4:FQ K "number" k0 f4 c4 t4 m4)
  (a5:FQ K "plus" u7 f5 c5 t5 m5)
  (a6:FQ K "times" qd f6 c6 t6 m6)
  (a7:FQ K "over" uh f7 c7 t7 m7)
  (a8:FQ K "contrary" gQ f8 c8 t8 m8)
  (a9:FQ K "sign_of" ji f9 c9 t9 m9)
  (a10:FQ K "sign_of_parts" cL f10 c10 t10 m10)
  (a11:FQ K "is_above" g8 f11 c11 t11 m11)
  (a12:FQ K "is_above_nought" bS f12 c12 t12 m12)
  (a13:FQ K "is_tile" jg f13 c13 t13 m13)
  (a14:FQ K "has_form" hE f14 c14 t14 m14)
  (a15:FQ K "bounds_of" fe f15 c15 t15 m15)
  (a16:FQ K "place_among" dF f16 c16 t16 m16)
  (a17:FQ K "rising_marks" da f17 c17 t17 m17)
  (a18:FQ K "reaches_just" cY f18 c18 t18 m18)
  (a19:FQ K "covers_once" dE f19 c19 t19 m19)
  (a20:FQ K "is_laying" fw f20 c20 t20 m20)
  (a21:FQ K "is_kinds" hJ f21 c21 t21 m21)
  (a22:FQ K "must_be_laying" cw f22 c22 t22 m22)
  (a23:FQ K "must_be_kinds" cM f23 c23 t23 m23)
  (a24:FQ K "shapes_in" fh f24 c24 t24 m24)
  (a25:FQ K "is_by" qh f25 c25 t25 m25)
  (a26:FQ K "_law_take" fq f26 c26 t26 m26)
  (a27:FQ K "_law_contrary" cK f27 c27 t27 m27)
  (a28:FQ K "_law_low" gT f28 c28 t28 m28)
  (a29:FQ K "_law_shared" dz f29 c29 t29 m29)
  (a30:FQ K "_law_above" d6 f30 c30 t30 m30)
  (a31:FQ K "_law_number" dn f31 c31 t31 m31)
  (a32:FQ K "_law_sign" eY f32 c32 t32 m32)
  (a33:FQ K "_law_minus" d8 f33 c33 t33 m33)
  (a34:FQ K "_law_shapes" dq f34 c34 t34 m34)
  (a35:FQ K "_law_over" fu f35 c35 t35 m35)
  (a36:FQ K "_law_times" eo f36 c36 t36 m36)
  (a37:FQ K "_law_is_number" cu f37 c37 t37 m37)
  (a38:FQ K "_law_is_whole" cJ f38 c38 t38 m38)
  (a39:FQ K "_law_bag" gW f39 c39 t39 m39)
  (a40:FQ K "_law_root" fj f40 c40 t40 m40)
  (a41:FQ K "_law_laying" dD f41 c41 t41 m41)
  (a42:FQ K "_law_pinwheel" cH f42 c42 t42 m42)
  (a43:FQ K "_law_floor" d7 f43 c43 t43 m43)
  (a44:FQ K "_law_ends" eX f44 c44 t44 m44)
  (a45:FQ K "_law_plus" fD f45 c45 t45 m45)
  (a46:FQ K "_law_sides" eA f46 c46 t46 m46)
  (a47:FQ K "_law_side" fg f47 c47 t47 m47)
  (a48:FQ K "_law_mixed" d5 f48 c48 t48 m48)
  (a49:FQ K "_law_less" fE f49 c49 t49 m49)
  (a50:FQ K "_law_many_cells" bT f50 c50 t50 m50)
  (a51:FQ K "_law_blocks" dw f51 c51 t51 m51)
  (a52:FQ K "_law_room" fc f52 c52 t52 m52)
  (a53:FQ K "_law_few_tiles" cm f53 c53 t53 m53)
  (a54:FQ K "_law_some_kinds" bU f54 c54 t54 m54)
  (a55:FQ K "_law_is_told" cW f55 c55 t55 m55)
  (a56:FQ K "law" qw f56 c56 t56 m56)
  (z0:nsIn K mainGlobals "isinstance"=some none)
  (z1:nsIn K mainGlobals "int"=some none)
  (z2:nsIn K mainGlobals "bool"=some none)
  (z3:nsIn K mainGlobals "abs"=some none)
  (z4:nsIn K mainGlobals "tuple"=some none)
  (z5:nsIn K mainGlobals "len"=some none)
  (z6:nsIn K mainGlobals "all"=some none)
  (z7:nsIn K mainGlobals "set"=some none)
  (z8:nsIn K mainGlobals "range"=some none)
  (z9:nsIn K mainGlobals "enumerate"=some none)
  (z10:nsIn K mainGlobals "list"=some none)
  (z11:nsIn K mainGlobals "min"=some none)
  (z12:nsIn K mainGlobals "max"=some none)
  (v0:nsIn K mainGlobals "MOST_KINDS"=some (some (.int 3 q0)))
  (v1:nsIn K mainGlobals "MOST_TILES"=some (some (.int 60 q1)))
  (v2:nsIn K mainGlobals "NOUGHT"=some (some (.ref g2))) (w2:K.lookup g2=some ⟨.type "tuple",go2,.seq #[.int 0 q2a,.int 0 q2b,.int 1 q2c] gn2,gs2⟩) :
  ∃fd:FuncData,(∀(s:Shared) (v:Value),BindsTo s fd ⟨[v],[]⟩ [("_law_script",v)])/\∀base:Heap,K.In base->base.Ns mainGlobals mg->bu l.prog w K mg base CX0 12 fa fd ["_law_script"] (spD K xK):=by
 have e:=hfa.symm.trans (mg_of X G a56.1)
 cases e
 have F0:=aU (st:=ic) a0.2.1 a0.2.2.1 a0.2.2.2
 have b0:=F0.binds (ps:=["thing"]) (by walk_at "b")
 have F1:=aU (st:=ck) a1.2.1 a1.2.2.1 a1.2.2.2
 have b1:=F1.binds (ps:=["a","b"]) (by walk_at "b")
 have F2:=aU (st:=fo) a2.2.1 a2.2.2.1 a2.2.2.2
 have b2:=F2.binds (ps:=["thing"]) (by walk_at "b")
 have F3:=aU (st:=cp) a3.2.1 a3.2.2.1 a3.2.2.2
 have b3:=F3.binds (ps:=["a","b","c"]) (by walk_at "b")
 have F4:=aU (st:=k0) a4.2.1 a4.2.2.1 a4.2.2.2
 have b4:=F4.binds (ps:=["a","b","c"]) (by walk_at "b")
 have F5:=aU (st:=u7) a5.2.1 a5.2.2.1 a5.2.2.2
 have b5:=F5.binds (ps:=["x","y"]) (by walk_at "b")
 have F6:=aU (st:=qd) a6.2.1 a6.2.2.1 a6.2.2.2
 have b6:=F6.binds (ps:=["d","x","y"]) (by walk_at "b")
 have F7:=aU (st:=uh) a7.2.1 a7.2.2.1 a7.2.2.2
 have b7:=F7.binds (ps:=["d","x","y"]) (by walk_at "b")
 have F8:=aU (st:=gQ) a8.2.1 a8.2.2.1 a8.2.2.2
 have b8:=F8.binds (ps:=["d","x"]) (by walk_at "b")
 have F9:=aU (st:=ji) a9.2.1 a9.2.2.1 a9.2.2.2
 have b9:=F9.binds (ps:=["d","x"]) (by walk_at "b")
 have F10:=aU (st:=cL) a10.2.1 a10.2.2.1 a10.2.2.2
 have b10:=F10.binds (ps:=["d","a","b"]) (by walk_at "b")
 have F11:=aU (st:=g8) a11.2.1 a11.2.2.1 a11.2.2.2
 have b11:=F11.binds (ps:=["d","x","y"]) (by walk_at "b")
 have F12:=aU (st:=bS) a12.2.1 a12.2.2.1 a12.2.2.2
 have b12:=F12.binds (ps:=["d","thing"]) (by walk_at "b")
 have F13:=aU (st:=jg) a13.2.1 a13.2.2.1 a13.2.2.2
 have b13:=F13.binds (ps:=["d","thing"]) (by walk_at "b")
 have F14:=aU (st:=hE) a14.2.1 a14.2.2.1 a14.2.2.2
 have b14:=F14.binds (ps:=["d","thing"]) (by walk_at "b")
 have F15:=aU (st:=fe) a15.2.1 a15.2.2.1 a15.2.2.2
 have b15:=F15.binds (ps:=["tile"]) (by walk_at "b")
 have F16:=aU (st:=dF) a16.2.1 a16.2.2.1 a16.2.2.2
 have b16:=F16.binds (ps:=["d","marks","x"]) (by walk_at "b")
 have F17:=aU (st:=da) a17.2.1 a17.2.2.1 a17.2.2.2
 have b17:=F17.binds (ps:=["d","found"]) (by walk_at "b")
 have F18:=aU (st:=cY) a18.2.1 a18.2.2.1 a18.2.2.2
 have b18:=F18.binds (ps:=["marks","end"]) (by walk_at "b")
 have F19:=aU (st:=dE) a19.2.1 a19.2.2.1 a19.2.2.2
 have b19:=F19.binds (ps:=["bounds","across","upward"]) (by walk_at "b")
 have F20:=aU (st:=fw) a20.2.1 a20.2.2.1 a20.2.2.2
 have b20:=F20.binds (ps:=["d","thing"]) (by walk_at "b")
 have F21:=aU (st:=hJ) a21.2.1 a21.2.2.1 a21.2.2.2
 have b21:=F21.binds (ps:=["d","thing"]) (by walk_at "b")
 have F22:=aU (st:=cw) a22.2.1 a22.2.2.1 a22.2.2.2
 have b22:=F22.binds (ps:=["d","thing"]) (by walk_at "b")
 have F23:=aU (st:=cM) a23.2.1 a23.2.2.1 a23.2.2.2
 have b23:=F23.binds (ps:=["d","thing"]) (by walk_at "b")
 have F24:=aU (st:=fh) a24.2.1 a24.2.2.1 a24.2.2.2
 have b24:=F24.binds (ps:=["d","laying"]) (by walk_at "b")
 have F25:=aU (st:=qh) a25.2.1 a25.2.2.1 a25.2.2.2
 have b25:=F25.binds (ps:=["d","laying","kinds"]) (by walk_at "b")
 have F26:=aU (st:=fq) a26.2.1 a26.2.2.1 a26.2.2.2
 have b26:=F26.binds (ps:=["_law_bag_here","_law_many"]) (by walk_at "b")
 have F27:=aU (st:=cK) a27.2.1 a27.2.2.1 a27.2.2.2
 have b27:=F27.binds (ps:=["_law_d","_law_x"]) (by walk_at "b")
 have F28:=aU (st:=gT) a28.2.1 a28.2.2.1 a28.2.2.2
 have b28:=F28.binds (ps:=["_law_a","_law_b","_law_c"]) (by walk_at "b")
 have F29:=aU (st:=dz) a29.2.1 a29.2.2.1 a29.2.2.2
 have b29:=F29.binds (ps:=["_law_one","_law_other"]) (by walk_at "b")
 have F30:=aU (st:=d6) a30.2.1 a30.2.2.1 a30.2.2.2
 have b30:=F30.binds (ps:=["_law_bag_here","_law_d"]) (by walk_at "b")
 have F31:=aU (st:=dn) a31.2.1 a31.2.2.1 a31.2.2.2
 have b31:=F31.binds (ps:=["_law_bag_here"]) (by walk_at "b")
 have F32:=aU (st:=eY) a32.2.1 a32.2.2.1 a32.2.2.2
 have b32:=F32.binds (ps:=["_law_d","_law_x"]) (by walk_at "b")
 have F33:=aU (st:=d8) a33.2.1 a33.2.2.1 a33.2.2.2
 have b33:=F33.binds (ps:=["_law_x"]) (by walk_at "b")
 have F34:=aU (st:=dq) a34.2.1 a34.2.2.1 a34.2.2.2
 have b34:=F34.binds (ps:=["_law_d","_law_laying_here"]) (by walk_at "b")
 have F35:=aU (st:=fu) a35.2.1 a35.2.2.1 a35.2.2.2
 have b35:=F35.binds (ps:=["_law_d","_law_x","_law_y"]) (by walk_at "b")
 have F36:=aU (st:=eo) a36.2.1 a36.2.2.1 a36.2.2.2
 have b36:=F36.binds (ps:=["_law_d","_law_x","_law_y"]) (by walk_at "b")
 have F37:=aU (st:=cu) a37.2.1 a37.2.2.1 a37.2.2.2
 have b37:=F37.binds (ps:=["_law_thing"]) (by walk_at "b")
 have F38:=aU (st:=cJ) a38.2.1 a38.2.2.1 a38.2.2.2
 have b38:=F38.binds (ps:=["_law_thing"]) (by walk_at "b")
 have F39:=aU (st:=gW) a39.2.1 a39.2.2.1 a39.2.2.2
 have b39:=F39.binds (ps:=["_law_script","_law_at"]) (by walk_at "b")
 have F40:=aU (st:=fj) a40.2.1 a40.2.2.1 a40.2.2.2
 have b40:=F40.binds (ps:=["_law_bag_here"]) (by walk_at "b")
 have F41:=aU (st:=dD) a41.2.1 a41.2.2.1 a41.2.2.2
 have b41:=F41.binds (ps:=["_law_bag_here","_law_d"]) (by walk_at "b")
 have F42:=aU (st:=cH) a42.2.1 a42.2.2.1 a42.2.2.2
 have b42:=F42.binds (ps:=["_law_bag_here"]) (by walk_at "b")
 have F43:=aU (st:=d7) a43.2.1 a43.2.2.1 a43.2.2.2
 have b43:=F43.binds (ps:=["_law_bag_here","_law_d","_law_columns","_law_rows","_law_blocks_here"]) (by walk_at "b")
 have F44:=aU (st:=eX) a44.2.1 a44.2.2.1 a44.2.2.2
 have b44:=F44.binds (ps:=["_law_sides_here"]) (by walk_at "b")
 have F45:=aU (st:=fD) a45.2.1 a45.2.2.1 a45.2.2.2
 have b45:=F45.binds (ps:=["_law_x","_law_y"]) (by walk_at "b")
 have F46:=aU (st:=eA) a46.2.1 a46.2.2.1 a46.2.2.2
 have b46:=F46.binds (ps:=["_law_bag_here","_law_d","_law_many"]) (by walk_at "b")
 have F47:=aU (st:=fg) a47.2.1 a47.2.2.1 a47.2.2.2
 have b47:=F47.binds (ps:=["_law_bag_here","_law_d","_law_way"]) (by walk_at "b")
 have F48:=aU (st:=d5) a48.2.1 a48.2.2.1 a48.2.2.2
 have b48:=F48.binds (ps:=["_law_bag_here","_law_row"]) (by walk_at "b")
 have F49:=aU (st:=fE) a49.2.1 a49.2.2.1 a49.2.2.2
 have b49:=F49.binds (ps:=["_law_x","_law_y"]) (by walk_at "b")
 have F50:=aU (st:=bT) a50.2.1 a50.2.2.1 a50.2.2.2
 have b50:=F50.binds (ps:=["_law_bag_here"]) (by walk_at "b")
 have F51:=aU (st:=dw) a51.2.1 a51.2.2.1 a51.2.2.2
 have b51:=F51.binds (ps:=["_law_bag_here","_law_columns","_law_rows"]) (by walk_at "b")
 have F52:=aU (st:=fc) a52.2.1 a52.2.2.1 a52.2.2.2
 have b52:=F52.binds (ps:=["_law_met","_law_column","_law_row","_law_columns"]) (by walk_at "b")
 have F53:=aU (st:=cm) a53.2.1 a53.2.2.1 a53.2.2.2
 have b53:=F53.binds (ps:=["_law_bag_here","_law_d","_law_most"]) (by walk_at "b")
 have F54:=aU (st:=bU) a54.2.1 a54.2.2.1 a54.2.2.2
 have b54:=F54.binds (ps:=["_law_bag_here","_law_d","_law_shapes_here"]) (by walk_at "b")
 have F55:=aU (st:=cW) a55.2.1 a55.2.2.1 a55.2.2.2
 have b55:=F55.binds (ps:=["_law_bag_here","_law_d","_law_laying_here"]) (by walk_at "b")
 have F56:=aU (st:=qw) a56.2.1 a56.2.2.1 a56.2.2.2
 have b56:=F56.binds (ps:=["_law_script"]) (by walk_at "b")
 have T:Txt K mg ⟨f0,fd "is_whole" ic t0 m0 c0,f1,fd "common_divisor" ck t1 m1 c1,f2,fd "is_number" fo t2 m2 c2,f3,fd "divisor_of_all" cp t3 m3 c3,f4,fd "number" k0 t4 m4 c4,f5,fd "plus" u7 t5 m5 c5,f6,fd "times" qd t6 m6 c6,f7,fd "over" uh t7 m7 c7,f8,fd "contrary" gQ t8 m8 c8,f9,fd "sign_of" ji t9 m9 c9,f10,fd "sign_of_parts" cL t10 m10 c10,f11,fd "is_above" g8 t11 m11 c11,f12,fd "is_above_nought" bS t12 m12 c12,f13,fd "is_tile" jg t13 m13 c13,f14,fd "has_form" hE t14 m14 c14,f15,fd "bounds_of" fe t15 m15 c15,f16,fd "place_among" dF t16 m16 c16,f17,fd "rising_marks" da t17 m17 c17,f18,fd "reaches_just" cY t18 m18 c18,f19,fd "covers_once" dE t19 m19 c19,f20,fd "is_laying" fw t20 m20 c20,f21,fd "is_kinds" hJ t21 m21 c21,f22,fd "must_be_laying" cw t22 m22 c22,f23,fd "must_be_kinds" cM t23 m23 c23,f24,fd "shapes_in" fh t24 m24 c24,f25,fd "is_by" qh t25 m25 c25,f26,fd "_law_take" fq t26 m26 c26,f27,fd "_law_contrary" cK t27 m27 c27,f28,fd "_law_low" gT t28 m28 c28,f29,fd "_law_shared" dz t29 m29 c29,f30,fd "_law_above" d6 t30 m30 c30,f31,fd "_law_number" dn t31 m31 c31,f32,fd "_law_sign" eY t32 m32 c32,f33,fd "_law_minus" d8 t33 m33 c33,f34,fd "_law_shapes" dq t34 m34 c34,f35,fd "_law_over" fu t35 m35 c35,f36,fd "_law_times" eo t36 m36 c36,f37,fd "_law_is_number" cu t37 m37 c37,f38,fd "_law_is_whole" cJ t38 m38 c38,f39,fd "_law_bag" gW t39 m39 c39,f40,fd "_law_root" fj t40 m40 c40,f41,fd "_law_laying" dD t41 m41 c41,f42,fd "_law_pinwheel" cH t42 m42 c42,f43,fd "_law_floor" d7 t43 m43 c43,f44,fd "_law_ends" eX t44 m44 c44,f45,fd "_law_plus" fD t45 m45 c45,f46,fd "_law_sides" eA t46 m46 c46,f47,fd "_law_side" fg t47 m47 c47,f48,fd "_law_mixed" d5 t48 m48 c48,f49,fd "_law_less" fE t49 m49 c49,f50,fd "_law_many_cells" bT t50 m50 c50,f51,fd "_law_blocks" dw t51 m51 c51,f52,fd "_law_room" fc t52 m52 c52,f53,fd "_law_few_tiles" cm t53 m53 c53,f54,fd "_law_some_kinds" bU t54 m54 c54,f55,fd "_law_is_told" cW t55 m55 c55,fa,fd "law" qw t56 m56 c56,q0,q1,g2⟩:=⟨F0,mg_of X G a0.1,a0.2.2.2,b0,F1,mg_of X G a1.1,a1.2.2.2,b1,F2,mg_of X G a2.1,a2.2.2.2,b2,F3,mg_of X G a3.1,a3.2.2.2,b3,F4,mg_of X G a4.1,a4.2.2.2,b4,F5,mg_of X G a5.1,a5.2.2.2,b5,F6,mg_of X G a6.1,a6.2.2.2,b6,F7,mg_of X G a7.1,a7.2.2.2,b7,F8,mg_of X G a8.1,a8.2.2.2,b8,F9,mg_of X G a9.1,a9.2.2.2,b9,F10,mg_of X G a10.1,a10.2.2.2,b10,F11,mg_of X G a11.1,a11.2.2.2,b11,F12,mg_of X G a12.1,a12.2.2.2,b12,F13,mg_of X G a13.1,a13.2.2.2,b13,F14,mg_of X G a14.1,a14.2.2.2,b14,F15,mg_of X G a15.1,a15.2.2.2,b15,F16,mg_of X G a16.1,a16.2.2.2,b16,F17,mg_of X G a17.1,a17.2.2.2,b17,F18,mg_of X G a18.1,a18.2.2.2,b18,F19,mg_of X G a19.1,a19.2.2.2,b19,F20,mg_of X G a20.1,a20.2.2.2,b20,F21,mg_of X G a21.1,a21.2.2.2,b21,F22,mg_of X G a22.1,a22.2.2.2,b22,F23,mg_of X G a23.1,a23.2.2.2,b23,F24,mg_of X G a24.1,a24.2.2.2,b24,F25,mg_of X G a25.1,a25.2.2.2,b25,F26,mg_of X G a26.1,a26.2.2.2,b26,F27,mg_of X G a27.1,a27.2.2.2,b27,F28,mg_of X G a28.1,a28.2.2.2,b28,F29,mg_of X G a29.1,a29.2.2.2,b29,F30,mg_of X G a30.1,a30.2.2.2,b30,F31,mg_of X G a31.1,a31.2.2.2,b31,F32,mg_of X G a32.1,a32.2.2.2,b32,F33,mg_of X G a33.1,a33.2.2.2,b33,F34,mg_of X G a34.1,a34.2.2.2,b34,F35,mg_of X G a35.1,a35.2.2.2,b35,F36,mg_of X G a36.1,a36.2.2.2,b36,F37,mg_of X G a37.1,a37.2.2.2,b37,F38,mg_of X G a38.1,a38.2.2.2,b38,F39,mg_of X G a39.1,a39.2.2.2,b39,F40,mg_of X G a40.1,a40.2.2.2,b40,F41,mg_of X G a41.1,a41.2.2.2,b41,F42,mg_of X G a42.1,a42.2.2.2,b42,F43,mg_of X G a43.1,a43.2.2.2,b43,F44,mg_of X G a44.1,a44.2.2.2,b44,F45,mg_of X G a45.1,a45.2.2.2,b45,F46,mg_of X G a46.1,a46.2.2.2,b46,F47,mg_of X G a47.1,a47.2.2.2,b47,F48,mg_of X G a48.1,a48.2.2.2,b48,F49,mg_of X G a49.1,a49.2.2.2,b49,F50,mg_of X G a50.1,a50.2.2.2,b50,F51,mg_of X G a51.1,a51.2.2.2,b51,F52,mg_of X G a52.1,a52.2.2.2,b52,F53,mg_of X G a53.1,a53.2.2.2,b53,F54,mg_of X G a54.1,a54.2.2.2,b54,F55,mg_of X G a55.1,a55.2.2.2,b55,F56,mg_of X G a56.1,a56.2.2.2,b56,mg_none_of X G z0,mg_none_of X G z1,mg_none_of X G z2,mg_none_of X G z3,mg_none_of X G z4,mg_none_of X G z5,mg_none_of X G z6,mg_none_of X G z7,mg_none_of X G z8,mg_none_of X G z9,mg_none_of X G z10,mg_none_of X G z11,mg_none_of X G z12,mg_of X G v0,mg_of X G v1,⟨mg_of X G v2,⟨_,_,_,_,_,_,w2⟩⟩⟩
 exact⟨_,fun s v=>.of_eq rfl,fun base _ _=>PU (e:=⟨l.prog,w,K,mg,base,_⟩) T⟩
theorem walk{l:PySem.W.OpenLaw}{q:Program}{loose:List Str}{XP:(Str->Option Value)->Heap->Prop}{YP:World->Heap->Prop}{d:DefRec}{K:Params->PySem.W.Frag}(tabs:List Addr)(hn:l.most=some 63)(hdf:d.params.defaults=[])
  (hY:∀(w:World) (h:Heap),YP w h->(K w.params).In h/\(∀p∈tabs,h.get? p=some (PySem.W.tabObj #[])/\(K w.params).lookup p=none)/\(∀p∈tabs,isCodeTable h p))
  (hA2:∀(w:World) c o p q,(K w.params).lookup c=some o->cV o=some (p,q)->p∈tabs)
  (F:∀(w:World) (mg:Str->Option Value) (fa:Addr) (h:Heap),(K w.params).In h->h.Ns mainGlobals mg->mg d.name=some (.ref fa) ->
   ∃fd:FuncData,(∀(s:Shared) (u:Value),BindsTo s fd ⟨[u],[]⟩ [("_law_script",u)])/\∀base:Heap,(K w.params).In base->base.Ns mainGlobals mg->bu l.prog w (K w.params) mg base CX0 12 fa fd ["_law_script"] (spD (K w.params) xK)) :
  PySem.W.WalkO q loose XP YP l.row.toRowW d [] (fun f vs=>PySem.call f vs):=
 L2.Lx (n:=63) (k:=12) (x:="_law_script") (CX:=fun _=>CX0) (sp:=fun w=>spD (K w.params) xK) tabs hn ⋯ hdf ⟨rfl,⋯,⋯⟩ hY hA2 F (fun w H a ns hl hT hS=>Kr hl hT hS) fun _ _ _ _ _ z=>z
end K09
open PySem PySem.W PyProof.Rows L2.DL in
set_option maxRecDepth 100000 in
set_option maxHeartbeats 0 in
theorem PySem.Challenge.cw_matefloors_k09_shapes_and_kinds_holds : PySem.Challenge.rw_matefloors_k09_shapes_and_kinds.Holds :=
 holds_law K09.H.ws fun said=>holds_open (XP:=XL K09.H.V []) (YP:=K09.H.HK.says) (d:=K09.H.D) (kwd:=[]) K09.H.left K09.H.HK.of K09.H.HK.keeps (fun s e=>xl_of s (Bool.and_eq_true_iff.mp e).1) XL.keeps ⟨⟩ ⟨⟩ ⟨⟩
  (fun s e=>recFacts_of (Bool.and_eq_true_iff.mp e).2) ⟨⟩ said ⟨⟩ ⟨⟨⟩,⟨⟩,⟨⟩,⟨⟩,⟨⟩,⟨⟩⟩ ⟨[.list []],⟨⟩,⟨⟩⟩
  (K09.walk (l:=PySem.Challenge.rw_matefloors_k09_shapes_and_kinds) (K:=K09.H.K) K09.H.tabs ⟨⟩ ⟨⟩ (fun w h Y=>by
   have Y:(K09.H.KF w.params).In h:=Y
   refine⟨Eb Y,fun p hp=>?_,fun p hp=>?_⟩
   ·rcases List.mem_cons.mp hp with rfl|hp
    ·exact⟨Y _ _ (K09.H.lJ w.params).1,(K09.H.lJ w.params).2⟩
    rcases List.mem_cons.mp hp with rfl|hp
    ·exact⟨Y _ _ (K09.H.IX w.params).1,(K09.H.IX w.params).2⟩
    exact nomatch hp
   ·rcases List.mem_cons.mp hp with rfl|hp
    ·obtain⟨o,e1,e2⟩:=JE (K09.H.tH w.params);exact Be (Eb Y) e1 e2
    rcases List.mem_cons.mp hp with rfl|hp
    ·obtain⟨o,e1,e2⟩:=JE (K09.H.Nw w.params);exact Be (Eb Y) e1 e2
    exact nomatch hp) (fun w c o p q e e2=>by
   have h:=OU (K09.H.Ri w.params) e e2
   have h2:=mem_map_of_mem (f:=fun x:Addr×Str=>x.1) h
   exact h2) fun w mg fa h KX G hmg=>by
   obtain⟨h0,h1,h2,h3,h4,h5,h6,h7,h8,h9,h10,h11,h12,h13⟩:=K09.H.PV w.params
   obtain⟨h14,h15,h16,h17,h18,h19,h20,h21,h22,h23,h24,h25,h26,h27⟩:=K09.H.Rj w.params
   obtain⟨h28,h29,h30,h31,h32,h33,h34,h35,h36,h37,h38,h39,h40,h41⟩:=K09.H.RH w.params
   obtain⟨h42,h43,h44,h45,h46,h47,h48,h49,h50,h51,h52,h53,h54,h55⟩:=K09.H.P5 w.params
   obtain⟨h56,h57,h58,h59,h60,h61,h62,h63,h64,h65,h66,h67,h68,h69⟩:=K09.H.QM w.params
   obtain⟨h70,h71,h72⟩:=K09.H.Ru w.params
   exact K09.all_mk KX G hmg h0 h1 h2 h3 h4 h5 h6 h7 h8 h9 h10 h11 h12 h13 h14 h15 h16 h17 h18 h19 h20 h21 h22 h23 h24 h25 h26 h27 h28 h29 h30 h31 h32 h33 h34 h35 h36 h37 h38 h39 h40 h41 h42 h43 h44 h45 h46 h47 h48 h49 h50 h51 h52 h53 h54 h55 h56 h57 h58 h59 h60 h61 h62 h63 h64 h65 h66 h67 h68 h69 h70 h71 h72.1 h72.2)
