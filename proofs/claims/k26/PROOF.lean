import PyProof.Rows.All
import KE.KFind
import KE.KLam
import KE.KTryMore
import KE.LcSums
import KE.KRevSl
import Lean
import PyProof.DictCompW
import PyProof.DictTable
import PyProof.IsRules
import PyProof.SetKind
import PyProof.TupleKey
import PySem.SetTable
import PyProof.EnumMake
import PyProof.WalksEnum
import PyProof.Rows.SetFrom
import PyProof.SetRoads
import PySem.Challenge.RW_matefloors_k26_tiles_of_great_plans
set_option Elab.async false
set_option linter.all false
set_option maxRecDepth 100000
set_option maxHeartbeats 4000000
set_option genSizeOf false
set_option compiler.extract_closed false
set_option bootstrap.genMatcherCode false
local macro_rules|`(‹$q›)=>`({nx:=fun _ y=>$q (.v .none) y,rt:=$q})
set_option genInjectivity false
local macro_rules | `(⋯) => `((by decide))
local macro_rules | `(∅) => `((by omega))
local macro_rules | `(nofun) => `((by decide +kernel))
local macro_rules | `(⟨⟩) => `((by kernel_rfl))
local macro_rules | `(tactic| walk_at "s") => `(tactic| exact ⟨rfl, rfl, rfl, by decide +kernel, rfl, by decide +kernel, by decide +kernel⟩)
local macro_rules | `(tactic| walk_at "b") => `(tactic| (intro _ _ _ _ _ _ us hl; first | exact (match us, hl with | [], _ => rfl) | exact (match us, hl with | [_], _ => rfl) | exact (match us, hl with | [_, _], _ => rfl) | exact (match us, hl with | [_, _, _], _ => rfl) | exact (match us, hl with | [_, _, _, _], _ => rfl) | exact (match us, hl with | [_, _, _, _, _], _ => rfl)))
open PySem.W (fnOf nsIn codeIn keepIn kitOne kia_one mg_of mg_none_of)
open List (map_append map_map mem_append_left mem_cons_self mem_cons_of_mem mem_append_right size_toArray length_take getElem?_map mem_of_getElem? length_append length_map length_set map_nil map_cons length_cons lookup_cons all_eq_true getElem?_cons_zero getElem?_eq_getElem getElem_mem take_succ length_range not_mem_nil mem_map_of_mem getElem?_cons_succ length_nil nil_append cons_append set_cons_zero set_cons_succ mem_cons take_length sum_cons take_succ_cons)
open Int (natAbs_mul le_of_lt eq_of_mul_eq_mul_right mul_ne_zero mul_nonneg lt_or_gt_of_ne mul_pos)
open Nat (lt_of_lt_of_le ne_of_lt lt_irrefl le_trans le_refl zero_le add_mul)
open Bool (false_eq_true and_eq_true true_eq_false xor_false false_xor xor_true true_xor)
open Option (bind_some map_some join_some bind_none)
open PySem (mem_of_lookup)
namespace L2
open PySem PySem.W
noncomputable def mh:Sem Fin->Bool
 |.choose ..=>false
 |.os ..=>false
 |_=>true
theorem Pt{den:Code->Sem Fin}{p:Program}{w:World}{os:OsState}{s s':Shared}{t t':Thread}(h:mh t.cur=true)(e:step den p ⟨fun _ _=>0,w.params⟩ s t = .go s' t') :
  step den p w {s with os:=os} t = .go {s' with os:=os} t':=by
 obtain⟨heap,gens,drawn,toks,os0⟩:=s
 obtain⟨cur,code,pos,stack⟩:=t
 cases cur<;>simp only[step,finish,mh] at e h ⊢<;>(try (cases h;done))<;>(repeat' split at e)<;>simp_all<;>(try (obtain⟨rfl,rfl⟩:=e;simp_all))<;>(try (obtain⟨h1,h2⟩:=e;subst h1;rfl))
noncomputable def tZ(tb:String->Option Builtin)(p:Program)(P:Params)(dl:Nat)(ann:Option Value):Nat->Shared->Thread->Option Shared
 |0,_,_=>none
 |n+1,s,t=>match through t with
  |true=>some s
  |false=>match stepOk dl ann t&&mh t.cur with
   |false=>none
   |true=>match step (denote tb) p ⟨fun _ _=>0,P⟩ s t with
    |.go s' t'=>tZ tb p P dl ann n s' t'
    |.halt _ _=>none
theorem AF{tb:String->Option Builtin}{p:Program}{w:World}{dl:Nat}{ann:Option Value}{os:OsState}:∀{n:Nat} {s s':Shared} {t:Thread},tZ tb p w.params dl ann n s t=some s'->topRun tb p w dl ann n {s with os:=os} t=some {s' with os:=os}
 |0,_,_,_,h=>by cases h
 |n+1,s,s',t,h=>by
  unfold tZ at h
  unfold topRun
  cases ht:through t with
  |true=>rw[ht] at h;cases h;rfl
  |false=>
   rw[ht] at h
   cases hk:(stepOk dl ann t&&mh t.cur) with
   |false=>rw[hk] at h;cases h
   |true=>
    rw[hk] at h
    obtain⟨k1,k2⟩:=Bool.and_eq_true_iff.mp hk
    cases hs:step (denote tb) p ⟨fun _ _=>0,w.params⟩ s t with
    |halt o dL=>rw[hs] at h;cases h
    |go dL po=>
     rw[hs] at h
     rw[k1,Pt (os:=os) k2 hs]
     exact AF h
noncomputable def yd(p:Program)(P:Params)(dl:Nat)(ann:Option Value):Nat->Shared->Thread->Option Shared
 |0,_,_=>none
 |n+1,s,t=>match through t with
  |true=>some s
  |false=>match Fast.tw6613529449190102663 dl ann t&&mh t.cur with
   |false=>none
   |true=>match Fast.tw8437177126325714943 (Fast.tw11892475500146522536 Fast.tw14364793385576792824) p ⟨fun _ _=>0,P⟩ s t with
    |.go s' t'=>yd p P dl ann n s' t'
    |.halt _ _=>none
theorem Ac{p:Program}{P:Params}{dl:Nat}{ann:Option Value}:∀(n:Nat) (s:Shared) (t:Thread),yd p P dl ann n s t=tZ treeTable p P dl ann n s t
 |0,_,_=>rfl
 |n+1,s,t=>by
  unfold yd tZ
  rw[<- Fast.te6613529449190102663,<- Fast.te8437177126325714943,<- Fast.te11892475500146522536,<- Fast.te14364793385576792824]
  cases through t with
  |true=>rfl
  |false=>
   cases (stepOk dl ann t&&mh t.cur) with
   |false=>rfl
   |true=>
    cases step (denote treeTable) p ⟨fun _ _=>0,P⟩ s t with
    |halt o dL=>rfl
    |go dL po=>exact Ac n dL po
end L2
namespace L2
open PySem
noncomputable def ju(s:Stmt):Arguments:=match s with
 |.FunctionDef _ a _ _ _ _ _ _ _ _=>a
 |_=>{posonlyargs:=[],args:=[],vararg:=none,kwonlyargs:=[],kw_defaults:=[],kwarg:=none,defaults:=[]}
noncomputable def iM(s:Stmt):List Stmt:=match s with
 |.FunctionDef _ _ b _ _ _ _ _ _ _=>b
 |_=>[]
noncomputable def ay(s:Stmt):Scope:=match s with
 |.FunctionDef _ _ _ _ _ _ sc _ _ _=>sc
 |_=>{kind:=.function,names:=[],isGenerator:=false,isCoroutine:=false}
end L2
namespace L2.DL
open PySem
noncomputable def Ld:List Str:=["law","_law_is_right","_law_is_put","_law_are_refused","_law_is_told","_law_said","_law_is_plan_told"]
noncomputable def dz(o:Obj):Option (Addr×Str):=match o.cls,o.data with
 |.type c,.fields vs=>if c = "code" then (match vs[1]?,vs[7]?,vs[9]?,vs[10]?,vs[11]?,vs[18]? with
  |some (Value.str q _),some (Value.int _ _),some (Value.bool _),some (Value.int _ _),some (Value.ref P),some (Value.str _ _)=>if Ld.contains q=true then some (P,q) else none
  |_,_,_,_,_,_=>none) else none
 |_,_=>none
end L2.DL
namespace K26
open PySem L2
noncomputable def top(i:Nat):Stmt:=PySem.Challenge.pw_matefloors_k26_tiles_of_great_plans.main.body.getD i (.Pass ⟨0,0,0,0⟩)
noncomputable abbrev j7:Stmt:=top 9
noncomputable abbrev dJ:Stmt:=top 10
noncomputable abbrev gH:Stmt:=top 11
noncomputable abbrev i6:Stmt:=top 12
noncomputable abbrev dF:Stmt:=top 13
noncomputable abbrev ql:Stmt:=top 14
noncomputable abbrev zw:Stmt:=top 15
noncomputable abbrev Aq:Stmt:=top 16
noncomputable abbrev ub:Stmt:=top 17
noncomputable abbrev Ai:Stmt:=top 18
noncomputable abbrev kj:Stmt:=top 19
noncomputable abbrev l9:Stmt:=top 20
noncomputable abbrev eG:Stmt:=top 21
noncomputable abbrev j5:Stmt:=top 22
noncomputable abbrev dk:Stmt:=top 23
noncomputable abbrev eJ:Stmt:=top 24
noncomputable abbrev i5:Stmt:=top 27
noncomputable abbrev kg:Stmt:=top 28
noncomputable abbrev eC:Stmt:=top 29
noncomputable abbrev lL:Stmt:=top 35
noncomputable abbrev jL:Stmt:=top 36
noncomputable abbrev jZ:Stmt:=top 37
noncomputable abbrev jS:Stmt:=top 38
noncomputable abbrev fe:Stmt:=top 39
noncomputable abbrev lU:Stmt:=top 40
noncomputable abbrev pb:Stmt:=top 41
noncomputable abbrev mJ:Stmt:=top 43
noncomputable abbrev fg:Stmt:=top 44
noncomputable abbrev iW:Stmt:=top 45
noncomputable abbrev iO:Stmt:=top 46
noncomputable abbrev mB:Stmt:=top 47
noncomputable abbrev fN:Stmt:=top 48
noncomputable abbrev lS:Stmt:=top 49
noncomputable abbrev fq:Stmt:=top 50
noncomputable abbrev mQ:Stmt:=top 51
noncomputable abbrev gv:Stmt:=top 52
noncomputable abbrev kh:Stmt:=top 53
noncomputable abbrev ki:Stmt:=top 55
noncomputable abbrev iT:Stmt:=top 56
noncomputable abbrev ey:Stmt:=top 57
noncomputable abbrev fK:Stmt:=top 58
noncomputable abbrev j4:Stmt:=top 59
noncomputable abbrev dI:Stmt:=top 60
noncomputable abbrev iQ:Stmt:=top 61
noncomputable abbrev gQ:Stmt:=top 62
noncomputable abbrev gC:Stmt:=top 63
noncomputable abbrev eD:Stmt:=top 64
noncomputable abbrev i7:Stmt:=top 65
noncomputable abbrev gG:Stmt:=top 66
noncomputable abbrev iS:Stmt:=top 67
noncomputable abbrev fJ:Stmt:=top 68
noncomputable abbrev gR:Stmt:=top 69
noncomputable abbrev gr:Stmt:=top 70
noncomputable abbrev dD:Stmt:=top 71
noncomputable abbrev iV:Stmt:=top 72
noncomputable abbrev jH:Stmt:=top 73
noncomputable abbrev gP:Stmt:=top 74
noncomputable abbrev eo:Stmt:=top 75
noncomputable abbrev dG:Stmt:=top 76
noncomputable abbrev gB:Stmt:=top 77
noncomputable abbrev fu:Stmt:=top 78
noncomputable abbrev cY:Stmt:=top 79
noncomputable abbrev dm:Stmt:=top 80
noncomputable abbrev ff:Stmt:=top 81
noncomputable abbrev ej:Stmt:=top 82
noncomputable abbrev ua:Stmt:=top 83
noncomputable abbrev fd(n:Str)(s:Stmt)(tk:Tok)(m:Str)(cd:Addr):FuncData:=fnOf n n (ju s) (iM s) (ay s) .none .none .none (.str m tk) none (.ref cd) .none
noncomputable abbrev FQ(K:PySem.W.Frag)(n:Str)(s:Stmt)(a cd:Addr)(tk:Tok)(m:Str):Prop:=nsIn K mainGlobals n=some (some (.ref a))/\K.lookup a=some ⟨.type "function",none,.func (fd n s tk m cd),#[]⟩/\codeIn K (.ref cd) n=true/\keepIn K (.ref a)=true
end K26
namespace K26.H
open PySem PySem.W PyProof.Rows L2 L2.DL
set_option maxHeartbeats 0
noncomputable abbrev R:OpenLaw:=PySem.Challenge.rw_matefloors_k26_tiles_of_great_plans
noncomputable abbrev LO:List Str:=["has_form","has_form_layings","has_form_plans"]
noncomputable def sT(P:Params):Option Shared:=yd R.row.prog P 11 (some (.ref 6)) 20000 {heap:=boot_heap P,gens:=#[],drawn:=boot_drawn,toks:=boot_toks,os:=default} (topStub R.row.prog)
noncomputable def defName:Stmt->Str
 |.FunctionDef n _ _ _ _ _ _ _ _ _=>n
 |_=>Str.empty
noncomputable def HG:Stmt->Int
 |.FunctionDef _ _ _ _ _ _ _ _ _ p=>Int.ofNat p.line
 |_=>0
noncomputable def cn(o:Obj)(r:List Obj):List Obj:=o::r
noncomputable def g(P:Params)(x:Str)(t:Nat)(v:Value):DictEntry:=⟨PyData.keyHash P x,.str x t,v⟩
noncomputable def gf(P:Params)(i t a:Nat):DictEntry:=g P (defName (top i)) t (.ref a)
noncomputable def tb:List (Int×Nat)->List Value
 |[]=>[]
 |(a,b)::l=>.int a 0::.int 0 0::.ref b::tb l
noncomputable def tu(l:List Value):Obj:=⟨.type "tuple",none,.seq l.toArray 0,#[]⟩
noncomputable def nf:Obj:=⟨.none,none,.fields #[],#[]⟩
noncomputable def dp(s:Stmt):List Str:=(ju s).args.map (·.arg)
noncomputable def fd(s:Stmt)(a:Addr)(p c:Value):Data:=.func {name:=defName s,qualname:=defName s,params:=ju s,body:=.stmts (iM s),scope:=ay s,globals:=a,closure:=[],defaults:=.none,kwdefaults:=.none,pyModule:=p,code:=c}
noncomputable def co(s:Stmt)(a t u:Nat)(x y:Value)(d:Nat):Obj:=⟨.type "code",none,.fields #[.str (defName s) t,.str (defName s) (t+1),.str "/claim/cut.py" (t+2),.int (HG s) 0,.int (Int.ofNat (dp s).length) 0,.int 0 0,.int 0 0,.int 3 0,.ref a,.bool true,.int 181 0,.ref (a+1),.none,x,y,.ref (a+d),.int (Int.ofNat u) 0,.int (HG s) 0,.str "/claim/cut.py" (u+1)],#[]⟩
noncomputable def nv:Nat->List Str->List Value
 |_,[]=>[]
 |t,x::l=>.str x t::nv (t+1) l
noncomputable def fB(i a t:Nat)(l:List Str)(p:Value)(r:List Obj):List Obj:=tu []::nf::tu (nv (t+3) (dp (top i)++l))::tu []::⟨.none,none,fd (top i) 0 .none .none,#[]⟩::co (top i) a t (t+3+(dp (top i)++l).length) (.ref (a+2)) (.ref (a+3)) 4::⟨.type "function",none,fd (top i) 3 p (.ref (a+5)),#[]⟩::r
noncomputable def fL(i a t:Nat)(p:Value)(r:List Obj):List Obj:=tu []::nf::⟨.none,none,fd (top i) 0 .none .none,#[]⟩::co (top i) a t (t+3) .none .none 2::⟨.type "function",none,fd (top i) 3 p (.ref (a+3)),#[]⟩::r
noncomputable def me:Value:=.str "matefloors.errors" 187
noncomputable def cB(P:Params)(x:Str)(i t:Nat)(n:Int)(r:List Obj):List Obj:=tu [.ref 24]::⟨.type "builtin_function_or_method",none,.fields #[.builtin "type.__prepare__",.type "type"],#[]⟩::⟨.type "dict",none,.dict #[g P "__module__" (t+5) me,g P "__qualname__" (t+7) (.str x (t+6)),g P "__firstlineno__" (t+9) (.int n (t+8)),g P "__static_attributes__" (t+10) (.ref (i+7))] 4,#[]⟩::tu []::nf::⟨.type "code",none,.fields #[.str x t,.str x (t+1),.str "/claim/cut.py" (t+2),.int n 0,.int 0 0,.int 0 0,.int 0 0,.int 0 0,.ref (i+3),.bool false,.int 181 0,.ref (i+4),.none,.none,.none,.none,.int (Int.ofNat (t+3)) 0,.int n 0,.str "/claim/cut.py" (t+4)],#[]⟩::⟨.type "frame",none,.plain,#[some (.ref (i+5)),some (.ref 3),some (.ref (i+2)),none,some me,none,some (.ref 0)]⟩::tu []::⟨.type "dict",none,.dict #[g P "__module__" (t+5) me,g P "__firstlineno__" (t+9) (.int n (t+8)),g P "__static_attributes__" (t+10) (.ref (i+7)),g P "__doc__" (t+11) .none] 2,#[]⟩::⟨.type "type",none,.cls ⟨x,[.ref 24],[.ref (i+9),.ref 24,.type "ValueError",.type "Exception",.type "BaseException",.type "object"],i+8,x,true,[],[],false,none,false⟩,#[some (.ref i),none,some (.str x (t-2)),some (.str x (t+6)),some (.builtin "ValueError.__new__"),some (.bool true)]⟩::⟨.type "super",none,.fields #[.ref (i+9),.ref (i+9),.ref (i+9)],#[]⟩::⟨.type "builtin_function_or_method",none,.fields #[.builtin "object.__init_subclass__",.ref (i+9)],#[]⟩::r
noncomputable def m0:Value:=.str "matefloors.numbers" 271
noncomputable def m1:Value:=.str "matefloors.layings" 425
noncomputable def m2:Value:=.str "matefloors.plans" 454
noncomputable def m3:Value:=.str "matefloors.spots" 524
noncomputable def m4:Value:=.str "law_matefloors_k26_tiles_of_great_plans" 654
noncomputable def ho0(P:Params)(r:List Obj):List Obj:=cn (boot_o_0 P) <| cn (boot_o_1 P) <| cn (boot_o_2 P) <| cn (⟨.type "dict",none,.dict #[g P "__name__" 165 (.str "law_matefloors_k26_tiles_of_great_plans" 654),g P "__doc__" 166 .none,g P "__package__" 167 .none,g P "__loader__" 168 (.builtin "__main__.__loader__#opaque"),g P "__spec__" 169 .none,g P "__annotations__" 170 (.ref 6),g P "__builtins__" 171 (.ref 4),g P "__file__" 173 (.str "/claim/cut.py" 172),g P "__cached__" 174 .none,g P "FloorError" 206 (.ref 24),g P "NoNumber" 222 (.ref 37),g P "NoKinds" 238 (.ref 49),g P "NoPlan" 254 (.ref 61),g P "NoSpot" 270 (.ref 73),g P "NOUGHT" 276 (.ref 76),g P "ONE" 280 (.ref 77),gf P 9 287 84,gf P 10 295 91,gf P 11 303 98,gf P 12 313 105,gf P 13 322 112,gf P 14 332 119,gf P 15 340 126,gf P 16 348 133,gf P 17 357 140,gf P 18 366 147,gf P 19 375 154,gf P 20 383 161,gf P 21 393 168,gf P 22 404 175,gf P 23 412 182,gf P 24 424 189,g P "MOST_KINDS" 428 (.int 3 427),gf P 27 439 196,gf P 28 445 201,gf P 29 453 208,g P "MOST_WITHIN" 457 (.int 12 456),g P "MOST_PLANS" 459 (.int 60 458),g P "LEAST_PARTS" 461 (.int 2 460),g P "MOST_PARTS" 463 (.int 8 462),gf P 35 476 215,gf P 36 485 222,gf P 37 492 229,gf P 38 500 236,gf P 39 508 243,gf P 40 514 248,gf P 41 523 255,gf P 43 539 262,gf P 44 549 269,gf P 45 563 276,gf P 46 570 283,gf P 47 576 288,gf P 48 582 293,gf P 49 593 300,gf P 50 611 307,gf P 51 627 314,gf P 52 639 321,gf P 53 653 328,gf P 55 667 335,gf P 56 676 342,gf P 57 683 349,gf P 58 691 356,gf P 59 701 363,gf P 60 707 368,gf P 61 715 375,gf P 62 722 382,gf P 63 731 389,gf P 64 739 396,gf P 65 750 403,gf P 66 759 410,gf P 67 765 415,gf P 68 777 422,gf P 69 787 429,gf P 70 800 436,gf P 71 807 443,gf P 72 813 448,gf P 73 822 455,gf P 74 828 460,gf P 75 834 465,gf P 76 842 472,gf P 77 852 479,gf P 78 862 486,gf P 79 875 493,gf P 80 885 500,gf P 81 891 505,gf P 82 911 512,gf P 83 924 519] 87,#[]⟩) <| cn (boot_o_4 P) <| cn (boot_o_5 P) <| cn (boot_o_6 P) <| cn (boot_o_7 P) <| cn (boot_o_8 P) <| cn (boot_o_9 P) <| cn (boot_o_10 P) <| cn (⟨(.type "tuple"),none,(.seq #[] 0),#[]⟩) <| cn (⟨.none,none,.fields (tb [(2,20),(4,33),(6,45),(8,57),(10,69),(15,83),(17,90),(21,97),(26,104),(33,111),(35,118),(42,125),(44,132),(46,139),(48,146),(52,153),(55,160),(57,167),(66,174),(70,181),(72,188),(80,195),(83,200),(87,207),(95,214),(106,221),(119,228),(121,235),(128,242),(131,247),(143,254),(149,261),(166,268),(169,275),(174,282),(176,287),(180,292),(188,299),(191,306),(203,313),(208,320),(213,327),(218,334),(228,341),(235,348),(237,355),(242,362),(245,367),(249,374),(251,381),(253,388),(255,395),(257,402),(263,409),(265,414),(270,421),(276,428),(282,435),(294,442),(296,447),(321,454),(326,459),(337,464),(354,471),(356,478),(360,485),(363,492),(371,499),(377,504),(389,511),(408,518)]).toArray,#[]⟩) <| cn (⟨(.type "code"),none,(.fields #[(.str "<module>" 182),(.str "<module>" 183),(.str "/claim/cut.py" 184),(.int 1 0),(.int 0 0),(.int 0 0),(.int 0 0),(.int 0 0),(.ref 11),(.bool false),(.int 181 0),(.ref 12),.none,.none,.none,.none,(.int 185 0),(.int 1 0),(.str "/claim/cut.py" 186)]),#[]⟩) <| cn (⟨(.type "frame"),none,.plain,#[some (.ref 13),some (.ref 3),some (.ref 3),none,some (.str "__main__" 164),none,some (.ref 0)]⟩) <| cn (⟨(.type "tuple"),none,(.seq #[(.type "ValueError")] 0),#[]⟩) <| cn (⟨(.type "builtin_function_or_method"),none,(.fields #[(.builtin "type.__prepare__"),(.type "type")]),#[]⟩) <| cn (⟨(.type "dict"),none,(.dict #[⟨PyData.keyHash P "__module__",(.str "__module__" 196),(.str "matefloors.errors" 187)⟩,⟨PyData.keyHash P "__qualname__",(.str "__qualname__" 198),(.str "FloorError" 197)⟩,⟨PyData.keyHash P "__firstlineno__",(.str "__firstlineno__" 200),(.int 2 199)⟩,⟨PyData.keyHash P "__static_attributes__",(.str "__static_attributes__" 201),(.ref 22)⟩] 4),#[]⟩) <| cn (⟨(.type "tuple"),none,(.seq #[] 0),#[]⟩) <| cn (⟨.none,none,(.fields #[]),#[]⟩) <| r
noncomputable def ho1(P:Params)(r:List Obj):List Obj:=cn (⟨(.type "code"),none,(.fields #[(.str "FloorError" 191),(.str "FloorError" 192),(.str "/claim/cut.py" 193),(.int 2 0),(.int 0 0),(.int 0 0),(.int 0 0),(.int 0 0),(.ref 18),(.bool false),(.int 181 0),(.ref 19),.none,.none,.none,.none,(.int 194 0),(.int 2 0),(.str "/claim/cut.py" 195)]),#[]⟩) <| cn (⟨(.type "frame"),none,.plain,#[some (.ref 20),some (.ref 3),some (.ref 17),none,some (.str "matefloors.errors" 187),none,some (.ref 0)]⟩) <| cn (⟨(.type "tuple"),none,(.seq #[] 0),#[]⟩) <| cn (⟨(.type "dict"),none,(.dict #[⟨PyData.keyHash P "__module__",(.str "__module__" 196),(.str "matefloors.errors" 187)⟩,⟨PyData.keyHash P "__firstlineno__",(.str "__firstlineno__" 200),(.int 2 199)⟩,⟨PyData.keyHash P "__static_attributes__",(.str "__static_attributes__" 201),(.ref 22)⟩,⟨PyData.keyHash P "__weakref__",(.str "__weakref__" 203),(.ref 25)⟩,⟨PyData.keyHash P "__doc__",(.str "__doc__" 204),.none⟩] 3),#[]⟩) <| cn (⟨(.type "type"),none,(.cls ⟨"FloorError",[(.type "ValueError")],[(.ref 24),(.type "ValueError"),(.type "Exception"),(.type "BaseException"),(.type "object")],23,"FloorError",true,[],[(.ref 37),(.ref 49),(.ref 61),(.ref 73)],false,none,false⟩),#[some (.ref 15),none,some (.str "FloorError" 189),some (.str "FloorError" 197),some (.builtin "ValueError.__new__"),some (.bool true)]⟩) <| cn (⟨(.type "getset_descriptor"),none,(.fields #[(.str "__weakref__" 202),(.ref 24),(.builtin "ExceptionGroup.__weakref__"),.none]),#[]⟩) <| cn (⟨(.type "super"),none,(.fields #[(.ref 24),(.ref 24),(.ref 24)]),#[]⟩) <| cn (⟨(.type "builtin_function_or_method"),none,(.fields #[(.builtin "object.__init_subclass__"),(.ref 24)]),#[]⟩) <| cB P "NoNumber" 28 209 4 <| cB P "NoKinds" 40 225 6 <| cB P "NoPlan" 52 241 8 <| cB P "NoSpot" 64 257 10 <| cn (⟨(.type "tuple"),none,(.seq #[(.int 0 273),(.int 0 274),(.int 1 275)] 0),#[]⟩) <| cn (⟨(.type "tuple"),none,(.seq #[(.int 1 277),(.int 0 278),(.int 1 279)] 0),#[]⟩) <| fB 9 78 281 [] m0 <| fB 10 85 288 [] m0 <| fB 11 92 296 ["guess"] m0 <| fB 12 99 304 ["a","b","c"] m0 <| fB 13 106 314 [] m0 <| fB 14 113 323 ["divisor"] m0 <| r
noncomputable def ho2(P:Params)(r:List Obj):List Obj:=fB 15 120 333 [] m0 <| fB 16 127 341 [] m0 <| fB 17 134 349 [] m0 <| fB 18 141 358 [] m0 <| fB 19 148 367 ["norm"] m0 <| fB 20 155 376 [] m0 <| fB 21 162 384 ["prevailing"] m0 <| fB 22 169 394 ["a","b"] m0 <| fB 23 176 405 [] m0 <| fB 24 183 413 ["a","b","c","beneath"] m0 <| fB 27 190 429 ["x","y","width","height"] m1 <| fL 28 197 440 m1 <| fB 29 202 446 [] m1 <| fB 35 209 464 ["waiting","counted","plan","depth","part"] m2 <| fB 36 216 477 ["word"] m2 <| fB 37 223 486 [] m2 <| fB 38 230 493 ["word"] m2 <| fB 39 237 501 [] m2 <| fL 40 244 509 m2 <| fB 41 249 515 ["total","shape"] m2 <| r
noncomputable def ho3(P:Params)(r:List Obj):List Obj:=fB 43 256 526 ["shape","box","quarters"] m3 <| fB 44 263 540 [] m3 <| fB 45 270 550 ["left","right","bottom","top"] m3 <| fB 46 277 564 [] m3 <| fL 47 284 571 m3 <| fL 48 289 577 m3 <| fB 49 294 583 ["x","y","width","height"] m3 <| fB 50 301 594 ["x","y","width","height","boxes","start","size","high"] m3 <| fB 51 308 612 ["width","height","column","row"] m3 <| fB 52 315 628 ["columns","rows"] m3 <| fB 53 322 640 ["right","up"] m3 <| fB 55 329 656 ["_law_cell","_law_great","_law_primes","_law_mixed"] m4 <| fB 56 336 668 ["_law_digit"] m4 <| fB 57 343 677 [] m4 <| fB 58 350 684 [] m4 <| fB 59 357 692 ["_law_common"] m4 <| fL 60 364 702 m4 <| fB 61 369 708 [] m4 <| fB 62 376 716 [] m4 <| fB 63 383 723 [] m4 <| r
noncomputable def ho4(P:Params)(r:List Obj):List Obj:=fB 64 390 732 [] m4 <| fB 65 397 740 ["_law_first","_law_second","_law_sides"] m4 <| fB 66 404 751 [] m4 <| fL 67 411 760 m4 <| fB 68 416 766 ["_law_wide","_law_a","_law_b","_law_c","_law_way"] m4 <| fB 69 423 778 ["_law_x","_law_sign_here"] m4 <| fB 70 430 788 ["_law_found","_law_turn","_law_way","_law_part","_law_kind"] m4 <| fB 71 437 801 [] m4 <| fL 72 444 808 m4 <| fB 73 449 814 ["_law_found","_law_one"] m4 <| fL 74 456 823 m4 <| fL 75 461 829 m4 <| fB 76 466 835 [] m4 <| fB 77 473 843 [] m4 <| fB 78 480 853 ["_law_wide"] m4 <| fB 79 487 863 ["_law_found","_law_kind","_law_x"] m4 <| fB 80 494 876 ["_law_plan_here","_law_grid"] m4 <| fL 81 501 886 m4 <| fB 82 506 892 ["_law_shape_here","_law_x","_law_y","_law_tile","_law_inner","_law_spot","_law_right","_law_top","_law_beside","_law_upon"] m4 <| fB 83 513 912 ["_law_k","_law_bag_here","_law_d","_law_kinds_here","_law_plan_here","_law_turn"] m4 <| r
noncomputable def hT(P:Params):Heap:=⟨⟨ho0 P <| ho1 P <| ho2 P <| ho3 P <| ho4 P []⟩,(boot_heap P).life⟩
noncomputable abbrev mz0:Str:="matefloors.numbers"
noncomputable abbrev mz1:Str:="matefloors.layings"
noncomputable abbrev mz2:Str:="matefloors.plans"
noncomputable abbrev mz3:Str:="matefloors.spots"
noncomputable abbrev mz4:Str:="law_matefloors_k26_tiles_of_great_plans"
noncomputable def isNm:Stmt->Bool
 |.Assign [.Name x _] _ _=>x == "__name__"
 |_=>false
noncomputable def V:Program:={R.row.prog with main:={R.row.prog.main with body:=R.row.prog.main.body.filter fun s=>!isNm s}}
noncomputable def as:List Addr:=[3,84,83,91,90,98,97,105,104,112,111,119,118,126,125,133,132,140,139,147,146,154,153,161,160,168,167,175,174,182,181,189,188,196,195,201,200,208,207,215,214,222,221,229,228,236,235,243,242,248,247,255,254,262,261,269,268,276,275,283,282,288,287,293,292,300,299,307,306,314,313,321,320,328,327,335,334,342,341,349,348,356,355,363,362,368,367,375,374,382,381,389,388,396,395,403,402,410,409,415,414,422,421,429,428,436,435,443,442,448,447,455,454,460,459,465,464,472,471,479,478,486,485,493,492,500,499,505,504,512,511,519,518,76,77]
noncomputable def tabs:List Addr:=[507,514]
noncomputable def K(P:Params):Frag:=as.map fun a=>(a,((hT P).get? a).getD default)
noncomputable def TF(P:Params):Frag:=tabs.map fun a=>(a,((hT P).get? a).getD default)
noncomputable def KF(P:Params):Frag:=K P++TF P
theorem kAs(P:Params):as++tabs=(KF P).map (·.1):=by
 unfold KF K TF
 rw[map_append,map_map,map_map]
 exact congr (congrArg HAppend.hAppend (List.map_id _).symm) (List.map_id _).symm
noncomputable def HK:Hook:=kHook KF (as++tabs) kAs
noncomputable def posOf:Stmt->Pos
 |.FunctionDef _ _ _ _ _ _ _ _ _ p=>p
 |_=>⟨0,0,0,0⟩
noncomputable def D:DefRec:=⟨"law",ju K26.ua,iM K26.ua,ay K26.ua,posOf K26.ua⟩
noncomputable def Xt:Shared->Bool:=fun s=>xlAt V [] s&&recOk R.row.records s
theorem runC(P:Params):(sT P).map (fun s=>(s.heap,s.gens,s.drawn,s.toks))=some (hT P,#[],{},925):=⟨⟩
theorem Sn{A B C D:Type}{a a':A}{b b':B}{c c':C}{d d':D}(h:(a,b,c,d)=(a',b',c',d')):a=a'/\b=b'/\c=c'/\d=d':=by
 cases h;exact⟨rfl,rfl,rfl,rfl⟩
theorem run(w:World)(os:OsState):topRun treeTable R.row.prog w 11 (some (.ref 6)) 20000 {heap:=boot_heap w.params,gens:=#[],drawn:=boot_drawn,toks:=boot_toks,os:=os} (topStub R.row.prog)=some {heap:=hT w.params,gens:=#[],drawn:={},toks:=925,os:=os}:=by
 have h:=runC w.params
 cases e:sT w.params with
 |none=>rw[e] at h;cases h
 |some s=>
  rw[e] at h
  obtain⟨heap,gens,drawn,toks,os0⟩:=s
  have h':some (heap,gens,drawn,toks)=some (hT w.params,(#[]:Array GenState),({}:Drawn),925):=h
  obtain⟨rfl,rfl,rfl,rfl⟩:=Sn (Option.some.inj h')
  exact AF (w:=w) (os:=os) ((Ac _ _ _).symm.trans e)
theorem RV(w:World)(os:OsState):(staticsOk (importedModules R.row.prog.main.body) (boot_heap w.params) (hT w.params)&&namesBound R.row.prog (hT w.params)&&gensDone {heap:=hT w.params,gens:=#[],drawn:={},toks:=925,os:=os}&&laidKept (boot_heap w.params) (hT w.params))=true:=⟨⟩
theorem PB(w:World)(os:OsState):seen (List.map (fun x=>x.name) (recsOf V)) (ownsOf V) [] {heap:=hT w.params,drawn:={},toks:=925,os:=os} = expectedOf V:=⟨⟩
theorem O2(w:World)(os:OsState):(hT w.params).bltView=bltViewBooted:=⟨⟩
theorem Qo(w:World)(os:OsState):((hT w.params).keysOk (looseW V LO) (List.map (fun x=>x.name) (recsOf V)) (List.map (fun x=>x.fst) (litsOf V)) (List.map (fun x=>x.name) (clssOf V (looseW V LO)))&&(hT w.params).accountedOkI (importedModules R.row.prog.main.body)&&(hT w.params).isNs mainGlobals&&(hT w.params).isNs builtinsNs&&tablesOk V (hT w.params)&&Xt {heap:=hT w.params,gens:=#[],drawn:={},toks:=925,os:=os}&&(if true=true then (#[]:Array GenState).size==0 else !leftWithCleanup (#[]:Array GenState)))=true:=⟨⟩
theorem P6(w:World)(os:OsState):tabsOk V {heap:=hT w.params,gens:=#[],drawn:={},toks:=925,os:=os} = true:=⟨⟩
theorem OZ(w:World)(os:OsState):pinSeenD V (drecsOf V) {heap:=hT w.params,gens:=#[],drawn:={},toks:=925,os:=os} = pinGoodD (drecsOf V):=⟨⟩
theorem OM(w:World)(os:OsState):plainSeenE V (looseW V LO) {heap:=hT w.params,gens:=#[],drawn:={},toks:=925,os:=os} = plainGoodE V (looseW V LO):=⟨⟩
theorem PJ(w:World)(os:OsState):plainSeenD V LO {heap:=hT w.params,gens:=#[],drawn:={},toks:=925,os:=os} = plainGoodD V LO:=⟨⟩
theorem Ox(w:World)(os:OsState):wideSeen V {heap:=hT w.params,gens:=#[],drawn:={},toks:=925,os:=os} = wideGood V:=⟨⟩
theorem Oo(w:World)(os:OsState):clsSeenW V LO {heap:=hT w.params,gens:=#[],drawn:={},toks:=925,os:=os} = clsGoodW V LO:=⟨⟩
theorem Q6{A B C D E F G H I:Type}{a a':A}{b b':B}{c c':C}{d d':D}{e e':E}{f f':F}{g g':G}{h h':H}{i i':I}(h0:a=a')(h1:b=b')(h2:c=c')(h3:d=d')(h4:e=e')(h5:f=f')(h6:g=g')(h7:h=h')(h8:i=i'):(a,b,c,d,e,f,g,h,i)=(a',b',c',d',e',f',g',h',i'):=by
 rw[h0,h1,h2,h3,h4,h5,h6,h7,h8]
theorem QJ(w:World)(os:OsState):openSeen V LO (importedModules R.row.prog.main.body) Xt true {heap:=hT w.params,gens:=#[],drawn:={},toks:=925,os:=os} = openGood V LO:=Q6 (PB w os) (O2 w os) (Qo w os) (P6 w os) (OZ w os) (OM w os) (PJ w os) (Ox w os) (Oo w os)
theorem R5(w:World)(os:OsState):HK.obs {heap:=hT w.params,gens:=#[],drawn:={},toks:=925,os:=os} = HK.val w:=⟨⟩
theorem seen(w:World):(fun os=>(staticsOk (importedModules R.row.prog.main.body) (boot_heap w.params) (hT w.params)&&namesBound R.row.prog (hT w.params)&&gensDone {heap:=hT w.params,gens:=#[],drawn:={},toks:=925,os:=os}&&laidKept (boot_heap w.params) (hT w.params),
  openSeen V LO (importedModules R.row.prog.main.body) Xt true {heap:=hT w.params,gens:=#[],drawn:={},toks:=925,os:=os},HK.obs {heap:=hT w.params,gens:=#[],drawn:={},toks:=925,os:=os}))=fun _:OsState=>(true,openGood V LO,HK.val w):=
 funext fun os=>Prod.ext (RV w os) (Prod.ext (QJ w os) (R5 w os))
theorem lkb{a b:Bool}(x:a=true)(y:b=true):(a&&b)=true:=by rw[x,y];rfl
theorem wsA:(sreFenced R.row.prog.main&&((moduleNames R.row.prog.main.body).isEmpty || lookedIntoSs (moduleNames R.row.prog.main.body) R.row.prog.main.body))=true:=⟨⟩
theorem wsB:namesResolve R.row.prog=true:=⟨⟩
theorem wsC:R.row.prog.boundNames.all (fun n=>!worldNames.contains n)=true:=⟨⟩
theorem wsD:noRoadLSs {strict:=!(importedModules R.row.prog.main.body).all cThrough.contains,foot:=none,bare:=(["vars","dir","locals"]:List Str).filter (readsOut R.row.prog R.row.prog.main.body)} R.row.prog.main.body=true:=⟨⟩
theorem wsE:(namesMeet R.row.prog R.row.prog.main.body fun _ n=>attrL n)=true:=⟨⟩
theorem wsF:looksOpen R.row.prog=true:=lkb (lkb (lkb (lkb wsA wsB) wsC) wsD) wsE
theorem wsG:R.row.wellSaid=true:=by
 unfold OpenRow.wellSaid OpenRow.partSaid
 rw[wsF]
 kernel_rfl
theorem wsH:noClassBlock R.prog R.footing=true:=⟨⟩
theorem wsI:noRoadLSs {strict:=true,foot:=some R.bound',writes:=R.writes,may:=R.may} R.footing=true:=⟨⟩
theorem wsJ:R.namesIt=true:=⟨⟩
theorem wsK:R.bound'.all (fun n=>!builtinNamed n || R.about==[n] || !R.reads n)=true:=⟨⟩
theorem wsL:namesMeet R.prog R.footing (fun sc n=>(!(["type","isinstance","issubclass","getattr","hasattr"]:List Str).contains n || sc.names.lookup n==some .globalImplicit)&&(R.may != some n || sc.kind==.module || sc.names.lookup n==some .globalImplicit))=true:=⟨⟩
theorem wsM:namesMeet R.prog R.above (fun _ n=>!R.own.contains n)=true:=⟨⟩
theorem wsN:(namesMeet R.prog R.footing fun sc n=>sc.kind==.module || sc.names.lookup n != some .globalExplicit)=true:=⟨⟩
theorem ws:R.wellSaid=true:=by
 unfold OpenLaw.wellSaid
 rw[wsG,wsH,wsI,wsJ,wsK,wsL,wsM,wsN]
 kernel_rfl
theorem Qr(P:Params):FQ (K P) "is_whole" j7 84 83 271 mz0/\FQ (K P) "common_divisor" dJ 91 90 271 mz0/\FQ (K P) "whole_root" gH 98 97 271 mz0/\FQ (K P) "is_number" i6 105 104 271 mz0/\FQ (K P) "divisor_of_all" dF 112 111 271 mz0/\FQ (K P) "number" ql 119 118 271 mz0/\FQ (K P) "plus" zw 126 125 271 mz0/\FQ (K P) "less" Aq 133 132 271 mz0/\FQ (K P) "times" ub 140 139 271 mz0/\FQ (K P) "over" Ai 147 146 271 mz0/\FQ (K P) "contrary" kj 154 153 271 mz0/\FQ (K P) "sign_of" l9 161 160 271 mz0/\FQ (K P) "sign_of_parts" eG 168 167 271 mz0/\FQ (K P) "is_above" j5 175 174 271 mz0:=
 by (repeat' apply And.intro)<;>first|kernel_rfl|decide
theorem Pu(P:Params):FQ (K P) "is_above_nought" dk 182 181 271 mz0/\FQ (K P) "whole_beneath" eJ 189 188 271 mz0/\FQ (K P) "bounds_of" i5 196 195 425 mz1/\FQ (K P) "is_kinds" kg 201 200 425 mz1/\FQ (K P) "must_be_kinds" eC 208 207 425 mz1/\FQ (K P) "is_plan" lL 215 214 454 mz2/\FQ (K P) "has_form" jL 222 221 454 mz2/\FQ (K P) "is_count" jZ 229 228 454 mz2/\FQ (K P) "parts_of" jS 236 235 454 mz2/\FQ (K P) "must_be_plan" fe 243 242 454 mz2/\FQ (K P) "made_of" lU 248 247 454 mz2/\FQ (K P) "sum_of" pb 255 254 454 mz2/\FQ (K P) "tile_at" mJ 262 261 524 mz3/\FQ (K P) "must_be_spot" fg 269 268 524 mz3:=
 by (repeat' apply And.intro)<;>first|kernel_rfl|decide
theorem OR(P:Params):FQ (K P) "begins_at" iW 276 275 524 mz3/\FQ (K P) "once_more" iO 283 282 524 mz3/\FQ (K P) "part_at" mB 288 287 524 mz3/\FQ (K P) "strip_boxes" fN 293 292 524 mz3/\FQ (K P) "swapped" lS 300 299 524 mz3/\FQ (K P) "rising_boxes" fq 307 306 524 mz3/\FQ (K P) "cell_at" mQ 314 313 524 mz3/\FQ (K P) "cell_sides" gv 321 320 524 mz3/\FQ (K P) "cell_box" kh 328 327 524 mz3/\FQ (K P) "_law_bag" ki 335 334 654 mz4/\FQ (K P) "_law_take" iT 342 341 654 mz4/\FQ (K P) "_law_is_whole" ey 349 348 654 mz4/\FQ (K P) "_law_shared" fK 356 355 654 mz4/\FQ (K P) "_law_low" j4 363 362 654 mz4:=
 by (repeat' apply And.intro)<;>first|kernel_rfl|decide
theorem Qn(P:Params):FQ (K P) "_law_is_number" dI 368 367 654 mz4/\FQ (K P) "_law_plus" iQ 375 374 654 mz4/\FQ (K P) "_law_minus" gQ 382 381 654 mz4/\FQ (K P) "_law_times" gC 389 388 654 mz4/\FQ (K P) "_law_contrary" eD 396 395 654 mz4/\FQ (K P) "_law_sign" i7 403 402 654 mz4/\FQ (K P) "_law_below" gG 410 409 654 mz4/\FQ (K P) "_law_root" iS 415 414 654 mz4/\FQ (K P) "_law_number" fJ 422 421 654 mz4/\FQ (K P) "_law_above" gR 429 428 654 mz4/\FQ (K P) "_law_kinds" gr 436 435 654 mz4/\FQ (K P) "_law_grid_size" dD 443 442 654 mz4/\FQ (K P) "_law_plan" iV 448 447 654 mz4/\FQ (K P) "_law_sum" jH 455 454 654 mz4:=
 by (repeat' apply And.intro)<;>first|kernel_rfl|decide
theorem Om(P:Params):FQ (K P) "_law_shape" gP 460 459 654 mz4/\FQ (K P) "_law_plans_in" eo 465 464 654 mz4/\FQ (K P) "_law_is_a_plan" dG 472 471 654 mz4/\FQ (K P) "_law_holds" gB 479 478 654 mz4/\FQ (K P) "_law_part_of" fu 486 485 654 mz4/\FQ (K P) "_law_few_figures" cY 493 492 654 mz4/\FQ (K P) "_law_great_plan" dm 500 499 654 mz4/\FQ (K P) "_law_is_tile" ff 505 504 654 mz4/\FQ (K P) "_law_is_right" ej 512 511 654 mz4/\FQ (K P) "law" ua 519 518 654 mz4/\nsIn (K P) mainGlobals "isinstance"=some none/\nsIn (K P) mainGlobals "int"=some none/\nsIn (K P) mainGlobals "bool"=some none/\nsIn (K P) mainGlobals "abs"=some none:=
 by (repeat' apply And.intro)<;>first|kernel_rfl|decide
theorem PZ(P:Params):nsIn (K P) mainGlobals "tuple"=some none/\nsIn (K P) mainGlobals "len"=some none/\nsIn (K P) mainGlobals "all"=some none/\nsIn (K P) mainGlobals "list"=some none/\nsIn (K P) mainGlobals "zip"=some none/\nsIn (K P) mainGlobals "range"=some none/\nsIn (K P) mainGlobals "min"=some none/\nsIn (K P) mainGlobals "max"=some none/\nsIn (K P) mainGlobals "sum"=some none/\nsIn (K P) mainGlobals "MOST_KINDS"=some (some (.int 3 427))/\nsIn (K P) mainGlobals "MOST_WITHIN"=some (some (.int 12 456))/\nsIn (K P) mainGlobals "MOST_PLANS"=some (some (.int 60 458))/\nsIn (K P) mainGlobals "LEAST_PARTS"=some (some (.int 2 460))/\nsIn (K P) mainGlobals "MOST_PARTS"=some (some (.int 8 462)):=
 by (repeat' apply And.intro)<;>first|kernel_rfl|decide
theorem O4(P:Params):(nsIn (K P) mainGlobals "NOUGHT"=some (some (.ref 76))/\(K P).lookup 76=some ⟨.type "tuple",none,.seq #[.int 0 273,.int 0 274,.int 1 275] 0,#[]⟩)/\(nsIn (K P) mainGlobals "ONE"=some (some (.ref 77))/\(K P).lookup 77=some ⟨.type "tuple",none,.seq #[.int 1 277,.int 0 278,.int 1 279] 0,#[]⟩):=
 by (repeat' apply And.intro)<;>first|kernel_rfl|decide
theorem Hs(P:Params):((K P).filterMap fun p=>dz p.2)=[(507,("_law_is_right":Str)),(514,("law":Str))]/\((K P).lookup 511).bind dz=some (507,("_law_is_right":Str))/\((K P).lookup 518).bind dz=some (514,("law":Str))/\(KF P).lookup 507=some (tabObj #[])/\(KF P).lookup 514=some (tabObj #[])/\(K P).lookup 507=none/\(K P).lookup 514=none:=⟨⟨⟩,⟨⟩,⟨⟩,⟨⟩,⟨⟩,⟨⟩,⟨⟩⟩
theorem Pr(P:Params):((K P).filterMap fun p=>dz p.2)=[(507,("_law_is_right":Str)),(514,("law":Str))]:=(Hs P).1
theorem tD(P:Params):((K P).lookup 511).bind dz=some (507,("_law_is_right":Str)):=(Hs P).2.1
theorem G5{q2:Str}(h:((507:Addr),q2)∈([(507,("_law_is_right":Str)),(514,("law":Str))]:List (Addr×Str))):q2 = "_law_is_right":=by simpa using h
theorem JX(P:Params):((K P).lookup 518).bind dz=some (514,("law":Str)):=(Hs P).2.2.1
theorem Rz{q2:Str}(h:((514:Addr),q2)∈([(507,("_law_is_right":Str)),(514,("law":Str))]:List (Addr×Str))):q2 = "law":=by simpa using h
theorem kN(P:Params):(KF P).lookup 507=some (tabObj #[])/\(K P).lookup 507=none:=⟨(Hs P).2.2.2.1,(Hs P).2.2.2.2.2.1⟩
theorem HA(P:Params):(KF P).lookup 514=some (tabObj #[])/\(K P).lookup 514=none:=⟨(Hs P).2.2.2.2.1,(Hs P).2.2.2.2.2.2⟩
theorem left:LeftO R.row.prog V LO Xt HK.obs HK.val 20000:=
 LeftO.of_pieces (H₀:=boot_heap) (H₁:=hT) (gs₀:=#[]) (gs₁:=#[]) (d₀:=boot_drawn) (d₁:={}) (k₀:=boot_toks) (k₁:=925) (m₀:=11) (ann:=some (.ref 6)) (M:=20000)
  (boot_open ⟨⟩ ⟨⟩ (fun s=>⟨⟩)) (fun w=>⟨⟩) run ⟨⟩ seen
end K26.H
namespace L2
open PySem PySem.Spec PyProof.Rows
noncomputable def iL(A:Around)(h:Heap):Prop:=A.handled=none\/∃(e:Addr) (oe:Obj) (vs:Array Value),A.handled=some (.ref e)/\h.get? e=some oe/\oe.data = .fields vs/\vs[2]? = some .none
theorem AN:entryFor table "proto.unchain"=some Builtin.«proto.unchain»:=entryFor_of_tree ⟨⟩
section
variable {prog:Program}{w:World}{A:Around}{E:Value->Shared->Prop}{s:Shared}
theorem D4{x e:Addr}{oe:Obj}{vs:Array Value}{Q:Value->Shared->Prop}(he:s.heap.get? e=some oe)(hd:oe.data = .fields vs)(h2:vs[2]? = some .none)(h:Q .none s) :
  wpAny (model prog w) A (runValue (.builtin "proto.unchain" ⟨[.ref x,.ref e,.ref e,.bool false],[]⟩)) Q E s:=by
 refine wpAny_runValue (codeAny_builtin AN ?_)
 unfold Builtin.«proto.unchain»
 dsimp only
 refine wpAny_bind (wpAny_field he hd h2 ?_)
 rw[if_pos (by rfl)]
 exact wpAny_pure h
theorem y8{α:Type}{a:Addr}{oa:Obj}{ws:Array Value}{Q:α->Shared->Prop}(q:iL A s.heap)(ha:s.heap.get? a=some oa)(hda:oa.data = .fields ws)(hz:2<ws.size)
  (hnew:∀e oe,A.handled=some (.ref e)->s.heap.get? e=some oe->e≠a)
  (h:∀h',Heap.ExtBut a s.heap h'->(∃o',h'.get? a=some o'/\o'.cls=oa.cls)->E (.ref a) {s with heap:=h'}):wpAny (model prog w) A (raiseNew (.ref a):Sem α) Q E s:=by
 unfold raiseNew
 refine wpAny_bind (wpAny_handled ?_)
 rcases q with q|⟨e,oe,vs,q,he,hd,h2⟩
 ·rw[q]
  exact wpAny_bind (wpAny_pure (wpAny_throw (h s.heap (fun b o _ z=>z) ⟨oa,ha,rfl⟩)))
 ·rw[q]
  have ne:e≠a:=hnew e oe q he
  dsimp only
  rw[if_pos (by simp[ne])]
  refine wpAny_bind (wpAny_holding (D4 he hd h2 ?_))
  refine wpAny_bind ?_
  refine wpAny_setField ha hda hz (wpAny_throw ?_)
  have hd':=Obj.data_mapFields hda (·.setIfInBounds 2 (Value.ref e))
  exact h _ (Heap.SameBut.update ..).extBut ⟨_,Heap.get?_update_self _ ha (Obj.isFreed_of_fields hd'),Obj.cls_mapFields ..⟩
theorem zU{it:Addr}{α:Type}{h0:Heap}{Q:α->Shared->Prop}(q:iL A s.heap)(k:Heap.ExtBut it h0 s.heap)(kl:∀e oe,A.handled=some (.ref e)->s.heap.get? e=some oe->True)
  (h:∀h' a,Heap.ExtBut it h0 h'->(∃o',h'.get? a=some o'/\o'.cls = .type "StopIteration")->E (.ref a) {s with heap:=h'}):wpAny (model prog w) A (newExc (.type "StopIteration") []>>=fun e=>(raiseNew e:Sem α)) Q E s:=by
 refine wpAny_bind ?_;simp only[newExc,newTuple]
 refine wpAny_bind (wpAny_newObj_type ?_ (by size_fits));refine wpAny_bind (m:=firstArgMember _ _) (wpAny_of_eq (a:=Value.none) (by first|rfl|(simp only[firstArgMember];rfl)) ?_);refine wpAny_newObj_type ?_ (by size_fits)
 have q':∀o1 o2:Obj,iL A ((s.heap.push o1).push o2):=fun o1 o2=>by
  rcases q with q|⟨e,oe,vs,q,he,r⟩
  ·exact .inl q
  ·exact .inr ⟨e,oe,vs,q,Heap.get?_push_of_some _ (Heap.get?_push_of_some _ he),r⟩
 refine y8 (q' _ _) (Heap.get?_push_size _ rfl) rfl (by rw[Array.size_append];exact lt_of_lt_of_le (by decide:2<6) (Nat.le_add_right _ _)) (fun e oe hq he z=>?_) fun h' hx ⟨o',ho',hc'⟩=>h h' _ (fun b o hb e=>hx b o ?_ (Heap.get?_push_of_some _ (Heap.get?_push_of_some _ (k b o hb e)))) ⟨o',ho',hc'⟩
 ·rcases q with q|⟨e1,oe1,vs,q,he1,r⟩
  ·rw[q] at hq;cases hq
  ·rw[q] at hq;cases hq
   exact absurd (Heap.lt_size he1) (by rw[z];simp)
 ·exact ne_of_lt (lt_of_lt_of_le (Heap.lt_size (k b o hb e)) (by simp))
theorem uU{it:Addr}{o:Obj}{ws:Array Value}{f:Array Value->Array Value}(q:iL A s.heap)(ho:s.heap.get? it=some o)(hd:o.data = .fields ws)(hn:∀e,A.handled=some (.ref e)->e≠it):iL A (s.heap.update it (Obj.mapFields f)):=by
 rcases q with q|⟨e,oe,vs,q,he,r⟩
 ·exact .inl q
 ·exact .inr ⟨e,oe,vs,q,by rw[Heap.get?_update_other _ _ (Ne.symm (hn e q))];exact he,r⟩
theorem A7{it l:Addr}{i:Nat}{items}{Q:Option Value->Shared->Prop}(q:iL A s.heap)(hn:∀e,A.handled=some (.ref e)->e≠it)(hit:s.heap.IsListIter it l i)(hl:s.heap.IsList l items)(hx:items[i]? = none)
  (hQ:∀h',Heap.ExtBut it s.heap h'->Q none {s with heap:=h'}):wpAny (model prog w) A (pyNext (.ref it)) Q E s:=by
 obtain⟨o,ho,hc,hd⟩:=id hit
 obtain⟨ol,hol,_,nl,hdl⟩:=hl;unfold pyNext
 refine wpAny_bind (wpAny_attempt (wpAny_callSpecial?_slot (name:=Str.ofString "__next__") hit.typeIs slot_listiter_next (wpAny_call_entry slot_listiter_next hit.typeIs entry_listiter_next ?_ (args_listiter_next _))))
 show wpAny _ _ (field (.ref it) 0>>=_) _ _ s;refine wpAny_bind (wpAny_field ho hd (x:=.ref l) rfl ?_)
 show wpAny _ _ (if (Value.ref l==Value.none)=true then _ else _) _ _ s;rw[if_neg (show ¬ ((Value.ref l==Value.none)=true) from Bool.false_ne_true)]
 show wpAny _ _ (field (.ref it) 1>>=_) _ _ s;refine wpAny_bind (wpAny_field ho hd (x:=.int i 0) rfl ?_)
 show wpAny _ _ (seqItems? (.ref l)>>=_) _ _ s;refine wpAny_bind (wpAny_seqItems hol hdl ?_);simp only[Int.toNat_natCast,hx]
 refine wpAny_bind (wpAny_rule (wpAny_bind (wpAny_setField ho hd (by simp) ?_)))
 refine zU (it:=it) (h0:=s.heap) (A:=A.in1) (uU (A:=A.in1) q ho hd hn) (Heap.SameBut.update ..).extBut (fun _ _ _ _=>trivial) fun h' a hx' hq0=>?_
 obtain⟨o',ho',hc'⟩:=hq0
 refine wpAny_bind (wpAny_isInstance (T:="StopIteration") (b:=true) ⟨_,ho',hc'⟩ isSubtype_stop ?_);exact wpAny_pure (hQ _ hx')
theorem tY{it t:Addr}{i:Nat}{items}{Q:Option Value->Shared->Prop}(q:iL A s.heap)(hn:∀e,A.handled=some (.ref e)->e≠it)(hit:IsTupIter s.heap it t i)(ht:IsTup s.heap t items)(hx:items[i]? = none)
  (hQ:∀h',Heap.ExtBut it s.heap h'->Q none {s with heap:=h'}):wpAny (model prog w) A (pyNext (.ref it)) Q E s:=by
 obtain⟨o,ho,hc,hd⟩:=id hit
 obtain⟨ol,hol,_,nl,hdl⟩:=ht;unfold pyNext
 refine wpAny_bind (wpAny_attempt (wpAny_callSpecial?_slot (name:=Str.ofString "__next__") hit.typeIs slot_tupleiter_next (wpAny_call_entry slot_tupleiter_next hit.typeIs entry_tupleiter_next ?_ (args_tupleiter_next _))))
 show wpAny _ _ (field (.ref it) 0>>=_) _ _ s;refine wpAny_bind (wpAny_field ho hd (x:=.ref t) rfl ?_)
 show wpAny _ _ (if (Value.ref t==Value.none)=true then _ else _) _ _ s;rw[if_neg (show ¬ ((Value.ref t==Value.none)=true) from Bool.false_ne_true)]
 show wpAny _ _ (field (.ref it) 1>>=_) _ _ s;refine wpAny_bind (wpAny_field ho hd (x:=.int i 0) rfl ?_)
 show wpAny _ _ (seqItems? (.ref t)>>=_) _ _ s;refine wpAny_bind (wpAny_seqItems hol hdl ?_);simp only[Int.toNat_natCast,hx]
 refine wpAny_bind (wpAny_rule (wpAny_bind (wpAny_setField ho hd (by simp) ?_)))
 refine zU (it:=it) (h0:=s.heap) (A:=A.in1) (uU (A:=A.in1) q ho hd hn) (Heap.SameBut.update ..).extBut (fun _ _ _ _=>trivial) fun h' a hx' hq0=>?_
 obtain⟨o',ho',hc'⟩:=hq0
 refine wpAny_bind (wpAny_isInstance (T:="StopIteration") (b:=true) ⟨_,ho',hc'⟩ isSubtype_stop ?_);exact wpAny_pure (hQ _ hx')
theorem A6{env:Env}{elts:List Expr}{x1}{pos:Pos}{t:Addr}{items:Array Value}{Q:Unit->Shared->Prop}(q:iL A s.heap)(ht:IsTup s.heap t items)(hn:(assignEach elts env).length=items.size)
  (hstar:(assignEach elts env).findIdx? (·.1)=none) (h:∀h',Heap.ExtBut s.heap.objs.size s.heap h'->wpAny (model prog w) A (assignInOrder ((assignEach elts env).map (·.2)) items.toList) Q E {s with heap:=h'}) :
  wpAny (model prog w) A (assign (.Tuple elts x1 pos) env (.ref t)) Q E s:=by
 rw[assign_Tuple]
 refine wpAny_bind (wpAny_standAt ?_)
 unfold unpack;rw[hn,hstar]
 refine wpAny_bind (wpAny_holding ?_)
 have hlt:t≠s.heap.objs.size:=by obtain⟨o,ho,_⟩:=ht;exact ne_of_lt (Heap.lt_size ho)
 unfold unpackItems;refine wpAny_bind ?_
 unfold notIterableAtAll;refine wpAny_bind (wpAny_specialOf ht.typeIs slot_tuple_iter.lookup ?_);refine wpAny_pure ?_;simp only[false_eq_true,if_false]
 refine wpAny_bind (wpAny_holding (iter_tuple ht ?_))
 refine wpAny_bind (wpAny_holding (draw_tuple hlt items.size 0 _ _ ⟨_,Heap.get?_push_size _ rfl,rfl,rfl⟩ (ht.push _) ∅ fun ld pc mt=>?_))
 rw[show List.take items.size (List.drop 0 items.toList)=items.toList from by rw[List.drop_zero];exact List.take_of_length_le (by simp),if_neg (by simp)]
 have fr:∀e,A.handled=some (.ref e)->e≠s.heap.objs.size:=fun e hq=>by
  rcases q with q|⟨e1,oe1,vs,q,he1,r⟩
  ·rw[q] at hq;cases hq
  ·rw[q] at hq;cases hq;exact ne_of_lt (Heap.lt_size he1)
 have q1:iL A ld:=by
  rcases q with q|⟨e,oe,vs,q,he,r⟩
  ·exact .inl q
  ·exact .inr ⟨e,oe,vs,q,mt.extBut e oe (fr e q) (Heap.get?_push_of_some _ he),r⟩
 refine wpAny_bind (wpAny_holding (tY q1 fr pc ((ht.push _).extBut mt.extBut hlt) (by simp) fun tt sB=>?_));simp only[Option.isSome_none,false_eq_true,if_false]
 exact wpAny_pure (h tt fun b o hb e=>sB b o hb (mt.extBut b o hb (Heap.get?_push_of_some _ e)))
end
end L2
namespace L2
open PySem PySem.Spec PyProof.Rows
noncomputable abbrev Key:=Sum Int Str
noncomputable def N5:Key->Value->Bool
 |.inl k,v=>Value.isInt k v
 |.inr x,v=>Value.isStrOf x v
noncomputable def Sb(w:World):Key->Int
 |.inl k=>hashInt k
 |.inr x=>hashStr w x
theorem dj:∀{k:Key} {v:Value},N5 k v=true->(∃i t,k=Sum.inl i/\v=Value.int i t)\/(∃x t,k=Sum.inr x/\v=Value.str x t)
 |.inl i,v,h=>by
  obtain⟨t,e⟩:=Value.isInt_shape (k:=i) (v:=v) h
  exact .inl ⟨i,t,rfl,e⟩
 |.inr x,v,h=>by
  obtain⟨t,e⟩:=Value.isStrOf_shape (x:=x) (v:=v) h
  exact .inr ⟨x,t,rfl,e⟩
theorem OJ(a b:Int):decide ((Sum.inl a:Key)=Sum.inl b)=(a==b):=by
 by_cases e:a=b
 ·subst e;simp
 ·have h:¬ (Sum.inl a:Key)=Sum.inl b:=fun q=>e (Sum.inl.inj q)
  rw[decide_eq_false h]
  exact (beq_eq_false_iff_ne.mpr e).symm
theorem Pq(a b:Str):decide ((Sum.inr a:Key)=Sum.inr b)=decide (a=b):=by
 by_cases e:a=b
 ·subst e;simp
 ·have h:¬ (Sum.inr a:Key)=Sum.inr b:=fun q=>e (Sum.inr.inj q)
  rw[decide_eq_false h,decide_eq_false e]
theorem OV(a:Int)(b:Str):decide ((Sum.inl a:Key)=Sum.inr b)=false:=decide_eq_false (fun q=>nomatch q)
theorem Qg(a:Str)(b:Int):decide ((Sum.inr a:Key)=Sum.inl b)=false:=decide_eq_false (fun q=>nomatch q)
noncomputable def Df(prog:Program)(w:World):PySem.KeyKind prog w Key where
 is:=N5
 hash:=Sb w
 inj:=fun v a b ha hb=>by
  rcases dj ha with ⟨i,t,rfl,rfl⟩|⟨x,t,rfl,rfl⟩
  ·rcases dj hb with ⟨j,u,rfl,e⟩|⟨y,u,rfl,e⟩
   ·injection e with e1 _;rw[e1]
   ·exact nomatch e
  ·rcases dj hb with ⟨j,u,rfl,e⟩|⟨y,u,rfl,e⟩
   ·exact nomatch e
   ·injection e with e1 _;rw[e1]
 byValue:=fun k v h=>by
  rcases dj h with ⟨i,t,rfl,rfl⟩|⟨x,t,rfl,rfl⟩<;>rfl
 pyHash:=fun hv h=>by
  rcases dj hv with ⟨i,t,rfl,rfl⟩|⟨x,t,rfl,rfl⟩
  ·exact wpAny_pyHash_int h
  ·exact wpAny_pyHash_str h
 eqBool:=fun hu hv h=>by
  rcases dj hu with ⟨i,t,rfl,rfl⟩|⟨x,t,rfl,rfl⟩
  ·rcases dj hv with ⟨j,u,rfl,rfl⟩|⟨y,u,rfl,rfl⟩
   ·rw[OJ] at h;exact wpAny_eqBool_int h
   ·rw[OV] at h;exact SeqAt.EqAt.int_str i t y u _ _ _ _ h
  ·rcases dj hv with ⟨j,u,rfl,rfl⟩|⟨y,u,rfl,rfl⟩
   ·rw[Qg] at h;exact SeqAt.EqAt.str_int x t j u _ _ _ _ h
   ·rw[Pq] at h;exact wpAny_eqBool_str h
 «strs»:=fun k x t v h=>by
  rcases dj h with ⟨i,u,rfl,e⟩|⟨y,u,rfl,e⟩
  ·exact nomatch e
  ·injection e with e1 _
   subst e1
   cases v<;>rfl
end L2
namespace L2
open PySem PySem.Spec PyProof.Rows
inductive V where
 |non|bl (b:Bool)|int (i:Int)|str (x:Str)|byt (b:Array UInt8)|flt (b:UInt64)|ref (a:Addr)|ty (n:String)
 deriving DecidableEq
noncomputable def RelV:V->Value->Prop
 |.non,u=>u=Value.none
 |.bl b,u=>u=Value.bool b
 |.int i,u=>∃t,u=Value.int i t
 |.str x,u=>∃t,u=Value.str x t
 |.byt b,u=>∃t,u=Value.bytes b t
 |.flt b,u=>∃t,u=Value.float b t
 |.ref a,u=>u=Value.ref a
 |.ty n,u=>u=Value.type n
noncomputable abbrev Vals:List V->List Value->Prop:=Paired RelV
theorem Vals.length{xs:List V}{us:List Value}(r:Vals xs us):xs.length=us.length:=Paired.length r
theorem Vals.get:∀{xs:List V} {us:List Value} {i:Nat} {x:V},Vals xs us->xs[i]? = some x->∃u,us[i]? = some u/\RelV x u
 |_,_,_,_,.nil,e=>by simp at e
 |_,_,0,_,.cons r _,e=>by simp at e;subst e;exact⟨_,rfl,r⟩
 |_,_,i+1,x,.cons _ t,e=>by
  obtain⟨u,h1,h2⟩:=Vals.get (i:=i) (x:=x) t (by simpa using e)
  exact⟨u,by simpa using h1,h2⟩
theorem Vals.set{x:V}{u:Value}(r:RelV x u):∀{xs:List V} {us:List Value} (i:Nat),Vals xs us->Vals (xs.set i x) (us.set i u)
 |_,_,_,.nil=>.nil
 |_,_,0,.cons _ t=>.cons r t
 |_,_,i+1,.cons q t=>.cons q (Vals.set r i t)
theorem Vals.append:∀{xs ys:List V} {us ws:List Value},Vals xs us->Vals ys ws->Vals (xs++ys) (us++ws)
 |_,_,_,_,.nil,s=>s
 |_,_,_,_,.cons r t,s=>.cons r (Vals.append t s)
theorem Vals.take:∀{xs:List V} {us:List Value} (n:Nat),Vals xs us->Vals (xs.take n) (us.take n)
 |_,_,0,_=>.nil
 |_,_,_+1,.nil=>.nil
 |_,_,n+1,.cons r t=>.cons r (Vals.take n t)
theorem Vals.drop:∀{xs:List V} {us:List Value} (n:Nat),Vals xs us->Vals (xs.drop n) (us.drop n)
 |_,_,0,r=>r
 |_,_,_+1,.nil=>.nil
 |_,_,n+1,.cons _ t=>Vals.drop n t
noncomputable def Ra:Option V->Option Value->Prop
 |some v,some u=>RelV v u
 |none,none=>True
 |_,_=>False
noncomputable def KV{κ:Type}:List (κ×V)->List (κ×Value)->Prop:=Paired fun (p:κ×V) (q:κ×Value)=>p.1=q.1/\RelV p.2 q.2
noncomputable def kV:Key->V
 |.inl i=>.int i
 |.inr x=>.str x
inductive HO where
  /-- a list -/
 |lst (xs:List V)
  /-- a tuple (never changes) -/
 |tup (xs:List V)
  /-- a dict whose keys are ints and texts; one whose keys are tuples of ints and texts (the empty one is both) -/
 |dK (kvs:List (Key×V))|dT (kvs:List (List Key×V))
  /-- a set of ints: its members, its size -/
 |set (S:Int->Bool) (n:Nat)
  /-- an instance of the class at C, its dict at dx, its attributes -/
 |ins (C dx:Addr) (fs:List (Str×V))
  /-- the dict of the instance at x -/
 |own (x:Addr)
  /-- the dict of an exception -/
 |xd (fs:List (Str×V))
  /-- a bound method, f of x -/
 |met (f x:Addr)
  /-- a range object lo, lo + 1, .. below hi -/
 |rng (lo hi:Int)
  /-- a thing that is known to the object (the script; a dict while a loop walks it): read, never written while it is so -/
 |frz (o:Obj) (u:HO)
  /-- a code object's table -/
 |tbl (ps:Array Value)
  /-- any other thing, by what is true of its one object (a def of one's own: SetO a S n := HO.ext fun h => ..) -/
 |ext (φ:Heap->Prop)
  /-- the object itself; it may change -/
 |raw (o:Obj)
noncomputable abbrev Hp:=Addr->Option HO
noncomputable def upd(H:Hp)(a:Addr)(o:HO):Hp:=fun b=>if b=a then some o else H b
theorem jP{H:Hp}{a:Addr}{o:HO}:upd H a o a=some o:=by unfold upd;rw[if_pos rfl]
theorem bN{H:Hp}{a b:Addr}{o:HO}(h:b≠a):upd H a o b=H b:=by unfold upd;rw[if_neg h]
theorem bO{H:Hp}{a b:Addr}{o:HO}(h:H a=some o)(h':H b=none):a≠b:=by
 intro e;subst e;rw[h] at h';cases h'
section
variable (P:Program)(w:World)
noncomputable def jq(H:Hp)(h:Heap)(a:Addr):HO->Prop
 |.lst xs=>xs.length<=sizeLine/\∃(its:List Value) (n:Nat),Vals xs its/\h.get? a=some {cls:=.type "list",data:=.seq its.toArray n}
 |.tup xs=>xs.length<=sizeLine/\∃its:List Value,Vals xs its/\IsTup h a its.toArray
 |.dK kvs=>kvs.length<=sizeLine/\(a==sysModules)=false/\∃vs,KV kvs vs/\h.DictOf (Df P w) a vs
 |.dT kvs=>kvs.length<=sizeLine/\(a==sysModules)=false/\∃xs:List (List Key×Addr×Value),
   Paired (fun (p:List Key×V) (q:List Key×Addr×Value)=>p.1=q.1/\H q.2.1=some (.tup (p.1.map kV))/\RelV p.2 q.2.2) kvs xs /\
   ∃o es ep,h.get? a=some o/\o.ExactDict/\o.data = .dict es ep/\es.toList=xs.map (entryOfKey (tupleKind (Df P w)))/\(xs.map (·.1)).Nodup
 |.set S n=>h.SetOf (intKind P w) a S n
 |.ins C dx fs=>H dx=some (.own a)/\fs.length<=1000/\dx≠a/\h.get? a=some (PySem.W.instObj C dx) /\
   ∃mA,h.Ns1 dx mA/\(∀f,Ra (fs.lookup f) (mA f))/\PySem.Within mA (fs.map (·.1))
 |.own _=>∃o,h.get? a=some o
 |.xd fs=>∃mA,h.Ns1 a mA/\∀f,Ra (fs.lookup f) (mA f)
 |.rng lo hi=>∃t u v,h.get? a=some {cls:=.type "range",data:=.fields #[.int lo t,.int hi u,.int 1 v]}
 |.frz o u=>h.get? a=some o/\jq H h a u
 |.tbl ps=>h.get? a=some {cls:=.none,data:=.fields ps}
 |.met f x=>h.get? a=some (PySem.W.methodObj (.ref f) (.ref x))
 |.ext φ=>φ h/\(∃o,h.get? a=some o)/\∀h1 h2:Heap,φ h1->(∀o,h1.get? a=some o->h2.get? a=some o)->φ h2
 |.raw o=>h.get? a=some o
noncomputable def HOk(H:Hp)(h:Heap):Prop:=∀a o,H a=some o->jq P w H h a o
end
section
variable {P:Program}{w:World}{H H':Hp}{h h':Heap}{a:Addr}{o:HO}
theorem jq.lt(x:jq P w H h a o):a<h.objs.size:=by
 cases o with
 |lst xs=>obtain⟨_,_,_,_,e⟩:=x;exact Heap.lt_size e
 |tup xs=>obtain⟨_,_,_,p⟩:=x;exact p.lt
 |dK kvs=>obtain⟨_,_,_,_,o,_,_,e,_⟩:=x;exact Heap.lt_size e
 |dT kvs=>obtain⟨_,_,_,_,o,_,_,e,_⟩:=x;exact Heap.lt_size e
 |set S n=>obtain⟨o,_,_,_,e,_⟩:=x;exact Heap.lt_size e
 |ins C dx fs=>obtain⟨_,_,_,e,_⟩:=x;exact Heap.lt_size e
 |own y=>obtain⟨_,e⟩:=x;exact Heap.lt_size e
 |xd fs=>obtain⟨_,⟨_,_,_,e,_⟩,_⟩:=x;exact Heap.lt_size e
 |rng lo hi=>obtain⟨_,_,_,e⟩:=x;exact Heap.lt_size e
 |frz ob u=>obtain⟨e,_⟩:=x;exact Heap.lt_size e
 |tbl ps=>exact Heap.lt_size (show h.get? a=some _ from x)
 |met f y=>exact Heap.lt_size (show h.get? a=some _ from x)
 |ext φ=>obtain⟨_,⟨_,e⟩,_⟩:=x;exact Heap.lt_size e
 |raw ob=>exact Heap.lt_size (show h.get? a=some ob from x)
theorem Paired.NJ{α β:Type}{F G:α->β->Prop}:∀{o0:List α} {np:List β},Paired F o0 np->(∀a b,F a b->G a b)->Paired G o0 np
 |_,_,.nil,_=>.nil
 |_,_,.cons r t,f=>.cons (f _ _ r) (Paired.NJ t f)
theorem jq.lj(x:jq P w H h a o)(k:∀b u,(b=a\/H b=some (.own a))->h.get? b=some u->h'.get? b=some u)
  (ho:∀b,H b=some (.own a)->H' b=some (.own a)) (ht:∀b xs,H b=some (.tup xs)->H' b=some (.tup xs)):jq P w H' h' a o:=by
 induction o with
 |lst xs=>obtain⟨z,its,n,r,e⟩:=x;exact⟨z,its,n,r,k _ _ (.inl rfl) e⟩
 |tup xs=>obtain⟨z,its,r,ob,e,c⟩:=x;exact⟨z,its,r,ob,k _ _ (.inl rfl) e,c⟩
 |dK kvs=>obtain⟨z,y,vs,r,ob,es,ep,e,c⟩:=x;exact⟨z,y,vs,r,ob,es,ep,k _ _ (.inl rfl) e,c⟩
 |dT kvs=>
  obtain⟨z,y,xs,r,ob,es,ep,e,c⟩:=x
  exact⟨z,y,xs,Paired.NJ r fun p q z=>⟨z.1,ht _ _ z.2.1,z.2.2⟩,ob,es,ep,k _ _ (.inl rfl) e,c⟩
 |set S n=>obtain⟨ob,es,ep,t,e,c⟩:=x;exact⟨ob,es,ep,t,k _ _ (.inl rfl) e,c⟩
 |ins C dx fs=>
  obtain⟨d,z,ne,e,mA,⟨od,es,ep,e2,c⟩,r⟩:=x
  exact⟨ho _ d,z,ne,k _ _ (.inl rfl) e,mA,⟨od,es,ep,k _ _ (.inr d) e2,c⟩,r⟩
 |own y=>obtain⟨ob,e⟩:=x;exact⟨ob,k _ _ (.inl rfl) e⟩
 |xd fs=>obtain⟨mA,⟨od,es,ep,e,c⟩,r⟩:=x;exact⟨mA,⟨od,es,ep,k _ _ (.inl rfl) e,c⟩,r⟩
 |rng lo hi=>obtain⟨t,u,v,e⟩:=x;exact⟨t,u,v,k _ _ (.inl rfl) e⟩
 |frz ob u ih=>obtain⟨e,q⟩:=x;exact⟨k _ _ (.inl rfl) e,ih q⟩
 |tbl ps=>
  have e:h.get? a=some {cls:=.none,data:=.fields ps}:=x
  show h'.get? a=some {cls:=.none,data:=.fields ps}
  exact k a _ (.inl rfl) e
 |met f y=>
  have e:h.get? a=some (PySem.W.methodObj (.ref f) (.ref y)):=x
  show h'.get? a=some (PySem.W.methodObj (.ref f) (.ref y))
  exact k a _ (.inl rfl) e
 |raw ob=>
  have e:h.get? a=some ob:=x
  show h'.get? a=some ob
  exact k a _ (.inl rfl) e
 |ext φ=>obtain⟨p,⟨o,e⟩,st⟩:=x;exact⟨st _ _ p fun o q=>k _ _ (.inl rfl) q,⟨o,k _ _ (.inl rfl) e⟩,st⟩
theorem HOk.lt(x:HOk P w H h)(e:H a=some o):a<h.objs.size:=(x a o e).lt
theorem HOk.fresh(x:HOk P w H h)(e:h.objs.size<=a):H a=none:=by
 cases q:H a with
 |none=>rfl
 |some u=>exact absurd (lt_of_lt_of_le (x.lt q) e) (lt_irrefl _)
theorem HOk.kept(x:HOk P w H h)(k:∀b u,h.get? b=some u->h'.get? b=some u):HOk P w H h':=fun a o e=>
 (x a o e).lj (fun b u _ q=>k b u q) (fun _ q=>q) fun _ _ q=>q
theorem HOk.laid(x:HOk P w H h)(k:∀b u,h.get? b=some u->h'.get? b=some u)(hp:h.objs.size<=a)(new:jq P w (upd H a o) h' a o):HOk P w (upd H a o) h':=fun b u e=>by
 have hn:=x.fresh hp
 by_cases hb:b=a
 ·subst hb;rw[jP] at e;cases e;exact new
 ·rw[bN hb] at e
  exact (x b u e).lj (fun c v _ q=>k c v q) (fun c q=>by rw[bN (bO q hn)];exact q) fun c xs q=>by rw[bN (bO q hn)];exact q
end
noncomputable def Rd(H:Hp)(a:Addr)(u:HO):Prop:=H a=some u\/∃o,H a=some (.frz o u)
theorem Rd.ok{P:Program}{w:World}{H:Hp}{h:Heap}{a:Addr}{u:HO}(r:Rd H a u)(x:HOk P w H h):jq P w H h a u:=by
 rcases r with r|⟨o,r⟩
 ·exact x a u r
 ·obtain⟨_,q⟩:=x a _ r
  exact q
noncomputable def Mut:Option HO->Prop
 |some (.lst _)=>True
 |some (.dK _)=>True
 |some (.dT _)=>True
 |some (.set _ _)=>True
 |some (.ins _ _ _)=>True
 |some (.ext _)=>True
 |some (.raw _)=>True
 |_=>False
section
variable {P:Program}{w:World}{H:Hp}{h h':Heap}{x e:Addr}{o':HO}
theorem HOk.write(ok:HOk P w H h)(mu:Mut (H x))(he:e=x\/H e=some (.own x))(k:∀b u,b≠e->h.get? b=some u->h'.get? b=some u)(heo:∃u,h'.get? e=some u)
  (new:jq P w (upd H x o') h' x o'):HOk P w (upd H x o') h':=fun b u q=>by
 have nown:∀c y,H c=some (.own y)->c≠x:=fun c y r z=>by subst z;rw[r] at mu;exact mu
 have ntup:∀c xs,H c=some (.tup xs)->c≠x:=fun c xs r z=>by subst z;rw[r] at mu;exact mu
 by_cases hb:b=x
 ·subst hb;rw[jP] at q;cases q;exact new
 ·rw[bN hb] at q
  by_cases hbe:b=e
  ·have q':H b=some (.own x):=by
    rcases he with z|z
    ·exact absurd (hbe.trans z) hb
    ·rw[hbe];exact z
   rw[q] at q';cases q'
   obtain⟨v,hv⟩:=heo
   exact⟨v,by rw[hbe];exact hv⟩
  ·refine (ok b u q).lj (fun c v hc r=>k c v ?_ r) (fun c r=>by rw[bN (nown c b r)];exact r) fun c xs r=>by rw[bN (ntup c xs r)];exact r
   rcases hc with rfl|hc
   ·exact hbe
   ·rintro rfl
    rcases he with z|z
    ·exact nown c b hc z
    ·rw[hc] at z;cases z;exact hb rfl
end
structure Un(fs ex:List Addr)(H H':Hp)(h h':Heap):Prop where
 keep:∀b o,h.get? b=some o->H b=none->b ∉ fs->b ∉ ex->h'.get? b=some o
 slot:∀b o,h.get? b=some o->H b=none->b∈fs->b ∉ ex->∃sl,h'.get? b=some {o with slots:=sl}
 free:∀b o,h.get? b=some o->H b=none->b ∉ ex->H' b=none
 there:∀b o,h.get? b=some o->b ∉ ex->∃o',h'.get? b=some o'
 xR:∀b xs,H b=some (.tup xs)->H' b=some (.tup xs)
 vL:∀b o u,H b=some (.frz o u)->H' b=some (.frz o u)
 wB:∀b ps,H b=some (.tbl ps)->∃more,H' b=some (.tbl (ps++more))
section
variable {fs fs' ex ex':List Addr}{H H1 H2:Hp}{h h1 h2 h':Heap}{a x e:Addr}{o:HO}
theorem Un.any(u:Un fs ex H H1 h h1){b:Addr}{ob:Obj}(q:h.get? b=some ob)(n:H b=none)(hx:b ∉ ex):∃sl,h1.get? b=some {ob with slots:=sl}:=by
 by_cases hb:b∈fs
 ·exact u.slot b ob q n hb hx
 ·exact⟨ob.slots,u.keep b ob q n hb hx⟩
theorem Un.trans(a:Un fs ex H H1 h h1)(b:Un fs ex H1 H2 h1 h2):Un fs ex H H2 h h2 where
 keep:=fun c ob q n hc hx=>b.keep c ob (a.keep c ob q n hc hx) (a.free c ob q n hx) hc hx
 slot:=fun c ob q n hc hx=>by
  obtain⟨sl,e1⟩:=a.slot c ob q n hc hx
  obtain⟨sl',e2⟩:=b.slot c _ e1 (a.free c ob q n hx) hc hx
  exact⟨sl',e2⟩
 free:=fun c ob q n hx=>by
  obtain⟨o',e1⟩:=a.there c ob q hx
  exact b.free c o' e1 (a.free c ob q n hx) hx
 there:=fun c ob q hx=>by
  obtain⟨o',e1⟩:=a.there c ob q hx
  exact b.there c o' e1 hx
 xR:=fun c xs q=>b.xR c xs (a.xR c xs q)
 vL:=fun c ob xs q=>b.vL c ob xs (a.vL c ob xs q)
 wB:=fun c ps q=>by
  obtain⟨m1,e1⟩:=a.wB c ps q
  obtain⟨m2,e2⟩:=b.wB c _ e1
  exact⟨m1++m2,by rw[e2,Array.append_assoc]⟩
theorem Un.kept(k:∀b u,h.get? b=some u->h'.get? b=some u):Un fs ex H H h h':=
 ⟨fun b ob q _ _ _=>k b ob q,fun b ob q _ _ _=>⟨ob.slots,k b ob q⟩,fun _ _ _ n _=>n,fun b ob q _=>⟨ob,k b ob q⟩,fun _ _ q=>q,fun _ _ _ q=>q,fun _ ps q=>⟨#[],by rw[q];simp⟩⟩
theorem Un.refl:Un fs ex H H h h:=Un.kept fun _ _ q=>q
theorem Un.laid(k:∀b u,h.get? b=some u->h'.get? b=some u)(hp:h.objs.size<=a)(hn:H a=none):Un fs ex H (upd H a o) h h' where
 keep:=fun b u q _ _ _=>k b u q
 slot:=fun b u q _ _ _=>⟨u.slots,k b u q⟩
 free:=fun b u q n _=>by rw[bN (ne_of_lt (lt_of_lt_of_le (Heap.lt_size q) hp))];exact n
 there:=fun b u q _=>⟨u,k b u q⟩
 xR:=fun b xs q=>by rw[bN (bO q hn)];exact q
 vL:=fun b u xs q=>by rw[bN (bO q hn)];exact q
 wB:=fun b ps q=>⟨#[],by rw[bN (bO q hn),q];simp⟩
theorem Un.write(mu:Mut (H x))(he:e=x\/H e=some (.own x))(k:∀b u,b≠e->h.get? b=some u->h'.get? b=some u)(heo:∃u,h'.get? e=some u):Un fs ex H (upd H x o) h h':=by
 have hx:∀b,H b=none->b≠x:=fun b n z=>by subst z;rw[n] at mu;exact mu
 have hb:∀b,H b=none->b≠e:=fun b n z=>by
  subst z
  rcases he with r|r
  ·exact hx b n r
  ·rw[n] at r;cases r
 have hm:∀b u,H b=some u->¬ Mut (some u)->b≠x:=fun b u q nm z=>by subst z;rw[q] at mu;exact nm mu
 refine⟨fun b u q n _ _=>k b u (hb b n) q,fun b u q n _ _=>⟨u.slots,k b u (hb b n) q⟩,fun b u q n _=>by rw[bN (hx b n)];exact n,fun b u q _=>?_,
  fun b xs q=>by rw[bN (hm b _ q fun z=>z)];exact q,fun b u xs q=>by rw[bN (hm b _ q fun z=>z)];exact q,fun b ps q=>⟨#[],by rw[bN (hm b _ q fun z=>z),q];simp⟩⟩
 by_cases hbe:b=e
 ·subst hbe;exact heo
 ·exact⟨u,k b u hbe q⟩
end
noncomputable def trk(h:Heap)(H:Hp):List Addr:=(List.range h.objs.size).filter fun a=>(H a).isSome
noncomputable def AV(h:Heap)(H:Hp):Heap:=PySem.W.hideAll h (trk h H)
theorem Jg(h:Heap)(H:Hp):(AV h H).objs.size=h.objs.size:=PySem.W.hideAll_size _ _
theorem KW{h:Heap}{H:Hp}{b:Addr}{o:Obj}(e:h.get? b=some o)(n:H b=none):(AV h H).get? b=some o:=
 PySem.W.hideAll_get _ e fun hm=>by
  have q:(H b).isSome=true:=(List.mem_filter.mp hm).2
  rw[n] at q;simp at q
theorem Mx{h:Heap}{H:Hp}{b:Addr}{o:Obj}(e:(AV h H).get? b=some o):h.get? b=some o/\H b=none:=by
 have e':h.get? b=some o:=PySem.W.of_hideAll (trk h H) e
 refine⟨e',?_⟩
 cases q:H b with
 |none=>rfl
 |some x=>
  have hm:b∈trk h H:=List.mem_filter.mpr ⟨List.mem_range.mpr (Heap.lt_size e'),by simp[q]⟩
  have z:(AV h H).get? b=none:=PySem.W.hideAll_none (trk h H) hm
  rw[z] at e;cases e
noncomputable def MV(g h:Heap)(L:Addr):List (Addr×Obj):=(List.range h.objs.size).filterMap fun a=>if a=L\/(g.get? a).isSome=true then none else (h.get? a).map fun o=>(a,o)
noncomputable def rest(g h:Heap)(L d:Addr):List (Addr×Obj):=(MV g h L).filter fun p=>decide (p.1≠d)
end L2
namespace L2
open PySem PySem.Spec PyProof.Rows
structure Mod(K:PySem.W.Frag)(mg:Str->Option Value)(base:Heap):Prop where
 kin:K.In base
 glob:base.Ns mainGlobals mg
 blt:∃mb,base.Ns builtinsNs mb/\∀x:Str,x ≠ "__name__"->mb x=bootBuiltins x
 nolimit:base.NoLimit
structure Cx where
 prog:Program
 w:World
 K:PySem.W.Frag
 mg:Str->Option Value
 base:Heap
 A:Around
 N:List Str
 ci:Shared
 H₀:Hp
 env:Env
 outer:List Env
 stack:List Env
 ex:List Addr
 fn:Str->Bool
 calm:Bool
 pn:List (Addr×Obj)
 xe:Value->Shared->Prop
noncomputable def frs(l:List Env):List Addr:=l.filterMap (·.frame)
noncomputable abbrev Cx.fs(X:Cx):List Addr:=frs X.outer
noncomputable def Vis(sc:Scope)(x:Str):Prop:=sc.names.lookup x=some .local\/sc.names.lookup x=some .cell\/sc.names.lookup x=some .free
noncomputable def Loc(sc:Scope)(x:Str):Prop:=sc.names.lookup x=some .local\/sc.names.lookup x=some .cell
noncomputable def Look(env:Env)(h:Heap)(m:Str->Option Value)(x:Str)(u:Value):Prop:=
 (env.kindOf x=some .local/\m x=some u)\/((env.kindOf x=some .cell\/env.kindOf x=some .free)/\∃c,env.cells.lookup x=some c/\h.IsCell c (some u))
structure Cx.Ok(X:Cx):Prop where
 mod:Mod X.K X.mg X.base
 kind:X.env.scope.kind = .function
 glob:X.env.globals=mainGlobals
 blt:X.env.builtins=builtinsNs
 above:X.ci.heap.objs.size<=X.env.locals
 inj:∀x y c,X.env.cells.lookup x=some c->X.env.cells.lookup y=some c->x=y
 has:∀x,(X.env.kindOf x=some .cell\/X.env.kindOf x=some .free)->∃c,X.env.cells.lookup x=some c
 cab:∀x c,X.fn x=true->X.env.cells.lookup x=some c->X.ci.heap.objs.size<=c
 hd:X.calm=true->X.A.handled=none
 qt:X.A.handled=none\/∃(e:Addr) (oe:Obj) (vs:Array Value),X.A.handled=some (.ref e)/\(e,oe)∈X.pn/\oe.data = .fields vs/\vs[2]? = some .none
 frames:X.A.frames=some X.stack
 stk:X.stack=X.outer\/(X.stack=X.env::X.outer/\X.env.frame=some X.env.locals)
 exf:∀b∈X.ex,b≠X.env.locals/\∀x c,X.env.cells.lookup x=some c->c≠b
 bs:∀b o,X.base.get? b=some o->X.ci.heap.get? b=some o/\X.H₀ b=none
 bsz:X.base.objs.size<=X.ci.heap.objs.size
 KG:∀b o,X.base.get? b=some o->b ∉ X.ex
 L4:∀b∈X.ex,b ∉ X.fs
 yV:X.ci.heap.FunFrames X.base X.outer
 frf:∀b∈X.fs,X.H₀ b=none
structure Inv(X:Cx)(pins:List (Addr×Obj))(Y:List (Option V))(H:Hp)(s:Shared):Prop where
 ok:X.Ok
 os:s.os=X.ci.os
 bare:AllBare s.gens
 base:Un X.fs X.ex X.H₀ H X.ci.heap s.heap
 loc:∃m,s.heap.Ns X.env.locals m/\∀(i:Nat) (x:Str) (v:V),X.N[i]? = some x->Y[i]? = some (some v)->Vis X.env.scope x->∃u,RelV v u/\Look X.env s.heap m x u
 cell:∀x c,X.env.cells.lookup x=some c->∃v,s.heap.IsCell c v
 free:H X.env.locals=none
 qY:∀x c,X.env.cells.lookup x=some c->H c=none
 pin:∀p∈X.pn++pins,s.heap.get? p.1=some p.2/\H p.1=none/\p.1≠X.env.locals/\p.1 ∉ X.fs/\∀v,p.2.data≠.cell v
 hok:HOk X.prog X.w H s.heap
 len:Y.length=X.N.length
section
variable {X:Cx}{pins:List (Addr×Obj)}{Y:List (Option V)}{H H':Hp}{s:Shared}{h':Heap}
theorem Inv.G9(I:Inv X pins Y H s):iL X.A s.heap:=by
 rcases I.ok.qt with q|⟨e,oe,vs,q,hp,r⟩
 ·exact .inl q
 ·exact .inr ⟨e,oe,vs,q,(I.pin (e,oe) (mem_append_left _ hp)).1,r⟩
theorem Inv.hne(I:Inv X pins Y H s){b:Addr}(hb:∀p∈X.pn++pins,p.1≠b):∀e,X.A.handled=some (.ref e)->e≠b:=fun e he=>by
 rcases I.ok.qt with q|⟨e1,oe,vs,q,hp,r⟩
 ·rw[q] at he;cases he
 ·rw[q] at he;cases he;exact hb (e,oe) (mem_append_left _ hp)
theorem Cx.Ok.SW(ok:X.Ok){b:Addr}{o:Obj}(e:X.base.get? b=some o):b ∉ X.fs:=fun hb=>by
 have:=(ok.yV.mem hb).1
 rw[e] at this;cases this
theorem Inv.bs(I:Inv X pins Y H s):∀b o,X.base.get? b=some o->s.heap.get? b=some o/\H b=none:=fun b o e=>
 ⟨I.base.keep b o (I.ok.bs b o e).1 (I.ok.bs b o e).2 (I.ok.SW e) (I.ok.KG b o e),I.base.free b o (I.ok.bs b o e).1 (I.ok.bs b o e).2 (I.ok.KG b o e)⟩
theorem Inv.bk(I:Inv X pins Y H s):∀b o,X.base.get? b=some o->s.heap.get? b=some o:=fun b o e=>(I.bs b o e).1
theorem Inv.mod(I:Inv X pins Y H s):Mod X.K X.mg X.base:=I.ok.mod
theorem Inv.kIn(I:Inv X pins Y H s):X.K.In s.heap:=I.ok.mod.kin.keeps I.bk
theorem Inv.nolimit(I:Inv X pins Y H s):s.heap.NoLimit:=I.ok.mod.nolimit.keeps I.bk
theorem Inv.lt(I:Inv X pins Y H s):X.env.locals<s.heap.objs.size:=let ⟨_,hn,_⟩:=I.loc;hn.lt
theorem Inv.sz(I:Inv X pins Y H s):X.ci.heap.objs.size<=s.heap.objs.size:=le_trans I.ok.above (Nat.le_of_lt I.lt)
theorem Inv.SI(I:Inv X pins Y H s){a:Addr}(h:s.heap.objs.size<=a):a ∉ X.fs:=fun hb=>by
 obtain⟨_,o,ho,_⟩:=I.ok.yV.mem hb
 exact absurd (lt_of_lt_of_le (Heap.lt_size ho) (le_trans I.sz h)) (lt_irrefl _)
theorem Inv.cne(I:Inv X pins Y H s):∀x c,X.env.cells.lookup x=some c->c≠X.env.locals:=fun x c e z=>by
 obtain⟨v,o,ho,hd⟩:=I.cell x c e
 obtain⟨m,⟨o',es,ep,ho',hd',_⟩,_⟩:=I.loc
 rw[z,ho'] at ho;cases ho;rw[hd'] at hd;cases hd
theorem Inv.yV(I:Inv X pins Y H s):s.heap.FunFrames X.base X.outer:=by
 have all:∀(l:List Env),(∀b∈frs l,b∈X.fs)->X.ci.heap.FunFrames X.base l->s.heap.FunFrames X.base l:=by
  intro l
  induction l with
  |nil=>intro _ _;trivial
  |cons env r ih=>
   intro hs hl
   obtain⟨hk,⟨L,o,hf,hn,ho,hd⟩,hr⟩:=hl
   have hL:L∈X.fs:=hs L (by unfold frs;rw[List.filterMap_cons,hf];exact mem_cons_self)
   obtain⟨sl,e⟩:=I.base.slot L o ho (I.ok.frf L hL) hL fun z=>I.ok.L4 L z hL
   exact⟨hk,⟨L,_,hf,hn,e,hd⟩,ih (fun b hb=>hs b (by unfold frs;rw[List.filterMap_cons,hf];exact mem_cons_of_mem _ hb)) hr⟩
 exact all X.outer (fun _ hb=>hb) I.ok.yV
theorem Inv.stack(I:Inv X pins Y H s):s.heap.FunFrames X.base X.stack:=by
 rcases I.ok.stk with e|⟨e,hf⟩
 ·rw[e];exact I.yV
 ·rw[e]
  obtain⟨m,hn,_⟩:=I.loc
  refine .cons (by rw[I.ok.kind];decide) hf hn ?_ I.yV
  exact Heap.get?_none_of_le (le_trans I.ok.bsz I.ok.above)
theorem Inv.CT(I:Inv X pins Y H s):∀b∈frs X.stack,b∈X.env.locals::X.fs:=fun b hb=>by
 rcases I.ok.stk with e|⟨e,hf⟩
 ·rw[e] at hb;exact mem_cons_of_mem _ hb
 ·rw[e] at hb
  unfold frs at hb
  rw[List.filterMap_cons,hf] at hb
  exact hb
theorem Inv.IK(I:Inv X pins Y H s):∀b∈frs X.stack,H b=none:=fun b hb=>by
 rcases List.mem_cons.mp (I.CT b hb) with e|hb
 ·rw[e];exact I.free
 ·obtain⟨_,o,ho,_⟩:=I.ok.yV.mem hb
  exact I.base.free b o ho (I.ok.frf b hb) fun z=>I.ok.L4 b z hb
theorem Inv.step{g':Array GenState}{t':Nat}{d':Drawn}{ch:List Addr}(I:Inv X pins Y H s)
  (hch:∀b∈ch,(b∈X.ex\/X.ci.heap.objs.size<=b)/\b≠X.env.locals/\(∀x c,X.env.cells.lookup x=some c->c≠b)/\∀p∈X.pn++pins,p.1≠b)
  (keep:∀b o,b≠X.env.locals->b ∉ X.fs->b ∉ ch->s.heap.get? b=some o->H b=none->h'.get? b=some o)
  (slot:∀b o,b≠X.env.locals->b∈X.fs->b ∉ ch->s.heap.get? b=some o->H b=none->∃sl,h'.get? b=some {o with slots:=sl}) (free:∀b o,b ∉ ch->s.heap.get? b=some o->H b=none->H' b=none)
  (there:∀b o,b ∉ ch->s.heap.get? b=some o->∃o',h'.get? b=some o')
  (xR:∀b xs,H b=some (.tup xs)->H' b=some (.tup xs)) (vL:∀b o u,H b=some (.frz o u)->H' b=some (.frz o u)) (wB:∀b ps,H b=some (.tbl ps)->∃more,H' b=some (.tbl (ps++more)))
  (ns:∀m,s.heap.Ns X.env.locals m->h'.Ns X.env.locals m) (hok:HOk X.prog X.w H' h') (hg:AllBare g') :
  Inv X pins Y H' {s with heap:=h',gens:=g',drawn:=d',toks:=t'}:=by
 have neL:∀b o,X.ci.heap.get? b=some o->b≠X.env.locals:=fun b o e=>ne_of_lt (lt_of_lt_of_le (Heap.lt_size e) I.ok.above)
 have neC:∀b o,X.ci.heap.get? b=some o->b ∉ X.ex->b ∉ ch:=fun b o e hx hb=>by
  rcases (hch b hb).1 with z|z
  ·exact hx z
  ·exact absurd (lt_of_lt_of_le (Heap.lt_size e) z) (lt_irrefl _)
 have cellK:∀x c,X.env.cells.lookup x=some c->∀v,s.heap.IsCell c v->h'.IsCell c v:=fun x c e v ⟨o,ho,hd⟩=>by
  have nch:c ∉ ch:=fun z=>(hch c z).2.2.1 x c e rfl
  by_cases hc:c∈X.fs
  ·obtain⟨sl,q⟩:=slot c o (I.cne x c e) hc nch ho (I.qY x c e)
   exact⟨_,q,hd⟩
  ·exact⟨o,keep c o (I.cne x c e) hc nch ho (I.qY x c e),hd⟩
 refine⟨I.ok,I.os,hg,⟨fun b o e n hb hx=>?_,fun b o e n hb hx=>?_,fun b o e n hx=>?_,fun b o e hx=>?_,fun b xs e=>xR b xs (I.base.xR b xs e),fun b o xs e=>vL b o xs (I.base.vL b o xs e),fun b ps e=>?_⟩,?_,fun x c e=>?_,?_,fun x c e=>?_,fun p hp=>?_,hok,I.len⟩
 ·exact keep b o (neL b o e) hb (neC b o e hx) (I.base.keep b o e n hb hx) (I.base.free b o e n hx)
 ·obtain⟨sl,e1⟩:=I.base.slot b o e n hb hx
  obtain⟨sl',e2⟩:=slot b _ (neL b o e) hb (neC b o e hx) e1 (I.base.free b o e n hx)
  exact⟨sl',e2⟩
 ·obtain⟨o',e1⟩:=I.base.there b o e hx
  exact free b o' (neC b o e hx) e1 (I.base.free b o e n hx)
 ·obtain⟨o',e1⟩:=I.base.there b o e hx
  exact there b o' (neC b o e hx) e1
 ·obtain⟨m1,e1⟩:=I.base.wB b ps e
  obtain⟨m2,e2⟩:=wB b _ e1
  exact⟨m1++m2,by rw[e2,Array.append_assoc]⟩
 ·obtain⟨m,hn,hl⟩:=I.loc
  refine⟨m,ns m hn,fun i x v e1 e2 e3=>?_⟩
  obtain⟨u,r,l⟩:=hl i x v e1 e2 e3
  refine⟨u,r,?_⟩
  rcases l with l|⟨k,c,e,z⟩
  ·exact .inl l
  ·exact .inr ⟨k,c,e,cellK x c e _ z⟩
 ·obtain⟨v,z⟩:=I.cell x c e
  exact⟨v,cellK x c e v z⟩
 ·obtain⟨m,⟨o,_,_,ho,_⟩,_⟩:=I.loc
  exact free _ o (fun z=>(hch _ z).2.1 rfl) ho I.free
 ·obtain⟨v,o,ho,hd⟩:=I.cell x c e
  exact free c o (fun z=>(hch c z).2.2.1 x c e rfl) ho (I.qY x c e)
 ·obtain⟨e,n,ne,nf,d⟩:=I.pin p hp
  have nch:p.1 ∉ ch:=fun z=>(hch p.1 z).2.2.2 p hp rfl
  exact⟨keep p.1 p.2 ne nf nch e n,free p.1 p.2 nch e n,ne,nf,d⟩
theorem Inv.un{t':Nat}(I:Inv X pins Y H s)(u:Un X.fs [] H H' s.heap h')(hok:HOk X.prog X.w H' h'):Inv X pins Y H' {s with heap:=h',toks:=t'}:=by
 obtain⟨m,⟨o,es,ep,ho,r⟩,_⟩:=id I.loc
 obtain⟨sl,hL⟩:=u.any ho I.free (by simp)
 exact I.step (g':=s.gens) (d':=s.drawn) (ch:=[]) (fun _ z=>nomatch z) (fun b o _ hb _ e n=>u.keep b o e n hb (by simp)) (fun b o _ hb _ e n=>u.slot b o e n hb (by simp)) (fun b o _ e n=>u.free b o e n (by simp)) (fun b o _ e=>u.there b o e (by simp)) u.xR u.vL u.wB (fun m' hm=>by
  obtain⟨o',es',ep',ho',r'⟩:=hm
  rw[ho] at ho';cases ho'
  exact⟨_,es',ep',hL,r'⟩) hok I.bare
theorem Inv.call{g':Array GenState}{t':Nat}{d':Drawn}{ch:List Addr}(I:Inv X pins Y H s)(u:Un (frs X.stack) ch H H' s.heap h')(hok:HOk X.prog X.w H' h')(hg:AllBare g')
  (hch:∀b∈ch,(b∈X.ex\/X.ci.heap.objs.size<=b)/\b≠X.env.locals/\(∀x c,X.env.cells.lookup x=some c->c≠b)/\∀p∈X.pn++pins,p.1≠b) :
  Inv X pins Y H' {s with heap:=h',gens:=g',drawn:=d',toks:=t'}:=by
 obtain⟨m,⟨o,es,ep,ho,r⟩,_⟩:=id I.loc
 obtain⟨sl,hL⟩:=u.any ho I.free fun z=>(hch _ z).2.1 rfl
 exact I.step (ch:=ch) hch (fun b o hL hb hc e n=>u.keep b o e n (fun z=>(List.mem_cons.mp (I.CT b z)).elim hL hb) hc) (fun b o _ _ hc e n=>u.any e n hc) (fun b o hc e n=>u.free b o e n hc) (fun b o hc e=>u.there b o e hc) u.xR u.vL u.wB (fun m' hm=>by
  obtain⟨o',es',ep',ho',r'⟩:=hm
  rw[ho] at ho';cases ho'
  exact⟨_,es',ep',hL,r'⟩) hok hg
theorem Inv.turned{t':Nat}{it:Addr}(I:Inv X pins Y H s)(k:∀b o,b≠it->s.heap.get? b=some o->h'.get? b=some o)(hn:H it=none)(hL:it≠X.env.locals)
  (h1:it∈X.ex\/X.ci.heap.objs.size<=it) (h2:∀x c,X.env.cells.lookup x=some c->c≠it) (h3:∀p∈X.pn++pins,p.1≠it):Inv X pins Y H {s with heap:=h',toks:=t'}:=by
 have nit:∀b u,H b=some u->b≠it:=fun b u e z=>by rw[z,hn] at e;cases e
 refine I.step (g':=s.gens) (d':=s.drawn) (ch:=[it]) (fun b hb=>?_) (fun b o _ _ hc e _=>k b o (fun z=>hc (by simp[z])) e) (fun b o _ _ hc e _=>⟨o.slots,k b o (fun z=>hc (by simp[z])) e⟩) (fun _ _ _ _ n=>n)
  (fun b o hc e=>⟨o,k b o (fun z=>hc (by simp[z])) e⟩) (fun _ _ e=>e) (fun _ _ _ e=>e) (fun b ps e=>⟨#[],by rw[e];simp⟩) (fun m hm=>?_) (fun b u e=>?_) I.bare
 ·have e:b=it:=by simpa using hb
  subst e
  exact⟨h1,hL,h2,h3⟩
 ·obtain⟨o,es,ep,ho,r⟩:=hm
  exact⟨o,es,ep,k _ o (Ne.symm hL) ho,r⟩
 ·refine (I.hok b u e).lj (fun c v hc q=>k c v ?_ q) (fun _ q=>q) fun _ _ q=>q
  rcases hc with z|z
  ·rw[z];exact nit b u e
  ·exact nit c _ z
theorem Inv.tok(I:Inv X pins Y H s)(t:Nat):Inv X pins Y H {s with toks:=t}:=I.un (h':=s.heap) (t':=t) Un.refl I.hok
theorem Inv.kept{t':Nat}(I:Inv X pins Y H s)(k:∀b u,s.heap.get? b=some u->h'.get? b=some u):Inv X pins Y H {s with heap:=h',toks:=t'}:=I.un (Un.kept k) (I.hok.kept k)
theorem Inv.laid{a:Addr}{o:HO}{t':Nat}(I:Inv X pins Y H s)(k:∀b u,s.heap.get? b=some u->h'.get? b=some u)(hp:s.heap.objs.size<=a)(new:jq X.prog X.w (upd H a o) h' a o) :
  Inv X pins Y (upd H a o) {s with heap:=h',toks:=t'}:=I.un (Un.laid k hp (I.hok.fresh hp)) (I.hok.laid k hp new)
theorem Inv.write{x e:Addr}{o:HO}{t':Nat}(I:Inv X pins Y H s)(mu:Mut (H x))(he:e=x\/H e=some (.own x))(k:∀b u,b≠e->s.heap.get? b=some u->h'.get? b=some u)(heo:∃u,h'.get? e=some u)
  (new:jq X.prog X.w (upd H x o) h' x o):Inv X pins Y (upd H x o) {s with heap:=h',toks:=t'}:=I.un (Un.write mu he k heo) (I.hok.write mu he k heo new)
theorem Inv.HN{pins':List (Addr×Obj)}(I:Inv X pins Y H s)(h:∀p∈pins',s.heap.get? p.1=some p.2/\H p.1=none/\p.1≠X.env.locals/\p.1 ∉ X.fs/\∀v,p.2.data≠.cell v):Inv X pins' Y H s:=
 ⟨I.ok,I.os,I.bare,I.base,I.loc,I.cell,I.free,I.qY,fun p hp=>(List.mem_append.mp hp).elim (fun z=>I.pin p (mem_append_left _ z)) (h p),I.hok,I.len⟩
theorem ET{N:List Str}(hN:N.Nodup){i j:Nat}{x:Str}(a:N[i]? = some x)(b:N[j]? = some x):i=j:=by
 obtain⟨h1,e1⟩:=List.getElem?_eq_some_iff.mp a
 obtain⟨h2,e2⟩:=List.getElem?_eq_some_iff.mp b
 exact (List.getElem_inj hN).mp (e1.trans e2.symm)
theorem JF{M:Model}{A:Around}{E:Value->Shared->Prop}{i:Nat}{x:Str}{v:V}{u:Value}{Q:Unit->Shared->Prop}(I:Inv X pins Y H s)(hN:X.N.Nodup)(hi:X.N[i]? = some x)(hx:Loc X.env.scope x)(r:RelV v u)
  (h:∀s',Inv X pins (Y.set i (some v)) H s'->(∃a,Heap.SameBut a s.heap s'.heap/\(a=X.env.locals\/X.env.cells.lookup x=some a))->Q () s') (hf:X.fn x=true\/X.env.scope.names.lookup x=some .local:=by first|exact .inl rfl|exact .inr rfl|assumption):wpAny M A (storeName X.env x u) Q E s:=by
 obtain⟨m,hn,hl⟩:=id I.loc
 have hcls:(X.env.scope.kind==.class || (X.env.scope.kind==.module&&X.env.locals != X.env.globals))=false:=by rw[I.ok.kind];rfl
 have pd:i<Y.length:=by rw[I.len];exact (List.getElem?_eq_some_iff.mp hi).1
 have cne:=I.cne
 have tracked:∀{a:Addr} {h':Heap},(∃o,s.heap.get? a=some o/\H a=none)->Heap.SameBut a s.heap h'->HOk X.prog X.w H h':=fun {a h'} ha hs b ob e=>by
  obtain⟨_,_,hfree⟩:=ha
  refine (I.hok b ob e).lj (fun c w' hc q=>(hs.2 c ?_).trans q) (fun _ q=>q) fun _ _ q=>q
  rintro rfl
  rcases hc with rfl|hc
  ·rw[hfree] at e;cases e
  ·rw[hfree] at hc;cases hc
 rcases hx with hk|hk
 ·refine wpAny_storeName_local hk hn (fun h' hn' hs=>?_) hcls
  obtain⟨oL,_,_,hoL,_⟩:=id hn
  refine h _ ⟨I.ok,I.os,I.bare,⟨fun b o e n hb hx=>?_,fun b o e n hb hx=>?_,I.base.free,fun b o e hx=>?_,I.base.xR,I.base.vL,I.base.wB⟩,⟨_,hn',fun j y v' e1 e2 e3=>?_⟩,fun y c e=>?_,I.free,I.qY,fun p hp=>?_,tracked ⟨oL,hoL,I.free⟩ hs,by simpa using I.len⟩ ⟨_,hs,.inl rfl⟩
  ·exact (hs.2 b (ne_of_lt (lt_of_lt_of_le (Heap.lt_size e) I.ok.above))).trans (I.base.keep b o e n hb hx)
  ·obtain⟨sl,e1⟩:=I.base.slot b o e n hb hx
   exact⟨sl,(hs.2 b (ne_of_lt (lt_of_lt_of_le (Heap.lt_size e) I.ok.above))).trans e1⟩
  ·obtain⟨o',e1⟩:=I.base.there b o e hx
   exact⟨o',(hs.2 b (ne_of_lt (lt_of_lt_of_le (Heap.lt_size e) I.ok.above))).trans e1⟩
  ·by_cases hj:j=i
   ·subst hj
    rw[hi] at e1;cases e1
    rw[List.getElem?_set_self pd] at e2
    cases e2
    exact⟨u,r,.inl ⟨hk,by simp⟩⟩
   ·rw[List.getElem?_set_ne (Ne.symm hj)] at e2
    obtain⟨u',r',q⟩:=hl j y v' e1 e2 e3
    refine⟨u',r',?_⟩
    rcases q with ⟨k,e⟩|⟨k,c,e,z⟩
    ·refine .inl ⟨k,?_⟩
     have:y≠x:=fun e=>hj (ET hN e1 (e▸hi))
     simp[this,e]
    ·exact .inr ⟨k,c,e,z.sameBut hs (cne y c e)⟩
  ·obtain⟨w',z⟩:=I.cell y c e
   exact⟨w',z.sameBut hs (cne y c e)⟩
  ·obtain⟨e,n,ne,nf,d⟩:=I.pin p hp
   exact⟨(hs.2 p.1 ne).trans e,n,ne,nf,d⟩
 ·have hfn:X.fn x=true:=by
   rcases hf with z|z
   ·exact z
   ·rw[z] at hk;cases hk
  obtain⟨c,hc⟩:=I.ok.has x (.inl hk)
  obtain⟨w',z⟩:=I.cell x c hc
  refine wpAny_storeName_cell I.ok.kind hk hc z (fun h' hc' hs=>?_)
  obtain⟨oc,hoc,hocd⟩:=id z
  refine h {s with heap:=h'} ⟨I.ok,I.os,I.bare,⟨fun b o e n hb hx=>?_,fun b o e n hb hx=>?_,I.base.free,fun b o e hx=>?_,I.base.xR,I.base.vL,I.base.wB⟩,⟨m,hn.sameBut hs (Ne.symm (cne x c hc)),fun j y v' e1 e2 e3=>?_⟩,fun y c' e=>?_,I.free,I.qY,fun p hp=>?_,tracked ⟨oc,hoc,I.qY x c hc⟩ hs,by simpa using I.len⟩ ⟨c,hs,.inr hc⟩
  ·exact (hs.2 b (ne_of_lt (lt_of_lt_of_le (Heap.lt_size e) (I.ok.cab x c hfn hc)))).trans (I.base.keep b o e n hb hx)
  ·obtain⟨sl,e1⟩:=I.base.slot b o e n hb hx
   exact⟨sl,(hs.2 b (ne_of_lt (lt_of_lt_of_le (Heap.lt_size e) (I.ok.cab x c hfn hc)))).trans e1⟩
  ·obtain⟨o',e1⟩:=I.base.there b o e hx
   exact⟨o',(hs.2 b (ne_of_lt (lt_of_lt_of_le (Heap.lt_size e) (I.ok.cab x c hfn hc)))).trans e1⟩
  ·by_cases hj:j=i
   ·subst hj
    rw[hi] at e1;cases e1
    rw[List.getElem?_set_self pd] at e2
    cases e2
    exact⟨u,r,.inr ⟨.inl hk,c,hc,hc'⟩⟩
   ·rw[List.getElem?_set_ne (Ne.symm hj)] at e2
    obtain⟨u',r',q⟩:=hl j y v' e1 e2 e3
    refine⟨u',r',?_⟩
    rcases q with q|⟨k,c',e,z'⟩
    ·exact .inl q
    ·refine .inr ⟨k,c',e,z'.sameBut hs ?_⟩
     rintro rfl
     exact hj (ET hN e1 (I.ok.inj _ _ _ e hc▸hi))
  ·by_cases hcc:c'=c
   ·subst hcc;exact⟨_,hc'⟩
   ·obtain⟨w2,z2⟩:=I.cell y c' e
    exact⟨w2,z2.sameBut hs hcc⟩
  ·obtain⟨e,n,ne,nf,d⟩:=I.pin p hp
   refine⟨(hs.2 p.1 ?_).trans e,n,ne,nf,d⟩
   intro q
   rw[q,hoc] at e
   have q':oc=p.2:=Option.some.inj e
   exact d w' (by rw[<- q'];exact hocd)
theorem mn{M:Model}{A:Around}{E:Value->Shared->Prop}{i:Nat}{x:Str}{v:V}{u:Value}{Q:Unit->Shared->Prop}(I:Inv X pins Y H s)(hN:X.N.Nodup)(hi:X.N[i]? = some x)(hx:Loc X.env.scope x)(r:RelV v u)
  (h:∀s',Inv X pins (Y.set i (some v)) H s'->Q () s') (hf:X.fn x=true\/X.env.scope.names.lookup x=some .local:=by first|exact .inl rfl|exact .inr rfl|assumption):wpAny M A (storeName X.env x u) Q E s:=
 JF I hN hi hx r (fun s' I' _=>h s' I') hf
theorem Inv.NN{s':Shared}{ch:List Addr}(I:Inv X pins Y H s)(ho:s'.os=s.os)(u:Un (frs X.stack) ch H H' s.heap s'.heap)(hok:HOk X.prog X.w H' s'.heap)(hg:AllBare s'.gens)
  (hch:∀b∈ch,(b∈X.ex\/X.ci.heap.objs.size<=b)/\b≠X.env.locals/\(∀x c,X.env.cells.lookup x=some c->c≠b)/\∀p∈X.pn++pins,p.1≠b):Inv X pins Y H' s':=by
 obtain⟨h',g',d',t',o'⟩:=s'
 have e:o'=s.os:=ho
 subst e
 exact I.call (g':=g') (t':=t') (d':=d') u hok hg hch
end
noncomputable abbrev XK:=Value->Option Addr->Hp->Prop
noncomputable abbrev St:=List (Option V)
noncomputable abbrev VK:=V->Hp->Prop
noncomputable abbrev TE:=St->Hp->VK->Prop
noncomputable abbrev TT:=St->Hp->(Bool->Hp->Prop)->Prop
noncomputable abbrev TA:=St->Hp->(List V->Hp->Prop)->Prop
structure Ends where
 nx:St->Hp->Prop
 rt:VK
 bk:St->Hp->Prop:=fun _ _=>False
 ct:St->Hp->Prop:=fun _ _=>False
noncomputable abbrev TS:=Ends->St->Hp->Prop
noncomputable def EP(X:Cx)(pins:List (Addr×Obj))(Y:St)(Q:VK)(u:Value)(s':Shared):Prop:=∃v H',Inv X pins Y H' s'/\RelV v u/\Q v H'
noncomputable def TP(X:Cx)(pins:List (Addr×Obj))(Y:St)(Q:Bool->Hp->Prop)(b:Bool)(s':Shared):Prop:=∃H',Inv X pins Y H' s'/\Q b H'
noncomputable def AP(X:Cx)(pins:List (Addr×Obj))(Y:St)(Q:List V->Hp->Prop)(us:List Value)(s':Shared):Prop:=∃vs H',Inv X pins Y H' s'/\Vals vs us/\Q vs H'
noncomputable def SP(X:Cx)(pins:List (Addr×Obj))(D:Ends)(f:Flow)(s':Shared):Prop:=
 match f with
 |.next=>∃al H',Inv X pins al H' s'/\D.nx al H'
 |.brk=>∃al H',Inv X pins al H' s'/\D.bk al H'
 |.cont=>∃al H',Inv X pins al H' s'/\D.ct al H'
 |.ret u=>∃v al H',Inv X pins al H' s'/\RelV v u/\D.rt v H'
noncomputable def PE(X:Cx)(e:Expr)(t:TE):Prop:=
 ∀(pins:List (Addr×Obj)) (s:Shared) (Y:St) (H:Hp) (Q:VK),Inv X pins Y H s->t Y H Q->wpAny (model X.prog X.w) X.A (eval e X.env) (EP X pins Y Q) X.xe s
noncomputable def PT(X:Cx)(e:Expr)(t:TT):Prop:=
 ∀(pins:List (Addr×Obj)) (s:Shared) (Y:St) (H:Hp) (Q:Bool->Hp->Prop),Inv X pins Y H s->t Y H Q->wpAny (model X.prog X.w) X.A (isTrue e X.env (eval e X.env)) (TP X pins Y Q) X.xe s
noncomputable def PW(X:Cx)(e:Expr)(t:TT):Prop:=
 ∀(whole:Sem Value) (pins:List (Addr×Obj)) (s:Shared) (Y:St) (H:Hp) (Q:Bool->Hp->Prop),Inv X pins Y H s->t Y H Q->wpAny (model X.prog X.w) X.A (isTrue e X.env whole) (TP X pins Y Q) X.xe s
theorem PW.pt{X:Cx}{e:Expr}{t:TT}(h:PW X e t):PT X e t:=h _
noncomputable def PA(X:Cx)(es:List Expr)(t:TA):Prop:=
 ∀(pos:Pos) (pins:List (Addr×Obj)) (s:Shared) (Y:St) (H:Hp) (Q:List V->Hp->Prop),Inv X pins Y H s->t Y H Q->wpAny (model X.prog X.w) X.A (spliced (backTo pos (starEach es X.env))) (AP X pins Y Q) X.xe s
noncomputable def PS(X:Cx)(st:Stmt)(t:TS):Prop:=
 ∀(pins:List (Addr×Obj)) (s:Shared) (Y:St) (H:Hp) (D:Ends),Inv X pins Y H s->t D Y H->wpAny (model X.prog X.w) X.A (exec st X.env) (SP X pins D) X.xe s
noncomputable def PSs(X:Cx)(st:List Stmt)(t:TS):Prop:=
 ∀(pins:List (Addr×Obj)) (s:Shared) (Y:St) (H:Hp) (D:Ends),Inv X pins Y H s->t D Y H->wpAny (model X.prog X.w) X.A (execs st X.env) (SP X pins D) X.xe s
theorem thn{α:Type}{t:Sem α}{Q Q':α->Shared->Prop}{M:Model}{A:Around}{E:Value->Shared->Prop}{s:Shared}(h:wpAny M A t Q E s)(hQ:∀a s,Q a s->Q' a s):wpAny M A t Q' E s:=wpAny_mono h hQ fun _ _ x=>x
end L2
namespace L2
open PySem PySem.Spec PyProof.Rows
section
variable {X:Cx}
theorem bin{a b:Expr}{ta tb:TE}(ha:PE X a ta)(hb:PE X b tb){pins:List (Addr×Obj)}{s:Shared}{Y:St}{H:Hp}{R:V->V->Hp->Prop}(I:Inv X pins Y H s)(h:ta Y H fun x H1=>tb Y H1 fun y H2=>R x y H2)
  {α:Type} {Q:α->Shared->Prop} {f:Value->Value->Sem α}
  (hf:∀v u s2 x y H2,Inv X pins Y H2 s2->RelV x v->RelV y u->R x y H2->wpAny (model X.prog X.w) X.A (f v u) Q X.xe s2) :
  wpAny (model X.prog X.w) X.A (eval a X.env) (fun v bd=>wpAny (model X.prog X.w) X.A (eval b X.env) (fun u dL=>wpAny (model X.prog X.w) X.A (f v u) Q X.xe dL) X.xe bd) X.xe s:=by
 refine thn (ha pins s Y H _ I h) fun v s1 hq0=>?_
 obtain⟨x,H1,I1,r1,q1⟩:=hq0
 refine thn (hb pins s1 Y H1 _ I1 q1) fun u s2 hq0=>?_
 obtain⟨y,H2,I2,r2,q2⟩:=hq0
 exact hf v u s2 x y H2 I2 r1 r2 q2
noncomputable def Rw(i:Nat):TE:=fun Y H Q=>∃v,Y[i]? = some (some v)/\Q v H
noncomputable def tC(v:V):TE:=fun _ H Q=>Q v H
theorem Ou{i:Nat}{x:Str}{pos:Pos}(hN:X.N[i]? = some x)(hv:Vis X.env.scope x)(hd:(x==("__debug__":Str))=false:=by decide)(hcd:(x==("__classdict__":Str))=false:=by decide):PE X (.Name x pos) (Rw i):=by
 intro pins s Y H Q I h
 obtain⟨v,e,h⟩:=h
 obtain⟨m,hn,hl⟩:=I.loc
 obtain⟨u,r,l⟩:=hl i x v hN e hv
 have fin:EP X pins Y Q u s:=⟨v,H,I,r,h⟩
 rcases l with ⟨hk,hm⟩|⟨hk,c,hc,hcell⟩
 ·exact wpAny_Name (wpAny_loadName_local I.ok.kind hk hn hm fin) hd
 ·rcases hk with hk|hk
  ·exact wpAny_Name (wpAny_loadName_cell I.ok.kind hk hc hcell fin) hd
  ·exact wpAny_Name (wpAny_loadName_free I.ok.kind hk hc hcell fin hcd) hd
theorem Pw{i j pos}:PE X (.Constant (.int i) j pos) (tC (.int i)):=fun _ _ _ H _ I h=>wpAny_Constant_int ⟨.int i,H,I.tok _,⟨_,rfl⟩,h⟩
theorem Ro{b j pos}:PE X (.Constant (.bool b) j pos) (tC (.bl b)):=fun _ _ _ H _ I h=>Constant_bool ⟨.bl b,H,I,rfl,h⟩
theorem Of{x j pos}:PE X (.Constant (.str x) j pos) (tC (.str x)):=fun _ _ _ H _ I h=>Calls.Constant_str ⟨.str x,H,I.tok _,⟨_,rfl⟩,h⟩
noncomputable def Gl(X:Cx)(x:Str):Prop:=X.env.kindOf x=some .globalImplicit
theorem Ia{E:Value->Shared->Prop}{pins:List (Addr×Obj)}{s:Shared}{Y:St}{H:Hp}{x:Str}{u:Value}{pos:Pos}{Q:Value->Shared->Prop}(I:Inv X pins Y H s)(hg:Gl X x)(hm:X.mg x=some u)(h:Q u s)
  (hd:(x==("__debug__":Str))=false:=by decide):wpAny (model X.prog X.w) X.A (eval (.Name x pos) X.env) Q E s:=
 Calls.Name_function_global I.ok.kind hg (Calls.loadGlobal_global (by rw[I.ok.glob];exact I.mod.glob.keeps I.bk) hm h) hd
theorem vR{E:Value->Shared->Prop}{pins:List (Addr×Obj)}{s:Shared}{Y:St}{H:Hp}{x:Str}{u:Value}{pos:Pos}{Q:Value->Shared->Prop}(I:Inv X pins Y H s)(hg:Gl X x)(hm:X.mg x=none)(hv:bootBuiltins x=some u)(h:Q u s)
  (hn:x ≠ "__name__":=by decide) (hd:(x==("__debug__":Str))=false:=by decide):wpAny (model X.prog X.w) X.A (eval (.Name x pos) X.env) Q E s:=by
 obtain⟨mb,h1,h2⟩:=I.mod.blt
 exact Calls.Name_function_global I.ok.kind hg (Calls.loadGlobal_builtin (by rw[I.ok.glob];exact I.mod.glob.keeps I.bk) hm (by rw[I.ok.blt];exact h1.keeps I.bk) ((h2 x hn).trans hv) h) hd
theorem Nc{x:Str}{v:V}{u:Value}{pos:Pos}(hg:Gl X x)(hm:X.mg x=some u)(r:RelV v u)(hd:(x==("__debug__":Str))=false:=by decide):PE X (.Name x pos) (tC v):=
 fun _ _ _ H _ I h=>Ia I hg hm ⟨v,H,I,r,h⟩ hd
theorem ND{x:Str}{v:V}{u:Value}{pos:Pos}(hg:Gl X x)(hm:X.mg x=none)(hv:bootBuiltins x=some u)(r:RelV v u)(hn:x ≠ "__name__":=by decide)(hd:(x==("__debug__":Str))=false:=by decide):PE X (.Name x pos) (tC v):=
 fun _ _ _ H _ I h=>vR I hg hm hv ⟨v,H,I,r,h⟩ hn hd
variable {a b:Expr}{ta tb:TE}{pos:Pos}
noncomputable def PC(X:Cx)(op:CmpOp)(a b:Expr)(t:TE):Prop:=
 ∀(pins:List (Addr×Obj)) (s:Shared) (Y:St) (H:Hp) (Q:VK),Inv X pins Y H s->t Y H Q ->
  wpAny (model X.prog X.w) X.A (eval a X.env) (fun v bd=>wpAny (model X.prog X.w) X.A (eval b X.env) (fun u dL=>wpAny (model X.prog X.w) X.A (compareOp op v u) (EP X pins Y Q) X.xe dL) X.xe bd) X.xe s
theorem LD(b:Expr){op:CmpOp}(h:op≠.In)(h2:op≠.NotIn):behindInMarks op b=false:=by
 have e1:(op==CmpOp.In)=false:=by cases op<;>first|rfl|exact absurd rfl h
 have e2:(op==CmpOp.NotIn)=false:=by cases op<;>first|rfl|exact absurd rfl h2
 cases b<;>simp[behindInMarks,e1,e2]
noncomputable def tB(t:TE):TT:=fun Y H Q=>t Y H fun x H1=>∃c,x = .bl c/\Q c H1
theorem SH{op:CmpOp}{t:TE}(h:PC X op a b t)(h1:behindInMarks op b=false:=by first|exact LD _ ⋯ ⋯|rfl):PT X (.Compare a [op] [b] pos) (tB t):=by
 intro pins s Y H Q I hw
 refine wpAny_isTrue_Compare1 (thn (h pins s Y H _ I hw) fun v s1 h1=>thn h1 fun u s2 h2=>thn h2 fun c s3 hq0=>?_) h1
 obtain⟨x,H1,I1,r1,q1⟩:=hq0
 obtain⟨d,rfl,q⟩:=q1
 cases r1
 exact wpAny_truthy_bool ⟨H1,I1,q⟩
theorem OF{e:Expr}{t:TE}(h:PE X e t)(he:∀whole,isTrue e X.env whole=(do let v <- whole;standAt e.pos;holding [v] (truthy v)):=by intro _;rfl):PT X e (tB t):=by
 intro pins s Y H Q I hw
 refine isTrue_plain (thn (h pins s Y H _ I hw) fun v s1 hq0=>?_) (he _)
 obtain⟨x,H1,I1,r1,q1⟩:=hq0
 obtain⟨d,rfl,q⟩:=q1
 cases r1
 exact wpAny_truthy_bool ⟨H1,I1,q⟩
variable {tA tB':TT}{rest:List Expr}
noncomputable def Sg(t u:TT):TT:=fun Y H Q=>t Y H fun c H1=>if c=true then u Y H1 Q else Q false H1
noncomputable def tOr(t u:TT):TT:=fun Y H Q=>t Y H fun c H1=>if c=true then Q true H1 else u Y H1 Q
noncomputable def Sm(t:TT):TT:=fun Y H Q=>t Y H fun c H1=>Q (!c) H1
theorem pw_and1(ha:PT X a tA):PW X (.BoolOp .And [a] pos) tA:=by
 intro wh pins s Y H Q I h
 refine isTrue_and (thn (ha pins s Y H Q I h) fun c s1 e=>?_)
 cases c with
 |true=>exact isTrue_and_nil e
 |false=>exact e
theorem pw_or1(ha:PT X a tA):PW X (.BoolOp .Or [a] pos) tA:=by
 intro wh pins s Y H Q I h
 refine isTrue_or (thn (ha pins s Y H Q I h) fun c s1 e=>?_)
 cases c with
 |false=>exact isTrue_or_nil e
 |true=>exact e
theorem pw_and(ha:PT X a tA)(hb:PW X (.BoolOp .And (b::rest) pos) tB'):PW X (.BoolOp .And (a::b::rest) pos) (Sg tA tB'):=by
 intro wh pins s Y H Q I h
 refine isTrue_and (thn (ha pins s Y H _ I h) fun c s1 hq0=>?_)
 obtain⟨H1,I1,q1⟩:=hq0
 cases c with
 |true=>exact hb wh pins s1 Y H1 Q I1 q1
 |false=>exact⟨H1,I1,q1⟩
theorem pw_or(ha:PT X a tA)(hb:PW X (.BoolOp .Or (b::rest) pos) tB'):PW X (.BoolOp .Or (a::b::rest) pos) (tOr tA tB'):=by
 intro wh pins s Y H Q I h
 refine isTrue_or (thn (ha pins s Y H _ I h) fun c s1 hq0=>?_)
 obtain⟨H1,I1,q1⟩:=hq0
 cases c with
 |true=>exact⟨H1,I1,q1⟩
 |false=>exact hb wh pins s1 Y H1 Q I1 q1
theorem OE(ha:PT X a tA):PT X (.UnaryOp .Not a pos) (Sm tA):=by
 intro pins s Y H Q I h
 exact isTrue_not (ha pins s Y H (fun c H1=>Q (!c) H1) I h)
noncomputable def R4(ta tb:TE):TE:=fun Y H Q=>ta Y H fun x H1=>∃c,x = .bl c/\if c=true then tb Y H1 Q else Q (.bl false) H1
noncomputable def QH(ta:TE):TE:=fun Y H Q=>ta Y H fun x H1=>∃c,x = .bl c/\Q (.bl (!c)) H1
theorem OS{op}{t:TE}(h:PE X a t):PE X (.BoolOp op [a] pos) t:=fun pins s Y H Q I hw=>BoolOp_one (h pins s Y H Q I hw)
theorem Po(ha:PE X a ta)(hb:PE X (.BoolOp .And (b::rest) pos) tb):PE X (.BoolOp .And (a::b::rest) pos) (R4 ta tb):=by
 intro pins s Y H Q I h
 refine BoolOp_and (thn (ha pins s Y H _ I h) fun v s1 hq0=>?_)
 obtain⟨x,H1,I1,r1,q1⟩:=hq0
 obtain⟨c,rfl,q1⟩:=q1
 cases r1
 refine wpAny_truthy_bool ?_
 cases c with
 |true=>exact hb pins s1 Y H1 Q I1 q1
 |false=>exact⟨.bl false,H1,I1,rfl,q1⟩
theorem Ot(ha:PE X a ta):PE X (.UnaryOp .Not a pos) (QH ta):=by
 intro pins s Y H Q I h
 refine UnaryOp_ (thn (ha pins s Y H _ I h) fun v s1 hq0=>?_)
 obtain⟨x,H1,I1,r1,q1⟩:=hq0
 obtain⟨c,rfl,q1⟩:=q1
 cases r1
 exact not_of (wpAny_truthy_bool ⟨.bl (!c),H1,I1,rfl,q1⟩)
noncomputable def tIf(t:TT)(ta tb:TE):TE:=fun Y H Q=>t Y H fun c H1=>if c=true then ta Y H1 Q else tb Y H1 Q
theorem K0{c:Expr}(hc:PT X c tA)(ha:PE X a ta)(hb:PE X b tb):PE X (.IfExp c a b pos) (tIf tA ta tb):=by
 intro pins s Y H Q I h
 refine wpAny_IfExp (thn (hc pins s Y H _ I h) fun d s1 hq0=>?_)
 obtain⟨H1,I1,q1⟩:=hq0
 cases d with
 |true=>exact ha pins s1 Y H1 Q I1 q1
 |false=>exact hb pins s1 Y H1 Q I1 q1
end
end L2
namespace L2
open PySem PySem.Spec PyProof.Rows
noncomputable def SqL(K:PySem.W.Frag)(H:Hp)(a:Addr)(xs:List V):Prop:=
 Rd H a (.lst xs) \/
  ∃(o:Obj) (its:Array Value) (n:Nat),K.lookup a=some o/\o.cls = .type "list"/\o.dict=none/\o.data = .seq its n/\its.size<=sizeLine/\Vals xs its.toList
noncomputable def SqT(K:PySem.W.Frag)(H:Hp)(a:Addr)(xs:List V):Prop:=
 Rd H a (.tup xs) \/
  ∃(o:Obj) (its:Array Value) (n:Nat),K.lookup a=some o/\o.cls = .type "tuple"/\o.data = .seq its n/\its.size<=sizeLine/\Vals xs its.toList
noncomputable def Sl:Value->Option V
 |.none=>some .non
 |.bool b=>some (.bl b)
 |.int i _=>some (.int i)
 |.str x _=>some (.str x)
 |.bytes b _=>some (.byt b)
 |.float b _=>some (.flt b)
 |.ref a=>some (.ref a)
 |.type n=>some (.ty n)
 |_=>none
theorem RelV.abs{x:V}{u:Value}(r:RelV x u):Sl u=some x:=by
 cases x with
 |non=>cases r;rfl
 |bl _=>cases r;rfl
 |int _=>obtain⟨t,rfl⟩:=r;rfl
 |str _=>obtain⟨t,rfl⟩:=r;rfl
 |byt _=>obtain⟨t,rfl⟩:=r;rfl
 |flt _=>obtain⟨t,rfl⟩:=r;rfl
 |ref _=>cases r;rfl
 |ty _=>cases r;rfl
theorem RelV.inj{x y:V}{u:Value}(r:RelV x u)(q:RelV y u):x=y:=Option.some.inj (r.abs.symm.trans q.abs)
theorem Vals.inj:∀{xs ys:List V} {us:List Value},Vals xs us->Vals ys us->xs=ys
 |_,_,_,.nil,.nil=>rfl
 |_,_,_,.cons r t,.cons r' t'=>by rw[r.inj r',Vals.inj t t']
section
variable {X:Cx}{pins:List (Addr×Obj)}{Y:St}{H:Hp}{s:Shared}{a:Addr}{xs ys:List V}
theorem SqL.of{K:PySem.W.Frag}(h:H a=some (.lst xs)):SqL K H a xs:=.inl (.inl h)
theorem SqT.of{K:PySem.W.Frag}(h:H a=some (.tup xs)):SqT K H a xs:=.inl (.inl h)
theorem Inv.list(I:Inv X pins Y H s)(h:SqL X.K H a xs):∃its:List Value,Vals xs its/\PlainL s.heap a its.toArray/\xs.length<=sizeLine:=by
 rcases h with h|⟨o,its,n,hk,hc,hd,hs,hz,r⟩
 ·obtain⟨z,its,n,r,e⟩:=h.ok I.hok
  exact⟨its,r,⟨_,n,e,rfl,rfl,rfl⟩,z⟩
 ·refine⟨its.toList,r,⟨o,n,I.kIn a o hk,hc,hd,by simpa using hs⟩,?_⟩
  have e:=r.length
  simp only[Array.length_toList] at e
  omega
theorem Inv.tuple(I:Inv X pins Y H s)(h:SqT X.K H a xs):∃its:List Value,Vals xs its/\IsTup s.heap a its.toArray/\xs.length<=sizeLine:=by
 rcases h with h|⟨o,its,n,hk,hc,hs,hz,r⟩
 ·obtain⟨z,its,r,p⟩:=h.ok I.hok
  exact⟨its,r,p,z⟩
 ·refine⟨its.toList,r,⟨o,I.kIn a o hk,hc,n,by simpa using hs⟩,?_⟩
  have e:=r.length
  simp only[Array.length_toList] at e
  omega
theorem Inv.FN(I:Inv X pins Y H s)(h:SqL X.K H a xs)(h':SqL X.K H a ys):xs=ys:=by
 obtain⟨its,r,⟨o,n,e,_,_,d⟩,_⟩:=I.list h
 obtain⟨its',r',⟨o',n',e',_,_,d'⟩,_⟩:=I.list h'
 rw[e] at e';cases e'
 rw[d] at d'
 injection d' with d1 _
 have:its=its':=by simpa using congrArg Array.toList d1
 subst this
 exact r.inj r'
theorem Inv.BC(I:Inv X pins Y H s)(h:SqT X.K H a xs)(h':SqT X.K H a ys):xs=ys:=by
 obtain⟨its,r,⟨o,e,_,n,d⟩,_⟩:=I.tuple h
 obtain⟨its',r',⟨o',e',_,n',d'⟩,_⟩:=I.tuple h'
 rw[e] at e';cases e'
 rw[d] at d'
 injection d' with d1 _
 have:its=its':=by simpa using congrArg Array.toList d1
 subst this
 exact r.inj r'
end
noncomputable abbrev Cx.AW(X:Cx)(E:Value->Shared->Prop):Cx:={X with xe:=E}
noncomputable abbrev Cx.nox(X:Cx):Cx:=X.AW fun _ _=>False
theorem Cx.Ok.AW{X:Cx}(ok:X.Ok)(E:Value->Shared->Prop):(X.AW E).Ok:=
 ⟨ok.mod,ok.kind,ok.glob,ok.blt,ok.above,ok.inj,ok.has,ok.cab,ok.hd,ok.qt,ok.frames,ok.stk,ok.exf,ok.bs,ok.bsz,ok.KG,ok.L4,ok.yV,ok.frf⟩
theorem Cx.Ok.p8{X:Cx}{E:Value->Shared->Prop}(ok:(X.AW E).Ok):X.Ok:=
 ⟨ok.mod,ok.kind,ok.glob,ok.blt,ok.above,ok.inj,ok.has,ok.cab,ok.hd,ok.qt,ok.frames,ok.stk,ok.exf,ok.bs,ok.bsz,ok.KG,ok.L4,ok.yV,ok.frf⟩
section
variable {X:Cx}{pins:List (Addr×Obj)}{Y:St}{H:Hp}{s:Shared}{E:Value->Shared->Prop}
theorem Inv.AW(I:Inv X pins Y H s)(E:Value->Shared->Prop):Inv (X.AW E) pins Y H s:=⟨I.ok.AW E,I.os,I.bare,I.base,I.loc,I.cell,I.free,I.qY,I.pin,I.hok,I.len⟩
theorem Inv.p8(I:Inv (X.AW E) pins Y H s):Inv X pins Y H s:=⟨I.ok.p8,I.os,I.bare,I.base,I.loc,I.cell,I.free,I.qY,I.pin,I.hok,I.len⟩
theorem SP.p8{D:Ends}{f:Flow}{s':Shared}(h:SP (X.AW E) pins D f s'):SP X pins D f s':=by
 cases f with
 |next=>obtain⟨al,H',I,q⟩:=h;exact⟨al,H',I.p8,q⟩
 |brk=>obtain⟨al,H',I,q⟩:=h;exact⟨al,H',I.p8,q⟩
 |cont=>obtain⟨al,H',I,q⟩:=h;exact⟨al,H',I.p8,q⟩
 |ret u=>obtain⟨v,al,H',I,r,q⟩:=h;exact⟨v,al,H',I.p8,r,q⟩
theorem PSs.nox{st:List Stmt}{t:TS}(h:PSs X.nox st t):PSs X st t:=fun pins s Y H D I hw=>
 wpAny_mono (h pins s Y H D (I.AW _) hw) (fun _ _ q=>q.p8) fun _ _ z=>False.elim z
end
section
variable {X:Cx}{st:Stmt}{rest:List Stmt}{t u:TS}{e:Expr}{te:TE}{pos:Pos}
noncomputable def QP:TS:=fun D Y H=>D.nx Y H
noncomputable def R7(t u:TS):TS:=fun D Y H=>t {D with nx:=u D} Y H
theorem Mg:PSs X [] QP:=fun _ _ Y H _ I h=>wpAny_execs_nil ⟨Y,H,I,h⟩
theorem JU(h1:PS X st t)(h2:PSs X rest u):PSs X (st::rest) (R7 t u):=by
 intro pins s Y H D I h
 refine wpAny_execs_cons (thn (h1 pins s Y H {D with nx:=u D} I h) fun f s1 q=>?_)
 cases f with
 |next=>
  obtain⟨al,H',I',q⟩:=q
  exact h2 pins s1 al H' D I' q
 |ret v=>exact q
 |brk=>exact q
 |cont=>exact q
theorem Nv(h1:PS X st t):PSs X [st] t:=by
 intro pins s Y H D I h
 refine wpAny_execs_cons (thn (h1 pins s Y H D I h) fun f s1 q=>?_)
 cases f with
 |next=>exact wpAny_execs_nil q
 |ret v=>exact q
 |brk=>exact q
 |cont=>exact q
theorem Inv.quiet{pins:List (Addr×Obj)}{Y:St}{H:Hp}{s:Shared}(I:Inv X pins Y H s):interactive X.env=false:=by simp[interactive,I.ok.kind]
noncomputable def RA(te:TE):TS:=fun D Y H=>te Y H fun _ H1=>D.nx Y H1
theorem Mp(he:PE X e te)(hs:swapsWith e none pos.line X.env=pure false:=by rfl):PS X (.Expr e pos) (RA te):=by
 intro pins s Y H D I h
 exact wpAny_Expr_any (thn (he pins s Y H _ I h) fun v s1 ⟨x,H1,I1,r1,q1⟩=>⟨Y,H1,I1,q1⟩) I.quiet hs
noncomputable def Td(te:TE):TS:=fun D Y H=>te Y H D.rt
theorem Qu(he:PE X e te):PS X (.Return (some e) pos) (Td te):=by
 intro pins s Y H D I h
 exact wpAny_Return_some (thn (he pins s Y H _ I h) fun v s1 ⟨x,H1,I1,r1,q1⟩=>⟨x,Y,H1,I1,r1,q1⟩)
noncomputable def Sy(c:TT)(t u:TS):TS:=fun D Y H=>c Y H fun b H1=>if b=true then t D Y H1 else u D Y H1
theorem Rb{c:Expr}{a b:List Stmt}{tc:TT}(hc:PT X c tc)(ha:PSs X a t)(hb:PSs X b u):PS X (.If c a b pos) (Sy tc t u):=by
 intro pins s Y H D I h
 refine wpAny_If (thn (hc pins s Y H _ I h) fun d s1 hq0=>?_)
 obtain⟨H1,I1,q1⟩:=hq0
 cases d with
 |true=>exact ha pins s1 Y H1 D I1 q1
 |false=>exact hb pins s1 Y H1 D I1 q1
end
noncomputable abbrev TG:=V->St->Hp->(St->Hp->Prop)->Prop
noncomputable abbrev TGs:=List V->St->Hp->(St->Hp->Prop)->Prop
noncomputable def PG(X:Cx)(target:Expr)(t:TG):Prop:=
 ∀(pins:List (Addr×Obj)) (s:Shared) (Y:St) (H:Hp) (v:V) (u:Value) (Q:St->Hp->Prop),Inv X pins Y H s->RelV v u->t v Y H Q ->
  wpAny (model X.prog X.w) X.A (assign target X.env u) (fun _ s'=>∃al H',Inv X pins al H' s'/\Q al H') X.xe s
noncomputable def PGs(X:Cx)(ts:List Expr)(t:TGs):Prop:=
 ∀(pins:List (Addr×Obj)) (s:Shared) (Y:St) (H:Hp) (vs:List V) (us:List Value) (Q:St->Hp->Prop),Inv X pins Y H s->Vals vs us->t vs Y H Q ->
  wpAny (model X.prog X.w) X.A (assignInOrder ((assignEach ts X.env).map (·.2)) us) (fun _ s'=>∃al H',Inv X pins al H' s'/\Q al H') X.xe s
noncomputable abbrev O7:=V->V->V->Hp->(Hp->Prop)->Prop
noncomputable def RS(X:Cx)(t:O7):Prop:=
 ∀(pins:List (Addr×Obj)) (s:Shared) (Y:St) (H:Hp) (o i v:V) (ov iv u:Value) (Q:Hp->Prop),Inv X pins Y H s->RelV o ov->RelV i iv->RelV v u->t o i v H Q ->
  wpAny (model X.prog X.w) X.A (setItem ov iv u) (fun _ s'=>∃H',Inv X pins Y H' s'/\Q H') X.xe s
noncomputable abbrev TIp:=V->V->Hp->VK->Prop
noncomputable def PIp(X:Cx)(op:Operator)(t:TIp):Prop:=
 ∀(pins:List (Addr×Obj)) (s:Shared) (Y:St) (H:Hp) (x y:V) (v u:Value) (Q:VK),Inv X pins Y H s->RelV x v->RelV y u->t x y H Q ->
  wpAny (model X.prog X.w) X.A (inplaceOp op v u) (EP X pins Y Q) X.xe s
section
variable {X:Cx}{pos:Pos}
noncomputable def Kn(i:Nat):TG:=fun v Y H Q=>Q (Y.set i (some v)) H
theorem Nn{i:Nat}{x:Str}(hN:X.N.Nodup)(hi:X.N[i]? = some x)(hx:Loc X.env.scope x)(hf:X.fn x=true\/X.env.scope.names.lookup x=some .local:=by first|exact .inl rfl|exact .inr rfl|assumption):PG X (.Name x pos) (Kn i):=by
 intro pins s Y H v u Q I r h
 exact wpAny_assign_Name (mn I hN hi hx r (fun s' I'=>⟨_,H,I',h⟩) hf)
noncomputable def Th:TGs:=fun vs Y H Q=>vs=[]/\Q Y H
noncomputable def RU(t:TG)(u:TGs):TGs:=fun vs Y H Q=>∃v r,vs=v::r/\t v Y H fun al H'=>u r al H' Q
theorem Mm:PGs X [] Th:=by
 intro pins s Y H vs us Q I r h
 obtain⟨e,h⟩:=h
 subst e
 cases r
 exact assignInOrder_nil ⟨Y,H,I,h⟩
theorem KP{e:Expr}{es:List Expr}{t:TG}{u:TGs}(h1:PG X e t)(h2:PGs X es u)
  (hs:(assignEach (e::es) X.env).map (·.2)=assign e X.env::(assignEach es X.env).map (·.2):=by rfl):PGs X (e::es) (RU t u):=by
 intro pins s Y H vs us Q I r h
 obtain⟨v,vr,e1,h⟩:=h
 subst e1
 cases r with
 |cons r rr=>
  rw[hs]
  refine assignInOrder_cons (thn (h1 pins s Y H _ _ _ I r h) fun _ s1 hq0=>?_)
  obtain⟨io,H1,I1,q1⟩:=hq0
  exact h2 pins s1 io H1 _ _ Q I1 rr q1
noncomputable def SA(K:PySem.W.Frag)(n:Nat)(t:TGs):TG:=fun v Y H Q=>∃a xs,v = .ref a/\SqT K H a xs/\xs.length=n/\t xs Y H Q
theorem Pp{es:List Expr}{k:Nat}{t:TGs}{n:Nat}(hc:X.calm=X.calm)(h:PGs X es t)
  (hn:(assignEach es X.env).length=n:=by rfl) (hst:(assignEach es X.env).findIdx? (·.1)=none:=by rfl):PG X (.Tuple es k pos) (SA X.K n t):=by
 intro pins s Y H v u Q I r hw
 obtain⟨a,xs,e1,hq,hl,hw⟩:=hw
 subst e1
 cases r
 obtain⟨its,rv,ht,hz⟩:=I.tuple hq
 refine A6 I.G9 ht (by simp[hn,<- hl,rv.length]) hst fun h' hx=>?_
 have I1:Inv X pins Y H {s with heap:=h'}:=I.kept (t':=s.toks) fun b o e=>hx b o (ne_of_lt (Heap.lt_size e)) e
 exact h pins _ Y H xs _ Q I1 (by simpa using rv) hw
noncomputable def Si(to ti:TE)(t:O7):TG:=fun v Y H Q=>to Y H fun o H1=>ti Y H1 fun i H2=>t o i v H2 fun H3=>Q Y H3
theorem OX{o i:Expr}{to ti:TE}{t:O7}(ho:PE X o to)(hi:PE X i ti)(hs:RS X t)
  (ha:∀v,assign (.Subscript o i pos) X.env v=(do
   let ov <- holding [v] (eval o X.env)
   let iv <- holding [v,ov] (eval i X.env)
   standAt pos
   holding [v,ov,iv] (setItem ov iv v)
   release [v,ov,iv] []):=by intro _;rfl):PG X (.Subscript o i pos) (Si to ti t):=by
 intro pins s Y H v u Q I r h
 rw[ha]
 refine wpAny_bind (wpAny_holding (thn (ho pins s Y H _ I h) fun ov s1 hq0=>?_))
 obtain⟨x,H1,I1,r1,q1⟩:=hq0
 refine wpAny_bind (wpAny_holding (thn (hi pins s1 Y H1 _ I1 q1) fun iv s2 hq0=>?_))
 obtain⟨y,H2,I2,r2,q2⟩:=hq0
 refine wpAny_bind (wpAny_standAt (wpAny_bind (wpAny_holding (thn (hs pins s2 Y H2 x y v ov iv u _ I2 r1 r2 r q2) fun _ s3 hq0=>?_))))
 obtain⟨H3,I3,q3⟩:=hq0
 exact wpAny_release ⟨Y,H3,I3,q3⟩
noncomputable def OT(te:TE)(g:TG):TS:=fun D Y H=>te Y H fun x H1=>g x Y H1 D.nx
theorem Qk{tg e:Expr}{te:TE}{g:TG}(he:PE X e te)(hg:PG X tg g)(hs:swapsWithSole [tg] e pos.line X.env=pure false:=by rfl)(hw:swappedStores [tg] e X.env=pure none:=by rfl)
  (h1:(assignEach [tg] X.env).map (·.2)=[assign tg X.env]:=by rfl):PS X (.Assign [tg] e pos) (OT te g):=by
 intro pins s Y H D I h
 refine wpAny_Assign_stores (thn (he pins s Y H _ I h) fun v s1 hq0=>?_) hs hw
 obtain⟨x,H1,I1,r1,q1⟩:=hq0
 rw[h1]
 exact thn (hg pins s1 Y H1 x v _ I1 r1 q1) fun _ s2 q=>q
theorem O0{i:Nat}{x:Str}{e:Expr}{te:TE}{pos':Pos}(hN:X.N.Nodup)(hi:X.N[i]? = some x)(hx:Loc X.env.scope x)(he:PE X e te)(hs:swapsWith e (some (.Name x pos')) pos.line X.env=pure false:=by rfl)(hf:X.fn x=true\/X.env.scope.names.lookup x=some .local:=by first|exact .inl rfl|exact .inr rfl|assumption) :
  PS X (.Assign [.Name x pos'] e pos) (OT te (Kn i)):=by
 intro pins s Y H D I h
 refine wpAny_Assign_Name (thn (he pins s Y H _ I h) fun v s1 hq0=>?_) hs
 obtain⟨y,H1,I1,r1,q1⟩:=hq0
 exact mn I1 hN hi hx r1 (fun s2 I2=>⟨_,H1,I2,q1⟩) hf
noncomputable def SV(i j:Nat)(ta:TA):TS:=fun D Y H=>ta Y H fun vs H1=>∃v w,vs=[v,w]/\D.nx ((Y.set i (some v)).set j (some w)) H1
theorem Qx{i j:Nat}{x y:Str}{a b:Expr}{ta:TA}{px py pt:Pos}{kt k2 pt2}(hc:X.calm=true)(hN:X.N.Nodup)(hi:X.N[i]? = some x)(hj:X.N[j]? = some y)(hij:i≠j)
  (hx:X.env.scope.names.lookup x=some .local) (hy:X.env.scope.names.lookup y=some .local) (ha:PA X [a,b] ta)
  (hw:swappedStores [.Tuple [.Name x px,.Name y py] kt pt] (.Tuple [a,b] k2 pt2) X.env=pure (some [x,y]))
  (hs:swapsWithSole [.Tuple [.Name x px,.Name y py] kt pt] (.Tuple [a,b] k2 pt2) pos.line X.env=pure false:=by rfl) :
  PS X (.Assign [.Tuple [.Name x px,.Name y py] kt pt] (.Tuple [a,b] k2 pt2) pos) (SV i j ta):=by
 intro pins s Y H D I h
 rw[exec_Assign_arm]
 refine wpAny_bind (wpAny_standAt ?_)
 rw[hs]
 refine wpAny_bind (wpAny_pure ?_)
 rw[if_neg ⋯]
 refine wpAny_bind (Tuple_ (thn (ha _ pins s Y H _ I h) fun us s1 hq0=>?_))
 obtain⟨vs,H1,I1,r1,q1⟩:=hq0
 obtain⟨v,w,e1,q1⟩:=q1
 subst e1
 obtain⟨u1,u2,rfl,rv,rw'⟩:∃u1 u2,us=[u1,u2]/\RelV v u1/\RelV w u2:=by
  cases r1 with
  |cons p q=>
   cases q with
   |cons p' q'=>
    cases q'
    exact⟨_,_,rfl,p,p'⟩
 refine wpAny_newObj_type ?_ (by show 2<=sizeLine;decide)
 have I2:Inv X pins Y H1 {s1 with heap:=s1.heap.push {cls:=.type "tuple",data:=.seq [u1,u2].toArray}}:=I1.kept (t':=s1.toks) fun b o e=>Heap.get?_push_of_some _ e
 rw[hw]
 refine wpAny_bind (wpAny_pure ?_)
 show wpAny (model X.prog X.w) X.A (do rule "assign.swapped-stores";let items <- unpackItems (.ref s1.heap.objs.size) 2 none;assignInOrder [fun v=>bindName X.env y v,fun v=>bindName X.env x v] items.reverse;pure Flow.next) _ _ _
 refine wpAny_bind (wpAny_rule (wpAny_bind (unpackItems_tuple (items:=#[u1,u2]) (I.ok.hd hc) (IsTup.new s1.heap _) fun h' hx'=>?_)))
 have I3:=I2.kept (h':=h') (t':=s1.toks) fun b o e=>hx' b o (ne_of_lt (Heap.lt_size e)) e
 show wpAny _ _ (assignInOrder [fun v=>bindName X.env y v,fun v=>bindName X.env x v] [u2,u1]>>=fun _=>pure Flow.next) _ _ _
 refine wpAny_bind (assignInOrder_cons (wpAny_bindName (mn I3 hN hj (.inl hy) rw' (fun s2 I4=>?_) (.inr hy))))
 refine assignInOrder_cons (wpAny_bindName (mn I4 hN hi (.inl hx) rv (fun s3 I5=>assignInOrder_nil (wpAny_pure ?_)) (.inr hx)))
 rw[List.set_comm _ _ (Ne.symm hij)] at I5
 exact⟨_,H1,I5,q1⟩
noncomputable def SE(i:Nat)(te:TE)(ti:TIp):TS:=fun D Y H=>∃x,Y[i]? = some (some x)/\te Y H fun y H1=>ti x y H1 fun z H2=>D.nx (Y.set i (some z)) H2
theorem OL{i:Nat}{x:Str}{e:Expr}{te:TE}{op:Operator}{ti:TIp}{pos':Pos}(hN:X.N.Nodup)(hi:X.N[i]? = some x)(hx:Loc X.env.scope x)(he:PE X e te)(ho:PIp X op ti)(hf:X.fn x=true\/X.env.scope.names.lookup x=some .local:=by first|exact .inl rfl|exact .inr rfl|assumption) :
  PS X (.AugAssign (.Name x pos') op e pos) (SE i te ti):=by
 intro pins s Y H D I h
 obtain⟨v,e1,h⟩:=h
 obtain⟨m,hn,hl⟩:=I.loc
 have vis:Vis X.env.scope x:=by rcases hx with k|k;exact .inl k;exact .inr (.inl k)
 obtain⟨u,r,l⟩:=hl i x v hi e1 vis
 refine wpAny_AugAssign_Name ?_
 have go:wpAny (model X.prog X.w) X.A (eval e X.env) (fun w dL=>wpAny (model X.prog X.w) X.A (inplaceOp op u w) (fun r be=>wpAny (model X.prog X.w) X.A (storeName X.env x r) (fun _=>SP X pins D .next) X.xe be) X.xe dL) X.xe s:=by
  refine thn (he pins s Y H _ I h) fun w s1 hq0=>?_
  obtain⟨y,H1,I1,r1,q1⟩:=hq0
  refine thn (ho pins s1 Y H1 v y u w _ I1 r r1 q1) fun z s2 hq0=>?_
  obtain⟨zv,H2,I2,r2,q2⟩:=hq0
  exact mn I2 hN hi hx r2 (fun s3 I3=>⟨_,H2,I3,q2⟩) hf
 rcases l with ⟨hk,hm⟩|⟨hk,c,hc,hcell⟩
 ·exact wpAny_loadName_local I.ok.kind hk hn hm go
 ·rcases hk with hk|hk
  ·exact wpAny_loadName_cell I.ok.kind hk hc hcell go
  ·rcases hx with k|k
   ·have:X.env.scope.names.lookup x=some .free:=hk
    rw[k] at this;cases this
   ·have:X.env.scope.names.lookup x=some .free:=hk
    rw[k] at this;cases this
noncomputable def ipI(f:Int->Int->Int):TIp:=fun x y H Q=>∃i j,x = .int i/\y = .int j/\Q (.int (f i j)) H
theorem Og:PIp X .Add (ipI fun i j=>i+j):=by
 intro pins s Y H x y v u Q I r1 r2 h
 obtain⟨i,j,e1,e2,q⟩:=h
 subst e1;subst e2
 obtain⟨t,rfl⟩:=r1
 obtain⟨t',rfl⟩:=r2
 exact iadd_int ⟨.int _,H,I.tok _,⟨_,rfl⟩,q⟩
end
section
variable {X:Cx}{pos:Pos}
noncomputable def PU(c:TT)(tb:TS):TS:=fun D Y H=>∃W:Nat->St->Hp->Prop,(∃m,W m Y H)/\∀m Y H,W m Y H ->
 c Y H fun b H1=>if b=true then ∃N:St->Hp->Prop,(∀al H',N al H'->∃m',m'<m/\W m' al H')/\tb {D with nx:=N,ct:=N,bk:=D.nx} Y H1 else D.nx Y H1
theorem Kt{c:Expr}{body:List Stmt}{tc:TT}{tb:TS}(hp:PassesOwn (model X.prog X.w) X.A X.env X.xe)(hc:PT X c tc)(hb:PSs X body tb):PS X (.While c body [] pos) (PU tc tb):=by
 intro pins s Y H D I h
 obtain⟨W,⟨m0,w0⟩,turn⟩:=h
 refine wpAny_While (codeAny_whileLoop (fun n s'=>∃al H',Inv X pins al H' s'/\W n al H') ?_ m0 ⟨Y,H,I,w0⟩)
 rintro n s1 ⟨io,H1,I1,w1⟩
 refine wpAny_passesOwn hp (thn (hc pins s1 io H1 _ I1 (turn n io H1 w1)) fun b s2 hq0=>?_)
 obtain⟨H2,I2,q2⟩:=hq0
 cases b with
 |true=>
  obtain⟨N,hN,q2⟩:=q2
  rw[if_pos rfl]
  refine wpAny_passesOwn hp (thn (hb pins s2 io H2 _ I2 q2) fun f s3 q3=>?_)
  cases f with
  |next=>
   obtain⟨ii,H3,I3,n3⟩:=q3
   obtain⟨m',hm,w3⟩:=hN ii H3 n3
   exact⟨m',hm,ii,H3,I3,w3⟩
  |cont=>
   obtain⟨ii,H3,I3,n3⟩:=q3
   obtain⟨m',hm,w3⟩:=hN ii H3 n3
   exact⟨m',hm,ii,H3,I3,w3⟩
  |brk=>exact q3
  |ret v=>exact q3
 |false=>
  rw[if_neg Bool.false_ne_true]
  exact wpAny_execs_nil ⟨io,H2,I2,q2⟩
end
structure It where
 go:Nat->Hp->Prop
 yld:Nat->Hp->V->Hp->Prop
 stop:Nat->Hp->Prop
noncomputable def AL(X:Cx)(pins:List (Addr×Obj))(H:Hp)(b:Addr):Prop:=
 H b=none/\b≠X.env.locals/\b ∉ X.fs/\(b∈X.ex\/X.ci.heap.objs.size<=b)/\(∀x c,X.env.cells.lookup x=some c->c≠b)/\∀p∈X.pn++pins,p.1≠b
theorem Inv.KH{X:Cx}{pins:List (Addr×Obj)}{Y:St}{H H':Hp}{s:Shared}{b:Addr}(I:Inv X pins Y H s)(hb:s.heap.objs.size<=b)(hn:H' b=none):AL X pins H' b:=by
 refine⟨hn,Nat.ne_of_gt (lt_of_lt_of_le I.lt hb),I.SI hb,.inr (le_trans I.sz hb),fun x c e z=>?_,fun p hp z=>?_⟩
 ·obtain⟨v,q⟩:=I.cell x c e
  exact absurd (lt_of_lt_of_le q.lt (by rw[z];exact hb)) (lt_irrefl _)
 ·exact absurd (lt_of_lt_of_le (Heap.lt_size (I.pin p hp).1) (by rw[z];exact hb)) (lt_irrefl _)
structure Turn(c:Bool)(P:Program)(w:World)(K:PySem.W.Frag)(tg:Expr)(J:It)(fp:List Addr)(it:Addr)(tn:Nat->Heap->Prop):Prop where
 mem:it∈fp
 obj:∀i h,tn i h->∀b∈fp,∃o,h.get? b=some o/\∀v,o.data≠.cell v
 keep:∀i h h',tn i h->(∀b∈fp,∀o,h.get? b=some o->h'.get? b=some o)->tn i h'
 item:∀(X:Cx),X.prog=P->X.w=w->X.K=K->(c=true->X.calm=true)->∀(i:Nat) (pins:List (Addr×Obj)) (s:Shared) (Y:St) (H:Hp) (E:Value->Shared->Prop),Inv X pins Y H s->(∀b∈fp,AL X pins H b)->tn i s.heap->J.go i H ->
  wpAny (model P w) X.A (pyNext (.ref it)) (fun r s1=>∃u,r=some u /\
   wpAny (model P w) X.A (letOwnedTupleGo tg (.ref it) u) (fun _ s2=>∃x H',Inv X pins Y H' s2/\RelV x u/\J.yld i H x H'/\tn (i+1) s2.heap/\∀b∈fp,H' b=none) E s1) E s
 done:∀(X:Cx),X.prog=P->X.w=w->X.K=K->(c=true->X.calm=true)->∀(i:Nat) (pins:List (Addr×Obj)) (s:Shared) (Y:St) (H:Hp) (E:Value->Shared->Prop),Inv X pins Y H s->(∀b∈fp,AL X pins H b)->tn i s.heap->J.stop i H ->
  wpAny (model P w) X.A (pyNext (.ref it)) (fun r s1=>r=none/\Inv X pins Y H s1) E s
 self:∀(A:Around) (i:Nat) (s:Shared) (Q:Value->Shared->Prop) (E:Value->Shared->Prop),tn i s.heap->Q (.ref it) s->wpAny (model P w) A (pyIter (.ref it)) Q E s
theorem Turn.calm{c:Bool}{P:Program}{w:World}{K:PySem.W.Frag}{tg:Expr}{J:It}{fp:List Addr}{it:Addr}{tn:Nat->Heap->Prop}(T:Turn true P w K tg J fp it tn)(h:c=true):Turn c P w K tg J fp it tn:=by subst h;exact T
noncomputable abbrev TI:=St->Hp->(It->Hp->Prop)->Prop
noncomputable def PIE(X:Cx)(pins:List (Addr×Obj))(Y:St)(tg:Expr)(R:It->Hp->Prop)(itv:Value)(s2:Shared):Prop:=
 ∃(it:Addr) (fp:List Addr) (tn:Nat->Heap->Prop) (J:It) (H':Hp),itv = .ref it/\Inv X pins Y H' s2/\Turn X.calm X.prog X.w X.K tg J fp it tn/\tn 0 s2.heap/\(∀b∈fp,AL X pins H' b)/\R J H'
noncomputable def PI(X:Cx)(tg iter:Expr)(wi:TI):Prop:=
 ∀(pins:List (Addr×Obj)) (s:Shared) (Y:St) (H:Hp) (R:It->Hp->Prop),Inv X pins Y H s->wi Y H R ->
  wpAny (model X.prog X.w) X.A (eval iter X.env) (fun v s1=>wpAny (model X.prog X.w) X.A (pyIter v) (PIE X pins Y tg R) X.xe s1) X.xe s
theorem Km{M:Model}{A:Around}{E:Value->Shared->Prop}{s:Shared}{tg:Expr}{it:Addr}{u:Value}{o:Obj}{n:String}{vs:Array Value}{Q:Unit->Shared->Prop}(ho:s.heap.get? it=some o)(hc:o.cls = .type n)(hd:o.data = .fields vs)
  (hn:["enumerate","zip","dict_itemiterator","dict_reverseitemiterator","odict_iterator","itertools.zip_longest","itertools.pairwise"].contains n=false) (hQ:Q () s):wpAny M A (letOwnedTupleGo tg (.ref it) u) Q E s:=by
 unfold letOwnedTupleGo
 cases tg<;>first
  |exact wpAny_pure hQ
  |(cases u<;>first
    |exact wpAny_pure hQ
    |(refine wpAny_bind (wpAny_load ho ?_)
      rw[hc,hd]
      show wpAny M A (if (["enumerate","zip","dict_itemiterator","dict_reverseitemiterator","odict_iterator","itertools.zip_longest","itertools.pairwise"].contains n&&vs[0]?==some (rawInt _))=true then _ else _) Q E s
      rw[if_neg (by intro h;rw[hn,Bool.false_and] at h;cases h)]
      exact wpAny_pure hQ))
noncomputable def Itl(K:PySem.W.Frag)(a:Addr):It:=
 ⟨fun i H=>∃xs x,SqL K H a xs/\xs[i]? = some x,fun i H x H'=>H'=H/\∀xs,SqL K H a xs->xs[i]? = some x,fun i H=>∃xs,SqL K H a xs/\xs.length<=i⟩
noncomputable def Itt(K:PySem.W.Frag)(a:Addr):It:=
 ⟨fun i H=>∃xs x,SqT K H a xs/\xs[i]? = some x,fun i H x H'=>H'=H/\∀xs,SqT K H a xs->xs[i]? = some x,fun i H=>∃xs,SqT K H a xs/\xs.length<=i⟩
noncomputable def Itr(lo:Int)(n:Nat):It:=⟨fun i _=>i<n,fun i H x H'=>H'=H/\x = .int (lo+i),fun i _=>n<=i⟩
theorem Jl{c:Bool}{P:Program}{w:World}{K:PySem.W.Frag}{tg:Expr}(a it:Addr):Turn c P w K tg (Itl K a) [it] it (fun i h=>h.IsListIter it a i) where
 mem:=by simp
 obj:=fun i h st b hb=>by
  have e:b=it:=by simpa using hb
  subst e
  obtain⟨o,e,c,d⟩:=st
  exact⟨o,e,fun v z=>by rw[d] at z;cases z⟩
 keep:=fun i h h' st k=>st.at fun o e=>k it (by simp) o e
 item:=by
  intro X hP hw hK hc i pins s Y H E I hf st hg
  subst hP hw hK
  obtain⟨xs,x,hq,hx⟩:=hg
  obtain⟨its,rv,p,hz⟩:=I.list hq
  obtain⟨u,hu,ru⟩:=rv.get hx
  obtain⟨f0,f1,f2,f3,f4,f5⟩:=hf it (by simp)
  refine wpAny_pyNext_list_item st p.isList (x:=u) (by simpa using hu) fun h' st' sb=>?_
  have I1:Inv X pins Y H {s with heap:=h'}:=I.turned (t':=s.toks) (fun b o hb e=>(sb.2 b hb).trans e) f0 f1 f3 f4 f5
  obtain⟨o,e,c,d⟩:=id st'
  exact⟨u,rfl,Km (s:={s with heap:=h'}) e c d ⋯ ⟨x,H,I1,ru,⟨rfl,fun ys hy=>by rw[I.FN hy hq];exact hx⟩,st',fun b hb=>(hf b hb).1⟩⟩
 done:=by
  intro X hP hw hK hc i pins s Y H E I hf st hg
  subst hP hw hK
  obtain⟨xs,hq,hx⟩:=hg
  obtain⟨its,rv,p,hz⟩:=I.list hq
  obtain⟨f0,f1,f2,f3,f4,f5⟩:=hf it (by simp)
  have hl:=rv.length
  exact A7 I.G9 (I.hne f5) st p.isList (by simp;omega) fun h' eb=>⟨rfl,I.turned (t':=s.toks) (fun b o hb e=>eb b o hb e) f0 f1 f3 f4 f5⟩
 self:=fun _ _ _ _ _ st h=>wpAny_pyIter_listiter st h
theorem GY{c:Bool}{P:Program}{w:World}{K:PySem.W.Frag}{tg:Expr}(a it:Addr):Turn c P w K tg (Itt K a) [it] it (fun i h=>h.IsTupleIter it a i) where
 mem:=by simp
 obj:=fun i h st b hb=>by
  have e:b=it:=by simpa using hb
  subst e
  obtain⟨o,e,c,d⟩:=st
  exact⟨o,e,fun v z=>by rw[d] at z;cases z⟩
 keep:=fun i h h' st k=>st.at fun o e=>k it (by simp) o e
 item:=by
  intro X hP hw hK hc i pins s Y H E I hf st hg
  subst hP hw hK
  obtain⟨xs,x,hq,hx⟩:=hg
  obtain⟨its,rv,p,hz⟩:=I.tuple hq
  obtain⟨u,hu,ru⟩:=rv.get hx
  obtain⟨f0,f1,f2,f3,f4,f5⟩:=hf it (by simp)
  refine wpAny_pyNext_tuple_item st (show s.heap.IsTuple a its.toArray from p) (x:=u) (by simpa using hu) fun h' st' sb=>?_
  have I1:Inv X pins Y H {s with heap:=h'}:=I.turned (t':=s.toks) (fun b o hb e=>(sb.2 b hb).trans e) f0 f1 f3 f4 f5
  obtain⟨o,e,c,d⟩:=id st'
  exact⟨u,rfl,Km (s:={s with heap:=h'}) e c d ⋯ ⟨x,H,I1,ru,⟨rfl,fun ys hy=>by rw[I.BC hy hq];exact hx⟩,st',fun b hb=>(hf b hb).1⟩⟩
 done:=by
  intro X hP hw hK hc i pins s Y H E I hf st hg
  subst hP hw hK
  obtain⟨xs,hq,hx⟩:=hg
  obtain⟨its,rv,p,hz⟩:=I.tuple hq
  obtain⟨f0,f1,f2,f3,f4,f5⟩:=hf it (by simp)
  have hl:=rv.length
  exact tY I.G9 (I.hne f5) st (show s.heap.IsTuple a its.toArray from p) (by simp;omega) fun h' eb=>⟨rfl,I.turned (t':=s.toks) (fun b o hb e=>eb b o hb e) f0 f1 f3 f4 f5⟩
 self:=fun _ _ _ _ _ st h=>wpAny_pyIter_tupleiter st h
theorem Gx{P:Program}{w:World}{K:PySem.W.Frag}{tg:Expr}(it:Addr)(lo:Int)(n:Nat):Turn true P w K tg (Itr lo n) [it] it (fun i h=>IsRangeIter h it (lo+(i:Nat)*1) ((n:Int)-(i:Nat)) 1) where
 mem:=by simp
 obj:=fun i h st b hb=>by
  have e:b=it:=by simpa using hb
  subst e
  exact⟨_,st,fun v z=>by
   have z':Data.fields _=Data.cell v:=z
   cases z'⟩
 keep:=fun i h h' st k=>k it (by simp) _ st
 item:=by
  intro X hP hw hK hc i pins s Y H E I hf st hg
  subst hP hw hK
  obtain⟨f0,f1,f2,f3,f4,f5⟩:=hf it (by simp)
  have W:=Walks.range (prog:=X.prog) (w:=X.w) (I.ok.hd (hc rfl)) it lo 1 n
  refine W.item i s _ _ hg st fun v h' tk hv st' kk=>?_
  obtain⟨t,rfl⟩:=hv
  have I1:Inv X pins Y H {s with heap:=h',toks:=tk}:=I.turned (fun b o hb e=>kk b o (by simpa using hb) e) f0 f1 f3 f4 f5
  refine⟨_,rfl,Km (s:={s with heap:=h',toks:=tk}) (n:="range_iterator") st' rfl rfl ⋯ ⟨.int (lo+i),H,I1,⟨t,?_⟩,⟨rfl,rfl⟩,st',fun b hb=>(hf b hb).1⟩⟩
  rw[Int.mul_one]
 done:=by
  intro X hP hw hK hc i pins s Y H E I hf st hg
  subst hP hw hK
  obtain⟨f0,f1,f2,f3,f4,f5⟩:=hf it (by simp)
  exact wpAny_pyNext_range_end (I.ok.hd (hc rfl)) st (by have:n<=i:=hg;omega) fun h' eb=>⟨rfl,I.turned (t':=s.toks) (fun b o hb e=>eb b o hb e) f0 f1 f3 f4 f5⟩
 self:=fun _ _ _ _ _ st h=>wpAny_pyIter_rangeiter st h
end L2
namespace L2
open PySem PySem.Spec PyProof.Rows
section
variable {X:Cx}{tg:Expr}
noncomputable def RM(K:PySem.W.Frag)(tl:TE):TI:=fun Y H R=>tl Y H fun x H1=>∃a,x = .ref a/\(∃xs,SqL K H1 a xs)/\R (Itl K a) H1
noncomputable def Tf(K:PySem.W.Frag)(tl:TE):TI:=fun Y H R=>tl Y H fun x H1=>∃a,x = .ref a/\(∃xs,SqT K H1 a xs)/\R (Itt K a) H1
theorem Ni{l:Expr}{tl:TE}(hl:PE X l tl):PI X tg l (RM X.K tl):=by
 intro pins s Y H R I h
 refine thn (hl pins s Y H _ I h) fun v s1 hq0=>?_
 obtain⟨x,H1,I1,r1,q1⟩:=hq0
 obtain⟨a,e,⟨xs,hq⟩,q⟩:=q1
 subst e
 cases r1
 obtain⟨its,rv,p,hz⟩:=I1.list hq
 refine wpAny_pyIter_list p.isList ?_
 refine⟨s1.heap.objs.size,[s1.heap.objs.size],_,_,H1,rfl,I1.kept (t':=s1.toks) fun b o e=>Heap.get?_push_of_some _ e,Jl a _,⟨_,Heap.get?_push_size _ rfl,rfl,rfl⟩,fun b hb=>?_,q⟩
 have e:b=s1.heap.objs.size:=by simpa using hb
 subst e
 exact I1.KH (le_refl _) (I1.hok.fresh (le_refl _))
theorem Qb{l:Expr}{tl:TE}(hl:PE X l tl):PI X tg l (Tf X.K tl):=by
 intro pins s Y H R I h
 refine thn (hl pins s Y H _ I h) fun v s1 hq0=>?_
 obtain⟨x,H1,I1,r1,q1⟩:=hq0
 obtain⟨a,e,⟨xs,hq⟩,q⟩:=q1
 subst e
 cases r1
 obtain⟨its,rv,p,hz⟩:=I1.tuple hq
 refine wpAny_pyIter_tuple (show s1.heap.IsTuple a its.toArray from p) ?_
 refine⟨s1.heap.objs.size,[s1.heap.objs.size],_,_,H1,rfl,I1.kept (t':=s1.toks) fun b o e=>Heap.get?_push_of_some _ e,GY a _,⟨_,Heap.get?_push_size _ rfl,rfl,rfl⟩,fun b hb=>?_,q⟩
 have e:b=s1.heap.objs.size:=by simpa using hb
 subst e
 exact I1.KH (le_refl _) (I1.hok.fresh (le_refl _))
theorem FV(hc:X.calm=true){pins:List (Addr×Obj)}{Y:St}{H:Hp}{s:Shared}{R:It->Hp->Prop}{E:Value->Shared->Prop}{lo hi:Int}{t u v:Tok}{tk:Nat}(I:Inv X pins Y H s)(h1:-(2 ^ 62)<=lo)(h2:lo<2 ^ 62)(h3:-(2 ^ 62)<=hi)(h4:hi<2 ^ 62)
  (q:R (Itr lo (hi-lo).toNat) H):wpAny (model X.prog X.w) X.A (pyIter (.ref s.heap.objs.size)) (PIE X pins Y tg R) E {s with heap:=s.heap.push {cls:=.type "range",data:=.fields #[.int lo t,.int hi u,.int 1 v]},toks:=tk}:=by
 refine wpAny_pyIter_range (IsRange.new ..) (small_one h1 h2 h3 h4) ?_
 have I1:Inv X pins Y H {s with heap:=s.heap.push {cls:=.type "range",data:=.fields #[.int lo t,.int hi u,.int 1 v]},toks:=tk}:=I.kept fun b o e=>Heap.get?_push_of_some _ e
 refine⟨(s.heap.push {cls:=.type "range",data:=.fields #[.int lo t,.int hi u,.int 1 v]}).objs.size,[(s.heap.push {cls:=.type "range",data:=.fields #[.int lo t,.int hi u,.int 1 v]}).objs.size],_,_,H,rfl,
  I1.kept (t':=tk) fun b o e=>Heap.get?_push_of_some _ e,(Gx _ lo (hi-lo).toNat).calm hc,?_,fun b hb=>?_,q⟩
 ·have e1:lo+((0:Nat):Int)*1=lo:=by simp
  have e2:(((hi-lo).toNat:Nat):Int)-((0:Nat):Int)=Builtin.Range.rangeSize lo hi 1:=by rw[rangeSize_one];split<;>omega
  show IsRangeIter _ _ (lo+((0:Nat):Int)*1) ((((hi-lo).toNat:Nat):Int)-((0:Nat):Int)) 1
  rw[e1,e2]
  exact Heap.get?_push_size _ rfl
 ·have e:b=(s.heap.push {cls:=.type "range",data:=.fields #[.int lo t,.int hi u,.int 1 v]}).objs.size:=by simpa using hb
  subst e
  exact I1.KH (le_refl _) (I1.hok.fresh (le_refl _))
noncomputable def QR(ta:TA):TI:=fun Y H R=>ta Y H fun vs H1=>∃j:Int,vs=[.int j]/\-(2 ^ 62)<=j/\j<2 ^ 62/\R (Itr 0 j.toNat) H1
noncomputable def R0(ta:TA):TI:=fun Y H R=>ta Y H fun vs H1=>∃i j:Int,vs=[.int i,.int j]/\(-(2 ^ 62)<=i/\i<2 ^ 62/\-(2 ^ 62)<=j/\j<2 ^ 62)/\R (Itr i (j-i).toNat) H1
theorem Jj{a:Expr}{ta:TA}{p pos:Pos}(hc:X.calm=true)(hg:Gl X "range")(hm:X.mg "range"=none)(ha:PA X [a] ta)(hs:starEach [a] X.env=[(false,eval a X.env)]:=by rfl):PI X tg (.Call (.Name "range" p) [a] [] pos) (QR ta):=by
 intro pins s Y H R I h
 refine Call_ (vR I hg hm boot_range (PyProof.Rows.callWith_type1 (thn (ha pos pins s Y H _ I h) fun us s1 hq0=>?_) hs rfl))
 obtain⟨vs,H1,I1,r1,q1⟩:=hq0
 obtain⟨j,e,q1,q2,q⟩:=q1
 subst e
 cases r1 with
 |cons r rr=>
  cases rr
  obtain⟨t,rfl⟩:=r
  exact call_range_1 (FV hc I1 ∅ ∅ q1 q2 (by simpa using q))
theorem JN{a b:Expr}{ta:TA}{p pos:Pos}(hc:X.calm=true)(hg:Gl X "range")(hm:X.mg "range"=none)(ha:PA X [a,b] ta)(hs:starEach [a,b] X.env=[(false,eval a X.env),(false,eval b X.env)]:=by rfl)(hs2:starEach [b] X.env=[(false,eval b X.env)]:=by rfl) :
  PI X tg (.Call (.Name "range" p) [a,b] [] pos) (R0 ta):=by
 intro pins s Y H R I h
 refine Call_ (vR I hg hm boot_range (PyProof.Rows.callWith_type1 (thn (ha pos pins s Y H _ I h) fun us s1 hq0=>?_) (by rw[hs,hs2]) (by rw[hs2];rfl)))
 obtain⟨vs,H1,I1,r1,q1⟩:=hq0
 obtain⟨i,j,e,⟨q1,q2,q3,q4⟩,q⟩:=q1
 subst e
 cases r1 with
 |cons r rr=>
  cases rr with
  |cons r' rr=>
   cases rr
   obtain⟨t,rfl⟩:=r
   obtain⟨t',rfl⟩:=r'
   exact call_range_2 (FV hc I1 q1 q2 q3 q4 q)
noncomputable def Ss(wi:TI)(g:TG)(tb:TS):TS:=fun D Y H=>wi Y H fun J H1=>∃W:Nat->Nat->St->Hp->Prop,(∃m,W 0 m Y H1)/\∀i m Y H,W i m Y H ->
 (J.stop i H/\D.nx Y H)\/(J.go i H/\∃N:St->Hp->Prop,(∀al H',N al H'->∃m',m'<m/\W (i+1) m' al H')/\∀x H',J.yld i H x H'->g x Y H' fun nb H2=>tb {D with nx:=N,ct:=N,bk:=D.nx} nb H2)
noncomputable def CV(fp:List Addr)(h:Heap):List (Addr×Obj):=fp.filterMap fun b=>(h.get? b).map fun o=>(b,o)
theorem jG{fp:List Addr}{h:Heap}{b:Addr}{o:Obj}(hb:b∈fp)(e:h.get? b=some o):(b,o)∈CV fp h:=List.mem_filterMap.mpr ⟨b,hb,by rw[e];rfl⟩
theorem IV{fp:List Addr}{h:Heap}{p:Addr×Obj}(hp:p∈CV fp h):p.1∈fp/\h.get? p.1=some p.2:=by
 obtain⟨b,hb,e⟩:=List.mem_filterMap.mp hp
 cases q:h.get? b with
 |none=>rw[q] at e;cases e
 |some o=>
  rw[q] at e
  have e':(b,o)=p:=Option.some.inj e
  subst e'
  exact⟨hb,q⟩
theorem Inv.pinned{pins:List (Addr×Obj)}{Y:St}{H:Hp}{s:Shared}{fp:List Addr}(I:Inv X pins Y H s)(hf:∀b∈fp,AL X pins H b)(ho:∀b∈fp,∃o,s.heap.get? b=some o/\∀v,o.data≠.cell v):Inv X (pins++CV fp s.heap) Y H s:=
 I.HN fun p hp=>(List.mem_append.mp hp).elim (fun z=>I.pin p (mem_append_right _ z)) fun z=>by
  obtain⟨hb,e⟩:=IV z
  obtain⟨f0,f1,f2,_⟩:=hf p.1 hb
  obtain⟨o,e',d⟩:=ho p.1 hb
  rw[e] at e';cases e'
  exact⟨e,f0,f1,f2,d⟩
theorem Inv.pN{pins pl:List (Addr×Obj)}{Y:St}{H:Hp}{s:Shared}(I:Inv X (pins++pl) Y H s):Inv X pins Y H s:=I.HN fun p hp=>I.pin p (mem_append_right _ (mem_append_left _ hp))
theorem PM{iter:Expr}{body:List Stmt}{wi:TI}{g:TG}{tb:TS}{pos:Pos}(hp:PassesOwn (model X.prog X.w) X.A X.env X.xe)(hc:X.calm=true)(hi:PI X tg iter wi)(hg:PG X tg g)(hb:PSs X body tb)
  (hs:∀x,foldedSetIterable iter X.env x=pure x:=by intro _;rfl):PS X (.For tg iter body [] pos) (Ss wi g tb):=by
 intro pins s Y H D I h
 refine wpAny_For (thn (hi pins s Y H _ I h) fun v s1 h1=>thn h1 fun itv s2 h2=>?_) hs
 obtain⟨it,fp,tn,J,H2,e,I2,T,st2,f2,W,⟨m0,w0⟩,turn⟩:=h2
 subst e
 have stat:∀{H':Hp},(∀b∈fp,H' b=none)->∀b∈fp,AL X pins H' b:=fun hn b hb=>⟨hn b hb,(f2 b hb).2⟩
 refine codeAny_forLoop_any (fun n s'=>∃i al H',Inv X pins al H' s'/\tn i s'.heap/\(∀b∈fp,H' b=none)/\W i n al H') ?_ m0 ⟨0,Y,H2,I2,st2,fun b hb=>(f2 b hb).1,w0⟩
 rintro n s3 ⟨i,ii,H3,I3,st3,fr3,w3⟩
 rcases turn i n ii H3 w3 with ⟨stop,qn⟩|⟨go,N,hN,step⟩
 ·refine wpAny_passesOwn hp (thn (T.done X rfl rfl rfl (fun z=>z) i pins s3 ii H3 X.xe I3 (stat fr3) st3 stop) fun r s4 hq0=>?_)
  obtain⟨hr,I4⟩:=hq0
  subst hr
  exact wpAny_execs_nil ⟨ii,H3,I4,qn⟩
 ·refine wpAny_passesOwn hp (thn (T.item X rfl rfl rfl (fun z=>z) i pins s3 ii H3 X.xe I3 (stat fr3) st3 go) fun r s4 hq0=>?_)
  obtain⟨u,hr,h4⟩:=hq0
  subst hr
  refine wpAny_passesOwn hp (thn h4 fun _ s5 hq0=>?_)
  obtain⟨x,H5,I5,r5,y5,st5,fr5⟩:=hq0
  have I5':=I5.pinned (stat fr5) (T.obj _ _ st5)
  refine wpAny_passesOwn hp (thn (hg _ s5 ii H5 x u _ I5' r5 (step x H5 y5)) fun _ s6 hq0=>?_)
  obtain⟨tf,H6,I6,q6⟩:=hq0
  refine wpAny_passesOwn hp (thn (hb _ s6 tf H6 _ I6 q6) fun f s7 q7=>?_)
  have again:∀{gl:St} {H7:Hp},Inv X (pins++CV fp s5.heap) gl H7 s7->N gl H7->∃m,m<n/\∃i al H',Inv X pins al H' s7/\tn i s7.heap/\(∀b∈fp,H' b=none)/\W i m al H':=fun {gl H7} I7 n7=>by
   obtain⟨m',hm,w7⟩:=hN gl H7 n7
   refine⟨m',hm,i+1,gl,H7,I7.pN,T.keep _ _ _ st5 fun b hb o e=>(I7.pin (b,o) (mem_append_right _ (mem_append_right _ (jG hb e)))).1,fun b hb=>?_,w7⟩
   obtain⟨o,e,d⟩:=T.obj _ _ st5 b hb
   exact (I7.pin (b,o) (mem_append_right _ (mem_append_right _ (jG hb e)))).2.1
  cases f with
  |next=>obtain⟨gl,H7,I7,n7⟩:=q7;exact again I7 n7
  |cont=>obtain⟨gl,H7,I7,n7⟩:=q7;exact again I7 n7
  |brk=>obtain⟨gl,H7,I7,q7⟩:=q7;exact⟨gl,H7,I7.pN,q7⟩
  |ret v=>obtain⟨x7,gl,H7,I7,r7,q7⟩:=q7;exact⟨x7,gl,H7,I7.pN,r7,q7⟩
end
end L2
namespace L2
open PySem PySem.Spec PyProof.Rows
noncomputable abbrev R2:=V->V->Hp->VK->Prop
noncomputable def OpR(X:Cx)(f:Value->Value->Sem Value)(r:R2):Prop:=
 ∀(pins:List (Addr×Obj)) (s:Shared) (Y:St) (H:Hp) (x y:V) (v u:Value) (Q:VK),Inv X pins Y H s->RelV x v->RelV y u->r x y H Q ->
  wpAny (model X.prog X.w) X.A (f v u) (EP X pins Y Q) X.xe s
noncomputable def UnR(X:Cx)(f:Value->Sem Value)(r:V->Hp->VK->Prop):Prop:=
 ∀(pins:List (Addr×Obj)) (s:Shared) (Y:St) (H:Hp) (x:V) (v:Value) (Q:VK),Inv X pins Y H s->RelV x v->r x H Q ->
  wpAny (model X.prog X.w) X.A (f v) (EP X pins Y Q) X.xe s
noncomputable def jo(X:Cx)(f:Value)(r:List V->Hp->VK->Prop):Prop:=
 ∀(pins:List (Addr×Obj)) (s:Shared) (Y:St) (H:Hp) (xs:List V) (us:List Value) (Q:VK),Inv X pins Y H s->Vals xs us->r xs H Q ->
  wpAny (model X.prog X.w) X.A (call f us) (EP X pins Y Q) X.xe s
noncomputable def Sv(X:Cx)(r:V->Hp->(Bool->Hp->Prop)->Prop):Prop:=
 ∀(pins:List (Addr×Obj)) (s:Shared) (Y:St) (H:Hp) (x:V) (v:Value) (Q:Bool->Hp->Prop),Inv X pins Y H s->RelV x v->r x H Q ->
  wpAny (model X.prog X.w) X.A (truthy v) (TP X pins Y Q) X.xe s
noncomputable def tOp(r:R2)(ta tb:TE):TE:=fun Y H Q=>ta Y H fun x H1=>tb Y H1 fun y H2=>r x y H2 Q
noncomputable def tUn(r:V->Hp->VK->Prop)(ta:TE):TE:=fun Y H Q=>ta Y H fun x H1=>r x H1 Q
noncomputable def rI(C:Int->Int->Prop)(g:Int->Int->V):R2:=fun x y H Q=>∃i j,x = .int i/\y = .int j/\C i j/\Q (g i j) H
noncomputable def rI0(g:Int->Int->V):R2:=fun x y H Q=>∃i j,x = .int i/\y = .int j/\Q (g i j) H
noncomputable def rU(g:Int->V):V->Hp->VK->Prop:=fun x H Q=>∃i,x = .int i/\Q (g i) H
section
variable {X:Cx}{a b c:Expr}{ta tb tc:TE}{pos:Pos}
theorem OI(ha:PE X a ta)(hb:PE X b tb){pins:List (Addr×Obj)}{s:Shared}{Y:St}{H:Hp}{R:V->V->Hp->Prop}(I:Inv X pins Y H s)
  (h:ta Y H fun x H1=>tb Y H1 fun y H2=>R x y H2) {Q:Value->Shared->Prop} {f:Value->Value->Sem Value}
  (hf:∀v u s2 x y H2,Inv X pins Y H2 s2->RelV x v->RelV y u->R x y H2->wpAny (model X.prog X.w) X.A (f v u) Q X.xe s2) :
  wpAny (model X.prog X.w) X.A (eval a X.env) (fun v bd=>wpAny (model X.prog X.w) X.A (eval b X.env) (fun u dL=>wpAny (model X.prog X.w) X.A (f v u) Q X.xe dL) X.xe bd) X.xe s:=by
 refine thn (ha pins s Y H _ I h) fun v s1 hq0=>?_
 obtain⟨x,H1,I1,r1,q1⟩:=hq0
 refine thn (hb pins s1 Y H1 _ I1 q1) fun u s2 hq0=>?_
 obtain⟨y,H2,I2,r2,q2⟩:=hq0
 exact hf v u s2 x y H2 I2 r1 r2 q2
theorem QN{op:Operator}{r:R2}(ho:OpR X (binaryOp op) r)(ha:PE X a ta)(hb:PE X b tb):PE X (.BinOp a op b pos) (tOp r ta tb):=by
 intro pins s Y H Q I h
 exact wpAny_BinOp (OI ha hb I h fun v u s2 x y H2 I2 rx ry q=>ho pins s2 Y H2 x y v u Q I2 rx ry q)
theorem RX{op:UnaryOp}{r:V->Hp->VK->Prop}(ho:UnR X (unaryOp op) r)(ha:PE X a ta):PE X (.UnaryOp op a pos) (tUn r ta):=by
 intro pins s Y H Q I h
 exact UnaryOp_ (thn (ha pins s Y H _ I h) fun v s1 ⟨x,H1,I1,r1,q1⟩=>ho pins s1 Y H1 x v Q I1 r1 q1)
theorem opI{f:Value->Value->Sem Value}{C:Int->Int->Prop}{g:Int->Int->Int}
  (rule:∀(i j:Int) (t u:Tok) (s:Shared) (Q:Value->Shared->Prop) (E:Value->Shared->Prop),C i j->Q (.int (g i j) s.toks) {s with toks:=s.toks+1}->wpAny (model X.prog X.w) X.A (f (.int i t) (.int j u)) Q E s) :
  OpR X f (rI C fun i j=>.int (g i j)):=by
 intro pins s Y H x y v u Q I rx ry h
 obtain⟨i,j,rfl,rfl,hc,q⟩:=h
 obtain⟨t,rfl⟩:=rx
 obtain⟨t',rfl⟩:=ry
 exact rule i j t t' s _ _ hc ⟨.int (g i j),H,I.tok _,⟨_,rfl⟩,q⟩
theorem Ri{f:Value->Value->Sem Value}{g:Int->Int->Int}
  (rule:∀(i j:Int) (t u:Tok) (s:Shared) (Q:Value->Shared->Prop) (E:Value->Shared->Prop),Q (.int (g i j) s.toks) {s with toks:=s.toks+1}->wpAny (model X.prog X.w) X.A (f (.int i t) (.int j u)) Q E s) :
  OpR X f (rI0 fun i j=>.int (g i j)):=by
 intro pins s Y H x y v u Q I rx ry h
 obtain⟨i,j,rfl,rfl,q⟩:=h
 obtain⟨t,rfl⟩:=rx
 obtain⟨t',rfl⟩:=ry
 exact rule i j t t' s _ _ ⟨.int (g i j),H,I.tok _,⟨_,rfl⟩,q⟩
theorem LP{f:Value->Value->Sem Value}{g:Int->Int->Bool}
  (rule:∀(i j:Int) (t u:Tok) (s:Shared) (Q:Value->Shared->Prop) (E:Value->Shared->Prop),Q (.bool (g i j)) s->wpAny (model X.prog X.w) X.A (f (.int i t) (.int j u)) Q E s) :
  OpR X f (rI0 fun i j=>.bl (g i j)):=by
 intro pins s Y H x y v u Q I rx ry h
 obtain⟨i,j,rfl,rfl,q⟩:=h
 obtain⟨t,rfl⟩:=rx
 obtain⟨t',rfl⟩:=ry
 exact rule i j t t' s _ _ ⟨.bl (g i j),H,I,rfl,q⟩
noncomputable def PX(i j:Int):Prop:=0<=j/\j<=1000000/\i.natAbs<2 ^ 64
noncomputable def My(i j:Int):Prop:=(-(2 ^ 64)<i/\i<2 ^ 64)\/(-(2 ^ 64)<j/\j<2 ^ 64)
theorem My.ok{i j:Int}(h:My i j):IntMulOk i j:=by
 rcases h with ⟨h1,h2⟩|⟨h1,h2⟩
 ·exact .of_left (intBits_le_64 h1 h2)
 ·exact .of_right (intBits_le_64 h1 h2)
theorem Kl:OpR X (binaryOp .Add) (rI0 fun i j=>.int (i+j)):=Ri fun _ _ _ _ _ _ _ q=>add_int q
theorem Pg:OpR X (binaryOp .Sub) (rI0 fun i j=>.int (i-j)):=Ri fun _ _ _ _ _ _ _ q=>sub_int q
theorem LW:OpR X (binaryOp .Mod) (rI (fun _ j=>j≠0) fun i j=>.int (i.fmod j)):=opI fun _ _ _ _ _ _ _ hc q=>mod_int' hc q
theorem Qz:OpR X (binaryOp .Pow) (rI PX fun i j=>.int (i ^ j.toNat)):=opI fun _ _ _ _ _ _ _ hc q=>pow_int_small hc.1 hc.2.1 hc.2.2 q
theorem unI{f:Value->Sem Value}{g:Int->Int}
  (rule:∀(i:Int) (t:Tok) (s:Shared) (Q:Value->Shared->Prop) (E:Value->Shared->Prop),Q (.int (g i) s.toks) {s with toks:=s.toks+1}->wpAny (model X.prog X.w) X.A (f (.int i t)) Q E s) :
  UnR X f (rU fun i=>.int (g i)):=by
 intro pins s Y H x v Q I rx h
 obtain⟨i,rfl,q⟩:=h
 obtain⟨t,rfl⟩:=rx
 exact rule i t s _ _ ⟨.int (g i),H,I.tok _,⟨_,rfl⟩,q⟩
theorem Ol:UnR X (unaryOp .USub) (rU fun i=>.int (-i)):=unI fun _ _ _ _ _ q=>neg_int q
end
section
variable {X:Cx}{a b c:Expr}{ta tb tc:TE}{pos:Pos}
theorem kf:OpR X (compareOp .Lt) (rI0 fun i j=>.bl (decide (i<j))):=LP fun _ _ _ _ _ _ _ q=>lt_int q
theorem uZ:OpR X (compareOp .LtE) (rI0 fun i j=>.bl (decide (i<=j))):=LP fun _ _ _ _ _ _ _ q=>le_int q
theorem gI:OpR X (compareOp .Gt) (rI0 fun i j=>.bl (decide (j<i))):=LP fun _ _ _ _ _ _ _ q=>gt_int q
theorem xi:OpR X (compareOp .GtE) (rI0 fun i j=>.bl (decide (j<=i))):=LP fun _ _ _ _ _ _ _ q=>ge_int q
theorem OpR.or{f:Value->Value->Sem Value}{r r':R2}(h:OpR X f r)(h':OpR X f r'):OpR X f (fun x y H Q=>r x y H Q\/r' x y H Q):=by
 intro pins s Y H x y v u Q I rx ry q
 rcases q with q|q
 ·exact h pins s Y H x y v u Q I rx ry q
 ·exact h' pins s Y H x y v u Q I rx ry q
theorem aB(b:Expr){op:CmpOp}(h:op≠.In:=by decide)(h2:op≠.NotIn:=by decide):behindInMarks op b=false:=by
 have e1:(op==CmpOp.In)=false:=by cases op<;>first|rfl|exact absurd rfl h
 have e2:(op==CmpOp.NotIn)=false:=by cases op<;>first|rfl|exact absurd rfl h2
 cases b<;>simp[behindInMarks,e1,e2]
theorem LX{op:CmpOp}{r:R2}(ho:OpR X (compareOp op) r)(ha:PE X a ta)(hb:PE X b tb)(hm:behindInMarks op b=false):PE X (.Compare a [op] [b] pos) (tOp r ta tb):=by
 intro pins s Y H Q I h
 exact wpAny_Compare1 (OI ha hb I h fun v u s2 x y H2 I2 rx ry q=>ho pins s2 Y H2 x y v u Q I2 rx ry q) hm
noncomputable def Lh(t:TE):TT:=fun Y H Q=>t Y H fun x H'=>∃k,x = .bl k/\Q k H'
theorem M9{op:CmpOp}{r:R2}(ho:OpR X (compareOp op) r)(ha:PE X a ta)(hb:PE X b tb)(hm:behindInMarks op b=false):PT X (.Compare a [op] [b] pos) (Lh (tOp r ta tb)):=by
 intro pins s Y H Q I h
 refine wpAny_isTrue_Compare1 (thn (ha pins s Y H _ I h) fun v s1 ⟨x,H1,I1,r1,q1⟩=>thn (hb pins s1 Y H1 _ I1 q1) fun u s2 ⟨y,H2,I2,r2,q2⟩=>
  thn (ho pins s2 Y H2 x y v u _ I2 r1 r2 q2) fun c s3 ⟨z,H3,I3,r3,k,e,q3⟩=>?_) hm
 subst e
 cases r3
 exact wpAny_truthy_bool ⟨H3,I3,q3⟩
noncomputable def La(r r':R2)(ta tb tc:TE):TE:=fun Y H Q=>ta Y H fun x H1=>tb Y H1 fun y H2=>r x y H2 fun z H3=>∃k,z = .bl k /\
 (if k=true then tc Y H3 fun w' H4=>r' y w' H4 Q else Q (.bl false) H3)
theorem LH{op op':CmpOp}{r r':R2}(ho:OpR X (compareOp op) r)(ho':OpR X (compareOp op') r')(ha:PE X a ta)(hb:PE X b tb)(hc:PE X c tc)
  (hm:lastMarks [op,op'] [b,c]=false:=by with_unfolding_all rfl):PE X (.Compare a [op,op'] [b,c] pos) (La r r' ta tb tc):=by
 intro pins s Y H Q I h
 refine Compare_chain (thn (ha pins s Y H _ I h) fun v s1 ⟨x,H1,I1,r1,q1⟩=>chain_link (thn (hb pins s1 Y H1 _ I1 q1) fun u s2 ⟨y,H2,I2,r2,q2⟩=>
  thn (ho pins s2 Y H2 x y v u _ I2 r1 r2 q2) fun d s3 ⟨z,H3,I3,r3,k,e,q3⟩=>?_)) hm
 subst e
 cases r3
 refine wpAny_truthy_bool ?_
 cases k with
 |false=>exact ite_ff ⟨.bl false,H3,I3,rfl,q3⟩
 |true=>exact ite_tt (chain_last (thn (hc pins s3 Y H3 _ I3 q3) fun w' s4 ⟨z',H4,I4,r4,q4⟩=>ho' pins s4 Y H4 y z' u w' Q I4 r2 r4 q4))
theorem Ka{op op':CmpOp}{r r':R2}(ho:OpR X (compareOp op) r)(ho':OpR X (compareOp op') r')(ha:PE X a ta)(hb:PE X b tb)(hc:PE X c tc)
  (hm:lastMarks [op,op'] [b,c]=false:=by with_unfolding_all rfl):PT X (.Compare a [op,op'] [b,c] pos) (Lh (La r r' ta tb tc)):=by
 intro pins s Y H Q I h
 refine isTrue_chain (thn (ha pins s Y H _ I h) fun v s1 ⟨x,H1,I1,r1,q1⟩=>test_link (thn (hb pins s1 Y H1 _ I1 q1) fun u s2 ⟨y,H2,I2,r2,q2⟩=>
  thn (ho pins s2 Y H2 x y v u _ I2 r1 r2 q2) fun d s3 ⟨z,H3,I3,r3,k,e,q3⟩=>?_)) hm
 subst e
 cases r3
 refine wpAny_truthy_bool ?_
 cases k with
 |false=>
  obtain⟨k',e',q'⟩:=q3
  cases e'
  exact ite_ff ⟨H3,I3,q'⟩
 |true=>
  refine ite_tt (test_last (thn (hc pins s3 Y H3 _ I3 q3) fun w' s4 ⟨z',H4,I4,r4,q4⟩=>thn (ho' pins s4 Y H4 y z' u w' _ I4 r2 r4 q4) fun d' s5 hq0=>?_))
  obtain⟨z2,H5,I5,r5,k2,e2,q5⟩:=hq0
  subst e2
  cases r5
  exact wpAny_truthy_bool ⟨H5,I5,q5⟩
noncomputable def Rl(K:PySem.W.Frag)(x:V)(H:Hp)(k:Bool):Prop:=
 match x with
 |.non=>k=false
 |.bl b=>k=b
 |.int i=>k=(i != 0)
 |.str y=>y.length<=sizeLine/\k=((y.length:Int) != 0)
 |.byt y=>y.size<=sizeLine/\k=((y.size:Int) != 0)
 |.ref p=>(∃xs,SqL K H p xs/\k = !xs.isEmpty)\/(∃xs,SqT K H p xs/\k = !xs.isEmpty)\/∃kvs,H p=some (.dK kvs)/\k = !kvs.isEmpty
 |_=>False
theorem Hq{κ:Type}{kvs:List (κ×V)}{vs:List (κ×Value)}(r:KV kvs vs):(!vs.isEmpty) = !kvs.isEmpty:=by
 cases r<;>rfl
theorem An{xs:List V}{its:List Value}(r:Vals xs its):(!its.toArray.isEmpty) = !xs.isEmpty:=by
 cases r<;>simp
theorem vt:(sizeLine:Nat)<2 ^ 63:=by rw[sizeLine_eq];decide
theorem Od:Sv X (fun x H Q=>∃k,Rl X.K x H k/\Q k H):=by
 intro pins s Y H x v Q I rx h
 obtain⟨k,e,q⟩:=h
 have hl:=vt
 have hs:sizeLine=16777216:=sizeLine_eq
 cases x with
 |non=>
  cases rx
  have e':k=false:=e
  subst e'
  exact truthy_none ⟨H,I,q⟩
 |bl b=>
  cases rx
  have e':k=b:=e
  subst e'
  exact wpAny_truthy_bool ⟨H,I,q⟩
 |int i=>
  obtain⟨t,rfl⟩:=rx
  have e':k=(i != 0):=e
  subst e'
  exact PySem.P.truthy_int ⟨H,I,q⟩
 |str y=>
  obtain⟨t,rfl⟩:=rx
  obtain⟨hy,e'⟩:y.length<=sizeLine/\k=((y.length:Int) != 0):=e
  subst e'
  exact PySem.P.truthy_str ∅ ⟨H,I.tok _,q⟩
 |byt y=>
  obtain⟨t,rfl⟩:=rx
  obtain⟨hy,e'⟩:y.size<=sizeLine/\k=((y.size:Int) != 0):=e
  subst e'
  exact PySem.W.truthy_bytes ∅ ⟨H,I.tok _,q⟩
 |ref p=>
  cases rx
  have e':(∃xs,SqL X.K H p xs/\k = !xs.isEmpty)\/(∃xs,SqT X.K H p xs/\k = !xs.isEmpty)\/∃kvs,H p=some (.dK kvs)/\k = !kvs.isEmpty:=e
  rcases e' with ⟨xs,hx,e'⟩|⟨xs,hx,e'⟩|⟨kvs,hx,e'⟩
  ·subst e'
   obtain⟨its,r,pl,hz⟩:=I.list hx
   have hlen:=r.length
   exact wpAny_truthy_list pl.isList (by simp only[size_toArray];omega) ⟨H,I.tok _,by rw[An r];exact q⟩
  ·subst e'
   obtain⟨its,r,pl,hz⟩:=I.tuple hx
   have hlen:=r.length
   exact truthy_tuple pl (by simp only[size_toArray];omega) ⟨H,I.tok _,by rw[An r];exact q⟩
  ·subst e'
   obtain⟨hz,hS,vs,r,m⟩:kvs.length<=sizeLine/\(p==sysModules)=false/\∃vs,KV kvs vs/\s.heap.DictOf (Df X.prog X.w) p vs:=I.hok p _ hx
   have hlen:kvs.length=vs.length:=Paired.length r
   exact wpAny_truthy_dict hS m ∅ ⟨H,I.tok _,by rw[Hq r];exact q⟩
 |_=>exact (show False from e).elim
theorem KU(ha:PE X a ta)(he:∀whole,isTrue a X.env whole=(do let v <- whole;standAt a.pos;holding [v] (truthy v))) :
  PT X a (fun Y H Q=>ta Y H fun x H'=>∃k,Rl X.K x H' k/\Q k H'):=by
 intro pins s Y H Q I h
 exact isTrue_plain (thn (ha pins s Y H _ I h) fun v s1 ⟨x,H1,I1,r1,q1⟩=>Od pins s1 Y H1 x v Q I1 r1 q1) (he _)
theorem vals1{x:V}{us:List Value}(r:Vals [x] us):∃u,us=[u]/\RelV x u:=by
 cases r with
 |cons r1 r2=>cases r2;exact⟨_,rfl,r1⟩
theorem vals2{x y:V}{us:List Value}(r:Vals [x,y] us):∃u w',us=[u,w']/\RelV x u/\RelV y w':=by
 cases r with
 |cons r1 r2=>
  cases r2 with
  |cons r3 r4=>cases r4;exact⟨_,_,rfl,r1,r3⟩
theorem J8:jo X (.builtin "abs") (fun xs H Q=>∃i,xs=[.int i]/\Q (.int (if i<0 then -i else i)) H):=by
 intro pins s Y H xs us Q I r h
 obtain⟨i,rfl,q⟩:=h
 obtain⟨u,rfl,t,rfl⟩:=vals1 r
 exact call_abs_int fun u tk=>⟨.int (if i<0 then -i else i),H,I.tok _,⟨_,rfl⟩,q⟩
theorem JK(hc:X.calm=true):jo X (.builtin "max") (fun xs H Q=>∃i j,xs=[.int i,.int j]/\Q (.int (if j>i then j else i)) H):=by
 intro pins s Y H xs us Q I r h
 obtain⟨i,j,rfl,q⟩:=h
 obtain⟨u,w',rfl,⟨t,rfl⟩,⟨t',rfl⟩⟩:=vals2 r
 refine max_two_ints (I.ok.hd hc) fun h' tk k=>⟨_,H,I.kept k,?_,q⟩
 by_cases hj:j>i
 ·rw[if_pos hj,if_pos hj];exact⟨_,rfl⟩
 ·rw[if_neg hj,if_neg hj];exact⟨_,rfl⟩
theorem JD(hc:X.calm=true):jo X (.builtin "min") (fun xs H Q=>∃i j,xs=[.int i,.int j]/\Q (.int (if j<i then j else i)) H):=by
 intro pins s Y H xs us Q I r h
 obtain⟨i,j,rfl,q⟩:=h
 obtain⟨u,w',rfl,⟨t,rfl⟩,⟨t',rfl⟩⟩:=vals2 r
 refine min_two_ints (I.ok.hd hc) fun h' tk k=>⟨_,H,I.kept k,?_,q⟩
 by_cases hj:j<i
 ·rw[if_pos hj,if_pos hj];exact⟨_,rfl⟩
 ·rw[if_neg hj,if_neg hj];exact⟨_,rfl⟩
theorem Jq:jo X (.type "int") (fun xs H Q=>(∃i,xs=[.int i]/\Q (.int i) H)\/∃k,xs=[.bl k]/\Q (.int (if k then 1 else 0)) H):=by
 intro pins s Y H xs us Q I r h
 rcases h with ⟨i,rfl,q⟩|⟨k,rfl,q⟩
 ·obtain⟨u,rfl,t,rfl⟩:=vals1 r
  exact call_int_int ⟨.int i,H,I,⟨_,rfl⟩,q⟩
 ·obtain⟨u,rfl,r1⟩:=vals1 r
  cases r1
  exact call_int_bool ⟨.int (if k then 1 else 0),H,I.tok _,⟨_,rfl⟩,q⟩
end
end L2
namespace L2
open PySem PySem.Spec PyProof.Rows
end L2
namespace L2
open PySem PySem.Spec PyProof.Rows
structure lq(k:Nat)(A:Around):Prop where
 hd:A.handled=none
 dp:A.depth+3*k+5<recursionLimit
 un:A.units+16*k+200<cLine
theorem lq.mono{j k:Nat}{A:Around}(r:lq k A)(h:j<=k):lq j A:=⟨r.hd,by have:=r.dp;omega,by have:=r.un;omega⟩
theorem lq.deeper{k:Nat}{A:Around}(r:lq (k+1) A)(env:Env):lq k (A.deeper env):=
 ⟨r.hd,by have:=r.dp;show A.depth+1+3*k+5<_;omega,by have:=r.un;show A.units+3+16*k+200<_;omega⟩
theorem lq.depth{k:Nat}{A:Around}(r:lq k A):A.depth<recursionLimit:=by have:=r.dp;omega
theorem lq.units{k:Nat}{A:Around}(r:lq k A):A.units+64<cLine:=by have:=r.un;omega
noncomputable def SG:TA:=fun _ H Q=>Q [] H
noncomputable def Q4(ta:TE)(tr:TA):TA:=fun Y H Q=>ta Y H fun x H1=>tr Y H1 fun xs H2=>Q (x::xs) H2
section
variable {X:Cx}{e:Expr}{es:List Expr}{te:TE}{t:TA}{pos:Pos}
theorem Ej:PA X [] SG:=fun _ _ _ _ H Q I h=>Calls.spliced_nil ⟨[],H,I,.nil,h⟩
theorem vj(ha:PE X e te)(hr:PA X es t)(hs:starEach (e::es) X.env=(false,eval e X.env)::starEach es X.env:=by rfl):PA X (e::es) (Q4 te t):=by
 intro pos pins s Y H Q I h
 rw[hs]
 show wpAny _ _ (spliced ((false,eval e X.env)::backTo pos (starEach es X.env))) _ _ s
 refine Calls.spliced_cons (thn (ha pins s Y H _ I h) fun u s1 hq0=>?_)
 obtain⟨x,H1,I1,r1,q1⟩:=hq0
 exact thn (hr pos pins s1 Y H1 _ I1 q1) fun us s2 ⟨xs,H2,I2,r2,q2⟩=>⟨x::xs,H2,I2,.cons r1 r2,q2⟩
noncomputable def SS(t:TA):TE:=fun Y H Q=>t Y H fun xs H1=>xs.length<=sizeLine/\∀p,H1 p=none->Q (.ref p) (upd H1 p (.tup xs))
noncomputable def So(t:TA):TE:=fun Y H Q=>t Y H fun xs H1=>xs.length<=sizeLine/\∀p,H1 p=none->Q (.ref p) (upd H1 p (.lst xs))
theorem Px{x1}(h:PA X es t):PE X (.Tuple es x1 pos) (SS t):=by
 intro pins s Y H Q I hq
 refine wpAny_Tuple_spliced (thn (h pos pins s Y H _ I hq) fun us s1 ⟨xs,H1,I1,r,z,q⟩=>⟨by rw[<- r.length];exact z,?_⟩)
 have hf:H1 s1.heap.objs.size=none:=I1.hok.fresh (le_refl _)
 refine⟨.ref s1.heap.objs.size,upd H1 s1.heap.objs.size (.tup xs),I1.laid (t':=s1.toks) (fun b u e=>Heap.get?_push_of_some _ e) (le_refl _) ?_,rfl,q _ hf⟩
 exact⟨z,us,r,⟨_,Heap.get?_push_size _ rfl,rfl,_,rfl⟩⟩
theorem OB(h:PA X es t):PE X (.List es pos) (So t):=by
 intro pins s Y H Q I hq
 refine wpAny_List_spliced (thn (h pos pins s Y H _ I hq) fun us s1 ⟨xs,H1,I1,r,z,q⟩=>⟨by rw[<- r.length];exact z,?_⟩)
 have hf:H1 s1.heap.objs.size=none:=I1.hok.fresh (le_refl _)
 refine⟨.ref s1.heap.objs.size,upd H1 s1.heap.objs.size (.lst xs),I1.laid (t':=s1.toks) (fun b u e=>Heap.get?_push_of_some _ e) (le_refl _) ?_,rfl,q _ hf⟩
 exact⟨z,us,0,r,Heap.get?_push_size _ rfl⟩
end
noncomputable abbrev Sp:=List V->Hp->VK->XK->Prop
noncomputable abbrev CXT:=List Env->Hp->Shared->XK->Value->Shared->Prop
structure Mn(P:Program)(w:World)(K:PySem.W.Frag)(mg:Str->Option Value)(base:Heap)(A:Around)(outer:List Env)(s:Shared)(H:Hp):Prop where
 frames:A.frames=some outer
 mod:Mod K mg base
 bs:∀b o,base.get? b=some o->s.heap.get? b=some o/\H b=none
 bsz:base.objs.size<=s.heap.objs.size
 yV:s.heap.FunFrames base outer
 frf:∀b∈frs outer,H b=none
 hok:HOk P w H s.heap
 bare:AllBare s.gens
noncomputable def CE(outer:List Env)(P:Program)(w:World)(H:Hp)(s:Shared)(Q:VK)(u:Value)(s':Shared):Prop:=
 ∃v H',s'.os=s.os/\AllBare s'.gens/\Un (frs outer) [] H H' s.heap s'.heap/\HOk P w H' s'.heap/\RelV v u/\Q v H'
noncomputable def CR(CX:CXT)(outer:List Env)(P:Program)(w:World)(H:Hp)(s:Shared)(Q:VK)(E:XK)(r:Result)(s':Shared):Prop:=
 match r with
 |.ok (.ret u)=>CE outer P w H s Q u s'
 |.ok _=>False
 |.error e=>CX outer H s E e s'
structure mw(P:Program)(w:World)(K:PySem.W.Frag)(mg:Str->Option Value)(base:Heap)(CX:CXT)(k:Nat)(f:Addr)(fd:FuncData)(ps:List Str)(sp:Sp):Prop where
 len:∀vs H Q E,sp vs H Q E->vs.length=ps.length
 run:∀(A:Around) (outer:List Env) (s:Shared) (H:Hp) (args:Args) (us:List Value) (vs:List V) (Q:VK) (E:XK),lq k A->Mn P w K mg base A outer s H->BindsTo s fd args (ps.zip us)->Vals vs us->sp vs H Q E ->
  codeAny (model P w) A (.call (.ref f) args) (CR CX outer P w H s Q E) s
theorem mw.imp{P:Program}{w:World}{K:PySem.W.Frag}{mg:Str->Option Value}{base:Heap}{CX:CXT}{k:Nat}{f:Addr}{fd:FuncData}{ps:List Str}{sp sp':Sp}(F:mw P w K mg base CX k f fd ps sp)
  (h:∀vs H Q E,sp' vs H Q E->sp vs H Q E):mw P w K mg base CX k f fd ps sp':=
 ⟨fun vs H Q E q=>F.len vs H Q E (h _ _ _ _ q),fun A outer s H args us vs Q E hr he hb hv hs=>F.run A outer s H args us vs Q E hr he hb hv (h _ _ _ _ hs)⟩
section
variable {X:Cx}{pins:List (Addr×Obj)}{Y:St}{H:Hp}{s s':Shared}
theorem Inv.Sd(I:Inv X pins Y H s):Mn X.prog X.w X.K X.mg X.base X.A X.stack s H:=
 ⟨I.ok.frames,I.ok.mod,I.bs,le_trans I.ok.bsz I.sz,I.stack,I.IK,I.hok,I.bare⟩
theorem Inv.after{Q:VK}{u:Value}(I:Inv X pins Y H s)(h:CE X.stack X.prog X.w H s Q u s'):EP X pins Y Q u s':=by
 obtain⟨v,H',os,bare,un,hok,r,q⟩:=h
 obtain⟨hh,g,d,t,os'⟩:=s'
 obtain rfl:os'=s.os:=os
 exact⟨v,H',I.call (h':=hh) (g':=g) (d':=d) (t':=t) (ch:=[]) un hok bare (fun b z=>absurd z (by simp)),r,q⟩
end
noncomputable def QK(sp:Sp)(dvs:List V)(E:XK)(t:TA):TE:=fun Y H Q=>t Y H fun vs H1=>sp (vs++dvs) H1 Q E
noncomputable def Binds(K:PySem.W.Frag)(fd:FuncData)(ps:List Str)(ds:List Value):Prop:=
 ∀(s:Shared) (us:List Value),K.In s.heap->(us++ds).length=ps.length->BindsTo s fd ⟨us,[]⟩ (ps.zip (us++ds))
theorem Binds.all{K:PySem.W.Frag}{fd:FuncData}{ps:List Str}(h:∀us:List Value,us.length=ps.length->bindArgs fd ⟨us,[]⟩=pure (ps.zip us)):Binds K fd ps []:=fun s us _ hl=>by
 rw[List.append_nil] at hl ⊢
 exact .of_eq (h us hl)
noncomputable def Passes(CX:CXT)(X:Cx)(E:XK):Prop:=∀(pins:List (Addr×Obj)) (Y:St) (H:Hp) (s:Shared) (e:Value) (s':Shared),Inv X pins Y H s->CX X.stack H s E e s'->X.xe e s'
section
variable {X:Cx}{CX:CXT}{k:Nat}{f C:Addr}{fd:FuncData}{ps:List Str}{sp:Sp}{dvs:List V}{ds:List Value}{E:XK}{x m:Str}{p pos apos:Pos}{e o:Expr}{es:List Expr}{ta:TE}{t:TA}
theorem PY{pins:List (Addr×Obj)}{Y:St}{H:Hp}{s:Shared}{Q:VK}{us:List Value}{vs:List V}(F:mw X.prog X.w X.K X.mg X.base CX k f fd ps sp)(hr:lq k X.A)(hb:Binds X.K fd ps ds)(hd:Vals dvs ds)(hx:Passes CX X E)
  (I:Inv X pins Y H s) (r:Vals vs us) (h:sp (vs++dvs) H Q E):wpAny (model X.prog X.w) X.A (call (.ref f) us) (EP X pins Y Q) X.xe s:=by
 have r2:Vals (vs++dvs) (us++ds):=r.append hd
 have hl:(us++ds).length=ps.length:=by rw[<- r2.length];exact F.len _ _ _ _ h
 refine wpAny_call (codeAny_mono (F.run X.A X.stack s H ⟨us,[]⟩ (us++ds) (vs++dvs) Q E hr I.Sd (hb s us I.kIn hl) r2 h) fun r s' hq=>?_)
 cases r with
 |error e=>exact hx pins Y H s e s' I hq
 |ok fl=>
  cases fl with
  |ret u=>exact I.after hq
  |next=>exact False.elim hq
  |brk=>exact False.elim hq
  |cont=>exact False.elim hq
theorem M6(F:mw X.prog X.w X.K X.mg X.base CX k f fd ps sp)(hr:lq k X.A)(hg:Gl X x)(hm:X.mg x=some (.ref f))(hk:keepIn X.K (.ref f)=true)(hb:Binds X.K fd ps ds)(hd:Vals dvs ds)(hx:Passes CX X E)
  (ha:PA X (e::es) t) (hdb:(x==("__debug__":Str))=false:=by decide) (he:starEach (e::es) X.env=(false,eval e X.env)::starEach es X.env:=by rfl) (hpl:(backTo pos (starEach es X.env)).any (·.1)=false:=by rfl) :
  PE X (.Call (.Name x p) (e::es) [] pos) (QK sp dvs E t):=by
 intro pins s Y H Q I h
 refine wpAny_Call_Name_kw (Ia I hg hm ?_ hdb)
 refine PySem.W.callWith_K (h₀:=X.base) I.ok.mod.kin hk (thn (ha pos pins s Y H _ I h) fun us s1 ⟨vs,H1,I1,r,q⟩=>⟨I1.kIn,?_⟩) he hpl
 exact PY F hr hb hd hx I1 r q
end
structure aD(N P:List Str)(sc:Scope):Prop where
 kind:sc.kind = .function
 co:sc.isCoroutine=false
 gen:sc.isGenerator=false
 nd:N.Nodup
 pre:N.take P.length=P
 par:∀x∈P,sc.names.lookup x=some .local\/sc.names.lookup x=some .cell
 Pz:∀y∈sc.names,y.2≠.free
theorem BD{kindOf:Str->Option NameKind}{x:Str}:∀{binds:List (Str×Value)} {m:Str->Option Value},(∀v,(x,v) ∉ binds)->bindL kindOf binds m x=m x
 |[],_,_=>rfl
 |(n,v)::r,m,h=>by
  unfold bindL
  rw[BD fun w hw=>h w (mem_cons_of_mem _ hw)]
  split
  ·have:x≠n:=by rintro rfl;exact h v mem_cons_self
   simp[this]
  ·rfl
theorem BW{kindOf:Str->Option NameKind}{x:Str}:∀{binds:List (Str×Value)} {m:Str->Option Value},(∀v,(x,v) ∉ binds)->bindC kindOf binds m x=m x
 |[],_,_=>rfl
 |(n,v)::r,m,h=>by
  unfold bindC
  rw[BW fun w hw=>h w (mem_cons_of_mem _ hw)]
  split
  ·rfl
  ·have:x≠n:=by rintro rfl;exact h v mem_cons_self
   simp[this]
theorem B9{kindOf:Str->Option NameKind}{x:Str}{v:Value}:∀{P:List Str} {vs:List Value} {i:Nat} {m:Str->Option Value},P.Nodup->P[i]? = some x->vs[i]? = some v->kindOf x=some .local ->
  bindL kindOf (P.zip vs) m x=some v
 |[],_,_,_,_,h,_,_=>by simp at h
 |_::_,[],_,_,_,_,h,_=>by simp at h
 |p::P,w::vs,0,m,nd,h1,h2,hk=>by
  simp at h1 h2;subst h1;subst h2
  show bindL kindOf ((p,w)::P.zip vs) m p=_
  unfold bindL
  rw[BD fun v hv=>(List.nodup_cons.mp nd).1 (List.of_mem_zip hv).1,if_pos hk]
  simp
 |p::P,w::vs,i+1,m,nd,h1,h2,hk=>by
  show bindL kindOf ((p,w)::P.zip vs) m x=_
  unfold bindL
  exact B9 (i:=i) (List.nodup_cons.mp nd).2 (by simpa using h1) (by simpa using h2) hk
theorem BL{kindOf:Str->Option NameKind}{x:Str}{v:Value}:∀{P:List Str} {vs:List Value} {i:Nat} {m:Str->Option Value},P.Nodup->P[i]? = some x->vs[i]? = some v->kindOf x≠some .local ->
  bindC kindOf (P.zip vs) m x=some v
 |[],_,_,_,_,h,_,_=>by simp at h
 |_::_,[],_,_,_,_,h,_=>by simp at h
 |p::P,w::vs,0,m,nd,h1,h2,hk=>by
  simp at h1 h2;subst h1;subst h2
  show bindC kindOf ((p,w)::P.zip vs) m p=_
  unfold bindC
  rw[BW fun v hv=>(List.nodup_cons.mp nd).1 (List.of_mem_zip hv).1,if_neg hk]
  simp
 |p::P,w::vs,i+1,m,nd,h1,h2,hk=>by
  show bindC kindOf ((p,w)::P.zip vs) m x=_
  unfold bindC
  exact BL (i:=i) (List.nodup_cons.mp nd).2 (by simpa using h1) (by simpa using h2) hk
noncomputable def start(N:List Str)(vs:List V):St:=vs.map some++List.replicate (N.length-vs.length) none
noncomputable def FG(CX:CXT)(P:Program)(w:World)(K:PySem.W.Frag)(mg:Str->Option Value)(base:Heap)(N:List Str)(qual:Str)(scope:Scope)(f:Addr)(cd:Value)(A:Around)(outer:List Env)(s:Shared)(H:Hp)(E:XK):Cx where
 prog:=P
 w:=w
 K:=K
 mg:=mg
 base:=base
 A:=A.deeper (envOfC qual scope s.heap.objs.size f cd)
 N:=N
 ci:=s
 H₀:=H
 env:=envOfC qual scope s.heap.objs.size f cd
 outer:=outer
 stack:=envOfC qual scope s.heap.objs.size f cd::outer
 ex:=[]
 calm:=true
 fn:=fun _=>true
 pn:=[]
 xe:=fun e s'=>wpAny (model P w) (A.deeper (envOfC qual scope s.heap.objs.size f cd)) (leaving (envOfC qual scope s.heap.objs.size f cd) e) (fun _ s''=>CX outer H s E e s'') (fun e' s''=>CX outer H s E e' s'') s'
theorem EJ{sc:Scope}{n:Nat}{x:Str}(h:sc.names.lookup x=some .cell):∃c,(cellsFrom n sc.names []).lookup x=some c:=by
 have q:=PySem.W.cellsFrom_some sc.names n [] (.inl h)
 exact Option.isSome_iff_exists.mp q
theorem IU{CX:CXT}{P:Program}{w:World}{K:PySem.W.Frag}{mg:Str->Option Value}{base:Heap}{N ps:List Str}{qual:Str}{scope:Scope}{f:Addr}{cd:Value}{A:Around}{outer:List Env}{s s1:Shared}{H:Hp}{E:XK}{us:List Value}{vs:List V}
  (S:aD N ps scope) (hd:A.handled=none) (e0:Mn P w K mg base A outer s H) (hl:vs.length=ps.length) (r:Vals vs us)
  (x:InCallC s s.heap.objs.size (bindL (envOfC qual scope s.heap.objs.size f cd).kindOf (ps.zip us) fun _=>none) (cellsFrom (s.heap.objs.size+1) scope.names []) (bindC (envOfC qual scope s.heap.objs.size f cd).kindOf (ps.zip us) fun _=>none) s1) :
  Inv (FG CX P w K mg base N qual scope f cd A outer s H E) [] (start N vs) H s1:=by
 have hpl:ps.length<=N.length:=by have:=congrArg List.length S.pre;rw[length_take] at this;omega
 obtain⟨h1,tk,rfl,hk⟩:=x.done
 have noA:∀b:Addr,b ∉ (FG CX P w K mg base N qual scope f cd A outer s H E).ex:=fun b z=>absurd (show b∈([]:List Addr) from z) (by simp)
 refine⟨⟨e0.mod,S.kind,rfl,rfl,le_refl _,fun y z c h1 h2=>?_,fun y hy=>?_,fun y c _ h=>?_,fun _=>hd,.inl hd,Around.frames_deeper e0.frames,.inr ⟨rfl,rfl⟩,fun b z=>absurd z (noA b),e0.bs,e0.bsz,fun b _ _=>noA b,fun b z=>absurd z (noA b),e0.yV,e0.frf⟩,
  rfl,e0.bare,Un.kept hk,⟨_,x.toInCall.ns,fun i y v h1 h2 h3=>?_⟩,fun y c h=>⟨_,x.cell y c h⟩,e0.hok.fresh (le_refl _),fun y c h=>?_,fun p hp=>absurd (show p∈([]:List (Addr×Obj)) from hp) (by simp),e0.hok.kept hk,?_⟩
 ·exact name_of_addr x.apart (mem_of_lookup h1) (mem_of_lookup h2)
 ·have hy:scope.names.lookup y=some .cell\/scope.names.lookup y=some .free:=hy
  rcases hy with hy|hy
  ·exact EJ hy
  ·exact absurd rfl (S.Pz _ (mem_of_lookup hy))
 ·exact Nat.le_of_lt (x.above y c (mem_of_lookup h))
 ·have hi:i<vs.length:=by
   unfold start at h2
   by_cases hi:i<vs.length
   ·exact hi
   ·rw[List.getElem?_append_right (by simpa using hi)] at h2
    rw[List.getElem?_replicate] at h2
    split at h2<;>cases h2
  have ha:vs[i]? = some v:=by
   unfold start at h2
   rw[List.getElem?_append_left (by simpa using hi),getElem?_map] at h2
   cases e:vs[i]? with
   |none=>rw[e] at h2;cases h2
   |some a=>rw[e] at h2;cases h2;rfl
  obtain⟨u,hu,rv⟩:=r.get ha
  have hp:ps[i]? = some y:=by
   rw[<- S.pre,List.getElem?_take_of_lt ∅];exact h1
  have ndP:ps.Nodup:=by rw[<- S.pre];exact S.nd.sublist (List.take_sublist _ _)
  refine⟨u,rv,?_⟩
  rcases S.par y (mem_of_getElem? hp) with k|k
  ·exact .inl ⟨k,B9 ndP hp hu k⟩
  ·obtain⟨c,e⟩:=EJ (n:=s.heap.objs.size+1) k
   refine .inr ⟨.inl k,c,e,?_⟩
   have q:=x.cell y c e
   rw[BL ndP hp hu (by show scope.names.lookup y≠_;rw[k];decide)] at q
   exact q
 ·exact e0.hok.fresh (Nat.le_of_lt (x.above y c (mem_of_lookup h)))
 ·unfold start
  show _=N.length
  rw[length_append,length_map,List.length_replicate]
  omega
theorem QE{CX:CXT}{P:Program}{w:World}{K:PySem.W.Frag}{mg:Str->Option Value}{base:Heap}{k:Nat}{f:Addr}{name qual:Str}{params:Arguments}{body:List Stmt}{scope:Scope}{dV kV doc pm cdv ct oc:Value}{an od:Option Addr}
  {osl:Array (Option Value)} {N ps:List Str} {sp:Sp} (lk:K.lookup f=some ⟨oc,od,.func (fnOf name qual params body scope dV kV doc pm an cdv ct),osl⟩) (hcd:codeIn K cdv qual=true) (S:aD N ps scope)
  (len:∀vs H Q E,sp vs H Q E->vs.length=ps.length)
  (hbody:∀(A:Around) (outer:List Env) (s:Shared) (H:Hp) (vs:List V) (Q:VK) (E:XK),lq k (A.deeper (envOfC qual scope s.heap.objs.size f cdv))->sp vs H Q E ->
   ∃t,PSs (FG CX P w K mg base N qual scope f cdv A outer s H E) body t/\t {nx:=fun _ H'=>Q .non H',rt:=Q} (start N vs) H) :
  mw P w K mg base CX (k+1) f (fnOf name qual params body scope dV kV doc pm an cdv ct) ps sp:=by
 refine⟨len,fun A outer s H args us vs Q E hr e0 hb r hsp=>?_⟩
 have hl:=len _ _ _ _ hsp
 have KX:K.In s.heap:=e0.mod.kin.keeps fun b o e=>(e0.bs b o e).1
 have lim:s.heap.NoLimit:=e0.mod.nolimit.keeps fun b o e=>(e0.bs b o e).1
 have hkind:∀y∈ps.zip us,scope.names.lookup y.1=some .local\/(scope.names.lookup y.1=some .cell/\((cellsFrom (s.heap.objs.size+1) scope.names []).lookup y.1).isSome=true):=fun ⟨n,v⟩ hy=>by
  rcases S.par n (List.of_mem_zip hy).1 with q|q
  ·exact .inl q
  ·exact .inr ⟨q,PySem.W.cellsFrom_some _ _ _ (.inl q)⟩
 refine codeAny_call_function hr.depth (KX _ _ lk) rfl S.co S.gen rfl (PySem.W.codeRec_of KX hcd) (hb _ _ _ _ ?_)
 refine wpAny_newFunctionEnv_cells S.kind hkind fun env he s1 x=>?_
 subst he
 refine⟨lim.keeps x.toInCall.keep,codeAny_func ?_⟩
 obtain⟨t,ht,hq⟩:=hbody A outer s H vs Q E (hr.deeper _) hsp
 have I:Inv (FG CX P w K mg base N qual scope f cdv A outer s H E) [] (start N vs) H s1:=IU S hr.hd e0 hl r x
 refine wpAny_mono (ht [] s1 (start N vs) H _ I hq) (fun fl s' hs=>?_) fun e s' hs=>hs
 have fin:∀{al:St} {H':Hp} {v:V} {u:Value},Inv (FG CX P w K mg base N qual scope f cdv A outer s H E) [] al H' s'->RelV v u->Q v H'->CE outer P w H s Q u s':=
  fun {al H' v u} J rv q=>⟨v,H',J.os,J.bare,J.base,J.hok,rv,q⟩
 cases fl with
 |ret u=>
  obtain⟨v,al,H',J,rv,q⟩:=hs
  exact fin J rv q
 |next=>
  obtain⟨al,H',J,q⟩:=hs
  exact fin (v:=V.non) (u:=Value.none) J rfl q
 |brk=>
  obtain⟨_,_,_,q⟩:=hs
  exact False.elim q
 |cont=>
  obtain⟨_,_,_,q⟩:=hs
  exact False.elim q
end L2
namespace L2
open PySem PySem.Spec PyProof.Rows
section
variable {X:Cx}{x:Str}{p pos:Pos}{e:Expr}{es:List Expr}{t:TA}{id T:String}{r:List V->Hp->VK->Prop}
noncomputable def tCB(r:List V->Hp->VK->Prop)(t:TA):TE:=fun Y H Q=>t Y H fun vs H1=>r vs H1 Q
theorem EK(hc:jo X (.builtin id) r)(hg:Gl X x)(hm:X.mg x=none)(hv:bootBuiltins x=some (.builtin id))(ha:PA X (e::es) t)(hn:x ≠ "__name__":=by decide)(hdb:(x==("__debug__":Str))=false:=by decide)
  (he:starEach (e::es) X.env=(false,eval e X.env)::starEach es X.env:=by rfl) (hpl:(backTo pos (starEach es X.env)).any (·.1)=false:=by rfl):PE X (.Call (.Name x p) (e::es) [] pos) (tCB r t):=by
 intro pins s Y H Q I h
 refine wpAny_Call_Name_kw (vR I hg hm hv ?_ hn hdb)
 exact PyProof.Rows.callWith_builtin1 (thn (ha pos pins s Y H _ I h) fun us s1 ⟨vs,H1,I1,r1,q1⟩=>hc pins s1 Y H1 vs us Q I1 r1 q1) he hpl
theorem Jf(hc:jo X (.type T) r)(hg:Gl X x)(hm:X.mg x=none)(hv:bootBuiltins x=some (.type T))(ha:PA X (e::es) t)(hn:x ≠ "__name__":=by decide)(hdb:(x==("__debug__":Str))=false:=by decide)
  (he:starEach (e::es) X.env=(false,eval e X.env)::starEach es X.env:=by rfl) (hpl:(backTo pos (starEach es X.env)).any (·.1)=false:=by rfl):PE X (.Call (.Name x p) (e::es) [] pos) (tCB r t):=by
 intro pins s Y H Q I h
 refine wpAny_Call_Name_kw (vR I hg hm hv ?_ hn hdb)
 exact PyProof.Rows.callWith_type1 (thn (ha pos pins s Y H _ I h) fun us s1 ⟨vs,H1,I1,r1,q1⟩=>hc pins s1 Y H1 vs us Q I1 r1 q1) he hpl
end
end L2
namespace HT
open PySem PyProof.Rows
section
open PySem.SeqAt
open PySem.AutoSeq1 (wpAny_loadPart')
open PySem.MeetsSeq PySem.MeetsSeq2 PySem.MeetsSeq3
end
section
variable {prog:Program}{w:World}{A:Around}{E:Value->Shared->Prop}{s:Shared}
theorem L5{t b:Addr}{vs ws:List Value}{Q:Value->Shared->Prop}(ht:IsTup s.heap t vs.toArray)(hb:IsTup s.heap b ws.toArray)(hv:vs≠[])
  (h1:ws=[]->Q (.ref t) s) (h2:ws≠[]->Q (.ref s.heap.objs.size) {s with heap:=s.heap.push {cls:=.type "tuple",data:=.seq (vs++ws).toArray}})
  (hsz:vs.length+ws.length<=sizeLine):wpAny (model prog w) A (binaryOp .Add (.ref t) (.ref b)) Q E s:=by
 obtain⟨⟨cls,dd,data,sl⟩,ho,hc,n,hd⟩:=id ht
 obtain⟨⟨cls2,dd2,data2,sl2⟩,ho2,hc2,n2,hd2⟩:=id hb
 simp only at hc hd hc2 hd2
 subst hc hd hc2 hd2
 have e:vs.toArray++ws.toArray=(vs++ws).toArray:=by simp
 by_cases hw:ws=[]
 ·exact concat_meets ⟨_,ho,rfl⟩ ⟨_,ho2,rfl⟩ noFill_tuple_add seq_tuple_add PySem.F.slot_tuple_add PySem.F.entry_tuple_add (PySem.F.args_tuple_add_2 _ _)
   (tuple_addW1 t b vs.toArray ws.toArray n n2 dd dd2 sl sl2 (by simpa using hv) (by simp[hw])) ⟨ho,ho2,h1 hw⟩
 ·refine concat_meets ⟨_,ho,rfl⟩ ⟨_,ho2,rfl⟩ noFill_tuple_add seq_tuple_add PySem.F.slot_tuple_add PySem.F.entry_tuple_add (PySem.F.args_tuple_add_2 _ _)
   (tuple_addW2 t b vs.toArray ws.toArray n n2 dd dd2 sl sl2 (by simpa using hv) (by simpa using hw) (by rw[size_toArray,size_toArray];exact hsz)) ⟨ho,ho2,?_⟩
  rw[e]
  exact h2 hw
noncomputable def sIx(n d:Nat):Option Int->Nat
 |none=>d
 |some v=>if v<0 then (v+(n:Int)).toNat else min v.toNat n
theorem Pf(n d:Nat)(hd:d<=n)(o:Option Int):sIx n d o<=n:=by
 cases o with
 |none=>exact hd
 |some v=>
  show (if v<0 then (v+(n:Int)).toNat else min v.toNat n)<=n
  by_cases hv:v<0
  ·rw[if_pos hv];omega
  ·rw[if_neg hv];exact Nat.min_le_right _ _
theorem Ir(v:Int)(n d:Nat):(if v<0 then max (v+(n:Int)) 0 else min v (n:Int))=((sIx n d (some v):Nat):Int):=by
 show (if v<0 then max (v+(n:Int)) 0 else min v (n:Int))=(((if v<0 then (v+(n:Int)).toNat else min v.toNat n):Nat):Int)
 by_cases hv:v<0
 ·simp only[if_pos hv];omega
 ·simp only[if_neg hv];omega
theorem Hb(lo hi:Option Int)(n:Nat):Builtin.Slice.sliceAdjust lo hi 1 (n:Int)=(((sIx n 0 lo:Nat):Int),((sIx n n hi:Nat):Int)):=by
 have h1:¬ ((1:Int)<0):=by omega
 unfold Builtin.Slice.sliceAdjust
 simp only[h1,if_false]
 refine Prod.ext ?_ ?_
 ·cases lo with
  |none=>rfl
  |some v=>exact Ir v n 0
 ·cases hi with
  |none=>rfl
  |some v=>exact Ir v n n
theorem G4(i j:Nat):Builtin.Slice.slicePlaces (i:Int) (j:Int) 1=j-i:=by
 unfold Builtin.Slice.slicePlaces
 have h1:(1:Int)>0:=by omega
 simp only[h1,if_true,Int.ediv_one]
 split<;>omega
theorem yw{v:Value}{o:Option Int}{Q:Option Int->Shared->Prop}(p:IsPart v o)(h:Q o s):wpAny (model prog w) A (Builtin.Slice.slicePartIndex v) Q E s:=by
 cases p with
 |none=>exact slicePart_none h
 |int i t=>exact slicePart_int h
theorem my{sl:Addr}{vl vu:Value}{lo hi:Option Int}{n:Nat}{Q:Int×Int×Nat->Shared->Prop}(hs:s.heap.IsSliceOf sl vl vu .none)(pl:IsPart vl lo)(pu:IsPart vu hi)
  (h:Q (((sIx n 0 lo:Nat):Int),1,sIx n n hi-sIx n 0 lo) s):wpAny (model prog w) A (Builtin.Slice.sliceApplied (.ref sl) (pure (n:Int))) Q E s:=by
 obtain⟨os,hos,hcs,hds⟩:=id hs
 unfold Builtin.Slice.sliceApplied Builtin.Slice.sliceFields
 refine wpAny_bind (wpAny_bind (wpAny_field hos hds (x:=vl) rfl (wpAny_bind (wpAny_field hos hds (x:=vu) rfl (wpAny_bind (wpAny_field hos hds (x:=.none) rfl (wpAny_pure ?_)))))))
 refine wpAny_bind (slicePart_none ?_)
 show wpAny _ _ (if ((1:Int)==0)=true then _ else _) _ _ s
 rw[if_neg ⋯]
 refine wpAny_bind (yw pl (wpAny_bind (yw pu (wpAny_bind (wpAny_pure ?_)))))
 show wpAny _ _ (match Builtin.Slice.sliceAdjust lo hi 1 (n:Int) with|(lo,hi)=>pure (lo,(1:Int),Builtin.Slice.slicePlaces lo hi 1)) _ _ s
 rw[Hb lo hi n]
 show wpAny _ _ (pure (((sIx n 0 lo:Nat):Int),(1:Int),Builtin.Slice.slicePlaces ((sIx n 0 lo:Nat):Int) ((sIx n n hi:Nat):Int) 1)) _ _ s
 rw[G4]
 exact wpAny_pure h
theorem Kh(xs:Array Value)(i k:Nat):((List.range k).filterMap fun (m:Nat)=>xs[((i:Int)+(m:Int)*1).toNat]?).toArray=((xs.toList.drop i).take k).toArray:=by
 have e:(fun (m:Nat)=>xs[((i:Int)+(m:Int)*1).toNat]?)=fun m=>xs[i+m]?:=by
  funext m
  have:((i:Int)+(m:Int)*1).toNat=i+m:=by omega
  rw[this]
 rw[e]
 have:=pick_run xs i k
 rw[List.filterMap_map] at this
 have e2:((fun x=>xs[x]?) ∘ fun x=>i+x)=fun m=>xs[i+m]?:=rfl
 rw[e2] at this
 rw[this]
theorem tJ{t sl:Addr}{items:Array Value}{vl vu:Value}{lo hi:Option Int}{Q:Value->Shared->Prop}(ht:IsTup s.heap t items)(hs:s.heap.IsSliceOf sl vl vu .none)(pl:IsPart vl lo)(pu:IsPart vu hi)
  (hw:¬ (sIx items.size 0 lo=0/\sIx items.size items.size hi=items.size))
  (h:Q (.ref s.heap.objs.size) {s with heap:=s.heap.push {cls:=.type "tuple",data:=.seq ((items.toList.drop (sIx items.size 0 lo)).take (sIx items.size items.size hi-sIx items.size 0 lo)).toArray}})
  (hsz:items.size<=sizeLine):wpAny (model prog w) A (getItem (.ref t) (.ref sl)) Q E s:=by
 have htake:sizeOk (.seq ((items.toList.drop (sIx items.size 0 lo)).take (sIx items.size items.size hi-sIx items.size 0 lo)).toArray):=by
  show ((items.toList.drop (sIx items.size 0 lo)).take (sIx items.size items.size hi-sIx items.size 0 lo)).toArray.size<=sizeLine
  rw[size_toArray,length_take,List.length_drop,Array.length_toList]
  omega
 have hj:sIx items.size items.size hi<=items.size:=Pf _ _ (le_refl _) hi
 obtain⟨os,hos,hcs,hds⟩:=id hs
 have hTs:s.TypeIs (.ref sl) "slice":=⟨os,hos,hcs⟩
 unfold getItem
 try with_reducible refine wpAny_holding ?_
 first|refine wpAny_bind (wpAny_pure ?_)|skip
 refine wpAny_bind (wpAny_sequenceKey ht.typeIs ⋯ ?_)
 refine wpAny_bind (wpAny_callSpecial?_slot (name:=Str.ofString "__getitem__") ht.typeIs PyProof.Rows.slot_tuple_getitem
  (wpAny_call_entry PyProof.Rows.slot_tuple_getitem ht.typeIs entry_tuple_getitem ?_ (args_tuple_getitem _ _)))
 show wpAny _ _ (Builtin.Tuple.tupleItemsOf (.ref t)>>=_) _ _ s
 refine wpAny_bind (tupleItemsOf_ ht ?_)
 refine wpAny_bind (wpAny_typeOf hTs ?_)
 rw[if_pos ⋯]
 refine wpAny_bind (my hs pl pu ?_)
 have hno:¬ ((((sIx items.size 0 lo:Nat):Int)==0&&(1:Int)==1&&(sIx items.size items.size hi-sIx items.size 0 lo)==items.size)=true):=by
  intro q
  rw[and_eq_true,and_eq_true] at q
  have q1:((sIx items.size 0 lo:Nat):Int)=0:=eq_of_beq q.1.1
  have q2:sIx items.size items.size hi-sIx items.size 0 lo=items.size:=eq_of_beq q.2
  exact hw ⟨∅,∅⟩
 show wpAny _ _ (if (((sIx items.size 0 lo:Nat):Int)==0&&(1:Int)==1&&(sIx items.size items.size hi-sIx items.size 0 lo)==items.size)=true then _ else _) _ _ s
 rw[if_neg hno,Kh]
 first
  |exact wpAny_bind (m:=Builtin.Tuple.tupleExact _) (wpAny_newObj_type (wpAny_pure ⟨_,rfl,wpAny_pure h⟩) htake)
  |exact wpAny_bind (m:=Builtin.Tuple.tupleExact _) (wpAny_newObj_type (wpAny_bind (wpAny_pure (wpAny_pure ⟨_,rfl,wpAny_pure h⟩))) htake)
  |exact wpAny_bind (wpAny_bind (m:=Builtin.Tuple.tupleExact _) (wpAny_newObj_type (wpAny_pure (wpAny_pure ⟨_,rfl,wpAny_pure h⟩)) htake))
  |exact wpAny_bind (wpAny_bind (m:=Builtin.Tuple.tupleExact _) (wpAny_newObj_type (wpAny_pure ⟨_,rfl,wpAny_pure h⟩) htake))
end
end HT
namespace L2
open PySem PySem.Spec PyProof.Rows
noncomputable abbrev TO:=St->Hp->(Option Int->Hp->Prop)->Prop
noncomputable def PO(X:Cx)(e:Option Expr)(t:TO):Prop:=
 ∀(pins:List (Addr×Obj)) (s:Shared) (Y:St) (H:Hp) (Q:Option Int->Hp->Prop),Inv X pins Y H s->t Y H Q ->
  wpAny (model X.prog X.w) X.A (evalPart e X.env) (fun u s'=>∃o H',Inv X pins Y H' s'/\IsPart u o/\Q o H') X.xe s
noncomputable def LV:TO:=fun _ H Q=>Q none H
noncomputable def RC(t:TE):TO:=fun Y H Q=>t Y H fun x H1=>∃i,x = .int i/\Q (some i) H1
section
variable {X:Cx}{e:Expr}{te:TE}{lo hi:Option Expr}{tl th:TO}{pos p2:Pos}
theorem Nj:PO X none LV:=by
 intro pins s Y H Q I h
 rw[evalPart_none]
 exact wpAny_pure ⟨none,H,I,.none,h⟩
theorem MJ(h:PE X e te):PO X (some e) (RC te):=by
 intro pins s Y H Q I hw
 rw[evalPart_some]
 refine thn (h pins s Y H _ I hw) fun u s1 hq0=>?_
 obtain⟨x,H1,I1,r1,q1⟩:=hq0
 obtain⟨i,rfl,q⟩:=q1
 obtain⟨t,rfl⟩:=r1
 exact⟨some i,H1,I1,.int i t,q⟩
noncomputable def SlR(X:Cx)(r:V->Option Int->Option Int->Hp->VK->Prop):Prop:=
 ∀(pins:List (Addr×Obj)) (s:Shared) (Y:St) (H:Hp) (x:V) (v vl vu:Value) (lo hi:Option Int) (sl:Addr) (Q:VK),Inv X pins Y H s->RelV x v->s.heap.IsSliceOf sl vl vu .none->IsPart vl lo->IsPart vu hi->r x lo hi H Q ->
  ∃T id,typeLookup (.type T) "__getitem__"=pure (some (.builtin id))/\s.TypeIs v T/\wpAny (model X.prog X.w) X.A (getItem v (.ref sl)) (EP X pins Y Q) X.xe s
theorem SlR.or{r r':V->Option Int->Option Int->Hp->VK->Prop}(h:SlR X r)(h':SlR X r'):SlR X (fun x lo hi H Q=>r x lo hi H Q\/r' x lo hi H Q):=by
 intro pins s Y H x v vl vu lo hi sl Q I rx hs pl pu q
 rcases q with q|q
 ·exact h pins s Y H x v vl vu lo hi sl Q I rx hs pl pu q
 ·exact h' pins s Y H x v vl vu lo hi sl Q I rx hs pl pu q
noncomputable def tSl(r:V->Option Int->Option Int->Hp->VK->Prop)(te:TE)(tl th:TO):TE:=fun Y H Q=>te Y H fun x H1=>tl Y H1 fun l H2=>th Y H2 fun u H3=>r x l u H3 Q
theorem J5{r:V->Option Int->Option Int->Hp->VK->Prop}(hr:SlR X r)(he:PE X e te)(hl:PO X lo tl)(hu:PO X hi th):PE X (.Subscript e (.Slice lo hi none p2) pos) (tSl r te tl th):=by
 intro pins s Y H Q I h
 refine Subscript_ (thn (he pins s Y H _ I h) fun v s1 hq0=>?_)
 obtain⟨x,H1,I1,r1,q1⟩:=hq0
 refine wpAny_Slice (thn (hl pins s1 Y H1 _ I1 q1) fun vl s2 ⟨l,H2,I2,pl,q2⟩=>thn (hu pins s2 Y H2 _ I2 q2) fun vu s3 hq0=>?_)
 obtain⟨u,H3,I3,pu,q3⟩:=hq0
 rw[evalPart_none]
 refine wpAny_pure ?_
 have I4:Inv X pins Y H3 {s3 with heap:=s3.heap.push {cls:=.type "slice",data:=.fields #[vl,vu,.none]}}:=I3.kept (t':=s3.toks) fun b ob q=>Heap.get?_push_of_some _ q
 obtain⟨T,id,hT,ht,hg⟩:=hr pins {s3 with heap:=s3.heap.push {cls:=.type "slice",data:=.fields #[vl,vu,.none]}} Y H3 x v vl vu l u s3.heap.objs.size Q I4 r1 (Heap.IsSliceOf.new ..) pl pu q3
 show wpAny (model X.prog X.w) X.A (subscriptTail e (.Slice lo hi none p2) v (.ref s3.heap.objs.size)) (EP X pins Y Q) X.xe {s3 with heap:=s3.heap.push {cls:=.type "slice",data:=.fields #[vl,vu,.none]}}
 exact tail_any (ops:=[.ref s3.heap.objs.size,v]) ht hT hg (by with_unfolding_all rfl)
noncomputable def DU(xs:List V)(lo hi:Option Int):List V:=(xs.drop (HT.sIx xs.length 0 lo)).take (HT.sIx xs.length xs.length hi-HT.sIx xs.length 0 lo)
theorem w4(xs:List V)(lo hi:Option Int):(DU xs lo hi).length<=xs.length:=by
 unfold DU
 rw[length_take,List.length_drop]
 omega
noncomputable def Tj(K:PySem.W.Frag):V->Option Int->Option Int->Hp->VK->Prop:=fun x lo hi H Q=>∃a xs,x = .ref a/\SqT K H a xs /\
 ¬ (HT.sIx xs.length 0 lo=0/\HT.sIx xs.length xs.length hi=xs.length)/\∀p,H p=none->Q (.ref p) (upd H p (.tup (DU xs lo hi)))
theorem O1:SlR X (Tj X.K):=by
 intro pins s Y H x v vl vu lo hi sl Q I rx hs pl pu h
 obtain⟨a,xs,rfl,hx,hw,q⟩:=h
 cases rx
 obtain⟨its,r,ht,hz⟩:=I.tuple hx
 have hlen:its.toArray.size=xs.length:=by rw[size_toArray];exact r.length.symm
 refine⟨"tuple",_,PyProof.Rows.slot_tuple_getitem.lookup,ht.typeIs,?_⟩
 refine HT.tJ ht hs pl pu (by rw[hlen];exact hw) ?_ (by rw[hlen];exact hz)
 rw[hlen]
 refine⟨.ref s.heap.objs.size,_,I.laid (t':=s.toks) (o:=.tup (DU xs lo hi)) (fun b ob q=>Heap.get?_push_of_some _ q) (le_refl _) ?_,rfl,q _ (I.hok.fresh (le_refl _))⟩
 exact⟨le_trans (w4 xs lo hi) hz,_,(r.drop (HT.sIx xs.length 0 lo)).take (HT.sIx xs.length xs.length hi-HT.sIx xs.length 0 lo),IsTup.new _ _⟩
noncomputable def RD(K:PySem.W.Frag):R2:=fun x y H Q=>∃a b xs ys,x = .ref a/\y = .ref b/\SqT K H a xs/\SqT K H b ys/\xs≠[]/\xs.length+ys.length<=sizeLine /\
 (ys=[]->Q (.ref a) H)/\(ys≠[]->∀p,H p=none->Q (.ref p) (upd H p (.tup (xs++ys))))
theorem Vals.CF{xs:List V}{us:List Value}(r:Vals xs us):us=[]↔xs=[]:=by
 cases r with
 |nil=>simp
 |cons _ _=>simp
theorem Mo:OpR X (binaryOp .Add) (RD X.K):=by
 intro pins s Y H x y v u Q I rx ry h
 obtain⟨a,b,xs,ys,rfl,rfl,ha,hb,hx,hz,q1,q2⟩:=h
 cases rx
 cases ry
 obtain⟨its,r1,p1,_⟩:=I.tuple ha
 obtain⟨its2,r2,p2,_⟩:=I.tuple hb
 refine HT.L5 p1 p2 (fun z=>hx (r1.CF.mp z)) (fun z=>⟨.ref a,H,I,rfl,q1 (r2.CF.mp z)⟩) (fun z=>?_) (by rw[<- r1.length,<- r2.length];exact hz)
 refine⟨.ref s.heap.objs.size,_,I.laid (t':=s.toks) (o:=.tup (xs++ys)) (fun b ob q=>Heap.get?_push_of_some _ q) (le_refl _) ?_,rfl,q2 (fun w=>z (r2.CF.mpr w)) _ (I.hok.fresh (le_refl _))⟩
 exact⟨by rw[length_append];exact hz,_,r1.append r2,IsTup.new _ _⟩
end
end L2
namespace L2
open PySem PySem.Spec PyProof.Rows
noncomputable def ixN(n:Nat)(i:Int):Option Nat:=if 0<=i then (if i<n then some i.toNat else none) else if -(n:Int)<=i then some (i+n).toNat else none
noncomputable def atI{α:Type}(xs:List α)(i:Int):Option α:=(ixN xs.length i).bind fun j=>xs[j]?
theorem HB{n:Nat}{i:Int}{j:Nat}(h:ixN n i=some j):seqIndex? i n=some j/\j<n/\-(n:Int)<=i/\i<n:=by
 unfold ixN at h
 by_cases h0:0<=i
 ·rw[if_pos h0] at h
  by_cases h1:i<n
  ·rw[if_pos h1] at h
   have e:i.toNat=j:=Option.some.inj h
   exact⟨by rw[seqIndex_of h0 h1,e],∅,∅,h1⟩
  ·rw[if_neg h1] at h;cases h
 ·rw[if_neg h0] at h
  by_cases h1:-(n:Int)<=i
  ·rw[if_pos h1] at h
   have e:(i+n).toNat=j:=Option.some.inj h
   exact⟨by rw[seqIndex_neg ∅ h1,e],∅,h1,∅⟩
  ·rw[if_neg h1] at h;cases h
theorem CA{α:Type}{xs:List α}{i:Int}{v:α}(h:atI xs i=some v):∃j,seqIndex? i xs.length=some j/\xs[j]? = some v/\j<xs.length/\-(xs.length:Int)<=i/\i<xs.length:=by
 unfold atI at h
 cases e:ixN xs.length i with
 |none=>rw[e] at h;cases h
 |some j=>
  rw[e] at h
  obtain⟨h1,h2,h3,h4⟩:=HB e
  exact⟨j,h1,h,h2,h3,h4⟩
theorem jv{α:Type}{xs:List α}{j:Nat}{v:α}(h:xs[j]? = some v):atI xs (j:Int)=some v:=by
 have hj:j<xs.length:=(List.getElem?_eq_some_iff.mp h).1
 have e:ixN xs.length (j:Int)=some j:=by
  unfold ixN
  rw[if_pos ∅,if_pos ∅];simp
 unfold atI;rw[e];exact h
noncomputable def IT(b:Expr):Prop:=∀o i,subscripted b false o i=operate [o,i] (getItem o i)
noncomputable def IxR(X:Cx)(r:R2):Prop:=
 ∀(value slice:Expr) (pins:List (Addr×Obj)) (s:Shared) (Y:St) (H:Hp) (x y:V) (v u:Value) (Q:VK),Inv X pins Y H s->RelV x v->RelV y u->r x y H Q ->
  subscripted slice false v u=operate [v,u] (getItem v u)->wpAny (model X.prog X.w) X.A (subscriptTail value slice v u) (EP X pins Y Q) X.xe s
noncomputable def MtR(X:Cx)(id:String)(r:V->List V->Hp->VK->Prop):Prop:=
 ∀(pins:List (Addr×Obj)) (s:Shared) (Y:St) (H:Hp) (x:V) (xs:List V) (v:Value) (us:List Value) (Q:VK),Inv X pins Y H s->RelV x v->Vals xs us->r x xs H Q ->
  wpAny (model X.prog X.w) X.A (call (.builtin id) (v::us)) (EP X pins Y Q) X.xe s
section
variable {X:Cx}{a b:Expr}{ta tb:TE}{pos:Pos}
theorem IxR.or{r r':R2}(h:IxR X r)(h':IxR X r'):IxR X (fun x y H Q=>r x y H Q\/r' x y H Q):=by
 intro value slice pins s Y H x y v u Q I rx ry q hs
 rcases q with q|q
 ·exact h value slice pins s Y H x y v u Q I rx ry q hs
 ·exact h' value slice pins s Y H x y v u Q I rx ry q hs
theorem Q5{r:R2}(hr:IxR X r)(ha:PE X a ta)(hb:PE X b tb)(hs:IT b):PE X (.Subscript a b pos) (tOp r ta tb):=by
 intro pins s Y H Q I h
 exact Subscript_ (OI ha hb I h fun v u s2 x y H2 I2 rx ry q=>hr a b pins s2 Y H2 x y v u Q I2 rx ry q (hs _ _))
noncomputable def R6(K:PySem.W.Frag):R2:=fun x y H Q=>∃p xs i v,x = .ref p/\y = .int i/\SqL K H p xs/\atI xs i=some v/\Q v H
noncomputable def R8(K:PySem.W.Frag):R2:=fun x y H Q=>∃p xs i v,x = .ref p/\y = .int i/\SqT K H p xs/\atI xs i=some v/\Q v H
noncomputable def Q1:R2:=fun x y H Q=>∃z i c,x = .str z/\y = .int i/\z.length<=sizeLine/\atI z.cps.toList i=some c/\Q (.str ⟨#[c]⟩) H
theorem MA:IxR X (R6 X.K):=by
 intro value slice pins s Y H x y v u Q I rx ry h hs
 obtain⟨p,xs,i,z,rfl,rfl,hq,he,q⟩:=h
 cases rx
 obtain⟨t,rfl⟩:=ry
 obtain⟨its,r,pl,hz⟩:=I.list hq
 obtain⟨j,h1,h2,h3,h4,h5⟩:=CA he
 obtain⟨w,ew,rw'⟩:=r.get h2
 have hl:=r.length
 have hn:=vt
 have fin:EP X pins Y Q w s:=⟨z,H,I,rw',q⟩
 by_cases h0:0<=i
 ·have hj:i.toNat=j:=by
   rw[seqIndex_of h0 h5] at h1
   exact Option.some.inj h1
  exact item_listR pl.isList h0 ∅ (by rw[hj];simpa using ew) fin hs
 ·have hj:(i+(its.toArray.size:Int)).toNat=j:=by
   rw[seqIndex_neg ∅ h4] at h1
   rw[size_toArray,<- hl]
   exact Option.some.inj h1
  exact subscriptTail_builtinR (x:=w) pl.isList.typeIs slot_list_getitem.lookup
   (wpAny_getItem_list_neg (Q:=fun r s'=>r=w/\EP X pins Y Q r s') pl.isList ∅ (by rw[size_toArray]<;>omega) ∅ (by rw[hj];simpa using ew) ⟨rfl,fin⟩) hs
theorem Qa:IxR X (R8 X.K):=by
 intro value slice pins s Y H x y v u Q I rx ry h hs
 obtain⟨p,xs,i,z,rfl,rfl,hq,he,q⟩:=h
 cases rx
 obtain⟨t,rfl⟩:=ry
 obtain⟨its,r,pl,hz⟩:=I.tuple hq
 obtain⟨j,h1,h2,h3,h4,h5⟩:=CA he
 obtain⟨w,ew,rw'⟩:=r.get h2
 have hl:=r.length
 have hn:=vt
 have fin:EP X pins Y Q w s:=⟨z,H,I,rw',q⟩
 exact subscriptTail_builtinR (x:=w) pl.typeIs slot_tuple_getitem.lookup
  (getItem_tuple (j:=j) (Q:=fun r s'=>r=w/\EP X pins Y Q r s') pl ∅ ∅ (by rw[size_toArray,<- hl];exact h1) (by simpa using ew) ⟨rfl,fin⟩) hs
theorem Pc:IxR X Q1:=by
 intro value slice pins s Y H x y v u Q I rx ry h hs
 obtain⟨z,i,c,rfl,rfl,hz,he,q⟩:=h
 obtain⟨t,rfl⟩:=rx
 obtain⟨t',rfl⟩:=ry
 obtain⟨j,h1,h2,h3,h4,h5⟩:=CA he
 have hl:z.cps.toList.length=z.length:=by simp[Str.length]
 rw[hl] at h1 h4 h5
 have hn:=vt
 exact tail_any (typeIs_str s z t) slot_str_getitem.lookup (getItem_str (c:=c) (by
  have e1:decide (i < -(2 ^ 63:Int))=false:=decide_eq_false ∅
  have e2:decide (i ≥ 2 ^ 63)=false:=decide_eq_false ∅
  rw[e1,e2,Bool.or_false]) (by rw[h1];simpa using h2) ⟨.str ⟨#[c]⟩,H,I.tok _,⟨_,rfl⟩,q⟩) hs
noncomputable def rIx(K:PySem.W.Frag):R2:=fun x y H Q=>R6 K x y H Q\/R8 K x y H Q\/Q1 x y H Q
theorem DF:IxR X (rIx X.K):=MA.or (Qa.or Pc)
theorem He(its:List Value)(n j:Nat)(u:Value):Obj.mapSeq (·.setIfInBounds j u) {cls:=.type "list",data:=.seq its.toArray n} = {cls:=.type "list",data:=.seq (its.set j u).toArray n}:=by
 simp[Obj.mapSeq]
theorem Inv.lst{pins:List (Addr×Obj)}{Y:St}{H:Hp}{s:Shared}{p:Addr}{xs:List V}(I:Inv X pins Y H s)(h:H p=some (.lst xs)) :
  ∃(its:List Value) (n:Nat),Vals xs its/\s.heap.get? p=some {cls:=.type "list",data:=.seq its.toArray n}/\xs.length<=sizeLine:=by
 obtain⟨z,its,n,r,e⟩:=I.hok p _ h
 exact⟨its,n,r,e,z⟩
theorem Inv.Py{pins:List (Addr×Obj)}{Y:St}{H:Hp}{s:Shared}{p:Addr}{xs ys:List V}{its its':List Value}{n n':Nat}{f:Obj->Obj}(I:Inv X pins Y H s)(h:H p=some (.lst xs))
  (ho:s.heap.get? p=some {cls:=.type "list",data:=.seq its.toArray n}) (hf:f {cls:=.type "list",data:=.seq its.toArray n} = {cls:=.type "list",data:=.seq its'.toArray n'}) (r:Vals ys its') (hz:ys.length<=sizeLine) (t:Nat) :
  Inv X pins Y (upd H p (.lst ys)) {s with heap:=s.heap.update p f,toks:=t}:=by
 have e:(s.heap.update p f).get? p=some {cls:=.type "list",data:=.seq its'.toArray n'}:=by
  rw[Heap.get?_update_self f ho (by rw[hf]<;>rfl),hf]
 refine I.write (x:=p) (e:=p) (by rw[h];trivial) (.inl rfl) (fun b u hb q=>(Heap.get?_update_other _ _ (Ne.symm hb)).trans q) ⟨_,e⟩ ?_
 exact⟨hz,its',n',r,e⟩
noncomputable def QY:V->V->V->Hp->(Hp->Prop)->Prop:=fun o i v H Q=>∃p xs k j,o = .ref p/\i = .int k/\H p=some (.lst xs)/\ixN xs.length k=some j/\Q (upd H p (.lst (xs.set j v)))
theorem set_list:RS X QY:=by
 intro pins s Y H o i v ov iv u Q I ro ri rv h
 obtain⟨p,xs,k,j,rfl,rfl,hp,hj,q⟩:=h
 cases ro
 obtain⟨t,rfl⟩:=ri
 obtain⟨its,n,r,ho,hz⟩:=I.lst hp
 obtain⟨h1,h2,h3,h4⟩:=HB hj
 have hl:=r.length
 have hn:=vt
 have I':Inv X pins Y (upd H p (.lst (xs.set j v))) {s with heap:=s.heap.update p (Obj.mapSeq (·.setIfInBounds j u))}:=
  I.Py hp ho (He its n j u) (r.set rv j) (by rw[length_set];exact hz) s.toks
 by_cases h0:0<=k
 ·have hk:k.toNat=j:=by
   rw[seqIndex_of h0 h4] at h1
   exact Option.some.inj h1
  exact PySem.W.ki_setAt ho h0 ∅ (by rw[size_toArray,<- hl];exact h4) (by rw[hk];exact⟨_,I',q⟩)
 ·have hk:(k+(its.toArray.size:Int)).toNat=j:=by
   rw[seqIndex_neg ∅ h3] at h1
   rw[size_toArray,<- hl]
   exact Option.some.inj h1
  exact PySem.W.ki_setBack ho ∅ (by rw[size_toArray,<- hl];exact h3) ∅ (by rw[hk];exact⟨_,I',q⟩)
theorem Ek(lo hi:Option Int)(n:Nat):(sliceBounds lo hi none n).1=((HT.sIx n 0 lo:Nat):Int)/\(sliceBounds lo hi none n).2.1=((HT.sIx n n hi:Nat):Int)/\(sliceBounds lo hi none n).2.2=1:=by
 refine⟨?_,?_,rfl⟩
 ·cases lo with
  |none=>simp[sliceBounds,HT.sIx]
  |some i=>
   simp only[sliceBounds,HT.sIx,Option.getD_none,show (1:Int)>0 by decide,if_true]
   by_cases h:i<0
   ·simp only[h,if_true]<;>omega
   ·simp only[h,if_false]<;>omega
 ·cases hi with
  |none=>simp[sliceBounds,HT.sIx]
  |some i=>
   simp only[sliceBounds,HT.sIx,Option.getD_none,show (1:Int)>0 by decide,if_true]
   by_cases h:i<0
   ·simp only[h,if_true]<;>omega
   ·simp only[h,if_false]<;>omega
theorem Bn(its:List Value)(lo hi:Option Int):slicePick its.toArray lo hi none=((its.drop (HT.sIx its.length 0 lo)).take (HT.sIx its.length its.length hi-HT.sIx its.length 0 lo)).toArray:=by
 obtain⟨h1,h2,h3⟩:=Ek lo hi its.toArray.size
 unfold slicePick
 rw[h1,h2,h3]
 simp only[sliceRange_one,pick_run,size_toArray]<;>rfl
noncomputable def SO(K:PySem.W.Frag):V->Option Int->Option Int->Hp->VK->Prop:=fun x lo hi H Q=>∃a xs,x = .ref a/\SqL K H a xs/\∀p,H p=none->Q (.ref p) (upd H p (.lst (DU xs lo hi)))
theorem Me:SlR X (SO X.K):=by
 intro pins s Y H x v vl vu lo hi sl Q I rx hs pl pu h
 obtain⟨a,xs,rfl,hx,q⟩:=h
 cases rx
 obtain⟨its,r,ht,hz⟩:=I.list hx
 have hlen:=r.length
 refine⟨"list",_,slot_list_getitem.lookup,ht.isList.typeIs,?_⟩
 refine wpAny_getItem_list_slice ht.isList hs pl pu .none (by simp) ?_ (by rw[size_toArray]<;>omega)
 rw[Bn,<- hlen]
 refine⟨.ref s.heap.objs.size,_,I.laid (t':=s.toks) (o:=.lst (DU xs lo hi)) (fun b ob q=>Heap.get?_push_of_some _ q) (le_refl _) ?_,rfl,q _ (I.hok.fresh (le_refl _))⟩
 exact⟨le_trans (w4 xs lo hi) hz,_,0,(r.drop (HT.sIx xs.length 0 lo)).take (HT.sIx xs.length xs.length hi-HT.sIx xs.length 0 lo),Heap.get?_push_size _ rfl⟩
theorem Dk:jo X (.builtin "len") (fun xs H Q=>∃p ys,xs=[.ref p]/\(SqL X.K H p ys\/SqT X.K H p ys)/\Q (.int ys.length) H):=by
 intro pins s Y H xs us Q I r h
 obtain⟨p,ys,rfl,hq,q⟩:=h
 obtain⟨u,rfl,rx⟩:=vals1 r
 cases rx
 have hn:=vt
 rcases hq with hq|hq
 ·obtain⟨its,r',pl,hz⟩:=I.list hq
  have hlen:=r'.length
  exact Calls.call_len_list pl.isList (by simp only[size_toArray]<;>omega) ⟨.int ys.length,H,I.tok _,⟨s.toks+1,by rw[size_toArray,hlen]⟩,q⟩
 ·obtain⟨its,r',pl,hz⟩:=I.tuple hq
  have hlen:=r'.length
  exact len_tuple pl (by simp only[size_toArray]<;>omega) ⟨.int ys.length,H,I.tok _,⟨s.toks+1,by rw[size_toArray,hlen]⟩,q⟩
theorem D2:jo X (.type "list") (fun xs H Q=>∃p ys,xs=[.ref p]/\(SqL X.K H p ys\/SqT X.K H p ys)/\∀l,H l=none->Q (.ref l) (upd H l (.lst ys))):=by
 intro pins s Y H xs us Q I r h
 obtain⟨p,ys,rfl,hq,q⟩:=h
 obtain⟨u,rfl,rx⟩:=vals1 r
 cases rx
 have fin:∀(its:List Value),Vals ys its->ys.length<=sizeLine->∀(h':Heap) (c':Nat),(∀b o',s.heap.get? b=some o'->h'.get? b=some o') ->
   h'.get? s.heap.objs.size=some {cls:=.type "list",dict:=none,data:=.seq its.toArray c',slots:=#[]}->EP X pins Y Q (.ref s.heap.objs.size) {s with heap:=h'}:=fun its r' hz h' c' kp e=>
  ⟨.ref s.heap.objs.size,_,I.laid (t':=s.toks) kp (le_refl _) (show jq X.prog X.w _ h' _ (.lst ys) from ⟨hz,its,c',r',e⟩),rfl,q _ (I.hok.fresh (le_refl _))⟩
 rcases hq with hq|hq
 ·obtain⟨its,r',pl,hz⟩:=I.list hq
  have hlen:=r'.length
  obtain⟨o,ho,hc,n,hd⟩:=pl.isList
  exact call_list_seq p (.inl rfl) ho hc hd (fun h' c' kp e=>fin its r' hz h' c' kp e) (by simp only[size_toArray]<;>omega)
 ·obtain⟨its,r',pl,hz⟩:=I.tuple hq
  have hlen:=r'.length
  obtain⟨o,ho,hc,n,hd⟩:=pl
  exact call_list_seq p (.inr rfl) ho hc hd (fun h' c' kp e=>fin its r' hz h' c' kp e) (by simp only[size_toArray]<;>omega)
theorem Bg:jo X (.type "tuple") (fun xs H Q=>∃p ys,xs=[.ref p]/\((SqL X.K H p ys/\∀l,H l=none->Q (.ref l) (upd H l (.tup ys)))\/(SqT X.K H p ys/\Q (.ref p) H))):=by
 intro pins s Y H xs us Q I r h
 obtain⟨p,ys,rfl,h⟩:=h
 obtain⟨u,rfl,rx⟩:=vals1 r
 cases rx
 rcases h with ⟨hq,q⟩|⟨hq,q⟩
 ·obtain⟨its,r',pl,hz⟩:=I.list hq
  have hlen:=r'.length
  refine call_tuple_list pl.isList (fun h' kp=>?_) (by simp only[size_toArray]<;>omega)
  have I1:Inv X pins Y H {s with heap:=h'}:=I.kept (t':=s.toks) kp
  have I2:Inv X pins Y (upd H h'.objs.size (.tup ys)) {s with heap:=h'.push {cls:=.type "tuple",data:=.seq its.toArray}}:=
   I1.laid (t':=s.toks) (fun b o e=>Heap.get?_push_of_some _ e) (le_refl _) (show jq X.prog X.w _ _ _ (.tup ys) from ⟨hz,its,r',IsTup.new _ _⟩)
  exact⟨.ref h'.objs.size,_,I2,rfl,q _ (I1.hok.fresh (le_refl _))⟩
 ·obtain⟨its,r',pl,hz⟩:=I.tuple hq
  exact call_tuple_same pl ⟨.ref p,H,I,rfl,q⟩
noncomputable def tyV(K:PySem.W.Frag)(T:String)(x:V)(H:Hp):Prop:=match x with
 |.str _=>T = "str"
 |.int _=>T = "int"
 |.ref p=>(T = "list"/\∃xs,SqL K H p xs)\/(T = "tuple"/\∃o,K.lookup p=some o/\o.cls = .type "tuple"/\o.dict=none) \/
   (T = "dict"/\((∃kvs,H p=some (.dK kvs))\/∃kvs,H p=some (.dT kvs)))\/(T = "set"/\∃S n,H p=some (.set S n))
 |_=>False
theorem Ls{pins:List (Addr×Obj)}{Y:St}{H:Hp}{s:Shared}{T:String}{x:V}{v:Value}(I:Inv X pins Y H s)(r:RelV x v)(ty:tyV X.K T x H) :
  s.TypeIs v T/\∀a,v = .ref a->∃ob,s.heap.get? a=some ob/\ob.dict=none:=by
 cases x with
 |str z=>
  obtain⟨t,rfl⟩:=r
  cases (show T = "str" from ty)
  exact⟨typeIs_str s z t,fun _ e=>nomatch e⟩
 |int i=>
  obtain⟨t,rfl⟩:=r
  cases (show T = "int" from ty)
  exact⟨typeIs_int s i t,fun _ e=>nomatch e⟩
 |ref p=>
  cases r
  rcases ty with ⟨rfl,xs,hq⟩|⟨rfl,o,hk,hc,hd⟩|⟨rfl,hk⟩|⟨rfl,S,n,hk⟩
  ·obtain⟨its,_,pl,_⟩:=I.list hq
   refine⟨pl.isList.typeIs,fun a e=>?_⟩
   cases e
   obtain⟨o,n,e,c,hd,_⟩:=pl
   exact⟨o,e,hd⟩
  ·refine⟨⟨o,I.kIn p o hk,hc⟩,fun a e=>?_⟩
   cases e
   exact⟨o,I.kIn _ o hk,hd⟩
  ·have z:∃o,s.heap.get? p=some o/\o.ExactDict:=by
    rcases hk with ⟨kvs,hk⟩|⟨kvs,hk⟩
    ·obtain⟨_,_,_,_,o,_,_,e,ex,_⟩:=I.hok p _ hk
     exact⟨o,e,ex⟩
    ·obtain⟨_,_,_,_,o,_,_,e,ex,_⟩:=I.hok p _ hk
     exact⟨o,e,ex⟩
   obtain⟨o,e,ex⟩:=z
   refine⟨⟨o,e,ex.1⟩,fun a e2=>?_⟩
   cases e2
   exact⟨o,e,ex.2.1⟩
  ·obtain⟨o,_,_,_,e,ex,_⟩:=I.hok p _ hk
   refine⟨⟨o,e,ex.1⟩,fun a e2=>?_⟩
   cases e2
   exact⟨o,e,ex.2.1⟩
 |_=>exact False.elim ty
noncomputable def SK(K:PySem.W.Frag)(T:String)(r:V->List V->Hp->VK->Prop)(to:TE):TE:=fun Y H Q=>to Y H fun x H1=>tyV K T x H1/\r x [] H1 Q
noncomputable def tBM(K:PySem.W.Frag)(T:String)(r:V->List V->Hp->VK->Prop)(to:TE)(t:TA):TE:=fun Y H Q=>to Y H fun x H1=>tyV K T x H1/\t Y H1 fun xs H2=>r x xs H2 Q
variable {o e:Expr}{es:List Expr}{to:TE}{t:TA}{name:Str}{apos cpos:Pos}{T id:String}{r:V->List V->Hp->VK->Prop}
theorem K1(pa:PlainAttrs T)(slot:Slot T name id)(hty:typeOf (.builtin id)=pure (.type "method_descriptor"))(hm:MtR X id r)(ho:PE X o to)
  (hbase:attributeBase o name X.env (eval o X.env)=eval o X.env:=by rfl) (hline:(apos.endLine==cpos.line)=true:=by rfl):PE X (.Call (.Attribute o name apos) [] [] cpos) (SK X.K T r to):=by
 intro pins s Y H Q I h
 refine wpAny_Call_method0_late hbase hline (thn (ho pins s Y H _ I h) fun v s1 hq0=>?_)
 obtain⟨x,H1,I1,r1,ty,q1⟩:=hq0
 obtain⟨h1,h2⟩:=Ls I1 r1 ty
 exact⟨T,id,pa,slot,hty,h1,h2,Calls.callWith_builtin rfl (PySem.evalArgs_none (hm pins s1 Y H1 x [] v [] Q I1 r1 .nil q1))⟩
theorem NY(pa:PlainAttrs T)(slot:Slot T name id)(hty:typeOf (.builtin id)=pure (.type "method_descriptor"))(hm:MtR X id r)(ho:PE X o to)(ha:PA X (e::es) t)
  (hbase:attributeBase o name X.env (eval o X.env)=eval o X.env:=by rfl)
  (hfew:((backTo cpos (starEach (e::es) X.env)).all (fun x=>!x.1)&&(backToKw cpos (keywordEach [] X.env)).all (fun x=>x.1.isSome)
   && decide ((e::es).length+([]:List Keyword).length+(if ([]:List Keyword).isEmpty then 0 else 1)<30))=true:=by rfl)
  (hline:(apos.endLine==cpos.line)=true:=by rfl) (hs:starEach (e::es) X.env=(false,eval e X.env)::starEach es X.env:=by rfl) (hplain:(backTo cpos (starEach es X.env)).any (·.1)=false:=by rfl) :
  PE X (.Call (.Attribute o name apos) (e::es) [] cpos) (tBM X.K T r to t):=by
 intro pins s Y H Q I h
 refine wpAny_Call_method_late hbase hfew hline rfl (thn (ho pins s Y H _ I h) fun v s1 hq0=>?_)
 obtain⟨x,H1,I1,r1,ty,q1⟩:=hq0
 obtain⟨h1,h2⟩:=Ls I1 r1 ty
 refine⟨T,id,pa,slot,hty,h1,h2,?_⟩
 have hA:=ha cpos pins s1 Y H1 _ I1 q1
 rw[hs] at hA ⊢
 refine Calls.callWith_builtin (by show (false || (backTo cpos (starEach es X.env)).any (·.1))=false;rw[hplain]<;>rfl) (Calls.evalArgs_plain ?_)
 exact thn hA fun us s2 ⟨vs,H2,I2,r2,q2⟩=>hm pins s2 Y H2 x vs v us Q I2 r1 r2 q2
end
end L2
namespace L2
open PySem PySem.Spec PyProof.Rows
noncomputable def MtM(X:Cx)(id:String)(r:V->List V->Hp->VK->Prop):Prop:=
 ∀(pins:List (Addr×Obj)) (s:Shared) (Y:St) (H:Hp) (x:V) (xs:List V) (v:Value) (us:List Value) (Q:VK),Inv X pins Y H s->RelV x v->Vals xs us->r x xs H Q ->
  wpAny (model X.prog X.w) X.A (call (.builtin id) (v::us)) (EP X pins Y Q) X.xe s
theorem Vals.one:∀{x:V} {us:List Value},Vals [x] us->∃u,us=[u]/\RelV x u
 |_,_,.cons r .nil=>⟨_,rfl,r⟩
theorem Vals.zero:∀{us:List Value},Vals [] us->us=[]
 |_,.nil=>rfl
theorem Vals.dropLast{xs:List V}{us:List Value}(h:Vals xs us):Vals xs.dropLast us.dropLast:=by
 induction h with
 |nil=>exact .nil
 |cons r t ih=>
  cases t with
  |nil=>exact .nil
  |cons q t'=>exact .cons r ih
theorem Vals.eraseIdx:∀{xs:List V} {us:List Value} (i:Nat),Vals xs us->Vals (xs.eraseIdx i) (us.eraseIdx i)
 |_,_,_,.nil=>.nil
 |_,_,0,.cons _ t=>t
 |_,_,i+1,.cons r t=>.cons r (Vals.eraseIdx i t)
theorem GR{α:Type}(l:List α):l.eraseIdx (l.length-1)=l.dropLast:=by
 induction l with
 |nil=>rfl
 |cons a r ih=>
  cases r with
  |nil=>rfl
  |cons b r=>
   have e:(a::b::r).length-1=((b::r).length-1)+1:=by
    have h1:(a::b::r).length=r.length+2:=rfl
    have h2:(b::r).length=r.length+1:=rfl
    omega
   rw[e,List.eraseIdx_cons_succ,ih]
   all_goals rfl
theorem BZ{α:Type}:∀(l:List α) (i:Nat),(l.eraseIdx i).length<=l.length
 |[],_=>le_refl _
 |_::_,0=>Nat.le_succ _
 |_::r,i+1=>Nat.succ_le_succ (BZ r i)
section
variable {X:Cx}{pins:List (Addr×Obj)}{Y:St}{H:Hp}{s:Shared}{l b:Addr}{xs ys zs:List V}
theorem Inv.Mr{its its':List Value}{n:Nat}{f:Array Value->Array Value}{t':Nat}(I:Inv X pins Y H s)(hH:H l=some (.lst xs))
  (e:s.heap.get? l=some {cls:=.type "list",data:=.seq its.toArray n}) (hf:f its.toArray=its'.toArray) (hv:Vals ys its') (hz:ys.length<=sizeLine) :
  Inv X pins Y (upd H l (.lst ys)) {s with heap:=s.heap.update l (Obj.mapSeq f),toks:=t'}:=by
 have q:=PySem.IsL.update e f
 rw[hf] at q
 refine I.write (x:=l) (e:=l) (by rw[hH];exact trivial) (.inl rfl) (fun b' u hb hu=>(Heap.get?_update_other s.heap (Obj.mapSeq f) (Ne.symm hb)).trans hu) ⟨_,q⟩ ?_
 exact⟨hz,its',_,hv,q⟩
theorem Inv.Ta{its:List Value}{t':Nat}(I:Inv X pins Y H s)(hv:Vals ys its)(hz:ys.length<=sizeLine) :
  Inv X pins Y (upd H s.heap.objs.size (.lst ys)) {s with heap:=s.heap.push {cls:=.type "list",data:=.seq its.toArray},toks:=t'}:=
 I.laid (fun _ _ q=>Heap.get?_push_of_some _ q) (le_refl _) ⟨hz,its,0,hv,Heap.get?_push_size _ rfl⟩
theorem Inv.fresh(I:Inv X pins Y H s):H s.heap.objs.size=none:=I.hok.fresh (le_refl _)
theorem Inv.GH(I:Inv X pins Y H s)(hH:H l=some (.lst xs)):xs.length<=sizeLine/\∃(its:List Value) (n:Nat),Vals xs its/\xs.length=its.length/\s.heap.get? l=some {cls:=.type "list",data:=.seq its.toArray n}:=by
 obtain⟨z,its,n,r,e⟩:=I.hok l _ hH
 exact⟨z,its,n,r,r.length,e⟩
theorem Lc{n:Nat}(h:n<=sizeLine):Builtin.List.listTooLong n=false:=by
 unfold Builtin.List.listTooLong
 exact decide_eq_false ∅
end
section
variable {X:Cx}
noncomputable def Np:V->List V->Hp->VK->Prop:=fun x vs H Q=>∃l xs y,x = .ref l/\vs=[y]/\H l=some (.lst xs)/\xs.length<sizeLine/\Q .non (upd H l (.lst (xs++[y])))
theorem BY:MtM X "list.append" Np:=by
 intro pins s Y H x vs v us Q I rx rv h
 obtain⟨l,xs,y,rfl,rfl,hH,hz,q⟩:=h
 cases rx
 obtain⟨u,rfl,ru⟩:=rv.one
 obtain⟨z,its,n,r,hl,e⟩:=I.GH hH
 refine call_meets F.slot_list_append ⟨_,e,rfl⟩ F.entry_list_append (F.args_list_append_2 _ _) (PySem.list_append l its.toArray n u (by rw[size_toArray];omega)) ⟨e,?_⟩
 refine⟨.non,_,I.Mr (its':=its++[u]) hH e (by simp) (r.append (.cons ru .nil)) ?_,rfl,q⟩
 rw[length_append,List.length_singleton]
 omega
noncomputable def LU:V->List V->Hp->VK->Prop:=fun x vs H Q=>∃l b xs zs,x = .ref l/\vs=[.ref b]/\H l=some (.lst xs)/\H b=some (.lst zs)/\xs.length+zs.length<=sizeLine/\Q .non (upd H l (.lst (xs++zs)))
theorem QD:MtM X "list.extend" LU:=by
 intro pins s Y H x vs v us Q I rx rv h
 obtain⟨l,b,xs,zs,rfl,rfl,hH,hB,hz,q⟩:=h
 cases rx
 obtain⟨u,rfl,ru⟩:=rv.one
 cases ru
 obtain⟨z,its,n,r,hl,e⟩:=I.GH hH
 obtain⟨z2,its2,n2,r2,hl2,e2⟩:=I.GH hB
 have hsz:its.toArray.size+its2.toArray.size<=sizeLine:=by rw[size_toArray,size_toArray];omega
 have hlong:¬ (!its.toArray.isEmpty&&Builtin.List.listTooLong (its.toArray.size+its2.toArray.size))=true:=by
  rw[Lc hsz,Bool.and_false]
  exact Bool.false_ne_true
 refine call_meets F.slot_list_extend ⟨_,e,rfl⟩ F.entry_list_extend (F.args_list_extend_2 _ _)
  (AutoSeq1.list_extend_list_list_0 l its.toArray n b its2.toArray n2 hlong (by rw[size_toArray];omega) ∅) ⟨e,e2,?_⟩
 refine⟨.non,_,I.Mr (its':=its++its2) hH e (by simp) (r.append r2) ?_,rfl,q⟩
 rw[length_append]
 omega
noncomputable def SN:V->List V->Hp->VK->Prop:=fun x vs H Q=>∃l xs y,x = .ref l/\vs=[]/\H l=some (.lst xs)/\xs[xs.length-1]? = some y/\Q y (upd H l (.lst xs.dropLast))
theorem OG:MtM X "list.pop" SN:=by
 intro pins s Y H x vs v us Q I rx rv h
 obtain⟨l,xs,y,rfl,rfl,hH,hy,q⟩:=h
 cases rx
 have hus:=rv.zero
 subst hus
 obtain⟨z,its,n,r,hl,e⟩:=I.GH hH
 obtain⟨u,hu,ru⟩:=r.get hy
 have hy':its.toArray[its.toArray.size-1]? = some u:=by
  show its.toArray[its.length-1]? = some u
  rw[<- Array.getElem?_toList,<- hl]
  exact hu
 refine call_meets F.slot_list_pop ⟨_,e,rfl⟩ F.entry_list_pop (F.args_list_pop_1 _) (MeetsSeq.list_pop_last l its.toArray n u hy' (by rw[size_toArray];omega)) ⟨e,?_⟩
 refine⟨y,_,I.Mr (its':=its.dropLast) hH e ?_ r.dropLast ?_,ru,q⟩
 ·show its.toArray.eraseIdxIfInBounds (its.toArray.size-1)=its.dropLast.toArray
  rw[size_toArray,List.eraseIdxIfInBounds_toArray,GR]
 ·rw[List.length_dropLast]
  omega
noncomputable def Ph:V->List V->Hp->VK->Prop:=fun x vs H Q=>∃l xs i k y,x = .ref l/\vs=[.int i]/\H l=some (.lst xs)/\-(2 ^ 63)<=i/\i<2 ^ 63/\seqIndex? i xs.length=some k/\xs[k]? = some y/\Q y (upd H l (.lst (xs.eraseIdx k)))
theorem LK:MtM X "list.pop" Ph:=by
 intro pins s Y H x vs v us Q I rx rv h
 obtain⟨l,xs,i,k,y,rfl,rfl,hH,h1,h2,hk,hy,q⟩:=h
 cases rx
 obtain⟨u,rfl,ru⟩:=rv.one
 obtain⟨t,rfl⟩:=ru
 obtain⟨z,its,n,r,hl,e⟩:=I.GH hH
 obtain⟨w,hw,rw'⟩:=r.get hy
 refine call_meets F.slot_list_pop ⟨_,e,rfl⟩ F.entry_list_pop (F.args_list_pop_2 _ _)
  (MeetsSeq.list_pop_at l its.toArray n i t k w (fitsIndex_both h1 h2) (by rw[size_toArray,<- hl];exact hk) (by rw[<- Array.getElem?_toList];exact hw) (by rw[size_toArray];omega)) ⟨e,?_⟩
 refine⟨y,_,I.Mr (its':=its.eraseIdx k) hH e ?_ (r.eraseIdx k) ?_,rw',q⟩
 ·show its.toArray.eraseIdxIfInBounds k=(its.eraseIdx k).toArray
  rw[List.eraseIdxIfInBounds_toArray]
 ·have:=BZ xs k
  omega
noncomputable def Oy:R2:=fun x y H Q=>∃l b xs zs,x = .ref l/\y = .ref b/\H l=some (.lst xs)/\H b=some (.lst zs)/\xs.length+zs.length<=sizeLine/\∀p,H p=none->Q (.ref p) (upd H p (.lst (xs++zs)))
theorem Qf:OpR X (binaryOp .Add) Oy:=by
 intro pins s Y H x y v u Q I rx ry h
 obtain⟨l,b,xs,zs,rfl,rfl,hH,hB,hz,q⟩:=h
 cases rx
 cases ry
 obtain⟨z,its,n,r,hl,e⟩:=I.GH hH
 obtain⟨z2,its2,n2,r2,hl2,e2⟩:=I.GH hB
 refine PySem.P.add_list e e2 ?_ (by rw[size_toArray,size_toArray];omega)
 have ea:its.toArray++its2.toArray=(its++its2).toArray:=by simp
 rw[ea]
 exact⟨.ref _,_,I.Ta (t':=s.toks) (r.append r2) (by rw[length_append];omega),rfl,q _ I.fresh⟩
end
end L2
namespace Att
open PySem PySem.W PySem.Calls PyProof.Rows
theorem xJ{P:Params}{h:Heap}:∀(ns:List Int) (vs:List Value),WellAll P h vs (ns.map WData.int)->IntsAre vs ns:=by
 intro ns
 induction ns with
 |nil=>
  intro vs w
  rw[map_nil] at w
  cases w
  exact .nil
 |cons n ns ih=>
  intro vs w
  rw[map_cons] at w
  cases w with
  |cons a b=>
   cases a
   exact .cons _ _ (ih _ b)
theorem JA{l:OpenLaw}{n:Nat}(hn:l.most=some n){P:Params}{h:Heap}{args:List WData}{vals:List Value}
  (hpre:l.row.toRowW.claim.pre args=true) (hwl:WellAll P h vals args) :
  ∃a vs ns,vals=[Value.ref a]/\args=[WData.list (ns.map WData.int)]/\h.get? a=some {cls:=.type "list",data:=.seq vs.toArray}/\IntsAre vs ns/\ns.length<=n:=by
 have hsh:WShape.hasAll [] args [.list .int]=true:=(pre_splitW hpre).1
 have hc:l.pre.holds [] {args:=args} = true:=(pre_splitW hpre).2
 obtain⟨d,r,rfl,h1,h2⟩:=hasAllW_cons hsh
 obtain rfl:=hasAllW_nil h2
 obtain⟨xs,rfl,h3⟩:=hasW_list h1
 obtain⟨ns,rfl⟩:=items_int h3
 have hlen:ns.length<=n:=by
  unfold OpenLaw.pre at hc
  have h4:(WTm.not (.lt (.lit (.int (n:Int))) (.len (.arg 0)))).holds [] {args:=[.list (ns.map .int)]} = true:=by
   have h4:=(holds_andW hc).1
   rw[hn] at h4
   exact h4
  have h5:=condW_of h4 (w_not (w_lt w_lit (w_len_list (w_arg rfl))))
  rw[length_map] at h5
  refine Nat.le_of_not_lt fun q=>?_
  have q':(n:Int)<((ns.length:Nat):Int):=by omega
  first
   |(rw[decide_eq_true q'] at h5;exact absurd h5 ⋯)
   |(simp at h5;omega)
 cases hwl with
 |cons w1 w2=>
  cases w2
  cases w1 with
  |list ho hall=>exact⟨_,_,ns,rfl,rfl,ho,xJ ns _ hall,hlen⟩
theorem Jc(l:OpenLaw)(args:List WData):l.row.toRowW.claim.post args (.bool true) args=true:=
 postW_of (r:=l.row.toRowW) (X:=(true==true))
  (show WShape.has [] (.bool true) .bool=true by first|rfl|decide|simp[WShape.has,WShape.arms,WShape.armsAll])
  (show (WTm.eq .res (.lit (.bool true))).value [] {args:=args,res:=some (.bool true),after:=args} = some (.bool (true==true)) from w_eq_bool (w_res rfl) w_lit) rfl
theorem EZ{l:OpenLaw}{n:Nat}{q:Program}{loose:List Str}{XP:(Str->Option Value)->Heap->Prop}{YP:World->Heap->Prop}{d:DefRec}
  (hn:l.most=some n) (hdf:d.params.defaults=[])
  (call:∀(w:World) (ci bd:Shared) (mg mb:Str->Option Value) (fa:Addr) (o:Obj) (pm cd doc:Value) (a:Addr) (vs:List Value) (ns:List Int),
   Ground q loose [] XP w ci mg mb bd.heap->YP w bd.heap ->
   bd.heap.get? fa=some o->o.data = .func (docDef d.name d.params d.body d.scope pm cd doc)->bd.heap.CodeRec cd d.name->mg d.name=some (.ref fa) ->
   bd.heap.get? a=some {cls:=.type "list",data:=.seq vs.toArray}->IntsAre vs ns->ns.length<=n->bd.gens = #[] ->
   codeAny (model l.prog w) callerA (.call (.ref fa) ⟨[.ref a],[]⟩) (fun r s'=>r = .ok (.ret (.bool true))/\OldK bd.heap s'.heap/\s'.os=bd.os/\AllBare s'.gens) bd) :
  WalkO q loose XP YP l.row.toRowW d [] (fun f vs=>PySem.call f vs):=by
 intro w ci bd mg mb G ZY fa o pm cd doc dV kV ho hd hcd hD hmg hg args vals as hpre hlay hrd hwl hlo
 obtain rfl:dV = .none:=Dflts.none hD hdf
 obtain rfl:kV = .none:=Dflts.noKw hD
 obtain⟨a,vs,ns,rfl,rfl,hobj,hints,hlen⟩:=JA hn hpre hwl
 refine enter_call (codeAny_mono (call w ci bd mg mb fa o pm cd doc a vs ns G ZY ho (fd_plain hd) hcd hmg hobj hints hlen hg) fun r s' hq=>?_)
 obtain⟨rfl,h2,h3,h4⟩:=hq
 exact⟨.inl ⟨.bool true,.bool true,[],rfl,fun _=>rfl,.bool true,Jc l _,fun _=>⟨List.Pairwise.nil,fun _ hm=>(nomatch hm)⟩⟩,h2,h3,h4⟩
end Att
namespace L2
open PySem PySem.Spec PyProof.Rows
theorem BX:∀{vs:List Value} {ns:List Int},IntsAre vs ns->Vals (ns.map V.int) vs
 |_,_,.nil=>.nil
 |_,_,.cons n t h=>.cons ⟨t,rfl⟩ (BX h)
end L2
namespace L2
open PySem PySem.Spec PyProof.Rows
end L2
namespace L2
open PySem PySem.Spec PyProof.Rows
noncomputable abbrev CX0:CXT:=fun _ _ _ _ _ _=>False
noncomputable abbrev E0:XK:=fun _ _ _=>False
theorem Rv{X:Cx}:Passes CX0 X E0:=fun _ _ _ _ _ _ _ h=>h.elim
structure Fun(K:PySem.W.Frag)(x qual:Str)(st:Stmt)(f:Addr)(fd:FuncData):Prop where
 ex:∃(oc:Value) (od:Option Addr) (kV doc pm:Value) (an:Option Addr) (cdv ct:Value) (osl:Array (Option Value)),
  fd=fnOf x qual (ju st) (iM st) (ay st) .none kV doc pm an cdv ct/\K.lookup f=some ⟨oc,od,.func fd,osl⟩/\codeIn K cdv qual=true
 kp:keepIn K (.ref f)=true
section
variable {P:Program}{w:World}{K:PySem.W.Frag}{mg:Str->Option Value}{base:Heap}
theorem Fun.ok{x qual:Str}{st:Stmt}{f:Addr}{fd:FuncData}{N ps:List Str}{k:Nat}{sp:Sp}(F:Fun K x qual st f fd)(S:aD N ps (ay st))(len:∀vs H Q E,sp vs H Q E->vs.length=ps.length)
  (hbody:∀(cdv:Value) (A:Around) (outer:List Env) (s:Shared) (H:Hp) (vs:List V) (Q:VK) (E:XK),lq k (A.deeper (envOfC qual (ay st) s.heap.objs.size f cdv))->sp vs H Q E ->
   ∃t,PSs (FG CX0 P w K mg base N qual (ay st) f cdv A outer s H E).nox (iM st) t/\t {nx:=fun _ H'=>Q .non H',rt:=Q} (start N vs) H):mw P w K mg base CX0 (k+1) f fd ps sp:=by
 obtain⟨oc,od,kV,doc,pm,an,cdv,ct,osl,rfl,lk,hcd⟩:=F.ex
 refine QE lk hcd S len fun A outer s H vs Q E hr hsp=>?_
 obtain⟨t,h,q⟩:=hbody cdv A outer s H vs Q E hr hsp
 exact⟨t,h.nox,q⟩
theorem Fun.binds{x qual:Str}{st:Stmt}{f:Addr}{fd:FuncData}{ps:List Str}(F:Fun K x qual st f fd)
  (h:∀(kV doc pm:Value) (an:Option Addr) (cdv ct:Value) (us:List Value),us.length=ps.length->bindArgs (fnOf x qual (ju st) (iM st) (ay st) .none kV doc pm an cdv ct) ⟨us,[]⟩=pure (ps.zip us)):Binds K fd ps []:=by
 obtain⟨oc,od,kV,doc,pm,an,cdv,ct,osl,rfl,lk,hcd⟩:=F.ex
 exact .all (h kV doc pm an cdv ct)
theorem Qp{x qual:Str}{st:Stmt}{f:Addr}{oc:Value}{od an:Option Addr}{osl:Array (Option Value)}{kV doc pm cdv ct:Value}(l:K.lookup f=some ⟨oc,od,.func (fnOf x qual (ju st) (iM st) (ay st) .none kV doc pm an cdv ct),osl⟩)
  (c:codeIn K cdv qual=true) (k:keepIn K (.ref f)=true):Fun K x qual st f (fnOf x qual (ju st) (iM st) (ay st) .none kV doc pm an cdv ct):=⟨⟨oc,od,kV,doc,pm,an,cdv,ct,osl,rfl,l,c⟩,k⟩
end
theorem jB{n:Nat}(h:n<=1000):n<sizeLine:=Nat.lt_of_le_of_lt h ⋯
theorem Ey{A B:Prop}(h:B):if false=true then A else B:=by
 rw[if_neg Bool.false_ne_true]
 exact h
theorem FH{A B:Prop}(h:A):if true=true then A else B:=by
 rw[if_pos rfl]
 exact h
noncomputable def Cu(H H':Hp):Prop:=∀b o,H b=some o->H' b=some o
theorem Cu.refl(H:Hp):Cu H H:=fun _ _ h=>h
end L2
namespace ST
open PySem PySem.SetTable
noncomputable def adv(m:Nat)(p:Probe):Probe:=
 if p.more>0 then {p with j:=p.j+1,more:=p.more-1} else
 {p with j:=(leap m p.i p.perturb).1,more:=runEnd m (leap m p.i p.perturb).1-(leap m p.i p.perturb).1,i:=(leap m p.i p.perturb).1,perturb:=(leap m p.i p.perturb).2}
noncomputable def st(m:Nat)(s:Nat×Nat):Probe:={j:=s.1,more:=runEnd m s.1-s.1,i:=s.1,perturb:=s.2,dummy:=none}
noncomputable def sth(m:Nat)(h:Int):Probe:=st m (bits h % (m+1),bits h)
inductive On(m:Nat)(ZZ:Nat->Prop):Probe->Nat->Prop
 |here {p:Probe}:On m ZZ p p.j
 |step {p:Probe} {j:Nat}:ZZ p.j->On m ZZ (adv m p) j->On m ZZ p j
end ST
namespace ST
open PySem PySem.SetTable
section
variable {β:Type}
noncomputable abbrev Ln(β:Type):=List (Nat×Int×β)
noncomputable def Occ(L:Ln β)(j:Nat):Prop:=j∈L.map (·.1)
structure Tab(t:SetTable)(L:Ln β):Prop where
 place:t.place=(L.map (·.1)).toArray
 ris:L.Pairwise fun a b=>a.1<b.1
 le:∀x∈L,x.1<=t.mask
 dum:t.dummies = #[]
 two:∃k,t.mask+1=2 ^ k/\3<=k
 on:∀x∈L,On t.mask (Occ L) (sth t.mask x.2.1) x.1
end
end ST
namespace ST
open PySem PySem.SetTable
end ST
set_option maxHeartbeats 1000000
namespace ST
open PySem PySem.SetTable
end ST
namespace ST
open PySem PySem.SetTable
end ST
set_option maxHeartbeats 4000000
namespace NM
@[irreducible] def Sz (n:Nat) (i:Int):Prop:=i.natAbs<2 ^ n
theorem Sz.mono{n m:Nat}{i:Int}(h:Sz n i)(l:n<=m):Sz m i:=by unfold Sz at *;exact lt_of_lt_of_le h (Nat.pow_le_pow_right ⋯ l)
theorem Sz.mul{n m:Nat}{i j:Int}(h:Sz n i)(g:Sz m j):Sz (n+m) (i*j):=by
 unfold Sz at *
 rw[natAbs_mul,Nat.pow_add]
 exact Nat.mul_lt_mul'' h g
theorem Sz.add{n:Nat}{i j:Int}(h:Sz n i)(g:Sz n j):Sz (n+1) (i+j):=by
 unfold Sz at *
 have:=Int.natAbs_add_le i j
 rw[Nat.pow_succ]
 omega
theorem Sz.neg{n:Nat}{i:Int}(h:Sz n i):Sz n (-i):=by unfold Sz at *;rw[Int.natAbs_neg];exact h
theorem Sz.sub{n:Nat}{i j:Int}(h:Sz n i)(g:Sz n j):Sz (n+1) (i-j):=by rw[Int.sub_eq_add_neg];exact h.add g.neg
theorem Sz.le{n:Nat}{i j:Int}(h:Sz n i)(g:j.natAbs<=i.natAbs):Sz n j:=by unfold Sz at *;exact Nat.lt_of_le_of_lt g h
theorem Sz.of{n:Nat}{i:Int}(h:i.natAbs<2 ^ n):Sz n i:=by unfold Sz;exact h
theorem Sz.lt{n:Nat}{i:Int}(h:Sz n i):i.natAbs<2 ^ n:=by unfold Sz at h;exact h
noncomputable def g3(a b c:Int):Nat:=Int.gcd (Int.gcd a b:Nat) c
theorem Nq(a b c:Int):Int.gcd (Int.gcd c a:Nat) b=g3 a b c:=by
 unfold g3
 simp only[Int.gcd,Int.natAbs_natCast]
 rw[Nat.gcd_assoc,Nat.gcd_comm]
theorem Lw(a b c:Int):((g3 a b c:Nat):Int) ∣ a/\((g3 a b c:Nat):Int) ∣ b/\((g3 a b c:Nat):Int) ∣ c:=by
 have h:((g3 a b c:Nat):Int) ∣ ((Int.gcd a b:Nat):Int):=Int.gcd_dvd_left ..
 exact⟨Int.dvd_trans h (Int.gcd_dvd_left ..),Int.dvd_trans h (Int.gcd_dvd_right ..),Int.gcd_dvd_right ..⟩
theorem Pd{a b c:Int}{k:Nat}(h1:(k:Int) ∣ a)(h2:(k:Int) ∣ b)(h3:(k:Int) ∣ c):k ∣ g3 a b c:=by
 unfold g3
 exact Int.dvd_gcd (Int.natCast_dvd_natCast.mpr (Int.dvd_gcd h1 h2)) h3
theorem Di{a b c:Int}(h:c≠0):0<g3 a b c:=by
 unfold g3
 exact Int.gcd_pos_of_ne_zero_right _ h
theorem Ke(a b c k:Int):g3 (a*k) (b*k) (c*k)=g3 a b c*k.natAbs:=by
 unfold g3
 simp only[Int.gcd,Int.natAbs_natCast,natAbs_mul,Nat.gcd_mul_right]
theorem Lq(a b c:Int):g3 a (-b) c=g3 a b c:=by
 unfold g3
 rw[Int.gcd_neg]
theorem K2(a b c:Int):g3 (-a) b c=g3 a b c:=by
 unfold g3
 rw[Int.neg_gcd]
structure N3 where
 a:Int
 b:Int
 c:Int
deriving DecidableEq
theorem N3.ext'{x y:N3}(h1:x.a=y.a)(h2:x.b=y.b)(h3:x.c=y.c):x=y:=by cases x;cases y;simp_all
structure Ok(x:N3):Prop where
 c:0<x.c
 g:g3 x.a x.b x.c=1
noncomputable def dv(a b c:Int):Int:=if c<0 then -(g3 a b c:Nat) else (g3 a b c:Nat)
noncomputable def low(a b c:Int):N3:=⟨a.fdiv (dv a b c),b.fdiv (dv a b c),c.fdiv (dv a b c)⟩
theorem Ef{a k q:Int}(hk:k≠0)(h:a=k*q):a.fdiv k=q:=by
 subst h
 exact Int.mul_fdiv_cancel_left q hk
theorem R1{a b c:Int}(h:c≠0):dv a b c≠0:=by
 have:=Di (a:=a) (b:=b) h
 unfold dv
 split<;>omega
theorem Oi(a b c:Int):dv a b c ∣ a/\dv a b c ∣ b/\dv a b c ∣ c:=by
 obtain⟨h1,h2,h3⟩:=Lw a b c
 unfold dv
 split
 ·exact⟨Int.neg_dvd.mpr h1,Int.neg_dvd.mpr h2,Int.neg_dvd.mpr h3⟩
 ·exact⟨h1,h2,h3⟩
theorem iX(a b:Int){c:Int}(h:c≠0):∃k:Int,k≠0/\(0<k↔0<c)/\a=k*(low a b c).a/\b=k*(low a b c).b/\c=k*(low a b c).c/\Ok (low a b c):=by
 have hk:=R1 (a:=a) (b:=b) h
 obtain⟨⟨p,hp⟩,⟨q,hq⟩,⟨r,hr⟩⟩:=Oi a b c
 have ep:(low a b c).a=p:=Ef hk hp
 have eq:(low a b c).b=q:=Ef hk hq
 have er:(low a b c).c=r:=Ef hk hr
 have hg:=Di (a:=a) (b:=b) h
 have hs:0<dv a b c↔0<c:=by unfold dv;split<;>omega
 have hr0:0<r:=by
  have hr':r≠0:=fun z=>h (by rw[hr,z,Int.mul_zero])
  rcases Int.lt_trichotomy 0 (dv a b c) with z|z|z
  ·have:=hs.mp z
   rw[hr] at this
   rw[Int.mul_comm] at this
   exact Int.pos_of_mul_pos_left this z |> fun t=>t
  ·exact absurd z.symm hk
  ·have:c<0:=by omega
   rcases Int.lt_trichotomy 0 r with w|w|w
   ·exact w
   ·exact absurd w.symm hr'
   ·have:=Int.mul_pos_of_neg_of_neg z w
    rw[<- hr] at this
    omega
 refine⟨dv a b c,hk,hs,by rw[ep];exact hp,by rw[eq];exact hq,by rw[er];exact hr,by rw[er];exact hr0,?_⟩
 rw[ep,eq,er]
 have e:=Ke p q r (dv a b c)
 rw[Int.mul_comm p,Int.mul_comm q,Int.mul_comm r,<- hp,<- hq,<- hr] at e
 have e2:(dv a b c).natAbs=g3 a b c:=by unfold dv;split<;>simp
 rw[e2] at e
 have:g3 p q r*g3 a b c=1*g3 a b c:=by omega
 exact Nat.eq_of_mul_eq_mul_right hg this
theorem jd(a b:Int){c:Int}(h:c≠0):Ok (low a b c):=(iX a b h).choose_spec.2.2.2.2.2
theorem Ok.same{x y:N3}(hx:Ok x)(hy:Ok y)(h1:x.a*y.c=y.a*x.c)(h2:x.b*y.c=y.b*x.c):x=y:=by
 have key:∀{u v:N3},Ok u->Ok v->u.a*v.c=v.a*u.c->u.b*v.c=v.b*u.c->u.c ∣ v.c:=fun {u v} hu hv e1 e2=>by
  have hd:u.c.natAbs ∣ g3 (u.a*v.c) (u.b*v.c) (u.c*v.c):=Pd
   (by rw[Int.natAbs_of_nonneg (le_of_lt hu.c),e1];exact Int.dvd_mul_left _ _) (by rw[Int.natAbs_of_nonneg (le_of_lt hu.c),e2];exact Int.dvd_mul_left _ _) (by rw[Int.natAbs_of_nonneg (le_of_lt hu.c)];exact Int.dvd_mul_right _ _)
  rw[Ke,hu.g,Nat.one_mul] at hd
  exact Int.natAbs_dvd_natAbs.mp hd
 have hc:x.c=y.c:=Int.dvd_antisymm (le_of_lt hx.c) (le_of_lt hy.c) (key hx hy h1 h2) (key hy hx h1.symm h2.symm)
 have hn:y.c≠0:=by have:=hy.c;omega
 rw[hc] at h1 h2
 exact N3.ext' (eq_of_mul_eq_mul_right hn h1) (eq_of_mul_eq_mul_right hn h2) hc
theorem OW{a b c a' b' c':Int}(h:c≠0)(h':c'≠0)(e1:a*c'=a'*c)(e2:b*c'=b'*c):low a b c=low a' b' c':=by
 obtain⟨k,hk,_,p1,p2,p3,o⟩:=iX a b h
 obtain⟨l,hl,_,q1,q2,q3,o'⟩:=iX a' b' h'
 generalize low a b c=x at *
 generalize low a' b' c'=y at *
 subst p1 p2 p3 q1 q2 q3
 have hkl:k*l≠0:=mul_ne_zero hk hl
 refine o.same o' (Int.eq_of_mul_eq_mul_left hkl (by grind)) (Int.eq_of_mul_eq_mul_left hkl (by grind))
theorem Ok.low{x:N3}(h:Ok x):low x.a x.b x.c=x:=by
 have hc:x.c≠0:=by have:=h.c;omega
 obtain⟨k,hk,_,p1,p2,p3,o⟩:=iX x.a x.b hc
 refine o.same h ?_ ?_
 ·exact Int.eq_of_mul_eq_mul_left hk (by grind)
 ·exact Int.eq_of_mul_eq_mul_left hk (by grind)
theorem Ok.Qc{x:N3}{a b c:Int}(h:Ok x)(hc:c≠0)(e1:x.a*c=a*x.c)(e2:x.b*c=b*x.c):x=NM.low a b c:=by
 have q:=OW (by have:=h.c;omega) hc e1 e2
 rw[h.low] at q
 exact q
theorem Pn(a b:Int){c:Int}(h:c≠0):(low a b c).a.natAbs<=a.natAbs/\(low a b c).b.natAbs<=b.natAbs/\(low a b c).c.natAbs<=c.natAbs:=by
 obtain⟨k,hk,_,p1,p2,p3,_⟩:=iX a b h
 have hk':1<=k.natAbs:=by omega
 have le:∀{u v:Int},u=k*v->v.natAbs<=u.natAbs:=fun {u v} e=>by
  rw[e,natAbs_mul]
  exact Nat.le_mul_of_pos_left _ hk'
 exact⟨le p1,le p2,le p3⟩
structure Bd(n:Nat)(x:N3):Prop where
 a:Sz n x.a
 b:Sz n x.b
 c:Sz n x.c
theorem Bd.mono{n m:Nat}{x:N3}(h:Bd n x)(l:n<=m):Bd m x:=⟨h.a.mono l,h.b.mono l,h.c.mono l⟩
theorem jg{a b c:Int}{n:Nat}(h:c≠0)(ha:Sz n a)(hb:Sz n b)(hc:Sz n c):Bd n (low a b c):=by
 obtain⟨h1,h2,h3⟩:=Pn a b h
 exact⟨ha.le h1,hb.le h2,hc.le h3⟩
noncomputable def plus(x y:N3):N3:=low (x.a*y.c+y.a*x.c) (x.b*y.c+y.b*x.c) (x.c*y.c)
noncomputable def less(x y:N3):N3:=low (x.a*y.c-y.a*x.c) (x.b*y.c-y.b*x.c) (x.c*y.c)
noncomputable def times(d:Int)(x y:N3):N3:=low (x.a*y.a+d*x.b*y.b) (x.a*y.b+x.b*y.a) (x.c*y.c)
noncomputable def norm(d:Int)(x:N3):Int:=x.a*x.a-d*x.b*x.b
noncomputable def aS(d:Int)(x:N3):N3:=low (x.c*x.a) (-x.c*x.b) (norm d x)
noncomputable def MO(x:N3):N3:=⟨x.a,-x.b,x.c⟩
noncomputable def minus(x:N3):N3:=⟨-x.a,-x.b,x.c⟩
noncomputable def fF:N3:=⟨0,0,1⟩
noncomputable def one:N3:=⟨1,0,1⟩
theorem Ok.cn{x:N3}(h:Ok x):x.c≠0:=by have:=h.c;omega
theorem rG{x y:N3}(h:Ok x)(g:Ok y):x.c*y.c≠0:=mul_ne_zero h.cn g.cn
theorem eI{x:N3}(h:Ok x):Ok (minus x):=⟨h.c,by show g3 (-x.a) (-x.b) x.c=1;rw[K2,Lq];exact h.g⟩
theorem cA{x y:N3}(h:Ok x)(g:Ok y):Ok (plus x y):=jd _ _ (rG h g)
theorem yg{x y:N3}(h:Ok x)(g:Ok y):Ok (less x y):=jd _ _ (rG h g)
theorem bL{d:Int}{x y:N3}(h:Ok x)(g:Ok y):Ok (times d x y):=jd _ _ (rG h g)
theorem l7:Ok fF:=⟨⋯,⋯⟩
theorem Hi:Ok one:=⟨⋯,⋯⟩
theorem uv{n:Nat}{x:N3}(h:Bd n x):Bd n (minus x):=⟨h.a.neg,h.b.neg,h.c⟩
theorem IS{n m:Nat}{x y:N3}(hx:Ok x)(hy:Ok y)(h:Bd n x)(g:Bd m y):Bd (n+m+1) (plus x y):=
 jg (rG hx hy) ((h.a.mul g.c).add ((g.a.mul h.c).mono ∅)) ((h.b.mul g.c).add ((g.b.mul h.c).mono ∅)) ((h.c.mul g.c).mono ∅)
theorem M0{n m:Nat}{x y:N3}(hx:Ok x)(hy:Ok y)(h:Bd n x)(g:Bd m y):Bd (n+m+1) (less x y):=
 jg (rG hx hy) ((h.a.mul g.c).sub ((g.a.mul h.c).mono ∅)) ((h.b.mul g.c).sub ((g.b.mul h.c).mono ∅)) ((h.c.mul g.c).mono ∅)
theorem l5{d:Int}(h:2<=d)(h':d<=30):Sz 5 d:=by unfold Sz;omega
theorem FD{n m:Nat}{d:Int}{x y:N3}(hd:Sz 5 d)(hx:Ok x)(hy:Ok y)(h:Bd n x)(g:Bd m y):Bd (n+m+6) (times d x y):=
 jg (rG hx hy) (((h.a.mul g.a).mono ∅).add (((hd.mul h.b).mul g.b).mono ∅)) ((((h.a.mul g.b).mono (by omega:n+m<=n+m)).add ((h.b.mul g.a).mono ∅)).mono ∅) ((h.c.mul g.c).mono ∅)
theorem DH{n:Nat}{d:Int}{x:N3}(hd:Sz 5 d)(h:Bd n x):Sz (2*n+6) (norm d x):=by
 have e1:=h.a.mul h.a
 have e2:=(hd.mul h.b).mul h.b
 exact ((e1.mono (by omega:n+n<=5+n+n)).sub e2).mono ∅
theorem oZ{n:Nat}{d:Int}{x:N3}(hd:Sz 5 d)(hn:norm d x≠0)(h:Bd n x):Bd (2*n+6) (aS d x):=
 jg hn ((h.c.mul h.a).mono ∅) ((h.c.neg.mul h.b).mono ∅) (DH hd h)
noncomputable def av(d:Int):Prop:=2<=d/\d<=30/\d≠4/\d≠9/\d≠16/\d≠25
theorem Ji{d:Nat}(h:∀m:Nat,m*m≠d):∀{a b:Nat},a*a=d*(b*b)->b=0:=fun {a b} e=>by
 rcases Nat.eq_zero_or_pos b with hb|hb
 ·exact hb
 exfalso
 obtain⟨g,p,q,hg,hc,rfl,rfl⟩:=Nat.exists_coprime' (m:=a) (n:=b) (Nat.gcd_pos_of_pos_right _ hb)
 have e2:(p*p)*(g*g)=(d*(q*q))*(g*g):=by grind
 have e3:p*p=d*(q*q):=Nat.eq_of_mul_eq_mul_right (Nat.mul_pos hg hg) e2
 have hq:q ∣ p*p:=⟨d*q,by rw[e3];grind⟩
 have hq1:q ∣ p:=hc.symm.dvd_of_dvd_mul_left hq
 have hq2:q=1:=by
  have:=Nat.dvd_gcd hq1 (Nat.dvd_refl q)
  rw[hc] at this
  exact Nat.dvd_one.mp this
 subst hq2
 exact h p (by rw[e3];simp)
theorem av.nat{d:Int}(h:av d):∀m:Nat,m*m≠d.toNat:=fun m e=>by
 obtain⟨h1,h2,h3,h4,h5,h6⟩:=h
 have hm:m<=5:=by
  rcases Nat.lt_or_ge 5 m with z|z
  ·have:=Nat.mul_le_mul z z;omega
  ·exact z
 have:m=0\/m=1\/m=2\/m=3\/m=4\/m=5:=by omega
 rcases this with rfl|rfl|rfl|rfl|rfl|rfl<;>omega
theorem av.Cs{d a b:Int}(h:av d)(e:a*a=d*b*b):a=0/\b=0:=by
 have hd:d=((d.toNat:Nat):Int):=by have:=h.1;omega
 have e1:a.natAbs*a.natAbs=d.toNat*(b.natAbs*b.natAbs):=by
  have e2:=congrArg Int.natAbs e
  rw[natAbs_mul,natAbs_mul,natAbs_mul] at e2
  rw[e2,Nat.mul_assoc]
  congr 1
  omega
 have hb:=Ji h.nat e1
 have hb':b=0:=by omega
 subst hb'
 have:a*a=0:=by rw[e];simp
 exact⟨by rcases Int.mul_eq_zero.mp this with z|z<;>exact z,rfl⟩
theorem av.norm{d:Int}{x:N3}(h:av d)(ok:Ok x)(hx:x≠fF):norm d x≠0:=fun e=>by
 have e':x.a*x.a=d*x.b*x.b:=by unfold NM.norm at e;omega
 obtain⟨h1,h2⟩:=h.Cs e'
 apply hx
 have hg:=ok.g
 rw[h1,h2] at hg
 have hc:=ok.c
 have:x.c=1:=by
  unfold g3 at hg
  simp[Int.gcd] at hg
  omega
 exact N3.ext' h1 h2 this
theorem dR{d:Int}{x:N3}(h:NM.norm d x≠0):Ok (aS d x):=jd _ _ h
noncomputable def sg(d a b:Int):Int:=
 if a=0/\b=0 then 0 else if 0<=a/\0<=b then 1 else if a<=0/\b<=0 then -1 else if (if d*b*b<a*a then a else b)>0 then 1 else -1
theorem N9{u v:Int}(hu:0<=u)(h:u*u<=v*v)(hv:0<=v):u<=v:=by
 rcases Int.lt_or_le v u with z|z
 ·have:=Int.mul_lt_mul_of_pos_left z (show 0<u by omega)
  have:=Int.mul_le_mul_of_nonneg_right (le_of_lt z) hv
  omega
 ·exact z
theorem sq_nonneg(u:Int):0<=u*u:=by
 rcases Int.le_total 0 u with h|h
 ·exact mul_nonneg h h
 ·exact Int.mul_nonneg_of_nonpos_of_nonpos h h
noncomputable def P(d a b:Int):Prop:=(0<=a/\0<=b/\¬ (a=0/\b=0))\/(0<a/\b<0/\d*b*b<a*a)\/(a<0/\0<b/\a*a<d*b*b)
theorem dS{d a b:Int}(h:av d):sg d a b=1↔P d a b:=by
 unfold sg P
 have key:a*a=d*b*b->a=0/\b=0:=h.Cs
 by_cases c1:d*b*b<a*a
 ·simp only[c1,if_true];split<;>(try split)<;>(try split)<;>(try split)<;>simp<;>omega
 ·simp only[c1,if_false];split<;>(try split)<;>(try split)<;>(try split)<;>simp<;>omega
theorem rH{d a b:Int}(h:av d):sg d (-a) (-b) = - sg d a b:=by
 unfold sg
 have key:a*a=d*b*b->a=0/\b=0:=h.Cs
 have e1:d * -b * -b=d*b*b:=by grind
 have e2:-a * -a=a*a:=by grind
 rw[e1,e2]
 by_cases c1:d*b*b<a*a
 ·simp only[c1,if_true];split<;>split<;>(try split)<;>(try split)<;>(try split)<;>(try split)<;>(try split)<;>(try split)<;>omega
 ·simp only[c1,if_false];split<;>split<;>(try split)<;>(try split)<;>(try split)<;>(try split)<;>(try split)<;>(try split)<;>omega
theorem dZ{d a b:Int}:sg d a b=0↔a=0/\b=0:=by
 unfold sg;split<;>(try split)<;>(try split)<;>(try split)<;>omega
theorem mV(d a b:Int):sg d a b=0\/sg d a b=1\/sg d a b = -1:=by
 unfold sg;split<;>(try split)<;>(try split)<;>(try split)<;>omega
theorem Rk{d a b:Int}(h:av d):(a=0/\b=0)\/P d a b\/P d (-a) (-b):=by
 rcases mV d a b with e|e|e
 ·exact .inl (dZ.mp e)
 ·exact .inr (.inl ((dS h).mp e))
 ·exact .inr (.inr ((dS h).mp (by rw[rH h,e];rfl)))
theorem qI{d a b:Int}(h:av d)(n:d*b*b<a*a):P d a b↔0<a:=by
 unfold P
 have:=sq_nonneg b
 have h0:0<=d*b*b:=by rw[Int.mul_assoc];exact mul_nonneg (by have:=h.1;omega) this
 have ha:a≠0:=fun z=>by subst z;simp at n;omega
 omega
theorem mN{d a b:Int}(h:av d)(n:a*a<d*b*b):P d a b↔0<b:=by
 unfold P
 have h0:=sq_nonneg a
 have hb:b≠0:=fun z=>by subst z;simp at n;omega
 omega
theorem ue{u v:Int}(h:v*v<u*u):0<u+v↔0<u:=by
 have hu:u≠0:=fun z=>by subst z;have:=sq_nonneg v;simp at h;omega
 have l:v.natAbs<u.natAbs:=by
  rcases Nat.lt_or_ge v.natAbs u.natAbs with z|z
  ·exact z
  ·have:=Nat.mul_le_mul z z
   have e1:((u.natAbs*u.natAbs:Nat):Int)=u*u:=Int.natAbs_mul_self
   have e2:((v.natAbs*v.natAbs:Nat):Int)=v*v:=Int.natAbs_mul_self
   omega
 omega
theorem mul_pos_iff{u v:Int}(hu:u≠0)(hv:v≠0):0<u*v↔(0<u↔0<v):=by
 rcases lt_or_gt_of_ne hu with h|h<;>rcases lt_or_gt_of_ne hv with g|g
 ·have:=Int.mul_pos_of_neg_of_neg h g;omega
 ·have:=Int.mul_neg_of_neg_of_pos h g;omega
 ·have:=Int.mul_neg_of_pos_of_neg h g;omega
 ·have:=mul_pos h g;omega
theorem yE{u v s t:Int}(hu:0<=u)(h:u<v)(hs:0<=s)(g:s<t):u*s<v*t:=by
 have e1:u*s<=v*s:=Int.mul_le_mul_of_nonneg_right (le_of_lt h) hs
 have e2:v*s<v*t:=Int.mul_lt_mul_of_pos_left g ∅
 omega
theorem dsq{d b:Int}(hd:0<d):0<=d*b*b:=by rw[Int.mul_assoc];exact mul_nonneg (le_of_lt hd) (sq_nonneg b)
theorem RR{d a b p q:Int}(h:av d)(h1:¬ (a=0/\b=0))(h2:¬ (p=0/\q=0)):P d (a*p+d*b*q) (a*q+b*p)↔(P d a b↔P d p q):=by
 have hd:0<d:=by have:=h.1;omega
 have n1:a*a≠d*b*b:=fun e=>h1 (h.Cs e)
 have n2:p*p≠d*q*q:=fun e=>h2 (h.Cs e)
 have pz:∀{u v:Int},d*v*v<u*u->u≠0:=fun {u v} e z=>by subst z;have:=dsq (b:=v) hd;simp at e;omega
 have qz:∀{u v:Int},u*u<d*v*v->v≠0:=fun {u v} e z=>by subst z;have:=sq_nonneg u;simp at e;omega
 have id1:(a*p+d*b*q)*(a*p+d*b*q)-d*(a*q+b*p)*(a*q+b*p)=(a*a-d*b*b)*(p*p-d*q*q):=by grind
 rcases lt_or_gt_of_ne n1 with c1|c1<;>rcases lt_or_gt_of_ne n2 with c2|c2
 ·have pp:=Int.mul_pos_of_neg_of_neg (show a*a-d*b*b<0 by omega) (show p*p-d*q*q<0 by omega)
  rw[qI h ∅,mN h c1,mN h c2]
  have sq:(a*p)*(a*p)<(d*b*q)*(d*b*q):=by
   have e2:=yE (sq_nonneg a) c1 (sq_nonneg p) c2
   grind
  rw[Int.add_comm,ue sq,Int.mul_assoc,mul_pos_iff ∅ (mul_ne_zero (qz c1) (qz c2)),mul_pos_iff (qz c1) (qz c2)]
  omega
 ·have pp:=Int.mul_neg_of_neg_of_pos (show a*a-d*b*b<0 by omega) (show 0<p*p-d*q*q by omega)
  rw[mN h ∅,mN h c1,qI h c2]
  have sq:(a*q)*(a*q)<(b*p)*(b*p):=by
   have e2:=yE (sq_nonneg a) c1 (dsq (b:=q) hd) c2
   have e3:d*((a*q)*(a*q))<d*((b*p)*(b*p)):=by grind
   exact Int.lt_of_mul_lt_mul_left e3 (le_of_lt hd)
  rw[Int.add_comm,ue sq,mul_pos_iff (qz c1) (pz c2)]
 ·have pp:=Int.mul_neg_of_pos_of_neg (show 0<a*a-d*b*b by omega) (show p*p-d*q*q<0 by omega)
  rw[mN h ∅,qI h c1,mN h c2]
  have sq:(b*p)*(b*p)<(a*q)*(a*q):=by
   have e2:=yE (dsq (b:=b) hd) c1 (sq_nonneg p) c2
   have e3:d*((b*p)*(b*p))<d*((a*q)*(a*q)):=by grind
   exact Int.lt_of_mul_lt_mul_left e3 (le_of_lt hd)
  rw[ue sq,mul_pos_iff (pz c1) (qz c2)]
 ·have pp:=mul_pos (show 0<a*a-d*b*b by omega) (show 0<p*p-d*q*q by omega)
  rw[qI h ∅,qI h c1,qI h c2]
  have sq:(d*b*q)*(d*b*q)<(a*p)*(a*p):=by
   have e2:=yE (dsq (b:=b) hd) c1 (dsq (b:=q) hd) c2
   grind
  rw[ue sq,mul_pos_iff (pz c1) (pz c2)]
theorem Ru{d A x B y:Int}(hd:0<d)(hA:0<=A)(hx:0<=x)(hB:0<=B)(hy:0<=y)(h1:A*A<=d*B*B)(h2:x*x<=d*y*y):A*x<=d*(B*y):=by
 refine N9 (mul_nonneg hA hx) ?_ (mul_nonneg (le_of_lt hd) (mul_nonneg hB hy))
 have:=Int.mul_le_mul h1 h2 (sq_nonneg x) (dsq hd)
 grind
theorem T1{d A x B y:Int}(hd:0<d)(hA:0<=A)(hx:0<=x)(hB:0<=B)(hy:0<=y)(h1:A*A<d*B*B)(h2:x*x<d*y*y):(A+x)*(A+x)<d*(B+y)*(B+y):=by
 have:=Ru hd hA hx hB hy (le_of_lt h1) (le_of_lt h2)
 grind
theorem T2{d A x B y:Int}(hd:0<d)(hA:0<=A)(hx:0<=x)(hB:0<=B)(hy:0<=y)(h1:d*B*B<A*A)(h2:d*y*y<x*x):d*(B+y)*(B+y)<(A+x)*(A+x):=by
 have:d*(B*y)<=A*x:=by
  refine N9 (mul_nonneg (le_of_lt hd) (mul_nonneg hB hy)) ?_ (mul_nonneg hA hx)
  have:=yE (dsq (b:=B) hd) h1 (dsq (b:=y) hd) h2
  grind
 grind
theorem Z1{d x1 y1 x2 y2:Int}(hd:0<d)(h1:x1*x1<d*y1*y1)(h2:d*y2*y2<x2*x2)(a1:0<=x2)(a2:x2<=x1)(a3:0<=y1)(a4:y1<=y2):False:=by
 have e1:=Int.mul_le_mul a2 a2 a1 (Int.le_trans a1 a2)
 have e2:=Int.mul_le_mul_of_nonneg_left (Int.mul_le_mul a4 a4 a3 (Int.le_trans a3 a4)) (le_of_lt hd)
 grind
theorem Z2{d x1 y1 x2 y2 x3 y3:Int}(hd:0<d)(h1:x1*x1<d*y1*y1)(h2:d*y2*y2<x2*x2)(h3:d*y3*y3<x3*x3)(a1:0<=x2)(a2:0<=y2)(a3:0<=x3)(a4:0<=y3)(e1:x1=x2+x3)(e2:y1=y2+y3):False:=by
 subst e1 e2
 have:=T2 hd a1 a3 a2 a4 h2 h3
 omega
theorem Z3{d x1 y1 x2 y2 x3 y3:Int}(hd:0<d)(h1:d*y1*y1<x1*x1)(h2:x2*x2<d*y2*y2)(h3:x3*x3<d*y3*y3)(a1:0<=x2)(a2:0<=y2)(a3:0<=x3)(a4:0<=y3)(e1:x1=x2+x3)(e2:y1=y2+y3):False:=by
 subst e1 e2
 have:=T1 hd a1 a3 a2 a4 h2 h3
 omega
theorem Rx{d a b p q u v:Int}(h:av d)(h1:P d a b)(h2:P d p q)(h3:P d u v)(e1:a+p+u=0)(e2:b+q+v=0):False:=by
 have hd:0<d:=by have:=h.1;omega
 unfold P at h1 h2 h3
 have x1:∀{u c:Int},u*u<c->-u * -u<c:=fun {u c} e=>by grind
 have x2:∀{u c:Int},c<u*u->c < -u * -u:=fun {u c} e=>by grind
 have x3:∀{u c:Int},c<d*u*u->c<d * -u * -u:=fun {u c} e=>by grind
 have x4:∀{u c:Int},d*u*u<c->d * -u * -u<c:=fun {u c} e=>by grind
 rcases h1 with ⟨u1,u2,u3⟩|⟨u1,u2,u3⟩|⟨u1,u2,u3⟩<;>rcases h2 with ⟨v1,v2,v3⟩|⟨v1,v2,v3⟩|⟨v1,v2,v3⟩<;>rcases h3 with ⟨w1,w2,w3⟩|⟨w1,w2,w3⟩|⟨w1,w2,w3⟩<;>(try omega)
 all_goals first
  |exact Z1 hd (x1 u3) (x4 v3) ∅ ∅ ∅ ∅
  |exact Z1 hd (x1 v3) (x4 u3) ∅ ∅ ∅ ∅
  |exact Z1 hd (x1 u3) (x4 w3) ∅ ∅ ∅ ∅
  |exact Z1 hd (x1 w3) (x4 u3) ∅ ∅ ∅ ∅
  |exact Z1 hd (x1 v3) (x4 w3) ∅ ∅ ∅ ∅
  |exact Z1 hd (x1 w3) (x4 v3) ∅ ∅ ∅ ∅
  |exact Z2 hd (x1 u3) (x4 v3) (x4 w3) ∅ ∅ ∅ ∅ ∅ ∅
  |exact Z2 hd (x1 v3) (x4 u3) (x4 w3) ∅ ∅ ∅ ∅ ∅ ∅
  |exact Z2 hd (x1 w3) (x4 u3) (x4 v3) ∅ ∅ ∅ ∅ ∅ ∅
  |exact Z3 hd (x4 u3) (x1 v3) (x1 w3) ∅ ∅ ∅ ∅ ∅ ∅
  |exact Z3 hd (x4 v3) (x1 u3) (x1 w3) ∅ ∅ ∅ ∅ ∅ ∅
  |exact Z3 hd (x4 w3) (x1 u3) (x1 v3) ∅ ∅ ∅ ∅ ∅ ∅
theorem N7{d a b p q:Int}(h:av d)(h1:P d a b)(h2:P d p q):P d (a+p) (b+q):=by
 rcases Rk (a:=a+p) (b:=b+q) h with ⟨e1,e2⟩|e|e
 ·have ea:p = -a:=by omega
  have eb:q = -b:=by omega
  subst ea eb
  have s1:=(dS h).mpr h1
  have s2:=(dS h).mpr h2
  rw[rH h,s1] at s2
  omega
 ·exact e
 ·exact (Rx h h1 h2 e ∅ ∅).elim
theorem Hf{d a b p q:Int}(h:av d):sg d (a*p+d*b*q) (a*q+b*p)=sg d a b*sg d p q:=by
 by_cases h1:a=0/\b=0
 ·obtain⟨rfl,rfl⟩:=h1
  have e:sg d (0:Int) 0=0:=dZ.mpr ⟨rfl,rfl⟩
  rw[e];simp[dZ]
 by_cases h2:p=0/\q=0
 ·obtain⟨rfl,rfl⟩:=h2
  have e:sg d (0:Int) 0=0:=dZ.mpr ⟨rfl,rfl⟩
  rw[e];simp[dZ]
 have k:=RR h h1 h2
 have h3:¬ (a*p+d*b*q=0/\a*q+b*p=0):=fun ⟨e1,e2⟩=>by
  have id1:(a*p+d*b*q)*(a*p+d*b*q)-d*(a*q+b*p)*(a*q+b*p)=(a*a-d*b*b)*(p*p-d*q*q):=by grind
  rw[e1,e2] at id1
  simp only[Int.mul_zero,Int.sub_self] at id1
  rcases Int.mul_eq_zero.mp id1.symm with z|z
  ·exact h1 (h.Cs ∅)
  ·exact h2 (h.Cs ∅)
 rw[<- dS h,<- dS h,<- dS h] at k
 have t1:=mV d a b
 have t2:=mV d p q
 have t3:=mV d (a*p+d*b*q) (a*q+b*p)
 have z1:sg d a b≠0:=fun z=>h1 (dZ.mp z)
 have z2:sg d p q≠0:=fun z=>h2 (dZ.mp z)
 have z3:sg d (a*p+d*b*q) (a*q+b*p)≠0:=fun z=>h3 (dZ.mp z)
 rcases t1 with e|e|e<;>rcases t2 with f|f|f<;>rcases t3 with g|g|g<;>simp_all
theorem l6{d a b k:Int}(h:av d)(hk:0<k):sg d (k*a) (k*b)=sg d a b:=by
 have e:=Hf (a:=k) (b:=0) (p:=a) (q:=b) h
 have e1:sg d k 0=1:=by unfold sg;rw[if_neg ∅,if_pos ∅]
 rw[e1] at e
 simpa using e
end NM
namespace L2
open PySem PySem.Spec PyProof.Rows
section
variable {X:Cx}{pins:List (Addr×Obj)}{Y:St}{H:Hp}{s:Shared}{a:Addr}{y v:V}{u r:Value}{o:Option V}{A:Around}{E:Value->Shared->Prop}
theorem Inv.big(I:Inv X pins Y H s):sysModules<s.heap.objs.size:=by
 have h:mainGlobals<s.heap.objs.size:=(I.mod.glob.keeps I.bk).lt
 exact Nat.lt_trans ⋯ h
end
end L2
namespace NM
structure Rep(x:N3)(A B C:Int):Prop where
 c:C≠0
 a:x.a*C=A*x.c
 b:x.b*C=B*x.c
section
variable {x y:N3}{A B C A' B' C' d:Int}
theorem aK(h:Ok x):Rep x x.a x.b x.c:=⟨h.cn,rfl,rfl⟩
theorem kQ{a b c:Int}(h:c≠0):Rep (low a b c) a b c:=by
 obtain⟨k,hk,_,p1,p2,p3,_⟩:=iX a b h
 generalize low a b c=z at *
 exact⟨h,by grind,by grind⟩
theorem Rep.eq(ox:Ok x)(oy:Ok y)(h:Rep x A B C)(g:Rep y A' B' C')(e1:A*C'=A'*C)(e2:B*C'=B'*C):x=y:=by
 have hc:C*C'≠0:=mul_ne_zero h.c g.c
 obtain⟨_,h1,h2⟩:=h
 obtain⟨_,g1,g2⟩:=g
 exact ox.same oy (eq_of_mul_eq_mul_right hc (by grind)) (eq_of_mul_eq_mul_right hc (by grind))
theorem Rep.minus(h:Rep x A B C):Rep (minus x) (-A) (-B) C:=⟨h.c,by show -x.a*C = -A*x.c;have:=h.a;grind,by show -x.b*C = -B*x.c;have:=h.b;grind⟩
theorem Rep.plus(ox:Ok x)(oy:Ok y)(h:Rep x A B C)(g:Rep y A' B' C'):Rep (plus x y) (A*C'+A'*C) (B*C'+B'*C) (C*C'):=by
 have hc:=rG ox oy
 obtain⟨_,q1,q2⟩:=kQ (a:=x.a*y.c+y.a*x.c) (b:=x.b*y.c+y.b*x.c) hc
 obtain⟨hc1,h1,h2⟩:=h
 obtain⟨hc2,g1,g2⟩:=g
 change (NM.plus x y).a*(x.c*y.c)=_*(NM.plus x y).c at q1
 change (NM.plus x y).b*(x.c*y.c)=_*(NM.plus x y).c at q2
 generalize NM.plus x y=z at *
 exact⟨mul_ne_zero hc1 hc2,eq_of_mul_eq_mul_right hc (by grind),eq_of_mul_eq_mul_right hc (by grind)⟩
theorem Rep.less(ox:Ok x)(oy:Ok y)(h:Rep x A B C)(g:Rep y A' B' C'):Rep (less x y) (A*C'-A'*C) (B*C'-B'*C) (C*C'):=by
 have hc:=rG ox oy
 obtain⟨_,q1,q2⟩:=kQ (a:=x.a*y.c-y.a*x.c) (b:=x.b*y.c-y.b*x.c) hc
 obtain⟨hc1,h1,h2⟩:=h
 obtain⟨hc2,g1,g2⟩:=g
 change (NM.less x y).a*(x.c*y.c)=_*(NM.less x y).c at q1
 change (NM.less x y).b*(x.c*y.c)=_*(NM.less x y).c at q2
 generalize NM.less x y=z at *
 exact⟨mul_ne_zero hc1 hc2,eq_of_mul_eq_mul_right hc (by grind),eq_of_mul_eq_mul_right hc (by grind)⟩
theorem Rep.times(ox:Ok x)(oy:Ok y)(h:Rep x A B C)(g:Rep y A' B' C'):Rep (times d x y) (A*A'+d*B*B') (A*B'+B*A') (C*C'):=by
 have hc:=rG ox oy
 obtain⟨_,q1,q2⟩:=kQ (a:=x.a*y.a+d*x.b*y.b) (b:=x.a*y.b+x.b*y.a) hc
 obtain⟨hc1,h1,h2⟩:=h
 obtain⟨hc2,g1,g2⟩:=g
 change (NM.times d x y).a*(x.c*y.c)=_*(NM.times d x y).c at q1
 change (NM.times d x y).b*(x.c*y.c)=_*(NM.times d x y).c at q2
 generalize NM.times d x y=z at *
 exact⟨mul_ne_zero hc1 hc2,eq_of_mul_eq_mul_right hc (by grind),eq_of_mul_eq_mul_right hc (by grind)⟩
theorem Rep.norm(h:Rep x A B C):NM.norm d x*(C*C)=(A*A-d*B*B)*(x.c*x.c):=by
 obtain⟨_,h1,h2⟩:=h
 unfold NM.norm
 have e1:x.a*x.a*(C*C)=A*A*(x.c*x.c):=by
  have:(x.a*C)*(x.a*C)=(A*x.c)*(A*x.c):=by rw[h1]
  grind
 have e2:x.b*x.b*(C*C)=B*B*(x.c*x.c):=by
  have:(x.b*C)*(x.b*C)=(B*x.c)*(B*x.c):=by rw[h2]
  grind
 grind
theorem Rep.aS(ox:Ok x)(hn:NM.norm d x≠0)(h:Rep x A B C):Rep (aS d x) (C*A) (-C*B) (A*A-d*B*B):=by
 have hN:=h.norm (d:=d)
 have hcc:x.c*x.c≠0:=mul_ne_zero ox.cn ox.cn
 have hN0:A*A-d*B*B≠0:=fun z=>by
  rw[z,Int.zero_mul] at hN
  rcases Int.mul_eq_zero.mp hN with w|w
  ·exact hn w
  ·rcases Int.mul_eq_zero.mp w with w|w<;>exact h.c w
 obtain⟨_,q1,q2⟩:=kQ (a:=x.c*x.a) (b:=-x.c*x.b) hn
 change (NM.aS d x).a*NM.norm d x=_*(NM.aS d x).c at q1
 change (NM.aS d x).b*NM.norm d x=_*(NM.aS d x).c at q2
 obtain⟨hc1,h1,h2⟩:=h
 generalize NM.aS d x=z at *
 generalize NM.norm d x=n at *
 generalize A*A-d*B*B=m at *
 refine⟨hN0,?_,?_⟩
 ·have e:z.a*m*(x.c*x.c)=C*A*z.c*(x.c*x.c):=by grind
  exact eq_of_mul_eq_mul_right hcc e
 ·have e:z.b*m*(x.c*x.c) = -C*B*z.c*(x.c*x.c):=by grind
  exact eq_of_mul_eq_mul_right hcc e
theorem Rep.sg(hd:av d)(ox:Ok x)(h:Rep x A B C)(hC:0<C):sg d x.a x.b=NM.sg d A B:=by
 have e1:=l6 (a:=x.a) (b:=x.b) hd hC
 have e2:=l6 (a:=A) (b:=B) hd ox.c
 rw[show C*x.a=x.c*A by have:=h.a;grind,show C*x.b=x.c*B by have:=h.b;grind] at e1
 rw[<- e1,e2]
end
end NM
namespace NM
noncomputable def Ij(d:Int)(x:N3):N3:=times d (times d (plus x (MO x)) (plus x (MO x))) (aS d (times d x (MO x)))
section
variable {d:Int}{x y z:N3}
theorem vi{a b c:Int}(h:av d)(hc:0<c):sg d (low a b c).a (low a b c).b=sg d a b:=(kQ (show c≠0 by omega)).sg h (jd _ _ ∅) hc
theorem vz(h:av d)(ox:Ok x)(oy:Ok y):sg d (times d x y).a (times d x y).b=sg d x.a x.b*sg d y.a y.b:=by
 unfold times
 rw[vi h (mul_pos ox.c oy.c),Hf h]
theorem Im:sg d one.a one.b=1:=by
 unfold one sg
 rw[if_neg (by simp),if_pos (by simp)]
theorem mL(h:av d)(ox:Ok x)(hx:sg d x.a x.b=1):norm d x≠0:=h.norm ox (fun e=>by subst e;have:sg d fF.a fF.b=0:=dZ.mpr ⟨rfl,rfl⟩;omega)
theorem pZ(ox:Ok x)(hn:norm d x≠0):times d x (aS d x)=one:=by
 have oc:=dR hn
 exact ((aK ox).times ox oc ((aK ox).aS ox hn)).eq (bL ox oc) Hi (aK Hi) (by simp only[one];grind) (by simp only[one];grind)
theorem qp(h:av d)(ox:Ok x)(hx:sg d x.a x.b=1):sg d (aS d x).a (aS d x).b=1:=by
 have hn:=mL h ox hx
 have e:=vz h ox (dR hn)
 rw[pZ ox hn,Im,hx] at e
 omega
theorem PH{n:Int}:sg d n 0=if n=0 then 0 else if 0<n then 1 else -1:=by
 unfold sg
 by_cases h:n=0
 ·simp[h]
 ·rcases lt_or_gt_of_ne h with z|z
  ·rw[if_neg ∅,if_neg ∅,if_pos ∅,if_neg h,if_neg ∅]
  ·rw[if_neg ∅,if_pos ∅,if_neg h,if_pos ∅]
noncomputable def W(x y:N3):Int:=x.b*y.a-x.a*y.b
noncomputable def Mz(d:Int)(x y:N3):Int:=sg d (x.a*y.c-y.a*x.c) (x.b*y.c-y.b*x.c)
theorem Fm(h:av d)(ox:Ok x)(oy:Ok y):sg d (less x y).a (less x y).b=Mz d x y:=by
 unfold less Mz
 rw[vi h (mul_pos ox.c oy.c)]
end
end NM
namespace NM
noncomputable def Ht(d:Int)(n:Nat)(x:N3):Prop:=∃a b e f:Int,Sz n a/\Sz n b/\Sz n e/\Sz n f/\e*e-d*f*f≠0/\x.a*e+d*x.b*f=a*x.c/\x.a*f+x.b*e=b*x.c
section
variable {d:Int}{n m:Nat}{x y:N3}
theorem Ht.mono(h:Ht d n x)(l:n<=m):Ht d m x:=by
 obtain⟨a,b,e,f,h1,h2,h3,h4,r⟩:=h
 exact⟨a,b,e,f,h1.mono l,h2.mono l,h3.mono l,h4.mono l,r⟩
theorem sz0:Sz n 0:=Sz.of (by simp;exact Nat.pos_of_ne_zero (by simp))
theorem HJ(ox:Ok x)(h:Bd n x):Ht d n x:=by
 refine⟨x.a,x.b,x.c,0,h.a,h.b,h.c,sz0,?_,by grind,by grind⟩
 have:=mul_ne_zero ox.cn ox.cn
 grind
theorem Fd(ox:Ok x)(hn:norm d x≠0)(h:Ht d n x):Ht d n (aS d x):=by
 obtain⟨a,b,e,f,h1,h2,h3,h4,hN,q1,q2⟩:=h
 have r:=(aK ox).aS (d:=d) ox hn
 have oc:=ox.cn
 refine⟨e,f,a,b,h3,h4,h1,h2,?_,?_,?_⟩
 ·intro z
  have:(x.a*x.a-d*x.b*x.b)*(e*e-d*f*f)=(a*a-d*b*b)*(x.c*x.c):=by
   have e1:(a*x.c)*(a*x.c)-d*((b*x.c)*(b*x.c))=(x.a*x.a-d*x.b*x.b)*(e*e-d*f*f):=by rw[<- q1,<- q2];grind
   grind
  rw[z,Int.zero_mul] at this
  rcases Int.mul_eq_zero.mp this with w|w
  ·exact hn w
  ·exact hN w
 ·have hc:=r.c
  generalize aS d x=y at *
  obtain⟨_,r1,r2⟩:=r
  have hk:(x.a*x.a-d*x.b*x.b)*x.c≠0:=mul_ne_zero hc oc
  apply eq_of_mul_eq_mul_right hk
  have s1:(y.a*a+d*y.b*b)*((x.a*x.a-d*x.b*x.b)*x.c)=(y.a*(x.a*x.a-d*x.b*x.b))*(a*x.c)+d*(y.b*(x.a*x.a-d*x.b*x.b))*(b*x.c):=by grind
  rw[s1,r1,r2,<- q1,<- q2]
  grind
 ·have hc:=r.c
  generalize aS d x=y at *
  obtain⟨_,r1,r2⟩:=r
  have hk:(x.a*x.a-d*x.b*x.b)*x.c≠0:=mul_ne_zero hc oc
  apply eq_of_mul_eq_mul_right hk
  have s1:(y.a*b+y.b*a)*((x.a*x.a-d*x.b*x.b)*x.c)=(y.a*(x.a*x.a-d*x.b*x.b))*(b*x.c)+(y.b*(x.a*x.a-d*x.b*x.b))*(a*x.c):=by grind
  rw[s1,r1,r2,<- q1,<- q2]
  grind
theorem J1(d e f e' f':Int):(e*e'+d*f*f')*(e*e'+d*f*f')-d*(e*f'+f*e')*(e*f'+f*e')=(e*e-d*f*f)*(e'*e'-d*f'*f'):=by grind
theorem szm(hd:Sz 5 d){p q r s:Int}(hp:Sz n p)(hq:Sz n q)(hr:Sz m r)(hs:Sz m s):Sz (n+m+6) (p*r+d*q*s):=by
 have e1:=(hp.mul hr).mono (m:=n+m+5) ∅
 have e2:=((hd.mul hq).mul hs).mono (m:=n+m+5) ∅
 exact e1.add e2
theorem szx{p q r s:Int}(hp:Sz n p)(hq:Sz n q)(hr:Sz m r)(hs:Sz m s):Sz (n+m+6) (p*s+q*r):=((hp.mul hs).add (hq.mul hr)).mono ∅
theorem LY(hd:Sz 5 d)(ox:Ok x)(oy:Ok y)(h:Ht d n x)(g:Ht d m y):Ht d (n+m+7) (plus x y):=by
 obtain⟨a,b,e,f,h1,h2,h3,h4,hN,p1,p2⟩:=h
 obtain⟨a',b',e',f',g1,g2,g3,g4,gN,q1,q2⟩:=g
 have hc:=rG ox oy
 obtain⟨_,r1,r2⟩:=kQ (a:=x.a*y.c+y.a*x.c) (b:=x.b*y.c+y.b*x.c) hc
 change (plus x y).a*(x.c*y.c)=_*(plus x y).c at r1
 change (plus x y).b*(x.c*y.c)=_*(plus x y).c at r2
 generalize plus x y=z at *
 refine⟨(a*e'+d*b*f')+(a'*e+d*b'*f),(a*f'+b*e')+(a'*f+b'*e),e*e'+d*f*f',e*f'+f*e',(szm hd h1 h2 g3 g4).add ((szm hd g1 g2 h3 h4).mono ∅),(szx h1 h2 g3 g4).add ((szx g1 g2 h3 h4).mono ∅),(szm hd h3 h4 g3 g4).mono ∅,(szx h3 h4 g3 g4).mono ∅,?_,?_,?_⟩
 ·rw[J1];exact mul_ne_zero hN gN
 ·apply eq_of_mul_eq_mul_right hc
  have s1:(z.a*(e*e'+d*f*f')+d*z.b*(e*f'+f*e'))*(x.c*y.c)=(z.a*(x.c*y.c))*(e*e'+d*f*f')+d*(z.b*(x.c*y.c))*(e*f'+f*e'):=by grind
  have s2:(a*e'+d*b*f'+(a'*e+d*b'*f))*z.c*(x.c*y.c)=((a*x.c)*e'*y.c+d*(b*x.c)*f'*y.c+((a'*y.c)*e*x.c+d*(b'*y.c)*f*x.c))*z.c:=by grind
  rw[s1,s2,r1,r2,<- p1,<- p2,<- q1,<- q2]
  grind
 ·apply eq_of_mul_eq_mul_right hc
  have s1:(z.a*(e*f'+f*e')+z.b*(e*e'+d*f*f'))*(x.c*y.c)=(z.a*(x.c*y.c))*(e*f'+f*e')+(z.b*(x.c*y.c))*(e*e'+d*f*f'):=by grind
  have s2:(a*f'+b*e'+(a'*f+b'*e))*z.c*(x.c*y.c)=((a*x.c)*f'*y.c+(b*x.c)*e'*y.c+((a'*y.c)*f*x.c+(b'*y.c)*e*x.c))*z.c:=by grind
  rw[s1,s2,r1,r2,<- p1,<- p2,<- q1,<- q2]
  grind
theorem LI(hd:Sz 5 d)(ox:Ok x)(oy:Ok y)(h:Ht d n x)(g:Ht d m y):Ht d (n+m+6) (times d x y):=by
 obtain⟨a,b,e,f,h1,h2,h3,h4,hN,p1,p2⟩:=h
 obtain⟨a',b',e',f',g1,g2,g3,g4,gN,q1,q2⟩:=g
 have hc:=rG ox oy
 obtain⟨_,r1,r2⟩:=kQ (a:=x.a*y.a+d*x.b*y.b) (b:=x.a*y.b+x.b*y.a) hc
 change (times d x y).a*(x.c*y.c)=_*(times d x y).c at r1
 change (times d x y).b*(x.c*y.c)=_*(times d x y).c at r2
 generalize times d x y=z at *
 refine⟨a*a'+d*b*b',a*b'+b*a',e*e'+d*f*f',e*f'+f*e',szm hd h1 h2 g1 g2,szx h1 h2 g1 g2,szm hd h3 h4 g3 g4,szx h3 h4 g3 g4,?_,?_,?_⟩
 ·rw[J1];exact mul_ne_zero hN gN
 ·apply eq_of_mul_eq_mul_right hc
  have s1:(z.a*(e*e'+d*f*f')+d*z.b*(e*f'+f*e'))*(x.c*y.c)=(z.a*(x.c*y.c))*(e*e'+d*f*f')+d*(z.b*(x.c*y.c))*(e*f'+f*e'):=by grind
  have s2:(a*a'+d*b*b')*z.c*(x.c*y.c)=((a*x.c)*(a'*y.c)+d*(b*x.c)*(b'*y.c))*z.c:=by grind
  rw[s1,s2,r1,r2,<- p1,<- p2,<- q1,<- q2]
  grind
 ·apply eq_of_mul_eq_mul_right hc
  have s1:(z.a*(e*f'+f*e')+z.b*(e*e'+d*f*f'))*(x.c*y.c)=(z.a*(x.c*y.c))*(e*f'+f*e')+(z.b*(x.c*y.c))*(e*e'+d*f*f'):=by grind
  have s2:(a*b'+b*a')*z.c*(x.c*y.c)=((a*x.c)*(b'*y.c)+(b*x.c)*(a'*y.c))*z.c:=by grind
  rw[s1,s2,r1,r2,<- p1,<- p2,<- q1,<- q2]
  grind
theorem KL(hd:Sz 5 d)(ox:Ok x)(h:Ht d n x):Bd (2*n+6) x:=by
 obtain⟨a,b,e,f,h1,h2,h3,h4,hN,p1,p2⟩:=h
 have ex:x=NM.low (a*e-d*b*f) (b*e-a*f) (e*e-d*f*f):=by
  refine ox.Qc hN ?_ ?_
  ·have s1:(a*e-d*b*f)*x.c=(a*x.c)*e-d*(b*x.c)*f:=by grind
   rw[s1,<- p1,<- p2];grind
  ·have s1:(b*e-a*f)*x.c=(b*x.c)*e-(a*x.c)*f:=by grind
   rw[s1,<- p1,<- p2];grind
 have sub:∀{p q r s:Int},Sz n p->Sz n q->Sz n r->Sz n s->Sz (2*n+6) (p*r-d*q*s):=fun hp hq hr hs=>by
  have e1:=(hp.mul hr).mono (m:=2*n+5) ∅
  have e2:=((hd.mul hq).mul hs).mono (m:=2*n+5) ∅
  exact e1.sub e2
 rw[ex]
 exact jg hN (sub h1 h2 h3 h4) (((h2.mul h3).sub ((h1.mul h4).mono ∅)).mono ∅) (sub h3 h4 h3 h4)
theorem zO(h:av d)(ox:Ok x)(oy:Ok y)(hx:x=fF\/sg d x.a x.b=1)(hy:sg d y.a y.b=1):sg d (plus x y).a (plus x y).b=1:=by
 have e:sg d (plus x y).a (plus x y).b=sg d (x.a*y.c+y.a*x.c) (x.b*y.c+y.b*x.c):=vi h (mul_pos ox.c oy.c)
 rw[e]
 rcases hx with rfl|hx
 ·have e1:fF.a*y.c+y.a*fF.c=y.a:=by show 0*y.c+y.a*1=y.a;omega
  have e2:fF.b*y.c+y.b*fF.c=y.b:=by show 0*y.c+y.b*1=y.b;omega
  rw[e1,e2];exact hy
 ·have p1:P d (y.c*x.a) (y.c*x.b):=(dS h).mp (by rw[l6 h oy.c];exact hx)
  have p2:P d (x.c*y.a) (x.c*y.b):=(dS h).mp (by rw[l6 h ox.c];exact hy)
  have:=(dS h).mpr (N7 h p1 p2)
  have e1:x.a*y.c+y.a*x.c=y.c*x.a+x.c*y.a:=by grind
  have e2:x.b*y.c+y.b*x.c=y.c*x.b+x.c*y.b:=by grind
  rw[e1,e2];exact this
end
end NM
set_option maxHeartbeats 1000000
namespace NM
end NM
set_option maxHeartbeats 4000000
namespace NM
end NM
set_option maxHeartbeats 400000
namespace NM
end NM
namespace NM
end NM
set_option maxHeartbeats 4000000
namespace NM
section
variable {d:Int}{x y z u p q s t w h p' q' s' t' w' h':N3}
noncomputable def hf(d:Int)(p q h:N3):N3:=plus (times d p h) (times d q (MO h))
end
end NM
namespace NM
section
variable {d:Int}{x y z:N3}
noncomputable def gtL(d:Int)(k o:N3):Prop:=((Ij d o).a.natAbs:Int)*(Ij d k).c<((Ij d k).a.natAbs:Int)*(Ij d o).c
noncomputable instance:Decidable (gtL d x y):=by unfold gtL;infer_instance
end
end NM
set_option maxHeartbeats 400000
namespace NM
section
variable {d:Int}{x y z k s o f u v:N3}
theorem vH(ox:Ok x)(oy:Ok y):times d x y=times d y x:=
 Rep.eq (bL ox oy) (bL oy ox) (Rep.times ox oy (aK ox) (aK oy)) (Rep.times oy ox (aK oy) (aK ox)) (by grind) (by grind)
theorem MD(ox:Ok x)(oy:Ok y)(oz:Ok z):times d (times d x y) z=times d x (times d y z):=
 Rep.eq (bL (bL ox oy) oz) (bL ox (bL oy oz)) (Rep.times (bL ox oy) oz (Rep.times ox oy (aK ox) (aK oy)) (aK oz)) (Rep.times ox (bL oy oz) (aK ox) (Rep.times oy oz (aK oy) (aK oz))) (by grind) (by grind)
end
end NM
set_option maxHeartbeats 4000000
namespace NM
section
variable {d:Int}{x y z:N3}
theorem OQ(ox:Ok x)(oy:Ok y):plus x y=plus y x:=
 Rep.eq (cA ox oy) (cA oy ox) (Rep.plus ox oy (aK ox) (aK oy)) (Rep.plus oy ox (aK oy) (aK ox)) (by grind) (by grind)
theorem Oe(ox:Ok x)(oy:Ok y)(oz:Ok z):plus (plus x y) z=plus x (plus y z):=
 Rep.eq (cA (cA ox oy) oz) (cA ox (cA oy oz)) (Rep.plus (cA ox oy) oz (Rep.plus ox oy (aK ox) (aK oy)) (aK oz)) (Rep.plus ox (cA oy oz) (aK ox) (Rep.plus oy oz (aK oy) (aK oz))) (by grind) (by grind)
theorem KO(ox:Ok x)(oy:Ok y)(oz:Ok z):times d x (plus y z)=plus (times d x y) (times d x z):=
 Rep.eq (bL ox (cA oy oz)) (cA (bL ox oy) (bL ox oz)) (Rep.times ox (cA oy oz) (aK ox) (Rep.plus oy oz (aK oy) (aK oz))) (Rep.plus (bL ox oy) (bL ox oz) (Rep.times ox oy (aK ox) (aK oy)) (Rep.times ox oz (aK ox) (aK oz))) (by grind) (by grind)
noncomputable def oN(n:Int):N3:=⟨n,0,1⟩
theorem da(n:Int):Ok (oN n):=⟨Int.le_refl 1,by show g3 n 0 1=1;unfold g3;simp⟩
theorem jb(n:Int):Rep (oN n) n 0 1:=aK (da n)
theorem Ql(ox:Ok x):plus x (oN 0)=x:=
 Rep.eq (cA ox (da 0)) ox (Rep.plus ox (da 0) (aK ox) (jb 0)) (aK ox) (by grind) (by grind)
theorem Lz(ox:Ok x):times d (oN 0) x=oN 0:=
 Rep.eq (bL (da 0) ox) (da 0) (Rep.times (da 0) ox (jb 0) (aK ox)) (jb 0) (by grind) (by grind)
theorem LA(ox:Ok x):times d x (oN 1)=x:=
 Rep.eq (bL ox (da 1)) ox (Rep.times ox (da 1) (aK ox) (jb 1)) (aK ox) (by grind) (by grind)
theorem Q8(ox:Ok x):plus (minus x) x=oN 0:=
 Rep.eq (cA (eI ox) ox) (da 0) (Rep.plus (eI ox) ox (Rep.minus (aK ox)) (aK ox)) (jb 0) (by grind) (by grind)
theorem Rg(ox:Ok x)(oy:Ok y):less x y=plus x (minus y):=
 Rep.eq (yg ox oy) (cA ox (eI oy)) (Rep.less ox oy (aK ox) (aK oy)) (Rep.plus ox (eI oy) (aK ox) (Rep.minus (aK oy))) (by grind) (by grind)
theorem Qh(n:Int)(ox:Ok x):times d (oN (-n)) x=minus (times d (oN n) x):=
 Rep.eq (bL (da (-n)) ox) (eI (bL (da n) ox)) (Rep.times (da _) ox (jb _) (aK ox)) (Rep.minus (Rep.times (da n) ox (jb n) (aK ox))) (by grind) (by grind)
theorem OC(n:Nat):oN ((n+1:Nat):Int)=plus (oN (n:Int)) (oN 1):=
 Rep.eq (da _) (cA (da _) (da _)) (jb _) (Rep.plus (da _) (da _) (jb _) (jb _)) (by push_cast;grind) (by grind)
end
structure RN(d:Int) where
 v:N3
 ok:Ok v
theorem RN.ext{d:Int}{x y:RN d}(h:x.v=y.v):x=y:=by cases x;cases y;cases h;rfl
noncomputable def Ov(d:Int)(a:RN d):Nat->RN d
 |0=>⟨oN 1,da 1⟩
 |n+1=>⟨times d (Ov d a n).v a.v,bL (Ov d a n).ok a.ok⟩
section
variable {d:Int}
noncomputable instance:Add (RN d):=⟨fun a b=>⟨plus a.v b.v,cA a.ok b.ok⟩⟩
noncomputable instance:Mul (RN d):=⟨fun a b=>⟨times d a.v b.v,bL a.ok b.ok⟩⟩
noncomputable instance:Neg (RN d):=⟨fun a=>⟨minus a.v,eI a.ok⟩⟩
noncomputable instance:Sub (RN d):=⟨fun a b=>⟨less a.v b.v,yg a.ok b.ok⟩⟩
noncomputable instance:NatCast (RN d):=⟨fun n=>⟨oN n,da n⟩⟩
noncomputable instance:IntCast (RN d):=⟨fun n=>⟨oN n,da n⟩⟩
noncomputable instance (n:Nat):OfNat (RN d) n:=⟨⟨oN n,da n⟩⟩
noncomputable instance:SMul Nat (RN d):=⟨fun n a=>⟨times d (oN n) a.v,bL (da n) a.ok⟩⟩
noncomputable instance:SMul Int (RN d):=⟨fun n a=>⟨times d (oN n) a.v,bL (da n) a.ok⟩⟩
noncomputable instance:HPow (RN d) Nat (RN d):=⟨Ov d⟩
noncomputable instance:Lean.Grind.CommRing (RN d) where
 add_zero a:=RN.ext (Ql a.ok)
 add_comm a b:=RN.ext (OQ a.ok b.ok)
 add_assoc a b c:=RN.ext (Oe a.ok b.ok c.ok)
 mul_assoc a b c:=RN.ext (MD a.ok b.ok c.ok)
 mul_one a:=RN.ext (LA a.ok)
 one_mul a:=RN.ext ((vH (da 1) a.ok).trans (LA a.ok))
 left_distrib a b c:=RN.ext (KO a.ok b.ok c.ok)
 right_distrib a b c:=RN.ext ((vH (cA a.ok b.ok) c.ok).trans ((KO c.ok a.ok b.ok).trans (by rw[vH c.ok a.ok,vH c.ok b.ok];rfl)))
 zero_mul a:=RN.ext (Lz a.ok)
 mul_zero a:=RN.ext ((vH a.ok (da 0)).trans (Lz a.ok))
 mul_comm a b:=RN.ext (vH a.ok b.ok)
 pow_zero a:=rfl
 pow_succ a n:=rfl
 ofNat_succ n:=RN.ext (OC n)
 ofNat_eq_natCast n:=rfl
 nsmul_eq_natCast_mul n a:=rfl
 neg_add_cancel a:=RN.ext (Q8 a.ok)
 sub_eq_add_neg a b:=RN.ext (Rg a.ok b.ok)
 neg_zsmul i a:=RN.ext (Qh i a.ok)
 zsmul_natCast_eq_nsmul n a:=rfl
 intCast_ofNat n:=rfl
 intCast_neg i:=RN.ext rfl
end
section
variable {d:Int}{a b c:RN d}
noncomputable def ps(a:RN d):Prop:=sg d a.v.a a.v.b=1
noncomputable def nn(a:RN d):Prop:=¬ ps (-a)
theorem Qw(hd:av d)(a:RN d):sg d (-a).v.a (-a).v.b = - sg d a.v.a a.v.b:=rH hd
theorem OD(hd:av d)(ha:ps a)(hb:ps b):ps (a+b):=zO hd a.ok b.ok (.inr ha) hb
theorem dH(hd:av d)(ha:ps a)(hb:ps b):ps (a*b):=by
 show sg d (times d a.v b.v).a (times d a.v b.v).b=1
 rw[vz hd a.ok b.ok,show sg d a.v.a a.v.b=1 from ha,show sg d b.v.a b.v.b=1 from hb];rfl
theorem Jb:¬ ps (0:RN d):=fun h=>by
 have:sg d (0:Int) 0=1:=h
 rw[dZ.mpr ⟨rfl,rfl⟩] at this;omega
theorem Oc(hd:av d)(h:ps a):¬ ps (-a):=fun g=>by
 have e:=Qw hd a
 rw[show sg d a.v.a a.v.b=1 from h,show sg d (-a).v.a (-a).v.b=1 from g] at e;omega
theorem Qq(hd:av d)(a:RN d):a=0\/ps a\/ps (-a):=by
 rcases mV d a.v.a a.v.b with e|e|e
 ·obtain⟨h1,h2⟩:=dZ.mp e
  exact .inl (RN.ext (a.ok.same (da 0) (by rw[h1];show 0*_=0*_;omega) (by rw[h2];show 0*_=0*_;omega)))
 ·exact .inr (.inl e)
 ·exact .inr (.inr (by show sg d (-a).v.a (-a).v.b=1;rw[Qw hd a,e];rfl))
theorem fE(hd:av d)(h:ps a):nn a:=Oc hd h
theorem LB:nn (0:RN d):=fun h=>Jb ((show -(0:RN d)=0 by grind)▸h)
theorem qT(hd:av d)(h:nn a):a=0\/ps a:=by
 rcases Qq hd a with e|e|e
 ·exact .inl e
 ·exact .inr e
 ·exact absurd e h
theorem Ah(hd:av d)(ha:ps a)(hb:nn b):ps (a+b):=by
 rcases qT hd hb with e|e
 ·rw[e,show a+0=a by grind];exact ha
 ·exact OD hd ha e
theorem nT(hd:av d)(ha:nn a)(hb:nn b):nn (a+b):=by
 rcases qT hd ha with e|e
 ·rw[e,show 0+b=b by grind];exact hb
 ·exact fE hd (Ah hd e hb)
theorem jj(hd:av d)(ha:nn a)(hb:nn b):nn (a*b):=by
 rcases qT hd ha with e|e
 ·rw[e,show 0*b=0 by grind];exact LB
 ·rcases qT hd hb with e'|e'
  ·rw[e',show a*0=0 by grind];exact LB
  ·exact fE hd (dH hd e e')
theorem F9(h:ps a)(g:nn b)(e:a+b=0):False:=g (by rwa [show -b=a by grind])
theorem cm(h:0<(n:Int)):ps ((n:Int):RN d):=by
 show sg d n 0=1
 rw[PH,if_neg ∅,if_pos h]
theorem tR(hd:av d)(h:0<=(n:Int)):nn ((n:Int):RN d):=by
 rcases Int.lt_or_eq_of_le h with z|z
 ·exact fE hd (cm z)
 ·rw[<- z];exact LB
theorem E7(m n:Int):((m+n:Int):RN d)=(m:RN d)+(n:RN d):=Lean.Grind.Ring.intCast_add m n
theorem zK(m n:Int):((m-n:Int):RN d)=(m:RN d)-(n:RN d):=Lean.Grind.Ring.intCast_sub m n
theorem GI:((1:Int):RN d)=1:=rfl
noncomputable def inv(a:RN d):RN d:=if h:norm d a.v≠0 then ⟨aS d a.v,dR h⟩ else 0
theorem qH(hd:av d)(h:ps a):norm d a.v≠0:=mL hd a.ok h
theorem qU(hd:av d)(h:ps a):(inv a).v=aS d a.v:=by unfold inv;rw[dif_pos (qH hd h)]
theorem inv_mul(hd:av d)(h:ps a):a*inv a=1:=RN.ext (by
 show times d a.v (inv a).v=_
 rw[qU hd h];exact pZ a.ok (qH hd h))
theorem fH(hd:av d)(h:ps a):ps (inv a):=by
 show sg d (inv a).v.a (inv a).v.b=1
 rw[qU hd h];exact qp hd a.ok h
theorem Et(hd:av d){m n:Int}(hn:0<n):low m 0 n=((m:RN d)*inv (n:RN d)).v:=by
 have r:=Rep.times (d:=d) (da m) (inv (n:RN d)).ok (jb m) (by
  rw[qU hd (cm hn)]
  exact (jb n).aS (da n) (qH hd (cm (d:=d) hn)))
 exact Rep.eq (jd _ _ ∅) ((m:RN d)*inv (n:RN d)).ok (kQ ∅) r (by grind) (by grind)
end
end NM
namespace L2.DL
open PySem PySem.Spec PyProof.Rows
inductive Box where
 |dict (kvs:List (List Int×PyData))
 |set (ks:List (List Int))
structure Mu where
 l:Addr->Option (List PyData)
 b:Addr->Option Box
noncomputable instance:CoeFun Mu fun _=>Addr->Option (List PyData):=⟨Mu.l⟩
noncomputable abbrev PQ:=PySem.W.Frag->V->Mu->Hp->Prop
inductive D where
 |v (x:PyData)
 |m (a:Addr)
 |s (ns:List Int)
  /-- an object that is handed on -/
 |o (a:Addr)
  /-- a dict or a set -/
 |b (a:Addr)
  /-- a thing of which something is known that stays -/
 |q (P:PQ)
noncomputable abbrev Rho:=List (Option D)
noncomputable def bD(U:Mu)(a:Addr)(ds:List PyData):Mu:=⟨fun b=>if b=a then some ds else U b,U.b⟩
theorem bg{U:Mu}{a:Addr}{ds}:bD U a ds a=some ds:=if_pos rfl
theorem aV{U:Mu}{a b:Addr}{ds}(h:b≠a):bD U a ds b=U b:=if_neg h
noncomputable def wJ(U:Mu)(a:Addr)(c:Box):Mu:=⟨U.l,fun b=>if b=a then some c else U.b b⟩
theorem Mu.eq{U ν:Mu}(h1:∀b,U b=ν b)(h2:∀b,U.b b=ν.b b):U=ν:=by
 obtain⟨l,b⟩:=U;obtain⟨l',b'⟩:=ν
 cases (funext h1:l=l');cases (funext h2:b=b');rfl
theorem qy{U:Mu}{a:Addr}{ds es}:bD (bD U a ds) a es=bD U a es:=Mu.eq (fun b=>by
 by_cases h:b=a
 ·subst h;rw[bg,bg]
 ·rw[aV h,aV h,aV h]) fun _=>rfl
mutual
inductive Rp(K:PySem.W.Frag)(U:Mu)(H:Hp):PyData->V->Prop
 |none:Rp K U H .none .non
 |bool (b:Bool):Rp K U H (.bool b) (.bl b)
 |int (i:Int):Rp K U H (.int i) (.int i)
 |str (x:Str):Rp K U H (.str x) (.str x)
 |list {a:Addr} {xs:List V} {ds:List PyData}:H a=some (.lst xs)->U a=Option.none->RpL K U H ds xs->Rp K U H (.list ds) (.ref a)
 |tuple {a:Addr} {xs:List V} {ds:List PyData}:SqT K H a xs->RpL K U H ds xs->Rp K U H (.tuple ds) (.ref a)
inductive RpL(K:PySem.W.Frag)(U:Mu)(H:Hp):List PyData->List V->Prop
 |nil:RpL K U H [] []
 |cons {d:PyData} {v:V} {ds:List PyData} {vs:List V}:Rp K U H d v->RpL K U H ds vs->RpL K U H (d::ds) (v::vs)
end
noncomputable def NT:HO->Prop
 |.tbl _=>False
 |.raw _=>False
 |_=>True
structure Ext(K:PySem.W.Frag)(U:Mu)(H:Hp)(O:Mu)(H':Hp):Prop where
 keep:∀b o,H b=some o->U b=none->NT o->H' b=some o
 tb:∀b ps,H b=some (.tbl ps)->U b=none->∃ps',H' b=some (.tbl ps')
 dom:∀b ds,U b=some ds->∃es,O b=some es
 fresh:∀b,U b=none->(H b≠none\/K.lookup b≠none)->O b=none
 st:∀b o,H b=some o->U b=none->∃o',H' b=some o'
 bx:∀b c,U.b b=some c->∃c',O.b b=some c'
noncomputable def RpD(K:PySem.W.Frag)(U:Mu)(H:Hp):D->V->Prop
 |.v x,u=>Rp K U H x u
 |.m a,u=>u = .ref a/\∃ds,U a=some ds
 |.s ns,u=>∃a,u = .ref a/\SqL K H a (ns.map V.int)/\U a=none
 |.o a,u=>u = .ref a
 |.b a,u=>u = .ref a/\∃c,U.b a=some c
 |.q P,u=>∀O H',Ext K U H O H'->P K u O H'
noncomputable def codeAt(c:Addr)(q:Str)(h:Heap):Prop:=∃o vs t,h.get? c=some o/\o.data = .fields vs/\vs[1]? = some (.str q t)
noncomputable abbrev LM(q:Str):Str:=(q ++ ".<locals>.") ++ "<lambda>"
noncomputable def Sj(H:Hp)(P:Addr)(q:Str):Prop:=∃ps:Array Value,H P=some (.tbl ps)/\TriplesOk ps.toList/\∀pos cv,codeAmong pos ps.toList=some cv->∃c,cv = .ref c/\H c=some (.ext (codeAt c (LM q)))
noncomputable def Gb(K:PySem.W.Frag)(H:Hp):Prop:=∀c o P q,K.lookup c=some o->dz o=some (P,q)->Sj H P q
noncomputable abbrev hI(ks:List Int):Int:=reduceHash (Builtin.Tuple.tupleHashOf (ks.map hashInt))
noncomputable def P8(K:PySem.W.Frag)(U:Mu)(H:Hp)(kvs:List (List Int×PyData))(xs:List (List Int×Addr×Value)):Prop:=
 Paired (fun (p:List Int×PyData) (q:List Int×Addr×Value)=>p.1=q.1/\SqT K H q.2.1 (p.1.map V.int)/\∃v,Rp K U H p.2 v/\RelV v q.2.2) kvs xs
noncomputable def yF(K:PySem.W.Frag)(U:Mu)(H:Hp):Box->Obj->Prop
 |.dict kvs,o=>kvs.length<=sizeLine/\o.ExactDict/\∃es ep,∃xs:List (List Int×Addr×Value),o.data = .dict es ep/\es.toList=xs.map (fun x=>⟨hI x.1,.ref x.2.1,x.2.2⟩)/\(xs.map (·.1)).Nodup/\P8 K U H kvs xs
 |.set ks,o=>o.ExactSet/\∃(L:ST.Ln Value) (ep:Nat) (t:SetTable),o.data = .set (L.map (·.2)).toArray ep t/\ST.Tab t L/\L.length*5<t.mask*3/\L.length=ks.length /\
   (∀x∈L,∃k q,x.2.2 = .ref q/\SqT K H q (k.map V.int)/\x.2.1=hI k/\k∈ks)/\∀k∈ks,∃x∈L,∃q,x.2.2 = .ref q/\SqT K H q (k.map V.int)
structure cQ(K:PySem.W.Frag)(U:Mu)(H:Hp):Prop where
 lst:∀a ds,U a=some ds->∃xs,H a=some (.lst xs)/\RpL K U H ds xs
 tab:Gb K H
 box:∀a c,U.b a=some c->(a==sysModules)=false/\∃o,H a=some (.raw o)/\yF K U H c o
noncomputable instance {K:PySem.W.Frag} {U:Mu} {H:Hp}:CoeFun (cQ K U H) fun _=>∀a ds,U a=some ds->∃xs,H a=some (.lst xs)/\RpL K U H ds xs:=⟨cQ.lst⟩
theorem Gb.of{K:PySem.W.Frag}{H H1:Hp}(t:Gb K H)(s:∀b o,H b=some o->(∀xs,o≠.lst xs)->(∀ob,o≠.raw ob)->H1 b=some o):Gb K H1:=fun c o P q h1 h2=>by
 obtain⟨ps,a1,a2,a3⟩:=t c o P q h1 h2
 exact⟨ps,s _ _ a1 (fun _ z=>nomatch z) (fun _ z=>nomatch z),a2,fun pos cv e=>let ⟨c,q1,q2⟩:=a3 pos cv e;⟨c,q1,s _ _ q2 (fun _ z=>nomatch z) (fun _ z=>nomatch z)⟩⟩
noncomputable def kD(K:PySem.W.Frag)(U:Mu)(H:Hp)(ρ:Rho)(Y:St):Prop:=
 ρ.length=Y.length/\∀(i:Nat) (d:D),ρ[i]? = some (some d)->∃u,Y[i]? = some (some u)/\RpD K U H d u
structure St0(K:PySem.W.Frag)(H:Hp)(ρ:Rho)(U:Mu)(Y:St):Prop where
 mu:cQ K U H
 rho:kD K U H ρ Y
section
variable {K:PySem.W.Frag}{U ac ad:Mu}{H H1 H2:Hp}
theorem Ext.refl:Ext K U H U H:=⟨fun _ _ h _ _=>h,fun _ ps h _=>⟨ps,h⟩,fun _ ds h=>⟨ds,h⟩,fun _ h _=>h,fun _ o h _=>⟨o,h⟩,fun _ c h=>⟨c,h⟩⟩
theorem Ext.trans(a:Ext K U H ac H1)(b:Ext K ac H1 ad H2):Ext K U H ad H2 where
 keep:=fun c o h n t=>b.keep c o (a.keep c o h n t) (a.fresh c n (.inl (by rw[h];exact fun z=>nomatch z))) t
 tb:=fun c ps h n=>by
  obtain⟨ps1,h1⟩:=a.tb c ps h n
  exact b.tb c ps1 h1 (a.fresh c n (.inl (by rw[h];exact fun z=>nomatch z)))
 dom:=fun c ds h=>let ⟨es,q⟩:=a.dom c ds h;b.dom c es q
 fresh:=fun c n h=>by
  refine b.fresh c (a.fresh c n h) ?_
  rcases h with h|h
  ·cases q:H c with
   |none=>exact absurd q h
   |some o=>
    obtain⟨o',h'⟩:=a.st c o q n
    exact .inl (by rw[h'];exact fun z=>nomatch z)
  ·exact .inr h
 st:=fun c o h n=>by
  obtain⟨o',h'⟩:=a.st c o h n
  exact b.st c o' h' (a.fresh c n (.inl (by rw[h];exact fun z=>nomatch z)))
 bx:=fun c x h=>let ⟨x',q⟩:=a.bx c x h;b.bx c x' q
theorem Ext.of_same(s:Cu H H1):Ext K U H U H1:=⟨fun b o h _ _=>s b o h,fun b ps h _=>⟨ps,s b _ h⟩,fun _ ds h=>⟨ds,h⟩,fun _ h _=>h,fun b o h _=>⟨o,s b o h⟩,fun _ c h=>⟨c,h⟩⟩
theorem cQ.not{a:Addr}{o:HO}(ok:cQ K U H)(h:H a=some o)(n:∀xs,o≠.lst xs):U a=none:=by
 cases q:U a with
 |none=>rfl
 |some ds=>
  obtain⟨ys,e,_⟩:=ok a ds q
  rw[h] at e
  exact absurd (Option.some.inj e) (n ys)
theorem cQ.free{a:Addr}(ok:cQ K U H)(h:H a=none):U a=none:=by
 cases q:U a with
 |none=>rfl
 |some ds=>
  obtain⟨ys,e,_⟩:=ok a ds q
  rw[h] at e;cases e
theorem mT{a:Addr}{xs:List V}(ok:cQ K U H)(e:Ext K U H ac H1)(h:SqT K H a xs):SqT K H1 a xs:=by
 rcases h with (h|⟨o,h⟩)|h
 ·exact .inl (.inl (e.keep _ _ h (ok.not h fun _ z=>nomatch z) trivial))
 ·exact .inl (.inr ⟨o,e.keep _ _ h (ok.not h fun _ z=>nomatch z) trivial⟩)
 ·exact .inr h
theorem IF{a:Addr}{xs:List V}(e:Ext K U H ac H1)(h:SqL K H a xs)(n:U a=none):SqL K H1 a xs/\ac a=none:=by
 rcases h with (h|⟨o,h⟩)|h
 ·exact⟨.inl (.inl (e.keep _ _ h n trivial)),e.fresh _ n (.inl (by rw[h];exact fun z=>nomatch z))⟩
 ·exact⟨.inl (.inr ⟨o,e.keep _ _ h n trivial⟩),e.fresh _ n (.inl (by rw[h];exact fun z=>nomatch z))⟩
 ·obtain⟨o,its,k,hk,r⟩:=id h
  exact⟨.inr h,e.fresh _ n (.inr (by rw[hk];exact fun z=>nomatch z))⟩
mutual
theorem Rp.ext{d:PyData}{u:V}(ok:cQ K U H)(e:Ext K U H ac H1):Rp K U H d u->Rp K ac H1 d u
 |.none=>.none
 |.bool b=>.bool b
 |.int i=>.int i
 |.str x=>.str x
 |.list h n r=>.list (e.keep _ _ h n trivial) (e.fresh _ n (.inl (by rw[h];exact fun z=>nomatch z))) (RpL.ext ok e r)
 |.tuple h r=>.tuple (mT ok e h) (RpL.ext ok e r)
theorem RpL.ext{ds:List PyData}{us:List V}(ok:cQ K U H)(e:Ext K U H ac H1):RpL K U H ds us->RpL K ac H1 ds us
 |.nil=>.nil
 |.cons h r=>.cons (Rp.ext ok e h) (RpL.ext ok e r)
end
theorem RpD.ext{d:D}{u:V}(ok:cQ K U H)(e:Ext K U H ac H1)(r:RpD K U H d u):RpD K ac H1 d u:=by
 cases d with
 |v x=>exact Rp.ext ok e r
 |m a=>obtain⟨h,ds,q⟩:=r;exact⟨h,e.dom a ds q⟩
 |s ns=>obtain⟨a,h,q,n⟩:=r;exact⟨a,h,(IF e q n).1,(IF e q n).2⟩
 |o a=>exact r
 |b a=>obtain⟨h,c,q⟩:=r;exact⟨h,e.bx a c q⟩
 |q P=>exact fun O H' e'=>r O H' (e.trans e')
theorem yF.ext{c:Box}{o:Obj}(ok:cQ K U H)(e:Ext K U H ac H1)(r:yF K U H c o):yF K ac H1 c o:=by
 cases c with
 |dict kvs=>
  obtain⟨h1,h2,es,ep,xs,h3,h4,h5,h6⟩:=r
  exact⟨h1,h2,es,ep,xs,h3,h4,h5,Paired.NJ h6 fun p q ⟨z1,z2,v,z3,z4⟩=>⟨z1,mT ok e z2,v,Rp.ext ok e z3,z4⟩⟩
 |set ks=>
  obtain⟨h1,L,ep,t,h2,h3,h4,h5,h6,h7⟩:=r
  exact⟨h1,L,ep,t,h2,h3,h4,h5,fun x hx=>let ⟨k,q,z1,z2,z3⟩:=h6 x hx;⟨k,q,z1,mT ok e z2,z3⟩,fun k hk=>let ⟨x,hx,q,z1,z2⟩:=h7 k hk;⟨x,hx,q,z1,mT ok e z2⟩⟩
theorem cQ.Rc{a:Addr}(ok:cQ K U H)(h:H a=none):U.b a=none:=by
 cases q:U.b a with
 |none=>rfl
 |some c=>
  obtain⟨_,ob,e,_⟩:=ok.box a c q
  rw[h] at e;cases e
theorem kD.ext{ρ:Rho}{Y:St}(ok:cQ K U H)(e:Ext K U H ac H1)(r:kD K U H ρ Y):kD K ac H1 ρ Y:=
 ⟨r.1,fun i d h=>let ⟨u,h1,h2⟩:=r.2 i d h;⟨u,h1,h2.ext ok e⟩⟩
theorem RpL.length{ds:List PyData}{us:List V}:RpL K U H ds us->ds.length=us.length
 |.nil=>rfl
 |.cons _ r=>congrArg (· + 1) (RpL.length r)
theorem RpL.get{ds:List PyData}{us:List V}:∀{i:Nat} {d:PyData},RpL K U H ds us->ds[i]? = some d->∃u,us[i]? = some u/\Rp K U H d u
 |_,_,.nil,h=>by simp at h
 |0,_,.cons r _,h=>by simp at h;subst h;exact⟨_,rfl,r⟩
 |i+1,d,.cons _ t,h=>by
  obtain⟨u,h1,h2⟩:=RpL.get (i:=i) (d:=d) t (by simpa using h)
  exact⟨u,by simpa using h1,h2⟩
theorem RpL.append{ds es:List PyData}{us ws:List V}:RpL K U H ds us->RpL K U H es ws->RpL K U H (ds++es) (us++ws)
 |.nil,s=>s
 |.cons r t,s=>.cons r (RpL.append t s)
theorem RpL.take{ds:List PyData}{us:List V}:∀(n:Nat),RpL K U H ds us->RpL K U H (ds.take n) (us.take n)
 |0,_=>by simp;exact .nil
 |_+1,.nil=>by simp;exact .nil
 |n+1,.cons r t=>.cons r (RpL.take n t)
theorem RpL.drop{ds:List PyData}{us:List V}:∀(n:Nat),RpL K U H ds us->RpL K U H (ds.drop n) (us.drop n)
 |0,r=>r
 |_+1,.nil=>by simp;exact .nil
 |n+1,.cons _ t=>RpL.drop n t
theorem RpL.set{ds:List PyData}{us:List V}{d:PyData}{u:V}(q:Rp K U H d u):∀(i:Nat),RpL K U H ds us->RpL K U H (ds.set i d) (us.set i u)
 |_,.nil=>.nil
 |0,.cons _ t=>.cons q t
 |i+1,.cons r t=>.cons r (RpL.set q i t)
theorem Gv{ds:List PyData}{us:List V}{i:Int}{d:PyData}(r:RpL K U H ds us)(h:atI ds i=some d):∃u,atI us i=some u/\Rp K U H d u:=by
 unfold atI at h ⊢
 rw[<- r.length]
 cases q:ixN ds.length i with
 |none=>rw[q] at h;cases h
 |some j=>
  rw[q] at h
  exact r.get h
noncomputable abbrev DK:=D->Mu->Prop
noncomputable abbrev DTE:=Rho->Mu->DK->Prop
noncomputable abbrev DTT:=Rho->Mu->(Bool->Mu->Prop)->Prop
noncomputable abbrev DTA:=Rho->Mu->(List D->Mu->Prop)->Prop
structure oI where
 nx:Rho->Mu->Prop
 rt:DK
 bk:Rho->Mu->Prop:=fun _ _=>False
 ct:Rho->Mu->Prop:=fun _ _=>False
noncomputable abbrev DTS:=oI->Rho->Mu->Prop
inductive kq(K:PySem.W.Frag)(U:Mu)(H:Hp):List D->List V->Prop
 |nil:kq K U H [] []
 |cons {d:D} {u:V} {ds:List D} {us:List V}:RpD K U H d u->kq K U H ds us->kq K U H (d::ds) (u::us)
theorem kq.ext{ds:List D}{us:List V}(ok:cQ K U H)(e:Ext K U H ac H1):kq K U H ds us->kq K ac H1 ds us
 |.nil=>.nil
 |.cons h r=>.cons (h.ext ok e) (kq.ext ok e r)
theorem kq.length{ds:List D}{us:List V}:kq K U H ds us->ds.length=us.length
 |.nil=>rfl
 |.cons _ r=>congrArg (· + 1) (kq.length r)
end
noncomputable def uR(K:PySem.W.Frag)(t:TE)(td:DTE):Prop:=∀(Y:St) (H:Hp) (ρ:Rho) (U:Mu) (Qd:DK) (Q:VK),St0 K H ρ U Y->td ρ U Qd ->
 (∀d u O H',Ext K U H O H'->St0 K H' ρ O Y->RpD K O H' d u->Qd d O->Q u H')->t Y H Q
noncomputable def KN(K:PySem.W.Frag)(t:TT)(td:DTT):Prop:=∀(Y:St) (H:Hp) (ρ:Rho) (U:Mu) (Qd:Bool->Mu->Prop) (Q:Bool->Hp->Prop),St0 K H ρ U Y->td ρ U Qd ->
 (∀b O H',Ext K U H O H'->St0 K H' ρ O Y->Qd b O->Q b H')->t Y H Q
noncomputable def NV(K:PySem.W.Frag)(n:Nat)(t:TA)(td:DTA):Prop:=∀(Y:St) (H:Hp) (ρ:Rho) (U:Mu) (Qd:List D->Mu->Prop) (Q:List V->Hp->Prop),St0 K H ρ U Y->td ρ U Qd ->
 (∀ds us O H',Ext K U H O H'->St0 K H' ρ O Y->kq K O H' ds us->ds.length=n->Qd ds O->Q us H')->t Y H Q
noncomputable def B1(K:PySem.W.Frag)(t:TS)(td:DTS):Prop:=∀(Y:St) (H:Hp) (ρ:Rho) (U:Mu) (Dd:oI) (De:Ends),St0 K H ρ U Y->td Dd ρ U ->
 (∀al am O H',Ext K U H O H'->St0 K H' am O al->Dd.nx am O->De.nx al H') ->
 (∀d u O H',Ext K U H O H'->cQ K O H'->RpD K O H' d u->Dd.rt d O->De.rt u H') ->
 (∀al am O H',Ext K U H O H'->St0 K H' am O al->Dd.bk am O->De.bk al H') ->
 (∀al am O H',Ext K U H O H'->St0 K H' am O al->Dd.ct am O->De.ct al H')->t De Y H
noncomputable def DE(X:Cx)(e:Expr)(td:DTE):Prop:=∃t,PE X e t/\uR X.K t td
noncomputable def DT(X:Cx)(e:Expr)(td:DTT):Prop:=∃t,PT X e t/\KN X.K t td
noncomputable def DA(X:Cx)(es:List Expr)(td:DTA):Prop:=∃t,PA X es t/\NV X.K es.length t td
noncomputable def DS(X:Cx)(st:Stmt)(td:DTS):Prop:=∃t,PS X st t/\B1 X.K t td
noncomputable def DSs(X:Cx)(st:List Stmt)(td:DTS):Prop:=∃t,PSs X st t/\B1 X.K t td
section
variable {X:Cx}{a b c:Expr}{ta tb tc:DTE}{pos:Pos}
noncomputable def ae(i:Nat):DTE:=fun ρ U Q=>match ρ[i]? with
 |some (some d)=>Q d U
 |_=>False
noncomputable def dC(x:PyData):DTE:=fun _ U Q=>Q (.v x) U
theorem LL{K:PySem.W.Frag}(i:Nat):uR K (Rw i) (ae i):=by
 intro Y H ρ U Qd Q S h k
 unfold ae at h
 split at h
 ·rename_i d e
  obtain⟨u,h1,h2⟩:=S.rho.2 i d e
  exact⟨u,h1,k d u U H .refl S h2 h⟩
 ·exact h.elim
theorem dv(i:Nat){x:Str}{pos:Pos}(hN:X.N[i]? = some x:=by rfl)(hv:Vis X.env.scope x:=by first|exact Or.inl rfl|exact Or.inr (Or.inl rfl)|exact Or.inr (Or.inr rfl))(hd:(x==("__debug__":Str))=false:=by decide)
  (hcd:(x==("__classdict__":Str))=false:=by decide):DE X (.Name x pos) (ae i):=⟨_,Ou hN hv hd hcd,LL i⟩
theorem C7{K:PySem.W.Frag}{x:PyData}{u:V}(h:∀U H,cQ K U H->Rp K U H x u):uR K (tC u) (dC x):=fun Y H ρ U Qd Q S q k=>k (.v x) u U H .refl S (h U H S.mu) q
theorem af{i j pos}:DE X (.Constant (.int i) j pos) (dC (.int i)):=⟨_,Pw,C7 fun _ _ _=>.int i⟩
theorem gj{i j pos}:DE X (.Constant (.bool i) j pos) (dC (.bool i)):=⟨_,Ro,C7 fun _ _ _=>.bool i⟩
theorem cg{x j pos}:DE X (.Constant (.str x) j pos) (dC (.str x)):=⟨_,Of,C7 fun _ _ _=>.str x⟩
theorem qA{x:Str}{d:PyData}{u:V}{w:Value}{pos:Pos}(hg:Gl X x)(hm:X.mg x=some w)(r:RelV u w)(h:∀U H,cQ X.K U H->Rp X.K U H d u)(hd:(x==("__debug__":Str))=false:=by decide):DE X (.Name x pos) (dC d):=
 ⟨_,Nc hg hm r hd,C7 h⟩
noncomputable def hV(K:PySem.W.Frag)(rr:R2)(r:D->D->Mu->DK->Prop):Prop:=∀(x y:D) (ux uy:V) (H:Hp) (U:Mu) (Qd:DK) (Q:VK),cQ K U H->RpD K U H x ux->RpD K U H y uy->r x y U Qd ->
 (∀d u O H',Ext K U H O H'->cQ K O H'->RpD K O H' d u->Qd d O->Q u H')->rr ux uy H Q
noncomputable def dOp(r:D->D->Mu->DK->Prop)(ta tb:DTE):DTE:=fun ρ U Q=>ta ρ U fun x ac=>tb ρ ac fun y ad=>r x y ad Q
theorem xY{K:PySem.W.Frag}{rr:R2}{r}{t1 t2:TE}(lo:hV K rr r)(la:uR K t1 ta)(lb:uR K t2 tb):uR K (tOp rr t1 t2) (dOp r ta tb):=by
 intro Y H ρ U Qd Q S h k
 refine la Y H ρ U _ _ S h fun x ux ac H1 e1 S1 rx h1=>?_
 refine lb Y H1 ρ ac _ _ S1 h1 fun y uy ad H2 e2 S2 ry h2=>?_
 exact lo x y ux uy H2 ad _ _ S2.mu (rx.ext S1.mu e2) ry h2 fun d u O H' e3 ok r q=>k d u O H' (e1.trans (e2.trans e3)) ⟨ok,S2.rho.ext S2.mu e3⟩ r q
theorem wZ{op:Operator}{rr:R2}{r}(ho:OpR X (binaryOp op) rr)(lo:hV X.K rr r)(ha:DE X a ta)(hb:DE X b tb):DE X (.BinOp a op b pos) (dOp r ta tb):=by
 obtain⟨t1,p1,l1⟩:=ha
 obtain⟨t2,p2,l2⟩:=hb
 exact⟨_,QN ho p1 p2,xY lo l1 l2⟩
theorem cI{op:CmpOp}{rr:R2}{r}(ho:OpR X (compareOp op) rr)(lo:hV X.K rr r)(ha:DE X a ta)(hb:DE X b tb)(hm:behindInMarks op b=false):DE X (.Compare a [op] [b] pos) (dOp r ta tb):=by
 obtain⟨t1,p1,l1⟩:=ha
 obtain⟨t2,p2,l2⟩:=hb
 exact⟨_,LX ho p1 p2 hm,xY lo l1 l2⟩
noncomputable def dB(t:DTE):DTT:=fun ρ U Q=>t ρ U fun d ac=>match d with
 |.v (.bool k)=>Q k ac
 |_=>False
theorem vW{K:PySem.W.Frag}{t:TE}{td:DTE}(l:uR K t td):KN K (Lh t) (dB td):=by
 intro Y H ρ U Qd Q S h k
 refine l Y H ρ U _ _ S h fun d u ac H1 e1 S1 r q=>?_
 split at q
 ·rename_i b
  cases r
  exact⟨b,rfl,k b ac H1 e1 S1 q⟩
 ·exact q.elim
theorem aF{op:CmpOp}{rr:R2}{r}(ho:OpR X (compareOp op) rr)(lo:hV X.K rr r)(ha:DE X a ta)(hb:DE X b tb)(hm:behindInMarks op b=false):DT X (.Compare a [op] [b] pos) (dB (dOp r ta tb)):=by
 obtain⟨t1,p1,l1⟩:=ha
 obtain⟨t2,p2,l2⟩:=hb
 exact⟨_,M9 ho p1 p2 hm,vW (xY lo l1 l2)⟩
theorem bY{e:Expr}{td:DTE}(h:DE X e td)(he:∀whole,isTrue e X.env whole=(do let v <- whole;standAt e.pos;holding [v] (truthy v)):=by intro _;rfl):DT X e (dB td):=by
 obtain⟨t,p,l⟩:=h
 exact⟨_,OF p he,vW l⟩
noncomputable def rII(C:Int->Int->Prop)(g:Int->Int->PyData):D->D->Mu->DK->Prop:=fun x y U Q=>match x,y with
 |.v (.int i),.v (.int j)=>C i j/\Q (.v (g i j)) U
 |_,_=>False
theorem K9{K:PySem.W.Frag}{C:Int->Int->Prop}{g:Int->Int->V}{gd:Int->Int->PyData}(hg:∀U H i j,Rp K U H (gd i j) (g i j)):hV K (rI C g) (rII C gd):=by
 intro x y ux uy H U Qd Q ok rx ry h k
 unfold rII at h
 split at h
 ·rename_i i j
  cases rx;cases ry
  exact⟨i,j,rfl,rfl,h.1,k (.v _) _ U H .refl ok (hg U H i j) h.2⟩
 ·exact h.elim
noncomputable def A0(g:Int->Int->PyData):D->D->Mu->DK->Prop:=fun x y U Q=>match x,y with
 |.v (.int i),.v (.int j)=>Q (.v (g i j)) U
 |_,_=>False
theorem IC{K:PySem.W.Frag}{g:Int->Int->V}{gd:Int->Int->PyData}(hg:∀U H i j,Rp K U H (gd i j) (g i j)):hV K (rI0 g) (A0 gd):=by
 intro x y ux uy H U Qd Q ok rx ry h k
 unfold A0 at h
 split at h
 ·rename_i i j
  cases rx;cases ry
  exact⟨i,j,rfl,rfl,k (.v _) _ U H .refl ok (hg U H i j) h⟩
 ·exact h.elim
noncomputable abbrev fi(ta tb:DTE):DTE:=dOp (A0 fun i j=>.int (i+j)) ta tb
noncomputable abbrev nI(ta tb:DTE):DTE:=dOp (A0 fun i j=>.int (i-j)) ta tb
noncomputable abbrev MulOk(i j:Int):Prop:=IntMulOk i j
noncomputable abbrev cx(ta tb:DTE):DTE:=dOp (rII MulOk fun i j=>.int (i*j)) ta tb
noncomputable abbrev pG(ta tb:DTE):DTE:=dOp (rII (fun _ j=>j≠0) fun i j=>.int (i.fmod j)) ta tb
noncomputable abbrev Gp(ta tb:DTE):DTE:=dOp (rII PX fun i j=>.int (i ^ j.toNat)) ta tb
theorem NA:OpR X (binaryOp .Mult) (rI MulOk fun i j=>.int (i*j)):=opI fun _ _ _ _ _ _ _ hc q=>mul_int q hc
theorem cb(ha:DE X a ta)(hb:DE X b tb):DE X (.BinOp a .Add b pos) (fi ta tb):=wZ Kl (IC fun _ _ _ _=>.int _) ha hb
theorem eO(ha:DE X a ta)(hb:DE X b tb):DE X (.BinOp a .Sub b pos) (nI ta tb):=wZ Pg (IC fun _ _ _ _=>.int _) ha hb
theorem aU(ha:DE X a ta)(hb:DE X b tb):DE X (.BinOp a .Mult b pos) (cx ta tb):=wZ NA (K9 fun _ _ _ _=>.int _) ha hb
theorem fS(ha:DE X a ta)(hb:DE X b tb):DE X (.BinOp a .Mod b pos) (pG ta tb):=wZ LW (K9 fun _ _ _ _=>.int _) ha hb
theorem vA(ha:DE X a ta)(hb:DE X b tb):DE X (.BinOp a .Pow b pos) (Gp ta tb):=wZ Qz (K9 fun _ _ _ _=>.int _) ha hb
noncomputable abbrev rLt:=A0 fun i j=>.bool (decide (i<j))
noncomputable abbrev rLe:=A0 fun i j=>.bool (decide (i<=j))
noncomputable abbrev rGt:=A0 fun i j=>.bool (decide (j<i))
noncomputable abbrev rGe:=A0 fun i j=>.bool (decide (j<=i))
theorem cN{K:PySem.W.Frag}{p:Int->Int->Bool}:hV K (rI0 fun i j=>.bl (p i j)) (A0 fun i j=>.bool (p i j)):=IC fun _ _ _ _=>.bool _
noncomputable def D8(ta:DTE):DTE:=fun ρ U Q=>ta ρ U fun x ac=>match x with
 |.v (.int i)=>Q (.v (.int (-i))) ac
 |_=>False
theorem sS(ha:DE X a ta):DE X (.UnaryOp .USub a pos) (D8 ta):=by
 obtain⟨t1,p1,l1⟩:=ha
 refine⟨_,RX Ol p1,fun Y H ρ U Qd Q S h k=>?_⟩
 refine l1 Y H ρ U _ _ S h fun x ux ac H1 e1 S1 rx h1=>?_
 split at h1
 ·rename_i i
  cases rx
  exact⟨i,rfl,k (.v _) _ ac H1 e1 S1 (Rp.int _) h1⟩
 ·exact h1.elim
noncomputable def lH(t u:DTT):DTT:=fun ρ U Q=>t ρ U fun c ac=>if c=true then u ρ ac Q else Q false ac
noncomputable def fM(t u:DTT):DTT:=fun ρ U Q=>t ρ U fun c ac=>if c=true then Q true ac else u ρ ac Q
noncomputable def dn(t:DTT):DTT:=fun ρ U Q=>t ρ U fun c ac=>Q (!c) ac
noncomputable def DW(X:Cx)(e:Expr)(td:DTT):Prop:=∃t,PW X e t/\KN X.K t td
theorem DW.dt{e:Expr}{td:DTT}(h:DW X e td):DT X e td:=let ⟨t,p,l⟩:=h;⟨t,p.pt,l⟩
variable {tA tB':DTT}{rest:List Expr}
theorem kK(ha:DT X a tA):DW X (.BoolOp .And [a] pos) tA:=let ⟨t,p,l⟩:=ha;⟨t,pw_and1 p,l⟩
theorem d7(ha:DT X a tA):DW X (.BoolOp .Or [a] pos) tA:=let ⟨t,p,l⟩:=ha;⟨t,pw_or1 p,l⟩
theorem lE(ha:DT X a tA)(hb:DW X (.BoolOp .And (b::rest) pos) tB'):DW X (.BoolOp .And (a::b::rest) pos) (lH tA tB'):=by
 obtain⟨t1,p1,l1⟩:=ha
 obtain⟨t2,p2,l2⟩:=hb
 refine⟨_,pw_and p1 p2,fun Y H ρ U Qd Q S h k=>?_⟩
 refine l1 Y H ρ U _ _ S h fun c ac H1 e1 S1 h1=>?_
 cases c with
 |true=>
  refine FH (l2 Y H1 ρ ac _ _ S1 (by simpa using h1) fun c ad H2 e2 S2 h2=>k c ad H2 (e1.trans e2) S2 h2)
 |false=>exact Ey (k false ac H1 e1 S1 (by simpa using h1))
theorem dO(ha:DT X a tA)(hb:DW X (.BoolOp .Or (b::rest) pos) tB'):DW X (.BoolOp .Or (a::b::rest) pos) (fM tA tB'):=by
 obtain⟨t1,p1,l1⟩:=ha
 obtain⟨t2,p2,l2⟩:=hb
 refine⟨_,pw_or p1 p2,fun Y H ρ U Qd Q S h k=>?_⟩
 refine l1 Y H ρ U _ _ S h fun c ac H1 e1 S1 h1=>?_
 cases c with
 |true=>exact FH (k true ac H1 e1 S1 (by simpa using h1))
 |false=>
  refine Ey (l2 Y H1 ρ ac _ _ S1 (by simpa using h1) fun c ad H2 e2 S2 h2=>k c ad H2 (e1.trans e2) S2 h2)
theorem cM(ha:DT X a tA):DT X (.UnaryOp .Not a pos) (dn tA):=by
 obtain⟨t1,p1,l1⟩:=ha
 refine⟨_,OE p1,fun Y H ρ U Qd Q S h k=>?_⟩
 exact l1 Y H ρ U _ _ S h fun c ac H1 e1 S1 h1=>k _ ac H1 e1 S1 h1
noncomputable def fh(ta tb:DTE):DTE:=fun ρ U Q=>ta ρ U fun x ac=>match x with
 |.v (.bool c)=>if c=true then tb ρ ac Q else Q (.v (.bool false)) ac
 |_=>False
noncomputable def Ap(ta:DTE):DTE:=fun ρ U Q=>ta ρ U fun x ac=>match x with
 |.v (.bool c)=>Q (.v (.bool (!c))) ac
 |_=>False
theorem fV{op}(h:DE X a ta):DE X (.BoolOp op [a] pos) ta:=let ⟨t,p,l⟩:=h;⟨t,OS p,l⟩
theorem dW(ha:DE X a ta)(hb:DE X (.BoolOp .And (b::rest) pos) tb):DE X (.BoolOp .And (a::b::rest) pos) (fh ta tb):=by
 obtain⟨t1,p1,l1⟩:=ha
 obtain⟨t2,p2,l2⟩:=hb
 refine⟨_,Po p1 p2,fun Y H ρ U Qd Q S h k=>?_⟩
 refine l1 Y H ρ U _ _ S h fun x ux ac H1 e1 S1 rx h1=>?_
 split at h1
 ·rename_i c
  cases rx
  refine⟨c,rfl,?_⟩
  cases c with
  |true=>exact FH (l2 Y H1 ρ ac _ _ S1 (by simpa using h1) fun d u ad H2 e2 S2 r2 h2=>k d u ad H2 (e1.trans e2) S2 r2 h2)
  |false=>exact Ey (k (.v _) _ ac H1 e1 S1 (Rp.bool false) (by simpa using h1))
 ·exact h1.elim
theorem CW(ha:DE X a ta):DE X (.UnaryOp .Not a pos) (Ap ta):=by
 obtain⟨t1,p1,l1⟩:=ha
 refine⟨_,Ot p1,fun Y H ρ U Qd Q S h k=>?_⟩
 refine l1 Y H ρ U _ _ S h fun x ux ac H1 e1 S1 rx h1=>?_
 split at h1
 ·rename_i c
  cases rx
  exact⟨c,rfl,k (.v _) _ ac H1 e1 S1 (Rp.bool _) h1⟩
 ·exact h1.elim
noncomputable def dIf(t:DTT)(ta tb:DTE):DTE:=fun ρ U Q=>t ρ U fun c ac=>if c=true then ta ρ ac Q else tb ρ ac Q
theorem oR{c:Expr}(hc:DT X c tA)(ha:DE X a ta)(hb:DE X b tb):DE X (.IfExp c a b pos) (dIf tA ta tb):=by
 obtain⟨t0,p0,l0⟩:=hc
 obtain⟨t1,p1,l1⟩:=ha
 obtain⟨t2,p2,l2⟩:=hb
 refine⟨_,K0 p0 p1 p2,fun Y H ρ U Qd Q S h k=>?_⟩
 refine l0 Y H ρ U _ _ S h fun c ac H1 e1 S1 h1=>?_
 cases c with
 |true=>exact FH (l1 Y H1 ρ ac _ _ S1 (by simpa using h1) fun d u ad H2 e2 S2 r2 h2=>k d u ad H2 (e1.trans e2) S2 r2 h2)
 |false=>exact Ey (l2 Y H1 ρ ac _ _ S1 (by simpa using h1) fun d u ad H2 e2 S2 r2 h2=>k d u ad H2 (e1.trans e2) S2 r2 h2)
end
section
variable {K:PySem.W.Frag}{U ac:Mu}{H H1:Hp}{p:Addr}
theorem d8{o:HO}(h:H p=none):Ext K U H U (upd H p o):=
 ⟨fun b u e _ _=>by rw[bN (bO e h)];exact e,fun b ps e _=>⟨ps,by rw[bN (bO e h)];exact e⟩,fun _ ds q=>⟨ds,q⟩,fun _ q _=>q,fun b o e _=>⟨o,by rw[bN (bO e h)];exact e⟩,fun _ c q=>⟨c,q⟩⟩
theorem cQ.Qs(ok:cQ K U H)(e:Ext K U H U H1)(s:Cu H H1):cQ K U H1:=⟨fun a ds q=>by
 obtain⟨xs,h1,h2⟩:=ok a ds q
 exact⟨xs,s _ _ h1,h2.ext ok e⟩,ok.tab.of fun b o h _ _=>s b o h,fun a c q=>by
 obtain⟨z,o,h1,h2⟩:=ok.box a c q
 exact⟨z,o,s _ _ h1,h2.ext ok e⟩⟩
theorem Ga{o:HO}(h:H p=none):Cu H (upd H p o):=fun b u q=>by rw[bN (bO q h)];exact q
theorem cQ.new{o:HO}(ok:cQ K U H)(h:H p=none):cQ K U (upd H p o):=ok.Qs (d8 h) (Ga h)
theorem St0.new{o:HO}{ρ:Rho}{Y:St}(S:St0 K H ρ U Y)(h:H p=none):St0 K (upd H p o) ρ U Y:=⟨S.mu.new h,S.rho.ext S.mu (d8 h)⟩
theorem iF{us:List V}{ds:List PyData}(ok:cQ K U H)(r:RpL K U H ds us)(h:H p=none):Rp K U (upd H p (.tup us)) (.tuple ds) (.ref p):=
 .tuple (SqT.of jP) (r.ext ok (d8 h))
theorem ic{us:List V}{ds:List PyData}(ok:cQ K U H)(r:RpL K U H ds us)(h:H p=none):Rp K U (upd H p (.lst us)) (.list ds) (.ref p):=
 .list jP (ok.free h) (r.ext ok (d8 h))
theorem yi{o:HO}{ds:List PyData}(ok:cQ K U H)(h:H p=none)(hk:K.lookup p=none):Ext K U H (bD U p ds) (upd H p o) where
 keep:=fun b u e _ _=>by rw[bN (bO e h)];exact e
 tb:=fun b ps e _=>⟨ps,by rw[bN (bO e h)];exact e⟩
 dom:=fun b es q=>by
  have:b≠p:=fun z=>by rw[z,ok.free h] at q;cases q
  exact⟨es,by rw[aV this];exact q⟩
 fresh:=fun b n q=>by
  have:b≠p:=fun z=>by
   rcases q with q|q
   ·exact q (by rw[z];exact h)
   ·exact q (by rw[z];exact hk)
  rw[aV this];exact n
 st:=fun b o e _=>⟨o,by rw[bN (bO e h)];exact e⟩
 bx:=fun b c q=>⟨c,q⟩
theorem cQ.mut{us:List V}{ds:List PyData}(ok:cQ K U H)(r:RpL K U H ds us)(h:H p=none)(hk:K.lookup p=none):cQ K (bD U p ds) (upd H p (.lst us)):=⟨fun a es q=>by
 have e:=yi (o:=.lst us) (ds:=ds) ok h hk
 by_cases ha:a=p
 ·subst ha
  rw[bg] at q
  cases q
  exact⟨us,jP,r.ext ok e⟩
 ·rw[aV ha] at q
  obtain⟨xs,h1,h2⟩:=ok a es q
  exact⟨xs,by rw[bN ha];exact h1,h2.ext ok e⟩,ok.tab.of fun b o e _ _=>by rw[bN (bO e h)];exact e,fun a c q=>by
 obtain⟨z,o,h1,h2⟩:=ok.box a c q
 exact⟨z,o,by rw[bN (bO h1 h)];exact h1,h2.ext ok (yi ok h hk)⟩⟩
theorem nu{o:HO}{ds es:List PyData}(h:U p=some ds):Ext K U H (bD U p es) (upd H p o) where
 keep:=fun b u e n _=>by
  have:b≠p:=fun z=>by rw[z,h] at n;cases n
  rw[bN this];exact e
 tb:=fun b ps e n=>by
  have:b≠p:=fun z=>by rw[z,h] at n;cases n
  exact⟨ps,by rw[bN this];exact e⟩
 dom:=fun b fs q=>by
  by_cases hb:b=p
  ·subst hb;exact⟨es,bg⟩
  ·exact⟨fs,by rw[aV hb];exact q⟩
 fresh:=fun b n q=>by
  have:b≠p:=fun z=>by rw[z,h] at n;cases n
  rw[aV this];exact n
 st:=fun b o e n=>by
  have:b≠p:=fun z=>by rw[z,h] at n;cases n
  exact⟨o,by rw[bN this];exact e⟩
 bx:=fun b c q=>⟨c,q⟩
theorem cQ.set{us:List V}{ds es:List PyData}(ok:cQ K U H)(h:U p=some ds)(r:RpL K U H es us):cQ K (bD U p es) (upd H p (.lst us)):=⟨fun a fs q=>by
 have e:Ext K U H (bD U p es) (upd H p (.lst us)):=nu h
 by_cases ha:a=p
 ·subst ha
  rw[bg] at q
  cases q
  exact⟨us,jP,r.ext ok e⟩
 ·rw[aV ha] at q
  obtain⟨xs,h1,h2⟩:=ok a fs q
  exact⟨xs,by rw[bN ha];exact h1,h2.ext ok e⟩,by
 obtain⟨ys,hy,_⟩:=ok p ds h
 exact ok.tab.of fun b o e n _=>by
  have:b≠p:=fun z=>by rw[z,hy] at e;exact n ys (Option.some.inj e).symm
  rw[bN this];exact e,fun a c q=>by
 obtain⟨ys,hy,_⟩:=ok p ds h
 obtain⟨z,o,h1,h2⟩:=ok.box a c q
 have:a≠p:=fun w=>by rw[w,hy] at h1;cases h1
 exact⟨z,o,by rw[bN this];exact h1,h2.ext ok (nu h)⟩⟩
end
noncomputable def du:List D->Option (List PyData)
 |[]=>some []
 |.v x::r=>(du r).map (x::·)
 |_::_=>none
theorem kq.data{K:PySem.W.Frag}{U:Mu}{H:Hp}:∀{ds:List D} {us:List V} {xs:List PyData},kq K U H ds us->du ds=some xs->RpL K U H xs us
 |_,_,_,.nil,e=>by cases e;exact .nil
 |.v x::r,_,xs,.cons h t,e=>by
  simp only[du] at e
  cases q:du r with
  |none=>rw[q] at e;cases e
  |some ys=>rw[q] at e;cases e;exact .cons h (kq.data t q)
 |.m _::_,_,_,.cons _ _,e=>by simp[du] at e
 |.s _::_,_,_,.cons _ _,e=>by simp[du] at e
 |.o _::_,_,_,.cons _ _,e=>by simp[du] at e
section
variable {X:Cx}{e:Expr}{es:List Expr}{te:DTE}{t:DTA}{pos:Pos}
noncomputable def ao:DTA:=fun _ U Q=>Q [] U
noncomputable def ab(ta:DTE)(tr:DTA):DTA:=fun ρ U Q=>ta ρ U fun x ac=>tr ρ ac fun xs ad=>Q (x::xs) ad
theorem ag:DA X [] ao:=⟨_,Ej,fun Y H ρ U Qd Q S h k=>k [] [] U H .refl S .nil rfl h⟩
theorem aa(ha:DE X e te)(hr:DA X es t)(hs:starEach (e::es) X.env=(false,eval e X.env)::starEach es X.env:=by rfl):DA X (e::es) (ab te t):=by
 obtain⟨t1,p1,l1⟩:=ha
 obtain⟨t2,p2,l2⟩:=hr
 refine⟨_,vj p1 p2 hs,fun Y H ρ U Qd Q S h k=>?_⟩
 refine l1 Y H ρ U _ _ S h fun x ux ac H1 e1 S1 rx h1=>?_
 refine l2 Y H1 ρ ac _ _ S1 h1 fun xs us ad H2 e2 S2 rs len h2=>?_
 exact k (x::xs) (ux::us) ad H2 (e1.trans e2) S2 (.cons (rx.ext S1.mu e2) rs) (by rw[length_cons,length_cons,len]) h2
noncomputable def cS(t:DTA):DTE:=fun ρ U Q=>t ρ U fun ds ac=>match du ds with
 |some xs=>Q (.v (.tuple xs)) ac
 |none=>False
noncomputable def g8(t:DTA):DTE:=fun ρ U Q=>t ρ U fun ds ac=>match du ds with
 |some xs=>Q (.v (.list xs)) ac
 |none=>False
noncomputable def zk(t:DTA):DTE:=fun ρ U Q=>t ρ U fun ds ac=>match du ds with
 |some xs=>∀p,ac p=none->Q (.m p) (bD ac p xs)
 |none=>False
theorem bG{x1}(h:DA X es t)(hl:es.length<=1000:=by decide):DE X (.Tuple es x1 pos) (cS t):=by
 obtain⟨t1,p1,l1⟩:=h
 refine⟨_,Px p1,fun Y H ρ U Qd Q S h k=>?_⟩
 refine l1 Y H ρ U _ _ S h fun ds us ac H1 e1 S1 rs len h1=>?_
 cases q:du ds with
 |none=>rw[q] at h1;exact h1.elim
 |some xs=>
  rw[q] at h1
  refine⟨Nat.le_of_lt (jB (by rw[<- rs.length,len];exact hl)),fun p hp=>?_⟩
  exact k (.v (.tuple xs)) _ ac _ (e1.trans (d8 hp)) (S1.new hp) (iF S1.mu (rs.data q) hp) h1
theorem cJ(h:DA X es t)(hl:es.length<=1000:=by decide):DE X (.List es pos) (g8 t):=by
 obtain⟨t1,p1,l1⟩:=h
 refine⟨_,OB p1,fun Y H ρ U Qd Q S h k=>?_⟩
 refine l1 Y H ρ U _ _ S h fun ds us ac H1 e1 S1 rs len h1=>?_
 cases q:du ds with
 |none=>rw[q] at h1;exact h1.elim
 |some xs=>
  rw[q] at h1
  refine⟨Nat.le_of_lt (jB (by rw[<- rs.length,len];exact hl)),fun p hp=>?_⟩
  exact k (.v (.list xs)) _ ac _ (e1.trans (d8 hp)) (S1.new hp) (ic S1.mu (rs.data q) hp) h1
noncomputable def QZ(K:PySem.W.Frag)(t:TA):TE:=fun Y H Q=>t Y H fun xs H1=>xs.length<=sizeLine/\∀p,H1 p=none->K.lookup p=none->Q (.ref p) (upd H1 p (.lst xs))
theorem MK{t:TA}(h:PA X es t):PE X (.List es pos) (QZ X.K t):=by
 intro pins s Y H Q I hq
 refine wpAny_List_spliced (thn (h pos pins s Y H _ I hq) fun us s1 ⟨xs,H1,I1,r,z,q⟩=>⟨by rw[<- r.length];exact z,?_⟩)
 have hf:H1 s1.heap.objs.size=none:=I1.hok.fresh (le_refl _)
 have hk:X.K.lookup s1.heap.objs.size=none:=by
  cases c:X.K.lookup s1.heap.objs.size with
  |none=>rfl
  |some o=>exact absurd (Heap.lt_size (I1.kIn _ _ c)) (lt_irrefl _)
 refine⟨.ref s1.heap.objs.size,upd H1 s1.heap.objs.size (.lst xs),I1.laid (t':=s1.toks) (fun b u e=>Heap.get?_push_of_some _ e) (le_refl _) ?_,rfl,q _ hf hk⟩
 exact⟨z,us,0,r,Heap.get?_push_size _ rfl⟩
theorem uM(h:DA X es t)(hl:es.length<=1000:=by decide):DE X (.List es pos) (zk t):=by
 obtain⟨t1,p1,l1⟩:=h
 refine⟨_,MK p1,fun Y H ρ U Qd Q S h k=>?_⟩
 refine l1 Y H ρ U _ _ S h fun ds us ac H1 e1 S1 rs len h1=>?_
 cases q:du ds with
 |none=>rw[q] at h1;exact h1.elim
 |some xs=>
  rw[q] at h1
  refine⟨Nat.le_of_lt (jB (by rw[<- rs.length,len];exact hl)),fun p hp hk=>?_⟩
  have ex:=yi (o:=.lst us) (ds:=xs) S1.mu hp hk
  exact k (.m p) _ (bD ac p xs) _ (e1.trans ex) ⟨S1.mu.mut (rs.data q) hp hk,S1.rho.ext S1.mu ex⟩ ⟨rfl,xs,bg⟩ (h1 p (S1.mu.free hp))
end
section
variable {X:Cx}{pins:List (Addr×Obj)}{Y:St}{H:Hp}{s:Shared}{U:Mu}
mutual
theorem fv(I:Inv X pins Y H s):∀{d:PyData} {x:V} {u:Value},Rp X.K U H d x->RelV x u->∃as,Reads s.heap u d as
 |_,_,_,.none,r=>by cases r;exact⟨_,.none⟩
 |_,_,_,.bool b,r=>by cases r;exact⟨_,.bool b⟩
 |_,_,_,.int i,r=>by obtain⟨t,rfl⟩:=r;exact⟨_,.int i t⟩
 |_,_,_,.str y,r=>by obtain⟨t,rfl⟩:=r;exact⟨_,.str y t⟩
 |_,_,_,.list h _ q,r=>by
  cases r
  obtain⟨its,rv,⟨o,n,ho,hc,_,hd⟩,_⟩:=I.list (SqL.of h)
  obtain⟨as,ra⟩:=oJ I q rv
  exact⟨_,.list ho hc hd (by simpa using ra)⟩
 |_,_,_,.tuple h q,r=>by
  cases r
  obtain⟨its,rv,⟨o,ho,hc,n,hd⟩,_⟩:=I.tuple h
  obtain⟨as,ra⟩:=oJ I q rv
  exact⟨_,.tuple ho hc hd (by simpa using ra)⟩
theorem oJ(I:Inv X pins Y H s):∀{ds:List PyData} {xs:List V} {us:List Value},RpL X.K U H ds xs->Vals xs us->∃as,ReadsAll s.heap us ds as
 |_,_,_,.nil,.nil=>⟨_,.nil⟩
 |_,_,_,.cons h t,.cons r q=>by
  obtain⟨as,ra⟩:=fv I h r
  obtain⟨bs,rb⟩:=oJ I t q
  exact⟨_,.cons ra rb⟩
end
end
section
variable {X:Cx}
noncomputable def PR(K:PySem.W.Frag)(neg:Bool):R2:=fun x y H Q=>∃U a b,Rp K U H a x/\Rp K U H b y/\SeqAt.shaped a=true/\SeqAt.shaped b=true/\Q (.bl (neg ^^ PyData.eqv a b)) H
theorem aX(hu:X.A.units+64<cLine):OpR X (compareOp .Eq) (PR X.K false):=by
 intro pins s Y H x y v u Q I rx ry h
 obtain⟨U,a,b,ha,hb,sa,sb,q⟩:=h
 obtain⟨as,ra⟩:=fv I ha rx
 obtain⟨bs,rb⟩:=fv I hb ry
 exact eq_dataH ra rb sa sb hu ⟨.bl (PyData.eqv a b),H,I,rfl,by simpa using q⟩
theorem km(hu:X.A.units+64<cLine):OpR X (compareOp .NotEq) (PR X.K true):=by
 intro pins s Y H x y v u Q I rx ry h
 obtain⟨U,a,b,ha,hb,sa,sb,q⟩:=h
 obtain⟨as,ra⟩:=fv I ha rx
 obtain⟨bs,rb⟩:=fv I hb ry
 exact ne_dataH ra rb sa sb hu ⟨.bl (!PyData.eqv a b),H,I,rfl,by simpa using q⟩
noncomputable def bV(neg:Bool):D->D->Mu->DK->Prop:=fun x y U Q=>match x,y with
 |.v a,.v b=>SeqAt.shaped a=true/\SeqAt.shaped b=true/\Q (.v (.bool (neg ^^ PyData.eqv a b))) U
 |_,_=>False
theorem aP{K:PySem.W.Frag}{neg:Bool}:hV K (PR K neg) (bV neg):=by
 intro x y ux uy H U Qd Q ok rx ry h k
 unfold bV at h
 split at h
 ·rename_i a b
  exact⟨U,a,b,rx,ry,h.1,h.2.1,k (.v _) _ U H .refl ok (Rp.bool _) h.2.2⟩
 ·exact h.elim
noncomputable def PF(K:PySem.W.Frag)(neg:Bool):R2:=fun x y H Q=>∃U a bs,Rp K U H a x/\Rp K U H (.list bs) y/\PyData.canLayAll0 bs=true/\a.canLay0=true/\PyData.depth a<=60/\Q (.bl (neg ^^ bs.any fun b=>PyData.eqv b a)) H
theorem Qi(hu:X.A.units+64<cLine):OpR X (compareOp .In) (PF X.K false):=by
 intro pins s Y H x y v u Q I rx ry h
 obtain⟨U,a,b,ha,hb,sb,sa,dp,q⟩:=h
 obtain⟨as,ra⟩:=fv I ha rx
 obtain⟨bs,rb⟩:=fv I hb ry
 refine SeqAt.in_list_reads rb ra sb sa ∅ ⟨.bl (b.any fun z=>PyData.eqv z a),H,I,rfl,by simpa using q⟩
theorem JB(hu:X.A.units+64<cLine):OpR X (compareOp .NotIn) (PF X.K true):=by
 intro pins s Y H x y v u Q I rx ry h
 obtain⟨U,a,b,ha,hb,sb,sa,dp,q⟩:=h
 obtain⟨as,ra⟩:=fv I ha rx
 obtain⟨bs,rb⟩:=fv I hb ry
 refine SeqAt.notIn_list_reads rb ra sb sa ∅ ⟨.bl (!b.any fun z=>PyData.eqv z a),H,I,rfl,by simpa using q⟩
noncomputable def Lp(neg:Bool):D->D->Mu->DK->Prop:=fun x y U Q=>match x,y with
 |.v a,.v (.list bs)=>PyData.canLayAll0 bs=true/\a.canLay0=true/\PyData.depth a<=60/\Q (.v (.bool (neg ^^ bs.any fun b=>PyData.eqv b a))) U
 |_,_=>False
theorem Kj{K:PySem.W.Frag}{neg:Bool}:hV K (PF K neg) (Lp neg):=by
 intro x y ux uy H U Qd Q ok rx ry h k
 unfold Lp at h
 split at h
 ·rename_i a b
  exact⟨U,a,b,rx,ry,h.1,h.2.1,h.2.2.1,k (.v _) _ U H .refl ok (Rp.bool _) h.2.2.2⟩
 ·exact h.elim
end
section
variable {X:Cx}{a b e:Expr}{es:List Expr}{ta tb te:DTE}{t:DTA}{p pos:Pos}
noncomputable def ax:D->D->Mu->DK->Prop:=fun x y U Q=>match x,y with
 |.v (.list xs),.v (.int i)=>(match atI xs i with|some d=>Q (.v d) U|none=>False)
 |.v (.tuple xs),.v (.int i)=>(match atI xs i with|some d=>Q (.v d) U|none=>False)
 |.m l,.v (.int i)=>(match U l with
  |some xs=>(match atI xs i with|some d=>Q (.v d) U|none=>False)
  |none=>False)
 |.s ns,.v (.int i)=>(match atI ns i with|some d=>Q (.v (.int d)) U|none=>False)
 |_,_=>False
theorem Rq{K:PySem.W.Frag}:hV K (rIx K) ax:=by
 intro x y ux uy H U Qd Q ok rx ry h k
 unfold ax at h
 split at h
 ·rename_i xs i
  cases ry
  cases q:atI xs i with
  |none=>rw[q] at h;exact h.elim
  |some d=>
   rw[q] at h
   cases rx with
   |list hs hn r=>
    obtain⟨u,e1,e2⟩:=Gv r q
    exact .inl ⟨_,_,i,u,rfl,rfl,SqL.of hs,e1,k (.v d) u U H .refl ok e2 h⟩
 ·rename_i xs i
  cases ry
  cases q:atI xs i with
  |none=>rw[q] at h;exact h.elim
  |some d=>
   rw[q] at h
   cases rx with
   |tuple hs r=>
    obtain⟨u,e1,e2⟩:=Gv r q
    exact .inr (.inl ⟨_,_,i,u,rfl,rfl,hs,e1,k (.v d) u U H .refl ok e2 h⟩)
 ·rename_i l i
  cases ry
  obtain⟨rfl,ds,hm⟩:=rx
  rw[hm] at h
  simp only at h
  cases q:atI ds i with
  |none=>rw[q] at h;exact h.elim
  |some d=>
   rw[q] at h
   obtain⟨us,hl,r⟩:=ok l ds hm
   obtain⟨u,e1,e2⟩:=Gv r q
   exact .inl ⟨_,_,i,u,rfl,rfl,SqL.of hl,e1,k (.v d) u U H .refl ok e2 h⟩
 ·rename_i ns i
  cases ry
  obtain⟨a,rfl,hs,hn⟩:=rx
  cases q:atI ns i with
  |none=>rw[q] at h;exact h.elim
  |some d=>
   rw[q] at h
   have e1:atI (ns.map V.int) i=some (.int d):=by
    unfold atI at q ⊢
    rw[length_map]
    cases z:ixN ns.length i with
    |none=>rw[z] at q;cases q
    |some j=>
     rw[z] at q
     simp only[bind_some,getElem?_map] at q ⊢
     rw[q]<;>rfl
   exact .inl ⟨_,_,i,_,rfl,rfl,hs,e1,k (.v (.int d)) _ U H .refl ok (Rp.int d) h⟩
 ·exact h.elim
theorem ar(ha:DE X a ta)(hb:DE X b tb)(hs:IT b:=by exact fun _ _=>rfl):DE X (.Subscript a b pos) (dOp ax ta tb):=by
 obtain⟨t1,p1,l1⟩:=ha
 obtain⟨t2,p2,l2⟩:=hb
 exact⟨_,Q5 DF p1 p2 hs,xY Rq l1 l2⟩
theorem Kk{prog:Program}{w:World}{A:Around}{E:Value->Shared->Prop}{s:Shared}{t b:Addr}{ws:List Value}{Q:Value->Shared->Prop}(ht:IsTup s.heap t #[])(hb:IsTup s.heap b ws.toArray)
  (h1:Q (.ref b) s):wpAny (model prog w) A (binaryOp .Add (.ref t) (.ref b)) Q E s:=by
 obtain⟨⟨cls,dd,data,sl⟩,ho,hc,n,hd⟩:=id ht
 obtain⟨⟨cls2,dd2,data2,sl2⟩,ho2,hc2,n2,hd2⟩:=id hb
 simp only at hc hd hc2 hd2
 subst hc hd hc2 hd2
 exact concat_meets ⟨_,ho,rfl⟩ ⟨_,ho2,rfl⟩ noFill_tuple_add seq_tuple_add PySem.F.slot_tuple_add PySem.F.entry_tuple_add (PySem.F.args_tuple_add_2 _ _)
  (tuple_addW0 t b #[] ws.toArray n n2 dd dd2 sl sl2 rfl) ⟨ho,ho2,h1⟩
noncomputable def lZ(U:Mu):D->Option (List PyData)
 |.v (.list xs)=>some xs
 |.m l=>U l
 |_=>none
theorem Fc{K:PySem.W.Frag}{U:Mu}{H:Hp}{x:D}{u:V}{xs:List PyData}(ok:cQ K U H)(r:RpD K U H x u)(h:lZ U x=some xs):∃a us,u = .ref a/\H a=some (.lst us)/\RpL K U H xs us:=by
 cases x with
 |v d=>
  cases d<;>simp only[lZ] at h<;>try cases h
  cases r with
  |list hs _ q=>exact⟨_,_,rfl,hs,q⟩
 |m l=>
  obtain⟨rfl,ds,hm⟩:=r
  obtain⟨us,hl,q⟩:=ok l xs h
  exact⟨l,us,rfl,hl,q⟩
 |s ns=>cases h
 |o a=>cases h
 |b a=>cases h
 |q P=>cases h
noncomputable def IB:D->D->Mu->DK->Prop:=fun x y U Q=>match lZ U x,lZ U y with
 |some xs,some ys=>xs.length+ys.length<=1000/\Q (.v (.list (xs++ys))) U
 |_,_=>False
theorem Ii{n:Nat}(h:n<=1000):n<=sizeLine:=Nat.le_of_lt (jB h)
theorem O3{K:PySem.W.Frag}:hV K Oy IB:=by
 intro x y ux uy H U Qd Q ok rx ry h k
 unfold IB at h
 split at h
 ·rename_i xs ys hx hy
  obtain⟨a,us,rfl,ha,ra⟩:=Fc ok rx hx
  obtain⟨b,ws,rfl,hb,rb⟩:=Fc ok ry hy
  refine⟨a,b,us,ws,rfl,rfl,ha,hb,Ii (by rw[<- ra.length,<- rb.length];exact h.1),fun p hp=>?_⟩
  exact k (.v _) _ U _ (d8 hp) (ok.new hp) (ic ok (ra.append rb) hp) h.2
 ·exact h.elim
noncomputable def Gw(K:PySem.W.Frag):R2:=fun x y H Q=>∃a b xs ys,x = .ref a/\y = .ref b/\SqT K H a xs/\SqT K H b ys/\xs.length+ys.length<=sizeLine /\
 (xs=[]->Q (.ref b) H)/\(ys=[]->Q (.ref a) H)/\(∀p,H p=none->Q (.ref p) (upd H p (.tup (xs++ys))))
theorem LC:OpR X (binaryOp .Add) (Gw X.K):=by
 intro pins s Y H x y v u Q I rx ry h
 obtain⟨a,b,xs,ys,rfl,rfl,ha,hb,hz,q0,q1,q2⟩:=h
 by_cases hx:xs=[]
 ·subst hx
  cases rx
  cases ry
  obtain⟨its,r1,p1,_⟩:=I.tuple ha
  obtain⟨its2,r2,p2,_⟩:=I.tuple hb
  cases r1
  exact Kk p1 p2 ⟨.ref b,H,I,rfl,q0 rfl⟩
 ·exact Mo pins s Y H _ _ v u Q I rx ry ⟨a,b,xs,ys,rfl,rfl,ha,hb,hx,hz,q1,fun _=>q2⟩
noncomputable def K8:D->D->Mu->DK->Prop:=fun x y U Q=>match x,y with
 |.v (.tuple xs),.v (.tuple ys)=>xs.length+ys.length<=1000/\Q (.v (.tuple (xs++ys))) U
 |_,_=>False
theorem Nl{K:PySem.W.Frag}:hV K (Gw K) K8:=by
 intro x y ux uy H U Qd Q ok rx ry h k
 unfold K8 at h
 split at h
 ·rename_i xs ys
  cases id rx with
  |@tuple a us _ ha ra=>
   cases id ry with
   |@tuple b ws _ hb rb=>
    refine⟨a,b,us,ws,rfl,rfl,ha,hb,Ii (by rw[<- ra.length,<- rb.length];exact h.1),fun z=>?_,fun z=>?_,fun p hp=>?_⟩
    ·subst z
     cases ra
     exact k (.v _) _ U H .refl ok ry (by simpa using h.2)
    ·subst z
     cases rb
     exact k (.v _) _ U H .refl ok rx (by simpa using h.2)
    ·exact k (.v _) _ U _ (d8 hp) (ok.new hp) (iF ok (ra.append rb) hp) h.2
 ·exact h.elim
end
end L2.DL
namespace HT
open PySem PyProof.Rows
section
variable {prog:Program}{w:World}{A:Around}{E:Value->Shared->Prop}{s:Shared}
theorem vh{t sl:Addr}{items:Array Value}{vl vu:Value}{lo hi:Option Int}{Q:Value->Shared->Prop}(ht:IsTup s.heap t items)(hs:s.heap.IsSliceOf sl vl vu .none)(pl:IsPart vl lo)(pu:IsPart vu hi)
  (hw:sIx items.size 0 lo=0/\sIx items.size items.size hi=items.size) (h:Q (.ref t) s):wpAny (model prog w) A (getItem (.ref t) (.ref sl)) Q E s:=by
 obtain⟨os,hos,hcs,hds⟩:=id hs
 have hTs:s.TypeIs (.ref sl) "slice":=⟨os,hos,hcs⟩
 unfold getItem
 try with_reducible refine wpAny_holding ?_
 first|refine wpAny_bind (wpAny_pure ?_)|skip
 refine wpAny_bind (wpAny_sequenceKey ht.typeIs ⋯ ?_)
 refine wpAny_bind (wpAny_callSpecial?_slot (name:=Str.ofString "__getitem__") ht.typeIs PyProof.Rows.slot_tuple_getitem
  (wpAny_call_entry PyProof.Rows.slot_tuple_getitem ht.typeIs entry_tuple_getitem ?_ (args_tuple_getitem _ _)))
 show wpAny _ _ (Builtin.Tuple.tupleItemsOf (.ref t)>>=_) _ _ s
 refine wpAny_bind (tupleItemsOf_ ht ?_)
 refine wpAny_bind (wpAny_typeOf hTs ?_)
 rw[if_pos ⋯]
 refine wpAny_bind (my hs pl pu ?_)
 have hno:((((sIx items.size 0 lo:Nat):Int)==0&&(1:Int)==1&&(sIx items.size items.size hi-sIx items.size 0 lo)==items.size)=true):=by
  rw[hw.1,hw.2]
  simp
 show wpAny _ _ (if (((sIx items.size 0 lo:Nat):Int)==0&&(1:Int)==1&&(sIx items.size items.size hi-sIx items.size 0 lo)==items.size)=true then _ else _) _ _ s
 rw[if_pos hno]
 refine wpAny_bind ?_
 unfold Builtin.Tuple.tupleIsExact
 refine wpAny_bind (wpAny_typeOf ht.typeIs (wpAny_pure ?_))
 rw[if_pos ⋯]
 refine wpAny_bind (wpAny_rule ?_)
 exact wpAny_pure ⟨_,rfl,wpAny_pure h⟩
end
end HT
namespace L2.DL
open PySem PySem.Spec PyProof.Rows
section
variable {X:Cx}{a b e:Expr}{lo hi:Option Expr}{ta tb te:DTE}{pos p2:Pos}
noncomputable def y9{α:Type}(xs:List α)(lo hi:Option Int):List α:=(xs.drop (HT.sIx xs.length 0 lo)).take (HT.sIx xs.length xs.length hi-HT.sIx xs.length 0 lo)
theorem RpL.cut{K:PySem.W.Frag}{U:Mu}{H:Hp}{ds:List PyData}{us:List V}{lo hi:Option Int}(r:RpL K U H ds us):RpL K U H (y9 ds lo hi) (DU us lo hi):=by
 unfold y9 DU
 rw[r.length]
 exact (r.drop _).take _
theorem Nw{α:Type}{xs:List α}{lo hi:Option Int}(h:HT.sIx xs.length 0 lo=0/\HT.sIx xs.length xs.length hi=xs.length):y9 xs lo hi=xs:=by
 unfold y9
 rw[h.1,h.2]
 simp
noncomputable def Rf(K:PySem.W.Frag):V->Option Int->Option Int->Hp->VK->Prop:=fun x lo hi H Q=>∃a xs,x = .ref a/\SqT K H a xs /\
 (HT.sIx xs.length 0 lo=0/\HT.sIx xs.length xs.length hi=xs.length->Q (.ref a) H)/\∀p,H p=none->Q (.ref p) (upd H p (.tup (DU xs lo hi)))
theorem Na:SlR X (Rf X.K):=by
 intro pins s Y H x v vl vu lo hi sl Q I rx hs pl pu h
 obtain⟨a,xs,rfl,hx,q1,q⟩:=h
 by_cases hw:HT.sIx xs.length 0 lo=0/\HT.sIx xs.length xs.length hi=xs.length
 ·cases rx
  obtain⟨its,r,ht,hz⟩:=I.tuple hx
  have hlen:its.toArray.size=xs.length:=by rw[size_toArray];exact r.length.symm
  refine⟨"tuple",_,PyProof.Rows.slot_tuple_getitem.lookup,ht.typeIs,?_⟩
  exact HT.vh ht hs pl pu (by rw[hlen];exact hw) ⟨.ref a,H,I,rfl,q1 hw⟩
 ·exact O1 pins s Y H _ v vl vu lo hi sl Q I rx hs pl pu ⟨a,xs,rfl,hx,hw,q⟩
noncomputable abbrev DTO:=Rho->Mu->(Option Int->Mu->Prop)->Prop
noncomputable def QW(K:PySem.W.Frag)(t:TO)(td:DTO):Prop:=∀(Y:St) (H:Hp) (ρ:Rho) (U:Mu) (Qd:Option Int->Mu->Prop) (Q:Option Int->Hp->Prop),St0 K H ρ U Y->td ρ U Qd ->
 (∀o O H',Ext K U H O H'->St0 K H' ρ O Y->Qd o O->Q o H')->t Y H Q
noncomputable def DO(X:Cx)(e:Option Expr)(td:DTO):Prop:=∃t,PO X e t/\QW X.K t td
noncomputable def Dh:DTO:=fun _ U Q=>Q none U
noncomputable def EW(t:DTE):DTO:=fun ρ U Q=>t ρ U fun x ac=>match x with
 |.v (.int i)=>Q (some i) ac
 |_=>False
theorem LS:DO X none Dh:=⟨_,Nj,fun Y H ρ U Qd Q S h k=>k none U H .refl S h⟩
theorem CD(h:DE X e te):DO X (some e) (EW te):=by
 obtain⟨t1,p1,l1⟩:=h
 refine⟨_,MJ p1,fun Y H ρ U Qd Q S h k=>?_⟩
 refine l1 Y H ρ U _ _ S h fun x ux ac H1 e1 S1 rx h1=>?_
 split at h1
 ·cases rx
  exact⟨_,rfl,k _ ac H1 e1 S1 h1⟩
 ·exact h1.elim
noncomputable def LQ(x:D)(lo hi:Option Int)(U:Mu)(Q:DK):Prop:=match x with
 |.v (.tuple xs)=>Q (.v (.tuple (y9 xs lo hi))) U
 |.v (.list xs)=>Q (.v (.list (y9 xs lo hi))) U
 |.m l=>(match U l with|some xs=>Q (.v (.list (y9 xs lo hi))) U|none=>False)
 |_=>False
noncomputable def dSl(te:DTE)(tl th:DTO):DTE:=fun ρ U Q=>te ρ U fun x ac=>tl ρ ac fun l ad=>th ρ ad fun u ap=>LQ x l u ap Q
theorem Eo{tl th:DTO}(he:DE X e te)(hl:DO X lo tl)(hu:DO X hi th):DE X (.Subscript e (.Slice lo hi none p2) pos) (dSl te tl th):=by
 obtain⟨t1,p1,l1⟩:=he
 obtain⟨t2,p2,l2⟩:=hl
 obtain⟨t3,p3,l3⟩:=hu
 refine⟨_,J5 (Me.or Na) p1 p2 p3,fun Y H ρ U Qd Q S h k=>?_⟩
 refine l1 Y H ρ U _ _ S h fun x ux ac H1 e1 S1 rx h1=>?_
 refine l2 Y H1 ρ ac _ _ S1 h1 fun l ad H2 e2 S2 h2=>?_
 refine l3 Y H2 ρ ad _ _ S2 h2 fun u ap H3 e3 S3 h3=>?_
 have rx3:=(rx.ext S1.mu e2).ext S2.mu e3
 have ee:=e1.trans (e2.trans e3)
 unfold LQ at h3
 split at h3
 ·rename_i xs
  cases id rx3 with
  |@tuple a us _ ha ra=>
   refine .inr ⟨a,us,rfl,ha,fun hw=>?_,fun p hp=>?_⟩
   ·refine k (.v _) _ ap H3 ee S3 (show Rp _ _ _ (.tuple (y9 xs l u)) _ from ?_) h3
    rw[Nw (by rw[ra.length];exact hw)]
    exact rx3
   ·exact k (.v _) _ ap _ (ee.trans (d8 hp)) (S3.new hp) (iF S3.mu ra.cut hp) h3
 ·rename_i xs
  cases id rx3 with
  |@list a us _ ha hn ra=>exact .inl ⟨a,us,rfl,SqL.of ha,fun p hp=>k (.v _) _ ap _ (ee.trans (d8 hp)) (S3.new hp) (ic S3.mu ra.cut hp) h3⟩
 ·rename_i a
  obtain⟨rfl,ds,hm⟩:=rx3
  rw[hm] at h3
  obtain⟨us,ha,ra⟩:=S3.mu a ds hm
  exact .inl ⟨a,us,rfl,SqL.of ha,fun p hp=>k (.v _) _ ap _ (ee.trans (d8 hp)) (S3.new hp) (ic S3.mu ra.cut hp) h3⟩
 ·exact h3.elim
end
section
variable {X:Cx}{a b e:Expr}{es:List Expr}{ta tb te:DTE}{t:DTA}{p pos:Pos}{x:Str}{bid T:String}
noncomputable def mi(K:PySem.W.Frag)(r:List V->Hp->VK->Prop)(rd:List D->Mu->DK->Prop):Prop:=∀(xs:List D) (us:List V) (H:Hp) (U:Mu) (Qd:DK) (Q:VK),cQ K U H->kq K U H xs us->rd xs U Qd ->
 (∀d u O H',Ext K U H O H'->cQ K O H'->RpD K O H' d u->Qd d O->Q u H')->r us H Q
noncomputable def dCB(rd:List D->Mu->DK->Prop)(t:DTA):DTE:=fun ρ U Q=>t ρ U fun ds ac=>rd ds ac Q
theorem Iy{K:PySem.W.Frag}{n:Nat}{r:List V->Hp->VK->Prop}{rd:List D->Mu->DK->Prop}{t1:TA}(lc:mi K r rd)(l1:NV K n t1 t):uR K (tCB r t1) (dCB rd t):=by
 intro Y H ρ U Qd Q S h k
 refine l1 Y H ρ U _ _ S h fun xs us ac H1 e1 S1 rs len h1=>?_
 exact lc xs us H1 ac _ _ S1.mu rs h1 fun d u O H' e2 ok r q=>k d u O H' (e1.trans e2) ⟨ok,S1.rho.ext S1.mu e2⟩ r q
theorem iY{r:List V->Hp->VK->Prop}{rd:List D->Mu->DK->Prop}(hc:jo X (.builtin bid) r)(lc:mi X.K r rd)(hg:Gl X x)(hm:X.mg x=none)(hv:bootBuiltins x=some (.builtin bid))(ha:DA X (e::es) t)(hn:x ≠ "__name__":=by decide)(hdb:(x==("__debug__":Str))=false:=by decide)
  (he:starEach (e::es) X.env=(false,eval e X.env)::starEach es X.env:=by rfl) (hpl:(backTo pos (starEach es X.env)).any (·.1)=false:=by rfl):DE X (.Call (.Name x p) (e::es) [] pos) (dCB rd t):=by
 obtain⟨t1,p1,l1⟩:=ha
 exact⟨_,EK hc hg hm hv p1 hn hdb he hpl,Iy lc l1⟩
theorem vv{r:List V->Hp->VK->Prop}{rd:List D->Mu->DK->Prop}(hc:jo X (.type T) r)(lc:mi X.K r rd)(hg:Gl X x)(hm:X.mg x=none)(hv:bootBuiltins x=some (.type T))(ha:DA X (e::es) t)(hn:x ≠ "__name__":=by decide)(hdb:(x==("__debug__":Str))=false:=by decide)
  (he:starEach (e::es) X.env=(false,eval e X.env)::starEach es X.env:=by rfl) (hpl:(backTo pos (starEach es X.env)).any (·.1)=false:=by rfl):DE X (.Call (.Name x p) (e::es) [] pos) (dCB rd t):=by
 obtain⟨t1,p1,l1⟩:=ha
 exact⟨_,Jf hc hg hm hv p1 hn hdb he hpl,Iy lc l1⟩
noncomputable def cL:List D->Mu->DK->Prop:=fun xs U Q=>match xs with
 |[.v (.list ys)]=>Q (.v (.int (ys.length:Nat))) U
 |[.v (.tuple ys)]=>Q (.v (.int (ys.length:Nat))) U
 |[.m l]=>(match U l with|some ys=>Q (.v (.int (ys.length:Nat))) U|none=>False)
 |[.s ns]=>Q (.v (.int (ns.length:Nat))) U
 |_=>False
theorem QC{K:PySem.W.Frag}:mi K (fun xs H Q=>∃p ys,xs=[.ref p]/\(SqL K H p ys\/SqT K H p ys)/\Q (.int ys.length) H) cL:=by
 intro xs us H U Qd Q ok rs h k
 unfold cL at h
 split at h
 ·cases rs with
  |cons r1 r2=>
   cases r2
   cases r1 with
   |list hs hn r=>exact⟨_,_,rfl,.inl (SqL.of hs),k (.v _) _ U H .refl ok (by rw[<- r.length];exact Rp.int _) h⟩
 ·cases rs with
  |cons r1 r2=>
   cases r2
   cases r1 with
   |tuple hs r=>exact⟨_,_,rfl,.inr hs,k (.v _) _ U H .refl ok (by rw[<- r.length];exact Rp.int _) h⟩
 ·cases rs with
  |cons r1 r2=>
   cases r2
   obtain⟨rfl,ds,hm⟩:=r1
   rw[hm] at h
   obtain⟨us,hl,r⟩:=ok _ ds hm
   exact⟨_,_,rfl,.inl (SqL.of hl),k (.v _) _ U H .refl ok (by rw[<- r.length];exact Rp.int _) h⟩
 ·cases rs with
  |cons r1 r2=>
   cases r2
   obtain⟨a,rfl,hs,hn⟩:=r1
   exact⟨_,_,rfl,.inl hs,k (.v _) _ U H .refl ok (by rw[length_map];exact Rp.int _) h⟩
 ·exact h.elim
theorem cT(hg:Gl X "len")(hm:X.mg "len"=none)(ha:DA X (e::es) t)
  (he:starEach (e::es) X.env=(false,eval e X.env)::starEach es X.env:=by rfl) (hpl:(backTo pos (starEach es X.env)).any (·.1)=false:=by rfl):DE X (.Call (.Name "len" p) (e::es) [] pos) (dCB cL t):=
 iY Dk QC hg hm PySem.boot_len ha ⋯ ⋯ he hpl
noncomputable def uh:List D->Mu->DK->Prop:=fun xs U Q=>match xs with
 |[.v (.int i)]=>Q (.v (.int (i.natAbs:Nat))) U
 |_=>False
theorem Pa{K:PySem.W.Frag}:mi K (fun xs H Q=>∃i,xs=[.int i]/\Q (.int (if i<0 then -i else i)) H) uh:=by
 intro xs us H U Qd Q ok rs h k
 unfold uh at h
 split at h
 ·rename_i i
  cases rs with
  |cons r1 r2=>
   cases r2
   cases r1
   refine⟨i,rfl,k (.v (.int (i.natAbs:Nat))) _ U H .refl ok ?_ h⟩
   have:(if i<0 then -i else i)=((i.natAbs:Nat):Int):=by split<;>omega
   rw[this]
   exact Rp.int _
 ·exact h.elim
theorem yI(hg:Gl X "abs")(hm:X.mg "abs"=none)(ha:DA X (e::es) t)
  (he:starEach (e::es) X.env=(false,eval e X.env)::starEach es X.env:=by rfl) (hpl:(backTo pos (starEach es X.env)).any (·.1)=false:=by rfl):DE X (.Call (.Name "abs" p) (e::es) [] pos) (dCB uh t):=
 iY J8 Pa hg hm PyProof.Rows.Boot.«abs» ha ⋯ ⋯ he hpl
noncomputable def FL(g:Int->Int->Int):List D->Mu->DK->Prop:=fun xs U Q=>match xs with
 |[.v (.int i),.v (.int j)]=>Q (.v (.int (g i j))) U
 |_=>False
theorem NR{K:PySem.W.Frag}{g g':Int->Int->Int}(hg:∀i j,g i j=g' i j):mi K (fun xs H Q=>∃i j,xs=[.int i,.int j]/\Q (.int (g i j)) H) (FL g'):=by
 intro xs us H U Qd Q ok rs h k
 unfold FL at h
 split at h
 ·rename_i i j
  cases rs with
  |cons r1 r2=>
   cases r2 with
   |cons r2 r3=>
    cases r3
    cases r1
    cases r2
    exact⟨i,j,rfl,k (.v _) _ U H .refl ok (by rw[hg];exact Rp.int _) h⟩
 ·exact h.elim
theorem O8(hc:X.calm=true)(hg:Gl X "max")(hm:X.mg "max"=none)(ha:DA X (e::es) t)
  (he:starEach (e::es) X.env=(false,eval e X.env)::starEach es X.env:=by rfl) (hpl:(backTo pos (starEach es X.env)).any (·.1)=false:=by rfl):DE X (.Call (.Name "max" p) (e::es) [] pos) (dCB (FL max) t):=
 iY (JK hc) (NR (fun i j=>by show (if j>i then j else i)=max i j;simp only[Int.max_def];split<;>split<;>omega)) hg hm PyProof.Rows.Boot.«max» ha ⋯ ⋯ he hpl
theorem Lb(hc:X.calm=true)(hg:Gl X "min")(hm:X.mg "min"=none)(ha:DA X (e::es) t)
  (he:starEach (e::es) X.env=(false,eval e X.env)::starEach es X.env:=by rfl) (hpl:(backTo pos (starEach es X.env)).any (·.1)=false:=by rfl):DE X (.Call (.Name "min" p) (e::es) [] pos) (dCB (FL min) t):=
 iY (JD hc) (NR (fun i j=>by show (if j<i then j else i)=min i j;simp only[Int.min_def];split<;>split<;>omega)) hg hm PyProof.Rows.Boot.«min» ha ⋯ ⋯ he hpl
noncomputable def rA:List D->Mu->DK->Prop:=fun xs U Q=>match xs with
 |[.v (.int i)]=>Q (.v (.int i)) U
 |[.v (.bool k)]=>Q (.v (.int (if k then 1 else 0))) U
 |_=>False
theorem P9{K:PySem.W.Frag}:mi K (fun xs H Q=>(∃i,xs=[.int i]/\Q (.int i) H)\/∃k,xs=[.bl k]/\Q (.int (if k then 1 else 0)) H) rA:=by
 intro xs us H U Qd Q ok rs h k
 unfold rA at h
 split at h
 ·rename_i i
  cases rs with
  |cons r1 r2=>cases r2;cases r1;exact .inl ⟨i,rfl,k (.v _) _ U H .refl ok (Rp.int _) h⟩
 ·rename_i b
  cases rs with
  |cons r1 r2=>cases r2;cases r1;exact .inr ⟨b,rfl,k (.v _) _ U H .refl ok (Rp.int _) h⟩
 ·exact h.elim
theorem lQ(hg:Gl X "int")(hm:X.mg "int"=none)(ha:DA X (e::es) t)
  (he:starEach (e::es) X.env=(false,eval e X.env)::starEach es X.env:=by rfl) (hpl:(backTo pos (starEach es X.env)).any (·.1)=false:=by rfl):DE X (.Call (.Name "int" p) (e::es) [] pos) (dCB rA t):=
 vv Jq P9 hg hm PyProof.Rows.Boot.«int» ha ⋯ ⋯ he hpl
noncomputable def vZ:List D->Mu->DK->Prop:=fun xs U Q=>match xs with
 |[.v (.list ys)]=>Q (.v (.list ys)) U
 |[.v (.tuple ys)]=>Q (.v (.list ys)) U
 |_=>False
theorem L1{K:PySem.W.Frag}:mi K (fun xs H Q=>∃p ys,xs=[.ref p]/\(SqL K H p ys\/SqT K H p ys)/\∀l,H l=none->Q (.ref l) (upd H l (.lst ys))) vZ:=by
 intro xs us H U Qd Q ok rs h k
 unfold vZ at h
 split at h
 ·cases rs with
  |cons r1 r2=>
   cases r2
   cases r1 with
   |list hs hn r=>exact⟨_,_,rfl,.inl (SqL.of hs),fun p hp=>k (.v _) _ U _ (d8 hp) (ok.new hp) (ic ok r hp) h⟩
 ·cases rs with
  |cons r1 r2=>
   cases r2
   cases r1 with
   |tuple hs r=>exact⟨_,_,rfl,.inr hs,fun p hp=>k (.v _) _ U _ (d8 hp) (ok.new hp) (ic ok r hp) h⟩
 ·exact h.elim
theorem Iz(hg:Gl X "list")(hm:X.mg "list"=none)(ha:DA X (e::es) t)
  (he:starEach (e::es) X.env=(false,eval e X.env)::starEach es X.env:=by rfl) (hpl:(backTo pos (starEach es X.env)).any (·.1)=false:=by rfl):DE X (.Call (.Name "list" p) (e::es) [] pos) (dCB vZ t):=
 vv D2 L1 hg hm PyProof.Rows.Boot.«list» ha ⋯ ⋯ he hpl
theorem Ep:∀{bs:List Bool} {us:List Value},Vals (bs.map V.bl) us->us=bs.map Value.bool
 |[],_,.nil=>rfl
 |b::r,_,.cons h t=>by cases h;rw[Ep t];rfl
theorem JL(hc:X.calm=true):jo X (.builtin "all") (fun xs H Q=>∃(p:Addr) (bs:List Bool),xs=[.ref p]/\H p=some (.lst (bs.map V.bl))/\Q (.bl (bs.all id)) H):=by
 intro pins s Y H xs us Q I r h
 obtain⟨l,bs,rfl,hl,q⟩:=h
 obtain⟨u,rfl,rx⟩:=vals1 r
 cases rx
 obtain⟨its,rv,pl,_⟩:=I.list (SqL.of hl)
 have eb:=Ep rv
 subst eb
 have hL:=pl.isList
 have hlt:=pl.lt
 refine call_all_walk (wpAny_pyIter_list hL ?_)
 refine⟨s.heap.objs.size,[s.heap.objs.size,l],[s.heap.objs.size],(bs.map Value.bool).toArray.size,_,_,fun i=>(bs[i]?).getD true,rfl,Walks.list (A:=X.A.in1) (by exact I.ok.hd hc) _ l (ne_of_lt hlt) (bs.map Value.bool).toArray,
  ⟨⟨_,Heap.get?_push_size _ rfl,rfl,rfl⟩,hL.push _⟩,fun i v s' Q' E' hP hQ=>?_,fun h' tk hk=>?_⟩
 ·have hP':(bs.map Value.bool)[i]? = some v:=by simpa using hP
  rw[getElem?_map] at hP'
  cases z:bs[i]? with
  |none=>rw[z] at hP';cases hP'
  |some b=>
   rw[z] at hP'
   cases hP'
   simp only[z,Option.getD_some] at hQ
   exact wpAny_truthy_bool hQ
 ·have e:((List.range (bs.map Value.bool).toArray.size).all fun i=>(bs[i]?).getD true)=bs.all id:=by
   rw[size_toArray,length_map];exact PyProof.Rows.LSm.range_all bs
  rw[e]
  exact⟨.bl (bs.all id),H,I.kept (PyProof.Rows.LSm.kept_iter hk),rfl,q⟩
noncomputable def dy:List PyData->Option (List Bool)
 |[]=>some []
 |.bool b::r=>(dy r).map (b::·)
 |_::_=>none
theorem zy{K:PySem.W.Frag}{U:Mu}{H:Hp}:∀{xs:List PyData} {us:List V} {bs:List Bool},RpL K U H xs us->dy xs=some bs->us=bs.map V.bl
 |_,_,_,.nil,e=>by cases e;rfl
 |.bool b::r,_,bs,.cons h t,e=>by
  simp only[dy] at e
  cases q:dy r with
  |none=>rw[q] at e;cases e
  |some cs=>rw[q] at e;cases e;cases h;rw[zy t q];rfl
 |.none::r,_,bs,.cons h t,e=>by simp[dy] at e
 |.int _::r,_,bs,.cons h t,e=>by simp[dy] at e
 |.str _::r,_,bs,.cons h t,e=>by simp[dy] at e
 |.list _::r,_,bs,.cons h t,e=>by simp[dy] at e
 |.tuple _::r,_,bs,.cons h t,e=>by simp[dy] at e
 |.dict _::r,_,bs,.cons h t,e=>by simp[dy] at e
noncomputable def xg:List D->Mu->DK->Prop:=fun xs U Q=>match xs with
 |[.v (.list ys)]=>(match dy ys with|some bs=>Q (.v (.bool (bs.all id))) U|none=>False)
 |_=>False
theorem PL{K:PySem.W.Frag}:mi K (fun xs H Q=>∃(p:Addr) (bs:List Bool),xs=[.ref p]/\H p=some (.lst (bs.map V.bl))/\Q (.bl (bs.all id)) H) xg:=by
 intro xs us H U Qd Q ok rs h k
 unfold xg at h
 split at h
 ·rename_i ys
  cases q:dy ys with
  |none=>rw[q] at h;exact h.elim
  |some bs=>
   rw[q] at h
   cases rs with
   |cons r1 r2=>
    cases r2
    cases r1 with
    |list hs hn r=>exact⟨_,bs,rfl,by rw[hs,zy r q],k (.v _) _ U H .refl ok (Rp.bool _) h⟩
 ·exact h.elim
theorem C8(hc:X.calm=true)(hg:Gl X "all")(hm:X.mg "all"=none)(ha:DA X (e::es) t)
  (he:starEach (e::es) X.env=(false,eval e X.env)::starEach es X.env:=by rfl) (hpl:(backTo pos (starEach es X.env)).any (·.1)=false:=by rfl):DE X (.Call (.Name "all" p) (e::es) [] pos) (dCB xg t):=
 iY (JL hc) PL hg hm PyProof.Rows.Boot.«all» ha ⋯ ⋯ he hpl
noncomputable def tyD:PyData->String
 |.none=>"NoneType"
 |.bool _=>"bool"
 |.int _=>"int"
 |.str _=>"str"
 |.list _=>"list"
 |.tuple _=>"tuple"
 |.dict _=>"dict"
noncomputable def isT(T:String)(d:PyData):Bool:=tyD d==T || (T == "int"&&tyD d == "bool")
theorem Jd{pins:List (Addr×Obj)}{Y:St}{H:Hp}{s:Shared}{U:Mu}{d:PyData}{u:V}{v:Value}{k:Bool}{A:Around}{E:Value->Shared->Prop}{Q:Value->Shared->Prop}(I:Inv X pins Y H s)(r:Rp X.K U H d u)(rx:RelV u v)
  (ek:kitOne X.K (.type (tyD d)) (.type T)=some k) (h:∀tk,Q (.bool k) {s with toks:=tk}):wpAny (model X.prog X.w) A (call (.builtin "isinstance") [v,.type T]) Q E s:=by
 cases r with
 |none=>cases rx;exact kia_one PySem.W.kitx_none I.kIn True.intro ek (fun z=>nomatch z) h
 |bool b=>cases rx;exact kia_one PySem.W.kitx_bool I.kIn True.intro ek (fun z=>nomatch z) h
 |int i=>obtain⟨t,rfl⟩:=rx;exact kia_one PySem.W.kitx_int I.kIn True.intro ek (fun z=>nomatch z) h
 |str y=>obtain⟨t,rfl⟩:=rx;exact kia_one PySem.W.kitx_str I.kIn True.intro ek (fun z=>nomatch z) h
 |list hs hn q=>
  cases rx
  obtain⟨its,rv,⟨o,n,h1,h2,_⟩,_⟩:=I.list (SqL.of hs)
  exact kia_one PySem.W.kitx_list I.kIn ⟨o,h1,h2⟩ ek (fun z=>nomatch z) h
 |tuple hs q=>
  cases rx
  obtain⟨its,rv,⟨o,h1,h2,_⟩,_⟩:=I.tuple hs
  exact kia_one PySem.W.kitx_tuple I.kIn ⟨o,h1,h2⟩ ek (fun z=>nomatch z) h
theorem Ik(K:PySem.W.Frag)(d:PyData):kitOne K (.type (tyD d)) (.type "int")=some (isT "int" d):=by cases d<;>rfl
theorem yS(K:PySem.W.Frag)(d:PyData):kitOne K (.type (tyD d)) (.type "bool")=some (isT "bool" d):=by cases d<;>rfl
theorem kit_tuple(K:PySem.W.Frag)(d:PyData):kitOne K (.type (tyD d)) (.type "tuple")=some (isT "tuple" d):=by cases d<;>rfl
theorem Fx(kt:∀d,kitOne X.K (.type (tyD d)) (.type T)=some (isT T d)):jo X (.builtin "isinstance") (fun xs H Q=>∃U d u,xs=[u,.ty T]/\Rp X.K U H d u/\Q (.bl (isT T d)) H):=by
 intro pins s Y H xs us Q I r h
 obtain⟨U,d,u,rfl,rd,q⟩:=h
 obtain⟨v,w',rfl,r1,r2⟩:=vals2 r
 cases r2
 exact Jd I rd r1 (kt d) fun tk=>⟨.bl (isT T d),H,I.tok _,rfl,q⟩
noncomputable def wb(T:String)(te:DTE):DTE:=fun ρ U Q=>te ρ U fun x ac=>match x with
 |.v d=>Q (.v (.bool (isT T d))) ac
 |_=>False
theorem iz{y:Str}{py:Pos}(kt:∀d,kitOne X.K (.type (tyD d)) (.type T)=some (isT T d))(hg:Gl X "isinstance")(hm:X.mg "isinstance"=none)(hgy:Gl X y)(hmy:X.mg y=none)(hvy:bootBuiltins y=some (.type T))(ha:DE X e te)
  (hny:y ≠ "__name__":=by decide) (hdy:(y==("__debug__":Str))=false:=by decide)
  (he:starEach [e,.Name y py] X.env=(false,eval e X.env)::starEach [.Name y py] X.env:=by rfl) (he2:starEach [.Name y py] X.env=[(false,eval (.Name y py) X.env)]:=by rfl) (hpl:(backTo pos (starEach [.Name y py] X.env)).any (·.1)=false:=by rfl):DE X (.Call (.Name "isinstance" p) [e,.Name y py] [] pos) (wb T te):=by
 obtain⟨t1,p1,l1⟩:=ha
 refine⟨_,EK (Fx kt) hg hm PyProof.Rows.Boot.«isinstance» (vj p1 (vj (ND (v:=.ty T) hgy hmy hvy rfl hny hdy) Ej he2) he) ⋯ ⋯ he hpl,fun Y H ρ U Qd Q S h k=>?_⟩
 refine l1 Y H ρ U _ _ S h fun x ux ac H1 e1 S1 rx h1=>?_
 split at h1
 ·exact⟨ac,_,ux,rfl,rx,k (.v _) _ ac H1 e1 S1 (Rp.bool _) h1⟩
 ·exact h1.elim
end
section
variable {X:Cx}{a b e:Expr}{es:List Expr}{ta tb te:DTE}{t:DTA}{p pos:Pos}{st:Stmt}{rest sts:List Stmt}{td ud:DTS}{tc:DTT}
noncomputable def aW:DTS:=fun Dd ρ U=>Dd.nx ρ U
noncomputable def aC(t u:DTS):DTS:=fun Dd ρ U=>t {Dd with nx:=u Dd} ρ U
noncomputable def aT(te:DTE):DTS:=fun Dd ρ U=>te ρ U Dd.rt
noncomputable def oS(te:DTE):DTS:=fun Dd ρ U=>te ρ U fun _ ac=>Dd.nx ρ ac
noncomputable def bQ(c:DTT)(t u:DTS):DTS:=fun Dd ρ U=>c ρ U fun b ac=>if b=true then t Dd ρ ac else u Dd ρ ac
theorem aH:DSs X [] aW:=⟨_,Mg,fun Y H ρ U Dd De S h k1 k2 k3 k4=>k1 Y ρ U H .refl S h⟩
theorem aj(h:DS X st td):DSs X [st] td:=let ⟨t,p,l⟩:=h;⟨t,Nv p,l⟩
theorem lift_seq{K:PySem.W.Frag}{t u:TS}(l1:B1 K t td)(l2:B1 K u ud):B1 K (R7 t u) (aC td ud):=by
 intro Y H ρ U Dd De S h k1 k2 k3 k4
 refine l1 Y H ρ U _ _ S h (fun al am O H' e' S' h'=>?_) k2 k3 k4
 exact l2 al H' am O Dd De S' h' (fun a b c d e2=>k1 a b c d (e'.trans e2)) (fun a b c d e2=>k2 a b c d (e'.trans e2)) (fun a b c d e2=>k3 a b c d (e'.trans e2)) (fun a b c d e2=>k4 a b c d (e'.trans e2))
theorem ai(h1:DS X st td)(h2:DSs X rest ud):DSs X (st::rest) (aC td ud):=by
 obtain⟨t1,p1,l1⟩:=h1
 obtain⟨t2,p2,l2⟩:=h2
 exact⟨_,JU p1 p2,lift_seq l1 l2⟩
theorem aA(he:DE X e te):DS X (.Return (some e) pos) (aT te):=by
 obtain⟨t1,p1,l1⟩:=he
 exact⟨_,Qu p1,fun Y H ρ U Dd De S h k1 k2 k3 k4=>l1 Y H ρ U _ _ S h fun d u O H' e' S' r q=>k2 d u O H' e' S'.mu r q⟩
theorem kC(he:DE X e te)(hs:swapsWith e none pos.line X.env=pure false:=by rfl):DS X (.Expr e pos) (oS te):=by
 obtain⟨t1,p1,l1⟩:=he
 exact⟨_,Mp p1 hs,fun Y H ρ U Dd De S h k1 k2 k3 k4=>l1 Y H ρ U _ _ S h fun d u O H' e' S' r q=>k1 Y ρ O H' e' S' q⟩
theorem aY{c:Expr}{x y:List Stmt}(hc:DT X c tc)(ha:DSs X x td)(hb:DSs X y ud):DS X (.If c x y pos) (bQ tc td ud):=by
 obtain⟨t0,p0,l0⟩:=hc
 obtain⟨t1,p1,l1⟩:=ha
 obtain⟨t2,p2,l2⟩:=hb
 refine⟨_,Rb p0 p1 p2,fun Y H ρ U Dd De S h k1 k2 k3 k4=>?_⟩
 refine l0 Y H ρ U _ _ S h fun c ac H1 e1 S1 h1=>?_
 cases c with
 |true=>exact FH (l1 Y H1 ρ ac Dd De S1 (by simpa using h1) (fun a b c d e2=>k1 a b c d (e1.trans e2)) (fun a b c d e2=>k2 a b c d (e1.trans e2)) (fun a b c d e2=>k3 a b c d (e1.trans e2)) (fun a b c d e2=>k4 a b c d (e1.trans e2)))
 |false=>exact Ey (l2 Y H1 ρ ac Dd De S1 (by simpa using h1) (fun a b c d e2=>k1 a b c d (e1.trans e2)) (fun a b c d e2=>k2 a b c d (e1.trans e2)) (fun a b c d e2=>k3 a b c d (e1.trans e2)) (fun a b c d e2=>k4 a b c d (e1.trans e2)))
noncomputable abbrev DTG:=D->Rho->Mu->(Rho->Mu->Prop)->Prop
noncomputable abbrev Bz:=List PyData->Rho->Mu->(Rho->Mu->Prop)->Prop
noncomputable def KJ(K:PySem.W.Frag)(g:TG)(gd:DTG):Prop:=∀(Y:St) (H:Hp) (ρ:Rho) (U:Mu) (d:D) (u:V) (Qd:Rho->Mu->Prop) (Q:St->Hp->Prop),St0 K H ρ U Y->RpD K U H d u->gd d ρ U Qd ->
 (∀al am O H',Ext K U H O H'->St0 K H' am O al->Qd am O->Q al H')->g u Y H Q
noncomputable def Qe(K:PySem.W.Frag)(g:TGs)(gd:Bz):Prop:=∀(Y:St) (H:Hp) (ρ:Rho) (U:Mu) (ds:List PyData) (us:List V) (Qd:Rho->Mu->Prop) (Q:St->Hp->Prop),St0 K H ρ U Y->RpL K U H ds us->gd ds ρ U Qd ->
 (∀al am O H',Ext K U H O H'->St0 K H' am O al->Qd am O->Q al H')->g us Y H Q
noncomputable def DG(X:Cx)(tg:Expr)(gd:DTG):Prop:=∃g,PG X tg g/\KJ X.K g gd
noncomputable def DGs(X:Cx)(tg:List Expr)(gd:Bz):Prop:=∃g,PGs X tg g/\Qe X.K g gd
theorem kD.set{K:PySem.W.Frag}{U:Mu}{H:Hp}{ρ:Rho}{Y:St}{i:Nat}{d:D}{u:V}(r:kD K U H ρ Y)(h:RpD K U H d u):kD K U H (ρ.set i (some d)) (Y.set i (some u)):=by
 refine⟨by rw[length_set,length_set];exact r.1,fun j d' e=>?_⟩
 by_cases hj:i=j
 ·subst hj
  have hl:i<ρ.length:=by
   have:=(List.getElem?_eq_some_iff.mp e).1
   rw[length_set] at this
   exact this
  rw[List.getElem?_set_self hl] at e
  cases e
  exact⟨u,List.getElem?_set_self (by rw[<- r.1];exact hl),h⟩
 ·rw[List.getElem?_set_ne hj] at e
  obtain⟨w,e1,e2⟩:=r.2 j d' e
  exact⟨w,by rw[List.getElem?_set_ne hj];exact e1,e2⟩
noncomputable def ak(i:Nat):DTG:=fun d ρ U Q=>Q (ρ.set i (some d)) U
theorem Al{K:PySem.W.Frag}{i:Nat}:KJ K (Kn i) (ak i):=fun Y H ρ U d u Qd Q S r h k=>k _ _ U H .refl ⟨S.mu,S.rho.set r⟩ h
theorem Ie{i:Nat}{x:Str}(hN:X.N.Nodup)(hi:X.N[i]? = some x)(hx:Loc X.env.scope x)(hf:X.fn x=true\/X.env.scope.names.lookup x=some .local:=by first|exact .inl rfl|exact .inr rfl|assumption):DG X (.Name x pos) (ak i):=⟨_,Nn hN hi hx hf,Al⟩
noncomputable def hR:Bz:=fun ds ρ U Q=>match ds with
 |[]=>Q ρ U
 |_=>False
noncomputable def bh(g:DTG)(gs:Bz):Bz:=fun ds ρ U Q=>match ds with
 |d::r=>g (.v d) ρ U fun lm ac=>gs r lm ac Q
 |_=>False
theorem eW:DGs X [] hR:=⟨_,Mm,fun Y H ρ U ds us Qd Q S r h k=>by
 cases r with
 |nil=>exact⟨rfl,k Y ρ U H .refl S h⟩
 |cons _ _=>exact h.elim⟩
theorem aO{g:DTG}{gs:Bz}(h1:DG X e g)(h2:DGs X es gs)(hs:(assignEach (e::es) X.env).map (·.2)=assign e X.env::(assignEach es X.env).map (·.2):=by rfl):DGs X (e::es) (bh g gs):=by
 obtain⟨t1,p1,l1⟩:=h1
 obtain⟨t2,p2,l2⟩:=h2
 refine⟨_,KP p1 p2 hs,fun Y H ρ U ds us Qd Q S r h k=>?_⟩
 cases r with
 |nil=>exact h.elim
 |@cons d u ds us r1 r2=>
  refine⟨u,us,rfl,l1 Y H ρ U (.v d) u _ _ S r1 h fun al am O H' e1 S' h1=>?_⟩
  exact l2 al H' am O ds us _ _ S' (r2.ext S.mu e1) h1 fun a b c d e2=>k a b c d (e1.trans e2)
noncomputable def gO(n:Nat)(gs:Bz):DTG:=fun d ρ U Q=>match d with
 |.v (.tuple xs)=>xs.length=n/\gs xs ρ U Q
 |_=>False
theorem gF{k n:Nat}{gs:Bz}(hc:X.calm=X.calm)(h:DGs X es gs)
  (hn:(assignEach es X.env).length=n:=by rfl) (hst:(assignEach es X.env).findIdx? (·.1)=none:=by rfl):DG X (.Tuple es k pos) (gO n gs):=by
 obtain⟨t1,p1,l1⟩:=h
 refine⟨_,Pp hc p1 hn hst,fun Y H ρ U d u Qd Q S r h k=>?_⟩
 unfold gO at h
 split at h
 ·cases r with
  |@tuple a us _ ha ra=>exact⟨a,us,rfl,ha,by rw[<- ra.length];exact h.1,l1 Y H ρ U _ us _ _ S ra h.2 k⟩
 ·exact h.elim
noncomputable def HP(to ti:DTE):DTG:=fun d ρ U Q=>to ρ U fun o ac=>ti ρ ac fun i ad=>match o,i,d with
 |.m l,.v (.int k),.v x=>(match ad l with
  |some xs=>(match ixN xs.length k with
   |some j=>Q ρ (bD ad l (xs.set j x))
   |none=>False)
  |none=>False)
 |_,_,_=>False
theorem JY{o i:Expr}{to ti:DTE}(ho:DE X o to)(hi:DE X i ti)
  (ha:∀v,assign (.Subscript o i pos) X.env v=(do
   let ov <- holding [v] (eval o X.env)
   let iv <- holding [v,ov] (eval i X.env)
   standAt pos
   holding [v,ov,iv] (setItem ov iv v)
   release [v,ov,iv] []):=by intro _;rfl):DG X (.Subscript o i pos) (HP to ti):=by
 obtain⟨t1,p1,l1⟩:=ho
 obtain⟨t2,p2,l2⟩:=hi
 refine⟨_,OX p1 p2 set_list ha,fun Y H ρ U d u Qd Q S r h k=>?_⟩
 refine l1 Y H ρ U _ _ S h fun x ux ac H1 e1 S1 rx h1=>?_
 refine l2 Y H1 ρ ac _ _ S1 h1 fun y uy ad H2 e2 S2 ry h2=>?_
 have r2:=(r.ext S.mu e1).ext S1.mu e2
 have rx2:=rx.ext S1.mu e2
 split at h2
 ·rename_i l kk xv
  obtain⟨rfl,ds,hm⟩:=rx2
  cases ry
  rw[hm] at h2
  obtain⟨us,hl,rl⟩:=S2.mu l ds hm
  simp only at h2
  cases q:ixN ds.length kk with
  |none=>rw[q] at h2;exact h2.elim
  |some j=>
   rw[q] at h2
   refine⟨l,us,kk,j,rfl,rfl,hl,by rw[<- rl.length];exact q,?_⟩
   have ex:Ext X.K ad H2 (bD ad l (ds.set j xv)) (upd H2 l (.lst (us.set j u))):=nu hm
   exact k Y ρ _ _ (e1.trans (e2.trans ex)) ⟨S2.mu.set hm (rl.set r2 j),S2.rho.ext S2.mu ex⟩ h2
 ·exact h2.elim
noncomputable def aR(te:DTE)(g:DTG):DTS:=fun Dd ρ U=>te ρ U fun d ac=>g d ρ ac Dd.nx
theorem EM{K:PySem.W.Frag}{t:TE}{g:TG}{gd:DTG}(l1:uR K t te)(l2:KJ K g gd):B1 K (OT t g) (aR te gd):=by
 intro Y H ρ U Dd De S h k1 k2 k3 k4
 refine l1 Y H ρ U _ _ S h fun d u ac H1 e1 S1 r h1=>?_
 exact l2 Y H1 ρ ac d u _ _ S1 r h1 fun a b c d e2=>k1 a b c d (e1.trans e2)
theorem ja{tg:Expr}{g:DTG}(he:DE X e te)(hg:DG X tg g)(hs:swapsWithSole [tg] e pos.line X.env=pure false:=by rfl)(hw:swappedStores [tg] e X.env=pure none:=by rfl)
  (h1:(assignEach [tg] X.env).map (·.2)=[assign tg X.env]:=by rfl):DS X (.Assign [tg] e pos) (aR te g):=by
 obtain⟨t1,p1,l1⟩:=he
 obtain⟨t2,p2,l2⟩:=hg
 exact⟨_,Qk p1 p2 hs hw h1,EM l1 l2⟩
theorem Lo{i:Nat}{x:Str}{pos':Pos}(hN:X.N.Nodup)(hi:X.N[i]? = some x)(hx:Loc X.env.scope x)(he:DE X e te)(hs:swapsWith e (some (.Name x pos')) pos.line X.env=pure false:=by rfl)(hf:X.fn x=true\/X.env.scope.names.lookup x=some .local:=by first|exact .inl rfl|exact .inr rfl|assumption) :
  DS X (.Assign [.Name x pos'] e pos) (aR te (ak i)):=by
 obtain⟨t1,p1,l1⟩:=he
 exact⟨_,O0 hN hi hx p1 hs hf,EM l1 Al⟩
noncomputable def vf(i j:Nat)(t:DTA):DTS:=fun Dd ρ U=>t ρ U fun ds ac=>match ds with
 |[v,w]=>Dd.nx ((ρ.set i (some v)).set j (some w)) ac
 |_=>False
theorem jO{i j:Nat}{x y:Str}{a b:Expr}{t:DTA}{px py pt:Pos}{kt k2 pt2}(hc:X.calm=true)(hN:X.N.Nodup)(hi:X.N[i]? = some x)(hj:X.N[j]? = some y)(hij:i≠j)
  (hx:X.env.scope.names.lookup x=some .local) (hy:X.env.scope.names.lookup y=some .local) (ha:DA X [a,b] t)
  (hw:swappedStores [.Tuple [.Name x px,.Name y py] kt pt] (.Tuple [a,b] k2 pt2) X.env=pure (some [x,y]))
  (hs:swapsWithSole [.Tuple [.Name x px,.Name y py] kt pt] (.Tuple [a,b] k2 pt2) pos.line X.env=pure false:=by rfl) :
  DS X (.Assign [.Tuple [.Name x px,.Name y py] kt pt] (.Tuple [a,b] k2 pt2) pos) (vf i j t):=by
 obtain⟨t1,p1,l1⟩:=ha
 refine⟨_,Qx hc hN hi hj hij hx hy p1 hw hs,fun Y H ρ U Dd De S h k1 k2 k3 k4=>?_⟩
 refine l1 Y H ρ U _ _ S h fun ds us ac H1 e1 S1 rs len h1=>?_
 split at h1
 ·cases rs with
  |cons r1 r2=>
   cases r2 with
   |cons r2 r3=>
    cases r3
    exact⟨_,_,rfl,k1 _ _ ac H1 e1 ⟨S1.mu,(S1.rho.set r1).set r2⟩ h1⟩
 ·exact h1.elim
noncomputable def tE(c:DTT)(tb:DTS):DTS:=fun Dd ρ U=>∃W:Nat->Rho->Mu->Prop,(∃m,W m ρ U)/\∀m ρ U,W m ρ U ->
 c ρ U fun b ac=>if b=true then tb {Dd with nx:=fun am O=>∃m',m'<m/\W m' am O,ct:=fun am O=>∃m',m'<m/\W m' am O,bk:=Dd.nx} ρ ac else Dd.nx ρ ac
theorem pq{c:Expr}{body:List Stmt}(hp:PassesOwn (model X.prog X.w) X.A X.env X.xe)(hc:DT X c tc)(hb:DSs X body td):DS X (.While c body [] pos) (tE tc td):=by
 obtain⟨t0,p0,l0⟩:=hc
 obtain⟨t1,p1,l1⟩:=hb
 refine⟨_,Kt hp p0 p1,fun Y H ρ U Dd De S h k1 k2 k3 k4=>?_⟩
 obtain⟨W,⟨m,w0⟩,turn⟩:=h
 refine⟨fun m al H'=>∃am O,Ext X.K U H O H'/\St0 X.K H' am O al/\W m am O,⟨m,ρ,U,.refl,S,w0⟩,?_⟩
 rintro m io H1 ⟨lm,ac,e1,S1,w1⟩
 refine l0 io H1 lm ac _ _ S1 (turn m lm ac w1) fun b ad H2 e2 S2 h2=>?_
 cases b with
 |true=>
  refine FH ⟨fun al H'=>∃m',m'<m/\∃am O,Ext X.K U H O H'/\St0 X.K H' am O al/\W m' am O,fun al H' ⟨m',hm,q⟩=>⟨m',hm,q⟩,?_⟩
  have nxt:∀al am O H',Ext X.K ad H2 O H'->St0 X.K H' am O al->(∃m',m'<m/\W m' am O)->∃m',m'<m/\∃am O,Ext X.K U H O H'/\St0 X.K H' am O al/\W m' am O:=
   fun al am O H' e3 S3 ⟨m',hm,q⟩=>⟨m',hm,am,O,e1.trans (e2.trans e3),S3,q⟩
  rw[if_pos rfl] at h2
  exact l1 io H2 lm ad _ _ S2 h2 nxt (fun a b c d e3=>k2 a b c d (e1.trans (e2.trans e3))) (fun a b c d e3=>k1 a b c d (e1.trans (e2.trans e3))) nxt
 |false=>exact Ey (k1 io lm ad H2 (e1.trans e2) S2 (by simpa using h2))
noncomputable abbrev DTI:=Rho->Mu->(List PyData->Mu->Prop)->Prop
noncomputable def OY(K:PySem.W.Frag)(J:It)(xs:List PyData)(ac:Mu)(H1:Hp):Prop:=∀ad H2,Ext K ac H1 ad H2->cQ K ad H2->∀i,(i<xs.length->J.go i H2/\∀x H',J.yld i H2 x H'->∃d,xs[i]? = some d/\Cu H2 H'/\Rp K ad H' d x)/\(i=xs.length->J.stop i H2)
noncomputable def RT(K:PySem.W.Frag)(wi:TI)(src:DTI):Prop:=∀(Y:St) (H:Hp) (ρ:Rho) (U:Mu) (Qd:List PyData->Mu->Prop) (R:It->Hp->Prop),St0 K H ρ U Y->src ρ U Qd ->
 (∀xs ac H1 J,Ext K U H ac H1->St0 K H1 ρ ac Y->OY K J xs ac H1->Qd xs ac->R J H1)->wi Y H R
noncomputable def DI(X:Cx)(tg iter:Expr)(src:DTI):Prop:=∃wi,PI X tg iter wi/\RT X.K wi src
variable {tg:Expr}
noncomputable def dU(te:DTE):DTI:=fun ρ U Q=>te ρ U fun d ac=>match d with
 |.v (.list xs)=>Q xs ac
 |_=>False
noncomputable def uu(te:DTE):DTI:=fun ρ U Q=>te ρ U fun d ac=>match d with
 |.v (.tuple xs)=>Q xs ac
 |_=>False
theorem eQ(h:DE X e te):DI X tg e (dU te):=by
 obtain⟨t1,p1,l1⟩:=h
 refine⟨_,Ni p1,fun Y H ρ U Qd R S h k=>?_⟩
 refine l1 Y H ρ U _ _ S h fun d u ac H1 e1 S1 r h1=>?_
 split at h1
 ·rename_i xs
  cases r with
  |@list a us _ ha hn ra=>
   refine⟨a,rfl,⟨us,SqL.of ha⟩,k xs ac H1 _ e1 S1 (fun ad H2 e2 ok2 i=>⟨fun hi=>?_,fun hi=>?_⟩) h1⟩
   ·have ha2:=e2.keep _ _ ha hn trivial
    have hiu:i<us.length:=by rw[<- ra.length];exact hi
    refine⟨⟨us,us[i],SqL.of ha2,by simp[hiu]⟩,fun x H' hq0=>?_⟩
    obtain⟨eH,hx⟩:=hq0
    subst eH
    obtain⟨u',h1',h2'⟩:=ra.get (i:=i) (d:=xs[i]) (by simp[hi])
    have:=hx us (SqL.of ha2)
    rw[h1'] at this
    cases this
    exact⟨xs[i],by simp[hi],Cu.refl _,h2'.ext S1.mu e2⟩
   ·exact⟨us,SqL.of (e2.keep _ _ ha hn trivial),by rw[<- ra.length];omega⟩
 ·exact h1.elim
theorem rM(h:DE X e te):DI X tg e (uu te):=by
 obtain⟨t1,p1,l1⟩:=h
 refine⟨_,Qb p1,fun Y H ρ U Qd R S h k=>?_⟩
 refine l1 Y H ρ U _ _ S h fun d u ac H1 e1 S1 r h1=>?_
 split at h1
 ·rename_i xs
  cases r with
  |@tuple a us _ ha ra=>
   refine⟨a,rfl,⟨us,ha⟩,k xs ac H1 _ e1 S1 (fun ad H2 e2 ok2 i=>⟨fun hi=>?_,fun hi=>?_⟩) h1⟩
   ·have ha2:=mT S1.mu e2 ha
    have hiu:i<us.length:=by rw[<- ra.length];exact hi
    refine⟨⟨us,us[i],ha2,by simp[hiu]⟩,fun x H' hq0=>?_⟩
    obtain⟨eH,hx⟩:=hq0
    subst eH
    obtain⟨u',h1',h2'⟩:=ra.get (i:=i) (d:=xs[i]) (by simp[hi])
    have:=hx us ha2
    rw[h1'] at this
    cases this
    exact⟨xs[i],by simp[hi],Cu.refl _,h2'.ext S1.mu e2⟩
   ·exact⟨us,mT S1.mu e2 ha,by rw[<- ra.length];omega⟩
 ·exact h1.elim
noncomputable def o4(lo:Int)(n:Nat):List PyData:=(List.range n).map fun (i:Nat)=>PyData.int (lo+(i:Int))
theorem K5{K:PySem.W.Frag}{lo:Int}{n:Nat}{U:Mu}{H:Hp}:OY K (Itr lo n) (o4 lo n) U H:=fun ad H2 e2 ok2 i=>by
 have hl:(o4 lo n).length=n:=by unfold o4;simp
 refine⟨fun hi=>?_,fun hi=>?_⟩
 ·rw[hl] at hi
  refine⟨hi,fun x H' hq0=>?_⟩
  obtain⟨eH,hx⟩:=hq0
  subst eH hx
  exact⟨.int (lo+i),by unfold o4;simp[hi],Cu.refl _,.int _⟩
 ·show n<=i
  omega
noncomputable def nt(t:DTA):DTI:=fun ρ U Q=>t ρ U fun ds ac=>match ds with
 |[.v (.int j)]=>(-(2 ^ 62)<=j/\j<2 ^ 62)/\Q (o4 0 j.toNat) ac
 |_=>False
noncomputable def GO(t:DTA):DTI:=fun ρ U Q=>t ρ U fun ds ac=>match ds with
 |[.v (.int i),.v (.int j)]=>(-(2 ^ 62)<=i/\i<2 ^ 62/\-(2 ^ 62)<=j/\j<2 ^ 62)/\Q (o4 i (j-i).toNat) ac
 |_=>False
theorem qL{a:Expr}{t:DTA}{p pos:Pos}(hg:Gl X "range")(hm:X.mg "range"=none)(ha:DA X [a] t)(hs:starEach [a] X.env=[(false,eval a X.env)]:=by rfl)(hc:X.calm=true:=by rfl):DI X tg (.Call (.Name "range" p) [a] [] pos) (nt t):=by
 obtain⟨t1,p1,l1⟩:=ha
 refine⟨_,Jj hc hg hm p1 hs,fun Y H ρ U Qd R S h k=>?_⟩
 refine l1 Y H ρ U _ _ S h fun ds us ac H1 e1 S1 rs len h1=>?_
 split at h1
 ·rename_i j
  cases rs with
  |cons r1 r2=>cases r2;cases r1;exact⟨j,rfl,h1.1.1,h1.1.2,k _ ac H1 _ e1 S1 K5 h1.2⟩
 ·exact h1.elim
theorem MN{a b:Expr}{t:DTA}{p pos:Pos}(hg:Gl X "range")(hm:X.mg "range"=none)(ha:DA X [a,b] t)(hs:starEach [a,b] X.env=[(false,eval a X.env),(false,eval b X.env)]:=by rfl)(hs2:starEach [b] X.env=[(false,eval b X.env)]:=by rfl)(hc:X.calm=true:=by rfl):DI X tg (.Call (.Name "range" p) [a,b] [] pos) (GO t):=by
 obtain⟨t1,p1,l1⟩:=ha
 refine⟨_,JN hc hg hm p1 hs hs2,fun Y H ρ U Qd R S h k=>?_⟩
 refine l1 Y H ρ U _ _ S h fun ds us ac H1 e1 S1 rs len h1=>?_
 split at h1
 ·rename_i i j
  cases rs with
  |cons r1 r2=>
   cases r2 with
   |cons r2 r3=>cases r3;cases r1;cases r2;exact⟨i,j,rfl,h1.1,k _ ac H1 _ e1 S1 K5 h1.2⟩
 ·exact h1.elim
noncomputable def vE(src:DTI)(g:DTG)(tb:DTS):DTS:=fun Dd ρ U=>src ρ U fun xs ac=>∃Pv:Nat->Rho->Mu->Prop,Pv 0 ρ ac /\
 (∀i x am O,xs[i]? = some x->Pv i am O->g (.v x) am O fun ca ad=>tb {Dd with nx:=Pv (i+1),ct:=Pv (i+1),bk:=Dd.nx} ca ad)/\(∀am O,Pv xs.length am O->Dd.nx am O)
theorem lA{iter:Expr}{body:List Stmt}{src:DTI}{g:DTG}(hp:PassesOwn (model X.prog X.w) X.A X.env X.xe)(hc:X.calm=true)(hi:DI X tg iter src)(hg:DG X tg g)(hb:DSs X body td)
  (hs:∀x,foldedSetIterable iter X.env x=pure x:=by intro _;rfl):DS X (.For tg iter body [] pos) (vE src g td):=by
 obtain⟨t0,p0,l0⟩:=hi
 obtain⟨t1,p1,l1⟩:=hg
 obtain⟨t2,p2,l2⟩:=hb
 refine⟨_,PM hp hc p0 p1 p2 hs,fun Y H ρ U Dd De S h k1 k2 k3 k4=>?_⟩
 refine l0 Y H ρ U _ _ S h fun xs ac H1 J e1 S1 it h1=>?_
 obtain⟨Pv,pv0,turn,fin⟩:=h1
 refine⟨fun i m al H'=>m=xs.length-i/\i<=xs.length/\∃am O,Ext X.K ac H1 O H'/\St0 X.K H' am O al/\Pv i am O,⟨xs.length,by simp,zero_le _,ρ,ac,.refl,S1,pv0⟩,?_⟩
 rintro i m al H' ⟨rfl,hi,am,O,e2,S2,pv⟩
 obtain⟨go,stop⟩:=it O H' e2 S2.mu i
 by_cases hlt:i<xs.length
 ·obtain⟨g1,y1⟩:=go hlt
  refine .inr ⟨g1,fun nb H2=>∃ca ad,Ext X.K ac H1 ad H2/\St0 X.K H2 ca ad nb/\Pv (i+1) ca ad,fun nb H2 q=>⟨xs.length-(i+1),∅,rfl,hlt,q⟩,fun x H2 yl=>?_⟩
  obtain⟨d,hd,sm,rd⟩:=y1 x H2 yl
  have e3:Ext X.K O H' O H2:=.of_same sm
  have S3:St0 X.K H2 am O al:=⟨S2.mu.Qs e3 sm,S2.rho.ext S2.mu e3⟩
  refine l1 al H2 am O (.v d) x _ _ S3 rd (turn i d am O hd pv) fun u8 tx bn H4 e4 S4 h4=>?_
  have nxt:∀a b c dd,Ext X.K bn H4 c dd->St0 X.K dd b c a->Pv (i+1) b c->∃ca ad,Ext X.K ac H1 ad dd/\St0 X.K dd ca ad a/\Pv (i+1) ca ad:=fun a b c dd e5 S5 q=>⟨b,c,e2.trans (e3.trans (e4.trans e5)),S5,q⟩
  have ee:=e1.trans (e2.trans (e3.trans e4))
  exact l2 u8 H4 tx bn _ _ S4 h4 nxt (fun a b c d e5=>k2 a b c d (ee.trans e5)) (fun a b c d e5=>k1 a b c d (ee.trans e5)) nxt
 ·have ei:i=xs.length:=by omega
  subst ei
  exact .inl ⟨stop rfl,k1 al am O H' (e1.trans e2) S2 (fin am O pv)⟩
end
noncomputable abbrev DSp:=List D->Mu->DK->Prop
noncomputable def spD(K:PySem.W.Frag)(dsp:DSp):Sp:=fun vs H Q _=>∃(ds:List D) (U:Mu) (Qd:DK),cQ K U H/\kq K U H ds vs/\dsp ds U Qd /\
 (∀d u O H',Ext K U H O H'->cQ K O H'->RpD K O H' d u->Qd d O->Q u H')
noncomputable def aG(N:List Str)(ds:List D):Rho:=ds.map some++List.replicate (N.length-ds.length) none
theorem kq.get{K:PySem.W.Frag}{U:Mu}{H:Hp}{ds:List D}{us:List V}:∀{i:Nat} {d:D},kq K U H ds us->ds[i]? = some d->∃u,us[i]? = some u/\RpD K U H d u
 |_,_,.nil,h=>by simp at h
 |0,_,.cons r _,h=>by simp at h;subst h;exact⟨_,rfl,r⟩
 |i+1,d,.cons _ t,h=>by
  obtain⟨u,h1,h2⟩:=kq.get (i:=i) (d:=d) t (by simpa using h)
  exact⟨u,by simpa using h1,h2⟩
theorem Jt{K:PySem.W.Frag}{U:Mu}{H:Hp}{N:List Str}{ds:List D}{vs:List V}(r:kq K U H ds vs):kD K U H (aG N ds) (start N vs):=by
 have hl:=r.length
 refine⟨by unfold aG start;simp[hl],fun i d e=>?_⟩
 unfold aG at e
 by_cases hi:i<ds.length
 ·rw[List.getElem?_append_left (by simpa using hi),getElem?_map] at e
  unfold start
  rw[List.getElem?_append_left (by simpa [hl] using hi),getElem?_map]
  cases q:ds[i]? with
  |none=>rw[q] at e;cases e
  |some d'=>
   rw[q] at e
   cases e
   obtain⟨u,h1,h2⟩:=r.get q
   exact⟨u,by rw[h1];rfl,h2⟩
 ·rw[List.getElem?_append_right (by simpa using hi),List.getElem?_replicate] at e
  split at e<;>cases e
section
variable {P:Program}{w:World}{K:PySem.W.Frag}{mg:Str->Option Value}{base:Heap}
theorem _root_.L2.Fun.okD{x qual:Str}{st:Stmt}{f:Addr}{fd:FuncData}{N ps:List Str}{k:Nat}{dsp:DSp}(F:Fun K x qual st f fd)(S:aD N ps (ay st))(len:∀ds U Q,dsp ds U Q->ds.length=ps.length)
  (hbody:∀(cdv:Value) (A:Around) (outer:List Env) (s:Shared) (H:Hp) (E:XK),lq k (A.deeper (envOfC qual (ay st) s.heap.objs.size f cdv)) ->
   ∃td,DSs (FG CX0 P w K mg base N qual (ay st) f cdv A outer s H E).nox (iM st) td/\∀ds U Qd,dsp ds U Qd->td ‹Qd› (aG N ds) U):mw P w K mg base CX0 (k+1) f fd ps (spD K dsp):=by
 refine F.ok S (fun vs H Q E h=>?_) (fun cdv A outer s H vs Q E hr h=>?_)
 ·obtain⟨ds,U,Qd,_,r,h,_⟩:=h
  rw[<- r.length]
  exact len ds U Qd h
 ·obtain⟨ds,U,Qd,ok,r,h,fin⟩:=h
  obtain⟨td,⟨t,p,l⟩,rd⟩:=hbody cdv A outer s H E hr
  refine⟨t,p,?_⟩
  exact l (start N vs) H (aG N ds) U _ _ ⟨ok,Jt r⟩ (rd ds U Qd h) (fun al am O H' e' S' q=>fin (.v .none) .non O H' e' S'.mu Rp.none q) (fun d u O H' e' ok' r' q=>fin d u O H' e' ok' r' q) (fun _ _ _ _ _ _ q=>q) (fun _ _ _ _ _ _ q=>q)
end
section
variable {X:Cx}{e:Expr}{es:List Expr}{t:DTA}{p pos:Pos}{x:Str}{k:Nat}{f:Addr}{fd:FuncData}{ps:List Str}{dsp:DSp}
noncomputable def aq(dsp:DSp)(t:DTA):DTE:=fun ρ U Q=>t ρ U fun ds ac=>dsp ds ac Q
theorem Mc(F:mw X.prog X.w X.K X.mg X.base CX0 k f fd ps (spD X.K dsp))(hr:lq k X.A)(hg:Gl X x)(hm:X.mg x=some (.ref f))(hk:keepIn X.K (.ref f)=true)(hb:Binds X.K fd ps [])
  (ha:DA X (e::es) t) (hdb:(x==("__debug__":Str))=false:=by decide) (he:starEach (e::es) X.env=(false,eval e X.env)::starEach es X.env:=by rfl) (hpl:(backTo pos (starEach es X.env)).any (·.1)=false:=by rfl) :
  DE X (.Call (.Name x p) (e::es) [] pos) (aq dsp t):=by
 obtain⟨t1,p1,l1⟩:=ha
 refine⟨_,M6 F hr hg hm hk hb .nil Rv p1 hdb he hpl,fun Y H ρ U Qd Q S h kk=>?_⟩
 refine l1 Y H ρ U _ _ S h fun ds us ac H1 e1 S1 rs len h1=>?_
 refine⟨ds,ac,Qd,S1.mu,by rw[List.append_nil];exact rs,h1,fun d u O H' e2 ok r q=>?_⟩
 exact kk d u O H' (e1.trans e2) ⟨ok,S1.rho.ext S1.mu e2⟩ r q
end
section
variable {X:Cx}{o e:Expr}{to te:DTE}{apos cpos:Pos}
noncomputable def Ei(to te:DTE):DTE:=fun ρ U Q=>to ρ U fun x ac=>match x with
 |.m l=>te ρ ac fun y ad=>(match y,ad l with
  |.v d,some xs=>xs.length<1000/\Q (.v .none) (bD ad l (xs++[d]))
  |_,_=>False)
 |_=>False
theorem mx(ho:DE X o to)(ha:DE X e te)(hbase:attributeBase o "append" X.env (eval o X.env)=eval o X.env:=by rfl)
  (hfew:((backTo cpos (starEach [e] X.env)).all (fun x=>!x.1)&&(backToKw cpos (keywordEach [] X.env)).all (fun x=>x.1.isSome)
   && decide ([e].length+([]:List Keyword).length+(if ([]:List Keyword).isEmpty then 0 else 1)<30))=true:=by rfl)
  (hline:(apos.endLine==cpos.line)=true:=by rfl) (hs:starEach [e] X.env=(false,eval e X.env)::starEach [] X.env:=by rfl) (hplain:(backTo cpos (starEach [] X.env)).any (·.1)=false:=by rfl) :
  DE X (.Call (.Attribute o "append" apos) [e] [] cpos) (Ei to te):=by
 obtain⟨t1,p1,l1⟩:=ho
 obtain⟨t2,p2,l2⟩:=ha
 refine⟨_,NY PySem.F.plainAttrs_list PySem.F.slot_list_append PySem.F.type_list_append BY p1 (vj p2 Ej hs) hbase hfew hline hs hplain,fun Y H ρ U Qd Q S h k=>?_⟩
 refine l1 Y H ρ U _ _ S h fun x ux ac H1 e1 S1 rx h1=>?_
 cases x with
 |m l=>
  obtain⟨rfl,ds,hm⟩:=id rx
  obtain⟨us,hl,rl⟩:=S1.mu l ds hm
  refine⟨.inl ⟨rfl,us,SqL.of hl⟩,?_⟩
  refine l2 Y H1 ρ ac _ _ S1 h1 fun y uy ad H2 e2 S2 ry h2=>?_
  obtain⟨_,ds2,hm2⟩:=rx.ext S1.mu e2
  obtain⟨us2,hl2,rl2⟩:=S2.mu l ds2 hm2
  rw[hm2] at h2
  cases y with
  |v d=>
   have h3:ds2.length<1000/\Qd (.v .none) (bD ad l (ds2++[d])):=h2
   refine⟨l,us2,uy,rfl,rfl,hl2,by rw[<- rl2.length];exact jB (Nat.le_of_lt h3.1),?_⟩
   have ex:Ext X.K ad H2 (bD ad l (ds2++[d])) (upd H2 l (.lst (us2++[uy]))):=nu hm2
   exact k (.v .none) .non _ _ (e1.trans (e2.trans ex)) ⟨S2.mu.set hm2 (rl2.append (.cons ry .nil)),S2.rho.ext S2.mu ex⟩ Rp.none h3.2
  |m _=>exact h2.elim
  |s _=>exact h2.elim
  |o _=>exact h2.elim
  |b _=>exact h2.elim
  |q _=>exact h2.elim
 |v d=>exact h1.elim
 |s ns=>exact h1.elim
 |o _=>exact h1.elim
 |b _=>exact h1.elim
 |q _=>exact h1.elim
noncomputable def SJ(to te:DTE):DTE:=fun ρ U Q=>to ρ U fun x ac=>match x with
 |.m l=>te ρ ac fun y ad=>(match y,ad l with
  |.v (.list ys),some xs=>xs.length+ys.length<=1000/\Q (.v .none) (bD ad l (xs++ys))
  |_,_=>False)
 |_=>False
noncomputable def J2(to:DTE):DTE:=fun ρ U Q=>to ρ U fun x ac=>match x with
 |.v (.int i)=>Q (.v (.int (Builtin.Int.intBits i:Nat))) ac
 |_=>False
theorem L0:MtR X "int.bit_length" (fun x xs H Q=>∃i,x = .int i/\xs=[]/\Q (.int (Builtin.Int.intBits i:Nat)) H):=by
 intro pins s Y H x xs v us Q I rx rv h
 obtain⟨i,rfl,rfl,q⟩:=h
 obtain⟨t,rfl⟩:=rx
 cases rv
 exact call_int_bit_length ⟨.int _,H,I.tok _,⟨_,rfl⟩,q⟩
theorem Nm(ho:DE X o to)(hbase:attributeBase o "bit_length" X.env (eval o X.env)=eval o X.env:=by rfl)(hline:(apos.endLine==cpos.line)=true:=by rfl):DE X (.Call (.Attribute o "bit_length" apos) [] [] cpos) (J2 to):=by
 obtain⟨t1,p1,l1⟩:=ho
 refine⟨_,K1 PySem.F.plainAttrs_int PySem.F.slot_int_bit_length PySem.F.type_int_bit_length L0 p1 hbase hline,fun Y H ρ U Qd Q S h k=>?_⟩
 refine l1 Y H ρ U _ _ S h fun x ux ac H1 e1 S1 rx h1=>?_
 split at h1
 ·cases rx
  exact⟨rfl,_,rfl,rfl,k (.v _) _ ac H1 e1 S1 (Rp.int _) h1⟩
 ·exact h1.elim
end
section
variable {K:PySem.W.Frag}{U O:Mu}{H:Hp}
mutual
theorem Rp.shrink{d:PyData}{u:V}(sub:∀a,O a=none->U a=none):Rp K O H d u->Rp K U H d u
 |.none=>.none
 |.bool b=>.bool b
 |.int i=>.int i
 |.str x=>.str x
 |.list h n r=>.list h (sub _ n) (RpL.shrink sub r)
 |.tuple h r=>.tuple h (RpL.shrink sub r)
theorem RpL.shrink{ds:List PyData}{us:List V}(sub:∀a,O a=none->U a=none):RpL K O H ds us->RpL K U H ds us
 |.nil=>.nil
 |.cons h r=>.cons (Rp.shrink sub h) (RpL.shrink sub r)
end
theorem yF.shrink{c:Box}{o:Obj}(sub:∀a,O a=none->U a=none)(r:yF K O H c o):yF K U H c o:=by
 cases c with
 |dict kvs=>
  obtain⟨h1,h2,es,ep,xs,h3,h4,h5,h6⟩:=r
  exact⟨h1,h2,es,ep,xs,h3,h4,h5,Paired.NJ h6 fun p q ⟨z1,z2,v,z3,z4⟩=>⟨z1,z2,v,Rp.shrink sub z3,z4⟩⟩
 |set ks=>exact r
end
theorem QX{X:Cx}{e:Expr}{td:DTE}(h:∀(pins:List (Addr×Obj)) (s:Shared) (Y:St) (H:Hp) (ρ:Rho) (U:Mu) (Qd:DK) (Q:VK),Inv X pins Y H s->St0 X.K H ρ U Y->td ρ U Qd ->
  (∀d u O H',Ext X.K U H O H'->St0 X.K H' ρ O Y->RpD X.K O H' d u->Qd d O->Q u H')->wpAny (model X.prog X.w) X.A (eval e X.env) (EP X pins Y Q) X.xe s):DE X e td:=
 ⟨fun Y H Q=>∃ρ U Qd,St0 X.K H ρ U Y/\td ρ U Qd/\(∀d u O H',Ext X.K U H O H'->St0 X.K H' ρ O Y->RpD X.K O H' d u->Qd d O->Q u H'),
  fun pins s Y H Q I ⟨ρ,U,Qd,S,q,k⟩=>h pins s Y H ρ U Qd Q I S q k,fun Y H ρ U Qd Q S q k=>⟨ρ,U,Qd,S,q,k⟩⟩
noncomputable def bK(X:Cx)(N':List Str)(scope:Scope)(cl:List (Str×Addr))(fp:List Addr)(be:Shared)(bi:Hp):Cx:=
 {X with N:=N',ci:=be,H₀:=bi,env:=compEnvC scope cl be.heap.objs.size X.env,outer:=X.stack,stack:=X.stack,ex:=fp,fn:=fun _=>false,pn:=X.pn,xe:=fun _ _=>False}
noncomputable def Le:Rho->Rho->Prop
 |[],[]=>True
 |none::r,_::r'=>Le r r'
 |some d::r,some d'::r'=>d=d'/\Le r r'
 |_,_=>False
theorem Le.get:∀{ρ am:Rho},Le ρ am->ρ.length=am.length/\∀(i:Nat) d,ρ[i]? = some (some d)->am[i]? = some (some d)
 |[],[],_=>⟨rfl,fun _ _ h=>h⟩
 |none::r,x::r',h=>by
  obtain⟨h1,h2⟩:=Le.get (ρ:=r) (am:=r') h
  refine⟨congrArg (· + 1) h1,fun i d e=>?_⟩
  cases i with
  |zero=>simp at e
  |succ j=>exact h2 j d (by simpa using e)
 |some d::r,some d'::r',h=>by
  obtain⟨rfl,h⟩:=h
  obtain⟨h1,h2⟩:=Le.get (ρ:=r) (am:=r') h
  refine⟨congrArg (· + 1) h1,fun i d e=>?_⟩
  cases i with
  |zero=>simpa using e
  |succ j=>exact h2 j d (by simpa using e)
 |some d::r,none::r',h=>h.elim
 |[],_::_,h=>h.elim
 |none::_,[],h=>h.elim
 |some _::_,[],h=>h.elim
noncomputable def eP{α:Type}(cap:List (Option Nat))(ρ:List (Option α)):List (Option α):=cap.map fun o=>o.bind fun j=>(ρ[j]?).join
noncomputable def rg(cap:List (Option Nat))(src:DTI)(g:DTG)(c:DTT)(elt:DTE):DTE:=fun ρ U Q=>src ρ U fun xs ac=>xs.length<=1000/\∃f:PyData->Option PyData,
 (∀x∈xs,∀O:Mu,(∀a ds,ac a=some ds->O a=some ds)->g (.v x) (eP cap ρ) O fun ca ad=>Le (eP cap ρ) ca/\c ca ad fun b ap=>
  if b=true then elt ca ap fun d bn=>bn=O/\(match d with|.v y=>f x=some y|_=>False) else ap=O/\f x=none)/\Q (.v (.list (xs.filterMap f))) ac
noncomputable def Au(X:Cx)(ifs:List Expr)(c:DTT):Prop:=∀(pins:List (Addr×Obj)) (s:Shared) (Y:St) (H:Hp) (ρ:Rho) (U:Mu) (Qd:Bool->Mu->Prop) (Q:Bool->Hp->Prop),Inv X pins Y H s->St0 X.K H ρ U Y->c ρ U Qd ->
 (∀b O H',Ext X.K U H O H'->St0 X.K H' ρ O Y->Qd b O->Q b H') ->
 wpAny (model X.prog X.w) X.A (forIn ifs true fun c r=>if r=true then do let ok <- isTrue c X.env (eval c X.env);pure (ForInStep.yield ok) else pure (ForInStep.yield r)) (TP X pins Y Q) X.xe s
noncomputable def eU:DTT:=fun _ U Q=>Q true U
theorem cK{X:Cx}:Au X [] eU:=fun pins s Y H ρ U Qd Q I S h k=>wpAny_tests_nil ⟨H,I,k true U H .refl S h⟩
theorem EG{X:Cx}{c:Expr}{tc:DTT}(h:DT X c tc):Au X [c] tc:=by
 obtain⟨t,p,l⟩:=h
 exact fun pins s Y H ρ U Qd Q I S h k=>wpAny_tests_one (p pins s Y H _ I (l Y H ρ U _ _ S h k))
theorem Un.after{fs ex:List Addr}{H H1:Hp}{h h1 h':Heap}(u:Un fs ex H H1 h h1)(k:∀b o,b<h.objs.size->h1.get? b=some o->h'.get? b=some o):Un fs ex H H1 h h':=
 ⟨fun b o e n hb hx=>k b o (Heap.lt_size e) (u.keep b o e n hb hx),fun b o e n hb hx=>let ⟨sl,q⟩:=u.slot b o e n hb hx;⟨sl,k b _ (Heap.lt_size e) q⟩,u.free,fun b o e hx=>let ⟨o',q⟩:=u.there b o e hx;⟨o',k b _ (Heap.lt_size e) q⟩,u.xR,u.vL,u.wB⟩
theorem F4{α:Type}{cap:List (Option Nat)}{ρ:List (Option α)}{i:Nat}{d:α}(h:(eP cap ρ)[i]? = some (some d)):∃j,cap[i]? = some (some j)/\ρ[j]? = some (some d):=by
 unfold eP at h
 rw[getElem?_map] at h
 cases q:cap[i]? with
 |none=>rw[q] at h;cases h
 |some o=>
  rw[q] at h
  cases o with
  |none=>cases h
  |some j=>
   refine⟨j,rfl,?_⟩
   simp only[map_some,bind_some,Option.some.injEq] at h
   cases z:ρ[j]? with
   |none=>rw[z] at h;cases h
   |some y=>rw[z] at h;simp only[join_some] at h;rw[h]
theorem Lx{α:Type}{cap:List (Option Nat)}{ρ:List (Option α)}{i j:Nat}{d:α}(h:cap[i]? = some (some j))(e:ρ[j]? = some (some d)):(eP cap ρ)[i]? = some (some d):=by
 unfold eP
 rw[getElem?_map,h]
 simp[e]
theorem kD.cap{K:PySem.W.Frag}{U:Mu}{H:Hp}{ρ:Rho}{Y:St}{cap:List (Option Nat)}(r:kD K U H ρ Y):kD K U H (eP cap ρ) (eP cap Y):=by
 refine⟨by unfold eP;simp,fun i d e=>?_⟩
 obtain⟨j,h1,h2⟩:=F4 e
 obtain⟨u,h3,h4⟩:=r.2 j d h2
 exact⟨u,Lx h1 h3,h4⟩
theorem kD.le{K:PySem.W.Frag}{U:Mu}{H:Hp}{ρ am:Rho}{Y:St}(r:kD K U H am Y)(l:Le ρ am):kD K U H ρ Y:=
 ⟨l.get.1.trans r.1,fun i d e=>r.2 i d (l.get.2 i d e)⟩
theorem Ng{xs:List PyData}{f:PyData->Option PyData}{i:Nat}{d:PyData}(h:xs[i]? = some d):(xs.take (i+1)).filterMap f=(xs.take i).filterMap f++(f d).toList:=by
 obtain⟨hi,e⟩:=List.getElem?_eq_some_iff.mp h
 rw[List.take_succ_eq_append_getElem hi,List.filterMap_append,e]
 cases q:f d<;>simp[q]
section
variable {X:Cx}{a b c:Expr}{ta tb tc:DTE}{pos:Pos}
noncomputable def oG(r r':D->D->Mu->DK->Prop)(ta tb tc:DTE):DTE:=fun ρ U Q=>ta ρ U fun x ac=>tb ρ ac fun y ad=>r x y ad fun z ap=>match z with
 |.v (.bool k)=>if k=true then tc ρ ap fun w bn=>r' y w bn Q else Q (.v (.bool false)) ap
 |_=>False
theorem Fq{op op':CmpOp}{rr rr':R2}{r r':D->D->Mu->DK->Prop}(ho:OpR X (compareOp op) rr)(lo:hV X.K rr r)(ho':OpR X (compareOp op') rr')(lo':hV X.K rr' r')(ha:DE X a ta)(hb:DE X b tb)(hc:DE X c tc)
  (hm:lastMarks [op,op'] [b,c]=false:=by with_unfolding_all rfl):DE X (.Compare a [op,op'] [b,c] pos) (oG r r' ta tb tc):=by
 obtain⟨t1,p1,l1⟩:=ha
 obtain⟨t2,p2,l2⟩:=hb
 obtain⟨t3,p3,l3⟩:=hc
 refine⟨_,LH ho ho' p1 p2 p3 hm,fun Y H ρ U Qd Q S h k=>?_⟩
 refine l1 Y H ρ U _ _ S h fun x ux ac H1 e1 S1 rx h1=>?_
 refine l2 Y H1 ρ ac _ _ S1 h1 fun y uy ad H2 e2 S2 ry h2=>?_
 refine lo x y ux uy H2 ad _ _ S2.mu (rx.ext S1.mu e2) ry h2 fun z uz ap H3 e3 ok3 rz h3=>?_
 have S3:St0 X.K H3 ρ ap Y:=⟨ok3,S2.rho.ext S2.mu e3⟩
 split at h3
 ·rename_i kk
  cases rz
  refine⟨kk,rfl,?_⟩
  cases kk with
  |true=>
   refine FH ?_
   refine l3 Y H3 ρ ap _ _ S3 (by simpa using h3) fun w uw bn H4 e4 S4 rw' h4=>?_
   exact lo' y w uy uw H4 bn _ _ S4.mu ((ry.ext S2.mu e3).ext S3.mu e4) rw' h4 fun d u O H' e5 ok r q=>k d u O H' (e1.trans (e2.trans (e3.trans (e4.trans e5)))) ⟨ok,S4.rho.ext S4.mu e5⟩ r q
  |false=>exact Ey (k (.v (.bool false)) _ ap H3 (e1.trans (e2.trans e3)) S3 (Rp.bool false) (by simpa using h3))
 ·exact h3.elim
end
theorem pE{α:Type}{x:α}{xs:List α}:atI (x::xs) 0=some x:=by unfold atI ixN;simp
theorem qS{α:Type}{x y:α}{xs:List α}:atI (x::y::xs) 1=some y:=by
 have h:=jv (xs:=x::y::xs) (j:=1) (v:=y) rfl
 exact h
theorem ug{α:Type}{x y z:α}{xs:List α}:atI (x::y::z::xs) 2=some z:=by
 have h:=jv (xs:=x::y::z::xs) (j:=2) (v:=z) rfl
 exact h
theorem wG{α:Type}{x y z u:α}{xs:List α}:atI (x::y::z::u::xs) 3=some u:=by
 have h:=jv (xs:=x::y::z::u::xs) (j:=3) (v:=u) rfl
 exact h
noncomputable def wH:D->D->Mu->DK->Prop:=fun x y U Q=>match x,y with
 |.v (.int i),.v (.int j)=>Q (.v (.int (i+j))) U
 |.v (.tuple xs),.v (.tuple ys)=>xs.length+ys.length<=1000/\Q (.v (.tuple (xs++ys))) U
 |_,_=>IB x y U Q
theorem Qv{K:PySem.W.Frag}:hV K (fun x y H Q=>(rI0 fun i j=>.int (i+j)) x y H Q\/((Gw K) x y H Q\/Oy x y H Q)) wH:=by
 intro x y ux uy H U Qd Q ok rx ry h k
 unfold wH at h
 split at h
 ·exact .inl (IC (K:=K) (gd:=fun i j=>.int (i+j)) (fun _ _ _ _=>.int _) _ _ ux uy H U Qd Q ok rx ry h k)
 ·exact .inr (.inl (Nl _ _ ux uy H U Qd Q ok rx ry h k))
 ·exact .inr (.inr (O3 _ _ ux uy H U Qd Q ok rx ry h k))
theorem C2{X:Cx}{a b:Expr}{ta tb:DTE}{pos:Pos}(ha:DE X a ta)(hb:DE X b tb):DE X (.BinOp a .Add b pos) (dOp wH ta tb):=wZ (Kl.or (LC.or Qf)) Qv ha hb
section
variable {ρ:Rho}{U:Mu}{Q:DK}{QT:Bool->Mu->Prop}{QA:List D->Mu->Prop}{QG:Rho->Mu->Prop}{QI:List PyData->Mu->Prop}{QO:Option Int->Mu->Prop}{Dd:oI}{ta tb tc:DTE}{t u:DTT}{tA:DTA}{s1 s2:DTS}{i j:Int}{x y:PyData}{xs ys:List PyData}{d e:D}
noncomputable def sM:DTS:=fun _ _ _=>False
theorem pI{X:Cx}{st:Stmt}:DS X st sM:=⟨fun _ _ _=>False,fun _ _ _ _ _ _ h=>h.elim,fun _ _ _ _ _ _ _ h=>h.elim⟩
theorem lh{o:Rho}:ae 0 (some d::o) U Q=Q d U:=propext Iff.rfl
theorem lD{a}{o:Rho}:ae 1 (a::some d::o) U Q=Q d U:=propext Iff.rfl
theorem nE{a b}{o:Rho}:ae 2 (a::b::some d::o) U Q=Q d U:=propext Iff.rfl
theorem rY{a b c}{o:Rho}:ae 3 (a::b::c::some d::o) U Q=Q d U:=propext Iff.rfl
theorem sC{a b c f}{o:Rho}:ae 4 (a::b::c::f::some d::o) U Q=Q d U:=propext Iff.rfl
theorem sf{a b c f g}{o:Rho}:ae 5 (a::b::c::f::g::some d::o) U Q=Q d U:=propext Iff.rfl
theorem rS{a b c f g h}{o:Rho}:ae 6 (a::b::c::f::g::h::some d::o) U Q=Q d U:=propext Iff.rfl
theorem sR{a b c f g h k}{o:Rho}:ae 7 (a::b::c::f::g::h::k::some d::o) U Q=Q d U:=propext Iff.rfl
theorem tw{a b c f g h k l}{o:Rho}:ae 8 (a::b::c::f::g::h::k::l::some d::o) U Q=Q d U:=propext Iff.rfl
theorem sy{a b c f g h k l m}{o:Rho}:ae 9 (a::b::c::f::g::h::k::l::m::some d::o) U Q=Q d U:=propext Iff.rfl
theorem mY{a b c f g h k l m n}{o:Rho}:ae 10 (a::b::c::f::g::h::k::l::m::n::some d::o) U Q=Q d U:=propext Iff.rfl
theorem q_c:dC x ρ U Q=Q (.v x) U:=propext Iff.rfl
theorem K7{r}:dOp r ta tb ρ U Q=ta ρ U fun x ac=>tb ρ ac fun y ad=>r x y ad Q:=propext Iff.rfl
theorem q_B:dB ta ρ U QT=ta ρ U fun d ac=>match d with|.v (.bool k)=>QT k ac|_=>False:=propext Iff.rfl
theorem GX{C:Int->Int->Prop}{g:Int->Int->PyData}:rII C g (.v (.int i)) (.v (.int j)) U Q=(C i j/\Q (.v (g i j)) U):=propext Iff.rfl
theorem AB{g:Int->Int->PyData}:A0 g (.v (.int i)) (.v (.int j)) U Q=Q (.v (g i j)) U:=propext Iff.rfl
theorem Ao:D8 ta ρ U Q=ta ρ U fun x ac=>match x with|.v (.int i)=>Q (.v (.int (-i))) ac|_=>False:=propext Iff.rfl
theorem yC:lH t u ρ U QT=t ρ U fun c ac=>if c=true then u ρ ac QT else QT false ac:=propext Iff.rfl
theorem Es:fM t u ρ U QT=t ρ U fun c ac=>if c=true then QT true ac else u ρ ac QT:=propext Iff.rfl
theorem sG:dn t ρ U QT=t ρ U fun c ac=>QT (!c) ac:=propext Iff.rfl
theorem Af:fh ta tb ρ U Q=ta ρ U fun x ac=>match x with|.v (.bool c)=>if c=true then tb ρ ac Q else Q (.v (.bool false)) ac|_=>False:=propext Iff.rfl
theorem sY:Ap ta ρ U Q=ta ρ U fun x ac=>match x with|.v (.bool c)=>Q (.v (.bool (!c))) ac|_=>False:=propext Iff.rfl
theorem LJ:dIf t ta tb ρ U Q=t ρ U fun c ac=>if c=true then ta ρ ac Q else tb ρ ac Q:=propext Iff.rfl
theorem qo:ao ρ U QA=QA [] U:=propext Iff.rfl
theorem jT:ab ta tA ρ U QA=ta ρ U fun x ac=>tA ρ ac fun xs ad=>QA (x::xs) ad:=propext Iff.rfl
theorem zC:cS tA ρ U Q=tA ρ U fun ds ac=>match du ds with|some xs=>Q (.v (.tuple xs)) ac|none=>False:=propext Iff.rfl
theorem Av:g8 tA ρ U Q=tA ρ U fun ds ac=>match du ds with|some xs=>Q (.v (.list xs)) ac|none=>False:=propext Iff.rfl
theorem rT:zk tA ρ U Q=tA ρ U fun ds ac=>match du ds with|some xs=>∀p,ac p=none->Q (.m p) (bD ac p xs)|none=>False:=propext Iff.rfl
theorem AI:du []=some []:=by rw[du]
theorem yt{r:List D}:du (.v x::r)=(du r).map (x::·):=by rw[du]
theorem IE{neg:Bool}:bV neg (.v x) (.v y) U Q=(SeqAt.shaped x=true/\SeqAt.shaped y=true/\Q (.v (.bool (neg ^^ PyData.eqv x y))) U):=propext Iff.rfl
theorem zJ{neg:Bool}:bV neg (.v (.int i)) (.v (.int j)) U Q=Q (.v (.bool (neg ^^ decide (i=j)))) U:=by
 have e:PyData.eqv (.int i) (.int j)=decide (i=j):=by simp[PyData.eqv];rfl
 rw[IE,e]
 exact propext ⟨fun h=>h.2.2,fun h=>⟨rfl,rfl,h⟩⟩
theorem yp{neg:Bool}:bV neg (.v (.tuple xs)) (.v (.tuple ys)) U Q=(SeqAt.shaped (.tuple xs)=true/\SeqAt.shaped (.tuple ys)=true/\Q (.v (.bool (neg ^^ PyData.eqv (.tuple xs) (.tuple ys)))) U):=propext Iff.rfl
theorem Ae{neg:Bool}:bV neg (.v (.list xs)) (.v (.list ys)) U Q=(SeqAt.shaped (.list xs)=true/\SeqAt.shaped (.list ys)=true/\Q (.v (.bool (neg ^^ PyData.eqv (.list xs) (.list ys)))) U):=propext Iff.rfl
theorem zq{neg a b:Bool}:bV neg (.v (.bool a)) (.v (.bool b)) U Q=Q (.v (.bool (neg ^^ (a==b)))) U:=by
 have e:PyData.eqv (.bool a) (.bool b)=(a==b):=by cases a<;>cases b<;>simp[PyData.eqv]<;>rfl
 rw[IE,e]
 exact propext ⟨fun h=>h.2.2,fun h=>⟨rfl,rfl,h⟩⟩
theorem yY{neg:Bool}:Lp neg (.v x) (.v (.list ys)) U Q=(PyData.canLayAll0 ys=true/\x.canLay0=true/\PyData.depth x<=60/\Q (.v (.bool (neg ^^ ys.any fun b=>PyData.eqv b x))) U):=propext Iff.rfl
theorem p6:ax (.v (.list xs)) (.v (.int i)) U Q=(match atI xs i with|some d=>Q (.v d) U|none=>False):=propext Iff.rfl
theorem ky:ax (.v (.tuple xs)) (.v (.int i)) U Q=(match atI xs i with|some d=>Q (.v d) U|none=>False):=propext Iff.rfl
theorem Ar{l:Addr}:ax (.m l) (.v (.int i)) U Q=(match U l with|some xs=>(match atI xs i with|some d=>Q (.v d) U|none=>False)|none=>False):=propext Iff.rfl
theorem yW{ns:List Int}:ax (.s ns) (.v (.int i)) U Q=(match atI ns i with|some d=>Q (.v (.int d)) U|none=>False):=propext Iff.rfl
theorem nP:ax (.v (.list (x::xs))) (.v (.int 0)) U Q=Q (.v x) U:=by rw[p6,pE]
theorem pF:ax (.v (.tuple (x::xs))) (.v (.int 0)) U Q=Q (.v x) U:=by rw[ky,pE]
theorem sP{z}:ax (.v (.list (z::x::xs))) (.v (.int 1)) U Q=Q (.v x) U:=by rw[p6,qS]
theorem pK{z}:ax (.v (.tuple (z::x::xs))) (.v (.int 1)) U Q=Q (.v x) U:=by rw[ky,qS]
theorem sD{z w}:ax (.v (.list (z::w::x::xs))) (.v (.int 2)) U Q=Q (.v x) U:=by rw[p6,ug]
theorem oO{z w}:ax (.v (.tuple (z::w::x::xs))) (.v (.int 2)) U Q=Q (.v x) U:=by rw[ky,ug]
theorem rP{z w v}:ax (.v (.tuple (z::w::v::x::xs))) (.v (.int 3)) U Q=Q (.v x) U:=by rw[ky,wG]
theorem yn:IB d e U Q=(match lZ U d,lZ U e with|some xs,some ys=>xs.length+ys.length<=1000/\Q (.v (.list (xs++ys))) U|_,_=>False):=propext Iff.rfl
theorem tH:wH (.v (.tuple xs)) (.v (.tuple ys)) U Q=(xs.length+ys.length<=1000/\Q (.v (.tuple (xs++ys))) U):=propext Iff.rfl
theorem sL:wH (.v (.list xs)) (.v (.list ys)) U Q=(xs.length+ys.length<=1000/\Q (.v (.list (xs++ys))) U):=propext Iff.rfl
theorem G0{tl th:DTO}:dSl ta tl th ρ U Q=ta ρ U fun x ac=>tl ρ ac fun l ad=>th ρ ad fun u ap=>LQ x l u ap Q:=propext Iff.rfl
theorem j6:Dh ρ U QO=QO none U:=propext Iff.rfl
theorem rX:EW ta ρ U QO=ta ρ U fun x ac=>match x with|.v (.int i)=>QO (some i) ac|_=>False:=propext Iff.rfl
theorem zR{lo hi:Option Int}:LQ (.v (.tuple xs)) lo hi U Q=Q (.v (.tuple (y9 xs lo hi))) U:=propext Iff.rfl
theorem Ja{rd}:dCB rd tA ρ U Q=tA ρ U fun ds ac=>rd ds ac Q:=propext Iff.rfl
theorem rC:cL [.v (.list ys)] U Q=Q (.v (.int (ys.length:Nat))) U:=propext Iff.rfl
theorem tI:cL [.v (.tuple ys)] U Q=Q (.v (.int (ys.length:Nat))) U:=propext Iff.rfl
theorem sW{ns:List Int}:cL [.s ns] U Q=Q (.v (.int (ns.length:Nat))) U:=propext Iff.rfl
theorem qq{l:Addr}:cL [.m l] U Q=(match U l with|some ys=>Q (.v (.int (ys.length:Nat))) U|none=>False):=propext Iff.rfl
theorem zh:uh [.v (.int i)] U Q=Q (.v (.int (i.natAbs:Nat))) U:=propext Iff.rfl
theorem GF{g:Int->Int->Int}:FL g [.v (.int i),.v (.int j)] U Q=Q (.v (.int (g i j))) U:=propext Iff.rfl
theorem rL{k:Bool}:rA [.v (.bool k)] U Q=Q (.v (.int (if k then 1 else 0))) U:=propext Iff.rfl
theorem nK:vZ [.v (.tuple ys)] U Q=Q (.v (.list ys)) U:=propext Iff.rfl
theorem yJ:xg [.v (.list ys)] U Q=(match dy ys with|some bs=>Q (.v (.bool (bs.all id))) U|none=>False):=propext Iff.rfl
theorem AA{T:String}:wb T ta ρ U Q=ta ρ U fun x ac=>match x with|.v d=>Q (.v (.bool (isT T d))) ac|_=>False:=propext Iff.rfl
theorem gn{n:Nat}:ak n d ρ U QG=QG (ρ.set n (some d)) U:=propext Iff.rfl
theorem o9:hR [] ρ U QG=QG ρ U:=propext Iff.rfl
theorem kT{g:DTG}{gs:Bz}:bh g gs (x::xs) ρ U QG=g (.v x) ρ U fun lm ac=>gs xs lm ac QG:=propext Iff.rfl
theorem pY{n:Nat}{gs:Bz}:gO n gs (.v (.tuple xs)) ρ U QG=(xs.length=n/\gs xs ρ U QG):=propext Iff.rfl
theorem sF:HP ta tb d ρ U QG=ta ρ U fun o ac=>tb ρ ac fun i ad=>match o,i,d with
 |.m l,.v (.int k),.v x=>(match ad l with
  |some xs=>(match ixN xs.length k with
   |some j=>QG ρ (bD ad l (xs.set j x))
   |none=>False)
  |none=>False)
 |_,_,_=>False:=propext Iff.rfl
theorem F1{g:DTG}:aR ta g Dd ρ U=ta ρ U fun d ac=>g d ρ ac Dd.nx:=propext Iff.rfl
theorem Am{i j:Nat}:vf i j tA Dd ρ U=tA ρ U fun ds ac=>match ds with|[v,w]=>Dd.nx ((ρ.set i (some v)).set j (some w)) ac|_=>False:=propext Iff.rfl
theorem tF:aW Dd ρ U=Dd.nx ρ U:=propext Iff.rfl
theorem qW:aC s1 s2 Dd ρ U=s1 {Dd with nx:=s2 Dd} ρ U:=propext Iff.rfl
theorem yX:aT ta Dd ρ U=ta ρ U Dd.rt:=propext Iff.rfl
theorem rO:oS ta Dd ρ U=ta ρ U fun _ ac=>Dd.nx ρ ac:=propext Iff.rfl
theorem FX:bQ t s1 s2 Dd ρ U=t ρ U fun b ac=>if b=true then s1 Dd ρ ac else s2 Dd ρ ac:=propext Iff.rfl
theorem nJ:sM Dd ρ U=False:=propext Iff.rfl
theorem pT{dsp:DSp}:aq dsp tA ρ U Q=tA ρ U fun ds ac=>dsp ds ac Q:=propext Iff.rfl
theorem zN:Ei ta tb ρ U Q=ta ρ U fun x ac=>match x with
 |.m l=>tb ρ ac fun y ad=>(match y,ad l with
  |.v d,some xs=>xs.length<1000/\Q (.v .none) (bD ad l (xs++[d]))
  |_,_=>False)
 |_=>False:=propext Iff.rfl
theorem zp:SJ ta tb ρ U Q=ta ρ U fun x ac=>match x with
 |.m l=>tb ρ ac fun y ad=>(match y,ad l with
  |.v (.list ys),some xs=>xs.length+ys.length<=1000/\Q (.v .none) (bD ad l (xs++ys))
  |_,_=>False)
 |_=>False:=propext Iff.rfl
theorem sU:J2 ta ρ U Q=ta ρ U fun x ac=>match x with|.v (.int i)=>Q (.v (.int (Builtin.Int.intBits i:Nat))) ac|_=>False:=propext Iff.rfl
theorem tN{r r'}:oG r r' ta tb tc ρ U Q=ta ρ U fun x ac=>tb ρ ac fun y ad=>r x y ad fun z ap=>match z with
 |.v (.bool k)=>if k=true then tc ρ ap fun w bn=>r' y w bn Q else Q (.v (.bool false)) ap
 |_=>False:=propext Iff.rfl
theorem j2:eU ρ U QT=QT true U:=propext Iff.rfl
theorem iR:dU ta ρ U QI=ta ρ U fun d ac=>match d with|.v (.list xs)=>QI xs ac|_=>False:=propext Iff.rfl
theorem mX:uu ta ρ U QI=ta ρ U fun d ac=>match d with|.v (.tuple xs)=>QI xs ac|_=>False:=propext Iff.rfl
theorem iZ:nt tA ρ U QI=tA ρ U fun ds ac=>match ds with|[.v (.int j)]=>(-(2 ^ 62)<=j/\j<2 ^ 62)/\QI (o4 0 j.toNat) ac|_=>False:=propext Iff.rfl
theorem j8:GO tA ρ U QI=tA ρ U fun ds ac=>match ds with|[.v (.int i),.v (.int j)]=>(-(2 ^ 62)<=i/\i<2 ^ 62/\-(2 ^ 62)<=j/\j<2 ^ 62)/\QI (o4 i (j-i).toNat) ac|_=>False:=propext Iff.rfl
theorem vo{src:DTI}{g:DTG}:vE src g s1 Dd ρ U=src ρ U fun xs ac=>∃Pv:Nat->Rho->Mu->Prop,Pv 0 ρ ac /\
 (∀i x am O,xs[i]? = some x->Pv i am O->g (.v x) am O fun ca ad=>s1 {Dd with nx:=Pv (i+1),ct:=Pv (i+1),bk:=Dd.nx} ca ad)/\(∀am O,Pv xs.length am O->Dd.nx am O):=propext Iff.rfl
theorem rV{cap:List (Option Nat)}{src:DTI}{g:DTG}:rg cap src g t ta ρ U Q=src ρ U fun xs ac=>xs.length<=1000/\∃f:PyData->Option PyData,
 (∀x∈xs,∀O:Mu,(∀a ds,ac a=some ds->O a=some ds)->g (.v x) (eP cap ρ) O fun ca ad=>Le (eP cap ρ) ca/\t ca ad fun b ap=>
  if b=true then ta ca ap fun d bn=>bn=O/\(match d with|.v y=>f x=some y|_=>False) else ap=O/\f x=none)/\Q (.v (.list (xs.filterMap f))) ac:=propext Iff.rfl
theorem j3{α:Type}{r:List (Option α)}:eP [] r=[]:=rfl
theorem jE{α:Type}{o:Option Nat}{c:List (Option Nat)}{r:List (Option α)}:eP (o::c) r=(o.bind fun j=>(r[j]?).join)::eP c r:=rfl
theorem pf:Le [] []=True:=propext ⟨fun _=>trivial,fun h=>h⟩
theorem oQ{r r':Rho}{o:Option D}:Le (none::r) (o::r')=Le r r':=propext Iff.rfl
theorem qX{r r':Rho}{d d':D}:Le (some d::r) (some d'::r')=(d=d'/\Le r r'):=propext Iff.rfl
theorem kO{α:Type}(p:α->Bool):∀xs:List α,dy (xs.map fun x=>PyData.bool (p x))=some (xs.map p)
 |[]=>rfl
 |x::r=>by rw[map_cons,dy,kO p r];rfl
theorem nW{α β:Type}(p:α->β):∀xs:List α,xs.filterMap (fun x=>some (p x))=xs.map p
 |[]=>rfl
 |x::r=>by rw[List.filterMap_cons,nW p r];rfl
theorem HR:tE t s1 Dd ρ U=(∃W:Nat->Rho->Mu->Prop,(∃m,W m ρ U)/\∀m ρ U,W m ρ U ->
 t ρ U fun b ac=>if b=true then s1 {Dd with nx:=fun am O=>∃m',m'<m/\W m' am O,ct:=fun am O=>∃m',m'<m/\W m' am O,bk:=Dd.nx} ρ ac else Dd.nx ρ ac):=propext Iff.rfl
end
theorem Ko{α β:Type}[BEq α][LawfulBEq α]{x:α}{k:β}:∀{l:List (α×β)},l.lookup x=some k->(x,k)∈l
 |[],h=>by cases h
 |(y,j)::r,h=>by
  rw[lookup_cons] at h
  cases e:x==y with
  |true=>
   rw[e] at h
   simp only[Option.some.injEq] at h
   have:x=y:=eq_of_beq e
   subst this h
   exact mem_cons_self
  |false=>
   rw[e] at h
   exact mem_cons_of_mem _ (Ko h)
noncomputable def cfK:NameKind->Bool
 |.cell=>true
 |.free=>true
 |_=>false
theorem P7{names:List (Str×NameKind)}{cl:List (Str×Addr)}(h:(names.all fun y=>!(cfK y.2) || (cl.lookup y.1).isSome)=true)(x:Str)(hx:names.lookup x=some .cell\/names.lookup x=some .free):∃a,cl.lookup x=some a:=by
 rw[all_eq_true] at h
 have key:∀k,cfK k=true->names.lookup x=some k->∃a,cl.lookup x=some a:=fun k hk e=>by
  have q:=h _ (Ko e)
  simp only[hk,Bool.not_true,Bool.false_or] at q
  exact Option.isSome_iff_exists.mp q
 rcases hx with e|e
 ·exact key _ rfl e
 ·exact key _ rfl e
noncomputable def Kg(X:Cx)(sc:Scope):List (Option Nat)->List Str->Prop
 |none::c,_::n=>Kg X sc c n
 |some j::c,x::n=>(X.N[j]? = some x/\Vis X.env.scope x/\X.env.kindOf x≠some .local/\((relabel sc X.env).names.lookup x=some .cell\/(relabel sc X.env).names.lookup x=some .free))/\Kg X sc c n
 |_,_=>True
theorem G1{X:Cx}{sc:Scope}:∀{c:List (Option Nat)} {n:List Str},Kg X sc c n->∀(i j:Nat) (x:Str),c[i]? = some (some j)->n[i]? = some x ->
  X.N[j]? = some x/\Vis X.env.scope x/\X.env.kindOf x≠some .local/\((relabel sc X.env).names.lookup x=some .cell\/(relabel sc X.env).names.lookup x=some .free)
 |[],_,_,i,j,x,h,_=>by simp at h
 |_::_,[],_,i,j,x,_,h=>by simp at h
 |none::c,y::n,k,0,j,x,h,_=>by simp at h
 |none::c,y::n,k,i+1,j,x,h,g=>G1 (c:=c) (n:=n) k i j x (by simpa using h) (by simpa using g)
 |some l::c,y::n,k,0,j,x,h,g=>by
  simp only[getElem?_cons_zero,Option.some.injEq] at h g
  subst h g
  exact k.1
 |some l::c,y::n,k,i+1,j,x,h,g=>G1 (c:=c) (n:=n) k.2 i j x (by simpa using h) (by simpa using g)
theorem SM{X:Cx}{sc:Scope}{j:Nat}{x:Str}(h1:X.N[j]? = some x:=by rfl)(h2:Vis X.env.scope x:=by first|exact Or.inl rfl|exact Or.inr (Or.inl rfl)|exact Or.inr (Or.inr rfl))(h3:X.env.kindOf x≠some .local:=by first|(intro z;cases z)|exact (fun z=>nomatch z))
  (h4:(relabel sc X.env).names.lookup x=some .cell\/(relabel sc X.env).names.lookup x=some .free:=by first|exact Or.inl rfl|exact Or.inr rfl):X.N[j]? = some x/\Vis X.env.scope x/\X.env.kindOf x≠some .local/\((relabel sc X.env).names.lookup x=some .cell\/(relabel sc X.env).names.lookup x=some .free):=⟨h1,h2,h3,h4⟩
noncomputable def jW(U:Mu)(p:Addr):Mu:=⟨fun b=>if b=p then none else U b,U.b⟩
theorem fb{U:Mu}{p b:Addr}(h:b≠p):jW U p b=U b:=if_neg h
theorem ka{U:Mu}{p:Addr}:jW U p p=none:=if_pos rfl
noncomputable def dq(cap:List (Option Nat))(src:DTI)(g:DTG)(c:DTT)(elt:DTE):DTE:=fun ρ U Q=>src ρ U fun xs ac=>xs.length<=1000/\∀p,ac p=none->∃Pv:Nat->List PyData->Mu->Prop,Pv 0 [] (bD ac p []) /\
 (∀i x acc O,xs[i]? = some x->O p=some acc->Pv i acc O->g (.v x) (eP cap ρ) O fun ca ad=>Le (eP cap ρ) ca/\c ca ad fun b ap=>
  if b=true then elt ca ap fun d bn=>bn p=some acc/\(match d with|.v y=>Pv (i+1) (acc++[y]) (bD bn p (acc++[y]))|_=>False) else ap p=some acc/\Pv (i+1) acc ap) /\
 (∀acc O,Pv xs.length acc O->O p=some acc->Q (.v (.list acc)) (jW O p))
theorem ns_obj{h:Heap}{C:Addr}{m:Str->Option Value}(hn:h.Ns C m):∃o,h.get? C=some o/\∀v,o.data≠.cell v:=let ⟨o,es,ep,ho,hd,_⟩:=hn;⟨o,ho,fun v z=>by rw[hd] at z;cases z⟩
theorem NH{h h':Heap}{C:Addr}{m:Str->Option Value}(hn:h.Ns C m)(e:h'.get? C=h.get? C):h'.Ns C m:=let ⟨o,es,ep,ho,r⟩:=hn;⟨o,es,ep,e.trans ho,r⟩
theorem kF{cap:List (Option Nat)}{src:DTI}{g:DTG}{t:DTT}{ta:DTE}{ρ:Rho}{U:Mu}{Q:DK}:dq cap src g t ta ρ U Q=src ρ U fun xs ac=>xs.length<=1000/\∀p,ac p=none->∃Pv:Nat->List PyData->Mu->Prop,Pv 0 [] (bD ac p []) /\
 (∀i x acc O,xs[i]? = some x->O p=some acc->Pv i acc O->g (.v x) (eP cap ρ) O fun ca ad=>Le (eP cap ρ) ca/\t ca ad fun b ap=>
  if b=true then ta ca ap fun d bn=>bn p=some acc/\(match d with|.v y=>Pv (i+1) (acc++[y]) (bD bn p (acc++[y]))|_=>False) else ap p=some acc/\Pv (i+1) acc ap) /\
 (∀acc O,Pv xs.length acc O->O p=some acc->Q (.v (.list acc)) (jW O p)):=propext Iff.rfl
theorem vG{U:Mu}{p:Addr}{ds:List PyData}(h:U p=none):jW (bD U p ds) p=U:=Mu.eq (fun b=>by
 by_cases e:b=p
 ·rw[e,ka,h]
 ·rw[fb e,aV e]) fun _=>rfl
theorem O5{xs:List PyData}{f:PyData->Option PyData}{i:Nat}{d:PyData}(h:xs[i]? = some d):(xs.take (i+1)).filterMap f=(xs.take i).filterMap f++(f d).toList:=Ng h
theorem Inv.GS{X:Cx}{pins:List (Addr×Obj)}{Y:St}{H:Hp}{s:Shared}{h':Heap}{t':Nat}{ch:List Addr}{a:Addr}{o:HO}(I:Inv X pins Y H s)(hc:∀b∈ch,AL X pins H b)
  (k:∀b u,b ∉ ch->s.heap.get? b=some u->h'.get? b=some u) (hp:s.heap.objs.size<=a) (new:jq X.prog X.w (upd H a o) h' a o):Inv X pins Y (upd H a o) {s with heap:=h',toks:=t'}:=by
 have hn:=I.hok.fresh hp
 have nin:∀b u,H b=some u->b ∉ ch:=fun b u e z=>by rw[(hc b z).1] at e;cases e
 refine I.call (g':=s.gens) (d':=s.drawn) (t':=t') (ch:=ch) ?_ ?_ I.bare fun b hb=>?_
 ·exact⟨fun b u q _ _ x=>k b u x q,fun b u q _ _ x=>⟨u.slots,k b u x q⟩,fun b u q n _=>by rw[bN (ne_of_lt (lt_of_lt_of_le (Heap.lt_size q) hp))];exact n,fun b u q x=>⟨u,k b u x q⟩,
   fun b xs q=>by rw[bN (bO q hn)];exact q,fun b u xs q=>by rw[bN (bO q hn)];exact q,fun b ps q=>⟨#[],by rw[bN (bO q hn),q];simp⟩⟩
 ·intro b u e
  by_cases hb:b=a
  ·subst hb;rw[jP] at e;cases e;exact new
  ·rw[bN hb] at e
   refine (I.hok b u e).lj (fun c v hcv q=>k c v ?_ q) (fun c q=>by rw[bN (bO q hn)];exact q) fun c xs q=>by rw[bN (bO q hn)];exact q
   rcases hcv with z|z
   ·rw[z];exact nin b u e
   ·exact nin c _ z
 ·obtain⟨_,f1,f2,f3,f4,f5⟩:=hc b hb
  exact⟨f3,f1,f4,f5⟩
theorem Inv.Nx{X:Cx}{pins:List (Addr×Obj)}{Y:St}{H:Hp}{s:Shared}{h':Heap}{t':Nat}{ch:List Addr}(I:Inv X pins Y H s)(hc:∀b∈ch,AL X pins H b)
  (k:∀b u,b ∉ ch->s.heap.get? b=some u->h'.get? b=some u):Inv X pins Y H {s with heap:=h',toks:=t'}:=by
 have nin:∀b u,H b=some u->b ∉ ch:=fun b u e z=>by rw[(hc b z).1] at e;cases e
 refine I.call (g':=s.gens) (d':=s.drawn) (t':=t') (ch:=ch) ?_ ?_ I.bare fun b hb=>?_
 ·exact⟨fun b u q _ _ x=>k b u x q,fun b u q _ _ x=>⟨u.slots,k b u x q⟩,fun b u q n _=>n,fun b u q x=>⟨u,k b u x q⟩,fun b xs q=>q,fun b u xs q=>q,fun b ps q=>⟨#[],by rw[q];simp⟩⟩
 ·intro b u e
  refine (I.hok b u e).lj (fun c v hcv q=>k c v ?_ q) (fun c q=>q) fun c xs q=>q
  rcases hcv with z|z
  ·rw[z];exact nin b u e
  ·exact nin c _ z
 ·obtain⟨_,f1,f2,f3,f4,f5⟩:=hc b hb
  exact⟨f3,f1,f4,f5⟩
section
variable {X:Cx}{es:List Expr}{x1:Nat}{tpos:Pos}
noncomputable def EY:List PyData->List PyData->List PyData
 |x::xs,y::ys=>.tuple [x,y]::EY xs ys
 |_,_=>[]
end
section
variable {X:Cx}{a b e:Expr}{es:List Expr}{ta tb te:DTE}{t:DTA}{p pos:Pos}
noncomputable def kx:List D->Mu->DK->Prop:=fun xs U Q=>match xs with
 |[.v (.list ys)]=>Q (.v (.tuple ys)) U
 |[.v (.tuple ys)]=>Q (.v (.tuple ys)) U
 |[.m l]=>(match U l with|some ys=>Q (.v (.tuple ys)) U|none=>False)
 |_=>False
theorem Kp{K:PySem.W.Frag}:mi K (fun xs H Q=>∃p ys,xs=[.ref p]/\((SqL K H p ys/\∀l,H l=none->Q (.ref l) (upd H l (.tup ys)))\/(SqT K H p ys/\Q (.ref p) H))) kx:=by
 intro xs us H U Qd Q ok rs h k
 unfold kx at h
 split at h
 ·cases rs with
  |cons r1 r2=>
   cases r2
   cases r1 with
   |list hs hn r=>exact⟨_,_,rfl,.inl ⟨SqL.of hs,fun l hl=>k (.v _) _ U _ (d8 hl) (ok.new hl) (iF ok r hl) h⟩⟩
 ·cases rs with
  |cons r1 r2=>
   cases r2
   cases id r1 with
   |tuple hs r=>exact⟨_,_,rfl,.inr ⟨hs,k (.v _) _ U H .refl ok r1 h⟩⟩
 ·cases rs with
  |cons r1 r2=>
   cases r2
   obtain⟨rfl,ds,hm⟩:=r1
   rw[hm] at h
   obtain⟨us,hl,r⟩:=ok _ ds hm
   exact⟨_,_,rfl,.inl ⟨SqL.of hl,fun l hl'=>k (.v _) _ U _ (d8 hl') (ok.new hl') (iF ok r hl') h⟩⟩
 ·exact h.elim
theorem yq(hg:Gl X "tuple")(hm:X.mg "tuple"=none)(ha:DA X (e::es) t)
  (he:starEach (e::es) X.env=(false,eval e X.env)::starEach es X.env:=by rfl) (hpl:(backTo pos (starEach es X.env)).any (·.1)=false:=by rfl):DE X (.Call (.Name "tuple" p) (e::es) [] pos) (dCB kx t):=
 vv Bg Kp hg hm PyProof.Rows.Boot.«tuple» ha ⋯ ⋯ he hpl
theorem j1{ys:List PyData}{U:Mu}{Q:DK}:kx [.v (.list ys)] U Q=Q (.v (.tuple ys)) U:=propext Iff.rfl
theorem ko{l:Addr}{U:Mu}{Q:DK}:kx [.m l] U Q=(match U l with|some ys=>Q (.v (.tuple ys)) U|none=>False):=propext Iff.rfl
end
section
variable {prog:Program}{w:World}{A:Around}{E:Value->Shared->Prop}{s:Shared}
theorem Hj{it t:Addr}{i:Nat}{items:Array Value}{x:Value}{Q:Value->Shared->Prop}(hit:IsTupIter s.heap it t i)(ht:IsTup s.heap t items)(hx:items[i]? = some x)
  (k:∀h',IsTupIter h' it t (i+1)->Heap.SameBut it s.heap h'->Q x {s with heap:=h'}):wpAny (model prog w) A (Builtin.SmallTypes.nextOf (.ref it)) Q E s:=by
 obtain⟨o,ho,hc,hd⟩:=id hit
 obtain⟨ol,hol,_,nl,hdl⟩:=ht
 unfold Builtin.SmallTypes.nextOf
 refine wpAny_bind (wpAny_callSpecial?_slot (name:=Str.ofString "__next__") hit.typeIs slot_tupleiter_next (wpAny_call_entry slot_tupleiter_next hit.typeIs entry_tupleiter_next ?_ (args_tupleiter_next _)))
 show wpAny _ _ (field (.ref it) 0>>=_) _ _ s
 refine wpAny_bind (wpAny_field ho hd (x:=.ref t) rfl ?_)
 show wpAny _ _ (if (Value.ref t==Value.none)=true then _ else _) _ _ s
 rw[if_neg (show ¬ ((Value.ref t==Value.none)=true) from Bool.false_ne_true)]
 refine wpAny_bind (wpAny_field ho hd (x:=.int i 0) rfl (wpAny_bind (m:=seqItems? (.ref t)) (wpAny_seqItems hol hdl ?_)))
 simp only[Int.toNat_natCast,hx]
 refine wpAny_bind (wpAny_setField ho hd (by simp) (wpAny_pure ⟨x,rfl,wpAny_pure (k _ ⟨_,Heap.get?_update_self _ ho (Obj.isFreed_of_fields (Obj.data_mapFields hd _)),(Obj.cls_mapFields ..).trans hc,?_⟩ (Heap.SameBut.update ..))⟩))
 rw[Obj.data_mapFields hd]
 simp[rawInt]
theorem EL{it t:Addr}{i:Nat}{items:Array Value}{Q:Value->Shared->Prop}(hh:A.handled=none)(hit:IsTupIter s.heap it t i)(ht:IsTup s.heap t items)(hx:items[i]? = none)
  (k:∀h' e,Heap.ExtBut it s.heap h'->(∃o,h'.get? e=some o/\o.cls = .type "StopIteration")->E (.ref e) {s with heap:=h'}):wpAny (model prog w) A (Builtin.SmallTypes.nextOf (.ref it)) Q E s:=by
 obtain⟨o,ho,hc,hd⟩:=id hit
 obtain⟨ol,hol,_,nl,hdl⟩:=ht
 unfold Builtin.SmallTypes.nextOf
 refine wpAny_bind (wpAny_callSpecial?_slot (name:=Str.ofString "__next__") hit.typeIs slot_tupleiter_next (wpAny_call_entry slot_tupleiter_next hit.typeIs entry_tupleiter_next ?_ (args_tupleiter_next _)))
 show wpAny _ _ (field (.ref it) 0>>=_) _ _ s
 refine wpAny_bind (wpAny_field ho hd (x:=.ref t) rfl ?_)
 show wpAny _ _ (if (Value.ref t==Value.none)=true then _ else _) _ _ s
 rw[if_neg (show ¬ ((Value.ref t==Value.none)=true) from Bool.false_ne_true)]
 refine wpAny_bind (wpAny_field ho hd (x:=.int i 0) rfl (wpAny_bind (m:=seqItems? (.ref t)) (wpAny_seqItems hol hdl ?_)))
 simp only[Int.toNat_natCast,hx]
 refine wpAny_bind (wpAny_rule (wpAny_bind (wpAny_setField ho hd (by simp) ?_)))
 show wpAny _ _ (newExc (.type "StopIteration") []>>=_) _ _ _
 refine wpAny_bind ?_
 simp only[newExc,newTuple]
 refine wpAny_bind (wpAny_newObj_type ?_ (by size_fits))
 refine wpAny_bind (m:=firstArgMember _ _) (wpAny_of_eq (a:=Value.none) (by first|rfl|(simp only[firstArgMember];rfl)) ?_)
 refine wpAny_newObj_type ?_ (by size_fits)
 simp only[raiseNew]
 refine wpAny_bind (wpAny_handled ?_)
 first|rw[show A.in1.handled=none from hh]|rw[hh]
 refine wpAny_bind (wpAny_pure (wpAny_throw ?_))
 refine k _ _ (fun c o hc' e=>?_) ⟨_,Heap.get?_push_size _ rfl,rfl⟩
 exact Heap.get?_push_of_some _ (Heap.get?_push_of_some _ ((Heap.SameBut.update ..).extBut _ _ hc' e))
noncomputable abbrev zt1(h:Heap)(l:Addr):Heap:=h.push {cls:=.type "tuple_iterator",data:=.fields #[.ref l,.int 0 0]}
end
theorem cl1{k:Str}{v:Addr}{r:List (Str×Addr)}{x:Str}{a:Addr}(h:List.lookup x [(k,v)]=some a):List.lookup x ((k,v)::r)=some a:=by
 simp only[lookup_cons] at h ⊢
 cases e:x==k with
 |true=>rw[e] at h;exact h
 |false=>rw[e] at h;exact absurd h (by simp)
theorem cl2{k k':Str}{v v':Addr}{r:List (Str×Addr)}{x:Str}{a:Addr}(n:(k==k')=false)(h:List.lookup x [(k,v)]=some a):List.lookup x ((k',v')::(k,v)::r)=some a:=by
 have g:=cl1 (r:=r) h
 simp only[lookup_cons] at h
 cases e:x==k with
 |true=>
  have e':x=k:=by simpa using e
  subst e'
  rw[lookup_cons,n]
  exact g
 |false=>rw[e] at h;exact absurd h (by simp)
section
variable {X:Cx}{e:Expr}{es:List Expr}{t:DTA}{p pos:Pos}
theorem x5:∀{ns:List Int} {us:List Value},Vals (ns.map V.int) us->PyProof.Rows.IntsAre us ns
 |[],_,.nil=>.nil
 |n::r,_,.cons h t=>by obtain⟨tk,rfl⟩:=h;exact .cons n tk (x5 t)
theorem Jk(hc:X.calm=true):jo X (.builtin "sum") (fun xs H Q=>∃(p:Addr) (ns:List Int),xs=[.ref p]/\H p=some (.lst (ns.map V.int))/\Q (.int ns.sum) H):=by
 intro pins s Y H xs us Q I r h
 obtain⟨l,ns,rfl,hl,q⟩:=h
 obtain⟨u,rfl,rx⟩:=vals1 r
 cases rx
 obtain⟨its,rv,pl,_⟩:=I.list (SqL.of hl)
 have hi:=x5 rv
 have hL:=pl.isList
 obtain⟨xs,hx⟩:=hi.allInts.items
 have hn:numsOf its.toArray.toList=ns:=by rw[show its.toArray.toList=its from rfl,hi.numsOf]
 rw[hx] at hL hn
 rw[nums_intItems] at hn
 refine sum_intListG (I.ok.hd hc) hL fun h' tk t' hk=>?_
 rw[preSum_eq,List.take_of_length_le (by simp),hn]
 exact⟨.int ns.sum,H,I.kept hk,⟨_,rfl⟩,q⟩
noncomputable def cz:List PyData->Option (List Int)
 |[]=>some []
 |.int b::r=>(cz r).map (b::·)
 |_::_=>none
theorem qx{K:PySem.W.Frag}{U:Mu}{H:Hp}:∀{xs:List PyData} {us:List V} {bs:List Int},RpL K U H xs us->cz xs=some bs->us=bs.map V.int
 |_,_,_,.nil,e=>by cases e;rfl
 |.int b::r,_,bs,.cons h t,e=>by
  simp only[cz] at e
  cases q:cz r with
  |none=>rw[q] at e;cases e
  |some cs=>rw[q] at e;cases e;cases h;rw[qx t q];rfl
 |.none::r,_,bs,.cons h t,e=>by simp[cz] at e
 |.bool _::r,_,bs,.cons h t,e=>by simp[cz] at e
 |.str _::r,_,bs,.cons h t,e=>by simp[cz] at e
 |.list _::r,_,bs,.cons h t,e=>by simp[cz] at e
 |.tuple _::r,_,bs,.cons h t,e=>by simp[cz] at e
 |.dict _::r,_,bs,.cons h t,e=>by simp[cz] at e
noncomputable def Cn:List D->Mu->DK->Prop:=fun xs U Q=>match xs with
 |[.v (.list ys)]=>(match cz ys with|some bs=>Q (.v (.int bs.sum)) U|none=>False)
 |_=>False
theorem Pk{K:PySem.W.Frag}:mi K (fun xs H Q=>∃(p:Addr) (ns:List Int),xs=[.ref p]/\H p=some (.lst (ns.map V.int))/\Q (.int ns.sum) H) Cn:=by
 intro xs us H U Qd Q ok rs h k
 unfold Cn at h
 split at h
 ·rename_i ys
  cases q:cz ys with
  |none=>rw[q] at h;exact h.elim
  |some bs=>
   rw[q] at h
   cases rs with
   |cons r1 r2=>
    cases r2
    cases r1 with
    |list hs hn r=>exact⟨_,bs,rfl,by rw[hs,qx r q],k (.v _) _ U H .refl ok (Rp.int _) h⟩
 ·exact h.elim
theorem Lf(hc:X.calm=true)(hg:Gl X "sum")(hm:X.mg "sum"=none)(ha:DA X (e::es) t)
  (he:starEach (e::es) X.env=(false,eval e X.env)::starEach es X.env:=by rfl) (hpl:(backTo pos (starEach es X.env)).any (·.1)=false:=by rfl):DE X (.Call (.Name "sum" p) (e::es) [] pos) (dCB Cn t):=
 iY (Jk hc) Pk hg hm PyProof.Rows.Boot.«sum» ha ⋯ ⋯ he hpl
theorem F3{ys:List PyData}{U:Mu}{Q:DK}:Cn [.v (.list ys)] U Q=(match cz ys with|some bs=>Q (.v (.int bs.sum)) U|none=>False):=propext Iff.rfl
end
section
variable {X:Cx}{a b c:Expr}{ta tb tc:DTE}{pos:Pos}
theorem EN{op op':CmpOp}{rr rr':R2}{r r':D->D->Mu->DK->Prop}(ho:OpR X (compareOp op) rr)(lo:hV X.K rr r)(ho':OpR X (compareOp op') rr')(lo':hV X.K rr' r')(ha:DE X a ta)(hb:DE X b tb)(hc:DE X c tc)
  (hm:lastMarks [op,op'] [b,c]=false:=by with_unfolding_all rfl):DT X (.Compare a [op,op'] [b,c] pos) (dB (oG r r' ta tb tc)):=by
 obtain⟨t1,p1,l1⟩:=ha
 obtain⟨t2,p2,l2⟩:=hb
 obtain⟨t3,p3,l3⟩:=hc
 refine⟨_,Ka ho ho' p1 p2 p3 hm,vW (fun Y H ρ U Qd Q S h k=>?_)⟩
 refine l1 Y H ρ U _ _ S h fun x ux ac H1 e1 S1 rx h1=>?_
 refine l2 Y H1 ρ ac _ _ S1 h1 fun y uy ad H2 e2 S2 ry h2=>?_
 refine lo x y ux uy H2 ad _ _ S2.mu (rx.ext S1.mu e2) ry h2 fun z uz ap H3 e3 ok3 rz h3=>?_
 have S3:St0 X.K H3 ρ ap Y:=⟨ok3,S2.rho.ext S2.mu e3⟩
 split at h3
 ·rename_i kk
  cases rz
  refine⟨kk,rfl,?_⟩
  cases kk with
  |true=>
   refine FH ?_
   refine l3 Y H3 ρ ap _ _ S3 (by simpa using h3) fun w uw bn H4 e4 S4 rw' h4=>?_
   exact lo' y w uy uw H4 bn _ _ S4.mu ((ry.ext S2.mu e3).ext S3.mu e4) rw' h4 fun d u O H' e5 ok r q=>k d u O H' (e1.trans (e2.trans (e3.trans (e4.trans e5)))) ⟨ok,S4.rho.ext S4.mu e5⟩ r q
  |false=>exact Ey (k (.v (.bool false)) _ ap H3 (e1.trans (e2.trans e3)) S3 (Rp.bool false) (by simpa using h3))
 ·exact h3.elim
theorem cl3{k k':Str}{v v':Addr}{x:Str}{a:Addr}(n:(k==k')=false)(h:List.lookup x [(k,v),(k',v')]=some a):List.lookup x [(k',v'),(k,v)]=some a:=by
 simp only[lookup_cons,List.lookup_nil] at h ⊢
 cases e:x==k with
 |true=>
  have e':x=k:=by simpa using e
  subst e'
  rw[e] at h
  rw[n]
  exact h
 |false=>
  rw[e] at h
  cases e2:x==k' with
  |true=>rw[e2] at h;exact h
  |false=>rw[e2] at h;exact absurd h (by simp)
end
section
variable {X:Cx}{o e:Expr}{to te:DTE}{apos cpos pos:Pos}
noncomputable def Oq(to:DTE):DTE:=fun ρ U Q=>to ρ U fun x ac=>match x with
 |.m l=>(match ac l with
  |some xs=>∃d,xs[xs.length-1]? = some d/\Q (.v d) (bD ac l xs.dropLast)
  |none=>False)
 |_=>False
theorem RpL.dropLast{K:PySem.W.Frag}{U:Mu}{H:Hp}:∀{ds:List PyData} {us:List V},RpL K U H ds us->RpL K U H ds.dropLast us.dropLast
 |_,_,.nil=>.nil
 |_,_,.cons h .nil=>.nil
 |_,_,.cons h (.cons h2 t)=>.cons h (RpL.dropLast (.cons h2 t))
theorem RpL.eraseIdx{K:PySem.W.Frag}{U:Mu}{H:Hp}:∀{ds:List PyData} {us:List V} (i:Nat),RpL K U H ds us->RpL K U H (ds.eraseIdx i) (us.eraseIdx i)
 |_,_,_,.nil=>.nil
 |_,_,0,.cons _ t=>t
 |_,_,i+1,.cons h t=>.cons h (RpL.eraseIdx i t)
theorem P5(ho:DE X o to)(hbase:attributeBase o "pop" X.env (eval o X.env)=eval o X.env:=by rfl)(hline:(apos.endLine==cpos.line)=true:=by rfl) :
  DE X (.Call (.Attribute o "pop" apos) [] [] cpos) (Oq to):=by
 obtain⟨t1,p1,l1⟩:=ho
 refine⟨_,K1 PySem.F.plainAttrs_list PySem.F.slot_list_pop PySem.F.type_list_pop OG p1 hbase hline,fun Y H ρ U Qd Q S h k=>?_⟩
 refine l1 Y H ρ U _ _ S h fun x ux ac H1 e1 S1 rx h1=>?_
 cases x with
 |m l=>
  obtain⟨rfl,ds,hm⟩:=id rx
  obtain⟨us,hl,rl⟩:=S1.mu l ds hm
  refine⟨.inl ⟨rfl,us,SqL.of hl⟩,?_⟩
  dsimp only at h1
  rw[hm] at h1
  obtain⟨d,hd,q⟩:=h1
  obtain⟨u,hu,ru⟩:=rl.get hd
  have ex:Ext X.K ac H1 (bD ac l ds.dropLast) (upd H1 l (.lst us.dropLast)):=nu hm
  exact⟨l,us,u,rfl,rfl,hl,by rw[<- rl.length];exact hu,k (.v d) u _ _ (e1.trans ex) ⟨S1.mu.set hm rl.dropLast,S1.rho.ext S1.mu ex⟩ (ru.ext S1.mu ex) q⟩
 |v d=>exact h1.elim
 |s ns=>exact h1.elim
 |o _=>exact h1.elim
 |b _=>exact h1.elim
 |q _=>exact h1.elim
noncomputable def vU(to te:DTE):DTE:=fun ρ U Q=>to ρ U fun x ac=>match x with
 |.m l=>te ρ ac fun y ad=>(match y,ad l with
  |.v (.int i),some xs=>(0<=i/\i<1000)/\∃d,xs[i.toNat]? = some d/\Q (.v d) (bD ad l (xs.eraseIdx i.toNat))
  |_,_=>False)
 |_=>False
theorem Rt{i:Int}{n:Nat}(h0:0<=i)(h:i.toNat<n):seqIndex? i n=some i.toNat:=by
 unfold seqIndex?
 simp only[Option.ite_none_right_eq_some,Option.some.injEq]<;>first|(split<;>(try split)<;>simp_all<;>omega)|(constructor<;>omega)|omega
theorem Fu(ho:DE X o to)(ha:DE X e te)(hbase:attributeBase o "pop" X.env (eval o X.env)=eval o X.env:=by rfl)
  (hfew:((backTo cpos (starEach [e] X.env)).all (fun x=>!x.1)&&(backToKw cpos (keywordEach [] X.env)).all (fun x=>x.1.isSome)
   && decide ([e].length+([]:List Keyword).length+(if ([]:List Keyword).isEmpty then 0 else 1)<30))=true:=by rfl)
  (hline:(apos.endLine==cpos.line)=true:=by rfl) (hs:starEach [e] X.env=(false,eval e X.env)::starEach [] X.env:=by rfl) (hplain:(backTo cpos (starEach [] X.env)).any (·.1)=false:=by rfl) :
  DE X (.Call (.Attribute o "pop" apos) [e] [] cpos) (vU to te):=by
 obtain⟨t1,p1,l1⟩:=ho
 obtain⟨t2,p2,l2⟩:=ha
 refine⟨_,NY PySem.F.plainAttrs_list PySem.F.slot_list_pop PySem.F.type_list_pop LK p1 (vj p2 Ej hs) hbase hfew hline hs hplain,fun Y H ρ U Qd Q S h k=>?_⟩
 refine l1 Y H ρ U _ _ S h fun x ux ac H1 e1 S1 rx h1=>?_
 cases x with
 |m l=>
  obtain⟨rfl,ds,hm⟩:=id rx
  obtain⟨us,hl,rl⟩:=S1.mu l ds hm
  refine⟨.inl ⟨rfl,us,SqL.of hl⟩,?_⟩
  refine l2 Y H1 ρ ac _ _ S1 h1 fun y uy ad H2 e2 S2 ry h2=>?_
  obtain⟨_,ds2,hm2⟩:=rx.ext S1.mu e2
  obtain⟨us2,hl2,rl2⟩:=S2.mu l ds2 hm2
  rw[hm2] at h2
  split at h2
  ·rename_i i ds3 e3
   cases e3
   obtain⟨⟨i0,i1⟩,d,hd,q⟩:=h2
   cases ry
   obtain⟨u,hu,ru⟩:=rl2.get hd
   have hlt:i.toNat<us2.length:=by
    rcases Nat.lt_or_ge i.toNat us2.length with z|z
    ·exact z
    ·rw[List.getElem?_eq_none z] at hu;cases hu
   have ex:Ext X.K ad H2 (bD ad l (ds2.eraseIdx i.toNat)) (upd H2 l (.lst (us2.eraseIdx i.toNat))):=nu hm2
   exact⟨l,us2,i,i.toNat,u,rfl,rfl,hl2,∅,∅,Rt i0 hlt,hu,k (.v d) u _ _ (e1.trans (e2.trans ex)) ⟨S2.mu.set hm2 (rl2.eraseIdx _),S2.rho.ext S2.mu ex⟩ (ru.ext S2.mu ex) q⟩
  ·exact h2.elim
 |v d=>exact h1.elim
 |s ns=>exact h1.elim
 |o _=>exact h1.elim
 |b _=>exact h1.elim
 |q _=>exact h1.elim
noncomputable def J6(to:DTE):DTT:=fun ρ U Q=>to ρ U fun x ac=>match x with
 |.m l=>(match ac l with|some xs=>Q (!xs.isEmpty) ac|none=>False)
 |_=>False
theorem MZ(ho:DE X o to)(he:∀whole,isTrue o X.env whole=(do let v <- whole;standAt o.pos;holding [v] (truthy v)):=by intro _;rfl):DT X o (J6 to):=by
 obtain⟨t1,p1,l1⟩:=ho
 refine⟨_,KU p1 he,fun Y H ρ U Qd Q S h k=>?_⟩
 refine l1 Y H ρ U _ _ S h fun x ux ac H1 e1 S1 rx h1=>?_
 cases x with
 |m l=>
  obtain⟨rfl,ds,hm⟩:=id rx
  obtain⟨us,hl,rl⟩:=S1.mu l ds hm
  dsimp only at h1
  rw[hm] at h1
  refine⟨!us.isEmpty,.inl ⟨us,SqL.of hl,rfl⟩,?_⟩
  have:us.isEmpty=ds.isEmpty:=by cases rl<;>rfl
  rw[this]
  exact k _ ac H1 e1 S1 h1
 |v d=>exact h1.elim
 |s ns=>exact h1.elim
 |o _=>exact h1.elim
 |b _=>exact h1.elim
 |q _=>exact h1.elim
noncomputable def PD(i:Nat)(te:DTE):DTS:=fun Dd ρ U=>∃a:Int,ρ[i]? = some (some (.v (.int a)))/\te ρ U fun y ac=>match y with
 |.v (.int b)=>Dd.nx (ρ.set i (some (.v (.int (a+b))))) ac
 |_=>False
theorem PK{i:Nat}{x:Str}{pos':Pos}(hN:X.N.Nodup)(hi:X.N[i]? = some x)(hx:Loc X.env.scope x)(ha:DE X e te)(hf:X.fn x=true\/X.env.scope.names.lookup x=some .local:=by first|exact .inl rfl|exact .inr rfl|assumption) :
  DS X (.AugAssign (.Name x pos') .Add e pos) (PD i te):=by
 obtain⟨t1,p1,l1⟩:=ha
 refine⟨_,OL hN hi hx p1 Og hf,fun Y H ρ U Dd De S h k1 k2 k3 k4=>?_⟩
 obtain⟨a,ea,h⟩:=h
 obtain⟨u,hu,ru⟩:=S.rho.2 i _ ea
 cases ru
 refine⟨_,hu,l1 Y H ρ U _ _ S h fun y uy ac H1 e1 S1 ry h1=>?_⟩
 split at h1
 ·cases ry
  exact⟨_,_,rfl,rfl,k1 _ _ ac H1 e1 ⟨S1.mu,S1.rho.set (d:=.v (.int _)) (Rp.int _)⟩ h1⟩
 ·exact h1.elim
end
section
variable {X:Cx}{e:Expr}{es:List Expr}{t:DTA}{p pos:Pos}
theorem Jr(hc:X.calm=true):jo X (.builtin "min") (fun xs H Q=>∃(p:Addr) (ns:List Int),xs=[.ref p]/\H p=some (.lst (ns.map V.int))/\0<ns.length/\∀M∈ns,(∀a∈ns,M<=a)->Q (.int M) H):=by
 intro pins s Y H xs us Q I r h
 obtain⟨l,ns,rfl,hl,hne,q⟩:=h
 obtain⟨u,rfl,rx⟩:=vals1 r
 cases rx
 obtain⟨its,rv,pl,_⟩:=I.list (SqL.of hl)
 have hi:=x5 rv
 obtain⟨xs,e⟩:=hi.allInts.items
 have hns:ns=xs.toList.map (·.1):=by rw[<- hi.numsOf,<- nums_intItems,<- e]
 have hsz:0<xs.size:=by have h3:=hne;rw[hns,length_map,Array.length_toList] at h3;exact h3
 have hL:=pl.isList
 rw[e] at hL
 refine min_intList (I.ok.hd hc) hL hsz fun v h' tk hv hk=>?_
 obtain⟨t,rfl⟩:=intItems_at hv
 obtain⟨h1,h2⟩:=argBest_lt (numAt xs) (xs.size-1)
 refine⟨.int _,H,I.kept hk,⟨_,rfl⟩,q _ ?_ fun a ha=>?_⟩
 ·rw[hns,numAt_eq];exact getD_mem (by rw[length_map,Array.length_toList];omega)
 ·rw[hns] at ha
  obtain⟨j,hj,rfl⟩:=mem_getD ha
  rw[length_map,Array.length_toList] at hj
  rw[<- numAt_eq];exact h2 j ∅
theorem JG(hc:X.calm=true):jo X (.builtin "max") (fun xs H Q=>∃(p:Addr) (ns:List Int),xs=[.ref p]/\H p=some (.lst (ns.map V.int))/\0<ns.length/\∀M∈ns,(∀a∈ns,a<=M)->Q (.int M) H):=by
 intro pins s Y H xs us Q I r h
 obtain⟨l,ns,rfl,hl,hne,q⟩:=h
 obtain⟨u,rfl,rx⟩:=vals1 r
 cases rx
 obtain⟨its,rv,pl,_⟩:=I.list (SqL.of hl)
 have hi:=x5 rv
 obtain⟨xs,e⟩:=hi.allInts.items
 have hns:ns=xs.toList.map (·.1):=by rw[<- hi.numsOf,<- nums_intItems,<- e]
 have hsz:0<xs.size:=by have h3:=hne;rw[hns,length_map,Array.length_toList] at h3;exact h3
 have hL:=pl.isList
 rw[e] at hL
 refine max_intList (I.ok.hd hc) hL hsz fun v h' tk hv hk=>?_
 obtain⟨t,rfl⟩:=intItems_at hv
 obtain⟨h1,h2⟩:=argBest_gt (numAt xs) (xs.size-1)
 refine⟨.int _,H,I.kept hk,⟨_,rfl⟩,q _ ?_ fun a ha=>?_⟩
 ·rw[hns,numAt_eq];exact getD_mem (by rw[length_map,Array.length_toList];omega)
 ·rw[hns] at ha
  obtain⟨j,hj,rfl⟩:=mem_getD ha
  rw[length_map,Array.length_toList] at hj
  rw[<- numAt_eq];exact h2 j ∅
noncomputable def FW:List D->Mu->DK->Prop:=fun xs U Q=>match xs with
 |[.v (.list ys)]=>(match cz ys with|some ns=>0<ns.length/\∀M∈ns,(∀a∈ns,M<=a)->Q (.v (.int M)) U|none=>False)
 |_=>False
noncomputable def ED:List D->Mu->DK->Prop:=fun xs U Q=>match xs with
 |[.v (.list ys)]=>(match cz ys with|some ns=>0<ns.length/\∀M∈ns,(∀a∈ns,a<=M)->Q (.v (.int M)) U|none=>False)
 |_=>False
theorem MT{K:PySem.W.Frag}:mi K (fun xs H Q=>∃(p:Addr) (ns:List Int),xs=[.ref p]/\H p=some (.lst (ns.map V.int))/\0<ns.length/\∀M∈ns,(∀a∈ns,M<=a)->Q (.int M) H) FW:=by
 intro xs us H U Qd Q ok rs h k
 unfold FW at h
 split at h
 ·rename_i ys
  cases q:cz ys with
  |none=>rw[q] at h;exact h.elim
  |some ns=>
   rw[q] at h
   cases rs with
   |cons r1 r2=>
    cases r2
    cases r1 with
    |list hs hn r=>exact⟨_,ns,rfl,by rw[hs,qx r q],h.1,fun M hM hle=>k (.v _) _ U H .refl ok (Rp.int _) (h.2 M hM hle)⟩
 ·exact h.elim
theorem Mi{K:PySem.W.Frag}:mi K (fun xs H Q=>∃(p:Addr) (ns:List Int),xs=[.ref p]/\H p=some (.lst (ns.map V.int))/\0<ns.length/\∀M∈ns,(∀a∈ns,a<=M)->Q (.int M) H) ED:=by
 intro xs us H U Qd Q ok rs h k
 unfold ED at h
 split at h
 ·rename_i ys
  cases q:cz ys with
  |none=>rw[q] at h;exact h.elim
  |some ns=>
   rw[q] at h
   cases rs with
   |cons r1 r2=>
    cases r2
    cases r1 with
    |list hs hn r=>exact⟨_,ns,rfl,by rw[hs,qx r q],h.1,fun M hM hle=>k (.v _) _ U H .refl ok (Rp.int _) (h.2 M hM hle)⟩
 ·exact h.elim
theorem NB(hc:X.calm=true)(hg:Gl X "min")(hm:X.mg "min"=none)(ha:DA X (e::es) t)
  (he:starEach (e::es) X.env=(false,eval e X.env)::starEach es X.env:=by rfl) (hpl:(backTo pos (starEach es X.env)).any (·.1)=false:=by rfl):DE X (.Call (.Name "min" p) (e::es) [] pos) (dCB FW t):=
 iY (Jr hc) MT hg hm PyProof.Rows.Boot.«min» ha ⋯ ⋯ he hpl
theorem NI(hc:X.calm=true)(hg:Gl X "max")(hm:X.mg "max"=none)(ha:DA X (e::es) t)
  (he:starEach (e::es) X.env=(false,eval e X.env)::starEach es X.env:=by rfl) (hpl:(backTo pos (starEach es X.env)).any (·.1)=false:=by rfl):DE X (.Call (.Name "max" p) (e::es) [] pos) (dCB ED t):=
 iY (JG hc) Mi hg hm PyProof.Rows.Boot.«max» ha ⋯ ⋯ he hpl
end
noncomputable def Dn(cap:List (Option Nat))(src:DTI)(g:DTG)(c:DTT)(elt:DTE):DTE:=fun ρ U Q=>src ρ U fun xs ac=>xs.length<=1000/\∀p,ac p=none->∃Pv:Nat->List PyData->Mu->Prop,Pv 0 [] (bD ac p []) /\
 (∀i x acc O,xs[i]? = some x->O p=some acc->Pv i acc O->g (.v x) (eP cap ρ) O fun ca ad=>Le (eP cap ρ) ca/\c ca ad fun b ap=>
  if b=true then elt ca ap fun d bn=>bn p=some acc/\(match d with|.v y=>Pv (i+1) (acc++[y]) (bD bn p (acc++[y]))|_=>False) else ap p=some acc/\Pv (i+1) acc ap) /\
 (∀acc O,Pv xs.length acc O->O p=some acc->Q (.m p) O)
theorem Mb{cap:List (Option Nat)}{src:DTI}{g:DTG}{t:DTT}{ta:DTE}{ρ:Rho}{U:Mu}{Q:DK}:Dn cap src g t ta ρ U Q=src ρ U fun xs ac=>xs.length<=1000/\∀p,ac p=none->∃Pv:Nat->List PyData->Mu->Prop,Pv 0 [] (bD ac p []) /\
 (∀i x acc O,xs[i]? = some x->O p=some acc->Pv i acc O->g (.v x) (eP cap ρ) O fun ca ad=>Le (eP cap ρ) ca/\t ca ad fun b ap=>
  if b=true then ta ca ap fun d bn=>bn p=some acc/\(match d with|.v y=>Pv (i+1) (acc++[y]) (bD bn p (acc++[y]))|_=>False) else ap p=some acc/\Pv (i+1) acc ap) /\
 (∀acc O,Pv xs.length acc O->O p=some acc->Q (.m p) O):=propext Iff.rfl
noncomputable def Lv(cells:List (Str×Addr)):List (Str×Addr)->Prop
 |[]=>True
 |(k,v)::r=>cells.lookup k=some v/\Lv cells r
theorem Jx{cells:List (Str×Addr)}:Lv cells []:=trivial
theorem si{cells r:List (Str×Addr)}{k:Str}{v:Addr}(h:cells.lookup k=some v)(t:Lv cells r):Lv cells ((k,v)::r):=⟨h,t⟩
theorem As{cells:List (Str×Addr)}:∀{cl:List (Str×Addr)},Lv cells cl->∀x a,cl.lookup x=some a->cells.lookup x=some a
 |[],_,_,_,h=>by simp at h
 |(k,v)::r,c,x,a,h=>by
  rw[lookup_cons] at h
  cases e:x==k with
  |true=>
   have e':x=k:=by simpa using e
   rw[e] at h
   subst e'
   rw[c.1];exact h
  |false=>
   rw[e] at h
   exact As c.2 x a h
noncomputable abbrev DTX:=Rho->Mu->(Mu->Prop)->Prop
noncomputable abbrev XSp:=List D->Mu->(Mu->Prop)->Prop
end L2.DL
namespace L2
open PySem PySem.Spec PyProof.Rows DL
noncomputable def QU(tabs:List Addr)(H:Hp):Prop:=∀b,H b=none\/(∃o xs,H b=some (.frz o (.lst xs)))\/(b∈tabs/\H b=some (.tbl #[]))
end L2
namespace L2.DL
open PySem PySem.Spec PyProof.Rows
theorem ME{K:PySem.W.Frag}{l:List (Addr×Str)}(h:(K.filterMap fun p=>dz p.2)=l){c:Addr}{o:Obj}{P:Addr}{q:Str}(e:K.lookup c=some o)(e2:dz o=some (P,q)):(P,q)∈l:=by
 rw[<- h]
 have mem:∀(L:List (Addr×Obj)),List.lookup c L=some o->(c,o)∈L:=fun L=>by
  induction L with
  |nil=>intro z;cases z
  |cons a r ih=>
   intro z
   rw[lookup_cons] at z
   by_cases y:c=a.1
   ·rw[y] at z ⊢;simp at z;rw[<- z];exact mem_cons_self
   ·rw[show (c==a.1)=false from by simpa using y] at z
    exact mem_cons_of_mem _ (ih z)
 exact List.mem_filterMap.mpr ⟨(c,o),mem K e,e2⟩
theorem BP{K:PySem.W.Frag}{h:Heap}{c P:Addr}{o:Obj}{q:Str}(X:K.In h)(l:K.lookup c=some o)(e:dz o=some (P,q)):isCodeTable h P:=by
 have ho:=X _ _ l
 unfold dz at e
 split at e
 ·rename_i cn vs hcls hd
  split at e
  ·rename_i hcn
   subst hcn
   split at e
   ·rename_i e11 e18
    split at e
    ·cases e
     exact⟨c,o,vs,ho,hcls,hd,by assumption⟩
    ·cases e
   ·cases e
  ·cases e
 ·cases e
theorem Hw{K:PySem.W.Frag}{c P:Addr}{q:Str}(h:(K.lookup c).bind dz=some (P,q)):∃o,K.lookup c=some o/\dz o=some (P,q):=Option.bind_eq_some_iff.mp h
theorem CP{K T:PySem.W.Frag}{h:Heap}(X:PySem.W.Frag.In (K++T) h):K.In h:=fun b o e=>X b o (by
 show List.lookup b (K++T)=some o
 rw[List.lookup_append,show List.lookup b K=some o from e];rfl)
end L2.DL
namespace L2
open PySem PySem.W PyProof.Rows
structure Big(X:Cx):Prop where
 ns:X.base.NoSeer
 tr:X.prog.given.tree=none
 st:X.stack=X.env::X.outer
 g:X.env.scope.isGenerator=false
 c:X.env.scope.isCoroutine=false
 dp:X.A.depth+Builtin.pylongFrames<recursionLimit
section
variable {X:Cx}{pins:List (Addr×Obj)}{Y:St}{H:Hp}{s:Shared}
theorem Big.room(b:Big X)(I:Inv X pins Y H s):PySem.PylongRoom (model X.prog X.w) X.A s:=
 PySem.PylongRoom.of I.nolimit b.dp (PySem.SeerAt.of (b.ns.keeps I.bk) b.tr (by rw[I.ok.frames,b.st]) b.g b.c I.ok.blt I.ok.glob)
theorem MR(b:Big X):OpR X (binaryOp .FloorDiv) (rI (fun _ j=>j≠0) fun i j=>.int (i.fdiv j)):=by
 intro pins s Y H x y v u Q I rx ry h
 obtain⟨i,j,rfl,rfl,hc,q⟩:=h
 obtain⟨t,rfl⟩:=rx
 obtain⟨t',rfl⟩:=ry
 exact floordiv_int hc ⟨.int (i.fdiv j),H,I.tok _,⟨_,rfl⟩,q⟩ (.inr (b.room I))
theorem gS{P:Program}{w:World}{K:PySem.W.Frag}{mg:Str->Option Value}{base:Heap}{N:List Str}{qual:Str}{scope:Scope}{f:Addr}{cd:Value}{A:Around}{outer:List Env}{s:Shared}{H:Hp}{E:XK}{k:Nat}{CX:CXT}
  (hs:base.NoSeer) (ht:P.given.tree=none) (hr:lq k (A.deeper (envOfC qual scope s.heap.objs.size f cd))) (hk:32<=k:=by decide) (hg:scope.isGenerator=false:=by rfl) (hc:scope.isCoroutine=false:=by rfl) :
  Big (FG CX P w K mg base N qual scope f cd A outer s H E).nox:=
 ⟨hs,ht,rfl,hg,hc,by have:=hr.dp;show (A.deeper (envOfC qual scope s.heap.objs.size f cd)).depth+100<1000;have e:recursionLimit=1000:=rfl;omega⟩
end
end L2
namespace L2.DL
open PySem PySem.Spec PyProof.Rows
section
variable {X:Cx}{a b:Expr}{ta tb:DTE}{pos:Pos}
noncomputable abbrev jX(ta tb:DTE):DTE:=dOp (rII (fun _ j=>j≠0) fun i j=>.int (i.fdiv j)) ta tb
theorem eS(g:Big X)(ha:DE X a ta)(hb:DE X b tb):DE X (.BinOp a .FloorDiv b pos) (jX ta tb):=wZ (MR g) (K9 fun _ _ _ _=>.int _) ha hb
noncomputable def RO(i j:Int):Prop:=0<=j/\(Builtin.Int.intBits i:Int)+j<=2 ^ 27
theorem LN:OpR X (binaryOp .LShift) (rI RO fun i j=>.int (i*2 ^ j.toNat)):=opI fun _ _ _ _ _ _ _ hc q=>lshift_int hc.1 hc.2 q
noncomputable abbrev NW(ta tb:DTE):DTE:=dOp (rII RO fun i j=>.int (i*2 ^ j.toNat)) ta tb
theorem MX(ha:DE X a ta)(hb:DE X b tb):DE X (.BinOp a .LShift b pos) (NW ta tb):=wZ LN (K9 fun _ _ _ _=>.int _) ha hb
end
end L2.DL
namespace L2
open PySem PySem.Spec PyProof.Rows DL
theorem Jv{P:Program}{w:World}{K:PySem.W.Frag}{mg mb:Str->Option Value}{CX:CXT}{k:Nat}{fa a:Addr}{fd:FuncData}{x:Str}{sp:Sp}{bd:Shared}{vs:List Value}{ns:List Int}(tabs:List Addr)
  (hT:∀p∈tabs,bd.heap.get? p=some (PySem.W.tabObj #[])/\K.lookup p=none) (hA2:∀c o p q,K.lookup c=some o->dz o=some (p,q)->p∈tabs) (hC:∀p∈tabs,isCodeTable bd.heap p)
  (KX:K.In bd.heap) (hns:bd.heap.Ns mainGlobals mg) (hb:bd.heap.Ns builtinsNs mb) (hbb:∀x:Str,x ≠ "__name__"->mb x=bootBuiltins x) (hlim:bd.heap.NoLimit) (hse:bd.heap.NoSeer) (hg:bd.gens = #[])
  (ha:bd.heap.get? a=some {cls:=.type "list",data:=.seq vs.toArray}) (hi:IntsAre vs ns) (hl:ns.length<=sizeLine) (hr:lq k callerA)
  (F:∀base:Heap,K.In base->base.Ns mainGlobals mg->base.NoSeer->mw P w K mg base CX k fa fd [x] sp) (hbind:∀(s:Shared) (u:Value),BindsTo s fd ⟨[u],[]⟩ [(x,u)])
  (hsp:∀H:Hp,Gb K H->SqL K H a (ns.map V.int)->sp [.ref a] H (fun v _=>v = .bl true) fun _ _ _=>False)
  (hCX:∀H e s',CX [] H bd (fun _ _ _=>False) e s'->False) :
  codeAny (model P w) callerA (.call (.ref fa) ⟨[.ref a],[]⟩) (fun r s'=>r = .ok (.ret (.bool true))/\OldK bd.heap s'.heap/\s'.os=bd.os/\AllBare s'.gens) bd:=by
 have rv:=BX hi
 have lenV:=hi.length
 have ant:a ∉ tabs:=fun z=>by have:=(hT a z).1;rw[ha] at this;cases this
 have core:∀H:Hp,QU tabs H->SqL K H a (ns.map V.int)->HOk P w H bd.heap->(∀b,H b≠none->b=a\/b∈tabs)->(H a≠none->K.lookup a=none)->(∀p∈tabs,H p=some (.tbl #[])) ->
   codeAny (model P w) callerA (.call (.ref fa) ⟨[.ref a],[]⟩) (fun r s'=>r = .ok (.ret (.bool true))/\OldK bd.heap s'.heap/\s'.os=bd.os/\AllBare s'.gens) bd:=by
  intro H hO hS hok hA hK hP
  have base_of:∀{b:Addr} {o:Obj},bd.heap.get? b=some o->H b=none->(AV bd.heap H).get? b=some o:=fun e n=>KW e n
  have noA:∀{b:Addr} {o:Obj} {es:Array DictEntry} {ep:Nat},bd.heap.get? b=some o->o.data = .dict es ep->H b=none:=fun {b o es ep} e d=>by
   cases q:H b with
   |none=>rfl
   |some u=>
    rcases hA b (by rw[q];simp) with e'|e'
    ·subst e'
     rw[ha] at e;cases e
     have d':Data.seq vs.toArray _=Data.dict es ep:=d
     cases d'
    ·rw[(hT b e').1] at e;cases e
     have d':Data.fields #[]=Data.dict es ep:=d
     cases d'
  have nsK:∀{b:Addr} {m:Str->Option Value},bd.heap.Ns b m->(AV bd.heap H).Ns b m:=fun {b m} ⟨o,es,ep,e,d,r⟩=>⟨o,es,ep,base_of e (noA e d),d,r⟩
  have hKb:K.In (AV bd.heap H):=fun b o e=>base_of (KX b o e) (by
   cases q:H b with
   |none=>rfl
   |some u=>
    rcases hA b (by rw[q];simp) with e'|e'
    ·subst e'
     rw[hK (by rw[q];simp)] at e;cases e
    ·have e2:=e;rw[show K.lookup b=none from (hT b e').2] at e2;cases e2)
  have hM:Mod K mg (AV bd.heap H):=⟨hKb,nsK hns,⟨mb,nsK hb,hbb⟩,let ⟨mc,h1,h2⟩:=hlim;⟨mc,nsK h1,h2⟩⟩
  have sK:(AV bd.heap H).NoSeer:=by
   obtain⟨⟨mc,c1,c2⟩,⟨mm,m1,m2⟩,⟨mb',b1,b2⟩,mg',bm,ob,g1,g2,g3,g4,g5⟩:=hse
   refine⟨⟨mc,nsK c1,c2⟩,⟨mm,nsK m1,m2⟩,⟨mb',nsK b1,b2⟩,mg',bm,ob,nsK g1,g2,base_of g3 ?_,g4,g5⟩
   cases q:H bm with
   |none=>rfl
   |some u=>
    rcases hA bm (by rw[q];simp) with e'|e'
    ·subst e';rw[ha] at g3;cases g3;simp at g4
    ·rw[(hT bm e').1] at g3;cases g3;simp at g4
  have e0:Mn P w K mg (AV bd.heap H) callerA [] bd H:=⟨rfl,hM,fun b o e=>Mx e,Nat.le_of_eq (Jg _ _),trivial,fun b hb=>absurd (show b∈([]:List Addr) from hb) (by simp),hok,.of_eq hg⟩
  have tb:Gb K H:=fun c o p q h1 h2=>⟨#[],hP p (hA2 c o p q h1 h2),trivial,fun pos cv e=>by simp[codeAmong] at e⟩
  refine codeAny_mono ((F _ hKb (nsK hns) sK).run callerA [] bd H ⟨[.ref a],[]⟩ [.ref a] [.ref a] _ _ hr e0 (hbind bd (.ref a)) (.cons rfl .nil) (hsp H tb hS)) fun r s' h=>?_
  cases r with
  |error e=>exact (hCX H e s' h).elim
  |ok fl=>
   cases fl with
   |next=>exact False.elim h
   |brk=>exact False.elim h
   |cont=>exact False.elim h
   |ret u=>
    obtain⟨v,H',os,bare,un,hok',r',q⟩:=h
    have q':v = .bl true:=q
    subst q'
    obtain rfl:u=Value.bool true:=r'
    refine⟨rfl,⟨fun b o e=>?_,fun b o e=>un.there b o e (by simp)⟩,os,bare⟩
    cases q:H b with
    |none=>exact .inl (un.keep b o e q (by intro z;exact absurd (show b∈([]:List Addr) from z) (by simp)) (by simp))
    |some u=>
     rcases hO b with z|⟨ob,xs,z⟩|⟨zt,z⟩
     ·rw[q] at z;cases z
     ·have z2:=un.vL b ob _ z
      obtain⟨e1,_⟩:=hok b _ z
      obtain⟨e2,_⟩:=hok' b _ z2
      rw[e] at e1;cases e1
      exact .inl e2
     ·obtain⟨more,z2⟩:=un.wB b _ z
      have e2:s'.heap.get? b=some {cls:=.none,data:=.fields (#[]++more)}:=hok' b _ z2
      have e1:=(hT b zt).1
      rw[e] at e1;cases e1
      exact .inr (.inl ⟨hC b zt,rfl,#[],more,rfl,e2⟩)
 have okT:∀p∈tabs,bd.heap.get? p=some {cls:=.none,data:=.fields #[]}:=fun p hp=>(hT p hp).1
 cases hk:K.lookup a with
 |some o=>
  have e:=KX a o hk
  rw[ha] at e
  cases e
  refine core (fun b=>if b∈tabs then some (.tbl #[]) else none) (fun b=>?_) (.inr ⟨_,vs.toArray,_,hk,rfl,rfl,rfl,by rw[size_toArray,lenV];exact hl,by simpa using rv⟩) (fun b u z=>?_) (fun b z=>?_) (fun z=>absurd (if_neg ant) z) (fun p hp=>if_pos hp)
  ·by_cases hb:b∈tabs
   ·exact .inr (.inr ⟨hb,if_pos hb⟩)
   ·exact .inl (if_neg hb)
  ·by_cases hb:b∈tabs
   ·have z':=(if_pos hb).symm.trans z;cases z';exact okT b hb
   ·have z':=(if_neg hb).symm.trans z;cases z'
  ·by_cases hb:b∈tabs
   ·exact .inr hb
   ·exact absurd (if_neg hb) z
 |none=>
  refine core (fun b=>if b=a then some (.frz {cls:=.type "list",data:=.seq vs.toArray} (.lst (ns.map V.int))) else if b∈tabs then some (.tbl #[]) else none) (fun b=>?_) (.inl (.inr ⟨{cls:=.type "list",data:=.seq vs.toArray},if_pos rfl⟩)) (fun b u z=>?_) (fun b z=>?_) (fun _=>hk) (fun p hp=>by
   have:p≠a:=fun y=>ant (by rw[<- y];exact hp)
   exact (if_neg this).trans (if_pos hp))
  ·by_cases hb:b=a
   ·exact .inr (.inl ⟨_,_,if_pos hb⟩)
   ·by_cases hb2:b∈tabs
    ·exact .inr (.inr ⟨hb2,(if_neg hb).trans (if_pos hb2)⟩)
    ·exact .inl ((if_neg hb).trans (if_neg hb2))
  ·by_cases hb:b=a
   ·have z':=(if_pos hb).symm.trans z
    cases z'
    subst hb
    exact⟨ha,by rw[length_map];exact hl,vs,_,rv,ha⟩
   ·by_cases hb2:b∈tabs
    ·have z':=((if_neg hb).trans (if_pos hb2)).symm.trans z;cases z';exact okT b hb2
    ·have z':=((if_neg hb).trans (if_neg hb2)).symm.trans z;cases z'
  ·by_cases hb:b=a
   ·exact .inl hb
   ·by_cases hb2:b∈tabs
    ·exact .inr hb2
    ·exact absurd ((if_neg hb).trans (if_neg hb2)) z
theorem Lj{l:PySem.W.OpenLaw}{n k:Nat}{q:Program}{loose:List Str}{XP:(Str->Option Value)->Heap->Prop}{YP:World->Heap->Prop}{d:DefRec}{K:Params->PySem.W.Frag}{CX:World->CXT}{sp:World->Sp}{x:Str}(tabs:List Addr)
  (him:importsNone q=true) (hn:l.most=some n) (hn2:n<=sizeLine) (hdf:d.params.defaults=[]) (hr:lq k callerA)
  (hY:∀(w:World) (h:Heap),YP w h->(K w.params).In h/\(∀p∈tabs,h.get? p=some (PySem.W.tabObj #[])/\(K w.params).lookup p=none)/\(∀p∈tabs,isCodeTable h p))
  (hA2:∀(w:World) c o p q,(K w.params).lookup c=some o->dz o=some (p,q)->p∈tabs)
  (F:∀(w:World) (mg:Str->Option Value) (fa:Addr) (h:Heap),(K w.params).In h->h.Ns mainGlobals mg->mg d.name=some (.ref fa) ->
   ∃fd:FuncData,(∀(s:Shared) (u:Value),BindsTo s fd ⟨[u],[]⟩ [(x,u)]) /\
    ∀base:Heap,(K w.params).In base->base.Ns mainGlobals mg->base.NoSeer->mw l.prog w (K w.params) mg base (CX w) k fa fd [x] (sp w))
  (hsp:∀(w:World) (H:Hp) (a:Addr) (ns:List Int),ns.length<=n->Gb (K w.params) H->SqL (K w.params) H a (ns.map V.int)->sp w [.ref a] H (fun v _=>v = .bl true) fun _ _ _=>False)
  (hCX:∀(w:World) (H:Hp) (s:Shared) (e:Value) (s':Shared),CX w [] H s (fun _ _ _=>False) e s'->False) :
  PySem.W.WalkO q loose XP YP l.row.toRowW d [] (fun f vs=>PySem.call f vs):=by
 refine Att.EZ hn hdf fun w ci bd mg mb fa o pm cd doc a vs ns G ZY ho hd hcd hmg hobj hints hlen hg=>?_
 obtain⟨KX,hT,hC⟩:=hY w _ ZY
 obtain⟨fd,hb,hF⟩:=F w mg fa _ KX G.T.g hmg
 exact Jv tabs hT (hA2 w) hC KX G.T.g G.T.b G.T.builtins G.T.nolimit (G.T.seer him) hg hobj hints (le_trans hlen hn2) hr hF hb (fun H hO hS=>hsp w H a ns hlen hO hS) fun H e s'=>hCX w H bd e s'
end L2
namespace L2.DL
open PySem PySem.Spec PyProof.Rows
noncomputable def QT(ds:List D):PQ:=fun K u U H=>∃a us,u = .ref a/\H a=some (.tup us)/\kq K U H ds us
mutual
theorem Rp.sub{K:PySem.W.Frag}{U ac:Mu}{H:Hp}(h:∀a,ac a=none->U a=none):∀{d:PyData} {u:V},Rp K ac H d u->Rp K U H d u
 |_,_,.none=>.none
 |_,_,.bool b=>.bool b
 |_,_,.int i=>.int i
 |_,_,.str x=>.str x
 |_,_,.list a b c=>.list a (h _ b) (RpL.sub h c)
 |_,_,.tuple a c=>.tuple a (RpL.sub h c)
theorem RpL.sub{K:PySem.W.Frag}{U ac:Mu}{H:Hp}(h:∀a,ac a=none->U a=none):∀{ds:List PyData} {us:List V},RpL K ac H ds us->RpL K U H ds us
 |_,_,.nil=>.nil
 |_,_,.cons a b=>.cons (Rp.sub h a) (RpL.sub h b)
end
structure oT(U O:Mu):Prop where
 l:∀b ds,U b=some ds->O b=some ds
 b:∀b c,U.b b=some c->O.b b=some c
noncomputable instance {U O:Mu}:CoeFun (oT U O) fun _=>∀b ds,U b=some ds->O b=some ds:=⟨oT.l⟩
theorem oT.refl{U:Mu}:oT U U:=⟨fun _ _ e=>e,fun _ _ e=>e⟩
theorem oT.none{U O:Mu}(h:oT U O){b:Addr}(e:O b=none):U b=none:=by
 cases z:U b with
 |none=>rfl
 |some ds=>rw[h b ds z] at e;cases e
theorem EF{K:PySem.W.Frag}{U O:Mu}{H:Hp}(ok:cQ K O H)(s:oT U O):cQ K U H:=⟨fun a ds z=>by
 obtain⟨xs,h1,h2⟩:=ok.lst a ds (s a ds z)
 exact⟨xs,h1,h2.sub fun b hb=>s.none hb⟩,ok.tab,fun a c z=>by
 obtain⟨y,o,h1,h2⟩:=ok.box a c (s.b a c z)
 exact⟨y,o,h1,h2.shrink fun b hb=>s.none hb⟩⟩
theorem oT.set{U O:Mu}{p:Addr}{ds:List PyData}(h:oT U O)(n:U p=Option.none):oT U (bD O p ds):=⟨fun b es e=>by
 have:b≠p:=fun z=>by rw[z,n] at e;cases e
 rw[aV this];exact h b es e,h.b⟩
noncomputable def frz(U:Mu)(Qd:DK):DK:=fun d O=>match d with
 |.v x=>oT U O/\Qd (.v x) U
 |.m a=>(U a=none/\oT U O)/\∃es,O a=some es/\Qd (.v (.list es)) U
 |_=>False
theorem OU{P:Program}{w:World}{K:PySem.W.Frag}{mg:Str->Option Value}{base:Heap}{CX:CXT}{k:Nat}{f:Addr}{fd:FuncData}{ps:List Str}{sp sp':DSp}(F:mw P w K mg base CX k f fd ps (spD K sp))
  (h:∀ds U Qd,sp' ds U Qd->sp ds U (frz U Qd)):mw P w K mg base CX k f fd ps (spD K sp'):=by
 refine F.imp fun vs H Q E h'=>?_
 obtain⟨ds,U,Qd,ok,r,s,kk⟩:=h'
 refine⟨ds,U,_,ok,r,h _ _ _ s,fun d u O H' e ok' rd q=>?_⟩
 cases d with
 |v x=>
  obtain⟨sb,q⟩:=q
  exact kk (.v x) u U H' ⟨e.keep,e.tb,fun b ds z=>⟨ds,z⟩,fun _ z _=>z,e.st,fun _ c z=>⟨c,z⟩⟩ (EF ok' sb) (show Rp K U H' x u from (show Rp K O H' x u from rd).sub fun b hb=>sb.none hb) q
 |m a=>
  obtain⟨⟨n,sb⟩,es,he,q⟩:=q
  obtain⟨rfl,_⟩:=rd
  obtain⟨xs,h1,h2⟩:=ok'.lst a es he
  exact kk (.v (.list es)) (.ref a) U H' ⟨e.keep,e.tb,fun b ds z=>⟨ds,z⟩,fun _ z _=>z,e.st,fun _ c z=>⟨c,z⟩⟩ (EF ok' sb) (show Rp K U H' (.list es) (.ref a) from .list h1 n (h2.sub fun b hb=>sb.none hb)) q
 |s ns=>exact q.elim
 |o a=>exact q.elim
 |b a=>exact q.elim
 |q p=>exact q.elim
end L2.DL
namespace L2
open PySem PySem.W PyProof.Rows
end L2
namespace L2.DL
open PySem PySem.Spec PyProof.Rows
end L2.DL
namespace L2
open PySem PySem.W PyProof.Rows
end L2
namespace L2.DL
open PySem PySem.Spec PyProof.Rows
end L2.DL
namespace L2
open PySem PySem.Spec PyProof.Rows
end L2
namespace L2.DL
open PySem PySem.W PyProof.Rows
open PySem PySem.Spec PyProof.Rows
end L2.DL
namespace L2
open PySem PySem.Spec PyProof.Rows
end L2
namespace L2.DL
open PySem PySem.Spec PyProof.Rows
end L2.DL
namespace L2
open PySem PySem.Spec PyProof.Rows
end L2
namespace L2.DL
open PySem PySem.Spec PyProof.Rows
end L2.DL
namespace L2
open PySem PySem.Spec PyProof.Rows
section
variable {X:Cx}
noncomputable def QB(x y:Str):Int:=match Builtin.Str.lastOccurrence x y 0 x.length with|some i=>(i:Nat)|none=>-1
end
end L2
namespace L2
open PySem PySem.Spec PyProof.Rows
end L2
namespace L2
open PySem PySem.Spec PyProof.Rows
end L2
namespace L2.DL
open PySem PySem.Spec PyProof.Rows
section
variable {X:Cx}{a b e e1 e2 o:Expr}{es:List Expr}{ta tb te to:DTE}{t:DTA}{pos p p2 apos cpos:Pos}{lo hi:Option Expr}
noncomputable def M3(x y:Str):Bool:=decide (0+y.length<=x.length)&&Builtin.Str.subAt x y 0
noncomputable def R9(x y:Str):Bool:=decide (0+y.length<=x.length)&&Builtin.Str.subAt x y (x.length-y.length)
end
section
variable {X:Cx}{a b e e1 e2 o tg:Expr}{es:List Expr}{ta tb te to:DTE}{t:DTA}{pos p p2 apos cpos:Pos}{lo hi:Option Expr}
noncomputable abbrev DTJ:=Str->Rho->Mu->(Str->Mu->Prop)->Prop
end
section
variable {X:Cx}{e o:Expr}{te to:DTE}{apos cpos:Pos}
noncomputable def Nh(x y:Str):PyData:=.bool (M3 x y)
noncomputable def Q0(x y:Str):PyData:=.bool (R9 x y)
noncomputable def Pj(x y:Str):PyData:=.int (QB x y)
end
section
variable {prog:Program}{w:World}{A:Around}{E:Value->Shared->Prop}{s:Shared}
theorem Dw{α β:Type}{f:α->β->Sem (ForInStep β)}(inv:Nat->β->Shared->Prop){Q:β->Shared->Prop}:∀(l:List α) (j:Nat) (b:β) (s:Shared),(∀i x,l[i]? = some x->∀b s,inv (j+i) b s->wpAny (model prog w) A (f x b) (fun r s'=>∃b',r = .yield b'/\inv (j+i+1) b' s') E s)->inv j b s->(∀b s,inv (j+l.length) b s->Q b s)->wpAny (model prog w) A (forIn l b f) Q E s
 |[],j,b,s,_,h,k=>by rw[List.forIn_nil];exact wpAny_pure (k b s h)
 |x::l,j,b,s,st,h,k=>by
  rw[List.forIn_cons]
  refine wpAny_bind (wpAny_mono (st 0 x rfl b s h) (fun r s' hq0=>?_) fun _ _ e=>e)
  obtain⟨b',e,h'⟩:=hq0
  subst e
  refine Dw inv l (j+1) b' s' (fun i y hy b s g=>?_) h' fun b s g=>k b s ?_
  ·have:=st (i+1) y hy b s (by rw[show j+(i+1)=j+1+i by omega];exact g)
   rwa [show j+(i+1)+1=j+1+i+1 by omega] at this
  ·rw[length_cons,show j+(l.length+1)=j+1+l.length by omega];exact g
structure ZS where
 b:Bool
 l:Addr
 xs:List Value
noncomputable def ZS.At(q:ZS)(h:Heap):Prop:=if q.b=true then h.IsList q.l q.xs.toArray else IsTup h q.l q.xs.toArray
noncomputable def ZS.It(q:ZS)(h:Heap)(a:Addr)(i:Nat):Prop:=if q.b=true then h.IsListIter a q.l i else IsTupIter h a q.l i
theorem ZS.It.lj{q:ZS}{h h':Heap}{a:Addr}{i:Nat}(x:q.It h a i)(e:∀o,h.get? a=some o->h'.get? a=some o):q.It h' a i:=by
 unfold ZS.It at *
 by_cases c:q.b=true
 ·rw[if_pos c] at *;obtain⟨o,ho,r⟩:=x;exact⟨o,e _ ho,r⟩
 ·rw[if_neg c] at *;obtain⟨o,ho,r⟩:=x;exact⟨o,e _ ho,r⟩
theorem ZS.At.lj{q:ZS}{h h':Heap}(x:q.At h)(e:∀o,h.get? q.l=some o->h'.get? q.l=some o):q.At h':=by
 unfold ZS.At at *
 by_cases c:q.b=true
 ·rw[if_pos c] at *;obtain⟨o,ho,r⟩:=x;exact⟨o,e _ ho,r⟩
 ·rw[if_neg c] at *;obtain⟨o,ho,r⟩:=x;exact⟨o,e _ ho,r⟩
theorem ZS.draw{q:ZS}{a:Addr}{i:Nat}{x:Value}{Q:Value->Shared->Prop}(it:q.It s.heap a i)(at_:q.At s.heap)(hx:q.xs[i]? = some x)
  (k:∀h',q.It h' a (i+1)->Heap.SameBut a s.heap h'->Q x {s with heap:=h'}):wpAny (model prog w) A (Builtin.SmallTypes.nextOf (.ref a)) Q E s:=by
 unfold ZS.It at *
 unfold ZS.At at at_
 by_cases c:q.b=true
 ·rw[if_pos c] at it at_
  exact wpAny_nextOf_list_item it at_ (by simpa using hx) fun h'=>by have:=k h';rw[if_pos c] at this;exact this
 ·rw[if_neg c] at it at_
  exact Hj it at_ (by simpa using hx) fun h'=>by have:=k h';rw[if_neg c] at this;exact this
theorem ZS.stop{q:ZS}{a:Addr}{i:Nat}{Q:Value->Shared->Prop}(hh:A.handled=none)(it:q.It s.heap a i)(at_:q.At s.heap)(hx:q.xs[i]? = none)
  (k:∀h' e,Heap.ExtBut a s.heap h'->(∃o,h'.get? e=some o/\o.cls = .type "StopIteration")->E (.ref e) {s with heap:=h'}):wpAny (model prog w) A (Builtin.SmallTypes.nextOf (.ref a)) Q E s:=by
 unfold ZS.It at *
 unfold ZS.At at at_
 by_cases c:q.b=true
 ·rw[if_pos c] at it at_
  exact wpAny_nextOf_list_end hh it at_ (by simpa using hx) k
 ·rw[if_neg c] at it at_
  exact EL hh it at_ (by simpa using hx) k
structure ZN(h:Heap)(z TI TO:Addr)(its:List Addr)(own:Value)(old:List Value):Prop where
 z:IsZip h z TI TO own
 ti:h.get? TI=some {cls:=.type "tuple",data:=.seq (its.map Value.ref).toArray}
 to:h.get? TO=some {cls:=.type "tuple",data:=.seq old.toArray}
 n:old.length=its.length
structure ZAp(z TI TO:Addr)(its:List Addr)(qs:List ZS):Prop where
 TIz:TI≠z
 TOz:TO≠z
 TIO:TI≠TO
 it:∀a∈its,a≠z/\a≠TO/\a≠TI
 nd:its.Nodup
 so:∀q∈qs,q.l≠z/\q.l≠TO/\q.l ∉ its
 len:its.length=qs.length
 one:its≠[]
noncomputable def Fi(h:Heap)(its:List Addr)(qs:List ZS)(f:Nat->Nat):Prop:=∀(m:Nat) (a:Addr) (q:ZS),its[m]? = some a->qs[m]? = some q->q.It h a (f m)
structure ZJ(h0:Heap)(z TI TO:Addr)(its:List Addr)(qs:List ZS)(i j:Nat)(h:Heap):Prop where
 sz:h.objs.size=h0.objs.size
 own:IsZip h z TI TO .ellipsis
 to:∃kept:List Value,h.get? TO=some {cls:=.type "tuple",data:=.seq kept.toArray}/\kept.length=its.length/\∀m,m<j->∀q,qs[m]? = some q->kept[m]? = q.xs[i]?
 go:Fi h its qs fun m=>if m<j then i+1 else i
 same:∀c o,c≠z->c≠TO->c ∉ its->h0.get? c=some o->h.get? c=some o
theorem L9{its:List Addr}(nd:its.Nodup){a:Addr}{m j:Nat}(h:its[m]? = some a)(g:its[j]? = some a):m=j:=by
 obtain⟨h1,h2⟩:=List.getElem?_eq_some_iff.mp h
 obtain⟨g1,g2⟩:=List.getElem?_eq_some_iff.mp g
 have pw:=List.pairwise_iff_getElem.mp nd
 rcases Nat.lt_trichotomy m j with c|c|c
 ·exact absurd (h2.trans g2.symm) (pw m j h1 g1 c)
 ·exact c
 ·exact absurd (g2.trans h2.symm) (pw j m g1 h1 c)
theorem ZJ.next{h0:Heap}{z TI TO:Addr}{its:List Addr}{qs:List ZS}{i j:Nat}{h h1 h2:Heap}{a:Addr}{q:ZS}{x:Value}{kept:List Value}(D:ZAp z TI TO its qs)(J:ZJ h0 z TI TO its qs i j h)(ha:its[j]? = some a)(hq:qs[j]? = some q)(hx:q.xs[i]? = some x)
  (b:Heap.SameBut a h h1) (it:q.It h1 a (i+1)) (b2:Heap.SameBut TO h1 h2) (hk:kept.length=its.length) (kk:∀m,m<j->∀q,qs[m]? = some q->kept[m]? = q.xs[i]?)
  (to:h2.get? TO=some {cls:=.type "tuple",data:=.seq (kept.set j x).toArray}):ZJ h0 z TI TO its qs i (j+1) h2:=by
 have ma:=mem_of_getElem? ha
 obtain⟨a1,a2,a3⟩:=D.it a ma
 have hj:j<its.length:=(List.getElem?_eq_some_iff.mp ha).1
 refine⟨by rw[b2.1,b.1,J.sz],b2.extBut _ _ D.TOz.symm (b.extBut _ _ a1.symm J.own),⟨_,to,by rw[length_set,hk],fun m hm p hp=>?_⟩,fun m c p hc hp=>?_,fun c o c1 c2 c3 e=>b2.extBut _ _ c2 (b.extBut _ _ (fun e=>c3 (e▸ma)) (J.same c o c1 c2 c3 e))⟩
 ·by_cases e:m=j
  ·subst e
   rw[hq] at hp;cases hp
   rw[hx,List.getElem?_set_self ∅]
  ·rw[List.getElem?_set_ne (fun z=>e z.symm)]
   exact kk m ∅ p hp
 ·have c0:=D.it c (mem_of_getElem? hc)
  by_cases e:m=j
  ·subst e
   rw[ha] at hc;cases hc
   rw[hq] at hp;cases hp
   dsimp only
   rw[if_pos (Nat.lt_succ_self _)]
   exact it.lj fun o=>b2.extBut _ _ a2
  ·have ne:c≠a:=fun z=>e (L9 D.nd hc (z▸ha))
   have:=(J.go m c p hc hp).lj fun o e=>b2.extBut _ _ c0.2.1 (b.extBut _ _ ne e)
   dsimp only at this ⊢
   by_cases c:m<j
   ·rw[if_pos c] at this;rw[if_pos ∅];exact this
   ·rw[if_neg c] at this;rw[if_neg ∅];exact this
theorem Nf{T:Addr}{xs:List Value}{x:Value}{k:Nat}{Q:Unit->Shared->Prop}(hz:xs.length<=1000)(hT:s.heap.get? T=some {cls:=.type "tuple",data:=.seq xs.toArray})
  (h:∀h',h'.get? T=some {cls:=.type "tuple",data:=.seq (xs.set k x).toArray}->Heap.SameBut T s.heap h'->Q () {s with heap:=h'}):wpAny (model prog w) A (updateSeq T (·.setIfInBounds k x)) Q E s:=by
 have e:sizeLine=16777216:=sizeLine_eq
 refine wpAny_updateSeq hT rfl (h _ ?_ (Heap.SameBut.update ..)) (by rw[size_toArray];omega) (by rw[Array.size_setIfInBounds,size_toArray];omega)
 rw[Heap.get?_update_self _ hT rfl]
 simp[Obj.mapSeq]
theorem IX{z TI TO:Addr}{its:List Addr}{qs:List ZS}{i:Nat}{old:List Value}{Q:Value->Shared->Prop}(D:ZAp z TI TO its qs)(Z:ZN s.heap z TI TO its .none old)(I:Fi s.heap its qs fun _=>i)(at_:∀q∈qs,q.At s.heap)(small:its.length<=1000)(hh:A.handled=none)
  (ke:∀h' e,(∃q∈qs,q.xs[i]? = none)->(∀c o,c≠z->c≠TO->c ∉ its->s.heap.get? c=some o->h'.get? c=some o)->(∃o,h'.get? e=some o/\o.cls = .type "StopIteration")->E (.ref e) {s with heap:=h'})
  (k:∀h' (vs:List Value),vs.length=qs.length->(∀(m:Nat) (q:ZS),qs[m]? = some q->vs[m]? = q.xs[i]?)->ZN h' z TI TO its (rawInt s.heap.objs.size) vs->Fi h' its qs (fun _=>i+1)->h'.get? s.heap.objs.size=some {cls:=.type "tuple",data:=.seq vs.toArray}->h'.objs.size=s.heap.objs.size+1 ->
   (∀c o,c≠z->c≠TO->c ∉ its->s.heap.get? c=some o->h'.get? c=some o)->Q (.ref s.heap.objs.size) {s with heap:=h'}) :
  wpAny (model prog w) A (Builtin.«zip.__next__» ⟨[.ref z],[]⟩) (fun fin s'=>∃v,fin = .done (.ret v)/\Q v s') E s:=by
 show wpAny _ _ (field (.ref z) 2>>=_) _ _ _
 refine wpAny_bind (wpAny_field Z.z rfl (x:=.bool false) rfl ?_)
 show wpAny _ _ (field (.ref z) 3>>=_) _ _ _
 refine wpAny_bind (wpAny_field Z.z rfl (x:=.ref TI) rfl (wpAny_bind (wpAny_seqItems Z.ti rfl ?_)))
 have ne:(its.map Value.ref).toArray.isEmpty=false:=by
  have:=D.one
  cases its with
  |nil=>exact absurd rfl this
  |cons a r=>rfl
 dsimp only
 rw[ne,if_neg (fun z=>nomatch z)]
 refine wpAny_bind ?_
 unfold Builtin.SmallTypes.ownedTupleIsFree
 refine wpAny_bind (wpAny_field Z.z rfl (x:=.none) rfl (wpAny_pure ?_))
 simp only[if_true]
 refine wpAny_bind (wpAny_rule (wpAny_bind (wpAny_field Z.z rfl (x:=.ref TO) rfl (wpAny_bind (wpAny_setField_rec Z.z (by simp) fun h1 z1 b1=>wpAny_bind ?_)))))
 have J0:ZJ s.heap z TI TO its qs i 0 h1:=⟨b1.1,z1,⟨old,b1.extBut _ _ D.TOz Z.to,Z.n,fun m hm=>absurd hm (Nat.not_lt_zero _)⟩,fun m a q ha hq=>by
  have:=(I m a q ha hq).lj fun o=>b1.extBut _ _ (D.it a (mem_of_getElem? ha)).1
  dsimp only
  rw[if_neg (Nat.not_lt_zero _)];exact this,fun c o c1 _ _ e=>b1.extBut _ _ c1 e⟩
 refine Dw (fun j b s'=>b=⟨none,()⟩/\∃h',s'={s with heap:=h'}/\ZJ s.heap z TI TO its qs i j h') _ 0 _ _ (fun j x hx b s' ⟨eb,h',es,J⟩=>?_) ⟨rfl,h1,rfl,J0⟩ fun b s' ⟨eb,h',es,J⟩=>?_
 ·subst eb;subst es
  obtain⟨hj,a,ha,ex⟩:j<its.length/\∃a,its[j]? = some a/\x=(Value.ref a,j):=by
   have hj:j<its.length:=by
    have:=(List.getElem?_eq_some_iff.mp hx).1
    simpa using this
   refine⟨hj,its[j],getElem?_eq_getElem hj,?_⟩
   simp[hj] at hx
   exact hx.symm
  have hj':j<qs.length:=by rw[<- D.len];exact hj
  have hq:qs[j]? = some qs[j]:=getElem?_eq_getElem hj'
  have mq:qs[j]∈qs:=getElem_mem hj'
  generalize qs[j]=q at hq mq
  rw[Nat.zero_add] at J
  subst ex
  obtain⟨sz,zz,⟨kept,kt,kl,kk⟩,gg,sm⟩:=id J
  have it0:=gg j a q ha hq
  dsimp only at it0
  rw[if_neg (lt_irrefl _)] at it0
  obtain⟨s1,s2,s3⟩:=D.so q mq
  obtain⟨a1,a2,a3⟩:=D.it a (mem_of_getElem? ha)
  refine wpAny_bind (wpAny_onRaise ?_)
  show wpAny _ _ (Builtin.SmallTypes.nextOf (.ref a)>>=_) _ _ _
  cases hxx:q.xs[i]? with
  |none=>
   refine wpAny_bind (ZS.stop (s:={s with heap:=h'}) hh it0 ((at_ q mq).lj fun o e=>sm _ o s1 s2 s3 e) hxx fun h2 e b2 hq0=>?_)
   obtain⟨oe,hoe,hce⟩:=hq0
   have z2:IsZip h2 z TI TO .ellipsis:=b2 _ _ a1.symm zz
   have ez:e≠z:=fun q=>by subst q;rw[z2] at hoe;cases hoe;simp at hce
   exact wpAny_setField_rec z2 (by simp) fun h3 _ b3=>ke h3 e ⟨q,mq,hxx⟩ (fun c o c1 c2 c3 x=>b3.extBut _ _ c1 (b2 _ _ (fun z=>c3 (z▸mem_of_getElem? ha)) (sm c o c1 c2 c3 x))) ⟨oe,b3.extBut _ _ ez hoe,hce⟩
  |some y=>
  refine wpAny_bind (ZS.draw (s:={s with heap:=h'}) it0 ((at_ q mq).lj fun o e=>sm _ o s1 s2 s3 e) hxx fun h2 i2 b2=>wpAny_pure ?_)
  have k2:=b2.extBut _ _ a2.symm kt
  refine wpAny_bind (wpAny_seqItems k2 rfl (wpAny_bind (Nf (s:={s with heap:=h2}) (by rw[kl];exact small) k2 fun h3 o3 b3=>wpAny_bind (wpAny_letGo (wpAny_pure ?_)))))
  rw[Nat.zero_add]
  exact⟨_,rfl,rfl,h3,rfl,J.next D ha hq hxx b2 i2 b3 kl kk o3⟩
 ·subst eb;subst es
  obtain⟨sz,zz,⟨kept,kt,kl,kk⟩,gg,sm⟩:=id J
  have eL:0+(its.map Value.ref).toArray.toList.zipIdx.length=its.length:=by simp
  rw[eL] at kk gg
  have kz:kept.length<=sizeLine:=by rw[kl,sizeLine_eq];omega
  dsimp only
  refine wpAny_bind (wpAny_seqItems kt rfl (wpAny_bind (wpAny_newTuple ?_)))
  show wpAny _ _ (Builtin.SmallTypes.ownedTupleHandOut (.ref z) (.ref h'.objs.size)>>=_) _ _ _
  refine wpAny_bind ?_
  unfold Builtin.SmallTypes.ownedTupleHandOut
  refine wpAny_bind (wpAny_setField_rec (show IsZip (h'.push {cls:=.type "tuple",data:=.seq kept.toArray}) z TI TO .ellipsis from Heap.get?_push_of_some _ zz) (by simp) fun h7 z7 b7=>?_)
  replace z7:IsZip h7 z TI TO (rawInt h'.objs.size):=z7
  refine wpAny_setField_rec z7 (by simp) fun h8 z8 b8=>?_
  replace z8:IsZip h8 z TI TO (rawInt h'.objs.size):=z8
  have zl:z<h'.objs.size:=Heap.lt_size zz
  have up:∀c o,c≠z->h'.get? c=some o->h8.get? c=some o:=fun c o c1 e=>b8.extBut _ _ c1 (b7.extBut _ _ c1 (Heap.get?_push_of_some _ e))
  have t8:h8.get? h'.objs.size=some {cls:=.type "tuple",data:=.seq kept.toArray}:=b8.extBut _ _ (Nat.ne_of_gt zl) (b7.extBut _ _ (Nat.ne_of_gt zl) (Heap.get?_push_size _ rfl))
  have l8:h8.objs.size=h'.objs.size+1:=by rw[b8.1,b7.1,Heap.size_push]
  rw[sz] at z8 t8 l8
  refine wpAny_pure ⟨_,rfl,?_⟩
  show Q (.ref h'.objs.size) _
  rw[sz]
  refine k h8 kept (by rw[kl,D.len]) (fun m q hq=>kk m (by rw[D.len];exact (List.getElem?_eq_some_iff.mp hq).1) q hq) ⟨z8,up _ _ D.TIz (sm _ _ D.TIz D.TIO (fun z=>(D.it TI z).2.2 rfl) Z.ti),up _ _ D.TOz kt,kl⟩ (fun m a q ha hq=>?_) t8 l8 fun c o c1 c2 c3 e=>up c o c1 (sm c o c1 c2 c3 e)
  have:=(gg m a q ha hq).lj fun o e=>up _ o (D.it a (mem_of_getElem? ha)).1 e
  dsimp only at this
  rw[if_pos (List.getElem?_eq_some_iff.mp ha).1] at this
  exact this
theorem BG{z TI TO:Addr}{its:List Addr}{qs:List ZS}{i:Nat}{old:List Value}{Q:Option Value->Shared->Prop}(D:ZAp z TI TO its qs)(Z:ZN s.heap z TI TO its .none old)(I:Fi s.heap its qs fun _=>i)(at_:∀q∈qs,q.At s.heap)(small:its.length<=1000)(hh:A.handled=none)
  (ke:∀h',(∃q∈qs,q.xs[i]? = none)->(∀c o,c≠z->c≠TO->c ∉ its->s.heap.get? c=some o->h'.get? c=some o)->Q none {s with heap:=h'})
  (k:∀h' (vs:List Value),vs.length=qs.length->(∀(m:Nat) (q:ZS),qs[m]? = some q->vs[m]? = q.xs[i]?)->ZN h' z TI TO its (rawInt s.heap.objs.size) vs->Fi h' its qs (fun _=>i+1)->h'.get? s.heap.objs.size=some {cls:=.type "tuple",data:=.seq vs.toArray}->h'.objs.size=s.heap.objs.size+1 ->
   (∀c o,c≠z->c≠TO->c ∉ its->s.heap.get? c=some o->h'.get? c=some o)->Q (some (.ref s.heap.objs.size)) {s with heap:=h'}) :
  wpAny (model prog w) A (pyNext (.ref z)) Q E s:=by
 have hT:s.TypeIs (.ref z) "zip":=⟨_,Z.z,rfl⟩
 unfold pyNext
 refine wpAny_bind (wpAny_attempt (wpAny_callSpecial?_slot (name:=Str.ofString "__next__") hT F.slot_zip_next (wpAny_call_entry F.slot_zip_next hT F.entry_zip_next ?_ (F.args_zip_next_1 _))))
 refine IX D Z I at_ small hh (fun h' e n same hq0=>?_) fun h' vs v1 v2 a1 a2 a3 a4 a5=>wpAny_pure (k h' vs v1 v2 a1 a2 a3 a4 a5)
 obtain⟨o,ho,hc⟩:=hq0
 exact wpAny_bind (wpAny_isInstance (T:="StopIteration") (b:=true) ⟨o,ho,hc⟩ isSubtype_stop (wpAny_pure (ke _ n same)))
noncomputable def ZS.it0(q:ZS):Obj:={cls:=.type (if q.b=true then "list_iterator" else "tuple_iterator"),data:=.fields #[.ref q.l,.int 0 0]}
theorem ZS.iter{q:ZS}{Q:Value->Shared->Prop}(at_:q.At s.heap)(h:Q (.ref s.heap.objs.size) {s with heap:=s.heap.push q.it0}):wpAny (model prog w) A (pyIter (.ref q.l)) Q E s:=by
 unfold ZS.At at at_
 unfold ZS.it0 at h
 by_cases c:q.b=true
 ·rw[if_pos c] at at_ h
  exact wpAny_pyIter_list at_ h
 ·rw[if_neg c] at at_ h
  exact iter_tuple at_ h
noncomputable def qb(h:Heap):List ZS->Heap
 |[]=>h
 |q::qs=>qb (h.push q.it0) qs
theorem hX:∀(qs:List ZS) (h:Heap),(qb h qs).objs.size=h.objs.size+qs.length
 |[],_=>rfl
 |q::qs,h=>by rw[qb,hX qs,Heap.size_push,length_cons];omega
theorem nj:∀(qs:List ZS) (h:Heap) (b:Addr) (o:Obj),h.get? b=some o->(qb h qs).get? b=some o
 |[],_,_,_,e=>e
 |q::qs,h,b,o,e=>nj qs _ b o (Heap.get?_push_of_some _ e)
theorem ZS.ON(q:ZS){h:Heap}{a:Addr}(e:h.get? a=some q.it0):q.It h a 0:=by
 unfold ZS.It
 unfold ZS.it0 at e
 by_cases c:q.b=true
 ·rw[if_pos c] at e ⊢;exact⟨_,e,rfl,rfl⟩
 ·rw[if_neg c] at e ⊢;exact⟨_,e,rfl,rfl⟩
theorem Cq:∀(qs:List ZS) (h:Heap) (m:Nat) (q:ZS),qs[m]? = some q->q.It (qb h qs) (h.objs.size+m) 0
 |[],_,_,_,e=>by simp at e
 |p::qs,h,0,q,e=>by
  rw[getElem?_cons_zero] at e;cases e
  exact ZS.ON _ (nj qs _ _ _ (Heap.get?_push_size _ rfl))
 |p::qs,h,m+1,q,e=>by
  have:=Cq qs (h.push p.it0) m q (by simpa using e)
  rw[Heap.size_push] at this
  rwa [show h.objs.size+(m+1)=h.objs.size+1+m by omega]
noncomputable def lJ(n k:Nat):List Addr:=(List.range k).map (n + ·)
theorem Jn{Q:List Value->Shared->Prop}(qs:List ZS)(at_:∀q∈qs,q.At s.heap)(k:Q ((lJ s.heap.objs.size qs.length).map Value.ref) {s with heap:=qb s.heap qs}):wpAny (model prog w) A (Builtin.SmallTypes.iterAll (qs.map fun q=>.ref q.l)) Q E s:=by
 unfold Builtin.SmallTypes.iterAll
 refine wpAny_bind (Dw (fun j b s'=>b.toList=(lJ s.heap.objs.size j).map Value.ref/\s'={s with heap:=qb s.heap (qs.take j)}) _ 0 _ _ (fun j x hx b s' ⟨eb,es⟩=>?_) ⟨rfl,rfl⟩ fun b s' ⟨eb,es⟩=>?_)
 ·subst es
  rw[Nat.zero_add] at eb ⊢
  rw[getElem?_map] at hx
  obtain⟨q,hq,rfl⟩:=Option.map_eq_some_iff.mp hx
  have mq:=mem_of_getElem? hq
  refine wpAny_bind (wpAny_holding (ZS.iter (s:={s with heap:=qb s.heap (qs.take j)}) ((at_ q mq).lj fun o e=>nj _ _ _ _ e) (wpAny_pure ⟨_,rfl,?_,?_⟩)))
  ·dsimp only
   rw[hX,length_take,Array.toList_push,eb]
   have:j<qs.length:=(List.getElem?_eq_some_iff.mp hq).1
   rw[Nat.min_eq_left ∅,lJ,lJ,List.range_succ,map_append,map_append]
   rfl
  ·congr 1
   rw[take_succ,hq]
   have:∀(l:List ZS) (h:Heap),qb h (l++[q])=(qb h l).push q.it0:=fun l=>by
    induction l with
    |nil=>intro h;rfl
    |cons p l ih=>intro h;exact ih _
   exact (this _ _).symm
 ·subst es
  rw[Nat.zero_add,length_map] at eb ⊢
  rw[List.take_of_length_le (le_refl _)]
  refine wpAny_pure ?_
  rw[eb]
  exact k
noncomputable abbrev Fj(h:Heap)(qs:List ZS):Heap:=(((qb h qs).push {cls:=.type "tuple",data:=.seq ((lJ h.objs.size qs.length).map Value.ref).toArray}).push {cls:=.type "tuple",data:=.seq (qs.map fun _=>Value.none).toArray}).push {cls:=.type "zip",data:=.fields #[.none,.bool false,.bool false,.ref (h.objs.size+qs.length),.ref (h.objs.size+qs.length+1)]}
theorem Gn(qs:List ZS)(small:qs.length<=1000):Meets (Builtin.«zip.__new__» ⟨.type "zip"::qs.map (fun q=>.ref q.l),[]⟩) (fun _ R s=>(∀q∈qs,q.At s.heap)/\R (.ok (.ret (.ref (s.heap.objs.size+qs.length+2)))) {s with heap:=Fj s.heap qs}):=
 .of_wp fun prog w A R s h=>by
  obtain⟨hp,g,d,tk,os⟩:=s
  obtain⟨t1,h⟩:=h
  have hsub:=sub_zip
  wp_walk using Jn (s:=⟨hp,g,d,tk,os⟩) qs t1
  have e0:sizeLine=16777216:=sizeLine_eq
  have zl:∀n:Nat,(lJ n qs.length).length=qs.length:=fun n=>by rw[lJ,length_map,length_range]
  rw[if_neg (by rw[size_toArray,length_map,zl];omega)]
  wp_walk
  rw[if_neg (by rw[size_toArray,length_map,length_map,zl];omega)]
  wp_walk
  refine⟨_,rfl,?_⟩
  have en:List.map (fun x=>Value.none) (List.map Value.ref (lJ hp.objs.size qs.length))=qs.map fun _=>Value.none:=by
   rw[List.map_const',List.map_const',length_map,zl]
  dsimp only at h ⊢
  rw[en,Heap.size_push,Heap.size_push,hX]
  exact h
theorem yN{n k a:Nat}(h:a∈lJ n k):n<=a/\a<n+k:=by
 obtain⟨i,hi,e⟩:=List.mem_map.mp h
 have:=List.mem_range.mp hi
 exact⟨∅,∅⟩
theorem nF{a b:Nat}(h:a<b\/b<a):(show Addr from a)≠(show Addr from b):=fun z=>by
 have:a=b:=z
 omega
theorem LZ{n:Nat}{qs:List ZS}(ne:qs≠[])(lt:∀q∈qs,q.l<n):ZAp (n+(qs.length+2)) (n+qs.length) (n+(qs.length+1)) (lJ n qs.length) qs where
 TIz:=nF (.inl ∅)
 TOz:=nF (.inl ∅)
 TIO:=nF (.inl ∅)
 it:=fun a ha=>by
  obtain⟨h1,h2⟩:=yN ha
  exact⟨nF (.inl ∅),nF (.inl ∅),nF (.inl ∅)⟩
 nd:=List.pairwise_map.mpr (List.Pairwise.imp (fun {a b} h=>nF (.inl ∅)) (List.pairwise_lt_range (n:=qs.length)))
 so:=fun q hq=>by
  have lt':(q.l:Nat)<n:=lt q hq
  exact⟨nF (.inl (lt_of_lt_of_le lt' (Nat.le_add_right _ _))),nF (.inl (lt_of_lt_of_le lt' (Nat.le_add_right _ _))),fun z=>by
   obtain⟨h1,h2⟩:=yN z
   exact absurd lt' (Nat.not_lt.mpr h1)⟩
 len:=by rw[lJ,length_map,length_range]
 one:=fun z=>by
  have:=congrArg List.length z
  rw[lJ,length_map,length_range] at this
  exact ne (List.eq_nil_of_length_eq_zero this)
theorem JJ{qs:List ZS}{Q:Value->Shared->Prop}(small:qs.length<=1000)(at_:∀q∈qs,q.At s.heap)
  (hct:checkTypeCall "zip" ⟨qs.map (fun q=>.ref q.l),[]⟩=pure ()) (hcn:checkBuiltinCall "zip.__new__" ⟨.type "zip"::qs.map (fun q=>.ref q.l),[]⟩=pure ()) (hok:∀obj,argsOk "object.__init__" ⟨obj::qs.map (fun q=>.ref q.l),[]⟩)
  (k:∀h',ZN h' (s.heap.objs.size+(qs.length+2)) (s.heap.objs.size+qs.length) (s.heap.objs.size+(qs.length+1)) (lJ s.heap.objs.size qs.length) .none (qs.map fun _=>.none)->Fi h' (lJ s.heap.objs.size qs.length) qs (fun _=>0)->(∀c o,s.heap.get? c=some o->h'.get? c=some o)->Q (.ref (s.heap.objs.size+(qs.length+2))) {s with heap:=h'}) :
  wpAny (model prog w) A (call (.type "zip") (qs.map fun q=>.ref q.l)) Q E s:=by
 refine callType_new F.called_zip ⋯ hct hcn hok F.entry_zip_new (Gn qs small) ⟨at_,?_⟩
 have zl:(lJ s.heap.objs.size qs.length).length=qs.length:=by rw[lJ,length_map,length_range]
 have up:∀{h:Heap} {c:Addr} {o u:Obj},h.get? c=some o->(h.push u).get? c=some o:=fun e=>Heap.get?_push_of_some _ e
 have g3:(Fj s.heap qs).get? _=some _:=Heap.get?_push_size _ rfl
 have g2:(Fj s.heap qs).get? _=some _:=up (Heap.get?_push_size _ rfl)
 have g1:(Fj s.heap qs).get? _=some _:=up (up (Heap.get?_push_size _ rfl))
 rw[Heap.size_push,Heap.size_push,hX] at g3
 rw[Heap.size_push,hX] at g2
 rw[hX] at g1
 refine⟨⟨_,g3,rfl⟩,k _ ⟨g3,g1,g2,by rw[length_map,zl]⟩ (fun m a q ha hq=>?_) fun c o e=>up (up (up (nj _ _ _ _ e)))⟩
 have:=(Cq qs s.heap m q hq).lj (h':=Fj s.heap qs) fun o e=>up (up (up e))
 unfold lJ at ha
 rw[getElem?_map] at ha
 obtain⟨i,hi,rfl⟩:=Option.map_eq_some_iff.mp ha
 obtain⟨_,e⟩:=List.getElem?_eq_some_iff.mp hi
 rw[List.getElem_range] at e
 subst e
 exact this
end
noncomputable def SqS(K:PySem.W.Frag)(H:Hp)(q:Bool×Addr)(xs:List V):Prop:=if q.1=true then SqL K H q.2 xs else SqT K H q.2 xs
noncomputable def Rh(K:PySem.W.Frag)(ss:List (Bool×Addr)):It:=
 ⟨fun i H=>∀q∈ss,∃xs,SqS K H q xs/\i<xs.length,
  fun i H v H'=>∃p vs,v = .ref p/\H p=none/\H'=upd H p (.tup vs)/\vs.length=ss.length/\∀(m:Nat) (q:Bool×Addr),ss[m]? = some q->∀xs,SqS K H q xs->vs[m]? = xs[i]?,
  fun i H=>(∀q∈ss,∃xs,SqS K H q xs)/\∃q∈ss,∃xs,SqS K H q xs/\xs.length<=i⟩
section
variable {X:Cx}{pins:List (Addr×Obj)}{Y:St}{H:Hp}{s:Shared}
theorem Inv.src(I:Inv X pins Y H s){q:Bool×Addr}{xs:List V}(h:SqS X.K H q xs):∃its,Vals xs its/\(ZS.mk q.1 q.2 its).At s.heap:=by
 unfold SqS at h
 by_cases c:q.1=true
 ·rw[if_pos c] at h
  obtain⟨its,rv,p,_⟩:=I.list h
  exact⟨its,rv,by unfold ZS.At;rw[if_pos c];exact p.isList⟩
 ·rw[if_neg c] at h
  obtain⟨its,rv,p,_⟩:=I.tuple h
  exact⟨its,rv,by unfold ZS.At;rw[if_neg c];exact p⟩
theorem Inv.Dx(I:Inv X pins Y H s){q:Bool×Addr}{xs ys:List V}(h:SqS X.K H q xs)(g:SqS X.K H q ys):xs=ys:=by
 unfold SqS at h g
 by_cases c:q.1=true
 ·rw[if_pos c] at h g;exact I.FN h g
 ·rw[if_neg c] at h g;exact I.BC h g
theorem Inv.M4(I:Inv X pins Y H s):∀{ss:List (Bool×Addr)},(∀q∈ss,∃xs,SqS X.K H q xs)->∃qs:List ZS,qs.map (fun q=>(q.b,q.l))=ss/\(∀q∈qs,q.At s.heap)/\∀q∈qs,∃xs,SqS X.K H (q.b,q.l) xs/\Vals xs q.xs
 |[],_=>⟨[],rfl,fun _ h=>absurd h not_mem_nil,fun _ h=>absurd h not_mem_nil⟩
 |p::ss,h=>by
  obtain⟨qs,e,a,b⟩:=Inv.M4 I fun q hq=>h q (mem_cons_of_mem _ hq)
  obtain⟨xs,hx⟩:=h p mem_cons_self
  obtain⟨its,rv,at_⟩:=Inv.src I hx
  refine⟨⟨p.1,p.2,its⟩::qs,by rw[map_cons,e],fun q hq=>?_,fun q hq=>?_⟩
  ·rcases List.mem_cons.mp hq with rfl|hq
   ·exact at_
   ·exact a q hq
  ·rcases List.mem_cons.mp hq with rfl|hq
   ·exact⟨xs,hx,rv⟩
   ·exact b q hq
end
noncomputable def OA(z TI TO:Addr)(its:List Addr)(ss:List (Bool×Addr))(i:Nat)(h:Heap):Prop:=(∃old,ZN h z TI TO its .none old)/\∀(m:Nat) (a:Addr) (q:Bool×Addr),its[m]? = some a->ss[m]? = some q->(ZS.mk q.1 q.2 []).It h a i
noncomputable def zsK(q:ZS):Bool×Addr:=(q.b,q.l)
theorem ZAp.re{z TI TO:Addr}{its:List Addr}{ps qs:List ZS}(D:ZAp z TI TO its ps)(e:qs.map zsK=ps.map zsK):ZAp z TI TO its qs:=
 ⟨D.TIz,D.TOz,D.TIO,D.it,D.nd,fun q hq=>by
  have:=mem_map_of_mem (f:=zsK) hq
  rw[e] at this
  obtain⟨p,hp,ep⟩:=List.mem_map.mp this
  have el:p.l=q.l:=congrArg Prod.snd ep
  rw[<- el]
  exact D.so p hp,by rw[D.len,<- length_map (f:=zsK),<- e,length_map],D.one⟩
theorem ZS.It.data{q:ZS}{h:Heap}{a:Addr}{i:Nat}(x:q.It h a i):∃o,h.get? a=some o/\∀v,o.data≠.cell v:=by
 unfold ZS.It at x
 by_cases c:q.b=true
 ·rw[if_pos c] at x;obtain⟨o,e,_,d⟩:=x;exact⟨o,e,fun v z=>by rw[d] at z;cases z⟩
 ·rw[if_neg c] at x;obtain⟨o,e,_,d⟩:=x;exact⟨o,e,fun v z=>by rw[d] at z;cases z⟩
theorem HQ{K:PySem.W.Frag}{H:Hp}{i:Nat}(inj:∀q xs ys,SqS K H q xs->SqS K H q ys->xs=ys):∀{qs:List ZS} {vs:List Value},vs.length=qs.length->(∀(m:Nat) (q:ZS),qs[m]? = some q->vs[m]? = q.xs[i]?)->(∀q∈qs,∃xs,SqS K H (zsK q) xs/\Vals xs q.xs) ->
  ∃us:List V,Vals us vs/\us.length=qs.length/\∀(m:Nat) (q:Bool×Addr),(qs.map zsK)[m]? = some q->∀xs,SqS K H q xs->us[m]? = xs[i]?
 |[],[],_,_,_=>⟨[],.nil,rfl,fun m q h=>by simp at h⟩
 |p::qs,v::vs,len,at_,src=>by
  obtain⟨us,u1,u2,u3⟩:=HQ inj (qs:=qs) (vs:=vs) (by simpa using len) (fun m q h=>at_ (m+1) q (by simpa using h)) fun q hq=>src q (mem_cons_of_mem _ hq)
  obtain⟨xs,hx,rv⟩:=src p mem_cons_self
  have hv:some v=p.xs[i]?:=at_ 0 p rfl
  have hi:i<p.xs.length:=(List.getElem?_eq_some_iff.mp hv.symm).1
  have hi':i<xs.length:=by rw[rv.length];exact hi
  obtain⟨v',h1,h2⟩:=rv.get (getElem?_eq_getElem hi')
  rw[<- hv] at h1
  cases h1
  refine⟨xs[i]::us,.cons h2 u1,by rw[length_cons,length_cons,u2],fun m q hq ys hy=>?_⟩
  cases m with
  |zero=>
   rw[map_cons,getElem?_cons_zero] at hq
   cases hq
   rw[inj _ _ _ hy hx,getElem?_eq_getElem hi']
   rfl
  |succ m=>exact u3 m q (by simpa using hq) ys hy
theorem JQ{P:Program}{w:World}{K:PySem.W.Frag}{es:List Expr}{x1:Nat}{pos:Pos}{z TI TO:Addr}{its:List Addr}{ps:List ZS}(D:ZAp z TI TO its ps)(small:its.length<=1000) :
  Turn true P w K (.Tuple es x1 pos) (Rh K (ps.map zsK)) (z::TI::TO::its) z (OA z TI TO its (ps.map zsK)) where
 mem:=mem_cons_self
 obj:=fun i h st b hb=>by
  obtain⟨⟨old,Z⟩,I⟩:=st
  rcases List.mem_cons.mp hb with rfl|hb
  ·exact⟨_,Z.z,fun v z=>by cases z⟩
  rcases List.mem_cons.mp hb with rfl|hb
  ·exact⟨_,Z.ti,fun v z=>by cases z⟩
  rcases List.mem_cons.mp hb with rfl|hb
  ·exact⟨_,Z.to,fun v z=>by cases z⟩
  obtain⟨m,hm,rfl⟩:=List.mem_iff_getElem.mp hb
  have hm':m<(ps.map zsK).length:=by rw[length_map,<- D.len];exact hm
  exact (I m _ _ (getElem?_eq_getElem hm) (getElem?_eq_getElem hm')).data
 keep:=fun i h h' st k=>by
  obtain⟨⟨old,Z⟩,I⟩:=st
  exact⟨⟨old,k _ mem_cons_self _ Z.z,k _ (mem_cons_of_mem _ mem_cons_self) _ Z.ti,k _ (mem_cons_of_mem _ (mem_cons_of_mem _ mem_cons_self)) _ Z.to,Z.n⟩,fun m a q ha hq=>(I m a q ha hq).lj fun o e=>k a (mem_cons_of_mem _ (mem_cons_of_mem _ (mem_cons_of_mem _ (mem_of_getElem? ha)))) o e⟩
 item:=by
  intro X hP hw hK hc i pins s Y H E I hf st hg
  subst hP hw hK
  obtain⟨⟨old,Z⟩,I0⟩:=st
  obtain⟨qs,eqs,at_,sv⟩:=Inv.M4 I fun q hq=>let ⟨xs,h,_⟩:=hg q hq;⟨xs,h⟩
  replace eqs:qs.map zsK=ps.map zsK:=eqs
  have D':=D.re eqs
  have I0':Fi s.heap its qs fun _=>i:=fun m a q ha hq=>I0 m a (zsK q) ha (by rw[<- eqs,getElem?_map,hq];rfl)
  refine BG D' Z I0' at_ small (I.ok.hd (hc rfl)) (fun h' ⟨q,hq,en⟩ _=>?_) fun h' vs v1 v2 Z' I1 hT hs same=>?_
  ·obtain⟨xs,hx,rv⟩:=sv q hq
   obtain⟨ys,hy,hi⟩:=hg (zsK q) (by rw[<- eqs];exact mem_map_of_mem hq)
   rw[Inv.Dx I hy hx,rv.length] at hi
   rw[getElem?_eq_getElem hi] at en
   cases en
  ·obtain⟨us,u1,u2,u3⟩:=HQ (fun q xs ys h g=>Inv.Dx I h g) v1 v2 sv
   refine⟨.ref s.heap.objs.size,rfl,wpAny_letOwnedTupleGo_zip (s:={s with heap:=h'}) Z'.z fun h2 c1 sb=>?_⟩
   have zs:z<s.heap.objs.size:=Heap.lt_size Z.z
   have hT2:h2.get? s.heap.objs.size=some {cls:=.type "tuple",data:=.seq vs.toArray}:=sb.extBut _ _ (Nat.ne_of_gt zs) hT
   have nin:∀b:Addr,b ∉ z::TI::TO::its->b≠z/\b≠TO/\b ∉ its:=fun b hb=>⟨fun e=>hb (e▸mem_cons_self),fun e=>hb (e▸mem_cons_of_mem _ (mem_cons_of_mem _ mem_cons_self)),fun e=>hb (mem_cons_of_mem _ (mem_cons_of_mem _ (mem_cons_of_mem _ e)))⟩
   refine⟨.ref s.heap.objs.size,upd H s.heap.objs.size (.tup us),?_,rfl,⟨s.heap.objs.size,us,rfl,I.hok.fresh (le_refl _),rfl,by rw[u2,<- length_map (f:=zsK),eqs],fun m q hq=>u3 m q (by rw[eqs];exact hq)⟩,⟨⟨vs,c1,?_,?_,Z'.n⟩,fun m a q ha hq=>?_⟩,fun b hb=>?_⟩
   ·refine Inv.GS (s:=s) (h':=h2) (t':=s.toks) (ch:=z::TI::TO::its) I hf (fun b o hb e=>?_) (le_refl _) ⟨?_,vs,u1,_,hT2,rfl,0,rfl⟩
    ·obtain⟨n1,n2,n3⟩:=nin b hb
     exact sb.extBut _ _ n1 (same b o n1 n2 n3 e)
    ·show us.length<=sizeLine
     rw[u2,<- D'.len,sizeLine_eq]
     omega
   ·exact sb.extBut _ _ D.TIz Z'.ti
   ·exact sb.extBut _ _ D.TOz Z'.to
   ·rw[<- eqs,getElem?_map] at hq
    obtain⟨q',hq',rfl⟩:=Option.map_eq_some_iff.mp hq
    exact (I1 m a q' ha hq').lj fun o e=>sb.extBut _ _ (D.it a (mem_of_getElem? ha)).1 e
   ·have hb':b<s.heap.objs.size:=by
     rcases List.mem_cons.mp hb with rfl|hb
     ·exact zs
     rcases List.mem_cons.mp hb with rfl|hb
     ·exact Heap.lt_size Z.ti
     rcases List.mem_cons.mp hb with rfl|hb
     ·exact Heap.lt_size Z.to
     obtain⟨m,hm,rfl⟩:=List.mem_iff_getElem.mp hb
     have hm':m<(ps.map zsK).length:=by rw[length_map,<- D.len];exact hm
     obtain⟨o,e,_⟩:=(I0 m _ _ (getElem?_eq_getElem hm) (getElem?_eq_getElem hm')).data
     exact Heap.lt_size e
    rw[bN (ne_of_lt hb')]
    exact (hf b hb).1
 done:=by
  intro X hP hw hK hc i pins s Y H E I hf st hg
  subst hP hw hK
  obtain⟨⟨old,Z⟩,I0⟩:=st
  obtain⟨g1,q0,hq0,xs0,hx0,le0⟩:=hg
  obtain⟨qs,eqs,at_,sv⟩:=Inv.M4 I g1
  replace eqs:qs.map zsK=ps.map zsK:=eqs
  have D':=D.re eqs
  have I0':Fi s.heap its qs fun _=>i:=fun m a q ha hq=>I0 m a (zsK q) ha (by rw[<- eqs,getElem?_map,hq];rfl)
  have nin:∀b:Addr,b ∉ z::TI::TO::its->b≠z/\b≠TO/\b ∉ its:=fun b hb=>⟨fun e=>hb (e▸mem_cons_self),fun e=>hb (e▸mem_cons_of_mem _ (mem_cons_of_mem _ mem_cons_self)),fun e=>hb (mem_cons_of_mem _ (mem_cons_of_mem _ (mem_cons_of_mem _ e)))⟩
  refine BG D' Z I0' at_ small (I.ok.hd (hc rfl)) (fun h' _ same=>⟨rfl,Inv.Nx (t':=s.toks) (ch:=z::TI::TO::its) I hf fun b o hb e=>?_⟩) fun h' vs v1 v2 _ _ _ _ _=>?_
  ·obtain⟨n1,n2,n3⟩:=nin b hb
   exact same b o n1 n2 n3 e
  ·rw[<- eqs] at hq0
   obtain⟨q,hq,rfl⟩:=List.mem_map.mp hq0
   obtain⟨m,hm,rfl⟩:=List.mem_iff_getElem.mp hq
   obtain⟨xs,hx,rv⟩:=sv _ (getElem_mem hm)
   have:=v2 m _ (getElem?_eq_getElem hm)
   rw[List.getElem?_eq_none (l:=qs[m].xs) (by rw[<- rv.length,Inv.Dx I hx hx0];exact le0),getElem?_eq_getElem ∅] at this
   cases this
 self:=fun _ _ _ _ _ st h=>let ⟨⟨_,Z⟩,_⟩:=st;wpAny_pyIter_zip Z.z h
structure KY(n:Nat):Prop where
 t:∀vs:List Value,vs.length=n->checkTypeCall "zip" ⟨vs,[]⟩=pure ()
 c:∀vs:List Value,vs.length=n->checkBuiltinCall "zip.__new__" ⟨.type "zip"::vs,[]⟩=pure ()
 o:∀(vs:List Value) (obj:Value),vs.length=n->argsOk "object.__init__" ⟨obj::vs,[]⟩
theorem zip2:KY 2 where
 t:=fun vs h=>match vs,h with|[a,b],_=>F.typeCall_zip_2 a b
 c:=fun vs h=>match vs,h with|[a,b],_=>F.newCall_zip_2 a b
 o:=fun vs o h=>match vs,h with|[a,b],_=>F.args_object_init_3 o a b
section
variable {X:Cx}{es:List Expr}{x1:Nat}{tpos:Pos}
noncomputable def Q3(K:PySem.W.Frag)(n:Nat)(ta:TA):TI:=fun Y H R=>ta Y H fun vs H1=>∃ss:List (Bool×Addr),vs=ss.map (fun q=>.ref q.2)/\ss.length=n/\(∀q∈ss,∃xs,SqS K H1 q xs)/\R (Rh K ss) H1
theorem Ci:∀{ss:List (Bool×Addr)} {us:List Value},Vals (ss.map fun q=>V.ref q.2) us->us=ss.map fun q=>Value.ref q.2
 |[],_,.nil=>rfl
 |q::ss,_,.cons h r=>by cases h;rw[Ci (ss:=ss) r];rfl
theorem M8{a:Expr}{as:List Expr}{n:Nat}{ta:TA}{p pos:Pos}(ok:KY n)(hn:0<n)(hn2:n<=1000)(hc:X.calm=true)(hg:Gl X "zip")(hm:X.mg "zip"=none)(ha:PA X (a::as) ta)
  (he:starEach (a::as) X.env=(false,eval a X.env)::starEach as X.env:=by rfl) (hpl:(backTo pos (starEach as X.env)).any (·.1)=false:=by rfl) :
  PI X (.Tuple es x1 tpos) (.Call (.Name "zip" p) (a::as) [] pos) (Q3 X.K n ta):=by
 intro pins s Y H R I h
 refine Call_ (vR I hg hm PyProof.Rows.Boot.«zip» (PyProof.Rows.callWith_type1 (thn (ha pos pins s Y H _ I h) fun us s1 hq0=>?_) he hpl))
 obtain⟨vs,H1,I1,r1,q1⟩:=hq0
 obtain⟨ss,e,ln,hq,q⟩:=q1
 subst e
 have eu:=Ci r1
 subst eu
 obtain⟨qs,eqs,at_,sv⟩:=Inv.M4 I1 hq
 replace eqs:qs.map zsK=ss:=eqs
 subst eqs
 have eV:(qs.map zsK).map (fun q=>Value.ref q.2)=qs.map fun q=>Value.ref q.l:=by rw[map_map];rfl
 rw[eV]
 rw[length_map] at ln
 have lv:(qs.map fun q=>Value.ref q.l).length=n:=by rw[length_map,ln]
 refine JJ ∅ at_ (ok.t _ lv) (ok.c _ lv) (fun obj=>ok.o _ obj lv) fun h' Z J keep=>?_
 have ne:qs≠[]:=fun z=>by rw[z] at ln;exact absurd ln (by show ¬ 0=n;omega)
 have lt:∀q∈qs,q.l<s1.heap.objs.size:=fun q hq=>by
  have:=at_ q hq
  unfold ZS.At at this
  by_cases c:q.b=true
  ·rw[if_pos c] at this;obtain⟨_,e,_⟩:=this;exact Heap.lt_size e
  ·rw[if_neg c] at this;obtain⟨_,e,_⟩:=this;exact Heap.lt_size e
 have zl:(lJ s1.heap.objs.size qs.length).length=qs.length:=by rw[lJ,length_map,length_range]
 refine wpAny_pyIter_zip (s:={s1 with heap:=h'}) Z.z ?_
 refine⟨_,(s1.heap.objs.size+(qs.length+2))::(s1.heap.objs.size+qs.length)::(s1.heap.objs.size+(qs.length+1))::lJ s1.heap.objs.size qs.length,_,_,H1,rfl,I1.kept (t':=s1.toks) keep,(JQ (LZ ne lt) (by rw[zl];omega)).calm hc,⟨⟨_,Z⟩,fun m a q ha hq=>?_⟩,fun b hb=>?_,q⟩
 ·rw[getElem?_map] at hq
  obtain⟨q',hq',rfl⟩:=Option.map_eq_some_iff.mp hq
  exact J m a q' ha hq'
 ·have hb':s1.heap.objs.size<=b:=by
   rcases List.mem_cons.mp hb with rfl|hb
   ·exact Nat.le_add_right _ _
   rcases List.mem_cons.mp hb with rfl|hb
   ·exact Nat.le_add_right _ _
   rcases List.mem_cons.mp hb with rfl|hb
   ·exact Nat.le_add_right _ _
   exact (yN hb).1
  exact I1.KH hb' (I1.hok.fresh hb')
inductive ZD(n:Nat):List D->List (List PyData)->Prop
 |nil:ZD n [] []
 |l {xs:List PyData} {ds:List D} {r:List (List PyData)}:xs.length=n->ZD n ds r->ZD n (.v (.list xs)::ds) (xs::r)
 |t {xs:List PyData} {ds:List D} {r:List (List PyData)}:xs.length=n->ZD n ds r->ZD n (.v (.tuple xs)::ds) (xs::r)
noncomputable def oK(n:Nat)(xss:List (List PyData)):List PyData:=(List.range n).map fun i=>.tuple (xss.map fun xs=>xs.getD i .none)
noncomputable def GZ(t:DTA):DTI:=fun ρ U Q=>t ρ U fun ds ac=>∃n xss,ZD n ds xss/\Q (oK n xss) ac
theorem Ly{t:DTA}{ρ:Rho}{U:Mu}{Q:List PyData->Mu->Prop}:GZ t ρ U Q=t ρ U fun ds ac=>∃n xss,ZD n ds xss/\Q (oK n xss) ac:=rfl
inductive ZL(K:PySem.W.Frag)(U:Mu)(H:Hp)(n:Nat):List (List PyData)->List (Bool×Addr)->Prop
 |nil:ZL K U H n [] []
 |l {xs:List PyData} {us:List V} {a:Addr} {r:List (List PyData)} {ss:List (Bool×Addr)}:xs.length=n->H a=some (.lst us)->U a=none->RpL K U H xs us->ZL K U H n r ss->ZL K U H n (xs::r) ((true,a)::ss)
 |t {xs:List PyData} {us:List V} {a:Addr} {r:List (List PyData)} {ss:List (Bool×Addr)}:xs.length=n->SqT K H a us->RpL K U H xs us->ZL K U H n r ss->ZL K U H n (xs::r) ((false,a)::ss)
theorem Ll{K:PySem.W.Frag}{U:Mu}{H:Hp}{n:Nat}:∀{ds:List D} {xss:List (List PyData)} {us:List V},ZD n ds xss->kq K U H ds us->∃ss,ZL K U H n xss ss/\us=ss.map (fun q=>.ref q.2)/\ss.length=ds.length
 |_,_,_,.nil,r=>by cases r;exact⟨[],.nil,rfl,rfl⟩
 |_,_,_,.l e z,r=>by
  cases r with
  |cons r1 r2=>
   obtain⟨ss,k1,k2,k3⟩:=Ll z r2
   cases r1 with
   |@list a us _ ha hn ra=>exact⟨(true,a)::ss,.l e ha hn ra k1,by rw[k2];rfl,by rw[length_cons,length_cons,k3]⟩
 |_,_,_,.t e z,r=>by
  cases r with
  |cons r1 r2=>
   obtain⟨ss,k1,k2,k3⟩:=Ll z r2
   cases r1 with
   |@tuple a us _ ha ra=>exact⟨(false,a)::ss,.t e ha ra k1,by rw[k2];rfl,by rw[length_cons,length_cons,k3]⟩
theorem ZL.ext{K:PySem.W.Frag}{U O:Mu}{H H':Hp}{n:Nat}(ok:cQ K U H)(e:Ext K U H O H'):∀{xss:List (List PyData)} {ss:List (Bool×Addr)},ZL K U H n xss ss->ZL K O H' n xss ss
 |_,_,.nil=>.nil
 |_,_,.l h1 h2 h3 h4 z=>.l h1 (e.keep _ _ h2 h3 trivial) (e.fresh _ h3 (.inl (by rw[h2];exact fun z=>nomatch z))) (h4.ext ok e) (ZL.ext ok e z)
 |_,_,.t h1 h2 h4 z=>.t h1 (mT ok e h2) (h4.ext ok e) (ZL.ext ok e z)
theorem ZL.src{K:PySem.W.Frag}{U:Mu}{H:Hp}{n:Nat}:∀{xss:List (List PyData)} {ss:List (Bool×Addr)},ZL K U H n xss ss->∀q∈ss,∃xs,SqS K H q xs/\xs.length=n
 |_,_,.nil=>fun _ h=>absurd h not_mem_nil
 |_,_,.l h1 h2 _ h4 z=>fun q hq=>by
  rcases List.mem_cons.mp hq with rfl|hq
  ·exact⟨_,show SqS K H (true,_) _ from SqL.of h2,by rw[<- h4.length,h1]⟩
  ·exact z.src q hq
 |_,_,.t h1 h2 h4 z=>fun q hq=>by
  rcases List.mem_cons.mp hq with rfl|hq
  ·exact⟨_,h2,by rw[<- h4.length,h1]⟩
  ·exact z.src q hq
theorem ZL.row{K:PySem.W.Frag}{U:Mu}{H:Hp}{n i:Nat}(hi:i<n):∀{xss:List (List PyData)} {ss:List (Bool×Addr)} {vs:List V},ZL K U H n xss ss->vs.length=ss.length->(∀(m:Nat) (q:Bool×Addr),ss[m]? = some q->∀xs,SqS K H q xs->vs[m]? = xs[i]?)->RpL K U H (xss.map fun xs=>xs.getD i .none) vs
 |_,_,[],.nil,_,_=>.nil
 |_,_,[],.l ..,e,_=>by simp at e
 |_,_,[],.t ..,e,_=>by simp at e
 |_,_,v::vs,.nil,e,_=>by simp at e
 |_,_,v::vs,.l h1 h2 h3 h4 z,e,g=>by
  have hx:=getElem?_eq_getElem (show i<_ from h1.symm▸hi)
  obtain⟨u,h5,h6⟩:=h4.get hx
  have g0:=g 0 _ rfl _ (show SqS K H (true,_) _ from SqL.of h2)
  rw[h5] at g0
  cases g0
  refine .cons (by dsimp only;rw[List.getD_eq_getElem?_getD,hx];exact h6) (ZL.row hi z (by simpa using e) fun m q hq=>g (m+1) q (by simpa using hq))
 |_,_,v::vs,.t h1 h2 h4 z,e,g=>by
  have hx:=getElem?_eq_getElem (show i<_ from h1.symm▸hi)
  obtain⟨u,h5,h6⟩:=h4.get hx
  have g0:=g 0 _ rfl _ (show SqS K H (false,_) _ from h2)
  rw[h5] at g0
  cases g0
  refine .cons (by dsimp only;rw[List.getD_eq_getElem?_getD,hx];exact h6) (ZL.row hi z (by simpa using e) fun m q hq=>g (m+1) q (by simpa using hq))
theorem M5{a:Expr}{as:List Expr}{t:DTA}{p pos:Pos}(ok:KY (as.length+1))(hg:Gl X "zip")(hm:X.mg "zip"=none)(ha:DA X (a::as) t)(hl:as.length<1000:=by decide)
  (he:starEach (a::as) X.env=(false,eval a X.env)::starEach as X.env:=by rfl) (hpl:(backTo pos (starEach as X.env)).any (·.1)=false:=by rfl) (hc:X.calm=true:=by rfl) :
  DI X (.Tuple es x1 tpos) (.Call (.Name "zip" p) (a::as) [] pos) (GZ t):=by
 obtain⟨t1,p1,l1⟩:=ha
 refine⟨_,M8 ok (Nat.succ_pos _) hl hc hg hm p1 he hpl,fun Y H ρ U Qd R S h k=>?_⟩
 refine l1 Y H ρ U _ _ S h fun ds us ac H1 e1 S1 rs len h1=>?_
 obtain⟨n,xss,zd,h1⟩:=h1
 obtain⟨ss,zl,eu,ls⟩:=Ll zd rs
 refine⟨ss,eu,by rw[ls,len];rfl,fun q hq=>let ⟨xs,h,_⟩:=zl.src q hq;⟨xs,h⟩,k (oK n xss) ac H1 _ e1 S1 (fun ad H2 e2 ok2 i=>⟨fun hi=>?_,fun hi=>?_⟩) h1⟩
 ·unfold oK at hi
  rw[length_map,length_range] at hi
  have z2:=ZL.ext S1.mu e2 zl
  refine⟨fun q hq=>let ⟨xs,h,e⟩:=z2.src q hq;⟨xs,h,∅⟩,?_⟩
  rintro v H' ⟨p,vs,rfl,hp,rfl,lv,hv⟩
  refine⟨_,by unfold oK;rw[getElem?_map,List.getElem?_range hi];rfl,Ga hp,?_⟩
  exact iF ok2 (z2.row hi lv hv) hp
 ·unfold oK at hi
  rw[length_map,length_range] at hi
  have z2:=ZL.ext S1.mu e2 zl
  refine⟨fun q hq=>let ⟨xs,h,_⟩:=z2.src q hq;⟨xs,h⟩,?_⟩
  have hs:0<ss.length:=by rw[ls,len];exact Nat.succ_pos _
  obtain⟨xs,hx,e⟩:=z2.src ss[0] (getElem_mem hs)
  exact⟨_,getElem_mem hs,xs,hx,∅⟩
end
open PySem PySem.Spec PyProof.Rows NM
theorem fO{n m:Nat}{i j:Int}(h:Sz n i)(g:Sz m j)(l:n+m<=120000000):IntMulOk i j:=by
 have b1:∀{k:Nat} {z:Int},Sz k z->Builtin.Int.intBits z<=k:=fun {k z} hz=>by
  unfold Builtin.Int.intBits
  split
  ·exact zero_le _
  ·rename_i q
   have hz':z.natAbs≠0:=by simp at q;omega
   have:=(Nat.log2_lt hz').mpr hz.lt
   omega
 have e1:=b1 h
 have e2:=b1 g
 unfold IntMulOk
 intro z
 simp only[and_eq_true] at z
 have z3:=z.2
 unfold Builtin.Int.intTooBig at z3
 simp only[decide_eq_true_eq] at z3
 have:(120000000:Int)<=bitsLine:=by decide
 omega
theorem mulL{i j:Int}(h:i.natAbs<2 ^ 64):IntMulOk i j:=My.ok (.inl ∅)
theorem mulR{i j:Int}(h:j.natAbs<2 ^ 64):IntMulOk i j:=My.ok (.inr ∅)
noncomputable def dN(x:N3):PyData:=.tuple [.int x.a,.int x.b,.int x.c]
noncomputable def isWhole(d:PyData):Bool:=isT "int" d&&!isT "bool" d
noncomputable def isNum:PyData->Bool
 |.tuple [.int a,.int b,.int c]=>decide (1<=c)&&(g3 a b c==1)
 |_=>false
noncomputable def eZ:DSp:=fun ds U Q=>∃d,ds=[.v d]/\Q (.v (.bool (isWhole d))) U
noncomputable def oV:DSp:=fun ds U Q=>∃a b:Int,ds=[.v (.int a),.v (.int b)]/\Q (.v (.int (Int.gcd a b:Nat))) U
noncomputable def zo:DSp:=fun ds U Q=>∃a b c:Int,ds=[.v (.int a),.v (.int b),.v (.int c)]/\Q (.v (.int (g3 a b c:Nat))) U
noncomputable def Few:PyData->Prop
 |.tuple xs=>xs.length<=1000
 |_=>True
noncomputable def nH:DSp:=fun ds U Q=>∃d,ds=[.v d]/\Few d/\Q (.v (.bool (isNum d))) U
noncomputable def cD:DSp:=fun ds U Q=>∃a b c:Int,ds=[.v (.int a),.v (.int b),.v (.int c)]/\c≠0/\Sz 44000000 c/\Q (.v (dN (low a b c))) U
noncomputable def qJ:DSp:=fun ds U Q=>∃x:N3,ds=[.v (dN x)]/\Q (.v (dN (minus x))) U
noncomputable def sp2(f:N3->N3->N3):DSp:=fun ds U Q=>∃x y:N3,ds=[.v (dN x),.v (dN y)]/\Ok x/\Ok y/\Bd 21500000 x/\Bd 21500000 y/\Q (.v (dN (f x y))) U
noncomputable abbrev cP:DSp:=sp2 plus
noncomputable abbrev rD:DSp:=sp2 less
noncomputable def dw:DSp:=fun ds U Q=>∃(d:Int) (x y:N3),ds=[.v (.int d),.v (dN x),.v (dN y)]/\Sz 5 d/\Ok x/\Ok y/\Bd 21500000 x/\Bd 21500000 y/\Q (.v (dN (times d x y))) U
noncomputable def cj:DSp:=fun ds U Q=>∃(d:Int) (x:N3),ds=[.v (.int d),.v (dN x)]/\Sz 5 d/\norm d x≠0/\Bd 21500000 x/\Q (.v (dN (aS d x))) U
noncomputable def nL:DSp:=fun ds U Q=>∃(d:Int) (x y:N3),ds=[.v (.int d),.v (dN x),.v (dN y)]/\av d/\Ok x/\Ok y/\y≠fF/\Bd 21500000 x/\Bd 10500000 y/\Q (.v (dN (times d x (aS d y)))) U
noncomputable def ur:DSp:=fun ds U Q=>∃d a b:Int,ds=[.v (.int d),.v (.int a),.v (.int b)]/\Sz 5 d/\Sz 49500000 a/\Sz 49500000 b/\Q (.v (.int (sg d a b))) U
noncomputable def hW:DSp:=fun ds U Q=>∃(d:Int) (x:N3),ds=[.v (.int d),.v (dN x)]/\av d/\Bd 44500000 x/\Q (.v (.int (sg d x.a x.b))) U
noncomputable def dif(d:Int)(x y:N3):Int:=sg d (x.a*y.c-y.a*x.c) (x.b*y.c-y.b*x.c)
noncomputable def nB:DSp:=fun ds U Q=>∃(d:Int) (x y:N3),ds=[.v (.int d),.v (dN x),.v (dN y)]/\av d/\Bd 22000000 x/\Bd 22000000 y/\Q (.v (.bool (decide (dif d x y=1)))) U
noncomputable def gT:DSp:=fun ds U Q=>∃(d:Int) (x y:N3),ds=[.v (.int d),.v (dN x),.v (dN y)]/\av d/\Ok x/\Ok y/\Bd 21500000 x/\Bd 21500000 y/\Q (.v (.bool (decide (dif d y x=1)))) U
noncomputable def Bag(U:Mu)(a:Addr):Prop:=∃g m:Int,U a=some [.int g,.int m]/\0<=g/\0<=m/\m<2147483648
noncomputable def Step(a:Addr)(U O:Mu):Prop:=Bag O a/\∀b,b≠a->O b=U b
noncomputable def HV:DSp:=fun ds U Q=>∃(ns:List Int) (k:Int),ds=[.s ns,.v (.int k)]/\0<=k/\k<=1000/\∀p O,U p=none->Step p U O->Q (.m p) O
noncomputable def b4:DSp:=fun ds U Q=>∃(a:Addr) (n:Int),ds=[.m a,.v (.int n)]/\1<=n/\n<=1000000000/\Bag U a/\∀r O,0<=r->r<n->Step a U O->Q (.v (.int r)) O
noncomputable def qw:DSp:=fun ds U Q=>∃a:Addr,ds=[.m a]/\Bag U a/\∀x O,Ok x->Bd 20 x->Step a U O->Q (.v (dN x)) O
noncomputable def ye:DSp:=fun ds U Q=>∃a:Addr,ds=[.m a]/\Bag U a/\∀d O,av d->Step a U O->Q (.v (.int d)) O
theorem Step.trans{a:Addr}{U ac ad:Mu}(h:Step a U ac)(g:Step a ac ad):Step a U ad:=⟨g.1,fun b n=>(g.2 b n).trans (h.2 b n)⟩
theorem Step.set{a:Addr}{U:Mu}{g m:Int}(h1:0<=g)(h2:0<=m)(h3:m<2147483648):Step a U (bD U a [.int g,.int m]):=⟨⟨g,m,bg,h1,h2,h3⟩,fun b n=>aV n⟩
def mkW(s:String):Lean.MacroM (Lean.TSyntax `tactic):=do let a<-(s.splitOn " ").toArray.mapM fun t=>if t.front=='↓' then `(Lean.Parser.Tactic.simpLemma|↓$(Lean.mkIdent (t.drop 1).toName):term) else `(Lean.Parser.Tactic.simpLemma|$(Lean.mkIdent t.toName):term);`(tactic|simp only[$a,*])
local macro_rules|`(tactic| walk_at "rd")=>mkW "↓lh ↓lD ↓nE ↓rY ↓sC ↓sf ↓rS ↓sR ↓tw ↓sy ↓mY ↓q_c ↓K7 ↓q_B ↓GX ↓AB ↓Ao ↓yC ↓Es ↓sG ↓Af ↓sY ↓LJ ↓qo ↓jT ↓zC ↓Av ↓rT ↓AI ↓yt ↓zJ ↓yp ↓Ae ↓zq ↓yY ↓nP ↓sP ↓sD ↓pF ↓pK ↓oO ↓rP ↓p6 ↓ky ↓Ar ↓yW ↓yn ↓tH ↓sL ↓G0 ↓j6 ↓rX ↓zR ↓Ja ↓rC ↓tI ↓sW ↓qq ↓zh ↓GF ↓rL ↓nK ↓yJ ↓AA ↓gn ↓o9 ↓kT ↓pY ↓sF ↓F1 ↓Am ↓tF ↓qW ↓yX ↓rO ↓FX ↓nJ ↓pT ↓zN ↓zp ↓sU ↓tN ↓j2 ↓iR ↓mX ↓iZ ↓j8 ↓j1 ↓ko EY ↓rV ↓kF j3 jE pf oQ qX bind_none bind_some join_some getElem?_cons_zero getElem?_cons_succ aG dN lZ pE qS ug wG List.map List.append List.replicate length_cons length_nil Nat.reduceAdd Nat.reduceSub nil_append cons_append set_cons_zero set_cons_succ map_some ↓reduceIte Bool.not_true Bool.not_false false_eq_true true_eq_false xor_false false_xor"
noncomputable def kE:DTS:=
 (aT (fh (wb "int" (ae 0)) (Ap (wb "bool" (ae 0)))))
noncomputable def gy:DTS:=
 (aC (tE (dB (dOp (bV true) (ae 1) (dC (.int 0)))) (vf 0 1 (ab (ae 1) (ab (pG (ae 0) (ae 1)) ao))))
 (aT (dCB uh (ab (ae 0) ao))))
noncomputable def gU:DTS:=
 (aT (aq oV (ab (aq oV (ab (ae 2) (ab (ae 0) ao))) (ab (ae 1) ao))))
noncomputable def j0:DTS:=
 (aC (vf 0 1 (ab (dCB uh (ab (ae 0) ao)) (ab (dCB uh (ab (ae 1) ao)) ao)))
 (aC (tE (dB (dOp rGt (ae 1) (dC (.int 0)))) (vf 0 1 (ab (ae 1) (ab (pG (ae 0) (ae 1)) ao))))
 (aT (ae 0))))
section
theorem Iv(x:Int){y:Int}(h:y≠0):(x.fmod y).natAbs<y.natAbs:=by
 have e:=Int.mul_fdiv_add_fmod x y
 have:=Int.fmod_def x y
 rcases lt_or_gt_of_ne h with h|h
 ·have k:=Int.neg_fmod_neg (a:=x) (b:=y)
  have h1:=Int.fmod_nonneg_of_pos (-x) (show 0 < -y by omega)
  have h2:=Int.fmod_lt_of_pos (-x) (show 0 < -y by omega)
  omega
 ·have h1:=Int.fmod_nonneg_of_pos x h
  have h2:=Int.fmod_lt_of_pos x h
  omega
theorem Gf(x y:Int):Int.gcd y (x.fmod y)=Int.gcd x y:=by
 have e:=Int.mul_fdiv_add_fmod x y
 have e':x.fmod y=x+y*(-(x.fdiv y)):=by rw[Int.mul_neg];omega
 rw[e',Int.gcd_add_mul_left_right,Int.gcd_comm]
theorem wX{U Qd ds}(h:eZ ds U Qd):kE ‹Qd› (aG ["thing"] ds) U:=by
 obtain⟨d,rfl,q⟩:=h
 unfold kE
 walk_at "rd"
 unfold isWhole at q
 cases hb:isT "int" d<;>simp_all
theorem tO{U Qd ds}(h:oV ds U Qd):gy ‹Qd› (aG ["a","b"] ds) U:=by
 obtain⟨a,b,rfl,q⟩:=h
 unfold gy
 walk_at "rd"
 refine⟨fun m ρ O=>∃x y:Int,ρ=[some (.v (.int x)),some (.v (.int y))]/\m=y.natAbs/\Int.gcd x y=Int.gcd a b/\O=U,⟨_,a,b,rfl,rfl,rfl,rfl⟩,?_⟩
 rintro m ρ O ⟨x,y,rfl,rfl,hg,rfl⟩
 walk_at "rd"
 by_cases hy:y=0
 ·subst hy
  have e:Int.gcd x 0=x.natAbs:=Int.gcd_zero_right x
  rw[<- hg,e] at q
  simpa using q
 ·have z:(true ^^ decide (y=0))=true:=by simp[hy]
  rw[if_pos z]
  exact⟨hy,_,Iv x hy,y,x.fmod y,rfl,rfl,(Gf x y).trans hg,trivial⟩
theorem zV{U Qd ds}(h:oV ds U Qd):j0 ‹Qd› (aG ["_law_one","_law_other"] ds) U:=by
 obtain⟨a,b,rfl,q⟩:=h
 unfold j0
 walk_at "rd"
 refine⟨fun m ρ O=>∃x y:Int,ρ=[some (.v (.int x)),some (.v (.int y))]/\m=y.natAbs/\0<=x/\0<=y/\Int.gcd x y=Int.gcd a b/\O=U,⟨_,_,_,rfl,rfl,∅,∅,by simp[Int.gcd],rfl⟩,?_⟩
 rintro m ρ O ⟨x,y,rfl,rfl,hx,hy,hg,rfl⟩
 walk_at "rd"
 by_cases h0:0<y
 ·rw[if_pos (by simpa using h0)]
  have hy':y≠0:=by omega
  exact⟨hy',_,Iv x hy',y,x.fmod y,rfl,rfl,∅,Int.fmod_nonneg_of_pos x h0,(Gf x y).trans hg,trivial⟩
 ·rw[if_neg (by simpa using h0)]
  have e:y=0:=by omega
  subst e
  rw[Int.gcd_zero_right] at hg
  have:x=((Int.gcd a b:Nat):Int):=by omega
  rw[this]
  exact q
theorem vb{U Qd ds}(h:zo ds U Qd):gU ‹Qd› (aG ["a","b","c"] ds) U:=by
 obtain⟨a,b,c,rfl,q⟩:=h
 unfold gU
 walk_at "rd"
 rw[<- Nq] at q
 exact⟨c,a,rfl,_,b,rfl,q⟩
end
noncomputable def wa:DTS:=
 (aC (bQ (dB (dOp (bV false) (ae 2) (dC (.int 0)))) sM aW)
 (aC (aR (aq zo (ab (ae 0) (ab (ae 1) (ab (ae 2) ao)))) (ak 3))
 (aC (bQ (dB (dOp rLt (ae 2) (dC (.int 0)))) (aR (D8 (ae 3)) (ak 3)) aW)
 (aT (cS (ab (jX (ae 0) (ae 3)) (ab (jX (ae 1) (ae 3)) (ab (jX (ae 2) (ae 3)) ao))))))))
noncomputable def qa:DTS:=
 (aC (aR (cx (aq oV (ab (aq oV (ab (ae 0) (ab (ae 1) ao))) (ab (ae 2) ao))) (dOp ax (g8 (ab (dC (.int 1)) (ab (D8 (dC (.int 1))) ao))) (dCB rA (ab (dOp rLt (ae 2) (dC (.int 0))) ao)))) (ak 3))
 (aT (cS (ab (jX (ae 0) (ae 3)) (ab (jX (ae 1) (ae 3)) (ab (jX (ae 2) (ae 3)) ao))))))
noncomputable def lC:DTS:=
 (aT (cS (ab (nI (dC (.int 0)) (dOp ax (ae 0) (dC (.int 0)))) (ab (nI (dC (.int 0)) (dOp ax (ae 0) (dC (.int 1)))) (ab (dOp ax (ae 0) (dC (.int 2))) ao)))))
noncomputable def CJ:DTS:=
 (aT (aq cD (ab (fi (cx (dOp ax (ae 0) (dC (.int 0))) (dOp ax (ae 1) (dC (.int 2)))) (cx (dOp ax (ae 1) (dC (.int 0))) (dOp ax (ae 0) (dC (.int 2))))) (ab (fi (cx (dOp ax (ae 0) (dC (.int 1))) (dOp ax (ae 1) (dC (.int 2)))) (cx (dOp ax (ae 1) (dC (.int 1))) (dOp ax (ae 0) (dC (.int 2))))) (ab (cx (dOp ax (ae 0) (dC (.int 2))) (dOp ax (ae 1) (dC (.int 2)))) ao)))))
noncomputable def u4:DTS:=
 (aT (aq cD (ab (fi (cx (dOp ax (ae 0) (dC (.int 0))) (dOp ax (ae 1) (dC (.int 2)))) (cx (dOp ax (ae 1) (dC (.int 0))) (dOp ax (ae 0) (dC (.int 2))))) (ab (fi (cx (dOp ax (ae 0) (dC (.int 1))) (dOp ax (ae 1) (dC (.int 2)))) (cx (dOp ax (ae 1) (dC (.int 1))) (dOp ax (ae 0) (dC (.int 2))))) (ab (cx (dOp ax (ae 0) (dC (.int 2))) (dOp ax (ae 1) (dC (.int 2)))) ao)))))
noncomputable def D1:DTS:=
 (aT (aq cD (ab (nI (cx (dOp ax (ae 0) (dC (.int 0))) (dOp ax (ae 1) (dC (.int 2)))) (cx (dOp ax (ae 1) (dC (.int 0))) (dOp ax (ae 0) (dC (.int 2))))) (ab (nI (cx (dOp ax (ae 0) (dC (.int 1))) (dOp ax (ae 1) (dC (.int 2)))) (cx (dOp ax (ae 1) (dC (.int 1))) (dOp ax (ae 0) (dC (.int 2))))) (ab (cx (dOp ax (ae 0) (dC (.int 2))) (dOp ax (ae 1) (dC (.int 2)))) ao)))))
noncomputable def yo:DTS:=
 (aT (aq cD (ab (fi (cx (dOp ax (ae 1) (dC (.int 0))) (dOp ax (ae 2) (dC (.int 0)))) (cx (cx (ae 0) (dOp ax (ae 1) (dC (.int 1)))) (dOp ax (ae 2) (dC (.int 1))))) (ab (fi (cx (dOp ax (ae 1) (dC (.int 0))) (dOp ax (ae 2) (dC (.int 1)))) (cx (dOp ax (ae 1) (dC (.int 1))) (dOp ax (ae 2) (dC (.int 0))))) (ab (cx (dOp ax (ae 1) (dC (.int 2))) (dOp ax (ae 2) (dC (.int 2)))) ao)))))
noncomputable def rj:DTS:=
 (aT (aq cD (ab (fi (cx (dOp ax (ae 1) (dC (.int 0))) (dOp ax (ae 2) (dC (.int 0)))) (cx (cx (ae 0) (dOp ax (ae 1) (dC (.int 1)))) (dOp ax (ae 2) (dC (.int 1))))) (ab (fi (cx (dOp ax (ae 1) (dC (.int 0))) (dOp ax (ae 2) (dC (.int 1)))) (cx (dOp ax (ae 1) (dC (.int 1))) (dOp ax (ae 2) (dC (.int 0))))) (ab (cx (dOp ax (ae 1) (dC (.int 2))) (dOp ax (ae 2) (dC (.int 2)))) ao)))))
noncomputable def qj:DTS:=
 (aC (aR (nI (cx (dOp ax (ae 1) (dC (.int 0))) (dOp ax (ae 1) (dC (.int 0)))) (cx (cx (ae 0) (dOp ax (ae 1) (dC (.int 1)))) (dOp ax (ae 1) (dC (.int 1))))) (ak 2))
 (aT (aq cD (ab (cx (dOp ax (ae 1) (dC (.int 2))) (dOp ax (ae 1) (dC (.int 0)))) (ab (cx (D8 (dOp ax (ae 1) (dC (.int 2)))) (dOp ax (ae 1) (dC (.int 1)))) (ab (ae 2) ao))))))
noncomputable def hZ:DTS:=
 (aT (aq cD (ab (cx (dOp ax (ae 1) (dC (.int 0))) (dOp ax (ae 1) (dC (.int 2)))) (ab (nI (dC (.int 0)) (cx (dOp ax (ae 1) (dC (.int 1))) (dOp ax (ae 1) (dC (.int 2))))) (ab (nI (cx (dOp ax (ae 1) (dC (.int 0))) (dOp ax (ae 1) (dC (.int 0)))) (cx (cx (ae 0) (dOp ax (ae 1) (dC (.int 1)))) (dOp ax (ae 1) (dC (.int 1))))) ao)))))
noncomputable def C0:DTS:=
 (aC (bQ (dB (dOp (bV false) (ae 2) (dC (.tuple [.int 0,.int 0,.int 1])))) sM aW)
 (aT (aq dw (ab (ae 0) (ab (ae 1) (ab (aq cj (ab (ae 0) (ab (ae 2) ao))) ao))))))
section
variable {U:Mu}{Qd:DK}{ds:List D}
theorem SQ(i j:Int):PyData.eqv (.int i) (.int j)=decide (i=j):=by simp[PyData.eqv];rfl
theorem gdv{a b c:Int}(h:Sz 44000000 c)(hc:c≠0):Sz 44000000 ((g3 a b c:Nat):Int):=by
 have h1:=(Lw a b c).2.2
 have h2:=Int.natAbs_dvd_natAbs.mpr h1
 exact h.le (Nat.le_of_dvd ∅ h2)
theorem Je(h:cD ds U Qd):wa ‹Qd› (aG ["a","b","c","divisor"] ds) U:=by
 obtain⟨a,b,c,rfl,hc,hz,q⟩:=h
 unfold wa
 walk_at "rd"
 rw[decide_eq_false hc]
 simp only[xor_false,false_eq_true,↓reduceIte]
 refine⟨a,b,c,rfl,?_⟩
 walk_at "rd"
 have hp:=Di (a:=a) (b:=b) hc
 have hg:=gdv (a:=a) (b:=b) hz hc
 unfold low NM.dv dN at q
 simp only at q
 by_cases hn:c<0
 ·rw[if_pos (by simpa using hn)]
  rw[if_pos hn] at q
  have o:(-((g3 a b c:Nat):Int))≠0:=by omega
  exact⟨o,o,o,q⟩
 ·rw[if_neg (by simpa using hn)]
  rw[if_neg hn] at q
  have o:((g3 a b c:Nat):Int)≠0:=by omega
  exact⟨o,o,o,q⟩
theorem Gh(h:cD ds U Qd):qa ‹Qd› (aG ["_law_a","_law_b","_law_c","_law_common"] ds) U:=by
 obtain⟨a,b,c,rfl,hc,hz,q⟩:=h
 unfold qa
 walk_at "rd"
 refine⟨a,b,rfl,_,c,rfl,?_⟩
 walk_at "rd"
 have hp:=Di (a:=a) (b:=b) hc
 have hg:=gdv (a:=a) (b:=b) hz hc
 unfold low NM.dv dN at q
 simp only at q
 by_cases hn:c<0
 ·simp only[hn,decide_true,↓reduceIte,qS]
  rw[if_pos hn] at q
  have e:((Int.gcd (Int.gcd a b:Nat) c:Nat):Int) * -1 = -((g3 a b c:Nat):Int):=by unfold g3;omega
  walk_at "rd"
  rw[e]
  have o:(-((g3 a b c:Nat):Int))≠0:=by omega
  exact⟨mulR ⋯,o,o,o,q⟩
 ·simp only[hn,decide_false,false_eq_true,↓reduceIte,pE]
  rw[if_neg hn] at q
  have e:((Int.gcd (Int.gcd a b:Nat) c:Nat):Int)*1=((g3 a b c:Nat):Int):=by unfold g3;omega
  walk_at "rd"
  rw[e]
  have o:((g3 a b c:Nat):Int)≠0:=by omega
  exact⟨mulR ⋯,o,o,o,q⟩
theorem AS(h:qJ ds U Qd):lC ‹Qd› (aG ["_law_x"] ds) U:=by
 obtain⟨x,rfl,q⟩:=h
 unfold lC
 walk_at "rd"
 simp only[Int.zero_sub]
 exact q
theorem Hx(h:cP ds U Qd):CJ ‹Qd› (aG ["x","y"] ds) U:=by
 obtain⟨x,y,rfl,ox,oy,bx,by',q⟩:=h
 unfold CJ
 walk_at "rd"
 have m:∀{i j:Int},Sz 21500000 i->Sz 21500000 j->IntMulOk i j:=fun h g=>fO h g ⋯
 exact⟨m bx.a by'.c,m by'.a bx.c,m bx.b by'.c,m by'.b bx.c,m bx.c by'.c,_,_,_,rfl,rG ox oy,(bx.c.mul by'.c).mono ⋯,q⟩
theorem Ee(h:cP ds U Qd):u4 ‹Qd› (aG ["_law_x","_law_y"] ds) U:=Hx h
theorem Mh(h:rD ds U Qd):D1 ‹Qd› (aG ["x","y"] ds) U:=by
 obtain⟨x,y,rfl,ox,oy,bx,by',q⟩:=h
 unfold D1
 walk_at "rd"
 have m:∀{i j:Int},Sz 21500000 i->Sz 21500000 j->IntMulOk i j:=fun h g=>fO h g ⋯
 exact⟨m bx.a by'.c,m by'.a bx.c,m bx.b by'.c,m by'.b bx.c,m bx.c by'.c,_,_,_,rfl,rG ox oy,(bx.c.mul by'.c).mono ⋯,q⟩
theorem FE(h:dw ds U Qd):yo ‹Qd› (aG ["d","x","y"] ds) U:=by
 obtain⟨d,x,y,rfl,hd,ox,oy,bx,by',q⟩:=h
 unfold yo
 walk_at "rd"
 have m:∀{i j:Int},Sz 21500000 i->Sz 21500000 j->IntMulOk i j:=fun h g=>fO h g ⋯
 exact⟨m bx.a by'.a,fO hd bx.b ⋯,fO (hd.mul bx.b) by'.b ⋯,m bx.a by'.b,m bx.b by'.a,m bx.c by'.c,_,_,_,rfl,rG ox oy,(bx.c.mul by'.c).mono ⋯,q⟩
theorem Bj(h:dw ds U Qd):rj ‹Qd› (aG ["_law_d","_law_x","_law_y"] ds) U:=FE h
theorem Fh(h:cj ds U Qd):qj ‹Qd› (aG ["d","x","norm"] ds) U:=by
 obtain⟨d,x,rfl,hd,hn,bx,q⟩:=h
 unfold qj
 walk_at "rd"
 have m:∀{i j:Int},Sz 21500000 i->Sz 21500000 j->IntMulOk i j:=fun h g=>fO h g ⋯
 exact⟨m bx.a bx.a,fO hd bx.b ⋯,fO (hd.mul bx.b) bx.b ⋯,m bx.c bx.a,m bx.c.neg bx.b,_,_,_,rfl,hn,(DH hd bx).mono ⋯,q⟩
theorem wq(h:cj ds U Qd):hZ ‹Qd› (aG ["_law_d","_law_x"] ds) U:=by
 obtain⟨d,x,rfl,hd,hn,bx,q⟩:=h
 unfold hZ
 walk_at "rd"
 have m:∀{i j:Int},Sz 21500000 i->Sz 21500000 j->IntMulOk i j:=fun h g=>fO h g ⋯
 refine⟨m bx.a bx.c,m bx.b bx.c,m bx.a bx.a,fO hd bx.b ⋯,fO (hd.mul bx.b) bx.b ⋯,_,_,_,rfl,hn,(DH hd bx).mono ⋯,?_⟩
 have e1:x.a*x.c=x.c*x.a:=Int.mul_comm ..
 have e2:0-x.b*x.c = -x.c*x.b:=by grind
 rw[e1,e2]
 exact q
theorem RF(a b c a' b' c':Int):PyData.eqv (.tuple [.int a,.int b,.int c]) (.tuple [.int a',.int b',.int c'])=decide (a=a'/\b=b'/\c=c'):=by
 simp[PyData.eqv,PyData.eqvAll]
 rfl
theorem Ms(h:nL ds U Qd):C0 ‹Qd› (aG ["d","x","y"] ds) U:=by
 obtain⟨d,x,y,rfl,hd,ox,oy,hy,bx,by',q⟩:=h
 unfold C0
 walk_at "rd"
 refine⟨rfl,rfl,?_⟩
 have hn:¬ (y.a=0/\y.b=0/\y.c=1):=fun z=>hy (N3.ext' z.1 z.2.1 z.2.2)
 rw[RF,decide_eq_false hn]
 simp only[xor_false,false_eq_true,↓reduceIte]
 have s5:=l5 hd.1 hd.2.1
 have nz:=hd.norm oy hy
 exact⟨d,y,rfl,s5,nz,by'.mono ⋯,d,x,_,rfl,s5,ox,dR nz,bx.mono ⋯,(oZ s5 nz by').mono ⋯,q⟩
end
noncomputable def il:DTS:=
 (aC (bQ (lH (dB (dOp (bV false) (ae 1) (dC (.int 0)))) (dB (dOp (bV false) (ae 2) (dC (.int 0))))) (aT (dC (.int 0))) aW)
 (aC (bQ (lH (dB (dOp rGe (ae 1) (dC (.int 0)))) (dB (dOp rGe (ae 2) (dC (.int 0))))) (aT (dC (.int 1))) aW)
 (aC (bQ (lH (dB (dOp rLe (ae 1) (dC (.int 0)))) (dB (dOp rLe (ae 2) (dC (.int 0))))) (aT (D8 (dC (.int 1)))) aW)
 (aC (aR (dIf (dB (dOp rGt (cx (ae 1) (ae 1)) (cx (cx (ae 0) (ae 2)) (ae 2)))) (ae 1) (ae 2)) (ak 3))
 (aT (dIf (dB (dOp rGt (ae 3) (dC (.int 0)))) (dC (.int 1)) (D8 (dC (.int 1)))))))))
noncomputable def sZ:DTS:=
 (aT (aq ur (ab (ae 0) (ab (dOp ax (ae 1) (dC (.int 0))) (ab (dOp ax (ae 1) (dC (.int 1))) ao)))))
noncomputable def o6:DTS:=
 (aC (aR (nI (cx (dOp ax (ae 1) (dC (.int 0))) (dOp ax (ae 2) (dC (.int 2)))) (cx (dOp ax (ae 2) (dC (.int 0))) (dOp ax (ae 1) (dC (.int 2))))) (ak 3))
 (aC (aR (nI (cx (dOp ax (ae 1) (dC (.int 1))) (dOp ax (ae 2) (dC (.int 2)))) (cx (dOp ax (ae 2) (dC (.int 1))) (dOp ax (ae 1) (dC (.int 2))))) (ak 4))
 (aT (dOp (bV false) (aq ur (ab (ae 0) (ab (ae 3) (ab (ae 4) ao)))) (dC (.int 1))))))
noncomputable def nM:DTS:=
 (aC (vf 2 3 (ab (cx (dOp ax (ae 1) (dC (.int 0))) (dOp ax (ae 1) (dC (.int 0)))) (ab (cx (cx (ae 0) (dOp ax (ae 1) (dC (.int 1)))) (dOp ax (ae 1) (dC (.int 1)))) ao)))
 (aC (aR (g8 (ab (nI (dCB rA (ab (dOp rGt (dOp ax (ae 1) (dC (.int 0))) (dC (.int 0))) ao)) (dCB rA (ab (dOp rLt (dOp ax (ae 1) (dC (.int 0))) (dC (.int 0))) ao))) (ab (nI (dCB rA (ab (dOp rGt (dOp ax (ae 1) (dC (.int 1))) (dC (.int 0))) ao)) (dCB rA (ab (dOp rLt (dOp ax (ae 1) (dC (.int 1))) (dC (.int 0))) ao))) ao))) (ak 4))
 (aC (bQ (dB (dOp rGe (cx (dOp ax (ae 4) (dC (.int 0))) (dOp ax (ae 4) (dC (.int 1)))) (dC (.int 0)))) (aT (dIf (dB (dOp (bV true) (dOp ax (ae 4) (dC (.int 0))) (dC (.int 0)))) (dOp ax (ae 4) (dC (.int 0))) (dOp ax (ae 4) (dC (.int 1))))) aW)
 (aT (dIf (dB (dOp rGt (ae 2) (ae 3))) (dOp ax (ae 4) (dC (.int 0))) (dOp ax (ae 4) (dC (.int 1))))))))
noncomputable def lp:DTS:=
 (aT (dOp rGt (aq hW (ab (ae 0) (ab (aq cP (ab (ae 2) (ab (aq qJ (ab (ae 1) ao)) ao))) ao))) (dC (.int 0))))
section
variable {U:Mu}{Qd:DK}{ds:List D}
theorem wx(h:ur ds U Qd):il ‹Qd› (aG ["d","a","b","prevailing"] ds) U:=by
 obtain⟨d,a,b,rfl,hd,ha,hb,q⟩:=h
 unfold il
 walk_at "rd"
 have m1:MulOk a a:=fO ha ha ⋯
 have m2:MulOk d b:=fO hd hb ⋯
 have m3:MulOk (d*b) b:=fO (hd.mul hb) hb ⋯
 unfold sg at q
 by_cases h1:a=0
 ·by_cases h2:b=0
  ·subst h1 h2;simpa using q
  ·subst h1
   rcases lt_or_gt_of_ne h2 with h3|h3
   ·have e:¬ (0<=b):=by omega
    have e':b<=0:=by omega
    simp only[h2,e,e',and_false,true_and,if_true,if_false,decide_true,decide_false,Int.le_refl,↓reduceIte,false_eq_true] at q ⊢
    exact q
   ·have e:(0<=b):=by omega
    simp only[h2,e,and_false,true_and,if_true,if_false,decide_true,decide_false,Int.le_refl,↓reduceIte,false_eq_true] at q ⊢
    exact q
 ·by_cases h3:0<=a<;>by_cases h4:0<=b<;>by_cases h5:a<=0<;>by_cases h6:b<=0<;>by_cases h7:d*b*b<a*a<;>(try (exfalso;omega))<;>
   simp only[h1,h3,h4,h5,h6,h7,and_false,false_and,and_true,true_and,if_true,if_false,decide_true,decide_false,↓reduceIte,false_eq_true,and_self,m1,m2,m3,gt_iff_lt] at q ⊢<;>(try exact q)
  all_goals
   first
   |(by_cases h8:0<a<;>simp only[h8,if_true,if_false,decide_true,decide_false,↓reduceIte,false_eq_true] at q ⊢<;>exact q)
   |(by_cases h8:0<b<;>simp only[h8,if_true,if_false,decide_true,decide_false,↓reduceIte,false_eq_true] at q ⊢<;>exact q)
theorem GN(h:hW ds U Qd):sZ ‹Qd› (aG ["d","x"] ds) U:=by
 obtain⟨d,x,rfl,hd,bx,q⟩:=h
 unfold sZ
 walk_at "rd"
 exact⟨d,x.a,x.b,rfl,l5 hd.1 hd.2.1,bx.a.mono ⋯,bx.b.mono ⋯,q⟩
theorem Fs(h:nB ds U Qd):o6 ‹Qd› (aG ["d","x","y","a","b"] ds) U:=by
 obtain⟨d,x,y,rfl,hd,bx,by',q⟩:=h
 unfold o6
 walk_at "rd"
 have m:∀{i j:Int},Sz 22000000 i->Sz 22000000 j->IntMulOk i j:=fun h g=>fO h g ⋯
 refine⟨m bx.a by'.c,m by'.a bx.c,m bx.b by'.c,m by'.b bx.c,d,_,_,rfl,l5 hd.1 hd.2.1,((bx.a.mul by'.c).sub (by'.a.mul bx.c)).mono ⋯,((bx.b.mul by'.c).sub (by'.b.mul bx.c)).mono ⋯,?_⟩
 walk_at "rd"
 exact q
theorem Oj{d a b sa sb:Int}(ha:(a<0/\sa = -1)\/(a=0/\sa=0)\/(0<a/\sa=1))(hb:(b<0/\sb = -1)\/(b=0/\sb=0)\/(0<b/\sb=1)) :
  sg d a b=if 0<=sa*sb then (if sa≠0 then sa else sb) else if d*b*b<a*a then sa else sb:=by
 unfold sg
 by_cases h7:d*b*b<a*a<;>rcases ha with ⟨h1,rfl⟩|⟨h1,rfl⟩|⟨h1,rfl⟩<;>rcases hb with ⟨h2,rfl⟩|⟨h2,rfl⟩|⟨h2,rfl⟩<;>simp only[h7,↓reduceIte]<;>(repeat' split)<;>omega
theorem Cv(h:hW ds U Qd):nM ‹Qd› (aG ["_law_d","_law_x","_law_first","_law_second","_law_sides"] ds) U:=by
 obtain⟨d,x,rfl,hd,bx,q⟩:=h
 unfold nM
 walk_at "rd"
 have s5:=l5 hd.1 hd.2.1
 refine⟨fO bx.a bx.a ⋯,fO s5 bx.b ⋯,fO (s5.mul bx.b) bx.b ⋯,?_⟩
 have sd:∀u:Int,(u<0/\((if decide (0<u)=true then 1 else 0)-if decide (u<0)=true then 1 else 0:Int) = -1)\/(u=0/\((if decide (0<u)=true then 1 else 0)-if decide (u<0)=true then 1 else 0:Int)=0)\/(0<u/\((if decide (0<u)=true then 1 else 0)-if decide (u<0)=true then 1 else 0:Int)=1):=fun u=>by
  simp only[decide_eq_true_eq]
  split<;>split<;>omega
 have ha:=sd x.a
 have hb:=sd x.b
 generalize ((if decide (0<x.a)=true then 1 else 0)-if decide (x.a<0)=true then 1 else 0:Int)=sa at ha ⊢
 generalize ((if decide (0<x.b)=true then 1 else 0)-if decide (x.b<0)=true then 1 else 0:Int)=sb at hb ⊢
 rw[Oj ha hb] at q
 refine⟨mulL ∅,?_⟩
 by_cases c1:0<=sa*sb<;>by_cases c2:sa=0<;>by_cases c3:d*x.b*x.b<x.a*x.a<;>simp only[c1,c2,c3,decide_true,decide_false,↓reduceIte,false_eq_true,xor_false,xor_true,Bool.not_true,ne_eq,not_true_eq_false,not_false_eq_true,Int.zero_mul,Int.le_refl] at q ⊢<;>exact q
theorem AX(h:gT ds U Qd):lp ‹Qd› (aG ["_law_d","_law_x","_law_y"] ds) U:=by
 obtain⟨d,x,y,rfl,hd,ox,oy,bx,by',q⟩:=h
 unfold lp
 walk_at "rd"
 refine⟨x,rfl,y,minus x,rfl,oy,eI ox,by'.mono ⋯,(uv bx).mono ⋯,d,plus y (minus x),rfl,hd,(IS oy (eI ox) by' (uv bx)).mono ⋯,?_⟩
 walk_at "rd"
 have e:sg d (plus y (minus x)).a (plus y (minus x)).b=dif d y x:=by
  obtain⟨k,hk,hs,p1,p2,p3,_⟩:=iX (y.a*(minus x).c+(minus x).a*y.c) (y.b*(minus x).c+(minus x).b*y.c) (rG oy (eI ox))
  have hk0:0<k:=hs.mpr (mul_pos oy.c (eI ox).c)
  unfold dif
  have e1:y.a*x.c-x.a*y.c=k*(plus y (minus x)).a:=by rw[show k*(plus y (minus x)).a=_ from p1.symm];show _=y.a*x.c + -x.a*y.c;grind
  have e2:y.b*x.c-x.b*y.c=k*(plus y (minus x)).b:=by rw[show k*(plus y (minus x)).b=_ from p2.symm];show _=y.b*x.c + -x.b*y.c;grind
  rw[e1,e2,l6 hd hk0]
 rw[e]
 have t:=mV d (y.a*x.c-x.a*y.c) (y.b*x.c-x.b*y.c)
 have f:decide (0<dif d y x)=decide (dif d y x=1):=by unfold dif;rcases t with z|z|z<;>rw[z]<;>decide
 rw[f]
 exact q
end
noncomputable def pS:DTS:=
 (aC (aR (dC (.int 0)) (ak 2))
 (aC (bQ (dB (dOp rLt (ae 1) (dCB cL (ab (ae 0) ao)))) (aR (dOp ax (ae 0) (ae 1)) (ak 2)) aW)
 (aC (aR (dC (.int 0)) (ak 3))
 (aC (bQ (dB (dOp rGe (dCB uh (ab (ae 2) ao)) (Gp (dC (.int 10)) (dC (.int 18))))) (aR (dCB uh (ab (ae 2) ao)) (ak 3)) aW)
 (aC (aR (g8 (ab (dC (.int 2147483647)) (ab (dC (.int 2147483629)) (ab (dC (.int 2147483587)) (ab (dC (.int 2147483579)) (ab (dC (.int 2147483563)) (ab (dC (.int 2147483549)) (ab (dC (.int 2147483543)) (ab (dC (.int 2147483497)) ao))))))))) (ak 4))
 (aC (aR (fi (fi (fi (cx (pG (ae 2) (dC (.int 2147483647))) (dC (.int 69623))) (cx (cx (dC (.int 104729)) (ae 1)) (ae 1))) (cx (dC (.int 7919)) (ae 1))) (dC (.int 12345))) (ak 5))
 (aT (zk (ab (ae 3) (ab (pG (ae 5) (dOp ax (ae 4) (pG (ae 1) (dC (.int 8))))) ao))))))))))
noncomputable def nU:DTS:=
 (aC (bQ (dB (dOp rGt (dOp ax (ae 0) (dC (.int 0))) (dC (.int 0)))) (aC (aR (pG (dOp ax (ae 0) (dC (.int 0))) (ae 1)) (ak 2))
 (aC (aR (jX (dOp ax (ae 0) (dC (.int 0))) (ae 1)) (HP (ae 0) (dC (.int 0))))
 (aT (ae 2)))) aW)
 (aC (aR (pG (fi (cx (dOp ax (ae 0) (dC (.int 1))) (dC (.int 48271))) (dC (.int 2531011))) (dC (.int 2147483647))) (HP (ae 0) (dC (.int 1))))
 (aT (pG (jX (pG (Gp (dOp ax (ae 0) (dC (.int 1))) (dC (.int 3))) (dC (.int 2147483629))) (dC (.int 64))) (ae 1)))))
section
variable {U:Mu}{Qd:DK}{ds:List D}
theorem D3{α:Type}{xs:List α}{i:Int}(h0:0<=i)(h:i<(xs.length:Nat)):∃d,atI xs i=some d/\d∈xs:=by
 have hj:i.toNat<xs.length:=by omega
 have e:=jv (xs:=xs) (j:=i.toNat) (v:=xs[i.toNat]) (by simp[hj])
 rw[show ((i.toNat:Nat):Int)=i by omega] at e
 exact⟨_,e,getElem_mem _⟩
theorem mM(x:Int){y:Int}(h:0<y):0<=x.fmod y/\x.fmod y<y:=⟨Int.fmod_nonneg_of_pos x h,Int.fmod_lt_of_pos x h⟩
theorem Mw{x y:Int}(hx:0<=x)(hy:0<y):0<=x.fdiv y:=by rw[Int.fdiv_eq_ediv_of_nonneg _ ∅];exact Int.ediv_nonneg hx ∅
noncomputable def qv:List PyData:=[.int 2147483647,.int 2147483629,.int 2147483587,.int 2147483579,.int 2147483563,.int 2147483549,.int 2147483543,.int 2147483497]
theorem F0(h:HV ds U Qd):pS ‹Qd› (aG ["_law_script","_law_at","_law_cell","_law_great","_law_primes","_law_mixed"] ds) U:=by
 obtain⟨ns,k,rfl,h0,h1,q⟩:=h
 unfold pS
 have hp:∃pr:Int,atI qv (k.fmod 8)=some (.int pr)/\0<pr/\pr<2147483648:=by
  obtain⟨h2,h3⟩:=mM k (show (0:Int)<8 by decide)
  obtain⟨p,e,hm⟩:=D3 (xs:=qv) h2 (by exact h3)
  simp only[qv,mem_cons,not_mem_nil,or_false] at hm
  rcases hm with rfl|rfl|rfl|rfl|rfl|rfl|rfl|rfl<;>exact⟨_,e,⋯,⋯⟩
 obtain⟨pr,hpe,hp0,hp1⟩:=hp
 unfold qv at hpe
 walk_at "rd"
 rw[hpe]
 walk_at "rd"
 have c1:PX 10 18:=⟨⋯,⋯,⋯⟩
 have z1:(2147483647:Int)≠0:=by decide
 have z2:(8:Int)≠0:=by decide
 have m1:∀i:Int,MulOk i 69623:=fun i=>mulR ⋯
 have m2:MulOk 104729 k:=mulL ⋯
 have m3:MulOk (104729*k) k:=mulR ∅
 have m4:MulOk 7919 k:=mulL ⋯
 have z3:pr≠0:=by omega
 have fin:∀G x:Int,0<=G->∀p,U p=none->Qd (.m p) (bD U p [.int G,.int (x.fmod pr)]):=fun G x hG p hp=>by
  obtain⟨h2,h3⟩:=mM x hp0
  exact q p _ hp (Step.set hG h2 ∅)
 by_cases hk:k<(ns.length:Nat)
 ·rw[if_pos (by simpa using hk)]
  obtain⟨c,hc,_⟩:=D3 h0 hk
  rw[hc]
  walk_at "rd"
  refine⟨c1,?_⟩
  split
  ·exact⟨z1,m1 _,m2,m3,m4,z2,z3,fin _ _ ∅⟩
  ·exact⟨z1,m1 _,m2,m3,m4,z2,z3,fin _ _ ∅⟩
 ·rw[if_neg (by simpa using hk)]
  refine⟨c1,?_⟩
  split
  ·exact⟨z1,m1 _,m2,m3,m4,z2,z3,fin _ _ ∅⟩
  ·exact⟨z1,m1 _,m2,m3,m4,z2,z3,fin _ _ ∅⟩
theorem Dg(h:b4 ds U Qd):nU ‹Qd› (aG ["_law_bag_here","_law_many","_law_digit"] ds) U:=by
 obtain⟨a,n,rfl,h0,h1,⟨g,m,hb,hg,hm,hm'⟩,q⟩:=h
 unfold nU
 walk_at "rd"
 rw[hb]
 walk_at "rd"
 rw[hb]
 walk_at "rd"
 have n0:n≠0:=by omega
 have i0:ixN 2 0=some 0:=by rfl
 have i1:ixN 2 1=some 1:=by rfl
 by_cases hg0:0<g
 ·rw[if_pos (by simpa using hg0)]
  simp only[hb]
  walk_at "rd"
  obtain⟨r0,r1⟩:=mM g (show 0<n by omega)
  refine⟨n0,?_⟩
  simp only[hb]
  walk_at "rd"
  refine⟨n0,?_⟩
  simp only[hb,length_cons,length_nil,Nat.reduceAdd,i0,set_cons_zero]
  exact q _ _ r0 r1 (Step.set (Mw hg ∅) hm hm')
 ·rw[if_neg (by simpa using hg0)]
  simp only[hb,i1,bg]
  walk_at "rd"
  obtain⟨s0,s1⟩:=mM (m*48271+2531011) (show (0:Int)<2147483647 by decide)
  generalize (m*48271+2531011).fmod 2147483647=w at s0 s1 ⊢
  obtain⟨r0,r1⟩:=mM ((((w ^ Int.toNat 3).fmod 2147483629).fdiv 64)) (show 0<n by omega)
  refine⟨mulL ∅,⋯,?_⟩
  refine⟨⟨⋯,⋯,∅⟩,(by show (2147483629:Int)≠0;decide),(by simp),n0,?_⟩
  exact q _ _ r0 r1 (Step.set hg s0 ∅)
end
noncomputable def kZ:DTS:=
 (aC (aR (NW (dC (.int 1)) (jX (fi (J2 (ae 0)) (dC (.int 1))) (dC (.int 2)))) (ak 1))
 (aC (tE (dB (dOp rGt (cx (ae 1) (ae 1)) (ae 0))) (aR (jX (fi (ae 1) (jX (ae 0) (ae 1))) (dC (.int 2))) (ak 1)))
 (aT (ae 1))))
section
variable {U:Mu}{Qd:DK}{ds:List D}
theorem ML(k:Int):k.natAbs<2 ^ (Builtin.Int.intBits k):=by
 unfold Builtin.Int.intBits
 split
 ·rename_i h;simp at h;subst h;decide
 ·exact Nat.lt_log2_self
theorem bits_le{n:Nat}{z:Int}(hz:Sz n z):Builtin.Int.intBits z<=n:=by
 unfold Builtin.Int.intBits
 split
 ·exact zero_le _
 ·rename_i q
  have hz':z.natAbs≠0:=by simp at q;omega
  have:=(Nat.log2_lt hz').mpr hz.lt
  omega
noncomputable def x6:DSp:=fun ds U Q=>∃k:Int,ds=[.v (.int k)]/\0<=k/\Sz 90000000 k/\∀r:Int,0<=r->r*r<=k->k<(r+1)*(r+1)->Q (.v (.int r)) U
theorem Pe{k g:Int}(hk:0<=k)(hg:0<g)(h1:k<g*g):0<=(g+k.fdiv g).fdiv 2/\(g+k.fdiv g).fdiv 2<g/\k<((g+k.fdiv g).fdiv 2+1)*((g+k.fdiv g).fdiv 2+1):=by
 rw[Int.fdiv_eq_ediv_of_nonneg _ (by omega:(0:Int)<=2),Int.fdiv_eq_ediv_of_nonneg _ (by omega:0<=g)]
 have e1:=Int.emod_add_mul_ediv k g
 have e2:=Int.emod_nonneg k (by omega:g≠0)
 have e3:=Int.emod_lt_of_pos k hg
 have e4:=Int.ediv_nonneg hk (by omega:0<=g)
 generalize k % g=r at *
 generalize k / g=q at *
 have lt:q<g:=by
  rcases Int.lt_or_le q g with z|z
  ·exact z
  ·have:=Int.mul_le_mul_of_nonneg_left z (by omega:0<=g)
   omega
 have f1:0<=(g+q) / 2:=by omega
 have f2:(g+q) / 2<g:=by omega
 refine⟨f1,f2,?_⟩
 have f3:g+q+1<=2*((g+q) / 2+1):=by omega
 generalize (g+q) / 2+1=t at f3 ⊢
 have f4:=Int.mul_le_mul f3 f3 ∅ ∅
 have f5:=sq_nonneg (g-(q+1))
 have f6:k<g*(q+1):=by grind
 grind
theorem RZ:Builtin.Int.intBits 1=1:=by decide
@[irreducible] def wrB:Nat:=45000001
theorem Kc:wrB=45000001:=by unfold wrB;rfl
theorem A3(h:x6 ds U Qd):kZ ‹Qd› (aG ["k","guess"] ds) U:=by
 obtain⟨k,rfl,h0,hz,q⟩:=h
 unfold kZ
 walk_at "rd"
 have b1:=ML k
 have b2:=bits_le hz
 generalize Builtin.Int.intBits k=n at b1 b2 ⊢
 have ef:((n:Nat)+1:Int).fdiv 2=(((n+1) / 2:Nat):Int):=by
  rw[Int.fdiv_eq_ediv_of_nonneg _ ∅];omega
 rw[ef]
 refine⟨by simp,⟨∅,by rw[RZ];omega⟩,?_⟩
 have es:((1:Int)*2 ^ ((((n+1) / 2:Nat):Int)).toNat)=((2 ^ ((n+1) / 2):Nat):Int):=by rw[Int.toNat_natCast,Int.one_mul,Int.natCast_pow];rfl
 rw[es]
 have hp:(2 ^ n:Nat)<=2 ^ ((n+1) / 2)*2 ^ ((n+1) / 2):=by rw[<- Nat.pow_add];exact Nat.pow_le_pow_right ⋯ ∅
 have hup:(2 ^ ((n+1) / 2):Nat)<2 ^ wrB:=Nat.pow_lt_pow_right ⋯ (by have:=Kc;omega)
 generalize (2 ^ ((n+1) / 2):Nat)=G at hp hup ⊢
 have st:k<((G:Int)+1)*((G:Int)+1):=by
  have:(k.natAbs:Int)<((G*G:Nat):Int):=by exact_mod_cast lt_of_lt_of_le b1 hp
  rw[Int.natCast_mul] at this
  grind
 refine⟨fun m ρ O=>∃g:Int,ρ=[some (.v (.int k)),some (.v (.int g))]/\m=g.toNat/\0<=g/\Sz wrB g/\k<(g+1)*(g+1)/\O=U,⟨_,_,rfl,rfl,∅,Sz.of (by simpa using hup),st,rfl⟩,?_⟩
 rintro m ρ O ⟨g,rfl,rfl,g0,gz,gk,rfl⟩
 walk_at "rd"
 refine⟨fO gz gz (by have:=Kc;omega),?_⟩
 by_cases hc:k<g*g
 ·rw[if_pos (by simpa using hc)]
  have gp:0<g:=by
   rcases Int.lt_or_le 0 g with z|z
   ·exact z
   ·have:g=0:=by omega
    subst this;omega
  obtain⟨t1,t2,t3⟩:=Pe h0 gp hc
  refine⟨∅,by simp,_,?_,_,rfl,rfl,t1,gz.le ∅,t3,trivial⟩
  omega
 ·rw[if_neg (by simpa using hc)]
  exact q g g0 ∅ gk
end
noncomputable def nR:DTS:=
 (aC (bQ (fM (dn (dB (wb "tuple" (ae 0)))) (dB (dOp (bV true) (dCB cL (ab (ae 0) ao)) (dC (.int 3))))) (aT (dC (.bool false))) aW)
 (aC (aR (ae 0) (gO 3 (bh (ak 1) (bh (ak 2) (bh (ak 3) hR)))))
 (aC (bQ (fM (dn (dB (aq eZ (ab (ae 1) ao)))) (fM (dn (dB (aq eZ (ab (ae 2) ao)))) (dn (dB (aq eZ (ab (ae 3) ao)))))) (aT (dC (.bool false))) aW)
 (aT (fh (dOp rGe (ae 3) (dC (.int 1))) (dOp (bV false) (aq zo (ab (ae 1) (ab (ae 2) (ab (ae 3) ao)))) (dC (.int 1))))))))
section
variable {U:Mu}{Qd:DK}{ds:List D}
noncomputable def HW(i:Int):Bool:=decide (2<=i)&&decide (i<=30)&&!(decide (i=4) || decide (i=9) || decide (i=16) || decide (i=25))
theorem eM(d:PyData):(∃i,d = .int i/\isWhole d=true)\/((∀i,d≠.int i)/\isWhole d=false):=by
 cases d<;>first|exact .inl ⟨_,rfl,rfl⟩|exact .inr ⟨fun _ z=>(by cases z),rfl⟩
theorem qE(d:PyData):(∃xs,d = .tuple xs/\isT "tuple" d=true)\/((∀xs,d≠.tuple xs)/\isT "tuple" d=false):=by
 cases d<;>first|exact .inl ⟨_,rfl,rfl⟩|exact .inr ⟨fun _ z=>(by cases z),rfl⟩
theorem Cc{d:PyData}(h:∀xs,d≠.tuple xs):isNum d=false:=by cases d<;>first|rfl|exact absurd rfl (h _)
theorem B8{xs:List PyData}(h:xs.length≠3):isNum (.tuple xs)=false:=by
 unfold isNum
 split
 ·rename_i e;cases e;exact absurd rfl h
 ·rfl
theorem three{α:Type}{xs:List α}(h:xs.length=3):∃a b c,xs=[a,b,c]:=by
 match xs,h with
 |[a,b,c],_=>exact⟨a,b,c,rfl⟩
theorem D9(h:nH ds U Qd):nR ‹Qd› (aG ["thing","a","b","c"] ds) U:=by
 obtain⟨d,rfl,_,q⟩:=h
 unfold nR
 walk_at "rd"
 rcases qE d with ⟨xs,rfl,e⟩|⟨hn,e⟩
 ·rw[e]
  walk_at "rd"
  by_cases hl:xs.length=3
  ·obtain⟨a,b,c,rfl⟩:=three hl
   have e3:decide ((([a,b,c].length:Nat):Int)=3)=true:=rfl
   have e3':[a,b,c].length=3:=rfl
   simp only[e3,Bool.xor_self,false_eq_true,↓reduceIte]
   refine⟨rfl,?_⟩
   walk_at "rd"
   refine⟨a,rfl,?_⟩
   rcases eM a with ⟨i,rfl,e⟩|⟨hn,e⟩
   ·rw[e]
    walk_at "rd"
    refine⟨b,rfl,?_⟩
    rcases eM b with ⟨j,rfl,e⟩|⟨hn,e⟩
    ·rw[e]
     walk_at "rd"
     refine⟨c,rfl,?_⟩
     rcases eM c with ⟨k,rfl,e⟩|⟨hn,e⟩
     ·rw[e]
      walk_at "rd"
      have q':Qd (.v (.bool (decide (1<=k)&&(g3 i j k==1)))) U:=q
      by_cases hk:1<=k
      ·rw[if_pos (by simpa using hk)]
       refine⟨i,j,k,rfl,?_⟩
       walk_at "rd"
       have ee:decide (((g3 i j k:Nat):Int)=1)=(decide (1<=k)&&(g3 i j k==1)):=by
        rw[decide_eq_true hk,Bool.true_and,Bool.eq_iff_iff];simp;omega
       rw[ee]
       exact q'
      ·rw[if_neg (by simpa using hk)]
       rw[decide_eq_false hk] at q'
       exact q'
     ·rw[e]
      walk_at "rd"
      have:isNum (.tuple [.int i,.int j,c])=false:=by cases c<;>first|rfl|exact absurd rfl (hn _)
      rw[this] at q
      exact q
    ·rw[e]
     walk_at "rd"
     have:isNum (.tuple [.int i,b,c])=false:=by cases b<;>first|rfl|exact absurd rfl (hn _)
     rw[this] at q
     exact q
   ·rw[e]
    walk_at "rd"
    have:isNum (.tuple [a,b,c])=false:=by cases a<;>first|rfl|exact absurd rfl (hn _)
    rw[this] at q
    exact q
  ·rw[B8 hl] at q
   have:decide (((xs.length:Nat):Int)=3)=false:=by simp;omega
   rw[this]
   simp only[xor_false,↓reduceIte]
   exact q
 ·rw[e]
  rw[Cc hn] at q
  walk_at "rd"
  exact q
end
noncomputable def gX:DTS:=
 (aC (bQ (fM (dn (dB (wb "tuple" (ae 0)))) (fM (dB (dOp (bV true) (dCB cL (ab (ae 0) ao)) (dC (.int 3)))) (dn (dB (dCB xg (ab (rg [none] (uu (ae 0)) (ak 0) eU (aq eZ (ab (ae 0) ao))) ao)))))) (aT (dC (.bool false))) aW)
 (aT (fh (dOp rGt (dOp ax (ae 0) (dC (.int 2))) (dC (.int 0))) (dOp (bV false) (aq oV (ab (aq oV (ab (dOp ax (ae 0) (dC (.int 0))) (ab (dOp ax (ae 0) (dC (.int 1))) ao))) (ab (dOp ax (ae 0) (dC (.int 2))) ao))) (dC (.int 1))))))
noncomputable def jJ:DTS:=
 (aC (aR (dOp ax (g8 (ab (dC (.int 4)) (ab (dC (.int 10)) (ab (dC (.int 100)) (ab (dC (.int 1000000)) ao))))) (aq b4 (ab (ae 0) (ab (dC (.int 4)) ao)))) (ak 1))
 (aC (vf 2 3 (ab (nI (aq b4 (ab (ae 0) (ab (ae 1) ao))) (jX (ae 1) (dC (.int 2)))) (ab (nI (aq b4 (ab (ae 0) (ab (ae 1) ao))) (jX (ae 1) (dC (.int 2)))) ao)))
 (aC (aR (fi (dC (.int 1)) (aq b4 (ab (ae 0) (ab (nI (ae 1) (dC (.int 1))) ao)))) (ak 4))
 (aC (aR (aq b4 (ab (ae 0) (ab (dC (.int 8)) ao))) (ak 5))
 (aT (aq cD (ab (dOp ax (g8 (ab (ae 2) (ab (ae 2) (ab (ae 2) (ab (ae 2) (ab (ae 2) (ab (ae 2) (ab (ae 2) (ab (dC (.int 0)) ao))))))))) (ae 5)) (ab (dOp ax (g8 (ab (ae 3) (ab (ae 3) (ab (ae 3) (ab (ae 3) (ab (ae 3) (ab (dC (.int 0)) (ab (dC (.int 0)) (ab (ae 3) ao))))))))) (ae 5)) (ab (dOp ax (g8 (ab (ae 4) (ab (ae 4) (ab (dC (.int 1)) (ab (ae 4) (ab (dC (.int 1)) (ab (ae 4) (ab (dC (.int 1)) (ab (ae 4) ao))))))))) (ae 5)) ao)))))))))
section
variable {U:Mu}{Qd:DK}{ds:List D}
theorem uI(h:nH ds U Qd):gX ‹Qd› (aG ["_law_thing"] ds) U:=by
 obtain⟨d,rfl,few,q⟩:=h
 unfold gX
 walk_at "rd"
 rcases qE d with ⟨xs,rfl,e⟩|⟨hn,e⟩
 ·rw[e]
  walk_at "rd"
  by_cases hl:xs.length=3
  ·obtain⟨a,b,c,rfl⟩:=three hl
   have e3:decide ((([a,b,c].length:Nat):Int)=3)=true:=rfl
   simp only[e3,Bool.xor_self,false_eq_true,↓reduceIte]
   refine⟨by simp,fun x=>some (.bool (isWhole x)),fun x hx O hs=>⟨trivial,x,rfl,rfl,rfl⟩,?_⟩
   rw[nW (fun x=>PyData.bool (isWhole x)),kO]
   simp only[map_cons,map_nil,List.all_cons,List.all_nil,id,Bool.and_true]
   rcases eM a with ⟨i,rfl,ea⟩|⟨hn,ea⟩
   ·rcases eM b with ⟨j,rfl,e1⟩|⟨hn,e1⟩
    ·rcases eM c with ⟨k,rfl,e2⟩|⟨hn,e2⟩
     ·rw[ea,e1,e2]
      simp only[Bool.and_self]
      walk_at "rd"
      have q':Qd (.v (.bool (decide (1<=k)&&(g3 i j k==1)))) U:=q
      by_cases hk:1<=k
      ·rw[if_pos (by simp;omega)]
       refine⟨i,j,rfl,_,k,rfl,?_⟩
       walk_at "rd"
       have ee:decide (((Int.gcd (Int.gcd i j:Nat) k:Nat):Int)=1)=(decide (1<=k)&&(g3 i j k==1)):=by
        unfold g3
        rw[decide_eq_true hk,Bool.true_and,Bool.eq_iff_iff];simp;omega
       rw[ee]
       exact q'
      ·rw[if_neg (by simp;omega)]
       rw[decide_eq_false hk] at q'
       exact q'
     ·rw[ea,e1,e2]
      simp only[Bool.and_false]
      walk_at "rd"
      have:isNum (.tuple [.int i,.int j,c])=false:=by cases c<;>first|rfl|exact absurd rfl (hn _)
      rw[this] at q
      exact q
    ·rw[ea,e1]
     simp only[Bool.and_false,Bool.false_and]
     walk_at "rd"
     have:isNum (.tuple [.int i,b,c])=false:=by cases b<;>first|rfl|exact absurd rfl (hn _)
     rw[this] at q
     exact q
   ·rw[ea]
    simp only[Bool.and_false,Bool.false_and]
    walk_at "rd"
    have:isNum (.tuple [a,b,c])=false:=by cases a<;>first|rfl|exact absurd rfl (hn _)
    rw[this] at q
    exact q
  ·rw[B8 hl] at q
   have:decide (((xs.length:Nat):Int)=3)=false:=by simp;omega
   rw[this]
   simp only[xor_false,↓reduceIte]
   exact q
 ·rw[e]
  rw[Cc hn] at q
  walk_at "rd"
  exact q
theorem pick{P:PyData->Prop}{xs:List PyData}{i:Int}(h0:0<=i)(h1:i<(xs.length:Nat))(h:∀x∈xs,P x):∃d,atI xs i=some d/\P d:=let ⟨d,e,m⟩:=D3 h0 h1;⟨d,e,h d m⟩
theorem Step.refl{a:Addr}(h:Bag U a):Step a U U:=⟨h,fun _ _=>rfl⟩
theorem F6{i:Int}(h1:-1048576<i)(h2:i<1048576):Sz 20 i:=Sz.of (by show i.natAbs<1048576;omega)
theorem yO(h:qw ds U Qd):jJ ‹Qd› (aG ["_law_bag_here","_law_wide","_law_a","_law_b","_law_c","_law_way"] ds) U:=by
 obtain⟨a,rfl,hb,q⟩:=h
 unfold jJ
 walk_at "rd"
 refine⟨a,4,rfl,⋯,⋯,hb,fun r0 ac h0 h1 s1=>?_⟩
 walk_at "rd"
 obtain⟨w,e,i,rfl,w0,w1⟩:=pick (P:=fun d=>∃i:Int,d = .int i/\4<=i/\i<=1000000) (xs:=[PyData.int 4,PyData.int 10,PyData.int 100,PyData.int 1000000]) h0 (by exact h1) (by
  intro x hx
  simp only[mem_cons,not_mem_nil,or_false] at hx
  rcases hx with rfl|rfl|rfl|rfl<;>exact⟨_,rfl,⋯,⋯⟩)
 rw[e]
 walk_at "rd"
 refine⟨a,i,rfl,∅,∅,s1.1,fun r1 ad h2 h3 s2=>?_⟩
 walk_at "rd"
 refine⟨(by simp),a,i,rfl,∅,∅,s2.1,fun r2 ap h4 h5 s3=>?_⟩
 walk_at "rd"
 refine⟨(by simp),a,i-1,rfl,∅,∅,s3.1,fun r3 bn h6 h7 s4=>?_⟩
 walk_at "rd"
 refine⟨a,8,rfl,⋯,⋯,s4.1,fun r4 ga h8 h9 s5=>?_⟩
 walk_at "rd"
 have ef:i.fdiv 2=i / 2:=Int.fdiv_eq_ediv_of_nonneg _ ∅
 rw[ef]
 have za:Sz 20 (r1-i / 2):=F6 ∅ ∅
 have zb:Sz 20 (r2-i / 2):=F6 ∅ ∅
 have zc:Sz 20 (1+r3):=F6 ∅ ∅
 have z0:Sz 20 0:=F6 ∅ ∅
 have z1:Sz 20 1:=F6 ∅ ∅
 obtain⟨d1,e1,i1,rfl,b1⟩:=pick (P:=fun d=>∃i:Int,d = .int i/\Sz 20 i) (xs:=[PyData.int (r1-i / 2),PyData.int (r1-i / 2),PyData.int (r1-i / 2),PyData.int (r1-i / 2),PyData.int (r1-i / 2),PyData.int (r1-i / 2),PyData.int (r1-i / 2),PyData.int 0]) h8 (by exact h9) (by
  intro x hx
  simp only[mem_cons,not_mem_nil,or_false] at hx
  rcases hx with rfl|rfl|rfl|rfl|rfl|rfl|rfl|rfl<;>exact⟨_,rfl,by assumption⟩)
 rw[e1]
 walk_at "rd"
 obtain⟨d2,e2,i2,rfl,b2⟩:=pick (P:=fun d=>∃i:Int,d = .int i/\Sz 20 i) (xs:=[PyData.int (r2-i / 2),PyData.int (r2-i / 2),PyData.int (r2-i / 2),PyData.int (r2-i / 2),PyData.int (r2-i / 2),PyData.int 0,PyData.int 0,PyData.int (r2-i / 2)]) h8 (by exact h9) (by
  intro x hx
  simp only[mem_cons,not_mem_nil,or_false] at hx
  rcases hx with rfl|rfl|rfl|rfl|rfl|rfl|rfl|rfl<;>exact⟨_,rfl,by assumption⟩)
 rw[e2]
 walk_at "rd"
 obtain⟨d3,e3,i3,rfl,b3,p3⟩:=pick (P:=fun d=>∃i:Int,d = .int i/\Sz 20 i/\0<i) (xs:=[PyData.int (1+r3),PyData.int (1+r3),PyData.int 1,PyData.int (1+r3),PyData.int 1,PyData.int (1+r3),PyData.int 1,PyData.int (1+r3)]) h8 (by exact h9) (by
  intro x hx
  simp only[mem_cons,not_mem_nil,or_false] at hx
  rcases hx with rfl|rfl|rfl|rfl|rfl|rfl|rfl|rfl<;>exact⟨_,rfl,by assumption,∅⟩)
 rw[e3]
 walk_at "rd"
 have n3:i3≠0:=by omega
 exact⟨i1,i2,i3,rfl,n3,b3.mono ⋯,q _ _ (jd _ _ n3) (jg n3 b1 b2 b3) (s1.trans (s2.trans (s3.trans (s4.trans s5))))⟩
end
noncomputable def nh:DTS:=
 (aC (bQ (dB (dOp (bV false) (aq b4 (ab (ae 0) (ab (dC (.int 2)) ao))) (dC (.int 0)))) (aT (dOp ax (g8 (ab (dC (.int 2)) (ab (dC (.int 3)) (ab (dC (.int 5)) ao)))) (aq b4 (ab (ae 0) (ab (dC (.int 3)) ao))))) aW)
 (aC (aR (dq [none] (GO (ab (dC (.int 2)) (ab (dC (.int 31)) ao))) (ak 0) (dB (dOp (Lp true) (ae 0) (g8 (ab (dC (.int 4)) (ab (dC (.int 9)) (ab (dC (.int 16)) (ab (dC (.int 25)) ao))))))) (ae 0)) (ak 1))
 (aT (dOp ax (ae 1) (aq b4 (ab (ae 0) (ab (dC (.int 25)) ao)))))))
noncomputable def lB:DTS:=
 (aC (aR (aq qw (ab (ae 0) ao)) (ak 2))
 (aC (aR (aq hW (ab (ae 1) (ab (ae 2) ao))) (ak 3))
 (aC (bQ (dB (dOp (bV false) (ae 3) (dC (.int 0)))) (aT (cS (ab (fi (dC (.int 1)) (aq b4 (ab (ae 0) (ab (dC (.int 5)) ao)))) (ab (dC (.int 0)) (ab (dC (.int 1)) ao))))) aW)
 (aT (dIf (dB (dOp rGt (ae 3) (dC (.int 0)))) (ae 2) (aq qJ (ab (ae 2) ao)))))))
section
variable {U:Mu}{Qd:DK}{ds:List D}
theorem Nd{lo:Int}{n:Nat}{x:PyData}(h:x∈o4 lo n):∃i:Int,x = .int i/\lo<=i/\i<lo+n:=by
 unfold o4 at h
 obtain⟨k,hk,rfl⟩:=List.mem_map.mp h
 have:=List.mem_range.mp hk
 exact⟨_,rfl,∅,∅⟩
noncomputable def EE:PyData->Option PyData
 |.int i=>if HW i then some (.int i) else none
 |_=>none
noncomputable def DR:List PyData:=[2,3,5,6,7,8,10,11,12,13,14,15,17,18,19,20,21,22,23,24,26,27,28,29,30].map PyData.int
theorem in4(i:Int):(List.any [PyData.int 4,PyData.int 9,PyData.int 16,PyData.int 25] fun b=>PyData.eqv b (.int i))=(decide (i=4) || decide (i=9) || decide (i=16) || decide (i=25)):=by
 have ev:∀j:Int,PyData.eqv (.int j) (.int i)=decide (i=j):=fun j=>by rw[SQ];simp[eq_comm]
 simp only[List.any_cons,List.any_nil,ev,Bool.or_false,Bool.or_assoc]
theorem Cw(h:ye ds U Qd):nh ‹Qd› (aG ["_law_bag_here","_law_some"] ds) U:=by
 obtain⟨a,rfl,hb,q⟩:=h
 unfold nh
 walk_at "rd"
 refine⟨a,2,rfl,⋯,⋯,hb,fun r0 ac h0 h1 s1=>?_⟩
 walk_at "rd"
 by_cases hr:r0=0
 ·rw[if_pos (by simpa using hr)]
  refine⟨a,3,rfl,⋯,⋯,s1.1,fun r1 ad h2 h3 s2=>?_⟩
  walk_at "rd"
  obtain⟨w,e,i,rfl,w0⟩:=pick (P:=fun d=>∃i:Int,d = .int i/\av i) (xs:=[PyData.int 2,PyData.int 3,PyData.int 5]) h2 (by exact h3) (by
   intro x hx
   simp only[mem_cons,not_mem_nil,or_false] at hx
   rcases hx with rfl|rfl|rfl<;>exact⟨_,rfl,by unfold av;omega⟩)
  rw[e]
  exact q _ _ w0 (s1.trans s2)
 ·rw[if_neg (by simpa using hr)]
  refine⟨⟨⋯,⋯,⋯,⋯⟩,⋯,fun p hp=>⟨fun i acc O=>acc=((o4 2 29).take i).filterMap EE/\O=bD ac p acc,⟨rfl,rfl⟩,?_,?_⟩⟩
  ·rintro i x acc O hx hpa ⟨e0,e1⟩
   obtain⟨k,rfl,i0,i1⟩:=Nd (mem_of_getElem? hx)
   refine⟨trivial,rfl,rfl,by show 0<=60;decide,?_⟩
   rw[in4]
   have i1':k<31:=by simpa using i1
   have e:EE (.int k)=if HW k then some (.int k) else none:=rfl
   have e2:HW k = !(decide (k=4) || decide (k=9) || decide (k=16) || decide (k=25)):=by
    unfold HW
    rw[decide_eq_true i0,decide_eq_true (show k<=30 by omega)]
    rfl
   have ft:((o4 2 29).take (i+1)).filterMap EE=((o4 2 29).take i).filterMap EE++(EE (.int k)).toList:=O5 hx
   rw[e,e2] at ft
   cases hh:(decide (k=4) || decide (k=9) || decide (k=16) || decide (k=25))
   ·rw[hh] at ft
    simp only[true_xor,Bool.not_false,↓reduceIte] at ft ⊢
    refine⟨hpa,?_,?_⟩
    ·rw[ft,e0];rfl
    ·rw[e1,qy]
   ·rw[hh] at ft
    simp only[true_xor,Bool.not_true,↓reduceIte,false_eq_true] at ft ⊢
    refine⟨hpa,?_,e1⟩
    rw[ft,e0];simp
  rintro acc O ⟨e0,e1⟩ _
  have ed:jW O p=ac:=by rw[e1];exact vG hp
  rw[ed]
  have e0':acc=DR:=by rw[e0];rfl
  rw[e0']
  refine⟨a,25,rfl,⋯,⋯,s1.1,fun r1 ad h2 h3 s2=>?_⟩
  walk_at "rd"
  obtain⟨w,e,i,rfl,w0⟩:=pick (P:=fun d=>∃i:Int,d = .int i/\av i) (xs:=DR) h2 (by exact h3) (by
   intro x hx
   unfold DR at hx
   obtain⟨k,hk,rfl⟩:=List.mem_map.mp hx
   exact⟨_,rfl,(show ∀k∈([2,3,5,6,7,8,10,11,12,13,14,15,17,18,19,20,21,22,23,24,26,27,28,29,30]:List Int),av k by unfold av;decide) k hk⟩)
  rw[e]
  exact q _ _ w0 (s1.trans s2)
noncomputable def pP:DSp:=fun ds U Q=>∃(a:Addr) (d:Int),ds=[.m a,.v (.int d)]/\av d/\Bag U a/\∀x O,Ok x->Bd 20 x->sg d x.a x.b=1->Step a U O->Q (.v (dN x)) O
theorem A4(h:pP ds U Qd):lB ‹Qd› (aG ["_law_bag_here","_law_d","_law_x","_law_sign_here"] ds) U:=by
 obtain⟨a,d,rfl,hd,hb,q⟩:=h
 unfold lB
 walk_at "rd"
 refine⟨a,rfl,hb,fun x ac ox bx s1=>?_⟩
 walk_at "rd"
 refine⟨d,x,rfl,hd,bx.mono ⋯,?_⟩
 walk_at "rd"
 have t:=mV d x.a x.b
 by_cases h0:sg d x.a x.b=0
 ·rw[if_pos (by simpa using h0)]
  refine⟨a,5,rfl,⋯,⋯,s1.1,fun r ad r0 r1 s2=>?_⟩
  walk_at "rd"
  have ok:Ok ⟨1+r,0,1⟩:=⟨by show (0:Int)<1;decide,by unfold g3;simp⟩
  refine q ⟨1+r,0,1⟩ ad ok ⟨F6 (by show -1048576<1+r;omega) (by show 1+r<1048576;omega),F6 (by show -1048576<(0:Int);decide) (by show (0:Int)<1048576;decide),F6 (by show -1048576<(1:Int);decide) (by show (1:Int)<1048576;decide)⟩ ?_ (s1.trans s2)
  show sg d (1+r) 0=1
  unfold sg
  rw[if_neg ∅,if_pos ∅]
 ·rw[if_neg (by simpa using h0)]
  by_cases h1:0<sg d x.a x.b
  ·rw[if_pos (by simpa using h1)]
   exact q x ac ox bx ∅ s1
  ·rw[if_neg (by simpa using h1)]
   refine⟨x,rfl,?_⟩
   refine q (minus x) ac (eI ox) (uv bx) ?_ s1
   show sg d (-x.a) (-x.b)=1
   rw[rH hd]
   omega
end
section
variable {U:Mu}{Q:DK}{ds:List D}
noncomputable def zL:DSp:=fun ds U Q=>∃ns:List Int,ds=[.s ns]/\ns.length<=63/\∀O,Q (.v (.bool true)) O
theorem wU(h:eZ ds U Q):ds.length=1:=by obtain⟨_,rfl,_⟩:=h;rfl
theorem Cj(h:oV ds U Q):ds.length=2:=by obtain⟨_,_,rfl,_⟩:=h;rfl
theorem GK(h:zo ds U Q):ds.length=3:=by obtain⟨_,_,_,rfl,_⟩:=h;rfl
theorem zM(h:nH ds U Q):ds.length=1:=by obtain⟨_,rfl,_⟩:=h;rfl
theorem tU(h:cD ds U Q):ds.length=3:=by obtain⟨_,_,_,rfl,_⟩:=h;rfl
theorem ES(h:qJ ds U Q):ds.length=1:=by obtain⟨_,rfl,_⟩:=h;rfl
theorem Aj(h:cP ds U Q):ds.length=2:=by obtain⟨_,_,rfl,_⟩:=h;rfl
theorem GQ(h:rD ds U Q):ds.length=2:=by obtain⟨_,_,rfl,_⟩:=h;rfl
theorem xm(h:dw ds U Q):ds.length=3:=by obtain⟨_,_,_,rfl,_⟩:=h;rfl
theorem pR(h:cj ds U Q):ds.length=2:=by obtain⟨_,_,rfl,_⟩:=h;rfl
theorem Hn(h:nL ds U Q):ds.length=3:=by obtain⟨_,_,_,rfl,_⟩:=h;rfl
theorem F2(h:ur ds U Q):ds.length=3:=by obtain⟨_,_,_,rfl,_⟩:=h;rfl
theorem zm(h:hW ds U Q):ds.length=2:=by obtain⟨_,_,rfl,_⟩:=h;rfl
theorem FP(h:nB ds U Q):ds.length=3:=by obtain⟨_,_,_,rfl,_⟩:=h;rfl
theorem El(h:gT ds U Q):ds.length=3:=by obtain⟨_,_,_,rfl,_⟩:=h;rfl
theorem Js(h:HV ds U Q):ds.length=2:=by obtain⟨_,_,rfl,_⟩:=h;rfl
theorem Hk(h:b4 ds U Q):ds.length=2:=by obtain⟨_,_,rfl,_⟩:=h;rfl
theorem Bu(h:qw ds U Q):ds.length=1:=by obtain⟨_,rfl,_⟩:=h;rfl
theorem E4(h:ye ds U Q):ds.length=1:=by obtain⟨_,rfl,_⟩:=h;rfl
theorem CG(h:pP ds U Q):ds.length=2:=by obtain⟨_,_,rfl,_⟩:=h;rfl
theorem FT(h:x6 ds U Q):ds.length=1:=by obtain⟨_,rfl,_⟩:=h;rfl
theorem JE(h:zL ds U Q):ds.length=1:=by obtain⟨_,rfl,_⟩:=h;rfl
end
noncomputable def mK:DTS:=kE
theorem we{U Qd ds}(h:eZ ds U Qd):mK ‹Qd› (aG ["_law_thing"] ds) U:=wX h
structure Ow(K:PySem.W.Frag)(mg:Str->Option Value)(x:Str)(g:Addr)(a b c:Int):Prop where
 m:mg x=some (.ref g)
 l:∃(od:Option Addr) (n:Nat) (sl:Array (Option Value)) (t u v:Tok),K.lookup g=some ⟨.type "tuple",od,.seq #[.int a t,.int b u,.int c v] n,sl⟩
theorem iU{X:Cx}{x:Str}{g:Addr}{a b c:Int}{pos:Pos}(hg:Gl X x)(h:Ow X.K X.mg x g a b c)(hd:(x==("__debug__":Str))=false:=by decide):DE X (.Name x pos) (dC (.tuple [.int a,.int b,.int c])):=by
 obtain⟨od,n,sl,t,u,v,e⟩:=h.l
 refine qA (u:=.ref g) hg h.m rfl (fun U H _=>Rp.tuple (xs:=[.int a,.int b,.int c]) (.inr ⟨_,_,_,e,rfl,rfl,(by show 3<=sizeLine;decide),.cons ⟨t,rfl⟩ (.cons ⟨u,rfl⟩ (.cons ⟨v,rfl⟩ .nil))⟩) (.cons (.int a) (.cons (.int b) (.cons (.int c) .nil)))) hd
theorem JC{K:PySem.W.Frag}{H:Hp}{a:Addr}{ns:List Int}(hl:ns.length<=63)(hT:Gb K H)(hS:SqL K H a (ns.map V.int)):spD K zL [.ref a] H (fun v _=>v = .bl true) fun _ _ _=>False:=by
 refine⟨[.s ns],⟨fun _=>none,fun _=>none⟩,fun d _=>d = .v (.bool true),⟨fun a ds h=>(by cases h),hT,fun a c h=>(by cases h)⟩,.cons ⟨a,rfl,hS,rfl⟩ .nil,⟨ns,rfl,hl,fun _=>rfl⟩,fun d u O H' _ _ r q=>?_⟩
 subst q
 cases r
 rfl
end L2.DL
namespace L2
open PySem PySem.Spec PyProof.Rows
section
variable {X:Cx}
noncomputable def RK(x y:Str)(i:Int):Int:=match Builtin.Str.occurrences x y (fromIndex x.length i) x.length 1 with|k::_=>(k:Nat)|[]=>-1
end
end L2
namespace L2.DL
open PySem PySem.Spec PyProof.Rows
section
variable {X:Cx}{a b e i o:Expr}{ta tb te ti to:DTE}{pos apos cpos:Pos}
noncomputable def Se(to te ti:DTE):DTE:=fun ρ U Q=>to ρ U fun x ac=>match x with
 |.v (.str z)=>te ρ ac fun y ad=>ti ρ ad fun k ap=>(match y,k with
  |.v (.str w),.v (.int n)=>Q (.v (.int (RK z w n))) ap
  |_,_=>False)
 |_=>False
noncomputable def NP(K:PySem.W.Frag):R2:=fun x y H Q=>∃U a bs,Rp K U H a x/\Rp K U H (.tuple bs) y/\PyData.canLayAll0 bs=true/\a.canLay0=true/\PyData.depth a<=60/\Q (.bl (bs.any fun b=>PyData.eqv b a)) H
theorem PN(hu:X.A.units+64<cLine):OpR X (compareOp .In) (NP X.K):=by
 intro pins s Y H x y v u Q I rx ry h
 obtain⟨U,a,b,ha,hb,sb,sa,dp,q⟩:=h
 obtain⟨as,ra⟩:=fv I ha rx
 obtain⟨bs,rb⟩:=fv I hb ry
 exact SeqAt.in_tuple_reads rb ra sb sa ∅ ⟨.bl (b.any fun z=>PyData.eqv z a),H,I,rfl,q⟩
noncomputable def HS:D->D->Mu->DK->Prop:=fun x y U Q=>match x,y with
 |.v a,.v (.tuple bs)=>PyData.canLayAll0 bs=true/\a.canLay0=true/\PyData.depth a<=60/\Q (.v (.bool (bs.any fun b=>PyData.eqv b a))) U
 |_,_=>False
theorem Oh{K:PySem.W.Frag}:hV K (NP K) HS:=by
 intro x y ux uy H U Qd Q ok rx ry h k
 unfold HS at h
 split at h
 ·exact⟨U,_,_,rx,ry,h.1,h.2.1,h.2.2.1,k (.v _) _ U H .refl ok (.bool _) h.2.2.2⟩
 ·exact h.elim
end
section
variable {ρ:Rho}{U:Mu}{Q:DK}{te ti to:DTE}{d:PyData}{xs:List PyData}
theorem NQ:HS (.v d) (.v (.tuple xs)) U Q=(PyData.canLayAll0 xs=true/\d.canLay0=true/\PyData.depth d<=60/\Q (.v (.bool (xs.any fun b=>PyData.eqv b d))) U):=propext Iff.rfl
end
end L2.DL
namespace L2
open PySem PySem.Spec PyProof.Rows
end L2
namespace L2.DL
open PySem PySem.Spec PyProof.Rows
end L2.DL
namespace L2
open PySem PySem.Spec PyProof.Rows
end L2
namespace L2.DL
open PySem PySem.Spec PyProof.Rows
end L2.DL
namespace L2
open PySem PySem.Spec PyProof.Rows
end L2
namespace L2
open PySem PySem.Spec PyProof.Rows
end L2
namespace L2.DL
open PySem PySem.Spec PyProof.Rows
noncomputable def intsOf:List PyData->Option (List Int)
 |[]=>some []
 |.int i::r=>(intsOf r).map (i::·)
 |_=>none
section
variable {α:Type}
noncomputable def KZ(kvs:List (List Int×α))(k:List Int):Option α:=(kvs.find? fun x=>decide (x.1=k)).map (·.2)
noncomputable def QL(kvs:List (List Int×α))(k:List Int)(v:α):List (List Int×α):=if (KZ kvs k).isSome=true then kvs.map (fun x=>if x.1=k then (x.1,v) else x) else kvs++[(k,v)]
end
section
variable {X:Cx}{a b e o:Expr}{ta tb te to:DTE}{pos p apos cpos:Pos}
theorem DE.use{td:DTE}(h:DE X e td){pins:List (Addr×Obj)}{s:Shared}{Y:St}{H:Hp}{ρ:Rho}{U:Mu}{Qd:DK}(I:Inv X pins Y H s)(S:St0 X.K H ρ U Y)(q:td ρ U Qd) :
  wpAny (model X.prog X.w) X.A (eval e X.env) (fun v s'=>∃d u O H',Inv X pins Y H' s'/\RelV u v/\Ext X.K U H O H'/\St0 X.K H' ρ O Y/\RpD X.K O H' d u/\Qd d O) X.xe s:=by
 obtain⟨t,p,l⟩:=h
 exact wpAny_mono (p pins s Y H (fun u H'=>∃d O,Ext X.K U H O H'/\St0 X.K H' ρ O Y/\RpD X.K O H' d u/\Qd d O) I (l Y H ρ U Qd _ S q fun d u O H' ex S' r z=>⟨d,O,ex,S',r,z⟩))
  (fun v s' ⟨u,H',I',rv,d,O,ex,S',r,z⟩=>⟨d,u,O,H',I',rv,ex,S',r,z⟩) fun _ _ z=>z
noncomputable def L7:DTE:=fun _ U Q=>∀p,U.b p=none->Q (.b p) (wJ U p (.set []))
noncomputable def MB:DTE:=fun _ U Q=>∀p,U.b p=none->Q (.b p) (wJ U p (.dict []))
theorem KD{ρ:Rho}{U:Mu}{Q:DK}:L7 ρ U Q = ∀p,U.b p=none->Q (.b p) (wJ U p (.set [])):=rfl
theorem Lg{ρ:Rho}{U:Mu}{Q:DK}:MB ρ U Q = ∀p,U.b p=none->Q (.b p) (wJ U p (.dict [])):=rfl
theorem OO{pins:List (Addr×Obj)}{s:Shared}{Y:St}{H:Hp}(I:Inv X pins Y H s):(s.heap.objs.size==sysModules)=false:=beq_eq_false_iff_ne.mpr (Ne.symm (ne_of_lt I.big))
noncomputable def Jh:D->Option (List Int)
 |.v (.tuple ds)=>intsOf ds
 |_=>none
end
section
variable {X:Cx}{a b e o i value:Expr}{ta tb te to ti tv:DTE}{pos pos' p apos cpos:Pos}
noncomputable def QM(to te:DTE):DTE:=fun ρ U Q=>to ρ U fun x ac=>∃a ks0,x = .b a/\ac.b a=some (.set ks0)/\te ρ ac fun y ad=>∃k ks,Jh y=some k/\ad.b a=some (.set ks)/\ks.length<=9800/\k ∉ ks/\Q (.v .none) (wJ ad a (.set (ks++[k])))
theorem Qt{ρ:Rho}{U:Mu}{Q:DK}:QM to te ρ U Q=to ρ U fun x ac=>∃a ks0,x = .b a/\ac.b a=some (.set ks0)/\te ρ ac fun y ad=>∃k ks,Jh y=some k/\ad.b a=some (.set ks)/\ks.length<=9800/\k ∉ ks/\Q (.v .none) (wJ ad a (.set (ks++[k]))):=rfl
noncomputable def Sx(to ti:DTE):DTE:=fun ρ U Q=>to ρ U fun x ac=>ti ρ ac fun y ad=>∃a kvs k d,x = .b a/\Jh y=some k/\ad.b a=some (.dict kvs)/\KZ kvs k=some d/\Q (.v d) ad
theorem RG{ρ:Rho}{U:Mu}{Q:DK}:Sx to ti ρ U Q=to ρ U fun x ac=>ti ρ ac fun y ad=>∃a kvs k d,x = .b a/\Jh y=some k/\ad.b a=some (.dict kvs)/\KZ kvs k=some d/\Q (.v d) ad:=rfl
noncomputable def Rm(to ti tv:DTE):DTS:=fun D ρ U=>tv ρ U fun v ac=>to ρ ac fun x ad=>ti ρ ad fun y ap=>∃a kvs k d,v = .v d/\x = .b a/\Jh y=some k/\ap.b a=some (.dict kvs)/\kvs.length<=9800/\D.nx ρ (wJ ap a (.dict (QL kvs k d)))
theorem OH{D:oI}{ρ:Rho}{U:Mu}:Rm to ti tv D ρ U=tv ρ U fun v ac=>to ρ ac fun x ad=>ti ρ ad fun y ap=>∃a kvs k d,v = .v d/\x = .b a/\Jh y=some k/\ap.b a=some (.dict kvs)/\kvs.length<=9800/\D.nx ρ (wJ ap a (.dict (QL kvs k d))):=rfl
end
section
variable {prog:Program}{w:World}{A:Around}{E:Value->Shared->Prop}{s:Shared}
noncomputable abbrev et2(h:Heap)(l:Addr):Heap:=(zt1 h l).push {cls:=.type "enumerate",data:=.fields #[.none,.bool false,.ref h.objs.size,rawInt 0,.none,.none]}
end
theorem ln1{p:List Value->Prop}(h:∀a0,p [a0])(us:List Value)(hl:us.length=1):p us:=match us,hl with|[a0],_=>h a0
theorem ln2{p:List Value->Prop}(h:∀a0 a1,p [a0,a1])(us:List Value)(hl:us.length=2):p us:=match us,hl with|[a0,a1],_=>h a0 a1
theorem ln3{p:List Value->Prop}(h:∀a0 a1 a2,p [a0,a1,a2])(us:List Value)(hl:us.length=3):p us:=match us,hl with|[a0,a1,a2],_=>h a0 a1 a2
theorem ln4{p:List Value->Prop}(h:∀a0 a1 a2 a3,p [a0,a1,a2,a3])(us:List Value)(hl:us.length=4):p us:=match us,hl with|[a0,a1,a2,a3],_=>h a0 a1 a2 a3
theorem ln5{p:List Value->Prop}(h:∀a0 a1 a2 a3 a4,p [a0,a1,a2,a3,a4])(us:List Value)(hl:us.length=5):p us:=match us,hl with|[a0,a1,a2,a3,a4],_=>h a0 a1 a2 a3 a4
theorem ln6{p:List Value->Prop}(h:∀a0 a1 a2 a3 a4 a5,p [a0,a1,a2,a3,a4,a5])(us:List Value)(hl:us.length=6):p us:=match us,hl with|[a0,a1,a2,a3,a4,a5],_=>h a0 a1 a2 a3 a4 a5
noncomputable def upE(te:DTE):DTE:=fun ρ U Q=>∃Q',te ρ U Q'/\∀d O,Q' d O->Q d O
noncomputable def upG(g:DTG):DTG:=fun d ρ U Q=>∃Q',g d ρ U Q'/\∀am O,Q' am O->Q am O
noncomputable def upT(c:DTT):DTT:=fun ρ U Q=>∃Q',c ρ U Q'/\∀b O,Q' b O->Q b O
noncomputable def upI(c:DTI):DTI:=fun ρ U Q=>∃Q',c ρ U Q'/\∀b O,Q' b O->Q b O
theorem Ob{X:Cx}{e:Expr}{te:DTE}(h:DE X e te):DE X e (upE te):=
 let ⟨t,p,l⟩:=h
 ⟨t,p,fun Y H ρ U _ Q S ⟨Q',h,z⟩ k=>l Y H ρ U Q' Q S h fun d u O H' a b c q=>k d u O H' a b c (z _ _ q)⟩
theorem N0{X:Cx}{e:Expr}{g:DTG}(h:DG X e g):DG X e (upG g):=
 let ⟨t,p,l⟩:=h
 ⟨t,p,fun Y H ρ U d u _ Q S r ⟨Q',h,z⟩ k=>l Y H ρ U d u Q' Q S r h fun al am O H' a b q=>k al am O H' a b (z _ _ q)⟩
theorem Ib{X:Cx}{es:List Expr}{c:DTT}(h:Au X es c):Au X es (upT c):=
 fun pins s Y H ρ U _ Q I S ⟨Q',h',z⟩ k=>h pins s Y H ρ U Q' Q I S h' fun b O H' x y q=>k b O H' x y (z _ _ q)
theorem NO{X:Cx}{tg e:Expr}{c:DTI}(h:DI X tg e c):DI X tg e (upI c):=
 let ⟨t,p,l⟩:=h
 ⟨t,p,fun Y H ρ U _ R S ⟨Q',h,z⟩ k=>l Y H ρ U Q' R S h fun xs ac H1 J a b c q=>k xs ac H1 J a b c (z _ _ q)⟩
theorem RI{X:Cx}{e:Expr}{te te':DTE}(h:DE X e te)(w:∀ρ U Q,te' ρ U Q->te ρ U Q):DE X e te':=
 let ⟨t,p,l⟩:=h
 ⟨t,p,fun Y H ρ U Qd Q S h k=>l Y H ρ U Qd Q S (w _ _ _ h) k⟩
theorem MC{U:Mu}{p:Addr}{l:List PyData}(h:U p=none):jW (bD U p l) p=U:=Mu.eq (fun b=>by
 by_cases e:b=p
 ·rw[e,ka,h]
 ·rw[fb e,aV e]) fun _=>rfl
theorem Jp{cap:List (Option Nat)}{src:DTI}{g:DTG}{c:DTT}{te:DTE}{ρ:Rho}{U:Mu}{Q:DK}(h:rg cap src g c te ρ U Q):dq cap (upI src) (upG g) (upT c) (upE te) ρ U Q:=by
 refine⟨_,h,fun xs ac ⟨hl,f,body,q⟩=>⟨hl,fun p hp=>⟨fun i acc O=>acc=(xs.take i).filterMap f/\O=bD ac p acc,⟨rfl,rfl⟩,fun i x acc O hx _ P=>?_,fun acc O P _=>?_⟩⟩⟩
 ·obtain⟨e,rfl⟩:=P
  have tk:∀o,f x=o->(xs.take (i+1)).filterMap f=acc++o.toList:=fun o z=>by
   rw[List.take_add_one,hx,List.filterMap_append,e]
   show _++List.filterMap f [x]=_
   rw[List.filterMap_cons,z]
   cases o<;>rfl
  refine⟨_,body x (mem_of_getElem? hx) _ (fun a ds z=>by rw[aV (fun w=>by rw[w,hp] at z;cases z),z]),fun ca ad ⟨l,cc⟩=>⟨l,_,cc,fun b ap r=>?_⟩⟩
  cases b with
  |true=>
   rw[if_pos rfl] at r ⊢
   refine⟨_,r,fun d bn hq0=>?_⟩
   obtain⟨e4,m⟩:=hq0
   subst e4
   refine⟨bg,?_⟩
   split at m
   ·exact⟨(tk _ m).symm,qy⟩
   ·exact m.elim
  |false=>
   rw[if_neg ⋯] at r ⊢
   obtain⟨rfl,z⟩:=r
   exact⟨bg,by rw[tk _ z];exact (List.append_nil _).symm,rfl⟩
 ·obtain⟨rfl,rfl⟩:=P
  rw[take_length,MC hp]
  exact q
structure Cal(K:PySem.W.Frag)(mg:Str->Option Value)(n:Str)(ps:List Str)(st:Stmt)(a:Addr)(d:FuncData):Prop where
 f:Fun K n n st a d
 m:mg n=some (.ref a)
 k:keepIn K (.ref a)=true
 b:Binds K d ps []
theorem ah{X:Cx}{k j:Nat}{f:Addr}{fd:FuncData}{x:Str}{p pos:Pos}{e:Expr}{es:List Expr}{ps:List Str}{st:Stmt}{dsp:DSp}{t:DTA}(F:mw X.prog X.w X.K X.mg X.base CX0 k f fd ps (spD X.K dsp))(hr:lq j X.A)(C:Cal X.K X.mg x ps st f fd)
  (ha:DA X (e::es) t) (h:k<=j:=by decide) (hg:Gl X x:=by rfl) (hdb:(x==("__debug__":Str))=false:=by decide) (he:starEach (e::es) X.env=(false,eval e X.env)::starEach es X.env:=by rfl) (hpl:(backTo pos (starEach es X.env)).any (·.1)=false:=by rfl) :
  DE X (.Call (.Name x p) (e::es) [] pos) (aq dsp t):=Mc F (hr.mono h) hg C.m C.k C.b ha hdb he hpl
theorem cp{X:Cx}{pos:Pos}{i:Nat}{x:Str}(hN:X.N.Nodup)(hi:X.N[i]? = some x:=by rfl)(hx:Loc X.env.scope x:=by exact Or.inl rfl)(hf:X.fn x=true\/X.env.scope.names.lookup x=some .local:=by first|exact .inl rfl|exact .inr rfl|assumption):DG X (.Name x pos) (ak i):=Ie hN hi hx hf
theorem dQ{X:Cx}{N':List Str}{scope:Scope}{cl:List (Str×Addr)}{fp:List Addr}{s:Shared}{H:Hp}{pos:Pos}(i:Nat){x:Str}(hN:N'.Nodup:=by decide +kernel)(hi:N'[i]? = some x:=by rfl)(hx:Loc (bK X N' scope cl fp s H).env.scope x:=by exact Or.inl rfl)(hf:(bK X N' scope cl fp s H).fn x=true\/(bK X N' scope cl fp s H).env.scope.names.lookup x=some .local:=by first|exact .inl rfl|exact .inr rfl|assumption):DG (bK X N' scope cl fp s H) (.Name x pos) (ak i):=Ie hN hi hx hf
theorem aL{X:Cx}{e:Expr}{te:DTE}{pos:Pos}{i:Nat}{x:Str}{pos':Pos}(hN:X.N.Nodup)(he:DE X e te)(hi:X.N[i]? = some x:=by rfl)(hx:Loc X.env.scope x:=by exact Or.inl rfl)(hs:swapsWith e (some (.Name x pos')) pos.line X.env=pure false:=by rfl)(hf:X.fn x=true\/X.env.scope.names.lookup x=some .local:=by first|exact .inl rfl|exact .inr rfl|assumption) :
  DS X (.Assign [.Name x pos'] e pos) (aR te (ak i)):=Lo hN hi hx he hs hf
theorem ck{N P:List Str}{sc:Scope}(h1:sc.kind = .function:=by rfl)(h2:sc.isCoroutine=false:=by rfl)(h3:sc.isGenerator=false:=by rfl)(h4:N.Nodup:=by decide +kernel)(h5:N.take P.length=P:=by rfl)
  (h6:∀x∈P,sc.names.lookup x=some .local\/sc.names.lookup x=some .cell:=by decide +kernel) (h7:∀y∈sc.names,y.2≠.free:=by decide +kernel):aD N P sc:=⟨h1,h2,h3,h4,h5,h6,h7⟩
structure CH(X:Cx)(N':List Str)(scope:Scope)(cl:List (Str×Addr))(cap:List (Option Nat)):Prop where
 cell:∀y∈scope.names,y.2≠.cell
 kind:scope.kind = .function
 nms:∀y∈scope.names,y.2 = .local->scope.names.lookup y.1=some .local
 sub:∀x a,cl.lookup x=some a->X.env.cells.lookup x=some a
 has:∀x,(relabel scope X.env).names.lookup x=some .cell\/(relabel scope X.env).names.lookup x=some .free->∃a,cl.lookup x=some a
 len:cap.length=N'.length
 cap:∀(i j:Nat) (x:Str),cap[i]? = some (some j)->N'[i]? = some x->X.N[j]? = some x/\Vis X.env.scope x/\X.env.kindOf x≠some .local/\((relabel scope X.env).names.lookup x=some .cell\/(relabel scope X.env).names.lookup x=some .free)
noncomputable def Core(X:Cx)(E:Expr)(scope:Scope)(mk:Sem Value)(iter:Expr)(te:DTE):Prop:=∀(pos:Pos) (use:Option (Value->Sem Unit)) (QQ:Value->Shared->Prop) (pins:List (Addr×Obj)) (s:Shared) (Y:St) (H:Hp) (ρ:Rho) (U:Mu) (Qd:DK),Inv X pins Y H s->St0 X.K H ρ U Y->te ρ U Qd ->
 (∀(s4:Shared) (Hc:Hp) (C pa:Addr) (m:Str->Option Value) (d:D) (db:Mu),s4.heap.Ns C m->AL X pins Hc C->(∀h',Heap.SameBut C s4.heap h'->Inv X pins Y Hc {s4 with heap:=h'}) ->
  Ext X.K U H db Hc->St0 X.K Hc ρ db Y->RpD X.K db Hc d (.ref pa)->Qd d db->compPost (model X.prog X.w) X.A X.xe use QQ (.ref pa) C (.ok .next) s4) ->
 wpAny (model X.prog X.w) X.A (comprehension E scope X.env pos mk false (eval iter X.env) use) QQ X.xe s
theorem Ig{X:Cx}{E iter:Expr}{scope:Scope}{mk:Sem Value}{te:DTE}{pos:Pos}(h:Core X E scope mk iter te)(e:eval E X.env=comprehension E scope X.env pos mk false (eval iter X.env)):DE X E te:=
 QX fun pins s Y H ρ U Qd Q I S q k=>by
  rw[e]
  exact h _ _ _ _ _ _ _ _ _ _ I S q fun s4 Hc C pa m d db hn _ hI e1 S1 r q=>⟨m,hn,fun h' hs'=>⟨.ref pa,Hc,hI h' hs',rfl,k d _ db Hc e1 S1 r q⟩⟩
theorem Nb{X:Cx}{i:Nat}{x:Str}{pos' spos pos:Pos}{E iter:Expr}{scope:Scope}{mk:Sem Value}{te:DTE}(h:Core X E scope mk iter te)(hN:X.N.Nodup)(hix:X.N[i]? = some x)(hx:X.env.scope.names.lookup x=some .local)
  (hsw:swapsWith E (some (.Name x pos')) spos.line X.env=pure true) (e:evalThenUse E X.env (assign (.Name x pos') X.env)=comprehension E scope X.env pos mk false (eval iter X.env) (some (assign (.Name x pos') X.env))>>=fun _=>pure ()):DS X (.Assign [.Name x pos'] E spos) (aR te (ak i)):=by
 refine⟨fun D Y H=>∃ρ U Dd,St0 X.K H ρ U Y/\aR te (ak i) Dd ρ U/\(∀al am O H',Ext X.K U H O H'->St0 X.K H' am O al->Dd.nx am O->D.nx al H'),?_,fun Y H ρ U Dd De S h k1 k2 k3 k4=>⟨ρ,U,Dd,S,h,k1⟩⟩
 intro pins s Y H D I hq
 obtain⟨ρ,U,Dd,S,q,k1⟩:=hq
 rw[exec_Assign_Name_used _ _ _ _ hsw,e]
 refine wpAny_bind (wpAny_standAt (wpAny_bind (wpAny_bind (h _ _ _ pins s Y H ρ U (fun d ac=>ak i d ρ ac Dd.nx) I S q fun s4 Hc C pa m d db hn fC hI e1 S1 r q=>?_))))
 obtain⟨oC,hoC,hdC⟩:=ns_obj hn
 have I5:=(hI s4.heap (Heap.SameBut.refl _ _)).pinned (fp:=[C]) (fun b hb=>by rw[List.mem_singleton.mp hb];exact fC) (fun b hb=>by rw[List.mem_singleton.mp hb];exact⟨oC,hoC,hdC⟩)
 show wpAny _ _ (assign (.Name x pos') X.env (.ref pa)) _ _ s4
 refine wpAny_assign_Name (mn I5 hN hix (Or.inl hx) (show RelV (.ref pa) (.ref pa) from rfl) (fun s' I'=>?_) (.inr hx))
 have keepC:s'.heap.get? C=some oC:=(I'.pin (C,oC) (mem_append_right _ (mem_append_right _ (jG (List.mem_singleton.mpr rfl) hoC)))).1
 refine⟨m,NH hn (by rw[keepC,hoC]),fun h' hs'=>wpAny_pure (wpAny_pure ⟨Y.set i (some (.ref pa)),Hc,?_,k1 _ _ _ _ e1 ⟨S1.mu,S1.rho.set r⟩ q⟩)⟩
 refine I'.pN.NN (ch:=[C]) rfl ⟨fun b o e n hb hx=>?_,fun b o e n hb hx=>?_,fun b o e n hx=>n,fun b o e hx=>?_,fun b xs e=>e,fun b o u e=>e,fun b ps e=>⟨#[],by rw[Array.append_empty];exact e⟩⟩ ?_ I'.bare fun b hb=>?_
 ·exact hs'.extBut b o (fun z=>hx (List.mem_singleton.mpr z)) e
 ·exact⟨o.slots,hs'.extBut b o (fun z=>hx (List.mem_singleton.mpr z)) e⟩
 ·exact⟨o,hs'.extBut b o (fun z=>hx (List.mem_singleton.mpr z)) e⟩
 ·exact fun b ob e=>by
   refine (I'.hok b ob e).lj (fun cc v hcc q=>hs'.extBut cc v ?_ q) (fun _ q=>q) fun _ _ q=>q
   rintro rfl
   rcases hcc with z|z
   ·rw[<- z,fC.1] at e;cases e
   ·rw[fC.1] at z;cases z
 ·rw[List.mem_singleton.mp hb]
  exact⟨fC.2.2.2.1,fC.2.1,fC.2.2.2.2.1,fC.2.2.2.2.2⟩
theorem PV{X:Cx}{N':List Str}{scope:Scope}{cl:List (Str×Addr)}{cap:List (Option Nat)}{E tg:Expr}{gc:Comprehension}{gs:List Comprehension}{src:DTI}{g:DTG}{te:DTE}
  {T0:String} {dt:Data} {oH:HO} {mk0:Mu->Addr->Mu} {rest:Value->Addr->Env->Sem PySem.Fin} {Kb:Addr->PyData->Rho->Mu->(Mu->Prop)->Prop} {fin:DK->Mu->Addr->Mu->Prop}
  (hclos:closureFor scope X.env=pure cl) (hC:CH X N' scope cl cap) (hi:DI X tg gc.iter src) (hg:∀fp be bi,DG (bK X N' scope cl fp be bi) tg g)
  (hE:clausesOf E=gc::gs) (hs:∀x,foldedSetIterable gc.iter X.env x=pure x)
  (hst:∀{R:Result->Shared->Prop} {s:Shared} {it acc:Value} {env:Env},codeAny (model X.prog X.w) X.A (.compLoop E 0 it acc env) R s->wpAny (model X.prog X.w) X.A (pyIter it) (fun it' s'=>codeAny (model X.prog X.w) X.A (.compLoop E 0 it' acc env) R s') (notedBy (model X.prog X.w) X.A env fun x s'=>R (.error x) s') s->codeAny (model X.prog X.w) X.A (.compStart E 0 it acc env) R s)
  (hT:∀(it:Value) (D:Addr) (env:Env),compTurn E 0 it (.ref D) env=(standAt gc.iter.pos>>=fun _=>pyNext it>>=fun r=>match r with
   |none=>pure (.done .next)
   |some v=>letOwnedTupleGo tg it v>>=fun _=>assign tg env v>>=fun _=>rest it D env))
  (hU:∀{it:Value} {D:Addr} {env:Env} {Q:PySem.Fin->Shared->Prop} {Er:Value->Shared->Prop} {s:Shared},wpAny (model X.prog X.w) X.A ((compTurn E 0 it (.ref D) env).onRaise fun x=>do noteFrame x env;theTreesLotGoes x) Q Er s->wpAny (model X.prog X.w) (X.A.under (.compLoop E 0 it (.ref D) env)) ((model X.prog X.w).den (.compLoop E 0 it (.ref D) env)) Q Er s)
  (hsz:sizeOk dt) (hob:∀(H:Hp) (h:Heap),jq X.prog X.w (upd H h.objs.size oH) (h.push {cls:=.type T0,dict:=none,data:=dt}) h.objs.size oH)
  (hm0:∀{ac:Mu} {H2:Hp} {p:Addr},cQ X.K ac H2->H2 p=none->X.K.lookup p=none->(p==sysModules)=false->cQ X.K (mk0 ac p) (upd H2 p oH)/\Ext X.K ac H2 (mk0 ac p) (upd H2 p oH))
  (hbd:∀{fp:List Addr} {s3:Shared} {H3:Hp} {pins:List (Addr×Obj)} {s:Shared} {Y:St} {H:Hp} {ρ:Rho} {U:Mu} {p:Addr} {d:PyData} {it:Value} {Qm:Mu->Prop} {Q:Shared->Prop},Inv (bK X N' scope cl fp s3 H3) pins Y H s->St0 X.K H ρ U Y->Kb p d ρ U Qm ->
   (∀s' al H' O,Inv (bK X N' scope cl fp s3 H3) pins al H' s'->St0 X.K H' ρ O al->Ext X.K U H O H'->Qm O->Q s') ->
   wpAny (model X.prog X.w) X.A (rest it p (bK X N' scope cl fp s3 H3).env) (fun r s'=>r = .again (.compLoop E 0 it (.ref p) (bK X N' scope cl fp s3 H3).env)/\Q s') (fun _ _=>False) s)
  (hte:∀ρ U Qd,te ρ U Qd->src ρ U fun xs ac=>∀p,ac p=none->ac.b p=none->∃P:Nat->Mu->Prop,P 0 (mk0 ac p)/\(∀i x O,xs[i]? = some x->P i O->g (.v x) (eP cap ρ) O fun ca ad=>Le (eP cap ρ) ca/\Kb p x ca ad (P (i+1)))/\∀O,P xs.length O->fin Qd ac p O)
  (hend:∀{Qd:DK} {Y:St} {ρ:Rho} {p:Addr} {U ac cr:Mu} {H H1 Hc:Hp},ac p=none->ac.b p=none->Ext X.K U H ac H1->St0 X.K H1 ρ ac Y->Ext X.K ac H1 cr Hc->cQ X.K cr Hc->fin Qd ac p cr->∃d db,Ext X.K U H db Hc/\St0 X.K Hc ρ db Y/\RpD X.K db Hc d (.ref p)/\Qd d db) :
  Core X E scope (newObj (.type T0) dt) gc.iter te:=by
 intro pos use QQ pins s Y H ρ U Qd I S h hd0
 obtain⟨wi,pw,li⟩:=hi
 refine wpAny_comprehension_free hE hs hclos hC.kind hC.nms (thn (pw pins s Y H _ I (li Y H ρ U _ (fun J H1=>∃xs ac,Ext X.K U H ac H1/\St0 X.K H1 ρ ac Y/\OY X.K J xs ac H1/\∀p,ac p=none->ac.b p=none->∃P:Nat->Mu->Prop,P 0 (mk0 ac p)/\(∀i x O,xs[i]? = some x->P i O->g (.v x) (eP cap ρ) O fun ca ad=>Le (eP cap ρ) ca/\Kb p x ca ad (P (i+1)))/\∀O,P xs.length O->fin Qd ac p O) S (hte _ _ _ h) (fun xs ac H1 J e1 S1 it q=>⟨xs,ac,e1,S1,it,q⟩)))
  fun v s1 h1=>thn h1 fun itv s2 h2=>?_)
 obtain⟨it,fp,tn,J,H2,rfl,I2,T,st2,f2,xs,ac,e1,S1,itok,allp⟩:=h2
 refine wpAny_newObj_type (wpAny_newFunctionEnv hC.cell (by intro y hy;simp at hy) (fun ld lw ms=>?_) hC.kind) hsz
 dsimp only at lw ms ⊢
 have hfree2:H2 s2.heap.objs.size=none:=I2.hok.fresh (le_refl _)
 have hK2:X.K.lookup s2.heap.objs.size=none:=by
  cases z:X.K.lookup s2.heap.objs.size with
  |none=>rfl
  |some o=>exact absurd (Heap.lt_size (I2.kIn _ _ z)) (lt_irrefl _)
 have I3:Inv X pins Y (upd H2 s2.heap.objs.size oH) {s2 with heap:=s2.heap.push {cls:=.type T0,dict:=none,data:=dt}}:=
  I2.laid (t':=s2.toks) (fun b u e=>Heap.get?_push_of_some _ e) (le_refl _) (hob _ _)
 generalize hH:s2.heap.push {cls:=.type T0,dict:=none,data:=dt} = hp3 at lw ms I3 ⊢
 have hsz3:hp3.objs.size=s2.heap.objs.size+1:=by rw[<- hH,Heap.size_push]
 have kept3:∀b o,hp3.get? b=some o->ld.get? b=some o:=fun b o e=>ms.extBut b o (ne_of_lt (Heap.lt_size e)) (Heap.get?_push_of_some _ e)
 have old3:∀b o,s2.heap.get? b=some o->hp3.get? b=some o:=fun b o e=>by rw[<- hH];exact Heap.get?_push_of_some _ e
 have fplt:∀b∈fp,b<s2.heap.objs.size:=fun b hb=>by obtain⟨o,e,_⟩:=T.obj 0 _ st2 b hb;exact Heap.lt_size e
 have fpst:∀b∈fp,b ∉ frs X.stack:=fun b hb hz=>by
  rcases List.mem_cons.mp (I2.CT b hz) with e|e
  ·exact (f2 b hb).2.1 e
  ·exact (f2 b hb).2.2.1 e
 obtain⟨s3,hs3⟩:∃s3:Shared,s3={s2 with heap:=hp3}:=⟨_,rfl⟩
 obtain⟨H3,hH3⟩:∃H3:Hp,H3=upd H2 s2.heap.objs.size oH:=⟨_,rfl⟩
 have heap3:s3.heap=hp3:=by rw[hs3]
 rw[<- hH3] at I3
 have I3':Inv X pins Y H3 s3:=by rw[hs3];exact I3
 have hloc:H3 hp3.objs.size=none:=by have:=I3'.hok.fresh (a:=hp3.objs.size) (by rw[heap3];exact le_refl _);exact this
 have okc:(bK X N' scope cl fp s3 H3).Ok:=by
  refine⟨I3.ok.mod,?_,I3.ok.glob,I3.ok.blt,le_refl _,fun x y a h1 h2=>I3.ok.inj x y a (hC.sub x a h1) (hC.sub y a h2),fun x hx=>hC.has x hx,fun x a h=>(nomatch h),I3.ok.hd,I3.ok.qt,I3.ok.frames,.inl rfl,fun b hb=>⟨?_,fun x a h=>(f2 b hb).2.2.2.2.1 x a (hC.sub x a h)⟩,
   I3'.bs,le_trans I3.ok.bsz I3'.sz,fun b o e hb=>?_,fun b hb=>fpst b hb,I3'.stack,I3'.IK⟩
  ·exact hC.kind
  ·show b≠s3.heap.objs.size
   rw[heap3,hsz3]
   exact ne_of_lt (Nat.lt_succ_of_lt (fplt b hb))
  ·rcases (f2 b hb).2.2.2.1 with z|z
   ·exact I3.ok.KG b o e z
   ·exact absurd (lt_of_lt_of_le (Heap.lt_size (I3.ok.bs b o e).1) z) (lt_irrefl _)
 have I4:Inv (bK X N' scope cl fp s3 H3) [] (eP cap Y) H3 {s2 with heap:=ld,toks:=s2.toks+([]:List (Str×Value)).length}:=by
  refine⟨okc,by show s2.os=s3.os;rw[hs3],I3.bare,Un.kept (by show ∀b o,s3.heap.get? b=some o->_;rw[heap3];exact kept3),⟨_,(by show ld.Ns s3.heap.objs.size _;rw[heap3];exact lw),fun i x v e1 e2 e3=>?_⟩,fun x a h=>?_,(by show H3 s3.heap.objs.size=none;rw[heap3];exact hloc),fun x a h=>I3.qY x a (hC.sub x a h),fun p hp=>?_,I3.hok.kept kept3,?_⟩
  ·obtain⟨j,h1,h2⟩:=F4 e2
   obtain⟨hN,hv,hnl,hk⟩:=hC.cap i j x h1 e1
   obtain⟨m,_,hl⟩:=I3.loc
   obtain⟨u,r,lk⟩:=hl j x v hN h2 hv
   refine⟨u,r,.inr ⟨hk,?_⟩⟩
   obtain⟨a,ha⟩:=hC.has x hk
   rcases lk with ⟨z,_⟩|⟨_,a',z1,z2⟩
   ·exact absurd z hnl
   ·have:a'=a:=by have q:=hC.sub x a ha;rw[z1] at q;exact Option.some.inj q
    subst this
    obtain⟨o,ho,hd⟩:=z2
    exact⟨a',ha,o,kept3 _ _ ho,hd⟩
  ·obtain⟨v,o,ho,hd⟩:=I3.cell x a (hC.sub x a h)
   exact⟨v,o,kept3 _ _ ho,hd⟩
  ·have hp':p∈X.pn++pins:=mem_append_left _ (by simpa using (show p∈X.pn++[] from hp))
   obtain⟨z1,z2,z3,z4,z5⟩:=I3'.pin p hp'
   refine⟨kept3 _ _ (by rw[<- heap3];exact z1),z2,(show p.1≠s3.heap.objs.size from ne_of_lt (Heap.lt_size z1)),fun z=>?_,z5⟩
   rcases List.mem_cons.mp (I3'.CT p.1 z) with e|e
   ·exact z3 e
   ·exact z4 e
  ·show (eP cap Y).length=N'.length
   unfold eP
   rw[length_map]
   exact hC.len
 have na:ac s2.heap.objs.size=none:=S1.mu.free hfree2
 have nw:ac.b s2.heap.objs.size=none:=S1.mu.Rc hfree2
 obtain⟨P,p0,body,hfin⟩:=allp s2.heap.objs.size na nw
 obtain⟨m0,x0⟩:=hm0 S1.mu hfree2 hK2 (OO I2)
 have loop:codeAny (model X.prog X.w) X.A (.compLoop E 0 (.ref it) (.ref s2.heap.objs.size) (bK X N' scope cl fp s3 H3).env)
   (compPost (model X.prog X.w) X.A X.xe use QQ (.ref s2.heap.objs.size) hp3.objs.size) {s2 with heap:=ld,toks:=s2.toks+([]:List (Str×Value)).length}:=by
  refine codeAny_loop rfl (fun n s'=>∃(i:Nat) (im:St) (Hc:Hp) (cr:Mu),n=xs.length-i/\i<=xs.length/\Inv (bK X N' scope cl fp s3 H3) [] im Hc s'/\tn i s'.heap/\(∀b∈fp,Hc b=none) /\
   P i cr/\St0 X.K Hc (eP cap ρ) cr im/\Ext X.K ac H2 cr Hc) (fun n s' hI=>?_) xs.length
   ⟨0,eP cap Y,H3,mk0 ac s2.heap.objs.size,by simp,zero_le _,I4,T.keep 0 _ _ st2 (fun b hb o e=>kept3 b o (old3 b o e)),fun b hb=>?_,p0,?_,?_⟩
  ·obtain⟨i,im,Hc,cr,rfl,hi,Ic,tc,frc,pvi,Sc,Ec⟩:=hI
   refine hU ?_
   refine wpAny_noted ?_
   rw[hT]
   have stat:∀{Hd:Hp},(∀b∈fp,Hd b=none)->∀b∈fp,AL (bK X N' scope cl fp s3 H3) [] Hd b:=fun hn b hb=>
    ⟨hn b hb,(okc.exf b hb).1,fpst b hb,.inl hb,fun x a h=>(okc.exf b hb).2 x a h,fun p hp=>(f2 b hb).2.2.2.2.2 p (mem_append_left _ (by simpa using (show p∈X.pn++[] from hp)))⟩
   obtain⟨go,stop⟩:=itok _ Hc Ec Sc.mu i
   refine wpAny_bind (wpAny_standAt (wpAny_bind ?_))
   by_cases hlt:i<xs.length
   ·obtain⟨g1,y1⟩:=go hlt
    refine wpAny_mono (T.item (bK X N' scope cl fp s3 H3) rfl rfl rfl (fun z=>z) i [] s' im Hc (fun _ _=>False) Ic (stat frc) tc g1) (fun r s4 hr=>?_) fun _ _ h'=>h'.elim
    obtain⟨u,rfl,h4⟩:=hr
    refine wpAny_bind (wpAny_mono h4 (fun _ s5 h5=>?_) fun _ _ h'=>h'.elim)
    obtain⟨x,H5,I5,r5,y5,st5,fr5⟩:=h5
    obtain⟨d,hd,sm,rd⟩:=y1 x H5 y5
    have I5':=I5.pinned (stat fr5) (T.obj _ _ st5)
    have e5:Ext X.K _ Hc _ H5:=.of_same (U:=cr) sm
    have S5:St0 X.K H5 (eP cap ρ) cr im:=⟨Sc.mu.Qs e5 sm,Sc.rho.ext Sc.mu e5⟩
    obtain⟨gt,pg,lg⟩:=hg fp s3 H3
    refine wpAny_bind (wpAny_mono (pg _ s5 im H5 x u (fun al H'=>∃am O,Ext X.K cr H5 O H'/\St0 X.K H' am O al/\Le (eP cap ρ) am/\Kb s2.heap.objs.size d am O (P (i+1))) I5' r5
     (lg im H5 (eP cap ρ) _ (.v d) x _ _ S5 rd (body i d cr hd pvi) fun al am O H' e' S' q=>⟨am,O,e',S',q⟩)) (fun _ s6 h6=>?_) fun _ _ h'=>h'.elim)
    obtain⟨tf,H6,I6,ul,lf,e6,S6,le6,q6⟩:=h6
    refine wpAny_mono (hbd (it:=.ref it) (Q:=fun s9=>∃m,m<xs.length-i/\∃(i:Nat) (im:St) (Hc:Hp) (cr:Mu),m=xs.length-i/\i<=xs.length/\Inv (bK X N' scope cl fp s3 H3) [] im Hc s9/\tn i s9.heap/\(∀b∈fp,Hc b=none) /\
     P i cr/\St0 X.K Hc (eP cap ρ) cr im/\Ext X.K ac H2 cr Hc) I6 S6 q6 fun s9 tz H9 rc I9 S9 e9 p9=>?_) (fun r s9 hr=>?_) fun _ _ h'=>h'.elim
    ·refine⟨xs.length-(i+1),∅,i+1,tz,H9,rc,rfl,hlt,I9.pN,T.keep _ _ _ st5 fun b hb o e=>(I9.pin (b,o) (mem_append_right _ (mem_append_right _ (jG hb e)))).1,fun b hb=>?_,p9,⟨S9.mu,S9.rho.le le6⟩,Ec.trans (e5.trans (e6.trans e9))⟩
     obtain⟨o,e,_⟩:=T.obj _ _ st5 b hb
     exact (I9.pin (b,o) (mem_append_right _ (mem_append_right _ (jG hb e)))).2.1
    ·obtain⟨rfl,q⟩:=hr
     exact⟨rfl,q⟩
   ·have ei:i=xs.length:=by omega
    subst ei
    refine wpAny_mono (T.done (bK X N' scope cl fp s3 H3) rfl rfl rfl (fun z=>z) _ [] s' im Hc (fun _ _=>False) Ic (stat frc) tc (stop rfl)) (fun r s4 hr=>?_) fun _ _ h'=>h'.elim
    obtain⟨rfl,I5⟩:=hr
    refine wpAny_pure ?_
    obtain⟨m,hn,_⟩:=I5.loc
    have hcC:Hc hp3.objs.size=none:=by have z:Hc s3.heap.objs.size=none:=I5.free;rw[heap3] at z;exact z
    obtain⟨d,db,eF,SF,rF,qF⟩:=hend na nw e1 S1 Ec Sc.mu (hfin _ pvi)
    refine hd0 s4 Hc hp3.objs.size s2.heap.objs.size m d db (by have z:s4.heap.Ns s3.heap.objs.size m:=hn;rw[heap3] at z;exact z) (I2.KH (by rw[hsz3];exact Nat.le_succ _) hcC) (fun h' hs'=>?_) eF SF rF qF
    have kp:∀b o,b<s2.heap.objs.size->s4.heap.get? b=some o->h'.get? b=some o:=fun b o hb e=>hs'.extBut b o (by rw[hsz3];exact ne_of_lt (Nat.lt_succ_of_lt hb)) e
    have hok':HOk X.prog X.w Hc h':=fun b ob e=>by
     refine (I5.hok b ob e).lj (fun cc v hcc q=>hs'.extBut cc v ?_ q) (fun _ q=>q) fun _ _ q=>q
     rintro rfl
     rcases hcc with z|z
     ·rw[<- z,hcC] at e;cases e
     ·rw[hcC] at z;cases z
    have u1:Un (frs X.stack) fp H2 H3 s2.heap s3.heap:=by rw[heap3,hH3];exact Un.laid old3 (le_refl _) hfree2
    have u2:Un (frs X.stack) fp H3 Hc s3.heap s4.heap:=I5.base
    exact I2.NN (ch:=fp) (by show s4.os=s2.os;have z:s4.os=s3.os:=I5.os;rw[z,hs3]) (Un.after (u1.trans u2) kp) hok' I5.bare fun b hb=>⟨(f2 b hb).2.2.2.1,(f2 b hb).2.1,(f2 b hb).2.2.2.2.1,(f2 b hb).2.2.2.2.2⟩
  ·have z:b≠s2.heap.objs.size:=ne_of_lt (fplt b hb)
   rw[hH3,bN z]
   exact (f2 b hb).1
  ·rw[hH3]
   exact⟨m0,(S1.rho.ext S1.mu x0).cap⟩
  ·rw[hH3]
   exact x0
 have envE:(bK X N' scope cl fp s3 H3).env=compEnvC scope cl hp3.objs.size X.env:=by show compEnvC scope cl s3.heap.objs.size X.env=_;rw[heap3]
 rw[envE] at loop
 exact hst loop (T.self X.A 0 _ _ _ (T.keep 0 _ _ st2 (fun b hb o e=>kept3 b o (old3 b o e))) loop)
theorem Ih{X:Cx}{N':List Str}{scope:Scope}{cl:List (Str×Addr)}{cap:List (Option Nat)}
  (h1:∀y∈scope.names,y.2≠.cell:=by decide +kernel) (h2:scope.kind = .function:=by rfl) (h3:∀y∈scope.names,y.2 = .local->scope.names.lookup y.1=some .local:=by decide +kernel)
  (h4:∀x a,cl.lookup x=some a->X.env.cells.lookup x=some a:=by intro _ _ h;first|exact h|exact cl1 h|exact cl2 nofun h|exact cl3 nofun h|exact As (si rfl Jx) _ _ h|exact As (si rfl (si rfl Jx)) _ _ h|exact As (si rfl (si rfl (si rfl Jx))) _ _ h|exact As (si rfl (si rfl (si rfl (si rfl Jx)))) _ _ h|exact As (si rfl (si rfl (si rfl (si rfl (si rfl Jx))))) _ _ h|exact As Jx _ _ h|cases h)
  (h5:∀x,(relabel scope X.env).names.lookup x=some .cell\/(relabel scope X.env).names.lookup x=some .free->∃a,cl.lookup x=some a:=by exact P7 rfl) (h6:cap.length=N'.length:=by rfl)
  (h7:∀(i j:Nat) (x:Str),cap[i]? = some (some j)->N'[i]? = some x->X.N[j]? = some x/\Vis X.env.scope x/\X.env.kindOf x≠some .local/\((relabel scope X.env).names.lookup x=some .cell\/(relabel scope X.env).names.lookup x=some .free):=by exact G1 (by repeat' first|exact trivial|refine⟨SM,?_⟩)):CH X N' scope cl cap:=⟨h1,h2,h3,h4,h5,h6,h7⟩
section
variable {X:Cx}{N':List Str}{scope:Scope}{cl:List (Str×Addr)}{iter tg:Expr}{ifs:List Expr}{pos:Pos}{cap:List (Option Nat)}{src:DTI}{g:DTG}{c:DTT}
theorem EC{elt:Expr}{te te0:DTE}{fin:DK->Addr->List PyData->Mu->Prop}(hclos:closureFor scope X.env=pure cl)(hi:DI X tg iter src)(hg:∀fp be bi,DG (bK X N' scope cl fp be bi) tg g)(hif:∀fp be bi,Au (bK X N' scope cl fp be bi) ifs c)(he:∀fp be bi,DE (bK X N' scope cl fp be bi) elt te)
  (hC:CH X N' scope cl cap) (hs:∀x,foldedSetIterable iter X.env x=pure x)
  (hte0:∀ρ U Qd,te0 ρ U Qd->src ρ U fun xs ac=>xs.length<=1000/\∀p,ac p=none->∃Pv:Nat->List PyData->Mu->Prop,Pv 0 [] (bD ac p []) /\
   (∀i x acc O,xs[i]? = some x->O p=some acc->Pv i acc O->g (.v x) (eP cap ρ) O fun ca ad=>Le (eP cap ρ) ca/\c ca ad fun b ap=>
    if b=true then te ca ap fun d bn=>bn p=some acc/\(match d with|.v y=>Pv (i+1) (acc++[y]) (bD bn p (acc++[y]))|_=>False) else ap p=some acc/\Pv (i+1) acc ap) /\
   (∀acc O,Pv xs.length acc O->O p=some acc->fin Qd p acc O))
  (hend:∀{Qd:DK} {Y:St} {ρ:Rho} {p:Addr} {acc:List PyData} {U ac cr:Mu} {H H1 Hc:Hp},ac p=none->Ext X.K U H ac H1->St0 X.K H1 ρ ac Y->Ext X.K ac H1 cr Hc->cQ X.K cr Hc->cr p=some acc->fin Qd p acc cr->∃d db,Ext X.K U H db Hc/\St0 X.K Hc ρ db Y/\RpD X.K db Hc d (.ref p)/\Qd d db) :
  Core X (.ListComp elt [⟨tg,iter,ifs,0⟩] scope pos) scope (newList []) iter te0:=by
 refine PV (gc:=⟨tg,iter,ifs,0⟩) (oH:=.lst []) (mk0:=fun U p=>bD U p [])
  (Kb:=fun p _ ρ U R=>upT c ρ U fun b ap=>if b=true then upE te ρ ap fun d bn=>∃acc y,bn p=some acc/\acc.length<=1000/\d = .v y/\R (bD bn p (acc++[y])) else R ap)
  (fin:=fun Qd _ p O=>∃acc,O p=some acc/\fin Qd p acc O)
  hclos hC (NO hi) (fun a b c=>N0 (hg a b c)) rfl hs codeAny_compStart_list (fun it D env=>compTurn_list elt tg iter ifs scope pos it (.ref D) env) (fun h=>h) (zero_le _) (fun H h=>⟨zero_le _,[],0,.nil,Heap.get?_push_size _ rfl⟩)
  (fun m f k _=>⟨m.mut .nil f k,yi m f k⟩) ?_ ?_ (fun h1 _ e1 S1 Ec Sc hF=>let ⟨_,hp,q⟩:=hF;hend h1 e1 S1 Ec Sc hp q)
 ·intro fp s3 H3 pins s Y H ρ U p d it Qm Q I S q k
  refine wpAny_bind (wpAny_mono (Ib (hif fp s3 H3) pins s Y H ρ U _ (fun b H'=>∃O,Ext X.K U H O H'/\St0 X.K H' ρ O Y/\if b=true then upE te ρ O fun d bn=>∃acc y,bn p=some acc/\acc.length<=1000/\d = .v y/\Qm (bD bn p (acc++[y])) else Qm O) I S q fun b O H' e' S' q=>⟨O,e',S',q⟩)
   (fun ok s7 h7=>?_) fun _ _ h'=>h'.elim)
  obtain⟨H7,I7,gV,e7,S7,q7⟩:=h7
  cases ok with
  |false=>
   rw[if_neg ⋯] at q7
   exact wpAny_pure ⟨rfl,k _ _ _ _ I7 S7 e7 q7⟩
  |true=>
   rw[if_pos rfl] at q7
   refine wpAny_bind (wpAny_bind (wpAny_mono ((Ob (he fp s3 H3)).use I7 S7 q7) (fun v s8 h8=>?_) fun _ _ h'=>h'.elim))
   obtain⟨d',v8,jp,H8,I8,r8,e8,S8,ry,acc,y,pa,hle,rfl,q8⟩:=h8
   obtain⟨us,hacc,rus⟩:=S8.mu.lst p _ pa
   refine wpAny_bind (wpAny_mono (BY (X:=bK X N' scope cl fp s3 H3) _ s8 Y H8 (.ref p) [v8] (.ref p) [v] (fun _ H'=>H'=upd H8 p (.lst (us++[v8]))) I8 rfl (.cons r8 .nil) ⟨_,us,v8,rfl,rfl,hacc,by rw[<- rus.length];exact jB hle,rfl⟩) (fun _ s9 h9=>?_) fun _ _ h'=>h'.elim)
   obtain⟨_,H9,I9,_,e9⟩:=h9
   subst e9
   have ex:Ext X.K jp H8 (bD jp p (acc++[y])) (upd H8 p (.lst (us++[v8]))):=nu pa
   exact wpAny_pure (wpAny_pure ⟨rfl,k _ _ _ _ I9 ⟨S8.mu.set pa (rus.append (.cons ry .nil)),S8.rho.ext S8.mu ex⟩ (e7.trans (e8.trans ex)) q8⟩)
 ·intro ρ U Qd h
  refine⟨_,hte0 _ _ _ h,fun xs ac hx p hp _=>?_⟩
  obtain⟨hl,f⟩:=hx
  obtain⟨Pv,p0,body,fin⟩:=f p hp
  refine⟨fun i O=>∃acc,O p=some acc/\acc.length<=i/\Pv i acc O,⟨[],bg,le_refl _,p0⟩,fun i x O hx hP=>?_,fun O hP=>?_⟩
  ·obtain⟨acc,e,l,v⟩:=hP
   have li:i<xs.length:=(List.getElem?_eq_some_iff.mp hx).1
   refine⟨_,body i x acc O hx e v,fun ca ad hq=>⟨hq.1,_,hq.2,fun b ap r=>?_⟩⟩
   cases b with
   |false=>
    rw[if_neg ⋯] at r ⊢
    exact⟨acc,r.1,Nat.le_succ_of_le l,r.2⟩
   |true=>
    rw[if_pos rfl] at r ⊢
    refine⟨_,r,fun d bn hm=>?_⟩
    obtain⟨e4,m⟩:=hm
    split at m
    ·exact⟨acc,_,e4,∅,rfl,_,bg,by rw[length_append];exact Nat.succ_le_succ l,m⟩
    ·exact m.elim
  ·obtain⟨acc,e,_,v⟩:=hP
   exact⟨acc,e,fin acc O v e⟩
theorem Cd{elt:Expr}{te:DTE}(hclos:closureFor scope X.env=pure cl)(hi:DI X tg iter src)(hg:∀fp be bi,DG (bK X N' scope cl fp be bi) tg g)(hif:∀fp be bi,Au (bK X N' scope cl fp be bi) ifs c)(he:∀fp be bi,DE (bK X N' scope cl fp be bi) elt te)
  (hC:CH X N' scope cl cap) (hs:∀x,foldedSetIterable iter X.env x=pure x):Core X (.ListComp elt [⟨tg,iter,ifs,0⟩] scope pos) scope (newList []) iter (dq cap src g c te):=by
 refine EC (fin:=fun Qd p acc O=>Qd (.v (.list acc)) (jW O p)) hclos hi hg hif he hC hs (fun _ _ _ h=>h) ?_
 intro Qd Y ρ p acc U ac cr H H1 Hc na e1 S1 Ec Sc hpa q
 obtain⟨us,hacc,rus⟩:=Sc.lst p _ hpa
 have shr:∀a,cr a=none->jW cr p a=none:=fun a e=>by
  by_cases z:a=p
  ·rw[z];exact ka
  ·rw[fb z];exact e
 have dne:∀a ds,jW cr p a=some ds->cr a=some ds:=fun a ds e=>by
  by_cases z:a=p
  ·rw[z,ka] at e;cases e
  ·rw[fb z] at e;exact e
 have eF:Ext X.K ac H1 (jW cr p) Hc:=by
  refine⟨Ec.keep,Ec.tb,fun b ds q=>?_,fun b q z=>shr b (Ec.fresh b q z),Ec.st,fun b c q=>Ec.bx b c q⟩
  obtain⟨es,q2⟩:=Ec.dom b ds q
  have:b≠p:=fun z=>by rw[z,na] at q;cases q
  exact⟨es,by rw[fb this];exact q2⟩
 have mF:cQ X.K (jW cr p) Hc:=⟨fun a ds q=>by
  obtain⟨ys,z1,z2⟩:=Sc.lst a ds (dne a ds q)
  exact⟨ys,z1,z2.shrink shr⟩,Sc.tab,fun a c q=>let ⟨z,o,w1,w2⟩:=Sc.box a c q;⟨z,o,w1,w2.shrink shr⟩⟩
 exact⟨.v (.list acc),_,e1.trans eF,⟨mF,S1.rho.ext S1.mu eF⟩,Rp.list hacc ka (rus.shrink shr),q⟩
theorem GP{elt:Expr}{te:DTE}(hclos:closureFor scope X.env=pure cl)(hi:DI X tg iter src)(hg:∀fp be bi,DG (bK X N' scope cl fp be bi) tg g)(hif:∀fp be bi,Au (bK X N' scope cl fp be bi) ifs c)(he:∀fp be bi,DE (bK X N' scope cl fp be bi) elt te)
  (hC:CH X N' scope cl cap) (hs:∀x,foldedSetIterable iter X.env x=pure x):Core X (.ListComp elt [⟨tg,iter,ifs,0⟩] scope pos) scope (newList []) iter (Dn cap src g c te):=
 EC (fin:=fun Qd p acc O=>Qd (.m p) O) hclos hi hg hif he hC hs (fun _ _ _ h=>h) fun {_ _ _ p acc _ _ _ _ _ _} _ e1 S1 Ec Sc hp q=>⟨.m p,_,e1.trans Ec,⟨Sc,S1.rho.ext S1.mu Ec⟩,⟨rfl,acc,hp⟩,q⟩
end
section
variable {X:Cx}{N':List Str}{scope:Scope}{cl:List (Str×Addr)}{iter tg:Expr}{ifs:List Expr}{pos:Pos}{cap:List (Option Nat)}{src:DTI}{g:DTG}{c:DTT}
theorem BJ{elt:Expr}{te:DTE}(hclos:closureFor scope X.env=pure cl)(hi:DI X tg iter src)(hg:∀fp be bi,DG (bK X N' scope cl fp be bi) tg g)(hif:∀fp be bi,Au (bK X N' scope cl fp be bi) ifs c)(he:∀fp be bi,DE (bK X N' scope cl fp be bi) elt te)
  (hC:CH X N' scope cl cap:=by exact Ih) (hs:∀x,foldedSetIterable iter X.env x=pure x:=by intro _;rfl):DE X (.ListComp elt [⟨tg,iter,ifs,0⟩] scope pos) (dq cap src g c te):=Ig (Cd hclos hi hg hif he hC hs) (eval_ListComp _ _ _ _)
theorem BR{elt:Expr}{te:DTE}(hclos:closureFor scope X.env=pure cl)(hi:DI X tg iter src)(hg:∀fp be bi,DG (bK X N' scope cl fp be bi) tg g)(hif:∀fp be bi,Au (bK X N' scope cl fp be bi) ifs c)(he:∀fp be bi,DE (bK X N' scope cl fp be bi) elt te)
  (hC:CH X N' scope cl cap:=by exact Ih) (hs:∀x,foldedSetIterable iter X.env x=pure x:=by intro _;rfl):DE X (.ListComp elt [⟨tg,iter,ifs,0⟩] scope pos) (rg cap src g c te):=
 RI (BJ hclos (NO hi) (fun a b c=>N0 (hg a b c)) (fun a b c=>Ib (hif a b c)) (fun a b c=>Ob (he a b c)) hC hs) fun _ _ _=>Jp
theorem AD{i:Nat}{x:Str}{pos' spos:Pos}{elt:Expr}{te:DTE}(hN:X.N.Nodup)(hix:X.N[i]? = some x)(hx:X.env.scope.names.lookup x=some .local)(hclos:closureFor scope X.env=pure cl)(hi:DI X tg iter src)(hg:∀fp be bi,DG (bK X N' scope cl fp be bi) tg g)(hif:∀fp be bi,Au (bK X N' scope cl fp be bi) ifs c)(he:∀fp be bi,DE (bK X N' scope cl fp be bi) elt te)
  (hC:CH X N' scope cl cap:=by exact Ih) (hs:∀x,foldedSetIterable iter X.env x=pure x:=by intro _;rfl) (hsw:swapsWith (.ListComp elt [⟨tg,iter,ifs,0⟩] scope pos) (some (.Name x pos')) spos.line X.env=pure true:=by rfl):DS X (.Assign [.Name x pos'] (.ListComp elt [⟨tg,iter,ifs,0⟩] scope pos) spos) (aR (dq cap src g c te) (ak i)):=
 Nb (Cd hclos hi hg hif he hC hs) hN hix hx hsw rfl
theorem RB{elt:Expr}{te:DTE}(hclos:closureFor scope X.env=pure cl)(hi:DI X tg iter src)(hg:∀fp be bi,DG (bK X N' scope cl fp be bi) tg g)(hif:∀fp be bi,Au (bK X N' scope cl fp be bi) ifs c)(he:∀fp be bi,DE (bK X N' scope cl fp be bi) elt te)
  (hC:CH X N' scope cl cap:=by exact Ih) (hs:∀x,foldedSetIterable iter X.env x=pure x:=by intro _;rfl):DE X (.ListComp elt [⟨tg,iter,ifs,0⟩] scope pos) (Dn cap src g c te):=Ig (GP hclos hi hg hif he hC hs) (eval_ListComp _ _ _ _)
end
open PySem PySem.W PyProof.Rows
open PySem PySem.W PySem.Calls PyProof.Rows
noncomputable abbrev T3:=Int×Int×Int
open PySem PySem.Spec PyProof.Rows NM
section
variable {U:Mu}{Q:DK}{ds:List D}{x y:N3}
theorem BH(a b c:Int):PyData.tuple [.int a,.int b,.int c]=dN ⟨a,b,c⟩:=rfl
theorem vP:ax (.v (dN x)) (.v (.int 0)) U Q=Q (.v (.int x.a)) U:=by unfold dN;rw[pF]
theorem vQ:ax (.v (dN x)) (.v (.int 1)) U Q=Q (.v (.int x.b)) U:=by unfold dN;rw[pK]
theorem vY:ax (.v (dN x)) (.v (.int 2)) U Q=Q (.v (.int x.c)) U:=by unfold dN;rw[oO]
theorem eqN:PyData.eqv (dN x) (dN y)=decide (x=y):=by
 unfold dN
 rw[RF,Bool.eq_iff_iff]
 simp only[decide_eq_true_eq]
 exact⟨fun h=>N3.ext' h.1 h.2.1 h.2.2,fun h=>by subst h;exact⟨rfl,rfl,rfl⟩⟩
theorem Ce{neg:Bool}:bV neg (.v (dN x)) (.v (dN y)) U Q=Q (.v (.bool (neg ^^ decide (x=y)))) U:=by
 rw[IE,eqN]
 exact propext ⟨fun h=>h.2.2,fun h=>⟨rfl,rfl,h⟩⟩
theorem KI(h:Ok x):isNum (dN x)=true:=by
 have:=h.c
 show (decide (1<=x.c)&&(g3 x.a x.b x.c==1))=true
 rw[h.g]
 simp;omega
theorem IP:Few (dN x):=by simp[dN,Few]
theorem Pm{d a b c:Int}(h:av d)(hc:0<c):sg d (low a b c).a (low a b c).b=sg d a b:=by
 obtain⟨k,hk,hs,p1,p2,p3,_⟩:=iX a b (show c≠0 by omega)
 have e:=l6 (a:=(low a b c).a) (b:=(low a b c).b) h (hs.mpr hc)
 rw[<- p1,<- p2] at e
 exact e.symm
theorem J3{d:Int}(h:av d)(ox:Ok x)(oy:Ok y):sg d (times d x y).a (times d x y).b=sg d x.a x.b*sg d y.a y.b:=by
 unfold times
 rw[Pm h (mul_pos ox.c oy.c),Hf h]
theorem Ks{lo:Int}{n i:Nat}{x:PyData}(h:(o4 lo n)[i]? = some x):x = .int (lo+i)/\i<n:=by
 unfold o4 at h
 rw[getElem?_map] at h
 by_cases hi:i<n
 ·rw[List.getElem?_range hi] at h
  cases h
  exact⟨rfl,hi⟩
 ·rw[List.getElem?_eq_none (by simpa using hi)] at h
  cases h
theorem yQ{lo:Int}{n:Nat}:(o4 lo n).length=n:=by unfold o4;simp
end
theorem NU{α:Type}{P:α->Prop}:∀x∈([]:List α),P x:=fun _ h=>nomatch h
theorem zG{α:Type}{P:α->Prop}{a:α}{l:List α}(h:P a)(t:∀x∈l,P x):∀x∈a::l,P x:=List.forall_mem_cons.mpr ⟨h,t⟩
structure Tg{α:Sort u}(x:α):Type where
noncomputable def hd{α:Sort u}(x:α)(_:Tg x):α:=x
section
variable {ρ:Rho}{U:Mu}{Q:DK}{QT:Bool->Mu->Prop}{Dd:oI}{ta tb tc:DTE}{t u:DTT}{tA:DTA}{s1 s2:DTS}{d:D}{A B:Prop}{p:Tg A}{q:Tg B}
theorem RE{w:Tg Q}:hd Q w d U=Q d U:=propext Iff.rfl
theorem l_T{i:Decidable True}:(if True then hd A p else hd B q)=A:=if_pos trivial
theorem l_F{i:Decidable False}:(if False then hd A p else hd B q)=B:=if_neg id
theorem l_t{i:Decidable (true=true)}:(if true=true then hd A p else hd B q)=A:=if_pos rfl
theorem l_f{i:Decidable (false=true)}:(if false=true then hd A p else hd B q)=B:=if_neg Bool.false_ne_true
theorem HX{c:Prop}{i:Decidable c}(h:c):(if c then hd A p else hd B q)=A:=if_pos h
theorem IG{c:Prop}{i:Decidable c}(h:¬ c):(if c then hd A p else hd B q)=B:=if_neg h
theorem N4{c:Prop}{i:Decidable c}(h:c->A)(g:¬ c->B):if c then hd A p else hd B q:=by split<;>rename_i z<;>first|exact h z|exact g z
theorem Rn{i j:Int}{k:Decidable True}:(if True then i else j)=i:=if_pos trivial
theorem Q9{i j:Int}{k:Decidable False}:(if False then i else j)=j:=if_neg id
theorem RW{r}:dOp r ta tb ρ U Q=ta ρ U fun x ac=>tb ρ ac fun y ad=>r x y ad (hd Q .mk):=propext Iff.rfl
theorem N8{g:DTG}:aR ta g Dd ρ U=ta ρ U (hd (fun d ac=>g d ρ ac Dd.nx) .mk):=propext Iff.rfl
theorem QF{rd}:dCB rd tA ρ U Q=tA ρ U fun ds ac=>rd ds ac (hd Q .mk):=propext Iff.rfl
theorem K3{dsp:DSp}:aq dsp tA ρ U Q=tA ρ U fun ds ac=>dsp ds ac (hd Q .mk):=propext Iff.rfl
theorem Lr:lH t u ρ U QT=t ρ U fun c ac=>if c=true then hd (u ρ ac QT) .mk else hd (QT false ac) .mk:=propext Iff.rfl
theorem NZ:fM t u ρ U QT=t ρ U fun c ac=>if c=true then hd (QT true ac) .mk else hd (u ρ ac QT) .mk:=propext Iff.rfl
theorem Ky:fh ta tb ρ U Q=ta ρ U fun x ac=>match x with|.v (.bool c)=>if c=true then hd (tb ρ ac Q) .mk else hd (Q (.v (.bool false)) ac) .mk|_=>False:=propext Iff.rfl
theorem R3:dIf t ta tb ρ U Q=t ρ U fun c ac=>if c=true then hd (ta ρ ac Q) .mk else hd (tb ρ ac Q) .mk:=propext Iff.rfl
theorem N2:bQ t s1 s2 Dd ρ U=t ρ U fun b ac=>if b=true then hd (s1 Dd ρ ac) .mk else hd (s2 Dd ρ ac) .mk:=propext Iff.rfl
theorem HU{r r'}:oG r r' ta tb tc ρ U Q=ta ρ U fun x ac=>tb ρ ac fun y ad=>r x y ad fun z ap=>match z with
 |.v (.bool k)=>if k=true then hd (tc ρ ap fun w bn=>r' y w bn Q) .mk else hd (Q (.v (.bool false)) ap) .mk
 |_=>False:=propext Iff.rfl
end
local macro_rules|`(tactic| walk_at "rn")=>mkW "↓lh ↓lD ↓nE ↓rY ↓sC ↓sf ↓rS ↓sR ↓tw ↓sy ↓mY ↓q_c ↓K7 ↓q_B ↓GX ↓AB ↓Ao ↓yC ↓Es ↓sG ↓Af ↓sY ↓LJ ↓qo ↓jT ↓zC ↓Av ↓rT ↓AI ↓yt ↓zJ ↓yp ↓Ae ↓zq ↓yY ↓nP ↓sP ↓sD ↓pF ↓pK ↓oO ↓rP ↓p6 ↓ky ↓Ar ↓yW ↓yn ↓tH ↓sL ↓G0 ↓j6 ↓rX ↓zR ↓Ja ↓rC ↓tI ↓sW ↓qq ↓zh ↓GF ↓rL ↓nK ↓yJ ↓AA ↓gn ↓o9 ↓kT ↓pY ↓sF ↓F1 ↓Am ↓tF ↓qW ↓yX ↓rO ↓FX ↓nJ ↓pT ↓zN ↓zp ↓sU ↓tN ↓j2 ↓iR ↓mX ↓iZ ↓j8 ↓j1 ↓ko EY ↓rV ↓kF j3 jE pf oQ qX bind_none bind_some join_some getElem?_cons_zero getElem?_cons_succ aG BH vP vQ vY Ce lZ pE qS ug wG List.map List.append List.replicate length_cons length_nil Nat.reduceAdd Nat.reduceSub nil_append cons_append set_cons_zero set_cons_succ map_some ↓reduceIte Bool.not_true Bool.not_false false_eq_true true_eq_false xor_false false_xor"
theorem mU{a b c f g h k l m n n11}{o:Rho}:ae 11 (a::b::c::f::g::h::k::l::m::n::n11::some d::o) U Q=Q d U:=propext Iff.rfl
theorem x9{a b c f g h k l m n n11 n12}{o:Rho}:ae 12 (a::b::c::f::g::h::k::l::m::n::n11::n12::some d::o) U Q=Q d U:=propext Iff.rfl
theorem xX{a b c f g h k l m n n11 n12 n13}{o:Rho}:ae 13 (a::b::c::f::g::h::k::l::m::n::n11::n12::n13::some d::o) U Q=Q d U:=propext Iff.rfl
theorem yb{a b c f g h k l m n n11 n12 n13 n14}{o:Rho}:ae 14 (a::b::c::f::g::h::k::l::m::n::n11::n12::n13::n14::some d::o) U Q=Q d U:=propext Iff.rfl
theorem HM{to:DTE}{ρ:Rho}{U:Mu}{Q:DK}:Oq to ρ U Q=to ρ U fun x ac=>match x with
 |.m l=>(match ac l with
  |some xs=>∃d,xs[xs.length-1]? = some d/\Q (.v d) (bD ac l xs.dropLast)
  |none=>False)
 |_=>False:=propext Iff.rfl
theorem HZ{to te:DTE}{ρ:Rho}{U:Mu}{Q:DK}:vU to te ρ U Q=to ρ U fun x ac=>match x with
 |.m l=>te ρ ac fun y ad=>(match y,ad l with
  |.v (.int i),some xs=>(0<=i/\i<1000)/\∃d,xs[i.toNat]? = some d/\Q (.v d) (bD ad l (xs.eraseIdx i.toNat))
  |_,_=>False)
 |_=>False:=propext Iff.rfl
theorem Eb{to:DTE}{ρ:Rho}{U:Mu}{Q:Bool->Mu->Prop}:J6 to ρ U Q=to ρ U fun x ac=>match x with
 |.m l=>(match ac l with|some xs=>Q (!xs.isEmpty) ac|none=>False)
 |_=>False:=propext Iff.rfl
theorem RJ{i:Nat}{te:DTE}{Dd:oI}{ρ:Rho}{U:Mu}:PD i te Dd ρ U = ∃a:Int,ρ[i]? = some (some (.v (.int a)))/\te ρ U fun y ac=>match y with
 |.v (.int b)=>Dd.nx (ρ.set i (some (.v (.int (a+b))))) ac
 |_=>False:=propext Iff.rfl
theorem Il{ys:List PyData}{U:Mu}{Q:DK}:FW [.v (.list ys)] U Q=(match cz ys with|some ns=>0<ns.length/\∀M∈ns,(∀a∈ns,M<=a)->Q (.v (.int M)) U|none=>False):=propext Iff.rfl
theorem II{ys:List PyData}{U:Mu}{Q:DK}:ED [.v (.list ys)] U Q=(match cz ys with|some ns=>0<ns.length/\∀M∈ns,(∀a∈ns,a<=M)->Q (.v (.int M)) U|none=>False):=propext Iff.rfl
noncomputable def aQ(s:Str):PyData->Bool
 |.str x=>decide (x=s)
 |_=>false
theorem NG(x:PyData)(s:Str):PyData.eqv x (.str s)=aQ s x:=by
 cases x<;>first|rfl|(simp[PyData.eqv,aQ];done)|(simp[PyData.eqv,aQ];rfl)
noncomputable def intD:PyData->Int
 |.int i=>i
 |_=>0
structure Sh(t:PyData):Prop where
 lay:t.canLay0=true
 dep:t.depth<=60
theorem Sh.shaped{t:PyData}(h:Sh t):SeqAt.shaped t=true:=by
 unfold SeqAt.shaped
 rw[h.lay,Bool.true_and,decide_eq_true_eq]
 have:=h.dep;omega
theorem Io:∀{xs:List PyData},PyData.canLayAll0 xs=true->∀x∈xs,x.canLay0=true
 |[],_,_,h=>nomatch h
 |y::r,e,x,h=>by
  rw[PyData.canLayAll0,and_eq_true] at e
  rcases List.mem_cons.mp h with z|z
  ·rw[z];exact e.1
  ·exact Io e.2 x z
theorem Cr:∀{xs:List PyData} {n:Nat},PyData.depthAll xs<=n->∀x∈xs,x.depth<=n
 |[],_,_,_,h=>nomatch h
 |y::r,n,e,x,h=>by
  rw[PyData.depthAll] at e
  rcases List.mem_cons.mp h with z|z
  ·rw[z];omega
  ·exact Cr ∅ x z
theorem Sh.mem{xs:List PyData}(h:Sh (.tuple xs)):∀x∈xs,Sh x:=fun x hx=>⟨Io (by have:=h.lay;rw[PyData.canLay0] at this;exact this) x hx,by
 have:=h.dep
 rw[PyData.depth] at this
 exact Cr (n:=60) ∅ x hx⟩
theorem bj{w:PyData}{s:Str}{neg:Bool}{U:Mu}{Q:DK}(hw:SeqAt.shaped w=true)(hs:SeqAt.shaped (.str s)=true):bV neg (.v w) (.v (.str s)) U Q=Q (.v (.bool (neg ^^ aQ s w))) U:=by
 rw[IE,NG]
 exact propext ⟨fun h=>h.2.2,fun h=>⟨hw,hs,h⟩⟩
theorem js:SeqAt.shaped (.str "kind")=true:=nofun
theorem jt:SeqAt.shaped (.str "turn")=true:=nofun
theorem g9:SeqAt.shaped (.str "grid")=true:=nofun
theorem mf:SeqAt.shaped (.str "upon")=true:=nofun
theorem uS:SeqAt.shaped (.str "beside")=true:=nofun
noncomputable def di(m:Int)(w x:PyData):Option (List PyData):=
 if aQ "kind" w=true then (if (isWhole x&&(decide (0<=intD x)&&decide (intD x<m)))=true then some [] else none)
 else if aQ "turn" w=true then some [x]
 else if (aQ "upon" w || aQ "beside" w)=true then (match x with|.tuple xs=>if 2<=xs.length/\xs.length<=8 then some xs else none|_=>none)
 else none
noncomputable def kH(w u v x:PyData):Option (List PyData):=
 if aQ "grid" w=true then (if ((isWhole u&&decide (1<=intD u))&&(isWhole v&&decide (1<=intD v)))=true then some [x] else none) else none
noncomputable def iJ(m:Int):PyData->Option (List PyData)
 |.tuple [w,x]=>di m w x
 |.tuple [w,u,v,x]=>kH w u v x
 |_=>none
noncomputable def cnt(m:Int):Nat->PyData->Nat
 |0,_=>0
 |n+1,t=>match iJ m t with
  |none=>0
  |some ps=>if (ps.map (cnt m n)).all (fun c=>decide (0<c))=true then 1+(ps.map (cnt m n)).sum else 0
noncomputable def okN(c:Nat):Bool:=decide (0<c)&&decide (c<=60)
noncomputable def uj:DSp:=fun ds U Q=>∃t,ds=[.v t]/\Q (.v (.bool (isWhole t&&decide (1<=intD t)))) U
theorem FZ{U:Mu}{Q:DK}{ds:List D}(h:uj ds U Q):ds.length=1:=by obtain⟨_,rfl,_⟩:=h;rfl
noncomputable def Ds:DSp:=fun ds U Q=>∃(t:PyData) (m:Int),ds=[.v t,.v (.int m)]/\Sh t/\Q (.v (.bool (iJ m t).isSome)) U
theorem GV{U:Mu}{Q:DK}{ds:List D}(h:Ds ds U Q):ds.length=2:=by obtain⟨_,_,rfl,_⟩:=h;rfl
noncomputable def um:DSp:=fun ds U Q=>∃(t:PyData) (m:Int) (ps:List PyData),ds=[.v t]/\Sh t/\iJ m t=some ps/\Q (.v (.list ps)) U
theorem F5{U:Mu}{Q:DK}{ds:List D}(h:um ds U Q):ds.length=1:=by obtain⟨_,_,_,rfl,_⟩:=h;rfl
noncomputable def qK:DSp:=fun ds U Q=>∃(t:PyData) (m:Int),ds=[.v t,.v (.int m)]/\Sh t/\∀O,(∀b ds,U b=some ds->O b=some ds)->Q (.v (.bool (okN (cnt m 12 t)))) O
theorem Br{U:Mu}{Q:DK}{ds:List D}(h:qK ds U Q):ds.length=2:=by obtain⟨_,_,rfl,_⟩:=h;rfl
theorem IQ{x:Str}:isT "str" (.str x)=true:=rfl
theorem Iu{xs:List PyData}:isT "tuple" (.tuple xs)=true:=rfl
theorem Mt{u:Int}:isWhole (.int u)=true:=rfl
theorem HL:decide (((2:Nat):Int)<2)=false:=rfl
theorem IA:decide (((0:Nat):Int)<2)=true:=rfl
theorem HY:decide (((1:Nat):Int)<2)=true:=rfl
theorem HI:decide (((3:Nat):Int)<2)=false:=rfl
theorem ID:decide (((4:Nat):Int)<2)=false:=rfl
theorem Ny:decide (((2:Nat):Int)=2)=true:=rfl
theorem Ml:decide (((3:Nat):Int)=2)=false:=rfl
theorem Nz:decide (((4:Nat):Int)=2)=false:=rfl
theorem MW:decide (((2:Nat):Int)=4)=false:=rfl
theorem M7:decide (((3:Nat):Int)=4)=false:=rfl
theorem Mj:decide (((4:Nat):Int)=4)=true:=rfl
theorem IJ{n:Nat}:decide (((n+1+1+1+1+1:Nat):Int)<2)=false:=decide_eq_false ∅
theorem Nt{n:Nat}:decide (((n+1+1+1+1+1:Nat):Int)=2)=false:=decide_eq_false ∅
theorem NC{n:Nat}:decide (((n+1+1+1+1+1:Nat):Int)=4)=false:=decide_eq_false ∅
theorem CM{m:Nat}:decide (((m+1:Nat):Int)=0)=false:=decide_eq_false ∅
theorem MP{m:Nat}:decide ((0:Int)<=(m:Int))=true:=decide_eq_true ∅
theorem Sw:aQ "upon" (.str "kind")=false:=by decide
theorem SR:aQ "turn" (.str "kind")=false:=by decide
theorem Nr:aQ "turn" (.str "upon")=false:=by decide
theorem MH:aQ "turn" (.str "beside")=false:=by decide
theorem L6:aQ "turn" (.str "grid")=false:=by decide
theorem GC:aQ "turn" (.str "turn")=true:=by decide
theorem Sk:aQ "grid" (.str "turn")=false:=by decide
theorem Nu:aQ "grid" (.str "upon")=false:=by decide
theorem M1:aQ "grid" (.str "beside")=false:=by decide
theorem Ex:aQ "grid" (.str "grid")=true:=by decide
theorem SY:aQ "beside" (.str "upon")=false:=by decide
theorem GL:aQ "kind" (.str "turn")=false:=by decide
theorem MF:aQ "kind" (.str "upon")=false:=by decide
theorem LR:aQ "kind" (.str "beside")=false:=by decide
theorem Mq:aQ "kind" (.str "grid")=false:=by decide
theorem Kr:aQ "kind" (.str "kind")=true:=by decide
theorem MY:aQ "upon" (.str "upon")=true:=by decide
theorem L3:aQ "upon" (.str "beside")=false:=by decide
theorem Te:aQ "upon" (.str "turn")=false:=by decide
theorem QV:aQ "upon" (.str "grid")=false:=by decide
theorem Su:aQ "beside" (.str "beside")=true:=by decide
theorem Tc:aQ "beside" (.str "turn")=false:=by decide
theorem Rj:aQ "beside" (.str "grid")=false:=by decide
local macro_rules|`(tactic| walk_at "rl")=>mkW "↓bj js jt g9 mf uS Kr SR Sw GL GC Te Tc Sk MF Nr Nu MY SY LR MH M1 L3 Su Mq L6 QV Rj Ex ↓RE ↓l_t ↓l_f l_T l_F Rn Q9 ↓F3 cz IQ Iu Mt HL IA HY HI ID Ny Ml Nz MW M7 Mj IJ Nt NC CM MP decide_true decide_false xor_true true_xor ↓mU ↓x9 ↓xX ↓yb ↓HM ↓Eb ↓Il ↓II ↓lh ↓lD ↓nE ↓rY ↓sC ↓sf ↓rS ↓sR ↓tw ↓sy ↓mY ↓q_c ↓RW ↓q_B ↓GX ↓AB ↓Ao ↓Lr ↓NZ ↓sG ↓Ky ↓sY ↓R3 ↓qo ↓jT ↓zC ↓Av ↓rT ↓AI ↓yt ↓zJ ↓yp ↓Ae ↓zq ↓yY ↓nP ↓sP ↓sD ↓pF ↓pK ↓oO ↓rP ↓p6 ↓ky ↓Ar ↓yW ↓yn ↓tH ↓sL ↓G0 ↓j6 ↓rX ↓zR ↓QF ↓rC ↓tI ↓sW ↓qq ↓zh ↓GF ↓rL ↓nK ↓yJ ↓AA ↓gn ↓o9 ↓kT ↓pY ↓sF ↓N8 ↓Am ↓tF ↓qW ↓yX ↓rO ↓N2 ↓nJ ↓K3 ↓zN ↓zp ↓sU ↓HU ↓j2 ↓iR ↓mX ↓iZ ↓j8 ↓j1 ↓ko EY j3 jE pf oQ qX bind_none bind_some join_some getElem?_cons_zero getElem?_cons_succ aG BH vP vQ vY Ce lZ pE qS ug wG map_cons map_nil List.append List.replicate length_cons length_nil Nat.reduceAdd Nat.reduceSub nil_append cons_append set_cons_zero set_cons_succ map_some Bool.not_true Bool.not_false false_eq_true true_eq_false xor_false false_xor"
local macro_rules|`(tactic| walk_at "rt")=>mkW "↓F3 cz IQ Iu Mt HL IA HY HI ID Ny Ml Nz MW M7 Mj IJ Nt NC CM MP decide_true decide_false xor_true true_xor ↓mU ↓x9 ↓xX ↓yb ↓HM ↓HZ ↓Eb ↓Il ↓II ↓lh ↓lD ↓nE ↓rY ↓sC ↓sf ↓rS ↓sR ↓tw ↓sy ↓mY ↓q_c ↓K7 ↓q_B ↓GX ↓AB ↓Ao ↓yC ↓Es ↓sG ↓Af ↓sY ↓LJ ↓qo ↓jT ↓zC ↓Av ↓rT ↓AI ↓yt ↓zJ ↓yp ↓Ae ↓zq ↓yY ↓nP ↓sP ↓sD ↓pF ↓pK ↓oO ↓rP ↓p6 ↓ky ↓Ar ↓yW ↓yn ↓tH ↓sL ↓G0 ↓j6 ↓rX ↓zR ↓Ja ↓rC ↓tI ↓sW ↓qq ↓zh ↓GF ↓rL ↓nK ↓yJ ↓AA ↓gn ↓o9 ↓kT ↓pY ↓sF ↓F1 ↓Am ↓tF ↓qW ↓yX ↓rO ↓FX ↓nJ ↓pT ↓zN ↓zp ↓sU ↓tN ↓j2 ↓iR ↓mX ↓iZ ↓j8 ↓j1 ↓ko EY ↓rV ↓kF j3 jE pf oQ qX bind_none bind_some join_some getElem?_cons_zero getElem?_cons_succ aG BH vP vQ vY Ce lZ pE qS ug wG List.map List.append List.replicate length_cons length_nil Nat.reduceAdd Nat.reduceSub nil_append cons_append set_cons_zero set_cons_succ map_some ↓reduceIte Bool.not_true Bool.not_false false_eq_true true_eq_false xor_false false_xor"
noncomputable def oY:DTS:=
 (aT (fh (aq eZ (ab (ae 0) ao)) (dOp rGe (ae 0) (dC (.int 1)))))
noncomputable def pB:DTS:=
 (aC (bQ (fM (dn (dB (wb "tuple" (ae 0)))) (dB (dOp rLt (dCB cL (ab (ae 0) ao)) (dC (.int 2))))) (aT (dC (.bool false))) aW)
 (aC (aR (dOp ax (ae 0) (dC (.int 0))) (ak 2))
 (aC (bQ (dB (dOp (bV false) (ae 2) (dC (.str "grid")))) (aT (fh (dOp (bV false) (dCB cL (ab (ae 0) ao)) (dC (.int 4))) (fh (aq uj (ab (dOp ax (ae 0) (dC (.int 1))) ao)) (aq uj (ab (dOp ax (ae 0) (dC (.int 2))) ao))))) aW)
 (aC (bQ (dB (dOp (bV true) (dCB cL (ab (ae 0) ao)) (dC (.int 2)))) (aT (dC (.bool false))) aW)
 (aC (bQ (dB (dOp (bV false) (ae 2) (dC (.str "kind")))) (aT (fh (aq eZ (ab (dOp ax (ae 0) (dC (.int 1))) ao)) (fh (dOp rGe (dOp ax (ae 0) (dC (.int 1))) (dC (.int 0))) (dOp rLt (dOp ax (ae 0) (dC (.int 1))) (ae 1))))) aW)
 (aC (bQ (fM (dB (dOp (bV false) (ae 2) (dC (.str "upon")))) (dB (dOp (bV false) (ae 2) (dC (.str "beside"))))) (aT (fh (wb "tuple" (dOp ax (ae 0) (dC (.int 1)))) (fh (dOp rGe (dCB cL (ab (dOp ax (ae 0) (dC (.int 1))) ao)) (dC (.int 2))) (dOp rLe (dCB cL (ab (dOp ax (ae 0) (dC (.int 1))) ao)) (dC (.int 8)))))) aW)
 (aT (dOp (bV false) (ae 2) (dC (.str "turn"))))))))))
noncomputable def qh:DTS:=
 (aC (aR (dOp ax (ae 0) (dC (.int 0))) (ak 1))
 (aC (bQ (dB (dOp (bV false) (ae 1) (dC (.str "kind")))) (aT (g8 ao)) aW)
 (aC (bQ (fM (dB (dOp (bV false) (ae 1) (dC (.str "upon")))) (dB (dOp (bV false) (ae 1) (dC (.str "beside"))))) (aT (dCB vZ (ab (dOp ax (ae 0) (dC (.int 1))) ao))) aW)
 (aT (g8 (ab (dOp ax (ae 0) (D8 (dC (.int 1)))) ao))))))
noncomputable def se:DTS:=
 (aC (aR (zk (ab (cS (ab (ae 0) (ab (dC (.int 1)) ao))) ao)) (ak 2))
 (aC (aR (dC (.int 0)) (ak 3))
 (aC (tE (J6 (ae 2)) (aC (aR (Oq (ae 2)) (gO 2 (bh (ak 4) (bh (ak 5) hR))))
 (aC (PD 3 (dC (.int 1)))
 (aC (bQ (fM (dB (dOp rGt (ae 3) (dC (.int 60)))) (fM (dB (dOp rGt (ae 5) (dC (.int 12)))) (dn (dB (aq Ds (ab (ae 4) (ab (ae 1) ao))))))) (aT (dC (.bool false))) aW)
 (vE (dU (aq um (ab (ae 4) ao))) (ak 6) (oS (Ei (ae 2) (cS (ab (ae 6) (ab (fi (ae 5) (dC (.int 1))) ao))))))))))
 (aT (dC (.bool true))))))
section
variable {U:Mu}{Qd:DK}{ds:List D}
theorem mW{t:PyData}(h:isWhole t=true):∃i,t = .int i:=by
 cases t<;>first|exact⟨_,rfl⟩|(exfalso;exact Bool.false_ne_true h)
theorem E1(h:uj ds U Qd):oY ‹Qd› (aG ["thing"] ds) U:=by
 obtain⟨t,rfl,q⟩:=h
 unfold oY
 walk_at "rt"
 refine⟨t,rfl,?_⟩
 walk_at "rt"
 cases e:isWhole t with
 |true=>
  obtain⟨i,rfl⟩:=mW e
  walk_at "rt"
  exact q
 |false=>
  rw[e] at q
  walk_at "rt"
  exact q
theorem nN{s:Str}{w:PyData}(h:aQ s w=true):w = .str s:=by
 cases w<;>first|(exfalso;exact Bool.false_ne_true h)|(rename_i x;have:x=s:=of_decide_eq_true h;rw[this])
theorem MU{m:Int}{x:PyData}:di m (.str "grid") x=none:=by
 unfold di
 rw[if_neg ⋯,if_neg ⋯,if_neg ⋯]
noncomputable def wK:PyData->Option (List PyData)
 |.tuple xs=>if 2<=xs.length/\xs.length<=8 then some xs else none
 |_=>none
theorem HH{m:Int}{x:PyData}:di m (.str "upon") x=wK x:=by
 unfold di
 rw[if_neg ⋯,if_neg ⋯,if_pos ⋯]
 unfold wK
 cases x<;>rfl
theorem Ca{m:Int}{x:PyData}:di m (.str "beside") x=wK x:=by
 unfold di
 rw[if_neg ⋯,if_neg ⋯,if_pos ⋯]
 unfold wK
 cases x<;>rfl
theorem E8{x:PyData}(q':Qd (.v (.bool (wK x).isSome)) U):if isT "tuple" x=true then
   cL [.v x] U fun x_1 ac=>rGe x_1 (.v (.int 2)) ac fun x_2 ac=>match x_2 with
    |.v (.bool c)=>if c=true then cL [.v x] ac fun x ac=>rLe x (.v (.int 8)) ac Qd else Qd (.v (.bool false)) ac
    |_=>False
  else Qd (.v (.bool false)) U:=by
 rcases qE x with ⟨xs,rfl,e⟩|⟨hn,e⟩
 ·rw[e]
  walk_at "rt"
  have q2:Qd (.v (.bool (if 2<=xs.length/\xs.length<=8 then some xs else none).isSome)) U:=q'
  by_cases c1:2<=xs.length
  ·rw[decide_eq_true (by omega:(2:Int)<=(xs.length:Nat))]
   simp only[↓reduceIte]
   by_cases c2:xs.length<=8
   ·rw[decide_eq_true (by omega:((xs.length:Nat):Int)<=8)]
    rw[if_pos ⟨c1,c2⟩] at q2
    exact q2
   ·rw[decide_eq_false (by omega:¬ ((xs.length:Nat):Int)<=8)]
    rw[if_neg (fun z=>c2 z.2)] at q2
    exact q2
  ·rw[decide_eq_false (by omega:¬ (2:Int)<=(xs.length:Nat))]
   simp only[false_eq_true,↓reduceIte]
   rw[if_neg (fun z=>c1 z.1)] at q2
   exact q2
 ·rw[e]
  have:wK x=none:=by cases x<;>first|rfl|exact absurd rfl (hn _)
  rw[this] at q'
  simp only[false_eq_true,↓reduceIte]
  exact q'
theorem Fz(h:Ds ds U Qd):pB ‹Qd› (aG ["thing","many","word"] ds) U:=by
 obtain⟨t,m,rfl,hs,q⟩:=h
 unfold pB
 rcases qE t with ⟨xs,rfl,e⟩|⟨hn,e⟩
 ·have hw:=hs.mem
  rcases xs with _|⟨w,_|⟨x,_|⟨y,_|⟨z,_|⟨r,rs⟩⟩⟩⟩⟩
  ·walk_at "rl";exact q
  ·walk_at "rl";exact q
  ·have sw:=(hw w (by simp)).shaped
   have q':Qd (.v (.bool (di m w x).isSome)) U:=q
   walk_at "rl"
   simp only[bj sw g9,false_xor]
   cases e1:aQ "grid" w with
   |true=>
    have ew:=nN e1
    subst ew
    rw[MU] at q'
    walk_at "rl"
    exact q'
   |false=>
    walk_at "rl"
    simp only[bj sw js,false_xor]
    cases e2:aQ "kind" w with
    |true=>
     unfold di at q'
     rw[if_pos e2] at q'
     walk_at "rl"
     refine⟨x,rfl,?_⟩
     cases ex:isWhole x with
     |true=>
      obtain⟨i,rfl⟩:=mW ex
      walk_at "rl"
      have q2:Qd (.v (.bool (if (true&&(decide (0<=i)&&decide (i<m)))=true then some ([]:List PyData) else none).isSome)) U:=q'
      by_cases c1:0<=i
      ·rw[decide_eq_true c1] at q2 ⊢
       simp only[Bool.true_and] at q2
       walk_at "rl"
       cases c2:decide (i<m)<;>rw[c2] at q2<;>exact q2
      ·rw[decide_eq_false c1] at q2 ⊢
       simp only[Bool.true_and,Bool.false_and,false_eq_true,↓reduceIte] at q2
       walk_at "rl"
       exact q2
     |false=>
      rw[ex] at q'
      walk_at "rl"
      exact q'
    |false=>
     walk_at "rl"
     simp only[bj sw mf,false_xor]
     cases e3:aQ "upon" w with
     |true=>
      have ew:=nN e3
      subst ew
      rw[HH] at q'
      walk_at "rl"
      exact E8 q'
     |false=>
      walk_at "rl"
      simp only[bj sw uS,false_xor]
      cases e4:aQ "beside" w with
      |true=>
       have ew:=nN e4
       subst ew
       rw[Ca] at q'
       walk_at "rl"
       exact E8 q'
      |false=>
       walk_at "rl"
       simp only[bj sw jt,false_xor]
       unfold di at q'
       rw[if_neg (by rw[e2];decide),e3,e4] at q'
       cases e5:aQ "turn" w with
       |true=>rw[if_pos e5] at q';exact q'
       |false=>rw[if_neg (by rw[e5];decide),if_neg ⋯] at q';exact q'
  ·have sw:=(hw w (by simp)).shaped
   walk_at "rl"
   simp only[bj sw g9,false_xor]
   cases e1:aQ "grid" w<;>walk_at "rl"<;>exact q
  ·have sw:=(hw w (by simp)).shaped
   have q':Qd (.v (.bool (kH w x y z).isSome)) U:=q
   walk_at "rl"
   simp only[bj sw g9,false_xor]
   unfold kH at q'
   cases e1:aQ "grid" w with
   |true=>
    rw[if_pos e1] at q'
    walk_at "rl"
    refine⟨x,rfl,?_⟩
    cases c1:(isWhole x&&decide (1<=intD x)) with
    |true=>
     walk_at "rl"
     refine⟨y,rfl,?_⟩
     rw[c1] at q'
     cases c2:(isWhole y&&decide (1<=intD y))<;>rw[c2] at q'<;>exact q'
    |false=>
     rw[c1] at q'
     walk_at "rl"
     exact q'
   |false=>rw[if_neg (by rw[e1];decide)] at q';walk_at "rl";exact q'
  ·have sw:=(hw w (by simp)).shaped
   walk_at "rl"
   simp only[bj sw g9,false_xor]
   cases e1:aQ "grid" w<;>walk_at "rl"<;>exact q
 ·walk_at "rl"
  rw[e]
  walk_at "rl"
  have:iJ m t=none:=by cases t<;>first|rfl|exact absurd rfl (hn _)
  rw[this] at q
  exact q
theorem yH{m:Int}{t:PyData}{ps:List PyData}(h:iJ m t=some ps):(∃x,t = .tuple [.str "kind",x]/\ps=[])\/(∃x,t = .tuple [.str "turn",x]/\ps=[x])\/((∃xs,t = .tuple [.str "upon",.tuple xs]/\ps=xs/\2<=xs.length/\xs.length<=8)\/(∃xs,t = .tuple [.str "beside",.tuple xs]/\ps=xs/\2<=xs.length/\xs.length<=8))\/(∃u v x,t = .tuple [.str "grid",u,v,x]/\ps=[x]):=by
 unfold iJ at h
 split at h
 ·rename_i w x
  unfold di at h
  split at h
  ·rename_i e
   rw[nN e]
   split at h
   ·cases h;exact .inl ⟨x,rfl,rfl⟩
   ·cases h
  ·split at h
   ·rename_i e
    rw[nN e]
    cases h;exact .inr (.inl ⟨x,rfl,rfl⟩)
   ·split at h
    ·rename_i e
     have hx:∃xs,x = .tuple xs/\(2<=xs.length/\xs.length<=8)/\ps=xs:=by
      split at h
      ·rename_i xs
       split at h
       ·rename_i c;cases h;exact⟨_,rfl,c,rfl⟩
       ·cases h
      ·cases h
     obtain⟨xs,rfl,c,rfl⟩:=hx
     rw[Bool.or_eq_true] at e
     rcases e with e|e
     ·rw[nN e];exact .inr (.inr (.inl (.inl ⟨_,rfl,rfl,c.1,c.2⟩)))
     ·rw[nN e];exact .inr (.inr (.inl (.inr ⟨_,rfl,rfl,c.1,c.2⟩)))
    ·cases h
 ·rename_i w u v x
  unfold kH at h
  split at h
  ·rename_i e
   rw[nN e]
   split at h
   ·cases h;exact .inr (.inr (.inr ⟨u,v,x,rfl,rfl⟩))
   ·cases h
  ·cases h
 ·cases h
theorem Ct{m:Int}{t:PyData}{ps:List PyData}(h:iJ m t=some ps)(hs:Sh t):(∀p∈ps,Sh p)/\ps.length<=8:=by
 rcases yH h with ⟨x,rfl,rfl⟩|⟨x,rfl,rfl⟩|(⟨xs,rfl,rfl,c1,c2⟩|⟨xs,rfl,rfl,c1,c2⟩)|⟨u,v,x,rfl,rfl⟩
 ·exact⟨fun _ z=>(nomatch z),by simp⟩
 ·exact⟨fun p z=>by rw[List.mem_singleton.mp z];exact hs.mem x (by simp),by simp⟩
 ·exact⟨(hs.mem (.tuple ps) (by simp)).mem,c2⟩
 ·exact⟨(hs.mem (.tuple ps) (by simp)).mem,c2⟩
 ·exact⟨fun p z=>by rw[List.mem_singleton.mp z];exact hs.mem x (by simp),by simp⟩
theorem Fl(h:um ds U Qd):qh ‹Qd› (aG ["plan","word"] ds) U:=by
 obtain⟨t,m,ps,rfl,hs,hf,q⟩:=h
 unfold qh
 rcases yH hf with ⟨x,rfl,rfl⟩|⟨x,rfl,rfl⟩|(⟨xs,rfl,rfl,c1,c2⟩|⟨xs,rfl,rfl,c1,c2⟩)|⟨u,v,x,rfl,rfl⟩
 ·walk_at "rl"
  exact q
 ·walk_at "rl"
  exact q
 ·walk_at "rl"
  exact q
 ·walk_at "rl"
  exact q
 ·walk_at "rl"
  exact q
noncomputable def ent(e:PyData×Nat):PyData:=.tuple [e.1,.int (e.2:Nat)]
noncomputable def wt(m:Int)(e:PyData×Nat):Nat:=cnt m (13-e.2) e.1
noncomputable def Good(m:Int)(S:List (PyData×Nat))(c:Nat):Prop:=(∀e∈S,0<wt m e)/\c+(S.map (wt m)).sum<=60
theorem Dl(xs ys:List Nat):(xs++ys).sum=xs.sum+ys.sum:=List.sum_append
theorem Az{m:Int}{L:List (PyData×Nat)}{e:PyData×Nat}{c:Nat}(h:Good m (L++[e]) c):0<wt m e/\c+1<=60:=by
 have p:=h.1 e (by simp)
 have s:=h.2
 rw[map_append,Dl] at s
 simp only[map_cons,map_nil,sum_cons,List.sum_nil] at s
 exact⟨p,∅⟩
theorem cnt_none{m:Int}{n:Nat}{t:PyData}(h:iJ m t=none):cnt m n t=0:=by
 cases n with
 |zero=>rfl
 |succ n=>simp only[cnt,h]
theorem mj{m:Int}{n:Nat}{t:PyData}{ps:List PyData}(h:iJ m t=some ps):cnt m (n+1) t=if (ps.map (cnt m n)).all (fun c=>decide (0<c))=true then 1+(ps.map (cnt m n)).sum else 0:=by
 simp only[cnt,h]
theorem Jm{m:Int}{L:List (PyData×Nat)}{t:PyData}{d c:Nat}{ps:List PyData}(hd:d<=12)(hf:iJ m t=some ps):Good m (L++ps.map (fun p=>(p,d+1))) (c+1)↔Good m (L++[(t,d)]) c:=by
 obtain⟨n,hn⟩:∃n,13-d=n+1:=⟨12-d,∅⟩
 have e1:wt m (t,d)=if (ps.map (cnt m n)).all (fun c=>decide (0<c))=true then 1+(ps.map (cnt m n)).sum else 0:=by
  show cnt m (13-d) t=_
  rw[hn,mj hf]
 have e2:∀p,wt m (p,d+1)=cnt m n p:=fun p=>by show cnt m (13-(d+1)) p=_;congr 1;omega
 have e3:(ps.map (fun p=>(p,d+1))).map (wt m)=ps.map (cnt m n):=by
  rw[map_map];exact List.map_congr_left fun p _=>e2 p
 unfold Good
 rw[map_append,map_append,Dl,Dl,e3]
 simp only[map_cons,map_nil,sum_cons,List.sum_nil,Nat.add_zero]
 rw[e1]
 by_cases ha:(ps.map (cnt m n)).all (fun c=>decide (0<c))=true
 ·rw[if_pos ha]
  have hp:∀p∈ps,0<cnt m n p:=fun p hp=>by
   have:=List.all_eq_true.mp ha (cnt m n p) (mem_map_of_mem hp)
   exact of_decide_eq_true this
  constructor
  ·rintro ⟨h1,h2⟩
   refine⟨fun e he=>?_,∅⟩
   rcases List.mem_append.mp he with z|z
   ·exact h1 e (mem_append_left _ z)
   ·rw[List.mem_singleton.mp z,e1,if_pos ha];omega
  ·rintro ⟨h1,h2⟩
   refine⟨fun e he=>?_,∅⟩
   rcases List.mem_append.mp he with z|z
   ·exact h1 e (mem_append_left _ z)
   ·obtain⟨p,hp',rfl⟩:=List.mem_map.mp z
    rw[e2];exact hp p hp'
 ·rw[if_neg ha]
  constructor
  ·rintro ⟨h1,h2⟩
   exfalso
   apply ha
   rw[all_eq_true]
   intro x hx
   obtain⟨p,hp',rfl⟩:=List.mem_map.mp hx
   have:=h1 (p,d+1) (mem_append_right _ (mem_map_of_mem hp'))
   rw[e2] at this
   exact decide_eq_true this
  ·rintro ⟨h1,h2⟩
   exfalso
   have:=h1 (t,d) (by simp)
   rw[e1,if_neg ha] at this
   omega
theorem Hm{m:Int}{t:PyData}:Good m [(t,1)] 0↔okN (cnt m 12 t)=true:=by
 unfold Good okN
 have:wt m (t,1)=cnt m 12 t:=rfl
 simp only[List.mem_singleton,forall_eq,map_cons,map_nil,sum_cons,List.sum_nil,this,and_eq_true,decide_eq_true_eq]
 omega
theorem Hl(h:qK ds U Qd):se ‹Qd› (aG ["thing","many","waiting","counted","plan","depth","part"] ds) U:=by
 obtain⟨t,m,rfl,hs,q⟩:=h
 unfold se
 walk_at "rt"
 intro pw hpw
 rw[HR]
 refine⟨fun k ρ O=>∃(S:List (PyData×Nat)) (c:Nat) (r4 r5 r6:Option D),ρ=[some (.v t),some (.v (.int m)),some (.m pw),some (.v (.int c)),r4,r5,r6]/\O pw=some (S.map ent)/\(∀b ds,b≠pw->U b=some ds->O b=some ds)/\(∀e∈S,Sh e.1)/\S.length<=1+8*c/\c<=60/\k=61-c/\(Good m S c↔okN (cnt m 12 t)=true),
  ⟨61,[(t,1)],0,none,none,none,rfl,bg,fun b ds hb e=>by rw[aV hb];exact e,fun e he=>by rw[List.mem_singleton.mp he];exact hs,by simp,∅,rfl,Hm⟩,?_⟩
 rintro k ρ O ⟨S,c,r4,r5,r6,rfl,hm,hk,hS,hl,hc,rfl,hg⟩
 have keep:∀b ds,U b=some ds->O b=some ds:=fun b ds e=>hk b ds (fun z=>by rw[z,hpw] at e;cases e) e
 walk_at "rt"
 rw[hm]
 rcases List.eq_nil_or_concat S with rfl|⟨L,e,rfl⟩
 ·have:okN (cnt m 12 t)=true:=hg.mp ⟨fun _ z=>(nomatch z),by simpa using hc⟩
  have q':=q O keep
  rw[this] at q'
  exact q'
 ·obtain⟨t',d⟩:=e
  rw[List.concat_eq_append] at hm hS hl hg
  have nok:¬ Good m (L++[(t',d)]) c->okN (cnt m 12 t)=false:=fun h=>by
   cases z:okN (cnt m 12 t) with
   |true=>exact absurd (hg.mpr z) h
   |false=>rfl
  have hemp:(List.map ent (L++[(t',d)])).isEmpty=false:=by simp
  rw[List.concat_eq_append]
  dsimp only
  rw[hemp]
  simp only[Bool.not_false,↓reduceIte]
  have hkw:∀b ds,U b=some ds->bD O pw (List.map ent L) b=some ds:=fun b ds e=>by
   have hb:b≠pw:=fun z=>by rw[z,hpw] at e;cases e
   rw[aV hb];exact hk b ds hb e
  refine⟨ent (t',d),by simp,?_⟩
  have edl:(List.map ent (L++[(t',d)])).dropLast=List.map ent L:=by simp
  rw[edl]
  show gO 2 (bh (ak 4) (bh (ak 5) hR)) (.v (.tuple [t',.int (d:Nat)])) _ _ _
  have q0:okN (cnt m 12 t)=false->Qd (.v (.bool false)) (bD O pw (List.map ent L)):=fun z=>by
   have:=q _ hkw
   rw[z] at this
   exact this
  have st':Sh t':=hS (t',d) (by simp)
  walk_at "rt"
  refine⟨trivial,?_⟩
  rw[RJ]
  refine⟨c,rfl,?_⟩
  walk_at "rl"
  by_cases c1:60<(c:Int)+1
  ·rw[HX (by simpa using c1)]
   exact q0 (nok fun g=>by have:=Az g;omega)
  ·rw[IG (by simpa using c1)]
   walk_at "rl"
   by_cases c2:12<(d:Int)
   ·rw[HX (by simpa using c2)]
    refine q0 (nok fun g=>?_)
    have h0:wt m (t',d)=0:=by show cnt m (13-d) t'=0;rw[show 13-d=0 by omega];rfl
    have:=Az g;omega
   ·rw[IG (by simpa using c2)]
    walk_at "rl"
    refine⟨t',m,rfl,st',?_⟩
    walk_at "rl"
    cases hf:iJ m t' with
    |none=>
     simp only[Option.isSome_none]
     walk_at "rl"
     refine q0 (nok fun g=>?_)
     have h0:wt m (t',d)=0:=cnt_none hf
     have:=Az g;omega
    |some ps=>
     simp only[Option.isSome_some]
     walk_at "rl"
     obtain⟨hps,lps⟩:=Ct hf st'
     rw[vo]
     walk_at "rt"
     refine⟨t',m,ps,rfl,st',hf,?_⟩
     rw[length_append,List.length_singleton] at hl
     refine⟨fun i ρ ad=>∃r6,ρ=[some (.v t),some (.v (.int m)),some (.m pw),some (.v (.int ((c:Int)+1))),some (.v t'),some (.v (.int (d:Nat))),r6]/\ad pw=some (List.map ent (L++(ps.take i).map (fun p=>(p,d+1))))/\∀b,b≠pw->ad b=O b,⟨_,rfl,by rw[bg];simp,fun b hb=>aV hb⟩,?_,?_⟩
     ·rintro i x ρ ad hx ⟨r6,rfl,hm2,hk2⟩
      have hi:i<ps.length:=by
       rcases Nat.lt_or_ge i ps.length with z|z
       ·exact z
       ·rw[List.getElem?_eq_none z] at hx;cases hx
      walk_at "rt"
      simp only[hm2]
      refine⟨?_,_,rfl,?_,fun b hb=>by rw[aV hb];exact hk2 b hb⟩
      ·rw[length_map,length_append,length_map,length_take];omega
      ·rw[bg,take_succ,hx]
       simp[ent]
     ·rintro ρ ad ⟨r6,rfl,hm2,hk2⟩
      rw[take_length] at hm2
      refine⟨61-(c+1),∅,L++ps.map (fun p=>(p,d+1)),c+1,_,_,_,rfl,hm2,fun b ds hb e=>by rw[hk2 b hb];exact hk b ds hb e,fun e he=>?_,?_,∅,rfl,(Jm ∅ hf).trans hg⟩
      ·rcases List.mem_append.mp he with z|z
       ·exact hS e (mem_append_left _ z)
       ·obtain⟨p,hp,rfl⟩:=List.mem_map.mp z
        exact hps p hp
      ·rw[length_append,length_map];omega
end
noncomputable def dP(n:Nat):DSp:=fun ds U Q=>∃(t:PyData) (m:Int) (deep:Nat),ds=[.v t,.v (.int m),.v (.int deep)]/\deep<n/\Sh t/\∀O,(∀b ds,U b=some ds->O b=some ds)->Q (.v (.int (cnt m deep t))) O
theorem AZ{n:Nat}{U:Mu}{Q:DK}{ds:List D}(h:dP n ds U Q):ds.length=3:=by obtain⟨_,_,_,rfl,_⟩:=h;rfl
theorem y7{U:Mu}{Q:DK}{ds:List D}(h:dP 0 ds U Q):False:=by obtain⟨_,_,_,_,h,_⟩:=h;omega
noncomputable def jz:DSp:=fun ds U Q=>∃(t:PyData) (m:Int),ds=[.v t,.v (.int m)]/\Sh t/\∀O,(∀b ds,U b=some ds->O b=some ds)->Q (.v (.bool (okN (cnt m 12 t)))) O
theorem A9{U:Mu}{Q:DK}{ds:List D}(h:jz ds U Q):ds.length=2:=by obtain⟨_,_,rfl,_⟩:=h;rfl
noncomputable def zS:DSp:=fun ds U Q=>∃a:Addr,ds=[.m a]/\Bag U a/\∀g O,1<=g->g<=1000000->Step a U O->Q (.v (.int g)) O
theorem Hu{U:Mu}{Q:DK}{ds:List D}(h:zS ds U Q):ds.length=1:=by obtain⟨_,rfl,_⟩:=h;rfl
theorem ER(s:Str)(x:PyData):PyData.eqv (.str s) x=aQ s x:=by
 cases x with
 |str y=>
  have e:PyData.eqv (.str s) (.str y)=decide (s=y):=by simp[PyData.eqv];rfl
  rw[e]
  show decide (s=y)=decide (y=s)
  rw[Bool.eq_iff_iff,decide_eq_true_eq,decide_eq_true_eq]
  exact eq_comm
 |_=>first|rfl|simp[PyData.eqv,aQ]
theorem Kw:PyData.canLayAll0 [.str "upon",.str "beside"]=true:=nofun
noncomputable def tot(cs:List Nat):Nat:=if cs=[] then 0 else if cs.all (fun c=>decide (0<c))=true then 1+cs.sum else 0
noncomputable def cX(n:Nat):DTS:=
 (aC (aR (dq [none,some 1,some 2] (dU (ae 5)) (ak 0) eU (aq (dP n) (ab (ae 0) (ab (ae 1) (ab (nI (ae 2) (dC (.int 1))) ao))))) (ak 6))
 (aC (bQ (fM (dB (dOp (bV false) (ae 6) (g8 ao))) (dB (dOp (bV false) (dCB FW (ab (ae 6) ao)) (dC (.int 0))))) (aT (dC (.int 0))) aW)
 (aT (fi (dC (.int 1)) (dCB Cn (ab (ae 6) ao))))))
noncomputable def iq(n:Nat):DTS:=
 (aC (bQ (fM (dB (dOp (bV false) (ae 2) (dC (.int 0)))) (fM (dn (dB (wb "tuple" (ae 0)))) (dB (dOp rLt (dCB cL (ab (ae 0) ao)) (dC (.int 2)))))) (aT (dC (.int 0))) aW)
 (aC (vf 3 4 (ab (dOp ax (ae 0) (dC (.int 0))) (ab (dCB cL (ab (ae 0) ao)) ao)))
 (aC (bQ (dB (dOp (bV false) (ae 3) (dC (.str "kind")))) (aT (dCB rA (ab (fh (dOp (bV false) (ae 4) (dC (.int 2))) (fh (aq eZ (ab (dOp ax (ae 0) (dC (.int 1))) ao)) (oG rLe rLt (dC (.int 0)) (dOp ax (ae 0) (dC (.int 1))) (ae 1)))) ao))) aW)
 (aC (aR (g8 ao) (ak 5))
 (aC (bQ (lH (dB (dOp (bV false) (ae 3) (dC (.str "turn")))) (dB (dOp (bV false) (ae 4) (dC (.int 2))))) (aR (g8 (ab (dOp ax (ae 0) (dC (.int 1))) ao)) (ak 5)) (bQ (lH (dB (dOp (Lp false) (ae 3) (g8 (ab (dC (.str "upon")) (ab (dC (.str "beside")) ao))))) (lH (dB (dOp (bV false) (ae 4) (dC (.int 2)))) (dB (wb "tuple" (dOp ax (ae 0) (dC (.int 1))))))) (aR (dIf (dB (oG rLe rLe (dC (.int 2)) (dCB cL (ab (dOp ax (ae 0) (dC (.int 1))) ao)) (dC (.int 8)))) (dCB vZ (ab (dOp ax (ae 0) (dC (.int 1))) ao)) (g8 ao)) (ak 5)) (bQ (lH (dB (dOp (bV false) (ae 3) (dC (.str "grid")))) (lH (dB (dOp (bV false) (ae 4) (dC (.int 4)))) (dB (dCB xg (ab (rg [none] (uu (dSl (ae 0) (EW (dC (.int 1))) (EW (dC (.int 3))))) (ak 0) eU (fh (aq eZ (ab (ae 0) ao)) (dOp rGt (ae 0) (dC (.int 0))))) ao))))) (aR (g8 (ab (dOp ax (ae 0) (dC (.int 3))) ao)) (ak 5)) aW)))
 (cX n))))))
noncomputable def gZ:DTS:=
 (aT (oG rLt rLe (dC (.int 0)) (aq (dP 31) (ab (ae 0) (ab (ae 1) (ab (dC (.int 12)) ao)))) (dC (.int 60))))
noncomputable def gJ:DTS:=
 (aT (fi (dC (.int 1)) (aq b4 (ab (ae 0) (ab (dOp ax (g8 (ab (dC (.int 2)) (ab (dC (.int 3)) (ab (dC (.int 5)) (ab (dC (.int 3)) (ab (dC (.int 2)) (ab (dC (.int 9)) (ab (dC (.int 4)) (ab (Gp (dC (.int 10)) (dC (.int 6))) ao))))))))) (aq b4 (ab (ae 0) (ab (dC (.int 8)) ao)))) ao)))))
section
variable {U:Mu}{Qd:DK}{ds:List D}
theorem NF(cs:List Nat):cz (cs.map fun (c:Nat)=>PyData.int (c:Int))=some (cs.map fun (c:Nat)=>(c:Int)):=by
 induction cs with
 |nil=>rfl
 |cons c r ih=>simp only[map_cons,cz,ih,map_some]
theorem LG(cs:List Nat):(cs.map fun (c:Nat)=>(c:Int)).sum=((cs.sum:Nat):Int):=by
 induction cs with
 |nil=>rfl
 |cons c r ih=>simp only[map_cons,sum_cons,ih];omega
theorem min_zero{cs:List Nat}{M:Int}(h1:M∈cs.map fun (c:Nat)=>(c:Int))(h2:∀a∈cs.map fun (c:Nat)=>(c:Int),M<=a):M=0↔cs.all (fun c=>decide (0<c))=false:=by
 obtain⟨c,hc,rfl⟩:=List.mem_map.mp h1
 constructor
 ·intro z
  rw[Bool.eq_false_iff]
  intro ha
  have:=List.all_eq_true.mp ha c hc
  have:=of_decide_eq_true this
  omega
 ·intro hf
  have:∃x∈cs,¬ 0<x:=by
   rcases Classical.em (∃x∈cs,¬ 0<x) with z|z
   ·exact z
   ·exfalso
    rw[Bool.eq_false_iff] at hf
    apply hf
    rw[all_eq_true]
    intro x hx
    rcases Nat.lt_or_ge 0 x with w|w
    ·exact decide_eq_true w
    ·exact absurd ⟨x,hx,∅⟩ z
  obtain⟨x,hx,hx0⟩:=this
  have:=h2 (x:Int) (mem_map_of_mem hx)
  omega
theorem shaped_ints(cs:List Nat):SeqAt.shaped (.list (cs.map fun (c:Nat)=>PyData.int (c:Int)))=true:=by
 have h1:PyData.canLayAll0 (cs.map fun (c:Nat)=>PyData.int (c:Int))=true:=by
  induction cs with
  |nil=>rfl
  |cons c r ih=>simp only[map_cons,PyData.canLayAll0,PyData.canLay0,ih,Bool.and_true]
 have h2:PyData.depthAll (cs.map fun (c:Nat)=>PyData.int (c:Int))=0:=by
  induction cs with
  |nil=>rfl
  |cons c r ih=>simp only[map_cons,PyData.depthAll,PyData.depth,PyData.canLayAll0,PyData.canLay0,and_eq_true] at *;rw[ih (by simpa [PyData.canLayAll0,PyData.canLay0] using h1)];rfl
 unfold SeqAt.shaped
 rw[PyData.canLay0,h1,PyData.depth,h2]
 rfl
theorem ym{n k:Nat}{t w s:D}{m:Int}{ps:List PyData}{r6:Option D}{Dd:oI}(hk:k<n)(hps:∀p∈ps,Sh p)(lps:ps.length<=8)
  (q:∀O,(∀b ds,U b=some ds->O b=some ds)->Dd.rt (.v (.int (tot (ps.map (cnt m k))))) O) :
  cX n Dd [some t,some (.v (.int m)),some (.v (.int ((k+1:Nat):Int))),some w,some s,some (.v (.list ps)),r6] U:=by
 unfold cX
 walk_at "rt"
 refine⟨∅,fun a ha=>⟨fun i acc O=>acc=((ps.take i).map fun p=>PyData.int (cnt m k p:Nat))/\∀b ds,b≠a->U b=some ds->O b=some ds,⟨by simp,fun b ds hb e=>by rw[aV hb];exact e⟩,?_,?_⟩⟩
 ·rintro i x acc O hx hacc ⟨rfl,hk'⟩
  refine⟨⟨trivial,trivial,trivial⟩,x,m,k,?_,hk,hps x (mem_of_getElem? hx),fun bn h4=>⟨h4 _ _ hacc,?_,fun b ds hb e=>by rw[aV hb];exact h4 b ds (hk' b ds hb e)⟩⟩
  ·congr 1;congr 1;congr 1;congr 1;congr 1;omega
  ·rw[take_succ,hx];simp
 ·rintro acc O ⟨rfl,hk'⟩ hacc
  have q':=q (jW O a) fun b ds e=>by
   have hb:b≠a:=fun z=>by rw[z,ha] at e;cases e
   rw[fb hb];exact hk' b ds hb e
  rw[take_length]
  have em:(ps.map fun p=>PyData.int (cnt m k p:Nat))=(ps.map (cnt m k)).map fun (c:Nat)=>PyData.int (c:Int):=by rw[map_map];rfl
  rw[em]
  generalize ps.map (cnt m k)=cs at q'
  refine⟨shaped_ints cs,rfl,?_⟩
  cases cs with
  |nil=>exact q'
  |cons c r=>
   have e0:PyData.eqv (.list ((c::r).map fun (c:Nat)=>PyData.int (c:Int))) (.list [])=false:=by simp[PyData.eqv,PyData.eqvAll]
   rw[e0,NF]
   simp only[false_eq_true,↓reduceIte]
   refine⟨by simp,fun M h1 h2=>?_⟩
   have hz:=min_zero h1 h2
   have q2:Dd.rt (.v (.int ((if (c::r).all (fun c=>decide (0<c))=true then 1+(c::r).sum else 0:Nat):Int))) (jW O a):=q'
   cases ea:(c::r).all (fun c=>decide (0<c)) with
   |true=>
    rw[if_pos ea] at q2
    rw[decide_eq_false (fun z=>by rw[hz,ea] at z;cases z)]
    simp only[false_eq_true,↓reduceIte]
    rw[LG]
    have e1:(1:Int)+(((c::r).sum:Nat):Int)=((1+(c::r).sum:Nat):Int):=by omega
    rw[e1]
    exact q2
   |false=>
    rw[if_neg (by rw[ea];decide)] at q2
    rw[decide_eq_true (hz.mpr ea)]
    exact q2
theorem Qy{m:Int}{k:Nat}{t:PyData}{ps:List PyData}(h:iJ m t=some ps)(hne:ps≠[]):cnt m (k+1) t=tot (ps.map (cnt m k)):=by
 rw[mj h]
 unfold tot
 rw[if_neg (fun z=>hne (List.map_eq_nil_iff.mp z))]
theorem wu(n:Nat)(h:dP (n+1) ds U Qd):iq n ‹Qd› (aG ["_law_thing","_law_many","_law_deep","_law_word","_law_size","_law_parts","_law_counts"] ds) U:=by
 obtain⟨t,m,deep,rfl,hn,hs,q⟩:=h
 unfold iq
 cases deep with
 |zero=>
  walk_at "rl"
  exact q U fun _ _ e=>e
 |succ k=>
  have q0:iJ m t=none->Qd (.v (.int 0)) U:=fun z=>by
   have:=q U fun _ _ e=>e
   rw[cnt_none z] at this
   exact this
  have kn:k<n:=by omega
  have tail0:∀{w s:D} {r6:Option D},iJ m t=none->cX n ‹Qd› [some (.v t),some (.v (.int m)),some (.v (.int ((k+1:Nat):Int))),some w,some s,some (.v (.list [])),r6] U:=fun {w s r6} z=>
   ym kn (fun _ z=>(nomatch z)) (by simp) fun O h=>by
    have:=q O h
    rw[cnt_none z] at this
    exact this
  have tail1:∀{w s:D} {r6:Option D} {ps:List PyData},iJ m t=some ps->ps≠[]->cX n ‹Qd› [some (.v t),some (.v (.int m)),some (.v (.int ((k+1:Nat):Int))),some w,some s,some (.v (.list ps)),r6] U:=fun {w s r6 ps} z hne=>
   ym kn (Ct z hs).1 (Ct z hs).2 fun O h=>by
    have:=q O h
    rw[Qy z hne] at this
    exact this
  rcases qE t with ⟨xs,rfl,e⟩|⟨hn',e⟩
  ·have hw:=hs.mem
   rcases xs with _|⟨w,_|⟨x,_|⟨y,_|⟨z,_|⟨r,rs⟩⟩⟩⟩⟩
   ·walk_at "rl";exact q0 rfl
   ·walk_at "rl";exact q0 rfl
   ·have sw:=hw w (by simp)
    walk_at "rl"
    simp only[bj sw.shaped js,false_xor]
    have f0:iJ m (.tuple [w,x])=di m w x:=rfl
    have eany:([PyData.str "upon",.str "beside"].any fun b=>PyData.eqv b w)=(aQ "upon" w || aQ "beside" w):=by simp only[List.any_cons,List.any_nil,ER,Bool.or_false]
    cases e1:aQ "kind" w with
    |true=>
     walk_at "rl"
     have f1:di m w x=if (isWhole x&&(decide (0<=intD x)&&decide (intD x<m)))=true then some [] else none:=by unfold di;rw[if_pos e1]
     have qk:=q U fun _ _ e=>e
     refine⟨x,rfl,?_⟩
     cases ex:isWhole x with
     |true=>
      obtain⟨i,rfl⟩:=mW ex
      have f2:di m w (.int i)=if (decide (0<=i)&&decide (i<m))=true then some [] else none:=f1
      walk_at "rl"
      by_cases c1:0<=i
      ·rw[decide_eq_true c1] at f2 ⊢
       simp only[Bool.true_and] at f2
       walk_at "rl"
       by_cases c2:i<m
       ·rw[decide_eq_true c2] at f2 ⊢
        rw[mj (f0.trans f2)] at qk
        exact qk
       ·rw[decide_eq_false c2] at f2 ⊢
        exact q0 (f0.trans f2)
      ·rw[decide_eq_false c1] at f2 ⊢
       simp only[Bool.false_and,false_eq_true,↓reduceIte] at f2
       walk_at "rl"
       exact q0 (f0.trans f2)
     |false=>
      walk_at "rl"
      exact q0 (by rw[f0,f1,ex];rfl)
    |false=>
     walk_at "rl"
     simp only[bj sw.shaped jt,false_xor]
     cases e2:aQ "turn" w with
     |true=>
      walk_at "rl"
      exact tail1 (by rw[f0];unfold di;rw[if_neg (by rw[e1];decide),if_pos e2]) (by simp)
     |false=>
      walk_at "rl"
      refine⟨Kw,sw.lay,sw.dep,?_⟩
      rw[eany]
      have f3:di m w x=if (aQ "upon" w || aQ "beside" w)=true then wK x else none:=by
       unfold di
       rw[if_neg (by rw[e1];decide),if_neg (by rw[e2];decide)]
       unfold wK
       cases x<;>rfl
      cases e3:(aQ "upon" w || aQ "beside" w) with
      |true=>
       rw[e3] at f3
       simp only[↓reduceIte] at f3
       walk_at "rl"
       rcases qE x with ⟨xs,rfl,et⟩|⟨hx,et⟩
       ·rw[et]
        walk_at "rl"
        have f4:di m w (.tuple xs)=if 2<=xs.length/\xs.length<=8 then some xs else none:=f3
        by_cases c1:2<=xs.length
        ·rw[decide_eq_true (by omega:(2:Int)<=(xs.length:Nat))]
         walk_at "rl"
         by_cases c2:xs.length<=8
         ·rw[decide_eq_true (by omega:((xs.length:Nat):Int)<=8)]
          walk_at "rl"
          exact tail1 (by rw[f0,f4,if_pos ⟨c1,c2⟩]) (fun z=>by rw[z] at c1;simp at c1)
         ·rw[decide_eq_false (by omega:¬ ((xs.length:Nat):Int)<=8)]
          walk_at "rl"
          exact tail0 (by rw[f0,f4,if_neg (fun z=>c2 z.2)])
        ·rw[decide_eq_false (by omega:¬ (2:Int)<=(xs.length:Nat))]
         walk_at "rl"
         exact tail0 (by rw[f0,f4,if_neg (fun z=>c1 z.1)])
       ·rw[et]
        walk_at "rl"
        have fn:iJ m (.tuple [w,x])=none:=by rw[f0,f3];cases x<;>first|rfl|exact absurd rfl (hx _)
        simp only[bj sw.shaped g9,false_xor]
        cases aQ "grid" w<;>walk_at "rl"<;>exact tail0 fn
      |false=>
       rw[e3] at f3
       simp only[false_eq_true,↓reduceIte] at f3
       walk_at "rl"
       simp only[bj sw.shaped g9,false_xor]
       cases aQ "grid" w<;>walk_at "rl"<;>exact tail0 (f0.trans f3)
   ·have sw:=hw w (by simp)
    walk_at "rl"
    simp only[bj sw.shaped js,false_xor]
    cases aQ "kind" w with
    |true=>walk_at "rl";exact q0 rfl
    |false=>
     walk_at "rl"
     simp only[bj sw.shaped jt,false_xor]
     cases aQ "turn" w<;>walk_at "rl"<;>refine⟨Kw,sw.lay,sw.dep,?_⟩<;>cases (List.any _ _)<;>walk_at "rl"<;>simp only[bj sw.shaped g9,false_xor]<;>cases aQ "grid" w<;>walk_at "rl"<;>exact tail0 rfl
   ·have sw:=hw w (by simp)
    walk_at "rl"
    have f0:iJ m (.tuple [w,x,y,z])=kH w x y z:=rfl
    cases eg:aQ "grid" w with
    |true=>
     have ew:=nN eg
     subst ew
     have f1:kH (.str "grid") x y z=if ((isWhole x&&decide (1<=intD x))&&(isWhole y&&decide (1<=intD y)))=true then some [z] else none:=by unfold kH;rw[if_pos Ex]
     have eany:([PyData.str "upon",.str "beside"].any fun b=>PyData.eqv b (.str "grid"))=false:=by simp only[List.any_cons,List.any_nil,ER,QV,Rj,Bool.or_false]
     walk_at "rl"
     refine⟨Kw,sw.lay,sw.dep,?_⟩
     rw[eany]
     walk_at "rl"
     rw[rV]
     walk_at "rl"
     have ec:y9 [PyData.str "grid",x,y,z] (some 1) (some 3)=[x,y]:=rfl
     rw[ec]
     refine⟨(by show 2<=1000;decide),fun t=>some (.bool (isWhole t&&decide (1<=intD t))),fun t ht O _=>⟨trivial,t,rfl,?_⟩,?_⟩
     ·cases et:isWhole t with
      |true=>
       obtain⟨i,rfl⟩:=mW et
       walk_at "rl"
       refine⟨trivial,?_⟩
       have:decide (0<i)=decide (1<=i):=by rw[Bool.eq_iff_iff,decide_eq_true_eq,decide_eq_true_eq];omega
       rw[this]
       rfl
      |false=>
       walk_at "rl"
       exact⟨trivial,by rw[et];rfl⟩
     ·rw[nW (fun t=>PyData.bool (isWhole t&&decide (1<=intD t))),kO]
      simp only[map_cons,map_nil,List.all_cons,List.all_nil,id,Bool.and_true]
      cases ea:((isWhole x&&decide (1<=intD x))&&(isWhole y&&decide (1<=intD y))) with
      |true=>
       rw[ea] at f1
       walk_at "rl"
       exact tail1 (f0.trans f1) (by simp)
      |false=>
       rw[ea] at f1
       walk_at "rl"
       exact tail0 (f0.trans f1)
    |false=>
     have f1:iJ m (.tuple [w,x,y,z])=none:=by rw[f0];unfold kH;rw[if_neg (by rw[eg];decide)]
     simp only[bj sw.shaped js,false_xor]
     cases aQ "kind" w with
     |true=>walk_at "rl";exact q0 f1
     |false=>
      walk_at "rl"
      simp only[bj sw.shaped jt,false_xor]
      cases aQ "turn" w<;>walk_at "rl"<;>refine⟨Kw,sw.lay,sw.dep,?_⟩<;>cases (List.any _ _)<;>walk_at "rl"<;>simp only[bj sw.shaped g9,false_xor,eg]<;>walk_at "rl"<;>exact tail0 f1
   ·have sw:=hw w (by simp)
    walk_at "rl"
    simp only[bj sw.shaped js,false_xor]
    cases aQ "kind" w with
    |true=>walk_at "rl";exact q0 rfl
    |false=>
     walk_at "rl"
     simp only[bj sw.shaped jt,false_xor]
     cases aQ "turn" w<;>walk_at "rl"<;>refine⟨Kw,sw.lay,sw.dep,?_⟩<;>cases (List.any _ _)<;>walk_at "rl"<;>simp only[bj sw.shaped g9,false_xor]<;>cases aQ "grid" w<;>walk_at "rl"<;>exact tail0 rfl
  ·walk_at "rl"
   rw[e]
   walk_at "rl"
   exact q0 (by cases t<;>first|rfl|exact absurd rfl (hn' _))
theorem u9(h:jz ds U Qd):gZ ‹Qd› (aG ["_law_thing","_law_many"] ds) U:=by
 obtain⟨t,m,rfl,hs,q⟩:=h
 unfold gZ
 walk_at "rt"
 refine⟨t,m,12,rfl,⋯,hs,fun O h=>?_⟩
 have q':=q O h
 unfold okN at q'
 walk_at "rt"
 generalize cnt m 12 t=c at q'
 by_cases c1:0<c
 ·rw[decide_eq_true (by omega:(0:Int)<(c:Int))]
  rw[decide_eq_true c1,Bool.true_and] at q'
  simp only[↓reduceIte]
  have:decide ((c:Int)<=60)=decide (c<=60):=by rw[Bool.eq_iff_iff,decide_eq_true_eq,decide_eq_true_eq];omega
  rw[this]
  exact q'
 ·rw[decide_eq_false (by omega:¬ (0:Int)<(c:Int))]
  rw[decide_eq_false c1,Bool.false_and] at q'
  exact q'
theorem uo(h:zS ds U Qd):gJ ‹Qd› (aG ["_law_bag_here"] ds) U:=by
 obtain⟨a,rfl,hb,q⟩:=h
 unfold gJ
 walk_at "rt"
 refine⟨⟨⋯,⋯,⋯⟩,a,8,rfl,⋯,⋯,hb,fun r ac r0 r1 s1=>?_⟩
 have e6:(10:Int) ^ Int.toNat 6=1000000:=by decide
 rw[e6]
 obtain⟨_,e1,w,rfl,w0,w1⟩:=pick (P:=fun v=>∃w:Int,v = .int w/\1<=w/\w<=1000000) (xs:=[.int 2,.int 3,.int 5,.int 3,.int 2,.int 9,.int 4,.int 1000000]) r0 (by exact r1) (by
  intro v hv
  simp only[mem_cons,not_mem_nil,or_false] at hv
  rcases hv with rfl|rfl|rfl|rfl|rfl|rfl|rfl|rfl<;>exact⟨_,rfl,⋯,⋯⟩)
 walk_at "rt"
 rw[e1]
 refine⟨a,w,rfl,∅,∅,s1.1,fun u ad u0 u1 s2=>?_⟩
 walk_at "rt"
 exact q _ ad ∅ ∅ (s1.trans s2)
end
inductive IsP(m:Int):Nat->Nat->PyData->Prop
 |kind (i:Int):0<=i->i<m->IsP m 1 1 (.tuple [.str "kind",.int i])
 |turn {d c:Nat} {t:PyData}:IsP m d c t->IsP m (d+1) (c+1) (.tuple [.str "turn",t])
 |grid {d c:Nat} {t:PyData} (u v:Int):1<=u->1<=v->u<=1000000->v<=1000000->IsP m d c t->IsP m (d+1) (c+1) (.tuple [.str "grid",.int u,.int v,t])
 |rZ {d:Nat} (es:List (Nat×Nat×PyData)):2<=es.length->es.length<=8->(∀e∈es,e.1<=d)->(∀e∈es,IsP m e.1 e.2.1 e.2.2)->IsP m (d+1) ((es.map (·.2.1)).sum+1) (.tuple [.str "upon",.tuple (es.map (·.2.2))])
 |fY {d:Nat} (es:List (Nat×Nat×PyData)):2<=es.length->es.length<=8->(∀e∈es,e.1<=d)->(∀e∈es,IsP m e.1 e.2.1 e.2.2)->IsP m (d+1) ((es.map (·.2.1)).sum+1) (.tuple [.str "beside",.tuple (es.map (·.2.2))])
structure Lt(n:Nat)(t:PyData):Prop where
 lay:t.canLay0=true
 dep:t.depth<=n
theorem Lt.sh{n:Nat}{t:PyData}(h:Lt n t)(hn:n<=60):Sh t:=⟨h.lay,le_trans h.dep hn⟩
theorem Lt.mono{n k:Nat}{t:PyData}(h:Lt n t)(hn:n<=k):Lt k t:=⟨h.lay,le_trans h.dep hn⟩
theorem MI{xs:List PyData}(h:∀x∈xs,x.canLay0=true):PyData.canLayAll0 xs=true:=by
 induction xs with
 |nil=>rfl
 |cons x r ih=>rw[PyData.canLayAll0,h x (by simp),ih (fun y hy=>h y (by simp[hy]))];rfl
theorem IW{xs:List PyData}{n:Nat}(h:∀x∈xs,x.depth<=n):PyData.depthAll xs<=n:=by
 induction xs with
 |nil=>exact zero_le _
 |cons x r ih=>
  rw[PyData.depthAll]
  have h1:=h x (by simp)
  have h2:=ih (fun y hy=>h y (by simp[hy]))
  omega
theorem rE{xs:List PyData}{n:Nat}(h:∀x∈xs,Lt n x):Lt (n+1) (.tuple xs):=
 ⟨by rw[PyData.canLay0];exact MI fun x hx=>(h x hx).lay,by rw[PyData.depth];have:=IW (n:=n) fun x hx=>(h x hx).dep;omega⟩
theorem lt_int{n:Nat}{i:Int}:Lt n (.int i):=⟨rfl,zero_le _⟩
theorem SX{n:Nat}:Lt n (.str "kind"):=⟨nofun,zero_le _⟩
theorem SD{n:Nat}:Lt n (.str "turn"):=⟨nofun,zero_le _⟩
theorem Sr{n:Nat}:Lt n (.str "grid"):=⟨nofun,zero_le _⟩
theorem Sq{n:Nat}:Lt n (.str "upon"):=⟨nofun,zero_le _⟩
theorem Tb{n:Nat}:Lt n (.str "beside"):=⟨nofun,zero_le _⟩
theorem all2{P:PyData->Prop}{a b:PyData}(ha:P a)(hb:P b):∀x∈[a,b],P x:=fun x hx=>by
 simp only[mem_cons,not_mem_nil,or_false] at hx
 rcases hx with rfl|rfl<;>assumption
theorem Sa{P:PyData->Prop}{a b c d:PyData}(ha:P a)(hb:P b)(hc:P c)(hd:P d):∀x∈[a,b,c,d],P x:=fun x hx=>by
 simp only[mem_cons,not_mem_nil,or_false] at hx
 rcases hx with rfl|rfl|rfl|rfl<;>assumption
theorem IsP.pos{m:Int}{d c:Nat}{t:PyData}(h:IsP m d c t):1<=d/\1<=c:=by cases h<;>exact⟨∅,∅⟩
theorem IsP.lt{m:Int}{d c:Nat}{t:PyData}(h:IsP m d c t):Lt (2*d) t:=by
 induction h with
 |kind i h0 h1=>exact (rE (n:=0) (all2 SX lt_int)).mono ∅
 |turn _ ih=>exact (rE (all2 SD ih)).mono ∅
 |grid u v _ _ _ _ _ ih=>exact (rE (Sa Sr lt_int lt_int ih)).mono ∅
 |@rZ d es _ _ hd _ ih=>exact (rE (all2 Sq (rE (n:=2*d) fun x hx=>by obtain⟨e,he,rfl⟩:=List.mem_map.mp hx;exact (ih e he).mono (by have:=hd e he;omega)))).mono ∅
 |@fY d es _ _ hd _ ih=>exact (rE (all2 Tb (rE (n:=2*d) fun x hx=>by obtain⟨e,he,rfl⟩:=List.mem_map.mp hx;exact (ih e he).mono (by have:=hd e he;omega)))).mono ∅
theorem lI{m:Int}{w:Str}{xs:List PyData}(hw:w = "upon"\/w = "beside")(h2:2<=xs.length)(h8:xs.length<=8):iJ m (.tuple [.str w,.tuple xs])=some xs:=by
 rcases hw with rfl|rfl
 ·show di m (.str "upon") (.tuple xs)=_
  rw[HH]
  show (if 2<=xs.length/\xs.length<=8 then some xs else none)=some xs
  rw[if_pos ⟨h2,h8⟩]
 ·show di m (.str "beside") (.tuple xs)=_
  rw[Ca]
  show (if 2<=xs.length/\xs.length<=8 then some xs else none)=some xs
  rw[if_pos ⟨h2,h8⟩]
theorem tK{m:Int}{n:Nat}{t:PyData}{es:List (Nat×Nat×PyData)}(hf:iJ m t=some (es.map (·.2.2)))(h:∀e∈es,cnt m n e.2.2=e.2.1/\1<=e.2.1):cnt m (n+1) t=(es.map (·.2.1)).sum+1:=by
 have e1:(es.map (·.2.2)).map (cnt m n)=es.map (·.2.1):=by rw[map_map];exact List.map_congr_left fun e he=>(h e he).1
 rw[mj hf,e1,if_pos,Nat.add_comm]
 rw[all_eq_true]
 intro x hx
 obtain⟨e,he,rfl⟩:=List.mem_map.mp hx
 exact decide_eq_true (h e he).2
theorem IsP.cnt{m:Int}{d c:Nat}{t:PyData}(h:IsP m d c t):∀n,d<=n->cnt m n t=c:=by
 induction h with
 |kind i h0 h1=>
  intro n hn
  obtain⟨k,rfl⟩:∃k,n=k+1:=⟨n-1,∅⟩
  have hf:iJ m (.tuple [.str "kind",.int i])=some []:=by
   show di m (.str "kind") (.int i)=_
   unfold di
   rw[if_pos Kr,if_pos]
   show (true&&(decide (0<=i)&&decide (i<m)))=true
   rw[decide_eq_true h0,decide_eq_true h1];rfl
  rw[mj hf];rfl
 |@turn d c t hh ih=>
  intro n hn
  obtain⟨k,rfl⟩:∃k,n=k+1:=⟨n-1,∅⟩
  have hf:iJ m (.tuple [.str "turn",t])=some [t]:=by
   show di m (.str "turn") t=_
   unfold di
   rw[if_neg (by rw[GL];decide),if_pos GC]
  have:=tK (n:=k) (es:=[(d,c,t)]) hf fun e he=>by rw[List.mem_singleton.mp he];exact⟨ih k ∅,hh.pos.2⟩
  exact this
 |@grid d c t u v hu hv _ _ hh ih=>
  intro n hn
  obtain⟨k,rfl⟩:∃k,n=k+1:=⟨n-1,∅⟩
  have hf:iJ m (.tuple [.str "grid",.int u,.int v,t])=some [t]:=by
   show kH (.str "grid") (.int u) (.int v) t=_
   unfold kH
   rw[if_pos Ex,if_pos]
   show ((true&&decide (1<=u))&&(true&&decide (1<=v)))=true
   rw[decide_eq_true hu,decide_eq_true hv];rfl
  have:=tK (n:=k) (es:=[(d,c,t)]) hf fun e he=>by rw[List.mem_singleton.mp he];exact⟨ih k ∅,hh.pos.2⟩
  exact this
 |rZ es h2 h8 hd hh ih=>
  intro n hn
  obtain⟨k,rfl⟩:∃k,n=k+1:=⟨n-1,∅⟩
  exact tK (lI (.inl rfl) (by simpa using h2) (by simpa using h8)) fun e he=>⟨ih e he k (by have:=hd e he;omega),(hh e he).pos.2⟩
 |fY es h2 h8 hd hh ih=>
  intro n hn
  obtain⟨k,rfl⟩:∃k,n=k+1:=⟨n-1,∅⟩
  exact tK (lI (.inr rfl) (by simpa using h2) (by simpa using h8)) fun e he=>⟨ih e he k (by have:=hd e he;omega),(hh e he).pos.2⟩
noncomputable def hJ(a:Addr)(U O:Mu):Prop:=Bag O a/\∀b,b≠a->∀ds,U b=some ds->O b=some ds
theorem hJ.trans{a:Addr}{U ac ad:Mu}(h:hJ a U ac)(g:hJ a ac ad):hJ a U ad:=⟨g.1,fun b n ds e=>g.2 b n ds (h.2 b n ds e)⟩
theorem Step.w{a:Addr}{U O:Mu}(h:Step a U O):hJ a U O:=⟨h.1,fun b n ds e=>by rw[h.2 b n];exact e⟩
theorem hJ.of{a:Addr}{U O:Mu}(hb:Bag U a)(h:∀b ds,U b=some ds->O b=some ds):hJ a U O:=⟨by obtain⟨g,m,e,z⟩:=hb;exact⟨g,m,h _ _ e,z⟩,fun b _ ds e=>h b ds e⟩
noncomputable def yc:DSp:=fun ds U Q=>∃(a:Addr) (m:Int),ds=[.m a,.v (.int m)]/\1<=m/\m<=3/\Bag U a/\∀d c t O,IsP m d c t->d<=12->c<=60->hJ a U O->Q (.v t) O
theorem F8{U:Mu}{Q:DK}{ds:List D}(h:yc ds U Q):ds.length=2:=by obtain⟨_,_,rfl,_⟩:=h;rfl
noncomputable abbrev E3:=Nat×Nat×PyData
noncomputable def jC(e:E3):PyData:=.tuple [.int (e.1:Nat),.int (e.2.1:Nat),e.2.2]
noncomputable def Gd(m:Int)(e:E3):Prop:=IsP m e.1 e.2.1 e.2.2/\e.1<=12/\e.2.1<=60
structure Pl(a l:Addr)(m:Int)(ce U:Mu)(es:List E3):Prop where
 ne:l≠a
 bag:Bag U a
 at_:U l=some (es.map jC)
 gd:∀e∈es,Gd m e
 kept:∀b,b≠a->b≠l->∀ds,ce b=some ds->U b=some ds
local macro_rules|`(tactic| walk_at "ru")=>mkW "↓F3 cz IQ Iu Mt HL IA HY HI ID Ny Ml Nz MW M7 Mj IJ Nt NC CM MP decide_true decide_false xor_true true_xor ↓mU ↓x9 ↓xX ↓yb ↓HM ↓Eb ↓Il ↓II ↓lh ↓lD ↓nE ↓rY ↓sC ↓sf ↓rS ↓sR ↓tw ↓sy ↓mY ↓q_c ↓K7 ↓q_B ↓GX ↓AB ↓Ao ↓yC ↓Es ↓sG ↓Af ↓sY ↓LJ ↓qo ↓jT ↓zC ↓Av ↓rT ↓AI ↓yt ↓zJ ↓yp ↓Ae ↓zq ↓yY ↓nP ↓sP ↓sD ↓pF ↓pK ↓oO ↓rP ↓p6 ↓ky ↓Ar ↓yW ↓yn ↓tH ↓sL ↓G0 ↓j6 ↓rX ↓zR ↓Ja ↓rC ↓tI ↓sW ↓qq ↓zh ↓GF ↓rL ↓nK ↓yJ ↓AA ↓gn ↓o9 ↓kT ↓pY ↓sF ↓F1 ↓Am ↓tF ↓qW ↓yX ↓rO ↓FX ↓nJ ↓pT ↓zN ↓zp ↓sU ↓tN ↓j2 ↓iR ↓mX ↓iZ ↓j8 ↓j1 ↓ko EY j3 jE pf oQ qX bind_none bind_some join_some getElem?_cons_zero getElem?_cons_succ aG BH vP vQ vY Ce lZ pE qS ug wG List.append List.replicate length_cons length_nil Nat.reduceAdd Nat.reduceSub nil_append cons_append set_cons_zero set_cons_succ map_some ↓reduceIte Bool.not_true Bool.not_false false_eq_true true_eq_false xor_false false_xor"
noncomputable def gE:DTS:=
 (aC (aR (dCB kx (ab (dq [none,none,none] (dU (ae 11)) (gO 3 (bh (ak 0) (bh (ak 1) (bh (ak 2) hR)))) eU (ae 2)) ao)) (ak 12))
 (aC (aR (dq [none,none,none] (dU (ae 11)) (gO 3 (bh (ak 0) (bh (ak 1) (bh (ak 2) hR)))) eU (ae 1)) (ak 13))
 (aC (aR (fi (dC (.int 1)) (dCB ED (ab (dq [none,none,none] (dU (ae 11)) (gO 3 (bh (ak 0) (bh (ak 1) (bh (ak 2) hR)))) eU (ae 0)) ao))) (ak 14))
 (aR (cS (ab (ae 14) (ab (fi (dC (.int 1)) (dCB Cn (ab (ae 13) ao))) (ab (cS (ab (dOp ax (g8 (ab (dC (.str "upon")) (ab (dC (.str "beside")) ao))) (pG (ae 8) (dC (.int 2)))) (ab (ae 12) ao))) ao)))) (ak 9)))))
noncomputable def jM:DTS:=
 (aC (aR (dCB (FL min) (ab (dCB cL (ab (ae 3) ao)) (ab (fi (dC (.int 1)) (aq b4 (ab (ae 0) (ab (dOp ax (g8 (ab (dC (.int 1)) (ab (dC (.int 1)) (ab (dC (.int 2)) (ab (dC (.int 7)) ao))))) (aq b4 (ab (ae 0) (ab (dC (.int 4)) ao)))) ao)))) ao))) (ak 10))
 (aC (aR (dOp wH (g8 (ab (cS (ab (ae 5) (ab (ae 6) (ab (ae 7) ao)))) ao)) (dq [none,some 3,some 0] (nt (ab (ae 10) ao)) (ak 0) eU (vU (ae 1) (aq b4 (ab (ae 2) (ab (dCB cL (ab (ae 1) ao)) ao)))))) (ak 11))
 (aC (bQ (dB (dOp (bV false) (dCB cL (ab (ae 11) ao)) (dC (.int 1)))) (aR (dOp wH (ae 11) (ae 11)) (ak 11)) aW)
 (gE))))
noncomputable def gY:DTS:=
 (aC (bQ (fM (dB (dOp rGt (dOp ax (ae 9) (dC (.int 0))) (dC (.int 12)))) (dB (dOp rGt (dOp ax (ae 9) (dC (.int 1))) (dC (.int 60))))) (aT (ae 7)) aW)
 (aC (oS (Ei (ae 3) (ae 9)))
 (bQ (lH (dB (dOp (bV false) (dCB cL (ab (ae 3) ao)) (dC (.int 1)))) (dB (dOp (bV false) (aq b4 (ab (ae 0) (ab (dC (.int 3)) ao))) (dC (.int 0))))) (aT (dOp ax (ae 9) (dC (.int 2)))) aW)))
noncomputable def kb:DTS:=
 (aC (vE (nt (ab (dC (.int 30)) ao)) (ak 4) (aC (aR (vU (ae 3) (aq b4 (ab (ae 0) (ab (dCB cL (ab (ae 3) ao)) ao)))) (gO 3 (bh (ak 5) (bh (ak 6) (bh (ak 7) hR)))))
 (aC (aR (aq b4 (ab (ae 0) (ab (dC (.int 6)) ao))) (ak 8))
 (aC (bQ (dB (dOp (bV false) (ae 8) (dC (.int 0)))) (aR (cS (ab (fi (ae 5) (dC (.int 1))) (ab (fi (ae 6) (dC (.int 1))) (ab (cS (ab (dC (.str "turn")) (ab (ae 7) ao))) ao)))) (ak 9)) (bQ (dB (dOp (bV false) (ae 8) (dC (.int 1)))) (aR (cS (ab (fi (ae 5) (dC (.int 1))) (ab (fi (ae 6) (dC (.int 1))) (ab (cS (ab (dC (.str "grid")) (ab (aq zS (ab (ae 0) ao)) (ab (aq zS (ab (ae 0) ao)) (ab (ae 7) ao))))) ao)))) (ak 9)) (jM)))
 (gY)))))
 (aT (dOp ax (dOp ax (ae 3) (dC (.int 0))) (dC (.int 2)))))
noncomputable def nc:DTS:=
 (aC (aR (fi (dC (.int 1)) (aq b4 (ab (ae 0) (ab (dOp ax (g8 (ab (dC (.int 2)) (ab (dC (.int 4)) (ab (dC (.int 12)) ao)))) (aq b4 (ab (ae 0) (ab (dC (.int 3)) ao)))) ao)))) (ak 2))
 (aC (aR (Dn [none,some 0,some 1] (nt (ab (ae 2) ao)) (ak 0) eU (cS (ab (dC (.int 1)) (ab (dC (.int 1)) (ab (cS (ab (dC (.str "kind")) (ab (aq b4 (ab (ae 1) (ab (ae 2) ao))) ao))) ao))))) (ak 3))
 (kb)))
section
variable {U ce:Mu}{Qd:DK}{ds:List D}{a l:Addr}{m:Int}{es:List E3}{ρ:Rho}{i j:Nat}
theorem Qj{d:D}(h:ρ[i]? = some (some d)):ae i ρ U Qd=Qd d U:=by unfold ae;rw[h]
theorem KS{α β:Type}(f:α->β):∀(xs:List α) (i:Nat),(xs.map f).eraseIdx i=(xs.eraseIdx i).map f
 |[],_=>rfl
 |_::_,0=>rfl
 |x::r,i+1=>by simp only[map_cons,List.eraseIdx_cons_succ,KS f r i]
theorem Pl.step{O:Mu}(h:Pl a l m ce U es)(s:Step a U O):Pl a l m ce O es:=⟨h.ne,s.1,by rw[s.2 l h.ne];exact h.at_,h.gd,fun b n1 n2 ds e=>by rw[s.2 b n1];exact h.kept b n1 n2 ds e⟩
theorem Bag.set{x:List PyData}(h:Bag U a)(n:l≠a):Bag (bD U l x) a:=by
 obtain⟨g,k,e,z⟩:=h
 exact⟨g,k,by rw[aV (Ne.symm n)];exact e,z⟩
theorem Pl.set{fs:List E3}(h:Pl a l m ce U es)(g:∀e∈fs,Gd m e):Pl a l m ce (bD U l (fs.map jC)) fs:=
 ⟨h.ne,h.bag.set h.ne,bg,g,fun b n1 n2 ds e=>by rw[aV n2];exact h.kept b n1 n2 ds e⟩
theorem Pl.off{p:Addr}{x:List PyData}(h:Pl a l m ce U es)(pa:p≠a)(pl:p≠l)(p0:ce p=none):Pl a l m ce (bD U p x) es:=
 ⟨h.ne,h.bag.set pa,by rw[aV (Ne.symm pl)];exact h.at_,h.gd,fun b n1 n2 ds e=>by
  have hb:b≠p:=fun z=>by rw[z,p0] at e;cases e
  rw[aV hb];exact h.kept b n1 n2 ds e⟩
theorem Pl.del{p:Addr}(h:Pl a l m ce U es)(pa:p≠a)(pl:p≠l)(p0:ce p=none):Pl a l m ce (jW U p) es:=
 ⟨h.ne,by obtain⟨g,k,e,z⟩:=h.bag;exact⟨g,k,by rw[fb (Ne.symm pa)];exact e,z⟩,by rw[fb (Ne.symm pl)];exact h.at_,h.gd,fun b n1 n2 ds e=>by
  have hb:b≠p:=fun z=>by rw[z,p0] at e;cases e
  rw[fb hb];exact h.kept b n1 n2 ds e⟩
theorem Pl.fresh{p:Addr}(h:Pl a l m ce U es)(hp:U p=none):p≠a/\p≠l/\ce p=none:=by
 have h1:p≠a:=fun z=>by obtain⟨g,k,e,_⟩:=h.bag;rw[z,e] at hp;cases hp
 have h2:p≠l:=fun z=>by rw[z,h.at_] at hp;cases hp
 refine⟨h1,h2,?_⟩
 cases e:ce p with
 |none=>rfl
 |some ds=>rw[h.kept p h1 h2 ds e] at hp;cases hp
theorem Pl.w(h:Pl a l m ce U es)(hl:ce l=none):hJ a ce U:=⟨h.bag,fun b n ds e=>h.kept b n (fun z=>by rw[z,hl] at e;cases e) ds e⟩
theorem H0(h:Pl a l m ce U es)(h1:1<=es.length)(h2:es.length<=100)(hi:ρ[i]? = some (some (.m l)))(hj:ρ[j]? = some (some (.m a)))
  (q:∀(e:E3) (fs:List E3) (O:Mu),Gd m e->fs.length+1=es.length->Pl a l m ce O fs->(∀b,b≠a->b≠l->O b=U b)->Qd (.v (jC e)) O) :
  vU (ae i) (aq b4 (ab (ae j) (ab (dCB cL (ab (ae i) ao)) ao))) ρ U Qd:=by
 simp only[HZ,pT,jT,qo,Ja,Qj hi,Qj hj,qq,h.at_,length_map]
 refine⟨a,_,rfl,∅,∅,h.bag,fun r ac r0 r1 s1=>?_⟩
 have h':=h.step s1
 simp only[h'.at_]
 obtain⟨k,rfl⟩:∃k:Nat,r=k:=⟨r.toNat,∅⟩
 have hk:k<es.length:=by omega
 refine⟨⟨∅,∅⟩,jC es[k],by simp[hk],?_⟩
 rw[KS]
 have hs:=h'.set (fs:=es.eraseIdx k) fun e he=>h.gd e (List.mem_of_mem_eraseIdx he)
 refine q es[k] _ _ (h.gd _ (getElem_mem hk)) (by rw[List.length_eraseIdx_of_lt hk];omega) hs fun b n1 n2=>?_
 rw[aV n2,s1.2 b n1]
theorem Ti{k:Nat}(h:Pl a l m ce U es)(hk:k<=es.length)(h2:es.length<=100)(h3:ρ[3]? = some (some (.m l)))(h0:ρ[0]? = some (some (.m a)))(h10:ρ[10]? = some (some (.v (.int (k:Nat)))))
  (q:∀(gs fs:List E3) (O:Mu),(∀e∈gs,Gd m e)->gs.length=k->fs.length<=es.length->Pl a l m ce O fs->Qd (.v (.list (gs.map jC))) O) :
  dq [none,some 3,some 0] (nt (ab (ae 10) ao)) (ak 0) eU (vU (ae 1) (aq b4 (ab (ae 2) (ab (dCB cL (ab (ae 1) ao)) ao)))) ρ U Qd:=by
 rw[kF]
 simp only[iZ,jT,qo,Qj h10]
 refine⟨⟨∅,∅⟩,by rw[yQ];omega,fun p hp=>?_⟩
 obtain⟨pa,pl,p0⟩:=h.fresh hp
 refine⟨fun i acc O=>∃gs fs:List E3,acc=gs.map jC/\gs.length=i/\fs.length+i=es.length/\(∀e∈gs,Gd m e)/\Pl a l m ce O fs,⟨[],es,rfl,rfl,rfl,(fun _ z=>nomatch z),h.off pa pl p0⟩,?_,?_⟩
 ·rintro i x acc O hx hacc ⟨gs,fs,rfl,hg,hf,gd,hP⟩
  obtain⟨rfl,hi⟩:=Ks hx
  simp only[gn,jE,j3,h3,h0,bind_some,bind_none,join_some,set_cons_zero,j2,↓reduceIte,oQ,qX,pf,true_and,and_true]
  refine H0 hP ∅ ∅ rfl rfl fun e fs' ac he hl P1 kp=>?_
  refine⟨by rw[kp p pa pl];exact hacc,gs++[e],fs',by simp,by simp[hg],∅,fun e' he'=>?_,P1.off pa pl p0⟩
  rcases List.mem_append.mp he' with z|z
  ·exact gd e' z
  ·rw[List.mem_singleton.mp z];exact he
 ·rintro acc O ⟨gs,fs,rfl,hg,hf,gd,hP⟩ hacc
  rw[yQ] at hg hf
  exact q gs fs _ gd ∅ ∅ (hP.del pa pl p0)
theorem JV{k:Nat}{f:E3->PyData}{te:DTE}(hs:∀Q,te ρ U Q=Q (.v (.list (es.map jC))) U)(hl:es.length<=100)(hf:∀(e:E3) (O:Mu) (Q:DK),ae k [some (.v (.int (e.1:Nat))),some (.v (.int (e.2.1:Nat))),some (.v e.2.2)] O Q=Q (.v (f e)) O)
  (q:Qd (.v (.list (es.map f))) U):dq [none,none,none] (dU te) (gO 3 (bh (ak 0) (bh (ak 1) (bh (ak 2) hR)))) eU (ae k) ρ U Qd:=by
 rw[kF,iR,hs]
 refine⟨by rw[length_map];omega,fun p hp=>⟨fun i acc O=>acc=(es.take i).map f/\O=bD U p acc,⟨by simp,rfl⟩,?_,?_⟩⟩
 ·rintro i x acc O hx hacc ⟨rfl,rfl⟩
  rw[getElem?_map] at hx
  obtain⟨e,he,rfl⟩:∃e,es[i]? = some e/\jC e=x:=by
   cases z:es[i]? with
   |none=>rw[z] at hx;cases hx
   |some e=>rw[z] at hx;exact⟨e,rfl,by simpa using hx⟩
  unfold jC
  simp only[pY,kT,o9,gn,jE,j3,bind_none,set_cons_zero,set_cons_succ,j2,↓reduceIte,oQ,pf,true_and,hf,length_cons,length_nil]
  refine⟨hacc,?_,?_⟩
  ·rw[take_succ,he];simp
  ·rw[qy]
 ·rintro acc O ⟨rfl,rfl⟩ hacc
  rw[vG hp,length_map,take_length]
  exact q
theorem zZ(es:List E3)(f:E3->Nat):cz (es.map fun e=>PyData.int (f e:Nat))=some (es.map fun e=>((f e:Nat):Int)):=by
 induction es with
 |nil=>rfl
 |cons c r ih=>simp only[map_cons,cz,ih,map_some]
theorem Nk(es:List E3):(es.map fun e=>((e.2.1:Nat):Int)).sum=(((es.map (·.2.1)).sum:Nat):Int):=by
 induction es with
 |nil=>rfl
 |cons c r ih=>simp only[map_cons,sum_cons,ih];omega
theorem IZ{r0 r1 r2 r3 r4 r5 r6 r7 r9 r10 r12 r13 r14:Option D}{Dd:oI}{w:Int}(h2:2<=es.length)(h8:es.length<=8)(gd:∀e∈es,Gd m e)
  (q:∀(e:E3) (s12 s13 s14:Option D),IsP m e.1 e.2.1 e.2.2->Dd.nx [r0,r1,r2,r3,r4,r5,r6,r7,some (.v (.int w)),some (.v (jC e)),r10,some (.v (.list (es.map jC))),s12,s13,s14] U) :
  gE Dd [r0,r1,r2,r3,r4,r5,r6,r7,some (.v (.int w)),r9,r10,some (.v (.list (es.map jC))),r12,r13,r14] U:=by
 unfold gE
 walk_at "rl"
 refine JV (f:=fun e=>e.2.2) (fun Q=>mU) ∅ (fun e O Q=>nE) ?_
 walk_at "rl"
 refine JV (f:=fun e=>.int (e.2.1:Nat)) (fun Q=>mU) ∅ (fun e O Q=>lD) ?_
 walk_at "rl"
 refine JV (f:=fun e=>.int (e.1:Nat)) (fun Q=>mU) ∅ (fun e O Q=>lh) ?_
 walk_at "rl"
 simp only[zZ]
 refine⟨by rw[length_map];omega,fun M h1 hM=>?_⟩
 simp only[zZ,Nk]
 refine⟨⋯,?_⟩
 obtain⟨e,he,rfl⟩:=List.mem_map.mp h1
 obtain⟨_,e1,ws,rfl,hws⟩:=pick (P:=fun v=>∃w:Str,v = .str w/\(w = "upon"\/w = "beside")) (xs:=[.str "upon",.str "beside"]) (i:=w.fmod 2) (Int.fmod_nonneg_of_pos _ ⋯) (Int.fmod_lt_of_pos _ ⋯) (by
  refine zG ?_ <| zG ?_ <| NU
  ·exact⟨_,rfl,.inl rfl⟩
  ·exact⟨_,rfl,.inr rfl⟩)
 rw[e1]
 walk_at "rl"
 have hd:∀x∈es,x.1<=e.1:=fun x hx=>by have:=hM (x.1:Int) (List.mem_map.mpr ⟨x,hx,rfl⟩);omega
 have hp:∀x∈es,IsP m x.1 x.2.1 x.2.2:=fun x hx=>(gd x hx).1
 have eA:(1:Int)+(e.1:Nat)=((e.1+1:Nat):Int):=by omega
 have eB:(1:Int)+((es.map (·.2.1)).sum:Nat)=(((es.map (·.2.1)).sum+1:Nat):Int):=by omega
 rcases hws with rfl|rfl
 ·have hN:=IsP.rZ (d:=e.1) es h2 h8 hd hp
  have:=q (e.1+1,(es.map (·.2.1)).sum+1,_) (some (.v (.tuple (es.map fun e=>e.2.2)))) (some (.v (.list (es.map fun e=>PyData.int (e.2.1:Nat))))) (some (.v (.int ((e.1+1:Nat):Int)))) hN
  rw[eA,eB]
  exact this
 ·have hN:=IsP.fY (d:=e.1) es h2 h8 hd hp
  have:=q (e.1+1,(es.map (·.2.1)).sum+1,_) (some (.v (.tuple (es.map fun e=>e.2.2)))) (some (.v (.list (es.map fun e=>PyData.int (e.2.1:Nat))))) (some (.v (.int ((e.1+1:Nat):Int)))) hN
  rw[eA,eB]
  exact this
theorem JO{r2 r4 r9 r10 r11 r12 r13 r14:Option D}{Dd:oI}{e0:E3}{w:Int}(h:Pl a l m ce U es)(h2:es.length<=20)(g0:Gd m e0)
  (q:∀(e:E3) (fs:List E3) (O:Mu) (s10 s11 s12 s13 s14:Option D),IsP m e.1 e.2.1 e.2.2->fs.length<=es.length->Pl a l m ce O fs->Dd.nx [some (.m a),some (.v (.int m)),r2,some (.m l),r4,some (.v (.int (e0.1:Nat))),some (.v (.int (e0.2.1:Nat))),some (.v e0.2.2),some (.v (.int w)),some (.v (jC e)),s10,s11,s12,s13,s14] O) :
  jM Dd [some (.m a),some (.v (.int m)),r2,some (.m l),r4,some (.v (.int (e0.1:Nat))),some (.v (.int (e0.2.1:Nat))),some (.v e0.2.2),some (.v (.int w)),r9,r10,r11,r12,r13,r14] U:=by
 unfold jM
 walk_at "rl"
 simp only[h.at_,length_map]
 refine⟨a,4,rfl,⋯,⋯,h.bag,fun r ac r0 r1 s1=>?_⟩
 walk_at "rl"
 obtain⟨_,e1,n,rfl,n1,n7⟩:=pick (P:=fun v=>∃n:Int,v = .int n/\1<=n/\n<=7) (xs:=[.int 1,.int 1,.int 2,.int 7]) r0 (by exact r1) (by
  intro v hv
  simp only[mem_cons,not_mem_nil,or_false] at hv
  rcases hv with rfl|rfl|rfl|rfl<;>exact⟨_,rfl,⋯,⋯⟩)
 rw[e1]
 refine⟨a,n,rfl,n1,∅,s1.1,fun u ad u0 u1 s2=>?_⟩
 walk_at "rl"
 rw[length_map]
 have P2:=(h.step s1).step s2
 obtain⟨k,hk⟩:∃k:Nat,min (es.length:Int) (1+u)=k:=⟨(min (es.length:Int) (1+u)).toNat,∅⟩
 rw[hk]
 have hk7:k<=7/\k<=es.length:=by omega
 refine Ti P2 hk7.2 ∅ rfl rfl rfl fun gs fs ap gg hg hf P3=>?_
 walk_at "rl"
 refine⟨by rw[length_map];omega,?_⟩
 have fin:∀(xs:List E3),2<=xs.length->xs.length<=8->(∀e∈xs,Gd m e)->gE Dd [some (.m a),some (.v (.int m)),r2,some (.m l),r4,some (.v (.int (e0.1:Nat))),some (.v (.int (e0.2.1:Nat))),some (.v e0.2.2),some (.v (.int w)),r9,some (.v (.int (k:Nat))),some (.v (.list (xs.map jC))),r12,r13,r14] ap:=fun xs x2 x8 gx=>
  IZ x2 x8 gx fun e s12 s13 s14 he=>q e fs ap _ _ _ _ _ he hf P3
 have g0':∀e∈e0::gs,Gd m e:=fun e he=>by
  rcases List.mem_cons.mp he with z|z
  ·rw[z];exact g0
  ·exact gg e z
 by_cases c:gs.length=0
 ·rw[if_pos (decide_eq_true (by rw[length_map,c];rfl))]
  have:gs=[]:=List.length_eq_zero_iff.mp c
  subst this
  refine⟨by show 2<=1000;decide,fin [e0,e0] (by simp) (by simp) fun e he=>?_⟩
  simp only[mem_cons,not_mem_nil,or_false,or_self] at he
  rw[he];exact g0
 ·rw[if_neg (by rw[decide_eq_true_eq,length_map];omega)]
  exact fin (e0::gs) (by rw[length_cons];omega) (by rw[length_cons];omega) g0'
theorem Jz{r2 r4 r5 r6 r8 r10 r11 r12 r13 r14:Option D}{Dd:oI}{e0 e:E3}(h:Pl a l m ce U es)(h2:es.length<=20)(g0:Gd m e0)(he:IsP m e.1 e.2.1 e.2.2)
  (qr:∀(e:E3) (fs:List E3) (O:Mu),Gd m e->Pl a l m ce O fs->Dd.rt (.v e.2.2) O)
  (qn:∀O,Pl a l m ce O (es++[e])->Dd.nx [some (.m a),some (.v (.int m)),r2,some (.m l),r4,r5,r6,some (.v e0.2.2),r8,some (.v (jC e)),r10,r11,r12,r13,r14] O) :
  gY Dd [some (.m a),some (.v (.int m)),r2,some (.m l),r4,r5,r6,some (.v e0.2.2),r8,some (.v (jC e)),r10,r11,r12,r13,r14] U:=by
 unfold gY
 have ee:jC e = .tuple [.int (e.1:Nat),.int (e.2.1:Nat),e.2.2]:=rfl
 rw[ee] at qn ⊢
 walk_at "rl"
 by_cases c1:(12:Int)<(e.1:Nat)
 ·rw[decide_eq_true c1]
  walk_at "rl"
  exact qr e0 es U g0 h
 ·rw[decide_eq_false c1]
  walk_at "rl"
  by_cases c2:(60:Int)<(e.2.1:Nat)
  ·rw[decide_eq_true c2]
   walk_at "rl"
   exact qr e0 es U g0 h
  ·rw[decide_eq_false c2]
   walk_at "rl"
   simp only[h.at_]
   have ge:Gd m e:=⟨he,∅,∅⟩
   refine⟨by rw[length_map];omega,?_⟩
   have P1:Pl a l m ce (bD U l (es.map jC++[jC e])) (es++[e]):=by
    have:=h.set (fs:=es++[e]) fun x hx=>by
     rcases List.mem_append.mp hx with z|z
     ·exact h.gd x z
     ·rw[List.mem_singleton.mp z];exact ge
    rw[map_append] at this
    exact this
   rw[ee] at P1
   simp only[P1.at_]
   refine N4 (fun _=>?_) fun _=>?_
   ·walk_at "rl"
    refine⟨a,3,rfl,⋯,⋯,P1.bag,fun r ac r0 r1 s1=>?_⟩
    walk_at "rl"
    refine N4 (fun _=>?_) fun _=>?_<;>walk_at "rl"
    ·exact qr e _ ac ge (P1.step s1)
    ·exact qn ac (P1.step s1)
   ·walk_at "rl"
    exact qn _ P1
theorem JH{r2 r4 r5 r6 r7 r8 r9 r10 r11 r12 r13 r14:Option D}{Dd:oI}(h:Pl a l m ce U es)(h1:1<=es.length)(h2:es.length<=20)
  (qr:∀(e:E3) (fs:List E3) (O:Mu),Gd m e->Pl a l m ce O fs->Dd.rt (.v e.2.2) O) :
  kb Dd [some (.m a),some (.v (.int m)),r2,some (.m l),r4,r5,r6,r7,r8,r9,r10,r11,r12,r13,r14] U:=by
 unfold kb
 rw[qW,vo]
 walk_at "rl"
 refine⟨⋯,fun i ρ O=>∃(fs:List E3) (s4 s5 s6 s7 s8 s9 s10 s11 s12 s13 s14:Option D),ρ=[some (.m a),some (.v (.int m)),r2,some (.m l),s4,s5,s6,s7,s8,s9,s10,s11,s12,s13,s14]/\Pl a l m ce O fs/\1<=fs.length/\fs.length<=20,⟨es,_,_,_,_,_,_,_,_,_,_,_,rfl,h,h1,h2⟩,?_,?_⟩
 ·rintro i x ρ ac hx ⟨fs,s4,s5,s6,s7,s8,s9,s10,s11,s12,s13,s14,rfl,P1,l1,l2⟩
  walk_at "rl"
  refine H0 P1 l1 ∅ rfl rfl fun e gs ad ge hl P2 _=>?_
  have ee:jC e = .tuple [.int (e.1:Nat),.int (e.2.1:Nat),e.2.2]:=rfl
  rw[ee]
  walk_at "rl"
  refine⟨trivial,a,6,rfl,⋯,⋯,P2.bag,fun w ap w0 w1 s3=>?_⟩
  have P3:=P2.step s3
  have tail:∀{e':E3} {hs:List E3} {bn:Mu} {t8 t10 t11 t12 t13 t14:Option D},Pl a l m ce bn hs->hs.length<=gs.length->IsP m e'.1 e'.2.1 e'.2.2->gY {nx:=fun ρ O=>∃(fs:List E3) (s4 s5 s6 s7 s8 s9 s10 s11 s12 s13 s14:Option D),ρ=[some (.m a),some (.v (.int m)),r2,some (.m l),s4,s5,s6,s7,s8,s9,s10,s11,s12,s13,s14]/\Pl a l m ce O fs/\1<=fs.length/\fs.length<=20,rt:=Dd.rt,bk:=aT (dOp ax (dOp ax (ae 3) (dC (.int 0))) (dC (.int 2))) Dd,ct:=fun ρ O=>∃(fs:List E3) (s4 s5 s6 s7 s8 s9 s10 s11 s12 s13 s14:Option D),ρ=[some (.m a),some (.v (.int m)),r2,some (.m l),s4,s5,s6,s7,s8,s9,s10,s11,s12,s13,s14]/\Pl a l m ce O fs/\1<=fs.length/\fs.length<=20}
    [some (.m a),some (.v (.int m)),r2,some (.m l),some (.v x),some (.v (.int (e.1:Nat))),some (.v (.int (e.2.1:Nat))),some (.v e.2.2),t8,some (.v (jC e')),t10,t11,t12,t13,t14] bn:=fun P4 hh he'=>
   Jz P4 ∅ ge he' (fun e fs O g P=>qr e fs O g P) fun O P'=>⟨_,_,_,_,_,_,_,_,_,_,_,_,rfl,P',by rw[length_append,List.length_singleton];omega,by rw[length_append,List.length_singleton];omega⟩
  walk_at "rl"
  by_cases c0:w=0
  ·rw[HX (decide_eq_true c0)]
   walk_at "rl"
   exact tail (e':=(e.1+1,e.2.1+1,_)) P3 (le_refl _) (.turn ge.1)
  ·rw[IG (by rw[decide_eq_true_eq];exact c0)]
   walk_at "rl"
   by_cases c1:w=1
   ·rw[HX (decide_eq_true c1)]
    walk_at "rl"
    refine⟨a,rfl,P3.bag,fun g bn g1 g2 s4=>?_⟩
    walk_at "rl"
    refine⟨a,rfl,s4.1,fun g' ga g1' g2' s5=>?_⟩
    walk_at "rl"
    exact tail (e':=(e.1+1,e.2.1+1,_)) ((P3.step s4).step s5) (le_refl _) (.grid g g' g1 g1' g2 g2' ge.1)
   ·rw[IG (by rw[decide_eq_true_eq];exact c1)]
    exact JO P3 ∅ ge fun e' hs bn s10 s11 s12 s13 s14 he' hl' P4=>tail P4 hl' he'
 ·rintro ρ ac ⟨fs,s4,s5,s6,s7,s8,s9,s10,s11,s12,s13,s14,rfl,P1,l1,l2⟩
  walk_at "rl"
  simp only[P1.at_]
  cases fs with
  |nil=>simp at l1
  |cons e r=>
   rw[map_cons,pE]
   have ee:jC e = .tuple [.int (e.1:Nat),.int (e.2.1:Nat),e.2.2]:=rfl
   simp only[ee]
   walk_at "rl"
   exact qr e _ ac (P1.gd e (by simp)) P1
theorem CL(h:yc ds U Qd):nc ‹Qd› (aG ["_law_bag_here","_law_many","_law_leaves","_law_parts","_law_turn","_law_deep","_law_size","_law_plan_here","_law_way","_law_whole","_law_count","_law_some","_law_inner","_law_sizes","_law_most"] ds) U:=by
 obtain⟨a,m,rfl,m1,m3,hb,q⟩:=h
 unfold nc
 walk_at "rl"
 refine⟨a,3,rfl,⋯,⋯,hb,fun r ac r0 r1 s1=>?_⟩
 walk_at "rl"
 obtain⟨_,e1,n,rfl,n1,n7⟩:=pick (P:=fun v=>∃n:Int,v = .int n/\1<=n/\n<=12) (xs:=[.int 2,.int 4,.int 12]) r0 (by exact r1) (by
  intro v hv
  simp only[mem_cons,not_mem_nil,or_false] at hv
  rcases hv with rfl|rfl|rfl<;>exact⟨_,rfl,⋯,⋯⟩)
 rw[e1]
 refine⟨a,n,rfl,n1,∅,s1.1,fun u ad u0 u1 s2=>?_⟩
 walk_at "rl"
 have s12:=s1.trans s2
 obtain⟨k,hk⟩:∃k:Nat,1+u=k:=⟨(1+u).toNat,∅⟩
 rw[hk,Mb]
 walk_at "rl"
 refine⟨⟨∅,∅⟩,by rw[yQ];omega,fun p hp=>?_⟩
 have pa:p≠a:=fun z=>by obtain⟨g,k,e,_⟩:=s12.1;rw[z,e] at hp;cases hp
 have p0:U p=none:=by rw[<- s12.2 p pa];exact hp
 refine⟨fun i acc O=>∃fs:List E3,acc=fs.map jC/\fs.length=i/\(∀b,b≠a->b≠p->∀ds,U b=some ds->O b=some ds)/\Bag O a/\(∀e∈fs,Gd m e),⟨[],rfl,rfl,fun b n1 n2 ds e=>by rw[aV n2,s12.2 b n1];exact e,s12.1.set pa,(fun _ z=>nomatch z)⟩,?_,?_⟩
 ·rintro i x acc O hx hacc ⟨fs,rfl,hf,kp,hb',gd⟩
  refine⟨⟨trivial,trivial,trivial⟩,a,m,rfl,m1,∅,hb',fun v ap v0 v1 s3=>?_⟩
  walk_at "rl"
  refine⟨by rw[s3.2 p pa];exact hacc,fs++[(1,1,.tuple [.str "kind",.int v])],by rw[map_append];rfl,by simp[hf],fun b n1 n2 ds e=>by rw[aV n2,s3.2 b n1];exact kp b n1 n2 ds e,s3.1.set pa,fun e he=>?_⟩
  rcases List.mem_append.mp he with z|z
  ·exact gd e z
  ·rw[List.mem_singleton.mp z];exact⟨.kind v v0 v1,by show 1<=12;decide,by show 1<=60;decide⟩
 ·rintro acc O ⟨fs,rfl,hf,kp,hb',gd⟩ hacc
  rw[yQ] at hf
  have P:Pl a p m U O fs:=⟨pa,hb',hacc,gd,kp⟩
  exact JH P ∅ ∅ fun e gs tj ge P'=>q e.1 e.2.1 e.2.2 tj ge.1 ge.2.1 ge.2.2 (P'.w p0)
end
noncomputable def CU(d:Int):PyData->Bool
 |.tuple [.int a,.int b,.int c]=>isNum (.tuple [.int a,.int b,.int c])&&decide (sg d a b=1)
 |_=>false
noncomputable def tX:DSp:=fun ds U Q=>∃(d:Int) (t:PyData),ds=[.v (.int d),.v t]/\av d/\Few t/\(∀x,t=dN x->Bd 44500000 x)/\Q (.v (.bool (CU d t))) U
theorem D5{U:Mu}{Q:DK}{ds:List D}(h:tX ds U Q):ds.length=2:=by obtain⟨_,_,rfl,_⟩:=h;rfl
noncomputable def u5:DSp:=fun ds U Q=>∃(d:Int) (ks:List N3),ds=[.v (.int d),.v (.tuple (ks.map dN))]/\av d/\1<=ks.length/\ks.length<=3/\(∀k∈ks,Ok k/\Bd 60 k/\sg d k.a k.b=1)/\Q (.v (.bool true)) U
theorem D6{U:Mu}{Q:DK}{ds:List D}(h:u5 ds U Q):ds.length=2:=by obtain⟨_,_,rfl,_⟩:=h;rfl
noncomputable def kG:DSp:=fun ds U Q=>∃(d:Int) (ks:List N3),ds=[.v (.int d),.v (.tuple (ks.map dN))]/\av d/\1<=ks.length/\ks.length<=3/\(∀k∈ks,Ok k/\Bd 60 k/\sg d k.a k.b=1)/\Q (.v .none) U
theorem xF{U:Mu}{Q:DK}{ds:List D}(h:kG ds U Q):ds.length=2:=by obtain⟨_,_,rfl,_⟩:=h;rfl
structure KindsOk(d:Int)(ks:List N3):Prop where
 l1:1<=ks.length
 l3:ks.length<=3
 ok:∀k∈ks,Ok k/\Bd 60 k/\sg d k.a k.b=1
noncomputable def uD:DSp:=fun ds U Q=>∃(a:Addr) (d:Int),ds=[.m a,.v (.int d)]/\av d/\Bag U a/\∀ks O,KindsOk d ks->hJ a U O->Q (.v (.tuple (ks.map dN))) O
theorem CN{U:Mu}{Q:DK}{ds:List D}(h:uD ds U Q):ds.length=2:=by obtain⟨_,_,rfl,_⟩:=h;rfl
noncomputable def sr(l:List N3):N3:=l.foldl plus fF
noncomputable def MG(l:List N3):Prop:=(∀x∈l,Ok x/\Bd 21500000 x)/\∀j,Bd 21500000 (sr (l.take j))
noncomputable def ny:DSp:=fun ds U Q=>∃(t:PyData) (m:Int),ds=[.v t,.v (.int m)]/\Sh t/\okN (cnt m 12 t)=true/\∀O,(∀b ds,U b=some ds->O b=some ds)->Q (.v .none) O
theorem yR{U:Mu}{Q:DK}{ds:List D}(h:ny ds U Q):ds.length=2:=by obtain⟨_,_,rfl,_⟩:=h;rfl
noncomputable def uc:DSp:=fun ds U Q=>∃l:List N3,ds=[.v (.list (l.map dN))]/\l.length<=100/\MG l/\Q (.v (dN (sr l))) U
theorem Co{U:Mu}{Q:DK}{ds:List D}(h:uc ds U Q):ds.length=1:=by obtain⟨_,rfl,_⟩:=h;rfl
local macro_rules|`(tactic| walk_at "ru")=>mkW "↓F3 cz IQ Iu Mt HL IA HY HI ID Ny Ml Nz MW M7 Mj IJ Nt NC CM MP decide_true decide_false xor_true true_xor ↓mU ↓x9 ↓xX ↓yb ↓HM ↓Eb ↓Il ↓II ↓lh ↓lD ↓nE ↓rY ↓sC ↓sf ↓rS ↓sR ↓tw ↓sy ↓mY ↓q_c ↓K7 ↓q_B ↓GX ↓AB ↓Ao ↓yC ↓Es ↓sG ↓Af ↓sY ↓LJ ↓qo ↓jT ↓zC ↓Av ↓rT ↓AI ↓yt ↓zJ ↓yp ↓Ae ↓zq ↓yY ↓nP ↓sP ↓sD ↓pF ↓pK ↓oO ↓rP ↓p6 ↓ky ↓Ar ↓yW ↓yn ↓tH ↓sL ↓G0 ↓j6 ↓rX ↓zR ↓Ja ↓rC ↓tI ↓sW ↓qq ↓zh ↓GF ↓rL ↓nK ↓yJ ↓AA ↓gn ↓o9 ↓kT ↓pY ↓sF ↓F1 ↓Am ↓tF ↓qW ↓yX ↓rO ↓FX ↓nJ ↓pT ↓zN ↓zp ↓sU ↓tN ↓j2 ↓iR ↓mX ↓iZ ↓j8 ↓j1 ↓ko EY j3 jE pf oQ qX bind_none bind_some join_some getElem?_cons_zero getElem?_cons_succ aG BH vP vQ vY Ce lZ pE qS ug wG map_cons map_nil List.append List.replicate length_cons length_nil Nat.reduceAdd Nat.reduceSub nil_append cons_append set_cons_zero set_cons_succ map_some ↓reduceIte Bool.not_true Bool.not_false false_eq_true true_eq_false xor_false false_xor"
noncomputable def fR:DTS:=
 (aT (fh (aq nH (ab (ae 1) ao)) (dOp (bV false) (aq hW (ab (ae 0) (ab (ae 1) ao))) (dC (.int 1)))))
noncomputable def pU:DTS:=
 (aC (bQ (fM (dn (dB (wb "tuple" (ae 1)))) (fM (dB (dOp rLt (dCB cL (ab (ae 1) ao)) (dC (.int 1)))) (dB (dOp rGt (dCB cL (ab (ae 1) ao)) (dC (.int 3)))))) (aT (dC (.bool false))) aW)
 (aT (dCB xg (ab (rg [none,some 0] (uu (ae 1)) (ak 0) eU (aq tX (ab (ae 1) (ab (ae 0) ao)))) ao))))
noncomputable def ip:DTS:=
 (bQ (dn (dB (aq u5 (ab (ae 0) (ab (ae 1) ao))))) sM aW)
noncomputable def lF:DTS:=
 (aC (aR (zk (ab (aq pP (ab (ae 0) (ab (ae 1) ao))) ao)) (ak 2))
 (aC (vE (nt (ab (aq b4 (ab (ae 0) (ab (dC (.int 3)) ao))) ao)) (ak 3) (aC (aR (aq b4 (ab (ae 0) (ab (dC (.int 6)) ao))) (ak 4))
 (aC (aR (cS (ab (fi (dC (.int 1)) (aq b4 (ab (ae 0) (ab (dC (.int 9)) ao)))) (ab (dC (.int 0)) (ab (fi (dC (.int 1)) (aq b4 (ab (ae 0) (ab (dC (.int 9)) ao)))) ao)))) (ak 5))
 (aC (aR (dOp ax (g8 (ab (dOp ax (ae 2) (dC (.int 0))) (ab (aq cj (ab (ae 1) (ab (dOp ax (ae 2) (dC (.int 0))) ao))) ao))) (pG (ae 4) (dC (.int 2)))) (ak 6))
 (aC (bQ (dB (dOp rGt (ae 4) (dC (.int 3)))) (aR (aq pP (ab (ae 0) (ab (ae 1) ao))) (ak 6)) (bQ (dB (dOp rGt (ae 4) (dC (.int 1)))) (aR (aq dw (ab (ae 1) (ab (ae 6) (ab (aq cD (ab (dOp ax (ae 5) (dC (.int 0))) (ab (dOp ax (ae 5) (dC (.int 1))) (ab (dOp ax (ae 5) (dC (.int 2))) ao)))) ao)))) (ak 6)) aW))
 (oS (Ei (ae 2) (ae 6))))))))
 (aT (dCB kx (ab (ae 2) ao)))))
noncomputable def jc:DTS:=
 (bQ (dn (dB (aq qK (ab (ae 0) (ab (ae 1) ao))))) sM aW)
noncomputable def vS:DTS:=
 (aC (aR (dC (.tuple [.int 0,.int 0,.int 1])) (ak 1))
 (aC (vE (dU (ae 0)) (ak 2) (aR (aq cP (ab (ae 1) (ab (ae 2) ao))) (ak 1)))
 (aT (ae 1))))
noncomputable def xr:DTS:=
 (aC (aR (cS (ab (dC (.int 0)) (ab (dC (.int 0)) (ab (dC (.int 1)) ao)))) (ak 1))
 (aC (vE (dU (ae 0)) (ak 2) (aR (aq cP (ab (ae 1) (ab (ae 2) ao))) (ak 1)))
 (aT (ae 1))))
section
variable {U:Mu}{Qd:DK}{ds:List D}
theorem Ge{d:Int}{x:N3}(ox:Ok x):CU d (dN x)=decide (sg d x.a x.b=1):=by
 show (isNum (dN x)&&decide (sg d x.a x.b=1))=_
 rw[KI ox,Bool.true_and]
theorem Gj{d:Int}{t:PyData}(h:isNum t=false):CU d t=false:=by
 unfold CU
 split
 ·rw[h,Bool.false_and]
 ·rfl
theorem Gy{t:PyData}(h:isNum t=true):∃x:N3,t=dN x/\Ok x:=by
 unfold isNum at h
 split at h
 ·rename_i a b c
  simp only[and_eq_true,decide_eq_true_eq,beq_iff_eq] at h
  exact⟨⟨a,b,c⟩,rfl,by show 0<c;omega,h.2⟩
 ·cases h
theorem sX(h:tX ds U Qd):fR ‹Qd› (aG ["d","thing"] ds) U:=by
 obtain⟨d,t,rfl,hd,ft,bt,q⟩:=h
 unfold fR
 walk_at "rn"
 refine⟨t,rfl,ft,?_⟩
 walk_at "rn"
 cases e:isNum t with
 |true=>
  walk_at "rn"
  obtain⟨x,rfl,ox⟩:=Gy e
  refine⟨d,x,rfl,hd,bt x rfl,?_⟩
  walk_at "rn"
  rw[Ge ox] at q
  exact q
 |false=>
  walk_at "rn"
  rw[Gj e] at q
  exact q
theorem P0{x y:N3}(e:dN x=dN y):x=y:=by
 simp only[dN,PyData.tuple.injEq,List.cons.injEq,PyData.int.injEq,and_true] at e
 exact N3.ext' e.1 e.2.1 e.2.2
theorem FU(h:u5 ds U Qd):pU ‹Qd› (aG ["d","thing"] ds) U:=by
 obtain⟨d,ks,rfl,hd,l1,l3,hk,q⟩:=h
 unfold pU
 have e0:isT "tuple" (.tuple (ks.map dN))=true:=rfl
 walk_at "rn"
 rw[e0]
 walk_at "rn"
 have c1:decide ((((ks.map dN).length:Nat):Int)<1)=false:=by rw[length_map];simp;omega
 have c2:decide ((3:Int)<(((ks.map dN).length:Nat):Int))=false:=by rw[length_map];simp;omega
 rw[c1,c2]
 simp only[false_eq_true,↓reduceIte]
 refine⟨by rw[length_map];omega,fun _=>some (.bool true),fun t ht O _=>⟨⟨trivial,trivial⟩,?_⟩,?_⟩
 ·obtain⟨k,hk',rfl⟩:=List.mem_map.mp ht
  obtain⟨ok,bk,sk⟩:=hk k hk'
  refine⟨d,dN k,rfl,hd,IP,fun x e=>by rw[<- P0 e];exact bk.mono ⋯,rfl,?_⟩
  rw[Ge ok,sk];rfl
 ·rw[nW (fun _=>PyData.bool true),kO (fun _=>true)]
  have:((ks.map dN).map fun _=>true).all id=true:=by rw[all_eq_true];intro x hx;obtain⟨_,_,rfl⟩:=List.mem_map.mp hx;rfl
  dsimp only
  rw[this]
  exact q
theorem vC(h:kG ds U Qd):ip ‹Qd› (aG ["d","thing"] ds) U:=by
 obtain⟨d,ks,rfl,hd,l1,l3,hk,q⟩:=h
 unfold ip
 walk_at "rn"
 refine⟨d,ks,rfl,hd,l1,l3,hk,?_⟩
 walk_at "rn"
 exact q
noncomputable def Ez(a p:Addr)(d:Int)(x:N3)(U:Mu)(i:Nat)(ρ:Rho)(O:Mu):Prop:=∃(ks:List N3) (r3 r4 r5 r6:Option D),ρ=[some (.m a),some (.v (.int d)),some (.m p),r3,r4,r5,r6]/\Bag O a/\(∀b,b≠a->∀ds,U b=some ds->O b=some ds)/\O p=some ((x::ks).map dN)/\ks.length=i/\(∀k∈x::ks,Ok k/\Bd 60 k/\sg d k.a k.b=1)
theorem AR(h:uD ds U Qd):lF ‹Qd› (aG ["_law_bag_here","_law_d","_law_found","_law_turn","_law_way","_law_part","_law_kind"] ds) U:=by
 obtain⟨a,d,rfl,hd,hb,q⟩:=h
 have s5:=l5 hd.1 hd.2.1
 unfold lF
 walk_at "rn"
 refine⟨a,d,rfl,hd,hb,fun x ac ox bx sx s1=>?_⟩
 walk_at "rn"
 intro p hp
 have hap:a≠p:=fun z=>by obtain⟨g,m,e,_⟩:=s1.1;rw[z,hp] at e;cases e
 have sb:Bag (bD ac p [dN x]) a:=by obtain⟨g,m,e,z⟩:=s1.1;exact⟨g,m,by rw[aV hap];exact e,z⟩
 rw[vo]
 walk_at "rn"
 refine⟨a,3,rfl,⋯,⋯,sb,fun n ad n0 n1 s2=>?_⟩
 walk_at "rn"
 have keep2:∀b,b≠a->∀ds,U b=some ds->ad b=some ds:=fun b hb' ds e=>by
  have e1:=(s1.2 b hb').trans e
  have:b≠p:=fun z=>by rw[z,hp] at e1;cases e1
  rw[s2.2 b hb',aV this];exact e1
 have hp2:ad p=some ([x].map dN):=by rw[s2.2 p (fun z=>hap z.symm)];exact bg
 refine⟨⟨∅,∅⟩,Ez a p d x U,⟨[],_,_,_,_,rfl,s2.1,keep2,hp2,rfl,fun k hk=>by rw[List.mem_singleton.mp hk];exact⟨ox,bx.mono ⋯,sx⟩⟩,?_,?_⟩
 ·rintro i v ρ ap hv ⟨ks,r3,r4,r5,r6,rfl,hb3,kp,hpk,hl,hok⟩
  obtain⟨rfl,hi⟩:=Ks hv
  have hi2:i<2:=by omega
  walk_at "rn"
  refine⟨a,6,rfl,⋯,⋯,hb3,fun way bn w0 w1 s4=>?_⟩
  walk_at "rn"
  refine⟨a,9,rfl,⋯,⋯,s4.1,fun t ga t0 t1 s5'=>?_⟩
  walk_at "rn"
  refine⟨a,9,rfl,⋯,⋯,s5'.1,fun u lf u0 u1 s6=>?_⟩
  walk_at "rn"
  have s46:=s4.trans (s5'.trans s6)
  have hp6:lf p=some (dN x::ks.map dN):=by rw[s46.2 p (fun z=>hap z.symm)];exact hpk
  simp only[hp6]
  walk_at "rn"
  have nx:=mL hd ox sx
  have ocx:=dR nx
  have bcx:=oZ s5 nx bx
  refine⟨d,x,rfl,s5,nx,bx.mono ⋯,?_⟩
  walk_at "rn"
  obtain⟨m0,m1⟩:=mM way (show (0:Int)<2 by decide)
  obtain⟨_,e1,k1,rfl,ok1,bk1,sk1⟩:=pick (P:=fun v=>∃k,v=dN k/\Ok k/\Bd 46 k/\sg d k.a k.b=1) (xs:=[dN x,dN (aS d x)]) m0 (by exact m1) (by
   intro v hv
   simp only[mem_cons,not_mem_nil,or_false] at hv
   rcases hv with rfl|rfl
   ·exact⟨_,rfl,ox,bx.mono ⋯,sx⟩
   ·exact⟨_,rfl,ocx,bcx.mono ⋯,qp hd ox sx⟩)
  rw[e1]
  refine⟨⋯,?_⟩
  walk_at "rn"
  have fin:∀(gV:Mu) (k:N3) (r3 r4 r5:Option D),Step a lf gV->Ok k->Bd 60 k->sg d k.a k.b=1->Ei (ae 2) (ae 6) [some (.m a),some (.v (.int d)),some (.m p),r3,r4,r5,some (.v (dN k))] gV (fun _ O=>Ez a p d x U (i+1) [some (.m a),some (.v (.int d)),some (.m p),r3,r4,r5,some (.v (dN k))] O):=fun gV k r3 r4 r5 s7 ok bk sk=>by
   have s47:=s46.trans s7
   have hp7:gV p=some (dN x::ks.map dN):=by rw[s47.2 p (fun z=>hap z.symm)];exact hpk
   walk_at "rn"
   simp only[hp7]
   refine⟨by simp;omega,ks++[k],_,_,_,_,rfl,?_,fun b hb' ds e=>?_,?_,by simp[hl],fun z hz=>?_⟩
   ·obtain⟨g,m,e,z⟩:=s47.1;exact⟨g,m,by rw[aV hap];exact e,z⟩
   ·have h3:=kp b hb' ds e
    by_cases hbp:b=p
    ·subst hbp
     exfalso
     have e1:=(s1.2 b hb').trans e
     rw[hp] at e1;cases e1
    ·rw[aV hbp,s47.2 b hb'];exact h3
   ·rw[bg];simp
   ·rcases List.mem_cons.mp hz with z'|z'
    ·exact hok z (by rw[z'];exact mem_cons_self)
    ·rcases List.mem_append.mp z' with z''|z''
     ·exact hok z (mem_cons_of_mem _ z'')
     ·rw[List.mem_singleton.mp z''];exact⟨ok,bk,sk⟩
  by_cases c1:3<way
  ·rw[if_pos (by simpa using c1)]
   refine⟨a,d,rfl,hd,s6.1,fun k gV ok bk sk s7=>?_⟩
   have:=fin gV k (some (.v (.int (0+(i:Int))))) (some (.v (.int way))) (some (.v (dN ⟨1+t,0,1+u⟩))) s7 ok (bk.mono ⋯) sk
   walk_at "rn"
   exact this
  ·rw[if_neg (by simpa using c1)]
   by_cases c2:1<way
   ·rw[if_pos (by simpa using c2)]
    have un:1+u≠0:=by omega
    have z4:∀v:Int,0<=v->v<9->Sz 4 (1+v):=fun v h1 h2=>Sz.of (by show (1+v).natAbs<16;omega)
    have op:=jd (1+t) 0 un
    have bp:Bd 4 (low (1+t) 0 (1+u)):=jg un (z4 t t0 t1) (Sz.of (by show (0:Int).natAbs<16;decide)) (z4 u u0 u1)
    have hp':sg d (low (1+t) 0 (1+u)).a (low (1+t) 0 (1+u)).b=1:=by
     rw[vi hd ∅]
     unfold sg
     rw[if_neg ∅,if_pos ∅]
    refine⟨_,_,_,rfl,un,(z4 u u0 u1).mono ⋯,d,k1,_,rfl,s5,ok1,op,bk1.mono ⋯,bp.mono ⋯,?_⟩
    exact fin lf _ _ _ _ (Step.refl s6.1) (bL ok1 op) ((FD s5 ok1 op bk1 bp).mono ⋯) (by rw[J3 hd ok1 op,sk1,hp'];rfl)
   ·rw[if_neg (by simpa using c2)]
    exact fin lf k1 _ _ _ (Step.refl s6.1) ok1 (bk1.mono ⋯) sk1
 ·rintro ρ ap ⟨ks,r3,r4,r5,r6,rfl,hb3,kp,hpk,hl,hok⟩
  rw[yQ] at hl
  walk_at "rn"
  simp only[hpk]
  exact q (x::ks) ap ⟨by simp,by simp;omega,hok⟩ ⟨hb3,kp⟩
theorem xB(h:ny ds U Qd):jc ‹Qd› (aG ["thing","many"] ds) U:=by
 obtain⟨t,m,rfl,hs,ho,q⟩:=h
 unfold jc
 walk_at "ru"
 refine⟨t,m,rfl,hs,fun O k=>?_⟩
 walk_at "ru"
 rw[ho]
 simp only[Bool.not_true,false_eq_true,↓reduceIte]
 exact q O k
theorem Lu{l:List N3}{i:Nat}{x:N3}(h:l[i]? = some x):sr (l.take (i+1))=plus (sr (l.take i)) x:=by
 unfold sr
 rw[take_succ,h]
 simp
theorem DP{l:List N3}(h:∀x∈l,Ok x):Ok (sr l):=by
 unfold sr
 have key:∀(l:List N3) (a:N3),Ok a->(∀x∈l,Ok x)->Ok (l.foldl plus a):=fun l=>by
  induction l with
  |nil=>exact fun a oa _=>oa
  |cons x r ih=>exact fun a oa h=>ih _ (cA oa (h x (by simp))) fun y hy=>h y (by simp[hy])
 exact key l _ l7 h
theorem MG.ok{l:List N3}(h:MG l)(j:Nat):Ok (sr (l.take j)):=DP fun x hx=>(h.1 x (List.mem_of_mem_take hx)).1
theorem Q7{l:List N3}{i:Nat}{x:PyData}(h:(l.map dN)[i]? = some x):∃y,l[i]? = some y/\x=dN y:=by
 rw[getElem?_map] at h
 cases e:l[i]? with
 |none=>rw[e] at h;cases h
 |some y=>rw[e] at h;exact⟨y,rfl,by simpa using h.symm⟩
theorem Cp(h:uc ds U Qd):vS ‹Qd› (aG ["shapes","total","shape"] ds) U:=by
 obtain⟨l,rfl,hl,hs,q⟩:=h
 unfold vS
 walk_at "ru"
 rw[vo]
 walk_at "ru"
 refine⟨fun i ρ O=>∃r2,ρ=[some (.v (.list (l.map dN))),some (.v (dN (sr (l.take i)))),r2]/\O=U,⟨_,rfl,rfl⟩,?_,?_⟩
 ·rintro i x ρ O hx ⟨r2,rfl,rfl⟩
  obtain⟨y,hy,rfl⟩:=Q7 hx
  have hm:=hs.1 y (mem_of_getElem? hy)
  walk_at "ru"
  refine⟨_,y,rfl,hs.ok i,hm.1,(hs.2 i).mono ⋯,hm.2.mono ⋯,?_⟩
  exact⟨_,by rw[Lu hy],rfl⟩
 ·rintro ρ O ⟨r2,rfl,rfl⟩
  walk_at "ru"
  rw[length_map,take_length]
  exact q
theorem Fp(h:uc ds U Qd):xr ‹Qd› (aG ["_law_some","_law_found","_law_one"] ds) U:=Cp h
end
noncomputable def Gg(l:List N3):Prop:=(∀x∈l,Ok x/\Bd 4300 x)/\∀j,Bd 4300 (sr (l.take j))
theorem Gg.big{l:List N3}(h:Gg l):MG l:=⟨fun x hx=>⟨(h.1 x hx).1,(h.1 x hx).2.mono ⋯⟩,fun j=>(h.2 j).mono ⋯⟩
noncomputable def G(d:Int)(x:N3):Prop:=Ok x/\norm d x≠0/\Bd 4300 x
inductive SP(d:Int)(ks:List N3):Nat->PyData->N3->Prop
 |kind {n:Nat} (i:Int) (k:N3):0<=i->i<(ks.length:Nat)->ks[i.toNat]? = some k->SP d ks (n+1) (.tuple [.str "kind",.int i]) k
 |turn {n:Nat} {t:PyData} {x:N3}:SP d ks n t x->G d x->SP d ks (n+1) (.tuple [.str "turn",t]) (aS d x)
 |grid {n:Nat} {t:PyData} {x:N3} (u v:Int):1<=u->1<=v->u<=1000000->v<=1000000->SP d ks n t x->Ok x->Bd 4300 x->SP d ks (n+1) (.tuple [.str "grid",.int u,.int v,t]) (times d x (low v 0 u))
 |rZ {n:Nat} (es:List (PyData×N3)):2<=es.length->es.length<=8->(∀e∈es,SP d ks n e.1 e.2)->Gg (es.map (·.2))->SP d ks (n+1) (.tuple [.str "upon",.tuple (es.map (·.1))]) (sr (es.map (·.2)))
 |fY {n:Nat} (es:List (PyData×N3)):2<=es.length->es.length<=8->(∀e∈es,SP d ks n e.1 e.2)->(∀e∈es,G d e.2)->Gg ((es.map (·.2)).map (aS d))->G d (sr ((es.map (·.2)).map (aS d))) ->
   SP d ks (n+1) (.tuple [.str "beside",.tuple (es.map (·.1))]) (aS d (sr ((es.map (·.2)).map (aS d))))
section
variable {d:Int}{ks:List N3}{n:Nat}{t:PyData}{x:N3}
theorem Dp(hd:Sz 5 d){w:Nat}:∀(ys:List (Nat×N3)) (a:N3) (k:Nat),Ok a->Ht d k a->(∀y∈ys,Ok y.2/\1<=y.1/\Ht d (y.1*w-7) y.2)->26<=w->Ht d (k+(ys.map (·.1)).sum*w) ((ys.map (·.2)).foldl plus a)
 |[],a,k,_,h,_,_=>h.mono (by simp)
 |y::r,a,k,oa,h,g,hw=>by
  obtain⟨oy,c1,hy⟩:=g y (by simp)
  have h1:Ht d (k+y.1*w) (plus a y.2):=(LY hd oa oy h hy).mono (by have:7<=y.1*w:=le_trans (by omega:7<=1*w) (Nat.mul_le_mul_right w c1);omega)
  have:=Dp hd r (plus a y.2) _ (cA oa oy) h1 (fun z hz=>g z (by simp[hz])) hw
  rw[map_cons,map_cons,sum_cons,List.foldl_cons,add_mul,<- Nat.add_assoc]
  exact this
theorem E9(h:av d):∀(l:List N3) (a:N3),Ok a->(a=fF\/sg d a.a a.b=1)->(∀x∈l,Ok x/\sg d x.a x.b=1)->l≠[]->sg d (l.foldl plus a).a (l.foldl plus a).b=1
 |[],_,_,_,_,n=>absurd rfl n
 |[x],a,oa,ha,g,_=>zO h oa (g x (by simp)).1 ha (g x (by simp)).2
 |x::y::r,a,oa,ha,g,_=>E9 h (y::r) (plus a x) (cA oa (g x (by simp)).1) (.inr (zO h oa (g x (by simp)).1 ha (g x (by simp)).2)) (fun z hz=>g z (by simp[hz])) (by simp)
theorem AH{α β:Type}{R:α->β->Prop}:∀(l:List α),(∀e∈l,∃x,R e x)->∃ys:List (α×β),ys.map (·.1)=l/\∀y∈ys,R y.1 y.2
 |[],_=>⟨[],rfl,fun _ z=>nomatch z⟩
 |e::r,h=>by
  obtain⟨x,hx⟩:=h e (by simp)
  obtain⟨ys,h1,h2⟩:=AH r fun e' he'=>h e' (by simp[he'])
  refine⟨(e,x)::ys,by rw[map_cons,h1],fun y hy=>?_⟩
  rcases List.mem_cons.mp hy with z|z
  ·rw[z];exact hx
  ·exact h2 y z
structure vM(d:Int)(w c:Nat)(x:N3):Prop where
 ok:Ok x
 pos:sg d x.a x.b=1
 ht:Ht d (c*w-7) x
theorem vM.g{w c:Nat}(h:av d)(f:vM d w c x)(hc:c*w<=2140):G d x:=⟨f.ok,mL h f.ok f.pos,(KL (l5 h.1 h.2.1) f.ok f.ht).mono ∅⟩
theorem vM.con{w c:Nat}(h:av d)(f:vM d w c x):vM d w c (aS d x):=⟨dR (mL h f.ok f.pos),qp h f.ok f.pos,Fd f.ok (mL h f.ok f.pos) f.ht⟩
theorem FK(h:av d){w:Nat}(hw:26<=w)(ys:List (Nat×N3))(hy:∀y∈ys,1<=y.1/\vM d w y.1 y.2)(hc:((ys.map (·.1)).sum+1)*w<=2140)(hne:ys≠[]) :
  Gg (ys.map (·.2))/\vM d w ((ys.map (·.1)).sum+1) (sr (ys.map (·.2))):=by
 have hd:Sz 5 d:=l5 h.1 h.2.1
 have ht0:Ht d 1 fF:=HJ l7 ⟨Sz.of ⋯,Sz.of ⋯,Sz.of ⋯⟩
 have all:∀y∈ys,Ok y.2/\1<=y.1/\Ht d (y.1*w-7) y.2:=fun y z=>⟨(hy y z).2.ok,(hy y z).1,(hy y z).2.ht⟩
 have tot:=Dp hd ys fF 1 l7 ht0 all hw
 have e1:((ys.map (·.1)).sum+1)*w=(ys.map (·.1)).sum*w+w:=by rw[add_mul,Nat.one_mul]
 have oks:∀x∈ys.map (·.2),Ok x:=fun x hx=>by obtain⟨y,z,rfl⟩:=List.mem_map.mp hx;exact (hy y z).2.ok
 have le_sum:∀(l:List (Nat×N3)) y,y∈l->y.1<=(l.map (·.1)).sum:=fun l=>by
  induction l with
  |nil=>exact fun y z=>(nomatch z)
  |cons a r ih=>
    intro y z
    rw[map_cons,sum_cons]
    rcases List.mem_cons.mp z with q|q
    ·rw[q];omega
    ·have:=ih y q;omega
 have take_le:∀(l:List (Nat×N3)) (j:Nat),((l.take j).map (·.1)).sum<=(l.map (·.1)).sum:=fun l=>by
  induction l with
  |nil=>intro j;simp
  |cons a r ih=>intro j;cases j with
   |zero=>simp
   |succ j=>rw[take_succ_cons,map_cons,map_cons,sum_cons,sum_cons];have:=ih j;omega
 refine⟨⟨fun x hx=>?_,fun j=>?_⟩,DP oks,E9 h _ _ l7 (.inl rfl) (fun x hx=>?_) (by simpa using hne),tot.mono ∅⟩
 ·obtain⟨y,z,rfl⟩:=List.mem_map.mp hx
  have:=le_sum ys y z
  have m1:y.1*w<=(ys.map (·.1)).sum*w:=Nat.mul_le_mul_right w this
  exact⟨(hy y z).2.ok,(KL hd (hy y z).2.ok (hy y z).2.ht).mono ∅⟩
 ·have t1:=Dp hd (ys.take j) fF 1 l7 ht0 (fun y z=>all y (List.mem_of_mem_take z)) hw
  have m1:((ys.take j).map (·.1)).sum*w<=(ys.map (·.1)).sum*w:=Nat.mul_le_mul_right w (take_le ys j)
  rw[<- List.map_take]
  exact (KL hd (DP fun x hx=>oks x (by rw[List.map_take] at hx;exact List.mem_of_mem_take hx)) t1).mono ∅
 ·obtain⟨y,z,rfl⟩:=List.mem_map.mp hx
  exact⟨(hy y z).2.ok,(hy y z).2.pos⟩
theorem Ck{α β γ:Type}{f:α->β}{g:α->γ}{zs:List α}(h:2<=(zs.map f).length):zs.map g≠[]:=fun q=>by
 have:zs=[]:=by simpa using q
 subst this
 simp at h
theorem RP(h:av d){w:Nat}(hw:26<=w)(hk:∀k∈ks,vM d w 1 k){dd c:Nat}(p:IsP (ks.length:Nat) dd c t):c*w<=2140->∀n,dd<=n->∃x,SP d ks n t x/\vM d w c x:=by
 have hd:Sz 5 d:=l5 h.1 h.2.1
 have many:∀{n:Nat} (es:List (Nat×Nat×PyData)) (d0:Nat),2<=es.length->(∀e∈es,e.1<=d0)->(∀e∈es,IsP (ks.length:Nat) e.1 e.2.1 e.2.2)->(∀e∈es,e.2.1*w<=2140->∀n,e.1<=n->∃x,SP d ks n e.2.2 x/\vM d w e.2.1 x)->((es.map (·.2.1)).sum+1)*w<=2140->d0<=n ->
   ∃zs:List ((Nat×Nat×PyData)×N3),zs.map (·.1)=es/\∀z∈zs,SP d ks n z.1.2.2 z.2/\vM d w z.1.2.1 z.2/\1<=z.1.2.1:=fun {n} es d0 _ he hp ih hc hn=>by
  have le_sum:∀(l:List (Nat×Nat×PyData)) e,e∈l->e.2.1<=(l.map (·.2.1)).sum:=fun l=>by
   induction l with
   |nil=>exact fun y z=>(nomatch z)
   |cons a r ih=>
     intro y z
     rw[map_cons,sum_cons]
     rcases List.mem_cons.mp z with q|q
     ·rw[q];omega
     ·have:=ih y q;omega
  refine AH (R:=fun e x=>SP d ks n e.2.2 x/\vM d w e.2.1 x/\1<=e.2.1) es fun e hee=>?_
  have m1:e.2.1*w<=((es.map (·.2.1)).sum+1)*w:=Nat.mul_le_mul_right w (by have:=le_sum es e hee;omega)
  obtain⟨x,h1,h2⟩:=ih e hee ∅ n (by have:=he e hee;omega)
  exact⟨x,h1,h2,(hp e hee).pos.2⟩
 induction p with
 |kind i i0 i1=>
  intro _ n hn
  obtain⟨n,rfl⟩:∃m,n=m+1:=⟨n-1,∅⟩
  have hi:i.toNat<ks.length:=by omega
  exact⟨ks[i.toNat],.kind i _ i0 i1 (by simp[hi]),hk _ (getElem_mem hi)⟩
 |@turn dd c t hh ih=>
  intro hc n hn
  obtain⟨n,rfl⟩:∃m,n=m+1:=⟨n-1,∅⟩
  have e1:(c+1)*w=c*w+w:=by rw[add_mul,Nat.one_mul]
  obtain⟨x,h1,h2⟩:=ih ∅ n ∅
  have f:=h2.con h
  exact⟨_,.turn h1 (h2.g h ∅),f.ok,f.pos,f.ht.mono ∅⟩
 |@grid dd c t u v hu hv hu' hv' hh ih=>
  intro hc n hn
  obtain⟨n,rfl⟩:∃m,n=m+1:=⟨n-1,∅⟩
  have e1:(c+1)*w=c*w+w:=by rw[add_mul,Nat.one_mul]
  obtain⟨x,h1,h2⟩:=ih ∅ n ∅
  have g:=h2.g h ∅
  have of:Ok (low v 0 u):=jd _ _ ∅
  have bf:Bd 20 (low v 0 u):=jg ∅ (Sz.of (by show v.natAbs<1048576;omega)) sz0 (Sz.of (by show u.natAbs<1048576;omega))
  have c1:7<=c*w:=le_trans (by omega:7<=1*w) (Nat.mul_le_mul_right w hh.pos.2)
  refine⟨_,.grid u v hu hv hu' hv' h1 g.1 g.2.2,bL g.1 of,?_,(LI hd g.1 of h2.ht (HJ of bf)).mono ∅⟩
  rw[vz h g.1 of,h2.pos,vi h ∅]
  have:sg d v 0=1:=(dS h).mpr (.inl ⟨∅,∅,∅⟩)
  rw[this];rfl
 |@rZ d0 es h2 h8 he hp ih=>
  intro hc n hn
  obtain⟨n,rfl⟩:∃m,n=m+1:=⟨n-1,∅⟩
  obtain⟨zs,rfl,hz⟩:=many es d0 h2 he hp ih hc (by omega:d0<=n)
  have es1:(zs.map fun z=>(z.1.2.1,z.2)).map (·.1)=(zs.map (·.1)).map (·.2.1):=by rw[map_map,map_map];rfl
  have es2:(zs.map fun z=>(z.1.2.1,z.2)).map (·.2)=zs.map (·.2):=by rw[map_map];rfl
  obtain⟨s1,s2⟩:=FK h hw (zs.map fun z=>(z.1.2.1,z.2)) (fun y hy=>by obtain⟨z,q,rfl⟩:=List.mem_map.mp hy;exact⟨(hz z q).2.2,(hz z q).2.1⟩) (by rw[es1];exact hc) (Ck h2)
  rw[es1,es2] at s2
  rw[es2] at s1
  refine⟨_,?_,s2⟩
  have:=SP.rZ (d:=d) (ks:=ks) (n:=n) (zs.map fun z=>(z.1.2.2,z.2)) (by simpa using h2) (by simpa using h8) (fun e q=>by obtain⟨z,qz,rfl⟩:=List.mem_map.mp q;exact (hz z qz).1) (by rw[map_map];exact s1)
  rw[map_map,map_map] at this
  rw[map_map]
  exact this
 |@fY d0 es h2 h8 he hp ih=>
  intro hc n hn
  obtain⟨n,rfl⟩:∃m,n=m+1:=⟨n-1,∅⟩
  obtain⟨zs,rfl,hz⟩:=many es d0 h2 he hp ih hc (by omega:d0<=n)
  have le_sum:∀(l:List ((Nat×Nat×PyData)×N3)) z,z∈l->z.1.2.1<=((l.map (·.1)).map (·.2.1)).sum:=fun l=>by
   induction l with
   |nil=>exact fun y z=>(nomatch z)
   |cons a r ih=>
     intro y z
     rw[map_cons,map_cons,sum_cons]
     rcases List.mem_cons.mp z with q|q
     ·rw[q];omega
     ·have:=ih y q;omega
  have es1:(zs.map fun z=>(z.1.2.1,aS d z.2)).map (·.1)=(zs.map (·.1)).map (·.2.1):=by rw[map_map,map_map];rfl
  have es2:(zs.map fun z=>(z.1.2.1,aS d z.2)).map (·.2)=(zs.map (·.2)).map (aS d):=by rw[map_map,map_map];rfl
  obtain⟨s1,s2⟩:=FK h hw (zs.map fun z=>(z.1.2.1,aS d z.2)) (fun y hy=>by obtain⟨z,q,rfl⟩:=List.mem_map.mp hy;exact⟨(hz z q).2.2,(hz z q).2.1.con h⟩) (by rw[es1];exact hc) (Ck h2)
  rw[es1,es2] at s2
  rw[es2] at s1
  refine⟨_,?_,s2.con h⟩
  have em:(zs.map fun z=>(z.1.2.2,z.2)).map (·.2)=zs.map (·.2):=by rw[map_map];rfl
  have:=SP.fY (d:=d) (ks:=ks) (n:=n) (zs.map fun z=>(z.1.2.2,z.2)) (by simpa using h2) (by simpa using h8) (fun e q=>by obtain⟨z,qz,rfl⟩:=List.mem_map.mp q;exact (hz z qz).1)
   (fun e q=>by
    obtain⟨z,qz,rfl⟩:=List.mem_map.mp q
    have m1:z.1.2.1*w<=(((zs.map (·.1)).map (·.2.1)).sum+1)*w:=Nat.mul_le_mul_right w (by have:=le_sum zs z qz;omega)
    exact (hz z qz).2.1.g h ∅) (by rw[em];exact s1) (by rw[em];exact s2.g h hc)
  rw[em,map_map] at this
  rw[map_map]
  exact this
end
structure Bo(d:Int) where
 x:RN d
 y:RN d
 w:RN d
 h:RN d
section
variable {d:Int}
noncomputable def swp(B:Bo d):Bo d:=⟨B.y,B.x,B.h,B.w⟩
noncomputable def bJ(q:Nat)(u v:Int):Int:=if q % 2=1 then v else u
noncomputable def lV(q:Nat)(u v:Int)(B:Bo d)(c r:Int):Bo d:=
 ⟨B.x+(c:RN d)*(B.w*inv (bJ q u v:RN d)),B.y+(r:RN d)*(B.h*inv (bJ q v u:RN d)),B.w*inv (bJ q u v:RN d),B.h*inv (bJ q v u:RN d)⟩
noncomputable def oq(x w:RN d):RN d->List (RN d)->List (Bo d)
 |_,[]=>[]
 |s,z::l=>⟨x,s,w,z*w⟩::oq x w (s+z*w) l
noncomputable def oo(x w:RN d):RN d->List (RN d)->List (Bo d)
 |_,[]=>[]
 |s,z::l=>⟨x,s-z*w,w,z*w⟩::oo x w (s-z*w) l
noncomputable def rise(b:Bool)(B:Bo d)(zs:List (RN d)):List (Bo d):=if b=true then oo B.x B.w (B.y+B.h) zs else oq B.x B.w B.y zs
noncomputable def wm(q:Nat)(up:Bool):Bool:=up==(q % 2==0)
noncomputable def bck(q:Nat)(up:Bool):Bool:=if up=true then q % 4==1 || q % 4==2 else q % 4==2 || q % 4==3
noncomputable def cO(q:Nat)(up:Bool)(B:Bo d)(zs:List (RN d)):List (Bo d):=if wm q up=true then rise (bck q up) B zs else (rise (bck q up) (swp B) zs).map swp
noncomputable def cE(l:List (RN d)):RN d:=l.foldl (· + ·) 0
noncomputable def bZ(up:Bool)(es:List (PyData×RN d)):List (RN d):=es.map fun e=>if up=true then e.2 else inv e.2
noncomputable def whole(up:Bool)(es:List (PyData×RN d)):RN d:=if up=true then cE (bZ up es) else inv (cE (bZ up es))
noncomputable def wd(up:Bool):Str:=if up=true then "upon" else "beside"
inductive Go(d:Int)(ks:List N3):Nat->Nat->PyData->RN d->Bo d->Bo d->Int->Nat->Prop
 |kind {n q:Nat} {B:Bo d} (i:Int) (k:RN d):0<=i->i<(ks.length:Nat)->ks[i.toNat]? = some k.v->ps k->Go d ks (n+1) q (.tuple [.str "kind",.int i]) k B B i q
 |turn {n q q':Nat} {t:PyData} {x:RN d} {B T:Bo d} {i:Int}:SP d ks n t x.v->ps x->Bd 4300 x.v->Go d ks n (q+1) t x B T i q'->Go d ks (n+1) q (.tuple [.str "turn",t]) (inv x) B T i q'
 |grid {n q q':Nat} {t:PyData} {x:RN d} {B T:Bo d} {i:Int} (u v c r:Int):1<=u->1<=v->u<=1000000->v<=1000000->SP d ks n t x.v->ps x->Bd 4300 x.v->0<=c->c<bJ q u v->0<=r->r<bJ q v u ->
   Go d ks n q t x (lV q u v B c r) T i q'->Go d ks (n+1) q (.tuple [.str "grid",.int u,.int v,t]) (x*((v:RN d)*inv (u:RN d))) B T i q'
 |strip {n q q':Nat} {B T B':Bo d} {i:Int} (up:Bool) (es:List (PyData×RN d)) (j:Nat) (e:PyData×RN d):2<=es.length->es.length<=8->(∀e∈es,SP d ks n e.1 e.2.v/\ps e.2/\Bd 4300 e.2.v)->(∀z∈bZ up es,Bd 4300 z.v) ->
   es[j]? = some e->(cO q up B (bZ up es))[j]? = some B'->Go d ks n q e.1 e.2 B' T i q'->Go d ks (n+1) q (.tuple [.str (wd up),.tuple (es.map (·.1))]) (whole up es) B T i q'
end
section
variable {d:Int}
structure In(T:Bo d)(a b:RN d):Prop where
 x0:nn (a-T.x)
 x1:ps (T.x+T.w-a)
 y0:nn (b-T.y)
 y1:ps (T.y+T.h-b)
theorem In.swp{T:Bo d}{a b:RN d}(h:In T a b):In (swp T) b a:=⟨h.y0,h.y1,h.x0,h.x1⟩
theorem C1{T:Bo d}{a b:RN d}:In (swp T) b a↔In T a b:=⟨fun h=>h.swp,fun h=>h.swp⟩
structure Rat(q:Nat)(x:RN d)(B:Bo d):Prop where
 w:ps B.w
 h:ps B.h
 r0:q % 2=0->B.h=x*B.w
 r1:q % 2=1->B.w=x*B.h
theorem foldl_add:∀(l:List (RN d)) (a:RN d),l.foldl (· + ·) a=a+cE l
 |[],a=>by unfold cE;simp only[List.foldl_nil];grind
 |z::l,a=>by
  unfold cE
  rw[List.foldl_cons,List.foldl_cons,foldl_add l (a+z),foldl_add l (0+z)]
  grind
theorem mv:cE ([]:List (RN d))=0:=rfl
theorem df(z:RN d)(l:List (RN d)):cE (z::l)=z+cE l:=by
 unfold cE;rw[List.foldl_cons,foldl_add];unfold cE;grind
theorem y4(hd:av d):∀{l:List (RN d)},(∀z∈l,ps z)->nn (cE l)
 |[],_=>LB
 |z::l,h=>by rw[df];exact nT hd (fE hd (h z (by simp))) (y4 hd fun y hy=>h y (by simp[hy]))
theorem Ea(hd:av d){l:List (RN d)}(h:∀z∈l,ps z)(hn:l≠[]):ps (cE l):=by
 cases l with
 |nil=>exact absurd rfl hn
 |cons z l=>rw[df];exact Ah hd (h z (by simp)) (y4 hd fun y hy=>h y (by simp[hy]))
theorem BV{x w:RN d}:∀{zs:List (RN d)} {s:RN d} {j:Nat} {B:Bo d},(oq x w s zs)[j]? = some B->∃z,zs[j]? = some z/\B=⟨x,s+cE (zs.take j)*w,w,z*w⟩
 |[],_,_,_,h=>by simp[oq] at h
 |z::l,s,0,B,h=>by
  simp only[oq,getElem?_cons_zero,Option.some.injEq] at h
  refine⟨z,rfl,?_⟩
  rw[<- h,List.take_zero,mv]
  congr 1;grind
 |z::l,s,j+1,B,h=>by
  simp only[oq,getElem?_cons_succ] at h
  obtain⟨z',h1,h2⟩:=BV h
  refine⟨z',by simpa using h1,?_⟩
  rw[h2,take_succ_cons,df]
  congr 1;grind
theorem BM{x w:RN d}:∀{zs:List (RN d)} {s:RN d} {j:Nat} {B:Bo d},(oo x w s zs)[j]? = some B->∃z,zs[j]? = some z/\B=⟨x,s-cE (zs.take j)*w-z*w,w,z*w⟩
 |[],_,_,_,h=>by simp[oo] at h
 |z::l,s,0,B,h=>by
  simp only[oo,getElem?_cons_zero,Option.some.injEq] at h
  refine⟨z,rfl,?_⟩
  rw[<- h,List.take_zero,mv]
  congr 1;grind
 |z::l,s,j+1,B,h=>by
  simp only[oo,getElem?_cons_succ] at h
  obtain⟨z',h1,h2⟩:=BM h
  refine⟨z',by simpa using h1,?_⟩
  rw[h2,take_succ_cons,df]
  congr 1;grind
theorem BS{x w:RN d}:∀{zs:List (RN d)} {s:RN d},(oq x w s zs).length=zs.length
 |[],_=>rfl
 |_::l,_=>by simp only[oq,length_cons,BS]
theorem BU{x w:RN d}:∀{zs:List (RN d)} {s:RN d},(oo x w s zs).length=zs.length
 |[],_=>rfl
 |_::l,_=>by simp only[oo,length_cons,BU]
theorem mS{bk:Bool}{B:Bo d}{zs:List (RN d)}:(rise bk B zs).length=zs.length:=by
 unfold rise;split
 ·exact BU
 ·exact BS
theorem tq{q:Nat}{up:Bool}{B:Bo d}{zs:List (RN d)}:(cO q up B zs).length=zs.length:=by
 unfold cO;split
 ·exact mS
 ·rw[length_map];exact mS
theorem B3:∀{zs:List (RN d)} {j:Nat} {z:RN d},zs[j]? = some z->cE zs=cE (zs.take j)+z+cE (zs.drop (j+1))
 |[],_,_,h=>by simp at h
 |y::l,0,z,h=>by
  simp only[getElem?_cons_zero,Option.some.injEq] at h
  rw[List.take_zero,mv,df,h]
  show z+cE l=0+z+cE l
  grind
 |y::l,j+1,z,h=>by
  simp only[getElem?_cons_succ] at h
  rw[take_succ_cons,df,df,B3 h,List.drop_succ_cons]
  grind
theorem pL{bk:Bool}{B:Bo d}{zs:List (RN d)}{j:Nat}{C:Bo d}(h:(rise bk B zs)[j]? = some C):∃z,zs[j]? = some z/\C=⟨B.x,if bk=true then B.y+B.h-cE (zs.take j)*B.w-z*B.w else B.y+cE (zs.take j)*B.w,B.w,z*B.w⟩:=by
 unfold rise at h
 cases bk
 ·exact BV h
 ·exact BM h
theorem HC(hd:av d){bk:Bool}{B C:Bo d}{zs:List (RN d)}{j:Nat}(h:(rise bk B zs)[j]? = some C)(hw:ps B.w)(hz:∀z∈zs,ps z)(ht:B.h=cE zs*B.w){a b:RN d}(g:In C a b):In B a b:=by
 obtain⟨z,h1,rfl⟩:=pL h
 have sp:=B3 h1
 have s1:nn (cE (zs.take j)*B.w):=jj hd (y4 hd fun y hy=>hz y (List.mem_of_mem_take hy)) (fE hd hw)
 have s2:nn (cE (zs.drop (j+1))*B.w):=jj hd (y4 hd fun y hy=>hz y (List.mem_of_mem_drop hy)) (fE hd hw)
 obtain⟨g1,g2,g3,g4⟩:=g
 refine⟨g1,g2,?_,?_⟩
 ·cases bk
  ·have:=nT hd g3 s1
   simp only[false_eq_true,↓reduceIte] at this
   rwa [show b-(B.y+cE (zs.take j)*B.w)+cE (zs.take j)*B.w=b-B.y by grind] at this
  ·have:=nT hd g3 s2
   simp only[↓reduceIte] at this
   rwa [show b-(B.y+B.h-cE (zs.take j)*B.w-z*B.w)+cE (zs.drop (j+1))*B.w=b-B.y by rw[ht,sp];grind] at this
 ·cases bk
  ·have:=Ah hd g4 s2
   simp only[false_eq_true,↓reduceIte] at this
   rwa [show B.y+cE (zs.take j)*B.w+z*B.w-b+cE (zs.drop (j+1))*B.w=B.y+B.h-b by rw[ht,sp];grind] at this
  ·have:=Ah hd g4 s1
   simp only[↓reduceIte] at this
   rwa [show B.y+B.h-cE (zs.take j)*B.w-z*B.w+z*B.w-b+cE (zs.take j)*B.w=B.y+B.h-b by grind] at this
theorem IH:∀{zs:List (RN d)} {i j:Nat} {z:RN d},i<j->j<=zs.length->zs[i]? = some z->∃m,(∀y∈m,y∈zs)/\cE (zs.take j)=cE (zs.take i)+z+cE m
 |[],_,_,_,_,_,h=>by simp at h
 |_::_,_,0,_,h,_,_=>absurd h (Nat.not_lt_zero _)
 |y::l,0,j+1,z,_,hj,h=>by
  simp only[getElem?_cons_zero,Option.some.injEq] at h
  refine⟨l.take j,fun y' hy=>by simp[List.mem_of_mem_take hy],?_⟩
  rw[take_succ_cons,df,List.take_zero,mv,h];grind
 |y::l,i+1,j+1,z,lt,hj,h=>by
  simp only[getElem?_cons_succ] at h
  obtain⟨m,h1,h2⟩:=IH (show i<j by omega) (by simpa using hj) h
  refine⟨m,fun y' hy=>by simp[h1 y' hy],?_⟩
  rw[take_succ_cons,take_succ_cons,df,df,h2];grind
theorem zB(hd:av d){bk:Bool}{B C C':Bo d}{zs:List (RN d)}{i j:Nat}(hj:(rise bk B zs)[j]? = some C)(hi:(rise bk B zs)[i]? = some C')(lt:i<j)(hw:ps B.w)(hz:∀z∈zs,ps z){a b:RN d}(g:In C a b):¬ In C' a b:=fun g'=>by
 have hl:j<zs.length:=by rw[<- mS (bk:=bk) (B:=B)];exact (List.getElem?_eq_some_iff.mp hj).1
 obtain⟨z,h1,rfl⟩:=pL hj
 obtain⟨z',h2,rfl⟩:=pL hi
 obtain⟨m,m1,m2⟩:=IH lt ∅ h2
 have s1:nn (cE m*B.w):=jj hd (y4 hd fun y hy=>hz y (m1 y hy)) (fE hd hw)
 cases bk
 ·have g1:=g.y0
  have g2:=g'.y1
  simp only[false_eq_true,↓reduceIte] at g1 g2
  exact F9 g2 (nT hd g1 s1) (by rw[m2];grind)
 ·have g1:=g.y1
  have g2:=g'.y0
  simp only[↓reduceIte] at g1 g2
  exact F9 g1 (nT hd g2 s1) (by rw[m2];grind)
theorem mr(hd:av d){up:Bool}{es:List (PyData×RN d)}(h:∀e∈es,ps e.2):∀z∈bZ up es,ps z:=fun z hz=>by
 obtain⟨e,he,rfl⟩:=List.mem_map.mp hz
 split
 ·exact h e he
 ·exact fH hd (h e he)
theorem HF(hd:av d){q:Nat}{up:Bool}{es:List (PyData×RN d)}{B:Bo d}(r:Rat q (whole up es) B)(hs:ps (cE (bZ up es))):(wm q up=true->B.h=cE (bZ up es)*B.w)/\(wm q up=false->B.w=cE (bZ up es)*B.h):=by
 have e1:=inv_mul hd hs
 have r0:=r.r0
 have r1:=r.r1
 unfold wm whole at *
 rcases (by omega:q % 2=0\/q % 2=1) with e|e
 ·have k:=r0 e
  rw[e]
  cases up
  ·refine⟨fun z=>(nomatch z),fun _=>?_⟩
   simp only[false_eq_true,↓reduceIte] at k
   rw[k];generalize inv (cE (bZ false es))=iv at *;grind
  ·exact⟨fun _=>k,fun z=>(nomatch z)⟩
 ·have k:=r1 e
  rw[e]
  cases up
  ·refine⟨fun _=>?_,fun z=>(nomatch z)⟩
   simp only[false_eq_true,↓reduceIte] at k
   rw[k];generalize inv (cE (bZ false es))=iv at *;grind
  ·exact⟨fun z=>(nomatch z),fun _=>k⟩
theorem IY(hd:av d){q:Nat}{up:Bool}{es:List (PyData×RN d)}{B C:Bo d}{j:Nat}(r:Rat q (whole up es) B)(hp:∀e∈es,ps e.2)(hn:es≠[])(h:(cO q up B (bZ up es))[j]? = some C){a b:RN d}(g:In C a b):In B a b:=by
 have hz:=mr hd (up:=up) hp
 obtain⟨t1,t2⟩:=HF hd r (Ea hd hz (by unfold bZ;simpa using hn))
 unfold cO at h
 cases hv:wm q up
 ·rw[hv,if_neg ⋯,getElem?_map] at h
  obtain⟨C',h1,rfl⟩:=Option.map_eq_some_iff.mp h
  exact C1.mp (HC hd h1 r.h hz (t2 hv) (C1.mp g))
 ·rw[hv,if_pos rfl] at h
  exact HC hd h r.w hz (t1 hv) g
theorem nr(hd:av d){q:Nat}{up:Bool}{es:List (PyData×RN d)}{B C C':Bo d}{i j:Nat}(hw:ps B.w)(hh:ps B.h)(hp:∀e∈es,ps e.2)(hj:(cO q up B (bZ up es))[j]? = some C)(hi:(cO q up B (bZ up es))[i]? = some C')(lt:i<j){a b:RN d}(g:In C a b):¬ In C' a b:=by
 have hz:=mr hd (up:=up) hp
 unfold cO at hj hi
 cases hv:wm q up
 ·rw[hv,if_neg ⋯,getElem?_map] at hj hi
  obtain⟨D,h1,rfl⟩:=Option.map_eq_some_iff.mp hj
  obtain⟨D',h2,rfl⟩:=Option.map_eq_some_iff.mp hi
  exact fun g'=>zB hd h1 h2 lt hh hz (C1.mp g) (C1.mp g')
 ·rw[hv,if_pos rfl] at hj hi
  exact zB hd hj hi lt hw hz g
theorem fU(hd:av d){q:Nat}{up:Bool}{es:List (PyData×RN d)}{B C:Bo d}{j:Nat}{e:PyData×RN d}(hw:ps B.w)(hh:ps B.h)(hp:∀e∈es,ps e.2)(he:es[j]? = some e)(h:(cO q up B (bZ up es))[j]? = some C):Rat q e.2 C:=by
 have hz:=mr hd (up:=up) hp
 have pe:=hp e (mem_of_getElem? he)
 have ie:=inv_mul hd pe
 have pi:=fH hd pe
 have sz:(bZ up es)[j]? = some (if up=true then e.2 else inv e.2):=by unfold bZ;rw[getElem?_map,he];rfl
 unfold cO at h
 cases hv:wm q up
 ·rw[hv,if_neg ⋯,getElem?_map] at h
  obtain⟨C',h1,rfl⟩:=Option.map_eq_some_iff.mp h
  obtain⟨z,h2,rfl⟩:=pL h1
  rw[sz] at h2;cases h2
  unfold wm at hv
  rcases (by omega:q % 2=0\/q % 2=1) with e|e
  ·rw[e] at hv
   cases up
   ·exact⟨dH hd pi hh,hh,fun _=>by show B.h=_*(inv _*B.h);grind,fun z=>by omega⟩
   ·exact nomatch hv
  ·rw[e] at hv
   cases up
   ·exact nomatch hv
   ·exact⟨dH hd pe hh,hh,fun z=>by omega,fun _=>rfl⟩
 ·rw[hv,if_pos rfl] at h
  obtain⟨z,h2,rfl⟩:=pL h
  rw[sz] at h2;cases h2
  unfold wm at hv
  rcases (by omega:q % 2=0\/q % 2=1) with e|e
  ·rw[e] at hv
   cases up
   ·exact nomatch hv
   ·exact⟨hw,dH hd pe hw,fun _=>rfl,fun z=>by omega⟩
  ·rw[e] at hv
   cases up
   ·exact⟨hw,dH hd pi hw,fun z=>by omega,fun _=>by show B.w=_*(inv _*B.w);grind⟩
   ·exact nomatch hv
theorem lX(hd:av d){q:Nat}{x:RN d}{B:Bo d}(hx:ps x)(r:Rat q (inv x) B):Rat (q+1) x B:=by
 have ix:=inv_mul hd hx
 refine⟨r.w,r.h,fun z=>?_,fun z=>?_⟩
 ·have:=r.r1 ∅;generalize inv x=iv at *;grind
 ·have:=r.r0 ∅;generalize inv x=iv at *;grind
theorem eE{q:Nat}{u v:Int}(hu:1<=u)(hv:1<=v):0<bJ q u v:=by unfold bJ;split<;>omega
theorem gq(hd:av d){q:Nat}{x:RN d}{B:Bo d}{u v:Int}(c r':Int)(hu:1<=u)(hv:1<=v)(r:Rat q (x*((v:RN d)*inv (u:RN d))) B):Rat q x (lV q u v B c r'):=by
 have p1:=cm (d:=d) (n:=u) ∅
 have p2:=cm (d:=d) (n:=v) ∅
 have i1:=inv_mul hd p1
 have i2:=inv_mul hd p2
 have p3:=fH hd (cm (d:=d) (eE (q:=q) hu hv))
 have p4:=fH hd (cm (d:=d) (eE (q:=q) hv hu))
 refine⟨dH hd r.w p3,dH hd r.h p4,fun z=>?_,fun z=>?_⟩
 ·have:=r.r0 z
  unfold lV
  dsimp only
  rw[show bJ q u v=u by unfold bJ;rw[if_neg ∅],show bJ q v u=v by unfold bJ;rw[if_neg ∅],this]
  generalize inv (u:RN d)=iu at *
  generalize inv (v:RN d)=iv at *
  generalize (u:RN d)=u' at *
  generalize (v:RN d)=v' at *
  grind
 ·have:=r.r1 z
  unfold lV
  dsimp only
  rw[show bJ q u v=v by unfold bJ;rw[if_pos z],show bJ q v u=u by unfold bJ;rw[if_pos z],this]
  generalize inv (u:RN d)=iu at *
  generalize inv (v:RN d)=iv at *
  generalize (u:RN d)=u' at *
  generalize (v:RN d)=v' at *
  grind
theorem cell_in(hd:av d){q:Nat}{B:Bo d}{u v c r:Int}(hu:1<=u)(hv:1<=v)(hw:ps B.w)(hh:ps B.h)(c0:0<=c)(c1:c<bJ q u v)(r0:0<=r)(r1:r<bJ q v u){a b:RN d}(g:In (lV q u v B c r) a b):In B a b:=by
 obtain⟨g1,g2,g3,g4⟩:=g
 unfold lV at g1 g2 g3 g4
 dsimp only at g1 g2 g3 g4
 have p1:=cm (d:=d) (eE (q:=q) hu hv)
 have p2:=cm (d:=d) (eE (q:=q) hv hu)
 have i1:=inv_mul hd p1
 have i2:=inv_mul hd p2
 have q1:=fE hd (dH hd hw (fH hd p1))
 have q2:=fE hd (dH hd hh (fH hd p2))
 have k1:=jj hd (tR hd c0) q1
 have k2:=jj hd (tR hd (show 0<=bJ q u v-1-c by omega)) q1
 have k3:=jj hd (tR hd r0) q2
 have k4:=jj hd (tR hd (show 0<=bJ q v u-1-r by omega)) q2
 rw[zK,zK,GI] at k2 k4
 generalize inv (bJ q u v:RN d)=iu at *
 generalize inv (bJ q v u:RN d)=iv at *
 generalize (bJ q u v:RN d)=u' at *
 generalize (bJ q v u:RN d)=v' at *
 generalize (c:RN d)=c' at *
 generalize (r:RN d)=r' at *
 have z1:=nT hd g1 k1
 have z2:=Ah hd g2 k2
 have z3:=nT hd g3 k3
 have z4:=Ah hd g4 k4
 refine⟨?_,?_,?_,?_⟩
 ·rwa [show a-(B.x+c'*(B.w*iu))+c'*(B.w*iu)=a-B.x by grind] at z1
 ·rwa [show B.x+c'*(B.w*iu)+B.w*iu-a+(u'-1-c')*(B.w*iu)=B.x+B.w-a by grind] at z2
 ·rwa [show b-(B.y+r'*(B.h*iv))+r'*(B.h*iv)=b-B.y by grind] at z3
 ·rwa [show B.y+r'*(B.h*iv)+B.h*iv-b+(v'-1-r')*(B.h*iv)=B.y+B.h-b by grind] at z4
theorem Go.sub(hd:av d){ks:List N3}{n q q':Nat}{t:PyData}{x:RN d}{B T:Bo d}{i:Int}(g:Go d ks n q t x B T i q'){a b:RN d}:Rat q x B->In T a b->In B a b:=by
 induction g with
 |kind i k h0 h1 h2 h3=>exact fun _ h=>h
 |turn h1 h2 h3 _ ih=>exact fun r h=>ih (lX hd h2 r) h
 |@grid n q q' t x B T i u v c r h1 h2 h3 h4 h5 h6 h7 h8 h9 h10 h11 _ ih=>
  exact fun rr h=>cell_in hd h1 h2 rr.w rr.h h8 h9 h10 h11 (ih (gq hd c r h1 h2 rr) h)
 |@strip n q q' B T B' i up es j e h1 h2 h3 h4 h5 h6 _ ih=>
  intro r h
  have hp:∀e∈es,ps e.2:=fun e he=>(h3 e he).2.1
  exact IY hd r hp (fun z=>by rw[z] at h1;simp at h1) h6 (ih (fU hd r.w r.h hp h5 h6) h)
theorem Go.tile(hd:av d){ks:List N3}{n q q':Nat}{t:PyData}{x:RN d}{B T:Bo d}{i:Int}(g:Go d ks n q t x B T i q'):Rat q x B->ps T.w/\ps T.h:=by
 induction g with
 |kind i k h0 h1 h2 h3=>exact fun r=>⟨r.w,r.h⟩
 |turn h1 h2 h3 _ ih=>exact fun r=>ih (lX hd h2 r)
 |@grid n q q' t x B T i u v c r h1 h2 h3 h4 h5 h6 h7 h8 h9 h10 h11 _ ih=>exact fun rr=>ih (gq hd c r h1 h2 rr)
 |@strip n q q' B T B' i up es j e h1 h2 h3 h4 h5 h6 _ ih=>exact fun r=>ih (fU hd r.w r.h (fun e he=>(h3 e he).2.1) h5 h6)
end
noncomputable def eR(d:Int)(x:N3)(w:Int):Prop:=0<=sg d (x.a-w*x.c) x.b/\sg d (x.a-(w+1)*x.c) x.b<0
section
variable {d:Int}
theorem Ki(hd:av d)(x:RN d)(n:Int):sg d (x-(n:RN d)).v.a (x-(n:RN d)).v.b=sg d (x.v.a-n*x.v.c) x.v.b:=by
 have e:=Fm hd x.ok (da n)
 refine e.trans ?_
 unfold Mz oN
 congr 1<;>dsimp only<;>omega
theorem wD(hd:av d){x:RN d}{c:Int}(h1:nn (x-(c:RN d)))(h2:ps ((c:RN d)+1-x)):eR d x.v c:=by
 constructor
 ·rw[<- Ki hd]
  rcases qT hd h1 with e|e
  ·rw[e];show 0<=sg d (0:Int) 0;rw[dZ.mpr ⟨rfl,rfl⟩];decide
  ·rw[show sg d _ _=1 from e];decide
 ·rw[<- Ki hd,E7,GI,show x-((c:RN d)+1) = -((c:RN d)+1-x) by grind,Qw hd,show sg d _ _=1 from h2];decide
theorem BN(hd:av d){a X W c':RN d}(hw:ps W)(g1:nn (a-(X+c'*W)))(g2:ps (X+c'*W+W-a)):nn ((a-X)*inv W-c')/\ps (c'+1-(a-X)*inv W):=by
 have i:=inv_mul hd hw
 have p:=fH hd hw
 have k1:=jj hd g1 (fE hd p)
 have k2:=dH hd g2 p
 generalize inv W=iw at *
 refine⟨?_,?_⟩
 ·rwa [show (a-(X+c'*W))*iw=(a-X)*iw-c' by grind] at k1
 ·rwa [show (X+c'*W+W-a)*iw=c'+1-(a-X)*iw by grind] at k2
theorem sI(hd:av d){q:Nat}{B:Bo d}{u v c r:Int}(hu:1<=u)(hv:1<=v)(hw:ps B.w)(hh:ps B.h){a b:RN d}(g:In (lV q u v B c r) a b) :
  eR d ((a-B.x)*inv (B.w*inv (bJ q u v:RN d))).v c/\eR d ((b-B.y)*inv (B.h*inv (bJ q v u:RN d))).v r:=by
 have p1:=dH hd hw (fH hd (cm (d:=d) (eE (q:=q) hu hv)))
 have p2:=dH hd hh (fH hd (cm (d:=d) (eE (q:=q) hv hu)))
 obtain⟨k1,k2⟩:=BN hd p1 g.x0 g.x1
 obtain⟨k3,k4⟩:=BN hd p2 g.y0 g.y1
 exact⟨wD hd k1 k2,wD hd k3 k4⟩
structure Bw(S P:Nat)(B:Bo d):Prop where
 x:Bd P B.x.v
 y:Bd P B.y.v
 w:Bd S B.w.v
 h:Bd S B.h.v
theorem Bw.mono{S P S' P':Nat}{B:Bo d}(h:Bw S P B)(l1:S<=S')(l2:P<=P'):Bw S' P' B:=⟨h.x.mono l2,h.y.mono l2,h.w.mono l1,h.h.mono l1⟩
theorem Bw.swp{S P:Nat}{B:Bo d}(h:Bw S P B):Bw S P (swp B):=⟨h.y,h.x,h.h,h.w⟩
theorem bdA{n m:Nat}{a b:RN d}(h:Bd n a.v)(g:Bd m b.v):Bd (n+m+1) (a+b).v:=IS a.ok b.ok h g
theorem bdS{n m:Nat}{a b:RN d}(h:Bd n a.v)(g:Bd m b.v):Bd (n+m+1) (a-b).v:=M0 a.ok b.ok h g
theorem bdM{n m:Nat}{a b:RN d}(hd:av d)(h:Bd n a.v)(g:Bd m b.v):Bd (n+m+6) (a*b).v:=FD (l5 hd.1 hd.2.1) a.ok b.ok h g
theorem bdI{n:Nat}{a:RN d}(hd:av d)(p:ps a)(h:Bd n a.v):Bd (2*n+6) (inv a).v:=by rw[qU hd p];exact oZ (l5 hd.1 hd.2.1) (qH hd p) h
theorem bdC{n:Int}(h0:0<=n)(h1:n<=1000000):Bd 20 ((n:Int):RN d).v:=⟨Sz.of (by show n.natAbs<1048576;omega),Sz.of (by show (0:Int).natAbs<1048576;decide),Sz.of (by show (1:Int).natAbs<1048576;decide)⟩
theorem xZ{q:Nat}{u v:Int}(hu:u<=1000000)(hv:v<=1000000):bJ q u v<=1000000:=by unfold bJ;split<;>omega
theorem HD(hd:av d){S P q:Nat}{B:Bo d}{u v c r:Int}(hu:1<=u)(hv:1<=v)(hu':u<=1000000)(hv':v<=1000000)(c0:0<=c)(c1:c<bJ q u v)(r0:0<=r)(r1:r<bJ q v u)(h:Bw S P B):Bw (S+60) (P+S+100) (lV q u v B c r):=by
 have l1:=xZ (q:=q) hu' hv'
 have l2:=xZ (q:=q) hv' hu'
 have w1:=eE (q:=q) hu hv
 have w2:=eE (q:=q) hv hu
 have i1:=bdI hd (cm (d:=d) w1) (bdC ∅ l1)
 have i2:=bdI hd (cm (d:=d) w2) (bdC ∅ l2)
 have W:=bdM hd h.w i1
 have H:=bdM hd h.h i2
 have X:=bdA h.x (bdM hd (bdC (d:=d) c0 ∅) W)
 have ZY:=bdA h.y (bdM hd (bdC (d:=d) r0 ∅) H)
 exact⟨X.mono ∅,ZY.mono ∅,W.mono ∅,H.mono ∅⟩
theorem yj(hd:av d){S P:Nat}{x w:RN d}(hx:Bd P x.v)(hw:Bd S w.v):∀{zs:List (RN d)} {s:RN d} {R:Nat},(∀z∈zs,Bd 4300 z.v)->Bd R s.v->P<=R ->
  (∀C∈oq x w s zs,Bw (S+4306) (R+zs.length*(S+4307)) C)/\(∀C∈oo x w s zs,Bw (S+4306) (R+zs.length*(S+4307)) C)
 |[],s,R,_,_,_=>⟨fun _ h=>(nomatch h),fun _ h=>(nomatch h)⟩
 |z::l,s,R,hz,hs,le=>by
  have bz:=bdM hd (hz z (by simp)) hw
  have e:(z::l).length*(S+4307)=S+4307+l.length*(S+4307):=by rw[length_cons,add_mul,Nat.one_mul,Nat.add_comm]
  have b1:Bd (R+(S+4307)) (s+z*w).v:=(bdA hs bz).mono ∅
  have b2:Bd (R+(S+4307)) (s-z*w).v:=(bdS hs bz).mono ∅
  obtain⟨h1,_⟩:=yj (zs:=l) hd hx hw (fun y hy=>hz y (by simp[hy])) b1 ∅
  obtain⟨_,h2⟩:=yj (zs:=l) hd hx hw (fun y hy=>hz y (by simp[hy])) b2 ∅
  refine⟨fun C hC=>?_,fun C hC=>?_⟩
  ·rcases List.mem_cons.mp hC with q|q
   ·rw[q];exact⟨hx.mono ∅,hs.mono ∅,hw.mono ∅,bz.mono ∅⟩
   ·exact (h1 C q).mono (le_refl _) ∅
  ·rcases List.mem_cons.mp hC with q|q
   ·rw[q];exact⟨hx.mono ∅,b2.mono ∅,hw.mono ∅,bz.mono ∅⟩
   ·exact (h2 C q).mono (le_refl _) ∅
theorem vT(hd:av d){S P q:Nat}{up:Bool}{B:Bo d}{zs:List (RN d)}(h:Bw S P B)(hz:∀z∈zs,Bd 4300 z.v)(hl:zs.length<=8):∀C∈cO q up B zs,Bw (S+4306) (P+9*S+40000) C:=by
 have one:∀(bk:Bool) (B:Bo d),Bw S P B->∀C∈rise bk B zs,Bw (S+4306) (P+9*S+40000) C:=fun bk B h C hC=>by
  have ml:zs.length*(S+4307)<=8*(S+4307):=Nat.mul_le_mul_right _ hl
  unfold rise at hC
  cases bk
  ·exact ((yj hd h.x h.w hz h.y (le_refl _)).1 C hC).mono (le_refl _) ∅
  ·exact ((yj hd h.x h.w hz (bdA h.y h.h) ∅).2 C hC).mono (le_refl _) ∅
 intro C hC
 unfold cO at hC
 split at hC
 ·exact one _ _ h C hC
 ·obtain⟨C',h1,rfl⟩:=List.mem_map.mp hC
  exact (one _ _ h.swp C' h1).swp
noncomputable def bS(m:Nat):Nat:=4400+4306*m
noncomputable def bP(m:Nat):Nat:=4400+600000*m
theorem Go.bw(hd:av d){ks:List N3}{n q q':Nat}{t:PyData}{x:RN d}{B T:Bo d}{i:Int}(g:Go d ks n q t x B T i q'):∀{m:Nat},n+m<=13->Bw (bS m) (bP m) B->Bw (bS 13) (bP 13) T:=by
 induction g with
 |@kind n q B i k h0 h1 h2 h3=>exact fun {m} l h=>h.mono (by unfold bS;omega) (by unfold bP;omega)
 |@turn n q q' t x B T i h1 h2 h3 _ ih=>exact fun {m} l h=>ih (m:=m) ∅ h
 |@grid n q q' t x B T i u v c r h1 h2 h3 h4 h5 h6 h7 h8 h9 h10 h11 _ ih=>
  exact fun {m} l h=>ih (m:=m+1) ∅ ((HD hd h1 h2 h3 h4 h8 h9 h10 h11 h).mono (by unfold bS;omega) (by unfold bS bP;omega))
 |@strip n q q' B T B' i up es j e h1 h2 h3 h4 h5 h6 _ ih=>
  exact fun {m} l h=>ih (m:=m+1) ∅ ((vT hd h h4 (by unfold bZ;rw[length_map];exact h2) _ (mem_of_getElem? h6)).mono (by unfold bS;omega) (by unfold bS bP;omega))
noncomputable def fl(x:RN d):Bo d:=⟨0,0,1,x⟩
theorem lz(x:RN d)(h:ps x):Rat 0 x (fl x):=⟨cm (d:=d) (n:=1) ⋯,h,fun _=>by show x=x*1;grind,fun z=>by omega⟩
theorem Jo{q:Nat}{up:Bool}{B:Bo d}{zs:List (RN d)}{j:Nat}(h:j<zs.length):∃C,(cO q up B zs)[j]? = some C:=by
 have:j<(cO q up B zs).length:=by rw[tq];exact h
 exact⟨_,getElem?_eq_getElem this⟩
end
noncomputable def Kd(b:Bool)(ks:List N3):PyData:=if b=true then .list (ks.map dN) else .tuple (ks.map dN)
noncomputable def iC(n:Nat):DSp:=fun ds U Q=>∃(d:Int) (ks:List N3) (b:Bool) (t:PyData) (x:N3),ds=[.v (.int d),.v (Kd b ks),.v t]/\av d/\Sh t/\SP d ks n t x/\∀O,(∀b ds,U b=some ds->O b=some ds)->Q (.v (dN x)) O
theorem AG{n:Nat}{U:Mu}{Q:DK}{ds:List D}(h:iC n ds U Q):ds.length=3:=by obtain⟨_,_,_,_,_,rfl,_⟩:=h;rfl
theorem Dm{U:Mu}{Q:DK}{ds:List D}(h:iC 0 ds U Q):False:=by obtain⟨_,_,_,_,_,_,_,_,h,_⟩:=h;cases h
noncomputable abbrev eK(n:Nat):DSp:=iC n
theorem Cy{n:Nat}{U:Mu}{Q:DK}{ds:List D}(h:eK n ds U Q):ds.length=3:=AG h
theorem BI{U:Mu}{Q:DK}{ds:List D}(h:eK 0 ds U Q):False:=Dm h
noncomputable def Hz:DSp:=fun ds U Q=>∃(a:Addr) (d:Int) (ks:List N3) (t:PyData) (dd c:Nat),ds=[.m a,.v (.int d),.v (.tuple (ks.map dN)),.v t]/\av d/\KindsOk d ks/\IsP (ks.length:Nat) dd c t/\dd<=12/\Bag U a /\
 ∀ks' O,KindsOk d ks'->ks'.length=ks.length->(c<=12\/∀k∈ks',Bd 4 k)->hJ a U O->Q (.v (.tuple (ks'.map dN))) O
theorem JR{U:Mu}{Q:DK}{ds:List D}(h:Hz ds U Q):ds.length=4:=by obtain⟨_,_,_,_,_,_,rfl,_⟩:=h;rfl
noncomputable def rJ(n:Nat):DTS:=
 (aC (aR (dOp ax (ae 2) (dC (.int 0))) (ak 3))
 (aC (bQ (dB (dOp (bV false) (ae 3) (dC (.str "kind")))) (aT (dOp ax (ae 1) (dOp ax (ae 2) (dC (.int 1))))) aW)
 (aC (aR (dq [none,some 0,some 1] (dU (aq um (ab (ae 2) ao))) (ak 0) eU (aq (iC n) (ab (ae 1) (ab (ae 2) (ab (ae 0) ao))))) (ak 4))
 (aC (bQ (dB (dOp (bV false) (ae 3) (dC (.str "turn")))) (aT (aq cj (ab (ae 0) (ab (dOp ax (ae 4) (dC (.int 0))) ao)))) aW)
 (aC (bQ (dB (dOp (bV false) (ae 3) (dC (.str "grid")))) (aT (aq dw (ab (ae 0) (ab (dOp ax (ae 4) (dC (.int 0))) (ab (aq cD (ab (dOp ax (ae 2) (dC (.int 2))) (ab (dC (.int 0)) (ab (dOp ax (ae 2) (dC (.int 1))) ao)))) ao))))) aW)
 (aC (bQ (dB (dOp (bV false) (ae 3) (dC (.str "upon")))) (aT (aq uc (ab (ae 4) ao))) aW)
 (aT (aq cj (ab (ae 0) (ab (aq uc (ab (dq [none,some 0] (dU (ae 4)) (ak 0) eU (aq cj (ab (ae 1) (ab (ae 0) ao)))) ao)) ao))))))))))
noncomputable def ly(n:Nat):DTS:=
 (aC (bQ (dB (dOp (bV false) (dOp ax (ae 2) (dC (.int 0))) (dC (.str "kind")))) (aT (dOp ax (ae 1) (dOp ax (ae 2) (dC (.int 1))))) aW)
 (aC (bQ (dB (dOp (bV false) (dOp ax (ae 2) (dC (.int 0))) (dC (.str "turn")))) (aT (aq cj (ab (ae 0) (ab (aq (eK n) (ab (ae 0) (ab (ae 1) (ab (dOp ax (ae 2) (dC (.int 1))) ao)))) ao)))) aW)
 (aC (bQ (dB (dOp (bV false) (dOp ax (ae 2) (dC (.int 0))) (dC (.str "grid")))) (aT (aq dw (ab (ae 0) (ab (aq (eK n) (ab (ae 0) (ab (ae 1) (ab (dOp ax (ae 2) (dC (.int 3))) ao)))) (ab (aq cD (ab (dOp ax (ae 2) (dC (.int 2))) (ab (dC (.int 0)) (ab (dOp ax (ae 2) (dC (.int 1))) ao)))) ao))))) aW)
 (aC (aR (dq [none,some 0,some 1] (uu (dOp ax (ae 2) (dC (.int 1)))) (ak 0) eU (aq (eK n) (ab (ae 1) (ab (ae 2) (ab (ae 0) ao))))) (ak 3))
 (aC (bQ (dB (dOp (bV false) (dOp ax (ae 2) (dC (.int 0))) (dC (.str "upon")))) (aT (aq uc (ab (ae 3) ao))) aW)
 (aT (aq cj (ab (ae 0) (ab (aq uc (ab (dq [none,some 0] (dU (ae 3)) (ak 0) eU (aq cj (ab (ae 1) (ab (ae 0) ao)))) ao)) ao)))))))))
section
variable {U:Mu}{Qd:DK}{ds:List D}{ρ:Rho}{d:Int}{ks:List N3}{n:Nat}{b:Bool}
theorem DF{i:Int}{k:N3}(i0:0<=i)(h:ks[i.toNat]? = some k)(q:Qd (.v (dN k)) U):ax (.v (Kd b ks)) (.v (.int i)) U Qd:=by
 have e:atI (ks.map dN) i=some (dN k):=by
  have:=jv (xs:=ks.map dN) (j:=i.toNat) (v:=dN k) (by rw[getElem?_map,h];rfl)
  rw[show ((i.toNat:Nat):Int)=i by omega] at this
  exact this
 cases b with
 |true=>show ax (.v (.list (ks.map dN))) _ _ _;rw[p6,e];exact q
 |false=>show ax (.v (.tuple (ks.map dN))) _ _ _;rw[ky,e];exact q
theorem ia{src:DTI}{es:List (PyData×N3)}(hs:∀QI:List PyData->Mu->Prop,QI (es.map (·.1)) U->src ρ U QI)(hl:es.length<=8)(hd:av d)(h0:ρ[0]? = some (some (.v (.int d))))(h1:ρ[1]? = some (some (.v (Kd b ks))))
  (hh:∀e∈es,Sh e.1/\SP d ks n e.1 e.2) (q:∀O,(∀b ds,U b=some ds->O b=some ds)->Qd (.v (.list ((es.map (·.2)).map dN))) O) :
  dq [none,some 0,some 1] src (ak 0) eU (aq (iC n) (ab (ae 1) (ab (ae 2) (ab (ae 0) ao)))) ρ U Qd:=by
 rw[kF]
 refine hs _ ⟨by rw[length_map];omega,fun p hp=>⟨fun i acc O=>acc=((es.take i).map (·.2)).map dN/\∀b ds,b≠p->U b=some ds->O b=some ds,⟨by simp,fun b ds hb e=>by rw[aV hb];exact e⟩,?_,?_⟩⟩
 ·rintro i x acc O hx hacc ⟨rfl,hk⟩
  rw[getElem?_map] at hx
  obtain⟨e,he,rfl⟩:∃e,es[i]? = some e/\e.1=x:=by
   cases z:es[i]? with
   |none=>rw[z] at hx;cases hx
   |some e=>rw[z] at hx;exact⟨e,rfl,by simpa using hx⟩
  have hm:=hh e (mem_of_getElem? he)
  simp only[gn,jE,j3,h0,h1,bind_some,bind_none,join_some,set_cons_zero,j2,↓reduceIte,oQ,qX,pf,true_and,and_true,pT,jT,qo,lh,lD,nE]
  refine⟨d,ks,b,e.1,e.2,rfl,hd,hm.1,hm.2,fun bn h4=>⟨h4 _ _ hacc,?_,fun b ds hb e'=>by rw[aV hb];exact h4 b ds (hk b ds hb e')⟩⟩
  rw[take_succ,he];simp
 ·rintro acc O ⟨rfl,hk⟩ hacc
  rw[length_map,take_length]
  exact q _ fun b ds e=>by
   have hb:b≠p:=fun z=>by rw[z,hp] at e;cases e
   rw[fb hb];exact hk b ds hb e
theorem FF{src:DTI}{xs:List N3}(hs:∀QI:List PyData->Mu->Prop,QI (xs.map dN) U->src ρ U QI)(hl:xs.length<=8)(hd:av d)(h0:ρ[0]? = some (some (.v (.int d))))(hh:∀x∈xs,G d x)
  (q:Qd (.v (.list ((xs.map (aS d)).map dN))) U):dq [none,some 0] src (ak 0) eU (aq cj (ab (ae 1) (ab (ae 0) ao))) ρ U Qd:=by
 rw[kF]
 refine hs _ ⟨by rw[length_map];omega,fun p hp=>⟨fun i acc O=>acc=((xs.take i).map (aS d)).map dN/\O=bD U p acc,⟨by simp,rfl⟩,?_,?_⟩⟩
 ·rintro i x acc O hx hacc ⟨rfl,rfl⟩
  obtain⟨y,hy,rfl⟩:=Q7 hx
  have g:=hh y (mem_of_getElem? hy)
  simp only[gn,jE,j3,h0,bind_some,bind_none,join_some,set_cons_zero,j2,↓reduceIte,oQ,qX,pf,true_and,and_true,pT,jT,qo,lh,lD]
  refine⟨d,y,rfl,l5 hd.1 hd.2.1,g.2.1,g.2.2.mono ⋯,hacc,?_,?_⟩
  ·rw[take_succ,hy];simp
  ·rw[qy]
 ·rintro acc O ⟨rfl,rfl⟩ hacc
  rw[vG hp,length_map,take_length]
  exact q
theorem qG{es:List (PyData×N3)}:(es.map (·.2)).length=es.length:=length_map _
theorem GG(n:Nat)(h:iC (n+1) ds U Qd):rJ n ‹Qd› (aG ["d","shapes","plan","word","inner"] ds) U:=by
 obtain⟨d,ks,b,t,x,rfl,hd,hs,sp,q⟩:=h
 have hz:=l5 hd.1 hd.2.1
 unfold rJ
 cases sp with
 |kind i k i0 i1 hk=>
  walk_at "ru"
  simp only[bj js js,Kr,false_xor,↓reduceIte]
  exact DF i0 hk (q U fun _ _ e=>e)
 |@turn _ t' y h1 g=>
  walk_at "ru"
  simp only[bj jt js,GL,false_xor,false_eq_true,↓reduceIte]
  refine ia (es:=[(t',y)]) (fun QI hq=>?_) (by simp) hd rfl rfl (fun e he=>by rw[List.mem_singleton.mp he];exact⟨hs.mem t' (by simp),h1⟩) fun ac k1=>?_
  ·walk_at "ru"
   exact⟨_,1,[t'],rfl,hs,by show di 1 (.str "turn") t'=_;unfold di;rw[if_neg (by rw[GL];decide),if_pos GC],hq⟩
  walk_at "ru"
  simp only[map_cons,map_nil,bj jt jt,GC,false_xor,↓reduceIte,nP]
  exact⟨d,y,rfl,hz,g.2.1,g.2.2.mono ⋯,q ac k1⟩
 |@grid _ t' y u v hu hv hu' hv' h1 oy by_=>
  walk_at "ru"
  simp only[bj g9 js,Mq,false_xor,false_eq_true,↓reduceIte]
  refine ia (es:=[(t',y)]) (fun QI hq=>?_) (by simp) hd rfl rfl (fun e he=>by rw[List.mem_singleton.mp he];exact⟨hs.mem t' (by simp),h1⟩) fun ac k1=>?_
  ·walk_at "ru"
   refine⟨_,1,[t'],rfl,hs,?_,hq⟩
   show kH (.str "grid") (.int u) (.int v) t'=_
   unfold kH
   rw[if_pos Ex,if_pos]
   show ((true&&decide (1<=u))&&(true&&decide (1<=v)))=true
   rw[decide_eq_true hu,decide_eq_true hv];rfl
  walk_at "ru"
  simp only[map_cons,map_nil,bj g9 jt,bj g9 g9,L6,Ex,false_xor,false_eq_true,↓reduceIte,nP]
  have bf:Bd 20 (low v 0 u):=jg ∅ (Sz.of (by show v.natAbs<1048576;omega)) sz0 (Sz.of (by show u.natAbs<1048576;omega))
  refine⟨v,0,u,rfl,∅,(Sz.of (n:=20) (by show u.natAbs<1048576;omega)).mono ⋯,?_⟩
  exact⟨d,y,low v 0 u,rfl,hz,oy,jd _ _ ∅,by_.mono ⋯,bf.mono ⋯,q ac k1⟩
 |@rZ _ es h2 h8 hh ss=>
  walk_at "ru"
  simp only[bj mf js,MF,false_xor,false_eq_true,↓reduceIte]
  have hp:∀e∈es,Sh e.1:=fun e he=>(hs.mem (.tuple (es.map (·.1))) (by simp)).mem e.1 (mem_map_of_mem he)
  refine ia (es:=es) (fun QI hq=>?_) h8 hd rfl rfl (fun e he=>⟨hp e he,hh e he⟩) fun ac k1=>?_
  ·walk_at "ru"
   exact⟨_,1,_,rfl,hs,lI (.inl rfl) (by simpa using h2) (by simpa using h8),hq⟩
  walk_at "ru"
  simp only[bj mf jt,bj mf g9,bj mf mf,Nr,Nu,MY,false_xor,false_eq_true,↓reduceIte]
  exact⟨_,rfl,by rw[qG];omega,ss.big,q ac k1⟩
 |@fY _ es h2 h8 hh hg ss g=>
  walk_at "ru"
  simp only[bj uS js,LR,false_xor,false_eq_true,↓reduceIte]
  have hp:∀e∈es,Sh e.1:=fun e he=>(hs.mem (.tuple (es.map (·.1))) (by simp)).mem e.1 (mem_map_of_mem he)
  refine ia (es:=es) (fun QI hq=>?_) h8 hd rfl rfl (fun e he=>⟨hp e he,hh e he⟩) fun ac k1=>?_
  ·walk_at "ru"
   exact⟨_,1,_,rfl,hs,lI (.inr rfl) (by simpa using h2) (by simpa using h8),hq⟩
  walk_at "ru"
  simp only[bj uS jt,bj uS g9,bj uS mf,MH,M1,L3,false_xor,false_eq_true,↓reduceIte]
  refine FF (xs:=es.map (·.2)) (fun QI hq=>by walk_at "ru";exact hq) (by rw[qG];exact h8) hd rfl (fun x hx=>by obtain⟨e,he,rfl⟩:=List.mem_map.mp hx;exact hg e he) ?_
  refine⟨_,rfl,by rw[length_map,qG];omega,ss.big,?_⟩
  exact⟨d,_,rfl,hz,g.2.1,g.2.2.mono ⋯,q ac k1⟩
theorem Bt(n:Nat)(h:eK (n+1) ds U Qd):ly n ‹Qd› (aG ["_law_d","_law_kinds_here","_law_plan_here","_law_shapes"] ds) U:=by
 obtain⟨d,ks,b,t,x,rfl,hd,hs,sp,q⟩:=h
 have hz:=l5 hd.1 hd.2.1
 unfold ly
 cases sp with
 |kind i k i0 i1 hk=>
  walk_at "ru"
  simp only[bj js js,Kr,false_xor,↓reduceIte]
  exact DF i0 hk (q U fun _ _ e=>e)
 |@turn _ t' y h1 g=>
  walk_at "ru"
  simp only[bj jt js,bj jt jt,GL,GC,false_xor,false_eq_true,↓reduceIte]
  refine⟨d,ks,b,t',y,rfl,hd,hs.mem t' (by simp),h1,fun ac k1=>?_⟩
  exact⟨d,y,rfl,hz,g.2.1,g.2.2.mono ⋯,q ac k1⟩
 |@grid _ t' y u v hu hv hu' hv' h1 oy by_=>
  walk_at "ru"
  simp only[bj g9 js,bj g9 jt,bj g9 g9,Mq,L6,Ex,false_xor,false_eq_true,↓reduceIte]
  refine⟨d,ks,b,t',y,rfl,hd,hs.mem t' (by simp),h1,fun ac k1=>?_⟩
  have bf:Bd 20 (low v 0 u):=jg ∅ (Sz.of (by show v.natAbs<1048576;omega)) sz0 (Sz.of (by show u.natAbs<1048576;omega))
  refine⟨v,0,u,rfl,∅,(Sz.of (n:=20) (by show u.natAbs<1048576;omega)).mono ⋯,?_⟩
  exact⟨d,y,low v 0 u,rfl,hz,oy,jd _ _ ∅,by_.mono ⋯,bf.mono ⋯,q ac k1⟩
 |@rZ _ es h2 h8 hh ss=>
  walk_at "ru"
  simp only[bj mf js,bj mf jt,bj mf g9,MF,Nr,Nu,false_xor,false_eq_true,↓reduceIte]
  have hp:∀e∈es,Sh e.1:=fun e he=>(hs.mem (.tuple (es.map (·.1))) (by simp)).mem e.1 (mem_map_of_mem he)
  refine ia (es:=es) (fun QI hq=>by walk_at "ru";exact hq) h8 hd rfl rfl (fun e he=>⟨hp e he,hh e he⟩) fun ac k1=>?_
  simp only[bj mf mf,MY,false_xor,false_eq_true,↓reduceIte]
  exact⟨_,rfl,by rw[qG];omega,ss.big,q ac k1⟩
 |@fY _ es h2 h8 hh hg ss g=>
  walk_at "ru"
  simp only[bj uS js,bj uS jt,bj uS g9,LR,MH,M1,false_xor,false_eq_true,↓reduceIte]
  have hp:∀e∈es,Sh e.1:=fun e he=>(hs.mem (.tuple (es.map (·.1))) (by simp)).mem e.1 (mem_map_of_mem he)
  refine ia (es:=es) (fun QI hq=>by walk_at "ru";exact hq) h8 hd rfl rfl (fun e he=>⟨hp e he,hh e he⟩) fun ac k1=>?_
  simp only[bj uS mf,L3,false_xor,false_eq_true,↓reduceIte]
  refine FF (xs:=es.map (·.2)) (fun QI hq=>by walk_at "ru";exact hq) (by rw[qG];exact h8) hd rfl (fun x hx=>by obtain⟨e,he,rfl⟩:=List.mem_map.mp hx;exact hg e he) ?_
  refine⟨_,rfl,by rw[length_map,qG];omega,ss.big,?_⟩
  exact⟨d,_,rfl,hz,g.2.1,g.2.2.mono ⋯,q ac k1⟩
end
noncomputable def fG:DTS:=
 (aC (bQ (dB (dOp rLe (aq (dP 31) (ab (ae 3) (ab (dCB cL (ab (ae 2) ao)) (ab (dC (.int 12)) ao)))) (dC (.int 12)))) (aT (ae 2)) aW)
 (aC (aR (zk ao) (ak 4))
 (aC (vE (uu (ae 2)) (ak 5) (aC (aR (aq cD (ab (nI (aq b4 (ab (ae 0) (ab (dC (.int 9)) ao))) (dC (.int 4))) (ab (nI (aq b4 (ab (ae 0) (ab (dC (.int 5)) ao))) (dC (.int 2))) (ab (fi (dC (.int 1)) (aq b4 (ab (ae 0) (ab (dC (.int 3)) ao)))) ao)))) (ak 6))
 (oS (Ei (ae 4) (dOp ax (g8 (ab (cS (ab (dC (.int 1)) (ab (dC (.int 0)) (ab (dC (.int 1)) ao)))) (ab (ae 6) (ab (aq qJ (ab (ae 6) ao)) ao)))) (aq hW (ab (ae 1) (ab (ae 6) ao))))))))
 (aT (dCB kx (ab (ae 4) ao))))))
section
variable {U:Mu}{Qd:DK}{ds:List D}
theorem qN(h:Hz ds U Qd):fG ‹Qd› (aG ["_law_bag_here","_law_d","_law_kinds_here","_law_plan_here","_law_found","_law_kind","_law_x"] ds) U:=by
 obtain⟨a,d,ks,t,dd,c,rfl,hd,hk,hp,hdd,hb,q⟩:=h
 unfold fG
 walk_at "ru"
 rw[length_map]
 refine⟨t,_,12,rfl,⋯,hp.lt.sh ∅,fun ac k1=>?_⟩
 rw[hp.cnt 12 hdd]
 walk_at "ru"
 have s1:hJ a U ac:=.of hb k1
 by_cases c12:c<=12
 ·rw[if_pos (decide_eq_true ∅)]
  exact q ks ac hk rfl (.inl c12) s1
 ·rw[if_neg (by rw[decide_eq_true_eq];omega)]
  intro p hp1
  have pa:p≠a:=fun z=>by obtain⟨g,k,e,_⟩:=s1.1;rw[z,e] at hp1;cases hp1
  have p0:U p=none:=by
   cases e:U p with
   |none=>rfl
   |some ds=>rw[s1.2 p pa ds e] at hp1;cases hp1
  rw[vo]
  walk_at "ru"
  refine⟨fun i ρ O=>∃(ks':List N3) (r5 r6:Option D),ρ=[some (.m a),some (.v (.int d)),some (.v (.tuple (ks.map dN))),some (.v t),some (.m p),r5,r6]/\ks'.length=i/\(∀k∈ks',Ok k/\Bd 4 k/\sg d k.a k.b=1)/\O p=some (ks'.map dN)/\Bag O a/\(∀b,b≠a->b≠p->∀ds,U b=some ds->O b=some ds),
   ⟨[],_,_,rfl,rfl,(fun _ z=>nomatch z),bg,s1.1.set pa,fun b n1 n2 ds e=>by rw[aV n2];exact s1.2 b n1 ds e⟩,?_,?_⟩
  ·rintro i y ρ ad hy ⟨ks',r5,r6,rfl,hl,hk',hp2,hb2,kp⟩
   walk_at "ru"
   refine⟨a,9,rfl,⋯,⋯,hb2,fun r1 ap r10 r11 s3=>?_⟩
   walk_at "ru"
   refine⟨a,5,rfl,⋯,⋯,s3.1,fun r2 bn r20 r21 s4=>?_⟩
   walk_at "ru"
   refine⟨a,3,rfl,⋯,⋯,s4.1,fun r3 ga r30 r31 s5=>?_⟩
   walk_at "ru"
   have sz:∀{z:Int},-16<z->z<16->Sz 4 z:=fun h1 h2=>Sz.of (by show _<16;omega)
   have c0:(1+r3:Int)≠0:=by omega
   refine⟨r1-4,r2-2,1+r3,rfl,c0,(sz ∅ ∅).mono ⋯,?_⟩
   have ox:Ok (low (r1-4) (r2-2) (1+r3)):=jd _ _ c0
   have bx:Bd 4 (low (r1-4) (r2-2) (1+r3)):=jg c0 (sz ∅ ∅) (sz ∅ ∅) (sz ∅ ∅)
   generalize low (r1-4) (r2-2) (1+r3)=x at ox bx
   have s35:=(s3.trans s4).trans s5
   have hp5:ga p=some (ks'.map dN):=by rw[s35.2 p pa];exact hp2
   have fin:∀k:N3,Ok k->Bd 4 k->sg d k.a k.b=1->(match D.v (dN k),ga p with|.v d',some xs=>xs.length<1000/\∃(ks'':List N3) (r5' r6':Option D),[some (.m a),some (.v (.int d)),some (.v (.tuple (ks.map dN))),some (.v t),some (.m p),some (.v y),some (.v (dN x))]=[some (.m a),some (.v (.int d)),some (.v (.tuple (ks.map dN))),some (.v t),some (.m p),r5',r6']/\ks''.length=i+1/\(∀k∈ks'',Ok k/\Bd 4 k/\sg d k.a k.b=1)/\bD ga p (xs++[d']) p=some (ks''.map dN)/\Bag (bD ga p (xs++[d'])) a/\(∀b,b≠a->b≠p->∀ds,U b=some ds->bD ga p (xs++[d']) b=some ds)|_,_=>False):=fun k ok bk sk=>by
    rw[hp5]
    have hi:i<ks.length:=by have:=List.getElem?_eq_some_iff.mp hy;obtain⟨z,_⟩:=this;rw[length_map] at z;exact z
    have l3:=hk.l3
    refine⟨by rw[length_map];omega,ks'++[k],_,_,rfl,by simp[hl],fun k' hk''=>?_,by rw[bg];simp,s35.1.set pa,fun b n1 n2 ds e=>by rw[aV n2,s35.2 b n1];exact kp b n1 n2 ds e⟩
    rcases List.mem_append.mp hk'' with z|z
    ·exact hk' k' z
    ·rw[List.mem_singleton.mp z];exact⟨ok,bk,sk⟩
   walk_at "ru"
   refine⟨x,rfl,?_⟩
   refine⟨d,x,rfl,hd,bx.mono ⋯,?_⟩
   rcases mV d x.a x.b with e|e|e
   ·rw[e]
    exact fin one Hi ⟨Sz.of ⋯,Sz.of ⋯,Sz.of ⋯⟩ Im
   ·rw[e]
    exact fin x ox bx e
   ·rw[e]
    exact fin (minus x) (eI ox) (uv bx) (by show sg d (-x.a) (-x.b)=1;rw[rH hd,e];rfl)
  ·rintro ρ ad ⟨ks',r5,r6,rfl,hl,hk',hp2,hb2,kp⟩
   rw[length_map] at hl
   walk_at "ru"
   rw[hp2]
   exact q ks' ad ⟨by rw[hl];exact hk.l1,by rw[hl];exact hk.l3,fun k z=>⟨(hk' k z).1,(hk' k z).2.1.mono ⋯,(hk' k z).2.2⟩⟩ hl (.inr fun k z=>(hk' k z).2.1) ⟨hb2,fun b n ds e=>kp b n (fun z=>by rw[z,p0] at e;cases e) ds e⟩
end
section
variable {U:Mu}{d:D}{Q:DK}
theorem Mv{a b c f g h k l m n n11}{o:Rho}:ae 11 (a::b::c::f::g::h::k::l::m::n::n11::some d::o) U Q=Q d U:=propext Iff.rfl
theorem Mf{a b c f g h k l m n n11 n12}{o:Rho}:ae 12 (a::b::c::f::g::h::k::l::m::n::n11::n12::some d::o) U Q=Q d U:=propext Iff.rfl
theorem Md{a b c f g h k l m n n11 n12 n13}{o:Rho}:ae 13 (a::b::c::f::g::h::k::l::m::n::n11::n12::n13::some d::o) U Q=Q d U:=propext Iff.rfl
end
local macro_rules|`(tactic| walk_at "rb")=>mkW "Nh Q0 Pj ↓RE ↓l_t ↓l_f l_T l_F Rn Q9 ↓F3 cz decide_true decide_false xor_true true_xor ↓lh ↓lD ↓nE ↓rY ↓sC ↓sf ↓rS ↓sR ↓tw ↓sy ↓mY ↓q_c ↓RW ↓q_B ↓GX ↓AB ↓Ao ↓Lr ↓NZ ↓sG ↓Ky ↓sY ↓R3 ↓qo ↓jT ↓zC ↓Av ↓rT ↓AI ↓yt ↓zJ ↓yp ↓Ae ↓zq ↓yY ↓nP ↓sP ↓sD ↓pF ↓pK ↓oO ↓rP ↓p6 ↓ky ↓Ar ↓yW ↓yn ↓tH ↓sL ↓G0 ↓j6 ↓rX ↓zR ↓QF ↓rC ↓tI ↓sW ↓qq ↓zh ↓GF ↓rL ↓nK ↓yJ ↓AA ↓gn ↓o9 ↓kT ↓pY ↓sF ↓N8 ↓Am ↓tF ↓qW ↓yX ↓rO ↓N2 ↓nJ ↓K3 ↓zN ↓zp ↓sU ↓HU ↓j2 ↓iR ↓mX ↓iZ ↓j8 ↓j1 ↓ko EY j3 jE pf oQ qX bind_none bind_some join_some getElem?_cons_zero getElem?_cons_succ aG BH vP vQ vY Ce lZ pE qS ug wG map_cons map_nil List.append List.replicate length_cons length_nil Nat.reduceAdd Nat.reduceSub nil_append cons_append set_cons_zero set_cons_succ map_some Bool.not_true Bool.not_false false_eq_true true_eq_false xor_false false_xor ↓Mv ↓Mf ↓Md ↓KD ↓Lg ↓Qt ↓RG ↓OH"
noncomputable def bo{d:Int}(B:Bo d):PyData:=.tuple [dN B.x.v,dN B.y.v,dN B.w.v,dN B.h.v]
noncomputable def mG:DSp:=fun ds U Q=>∃(d:Int) (x:N3) (c:Int),ds=[.v (.int d),.v (dN x)]/\av d/\Ok x/\Bd 20000000 x/\eR d x c/\Q (.v (.int c)) U
theorem Bb{ds:List D}{U:Mu}{Q:DK}(h:mG ds U Q):ds.length=2:=by obtain⟨_,_,_,rfl,_⟩:=h;rfl
noncomputable def uT:DSp:=fun ds U Q=>∃(d:Int) (B:Bo d),ds=[.v (bo B)]/\Bw 80000 9000000 B/\Q (.v (.tuple [dN B.x.v,dN (B.x+B.w).v,dN B.y.v,dN (B.y+B.h).v])) U
theorem Dj{ds:List D}{U:Mu}{Q:DK}(h:uT ds U Q):ds.length=1:=by obtain⟨_,_,rfl,_⟩:=h;rfl
noncomputable def pM:DSp:=fun ds U Q=>∃(d:Int) (B:Bo d) (a b:RN d) (β:Bool),ds=[.v (.int d),.v (bo B),.v (dN a.v),.v (dN b.v)]/\av d/\Bw 80000 9000000 B/\Bd 10000000 a.v/\Bd 10000000 b.v/\(β=true↔In B a b)/\Q (.v (.bool β)) U
theorem C6{ds:List D}{U:Mu}{Q:DK}(h:pM ds U Q):ds.length=4:=by obtain⟨_,_,_,_,_,rfl,_⟩:=h;rfl
noncomputable def nq:DSp:=fun ds U Q=>∃(d:Int) (x a b:RN d),ds=[.v (.int d),.v (dN x.v),.v (dN a.v),.v (dN b.v)]/\av d/\Bd 80000 x.v/\Bd 10000000 a.v/\Bd 10000000 b.v/\In (fl x) a b/\Q (.v .none) U
theorem yy{ds:List D}{U:Mu}{Q:DK}(h:nq ds U Q):ds.length=4:=by obtain⟨_,_,_,_,rfl,_⟩:=h;rfl
noncomputable def DX:DSp:=fun ds U Q=>∃q:Nat,ds=[.v (.int (q % 4:Nat))]/\Q (.v (.int ((q+1) % 4:Nat))) U
theorem G7{ds:List D}{U:Mu}{Q:DK}(h:DX ds U Q):ds.length=1:=by obtain⟨_,rfl,_⟩:=h;rfl
noncomputable def fW:DSp:=fun ds U Q=>∃(d:Int) (B:Bo d),ds=[.v (bo B)]/\Q (.v (bo (swp B))) U
theorem yv{ds:List D}{U:Mu}{Q:DK}(h:fW ds U Q):ds.length=1:=by obtain⟨_,_,rfl,_⟩:=h;rfl
noncomputable def RY(d:Int)(zs:List (RN d))(B:Bo d):Prop:=av d/\Bw 70000 8000000 B/\(∀z∈zs,Bd 4300 z.v)/\zs.length<=8
noncomputable def iA:DSp:=fun ds U Q=>∃(d:Int) (zs:List (RN d)) (B:Bo d) (bk:Bool),ds=[.v (.int d),.v (.list (zs.map fun z=>dN z.v)),.v (bo B),.v (.bool bk)]/\RY d zs B/\Q (.v (.list ((rise bk B zs).map bo))) U
noncomputable def qu:DSp:=fun ds U Q=>∃(d:Int) (zs:List (RN d)) (B:Bo d) (bk:Bool),ds=[.v (.int d),.v (.list (zs.map fun z=>dN z.v)),.v (bo B),.v (.bool bk)]/\RY d zs B /\
 ∀p O,U p=none->oT U O->O p=some ((rise bk B zs).map bo)->Q (.m p) O
theorem xT{ds:List D}{U:Mu}{Q:DK}(h:qu ds U Q):ds.length=4:=by obtain⟨_,_,_,_,rfl,_⟩:=h;rfl
theorem vD{ds:List D}{U:Mu}{Qd:DK}(h:iA ds U Qd):qu ds U (frz U Qd):=by
 obtain⟨d,zs,B,bk,rfl,g,q⟩:=h
 exact⟨d,zs,B,bk,rfl,g,fun p O hp sb hm=>⟨⟨hp,sb⟩,_,hm,q⟩⟩
noncomputable def GrP(u v:Int):Prop:=1<=u/\1<=v/\u<=1000000/\v<=1000000
noncomputable def yf:DSp:=fun ds U Q=>∃(d:Int) (u v:Int) (t:PyData) (q:Nat) (B:Bo d),ds=[.v (.int d),.v (.tuple [.str "grid",.int u,.int v,t]),.v (.int (q % 4:Nat)),.v (bo B)]/\av d/\GrP u v/\Bw 70000 8000000 B /\
 Q (.v (.tuple [dN (B.w*inv (bJ q u v:RN d)).v,dN (B.h*inv (bJ q v u:RN d)).v])) U
theorem EA{ds:List D}{U:Mu}{Q:DK}(h:yf ds U Q):ds.length=4:=by obtain⟨_,_,_,_,_,_,rfl,_⟩:=h;rfl
noncomputable def uB:DSp:=fun ds U Q=>∃(d:Int) (B:Bo d) (W H:RN d) (c r:Int),ds=[.v (.int d),.v (bo B),.v (dN W.v),.v (dN H.v),.v (.int c),.v (.int r)]/\av d/\Bw 70000 8000000 B/\Bd 80000 W.v/\Bd 80000 H.v/\0<=c/\c<=1000000/\0<=r/\r<=1000000 /\
 Q (.v (bo ⟨B.x+(c:RN d)*W,B.y+(r:RN d)*H,W,H⟩)) U
theorem D7{ds:List D}{U:Mu}{Q:DK}(h:uB ds U Q):ds.length=6:=by obtain⟨_,_,_,_,_,_,rfl,_⟩:=h;rfl
noncomputable def tQ:DSp:=fun ds U Q=>∃(d:Int) (u v:Int) (t:PyData) (q:Nat) (B:Bo d) (a b:RN d) (c r:Int),ds=[.v (.int d),.v (.tuple [.str "grid",.int u,.int v,t]),.v (.int (q % 4:Nat)),.v (bo B),.v (dN a.v),.v (dN b.v)]/\av d/\GrP u v/\Bw 70000 8000000 B/\ps B.w/\ps B.h/\Bd 10000000 a.v/\Bd 10000000 b.v /\
 0<=c/\c<bJ q u v/\0<=r/\r<bJ q v u/\In (lV q u v B c r) a b/\Q (.v (bo (lV q u v B c r))) U
theorem CS{ds:List D}{U:Mu}{Q:DK}(h:tQ ds U Q):ds.length=6:=by obtain⟨_,_,_,_,_,_,_,_,_,_,rfl,_⟩:=h;rfl
noncomputable def iy:DTS:=
 (aC (aR (ae 1) (gO 3 (bh (ak 2) (bh (ak 3) (bh (ak 4) hR)))))
 (aC (aR (aq x6 (ab (cx (cx (ae 0) (ae 3)) (ae 3)) ao)) (ak 5))
 (aC (bQ (dB (dOp rLt (ae 3) (dC (.int 0)))) (aR (nI (D8 (ae 5)) (dC (.int 1))) (ak 5)) aW)
 (aT (jX (fi (ae 2) (ae 5)) (ae 4))))))
noncomputable def nX:DTS:=
 (aC (aR (ae 0) (gO 4 (bh (ak 1) (bh (ak 2) (bh (ak 3) (bh (ak 4) hR))))))
 (aT (cS (ab (ae 1) (ab (aq cP (ab (ae 1) (ab (ae 3) ao))) (ab (ae 2) (ab (aq cP (ab (ae 2) (ab (ae 4) ao))) ao)))))))
noncomputable def nD:DTS:=
 (aC (aR (aq uT (ab (ae 1) ao)) (gO 4 (bh (ak 4) (bh (ak 5) (bh (ak 6) (bh (ak 7) hR))))))
 (aC (bQ (fM (dB (aq nB (ab (ae 0) (ab (ae 4) (ab (ae 2) ao))))) (dB (aq nB (ab (ae 0) (ab (ae 6) (ab (ae 3) ao)))))) (aT (dC (.bool false))) aW)
 (aT (fh (aq nB (ab (ae 0) (ab (ae 5) (ab (ae 2) ao)))) (aq nB (ab (ae 0) (ab (ae 7) (ab (ae 3) ao))))))))
noncomputable def jf:DTS:=
 (bQ (fM (dn (dB (aq nH (ab (ae 2) ao)))) (fM (dn (dB (aq nH (ab (ae 3) ao)))) (dn (dB (aq pM (ab (ae 0) (ab (cS (ab (dC (.tuple [.int 0,.int 0,.int 1])) (ab (dC (.tuple [.int 0,.int 0,.int 1])) (ab (dC (.tuple [.int 1,.int 0,.int 1])) (ab (ae 1) ao))))) (ab (ae 2) (ab (ae 3) ao))))))))) sM aW)
noncomputable def nC:DTS:=
 (aT (pG (fi (ae 0) (dC (.int 1))) (dC (.int 4))))
noncomputable def rR:DTS:=
 (aC (aR (ae 0) (gO 4 (bh (ak 1) (bh (ak 2) (bh (ak 3) (bh (ak 4) hR))))))
 (aT (cS (ab (ae 2) (ab (ae 1) (ab (ae 4) (ab (ae 3) ao)))))))
theorem CO{d a b k:Int}(h:av d)(h0:0<=sg d a b)(hk:0<=k):0<=sg d (a+k) b:=by
 by_cases h1:sg d a b=0
 ·obtain⟨rfl,rfl⟩:=dZ.mp h1
  unfold sg
  split
  ·omega
  ·rw[if_pos ∅];omega
 ·have t:=mV d a b
  have p:=(dS h).mp (show sg d a b=1 by omega)
  rcases Int.lt_or_eq_of_le hk with z|z
  ·have pk:P d k 0:=.inl ⟨∅,∅,∅⟩
   have q:=(dS h).mpr (N7 h p pk)
   rw[Int.add_zero] at q
   omega
  ·rw[<- z,Int.add_zero];omega
theorem eR.unique{d:Int}{x:N3}{u v:Int}(h:av d)(ox:Ok x)(a:eR d x u)(b:eR d x v):u=v:=by
 have key:∀{p q:Int},eR d x p->eR d x q->¬ p<q:=fun {p q} hp hq l=>by
  have e:=Int.mul_le_mul_of_nonneg_right (show p+1<=q by omega) (le_of_lt ox.c)
  have m:=CO (k:=q*x.c-(p+1)*x.c) h hq.1 ∅
  rw[show x.a-q*x.c+(q*x.c-(p+1)*x.c)=x.a-(p+1)*x.c by omega] at m
  have:=hp.2
  omega
 have:=key a b
 have:=key b a
 omega
theorem J7{d b r:Int}(h:av d)(hb:0<=b)(r0:0<=r)(h1:r*r<=d*b*b)(h2:d*b*b<(r+1)*(r+1)):0<=sg d (-r) b/\sg d (-(r+1)) b<0:=by
 by_cases hb0:b=0
 ·subst hb0
  simp only[Int.mul_zero] at h1
  have:r=0:=by
   rcases Int.lt_or_eq_of_le r0 with z|z
   ·have:=mul_pos z z;omega
   ·omega
  subst this
  exact⟨by rw[show sg d (-0) 0=0 from dZ.mpr ⟨rfl,rfl⟩];omega,by unfold sg;simp⟩
 ·have ne:r*r≠d*b*b:=fun e=>hb0 (h.Cs e).2
  constructor
  ·by_cases hr:r=0
   ·subst hr
    rw[(dS h).mpr (.inl ⟨∅,hb,∅⟩)];omega
   ·rw[(dS h).mpr (.inr (.inr ⟨∅,∅,by rw[show -r * -r=r*r by grind];omega⟩))];omega
  ·have e:=rH (d:=d) (a:=r+1) (b:=-b) h
   rw[Int.neg_neg] at e
   rw[e,(dS h).mpr (.inr (.inl ⟨∅,∅,by rw[show d * -b * -b=d*b*b by grind];omega⟩))];omega
theorem JS{d b r:Int}(h:av d)(hb:b<0)(r0:0<=r)(h1:r*r<=d*b*b)(h2:d*b*b<(r+1)*(r+1)):0<=sg d (r+1) b/\sg d r b<0:=by
 have ne:r*r≠d*b*b:=fun e=>by have:=(h.Cs e).2;omega
 constructor
 ·rw[(dS h).mpr (.inr (.inl ⟨∅,hb,h2⟩))];omega
 ·have e:=rH (d:=d) (a:=-r) (b:=-b) h
  rw[Int.neg_neg,Int.neg_neg] at e
  by_cases hr:r=0
  ·subst hr
   rw[e,(dS h).mpr (.inl ⟨∅,∅,∅⟩)];omega
  ·rw[e,(dS h).mpr (.inr (.inr ⟨∅,∅,by rw[show -r * -r=r*r by grind,show d * -b * -b=d*b*b by grind];omega⟩))];omega
theorem Eu{d B:Int}{x:N3}(h:av d)(ox:Ok x)(h1:0<=sg d (-B) x.b)(h2:sg d (-(B+1)) x.b<0):eR d x ((x.a+B).fdiv x.c):=by
 rw[Int.fdiv_eq_ediv_of_nonneg _ (le_of_lt ox.c)]
 have e1:=Int.emod_add_mul_ediv (x.a+B) x.c
 have e2:=Int.emod_nonneg (x.a+B) ox.cn
 have e3:=Int.emod_lt_of_pos (x.a+B) ox.c
 generalize (x.a+B) / x.c=w at *
 generalize (x.a+B) % x.c=r at *
 have ew:w*x.c=x.c*w:=Int.mul_comm ..
 have ew1:(w+1)*x.c=x.c*w+x.c:=by grind
 constructor
 ·have m:=CO (k:=r) h h1 e2
  rw[show -B+r=x.a-w*x.c by omega] at m
  exact m
 ·rw[ew1]
  rcases Int.lt_or_le (sg d (x.a-(x.c*w+x.c)) x.b) 0 with z|z
  ·exact z
  ·have m:=CO (k:=x.c-r-1) h z ∅
   rw[show x.a-(x.c*w+x.c)+(x.c-r-1) = -(B+1) by omega] at m
   omega
section
variable {U:Mu}{Qd:DK}{ds:List D}
theorem vx(h:mG ds U Qd):iy ‹Qd› (aG ["d","x","a","b","c","beneath"] ds) U:=by
 obtain⟨d,x,c,rfl,hd,ox,bx,fc,q⟩:=h
 have s5:=l5 hd.1 hd.2.1
 unfold iy
 walk_at "rb"
 refine⟨rfl,fO s5 bx.b ⋯,fO (s5.mul bx.b) bx.b ⋯,_,rfl,dsq (by have:=hd.1;omega),((s5.mul bx.b).mul bx.b).mono ⋯,fun r r0 r1 r2=>?_⟩
 walk_at "rb"
 have cn:=ox.cn
 by_cases hb:x.b<0
 ·rw[if_pos (by simpa using hb)]
  obtain⟨t1,t2⟩:=JS hd hb r0 r1 r2
  refine⟨cn,?_⟩
  dsimp only
  rw[eR.unique hd ox (Eu hd ox (by rw[show -(-r-1)=r+1 by omega];exact t1) (by rw[show -(-r-1+1)=r by omega];exact t2)) fc]
  exact q
 ·rw[if_neg (by simpa using hb)]
  obtain⟨t1,t2⟩:=J7 hd ∅ r0 r1 r2
  refine⟨cn,?_⟩
  dsimp only
  rw[eR.unique hd ox (Eu hd ox t1 t2) fc]
  exact q
theorem D0(h:uT ds U Qd):nX ‹Qd› (aG ["tile","x","y","width","height"] ds) U:=by
 obtain⟨d,B,rfl,bw,q⟩:=h
 unfold nX bo
 walk_at "rb"
 refine⟨trivial,B.x.v,B.w.v,rfl,B.x.ok,B.w.ok,bw.x.mono ⋯,bw.w.mono ⋯,?_⟩
 walk_at "rb"
 exact⟨B.y.v,B.h.v,rfl,B.y.ok,B.h.ok,bw.y.mono ⋯,bw.h.mono ⋯,q⟩
theorem Kf{d:Int}(hd:av d)(x y:RN d):dif d x.v y.v=1↔ps (x-y):=by
 have e:=Fm hd x.ok y.ok
 show Mz d x.v y.v=1↔_
 rw[<- e];rfl
theorem wN{d:Int}(hd:av d){x y:RN d}(h:ps (x-y)):decide (dif d x.v y.v=1)=true:=decide_eq_true ((Kf hd x y).mpr h)
theorem rf{d:Int}(hd:av d){x y:RN d}(h:¬ ps (x-y)):decide (dif d x.v y.v=1)=false:=decide_eq_false fun z=>h ((Kf hd x y).mp z)
theorem Cz(h:pM ds U Qd):nD ‹Qd› (aG ["d","box","x","y","left","right","bottom","top"] ds) U:=by
 obtain⟨d,B,a,b,β,rfl,hd,bw,ba,bb,mo,q⟩:=h
 unfold nD
 walk_at "rb"
 refine⟨d,B,rfl,bw,?_⟩
 walk_at "rb"
 have ng:∀{u v:RN d},¬ ps (u-v)↔nn (v-u):=fun {u v}=>by unfold nn;rw[show -(v-u)=u-v by grind]
 have fin:∀{kw:Bool},(kw=true↔In B a b)->Qd (.v (.bool kw)) U:=fun {kw} h=>by
  have:kw=β:=by rw[Bool.eq_iff_iff,h,mo]
  rw[this];exact q
 refine⟨trivial,d,_,_,rfl,hd,bw.x.mono ⋯,ba.mono ⋯,?_⟩
 by_cases c1:ps (B.x-a)
 ·rw[wN hd c1]
  walk_at "rb"
  exact fin ⟨fun z=>(nomatch z),fun z=>absurd c1 (ng.mpr z.x0)⟩
 ·rw[rf hd c1]
  walk_at "rb"
  refine⟨d,_,_,rfl,hd,bw.y.mono ⋯,bb.mono ⋯,?_⟩
  by_cases c2:ps (B.y-b)
  ·rw[wN hd c2]
   walk_at "rb"
   exact fin ⟨fun z=>(nomatch z),fun z=>absurd c2 (ng.mpr z.y0)⟩
  ·rw[rf hd c2]
   walk_at "rb"
   refine⟨d,_,_,rfl,hd,(bdA bw.x bw.w).mono ⋯,ba.mono ⋯,?_⟩
   by_cases c3:ps (B.x+B.w-a)
   ·rw[wN hd c3]
    walk_at "rb"
    refine⟨d,_,_,rfl,hd,(bdA bw.y bw.h).mono ⋯,bb.mono ⋯,?_⟩
    by_cases c4:ps (B.y+B.h-b)
    ·rw[wN hd c4]
     exact fin ⟨fun _=>⟨ng.mp c1,c3,ng.mp c2,c4⟩,fun _=>rfl⟩
    ·rw[rf hd c4]
     exact fin ⟨fun z=>(nomatch z),fun z=>absurd z.y1 c4⟩
   ·rw[rf hd c3]
    walk_at "rb"
    exact fin ⟨fun z=>(nomatch z),fun z=>absurd z.x1 c3⟩
theorem Ab{d:Int}(x:RN d):isNum (dN x.v)=true:=by
 show (decide (1<=x.v.c)&&(g3 x.v.a x.v.b x.v.c==1))=true
 rw[decide_eq_true (show 1<=x.v.c from x.ok.c),x.ok.g];rfl
theorem xD(h:nq ds U Qd):jf ‹Qd› (aG ["d","shape","x","y"] ds) U:=by
 obtain⟨d,x,a,b,rfl,hd,bx,ba,bb,hi,q⟩:=h
 unfold jf
 walk_at "rb"
 refine⟨_,rfl,IP,?_⟩
 rw[Ab a]
 walk_at "rb"
 refine⟨_,rfl,IP,?_⟩
 rw[Ab b]
 walk_at "rb"
 have b1:Bd 1 (1:RN d).v:=⟨Sz.of (by show (1:Int).natAbs<2;decide),Sz.of (by show (0:Int).natAbs<2;decide),Sz.of (by show (1:Int).natAbs<2;decide)⟩
 have b0:Bd 1 (0:RN d).v:=⟨Sz.of (by show (0:Int).natAbs<2;decide),Sz.of (by show (0:Int).natAbs<2;decide),Sz.of (by show (1:Int).natAbs<2;decide)⟩
 refine⟨d,fl x,a,b,true,rfl,hd,⟨b0.mono ⋯,b0.mono ⋯,b1.mono ⋯,bx⟩,ba,bb,⟨fun _=>hi,fun _=>rfl⟩,?_⟩
 walk_at "rb"
 exact q
theorem DM(h:DX ds U Qd):nC ‹Qd› (aG ["quarters"] ds) U:=by
 obtain⟨n,rfl,q⟩:=h
 unfold nC
 walk_at "rb"
 refine⟨⋯,?_⟩
 have e:(((n % 4:Nat):Int)+1).fmod 4=((n+1) % 4:Nat):=by rw[Int.fmod_eq_emod_of_nonneg _ ⋯];omega
 rw[e];exact q
theorem GW(h:fW ds U Qd):rR ‹Qd› (aG ["box","x","y","width","height"] ds) U:=by
 obtain⟨d,B,rfl,q⟩:=h
 unfold rR bo
 walk_at "rb"
 exact⟨trivial,q⟩
end
noncomputable def lr:DTS:=
 (aC (vf 4 5 (ab (dOp ax (ae 1) (dC (.int 1))) (ab (dOp ax (ae 1) (dC (.int 2))) ao)))
 (aC (bQ (dB (dOp (bV false) (pG (ae 2) (dC (.int 2))) (dC (.int 1)))) (vf 4 5 (ab (ae 5) (ab (ae 4) ao))) aW)
 (aT (cS (ab (aq nL (ab (ae 0) (ab (dOp ax (ae 3) (dC (.int 2))) (ab (cS (ab (ae 4) (ab (dC (.int 0)) (ab (dC (.int 1)) ao)))) ao)))) (ab (aq nL (ab (ae 0) (ab (dOp ax (ae 3) (dC (.int 3))) (ab (cS (ab (ae 5) (ab (dC (.int 0)) (ab (dC (.int 1)) ao)))) ao)))) ao))))))
noncomputable def oP:DTS:=
 (aC (aR (aq dw (ab (ae 0) (ab (cS (ab (ae 4) (ab (dC (.int 0)) (ab (dC (.int 1)) ao)))) (ab (ae 2) ao)))) (ak 6))
 (aC (aR (aq dw (ab (ae 0) (ab (cS (ab (ae 5) (ab (dC (.int 0)) (ab (dC (.int 1)) ao)))) (ab (ae 3) ao)))) (ak 7))
 (aT (cS (ab (aq cP (ab (dOp ax (ae 1) (dC (.int 0))) (ab (ae 6) ao))) (ab (aq cP (ab (dOp ax (ae 1) (dC (.int 1))) (ab (ae 7) ao))) (ab (ae 2) (ab (ae 3) ao))))))))
noncomputable def sH:DTS:=
 (aC (aR (aq yf (ab (ae 0) (ab (ae 1) (ab (ae 2) (ab (ae 3) ao))))) (gO 2 (bh (ak 6) (bh (ak 7) hR))))
 (aC (aR (aq mG (ab (ae 0) (ab (aq nL (ab (ae 0) (ab (aq rD (ab (ae 4) (ab (dOp ax (ae 3) (dC (.int 0))) ao))) (ab (ae 6) ao)))) ao))) (ak 8))
 (aC (aR (aq mG (ab (ae 0) (ab (aq nL (ab (ae 0) (ab (aq rD (ab (ae 5) (ab (dOp ax (ae 3) (dC (.int 1))) ao))) (ab (ae 7) ao)))) ao))) (ak 9))
 (aT (aq uB (ab (ae 0) (ab (ae 3) (ab (ae 6) (ab (ae 7) (ab (ae 8) (ab (ae 9) ao)))))))))))
section
variable {U:Mu}{Qd:DK}{ds:List D}
theorem yh{d:Int}(hd:av d){a b:RN d}(hb:ps b):times d a.v (aS d b.v)=(a*inv b).v:=by show _=times d a.v (inv b).v;rw[qU hd hb]
theorem Iw{d:Int}{b:RN d}(hb:ps b):b.v≠fF:=fun e=>by
 have:b=0:=RN.ext e
 exact Jb (this▸hb)
theorem Ip(q:Nat)(u v:Int):(if (((q % 4:Nat):Int).fmod 2=1) then v else u)=bJ q u v:=by
 unfold bJ
 rw[Int.fmod_eq_emod_of_nonneg _ ⋯]
 split<;>split<;>first|rfl|omega
theorem AJ(h:yf ds U Qd):lr ‹Qd› (aG ["d","plan","quarters","box","columns","rows"] ds) U:=by
 obtain⟨d,u,v,t,q,B,rfl,hd,⟨hu,hv,hu',hv'⟩,bw,qd⟩:=h
 have key:∀{cu cv:Int},1<=cu->1<=cv->cu<=1000000->cv<=1000000->bJ q u v=cu->bJ q v u=cv ->
   aT (cS (ab (aq nL (ab (ae 0) (ab (dOp ax (ae 3) (dC (.int 2))) (ab (cS (ab (ae 4) (ab (dC (.int 0)) (ab (dC (.int 1)) ao)))) ao)))) (ab (aq nL (ab (ae 0) (ab (dOp ax (ae 3) (dC (.int 3))) (ab (cS (ab (ae 5) (ab (dC (.int 0)) (ab (dC (.int 1)) ao)))) ao)))) ao)))
    ‹Qd› [some (.v (.int d)),some (.v (.tuple [.str "grid",.int u,.int v,t])),some (.v (.int (q % 4:Nat))),some (.v (bo B)),some (.v (.int cu)),some (.v (.int cv))] U:=fun {cu cv} h1 h2 h3 h4 e1 e2=>by
  have p1:=cm (d:=d) (n:=cu) ∅
  have p2:=cm (d:=d) (n:=cv) ∅
  unfold bo
  walk_at "rb"
  refine⟨d,B.w.v,(cu:RN d).v,rfl,hd,B.w.ok,(cu:RN d).ok,Iw p1,bw.w.mono ⋯,(bdC (d:=d) ∅ h3).mono ⋯,?_⟩
  walk_at "rb"
  refine⟨d,B.h.v,(cv:RN d).v,rfl,hd,B.h.ok,(cv:RN d).ok,Iw p2,bw.h.mono ⋯,(bdC (d:=d) ∅ h4).mono ⋯,?_⟩
  rw[yh hd p1,yh hd p2,<- e1,<- e2]
  exact qd
 have cq:=Ip q u v
 have cq':=Ip q v u
 unfold lr
 walk_at "rb"
 refine⟨⋯,?_⟩
 by_cases c:((q % 4:Nat):Int).fmod 2=1
 ·rw[if_pos c] at cq cq'
  rw[if_pos (decide_eq_true c)]
  exact key hv hu hv' hu' cq.symm cq'.symm
 ·rw[if_neg c] at cq cq'
  rw[if_neg (by rw[decide_eq_true_eq];exact c)]
  exact key hu hv hu' hv' cq.symm cq'.symm
theorem Ff(h:uB ds U Qd):oP ‹Qd› (aG ["d","box","width","height","column","row","right","up"] ds) U:=by
 obtain⟨d,B,W,H,c,r,rfl,hd,bw,bW,bH,c0,c1,r0,r1,q⟩:=h
 have s5:=l5 hd.1 hd.2.1
 have bc:=bdC (d:=d) c0 c1
 have br:=bdC (d:=d) r0 r1
 unfold oP
 walk_at "rb"
 refine⟨d,(c:RN d).v,W.v,rfl,s5,(c:RN d).ok,W.ok,bc.mono ⋯,bW.mono ⋯,?_⟩
 walk_at "rb"
 refine⟨d,(r:RN d).v,H.v,rfl,s5,(r:RN d).ok,H.ok,br.mono ⋯,bH.mono ⋯,?_⟩
 unfold bo
 walk_at "rb"
 refine⟨B.x.v,((c:RN d)*W).v,rfl,B.x.ok,((c:RN d)*W).ok,bw.x.mono ⋯,(bdM hd bc bW).mono ⋯,?_⟩
 walk_at "rb"
 refine⟨B.y.v,((r:RN d)*H).v,rfl,B.y.ok,((r:RN d)*H).ok,bw.y.mono ⋯,(bdM hd br bH).mono ⋯,?_⟩
 exact q
theorem Gr(h:tQ ds U Qd):sH ‹Qd› (aG ["d","plan","quarters","box","x","y","width","height","column","row"] ds) U:=by
 obtain⟨d,u,v,t,q,B,a,b,c,r,rfl,hd,g,bw,hw,hh,ba,bb,c0,c1,r0,r1,hi,qd⟩:=h
 obtain⟨f1,f2⟩:=sI hd g.1 g.2.1 hw hh hi
 have cu:=eE (q:=q) g.1 g.2.1
 have cv:=eE (q:=q) g.2.1 g.1
 have lu:=xZ (q:=q) g.2.2.1 g.2.2.2
 have lv:=xZ (q:=q) g.2.2.2 g.2.2.1
 have pu:=cm (d:=d) cu
 have pv:=cm (d:=d) cv
 have W:=bdM hd bw.w (bdI hd pu (bdC ∅ lu))
 have H:=bdM hd bw.h (bdI hd pv (bdC ∅ lv))
 have pW:=dH hd hw (fH hd pu)
 have pH:=dH hd hh (fH hd pv)
 unfold sH
 walk_at "rb"
 refine⟨d,u,v,t,q,B,rfl,hd,g,bw,?_⟩
 walk_at "rb"
 unfold bo
 walk_at "rb"
 refine⟨trivial,a.v,B.x.v,rfl,a.ok,B.x.ok,ba.mono ⋯,bw.x.mono ⋯,?_⟩
 walk_at "rb"
 have dX:=bdS ba bw.x
 have dY:=bdS bb bw.y
 refine⟨d,(a-B.x).v,(B.w*inv (bJ q u v:RN d)).v,rfl,hd,(a-B.x).ok,RN.ok _,Iw pW,dX.mono ⋯,W.mono ⋯,?_⟩
 walk_at "rb"
 rw[yh hd pW]
 refine⟨d,_,c,rfl,hd,RN.ok _,(bdM hd dX (bdI hd pW W)).mono ⋯,f1,?_⟩
 walk_at "rb"
 refine⟨b.v,B.y.v,rfl,b.ok,B.y.ok,bb.mono ⋯,bw.y.mono ⋯,?_⟩
 walk_at "rb"
 refine⟨d,(b-B.y).v,(B.h*inv (bJ q v u:RN d)).v,rfl,hd,(b-B.y).ok,RN.ok _,Iw pH,dY.mono ⋯,H.mono ⋯,?_⟩
 walk_at "rb"
 rw[yh hd pH]
 refine⟨d,_,r,rfl,hd,RN.ok _,(bdM hd dY (bdI hd pH H)).mono ⋯,f2,?_⟩
 walk_at "rb"
 exact⟨d,B,_,_,c,r,rfl,hd,bw,W.mono ⋯,H.mono ⋯,c0,∅,r0,∅,qd⟩
end
noncomputable def je:DTS:=
 (aC (aR (ae 2) (gO 4 (bh (ak 4) (bh (ak 5) (bh (ak 6) (bh (ak 7) hR))))))
 (aC (aR (zk ao) (ak 8))
 (aC (aR (dIf (dB (ae 3)) (aq cP (ab (ae 5) (ab (ae 7) ao))) (ae 5)) (ak 9))
 (aC (vE (dU (ae 1)) (ak 10) (aC (aR (aq dw (ab (ae 0) (ab (ae 10) (ab (ae 6) ao)))) (ak 11))
 (aC (bQ (dB (ae 3)) (aR (aq rD (ab (ae 9) (ab (ae 11) ao))) (ak 9)) aW)
 (aC (oS (Ei (ae 8) (cS (ab (ae 4) (ab (ae 9) (ab (ae 6) (ab (ae 11) ao)))))))
 (bQ (dn (dB (ae 3))) (aR (aq cP (ab (ae 9) (ab (ae 11) ao))) (ak 9)) aW)))))
 (aT (ae 8))))))
section
variable {U:Mu}{Qd:DK}{ds:List D}
theorem drop_cons{α:Type}{L:List α}{i:Nat}{a:α}{r:List α}(h:L.drop i=a::r):L.take (i+1)=L.take i++[a]/\L.drop (i+1)=r:=by
 have e:L[i]? = some a:=by rw[<- List.head?_drop,h];rfl
 refine⟨?_,?_⟩
 ·rw[List.take_add_one,e];rfl
 ·rw[<- List.tail_drop,h];rfl
noncomputable def RH{d:Int}(bk:Bool)(x w s:RN d)(zs:List (RN d)):List (Bo d):=if bk=true then oo x w s zs else oq x w s zs
theorem xO(h:qu ds U Qd):je ‹Qd› (aG ["d","sizes","box","backward","x","y","width","height","boxes","start","size","high"] ds) U:=by
 obtain⟨d,zs,B,bk,rfl,⟨hd,bw,bz,hl⟩,q⟩:=h
 have s5:=l5 hd.1 hd.2.1
 have loop:∀(p:Addr) (s:RN d) ac,U p=none->oT U ac->ac p=some []->Bd 8070001 s.v->RH bk B.x B.w s zs=rise bk B zs ->
   (aC (vE (dU (ae 1)) (ak 10) (aC (aR (aq dw (ab (ae 0) (ab (ae 10) (ab (ae 6) ao)))) (ak 11))
 (aC (bQ (dB (ae 3)) (aR (aq rD (ab (ae 9) (ab (ae 11) ao))) (ak 9)) aW)
 (aC (oS (Ei (ae 8) (cS (ab (ae 4) (ab (ae 9) (ab (ae 6) (ab (ae 11) ao)))))))
 (bQ (dn (dB (ae 3))) (aR (aq cP (ab (ae 9) (ab (ae 11) ao))) (ak 9)) aW)))))
 (aT (ae 8))) ‹Qd› [some (.v (.int d)),some (.v (.list (zs.map fun z=>dN z.v))),some (.v (bo B)),some (.v (.bool bk)),some (.v (dN B.x.v)),some (.v (dN B.y.v)),some (.v (dN B.w.v)),some (.v (dN B.h.v)),some (.m p),some (.v (dN s.v)),none,none] ac:=fun p s ac hp sb hm bs hr=>by
  rw[qW,vo]
  walk_at "rb"
  refine⟨fun i ρ O=>∃(s:RN d) (r1 r2:Option D),ρ=[some (.v (.int d)),some (.v (.list (zs.map fun z=>dN z.v))),some (.v (bo B)),some (.v (.bool bk)),some (.v (dN B.x.v)),some (.v (dN B.y.v)),some (.v (dN B.w.v)),some (.v (dN B.h.v)),some (.m p),some (.v (dN s.v)),r1,r2] /\
   RH bk B.x B.w s (zs.drop i)=(rise bk B zs).drop i/\Bd (8070001+i*75000) s.v/\oT U O/\O p=some (((rise bk B zs).take i).map bo),⟨s,_,_,rfl,hr,bs,sb,hm⟩,?_,?_⟩
  ·rintro i y ρ ad hy ⟨s,r1,r2,rfl,hr,bs,sb,hm⟩
   rw[getElem?_map] at hy
   obtain⟨z,hz,rfl⟩:=Option.map_eq_some_iff.mp hy
   have hi:=(List.getElem?_eq_some_iff.mp hz).1
   have dr:zs.drop i=z::zs.drop (i+1):=by rw[List.drop_eq_getElem_cons hi,(List.getElem?_eq_some_iff.mp hz).2]
   have zb:=bz z (mem_of_getElem? hz)
   have bM:=bdM hd zb bw.w
   rw[dr] at hr
   walk_at "rb"
   refine⟨d,z.v,B.w.v,rfl,s5,z.ok,B.w.ok,zb.mono ⋯,bw.w.mono ⋯,?_⟩
   have hlen:(List.map bo (List.take i (rise bk B zs))).length<1000:=by rw[length_map,length_take,mS];omega
   cases bk
   ·obtain⟨t1,t2⟩:=drop_cons hr.symm
    walk_at "rb"
    rw[hm]
    refine⟨hlen,?_⟩
    refine⟨s.v,(z*B.w).v,rfl,s.ok,RN.ok _,bs.mono ∅,bM.mono ⋯,?_⟩
    refine⟨s+z*B.w,_,_,rfl,t2.symm,(bdA bs bM).mono ∅,sb.set hp,?_⟩
    rw[bg,t1,map_append];rfl
   ·obtain⟨t1,t2⟩:=drop_cons hr.symm
    walk_at "rb"
    refine⟨s.v,(z*B.w).v,rfl,s.ok,RN.ok _,bs.mono ∅,bM.mono ⋯,?_⟩
    walk_at "rb"
    rw[hm]
    refine⟨hlen,?_⟩
    refine⟨s-z*B.w,_,_,rfl,t2.symm,(bdS bs bM).mono ∅,sb.set hp,?_⟩
    rw[bg,t1,map_append];rfl
  ·rintro ρ ad ⟨s,r1,r2,rfl,hr,bs,sb,hm⟩
   walk_at "rb"
   refine q p ad hp sb ?_
   rw[hm,length_map,<- mS (bk:=bk) (B:=B) (zs:=zs),take_length]
 unfold je bo
 walk_at "rb"
 refine⟨trivial,fun p hp=>?_⟩
 cases bk
 ·exact loop p B.y _ hp (oT.refl.set hp) bg (bw.y.mono ⋯) rfl
 ·refine⟨B.y.v,B.h.v,rfl,B.y.ok,B.h.ok,bw.y.mono ⋯,bw.h.mono ⋯,?_⟩
  exact loop p (B.y+B.h) _ hp (oT.refl.set hp) bg (bdA bw.y bw.h) rfl
end
theorem SP.up{d:Int}{ks:List N3}{n:Nat}{t:PyData}{x:N3}(h:SP d ks n t x):∀{m:Nat},n<=m->SP d ks m t x:=by
 induction h with
 |kind i k a b c=>intro m l;obtain⟨m,rfl⟩:∃k,m=k+1:=⟨m-1,∅⟩;exact .kind i k a b c
 |turn _ g ih=>intro m l;obtain⟨m,rfl⟩:∃k,m=k+1:=⟨m-1,∅⟩;exact .turn (ih ∅) g
 |grid u v a b c e _ f g ih=>intro m l;obtain⟨m,rfl⟩:∃k,m=k+1:=⟨m-1,∅⟩;exact .grid u v a b c e (ih ∅) f g
 |rZ es a b _ s ih=>intro m l;obtain⟨m,rfl⟩:∃k,m=k+1:=⟨m-1,∅⟩;exact .rZ es a b (fun e he=>ih e he ∅) s
 |fY es a b _ s1 s2 s3 ih=>intro m l;obtain⟨m,rfl⟩:∃k,m=k+1:=⟨m-1,∅⟩;exact .fY es a b (fun e he=>ih e he ∅) s1 s2 s3
structure StP(d:Int)(ks:List N3)(up:Bool)(es:List (PyData×RN d)):Prop where
 l2:2<=es.length
 l8:es.length<=8
 sp:∀e∈es,Sh e.1/\SP d ks 13 e.1 e.2.v/\ps e.2/\Bd 4300 e.2.v
 sz:∀z∈bZ up es,Bd 4300 z.v
noncomputable def uA:DSp:=fun ds U Q=>∃(d:Int) (ks:List N3) (up:Bool) (es:List (PyData×RN d)) (q:Nat) (B:Bo d),ds=[.v (.int d),.v (.tuple (ks.map dN)),.v (.tuple [.str (wd up),.tuple (es.map (·.1))]),.v (.int (q % 4:Nat)),.v (bo B)]/\av d/\StP d ks up es/\Bw 70000 8000000 B /\
 ∀O,(∀b ds,U b=some ds->O b=some ds)->Q (.v (.list ((cO q up B (bZ up es)).map bo))) O
theorem DN{ds:List D}{U:Mu}{Q:DK}(h:uA ds U Q):ds.length=5:=by obtain⟨_,_,_,_,_,_,rfl,_⟩:=h;rfl
noncomputable def vk:DSp:=fun ds U Q=>∃(d:Int) (ks:List N3) (up:Bool) (es:List (PyData×RN d)) (q:Nat) (B C:Bo d) (a b:RN d) (j:Nat) (e:PyData×RN d),ds=[.v (.int d),.v (.tuple (ks.map dN)),.v (.tuple [.str (wd up),.tuple (es.map (·.1))]),.v (.int (q % 4:Nat)),.v (bo B),.v (dN a.v),.v (dN b.v)]/\av d/\StP d ks up es/\Bw 70000 8000000 B /\
 ps B.w/\ps B.h/\Bd 10000000 a.v/\Bd 10000000 b.v/\es[j]? = some e/\(cO q up B (bZ up es))[j]? = some C/\In C a b/\∀O,(∀b ds,U b=some ds->O b=some ds)->Q (.v (.tuple [e.1,bo C])) O
theorem C4{ds:List D}{U:Mu}{Q:DK}(h:vk ds U Q):ds.length=7:=by obtain⟨_,_,_,_,_,_,_,_,_,_,_,rfl,_⟩:=h;rfl
noncomputable def jY:DTS:=
 (aC (aR (dq [none,some 0,some 1] (uu (dOp ax (ae 2) (dC (.int 1)))) (ak 0) eU (aq (iC 13) (ab (ae 1) (ab (ae 2) (ab (ae 0) ao))))) (ak 5))
 (aC (aR (dOp (bV false) (dOp ax (ae 2) (dC (.int 0))) (dC (.str "upon"))) (ak 6))
 (aC (aR (dIf (dB (ae 6)) (ae 5) (rg [none,some 0] (dU (ae 5)) (ak 0) eU (aq cj (ab (ae 1) (ab (ae 0) ao))))) (ak 7))
 (aC (aR (dOp HS (ae 3) (dIf (dB (ae 6)) (cS (ab (dC (.int 1)) (ab (dC (.int 2)) ao))) (cS (ab (dC (.int 2)) (ab (dC (.int 3)) ao))))) (ak 8))
 (aC (bQ (dB (dOp (bV false) (ae 6) (dOp (bV false) (pG (ae 3) (dC (.int 2))) (dC (.int 0))))) (aT (aq iA (ab (ae 0) (ab (ae 7) (ab (ae 4) (ab (ae 8) ao)))))) aW)
 (aT (rg [none] (dU (aq iA (ab (ae 0) (ab (ae 7) (ab (aq fW (ab (ae 4) ao)) (ab (ae 8) ao)))))) (ak 0) eU (aq fW (ab (ae 0) ao)))))))))
section
variable {U:Mu}{Qd:DK}{ds:List D}
noncomputable def S0:PyData->PyData
 |.tuple [a,b,c,e]=>.tuple [b,a,e,c]
 |t=>t
theorem Oz(q:Nat)(up:Bool):(up==(((q % 4:Nat):Int).fmod 2==0))=wm q up:=by
 unfold wm
 rw[Int.fmod_eq_emod_of_nonneg _ ⋯]
 rcases (by omega:q % 2=0\/q % 2=1) with e|e
 ·rw[show (((q % 4:Nat):Int) % 2)=0 by omega,e];cases up<;>rfl
 ·rw[show (((q % 4:Nat):Int) % 2)=1 by omega,e];cases up<;>rfl
theorem dpI(i:Int):PyData.depth (.int i)<=60:=by show (0:Nat)<=60;decide
noncomputable def Q2(d:Int):PyData->PyData
 |.tuple [.int a,.int b,.int c]=>dN (aS d ⟨a,b,c⟩)
 |t=>t
theorem NX(q:Nat)(up:Bool):((if up=true then [PyData.int 1,.int 2] else [.int 2,.int 3]).any fun b=>PyData.eqv b (.int ((q % 4:Nat):Int)))=bck q up:=by
 unfold bck
 have:q % 4<4:=Nat.mod_lt _ ⋯
 generalize q % 4=k at *
 rcases (by omega:k=0\/k=1\/k=2\/k=3) with e|e|e|e<;>subst e<;>cases up<;>rfl
theorem xo{d:Int}{ks:List N3}{up:Bool}{q:Nat}{B:Bo d}{zs:List (RN d)}{r1 r2:PyData}(hd:av d)(bw:Bw 70000 8000000 B)(bz:∀z∈zs,Bd 4300 z.v)(hl:zs.length<=8)(qd:Qd (.v (.list ((cO q up B zs).map bo))) U) :
  (aC (bQ (dB (dOp (bV false) (ae 6) (dOp (bV false) (pG (ae 3) (dC (.int 2))) (dC (.int 0))))) (aT (aq iA (ab (ae 0) (ab (ae 7) (ab (ae 4) (ab (ae 8) ao)))))) aW)
 (aT (rg [none] (dU (aq iA (ab (ae 0) (ab (ae 7) (ab (aq fW (ab (ae 4) ao)) (ab (ae 8) ao)))))) (ak 0) eU (aq fW (ab (ae 0) ao)))))
   ‹Qd› [some (.v (.int d)),some (.v (.tuple (ks.map dN))),some (.v r1),some (.v (.int (q % 4:Nat))),some (.v (bo B)),some (.v r2),some (.v (.bool up)),some (.v (.list (zs.map fun z=>dN z.v))),some (.v (.bool (bck q up)))] U:=by
 walk_at "rb"
 have e:=Oz q up
 have eb:(((q % 4:Nat):Int).fmod 2==0)=decide (((q % 4:Nat):Int).fmod 2=0):=rfl
 refine⟨⋯,?_⟩
 rw[<- eb,e]
 unfold cO at qd
 cases hv:wm q up
 ·rw[hv,if_neg ⋯,map_map] at qd
  rw[if_neg ⋯]
  unfold DL.hd
  walk_at "rb"
  rw[rV]
  walk_at "rb"
  refine⟨d,B,rfl,?_⟩
  walk_at "rb"
  refine⟨d,zs,swp B,bck q up,rfl,⟨hd,bw.swp,bz,hl⟩,?_⟩
  walk_at "rb"
  refine⟨by rw[length_map,mS];omega,fun t=>some (S0 t),fun t ht O _=>?_,?_⟩
  ·obtain⟨C,hC,rfl⟩:=List.mem_map.mp ht
   exact⟨trivial,d,C,rfl,rfl,rfl⟩
  ·rw[nW,map_map]
   exact qd
 ·rw[hv,if_pos rfl] at qd
  rw[if_pos rfl]
  exact⟨d,zs,B,bck q up,rfl,⟨hd,bw,bz,hl⟩,qd⟩
theorem zW(h:uA ds U Qd):jY ‹Qd› (aG ["d","kinds","plan","quarters","box","shapes","upon","sizes","backward"] ds) U:=by
 obtain⟨d,ks,up,es,q,B,rfl,hd,st,bw,qd⟩:=h
 have sl:(bZ up es).length<=8:=by unfold bZ;rw[length_map];exact st.l8
 unfold jY
 walk_at "rb"
 refine ia (b:=false) (es:=es.map fun e=>(e.1,e.2.v)) (fun QI hq=>?_) (by rw[length_map];exact st.l8) hd rfl rfl (fun e he=>by obtain⟨e',h',rfl⟩:=List.mem_map.mp he;exact⟨(st.sp e' h').1,(st.sp e' h').2.1⟩) fun ac k1=>?_
 ·walk_at "rb"
  rw[map_map] at hq
  exact hq
 walk_at "rb"
 have sh:(es.map fun e=>(e.1,e.2.v)).map (·.2)=es.map fun e=>e.2.v:=by rw[map_map];rfl
 rw[sh]
 cases up
 ·rw[show wd false = "beside" from rfl]
  simp only[bj uS mf,L3,false_xor,false_eq_true,↓reduceIte]
  walk_at "rb"
  rw[rV]
  walk_at "rb"
  refine⟨by rw[length_map,length_map];have:=st.l8;omega,fun t=>some (Q2 d t),fun t ht O _=>?_,?_⟩
  ·obtain⟨k,hk',rfl⟩:=List.mem_map.mp ht
   obtain⟨e,he,rfl⟩:=List.mem_map.mp hk'
   have g:=st.sp e he
   exact⟨⟨trivial,trivial⟩,d,e.2.v,rfl,l5 hd.1 hd.2.1,qH hd g.2.2.1,g.2.2.2.mono ⋯,rfl,rfl⟩
  ·rw[nW,map_map,map_map]
   have e:es.map (Q2 d ∘ dN ∘ fun e=>e.2.v)=(bZ false es).map fun z=>dN z.v:=by
    unfold bZ
    rw[map_map]
    refine List.map_congr_left fun e he=>?_
    show dN (aS d e.2.v)=dN (inv e.2).v
    rw[qU hd (st.sp e he).2.2.1]
   rw[e,NQ]
   refine⟨rfl,rfl,dpI _,?_⟩
   rw[show [PyData.int 2,PyData.int 3]=if false=true then [PyData.int 1,.int 2] else [.int 2,.int 3] from rfl,NX q false]
   exact xo hd bw st.sz sl (qd ac k1)
 ·rw[show wd true = "upon" from rfl]
  simp only[bj mf mf,MY,false_xor,↓reduceIte]
  walk_at "rb"
  rw[NQ]
  refine⟨rfl,rfl,dpI _,?_⟩
  rw[show [PyData.int 1,PyData.int 2]=if true=true then [PyData.int 1,.int 2] else [.int 2,.int 3] from rfl,NX q true]
  have e:(es.map fun e=>e.2.v).map dN=(bZ true es).map fun z=>dN z.v:=by unfold bZ;rw[map_map,map_map];rfl
  rw[e]
  exact xo hd bw st.sz sl (qd ac k1)
end
noncomputable def sE:DTS:=
 (aC (aR (aq uA (ab (ae 0) (ab (ae 1) (ab (ae 2) (ab (ae 3) (ab (ae 4) ao)))))) (ak 7))
 (aC (aR (dq [none,none,some 0,some 5,some 6] (GZ (ab (dOp ax (ae 2) (dC (.int 1))) (ab (ae 7) ao))) (gO 2 (bh (ak 0) (bh (ak 1) hR))) (dB (aq pM (ab (ae 2) (ab (ae 1) (ab (ae 3) (ab (ae 4) ao)))))) (cS (ab (ae 0) (ab (ae 1) ao)))) (ak 8))
 (aT (dOp ax (ae 8) (dC (.int 0))))))
section
variable {U:Mu}{Qd:DK}{ds:List D}
theorem Kx{n i:Nat}{xs ys:List PyData}{y:PyData}(h:(oK n [xs,ys])[i]? = some y):i<n/\y = .tuple [xs.getD i .none,ys.getD i .none]:=by
 unfold oK at h
 rw[getElem?_map] at h
 obtain⟨k,hk,rfl⟩:=Option.map_eq_some_iff.mp h
 obtain⟨h1,h2⟩:=List.getElem?_eq_some_iff.mp hk
 rw[List.getElem_range] at h2
 rw[length_range] at h1
 subst h2
 exact⟨h1,rfl⟩
theorem G8(h:vk ds U Qd):sE ‹Qd› (aG ["d","kinds","plan","quarters","box","x","y","boxes","found"] ds) U:=by
 obtain⟨d,ks,up,es,q,B,C,a,b,j,e,rfl,hd,st,bw,hw,hh,ba,bb,he,hC,hi,qd⟩:=h
 have sl:(bZ up es).length=es.length:=by unfold bZ;rw[length_map]
 have bl:((cO q up B (bZ up es)).map bo).length=es.length:=by rw[length_map,tq,sl]
 have l8:=st.l8
 unfold sE
 walk_at "rb"
 refine⟨d,ks,up,es,q,B,rfl,hd,st,bw,fun ac k1=>?_⟩
 walk_at "rb"
 rw[kF]
 walk_at "rb"
 rw[Ly]
 walk_at "rb"
 refine⟨es.length,_,.t (length_map ..) (.l bl .nil),?_⟩
 refine⟨by unfold oK;rw[length_map,length_range];omega,fun p hp=>⟨fun i acc O=>((i<=j/\acc=[])\/(j<i/\acc.head? = some (.tuple [e.1,bo C])))/\∀b ds,b≠p->ac b=some ds->O b=some ds,⟨.inl ⟨∅,rfl⟩,fun b ds hb z=>by rw[aV hb];exact z⟩,?_,?_⟩⟩
 ·rintro i x acc O hx hacc ⟨ha,hk⟩
  obtain⟨hlt,rfl⟩:=Kx hx
  obtain⟨C',hC'⟩:=Jo (q:=q) (up:=up) (B:=B) (zs:=bZ up es) (j:=i) (by rw[sl];exact hlt)
  have g1:(es.map (·.1)).getD i .none=(es[i]).1:=by rw[List.getD_eq_getElem?_getD,getElem?_map,getElem?_eq_getElem hlt];rfl
  have g2:((cO q up B (bZ up es)).map bo).getD i .none=bo C':=by rw[List.getD_eq_getElem?_getD,getElem?_map,hC'];rfl
  rw[g1,g2]
  have bC:=vT hd bw st.sz (by rw[sl];exact l8) C' (mem_of_getElem? hC')
  have hp':∀e∈es,ps e.2:=fun e he=>(st.sp e he).2.2.1
  walk_at "rb"
  refine⟨trivial,?_⟩
  have cl:∃β:Bool,β=true↔In C' a b:=by
   rcases Classical.em (In C' a b) with z|z
   ·exact⟨true,fun _=>z,fun _=>rfl⟩
   ·exact⟨false,fun w=>(nomatch w),fun w=>absurd w z⟩
  obtain⟨β,mo⟩:=cl
  refine⟨⟨trivial,trivial,trivial,trivial⟩,d,C',a,b,β,rfl,hd,bC.mono ⋯ ⋯,ba,bb,mo,?_⟩
  cases β
  ·have no:¬ In C' a b:=fun z=>nomatch mo.mpr z
   walk_at "rb"
   refine⟨hacc,?_,hk⟩
   rcases ha with ⟨z1,z2⟩|⟨z1,z2⟩
   ·rcases Nat.lt_or_eq_of_le z1 with w|w
    ·exact .inl ⟨w,z2⟩
    ·subst w
     rw[hC] at hC'
     cases hC'
     exact absurd hi no
   ·exact .inr ⟨∅,z2⟩
  ·have yes:=mo.mp rfl
   walk_at "rb"
   refine⟨hacc,?_,fun b ds hb z=>by rw[aV hb];exact hk b ds hb z⟩
   rcases ha with ⟨z1,z2⟩|⟨z1,z2⟩
   ·rcases Nat.lt_or_eq_of_le z1 with w|w
    ·exact absurd yes (nr hd hw hh hp' hC hC' w hi)
    ·subst w
     rw[hC] at hC'
     cases hC'
     rw[getElem?_eq_getElem hlt] at he
     cases he
     exact .inr ⟨∅,by rw[z2];rfl⟩
   ·refine .inr ⟨∅,?_⟩
    rw[List.head?_append,z2];rfl
 ·rintro acc O ⟨ha,hk⟩ hacc
  have jl:j<es.length:=(List.getElem?_eq_some_iff.mp he).1
  have rl:(oK es.length [List.map (fun x=>x.fst) es,List.map bo (cO q up B (bZ up es))]).length=es.length:=by unfold oK;rw[length_map,length_range]
  rw[rl] at ha
  rcases ha with ⟨z1,z2⟩|⟨z1,z2⟩
  ·omega
  ·cases acc with
   |nil=>cases z2
   |cons y acc=>
    cases z2
    rw[show atI (PyData.tuple [e.1,bo C]::acc) 0=some (PyData.tuple [e.1,bo C]) from jv (j:=0) rfl]
    refine qd _ fun b ds z=>?_
    have z':=k1 b ds z
    have hb:b≠p:=fun w=>by rw[w,hp] at z';cases z'
    rw[fb hb];exact hk b ds hb z'
end
noncomputable def tl6{d:Int}(T:Bo d)(i:Int)(q:Nat):PyData:=.tuple [dN T.x.v,dN T.y.v,dN T.w.v,dN T.h.v,.int i,.bool (q % 2==1)]
noncomputable def i4:DSp:=fun ds U Q=>∃(d:Int) (ks:List N3) (t:PyData) (x a b:RN d) (T:Bo d) (i:Int) (q':Nat),ds=[.v (.int d),.v (.tuple (ks.map dN)),.v t,.v (dN a.v),.v (dN b.v)]/\av d/\KindsOk d ks/\Sh t/\okN (cnt (ks.length:Nat) 12 t)=true/\SP d ks 13 t x.v/\ps x/\Bd 4300 x.v /\
 Go d ks 13 0 t x (fl x) T i q'/\In T a b/\Bd 10000000 a.v/\Bd 10000000 b.v/\∀O,(∀b ds,U b=some ds->O b=some ds)->Q (.v (tl6 T i q')) O
theorem C3{ds:List D}{U:Mu}{Q:DK}(h:i4 ds U Q):ds.length=5:=by obtain⟨_,_,_,_,_,_,_,_,_,rfl,_⟩:=h;rfl
noncomputable def rW:DTS:=
 (aC (oS (aq kG (ab (ae 0) (ab (ae 1) ao))))
 (aC (oS (aq ny (ab (ae 2) (ab (dCB cL (ab (ae 1) ao)) ao))))
 (aC (aR (aq (iC 13) (ab (ae 0) (ab (ae 1) (ab (ae 2) ao)))) (ak 5))
 (aC (oS (aq nq (ab (ae 0) (ab (ae 5) (ab (ae 3) (ab (ae 4) ao))))))
 (aC (aR (cS (ab (dC (.tuple [.int 0,.int 0,.int 1])) (ab (dC (.tuple [.int 0,.int 0,.int 1])) (ab (dC (.tuple [.int 1,.int 0,.int 1])) (ab (ae 5) ao))))) (ak 6))
 (aC (aR (dC (.int 0)) (ak 7))
 (aC (tE (dB (dOp (bV true) (dOp ax (ae 2) (dC (.int 0))) (dC (.str "kind")))) (bQ (dB (dOp (bV false) (dOp ax (ae 2) (dC (.int 0))) (dC (.str "turn")))) (aC (aR (aq DX (ab (ae 7) ao)) (ak 7))
 (aR (dOp ax (ae 2) (dC (.int 1))) (ak 2))) (bQ (dB (dOp (bV false) (dOp ax (ae 2) (dC (.int 0))) (dC (.str "grid")))) (aC (aR (aq tQ (ab (ae 0) (ab (ae 2) (ab (ae 7) (ab (ae 6) (ab (ae 3) (ab (ae 4) ao))))))) (ak 6))
 (aR (dOp ax (ae 2) (dC (.int 3))) (ak 2))) (aR (aq vk (ab (ae 0) (ab (ae 1) (ab (ae 2) (ab (ae 7) (ab (ae 6) (ab (ae 3) (ab (ae 4) ao)))))))) (gO 2 (bh (ak 2) (bh (ak 6) hR)))))))
 (aT (dOp wH (ae 6) (cS (ab (dOp ax (ae 2) (dC (.int 1))) (ab (dOp (bV false) (pG (ae 7) (dC (.int 2))) (dC (.int 1))) ao))))))))))))
section
variable {U:Mu}{Qd:DK}{ds:List D}
theorem b01{d:Int}:Bd 1 (1:RN d).v/\Bd 1 (0:RN d).v:=⟨⟨Sz.of (by show (1:Int).natAbs<2;decide),Sz.of (by show (0:Int).natAbs<2;decide),Sz.of (by show (1:Int).natAbs<2;decide)⟩,⟨Sz.of (by show (0:Int).natAbs<2;decide),Sz.of (by show (0:Int).natAbs<2;decide),Sz.of (by show (1:Int).natAbs<2;decide)⟩⟩
theorem Hy{d:Int}{x:RN d}(h:Bd 4300 x.v):Bw (bS 0) (bP 0) (fl x):=⟨b01.2.mono ⋯,b01.2.mono ⋯,b01.1.mono ⋯,h.mono ⋯⟩
theorem Ry(q:Nat):decide (((q % 4:Nat):Int).fmod 2=1)=(q % 2==1):=by
 rw[Int.fmod_eq_emod_of_nonneg _ ⋯]
 rcases (by omega:q % 2=0\/q % 2=1) with e|e
 ·rw[show (((q % 4:Nat):Int) % 2)=0 by omega,e];rfl
 ·rw[show (((q % 4:Nat):Int) % 2)=1 by omega,e];rfl
theorem GA(h:i4 ds U Qd):rW ‹Qd› (aG ["d","kinds","plan","x","y","shape","box","quarters"] ds) U:=by
 obtain⟨d,ks,t,x,a,b,T,i,q',rfl,hd,hk,hs,ho,sp,px,bx,g,hi,ba,bb,qd⟩:=h
 have inF:=g.sub hd (lz x px) hi
 unfold rW
 walk_at "rb"
 refine⟨d,ks,rfl,hd,hk.l1,hk.l3,hk.ok,?_⟩
 walk_at "rb"
 rw[length_map]
 refine⟨t,_,rfl,hs,ho,fun ac k1=>?_⟩
 walk_at "rb"
 refine⟨d,ks,false,t,x.v,rfl,hd,hs,sp,fun ad k2=>?_⟩
 walk_at "rb"
 refine⟨d,x,a,b,rfl,hd,bx.mono ⋯,ba,bb,inF,?_⟩
 walk_at "rb"
 rw[HR]
 walk_at "rb"
 refine⟨fun m ρ O=>∃(n k q:Nat) (t:PyData) (x:RN d) (B:Bo d) (r:Option D),ρ=[some (.v (.int d)),some (.v (.tuple (ks.map dN))),some (.v t),some (.v (dN a.v)),some (.v (dN b.v)),r,some (.v (bo B)),some (.v (.int (q % 4:Nat)))]/\Sh t/\Go d ks n q t x B T i q'/\Rat q x B/\n+k<=13/\Bw (bS k) (bP k) B/\m=n/\∀b ds,U b=some ds->O b=some ds,⟨13,13,0,0,t,x,fl x,_,rfl,hs,g,lz x px,⋯,Hy bx,rfl,fun b ds e=>k2 b ds (k1 b ds e)⟩,?_⟩
 rintro m ρ ap ⟨n,k,q,t,x,B,r,rfl,hs,g,rt,hn,bw,rfl,k3⟩
 have bw':Bw 70000 8000000 B:=bw.mono (by unfold bS;omega) (by unfold bP;omega)
 have inB:=g.sub hd rt hi
 have lt:∀{c:Nat},c<c+1:=fun {c}=>Nat.lt_succ_self c
 cases g with
 |@kind n q B i0 k0 h0 h1 h2 h3=>
  walk_at "rb"
  simp only[bj js js,Kr,true_xor,Bool.not_true]
  unfold bo
  walk_at "rb"
  rw[if_neg id,Ry]
  exact⟨⋯,⋯,qd ap k3⟩
 |@turn n q q' t x B T i h1 h2 h3 g=>
  walk_at "rb"
  simp only[bj jt js,GL,true_xor,Bool.not_false]
  walk_at "rb"
  simp only[bj jt jt,GC,false_xor]
  walk_at "rb"
  rw[if_pos trivial]
  refine⟨q,rfl,?_⟩
  walk_at "rb"
  exact⟨n,lt,n,k,q+1,t,x,B,r,rfl,hs.mem t (by simp),g,lX hd h2 rt,∅,bw,rfl,k3⟩
 |@grid n q q' t x B T i u v c r' h1 h2 h3 h4 h5 h6 h7 h8 h9 h10 h11 g=>
  walk_at "rb"
  simp only[bj g9 js,Mq,true_xor,Bool.not_false]
  walk_at "rb"
  simp only[bj g9 jt,L6,false_xor]
  walk_at "rb"
  simp only[bj g9 g9,Ex,false_xor]
  walk_at "rb"
  rw[if_pos trivial]
  refine⟨d,u,v,t,q,B,a,b,c,r',rfl,hd,⟨h1,h2,h3,h4⟩,bw',rt.w,rt.h,ba,bb,h8,h9,h10,h11,g.sub hd (gq hd c r' h1 h2 rt) hi,?_⟩
  walk_at "rb"
  exact⟨n,lt,n,k+1,q,t,x,_,r,rfl,hs.mem t (by simp),g,gq hd c r' h1 h2 rt,∅,(HD hd h1 h2 h3 h4 h8 h9 h10 h11 bw).mono (by unfold bS;omega) (by unfold bS bP;omega),rfl,k3⟩
 |@strip n q q' B T B' i up es j e h1 h2 h3 h4 h5 h6 g=>
  have hp':∀e∈es,ps e.2:=fun e he=>(h3 e he).2.1
  have shs:∀e∈es,Sh e.1:=fun e he=>(hs.mem (.tuple (es.map (·.1))) (by simp)).mem e.1 (mem_map_of_mem he)
  have st:StP d ks up es:=⟨h1,h2,fun e he=>⟨shs e he,(h3 e he).1.up ∅,(h3 e he).2.1,(h3 e he).2.2⟩,h4⟩
  have rt':=fU hd rt.w rt.h hp' h5 h6
  have inB':=g.sub hd rt' hi
  have bw2:Bw (bS (k+1)) (bP (k+1)) B':=(vT hd bw h4 (by unfold bZ;rw[length_map];exact h2) _ (mem_of_getElem? h6)).mono (by unfold bS;omega) (by unfold bS bP;omega)
  cases up
  ·rw[show wd false = "beside" from rfl]
   walk_at "rb"
   simp only[bj uS js,LR,true_xor,Bool.not_false]
   walk_at "rb"
   simp only[bj uS jt,MH,false_xor]
   walk_at "rb"
   simp only[bj uS g9,M1,false_xor]
   walk_at "rb"
   rw[if_pos trivial]
   refine⟨d,ks,false,es,q,B,B',a,b,j,e,rfl,hd,st,bw',rt.w,rt.h,ba,bb,h5,h6,inB',fun bn k4=>?_⟩
   walk_at "rb"
   exact⟨trivial,n,lt,n,k+1,q,e.1,e.2,B',r,rfl,shs e (mem_of_getElem? h5),g,rt',∅,bw2,rfl,fun b ds z=>k4 b ds (k3 b ds z)⟩
  ·rw[show wd true = "upon" from rfl]
   walk_at "rb"
   simp only[bj mf js,MF,true_xor,Bool.not_false]
   walk_at "rb"
   simp only[bj mf jt,Nr,false_xor]
   walk_at "rb"
   simp only[bj mf g9,Nu,false_xor]
   walk_at "rb"
   rw[if_pos trivial]
   refine⟨d,ks,true,es,q,B,B',a,b,j,e,rfl,hd,st,bw',rt.w,rt.h,ba,bb,h5,h6,inB',fun bn k4=>?_⟩
   walk_at "rb"
   exact⟨trivial,n,lt,n,k+1,q,e.1,e.2,B',r,rfl,shs e (mem_of_getElem? h5),g,rt',∅,bw2,rfl,fun b ds z=>k4 b ds (k3 b ds z)⟩
end
noncomputable def jR:DSp:=fun ds U Q=>∃(a:Addr) (d:Int) (x:RN d),ds=[.m a,.v (.int d),.v (dN x.v)]/\av d/\Bd 70000 x.v/\Bag U a/\∀(p:RN d) O,Bd 20 p.v->nn p->ps (1-p)->Step a U O->Q (.v (dN (x*p).v)) O
theorem Du{ds:List D}{U:Mu}{Q:DK}(h:jR ds U Q):ds.length=3:=by obtain⟨_,_,_,rfl,_⟩:=h;rfl
noncomputable def ji:DTS:=
 (aC (aR (dOp ax (g8 (ab (dC (.int 2)) (ab (dC (.int 3)) (ab (dC (.int 7)) (ab (dC (.int 60)) (ab (Gp (dC (.int 10)) (dC (.int 6))) ao)))))) (aq b4 (ab (ae 0) (ab (dC (.int 5)) ao)))) (ak 3))
 (aT (aq dw (ab (ae 1) (ab (ae 2) (ab (aq cD (ab (aq b4 (ab (ae 0) (ab (ae 3) ao))) (ab (dC (.int 0)) (ab (ae 3) ao)))) ao))))))
section
variable {U:Mu}{Qd:DK}{ds:List D}
theorem KC{a b c e f g:PyData}:atI [a,b,c,e,f,g] 4=some f:=jv (j:=4) rfl
theorem Rr{a b c e f g:PyData}:atI [a,b,c,e,f,g] 5=some g:=jv (j:=5) rfl
theorem Sf{a b c e f g:PyData}:y9 [a,b,c,e,f,g] none (some 4)=[a,b,c,e]:=rfl
theorem four{d:Int}{T:Bo d}(bw:Bw 70000 8000000 T)(t:PyData)(ht:t∈[dN T.x.v,dN T.y.v,dN T.w.v,dN T.h.v]):∃s:RN d,t=dN s.v/\Bd 8000000 s.v:=by
 simp only[mem_cons,not_mem_nil,or_false] at ht
 rcases ht with e|e|e|e
 ·exact⟨T.x,e,bw.x⟩
 ·exact⟨T.y,e,bw.y⟩
 ·exact⟨T.w,e,bw.w.mono ⋯⟩
 ·exact⟨T.h,e,bw.h.mono ⋯⟩
theorem xI(h:jR ds U Qd):ji ‹Qd› (aG ["_law_bag_here","_law_d","_law_x","_law_wide"] ds) U:=by
 obtain⟨a,d,x,rfl,hd,bx,hb,q⟩:=h
 unfold ji
 walk_at "rb"
 refine⟨⟨⋯,⋯,⋯⟩,a,5,rfl,⋯,⋯,hb,fun r ac r0 r1 s1=>?_⟩
 walk_at "rb"
 obtain⟨_,e,w,rfl,w1,w2⟩:=pick (P:=fun v=>∃w:Int,v = .int w/\2<=w/\w<=1000000) (xs:=[.int 2,.int 3,.int 7,.int 60,.int (10 ^ Int.toNat 6)]) r0 (by exact r1) (by
  refine zG ?_ <| zG ?_ <| zG ?_ <| zG ?_ <| zG ?_ <| NU
  ·exact⟨_,rfl,⋯,⋯⟩
  ·exact⟨_,rfl,⋯,⋯⟩
  ·exact⟨_,rfl,⋯,⋯⟩
  ·exact⟨_,rfl,⋯,⋯⟩
  ·exact⟨_,rfl,nofun,nofun⟩)
 rw[e]
 walk_at "rb"
 refine⟨a,w,rfl,∅,∅,s1.1,fun t ad t0 t1 s2=>?_⟩
 have wn:w≠0:=by omega
 have pw:=cm (d:=d) (n:=w) ∅
 have zz:∀{i:Int},0<=i->i<=1000000->Sz 20 i:=fun h1 h2=>Sz.of (by show _<1048576;omega)
 refine⟨t,0,w,rfl,wn,(zz ∅ w2).mono ⋯,?_⟩
 have bp:Bd 20 (low t 0 w):=jg wn (zz t0 ∅) sz0 (zz ∅ w2)
 rw[Et hd ∅] at bp ⊢
 refine⟨d,x.v,_,rfl,l5 hd.1 hd.2.1,x.ok,RN.ok _,bx.mono ⋯,bp.mono ⋯,q _ ad bp ?_ ?_ (s1.trans s2)⟩
 ·exact jj hd (tR hd t0) (fE hd (fH hd pw))
 ·have k:=dH hd (cm (d:=d) (n:=w-t) ∅) (fH hd pw)
  have i:=inv_mul hd pw
  rw[zK] at k
  generalize inv (w:RN d)=iw at *
  generalize (w:RN d)=w' at *
  rwa [show (w'-(t:RN d))*iw=1-(t:RN d)*iw by grind] at k
end
section
variable {d:Int}{ks:List N3}
theorem Dc(l:List (RN d)):(cE l).v=sr (l.map (·.v)):=by
 have key:∀(l:List (RN d)) (a:RN d),(l.foldl (· + ·) a).v=(l.map (·.v)).foldl plus a.v:=fun l=>by
  induction l with
  |nil=>exact fun a=>rfl
  |cons z l ih=>exact fun a=>ih (a+z)
 exact key l 0
theorem Iq{es:List (PyData×N3)}(h:∀e∈es,∃X:RN d,X.v=e.2/\ps X):∃es':List (PyData×RN d),(es'.map fun e=>(e.1,e.2.v))=es/\∀e∈es',ps e.2:=by
 induction es with
 |nil=>exact⟨[],rfl,fun _ z=>nomatch z⟩
 |cons e r ih=>
  obtain⟨X,h1,h2⟩:=h e (by simp)
  obtain⟨r',h3,h4⟩:=ih fun y hy=>h y (by simp[hy])
  refine⟨(e.1,X)::r',by rw[map_cons,h3,h1],fun y hy=>?_⟩
  rcases List.mem_cons.mp hy with z|z
  ·rw[z];exact h2
  ·exact h4 y z
inductive Vw(d:Int)(ks:List N3)(n:Nat):PyData->RN d->Prop
 |kind (i:Int) (k:RN d):0<=i->i<(ks.length:Nat)->ks[i.toNat]? = some k.v->ps k->Vw d ks n (.tuple [.str "kind",.int i]) k
 |turn (t:PyData) (x:RN d):SP d ks n t x.v->ps x->Bd 4300 x.v->Vw d ks n (.tuple [.str "turn",t]) (inv x)
 |grid (t:PyData) (x:RN d) (u v:Int):1<=u->1<=v->u<=1000000->v<=1000000->SP d ks n t x.v->ps x->Bd 4300 x.v->Vw d ks n (.tuple [.str "grid",.int u,.int v,t]) (x*((v:RN d)*inv (u:RN d)))
 |strip (up:Bool) (es:List (PyData×RN d)):2<=es.length->es.length<=8->(∀e∈es,SP d ks n e.1 e.2.v/\ps e.2/\Bd 4300 e.2.v)->(∀z∈bZ up es,Bd 4300 z.v)->(∀j,Bd 4300 (cE ((bZ up es).take j)).v)->Vw d ks n (.tuple [.str (wd up),.tuple (es.map (·.1))]) (whole up es)
theorem KQ(hd:av d){up:Bool}{es:List (PyData×RN d)}(h2:2<=es.length)(hp:∀e∈es,ps e.2):ps (whole up es):=by
 have s:=Ea hd (mr hd (up:=up) hp) (by unfold bZ;intro z;rw[List.map_eq_nil_iff] at z;rw[z] at h2;simp at h2)
 unfold whole
 cases up
 ·exact fH hd s
 ·exact s
theorem Vw.pos(hd:av d){n:Nat}{t:PyData}{X:RN d}(h:Vw d ks n t X):ps X:=by
 cases h with
 |kind i _ _ _ _ h=>exact h
 |turn t x _ h _=>exact fH hd h
 |grid t x u v hu hv _ _ _ h _=>exact dH hd h (dH hd (cm ∅) (fH hd (cm ∅)))
 |strip up es h2 _ h3 _ _=>exact KQ hd h2 fun e he=>(h3 e he).2.1
theorem SP.vw(hd:av d)(hk:∀k∈ks,Ok k/\sg d k.a k.b=1){n:Nat}{t:PyData}{x:N3}(h:SP d ks n t x):∃m,n=m+1/\∃X:RN d,X.v=x/\Vw d ks m t X:=by
 induction h with
 |@kind n i k h0 h1 h2=>
  obtain⟨ok,sk⟩:=hk k (mem_of_getElem? h2)
  exact⟨n,rfl,⟨k,ok⟩,rfl,.kind i ⟨k,ok⟩ h0 h1 h2 sk⟩
 |@turn n t x h1 g ih=>
  obtain⟨m,rfl,X,e,w⟩:=ih
  subst e
  exact⟨m+1,rfl,inv X,qU hd (w.pos hd),.turn t X h1 (w.pos hd) g.2.2⟩
 |@grid n t x u v hu hv hu' hv' h1 ox bx ih=>
  obtain⟨m,rfl,X,e,w⟩:=ih
  subst e
  refine⟨m+1,rfl,X*((v:RN d)*inv (u:RN d)),?_,.grid t X u v hu hv hu' hv' h1 (w.pos hd) bx⟩
  rw[Et hd ∅];rfl
 |@rZ n es h2 h8 h1 ss ih=>
  obtain⟨es',e,hp⟩:=Iq (d:=d) fun e he=>let ⟨m,_,X,h,w⟩:=ih e he;⟨X,h,w.pos hd⟩
  subst e
  have e1:(es'.map fun e=>(e.1,e.2.v)).map (·.2)=(bZ true es').map (·.v):=by unfold bZ;rw[map_map,map_map];rfl
  have e2:(es'.map fun e=>(e.1,e.2.v)).map (·.1)=es'.map (·.1):=by rw[map_map];rfl
  rw[e1] at ss ⊢
  rw[e2]
  refine⟨n,rfl,whole true es',Dc _,.strip true es' (by simpa using h2) (by simpa using h8) (fun e he=>⟨h1 _ (mem_map_of_mem he),hp e he,?_⟩) (fun z hz=>(ss.1 _ (mem_map_of_mem hz)).2) fun j=>?_⟩
  ·exact (ss.1 e.2.v (mem_map_of_mem (by unfold bZ;exact List.mem_map.mpr ⟨e,he,rfl⟩))).2
  ·rw[Dc,List.map_take];exact ss.2 j
 |@fY n es h2 h8 h1 hg ss g ih=>
  obtain⟨es',e,hp⟩:=Iq (d:=d) fun e he=>let ⟨m,_,X,h,w⟩:=ih e he;⟨X,h,w.pos hd⟩
  subst e
  have e1:((es'.map fun e=>(e.1,e.2.v)).map (·.2)).map (aS d)=(bZ false es').map (·.v):=by
   unfold bZ
   rw[map_map,map_map,map_map]
   exact List.map_congr_left fun e he=>(qU hd (hp e he)).symm
  have e2:(es'.map fun e=>(e.1,e.2.v)).map (·.1)=es'.map (·.1):=by rw[map_map];rfl
  rw[e1] at ss g ⊢
  rw[e2]
  have ne:bZ false es'≠[]:=by unfold bZ;intro z;rw[List.map_eq_nil_iff] at z;rw[z] at h2;simp at h2
  have sp:=Ea hd (mr hd (up:=false) hp) ne
  refine⟨n,rfl,whole false es',?_,.strip false es' (by simpa using h2) (by simpa using h8) (fun e he=>⟨h1 _ (mem_map_of_mem he),hp e he,(hg _ (mem_map_of_mem he)).2.2⟩) (fun z hz=>(ss.1 _ (mem_map_of_mem hz)).2) fun j=>?_⟩
  ·show (inv (cE (bZ false es'))).v=_
   rw[qU hd sp,Dc]
  ·rw[Dc,List.map_take];exact ss.2 j
end
noncomputable def KsP(d:Int)(ks:List N3):Prop:=∀k∈ks,Ok k/\sg d k.a k.b=1
noncomputable def ya:DSp:=fun ds U Q=>∃(a:Addr) (m:Int),ds=[.m a,.v (.int m)]/\1<=m/\m<=3/\Bag U a/\∀d c t O,IsP m d c t->d<=12->c<=60->hJ a U O->Q (.v t) O
theorem E5{U:Mu}{Q:DK}{ds:List D}(h:ya ds U Q):ds.length=2:=by obtain⟨_,_,rfl,_⟩:=h;rfl
section
variable {U:Mu}{Qd:DK}{ds:List D}
theorem J4{x:PyData}(h:SeqAt.shaped x=true):x.eqv x=true:=SeqAt.eqv_refl _ (SeqAt.canLay_of_shaped h)
theorem wj{m:Int}{n:Nat}{t:PyData}{ps:List PyData}(hf:iJ m t=some ps)(h:0<cnt m (n+1) t):∀p∈ps,0<cnt m n p:=by
 rw[mj hf] at h
 split at h
 ·rename_i z
  intro p hp
  exact of_decide_eq_true (List.all_eq_true.mp z _ (mem_map_of_mem hp))
 ·omega
theorem Kz{m:Int}{k:Nat}(es:List (Nat×Nat×PyData))(h:∀e∈es,∃d',d'<=k/\IsP m d' e.2.1 e.2.2):∃es':List (Nat×Nat×PyData),es'.map (·.2)=es.map (·.2)/\(∀e∈es',e.1<=k)/\∀e∈es',IsP m e.1 e.2.1 e.2.2:=by
 induction es with
 |nil=>exact⟨[],rfl,fun _ z=>(nomatch z),fun _ z=>(nomatch z)⟩
 |cons e r ih=>
  obtain⟨d',h1,h2⟩:=h e (by simp)
  obtain⟨r',h3,h4,h5⟩:=ih fun y hy=>h y (by simp[hy])
  refine⟨(d',e.2)::r',by rw[map_cons,map_cons,h3],fun y hy=>?_,fun y hy=>?_⟩
  ·rcases List.mem_cons.mp hy with z|z
   ·rw[z];exact h1
   ·exact h4 y z
  ·rcases List.mem_cons.mp hy with z|z
   ·rw[z];exact h2
   ·exact h5 y z
theorem MM{m:Int}{d c:Nat}{t:PyData}(h:IsP m d c t):∀n,0<cnt m n t->∃d',d'<=n/\IsP m d' c t:=by
 have pos:∀{n:Nat} {t:PyData},0<cnt m n t->∃k,n=k+1:=fun {n t} z=>by
  cases n with
  |zero=>exact absurd z (by unfold cnt;omega)
  |succ k=>exact⟨k,rfl⟩
 have many:∀{k:Nat} {w:Str} {es:List (Nat×Nat×PyData)},(w = "upon"\/w = "beside")->2<=es.length->es.length<=8->(∀e∈es,∀n,0<cnt m n e.2.2->∃d',d'<=n/\IsP m d' e.2.1 e.2.2)->0<cnt m (k+1) (.tuple [.str w,.tuple (es.map (·.2.2))]) ->
   ∃es':List (Nat×Nat×PyData),es'.map (·.2)=es.map (·.2)/\(∀e∈es',e.1<=k)/\∀e∈es',IsP m e.1 e.2.1 e.2.2:=fun {k w es} hw h2 h8 ih hn=>by
  have pp:=wj (lI hw (by simpa using h2) (by simpa using h8)) hn
  exact Kz es fun e he=>ih e he k (pp _ (mem_map_of_mem he))
 induction h with
 |kind i h0 h1=>intro n hn;obtain⟨k,rfl⟩:=pos hn;exact⟨1,∅,.kind i h0 h1⟩
 |@turn d c t hh ih=>
  intro n hn
  obtain⟨k,rfl⟩:=pos hn
  have hf:iJ m (.tuple [.str "turn",t])=some [t]:=by
   show di m (.str "turn") t=_
   unfold di
   rw[if_neg (by rw[GL];decide),if_pos GC]
  obtain⟨d',h1,h2⟩:=ih k (wj hf hn t (by simp))
  exact⟨d'+1,∅,.turn h2⟩
 |@grid d c t u v hu hv hu' hv' hh ih=>
  intro n hn
  obtain⟨k,rfl⟩:=pos hn
  have hf:iJ m (.tuple [.str "grid",.int u,.int v,t])=some [t]:=by
   show kH (.str "grid") (.int u) (.int v) t=_
   unfold kH
   rw[if_pos Ex,if_pos]
   show ((true&&decide (1<=u))&&(true&&decide (1<=v)))=true
   rw[decide_eq_true hu,decide_eq_true hv];rfl
  obtain⟨d',h1,h2⟩:=ih k (wj hf hn t (by simp))
  exact⟨d'+1,∅,.grid u v hu hv hu' hv' h2⟩
 |rZ es h2 h8 hd hh ih=>
  intro n hn
  obtain⟨k,rfl⟩:=pos hn
  obtain⟨es',e1,e2,e3⟩:=many (.inl rfl) h2 h8 ih hn
  have a1:es'.map (·.2.2)=es.map (·.2.2):=by have:=congrArg (List.map (·.2)) e1;rwa [map_map,map_map] at this
  have a2:es'.map (·.2.1)=es.map (·.2.1):=by have:=congrArg (List.map (·.1)) e1;rwa [map_map,map_map] at this
  have a3:es'.length=es.length:=by have:=congrArg List.length e1;rwa [length_map,length_map] at this
  have:=IsP.rZ (m:=m) es' ∅ ∅ e2 e3
  rw[a1,a2] at this
  exact⟨k+1,∅,this⟩
 |fY es h2 h8 hd hh ih=>
  intro n hn
  obtain⟨k,rfl⟩:=pos hn
  obtain⟨es',e1,e2,e3⟩:=many (.inr rfl) h2 h8 ih hn
  have a1:es'.map (·.2.2)=es.map (·.2.2):=by have:=congrArg (List.map (·.2)) e1;rwa [map_map,map_map] at this
  have a2:es'.map (·.2.1)=es.map (·.2.1):=by have:=congrArg (List.map (·.1)) e1;rwa [map_map,map_map] at this
  have a3:es'.length=es.length:=by have:=congrArg List.length e1;rwa [length_map,length_map] at this
  have:=IsP.fY (m:=m) es' ∅ ∅ e2 e3
  rw[a1,a2] at this
  exact⟨k+1,∅,this⟩
end
section
variable {d:Int}{ks:List N3}
theorem GU(hd:av d){a X W:RN d}(h0:nn (a-X)):∀n:Nat,ps (X+((n:Int):RN d)*W-a)->∃c:Int,0<=c/\c<n/\nn (a-(X+(c:RN d)*W))/\ps (X+(c:RN d)*W+W-a)
 |0,h=>absurd h0 (by
   have e:-(a-X)=X+(((0:Nat):Int):RN d)*W-a:=by rw[show (((0:Nat):Int):RN d)=0 from rfl];grind
   intro z;apply z;rw[e];exact h)
 |n+1,h=>by
  rcases Classical.em (ps (X+((n:Int):RN d)*W-a)) with z|z
  ·obtain⟨c,h1,h2,h3⟩:=GU hd h0 n z
   exact⟨c,h1,∅,h3⟩
  ·refine⟨n,∅,∅,?_,?_⟩
   ·intro y;apply z;rwa [show -(a-(X+((n:Int):RN d)*W))=X+((n:Int):RN d)*W-a by grind] at y
   ·rw[show ((n+1:Nat):Int)=(n:Int)+1 by omega,E7,GI] at h
    rwa [show X+(((n:Int):RN d)+1)*W-a=X+((n:Int):RN d)*W+W-a by grind] at h
theorem Ma(hd:av d){q:Nat}{B:Bo d}{u v:Int}(hu:1<=u)(hv:1<=v){a b:RN d}(g:In B a b):∃c r,0<=c/\c<bJ q u v/\0<=r/\r<bJ q v u/\In (lV q u v B c r) a b:=by
 have p1:=eE (q:=q) hu hv
 have p2:=eE (q:=q) hv hu
 have i1:=inv_mul hd (cm (d:=d) p1)
 have i2:=inv_mul hd (cm (d:=d) p2)
 have e1:((bJ q u v).toNat:Int)=bJ q u v:=by omega
 have e2:((bJ q v u).toNat:Int)=bJ q v u:=by omega
 obtain⟨c,c0,c1,k1,k2⟩:=GU hd (W:=B.w*inv (bJ q u v:RN d)) g.x0 (bJ q u v).toNat (by
  have:=g.x1
  rw[e1]
  generalize inv (bJ q u v:RN d)=iu at *
  generalize (bJ q u v:RN d)=u' at *
  rwa [show B.x+u'*(B.w*iu)-a=B.x+B.w-a by grind])
 obtain⟨r,r0,r1,k3,k4⟩:=GU hd (W:=B.h*inv (bJ q v u:RN d)) g.y0 (bJ q v u).toNat (by
  have:=g.y1
  rw[e2]
  generalize inv (bJ q v u:RN d)=iu at *
  generalize (bJ q v u:RN d)=u' at *
  rwa [show B.y+u'*(B.h*iu)-b=B.y+B.h-b by grind])
 exact⟨c,r,c0,∅,r0,∅,k1,k2,k3,k4⟩
theorem EO(hd:av d){x w a b:RN d}(x0:nn (a-x))(x1:ps (x+w-a)):∀{zs:List (RN d)} {s:RN d},nn (b-s)->ps (s+cE zs*w-b)->∃(j:Nat) (C:Bo d),(oq x w s zs)[j]? = some C/\In C a b
 |[],s,h0,h1=>absurd h0 (fun z=>z (by rw[mv] at h1;rwa [show s+0*w-b = -(b-s) by grind] at h1))
 |z::l,s,h0,h1=>by
  rcases Classical.em (ps (s+z*w-b)) with y|y
  ·exact⟨0,_,rfl,x0,x1,h0,y⟩
  ·have h0':nn (b-(s+z*w)):=fun k=>y (by rwa [show -(b-(s+z*w))=s+z*w-b by grind] at k)
   have h1':ps (s+z*w+cE l*w-b):=by rw[df] at h1;rwa [show s+(z+cE l)*w-b=s+z*w+cE l*w-b by grind] at h1
   obtain⟨j,C,e,g⟩:=EO hd x0 x1 h0' h1'
   exact⟨j+1,C,by rw[oq,getElem?_cons_succ];exact e,g⟩
theorem Ft(hd:av d){x w a b:RN d}(x0:nn (a-x))(x1:ps (x+w-a)):∀{zs:List (RN d)} {s:RN d},ps (s-b)->nn (b-(s-cE zs*w))->∃(j:Nat) (C:Bo d),(oo x w s zs)[j]? = some C/\In C a b
 |[],s,h0,h1=>absurd h1 (fun z=>z (by rw[mv];rwa [show -(b-(s-0*w))=s-b by grind]))
 |z::l,s,h0,h1=>by
  rcases Classical.em (ps (s-z*w-b)) with y|y
  ·have h1':nn (b-(s-z*w-cE l*w)):=by rw[df] at h1;rwa [show s-(z+cE l)*w=s-z*w-cE l*w by grind] at h1
   obtain⟨j,C,e,g⟩:=Ft hd x0 x1 y h1'
   exact⟨j+1,C,by rw[oo,getElem?_cons_succ];exact e,g⟩
  ·refine⟨0,_,rfl,x0,x1,?_,?_⟩
   ·intro k;apply y;rwa [show -(b-(s-z*w))=s-z*w-b by grind] at k
   ·show ps (s-z*w+z*w-b);rwa [show s-z*w+z*w-b=s-b by grind]
theorem IL(hd:av d){bk:Bool}{B:Bo d}{zs:List (RN d)}(ht:B.h=cE zs*B.w){a b:RN d}(g:In B a b):∃(j:Nat) (C:Bo d),(rise bk B zs)[j]? = some C/\In C a b:=by
 have g1:=g.y0
 have g2:=g.y1
 rw[ht] at g2
 unfold rise
 cases bk
 ·exact EO hd g.x0 g.x1 g1 g2
 ·refine Ft hd g.x0 g.x1 (by rw[ht];exact g2) ?_
  rw[ht];rwa [show B.y+cE zs*B.w-cE zs*B.w=B.y by grind]
theorem JP(hd:av d){q:Nat}{up:Bool}{es:List (PyData×RN d)}{B:Bo d}(r:Rat q (whole up es) B)(hp:∀e∈es,ps e.2)(hn:es≠[]){a b:RN d}(g:In B a b):∃(j:Nat) (C:Bo d),(cO q up B (bZ up es))[j]? = some C/\In C a b:=by
 obtain⟨t1,t2⟩:=HF hd r (Ea hd (mr hd (up:=up) hp) (by unfold bZ;simpa using hn))
 unfold cO
 cases hv:wm q up
 ·rw[if_neg ⋯]
  obtain⟨j,C,e,k⟩:=IL hd (bk:=bck q up) (B:=swp B) (t2 hv) g.swp
  exact⟨j,swp C,by rw[getElem?_map,e];rfl,k.swp⟩
 ·rw[if_pos rfl];exact IL hd (t1 hv) g
theorem Go.ex(hd:av d)(hk:∀k∈ks,Ok k/\sg d k.a k.b=1){a b:RN d}:∀(n:Nat) {q:Nat} {t:PyData} {x:RN d} {B:Bo d},SP d ks n t x.v->Rat q x B->In B a b->∃T i q',Go d ks n q t x B T i q'/\In T a b:=by
 intro n
 induction n with
 |zero=>intro q t x B sp;obtain⟨m,e,_⟩:=SP.vw hd hk sp;exact absurd e ∅
 |succ n ih=>
  intro q t x B sp r g
  obtain⟨m,em,X,eX,vw⟩:=SP.vw hd hk sp
  obtain rfl:m=n:=by omega
  obtain rfl:X=x:=RN.ext eX
  cases vw with
  |kind i _ h0 h1 h2 h3=>exact⟨B,i,q,.kind i _ h0 h1 h2 h3,g⟩
  |turn t x h1 h2 h3=>
   obtain⟨T,i,q',k1,k2⟩:=ih h1 (lX hd h2 r) g
   exact⟨T,i,q',.turn h1 h2 h3 k1,k2⟩
  |grid t x u v h1 h2 h3 h4 h5 h6 h7=>
   obtain⟨c,r',c0,c1,r0,r1,k⟩:=Ma hd (q:=q) h1 h2 g
   obtain⟨T,i,q',k1,k2⟩:=ih h5 (gq hd c r' h1 h2 r) k
   exact⟨T,i,q',.grid u v c r' h1 h2 h3 h4 h5 h6 h7 c0 c1 r0 r1 k1,k2⟩
  |strip up es h1 h2 h3 h4 h5=>
   have hp:∀e∈es,ps e.2:=fun e he=>(h3 e he).2.1
   obtain⟨j,C,e,k⟩:=JP hd r hp (fun z=>by rw[z] at h1;simp at h1) g
   have hj:j<es.length:=by
    have:=(List.getElem?_eq_some_iff.mp e).1
    rw[tq] at this;unfold bZ at this;rwa [length_map] at this
   have he:=getElem?_eq_getElem hj
   obtain⟨T,i,q',k1,k2⟩:=ih (h3 _ (getElem_mem hj)).1 (fU hd r.w r.h hp he e) k
   exact⟨T,i,q',.strip up es j _ h1 h2 h3 h4 he e k1,k2⟩
end
section
variable {d:Int}{ks:List N3}
theorem JW{up up':Bool}(h:wd up=wd up'):up=up':=by cases up<;>cases up'<;>first|rfl|(exact absurd h ⋯)
noncomputable def tg:PyData->Str
 |.tuple (.str w::_)=>w
 |_=>"kind"
theorem tgE{w w':Str}{a b:List PyData}(h:PyData.tuple (.str w::a) = .tuple (.str w'::b)):w=w':=congrArg tg h
theorem ow{up:Bool}{w:Str}(h:w=wd up)(n1:w ≠ "upon")(n2:w ≠ "beside"):False:=by
 cases up
 ·exact n2 h
 ·exact n1 h
theorem KA{es es':List (PyData×RN d)}(h:es.map (·.1)=es'.map (·.1))(hl:∀(i:Nat) e y,es[i]? = some e->es'[i]? = some (e.1,y)->e.2=y):es=es':=by
 have len:es.length=es'.length:=by have:=congrArg List.length h;rwa [length_map,length_map] at this
 refine List.ext_getElem len fun i h1 h2=>?_
 have e1:(es[i]).1=(es'[i]).1:=by
  have:=congrArg (fun l=>l[i]?) h
  simp only[getElem?_map,getElem?_eq_getElem h1,getElem?_eq_getElem h2,map_some,Option.some.injEq] at this
  exact this
 exact Prod.ext e1 (hl i es[i] (es'[i]).2 (getElem?_eq_getElem h1) (by rw[getElem?_eq_getElem h2,e1]))
theorem SP.fn(hd:av d)(hk:∀k∈ks,Ok k/\sg d k.a k.b=1):∀(n:Nat) {n':Nat} {t:PyData} {x y:RN d},SP d ks n t x.v->SP d ks n' t y.v->x=y:=by
 intro n
 induction n with
 |zero=>intro n' t x y sp;obtain⟨m,e,_⟩:=SP.vw hd hk sp;exact absurd e ∅
 |succ n ih=>
  intro n' t x y sp sp'
  obtain⟨m,em,X,eX,vw⟩:=SP.vw hd hk sp
  obtain rfl:m=n:=by omega
  obtain rfl:X=x:=RN.ext eX
  obtain⟨m',em',ZY,eY,vw'⟩:=SP.vw hd hk sp'
  obtain rfl:ZY=y:=RN.ext eY
  clear sp sp' eX eY
  cases vw with
  |kind i _ h0 h1 h2 h3=>
   generalize ht:PyData.tuple [.str "kind",.int i]=t at vw'
   cases vw' with
   |kind j _ g0 g1 g2 g3=>injection ht with ht;injection ht with _ ht;injection ht with ht;injection ht with ht;subst ht;exact RN.ext (by rw[h2] at g2;exact Option.some.inj g2)
   |turn _ _ _ _ _=>exact absurd (tgE ht) ⋯
   |grid _ _ _ _ _ _ _ _ _ _ _=>exact absurd (tgE ht) ⋯
   |strip up' es' k1 k2 k3 k4 k5=>exact (ow (tgE ht) ⋯ ⋯).elim
  |turn t x h1 h2 h3=>
   generalize ht:PyData.tuple [.str "turn",t]=t' at vw'
   cases vw' with
   |kind j _ g0 g1 g2 g3=>exact absurd (tgE ht) ⋯
   |turn _ y g1 g2 g3=>injection ht with ht;injection ht with _ ht;injection ht with ht;subst ht;rw[ih h1 g1]
   |grid _ _ _ _ _ _ _ _ _ _ _=>exact absurd (tgE ht) ⋯
   |strip up' es' k1 k2 k3 k4 k5=>exact (ow (tgE ht) ⋯ ⋯).elim
  |grid t x u v h1 h2 h3 h4 h5 h6 h7=>
   generalize ht:PyData.tuple [.str "grid",.int u,.int v,t]=t' at vw'
   cases vw' with
   |kind j _ g0 g1 g2 g3=>exact absurd (tgE ht) ⋯
   |turn _ _ _ _ _=>exact absurd (tgE ht) ⋯
   |grid _ y u' v' g1 g2 g3 g4 g5 g6 g7=>
    injection ht with ht;injection ht with _ ht;injection ht with e1 ht;injection ht with e2 ht;injection ht with e3 ht
    injection e1 with e1;injection e2 with e2
    subst e1 e2 e3;rw[ih h5 g5]
   |strip up' es' k1 k2 k3 k4 k5=>exact (ow (tgE ht) ⋯ ⋯).elim
  |strip up es h1 h2 h3 h4 h5=>
   generalize ht:PyData.tuple [.str (wd up),.tuple (es.map (·.1))]=t' at vw'
   cases vw' with
   |kind j _ g0 g1 g2 g3=>exact (ow (tgE ht).symm ⋯ ⋯).elim
   |turn _ _ _ _ _=>exact (ow (tgE ht).symm ⋯ ⋯).elim
   |grid _ _ _ _ _ _ _ _ _ _ _=>exact (ow (tgE ht).symm ⋯ ⋯).elim
   |strip up' es' k1 k2 k3 k4 k5=>
    obtain rfl:=JW (tgE ht)
    injection ht with ht;injection ht with _ ht;injection ht with ht;injection ht with ht
    have:es=es':=KA ht fun i e y he hy=>ih (h3 e (mem_of_getElem? he)).1 (k3 _ (mem_of_getElem? hy)).1
    rw[this]
theorem Li(hd:av d){q:Nat}{B:Bo d}{u v c r c' r':Int}(hu:1<=u)(hv:1<=v)(hw:ps B.w)(hh:ps B.h){a b:RN d}(g:In (lV q u v B c r) a b)(g':In (lV q u v B c' r') a b):c=c'/\r=r':=by
 obtain⟨f1,f2⟩:=sI hd hu hv hw hh g
 obtain⟨f3,f4⟩:=sI hd hu hv hw hh g'
 exact⟨eR.unique hd (RN.ok _) f1 f3,eR.unique hd (RN.ok _) f2 f4⟩
theorem Gu(hd:av d){q:Nat}{up:Bool}{es:List (PyData×RN d)}{B C C':Bo d}{i j:Nat}(hw:ps B.w)(hh:ps B.h)(hp:∀e∈es,ps e.2)(hj:(cO q up B (bZ up es))[j]? = some C)(hi:(cO q up B (bZ up es))[i]? = some C'){a b:RN d}(g:In C a b)(g':In C' a b):i=j:=by
 rcases Nat.lt_trichotomy i j with z|z|z
 ·exact absurd g' (nr hd hw hh hp hj hi z g)
 ·exact z
 ·exact absurd g (nr hd hw hh hp hi hj z g')
theorem Go.one(hd:av d)(hk:∀k∈ks,Ok k/\sg d k.a k.b=1){n q q':Nat}{t:PyData}{x:RN d}{B T:Bo d}{i:Int}(g:Go d ks n q t x B T i q'){a b:RN d}:∀{n2 q2:Nat} {x2:RN d} {T2:Bo d} {i2:Int},Go d ks n2 q t x2 B T2 i2 q2->Rat q x B->In T a b->In T2 a b->T=T2/\i=i2/\q'=q2:=by
 induction g with
 |@kind n q B i k h0 h1 h2 h3=>
  intro n2 q2 x2 T2 i2 g2 r h h'
  generalize ht:PyData.tuple [.str "kind",.int i]=t at g2
  cases g2 with
  |kind j _ g0 g1 g2 g3=>injection ht with ht;injection ht with _ ht;injection ht with ht;injection ht with ht;exact⟨rfl,ht,rfl⟩
  |turn _ _ _ _=>exact absurd (tgE ht) ⋯
  |grid _ _ _ _ _ _ _ _ _ _ _ _ _ _ _ _=>exact absurd (tgE ht) ⋯
  |strip up' es' _ _ _ _ _ _ _ _ _=>exact (ow (tgE ht) ⋯ ⋯).elim
 |@turn n q q' t x B T i h1 h2 h3 g ih=>
  intro n2 q2 x2 T2 i2 g2 r h h'
  generalize ht:PyData.tuple [.str "turn",t]=t' at g2
  cases g2 with
  |kind j _ g0 g1 g2 g3=>exact absurd (tgE ht) ⋯
  |turn k1 k2 k3 k4=>injection ht with ht;injection ht with _ ht;injection ht with ht;subst ht;exact ih k4 (lX hd h2 r) h h'
  |grid _ _ _ _ _ _ _ _ _ _ _ _ _ _ _ _=>exact absurd (tgE ht) ⋯
  |strip up' es' _ _ _ _ _ _ _ _ _=>exact (ow (tgE ht) ⋯ ⋯).elim
 |@grid n q q' t x B T i u v c r h1 h2 h3 h4 h5 h6 h7 h8 h9 h10 h11 g ih=>
  intro n2 q2 x2 T2 i2 g2 rr h h'
  generalize ht:PyData.tuple [.str "grid",.int u,.int v,t]=t' at g2
  cases g2 with
  |kind j _ g0 g1 g2 g3=>exact absurd (tgE ht) ⋯
  |turn _ _ _ _=>exact absurd (tgE ht) ⋯
  |@grid n2 q2 _ t2 y _ _ _ u' v' c' r' k1 k2 k3 k4 k5 k6 k7 k8 k9 k10 k11 k12=>
   injection ht with ht;injection ht with _ ht;injection ht with e1 ht;injection ht with e2 ht;injection ht with e3 ht
   injection e1 with e1;injection e2 with e2
   subst e1 e2 e3
   have ex:=SP.fn hd hk _ h5 k5
   subst ex
   obtain⟨ec,er⟩:=Li hd h1 h2 rr.w rr.h (g.sub hd (gq hd c r h1 h2 rr) h) (k12.sub hd (gq hd c' r' h1 h2 rr) h')
   subst ec er
   exact ih k12 (gq hd c r h1 h2 rr) h h'
  |strip up' es' _ _ _ _ _ _ _ _ _=>exact (ow (tgE ht) ⋯ ⋯).elim
 |@strip n q q' B T B' i up es j e h1 h2 h3 h4 h5 h6 g ih=>
  intro n2 q2 x2 T2 i2 g2 r h h'
  generalize ht:PyData.tuple [.str (wd up),.tuple (es.map (·.1))]=t' at g2
  cases g2 with
  |kind j _ g0 g1 g2 g3=>exact (ow (tgE ht).symm ⋯ ⋯).elim
  |turn _ _ _ _=>exact (ow (tgE ht).symm ⋯ ⋯).elim
  |grid _ _ _ _ _ _ _ _ _ _ _ _ _ _ _ _=>exact (ow (tgE ht).symm ⋯ ⋯).elim
  |strip up' es' j' e' k1 k2 k3 k4 k5 k6 k7=>
   obtain rfl:=JW (tgE ht)
   injection ht with ht;injection ht with _ ht;injection ht with ht;injection ht with ht
   have ee:es=es':=KA ht fun i e y he hy=>SP.fn hd hk _ (h3 e (mem_of_getElem? he)).1 (k3 _ (mem_of_getElem? hy)).1
   subst ee
   have hp:∀e∈es,ps e.2:=fun e he=>(h3 e he).2.1
   have r1:=fU hd r.w r.h hp h5 h6
   have r2:=fU hd r.w r.h hp k5 k6
   obtain rfl:=Gu hd r.w r.h hp h6 k6 (g.sub hd r1 h) (k7.sub hd r2 h')
   rw[h5] at k5
   cases k5
   rw[h6] at k6
   cases k6
   exact ih k7 r1 h h'
end
section
variable {d:Int}{ks:List N3}
theorem Go.kd(hd:av d){n q q':Nat}{t:PyData}{x:RN d}{B T:Bo d}{i:Int}(g:Go d ks n q t x B T i q'):Rat q x B->0<=i/\i<(ks.length:Nat)/\∃k:RN d,ks[i.toNat]? = some k.v/\ps k/\Rat q' k T:=by
 induction g with
 |kind i k h0 h1 h2 h3=>exact fun r=>⟨h0,h1,k,h2,h3,r⟩
 |turn h1 h2 h3 _ ih=>exact fun r=>ih (lX hd h2 r)
 |@grid n q q' t x B T i u v c r h1 h2 h3 h4 h5 h6 h7 h8 h9 h10 h11 _ ih=>exact fun rr=>ih (gq hd c r h1 h2 rr)
 |@strip n q q' B T B' i up es j e h1 h2 h3 h4 h5 h6 _ ih=>exact fun r=>ih (fU hd r.w r.h (fun e he=>(h3 e he).2.1) h5 h6)
theorem J9(hd:av d){a b c:RN d}(h:nn (b-a))(g:ps (c-b)):ps (c-a):=by
 have:=Ah hd g h;rwa [show c-b+(b-a)=c-a by grind] at this
theorem kI{a:RN d}:nn (a-a):=by rw[show a-a=0 by grind];exact LB
theorem DV{a b:RN d}(h:¬ ps (a-b)):nn (b-a):=fun z=>h (by rwa [show -(b-a)=a-b by grind] at z)
theorem Go.within(hd:av d){n q':Nat}{t:PyData}{x:RN d}{T:Bo d}{i:Int}(g:Go d ks n 0 t x (fl x) T i q')(px:ps x):nn T.x/\nn T.y/\nn (1-(T.x+T.w))/\nn (x-(T.y+T.h)):=by
 have r:=lz x px
 obtain⟨pw,ph⟩:=g.tile hd r
 have sub:∀{a b},In T a b->In (fl x) a b:=fun h=>g.sub hd r h
 have c0:In T T.x T.y:=⟨kI,by rwa [show T.x+T.w-T.x=T.w by grind],kI,by rwa [show T.y+T.h-T.y=T.h by grind]⟩
 obtain⟨k1,k2,k3,k4⟩:=sub c0
 have k1':nn (T.x-0):=k1
 have k2':ps (0+1-T.x):=k2
 have k3':nn (T.y-0):=k3
 have k4':ps (0+x-T.y):=k4
 refine⟨by rwa [show T.x-0=T.x by grind] at k1',by rwa [show T.y-0=T.y by grind] at k3',?_,?_⟩
 ·refine DV fun z=>?_
  have:In T 1 T.y:=⟨fE hd (by rwa [show 0+1-T.x=1-T.x by grind] at k2'),z,c0.y0,c0.y1⟩
  have w:ps (0+1-1:RN d):=(sub this).x1
  rw[show (0+1-1:RN d)=0 by grind] at w
  exact Jb w
 ·refine DV fun z=>?_
  have:In T T.x x:=⟨c0.x0,c0.x1,fE hd (by rwa [show 0+x-T.y=x-T.y by grind] at k4'),z⟩
  have w:ps (0+x-x):=(sub this).y1
  rw[show (0+x-x:RN d)=0 by grind] at w
  exact Jb w
theorem Go.fY(hd:av d)(hk:∀k∈ks,Ok k/\sg d k.a k.b=1){n n2 q q' q2:Nat}{t:PyData}{x x2:RN d}{B T T2:Bo d}{i i2:Int}(g:Go d ks n q t x B T i q')(g2:Go d ks n2 q t x2 B T2 i2 q2)(r:Rat q x B){a b:RN d}(h:In T a b)(h2:In T2 (T.x+T.w) b):T2.x=T.x+T.w:=by
 have e0:¬ ps (T.x+T.w-(T.x+T.w)):=by rw[show T.x+T.w-(T.x+T.w)=0 by grind];exact Jb
 rcases qT hd h2.x0 with z|z
 ·grind
 ·exfalso
  obtain⟨pw,_⟩:=g.tile hd r
  have pw':ps (T.x+T.w-T.x):=by rwa [show T.x+T.w-T.x=T.w by grind]
  have key:∀s:RN d,nn (s-T.x)->nn (s-T2.x)->ps (T.x+T.w-s)->False:=fun s s1 s2 s3=>by
   have e:=g.one hd hk g2 r (a:=s) (b:=b) ⟨s1,s3,h.y0,h.y1⟩ ⟨s2,J9 hd (fE hd s3) h2.x1,h2.y0,h2.y1⟩
   have:=h2.x1
   rw[<- e.1] at this
   exact e0 this
  rcases Classical.em (ps (T2.x-T.x)) with y|y
  ·exact key T2.x (fE hd y) kI z
  ·exact key T.x kI (DV y) pw'
theorem Go.rZ(hd:av d)(hk:∀k∈ks,Ok k/\sg d k.a k.b=1){n n2 q q' q2:Nat}{t:PyData}{x x2:RN d}{B T T2:Bo d}{i i2:Int}(g:Go d ks n q t x B T i q')(g2:Go d ks n2 q t x2 B T2 i2 q2)(r:Rat q x B){a b:RN d}(h:In T a b)(h2:In T2 a (T.y+T.h)):T2.y=T.y+T.h:=by
 have e0:¬ ps (T.y+T.h-(T.y+T.h)):=by rw[show T.y+T.h-(T.y+T.h)=0 by grind];exact Jb
 rcases qT hd h2.y0 with z|z
 ·grind
 ·exfalso
  obtain⟨_,ph⟩:=g.tile hd r
  have ph':ps (T.y+T.h-T.y):=by rwa [show T.y+T.h-T.y=T.h by grind]
  have key:∀s:RN d,nn (s-T.y)->nn (s-T2.y)->ps (T.y+T.h-s)->False:=fun s s1 s2 s3=>by
   have e:=g.one hd hk g2 r (a:=a) (b:=s) ⟨h.x0,h.x1,s1,s3⟩ ⟨h2.x0,h2.x1,s2,J9 hd (fE hd s3) h2.y1⟩
   have:=h2.y1
   rw[<- e.1] at this
   exact e0 this
  rcases Classical.em (ps (T2.y-T.y)) with y|y
  ·exact key T2.y (fE hd y) kI z
  ·exact key T.y kI (DV y) ph'
end
noncomputable def mD:DSp:=fun ds U Q=>∃(d:Int) (T:Bo d) (i:Int) (q:Nat) (a b:RN d) (β:Bool),ds=[.v (.int d),.v (tl6 T i q),.v (dN a.v),.v (dN b.v)]/\av d/\Bw 70000 8000000 T/\Bd 10000000 a.v/\Bd 10000000 b.v/\(β=true↔In T a b)/\Q (.v (.bool β)) U
theorem Bf{ds:List D}{U:Mu}{Q:DK}(h:mD ds U Q):ds.length=4:=by obtain⟨_,_,_,_,_,_,_,rfl,_⟩:=h;rfl
structure Oa(d:Int)(ks:List N3)(x:RN d)(T:Bo d)(i:Int)(q:Nat)(a b:RN d):Prop where
 i0:0<=i
 i1:i<(ks.length:Nat)
 k:∃k:RN d,ks[i.toNat]? = some k.v/\ps k/\Bd 60 k.v/\Rat q k T
 hi:In T a b
 x0:nn T.x
 y0:nn T.y
 x1:nn (1-(T.x+T.w))
 y1:nn (x-(T.y+T.h))
noncomputable def fX:DSp:=fun ds U Q=>∃(d:Int) (ks:List N3) (x:RN d) (T:Bo d) (i:Int) (q:Nat) (a b:RN d),ds=[.v (.int d),.v (.tuple (ks.map dN)),.v (dN x.v),.v (tl6 T i q),.v (dN a.v),.v (dN b.v)]/\av d/\ks.length<=3/\Bd 4300 x.v/\Bw 70000 8000000 T/\Bd 10000000 a.v/\Bd 10000000 b.v/\Oa d ks x T i q a b/\Q (.v (.bool true)) U
theorem yT{ds:List D}{U:Mu}{Q:DK}(h:fX ds U Q):ds.length=6:=by obtain⟨_,_,_,_,_,_,_,_,rfl,_⟩:=h;rfl
noncomputable def lG:DTS:=
 (aC (bQ (fM (dB (aq gT (ab (ae 0) (ab (ae 2) (ab (dOp ax (ae 1) (dC (.int 0))) ao))))) (dB (aq gT (ab (ae 0) (ab (ae 3) (ab (dOp ax (ae 1) (dC (.int 1))) ao)))))) (aT (dC (.bool false))) aW)
 (aT (fh (aq gT (ab (ae 0) (ab (ae 2) (ab (aq cP (ab (dOp ax (ae 1) (dC (.int 0))) (ab (dOp ax (ae 1) (dC (.int 2))) ao))) ao)))) (aq gT (ab (ae 0) (ab (ae 3) (ab (aq cP (ab (dOp ax (ae 1) (dC (.int 1))) (ab (dOp ax (ae 1) (dC (.int 3))) ao))) ao)))))))
noncomputable def i8:DTS:=
 (aC (bQ (fM (dn (dB (wb "tuple" (ae 3)))) (fM (dB (dOp (bV true) (dCB cL (ab (ae 3) ao)) (dC (.int 6)))) (dn (dB (dCB xg (ab (rg [none] (uu (dSl (ae 3) Dh (EW (dC (.int 4))))) (ak 0) eU (aq nH (ab (ae 0) ao))) ao)))))) (aT (dC (.bool false))) aW)
 (aC (bQ (fM (dn (dB (aq eZ (ab (dOp ax (ae 3) (dC (.int 4))) ao)))) (fM (dn (dB (oG rLe rLt (dC (.int 0)) (dOp ax (ae 3) (dC (.int 4))) (dCB cL (ab (ae 1) ao))))) (dn (dB (wb "bool" (dOp ax (ae 3) (dC (.int 5)))))))) (aT (dC (.bool false))) aW)
 (aC (aR (dIf (dB (dOp ax (ae 3) (dC (.int 5)))) (aq cj (ab (ae 0) (ab (dOp ax (ae 1) (dOp ax (ae 3) (dC (.int 4)))) ao))) (dOp ax (ae 1) (dOp ax (ae 3) (dC (.int 4))))) (ak 6))
 (aC (bQ (fM (dB (dOp (bV true) (aq dw (ab (ae 0) (ab (ae 6) (ab (dOp ax (ae 3) (dC (.int 2))) ao)))) (dOp ax (ae 3) (dC (.int 3))))) (dn (dB (aq mD (ab (ae 0) (ab (ae 3) (ab (ae 4) (ab (ae 5) ao)))))))) (aT (dC (.bool false))) aW)
 (aC (bQ (fM (dB (dOp rLt (aq hW (ab (ae 0) (ab (dOp ax (ae 3) (dC (.int 0))) ao))) (dC (.int 0)))) (dB (dOp rLt (aq hW (ab (ae 0) (ab (dOp ax (ae 3) (dC (.int 1))) ao))) (dC (.int 0))))) (aT (dC (.bool false))) aW)
 (aC (vf 7 8 (ab (aq cP (ab (dOp ax (ae 3) (dC (.int 0))) (ab (dOp ax (ae 3) (dC (.int 2))) ao))) (ab (aq cP (ab (dOp ax (ae 3) (dC (.int 1))) (ab (dOp ax (ae 3) (dC (.int 3))) ao))) ao)))
 (aT (fh (Ap (aq gT (ab (ae 0) (ab (cS (ab (dC (.int 1)) (ab (dC (.int 0)) (ab (dC (.int 1)) ao)))) (ab (ae 7) ao))))) (Ap (aq gT (ab (ae 0) (ab (ae 2) (ab (ae 8) ao)))))))))))))
section
variable {U:Mu}{Qd:DK}{ds:List D}
theorem A8(h:mD ds U Qd):lG ‹Qd› (aG ["_law_d","_law_tile","_law_x","_law_y"] ds) U:=by
 obtain⟨d,T,i,q,a,b,β,rfl,hd,bw,ba,bb,mo,qd⟩:=h
 have ng:∀{u v:RN d},¬ ps (u-v)↔nn (v-u):=fun {u v}=>by unfold nn;rw[show -(v-u)=u-v by grind]
 have fin:∀{kw:Bool},(kw=true↔In T a b)->Qd (.v (.bool kw)) U:=fun {kw} h=>by
  have:kw=β:=by rw[Bool.eq_iff_iff,h,mo]
  rw[this];exact qd
 unfold lG tl6
 walk_at "rb"
 refine⟨d,_,_,rfl,hd,a.ok,T.x.ok,ba.mono ⋯,bw.x.mono ⋯,?_⟩
 by_cases c1:ps (T.x-a)
 ·rw[wN hd c1]
  walk_at "rb"
  exact fin ⟨fun z=>(nomatch z),fun z=>absurd c1 (ng.mpr z.x0)⟩
 ·rw[rf hd c1]
  walk_at "rb"
  refine⟨d,_,_,rfl,hd,b.ok,T.y.ok,bb.mono ⋯,bw.y.mono ⋯,?_⟩
  by_cases c2:ps (T.y-b)
  ·rw[wN hd c2]
   walk_at "rb"
   exact fin ⟨fun z=>(nomatch z),fun z=>absurd c2 (ng.mpr z.y0)⟩
  ·rw[rf hd c2]
   walk_at "rb"
   refine⟨_,_,rfl,T.x.ok,T.w.ok,bw.x.mono ⋯,bw.w.mono ⋯,?_⟩
   refine⟨d,a.v,(T.x+T.w).v,rfl,hd,a.ok,RN.ok _,ba.mono ⋯,(bdA bw.x bw.w).mono ⋯,?_⟩
   by_cases c3:ps (T.x+T.w-a)
   ·rw[wN hd c3]
    walk_at "rb"
    refine⟨_,_,rfl,T.y.ok,T.h.ok,bw.y.mono ⋯,bw.h.mono ⋯,?_⟩
    refine⟨d,b.v,(T.y+T.h).v,rfl,hd,b.ok,RN.ok _,bb.mono ⋯,(bdA bw.y bw.h).mono ⋯,?_⟩
    by_cases c4:ps (T.y+T.h-b)
    ·rw[wN hd c4]
     exact fin ⟨fun _=>⟨ng.mp c1,c3,ng.mp c2,c4⟩,fun _=>rfl⟩
    ·rw[rf hd c4]
     exact fin ⟨fun z=>(nomatch z),fun z=>absurd z.y1 c4⟩
   ·rw[rf hd c3]
    walk_at "rb"
    exact fin ⟨fun z=>(nomatch z),fun z=>absurd z.x1 c3⟩
theorem xW(h:fX ds U Qd):i8 ‹Qd› (aG ["_law_d","_law_kinds_here","_law_shape_here","_law_tile","_law_x","_law_y","_law_kind","_law_right","_law_top"] ds) U:=by
 obtain⟨d,ks,x,T,i,q,a,b,rfl,hd,l3,bx,bw,ba,bb,tp,qd⟩:=h
 obtain⟨k,ek,pk,bk,rt⟩:=tp.k
 have tail:∀(kd:RN d),Bd 200 kd.v->T.h=kd*T.w ->
   (aC (bQ (fM (dB (dOp (bV true) (aq dw (ab (ae 0) (ab (ae 6) (ab (dOp ax (ae 3) (dC (.int 2))) ao)))) (dOp ax (ae 3) (dC (.int 3))))) (dn (dB (aq mD (ab (ae 0) (ab (ae 3) (ab (ae 4) (ab (ae 5) ao)))))))) (aT (dC (.bool false))) aW)
 (aC (bQ (fM (dB (dOp rLt (aq hW (ab (ae 0) (ab (dOp ax (ae 3) (dC (.int 0))) ao))) (dC (.int 0)))) (dB (dOp rLt (aq hW (ab (ae 0) (ab (dOp ax (ae 3) (dC (.int 1))) ao))) (dC (.int 0))))) (aT (dC (.bool false))) aW)
 (aC (vf 7 8 (ab (aq cP (ab (dOp ax (ae 3) (dC (.int 0))) (ab (dOp ax (ae 3) (dC (.int 2))) ao))) (ab (aq cP (ab (dOp ax (ae 3) (dC (.int 1))) (ab (dOp ax (ae 3) (dC (.int 3))) ao))) ao)))
 (aT (fh (Ap (aq gT (ab (ae 0) (ab (cS (ab (dC (.int 1)) (ab (dC (.int 0)) (ab (dC (.int 1)) ao)))) (ab (ae 7) ao))))) (Ap (aq gT (ab (ae 0) (ab (ae 2) (ab (ae 8) ao))))))))))
   ‹Qd› [some (.v (.int d)),some (.v (.tuple (ks.map dN))),some (.v (dN x.v)),some (.v (.tuple [dN T.x.v,dN T.y.v,dN T.w.v,dN T.h.v,.int i,.bool (q % 2==1)])),some (.v (dN a.v)),some (.v (dN b.v)),some (.v (dN kd.v)),none,none] U:=fun kd bkd eh=>by
  walk_at "rb"
  refine⟨d,kd.v,T.w.v,rfl,l5 hd.1 hd.2.1,kd.ok,T.w.ok,bkd.mono ⋯,bw.w.mono ⋯,?_⟩
  rw[show times d kd.v T.w.v=T.h.v from (congrArg RN.v eh).symm]
  walk_at "rb"
  refine⟨d,T,i,q,a,b,true,rfl,hd,bw,ba,bb,⟨fun _=>tp.hi,fun _=>rfl⟩,?_⟩
  walk_at "rb"
  have sn:∀y:RN d,nn y->¬ sg d y.v.a y.v.b<0:=fun y h=>by
   rcases qT hd h with z|z
   ·rw[z];show ¬ sg d 0 0<0;rw[dZ.mpr ⟨rfl,rfl⟩];decide
   ·rw[show sg d y.v.a y.v.b=1 from z];decide
  refine⟨d,T.x.v,rfl,hd,bw.x.mono ⋯,?_⟩
  walk_at "rb"
  rw[decide_eq_false (sn _ tp.x0)]
  walk_at "rb"
  refine⟨d,T.y.v,rfl,hd,bw.y.mono ⋯,?_⟩
  walk_at "rb"
  rw[decide_eq_false (sn _ tp.y0)]
  walk_at "rb"
  refine⟨_,_,rfl,T.x.ok,T.w.ok,bw.x.mono ⋯,bw.w.mono ⋯,?_⟩
  walk_at "rb"
  refine⟨_,_,rfl,T.y.ok,T.h.ok,bw.y.mono ⋯,bw.h.mono ⋯,?_⟩
  walk_at "rb"
  have no:∀{u v:RN d},nn (u-v)->¬ ps (v-u):=fun {u v} h z=>h (by rwa [show -(u-v)=v-u by grind])
  refine⟨d,(1:RN d).v,(T.x+T.w).v,rfl,hd,RN.ok _,RN.ok _,b01.1.mono ⋯,(bdA bw.x bw.w).mono ⋯,?_⟩
  rw[rf hd (no tp.x1)]
  walk_at "rb"
  refine⟨d,x.v,(T.y+T.h).v,rfl,hd,RN.ok _,RN.ok _,bx.mono ⋯,(bdA bw.y bw.h).mono ⋯,?_⟩
  rw[rf hd (no tp.y1)]
  exact qd
 unfold i8
 have et:tl6 T i q = .tuple [dN T.x.v,dN T.y.v,dN T.w.v,dN T.h.v,.int i,.bool (q % 2==1)]:=rfl
 rw[et]
 walk_at "rb"
 have tT:∀xs:List PyData,isT "tuple" (.tuple xs)=true:=fun _=>rfl
 have tB:∀b:Bool,isT "bool" (.bool b)=true:=fun b=>by cases b<;>rfl
 rw[tT,if_neg ⋯]
 unfold DL.hd
 walk_at "rb"
 rw[if_neg (by simp)]
 unfold DL.hd
 walk_at "rb"
 rw[rV]
 walk_at "rb"
 rw[Sf]
 refine⟨by show 4<=1000;decide,fun t=>some (.bool true),fun t ht O _=>⟨trivial,?_⟩,?_⟩
 ·obtain⟨s,rfl,bs⟩:=four bw t ht
  rw[if_pos trivial]
  refine⟨_,rfl,IP,?_⟩
  rw[Ab]
  exact⟨rfl,rfl⟩
 rw[nW]
 walk_at "rb"
 rw[show dy [PyData.bool true,PyData.bool true,PyData.bool true,PyData.bool true]=some [true,true,true,true] from rfl]
 dsimp only
 rw[if_neg ⋯,KC]
 have wI:isWhole (.int i)=true:=rfl
 refine⟨_,rfl,?_⟩
 rw[wI]
 unfold DL.hd
 dsimp only
 rw[if_neg ⋯]
 walk_at "rb"
 rw[KC]
 walk_at "rb"
 have i0:=tp.i0
 have i1:=tp.i1
 rw[if_pos (decide_eq_true i0)]
 unfold DL.hd
 walk_at "rb"
 rw[length_map,decide_eq_true i1,if_neg ⋯]
 unfold DL.hd
 walk_at "rb"
 rw[Rr]
 dsimp only
 rw[tB,if_neg ⋯,KC]
 dsimp only
 have ei:atI (ks.map dN) i=some (dN k.v):=by
  have:=jv (xs:=ks.map dN) (j:=i.toNat) (v:=dN k.v) (by rw[getElem?_map,ek];rfl)
  rw[show ((i.toNat:Nat):Int)=i by omega] at this
  exact this
 rcases (by omega:q % 2=0\/q % 2=1) with e|e
 ·rw[if_neg (by rw[e];decide)]
  rw[ky,ei]
  exact tail k (bk.mono ⋯) (rt.r0 e)
 ·rw[if_pos (by rw[e];rfl),ky,ei]
  refine⟨d,k.v,rfl,l5 hd.1 hd.2.1,qH hd pk,bk.mono ⋯,?_⟩
  rw[<- qU hd pk]
  refine tail (inv k) ((bdI hd pk bk).mono ⋯) ?_
  have e1:=rt.r1 e
  have e2:=inv_mul hd pk
  generalize inv k=ik at *
  grind
end
noncomputable def kR:DSp:=fun ds U Q=>∃(a:Addr) (d:Int) (ks:List N3) (t:PyData) (X:RN d),ds=[.m a,.v (.int d),.v (.tuple (ks.map dN)),.v t]/\av d/\KindsOk d ks/\Bag U a/\Sh t/\okN (cnt (ks.length:Nat) 12 t)=true/\SP d ks 13 t X.v/\Bd 4300 X.v /\
 ∀O,hJ a U O->Q (.v (.bool true)) O
theorem xP{U:Mu}{Q:DK}{ds:List D}(h:kR ds U Q):ds.length=4:=by obtain⟨_,_,_,_,_,rfl,_⟩:=h;rfl
noncomputable def iB:DTS:=
 (aC (aR (aq (eK 13) (ab (ae 1) (ab (ae 2) (ab (ae 3) ao)))) (ak 4))
 (aC (vf 5 6 (ab (aq jR (ab (ae 0) (ab (ae 1) (ab (cS (ab (dC (.int 1)) (ab (dC (.int 0)) (ab (dC (.int 1)) ao)))) ao)))) (ab (aq jR (ab (ae 0) (ab (ae 1) (ab (ae 4) ao)))) ao)))
 (aC (aR (aq i4 (ab (ae 1) (ab (ae 2) (ab (ae 3) (ab (ae 5) (ab (ae 6) ao)))))) (ak 7))
 (aC (bQ (dn (dB (aq fX (ab (ae 1) (ab (ae 2) (ab (ae 4) (ab (ae 7) (ab (ae 5) (ab (ae 6) ao))))))))) (aT (dC (.bool false))) aW)
 (aC (aR (cS (ab (aq cP (ab (dOp ax (ae 7) (dC (.int 0))) (ab (aq jR (ab (ae 0) (ab (ae 1) (ab (dOp ax (ae 7) (dC (.int 2))) ao)))) ao))) (ab (aq cP (ab (dOp ax (ae 7) (dC (.int 1))) (ab (aq jR (ab (ae 0) (ab (ae 1) (ab (dOp ax (ae 7) (dC (.int 3))) ao)))) ao))) ao))) (ak 8))
 (aC (vE (dU (g8 (ab (cS (ab (dOp ax (ae 7) (dC (.int 0))) (ab (dOp ax (ae 7) (dC (.int 1))) ao))) (ab (ae 8) (ab (cS (ab (ae 5) (ab (ae 6) ao))) ao))))) (ak 9) (bQ (dB (dOp (bV true) (aq i4 (ab (ae 1) (ab (ae 2) (ab (ae 3) (ab (dOp ax (ae 9) (dC (.int 0))) (ab (dOp ax (ae 9) (dC (.int 1))) ao)))))) (ae 7))) (aT (dC (.bool false))) aW))
 (aC (vf 10 11 (ab (aq cP (ab (dOp ax (ae 7) (dC (.int 0))) (ab (dOp ax (ae 7) (dC (.int 2))) ao))) (ab (aq cP (ab (dOp ax (ae 7) (dC (.int 1))) (ab (dOp ax (ae 7) (dC (.int 3))) ao))) ao)))
 (aC (bQ (dB (dOp (bV true) (ae 10) (cS (ab (dC (.int 1)) (ab (dC (.int 0)) (ab (dC (.int 1)) ao)))))) (aC (aR (aq i4 (ab (ae 1) (ab (ae 2) (ab (ae 3) (ab (ae 10) (ab (ae 6) ao)))))) (ak 12))
 (bQ (fM (dB (dOp (bV true) (dOp ax (ae 12) (dC (.int 0))) (ae 10))) (dn (dB (aq fX (ab (ae 1) (ab (ae 2) (ab (ae 4) (ab (ae 12) (ab (ae 10) (ab (ae 6) ao)))))))))) (aT (dC (.bool false))) aW)) aW)
 (aC (bQ (dB (dOp (bV false) (ae 11) (ae 4))) (aT (dC (.bool true))) aW)
 (aC (aR (aq i4 (ab (ae 1) (ab (ae 2) (ab (ae 3) (ab (ae 5) (ab (ae 11) ao)))))) (ak 13))
 (aT (fh (dOp (bV false) (dOp ax (ae 13) (dC (.int 1))) (ae 11)) (aq fX (ab (ae 1) (ab (ae 2) (ab (ae 4) (ab (ae 13) (ab (ae 5) (ab (ae 11) ao)))))))))))))))))))
section
variable {U:Mu}{Qd:DK}{ds:List D}
theorem G2{d:Int}(hd:av d){ks:List N3}(hk:KindsOk d ks){t:PyData}{X a b:RN d}{T:Bo d}{i:Int}{q:Nat}(g:Go d ks 13 0 t X (fl X) T i q)(px:ps X)(h:In T a b):Oa d ks X T i q a b:=by
 obtain⟨i0,i1,k,e,pk,rt⟩:=g.kd hd (lz X px)
 obtain⟨x0,y0,x1,y1⟩:=g.within hd px
 exact⟨i0,i1,⟨k,e,pk,(hk.ok _ (mem_of_getElem? e)).2.1,rt⟩,h,x0,y0,x1,y1⟩
theorem vI(h:kR ds U Qd):iB ‹Qd› (aG ["_law_bag_here","_law_d","_law_kinds_here","_law_plan_here","_law_shape_here","_law_x","_law_y","_law_tile","_law_inner","_law_spot","_law_right","_law_top","_law_beside","_law_upon"] ds) U:=by
 obtain⟨a,d,ks,t,X,rfl,hd,hk,hb,hs,ho,sp,bX,qd⟩:=h
 have hks:KsP d ks:=fun k hk'=>⟨(hk.ok k hk').1,(hk.ok k hk').2.2⟩
 obtain⟨m,em,X',eX,vw⟩:=SP.vw hd hks sp
 obtain rfl:X'=X:=RN.ext eX
 have pX:=vw.pos hd
 unfold iB
 walk_at "rb"
 refine⟨d,ks,false,t,X'.v,rfl,hd,hs,sp,fun ac k1=>?_⟩
 walk_at "rb"
 have s1:hJ a U ac:=.of hb k1
 refine⟨a,d,1,rfl,hd,b01.1.mono ⋯,s1.1,fun p ad bp p0 p1 s2=>?_⟩
 walk_at "rb"
 refine⟨a,d,X',rfl,hd,bX.mono ⋯,s2.1,fun r ap br r0 r1 s3=>?_⟩
 walk_at "rb"
 have bA:=(bdM hd (b01 (d:=d)).1 bp).mono (m:=10000000) ⋯
 have bB:=(bdM hd bX br).mono (m:=10000000) ⋯
 have p_1:=cm (d:=d) (n:=1) ⋯
 have inF:In (fl X') (1*p) (X'*r):=by
  have q1:=jj hd (fE hd pX) r0
  have q2:=dH hd pX r1
  refine⟨?_,?_,?_,?_⟩
  ·show nn (1*p-0);rwa [show 1*p-0=p by grind]
  ·show ps (0+1-1*p);rwa [show 0+1-1*p=1-p by grind]
  ·show nn (X'*r-0);rwa [show X'*r-0=X'*r by grind]
  ·show ps (0+X'-X'*r);rwa [show 0+X'-X'*r=X'*(1-r) by grind]
 obtain⟨T,i,q',g,hT⟩:=Go.ex hd hks 13 sp (lz X' pX) inF
 have bT:=(g.bw hd (m:=0) ∅ (Hy bX)).mono (S':=70000) (P':=8000000) ⋯ ⋯
 refine⟨d,ks,t,X',_,_,T,i,q',rfl,hd,hk,hs,ho,sp,pX,bX,g,hT,bA,bB,fun bn k4=>?_⟩
 walk_at "rb"
 have et:tl6 T i q' = .tuple [dN T.x.v,dN T.y.v,dN T.w.v,dN T.h.v,.int i,.bool (q' % 2==1)]:=rfl
 refine⟨d,ks,X',T,i,q',_,_,rfl,hd,hk.l3,bX,bT,bA,bB,G2 hd hk g pX hT,?_⟩
 walk_at "rb"
 rw[et]
 walk_at "rb"
 obtain⟨pw,ph⟩:=g.tile hd (lz X' pX)
 have s4:=((s1.trans s2.w).trans s3.w).trans (.of s3.1 k4)
 refine⟨a,d,T.w,rfl,hd,bT.w,s4.1,fun u ga bu u0 u1 s5=>?_⟩
 walk_at "rb"
 have b1:=bdM hd bT.w bu
 refine⟨T.x.v,(T.w*u).v,rfl,T.x.ok,RN.ok _,bT.x.mono ⋯,b1.mono ⋯,?_⟩
 walk_at "rb"
 refine⟨a,d,T.h,rfl,hd,bT.h,s5.1,fun v lf bv v0 v1 s6=>?_⟩
 walk_at "rb"
 have b2:=bdM hd bT.h bv
 refine⟨T.y.v,(T.h*v).v,rfl,T.y.ok,RN.ok _,bT.y.mono ⋯,b2.mono ⋯,?_⟩
 walk_at "rb"
 have s7:=(s4.trans s5.w).trans s6.w
 rw[vo]
 walk_at "rb"
 have inT:In T (T.x+T.w*u) (T.y+T.h*v):=by
  have q0:=jj hd (fE hd pw) u0
  have q1:=dH hd pw u1
  have q2:=jj hd (fE hd ph) v0
  have q3:=dH hd ph v1
  refine⟨?_,?_,?_,?_⟩
  ·rwa [show T.x+T.w*u-T.x=T.w*u by grind]
  ·rwa [show T.x+T.w-(T.x+T.w*u)=T.w*(1-u) by grind]
  ·rwa [show T.y+T.h*v-T.y=T.h*v by grind]
  ·rwa [show T.y+T.h-(T.y+T.h*v)=T.h*(1-v) by grind]
 have c0:In T T.x T.y:=⟨kI,by rwa [show T.x+T.w-T.x=T.w by grind],kI,by rwa [show T.y+T.h-T.y=T.h by grind]⟩
 have spots:∀y∈[PyData.tuple [dN T.x.v,dN T.y.v],.tuple [dN (T.x+T.w*u).v,dN (T.y+T.h*v).v],.tuple [dN (1*p).v,dN (X'*r).v]],∃A B:RN d,y = .tuple [dN A.v,dN B.v]/\In T A B/\Bd 10000000 A.v/\Bd 10000000 B.v:=fun y hy=>by
  simp only[mem_cons,not_mem_nil,or_false] at hy
  rcases hy with z|z|z
  ·exact⟨T.x,T.y,z,c0,bT.x.mono ⋯,bT.y.mono ⋯⟩
  ·exact⟨_,_,z,inT,(bdA bT.x b1).mono ⋯,(bdA bT.y b2).mono ⋯⟩
  ·exact⟨_,_,z,hT,bA,bB⟩
 have within:=g.within hd pX
 have tail:∀(r9 r12:Option D) (jp:Mu),hJ a U jp ->
   (aC (bQ (dB (dOp (bV false) (ae 11) (ae 4))) (aT (dC (.bool true))) aW)
 (aC (aR (aq i4 (ab (ae 1) (ab (ae 2) (ab (ae 3) (ab (ae 5) (ab (ae 11) ao)))))) (ak 13))
 (aT (fh (dOp (bV false) (dOp ax (ae 13) (dC (.int 1))) (ae 11)) (aq fX (ab (ae 1) (ab (ae 2) (ab (ae 4) (ab (ae 13) (ab (ae 5) (ab (ae 11) ao)))))))))))
   ‹Qd› [some (.m a),some (.v (.int d)),some (.v (.tuple (ks.map dN))),some (.v t),some (.v (dN X'.v)),some (.v (dN (1*p).v)),some (.v (dN (X'*r).v)),some (.v (.tuple [dN T.x.v,dN T.y.v,dN T.w.v,dN T.h.v,.int i,.bool (q' % 2==1)])),some (.v (.tuple [dN (T.x+T.w*u).v,dN (T.y+T.h*v).v])),r9,some (.v (dN (T.x+T.w).v)),some (.v (dN (T.y+T.h).v)),r12,none] jp:=fun r9 r12 jp s8=>by
  walk_at "rb"
  by_cases hu:T.y+T.h=X'
  ·rw[if_pos (decide_eq_true (congrArg RN.v hu))]
   exact qd jp s8
  ·rw[if_neg (by rw[decide_eq_true_eq];exact fun z=>hu (RN.ext z))]
   have bU:=(bdA bT.y bT.h).mono (m:=10000000) ⋯
   have inU:In (fl X') (1*p) (T.y+T.h):=by
    refine⟨inF.x0,inF.x1,?_,?_⟩
    ·show nn (T.y+T.h-0);rw[show T.y+T.h-0=T.y+T.h by grind];exact nT hd within.2.1 (fE hd ph)
    ·show ps (0+X'-(T.y+T.h));rw[show 0+X'-(T.y+T.h)=X'-(T.y+T.h) by grind]
     rcases qT hd within.2.2.2 with z|z
     ·exact absurd (show T.y+T.h=X' by grind) hu
     ·exact z
   obtain⟨T2,i2,q2,g2,hT2⟩:=Go.ex hd hks 13 sp (lz X' pX) inU
   have bT2:=(g2.bw hd (m:=0) ∅ (Hy bX)).mono (S':=70000) (P':=8000000) ⋯ ⋯
   unfold DL.hd
   walk_at "rb"
   refine⟨d,ks,t,X',_,_,T2,i2,q2,rfl,hd,hk,hs,ho,sp,pX,bX,g2,hT2,bA,bU,fun rc k9=>?_⟩
   have et2:tl6 T2 i2 q2 = .tuple [dN T2.x.v,dN T2.y.v,dN T2.w.v,dN T2.h.v,.int i2,.bool (q2 % 2==1)]:=rfl
   rw[et2]
   walk_at "rb"
   have eY:=congrArg RN.v (Go.rZ hd hks g g2 (lz X' pX) hT hT2)
   rw[eY]
   walk_at "rb"
   exact⟨d,ks,X',T2,i2,q2,1*p,T.y+T.h,by rw[et2,eY],hd,hk.l3,bX,bT2,bA,bU,G2 hd hk g2 pX hT2,qd rc (s8.trans (.of s8.1 k9))⟩
 refine⟨fun i' ρ O=>∃r9:Option D,ρ=[some (.m a),some (.v (.int d)),some (.v (.tuple (ks.map dN))),some (.v t),some (.v (dN X'.v)),some (.v (dN (1*p).v)),some (.v (dN (X'*r).v)),some (.v (.tuple [dN T.x.v,dN T.y.v,dN T.w.v,dN T.h.v,.int i,.bool (q' % 2==1)])),some (.v (.tuple [dN (T.x+T.w*u).v,dN (T.y+T.h*v).v])),r9,none,none,none,none]/\hJ a U O,⟨_,rfl,s7⟩,?_,?_⟩
 ·rintro j y ρ gV hy ⟨r9,rfl,s8⟩
  obtain⟨A,B,rfl,hin,bA',bB'⟩:=spots y (mem_of_getElem? hy)
  walk_at "rb"
  refine⟨d,ks,t,X',A,B,T,i,q',rfl,hd,hk,hs,ho,sp,pX,bX,g,hin,bA',bB',fun jp k8=>?_⟩
  rw[et]
  walk_at "rb"
  refine⟨rfl,rfl,?_⟩
  rw[J4 rfl,if_neg ⋯]
  exact⟨_,rfl,s8.trans (.of s8.1 k8)⟩
 rintro ρ gV ⟨r9,rfl,s8⟩
 walk_at "rb"
 refine⟨_,_,rfl,T.x.ok,T.w.ok,bT.x.mono ⋯,bT.w.mono ⋯,?_⟩
 walk_at "rb"
 refine⟨_,_,rfl,T.y.ok,T.h.ok,bT.y.mono ⋯,bT.h.mono ⋯,?_⟩
 walk_at "rb"
 by_cases hr:T.x+T.w=1
 ·rw[decide_eq_true (show plus T.x.v T.w.v={a:=1,b:=0,c:=1} from congrArg RN.v hr),if_neg ⋯]
  exact tail _ _ gV s8
 ·rw[decide_eq_false (show ¬ plus T.x.v T.w.v={a:=1,b:=0,c:=1} from fun z=>hr (RN.ext z)),if_pos ⋯]
  have bR:=(bdA bT.x bT.w).mono (m:=10000000) ⋯
  have inR:In (fl X') (T.x+T.w) (X'*r):=by
   refine⟨?_,?_,inF.y0,inF.y1⟩
   ·show nn (T.x+T.w-0);rw[show T.x+T.w-0=T.x+T.w by grind];exact nT hd within.1 (fE hd pw)
   ·show ps (0+1-(T.x+T.w));rw[show 0+1-(T.x+T.w)=1-(T.x+T.w) by grind]
    rcases qT hd within.2.2.1 with z|z
    ·exact absurd (show T.x+T.w=1 by grind) hr
    ·exact z
  obtain⟨T2,i2,q2,g2,hT2⟩:=Go.ex hd hks 13 sp (lz X' pX) inR
  have bT2:=(g2.bw hd (m:=0) ∅ (Hy bX)).mono (S':=70000) (P':=8000000) ⋯ ⋯
  unfold DL.hd
  walk_at "rb"
  refine⟨d,ks,t,X',T.x+T.w,_,T2,i2,q2,rfl,hd,hk,hs,ho,sp,pX,bX,g2,hT2,bR,bB,fun jp k8=>?_⟩
  have et2:tl6 T2 i2 q2 = .tuple [dN T2.x.v,dN T2.y.v,dN T2.w.v,dN T2.h.v,.int i2,.bool (q2 % 2==1)]:=rfl
  rw[et2]
  walk_at "rb"
  have eX2:=congrArg RN.v (Go.fY hd hks g g2 (lz X' pX) hT hT2)
  rw[eX2,decide_eq_true (show (T.x+T.w).v=plus T.x.v T.w.v from rfl),if_neg ⋯]
  unfold DL.hd
  walk_at "rb"
  refine⟨d,ks,X',T2,i2,q2,T.x+T.w,X'*r,by rw[et2,eX2];rfl,hd,hk.l3,bX,bT2,bR,bB,G2 hd hk g2 pX hT2,?_⟩
  unfold DL.hd
  dsimp only
  rw[if_neg ⋯]
  exact tail _ _ jp (s8.trans (.of s8.1 k8))
end
noncomputable def fm:DTS:=
 (aC (aR (aq yc (ab (ae 0) (ab (ae 1) ao))) (ak 2))
 (aC (aR (cS (ab (dC (.str "grid")) (ab (fi (dC (.int 1)) (aq b4 (ab (ae 0) (ab (Gp (dC (.int 10)) (dC (.int 6))) ao)))) (ab (fi (dC (.int 1)) (aq b4 (ab (ae 0) (ab (Gp (dC (.int 10)) (dC (.int 6))) ao)))) (ab (ae 2) ao))))) (ak 3))
 (aC (bQ (lH (dB (dOp (bV false) (aq b4 (ab (ae 0) (ab (dC (.int 2)) ao))) (dC (.int 0)))) (dB (aq jz (ab (cS (ab (dC (.str "turn")) (ab (ae 3) ao))) (ab (ae 1) ao))))) (aT (cS (ab (dC (.str "turn")) (ab (ae 3) ao)))) aW)
 (aT (dIf (dB (aq jz (ab (ae 3) (ab (ae 1) ao)))) (ae 3) (ae 2))))))
section
variable {U:Mu}{Qd:DK}{ds:List D}
theorem LF{m:Int}{D C:Nat}{t:PyData}(h:IsP m D C t)(ok:okN (cnt m 12 t)=true):∃D',IsP m D' C t/\D'<=12/\C<=60:=by
 unfold okN at ok
 simp only[and_eq_true,decide_eq_true_eq] at ok
 obtain⟨D',h1,h2⟩:=MM h 12 ok.1
 have:=h2.cnt 12 h1
 exact⟨D',h2,h1,∅⟩
theorem qm(h:ya ds U Qd):fm ‹Qd› (aG ["_law_bag_here","_law_many","_law_plan_here","_law_grid"] ds) U:=by
 obtain⟨a,m,rfl,m1,m3,hb,qd⟩:=h
 unfold fm
 walk_at "rb"
 refine⟨a,m,rfl,m1,m3,hb,fun dd c t ac hp hd hc s1=>?_⟩
 walk_at "rb"
 refine⟨⟨⋯,⋯,⋯⟩,a,_,rfl,nofun,nofun,s1.1,fun w ad w0 w1 s2=>?_⟩
 walk_at "rb"
 refine⟨⟨⋯,⋯,⋯⟩,a,_,rfl,nofun,nofun,s2.1,fun v ap v0 v1 s3=>?_⟩
 walk_at "rb"
 have e6:(10:Int) ^ Int.toNat 6=1000000:=nofun
 rw[e6] at w1 v1
 have g1:IsP m (dd+1) (c+1) (.tuple [.str "grid",.int (1+w),.int (1+v),t]):=.grid _ _ ∅ ∅ ∅ ∅ hp
 have g2:IsP m (dd+1+1) (c+1+1) (.tuple [.str "turn",.tuple [.str "grid",.int (1+w),.int (1+v),t]]):=.turn g1
 refine⟨a,2,rfl,⋯,⋯,s3.1,fun r bn r0 r1 s4=>?_⟩
 have s14:=((s1.trans s2.w).trans s3.w).trans s4.w
 have tail:∀O,hJ a U O->aT (dIf (dB (aq jz (ab (ae 3) (ab (ae 1) ao)))) (ae 3) (ae 2)) ‹Qd› [some (.m a),some (.v (.int m)),some (.v t),some (.v (.tuple [.str "grid",.int (1+w),.int (1+v),t]))] O:=fun O st=>by
  walk_at "rb"
  refine⟨_,m,rfl,g1.lt.sh ∅,fun ga k5=>?_⟩
  walk_at "rb"
  have s5:=st.trans (.of st.1 k5)
  by_cases ok:okN (cnt m 12 (.tuple [.str "grid",.int (1+w),.int (1+v),t]))=true
  ·rw[if_pos ok]
   obtain⟨D',h1,h2,h3⟩:=LF g1 ok
   exact qd D' _ _ ga h1 h2 h3 s5
  ·rw[if_neg ok]
   exact qd dd c t ga hp hd hc s5
 by_cases c0:r=0
 ·subst c0
  walk_at "rb"
  refine⟨_,m,rfl,g2.lt.sh ∅,fun ga k5=>?_⟩
  have s5:=s14.trans (.of s14.1 k5)
  unfold DL.hd
  dsimp only
  by_cases ok:okN (cnt m 12 (.tuple [.str "turn",.tuple [.str "grid",.int (1+w),.int (1+v),t]]))=true
  ·rw[if_pos ok]
   walk_at "rb"
   obtain⟨D',h1,h2,h3⟩:=LF g2 ok
   exact qd D' _ _ ga h1 h2 h3 s5
  ·rw[if_neg ok]
   exact tail ga s5
 ·walk_at "rb"
  rw[if_neg (by rw[decide_eq_true_eq];exact c0)]
  unfold DL.hd
  walk_at "rb"
  exact tail bn s14
end
noncomputable def Gk:DTS:=
 (aC (vE (nt (ab (dCB (FL max) (ab (dC (.int 2)) (ab (dCB (FL min) (ab (dC (.int 4)) (ab (dCB cL (ab (ae 0) ao)) ao))) ao))) ao)) (ak 1) (aC (aR (aq HV (ab (ae 0) (ab (ae 1) ao))) (ak 2))
 (aC (aR (aq ye (ab (ae 2) ao)) (ak 3))
 (aC (aR (aq uD (ab (ae 2) (ab (ae 3) ao))) (ak 4))
 (aC (aR (aq ya (ab (ae 2) (ab (dCB cL (ab (ae 4) ao)) ao))) (ak 5))
 (aC (aR (aq Hz (ab (ae 2) (ab (ae 3) (ab (ae 4) (ab (ae 5) ao))))) (ak 4))
 (vE (nt (ab (dC (.int 3)) ao)) (ak 6) (bQ (dn (dB (aq kR (ab (ae 2) (ab (ae 3) (ab (ae 4) (ab (ae 5) ao))))))) (aT (dC (.bool false))) aW))))))))
 (aT (dC (.bool true))))
section
variable {U:Mu}{Qd:DK}{ds:List D}
theorem SU{d:Int}{ks:List N3}{t:PyData}{dd c:Nat}(hd:av d)(hk:KindsOk d ks)(hp:IsP (ks.length:Nat) dd c t)(hdd:dd<=12)(hc:c<=60)(h:c<=12\/∀k∈ks,Bd 4 k):∃X:RN d,SP d ks 13 t X.v/\Bd 4300 X.v:=by
 have key:∃w,26<=w/\c*w<=2140/\∀k∈ks,vM d w 1 k:=by
  rcases h with h|h
  ·exact⟨67,⋯,∅,fun k z=>⟨(hk.ok k z).1,(hk.ok k z).2.2,HJ (hk.ok k z).1 (hk.ok k z).2.1⟩⟩
  ·exact⟨26,⋯,∅,fun k z=>⟨(hk.ok k z).1,(hk.ok k z).2.2,(HJ (hk.ok k z).1 (h k z)).mono ⋯⟩⟩
 obtain⟨w,h26,hcw,hf⟩:=key
 obtain⟨x,h1,h2⟩:=RP hd h26 hf hp hcw 13 ∅
 exact⟨⟨x,h2.ok⟩,h1,(h2.g hd hcw).2.2⟩
theorem O9(h:zL ds U Qd):Gk ‹Qd› (aG ["_law_script","_law_k","_law_bag_here","_law_d","_law_kinds_here","_law_plan_here","_law_turn"] ds) U:=by
 obtain⟨ns,rfl,hns,q⟩:=h
 unfold Gk
 rw[qW,vo]
 walk_at "rb"
 refine⟨∅,fun i ρ O=>∃r1 r2 r3 r4 r5 r6,ρ=[some (.s ns),r1,r2,r3,r4,r5,r6],⟨_,_,_,_,_,_,rfl⟩,?_,?_⟩
 ·rintro i x ρ ce hx ⟨r1,r2,r3,r4,r5,r6,rfl⟩
  obtain⟨rfl,hi⟩:=Ks hx
  walk_at "rb"
  refine⟨ns,_,rfl,∅,∅,fun a ac ha s1=>?_⟩
  walk_at "rb"
  refine⟨a,rfl,s1.1,fun d ad hd s2=>?_⟩
  walk_at "rb"
  refine⟨a,d,rfl,hd,s2.1,fun ks0 ap hk0 s3=>?_⟩
  walk_at "rb"
  rw[length_map]
  have l1:=hk0.l1
  have l3:=hk0.l3
  refine⟨a,_,rfl,∅,∅,s3.1,fun dd c t bn hp hdd hc s4=>?_⟩
  refine⟨a,d,ks0,t,dd,c,rfl,hd,hk0,hp,hdd,s4.1,fun ks ga hk hl hb5 s5=>?_⟩
  rw[<- hl] at hp
  obtain⟨X,sp,bX⟩:=SU hd hk hp hdd hc hb5
  have ho:okN (cnt (ks.length:Nat) 12 t)=true:=by
   have c1:=hp.pos.2
   rw[hp.cnt 12 hdd];unfold okN;rw[decide_eq_true (by omega:0<c),decide_eq_true hc];rfl
  walk_at "rb"
  rw[vo]
  walk_at "rb"
  refine⟨⟨⋯,⋯⟩,fun i' ρ O=>∃r6:Option D,ρ=[some (.s ns),some (.v (.int (0+(i:Nat)))),some (.m a),some (.v (.int d)),some (.v (.tuple (ks.map dN))),some (.v t),r6]/\Bag O a,⟨_,rfl,s5.1⟩,?_,?_⟩
  ·rintro i' x ρ lf hx ⟨r6,rfl,hb⟩
   walk_at "rb"
   refine⟨a,d,ks,t,X,rfl,hd,hk,hb,hp.lt.sh ∅,ho,sp,bX,fun gV s7=>?_⟩
   walk_at "rb"
   exact⟨_,rfl,s7.1⟩
  ·rintro ρ lf ⟨r6,rfl,hb⟩
   exact⟨_,_,_,_,_,_,rfl⟩
 ·rintro ρ O ⟨r1,r2,r3,r4,r5,r6,rfl⟩
  exact q O
end
end L2.DL
namespace K26
open PySem L2 L2.DL
set_option genInjectivity false in
structure Adr where
 yD:Addr
 zY:FuncData
 mR:Addr
 lT:FuncData
 uP:Addr
 tM:FuncData
 wY:Addr
 w8:FuncData
 lP:Addr
 lM:FuncData
 E2:Addr
 EU:FuncData
 Kq:Addr
 JZ:FuncData
 KR:Addr
 Ku:FuncData
 IM:Addr
 Hv:FuncData
 Kv:Addr
 K6:FuncData
 zP:Addr
 zH:FuncData
 BQ:Addr
 BB:FuncData
 oE:Addr
 ou:FuncData
 yu:Addr
 yK:FuncData
 kv:Addr
 kr:FuncData
 nZ:Addr
 oi:FuncData
 xj:Addr
 wQ:FuncData
 zu:Addr
 zD:FuncData
 om:Addr
 ot:FuncData
 Cm:Addr
 B4:FuncData
 zF:Addr
 zI:FuncData
 yM:Addr
 Aa:FuncData
 zQ:Addr
 zA:FuncData
 o7:Addr
 o5:FuncData
 jA:Addr
 jy:FuncData
 EX:Addr
 Fb:FuncData
 BE:Addr
 Cb:FuncData
 oU:Addr
 oX:FuncData
 w9:Addr
 wV:FuncData
 wL:Addr
 wM:FuncData
 Cf:Addr
 B2:FuncData
 qR:Addr
 q9:FuncData
 BF:Addr
 BK:FuncData
 qi:Addr
 qe:FuncData
 Cg:Addr
 B7:FuncData
 u7:Addr
 uQ:FuncData
 zi:Addr
 zj:FuncData
 yr:Addr
 yU:FuncData
 wR:Addr
 xy:FuncData
 oD:Addr
 nY:FuncData
 qZ:Addr
 rh:FuncData
 zE:Addr
 Ay:FuncData
 lK:Addr
 mI:FuncData
 xn:Addr
 wW:FuncData
 uG:Addr
 uL:FuncData
 uC:Addr
 tW:FuncData
 oA:Addr
 oF:FuncData
 xb:Addr
 xw:FuncData
 uW:Addr
 tS:FuncData
 wC:Addr
 xl:FuncData
 rm:Addr
 qP:FuncData
 ve:Addr
 tP:FuncData
 tL:Addr
 uE:FuncData
 mP:Addr
 mC:FuncData
 xt:Addr
 xh:FuncData
 zf:Addr
 yA:FuncData
 fy:Addr
 fD:FuncData
 dc:Addr
 dg:FuncData
 lO:Addr
 lR:FuncData
 uH:Addr
 uV:FuncData
 o8:Addr
 pV:FuncData
 jV:Addr
 jN:FuncData
 kX:Addr
 kJ:FuncData
 pj:Addr
 oW:FuncData
 n8:Addr
 oh:FuncData
 N1:Addr
 NK:FuncData
 A2:Tok
 yL:Tok
 Bq:Tok
 yG:Tok
 AY:Tok
 JI:Addr
 OP:Addr
structure Txt(K:PySem.W.Frag)(mg:Str->Option Value)(t:Adr):Prop where
 ij:Cal K mg "is_whole" ["thing"] j7 t.yD t.zY
 iE:Cal K mg "common_divisor" ["a","b"] dJ t.mR t.lT
 uN:Cal K mg "whole_root" ["k"] gH t.uP t.tM
 kA:Cal K mg "is_number" ["thing"] i6 t.wY t.w8
 iD:Cal K mg "divisor_of_all" ["a","b","c"] dF t.lP t.lM
 md:Cal K mg "number" ["a","b","c"] ql t.E2 t.EU
 qc:Cal K mg "plus" ["x","y"] zw t.Kq t.JZ
 Dq:Cal K mg "less" ["x","y"] Aq t.KR t.Ku
 qD:Cal K mg "times" ["d","x","y"] ub t.IM t.Hv
 zr:Cal K mg "over" ["d","x","y"] Ai t.Kv t.K6
 ig:Cal K mg "contrary" ["d","x"] kj t.zP t.zH
 B5:Cal K mg "sign_of" ["d","x"] l9 t.BQ t.BB
 jk:Cal K mg "sign_of_parts" ["d","a","b"] eG t.oE t.ou
 kc:Cal K mg "is_above" ["d","x","y"] j5 t.yu t.yK
 kL:Cal K mg "is_above_nought" ["d","thing"] dk t.kv t.kr
 jh:Cal K mg "whole_beneath" ["d","x"] eJ t.nZ t.oi
 xf:Cal K mg "bounds_of" ["tile"] i5 t.xj t.wQ
 Aw:Cal K mg "is_kinds" ["d","thing"] kg t.zu t.zD
 oj:Cal K mg "must_be_kinds" ["d","thing"] eC t.om t.ot
 B6:Cal K mg "is_plan" ["thing","many"] lL t.Cm t.B4
 yP:Cal K mg "has_form" ["thing","many"] jL t.zF t.zI
 su:Cal K mg "is_count" ["thing"] jZ t.yM t.Aa
 sA:Cal K mg "parts_of" ["plan"] jS t.zQ t.zA
 qf:Cal K mg "must_be_plan" ["thing","many"] fe t.o7 t.o5
 qB:Cal K mg "made_of" ["d","shapes","plan"] lU t.jA t.jy
 Ak:Cal K mg "sum_of" ["shapes"] pb t.EX t.Fb
 lY:Cal K mg "tile_at" ["d","kinds","plan","x","y"] mJ t.BE t.Cb
 qg:Cal K mg "must_be_spot" ["d","shape","x","y"] fg t.oU t.oX
 pO:Cal K mg "begins_at" ["d","box","x","y"] iW t.w9 t.wV
 xc:Cal K mg "once_more" ["quarters"] iO t.wL t.wM
 B0:Cal K mg "part_at" ["d","kinds","plan","quarters","box","x","y"] mB t.Cf t.B2
 rn:Cal K mg "strip_boxes" ["d","kinds","plan","quarters","box"] fN t.qR t.q9
 v7:Cal K mg "swapped" ["box"] lS t.BF t.BK
 j9:Cal K mg "rising_boxes" ["d","sizes","box","backward"] fq t.qi t.qe
 BO:Cal K mg "cell_at" ["d","plan","quarters","box","x","y"] mQ t.Cg t.B7
 vd:Cal K mg "cell_sides" ["d","plan","quarters","box"] gv t.u7 t.uQ
 zx:Cal K mg "cell_box" ["d","box","width","height","column","row"] kh t.zi t.zj
 Ad:Cal K mg "_law_bag" ["_law_script","_law_at"] ki t.yr t.yU
 aJ:Cal K mg "_law_take" ["_law_bag_here","_law_many"] iT t.wR t.xy
 d9:Cal K mg "_law_is_whole" ["_law_thing"] ey t.oD t.nY
 fI:Cal K mg "_law_shared" ["_law_one","_law_other"] fK t.qZ t.rh
 d6:Cal K mg "_law_low" ["_law_a","_law_b","_law_c"] j4 t.zE t.Ay
 lN:Cal K mg "_law_is_number" ["_law_thing"] dI t.lK t.mI
 cH:Cal K mg "_law_plus" ["_law_x","_law_y"] iQ t.xn t.wW
 jr:Cal K mg "_law_minus" ["_law_x"] gQ t.uG t.uL
 gL:Cal K mg "_law_times" ["_law_d","_law_x","_law_y"] gC t.uC t.tW
 dh:Cal K mg "_law_contrary" ["_law_d","_law_x"] eD t.oA t.oF
 gi:Cal K mg "_law_sign" ["_law_d","_law_x"] i7 t.xb t.xw
 d5:Cal K mg "_law_below" ["_law_d","_law_x","_law_y"] gG t.uW t.tS
 xA:Cal K mg "_law_root" ["_law_bag_here"] iS t.wC t.xl
 qV:Cal K mg "_law_number" ["_law_bag_here"] fJ t.rm t.qP
 mZ:Cal K mg "_law_above" ["_law_bag_here","_law_d"] gR t.ve t.tP
 vm:Cal K mg "_law_kinds" ["_law_bag_here","_law_d"] gr t.tL t.uE
 iK:Cal K mg "_law_grid_size" ["_law_bag_here"] dD t.mP t.mC
 xa:Cal K mg "_law_plan" ["_law_bag_here","_law_many"] iV t.xt t.xh
 sJ:Cal K mg "_law_sum" ["_law_some"] jH t.zf t.yA
 gK:Cal K mg "_law_shape" ["_law_d","_law_kinds_here","_law_plan_here"] gP t.fy t.fD
 fQ:Cal K mg "_law_plans_in" ["_law_thing","_law_many","_law_deep"] eo t.dc t.dg
 iH:Cal K mg "_law_is_a_plan" ["_law_thing","_law_many"] dG t.lO t.lR
 uF:Cal K mg "_law_holds" ["_law_d","_law_tile","_law_x","_law_y"] gB t.uH t.uV
 fj:Cal K mg "_law_part_of" ["_law_bag_here","_law_d","_law_x"] fu t.o8 t.pV
 jQ:Cal K mg "_law_few_figures" ["_law_bag_here","_law_d","_law_kinds_here","_law_plan_here"] cY t.jV t.jN
 kU:Cal K mg "_law_great_plan" ["_law_bag_here","_law_many"] dm t.kX t.kJ
 gm:Cal K mg "_law_is_tile" ["_law_d","_law_kinds_here","_law_shape_here","_law_tile","_law_x","_law_y"] ff t.pj t.oW
 og:Cal K mg "_law_is_right" ["_law_bag_here","_law_d","_law_kinds_here","_law_plan_here"] ej t.n8 t.oh
 RQ:Cal K mg "law" ["_law_script"] ua t.N1 t.NK
 b9:mg "isinstance"=none
 xq:mg "int"=none
 Hr:mg "bool"=none
 Fw:mg "abs"=none
 gw:mg "tuple"=none
 eT:mg "len"=none
 HE:mg "all"=none
 K4:mg "list"=none
 RL:mg "zip"=none
 ni:mg "range"=none
 Lm:mg "min"=none
 NS:mg "max"=none
 N6:mg "sum"=none
 CQ:mg "MOST_KINDS"=some (.int 3 t.A2)
 Bh:mg "MOST_WITHIN"=some (.int 12 t.yL)
 DD:mg "MOST_PLANS"=some (.int 60 t.Bq)
 Bp:mg "LEAST_PARTS"=some (.int 2 t.yG)
 Dy:mg "MOST_PARTS"=some (.int 8 t.AY)
 mz:Ow K mg "NOUGHT" t.JI 0 0 1
 NL:Ow K mg "ONE" t.OP 1 0 1
structure EQ where
 P:Program
 w:World
 K:PySem.W.Frag
 mg:Str->Option Value
 base:Heap
 t:Adr
noncomputable abbrev FO(e:EQ)(k:Nat)(a:Addr)(d:FuncData)(ps:List Str)(sp:DSp):Prop:=mw e.P e.w e.K e.mg e.base CX0 k a d ps (spD e.K sp)
structure TX(e:EQ):Prop extends Txt e.K e.mg e.t where
 ns:e.base.NoSeer
 tr:e.P.given.tree=none
noncomputable abbrev ku(e:EQ):Prop:=FO e 41 e.t.yD e.t.zY ["thing"] eZ
noncomputable abbrev kP(e:EQ):Prop:=FO e 41 e.t.mR e.t.lT ["a","b"] oV
noncomputable abbrev qQ(e:EQ):Prop:=FO e 41 e.t.uP e.t.tM ["k"] x6
noncomputable abbrev nS(e:EQ):Prop:=FO e 43 e.t.wY e.t.w8 ["thing"] nH
noncomputable abbrev gM(e:EQ):Prop:=FO e 42 e.t.lP e.t.lM ["a","b","c"] zo
noncomputable abbrev iI(e:EQ):Prop:=FO e 43 e.t.E2 e.t.EU ["a","b","c"] cD
noncomputable abbrev uO(e:EQ):Prop:=FO e 44 e.t.Kq e.t.JZ ["x","y"] cP
noncomputable abbrev CI(e:EQ):Prop:=FO e 44 e.t.KR e.t.Ku ["x","y"] rD
noncomputable abbrev lW(e:EQ):Prop:=FO e 44 e.t.IM e.t.Hv ["d","x","y"] dw
noncomputable abbrev DQ(e:EQ):Prop:=FO e 45 e.t.Kv e.t.K6 ["d","x","y"] nL
noncomputable abbrev iP(e:EQ):Prop:=FO e 44 e.t.zP e.t.zH ["d","x"] cj
noncomputable abbrev AE(e:EQ):Prop:=FO e 42 e.t.BQ e.t.BB ["d","x"] hW
noncomputable abbrev ir(e:EQ):Prop:=FO e 41 e.t.oE e.t.ou ["d","a","b"] ur
noncomputable abbrev xx(e:EQ):Prop:=FO e 42 e.t.yu e.t.yK ["d","x","y"] nB
noncomputable abbrev jK(e:EQ):Prop:=FO e 44 e.t.kv e.t.kr ["d","thing"] tX
noncomputable abbrev mO(e:EQ):Prop:=FO e 42 e.t.nZ e.t.oi ["d","x"] mG
noncomputable abbrev u6(e:EQ):Prop:=FO e 45 e.t.xj e.t.wQ ["tile"] uT
noncomputable abbrev wF(e:EQ):Prop:=FO e 45 e.t.zu e.t.zD ["d","thing"] u5
noncomputable abbrev mH(e:EQ):Prop:=FO e 46 e.t.om e.t.ot ["d","thing"] kG
noncomputable abbrev yZ(e:EQ):Prop:=FO e 44 e.t.Cm e.t.B4 ["thing","many"] qK
noncomputable abbrev xk(e:EQ):Prop:=FO e 43 e.t.zF e.t.zI ["thing","many"] Ds
noncomputable abbrev xu(e:EQ):Prop:=FO e 42 e.t.yM e.t.Aa ["thing"] uj
noncomputable abbrev kB(e:EQ):Prop:=FO e 41 e.t.zQ e.t.zA ["plan"] um
noncomputable abbrev oB(e:EQ):Prop:=FO e 45 e.t.o7 e.t.o5 ["thing","many"] ny
noncomputable abbrev zT(e:EQ):Prop:=FO e 59 e.t.jA e.t.jy ["d","shapes","plan"] (iC 13)
noncomputable abbrev vq(e:EQ):Prop:=FO e 45 e.t.EX e.t.Fb ["shapes"] uc
noncomputable abbrev y6(e:EQ):Prop:=FO e 62 e.t.BE e.t.Cb ["d","kinds","plan","x","y"] i4
noncomputable abbrev n6(e:EQ):Prop:=FO e 47 e.t.oU e.t.oX ["d","shape","x","y"] nq
noncomputable abbrev nQ(e:EQ):Prop:=FO e 46 e.t.w9 e.t.wV ["d","box","x","y"] pM
noncomputable abbrev tV(e:EQ):Prop:=FO e 41 e.t.wL e.t.wM ["quarters"] DX
noncomputable abbrev zg(e:EQ):Prop:=FO e 61 e.t.Cf e.t.B2 ["d","kinds","plan","quarters","box","x","y"] vk
noncomputable abbrev pJ(e:EQ):Prop:=FO e 60 e.t.qR e.t.q9 ["d","kinds","plan","quarters","box"] uA
noncomputable abbrev yk(e:EQ):Prop:=FO e 41 e.t.BF e.t.BK ["box"] fW
noncomputable abbrev n4(e:EQ):Prop:=FO e 45 e.t.qi e.t.qe ["d","sizes","box","backward"] iA
noncomputable abbrev yB(e:EQ):Prop:=FO e 47 e.t.Cg e.t.B7 ["d","plan","quarters","box","x","y"] tQ
noncomputable abbrev rp(e:EQ):Prop:=FO e 46 e.t.u7 e.t.uQ ["d","plan","quarters","box"] yf
noncomputable abbrev wO(e:EQ):Prop:=FO e 45 e.t.zi e.t.zj ["d","box","width","height","column","row"] uB
noncomputable abbrev xp(e:EQ):Prop:=FO e 41 e.t.yr e.t.yU ["_law_script","_law_at"] HV
noncomputable abbrev cG(e:EQ):Prop:=FO e 41 e.t.wR e.t.xy ["_law_bag_here","_law_many"] b4
noncomputable abbrev dM(e:EQ):Prop:=FO e 41 e.t.oD e.t.nY ["_law_thing"] eZ
noncomputable abbrev jD(e:EQ):Prop:=FO e 41 e.t.qZ e.t.rh ["_law_one","_law_other"] oV
noncomputable abbrev cV(e:EQ):Prop:=FO e 42 e.t.zE e.t.Ay ["_law_a","_law_b","_law_c"] cD
noncomputable abbrev kS(e:EQ):Prop:=FO e 42 e.t.lK e.t.mI ["_law_thing"] nH
noncomputable abbrev fA(e:EQ):Prop:=FO e 43 e.t.xn e.t.wW ["_law_x","_law_y"] cP
noncomputable abbrev iN(e:EQ):Prop:=FO e 41 e.t.uG e.t.uL ["_law_x"] qJ
noncomputable abbrev eN(e:EQ):Prop:=FO e 43 e.t.uC e.t.tW ["_law_d","_law_x","_law_y"] dw
noncomputable abbrev dE(e:EQ):Prop:=FO e 43 e.t.oA e.t.oF ["_law_d","_law_x"] cj
noncomputable abbrev gD(e:EQ):Prop:=FO e 41 e.t.xb e.t.xw ["_law_d","_law_x"] hW
noncomputable abbrev kY(e:EQ):Prop:=FO e 44 e.t.uW e.t.tS ["_law_d","_law_x","_law_y"] gT
noncomputable abbrev uf(e:EQ):Prop:=FO e 42 e.t.wC e.t.xl ["_law_bag_here"] ye
noncomputable abbrev pA(e:EQ):Prop:=FO e 43 e.t.rm e.t.qP ["_law_bag_here"] qw
noncomputable abbrev rk(e:EQ):Prop:=FO e 44 e.t.ve e.t.tP ["_law_bag_here","_law_d"] pP
noncomputable abbrev rB(e:EQ):Prop:=FO e 45 e.t.tL e.t.uE ["_law_bag_here","_law_d"] uD
noncomputable abbrev kW(e:EQ):Prop:=FO e 42 e.t.mP e.t.mC ["_law_bag_here"] zS
noncomputable abbrev uJ(e:EQ):Prop:=FO e 43 e.t.xt e.t.xh ["_law_bag_here","_law_many"] yc
noncomputable abbrev pD(e:EQ):Prop:=FO e 44 e.t.zf e.t.yA ["_law_some"] uc
noncomputable abbrev Bv(e:EQ):Prop:=FO e 58 e.t.fy e.t.fD ["_law_d","_law_kinds_here","_law_plan_here"] (eK 13)
noncomputable abbrev mE(e:EQ):Prop:=FO e 73 e.t.dc e.t.dg ["_law_thing","_law_many","_law_deep"] (dP 31)
noncomputable abbrev kM(e:EQ):Prop:=FO e 74 e.t.lO e.t.lR ["_law_thing","_law_many"] jz
noncomputable abbrev rq(e:EQ):Prop:=FO e 45 e.t.uH e.t.uV ["_law_d","_law_tile","_law_x","_law_y"] mD
noncomputable abbrev n5(e:EQ):Prop:=FO e 44 e.t.o8 e.t.pV ["_law_bag_here","_law_d","_law_x"] jR
noncomputable abbrev jn(e:EQ):Prop:=FO e 74 e.t.jV e.t.jN ["_law_bag_here","_law_d","_law_kinds_here","_law_plan_here"] Hz
noncomputable abbrev jI(e:EQ):Prop:=FO e 75 e.t.kX e.t.kJ ["_law_bag_here","_law_many"] ya
noncomputable abbrev n9(e:EQ):Prop:=FO e 46 e.t.pj e.t.oW ["_law_d","_law_kinds_here","_law_shape_here","_law_tile","_law_x","_law_y"] fX
noncomputable abbrev l4(e:EQ):Prop:=FO e 63 e.t.n8 e.t.oh ["_law_bag_here","_law_d","_law_kinds_here","_law_plan_here"] kR
noncomputable abbrev Lk(e:EQ):Prop:=FO e 76 e.t.N1 e.t.NK ["_law_script"] zL
section
variable {e:EQ}
theorem Em:aD ["thing"] ["thing"] (ay j7):=ck
theorem Fv(T:TX e):ku e:=by
 have S:=Em
 exact T.ij.f.okD S (fun ds U Q h=>wU h) (fun cdv A outer s H E hr=>⟨kE,(aj (aA (dW (iz (Ik _) rfl T.b9 rfl T.xq PyProof.Rows.Boot.«int» (dv 0)) (fV (CW (iz (yS _) rfl T.b9 rfl T.Hr PyProof.Rows.Boot.«bool» (dv 0))))))),fun ds U Qd h=>wX h⟩)
theorem uY:aD ["a","b"] ["a","b"] (ay dJ):=ck
theorem uX(T:TX e):kP e:=by
 have S:=uY
 exact T.iE.f.okD S (fun ds U Q h=>Cj h) (fun cdv A outer s H E hr=>⟨gy,(ai (pq PassesOwn.never (aF (km hr.units) aP (dv 1) af (aB _)) (aj (jO (i:=0) (j:=1) rfl S.nd rfl rfl ⋯ rfl rfl (aa (dv 1) (aa (fS (dv 0) (dv 1)) ag)) rfl)))
  (aj (aA (yI rfl T.Fw (aa (dv 0) ag))))),fun ds U Qd h=>tO h⟩)
theorem Bi:aD ["k","guess"] ["k"] (ay gH):=ck
theorem By(T:TX e):qQ e:=by
 have S:=Bi
 exact T.uN.f.okD S (fun ds U Q h=>FT h) (fun cdv A outer s H E hr=>⟨kZ,(ai (aL (i:=1) S.nd (MX af (eS (gS T.ns T.tr hr) (cb (Nm (dv 0)) af) af)))
  (ai (pq PassesOwn.never (aF gI cN (aU (dv 1) (dv 1)) (dv 0) (aB _)) (aj (aL (i:=1) S.nd (eS (gS T.ns T.tr hr) (cb (dv 1) (eS (gS T.ns T.tr hr) (dv 0) (dv 1))) af))))
  (aj (aA (dv 1))))),fun ds U Qd h=>A3 h⟩)
theorem vy:aD ["d","a","b","prevailing"] ["d","a","b"] (ay eG):=ck
theorem vV(T:TX e):ir e:=by
 have S:=vy
 exact T.jk.f.okD S (fun ds U Q h=>F2 h) (fun cdv A outer s H E hr=>⟨il,(ai (aY (DW.dt (lE (aF (aX hr.units) aP (dv 1) af (aB _)) (kK (aF (aX hr.units) aP (dv 2) af (aB _))))) (aj (aA af)) aH)
  (ai (aY (DW.dt (lE (aF xi cN (dv 1) af (aB _)) (kK (aF xi cN (dv 2) af (aB _))))) (aj (aA af)) aH)
  (ai (aY (DW.dt (lE (aF uZ cN (dv 1) af (aB _)) (kK (aF uZ cN (dv 2) af (aB _))))) (aj (aA (sS af))) aH)
  (ai (aL (i:=3) S.nd (oR (aF gI cN (aU (dv 1) (dv 1)) (aU (aU (dv 0) (dv 2)) (dv 2)) (aB _)) (dv 1) (dv 2)))
  (aj (aA (oR (aF gI cN (dv 3) af (aB _)) af (sS af)))))))),fun ds U Qd h=>wx h⟩)
theorem E6:aD ["plan","word"] ["plan"] (ay jS):=ck
theorem Fy(T:TX e):kB e:=by
 have S:=E6
 exact T.sA.f.okD S (fun ds U Q h=>F5 h) (fun cdv A outer s H E hr=>⟨qh,(ai (aL (i:=1) S.nd (ar (dv 0) af))
  (ai (aY (aF (aX hr.units) aP (dv 1) cg (aB _)) (aj (aA (cJ ag))) aH)
  (ai (aY (DW.dt (dO (aF (aX hr.units) aP (dv 1) cg (aB _)) (d7 (aF (aX hr.units) aP (dv 1) cg (aB _))))) (aj (aA (Iz rfl T.K4 (aa (ar (dv 0) af) ag)))) aH)
  (aj (aA (cJ (aa (ar (dv 0) (sS af)) ag))))))),fun ds U Qd h=>Fl h⟩)
theorem CZ:aD ["quarters"] ["quarters"] (ay iO):=ck
theorem Dv(T:TX e):tV e:=by
 have S:=CZ
 exact T.xc.f.okD S (fun ds U Q h=>G7 h) (fun cdv A outer s H E hr=>⟨nC,(aj (aA (fS (cb (dv 0) af) af))),fun ds U Qd h=>DM h⟩)
theorem Ha:aD ["box","x","y","width","height"] ["box"] (ay lS):=ck
theorem G3(T:TX e):yk e:=by
 have S:=Ha
 exact T.v7.f.okD S (fun ds U Q h=>yv h) (fun cdv A outer s H E hr=>⟨rR,(ai (ja (dv 0) (gF (n:=4) rfl (aO (cp (i:=1) S.nd) (aO (cp (i:=2) S.nd) (aO (cp (i:=3) S.nd) (aO (cp (i:=4) S.nd) eW))))))
  (aj (aA (bG (aa (dv 2) (aa (dv 1) (aa (dv 4) (aa (dv 3) ag)))))))),fun ds U Qd h=>GW h⟩)
theorem EI:aD ["_law_script","_law_at","_law_cell","_law_great","_law_primes","_law_mixed"] ["_law_script","_law_at"] (ay ki):=ck
theorem FY(T:TX e):xp e:=by
 have S:=EI
 exact T.Ad.f.okD S (fun ds U Q h=>Js h) (fun cdv A outer s H E hr=>⟨pS,(ai (aL (i:=2) S.nd af)
  (ai (aY (aF kf cN (dv 1) (cT rfl T.eT (aa (dv 0) ag)) (aB _)) (aj (aL (i:=2) S.nd (ar (dv 0) (dv 1)))) aH)
  (ai (aL (i:=3) S.nd af)
  (ai (aY (aF xi cN (yI rfl T.Fw (aa (dv 2) ag)) (vA af af) (aB _)) (aj (aL (i:=3) S.nd (yI rfl T.Fw (aa (dv 2) ag)))) aH)
  (ai (aL (i:=4) S.nd (cJ (aa af (aa af (aa af (aa af (aa af (aa af (aa af (aa af ag))))))))))
  (ai (aL (i:=5) S.nd (cb (cb (cb (aU (fS (dv 2) af) af) (aU (aU af (dv 1)) (dv 1))) (aU af (dv 1))) af))
  (aj (aA (uM (aa (dv 3) (aa (fS (dv 5) (ar (dv 4) (fS (dv 1) af))) ag))))))))))),fun ds U Qd h=>F0 h⟩)
theorem C9:aD ["_law_bag_here","_law_many","_law_digit"] ["_law_bag_here","_law_many"] (ay iT):=ck
theorem CY(T:TX e):cG e:=by
 have S:=C9
 exact T.aJ.f.okD S (fun ds U Q h=>Hk h) (fun cdv A outer s H E hr=>⟨nU,(ai (aY (aF gI cN (ar (dv 0) af) af (aB _)) (ai (aL (i:=2) S.nd (fS (ar (dv 0) af) (dv 1)))
  (ai (ja (eS (gS T.ns T.tr hr) (ar (dv 0) af) (dv 1)) (JY (dv 0) af))
  (aj (aA (dv 2))))) aH)
  (ai (ja (fS (cb (aU (ar (dv 0) af) af) af) af) (JY (dv 0) af))
  (aj (aA (fS (eS (gS T.ns T.tr hr) (fS (vA (ar (dv 0) af) af) af) af) (dv 1)))))),fun ds U Qd h=>Dg h⟩)
theorem wz:aD ["_law_thing"] ["_law_thing"] (ay ey):=ck
theorem wc(T:TX e):dM e:=by
 have S:=wz
 exact T.d9.f.okD S (fun ds U Q h=>wU h) (fun cdv A outer s H E hr=>⟨mK,(aj (aA (dW (iz (Ik _) rfl T.b9 rfl T.xq PyProof.Rows.Boot.«int» (dv 0)) (fV (CW (iz (yS _) rfl T.b9 rfl T.Hr PyProof.Rows.Boot.«bool» (dv 0))))))),fun ds U Qd h=>we h⟩)
theorem yz:aD ["_law_one","_law_other"] ["_law_one","_law_other"] (ay fK):=ck
theorem Ax(T:TX e):jD e:=by
 have S:=yz
 exact T.fI.f.okD S (fun ds U Q h=>Cj h) (fun cdv A outer s H E hr=>⟨j0,(ai (jO (i:=0) (j:=1) rfl S.nd rfl rfl ⋯ rfl rfl (aa (yI rfl T.Fw (aa (dv 0) ag)) (aa (yI rfl T.Fw (aa (dv 1) ag)) ag)) rfl)
  (ai (pq PassesOwn.never (aF gI cN (dv 1) af (aB _)) (aj (jO (i:=0) (j:=1) rfl S.nd rfl rfl ⋯ rfl rfl (aa (dv 1) (aa (fS (dv 0) (dv 1)) ag)) rfl)))
  (aj (aA (dv 0))))),fun ds U Qd h=>zV h⟩)
theorem Bl:aD ["_law_x"] ["_law_x"] (ay gQ):=ck
theorem AK(T:TX e):iN e:=by
 have S:=Bl
 exact T.jr.f.okD S (fun ds U Q h=>ES h) (fun cdv A outer s H E hr=>⟨lC,(aj (aA (bG (aa (eO af (ar (dv 0) af)) (aa (eO af (ar (dv 0) af)) (aa (ar (dv 0) af) ag)))))),fun ds U Qd h=>AS h⟩)
theorem CC:aD ["_law_d","_law_x","_law_first","_law_second","_law_sides"] ["_law_d","_law_x"] (ay i7):=ck
theorem DY(T:TX e):gD e:=by
 have S:=CC
 exact T.gi.f.okD S (fun ds U Q h=>zm h) (fun cdv A outer s H E hr=>⟨nM,(ai (jO (i:=2) (j:=3) rfl S.nd rfl rfl ⋯ rfl rfl (aa (aU (ar (dv 1) af) (ar (dv 1) af)) (aa (aU (aU (dv 0) (ar (dv 1) af)) (ar (dv 1) af)) ag)) rfl)
  (ai (aL (i:=4) S.nd (cJ (aa (eO (lQ rfl T.xq (aa (cI gI cN (ar (dv 1) af) af (aB _)) ag)) (lQ rfl T.xq (aa (cI kf cN (ar (dv 1) af) af (aB _)) ag))) (aa (eO (lQ rfl T.xq (aa (cI gI cN (ar (dv 1) af) af (aB _)) ag)) (lQ rfl T.xq (aa (cI kf cN (ar (dv 1) af) af (aB _)) ag))) ag))))
  (ai (aY (aF xi cN (aU (ar (dv 4) af) (ar (dv 4) af)) af (aB _)) (aj (aA (oR (aF (km hr.units) aP (ar (dv 4) af) af (aB _)) (ar (dv 4) af) (ar (dv 4) af)))) aH)
  (aj (aA (oR (aF gI cN (dv 2) (dv 3) (aB _)) (ar (dv 4) af) (ar (dv 4) af))))))),fun ds U Qd h=>Cv h⟩)
theorem vg:aD ["a","b","c"] ["a","b","c"] (ay dF):=ck
theorem vn(T:TX e)(fz:kP e):gM e:=by
 have S:=vg
 exact T.iD.f.okD S (fun ds U Q h=>GK h) (fun cdv A outer s H E hr=>⟨gU,(aj (aA (ah fz hr T.iE (aa (ah fz hr T.iE (aa (dv 2) (aa (dv 0) ag))) (aa (dv 1) ag))))),fun ds U Qd h=>vb h⟩)
theorem Gi:aD ["d","x"] ["d","x"] (ay l9):=ck
theorem G6(T:TX e)(de:ir e):AE e:=by
 have S:=Gi
 exact T.B5.f.okD S (fun ds U Q h=>zm h) (fun cdv A outer s H E hr=>⟨sZ,(aj (aA (ah de hr T.jk (aa (dv 0) (aa (ar (dv 1) af) (aa (ar (dv 1) af) ag)))))),fun ds U Qd h=>GN h⟩)
theorem Fe:aD ["d","x","y","a","b"] ["d","x","y"] (ay j5):=ck
theorem FA(T:TX e)(de:ir e):xx e:=by
 have S:=Fe
 exact T.kc.f.okD S (fun ds U Q h=>FP h) (fun cdv A outer s H E hr=>⟨o6,(ai (aL (i:=3) S.nd (eO (aU (ar (dv 1) af) (ar (dv 2) af)) (aU (ar (dv 2) af) (ar (dv 1) af))))
  (ai (aL (i:=4) S.nd (eO (aU (ar (dv 1) af) (ar (dv 2) af)) (aU (ar (dv 2) af) (ar (dv 1) af))))
  (aj (aA (cI (aX hr.units) aP (ah de hr T.jk (aa (dv 0) (aa (dv 3) (aa (dv 4) ag)))) af (aB _)))))),fun ds U Qd h=>Fs h⟩)
theorem vp:aD ["d","x","a","b","c","beneath"] ["d","x"] (ay eJ):=ck
theorem wg(T:TX e)(nO:qQ e):mO e:=by
 have S:=vp
 exact T.jh.f.okD S (fun ds U Q h=>Bb h) (fun cdv A outer s H E hr=>⟨iy,(ai (ja (dv 1) (gF (n:=3) rfl (aO (cp (i:=2) S.nd) (aO (cp (i:=3) S.nd) (aO (cp (i:=4) S.nd) eW)))))
  (ai (aL (i:=5) S.nd (ah nO hr T.uN (aa (aU (aU (dv 0) (dv 3)) (dv 3)) ag)))
  (ai (aY (aF kf cN (dv 3) af (aB _)) (aj (aL (i:=5) S.nd (eO (sS (dv 5)) af))) aH)
  (aj (aA (eS (gS T.ns T.tr hr) (cb (dv 2) (dv 5)) (dv 4))))))),fun ds U Qd h=>vx h⟩)
theorem EH:aD ["thing"] ["thing"] (ay jZ):=ck
theorem Fn(T:TX e)(cZ:ku e):xu e:=by
 have S:=EH
 exact T.su.f.okD S (fun ds U Q h=>FZ h) (fun cdv A outer s H E hr=>⟨oY,(aj (aA (dW (ah cZ hr T.ij (aa (dv 0) ag)) (fV (cI xi cN (dv 0) af (aB _)))))),fun ds U Qd h=>E1 h⟩)
theorem Fo:aD ["_law_a","_law_b","_law_c","_law_common"] ["_law_a","_law_b","_law_c"] (ay j4):=ck
theorem FJ(T:TX e)(cU:jD e):cV e:=by
 have S:=Fo
 exact T.d6.f.okD S (fun ds U Q h=>tU h) (fun cdv A outer s H E hr=>⟨qa,(ai (aL (i:=3) S.nd (aU (ah cU hr T.fI (aa (ah cU hr T.fI (aa (dv 0) (aa (dv 1) ag))) (aa (dv 2) ag))) (ar (cJ (aa af (aa (sS af) ag))) (lQ rfl T.xq (aa (cI kf cN (dv 2) af (aB _)) ag)))))
  (aj (aA (bG (aa (eS (gS T.ns T.tr hr) (dv 0) (dv 3)) (aa (eS (gS T.ns T.tr hr) (dv 1) (dv 3)) (aa (eS (gS T.ns T.tr hr) (dv 2) (dv 3)) ag))))))),fun ds U Qd h=>Gh h⟩)
theorem uK:aD ["_law_thing"] ["_law_thing"] (ay dI):=ck
theorem vc(T:TX e)(au:dM e)(cU:jD e):kS e:=by
 have S:=uK
 exact T.lN.f.okD S (fun ds U Q h=>zM h) (fun cdv A outer s H E hr=>⟨gX,(ai (aY (DW.dt (dO (cM (bY (iz (kit_tuple _) rfl T.b9 rfl T.gw PyProof.Rows.Boot.«tuple» (dv 0)))) (dO (aF (km hr.units) aP (cT rfl T.eT (aa (dv 0) ag)) af (aB _)) (d7 (cM (bY (C8 rfl rfl T.HE (aa (BR (N':=["_law_one"]) (cap:=[none]) rfl (rM (dv 0)) (fun _ _ _=>(dQ 0)) (fun _ _ _=>cK) (fun _ _ _=>(ah au hr T.d9 (aa (dv 0) ag)))) ag)))))))) (aj (aA gj)) aH)
  (aj (aA (dW (cI gI cN (ar (dv 0) af) af (aB _)) (fV (cI (aX hr.units) aP (ah cU hr T.fI (aa (ah cU hr T.fI (aa (ar (dv 0) af) (aa (ar (dv 0) af) ag))) (aa (ar (dv 0) af) ag))) af (aB _))))))),fun ds U Qd h=>uI h⟩)
theorem C5:aD ["_law_bag_here","_law_some"] ["_law_bag_here"] (ay iS):=ck
theorem Eh(T:TX e)(az:cG e):uf e:=by
 have S:=C5
 exact T.xA.f.okD S (fun ds U Q h=>E4 h) (fun cdv A outer s H E hr=>⟨nh,(ai (aY (aF (aX hr.units) aP (ah az hr T.aJ (aa (dv 0) (aa af ag))) af (aB _)) (aj (aA (ar (cJ (aa af (aa af (aa af ag)))) (ah az hr T.aJ (aa (dv 0) (aa af ag)))))) aH)
  (ai (AD (i:=1) (N':=["_law_d"]) (cap:=[none]) S.nd rfl rfl rfl (MN rfl T.ni (aa af (aa af ag))) (fun _ _ _=>(dQ 0)) (fun _ _ _=>(EG (aF (JB hr.units) Kj (dv 0) (cJ (aa af (aa af (aa af (aa af ag))))) (by with_unfolding_all rfl)))) (fun _ _ _=>(dv 0)))
  (aj (aA (ar (dv 1) (ah az hr T.aJ (aa (dv 0) (aa af ag)))))))),fun ds U Qd h=>Cw h⟩)
theorem ui:aD ["_law_bag_here"] ["_law_bag_here"] (ay dD):=ck
theorem va(T:TX e)(az:cG e):kW e:=by
 have S:=ui
 exact T.iK.f.okD S (fun ds U Q h=>Hu h) (fun cdv A outer s H E hr=>⟨gJ,(aj (aA (cb af (ah az hr T.aJ (aa (dv 0) (aa (ar (cJ (aa af (aa af (aa af (aa af (aa af (aa af (aa af (aa (vA af af) ag))))))))) (ah az hr T.aJ (aa (dv 0) (aa af ag)))) ag)))))),fun ds U Qd h=>uo h⟩)
theorem DZ:aD ["thing","a","b","c"] ["thing"] (ay i6):=ck
theorem Ed(T:TX e)(cZ:ku e)(cW:gM e):nS e:=by
 have S:=DZ
 exact T.kA.f.okD S (fun ds U Q h=>zM h) (fun cdv A outer s H E hr=>⟨nR,(ai (aY (DW.dt (dO (cM (bY (iz (kit_tuple _) rfl T.b9 rfl T.gw PyProof.Rows.Boot.«tuple» (dv 0)))) (d7 (aF (km hr.units) aP (cT rfl T.eT (aa (dv 0) ag)) af (aB _))))) (aj (aA gj)) aH)
  (ai (ja (dv 0) (gF (n:=3) rfl (aO (cp (i:=1) S.nd) (aO (cp (i:=2) S.nd) (aO (cp (i:=3) S.nd) eW)))))
  (ai (aY (DW.dt (dO (cM (bY (ah cZ hr T.ij (aa (dv 1) ag)))) (dO (cM (bY (ah cZ hr T.ij (aa (dv 2) ag)))) (d7 (cM (bY (ah cZ hr T.ij (aa (dv 3) ag)))))))) (aj (aA gj)) aH)
  (aj (aA (dW (cI xi cN (dv 3) af (aB _)) (fV (cI (aX hr.units) aP (ah cW hr T.iD (aa (dv 1) (aa (dv 2) (aa (dv 3) ag)))) af (aB _))))))))),fun ds U Qd h=>D9 h⟩)
theorem JM:aD ["a","b","c","divisor"] ["a","b","c"] (ay ql):=ck
theorem Ju(T:TX e)(cW:gM e):iI e:=by
 have S:=JM
 exact T.md.f.okD S (fun ds U Q h=>tU h) (fun cdv A outer s H E hr=>⟨wa,(ai (aY (aF (aX hr.units) aP (dv 2) af (aB _)) (aj pI) aH)
  (ai (aL (i:=3) S.nd (ah cW hr T.iD (aa (dv 0) (aa (dv 1) (aa (dv 2) ag)))))
  (ai (aY (aF kf cN (dv 2) af (aB _)) (aj (aL (i:=3) S.nd (sS (dv 3)))) aH)
  (aj (aA (bG (aa (eS (gS T.ns T.tr hr) (dv 0) (dv 3)) (aa (eS (gS T.ns T.tr hr) (dv 1) (dv 3)) (aa (eS (gS T.ns T.tr hr) (dv 2) (dv 3)) ag))))))))),fun ds U Qd h=>Je h⟩)
theorem F7:aD ["thing","many","word"] ["thing","many"] (ay jL):=ck
theorem FI(T:TX e)(nA:xu e)(cZ:ku e):xk e:=by
 have S:=F7
 exact T.yP.f.okD S (fun ds U Q h=>GV h) (fun cdv A outer s H E hr=>⟨pB,(ai (aY (DW.dt (dO (cM (bY (iz (kit_tuple _) rfl T.b9 rfl T.gw PyProof.Rows.Boot.«tuple» (dv 0)))) (d7 (aF kf cN (cT rfl T.eT (aa (dv 0) ag)) af (aB _))))) (aj (aA gj)) aH)
  (ai (aL (i:=2) S.nd (ar (dv 0) af))
  (ai (aY (aF (aX hr.units) aP (dv 2) cg (aB _)) (aj (aA (dW (cI (aX hr.units) aP (cT rfl T.eT (aa (dv 0) ag)) af (aB _)) (dW (ah nA hr T.su (aa (ar (dv 0) af) ag)) (fV (ah nA hr T.su (aa (ar (dv 0) af) ag))))))) aH)
  (ai (aY (aF (km hr.units) aP (cT rfl T.eT (aa (dv 0) ag)) af (aB _)) (aj (aA gj)) aH)
  (ai (aY (aF (aX hr.units) aP (dv 2) cg (aB _)) (aj (aA (dW (ah cZ hr T.ij (aa (ar (dv 0) af) ag)) (dW (cI xi cN (ar (dv 0) af) af (aB _)) (fV (cI kf cN (ar (dv 0) af) (dv 1) (aB _))))))) aH)
  (ai (aY (DW.dt (dO (aF (aX hr.units) aP (dv 2) cg (aB _)) (d7 (aF (aX hr.units) aP (dv 2) cg (aB _))))) (aj (aA (dW (iz (kit_tuple _) rfl T.b9 rfl T.gw PyProof.Rows.Boot.«tuple» (ar (dv 0) af)) (dW (cI xi cN (cT rfl T.eT (aa (ar (dv 0) af) ag)) (qA (u:=.int 2) rfl T.Bp ⟨_,rfl⟩ (fun _ _ _=>Rp.int 2)) (aB _)) (fV (cI uZ cN (cT rfl T.eT (aa (ar (dv 0) af) ag)) (qA (u:=.int 8) rfl T.Dy ⟨_,rfl⟩ (fun _ _ _=>Rp.int 8)) (aB _))))))) aH)
  (aj (aA (cI (aX hr.units) aP (dv 2) cg (aB _)))))))))),fun ds U Qd h=>Fz h⟩)
theorem Dt:aD ["_law_x","_law_y"] ["_law_x","_law_y"] (ay iQ):=ck
theorem DC(T:TX e)(aI:cV e):fA e:=by
 have S:=Dt
 exact T.cH.f.okD S (fun ds U Q h=>Aj h) (fun cdv A outer s H E hr=>⟨u4,(aj (aA (ah aI hr T.d6 (aa (cb (aU (ar (dv 0) af) (ar (dv 1) af)) (aU (ar (dv 1) af) (ar (dv 0) af))) (aa (cb (aU (ar (dv 0) af) (ar (dv 1) af)) (aU (ar (dv 1) af) (ar (dv 0) af))) (aa (aU (ar (dv 0) af) (ar (dv 1) af)) ag)))))),fun ds U Qd h=>Ee h⟩)
theorem Be:aD ["_law_d","_law_x","_law_y"] ["_law_d","_law_x","_law_y"] (ay gC):=ck
theorem AO(T:TX e)(aI:cV e):eN e:=by
 have S:=Be
 exact T.gL.f.okD S (fun ds U Q h=>xm h) (fun cdv A outer s H E hr=>⟨rj,(aj (aA (ah aI hr T.d6 (aa (cb (aU (ar (dv 1) af) (ar (dv 2) af)) (aU (aU (dv 0) (ar (dv 1) af)) (ar (dv 2) af))) (aa (cb (aU (ar (dv 1) af) (ar (dv 2) af)) (aU (ar (dv 1) af) (ar (dv 2) af))) (aa (aU (ar (dv 1) af) (ar (dv 2) af)) ag)))))),fun ds U Qd h=>Bj h⟩)
theorem vO:aD ["_law_d","_law_x"] ["_law_d","_law_x"] (ay eD):=ck
theorem wA(T:TX e)(aI:cV e):dE e:=by
 have S:=vO
 exact T.dh.f.okD S (fun ds U Q h=>pR h) (fun cdv A outer s H E hr=>⟨hZ,(aj (aA (ah aI hr T.d6 (aa (aU (ar (dv 1) af) (ar (dv 1) af)) (aa (eO af (aU (ar (dv 1) af) (ar (dv 1) af))) (aa (eO (aU (ar (dv 1) af) (ar (dv 1) af)) (aU (aU (dv 0) (ar (dv 1) af)) (ar (dv 1) af))) ag)))))),fun ds U Qd h=>wq h⟩)
theorem Ag:aD ["_law_bag_here","_law_wide","_law_a","_law_b","_law_c","_law_way"] ["_law_bag_here"] (ay fJ):=ck
theorem zX(T:TX e)(az:cG e)(aI:cV e):pA e:=by
 have S:=Ag
 exact T.qV.f.okD S (fun ds U Q h=>Bu h) (fun cdv A outer s H E hr=>⟨jJ,(ai (aL (i:=1) S.nd (ar (cJ (aa af (aa af (aa af (aa af ag))))) (ah az hr T.aJ (aa (dv 0) (aa af ag)))))
  (ai (jO (i:=2) (j:=3) rfl S.nd rfl rfl ⋯ rfl rfl (aa (eO (ah az hr T.aJ (aa (dv 0) (aa (dv 1) ag))) (eS (gS T.ns T.tr hr) (dv 1) af)) (aa (eO (ah az hr T.aJ (aa (dv 0) (aa (dv 1) ag))) (eS (gS T.ns T.tr hr) (dv 1) af)) ag)) rfl)
  (ai (aL (i:=4) S.nd (cb af (ah az hr T.aJ (aa (dv 0) (aa (eO (dv 1) af) ag)))))
  (ai (aL (i:=5) S.nd (ah az hr T.aJ (aa (dv 0) (aa af ag))))
  (aj (aA (ah aI hr T.d6 (aa (ar (cJ (aa (dv 2) (aa (dv 2) (aa (dv 2) (aa (dv 2) (aa (dv 2) (aa (dv 2) (aa (dv 2) (aa af ag))))))))) (dv 5)) (aa (ar (cJ (aa (dv 3) (aa (dv 3) (aa (dv 3) (aa (dv 3) (aa (dv 3) (aa af (aa af (aa (dv 3) ag))))))))) (dv 5)) (aa (ar (cJ (aa (dv 4) (aa (dv 4) (aa af (aa (dv 4) (aa af (aa (dv 4) (aa af (aa (dv 4) ag))))))))) (dv 5)) ag)))))))))),fun ds U Qd h=>yO h⟩)
theorem Eg:aD ["_law_bag_here","_law_many","_law_leaves","_law_parts","_law_turn","_law_deep","_law_size","_law_plan_here","_law_way","_law_whole","_law_count","_law_some","_law_inner","_law_sizes","_law_most"] ["_law_bag_here","_law_many"] (ay iV):=ck
theorem DB(T:TX e)(az:cG e)(fw:kW e):uJ e:=by
 have S:=Eg
 exact T.xa.f.okD S (fun ds U Q h=>F8 h) (fun cdv A outer s H E hr=>⟨nc,(ai (aL (i:=2) S.nd (cb af (ah az hr T.aJ (aa (dv 0) (aa (ar (cJ (aa af (aa af (aa af ag)))) (ah az hr T.aJ (aa (dv 0) (aa af ag)))) ag)))))
  (ai (Lo (i:=3) S.nd rfl (Or.inr rfl) (RB (N':=["_law_k","_law_bag_here","_law_many"]) (cap:=[none,some 0,some 1]) rfl (qL rfl T.ni (aa (dv 2) ag)) (fun _ _ _=>(dQ 0)) (fun _ _ _=>cK) (fun _ _ _=>(bG (aa af (aa af (aa (bG (aa cg (aa (ah az hr T.aJ (aa (dv 1) (aa (dv 2) ag))) ag))) ag)))))))
  (ai (lA PassesOwn.never rfl (qL rfl T.ni (aa af ag)) (cp (i:=4) S.nd) (ai (ja (Fu (dv 3) (ah az hr T.aJ (aa (dv 0) (aa (cT rfl T.eT (aa (dv 3) ag)) ag)))) (gF (n:=3) rfl (aO (cp (i:=5) S.nd) (aO (cp (i:=6) S.nd) (aO (cp (i:=7) S.nd) eW)))))
  (ai (aL (i:=8) S.nd (ah az hr T.aJ (aa (dv 0) (aa af ag))))
  (ai (aY (aF (aX hr.units) aP (dv 8) af (aB _)) (aj (aL (i:=9) S.nd (bG (aa (cb (dv 5) af) (aa (cb (dv 6) af) (aa (bG (aa cg (aa (dv 7) ag))) ag)))))) (aj (aY (aF (aX hr.units) aP (dv 8) af (aB _)) (aj (aL (i:=9) S.nd (bG (aa (cb (dv 5) af) (aa (cb (dv 6) af) (aa (bG (aa cg (aa (ah fw hr T.iK (aa (dv 0) ag)) (aa (ah fw hr T.iK (aa (dv 0) ag)) (aa (dv 7) ag))))) ag)))))) (ai (aL (i:=10) S.nd (Lb rfl rfl T.Lm (aa (cT rfl T.eT (aa (dv 3) ag)) (aa (cb af (ah az hr T.aJ (aa (dv 0) (aa (ar (cJ (aa af (aa af (aa af (aa af ag))))) (ah az hr T.aJ (aa (dv 0) (aa af ag)))) ag)))) ag))))
  (ai (aL (i:=11) S.nd (C2 (cJ (aa (bG (aa (dv 5) (aa (dv 6) (aa (dv 7) ag)))) ag)) (BJ (N':=["_law_k","_law_parts","_law_bag_here"]) (cap:=[none,some 3,some 0]) rfl (qL rfl T.ni (aa (dv 10) ag)) (fun _ _ _=>(dQ 0)) (fun _ _ _=>cK) (fun _ _ _=>(Fu (dv 1) (ah az hr T.aJ (aa (dv 2) (aa (cT rfl T.eT (aa (dv 1) ag)) ag))))))))
  (ai (aY (aF (aX hr.units) aP (cT rfl T.eT (aa (dv 11) ag)) af (aB _)) (aj (aL (i:=11) S.nd (C2 (dv 11) (dv 11)))) aH)
  (ai (aL (i:=12) S.nd (yq rfl T.gw (aa (BJ (N':=["_law_here","_law_many_in","_law_part"]) (cap:=[none,none,none]) rfl (eQ (dv 11)) (fun _ _ _=>(gF (n:=3) rfl (aO (dQ 0) (aO (dQ 1) (aO (dQ 2) eW))))) (fun _ _ _=>cK) (fun _ _ _=>(dv 2))) ag)))
  (ai (AD (i:=13) (N':=["_law_here","_law_many_in","_law_part"]) (cap:=[none,none,none]) S.nd rfl rfl rfl (eQ (dv 11)) (fun _ _ _=>(gF (n:=3) rfl (aO (dQ 0) (aO (dQ 1) (aO (dQ 2) eW))))) (fun _ _ _=>cK) (fun _ _ _=>(dv 1)))
  (ai (aL (i:=14) S.nd (cb af (NI rfl rfl T.NS (aa (BJ (N':=["_law_here","_law_many_in","_law_part"]) (cap:=[none,none,none]) rfl (eQ (dv 11)) (fun _ _ _=>(gF (n:=3) rfl (aO (dQ 0) (aO (dQ 1) (aO (dQ 2) eW))))) (fun _ _ _=>cK) (fun _ _ _=>(dv 0))) ag))))
  (aj (aL (i:=9) S.nd (bG (aa (dv 14) (aa (cb af (Lf rfl rfl T.N6 (aa (dv 13) ag))) (aa (bG (aa (ar (cJ (aa cg (aa cg ag))) (fS (dv 8) af)) (aa (dv 12) ag))) ag)))))))))))))))
  (ai (aY (DW.dt (dO (aF gI cN (ar (dv 9) af) af (aB _)) (d7 (aF gI cN (ar (dv 9) af) af (aB _))))) (aj (aA (dv 7))) aH)
  (ai (kC (mx (dv 3) (dv 9)))
  (aj (aY (DW.dt (lE (aF (aX hr.units) aP (cT rfl T.eT (aa (dv 3) ag)) af (aB _)) (kK (aF (aX hr.units) aP (ah az hr T.aJ (aa (dv 0) (aa af ag))) af (aB _))))) (aj (aA (ar (dv 9) af))) aH))))))))
  (aj (aA (ar (ar (dv 3) af) af)))))),fun ds U Qd h=>CL h⟩)
theorem MQ:aD ["x","y"] ["x","y"] (ay zw):=ck
theorem cA(T:TX e)(bF:iI e):uO e:=by
 have S:=MQ
 exact T.qc.f.okD S (fun ds U Q h=>Aj h) (fun cdv A outer s H E hr=>⟨CJ,(aj (aA (ah bF hr T.md (aa (cb (aU (ar (dv 0) af) (ar (dv 1) af)) (aU (ar (dv 1) af) (ar (dv 0) af))) (aa (cb (aU (ar (dv 0) af) (ar (dv 1) af)) (aU (ar (dv 1) af) (ar (dv 0) af))) (aa (aU (ar (dv 0) af) (ar (dv 1) af)) ag)))))),fun ds U Qd h=>Hx h⟩)
theorem MS:aD ["x","y"] ["x","y"] (ay Aq):=ck
theorem yg(T:TX e)(bF:iI e):CI e:=by
 have S:=MS
 exact T.Dq.f.okD S (fun ds U Q h=>GQ h) (fun cdv A outer s H E hr=>⟨D1,(aj (aA (ah bF hr T.md (aa (eO (aU (ar (dv 0) af) (ar (dv 1) af)) (aU (ar (dv 1) af) (ar (dv 0) af))) (aa (eO (aU (ar (dv 0) af) (ar (dv 1) af)) (aU (ar (dv 1) af) (ar (dv 0) af))) (aa (aU (ar (dv 0) af) (ar (dv 1) af)) ag)))))),fun ds U Qd h=>Mh h⟩)
theorem JT:aD ["d","x","y"] ["d","x","y"] (ay ub):=ck
theorem bL(T:TX e)(bF:iI e):lW e:=by
 have S:=JT
 exact T.qD.f.okD S (fun ds U Q h=>xm h) (fun cdv A outer s H E hr=>⟨yo,(aj (aA (ah bF hr T.md (aa (cb (aU (ar (dv 1) af) (ar (dv 2) af)) (aU (aU (dv 0) (ar (dv 1) af)) (ar (dv 2) af))) (aa (cb (aU (ar (dv 1) af) (ar (dv 2) af)) (aU (ar (dv 1) af) (ar (dv 2) af))) (aa (aU (ar (dv 1) af) (ar (dv 2) af)) ag)))))),fun ds U Qd h=>FE h⟩)
theorem Fg:aD ["d","x","norm"] ["d","x"] (ay kj):=ck
theorem dR(T:TX e)(bF:iI e):iP e:=by
 have S:=Fg
 exact T.ig.f.okD S (fun ds U Q h=>pR h) (fun cdv A outer s H E hr=>⟨qj,(ai (aL (i:=2) S.nd (eO (aU (ar (dv 1) af) (ar (dv 1) af)) (aU (aU (dv 0) (ar (dv 1) af)) (ar (dv 1) af))))
  (aj (aA (ah bF hr T.md (aa (aU (ar (dv 1) af) (ar (dv 1) af)) (aa (aU (sS (ar (dv 1) af)) (ar (dv 1) af)) (aa (dv 2) ag))))))),fun ds U Qd h=>Fh h⟩)
theorem rQ:aD ["d","thing"] ["d","thing"] (ay dk):=ck
theorem sQ(T:TX e)(fk:nS e)(vF:AE e):jK e:=by
 have S:=rQ
 exact T.kL.f.okD S (fun ds U Q h=>D5 h) (fun cdv A outer s H E hr=>⟨fR,(aj (aA (dW (ah fk hr T.kA (aa (dv 1) ag)) (fV (cI (aX hr.units) aP (ah vF hr T.B5 (aa (dv 0) (aa (dv 1) ag))) af (aB _)))))),fun ds U Qd h=>sX h⟩)
theorem Hg:aD ["thing","many","waiting","counted","plan","depth","part"] ["thing","many"] (ay lL):=ck
theorem GD(T:TX e)(tG:xk e)(bI:kB e):yZ e:=by
 have S:=Hg
 exact T.B6.f.okD S (fun ds U Q h=>Br h) (fun cdv A outer s H E hr=>⟨se,(ai (aL (i:=2) S.nd (uM (aa (bG (aa (dv 0) (aa af ag))) ag)))
  (ai (aL (i:=3) S.nd af)
  (ai (pq PassesOwn.never (MZ (dv 2)) (ai (ja (P5 (dv 2)) (gF (n:=2) rfl (aO (cp (i:=4) S.nd) (aO (cp (i:=5) S.nd) eW))))
  (ai (PK (i:=3) S.nd rfl (Or.inl rfl) af)
  (ai (aY (DW.dt (dO (aF gI cN (dv 3) (qA (u:=.int 60) rfl T.DD ⟨_,rfl⟩ (fun _ _ _=>Rp.int 60)) (aB _)) (dO (aF gI cN (dv 5) (qA (u:=.int 12) rfl T.Bh ⟨_,rfl⟩ (fun _ _ _=>Rp.int 12)) (aB _)) (d7 (cM (bY (ah tG hr T.yP (aa (dv 4) (aa (dv 1) ag))))))))) (aj (aA gj)) aH)
  (aj (lA PassesOwn.never rfl (eQ (ah bI hr T.sA (aa (dv 4) ag))) (cp (i:=6) S.nd) (aj (kC (mx (dv 2) (bG (aa (dv 6) (aa (cb (dv 5) af) ag))))))))))))
  (aj (aA gj))))),fun ds U Qd h=>Hl h⟩)
theorem Bk:aD ["_law_d","_law_x","_law_y"] ["_law_d","_law_x","_law_y"] (ay gG):=ck
theorem A1(T:TX e)(cw:gD e)(bq:fA e)(cR:iN e):kY e:=by
 have S:=Bk
 exact T.d5.f.okD S (fun ds U Q h=>El h) (fun cdv A outer s H E hr=>⟨lp,(aj (aA (cI gI cN (ah cw hr T.gi (aa (dv 0) (aa (ah bq hr T.cH (aa (dv 2) (aa (ah cR hr T.jr (aa (dv 1) ag)) ag))) ag))) af (aB _)))),fun ds U Qd h=>AX h⟩)
theorem Bm:aD ["_law_bag_here","_law_d","_law_x","_law_sign_here"] ["_law_bag_here","_law_d"] (ay gR):=ck
theorem AM(T:TX e)(lx:pA e)(cw:gD e)(az:cG e)(cR:iN e):rk e:=by
 have S:=Bm
 exact T.mZ.f.okD S (fun ds U Q h=>CG h) (fun cdv A outer s H E hr=>⟨lB,(ai (aL (i:=2) S.nd (ah lx hr T.qV (aa (dv 0) ag)))
  (ai (aL (i:=3) S.nd (ah cw hr T.gi (aa (dv 1) (aa (dv 2) ag))))
  (ai (aY (aF (aX hr.units) aP (dv 3) af (aB _)) (aj (aA (bG (aa (cb af (ah az hr T.aJ (aa (dv 0) (aa af ag)))) (aa af (aa af ag)))))) aH)
  (aj (aA (oR (aF gI cN (dv 3) af (aB _)) (dv 2) (ah cR hr T.jr (aa (dv 2) ag)))))))),fun ds U Qd h=>A4 h⟩)
theorem En:aD ["_law_some","_law_found","_law_one"] ["_law_some"] (ay jH):=ck
theorem Ew(T:TX e)(bq:fA e):pD e:=by
 have S:=En
 exact T.sJ.f.okD S (fun ds U Q h=>Co h) (fun cdv A outer s H E hr=>⟨xr,(ai (aL (i:=1) S.nd (bG (aa af (aa af (aa af ag)))))
  (ai (lA PassesOwn.never rfl (eQ (dv 0)) (cp (i:=2) S.nd) (aj (aL (i:=1) S.nd (ah bq hr T.cH (aa (dv 1) (aa (dv 2) ag))))))
  (aj (aA (dv 1))))),fun ds U Qd h=>Fp h⟩)
theorem xM:aD ["_law_bag_here","_law_d","_law_x","_law_wide"] ["_law_bag_here","_law_d","_law_x"] (ay fu):=ck
theorem xQ(T:TX e)(az:cG e)(aM:eN e)(aI:cV e):n5 e:=by
 have S:=xM
 exact T.fj.f.okD S (fun ds U Q h=>Du h) (fun cdv A outer s H E hr=>⟨ji,(ai (aL (i:=3) S.nd (ar (cJ (aa af (aa af (aa af (aa af (aa (vA af af) ag)))))) (ah az hr T.aJ (aa (dv 0) (aa af ag)))))
  (aj (aA (ah aM hr T.gL (aa (dv 1) (aa (dv 2) (aa (ah aI hr T.d6 (aa (ah az hr T.aJ (aa (dv 0) (aa (dv 3) ag))) (aa af (aa (dv 3) ag)))) ag))))))),fun ds U Qd h=>xI h⟩)
theorem L8:aD ["d","x","y"] ["d","x","y"] (ay Ai):=ck
theorem Mk(T:TX e)(b6:lW e)(aZ:iP e):DQ e:=by
 have S:=L8
 exact T.zr.f.okD S (fun ds U Q h=>Hn h) (fun cdv A outer s H E hr=>⟨C0,(ai (aY (aF (aX hr.units) aP (dv 2) (iU rfl T.mz) (aB _)) (aj pI) aH)
  (aj (aA (ah b6 hr T.qD (aa (dv 0) (aa (dv 1) (aa (ah aZ hr T.ig (aa (dv 0) (aa (dv 2) ag))) ag))))))),fun ds U Qd h=>Ms h⟩)
theorem CK:aD ["tile","x","y","width","height"] ["tile"] (ay i5):=ck
theorem Dr(T:TX e)(fZ:uO e):u6 e:=by
 have S:=CK
 exact T.xf.f.okD S (fun ds U Q h=>Dj h) (fun cdv A outer s H E hr=>⟨nX,(ai (ja (dv 0) (gF (n:=4) rfl (aO (cp (i:=1) S.nd) (aO (cp (i:=2) S.nd) (aO (cp (i:=3) S.nd) (aO (cp (i:=4) S.nd) eW))))))
  (aj (aA (bG (aa (dv 1) (aa (ah fZ hr T.qc (aa (dv 1) (aa (dv 3) ag))) (aa (dv 2) (aa (ah fZ hr T.qc (aa (dv 2) (aa (dv 4) ag))) ag)))))))),fun ds U Qd h=>D0 h⟩)
theorem EB:aD ["d","thing"] ["d","thing"] (ay kg):=ck
theorem EV(T:TX e)(gA:jK e):wF e:=by
 have S:=EB
 exact T.Aw.f.okD S (fun ds U Q h=>D6 h) (fun cdv A outer s H E hr=>⟨pU,(ai (aY (DW.dt (dO (cM (bY (iz (kit_tuple _) rfl T.b9 rfl T.gw PyProof.Rows.Boot.«tuple» (dv 1)))) (dO (aF kf cN (cT rfl T.eT (aa (dv 1) ag)) af (aB _)) (d7 (aF gI cN (cT rfl T.eT (aa (dv 1) ag)) (qA (u:=.int 3) rfl T.CQ ⟨_,rfl⟩ (fun _ _ _=>Rp.int 3)) (aB _)))))) (aj (aA gj)) aH)
  (aj (aA (C8 rfl rfl T.HE (aa (BR (N':=["kind","d"]) (cap:=[none,some 0]) rfl (rM (dv 1)) (fun _ _ _=>(dQ 0)) (fun _ _ _=>cK) (fun _ _ _=>(ah gA hr T.kL (aa (dv 1) (aa (dv 0) ag))))) ag))))),fun ds U Qd h=>FU h⟩)
theorem xV:aD ["thing","many"] ["thing","many"] (ay fe):=ck
theorem xK(T:TX e)(vK:yZ e):oB e:=by
 have S:=xV
 exact T.qf.f.okD S (fun ds U Q h=>yR h) (fun cdv A outer s H E hr=>⟨jc,(aj (aY (cM (bY (ah vK hr T.B6 (aa (dv 0) (aa (dv 1) ag))))) (aj pI) aH)),fun ds U Qd h=>xB h⟩)
theorem Jy:aD ["shapes","total","shape"] ["shapes"] (ay pb):=ck
theorem Jw(T:TX e)(fZ:uO e):vq e:=by
 have S:=Jy
 exact T.Ak.f.okD S (fun ds U Q h=>Co h) (fun cdv A outer s H E hr=>⟨vS,(ai (aL (i:=1) S.nd (iU rfl T.mz))
  (ai (lA PassesOwn.never rfl (eQ (dv 0)) (cp (i:=2) S.nd) (aj (aL (i:=1) S.nd (ah fZ hr T.qc (aa (dv 1) (aa (dv 2) ag))))))
  (aj (aA (dv 1))))),fun ds U Qd h=>Cp h⟩)
theorem xE:aD ["d","sizes","box","backward","x","y","width","height","boxes","start","size","high"] ["d","sizes","box","backward"] (ay fq):=ck
theorem xG(T:TX e)(fZ:uO e)(b6:lW e)(sN:CI e):n4 e:=by
 have S:=xE
 exact OU (T.j9.f.okD S (fun ds U Q h=>xT h) (fun cdv A outer s H E hr=>⟨je,(ai (ja (dv 2) (gF (n:=4) rfl (aO (cp (i:=4) S.nd) (aO (cp (i:=5) S.nd) (aO (cp (i:=6) S.nd) (aO (cp (i:=7) S.nd) eW))))))
  (ai (aL (i:=8) S.nd (uM ag))
  (ai (aL (i:=9) S.nd (oR (bY (dv 3)) (ah fZ hr T.qc (aa (dv 5) (aa (dv 7) ag))) (dv 5)))
  (ai (lA PassesOwn.never rfl (eQ (dv 1)) (cp (i:=10) S.nd) (ai (aL (i:=11) S.nd (ah b6 hr T.qD (aa (dv 0) (aa (dv 10) (aa (dv 6) ag)))))
  (ai (aY (bY (dv 3)) (aj (aL (i:=9) S.nd (ah sN hr T.Dq (aa (dv 9) (aa (dv 11) ag))))) aH)
  (ai (kC (mx (dv 8) (bG (aa (dv 4) (aa (dv 9) (aa (dv 6) (aa (dv 11) ag)))))))
  (aj (aY (cM (bY (dv 3))) (aj (aL (i:=9) S.nd (ah fZ hr T.qc (aa (dv 9) (aa (dv 11) ag))))) aH))))))
  (aj (aA (dv 8))))))),fun ds U Qd h=>xO h⟩)) (fun ds U Qd h=>vD h)
theorem FR:aD ["d","box","width","height","column","row","right","up"] ["d","box","width","height","column","row"] (ay kh):=ck
theorem FC(T:TX e)(b6:lW e)(fZ:uO e):wO e:=by
 have S:=FR
 exact T.zx.f.okD S (fun ds U Q h=>D7 h) (fun cdv A outer s H E hr=>⟨oP,(ai (aL (i:=6) S.nd (ah b6 hr T.qD (aa (dv 0) (aa (bG (aa (dv 4) (aa af (aa af ag)))) (aa (dv 2) ag)))))
  (ai (aL (i:=7) S.nd (ah b6 hr T.qD (aa (dv 0) (aa (bG (aa (dv 5) (aa af (aa af ag)))) (aa (dv 3) ag)))))
  (aj (aA (bG (aa (ah fZ hr T.qc (aa (ar (dv 1) af) (aa (dv 6) ag))) (aa (ah fZ hr T.qc (aa (ar (dv 1) af) (aa (dv 7) ag))) (aa (dv 2) (aa (dv 3) ag))))))))),fun ds U Qd h=>Ff h⟩)
theorem AU:aD ["_law_bag_here","_law_d","_law_found","_law_turn","_law_way","_law_part","_law_kind"] ["_law_bag_here","_law_d"] (ay gr):=ck
theorem Bc(T:TX e)(jw:rk e)(az:cG e)(aE:dE e)(aM:eN e)(aI:cV e):rB e:=by
 have S:=AU
 exact T.vm.f.okD S (fun ds U Q h=>CN h) (fun cdv A outer s H E hr=>⟨lF,(ai (aL (i:=2) S.nd (uM (aa (ah jw hr T.mZ (aa (dv 0) (aa (dv 1) ag))) ag)))
  (ai (lA PassesOwn.never rfl (qL rfl T.ni (aa (ah az hr T.aJ (aa (dv 0) (aa af ag))) ag)) (cp (i:=3) S.nd) (ai (aL (i:=4) S.nd (ah az hr T.aJ (aa (dv 0) (aa af ag))))
  (ai (aL (i:=5) S.nd (bG (aa (cb af (ah az hr T.aJ (aa (dv 0) (aa af ag)))) (aa af (aa (cb af (ah az hr T.aJ (aa (dv 0) (aa af ag)))) ag)))))
  (ai (aL (i:=6) S.nd (ar (cJ (aa (ar (dv 2) af) (aa (ah aE hr T.dh (aa (dv 1) (aa (ar (dv 2) af) ag))) ag))) (fS (dv 4) af)))
  (ai (aY (aF gI cN (dv 4) af (aB _)) (aj (aL (i:=6) S.nd (ah jw hr T.mZ (aa (dv 0) (aa (dv 1) ag))))) (aj (aY (aF gI cN (dv 4) af (aB _)) (aj (aL (i:=6) S.nd (ah aM hr T.gL (aa (dv 1) (aa (dv 6) (aa (ah aI hr T.d6 (aa (ar (dv 5) af) (aa (ar (dv 5) af) (aa (ar (dv 5) af) ag)))) ag)))))) aH)))
  (aj (kC (mx (dv 2) (dv 6)))))))))
  (aj (aA (yq rfl T.gw (aa (dv 2) ag)))))),fun ds U Qd h=>AR h⟩)
theorem BA:aD ["_law_d","_law_tile","_law_x","_law_y"] ["_law_d","_law_tile","_law_x","_law_y"] (ay gB):=ck
theorem Bx(T:TX e)(cF:kY e)(bq:fA e):rq e:=by
 have S:=BA
 exact T.uF.f.okD S (fun ds U Q h=>Bf h) (fun cdv A outer s H E hr=>⟨lG,(ai (aY (DW.dt (dO (bY (ah cF hr T.d5 (aa (dv 0) (aa (dv 2) (aa (ar (dv 1) af) ag))))) (d7 (bY (ah cF hr T.d5 (aa (dv 0) (aa (dv 3) (aa (ar (dv 1) af) ag)))))))) (aj (aA gj)) aH)
  (aj (aA (dW (ah cF hr T.d5 (aa (dv 0) (aa (dv 2) (aa (ah bq hr T.cH (aa (ar (dv 1) af) (aa (ar (dv 1) af) ag))) ag)))) (fV (ah cF hr T.d5 (aa (dv 0) (aa (dv 3) (aa (ah bq hr T.cH (aa (ar (dv 1) af) (aa (ar (dv 1) af) ag))) ag))))))))),fun ds U Qd h=>A8 h⟩)
theorem wy:aD ["d","thing"] ["d","thing"] (ay eC):=ck
theorem vB(T:TX e)(sO:wF e):mH e:=by
 have S:=wy
 exact T.oj.f.okD S (fun ds U Q h=>xF h) (fun cdv A outer s H E hr=>⟨ip,(aj (aY (cM (bY (ah sO hr T.Aw (aa (dv 0) (aa (dv 1) ag))))) (aj pI) aH)),fun ds U Qd h=>vC h⟩)
theorem DJ:aD ["d","box","x","y","left","right","bottom","top"] ["d","box","x","y"] (ay iW):=ck
theorem Dz(T:TX e)(pQ:u6 e)(iG:xx e):nQ e:=by
 have S:=DJ
 exact T.pO.f.okD S (fun ds U Q h=>C6 h) (fun cdv A outer s H E hr=>⟨nD,(ai (ja (ah pQ hr T.xf (aa (dv 1) ag)) (gF (n:=4) rfl (aO (cp (i:=4) S.nd) (aO (cp (i:=5) S.nd) (aO (cp (i:=6) S.nd) (aO (cp (i:=7) S.nd) eW))))))
  (ai (aY (DW.dt (dO (bY (ah iG hr T.kc (aa (dv 0) (aa (dv 4) (aa (dv 2) ag))))) (d7 (bY (ah iG hr T.kc (aa (dv 0) (aa (dv 6) (aa (dv 3) ag)))))))) (aj (aA gj)) aH)
  (aj (aA (dW (ah iG hr T.kc (aa (dv 0) (aa (dv 5) (aa (dv 2) ag)))) (fV (ah iG hr T.kc (aa (dv 0) (aa (dv 7) (aa (dv 3) ag)))))))))),fun ds U Qd h=>Cz h⟩)
theorem A5:aD ["d","plan","quarters","box","columns","rows"] ["d","plan","quarters","box"] (ay gv):=ck
theorem Ba(T:TX e)(p7:DQ e):rp e:=by
 have S:=A5
 exact T.vd.f.okD S (fun ds U Q h=>EA h) (fun cdv A outer s H E hr=>⟨lr,(ai (jO (i:=4) (j:=5) rfl S.nd rfl rfl ⋯ rfl rfl (aa (ar (dv 1) af) (aa (ar (dv 1) af) ag)) rfl)
  (ai (aY (aF (aX hr.units) aP (fS (dv 2) af) af (aB _)) (aj (jO (i:=4) (j:=5) rfl S.nd rfl rfl ⋯ rfl rfl (aa (dv 5) (aa (dv 4) ag)) rfl)) aH)
  (aj (aA (bG (aa (ah p7 hr T.zr (aa (dv 0) (aa (ar (dv 3) af) (aa (bG (aa (dv 4) (aa af (aa af ag)))) ag)))) (aa (ah p7 hr T.zr (aa (dv 0) (aa (ar (dv 3) af) (aa (bG (aa (dv 5) (aa af (aa af ag)))) ag)))) ag))))))),fun ds U Qd h=>AJ h⟩)
theorem xU:aD ["_law_d","_law_kinds_here","_law_shape_here","_law_tile","_law_x","_law_y","_law_kind","_law_right","_law_top"] ["_law_d","_law_kinds_here","_law_shape_here","_law_tile","_law_x","_law_y"] (ay ff):=ck
theorem xH(T:TX e)(ib:kS e)(au:dM e)(aE:dE e)(aM:eN e)(nG:rq e)(cw:gD e)(bq:fA e)(cF:kY e):n9 e:=by
 have S:=xU
 exact T.gm.f.okD S (fun ds U Q h=>yT h) (fun cdv A outer s H E hr=>⟨i8,(ai (aY (DW.dt (dO (cM (bY (iz (kit_tuple _) rfl T.b9 rfl T.gw PyProof.Rows.Boot.«tuple» (dv 3)))) (dO (aF (km hr.units) aP (cT rfl T.eT (aa (dv 3) ag)) af (aB _)) (d7 (cM (bY (C8 rfl rfl T.HE (aa (BR (N':=["_law_side"]) (cap:=[none]) rfl (rM (Eo (dv 3) LS (CD af))) (fun _ _ _=>(dQ 0)) (fun _ _ _=>cK) (fun _ _ _=>(ah ib hr T.lN (aa (dv 0) ag)))) ag)))))))) (aj (aA gj)) aH)
  (ai (aY (DW.dt (dO (cM (bY (ah au hr T.d9 (aa (ar (dv 3) af) ag)))) (dO (cM (EN uZ cN kf cN af (ar (dv 3) af) (cT rfl T.eT (aa (dv 1) ag)))) (d7 (cM (bY (iz (yS _) rfl T.b9 rfl T.Hr PyProof.Rows.Boot.«bool» (ar (dv 3) af)))))))) (aj (aA gj)) aH)
  (ai (aL (i:=6) S.nd (oR (bY (ar (dv 3) af)) (ah aE hr T.dh (aa (dv 0) (aa (ar (dv 1) (ar (dv 3) af)) ag))) (ar (dv 1) (ar (dv 3) af))))
  (ai (aY (DW.dt (dO (aF (km hr.units) aP (ah aM hr T.gL (aa (dv 0) (aa (dv 6) (aa (ar (dv 3) af) ag)))) (ar (dv 3) af) (aB _)) (d7 (cM (bY (ah nG hr T.uF (aa (dv 0) (aa (dv 3) (aa (dv 4) (aa (dv 5) ag)))))))))) (aj (aA gj)) aH)
  (ai (aY (DW.dt (dO (aF kf cN (ah cw hr T.gi (aa (dv 0) (aa (ar (dv 3) af) ag))) af (aB _)) (d7 (aF kf cN (ah cw hr T.gi (aa (dv 0) (aa (ar (dv 3) af) ag))) af (aB _))))) (aj (aA gj)) aH)
  (ai (jO (i:=7) (j:=8) rfl S.nd rfl rfl ⋯ rfl rfl (aa (ah bq hr T.cH (aa (ar (dv 3) af) (aa (ar (dv 3) af) ag))) (aa (ah bq hr T.cH (aa (ar (dv 3) af) (aa (ar (dv 3) af) ag))) ag)) rfl)
  (aj (aA (dW (CW (ah cF hr T.d5 (aa (dv 0) (aa (bG (aa af (aa af (aa af ag)))) (aa (dv 7) ag))))) (fV (CW (ah cF hr T.d5 (aa (dv 0) (aa (dv 2) (aa (dv 8) ag))))))))))))))),fun ds U Qd h=>xW h⟩)
theorem xS:aD ["d","shape","x","y"] ["d","shape","x","y"] (ay fg):=ck
theorem xN(T:TX e)(fk:nS e)(gb:nQ e):n6 e:=by
 have S:=xS
 exact T.qg.f.okD S (fun ds U Q h=>yy h) (fun cdv A outer s H E hr=>⟨jf,(aj (aY (DW.dt (dO (cM (bY (ah fk hr T.kA (aa (dv 2) ag)))) (dO (cM (bY (ah fk hr T.kA (aa (dv 3) ag)))) (d7 (cM (bY (ah gb hr T.pO (aa (dv 0) (aa (bG (aa (iU rfl T.mz) (aa (iU rfl T.mz) (aa (iU rfl T.NL) (aa (dv 1) ag))))) (aa (dv 2) (aa (dv 3) ag))))))))))) (aj pI) aH)),fun ds U Qd h=>xD h⟩)
theorem GJ:aD ["d","plan","quarters","box","x","y","width","height","column","row"] ["d","plan","quarters","box","x","y"] (ay mQ):=ck
theorem Gs(T:TX e)(nk:rp e)(fP:mO e)(p7:DQ e)(sN:CI e)(tm:wO e):yB e:=by
 have S:=GJ
 exact T.BO.f.okD S (fun ds U Q h=>CS h) (fun cdv A outer s H E hr=>⟨sH,(ai (ja (ah nk hr T.vd (aa (dv 0) (aa (dv 1) (aa (dv 2) (aa (dv 3) ag))))) (gF (n:=2) rfl (aO (cp (i:=6) S.nd) (aO (cp (i:=7) S.nd) eW))))
  (ai (aL (i:=8) S.nd (ah fP hr T.jh (aa (dv 0) (aa (ah p7 hr T.zr (aa (dv 0) (aa (ah sN hr T.Dq (aa (dv 4) (aa (ar (dv 3) af) ag))) (aa (dv 6) ag)))) ag))))
  (ai (aL (i:=9) S.nd (ah fP hr T.jh (aa (dv 0) (aa (ah p7 hr T.zr (aa (dv 0) (aa (ah sN hr T.Dq (aa (dv 5) (aa (ar (dv 3) af) ag))) (aa (dv 7) ag)))) ag))))
  (aj (aA (ah tm hr T.zx (aa (dv 0) (aa (dv 3) (aa (dv 6) (aa (dv 7) (aa (dv 8) (aa (dv 9) ag)))))))))))),fun ds U Qd h=>Gr h⟩)
theorem Bs:aD ["_law_d","_law_kinds_here","_law_plan_here","_law_shapes"] ["_law_d","_law_kinds_here","_law_plan_here"] (ay gP):=ck
theorem xC:FO e 45 e.t.fy e.t.fD ["_law_d","_law_kinds_here","_law_plan_here"] (eK 0):=
 ⟨fun vs H Q E h=>by obtain⟨ds,U,Qd,_,r,z,_⟩:=h;exact (BI z).elim,fun A outer s H args us vs Q E hr e0 hb hv h=>by obtain⟨ds,U,Qd,_,r,z,_⟩:=h;exact (BI z).elim⟩
theorem bE(T:TX e)(n k:Nat)(hk:45<=k)(aE:dE e)(aM:eN e)(aI:cV e)(b5:pD e)(d4:FO e k e.t.fy e.t.fD ["_law_d","_law_kinds_here","_law_plan_here"] (eK n)):mw e.P e.w e.K e.mg e.base CX0 (k+1) e.t.fy e.t.fD ["_law_d","_law_kinds_here","_law_plan_here"] (spD e.K (eK (n+1))):=by
 have S:=Bs
 exact T.gK.f.okD S (fun ds U Q h=>Cy h) (fun cdv A outer s H E hr=>⟨ly n,(ai (aY (aF (aX hr.units) aP (ar (dv 2) af) cg (aB _)) (aj (aA (ar (dv 1) (ar (dv 2) af)))) aH)
  (ai (aY (aF (aX hr.units) aP (ar (dv 2) af) cg (aB _)) (aj (aA (ah aE hr T.dh (h:=by omega) (aa (dv 0) (aa (ah d4 hr T.gK (h:=by omega) (aa (dv 0) (aa (dv 1) (aa (ar (dv 2) af) ag)))) ag))))) aH)
  (ai (aY (aF (aX hr.units) aP (ar (dv 2) af) cg (aB _)) (aj (aA (ah aM hr T.gL (h:=by omega) (aa (dv 0) (aa (ah d4 hr T.gK (h:=by omega) (aa (dv 0) (aa (dv 1) (aa (ar (dv 2) af) ag)))) (aa (ah aI hr T.d6 (h:=by omega) (aa (ar (dv 2) af) (aa af (aa (ar (dv 2) af) ag)))) ag)))))) aH)
  (ai (AD (i:=3) (N':=["_law_part","_law_d","_law_kinds_here"]) (cap:=[none,some 0,some 1]) S.nd rfl rfl rfl (rM (ar (dv 2) af)) (fun _ _ _=>(dQ 0)) (fun _ _ _=>cK) (fun _ _ _=>(ah d4 hr T.gK (h:=by omega) (aa (dv 1) (aa (dv 2) (aa (dv 0) ag))))))
  (ai (aY (aF (aX hr.units) aP (ar (dv 2) af) cg (aB _)) (aj (aA (ah b5 hr T.sJ (h:=by omega) (aa (dv 3) ag)))) aH)
  (aj (aA (ah aE hr T.dh (h:=by omega) (aa (dv 0) (aa (ah b5 hr T.sJ (h:=by omega) (aa (BJ (N':=["_law_shape_here","_law_d"]) (cap:=[none,some 0]) rfl (eQ (dv 3)) (fun _ _ _=>(dQ 0)) (fun _ _ _=>cK) (fun _ _ _=>(ah aE hr T.dh (h:=by omega) (aa (dv 1) (aa (dv 0) ag))))) ag)) ag)))))))))),fun ds U Qd h=>Bt n h⟩)
theorem AQ(T:TX e)(aE:dE e)(aM:eN e)(aI:cV e)(b5:pD e):FO e 58 e.t.fy e.t.fD ["_law_d","_law_kinds_here","_law_plan_here"] (eK 13):=(bE T 12 57 ⋯ aE aM aI b5 (bE T 11 56 ⋯ aE aM aI b5 (bE T 10 55 ⋯ aE aM aI b5 (bE T 9 54 ⋯ aE aM aI b5 (bE T 8 53 ⋯ aE aM aI b5 (bE T 7 52 ⋯ aE aM aI b5 (bE T 6 51 ⋯ aE aM aI b5 (bE T 5 50 ⋯ aE aM aI b5 (bE T 4 49 ⋯ aE aM aI b5 (bE T 3 48 ⋯ aE aM aI b5 (bE T 2 47 ⋯ aE aM aI b5 (bE T 1 46 ⋯ aE aM aI b5 (bE T 0 45 ⋯ aE aM aI b5 xC)))))))))))))
theorem Gm:aD ["d","shapes","plan","word","inner"] ["d","shapes","plan"] (ay lU):=ck
theorem CB:FO e 46 e.t.jA e.t.jy ["d","shapes","plan"] (iC 0):=
 ⟨fun vs H Q E h=>by obtain⟨ds,U,Qd,_,r,z,_⟩:=h;exact (Dm z).elim,fun A outer s H args us vs Q E hr e0 hb hv h=>by obtain⟨ds,U,Qd,_,r,z,_⟩:=h;exact (Dm z).elim⟩
theorem cf(T:TX e)(n k:Nat)(hk:46<=k)(bI:kB e)(aZ:iP e)(b6:lW e)(bF:iI e)(cC:vq e)(gh:FO e k e.t.jA e.t.jy ["d","shapes","plan"] (iC n)):mw e.P e.w e.K e.mg e.base CX0 (k+1) e.t.jA e.t.jy ["d","shapes","plan"] (spD e.K (iC (n+1))):=by
 have S:=Gm
 exact T.qB.f.okD S (fun ds U Q h=>AG h) (fun cdv A outer s H E hr=>⟨rJ n,(ai (aL (i:=3) S.nd (ar (dv 2) af))
  (ai (aY (aF (aX hr.units) aP (dv 3) cg (aB _)) (aj (aA (ar (dv 1) (ar (dv 2) af)))) aH)
  (ai (AD (i:=4) (N':=["part","d","shapes"]) (cap:=[none,some 0,some 1]) S.nd rfl rfl rfl (eQ (ah bI hr T.sA (h:=by omega) (aa (dv 2) ag))) (fun _ _ _=>(dQ 0)) (fun _ _ _=>cK) (fun _ _ _=>(ah gh hr T.qB (h:=by omega) (aa (dv 1) (aa (dv 2) (aa (dv 0) ag))))))
  (ai (aY (aF (aX hr.units) aP (dv 3) cg (aB _)) (aj (aA (ah aZ hr T.ig (h:=by omega) (aa (dv 0) (aa (ar (dv 4) af) ag))))) aH)
  (ai (aY (aF (aX hr.units) aP (dv 3) cg (aB _)) (aj (aA (ah b6 hr T.qD (h:=by omega) (aa (dv 0) (aa (ar (dv 4) af) (aa (ah bF hr T.md (h:=by omega) (aa (ar (dv 2) af) (aa af (aa (ar (dv 2) af) ag)))) ag)))))) aH)
  (ai (aY (aF (aX hr.units) aP (dv 3) cg (aB _)) (aj (aA (ah cC hr T.Ak (h:=by omega) (aa (dv 4) ag)))) aH)
  (aj (aA (ah aZ hr T.ig (h:=by omega) (aa (dv 0) (aa (ah cC hr T.Ak (h:=by omega) (aa (BJ (N':=["shape","d"]) (cap:=[none,some 0]) rfl (eQ (dv 4)) (fun _ _ _=>(dQ 0)) (fun _ _ _=>cK) (fun _ _ _=>(ah aZ hr T.ig (h:=by omega) (aa (dv 1) (aa (dv 0) ag))))) ag)) ag))))))))))),fun ds U Qd h=>GG n h⟩)
theorem Hh(T:TX e)(bI:kB e)(aZ:iP e)(b6:lW e)(bF:iI e)(cC:vq e):FO e 59 e.t.jA e.t.jy ["d","shapes","plan"] (iC 13):=(cf T 12 58 ⋯ bI aZ b6 bF cC (cf T 11 57 ⋯ bI aZ b6 bF cC (cf T 10 56 ⋯ bI aZ b6 bF cC (cf T 9 55 ⋯ bI aZ b6 bF cC (cf T 8 54 ⋯ bI aZ b6 bF cC (cf T 7 53 ⋯ bI aZ b6 bF cC (cf T 6 52 ⋯ bI aZ b6 bF cC (cf T 5 51 ⋯ bI aZ b6 bF cC (cf T 4 50 ⋯ bI aZ b6 bF cC (cf T 3 49 ⋯ bI aZ b6 bF cC (cf T 2 48 ⋯ bI aZ b6 bF cC (cf T 1 47 ⋯ bI aZ b6 bF cC (cf T 0 46 ⋯ bI aZ b6 bF cC CB)))))))))))))
theorem yx:aD ["d","kinds","plan","quarters","box","shapes","upon","sizes","backward"] ["d","kinds","plan","quarters","box"] (ay fN):=ck
theorem ze(T:TX e)(gh:zT e)(aZ:iP e)(gW:n4 e)(qC:yk e):pJ e:=by
 have S:=yx
 exact T.rn.f.okD S (fun ds U Q h=>DN h) (fun cdv A outer s H E hr=>⟨jY,(ai (AD (i:=5) (N':=["part","d","kinds"]) (cap:=[none,some 0,some 1]) S.nd rfl rfl rfl (rM (ar (dv 2) af)) (fun _ _ _=>(dQ 0)) (fun _ _ _=>cK) (fun _ _ _=>(ah gh hr T.qB (aa (dv 1) (aa (dv 2) (aa (dv 0) ag))))))
  (ai (aL (i:=6) S.nd (cI (aX hr.units) aP (ar (dv 2) af) cg (aB _)))
  (ai (aL (i:=7) S.nd (oR (bY (dv 6)) (dv 5) (BR (N':=["shape","d"]) (cap:=[none,some 0]) rfl (eQ (dv 5)) (fun _ _ _=>(dQ 0)) (fun _ _ _=>cK) (fun _ _ _=>(ah aZ hr T.ig (aa (dv 1) (aa (dv 0) ag)))))))
  (ai (aL (i:=8) S.nd (cI (PN hr.units) Oh (dv 3) (oR (bY (dv 6)) (bG (aa af (aa af ag))) (bG (aa af (aa af ag)))) (by with_unfolding_all rfl)))
  (ai (aY (aF (aX hr.units) aP (dv 6) (cI (aX hr.units) aP (fS (dv 3) af) af (aB _)) (aB _)) (aj (aA (ah gW hr T.j9 (aa (dv 0) (aa (dv 7) (aa (dv 4) (aa (dv 8) ag))))))) aH)
  (aj (aA (BR (N':=["inner"]) (cap:=[none]) rfl (eQ (ah gW hr T.j9 (aa (dv 0) (aa (dv 7) (aa (ah qC hr T.v7 (aa (dv 4) ag)) (aa (dv 8) ag)))))) (fun _ _ _=>(dQ 0)) (fun _ _ _=>cK) (fun _ _ _=>(ah qC hr T.v7 (aa (dv 0) ag))))))))))),fun ds U Qd h=>zW h⟩)
theorem Gz:aD ["d","kinds","plan","quarters","box","x","y","boxes","found"] ["d","kinds","plan","quarters","box","x","y"] (ay mB):=ck
theorem GB(T:TX e)(ll:pJ e)(gb:nQ e):zg e:=by
 have S:=Gz
 exact T.B0.f.okD S (fun ds U Q h=>C4 h) (fun cdv A outer s H E hr=>⟨sE,(ai (aL (i:=7) S.nd (ah ll hr T.rn (aa (dv 0) (aa (dv 1) (aa (dv 2) (aa (dv 3) (aa (dv 4) ag)))))))
  (ai (AD (i:=8) (N':=["part","inner","d","x","y"]) (cap:=[none,none,some 0,some 5,some 6]) S.nd rfl rfl rfl (M5 zip2 rfl T.RL (aa (ar (dv 2) af) (aa (dv 7) ag))) (fun _ _ _=>(gF (n:=2) rfl (aO (dQ 0) (aO (dQ 1) eW)))) (fun _ _ _=>(EG (bY (ah gb hr T.pO (aa (dv 2) (aa (dv 1) (aa (dv 3) (aa (dv 4) ag)))))))) (fun _ _ _=>(bG (aa (dv 0) (aa (dv 1) ag)))))
  (aj (aA (ar (dv 8) af))))),fun ds U Qd h=>G8 h⟩)
theorem Ho:aD ["d","kinds","plan","x","y","shape","box","quarters"] ["d","kinds","plan","x","y"] (ay mJ):=ck
theorem Gq(T:TX e)(i9:mH e)(jF:oB e)(gh:zT e)(jU:n6 e)(pC:tV e)(v9:yB e)(wk:zg e):y6 e:=by
 have S:=Ho
 exact T.lY.f.okD S (fun ds U Q h=>C3 h) (fun cdv A outer s H E hr=>⟨rW,(ai (kC (ah i9 hr T.oj (aa (dv 0) (aa (dv 1) ag))))
  (ai (kC (ah jF hr T.qf (aa (dv 2) (aa (cT rfl T.eT (aa (dv 1) ag)) ag))))
  (ai (aL (i:=5) S.nd (ah gh hr T.qB (aa (dv 0) (aa (dv 1) (aa (dv 2) ag)))))
  (ai (kC (ah jU hr T.qg (aa (dv 0) (aa (dv 5) (aa (dv 3) (aa (dv 4) ag))))))
  (ai (aL (i:=6) S.nd (bG (aa (iU rfl T.mz) (aa (iU rfl T.mz) (aa (iU rfl T.NL) (aa (dv 5) ag))))))
  (ai (aL (i:=7) S.nd af)
  (ai (pq PassesOwn.never (aF (km hr.units) aP (ar (dv 2) af) cg (aB _)) (aj (aY (aF (aX hr.units) aP (ar (dv 2) af) cg (aB _)) (ai (aL (i:=7) S.nd (ah pC hr T.xc (aa (dv 7) ag)))
  (aj (aL (i:=2) S.nd (ar (dv 2) af)))) (aj (aY (aF (aX hr.units) aP (ar (dv 2) af) cg (aB _)) (ai (aL (i:=6) S.nd (ah v9 hr T.BO (aa (dv 0) (aa (dv 2) (aa (dv 7) (aa (dv 6) (aa (dv 3) (aa (dv 4) ag))))))))
  (aj (aL (i:=2) S.nd (ar (dv 2) af)))) (aj (ja (ah wk hr T.B0 (aa (dv 0) (aa (dv 1) (aa (dv 2) (aa (dv 7) (aa (dv 6) (aa (dv 3) (aa (dv 4) ag)))))))) (gF (n:=2) rfl (aO (cp (i:=2) S.nd) (aO (cp (i:=6) S.nd) eW))))))))))
  (aj (aA (C2 (dv 6) (bG (aa (ar (dv 2) af) (aa (cI (aX hr.units) aP (fS (dv 7) af) af (aB _)) ag))))))))))))),fun ds U Qd h=>GA h⟩)
theorem vX:aD ["_law_bag_here","_law_d","_law_kinds_here","_law_plan_here","_law_shape_here","_law_x","_law_y","_law_tile","_law_inner","_law_spot","_law_right","_law_top","_law_beside","_law_upon"] ["_law_bag_here","_law_d","_law_kinds_here","_law_plan_here"] (ay ej):=ck
theorem wo(T:TX e)(d4:Bv e)(dA:n5 e)(jx:y6 e)(fo:n9 e)(bq:fA e):l4 e:=by
 have S:=vX
 exact T.og.f.okD S (fun ds U Q h=>xP h) (fun cdv A outer s H E hr=>⟨iB,(ai (aL (i:=4) S.nd (ah d4 hr T.gK (aa (dv 1) (aa (dv 2) (aa (dv 3) ag)))))
  (ai (jO (i:=5) (j:=6) rfl S.nd rfl rfl ⋯ rfl rfl (aa (ah dA hr T.fj (aa (dv 0) (aa (dv 1) (aa (bG (aa af (aa af (aa af ag)))) ag)))) (aa (ah dA hr T.fj (aa (dv 0) (aa (dv 1) (aa (dv 4) ag)))) ag)) rfl)
  (ai (aL (i:=7) S.nd (ah jx hr T.lY (aa (dv 1) (aa (dv 2) (aa (dv 3) (aa (dv 5) (aa (dv 6) ag)))))))
  (ai (aY (cM (bY (ah fo hr T.gm (aa (dv 1) (aa (dv 2) (aa (dv 4) (aa (dv 7) (aa (dv 5) (aa (dv 6) ag))))))))) (aj (aA gj)) aH)
  (ai (aL (i:=8) S.nd (bG (aa (ah bq hr T.cH (aa (ar (dv 7) af) (aa (ah dA hr T.fj (aa (dv 0) (aa (dv 1) (aa (ar (dv 7) af) ag)))) ag))) (aa (ah bq hr T.cH (aa (ar (dv 7) af) (aa (ah dA hr T.fj (aa (dv 0) (aa (dv 1) (aa (ar (dv 7) af) ag)))) ag))) ag))))
  (ai (lA PassesOwn.never rfl (eQ (cJ (aa (bG (aa (ar (dv 7) af) (aa (ar (dv 7) af) ag))) (aa (dv 8) (aa (bG (aa (dv 5) (aa (dv 6) ag))) ag))))) (cp (i:=9) S.nd) (aj (aY (aF (km hr.units) aP (ah jx hr T.lY (aa (dv 1) (aa (dv 2) (aa (dv 3) (aa (ar (dv 9) af) (aa (ar (dv 9) af) ag)))))) (dv 7) (aB _)) (aj (aA gj)) aH)))
  (ai (jO (i:=10) (j:=11) rfl S.nd rfl rfl ⋯ rfl rfl (aa (ah bq hr T.cH (aa (ar (dv 7) af) (aa (ar (dv 7) af) ag))) (aa (ah bq hr T.cH (aa (ar (dv 7) af) (aa (ar (dv 7) af) ag))) ag)) rfl)
  (ai (aY (aF (km hr.units) aP (dv 10) (bG (aa af (aa af (aa af ag)))) (aB _)) (ai (aL (i:=12) S.nd (ah jx hr T.lY (aa (dv 1) (aa (dv 2) (aa (dv 3) (aa (dv 10) (aa (dv 6) ag)))))))
  (aj (aY (DW.dt (dO (aF (km hr.units) aP (ar (dv 12) af) (dv 10) (aB _)) (d7 (cM (bY (ah fo hr T.gm (aa (dv 1) (aa (dv 2) (aa (dv 4) (aa (dv 12) (aa (dv 10) (aa (dv 6) ag)))))))))))) (aj (aA gj)) aH))) aH)
  (ai (aY (aF (aX hr.units) aP (dv 11) (dv 4) (aB _)) (aj (aA gj)) aH)
  (ai (aL (i:=13) S.nd (ah jx hr T.lY (aa (dv 1) (aa (dv 2) (aa (dv 3) (aa (dv 5) (aa (dv 11) ag)))))))
  (aj (aA (dW (cI (aX hr.units) aP (ar (dv 13) af) (dv 11) (aB _)) (fV (ah fo hr T.gm (aa (dv 1) (aa (dv 2) (aa (dv 4) (aa (dv 13) (aa (dv 5) (aa (dv 11) ag))))))))))))))))))))),fun ds U Qd h=>vI h⟩)
theorem vJ:aD ["_law_thing","_law_many","_law_deep","_law_word","_law_size","_law_parts","_law_counts"] ["_law_thing","_law_many","_law_deep"] (ay eo):=ck
theorem sj:FO e 42 e.t.dc e.t.dg ["_law_thing","_law_many","_law_deep"] (dP 0):=
 ⟨fun vs H Q E h=>by obtain⟨ds,U,Qd,_,r,z,_⟩:=h;exact (y7 z).elim,fun A outer s H args us vs Q E hr e0 hb hv h=>by obtain⟨ds,U,Qd,_,r,z,_⟩:=h;exact (y7 z).elim⟩
theorem aw(T:TX e)(n k:Nat)(hk:42<=k)(au:dM e)(cy:FO e k e.t.dc e.t.dg ["_law_thing","_law_many","_law_deep"] (dP n)):mw e.P e.w e.K e.mg e.base CX0 (k+1) e.t.dc e.t.dg ["_law_thing","_law_many","_law_deep"] (spD e.K (dP (n+1))):=by
 have S:=vJ
 exact T.fQ.f.okD S (fun ds U Q h=>AZ h) (fun cdv A outer s H E hr=>⟨iq n,(ai (aY (DW.dt (dO (aF (aX hr.units) aP (dv 2) af (aB _)) (dO (cM (bY (iz (kit_tuple _) rfl T.b9 rfl T.gw PyProof.Rows.Boot.«tuple» (dv 0)))) (d7 (aF kf cN (cT rfl T.eT (aa (dv 0) ag)) af (aB _)))))) (aj (aA af)) aH)
  (ai (jO (i:=3) (j:=4) rfl S.nd rfl rfl ⋯ rfl rfl (aa (ar (dv 0) af) (aa (cT rfl T.eT (aa (dv 0) ag)) ag)) rfl)
  (ai (aY (aF (aX hr.units) aP (dv 3) cg (aB _)) (aj (aA (lQ rfl T.xq (aa (dW (cI (aX hr.units) aP (dv 4) af (aB _)) (dW (ah au hr T.d9 (h:=by omega) (aa (ar (dv 0) af) ag)) (fV (Fq uZ cN kf cN af (ar (dv 0) af) (dv 1))))) ag)))) aH)
  (ai (aL (i:=5) S.nd (cJ ag))
  (ai (aY (DW.dt (lE (aF (aX hr.units) aP (dv 3) cg (aB _)) (kK (aF (aX hr.units) aP (dv 4) af (aB _))))) (aj (aL (i:=5) S.nd (cJ (aa (ar (dv 0) af) ag)))) (aj (aY (DW.dt (lE (aF (Qi hr.units) Kj (dv 3) (cJ (aa cg (aa cg ag))) (by with_unfolding_all rfl)) (lE (aF (aX hr.units) aP (dv 4) af (aB _)) (kK (bY (iz (kit_tuple _) rfl T.b9 rfl T.gw PyProof.Rows.Boot.«tuple» (ar (dv 0) af))))))) (aj (aL (i:=5) S.nd (oR (EN uZ cN uZ cN af (cT rfl T.eT (aa (ar (dv 0) af) ag)) af) (Iz rfl T.K4 (aa (ar (dv 0) af) ag)) (cJ ag)))) (aj (aY (DW.dt (lE (aF (aX hr.units) aP (dv 3) cg (aB _)) (lE (aF (aX hr.units) aP (dv 4) af (aB _)) (kK (bY (C8 rfl rfl T.HE (aa (BR (N':=["_law_one"]) (cap:=[none]) rfl (rM (Eo (dv 0) (CD af) (CD af))) (fun _ _ _=>(dQ 0)) (fun _ _ _=>cK) (fun _ _ _=>(dW (ah au hr T.d9 (h:=by omega) (aa (dv 0) ag)) (fV (cI gI cN (dv 0) af (aB _)))))) ag))))))) (aj (aL (i:=5) S.nd (cJ (aa (ar (dv 0) af) ag)))) aH)))))
  (ai (AD (i:=6) (N':=["_law_part","_law_many","_law_deep"]) (cap:=[none,some 1,some 2]) S.nd rfl rfl rfl (eQ (dv 5)) (fun _ _ _=>(dQ 0)) (fun _ _ _=>cK) (fun _ _ _=>(ah cy hr T.fQ (h:=by omega) (aa (dv 0) (aa (dv 1) (aa (eO (dv 2) af) ag))))))
  (ai (aY (DW.dt (dO (aF (aX hr.units) aP (dv 6) (cJ ag) (aB _)) (d7 (aF (aX hr.units) aP (NB rfl rfl T.Lm (aa (dv 6) ag)) af (aB _))))) (aj (aA af)) aH)
  (aj (aA (cb af (Lf rfl rfl T.N6 (aa (dv 6) ag)))))))))))),fun ds U Qd h=>wu n h⟩)
theorem vN(T:TX e)(au:dM e):FO e 73 e.t.dc e.t.dg ["_law_thing","_law_many","_law_deep"] (dP 31):=(aw T 30 72 ⋯ au (aw T 29 71 ⋯ au (aw T 28 70 ⋯ au (aw T 27 69 ⋯ au (aw T 26 68 ⋯ au (aw T 25 67 ⋯ au (aw T 24 66 ⋯ au (aw T 23 65 ⋯ au (aw T 22 64 ⋯ au (aw T 21 63 ⋯ au (aw T 20 62 ⋯ au (aw T 19 61 ⋯ au (aw T 18 60 ⋯ au (aw T 17 59 ⋯ au (aw T 16 58 ⋯ au (aw T 15 57 ⋯ au (aw T 14 56 ⋯ au (aw T 13 55 ⋯ au (aw T 12 54 ⋯ au (aw T 11 53 ⋯ au (aw T 10 52 ⋯ au (aw T 9 51 ⋯ au (aw T 8 50 ⋯ au (aw T 7 49 ⋯ au (aw T 6 48 ⋯ au (aw T 5 47 ⋯ au (aw T 4 46 ⋯ au (aw T 3 45 ⋯ au (aw T 2 44 ⋯ au (aw T 1 43 ⋯ au (aw T 0 42 ⋯ au sj)))))))))))))))))))))))))))))))
theorem uk:aD ["_law_thing","_law_many"] ["_law_thing","_law_many"] (ay dG):=ck
theorem uq(T:TX e)(cy:mE e):kM e:=by
 have S:=uk
 exact T.iH.f.okD S (fun ds U Q h=>A9 h) (fun cdv A outer s H E hr=>⟨gZ,(aj (aA (Fq kf cN uZ cN af (ah cy hr T.fQ (aa (dv 0) (aa (dv 1) (aa af ag)))) af))),fun ds U Qd h=>u9 h⟩)
theorem qM:aD ["_law_bag_here","_law_d","_law_kinds_here","_law_plan_here","_law_found","_law_kind","_law_x"] ["_law_bag_here","_law_d","_law_kinds_here","_law_plan_here"] (ay cY):=ck
theorem qO(T:TX e)(cy:mE e)(aI:cV e)(az:cG e)(cR:iN e)(cw:gD e):jn e:=by
 have S:=qM
 exact T.jQ.f.okD S (fun ds U Q h=>JR h) (fun cdv A outer s H E hr=>⟨fG,(ai (aY (aF uZ cN (ah cy hr T.fQ (aa (dv 3) (aa (cT rfl T.eT (aa (dv 2) ag)) (aa af ag)))) af (aB _)) (aj (aA (dv 2))) aH)
  (ai (aL (i:=4) S.nd (uM ag))
  (ai (lA PassesOwn.never rfl (rM (dv 2)) (cp (i:=5) S.nd) (ai (aL (i:=6) S.nd (ah aI hr T.d6 (aa (eO (ah az hr T.aJ (aa (dv 0) (aa af ag))) af) (aa (eO (ah az hr T.aJ (aa (dv 0) (aa af ag))) af) (aa (cb af (ah az hr T.aJ (aa (dv 0) (aa af ag)))) ag)))))
  (aj (kC (mx (dv 4) (ar (cJ (aa (bG (aa af (aa af (aa af ag)))) (aa (dv 6) (aa (ah cR hr T.jr (aa (dv 6) ag)) ag)))) (ah cw hr T.gi (aa (dv 1) (aa (dv 6) ag)))))))))
  (aj (aA (yq rfl T.gw (aa (dv 4) ag))))))),fun ds U Qd h=>qN h⟩)
theorem rK:aD ["_law_bag_here","_law_many","_law_plan_here","_law_grid"] ["_law_bag_here","_law_many"] (ay dm):=ck
theorem sV(T:TX e)(p5:uJ e)(az:cG e)(fx:kM e):jI e:=by
 have S:=rK
 exact T.kU.f.okD S (fun ds U Q h=>E5 h) (fun cdv A outer s H E hr=>⟨fm,(ai (aL (i:=2) S.nd (ah p5 hr T.xa (aa (dv 0) (aa (dv 1) ag))))
  (ai (aL (i:=3) S.nd (bG (aa cg (aa (cb af (ah az hr T.aJ (aa (dv 0) (aa (vA af af) ag)))) (aa (cb af (ah az hr T.aJ (aa (dv 0) (aa (vA af af) ag)))) (aa (dv 2) ag))))))
  (ai (aY (DW.dt (lE (aF (aX hr.units) aP (ah az hr T.aJ (aa (dv 0) (aa af ag))) af (aB _)) (kK (bY (ah fx hr T.iH (aa (bG (aa cg (aa (dv 3) ag))) (aa (dv 1) ag))))))) (aj (aA (bG (aa cg (aa (dv 3) ag))))) aH)
  (aj (aA (oR (bY (ah fx hr T.iH (aa (dv 3) (aa (dv 1) ag)))) (dv 3) (dv 2))))))),fun ds U Qd h=>qm h⟩)
theorem Pb:aD ["_law_script","_law_k","_law_bag_here","_law_d","_law_kinds_here","_law_plan_here","_law_turn"] ["_law_script"] (ay ua):=ck
theorem O6(T:TX e)(rN:xp e)(oM:uf e)(nV:rB e)(gu:jI e)(fT:jn e)(jm:l4 e):Lk e:=by
 have S:=Pb
 exact T.RQ.f.okD S (fun ds U Q h=>JE h) (fun cdv A outer s H E hr=>⟨Gk,(ai (lA PassesOwn.never rfl (qL rfl T.ni (aa (O8 rfl rfl T.NS (aa af (aa (Lb rfl rfl T.Lm (aa af (aa (cT rfl T.eT (aa (dv 0) ag)) ag))) ag))) ag)) (cp (i:=1) S.nd) (ai (aL (i:=2) S.nd (ah rN hr T.Ad (aa (dv 0) (aa (dv 1) ag))))
  (ai (aL (i:=3) S.nd (ah oM hr T.xA (aa (dv 2) ag)))
  (ai (aL (i:=4) S.nd (ah nV hr T.vm (aa (dv 2) (aa (dv 3) ag))))
  (ai (aL (i:=5) S.nd (ah gu hr T.kU (aa (dv 2) (aa (cT rfl T.eT (aa (dv 4) ag)) ag))))
  (ai (aL (i:=4) S.nd (ah fT hr T.jQ (aa (dv 2) (aa (dv 3) (aa (dv 4) (aa (dv 5) ag))))))
  (aj (lA PassesOwn.never rfl (qL rfl T.ni (aa af ag)) (cp (i:=6) S.nd) (aj (aY (cM (bY (ah jm hr T.og (aa (dv 2) (aa (dv 3) (aa (dv 4) (aa (dv 5) ag))))))) (aj (aA gj)) aH))))))))))
  (aj (aA gj))),fun ds U Qd h=>O9 h⟩)
theorem OK(T:TX e):Lk e:=by
 have cZ:=Fv T
 have fz:=uX T
 have nO:=By T
 have de:=vV T
 have bI:=Fy T
 have pC:=Dv T
 have qC:=G3 T
 have rN:=FY T
 have az:=CY T
 have au:=wc T
 have cU:=Ax T
 have cR:=AK T
 have cw:=DY T
 have cW:=vn T fz
 have vF:=G6 T de
 have iG:=FA T de
 have fP:=wg T nO
 have nA:=Fn T cZ
 have aI:=FJ T cU
 have ib:=vc T au cU
 have oM:=Eh T az
 have fw:=va T az
 have fk:=Ed T cZ cW
 have bF:=Ju T cW
 have tG:=FI T nA cZ
 have bq:=DC T aI
 have aM:=AO T aI
 have aE:=wA T aI
 have lx:=zX T az aI
 have p5:=DB T az fw
 have fZ:=cA T bF
 have sN:=yg T bF
 have b6:=bL T bF
 have aZ:=dR T bF
 have gA:=sQ T fk vF
 have vK:=GD T tG bI
 have cF:=A1 T cw bq cR
 have jw:=AM T lx cw az cR
 have b5:=Ew T bq
 have dA:=xQ T az aM aI
 have p7:=Mk T b6 aZ
 have pQ:=Dr T fZ
 have sO:=EV T gA
 have jF:=xK T vK
 have cC:=Jw T fZ
 have gW:=xG T fZ b6 sN
 have tm:=FC T b6 fZ
 have nV:=Bc T jw az aE aM aI
 have nG:=Bx T cF bq
 have i9:=vB T sO
 have gb:=Dz T pQ iG
 have nk:=Ba T p7
 have fo:=xH T ib au aE aM nG cw bq cF
 have jU:=xN T fk gb
 have v9:=Gs T nk fP p7 sN tm
 have d4:=AQ T aE aM aI b5
 have gh:=Hh T bI aZ b6 bF cC
 have ll:=ze T gh aZ gW qC
 have wk:=GB T ll gb
 have jx:=Gq T i9 jF gh jU pC v9 wk
 have jm:=wo T d4 dA jx fo bq
 have cy:=vN T au
 have fx:=uq T cy
 have fT:=qO T cy aI az cR cw
 have gu:=sV T p5 az fx
 exact O6 T rN oM nV gu fT jm
end
theorem ln7{p:List Value->Prop}(h:∀a0 a1 a2 a3 a4 a5 a6,p [a0,a1,a2,a3,a4,a5,a6])(us:List Value)(hl:us.length=7):p us:=match us,hl with|[a0,a1,a2,a3,a4,a5,a6],_=>h a0 a1 a2 a3 a4 a5 a6
theorem aN{K:PySem.W.Frag}{h:Heap}{mg:Str->Option Value}{n m:Str}{st:Stmt}{f c:Addr}{t:Tok}{ps:List Str}(X:K.In h)(G:h.Ns mainGlobals mg)(a:FQ K n st f c t m)
  (b:∀(kV doc pm:Value) (an:Option Addr) (cdv ct:Value) (us:List Value),us.length=ps.length->bindArgs (fnOf n n (ju st) (iM st) (ay st) .none kV doc pm an cdv ct) ⟨us,[]⟩=pure (ps.zip us)):Cal K mg n ps st f (fd n st t m c):=
 have F:=Qp (st:=st) a.2.1 a.2.2.1 a.2.2.2
 ⟨F,mg_of X G a.1,a.2.2.2,F.binds b⟩
theorem all_mk{l:PySem.W.OpenLaw}{w:World}{K:PySem.W.Frag}{h:Heap}{mg:Str->Option Value}{fa:Addr}(X:K.In h)(G:h.Ns mainGlobals mg)(hfa:mg "law"=some (.ref fa))(ht:l.prog.given.tree=none)
  {f0 c0 f1 c1 f2 c2 f3 c3 f4 c4 f5 c5 f6 c6 f7 c7 f8 c8 f9 c9 f10 c10 f11 c11 f12 c12 f13 c13 f14 c14 f15 c15 f16 c16 f17 c17 f18 c18 f19 c19 f20 c20 f21 c21 f22 c22 f23 c23 f24 c24 f25 c25 f26 c26 f27 c27 f28 c28 f29 c29 f30 c30 f31 c31 f32 c32 f33 c33 f34 c34 f35 c35 f36 c36 f37 c37 f38 c38 f39 c39 f40 c40 f41 c41 f42 c42 f43 c43 f44 c44 f45 c45 f46 c46 f47 c47 f48 c48 f49 c49 f50 c50 f51 c51 f52 c52 f53 c53 f54 c54 f55 c55 f56 c56 f57 c57 f58 c58 f59 c59 f60 c60 f61 c61 f62 c62 f63 c63 f64 c64 f65 c65:Addr} {t0 t1 t2 t3 t4 t5 t6 t7 t8 t9 t10 t11 t12 t13 t14 t15 t16 t17 t18 t19 t20 t21 t22 t23 t24 t25 t26 t27 t28 t29 t30 t31 t32 t33 t34 t35 t36 t37 t38 t39 t40 t41 t42 t43 t44 t45 t46 t47 t48 t49 t50 t51 t52 t53 t54 t55 t56 t57 t58 t59 t60 t61 t62 t63 t64 t65:Tok} {m0 m1 m2 m3 m4 m5 m6 m7 m8 m9 m10 m11 m12 m13 m14 m15 m16 m17 m18 m19 m20 m21 m22 m23 m24 m25 m26 m27 m28 m29 m30 m31 m32 m33 m34 m35 m36 m37 m38 m39 m40 m41 m42 m43 m44 m45 m46 m47 m48 m49 m50 m51 m52 m53 m54 m55 m56 m57 m58 m59 m60 m61 m62 m63 m64 m65:Str} {q0:Tok} {q1:Tok} {q2:Tok} {q3:Tok} {q4:Tok} {g5:Addr} {go5:Option Addr} {q5a q5b q5c:Tok} {gn5:Nat} {gs5:Array (Option Value)} {g6:Addr} {go6:Option Addr} {q6a q6b q6c:Tok} {gn6:Nat} {gs6:Array (Option Value)}
  (a0:FQ K "is_whole" j7 f0 c0 t0 m0)
  (a1:FQ K "common_divisor" dJ f1 c1 t1 m1)
  (a2:FQ K "whole_root" gH f2 c2 t2 m2)
  (a3:FQ K "is_number" i6 f3 c3 t3 m3)
  (a4:FQ K "divisor_of_all" dF f4 c4 t4 m4)
  (a5:FQ K "number" ql f5 c5 t5 m5)
  (a6:FQ K "plus" zw f6 c6 t6 m6)
  (a7:FQ K "less" Aq f7 c7 t7 m7)
  (a8:FQ K "times" ub f8 c8 t8 m8)
  (a9:FQ K "over" Ai f9 c9 t9 m9)
  (a10:FQ K "contrary" kj f10 c10 t10 m10)
  (a11:FQ K "sign_of" l9 f11 c11 t11 m11)
  (a12:FQ K "sign_of_parts" eG f12 c12 t12 m12)
  (a13:FQ K "is_above" j5 f13 c13 t13 m13)
  (a14:FQ K "is_above_nought" dk f14 c14 t14 m14)
  (a15:FQ K "whole_beneath" eJ f15 c15 t15 m15)
  (a16:FQ K "bounds_of" i5 f16 c16 t16 m16)
  (a17:FQ K "is_kinds" kg f17 c17 t17 m17)
  (a18:FQ K "must_be_kinds" eC f18 c18 t18 m18)
  (a19:FQ K "is_plan" lL f19 c19 t19 m19)
  (a20:FQ K "has_form" jL f20 c20 t20 m20)
  (a21:FQ K "is_count" jZ f21 c21 t21 m21)
  (a22:FQ K "parts_of" jS f22 c22 t22 m22)
  (a23:FQ K "must_be_plan" fe f23 c23 t23 m23)
  (a24:FQ K "made_of" lU f24 c24 t24 m24)
  (a25:FQ K "sum_of" pb f25 c25 t25 m25)
  (a26:FQ K "tile_at" mJ f26 c26 t26 m26)
  (a27:FQ K "must_be_spot" fg f27 c27 t27 m27)
  (a28:FQ K "begins_at" iW f28 c28 t28 m28)
  (a29:FQ K "once_more" iO f29 c29 t29 m29)
  (a30:FQ K "part_at" mB f30 c30 t30 m30)
  (a31:FQ K "strip_boxes" fN f31 c31 t31 m31)
  (a32:FQ K "swapped" lS f32 c32 t32 m32)
  (a33:FQ K "rising_boxes" fq f33 c33 t33 m33)
  (a34:FQ K "cell_at" mQ f34 c34 t34 m34)
  (a35:FQ K "cell_sides" gv f35 c35 t35 m35)
  (a36:FQ K "cell_box" kh f36 c36 t36 m36)
  (a37:FQ K "_law_bag" ki f37 c37 t37 m37)
  (a38:FQ K "_law_take" iT f38 c38 t38 m38)
  (a39:FQ K "_law_is_whole" ey f39 c39 t39 m39)
  (a40:FQ K "_law_shared" fK f40 c40 t40 m40)
  (a41:FQ K "_law_low" j4 f41 c41 t41 m41)
  (a42:FQ K "_law_is_number" dI f42 c42 t42 m42)
  (a43:FQ K "_law_plus" iQ f43 c43 t43 m43)
  (a44:FQ K "_law_minus" gQ f44 c44 t44 m44)
  (a45:FQ K "_law_times" gC f45 c45 t45 m45)
  (a46:FQ K "_law_contrary" eD f46 c46 t46 m46)
  (a47:FQ K "_law_sign" i7 f47 c47 t47 m47)
  (a48:FQ K "_law_below" gG f48 c48 t48 m48)
  (a49:FQ K "_law_root" iS f49 c49 t49 m49)
  (a50:FQ K "_law_number" fJ f50 c50 t50 m50)
  (a51:FQ K "_law_above" gR f51 c51 t51 m51)
  (a52:FQ K "_law_kinds" gr f52 c52 t52 m52)
  (a53:FQ K "_law_grid_size" dD f53 c53 t53 m53)
  (a54:FQ K "_law_plan" iV f54 c54 t54 m54)
  (a55:FQ K "_law_sum" jH f55 c55 t55 m55)
  (a56:FQ K "_law_shape" gP f56 c56 t56 m56)
  (a57:FQ K "_law_plans_in" eo f57 c57 t57 m57)
  (a58:FQ K "_law_is_a_plan" dG f58 c58 t58 m58)
  (a59:FQ K "_law_holds" gB f59 c59 t59 m59)
  (a60:FQ K "_law_part_of" fu f60 c60 t60 m60)
  (a61:FQ K "_law_few_figures" cY f61 c61 t61 m61)
  (a62:FQ K "_law_great_plan" dm f62 c62 t62 m62)
  (a63:FQ K "_law_is_tile" ff f63 c63 t63 m63)
  (a64:FQ K "_law_is_right" ej f64 c64 t64 m64)
  (a65:FQ K "law" ua f65 c65 t65 m65)
  (z0:nsIn K mainGlobals "isinstance"=some none)
  (z1:nsIn K mainGlobals "int"=some none)
  (z2:nsIn K mainGlobals "bool"=some none)
  (z3:nsIn K mainGlobals "abs"=some none)
  (z4:nsIn K mainGlobals "tuple"=some none)
  (z5:nsIn K mainGlobals "len"=some none)
  (z6:nsIn K mainGlobals "all"=some none)
  (z7:nsIn K mainGlobals "list"=some none)
  (z8:nsIn K mainGlobals "zip"=some none)
  (z9:nsIn K mainGlobals "range"=some none)
  (z10:nsIn K mainGlobals "min"=some none)
  (z11:nsIn K mainGlobals "max"=some none)
  (z12:nsIn K mainGlobals "sum"=some none)
  (v0:nsIn K mainGlobals "MOST_KINDS"=some (some (.int 3 q0)))
  (v1:nsIn K mainGlobals "MOST_WITHIN"=some (some (.int 12 q1)))
  (v2:nsIn K mainGlobals "MOST_PLANS"=some (some (.int 60 q2)))
  (v3:nsIn K mainGlobals "LEAST_PARTS"=some (some (.int 2 q3)))
  (v4:nsIn K mainGlobals "MOST_PARTS"=some (some (.int 8 q4)))
  (v5:nsIn K mainGlobals "NOUGHT"=some (some (.ref g5))) (w5:K.lookup g5=some ⟨.type "tuple",go5,.seq #[.int 0 q5a,.int 0 q5b,.int 1 q5c] gn5,gs5⟩)
  (v6:nsIn K mainGlobals "ONE"=some (some (.ref g6))) (w6:K.lookup g6=some ⟨.type "tuple",go6,.seq #[.int 1 q6a,.int 0 q6b,.int 1 q6c] gn6,gs6⟩) :
  ∃fd:FuncData,(∀(s:Shared) (v:Value),BindsTo s fd ⟨[v],[]⟩ [("_law_script",v)])/\∀base:Heap,K.In base->base.Ns mainGlobals mg->base.NoSeer->mw l.prog w K mg base CX0 76 fa fd ["_law_script"] (spD K zL):=by
 have e:=hfa.symm.trans (mg_of X G a65.1)
 cases e
 have T:Txt K mg ⟨f0,fd "is_whole" j7 t0 m0 c0,f1,fd "common_divisor" dJ t1 m1 c1,f2,fd "whole_root" gH t2 m2 c2,f3,fd "is_number" i6 t3 m3 c3,f4,fd "divisor_of_all" dF t4 m4 c4,f5,fd "number" ql t5 m5 c5,f6,fd "plus" zw t6 m6 c6,f7,fd "less" Aq t7 m7 c7,f8,fd "times" ub t8 m8 c8,f9,fd "over" Ai t9 m9 c9,f10,fd "contrary" kj t10 m10 c10,f11,fd "sign_of" l9 t11 m11 c11,f12,fd "sign_of_parts" eG t12 m12 c12,f13,fd "is_above" j5 t13 m13 c13,f14,fd "is_above_nought" dk t14 m14 c14,f15,fd "whole_beneath" eJ t15 m15 c15,f16,fd "bounds_of" i5 t16 m16 c16,f17,fd "is_kinds" kg t17 m17 c17,f18,fd "must_be_kinds" eC t18 m18 c18,f19,fd "is_plan" lL t19 m19 c19,f20,fd "has_form" jL t20 m20 c20,f21,fd "is_count" jZ t21 m21 c21,f22,fd "parts_of" jS t22 m22 c22,f23,fd "must_be_plan" fe t23 m23 c23,f24,fd "made_of" lU t24 m24 c24,f25,fd "sum_of" pb t25 m25 c25,f26,fd "tile_at" mJ t26 m26 c26,f27,fd "must_be_spot" fg t27 m27 c27,f28,fd "begins_at" iW t28 m28 c28,f29,fd "once_more" iO t29 m29 c29,f30,fd "part_at" mB t30 m30 c30,f31,fd "strip_boxes" fN t31 m31 c31,f32,fd "swapped" lS t32 m32 c32,f33,fd "rising_boxes" fq t33 m33 c33,f34,fd "cell_at" mQ t34 m34 c34,f35,fd "cell_sides" gv t35 m35 c35,f36,fd "cell_box" kh t36 m36 c36,f37,fd "_law_bag" ki t37 m37 c37,f38,fd "_law_take" iT t38 m38 c38,f39,fd "_law_is_whole" ey t39 m39 c39,f40,fd "_law_shared" fK t40 m40 c40,f41,fd "_law_low" j4 t41 m41 c41,f42,fd "_law_is_number" dI t42 m42 c42,f43,fd "_law_plus" iQ t43 m43 c43,f44,fd "_law_minus" gQ t44 m44 c44,f45,fd "_law_times" gC t45 m45 c45,f46,fd "_law_contrary" eD t46 m46 c46,f47,fd "_law_sign" i7 t47 m47 c47,f48,fd "_law_below" gG t48 m48 c48,f49,fd "_law_root" iS t49 m49 c49,f50,fd "_law_number" fJ t50 m50 c50,f51,fd "_law_above" gR t51 m51 c51,f52,fd "_law_kinds" gr t52 m52 c52,f53,fd "_law_grid_size" dD t53 m53 c53,f54,fd "_law_plan" iV t54 m54 c54,f55,fd "_law_sum" jH t55 m55 c55,f56,fd "_law_shape" gP t56 m56 c56,f57,fd "_law_plans_in" eo t57 m57 c57,f58,fd "_law_is_a_plan" dG t58 m58 c58,f59,fd "_law_holds" gB t59 m59 c59,f60,fd "_law_part_of" fu t60 m60 c60,f61,fd "_law_few_figures" cY t61 m61 c61,f62,fd "_law_great_plan" dm t62 m62 c62,f63,fd "_law_is_tile" ff t63 m63 c63,f64,fd "_law_is_right" ej t64 m64 c64,fa,fd "law" ua t65 m65 c65,q0,q1,q2,q3,q4,g5,g6⟩:=⟨aN X G a0 (fun _ _ _ _ _ _=>ln1 fun _=>rfl),aN X G a1 (fun _ _ _ _ _ _=>ln2 fun _ _=>rfl),aN X G a2 (fun _ _ _ _ _ _=>ln1 fun _=>rfl),aN X G a3 (fun _ _ _ _ _ _=>ln1 fun _=>rfl),aN X G a4 (fun _ _ _ _ _ _=>ln3 fun _ _ _=>rfl),aN X G a5 (fun _ _ _ _ _ _=>ln3 fun _ _ _=>rfl),aN X G a6 (fun _ _ _ _ _ _=>ln2 fun _ _=>rfl),aN X G a7 (fun _ _ _ _ _ _=>ln2 fun _ _=>rfl),aN X G a8 (fun _ _ _ _ _ _=>ln3 fun _ _ _=>rfl),aN X G a9 (fun _ _ _ _ _ _=>ln3 fun _ _ _=>rfl),aN X G a10 (fun _ _ _ _ _ _=>ln2 fun _ _=>rfl),aN X G a11 (fun _ _ _ _ _ _=>ln2 fun _ _=>rfl),aN X G a12 (fun _ _ _ _ _ _=>ln3 fun _ _ _=>rfl),aN X G a13 (fun _ _ _ _ _ _=>ln3 fun _ _ _=>rfl),aN X G a14 (fun _ _ _ _ _ _=>ln2 fun _ _=>rfl),aN X G a15 (fun _ _ _ _ _ _=>ln2 fun _ _=>rfl),aN X G a16 (fun _ _ _ _ _ _=>ln1 fun _=>rfl),aN X G a17 (fun _ _ _ _ _ _=>ln2 fun _ _=>rfl),aN X G a18 (fun _ _ _ _ _ _=>ln2 fun _ _=>rfl),aN X G a19 (fun _ _ _ _ _ _=>ln2 fun _ _=>rfl),aN X G a20 (fun _ _ _ _ _ _=>ln2 fun _ _=>rfl),aN X G a21 (fun _ _ _ _ _ _=>ln1 fun _=>rfl),aN X G a22 (fun _ _ _ _ _ _=>ln1 fun _=>rfl),aN X G a23 (fun _ _ _ _ _ _=>ln2 fun _ _=>rfl),aN X G a24 (fun _ _ _ _ _ _=>ln3 fun _ _ _=>rfl),aN X G a25 (fun _ _ _ _ _ _=>ln1 fun _=>rfl),aN X G a26 (fun _ _ _ _ _ _=>ln5 fun _ _ _ _ _=>rfl),aN X G a27 (fun _ _ _ _ _ _=>ln4 fun _ _ _ _=>rfl),aN X G a28 (fun _ _ _ _ _ _=>ln4 fun _ _ _ _=>rfl),aN X G a29 (fun _ _ _ _ _ _=>ln1 fun _=>rfl),aN X G a30 (fun _ _ _ _ _ _=>ln7 fun _ _ _ _ _ _ _=>rfl),aN X G a31 (fun _ _ _ _ _ _=>ln5 fun _ _ _ _ _=>rfl),aN X G a32 (fun _ _ _ _ _ _=>ln1 fun _=>rfl),aN X G a33 (fun _ _ _ _ _ _=>ln4 fun _ _ _ _=>rfl),aN X G a34 (fun _ _ _ _ _ _=>ln6 fun _ _ _ _ _ _=>rfl),aN X G a35 (fun _ _ _ _ _ _=>ln4 fun _ _ _ _=>rfl),aN X G a36 (fun _ _ _ _ _ _=>ln6 fun _ _ _ _ _ _=>rfl),aN X G a37 (fun _ _ _ _ _ _=>ln2 fun _ _=>rfl),aN X G a38 (fun _ _ _ _ _ _=>ln2 fun _ _=>rfl),aN X G a39 (fun _ _ _ _ _ _=>ln1 fun _=>rfl),aN X G a40 (fun _ _ _ _ _ _=>ln2 fun _ _=>rfl),aN X G a41 (fun _ _ _ _ _ _=>ln3 fun _ _ _=>rfl),aN X G a42 (fun _ _ _ _ _ _=>ln1 fun _=>rfl),aN X G a43 (fun _ _ _ _ _ _=>ln2 fun _ _=>rfl),aN X G a44 (fun _ _ _ _ _ _=>ln1 fun _=>rfl),aN X G a45 (fun _ _ _ _ _ _=>ln3 fun _ _ _=>rfl),aN X G a46 (fun _ _ _ _ _ _=>ln2 fun _ _=>rfl),aN X G a47 (fun _ _ _ _ _ _=>ln2 fun _ _=>rfl),aN X G a48 (fun _ _ _ _ _ _=>ln3 fun _ _ _=>rfl),aN X G a49 (fun _ _ _ _ _ _=>ln1 fun _=>rfl),aN X G a50 (fun _ _ _ _ _ _=>ln1 fun _=>rfl),aN X G a51 (fun _ _ _ _ _ _=>ln2 fun _ _=>rfl),aN X G a52 (fun _ _ _ _ _ _=>ln2 fun _ _=>rfl),aN X G a53 (fun _ _ _ _ _ _=>ln1 fun _=>rfl),aN X G a54 (fun _ _ _ _ _ _=>ln2 fun _ _=>rfl),aN X G a55 (fun _ _ _ _ _ _=>ln1 fun _=>rfl),aN X G a56 (fun _ _ _ _ _ _=>ln3 fun _ _ _=>rfl),aN X G a57 (fun _ _ _ _ _ _=>ln3 fun _ _ _=>rfl),aN X G a58 (fun _ _ _ _ _ _=>ln2 fun _ _=>rfl),aN X G a59 (fun _ _ _ _ _ _=>ln4 fun _ _ _ _=>rfl),aN X G a60 (fun _ _ _ _ _ _=>ln3 fun _ _ _=>rfl),aN X G a61 (fun _ _ _ _ _ _=>ln4 fun _ _ _ _=>rfl),aN X G a62 (fun _ _ _ _ _ _=>ln2 fun _ _=>rfl),aN X G a63 (fun _ _ _ _ _ _=>ln6 fun _ _ _ _ _ _=>rfl),aN X G a64 (fun _ _ _ _ _ _=>ln4 fun _ _ _ _=>rfl),aN X G a65 (fun _ _ _ _ _ _=>ln1 fun _=>rfl),mg_none_of X G z0,mg_none_of X G z1,mg_none_of X G z2,mg_none_of X G z3,mg_none_of X G z4,mg_none_of X G z5,mg_none_of X G z6,mg_none_of X G z7,mg_none_of X G z8,mg_none_of X G z9,mg_none_of X G z10,mg_none_of X G z11,mg_none_of X G z12,mg_of X G v0,mg_of X G v1,mg_of X G v2,mg_of X G v3,mg_of X G v4,⟨mg_of X G v5,⟨_,_,_,_,_,_,w5⟩⟩,⟨mg_of X G v6,⟨_,_,_,_,_,_,w6⟩⟩⟩
 exact⟨_,fun s v=>.of_eq rfl,fun base _ _ hs=>OK (e:=⟨l.prog,w,K,mg,base,_⟩) ⟨T,hs,ht⟩⟩
theorem walk{l:PySem.W.OpenLaw}{q:Program}{loose:List Str}{XP:(Str->Option Value)->Heap->Prop}{YP:World->Heap->Prop}{d:DefRec}{K:Params->PySem.W.Frag}(tabs:List Addr)(him:PyProof.Rows.importsNone q=true)(hn:l.most=some 63)(hdf:d.params.defaults=[])
  (hY:∀(w:World) (h:Heap),YP w h->(K w.params).In h/\(∀p∈tabs,h.get? p=some (PySem.W.tabObj #[])/\(K w.params).lookup p=none)/\(∀p∈tabs,isCodeTable h p))
  (hA2:∀(w:World) c o p q,(K w.params).lookup c=some o->dz o=some (p,q)->p∈tabs)
  (F:∀(w:World) (mg:Str->Option Value) (fa:Addr) (h:Heap),(K w.params).In h->h.Ns mainGlobals mg->mg d.name=some (.ref fa) ->
   ∃fd:FuncData,(∀(s:Shared) (u:Value),BindsTo s fd ⟨[u],[]⟩ [("_law_script",u)])/\∀base:Heap,(K w.params).In base->base.Ns mainGlobals mg->base.NoSeer->mw l.prog w (K w.params) mg base CX0 76 fa fd ["_law_script"] (spD (K w.params) zL)) :
  PySem.W.WalkO q loose XP YP l.row.toRowW d [] (fun f vs=>PySem.call f vs):=
 L2.Lj (n:=63) (k:=76) (x:="_law_script") (CX:=fun _=>CX0) (sp:=fun w=>spD (K w.params) zL) tabs him hn ⋯ hdf ⟨rfl,⋯,⋯⟩ hY hA2 F (fun w H a ns hl hT hS=>JC hl hT hS) fun _ _ _ _ _ z=>z
end K26
open PySem PySem.W PyProof.Rows L2.DL in
set_option maxRecDepth 100000 in
set_option maxHeartbeats 0 in
theorem PySem.Challenge.cw_matefloors_k26_tiles_of_great_plans_holds : PySem.Challenge.rw_matefloors_k26_tiles_of_great_plans.Holds :=
 holds_law K26.H.ws fun said=>holds_open (XP:=XL K26.H.V []) (YP:=K26.H.HK.says) (d:=K26.H.D) (kwd:=[]) K26.H.left K26.H.HK.of K26.H.HK.keeps (fun s e=>xl_of s (Bool.and_eq_true_iff.mp e).1) XL.keeps ⟨⟩ ⟨⟩ ⟨⟩
  (fun s e=>recFacts_of (Bool.and_eq_true_iff.mp e).2) ⟨⟩ said ⟨⟩ ⟨⟨⟩,⟨⟩,⟨⟩,⟨⟩,⟨⟩,⟨⟩⟩ ⟨[.list []],⟨⟩,⟨⟩⟩
  (K26.walk (l:=PySem.Challenge.rw_matefloors_k26_tiles_of_great_plans) (K:=K26.H.K) K26.H.tabs ⟨⟩ ⟨⟩ ⟨⟩ (fun w h ZY=>by
   have ZY:(K26.H.KF w.params).In h:=ZY
   refine⟨CP ZY,fun p hp=>?_,fun p hp=>?_⟩
   ·rcases List.mem_cons.mp hp with rfl|hp
    ·exact⟨ZY _ _ (K26.H.kN w.params).1,(K26.H.kN w.params).2⟩
    rcases List.mem_cons.mp hp with rfl|hp
    ·exact⟨ZY _ _ (K26.H.HA w.params).1,(K26.H.HA w.params).2⟩
    exact nomatch hp
   ·rcases List.mem_cons.mp hp with rfl|hp
    ·obtain⟨o,e1,e2⟩:=Hw (K26.H.tD w.params);exact BP (CP ZY) e1 e2
    rcases List.mem_cons.mp hp with rfl|hp
    ·obtain⟨o,e1,e2⟩:=Hw (K26.H.JX w.params);exact BP (CP ZY) e1 e2
    exact nomatch hp) (fun w c o p q e e2=>by
   have h:=ME (K26.H.Pr w.params) e e2
   have h2:=mem_map_of_mem (f:=fun x:Addr×Str=>x.1) h
   exact h2) fun w mg fa h KX G hmg=>by
   obtain⟨h0,h1,h2,h3,h4,h5,h6,h7,h8,h9,h10,h11,h12,h13⟩:=K26.H.Qr w.params
   obtain⟨h14,h15,h16,h17,h18,h19,h20,h21,h22,h23,h24,h25,h26,h27⟩:=K26.H.Pu w.params
   obtain⟨h28,h29,h30,h31,h32,h33,h34,h35,h36,h37,h38,h39,h40,h41⟩:=K26.H.OR w.params
   obtain⟨h42,h43,h44,h45,h46,h47,h48,h49,h50,h51,h52,h53,h54,h55⟩:=K26.H.Qn w.params
   obtain⟨h56,h57,h58,h59,h60,h61,h62,h63,h64,h65,h66,h67,h68,h69⟩:=K26.H.Om w.params
   obtain⟨h70,h71,h72,h73,h74,h75,h76,h77,h78,h79,h80,h81,h82,h83⟩:=K26.H.PZ w.params
   obtain⟨h84,h85⟩:=K26.H.O4 w.params
   exact K26.all_mk KX G hmg ⟨⟩ h0 h1 h2 h3 h4 h5 h6 h7 h8 h9 h10 h11 h12 h13 h14 h15 h16 h17 h18 h19 h20 h21 h22 h23 h24 h25 h26 h27 h28 h29 h30 h31 h32 h33 h34 h35 h36 h37 h38 h39 h40 h41 h42 h43 h44 h45 h46 h47 h48 h49 h50 h51 h52 h53 h54 h55 h56 h57 h58 h59 h60 h61 h62 h63 h64 h65 h66 h67 h68 h69 h70 h71 h72 h73 h74 h75 h76 h77 h78 h79 h80 h81 h82 h83 h84.1 h84.2 h85.1 h85.2)
