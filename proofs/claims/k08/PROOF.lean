import PyProof.Rows.All
import KE.KFind
import KE.KLam
import KE.KTryMore
import KE.LcSums
import KE.KRevSl
import Lean
import PyProof.DictCompW
import PyProof.DictTable
import PyProof.IsRules
import PyProof.SetKind
import PyProof.TupleKey
import PySem.SetTable
import PyProof.EnumMake
import PyProof.WalksEnum
import PyProof.Rows.SetFrom
import PyProof.SetRoads
import PySem.Challenge.RW_matefloors_k08_what_is_a_laying
set_option Elab.async false
set_option linter.all false
set_option maxRecDepth 100000
set_option maxHeartbeats 4000000
set_option genSizeOf false
set_option compiler.extract_closed false
set_option bootstrap.genMatcherCode false
local macro_rules|`(‹$q›)=>`({nx:=fun _ y=>$q (.v .none) y,rt:=$q})
set_option genInjectivity false
local macro_rules | `(⋯) => `((by decide))
local macro_rules | `(∅) => `((by omega))
local macro_rules | `(nofun) => `((by decide +kernel))
local macro_rules | `(⟨⟩) => `((by kernel_rfl))
local macro_rules | `(tactic| walk_at "s") => `(tactic| exact ⟨rfl, rfl, rfl, by decide +kernel, rfl, by decide +kernel, by decide +kernel⟩)
local macro_rules | `(tactic| walk_at "b") => `(tactic| (intro _ _ _ _ _ _ us hl; first | exact (match us, hl with | [], _ => rfl) | exact (match us, hl with | [_], _ => rfl) | exact (match us, hl with | [_, _], _ => rfl) | exact (match us, hl with | [_, _, _], _ => rfl) | exact (match us, hl with | [_, _, _, _], _ => rfl) | exact (match us, hl with | [_, _, _, _, _], _ => rfl)))
open PySem.W (fnOf nsIn codeIn keepIn kitOne kia_one mg_of mg_none_of)
open List (map_append map_map mem_append_left filterMap_cons mem_cons_self mem_cons_of_mem mem_append_right append_nil length_take getElem?_append_right getElem?_append_left getElem?_map mem_of_getElem? length_append length_map size_toArray replicate_succ flatten_cons append_assoc map_nil map_cons length_cons getElem_mem getElem?_eq_none mem_append mem_cons getElem?_eq_getElem mem_singleton length_nil mem_map flatMap_cons mem_map_of_mem not_mem_nil lookup_cons take_length cons_append take_zero flatMap_append take_succ all_map)
open Int (natAbs_mul le_of_lt mul_nonneg le_refl)
open Nat (lt_of_lt_of_le le_add_right ne_of_lt lt_irrefl le_trans pow_succ zero_le le_of_lt_succ lt_or_ge not_lt_zero mul_le_mul lt_or_eq_of_le lt_succ_of_lt)
open Bool (false_eq_true and_eq_true xor_false false_xor)
open PySem.F (plainAttrs_list)
open Option (bind_some map_some join_some)
open PySem (mem_of_lookup)
namespace L2
open PySem PySem.W
noncomputable def nz:Sem Fin->Bool
 |.choose ..=>false
 |.os ..=>false
 |_=>true
theorem PF{den:Code->Sem Fin}{p:Program}{w:World}{os:OsState}{s s':Shared}{t t':Thread}(h:nz t.cur=true)(e:step den p ⟨fun _ _=>0,w.params⟩ s t = .go s' t') :
  step den p w {s with os:=os} t = .go {s' with os:=os} t':=by
 obtain⟨heap,gens,drawn,toks,os0⟩:=s
 obtain⟨cur,code,pos,stack⟩:=t
 cases cur<;>simp only[step,finish,nz] at e h ⊢<;>(try (cases h;done))<;>(repeat' split at e)<;>simp_all<;>(try (obtain⟨rfl,rfl⟩:=e;simp_all))<;>(try (obtain⟨h1,h2⟩:=e;subst h1;rfl))
noncomputable def ub(tb:String->Option Builtin)(p:Program)(P:Params)(mt:Nat)(ann:Option Value):Nat->Shared->Thread->Option Shared
 |0,_,_=>none
 |n+1,s,t=>match through t with
  |true=>some s
  |false=>match stepOk mt ann t&&nz t.cur with
   |false=>none
   |true=>match step (denote tb) p ⟨fun _ _=>0,P⟩ s t with
    |.go s' t'=>ub tb p P mt ann n s' t'
    |.halt _ _=>none
theorem yd{tb:String->Option Builtin}{p:Program}{w:World}{mt:Nat}{ann:Option Value}{os:OsState}:∀{n:Nat} {s s':Shared} {t:Thread},ub tb p w.params mt ann n s t=some s'->topRun tb p w mt ann n {s with os:=os} t=some {s' with os:=os}
 |0,_,_,_,h=>by cases h
 |n+1,s,s',t,h=>by
  unfold ub at h
  unfold topRun
  cases ht:through t with
  |true=>rw[ht] at h;cases h;rfl
  |false=>
   rw[ht] at h
   cases hk:(stepOk mt ann t&&nz t.cur) with
   |false=>rw[hk] at h;cases h
   |true=>
    rw[hk] at h
    obtain⟨k1,k2⟩:=Bool.and_eq_true_iff.mp hk
    cases hs:step (denote tb) p ⟨fun _ _=>0,w.params⟩ s t with
    |halt o ii=>rw[hs] at h;cases h
    |go ii wl=>
     rw[hs] at h
     rw[k1,PF (os:=os) k2 hs]
     exact yd h
noncomputable def xS(p:Program)(P:Params)(mt:Nat)(ann:Option Value):Nat->Shared->Thread->Option Shared
 |0,_,_=>none
 |n+1,s,t=>match through t with
  |true=>some s
  |false=>match Fast.tw6613529449190102663 mt ann t&&nz t.cur with
   |false=>none
   |true=>match Fast.tw8437177126325714943 (Fast.tw11892475500146522536 Fast.tw14364793385576792824) p ⟨fun _ _=>0,P⟩ s t with
    |.go s' t'=>xS p P mt ann n s' t'
    |.halt _ _=>none
theorem yt{p:Program}{P:Params}{mt:Nat}{ann:Option Value}:∀(n:Nat) (s:Shared) (t:Thread),xS p P mt ann n s t=ub treeTable p P mt ann n s t
 |0,_,_=>rfl
 |n+1,s,t=>by
  unfold xS ub
  rw[<- Fast.te6613529449190102663,<- Fast.te8437177126325714943,<- Fast.te11892475500146522536,<- Fast.te14364793385576792824]
  cases through t with
  |true=>rfl
  |false=>
   cases (stepOk mt ann t&&nz t.cur) with
   |false=>rfl
   |true=>
    cases step (denote treeTable) p ⟨fun _ _=>0,P⟩ s t with
    |halt o ii=>rfl
    |go ii wl=>exact yt n ii wl
end L2
namespace L2
open PySem
noncomputable def lG(s:Stmt):Arguments:=match s with
 |.FunctionDef _ a _ _ _ _ _ _ _ _=>a
 |_=>{posonlyargs:=[],args:=[],vararg:=none,kwonlyargs:=[],kw_defaults:=[],kwarg:=none,defaults:=[]}
noncomputable def jR(s:Stmt):List Stmt:=match s with
 |.FunctionDef _ _ b _ _ _ _ _ _ _=>b
 |_=>[]
noncomputable def aA(s:Stmt):Scope:=match s with
 |.FunctionDef _ _ _ _ _ _ sc _ _ _=>sc
 |_=>{kind:=.function,names:=[],isGenerator:=false,isCoroutine:=false}
end L2
namespace L2.DL
open PySem
noncomputable def Lk:List Str:=["law","_law_is_right","_law_is_put","_law_are_refused","_law_is_told","_law_said","_law_is_plan_told"]
noncomputable def dm(o:Obj):Option (Addr×Str):=match o.cls,o.data with
 |.type c,.fields vs=>if c = "code" then (match vs[1]?,vs[7]?,vs[9]?,vs[10]?,vs[11]?,vs[18]? with
  |some (Value.str q _),some (Value.int _ _),some (Value.bool _),some (Value.int _ _),some (Value.ref P),some (Value.str _ _)=>if Lk.contains q=true then some (P,q) else none
  |_,_,_,_,_,_=>none) else none
 |_,_=>none
end L2.DL
namespace K08
open PySem L2
noncomputable def top(i:Nat):Stmt:=PySem.Challenge.pw_matefloors_k08_what_is_a_laying.main.body.getD i (.Pass ⟨0,0,0,0⟩)
noncomputable abbrev ic:Stmt:=top 5
noncomputable abbrev cK:Stmt:=top 6
noncomputable abbrev gk:Stmt:=top 7
noncomputable abbrev cI:Stmt:=top 8
noncomputable abbrev nH:Stmt:=top 9
noncomputable abbrev wo:Stmt:=top 10
noncomputable abbrev jT:Stmt:=top 11
noncomputable abbrev cU:Stmt:=top 12
noncomputable abbrev ig:Stmt:=top 13
noncomputable abbrev cm:Stmt:=top 14
noncomputable abbrev jU:Stmt:=top 17
noncomputable abbrev iq:Stmt:=top 18
noncomputable abbrev gB:Stmt:=top 19
noncomputable abbrev d6:Stmt:=top 20
noncomputable abbrev dy:Stmt:=top 21
noncomputable abbrev dq:Stmt:=top 22
noncomputable abbrev d7:Stmt:=top 23
noncomputable abbrev gp:Stmt:=top 24
noncomputable abbrev gv:Stmt:=top 26
noncomputable abbrev dA:Stmt:=top 27
noncomputable abbrev cF:Stmt:=top 28
noncomputable abbrev cY:Stmt:=top 29
noncomputable abbrev cE:Stmt:=top 30
noncomputable abbrev cX:Stmt:=top 31
noncomputable abbrev dX:Stmt:=top 32
noncomputable abbrev fY:Stmt:=top 33
noncomputable abbrev dw:Stmt:=top 34
noncomputable abbrev dW:Stmt:=top 35
noncomputable abbrev eY:Stmt:=top 36
noncomputable abbrev du:Stmt:=top 37
noncomputable abbrev eS:Stmt:=top 38
noncomputable abbrev fX:Stmt:=top 39
noncomputable abbrev iG:Stmt:=top 40
noncomputable abbrev eP:Stmt:=top 41
noncomputable abbrev iE:Stmt:=top 42
noncomputable abbrev gc:Stmt:=top 43
noncomputable abbrev d3:Stmt:=top 44
noncomputable abbrev cW:Stmt:=top 45
noncomputable abbrev eR:Stmt:=top 46
noncomputable abbrev gw:Stmt:=top 47
noncomputable abbrev fc:Stmt:=top 48
noncomputable abbrev gi:Stmt:=top 49
noncomputable abbrev eX:Stmt:=top 50
noncomputable abbrev gA:Stmt:=top 51
noncomputable abbrev cp:Stmt:=top 52
noncomputable abbrev dY:Stmt:=top 53
noncomputable abbrev gg:Stmt:=top 54
noncomputable abbrev iD:Stmt:=top 55
noncomputable abbrev bW:Stmt:=top 56
noncomputable abbrev bX:Stmt:=top 57
noncomputable abbrev cD:Stmt:=top 58
noncomputable abbrev dD:Stmt:=top 59
noncomputable abbrev rn:Stmt:=top 60
noncomputable abbrev fd(n:Str)(s:Stmt)(tk:Tok)(m:Str)(cd:Addr):FuncData:=fnOf n n (lG s) (jR s) (aA s) .none .none .none (.str m tk) none (.ref cd) .none
noncomputable abbrev FQ(K:PySem.W.Frag)(n:Str)(s:Stmt)(a cd:Addr)(tk:Tok)(m:Str):Prop:=nsIn K mainGlobals n=some (some (.ref a))/\K.lookup a=some ⟨.type "function",none,.func (fd n s tk m cd),#[]⟩/\codeIn K (.ref cd) n=true/\keepIn K (.ref a)=true
end K08
namespace K08.H
open PySem PySem.W PyProof.Rows L2 L2.DL
set_option maxHeartbeats 0
noncomputable abbrev R:OpenLaw:=PySem.Challenge.rw_matefloors_k08_what_is_a_laying
noncomputable abbrev LO:List Str:=["has_form","has_form_layings","has_form_plans"]
noncomputable def sT(P:Params):Option Shared:=xS R.row.prog P 11 (some (.ref 6)) 20000 {heap:=boot_heap P,gens:=#[],drawn:=boot_drawn,toks:=boot_toks,os:=default} (topStub R.row.prog)
noncomputable def defName:Stmt->Str
 |.FunctionDef n _ _ _ _ _ _ _ _ _=>n
 |_=>Str.empty
noncomputable def Iw:Stmt->Int
 |.FunctionDef _ _ _ _ _ _ _ _ _ p=>Int.ofNat p.line
 |_=>0
noncomputable def cn(o:Obj)(r:List Obj):List Obj:=o::r
noncomputable def g(P:Params)(x:Str)(t:Nat)(v:Value):DictEntry:=⟨PyData.keyHash P x,.str x t,v⟩
noncomputable def gf(P:Params)(i t a:Nat):DictEntry:=g P (defName (top i)) t (.ref a)
noncomputable def tb:List (Int×Nat)->List Value
 |[]=>[]
 |(a,b)::l=>.int a 0::.int 0 0::.ref b::tb l
noncomputable def tu(l:List Value):Obj:=⟨.type "tuple",none,.seq l.toArray 0,#[]⟩
noncomputable def nf:Obj:=⟨.none,none,.fields #[],#[]⟩
noncomputable def dp(s:Stmt):List Str:=(lG s).args.map (·.arg)
noncomputable def fd(s:Stmt)(a:Addr)(p c:Value):Data:=.func {name:=defName s,qualname:=defName s,params:=lG s,body:=.stmts (jR s),scope:=aA s,globals:=a,closure:=[],defaults:=.none,kwdefaults:=.none,pyModule:=p,code:=c}
noncomputable def co(s:Stmt)(a t u:Nat)(x y:Value)(d:Nat):Obj:=⟨.type "code",none,.fields #[.str (defName s) t,.str (defName s) (t+1),.str "/claim/cut.py" (t+2),.int (Iw s) 0,.int (Int.ofNat (dp s).length) 0,.int 0 0,.int 0 0,.int 3 0,.ref a,.bool true,.int 181 0,.ref (a+1),.none,x,y,.ref (a+d),.int (Int.ofNat u) 0,.int (Iw s) 0,.str "/claim/cut.py" (u+1)],#[]⟩
noncomputable def nv:Nat->List Str->List Value
 |_,[]=>[]
 |t,x::l=>.str x t::nv (t+1) l
noncomputable def fB(i a t:Nat)(l:List Str)(p:Value)(r:List Obj):List Obj:=tu []::nf::tu (nv (t+3) (dp (top i)++l))::tu []::⟨.none,none,fd (top i) 0 .none .none,#[]⟩::co (top i) a t (t+3+(dp (top i)++l).length) (.ref (a+2)) (.ref (a+3)) 4::⟨.type "function",none,fd (top i) 3 p (.ref (a+5)),#[]⟩::r
noncomputable def fL(i a t:Nat)(p:Value)(r:List Obj):List Obj:=tu []::nf::⟨.none,none,fd (top i) 0 .none .none,#[]⟩::co (top i) a t (t+3) .none .none 2::⟨.type "function",none,fd (top i) 3 p (.ref (a+3)),#[]⟩::r
noncomputable def me:Value:=.str "matefloors.errors" 187
noncomputable def cB(P:Params)(x:Str)(i t:Nat)(n:Int)(r:List Obj):List Obj:=tu [.ref 24]::⟨.type "builtin_function_or_method",none,.fields #[.builtin "type.__prepare__",.type "type"],#[]⟩::⟨.type "dict",none,.dict #[g P "__module__" (t+5) me,g P "__qualname__" (t+7) (.str x (t+6)),g P "__firstlineno__" (t+9) (.int n (t+8)),g P "__static_attributes__" (t+10) (.ref (i+7))] 4,#[]⟩::tu []::nf::⟨.type "code",none,.fields #[.str x t,.str x (t+1),.str "/claim/cut.py" (t+2),.int n 0,.int 0 0,.int 0 0,.int 0 0,.int 0 0,.ref (i+3),.bool false,.int 181 0,.ref (i+4),.none,.none,.none,.none,.int (Int.ofNat (t+3)) 0,.int n 0,.str "/claim/cut.py" (t+4)],#[]⟩::⟨.type "frame",none,.plain,#[some (.ref (i+5)),some (.ref 3),some (.ref (i+2)),none,some me,none,some (.ref 0)]⟩::tu []::⟨.type "dict",none,.dict #[g P "__module__" (t+5) me,g P "__firstlineno__" (t+9) (.int n (t+8)),g P "__static_attributes__" (t+10) (.ref (i+7)),g P "__doc__" (t+11) .none] 2,#[]⟩::⟨.type "type",none,.cls ⟨x,[.ref 24],[.ref (i+9),.ref 24,.type "ValueError",.type "Exception",.type "BaseException",.type "object"],i+8,x,true,[],[],false,none,false⟩,#[some (.ref i),none,some (.str x (t-2)),some (.str x (t+6)),some (.builtin "ValueError.__new__"),some (.bool true)]⟩::⟨.type "super",none,.fields #[.ref (i+9),.ref (i+9),.ref (i+9)],#[]⟩::⟨.type "builtin_function_or_method",none,.fields #[.builtin "object.__init_subclass__",.ref (i+9)],#[]⟩::r
noncomputable def m0:Value:=.str "matefloors.numbers" 223
noncomputable def m1:Value:=.str "matefloors.layings" 318
noncomputable def m2:Value:=.str "law_matefloors_k08_what_is_a_laying" 394
noncomputable def ho0(P:Params)(r:List Obj):List Obj:=cn (boot_o_0 P) <| cn (boot_o_1 P) <| cn (boot_o_2 P) <| cn (⟨.type "dict",none,.dict #[g P "__name__" 165 (.str "law_matefloors_k08_what_is_a_laying" 394),g P "__doc__" 166 .none,g P "__package__" 167 .none,g P "__loader__" 168 (.builtin "__main__.__loader__#opaque"),g P "__spec__" 169 .none,g P "__annotations__" 170 (.ref 6),g P "__builtins__" 171 (.ref 4),g P "__file__" 173 (.str "/claim/cut.py" 172),g P "__cached__" 174 .none,g P "FloorError" 206 (.ref 24),g P "NoNumber" 222 (.ref 37),g P "NOUGHT" 228 (.ref 40),gf P 5 235 47,gf P 6 243 54,gf P 7 253 61,gf P 8 262 68,gf P 9 272 75,gf P 10 280 82,gf P 11 288 89,gf P 12 298 96,gf P 13 309 103,gf P 14 317 110,g P "MOST_TILES" 321 (.int 60 320),gf P 17 333 117,gf P 18 339 122,gf P 19 350 129,gf P 20 362 136,gf P 21 373 143,gf P 22 381 150,gf P 23 387 155,gf P 24 393 160,gf P 26 404 167,gf P 27 413 174,gf P 28 419 179,gf P 29 427 186,gf P 30 433 191,gf P 31 440 198,gf P 32 448 205,gf P 33 459 212,gf P 34 465 217,gf P 35 471 222,gf P 36 477 227,gf P 37 490 234,gf P 38 499 241,gf P 39 507 248,gf P 40 517 255,gf P 41 524 262,gf P 42 536 269,gf P 43 542 274,gf P 44 553 281,gf P 45 559 286,gf P 46 579 293,gf P 47 588 300,gf P 48 594 305,gf P 49 605 312,gf P 50 611 317,gf P 51 619 324,gf P 52 627 331,gf P 53 644 338,gf P 54 655 345,gf P 55 663 352,gf P 56 684 359,gf P 57 696 366,gf P 58 712 373,gf P 59 721 380,gf P 60 727 385] 66,#[]⟩) <| cn (boot_o_4 P) <| cn (boot_o_5 P) <| cn (boot_o_6 P) <| cn (boot_o_7 P) <| cn (boot_o_8 P) <| cn (boot_o_9 P) <| cn (boot_o_10 P) <| cn (⟨(.type "tuple"),none,(.seq #[] 0),#[]⟩) <| cn (⟨.none,none,.fields (tb [(2,20),(4,33),(8,46),(10,53),(14,60),(21,67),(23,74),(30,81),(32,88),(34,95),(43,102),(47,109),(51,116),(58,121),(67,128),(70,135),(80,142),(87,149),(89,154),(100,159),(109,166),(116,173),(118,178),(127,185),(129,190),(133,197),(135,204),(140,211),(146,216),(152,221),(165,226),(176,233),(189,240),(191,247),(193,254),(196,261),(198,268),(208,273),(213,280),(219,285),(225,292),(232,299),(237,304),(242,311),(252,316),(255,323),(257,330),(264,337),(277,344),(282,351),(285,358),(305,365),(309,372),(317,379),(320,384)]).toArray,#[]⟩) <| cn (⟨(.type "code"),none,(.fields #[(.str "<module>" 182),(.str "<module>" 183),(.str "/claim/cut.py" 184),(.int 1 0),(.int 0 0),(.int 0 0),(.int 0 0),(.int 0 0),(.ref 11),(.bool false),(.int 181 0),(.ref 12),.none,.none,.none,.none,(.int 185 0),(.int 1 0),(.str "/claim/cut.py" 186)]),#[]⟩) <| cn (⟨(.type "frame"),none,.plain,#[some (.ref 13),some (.ref 3),some (.ref 3),none,some (.str "__main__" 164),none,some (.ref 0)]⟩) <| cn (⟨(.type "tuple"),none,(.seq #[(.type "ValueError")] 0),#[]⟩) <| cn (⟨(.type "builtin_function_or_method"),none,(.fields #[(.builtin "type.__prepare__"),(.type "type")]),#[]⟩) <| cn (⟨(.type "dict"),none,(.dict #[⟨PyData.keyHash P "__module__",(.str "__module__" 196),(.str "matefloors.errors" 187)⟩,⟨PyData.keyHash P "__qualname__",(.str "__qualname__" 198),(.str "FloorError" 197)⟩,⟨PyData.keyHash P "__firstlineno__",(.str "__firstlineno__" 200),(.int 2 199)⟩,⟨PyData.keyHash P "__static_attributes__",(.str "__static_attributes__" 201),(.ref 22)⟩] 4),#[]⟩) <| cn (⟨(.type "tuple"),none,(.seq #[] 0),#[]⟩) <| cn (⟨.none,none,(.fields #[]),#[]⟩) <| r
noncomputable def ho1(P:Params)(r:List Obj):List Obj:=cn (⟨(.type "code"),none,(.fields #[(.str "FloorError" 191),(.str "FloorError" 192),(.str "/claim/cut.py" 193),(.int 2 0),(.int 0 0),(.int 0 0),(.int 0 0),(.int 0 0),(.ref 18),(.bool false),(.int 181 0),(.ref 19),.none,.none,.none,.none,(.int 194 0),(.int 2 0),(.str "/claim/cut.py" 195)]),#[]⟩) <| cn (⟨(.type "frame"),none,.plain,#[some (.ref 20),some (.ref 3),some (.ref 17),none,some (.str "matefloors.errors" 187),none,some (.ref 0)]⟩) <| cn (⟨(.type "tuple"),none,(.seq #[] 0),#[]⟩) <| cn (⟨(.type "dict"),none,(.dict #[⟨PyData.keyHash P "__module__",(.str "__module__" 196),(.str "matefloors.errors" 187)⟩,⟨PyData.keyHash P "__firstlineno__",(.str "__firstlineno__" 200),(.int 2 199)⟩,⟨PyData.keyHash P "__static_attributes__",(.str "__static_attributes__" 201),(.ref 22)⟩,⟨PyData.keyHash P "__weakref__",(.str "__weakref__" 203),(.ref 25)⟩,⟨PyData.keyHash P "__doc__",(.str "__doc__" 204),.none⟩] 3),#[]⟩) <| cn (⟨(.type "type"),none,(.cls ⟨"FloorError",[(.type "ValueError")],[(.ref 24),(.type "ValueError"),(.type "Exception"),(.type "BaseException"),(.type "object")],23,"FloorError",true,[],[(.ref 37)],false,none,false⟩),#[some (.ref 15),none,some (.str "FloorError" 189),some (.str "FloorError" 197),some (.builtin "ValueError.__new__"),some (.bool true)]⟩) <| cn (⟨(.type "getset_descriptor"),none,(.fields #[(.str "__weakref__" 202),(.ref 24),(.builtin "ExceptionGroup.__weakref__"),.none]),#[]⟩) <| cn (⟨(.type "super"),none,(.fields #[(.ref 24),(.ref 24),(.ref 24)]),#[]⟩) <| cn (⟨(.type "builtin_function_or_method"),none,(.fields #[(.builtin "object.__init_subclass__"),(.ref 24)]),#[]⟩) <| cB P "NoNumber" 28 209 4 <| cn (⟨(.type "tuple"),none,(.seq #[(.int 0 225),(.int 0 226),(.int 1 227)] 0),#[]⟩) <| fB 5 41 229 [] m0 <| fB 6 48 236 [] m0 <| fB 7 55 244 ["a","b","c"] m0 <| fB 8 62 254 [] m0 <| fB 9 69 263 ["divisor"] m0 <| fB 10 76 273 [] m0 <| fB 11 83 281 [] m0 <| fB 12 90 289 ["prevailing"] m0 <| fB 13 97 299 ["a","b"] m0 <| fB 14 104 310 [] m0 <| r
noncomputable def ho2(P:Params)(r:List Obj):List Obj:=fB 17 111 322 ["x","y","width","height"] m1 <| fL 18 118 334 m1 <| fB 19 123 340 ["x","y","width","height"] m1 <| fB 20 130 351 ["low","high","middle"] m1 <| fB 21 137 363 ["marks","x","place"] m1 <| fB 22 144 374 [] m1 <| fL 23 151 382 m1 <| fL 24 156 388 m1 <| fB 26 161 396 ["_law_digit"] m2 <| fB 27 168 405 [] m2 <| fL 28 175 414 m2 <| fB 29 180 420 [] m2 <| fL 30 187 428 m2 <| fB 31 192 434 [] m2 <| fB 32 199 441 [] m2 <| fB 33 206 449 ["_law_first","_law_second","_law_sides_here"] m2 <| fL 34 213 460 m2 <| fL 35 218 466 m2 <| fL 36 223 472 m2 <| fB 37 228 478 ["_law_found","_law_one","_law_low_here","_law_high","_law_middle"] m2 <| r
noncomputable def ho3(P:Params)(r:List Obj):List Obj:=fB 38 235 491 [] m2 <| fB 39 242 500 [] m2 <| fB 40 249 508 ["_law_common"] m2 <| fB 41 256 518 [] m2 <| fB 42 263 525 ["_law_cell","_law_great","_law_primes","_law_mixed_here"] m2 <| fL 43 270 537 m2 <| fB 44 275 543 ["_law_columns","_law_rows","_law_blocks_here"] m2 <| fL 45 282 554 m2 <| fB 46 287 560 ["_law_xs","_law_ys","_law_tiles","_law_column","_law_row","_law_wide","_law_high","_law_width","_law_height"] m2 <| fB 47 294 580 ["_law_found","_law_side_here"] m2 <| fL 48 301 589 m2 <| fB 49 306 595 ["_law_x","_law_sign_here"] m2 <| fL 50 313 606 m2 <| fB 51 318 612 [] m2 <| fB 52 325 620 ["_law_draw"] m2 <| fB 53 332 628 ["_law_met","_law_found","_law_most","_law_row","_law_column","_law_wide","_law_high","_law_k"] m2 <| fB 54 339 645 ["_law_found"] m2 <| fB 55 346 656 ["_law_some"] m2 <| fB 56 353 664 ["_law_width","_law_height","_law_tiles","_law_way","_law_at","_law_odd_here","_law_place","_law_tile","_law_x","_law_y","_law_w","_law_h","_law_some"] m2 <| fB 57 360 685 ["_law_a","_law_b","_law_c","_law_some"] m2 <| r
noncomputable def ho4(P:Params)(r:List Obj):List Obj:=fB 58 367 697 ["_law_width","_law_height","_law_tiles","_law_i","_law_j","_law_one","_law_other","_law_some"] m2 <| fB 59 374 713 ["_law_told"] m2 <| fL 60 381 722 m2 <| r
noncomputable def hT(P:Params):Heap:=⟨⟨ho0 P <| ho1 P <| ho2 P <| ho3 P <| ho4 P []⟩,(boot_heap P).life⟩
noncomputable abbrev mz0:Str:="matefloors.numbers"
noncomputable abbrev mz1:Str:="matefloors.layings"
noncomputable abbrev mz2:Str:="law_matefloors_k08_what_is_a_laying"
noncomputable def isNm:Stmt->Bool
 |.Assign [.Name x _] _ _=>x == "__name__"
 |_=>false
noncomputable def V:Program:={R.row.prog with main:={R.row.prog.main with body:=R.row.prog.main.body.filter fun s=>!isNm s}}
noncomputable def as:List Addr:=[3,47,46,54,53,61,60,68,67,75,74,82,81,89,88,96,95,103,102,110,109,117,116,122,121,129,128,136,135,143,142,150,149,155,154,160,159,167,166,174,173,179,178,186,185,191,190,198,197,205,204,212,211,217,216,222,221,227,226,234,233,241,240,248,247,255,254,262,261,269,268,274,273,281,280,286,285,293,292,300,299,305,304,312,311,317,316,324,323,331,330,338,337,345,344,352,351,359,358,366,365,373,372,380,379,385,384,40]
noncomputable def tabs:List Addr:=[375,382]
noncomputable def K(P:Params):Frag:=as.map fun a=>(a,((hT P).get? a).getD default)
noncomputable def TF(P:Params):Frag:=tabs.map fun a=>(a,((hT P).get? a).getD default)
noncomputable def KF(P:Params):Frag:=K P++TF P
theorem kAs(P:Params):as++tabs=(KF P).map (·.1):=by
 unfold KF K TF
 rw[map_append,map_map,map_map]
 exact congr (congrArg HAppend.hAppend (List.map_id _).symm) (List.map_id _).symm
noncomputable def HK:Hook:=kHook KF (as++tabs) kAs
noncomputable def posOf:Stmt->Pos
 |.FunctionDef _ _ _ _ _ _ _ _ _ p=>p
 |_=>⟨0,0,0,0⟩
noncomputable def D:DefRec:=⟨"law",lG K08.rn,jR K08.rn,aA K08.rn,posOf K08.rn⟩
noncomputable def Xt:Shared->Bool:=fun s=>xlAt V [] s&&recOk R.row.records s
theorem runC(P:Params):(sT P).map (fun s=>(s.heap,s.gens,s.drawn,s.toks))=some (hT P,#[],{},728):=⟨⟩
theorem Ts{A B C D:Type}{a a':A}{b b':B}{c c':C}{d d':D}(h:(a,b,c,d)=(a',b',c',d')):a=a'/\b=b'/\c=c'/\d=d':=by
 cases h;exact⟨rfl,rfl,rfl,rfl⟩
theorem run(w:World)(os:OsState):topRun treeTable R.row.prog w 11 (some (.ref 6)) 20000 {heap:=boot_heap w.params,gens:=#[],drawn:=boot_drawn,toks:=boot_toks,os:=os} (topStub R.row.prog)=some {heap:=hT w.params,gens:=#[],drawn:={},toks:=728,os:=os}:=by
 have h:=runC w.params
 cases e:sT w.params with
 |none=>rw[e] at h;cases h
 |some s=>
  rw[e] at h
  obtain⟨heap,gens,drawn,toks,os0⟩:=s
  have h':some (heap,gens,drawn,toks)=some (hT w.params,(#[]:Array GenState),({}:Drawn),728):=h
  obtain⟨rfl,rfl,rfl,rfl⟩:=Ts (Option.some.inj h')
  exact yd (w:=w) (os:=os) ((yt _ _ _).symm.trans e)
theorem RW(w:World)(os:OsState):(staticsOk (importedModules R.row.prog.main.body) (boot_heap w.params) (hT w.params)&&namesBound R.row.prog (hT w.params)&&gensDone {heap:=hT w.params,gens:=#[],drawn:={},toks:=728,os:=os}&&laidKept (boot_heap w.params) (hT w.params))=true:=⟨⟩
theorem PL(w:World)(os:OsState):seen (List.map (fun x=>x.name) (recsOf V)) (ownsOf V) [] {heap:=hT w.params,drawn:={},toks:=728,os:=os} = expectedOf V:=⟨⟩
theorem PR(w:World)(os:OsState):(hT w.params).bltView=bltViewBooted:=⟨⟩
theorem Qi(w:World)(os:OsState):((hT w.params).keysOk (looseW V LO) (List.map (fun x=>x.name) (recsOf V)) (List.map (fun x=>x.fst) (litsOf V)) (List.map (fun x=>x.name) (clssOf V (looseW V LO)))&&(hT w.params).accountedOkI (importedModules R.row.prog.main.body)&&(hT w.params).isNs mainGlobals&&(hT w.params).isNs builtinsNs&&tablesOk V (hT w.params)&&Xt {heap:=hT w.params,gens:=#[],drawn:={},toks:=728,os:=os}&&(if true=true then (#[]:Array GenState).size==0 else !leftWithCleanup (#[]:Array GenState)))=true:=⟨⟩
theorem O2(w:World)(os:OsState):tabsOk V {heap:=hT w.params,gens:=#[],drawn:={},toks:=728,os:=os} = true:=⟨⟩
theorem O3(w:World)(os:OsState):pinSeenD V (drecsOf V) {heap:=hT w.params,gens:=#[],drawn:={},toks:=728,os:=os} = pinGoodD (drecsOf V):=⟨⟩
theorem O9(w:World)(os:OsState):plainSeenE V (looseW V LO) {heap:=hT w.params,gens:=#[],drawn:={},toks:=728,os:=os} = plainGoodE V (looseW V LO):=⟨⟩
theorem QJ(w:World)(os:OsState):plainSeenD V LO {heap:=hT w.params,gens:=#[],drawn:={},toks:=728,os:=os} = plainGoodD V LO:=⟨⟩
theorem P6(w:World)(os:OsState):wideSeen V {heap:=hT w.params,gens:=#[],drawn:={},toks:=728,os:=os} = wideGood V:=⟨⟩
theorem QU(w:World)(os:OsState):clsSeenW V LO {heap:=hT w.params,gens:=#[],drawn:={},toks:=728,os:=os} = clsGoodW V LO:=⟨⟩
theorem Rv{A B C D E F G H I:Type}{a a':A}{b b':B}{c c':C}{d d':D}{e e':E}{f f':F}{g g':G}{h h':H}{i i':I}(h0:a=a')(h1:b=b')(h2:c=c')(h3:d=d')(h4:e=e')(h5:f=f')(h6:g=g')(h7:h=h')(h8:i=i'):(a,b,c,d,e,f,g,h,i)=(a',b',c',d',e',f',g',h',i'):=by
 rw[h0,h1,h2,h3,h4,h5,h6,h7,h8]
theorem RP(w:World)(os:OsState):openSeen V LO (importedModules R.row.prog.main.body) Xt true {heap:=hT w.params,gens:=#[],drawn:={},toks:=728,os:=os} = openGood V LO:=Rv (PL w os) (PR w os) (Qi w os) (O2 w os) (O3 w os) (O9 w os) (QJ w os) (P6 w os) (QU w os)
theorem RX(w:World)(os:OsState):HK.obs {heap:=hT w.params,gens:=#[],drawn:={},toks:=728,os:=os} = HK.val w:=⟨⟩
theorem seen(w:World):(fun os=>(staticsOk (importedModules R.row.prog.main.body) (boot_heap w.params) (hT w.params)&&namesBound R.row.prog (hT w.params)&&gensDone {heap:=hT w.params,gens:=#[],drawn:={},toks:=728,os:=os}&&laidKept (boot_heap w.params) (hT w.params),
  openSeen V LO (importedModules R.row.prog.main.body) Xt true {heap:=hT w.params,gens:=#[],drawn:={},toks:=728,os:=os},HK.obs {heap:=hT w.params,gens:=#[],drawn:={},toks:=728,os:=os}))=fun _:OsState=>(true,openGood V LO,HK.val w):=
 funext fun os=>Prod.ext (RW w os) (Prod.ext (RP w os) (RX w os))
theorem lkb{a b:Bool}(x:a=true)(y:b=true):(a&&b)=true:=by rw[x,y];rfl
theorem wsA:(sreFenced R.row.prog.main&&((moduleNames R.row.prog.main.body).isEmpty || lookedIntoSs (moduleNames R.row.prog.main.body) R.row.prog.main.body))=true:=⟨⟩
theorem wsB:namesResolve R.row.prog=true:=⟨⟩
theorem wsC:R.row.prog.boundNames.all (fun n=>!worldNames.contains n)=true:=⟨⟩
theorem wsD:noRoadLSs {strict:=!(importedModules R.row.prog.main.body).all cThrough.contains,foot:=none,bare:=(["vars","dir","locals"]:List Str).filter (readsOut R.row.prog R.row.prog.main.body)} R.row.prog.main.body=true:=⟨⟩
theorem wsE:(namesMeet R.row.prog R.row.prog.main.body fun _ n=>attrL n)=true:=⟨⟩
theorem wsF:looksOpen R.row.prog=true:=lkb (lkb (lkb (lkb wsA wsB) wsC) wsD) wsE
theorem wsG:R.row.wellSaid=true:=by
 unfold OpenRow.wellSaid OpenRow.partSaid
 rw[wsF]
 kernel_rfl
theorem wsH:noClassBlock R.prog R.footing=true:=⟨⟩
theorem wsI:noRoadLSs {strict:=true,foot:=some R.bound',writes:=R.writes,may:=R.may} R.footing=true:=⟨⟩
theorem wsJ:R.namesIt=true:=⟨⟩
theorem wsK:R.bound'.all (fun n=>!builtinNamed n || R.about==[n] || !R.reads n)=true:=⟨⟩
theorem wsL:namesMeet R.prog R.footing (fun sc n=>(!(["type","isinstance","issubclass","getattr","hasattr"]:List Str).contains n || sc.names.lookup n==some .globalImplicit)&&(R.may != some n || sc.kind==.module || sc.names.lookup n==some .globalImplicit))=true:=⟨⟩
theorem wsM:namesMeet R.prog R.above (fun _ n=>!R.own.contains n)=true:=⟨⟩
theorem wsN:(namesMeet R.prog R.footing fun sc n=>sc.kind==.module || sc.names.lookup n != some .globalExplicit)=true:=⟨⟩
theorem ws:R.wellSaid=true:=by
 unfold OpenLaw.wellSaid
 rw[wsG,wsH,wsI,wsJ,wsK,wsL,wsM,wsN]
 kernel_rfl
theorem Qx(P:Params):FQ (K P) "is_whole" ic 47 46 223 mz0/\FQ (K P) "common_divisor" cK 54 53 223 mz0/\FQ (K P) "is_number" gk 61 60 223 mz0/\FQ (K P) "divisor_of_all" cI 68 67 223 mz0/\FQ (K P) "number" nH 75 74 223 mz0/\FQ (K P) "plus" wo 82 81 223 mz0/\FQ (K P) "sign_of" jT 89 88 223 mz0/\FQ (K P) "sign_of_parts" cU 96 95 223 mz0/\FQ (K P) "is_above" ig 103 102 223 mz0/\FQ (K P) "is_above_nought" cm 110 109 223 mz0/\FQ (K P) "is_tile" jU 117 116 318 mz1/\FQ (K P) "has_form" iq 122 121 318 mz1/\FQ (K P) "bounds_of" gB 129 128 318 mz1/\FQ (K P) "place_among" d6 136 135 318 mz1:=
 by (repeat' apply And.intro)<;>first|kernel_rfl|decide
theorem Q5(P:Params):FQ (K P) "rising_marks" dy 143 142 318 mz1/\FQ (K P) "reaches_just" dq 150 149 318 mz1/\FQ (K P) "covers_once" d7 155 154 318 mz1/\FQ (K P) "is_laying" gp 160 159 318 mz1/\FQ (K P) "_law_take" gv 167 166 394 mz2/\FQ (K P) "_law_swapped" dA 174 173 394 mz2/\FQ (K P) "_law_is_laying" cF 179 178 394 mz2/\FQ (K P) "_law_is_above" cY 186 185 394 mz2/\FQ (K P) "_law_is_number" cE 191 190 394 mz2/\FQ (K P) "_law_is_whole" cX 198 197 394 mz2/\FQ (K P) "_law_shared" dX 205 204 394 mz2/\FQ (K P) "_law_sign" fY 212 211 394 mz2/\FQ (K P) "_law_is_tile" dw 217 216 394 mz2/\FQ (K P) "_law_covers" dW 222 221 394 mz2:=
 by (repeat' apply And.intro)<;>first|kernel_rfl|decide
theorem Q9(P:Params):FQ (K P) "_law_spans" eY 227 226 394 mz2/\FQ (K P) "_law_ordered" du 234 233 394 mz2/\FQ (K P) "_law_below" eS 241 240 394 mz2/\FQ (K P) "_law_plus" fX 248 247 394 mz2/\FQ (K P) "_law_low" iG 255 254 394 mz2/\FQ (K P) "_law_minus" eP 262 261 394 mz2/\FQ (K P) "_law_bag" iE 269 268 394 mz2/\FQ (K P) "_law_root" gc 274 273 394 mz2/\FQ (K P) "_law_laying" d3 281 280 394 mz2/\FQ (K P) "_law_pinwheel" cW 286 285 394 mz2/\FQ (K P) "_law_floor" eR 293 292 394 mz2/\FQ (K P) "_law_ends" gw 300 299 394 mz2/\FQ (K P) "_law_sides" fc 305 304 394 mz2/\FQ (K P) "_law_side" gi 312 311 394 mz2:=
 by (repeat' apply And.intro)<;>first|kernel_rfl|decide
theorem Pm(P:Params):FQ (K P) "_law_mixed" eX 317 316 394 mz2/\FQ (K P) "_law_less" gA 324 323 394 mz2/\FQ (K P) "_law_many_cells" cp 331 330 394 mz2/\FQ (K P) "_law_blocks" dY 338 337 394 mz2/\FQ (K P) "_law_room" gg 345 344 394 mz2/\FQ (K P) "_law_odd" iD 352 351 394 mz2/\FQ (K P) "_law_bent_laying" bW 359 358 394 mz2/\FQ (K P) "_law_bent_number" bX 366 365 394 mz2/\FQ (K P) "_law_exchanged" cD 373 372 394 mz2/\FQ (K P) "_law_is_told" dD 380 379 394 mz2/\FQ (K P) "law" rn 385 384 394 mz2/\nsIn (K P) mainGlobals "isinstance"=some none/\nsIn (K P) mainGlobals "int"=some none/\nsIn (K P) mainGlobals "bool"=some none:=
 by (repeat' apply And.intro)<;>first|kernel_rfl|decide
theorem PD(P:Params):nsIn (K P) mainGlobals "abs"=some none/\nsIn (K P) mainGlobals "tuple"=some none/\nsIn (K P) mainGlobals "len"=some none/\nsIn (K P) mainGlobals "all"=some none/\nsIn (K P) mainGlobals "set"=some none/\nsIn (K P) mainGlobals "range"=some none/\nsIn (K P) mainGlobals "enumerate"=some none/\nsIn (K P) mainGlobals "zip"=some none/\nsIn (K P) mainGlobals "list"=some none/\nsIn (K P) mainGlobals "min"=some none/\nsIn (K P) mainGlobals "max"=some none/\nsIn (K P) mainGlobals "MOST_TILES"=some (some (.int 60 320))/\(nsIn (K P) mainGlobals "NOUGHT"=some (some (.ref 40))/\(K P).lookup 40=some ⟨.type "tuple",none,.seq #[.int 0 225,.int 0 226,.int 1 227] 0,#[]⟩):=
 by (repeat' apply And.intro)<;>first|kernel_rfl|decide
theorem GY(P:Params):((K P).filterMap fun p=>dm p.2)=[(375,("_law_is_told":Str)),(382,("law":Str))]/\((K P).lookup 379).bind dm=some (375,("_law_is_told":Str))/\((K P).lookup 384).bind dm=some (382,("law":Str))/\(KF P).lookup 375=some (tabObj #[])/\(KF P).lookup 382=some (tabObj #[])/\(K P).lookup 375=none/\(K P).lookup 382=none:=⟨⟨⟩,⟨⟩,⟨⟩,⟨⟩,⟨⟩,⟨⟩,⟨⟩⟩
theorem QV(P:Params):((K P).filterMap fun p=>dm p.2)=[(375,("_law_is_told":Str)),(382,("law":Str))]:=(GY P).1
theorem uR(P:Params):((K P).lookup 379).bind dm=some (375,("_law_is_told":Str)):=(GY P).2.1
theorem Iz{q2:Str}(h:((375:Addr),q2)∈([(375,("_law_is_told":Str)),(382,("law":Str))]:List (Addr×Str))):q2 = "_law_is_told":=by simpa using h
theorem L5(P:Params):((K P).lookup 384).bind dm=some (382,("law":Str)):=(GY P).2.2.1
theorem RB{q2:Str}(h:((382:Addr),q2)∈([(375,("_law_is_told":Str)),(382,("law":Str))]:List (Addr×Str))):q2 = "law":=by simpa using h
theorem nC(P:Params):(KF P).lookup 375=some (tabObj #[])/\(K P).lookup 375=none:=⟨(GY P).2.2.2.1,(GY P).2.2.2.2.2.1⟩
theorem Je(P:Params):(KF P).lookup 382=some (tabObj #[])/\(K P).lookup 382=none:=⟨(GY P).2.2.2.2.1,(GY P).2.2.2.2.2.2⟩
theorem left:LeftO R.row.prog V LO Xt HK.obs HK.val 20000:=
 LeftO.of_pieces (H₀:=boot_heap) (H₁:=hT) (gs₀:=#[]) (gs₁:=#[]) (d₀:=boot_drawn) (d₁:={}) (k₀:=boot_toks) (k₁:=728) (m₀:=11) (ann:=some (.ref 6)) (M:=20000)
  (boot_open ⟨⟩ ⟨⟩ (fun s=>⟨⟩)) (fun w=>⟨⟩) run ⟨⟩ seen
end K08.H
namespace L2
open PySem PySem.Spec PyProof.Rows
noncomputable def iI(A:Around)(h:Heap):Prop:=A.handled=none\/∃(e:Addr) (oe:Obj) (vs:Array Value),A.handled=some (.ref e)/\h.get? e=some oe/\oe.data = .fields vs/\vs[2]? = some .none
theorem AR:entryFor table "proto.unchain"=some Builtin.«proto.unchain»:=entryFor_of_tree ⟨⟩
section
variable {prog:Program}{w:World}{A:Around}{E:Value->Shared->Prop}{s:Shared}
theorem CD{x e:Addr}{oe:Obj}{vs:Array Value}{Q:Value->Shared->Prop}(he:s.heap.get? e=some oe)(hd:oe.data = .fields vs)(h2:vs[2]? = some .none)(h:Q .none s) :
  wpAny (model prog w) A (runValue (.builtin "proto.unchain" ⟨[.ref x,.ref e,.ref e,.bool false],[]⟩)) Q E s:=by
 refine wpAny_runValue (codeAny_builtin AR ?_)
 unfold Builtin.«proto.unchain»
 dsimp only
 refine wpAny_bind (wpAny_field he hd h2 ?_)
 rw[if_pos (by rfl)]
 exact wpAny_pure h
theorem yQ{α:Type}{a:Addr}{oa:Obj}{ws:Array Value}{Q:α->Shared->Prop}(q:iI A s.heap)(ha:s.heap.get? a=some oa)(hda:oa.data = .fields ws)(hz:2<ws.size)
  (hnew:∀e oe,A.handled=some (.ref e)->s.heap.get? e=some oe->e≠a)
  (h:∀h',Heap.ExtBut a s.heap h'->(∃o',h'.get? a=some o'/\o'.cls=oa.cls)->E (.ref a) {s with heap:=h'}):wpAny (model prog w) A (raiseNew (.ref a):Sem α) Q E s:=by
 unfold raiseNew
 refine wpAny_bind (wpAny_handled ?_)
 rcases q with q|⟨e,oe,vs,q,he,hd,h2⟩
 ·rw[q]
  exact wpAny_bind (wpAny_pure (wpAny_throw (h s.heap (fun b o _ z=>z) ⟨oa,ha,rfl⟩)))
 ·rw[q]
  have ne:e≠a:=hnew e oe q he
  dsimp only
  rw[if_pos (by simp[ne])]
  refine wpAny_bind (wpAny_holding (CD he hd h2 ?_))
  refine wpAny_bind ?_
  refine wpAny_setField ha hda hz (wpAny_throw ?_)
  have hd':=Obj.data_mapFields hda (·.setIfInBounds 2 (Value.ref e))
  exact h _ (Heap.SameBut.update ..).extBut ⟨_,Heap.get?_update_self _ ha (Obj.isFreed_of_fields hd'),Obj.cls_mapFields ..⟩
theorem yh{it:Addr}{α:Type}{h0:Heap}{Q:α->Shared->Prop}(q:iI A s.heap)(k:Heap.ExtBut it h0 s.heap)(kl:∀e oe,A.handled=some (.ref e)->s.heap.get? e=some oe->True)
  (h:∀h' a,Heap.ExtBut it h0 h'->(∃o',h'.get? a=some o'/\o'.cls = .type "StopIteration")->E (.ref a) {s with heap:=h'}):wpAny (model prog w) A (newExc (.type "StopIteration") []>>=fun e=>(raiseNew e:Sem α)) Q E s:=by
 refine wpAny_bind ?_;simp only[newExc,newTuple]
 refine wpAny_bind (wpAny_newObj_type ?_ (by size_fits));refine wpAny_bind (m:=firstArgMember _ _) (wpAny_of_eq (a:=Value.none) (by first|rfl|(simp only[firstArgMember];rfl)) ?_);refine wpAny_newObj_type ?_ (by size_fits)
 have q':∀o1 o2:Obj,iI A ((s.heap.push o1).push o2):=fun o1 o2=>by
  rcases q with q|⟨e,oe,vs,q,he,r⟩
  ·exact .inl q
  ·exact .inr ⟨e,oe,vs,q,Heap.get?_push_of_some _ (Heap.get?_push_of_some _ he),r⟩
 refine yQ (q' _ _) (Heap.get?_push_size _ rfl) rfl (by rw[Array.size_append];exact lt_of_lt_of_le (by decide:2<6) (le_add_right _ _)) (fun e oe hq he z=>?_) fun h' hx ⟨o',ho',hc'⟩=>h h' _ (fun b o hb e=>hx b o ?_ (Heap.get?_push_of_some _ (Heap.get?_push_of_some _ (k b o hb e)))) ⟨o',ho',hc'⟩
 ·rcases q with q|⟨e1,oe1,vs,q,he1,r⟩
  ·rw[q] at hq;cases hq
  ·rw[q] at hq;cases hq
   exact absurd (Heap.lt_size he1) (by rw[z];simp)
 ·exact ne_of_lt (lt_of_lt_of_le (Heap.lt_size (k b o hb e)) (by simp))
theorem uI{it:Addr}{o:Obj}{ws:Array Value}{f:Array Value->Array Value}(q:iI A s.heap)(ho:s.heap.get? it=some o)(hd:o.data = .fields ws)(hn:∀e,A.handled=some (.ref e)->e≠it):iI A (s.heap.update it (Obj.mapFields f)):=by
 rcases q with q|⟨e,oe,vs,q,he,r⟩
 ·exact .inl q
 ·exact .inr ⟨e,oe,vs,q,by rw[Heap.get?_update_other _ _ (Ne.symm (hn e q))];exact he,r⟩
theorem Ak{it l:Addr}{i:Nat}{items}{Q:Option Value->Shared->Prop}(q:iI A s.heap)(hn:∀e,A.handled=some (.ref e)->e≠it)(hit:s.heap.IsListIter it l i)(hl:s.heap.IsList l items)(hx:items[i]? = none)
  (hQ:∀h',Heap.ExtBut it s.heap h'->Q none {s with heap:=h'}):wpAny (model prog w) A (pyNext (.ref it)) Q E s:=by
 obtain⟨o,ho,hc,hd⟩:=id hit
 obtain⟨ol,hol,_,nl,hdl⟩:=hl;unfold pyNext
 refine wpAny_bind (wpAny_attempt (wpAny_callSpecial?_slot (name:=Str.ofString "__next__") hit.typeIs slot_listiter_next (wpAny_call_entry slot_listiter_next hit.typeIs entry_listiter_next ?_ (args_listiter_next _))))
 show wpAny _ _ (field (.ref it) 0>>=_) _ _ s;refine wpAny_bind (wpAny_field ho hd (x:=.ref l) rfl ?_)
 show wpAny _ _ (if (Value.ref l==Value.none)=true then _ else _) _ _ s;rw[if_neg (show ¬ ((Value.ref l==Value.none)=true) from Bool.false_ne_true)]
 show wpAny _ _ (field (.ref it) 1>>=_) _ _ s;refine wpAny_bind (wpAny_field ho hd (x:=.int i 0) rfl ?_)
 show wpAny _ _ (seqItems? (.ref l)>>=_) _ _ s;refine wpAny_bind (wpAny_seqItems hol hdl ?_);simp only[Int.toNat_natCast,hx]
 refine wpAny_bind (wpAny_rule (wpAny_bind (wpAny_setField ho hd (by simp) ?_)))
 refine yh (it:=it) (h0:=s.heap) (A:=A.in1) (uI (A:=A.in1) q ho hd hn) (Heap.SameBut.update ..).extBut (fun _ _ _ _=>trivial) fun h' a hx' hq0=>?_
 obtain⟨o',ho',hc'⟩:=hq0
 refine wpAny_bind (wpAny_isInstance (T:="StopIteration") (b:=true) ⟨_,ho',hc'⟩ isSubtype_stop ?_);exact wpAny_pure (hQ _ hx')
theorem sV{it t:Addr}{i:Nat}{items}{Q:Option Value->Shared->Prop}(q:iI A s.heap)(hn:∀e,A.handled=some (.ref e)->e≠it)(hit:IsTupIter s.heap it t i)(ht:IsTup s.heap t items)(hx:items[i]? = none)
  (hQ:∀h',Heap.ExtBut it s.heap h'->Q none {s with heap:=h'}):wpAny (model prog w) A (pyNext (.ref it)) Q E s:=by
 obtain⟨o,ho,hc,hd⟩:=id hit
 obtain⟨ol,hol,_,nl,hdl⟩:=ht;unfold pyNext
 refine wpAny_bind (wpAny_attempt (wpAny_callSpecial?_slot (name:=Str.ofString "__next__") hit.typeIs slot_tupleiter_next (wpAny_call_entry slot_tupleiter_next hit.typeIs entry_tupleiter_next ?_ (args_tupleiter_next _))))
 show wpAny _ _ (field (.ref it) 0>>=_) _ _ s;refine wpAny_bind (wpAny_field ho hd (x:=.ref t) rfl ?_)
 show wpAny _ _ (if (Value.ref t==Value.none)=true then _ else _) _ _ s;rw[if_neg (show ¬ ((Value.ref t==Value.none)=true) from Bool.false_ne_true)]
 show wpAny _ _ (field (.ref it) 1>>=_) _ _ s;refine wpAny_bind (wpAny_field ho hd (x:=.int i 0) rfl ?_)
 show wpAny _ _ (seqItems? (.ref t)>>=_) _ _ s;refine wpAny_bind (wpAny_seqItems hol hdl ?_);simp only[Int.toNat_natCast,hx]
 refine wpAny_bind (wpAny_rule (wpAny_bind (wpAny_setField ho hd (by simp) ?_)))
 refine yh (it:=it) (h0:=s.heap) (A:=A.in1) (uI (A:=A.in1) q ho hd hn) (Heap.SameBut.update ..).extBut (fun _ _ _ _=>trivial) fun h' a hx' hq0=>?_
 obtain⟨o',ho',hc'⟩:=hq0
 refine wpAny_bind (wpAny_isInstance (T:="StopIteration") (b:=true) ⟨_,ho',hc'⟩ isSubtype_stop ?_);exact wpAny_pure (hQ _ hx')
theorem zX{env:Env}{elts:List Expr}{x1}{pos:Pos}{t:Addr}{items:Array Value}{Q:Unit->Shared->Prop}(q:iI A s.heap)(ht:IsTup s.heap t items)(hn:(assignEach elts env).length=items.size)
  (hstar:(assignEach elts env).findIdx? (·.1)=none) (h:∀h',Heap.ExtBut s.heap.objs.size s.heap h'->wpAny (model prog w) A (assignInOrder ((assignEach elts env).map (·.2)) items.toList) Q E {s with heap:=h'}) :
  wpAny (model prog w) A (assign (.Tuple elts x1 pos) env (.ref t)) Q E s:=by
 rw[assign_Tuple]
 refine wpAny_bind (wpAny_standAt ?_)
 unfold unpack;rw[hn,hstar]
 refine wpAny_bind (wpAny_holding ?_)
 have hlt:t≠s.heap.objs.size:=by obtain⟨o,ho,_⟩:=ht;exact ne_of_lt (Heap.lt_size ho)
 unfold unpackItems;refine wpAny_bind ?_
 unfold notIterableAtAll;refine wpAny_bind (wpAny_specialOf ht.typeIs slot_tuple_iter.lookup ?_);refine wpAny_pure ?_;simp only[false_eq_true,if_false]
 refine wpAny_bind (wpAny_holding (iter_tuple ht ?_))
 refine wpAny_bind (wpAny_holding (draw_tuple hlt items.size 0 _ _ ⟨_,Heap.get?_push_size _ rfl,rfl,rfl⟩ (ht.push _) ∅ fun gl wv wf=>?_))
 rw[show List.take items.size (List.drop 0 items.toList)=items.toList from by rw[List.drop_zero];exact List.take_of_length_le (by simp),if_neg (by simp)]
 have fr:∀e,A.handled=some (.ref e)->e≠s.heap.objs.size:=fun e hq=>by
  rcases q with q|⟨e1,oe1,vs,q,he1,r⟩
  ·rw[q] at hq;cases hq
  ·rw[q] at hq;cases hq;exact ne_of_lt (Heap.lt_size he1)
 have q1:iI A gl:=by
  rcases q with q|⟨e,oe,vs,q,he,r⟩
  ·exact .inl q
  ·exact .inr ⟨e,oe,vs,q,wf.extBut e oe (fr e q) (Heap.get?_push_of_some _ he),r⟩
 refine wpAny_bind (wpAny_holding (sV q1 fr wv ((ht.push _).extBut wf.extBut hlt) (by simp) fun o0 wT=>?_));simp only[Option.isSome_none,false_eq_true,if_false]
 exact wpAny_pure (h o0 fun b o hb e=>wT b o hb (wf.extBut b o hb (Heap.get?_push_of_some _ e)))
end
end L2
namespace L2
open PySem PySem.Spec PyProof.Rows
noncomputable abbrev Key:=Sum Int Str
noncomputable def OU:Key->Value->Bool
 |.inl k,v=>Value.isInt k v
 |.inr x,v=>Value.isStrOf x v
noncomputable def SR(w:World):Key->Int
 |.inl k=>hashInt k
 |.inr x=>hashStr w x
theorem dg:∀{k:Key} {v:Value},OU k v=true->(∃i t,k=Sum.inl i/\v=Value.int i t)\/(∃x t,k=Sum.inr x/\v=Value.str x t)
 |.inl i,v,h=>by
  obtain⟨t,e⟩:=Value.isInt_shape (k:=i) (v:=v) h
  exact .inl ⟨i,t,rfl,e⟩
 |.inr x,v,h=>by
  obtain⟨t,e⟩:=Value.isStrOf_shape (x:=x) (v:=v) h
  exact .inr ⟨x,t,rfl,e⟩
theorem Qr(a b:Int):decide ((Sum.inl a:Key)=Sum.inl b)=(a==b):=by
 by_cases e:a=b
 ·subst e;simp
 ·have h:¬ (Sum.inl a:Key)=Sum.inl b:=fun q=>e (Sum.inl.inj q)
  rw[decide_eq_false h]
  exact (beq_eq_false_iff_ne.mpr e).symm
theorem PZ(a b:Str):decide ((Sum.inr a:Key)=Sum.inr b)=decide (a=b):=by
 by_cases e:a=b
 ·subst e;simp
 ·have h:¬ (Sum.inr a:Key)=Sum.inr b:=fun q=>e (Sum.inr.inj q)
  rw[decide_eq_false h,decide_eq_false e]
theorem QX(a:Int)(b:Str):decide ((Sum.inl a:Key)=Sum.inr b)=false:=decide_eq_false (fun q=>nomatch q)
theorem Pa(a:Str)(b:Int):decide ((Sum.inr a:Key)=Sum.inl b)=false:=decide_eq_false (fun q=>nomatch q)
noncomputable def IL(prog:Program)(w:World):PySem.KeyKind prog w Key where
 is:=OU
 hash:=SR w
 inj:=fun v a b ha hb=>by
  rcases dg ha with ⟨i,t,rfl,rfl⟩|⟨x,t,rfl,rfl⟩
  ·rcases dg hb with ⟨j,u,rfl,e⟩|⟨y,u,rfl,e⟩
   ·injection e with e1 _;rw[e1]
   ·exact nomatch e
  ·rcases dg hb with ⟨j,u,rfl,e⟩|⟨y,u,rfl,e⟩
   ·exact nomatch e
   ·injection e with e1 _;rw[e1]
 byValue:=fun k v h=>by
  rcases dg h with ⟨i,t,rfl,rfl⟩|⟨x,t,rfl,rfl⟩<;>rfl
 pyHash:=fun hv h=>by
  rcases dg hv with ⟨i,t,rfl,rfl⟩|⟨x,t,rfl,rfl⟩
  ·exact wpAny_pyHash_int h
  ·exact wpAny_pyHash_str h
 eqBool:=fun hu hv h=>by
  rcases dg hu with ⟨i,t,rfl,rfl⟩|⟨x,t,rfl,rfl⟩
  ·rcases dg hv with ⟨j,u,rfl,rfl⟩|⟨y,u,rfl,rfl⟩
   ·rw[Qr] at h;exact wpAny_eqBool_int h
   ·rw[QX] at h;exact SeqAt.EqAt.int_str i t y u _ _ _ _ h
  ·rcases dg hv with ⟨j,u,rfl,rfl⟩|⟨y,u,rfl,rfl⟩
   ·rw[Pa] at h;exact SeqAt.EqAt.str_int x t j u _ _ _ _ h
   ·rw[PZ] at h;exact wpAny_eqBool_str h
 «strs»:=fun k x t v h=>by
  rcases dg h with ⟨i,u,rfl,e⟩|⟨y,u,rfl,e⟩
  ·exact nomatch e
  ·injection e with e1 _
   subst e1
   cases v<;>rfl
end L2
namespace L2
open PySem PySem.Spec PyProof.Rows
inductive V where
 |non|bl (b:Bool)|int (i:Int)|str (x:Str)|byt (b:Array UInt8)|flt (b:UInt64)|ref (a:Addr)|ty (n:String)
 deriving DecidableEq
noncomputable def RelV:V->Value->Prop
 |.non,u=>u=Value.none
 |.bl b,u=>u=Value.bool b
 |.int i,u=>∃t,u=Value.int i t
 |.str x,u=>∃t,u=Value.str x t
 |.byt b,u=>∃t,u=Value.bytes b t
 |.flt b,u=>∃t,u=Value.float b t
 |.ref a,u=>u=Value.ref a
 |.ty n,u=>u=Value.type n
noncomputable abbrev Vals:List V->List Value->Prop:=Paired RelV
theorem Vals.length{xs:List V}{us:List Value}(r:Vals xs us):xs.length=us.length:=Paired.length r
theorem Vals.get:∀{xs:List V} {us:List Value} {i:Nat} {x:V},Vals xs us->xs[i]? = some x->∃u,us[i]? = some u/\RelV x u
 |_,_,_,_,.nil,e=>by simp at e
 |_,_,0,_,.cons r _,e=>by simp at e;subst e;exact⟨_,rfl,r⟩
 |_,_,i+1,x,.cons _ t,e=>by
  obtain⟨u,h1,h2⟩:=Vals.get (i:=i) (x:=x) t (by simpa using e)
  exact⟨u,by simpa using h1,h2⟩
theorem Vals.set{x:V}{u:Value}(r:RelV x u):∀{xs:List V} {us:List Value} (i:Nat),Vals xs us->Vals (xs.set i x) (us.set i u)
 |_,_,_,.nil=>.nil
 |_,_,0,.cons _ t=>.cons r t
 |_,_,i+1,.cons q t=>.cons q (Vals.set r i t)
theorem Vals.append:∀{xs ys:List V} {us ws:List Value},Vals xs us->Vals ys ws->Vals (xs++ys) (us++ws)
 |_,_,_,_,.nil,s=>s
 |_,_,_,_,.cons r t,s=>.cons r (Vals.append t s)
theorem Vals.take:∀{xs:List V} {us:List Value} (n:Nat),Vals xs us->Vals (xs.take n) (us.take n)
 |_,_,0,_=>.nil
 |_,_,_+1,.nil=>.nil
 |_,_,n+1,.cons r t=>.cons r (Vals.take n t)
theorem Vals.drop:∀{xs:List V} {us:List Value} (n:Nat),Vals xs us->Vals (xs.drop n) (us.drop n)
 |_,_,0,r=>r
 |_,_,_+1,.nil=>.nil
 |_,_,n+1,.cons _ t=>Vals.drop n t
noncomputable def RN:Option V->Option Value->Prop
 |some v,some u=>RelV v u
 |none,none=>True
 |_,_=>False
noncomputable def KV{κ:Type}:List (κ×V)->List (κ×Value)->Prop:=Paired fun (p:κ×V) (q:κ×Value)=>p.1=q.1/\RelV p.2 q.2
noncomputable def kV:Key->V
 |.inl i=>.int i
 |.inr x=>.str x
inductive HO where
  /-- a list -/
 |lst (xs:List V)
  /-- a tuple (never changes) -/
 |tup (xs:List V)
  /-- a dict whose keys are ints and texts; one whose keys are tuples of ints and texts (the empty one is both) -/
 |dK (kvs:List (Key×V))|dT (kvs:List (List Key×V))
  /-- a set of ints: its members, its size -/
 |set (S:Int->Bool) (n:Nat)
  /-- an instance of the class at C, its dict at dx, its attributes -/
 |ins (C dx:Addr) (fs:List (Str×V))
  /-- the dict of the instance at x -/
 |own (x:Addr)
  /-- the dict of an exception -/
 |xd (fs:List (Str×V))
  /-- a bound method, f of x -/
 |met (f x:Addr)
  /-- a range object lo, lo + 1, .. below hi -/
 |rng (lo hi:Int)
  /-- a thing that is known to the object (the script; a dict while a loop walks it): read, never written while it is so -/
 |frz (o:Obj) (u:HO)
  /-- a code object's table -/
 |tbl (ps:Array Value)
  /-- any other thing, by what is true of its one object (a def of one's own: SetO a S n := HO.ext fun h => ..) -/
 |ext (φ:Heap->Prop)
  /-- the object itself; it may change -/
 |raw (o:Obj)
noncomputable abbrev Hp:=Addr->Option HO
noncomputable def upd(H:Hp)(a:Addr)(o:HO):Hp:=fun b=>if b=a then some o else H b
theorem fo{H:Hp}{a:Addr}{o:HO}:upd H a o a=some o:=by unfold upd;rw[if_pos rfl]
theorem aU{H:Hp}{a b:Addr}{o:HO}(h:b≠a):upd H a o b=H b:=by unfold upd;rw[if_neg h]
theorem aZ{H:Hp}{a b:Addr}{o:HO}(h:H a=some o)(h':H b=none):a≠b:=by
 intro e;subst e;rw[h] at h';cases h'
section
variable (P:Program)(w:World)
noncomputable def jD(H:Hp)(h:Heap)(a:Addr):HO->Prop
 |.lst xs=>xs.length<=sizeLine/\∃(its:List Value) (n:Nat),Vals xs its/\h.get? a=some {cls:=.type "list",data:=.seq its.toArray n}
 |.tup xs=>xs.length<=sizeLine/\∃its:List Value,Vals xs its/\IsTup h a its.toArray
 |.dK kvs=>kvs.length<=sizeLine/\(a==sysModules)=false/\∃vs,KV kvs vs/\h.DictOf (IL P w) a vs
 |.dT kvs=>kvs.length<=sizeLine/\(a==sysModules)=false/\∃xs:List (List Key×Addr×Value),
   Paired (fun (p:List Key×V) (q:List Key×Addr×Value)=>p.1=q.1/\H q.2.1=some (.tup (p.1.map kV))/\RelV p.2 q.2.2) kvs xs /\
   ∃o es ep,h.get? a=some o/\o.ExactDict/\o.data = .dict es ep/\es.toList=xs.map (entryOfKey (tupleKind (IL P w)))/\(xs.map (·.1)).Nodup
 |.set S n=>h.SetOf (intKind P w) a S n
 |.ins C dx fs=>H dx=some (.own a)/\fs.length<=1000/\dx≠a/\h.get? a=some (PySem.W.instObj C dx) /\
   ∃mA,h.Ns1 dx mA/\(∀f,RN (fs.lookup f) (mA f))/\PySem.Within mA (fs.map (·.1))
 |.own _=>∃o,h.get? a=some o
 |.xd fs=>∃mA,h.Ns1 a mA/\∀f,RN (fs.lookup f) (mA f)
 |.rng lo hi=>∃t u v,h.get? a=some {cls:=.type "range",data:=.fields #[.int lo t,.int hi u,.int 1 v]}
 |.frz o u=>h.get? a=some o/\jD H h a u
 |.tbl ps=>h.get? a=some {cls:=.none,data:=.fields ps}
 |.met f x=>h.get? a=some (PySem.W.methodObj (.ref f) (.ref x))
 |.ext φ=>φ h/\(∃o,h.get? a=some o)/\∀h1 h2:Heap,φ h1->(∀o,h1.get? a=some o->h2.get? a=some o)->φ h2
 |.raw o=>h.get? a=some o
noncomputable def HOk(H:Hp)(h:Heap):Prop:=∀a o,H a=some o->jD P w H h a o
end
section
variable {P:Program}{w:World}{H H':Hp}{h h':Heap}{a:Addr}{o:HO}
theorem jD.lt(x:jD P w H h a o):a<h.objs.size:=by
 cases o with
 |lst xs=>obtain⟨_,_,_,_,e⟩:=x;exact Heap.lt_size e
 |tup xs=>obtain⟨_,_,_,p⟩:=x;exact p.lt
 |dK kvs=>obtain⟨_,_,_,_,o,_,_,e,_⟩:=x;exact Heap.lt_size e
 |dT kvs=>obtain⟨_,_,_,_,o,_,_,e,_⟩:=x;exact Heap.lt_size e
 |set S n=>obtain⟨o,_,_,_,e,_⟩:=x;exact Heap.lt_size e
 |ins C dx fs=>obtain⟨_,_,_,e,_⟩:=x;exact Heap.lt_size e
 |own y=>obtain⟨_,e⟩:=x;exact Heap.lt_size e
 |xd fs=>obtain⟨_,⟨_,_,_,e,_⟩,_⟩:=x;exact Heap.lt_size e
 |rng lo hi=>obtain⟨_,_,_,e⟩:=x;exact Heap.lt_size e
 |frz ob u=>obtain⟨e,_⟩:=x;exact Heap.lt_size e
 |tbl ps=>exact Heap.lt_size (show h.get? a=some _ from x)
 |met f y=>exact Heap.lt_size (show h.get? a=some _ from x)
 |ext φ=>obtain⟨_,⟨_,e⟩,_⟩:=x;exact Heap.lt_size e
 |raw ob=>exact Heap.lt_size (show h.get? a=some ob from x)
theorem Paired.OB{α β:Type}{F G:α->β->Prop}:∀{wE:List α} {wP:List β},Paired F wE wP->(∀a b,F a b->G a b)->Paired G wE wP
 |_,_,.nil,_=>.nil
 |_,_,.cons r t,f=>.cons (f _ _ r) (Paired.OB t f)
theorem jD.sA(x:jD P w H h a o)(k:∀b u,(b=a\/H b=some (.own a))->h.get? b=some u->h'.get? b=some u)
  (ho:∀b,H b=some (.own a)->H' b=some (.own a)) (ht:∀b xs,H b=some (.tup xs)->H' b=some (.tup xs)):jD P w H' h' a o:=by
 induction o with
 |lst xs=>obtain⟨z,its,n,r,e⟩:=x;exact⟨z,its,n,r,k _ _ (.inl rfl) e⟩
 |tup xs=>obtain⟨z,its,r,ob,e,c⟩:=x;exact⟨z,its,r,ob,k _ _ (.inl rfl) e,c⟩
 |dK kvs=>obtain⟨z,y,vs,r,ob,es,ep,e,c⟩:=x;exact⟨z,y,vs,r,ob,es,ep,k _ _ (.inl rfl) e,c⟩
 |dT kvs=>
  obtain⟨z,y,xs,r,ob,es,ep,e,c⟩:=x
  exact⟨z,y,xs,Paired.OB r fun p q z=>⟨z.1,ht _ _ z.2.1,z.2.2⟩,ob,es,ep,k _ _ (.inl rfl) e,c⟩
 |set S n=>obtain⟨ob,es,ep,t,e,c⟩:=x;exact⟨ob,es,ep,t,k _ _ (.inl rfl) e,c⟩
 |ins C dx fs=>
  obtain⟨d,z,ne,e,mA,⟨od,es,ep,e2,c⟩,r⟩:=x
  exact⟨ho _ d,z,ne,k _ _ (.inl rfl) e,mA,⟨od,es,ep,k _ _ (.inr d) e2,c⟩,r⟩
 |own y=>obtain⟨ob,e⟩:=x;exact⟨ob,k _ _ (.inl rfl) e⟩
 |xd fs=>obtain⟨mA,⟨od,es,ep,e,c⟩,r⟩:=x;exact⟨mA,⟨od,es,ep,k _ _ (.inl rfl) e,c⟩,r⟩
 |rng lo hi=>obtain⟨t,u,v,e⟩:=x;exact⟨t,u,v,k _ _ (.inl rfl) e⟩
 |frz ob u ih=>obtain⟨e,q⟩:=x;exact⟨k _ _ (.inl rfl) e,ih q⟩
 |tbl ps=>
  have e:h.get? a=some {cls:=.none,data:=.fields ps}:=x
  show h'.get? a=some {cls:=.none,data:=.fields ps}
  exact k a _ (.inl rfl) e
 |met f y=>
  have e:h.get? a=some (PySem.W.methodObj (.ref f) (.ref y)):=x
  show h'.get? a=some (PySem.W.methodObj (.ref f) (.ref y))
  exact k a _ (.inl rfl) e
 |raw ob=>
  have e:h.get? a=some ob:=x
  show h'.get? a=some ob
  exact k a _ (.inl rfl) e
 |ext φ=>obtain⟨p,⟨o,e⟩,st⟩:=x;exact⟨st _ _ p fun o q=>k _ _ (.inl rfl) q,⟨o,k _ _ (.inl rfl) e⟩,st⟩
theorem HOk.lt(x:HOk P w H h)(e:H a=some o):a<h.objs.size:=(x a o e).lt
theorem HOk.fresh(x:HOk P w H h)(e:h.objs.size<=a):H a=none:=by
 cases q:H a with
 |none=>rfl
 |some u=>exact absurd (lt_of_lt_of_le (x.lt q) e) (lt_irrefl _)
theorem HOk.kept(x:HOk P w H h)(k:∀b u,h.get? b=some u->h'.get? b=some u):HOk P w H h':=fun a o e=>
 (x a o e).sA (fun b u _ q=>k b u q) (fun _ q=>q) fun _ _ q=>q
theorem HOk.laid(x:HOk P w H h)(k:∀b u,h.get? b=some u->h'.get? b=some u)(hp:h.objs.size<=a)(new:jD P w (upd H a o) h' a o):HOk P w (upd H a o) h':=fun b u e=>by
 have hn:=x.fresh hp
 by_cases hb:b=a
 ·subst hb;rw[fo] at e;cases e;exact new
 ·rw[aU hb] at e
  exact (x b u e).sA (fun c v _ q=>k c v q) (fun c q=>by rw[aU (aZ q hn)];exact q) fun c xs q=>by rw[aU (aZ q hn)];exact q
end
noncomputable def Rd(H:Hp)(a:Addr)(u:HO):Prop:=H a=some u\/∃o,H a=some (.frz o u)
theorem Rd.ok{P:Program}{w:World}{H:Hp}{h:Heap}{a:Addr}{u:HO}(r:Rd H a u)(x:HOk P w H h):jD P w H h a u:=by
 rcases r with r|⟨o,r⟩
 ·exact x a u r
 ·obtain⟨_,q⟩:=x a _ r
  exact q
noncomputable def Mut:Option HO->Prop
 |some (.lst _)=>True
 |some (.dK _)=>True
 |some (.dT _)=>True
 |some (.set _ _)=>True
 |some (.ins _ _ _)=>True
 |some (.ext _)=>True
 |some (.raw _)=>True
 |_=>False
section
variable {P:Program}{w:World}{H:Hp}{h h':Heap}{x e:Addr}{o':HO}
theorem HOk.write(ok:HOk P w H h)(mu:Mut (H x))(he:e=x\/H e=some (.own x))(k:∀b u,b≠e->h.get? b=some u->h'.get? b=some u)(heo:∃u,h'.get? e=some u)
  (new:jD P w (upd H x o') h' x o'):HOk P w (upd H x o') h':=fun b u q=>by
 have nown:∀c y,H c=some (.own y)->c≠x:=fun c y r z=>by subst z;rw[r] at mu;exact mu
 have ntup:∀c xs,H c=some (.tup xs)->c≠x:=fun c xs r z=>by subst z;rw[r] at mu;exact mu
 by_cases hb:b=x
 ·subst hb;rw[fo] at q;cases q;exact new
 ·rw[aU hb] at q
  by_cases hbe:b=e
  ·have q':H b=some (.own x):=by
    rcases he with z|z
    ·exact absurd (hbe.trans z) hb
    ·rw[hbe];exact z
   rw[q] at q';cases q'
   obtain⟨v,hv⟩:=heo
   exact⟨v,by rw[hbe];exact hv⟩
  ·refine (ok b u q).sA (fun c v hc r=>k c v ?_ r) (fun c r=>by rw[aU (nown c b r)];exact r) fun c xs r=>by rw[aU (ntup c xs r)];exact r
   rcases hc with rfl|hc
   ·exact hbe
   ·rintro rfl
    rcases he with z|z
    ·exact nown c b hc z
    ·rw[hc] at z;cases z;exact hb rfl
end
structure Un(fs ex:List Addr)(H H':Hp)(h h':Heap):Prop where
 keep:∀b o,h.get? b=some o->H b=none->b ∉ fs->b ∉ ex->h'.get? b=some o
 slot:∀b o,h.get? b=some o->H b=none->b∈fs->b ∉ ex->∃sl,h'.get? b=some {o with slots:=sl}
 free:∀b o,h.get? b=some o->H b=none->b ∉ ex->H' b=none
 there:∀b o,h.get? b=some o->b ∉ ex->∃o',h'.get? b=some o'
 w6:∀b xs,H b=some (.tup xs)->H' b=some (.tup xs)
 vJ:∀b o u,H b=some (.frz o u)->H' b=some (.frz o u)
 vX:∀b ps,H b=some (.tbl ps)->∃more,H' b=some (.tbl (ps++more))
section
variable {fs fs' ex ex':List Addr}{H H1 H2:Hp}{h h1 h2 h':Heap}{a x e:Addr}{o:HO}
theorem Un.any(u:Un fs ex H H1 h h1){b:Addr}{ob:Obj}(q:h.get? b=some ob)(n:H b=none)(hx:b ∉ ex):∃sl,h1.get? b=some {ob with slots:=sl}:=by
 by_cases hb:b∈fs
 ·exact u.slot b ob q n hb hx
 ·exact⟨ob.slots,u.keep b ob q n hb hx⟩
theorem Un.trans(a:Un fs ex H H1 h h1)(b:Un fs ex H1 H2 h1 h2):Un fs ex H H2 h h2 where
 keep:=fun c ob q n hc hx=>b.keep c ob (a.keep c ob q n hc hx) (a.free c ob q n hx) hc hx
 slot:=fun c ob q n hc hx=>by
  obtain⟨sl,e1⟩:=a.slot c ob q n hc hx
  obtain⟨sl',e2⟩:=b.slot c _ e1 (a.free c ob q n hx) hc hx
  exact⟨sl',e2⟩
 free:=fun c ob q n hx=>by
  obtain⟨o',e1⟩:=a.there c ob q hx
  exact b.free c o' e1 (a.free c ob q n hx) hx
 there:=fun c ob q hx=>by
  obtain⟨o',e1⟩:=a.there c ob q hx
  exact b.there c o' e1 hx
 w6:=fun c xs q=>b.w6 c xs (a.w6 c xs q)
 vJ:=fun c ob xs q=>b.vJ c ob xs (a.vJ c ob xs q)
 vX:=fun c ps q=>by
  obtain⟨m1,e1⟩:=a.vX c ps q
  obtain⟨m2,e2⟩:=b.vX c _ e1
  exact⟨m1++m2,by rw[e2,Array.append_assoc]⟩
theorem Un.kept(k:∀b u,h.get? b=some u->h'.get? b=some u):Un fs ex H H h h':=
 ⟨fun b ob q _ _ _=>k b ob q,fun b ob q _ _ _=>⟨ob.slots,k b ob q⟩,fun _ _ _ n _=>n,fun b ob q _=>⟨ob,k b ob q⟩,fun _ _ q=>q,fun _ _ _ q=>q,fun _ ps q=>⟨#[],by rw[q];simp⟩⟩
theorem Un.refl:Un fs ex H H h h:=Un.kept fun _ _ q=>q
theorem Un.laid(k:∀b u,h.get? b=some u->h'.get? b=some u)(hp:h.objs.size<=a)(hn:H a=none):Un fs ex H (upd H a o) h h' where
 keep:=fun b u q _ _ _=>k b u q
 slot:=fun b u q _ _ _=>⟨u.slots,k b u q⟩
 free:=fun b u q n _=>by rw[aU (ne_of_lt (lt_of_lt_of_le (Heap.lt_size q) hp))];exact n
 there:=fun b u q _=>⟨u,k b u q⟩
 w6:=fun b xs q=>by rw[aU (aZ q hn)];exact q
 vJ:=fun b u xs q=>by rw[aU (aZ q hn)];exact q
 vX:=fun b ps q=>⟨#[],by rw[aU (aZ q hn),q];simp⟩
theorem Un.write(mu:Mut (H x))(he:e=x\/H e=some (.own x))(k:∀b u,b≠e->h.get? b=some u->h'.get? b=some u)(heo:∃u,h'.get? e=some u):Un fs ex H (upd H x o) h h':=by
 have hx:∀b,H b=none->b≠x:=fun b n z=>by subst z;rw[n] at mu;exact mu
 have hb:∀b,H b=none->b≠e:=fun b n z=>by
  subst z
  rcases he with r|r
  ·exact hx b n r
  ·rw[n] at r;cases r
 have hm:∀b u,H b=some u->¬ Mut (some u)->b≠x:=fun b u q nm z=>by subst z;rw[q] at mu;exact nm mu
 refine⟨fun b u q n _ _=>k b u (hb b n) q,fun b u q n _ _=>⟨u.slots,k b u (hb b n) q⟩,fun b u q n _=>by rw[aU (hx b n)];exact n,fun b u q _=>?_,
  fun b xs q=>by rw[aU (hm b _ q fun z=>z)];exact q,fun b u xs q=>by rw[aU (hm b _ q fun z=>z)];exact q,fun b ps q=>⟨#[],by rw[aU (hm b _ q fun z=>z),q];simp⟩⟩
 by_cases hbe:b=e
 ·subst hbe;exact heo
 ·exact⟨u,k b u hbe q⟩
end
noncomputable def trk(h:Heap)(H:Hp):List Addr:=(List.range h.objs.size).filter fun a=>(H a).isSome
noncomputable def Cr(h:Heap)(H:Hp):Heap:=PySem.W.hideAll h (trk h H)
theorem JP(h:Heap)(H:Hp):(Cr h H).objs.size=h.objs.size:=PySem.W.hideAll_size _ _
theorem Ls{h:Heap}{H:Hp}{b:Addr}{o:Obj}(e:h.get? b=some o)(n:H b=none):(Cr h H).get? b=some o:=
 PySem.W.hideAll_get _ e fun hm=>by
  have q:(H b).isSome=true:=(List.mem_filter.mp hm).2
  rw[n] at q;simp at q
theorem Oj{h:Heap}{H:Hp}{b:Addr}{o:Obj}(e:(Cr h H).get? b=some o):h.get? b=some o/\H b=none:=by
 have e':h.get? b=some o:=PySem.W.of_hideAll (trk h H) e
 refine⟨e',?_⟩
 cases q:H b with
 |none=>rfl
 |some x=>
  have hm:b∈trk h H:=List.mem_filter.mpr ⟨List.mem_range.mpr (Heap.lt_size e'),by simp[q]⟩
  have z:(Cr h H).get? b=none:=PySem.W.hideAll_none (trk h H) hm
  rw[z] at e;cases e
noncomputable def Nl(g h:Heap)(L:Addr):List (Addr×Obj):=(List.range h.objs.size).filterMap fun a=>if a=L\/(g.get? a).isSome=true then none else (h.get? a).map fun o=>(a,o)
noncomputable def rest(g h:Heap)(L d:Addr):List (Addr×Obj):=(Nl g h L).filter fun p=>decide (p.1≠d)
end L2
namespace L2
open PySem PySem.Spec PyProof.Rows
structure Mod(K:PySem.W.Frag)(mg:Str->Option Value)(base:Heap):Prop where
 kin:K.In base
 glob:base.Ns mainGlobals mg
 blt:∃mb,base.Ns builtinsNs mb/\∀x:Str,x ≠ "__name__"->mb x=bootBuiltins x
 nolimit:base.NoLimit
structure Cx where
 prog:Program
 w:World
 K:PySem.W.Frag
 mg:Str->Option Value
 base:Heap
 A:Around
 N:List Str
 io:Shared
 H₀:Hp
 env:Env
 outer:List Env
 stack:List Env
 ex:List Addr
 fn:Str->Bool
 calm:Bool
 pn:List (Addr×Obj)
 xe:Value->Shared->Prop
noncomputable def frs(l:List Env):List Addr:=l.filterMap (·.frame)
noncomputable abbrev Cx.fs(X:Cx):List Addr:=frs X.outer
noncomputable def Vis(sc:Scope)(x:Str):Prop:=sc.names.lookup x=some .local\/sc.names.lookup x=some .cell\/sc.names.lookup x=some .free
noncomputable def Loc(sc:Scope)(x:Str):Prop:=sc.names.lookup x=some .local\/sc.names.lookup x=some .cell
noncomputable def Look(env:Env)(h:Heap)(m:Str->Option Value)(x:Str)(u:Value):Prop:=
 (env.kindOf x=some .local/\m x=some u)\/((env.kindOf x=some .cell\/env.kindOf x=some .free)/\∃c,env.cells.lookup x=some c/\h.IsCell c (some u))
structure Cx.Ok(X:Cx):Prop where
 mod:Mod X.K X.mg X.base
 kind:X.env.scope.kind = .function
 glob:X.env.globals=mainGlobals
 blt:X.env.builtins=builtinsNs
 above:X.io.heap.objs.size<=X.env.locals
 inj:∀x y c,X.env.cells.lookup x=some c->X.env.cells.lookup y=some c->x=y
 has:∀x,(X.env.kindOf x=some .cell\/X.env.kindOf x=some .free)->∃c,X.env.cells.lookup x=some c
 cab:∀x c,X.fn x=true->X.env.cells.lookup x=some c->X.io.heap.objs.size<=c
 hd:X.calm=true->X.A.handled=none
 qt:X.A.handled=none\/∃(e:Addr) (oe:Obj) (vs:Array Value),X.A.handled=some (.ref e)/\(e,oe)∈X.pn/\oe.data = .fields vs/\vs[2]? = some .none
 frames:X.A.frames=some X.stack
 stk:X.stack=X.outer\/(X.stack=X.env::X.outer/\X.env.frame=some X.env.locals)
 exf:∀b∈X.ex,b≠X.env.locals/\∀x c,X.env.cells.lookup x=some c->c≠b
 bs:∀b o,X.base.get? b=some o->X.io.heap.get? b=some o/\X.H₀ b=none
 bsz:X.base.objs.size<=X.io.heap.objs.size
 FD:∀b o,X.base.get? b=some o->b ∉ X.ex
 Ni:∀b∈X.ex,b ∉ X.fs
 zo:X.io.heap.FunFrames X.base X.outer
 frf:∀b∈X.fs,X.H₀ b=none
structure Inv(X:Cx)(pins:List (Addr×Obj))(σ:List (Option V))(H:Hp)(s:Shared):Prop where
 ok:X.Ok
 os:s.os=X.io.os
 bare:AllBare s.gens
 base:Un X.fs X.ex X.H₀ H X.io.heap s.heap
 loc:∃m,s.heap.Ns X.env.locals m/\∀(i:Nat) (x:Str) (v:V),X.N[i]? = some x->σ[i]? = some (some v)->Vis X.env.scope x->∃u,RelV v u/\Look X.env s.heap m x u
 cell:∀x c,X.env.cells.lookup x=some c->∃v,s.heap.IsCell c v
 free:H X.env.locals=none
 mT:∀x c,X.env.cells.lookup x=some c->H c=none
 pin:∀p∈X.pn++pins,s.heap.get? p.1=some p.2/\H p.1=none/\p.1≠X.env.locals/\p.1 ∉ X.fs/\∀v,p.2.data≠.cell v
 hok:HOk X.prog X.w H s.heap
 len:σ.length=X.N.length
section
variable {X:Cx}{pins:List (Addr×Obj)}{σ:List (Option V)}{H H':Hp}{s:Shared}{h':Heap}
theorem Inv.Hl(I:Inv X pins σ H s):iI X.A s.heap:=by
 rcases I.ok.qt with q|⟨e,oe,vs,q,hp,r⟩
 ·exact .inl q
 ·exact .inr ⟨e,oe,vs,q,(I.pin (e,oe) (mem_append_left _ hp)).1,r⟩
theorem Inv.hne(I:Inv X pins σ H s){b:Addr}(hb:∀p∈X.pn++pins,p.1≠b):∀e,X.A.handled=some (.ref e)->e≠b:=fun e he=>by
 rcases I.ok.qt with q|⟨e1,oe,vs,q,hp,r⟩
 ·rw[q] at he;cases he
 ·rw[q] at he;cases he;exact hb (e,oe) (mem_append_left _ hp)
theorem Cx.Ok.Tn(ok:X.Ok){b:Addr}{o:Obj}(e:X.base.get? b=some o):b ∉ X.fs:=fun hb=>by
 have:=(ok.zo.mem hb).1
 rw[e] at this;cases this
theorem Inv.bs(I:Inv X pins σ H s):∀b o,X.base.get? b=some o->s.heap.get? b=some o/\H b=none:=fun b o e=>
 ⟨I.base.keep b o (I.ok.bs b o e).1 (I.ok.bs b o e).2 (I.ok.Tn e) (I.ok.FD b o e),I.base.free b o (I.ok.bs b o e).1 (I.ok.bs b o e).2 (I.ok.FD b o e)⟩
theorem Inv.bk(I:Inv X pins σ H s):∀b o,X.base.get? b=some o->s.heap.get? b=some o:=fun b o e=>(I.bs b o e).1
theorem Inv.mod(I:Inv X pins σ H s):Mod X.K X.mg X.base:=I.ok.mod
theorem Inv.kIn(I:Inv X pins σ H s):X.K.In s.heap:=I.ok.mod.kin.keeps I.bk
theorem Inv.lt(I:Inv X pins σ H s):X.env.locals<s.heap.objs.size:=let ⟨_,hn,_⟩:=I.loc;hn.lt
theorem Inv.sz(I:Inv X pins σ H s):X.io.heap.objs.size<=s.heap.objs.size:=le_trans I.ok.above (Nat.le_of_lt I.lt)
theorem Inv.Th(I:Inv X pins σ H s){a:Addr}(h:s.heap.objs.size<=a):a ∉ X.fs:=fun hb=>by
 obtain⟨_,o,ho,_⟩:=I.ok.zo.mem hb
 exact absurd (lt_of_lt_of_le (Heap.lt_size ho) (le_trans I.sz h)) (lt_irrefl _)
theorem Inv.cne(I:Inv X pins σ H s):∀x c,X.env.cells.lookup x=some c->c≠X.env.locals:=fun x c e z=>by
 obtain⟨v,o,ho,hd⟩:=I.cell x c e
 obtain⟨m,⟨o',es,ep,ho',hd',_⟩,_⟩:=I.loc
 rw[z,ho'] at ho;cases ho;rw[hd'] at hd;cases hd
theorem Inv.zo(I:Inv X pins σ H s):s.heap.FunFrames X.base X.outer:=by
 have all:∀(l:List Env),(∀b∈frs l,b∈X.fs)->X.io.heap.FunFrames X.base l->s.heap.FunFrames X.base l:=by
  intro l
  induction l with
  |nil=>intro _ _;trivial
  |cons env r ih=>
   intro hs hl
   obtain⟨hk,⟨L,o,hf,hn,ho,hd⟩,hr⟩:=hl
   have hL:L∈X.fs:=hs L (by unfold frs;rw[filterMap_cons,hf];exact mem_cons_self)
   obtain⟨sl,e⟩:=I.base.slot L o ho (I.ok.frf L hL) hL fun z=>I.ok.Ni L z hL
   exact⟨hk,⟨L,_,hf,hn,e,hd⟩,ih (fun b hb=>hs b (by unfold frs;rw[filterMap_cons,hf];exact mem_cons_of_mem _ hb)) hr⟩
 exact all X.outer (fun _ hb=>hb) I.ok.zo
theorem Inv.stack(I:Inv X pins σ H s):s.heap.FunFrames X.base X.stack:=by
 rcases I.ok.stk with e|⟨e,hf⟩
 ·rw[e];exact I.zo
 ·rw[e]
  obtain⟨m,hn,_⟩:=I.loc
  refine .cons (by rw[I.ok.kind];decide) hf hn ?_ I.zo
  exact Heap.get?_none_of_le (le_trans I.ok.bsz I.ok.above)
theorem Inv.lQ(I:Inv X pins σ H s):∀b∈frs X.stack,b∈X.env.locals::X.fs:=fun b hb=>by
 rcases I.ok.stk with e|⟨e,hf⟩
 ·rw[e] at hb;exact mem_cons_of_mem _ hb
 ·rw[e] at hb
  unfold frs at hb
  rw[filterMap_cons,hf] at hb
  exact hb
theorem Inv.ur(I:Inv X pins σ H s):∀b∈frs X.stack,H b=none:=fun b hb=>by
 rcases List.mem_cons.mp (I.lQ b hb) with e|hb
 ·rw[e];exact I.free
 ·obtain⟨_,o,ho,_⟩:=I.ok.zo.mem hb
  exact I.base.free b o ho (I.ok.frf b hb) fun z=>I.ok.Ni b z hb
theorem Inv.step{g':Array GenState}{t':Nat}{d':Drawn}{ch:List Addr}(I:Inv X pins σ H s)
  (hch:∀b∈ch,(b∈X.ex\/X.io.heap.objs.size<=b)/\b≠X.env.locals/\(∀x c,X.env.cells.lookup x=some c->c≠b)/\∀p∈X.pn++pins,p.1≠b)
  (keep:∀b o,b≠X.env.locals->b ∉ X.fs->b ∉ ch->s.heap.get? b=some o->H b=none->h'.get? b=some o)
  (slot:∀b o,b≠X.env.locals->b∈X.fs->b ∉ ch->s.heap.get? b=some o->H b=none->∃sl,h'.get? b=some {o with slots:=sl}) (free:∀b o,b ∉ ch->s.heap.get? b=some o->H b=none->H' b=none)
  (there:∀b o,b ∉ ch->s.heap.get? b=some o->∃o',h'.get? b=some o')
  (w6:∀b xs,H b=some (.tup xs)->H' b=some (.tup xs)) (vJ:∀b o u,H b=some (.frz o u)->H' b=some (.frz o u)) (vX:∀b ps,H b=some (.tbl ps)->∃more,H' b=some (.tbl (ps++more)))
  (ns:∀m,s.heap.Ns X.env.locals m->h'.Ns X.env.locals m) (hok:HOk X.prog X.w H' h') (hg:AllBare g') :
  Inv X pins σ H' {s with heap:=h',gens:=g',drawn:=d',toks:=t'}:=by
 have neL:∀b o,X.io.heap.get? b=some o->b≠X.env.locals:=fun b o e=>ne_of_lt (lt_of_lt_of_le (Heap.lt_size e) I.ok.above)
 have neC:∀b o,X.io.heap.get? b=some o->b ∉ X.ex->b ∉ ch:=fun b o e hx hb=>by
  rcases (hch b hb).1 with z|z
  ·exact hx z
  ·exact absurd (lt_of_lt_of_le (Heap.lt_size e) z) (lt_irrefl _)
 have cellK:∀x c,X.env.cells.lookup x=some c->∀v,s.heap.IsCell c v->h'.IsCell c v:=fun x c e v ⟨o,ho,hd⟩=>by
  have nch:c ∉ ch:=fun z=>(hch c z).2.2.1 x c e rfl
  by_cases hc:c∈X.fs
  ·obtain⟨sl,q⟩:=slot c o (I.cne x c e) hc nch ho (I.mT x c e)
   exact⟨_,q,hd⟩
  ·exact⟨o,keep c o (I.cne x c e) hc nch ho (I.mT x c e),hd⟩
 refine⟨I.ok,I.os,hg,⟨fun b o e n hb hx=>?_,fun b o e n hb hx=>?_,fun b o e n hx=>?_,fun b o e hx=>?_,fun b xs e=>w6 b xs (I.base.w6 b xs e),fun b o xs e=>vJ b o xs (I.base.vJ b o xs e),fun b ps e=>?_⟩,?_,fun x c e=>?_,?_,fun x c e=>?_,fun p hp=>?_,hok,I.len⟩
 ·exact keep b o (neL b o e) hb (neC b o e hx) (I.base.keep b o e n hb hx) (I.base.free b o e n hx)
 ·obtain⟨sl,e1⟩:=I.base.slot b o e n hb hx
  obtain⟨sl',e2⟩:=slot b _ (neL b o e) hb (neC b o e hx) e1 (I.base.free b o e n hx)
  exact⟨sl',e2⟩
 ·obtain⟨o',e1⟩:=I.base.there b o e hx
  exact free b o' (neC b o e hx) e1 (I.base.free b o e n hx)
 ·obtain⟨o',e1⟩:=I.base.there b o e hx
  exact there b o' (neC b o e hx) e1
 ·obtain⟨m1,e1⟩:=I.base.vX b ps e
  obtain⟨m2,e2⟩:=vX b _ e1
  exact⟨m1++m2,by rw[e2,Array.append_assoc]⟩
 ·obtain⟨m,hn,hl⟩:=I.loc
  refine⟨m,ns m hn,fun i x v e1 e2 e3=>?_⟩
  obtain⟨u,r,l⟩:=hl i x v e1 e2 e3
  refine⟨u,r,?_⟩
  rcases l with l|⟨k,c,e,z⟩
  ·exact .inl l
  ·exact .inr ⟨k,c,e,cellK x c e _ z⟩
 ·obtain⟨v,z⟩:=I.cell x c e
  exact⟨v,cellK x c e v z⟩
 ·obtain⟨m,⟨o,_,_,ho,_⟩,_⟩:=I.loc
  exact free _ o (fun z=>(hch _ z).2.1 rfl) ho I.free
 ·obtain⟨v,o,ho,hd⟩:=I.cell x c e
  exact free c o (fun z=>(hch c z).2.2.1 x c e rfl) ho (I.mT x c e)
 ·obtain⟨e,n,ne,nf,d⟩:=I.pin p hp
  have nch:p.1 ∉ ch:=fun z=>(hch p.1 z).2.2.2 p hp rfl
  exact⟨keep p.1 p.2 ne nf nch e n,free p.1 p.2 nch e n,ne,nf,d⟩
theorem Inv.un{t':Nat}(I:Inv X pins σ H s)(u:Un X.fs [] H H' s.heap h')(hok:HOk X.prog X.w H' h'):Inv X pins σ H' {s with heap:=h',toks:=t'}:=by
 obtain⟨m,⟨o,es,ep,ho,r⟩,_⟩:=id I.loc
 obtain⟨sl,hL⟩:=u.any ho I.free (by simp)
 exact I.step (g':=s.gens) (d':=s.drawn) (ch:=[]) (fun _ z=>nomatch z) (fun b o _ hb _ e n=>u.keep b o e n hb (by simp)) (fun b o _ hb _ e n=>u.slot b o e n hb (by simp)) (fun b o _ e n=>u.free b o e n (by simp)) (fun b o _ e=>u.there b o e (by simp)) u.w6 u.vJ u.vX (fun m' hm=>by
  obtain⟨o',es',ep',ho',r'⟩:=hm
  rw[ho] at ho';cases ho'
  exact⟨_,es',ep',hL,r'⟩) hok I.bare
theorem Inv.call{g':Array GenState}{t':Nat}{d':Drawn}{ch:List Addr}(I:Inv X pins σ H s)(u:Un (frs X.stack) ch H H' s.heap h')(hok:HOk X.prog X.w H' h')(hg:AllBare g')
  (hch:∀b∈ch,(b∈X.ex\/X.io.heap.objs.size<=b)/\b≠X.env.locals/\(∀x c,X.env.cells.lookup x=some c->c≠b)/\∀p∈X.pn++pins,p.1≠b) :
  Inv X pins σ H' {s with heap:=h',gens:=g',drawn:=d',toks:=t'}:=by
 obtain⟨m,⟨o,es,ep,ho,r⟩,_⟩:=id I.loc
 obtain⟨sl,hL⟩:=u.any ho I.free fun z=>(hch _ z).2.1 rfl
 exact I.step (ch:=ch) hch (fun b o hL hb hc e n=>u.keep b o e n (fun z=>(List.mem_cons.mp (I.lQ b z)).elim hL hb) hc) (fun b o _ _ hc e n=>u.any e n hc) (fun b o hc e n=>u.free b o e n hc) (fun b o hc e=>u.there b o e hc) u.w6 u.vJ u.vX (fun m' hm=>by
  obtain⟨o',es',ep',ho',r'⟩:=hm
  rw[ho] at ho';cases ho'
  exact⟨_,es',ep',hL,r'⟩) hok hg
theorem Inv.turned{t':Nat}{it:Addr}(I:Inv X pins σ H s)(k:∀b o,b≠it->s.heap.get? b=some o->h'.get? b=some o)(hn:H it=none)(hL:it≠X.env.locals)
  (h1:it∈X.ex\/X.io.heap.objs.size<=it) (h2:∀x c,X.env.cells.lookup x=some c->c≠it) (h3:∀p∈X.pn++pins,p.1≠it):Inv X pins σ H {s with heap:=h',toks:=t'}:=by
 have nit:∀b u,H b=some u->b≠it:=fun b u e z=>by rw[z,hn] at e;cases e
 refine I.step (g':=s.gens) (d':=s.drawn) (ch:=[it]) (fun b hb=>?_) (fun b o _ _ hc e _=>k b o (fun z=>hc (by simp[z])) e) (fun b o _ _ hc e _=>⟨o.slots,k b o (fun z=>hc (by simp[z])) e⟩) (fun _ _ _ _ n=>n)
  (fun b o hc e=>⟨o,k b o (fun z=>hc (by simp[z])) e⟩) (fun _ _ e=>e) (fun _ _ _ e=>e) (fun b ps e=>⟨#[],by rw[e];simp⟩) (fun m hm=>?_) (fun b u e=>?_) I.bare
 ·have e:b=it:=by simpa using hb
  subst e
  exact⟨h1,hL,h2,h3⟩
 ·obtain⟨o,es,ep,ho,r⟩:=hm
  exact⟨o,es,ep,k _ o (Ne.symm hL) ho,r⟩
 ·refine (I.hok b u e).sA (fun c v hc q=>k c v ?_ q) (fun _ q=>q) fun _ _ q=>q
  rcases hc with z|z
  ·rw[z];exact nit b u e
  ·exact nit c _ z
theorem Inv.tok(I:Inv X pins σ H s)(t:Nat):Inv X pins σ H {s with toks:=t}:=I.un (h':=s.heap) (t':=t) Un.refl I.hok
theorem Inv.kept{t':Nat}(I:Inv X pins σ H s)(k:∀b u,s.heap.get? b=some u->h'.get? b=some u):Inv X pins σ H {s with heap:=h',toks:=t'}:=I.un (Un.kept k) (I.hok.kept k)
theorem Inv.laid{a:Addr}{o:HO}{t':Nat}(I:Inv X pins σ H s)(k:∀b u,s.heap.get? b=some u->h'.get? b=some u)(hp:s.heap.objs.size<=a)(new:jD X.prog X.w (upd H a o) h' a o) :
  Inv X pins σ (upd H a o) {s with heap:=h',toks:=t'}:=I.un (Un.laid k hp (I.hok.fresh hp)) (I.hok.laid k hp new)
theorem Inv.write{x e:Addr}{o:HO}{t':Nat}(I:Inv X pins σ H s)(mu:Mut (H x))(he:e=x\/H e=some (.own x))(k:∀b u,b≠e->s.heap.get? b=some u->h'.get? b=some u)(heo:∃u,h'.get? e=some u)
  (new:jD X.prog X.w (upd H x o) h' x o):Inv X pins σ (upd H x o) {s with heap:=h',toks:=t'}:=I.un (Un.write mu he k heo) (I.hok.write mu he k heo new)
theorem Inv.IP{pins':List (Addr×Obj)}(I:Inv X pins σ H s)(h:∀p∈pins',s.heap.get? p.1=some p.2/\H p.1=none/\p.1≠X.env.locals/\p.1 ∉ X.fs/\∀v,p.2.data≠.cell v):Inv X pins' σ H s:=
 ⟨I.ok,I.os,I.bare,I.base,I.loc,I.cell,I.free,I.mT,fun p hp=>(List.mem_append.mp hp).elim (fun z=>I.pin p (mem_append_left _ z)) (h p),I.hok,I.len⟩
theorem Fj{N:List Str}(hN:N.Nodup){i j:Nat}{x:Str}(a:N[i]? = some x)(b:N[j]? = some x):i=j:=by
 obtain⟨h1,e1⟩:=List.getElem?_eq_some_iff.mp a
 obtain⟨h2,e2⟩:=List.getElem?_eq_some_iff.mp b
 exact (List.getElem_inj hN).mp (e1.trans e2.symm)
theorem JA{M:Model}{A:Around}{E:Value->Shared->Prop}{i:Nat}{x:Str}{v:V}{u:Value}{Q:Unit->Shared->Prop}(I:Inv X pins σ H s)(hN:X.N.Nodup)(hi:X.N[i]? = some x)(hx:Loc X.env.scope x)(r:RelV v u)
  (h:∀s',Inv X pins (σ.set i (some v)) H s'->(∃a,Heap.SameBut a s.heap s'.heap/\(a=X.env.locals\/X.env.cells.lookup x=some a))->Q () s') (hf:X.fn x=true\/X.env.scope.names.lookup x=some .local:=by first|exact .inl rfl|exact .inr rfl|assumption):wpAny M A (storeName X.env x u) Q E s:=by
 obtain⟨m,hn,hl⟩:=id I.loc
 have hcls:(X.env.scope.kind==.class || (X.env.scope.kind==.module&&X.env.locals != X.env.globals))=false:=by rw[I.ok.kind];rfl
 have wp:i<σ.length:=by rw[I.len];exact (List.getElem?_eq_some_iff.mp hi).1
 have cne:=I.cne
 have tracked:∀{a:Addr} {h':Heap},(∃o,s.heap.get? a=some o/\H a=none)->Heap.SameBut a s.heap h'->HOk X.prog X.w H h':=fun {a h'} ha hs b ob e=>by
  obtain⟨_,_,hfree⟩:=ha
  refine (I.hok b ob e).sA (fun c w' hc q=>(hs.2 c ?_).trans q) (fun _ q=>q) fun _ _ q=>q
  rintro rfl
  rcases hc with rfl|hc
  ·rw[hfree] at e;cases e
  ·rw[hfree] at hc;cases hc
 rcases hx with hk|hk
 ·refine wpAny_storeName_local hk hn (fun h' hn' hs=>?_) hcls
  obtain⟨oL,_,_,hoL,_⟩:=id hn
  refine h _ ⟨I.ok,I.os,I.bare,⟨fun b o e n hb hx=>?_,fun b o e n hb hx=>?_,I.base.free,fun b o e hx=>?_,I.base.w6,I.base.vJ,I.base.vX⟩,⟨_,hn',fun j y v' e1 e2 e3=>?_⟩,fun y c e=>?_,I.free,I.mT,fun p hp=>?_,tracked ⟨oL,hoL,I.free⟩ hs,by simpa using I.len⟩ ⟨_,hs,.inl rfl⟩
  ·exact (hs.2 b (ne_of_lt (lt_of_lt_of_le (Heap.lt_size e) I.ok.above))).trans (I.base.keep b o e n hb hx)
  ·obtain⟨sl,e1⟩:=I.base.slot b o e n hb hx
   exact⟨sl,(hs.2 b (ne_of_lt (lt_of_lt_of_le (Heap.lt_size e) I.ok.above))).trans e1⟩
  ·obtain⟨o',e1⟩:=I.base.there b o e hx
   exact⟨o',(hs.2 b (ne_of_lt (lt_of_lt_of_le (Heap.lt_size e) I.ok.above))).trans e1⟩
  ·by_cases hj:j=i
   ·subst hj
    rw[hi] at e1;cases e1
    rw[List.getElem?_set_self wp] at e2
    cases e2
    exact⟨u,r,.inl ⟨hk,by simp⟩⟩
   ·rw[List.getElem?_set_ne (Ne.symm hj)] at e2
    obtain⟨u',r',q⟩:=hl j y v' e1 e2 e3
    refine⟨u',r',?_⟩
    rcases q with ⟨k,e⟩|⟨k,c,e,z⟩
    ·refine .inl ⟨k,?_⟩
     have:y≠x:=fun e=>hj (Fj hN e1 (e▸hi))
     simp[this,e]
    ·exact .inr ⟨k,c,e,z.sameBut hs (cne y c e)⟩
  ·obtain⟨w',z⟩:=I.cell y c e
   exact⟨w',z.sameBut hs (cne y c e)⟩
  ·obtain⟨e,n,ne,nf,d⟩:=I.pin p hp
   exact⟨(hs.2 p.1 ne).trans e,n,ne,nf,d⟩
 ·have hfn:X.fn x=true:=by
   rcases hf with z|z
   ·exact z
   ·rw[z] at hk;cases hk
  obtain⟨c,hc⟩:=I.ok.has x (.inl hk)
  obtain⟨w',z⟩:=I.cell x c hc
  refine wpAny_storeName_cell I.ok.kind hk hc z (fun h' hc' hs=>?_)
  obtain⟨oc,hoc,hocd⟩:=id z
  refine h {s with heap:=h'} ⟨I.ok,I.os,I.bare,⟨fun b o e n hb hx=>?_,fun b o e n hb hx=>?_,I.base.free,fun b o e hx=>?_,I.base.w6,I.base.vJ,I.base.vX⟩,⟨m,hn.sameBut hs (Ne.symm (cne x c hc)),fun j y v' e1 e2 e3=>?_⟩,fun y c' e=>?_,I.free,I.mT,fun p hp=>?_,tracked ⟨oc,hoc,I.mT x c hc⟩ hs,by simpa using I.len⟩ ⟨c,hs,.inr hc⟩
  ·exact (hs.2 b (ne_of_lt (lt_of_lt_of_le (Heap.lt_size e) (I.ok.cab x c hfn hc)))).trans (I.base.keep b o e n hb hx)
  ·obtain⟨sl,e1⟩:=I.base.slot b o e n hb hx
   exact⟨sl,(hs.2 b (ne_of_lt (lt_of_lt_of_le (Heap.lt_size e) (I.ok.cab x c hfn hc)))).trans e1⟩
  ·obtain⟨o',e1⟩:=I.base.there b o e hx
   exact⟨o',(hs.2 b (ne_of_lt (lt_of_lt_of_le (Heap.lt_size e) (I.ok.cab x c hfn hc)))).trans e1⟩
  ·by_cases hj:j=i
   ·subst hj
    rw[hi] at e1;cases e1
    rw[List.getElem?_set_self wp] at e2
    cases e2
    exact⟨u,r,.inr ⟨.inl hk,c,hc,hc'⟩⟩
   ·rw[List.getElem?_set_ne (Ne.symm hj)] at e2
    obtain⟨u',r',q⟩:=hl j y v' e1 e2 e3
    refine⟨u',r',?_⟩
    rcases q with q|⟨k,c',e,z'⟩
    ·exact .inl q
    ·refine .inr ⟨k,c',e,z'.sameBut hs ?_⟩
     rintro rfl
     exact hj (Fj hN e1 (I.ok.inj _ _ _ e hc▸hi))
  ·by_cases hcc:c'=c
   ·subst hcc;exact⟨_,hc'⟩
   ·obtain⟨w2,z2⟩:=I.cell y c' e
    exact⟨w2,z2.sameBut hs hcc⟩
  ·obtain⟨e,n,ne,nf,d⟩:=I.pin p hp
   refine⟨(hs.2 p.1 ?_).trans e,n,ne,nf,d⟩
   intro q
   rw[q,hoc] at e
   have q':oc=p.2:=Option.some.inj e
   exact d w' (by rw[<- q'];exact hocd)
theorem nD{M:Model}{A:Around}{E:Value->Shared->Prop}{i:Nat}{x:Str}{v:V}{u:Value}{Q:Unit->Shared->Prop}(I:Inv X pins σ H s)(hN:X.N.Nodup)(hi:X.N[i]? = some x)(hx:Loc X.env.scope x)(r:RelV v u)
  (h:∀s',Inv X pins (σ.set i (some v)) H s'->Q () s') (hf:X.fn x=true\/X.env.scope.names.lookup x=some .local:=by first|exact .inl rfl|exact .inr rfl|assumption):wpAny M A (storeName X.env x u) Q E s:=
 JA I hN hi hx r (fun s' I' _=>h s' I') hf
theorem Inv.Bv{s':Shared}{ch:List Addr}(I:Inv X pins σ H s)(ho:s'.os=s.os)(u:Un (frs X.stack) ch H H' s.heap s'.heap)(hok:HOk X.prog X.w H' s'.heap)(hg:AllBare s'.gens)
  (hch:∀b∈ch,(b∈X.ex\/X.io.heap.objs.size<=b)/\b≠X.env.locals/\(∀x c,X.env.cells.lookup x=some c->c≠b)/\∀p∈X.pn++pins,p.1≠b):Inv X pins σ H' s':=by
 obtain⟨h',g',d',t',o'⟩:=s'
 have e:o'=s.os:=ho
 subst e
 exact I.call (g':=g') (t':=t') (d':=d') u hok hg hch
end
noncomputable abbrev XK:=Value->Option Addr->Hp->Prop
noncomputable abbrev St:=List (Option V)
noncomputable abbrev VK:=V->Hp->Prop
noncomputable abbrev TE:=St->Hp->VK->Prop
noncomputable abbrev TT:=St->Hp->(Bool->Hp->Prop)->Prop
noncomputable abbrev TA:=St->Hp->(List V->Hp->Prop)->Prop
structure Ends where
 nx:St->Hp->Prop
 rt:VK
 bk:St->Hp->Prop:=fun _ _=>False
 ct:St->Hp->Prop:=fun _ _=>False
noncomputable abbrev TS:=Ends->St->Hp->Prop
noncomputable def EP(X:Cx)(pins:List (Addr×Obj))(σ:St)(Q:VK)(u:Value)(s':Shared):Prop:=∃v H',Inv X pins σ H' s'/\RelV v u/\Q v H'
noncomputable def TP(X:Cx)(pins:List (Addr×Obj))(σ:St)(Q:Bool->Hp->Prop)(b:Bool)(s':Shared):Prop:=∃H',Inv X pins σ H' s'/\Q b H'
noncomputable def AP(X:Cx)(pins:List (Addr×Obj))(σ:St)(Q:List V->Hp->Prop)(us:List Value)(s':Shared):Prop:=∃vs H',Inv X pins σ H' s'/\Vals vs us/\Q vs H'
noncomputable def SP(X:Cx)(pins:List (Addr×Obj))(D:Ends)(f:Flow)(s':Shared):Prop:=
 match f with
 |.next=>∃ca H',Inv X pins ca H' s'/\D.nx ca H'
 |.brk=>∃ca H',Inv X pins ca H' s'/\D.bk ca H'
 |.cont=>∃ca H',Inv X pins ca H' s'/\D.ct ca H'
 |.ret u=>∃v ca H',Inv X pins ca H' s'/\RelV v u/\D.rt v H'
noncomputable def PE(X:Cx)(e:Expr)(t:TE):Prop:=
 ∀(pins:List (Addr×Obj)) (s:Shared) (σ:St) (H:Hp) (Q:VK),Inv X pins σ H s->t σ H Q->wpAny (model X.prog X.w) X.A (eval e X.env) (EP X pins σ Q) X.xe s
noncomputable def PT(X:Cx)(e:Expr)(t:TT):Prop:=
 ∀(pins:List (Addr×Obj)) (s:Shared) (σ:St) (H:Hp) (Q:Bool->Hp->Prop),Inv X pins σ H s->t σ H Q->wpAny (model X.prog X.w) X.A (isTrue e X.env (eval e X.env)) (TP X pins σ Q) X.xe s
noncomputable def PW(X:Cx)(e:Expr)(t:TT):Prop:=
 ∀(whole:Sem Value) (pins:List (Addr×Obj)) (s:Shared) (σ:St) (H:Hp) (Q:Bool->Hp->Prop),Inv X pins σ H s->t σ H Q->wpAny (model X.prog X.w) X.A (isTrue e X.env whole) (TP X pins σ Q) X.xe s
theorem PW.pt{X:Cx}{e:Expr}{t:TT}(h:PW X e t):PT X e t:=h _
noncomputable def PA(X:Cx)(es:List Expr)(t:TA):Prop:=
 ∀(pos:Pos) (pins:List (Addr×Obj)) (s:Shared) (σ:St) (H:Hp) (Q:List V->Hp->Prop),Inv X pins σ H s->t σ H Q->wpAny (model X.prog X.w) X.A (spliced (backTo pos (starEach es X.env))) (AP X pins σ Q) X.xe s
noncomputable def PS(X:Cx)(st:Stmt)(t:TS):Prop:=
 ∀(pins:List (Addr×Obj)) (s:Shared) (σ:St) (H:Hp) (D:Ends),Inv X pins σ H s->t D σ H->wpAny (model X.prog X.w) X.A (exec st X.env) (SP X pins D) X.xe s
noncomputable def PSs(X:Cx)(st:List Stmt)(t:TS):Prop:=
 ∀(pins:List (Addr×Obj)) (s:Shared) (σ:St) (H:Hp) (D:Ends),Inv X pins σ H s->t D σ H->wpAny (model X.prog X.w) X.A (execs st X.env) (SP X pins D) X.xe s
theorem thn{α:Type}{t:Sem α}{Q Q':α->Shared->Prop}{M:Model}{A:Around}{E:Value->Shared->Prop}{s:Shared}(h:wpAny M A t Q E s)(hQ:∀a s,Q a s->Q' a s):wpAny M A t Q' E s:=wpAny_mono h hQ fun _ _ x=>x
end L2
namespace L2
open PySem PySem.Spec PyProof.Rows
section
variable {X:Cx}
theorem bin{a b:Expr}{ta tb:TE}(ha:PE X a ta)(hb:PE X b tb){pins:List (Addr×Obj)}{s:Shared}{σ:St}{H:Hp}{R:V->V->Hp->Prop}(I:Inv X pins σ H s)(h:ta σ H fun x H1=>tb σ H1 fun y H2=>R x y H2)
  {α:Type} {Q:α->Shared->Prop} {f:Value->Value->Sem α}
  (hf:∀v u s2 x y H2,Inv X pins σ H2 s2->RelV x v->RelV y u->R x y H2->wpAny (model X.prog X.w) X.A (f v u) Q X.xe s2) :
  wpAny (model X.prog X.w) X.A (eval a X.env) (fun v ci=>wpAny (model X.prog X.w) X.A (eval b X.env) (fun u ii=>wpAny (model X.prog X.w) X.A (f v u) Q X.xe ii) X.xe ci) X.xe s:=by
 refine thn (ha pins s σ H _ I h) fun v s1 hq0=>?_
 obtain⟨x,H1,I1,r1,q1⟩:=hq0
 refine thn (hb pins s1 σ H1 _ I1 q1) fun u s2 hq0=>?_
 obtain⟨y,H2,I2,r2,q2⟩:=hq0
 exact hf v u s2 x y H2 I2 r1 r2 q2
noncomputable def Sj(i:Nat):TE:=fun σ H Q=>∃v,σ[i]? = some (some v)/\Q v H
noncomputable def tC(v:V):TE:=fun _ H Q=>Q v H
theorem Qk{i:Nat}{x:Str}{pos:Pos}(hN:X.N[i]? = some x)(hv:Vis X.env.scope x)(hd:(x==("__debug__":Str))=false:=by decide)(hcd:(x==("__classdict__":Str))=false:=by decide):PE X (.Name x pos) (Sj i):=by
 intro pins s σ H Q I h
 obtain⟨v,e,h⟩:=h
 obtain⟨m,hn,hl⟩:=I.loc
 obtain⟨u,r,l⟩:=hl i x v hN e hv
 have fin:EP X pins σ Q u s:=⟨v,H,I,r,h⟩
 rcases l with ⟨hk,hm⟩|⟨hk,c,hc,hcell⟩
 ·exact wpAny_Name (wpAny_loadName_local I.ok.kind hk hn hm fin) hd
 ·rcases hk with hk|hk
  ·exact wpAny_Name (wpAny_loadName_cell I.ok.kind hk hc hcell fin) hd
  ·exact wpAny_Name (wpAny_loadName_free I.ok.kind hk hc hcell fin hcd) hd
theorem PM{i j pos}:PE X (.Constant (.int i) j pos) (tC (.int i)):=fun _ _ _ H _ I h=>wpAny_Constant_int ⟨.int i,H,I.tok _,⟨_,rfl⟩,h⟩
theorem Sh{b j pos}:PE X (.Constant (.bool b) j pos) (tC (.bl b)):=fun _ _ _ H _ I h=>Constant_bool ⟨.bl b,H,I,rfl,h⟩
theorem Pj{j pos}:PE X (.Constant .none j pos) (tC .non):=fun _ _ _ H _ I h=>Constant_none ⟨.non,H,I,rfl,h⟩
theorem QN{x j pos}:PE X (.Constant (.str x) j pos) (tC (.str x)):=fun _ _ _ H _ I h=>Calls.Constant_str ⟨.str x,H,I.tok _,⟨_,rfl⟩,h⟩
noncomputable def Gl(X:Cx)(x:Str):Prop:=X.env.kindOf x=some .globalImplicit
theorem Jr{E:Value->Shared->Prop}{pins:List (Addr×Obj)}{s:Shared}{σ:St}{H:Hp}{x:Str}{u:Value}{pos:Pos}{Q:Value->Shared->Prop}(I:Inv X pins σ H s)(hg:Gl X x)(hm:X.mg x=some u)(h:Q u s)
  (hd:(x==("__debug__":Str))=false:=by decide):wpAny (model X.prog X.w) X.A (eval (.Name x pos) X.env) Q E s:=
 Calls.Name_function_global I.ok.kind hg (Calls.loadGlobal_global (by rw[I.ok.glob];exact I.mod.glob.keeps I.bk) hm h) hd
theorem pV{E:Value->Shared->Prop}{pins:List (Addr×Obj)}{s:Shared}{σ:St}{H:Hp}{x:Str}{u:Value}{pos:Pos}{Q:Value->Shared->Prop}(I:Inv X pins σ H s)(hg:Gl X x)(hm:X.mg x=none)(hv:bootBuiltins x=some u)(h:Q u s)
  (hn:x ≠ "__name__":=by decide) (hd:(x==("__debug__":Str))=false:=by decide):wpAny (model X.prog X.w) X.A (eval (.Name x pos) X.env) Q E s:=by
 obtain⟨mb,h1,h2⟩:=I.mod.blt
 exact Calls.Name_function_global I.ok.kind hg (Calls.loadGlobal_builtin (by rw[I.ok.glob];exact I.mod.glob.keeps I.bk) hm (by rw[I.ok.blt];exact h1.keeps I.bk) ((h2 x hn).trans hv) h) hd
theorem OA{x:Str}{v:V}{u:Value}{pos:Pos}(hg:Gl X x)(hm:X.mg x=some u)(r:RelV v u)(hd:(x==("__debug__":Str))=false:=by decide):PE X (.Name x pos) (tC v):=
 fun _ _ _ H _ I h=>Jr I hg hm ⟨v,H,I,r,h⟩ hd
theorem NA{x:Str}{v:V}{u:Value}{pos:Pos}(hg:Gl X x)(hm:X.mg x=none)(hv:bootBuiltins x=some u)(r:RelV v u)(hn:x ≠ "__name__":=by decide)(hd:(x==("__debug__":Str))=false:=by decide):PE X (.Name x pos) (tC v):=
 fun _ _ _ H _ I h=>pV I hg hm hv ⟨v,H,I,r,h⟩ hn hd
variable {a b:Expr}{ta tb:TE}{pos:Pos}
noncomputable def PC(X:Cx)(op:CmpOp)(a b:Expr)(t:TE):Prop:=
 ∀(pins:List (Addr×Obj)) (s:Shared) (σ:St) (H:Hp) (Q:VK),Inv X pins σ H s->t σ H Q ->
  wpAny (model X.prog X.w) X.A (eval a X.env) (fun v ci=>wpAny (model X.prog X.w) X.A (eval b X.env) (fun u ii=>wpAny (model X.prog X.w) X.A (compareOp op v u) (EP X pins σ Q) X.xe ii) X.xe ci) X.xe s
theorem Kq(b:Expr){op:CmpOp}(h:op≠.In)(h2:op≠.NotIn):behindInMarks op b=false:=by
 have e1:(op==CmpOp.In)=false:=by cases op<;>first|rfl|exact absurd rfl h
 have e2:(op==CmpOp.NotIn)=false:=by cases op<;>first|rfl|exact absurd rfl h2
 cases b<;>simp[behindInMarks,e1,e2]
noncomputable def tB(t:TE):TT:=fun σ H Q=>t σ H fun x H1=>∃c,x = .bl c/\Q c H1
theorem Td{op:CmpOp}{t:TE}(h:PC X op a b t)(h1:behindInMarks op b=false:=by first|exact Kq _ ⋯ ⋯|rfl):PT X (.Compare a [op] [b] pos) (tB t):=by
 intro pins s σ H Q I hw
 refine wpAny_isTrue_Compare1 (thn (h pins s σ H _ I hw) fun v s1 h1=>thn h1 fun u s2 h2=>thn h2 fun c s3 hq0=>?_) h1
 obtain⟨x,H1,I1,r1,q1⟩:=hq0
 obtain⟨d,rfl,q⟩:=q1
 cases r1
 exact wpAny_truthy_bool ⟨H1,I1,q⟩
theorem QP{e:Expr}{t:TE}(h:PE X e t)(he:∀whole,isTrue e X.env whole=(do let v <- whole;standAt e.pos;holding [v] (truthy v)):=by intro _;rfl):PT X e (tB t):=by
 intro pins s σ H Q I hw
 refine isTrue_plain (thn (h pins s σ H _ I hw) fun v s1 hq0=>?_) (he _)
 obtain⟨x,H1,I1,r1,q1⟩:=hq0
 obtain⟨d,rfl,q⟩:=q1
 cases r1
 exact wpAny_truthy_bool ⟨H1,I1,q⟩
variable {tA tB':TT}{rest:List Expr}
noncomputable def Te(t u:TT):TT:=fun σ H Q=>t σ H fun c H1=>if c=true then u σ H1 Q else Q false H1
noncomputable def tOr(t u:TT):TT:=fun σ H Q=>t σ H fun c H1=>if c=true then Q true H1 else u σ H1 Q
noncomputable def Tj(t:TT):TT:=fun σ H Q=>t σ H fun c H1=>Q (!c) H1
theorem pw_and1(ha:PT X a tA):PW X (.BoolOp .And [a] pos) tA:=by
 intro wh pins s σ H Q I h
 refine isTrue_and (thn (ha pins s σ H Q I h) fun c s1 e=>?_)
 cases c with
 |true=>exact isTrue_and_nil e
 |false=>exact e
theorem pw_or1(ha:PT X a tA):PW X (.BoolOp .Or [a] pos) tA:=by
 intro wh pins s σ H Q I h
 refine isTrue_or (thn (ha pins s σ H Q I h) fun c s1 e=>?_)
 cases c with
 |false=>exact isTrue_or_nil e
 |true=>exact e
theorem pw_and(ha:PT X a tA)(hb:PW X (.BoolOp .And (b::rest) pos) tB'):PW X (.BoolOp .And (a::b::rest) pos) (Te tA tB'):=by
 intro wh pins s σ H Q I h
 refine isTrue_and (thn (ha pins s σ H _ I h) fun c s1 hq0=>?_)
 obtain⟨H1,I1,q1⟩:=hq0
 cases c with
 |true=>exact hb wh pins s1 σ H1 Q I1 q1
 |false=>exact⟨H1,I1,q1⟩
theorem pw_or(ha:PT X a tA)(hb:PW X (.BoolOp .Or (b::rest) pos) tB'):PW X (.BoolOp .Or (a::b::rest) pos) (tOr tA tB'):=by
 intro wh pins s σ H Q I h
 refine isTrue_or (thn (ha pins s σ H _ I h) fun c s1 hq0=>?_)
 obtain⟨H1,I1,q1⟩:=hq0
 cases c with
 |true=>exact⟨H1,I1,q1⟩
 |false=>exact hb wh pins s1 σ H1 Q I1 q1
theorem Px(ha:PT X a tA):PT X (.UnaryOp .Not a pos) (Tj tA):=by
 intro pins s σ H Q I h
 exact isTrue_not (ha pins s σ H (fun c H1=>Q (!c) H1) I h)
noncomputable def RK(ta tb:TE):TE:=fun σ H Q=>ta σ H fun x H1=>∃c,x = .bl c/\if c=true then tb σ H1 Q else Q (.bl false) H1
noncomputable def Rw(ta:TE):TE:=fun σ H Q=>ta σ H fun x H1=>∃c,x = .bl c/\Q (.bl (!c)) H1
theorem Qe{op}{t:TE}(h:PE X a t):PE X (.BoolOp op [a] pos) t:=fun pins s σ H Q I hw=>BoolOp_one (h pins s σ H Q I hw)
theorem Pz(ha:PE X a ta)(hb:PE X (.BoolOp .And (b::rest) pos) tb):PE X (.BoolOp .And (a::b::rest) pos) (RK ta tb):=by
 intro pins s σ H Q I h
 refine BoolOp_and (thn (ha pins s σ H _ I h) fun v s1 hq0=>?_)
 obtain⟨x,H1,I1,r1,q1⟩:=hq0
 obtain⟨c,rfl,q1⟩:=q1
 cases r1
 refine wpAny_truthy_bool ?_
 cases c with
 |true=>exact hb pins s1 σ H1 Q I1 q1
 |false=>exact⟨.bl false,H1,I1,rfl,q1⟩
theorem OZ(ha:PE X a ta):PE X (.UnaryOp .Not a pos) (Rw ta):=by
 intro pins s σ H Q I h
 refine UnaryOp_ (thn (ha pins s σ H _ I h) fun v s1 hq0=>?_)
 obtain⟨x,H1,I1,r1,q1⟩:=hq0
 obtain⟨c,rfl,q1⟩:=q1
 cases r1
 exact not_of (wpAny_truthy_bool ⟨.bl (!c),H1,I1,rfl,q1⟩)
noncomputable def tIf(t:TT)(ta tb:TE):TE:=fun σ H Q=>t σ H fun c H1=>if c=true then ta σ H1 Q else tb σ H1 Q
theorem KP{c:Expr}(hc:PT X c tA)(ha:PE X a ta)(hb:PE X b tb):PE X (.IfExp c a b pos) (tIf tA ta tb):=by
 intro pins s σ H Q I h
 refine wpAny_IfExp (thn (hc pins s σ H _ I h) fun d s1 hq0=>?_)
 obtain⟨H1,I1,q1⟩:=hq0
 cases d with
 |true=>exact ha pins s1 σ H1 Q I1 q1
 |false=>exact hb pins s1 σ H1 Q I1 q1
end
end L2
namespace L2
open PySem PySem.Spec PyProof.Rows
noncomputable def SqL(K:PySem.W.Frag)(H:Hp)(a:Addr)(xs:List V):Prop:=
 Rd H a (.lst xs) \/
  ∃(o:Obj) (its:Array Value) (n:Nat),K.lookup a=some o/\o.cls = .type "list"/\o.dict=none/\o.data = .seq its n/\its.size<=sizeLine/\Vals xs its.toList
noncomputable def SqT(K:PySem.W.Frag)(H:Hp)(a:Addr)(xs:List V):Prop:=
 Rd H a (.tup xs) \/
  ∃(o:Obj) (its:Array Value) (n:Nat),K.lookup a=some o/\o.cls = .type "tuple"/\o.data = .seq its n/\its.size<=sizeLine/\Vals xs its.toList
noncomputable def To:Value->Option V
 |.none=>some .non
 |.bool b=>some (.bl b)
 |.int i _=>some (.int i)
 |.str x _=>some (.str x)
 |.bytes b _=>some (.byt b)
 |.float b _=>some (.flt b)
 |.ref a=>some (.ref a)
 |.type n=>some (.ty n)
 |_=>none
theorem RelV.abs{x:V}{u:Value}(r:RelV x u):To u=some x:=by
 cases x with
 |non=>cases r;rfl
 |bl _=>cases r;rfl
 |int _=>obtain⟨t,rfl⟩:=r;rfl
 |str _=>obtain⟨t,rfl⟩:=r;rfl
 |byt _=>obtain⟨t,rfl⟩:=r;rfl
 |flt _=>obtain⟨t,rfl⟩:=r;rfl
 |ref _=>cases r;rfl
 |ty _=>cases r;rfl
theorem RelV.inj{x y:V}{u:Value}(r:RelV x u)(q:RelV y u):x=y:=Option.some.inj (r.abs.symm.trans q.abs)
theorem Vals.inj:∀{xs ys:List V} {us:List Value},Vals xs us->Vals ys us->xs=ys
 |_,_,_,.nil,.nil=>rfl
 |_,_,_,.cons r t,.cons r' t'=>by rw[r.inj r',Vals.inj t t']
section
variable {X:Cx}{pins:List (Addr×Obj)}{σ:St}{H:Hp}{s:Shared}{a:Addr}{xs ys:List V}
theorem SqL.of{K:PySem.W.Frag}(h:H a=some (.lst xs)):SqL K H a xs:=.inl (.inl h)
theorem SqT.of{K:PySem.W.Frag}(h:H a=some (.tup xs)):SqT K H a xs:=.inl (.inl h)
theorem Inv.list(I:Inv X pins σ H s)(h:SqL X.K H a xs):∃its:List Value,Vals xs its/\PlainL s.heap a its.toArray/\xs.length<=sizeLine:=by
 rcases h with h|⟨o,its,n,hk,hc,hd,hs,hz,r⟩
 ·obtain⟨z,its,n,r,e⟩:=h.ok I.hok
  exact⟨its,r,⟨_,n,e,rfl,rfl,rfl⟩,z⟩
 ·refine⟨its.toList,r,⟨o,n,I.kIn a o hk,hc,hd,by simpa using hs⟩,?_⟩
  have e:=r.length
  simp only[Array.length_toList] at e
  omega
theorem Inv.tuple(I:Inv X pins σ H s)(h:SqT X.K H a xs):∃its:List Value,Vals xs its/\IsTup s.heap a its.toArray/\xs.length<=sizeLine:=by
 rcases h with h|⟨o,its,n,hk,hc,hs,hz,r⟩
 ·obtain⟨z,its,r,p⟩:=h.ok I.hok
  exact⟨its,r,p,z⟩
 ·refine⟨its.toList,r,⟨o,I.kIn a o hk,hc,n,by simpa using hs⟩,?_⟩
  have e:=r.length
  simp only[Array.length_toList] at e
  omega
theorem Inv.vc(I:Inv X pins σ H s)(h:SqL X.K H a xs)(h':SqL X.K H a ys):xs=ys:=by
 obtain⟨its,r,⟨o,n,e,_,_,d⟩,_⟩:=I.list h
 obtain⟨its',r',⟨o',n',e',_,_,d'⟩,_⟩:=I.list h'
 rw[e] at e';cases e'
 rw[d] at d'
 injection d' with d1 _
 have:its=its':=by simpa using congrArg Array.toList d1
 subst this
 exact r.inj r'
theorem Inv.Kl(I:Inv X pins σ H s)(h:SqT X.K H a xs)(h':SqT X.K H a ys):xs=ys:=by
 obtain⟨its,r,⟨o,e,_,n,d⟩,_⟩:=I.tuple h
 obtain⟨its',r',⟨o',e',_,n',d'⟩,_⟩:=I.tuple h'
 rw[e] at e';cases e'
 rw[d] at d'
 injection d' with d1 _
 have:its=its':=by simpa using congrArg Array.toList d1
 subst this
 exact r.inj r'
end
noncomputable abbrev Cx.zY(X:Cx)(E:Value->Shared->Prop):Cx:={X with xe:=E}
noncomputable abbrev Cx.nox(X:Cx):Cx:=X.zY fun _ _=>False
theorem Cx.Ok.zY{X:Cx}(ok:X.Ok)(E:Value->Shared->Prop):(X.zY E).Ok:=
 ⟨ok.mod,ok.kind,ok.glob,ok.blt,ok.above,ok.inj,ok.has,ok.cab,ok.hd,ok.qt,ok.frames,ok.stk,ok.exf,ok.bs,ok.bsz,ok.FD,ok.Ni,ok.zo,ok.frf⟩
theorem Cx.Ok.qp{X:Cx}{E:Value->Shared->Prop}(ok:(X.zY E).Ok):X.Ok:=
 ⟨ok.mod,ok.kind,ok.glob,ok.blt,ok.above,ok.inj,ok.has,ok.cab,ok.hd,ok.qt,ok.frames,ok.stk,ok.exf,ok.bs,ok.bsz,ok.FD,ok.Ni,ok.zo,ok.frf⟩
section
variable {X:Cx}{pins:List (Addr×Obj)}{σ:St}{H:Hp}{s:Shared}{E:Value->Shared->Prop}
theorem Inv.zY(I:Inv X pins σ H s)(E:Value->Shared->Prop):Inv (X.zY E) pins σ H s:=⟨I.ok.zY E,I.os,I.bare,I.base,I.loc,I.cell,I.free,I.mT,I.pin,I.hok,I.len⟩
theorem Inv.qp(I:Inv (X.zY E) pins σ H s):Inv X pins σ H s:=⟨I.ok.qp,I.os,I.bare,I.base,I.loc,I.cell,I.free,I.mT,I.pin,I.hok,I.len⟩
theorem SP.qp{D:Ends}{f:Flow}{s':Shared}(h:SP (X.zY E) pins D f s'):SP X pins D f s':=by
 cases f with
 |next=>obtain⟨ca,H',I,q⟩:=h;exact⟨ca,H',I.qp,q⟩
 |brk=>obtain⟨ca,H',I,q⟩:=h;exact⟨ca,H',I.qp,q⟩
 |cont=>obtain⟨ca,H',I,q⟩:=h;exact⟨ca,H',I.qp,q⟩
 |ret u=>obtain⟨v,ca,H',I,r,q⟩:=h;exact⟨v,ca,H',I.qp,r,q⟩
theorem PSs.nox{st:List Stmt}{t:TS}(h:PSs X.nox st t):PSs X st t:=fun pins s σ H D I hw=>
 wpAny_mono (h pins s σ H D (I.zY _) hw) (fun _ _ q=>q.qp) fun _ _ z=>False.elim z
end
section
variable {X:Cx}{st:Stmt}{rest:List Stmt}{t u:TS}{e:Expr}{te:TE}{pos:Pos}
noncomputable def R6:TS:=fun D σ H=>D.nx σ H
noncomputable def RR(t u:TS):TS:=fun D σ H=>t {D with nx:=u D} σ H
theorem N8:PSs X [] R6:=fun _ _ σ H _ I h=>wpAny_execs_nil ⟨σ,H,I,h⟩
theorem La(h1:PS X st t)(h2:PSs X rest u):PSs X (st::rest) (RR t u):=by
 intro pins s σ H D I h
 refine wpAny_execs_cons (thn (h1 pins s σ H {D with nx:=u D} I h) fun f s1 q=>?_)
 cases f with
 |next=>
  obtain⟨ca,H',I',q⟩:=q
  exact h2 pins s1 ca H' D I' q
 |ret v=>exact q
 |brk=>exact q
 |cont=>exact q
theorem Ou(h1:PS X st t):PSs X [st] t:=by
 intro pins s σ H D I h
 refine wpAny_execs_cons (thn (h1 pins s σ H D I h) fun f s1 q=>?_)
 cases f with
 |next=>exact wpAny_execs_nil q
 |ret v=>exact q
 |brk=>exact q
 |cont=>exact q
theorem Inv.quiet{pins:List (Addr×Obj)}{σ:St}{H:Hp}{s:Shared}(I:Inv X pins σ H s):interactive X.env=false:=by simp[interactive,I.ok.kind]
noncomputable def R3(te:TE):TS:=fun D σ H=>te σ H fun _ H1=>D.nx σ H1
theorem Na(he:PE X e te)(hs:swapsWith e none pos.line X.env=pure false:=by rfl):PS X (.Expr e pos) (R3 te):=by
 intro pins s σ H D I h
 exact wpAny_Expr_any (thn (he pins s σ H _ I h) fun v s1 ⟨x,H1,I1,r1,q1⟩=>⟨σ,H1,I1,q1⟩) I.quiet hs
noncomputable def Tb(te:TE):TS:=fun D σ H=>te σ H D.rt
theorem Pt(he:PE X e te):PS X (.Return (some e) pos) (Tb te):=by
 intro pins s σ H D I h
 exact wpAny_Return_some (thn (he pins s σ H _ I h) fun v s1 ⟨x,H1,I1,r1,q1⟩=>⟨x,σ,H1,I1,r1,q1⟩)
noncomputable def Tp(c:TT)(t u:TS):TS:=fun D σ H=>c σ H fun b H1=>if b=true then t D σ H1 else u D σ H1
theorem Sk{c:Expr}{a b:List Stmt}{tc:TT}(hc:PT X c tc)(ha:PSs X a t)(hb:PSs X b u):PS X (.If c a b pos) (Tp tc t u):=by
 intro pins s σ H D I h
 refine wpAny_If (thn (hc pins s σ H _ I h) fun d s1 hq0=>?_)
 obtain⟨H1,I1,q1⟩:=hq0
 cases d with
 |true=>exact ha pins s1 σ H1 D I1 q1
 |false=>exact hb pins s1 σ H1 D I1 q1
end
noncomputable abbrev TG:=V->St->Hp->(St->Hp->Prop)->Prop
noncomputable abbrev TGs:=List V->St->Hp->(St->Hp->Prop)->Prop
noncomputable def PG(X:Cx)(target:Expr)(t:TG):Prop:=
 ∀(pins:List (Addr×Obj)) (s:Shared) (σ:St) (H:Hp) (v:V) (u:Value) (Q:St->Hp->Prop),Inv X pins σ H s->RelV v u->t v σ H Q ->
  wpAny (model X.prog X.w) X.A (assign target X.env u) (fun _ s'=>∃ca H',Inv X pins ca H' s'/\Q ca H') X.xe s
noncomputable def PGs(X:Cx)(ts:List Expr)(t:TGs):Prop:=
 ∀(pins:List (Addr×Obj)) (s:Shared) (σ:St) (H:Hp) (vs:List V) (us:List Value) (Q:St->Hp->Prop),Inv X pins σ H s->Vals vs us->t vs σ H Q ->
  wpAny (model X.prog X.w) X.A (assignInOrder ((assignEach ts X.env).map (·.2)) us) (fun _ s'=>∃ca H',Inv X pins ca H' s'/\Q ca H') X.xe s
noncomputable abbrev O0:=V->V->V->Hp->(Hp->Prop)->Prop
noncomputable def Si(X:Cx)(t:O0):Prop:=
 ∀(pins:List (Addr×Obj)) (s:Shared) (σ:St) (H:Hp) (o i v:V) (ov iv u:Value) (Q:Hp->Prop),Inv X pins σ H s->RelV o ov->RelV i iv->RelV v u->t o i v H Q ->
  wpAny (model X.prog X.w) X.A (setItem ov iv u) (fun _ s'=>∃H',Inv X pins σ H' s'/\Q H') X.xe s
section
variable {X:Cx}{pos:Pos}
noncomputable def Mh(i:Nat):TG:=fun v σ H Q=>Q (σ.set i (some v)) H
theorem NJ{i:Nat}{x:Str}(hN:X.N.Nodup)(hi:X.N[i]? = some x)(hx:Loc X.env.scope x)(hf:X.fn x=true\/X.env.scope.names.lookup x=some .local:=by first|exact .inl rfl|exact .inr rfl|assumption):PG X (.Name x pos) (Mh i):=by
 intro pins s σ H v u Q I r h
 exact wpAny_assign_Name (nD I hN hi hx r (fun s' I'=>⟨_,H,I',h⟩) hf)
noncomputable def SO:TGs:=fun vs σ H Q=>vs=[]/\Q σ H
noncomputable def Sn(t:TG)(u:TGs):TGs:=fun vs σ H Q=>∃v r,vs=v::r/\t v σ H fun ca H'=>u r ca H' Q
theorem Nq:PGs X [] SO:=by
 intro pins s σ H vs us Q I r h
 obtain⟨e,h⟩:=h
 subst e
 cases r
 exact assignInOrder_nil ⟨σ,H,I,h⟩
theorem KD{e:Expr}{es:List Expr}{t:TG}{u:TGs}(h1:PG X e t)(h2:PGs X es u)
  (hs:(assignEach (e::es) X.env).map (·.2)=assign e X.env::(assignEach es X.env).map (·.2):=by rfl):PGs X (e::es) (Sn t u):=by
 intro pins s σ H vs us Q I r h
 obtain⟨v,vr,e1,h⟩:=h
 subst e1
 cases r with
 |cons r rr=>
  rw[hs]
  refine assignInOrder_cons (thn (h1 pins s σ H _ _ _ I r h) fun _ s1 hq0=>?_)
  obtain⟨tz,H1,I1,q1⟩:=hq0
  exact h2 pins s1 tz H1 _ _ Q I1 rr q1
noncomputable def SM(K:PySem.W.Frag)(n:Nat)(t:TGs):TG:=fun v σ H Q=>∃a xs,v = .ref a/\SqT K H a xs/\xs.length=n/\t xs σ H Q
theorem Rh{es:List Expr}{k:Nat}{t:TGs}{n:Nat}(hc:X.calm=X.calm)(h:PGs X es t)
  (hn:(assignEach es X.env).length=n:=by rfl) (hst:(assignEach es X.env).findIdx? (·.1)=none:=by rfl):PG X (.Tuple es k pos) (SM X.K n t):=by
 intro pins s σ H v u Q I r hw
 obtain⟨a,xs,e1,hq,hl,hw⟩:=hw
 subst e1
 cases r
 obtain⟨its,rv,ht,hz⟩:=I.tuple hq
 refine zX I.Hl ht (by simp[hn,<- hl,rv.length]) hst fun h' hx=>?_
 have I1:Inv X pins σ H {s with heap:=h'}:=I.kept (t':=s.toks) fun b o e=>hx b o (ne_of_lt (Heap.lt_size e)) e
 exact h pins _ σ H xs _ Q I1 (by simpa using rv) hw
noncomputable def SS(to ti:TE)(t:O0):TG:=fun v σ H Q=>to σ H fun o H1=>ti σ H1 fun i H2=>t o i v H2 fun H3=>Q σ H3
theorem QD{o i:Expr}{to ti:TE}{t:O0}(ho:PE X o to)(hi:PE X i ti)(hs:Si X t)
  (ha:∀v,assign (.Subscript o i pos) X.env v=(do
   let ov <- holding [v] (eval o X.env)
   let iv <- holding [v,ov] (eval i X.env)
   standAt pos
   holding [v,ov,iv] (setItem ov iv v)
   release [v,ov,iv] []):=by intro _;rfl):PG X (.Subscript o i pos) (SS to ti t):=by
 intro pins s σ H v u Q I r h
 rw[ha]
 refine wpAny_bind (wpAny_holding (thn (ho pins s σ H _ I h) fun ov s1 hq0=>?_))
 obtain⟨x,H1,I1,r1,q1⟩:=hq0
 refine wpAny_bind (wpAny_holding (thn (hi pins s1 σ H1 _ I1 q1) fun iv s2 hq0=>?_))
 obtain⟨y,H2,I2,r2,q2⟩:=hq0
 refine wpAny_bind (wpAny_standAt (wpAny_bind (wpAny_holding (thn (hs pins s2 σ H2 x y v ov iv u _ I2 r1 r2 r q2) fun _ s3 hq0=>?_))))
 obtain⟨H3,I3,q3⟩:=hq0
 exact wpAny_release ⟨σ,H3,I3,q3⟩
noncomputable def Rj(te:TE)(g:TG):TS:=fun D σ H=>te σ H fun x H1=>g x σ H1 D.nx
theorem Rc{tg e:Expr}{te:TE}{g:TG}(he:PE X e te)(hg:PG X tg g)(hs:swapsWithSole [tg] e pos.line X.env=pure false:=by rfl)(hw:swappedStores [tg] e X.env=pure none:=by rfl)
  (h1:(assignEach [tg] X.env).map (·.2)=[assign tg X.env]:=by rfl):PS X (.Assign [tg] e pos) (Rj te g):=by
 intro pins s σ H D I h
 refine wpAny_Assign_stores (thn (he pins s σ H _ I h) fun v s1 hq0=>?_) hs hw
 obtain⟨x,H1,I1,r1,q1⟩:=hq0
 rw[h1]
 exact thn (hg pins s1 σ H1 x v _ I1 r1 q1) fun _ s2 q=>q
theorem Ri{i:Nat}{x:Str}{e:Expr}{te:TE}{pos':Pos}(hN:X.N.Nodup)(hi:X.N[i]? = some x)(hx:Loc X.env.scope x)(he:PE X e te)(hs:swapsWith e (some (.Name x pos')) pos.line X.env=pure false:=by rfl)(hf:X.fn x=true\/X.env.scope.names.lookup x=some .local:=by first|exact .inl rfl|exact .inr rfl|assumption) :
  PS X (.Assign [.Name x pos'] e pos) (Rj te (Mh i)):=by
 intro pins s σ H D I h
 refine wpAny_Assign_Name (thn (he pins s σ H _ I h) fun v s1 hq0=>?_) hs
 obtain⟨y,H1,I1,r1,q1⟩:=hq0
 exact nD I1 hN hi hx r1 (fun s2 I2=>⟨_,H1,I2,q1⟩) hf
noncomputable def Tv(i j:Nat)(ta:TA):TS:=fun D σ H=>ta σ H fun vs H1=>∃v w,vs=[v,w]/\D.nx ((σ.set i (some v)).set j (some w)) H1
theorem P7{i j:Nat}{x y:Str}{a b:Expr}{ta:TA}{px py pt:Pos}{kt k2 pt2}(hc:X.calm=true)(hN:X.N.Nodup)(hi:X.N[i]? = some x)(hj:X.N[j]? = some y)(hij:i≠j)
  (hx:X.env.scope.names.lookup x=some .local) (hy:X.env.scope.names.lookup y=some .local) (ha:PA X [a,b] ta)
  (hw:swappedStores [.Tuple [.Name x px,.Name y py] kt pt] (.Tuple [a,b] k2 pt2) X.env=pure (some [x,y]))
  (hs:swapsWithSole [.Tuple [.Name x px,.Name y py] kt pt] (.Tuple [a,b] k2 pt2) pos.line X.env=pure false:=by rfl) :
  PS X (.Assign [.Tuple [.Name x px,.Name y py] kt pt] (.Tuple [a,b] k2 pt2) pos) (Tv i j ta):=by
 intro pins s σ H D I h
 rw[exec_Assign_arm]
 refine wpAny_bind (wpAny_standAt ?_)
 rw[hs]
 refine wpAny_bind (wpAny_pure ?_)
 rw[if_neg ⋯]
 refine wpAny_bind (Tuple_ (thn (ha _ pins s σ H _ I h) fun us s1 hq0=>?_))
 obtain⟨vs,H1,I1,r1,q1⟩:=hq0
 obtain⟨v,w,e1,q1⟩:=q1
 subst e1
 obtain⟨u1,u2,rfl,rv,rw'⟩:∃u1 u2,us=[u1,u2]/\RelV v u1/\RelV w u2:=by
  cases r1 with
  |cons p q=>
   cases q with
   |cons p' q'=>
    cases q'
    exact⟨_,_,rfl,p,p'⟩
 refine wpAny_newObj_type ?_ (by show 2<=sizeLine;decide)
 have I2:Inv X pins σ H1 {s1 with heap:=s1.heap.push {cls:=.type "tuple",data:=.seq [u1,u2].toArray}}:=I1.kept (t':=s1.toks) fun b o e=>Heap.get?_push_of_some _ e
 rw[hw]
 refine wpAny_bind (wpAny_pure ?_)
 show wpAny (model X.prog X.w) X.A (do rule "assign.swapped-stores";let items <- unpackItems (.ref s1.heap.objs.size) 2 none;assignInOrder [fun v=>bindName X.env y v,fun v=>bindName X.env x v] items.reverse;pure Flow.next) _ _ _
 refine wpAny_bind (wpAny_rule (wpAny_bind (unpackItems_tuple (items:=#[u1,u2]) (I.ok.hd hc) (IsTup.new s1.heap _) fun h' hx'=>?_)))
 have I3:=I2.kept (h':=h') (t':=s1.toks) fun b o e=>hx' b o (ne_of_lt (Heap.lt_size e)) e
 show wpAny _ _ (assignInOrder [fun v=>bindName X.env y v,fun v=>bindName X.env x v] [u2,u1]>>=fun _=>pure Flow.next) _ _ _
 refine wpAny_bind (assignInOrder_cons (wpAny_bindName (nD I3 hN hj (.inl hy) rw' (fun s2 I4=>?_) (.inr hy))))
 refine assignInOrder_cons (wpAny_bindName (nD I4 hN hi (.inl hx) rv (fun s3 I5=>assignInOrder_nil (wpAny_pure ?_)) (.inr hx)))
 rw[List.set_comm _ _ (Ne.symm hij)] at I5
 exact⟨_,H1,I5,q1⟩
end
section
variable {X:Cx}{pos:Pos}
noncomputable def PY(c:TT)(tb:TS):TS:=fun D σ H=>∃W:Nat->St->Hp->Prop,(∃m,W m σ H)/\∀m σ H,W m σ H ->
 c σ H fun b H1=>if b=true then ∃N:St->Hp->Prop,(∀ca H',N ca H'->∃m',m'<m/\W m' ca H')/\tb {D with nx:=N,ct:=N,bk:=D.nx} σ H1 else D.nx σ H1
theorem Lq{c:Expr}{body:List Stmt}{tc:TT}{tb:TS}(hp:PassesOwn (model X.prog X.w) X.A X.env X.xe)(hc:PT X c tc)(hb:PSs X body tb):PS X (.While c body [] pos) (PY tc tb):=by
 intro pins s σ H D I h
 obtain⟨W,⟨m0,w0⟩,turn⟩:=h
 refine wpAny_While (codeAny_whileLoop (fun n s'=>∃ca H',Inv X pins ca H' s'/\W n ca H') ?_ m0 ⟨σ,H,I,w0⟩)
 rintro n s1 ⟨tz,H1,I1,w1⟩
 refine wpAny_passesOwn hp (thn (hc pins s1 tz H1 _ I1 (turn n tz H1 w1)) fun b s2 hq0=>?_)
 obtain⟨H2,I2,q2⟩:=hq0
 cases b with
 |true=>
  obtain⟨N,hN,q2⟩:=q2
  rw[if_pos rfl]
  refine wpAny_passesOwn hp (thn (hb pins s2 tz H2 _ I2 q2) fun f s3 q3=>?_)
  cases f with
  |next=>
   obtain⟨nw,H3,I3,n3⟩:=q3
   obtain⟨m',hm,w3⟩:=hN nw H3 n3
   exact⟨m',hm,nw,H3,I3,w3⟩
  |cont=>
   obtain⟨nw,H3,I3,n3⟩:=q3
   obtain⟨m',hm,w3⟩:=hN nw H3 n3
   exact⟨m',hm,nw,H3,I3,w3⟩
  |brk=>exact q3
  |ret v=>exact q3
 |false=>
  rw[if_neg Bool.false_ne_true]
  exact wpAny_execs_nil ⟨tz,H2,I2,q2⟩
end
structure It where
 go:Nat->Hp->Prop
 yld:Nat->Hp->V->Hp->Prop
 stop:Nat->Hp->Prop
noncomputable def rP(X:Cx)(pins:List (Addr×Obj))(H:Hp)(b:Addr):Prop:=
 H b=none/\b≠X.env.locals/\b ∉ X.fs/\(b∈X.ex\/X.io.heap.objs.size<=b)/\(∀x c,X.env.cells.lookup x=some c->c≠b)/\∀p∈X.pn++pins,p.1≠b
theorem Inv.Gr{X:Cx}{pins:List (Addr×Obj)}{σ:St}{H H':Hp}{s:Shared}{b:Addr}(I:Inv X pins σ H s)(hb:s.heap.objs.size<=b)(hn:H' b=none):rP X pins H' b:=by
 refine⟨hn,Nat.ne_of_gt (lt_of_lt_of_le I.lt hb),I.Th hb,.inr (le_trans I.sz hb),fun x c e z=>?_,fun p hp z=>?_⟩
 ·obtain⟨v,q⟩:=I.cell x c e
  exact absurd (lt_of_lt_of_le q.lt (by rw[z];exact hb)) (lt_irrefl _)
 ·exact absurd (lt_of_lt_of_le (Heap.lt_size (I.pin p hp).1) (by rw[z];exact hb)) (lt_irrefl _)
structure Turn(c:Bool)(P:Program)(w:World)(K:PySem.W.Frag)(tg:Expr)(J:It)(fp:List Addr)(it:Addr)(tn:Nat->Heap->Prop):Prop where
 mem:it∈fp
 obj:∀i h,tn i h->∀b∈fp,∃o,h.get? b=some o/\∀v,o.data≠.cell v
 keep:∀i h h',tn i h->(∀b∈fp,∀o,h.get? b=some o->h'.get? b=some o)->tn i h'
 item:∀(X:Cx),X.prog=P->X.w=w->X.K=K->(c=true->X.calm=true)->∀(i:Nat) (pins:List (Addr×Obj)) (s:Shared) (σ:St) (H:Hp) (E:Value->Shared->Prop),Inv X pins σ H s->(∀b∈fp,rP X pins H b)->tn i s.heap->J.go i H ->
  wpAny (model P w) X.A (pyNext (.ref it)) (fun r s1=>∃u,r=some u /\
   wpAny (model P w) X.A (letOwnedTupleGo tg (.ref it) u) (fun _ s2=>∃x H',Inv X pins σ H' s2/\RelV x u/\J.yld i H x H'/\tn (i+1) s2.heap/\∀b∈fp,H' b=none) E s1) E s
 done:∀(X:Cx),X.prog=P->X.w=w->X.K=K->(c=true->X.calm=true)->∀(i:Nat) (pins:List (Addr×Obj)) (s:Shared) (σ:St) (H:Hp) (E:Value->Shared->Prop),Inv X pins σ H s->(∀b∈fp,rP X pins H b)->tn i s.heap->J.stop i H ->
  wpAny (model P w) X.A (pyNext (.ref it)) (fun r s1=>r=none/\Inv X pins σ H s1) E s
 self:∀(A:Around) (i:Nat) (s:Shared) (Q:Value->Shared->Prop) (E:Value->Shared->Prop),tn i s.heap->Q (.ref it) s->wpAny (model P w) A (pyIter (.ref it)) Q E s
theorem Turn.calm{c:Bool}{P:Program}{w:World}{K:PySem.W.Frag}{tg:Expr}{J:It}{fp:List Addr}{it:Addr}{tn:Nat->Heap->Prop}(T:Turn true P w K tg J fp it tn)(h:c=true):Turn c P w K tg J fp it tn:=by subst h;exact T
noncomputable abbrev TI:=St->Hp->(It->Hp->Prop)->Prop
noncomputable def PIE(X:Cx)(pins:List (Addr×Obj))(σ:St)(tg:Expr)(R:It->Hp->Prop)(itv:Value)(s2:Shared):Prop:=
 ∃(it:Addr) (fp:List Addr) (tn:Nat->Heap->Prop) (J:It) (H':Hp),itv = .ref it/\Inv X pins σ H' s2/\Turn X.calm X.prog X.w X.K tg J fp it tn/\tn 0 s2.heap/\(∀b∈fp,rP X pins H' b)/\R J H'
noncomputable def PI(X:Cx)(tg iter:Expr)(wi:TI):Prop:=
 ∀(pins:List (Addr×Obj)) (s:Shared) (σ:St) (H:Hp) (R:It->Hp->Prop),Inv X pins σ H s->wi σ H R ->
  wpAny (model X.prog X.w) X.A (eval iter X.env) (fun v s1=>wpAny (model X.prog X.w) X.A (pyIter v) (PIE X pins σ tg R) X.xe s1) X.xe s
theorem M6{M:Model}{A:Around}{E:Value->Shared->Prop}{s:Shared}{tg:Expr}{it:Addr}{u:Value}{o:Obj}{n:String}{vs:Array Value}{Q:Unit->Shared->Prop}(ho:s.heap.get? it=some o)(hc:o.cls = .type n)(hd:o.data = .fields vs)
  (hn:["enumerate","zip","dict_itemiterator","dict_reverseitemiterator","odict_iterator","itertools.zip_longest","itertools.pairwise"].contains n=false) (hQ:Q () s):wpAny M A (letOwnedTupleGo tg (.ref it) u) Q E s:=by
 unfold letOwnedTupleGo
 cases tg<;>first
  |exact wpAny_pure hQ
  |(cases u<;>first
    |exact wpAny_pure hQ
    |(refine wpAny_bind (wpAny_load ho ?_)
      rw[hc,hd]
      show wpAny M A (if (["enumerate","zip","dict_itemiterator","dict_reverseitemiterator","odict_iterator","itertools.zip_longest","itertools.pairwise"].contains n&&vs[0]?==some (rawInt _))=true then _ else _) Q E s
      rw[if_neg (by intro h;rw[hn,Bool.false_and] at h;cases h)]
      exact wpAny_pure hQ))
noncomputable def Itl(K:PySem.W.Frag)(a:Addr):It:=
 ⟨fun i H=>∃xs x,SqL K H a xs/\xs[i]? = some x,fun i H x H'=>H'=H/\∀xs,SqL K H a xs->xs[i]? = some x,fun i H=>∃xs,SqL K H a xs/\xs.length<=i⟩
noncomputable def Itt(K:PySem.W.Frag)(a:Addr):It:=
 ⟨fun i H=>∃xs x,SqT K H a xs/\xs[i]? = some x,fun i H x H'=>H'=H/\∀xs,SqT K H a xs->xs[i]? = some x,fun i H=>∃xs,SqT K H a xs/\xs.length<=i⟩
noncomputable def Itr(lo:Int)(n:Nat):It:=⟨fun i _=>i<n,fun i H x H'=>H'=H/\x = .int (lo+i),fun i _=>n<=i⟩
theorem Kc{c:Bool}{P:Program}{w:World}{K:PySem.W.Frag}{tg:Expr}(a it:Addr):Turn c P w K tg (Itl K a) [it] it (fun i h=>h.IsListIter it a i) where
 mem:=by simp
 obj:=fun i h st b hb=>by
  have e:b=it:=by simpa using hb
  subst e
  obtain⟨o,e,c,d⟩:=st
  exact⟨o,e,fun v z=>by rw[d] at z;cases z⟩
 keep:=fun i h h' st k=>st.at fun o e=>k it (by simp) o e
 item:=by
  intro X hP hw hK hc i pins s σ H E I hf st hg
  subst hP hw hK
  obtain⟨xs,x,hq,hx⟩:=hg
  obtain⟨its,rv,p,hz⟩:=I.list hq
  obtain⟨u,hu,ru⟩:=rv.get hx
  obtain⟨f0,f1,f2,f3,f4,f5⟩:=hf it (by simp)
  refine wpAny_pyNext_list_item st p.isList (x:=u) (by simpa using hu) fun h' st' sb=>?_
  have I1:Inv X pins σ H {s with heap:=h'}:=I.turned (t':=s.toks) (fun b o hb e=>(sb.2 b hb).trans e) f0 f1 f3 f4 f5
  obtain⟨o,e,c,d⟩:=id st'
  exact⟨u,rfl,M6 (s:={s with heap:=h'}) e c d ⋯ ⟨x,H,I1,ru,⟨rfl,fun ys hy=>by rw[I.vc hy hq];exact hx⟩,st',fun b hb=>(hf b hb).1⟩⟩
 done:=by
  intro X hP hw hK hc i pins s σ H E I hf st hg
  subst hP hw hK
  obtain⟨xs,hq,hx⟩:=hg
  obtain⟨its,rv,p,hz⟩:=I.list hq
  obtain⟨f0,f1,f2,f3,f4,f5⟩:=hf it (by simp)
  have hl:=rv.length
  exact Ak I.Hl (I.hne f5) st p.isList (by simp;omega) fun h' eb=>⟨rfl,I.turned (t':=s.toks) (fun b o hb e=>eb b o hb e) f0 f1 f3 f4 f5⟩
 self:=fun _ _ _ _ _ st h=>wpAny_pyIter_listiter st h
theorem Gf{c:Bool}{P:Program}{w:World}{K:PySem.W.Frag}{tg:Expr}(a it:Addr):Turn c P w K tg (Itt K a) [it] it (fun i h=>h.IsTupleIter it a i) where
 mem:=by simp
 obj:=fun i h st b hb=>by
  have e:b=it:=by simpa using hb
  subst e
  obtain⟨o,e,c,d⟩:=st
  exact⟨o,e,fun v z=>by rw[d] at z;cases z⟩
 keep:=fun i h h' st k=>st.at fun o e=>k it (by simp) o e
 item:=by
  intro X hP hw hK hc i pins s σ H E I hf st hg
  subst hP hw hK
  obtain⟨xs,x,hq,hx⟩:=hg
  obtain⟨its,rv,p,hz⟩:=I.tuple hq
  obtain⟨u,hu,ru⟩:=rv.get hx
  obtain⟨f0,f1,f2,f3,f4,f5⟩:=hf it (by simp)
  refine wpAny_pyNext_tuple_item st (show s.heap.IsTuple a its.toArray from p) (x:=u) (by simpa using hu) fun h' st' sb=>?_
  have I1:Inv X pins σ H {s with heap:=h'}:=I.turned (t':=s.toks) (fun b o hb e=>(sb.2 b hb).trans e) f0 f1 f3 f4 f5
  obtain⟨o,e,c,d⟩:=id st'
  exact⟨u,rfl,M6 (s:={s with heap:=h'}) e c d ⋯ ⟨x,H,I1,ru,⟨rfl,fun ys hy=>by rw[I.Kl hy hq];exact hx⟩,st',fun b hb=>(hf b hb).1⟩⟩
 done:=by
  intro X hP hw hK hc i pins s σ H E I hf st hg
  subst hP hw hK
  obtain⟨xs,hq,hx⟩:=hg
  obtain⟨its,rv,p,hz⟩:=I.tuple hq
  obtain⟨f0,f1,f2,f3,f4,f5⟩:=hf it (by simp)
  have hl:=rv.length
  exact sV I.Hl (I.hne f5) st (show s.heap.IsTuple a its.toArray from p) (by simp;omega) fun h' eb=>⟨rfl,I.turned (t':=s.toks) (fun b o hb e=>eb b o hb e) f0 f1 f3 f4 f5⟩
 self:=fun _ _ _ _ _ st h=>wpAny_pyIter_tupleiter st h
theorem Hs{P:Program}{w:World}{K:PySem.W.Frag}{tg:Expr}(it:Addr)(lo:Int)(n:Nat):Turn true P w K tg (Itr lo n) [it] it (fun i h=>IsRangeIter h it (lo+(i:Nat)*1) ((n:Int)-(i:Nat)) 1) where
 mem:=by simp
 obj:=fun i h st b hb=>by
  have e:b=it:=by simpa using hb
  subst e
  exact⟨_,st,fun v z=>by
   have z':Data.fields _=Data.cell v:=z
   cases z'⟩
 keep:=fun i h h' st k=>k it (by simp) _ st
 item:=by
  intro X hP hw hK hc i pins s σ H E I hf st hg
  subst hP hw hK
  obtain⟨f0,f1,f2,f3,f4,f5⟩:=hf it (by simp)
  have W:=Walks.range (prog:=X.prog) (w:=X.w) (I.ok.hd (hc rfl)) it lo 1 n
  refine W.item i s _ _ hg st fun v h' tk hv st' kk=>?_
  obtain⟨t,rfl⟩:=hv
  have I1:Inv X pins σ H {s with heap:=h',toks:=tk}:=I.turned (fun b o hb e=>kk b o (by simpa using hb) e) f0 f1 f3 f4 f5
  refine⟨_,rfl,M6 (s:={s with heap:=h',toks:=tk}) (n:="range_iterator") st' rfl rfl ⋯ ⟨.int (lo+i),H,I1,⟨t,?_⟩,⟨rfl,rfl⟩,st',fun b hb=>(hf b hb).1⟩⟩
  rw[Int.mul_one]
 done:=by
  intro X hP hw hK hc i pins s σ H E I hf st hg
  subst hP hw hK
  obtain⟨f0,f1,f2,f3,f4,f5⟩:=hf it (by simp)
  exact wpAny_pyNext_range_end (I.ok.hd (hc rfl)) st (by have:n<=i:=hg;omega) fun h' eb=>⟨rfl,I.turned (t':=s.toks) (fun b o hb e=>eb b o hb e) f0 f1 f3 f4 f5⟩
 self:=fun _ _ _ _ _ st h=>wpAny_pyIter_rangeiter st h
end L2
namespace L2
open PySem PySem.Spec PyProof.Rows
section
variable {X:Cx}{tg:Expr}
noncomputable def RE(K:PySem.W.Frag)(tl:TE):TI:=fun σ H R=>tl σ H fun x H1=>∃a,x = .ref a/\(∃xs,SqL K H1 a xs)/\R (Itl K a) H1
noncomputable def SJ(K:PySem.W.Frag)(tl:TE):TI:=fun σ H R=>tl σ H fun x H1=>∃a,x = .ref a/\(∃xs,SqT K H1 a xs)/\R (Itt K a) H1
theorem Dw{l:Expr}{tl:TE}(hl:PE X l tl):PI X tg l (RE X.K tl):=by
 intro pins s σ H R I h
 refine thn (hl pins s σ H _ I h) fun v s1 hq0=>?_
 obtain⟨x,H1,I1,r1,q1⟩:=hq0
 obtain⟨a,e,⟨xs,hq⟩,q⟩:=q1
 subst e
 cases r1
 obtain⟨its,rv,p,hz⟩:=I1.list hq
 refine wpAny_pyIter_list p.isList ?_
 refine⟨s1.heap.objs.size,[s1.heap.objs.size],_,_,H1,rfl,I1.kept (t':=s1.toks) fun b o e=>Heap.get?_push_of_some _ e,Kc a _,⟨_,Heap.get?_push_size _ rfl,rfl,rfl⟩,fun b hb=>?_,q⟩
 have e:b=s1.heap.objs.size:=by simpa using hb
 subst e
 exact I1.Gr (Nat.le_refl _) (I1.hok.fresh (Nat.le_refl _))
theorem Qh{l:Expr}{tl:TE}(hl:PE X l tl):PI X tg l (SJ X.K tl):=by
 intro pins s σ H R I h
 refine thn (hl pins s σ H _ I h) fun v s1 hq0=>?_
 obtain⟨x,H1,I1,r1,q1⟩:=hq0
 obtain⟨a,e,⟨xs,hq⟩,q⟩:=q1
 subst e
 cases r1
 obtain⟨its,rv,p,hz⟩:=I1.tuple hq
 refine wpAny_pyIter_tuple (show s1.heap.IsTuple a its.toArray from p) ?_
 refine⟨s1.heap.objs.size,[s1.heap.objs.size],_,_,H1,rfl,I1.kept (t':=s1.toks) fun b o e=>Heap.get?_push_of_some _ e,Gf a _,⟨_,Heap.get?_push_size _ rfl,rfl,rfl⟩,fun b hb=>?_,q⟩
 have e:b=s1.heap.objs.size:=by simpa using hb
 subst e
 exact I1.Gr (Nat.le_refl _) (I1.hok.fresh (Nat.le_refl _))
theorem Er(hc:X.calm=true){pins:List (Addr×Obj)}{σ:St}{H:Hp}{s:Shared}{R:It->Hp->Prop}{E:Value->Shared->Prop}{lo hi:Int}{t u v:Tok}{tk:Nat}(I:Inv X pins σ H s)(h1:-(2 ^ 62)<=lo)(h2:lo<2 ^ 62)(h3:-(2 ^ 62)<=hi)(h4:hi<2 ^ 62)
  (q:R (Itr lo (hi-lo).toNat) H):wpAny (model X.prog X.w) X.A (pyIter (.ref s.heap.objs.size)) (PIE X pins σ tg R) E {s with heap:=s.heap.push {cls:=.type "range",data:=.fields #[.int lo t,.int hi u,.int 1 v]},toks:=tk}:=by
 refine wpAny_pyIter_range (IsRange.new ..) (small_one h1 h2 h3 h4) ?_
 have I1:Inv X pins σ H {s with heap:=s.heap.push {cls:=.type "range",data:=.fields #[.int lo t,.int hi u,.int 1 v]},toks:=tk}:=I.kept fun b o e=>Heap.get?_push_of_some _ e
 refine⟨(s.heap.push {cls:=.type "range",data:=.fields #[.int lo t,.int hi u,.int 1 v]}).objs.size,[(s.heap.push {cls:=.type "range",data:=.fields #[.int lo t,.int hi u,.int 1 v]}).objs.size],_,_,H,rfl,
  I1.kept (t':=tk) fun b o e=>Heap.get?_push_of_some _ e,(Hs _ lo (hi-lo).toNat).calm hc,?_,fun b hb=>?_,q⟩
 ·have e1:lo+((0:Nat):Int)*1=lo:=by simp
  have e2:(((hi-lo).toNat:Nat):Int)-((0:Nat):Int)=Builtin.Range.rangeSize lo hi 1:=by rw[rangeSize_one];split<;>omega
  show IsRangeIter _ _ (lo+((0:Nat):Int)*1) ((((hi-lo).toNat:Nat):Int)-((0:Nat):Int)) 1
  rw[e1,e2]
  exact Heap.get?_push_size _ rfl
 ·have e:b=(s.heap.push {cls:=.type "range",data:=.fields #[.int lo t,.int hi u,.int 1 v]}).objs.size:=by simpa using hb
  subst e
  exact I1.Gr (Nat.le_refl _) (I1.hok.fresh (Nat.le_refl _))
noncomputable def RU(ta:TA):TI:=fun σ H R=>ta σ H fun vs H1=>∃j:Int,vs=[.int j]/\-(2 ^ 62)<=j/\j<2 ^ 62/\R (Itr 0 j.toNat) H1
noncomputable def RV(ta:TA):TI:=fun σ H R=>ta σ H fun vs H1=>∃i j:Int,vs=[.int i,.int j]/\(-(2 ^ 62)<=i/\i<2 ^ 62/\-(2 ^ 62)<=j/\j<2 ^ 62)/\R (Itr i (j-i).toNat) H1
theorem J6{a:Expr}{ta:TA}{p pos:Pos}(hc:X.calm=true)(hg:Gl X "range")(hm:X.mg "range"=none)(ha:PA X [a] ta)(hs:starEach [a] X.env=[(false,eval a X.env)]:=by rfl):PI X tg (.Call (.Name "range" p) [a] [] pos) (RU ta):=by
 intro pins s σ H R I h
 refine Call_ (pV I hg hm boot_range (PyProof.Rows.callWith_type1 (thn (ha pos pins s σ H _ I h) fun us s1 hq0=>?_) hs rfl))
 obtain⟨vs,H1,I1,r1,q1⟩:=hq0
 obtain⟨j,e,q1,q2,q⟩:=q1
 subst e
 cases r1 with
 |cons r rr=>
  cases rr
  obtain⟨t,rfl⟩:=r
  exact call_range_1 (Er hc I1 ∅ ∅ q1 q2 (by simpa using q))
theorem Ju{a b:Expr}{ta:TA}{p pos:Pos}(hc:X.calm=true)(hg:Gl X "range")(hm:X.mg "range"=none)(ha:PA X [a,b] ta)(hs:starEach [a,b] X.env=[(false,eval a X.env),(false,eval b X.env)]:=by rfl)(hs2:starEach [b] X.env=[(false,eval b X.env)]:=by rfl) :
  PI X tg (.Call (.Name "range" p) [a,b] [] pos) (RV ta):=by
 intro pins s σ H R I h
 refine Call_ (pV I hg hm boot_range (PyProof.Rows.callWith_type1 (thn (ha pos pins s σ H _ I h) fun us s1 hq0=>?_) (by rw[hs,hs2]) (by rw[hs2];rfl)))
 obtain⟨vs,H1,I1,r1,q1⟩:=hq0
 obtain⟨i,j,e,⟨q1,q2,q3,q4⟩,q⟩:=q1
 subst e
 cases r1 with
 |cons r rr=>
  cases rr with
  |cons r' rr=>
   cases rr
   obtain⟨t,rfl⟩:=r
   obtain⟨t',rfl⟩:=r'
   exact call_range_2 (Er hc I1 q1 q2 q3 q4 q)
noncomputable def Tx(wi:TI)(g:TG)(tb:TS):TS:=fun D σ H=>wi σ H fun J H1=>∃W:Nat->Nat->St->Hp->Prop,(∃m,W 0 m σ H1)/\∀i m σ H,W i m σ H ->
 (J.stop i H/\D.nx σ H)\/(J.go i H/\∃N:St->Hp->Prop,(∀ca H',N ca H'->∃m',m'<m/\W (i+1) m' ca H')/\∀x H',J.yld i H x H'->g x σ H' fun v6 H2=>tb {D with nx:=N,ct:=N,bk:=D.nx} v6 H2)
noncomputable def sQ(fp:List Addr)(h:Heap):List (Addr×Obj):=fp.filterMap fun b=>(h.get? b).map fun o=>(b,o)
theorem bQ{fp:List Addr}{h:Heap}{b:Addr}{o:Obj}(hb:b∈fp)(e:h.get? b=some o):(b,o)∈sQ fp h:=List.mem_filterMap.mpr ⟨b,hb,by rw[e];rfl⟩
theorem JX{fp:List Addr}{h:Heap}{p:Addr×Obj}(hp:p∈sQ fp h):p.1∈fp/\h.get? p.1=some p.2:=by
 obtain⟨b,hb,e⟩:=List.mem_filterMap.mp hp
 cases q:h.get? b with
 |none=>rw[q] at e;cases e
 |some o=>
  rw[q] at e
  have e':(b,o)=p:=Option.some.inj e
  subst e'
  exact⟨hb,q⟩
theorem Inv.pinned{pins:List (Addr×Obj)}{σ:St}{H:Hp}{s:Shared}{fp:List Addr}(I:Inv X pins σ H s)(hf:∀b∈fp,rP X pins H b)(ho:∀b∈fp,∃o,s.heap.get? b=some o/\∀v,o.data≠.cell v):Inv X (pins++sQ fp s.heap) σ H s:=
 I.IP fun p hp=>(List.mem_append.mp hp).elim (fun z=>I.pin p (mem_append_right _ z)) fun z=>by
  obtain⟨hb,e⟩:=JX z
  obtain⟨f0,f1,f2,_⟩:=hf p.1 hb
  obtain⟨o,e',d⟩:=ho p.1 hb
  rw[e] at e';cases e'
  exact⟨e,f0,f1,f2,d⟩
theorem Inv.fk{pins pl:List (Addr×Obj)}{σ:St}{H:Hp}{s:Shared}(I:Inv X (pins++pl) σ H s):Inv X pins σ H s:=I.IP fun p hp=>I.pin p (mem_append_right _ (mem_append_left _ hp))
theorem LS{iter:Expr}{body:List Stmt}{wi:TI}{g:TG}{tb:TS}{pos:Pos}(hp:PassesOwn (model X.prog X.w) X.A X.env X.xe)(hc:X.calm=true)(hi:PI X tg iter wi)(hg:PG X tg g)(hb:PSs X body tb)
  (hs:∀x,foldedSetIterable iter X.env x=pure x:=by intro _;rfl):PS X (.For tg iter body [] pos) (Tx wi g tb):=by
 intro pins s σ H D I h
 refine wpAny_For (thn (hi pins s σ H _ I h) fun v s1 h1=>thn h1 fun itv s2 h2=>?_) hs
 obtain⟨it,fp,tn,J,H2,e,I2,T,st2,f2,W,⟨m0,w0⟩,turn⟩:=h2
 subst e
 have stat:∀{H':Hp},(∀b∈fp,H' b=none)->∀b∈fp,rP X pins H' b:=fun hn b hb=>⟨hn b hb,(f2 b hb).2⟩
 refine codeAny_forLoop_any (fun n s'=>∃i ca H',Inv X pins ca H' s'/\tn i s'.heap/\(∀b∈fp,H' b=none)/\W i n ca H') ?_ m0 ⟨0,σ,H2,I2,st2,fun b hb=>(f2 b hb).1,w0⟩
 rintro n s3 ⟨i,nw,H3,I3,st3,fr3,w3⟩
 rcases turn i n nw H3 w3 with ⟨stop,qn⟩|⟨go,N,hN,step⟩
 ·refine wpAny_passesOwn hp (thn (T.done X rfl rfl rfl (fun z=>z) i pins s3 nw H3 X.xe I3 (stat fr3) st3 stop) fun r s4 hq0=>?_)
  obtain⟨hr,I4⟩:=hq0
  subst hr
  exact wpAny_execs_nil ⟨nw,H3,I4,qn⟩
 ·refine wpAny_passesOwn hp (thn (T.item X rfl rfl rfl (fun z=>z) i pins s3 nw H3 X.xe I3 (stat fr3) st3 go) fun r s4 hq0=>?_)
  obtain⟨u,hr,h4⟩:=hq0
  subst hr
  refine wpAny_passesOwn hp (thn h4 fun _ s5 hq0=>?_)
  obtain⟨x,H5,I5,r5,y5,st5,fr5⟩:=hq0
  have I5':=I5.pinned (stat fr5) (T.obj _ _ st5)
  refine wpAny_passesOwn hp (thn (hg _ s5 nw H5 x u _ I5' r5 (step x H5 y5)) fun _ s6 hq0=>?_)
  obtain⟨im,H6,I6,q6⟩:=hq0
  refine wpAny_passesOwn hp (thn (hb _ s6 im H6 _ I6 q6) fun f s7 q7=>?_)
  have again:∀{tx:St} {H7:Hp},Inv X (pins++sQ fp s5.heap) tx H7 s7->N tx H7->∃m,m<n/\∃i ca H',Inv X pins ca H' s7/\tn i s7.heap/\(∀b∈fp,H' b=none)/\W i m ca H':=fun {tx H7} I7 n7=>by
   obtain⟨m',hm,w7⟩:=hN tx H7 n7
   refine⟨m',hm,i+1,tx,H7,I7.fk,T.keep _ _ _ st5 fun b hb o e=>(I7.pin (b,o) (mem_append_right _ (mem_append_right _ (bQ hb e)))).1,fun b hb=>?_,w7⟩
   obtain⟨o,e,d⟩:=T.obj _ _ st5 b hb
   exact (I7.pin (b,o) (mem_append_right _ (mem_append_right _ (bQ hb e)))).2.1
  cases f with
  |next=>obtain⟨tx,H7,I7,n7⟩:=q7;exact again I7 n7
  |cont=>obtain⟨tx,H7,I7,n7⟩:=q7;exact again I7 n7
  |brk=>obtain⟨tx,H7,I7,q7⟩:=q7;exact⟨tx,H7,I7.fk,q7⟩
  |ret v=>obtain⟨x7,tx,H7,I7,r7,q7⟩:=q7;exact⟨x7,tx,H7,I7.fk,r7,q7⟩
end
end L2
namespace L2
open PySem PySem.Spec PyProof.Rows
noncomputable abbrev R2:=V->V->Hp->VK->Prop
noncomputable def OpR(X:Cx)(f:Value->Value->Sem Value)(r:R2):Prop:=
 ∀(pins:List (Addr×Obj)) (s:Shared) (σ:St) (H:Hp) (x y:V) (v u:Value) (Q:VK),Inv X pins σ H s->RelV x v->RelV y u->r x y H Q ->
  wpAny (model X.prog X.w) X.A (f v u) (EP X pins σ Q) X.xe s
noncomputable def UnR(X:Cx)(f:Value->Sem Value)(r:V->Hp->VK->Prop):Prop:=
 ∀(pins:List (Addr×Obj)) (s:Shared) (σ:St) (H:Hp) (x:V) (v:Value) (Q:VK),Inv X pins σ H s->RelV x v->r x H Q ->
  wpAny (model X.prog X.w) X.A (f v) (EP X pins σ Q) X.xe s
noncomputable def j5(X:Cx)(f:Value)(r:List V->Hp->VK->Prop):Prop:=
 ∀(pins:List (Addr×Obj)) (s:Shared) (σ:St) (H:Hp) (xs:List V) (us:List Value) (Q:VK),Inv X pins σ H s->Vals xs us->r xs H Q ->
  wpAny (model X.prog X.w) X.A (call f us) (EP X pins σ Q) X.xe s
noncomputable def tOp(r:R2)(ta tb:TE):TE:=fun σ H Q=>ta σ H fun x H1=>tb σ H1 fun y H2=>r x y H2 Q
noncomputable def tUn(r:V->Hp->VK->Prop)(ta:TE):TE:=fun σ H Q=>ta σ H fun x H1=>r x H1 Q
noncomputable def rI(C:Int->Int->Prop)(g:Int->Int->V):R2:=fun x y H Q=>∃i j,x = .int i/\y = .int j/\C i j/\Q (g i j) H
noncomputable def rI0(g:Int->Int->V):R2:=fun x y H Q=>∃i j,x = .int i/\y = .int j/\Q (g i j) H
noncomputable def rU(g:Int->V):V->Hp->VK->Prop:=fun x H Q=>∃i,x = .int i/\Q (g i) H
section
variable {X:Cx}{a b c:Expr}{ta tb tc:TE}{pos:Pos}
theorem QB(ha:PE X a ta)(hb:PE X b tb){pins:List (Addr×Obj)}{s:Shared}{σ:St}{H:Hp}{R:V->V->Hp->Prop}(I:Inv X pins σ H s)
  (h:ta σ H fun x H1=>tb σ H1 fun y H2=>R x y H2) {Q:Value->Shared->Prop} {f:Value->Value->Sem Value}
  (hf:∀v u s2 x y H2,Inv X pins σ H2 s2->RelV x v->RelV y u->R x y H2->wpAny (model X.prog X.w) X.A (f v u) Q X.xe s2) :
  wpAny (model X.prog X.w) X.A (eval a X.env) (fun v ci=>wpAny (model X.prog X.w) X.A (eval b X.env) (fun u ii=>wpAny (model X.prog X.w) X.A (f v u) Q X.xe ii) X.xe ci) X.xe s:=by
 refine thn (ha pins s σ H _ I h) fun v s1 hq0=>?_
 obtain⟨x,H1,I1,r1,q1⟩:=hq0
 refine thn (hb pins s1 σ H1 _ I1 q1) fun u s2 hq0=>?_
 obtain⟨y,H2,I2,r2,q2⟩:=hq0
 exact hf v u s2 x y H2 I2 r1 r2 q2
theorem SE{op:Operator}{r:R2}(ho:OpR X (binaryOp op) r)(ha:PE X a ta)(hb:PE X b tb):PE X (.BinOp a op b pos) (tOp r ta tb):=by
 intro pins s σ H Q I h
 exact wpAny_BinOp (QB ha hb I h fun v u s2 x y H2 I2 rx ry q=>ho pins s2 σ H2 x y v u Q I2 rx ry q)
theorem SD{op:UnaryOp}{r:V->Hp->VK->Prop}(ho:UnR X (unaryOp op) r)(ha:PE X a ta):PE X (.UnaryOp op a pos) (tUn r ta):=by
 intro pins s σ H Q I h
 exact UnaryOp_ (thn (ha pins s σ H _ I h) fun v s1 ⟨x,H1,I1,r1,q1⟩=>ho pins s1 σ H1 x v Q I1 r1 q1)
theorem opI{f:Value->Value->Sem Value}{C:Int->Int->Prop}{g:Int->Int->Int}
  (rule:∀(i j:Int) (t u:Tok) (s:Shared) (Q:Value->Shared->Prop) (E:Value->Shared->Prop),C i j->Q (.int (g i j) s.toks) {s with toks:=s.toks+1}->wpAny (model X.prog X.w) X.A (f (.int i t) (.int j u)) Q E s) :
  OpR X f (rI C fun i j=>.int (g i j)):=by
 intro pins s σ H x y v u Q I rx ry h
 obtain⟨i,j,rfl,rfl,hc,q⟩:=h
 obtain⟨t,rfl⟩:=rx
 obtain⟨t',rfl⟩:=ry
 exact rule i j t t' s _ _ hc ⟨.int (g i j),H,I.tok _,⟨_,rfl⟩,q⟩
theorem RY{f:Value->Value->Sem Value}{g:Int->Int->Int}
  (rule:∀(i j:Int) (t u:Tok) (s:Shared) (Q:Value->Shared->Prop) (E:Value->Shared->Prop),Q (.int (g i j) s.toks) {s with toks:=s.toks+1}->wpAny (model X.prog X.w) X.A (f (.int i t) (.int j u)) Q E s) :
  OpR X f (rI0 fun i j=>.int (g i j)):=by
 intro pins s σ H x y v u Q I rx ry h
 obtain⟨i,j,rfl,rfl,q⟩:=h
 obtain⟨t,rfl⟩:=rx
 obtain⟨t',rfl⟩:=ry
 exact rule i j t t' s _ _ ⟨.int (g i j),H,I.tok _,⟨_,rfl⟩,q⟩
theorem Nf{f:Value->Value->Sem Value}{g:Int->Int->Bool}
  (rule:∀(i j:Int) (t u:Tok) (s:Shared) (Q:Value->Shared->Prop) (E:Value->Shared->Prop),Q (.bool (g i j)) s->wpAny (model X.prog X.w) X.A (f (.int i t) (.int j u)) Q E s) :
  OpR X f (rI0 fun i j=>.bl (g i j)):=by
 intro pins s σ H x y v u Q I rx ry h
 obtain⟨i,j,rfl,rfl,q⟩:=h
 obtain⟨t,rfl⟩:=rx
 obtain⟨t',rfl⟩:=ry
 exact rule i j t t' s _ _ ⟨.bl (g i j),H,I,rfl,q⟩
noncomputable def Pd(i j:Int):Prop:=0<=j/\j<=1000000/\i.natAbs<2 ^ 64
noncomputable def N1(i j:Int):Prop:=(-(2 ^ 64)<i/\i<2 ^ 64)\/(-(2 ^ 64)<j/\j<2 ^ 64)
theorem N1.ok{i j:Int}(h:N1 i j):IntMulOk i j:=by
 rcases h with ⟨h1,h2⟩|⟨h1,h2⟩
 ·exact .of_left (intBits_le_64 h1 h2)
 ·exact .of_right (intBits_le_64 h1 h2)
theorem L9:OpR X (binaryOp .Add) (rI0 fun i j=>.int (i+j)):=RY fun _ _ _ _ _ _ _ q=>add_int q
theorem O1:OpR X (binaryOp .Sub) (rI0 fun i j=>.int (i-j)):=RY fun _ _ _ _ _ _ _ q=>sub_int q
theorem Ol:OpR X (binaryOp .Mod) (rI (fun _ j=>j≠0) fun i j=>.int (i.fmod j)):=opI fun _ _ _ _ _ _ _ hc q=>mod_int' hc q
theorem Qj:OpR X (binaryOp .Pow) (rI Pd fun i j=>.int (i ^ j.toNat)):=opI fun _ _ _ _ _ _ _ hc q=>pow_int_small hc.1 hc.2.1 hc.2.2 q
theorem unI{f:Value->Sem Value}{g:Int->Int}
  (rule:∀(i:Int) (t:Tok) (s:Shared) (Q:Value->Shared->Prop) (E:Value->Shared->Prop),Q (.int (g i) s.toks) {s with toks:=s.toks+1}->wpAny (model X.prog X.w) X.A (f (.int i t)) Q E s) :
  UnR X f (rU fun i=>.int (g i)):=by
 intro pins s σ H x v Q I rx h
 obtain⟨i,rfl,q⟩:=h
 obtain⟨t,rfl⟩:=rx
 exact rule i t s _ _ ⟨.int (g i),H,I.tok _,⟨_,rfl⟩,q⟩
theorem Ph:UnR X (unaryOp .USub) (rU fun i=>.int (-i)):=unI fun _ _ _ _ _ q=>neg_int q
end
section
variable {X:Cx}{a b c:Expr}{ta tb tc:TE}{pos:Pos}
theorem ku:OpR X (compareOp .Lt) (rI0 fun i j=>.bl (decide (i<j))):=Nf fun _ _ _ _ _ _ _ q=>lt_int q
theorem Io:OpR X (compareOp .LtE) (rI0 fun i j=>.bl (decide (i<=j))):=Nf fun _ _ _ _ _ _ _ q=>le_int q
theorem oO:OpR X (compareOp .Gt) (rI0 fun i j=>.bl (decide (j<i))):=Nf fun _ _ _ _ _ _ _ q=>gt_int q
theorem El:OpR X (compareOp .GtE) (rI0 fun i j=>.bl (decide (j<=i))):=Nf fun _ _ _ _ _ _ _ q=>ge_int q
theorem OpR.or{f:Value->Value->Sem Value}{r r':R2}(h:OpR X f r)(h':OpR X f r'):OpR X f (fun x y H Q=>r x y H Q\/r' x y H Q):=by
 intro pins s σ H x y v u Q I rx ry q
 rcases q with q|q
 ·exact h pins s σ H x y v u Q I rx ry q
 ·exact h' pins s σ H x y v u Q I rx ry q
theorem aI(b:Expr){op:CmpOp}(h:op≠.In:=by decide)(h2:op≠.NotIn:=by decide):behindInMarks op b=false:=by
 have e1:(op==CmpOp.In)=false:=by cases op<;>first|rfl|exact absurd rfl h
 have e2:(op==CmpOp.NotIn)=false:=by cases op<;>first|rfl|exact absurd rfl h2
 cases b<;>simp[behindInMarks,e1,e2]
theorem Oy{op:CmpOp}{r:R2}(ho:OpR X (compareOp op) r)(ha:PE X a ta)(hb:PE X b tb)(hm:behindInMarks op b=false):PE X (.Compare a [op] [b] pos) (tOp r ta tb):=by
 intro pins s σ H Q I h
 exact wpAny_Compare1 (QB ha hb I h fun v u s2 x y H2 I2 rx ry q=>ho pins s2 σ H2 x y v u Q I2 rx ry q) hm
noncomputable def Lw(t:TE):TT:=fun σ H Q=>t σ H fun x H'=>∃k,x = .bl k/\Q k H'
theorem Ng{op:CmpOp}{r:R2}(ho:OpR X (compareOp op) r)(ha:PE X a ta)(hb:PE X b tb)(hm:behindInMarks op b=false):PT X (.Compare a [op] [b] pos) (Lw (tOp r ta tb)):=by
 intro pins s σ H Q I h
 refine wpAny_isTrue_Compare1 (thn (ha pins s σ H _ I h) fun v s1 ⟨x,H1,I1,r1,q1⟩=>thn (hb pins s1 σ H1 _ I1 q1) fun u s2 ⟨y,H2,I2,r2,q2⟩=>
  thn (ho pins s2 σ H2 x y v u _ I2 r1 r2 q2) fun c s3 ⟨z,H3,I3,r3,k,e,q3⟩=>?_) hm
 subst e
 cases r3
 exact wpAny_truthy_bool ⟨H3,I3,q3⟩
noncomputable def Pp(r r':R2)(ta tb tc:TE):TE:=fun σ H Q=>ta σ H fun x H1=>tb σ H1 fun y H2=>r x y H2 fun z H3=>∃k,z = .bl k /\
 (if k=true then tc σ H3 fun w' H4=>r' y w' H4 Q else Q (.bl false) H3)
theorem LL{op op':CmpOp}{r r':R2}(ho:OpR X (compareOp op) r)(ho':OpR X (compareOp op') r')(ha:PE X a ta)(hb:PE X b tb)(hc:PE X c tc)
  (hm:lastMarks [op,op'] [b,c]=false:=by with_unfolding_all rfl):PT X (.Compare a [op,op'] [b,c] pos) (Lw (Pp r r' ta tb tc)):=by
 intro pins s σ H Q I h
 refine isTrue_chain (thn (ha pins s σ H _ I h) fun v s1 ⟨x,H1,I1,r1,q1⟩=>test_link (thn (hb pins s1 σ H1 _ I1 q1) fun u s2 ⟨y,H2,I2,r2,q2⟩=>
  thn (ho pins s2 σ H2 x y v u _ I2 r1 r2 q2) fun d s3 ⟨z,H3,I3,r3,k,e,q3⟩=>?_)) hm
 subst e
 cases r3
 refine wpAny_truthy_bool ?_
 cases k with
 |false=>
  obtain⟨k',e',q'⟩:=q3
  cases e'
  exact ite_ff ⟨H3,I3,q'⟩
 |true=>
  refine ite_tt (test_last (thn (hc pins s3 σ H3 _ I3 q3) fun w' s4 ⟨z',H4,I4,r4,q4⟩=>thn (ho' pins s4 σ H4 y z' u w' _ I4 r2 r4 q4) fun d' s5 hq0=>?_))
  obtain⟨z2,H5,I5,r5,k2,e2,q5⟩:=hq0
  subst e2
  cases r5
  exact wpAny_truthy_bool ⟨H5,I5,q5⟩
theorem zO:(sizeLine:Nat)<2 ^ 63:=by rw[sizeLine_eq];decide
theorem vals1{x:V}{us:List Value}(r:Vals [x] us):∃u,us=[u]/\RelV x u:=by
 cases r with
 |cons r1 r2=>cases r2;exact⟨_,rfl,r1⟩
theorem vals2{x y:V}{us:List Value}(r:Vals [x,y] us):∃u w',us=[u,w']/\RelV x u/\RelV y w':=by
 cases r with
 |cons r1 r2=>
  cases r2 with
  |cons r3 r4=>cases r4;exact⟨_,_,rfl,r1,r3⟩
theorem LQ:j5 X (.builtin "abs") (fun xs H Q=>∃i,xs=[.int i]/\Q (.int (if i<0 then -i else i)) H):=by
 intro pins s σ H xs us Q I r h
 obtain⟨i,rfl,q⟩:=h
 obtain⟨u,rfl,t,rfl⟩:=vals1 r
 exact call_abs_int fun u tk=>⟨.int (if i<0 then -i else i),H,I.tok _,⟨_,rfl⟩,q⟩
theorem JQ(hc:X.calm=true):j5 X (.builtin "max") (fun xs H Q=>∃i j,xs=[.int i,.int j]/\Q (.int (if j>i then j else i)) H):=by
 intro pins s σ H xs us Q I r h
 obtain⟨i,j,rfl,q⟩:=h
 obtain⟨u,w',rfl,⟨t,rfl⟩,⟨t',rfl⟩⟩:=vals2 r
 refine max_two_ints (I.ok.hd hc) fun h' tk k=>⟨_,H,I.kept k,?_,q⟩
 by_cases hj:j>i
 ·rw[if_pos hj,if_pos hj];exact⟨_,rfl⟩
 ·rw[if_neg hj,if_neg hj];exact⟨_,rfl⟩
theorem Kp(hc:X.calm=true):j5 X (.builtin "min") (fun xs H Q=>∃i j,xs=[.int i,.int j]/\Q (.int (if j<i then j else i)) H):=by
 intro pins s σ H xs us Q I r h
 obtain⟨i,j,rfl,q⟩:=h
 obtain⟨u,w',rfl,⟨t,rfl⟩,⟨t',rfl⟩⟩:=vals2 r
 refine min_two_ints (I.ok.hd hc) fun h' tk k=>⟨_,H,I.kept k,?_,q⟩
 by_cases hj:j<i
 ·rw[if_pos hj,if_pos hj];exact⟨_,rfl⟩
 ·rw[if_neg hj,if_neg hj];exact⟨_,rfl⟩
theorem Kj:j5 X (.type "int") (fun xs H Q=>(∃i,xs=[.int i]/\Q (.int i) H)\/∃k,xs=[.bl k]/\Q (.int (if k then 1 else 0)) H):=by
 intro pins s σ H xs us Q I r h
 rcases h with ⟨i,rfl,q⟩|⟨k,rfl,q⟩
 ·obtain⟨u,rfl,t,rfl⟩:=vals1 r
  exact call_int_int ⟨.int i,H,I,⟨_,rfl⟩,q⟩
 ·obtain⟨u,rfl,r1⟩:=vals1 r
  cases r1
  exact call_int_bool ⟨.int (if k then 1 else 0),H,I.tok _,⟨_,rfl⟩,q⟩
end
end L2
namespace L2
open PySem PySem.Spec PyProof.Rows
end L2
namespace L2
open PySem PySem.Spec PyProof.Rows
structure nT(k:Nat)(A:Around):Prop where
 hd:A.handled=none
 dp:A.depth+3*k+5<recursionLimit
 un:A.units+16*k+200<cLine
theorem nT.mono{j k:Nat}{A:Around}(r:nT k A)(h:j<=k):nT j A:=⟨r.hd,by have:=r.dp;omega,by have:=r.un;omega⟩
theorem nT.deeper{k:Nat}{A:Around}(r:nT (k+1) A)(env:Env):nT k (A.deeper env):=
 ⟨r.hd,by have:=r.dp;show A.depth+1+3*k+5<_;omega,by have:=r.un;show A.units+3+16*k+200<_;omega⟩
theorem nT.depth{k:Nat}{A:Around}(r:nT k A):A.depth<recursionLimit:=by have:=r.dp;omega
theorem nT.units{k:Nat}{A:Around}(r:nT k A):A.units+64<cLine:=by have:=r.un;omega
noncomputable def SU:TA:=fun _ H Q=>Q [] H
noncomputable def Rn(ta:TE)(tr:TA):TA:=fun σ H Q=>ta σ H fun x H1=>tr σ H1 fun xs H2=>Q (x::xs) H2
section
variable {X:Cx}{e:Expr}{es:List Expr}{te:TE}{t:TA}{pos:Pos}
theorem vm:PA X [] SU:=fun _ _ _ _ H Q I h=>Calls.spliced_nil ⟨[],H,I,.nil,h⟩
theorem lH(ha:PE X e te)(hr:PA X es t)(hs:starEach (e::es) X.env=(false,eval e X.env)::starEach es X.env:=by rfl):PA X (e::es) (Rn te t):=by
 intro pos pins s σ H Q I h
 rw[hs]
 show wpAny _ _ (spliced ((false,eval e X.env)::backTo pos (starEach es X.env))) _ _ s
 refine Calls.spliced_cons (thn (ha pins s σ H _ I h) fun u s1 hq0=>?_)
 obtain⟨x,H1,I1,r1,q1⟩:=hq0
 exact thn (hr pos pins s1 σ H1 _ I1 q1) fun us s2 ⟨xs,H2,I2,r2,q2⟩=>⟨x::xs,H2,I2,.cons r1 r2,q2⟩
noncomputable def SQ(t:TA):TE:=fun σ H Q=>t σ H fun xs H1=>xs.length<=sizeLine/\∀p,H1 p=none->Q (.ref p) (upd H1 p (.tup xs))
noncomputable def Tf(t:TA):TE:=fun σ H Q=>t σ H fun xs H1=>xs.length<=sizeLine/\∀p,H1 p=none->Q (.ref p) (upd H1 p (.lst xs))
theorem QW{x1}(h:PA X es t):PE X (.Tuple es x1 pos) (SQ t):=by
 intro pins s σ H Q I hq
 refine wpAny_Tuple_spliced (thn (h pos pins s σ H _ I hq) fun us s1 ⟨xs,H1,I1,r,z,q⟩=>⟨by rw[<- r.length];exact z,?_⟩)
 have hf:H1 s1.heap.objs.size=none:=I1.hok.fresh (Nat.le_refl _)
 refine⟨.ref s1.heap.objs.size,upd H1 s1.heap.objs.size (.tup xs),I1.laid (t':=s1.toks) (fun b u e=>Heap.get?_push_of_some _ e) (Nat.le_refl _) ?_,rfl,q _ hf⟩
 exact⟨z,us,r,⟨_,Heap.get?_push_size _ rfl,rfl,_,rfl⟩⟩
theorem PJ(h:PA X es t):PE X (.List es pos) (Tf t):=by
 intro pins s σ H Q I hq
 refine wpAny_List_spliced (thn (h pos pins s σ H _ I hq) fun us s1 ⟨xs,H1,I1,r,z,q⟩=>⟨by rw[<- r.length];exact z,?_⟩)
 have hf:H1 s1.heap.objs.size=none:=I1.hok.fresh (Nat.le_refl _)
 refine⟨.ref s1.heap.objs.size,upd H1 s1.heap.objs.size (.lst xs),I1.laid (t':=s1.toks) (fun b u e=>Heap.get?_push_of_some _ e) (Nat.le_refl _) ?_,rfl,q _ hf⟩
 exact⟨z,us,0,r,Heap.get?_push_size _ rfl⟩
end
noncomputable abbrev Sp:=List V->Hp->VK->XK->Prop
noncomputable abbrev CXT:=List Env->Hp->Shared->XK->Value->Shared->Prop
structure N4(P:Program)(w:World)(K:PySem.W.Frag)(mg:Str->Option Value)(base:Heap)(A:Around)(outer:List Env)(s:Shared)(H:Hp):Prop where
 frames:A.frames=some outer
 mod:Mod K mg base
 bs:∀b o,base.get? b=some o->s.heap.get? b=some o/\H b=none
 bsz:base.objs.size<=s.heap.objs.size
 zo:s.heap.FunFrames base outer
 frf:∀b∈frs outer,H b=none
 hok:HOk P w H s.heap
 bare:AllBare s.gens
noncomputable def CE(outer:List Env)(P:Program)(w:World)(H:Hp)(s:Shared)(Q:VK)(u:Value)(s':Shared):Prop:=
 ∃v H',s'.os=s.os/\AllBare s'.gens/\Un (frs outer) [] H H' s.heap s'.heap/\HOk P w H' s'.heap/\RelV v u/\Q v H'
noncomputable def CR(CX:CXT)(outer:List Env)(P:Program)(w:World)(H:Hp)(s:Shared)(Q:VK)(E:XK)(r:Result)(s':Shared):Prop:=
 match r with
 |.ok (.ret u)=>CE outer P w H s Q u s'
 |.ok _=>False
 |.error e=>CX outer H s E e s'
structure bD(P:Program)(w:World)(K:PySem.W.Frag)(mg:Str->Option Value)(base:Heap)(CX:CXT)(k:Nat)(f:Addr)(fd:FuncData)(ps:List Str)(sp:Sp):Prop where
 len:∀vs H Q E,sp vs H Q E->vs.length=ps.length
 run:∀(A:Around) (outer:List Env) (s:Shared) (H:Hp) (args:Args) (us:List Value) (vs:List V) (Q:VK) (E:XK),nT k A->N4 P w K mg base A outer s H->BindsTo s fd args (ps.zip us)->Vals vs us->sp vs H Q E ->
  codeAny (model P w) A (.call (.ref f) args) (CR CX outer P w H s Q E) s
theorem bD.imp{P:Program}{w:World}{K:PySem.W.Frag}{mg:Str->Option Value}{base:Heap}{CX:CXT}{k:Nat}{f:Addr}{fd:FuncData}{ps:List Str}{sp sp':Sp}(F:bD P w K mg base CX k f fd ps sp)
  (h:∀vs H Q E,sp' vs H Q E->sp vs H Q E):bD P w K mg base CX k f fd ps sp':=
 ⟨fun vs H Q E q=>F.len vs H Q E (h _ _ _ _ q),fun A outer s H args us vs Q E hr he hb hv hs=>F.run A outer s H args us vs Q E hr he hb hv (h _ _ _ _ hs)⟩
section
variable {X:Cx}{pins:List (Addr×Obj)}{σ:St}{H:Hp}{s s':Shared}
theorem Inv.S0(I:Inv X pins σ H s):N4 X.prog X.w X.K X.mg X.base X.A X.stack s H:=
 ⟨I.ok.frames,I.ok.mod,I.bs,le_trans I.ok.bsz I.sz,I.stack,I.ur,I.hok,I.bare⟩
theorem Inv.after{Q:VK}{u:Value}(I:Inv X pins σ H s)(h:CE X.stack X.prog X.w H s Q u s'):EP X pins σ Q u s':=by
 obtain⟨v,H',os,bare,un,hok,r,q⟩:=h
 obtain⟨hh,g,d,t,os'⟩:=s'
 obtain rfl:os'=s.os:=os
 exact⟨v,H',I.call (h':=hh) (g':=g) (d':=d) (t':=t) (ch:=[]) un hok bare (fun b z=>absurd z (by simp)),r,q⟩
end
noncomputable def Su(sp:Sp)(dvs:List V)(E:XK)(t:TA):TE:=fun σ H Q=>t σ H fun vs H1=>sp (vs++dvs) H1 Q E
noncomputable def Binds(K:PySem.W.Frag)(fd:FuncData)(ps:List Str)(ds:List Value):Prop:=
 ∀(s:Shared) (us:List Value),K.In s.heap->(us++ds).length=ps.length->BindsTo s fd ⟨us,[]⟩ (ps.zip (us++ds))
theorem Binds.all{K:PySem.W.Frag}{fd:FuncData}{ps:List Str}(h:∀us:List Value,us.length=ps.length->bindArgs fd ⟨us,[]⟩=pure (ps.zip us)):Binds K fd ps []:=fun s us _ hl=>by
 rw[append_nil] at hl ⊢
 exact .of_eq (h us hl)
noncomputable def Passes(CX:CXT)(X:Cx)(E:XK):Prop:=∀(pins:List (Addr×Obj)) (σ:St) (H:Hp) (s:Shared) (e:Value) (s':Shared),Inv X pins σ H s->CX X.stack H s E e s'->X.xe e s'
section
variable {X:Cx}{CX:CXT}{k:Nat}{f C:Addr}{fd:FuncData}{ps:List Str}{sp:Sp}{dvs:List V}{ds:List Value}{E:XK}{x m:Str}{p pos apos:Pos}{e o:Expr}{es:List Expr}{ta:TE}{t:TA}
theorem QK{pins:List (Addr×Obj)}{σ:St}{H:Hp}{s:Shared}{Q:VK}{us:List Value}{vs:List V}(F:bD X.prog X.w X.K X.mg X.base CX k f fd ps sp)(hr:nT k X.A)(hb:Binds X.K fd ps ds)(hd:Vals dvs ds)(hx:Passes CX X E)
  (I:Inv X pins σ H s) (r:Vals vs us) (h:sp (vs++dvs) H Q E):wpAny (model X.prog X.w) X.A (call (.ref f) us) (EP X pins σ Q) X.xe s:=by
 have r2:Vals (vs++dvs) (us++ds):=r.append hd
 have hl:(us++ds).length=ps.length:=by rw[<- r2.length];exact F.len _ _ _ _ h
 refine wpAny_call (codeAny_mono (F.run X.A X.stack s H ⟨us,[]⟩ (us++ds) (vs++dvs) Q E hr I.S0 (hb s us I.kIn hl) r2 h) fun r s' hq=>?_)
 cases r with
 |error e=>exact hx pins σ H s e s' I hq
 |ok fl=>
  cases fl with
  |ret u=>exact I.after hq
  |next=>exact False.elim hq
  |brk=>exact False.elim hq
  |cont=>exact False.elim hq
theorem Nk(F:bD X.prog X.w X.K X.mg X.base CX k f fd ps sp)(hr:nT k X.A)(hg:Gl X x)(hm:X.mg x=some (.ref f))(hk:keepIn X.K (.ref f)=true)(hb:Binds X.K fd ps ds)(hd:Vals dvs ds)(hx:Passes CX X E)
  (ha:PA X (e::es) t) (hdb:(x==("__debug__":Str))=false:=by decide) (he:starEach (e::es) X.env=(false,eval e X.env)::starEach es X.env:=by rfl) (hpl:(backTo pos (starEach es X.env)).any (·.1)=false:=by rfl) :
  PE X (.Call (.Name x p) (e::es) [] pos) (Su sp dvs E t):=by
 intro pins s σ H Q I h
 refine wpAny_Call_Name_kw (Jr I hg hm ?_ hdb)
 refine PySem.W.callWith_K (h₀:=X.base) I.ok.mod.kin hk (thn (ha pos pins s σ H _ I h) fun us s1 ⟨vs,H1,I1,r,q⟩=>⟨I1.kIn,?_⟩) he hpl
 exact QK F hr hb hd hx I1 r q
end
structure aO(N P:List Str)(sc:Scope):Prop where
 kind:sc.kind = .function
 co:sc.isCoroutine=false
 gen:sc.isGenerator=false
 nd:N.Nodup
 pre:N.take P.length=P
 par:∀x∈P,sc.names.lookup x=some .local\/sc.names.lookup x=some .cell
 Q3:∀y∈sc.names,y.2≠.free
theorem Bo{kindOf:Str->Option NameKind}{x:Str}:∀{binds:List (Str×Value)} {m:Str->Option Value},(∀v,(x,v) ∉ binds)->bindL kindOf binds m x=m x
 |[],_,_=>rfl
 |(n,v)::r,m,h=>by
  unfold bindL
  rw[Bo fun w hw=>h w (mem_cons_of_mem _ hw)]
  split
  ·have:x≠n:=by rintro rfl;exact h v mem_cons_self
   simp[this]
  ·rfl
theorem Bj{kindOf:Str->Option NameKind}{x:Str}:∀{binds:List (Str×Value)} {m:Str->Option Value},(∀v,(x,v) ∉ binds)->bindC kindOf binds m x=m x
 |[],_,_=>rfl
 |(n,v)::r,m,h=>by
  unfold bindC
  rw[Bj fun w hw=>h w (mem_cons_of_mem _ hw)]
  split
  ·rfl
  ·have:x≠n:=by rintro rfl;exact h v mem_cons_self
   simp[this]
theorem BA{kindOf:Str->Option NameKind}{x:Str}{v:Value}:∀{P:List Str} {vs:List Value} {i:Nat} {m:Str->Option Value},P.Nodup->P[i]? = some x->vs[i]? = some v->kindOf x=some .local ->
  bindL kindOf (P.zip vs) m x=some v
 |[],_,_,_,_,h,_,_=>by simp at h
 |_::_,[],_,_,_,_,h,_=>by simp at h
 |p::P,w::vs,0,m,nd,h1,h2,hk=>by
  simp at h1 h2;subst h1;subst h2
  show bindL kindOf ((p,w)::P.zip vs) m p=_
  unfold bindL
  rw[Bo fun v hv=>(List.nodup_cons.mp nd).1 (List.of_mem_zip hv).1,if_pos hk]
  simp
 |p::P,w::vs,i+1,m,nd,h1,h2,hk=>by
  show bindL kindOf ((p,w)::P.zip vs) m x=_
  unfold bindL
  exact BA (i:=i) (List.nodup_cons.mp nd).2 (by simpa using h1) (by simpa using h2) hk
theorem Bm{kindOf:Str->Option NameKind}{x:Str}{v:Value}:∀{P:List Str} {vs:List Value} {i:Nat} {m:Str->Option Value},P.Nodup->P[i]? = some x->vs[i]? = some v->kindOf x≠some .local ->
  bindC kindOf (P.zip vs) m x=some v
 |[],_,_,_,_,h,_,_=>by simp at h
 |_::_,[],_,_,_,_,h,_=>by simp at h
 |p::P,w::vs,0,m,nd,h1,h2,hk=>by
  simp at h1 h2;subst h1;subst h2
  show bindC kindOf ((p,w)::P.zip vs) m p=_
  unfold bindC
  rw[Bj fun v hv=>(List.nodup_cons.mp nd).1 (List.of_mem_zip hv).1,if_neg hk]
  simp
 |p::P,w::vs,i+1,m,nd,h1,h2,hk=>by
  show bindC kindOf ((p,w)::P.zip vs) m x=_
  unfold bindC
  exact Bm (i:=i) (List.nodup_cons.mp nd).2 (by simpa using h1) (by simpa using h2) hk
noncomputable def start(N:List Str)(vs:List V):St:=vs.map some++List.replicate (N.length-vs.length) none
noncomputable def Gs(CX:CXT)(P:Program)(w:World)(K:PySem.W.Frag)(mg:Str->Option Value)(base:Heap)(N:List Str)(qual:Str)(scope:Scope)(f:Addr)(cd:Value)(A:Around)(outer:List Env)(s:Shared)(H:Hp)(E:XK):Cx where
 prog:=P
 w:=w
 K:=K
 mg:=mg
 base:=base
 A:=A.deeper (envOfC qual scope s.heap.objs.size f cd)
 N:=N
 io:=s
 H₀:=H
 env:=envOfC qual scope s.heap.objs.size f cd
 outer:=outer
 stack:=envOfC qual scope s.heap.objs.size f cd::outer
 ex:=[]
 calm:=true
 fn:=fun _=>true
 pn:=[]
 xe:=fun e s'=>wpAny (model P w) (A.deeper (envOfC qual scope s.heap.objs.size f cd)) (leaving (envOfC qual scope s.heap.objs.size f cd) e) (fun _ s''=>CX outer H s E e s'') (fun e' s''=>CX outer H s E e' s'') s'
theorem Fz{sc:Scope}{n:Nat}{x:Str}(h:sc.names.lookup x=some .cell):∃c,(cellsFrom n sc.names []).lookup x=some c:=by
 have q:=PySem.W.cellsFrom_some sc.names n [] (.inl h)
 exact Option.isSome_iff_exists.mp q
theorem J4{CX:CXT}{P:Program}{w:World}{K:PySem.W.Frag}{mg:Str->Option Value}{base:Heap}{N ps:List Str}{qual:Str}{scope:Scope}{f:Addr}{cd:Value}{A:Around}{outer:List Env}{s s1:Shared}{H:Hp}{E:XK}{us:List Value}{vs:List V}
  (S:aO N ps scope) (hd:A.handled=none) (e0:N4 P w K mg base A outer s H) (hl:vs.length=ps.length) (r:Vals vs us)
  (x:InCallC s s.heap.objs.size (bindL (envOfC qual scope s.heap.objs.size f cd).kindOf (ps.zip us) fun _=>none) (cellsFrom (s.heap.objs.size+1) scope.names []) (bindC (envOfC qual scope s.heap.objs.size f cd).kindOf (ps.zip us) fun _=>none) s1) :
  Inv (Gs CX P w K mg base N qual scope f cd A outer s H E) [] (start N vs) H s1:=by
 have hpl:ps.length<=N.length:=by have:=congrArg List.length S.pre;rw[length_take] at this;omega
 obtain⟨h1,tk,rfl,hk⟩:=x.done
 have noA:∀b:Addr,b ∉ (Gs CX P w K mg base N qual scope f cd A outer s H E).ex:=fun b z=>absurd (show b∈([]:List Addr) from z) (by simp)
 refine⟨⟨e0.mod,S.kind,rfl,rfl,Nat.le_refl _,fun y z c h1 h2=>?_,fun y hy=>?_,fun y c _ h=>?_,fun _=>hd,.inl hd,Around.frames_deeper e0.frames,.inr ⟨rfl,rfl⟩,fun b z=>absurd z (noA b),e0.bs,e0.bsz,fun b _ _=>noA b,fun b z=>absurd z (noA b),e0.zo,e0.frf⟩,
  rfl,e0.bare,Un.kept hk,⟨_,x.toInCall.ns,fun i y v h1 h2 h3=>?_⟩,fun y c h=>⟨_,x.cell y c h⟩,e0.hok.fresh (Nat.le_refl _),fun y c h=>?_,fun p hp=>absurd (show p∈([]:List (Addr×Obj)) from hp) (by simp),e0.hok.kept hk,?_⟩
 ·exact name_of_addr x.apart (mem_of_lookup h1) (mem_of_lookup h2)
 ·have hy:scope.names.lookup y=some .cell\/scope.names.lookup y=some .free:=hy
  rcases hy with hy|hy
  ·exact Fz hy
  ·exact absurd rfl (S.Q3 _ (mem_of_lookup hy))
 ·exact Nat.le_of_lt (x.above y c (mem_of_lookup h))
 ·have hi:i<vs.length:=by
   unfold start at h2
   by_cases hi:i<vs.length
   ·exact hi
   ·rw[getElem?_append_right (by simpa using hi)] at h2
    rw[List.getElem?_replicate] at h2
    split at h2<;>cases h2
  have ha:vs[i]? = some v:=by
   unfold start at h2
   rw[getElem?_append_left (by simpa using hi),getElem?_map] at h2
   cases e:vs[i]? with
   |none=>rw[e] at h2;cases h2
   |some a=>rw[e] at h2;cases h2;rfl
  obtain⟨u,hu,rv⟩:=r.get ha
  have hp:ps[i]? = some y:=by
   rw[<- S.pre,List.getElem?_take_of_lt ∅];exact h1
  have ndP:ps.Nodup:=by rw[<- S.pre];exact S.nd.sublist (List.take_sublist _ _)
  refine⟨u,rv,?_⟩
  rcases S.par y (mem_of_getElem? hp) with k|k
  ·exact .inl ⟨k,BA ndP hp hu k⟩
  ·obtain⟨c,e⟩:=Fz (n:=s.heap.objs.size+1) k
   refine .inr ⟨.inl k,c,e,?_⟩
   have q:=x.cell y c e
   rw[Bm ndP hp hu (by show scope.names.lookup y≠_;rw[k];decide)] at q
   exact q
 ·exact e0.hok.fresh (Nat.le_of_lt (x.above y c (mem_of_lookup h)))
 ·unfold start
  show _=N.length
  rw[length_append,length_map,List.length_replicate]
  omega
theorem R9{CX:CXT}{P:Program}{w:World}{K:PySem.W.Frag}{mg:Str->Option Value}{base:Heap}{k:Nat}{f:Addr}{name qual:Str}{params:Arguments}{body:List Stmt}{scope:Scope}{dV kV doc pm cdv ct oc:Value}{an od:Option Addr}
  {osl:Array (Option Value)} {N ps:List Str} {sp:Sp} (lk:K.lookup f=some ⟨oc,od,.func (fnOf name qual params body scope dV kV doc pm an cdv ct),osl⟩) (hcd:codeIn K cdv qual=true) (S:aO N ps scope)
  (len:∀vs H Q E,sp vs H Q E->vs.length=ps.length)
  (hbody:∀(A:Around) (outer:List Env) (s:Shared) (H:Hp) (vs:List V) (Q:VK) (E:XK),nT k (A.deeper (envOfC qual scope s.heap.objs.size f cdv))->sp vs H Q E ->
   ∃t,PSs (Gs CX P w K mg base N qual scope f cdv A outer s H E) body t/\t {nx:=fun _ H'=>Q .non H',rt:=Q} (start N vs) H) :
  bD P w K mg base CX (k+1) f (fnOf name qual params body scope dV kV doc pm an cdv ct) ps sp:=by
 refine⟨len,fun A outer s H args us vs Q E hr e0 hb r hsp=>?_⟩
 have hl:=len _ _ _ _ hsp
 have KX:K.In s.heap:=e0.mod.kin.keeps fun b o e=>(e0.bs b o e).1
 have lim:s.heap.NoLimit:=e0.mod.nolimit.keeps fun b o e=>(e0.bs b o e).1
 have hkind:∀y∈ps.zip us,scope.names.lookup y.1=some .local\/(scope.names.lookup y.1=some .cell/\((cellsFrom (s.heap.objs.size+1) scope.names []).lookup y.1).isSome=true):=fun ⟨n,v⟩ hy=>by
  rcases S.par n (List.of_mem_zip hy).1 with q|q
  ·exact .inl q
  ·exact .inr ⟨q,PySem.W.cellsFrom_some _ _ _ (.inl q)⟩
 refine codeAny_call_function hr.depth (KX _ _ lk) rfl S.co S.gen rfl (PySem.W.codeRec_of KX hcd) (hb _ _ _ _ ?_)
 refine wpAny_newFunctionEnv_cells S.kind hkind fun env he s1 x=>?_
 subst he
 refine⟨lim.keeps x.toInCall.keep,codeAny_func ?_⟩
 obtain⟨t,ht,hq⟩:=hbody A outer s H vs Q E (hr.deeper _) hsp
 have I:Inv (Gs CX P w K mg base N qual scope f cdv A outer s H E) [] (start N vs) H s1:=J4 S hr.hd e0 hl r x
 refine wpAny_mono (ht [] s1 (start N vs) H _ I hq) (fun fl s' hs=>?_) fun e s' hs=>hs
 have fin:∀{ca:St} {H':Hp} {v:V} {u:Value},Inv (Gs CX P w K mg base N qual scope f cdv A outer s H E) [] ca H' s'->RelV v u->Q v H'->CE outer P w H s Q u s':=
  fun {ca H' v u} J rv q=>⟨v,H',J.os,J.bare,J.base,J.hok,rv,q⟩
 cases fl with
 |ret u=>
  obtain⟨v,ca,H',J,rv,q⟩:=hs
  exact fin J rv q
 |next=>
  obtain⟨ca,H',J,q⟩:=hs
  exact fin (v:=V.non) (u:=Value.none) J rfl q
 |brk=>
  obtain⟨_,_,_,q⟩:=hs
  exact False.elim q
 |cont=>
  obtain⟨_,_,_,q⟩:=hs
  exact False.elim q
end L2
namespace L2
open PySem PySem.Spec PyProof.Rows
section
variable {X:Cx}{x:Str}{p pos:Pos}{e:Expr}{es:List Expr}{t:TA}{id T:String}{r:List V->Hp->VK->Prop}
noncomputable def tCB(r:List V->Hp->VK->Prop)(t:TA):TE:=fun σ H Q=>t σ H fun vs H1=>r vs H1 Q
theorem FP(hc:j5 X (.builtin id) r)(hg:Gl X x)(hm:X.mg x=none)(hv:bootBuiltins x=some (.builtin id))(ha:PA X (e::es) t)(hn:x ≠ "__name__":=by decide)(hdb:(x==("__debug__":Str))=false:=by decide)
  (he:starEach (e::es) X.env=(false,eval e X.env)::starEach es X.env:=by rfl) (hpl:(backTo pos (starEach es X.env)).any (·.1)=false:=by rfl):PE X (.Call (.Name x p) (e::es) [] pos) (tCB r t):=by
 intro pins s σ H Q I h
 refine wpAny_Call_Name_kw (pV I hg hm hv ?_ hn hdb)
 exact PyProof.Rows.callWith_builtin1 (thn (ha pos pins s σ H _ I h) fun us s1 ⟨vs,H1,I1,r1,q1⟩=>hc pins s1 σ H1 vs us Q I1 r1 q1) he hpl
theorem JE(hc:j5 X (.type T) r)(hg:Gl X x)(hm:X.mg x=none)(hv:bootBuiltins x=some (.type T))(ha:PA X (e::es) t)(hn:x ≠ "__name__":=by decide)(hdb:(x==("__debug__":Str))=false:=by decide)
  (he:starEach (e::es) X.env=(false,eval e X.env)::starEach es X.env:=by rfl) (hpl:(backTo pos (starEach es X.env)).any (·.1)=false:=by rfl):PE X (.Call (.Name x p) (e::es) [] pos) (tCB r t):=by
 intro pins s σ H Q I h
 refine wpAny_Call_Name_kw (pV I hg hm hv ?_ hn hdb)
 exact PyProof.Rows.callWith_type1 (thn (ha pos pins s σ H _ I h) fun us s1 ⟨vs,H1,I1,r1,q1⟩=>hc pins s1 σ H1 vs us Q I1 r1 q1) he hpl
end
end L2
namespace HT
open PySem PyProof.Rows
section
open PySem.SeqAt
open PySem.AutoSeq1 (wpAny_loadPart')
open PySem.MeetsSeq PySem.MeetsSeq2 PySem.MeetsSeq3
end
section
variable {prog:Program}{w:World}{A:Around}{E:Value->Shared->Prop}{s:Shared}
theorem Oo{t b:Addr}{vs ws:List Value}{Q:Value->Shared->Prop}(ht:IsTup s.heap t vs.toArray)(hb:IsTup s.heap b ws.toArray)(hv:vs≠[])
  (h1:ws=[]->Q (.ref t) s) (h2:ws≠[]->Q (.ref s.heap.objs.size) {s with heap:=s.heap.push {cls:=.type "tuple",data:=.seq (vs++ws).toArray}})
  (hsz:vs.length+ws.length<=sizeLine):wpAny (model prog w) A (binaryOp .Add (.ref t) (.ref b)) Q E s:=by
 obtain⟨⟨cls,dd,data,sl⟩,ho,hc,n,hd⟩:=id ht
 obtain⟨⟨cls2,dd2,data2,sl2⟩,ho2,hc2,n2,hd2⟩:=id hb
 simp only at hc hd hc2 hd2
 subst hc hd hc2 hd2
 have e:vs.toArray++ws.toArray=(vs++ws).toArray:=by simp
 by_cases hw:ws=[]
 ·exact concat_meets ⟨_,ho,rfl⟩ ⟨_,ho2,rfl⟩ noFill_tuple_add seq_tuple_add PySem.F.slot_tuple_add PySem.F.entry_tuple_add (PySem.F.args_tuple_add_2 _ _)
   (tuple_addW1 t b vs.toArray ws.toArray n n2 dd dd2 sl sl2 (by simpa using hv) (by simp[hw])) ⟨ho,ho2,h1 hw⟩
 ·refine concat_meets ⟨_,ho,rfl⟩ ⟨_,ho2,rfl⟩ noFill_tuple_add seq_tuple_add PySem.F.slot_tuple_add PySem.F.entry_tuple_add (PySem.F.args_tuple_add_2 _ _)
   (tuple_addW2 t b vs.toArray ws.toArray n n2 dd dd2 sl sl2 (by simpa using hv) (by simpa using hw) (by rw[size_toArray,size_toArray];exact hsz)) ⟨ho,ho2,?_⟩
  rw[e]
  exact h2 hw
noncomputable def sIx(n d:Nat):Option Int->Nat
 |none=>d
 |some v=>if v<0 then (v+(n:Int)).toNat else min v.toNat n
theorem Pe(n d:Nat)(hd:d<=n)(o:Option Int):sIx n d o<=n:=by
 cases o with
 |none=>exact hd
 |some v=>
  show (if v<0 then (v+(n:Int)).toNat else min v.toNat n)<=n
  by_cases hv:v<0
  ·rw[if_pos hv];omega
  ·rw[if_neg hv];exact Nat.min_le_right _ _
theorem IA(v:Int)(n d:Nat):(if v<0 then max (v+(n:Int)) 0 else min v (n:Int))=((sIx n d (some v):Nat):Int):=by
 show (if v<0 then max (v+(n:Int)) 0 else min v (n:Int))=(((if v<0 then (v+(n:Int)).toNat else min v.toNat n):Nat):Int)
 by_cases hv:v<0
 ·simp only[if_pos hv];omega
 ·simp only[if_neg hv];omega
theorem G2(lo hi:Option Int)(n:Nat):Builtin.Slice.sliceAdjust lo hi 1 (n:Int)=(((sIx n 0 lo:Nat):Int),((sIx n n hi:Nat):Int)):=by
 have h1:¬ ((1:Int)<0):=by omega
 unfold Builtin.Slice.sliceAdjust
 simp only[h1,if_false]
 refine Prod.ext ?_ ?_
 ·cases lo with
  |none=>rfl
  |some v=>exact IA v n 0
 ·cases hi with
  |none=>rfl
  |some v=>exact IA v n n
theorem HH(i j:Nat):Builtin.Slice.slicePlaces (i:Int) (j:Int) 1=j-i:=by
 unfold Builtin.Slice.slicePlaces
 have h1:(1:Int)>0:=by omega
 simp only[h1,if_true,Int.ediv_one]
 split<;>omega
theorem zR{v:Value}{o:Option Int}{Q:Option Int->Shared->Prop}(p:IsPart v o)(h:Q o s):wpAny (model prog w) A (Builtin.Slice.slicePartIndex v) Q E s:=by
 cases p with
 |none=>exact slicePart_none h
 |int i t=>exact slicePart_int h
theorem mM{sl:Addr}{vl vu:Value}{lo hi:Option Int}{n:Nat}{Q:Int×Int×Nat->Shared->Prop}(hs:s.heap.IsSliceOf sl vl vu .none)(pl:IsPart vl lo)(pu:IsPart vu hi)
  (h:Q (((sIx n 0 lo:Nat):Int),1,sIx n n hi-sIx n 0 lo) s):wpAny (model prog w) A (Builtin.Slice.sliceApplied (.ref sl) (pure (n:Int))) Q E s:=by
 obtain⟨os,hos,hcs,hds⟩:=id hs
 unfold Builtin.Slice.sliceApplied Builtin.Slice.sliceFields
 refine wpAny_bind (wpAny_bind (wpAny_field hos hds (x:=vl) rfl (wpAny_bind (wpAny_field hos hds (x:=vu) rfl (wpAny_bind (wpAny_field hos hds (x:=.none) rfl (wpAny_pure ?_)))))))
 refine wpAny_bind (slicePart_none ?_)
 show wpAny _ _ (if ((1:Int)==0)=true then _ else _) _ _ s
 rw[if_neg ⋯]
 refine wpAny_bind (zR pl (wpAny_bind (zR pu (wpAny_bind (wpAny_pure ?_)))))
 show wpAny _ _ (match Builtin.Slice.sliceAdjust lo hi 1 (n:Int) with|(lo,hi)=>pure (lo,(1:Int),Builtin.Slice.slicePlaces lo hi 1)) _ _ s
 rw[G2 lo hi n]
 show wpAny _ _ (pure (((sIx n 0 lo:Nat):Int),(1:Int),Builtin.Slice.slicePlaces ((sIx n 0 lo:Nat):Int) ((sIx n n hi:Nat):Int) 1)) _ _ s
 rw[HH]
 exact wpAny_pure h
theorem Lm(xs:Array Value)(i k:Nat):((List.range k).filterMap fun (m:Nat)=>xs[((i:Int)+(m:Int)*1).toNat]?).toArray=((xs.toList.drop i).take k).toArray:=by
 have e:(fun (m:Nat)=>xs[((i:Int)+(m:Int)*1).toNat]?)=fun m=>xs[i+m]?:=by
  funext m
  have:((i:Int)+(m:Int)*1).toNat=i+m:=by omega
  rw[this]
 rw[e]
 have:=pick_run xs i k
 rw[List.filterMap_map] at this
 have e2:((fun x=>xs[x]?) ∘ fun x=>i+x)=fun m=>xs[i+m]?:=rfl
 rw[e2] at this
 rw[this]
theorem tJ{t sl:Addr}{items:Array Value}{vl vu:Value}{lo hi:Option Int}{Q:Value->Shared->Prop}(ht:IsTup s.heap t items)(hs:s.heap.IsSliceOf sl vl vu .none)(pl:IsPart vl lo)(pu:IsPart vu hi)
  (hw:¬ (sIx items.size 0 lo=0/\sIx items.size items.size hi=items.size))
  (h:Q (.ref s.heap.objs.size) {s with heap:=s.heap.push {cls:=.type "tuple",data:=.seq ((items.toList.drop (sIx items.size 0 lo)).take (sIx items.size items.size hi-sIx items.size 0 lo)).toArray}})
  (hsz:items.size<=sizeLine):wpAny (model prog w) A (getItem (.ref t) (.ref sl)) Q E s:=by
 have htake:sizeOk (.seq ((items.toList.drop (sIx items.size 0 lo)).take (sIx items.size items.size hi-sIx items.size 0 lo)).toArray):=by
  show ((items.toList.drop (sIx items.size 0 lo)).take (sIx items.size items.size hi-sIx items.size 0 lo)).toArray.size<=sizeLine
  rw[size_toArray,length_take,List.length_drop,Array.length_toList]
  omega
 have hj:sIx items.size items.size hi<=items.size:=Pe _ _ (Nat.le_refl _) hi
 obtain⟨os,hos,hcs,hds⟩:=id hs
 have hTs:s.TypeIs (.ref sl) "slice":=⟨os,hos,hcs⟩
 unfold getItem
 try with_reducible refine wpAny_holding ?_
 first|refine wpAny_bind (wpAny_pure ?_)|skip
 refine wpAny_bind (wpAny_sequenceKey ht.typeIs ⋯ ?_)
 refine wpAny_bind (wpAny_callSpecial?_slot (name:=Str.ofString "__getitem__") ht.typeIs PyProof.Rows.slot_tuple_getitem
  (wpAny_call_entry PyProof.Rows.slot_tuple_getitem ht.typeIs entry_tuple_getitem ?_ (args_tuple_getitem _ _)))
 show wpAny _ _ (Builtin.Tuple.tupleItemsOf (.ref t)>>=_) _ _ s
 refine wpAny_bind (tupleItemsOf_ ht ?_)
 refine wpAny_bind (wpAny_typeOf hTs ?_)
 rw[if_pos ⋯]
 refine wpAny_bind (mM hs pl pu ?_)
 have hno:¬ ((((sIx items.size 0 lo:Nat):Int)==0&&(1:Int)==1&&(sIx items.size items.size hi-sIx items.size 0 lo)==items.size)=true):=by
  intro q
  rw[and_eq_true,and_eq_true] at q
  have q1:((sIx items.size 0 lo:Nat):Int)=0:=eq_of_beq q.1.1
  have q2:sIx items.size items.size hi-sIx items.size 0 lo=items.size:=eq_of_beq q.2
  exact hw ⟨∅,∅⟩
 show wpAny _ _ (if (((sIx items.size 0 lo:Nat):Int)==0&&(1:Int)==1&&(sIx items.size items.size hi-sIx items.size 0 lo)==items.size)=true then _ else _) _ _ s
 rw[if_neg hno,Lm]
 first
  |exact wpAny_bind (m:=Builtin.Tuple.tupleExact _) (wpAny_newObj_type (wpAny_pure ⟨_,rfl,wpAny_pure h⟩) htake)
  |exact wpAny_bind (m:=Builtin.Tuple.tupleExact _) (wpAny_newObj_type (wpAny_bind (wpAny_pure (wpAny_pure ⟨_,rfl,wpAny_pure h⟩))) htake)
  |exact wpAny_bind (wpAny_bind (m:=Builtin.Tuple.tupleExact _) (wpAny_newObj_type (wpAny_pure (wpAny_pure ⟨_,rfl,wpAny_pure h⟩)) htake))
  |exact wpAny_bind (wpAny_bind (m:=Builtin.Tuple.tupleExact _) (wpAny_newObj_type (wpAny_pure ⟨_,rfl,wpAny_pure h⟩) htake))
end
end HT
namespace L2
open PySem PySem.Spec PyProof.Rows
noncomputable abbrev TO:=St->Hp->(Option Int->Hp->Prop)->Prop
noncomputable def PO(X:Cx)(e:Option Expr)(t:TO):Prop:=
 ∀(pins:List (Addr×Obj)) (s:Shared) (σ:St) (H:Hp) (Q:Option Int->Hp->Prop),Inv X pins σ H s->t σ H Q ->
  wpAny (model X.prog X.w) X.A (evalPart e X.env) (fun u s'=>∃o H',Inv X pins σ H' s'/\IsPart u o/\Q o H') X.xe s
noncomputable def NZ:TO:=fun _ H Q=>Q none H
noncomputable def Ro(t:TE):TO:=fun σ H Q=>t σ H fun x H1=>∃i,x = .int i/\Q (some i) H1
section
variable {X:Cx}{e:Expr}{te:TE}{lo hi:Option Expr}{tl th:TO}{pos p2:Pos}
theorem Nr:PO X none NZ:=by
 intro pins s σ H Q I h
 rw[evalPart_none]
 exact wpAny_pure ⟨none,H,I,.none,h⟩
theorem Om(h:PE X e te):PO X (some e) (Ro te):=by
 intro pins s σ H Q I hw
 rw[evalPart_some]
 refine thn (h pins s σ H _ I hw) fun u s1 hq0=>?_
 obtain⟨x,H1,I1,r1,q1⟩:=hq0
 obtain⟨i,rfl,q⟩:=q1
 obtain⟨t,rfl⟩:=r1
 exact⟨some i,H1,I1,.int i t,q⟩
noncomputable def SlR(X:Cx)(r:V->Option Int->Option Int->Hp->VK->Prop):Prop:=
 ∀(pins:List (Addr×Obj)) (s:Shared) (σ:St) (H:Hp) (x:V) (v vl vu:Value) (lo hi:Option Int) (sl:Addr) (Q:VK),Inv X pins σ H s->RelV x v->s.heap.IsSliceOf sl vl vu .none->IsPart vl lo->IsPart vu hi->r x lo hi H Q ->
  ∃T id,typeLookup (.type T) "__getitem__"=pure (some (.builtin id))/\s.TypeIs v T/\wpAny (model X.prog X.w) X.A (getItem v (.ref sl)) (EP X pins σ Q) X.xe s
theorem SlR.or{r r':V->Option Int->Option Int->Hp->VK->Prop}(h:SlR X r)(h':SlR X r'):SlR X (fun x lo hi H Q=>r x lo hi H Q\/r' x lo hi H Q):=by
 intro pins s σ H x v vl vu lo hi sl Q I rx hs pl pu q
 rcases q with q|q
 ·exact h pins s σ H x v vl vu lo hi sl Q I rx hs pl pu q
 ·exact h' pins s σ H x v vl vu lo hi sl Q I rx hs pl pu q
noncomputable def tSl(r:V->Option Int->Option Int->Hp->VK->Prop)(te:TE)(tl th:TO):TE:=fun σ H Q=>te σ H fun x H1=>tl σ H1 fun l H2=>th σ H2 fun u H3=>r x l u H3 Q
theorem L7{r:V->Option Int->Option Int->Hp->VK->Prop}(hr:SlR X r)(he:PE X e te)(hl:PO X lo tl)(hu:PO X hi th):PE X (.Subscript e (.Slice lo hi none p2) pos) (tSl r te tl th):=by
 intro pins s σ H Q I h
 refine Subscript_ (thn (he pins s σ H _ I h) fun v s1 hq0=>?_)
 obtain⟨x,H1,I1,r1,q1⟩:=hq0
 refine wpAny_Slice (thn (hl pins s1 σ H1 _ I1 q1) fun vl s2 ⟨l,H2,I2,pl,q2⟩=>thn (hu pins s2 σ H2 _ I2 q2) fun vu s3 hq0=>?_)
 obtain⟨u,H3,I3,pu,q3⟩:=hq0
 rw[evalPart_none]
 refine wpAny_pure ?_
 have I4:Inv X pins σ H3 {s3 with heap:=s3.heap.push {cls:=.type "slice",data:=.fields #[vl,vu,.none]}}:=I3.kept (t':=s3.toks) fun b ob q=>Heap.get?_push_of_some _ q
 obtain⟨T,id,hT,ht,hg⟩:=hr pins {s3 with heap:=s3.heap.push {cls:=.type "slice",data:=.fields #[vl,vu,.none]}} σ H3 x v vl vu l u s3.heap.objs.size Q I4 r1 (Heap.IsSliceOf.new ..) pl pu q3
 show wpAny (model X.prog X.w) X.A (subscriptTail e (.Slice lo hi none p2) v (.ref s3.heap.objs.size)) (EP X pins σ Q) X.xe {s3 with heap:=s3.heap.push {cls:=.type "slice",data:=.fields #[vl,vu,.none]}}
 exact tail_any (ops:=[.ref s3.heap.objs.size,v]) ht hT hg (by with_unfolding_all rfl)
noncomputable def Ck(xs:List V)(lo hi:Option Int):List V:=(xs.drop (HT.sIx xs.length 0 lo)).take (HT.sIx xs.length xs.length hi-HT.sIx xs.length 0 lo)
theorem wK(xs:List V)(lo hi:Option Int):(Ck xs lo hi).length<=xs.length:=by
 unfold Ck
 rw[length_take,List.length_drop]
 omega
noncomputable def Tr(K:PySem.W.Frag):V->Option Int->Option Int->Hp->VK->Prop:=fun x lo hi H Q=>∃a xs,x = .ref a/\SqT K H a xs /\
 ¬ (HT.sIx xs.length 0 lo=0/\HT.sIx xs.length xs.length hi=xs.length)/\∀p,H p=none->Q (.ref p) (upd H p (.tup (Ck xs lo hi)))
theorem Ra:SlR X (Tr X.K):=by
 intro pins s σ H x v vl vu lo hi sl Q I rx hs pl pu h
 obtain⟨a,xs,rfl,hx,hw,q⟩:=h
 cases rx
 obtain⟨its,r,ht,hz⟩:=I.tuple hx
 have hlen:its.toArray.size=xs.length:=by rw[size_toArray];exact r.length.symm
 refine⟨"tuple",_,PyProof.Rows.slot_tuple_getitem.lookup,ht.typeIs,?_⟩
 refine HT.tJ ht hs pl pu (by rw[hlen];exact hw) ?_ (by rw[hlen];exact hz)
 rw[hlen]
 refine⟨.ref s.heap.objs.size,_,I.laid (t':=s.toks) (o:=.tup (Ck xs lo hi)) (fun b ob q=>Heap.get?_push_of_some _ q) (Nat.le_refl _) ?_,rfl,q _ (I.hok.fresh (Nat.le_refl _))⟩
 exact⟨le_trans (wK xs lo hi) hz,_,(r.drop (HT.sIx xs.length 0 lo)).take (HT.sIx xs.length xs.length hi-HT.sIx xs.length 0 lo),IsTup.new _ _⟩
noncomputable def Sq(K:PySem.W.Frag):R2:=fun x y H Q=>∃a b xs ys,x = .ref a/\y = .ref b/\SqT K H a xs/\SqT K H b ys/\xs≠[]/\xs.length+ys.length<=sizeLine /\
 (ys=[]->Q (.ref a) H)/\(ys≠[]->∀p,H p=none->Q (.ref p) (upd H p (.tup (xs++ys))))
theorem Vals.BR{xs:List V}{us:List Value}(r:Vals xs us):us=[]↔xs=[]:=by
 cases r with
 |nil=>simp
 |cons _ _=>simp
theorem NX:OpR X (binaryOp .Add) (Sq X.K):=by
 intro pins s σ H x y v u Q I rx ry h
 obtain⟨a,b,xs,ys,rfl,rfl,ha,hb,hx,hz,q1,q2⟩:=h
 cases rx
 cases ry
 obtain⟨its,r1,p1,_⟩:=I.tuple ha
 obtain⟨its2,r2,p2,_⟩:=I.tuple hb
 refine HT.Oo p1 p2 (fun z=>hx (r1.BR.mp z)) (fun z=>⟨.ref a,H,I,rfl,q1 (r2.BR.mp z)⟩) (fun z=>?_) (by rw[<- r1.length,<- r2.length];exact hz)
 refine⟨.ref s.heap.objs.size,_,I.laid (t':=s.toks) (o:=.tup (xs++ys)) (fun b ob q=>Heap.get?_push_of_some _ q) (Nat.le_refl _) ?_,rfl,q2 (fun w=>z (r2.BR.mpr w)) _ (I.hok.fresh (Nat.le_refl _))⟩
 exact⟨by rw[length_append];exact hz,_,r1.append r2,IsTup.new _ _⟩
end
end L2
namespace L2
open PySem PySem.Spec PyProof.Rows
noncomputable def ixN(n:Nat)(i:Int):Option Nat:=if 0<=i then (if i<n then some i.toNat else none) else if -(n:Int)<=i then some (i+n).toNat else none
noncomputable def atI{α:Type}(xs:List α)(i:Int):Option α:=(ixN xs.length i).bind fun j=>xs[j]?
theorem IV{n:Nat}{i:Int}{j:Nat}(h:ixN n i=some j):seqIndex? i n=some j/\j<n/\-(n:Int)<=i/\i<n:=by
 unfold ixN at h
 by_cases h0:0<=i
 ·rw[if_pos h0] at h
  by_cases h1:i<n
  ·rw[if_pos h1] at h
   have e:i.toNat=j:=Option.some.inj h
   exact⟨by rw[seqIndex_of h0 h1,e],∅,∅,h1⟩
  ·rw[if_neg h1] at h;cases h
 ·rw[if_neg h0] at h
  by_cases h1:-(n:Int)<=i
  ·rw[if_pos h1] at h
   have e:(i+n).toNat=j:=Option.some.inj h
   exact⟨by rw[seqIndex_neg ∅ h1,e],∅,h1,∅⟩
  ·rw[if_neg h1] at h;cases h
theorem C8{α:Type}{xs:List α}{i:Int}{v:α}(h:atI xs i=some v):∃j,seqIndex? i xs.length=some j/\xs[j]? = some v/\j<xs.length/\-(xs.length:Int)<=i/\i<xs.length:=by
 unfold atI at h
 cases e:ixN xs.length i with
 |none=>rw[e] at h;cases h
 |some j=>
  rw[e] at h
  obtain⟨h1,h2,h3,h4⟩:=IV e
  exact⟨j,h1,h,h2,h3,h4⟩
theorem xR{α:Type}{xs:List α}{j:Nat}{v:α}(h:xs[j]? = some v):atI xs (j:Int)=some v:=by
 have hj:j<xs.length:=(List.getElem?_eq_some_iff.mp h).1
 have e:ixN xs.length (j:Int)=some j:=by
  unfold ixN
  rw[if_pos ∅,if_pos ∅];simp
 unfold atI;rw[e];exact h
noncomputable def Jm(b:Expr):Prop:=∀o i,subscripted b false o i=operate [o,i] (getItem o i)
noncomputable def IxR(X:Cx)(r:R2):Prop:=
 ∀(value slice:Expr) (pins:List (Addr×Obj)) (s:Shared) (σ:St) (H:Hp) (x y:V) (v u:Value) (Q:VK),Inv X pins σ H s->RelV x v->RelV y u->r x y H Q ->
  subscripted slice false v u=operate [v,u] (getItem v u)->wpAny (model X.prog X.w) X.A (subscriptTail value slice v u) (EP X pins σ Q) X.xe s
noncomputable def MtR(X:Cx)(id:String)(r:V->List V->Hp->VK->Prop):Prop:=
 ∀(pins:List (Addr×Obj)) (s:Shared) (σ:St) (H:Hp) (x:V) (xs:List V) (v:Value) (us:List Value) (Q:VK),Inv X pins σ H s->RelV x v->Vals xs us->r x xs H Q ->
  wpAny (model X.prog X.w) X.A (call (.builtin id) (v::us)) (EP X pins σ Q) X.xe s
section
variable {X:Cx}{a b:Expr}{ta tb:TE}{pos:Pos}
theorem IxR.or{r r':R2}(h:IxR X r)(h':IxR X r'):IxR X (fun x y H Q=>r x y H Q\/r' x y H Q):=by
 intro value slice pins s σ H x y v u Q I rx ry q hs
 rcases q with q|q
 ·exact h value slice pins s σ H x y v u Q I rx ry q hs
 ·exact h' value slice pins s σ H x y v u Q I rx ry q hs
theorem R4{r:R2}(hr:IxR X r)(ha:PE X a ta)(hb:PE X b tb)(hs:Jm b):PE X (.Subscript a b pos) (tOp r ta tb):=by
 intro pins s σ H Q I h
 exact Subscript_ (QB ha hb I h fun v u s2 x y H2 I2 rx ry q=>hr a b pins s2 σ H2 x y v u Q I2 rx ry q (hs _ _))
noncomputable def RI(K:PySem.W.Frag):R2:=fun x y H Q=>∃p xs i v,x = .ref p/\y = .int i/\SqL K H p xs/\atI xs i=some v/\Q v H
noncomputable def Sw(K:PySem.W.Frag):R2:=fun x y H Q=>∃p xs i v,x = .ref p/\y = .int i/\SqT K H p xs/\atI xs i=some v/\Q v H
noncomputable def Ru:R2:=fun x y H Q=>∃z i c,x = .str z/\y = .int i/\z.length<=sizeLine/\atI z.cps.toList i=some c/\Q (.str ⟨#[c]⟩) H
theorem NV:IxR X (RI X.K):=by
 intro value slice pins s σ H x y v u Q I rx ry h hs
 obtain⟨p,xs,i,z,rfl,rfl,hq,he,q⟩:=h
 cases rx
 obtain⟨t,rfl⟩:=ry
 obtain⟨its,r,pl,hz⟩:=I.list hq
 obtain⟨j,h1,h2,h3,h4,h5⟩:=C8 he
 obtain⟨w,ew,rw'⟩:=r.get h2
 have hl:=r.length
 have hn:=zO
 have fin:EP X pins σ Q w s:=⟨z,H,I,rw',q⟩
 by_cases h0:0<=i
 ·have hj:i.toNat=j:=by
   rw[seqIndex_of h0 h5] at h1
   exact Option.some.inj h1
  exact item_listR pl.isList h0 ∅ (by rw[hj];simpa using ew) fin hs
 ·have hj:(i+(its.toArray.size:Int)).toNat=j:=by
   rw[seqIndex_neg ∅ h4] at h1
   rw[size_toArray,<- hl]
   exact Option.some.inj h1
  exact subscriptTail_builtinR (x:=w) pl.isList.typeIs slot_list_getitem.lookup
   (wpAny_getItem_list_neg (Q:=fun r s'=>r=w/\EP X pins σ Q r s') pl.isList ∅ (by rw[size_toArray]<;>omega) ∅ (by rw[hj];simpa using ew) ⟨rfl,fin⟩) hs
theorem Pl:IxR X (Sw X.K):=by
 intro value slice pins s σ H x y v u Q I rx ry h hs
 obtain⟨p,xs,i,z,rfl,rfl,hq,he,q⟩:=h
 cases rx
 obtain⟨t,rfl⟩:=ry
 obtain⟨its,r,pl,hz⟩:=I.tuple hq
 obtain⟨j,h1,h2,h3,h4,h5⟩:=C8 he
 obtain⟨w,ew,rw'⟩:=r.get h2
 have hl:=r.length
 have hn:=zO
 have fin:EP X pins σ Q w s:=⟨z,H,I,rw',q⟩
 exact subscriptTail_builtinR (x:=w) pl.typeIs slot_tuple_getitem.lookup
  (getItem_tuple (j:=j) (Q:=fun r s'=>r=w/\EP X pins σ Q r s') pl ∅ ∅ (by rw[size_toArray,<- hl];exact h1) (by simpa using ew) ⟨rfl,fin⟩) hs
theorem O7:IxR X Ru:=by
 intro value slice pins s σ H x y v u Q I rx ry h hs
 obtain⟨z,i,c,rfl,rfl,hz,he,q⟩:=h
 obtain⟨t,rfl⟩:=rx
 obtain⟨t',rfl⟩:=ry
 obtain⟨j,h1,h2,h3,h4,h5⟩:=C8 he
 have hl:z.cps.toList.length=z.length:=by simp[Str.length]
 rw[hl] at h1 h4 h5
 have hn:=zO
 exact tail_any (typeIs_str s z t) slot_str_getitem.lookup (getItem_str (c:=c) (by
  have e1:decide (i < -(2 ^ 63:Int))=false:=decide_eq_false ∅
  have e2:decide (i ≥ 2 ^ 63)=false:=decide_eq_false ∅
  rw[e1,e2,Bool.or_false]) (by rw[h1];simpa using h2) ⟨.str ⟨#[c]⟩,H,I.tok _,⟨_,rfl⟩,q⟩) hs
noncomputable def rIx(K:PySem.W.Frag):R2:=fun x y H Q=>RI K x y H Q\/Sw K x y H Q\/Ru x y H Q
theorem Q2:IxR X (rIx X.K):=NV.or (Pl.or O7)
theorem Gy(its:List Value)(n j:Nat)(u:Value):Obj.mapSeq (·.setIfInBounds j u) {cls:=.type "list",data:=.seq its.toArray n} = {cls:=.type "list",data:=.seq (its.set j u).toArray n}:=by
 simp[Obj.mapSeq]
theorem Inv.lst{pins:List (Addr×Obj)}{σ:St}{H:Hp}{s:Shared}{p:Addr}{xs:List V}(I:Inv X pins σ H s)(h:H p=some (.lst xs)) :
  ∃(its:List Value) (n:Nat),Vals xs its/\s.heap.get? p=some {cls:=.type "list",data:=.seq its.toArray n}/\xs.length<=sizeLine:=by
 obtain⟨z,its,n,r,e⟩:=I.hok p _ h
 exact⟨its,n,r,e,z⟩
theorem Inv.Pr{pins:List (Addr×Obj)}{σ:St}{H:Hp}{s:Shared}{p:Addr}{xs ys:List V}{its its':List Value}{n n':Nat}{f:Obj->Obj}(I:Inv X pins σ H s)(h:H p=some (.lst xs))
  (ho:s.heap.get? p=some {cls:=.type "list",data:=.seq its.toArray n}) (hf:f {cls:=.type "list",data:=.seq its.toArray n} = {cls:=.type "list",data:=.seq its'.toArray n'}) (r:Vals ys its') (hz:ys.length<=sizeLine) (t:Nat) :
  Inv X pins σ (upd H p (.lst ys)) {s with heap:=s.heap.update p f,toks:=t}:=by
 have e:(s.heap.update p f).get? p=some {cls:=.type "list",data:=.seq its'.toArray n'}:=by
  rw[Heap.get?_update_self f ho (by rw[hf]<;>rfl),hf]
 refine I.write (x:=p) (e:=p) (by rw[h];trivial) (.inl rfl) (fun b u hb q=>(Heap.get?_update_other _ _ (Ne.symm hb)).trans q) ⟨_,e⟩ ?_
 exact⟨hz,its',n',r,e⟩
noncomputable def Rq:V->V->V->Hp->(Hp->Prop)->Prop:=fun o i v H Q=>∃p xs k j,o = .ref p/\i = .int k/\H p=some (.lst xs)/\ixN xs.length k=some j/\Q (upd H p (.lst (xs.set j v)))
theorem set_list:Si X Rq:=by
 intro pins s σ H o i v ov iv u Q I ro ri rv h
 obtain⟨p,xs,k,j,rfl,rfl,hp,hj,q⟩:=h
 cases ro
 obtain⟨t,rfl⟩:=ri
 obtain⟨its,n,r,ho,hz⟩:=I.lst hp
 obtain⟨h1,h2,h3,h4⟩:=IV hj
 have hl:=r.length
 have hn:=zO
 have I':Inv X pins σ (upd H p (.lst (xs.set j v))) {s with heap:=s.heap.update p (Obj.mapSeq (·.setIfInBounds j u))}:=
  I.Pr hp ho (Gy its n j u) (r.set rv j) (by rw[List.length_set];exact hz) s.toks
 by_cases h0:0<=k
 ·have hk:k.toNat=j:=by
   rw[seqIndex_of h0 h4] at h1
   exact Option.some.inj h1
  exact PySem.W.ki_setAt ho h0 ∅ (by rw[size_toArray,<- hl];exact h4) (by rw[hk];exact⟨_,I',q⟩)
 ·have hk:(k+(its.toArray.size:Int)).toNat=j:=by
   rw[seqIndex_neg ∅ h3] at h1
   rw[size_toArray,<- hl]
   exact Option.some.inj h1
  exact PySem.W.ki_setBack ho ∅ (by rw[size_toArray,<- hl];exact h3) ∅ (by rw[hk];exact⟨_,I',q⟩)
theorem Cj(lo hi:Option Int)(n:Nat):(sliceBounds lo hi none n).1=((HT.sIx n 0 lo:Nat):Int)/\(sliceBounds lo hi none n).2.1=((HT.sIx n n hi:Nat):Int)/\(sliceBounds lo hi none n).2.2=1:=by
 refine⟨?_,?_,rfl⟩
 ·cases lo with
  |none=>simp[sliceBounds,HT.sIx]
  |some i=>
   simp only[sliceBounds,HT.sIx,Option.getD_none,show (1:Int)>0 by decide,if_true]
   by_cases h:i<0
   ·simp only[h,if_true]<;>omega
   ·simp only[h,if_false]<;>omega
 ·cases hi with
  |none=>simp[sliceBounds,HT.sIx]
  |some i=>
   simp only[sliceBounds,HT.sIx,Option.getD_none,show (1:Int)>0 by decide,if_true]
   by_cases h:i<0
   ·simp only[h,if_true]<;>omega
   ·simp only[h,if_false]<;>omega
theorem A4(its:List Value)(lo hi:Option Int):slicePick its.toArray lo hi none=((its.drop (HT.sIx its.length 0 lo)).take (HT.sIx its.length its.length hi-HT.sIx its.length 0 lo)).toArray:=by
 obtain⟨h1,h2,h3⟩:=Cj lo hi its.toArray.size
 unfold slicePick
 rw[h1,h2,h3]
 simp only[sliceRange_one,pick_run,size_toArray]<;>rfl
noncomputable def SH(K:PySem.W.Frag):V->Option Int->Option Int->Hp->VK->Prop:=fun x lo hi H Q=>∃a xs,x = .ref a/\SqL K H a xs/\∀p,H p=none->Q (.ref p) (upd H p (.lst (Ck xs lo hi)))
theorem Ox:SlR X (SH X.K):=by
 intro pins s σ H x v vl vu lo hi sl Q I rx hs pl pu h
 obtain⟨a,xs,rfl,hx,q⟩:=h
 cases rx
 obtain⟨its,r,ht,hz⟩:=I.list hx
 have hlen:=r.length
 refine⟨"list",_,slot_list_getitem.lookup,ht.isList.typeIs,?_⟩
 refine wpAny_getItem_list_slice ht.isList hs pl pu .none (by simp) ?_ (by rw[size_toArray]<;>omega)
 rw[A4,<- hlen]
 refine⟨.ref s.heap.objs.size,_,I.laid (t':=s.toks) (o:=.lst (Ck xs lo hi)) (fun b ob q=>Heap.get?_push_of_some _ q) (Nat.le_refl _) ?_,rfl,q _ (I.hok.fresh (Nat.le_refl _))⟩
 exact⟨le_trans (wK xs lo hi) hz,_,0,(r.drop (HT.sIx xs.length 0 lo)).take (HT.sIx xs.length xs.length hi-HT.sIx xs.length 0 lo),Heap.get?_push_size _ rfl⟩
theorem CI:j5 X (.builtin "len") (fun xs H Q=>∃p ys,xs=[.ref p]/\(SqL X.K H p ys\/SqT X.K H p ys)/\Q (.int ys.length) H):=by
 intro pins s σ H xs us Q I r h
 obtain⟨p,ys,rfl,hq,q⟩:=h
 obtain⟨u,rfl,rx⟩:=vals1 r
 cases rx
 have hn:=zO
 rcases hq with hq|hq
 ·obtain⟨its,r',pl,hz⟩:=I.list hq
  have hlen:=r'.length
  exact Calls.call_len_list pl.isList (by simp only[size_toArray]<;>omega) ⟨.int ys.length,H,I.tok _,⟨s.toks+1,by rw[size_toArray,hlen]⟩,q⟩
 ·obtain⟨its,r',pl,hz⟩:=I.tuple hq
  have hlen:=r'.length
  exact len_tuple pl (by simp only[size_toArray]<;>omega) ⟨.int ys.length,H,I.tok _,⟨s.toks+1,by rw[size_toArray,hlen]⟩,q⟩
theorem CF:j5 X (.type "list") (fun xs H Q=>∃p ys,xs=[.ref p]/\(SqL X.K H p ys\/SqT X.K H p ys)/\∀l,H l=none->Q (.ref l) (upd H l (.lst ys))):=by
 intro pins s σ H xs us Q I r h
 obtain⟨p,ys,rfl,hq,q⟩:=h
 obtain⟨u,rfl,rx⟩:=vals1 r
 cases rx
 have fin:∀(its:List Value),Vals ys its->ys.length<=sizeLine->∀(h':Heap) (c':Nat),(∀b o',s.heap.get? b=some o'->h'.get? b=some o') ->
   h'.get? s.heap.objs.size=some {cls:=.type "list",dict:=none,data:=.seq its.toArray c',slots:=#[]}->EP X pins σ Q (.ref s.heap.objs.size) {s with heap:=h'}:=fun its r' hz h' c' kp e=>
  ⟨.ref s.heap.objs.size,_,I.laid (t':=s.toks) kp (Nat.le_refl _) (show jD X.prog X.w _ h' _ (.lst ys) from ⟨hz,its,c',r',e⟩),rfl,q _ (I.hok.fresh (Nat.le_refl _))⟩
 rcases hq with hq|hq
 ·obtain⟨its,r',pl,hz⟩:=I.list hq
  have hlen:=r'.length
  obtain⟨o,ho,hc,n,hd⟩:=pl.isList
  exact call_list_seq p (.inl rfl) ho hc hd (fun h' c' kp e=>fin its r' hz h' c' kp e) (by simp only[size_toArray]<;>omega)
 ·obtain⟨its,r',pl,hz⟩:=I.tuple hq
  have hlen:=r'.length
  obtain⟨o,ho,hc,n,hd⟩:=pl
  exact call_list_seq p (.inr rfl) ho hc hd (fun h' c' kp e=>fin its r' hz h' c' kp e) (by simp only[size_toArray]<;>omega)
theorem An:j5 X (.type "tuple") (fun xs H Q=>∃p ys,xs=[.ref p]/\((SqL X.K H p ys/\∀l,H l=none->Q (.ref l) (upd H l (.tup ys)))\/(SqT X.K H p ys/\Q (.ref p) H))):=by
 intro pins s σ H xs us Q I r h
 obtain⟨p,ys,rfl,h⟩:=h
 obtain⟨u,rfl,rx⟩:=vals1 r
 cases rx
 rcases h with ⟨hq,q⟩|⟨hq,q⟩
 ·obtain⟨its,r',pl,hz⟩:=I.list hq
  have hlen:=r'.length
  refine call_tuple_list pl.isList (fun h' kp=>?_) (by simp only[size_toArray]<;>omega)
  have I1:Inv X pins σ H {s with heap:=h'}:=I.kept (t':=s.toks) kp
  have I2:Inv X pins σ (upd H h'.objs.size (.tup ys)) {s with heap:=h'.push {cls:=.type "tuple",data:=.seq its.toArray}}:=
   I1.laid (t':=s.toks) (fun b o e=>Heap.get?_push_of_some _ e) (Nat.le_refl _) (show jD X.prog X.w _ _ _ (.tup ys) from ⟨hz,its,r',IsTup.new _ _⟩)
  exact⟨.ref h'.objs.size,_,I2,rfl,q _ (I1.hok.fresh (Nat.le_refl _))⟩
 ·obtain⟨its,r',pl,hz⟩:=I.tuple hq
  exact call_tuple_same pl ⟨.ref p,H,I,rfl,q⟩
noncomputable def tyV(K:PySem.W.Frag)(T:String)(x:V)(H:Hp):Prop:=match x with
 |.str _=>T = "str"
 |.int _=>T = "int"
 |.ref p=>(T = "list"/\∃xs,SqL K H p xs)\/(T = "tuple"/\∃o,K.lookup p=some o/\o.cls = .type "tuple"/\o.dict=none) \/
   (T = "dict"/\((∃kvs,H p=some (.dK kvs))\/∃kvs,H p=some (.dT kvs)))\/(T = "set"/\∃S n,H p=some (.set S n))
 |_=>False
theorem Qv{pins:List (Addr×Obj)}{σ:St}{H:Hp}{s:Shared}{T:String}{x:V}{v:Value}(I:Inv X pins σ H s)(r:RelV x v)(ty:tyV X.K T x H) :
  s.TypeIs v T/\∀a,v = .ref a->∃ob,s.heap.get? a=some ob/\ob.dict=none:=by
 cases x with
 |str z=>
  obtain⟨t,rfl⟩:=r
  cases (show T = "str" from ty)
  exact⟨typeIs_str s z t,fun _ e=>nomatch e⟩
 |int i=>
  obtain⟨t,rfl⟩:=r
  cases (show T = "int" from ty)
  exact⟨typeIs_int s i t,fun _ e=>nomatch e⟩
 |ref p=>
  cases r
  rcases ty with ⟨rfl,xs,hq⟩|⟨rfl,o,hk,hc,hd⟩|⟨rfl,hk⟩|⟨rfl,S,n,hk⟩
  ·obtain⟨its,_,pl,_⟩:=I.list hq
   refine⟨pl.isList.typeIs,fun a e=>?_⟩
   cases e
   obtain⟨o,n,e,c,hd,_⟩:=pl
   exact⟨o,e,hd⟩
  ·refine⟨⟨o,I.kIn p o hk,hc⟩,fun a e=>?_⟩
   cases e
   exact⟨o,I.kIn _ o hk,hd⟩
  ·have z:∃o,s.heap.get? p=some o/\o.ExactDict:=by
    rcases hk with ⟨kvs,hk⟩|⟨kvs,hk⟩
    ·obtain⟨_,_,_,_,o,_,_,e,ex,_⟩:=I.hok p _ hk
     exact⟨o,e,ex⟩
    ·obtain⟨_,_,_,_,o,_,_,e,ex,_⟩:=I.hok p _ hk
     exact⟨o,e,ex⟩
   obtain⟨o,e,ex⟩:=z
   refine⟨⟨o,e,ex.1⟩,fun a e2=>?_⟩
   cases e2
   exact⟨o,e,ex.2.1⟩
  ·obtain⟨o,_,_,_,e,ex,_⟩:=I.hok p _ hk
   refine⟨⟨o,e,ex.1⟩,fun a e2=>?_⟩
   cases e2
   exact⟨o,e,ex.2.1⟩
 |_=>exact False.elim ty
noncomputable def tBM(K:PySem.W.Frag)(T:String)(r:V->List V->Hp->VK->Prop)(to:TE)(t:TA):TE:=fun σ H Q=>to σ H fun x H1=>tyV K T x H1/\t σ H1 fun xs H2=>r x xs H2 Q
variable {o e:Expr}{es:List Expr}{to:TE}{t:TA}{name:Str}{apos cpos:Pos}{T id:String}{r:V->List V->Hp->VK->Prop}
theorem HX(pa:PlainAttrs T)(slot:Slot T name id)(hty:typeOf (.builtin id)=pure (.type "method_descriptor"))(hm:MtR X id r)(ho:PE X o to)(ha:PA X (e::es) t)
  (hbase:attributeBase o name X.env (eval o X.env)=eval o X.env:=by rfl)
  (hfew:((backTo cpos (starEach (e::es) X.env)).all (fun x=>!x.1)&&(backToKw cpos (keywordEach [] X.env)).all (fun x=>x.1.isSome)
   && decide ((e::es).length+([]:List Keyword).length+(if ([]:List Keyword).isEmpty then 0 else 1)<30))=true:=by rfl)
  (hline:(apos.endLine==cpos.line)=true:=by rfl) (hs:starEach (e::es) X.env=(false,eval e X.env)::starEach es X.env:=by rfl) (hplain:(backTo cpos (starEach es X.env)).any (·.1)=false:=by rfl) :
  PE X (.Call (.Attribute o name apos) (e::es) [] cpos) (tBM X.K T r to t):=by
 intro pins s σ H Q I h
 refine wpAny_Call_method_late hbase hfew hline rfl (thn (ho pins s σ H _ I h) fun v s1 hq0=>?_)
 obtain⟨x,H1,I1,r1,ty,q1⟩:=hq0
 obtain⟨h1,h2⟩:=Qv I1 r1 ty
 refine⟨T,id,pa,slot,hty,h1,h2,?_⟩
 have hA:=ha cpos pins s1 σ H1 _ I1 q1
 rw[hs] at hA ⊢
 refine Calls.callWith_builtin (by show (false || (backTo cpos (starEach es X.env)).any (·.1))=false;rw[hplain]<;>rfl) (Calls.evalArgs_plain ?_)
 exact thn hA fun us s2 ⟨vs,H2,I2,r2,q2⟩=>hm pins s2 σ H2 x vs v us Q I2 r1 r2 q2
end
end L2
namespace L2
open PySem PySem.Spec PyProof.Rows
noncomputable def MtM(X:Cx)(id:String)(r:V->List V->Hp->VK->Prop):Prop:=
 ∀(pins:List (Addr×Obj)) (s:Shared) (σ:St) (H:Hp) (x:V) (xs:List V) (v:Value) (us:List Value) (Q:VK),Inv X pins σ H s->RelV x v->Vals xs us->r x xs H Q ->
  wpAny (model X.prog X.w) X.A (call (.builtin id) (v::us)) (EP X pins σ Q) X.xe s
theorem Vals.one:∀{x:V} {us:List Value},Vals [x] us->∃u,us=[u]/\RelV x u
 |_,_,.cons r .nil=>⟨_,rfl,r⟩
theorem Vals.eraseIdx:∀{xs:List V} {us:List Value} (i:Nat),Vals xs us->Vals (xs.eraseIdx i) (us.eraseIdx i)
 |_,_,_,.nil=>.nil
 |_,_,0,.cons _ t=>t
 |_,_,i+1,.cons r t=>.cons r (Vals.eraseIdx i t)
theorem Vals.rep{xs:List V}{us:List Value}(h:Vals xs us):∀k:Nat,Vals (List.replicate k xs).flatten (List.replicate k us).flatten
 |0=>.nil
 |k+1=>by
  rw[replicate_succ,replicate_succ,flatten_cons,flatten_cons]
  exact Vals.append h (Vals.rep h k)
theorem Bf{α:Type}:∀(l:List α) (i:Nat),(l.eraseIdx i).length<=l.length
 |[],_=>Nat.le_refl _
 |_::_,0=>Nat.le_succ _
 |_::r,i+1=>Nat.succ_le_succ (Bf r i)
theorem foldl_rep(its:List Value):∀(k:Nat) (acc:List Value),
  List.foldl (fun x1 x2=>x1++x2) acc.toArray (List.replicate k its.toArray)=(acc++(List.replicate k its).flatten).toArray
 |0,acc=>by simp
 |k+1,acc=>by
  have e:acc.toArray++its.toArray=(acc++its).toArray:=by simp
  have e2:(acc++its)++(List.replicate k its).flatten=acc++(List.replicate (k+1) its).flatten:=by
   rw[replicate_succ,flatten_cons,append_assoc]
  rw[<- e2,<- foldl_rep its k (acc++its),<- e,replicate_succ,List.foldl_cons]
section
variable {X:Cx}{pins:List (Addr×Obj)}{σ:St}{H:Hp}{s:Shared}{l b:Addr}{xs ys zs:List V}
theorem Inv.NU{its its':List Value}{n:Nat}{f:Array Value->Array Value}{t':Nat}(I:Inv X pins σ H s)(hH:H l=some (.lst xs))
  (e:s.heap.get? l=some {cls:=.type "list",data:=.seq its.toArray n}) (hf:f its.toArray=its'.toArray) (hv:Vals ys its') (hz:ys.length<=sizeLine) :
  Inv X pins σ (upd H l (.lst ys)) {s with heap:=s.heap.update l (Obj.mapSeq f),toks:=t'}:=by
 have q:=PySem.IsL.update e f
 rw[hf] at q
 refine I.write (x:=l) (e:=l) (by rw[hH];exact trivial) (.inl rfl) (fun b' u hb hu=>(Heap.get?_update_other s.heap (Obj.mapSeq f) (Ne.symm hb)).trans hu) ⟨_,q⟩ ?_
 exact⟨hz,its',_,hv,q⟩
theorem Inv.Ry{its:List Value}{t':Nat}(I:Inv X pins σ H s)(hv:Vals ys its)(hz:ys.length<=sizeLine) :
  Inv X pins σ (upd H s.heap.objs.size (.lst ys)) {s with heap:=s.heap.push {cls:=.type "list",data:=.seq its.toArray},toks:=t'}:=
 I.laid (fun _ _ q=>Heap.get?_push_of_some _ q) (Nat.le_refl _) ⟨hz,its,0,hv,Heap.get?_push_size _ rfl⟩
theorem Inv.fresh(I:Inv X pins σ H s):H s.heap.objs.size=none:=I.hok.fresh (Nat.le_refl _)
theorem Inv.FL(I:Inv X pins σ H s)(hH:H l=some (.lst xs)):xs.length<=sizeLine/\∃(its:List Value) (n:Nat),Vals xs its/\xs.length=its.length/\s.heap.get? l=some {cls:=.type "list",data:=.seq its.toArray n}:=by
 obtain⟨z,its,n,r,e⟩:=I.hok l _ hH
 exact⟨z,its,n,r,r.length,e⟩
theorem Eu{n:Nat}(h:n<=sizeLine):Builtin.List.listTooLong n=false:=by
 unfold Builtin.List.listTooLong
 exact decide_eq_false ∅
end
section
variable {X:Cx}
noncomputable def NY:V->List V->Hp->VK->Prop:=fun x vs H Q=>∃l xs y,x = .ref l/\vs=[y]/\H l=some (.lst xs)/\xs.length<sizeLine/\Q .non (upd H l (.lst (xs++[y])))
theorem qS:MtM X "list.append" NY:=by
 intro pins s σ H x vs v us Q I rx rv h
 obtain⟨l,xs,y,rfl,rfl,hH,hz,q⟩:=h
 cases rx
 obtain⟨u,rfl,ru⟩:=rv.one
 obtain⟨z,its,n,r,hl,e⟩:=I.FL hH
 refine call_meets F.slot_list_append ⟨_,e,rfl⟩ F.entry_list_append (F.args_list_append_2 _ _) (PySem.list_append l its.toArray n u (by rw[size_toArray];omega)) ⟨e,?_⟩
 refine⟨.non,_,I.NU (its':=its++[u]) hH e (by simp) (r.append (.cons ru .nil)) ?_,rfl,q⟩
 rw[length_append,List.length_singleton]
 omega
noncomputable def NB:V->List V->Hp->VK->Prop:=fun x vs H Q=>∃l b xs zs,x = .ref l/\vs=[.ref b]/\H l=some (.lst xs)/\H b=some (.lst zs)/\xs.length+zs.length<=sizeLine/\Q .non (upd H l (.lst (xs++zs)))
theorem Ke:MtM X "list.extend" NB:=by
 intro pins s σ H x vs v us Q I rx rv h
 obtain⟨l,b,xs,zs,rfl,rfl,hH,hB,hz,q⟩:=h
 cases rx
 obtain⟨u,rfl,ru⟩:=rv.one
 cases ru
 obtain⟨z,its,n,r,hl,e⟩:=I.FL hH
 obtain⟨z2,its2,n2,r2,hl2,e2⟩:=I.FL hB
 have hsz:its.toArray.size+its2.toArray.size<=sizeLine:=by rw[size_toArray,size_toArray];omega
 have hlong:¬ (!its.toArray.isEmpty&&Builtin.List.listTooLong (its.toArray.size+its2.toArray.size))=true:=by
  rw[Eu hsz,Bool.and_false]
  exact Bool.false_ne_true
 refine call_meets F.slot_list_extend ⟨_,e,rfl⟩ F.entry_list_extend (F.args_list_extend_2 _ _)
  (AutoSeq1.list_extend_list_list_0 l its.toArray n b its2.toArray n2 hlong (by rw[size_toArray];omega) ∅) ⟨e,e2,?_⟩
 refine⟨.non,_,I.NU (its':=its++its2) hH e (by simp) (r.append r2) ?_,rfl,q⟩
 rw[length_append]
 omega
noncomputable def Q7:V->List V->Hp->VK->Prop:=fun x vs H Q=>∃l xs i k y,x = .ref l/\vs=[.int i]/\H l=some (.lst xs)/\-(2 ^ 63)<=i/\i<2 ^ 63/\seqIndex? i xs.length=some k/\xs[k]? = some y/\Q y (upd H l (.lst (xs.eraseIdx k)))
theorem L1:MtM X "list.pop" Q7:=by
 intro pins s σ H x vs v us Q I rx rv h
 obtain⟨l,xs,i,k,y,rfl,rfl,hH,h1,h2,hk,hy,q⟩:=h
 cases rx
 obtain⟨u,rfl,ru⟩:=rv.one
 obtain⟨t,rfl⟩:=ru
 obtain⟨z,its,n,r,hl,e⟩:=I.FL hH
 obtain⟨w,hw,rw'⟩:=r.get hy
 refine call_meets F.slot_list_pop ⟨_,e,rfl⟩ F.entry_list_pop (F.args_list_pop_2 _ _)
  (MeetsSeq.list_pop_at l its.toArray n i t k w (fitsIndex_both h1 h2) (by rw[size_toArray,<- hl];exact hk) (by rw[<- Array.getElem?_toList];exact hw) (by rw[size_toArray];omega)) ⟨e,?_⟩
 refine⟨y,_,I.NU (its':=its.eraseIdx k) hH e ?_ (r.eraseIdx k) ?_,rw',q⟩
 ·show its.toArray.eraseIdxIfInBounds k=(its.eraseIdx k).toArray
  rw[List.eraseIdxIfInBounds_toArray]
 ·have:=Bf xs k
  omega
noncomputable def Qp:R2:=fun x y H Q=>∃l b xs zs,x = .ref l/\y = .ref b/\H l=some (.lst xs)/\H b=some (.lst zs)/\xs.length+zs.length<=sizeLine/\∀p,H p=none->Q (.ref p) (upd H p (.lst (xs++zs)))
theorem Pg:OpR X (binaryOp .Add) Qp:=by
 intro pins s σ H x y v u Q I rx ry h
 obtain⟨l,b,xs,zs,rfl,rfl,hH,hB,hz,q⟩:=h
 cases rx
 cases ry
 obtain⟨z,its,n,r,hl,e⟩:=I.FL hH
 obtain⟨z2,its2,n2,r2,hl2,e2⟩:=I.FL hB
 refine PySem.P.add_list e e2 ?_ (by rw[size_toArray,size_toArray];omega)
 have ea:its.toArray++its2.toArray=(its++its2).toArray:=by simp
 rw[ea]
 exact⟨.ref _,_,I.Ry (t':=s.toks) (r.append r2) (by rw[length_append];omega),rfl,q _ I.fresh⟩
noncomputable def Se:R2:=fun x y H Q=>∃l k xs,x = .ref l/\y = .int k/\H l=some (.lst xs)/\-(2 ^ 63)<=k/\k<2 ^ 63/\xs.length*k.toNat<=sizeLine /\
 ∀p,H p=none->Q (.ref p) (upd H p (.lst (List.replicate k.toNat xs).flatten))
theorem len_rep{α:Type}(xs:List α)(k:Nat):(List.replicate k xs).flatten.length=k*xs.length:=by
 induction k with
 |zero=>simp
 |succ k ih=>rw[replicate_succ,flatten_cons,length_append,ih,Nat.succ_mul,Nat.add_comm]
theorem O5:OpR X (binaryOp .Mult) Se:=by
 intro pins s σ H x y v u Q I rx ry h
 obtain⟨l,k,xs,rfl,rfl,hH,h1,h2,hz,q⟩:=h
 cases rx
 obtain⟨t,rfl⟩:=ry
 obtain⟨z,its,n,r,hl,e⟩:=I.FL hH
 have hlen:its.toArray.size*k.toNat<=sizeLine:=by rw[size_toArray,<- hl];exact hz
 have hcap:¬ its.toArray.size*k.toNat>(2 ^ 63-1) / 8:=by
  have:(sizeLine:Nat)<=(2 ^ 63-1) / 8:=by decide
  omega
 have hfit:¬ (!Builtin.List.listFitsIndex k)=true:=by
  rw[fitsIndex_both h1 h2]
  exact Bool.false_ne_true
 have hlong:¬ Builtin.List.listTooLong (its.toArray.size*k.toNat)=true:=by
  rw[Eu hlen]
  exact Bool.false_ne_true
 have hnew:List.foldl (fun x1 x2=>x1++x2) #[] (List.replicate (if its.toArray.isEmpty=true then 0 else k.toNat) its.toArray)=(List.replicate k.toNat its).flatten.toArray:=by
  have f0:∀m:Nat,List.foldl (fun x1 x2=>x1++x2) #[] (List.replicate m its.toArray)=(List.replicate m its).flatten.toArray:=fun m=>by
   have:=foldl_rep its m []
   rw[List.nil_append] at this
   exact this
  rw[f0]
  cases its with
  |nil=>simp
  |cons a r'=>rw[if_neg (by simp)]
 refine wpAny_binaryOp_repeat_ref (T:="list") (U:="int") ⋯ ⟨_,e,rfl⟩ (fun s'=>typeIs_int s' k t) noFill_list_mul F.fills_int_mul F.slot_int_rmul repeat_list F.slot_int_index.lookup
  (call_meets F.slot_int_rmul (typeIs_int s k t) F.entry_int_rmul (F.args_int_rmul_2 _ _) (int___rmul___int_list k t l its.toArray n)
   ⟨e,rfl,⟨_,e,rfl⟩,call_meets F.slot_list_mul ⟨_,e,rfl⟩ F.entry_list_mul (F.args_list_mul_2 _ _) (AutoListH.list___mul___list_int_3 l its.toArray n k t hfit hcap hlong) ⟨e,?_⟩⟩)
 rw[hnew]
 exact⟨.ref _,_,I.Ry (t':=s.toks) (r.rep k.toNat) (by rw[len_rep,Nat.mul_comm];exact hz),rfl,q _ I.fresh⟩
end
end L2
namespace Att
open PySem PySem.W PySem.Calls PyProof.Rows
theorem xM{P:Params}{h:Heap}:∀(ns:List Int) (vs:List Value),WellAll P h vs (ns.map WData.int)->IntsAre vs ns:=by
 intro ns
 induction ns with
 |nil=>
  intro vs w
  rw[map_nil] at w
  cases w
  exact .nil
 |cons n ns ih=>
  intro vs w
  rw[map_cons] at w
  cases w with
  |cons a b=>
   cases a
   exact .cons _ _ (ih _ b)
theorem JZ{l:OpenLaw}{n:Nat}(hn:l.most=some n){P:Params}{h:Heap}{args:List WData}{vals:List Value}
  (hpre:l.row.toRowW.claim.pre args=true) (hwl:WellAll P h vals args) :
  ∃a vs ns,vals=[Value.ref a]/\args=[WData.list (ns.map WData.int)]/\h.get? a=some {cls:=.type "list",data:=.seq vs.toArray}/\IntsAre vs ns/\ns.length<=n:=by
 have hsh:WShape.hasAll [] args [.list .int]=true:=(pre_splitW hpre).1
 have hc:l.pre.holds [] {args:=args} = true:=(pre_splitW hpre).2
 obtain⟨d,r,rfl,h1,h2⟩:=hasAllW_cons hsh
 obtain rfl:=hasAllW_nil h2
 obtain⟨xs,rfl,h3⟩:=hasW_list h1
 obtain⟨ns,rfl⟩:=items_int h3
 have hlen:ns.length<=n:=by
  unfold OpenLaw.pre at hc
  have h4:(WTm.not (.lt (.lit (.int (n:Int))) (.len (.arg 0)))).holds [] {args:=[.list (ns.map .int)]} = true:=by
   have h4:=(holds_andW hc).1
   rw[hn] at h4
   exact h4
  have h5:=condW_of h4 (w_not (w_lt w_lit (w_len_list (w_arg rfl))))
  rw[length_map] at h5
  refine Nat.le_of_not_lt fun q=>?_
  have q':(n:Int)<((ns.length:Nat):Int):=by omega
  first
   |(rw[decide_eq_true q'] at h5;exact absurd h5 ⋯)
   |(simp at h5;omega)
 cases hwl with
 |cons w1 w2=>
  cases w2
  cases w1 with
  |list ho hall=>exact⟨_,_,ns,rfl,rfl,ho,xM ns _ hall,hlen⟩
theorem Ki(l:OpenLaw)(args:List WData):l.row.toRowW.claim.post args (.bool true) args=true:=
 postW_of (r:=l.row.toRowW) (X:=(true==true))
  (show WShape.has [] (.bool true) .bool=true by first|rfl|decide|simp[WShape.has,WShape.arms,WShape.armsAll])
  (show (WTm.eq .res (.lit (.bool true))).value [] {args:=args,res:=some (.bool true),after:=args} = some (.bool (true==true)) from w_eq_bool (w_res rfl) w_lit) rfl
theorem D7{l:OpenLaw}{n:Nat}{q:Program}{loose:List Str}{XP:(Str->Option Value)->Heap->Prop}{YP:World->Heap->Prop}{d:DefRec}
  (hn:l.most=some n) (hdf:d.params.defaults=[])
  (call:∀(w:World) (io ci:Shared) (mg mb:Str->Option Value) (fa:Addr) (o:Obj) (pm cd doc:Value) (a:Addr) (vs:List Value) (ns:List Int),
   Ground q loose [] XP w io mg mb ci.heap->YP w ci.heap ->
   ci.heap.get? fa=some o->o.data = .func (docDef d.name d.params d.body d.scope pm cd doc)->ci.heap.CodeRec cd d.name->mg d.name=some (.ref fa) ->
   ci.heap.get? a=some {cls:=.type "list",data:=.seq vs.toArray}->IntsAre vs ns->ns.length<=n->ci.gens = #[] ->
   codeAny (model l.prog w) callerA (.call (.ref fa) ⟨[.ref a],[]⟩) (fun r s'=>r = .ok (.ret (.bool true))/\OldK ci.heap s'.heap/\s'.os=ci.os/\AllBare s'.gens) ci) :
  WalkO q loose XP YP l.row.toRowW d [] (fun f vs=>PySem.call f vs):=by
 intro w io ci mg mb G Y fa o pm cd doc dV kV ho hd hcd hD hmg hg args vals as hpre hlay hrd hwl hlo
 obtain rfl:dV = .none:=Dflts.none hD hdf
 obtain rfl:kV = .none:=Dflts.noKw hD
 obtain⟨a,vs,ns,rfl,rfl,hobj,hints,hlen⟩:=JZ hn hpre hwl
 refine enter_call (codeAny_mono (call w io ci mg mb fa o pm cd doc a vs ns G Y ho (fd_plain hd) hcd hmg hobj hints hlen hg) fun r s' hq=>?_)
 obtain⟨rfl,h2,h3,h4⟩:=hq
 exact⟨.inl ⟨.bool true,.bool true,[],rfl,fun _=>rfl,.bool true,Ki l _,fun _=>⟨List.Pairwise.nil,fun _ hm=>(nomatch hm)⟩⟩,h2,h3,h4⟩
end Att
namespace L2
open PySem PySem.Spec PyProof.Rows
theorem Bk:∀{vs:List Value} {ns:List Int},IntsAre vs ns->Vals (ns.map V.int) vs
 |_,_,.nil=>.nil
 |_,_,.cons n t h=>.cons ⟨t,rfl⟩ (Bk h)
end L2
namespace L2
open PySem PySem.Spec PyProof.Rows
end L2
namespace L2
open PySem PySem.Spec PyProof.Rows
noncomputable abbrev CX0:CXT:=fun _ _ _ _ _ _=>False
noncomputable abbrev E0:XK:=fun _ _ _=>False
theorem RL{X:Cx}:Passes CX0 X E0:=fun _ _ _ _ _ _ _ h=>h.elim
structure Fun(K:PySem.W.Frag)(x qual:Str)(st:Stmt)(f:Addr)(fd:FuncData):Prop where
 ex:∃(oc:Value) (od:Option Addr) (kV doc pm:Value) (an:Option Addr) (cdv ct:Value) (osl:Array (Option Value)),
  fd=fnOf x qual (lG st) (jR st) (aA st) .none kV doc pm an cdv ct/\K.lookup f=some ⟨oc,od,.func fd,osl⟩/\codeIn K cdv qual=true
 kp:keepIn K (.ref f)=true
section
variable {P:Program}{w:World}{K:PySem.W.Frag}{mg:Str->Option Value}{base:Heap}
theorem Fun.ok{x qual:Str}{st:Stmt}{f:Addr}{fd:FuncData}{N ps:List Str}{k:Nat}{sp:Sp}(F:Fun K x qual st f fd)(S:aO N ps (aA st))(len:∀vs H Q E,sp vs H Q E->vs.length=ps.length)
  (hbody:∀(cdv:Value) (A:Around) (outer:List Env) (s:Shared) (H:Hp) (vs:List V) (Q:VK) (E:XK),nT k (A.deeper (envOfC qual (aA st) s.heap.objs.size f cdv))->sp vs H Q E ->
   ∃t,PSs (Gs CX0 P w K mg base N qual (aA st) f cdv A outer s H E).nox (jR st) t/\t {nx:=fun _ H'=>Q .non H',rt:=Q} (start N vs) H):bD P w K mg base CX0 (k+1) f fd ps sp:=by
 obtain⟨oc,od,kV,doc,pm,an,cdv,ct,osl,rfl,lk,hcd⟩:=F.ex
 refine R9 lk hcd S len fun A outer s H vs Q E hr hsp=>?_
 obtain⟨t,h,q⟩:=hbody cdv A outer s H vs Q E hr hsp
 exact⟨t,h.nox,q⟩
theorem Fun.binds{x qual:Str}{st:Stmt}{f:Addr}{fd:FuncData}{ps:List Str}(F:Fun K x qual st f fd)
  (h:∀(kV doc pm:Value) (an:Option Addr) (cdv ct:Value) (us:List Value),us.length=ps.length->bindArgs (fnOf x qual (lG st) (jR st) (aA st) .none kV doc pm an cdv ct) ⟨us,[]⟩=pure (ps.zip us)):Binds K fd ps []:=by
 obtain⟨oc,od,kV,doc,pm,an,cdv,ct,osl,rfl,lk,hcd⟩:=F.ex
 exact .all (h kV doc pm an cdv ct)
theorem aX{x qual:Str}{st:Stmt}{f:Addr}{oc:Value}{od an:Option Addr}{osl:Array (Option Value)}{kV doc pm cdv ct:Value}(l:K.lookup f=some ⟨oc,od,.func (fnOf x qual (lG st) (jR st) (aA st) .none kV doc pm an cdv ct),osl⟩)
  (c:codeIn K cdv qual=true) (k:keepIn K (.ref f)=true):Fun K x qual st f (fnOf x qual (lG st) (jR st) (aA st) .none kV doc pm an cdv ct):=⟨⟨oc,od,kV,doc,pm,an,cdv,ct,osl,rfl,l,c⟩,k⟩
end
theorem gh{n:Nat}(h:n<=1000):n<sizeLine:=Nat.lt_of_le_of_lt h ⋯
theorem AW{A B:Prop}(h:B):if false=true then A else B:=by
 rw[if_neg Bool.false_ne_true]
 exact h
theorem AL{A B:Prop}(h:A):if true=true then A else B:=by
 rw[if_pos rfl]
 exact h
noncomputable def zw(H H':Hp):Prop:=∀b o,H b=some o->H' b=some o
theorem zw.refl(H:Hp):zw H H:=fun _ _ h=>h
end L2
namespace ST
open PySem PySem.SetTable
noncomputable def fiv(M x:Nat):Nat:=(x*5+1) % M
noncomputable def itf(M:Nat):Nat->Nat->Nat
 |0,x=>x
 |n+1,x=>fiv M (itf M n x)
noncomputable def geo:Nat->Nat
 |0=>0
 |p+1=>5*geo p+1
theorem Nx:∀p,4*geo p+1=5 ^ p
 |0=>rfl
 |p+1=>by
  have:=Nx p
  rw[geo,pow_succ]
  omega
theorem IH:∀p,geo p % 2=p % 2
 |0=>rfl
 |p+1=>by
  have:=IH p
  rw[geo]
  omega
theorem NS(q:Nat):geo (2*q)=geo q*(2*geo q+1)*2:=by
 have h1:=Nx (2*q)
 have h2:=Nx q
 have h3:5 ^ (2*q)=5 ^ q*5 ^ q:=by rw[<- Nat.pow_add];congr 1;omega
 rw[h3,<- h2] at h1
 have h4:(4*geo q+1)*(4*geo q+1)=4*(geo q*(2*geo q+1)*2)+1:=by
  generalize geo q=g
  have:geo q=geo q:=rfl
  simp only[Nat.add_mul,Nat.mul_add,Nat.mul_assoc,Nat.mul_one,Nat.one_mul]
  have e1:g*(4*g)=4*(g*g):=by rw[Nat.mul_left_comm]
  have e2:g*(2*(g*2))=4*(g*g):=by rw[Nat.mul_left_comm,<- Nat.mul_assoc g g 2];omega
  rw[e1,e2]
  omega
 rw[h4] at h1
 omega
theorem Iq:∀k p:Nat,2 ^ k ∣ geo p->2 ^ k ∣ p
 |0,p,_=>by rw[Nat.pow_zero];exact Nat.one_dvd p
 |k+1,p,h=>by
  have h2:2 ∣ geo p:=Nat.dvd_trans ⟨2 ^ k,by rw[pow_succ,Nat.mul_comm]⟩ h
  have hp:p % 2=0:=by rw[<- IH];omega
  obtain⟨q,rfl⟩:∃q,p=2*q:=⟨p / 2,∅⟩
  rw[NS,pow_succ] at h
  have h3:=Nat.dvd_of_mul_dvd_mul_right (by decide:0<2) h
  have co:Nat.Coprime (2 ^ k) (2*geo q+1):=by
   refine Nat.Coprime.pow_left k ?_
   unfold Nat.Coprime
   rw[Nat.gcd_rec]
   have:(2*geo q+1) % 2=1:=by omega
   rw[this]
   decide
  have h4:=Iq k q (co.dvd_of_dvd_mul_right h3)
  rw[pow_succ,Nat.mul_comm 2 q]
  exact Nat.mul_dvd_mul_right h4 2
theorem KL{M a b:Nat}(h:a % M=b % M):(a*5+1) % M=(b*5+1) % M:=by
 rw[Nat.add_mod,Nat.mul_mod,h,<- Nat.mul_mod,<- Nat.add_mod]
theorem IY(M:Nat)(x:Nat):∀n,itf M n x % M=(5 ^ n*x+geo n) % M
 |0=>by rw[itf,geo,Nat.pow_zero,Nat.one_mul,Nat.add_zero]
 |n+1=>by
  rw[itf,fiv,Nat.mod_mod,KL (IY M x n),geo,pow_succ]
  congr 1
  rw[Nat.add_mul,Nat.mul_right_comm,Nat.mul_comm (geo n) 5];omega
theorem IK(M:Nat)(a x:Nat):∀b,itf M (a+b) x=itf M b (itf M a x)
 |0=>rfl
 |b+1=>by show fiv M (itf M (a+b) x)=_;rw[IK M a x b];rfl
theorem cyc{k p x:Nat}(h:(5 ^ p*x+geo p) % 2 ^ k=x % 2 ^ k):2 ^ k ∣ p:=by
 refine Iq k p ?_
 have h1:=Nat.sub_mod_eq_zero_of_mod_eq h
 have e:5 ^ p*x+geo p-x=geo p*(4*x+1):=by
  rw[<- Nx p,Nat.add_mul,Nat.mul_add,Nat.mul_one,Nat.one_mul]
  have:4*geo p*x=geo p*(4*x):=by rw[Nat.mul_comm 4,Nat.mul_assoc]
  omega
 rw[e] at h1
 have co:Nat.Coprime (2 ^ k) (4*x+1):=by
  refine Nat.Coprime.pow_left k ?_
  unfold Nat.Coprime
  rw[Nat.gcd_rec]
  have:(4*x+1) % 2=1:=by omega
  rw[this]
  decide
 exact co.dvd_of_dvd_mul_right (Nat.dvd_of_mod_eq_zero h1)
theorem Od{k a b x:Nat}(h:a<b)(hb:b<2 ^ k)(hx:itf (2 ^ k) a x=itf (2 ^ k) b x):False:=by
 obtain⟨p,rfl⟩:∃p,b=a+p:=⟨b-a,∅⟩
 rw[IK] at hx
 have h1:=IY (2 ^ k) (itf (2 ^ k) a x) p
 rw[<- hx] at h1
 have h2:=Nat.le_of_dvd ∅ (cyc h1.symm)
 omega
theorem pig:∀(l O:List Nat),l.Nodup->(∀x∈l,x∈O)->l.length<=O.length
 |[],_,_,_=>zero_le _
 |a::l,O,h,s=>by
  rw[List.nodup_cons] at h
  have ha:=s a (mem_cons_self ..)
  have:=pig l (O.erase a) h.2 fun x hx=>(List.mem_erase_of_ne (fun z=>h.1 (by rw[<- z];exact hx))).mpr (s x (mem_cons_of_mem _ hx))
  rw[List.length_erase_of_mem ha] at this
  have:0<O.length:=List.length_pos_of_mem ha
  rw[length_cons]
  omega
theorem JI{k:Nat}{O:List Nat}(x:Nat)(hc:O.length<2 ^ k):∃r,r<=O.length/\itf (2 ^ k) r x ∉ O:=by
 by_cases h:∃r,r<=O.length/\itf (2 ^ k) r x ∉ O
 ·exact h
 exfalso
 have a:∀r,r<=O.length->itf (2 ^ k) r x∈O:=fun r hr=>Classical.byContradiction fun z=>h ⟨r,hr,z⟩
 have:=pig ((List.range (O.length+1)).map fun r=>itf (2 ^ k) r x) O ?_ fun y hy=>?_
 ·rw[length_map,List.length_range] at this
  omega
 ·refine List.pairwise_map.mpr (List.Pairwise.imp_of_mem (fun {p q} hp hq (hpq:p<q) z=>?_) List.pairwise_lt_range)
  rw[List.mem_range] at hq
  exact Od hpq ∅ z
 ·obtain⟨r,hr,rfl⟩:=List.mem_map.mp hy
  rw[List.mem_range] at hr
  exact a r ∅
noncomputable def lp(m:Nat)(s:Nat×Nat):Nat->Nat×Nat
 |0=>s
 |n+1=>leap m (lp m s n).1 (lp m s n).2
theorem Mx(m:Nat)(s:Nat×Nat):∀n,(lp m s n).2=s.2 / 32 ^ n
 |0=>by rw[Nat.pow_zero,Nat.div_one];rfl
 |n+1=>by
  show (lp m s n).2 / 32=_
  rw[Mx m s n,Nat.div_div_eq_div_mul,pow_succ]
theorem Ik(m:Nat)(s:Nat×Nat)(h:s.2<2 ^ 64):∀r,lp m s (13+r)=(itf (m+1) r (lp m s 13).1,0)
 |0=>by
  have:=Mx m s 13
  rw[Nat.div_eq_of_lt (lt_of_lt_of_le h ⋯)] at this
  exact Prod.ext rfl this
 |r+1=>by
  show leap m (lp m s (13+r)).1 (lp m s (13+r)).2=_
  rw[Ik m s h r]
  show ((itf (m+1) r (lp m s 13).1*5+1+0 / 32) % (m+1),0 / 32)=_
  rw[Nat.zero_div,Nat.add_zero]
  rfl
theorem Bt{m k:Nat}(hm:m+1=2 ^ k){O:List Nat}(hc:O.length<=m)(s:Nat×Nat)(h:s.2<2 ^ 64):∃L,L<=13+O.length/\(lp m s L).1 ∉ O:=by
 obtain⟨r,h1,h2⟩:=JI (k:=k) (O:=O) (lp m s 13).1 ∅
 refine⟨13+r,∅,?_⟩
 rw[Ik m s h,hm]
 exact h2
theorem Ij(m i p:Nat):(leap m i p).1<=m:=by
 have:(i*5+1+p / 32) % (m+1)<m+1:=Nat.mod_lt _ (Nat.succ_pos m)
 show (i*5+1+p / 32) % (m+1)<=m
 omega
theorem IB(h:Int):bits h<2 ^ 64:=by
 unfold bits
 have:=Int.emod_lt_of_pos h (show (0:Int)<2 ^ 64 by decide)
 have:=Int.emod_nonneg h (show (2 ^ 64:Int)≠0 by decide)
 omega
noncomputable def adv(m:Nat)(p:Probe):Probe:=
 if p.more>0 then {p with j:=p.j+1,more:=p.more-1} else
 {p with j:=(leap m p.i p.perturb).1,more:=runEnd m (leap m p.i p.perturb).1-(leap m p.i p.perturb).1,i:=(leap m p.i p.perturb).1,perturb:=(leap m p.i p.perturb).2}
noncomputable def st(m:Nat)(s:Nat×Nat):Probe:={j:=s.1,more:=runEnd m s.1-s.1,i:=s.1,perturb:=s.2,dummy:=none}
noncomputable def sth(m:Nat)(h:Int):Probe:=st m (bits h % (m+1),bits h)
inductive Way(m:Nat)(O:Nat->Prop):Probe->Nat->Nat->Prop
 |here {p:Probe}:p.dummy=none->¬ O p.j->Way m O p 0 p.j
 |step {p:Probe} {n e:Nat}:p.dummy=none->O p.j->Way m O (adv m p) n e->Way m O p (n+1) e
inductive On(m:Nat)(O:Nat->Prop):Probe->Nat->Prop
 |here {p:Probe}:On m O p p.j
 |step {p:Probe} {j:Nat}:O p.j->On m O (adv m p) j->On m O p j
theorem On.mono{m:Nat}{O O':Nat->Prop}(s:∀j,O j->O' j){p:Probe}{j:Nat}(h:On m O p j):On m O' p j:=by
 induction h with
 |here=>exact .here
 |step a _ ih=>exact .step (s _ a) ih
theorem Way.on{m:Nat}{O:Nat->Prop}{p:Probe}{n e:Nat}(h:Way m O p n e):On m O p e/\¬ O e:=by
 induction h with
 |here _ a=>exact⟨.here,a⟩
 |step _ a _ ih=>exact⟨.step a ih.1,ih.2⟩
theorem P1(m i:Nat):runEnd m i-i<=9:=by unfold runEnd;split<;>omega
theorem G1{m i:Nat}(h:i<=m):runEnd m i<=m:=by unfold runEnd;split<;>omega
theorem Hv(m i:Nat):i<=runEnd m i:=by unfold runEnd;split<;>omega
theorem Way.le{m:Nat}{O:Nat->Prop}{p:Probe}{n e:Nat}(h:Way m O p n e):p.j+p.more<=m->e<=m:=by
 induction h with
 |here _ _=>omega
 |@step p n e _ a _ ih=>
  intro hp
  refine ih ?_
  unfold adv
  split
  ·show p.j+1+(p.more-1)<=m;omega
  ·show (leap m p.i p.perturb).1+(runEnd m (leap m p.i p.perturb).1-(leap m p.i p.perturb).1)<=m
   have h1:=Ij m p.i p.perturb
   have:=G1 h1
   omega
theorem Ig{m:Nat}{O:Nat->Prop}{i pt n1 e1:Nat}(w:Way m O (st m (leap m i pt)) n1 e1):∀(more j:Nat),∃n e,Way m O {j:=j,more:=more,i:=i,perturb:=pt,dummy:=none} n e/\n<=more+1+n1
 |0,j=>by
  by_cases h:O j
  ·exact⟨n1+1,e1,.step rfl h w,∅⟩
  ·exact⟨0,j,.here rfl h,∅⟩
 |more+1,j=>by
  by_cases h:O j
  ·obtain⟨n,e,w1,hn⟩:=Ig w more (j+1)
   exact⟨n+1,e,.step rfl h w1,∅⟩
  ·exact⟨0,j,.here rfl h,∅⟩
theorem M9{m:Nat}{O:Nat->Prop}{s:Nat×Nat}{L:Nat}(hL:¬ O (lp m s L).1):∀d,d<=L->∃n e,Way m O (st m (lp m s (L-d))) n e/\n<=10*d
 |0,_=>⟨0,_,.here rfl hL,∅⟩
 |d+1,hd=>by
  obtain⟨n,e,w,hn⟩:=M9 hL d ∅
  have e1:L-d=(L-(d+1))+1:=by omega
  rw[e1] at w
  obtain⟨n',e',w',hn'⟩:=Ig (i:=(lp m s (L-(d+1))).1) (pt:=(lp m s (L-(d+1))).2) w (runEnd m (lp m s (L-(d+1))).1-(lp m s (L-(d+1))).1) (lp m s (L-(d+1))).1
  have:=P1 m (lp m s (L-(d+1))).1
  exact⟨n',e',w',∅⟩
theorem Mb{m k:Nat}(hm:m+1=2 ^ k){O:List Nat}(hc:O.length<=m)(h:Int):∃n e,Way m (·∈O) (sth m h) n e/\n<=10*(13+O.length)/\e<=m:=by
 obtain⟨L,h1,h2⟩:=Bt hm hc (bits h % (m+1),bits h) (IB h)
 obtain⟨n,e,w,hn⟩:=M9 (O:=(·∈O)) h2 L (Nat.le_refl _)
 rw[Nat.sub_self] at w
 refine⟨n,e,w,∅,w.le ?_⟩
 have:=G1 (m:=m) (i:=bits h % (m+1)) (le_of_lt_succ (Nat.mod_lt _ (Nat.succ_pos m)))
 have:=Hv m (bits h % (m+1))
 show bits h % (m+1)+(runEnd m (bits h % (m+1))-bits h % (m+1))<=m
 omega
theorem zL{A B:List Nat}{j:Nat}(hA:∀a∈A,a<j)(hB:∀b∈B,j<=b):∀fuel lo hi,lo<=A.length->A.length<=hi->hi<=(A++B).length->hi-lo<=fuel->below.go (A++B).toArray j fuel lo hi=A.length
 |0,lo,hi,h1,h2,_,h4=>by show lo=_;omega
 |fuel+1,lo,hi,h1,h2,h3,h4=>by
  rw[below.go]
  by_cases c:lo<hi
  ·rw[if_pos c]
   have hmid:(lo+hi) / 2<(A++B).length:=by omega
   have hg:(A++B).toArray.getD ((lo+hi) / 2) j=(A++B)[(lo+hi) / 2]:=by rw[Array.getD];exact dif_pos (by rw[size_toArray];exact hmid)
   simp only[hg]
   by_cases d:(lo+hi) / 2<A.length
   ·have:(A++B)[(lo+hi) / 2]=A[(lo+hi) / 2]:=List.getElem_append_left d
    rw[this,if_pos (hA _ (getElem_mem d))]
    exact zL hA hB fuel _ _ ∅ h2 h3 ∅
   ·have:(A++B)[(lo+hi) / 2]=B[(lo+hi) / 2-A.length]'(by rw[length_append] at hmid;omega):=List.getElem_append_right ∅
    rw[this,if_neg (Nat.not_lt.mpr (hB _ (getElem_mem _)))]
    exact zL hA hB fuel _ _ h1 ∅ ∅ ∅
  ·rw[if_neg c]
   omega
theorem L3{A B:List Nat}{j:Nat}(hA:∀a∈A,a<j)(hB:∀b∈B,j<=b):below (A++B).toArray j=A.length:=by
 unfold below
 refine zL hA hB _ _ _ (zero_le _) ?_ ?_ ?_
 ·rw[size_toArray,length_append];omega
 ·rw[size_toArray];exact Nat.le_refl _
 ·omega
theorem BK{α:Type}(A B:List α)(x:α):insertAt (A++B).toArray A.length x=(A++x::B).toArray:=by
 unfold insertAt
 apply Array.ext'
 simp
end ST
namespace ST
open PySem PySem.SetTable
theorem On.inv{m:Nat}{O:Nat->Prop}{p:Probe}{j:Nat}(h:On m O p j):j=p.j\/(O p.j/\On m O (adv m p) j):=by
 cases h with
 |here=>exact .inl rfl
 |step a b=>exact .inr ⟨a,b⟩
section
variable {β:Type}
noncomputable abbrev Ln(β:Type):=List (Nat×Int×β)
noncomputable def Occ(L:Ln β)(j:Nat):Prop:=j∈L.map (·.1)
structure Tab(t:SetTable)(L:Ln β):Prop where
 place:t.place=(L.map (·.1)).toArray
 ris:L.Pairwise fun a b=>a.1<b.1
 le:∀x∈L,x.1<=t.mask
 dum:t.dummies = #[]
 two:∃k,t.mask+1=2 ^ k/\3<=k
 on:∀x∈L,On t.mask (Occ L) (sth t.mask x.2.1) x.1
theorem Jj(j:Nat):has #[] j=false:=by
 have:below #[] j=0:=rfl
 unfold has
 rw[this]
 rfl
theorem D2{L:Ln β}(r:L.Pairwise fun a b=>a.1<b.1)(j:Nat):∃A B:Ln β,L=A++B/\(∀a∈A,a.1<j)/\∀b∈B,j<=b.1:=by
 induction L with
 |nil=>exact⟨[],[],rfl,fun _ h=>by simp at h,fun _ h=>by simp at h⟩
 |cons x L ih=>
  rw[List.pairwise_cons] at r
  by_cases h:x.1<j
  ·obtain⟨A,B,rfl,h1,h2⟩:=ih r.2
   refine⟨x::A,B,rfl,fun a ha=>?_,h2⟩
   rcases List.mem_cons.mp ha with rfl|ha
   ·exact h
   ·exact h1 a ha
  ·refine⟨[],x::L,rfl,fun _ h=>by simp at h,fun b hb=>?_⟩
   rcases List.mem_cons.mp hb with rfl|hb
   ·omega
   ·have:=r.1 b hb;omega
theorem Tab.below{t:SetTable}{A B:Ln β}(T:Tab t (A++B)){j:Nat}(h1:∀a∈A,a.1<j)(h2:∀b∈B,j<=b.1):SetTable.below t.place j=A.length:=by
 rw[T.place,map_append]
 rw[L3 (j:=j) (fun a ha=>by obtain⟨x,hx,rfl⟩:=List.mem_map.mp ha;exact h1 x hx) (fun b hb=>by obtain⟨x,hx,rfl⟩:=List.mem_map.mp hb;exact h2 x hx),length_map]
theorem Tab.Kd{t:SetTable}{L:Ln β}(T:Tab t L){j:Nat}(h:¬ Occ L j):t.slot j = .empty:=by
 obtain⟨A,B,rfl,h1,h2⟩:=D2 T.ris j
 unfold slot
 rw[T.below h1 h2,T.dum,Jj]
 have:(t.place[A.length]?==some j)=false:=by
  rw[T.place]
  cases B with
  |nil=>simp
  |cons b B=>
   simp only[map_append,map_cons,List.getElem?_toArray]
   rw[getElem?_append_right (by simp),length_map,Nat.sub_self]
   have:b.1≠j:=fun z=>h (by unfold Occ;rw[<- z];simp)
   simp[this]
 rw[if_neg (by rw[this];decide)]
 rfl
theorem Jh{A B:Ln β}{x:Nat×Int×β}(r:(A++x::B).Pairwise fun a b=>a.1<b.1):(∀a∈A,a.1<x.1)/\∀b∈B,x.1<b.1:=by
 rw[List.pairwise_append,List.pairwise_cons] at r
 exact⟨fun a ha=>r.2.2 a ha x (mem_cons_self ..),fun b hb=>r.2.1.1 b hb⟩
theorem Tab.J5{t:SetTable}{A B:Ln β}{x:Nat×Int×β}(T:Tab t (A++x::B)):t.slot x.1 = .live A.length:=by
 obtain⟨h1,h2⟩:=Jh T.ris
 unfold slot
 rw[T.below h1 (fun b hb=>by rcases List.mem_cons.mp hb with rfl|hb;exact Nat.le_refl _;exact Nat.le_of_lt (h2 b hb))]
 have:(t.place[A.length]?==some x.1)=true:=by
  rw[T.place]
  simp
 rw[if_pos this]
theorem Tab.NR{t:SetTable}{L:Ln β}(T:Tab t L){j:Nat}(h:Occ L j):∃i x,t.slot j = .live i/\L[i]? = some (j,x):=by
 obtain⟨⟨j',x⟩,hx,rfl⟩:=List.mem_map.mp h
 obtain⟨A,B,rfl⟩:=List.append_of_mem hx
 exact⟨A.length,x,T.J5,by simp⟩
theorem Tab.uniq{t:SetTable}{L:Ln β}(T:Tab t L){j:Nat}{x y:Int×β}(h1:(j,x)∈L)(h2:(j,y)∈L):x=y:=by
 obtain⟨A,B,rfl⟩:=List.append_of_mem h1
 obtain⟨a1,a2⟩:=Jh T.ris
 rcases List.mem_append.mp h2 with h|h
 ·exact absurd (a1 _ h) (lt_irrefl _)
 ·rcases List.mem_cons.mp h with h|h
  ·cases h;rfl
  ·exact absurd (a2 _ h) (lt_irrefl _)
noncomputable def hashOf(L:Ln β)(i:Nat):Int:=(L[i]?.map (·.2.1)).getD 0
theorem LM{t:SetTable}{L:Ln β}(T:Tab t L){hashAt:Nat->Int}(hh:∀i,i<L.length->hashAt i=hashOf L i)(h:Int) :
  ∀(n:Nat) (p:Probe) (e fuel:Nat),Way t.mask (Occ L) p n e->n<fuel ->
   (probe.go t hashAt h fuel p=some (.empty e none)/\∀x∈L,x.2.1=h->¬ On t.mask (Occ L) p x.1) \/
   (∃i x next n',probe.go t hashAt h fuel p=some (.candidate x.1 i next)/\L[i]? = some x/\t.slot x.1 = .live i/\x.2.1=h/\n'<n/\Way t.mask (Occ L) next n' e /\
    ∀y∈L,y.2.1=h->On t.mask (Occ L) p y.1->y=x\/On t.mask (Occ L) next y.1):=by
 intro n
 induction n with
 |zero=>
  intro p e fuel w hf
  cases w with
  |here hd ho=>
   obtain⟨f,rfl⟩:∃f,fuel=f+1:=⟨fuel-1,∅⟩
   left
   refine⟨?_,fun x hx _ hon=>?_⟩
   ·rw[probe.go,T.Kd ho,hd]
   ·rcases hon.inv with z|⟨a,_⟩
    ·exact ho (List.mem_map.mpr ⟨x,hx,z⟩)
    ·exact ho a
 |succ n ih=>
  intro p e fuel w hf
  obtain⟨f,rfl⟩:∃f,fuel=f+1:=⟨fuel-1,∅⟩
  cases w with
  |step hd ho w=>
   obtain⟨i,x,h1,h2⟩:=T.NR ho
   have hlt:i<L.length:=by
    rcases lt_or_ge i L.length with z|z
    ·exact z
    ·rw[getElem?_eq_none z] at h2;cases h2
   have eh:hashAt i=x.1:=by rw[hh i hlt,hashOf,h2];rfl
   by_cases c:x.1=h
   ·right
    refine⟨i,(p.j,x),adv t.mask p,n,?_,h2,h1,c,Nat.lt_succ_self n,w,fun y hy _ hon=>?_⟩
    ·rw[probe.go,h1]
     show (if (hashAt i==h)=true then _ else _)=_
     rw[if_pos (by rw[eh,c];exact beq_self_eq_true h)]
     rfl
    ·rcases hon.inv with z|⟨_,b⟩
     ·left
      obtain⟨y1,y2⟩:=y
      cases z
      rw[T.uniq hy (mem_of_getElem? h2)]
     ·exact .inr b
   ·have e1:probe.go t hashAt h (f+1) p=probe.go t hashAt h f (adv t.mask p):=by
     rw[probe.go,h1]
     show (if (hashAt i==h)=true then _ else _)=_
     rw[if_neg (by rw[eh];simpa using c)]
     rfl
    have on_next:∀y∈L,y.2.1=h->On t.mask (Occ L) p y.1->On t.mask (Occ L) (adv t.mask p) y.1:=fun y hy ey hon=>by
     rcases hon.inv with z|⟨_,b⟩
     ·obtain⟨y1,y2⟩:=y
      cases z
      rw[T.uniq hy (mem_of_getElem? h2)] at ey
      exact absurd ey c
     ·exact b
    rw[e1]
    rcases ih (adv t.mask p) e f w ∅ with ⟨a,b⟩|⟨i',x',next,n',a1,a2,a3,a4,a5,a6,a7⟩
    ·exact .inl ⟨a,fun y hy ey hon=>b y hy ey (on_next y hy ey hon)⟩
    ·exact .inr ⟨i',x',next,n',a1,a2,a3,a4,∅,a6,fun y hy ey hon=>a7 y hy ey (on_next y hy ey hon)⟩
theorem Tab.fill{t:SetTable}{L:Ln β}(T:Tab t L):t.fill=L.length:=by
 unfold SetTable.fill
 rw[T.place,T.dum,size_toArray,length_map]
 rfl
theorem Tab.odd{t:SetTable}{L:Ln β}(T:Tab t L):t.mask % 2=1:=by
 obtain⟨k,h1,h2⟩:=T.two
 obtain⟨q,rfl⟩:∃q,k=q+1:=⟨k-1,∅⟩
 rw[pow_succ] at h1
 omega
theorem Tab.way{t:SetTable}{L:Ln β}(T:Tab t L)(hc:L.length<=t.mask)(h:Int):∃n e,Way t.mask (Occ L) (sth t.mask h) n e/\n<=10*(13+L.length)/\e<=t.mask:=by
 obtain⟨k,h1,h2⟩:=T.two
 have:=Mb h1 (O:=L.map (·.1)) (by rw[length_map];exact hc) h
 rw[length_map] at this
 exact this
theorem Tab.put{t:SetTable}{L:Ln β}(T:Tab t L){n e:Nat}{h:Int}{y:β}(w:Way t.mask (Occ L) (sth t.mask h) n e)(he:e<=t.mask) :
  ∃A B,L=A++B/\(t.put e).2=A.length/\Tab (t.put e).1 (A++(e,h,y)::B):=by
 obtain⟨A,B,rfl,h1,h2⟩:=D2 T.ris e
 have hb:=T.below h1 h2
 obtain⟨won,wno⟩:=w.on
 have h2':∀b∈B,e<b.1:=fun b hb=>by
  have:=h2 b hb
  have:b.1≠e:=fun z=>wno (List.mem_map.mpr ⟨b,mem_append_right _ hb,z⟩)
  omega
 have hp:(t.put e).1={t with place:=insertAt t.place A.length e}:=by
  unfold SetTable.put
  rw[hb]
  show {t with place:=insertAt t.place A.length e,dummies:=if has t.dummies e=true then eraseAt t.dummies (SetTable.below t.dummies e) else t.dummies} = _
  rw[T.dum,Jj]
  rfl
 have oc:∀j,Occ (A++B) j->Occ (A++(e,h,y)::B) j:=fun j hj=>by
  unfold Occ at hj ⊢
  rw[map_append,mem_append] at hj
  rw[map_append,mem_append,map_cons,mem_cons]
  rcases hj with z|z
  ·exact .inl z
  ·exact .inr (.inr z)
 refine⟨A,B,rfl,hb,?_⟩
 rw[hp]
 exact {
  place:=by
   show insertAt t.place A.length e=_
   rw[T.place,map_append]
   have:=BK (A.map (·.1)) (B.map (·.1)) e
   rw[length_map] at this
   rw[this,map_append]
   rfl
  ris:=by
   have r:=T.ris
   rw[List.pairwise_append] at r ⊢
   refine⟨r.1,List.pairwise_cons.mpr ⟨fun b hb=>h2' b hb,r.2.1⟩,fun a ha b hb=>?_⟩
   rcases List.mem_cons.mp hb with rfl|hb
   ·exact h1 a ha
   ·exact r.2.2 a ha b hb
  le:=fun x hx=>by
   rcases List.mem_append.mp hx with z|z
   ·exact T.le x (mem_append_left _ z)
   ·rcases List.mem_cons.mp z with rfl|z
    ·exact he
    ·exact T.le x (mem_append_right _ z)
  dum:=T.dum
  two:=T.two
  on:=fun x hx=>by
   rcases List.mem_append.mp hx with z|z
   ·exact (T.on x (mem_append_left _ z)).mono oc
   ·rcases List.mem_cons.mp z with rfl|z
    ·exact won.mono oc
    ·exact (T.on x (mem_append_right _ z)).mono oc}
end
end ST
namespace ST
open PySem PySem.SetTable
theorem K4{m:Nat}{O:Nat->Prop}{i pt:Nat}:∀(k more j:Nat),k<=more->(∀q,q<k->O (j+q))->On m O {j:=j,more:=more,i:=i,perturb:=pt,dummy:=none} (j+k)
 |0,more,j,_,_=>.here
 |k+1,more,j,hk,ho=>by
  have hm:more>0:=by omega
  refine .step (ho 0 ∅) ?_
  have:adv m {j:=j,more:=more,i:=i,perturb:=pt,dummy:=none} = {j:=j+1,more:=more-1,i:=i,perturb:=pt,dummy:=none}:=by
   unfold adv;exact if_pos hm
  rw[this]
  have e:j+(k+1)=j+1+k:=by omega
  rw[e]
  exact K4 k (more-1) (j+1) ∅ fun q hq=>by
   have:=ho (q+1) ∅
   have e:j+1+q=j+(q+1):=by omega
   rw[e];exact this
theorem yn{m:Nat}{O:Nat->Prop}{i pt e:Nat}(w:On m O (st m (leap m i pt)) e):∀(more j:Nat),(∀q,q<=more->O (j+q))->On m O {j:=j,more:=more,i:=i,perturb:=pt,dummy:=none} e
 |0,j,ho=>.step (ho 0 (Nat.le_refl _)) w
 |more+1,j,ho=>by
  refine .step (ho 0 ∅) ?_
  exact yn w more (j+1) fun q hq=>by
   have:=ho (q+1) ∅
   have e:j+1+q=j+(q+1):=by omega
   rw[e];exact this
theorem OO{m:Nat}{s:Nat×Nat}(h:s.1<=m):∀n,(lp m s n).1<=m
 |0=>h
 |n+1=>Ij m _ _
theorem OE{m:Nat}{owner:Array (Option Nat)}{js:List Nat}(ho:∀j,j<=m->((owner.getD j (some 0)).isNone=true↔j ∉ js)){s:Nat×Nat}(hs:s.1<=m){L:Nat}(hL:(lp m s L).1 ∉ js) :
  ∀(d fuel:Nat),d<fuel->d<=L->∃e,layClean.free m owner fuel (lp m s (L-d)).1 (lp m s (L-d)).2=some e/\On m (·∈js) (st m (lp m s (L-d))) e/\e ∉ js/\e<=m:=by
 intro d
 induction d with
 |zero=>
  intro fuel hf hd
  obtain⟨f,rfl⟩:∃f,fuel=f+1:=⟨fuel-1,∅⟩
  have hi:=OO hs L
  rw[layClean.free]
  have hr:=Hv m (lp m s L).1
  have e1:(List.range (runEnd m (lp m s L).1+1-(lp m s L).1)).find? (fun k=>(owner.getD ((lp m s L).1+k) (some 0)).isNone)=some 0:=by
   rw[List.find?_range_eq_some]
   exact⟨(ho _ hi).mpr hL,List.mem_range.mpr ∅,fun j hj=>absurd hj (not_lt_zero j)⟩
  rw[Nat.sub_zero,e1]
  exact⟨_,rfl,.here,hL,hi⟩
 |succ d ih=>
  intro fuel hf hd
  obtain⟨f,rfl⟩:∃f,fuel=f+1:=⟨fuel-1,∅⟩
  have hi:=OO hs (L-(d+1))
  obtain⟨e,a1,a2,a3,a4⟩:=ih f ∅ ∅
  have e1:L-d=(L-(d+1))+1:=by omega
  rw[e1] at a1 a2
  have hr:=Hv m (lp m s (L-(d+1))).1
  have hin:=G1 hi
  rw[layClean.free]
  cases q:(List.range (runEnd m (lp m s (L-(d+1))).1+1-(lp m s (L-(d+1))).1)).find? (fun k=>(owner.getD ((lp m s (L-(d+1))).1+k) (some 0)).isNone) with
  |some k=>
   rw[List.find?_range_eq_some] at q
   obtain⟨q1,q2,q3⟩:=q
   rw[List.mem_range] at q2
   refine⟨_,rfl,K4 k _ _ ∅ fun z hz=>?_,(ho _ ∅).mp q1,∅⟩
   have h1:=q3 z hz
   have h2:=ho ((lp m s (L-(d+1))).1+z) ∅
   rw[Bool.not_eq_true'] at h1
   exact Classical.byContradiction fun w=>by rw[h2.mpr w] at h1;cases h1
  |none=>
   rw[List.find?_eq_none] at q
   refine⟨e,a1,yn a2 _ _ fun z hz=>?_,a3,a4⟩
   have h1:=q z (List.mem_range.mpr ∅)
   have h2:=ho ((lp m s (L-(d+1))).1+z) ∅
   exact Classical.byContradiction fun w=>h1 (h2.mpr w)
structure Own(m:Nat)(owner:Array (Option Nat))(js:List Nat)(hs:List Int):Prop where
 size:owner.size=m+1
 len:js.length=hs.length
 nd:js.Nodup
 le:∀j∈js,j<=m
 is:∀j i,owner.getD j none=some i↔js[i]? = some j
 on:∀(i j:Nat) (h:Int),js[i]? = some j->hs[i]? = some h->On m (·∈js) (sth m h) j
theorem Own.none{m:Nat}{owner:Array (Option Nat)}{js:List Nat}{hs:List Int}(w:Own m owner js hs){j:Nat}(hj:j<=m):(owner.getD j (some 0)).isNone=true↔j ∉ js:=by
 have hj':j<owner.size:=by rw[w.size];omega
 have e:owner.getD j (some 0)=owner.getD j .none:=by unfold Array.getD;rw[dif_pos hj',dif_pos hj']
 rw[e]
 constructor
 ·intro h z
  obtain⟨i,hi,rfl⟩:=List.getElem_of_mem z
  have:=(w.is js[i] i).mpr (getElem?_eq_getElem hi)
  rw[this] at h
  cases h
 ·intro h
  cases q:owner.getD j .none with
  |none=>rfl
  |some i=>exact absurd (mem_of_getElem? ((w.is j i).mp q)) h
noncomputable def fld(m:Nat)(acc:Option (Array (Option Nat)×Nat))(h:Int):Option (Array (Option Nat)×Nat):=do
  let (owner,k) <- acc
  let j <- layClean.free m owner (turns m) (bits h % (m+1)) (bits h)
  pure (owner.setIfInBounds j (some k),k+1)
theorem MS{m k:Nat}(hm:m+1=2 ^ k){owner:Array (Option Nat)}{js:List Nat}{hs:List Int}(w:Own m owner js hs)(hc:js.length<m)(h:Int) :
  ∃e,fld m (some (owner,js.length)) h=some (owner.setIfInBounds e (some js.length),js.length+1)/\Own m (owner.setIfInBounds e (some js.length)) (js++[e]) (hs++[h]):=by
 have hb:bits h % (m+1)<=m:=le_of_lt_succ (Nat.mod_lt _ (Nat.succ_pos m))
 obtain⟨L,h1,h2⟩:=Bt hm (O:=js) ∅ (bits h % (m+1),bits h) (IB h)
 obtain⟨e,a1,a2,a3,a4⟩:=OE (fun j hj=>w.none hj) (s:=(bits h % (m+1),bits h)) hb h2 L (turns m) (by unfold turns;omega) (Nat.le_refl _)
 rw[Nat.sub_self] at a1 a2
 have he:e<owner.size:=by rw[w.size];omega
 refine⟨e,?_,?_⟩
 ·unfold fld
  show (do let j <- layClean.free m owner (turns m) (bits h % (m+1)) (bits h);pure (owner.setIfInBounds j (some js.length),js.length+1))=_
  have a1':layClean.free m owner (turns m) (bits h % (m+1)) (bits h)=some e:=a1
  rw[a1']
  rfl
 ·have sub:∀j,j∈js->j∈js++[e]:=fun j hj=>mem_append_left _ hj
  have gd:∀j,(owner.setIfInBounds e (some js.length)).getD j none=if j=e then some js.length else owner.getD j none:=fun j=>by
   rw[Array.getD_eq_getD_getElem?,Array.getD_eq_getD_getElem?,Array.getElem?_setIfInBounds]
   by_cases c:e=j
   ·rw[if_pos c,if_pos c.symm,if_pos he];rfl
   ·rw[if_neg c,if_neg (fun z=>c z.symm)]
  exact {
   size:=by rw[Array.size_setIfInBounds];exact w.size
   len:=by rw[length_append,length_append,w.len];rfl
   nd:=by
    rw[List.nodup_append]
    refine⟨w.nd,List.pairwise_singleton _ _,fun a ha b hb z=>?_⟩
    rw[mem_singleton] at hb
    subst hb;subst z;exact a3 ha
   le:=fun j hj=>by
    rcases List.mem_append.mp hj with z|z
    ·exact w.le j z
    ·rw[mem_singleton] at z;omega
   is:=fun j i=>by
    rw[gd]
    by_cases c:j=e
    ·subst c
     rw[if_pos rfl]
     constructor
     ·intro z;cases z
      rw[getElem?_append_right (Nat.le_refl _),Nat.sub_self];rfl
     ·intro z
      rcases lt_or_ge i js.length with y|y
      ·rw[getElem?_append_left y] at z
       exact absurd (mem_of_getElem? z) a3
      ·rw[getElem?_append_right y] at z
       cases d:i-js.length with
       |zero=>congr 1;omega
       |succ n=>rw[d] at z;simp at z
    ·rw[if_neg c,w.is]
     rcases lt_or_ge i js.length with y|y
     ·rw[getElem?_append_left y]
     ·rw[getElem?_append_right y,getElem?_eq_none y]
      constructor
      ·intro z;cases z
      ·intro z
       cases d:i-js.length with
       |zero=>rw[d] at z;simp at z;exact absurd z.symm c
       |succ n=>rw[d] at z;simp at z
   on:=fun i j h' z1 z2=>by
    rcases lt_or_ge i js.length with y|y
    ·rw[getElem?_append_left y] at z1
     rw[getElem?_append_left (by rw[<- w.len];exact y)] at z2
     exact (w.on i j h' z1 z2).mono sub
    ·rw[getElem?_append_right y] at z1
     rw[getElem?_append_right (by rw[<- w.len];exact y),<- w.len] at z2
     cases d:i-js.length with
     |zero=>
      rw[d] at z1 z2
      simp at z1 z2
      subst z1;subst z2
      exact a2.mono sub
     |succ n=>rw[d] at z1;simp at z1}
theorem Ir{m k:Nat}(hm:m+1=2 ^ k):∀(rest:List Int) (owner:Array (Option Nat)) (js:List Nat) (hs:List Int),Own m owner js hs->js.length+rest.length<=m ->
  ∃owner' js',rest.foldl (fld m) (some (owner,js.length))=some (owner',js'.length)/\Own m owner' js' (hs++rest)
 |[],owner,js,hs,w,_=>⟨owner,js,rfl,by rw[append_nil];exact w⟩
 |h::rest,owner,js,hs,w,hc=>by
  rw[length_cons] at hc
  obtain⟨e,a1,a2⟩:=MS hm w ∅ h
  obtain⟨owner',js',b1,b2⟩:=Ir hm rest _ _ _ a2 (by rw[length_append,List.length_singleton];omega)
  refine⟨owner',js',?_,by rw[append_assoc] at b2;exact b2⟩
  rw[List.foldl_cons,a1]
  rw[length_append,List.length_singleton] at b1
  exact b1
theorem JH(m:Nat):Own m (Array.replicate (m+1) none) [] [] where
 size:=Array.size_replicate
 len:=rfl
 nd:=List.Pairwise.nil
 le:=fun _ h=>by simp at h
 is:=fun j i=>by
  rw[Array.getD_eq_getD_getElem?,Array.getElem?_replicate]
  constructor
  ·intro z;split at z<;>cases z
  ·intro z;simp at z
 on:=fun i j h z _=>by simp at z
theorem FT{m k:Nat}(hm:m+1=2 ^ k)(hs:List Int)(hc:hs.length<=m):∃owner js,layClean m hs.toArray=some owner/\Own m owner js hs:=by
 obtain⟨owner,js,h1,h2⟩:=Ir hm hs _ _ _ (JH m) (by rw[length_nil,Nat.zero_add];exact hc)
 refine⟨owner,js,?_,h2⟩
 have h1':hs.foldl (fld m) (some (Array.replicate (m+1) none,0))=some (owner,js.length):=h1
 unfold layClean
 rw[List.foldl_toArray]
 show Option.map (·.1) (hs.foldl (fld m) (some (Array.replicate (m+1) none,0)))=_
 rw[h1']
 rfl
section
variable {β:Type}
theorem Me{D:List (Int×β)}:∀(l:List (Nat×Nat)),(∀q∈l,q.2<D.length)->(l.filterMap fun q=>(D[q.2]?).map fun x=>(q.1,x)).map (·.1)=l.map (·.1) /\
  (l.filterMap fun q=>(D[q.2]?).map fun x=>(q.1,x)).map (·.2)=(l.map (·.2)).filterMap (D[·]?)
 |[],_=>⟨rfl,rfl⟩
 |q::l,h=>by
  obtain⟨h1,h2⟩:=Me l fun q hq=>h q (mem_cons_of_mem _ hq)
  have hq:=h q (mem_cons_self ..)
  have e:D[q.2]? = some D[q.2]:=getElem?_eq_getElem hq
  constructor
  ·rw[List.filterMap_cons_some (b:=(q.1,D[q.2])) (by rw[e];rfl),map_cons,map_cons,h1]
  ·rw[List.filterMap_cons_some (b:=(q.1,D[q.2])) (by rw[e];rfl),map_cons,map_cons,h2,List.filterMap_cons_some e]
theorem Nw{m k:Nat}(hm:m+1=2 ^ k)(hk:3<=k)(D:List (Int×β))(hc:D.length<=m)(fi mo:Nat)(led pl:Bool) :
  ∃(t:SetTable) (order:Array Nat) (L:Ln β),laid m fi mo led pl (D.toArray.map (·.1))=some (t,order)/\order.filterMap (D.toArray[·]?)=(L.map (·.2)).toArray/\Tab t L/\L.length=D.length/\(∀x,x∈L.map (·.2)↔x∈D)/\t.mask=m/\t.led=led/\t.plain=pl:=by
 obtain⟨owner,js,h1,w⟩:=FT hm (D.map (·.1)) (by rw[length_map];exact hc)
 have lj:js.length=D.length:=by rw[w.len,length_map]
 let live:=(List.range (m+1)).filterMap fun j=>(owner.getD j none).map (j,·)
 have mem_live:∀j i,(j,i)∈live↔js[i]? = some j:=fun j i=>by
  rw[List.mem_filterMap]
  constructor
  ·rintro ⟨a,_,e⟩
   cases q:owner.getD a none with
   |none=>rw[q] at e;cases e
   |some b=>rw[q] at e;cases e;exact (w.is _ _).mp q
  ·intro z
   refine⟨j,List.mem_range.mpr (Nat.lt_succ_of_le (w.le j (mem_of_getElem? z))),?_⟩
   rw[(w.is j i).mpr z]
   rfl
 have lt_live:∀q∈live,q.2<D.length:=fun q hq=>by
  have:=(mem_live q.1 q.2).mp hq
  rcases lt_or_ge q.2 js.length with z|z
  ·omega
  ·rw[getElem?_eq_none z] at this;cases this
 have ris_live:(live.map (·.1)).Pairwise (· < ·):=by
  refine List.pairwise_map.mpr (List.Pairwise.filterMap _ (fun a b hab x hx y hy=>?_) List.pairwise_lt_range)
  cases qa:owner.getD a none with
  |none=>rw[qa] at hx;cases hx
  |some i=>
   cases qb:owner.getD b none with
   |none=>rw[qb] at hy;cases hy
   |some i'=>rw[qa] at hx;rw[qb] at hy;cases hx;cases hy;exact hab
 have len_live:live.length=js.length:=by
  refine Nat.le_antisymm ?_ ?_
  ·have nd:(live.map fun q=>q.1).Nodup:=by
    unfold List.Nodup
    exact ris_live.imp fun {a b} (h:a<b)=>ne_of_lt h
   have:=pig _ js nd fun x hx=>by
    obtain⟨q,hq,rfl⟩:=List.mem_map.mp hx
    exact mem_of_getElem? ((mem_live q.1 q.2).mp hq)
   rw[length_map] at this
   exact this
  ·have:=pig js (live.map (·.1)) w.nd fun x hx=>by
    obtain⟨i,hi,rfl⟩:=List.getElem_of_mem hx
    exact List.mem_map.mpr ⟨(js[i],i),(mem_live _ _).mpr (getElem?_eq_getElem hi),rfl⟩
   rw[length_map] at this
   exact this
 let L:Ln β:=live.filterMap fun q=>(D[q.2]?).map fun x=>(q.1,x)
 obtain⟨f1,f2⟩:=Me (D:=D) live lt_live
 have f1:L.map (·.1)=live.map (·.1):=f1
 have f2:L.map (·.2)=(live.map (·.2)).filterMap (D[·]?):=f2
 have mem_L:∀j x,(j,x)∈L↔∃i,js[i]? = some j/\D[i]? = some x:=fun j x=>by
  rw[List.mem_filterMap]
  constructor
  ·rintro ⟨q,hq,e⟩
   cases z:D[q.2]? with
   |none=>rw[z] at e;cases e
   |some y=>rw[z] at e;cases e;exact⟨q.2,(mem_live _ _).mp hq,z⟩
  ·rintro ⟨i,h1,h2⟩
   exact⟨(j,i),(mem_live j i).mpr h1,by rw[h2];rfl⟩
 have occ:∀j,j∈js->Occ L j:=fun j hj=>by
  unfold Occ
  rw[f1]
  obtain⟨i,hi,rfl⟩:=List.getElem_of_mem hj
  exact List.mem_map.mpr ⟨(js[i],i),(mem_live _ _).mpr (getElem?_eq_getElem hi),rfl⟩
 refine⟨{mask:=m,place:=(live.map (·.1)).toArray,dummies:=#[],finger:=fi,led:=led,moves:=mo,plain:=pl},(live.map (·.2)).toArray,L,?_,?_,?_,?_,?_,rfl,rfl,rfl⟩
 ·unfold laid
  have e:(D.toArray.map (·.1))=(D.map (·.1)).toArray:=by simp
  rw[e,h1]
  rfl
 ·rw[f2]
  simp
 ·exact {
   place:=by rw[f1]
   ris:=by
    have:=ris_live
    rw[<- f1] at this
    exact List.pairwise_map.mp this
   le:=fun x hx=>by
    obtain⟨i,h1,_⟩:=(mem_L x.1 x.2).mp hx
    exact w.le _ (mem_of_getElem? h1)
   dum:=rfl
   two:=⟨k,hm,hk⟩
   on:=fun x hx=>by
    obtain⟨i,h1,h2⟩:=(mem_L x.1 x.2).mp hx
    exact (w.on i x.1 x.2.1 h1 (by rw[getElem?_map,h2];rfl)).mono occ}
 ·rw[<- lj,<- len_live,<- length_map (f:=(·.1)) (as:=L),f1,length_map]
 ·intro x
  rw[mem_map]
  constructor
  ·rintro ⟨⟨j,y⟩,hy,rfl⟩
   obtain⟨i,_,h2⟩:=(mem_L j y).mp hy
   exact mem_of_getElem? h2
  ·intro hx
   obtain⟨i,hi,rfl⟩:=List.getElem_of_mem hx
   have hij:i<js.length:=by omega
   exact⟨(js[i],D[i]),(mem_L _ _).mpr ⟨i,getElem?_eq_getElem hij,getElem?_eq_getElem hi⟩,rfl⟩
end
theorem Jn(n:Nat):∀(fuel k:Nat),∃q,sizeAbove.go n fuel (2 ^ k)=2 ^ q/\k<=q/\(n<2 ^ (k+fuel)->n<2 ^ q)/\(2 ^ q=2 ^ k\/2 ^ q<=2*n)
 |0,k=>⟨k,rfl,Nat.le_refl _,fun h=>h,.inl rfl⟩
 |fuel+1,k=>by
  rw[sizeAbove.go]
  by_cases c:2 ^ k<=n
  ·rw[if_pos c]
   obtain⟨q,h1,h2,h3,h4⟩:=Jn n fuel (k+1)
   rw[<- pow_succ]
   refine⟨q,h1,∅,fun h=>h3 (by rw[Nat.add_assoc,Nat.add_comm 1 fuel];exact h),.inr ?_⟩
   rcases h4 with h4|h4
   ·rw[h4,pow_succ];omega
   ·exact h4
  ·rw[if_neg c]
   exact⟨k,rfl,Nat.le_refl _,fun _=>by omega,.inl rfl⟩
theorem OG(n:Nat)(h:n<2 ^ 60):∃k,sizeAbove n=2 ^ k/\3<=k/\n<2 ^ k/\(2 ^ k=8\/2 ^ k<=2*n):=by
 obtain⟨q,h1,h2,h3,h4⟩:=Jn n 64 3
 exact⟨q,h1,h2,h3 (lt_of_lt_of_le h (Nat.pow_le_pow_right ⋯ ⋯)),h4⟩
end ST
set_option maxHeartbeats 1000000
namespace ST
open PySem PySem.SetTable
section
variable {prog:Program}{w:World}{K:Type}[DecidableEq K]{knd:KeyKind prog w K}
variable {A:Around}{E:Value->Shared->Prop}{s:Shared}
theorem EC{ks:List K}{a:Addr}{Q:Bool->Shared->Prop}(hk:IsTupleKey knd s.heap ks a)(h:Q false s):wpAny (model prog w) A (ofAClassStatement 8 (.ref a)) Q E s:=by
 have hT:=hk.typeIs
 obtain⟨o,items,n,ho,_,hd,hi⟩:=hk
 unfold ofAClassStatement
 refine wpAny_bind (wpAny_typeOf hT ?_)
 dsimp only
 rw[if_pos ⋯]
 refine wpAny_bind (wpAny_pure ?_)
 simp only[Bool.not_true,false_eq_true,if_false]
 refine wpAny_bind (wpAny_seqItems ho hd ?_)
 refine wpAny_bind ?_
 show wpAny _ _ (forIn items _ _) _ _ s
 rw[<- Array.forIn_toList]
 refine wpAny_forIn_list _ (fun rest r s'=>r.1=none/\s'=s/\∀v∈rest,carriedByValue v=true) _ ?_ ?_ _ _ ⟨rfl,rfl,hi.byValue⟩
 ·rintro v rest r s' ⟨hr,rfl,hall⟩
  have e:ofAClassStatement 7 v=pure false:=by
   have:=hall v mem_cons_self
   cases v with
   |ref a=>simp[carriedByValue] at this
   |_=>first|rfl|simp[ofAClassStatement]|(unfold ofAClassStatement;rfl)
  rw[e]
  refine wpAny_bind (wpAny_pure ?_)
  simp only[false_eq_true,if_false]
  exact wpAny_pure ⟨rfl,rfl,fun u hu'=>hall u (mem_cons_of_mem _ hu')⟩
 ·rintro ⟨r1,r2⟩ s' ⟨hr,rfl,_⟩
  simp only at hr
  subst hr
  exact wpAny_pure h
theorem LU{k:List K}{q:Addr}(hk:IsTupleKey knd s.heap k q)(stored:List Value)(hs:∀v∈stored,∃k' q',v = .ref q'/\IsTupleKey knd s.heap k' q'){Q:Bool->Shared->Prop}(h:Q false s) :
  wpAny (model prog w) A (searchCouldBeSeen (.ref q) stored) Q E s:=by
 unfold searchCouldBeSeen
 refine wpAny_bind ?_
 refine wpAny_forIn_list _ (fun rest r s'=>r.1=none/\s'=s/\∀v∈rest,∃k' q',v = .ref q'/\IsTupleKey knd s.heap k' q') _ ?_ ?_ _ _ ⟨rfl,rfl,hs⟩
 ·rintro v rest r s' ⟨hr,rfl,hall⟩
  obtain⟨k',q',rfl,hk'⟩:=hall v mem_cons_self
  have up:∀v∈rest,∃k' q',v = .ref q'/\IsTupleKey knd s'.heap k' q':=fun u hu'=>hall u (mem_cons_of_mem _ hu')
  dsimp only
  split
  ·exact wpAny_pure ⟨rfl,rfl,up⟩
  ·refine wpAny_bind (wpAny_eqIsQuiet_tuple hk ?_)
   simp only[Bool.not_true,false_eq_true,if_false]
   refine wpAny_bind (wpAny_eqIsQuiet_tuple hk' ?_)
   simp only[Bool.not_true,false_eq_true,if_false]
   refine wpAny_bind (EC hk ?_)
   simp only[false_eq_true,if_false]
   refine wpAny_bind (EC hk' ?_)
   simp only[false_eq_true,if_false]
   exact wpAny_pure ⟨rfl,rfl,up⟩
 ·rintro ⟨r1,r2⟩ s' ⟨hr,rfl,_⟩
  simp only at hr
  subst hr
  exact wpAny_pure h
noncomputable def Ent(knd:KeyKind prog w K)(h:Heap)(x:Nat×Int×Value)(k:List K):Prop:=∃q,x.2.2 = .ref q/\IsTupleKey knd h k q/\x.2.1=tupleKeyHash knd k
theorem Ent.inj{h:Heap}{x:Nat×Int×Value}{k k':List K}(a:Ent knd h x k)(b:Ent knd h x k'):k=k':=by
 obtain⟨q,a1,a2,_⟩:=a
 obtain⟨q',b1,b2,_⟩:=b
 rw[a1] at b1;cases b1
 exact a2.inj b2
theorem fits_of{t:SetTable}{L:Ln Value}(T:Tab t L)(hc:L.length<=t.mask):t.fits (L.map (·.2)).toArray.size=true:=by
 unfold SetTable.fits
 rw[T.fill,T.place]
 simp[hc]
theorem Ed{a:Addr}{o:Obj}{L:Ln Value}{ep:Nat}{t:SetTable}(hA:A.units<cLine)(ho:s.heap.get? a=some o)(hd:o.data = .set (L.map (·.2)).toArray ep t)(T:Tab t L)(hc:L.length<=t.mask)
  (hL:∀x∈L,∃k,Ent knd s.heap x k) {k:List K} {q:Addr} (hk:IsTupleKey knd s.heap k q) {adding:Bool} {e:Nat} {Q:SetFound->Shared->Prop}
  (yes:(∃x∈L,Ent knd s.heap x k)->∀r,(adding=false->r.isSome=true)->Q (.there r) s) (no:(∀x∈L,¬ Ent knd s.heap x k)->Q (.free e false) s) :
  ∀(n fuel:Nat) (stand:Option Probe),Way t.mask (Occ L) (stand.getD (t.probeStart (tupleKeyHash knd k))) n e->n<fuel->n<10*turns t.mask ->
   (∀y∈L,Ent knd s.heap y k->On t.mask (Occ L) (stand.getD (t.probeStart (tupleKeyHash knd k))) y.1) ->
   wpAny (model prog w) A (setSearchFrom a (.ref q) (tupleKeyHash knd k) adding fuel stand) Q E s:=by
 intro n
 induction n using Nat.strongRecOn with
 |_ n ih=>
  intro fuel stand wy hf hf2 hon
  obtain⟨f,rfl⟩:∃f,fuel=f+1:=⟨fuel-1,∅⟩
  have hfit:=fits_of T hc
  unfold setSearchFrom
  refine wpAny_bind (wpAny_setState_of ho hd hfit ?_)
  dsimp only
  have hgw:t.gaveWay=false:=by
   unfold SetTable.gaveWay
   rw[T.odd]
   rfl
  rw[hgw]
  simp only[false_eq_true,if_false]
  have hp:=LM T (hashAt:=fun i=>(((L.map (·.2)).toArray)[i]?.map (·.1)).getD 0) (fun i hi=>by
   unfold hashOf
   simp
   rfl) (tupleKeyHash knd k) n _ e (10*turns t.mask) wy hf2
  rcases hp with ⟨g1,g2⟩|⟨i,x,next,n',g1,g2,g3,g4,g5,g6,g7⟩
  ·refine (show wpAny (model prog w) A (match t.probe (fun i=>(((L.map (·.2)).toArray)[i]?.map (·.1)).getD 0) (tupleKeyHash knd k) (stand.getD (t.probeStart (tupleKeyHash knd k))) with|some met=>_|_=>_) Q E s from ?_)
   unfold probe
   rw[g1]
   refine wpAny_pure (no fun x hx z=>?_)
   obtain⟨_,_,_,z3⟩:=id z
   exact g2 x hx z3 (hon x hx z)
  ·refine (show wpAny (model prog w) A (match t.probe (fun i=>(((L.map (·.2)).toArray)[i]?.map (·.1)).getD 0) (tupleKeyHash knd k) (stand.getD (t.probeStart (tupleKeyHash knd k))) with|some met=>_|_=>_) Q E s from ?_)
   unfold probe
   rw[g1]
   dsimp only
   obtain⟨k',hk'⟩:=hL x (mem_of_getElem? g2)
   obtain⟨q',e1,e2,e3⟩:=id hk'
   have hes:(L.map (·.2)).toArray[i]? = some (x.2.1,.ref q'):=by
    rw[List.getElem?_toArray,getElem?_map,g2,<- e1]
    rfl
   have go:wpAny (model prog w) A (do
     let some (_,y):=((L.map (·.2)).toArray)[i]?|unsupported "internal:set-entry"
     let equal <- holding [y] (eqBool y (.ref q))
     let (es',_,t') <- setState a
     if adding&&equal then return .there none
     let some same:=t'.sameMemory t.moves t.mask|unsupported "set.changed-during-lookup:is-the-new-block-at-the-old-address"
     let still <- match (if same then t'.slot x.1 else .empty) with
      |.live i'=>match es'[i']? with
       |some (_,y')=>do pure (if <- isSame y' y then some i' else none)
       |none=>pure none
      |_=>pure none
     match still with
     |none=>rule "set.search.anew";setSearchFrom a (.ref q) (tupleKeyHash knd k) adding f none
     |some i'=>if equal then return .there (some i') else setSearchFrom a (.ref q) (tupleKeyHash knd k) adding f (some next)) Q E s:=by
    rw[hes]
    dsimp only
    refine wpAny_bind (wpAny_holding (wpAny_eqBool_tuple hA e2 hk ?_))
    refine wpAny_bind (wpAny_setState_of ho hd hfit ?_)
    dsimp only
    have sm:t.sameMemory t.moves t.mask=some true:=by
     unfold sameMemory
     rw[if_pos (beq_self_eq_true _)]
    by_cases c:k'=k
    ·subst c
     have hex:∃x∈L,Ent knd s.heap x k':=⟨x,mem_of_getElem? g2,hk'⟩
     rw[decide_eq_true rfl]
     cases adding with
     |true=>exact wpAny_pure (yes hex none fun z=>nomatch z)
     |false=>
      simp only[Bool.false_and,false_eq_true,if_false]
      rw[sm]
      dsimp only
      rw[if_pos rfl,g3]
      dsimp only
      rw[hes]
      dsimp only
      refine wpAny_bind (wpAny_isSame_ref_self (wpAny_bind (wpAny_pure ?_)))
      rw[if_pos rfl]
      dsimp only
      rw[if_pos trivial]
      exact wpAny_pure (yes hex _ fun _=>rfl)
    ·rw[decide_eq_false c]
     simp only[Bool.and_false,false_eq_true,if_false]
     rw[sm]
     dsimp only
     rw[if_pos rfl,g3]
     dsimp only
     rw[hes]
     dsimp only
     refine wpAny_bind (wpAny_isSame_ref_self (wpAny_bind (wpAny_pure ?_)))
     rw[if_pos rfl]
     dsimp only
     refine ih n' g5 f (some next) g6 ∅ ∅ fun y hy hyk=>?_
     obtain⟨_,_,_,z3⟩:=id hyk
     rcases g7 y hy z3 (hon y hy hyk) with z|z
     ·subst z
      exact absurd (hk'.inj hyk) c
     ·exact z
   cases hl:t.led with
   |true=>
    simp only[Bool.not_true,false_eq_true,if_false]
    exact go
   |false=>
    simp only[Bool.not_false,if_true]
    refine wpAny_bind (LU hk _ (fun v hv=>?_) ?_)
    ·obtain⟨y,hy,rfl⟩:=List.mem_map.mp hv
     have hy1:y∈L.map (·.2):=by
      have:=Array.mem_toList_iff.mp hy
      rw[Array.mem_filter] at this
      simpa using this.1
     obtain⟨x',hx',rfl⟩:=List.mem_map.mp hy1
     obtain⟨k'',q'',b1,b2,_⟩:=hL x' hx'
     exact⟨k'',q'',b1,b2⟩
    ·simp only[false_eq_true,if_false]
     exact go
end
end ST
namespace ST
open PySem PySem.SetTable
noncomputable def EA(h:Heap)(a:Addr)(L:Ln Value):Prop:=∃o ep t,h.get? a=some o/\o.ExactSet/\o.data = .set (L.map (·.2)).toArray ep t/\Tab t L/\L.length*5<t.mask*3
section
variable {prog:Program}{w:World}{K:Type}[DecidableEq K]{knd:KeyKind prog w K}
variable {A:Around}{E:Value->Shared->Prop}{s:Shared}
theorem BE{a:Addr}{o:Obj}{L:Ln Value}{ep:Nat}{t:SetTable}(hA:A.units<cLine)(ho:s.heap.get? a=some o)(hd:o.data = .set (L.map (·.2)).toArray ep t)(T:Tab t L)(hc:L.length<=t.mask)
  (hL:∀x∈L,∃k,Ent knd s.heap x k) (hb:L.length<=9900) {k:List K} {q:Addr} (hk:IsTupleKey knd s.heap k q) {adding:Bool} {Q:SetFound->Shared->Prop}
  (yes:(∃x∈L,Ent knd s.heap x k)->∀r,(adding=false->r.isSome=true)->Q (.there r) s)
  (no:(∀x∈L,¬ Ent knd s.heap x k)->∀n e,Way t.mask (Occ L) (sth t.mask (tupleKeyHash knd k)) n e->e<=t.mask->Q (.free e false) s) :
  wpAny (model prog w) A (setSearch a (.ref q) (tupleKeyHash knd k) adding) Q E s:=by
 obtain⟨n,e,wy,hn,he⟩:=T.way hc (tupleKeyHash knd k)
 refine Ed hA ho hd T hc hL hk yes (fun z=>no z n e wy he) n 100000 none wy ∅ (by unfold turns;omega) fun y hy hyk=>?_
 obtain⟨_,_,_,z3⟩:=hyk
 have:=T.on y hy
 rw[z3] at this
 exact this
theorem IQ(q:Addr)(es:Array (Int×Value)):byScan (.ref q) es=false:=rfl
theorem Fc{a:Addr}{L:Ln Value}(hA:A.units<cLine)(S:EA s.heap a L)(hL:∀x∈L,∃k,Ent knd s.heap x k)(hb:L.length<=9900){k:List K}{q:Addr}(hk:IsTupleKey knd s.heap k q){Q:Bool->Shared->Prop}
  (h:∀b:Bool,(b=true↔∃x∈L,Ent knd s.heap x k)->Q b {s with toks:=s.toks+(k.length+1)}):wpAny (model prog w) A (setContains a (.ref q)) Q E s:=by
 obtain⟨o,ep,t,ho,hex,hd,T,hr⟩:=S
 unfold setContains
 refine wpAny_holding (wpAny_bind (wpAny_pyHash_tuple hA hk (wpAny_bind ?_)))
 have hc:L.length<=t.mask:=by omega
 unfold setFind setFindIn
 refine wpAny_bind (wpAny_setState_of (s:={s with toks:=s.toks+(k.length+1)}) ho hd (fits_of T hc) ?_)
 dsimp only
 rw[IQ]
 simp only[false_eq_true,if_false]
 refine wpAny_bind (BE (s:={s with toks:=s.toks+(k.length+1)}) hA ho hd T hc hL hb hk (fun z r hr=>?_) fun z n e _ _=>?_)
 ·refine wpAny_pure (wpAny_pure (h _ ⟨fun _=>z,fun _=>hr rfl⟩))
 ·refine wpAny_pure (wpAny_pure (h _ ⟨fun w=>(nomatch w),fun ⟨x,hx,hx2⟩=>absurd hx2 (z x hx)⟩))
theorem Mg{ks:List K}{a:Addr}{Q:Bool->Shared->Prop}(hk:IsTupleKey knd s.heap ks a)(h:∀b,Q b s):wpAny (model prog w) A (hashByValue 8 (.ref a)) Q E s:=by
 have hT:=hk.typeIs
 obtain⟨o,items,n,ho,_,hd,hi⟩:=hk
 unfold hashByValue
 refine wpAny_bind (wpAny_specialOf hT F.slot_tuple_hash.lookup ?_)
 dsimp only
 refine wpAny_bind (wpAny_seqItems ho hd ?_)
 refine wpAny_bind ?_
 show wpAny _ _ (forIn items _ _) _ _ s
 rw[<- Array.forIn_toList]
 refine wpAny_forIn_list _ (fun rest r s'=>r.1=none/\s'=s/\∀v∈rest,carriedByValue v=true) _ ?_ ?_ _ _ ⟨rfl,rfl,hi.byValue⟩
 ·rintro v rest r s' ⟨hr,rfl,hall⟩
  have e:∃b,hashByValue 7 v=pure b:=by
   have:=hall v mem_cons_self
   cases v with
   |ref a=>simp[carriedByValue] at this
   |_=>exact⟨_,rfl⟩
  obtain⟨b,e⟩:=e
  rw[e]
  refine wpAny_bind (wpAny_pure ?_)
  cases b with
  |true=>
   simp only[Bool.not_true,false_eq_true,if_false]
   exact wpAny_pure ⟨rfl,rfl,fun u hu'=>hall u (mem_cons_of_mem _ hu')⟩
  |false=>
   simp only[Bool.not_false,if_true]
   exact wpAny_pure (wpAny_pure (h _))
 ·rintro ⟨r1,r2⟩ s' ⟨hr,rfl,_⟩
  simp only at hr
  subst hr
  exact wpAny_pure (h _)
theorem Tab.plain{t:SetTable}{L:Ln Value}(T:Tab t L)(b:Bool):Tab {t with plain:=b} L:=⟨T.place,T.ris,T.le,T.dum,T.two,T.on⟩
theorem BP{h:Heap}{a:Addr}{o:Obj}{es:Array (Int×Value)}{ep:Nat}{t:SetTable}(ho:h.get? a=some o)(hd:o.data = .set es ep t)(es':Array (Int×Value))(t':SetTable) :
  (h.update a (Obj.putSet es' t')).get? a=some {o with data:=.set es' (ep+1) t'}:=by
 have:=Heap.get?_update_self (Obj.putSet es' t') ho (by rw[putSet_of es' t' hd];rfl)
 rw[putSet_of es' t' hd] at this;exact this
theorem Ly{a:Addr}{o:Obj}{L:Ln Value}{ep:Nat}{t:SetTable}(ho:s.heap.get? a=some o)(hex:o.ExactSet)(hd:o.data = .set (L.map (·.2)).toArray ep t)(T:Tab t L)(hc:L.length<=t.mask)(h0:0<L.length)(hb:L.length<=9900)
  {Q:Unit->Shared->Prop} (h:∀h' L',Heap.SameBut a s.heap h'->EA h' a L'->L'.length=L.length->(∀y,y∈L'.map (·.2)↔y∈L.map (·.2))->Q () {s with heap:=h'}) :
  wpAny (model prog w) A (setRelay a (SetTable.grown L.length)) Q E s:=by
 have eg:SetTable.grown L.length=L.length*4:=by
  unfold SetTable.grown
  rw[if_neg ∅]
 rw[eg]
 obtain⟨k,k1,k2,k3,k4⟩:=OG (L.length*4) (Nat.lt_of_le_of_lt (show L.length*4<=40000 by omega) ⋯)
 have hk8:2 ^ 3<=2 ^ k:=Nat.pow_le_pow_right (show 2>0 by decide) k2
 have hm:(SetTable.sizeAbove (L.length*4)-1)+1=2 ^ k:=by rw[k1];omega
 have hD:(L.map (·.2)).length=L.length:=length_map ..
 obtain⟨t',order,L',l1,l2,l3,l4,l5,l6,_,_⟩:=Nw (β:=Value) hm k2 (L.map (·.2)) (by rw[hD,k1];omega) t.finger (t.movedTo (SetTable.sizeAbove (L.length*4)-1)) t.led t.plain
 rw[hD] at l4
 unfold setRelay
 refine wpAny_bind (wpAny_setState_of ho hd (fits_of T hc) ?_)
 dsimp only
 rw[if_neg (by rw[k1,sizeLine_eq];omega)]
 have er:t.relaid ((L.map (·.2)).toArray.map (·.1)) (L.length*4)=some (t',order):=l1
 rw[er]
 refine wpAny_bind ?_
 show wpAny _ _ (if ((order.filterMap ((L.map (·.2)).toArray[·]?)).size != (L.map (·.2)).toArray.size)=true then _ else _) _ _ s
 rw[l2]
 have e0:((L'.map (·.2)).toArray.size != (L.map (·.2)).toArray.size)=false:=by simp[l4]
 rw[e0]
 simp only[false_eq_true,if_false]
 refine wpAny_pure ?_
 dsimp only
 refine wpAny_storeSet_of ho hd ?_ (by rw[size_toArray,length_map,l4,sizeLine_eq];omega)
 exact h _ L' (Heap.SameBut.update s.heap a _) ⟨_,_,t',BP ho hd _ _,hex,rfl,l3,by rw[l4,l6,k1];omega⟩ l4 l5
theorem Qw{a:Addr}{L:Ln Value}(hA:A.units<cLine)(S:EA s.heap a L)(hL:∀x∈L,∃k,Ent knd s.heap x k)(hb:L.length<=9800){k:List K}{q:Addr}(hk:IsTupleKey knd s.heap k q){Q:Bool->Shared->Prop}
  (yes:(∃x∈L,Ent knd s.heap x k)->Q false {s with toks:=s.toks+(k.length+1)})
  (no:(∀x∈L,¬ Ent knd s.heap x k)->∀h' L',Heap.SameBut a s.heap h'->EA h' a L'->L'.length=L.length+1->(∀y,y∈L'.map (·.2)↔y∈L.map (·.2)\/y=(tupleKeyHash knd k,.ref q)) ->
   Q true {s with heap:=h',toks:=s.toks+(k.length+1)}):wpAny (model prog w) A (setAdd a (.ref q)) Q E s:=by
 obtain⟨o,ep,t,ho,hex,hd,T,hr⟩:=S
 have hc:L.length<=t.mask:=by omega
 unfold setAdd
 refine wpAny_holding (wpAny_bind (wpAny_pyHash_tuple hA hk ?_))
 unfold setAddHashed
 refine wpAny_holding ?_
 unfold setAddHashedIn
 refine wpAny_bind (wpAny_setState_of (s:={s with toks:=s.toks+(k.length+1)}) ho hd (fits_of T hc) ?_)
 dsimp only
 rw[IQ]
 simp only[false_eq_true,if_false]
 refine wpAny_bind (BE (s:={s with toks:=s.toks+(k.length+1)}) hA ho hd T hc hL ∅ hk (fun z r hr=>?_) fun z n e wy he=>?_)
 ·exact wpAny_pure (yes z)
 ·dsimp only
  refine wpAny_bind (wpAny_setState_of (s:={s with toks:=s.toks+(k.length+1)}) ho hd (fits_of T hc) ?_)
  dsimp only
  obtain⟨B1,B2,rfl,p1,p2⟩:=T.put (y:=Value.ref q) wy he
  have mk:(t.put e).1.mask=t.mask:=rfl
  rw[p1]
  have ees:insertAt ((B1++B2).map (·.2)).toArray B1.length (tupleKeyHash knd k,Value.ref q)=((B1++(e,tupleKeyHash knd k,Value.ref q)::B2).map (·.2)).toArray:=by
   rw[map_append,map_append]
   have:=BK (B1.map (·.2)) (B2.map (·.2)) (tupleKeyHash knd k,Value.ref q)
   rw[length_map] at this
   exact this
  have len1:(B1++(e,tupleKeyHash knd k,Value.ref q)::B2).length=(B1++B2).length+1:=by simp;omega
  have mem1:∀y,y∈(B1++(e,tupleKeyHash knd k,Value.ref q)::B2).map (·.2)↔y∈(B1++B2).map (·.2)\/y=(tupleKeyHash knd k,.ref q):=fun y=>by
   rw[map_append,map_append,mem_append,mem_append,map_cons,mem_cons]
   constructor
   ·rintro (z|z|z)
    ·exact .inl (.inl z)
    ·exact .inr z
    ·exact .inl (.inr z)
   ·rintro ((z|z)|z)
    ·exact .inl z
    ·exact .inr (.inr z)
    ·exact .inr (.inl z)
  have tail:∀(t1:SetTable),Tab t1 (B1++(e,tupleKeyHash knd k,Value.ref q)::B2)->t1.mask=t.mask->wpAny (model prog w) A (do
    storeSet a (insertAt ((B1++B2).map (·.2)).toArray B1.length (tupleKeyHash knd k,Value.ref q)) t1
    if (!false&&t1.tooFull)=true then do
     setRelay a (SetTable.grown (((B1++B2).map (·.2)).toArray.size+1))
     pure true
    else pure true) Q E {s with toks:=s.toks+(k.length+1)}:=by
   intro t1 T1 m1
   rw[ees]
   have hs1:((B1++(e,tupleKeyHash knd k,Value.ref q)::B2).map (·.2)).toArray.size<=sizeLine:=by
    rw[size_toArray,length_map,len1,sizeLine_eq];omega
   refine wpAny_bind (wpAny_storeSet_of (s:={s with toks:=s.toks+(k.length+1)}) ho hd ?_ hs1)
   have ho1:=BP ho hd ((B1++(e,tupleKeyHash knd k,Value.ref q)::B2).map (·.2)).toArray t1
   have sb1:=Heap.SameBut.update s.heap a (Obj.putSet ((B1++(e,tupleKeyHash knd k,Value.ref q)::B2).map (·.2)).toArray t1)
   have esz:((B1++B2).map (·.2)).toArray.size+1=(B1++(e,tupleKeyHash knd k,Value.ref q)::B2).length:=by
    rw[len1,size_toArray,length_map]
   rw[esz]
   by_cases tf:t1.tooFull=true
   ·rw[tf]
    rw[if_pos (by rfl)]
    refine wpAny_bind (Ly (s:={s with heap:=_,toks:=s.toks+(k.length+1)}) ho1 hex rfl T1 (by rw[len1,m1];omega) ∅ ∅ fun h' L' c1 c2 c3 c4=>?_)
    exact wpAny_pure (no z h' L' (sb1.trans c1) c2 (c3.trans len1) fun y=>(c4 y).trans (mem1 y))
   ·rw[if_neg (by simpa using tf)]
    refine wpAny_pure (no z _ _ sb1 ⟨_,_,t1,ho1,hex,rfl,T1,?_⟩ len1 mem1)
    unfold tooFull at tf
    rw[T1.fill] at tf
    simpa using tf
  by_cases pl:(t.put e).1.plain=true
  ·rw[if_pos pl]
   refine wpAny_bind (Mg (s:={s with toks:=s.toks+(k.length+1)}) hk fun b=>?_)
   cases b with
   |true=>exact tail _ p2 rfl
   |false=>exact tail _ (p2.plain false) rfl
  ·rw[if_neg pl]
   refine wpAny_bind (wpAny_pure ?_)
   exact tail _ p2 rfl
end
end ST
set_option maxHeartbeats 4000000
namespace NM
@[irreducible] def Sz (n:Nat) (i:Int):Prop:=i.natAbs<2 ^ n
theorem Sz.mono{n m:Nat}{i:Int}(h:Sz n i)(l:n<=m):Sz m i:=by unfold Sz at *;exact lt_of_lt_of_le h (Nat.pow_le_pow_right ⋯ l)
theorem Sz.mul{n m:Nat}{i j:Int}(h:Sz n i)(g:Sz m j):Sz (n+m) (i*j):=by
 unfold Sz at *
 rw[natAbs_mul,Nat.pow_add]
 exact Nat.mul_lt_mul'' h g
theorem Sz.add{n:Nat}{i j:Int}(h:Sz n i)(g:Sz n j):Sz (n+1) (i+j):=by
 unfold Sz at *
 have:=Int.natAbs_add_le i j
 rw[pow_succ]
 omega
theorem Sz.neg{n:Nat}{i:Int}(h:Sz n i):Sz n (-i):=by unfold Sz at *;rw[Int.natAbs_neg];exact h
theorem Sz.sub{n:Nat}{i j:Int}(h:Sz n i)(g:Sz n j):Sz (n+1) (i-j):=by rw[Int.sub_eq_add_neg];exact h.add g.neg
theorem Sz.le{n:Nat}{i j:Int}(h:Sz n i)(g:j.natAbs<=i.natAbs):Sz n j:=by unfold Sz at *;exact Nat.lt_of_le_of_lt g h
theorem Sz.of{n:Nat}{i:Int}(h:i.natAbs<2 ^ n):Sz n i:=by unfold Sz;exact h
theorem Sz.lt{n:Nat}{i:Int}(h:Sz n i):i.natAbs<2 ^ n:=by unfold Sz at h;exact h
noncomputable def g3(a b c:Int):Nat:=Int.gcd (Int.gcd a b:Nat) c
theorem Ow(a b c:Int):Int.gcd (Int.gcd c a:Nat) b=g3 a b c:=by
 unfold g3
 simp only[Int.gcd,Int.natAbs_natCast]
 rw[Nat.gcd_assoc,Nat.gcd_comm]
theorem Ld(a b c:Int):((g3 a b c:Nat):Int) ∣ a/\((g3 a b c:Nat):Int) ∣ b/\((g3 a b c:Nat):Int) ∣ c:=by
 have h:((g3 a b c:Nat):Int) ∣ ((Int.gcd a b:Nat):Int):=Int.gcd_dvd_left ..
 exact⟨Int.dvd_trans h (Int.gcd_dvd_left ..),Int.dvd_trans h (Int.gcd_dvd_right ..),Int.gcd_dvd_right ..⟩
theorem Pk{a b c:Int}{k:Nat}(h1:(k:Int) ∣ a)(h2:(k:Int) ∣ b)(h3:(k:Int) ∣ c):k ∣ g3 a b c:=by
 unfold g3
 exact Int.dvd_gcd (Int.natCast_dvd_natCast.mpr (Int.dvd_gcd h1 h2)) h3
theorem DF{a b c:Int}(h:c≠0):0<g3 a b c:=by
 unfold g3
 exact Int.gcd_pos_of_ne_zero_right _ h
theorem Lo(a b c k:Int):g3 (a*k) (b*k) (c*k)=g3 a b c*k.natAbs:=by
 unfold g3
 simp only[Int.gcd,Int.natAbs_natCast,natAbs_mul,Nat.gcd_mul_right]
theorem MM(a b c:Int):g3 a (-b) c=g3 a b c:=by
 unfold g3
 rw[Int.gcd_neg]
theorem Mz(a b c:Int):g3 (-a) b c=g3 a b c:=by
 unfold g3
 rw[Int.neg_gcd]
structure N3 where
 a:Int
 b:Int
 c:Int
deriving DecidableEq
theorem N3.ext'{x y:N3}(h1:x.a=y.a)(h2:x.b=y.b)(h3:x.c=y.c):x=y:=by cases x;cases y;simp_all
structure Ok(x:N3):Prop where
 c:0<x.c
 g:g3 x.a x.b x.c=1
noncomputable def dv(a b c:Int):Int:=if c<0 then -(g3 a b c:Nat) else (g3 a b c:Nat)
noncomputable def low(a b c:Int):N3:=⟨a.fdiv (dv a b c),b.fdiv (dv a b c),c.fdiv (dv a b c)⟩
theorem CJ{a k q:Int}(hk:k≠0)(h:a=k*q):a.fdiv k=q:=by
 subst h
 exact Int.mul_fdiv_cancel_left q hk
theorem Rx{a b c:Int}(h:c≠0):dv a b c≠0:=by
 have:=DF (a:=a) (b:=b) h
 unfold dv
 split<;>omega
theorem O6(a b c:Int):dv a b c ∣ a/\dv a b c ∣ b/\dv a b c ∣ c:=by
 obtain⟨h1,h2,h3⟩:=Ld a b c
 unfold dv
 split
 ·exact⟨Int.neg_dvd.mpr h1,Int.neg_dvd.mpr h2,Int.neg_dvd.mpr h3⟩
 ·exact⟨h1,h2,h3⟩
theorem nG(a b:Int){c:Int}(h:c≠0):∃k:Int,k≠0/\(0<k↔0<c)/\a=k*(low a b c).a/\b=k*(low a b c).b/\c=k*(low a b c).c/\Ok (low a b c):=by
 have hk:=Rx (a:=a) (b:=b) h
 obtain⟨⟨p,hp⟩,⟨q,hq⟩,⟨r,hr⟩⟩:=O6 a b c
 have ep:(low a b c).a=p:=CJ hk hp
 have eq:(low a b c).b=q:=CJ hk hq
 have er:(low a b c).c=r:=CJ hk hr
 have hg:=DF (a:=a) (b:=b) h
 have hs:0<dv a b c↔0<c:=by unfold dv;split<;>omega
 have hr0:0<r:=by
  have hr':r≠0:=fun z=>h (by rw[hr,z,Int.mul_zero])
  rcases Int.lt_trichotomy 0 (dv a b c) with z|z|z
  ·have:=hs.mp z
   rw[hr] at this
   rw[Int.mul_comm] at this
   exact Int.pos_of_mul_pos_left this z |> fun t=>t
  ·exact absurd z.symm hk
  ·have:c<0:=by omega
   rcases Int.lt_trichotomy 0 r with w|w|w
   ·exact w
   ·exact absurd w.symm hr'
   ·have:=Int.mul_pos_of_neg_of_neg z w
    rw[<- hr] at this
    omega
 refine⟨dv a b c,hk,hs,by rw[ep];exact hp,by rw[eq];exact hq,by rw[er];exact hr,by rw[er];exact hr0,?_⟩
 rw[ep,eq,er]
 have e:=Lo p q r (dv a b c)
 rw[Int.mul_comm p,Int.mul_comm q,Int.mul_comm r,<- hp,<- hq,<- hr] at e
 have e2:(dv a b c).natAbs=g3 a b c:=by unfold dv;split<;>simp
 rw[e2] at e
 have:g3 p q r*g3 a b c=1*g3 a b c:=by omega
 exact Nat.eq_of_mul_eq_mul_right hg this
theorem sH(a b:Int){c:Int}(h:c≠0):Ok (low a b c):=(nG a b h).choose_spec.2.2.2.2.2
theorem Ok.same{x y:N3}(hx:Ok x)(hy:Ok y)(h1:x.a*y.c=y.a*x.c)(h2:x.b*y.c=y.b*x.c):x=y:=by
 have key:∀{u v:N3},Ok u->Ok v->u.a*v.c=v.a*u.c->u.b*v.c=v.b*u.c->u.c ∣ v.c:=fun {u v} hu hv e1 e2=>by
  have hd:u.c.natAbs ∣ g3 (u.a*v.c) (u.b*v.c) (u.c*v.c):=Pk
   (by rw[Int.natAbs_of_nonneg (le_of_lt hu.c),e1];exact Int.dvd_mul_left _ _) (by rw[Int.natAbs_of_nonneg (le_of_lt hu.c),e2];exact Int.dvd_mul_left _ _) (by rw[Int.natAbs_of_nonneg (le_of_lt hu.c)];exact Int.dvd_mul_right _ _)
  rw[Lo,hu.g,Nat.one_mul] at hd
  exact Int.natAbs_dvd_natAbs.mp hd
 have hc:x.c=y.c:=Int.dvd_antisymm (le_of_lt hx.c) (le_of_lt hy.c) (key hx hy h1 h2) (key hy hx h1.symm h2.symm)
 have hn:y.c≠0:=by have:=hy.c;omega
 rw[hc] at h1 h2
 exact N3.ext' (Int.eq_of_mul_eq_mul_right hn h1) (Int.eq_of_mul_eq_mul_right hn h2) hc
theorem Pw(a b:Int){c:Int}(h:c≠0):(low a b c).a.natAbs<=a.natAbs/\(low a b c).b.natAbs<=b.natAbs/\(low a b c).c.natAbs<=c.natAbs:=by
 obtain⟨k,hk,_,p1,p2,p3,_⟩:=nG a b h
 have hk':1<=k.natAbs:=by omega
 have le:∀{u v:Int},u=k*v->v.natAbs<=u.natAbs:=fun {u v} e=>by
  rw[e,natAbs_mul]
  exact Nat.le_mul_of_pos_left _ hk'
 exact⟨le p1,le p2,le p3⟩
structure Bd(n:Nat)(x:N3):Prop where
 a:Sz n x.a
 b:Sz n x.b
 c:Sz n x.c
theorem Bd.mono{n m:Nat}{x:N3}(h:Bd n x)(l:n<=m):Bd m x:=⟨h.a.mono l,h.b.mono l,h.c.mono l⟩
theorem vG{a b c:Int}{n:Nat}(h:c≠0)(ha:Sz n a)(hb:Sz n b)(hc:Sz n c):Bd n (low a b c):=by
 obtain⟨h1,h2,h3⟩:=Pw a b h
 exact⟨ha.le h1,hb.le h2,hc.le h3⟩
noncomputable def plus(x y:N3):N3:=low (x.a*y.c+y.a*x.c) (x.b*y.c+y.b*x.c) (x.c*y.c)
noncomputable def less(x y:N3):N3:=low (x.a*y.c-y.a*x.c) (x.b*y.c-y.b*x.c) (x.c*y.c)
noncomputable def times(d:Int)(x y:N3):N3:=low (x.a*y.a+d*x.b*y.b) (x.a*y.b+x.b*y.a) (x.c*y.c)
noncomputable def norm(d:Int)(x:N3):Int:=x.a*x.a-d*x.b*x.b
noncomputable def MJ(d:Int)(x:N3):N3:=low (x.c*x.a) (-x.c*x.b) (norm d x)
noncomputable def N2(x:N3):N3:=⟨x.a,-x.b,x.c⟩
noncomputable def minus(x:N3):N3:=⟨-x.a,-x.b,x.c⟩
noncomputable def az:N3:=⟨0,0,1⟩
noncomputable def one:N3:=⟨1,0,1⟩
theorem Ok.cn{x:N3}(h:Ok x):x.c≠0:=by have:=h.c;omega
theorem Gp{x y:N3}(h:Ok x)(g:Ok y):x.c*y.c≠0:=Int.mul_ne_zero h.cn g.cn
theorem i6{x:N3}(h:Ok x):Ok (minus x):=⟨h.c,by show g3 (-x.a) (-x.b) x.c=1;rw[Mz,MM];exact h.g⟩
theorem dn{x y:N3}(h:Ok x)(g:Ok y):Ok (plus x y):=sH _ _ (Gp h g)
theorem lF{x y:N3}(h:Ok x)(g:Ok y):Ok (less x y):=sH _ _ (Gp h g)
theorem qJ:Ok az:=⟨⋯,⋯⟩
theorem Qa:Ok one:=⟨⋯,⋯⟩
theorem tP{n:Nat}{x:N3}(h:Bd n x):Bd n (minus x):=⟨h.a.neg,h.b.neg,h.c⟩
theorem qP{n m:Nat}{x y:N3}(hx:Ok x)(hy:Ok y)(h:Bd n x)(g:Bd m y):Bd (n+m+1) (plus x y):=
 vG (Gp hx hy) ((h.a.mul g.c).add ((g.a.mul h.c).mono ∅)) ((h.b.mul g.c).add ((g.b.mul h.c).mono ∅)) ((h.c.mul g.c).mono ∅)
theorem Qb{d:Int}(h:2<=d)(h':d<=30):Sz 5 d:=by unfold Sz;omega
noncomputable def aM(d:Int):Prop:=2<=d/\d<=30/\d≠4/\d≠9/\d≠16/\d≠25
theorem Jt{d:Nat}(h:∀m:Nat,m*m≠d):∀{a b:Nat},a*a=d*(b*b)->b=0:=fun {a b} e=>by
 rcases Nat.eq_zero_or_pos b with hb|hb
 ·exact hb
 exfalso
 obtain⟨g,p,q,hg,hc,rfl,rfl⟩:=Nat.exists_coprime' (m:=a) (n:=b) (Nat.gcd_pos_of_pos_right _ hb)
 have e2:(p*p)*(g*g)=(d*(q*q))*(g*g):=by grind
 have e3:p*p=d*(q*q):=Nat.eq_of_mul_eq_mul_right (Nat.mul_pos hg hg) e2
 have hq:q ∣ p*p:=⟨d*q,by rw[e3];grind⟩
 have hq1:q ∣ p:=hc.symm.dvd_of_dvd_mul_left hq
 have hq2:q=1:=by
  have:=Nat.dvd_gcd hq1 (Nat.dvd_refl q)
  rw[hc] at this
  exact Nat.dvd_one.mp this
 subst hq2
 exact h p (by rw[e3];simp)
theorem aM.nat{d:Int}(h:aM d):∀m:Nat,m*m≠d.toNat:=fun m e=>by
 obtain⟨h1,h2,h3,h4,h5,h6⟩:=h
 have hm:m<=5:=by
  rcases lt_or_ge 5 m with z|z
  ·have:=mul_le_mul z z;omega
  ·exact z
 have:m=0\/m=1\/m=2\/m=3\/m=4\/m=5:=by omega
 rcases this with rfl|rfl|rfl|rfl|rfl|rfl<;>omega
theorem aM.Kf{d a b:Int}(h:aM d)(e:a*a=d*b*b):a=0/\b=0:=by
 have hd:d=((d.toNat:Nat):Int):=by have:=h.1;omega
 have e1:a.natAbs*a.natAbs=d.toNat*(b.natAbs*b.natAbs):=by
  have e2:=congrArg Int.natAbs e
  rw[natAbs_mul,natAbs_mul,natAbs_mul] at e2
  rw[e2,Nat.mul_assoc]
  congr 1
  omega
 have hb:=Jt h.nat e1
 have hb':b=0:=by omega
 subst hb'
 have:a*a=0:=by rw[e];simp
 exact⟨by rcases Int.mul_eq_zero.mp this with z|z<;>exact z,rfl⟩
noncomputable def sg(d a b:Int):Int:=
 if a=0/\b=0 then 0 else if 0<=a/\0<=b then 1 else if a<=0/\b<=0 then -1 else if (if d*b*b<a*a then a else b)>0 then 1 else -1
theorem OK{u v:Int}(hu:0<=u)(h:u*u<=v*v)(hv:0<=v):u<=v:=by
 rcases Int.lt_or_le v u with z|z
 ·have:=Int.mul_lt_mul_of_pos_left z (show 0<u by omega)
  have:=Int.mul_le_mul_of_nonneg_right (le_of_lt z) hv
  omega
 ·exact z
theorem sq_nonneg(u:Int):0<=u*u:=by
 rcases Int.le_total 0 u with h|h
 ·exact mul_nonneg h h
 ·exact Int.mul_nonneg_of_nonpos_of_nonpos h h
noncomputable def P(d a b:Int):Prop:=(0<=a/\0<=b/\¬ (a=0/\b=0))\/(0<a/\b<0/\d*b*b<a*a)\/(a<0/\0<b/\a*a<d*b*b)
theorem mD{d a b:Int}(h:aM d):sg d a b=1↔P d a b:=by
 unfold sg P
 have key:a*a=d*b*b->a=0/\b=0:=h.Kf
 by_cases c1:d*b*b<a*a
 ·simp only[c1,if_true];split<;>(try split)<;>(try split)<;>(try split)<;>simp<;>omega
 ·simp only[c1,if_false];split<;>(try split)<;>(try split)<;>(try split)<;>simp<;>omega
theorem B6{d a b:Int}(h:aM d):sg d (-a) (-b) = - sg d a b:=by
 unfold sg
 have key:a*a=d*b*b->a=0/\b=0:=h.Kf
 have e1:d * -b * -b=d*b*b:=by grind
 have e2:-a * -a=a*a:=by grind
 rw[e1,e2]
 by_cases c1:d*b*b<a*a
 ·simp only[c1,if_true];split<;>split<;>(try split)<;>(try split)<;>(try split)<;>(try split)<;>(try split)<;>(try split)<;>omega
 ·simp only[c1,if_false];split<;>split<;>(try split)<;>(try split)<;>(try split)<;>(try split)<;>(try split)<;>(try split)<;>omega
theorem fG{d a b:Int}:sg d a b=0↔a=0/\b=0:=by
 unfold sg;split<;>(try split)<;>(try split)<;>(try split)<;>omega
theorem oE(d a b:Int):sg d a b=0\/sg d a b=1\/sg d a b = -1:=by
 unfold sg;split<;>(try split)<;>(try split)<;>(try split)<;>omega
theorem Ss{d a b:Int}(h:aM d):(a=0/\b=0)\/P d a b\/P d (-a) (-b):=by
 rcases oE d a b with e|e|e
 ·exact .inl (fG.mp e)
 ·exact .inr (.inl ((mD h).mp e))
 ·exact .inr (.inr ((mD h).mp (by rw[B6 h,e];rfl)))
theorem qK{d a b:Int}(h:aM d)(n:d*b*b<a*a):P d a b↔0<a:=by
 unfold P
 have:=sq_nonneg b
 have h0:0<=d*b*b:=by rw[Int.mul_assoc];exact mul_nonneg (by have:=h.1;omega) this
 have ha:a≠0:=fun z=>by subst z;simp at n;omega
 omega
theorem mJ{d a b:Int}(h:aM d)(n:a*a<d*b*b):P d a b↔0<b:=by
 unfold P
 have h0:=sq_nonneg a
 have hb:b≠0:=fun z=>by subst z;simp at n;omega
 omega
theorem uf{u v:Int}(h:v*v<u*u):0<u+v↔0<u:=by
 have hu:u≠0:=fun z=>by subst z;have:=sq_nonneg v;simp at h;omega
 have l:v.natAbs<u.natAbs:=by
  rcases lt_or_ge v.natAbs u.natAbs with z|z
  ·exact z
  ·have:=mul_le_mul z z
   have e1:((u.natAbs*u.natAbs:Nat):Int)=u*u:=Int.natAbs_mul_self
   have e2:((v.natAbs*v.natAbs:Nat):Int)=v*v:=Int.natAbs_mul_self
   omega
 omega
theorem mul_pos_iff{u v:Int}(hu:u≠0)(hv:v≠0):0<u*v↔(0<u↔0<v):=by
 rcases Int.lt_or_gt_of_ne hu with h|h<;>rcases Int.lt_or_gt_of_ne hv with g|g
 ·have:=Int.mul_pos_of_neg_of_neg h g;omega
 ·have:=Int.mul_neg_of_neg_of_pos h g;omega
 ·have:=Int.mul_neg_of_pos_of_neg h g;omega
 ·have:=Int.mul_pos h g;omega
theorem yf{u v s t:Int}(hu:0<=u)(h:u<v)(hs:0<=s)(g:s<t):u*s<v*t:=by
 have e1:u*s<=v*s:=Int.mul_le_mul_of_nonneg_right (le_of_lt h) hs
 have e2:v*s<v*t:=Int.mul_lt_mul_of_pos_left g ∅
 omega
theorem dsq{d b:Int}(hd:0<d):0<=d*b*b:=by rw[Int.mul_assoc];exact mul_nonneg (le_of_lt hd) (sq_nonneg b)
theorem RC{d a b p q:Int}(h:aM d)(h1:¬ (a=0/\b=0))(h2:¬ (p=0/\q=0)):P d (a*p+d*b*q) (a*q+b*p)↔(P d a b↔P d p q):=by
 have hd:0<d:=by have:=h.1;omega
 have n1:a*a≠d*b*b:=fun e=>h1 (h.Kf e)
 have n2:p*p≠d*q*q:=fun e=>h2 (h.Kf e)
 have pz:∀{u v:Int},d*v*v<u*u->u≠0:=fun {u v} e z=>by subst z;have:=dsq (b:=v) hd;simp at e;omega
 have qz:∀{u v:Int},u*u<d*v*v->v≠0:=fun {u v} e z=>by subst z;have:=sq_nonneg u;simp at e;omega
 have id1:(a*p+d*b*q)*(a*p+d*b*q)-d*(a*q+b*p)*(a*q+b*p)=(a*a-d*b*b)*(p*p-d*q*q):=by grind
 rcases Int.lt_or_gt_of_ne n1 with c1|c1<;>rcases Int.lt_or_gt_of_ne n2 with c2|c2
 ·have pp:=Int.mul_pos_of_neg_of_neg (show a*a-d*b*b<0 by omega) (show p*p-d*q*q<0 by omega)
  rw[qK h ∅,mJ h c1,mJ h c2]
  have sq:(a*p)*(a*p)<(d*b*q)*(d*b*q):=by
   have e2:=yf (sq_nonneg a) c1 (sq_nonneg p) c2
   grind
  rw[Int.add_comm,uf sq,Int.mul_assoc,mul_pos_iff ∅ (Int.mul_ne_zero (qz c1) (qz c2)),mul_pos_iff (qz c1) (qz c2)]
  omega
 ·have pp:=Int.mul_neg_of_neg_of_pos (show a*a-d*b*b<0 by omega) (show 0<p*p-d*q*q by omega)
  rw[mJ h ∅,mJ h c1,qK h c2]
  have sq:(a*q)*(a*q)<(b*p)*(b*p):=by
   have e2:=yf (sq_nonneg a) c1 (dsq (b:=q) hd) c2
   have e3:d*((a*q)*(a*q))<d*((b*p)*(b*p)):=by grind
   exact Int.lt_of_mul_lt_mul_left e3 (le_of_lt hd)
  rw[Int.add_comm,uf sq,mul_pos_iff (qz c1) (pz c2)]
 ·have pp:=Int.mul_neg_of_pos_of_neg (show 0<a*a-d*b*b by omega) (show p*p-d*q*q<0 by omega)
  rw[mJ h ∅,qK h c1,mJ h c2]
  have sq:(b*p)*(b*p)<(a*q)*(a*q):=by
   have e2:=yf (dsq (b:=b) hd) c1 (sq_nonneg p) c2
   have e3:d*((b*p)*(b*p))<d*((a*q)*(a*q)):=by grind
   exact Int.lt_of_mul_lt_mul_left e3 (le_of_lt hd)
  rw[uf sq,mul_pos_iff (pz c1) (qz c2)]
 ·have pp:=Int.mul_pos (show 0<a*a-d*b*b by omega) (show 0<p*p-d*q*q by omega)
  rw[qK h ∅,qK h c1,qK h c2]
  have sq:(d*b*q)*(d*b*q)<(a*p)*(a*p):=by
   have e2:=yf (dsq (b:=b) hd) c1 (dsq (b:=q) hd) c2
   grind
  rw[uf sq,mul_pos_iff (pz c1) (pz c2)]
theorem SG{d A x B y:Int}(hd:0<d)(hA:0<=A)(hx:0<=x)(hB:0<=B)(hy:0<=y)(h1:A*A<=d*B*B)(h2:x*x<=d*y*y):A*x<=d*(B*y):=by
 refine OK (mul_nonneg hA hx) ?_ (mul_nonneg (le_of_lt hd) (mul_nonneg hB hy))
 have:=Int.mul_le_mul h1 h2 (sq_nonneg x) (dsq hd)
 grind
theorem T1{d A x B y:Int}(hd:0<d)(hA:0<=A)(hx:0<=x)(hB:0<=B)(hy:0<=y)(h1:A*A<d*B*B)(h2:x*x<d*y*y):(A+x)*(A+x)<d*(B+y)*(B+y):=by
 have:=SG hd hA hx hB hy (le_of_lt h1) (le_of_lt h2)
 grind
theorem T2{d A x B y:Int}(hd:0<d)(hA:0<=A)(hx:0<=x)(hB:0<=B)(hy:0<=y)(h1:d*B*B<A*A)(h2:d*y*y<x*x):d*(B+y)*(B+y)<(A+x)*(A+x):=by
 have:d*(B*y)<=A*x:=by
  refine OK (mul_nonneg (le_of_lt hd) (mul_nonneg hB hy)) ?_ (mul_nonneg hA hx)
  have:=yf (dsq (b:=B) hd) h1 (dsq (b:=y) hd) h2
  grind
 grind
theorem Z1{d x1 y1 x2 y2:Int}(hd:0<d)(h1:x1*x1<d*y1*y1)(h2:d*y2*y2<x2*x2)(a1:0<=x2)(a2:x2<=x1)(a3:0<=y1)(a4:y1<=y2):False:=by
 have e1:=Int.mul_le_mul a2 a2 a1 (Int.le_trans a1 a2)
 have e2:=Int.mul_le_mul_of_nonneg_left (Int.mul_le_mul a4 a4 a3 (Int.le_trans a3 a4)) (le_of_lt hd)
 grind
theorem Z2{d x1 y1 x2 y2 x3 y3:Int}(hd:0<d)(h1:x1*x1<d*y1*y1)(h2:d*y2*y2<x2*x2)(h3:d*y3*y3<x3*x3)(a1:0<=x2)(a2:0<=y2)(a3:0<=x3)(a4:0<=y3)(e1:x1=x2+x3)(e2:y1=y2+y3):False:=by
 subst e1 e2
 have:=T2 hd a1 a3 a2 a4 h2 h3
 omega
theorem Z3{d x1 y1 x2 y2 x3 y3:Int}(hd:0<d)(h1:d*y1*y1<x1*x1)(h2:x2*x2<d*y2*y2)(h3:x3*x3<d*y3*y3)(a1:0<=x2)(a2:0<=y2)(a3:0<=x3)(a4:0<=y3)(e1:x1=x2+x3)(e2:y1=y2+y3):False:=by
 subst e1 e2
 have:=T1 hd a1 a3 a2 a4 h2 h3
 omega
theorem R7{d a b p q u v:Int}(h:aM d)(h1:P d a b)(h2:P d p q)(h3:P d u v)(e1:a+p+u=0)(e2:b+q+v=0):False:=by
 have hd:0<d:=by have:=h.1;omega
 unfold P at h1 h2 h3
 have x1:∀{u c:Int},u*u<c->-u * -u<c:=fun {u c} e=>by grind
 have x2:∀{u c:Int},c<u*u->c < -u * -u:=fun {u c} e=>by grind
 have x3:∀{u c:Int},c<d*u*u->c<d * -u * -u:=fun {u c} e=>by grind
 have x4:∀{u c:Int},d*u*u<c->d * -u * -u<c:=fun {u c} e=>by grind
 rcases h1 with ⟨u1,u2,u3⟩|⟨u1,u2,u3⟩|⟨u1,u2,u3⟩<;>rcases h2 with ⟨v1,v2,v3⟩|⟨v1,v2,v3⟩|⟨v1,v2,v3⟩<;>rcases h3 with ⟨w1,w2,w3⟩|⟨w1,w2,w3⟩|⟨w1,w2,w3⟩<;>(try omega)
 all_goals first
  |exact Z1 hd (x1 u3) (x4 v3) ∅ ∅ ∅ ∅
  |exact Z1 hd (x1 v3) (x4 u3) ∅ ∅ ∅ ∅
  |exact Z1 hd (x1 u3) (x4 w3) ∅ ∅ ∅ ∅
  |exact Z1 hd (x1 w3) (x4 u3) ∅ ∅ ∅ ∅
  |exact Z1 hd (x1 v3) (x4 w3) ∅ ∅ ∅ ∅
  |exact Z1 hd (x1 w3) (x4 v3) ∅ ∅ ∅ ∅
  |exact Z2 hd (x1 u3) (x4 v3) (x4 w3) ∅ ∅ ∅ ∅ ∅ ∅
  |exact Z2 hd (x1 v3) (x4 u3) (x4 w3) ∅ ∅ ∅ ∅ ∅ ∅
  |exact Z2 hd (x1 w3) (x4 u3) (x4 v3) ∅ ∅ ∅ ∅ ∅ ∅
  |exact Z3 hd (x4 u3) (x1 v3) (x1 w3) ∅ ∅ ∅ ∅ ∅ ∅
  |exact Z3 hd (x4 v3) (x1 u3) (x1 w3) ∅ ∅ ∅ ∅ ∅ ∅
  |exact Z3 hd (x4 w3) (x1 u3) (x1 v3) ∅ ∅ ∅ ∅ ∅ ∅
theorem RT{d a b p q:Int}(h:aM d)(h1:P d a b)(h2:P d p q):P d (a+p) (b+q):=by
 rcases Ss (a:=a+p) (b:=b+q) h with ⟨e1,e2⟩|e|e
 ·have ea:p = -a:=by omega
  have eb:q = -b:=by omega
  subst ea eb
  have s1:=(mD h).mpr h1
  have s2:=(mD h).mpr h2
  rw[B6 h,s1] at s2
  omega
 ·exact e
 ·exact (R7 h h1 h2 e ∅ ∅).elim
theorem Qc{d a b p q:Int}(h:aM d):sg d (a*p+d*b*q) (a*q+b*p)=sg d a b*sg d p q:=by
 by_cases h1:a=0/\b=0
 ·obtain⟨rfl,rfl⟩:=h1
  have e:sg d (0:Int) 0=0:=fG.mpr ⟨rfl,rfl⟩
  rw[e];simp[fG]
 by_cases h2:p=0/\q=0
 ·obtain⟨rfl,rfl⟩:=h2
  have e:sg d (0:Int) 0=0:=fG.mpr ⟨rfl,rfl⟩
  rw[e];simp[fG]
 have k:=RC h h1 h2
 have h3:¬ (a*p+d*b*q=0/\a*q+b*p=0):=fun ⟨e1,e2⟩=>by
  have id1:(a*p+d*b*q)*(a*p+d*b*q)-d*(a*q+b*p)*(a*q+b*p)=(a*a-d*b*b)*(p*p-d*q*q):=by grind
  rw[e1,e2] at id1
  simp only[Int.mul_zero,Int.sub_self] at id1
  rcases Int.mul_eq_zero.mp id1.symm with z|z
  ·exact h1 (h.Kf ∅)
  ·exact h2 (h.Kf ∅)
 rw[<- mD h,<- mD h,<- mD h] at k
 have t1:=oE d a b
 have t2:=oE d p q
 have t3:=oE d (a*p+d*b*q) (a*q+b*p)
 have z1:sg d a b≠0:=fun z=>h1 (fG.mp z)
 have z2:sg d p q≠0:=fun z=>h2 (fG.mp z)
 have z3:sg d (a*p+d*b*q) (a*q+b*p)≠0:=fun z=>h3 (fG.mp z)
 rcases t1 with e|e|e<;>rcases t2 with f|f|f<;>rcases t3 with g|g|g<;>simp_all
theorem qg{d a b k:Int}(h:aM d)(hk:0<k):sg d (k*a) (k*b)=sg d a b:=by
 have e:=Qc (a:=k) (b:=0) (p:=a) (q:=b) h
 have e1:sg d k 0=1:=by unfold sg;rw[if_neg ∅,if_pos ∅]
 rw[e1] at e
 simpa using e
end NM
namespace L2
open PySem PySem.Spec PyProof.Rows
section
variable {X:Cx}{pins:List (Addr×Obj)}{σ:St}{H:Hp}{s:Shared}{a:Addr}{y v:V}{u r:Value}{o:Option V}{A:Around}{E:Value->Shared->Prop}
theorem Inv.big(I:Inv X pins σ H s):sysModules<s.heap.objs.size:=by
 have h:mainGlobals<s.heap.objs.size:=(I.mod.glob.keeps I.bk).lt
 exact Nat.lt_trans ⋯ h
theorem C9{h':Heap}{t':Nat}{ob:HO}(I:Inv X pins σ H s)(mu:Mut (H a))(hs:Heap.SameBut a s.heap h')(he:∃q,h'.get? a=some q)(new:jD X.prog X.w (upd H a ob) h' a ob) :
  Inv X pins σ (upd H a ob) {s with heap:=h',toks:=t'}:=
 I.write (x:=a) (e:=a) mu (.inl rfl) (fun b q hb z=>(hs.2 b hb).trans z) he new
end
noncomputable def RM(i:Expr):Prop:=∀ov iv,subscripted i false ov iv=operate [ov,iv] (getItem ov iv)
theorem Ob{prog:Program}{w:World}{A:Around}{E:Value->Shared->Prop}{s:Shared}{env:Env}{value slice:Expr}{pos:Pos}{T id:String}{Q:Value->Shared->Prop}
  (hl:typeLookup (.type T) "__getitem__"=pure (some (.builtin id))) (hs:RM slice)
  (h:wpAny (model prog w) A (eval value env) (fun o ci=>wpAny (model prog w) A (eval slice env) (fun i ii=>ii.TypeIs o T/\wpAny (model prog w) A (getItem o i) Q E ii) E ci) E s) :
  wpAny (model prog w) A (eval (.Subscript value slice pos) env) Q E s:=by
 refine Subscript_ (wpAny_mono h (fun o ci gl=>wpAny_mono gl (fun i ii o0=>?_) fun _ _ x=>x) fun _ _ x=>x)
 obtain⟨hT,o0⟩:=o0
 unfold subscriptTail
 refine wpAny_bind ?_
 rw[getitemInPython_of_ne hT.not_modules]
 refine wpAny_bind (wpAny_specialOf hT hl ?_)
 have fin:wpAny (model prog w) A (subscripted slice false o i) (fun r ce=>wpAny (model prog w) A (letTemporaryGo value o r>>=fun _=>pure r) Q E ce) E ii:=by
  rw[hs o i]
  exact wpAny_operating (wpAny_mono o0 (fun r ce pd=>wpAny_bind (wpAny_letTemporaryGo (wpAny_pure pd))) fun _ _ x=>x)
 first
  |exact wpAny_pure (wpAny_bind fin)
  |exact wpAny_bind (wpAny_pure (wpAny_bind fin))
  |exact wpAny_bind fin
structure M1(X:Cx)(o:Expr)(m:Str)(apos:Pos)(e:Expr)(cpos:Pos):Prop where
 base:attributeBase o m X.env (eval o X.env)=eval o X.env
 few:((backTo cpos (starEach [e] X.env)).all (fun x=>!x.1)&&(backToKw cpos (keywordEach [] X.env)).all (fun x=>x.1.isSome)
  && decide (([e]:List Expr).length+([]:List Keyword).length+(if ([]:List Keyword).isEmpty then 0 else 1)<30))=true
 line:(apos.endLine==cpos.line)=true
 trees:backTo cpos (starEach [e] X.env)=[(false,eval e X.env)]
end L2
namespace NM
structure Rep(x:N3)(A B C:Int):Prop where
 c:C≠0
 a:x.a*C=A*x.c
 b:x.b*C=B*x.c
section
variable {x y:N3}{A B C A' B' C' d:Int}
theorem dz(h:Ok x):Rep x x.a x.b x.c:=⟨h.cn,rfl,rfl⟩
theorem jJ{a b c:Int}(h:c≠0):Rep (low a b c) a b c:=by
 obtain⟨k,hk,_,p1,p2,p3,_⟩:=nG a b h
 generalize low a b c=z at *
 exact⟨h,by grind,by grind⟩
theorem Rep.eq(ox:Ok x)(oy:Ok y)(h:Rep x A B C)(g:Rep y A' B' C')(e1:A*C'=A'*C)(e2:B*C'=B'*C):x=y:=by
 have hc:C*C'≠0:=Int.mul_ne_zero h.c g.c
 obtain⟨_,h1,h2⟩:=h
 obtain⟨_,g1,g2⟩:=g
 exact ox.same oy (Int.eq_of_mul_eq_mul_right hc (by grind)) (Int.eq_of_mul_eq_mul_right hc (by grind))
theorem Rep.minus(h:Rep x A B C):Rep (minus x) (-A) (-B) C:=⟨h.c,by show -x.a*C = -A*x.c;have:=h.a;grind,by show -x.b*C = -B*x.c;have:=h.b;grind⟩
theorem Rep.plus(ox:Ok x)(oy:Ok y)(h:Rep x A B C)(g:Rep y A' B' C'):Rep (plus x y) (A*C'+A'*C) (B*C'+B'*C) (C*C'):=by
 have hc:=Gp ox oy
 obtain⟨_,q1,q2⟩:=jJ (a:=x.a*y.c+y.a*x.c) (b:=x.b*y.c+y.b*x.c) hc
 obtain⟨hc1,h1,h2⟩:=h
 obtain⟨hc2,g1,g2⟩:=g
 change (NM.plus x y).a*(x.c*y.c)=_*(NM.plus x y).c at q1
 change (NM.plus x y).b*(x.c*y.c)=_*(NM.plus x y).c at q2
 generalize NM.plus x y=z at *
 exact⟨Int.mul_ne_zero hc1 hc2,Int.eq_of_mul_eq_mul_right hc (by grind),Int.eq_of_mul_eq_mul_right hc (by grind)⟩
theorem Rep.less(ox:Ok x)(oy:Ok y)(h:Rep x A B C)(g:Rep y A' B' C'):Rep (less x y) (A*C'-A'*C) (B*C'-B'*C) (C*C'):=by
 have hc:=Gp ox oy
 obtain⟨_,q1,q2⟩:=jJ (a:=x.a*y.c-y.a*x.c) (b:=x.b*y.c-y.b*x.c) hc
 obtain⟨hc1,h1,h2⟩:=h
 obtain⟨hc2,g1,g2⟩:=g
 change (NM.less x y).a*(x.c*y.c)=_*(NM.less x y).c at q1
 change (NM.less x y).b*(x.c*y.c)=_*(NM.less x y).c at q2
 generalize NM.less x y=z at *
 exact⟨Int.mul_ne_zero hc1 hc2,Int.eq_of_mul_eq_mul_right hc (by grind),Int.eq_of_mul_eq_mul_right hc (by grind)⟩
end
end NM
namespace NM
noncomputable def Ja(d:Int)(x:N3):N3:=times d (times d (plus x (N2 x)) (plus x (N2 x))) (MJ d (times d x (N2 x)))
section
variable {d:Int}{x y z:N3}
noncomputable def W(x y:N3):Int:=x.b*y.a-x.a*y.b
noncomputable def NN(d:Int)(x y:N3):Int:=sg d (x.a*y.c-y.a*x.c) (x.b*y.c-y.b*x.c)
theorem Lz(ox:Ok x)(oy:Ok y)(e:NN d x y=0):x=y:=by
 obtain⟨h1,h2⟩:=fG.mp e
 exact ox.same oy ∅ ∅
end
end NM
namespace NM
end NM
namespace NM
section
variable {d:Int}{x y z:N3}
noncomputable def gtL(d:Int)(k o:N3):Prop:=((Ja d o).a.natAbs:Int)*(Ja d k).c<((Ja d k).a.natAbs:Int)*(Ja d o).c
noncomputable instance:Decidable (gtL d x y):=by unfold gtL;infer_instance
end
end NM
set_option maxHeartbeats 1000000
namespace NM
end NM
set_option maxHeartbeats 4000000
namespace NM
end NM
set_option maxHeartbeats 400000
namespace NM
end NM
namespace NM
end NM
set_option maxHeartbeats 4000000
namespace NM
section
variable {d:Int}{x y z u p q s t w h p' q' s' t' w' h':N3}
noncomputable def hf(d:Int)(p q h:N3):N3:=plus (times d p h) (times d q (N2 h))
end
end NM
set_option maxHeartbeats 400000
namespace NM
end NM
set_option maxHeartbeats 4000000
namespace GR
theorem pig{α:Type}[DecidableEq α]{l m:List α}(hn:l.Nodup)(hs:∀x∈l,x∈m):l.length<=m.length:=by
 induction l generalizing m with
 |nil=>exact zero_le _
 |cons a l ih=>
  obtain⟨h1,h2⟩:=List.nodup_cons.mp hn
  have hm:a∈m:=hs a mem_cons_self
  have:=ih (m:=m.erase a) h2 fun x hx=>(List.mem_erase_of_ne (show x≠a from fun e=>h1 (e▸hx))).mpr (hs x (mem_cons_of_mem _ hx))
  rw[List.length_erase_of_mem hm] at this
  have:0<m.length:=List.length_pos_of_mem hm
  simp only[length_cons]
  omega
theorem Oc{α:Type}[DecidableEq α]{l m:List α}(hn:l.Nodup)(hs:∀x∈l,x∈m)(hl:m.length<=l.length){x:α}(hx:x∈m):x∈l:=by
 by_cases c:x∈l
 ·exact c
 ·have:=pig (l:=x::l) (m:=m) (List.nodup_cons.mpr ⟨c,hn⟩) fun y hy=>by
   rcases List.mem_cons.mp hy with rfl|hy
   ·exact hx
   ·exact hs y hy
  simp only[length_cons] at this
  omega
theorem Rk{α:Type}[DecidableEq α]{l m:List α}(hn:l.Nodup)(hm:m.Nodup)(h:∀x,x∈l↔x∈m):l.length=m.length:=
 Nat.le_antisymm (pig hn fun x=>(h x).mp) (pig hm fun x=>(h x).mpr)
structure Bx where
 l:Nat
 r:Nat
 b:Nat
 t:Nat
noncomputable def Bx.has(q:Bx)(i j:Nat):Prop:=q.l<=i/\i<q.r/\q.b<=j/\j<q.t
noncomputable def run(a b:Nat):List Nat:=(List.range (b-a)).map (a + ·)
theorem Oi{a b x:Nat}:x∈run a b↔a<=x/\x<b:=by
 unfold run
 simp only[mem_map,List.mem_range]
 constructor
 ·rintro ⟨k,h,rfl⟩;omega
 ·rintro ⟨h1,h2⟩;exact⟨x-a,∅,∅⟩
theorem BM{a b:Nat}:(run a b).Nodup:=by
 unfold run
 refine List.Pairwise.map _ (fun x y h e=>h ∅) List.nodup_range
theorem qO{a b:Nat}:(run a b).length=b-a:=by simp[run]
noncomputable def cellsOf(q:Bx):List (Nat×Nat):=(run q.l q.r).flatMap fun i=>(run q.b q.t).map fun j=>(i,j)
theorem bU{q:Bx}{i j:Nat}:(i,j)∈cellsOf q↔q.has i j:=by
 unfold cellsOf Bx.has
 simp only[List.mem_flatMap,mem_map,Oi,Prod.mk.injEq]
 constructor
 ·rintro ⟨a,⟨h1,h2⟩,b,⟨h3,h4⟩,rfl,rfl⟩;exact⟨h1,h2,h3,h4⟩
 ·rintro ⟨h1,h2,h3,h4⟩;exact⟨i,⟨h1,h2⟩,j,⟨h3,h4⟩,rfl,rfl⟩
theorem yW{α β:Type}{f:α->List β}{l:List α}:(l.flatMap f).Nodup↔(∀x∈l,(f x).Nodup)/\l.Pairwise fun a b=>∀y∈f a,y ∉ f b:=by
 induction l with
 |nil=>simp
 |cons a l ih=>
  rw[flatMap_cons,List.nodup_append,ih,List.pairwise_cons]
  constructor
  ·rintro ⟨h1,⟨h2,h3⟩,h4⟩
   refine⟨fun x hx=>?_,fun b hb y hy hz=>h4 y hy y (List.mem_flatMap.mpr ⟨b,hb,hz⟩) rfl,h3⟩
   rcases List.mem_cons.mp hx with rfl|hx
   ·exact h1
   ·exact h2 x hx
  ·rintro ⟨h1,h2,h3⟩
   refine⟨h1 a mem_cons_self,⟨fun x hx=>h1 x (mem_cons_of_mem _ hx),h3⟩,fun y hy z hz e=>?_⟩
   obtain⟨b,hb,hz⟩:=List.mem_flatMap.mp hz
   exact h2 b hb y hy (e▸hz)
theorem rq(q:Bx):(cellsOf q).Nodup:=by
 unfold cellsOf
 rw[yW]
 refine⟨fun x _=>List.Pairwise.map _ (fun a b h e=>h (by injection e)) BM,?_⟩
 refine List.Pairwise.imp (fun {a b} h y hy hz=>?_) (BM (a:=q.l) (b:=q.r))
 obtain⟨j,_,rfl⟩:=List.mem_map.mp hy
 obtain⟨k,_,e⟩:=List.mem_map.mp hz
 injection e with e1 e2
 exact h e1.symm
noncomputable def cells(qs:List Bx):List (Nat×Nat):=qs.flatMap cellsOf
noncomputable def Apart(q p:Bx):Prop:=∀i j,q.has i j->¬ p.has i j
theorem Apart.symm{q p:Bx}(h:Apart q p):Apart p q:=fun i j h1 h2=>h i j h2 h1
theorem o9{qs:List Bx}:(cells qs).Nodup↔qs.Pairwise Apart:=by
 unfold cells
 rw[yW]
 constructor
 ·rintro ⟨_,h⟩
  exact h.imp fun {a b} z i j h1 h2=>z (i,j) (bU.mpr h1) (bU.mpr h2)
 ·intro h
  exact⟨fun q _=>rq q,h.imp fun {a b} z y h1 h2=>z y.1 y.2 (bU.mp h1) (bU.mp h2)⟩
theorem jW{qs:List Bx}{i j:Nat}:(i,j)∈cells qs↔∃q∈qs,q.has i j:=by
 unfold cells
 simp only[List.mem_flatMap,bU]
noncomputable def o6(qs:List Bx)(C R:Nat):Bool:=decide (cells qs).Nodup&&decide ((cells qs).length=C*R)
theorem tF{C R:Nat}:(cellsOf ⟨0,C,0,R⟩).length=C*R:=by
 unfold cellsOf
 rw[List.length_flatMap]
 have:(fun i:Nat=>((run 0 R).map fun j=>(i,j)).length)=fun _=>R:=by funext i;rw[length_map,qO];rfl
 simp only[this,List.map_const',qO,List.sum_replicate_nat,Nat.sub_zero]
theorem zK{qs:List Bx}{C R:Nat}(hin:∀q∈qs,q.r<=C/\q.t<=R):o6 qs C R=true↔qs.Pairwise Apart/\∀i j,i<C->j<R->∃q∈qs,q.has i j:=by
 unfold o6
 rw[and_eq_true,decide_eq_true_iff,decide_eq_true_iff,o9]
 have sub:∀x∈cells qs,x∈cellsOf ⟨0,C,0,R⟩:=fun x hx=>by
  obtain⟨q,hq,h⟩:=jW.mp hx
  obtain⟨h1,h2⟩:=hin q hq
  exact bU.mpr ⟨zero_le _,lt_of_lt_of_le h.2.1 h1,zero_le _,lt_of_lt_of_le h.2.2.2 h2⟩
 constructor
 ·rintro ⟨h1,h2⟩
  refine⟨h1,fun i j hi hj=>?_⟩
  have:=Oc (o9.mpr h1) sub (by rw[tF,h2];exact Nat.le_refl _) (x:=(i,j)) (bU.mpr ⟨zero_le _,hi,zero_le _,hj⟩)
  exact jW.mp this
 ·rintro ⟨h1,h2⟩
  refine⟨h1,?_⟩
  rw[<- tF]
  refine Rk (o9.mpr h1) (rq _) fun x=>⟨sub x,fun hx=>?_⟩
  obtain⟨_,hi,_,hj⟩:=bU.mp hx
  exact jW.mpr (h2 x.1 x.2 hi hj)
structure jA(qs:List Bx)(C R:Nat):Prop where
 fits:∀q∈qs,q.l<q.r/\q.r<=C/\q.b<q.t/\q.t<=R
 apart:qs.Pairwise Apart
 all:∀i j,i<C->j<R->∃q∈qs,q.has i j
theorem jA.perm{qs ps:List Bx}{C R:Nat}(h:jA qs C R)(p:ps.Perm qs):jA ps C R:=
 ⟨fun q hq=>h.fits q (p.mem_iff.mp hq),(p.pairwise_iff fun z=>z.symm).mpr h.apart,fun i j hi hj=>by
  obtain⟨q,hq,z⟩:=h.all i j hi hj
  exact⟨q,p.mem_iff.mpr hq,z⟩⟩
end GR
namespace GR
noncomputable abbrev Up(A:List Nat):Prop:=A.Pairwise (· < ·)
theorem cO{α:Type}[BEq α][LawfulBEq α]{A:List α}{a:α}(h:a∈A):A.idxOf a<A.length:=List.idxOf_lt_length_iff.mpr h
theorem uZ{α:Type}[BEq α][LawfulBEq α]{A:List α}{a:α}(h:a∈A):A[A.idxOf a]'(cO h)=a:=List.getElem_idxOf (cO h)
theorem MO{A:List Nat}(hA:Up A){a i:Nat}(ha:a∈A)(hi:i<A.length):A.idxOf a<=i↔a<=A[i]:=by
 have e:=uZ ha
 constructor
 ·intro h
  rcases lt_or_eq_of_le h with h|h
  ·have:=List.pairwise_iff_getElem.mp hA _ _ (cO ha) hi h
   omega
  ·have:A[A.idxOf a]'(cO ha)=A[i]:=by congr 1
   omega
 ·intro h
  rcases lt_or_ge i (A.idxOf a) with z|z
  ·have:=List.pairwise_iff_getElem.mp hA _ _ hi (cO ha) z
   omega
  ·exact z
theorem OI{A:List Nat}(hA:Up A){a i:Nat}(ha:a∈A)(hi:i<A.length):i<A.idxOf a↔A[i]<a:=by
 have:=MO hA ha hi
 omega
noncomputable def cb(A B:List Nat)(q:Bx):Bx:=⟨A.idxOf q.l,A.idxOf q.r,B.idxOf q.b,B.idxOf q.t⟩
structure OnG(A B:List Nat)(q:Bx):Prop where
 l:q.l∈A
 r:q.r∈A
 b:q.b∈B
 t:q.t∈B
theorem G9{A B:List Nat}(hA:Up A)(hB:Up B){q:Bx}(g:OnG A B q){i j:Nat}(hi:i<A.length)(hj:j<B.length):(cb A B q).has i j↔q.has A[i] B[j]:=by
 unfold Bx.has cb
 rw[MO hA g.l hi,OI hA g.r hi,MO hB g.b hj,OI hB g.t hj]
theorem Rf{A B:List Nat}(hA:Up A)(hB:Up B){qs:List Bx}{C R:Nat}(hc:jA qs C R)(g:∀q∈qs,OnG A B q)(hAC:∀a∈A,a<=C)(hBR:∀b∈B,b<=R):o6 (qs.map (cb A B)) (A.length-1) (B.length-1)=true:=by
 refine (zK ?_).mpr ⟨?_,?_⟩
 ·intro q hq
  obtain⟨q,hq2,rfl⟩:=List.mem_map.mp hq
  have a:=cO (g q hq2).r
  have b:=cO (g q hq2).t
  unfold cb
  dsimp only
  omega
 ·rw[List.pairwise_map]
  refine List.Pairwise.imp_of_mem (fun {q p} hq hp h i j h1 h2=>?_) hc.apart
  have gq:=g q hq
  have hi:i<A.length:=Nat.lt_trans h1.2.1 (cO gq.r)
  have hj:j<B.length:=Nat.lt_trans h1.2.2.2 (cO gq.t)
  exact h _ _ ((G9 hA hB gq hi hj).mp h1) ((G9 hA hB (g p hp) hi hj).mp h2)
 ·intro i j hi hj
  have a1:A[i]<A[i+1]:=List.pairwise_iff_getElem.mp hA _ _ ∅ ∅ ∅
  have a2:=hAC A[i+1] (getElem_mem _)
  have b1:B[j]<B[j+1]:=List.pairwise_iff_getElem.mp hB _ _ ∅ ∅ ∅
  have b2:=hBR B[j+1] (getElem_mem _)
  obtain⟨q,hq,h⟩:=hc.all A[i] B[j] ∅ ∅
  exact⟨_,mem_map_of_mem hq,(G9 hA hB (g q hq) ∅ ∅).mpr h⟩
theorem jA.ends{qs:List Bx}{C R:Nat}(h:jA qs C R)(hC:0<C)(hR:0<R):(∃q∈qs,q.l=0)/\(∃q∈qs,q.r=C)/\(∃q∈qs,q.b=0)/\(∃q∈qs,q.t=R):=by
 obtain⟨q,hq,h1⟩:=h.all 0 0 hC hR
 obtain⟨p,hp,h2⟩:=h.all (C-1) (R-1) ∅ ∅
 have f:=h.fits p hp
 refine⟨⟨q,hq,?_⟩,⟨p,hp,?_⟩,⟨q,hq,?_⟩,⟨p,hp,?_⟩⟩<;>unfold Bx.has at h1 h2<;>omega
structure Laid(qs:List Bx)(C R x y:Nat):Prop where
 fits:∀q∈qs,q.l<q.r/\q.r<=C/\q.b<q.t/\q.t<=R/\q.b<=y
 apart:qs.Pairwise Apart
 below:∀i j,i<C->j<y->∃q∈qs,q.has i j
 before:∀i,i<x->i<C->∃q∈qs,q.has i y
theorem Laid.nil{C R:Nat}:Laid [] C R 0 0:=⟨fun _ h=>absurd h not_mem_nil,.nil,fun _ _ _ h=>absurd h (not_lt_zero _),fun _ h=>absurd h (not_lt_zero _)⟩
theorem Laid.row{qs:List Bx}{C R y:Nat}(h:Laid qs C R C y):Laid qs C R 0 (y+1):=
 ⟨fun q hq=>by have:=h.fits q hq;omega,h.apart,fun i j hi hj=>by
  rcases lt_or_eq_of_le (le_of_lt_succ hj) with z|z
  ·exact h.below i j hi z
  ·rw[z];exact h.before i hi hi,fun _ h=>absurd h (not_lt_zero _)⟩
theorem Laid.met{qs:List Bx}{C R x y:Nat}(h:Laid qs C R x y)(m:∃q∈qs,q.has x y):Laid qs C R (x+1) y:=
 ⟨h.fits,h.apart,h.below,fun i hi hc=>by
  rcases lt_or_eq_of_le (le_of_lt_succ hi) with z|z
  ·exact h.before i z hc
  ·rw[z];exact m⟩
theorem Laid.put{qs:List Bx}{C R x y w k:Nat}(h:Laid qs C R x y)(hw:0<w)(hk:0<k)(hx:x+w<=C)(hy:y+k<=R)(free:∀i,x<=i->i<x+w->∀q∈qs,¬ q.has i y):Laid (qs++[⟨x,x+w,y,y+k⟩]) C R (x+1) y:=by
 refine⟨fun q hq=>?_,?_,fun i j hi hj=>?_,fun i hi hc=>?_⟩
 ·rcases List.mem_append.mp hq with hq|hq
  ·exact h.fits q hq
  ·obtain rfl:=List.mem_singleton.mp hq
   dsimp only
   omega
 ·refine List.pairwise_append.mpr ⟨h.apart,List.pairwise_singleton _ _,fun a ha b hb i j h1 h2=>?_⟩
  obtain rfl:=List.mem_singleton.mp hb
  have f:=h.fits a ha
  unfold Bx.has at h1 h2
  dsimp only at h2
  exact free i h2.1 h2.2.1 a ha ⟨h1.1,h1.2.1,∅,∅⟩
 ·obtain⟨q,hq,z⟩:=h.below i j hi hj
  exact⟨q,mem_append_left _ hq,z⟩
 ·rcases lt_or_eq_of_le (le_of_lt_succ hi) with z|z
  ·obtain⟨q,hq,z⟩:=h.before i z hc
   exact⟨q,mem_append_left _ hq,z⟩
  ·exact⟨_,mem_append_right _ mem_cons_self,by subst z;unfold Bx.has;dsimp only;omega⟩
theorem Laid.done{qs:List Bx}{C R:Nat}(h:Laid qs C R 0 R):jA qs C R:=⟨fun q hq=>by have:=h.fits q hq;omega,h.apart,h.below⟩
end GR
namespace L2.DL
open PySem PySem.Spec PyProof.Rows
inductive Box where
 |dict (kvs:List (List Int×PyData))
 |set (ks:List (List Int))
structure Mu where
 l:Addr->Option (List PyData)
 b:Addr->Option Box
noncomputable instance:CoeFun Mu fun _=>Addr->Option (List PyData):=⟨Mu.l⟩
noncomputable abbrev PQ:=PySem.W.Frag->V->Mu->Hp->Prop
inductive D where
 |v (x:PyData)
 |m (a:Addr)
 |s (ns:List Int)
  /-- an object that is handed on -/
 |o (a:Addr)
  /-- a dict or a set -/
 |b (a:Addr)
  /-- a thing of which something is known that stays -/
 |q (P:PQ)
noncomputable abbrev Rho:=List (Option D)
noncomputable def aE(Z:Mu)(a:Addr)(ds:List PyData):Mu:=⟨fun b=>if b=a then some ds else Z b,Z.b⟩
theorem aF{Z:Mu}{a:Addr}{ds}:aE Z a ds a=some ds:=if_pos rfl
theorem aW{Z:Mu}{a b:Addr}{ds}(h:b≠a):aE Z a ds b=Z b:=if_neg h
noncomputable def bo(Z:Mu)(a:Addr)(c:Box):Mu:=⟨Z.l,fun b=>if b=a then some c else Z.b b⟩
theorem bc{Z:Mu}{a:Addr}{c}:(bo Z a c).b a=some c:=if_pos rfl
theorem bY{Z:Mu}{a b:Addr}{c}(h:b≠a):(bo Z a c).b b=Z.b b:=if_neg h
theorem Mu.eq{Z ν:Mu}(h1:∀b,Z b=ν b)(h2:∀b,Z.b b=ν.b b):Z=ν:=by
 obtain⟨l,b⟩:=Z;obtain⟨l',b'⟩:=ν
 cases (funext h1:l=l');cases (funext h2:b=b');rfl
theorem JS{Z:Mu}{a:Addr}{c d}:bo (bo Z a c) a d=bo Z a d:=Mu.eq (fun _=>rfl) fun b=>by
 by_cases h:b=a
 ·subst h;rw[bc,bc]
 ·rw[bY h,bY h,bY h]
theorem iy{Z:Mu}{a:Addr}{ds es}:aE (aE Z a ds) a es=aE Z a es:=Mu.eq (fun b=>by
 by_cases h:b=a
 ·subst h;rw[aF,aF]
 ·rw[aW h,aW h,aW h]) fun _=>rfl
mutual
inductive Rp(K:PySem.W.Frag)(Z:Mu)(H:Hp):PyData->V->Prop
 |none:Rp K Z H .none .non
 |bool (b:Bool):Rp K Z H (.bool b) (.bl b)
 |int (i:Int):Rp K Z H (.int i) (.int i)
 |str (x:Str):Rp K Z H (.str x) (.str x)
 |list {a:Addr} {xs:List V} {ds:List PyData}:H a=some (.lst xs)->Z a=Option.none->RpL K Z H ds xs->Rp K Z H (.list ds) (.ref a)
 |tuple {a:Addr} {xs:List V} {ds:List PyData}:SqT K H a xs->RpL K Z H ds xs->Rp K Z H (.tuple ds) (.ref a)
inductive RpL(K:PySem.W.Frag)(Z:Mu)(H:Hp):List PyData->List V->Prop
 |nil:RpL K Z H [] []
 |cons {d:PyData} {v:V} {ds:List PyData} {vs:List V}:Rp K Z H d v->RpL K Z H ds vs->RpL K Z H (d::ds) (v::vs)
end
noncomputable def NT:HO->Prop
 |.tbl _=>False
 |.raw _=>False
 |_=>True
structure Ext(K:PySem.W.Frag)(Z:Mu)(H:Hp)(U:Mu)(H':Hp):Prop where
 keep:∀b o,H b=some o->Z b=none->NT o->H' b=some o
 tb:∀b ps,H b=some (.tbl ps)->Z b=none->∃ps',H' b=some (.tbl ps')
 dom:∀b ds,Z b=some ds->∃es,U b=some es
 fresh:∀b,Z b=none->(H b≠none\/K.lookup b≠none)->U b=none
 st:∀b o,H b=some o->Z b=none->∃o',H' b=some o'
 bx:∀b c,Z.b b=some c->∃c',U.b b=some c'
noncomputable def RpD(K:PySem.W.Frag)(Z:Mu)(H:Hp):D->V->Prop
 |.v x,u=>Rp K Z H x u
 |.m a,u=>u = .ref a/\∃ds,Z a=some ds
 |.s ns,u=>∃a,u = .ref a/\SqL K H a (ns.map V.int)/\Z a=none
 |.o a,u=>u = .ref a
 |.b a,u=>u = .ref a/\∃c,Z.b a=some c
 |.q P,u=>∀U H',Ext K Z H U H'->P K u U H'
noncomputable def codeAt(c:Addr)(q:Str)(h:Heap):Prop:=∃o vs t,h.get? c=some o/\o.data = .fields vs/\vs[1]? = some (.str q t)
noncomputable abbrev Oq(q:Str):Str:=(q ++ ".<locals>.") ++ "<lambda>"
noncomputable def Tq(H:Hp)(P:Addr)(q:Str):Prop:=∃ps:Array Value,H P=some (.tbl ps)/\TriplesOk ps.toList/\∀pos cv,codeAmong pos ps.toList=some cv->∃c,cv = .ref c/\H c=some (.ext (codeAt c (Oq q)))
noncomputable def Ea(K:PySem.W.Frag)(H:Hp):Prop:=∀c o P q,K.lookup c=some o->dm o=some (P,q)->Tq H P q
noncomputable abbrev hI(ks:List Int):Int:=reduceHash (Builtin.Tuple.tupleHashOf (ks.map hashInt))
noncomputable def gH(K:PySem.W.Frag)(Z:Mu)(H:Hp)(kvs:List (List Int×PyData))(xs:List (List Int×Addr×Value)):Prop:=
 Paired (fun (p:List Int×PyData) (q:List Int×Addr×Value)=>p.1=q.1/\SqT K H q.2.1 (p.1.map V.int)/\∃v,Rp K Z H p.2 v/\RelV v q.2.2) kvs xs
noncomputable def ja(K:PySem.W.Frag)(Z:Mu)(H:Hp):Box->Obj->Prop
 |.dict kvs,o=>kvs.length<=sizeLine/\o.ExactDict/\∃es ep,∃xs:List (List Int×Addr×Value),o.data = .dict es ep/\es.toList=xs.map (fun x=>⟨hI x.1,.ref x.2.1,x.2.2⟩)/\(xs.map (·.1)).Nodup/\gH K Z H kvs xs
 |.set ks,o=>o.ExactSet/\∃(L:ST.Ln Value) (ep:Nat) (t:SetTable),o.data = .set (L.map (·.2)).toArray ep t/\ST.Tab t L/\L.length*5<t.mask*3/\L.length=ks.length /\
   (∀x∈L,∃k q,x.2.2 = .ref q/\SqT K H q (k.map V.int)/\x.2.1=hI k/\k∈ks)/\∀k∈ks,∃x∈L,∃q,x.2.2 = .ref q/\SqT K H q (k.map V.int)
structure bM(K:PySem.W.Frag)(Z:Mu)(H:Hp):Prop where
 lst:∀a ds,Z a=some ds->∃xs,H a=some (.lst xs)/\RpL K Z H ds xs
 tab:Ea K H
 box:∀a c,Z.b a=some c->(a==sysModules)=false/\∃o,H a=some (.raw o)/\ja K Z H c o
noncomputable instance {K:PySem.W.Frag} {Z:Mu} {H:Hp}:CoeFun (bM K Z H) fun _=>∀a ds,Z a=some ds->∃xs,H a=some (.lst xs)/\RpL K Z H ds xs:=⟨bM.lst⟩
theorem Ea.of{K:PySem.W.Frag}{H H1:Hp}(t:Ea K H)(s:∀b o,H b=some o->(∀xs,o≠.lst xs)->(∀ob,o≠.raw ob)->H1 b=some o):Ea K H1:=fun c o P q h1 h2=>by
 obtain⟨ps,a1,a2,a3⟩:=t c o P q h1 h2
 exact⟨ps,s _ _ a1 (fun _ z=>nomatch z) (fun _ z=>nomatch z),a2,fun pos cv e=>let ⟨c,q1,q2⟩:=a3 pos cv e;⟨c,q1,s _ _ q2 (fun _ z=>nomatch z) (fun _ z=>nomatch z)⟩⟩
noncomputable def i5(K:PySem.W.Frag)(Z:Mu)(H:Hp)(ρ:Rho)(σ:St):Prop:=
 ρ.length=σ.length/\∀(i:Nat) (d:D),ρ[i]? = some (some d)->∃u,σ[i]? = some (some u)/\RpD K Z H d u
structure St0(K:PySem.W.Frag)(H:Hp)(ρ:Rho)(Z:Mu)(σ:St):Prop where
 mu:bM K Z H
 rho:i5 K Z H ρ σ
section
variable {K:PySem.W.Frag}{Z am be:Mu}{H H1 H2:Hp}
theorem Ext.refl:Ext K Z H Z H:=⟨fun _ _ h _ _=>h,fun _ ps h _=>⟨ps,h⟩,fun _ ds h=>⟨ds,h⟩,fun _ h _=>h,fun _ o h _=>⟨o,h⟩,fun _ c h=>⟨c,h⟩⟩
theorem Ext.trans(a:Ext K Z H am H1)(b:Ext K am H1 be H2):Ext K Z H be H2 where
 keep:=fun c o h n t=>b.keep c o (a.keep c o h n t) (a.fresh c n (.inl (by rw[h];exact fun z=>nomatch z))) t
 tb:=fun c ps h n=>by
  obtain⟨ps1,h1⟩:=a.tb c ps h n
  exact b.tb c ps1 h1 (a.fresh c n (.inl (by rw[h];exact fun z=>nomatch z)))
 dom:=fun c ds h=>let ⟨es,q⟩:=a.dom c ds h;b.dom c es q
 fresh:=fun c n h=>by
  refine b.fresh c (a.fresh c n h) ?_
  rcases h with h|h
  ·cases q:H c with
   |none=>exact absurd q h
   |some o=>
    obtain⟨o',h'⟩:=a.st c o q n
    exact .inl (by rw[h'];exact fun z=>nomatch z)
  ·exact .inr h
 st:=fun c o h n=>by
  obtain⟨o',h'⟩:=a.st c o h n
  exact b.st c o' h' (a.fresh c n (.inl (by rw[h];exact fun z=>nomatch z)))
 bx:=fun c x h=>let ⟨x',q⟩:=a.bx c x h;b.bx c x' q
theorem Ext.of_same(s:zw H H1):Ext K Z H Z H1:=⟨fun b o h _ _=>s b o h,fun b ps h _=>⟨ps,s b _ h⟩,fun _ ds h=>⟨ds,h⟩,fun _ h _=>h,fun b o h _=>⟨o,s b o h⟩,fun _ c h=>⟨c,h⟩⟩
theorem bM.not{a:Addr}{o:HO}(ok:bM K Z H)(h:H a=some o)(n:∀xs,o≠.lst xs):Z a=none:=by
 cases q:Z a with
 |none=>rfl
 |some ds=>
  obtain⟨ys,e,_⟩:=ok a ds q
  rw[h] at e
  exact absurd (Option.some.inj e) (n ys)
theorem bM.free{a:Addr}(ok:bM K Z H)(h:H a=none):Z a=none:=by
 cases q:Z a with
 |none=>rfl
 |some ds=>
  obtain⟨ys,e,_⟩:=ok a ds q
  rw[h] at e;cases e
theorem oM{a:Addr}{xs:List V}(ok:bM K Z H)(e:Ext K Z H am H1)(h:SqT K H a xs):SqT K H1 a xs:=by
 rcases h with (h|⟨o,h⟩)|h
 ·exact .inl (.inl (e.keep _ _ h (ok.not h fun _ z=>nomatch z) trivial))
 ·exact .inl (.inr ⟨o,e.keep _ _ h (ok.not h fun _ z=>nomatch z) trivial⟩)
 ·exact .inr h
theorem IW{a:Addr}{xs:List V}(e:Ext K Z H am H1)(h:SqL K H a xs)(n:Z a=none):SqL K H1 a xs/\am a=none:=by
 rcases h with (h|⟨o,h⟩)|h
 ·exact⟨.inl (.inl (e.keep _ _ h n trivial)),e.fresh _ n (.inl (by rw[h];exact fun z=>nomatch z))⟩
 ·exact⟨.inl (.inr ⟨o,e.keep _ _ h n trivial⟩),e.fresh _ n (.inl (by rw[h];exact fun z=>nomatch z))⟩
 ·obtain⟨o,its,k,hk,r⟩:=id h
  exact⟨.inr h,e.fresh _ n (.inr (by rw[hk];exact fun z=>nomatch z))⟩
mutual
theorem Rp.ext{d:PyData}{u:V}(ok:bM K Z H)(e:Ext K Z H am H1):Rp K Z H d u->Rp K am H1 d u
 |.none=>.none
 |.bool b=>.bool b
 |.int i=>.int i
 |.str x=>.str x
 |.list h n r=>.list (e.keep _ _ h n trivial) (e.fresh _ n (.inl (by rw[h];exact fun z=>nomatch z))) (RpL.ext ok e r)
 |.tuple h r=>.tuple (oM ok e h) (RpL.ext ok e r)
theorem RpL.ext{ds:List PyData}{us:List V}(ok:bM K Z H)(e:Ext K Z H am H1):RpL K Z H ds us->RpL K am H1 ds us
 |.nil=>.nil
 |.cons h r=>.cons (Rp.ext ok e h) (RpL.ext ok e r)
end
theorem RpD.ext{d:D}{u:V}(ok:bM K Z H)(e:Ext K Z H am H1)(r:RpD K Z H d u):RpD K am H1 d u:=by
 cases d with
 |v x=>exact Rp.ext ok e r
 |m a=>obtain⟨h,ds,q⟩:=r;exact⟨h,e.dom a ds q⟩
 |s ns=>obtain⟨a,h,q,n⟩:=r;exact⟨a,h,(IW e q n).1,(IW e q n).2⟩
 |o a=>exact r
 |b a=>obtain⟨h,c,q⟩:=r;exact⟨h,e.bx a c q⟩
 |q P=>exact fun U H' e'=>r U H' (e.trans e')
theorem ja.ext{c:Box}{o:Obj}(ok:bM K Z H)(e:Ext K Z H am H1)(r:ja K Z H c o):ja K am H1 c o:=by
 cases c with
 |dict kvs=>
  obtain⟨h1,h2,es,ep,xs,h3,h4,h5,h6⟩:=r
  exact⟨h1,h2,es,ep,xs,h3,h4,h5,Paired.OB h6 fun p q ⟨z1,z2,v,z3,z4⟩=>⟨z1,oM ok e z2,v,Rp.ext ok e z3,z4⟩⟩
 |set ks=>
  obtain⟨h1,L,ep,t,h2,h3,h4,h5,h6,h7⟩:=r
  exact⟨h1,L,ep,t,h2,h3,h4,h5,fun x hx=>let ⟨k,q,z1,z2,z3⟩:=h6 x hx;⟨k,q,z1,oM ok e z2,z3⟩,fun k hk=>let ⟨x,hx,q,z1,z2⟩:=h7 k hk;⟨x,hx,q,z1,oM ok e z2⟩⟩
theorem bM.I0{a:Addr}(ok:bM K Z H)(h:H a=none):Z.b a=none:=by
 cases q:Z.b a with
 |none=>rfl
 |some c=>
  obtain⟨_,ob,e,_⟩:=ok.box a c q
  rw[h] at e;cases e
theorem i5.ext{ρ:Rho}{σ:St}(ok:bM K Z H)(e:Ext K Z H am H1)(r:i5 K Z H ρ σ):i5 K am H1 ρ σ:=
 ⟨r.1,fun i d h=>let ⟨u,h1,h2⟩:=r.2 i d h;⟨u,h1,h2.ext ok e⟩⟩
theorem RpL.length{ds:List PyData}{us:List V}:RpL K Z H ds us->ds.length=us.length
 |.nil=>rfl
 |.cons _ r=>congrArg (· + 1) (RpL.length r)
theorem RpL.get{ds:List PyData}{us:List V}:∀{i:Nat} {d:PyData},RpL K Z H ds us->ds[i]? = some d->∃u,us[i]? = some u/\Rp K Z H d u
 |_,_,.nil,h=>by simp at h
 |0,_,.cons r _,h=>by simp at h;subst h;exact⟨_,rfl,r⟩
 |i+1,d,.cons _ t,h=>by
  obtain⟨u,h1,h2⟩:=RpL.get (i:=i) (d:=d) t (by simpa using h)
  exact⟨u,by simpa using h1,h2⟩
theorem RpL.append{ds es:List PyData}{us ws:List V}:RpL K Z H ds us->RpL K Z H es ws->RpL K Z H (ds++es) (us++ws)
 |.nil,s=>s
 |.cons r t,s=>.cons r (RpL.append t s)
theorem RpL.take{ds:List PyData}{us:List V}:∀(n:Nat),RpL K Z H ds us->RpL K Z H (ds.take n) (us.take n)
 |0,_=>by simp;exact .nil
 |_+1,.nil=>by simp;exact .nil
 |n+1,.cons r t=>.cons r (RpL.take n t)
theorem RpL.drop{ds:List PyData}{us:List V}:∀(n:Nat),RpL K Z H ds us->RpL K Z H (ds.drop n) (us.drop n)
 |0,r=>r
 |_+1,.nil=>by simp;exact .nil
 |n+1,.cons _ t=>RpL.drop n t
theorem RpL.set{ds:List PyData}{us:List V}{d:PyData}{u:V}(q:Rp K Z H d u):∀(i:Nat),RpL K Z H ds us->RpL K Z H (ds.set i d) (us.set i u)
 |_,.nil=>.nil
 |0,.cons _ t=>.cons q t
 |i+1,.cons r t=>.cons r (RpL.set q i t)
theorem G0{ds:List PyData}{us:List V}{i:Int}{d:PyData}(r:RpL K Z H ds us)(h:atI ds i=some d):∃u,atI us i=some u/\Rp K Z H d u:=by
 unfold atI at h ⊢
 rw[<- r.length]
 cases q:ixN ds.length i with
 |none=>rw[q] at h;cases h
 |some j=>
  rw[q] at h
  exact r.get h
noncomputable abbrev DK:=D->Mu->Prop
noncomputable abbrev DTE:=Rho->Mu->DK->Prop
noncomputable abbrev DTT:=Rho->Mu->(Bool->Mu->Prop)->Prop
noncomputable abbrev DTA:=Rho->Mu->(List D->Mu->Prop)->Prop
structure BN where
 nx:Rho->Mu->Prop
 rt:DK
 bk:Rho->Mu->Prop:=fun _ _=>False
 ct:Rho->Mu->Prop:=fun _ _=>False
noncomputable abbrev DTS:=BN->Rho->Mu->Prop
inductive kL(K:PySem.W.Frag)(Z:Mu)(H:Hp):List D->List V->Prop
 |nil:kL K Z H [] []
 |cons {d:D} {u:V} {ds:List D} {us:List V}:RpD K Z H d u->kL K Z H ds us->kL K Z H (d::ds) (u::us)
theorem kL.ext{ds:List D}{us:List V}(ok:bM K Z H)(e:Ext K Z H am H1):kL K Z H ds us->kL K am H1 ds us
 |.nil=>.nil
 |.cons h r=>.cons (h.ext ok e) (kL.ext ok e r)
theorem kL.length{ds:List D}{us:List V}:kL K Z H ds us->ds.length=us.length
 |.nil=>rfl
 |.cons _ r=>congrArg (· + 1) (kL.length r)
end
noncomputable def uL(K:PySem.W.Frag)(t:TE)(td:DTE):Prop:=∀(σ:St) (H:Hp) (ρ:Rho) (Z:Mu) (Qd:DK) (Q:VK),St0 K H ρ Z σ->td ρ Z Qd ->
 (∀d u U H',Ext K Z H U H'->St0 K H' ρ U σ->RpD K U H' d u->Qd d U->Q u H')->t σ H Q
noncomputable def Mv(K:PySem.W.Frag)(t:TT)(td:DTT):Prop:=∀(σ:St) (H:Hp) (ρ:Rho) (Z:Mu) (Qd:Bool->Mu->Prop) (Q:Bool->Hp->Prop),St0 K H ρ Z σ->td ρ Z Qd ->
 (∀b U H',Ext K Z H U H'->St0 K H' ρ U σ->Qd b U->Q b H')->t σ H Q
noncomputable def OY(K:PySem.W.Frag)(n:Nat)(t:TA)(td:DTA):Prop:=∀(σ:St) (H:Hp) (ρ:Rho) (Z:Mu) (Qd:List D->Mu->Prop) (Q:List V->Hp->Prop),St0 K H ρ Z σ->td ρ Z Qd ->
 (∀ds us U H',Ext K Z H U H'->St0 K H' ρ U σ->kL K U H' ds us->ds.length=n->Qd ds U->Q us H')->t σ H Q
noncomputable def Bz(K:PySem.W.Frag)(t:TS)(td:DTS):Prop:=∀(σ:St) (H:Hp) (ρ:Rho) (Z:Mu) (Dd:BN) (De:Ends),St0 K H ρ Z σ->td Dd ρ Z ->
 (∀ca bv U H',Ext K Z H U H'->St0 K H' bv U ca->Dd.nx bv U->De.nx ca H') ->
 (∀d u U H',Ext K Z H U H'->bM K U H'->RpD K U H' d u->Dd.rt d U->De.rt u H') ->
 (∀ca bv U H',Ext K Z H U H'->St0 K H' bv U ca->Dd.bk bv U->De.bk ca H') ->
 (∀ca bv U H',Ext K Z H U H'->St0 K H' bv U ca->Dd.ct bv U->De.ct ca H')->t De σ H
noncomputable def DE(X:Cx)(e:Expr)(td:DTE):Prop:=∃t,PE X e t/\uL X.K t td
noncomputable def DT(X:Cx)(e:Expr)(td:DTT):Prop:=∃t,PT X e t/\Mv X.K t td
noncomputable def DA(X:Cx)(es:List Expr)(td:DTA):Prop:=∃t,PA X es t/\OY X.K es.length t td
noncomputable def DS(X:Cx)(st:Stmt)(td:DTS):Prop:=∃t,PS X st t/\Bz X.K t td
noncomputable def DSs(X:Cx)(st:List Stmt)(td:DTS):Prop:=∃t,PSs X st t/\Bz X.K t td
section
variable {X:Cx}{a b c:Expr}{ta tb tc:DTE}{pos:Pos}
noncomputable def ah(i:Nat):DTE:=fun ρ Z Q=>match ρ[i]? with
 |some (some d)=>Q d Z
 |_=>False
noncomputable def dC(x:PyData):DTE:=fun _ Z Q=>Q (.v x) Z
theorem Mq{K:PySem.W.Frag}(i:Nat):uL K (Sj i) (ah i):=by
 intro σ H ρ Z Qd Q S h k
 unfold ah at h
 split at h
 ·rename_i d e
  obtain⟨u,h1,h2⟩:=S.rho.2 i d e
  exact⟨u,h1,k d u Z H .refl S h2 h⟩
 ·exact h.elim
theorem dv(i:Nat){x:Str}{pos:Pos}(hN:X.N[i]? = some x:=by rfl)(hv:Vis X.env.scope x:=by first|exact Or.inl rfl|exact Or.inr (Or.inl rfl)|exact Or.inr (Or.inr rfl))(hd:(x==("__debug__":Str))=false:=by decide)
  (hcd:(x==("__classdict__":Str))=false:=by decide):DE X (.Name x pos) (ah i):=⟨_,Qk hN hv hd hcd,Mq i⟩
theorem yg{K:PySem.W.Frag}{x:PyData}{u:V}(h:∀Z H,bM K Z H->Rp K Z H x u):uL K (tC u) (dC x):=fun σ H ρ Z Qd Q S q k=>k (.v x) u Z H .refl S (h Z H S.mu) q
theorem ai{i j pos}:DE X (.Constant (.int i) j pos) (dC (.int i)):=⟨_,PM,yg fun _ _ _=>.int i⟩
theorem di{i j pos}:DE X (.Constant (.bool i) j pos) (dC (.bool i)):=⟨_,Sh,yg fun _ _ _=>.bool i⟩
theorem CL{j pos}:DE X (.Constant .none j pos) (dC .none):=⟨_,Pj,yg fun _ _ _=>.none⟩
theorem Gk{x j pos}:DE X (.Constant (.str x) j pos) (dC (.str x)):=⟨_,QN,yg fun _ _ _=>.str x⟩
theorem Jf{x:Str}{d:PyData}{u:V}{w:Value}{pos:Pos}(hg:Gl X x)(hm:X.mg x=some w)(r:RelV u w)(h:∀Z H,bM X.K Z H->Rp X.K Z H d u)(hd:(x==("__debug__":Str))=false:=by decide):DE X (.Name x pos) (dC d):=
 ⟨_,OA hg hm r hd,yg h⟩
noncomputable def gj(K:PySem.W.Frag)(rr:R2)(r:D->D->Mu->DK->Prop):Prop:=∀(x y:D) (ux uy:V) (H:Hp) (Z:Mu) (Qd:DK) (Q:VK),bM K Z H->RpD K Z H x ux->RpD K Z H y uy->r x y Z Qd ->
 (∀d u U H',Ext K Z H U H'->bM K U H'->RpD K U H' d u->Qd d U->Q u H')->rr ux uy H Q
noncomputable def dOp(r:D->D->Mu->DK->Prop)(ta tb:DTE):DTE:=fun ρ Z Q=>ta ρ Z fun x am=>tb ρ am fun y be=>r x y be Q
theorem xQ{K:PySem.W.Frag}{rr:R2}{r}{t1 t2:TE}(lo:gj K rr r)(la:uL K t1 ta)(lb:uL K t2 tb):uL K (tOp rr t1 t2) (dOp r ta tb):=by
 intro σ H ρ Z Qd Q S h k
 refine la σ H ρ Z _ _ S h fun x ux am H1 e1 S1 rx h1=>?_
 refine lb σ H1 ρ am _ _ S1 h1 fun y uy be H2 e2 S2 ry h2=>?_
 exact lo x y ux uy H2 be _ _ S2.mu (rx.ext S1.mu e2) ry h2 fun d u U H' e3 ok r q=>k d u U H' (e1.trans (e2.trans e3)) ⟨ok,S2.rho.ext S2.mu e3⟩ r q
theorem wZ{op:Operator}{rr:R2}{r}(ho:OpR X (binaryOp op) rr)(lo:gj X.K rr r)(ha:DE X a ta)(hb:DE X b tb):DE X (.BinOp a op b pos) (dOp r ta tb):=by
 obtain⟨t1,p1,l1⟩:=ha
 obtain⟨t2,p2,l2⟩:=hb
 exact⟨_,SE ho p1 p2,xQ lo l1 l2⟩
theorem dJ{op:CmpOp}{rr:R2}{r}(ho:OpR X (compareOp op) rr)(lo:gj X.K rr r)(ha:DE X a ta)(hb:DE X b tb)(hm:behindInMarks op b=false):DE X (.Compare a [op] [b] pos) (dOp r ta tb):=by
 obtain⟨t1,p1,l1⟩:=ha
 obtain⟨t2,p2,l2⟩:=hb
 exact⟨_,Oy ho p1 p2 hm,xQ lo l1 l2⟩
noncomputable def dB(t:DTE):DTT:=fun ρ Z Q=>t ρ Z fun d am=>match d with
 |.v (.bool k)=>Q k am
 |_=>False
theorem vN{K:PySem.W.Frag}{t:TE}{td:DTE}(l:uL K t td):Mv K (Lw t) (dB td):=by
 intro σ H ρ Z Qd Q S h k
 refine l σ H ρ Z _ _ S h fun d u am H1 e1 S1 r q=>?_
 split at q
 ·rename_i b
  cases r
  exact⟨b,rfl,k b am H1 e1 S1 q⟩
 ·exact q.elim
theorem aS{op:CmpOp}{rr:R2}{r}(ho:OpR X (compareOp op) rr)(lo:gj X.K rr r)(ha:DE X a ta)(hb:DE X b tb)(hm:behindInMarks op b=false):DT X (.Compare a [op] [b] pos) (dB (dOp r ta tb)):=by
 obtain⟨t1,p1,l1⟩:=ha
 obtain⟨t2,p2,l2⟩:=hb
 exact⟨_,Ng ho p1 p2 hm,vN (xQ lo l1 l2)⟩
theorem cu{e:Expr}{td:DTE}(h:DE X e td)(he:∀whole,isTrue e X.env whole=(do let v <- whole;standAt e.pos;holding [v] (truthy v)):=by intro _;rfl):DT X e (dB td):=by
 obtain⟨t,p,l⟩:=h
 exact⟨_,QP p he,vN l⟩
noncomputable def rII(C:Int->Int->Prop)(g:Int->Int->PyData):D->D->Mu->DK->Prop:=fun x y Z Q=>match x,y with
 |.v (.int i),.v (.int j)=>C i j/\Q (.v (g i j)) Z
 |_,_=>False
theorem Oh{K:PySem.W.Frag}{C:Int->Int->Prop}{g:Int->Int->V}{gd:Int->Int->PyData}(hg:∀Z H i j,Rp K Z H (gd i j) (g i j)):gj K (rI C g) (rII C gd):=by
 intro x y ux uy H Z Qd Q ok rx ry h k
 unfold rII at h
 split at h
 ·rename_i i j
  cases rx;cases ry
  exact⟨i,j,rfl,rfl,h.1,k (.v _) _ Z H .refl ok (hg Z H i j) h.2⟩
 ·exact h.elim
noncomputable def Aj(g:Int->Int->PyData):D->D->Mu->DK->Prop:=fun x y Z Q=>match x,y with
 |.v (.int i),.v (.int j)=>Q (.v (g i j)) Z
 |_,_=>False
theorem Ip{K:PySem.W.Frag}{g:Int->Int->V}{gd:Int->Int->PyData}(hg:∀Z H i j,Rp K Z H (gd i j) (g i j)):gj K (rI0 g) (Aj gd):=by
 intro x y ux uy H Z Qd Q ok rx ry h k
 unfold Aj at h
 split at h
 ·rename_i i j
  cases rx;cases ry
  exact⟨i,j,rfl,rfl,k (.v _) _ Z H .refl ok (hg Z H i j) h⟩
 ·exact h.elim
noncomputable abbrev dc(ta tb:DTE):DTE:=dOp (Aj fun i j=>.int (i+j)) ta tb
noncomputable abbrev mH(ta tb:DTE):DTE:=dOp (Aj fun i j=>.int (i-j)) ta tb
noncomputable abbrev MulOk(i j:Int):Prop:=IntMulOk i j
noncomputable abbrev eI(ta tb:DTE):DTE:=dOp (rII MulOk fun i j=>.int (i*j)) ta tb
noncomputable abbrev yF(ta tb:DTE):DTE:=dOp (rII (fun _ j=>j≠0) fun i j=>.int (i.fmod j)) ta tb
noncomputable abbrev wC(i j:Int):Prop:=j≠0/\Builtin.divisionGoesByPylong i j=false
noncomputable abbrev xw(ta tb:DTE):DTE:=dOp (rII wC fun i j=>.int (i.fdiv j)) ta tb
noncomputable abbrev NI(ta tb:DTE):DTE:=dOp (rII Pd fun i j=>.int (i ^ j.toNat)) ta tb
theorem Ny:OpR X (binaryOp .Mult) (rI MulOk fun i j=>.int (i*j)):=opI fun _ _ _ _ _ _ _ hc q=>mul_int q hc
theorem Nj:OpR X (binaryOp .FloorDiv) (rI wC fun i j=>.int (i.fdiv j)):=opI fun _ _ _ _ _ _ _ hc q=>floordiv_int hc.1 q (.inl hc.2)
theorem bg(ha:DE X a ta)(hb:DE X b tb):DE X (.BinOp a .Add b pos) (dc ta tb):=wZ L9 (Ip fun _ _ _ _=>.int _) ha hb
theorem dG(ha:DE X a ta)(hb:DE X b tb):DE X (.BinOp a .Sub b pos) (mH ta tb):=wZ O1 (Ip fun _ _ _ _=>.int _) ha hb
theorem bF(ha:DE X a ta)(hb:DE X b tb):DE X (.BinOp a .Mult b pos) (eI ta tb):=wZ Ny (Oh fun _ _ _ _=>.int _) ha hb
theorem l7(ha:DE X a ta)(hb:DE X b tb):DE X (.BinOp a .Mod b pos) (yF ta tb):=wZ Ol (Oh fun _ _ _ _=>.int _) ha hb
theorem jZ(ha:DE X a ta)(hb:DE X b tb):DE X (.BinOp a .FloorDiv b pos) (xw ta tb):=wZ Nj (Oh fun _ _ _ _=>.int _) ha hb
theorem FX(ha:DE X a ta)(hb:DE X b tb):DE X (.BinOp a .Pow b pos) (NI ta tb):=wZ Qj (Oh fun _ _ _ _=>.int _) ha hb
noncomputable abbrev rLt:=Aj fun i j=>.bool (decide (i<j))
noncomputable abbrev rLe:=Aj fun i j=>.bool (decide (i<=j))
noncomputable abbrev rGt:=Aj fun i j=>.bool (decide (j<i))
noncomputable abbrev rGe:=Aj fun i j=>.bool (decide (j<=i))
theorem eG{K:PySem.W.Frag}{p:Int->Int->Bool}:gj K (rI0 fun i j=>.bl (p i j)) (Aj fun i j=>.bool (p i j)):=Ip fun _ _ _ _=>.bool _
noncomputable def vB(ta:DTE):DTE:=fun ρ Z Q=>ta ρ Z fun x am=>match x with
 |.v (.int i)=>Q (.v (.int (-i))) am
 |_=>False
theorem kD(ha:DE X a ta):DE X (.UnaryOp .USub a pos) (vB ta):=by
 obtain⟨t1,p1,l1⟩:=ha
 refine⟨_,SD Ph p1,fun σ H ρ Z Qd Q S h k=>?_⟩
 refine l1 σ H ρ Z _ _ S h fun x ux am H1 e1 S1 rx h1=>?_
 split at h1
 ·rename_i i
  cases rx
  exact⟨i,rfl,k (.v _) _ am H1 e1 S1 (Rp.int _) h1⟩
 ·exact h1.elim
noncomputable def zz(t u:DTT):DTT:=fun ρ Z Q=>t ρ Z fun c am=>if c=true then u ρ am Q else Q false am
noncomputable def ip(t u:DTT):DTT:=fun ρ Z Q=>t ρ Z fun c am=>if c=true then Q true am else u ρ am Q
noncomputable def dS(t:DTT):DTT:=fun ρ Z Q=>t ρ Z fun c am=>Q (!c) am
noncomputable def DW(X:Cx)(e:Expr)(td:DTT):Prop:=∃t,PW X e t/\Mv X.K t td
theorem DW.dt{e:Expr}{td:DTT}(h:DW X e td):DT X e td:=let ⟨t,p,l⟩:=h;⟨t,p.pt,l⟩
variable {tA tB':DTT}{rest:List Expr}
theorem xV(ha:DT X a tA):DW X (.BoolOp .And [a] pos) tA:=let ⟨t,p,l⟩:=ha;⟨t,pw_and1 p,l⟩
theorem d9(ha:DT X a tA):DW X (.BoolOp .Or [a] pos) tA:=let ⟨t,p,l⟩:=ha;⟨t,pw_or1 p,l⟩
theorem CB(ha:DT X a tA)(hb:DW X (.BoolOp .And (b::rest) pos) tB'):DW X (.BoolOp .And (a::b::rest) pos) (zz tA tB'):=by
 obtain⟨t1,p1,l1⟩:=ha
 obtain⟨t2,p2,l2⟩:=hb
 refine⟨_,pw_and p1 p2,fun σ H ρ Z Qd Q S h k=>?_⟩
 refine l1 σ H ρ Z _ _ S h fun c am H1 e1 S1 h1=>?_
 cases c with
 |true=>
  refine AL (l2 σ H1 ρ am _ _ S1 (by simpa using h1) fun c be H2 e2 S2 h2=>k c be H2 (e1.trans e2) S2 h2)
 |false=>exact AW (k false am H1 e1 S1 (by simpa using h1))
theorem eB(ha:DT X a tA)(hb:DW X (.BoolOp .Or (b::rest) pos) tB'):DW X (.BoolOp .Or (a::b::rest) pos) (ip tA tB'):=by
 obtain⟨t1,p1,l1⟩:=ha
 obtain⟨t2,p2,l2⟩:=hb
 refine⟨_,pw_or p1 p2,fun σ H ρ Z Qd Q S h k=>?_⟩
 refine l1 σ H ρ Z _ _ S h fun c am H1 e1 S1 h1=>?_
 cases c with
 |true=>exact AL (k true am H1 e1 S1 (by simpa using h1))
 |false=>
  refine AW (l2 σ H1 ρ am _ _ S1 (by simpa using h1) fun c be H2 e2 S2 h2=>k c be H2 (e1.trans e2) S2 h2)
theorem cP(ha:DT X a tA):DT X (.UnaryOp .Not a pos) (dS tA):=by
 obtain⟨t1,p1,l1⟩:=ha
 refine⟨_,Px p1,fun σ H ρ Z Qd Q S h k=>?_⟩
 exact l1 σ H ρ Z _ _ S h fun c am H1 e1 S1 h1=>k _ am H1 e1 S1 h1
noncomputable def kE(ta tb:DTE):DTE:=fun ρ Z Q=>ta ρ Z fun x am=>match x with
 |.v (.bool c)=>if c=true then tb ρ am Q else Q (.v (.bool false)) am
 |_=>False
noncomputable def KN(ta:DTE):DTE:=fun ρ Z Q=>ta ρ Z fun x am=>match x with
 |.v (.bool c)=>Q (.v (.bool (!c))) am
 |_=>False
theorem jc{op}(h:DE X a ta):DE X (.BoolOp op [a] pos) ta:=let ⟨t,p,l⟩:=h;⟨t,Qe p,l⟩
theorem ir(ha:DE X a ta)(hb:DE X (.BoolOp .And (b::rest) pos) tb):DE X (.BoolOp .And (a::b::rest) pos) (kE ta tb):=by
 obtain⟨t1,p1,l1⟩:=ha
 obtain⟨t2,p2,l2⟩:=hb
 refine⟨_,Pz p1 p2,fun σ H ρ Z Qd Q S h k=>?_⟩
 refine l1 σ H ρ Z _ _ S h fun x ux am H1 e1 S1 rx h1=>?_
 split at h1
 ·rename_i c
  cases rx
  refine⟨c,rfl,?_⟩
  cases c with
  |true=>exact AL (l2 σ H1 ρ am _ _ S1 (by simpa using h1) fun d u be H2 e2 S2 r2 h2=>k d u be H2 (e1.trans e2) S2 r2 h2)
  |false=>exact AW (k (.v _) _ am H1 e1 S1 (Rp.bool false) (by simpa using h1))
 ·exact h1.elim
theorem LF(ha:DE X a ta):DE X (.UnaryOp .Not a pos) (KN ta):=by
 obtain⟨t1,p1,l1⟩:=ha
 refine⟨_,OZ p1,fun σ H ρ Z Qd Q S h k=>?_⟩
 refine l1 σ H ρ Z _ _ S h fun x ux am H1 e1 S1 rx h1=>?_
 split at h1
 ·rename_i c
  cases rx
  exact⟨c,rfl,k (.v _) _ am H1 e1 S1 (Rp.bool _) h1⟩
 ·exact h1.elim
noncomputable def dIf(t:DTT)(ta tb:DTE):DTE:=fun ρ Z Q=>t ρ Z fun c am=>if c=true then ta ρ am Q else tb ρ am Q
theorem ES{c:Expr}(hc:DT X c tA)(ha:DE X a ta)(hb:DE X b tb):DE X (.IfExp c a b pos) (dIf tA ta tb):=by
 obtain⟨t0,p0,l0⟩:=hc
 obtain⟨t1,p1,l1⟩:=ha
 obtain⟨t2,p2,l2⟩:=hb
 refine⟨_,KP p0 p1 p2,fun σ H ρ Z Qd Q S h k=>?_⟩
 refine l0 σ H ρ Z _ _ S h fun c am H1 e1 S1 h1=>?_
 cases c with
 |true=>exact AL (l1 σ H1 ρ am _ _ S1 (by simpa using h1) fun d u be H2 e2 S2 r2 h2=>k d u be H2 (e1.trans e2) S2 r2 h2)
 |false=>exact AW (l2 σ H1 ρ am _ _ S1 (by simpa using h1) fun d u be H2 e2 S2 r2 h2=>k d u be H2 (e1.trans e2) S2 r2 h2)
end
section
variable {K:PySem.W.Frag}{Z am:Mu}{H H1:Hp}{p:Addr}
theorem dj{o:HO}(h:H p=none):Ext K Z H Z (upd H p o):=
 ⟨fun b u e _ _=>by rw[aU (aZ e h)];exact e,fun b ps e _=>⟨ps,by rw[aU (aZ e h)];exact e⟩,fun _ ds q=>⟨ds,q⟩,fun _ q _=>q,fun b o e _=>⟨o,by rw[aU (aZ e h)];exact e⟩,fun _ c q=>⟨c,q⟩⟩
theorem bM.HL(ok:bM K Z H)(e:Ext K Z H Z H1)(s:zw H H1):bM K Z H1:=⟨fun a ds q=>by
 obtain⟨xs,h1,h2⟩:=ok a ds q
 exact⟨xs,s _ _ h1,h2.ext ok e⟩,ok.tab.of fun b o h _ _=>s b o h,fun a c q=>by
 obtain⟨z,o,h1,h2⟩:=ok.box a c q
 exact⟨z,o,s _ _ h1,h2.ext ok e⟩⟩
theorem zN{o:HO}(h:H p=none):zw H (upd H p o):=fun b u q=>by rw[aU (aZ q h)];exact q
theorem bM.new{o:HO}(ok:bM K Z H)(h:H p=none):bM K Z (upd H p o):=ok.HL (dj h) (zN h)
theorem St0.new{o:HO}{ρ:Rho}{σ:St}(S:St0 K H ρ Z σ)(h:H p=none):St0 K (upd H p o) ρ Z σ:=⟨S.mu.new h,S.rho.ext S.mu (dj h)⟩
theorem fJ{us:List V}{ds:List PyData}(ok:bM K Z H)(r:RpL K Z H ds us)(h:H p=none):Rp K Z (upd H p (.tup us)) (.tuple ds) (.ref p):=
 .tuple (SqT.of fo) (r.ext ok (dj h))
theorem fT{us:List V}{ds:List PyData}(ok:bM K Z H)(r:RpL K Z H ds us)(h:H p=none):Rp K Z (upd H p (.lst us)) (.list ds) (.ref p):=
 .list fo (ok.free h) (r.ext ok (dj h))
theorem iJ{o:HO}{ds:List PyData}(ok:bM K Z H)(h:H p=none)(hk:K.lookup p=none):Ext K Z H (aE Z p ds) (upd H p o) where
 keep:=fun b u e _ _=>by rw[aU (aZ e h)];exact e
 tb:=fun b ps e _=>⟨ps,by rw[aU (aZ e h)];exact e⟩
 dom:=fun b es q=>by
  have:b≠p:=fun z=>by rw[z,ok.free h] at q;cases q
  exact⟨es,by rw[aW this];exact q⟩
 fresh:=fun b n q=>by
  have:b≠p:=fun z=>by
   rcases q with q|q
   ·exact q (by rw[z];exact h)
   ·exact q (by rw[z];exact hk)
  rw[aW this];exact n
 st:=fun b o e _=>⟨o,by rw[aU (aZ e h)];exact e⟩
 bx:=fun b c q=>⟨c,q⟩
theorem bM.mut{us:List V}{ds:List PyData}(ok:bM K Z H)(r:RpL K Z H ds us)(h:H p=none)(hk:K.lookup p=none):bM K (aE Z p ds) (upd H p (.lst us)):=⟨fun a es q=>by
 have e:=iJ (o:=.lst us) (ds:=ds) ok h hk
 by_cases ha:a=p
 ·subst ha
  rw[aF] at q
  cases q
  exact⟨us,fo,r.ext ok e⟩
 ·rw[aW ha] at q
  obtain⟨xs,h1,h2⟩:=ok a es q
  exact⟨xs,by rw[aU ha];exact h1,h2.ext ok e⟩,ok.tab.of fun b o e _ _=>by rw[aU (aZ e h)];exact e,fun a c q=>by
 obtain⟨z,o,h1,h2⟩:=ok.box a c q
 exact⟨z,o,by rw[aU (aZ h1 h)];exact h1,h2.ext ok (iJ ok h hk)⟩⟩
theorem iM{o:HO}{ds es:List PyData}(h:Z p=some ds):Ext K Z H (aE Z p es) (upd H p o) where
 keep:=fun b u e n _=>by
  have:b≠p:=fun z=>by rw[z,h] at n;cases n
  rw[aU this];exact e
 tb:=fun b ps e n=>by
  have:b≠p:=fun z=>by rw[z,h] at n;cases n
  exact⟨ps,by rw[aU this];exact e⟩
 dom:=fun b fs q=>by
  by_cases hb:b=p
  ·subst hb;exact⟨es,aF⟩
  ·exact⟨fs,by rw[aW hb];exact q⟩
 fresh:=fun b n q=>by
  have:b≠p:=fun z=>by rw[z,h] at n;cases n
  rw[aW this];exact n
 st:=fun b o e n=>by
  have:b≠p:=fun z=>by rw[z,h] at n;cases n
  exact⟨o,by rw[aU this];exact e⟩
 bx:=fun b c q=>⟨c,q⟩
theorem bM.set{us:List V}{ds es:List PyData}(ok:bM K Z H)(h:Z p=some ds)(r:RpL K Z H es us):bM K (aE Z p es) (upd H p (.lst us)):=⟨fun a fs q=>by
 have e:Ext K Z H (aE Z p es) (upd H p (.lst us)):=iM h
 by_cases ha:a=p
 ·subst ha
  rw[aF] at q
  cases q
  exact⟨us,fo,r.ext ok e⟩
 ·rw[aW ha] at q
  obtain⟨xs,h1,h2⟩:=ok a fs q
  exact⟨xs,by rw[aU ha];exact h1,h2.ext ok e⟩,by
 obtain⟨ys,hy,_⟩:=ok p ds h
 exact ok.tab.of fun b o e n _=>by
  have:b≠p:=fun z=>by rw[z,hy] at e;exact n ys (Option.some.inj e).symm
  rw[aU this];exact e,fun a c q=>by
 obtain⟨ys,hy,_⟩:=ok p ds h
 obtain⟨z,o,h1,h2⟩:=ok.box a c q
 have:a≠p:=fun w=>by rw[w,hy] at h1;cases h1
 exact⟨z,o,by rw[aU this];exact h1,h2.ext ok (iM h)⟩⟩
end
noncomputable def dh:List D->Option (List PyData)
 |[]=>some []
 |.v x::r=>(dh r).map (x::·)
 |_::_=>none
theorem kL.data{K:PySem.W.Frag}{Z:Mu}{H:Hp}:∀{ds:List D} {us:List V} {xs:List PyData},kL K Z H ds us->dh ds=some xs->RpL K Z H xs us
 |_,_,_,.nil,e=>by cases e;exact .nil
 |.v x::r,_,xs,.cons h t,e=>by
  simp only[dh] at e
  cases q:dh r with
  |none=>rw[q] at e;cases e
  |some ys=>rw[q] at e;cases e;exact .cons h (kL.data t q)
 |.m _::_,_,_,.cons _ _,e=>by simp[dh] at e
 |.s _::_,_,_,.cons _ _,e=>by simp[dh] at e
 |.o _::_,_,_,.cons _ _,e=>by simp[dh] at e
section
variable {X:Cx}{e:Expr}{es:List Expr}{te:DTE}{t:DTA}{pos:Pos}
noncomputable def ar:DTA:=fun _ Z Q=>Q [] Z
noncomputable def ag(ta:DTE)(tr:DTA):DTA:=fun ρ Z Q=>ta ρ Z fun x am=>tr ρ am fun xs be=>Q (x::xs) be
theorem aj:DA X [] ar:=⟨_,vm,fun σ H ρ Z Qd Q S h k=>k [] [] Z H .refl S .nil rfl h⟩
theorem ae(ha:DE X e te)(hr:DA X es t)(hs:starEach (e::es) X.env=(false,eval e X.env)::starEach es X.env:=by rfl):DA X (e::es) (ag te t):=by
 obtain⟨t1,p1,l1⟩:=ha
 obtain⟨t2,p2,l2⟩:=hr
 refine⟨_,lH p1 p2 hs,fun σ H ρ Z Qd Q S h k=>?_⟩
 refine l1 σ H ρ Z _ _ S h fun x ux am H1 e1 S1 rx h1=>?_
 refine l2 σ H1 ρ am _ _ S1 h1 fun xs us be H2 e2 S2 rs len h2=>?_
 exact k (x::xs) (ux::us) be H2 (e1.trans e2) S2 (.cons (rx.ext S1.mu e2) rs) (by rw[length_cons,length_cons,len]) h2
noncomputable def aY(t:DTA):DTE:=fun ρ Z Q=>t ρ Z fun ds am=>match dh ds with
 |some xs=>Q (.v (.tuple xs)) am
 |none=>False
noncomputable def nA(t:DTA):DTE:=fun ρ Z Q=>t ρ Z fun ds am=>match dh ds with
 |some xs=>Q (.v (.list xs)) am
 |none=>False
noncomputable def rp(t:DTA):DTE:=fun ρ Z Q=>t ρ Z fun ds am=>match dh ds with
 |some xs=>∀p,am p=none->Q (.m p) (aE am p xs)
 |none=>False
theorem aB{x1}(h:DA X es t)(hl:es.length<=1000:=by decide):DE X (.Tuple es x1 pos) (aY t):=by
 obtain⟨t1,p1,l1⟩:=h
 refine⟨_,QW p1,fun σ H ρ Z Qd Q S h k=>?_⟩
 refine l1 σ H ρ Z _ _ S h fun ds us am H1 e1 S1 rs len h1=>?_
 cases q:dh ds with
 |none=>rw[q] at h1;exact h1.elim
 |some xs=>
  rw[q] at h1
  refine⟨Nat.le_of_lt (gh (by rw[<- rs.length,len];exact hl)),fun p hp=>?_⟩
  exact k (.v (.tuple xs)) _ am _ (e1.trans (dj hp)) (S1.new hp) (fJ S1.mu (rs.data q) hp) h1
theorem ej(h:DA X es t)(hl:es.length<=1000:=by decide):DE X (.List es pos) (nA t):=by
 obtain⟨t1,p1,l1⟩:=h
 refine⟨_,PJ p1,fun σ H ρ Z Qd Q S h k=>?_⟩
 refine l1 σ H ρ Z _ _ S h fun ds us am H1 e1 S1 rs len h1=>?_
 cases q:dh ds with
 |none=>rw[q] at h1;exact h1.elim
 |some xs=>
  rw[q] at h1
  refine⟨Nat.le_of_lt (gh (by rw[<- rs.length,len];exact hl)),fun p hp=>?_⟩
  exact k (.v (.list xs)) _ am _ (e1.trans (dj hp)) (S1.new hp) (fT S1.mu (rs.data q) hp) h1
noncomputable def SF(K:PySem.W.Frag)(t:TA):TE:=fun σ H Q=>t σ H fun xs H1=>xs.length<=sizeLine/\∀p,H1 p=none->K.lookup p=none->Q (.ref p) (upd H1 p (.lst xs))
theorem N5{t:TA}(h:PA X es t):PE X (.List es pos) (SF X.K t):=by
 intro pins s σ H Q I hq
 refine wpAny_List_spliced (thn (h pos pins s σ H _ I hq) fun us s1 ⟨xs,H1,I1,r,z,q⟩=>⟨by rw[<- r.length];exact z,?_⟩)
 have hf:H1 s1.heap.objs.size=none:=I1.hok.fresh (Nat.le_refl _)
 have hk:X.K.lookup s1.heap.objs.size=none:=by
  cases c:X.K.lookup s1.heap.objs.size with
  |none=>rfl
  |some o=>exact absurd (Heap.lt_size (I1.kIn _ _ c)) (lt_irrefl _)
 refine⟨.ref s1.heap.objs.size,upd H1 s1.heap.objs.size (.lst xs),I1.laid (t':=s1.toks) (fun b u e=>Heap.get?_push_of_some _ e) (Nat.le_refl _) ?_,rfl,q _ hf hk⟩
 exact⟨z,us,0,r,Heap.get?_push_size _ rfl⟩
theorem lD(h:DA X es t)(hl:es.length<=1000:=by decide):DE X (.List es pos) (rp t):=by
 obtain⟨t1,p1,l1⟩:=h
 refine⟨_,N5 p1,fun σ H ρ Z Qd Q S h k=>?_⟩
 refine l1 σ H ρ Z _ _ S h fun ds us am H1 e1 S1 rs len h1=>?_
 cases q:dh ds with
 |none=>rw[q] at h1;exact h1.elim
 |some xs=>
  rw[q] at h1
  refine⟨Nat.le_of_lt (gh (by rw[<- rs.length,len];exact hl)),fun p hp hk=>?_⟩
  have ex:=iJ (o:=.lst us) (ds:=xs) S1.mu hp hk
  exact k (.m p) _ (aE am p xs) _ (e1.trans ex) ⟨S1.mu.mut (rs.data q) hp hk,S1.rho.ext S1.mu ex⟩ ⟨rfl,xs,aF⟩ (h1 p (S1.mu.free hp))
end
section
variable {X:Cx}{pins:List (Addr×Obj)}{σ:St}{H:Hp}{s:Shared}{Z:Mu}
mutual
theorem gL(I:Inv X pins σ H s):∀{d:PyData} {x:V} {u:Value},Rp X.K Z H d x->RelV x u->∃as,Reads s.heap u d as
 |_,_,_,.none,r=>by cases r;exact⟨_,.none⟩
 |_,_,_,.bool b,r=>by cases r;exact⟨_,.bool b⟩
 |_,_,_,.int i,r=>by obtain⟨t,rfl⟩:=r;exact⟨_,.int i t⟩
 |_,_,_,.str y,r=>by obtain⟨t,rfl⟩:=r;exact⟨_,.str y t⟩
 |_,_,_,.list h _ q,r=>by
  cases r
  obtain⟨its,rv,⟨o,n,ho,hc,_,hd⟩,_⟩:=I.list (SqL.of h)
  obtain⟨as,ra⟩:=qc I q rv
  exact⟨_,.list ho hc hd (by simpa using ra)⟩
 |_,_,_,.tuple h q,r=>by
  cases r
  obtain⟨its,rv,⟨o,ho,hc,n,hd⟩,_⟩:=I.tuple h
  obtain⟨as,ra⟩:=qc I q rv
  exact⟨_,.tuple ho hc hd (by simpa using ra)⟩
theorem qc(I:Inv X pins σ H s):∀{ds:List PyData} {xs:List V} {us:List Value},RpL X.K Z H ds xs->Vals xs us->∃as,ReadsAll s.heap us ds as
 |_,_,_,.nil,.nil=>⟨_,.nil⟩
 |_,_,_,.cons h t,.cons r q=>by
  obtain⟨as,ra⟩:=gL I h r
  obtain⟨bs,rb⟩:=qc I t q
  exact⟨_,.cons ra rb⟩
end
end
section
variable {X:Cx}
noncomputable def PX(K:PySem.W.Frag)(neg:Bool):R2:=fun x y H Q=>∃Z a b,Rp K Z H a x/\Rp K Z H b y/\SeqAt.shaped a=true/\SeqAt.shaped b=true/\Q (.bl (neg ^^ PyData.eqv a b)) H
theorem bZ(hu:X.A.units+64<cLine):OpR X (compareOp .Eq) (PX X.K false):=by
 intro pins s σ H x y v u Q I rx ry h
 obtain⟨Z,a,b,ha,hb,sa,sb,q⟩:=h
 obtain⟨as,ra⟩:=gL I ha rx
 obtain⟨bs,rb⟩:=gL I hb ry
 exact eq_dataH ra rb sa sb hu ⟨.bl (PyData.eqv a b),H,I,rfl,by simpa using q⟩
theorem jk(hu:X.A.units+64<cLine):OpR X (compareOp .NotEq) (PX X.K true):=by
 intro pins s σ H x y v u Q I rx ry h
 obtain⟨Z,a,b,ha,hb,sa,sb,q⟩:=h
 obtain⟨as,ra⟩:=gL I ha rx
 obtain⟨bs,rb⟩:=gL I hb ry
 exact ne_dataH ra rb sa sb hu ⟨.bl (!PyData.eqv a b),H,I,rfl,by simpa using q⟩
noncomputable def de(neg:Bool):D->D->Mu->DK->Prop:=fun x y Z Q=>match x,y with
 |.v a,.v b=>SeqAt.shaped a=true/\SeqAt.shaped b=true/\Q (.v (.bool (neg ^^ PyData.eqv a b))) Z
 |_,_=>False
theorem bq{K:PySem.W.Frag}{neg:Bool}:gj K (PX K neg) (de neg):=by
 intro x y ux uy H Z Qd Q ok rx ry h k
 unfold de at h
 split at h
 ·rename_i a b
  exact⟨Z,a,b,rx,ry,h.1,h.2.1,k (.v _) _ Z H .refl ok (Rp.bool _) h.2.2⟩
 ·exact h.elim
noncomputable def QF(K:PySem.W.Frag)(neg:Bool):R2:=fun x y H Q=>∃Z a bs,Rp K Z H a x/\Rp K Z H (.list bs) y/\PyData.canLayAll0 bs=true/\a.canLay0=true/\PyData.depth a<=60/\Q (.bl (neg ^^ bs.any fun b=>PyData.eqv b a)) H
theorem SI(hu:X.A.units+64<cLine):OpR X (compareOp .In) (QF X.K false):=by
 intro pins s σ H x y v u Q I rx ry h
 obtain⟨Z,a,b,ha,hb,sb,sa,dp,q⟩:=h
 obtain⟨as,ra⟩:=gL I ha rx
 obtain⟨bs,rb⟩:=gL I hb ry
 refine SeqAt.in_list_reads rb ra sb sa ∅ ⟨.bl (b.any fun z=>PyData.eqv z a),H,I,rfl,by simpa using q⟩
theorem J7(hu:X.A.units+64<cLine):OpR X (compareOp .NotIn) (QF X.K true):=by
 intro pins s σ H x y v u Q I rx ry h
 obtain⟨Z,a,b,ha,hb,sb,sa,dp,q⟩:=h
 obtain⟨as,ra⟩:=gL I ha rx
 obtain⟨bs,rb⟩:=gL I hb ry
 refine SeqAt.notIn_list_reads rb ra sb sa ∅ ⟨.bl (!b.any fun z=>PyData.eqv z a),H,I,rfl,by simpa using q⟩
noncomputable def NP(neg:Bool):D->D->Mu->DK->Prop:=fun x y Z Q=>match x,y with
 |.v a,.v (.list bs)=>PyData.canLayAll0 bs=true/\a.canLay0=true/\PyData.depth a<=60/\Q (.v (.bool (neg ^^ bs.any fun b=>PyData.eqv b a))) Z
 |_,_=>False
theorem Qz{K:PySem.W.Frag}{neg:Bool}:gj K (QF K neg) (NP neg):=by
 intro x y ux uy H Z Qd Q ok rx ry h k
 unfold NP at h
 split at h
 ·rename_i a b
  exact⟨Z,a,b,rx,ry,h.1,h.2.1,h.2.2.1,k (.v _) _ Z H .refl ok (Rp.bool _) h.2.2.2⟩
 ·exact h.elim
end
section
variable {X:Cx}{a b e:Expr}{es:List Expr}{ta tb te:DTE}{t:DTA}{p pos:Pos}
noncomputable def aQ:D->D->Mu->DK->Prop:=fun x y Z Q=>match x,y with
 |.v (.list xs),.v (.int i)=>(match atI xs i with|some d=>Q (.v d) Z|none=>False)
 |.v (.tuple xs),.v (.int i)=>(match atI xs i with|some d=>Q (.v d) Z|none=>False)
 |.m l,.v (.int i)=>(match Z l with
  |some xs=>(match atI xs i with|some d=>Q (.v d) Z|none=>False)
  |none=>False)
 |.s ns,.v (.int i)=>(match atI ns i with|some d=>Q (.v (.int d)) Z|none=>False)
 |_,_=>False
theorem Sx{K:PySem.W.Frag}:gj K (rIx K) aQ:=by
 intro x y ux uy H Z Qd Q ok rx ry h k
 unfold aQ at h
 split at h
 ·rename_i xs i
  cases ry
  cases q:atI xs i with
  |none=>rw[q] at h;exact h.elim
  |some d=>
   rw[q] at h
   cases rx with
   |list hs hn r=>
    obtain⟨u,e1,e2⟩:=G0 r q
    exact .inl ⟨_,_,i,u,rfl,rfl,SqL.of hs,e1,k (.v d) u Z H .refl ok e2 h⟩
 ·rename_i xs i
  cases ry
  cases q:atI xs i with
  |none=>rw[q] at h;exact h.elim
  |some d=>
   rw[q] at h
   cases rx with
   |tuple hs r=>
    obtain⟨u,e1,e2⟩:=G0 r q
    exact .inr (.inl ⟨_,_,i,u,rfl,rfl,hs,e1,k (.v d) u Z H .refl ok e2 h⟩)
 ·rename_i l i
  cases ry
  obtain⟨rfl,ds,hm⟩:=rx
  rw[hm] at h
  simp only at h
  cases q:atI ds i with
  |none=>rw[q] at h;exact h.elim
  |some d=>
   rw[q] at h
   obtain⟨us,hl,r⟩:=ok l ds hm
   obtain⟨u,e1,e2⟩:=G0 r q
   exact .inl ⟨_,_,i,u,rfl,rfl,SqL.of hl,e1,k (.v d) u Z H .refl ok e2 h⟩
 ·rename_i ns i
  cases ry
  obtain⟨a,rfl,hs,hn⟩:=rx
  cases q:atI ns i with
  |none=>rw[q] at h;exact h.elim
  |some d=>
   rw[q] at h
   have e1:atI (ns.map V.int) i=some (.int d):=by
    unfold atI at q ⊢
    rw[length_map]
    cases z:ixN ns.length i with
    |none=>rw[z] at q;cases q
    |some j=>
     rw[z] at q
     simp only[bind_some,getElem?_map] at q ⊢
     rw[q]<;>rfl
   exact .inl ⟨_,_,i,_,rfl,rfl,hs,e1,k (.v (.int d)) _ Z H .refl ok (Rp.int d) h⟩
 ·exact h.elim
theorem aG(ha:DE X a ta)(hb:DE X b tb)(hs:Jm b:=by exact fun _ _=>rfl):DE X (.Subscript a b pos) (dOp aQ ta tb):=by
 obtain⟨t1,p1,l1⟩:=ha
 obtain⟨t2,p2,l2⟩:=hb
 exact⟨_,R4 Q2 p1 p2 hs,xQ Sx l1 l2⟩
theorem MQ{prog:Program}{w:World}{A:Around}{E:Value->Shared->Prop}{s:Shared}{t b:Addr}{ws:List Value}{Q:Value->Shared->Prop}(ht:IsTup s.heap t #[])(hb:IsTup s.heap b ws.toArray)
  (h1:Q (.ref b) s):wpAny (model prog w) A (binaryOp .Add (.ref t) (.ref b)) Q E s:=by
 obtain⟨⟨cls,dd,data,sl⟩,ho,hc,n,hd⟩:=id ht
 obtain⟨⟨cls2,dd2,data2,sl2⟩,ho2,hc2,n2,hd2⟩:=id hb
 simp only at hc hd hc2 hd2
 subst hc hd hc2 hd2
 exact concat_meets ⟨_,ho,rfl⟩ ⟨_,ho2,rfl⟩ noFill_tuple_add seq_tuple_add PySem.F.slot_tuple_add PySem.F.entry_tuple_add (PySem.F.args_tuple_add_2 _ _)
  (tuple_addW0 t b #[] ws.toArray n n2 dd dd2 sl sl2 rfl) ⟨ho,ho2,h1⟩
noncomputable def va(Z:Mu):D->Option (List PyData)
 |.v (.list xs)=>some xs
 |.m l=>Z l
 |_=>none
theorem Ey{K:PySem.W.Frag}{Z:Mu}{H:Hp}{x:D}{u:V}{xs:List PyData}(ok:bM K Z H)(r:RpD K Z H x u)(h:va Z x=some xs):∃a us,u = .ref a/\H a=some (.lst us)/\RpL K Z H xs us:=by
 cases x with
 |v d=>
  cases d<;>simp only[va] at h<;>try cases h
  cases r with
  |list hs _ q=>exact⟨_,_,rfl,hs,q⟩
 |m l=>
  obtain⟨rfl,ds,hm⟩:=r
  obtain⟨us,hl,q⟩:=ok l xs h
  exact⟨l,us,rfl,hl,q⟩
 |s ns=>cases h
 |o a=>cases h
 |b a=>cases h
 |q P=>cases h
noncomputable def IG:D->D->Mu->DK->Prop:=fun x y Z Q=>match va Z x,va Z y with
 |some xs,some ys=>xs.length+ys.length<=1000/\Q (.v (.list (xs++ys))) Z
 |_,_=>False
theorem xX{n:Nat}(h:n<=1000):n<=sizeLine:=Nat.le_of_lt (gh h)
theorem P0{K:PySem.W.Frag}:gj K Qp IG:=by
 intro x y ux uy H Z Qd Q ok rx ry h k
 unfold IG at h
 split at h
 ·rename_i xs ys hx hy
  obtain⟨a,us,rfl,ha,ra⟩:=Ey ok rx hx
  obtain⟨b,ws,rfl,hb,rb⟩:=Ey ok ry hy
  refine⟨a,b,us,ws,rfl,rfl,ha,hb,xX (by rw[<- ra.length,<- rb.length];exact h.1),fun p hp=>?_⟩
  exact k (.v _) _ Z _ (dj hp) (ok.new hp) (fT ok (ra.append rb) hp) h.2
 ·exact h.elim
noncomputable def Hj(K:PySem.W.Frag):R2:=fun x y H Q=>∃a b xs ys,x = .ref a/\y = .ref b/\SqT K H a xs/\SqT K H b ys/\xs.length+ys.length<=sizeLine /\
 (xs=[]->Q (.ref b) H)/\(ys=[]->Q (.ref a) H)/\(∀p,H p=none->Q (.ref p) (upd H p (.tup (xs++ys))))
theorem Li:OpR X (binaryOp .Add) (Hj X.K):=by
 intro pins s σ H x y v u Q I rx ry h
 obtain⟨a,b,xs,ys,rfl,rfl,ha,hb,hz,q0,q1,q2⟩:=h
 by_cases hx:xs=[]
 ·subst hx
  cases rx
  cases ry
  obtain⟨its,r1,p1,_⟩:=I.tuple ha
  obtain⟨its2,r2,p2,_⟩:=I.tuple hb
  cases r1
  exact MQ p1 p2 ⟨.ref b,H,I,rfl,q0 rfl⟩
 ·exact NX pins s σ H _ _ v u Q I rx ry ⟨a,b,xs,ys,rfl,rfl,ha,hb,hx,hz,q1,fun _=>q2⟩
noncomputable def MK:D->D->Mu->DK->Prop:=fun x y Z Q=>match x,y with
 |.v (.tuple xs),.v (.tuple ys)=>xs.length+ys.length<=1000/\Q (.v (.tuple (xs++ys))) Z
 |_,_=>False
theorem Nc{K:PySem.W.Frag}:gj K (Hj K) MK:=by
 intro x y ux uy H Z Qd Q ok rx ry h k
 unfold MK at h
 split at h
 ·rename_i xs ys
  cases id rx with
  |@tuple a us _ ha ra=>
   cases id ry with
   |@tuple b ws _ hb rb=>
    refine⟨a,b,us,ws,rfl,rfl,ha,hb,xX (by rw[<- ra.length,<- rb.length];exact h.1),fun z=>?_,fun z=>?_,fun p hp=>?_⟩
    ·subst z
     cases ra
     exact k (.v _) _ Z H .refl ok ry (by simpa using h.2)
    ·subst z
     cases rb
     exact k (.v _) _ Z H .refl ok rx (by simpa using h.2)
    ·exact k (.v _) _ Z _ (dj hp) (ok.new hp) (fJ ok (ra.append rb) hp) h.2
 ·exact h.elim
end
end L2.DL
namespace HT
open PySem PyProof.Rows
section
variable {prog:Program}{w:World}{A:Around}{E:Value->Shared->Prop}{s:Shared}
theorem uM{t sl:Addr}{items:Array Value}{vl vu:Value}{lo hi:Option Int}{Q:Value->Shared->Prop}(ht:IsTup s.heap t items)(hs:s.heap.IsSliceOf sl vl vu .none)(pl:IsPart vl lo)(pu:IsPart vu hi)
  (hw:sIx items.size 0 lo=0/\sIx items.size items.size hi=items.size) (h:Q (.ref t) s):wpAny (model prog w) A (getItem (.ref t) (.ref sl)) Q E s:=by
 obtain⟨os,hos,hcs,hds⟩:=id hs
 have hTs:s.TypeIs (.ref sl) "slice":=⟨os,hos,hcs⟩
 unfold getItem
 try with_reducible refine wpAny_holding ?_
 first|refine wpAny_bind (wpAny_pure ?_)|skip
 refine wpAny_bind (wpAny_sequenceKey ht.typeIs ⋯ ?_)
 refine wpAny_bind (wpAny_callSpecial?_slot (name:=Str.ofString "__getitem__") ht.typeIs PyProof.Rows.slot_tuple_getitem
  (wpAny_call_entry PyProof.Rows.slot_tuple_getitem ht.typeIs entry_tuple_getitem ?_ (args_tuple_getitem _ _)))
 show wpAny _ _ (Builtin.Tuple.tupleItemsOf (.ref t)>>=_) _ _ s
 refine wpAny_bind (tupleItemsOf_ ht ?_)
 refine wpAny_bind (wpAny_typeOf hTs ?_)
 rw[if_pos ⋯]
 refine wpAny_bind (mM hs pl pu ?_)
 have hno:((((sIx items.size 0 lo:Nat):Int)==0&&(1:Int)==1&&(sIx items.size items.size hi-sIx items.size 0 lo)==items.size)=true):=by
  rw[hw.1,hw.2]
  simp
 show wpAny _ _ (if (((sIx items.size 0 lo:Nat):Int)==0&&(1:Int)==1&&(sIx items.size items.size hi-sIx items.size 0 lo)==items.size)=true then _ else _) _ _ s
 rw[if_pos hno]
 refine wpAny_bind ?_
 unfold Builtin.Tuple.tupleIsExact
 refine wpAny_bind (wpAny_typeOf ht.typeIs (wpAny_pure ?_))
 rw[if_pos ⋯]
 refine wpAny_bind (wpAny_rule ?_)
 exact wpAny_pure ⟨_,rfl,wpAny_pure h⟩
end
end HT
namespace L2.DL
open PySem PySem.Spec PyProof.Rows
section
variable {X:Cx}{a b e:Expr}{lo hi:Option Expr}{ta tb te:DTE}{pos p2:Pos}
noncomputable def qY{α:Type}(xs:List α)(lo hi:Option Int):List α:=(xs.drop (HT.sIx xs.length 0 lo)).take (HT.sIx xs.length xs.length hi-HT.sIx xs.length 0 lo)
theorem RpL.cut{K:PySem.W.Frag}{Z:Mu}{H:Hp}{ds:List PyData}{us:List V}{lo hi:Option Int}(r:RpL K Z H ds us):RpL K Z H (qY ds lo hi) (Ck us lo hi):=by
 unfold qY Ck
 rw[r.length]
 exact (r.drop _).take _
theorem Oe{α:Type}{xs:List α}{lo hi:Option Int}(h:HT.sIx xs.length 0 lo=0/\HT.sIx xs.length xs.length hi=xs.length):qY xs lo hi=xs:=by
 unfold qY
 rw[h.1,h.2]
 simp
noncomputable def Sm(K:PySem.W.Frag):V->Option Int->Option Int->Hp->VK->Prop:=fun x lo hi H Q=>∃a xs,x = .ref a/\SqT K H a xs /\
 (HT.sIx xs.length 0 lo=0/\HT.sIx xs.length xs.length hi=xs.length->Q (.ref a) H)/\∀p,H p=none->Q (.ref p) (upd H p (.tup (Ck xs lo hi)))
theorem OD:SlR X (Sm X.K):=by
 intro pins s σ H x v vl vu lo hi sl Q I rx hs pl pu h
 obtain⟨a,xs,rfl,hx,q1,q⟩:=h
 by_cases hw:HT.sIx xs.length 0 lo=0/\HT.sIx xs.length xs.length hi=xs.length
 ·cases rx
  obtain⟨its,r,ht,hz⟩:=I.tuple hx
  have hlen:its.toArray.size=xs.length:=by rw[size_toArray];exact r.length.symm
  refine⟨"tuple",_,PyProof.Rows.slot_tuple_getitem.lookup,ht.typeIs,?_⟩
  exact HT.uM ht hs pl pu (by rw[hlen];exact hw) ⟨.ref a,H,I,rfl,q1 hw⟩
 ·exact Ra pins s σ H _ v vl vu lo hi sl Q I rx hs pl pu ⟨a,xs,rfl,hx,hw,q⟩
noncomputable abbrev DTO:=Rho->Mu->(Option Int->Mu->Prop)->Prop
noncomputable def R0(K:PySem.W.Frag)(t:TO)(td:DTO):Prop:=∀(σ:St) (H:Hp) (ρ:Rho) (Z:Mu) (Qd:Option Int->Mu->Prop) (Q:Option Int->Hp->Prop),St0 K H ρ Z σ->td ρ Z Qd ->
 (∀o U H',Ext K Z H U H'->St0 K H' ρ U σ->Qd o U->Q o H')->t σ H Q
noncomputable def DO(X:Cx)(e:Option Expr)(td:DTO):Prop:=∃t,PO X e t/\R0 X.K t td
noncomputable def iN:DTO:=fun _ Z Q=>Q none Z
noncomputable def oQ(t:DTE):DTO:=fun ρ Z Q=>t ρ Z fun x am=>match x with
 |.v (.int i)=>Q (some i) am
 |_=>False
theorem lK:DO X none iN:=⟨_,Nr,fun σ H ρ Z Qd Q S h k=>k none Z H .refl S h⟩
theorem iT(h:DE X e te):DO X (some e) (oQ te):=by
 obtain⟨t1,p1,l1⟩:=h
 refine⟨_,Om p1,fun σ H ρ Z Qd Q S h k=>?_⟩
 refine l1 σ H ρ Z _ _ S h fun x ux am H1 e1 S1 rx h1=>?_
 split at h1
 ·cases rx
  exact⟨_,rfl,k _ am H1 e1 S1 h1⟩
 ·exact h1.elim
noncomputable def Oa(x:D)(lo hi:Option Int)(Z:Mu)(Q:DK):Prop:=match x with
 |.v (.tuple xs)=>Q (.v (.tuple (qY xs lo hi))) Z
 |.v (.list xs)=>Q (.v (.list (qY xs lo hi))) Z
 |.m l=>(match Z l with|some xs=>Q (.v (.list (qY xs lo hi))) Z|none=>False)
 |_=>False
noncomputable def dSl(te:DTE)(tl th:DTO):DTE:=fun ρ Z Q=>te ρ Z fun x am=>tl ρ am fun l be=>th ρ be fun u bi=>Oa x l u bi Q
theorem gQ{tl th:DTO}(he:DE X e te)(hl:DO X lo tl)(hu:DO X hi th):DE X (.Subscript e (.Slice lo hi none p2) pos) (dSl te tl th):=by
 obtain⟨t1,p1,l1⟩:=he
 obtain⟨t2,p2,l2⟩:=hl
 obtain⟨t3,p3,l3⟩:=hu
 refine⟨_,L7 (Ox.or OD) p1 p2 p3,fun σ H ρ Z Qd Q S h k=>?_⟩
 refine l1 σ H ρ Z _ _ S h fun x ux am H1 e1 S1 rx h1=>?_
 refine l2 σ H1 ρ am _ _ S1 h1 fun l be H2 e2 S2 h2=>?_
 refine l3 σ H2 ρ be _ _ S2 h2 fun u bi H3 e3 S3 h3=>?_
 have rx3:=(rx.ext S1.mu e2).ext S2.mu e3
 have ee:=e1.trans (e2.trans e3)
 unfold Oa at h3
 split at h3
 ·rename_i xs
  cases id rx3 with
  |@tuple a us _ ha ra=>
   refine .inr ⟨a,us,rfl,ha,fun hw=>?_,fun p hp=>?_⟩
   ·refine k (.v _) _ bi H3 ee S3 (show Rp _ _ _ (.tuple (qY xs l u)) _ from ?_) h3
    rw[Oe (by rw[ra.length];exact hw)]
    exact rx3
   ·exact k (.v _) _ bi _ (ee.trans (dj hp)) (S3.new hp) (fJ S3.mu ra.cut hp) h3
 ·rename_i xs
  cases id rx3 with
  |@list a us _ ha hn ra=>exact .inl ⟨a,us,rfl,SqL.of ha,fun p hp=>k (.v _) _ bi _ (ee.trans (dj hp)) (S3.new hp) (fT S3.mu ra.cut hp) h3⟩
 ·rename_i a
  obtain⟨rfl,ds,hm⟩:=rx3
  rw[hm] at h3
  obtain⟨us,ha,ra⟩:=S3.mu a ds hm
  exact .inl ⟨a,us,rfl,SqL.of ha,fun p hp=>k (.v _) _ bi _ (ee.trans (dj hp)) (S3.new hp) (fT S3.mu ra.cut hp) h3⟩
 ·exact h3.elim
end
section
variable {X:Cx}{a b e:Expr}{es:List Expr}{ta tb te:DTE}{t:DTA}{p pos:Pos}{x:Str}{bid T:String}
noncomputable def oN(K:PySem.W.Frag)(r:List V->Hp->VK->Prop)(rd:List D->Mu->DK->Prop):Prop:=∀(xs:List D) (us:List V) (H:Hp) (Z:Mu) (Qd:DK) (Q:VK),bM K Z H->kL K Z H xs us->rd xs Z Qd ->
 (∀d u U H',Ext K Z H U H'->bM K U H'->RpD K U H' d u->Qd d U->Q u H')->r us H Q
noncomputable def dCB(rd:List D->Mu->DK->Prop)(t:DTA):DTE:=fun ρ Z Q=>t ρ Z fun ds am=>rd ds am Q
theorem IZ{K:PySem.W.Frag}{n:Nat}{r:List V->Hp->VK->Prop}{rd:List D->Mu->DK->Prop}{t1:TA}(lc:oN K r rd)(l1:OY K n t1 t):uL K (tCB r t1) (dCB rd t):=by
 intro σ H ρ Z Qd Q S h k
 refine l1 σ H ρ Z _ _ S h fun xs us am H1 e1 S1 rs len h1=>?_
 exact lc xs us H1 am _ _ S1.mu rs h1 fun d u U H' e2 ok r q=>k d u U H' (e1.trans e2) ⟨ok,S1.rho.ext S1.mu e2⟩ r q
theorem nk{r:List V->Hp->VK->Prop}{rd:List D->Mu->DK->Prop}(hc:j5 X (.builtin bid) r)(lc:oN X.K r rd)(hg:Gl X x)(hm:X.mg x=none)(hv:bootBuiltins x=some (.builtin bid))(ha:DA X (e::es) t)(hn:x ≠ "__name__":=by decide)(hdb:(x==("__debug__":Str))=false:=by decide)
  (he:starEach (e::es) X.env=(false,eval e X.env)::starEach es X.env:=by rfl) (hpl:(backTo pos (starEach es X.env)).any (·.1)=false:=by rfl):DE X (.Call (.Name x p) (e::es) [] pos) (dCB rd t):=by
 obtain⟨t1,p1,l1⟩:=ha
 exact⟨_,FP hc hg hm hv p1 hn hdb he hpl,IZ lc l1⟩
theorem qW{r:List V->Hp->VK->Prop}{rd:List D->Mu->DK->Prop}(hc:j5 X (.type T) r)(lc:oN X.K r rd)(hg:Gl X x)(hm:X.mg x=none)(hv:bootBuiltins x=some (.type T))(ha:DA X (e::es) t)(hn:x ≠ "__name__":=by decide)(hdb:(x==("__debug__":Str))=false:=by decide)
  (he:starEach (e::es) X.env=(false,eval e X.env)::starEach es X.env:=by rfl) (hpl:(backTo pos (starEach es X.env)).any (·.1)=false:=by rfl):DE X (.Call (.Name x p) (e::es) [] pos) (dCB rd t):=by
 obtain⟨t1,p1,l1⟩:=ha
 exact⟨_,JE hc hg hm hv p1 hn hdb he hpl,IZ lc l1⟩
noncomputable def da:List D->Mu->DK->Prop:=fun xs Z Q=>match xs with
 |[.v (.list ys)]=>Q (.v (.int (ys.length:Nat))) Z
 |[.v (.tuple ys)]=>Q (.v (.int (ys.length:Nat))) Z
 |[.m l]=>(match Z l with|some ys=>Q (.v (.int (ys.length:Nat))) Z|none=>False)
 |[.s ns]=>Q (.v (.int (ns.length:Nat))) Z
 |_=>False
theorem Qn{K:PySem.W.Frag}:oN K (fun xs H Q=>∃p ys,xs=[.ref p]/\(SqL K H p ys\/SqT K H p ys)/\Q (.int ys.length) H) da:=by
 intro xs us H Z Qd Q ok rs h k
 unfold da at h
 split at h
 ·cases rs with
  |cons r1 r2=>
   cases r2
   cases r1 with
   |list hs hn r=>exact⟨_,_,rfl,.inl (SqL.of hs),k (.v _) _ Z H .refl ok (by rw[<- r.length];exact Rp.int _) h⟩
 ·cases rs with
  |cons r1 r2=>
   cases r2
   cases r1 with
   |tuple hs r=>exact⟨_,_,rfl,.inr hs,k (.v _) _ Z H .refl ok (by rw[<- r.length];exact Rp.int _) h⟩
 ·cases rs with
  |cons r1 r2=>
   cases r2
   obtain⟨rfl,ds,hm⟩:=r1
   rw[hm] at h
   obtain⟨us,hl,r⟩:=ok _ ds hm
   exact⟨_,_,rfl,.inl (SqL.of hl),k (.v _) _ Z H .refl ok (by rw[<- r.length];exact Rp.int _) h⟩
 ·cases rs with
  |cons r1 r2=>
   cases r2
   obtain⟨a,rfl,hs,hn⟩:=r1
   exact⟨_,_,rfl,.inl hs,k (.v _) _ Z H .refl ok (by rw[length_map];exact Rp.int _) h⟩
 ·exact h.elim
theorem cS(hg:Gl X "len")(hm:X.mg "len"=none)(ha:DA X (e::es) t)
  (he:starEach (e::es) X.env=(false,eval e X.env)::starEach es X.env:=by rfl) (hpl:(backTo pos (starEach es X.env)).any (·.1)=false:=by rfl):DE X (.Call (.Name "len" p) (e::es) [] pos) (dCB da t):=
 nk CI Qn hg hm PySem.boot_len ha ⋯ ⋯ he hpl
noncomputable def tW:List D->Mu->DK->Prop:=fun xs Z Q=>match xs with
 |[.v (.int i)]=>Q (.v (.int (i.natAbs:Nat))) Z
 |_=>False
theorem QZ{K:PySem.W.Frag}:oN K (fun xs H Q=>∃i,xs=[.int i]/\Q (.int (if i<0 then -i else i)) H) tW:=by
 intro xs us H Z Qd Q ok rs h k
 unfold tW at h
 split at h
 ·rename_i i
  cases rs with
  |cons r1 r2=>
   cases r2
   cases r1
   refine⟨i,rfl,k (.v (.int (i.natAbs:Nat))) _ Z H .refl ok ?_ h⟩
   have:(if i<0 then -i else i)=((i.natAbs:Nat):Int):=by split<;>omega
   rw[this]
   exact Rp.int _
 ·exact h.elim
theorem zF(hg:Gl X "abs")(hm:X.mg "abs"=none)(ha:DA X (e::es) t)
  (he:starEach (e::es) X.env=(false,eval e X.env)::starEach es X.env:=by rfl) (hpl:(backTo pos (starEach es X.env)).any (·.1)=false:=by rfl):DE X (.Call (.Name "abs" p) (e::es) [] pos) (dCB tW t):=
 nk LQ QZ hg hm PyProof.Rows.Boot.«abs» ha ⋯ ⋯ he hpl
noncomputable def CY(g:Int->Int->Int):List D->Mu->DK->Prop:=fun xs Z Q=>match xs with
 |[.v (.int i),.v (.int j)]=>Q (.v (.int (g i j))) Z
 |_=>False
theorem OX{K:PySem.W.Frag}{g g':Int->Int->Int}(hg:∀i j,g i j=g' i j):oN K (fun xs H Q=>∃i j,xs=[.int i,.int j]/\Q (.int (g i j)) H) (CY g'):=by
 intro xs us H Z Qd Q ok rs h k
 unfold CY at h
 split at h
 ·rename_i i j
  cases rs with
  |cons r1 r2=>
   cases r2 with
   |cons r2 r3=>
    cases r3
    cases r1
    cases r2
    exact⟨i,j,rfl,k (.v _) _ Z H .refl ok (by rw[hg];exact Rp.int _) h⟩
 ·exact h.elim
theorem Q6(hc:X.calm=true)(hg:Gl X "max")(hm:X.mg "max"=none)(ha:DA X (e::es) t)
  (he:starEach (e::es) X.env=(false,eval e X.env)::starEach es X.env:=by rfl) (hpl:(backTo pos (starEach es X.env)).any (·.1)=false:=by rfl):DE X (.Call (.Name "max" p) (e::es) [] pos) (dCB (CY max) t):=
 nk (JQ hc) (OX (fun i j=>by show (if j>i then j else i)=max i j;simp only[Int.max_def];split<;>split<;>omega)) hg hm PyProof.Rows.Boot.«max» ha ⋯ ⋯ he hpl
theorem HF(hc:X.calm=true)(hg:Gl X "min")(hm:X.mg "min"=none)(ha:DA X (e::es) t)
  (he:starEach (e::es) X.env=(false,eval e X.env)::starEach es X.env:=by rfl) (hpl:(backTo pos (starEach es X.env)).any (·.1)=false:=by rfl):DE X (.Call (.Name "min" p) (e::es) [] pos) (dCB (CY min) t):=
 nk (Kp hc) (OX (fun i j=>by show (if j<i then j else i)=min i j;simp only[Int.min_def];split<;>split<;>omega)) hg hm PyProof.Rows.Boot.«min» ha ⋯ ⋯ he hpl
noncomputable def uP:List D->Mu->DK->Prop:=fun xs Z Q=>match xs with
 |[.v (.int i)]=>Q (.v (.int i)) Z
 |[.v (.bool k)]=>Q (.v (.int (if k then 1 else 0))) Z
 |_=>False
theorem O4{K:PySem.W.Frag}:oN K (fun xs H Q=>(∃i,xs=[.int i]/\Q (.int i) H)\/∃k,xs=[.bl k]/\Q (.int (if k then 1 else 0)) H) uP:=by
 intro xs us H Z Qd Q ok rs h k
 unfold uP at h
 split at h
 ·rename_i i
  cases rs with
  |cons r1 r2=>cases r2;cases r1;exact .inl ⟨i,rfl,k (.v _) _ Z H .refl ok (Rp.int _) h⟩
 ·rename_i b
  cases rs with
  |cons r1 r2=>cases r2;cases r1;exact .inr ⟨b,rfl,k (.v _) _ Z H .refl ok (Rp.int _) h⟩
 ·exact h.elim
theorem pK(hg:Gl X "int")(hm:X.mg "int"=none)(ha:DA X (e::es) t)
  (he:starEach (e::es) X.env=(false,eval e X.env)::starEach es X.env:=by rfl) (hpl:(backTo pos (starEach es X.env)).any (·.1)=false:=by rfl):DE X (.Call (.Name "int" p) (e::es) [] pos) (dCB uP t):=
 qW Kj O4 hg hm PyProof.Rows.Boot.«int» ha ⋯ ⋯ he hpl
noncomputable def vn:List D->Mu->DK->Prop:=fun xs Z Q=>match xs with
 |[.v (.list ys)]=>Q (.v (.list ys)) Z
 |[.v (.tuple ys)]=>Q (.v (.list ys)) Z
 |_=>False
theorem N7{K:PySem.W.Frag}:oN K (fun xs H Q=>∃p ys,xs=[.ref p]/\(SqL K H p ys\/SqT K H p ys)/\∀l,H l=none->Q (.ref l) (upd H l (.lst ys))) vn:=by
 intro xs us H Z Qd Q ok rs h k
 unfold vn at h
 split at h
 ·cases rs with
  |cons r1 r2=>
   cases r2
   cases r1 with
   |list hs hn r=>exact⟨_,_,rfl,.inl (SqL.of hs),fun p hp=>k (.v _) _ Z _ (dj hp) (ok.new hp) (fT ok r hp) h⟩
 ·cases rs with
  |cons r1 r2=>
   cases r2
   cases r1 with
   |tuple hs r=>exact⟨_,_,rfl,.inr hs,fun p hp=>k (.v _) _ Z _ (dj hp) (ok.new hp) (fT ok r hp) h⟩
 ·exact h.elim
theorem Ji(hg:Gl X "list")(hm:X.mg "list"=none)(ha:DA X (e::es) t)
  (he:starEach (e::es) X.env=(false,eval e X.env)::starEach es X.env:=by rfl) (hpl:(backTo pos (starEach es X.env)).any (·.1)=false:=by rfl):DE X (.Call (.Name "list" p) (e::es) [] pos) (dCB vn t):=
 qW CF N7 hg hm PyProof.Rows.Boot.«list» ha ⋯ ⋯ he hpl
theorem FI:∀{bs:List Bool} {us:List Value},Vals (bs.map V.bl) us->us=bs.map Value.bool
 |[],_,.nil=>rfl
 |b::r,_,.cons h t=>by cases h;rw[FI t];rfl
theorem JC(hc:X.calm=true):j5 X (.builtin "all") (fun xs H Q=>∃(p:Addr) (bs:List Bool),xs=[.ref p]/\H p=some (.lst (bs.map V.bl))/\Q (.bl (bs.all id)) H):=by
 intro pins s σ H xs us Q I r h
 obtain⟨l,bs,rfl,hl,q⟩:=h
 obtain⟨u,rfl,rx⟩:=vals1 r
 cases rx
 obtain⟨its,rv,pl,_⟩:=I.list (SqL.of hl)
 have eb:=FI rv
 subst eb
 have hL:=pl.isList
 have hlt:=pl.lt
 refine call_all_walk (wpAny_pyIter_list hL ?_)
 refine⟨s.heap.objs.size,[s.heap.objs.size,l],[s.heap.objs.size],(bs.map Value.bool).toArray.size,_,_,fun i=>(bs[i]?).getD true,rfl,Walks.list (A:=X.A.in1) (by exact I.ok.hd hc) _ l (ne_of_lt hlt) (bs.map Value.bool).toArray,
  ⟨⟨_,Heap.get?_push_size _ rfl,rfl,rfl⟩,hL.push _⟩,fun i v s' Q' E' hP hQ=>?_,fun h' tk hk=>?_⟩
 ·have hP':(bs.map Value.bool)[i]? = some v:=by simpa using hP
  rw[getElem?_map] at hP'
  cases z:bs[i]? with
  |none=>rw[z] at hP';cases hP'
  |some b=>
   rw[z] at hP'
   cases hP'
   simp only[z,Option.getD_some] at hQ
   exact wpAny_truthy_bool hQ
 ·have e:((List.range (bs.map Value.bool).toArray.size).all fun i=>(bs[i]?).getD true)=bs.all id:=by
   rw[size_toArray,length_map];exact PyProof.Rows.LSm.range_all bs
  rw[e]
  exact⟨.bl (bs.all id),H,I.kept (PyProof.Rows.LSm.kept_iter hk),rfl,q⟩
noncomputable def cZ:List PyData->Option (List Bool)
 |[]=>some []
 |.bool b::r=>(cZ r).map (b::·)
 |_::_=>none
theorem yK{K:PySem.W.Frag}{Z:Mu}{H:Hp}:∀{xs:List PyData} {us:List V} {bs:List Bool},RpL K Z H xs us->cZ xs=some bs->us=bs.map V.bl
 |_,_,_,.nil,e=>by cases e;rfl
 |.bool b::r,_,bs,.cons h t,e=>by
  simp only[cZ] at e
  cases q:cZ r with
  |none=>rw[q] at e;cases e
  |some cs=>rw[q] at e;cases e;cases h;rw[yK t q];rfl
 |.none::r,_,bs,.cons h t,e=>by simp[cZ] at e
 |.int _::r,_,bs,.cons h t,e=>by simp[cZ] at e
 |.str _::r,_,bs,.cons h t,e=>by simp[cZ] at e
 |.list _::r,_,bs,.cons h t,e=>by simp[cZ] at e
 |.tuple _::r,_,bs,.cons h t,e=>by simp[cZ] at e
 |.dict _::r,_,bs,.cons h t,e=>by simp[cZ] at e
noncomputable def uN:List D->Mu->DK->Prop:=fun xs Z Q=>match xs with
 |[.v (.list ys)]=>(match cZ ys with|some bs=>Q (.v (.bool (bs.all id))) Z|none=>False)
 |_=>False
theorem P5{K:PySem.W.Frag}:oN K (fun xs H Q=>∃(p:Addr) (bs:List Bool),xs=[.ref p]/\H p=some (.lst (bs.map V.bl))/\Q (.bl (bs.all id)) H) uN:=by
 intro xs us H Z Qd Q ok rs h k
 unfold uN at h
 split at h
 ·rename_i ys
  cases q:cZ ys with
  |none=>rw[q] at h;exact h.elim
  |some bs=>
   rw[q] at h
   cases rs with
   |cons r1 r2=>
    cases r2
    cases r1 with
    |list hs hn r=>exact⟨_,bs,rfl,by rw[hs,yK r q],k (.v _) _ Z H .refl ok (Rp.bool _) h⟩
 ·exact h.elim
theorem yb(hc:X.calm=true)(hg:Gl X "all")(hm:X.mg "all"=none)(ha:DA X (e::es) t)
  (he:starEach (e::es) X.env=(false,eval e X.env)::starEach es X.env:=by rfl) (hpl:(backTo pos (starEach es X.env)).any (·.1)=false:=by rfl):DE X (.Call (.Name "all" p) (e::es) [] pos) (dCB uN t):=
 nk (JC hc) P5 hg hm PyProof.Rows.Boot.«all» ha ⋯ ⋯ he hpl
noncomputable def tyD:PyData->String
 |.none=>"NoneType"
 |.bool _=>"bool"
 |.int _=>"int"
 |.str _=>"str"
 |.list _=>"list"
 |.tuple _=>"tuple"
 |.dict _=>"dict"
noncomputable def isT(T:String)(d:PyData):Bool:=tyD d==T || (T == "int"&&tyD d == "bool")
theorem JY{pins:List (Addr×Obj)}{σ:St}{H:Hp}{s:Shared}{Z:Mu}{d:PyData}{u:V}{v:Value}{k:Bool}{A:Around}{E:Value->Shared->Prop}{Q:Value->Shared->Prop}(I:Inv X pins σ H s)(r:Rp X.K Z H d u)(rx:RelV u v)
  (ek:kitOne X.K (.type (tyD d)) (.type T)=some k) (h:∀tk,Q (.bool k) {s with toks:=tk}):wpAny (model X.prog X.w) A (call (.builtin "isinstance") [v,.type T]) Q E s:=by
 cases r with
 |none=>cases rx;exact kia_one PySem.W.kitx_none I.kIn True.intro ek (fun z=>nomatch z) h
 |bool b=>cases rx;exact kia_one PySem.W.kitx_bool I.kIn True.intro ek (fun z=>nomatch z) h
 |int i=>obtain⟨t,rfl⟩:=rx;exact kia_one PySem.W.kitx_int I.kIn True.intro ek (fun z=>nomatch z) h
 |str y=>obtain⟨t,rfl⟩:=rx;exact kia_one PySem.W.kitx_str I.kIn True.intro ek (fun z=>nomatch z) h
 |list hs hn q=>
  cases rx
  obtain⟨its,rv,⟨o,n,h1,h2,_⟩,_⟩:=I.list (SqL.of hs)
  exact kia_one PySem.W.kitx_list I.kIn ⟨o,h1,h2⟩ ek (fun z=>nomatch z) h
 |tuple hs q=>
  cases rx
  obtain⟨its,rv,⟨o,h1,h2,_⟩,_⟩:=I.tuple hs
  exact kia_one PySem.W.kitx_tuple I.kIn ⟨o,h1,h2⟩ ek (fun z=>nomatch z) h
theorem HZ(K:PySem.W.Frag)(d:PyData):kitOne K (.type (tyD d)) (.type "int")=some (isT "int" d):=by cases d<;>rfl
theorem yO(K:PySem.W.Frag)(d:PyData):kitOne K (.type (tyD d)) (.type "bool")=some (isT "bool" d):=by cases d<;>rfl
theorem kit_tuple(K:PySem.W.Frag)(d:PyData):kitOne K (.type (tyD d)) (.type "tuple")=some (isT "tuple" d):=by cases d<;>rfl
theorem D3(kt:∀d,kitOne X.K (.type (tyD d)) (.type T)=some (isT T d)):j5 X (.builtin "isinstance") (fun xs H Q=>∃Z d u,xs=[u,.ty T]/\Rp X.K Z H d u/\Q (.bl (isT T d)) H):=by
 intro pins s σ H xs us Q I r h
 obtain⟨Z,d,u,rfl,rd,q⟩:=h
 obtain⟨v,w',rfl,r1,r2⟩:=vals2 r
 cases r2
 exact JY I rd r1 (kt d) fun tk=>⟨.bl (isT T d),H,I.tok _,rfl,q⟩
noncomputable def wx(T:String)(te:DTE):DTE:=fun ρ Z Q=>te ρ Z fun x am=>match x with
 |.v d=>Q (.v (.bool (isT T d))) am
 |_=>False
theorem ib{y:Str}{py:Pos}(kt:∀d,kitOne X.K (.type (tyD d)) (.type T)=some (isT T d))(hg:Gl X "isinstance")(hm:X.mg "isinstance"=none)(hgy:Gl X y)(hmy:X.mg y=none)(hvy:bootBuiltins y=some (.type T))(ha:DE X e te)
  (hny:y ≠ "__name__":=by decide) (hdy:(y==("__debug__":Str))=false:=by decide)
  (he:starEach [e,.Name y py] X.env=(false,eval e X.env)::starEach [.Name y py] X.env:=by rfl) (he2:starEach [.Name y py] X.env=[(false,eval (.Name y py) X.env)]:=by rfl) (hpl:(backTo pos (starEach [.Name y py] X.env)).any (·.1)=false:=by rfl):DE X (.Call (.Name "isinstance" p) [e,.Name y py] [] pos) (wx T te):=by
 obtain⟨t1,p1,l1⟩:=ha
 refine⟨_,FP (D3 kt) hg hm PyProof.Rows.Boot.«isinstance» (lH p1 (lH (NA (v:=.ty T) hgy hmy hvy rfl hny hdy) vm he2) he) ⋯ ⋯ he hpl,fun σ H ρ Z Qd Q S h k=>?_⟩
 refine l1 σ H ρ Z _ _ S h fun x ux am H1 e1 S1 rx h1=>?_
 split at h1
 ·exact⟨am,_,ux,rfl,rx,k (.v _) _ am H1 e1 S1 (Rp.bool _) h1⟩
 ·exact h1.elim
noncomputable def isC:PyData->PyData->Option Bool
 |.bool a,.bool b=>some (a==b)
 |.none,.none=>some true
 |_,_=>none
noncomputable def Rr:R2:=fun x y H Q=>(∃i j,x = .bl i/\y = .bl j/\Q (.bl (i==j)) H)\/(x = .non/\y = .non/\Q (.bl true) H)
theorem Pb:OpR X (compareOp .Is) Rr:=by
 intro pins s σ H x y v u Q I rx ry h
 rcases h with ⟨i,j,rfl,rfl,q⟩|⟨rfl,rfl,q⟩
 ·cases rx;cases ry
  exact wpAny_is_plain rfl ⟨.bl (i==j),H,I,by cases i<;>cases j<;>rfl,q⟩
 ·cases rx;cases ry
  exact wpAny_is_plain rfl ⟨.bl true,H,I,rfl,q⟩
noncomputable def OF:D->D->Mu->DK->Prop:=fun x y Z Q=>match x,y with
 |.v (.bool i),.v (.bool j)=>Q (.v (.bool (i==j))) Z
 |.v .none,.v .none=>Q (.v (.bool true)) Z
 |_,_=>False
theorem R8{K:PySem.W.Frag}:gj K Rr OF:=by
 intro x y ux uy H Z Qd Q ok rx ry h k
 unfold OF at h
 split at h
 ·cases rx;cases ry;exact .inl ⟨_,_,rfl,rfl,k (.v _) _ Z H .refl ok (Rp.bool _) h⟩
 ·cases rx;cases ry;exact .inr ⟨rfl,rfl,k (.v _) _ Z H .refl ok (Rp.bool _) h⟩
 ·exact h.elim
end
section
variable {X:Cx}{a b e:Expr}{es:List Expr}{ta tb te:DTE}{t:DTA}{p pos:Pos}{st:Stmt}{rest sts:List Stmt}{td ud:DTS}{tc:DTT}
noncomputable def bz:DTS:=fun Dd ρ Z=>Dd.nx ρ Z
noncomputable def aN(t u:DTS):DTS:=fun Dd ρ Z=>t {Dd with nx:=u Dd} ρ Z
noncomputable def bb(te:DTE):DTS:=fun Dd ρ Z=>te ρ Z Dd.rt
noncomputable def qx(te:DTE):DTS:=fun Dd ρ Z=>te ρ Z fun _ am=>Dd.nx ρ am
noncomputable def cj(c:DTT)(t u:DTS):DTS:=fun Dd ρ Z=>c ρ Z fun b am=>if b=true then t Dd ρ am else u Dd ρ am
theorem aT:DSs X [] bz:=⟨_,N8,fun σ H ρ Z Dd De S h k1 k2 k3 k4=>k1 σ ρ Z H .refl S h⟩
theorem au(h:DS X st td):DSs X [st] td:=let ⟨t,p,l⟩:=h;⟨t,Ou p,l⟩
theorem lift_seq{K:PySem.W.Frag}{t u:TS}(l1:Bz K t td)(l2:Bz K u ud):Bz K (RR t u) (aN td ud):=by
 intro σ H ρ Z Dd De S h k1 k2 k3 k4
 refine l1 σ H ρ Z _ _ S h (fun ca bv U H' e' S' h'=>?_) k2 k3 k4
 exact l2 ca H' bv U Dd De S' h' (fun a b c d e2=>k1 a b c d (e'.trans e2)) (fun a b c d e2=>k2 a b c d (e'.trans e2)) (fun a b c d e2=>k3 a b c d (e'.trans e2)) (fun a b c d e2=>k4 a b c d (e'.trans e2))
theorem ak(h1:DS X st td)(h2:DSs X rest ud):DSs X (st::rest) (aN td ud):=by
 obtain⟨t1,p1,l1⟩:=h1
 obtain⟨t2,p2,l2⟩:=h2
 exact⟨_,La p1 p2,lift_seq l1 l2⟩
theorem aC(he:DE X e te):DS X (.Return (some e) pos) (bb te):=by
 obtain⟨t1,p1,l1⟩:=he
 exact⟨_,Pt p1,fun σ H ρ Z Dd De S h k1 k2 k3 k4=>l1 σ H ρ Z _ _ S h fun d u U H' e' S' r q=>k2 d u U H' e' S'.mu r q⟩
theorem jG(he:DE X e te)(hs:swapsWith e none pos.line X.env=pure false:=by rfl):DS X (.Expr e pos) (qx te):=by
 obtain⟨t1,p1,l1⟩:=he
 exact⟨_,Na p1 hs,fun σ H ρ Z Dd De S h k1 k2 k3 k4=>l1 σ H ρ Z _ _ S h fun d u U H' e' S' r q=>k1 σ ρ U H' e' S' q⟩
theorem bA{c:Expr}{x y:List Stmt}(hc:DT X c tc)(ha:DSs X x td)(hb:DSs X y ud):DS X (.If c x y pos) (cj tc td ud):=by
 obtain⟨t0,p0,l0⟩:=hc
 obtain⟨t1,p1,l1⟩:=ha
 obtain⟨t2,p2,l2⟩:=hb
 refine⟨_,Sk p0 p1 p2,fun σ H ρ Z Dd De S h k1 k2 k3 k4=>?_⟩
 refine l0 σ H ρ Z _ _ S h fun c am H1 e1 S1 h1=>?_
 cases c with
 |true=>exact AL (l1 σ H1 ρ am Dd De S1 (by simpa using h1) (fun a b c d e2=>k1 a b c d (e1.trans e2)) (fun a b c d e2=>k2 a b c d (e1.trans e2)) (fun a b c d e2=>k3 a b c d (e1.trans e2)) (fun a b c d e2=>k4 a b c d (e1.trans e2)))
 |false=>exact AW (l2 σ H1 ρ am Dd De S1 (by simpa using h1) (fun a b c d e2=>k1 a b c d (e1.trans e2)) (fun a b c d e2=>k2 a b c d (e1.trans e2)) (fun a b c d e2=>k3 a b c d (e1.trans e2)) (fun a b c d e2=>k4 a b c d (e1.trans e2)))
noncomputable abbrev DTG:=D->Rho->Mu->(Rho->Mu->Prop)->Prop
noncomputable abbrev AI:=List PyData->Rho->Mu->(Rho->Mu->Prop)->Prop
noncomputable def Kw(K:PySem.W.Frag)(g:TG)(gd:DTG):Prop:=∀(σ:St) (H:Hp) (ρ:Rho) (Z:Mu) (d:D) (u:V) (Qd:Rho->Mu->Prop) (Q:St->Hp->Prop),St0 K H ρ Z σ->RpD K Z H d u->gd d ρ Z Qd ->
 (∀ca bv U H',Ext K Z H U H'->St0 K H' bv U ca->Qd bv U->Q ca H')->g u σ H Q
noncomputable def PK(K:PySem.W.Frag)(g:TGs)(gd:AI):Prop:=∀(σ:St) (H:Hp) (ρ:Rho) (Z:Mu) (ds:List PyData) (us:List V) (Qd:Rho->Mu->Prop) (Q:St->Hp->Prop),St0 K H ρ Z σ->RpL K Z H ds us->gd ds ρ Z Qd ->
 (∀ca bv U H',Ext K Z H U H'->St0 K H' bv U ca->Qd bv U->Q ca H')->g us σ H Q
noncomputable def DG(X:Cx)(tg:Expr)(gd:DTG):Prop:=∃g,PG X tg g/\Kw X.K g gd
noncomputable def DGs(X:Cx)(tg:List Expr)(gd:AI):Prop:=∃g,PGs X tg g/\PK X.K g gd
theorem i5.set{K:PySem.W.Frag}{Z:Mu}{H:Hp}{ρ:Rho}{σ:St}{i:Nat}{d:D}{u:V}(r:i5 K Z H ρ σ)(h:RpD K Z H d u):i5 K Z H (ρ.set i (some d)) (σ.set i (some u)):=by
 refine⟨by rw[List.length_set,List.length_set];exact r.1,fun j d' e=>?_⟩
 by_cases hj:i=j
 ·subst hj
  have hl:i<ρ.length:=by
   have:=(List.getElem?_eq_some_iff.mp e).1
   rw[List.length_set] at this
   exact this
  rw[List.getElem?_set_self hl] at e
  cases e
  exact⟨u,List.getElem?_set_self (by rw[<- r.1];exact hl),h⟩
 ·rw[List.getElem?_set_ne hj] at e
  obtain⟨w,e1,e2⟩:=r.2 j d' e
  exact⟨w,by rw[List.getElem?_set_ne hj];exact e1,e2⟩
noncomputable def ao(i:Nat):DTG:=fun d ρ Z Q=>Q (ρ.set i (some d)) Z
theorem zD{K:PySem.W.Frag}{i:Nat}:Kw K (Mh i) (ao i):=fun σ H ρ Z d u Qd Q S r h k=>k _ _ Z H .refl ⟨S.mu,S.rho.set r⟩ h
theorem av{i:Nat}{x:Str}(hN:X.N.Nodup)(hi:X.N[i]? = some x)(hx:Loc X.env.scope x)(hf:X.fn x=true\/X.env.scope.names.lookup x=some .local:=by first|exact .inl rfl|exact .inr rfl|assumption):DG X (.Name x pos) (ao i):=⟨_,NJ hN hi hx hf,zD⟩
noncomputable def cN:AI:=fun ds ρ Z Q=>match ds with
 |[]=>Q ρ Z
 |_=>False
noncomputable def aD(g:DTG)(gs:AI):AI:=fun ds ρ Z Q=>match ds with
 |d::r=>g (.v d) ρ Z fun ut am=>gs r ut am Q
 |_=>False
theorem bC:DGs X [] cN:=⟨_,Nq,fun σ H ρ Z ds us Qd Q S r h k=>by
 cases r with
 |nil=>exact⟨rfl,k σ ρ Z H .refl S h⟩
 |cons _ _=>exact h.elim⟩
theorem aw{g:DTG}{gs:AI}(h1:DG X e g)(h2:DGs X es gs)(hs:(assignEach (e::es) X.env).map (·.2)=assign e X.env::(assignEach es X.env).map (·.2):=by rfl):DGs X (e::es) (aD g gs):=by
 obtain⟨t1,p1,l1⟩:=h1
 obtain⟨t2,p2,l2⟩:=h2
 refine⟨_,KD p1 p2 hs,fun σ H ρ Z ds us Qd Q S r h k=>?_⟩
 cases r with
 |nil=>exact h.elim
 |@cons d u ds us r1 r2=>
  refine⟨u,us,rfl,l1 σ H ρ Z (.v d) u _ _ S r1 h fun ca bv U H' e1 S' h1=>?_⟩
  exact l2 ca H' bv U ds us _ _ S' (r2.ext S.mu e1) h1 fun a b c d e2=>k a b c d (e1.trans e2)
noncomputable def cA(n:Nat)(gs:AI):DTG:=fun d ρ Z Q=>match d with
 |.v (.tuple xs)=>xs.length=n/\gs xs ρ Z Q
 |_=>False
theorem bS{k n:Nat}{gs:AI}(hc:X.calm=X.calm)(h:DGs X es gs)
  (hn:(assignEach es X.env).length=n:=by rfl) (hst:(assignEach es X.env).findIdx? (·.1)=none:=by rfl):DG X (.Tuple es k pos) (cA n gs):=by
 obtain⟨t1,p1,l1⟩:=h
 refine⟨_,Rh hc p1 hn hst,fun σ H ρ Z d u Qd Q S r h k=>?_⟩
 unfold cA at h
 split at h
 ·cases r with
  |@tuple a us _ ha ra=>exact⟨a,us,rfl,ha,by rw[<- ra.length];exact h.1,l1 σ H ρ Z _ us _ _ S ra h.2 k⟩
 ·exact h.elim
noncomputable def IE(to ti:DTE):DTG:=fun d ρ Z Q=>to ρ Z fun o am=>ti ρ am fun i be=>match o,i,d with
 |.m l,.v (.int k),.v x=>(match be l with
  |some xs=>(match ixN xs.length k with
   |some j=>Q ρ (aE be l (xs.set j x))
   |none=>False)
  |none=>False)
 |_,_,_=>False
theorem My{o i:Expr}{to ti:DTE}(ho:DE X o to)(hi:DE X i ti)
  (ha:∀v,assign (.Subscript o i pos) X.env v=(do
   let ov <- holding [v] (eval o X.env)
   let iv <- holding [v,ov] (eval i X.env)
   standAt pos
   holding [v,ov,iv] (setItem ov iv v)
   release [v,ov,iv] []):=by intro _;rfl):DG X (.Subscript o i pos) (IE to ti):=by
 obtain⟨t1,p1,l1⟩:=ho
 obtain⟨t2,p2,l2⟩:=hi
 refine⟨_,QD p1 p2 set_list ha,fun σ H ρ Z d u Qd Q S r h k=>?_⟩
 refine l1 σ H ρ Z _ _ S h fun x ux am H1 e1 S1 rx h1=>?_
 refine l2 σ H1 ρ am _ _ S1 h1 fun y uy be H2 e2 S2 ry h2=>?_
 have r2:=(r.ext S.mu e1).ext S1.mu e2
 have rx2:=rx.ext S1.mu e2
 split at h2
 ·rename_i l kk xv
  obtain⟨rfl,ds,hm⟩:=rx2
  cases ry
  rw[hm] at h2
  obtain⟨us,hl,rl⟩:=S2.mu l ds hm
  simp only at h2
  cases q:ixN ds.length kk with
  |none=>rw[q] at h2;exact h2.elim
  |some j=>
   rw[q] at h2
   refine⟨l,us,kk,j,rfl,rfl,hl,by rw[<- rl.length];exact q,?_⟩
   have ex:Ext X.K be H2 (aE be l (ds.set j xv)) (upd H2 l (.lst (us.set j u))):=iM hm
   exact k σ ρ _ _ (e1.trans (e2.trans ex)) ⟨S2.mu.set hm (rl.set r2 j),S2.rho.ext S2.mu ex⟩ h2
 ·exact h2.elim
noncomputable def ba(te:DTE)(g:DTG):DTS:=fun Dd ρ Z=>te ρ Z fun d am=>g d ρ am Dd.nx
theorem E3{K:PySem.W.Frag}{t:TE}{g:TG}{gd:DTG}(l1:uL K t te)(l2:Kw K g gd):Bz K (Rj t g) (ba te gd):=by
 intro σ H ρ Z Dd De S h k1 k2 k3 k4
 refine l1 σ H ρ Z _ _ S h fun d u am H1 e1 S1 r h1=>?_
 exact l2 σ H1 ρ am d u _ _ S1 r h1 fun a b c d e2=>k1 a b c d (e1.trans e2)
theorem d8{tg:Expr}{g:DTG}(he:DE X e te)(hg:DG X tg g)(hs:swapsWithSole [tg] e pos.line X.env=pure false:=by rfl)(hw:swappedStores [tg] e X.env=pure none:=by rfl)
  (h1:(assignEach [tg] X.env).map (·.2)=[assign tg X.env]:=by rfl):DS X (.Assign [tg] e pos) (ba te g):=by
 obtain⟨t1,p1,l1⟩:=he
 obtain⟨t2,p2,l2⟩:=hg
 exact⟨_,Rc p1 p2 hs hw h1,E3 l1 l2⟩
theorem aP{i:Nat}{x:Str}{pos':Pos}(hN:X.N.Nodup)(hi:X.N[i]? = some x)(hx:Loc X.env.scope x)(he:DE X e te)(hs:swapsWith e (some (.Name x pos')) pos.line X.env=pure false:=by rfl)(hf:X.fn x=true\/X.env.scope.names.lookup x=some .local:=by first|exact .inl rfl|exact .inr rfl|assumption) :
  DS X (.Assign [.Name x pos'] e pos) (ba te (ao i)):=by
 obtain⟨t1,p1,l1⟩:=he
 exact⟨_,Ri hN hi hx p1 hs hf,E3 l1 zD⟩
noncomputable def yI(i j:Nat)(t:DTA):DTS:=fun Dd ρ Z=>t ρ Z fun ds am=>match ds with
 |[v,w]=>Dd.nx ((ρ.set i (some v)).set j (some w)) am
 |_=>False
theorem nW{i j:Nat}{x y:Str}{a b:Expr}{t:DTA}{px py pt:Pos}{kt k2 pt2}(hc:X.calm=true)(hN:X.N.Nodup)(hi:X.N[i]? = some x)(hj:X.N[j]? = some y)(hij:i≠j)
  (hx:X.env.scope.names.lookup x=some .local) (hy:X.env.scope.names.lookup y=some .local) (ha:DA X [a,b] t)
  (hw:swappedStores [.Tuple [.Name x px,.Name y py] kt pt] (.Tuple [a,b] k2 pt2) X.env=pure (some [x,y]))
  (hs:swapsWithSole [.Tuple [.Name x px,.Name y py] kt pt] (.Tuple [a,b] k2 pt2) pos.line X.env=pure false:=by rfl) :
  DS X (.Assign [.Tuple [.Name x px,.Name y py] kt pt] (.Tuple [a,b] k2 pt2) pos) (yI i j t):=by
 obtain⟨t1,p1,l1⟩:=ha
 refine⟨_,P7 hc hN hi hj hij hx hy p1 hw hs,fun σ H ρ Z Dd De S h k1 k2 k3 k4=>?_⟩
 refine l1 σ H ρ Z _ _ S h fun ds us am H1 e1 S1 rs len h1=>?_
 split at h1
 ·cases rs with
  |cons r1 r2=>
   cases r2 with
   |cons r2 r3=>
    cases r3
    exact⟨_,_,rfl,k1 _ _ am H1 e1 ⟨S1.mu,(S1.rho.set r1).set r2⟩ h1⟩
 ·exact h1.elim
noncomputable def sG(c:DTT)(tb:DTS):DTS:=fun Dd ρ Z=>∃W:Nat->Rho->Mu->Prop,(∃m,W m ρ Z)/\∀m ρ Z,W m ρ Z ->
 c ρ Z fun b am=>if b=true then tb {Dd with nx:=fun bv U=>∃m',m'<m/\W m' bv U,ct:=fun bv U=>∃m',m'<m/\W m' bv U,bk:=Dd.nx} ρ am else Dd.nx ρ am
theorem qe{c:Expr}{body:List Stmt}(hp:PassesOwn (model X.prog X.w) X.A X.env X.xe)(hc:DT X c tc)(hb:DSs X body td):DS X (.While c body [] pos) (sG tc td):=by
 obtain⟨t0,p0,l0⟩:=hc
 obtain⟨t1,p1,l1⟩:=hb
 refine⟨_,Lq hp p0 p1,fun σ H ρ Z Dd De S h k1 k2 k3 k4=>?_⟩
 obtain⟨W,⟨m,w0⟩,turn⟩:=h
 refine⟨fun m ca H'=>∃bv U,Ext X.K Z H U H'/\St0 X.K H' bv U ca/\W m bv U,⟨m,ρ,Z,.refl,S,w0⟩,?_⟩
 rintro m tz H1 ⟨ut,am,e1,S1,w1⟩
 refine l0 tz H1 ut am _ _ S1 (turn m ut am w1) fun b be H2 e2 S2 h2=>?_
 cases b with
 |true=>
  refine AL ⟨fun ca H'=>∃m',m'<m/\∃bv U,Ext X.K Z H U H'/\St0 X.K H' bv U ca/\W m' bv U,fun ca H' ⟨m',hm,q⟩=>⟨m',hm,q⟩,?_⟩
  have nxt:∀ca bv U H',Ext X.K be H2 U H'->St0 X.K H' bv U ca->(∃m',m'<m/\W m' bv U)->∃m',m'<m/\∃bv U,Ext X.K Z H U H'/\St0 X.K H' bv U ca/\W m' bv U:=
   fun ca bv U H' e3 S3 ⟨m',hm,q⟩=>⟨m',hm,bv,U,e1.trans (e2.trans e3),S3,q⟩
  rw[if_pos rfl] at h2
  exact l1 tz H2 ut be _ _ S2 h2 nxt (fun a b c d e3=>k2 a b c d (e1.trans (e2.trans e3))) (fun a b c d e3=>k1 a b c d (e1.trans (e2.trans e3))) nxt
 |false=>exact AW (k1 tz ut be H2 (e1.trans e2) S2 (by simpa using h2))
noncomputable abbrev DTI:=Rho->Mu->(List PyData->Mu->Prop)->Prop
noncomputable def JJ(K:PySem.W.Frag)(J:It)(xs:List PyData)(am:Mu)(H1:Hp):Prop:=∀be H2,Ext K am H1 be H2->bM K be H2->∀i,(i<xs.length->J.go i H2/\∀x H',J.yld i H2 x H'->∃d,xs[i]? = some d/\zw H2 H'/\Rp K be H' d x)/\(i=xs.length->J.stop i H2)
noncomputable def Sl(K:PySem.W.Frag)(wi:TI)(src:DTI):Prop:=∀(σ:St) (H:Hp) (ρ:Rho) (Z:Mu) (Qd:List PyData->Mu->Prop) (R:It->Hp->Prop),St0 K H ρ Z σ->src ρ Z Qd ->
 (∀xs am H1 J,Ext K Z H am H1->St0 K H1 ρ am σ->JJ K J xs am H1->Qd xs am->R J H1)->wi σ H R
noncomputable def DI(X:Cx)(tg iter:Expr)(src:DTI):Prop:=∃wi,PI X tg iter wi/\Sl X.K wi src
variable {tg:Expr}
noncomputable def jh(te:DTE):DTI:=fun ρ Z Q=>te ρ Z fun d am=>match d with
 |.v (.list xs)=>Q xs am
 |_=>False
noncomputable def kM(te:DTE):DTI:=fun ρ Z Q=>te ρ Z fun d am=>match d with
 |.v (.tuple xs)=>Q xs am
 |_=>False
theorem iW(h:DE X e te):DI X tg e (jh te):=by
 obtain⟨t1,p1,l1⟩:=h
 refine⟨_,Dw p1,fun σ H ρ Z Qd R S h k=>?_⟩
 refine l1 σ H ρ Z _ _ S h fun d u am H1 e1 S1 r h1=>?_
 split at h1
 ·rename_i xs
  cases r with
  |@list a us _ ha hn ra=>
   refine⟨a,rfl,⟨us,SqL.of ha⟩,k xs am H1 _ e1 S1 (fun be H2 e2 ok2 i=>⟨fun hi=>?_,fun hi=>?_⟩) h1⟩
   ·have ha2:=e2.keep _ _ ha hn trivial
    have hiu:i<us.length:=by rw[<- ra.length];exact hi
    refine⟨⟨us,us[i],SqL.of ha2,by simp[hiu]⟩,fun x H' hq0=>?_⟩
    obtain⟨eH,hx⟩:=hq0
    subst eH
    obtain⟨u',h1',h2'⟩:=ra.get (i:=i) (d:=xs[i]) (by simp[hi])
    have:=hx us (SqL.of ha2)
    rw[h1'] at this
    cases this
    exact⟨xs[i],by simp[hi],zw.refl _,h2'.ext S1.mu e2⟩
   ·exact⟨us,SqL.of (e2.keep _ _ ha hn trivial),by rw[<- ra.length];omega⟩
 ·exact h1.elim
theorem nU(h:DE X e te):DI X tg e (kM te):=by
 obtain⟨t1,p1,l1⟩:=h
 refine⟨_,Qh p1,fun σ H ρ Z Qd R S h k=>?_⟩
 refine l1 σ H ρ Z _ _ S h fun d u am H1 e1 S1 r h1=>?_
 split at h1
 ·rename_i xs
  cases r with
  |@tuple a us _ ha ra=>
   refine⟨a,rfl,⟨us,ha⟩,k xs am H1 _ e1 S1 (fun be H2 e2 ok2 i=>⟨fun hi=>?_,fun hi=>?_⟩) h1⟩
   ·have ha2:=oM S1.mu e2 ha
    have hiu:i<us.length:=by rw[<- ra.length];exact hi
    refine⟨⟨us,us[i],ha2,by simp[hiu]⟩,fun x H' hq0=>?_⟩
    obtain⟨eH,hx⟩:=hq0
    subst eH
    obtain⟨u',h1',h2'⟩:=ra.get (i:=i) (d:=xs[i]) (by simp[hi])
    have:=hx us ha2
    rw[h1'] at this
    cases this
    exact⟨xs[i],by simp[hi],zw.refl _,h2'.ext S1.mu e2⟩
   ·exact⟨us,oM S1.mu e2 ha,by rw[<- ra.length];omega⟩
 ·exact h1.elim
noncomputable def pO(lo:Int)(n:Nat):List PyData:=(List.range n).map fun (i:Nat)=>PyData.int (lo+(i:Int))
theorem Lr{K:PySem.W.Frag}{lo:Int}{n:Nat}{Z:Mu}{H:Hp}:JJ K (Itr lo n) (pO lo n) Z H:=fun be H2 e2 ok2 i=>by
 have hl:(pO lo n).length=n:=by unfold pO;simp
 refine⟨fun hi=>?_,fun hi=>?_⟩
 ·rw[hl] at hi
  refine⟨hi,fun x H' hq0=>?_⟩
  obtain⟨eH,hx⟩:=hq0
  subst eH hx
  exact⟨.int (lo+i),by unfold pO;simp[hi],zw.refl _,.int _⟩
 ·show n<=i
  omega
noncomputable def p6(t:DTA):DTI:=fun ρ Z Q=>t ρ Z fun ds am=>match ds with
 |[.v (.int j)]=>(-(2 ^ 62)<=j/\j<2 ^ 62)/\Q (pO 0 j.toNat) am
 |_=>False
noncomputable def sE(t:DTA):DTI:=fun ρ Z Q=>t ρ Z fun ds am=>match ds with
 |[.v (.int i),.v (.int j)]=>(-(2 ^ 62)<=i/\i<2 ^ 62/\-(2 ^ 62)<=j/\j<2 ^ 62)/\Q (pO i (j-i).toNat) am
 |_=>False
theorem qF{a:Expr}{t:DTA}{p pos:Pos}(hg:Gl X "range")(hm:X.mg "range"=none)(ha:DA X [a] t)(hs:starEach [a] X.env=[(false,eval a X.env)]:=by rfl)(hc:X.calm=true:=by rfl):DI X tg (.Call (.Name "range" p) [a] [] pos) (p6 t):=by
 obtain⟨t1,p1,l1⟩:=ha
 refine⟨_,J6 hc hg hm p1 hs,fun σ H ρ Z Qd R S h k=>?_⟩
 refine l1 σ H ρ Z _ _ S h fun ds us am H1 e1 S1 rs len h1=>?_
 split at h1
 ·rename_i j
  cases rs with
  |cons r1 r2=>cases r2;cases r1;exact⟨j,rfl,h1.1.1,h1.1.2,k _ am H1 _ e1 S1 Lr h1.2⟩
 ·exact h1.elim
theorem tE{a b:Expr}{t:DTA}{p pos:Pos}(hg:Gl X "range")(hm:X.mg "range"=none)(ha:DA X [a,b] t)(hs:starEach [a,b] X.env=[(false,eval a X.env),(false,eval b X.env)]:=by rfl)(hs2:starEach [b] X.env=[(false,eval b X.env)]:=by rfl)(hc:X.calm=true:=by rfl):DI X tg (.Call (.Name "range" p) [a,b] [] pos) (sE t):=by
 obtain⟨t1,p1,l1⟩:=ha
 refine⟨_,Ju hc hg hm p1 hs hs2,fun σ H ρ Z Qd R S h k=>?_⟩
 refine l1 σ H ρ Z _ _ S h fun ds us am H1 e1 S1 rs len h1=>?_
 split at h1
 ·rename_i i j
  cases rs with
  |cons r1 r2=>
   cases r2 with
   |cons r2 r3=>cases r3;cases r1;cases r2;exact⟨i,j,rfl,h1.1,k _ am H1 _ e1 S1 Lr h1.2⟩
 ·exact h1.elim
noncomputable def o7(src:DTI)(g:DTG)(tb:DTS):DTS:=fun Dd ρ Z=>src ρ Z fun xs am=>∃Pv:Nat->Rho->Mu->Prop,Pv 0 ρ am /\
 (∀i x bv U,xs[i]? = some x->Pv i bv U->g (.v x) bv U fun dL be=>tb {Dd with nx:=Pv (i+1),ct:=Pv (i+1),bk:=Dd.nx} dL be)/\(∀bv U,Pv xs.length bv U->Dd.nx bv U)
theorem fg{iter:Expr}{body:List Stmt}{src:DTI}{g:DTG}(hp:PassesOwn (model X.prog X.w) X.A X.env X.xe)(hc:X.calm=true)(hi:DI X tg iter src)(hg:DG X tg g)(hb:DSs X body td)
  (hs:∀x,foldedSetIterable iter X.env x=pure x:=by intro _;rfl):DS X (.For tg iter body [] pos) (o7 src g td):=by
 obtain⟨t0,p0,l0⟩:=hi
 obtain⟨t1,p1,l1⟩:=hg
 obtain⟨t2,p2,l2⟩:=hb
 refine⟨_,LS hp hc p0 p1 p2 hs,fun σ H ρ Z Dd De S h k1 k2 k3 k4=>?_⟩
 refine l0 σ H ρ Z _ _ S h fun xs am H1 J e1 S1 it h1=>?_
 obtain⟨Pv,pv0,turn,fin⟩:=h1
 refine⟨fun i m ca H'=>m=xs.length-i/\i<=xs.length/\∃bv U,Ext X.K am H1 U H'/\St0 X.K H' bv U ca/\Pv i bv U,⟨xs.length,by simp,zero_le _,ρ,am,.refl,S1,pv0⟩,?_⟩
 rintro i m ca H' ⟨rfl,hi,bv,U,e2,S2,pv⟩
 obtain⟨go,stop⟩:=it U H' e2 S2.mu i
 by_cases hlt:i<xs.length
 ·obtain⟨g1,y1⟩:=go hlt
  refine .inr ⟨g1,fun v6 H2=>∃dL be,Ext X.K am H1 be H2/\St0 X.K H2 dL be v6/\Pv (i+1) dL be,fun v6 H2 q=>⟨xs.length-(i+1),∅,rfl,hlt,q⟩,fun x H2 yl=>?_⟩
  obtain⟨d,hd,sm,rd⟩:=y1 x H2 yl
  have e3:Ext X.K U H' U H2:=.of_same sm
  have S3:St0 X.K H2 bv U ca:=⟨S2.mu.HL e3 sm,S2.rho.ext S2.mu e3⟩
  refine l1 ca H2 bv U (.v d) x _ _ S3 rd (turn i d bv U hd pv) fun wS wr dl H4 e4 S4 h4=>?_
  have nxt:∀a b c dd,Ext X.K dl H4 c dd->St0 X.K dd b c a->Pv (i+1) b c->∃dL be,Ext X.K am H1 be dd/\St0 X.K dd dL be a/\Pv (i+1) dL be:=fun a b c dd e5 S5 q=>⟨b,c,e2.trans (e3.trans (e4.trans e5)),S5,q⟩
  have ee:=e1.trans (e2.trans (e3.trans e4))
  exact l2 wS H4 wr dl _ _ S4 h4 nxt (fun a b c d e5=>k2 a b c d (ee.trans e5)) (fun a b c d e5=>k1 a b c d (ee.trans e5)) nxt
 ·have ei:i=xs.length:=by omega
  subst ei
  exact .inl ⟨stop rfl,k1 ca bv U H' (e1.trans e2) S2 (fin bv U pv)⟩
end
noncomputable abbrev DSp:=List D->Mu->DK->Prop
noncomputable def spD(K:PySem.W.Frag)(dsp:DSp):Sp:=fun vs H Q _=>∃(ds:List D) (Z:Mu) (Qd:DK),bM K Z H/\kL K Z H ds vs/\dsp ds Z Qd /\
 (∀d u U H',Ext K Z H U H'->bM K U H'->RpD K U H' d u->Qd d U->Q u H')
noncomputable def aR(N:List Str)(ds:List D):Rho:=ds.map some++List.replicate (N.length-ds.length) none
theorem kL.get{K:PySem.W.Frag}{Z:Mu}{H:Hp}{ds:List D}{us:List V}:∀{i:Nat} {d:D},kL K Z H ds us->ds[i]? = some d->∃u,us[i]? = some u/\RpD K Z H d u
 |_,_,.nil,h=>by simp at h
 |0,_,.cons r _,h=>by simp at h;subst h;exact⟨_,rfl,r⟩
 |i+1,d,.cons _ t,h=>by
  obtain⟨u,h1,h2⟩:=kL.get (i:=i) (d:=d) t (by simpa using h)
  exact⟨u,by simpa using h1,h2⟩
theorem Ko{K:PySem.W.Frag}{Z:Mu}{H:Hp}{N:List Str}{ds:List D}{vs:List V}(r:kL K Z H ds vs):i5 K Z H (aR N ds) (start N vs):=by
 have hl:=r.length
 refine⟨by unfold aR start;simp[hl],fun i d e=>?_⟩
 unfold aR at e
 by_cases hi:i<ds.length
 ·rw[getElem?_append_left (by simpa using hi),getElem?_map] at e
  unfold start
  rw[getElem?_append_left (by simpa [hl] using hi),getElem?_map]
  cases q:ds[i]? with
  |none=>rw[q] at e;cases e
  |some d'=>
   rw[q] at e
   cases e
   obtain⟨u,h1,h2⟩:=r.get q
   exact⟨u,by rw[h1];rfl,h2⟩
 ·rw[getElem?_append_right (by simpa using hi),List.getElem?_replicate] at e
  split at e<;>cases e
section
variable {P:Program}{w:World}{K:PySem.W.Frag}{mg:Str->Option Value}{base:Heap}
theorem _root_.L2.Fun.okD{x qual:Str}{st:Stmt}{f:Addr}{fd:FuncData}{N ps:List Str}{k:Nat}{dsp:DSp}(F:Fun K x qual st f fd)(S:aO N ps (aA st))(len:∀ds Z Q,dsp ds Z Q->ds.length=ps.length)
  (hbody:∀(cdv:Value) (A:Around) (outer:List Env) (s:Shared) (H:Hp) (E:XK),nT k (A.deeper (envOfC qual (aA st) s.heap.objs.size f cdv)) ->
   ∃td,DSs (Gs CX0 P w K mg base N qual (aA st) f cdv A outer s H E).nox (jR st) td/\∀ds Z Qd,dsp ds Z Qd->td ‹Qd› (aR N ds) Z):bD P w K mg base CX0 (k+1) f fd ps (spD K dsp):=by
 refine F.ok S (fun vs H Q E h=>?_) (fun cdv A outer s H vs Q E hr h=>?_)
 ·obtain⟨ds,Z,Qd,_,r,h,_⟩:=h
  rw[<- r.length]
  exact len ds Z Qd h
 ·obtain⟨ds,Z,Qd,ok,r,h,fin⟩:=h
  obtain⟨td,⟨t,p,l⟩,rd⟩:=hbody cdv A outer s H E hr
  refine⟨t,p,?_⟩
  exact l (start N vs) H (aR N ds) Z _ _ ⟨ok,Ko r⟩ (rd ds Z Qd h) (fun ca bv U H' e' S' q=>fin (.v .none) .non U H' e' S'.mu Rp.none q) (fun d u U H' e' ok' r' q=>fin d u U H' e' ok' r' q) (fun _ _ _ _ _ _ q=>q) (fun _ _ _ _ _ _ q=>q)
end
section
variable {X:Cx}{e:Expr}{es:List Expr}{t:DTA}{p pos:Pos}{x:Str}{k:Nat}{f:Addr}{fd:FuncData}{ps:List Str}{dsp:DSp}
noncomputable def ay(dsp:DSp)(t:DTA):DTE:=fun ρ Z Q=>t ρ Z fun ds am=>dsp ds am Q
theorem aq(F:bD X.prog X.w X.K X.mg X.base CX0 k f fd ps (spD X.K dsp))(hr:nT k X.A)(hg:Gl X x)(hm:X.mg x=some (.ref f))(hk:keepIn X.K (.ref f)=true)(hb:Binds X.K fd ps [])
  (ha:DA X (e::es) t) (hdb:(x==("__debug__":Str))=false:=by decide) (he:starEach (e::es) X.env=(false,eval e X.env)::starEach es X.env:=by rfl) (hpl:(backTo pos (starEach es X.env)).any (·.1)=false:=by rfl) :
  DE X (.Call (.Name x p) (e::es) [] pos) (ay dsp t):=by
 obtain⟨t1,p1,l1⟩:=ha
 refine⟨_,Nk F hr hg hm hk hb .nil RL p1 hdb he hpl,fun σ H ρ Z Qd Q S h kk=>?_⟩
 refine l1 σ H ρ Z _ _ S h fun ds us am H1 e1 S1 rs len h1=>?_
 refine⟨ds,am,Qd,S1.mu,by rw[append_nil];exact rs,h1,fun d u U H' e2 ok r q=>?_⟩
 exact kk d u U H' (e1.trans e2) ⟨ok,S1.rho.ext S1.mu e2⟩ r q
end
section
variable {X:Cx}{o e:Expr}{to te:DTE}{apos cpos:Pos}
noncomputable def Gz(to te:DTE):DTE:=fun ρ Z Q=>to ρ Z fun x am=>match x with
 |.m l=>te ρ am fun y be=>(match y,be l with
  |.v d,some xs=>xs.length<1000/\Q (.v .none) (aE be l (xs++[d]))
  |_,_=>False)
 |_=>False
theorem nE(ho:DE X o to)(ha:DE X e te)(hbase:attributeBase o "append" X.env (eval o X.env)=eval o X.env:=by rfl)
  (hfew:((backTo cpos (starEach [e] X.env)).all (fun x=>!x.1)&&(backToKw cpos (keywordEach [] X.env)).all (fun x=>x.1.isSome)
   && decide ([e].length+([]:List Keyword).length+(if ([]:List Keyword).isEmpty then 0 else 1)<30))=true:=by rfl)
  (hline:(apos.endLine==cpos.line)=true:=by rfl) (hs:starEach [e] X.env=(false,eval e X.env)::starEach [] X.env:=by rfl) (hplain:(backTo cpos (starEach [] X.env)).any (·.1)=false:=by rfl) :
  DE X (.Call (.Attribute o "append" apos) [e] [] cpos) (Gz to te):=by
 obtain⟨t1,p1,l1⟩:=ho
 obtain⟨t2,p2,l2⟩:=ha
 refine⟨_,HX plainAttrs_list PySem.F.slot_list_append PySem.F.type_list_append qS p1 (lH p2 vm hs) hbase hfew hline hs hplain,fun σ H ρ Z Qd Q S h k=>?_⟩
 refine l1 σ H ρ Z _ _ S h fun x ux am H1 e1 S1 rx h1=>?_
 cases x with
 |m l=>
  obtain⟨rfl,ds,hm⟩:=id rx
  obtain⟨us,hl,rl⟩:=S1.mu l ds hm
  refine⟨.inl ⟨rfl,us,SqL.of hl⟩,?_⟩
  refine l2 σ H1 ρ am _ _ S1 h1 fun y uy be H2 e2 S2 ry h2=>?_
  obtain⟨_,ds2,hm2⟩:=rx.ext S1.mu e2
  obtain⟨us2,hl2,rl2⟩:=S2.mu l ds2 hm2
  rw[hm2] at h2
  cases y with
  |v d=>
   have h3:ds2.length<1000/\Qd (.v .none) (aE be l (ds2++[d])):=h2
   refine⟨l,us2,uy,rfl,rfl,hl2,by rw[<- rl2.length];exact gh (Nat.le_of_lt h3.1),?_⟩
   have ex:Ext X.K be H2 (aE be l (ds2++[d])) (upd H2 l (.lst (us2++[uy]))):=iM hm2
   exact k (.v .none) .non _ _ (e1.trans (e2.trans ex)) ⟨S2.mu.set hm2 (rl2.append (.cons ry .nil)),S2.rho.ext S2.mu ex⟩ Rp.none h3.2
  |m _=>exact h2.elim
  |s _=>exact h2.elim
  |o _=>exact h2.elim
  |b _=>exact h2.elim
  |q _=>exact h2.elim
 |v d=>exact h1.elim
 |s ns=>exact h1.elim
 |o _=>exact h1.elim
 |b _=>exact h1.elim
 |q _=>exact h1.elim
noncomputable def PH(to te:DTE):DTE:=fun ρ Z Q=>to ρ Z fun x am=>match x with
 |.m l=>te ρ am fun y be=>(match y,be l with
  |.v (.list ys),some xs=>xs.length+ys.length<=1000/\Q (.v .none) (aE be l (xs++ys))
  |_,_=>False)
 |_=>False
theorem J3(ho:DE X o to)(ha:DE X e te)(hbase:attributeBase o "extend" X.env (eval o X.env)=eval o X.env:=by rfl)
  (hfew:((backTo cpos (starEach [e] X.env)).all (fun x=>!x.1)&&(backToKw cpos (keywordEach [] X.env)).all (fun x=>x.1.isSome)
   && decide ([e].length+([]:List Keyword).length+(if ([]:List Keyword).isEmpty then 0 else 1)<30))=true:=by rfl)
  (hline:(apos.endLine==cpos.line)=true:=by rfl) (hs:starEach [e] X.env=(false,eval e X.env)::starEach [] X.env:=by rfl) (hplain:(backTo cpos (starEach [] X.env)).any (·.1)=false:=by rfl) :
  DE X (.Call (.Attribute o "extend" apos) [e] [] cpos) (PH to te):=by
 obtain⟨t1,p1,l1⟩:=ho
 obtain⟨t2,p2,l2⟩:=ha
 refine⟨_,HX plainAttrs_list PySem.F.slot_list_extend PySem.F.type_list_extend Ke p1 (lH p2 vm hs) hbase hfew hline hs hplain,fun σ H ρ Z Qd Q S h k=>?_⟩
 refine l1 σ H ρ Z _ _ S h fun x ux am H1 e1 S1 rx h1=>?_
 cases x with
 |m l=>
  obtain⟨rfl,ds,hm⟩:=id rx
  obtain⟨us,hl,rl⟩:=S1.mu l ds hm
  refine⟨.inl ⟨rfl,us,SqL.of hl⟩,?_⟩
  refine l2 σ H1 ρ am _ _ S1 h1 fun y uy be H2 e2 S2 ry h2=>?_
  obtain⟨_,ds2,hm2⟩:=rx.ext S1.mu e2
  obtain⟨us2,hl2,rl2⟩:=S2.mu l ds2 hm2
  rw[hm2] at h2
  cases y with
  |v d=>
   cases d with
   |list ys=>
    have h3:ds2.length+ys.length<=1000/\Qd (.v .none) (aE be l (ds2++ys)):=h2
    cases ry with
    |@list b ws _ hb hn rb=>
     refine⟨l,b,us2,ws,rfl,rfl,hl2,hb,xX (by rw[<- rl2.length,<- rb.length];exact h3.1),?_⟩
     have ex:Ext X.K be H2 (aE be l (ds2++ys)) (upd H2 l (.lst (us2++ws))):=iM hm2
     exact k (.v .none) .non _ _ (e1.trans (e2.trans ex)) ⟨S2.mu.set hm2 (rl2.append rb),S2.rho.ext S2.mu ex⟩ Rp.none h3.2
   |_=>exact h2.elim
  |m _=>exact h2.elim
  |s _=>exact h2.elim
  |o _=>exact h2.elim
  |b _=>exact h2.elim
  |q _=>exact h2.elim
 |v d=>exact h1.elim
 |s ns=>exact h1.elim
 |o _=>exact h1.elim
 |b _=>exact h1.elim
 |q _=>exact h1.elim
end
theorem kZ{prog:Program}{w:World}{A:Around}{R:Result->Shared->Prop}{s:Shared}{elt target iter:Expr}{ifs:List Expr}{scope:Scope}{pos:Pos}{it acc:Value}{env:Env}(I:Nat->Shared->Prop)
  (turn:∀n s,I n s->wpAny (model prog w) A (pyNext it) (fun r ci=>match r with
   |none=>R (.ok .next) ci
   |some v=>wpAny (model prog w) A (letOwnedTupleGo target it v) (fun _ s'=>wpAny (model prog w) A (assign target env v) (fun _ ii=>
     wpAny (model prog w) A (forIn ifs true fun c r=>if r=true then do let ok <- isTrue c env (eval c env);pure (ForInStep.yield ok) else pure (ForInStep.yield r)) (fun ok ce=>
      if ok=true then wpAny (model prog w) A (eval elt env) (fun x sn=>
       wpAny (model prog w) A (call (.builtin "list.append") [acc,x]) (fun _ re=>∃m,m<n/\I m re) (fun _ _=>False) sn) (fun _ _=>False) ce
      else ∃m,m<n/\I m ce) (fun _ _=>False) ii) (fun _ _=>False) s') (fun _ _=>False) ci) (fun _ _=>False) s)
  (n:Nat) (h:I n s) :
  codeAny (model prog w) A (.compLoop (.ListComp elt [⟨target,iter,ifs,0⟩] scope pos) 0 it acc env) R s:=by
 refine codeAny_loop rfl I (fun n s hI=>?_) n h
 show wpAny _ A ((compTurn (.ListComp elt [⟨target,iter,ifs,0⟩] scope pos) 0 it acc env).onRaise (fun x=>do noteFrame x env;theTreesLotGoes x)) _ _ s
 refine wpAny_noted ?_
 rw[compTurn_list]
 refine wpAny_bind (wpAny_standAt (wpAny_bind (wpAny_mono (turn n s hI) (fun r ci gl=>?_) fun _ _ h'=>h'.elim)))
 cases r with
 |none=>exact wpAny_pure gl
 |some v=>
  refine wpAny_bind (wpAny_mono gl (fun _ s' h'=>?_) fun _ _ h'=>h'.elim)
  refine wpAny_bind (wpAny_mono h' (fun _ ii o0=>wpAny_bind (wpAny_mono o0 (fun ok ce pd=>?_) fun _ _ h'=>h'.elim)) fun _ _ h'=>h'.elim)
  cases ok with
  |false=>exact wpAny_pure ⟨rfl,pd⟩
  |true=>
   exact wpAny_bind (wpAny_bind (wpAny_mono pd (fun x sn u8=>wpAny_bind (wpAny_mono u8 (fun _ re v4=>wpAny_pure (wpAny_pure ⟨rfl,v4⟩)) fun _ _ h'=>h'.elim)) fun _ _ h'=>h'.elim))
section
variable {K:PySem.W.Frag}{Z U:Mu}{H:Hp}
mutual
theorem Rp.shrink{d:PyData}{u:V}(sub:∀a,U a=none->Z a=none):Rp K U H d u->Rp K Z H d u
 |.none=>.none
 |.bool b=>.bool b
 |.int i=>.int i
 |.str x=>.str x
 |.list h n r=>.list h (sub _ n) (RpL.shrink sub r)
 |.tuple h r=>.tuple h (RpL.shrink sub r)
theorem RpL.shrink{ds:List PyData}{us:List V}(sub:∀a,U a=none->Z a=none):RpL K U H ds us->RpL K Z H ds us
 |.nil=>.nil
 |.cons h r=>.cons (Rp.shrink sub h) (RpL.shrink sub r)
end
theorem ja.shrink{c:Box}{o:Obj}(sub:∀a,U a=none->Z a=none)(r:ja K U H c o):ja K Z H c o:=by
 cases c with
 |dict kvs=>
  obtain⟨h1,h2,es,ep,xs,h3,h4,h5,h6⟩:=r
  exact⟨h1,h2,es,ep,xs,h3,h4,h5,Paired.OB h6 fun p q ⟨z1,z2,v,z3,z4⟩=>⟨z1,z2,v,Rp.shrink sub z3,z4⟩⟩
 |set ks=>exact r
end
theorem LR{X:Cx}{e:Expr}{td:DTE}(h:∀(pins:List (Addr×Obj)) (s:Shared) (σ:St) (H:Hp) (ρ:Rho) (Z:Mu) (Qd:DK) (Q:VK),Inv X pins σ H s->St0 X.K H ρ Z σ->td ρ Z Qd ->
  (∀d u U H',Ext X.K Z H U H'->St0 X.K H' ρ U σ->RpD X.K U H' d u->Qd d U->Q u H')->wpAny (model X.prog X.w) X.A (eval e X.env) (EP X pins σ Q) X.xe s):DE X e td:=
 ⟨fun σ H Q=>∃ρ Z Qd,St0 X.K H ρ Z σ/\td ρ Z Qd/\(∀d u U H',Ext X.K Z H U H'->St0 X.K H' ρ U σ->RpD X.K U H' d u->Qd d U->Q u H'),
  fun pins s σ H Q I ⟨ρ,Z,Qd,S,q,k⟩=>h pins s σ H ρ Z Qd Q I S q k,fun σ H ρ Z Qd Q S q k=>⟨ρ,Z,Qd,S,q,k⟩⟩
noncomputable def aH(X:Cx)(N':List Str)(scope:Scope)(cl:List (Str×Addr))(fp:List Addr)(ce:Shared)(db:Hp):Cx:=
 {X with N:=N',io:=ce,H₀:=db,env:=compEnvC scope cl ce.heap.objs.size X.env,outer:=X.stack,stack:=X.stack,ex:=fp,fn:=fun _=>false,pn:=X.pn,xe:=fun _ _=>False}
noncomputable def Le:Rho->Rho->Prop
 |[],[]=>True
 |none::r,_::r'=>Le r r'
 |some d::r,some d'::r'=>d=d'/\Le r r'
 |_,_=>False
theorem Le.get:∀{ρ bv:Rho},Le ρ bv->ρ.length=bv.length/\∀(i:Nat) d,ρ[i]? = some (some d)->bv[i]? = some (some d)
 |[],[],_=>⟨rfl,fun _ _ h=>h⟩
 |none::r,x::r',h=>by
  obtain⟨h1,h2⟩:=Le.get (ρ:=r) (bv:=r') h
  refine⟨congrArg (· + 1) h1,fun i d e=>?_⟩
  cases i with
  |zero=>simp at e
  |succ j=>exact h2 j d (by simpa using e)
 |some d::r,some d'::r',h=>by
  obtain⟨rfl,h⟩:=h
  obtain⟨h1,h2⟩:=Le.get (ρ:=r) (bv:=r') h
  refine⟨congrArg (· + 1) h1,fun i d e=>?_⟩
  cases i with
  |zero=>simpa using e
  |succ j=>exact h2 j d (by simpa using e)
 |some d::r,none::r',h=>h.elim
 |[],_::_,h=>h.elim
 |none::_,[],h=>h.elim
 |some _::_,[],h=>h.elim
noncomputable def bE{α:Type}(cap:List (Option Nat))(ρ:List (Option α)):List (Option α):=cap.map fun o=>o.bind fun j=>(ρ[j]?).join
noncomputable def sY(cap:List (Option Nat))(src:DTI)(g:DTG)(c:DTT)(elt:DTE):DTE:=fun ρ Z Q=>src ρ Z fun xs am=>xs.length<=1000/\∃f:PyData->Option PyData,
 (∀x∈xs,∀U:Mu,(∀a ds,am a=some ds->U a=some ds)->g (.v x) (bE cap ρ) U fun dL be=>Le (bE cap ρ) dL/\c dL be fun b bi=>
  if b=true then elt dL bi fun d dl=>dl=U/\(match d with|.v y=>f x=some y|_=>False) else bi=U/\f x=none)/\Q (.v (.list (xs.filterMap f))) am
noncomputable def EB(X:Cx)(ifs:List Expr)(c:DTT):Prop:=∀(pins:List (Addr×Obj)) (s:Shared) (σ:St) (H:Hp) (ρ:Rho) (Z:Mu) (Qd:Bool->Mu->Prop) (Q:Bool->Hp->Prop),Inv X pins σ H s->St0 X.K H ρ Z σ->c ρ Z Qd ->
 (∀b U H',Ext X.K Z H U H'->St0 X.K H' ρ U σ->Qd b U->Q b H') ->
 wpAny (model X.prog X.w) X.A (forIn ifs true fun c r=>if r=true then do let ok <- isTrue c X.env (eval c X.env);pure (ForInStep.yield ok) else pure (ForInStep.yield r)) (TP X pins σ Q) X.xe s
noncomputable def jB:DTT:=fun _ Z Q=>Q true Z
theorem df{X:Cx}:EB X [] jB:=fun pins s σ H ρ Z Qd Q I S h k=>wpAny_tests_nil ⟨H,I,k true Z H .refl S h⟩
theorem MY{X:Cx}{c:Expr}{tc:DTT}(h:DT X c tc):EB X [c] tc:=by
 obtain⟨t,p,l⟩:=h
 exact fun pins s σ H ρ Z Qd Q I S h k=>wpAny_tests_one (p pins s σ H _ I (l σ H ρ Z _ _ S h k))
theorem Un.after{fs ex:List Addr}{H H1:Hp}{h h1 h':Heap}(u:Un fs ex H H1 h h1)(k:∀b o,b<h.objs.size->h1.get? b=some o->h'.get? b=some o):Un fs ex H H1 h h':=
 ⟨fun b o e n hb hx=>k b o (Heap.lt_size e) (u.keep b o e n hb hx),fun b o e n hb hx=>let ⟨sl,q⟩:=u.slot b o e n hb hx;⟨sl,k b _ (Heap.lt_size e) q⟩,u.free,fun b o e hx=>let ⟨o',q⟩:=u.there b o e hx;⟨o',k b _ (Heap.lt_size e) q⟩,u.w6,u.vJ,u.vX⟩
theorem pN{α:Type}{cap:List (Option Nat)}{ρ:List (Option α)}{i:Nat}{d:α}(h:(bE cap ρ)[i]? = some (some d)):∃j,cap[i]? = some (some j)/\ρ[j]? = some (some d):=by
 unfold bE at h
 rw[getElem?_map] at h
 cases q:cap[i]? with
 |none=>rw[q] at h;cases h
 |some o=>
  rw[q] at h
  cases o with
  |none=>cases h
  |some j=>
   refine⟨j,rfl,?_⟩
   simp only[map_some,bind_some,Option.some.injEq] at h
   cases z:ρ[j]? with
   |none=>rw[z] at h;cases h
   |some y=>rw[z] at h;simp only[join_some] at h;rw[h]
theorem M0{α:Type}{cap:List (Option Nat)}{ρ:List (Option α)}{i j:Nat}{d:α}(h:cap[i]? = some (some j))(e:ρ[j]? = some (some d)):(bE cap ρ)[i]? = some (some d):=by
 unfold bE
 rw[getElem?_map,h]
 simp[e]
theorem i5.cap{K:PySem.W.Frag}{Z:Mu}{H:Hp}{ρ:Rho}{σ:St}{cap:List (Option Nat)}(r:i5 K Z H ρ σ):i5 K Z H (bE cap ρ) (bE cap σ):=by
 refine⟨by unfold bE;simp,fun i d e=>?_⟩
 obtain⟨j,h1,h2⟩:=pN e
 obtain⟨u,h3,h4⟩:=r.2 j d h2
 exact⟨u,M0 h1 h3,h4⟩
theorem i5.le{K:PySem.W.Frag}{Z:Mu}{H:Hp}{ρ bv:Rho}{σ:St}(r:i5 K Z H bv σ)(l:Le ρ bv):i5 K Z H ρ σ:=
 ⟨l.get.1.trans r.1,fun i d e=>r.2 i d (l.get.2 i d e)⟩
theorem CT{xs:List PyData}{f:PyData->Option PyData}{i:Nat}{d:PyData}(h:xs[i]? = some d):(xs.take (i+1)).filterMap f=(xs.take i).filterMap f++(f d).toList:=by
 obtain⟨hi,e⟩:=List.getElem?_eq_some_iff.mp h
 rw[List.take_succ_eq_append_getElem hi,List.filterMap_append,e]
 cases q:f d<;>simp[q]
section
variable {X:Cx}{a b c:Expr}{ta tb tc:DTE}{pos:Pos}
noncomputable def HA(r r':D->D->Mu->DK->Prop)(ta tb tc:DTE):DTE:=fun ρ Z Q=>ta ρ Z fun x am=>tb ρ am fun y be=>r x y be fun z bi=>match z with
 |.v (.bool k)=>if k=true then tc ρ bi fun w dl=>r' y w dl Q else Q (.v (.bool false)) bi
 |_=>False
end
theorem Bg{α:Type}{x:α}{xs:List α}:atI (x::xs) 0=some x:=by unfold atI ixN;simp
theorem Bw{α:Type}{x y:α}{xs:List α}:atI (x::y::xs) 1=some y:=by
 have h:=xR (xs:=x::y::xs) (j:=1) (v:=y) rfl
 exact h
theorem Fd{α:Type}{x y z:α}{xs:List α}:atI (x::y::z::xs) 2=some z:=by
 have h:=xR (xs:=x::y::z::xs) (j:=2) (v:=z) rfl
 exact h
theorem Ib{α:Type}{x y z u:α}{xs:List α}:atI (x::y::z::u::xs) 3=some u:=by
 have h:=xR (xs:=x::y::z::u::xs) (j:=3) (v:=u) rfl
 exact h
noncomputable def lI:D->D->Mu->DK->Prop:=fun x y Z Q=>match x,y with
 |.v (.int i),.v (.int j)=>Q (.v (.int (i+j))) Z
 |.v (.tuple xs),.v (.tuple ys)=>xs.length+ys.length<=1000/\Q (.v (.tuple (xs++ys))) Z
 |_,_=>IG x y Z Q
theorem Qo{K:PySem.W.Frag}:gj K (fun x y H Q=>(rI0 fun i j=>.int (i+j)) x y H Q\/((Hj K) x y H Q\/Qp x y H Q)) lI:=by
 intro x y ux uy H Z Qd Q ok rx ry h k
 unfold lI at h
 split at h
 ·exact .inl (Ip (K:=K) (gd:=fun i j=>.int (i+j)) (fun _ _ _ _=>.int _) _ _ ux uy H Z Qd Q ok rx ry h k)
 ·exact .inr (.inl (Nc _ _ ux uy H Z Qd Q ok rx ry h k))
 ·exact .inr (.inr (P0 _ _ ux uy H Z Qd Q ok rx ry h k))
theorem jL{X:Cx}{a b:Expr}{ta tb:DTE}{pos:Pos}(ha:DE X a ta)(hb:DE X b tb):DE X (.BinOp a .Add b pos) (dOp lI ta tb):=wZ (L9.or (Li.or Pg)) Qo ha hb
section
variable {ρ:Rho}{Z:Mu}{Q:DK}{QT:Bool->Mu->Prop}{QA:List D->Mu->Prop}{QG:Rho->Mu->Prop}{QI:List PyData->Mu->Prop}{QO:Option Int->Mu->Prop}{Dd:BN}{ta tb tc:DTE}{t u:DTT}{tA:DTA}{s1 s2:DTS}{i j:Int}{x y:PyData}{xs ys:List PyData}{d e:D}
noncomputable def GF:DTS:=fun _ _ _=>False
theorem K3{X:Cx}{st:Stmt}:DS X st GF:=⟨fun _ _ _=>False,fun _ _ _ _ _ _ h=>h.elim,fun _ _ _ _ _ _ _ h=>h.elim⟩
theorem Hy{o:Rho}:ah 0 (some d::o) Z Q=Q d Z:=propext Iff.rfl
theorem HU{a}{o:Rho}:ah 1 (a::some d::o) Z Q=Q d Z:=propext Iff.rfl
theorem GL{a b}{o:Rho}:ah 2 (a::b::some d::o) Z Q=Q d Z:=propext Iff.rfl
theorem FV{a b c}{o:Rho}:ah 3 (a::b::c::some d::o) Z Q=Q d Z:=propext Iff.rfl
theorem Ga{a b c f}{o:Rho}:ah 4 (a::b::c::f::some d::o) Z Q=Q d Z:=propext Iff.rfl
theorem HG{a b c f g}{o:Rho}:ah 5 (a::b::c::f::g::some d::o) Z Q=Q d Z:=propext Iff.rfl
theorem Hz{a b c f g h}{o:Rho}:ah 6 (a::b::c::f::g::h::some d::o) Z Q=Q d Z:=propext Iff.rfl
theorem Gg{a b c f g h k}{o:Rho}:ah 7 (a::b::c::f::g::h::k::some d::o) Z Q=Q d Z:=propext Iff.rfl
theorem GV{a b c f g h k l}{o:Rho}:ah 8 (a::b::c::f::g::h::k::l::some d::o) Z Q=Q d Z:=propext Iff.rfl
theorem GD{a b c f g h k l m}{o:Rho}:ah 9 (a::b::c::f::g::h::k::l::m::some d::o) Z Q=Q d Z:=propext Iff.rfl
theorem CM{a b c f g h k l m n}{o:Rho}:ah 10 (a::b::c::f::g::h::k::l::m::n::some d::o) Z Q=Q d Z:=propext Iff.rfl
theorem q_c:dC x ρ Z Q=Q (.v x) Z:=propext Iff.rfl
theorem Rt{r}:dOp r ta tb ρ Z Q=ta ρ Z fun x am=>tb ρ am fun y be=>r x y be Q:=propext Iff.rfl
theorem q_B:dB ta ρ Z QT=ta ρ Z fun d am=>match d with|.v (.bool k)=>QT k am|_=>False:=propext Iff.rfl
theorem QM{C:Int->Int->Prop}{g:Int->Int->PyData}:rII C g (.v (.int i)) (.v (.int j)) Z Q=(C i j/\Q (.v (g i j)) Z):=propext Iff.rfl
theorem MN{g:Int->Int->PyData}:Aj g (.v (.int i)) (.v (.int j)) Z Q=Q (.v (g i j)) Z:=propext Iff.rfl
theorem Lu:vB ta ρ Z Q=ta ρ Z fun x am=>match x with|.v (.int i)=>Q (.v (.int (-i))) am|_=>False:=propext Iff.rfl
theorem KQ:zz t u ρ Z QT=t ρ Z fun c am=>if c=true then u ρ am QT else QT false am:=propext Iff.rfl
theorem OM:ip t u ρ Z QT=t ρ Z fun c am=>if c=true then QT true am else u ρ am QT:=propext Iff.rfl
theorem HC:dS t ρ Z QT=t ρ Z fun c am=>QT (!c) am:=propext Iff.rfl
theorem Kr:kE ta tb ρ Z Q=ta ρ Z fun x am=>match x with|.v (.bool c)=>if c=true then tb ρ am Q else Q (.v (.bool false)) am|_=>False:=propext Iff.rfl
theorem Hf:KN ta ρ Z Q=ta ρ Z fun x am=>match x with|.v (.bool c)=>Q (.v (.bool (!c))) am|_=>False:=propext Iff.rfl
theorem Sg:dIf t ta tb ρ Z Q=t ρ Z fun c am=>if c=true then ta ρ am Q else tb ρ am Q:=propext Iff.rfl
theorem LW:ar ρ Z QA=QA [] Z:=propext Iff.rfl
theorem Gm:ag ta tA ρ Z QA=ta ρ Z fun x am=>tA ρ am fun xs be=>QA (x::xs) be:=propext Iff.rfl
theorem Mp:aY tA ρ Z Q=tA ρ Z fun ds am=>match dh ds with|some xs=>Q (.v (.tuple xs)) am|none=>False:=propext Iff.rfl
theorem Mr:nA tA ρ Z Q=tA ρ Z fun ds am=>match dh ds with|some xs=>Q (.v (.list xs)) am|none=>False:=propext Iff.rfl
theorem GK:rp tA ρ Z Q=tA ρ Z fun ds am=>match dh ds with|some xs=>∀p,am p=none->Q (.m p) (aE am p xs)|none=>False:=propext Iff.rfl
theorem MD:dh []=some []:=by rw[dh]
theorem KS{r:List D}:dh (.v x::r)=(dh r).map (x::·):=by rw[dh]
theorem KC{neg:Bool}:de neg (.v x) (.v y) Z Q=(SeqAt.shaped x=true/\SeqAt.shaped y=true/\Q (.v (.bool (neg ^^ PyData.eqv x y))) Z):=propext Iff.rfl
theorem LK{neg:Bool}:de neg (.v (.int i)) (.v (.int j)) Z Q=Q (.v (.bool (neg ^^ decide (i=j)))) Z:=by
 have e:PyData.eqv (.int i) (.int j)=decide (i=j):=by simp[PyData.eqv];rfl
 rw[KC,e]
 exact propext ⟨fun h=>h.2.2,fun h=>⟨rfl,rfl,h⟩⟩
theorem Ml{neg a b:Bool}:de neg (.v (.bool a)) (.v (.bool b)) Z Q=Q (.v (.bool (neg ^^ (a==b)))) Z:=by
 have e:PyData.eqv (.bool a) (.bool b)=(a==b):=by cases a<;>cases b<;>simp[PyData.eqv]<;>rfl
 rw[KC,e]
 exact propext ⟨fun h=>h.2.2,fun h=>⟨rfl,rfl,h⟩⟩
theorem Lv{neg:Bool}:NP neg (.v x) (.v (.list ys)) Z Q=(PyData.canLayAll0 ys=true/\x.canLay0=true/\PyData.depth x<=60/\Q (.v (.bool (neg ^^ ys.any fun b=>PyData.eqv b x))) Z):=propext Iff.rfl
theorem BO:aQ (.v (.list xs)) (.v (.int i)) Z Q=(match atI xs i with|some d=>Q (.v d) Z|none=>False):=propext Iff.rfl
theorem zI:aQ (.v (.tuple xs)) (.v (.int i)) Z Q=(match atI xs i with|some d=>Q (.v d) Z|none=>False):=propext Iff.rfl
theorem K1{l:Addr}:aQ (.m l) (.v (.int i)) Z Q=(match Z l with|some xs=>(match atI xs i with|some d=>Q (.v d) Z|none=>False)|none=>False):=propext Iff.rfl
theorem MT{ns:List Int}:aQ (.s ns) (.v (.int i)) Z Q=(match atI ns i with|some d=>Q (.v (.int d)) Z|none=>False):=propext Iff.rfl
theorem GN:aQ (.v (.list (x::xs))) (.v (.int 0)) Z Q=Q (.v x) Z:=by rw[BO,Bg]
theorem CP:aQ (.v (.tuple (x::xs))) (.v (.int 0)) Z Q=Q (.v x) Z:=by rw[zI,Bg]
theorem GH{z}:aQ (.v (.list (z::x::xs))) (.v (.int 1)) Z Q=Q (.v x) Z:=by rw[BO,Bw]
theorem BV{z}:aQ (.v (.tuple (z::x::xs))) (.v (.int 1)) Z Q=Q (.v x) Z:=by rw[zI,Bw]
theorem GW{z w}:aQ (.v (.list (z::w::x::xs))) (.v (.int 2)) Z Q=Q (.v x) Z:=by rw[BO,Fd]
theorem DC{z w}:aQ (.v (.tuple (z::w::x::xs))) (.v (.int 2)) Z Q=Q (.v x) Z:=by rw[zI,Fd]
theorem Hb{z w v}:aQ (.v (.tuple (z::w::v::x::xs))) (.v (.int 3)) Z Q=Q (.v x) Z:=by rw[zI,Ib]
theorem M5:IG d e Z Q=(match va Z d,va Z e with|some xs,some ys=>xs.length+ys.length<=1000/\Q (.v (.list (xs++ys))) Z|_,_=>False):=propext Iff.rfl
theorem Ge:lI (.v (.int i)) (.v (.int j)) Z Q=Q (.v (.int (i+j))) Z:=propext Iff.rfl
theorem Hn:lI (.v (.tuple xs)) (.v (.tuple ys)) Z Q=(xs.length+ys.length<=1000/\Q (.v (.tuple (xs++ys))) Z):=propext Iff.rfl
theorem Qy{tl th:DTO}:dSl ta tl th ρ Z Q=ta ρ Z fun x am=>tl ρ am fun l be=>th ρ be fun u bi=>Oa x l u bi Q:=propext Iff.rfl
theorem yv:iN ρ Z QO=QO none Z:=propext Iff.rfl
theorem HJ:oQ ta ρ Z QO=ta ρ Z fun x am=>match x with|.v (.int i)=>QO (some i) am|_=>False:=propext Iff.rfl
theorem KH{lo hi:Option Int}:Oa (.v (.tuple xs)) lo hi Z Q=Q (.v (.tuple (qY xs lo hi))) Z:=propext Iff.rfl
theorem Rl{rd}:dCB rd tA ρ Z Q=tA ρ Z fun ds am=>rd ds am Q:=propext Iff.rfl
theorem FW:da [.v (.list ys)] Z Q=Q (.v (.int (ys.length:Nat))) Z:=propext Iff.rfl
theorem HD:da [.v (.tuple ys)] Z Q=Q (.v (.int (ys.length:Nat))) Z:=propext Iff.rfl
theorem Ha{ns:List Int}:da [.s ns] Z Q=Q (.v (.int (ns.length:Nat))) Z:=propext Iff.rfl
theorem Gv{l:Addr}:da [.m l] Z Q=(match Z l with|some ys=>Q (.v (.int (ys.length:Nat))) Z|none=>False):=propext Iff.rfl
theorem KU:tW [.v (.int i)] Z Q=Q (.v (.int (i.natAbs:Nat))) Z:=propext Iff.rfl
theorem Q4{g:Int->Int->Int}:CY g [.v (.int i),.v (.int j)] Z Q=Q (.v (.int (g i j))) Z:=propext Iff.rfl
theorem HM{k:Bool}:uP [.v (.bool k)] Z Q=Q (.v (.int (if k then 1 else 0))) Z:=propext Iff.rfl
theorem DD:vn [.v (.tuple ys)] Z Q=Q (.v (.list ys)) Z:=propext Iff.rfl
theorem MC:uN [.v (.list ys)] Z Q=(match cZ ys with|some bs=>Q (.v (.bool (bs.all id))) Z|none=>False):=propext Iff.rfl
theorem MH{T:String}:wx T ta ρ Z Q=ta ρ Z fun x am=>match x with|.v d=>Q (.v (.bool (isT T d))) am|_=>False:=propext Iff.rfl
theorem KI{a b:Bool}:OF (.v (.bool a)) (.v (.bool b)) Z Q=Q (.v (.bool (a==b))) Z:=propext Iff.rfl
theorem CH{n:Nat}:ao n d ρ Z QG=QG (ρ.set n (some d)) Z:=propext Iff.rfl
theorem G6:cN [] ρ Z QG=QG ρ Z:=propext Iff.rfl
theorem C7{g:DTG}{gs:AI}:aD g gs (x::xs) ρ Z QG=g (.v x) ρ Z fun ut am=>gs xs ut am QG:=propext Iff.rfl
theorem GI{n:Nat}{gs:AI}:cA n gs (.v (.tuple xs)) ρ Z QG=(xs.length=n/\gs xs ρ Z QG):=propext Iff.rfl
theorem G7:IE ta tb d ρ Z QG=ta ρ Z fun o am=>tb ρ am fun i be=>match o,i,d with
 |.m l,.v (.int k),.v x=>(match be l with
  |some xs=>(match ixN xs.length k with
   |some j=>QG ρ (aE be l (xs.set j x))
   |none=>False)
  |none=>False)
 |_,_,_=>False:=propext Iff.rfl
theorem OV{g:DTG}:ba ta g Dd ρ Z=ta ρ Z fun d am=>g d ρ am Dd.nx:=propext Iff.rfl
theorem K8{i j:Nat}:yI i j tA Dd ρ Z=tA ρ Z fun ds am=>match ds with|[v,w]=>Dd.nx ((ρ.set i (some v)).set j (some w)) am|_=>False:=propext Iff.rfl
theorem GQ:bz Dd ρ Z=Dd.nx ρ Z:=propext Iff.rfl
theorem Lc:aN s1 s2 Dd ρ Z=s1 {Dd with nx:=s2 Dd} ρ Z:=propext Iff.rfl
theorem Mm:bb ta Dd ρ Z=ta ρ Z Dd.rt:=propext Iff.rfl
theorem Ho:qx ta Dd ρ Z=ta ρ Z fun _ am=>Dd.nx ρ am:=propext Iff.rfl
theorem OW:cj t s1 s2 Dd ρ Z=t ρ Z fun b am=>if b=true then s1 Dd ρ am else s2 Dd ρ am:=propext Iff.rfl
theorem BZ:GF Dd ρ Z=False:=propext Iff.rfl
theorem KJ{dsp:DSp}:ay dsp tA ρ Z Q=tA ρ Z fun ds am=>dsp ds am Q:=propext Iff.rfl
theorem K2:Gz ta tb ρ Z Q=ta ρ Z fun x am=>match x with
 |.m l=>tb ρ am fun y be=>(match y,be l with
  |.v d,some xs=>xs.length<1000/\Q (.v .none) (aE be l (xs++[d]))
  |_,_=>False)
 |_=>False:=propext Iff.rfl
theorem K6:PH ta tb ρ Z Q=ta ρ Z fun x am=>match x with
 |.m l=>tb ρ am fun y be=>(match y,be l with
  |.v (.list ys),some xs=>xs.length+ys.length<=1000/\Q (.v .none) (aE be l (xs++ys))
  |_,_=>False)
 |_=>False:=propext Iff.rfl
theorem Hg:jB ρ Z QT=QT true Z:=propext Iff.rfl
theorem zP:jh ta ρ Z QI=ta ρ Z fun d am=>match d with|.v (.list xs)=>QI xs am|_=>False:=propext Iff.rfl
theorem Dm:kM ta ρ Z QI=ta ρ Z fun d am=>match d with|.v (.tuple xs)=>QI xs am|_=>False:=propext Iff.rfl
theorem zm:p6 tA ρ Z QI=tA ρ Z fun ds am=>match ds with|[.v (.int j)]=>(-(2 ^ 62)<=j/\j<2 ^ 62)/\QI (pO 0 j.toNat) am|_=>False:=propext Iff.rfl
theorem yJ:sE tA ρ Z QI=tA ρ Z fun ds am=>match ds with|[.v (.int i),.v (.int j)]=>(-(2 ^ 62)<=i/\i<2 ^ 62/\-(2 ^ 62)<=j/\j<2 ^ 62)/\QI (pO i (j-i).toNat) am|_=>False:=propext Iff.rfl
theorem jw{src:DTI}{g:DTG}:o7 src g s1 Dd ρ Z=src ρ Z fun xs am=>∃Pv:Nat->Rho->Mu->Prop,Pv 0 ρ am /\
 (∀i x bv U,xs[i]? = some x->Pv i bv U->g (.v x) bv U fun dL be=>s1 {Dd with nx:=Pv (i+1),ct:=Pv (i+1),bk:=Dd.nx} dL be)/\(∀bv U,Pv xs.length bv U->Dd.nx bv U):=propext Iff.rfl
theorem rJ{cap:List (Option Nat)}{src:DTI}{g:DTG}:sY cap src g t ta ρ Z Q=src ρ Z fun xs am=>xs.length<=1000/\∃f:PyData->Option PyData,
 (∀x∈xs,∀U:Mu,(∀a ds,am a=some ds->U a=some ds)->g (.v x) (bE cap ρ) U fun dL be=>Le (bE cap ρ) dL/\t dL be fun b bi=>
  if b=true then ta dL bi fun d dl=>dl=U/\(match d with|.v y=>f x=some y|_=>False) else bi=U/\f x=none)/\Q (.v (.list (xs.filterMap f))) am:=propext Iff.rfl
theorem Hm{α:Type}{r:List (Option α)}:bE [] r=[]:=rfl
theorem G5{α:Type}{o:Option Nat}{c:List (Option Nat)}{r:List (Option α)}:bE (o::c) r=(o.bind fun j=>(r[j]?).join)::bE c r:=rfl
theorem Mi:Le [] []=True:=propext ⟨fun _=>trivial,fun h=>h⟩
theorem L4{r r':Rho}{o:Option D}:Le (none::r) (o::r')=Le r r':=propext Iff.rfl
theorem LX{r r':Rho}{d d':D}:Le (some d::r) (some d'::r')=(d=d'/\Le r r'):=propext Iff.rfl
theorem wV{α:Type}(p:α->Bool):∀xs:List α,cZ (xs.map fun x=>PyData.bool (p x))=some (xs.map p)
 |[]=>rfl
 |x::r=>by rw[map_cons,cZ,wV p r];rfl
theorem Jg{α β:Type}(p:α->β):∀xs:List α,xs.filterMap (fun x=>some (p x))=xs.map p
 |[]=>rfl
 |x::r=>by rw[filterMap_cons,Jg p r];rfl
theorem Dj:sG t s1 Dd ρ Z=(∃W:Nat->Rho->Mu->Prop,(∃m,W m ρ Z)/\∀m ρ Z,W m ρ Z ->
 t ρ Z fun b am=>if b=true then s1 {Dd with nx:=fun bv U=>∃m',m'<m/\W m' bv U,ct:=fun bv U=>∃m',m'<m/\W m' bv U,bk:=Dd.nx} ρ am else Dd.nx ρ am):=propext Iff.rfl
end
theorem KZ{α β:Type}[BEq α][LawfulBEq α]{x:α}{k:β}:∀{l:List (α×β)},l.lookup x=some k->(x,k)∈l
 |[],h=>by cases h
 |(y,j)::r,h=>by
  rw[lookup_cons] at h
  cases e:x==y with
  |true=>
   rw[e] at h
   simp only[Option.some.injEq] at h
   have:x=y:=eq_of_beq e
   subst this h
   exact mem_cons_self
  |false=>
   rw[e] at h
   exact mem_cons_of_mem _ (KZ h)
noncomputable def cfK:NameKind->Bool
 |.cell=>true
 |.free=>true
 |_=>false
theorem eJ{names:List (Str×NameKind)}{cl:List (Str×Addr)}(h:(names.all fun y=>!(cfK y.2) || (cl.lookup y.1).isSome)=true)(x:Str)(hx:names.lookup x=some .cell\/names.lookup x=some .free):∃a,cl.lookup x=some a:=by
 rw[List.all_eq_true] at h
 have key:∀k,cfK k=true->names.lookup x=some k->∃a,cl.lookup x=some a:=fun k hk e=>by
  have q:=h _ (KZ e)
  simp only[hk,Bool.not_true,Bool.false_or] at q
  exact Option.isSome_iff_exists.mp q
 rcases hx with e|e
 ·exact key _ rfl e
 ·exact key _ rfl e
noncomputable def LC(X:Cx)(sc:Scope):List (Option Nat)->List Str->Prop
 |none::c,_::n=>LC X sc c n
 |some j::c,x::n=>(X.N[j]? = some x/\Vis X.env.scope x/\X.env.kindOf x≠some .local/\((relabel sc X.env).names.lookup x=some .cell\/(relabel sc X.env).names.lookup x=some .free))/\LC X sc c n
 |_,_=>True
theorem dR{X:Cx}{sc:Scope}:∀{c:List (Option Nat)} {n:List Str},LC X sc c n->∀(i j:Nat) (x:Str),c[i]? = some (some j)->n[i]? = some x ->
  X.N[j]? = some x/\Vis X.env.scope x/\X.env.kindOf x≠some .local/\((relabel sc X.env).names.lookup x=some .cell\/(relabel sc X.env).names.lookup x=some .free)
 |[],_,_,i,j,x,h,_=>by simp at h
 |_::_,[],_,i,j,x,_,h=>by simp at h
 |none::c,y::n,k,0,j,x,h,_=>by simp at h
 |none::c,y::n,k,i+1,j,x,h,g=>dR (c:=c) (n:=n) k i j x (by simpa using h) (by simpa using g)
 |some l::c,y::n,k,0,j,x,h,g=>by
  simp only[List.getElem?_cons_zero,Option.some.injEq] at h g
  subst h g
  exact k.1
 |some l::c,y::n,k,i+1,j,x,h,g=>dR (c:=c) (n:=n) k.2 i j x (by simpa using h) (by simpa using g)
theorem Ag{X:Cx}{sc:Scope}{j:Nat}{x:Str}(h1:X.N[j]? = some x:=by rfl)(h2:Vis X.env.scope x:=by first|exact Or.inl rfl|exact Or.inr (Or.inl rfl)|exact Or.inr (Or.inr rfl))(h3:X.env.kindOf x≠some .local:=by first|(intro z;cases z)|exact (fun z=>nomatch z))
  (h4:(relabel sc X.env).names.lookup x=some .cell\/(relabel sc X.env).names.lookup x=some .free:=by first|exact Or.inl rfl|exact Or.inr rfl):X.N[j]? = some x/\Vis X.env.scope x/\X.env.kindOf x≠some .local/\((relabel sc X.env).names.lookup x=some .cell\/(relabel sc X.env).names.lookup x=some .free):=⟨h1,h2,h3,h4⟩
noncomputable def mI(Z:Mu)(p:Addr):Mu:=⟨fun b=>if b=p then none else Z b,Z.b⟩
theorem i7{Z:Mu}{p b:Addr}(h:b≠p):mI Z p b=Z b:=if_neg h
theorem kF{Z:Mu}{p:Addr}:mI Z p p=none:=if_pos rfl
noncomputable def ka(cap:List (Option Nat))(src:DTI)(g:DTG)(c:DTT)(elt:DTE):DTE:=fun ρ Z Q=>src ρ Z fun xs am=>xs.length<=1000/\∀p,am p=none->∃Pv:Nat->List PyData->Mu->Prop,Pv 0 [] (aE am p []) /\
 (∀i x acc U,xs[i]? = some x->U p=some acc->Pv i acc U->g (.v x) (bE cap ρ) U fun dL be=>Le (bE cap ρ) dL/\c dL be fun b bi=>
  if b=true then elt dL bi fun d dl=>dl p=some acc/\(match d with|.v y=>Pv (i+1) (acc++[y]) (aE dl p (acc++[y]))|_=>False) else bi p=some acc/\Pv (i+1) acc bi) /\
 (∀acc U,Pv xs.length acc U->U p=some acc->Q (.v (.list acc)) (mI U p))
theorem Bl{X:Cx}{pos2:Pos}{use:Option (Value->Sem Unit)}{QQ:Value->Shared->Prop}{pins:List (Addr×Obj)}{s:Shared}{σ:St}{H:Hp}{ρ:Rho}{Z:Mu}{Qd:DK}{N':List Str}{scope:Scope}{cl:List (Str×Addr)}{elt iter tg:Expr}{ifs:List Expr}{pos:Pos}{cap:List (Option Nat)}{src:DTI}{g:DTG}{c:DTT}{te:DTE}(hc:X.calm=X.calm)
  (hi:DI X tg iter src) (hg:∀fp ce db,DG (aH X N' scope cl fp ce db) tg g) (hif:∀fp ce db,EB (aH X N' scope cl fp ce db) ifs c) (he:∀fp ce db,DE (aH X N' scope cl fp ce db) elt te)
  (hclos:closureFor scope X.env=pure cl) (hcell:∀y∈scope.names,y.2≠.cell) (hkind:scope.kind = .function) (hnames:∀y∈scope.names,y.2 = .local->scope.names.lookup y.1=some .local)
  (hcl:∀x a,cl.lookup x=some a->X.env.cells.lookup x=some a) (hhas:∀x,(relabel scope X.env).names.lookup x=some .cell\/(relabel scope X.env).names.lookup x=some .free->∃a,cl.lookup x=some a)
  (hlen:cap.length=N'.length) (hcap:∀(i j:Nat) (x:Str),cap[i]? = some (some j)->N'[i]? = some x->X.N[j]? = some x/\Vis X.env.scope x/\X.env.kindOf x≠some .local/\((relabel scope X.env).names.lookup x=some .cell\/(relabel scope X.env).names.lookup x=some .free))
  (hs:∀x,foldedSetIterable iter X.env x=pure x )
  (I:Inv X pins σ H s) (S:St0 X.K H ρ Z σ) (h:ka cap src g c te ρ Z Qd)
  (hend:∀(s4:Shared) (Hc:Hp) (C pa:Addr) (m:Str->Option Value) (acc:List PyData) (sK:Mu),s4.heap.Ns C m->rP X pins Hc C->(∀h',Heap.SameBut C s4.heap h'->Inv X pins σ Hc {s4 with heap:=h'}) ->
   Ext X.K Z H sK Hc->St0 X.K Hc ρ sK σ->Rp X.K sK Hc (.list acc) (.ref pa)->Qd (.v (.list acc)) sK->compPost (model X.prog X.w) X.A X.xe use QQ (.ref pa) C (.ok .next) s4) :
  wpAny (model X.prog X.w) X.A (comprehension (.ListComp elt [⟨tg,iter,ifs,0⟩] scope pos) scope X.env pos2 (newList []) false (eval iter X.env) use) QQ X.xe s:=by
 obtain⟨wi,pw,li⟩:=hi
 refine wpAny_comprehension_free rfl hs hclos hkind hnames (thn (pw pins s σ H _ I (li σ H ρ Z _ (fun J H1=>∃xs am,Ext X.K Z H am H1/\St0 X.K H1 ρ am σ/\JJ X.K J xs am H1/\xs.length<=1000/\∀p,am p=none->∃Pv:Nat->List PyData->Mu->Prop,Pv 0 [] (aE am p []) /\
   (∀i x acc U,xs[i]? = some x->U p=some acc->Pv i acc U->g (.v x) (bE cap ρ) U fun dL be=>Le (bE cap ρ) dL/\c dL be fun b bi=>
    if b=true then te dL bi fun d dl=>dl p=some acc/\(match d with|.v y=>Pv (i+1) (acc++[y]) (aE dl p (acc++[y]))|_=>False) else bi p=some acc/\Pv (i+1) acc bi) /\
   (∀acc U,Pv xs.length acc U->U p=some acc->Qd (.v (.list acc)) (mI U p))) S h (fun xs am H1 J e1 S1 it q=>⟨xs,am,e1,S1,it,q⟩)))
  fun v s1 h1=>thn h1 fun itv s2 h2=>?_)
 obtain⟨it,fp,tn,J,H2,rfl,I2,T,st2,f2,xs,am,e1,S1,itok,hxs,allp⟩:=h2
 refine wpAny_newObj_type (wpAny_newFunctionEnv hcell (by intro y hy;simp at hy) (fun gl kw ld=>?_) hkind)
 dsimp only at kw ld ⊢
 have hfree2:H2 s2.heap.objs.size=none:=I2.hok.fresh (Nat.le_refl _)
 have hK2:X.K.lookup s2.heap.objs.size=none:=by
  cases z:X.K.lookup s2.heap.objs.size with
  |none=>rfl
  |some o=>exact absurd (Heap.lt_size (I2.kIn _ _ z)) (lt_irrefl _)
 have I3:Inv X pins σ (upd H2 s2.heap.objs.size (.lst [])) {s2 with heap:=s2.heap.push {cls:=.type "list",dict:=none,data:=.seq ([]:List Value).toArray}}:=
  I2.laid (t':=s2.toks) (fun b u e=>Heap.get?_push_of_some _ e) (Nat.le_refl _) ⟨zero_le _,[],0,.nil,Heap.get?_push_size _ rfl⟩
 generalize hH:s2.heap.push {cls:=.type "list",dict:=none,data:=.seq ([]:List Value).toArray} = hp3 at kw ld I3 ⊢
 have hsz3:hp3.objs.size=s2.heap.objs.size+1:=by rw[<- hH,Heap.size_push]
 have kept3:∀b o,hp3.get? b=some o->gl.get? b=some o:=fun b o e=>ld.extBut b o (ne_of_lt (Heap.lt_size e)) (Heap.get?_push_of_some _ e)
 have old3:∀b o,s2.heap.get? b=some o->hp3.get? b=some o:=fun b o e=>by rw[<- hH];exact Heap.get?_push_of_some _ e
 have fplt:∀b∈fp,b<s2.heap.objs.size:=fun b hb=>by obtain⟨o,e,_⟩:=T.obj 0 _ st2 b hb;exact Heap.lt_size e
 have fpst:∀b∈fp,b ∉ frs X.stack:=fun b hb hz=>by
  rcases List.mem_cons.mp (I2.lQ b hz) with e|e
  ·exact (f2 b hb).2.1 e
  ·exact (f2 b hb).2.2.1 e
 obtain⟨s3,hs3⟩:∃s3:Shared,s3={s2 with heap:=hp3}:=⟨_,rfl⟩
 obtain⟨H3,hH3⟩:∃H3:Hp,H3=upd H2 s2.heap.objs.size (.lst []):=⟨_,rfl⟩
 have heap3:s3.heap=hp3:=by rw[hs3]
 rw[<- hH3] at I3
 have I3':Inv X pins σ H3 s3:=by rw[hs3];exact I3
 have hloc:H3 hp3.objs.size=none:=by have:=I3'.hok.fresh (a:=hp3.objs.size) (by rw[heap3];exact Nat.le_refl _);exact this
 have okc:(aH X N' scope cl fp s3 H3).Ok:=by
  refine⟨I3.ok.mod,?_,I3.ok.glob,I3.ok.blt,Nat.le_refl _,fun x y a h1 h2=>I3.ok.inj x y a (hcl x a h1) (hcl y a h2),fun x hx=>hhas x hx,fun x a h=>(nomatch h),I3.ok.hd,I3.ok.qt,I3.ok.frames,.inl rfl,fun b hb=>⟨?_,fun x a h=>(f2 b hb).2.2.2.2.1 x a (hcl x a h)⟩,
   I3'.bs,le_trans I3.ok.bsz I3'.sz,fun b o e hb=>?_,fun b hb=>fpst b hb,I3'.stack,I3'.ur⟩
  ·exact hkind
  ·show b≠s3.heap.objs.size
   rw[heap3,hsz3]
   exact ne_of_lt (lt_succ_of_lt (fplt b hb))
  ·rcases (f2 b hb).2.2.2.1 with z|z
   ·exact I3.ok.FD b o e z
   ·exact absurd (lt_of_lt_of_le (Heap.lt_size (I3.ok.bs b o e).1) z) (lt_irrefl _)
 have I4:Inv (aH X N' scope cl fp s3 H3) [] (bE cap σ) H3 {s2 with heap:=gl,toks:=s2.toks+([]:List (Str×Value)).length}:=by
  refine⟨okc,by show s2.os=s3.os;rw[hs3],I3.bare,Un.kept (by show ∀b o,s3.heap.get? b=some o->_;rw[heap3];exact kept3),⟨_,(by show gl.Ns s3.heap.objs.size _;rw[heap3];exact kw),fun i x v e1 e2 e3=>?_⟩,fun x a h=>?_,(by show H3 s3.heap.objs.size=none;rw[heap3];exact hloc),fun x a h=>I3.mT x a (hcl x a h),fun p hp=>?_,I3.hok.kept kept3,?_⟩
  ·obtain⟨j,h1,h2⟩:=pN e2
   obtain⟨hN,hv,hnl,hk⟩:=hcap i j x h1 e1
   obtain⟨m,_,hl⟩:=I3.loc
   obtain⟨u,r,lk⟩:=hl j x v hN h2 hv
   refine⟨u,r,.inr ⟨hk,?_⟩⟩
   obtain⟨a,ha⟩:=hhas x hk
   rcases lk with ⟨z,_⟩|⟨_,a',z1,z2⟩
   ·exact absurd z hnl
   ·have:a'=a:=by have q:=hcl x a ha;rw[z1] at q;exact Option.some.inj q
    subst this
    obtain⟨o,ho,hd⟩:=z2
    exact⟨a',ha,o,kept3 _ _ ho,hd⟩
  ·obtain⟨v,o,ho,hd⟩:=I3.cell x a (hcl x a h)
   exact⟨v,o,kept3 _ _ ho,hd⟩
  ·have hp':p∈X.pn++pins:=mem_append_left _ (by simpa using (show p∈X.pn++[] from hp))
   obtain⟨z1,z2,z3,z4,z5⟩:=I3'.pin p hp'
   refine⟨kept3 _ _ (by rw[<- heap3];exact z1),z2,(show p.1≠s3.heap.objs.size from ne_of_lt (Heap.lt_size z1)),fun z=>?_,z5⟩
   rcases List.mem_cons.mp (I3'.lQ p.1 z) with e|e
   ·exact z3 e
   ·exact z4 e
  ·show (bE cap σ).length=N'.length
   unfold bE
   rw[length_map]
   exact hlen
 have lw:am s2.heap.objs.size=none:=S1.mu.free hfree2
 obtain⟨Pv,pv0,body,fin⟩:=allp s2.heap.objs.size lw
 have loop:codeAny (model X.prog X.w) X.A (.compLoop (.ListComp elt [⟨tg,iter,ifs,0⟩] scope pos) 0 (.ref it) (.ref s2.heap.objs.size) (aH X N' scope cl fp s3 H3).env)
   (compPost (model X.prog X.w) X.A X.xe use QQ (.ref s2.heap.objs.size) hp3.objs.size) {s2 with heap:=gl,toks:=s2.toks+([]:List (Str×Value)).length}:=by
  refine kZ (fun n s'=>∃(i:Nat) (ga:St) (Hc:Hp) (acc:List PyData) (ln:Mu),n=xs.length-i/\i<=xs.length/\Inv (aH X N' scope cl fp s3 H3) [] ga Hc s'/\tn i s'.heap/\(∀b∈fp,Hc b=none) /\
   acc.length<=i/\ln s2.heap.objs.size=some acc/\Pv i acc ln/\St0 X.K Hc (bE cap ρ) ln ga/\Ext X.K am H2 ln Hc) ?_ xs.length
   ⟨0,bE cap σ,H3,[],aE am s2.heap.objs.size [],by simp,zero_le _,I4,T.keep 0 _ _ st2 (fun b hb o e=>kept3 b o (old3 b o e)),fun b hb=>?_,Nat.le_refl _,aF,pv0,?_,?_⟩
  ·rintro n s' ⟨i,ga,Hc,acc,ln,rfl,hi,Ic,tc,frc,hal,hpa,pvi,Sc,Ec⟩
   have stat:∀{Hd:Hp},(∀b∈fp,Hd b=none)->∀b∈fp,rP (aH X N' scope cl fp s3 H3) [] Hd b:=fun hn b hb=>
    ⟨hn b hb,(okc.exf b hb).1,fpst b hb,.inl hb,fun x a h=>(okc.exf b hb).2 x a h,fun p hp=>(f2 b hb).2.2.2.2.2 p (mem_append_left _ (by simpa using (show p∈X.pn++[] from hp)))⟩
   obtain⟨go,stop⟩:=itok _ Hc Ec Sc.mu i
   by_cases hlt:i<xs.length
   ·obtain⟨g1,y1⟩:=go hlt
    refine thn (T.item (aH X N' scope cl fp s3 H3) rfl rfl rfl (fun z=>z) i [] s' ga Hc (fun _ _=>False) Ic (stat frc) tc g1) fun r s4 hq0=>?_
    obtain⟨u,hr,h4⟩:=hq0
    subst hr
    refine thn h4 fun _ s5 hq0=>?_
    obtain⟨x,H5,I5,r5,y5,st5,fr5⟩:=hq0
    obtain⟨d,hd,sm,rd⟩:=y1 x H5 y5
    have I5':=I5.pinned (stat fr5) (T.obj _ _ st5)
    have e5:Ext X.K _ Hc _ H5:=.of_same (Z:=ln) sm
    have S5:St0 X.K H5 (bE cap ρ) ln ga:=⟨Sc.mu.HL e5 sm,Sc.rho.ext Sc.mu e5⟩
    obtain⟨gt,pg,lg⟩:=hg fp s3 H3
    refine thn (pg _ s5 ga H5 x u (fun ca H'=>∃bv U,Ext X.K ln H5 U H'/\St0 X.K H' bv U ca/\Le (bE cap ρ) bv/\c bv U fun b bi=>
      if b=true then te bv bi fun d' dl=>dl s2.heap.objs.size=some acc/\(match d' with|.v y=>Pv (i+1) (acc++[y]) (aE dl s2.heap.objs.size (acc++[y]))|_=>False) else bi s2.heap.objs.size=some acc/\Pv (i+1) acc bi) I5' r5
     (lg ga H5 (bE cap ρ) _ (.v d) x _ _ S5 rd (body i d acc ln hd hpa pvi) fun ca bv U H' e' S' q=>⟨bv,U,e',S',q⟩)) fun _ s6 ⟨im,H6,I6,lf,tt,e6,S6,le6,q6⟩=>?_
    refine thn (hif fp s3 H3 _ s6 im H6 lf tt _ (fun b H'=>∃U,Ext X.K tt H6 U H'/\St0 X.K H' lf U im/\if b=true then te lf U fun d' dl=>dl s2.heap.objs.size=some acc/\(match d' with|.v y=>Pv (i+1) (acc++[y]) (aE dl s2.heap.objs.size (acc++[y]))|_=>False) else U s2.heap.objs.size=some acc/\Pv (i+1) acc U)
     I6 S6 q6 fun b U H' e' S' q=>⟨U,e',S',q⟩) fun b s7 ⟨H7,I7,po,e7,S7,q7⟩=>?_
    have again:∀{H9:Hp} {s9:Shared} {acc':List PyData} {ul:Mu},Inv (aH X N' scope cl fp s3 H3) ([]++sQ fp s5.heap) im H9 s9->acc'.length<=i+1->ul s2.heap.objs.size=some acc'->Pv (i+1) acc' ul->bM X.K ul H9->i5 X.K ul H9 (bE cap ρ) im ->
      Ext X.K am H2 ul H9->∃m,m<xs.length-i/\∃(i:Nat) (ga:St) (Hc:Hp) (acc:List PyData) (ln:Mu),m=xs.length-i/\i<=xs.length/\Inv (aH X N' scope cl fp s3 H3) [] ga Hc s9/\tn i s9.heap/\(∀b∈fp,Hc b=none) /\
       acc.length<=i/\ln s2.heap.objs.size=some acc/\Pv i acc ln/\St0 X.K Hc (bE cap ρ) ln ga/\Ext X.K am H2 ln Hc:=fun {H9 s9 acc' ul} I9 l9 p9 v9 m9 r9 e9=>by
     refine⟨xs.length-(i+1),∅,i+1,im,H9,acc',ul,rfl,hlt,I9.fk,T.keep _ _ _ st5 fun b hb o e=>(I9.pin (b,o) (mem_append_right _ (mem_append_right _ (bQ hb e)))).1,fun b hb=>?_,l9,p9,v9,⟨m9,r9⟩,e9⟩
     obtain⟨o,e,_⟩:=T.obj _ _ st5 b hb
     exact (I9.pin (b,o) (mem_append_right _ (mem_append_right _ (bQ hb e)))).2.1
    cases b with
    |false=>
     have q8:po s2.heap.objs.size=some acc/\Pv (i+1) acc po:=by simpa using q7
     refine AW ?_
     exact again I7 ∅ q8.1 q8.2 S7.mu (S7.rho.le le6) (Ec.trans (e5.trans (e6.trans e7)))
    |true=>
     refine AL ?_
     obtain⟨t8,p8,l8⟩:=he fp s3 H3
     refine thn (p8 _ s7 im H7 (fun v H'=>∃y sB,Ext X.K po H7 sB H'/\St0 X.K H' lf sB im/\Rp X.K sB H' y v/\sB s2.heap.objs.size=some acc/\Pv (i+1) (acc++[y]) (aE sB s2.heap.objs.size (acc++[y]))) I7
      (l8 im H7 lf po _ _ S7 (by simpa using q7) fun d' v sB H8 e8 S8 r8 q8=>?_)) fun v s8 ⟨v8,H8,I8,r8,y,sB,e8,S8,ry,pa8,fy⟩=>?_
     ·obtain⟨q80,q8⟩:=q8
      cases d' with
      |v y=>exact⟨y,sB,e8,S8,r8,q80,q8⟩
      |m _=>exact q8.elim
      |s _=>exact q8.elim
      |o _=>exact q8.elim
      |b _=>exact q8.elim
      |q _=>exact q8.elim
     ·obtain⟨us,hacc,rus⟩:=S8.mu s2.heap.objs.size _ pa8
      have hle:acc.length<=1000:=by omega
      refine thn (qS (X:=aH X N' scope cl fp s3 H3) _ s8 im H8 (.ref s2.heap.objs.size) [v8] (.ref s2.heap.objs.size) [v] (fun _ H'=>H'=upd H8 s2.heap.objs.size (.lst (us++[v8]))) I8 rfl (.cons r8 .nil) ⟨_,us,v8,rfl,rfl,hacc,by rw[<- rus.length];exact gh hle,rfl⟩) fun _ s9 hq0=>?_
      obtain⟨_,H9,I9,_,e9⟩:=hq0
      subst e9
      have ex:Ext X.K sB H8 (aE sB s2.heap.objs.size (acc++[y])) (upd H8 s2.heap.objs.size (.lst (us++[v8]))):=iM pa8
      exact again I9 (by rw[length_append,List.length_singleton];omega) aF fy (S8.mu.set pa8 (rus.append (.cons ry .nil))) ((S8.rho.le le6).ext S8.mu ex) (Ec.trans (e5.trans (e6.trans (e7.trans (e8.trans ex)))))
   ·have ei:i=xs.length:=by omega
    subst ei
    refine thn (T.done (aH X N' scope cl fp s3 H3) rfl rfl rfl (fun z=>z) _ [] s' ga Hc (fun _ _=>False) Ic (stat frc) tc (stop rfl)) fun r s4 hq0=>?_
    obtain⟨hr,I5⟩:=hq0
    subst hr
    obtain⟨m,hn,_⟩:=I5.loc
    have hcC:Hc hp3.objs.size=none:=by have z:Hc s3.heap.objs.size=none:=I5.free;rw[heap3] at z;exact z
    obtain⟨us,hacc,rus⟩:=Sc.mu s2.heap.objs.size _ hpa
    have shr:∀a,ln a=none->mI ln s2.heap.objs.size a=none:=fun a e=>by
     by_cases z:a=s2.heap.objs.size
     ·rw[z];exact kF
     ·rw[i7 z];exact e
    have dne:∀a ds,mI ln s2.heap.objs.size a=some ds->ln a=some ds:=fun a ds e=>by
     by_cases z:a=s2.heap.objs.size
     ·rw[z,kF] at e;cases e
     ·rw[i7 z] at e;exact e
    have eF:Ext X.K am H2 (mI ln s2.heap.objs.size) Hc:=by
     refine⟨Ec.keep,Ec.tb,fun b ds q=>?_,fun b q z=>shr b (Ec.fresh b q z),Ec.st,fun b c q=>Ec.bx b c q⟩
     obtain⟨es,q2⟩:=Ec.dom b ds q
     have:b≠s2.heap.objs.size:=fun z=>by rw[z,lw] at q;cases q
     exact⟨es,by rw[i7 this];exact q2⟩
    have mF:bM X.K (mI ln s2.heap.objs.size) Hc:=⟨fun a ds q=>by
     obtain⟨ys,z1,z2⟩:=Sc.mu a ds (dne a ds q)
     exact⟨ys,z1,z2.shrink shr⟩,Sc.mu.tab,fun a c q=>let ⟨z,o,w1,w2⟩:=Sc.mu.box a c q;⟨z,o,w1,w2.shrink shr⟩⟩
    refine hend s4 Hc hp3.objs.size s2.heap.objs.size m acc (mI ln s2.heap.objs.size) (by have z:s4.heap.Ns s3.heap.objs.size m:=hn;rw[heap3] at z;exact z) (I2.Gr (by rw[hsz3];exact Nat.le_succ _) hcC) (fun h' hs'=>?_) (e1.trans eF) ⟨mF,S1.rho.ext S1.mu eF⟩ (Rp.list hacc kF (rus.shrink shr)) (fin acc ln pvi hpa)
    have kp:∀b o,b<s2.heap.objs.size->s4.heap.get? b=some o->h'.get? b=some o:=fun b o hb e=>hs'.extBut b o (by rw[hsz3];exact ne_of_lt (lt_succ_of_lt hb)) e
    have hok':HOk X.prog X.w Hc h':=fun b ob e=>by
     refine (I5.hok b ob e).sA (fun cc v hcc q=>hs'.extBut cc v ?_ q) (fun _ q=>q) fun _ _ q=>q
     rintro rfl
     rcases hcc with z|z
     ·rw[<- z,hcC] at e;cases e
     ·rw[hcC] at z;cases z
    have u1:Un (frs X.stack) fp H2 H3 s2.heap s3.heap:=by rw[heap3,hH3];exact Un.laid old3 (Nat.le_refl _) hfree2
    have u2:Un (frs X.stack) fp H3 Hc s3.heap s4.heap:=I5.base
    exact I2.Bv (ch:=fp) (by show s4.os=s2.os;have z:s4.os=s3.os:=I5.os;rw[z,hs3]) (Un.after (u1.trans u2) kp) hok' I5.bare fun b hb=>⟨(f2 b hb).2.2.2.1,(f2 b hb).2.1,(f2 b hb).2.2.2.2.1,(f2 b hb).2.2.2.2.2⟩
  ·have z:b≠s2.heap.objs.size:=ne_of_lt (fplt b hb)
   rw[hH3,aU z]
   exact (f2 b hb).1
  ·have ex:=iJ (o:=.lst []) (ds:=[]) S1.mu hfree2 hK2
   rw[hH3]
   exact⟨S1.mu.mut .nil hfree2 hK2,(S1.rho.ext S1.mu ex).cap⟩
  ·rw[hH3]
   exact iJ (o:=.lst []) (ds:=[]) S1.mu hfree2 hK2
 have envE:(aH X N' scope cl fp s3 H3).env=compEnvC scope cl hp3.objs.size X.env:=by show compEnvC scope cl s3.heap.objs.size X.env=_;rw[heap3]
 rw[envE] at loop
 exact codeAny_compStart_list loop (T.self X.A 0 _ _ _ (T.keep 0 _ _ st2 (fun b hb o e=>kept3 b o (old3 b o e))) loop)
theorem yD{X:Cx}{N':List Str}{scope:Scope}{cl:List (Str×Addr)}{elt iter tg:Expr}{ifs:List Expr}{pos:Pos}{cap:List (Option Nat)}{src:DTI}{g:DTG}{c:DTT}{te:DTE}(hc:X.calm=X.calm)
  (hi:DI X tg iter src) (hg:∀fp ce db,DG (aH X N' scope cl fp ce db) tg g) (hif:∀fp ce db,EB (aH X N' scope cl fp ce db) ifs c) (he:∀fp ce db,DE (aH X N' scope cl fp ce db) elt te)
  (hclos:closureFor scope X.env=pure cl) (hcell:∀y∈scope.names,y.2≠.cell) (hkind:scope.kind = .function) (hnames:∀y∈scope.names,y.2 = .local->scope.names.lookup y.1=some .local)
  (hcl:∀x a,cl.lookup x=some a->X.env.cells.lookup x=some a) (hhas:∀x,(relabel scope X.env).names.lookup x=some .cell\/(relabel scope X.env).names.lookup x=some .free->∃a,cl.lookup x=some a)
  (hlen:cap.length=N'.length) (hcap:∀(i j:Nat) (x:Str),cap[i]? = some (some j)->N'[i]? = some x->X.N[j]? = some x/\Vis X.env.scope x/\X.env.kindOf x≠some .local/\((relabel scope X.env).names.lookup x=some .cell\/(relabel scope X.env).names.lookup x=some .free))
  (hs:∀x,foldedSetIterable iter X.env x=pure x:=by intro _;rfl):DE X (.ListComp elt [⟨tg,iter,ifs,0⟩] scope pos) (ka cap src g c te):=by
 refine LR fun pins s σ H ρ Z Qd Q I S h k=>?_
 rw[eval_ListComp]
 refine Bl hc hi hg hif he hclos hcell hkind hnames hcl hhas hlen hcap hs I S h fun s4 Hc C pa m acc sK hn _ hI e1 S1 r q=>?_
 exact⟨m,hn,fun h' hs'=>⟨.ref pa,Hc,hI h' hs',rfl,k (.v (.list acc)) _ sK Hc e1 S1 r q⟩⟩
theorem ns_obj{h:Heap}{C:Addr}{m:Str->Option Value}(hn:h.Ns C m):∃o,h.get? C=some o/\∀v,o.data≠.cell v:=let ⟨o,es,ep,ho,hd,_⟩:=hn;⟨o,ho,fun v z=>by rw[hd] at z;cases z⟩
theorem Ie{h h':Heap}{C:Addr}{m:Str->Option Value}(hn:h.Ns C m)(e:h'.get? C=h.get? C):h'.Ns C m:=let ⟨o,es,ep,ho,r⟩:=hn;⟨o,es,ep,e.trans ho,r⟩
theorem Cm{X:Cx}{i:Nat}{x:Str}{pos' spos:Pos}{N':List Str}{scope:Scope}{cl:List (Str×Addr)}{elt iter tg:Expr}{ifs:List Expr}{pos:Pos}{cap:List (Option Nat)}{src:DTI}{g:DTG}{c:DTT}{te:DTE}(hN:X.N.Nodup)(hix:X.N[i]? = some x)(hx:X.env.scope.names.lookup x=some .local)(hc:X.calm=X.calm)
  (hi:DI X tg iter src) (hg:∀fp ce db,DG (aH X N' scope cl fp ce db) tg g) (hif:∀fp ce db,EB (aH X N' scope cl fp ce db) ifs c) (he:∀fp ce db,DE (aH X N' scope cl fp ce db) elt te)
  (hclos:closureFor scope X.env=pure cl) (hcell:∀y∈scope.names,y.2≠.cell) (hkind:scope.kind = .function) (hnames:∀y∈scope.names,y.2 = .local->scope.names.lookup y.1=some .local)
  (hcl:∀x a,cl.lookup x=some a->X.env.cells.lookup x=some a) (hhas:∀x,(relabel scope X.env).names.lookup x=some .cell\/(relabel scope X.env).names.lookup x=some .free->∃a,cl.lookup x=some a)
  (hlen:cap.length=N'.length) (hcap:∀(i j:Nat) (x:Str),cap[i]? = some (some j)->N'[i]? = some x->X.N[j]? = some x/\Vis X.env.scope x/\X.env.kindOf x≠some .local/\((relabel scope X.env).names.lookup x=some .cell\/(relabel scope X.env).names.lookup x=some .free))
  (hs:∀x,foldedSetIterable iter X.env x=pure x:=by intro _;rfl)
  (hsw:swapsWith (.ListComp elt [⟨tg,iter,ifs,0⟩] scope pos) (some (.Name x pos')) spos.line X.env=pure true:=by rfl):DS X (.Assign [.Name x pos'] (.ListComp elt [⟨tg,iter,ifs,0⟩] scope pos) spos) (ba (ka cap src g c te) (ao i)):=by
 refine⟨fun D σ H=>∃ρ Z Dd,St0 X.K H ρ Z σ/\ba (ka cap src g c te) (ao i) Dd ρ Z/\(∀ca bv U H',Ext X.K Z H U H'->St0 X.K H' bv U ca->Dd.nx bv U->D.nx ca H'),?_,fun σ H ρ Z Dd De S h k1 k2 k3 k4=>⟨ρ,Z,Dd,S,h,k1⟩⟩
 rintro pins s σ H D I ⟨ρ,Z,Dd,S,h,k1⟩
 rw[exec_Assign_Name_used _ _ _ _ hsw]
 refine wpAny_bind (wpAny_standAt ?_)
 show wpAny _ _ ((comprehension (.ListComp elt [⟨tg,iter,ifs,0⟩] scope pos) scope X.env (firstIterPos [⟨tg,iter,ifs,0⟩] pos) (newList []) false (eval iter X.env) (some (assign (.Name x pos') X.env))>>=fun _=>pure ())>>=_) _ _ s
 refine wpAny_bind (wpAny_bind (Bl (Qd:=fun d am=>ao i d ρ am Dd.nx) hc hi hg hif he hclos hcell hkind hnames hcl hhas hlen hcap hs I S h fun s4 Hc C pa m acc sK hn fC hI e1 S1 r q=>?_))
 have I4:Inv X pins σ Hc s4:=hI s4.heap (Heap.SameBut.refl _ _)
 obtain⟨oC,hoC,hdC⟩:∃o,s4.heap.get? C=some o/\∀v,o.data≠.cell v:=by
  obtain⟨o,h1,h2⟩:=ns_obj hn
  exact⟨o,h1,h2⟩
 have I5:=I4.pinned (fp:=[C]) (fun b hb=>by rw[List.mem_singleton.mp hb];exact fC) (fun b hb=>by rw[List.mem_singleton.mp hb];exact⟨oC,hoC,hdC⟩)
 show wpAny _ _ (assign (.Name x pos') X.env (.ref pa)) _ _ s4
 refine wpAny_assign_Name (nD I5 hN hix (Or.inl hx) (show RelV (.ref pa) (.ref pa) from rfl) (fun s' I'=>?_) (.inr hx))
 have keepC:s'.heap.get? C=some oC:=(I'.pin (C,oC) (mem_append_right _ (mem_append_right _ (bQ (List.mem_singleton.mpr rfl) hoC)))).1
 have hn':s'.heap.Ns C m:=Ie hn (by rw[keepC,hoC])
 refine⟨m,hn',fun h' hs'=>wpAny_pure (wpAny_pure ?_)⟩
 refine⟨σ.set i (some (.ref pa)),Hc,?_,k1 _ _ _ _ e1 ⟨S1.mu,S1.rho.set (d:=.v (.list acc)) r⟩ q⟩
 refine I'.fk.Bv (ch:=[C]) rfl ⟨fun b o e n hb hx=>?_,fun b o e n hb hx=>?_,fun b o e n hx=>n,fun b o e hx=>?_,fun b xs e=>e,fun b o u e=>e,fun b ps e=>⟨#[],by rw[Array.append_empty];exact e⟩⟩ ?_ I'.bare fun b hb=>?_
 ·exact hs'.extBut b o (fun z=>hx (List.mem_singleton.mpr z)) e
 ·exact⟨o.slots,hs'.extBut b o (fun z=>hx (List.mem_singleton.mpr z)) e⟩
 ·exact⟨o,hs'.extBut b o (fun z=>hx (List.mem_singleton.mpr z)) e⟩
 ·exact fun b ob e=>by
   refine (I'.hok b ob e).sA (fun cc v hcc q=>hs'.extBut cc v ?_ q) (fun _ q=>q) fun _ _ q=>q
   rintro rfl
   rcases hcc with z|z
   ·rw[<- z,fC.1] at e;cases e
   ·rw[fC.1] at z;cases z
 ·rw[List.mem_singleton.mp hb]
  exact⟨fC.2.2.2.1,fC.2.1,fC.2.2.2.2.1,fC.2.2.2.2.2⟩
theorem nS{cap:List (Option Nat)}{src:DTI}{g:DTG}{t:DTT}{ta:DTE}{ρ:Rho}{Z:Mu}{Q:DK}:ka cap src g t ta ρ Z Q=src ρ Z fun xs am=>xs.length<=1000/\∀p,am p=none->∃Pv:Nat->List PyData->Mu->Prop,Pv 0 [] (aE am p []) /\
 (∀i x acc U,xs[i]? = some x->U p=some acc->Pv i acc U->g (.v x) (bE cap ρ) U fun dL be=>Le (bE cap ρ) dL/\t dL be fun b bi=>
  if b=true then ta dL bi fun d dl=>dl p=some acc/\(match d with|.v y=>Pv (i+1) (acc++[y]) (aE dl p (acc++[y]))|_=>False) else bi p=some acc/\Pv (i+1) acc bi) /\
 (∀acc U,Pv xs.length acc U->U p=some acc->Q (.v (.list acc)) (mI U p)):=propext Iff.rfl
theorem qR{Z:Mu}{p:Addr}{ds:List PyData}(h:Z p=none):mI (aE Z p ds) p=Z:=Mu.eq (fun b=>by
 by_cases e:b=p
 ·rw[e,kF,h]
 ·rw[i7 e,aW e]) fun _=>rfl
theorem Rg{xs:List PyData}{f:PyData->Option PyData}{i:Nat}{d:PyData}(h:xs[i]? = some d):(xs.take (i+1)).filterMap f=(xs.take i).filterMap f++(f d).toList:=CT h
noncomputable def Itz(K:PySem.W.Frag)(l1 l2:Addr):It:=
 ⟨fun i H=>∃xs ys x y,SqL K H l1 xs/\SqL K H l2 ys/\xs[i]? = some x/\ys[i]? = some y,
  fun i H v H'=>∃p x y,v = .ref p/\H p=none/\H'=upd H p (.tup [x,y])/\(∀xs,SqL K H l1 xs->xs[i]? = some x)/\(∀ys,SqL K H l2 ys->ys[i]? = some y),
  fun i H=>∃xs ys,SqL K H l1 xs/\SqL K H l2 ys/\(xs.length<=i\/ys.length<=i)⟩
theorem Inv.yH{X:Cx}{pins:List (Addr×Obj)}{σ:St}{H:Hp}{s:Shared}{h':Heap}{t':Nat}{ch:List Addr}{a:Addr}{o:HO}(I:Inv X pins σ H s)(hc:∀b∈ch,rP X pins H b)
  (k:∀b u,b ∉ ch->s.heap.get? b=some u->h'.get? b=some u) (hp:s.heap.objs.size<=a) (new:jD X.prog X.w (upd H a o) h' a o):Inv X pins σ (upd H a o) {s with heap:=h',toks:=t'}:=by
 have hn:=I.hok.fresh hp
 have nin:∀b u,H b=some u->b ∉ ch:=fun b u e z=>by rw[(hc b z).1] at e;cases e
 refine I.call (g':=s.gens) (d':=s.drawn) (t':=t') (ch:=ch) ?_ ?_ I.bare fun b hb=>?_
 ·exact⟨fun b u q _ _ x=>k b u x q,fun b u q _ _ x=>⟨u.slots,k b u x q⟩,fun b u q n _=>by rw[aU (ne_of_lt (lt_of_lt_of_le (Heap.lt_size q) hp))];exact n,fun b u q x=>⟨u,k b u x q⟩,
   fun b xs q=>by rw[aU (aZ q hn)];exact q,fun b u xs q=>by rw[aU (aZ q hn)];exact q,fun b ps q=>⟨#[],by rw[aU (aZ q hn),q];simp⟩⟩
 ·intro b u e
  by_cases hb:b=a
  ·subst hb;rw[fo] at e;cases e;exact new
  ·rw[aU hb] at e
   refine (I.hok b u e).sA (fun c v hcv q=>k c v ?_ q) (fun c q=>by rw[aU (aZ q hn)];exact q) fun c xs q=>by rw[aU (aZ q hn)];exact q
   rcases hcv with z|z
   ·rw[z];exact nin b u e
   ·exact nin c _ z
 ·obtain⟨_,f1,f2,f3,f4,f5⟩:=hc b hb
  exact⟨f3,f1,f4,f5⟩
theorem Inv.HV{X:Cx}{pins:List (Addr×Obj)}{σ:St}{H:Hp}{s:Shared}{h':Heap}{t':Nat}{ch:List Addr}(I:Inv X pins σ H s)(hc:∀b∈ch,rP X pins H b)
  (k:∀b u,b ∉ ch->s.heap.get? b=some u->h'.get? b=some u):Inv X pins σ H {s with heap:=h',toks:=t'}:=by
 have nin:∀b u,H b=some u->b ∉ ch:=fun b u e z=>by rw[(hc b z).1] at e;cases e
 refine I.call (g':=s.gens) (d':=s.drawn) (t':=t') (ch:=ch) ?_ ?_ I.bare fun b hb=>?_
 ·exact⟨fun b u q _ _ x=>k b u x q,fun b u q _ _ x=>⟨u.slots,k b u x q⟩,fun b u q n _=>n,fun b u q x=>⟨u,k b u x q⟩,fun b xs q=>q,fun b u xs q=>q,fun b ps q=>⟨#[],by rw[q];simp⟩⟩
 ·intro b u e
  refine (I.hok b u e).sA (fun c v hcv q=>k c v ?_ q) (fun c q=>q) fun c xs q=>q
  rcases hcv with z|z
  ·rw[z];exact nin b u e
  ·exact nin c _ z
 ·obtain⟨_,f1,f2,f3,f4,f5⟩:=hc b hb
  exact⟨f3,f1,f4,f5⟩
noncomputable def Sb(z TI TO i1 i2 l1 l2:Addr)(i:Nat)(h:Heap):Prop:=IsZip h z TI TO .none/\IsPair h TI (.ref i1) (.ref i2)/\(∃a b,IsPair h TO a b)/\h.IsListIter i1 l1 i/\h.IsListIter i2 l2 i
theorem LY{P:Program}{w:World}{K:PySem.W.Frag}{es:List Expr}{x1:Nat}{pos:Pos}(z TI TO i1 i2 l1 l2:Addr)(D:ZipApart z TI TO i1 i2 l1 l2)(hz1:TI≠l1)(hz2:TI≠l2) :
  Turn true P w K (.Tuple es x1 pos) (Itz K l1 l2) [z,TI,TO,i1,i2] z (Sb z TI TO i1 i2 l1 l2) where
 mem:=by simp
 obj:=fun i h st b hb=>by
  obtain⟨a1,a2,⟨u,v,a3⟩,⟨o4,a4,c4,d4⟩,⟨o5,a5,c5,d5⟩⟩:=st
  simp only[mem_cons,not_mem_nil,or_false] at hb
  rcases hb with rfl|rfl|rfl|rfl|rfl
  ·exact⟨_,a1,fun v z=>by cases z⟩
  ·exact⟨_,a2,fun v z=>by cases z⟩
  ·exact⟨_,a3,fun v z=>by cases z⟩
  ·exact⟨_,a4,fun v z=>by rw[d4] at z;cases z⟩
  ·exact⟨_,a5,fun v z=>by rw[d5] at z;cases z⟩
 keep:=fun i h h' st k=>by
  obtain⟨a1,a2,⟨u,v,a3⟩,a4,a5⟩:=st
  exact⟨k z (by simp) _ a1,k TI (by simp) _ a2,⟨u,v,k TO (by simp) _ a3⟩,a4.at fun o e=>k i1 (by simp) o e,a5.at fun o e=>k i2 (by simp) o e⟩
 item:=by
  intro X hP hw hK hc i pins s σ H E I hf st hg
  subst hP hw hK
  obtain⟨xs,ys,x,y,hq1,hq2,hx,hy⟩:=hg
  obtain⟨its1,rv1,p1,_⟩:=I.list hq1
  obtain⟨its2,rv2,p2,_⟩:=I.list hq2
  obtain⟨u,hu,ru⟩:=rv1.get hx
  obtain⟨v,hv,rv⟩:=rv2.get hy
  obtain⟨a1,a2,⟨c,d,a3⟩,a4,a5⟩:=id st
  refine wpAny_pyNext_zip_item D a1 a2 a3 a4 a5 p1.isList p2.isList (x:=u) (y:=v) (by simpa using hu) (by simpa using hv) fun h' b1 b2 b3 b4 b5 b6 b7=>?_
  refine⟨.ref s.heap.objs.size,rfl,wpAny_letOwnedTupleGo_zip (s:={s with heap:=h'}) b1 fun h2 c1 sb=>?_⟩
  have hT:h2.get? s.heap.objs.size=some {cls:=.type "tuple",data:=.seq #[u,v]}:=sb.extBut _ _ (Nat.ne_of_gt (Heap.lt_size a1)) b5
  refine⟨.ref s.heap.objs.size,upd H s.heap.objs.size (.tup [x,y]),?_,rfl,⟨s.heap.objs.size,x,y,rfl,I.hok.fresh (Nat.le_refl _),rfl,fun zs hz=>by rw[I.vc hz hq1];exact hx,fun zs hz=>by rw[I.vc hz hq2];exact hy⟩,?_,fun b hb=>?_⟩
  ·refine Inv.yH (s:=s) (h':=h2) (t':=s.toks) (ch:=[z,TI,TO,i1,i2]) I hf (fun b o hb e=>?_) (Nat.le_refl _) ⟨by show 2<=sizeLine;decide,[u,v],.cons ru (.cons rv .nil),_,hT,rfl,0,rfl⟩
   simp only[mem_cons,not_mem_nil,or_false,not_or] at hb
   exact sb.extBut _ _ hb.1 (b7 b o hb.1 hb.2.2.1 hb.2.2.2.1 hb.2.2.2.2 e)
  ·have k2:∀b o,b≠z->h'.get? b=some o->h2.get? b=some o:=fun b o hb e=>sb.extBut _ _ hb e
   exact⟨c1,k2 _ _ D.TIz (b7 _ _ D.TIz D.TITO D.TIi1 D.TIi2 a2),⟨_,_,k2 _ _ D.TOz b2⟩,b3.at fun o e=>k2 _ o D.i1z e,b4.at fun o e=>k2 _ o D.i2z e⟩
  ·have hb':b<s.heap.objs.size:=by
    simp only[mem_cons,not_mem_nil,or_false] at hb
    obtain⟨o4,e4,_⟩:=a4
    obtain⟨o5,e5,_⟩:=a5
    rcases hb with rfl|rfl|rfl|rfl|rfl
    ·exact Heap.lt_size a1
    ·exact Heap.lt_size a2
    ·exact Heap.lt_size a3
    ·exact Heap.lt_size e4
    ·exact Heap.lt_size e5
   rw[aU (ne_of_lt hb')]
   exact (hf b hb).1
 done:=by
  intro X hP hw hK hc i pins s σ H E I hf st hg
  subst hP hw hK
  obtain⟨xs,ys,hq1,hq2,hx⟩:=hg
  obtain⟨its1,rv1,p1,_⟩:=I.list hq1
  obtain⟨its2,rv2,p2,_⟩:=I.list hq2
  obtain⟨a1,a2,⟨c,d,a3⟩,a4,a5⟩:=id st
  have hl1:=rv1.length
  have hl2:=rv2.length
  refine wpAny_pyNext_zip_end (I.ok.hd (hc rfl)) D a1 a2 a3 a4 a5 p1.isList p2.isList ?_ fun h' b7=>⟨rfl,?_⟩
  ·rcases hx with z|z
   ·exact .inl (by simp;omega)
   ·exact .inr (by simp;omega)
  ·refine Inv.HV (t':=s.toks) (ch:=[z,TI,TO,i1,i2]) I hf fun b o hb e=>?_
   simp only[mem_cons,not_mem_nil,or_false,not_or] at hb
   exact b7 b o hb.1 hb.2.2.1 hb.2.2.2.1 hb.2.2.2.2 e
 self:=fun _ _ _ _ _ st h=>wpAny_pyIter_zip st.1 h
section
variable {X:Cx}{es:List Expr}{x1:Nat}{tpos:Pos}
noncomputable def SX(K:PySem.W.Frag)(ta:TA):TI:=fun σ H R=>ta σ H fun vs H1=>∃l1 l2,vs=[.ref l1,.ref l2]/\(∃xs,SqL K H1 l1 xs)/\(∃ys,SqL K H1 l2 ys)/\R (Itz K l1 l2) H1
theorem Ql{a b:Expr}{ta:TA}{p pos:Pos}(hc:X.calm=true)(hg:Gl X "zip")(hm:X.mg "zip"=none)(ha:PA X [a,b] ta)(hs:starEach [a,b] X.env=[(false,eval a X.env),(false,eval b X.env)]:=by rfl)(hs2:starEach [b] X.env=[(false,eval b X.env)]:=by rfl) :
  PI X (.Tuple es x1 tpos) (.Call (.Name "zip" p) [a,b] [] pos) (SX X.K ta):=by
 intro pins s σ H R I h
 refine Call_ (pV I hg hm PyProof.Rows.Boot.«zip» (PyProof.Rows.callWith_type1 (thn (ha pos pins s σ H _ I h) fun us s1 hq0=>?_) (by rw[hs,hs2]) (by rw[hs2];rfl)))
 obtain⟨vs,H1,I1,r1,q1⟩:=hq0
 obtain⟨l1,l2,e,⟨xs,hq1⟩,⟨ys,hq2⟩,q⟩:=q1
 subst e
 cases r1 with
 |cons r rr=>
  cases rr with
  |cons r' rr=>
   cases rr
   cases r
   cases r'
   obtain⟨its1,rv1,p1,_⟩:=I1.list hq1
   obtain⟨its2,rv2,p2,_⟩:=I1.list hq2
   have n1:l1<s1.heap.objs.size:=by obtain⟨_,e,_⟩:=p1.isList;exact Heap.lt_size e
   have n2:l2<s1.heap.objs.size:=by obtain⟨_,e,_⟩:=p2.isList;exact Heap.lt_size e
   refine call_zip_2 p1.isList p2.isList fun h' hz hTI hTO hi1 hi2 hsz hk=>?_
   refine wpAny_pyIter_zip (s:={s1 with heap:=h'}) hz ?_
   refine⟨s1.heap.objs.size+4,[s1.heap.objs.size+4,s1.heap.objs.size+2,s1.heap.objs.size+3,s1.heap.objs.size,s1.heap.objs.size+1],_,_,H1,rfl,I1.kept (t':=s1.toks) hk,(LY _ _ _ _ _ l1 l2 (zipApart_new n1 n2) (Nat.ne_of_gt (lt_of_lt_of_le n1 (le_add_right _ 2))) (Nat.ne_of_gt (lt_of_lt_of_le n2 (le_add_right _ 2)))).calm hc,⟨hz,hTI,⟨_,_,hTO⟩,hi1,hi2⟩,fun b hb=>?_,q⟩
   have hb':s1.heap.objs.size<=b:=by
    simp only[mem_cons,not_mem_nil,or_false] at hb
    rcases hb with rfl|rfl|rfl|rfl|rfl
    ·exact le_add_right _ 4
    ·exact le_add_right _ 2
    ·exact le_add_right _ 3
    ·exact Nat.le_refl _
    ·exact le_add_right _ 1
   exact I1.Gr hb' (I1.hok.fresh hb')
noncomputable def tI:List PyData->List PyData->List PyData
 |x::xs,y::ys=>.tuple [x,y]::tI xs ys
 |_,_=>[]
theorem ER:∀{xs ys:List PyData} {i:Nat} {x y:PyData},xs[i]? = some x->ys[i]? = some y->(tI xs ys)[i]? = some (.tuple [x,y])
 |_::_,_::_,0,x,y,h,g=>by simp at h g;subst h g;rfl
 |_::xs,_::ys,i+1,x,y,h,g=>ER (xs:=xs) (ys:=ys) (i:=i) (by simpa using h) (by simpa using g)
 |[],_,i,x,y,h,_=>by simp at h
 |_::_,[],i,x,y,_,h=>by simp at h
theorem ym:∀(xs ys:List PyData),(tI xs ys).length=min xs.length ys.length
 |[],_=>by simp[tI]
 |_::_,[]=>by simp[tI]
 |_::xs,_::ys=>by simp[tI,ym xs ys]
noncomputable def KG(t:DTA):DTI:=fun ρ Z Q=>t ρ Z fun ds am=>match ds with
 |[.v (.list xs),.v (.list ys)]=>Q (tI xs ys) am
 |_=>False
theorem PB{a b:Expr}{t:DTA}{p pos:Pos}(hg:Gl X "zip")(hm:X.mg "zip"=none)(ha:DA X [a,b] t)(hs:starEach [a,b] X.env=[(false,eval a X.env),(false,eval b X.env)]:=by rfl)(hs2:starEach [b] X.env=[(false,eval b X.env)]:=by rfl)(hc:X.calm=true:=by rfl) :
  DI X (.Tuple es x1 tpos) (.Call (.Name "zip" p) [a,b] [] pos) (KG t):=by
 obtain⟨t1,p1,l1⟩:=ha
 refine⟨_,Ql hc hg hm p1 hs hs2,fun σ H ρ Z Qd R S h k=>?_⟩
 refine l1 σ H ρ Z _ _ S h fun ds us am H1 e1 S1 rs len h1=>?_
 split at h1
 ·rename_i xs ys
  cases rs with
  |cons r1 r2=>
   cases r2 with
   |cons r2 r3=>
    cases r3
    cases r1 with
    |@list a us _ ha hn ra=>
     cases r2 with
     |@list b ws _ hb hm' rb=>
      refine⟨a,b,rfl,⟨us,SqL.of ha⟩,⟨ws,SqL.of hb⟩,k (tI xs ys) am H1 _ e1 S1 (fun be H2 e2 ok2 i=>⟨fun hi=>?_,fun hi=>?_⟩) h1⟩
      ·rw[ym] at hi
       have ha2:=e2.keep _ _ ha hn trivial
       have hb2:=e2.keep _ _ hb hm' trivial
       have i1:i<us.length:=by rw[<- ra.length];omega
       have i2:i<ws.length:=by rw[<- rb.length];omega
       refine⟨⟨us,ws,us[i],ws[i],SqL.of ha2,SqL.of hb2,by simp[i1],by simp[i2]⟩,?_⟩
       rintro v H' ⟨p,x,y,rfl,hp,rfl,hx,hy⟩
       obtain⟨u',h1',h2'⟩:=ra.get (i:=i) (d:=xs[i]'∅) (by simp)
       obtain⟨w',g1',g2'⟩:=rb.get (i:=i) (d:=ys[i]'∅) (by simp)
       have z1:=hx us (SqL.of ha2)
       have z2:=hy ws (SqL.of hb2)
       rw[h1'] at z1
       rw[g1'] at z2
       cases z1
       cases z2
       refine⟨.tuple [xs[i]'∅,ys[i]'∅],ER (by simp) (by simp),zN hp,?_⟩
       exact fJ ok2 (.cons (h2'.ext S1.mu e2) (.cons (g2'.ext S1.mu e2) .nil)) hp
      ·rw[ym] at hi
       have l1:=ra.length
       have l2:=rb.length
       exact⟨us,ws,SqL.of (e2.keep _ _ ha hn trivial),SqL.of (e2.keep _ _ hb hm' trivial),∅⟩
 ·exact h1.elim
theorem Dv{t:DTA}{ρ:Rho}{Z:Mu}{Q:List PyData->Mu->Prop}:KG t ρ Z Q=t ρ Z fun ds am=>match ds with|[.v (.list xs),.v (.list ys)]=>Q (tI xs ys) am|_=>False:=propext Iff.rfl
end
section
variable {X:Cx}{a b e:Expr}{es:List Expr}{ta tb te:DTE}{t:DTA}{p pos:Pos}
noncomputable def u5:List D->Mu->DK->Prop:=fun xs Z Q=>match xs with
 |[.v (.list ys)]=>Q (.v (.tuple ys)) Z
 |[.v (.tuple ys)]=>Q (.v (.tuple ys)) Z
 |[.m l]=>(match Z l with|some ys=>Q (.v (.tuple ys)) Z|none=>False)
 |_=>False
theorem MG{K:PySem.W.Frag}:oN K (fun xs H Q=>∃p ys,xs=[.ref p]/\((SqL K H p ys/\∀l,H l=none->Q (.ref l) (upd H l (.tup ys)))\/(SqT K H p ys/\Q (.ref p) H))) u5:=by
 intro xs us H Z Qd Q ok rs h k
 unfold u5 at h
 split at h
 ·cases rs with
  |cons r1 r2=>
   cases r2
   cases r1 with
   |list hs hn r=>exact⟨_,_,rfl,.inl ⟨SqL.of hs,fun l hl=>k (.v _) _ Z _ (dj hl) (ok.new hl) (fJ ok r hl) h⟩⟩
 ·cases rs with
  |cons r1 r2=>
   cases r2
   cases id r1 with
   |tuple hs r=>exact⟨_,_,rfl,.inr ⟨hs,k (.v _) _ Z H .refl ok r1 h⟩⟩
 ·cases rs with
  |cons r1 r2=>
   cases r2
   obtain⟨rfl,ds,hm⟩:=r1
   rw[hm] at h
   obtain⟨us,hl,r⟩:=ok _ ds hm
   exact⟨_,_,rfl,.inl ⟨SqL.of hl,fun l hl'=>k (.v _) _ Z _ (dj hl') (ok.new hl') (fJ ok r hl') h⟩⟩
 ·exact h.elim
theorem ME(hg:Gl X "tuple")(hm:X.mg "tuple"=none)(ha:DA X (e::es) t)
  (he:starEach (e::es) X.env=(false,eval e X.env)::starEach es X.env:=by rfl) (hpl:(backTo pos (starEach es X.env)).any (·.1)=false:=by rfl):DE X (.Call (.Name "tuple" p) (e::es) [] pos) (dCB u5 t):=
 qW An MG hg hm PyProof.Rows.Boot.«tuple» ha ⋯ ⋯ he hpl
theorem zl{l:Addr}{Z:Mu}{Q:DK}:u5 [.m l] Z Q=(match Z l with|some ys=>Q (.v (.tuple ys)) Z|none=>False):=propext Iff.rfl
noncomputable def D1:D->D->Mu->DK->Prop:=fun x y Z Q=>match x,y with
 |.v (.list xs),.v (.int k)=>(0<=k/\k<=1000/\xs.length*k.toNat<=1000)/\Q (.v (.list (List.replicate k.toNat xs).flatten)) Z
 |_,_=>False
theorem RpL.rep{K:PySem.W.Frag}{Z:Mu}{H:Hp}{ds:List PyData}{us:List V}(r:RpL K Z H ds us):∀n:Nat,RpL K Z H (List.replicate n ds).flatten (List.replicate n us).flatten
 |0=>.nil
 |n+1=>by rw[replicate_succ,flatten_cons,replicate_succ,flatten_cons];exact r.append (RpL.rep r n)
theorem Qm{K:PySem.W.Frag}:gj K Se D1:=by
 intro x y ux uy H Z Qd Q ok rx ry h k
 unfold D1 at h
 split at h
 ·rename_i xs n
  cases ry
  cases rx with
  |@list a us _ ha hn ra=>exact⟨a,n,us,rfl,rfl,ha,∅,∅,xX (by rw[<- ra.length];exact h.1.2.2),fun p hp=>k (.v _) _ Z _ (dj hp) (ok.new hp) (fT ok (ra.rep _) hp) h.2⟩
 ·exact h.elim
theorem O8(ha:DE X a ta)(hb:DE X b tb):DE X (.BinOp a .Mult b pos) (dOp D1 ta tb):=wZ O5 Qm ha hb
theorem Ll{xs:List PyData}{k:Int}{Z:Mu}{Q:DK}:D1 (.v (.list xs)) (.v (.int k)) Z Q=((0<=k/\k<=1000/\xs.length*k.toNat<=1000)/\Q (.v (.list (List.replicate k.toNat xs).flatten)) Z):=propext Iff.rfl
end
theorem cl1{k:Str}{v:Addr}{r:List (Str×Addr)}{x:Str}{a:Addr}(h:List.lookup x [(k,v)]=some a):List.lookup x ((k,v)::r)=some a:=by
 simp only[lookup_cons] at h ⊢
 cases e:x==k with
 |true=>rw[e] at h;exact h
 |false=>rw[e] at h;exact absurd h (by simp)
theorem cl2{k k':Str}{v v':Addr}{r:List (Str×Addr)}{x:Str}{a:Addr}(n:(k==k')=false)(h:List.lookup x [(k,v)]=some a):List.lookup x ((k',v')::(k,v)::r)=some a:=by
 have g:=cl1 (r:=r) h
 simp only[lookup_cons] at h
 cases e:x==k with
 |true=>
  have e':x=k:=by simpa using e
  subst e'
  rw[lookup_cons,n]
  exact g
 |false=>rw[e] at h;exact absurd h (by simp)
section
variable {X:Cx}{e:Expr}{es:List Expr}{t:DTA}{p pos:Pos}
noncomputable def Mn:List PyData->Option (List Int)
 |[]=>some []
 |.int b::r=>(Mn r).map (b::·)
 |_::_=>none
end
section
variable {X:Cx}{e tg:Expr}{te:DTE}{td:DTS}{pos:Pos}
noncomputable def Kx(te:DTE)(g:DTG)(tb:DTS):DTS:=fun Dd ρ Z=>te ρ Z fun d am=>match d with
 |.m l=>∃xs,am l=some xs/\∃Pv:Nat->Rho->Mu->Prop,Pv 0 ρ am/\(∀i bv U,Pv i bv U->U l=some xs) /\
   (∀i x bv U,xs[i]? = some x->Pv i bv U->g (.v x) bv U fun dL be=>tb {Dd with nx:=Pv (i+1),ct:=Pv (i+1),bk:=Dd.nx} dL be)/\(∀bv U,Pv xs.length bv U->Dd.nx bv U)
 |_=>False
theorem N6{body:List Stmt}{g:DTG}(hp:PassesOwn (model X.prog X.w) X.A X.env X.xe)(hc:X.calm=true)(hi:DE X e te)(hg:DG X tg g)(hb:DSs X body td)
  (hs:∀x,foldedSetIterable e X.env x=pure x:=by intro _;rfl):DS X (.For tg e body [] pos) (Kx te g td):=by
 obtain⟨t0,p0,l0⟩:=hi
 obtain⟨t1,p1,l1⟩:=hg
 obtain⟨t2,p2,l2⟩:=hb
 refine⟨_,LS hp hc (Dw p0) p1 p2 hs,fun σ H ρ Z Dd De S h k1 k2 k3 k4=>?_⟩
 refine l0 σ H ρ Z _ _ S h fun d u am H1 e1 S1 r h1=>?_
 split at h1
 ·rename_i l
  obtain⟨xs,hl,Pv,pv0,sA,turn,fin⟩:=h1
  obtain⟨rfl,_⟩:=r
  obtain⟨us0,hus0,_⟩:=S1.mu l xs hl
  refine⟨l,rfl,⟨us0,SqL.of hus0⟩,?_⟩
  refine⟨fun i m ca H'=>m=xs.length-i/\i<=xs.length/\∃bv U,Ext X.K am H1 U H'/\St0 X.K H' bv U ca/\Pv i bv U,⟨xs.length,by simp,zero_le _,ρ,am,.refl,S1,pv0⟩,?_⟩
  rintro i m ca H' ⟨rfl,hi,bv,U,e2,S2,pv⟩
  obtain⟨us,hus,ra⟩:=S2.mu l xs (sA i bv U pv)
  by_cases hlt:i<xs.length
  ·have hiu:i<us.length:=by rw[<- ra.length];exact hlt
   refine .inr ⟨⟨us,us[i],SqL.of hus,by simp[hiu]⟩,fun v6 H2=>∃dL be,Ext X.K am H1 be H2/\St0 X.K H2 dL be v6/\Pv (i+1) dL be,fun v6 H2 q=>⟨xs.length-(i+1),∅,rfl,hlt,q⟩,fun x H2 yl=>?_⟩
   obtain⟨eH,hx⟩:=yl
   subst eH
   obtain⟨u',h1',h2'⟩:=ra.get (i:=i) (d:=xs[i]) (by simp[hlt])
   have hx':=hx us (SqL.of hus)
   rw[h1'] at hx'
   cases hx'
   refine l1 ca H2 bv U (.v xs[i]) _ _ _ S2 h2' (turn i xs[i] bv U (by simp[hlt]) pv) fun wS wr dl H4 e4 S4 h4=>?_
   have nxt:∀a b c dd,Ext X.K dl H4 c dd->St0 X.K dd b c a->Pv (i+1) b c->∃dL be,Ext X.K am H1 be dd/\St0 X.K dd dL be a/\Pv (i+1) dL be:=fun a b c dd e5 S5 q=>⟨b,c,e2.trans (e4.trans e5),S5,q⟩
   have ee:=e1.trans (e2.trans e4)
   exact l2 wS H4 wr dl _ _ S4 h4 nxt (fun a b c d e5=>k2 a b c d (ee.trans e5)) (fun a b c d e5=>k1 a b c d (ee.trans e5)) nxt
  ·have ei:i=xs.length:=by omega
   subst ei
   exact .inl ⟨⟨us,SqL.of hus,by rw[<- ra.length];omega⟩,k1 ca bv U H' (e1.trans e2) S2 (fin bv U pv)⟩
 ·exact h1.elim
theorem QR{g:DTG}{tb:DTS}{Dd:BN}{ρ:Rho}{Z:Mu}:Kx te g tb Dd ρ Z=te ρ Z fun d am=>match d with
 |.m l=>∃xs,am l=some xs/\∃Pv:Nat->Rho->Mu->Prop,Pv 0 ρ am/\(∀i bv U,Pv i bv U->U l=some xs) /\
   (∀i x bv U,xs[i]? = some x->Pv i bv U->g (.v x) bv U fun dL be=>tb {Dd with nx:=Pv (i+1),ct:=Pv (i+1),bk:=Dd.nx} dL be)/\(∀bv U,Pv xs.length bv U->Dd.nx bv U)
 |_=>False:=propext Iff.rfl
end
section
variable {X:Cx}{a b c:Expr}{ta tb tc:DTE}{pos:Pos}
theorem MZ{op op':CmpOp}{rr rr':R2}{r r':D->D->Mu->DK->Prop}(ho:OpR X (compareOp op) rr)(lo:gj X.K rr r)(ho':OpR X (compareOp op') rr')(lo':gj X.K rr' r')(ha:DE X a ta)(hb:DE X b tb)(hc:DE X c tc)
  (hm:lastMarks [op,op'] [b,c]=false:=by with_unfolding_all rfl):DT X (.Compare a [op,op'] [b,c] pos) (dB (HA r r' ta tb tc)):=by
 obtain⟨t1,p1,l1⟩:=ha
 obtain⟨t2,p2,l2⟩:=hb
 obtain⟨t3,p3,l3⟩:=hc
 refine⟨_,LL ho ho' p1 p2 p3 hm,vN (fun σ H ρ Z Qd Q S h k=>?_)⟩
 refine l1 σ H ρ Z _ _ S h fun x ux am H1 e1 S1 rx h1=>?_
 refine l2 σ H1 ρ am _ _ S1 h1 fun y uy be H2 e2 S2 ry h2=>?_
 refine lo x y ux uy H2 be _ _ S2.mu (rx.ext S1.mu e2) ry h2 fun z uz bi H3 e3 ok3 rz h3=>?_
 have S3:St0 X.K H3 ρ bi σ:=⟨ok3,S2.rho.ext S2.mu e3⟩
 split at h3
 ·rename_i kk
  cases rz
  refine⟨kk,rfl,?_⟩
  cases kk with
  |true=>
   refine AL ?_
   refine l3 σ H3 ρ bi _ _ S3 (by simpa using h3) fun w uw dl H4 e4 S4 rw' h4=>?_
   exact lo' y w uy uw H4 dl _ _ S4.mu ((ry.ext S2.mu e3).ext S3.mu e4) rw' h4 fun d u U H' e5 ok r q=>k d u U H' (e1.trans (e2.trans (e3.trans (e4.trans e5)))) ⟨ok,S4.rho.ext S4.mu e5⟩ r q
  |false=>exact AW (k (.v (.bool false)) _ bi H3 (e1.trans (e2.trans e3)) S3 (Rp.bool false) (by simpa using h3))
 ·exact h3.elim
theorem cl3{k k':Str}{v v':Addr}{x:Str}{a:Addr}(n:(k==k')=false)(h:List.lookup x [(k,v),(k',v')]=some a):List.lookup x [(k',v'),(k,v)]=some a:=by
 simp only[lookup_cons,List.lookup_nil] at h ⊢
 cases e:x==k with
 |true=>
  have e':x=k:=by simpa using e
  subst e'
  rw[e] at h
  rw[n]
  exact h
 |false=>
  rw[e] at h
  cases e2:x==k' with
  |true=>rw[e2] at h;exact h
  |false=>rw[e2] at h;exact absurd h (by simp)
end
section
variable {X:Cx}{o e:Expr}{to te:DTE}{apos cpos pos:Pos}
noncomputable def TH(to:DTE):DTE:=fun ρ Z Q=>to ρ Z fun x am=>match x with
 |.m l=>(match am l with
  |some xs=>∃d,xs[xs.length-1]? = some d/\Q (.v d) (aE am l xs.dropLast)
  |none=>False)
 |_=>False
theorem RpL.eraseIdx{K:PySem.W.Frag}{Z:Mu}{H:Hp}:∀{ds:List PyData} {us:List V} (i:Nat),RpL K Z H ds us->RpL K Z H (ds.eraseIdx i) (us.eraseIdx i)
 |_,_,_,.nil=>.nil
 |_,_,0,.cons _ t=>t
 |_,_,i+1,.cons h t=>.cons h (RpL.eraseIdx i t)
noncomputable def HQ(to te:DTE):DTE:=fun ρ Z Q=>to ρ Z fun x am=>match x with
 |.m l=>te ρ am fun y be=>(match y,be l with
  |.v (.int i),some xs=>(0<=i/\i<1000)/\∃d,xs[i.toNat]? = some d/\Q (.v d) (aE be l (xs.eraseIdx i.toNat))
  |_,_=>False)
 |_=>False
theorem RZ{i:Int}{n:Nat}(h0:0<=i)(h:i.toNat<n):seqIndex? i n=some i.toNat:=by
 unfold seqIndex?
 simp only[Option.ite_none_right_eq_some,Option.some.injEq]<;>first|(split<;>(try split)<;>simp_all<;>omega)|(constructor<;>omega)|omega
theorem Ky(ho:DE X o to)(ha:DE X e te)(hbase:attributeBase o "pop" X.env (eval o X.env)=eval o X.env:=by rfl)
  (hfew:((backTo cpos (starEach [e] X.env)).all (fun x=>!x.1)&&(backToKw cpos (keywordEach [] X.env)).all (fun x=>x.1.isSome)
   && decide ([e].length+([]:List Keyword).length+(if ([]:List Keyword).isEmpty then 0 else 1)<30))=true:=by rfl)
  (hline:(apos.endLine==cpos.line)=true:=by rfl) (hs:starEach [e] X.env=(false,eval e X.env)::starEach [] X.env:=by rfl) (hplain:(backTo cpos (starEach [] X.env)).any (·.1)=false:=by rfl) :
  DE X (.Call (.Attribute o "pop" apos) [e] [] cpos) (HQ to te):=by
 obtain⟨t1,p1,l1⟩:=ho
 obtain⟨t2,p2,l2⟩:=ha
 refine⟨_,HX plainAttrs_list PySem.F.slot_list_pop PySem.F.type_list_pop L1 p1 (lH p2 vm hs) hbase hfew hline hs hplain,fun σ H ρ Z Qd Q S h k=>?_⟩
 refine l1 σ H ρ Z _ _ S h fun x ux am H1 e1 S1 rx h1=>?_
 cases x with
 |m l=>
  obtain⟨rfl,ds,hm⟩:=id rx
  obtain⟨us,hl,rl⟩:=S1.mu l ds hm
  refine⟨.inl ⟨rfl,us,SqL.of hl⟩,?_⟩
  refine l2 σ H1 ρ am _ _ S1 h1 fun y uy be H2 e2 S2 ry h2=>?_
  obtain⟨_,ds2,hm2⟩:=rx.ext S1.mu e2
  obtain⟨us2,hl2,rl2⟩:=S2.mu l ds2 hm2
  rw[hm2] at h2
  split at h2
  ·rename_i i ds3 e3
   cases e3
   obtain⟨⟨i0,i1⟩,d,hd,q⟩:=h2
   cases ry
   obtain⟨u,hu,ru⟩:=rl2.get hd
   have hlt:i.toNat<us2.length:=by
    rcases lt_or_ge i.toNat us2.length with z|z
    ·exact z
    ·rw[getElem?_eq_none z] at hu;cases hu
   have ex:Ext X.K be H2 (aE be l (ds2.eraseIdx i.toNat)) (upd H2 l (.lst (us2.eraseIdx i.toNat))):=iM hm2
   exact⟨l,us2,i,i.toNat,u,rfl,rfl,hl2,∅,∅,RZ i0 hlt,hu,k (.v d) u _ _ (e1.trans (e2.trans ex)) ⟨S2.mu.set hm2 (rl2.eraseIdx _),S2.rho.ext S2.mu ex⟩ (ru.ext S2.mu ex) q⟩
  ·exact h2.elim
 |v d=>exact h1.elim
 |s ns=>exact h1.elim
 |o _=>exact h1.elim
 |b _=>exact h1.elim
 |q _=>exact h1.elim
noncomputable def IJ:R2:=fun x y H Q=>∃i j,x = .bl i/\y = .bl j/\Q (.bl (!(i==j))) H
theorem BJ:OpR X (compareOp .IsNot) IJ:=by
 intro pins s σ H x y v u Q I rx ry h
 obtain⟨i,j,rfl,rfl,q⟩:=h
 cases rx;cases ry
 exact wpAny_isNot_plain rfl ⟨.bl (!(i==j)),H,I,by cases i<;>cases j<;>rfl,q⟩
noncomputable def vb:D->D->Mu->DK->Prop:=fun x y Z Q=>match x,y with
 |.v (.bool i),.v (.bool j)=>Q (.v (.bool (!(i==j)))) Z
 |_,_=>False
theorem EJ{K:PySem.W.Frag}:gj K IJ vb:=by
 intro x y ux uy H Z Qd Q ok rx ry h k
 unfold vb at h
 split at h
 ·cases rx;cases ry;exact⟨_,_,rfl,rfl,k (.v _) _ Z H .refl ok (Rp.bool _) h⟩
 ·exact h.elim
end
noncomputable def Lp(cells:List (Str×Addr)):List (Str×Addr)->Prop
 |[]=>True
 |(k,v)::r=>cells.lookup k=some v/\Lp cells r
theorem D6{cells:List (Str×Addr)}:Lp cells []:=trivial
theorem hE{cells r:List (Str×Addr)}{k:Str}{v:Addr}(h:cells.lookup k=some v)(t:Lp cells r):Lp cells ((k,v)::r):=⟨h,t⟩
theorem tR{cells:List (Str×Addr)}:∀{cl:List (Str×Addr)},Lp cells cl->∀x a,cl.lookup x=some a->cells.lookup x=some a
 |[],_,_,_,h=>by simp at h
 |(k,v)::r,c,x,a,h=>by
  rw[lookup_cons] at h
  cases e:x==k with
  |true=>
   have e':x=k:=by simpa using e
   rw[e] at h
   subst e'
   rw[c.1];exact h
  |false=>
   rw[e] at h
   exact tR c.2 x a h
noncomputable abbrev DTX:=Rho->Mu->(Mu->Prop)->Prop
noncomputable abbrev XSp:=List D->Mu->(Mu->Prop)->Prop
end L2.DL
namespace L2
open PySem PySem.Spec PyProof.Rows DL
noncomputable def Rz(tabs:List Addr)(H:Hp):Prop:=∀b,H b=none\/(∃o xs,H b=some (.frz o (.lst xs)))\/(b∈tabs/\H b=some (.tbl #[]))
theorem JR{P:Program}{w:World}{K:PySem.W.Frag}{mg mb:Str->Option Value}{CX:CXT}{k:Nat}{fa a:Addr}{fd:FuncData}{x:Str}{sp:Sp}{ci:Shared}{vs:List Value}{ns:List Int}(tabs:List Addr)
  (hT:∀p∈tabs,ci.heap.get? p=some (PySem.W.tabObj #[])/\K.lookup p=none) (hA2:∀c o p q,K.lookup c=some o->dm o=some (p,q)->p∈tabs) (hC:∀p∈tabs,isCodeTable ci.heap p)
  (KX:K.In ci.heap) (hns:ci.heap.Ns mainGlobals mg) (hb:ci.heap.Ns builtinsNs mb) (hbb:∀x:Str,x ≠ "__name__"->mb x=bootBuiltins x) (hlim:ci.heap.NoLimit) (hg:ci.gens = #[])
  (ha:ci.heap.get? a=some {cls:=.type "list",data:=.seq vs.toArray}) (hi:IntsAre vs ns) (hl:ns.length<=sizeLine) (hr:nT k callerA)
  (F:∀base:Heap,K.In base->base.Ns mainGlobals mg->bD P w K mg base CX k fa fd [x] sp) (hbind:∀(s:Shared) (u:Value),BindsTo s fd ⟨[u],[]⟩ [(x,u)])
  (hsp:∀H:Hp,Ea K H->SqL K H a (ns.map V.int)->sp [.ref a] H (fun v _=>v = .bl true) fun _ _ _=>False)
  (hCX:∀H e s',CX [] H ci (fun _ _ _=>False) e s'->False) :
  codeAny (model P w) callerA (.call (.ref fa) ⟨[.ref a],[]⟩) (fun r s'=>r = .ok (.ret (.bool true))/\OldK ci.heap s'.heap/\s'.os=ci.os/\AllBare s'.gens) ci:=by
 have rv:=Bk hi
 have lenV:=hi.length
 have ant:a ∉ tabs:=fun z=>by have:=(hT a z).1;rw[ha] at this;cases this
 have core:∀H:Hp,Rz tabs H->SqL K H a (ns.map V.int)->HOk P w H ci.heap->(∀b,H b≠none->b=a\/b∈tabs)->(H a≠none->K.lookup a=none)->(∀p∈tabs,H p=some (.tbl #[])) ->
   codeAny (model P w) callerA (.call (.ref fa) ⟨[.ref a],[]⟩) (fun r s'=>r = .ok (.ret (.bool true))/\OldK ci.heap s'.heap/\s'.os=ci.os/\AllBare s'.gens) ci:=by
  intro H hO hS hok hA hK hP
  have base_of:∀{b:Addr} {o:Obj},ci.heap.get? b=some o->H b=none->(Cr ci.heap H).get? b=some o:=fun e n=>Ls e n
  have noA:∀{b:Addr} {o:Obj} {es:Array DictEntry} {ep:Nat},ci.heap.get? b=some o->o.data = .dict es ep->H b=none:=fun {b o es ep} e d=>by
   cases q:H b with
   |none=>rfl
   |some u=>
    rcases hA b (by rw[q];simp) with e'|e'
    ·subst e'
     rw[ha] at e;cases e
     have d':Data.seq vs.toArray _=Data.dict es ep:=d
     cases d'
    ·rw[(hT b e').1] at e;cases e
     have d':Data.fields #[]=Data.dict es ep:=d
     cases d'
  have nsK:∀{b:Addr} {m:Str->Option Value},ci.heap.Ns b m->(Cr ci.heap H).Ns b m:=fun {b m} ⟨o,es,ep,e,d,r⟩=>⟨o,es,ep,base_of e (noA e d),d,r⟩
  have hKb:K.In (Cr ci.heap H):=fun b o e=>base_of (KX b o e) (by
   cases q:H b with
   |none=>rfl
   |some u=>
    rcases hA b (by rw[q];simp) with e'|e'
    ·subst e'
     rw[hK (by rw[q];simp)] at e;cases e
    ·have e2:=e;rw[show K.lookup b=none from (hT b e').2] at e2;cases e2)
  have hM:Mod K mg (Cr ci.heap H):=⟨hKb,nsK hns,⟨mb,nsK hb,hbb⟩,let ⟨mc,h1,h2⟩:=hlim;⟨mc,nsK h1,h2⟩⟩
  have e0:N4 P w K mg (Cr ci.heap H) callerA [] ci H:=⟨rfl,hM,fun b o e=>Oj e,Nat.le_of_eq (JP _ _),trivial,fun b hb=>absurd (show b∈([]:List Addr) from hb) (by simp),hok,.of_eq hg⟩
  have tb:Ea K H:=fun c o p q h1 h2=>⟨#[],hP p (hA2 c o p q h1 h2),trivial,fun pos cv e=>by simp[codeAmong] at e⟩
  refine codeAny_mono ((F _ hKb (nsK hns)).run callerA [] ci H ⟨[.ref a],[]⟩ [.ref a] [.ref a] _ _ hr e0 (hbind ci (.ref a)) (.cons rfl .nil) (hsp H tb hS)) fun r s' h=>?_
  cases r with
  |error e=>exact (hCX H e s' h).elim
  |ok fl=>
   cases fl with
   |next=>exact False.elim h
   |brk=>exact False.elim h
   |cont=>exact False.elim h
   |ret u=>
    obtain⟨v,H',os,bare,un,hok',r',q⟩:=h
    have q':v = .bl true:=q
    subst q'
    obtain rfl:u=Value.bool true:=r'
    refine⟨rfl,⟨fun b o e=>?_,fun b o e=>un.there b o e (by simp)⟩,os,bare⟩
    cases q:H b with
    |none=>exact .inl (un.keep b o e q (by intro z;exact absurd (show b∈([]:List Addr) from z) (by simp)) (by simp))
    |some u=>
     rcases hO b with z|⟨ob,xs,z⟩|⟨zt,z⟩
     ·rw[q] at z;cases z
     ·have z2:=un.vJ b ob _ z
      obtain⟨e1,_⟩:=hok b _ z
      obtain⟨e2,_⟩:=hok' b _ z2
      rw[e] at e1;cases e1
      exact .inl e2
     ·obtain⟨more,z2⟩:=un.vX b _ z
      have e2:s'.heap.get? b=some {cls:=.none,data:=.fields (#[]++more)}:=hok' b _ z2
      have e1:=(hT b zt).1
      rw[e] at e1;cases e1
      exact .inr (.inl ⟨hC b zt,rfl,#[],more,rfl,e2⟩)
 have okT:∀p∈tabs,ci.heap.get? p=some {cls:=.none,data:=.fields #[]}:=fun p hp=>(hT p hp).1
 cases hk:K.lookup a with
 |some o=>
  have e:=KX a o hk
  rw[ha] at e
  cases e
  refine core (fun b=>if b∈tabs then some (.tbl #[]) else none) (fun b=>?_) (.inr ⟨_,vs.toArray,_,hk,rfl,rfl,rfl,by rw[size_toArray,lenV];exact hl,by simpa using rv⟩) (fun b u z=>?_) (fun b z=>?_) (fun z=>absurd (if_neg ant) z) (fun p hp=>if_pos hp)
  ·by_cases hb:b∈tabs
   ·exact .inr (.inr ⟨hb,if_pos hb⟩)
   ·exact .inl (if_neg hb)
  ·by_cases hb:b∈tabs
   ·have z':=(if_pos hb).symm.trans z;cases z';exact okT b hb
   ·have z':=(if_neg hb).symm.trans z;cases z'
  ·by_cases hb:b∈tabs
   ·exact .inr hb
   ·exact absurd (if_neg hb) z
 |none=>
  refine core (fun b=>if b=a then some (.frz {cls:=.type "list",data:=.seq vs.toArray} (.lst (ns.map V.int))) else if b∈tabs then some (.tbl #[]) else none) (fun b=>?_) (.inl (.inr ⟨{cls:=.type "list",data:=.seq vs.toArray},if_pos rfl⟩)) (fun b u z=>?_) (fun b z=>?_) (fun _=>hk) (fun p hp=>by
   have:p≠a:=fun y=>ant (by rw[<- y];exact hp)
   exact (if_neg this).trans (if_pos hp))
  ·by_cases hb:b=a
   ·exact .inr (.inl ⟨_,_,if_pos hb⟩)
   ·by_cases hb2:b∈tabs
    ·exact .inr (.inr ⟨hb2,(if_neg hb).trans (if_pos hb2)⟩)
    ·exact .inl ((if_neg hb).trans (if_neg hb2))
  ·by_cases hb:b=a
   ·have z':=(if_pos hb).symm.trans z
    cases z'
    subst hb
    exact⟨ha,by rw[length_map];exact hl,vs,_,rv,ha⟩
   ·by_cases hb2:b∈tabs
    ·have z':=((if_neg hb).trans (if_pos hb2)).symm.trans z;cases z';exact okT b hb2
    ·have z':=((if_neg hb).trans (if_neg hb2)).symm.trans z;cases z'
  ·by_cases hb:b=a
   ·exact .inl hb
   ·by_cases hb2:b∈tabs
    ·exact .inr hb2
    ·exact absurd ((if_neg hb).trans (if_neg hb2)) z
theorem LD{l:PySem.W.OpenLaw}{n k:Nat}{q:Program}{loose:List Str}{XP:(Str->Option Value)->Heap->Prop}{YP:World->Heap->Prop}{d:DefRec}{K:Params->PySem.W.Frag}{CX:World->CXT}{sp:World->Sp}{x:Str}(tabs:List Addr)
  (hn:l.most=some n) (hn2:n<=sizeLine) (hdf:d.params.defaults=[]) (hr:nT k callerA)
  (hY:∀(w:World) (h:Heap),YP w h->(K w.params).In h/\(∀p∈tabs,h.get? p=some (PySem.W.tabObj #[])/\(K w.params).lookup p=none)/\(∀p∈tabs,isCodeTable h p))
  (hA2:∀(w:World) c o p q,(K w.params).lookup c=some o->dm o=some (p,q)->p∈tabs)
  (F:∀(w:World) (mg:Str->Option Value) (fa:Addr) (h:Heap),(K w.params).In h->h.Ns mainGlobals mg->mg d.name=some (.ref fa) ->
   ∃fd:FuncData,(∀(s:Shared) (u:Value),BindsTo s fd ⟨[u],[]⟩ [(x,u)]) /\
    ∀base:Heap,(K w.params).In base->base.Ns mainGlobals mg->bD l.prog w (K w.params) mg base (CX w) k fa fd [x] (sp w))
  (hsp:∀(w:World) (H:Hp) (a:Addr) (ns:List Int),ns.length<=n->Ea (K w.params) H->SqL (K w.params) H a (ns.map V.int)->sp w [.ref a] H (fun v _=>v = .bl true) fun _ _ _=>False)
  (hCX:∀(w:World) (H:Hp) (s:Shared) (e:Value) (s':Shared),CX w [] H s (fun _ _ _=>False) e s'->False) :
  PySem.W.WalkO q loose XP YP l.row.toRowW d [] (fun f vs=>PySem.call f vs):=by
 refine Att.D7 hn hdf fun w io ci mg mb fa o pm cd doc a vs ns G Y ho hd hcd hmg hobj hints hlen hg=>?_
 obtain⟨KX,hT,hC⟩:=hY w _ Y
 obtain⟨fd,hb,hF⟩:=F w mg fa _ KX G.T.g hmg
 exact JR tabs hT (hA2 w) hC KX G.T.g G.T.b G.T.builtins G.T.nolimit hg hobj hints (le_trans hlen hn2) hr hF hb (fun H hO hS=>hsp w H a ns hlen hO hS) fun H e s'=>hCX w H ci e s'
end L2
namespace L2.DL
open PySem PySem.Spec PyProof.Rows
theorem N9{K:PySem.W.Frag}{l:List (Addr×Str)}(h:(K.filterMap fun p=>dm p.2)=l){c:Addr}{o:Obj}{P:Addr}{q:Str}(e:K.lookup c=some o)(e2:dm o=some (P,q)):(P,q)∈l:=by
 rw[<- h]
 have mem:∀(L:List (Addr×Obj)),List.lookup c L=some o->(c,o)∈L:=fun L=>by
  induction L with
  |nil=>intro z;cases z
  |cons a r ih=>
   intro z
   rw[lookup_cons] at z
   by_cases y:c=a.1
   ·rw[y] at z ⊢;simp at z;rw[<- z];exact mem_cons_self
   ·rw[show (c==a.1)=false from by simpa using y] at z
    exact mem_cons_of_mem _ (ih z)
 exact List.mem_filterMap.mpr ⟨(c,o),mem K e,e2⟩
theorem BQ{K:PySem.W.Frag}{h:Heap}{c P:Addr}{o:Obj}{q:Str}(X:K.In h)(l:K.lookup c=some o)(e:dm o=some (P,q)):isCodeTable h P:=by
 have ho:=X _ _ l
 unfold dm at e
 split at e
 ·rename_i cn vs hcls hd
  split at e
  ·rename_i hcn
   subst hcn
   split at e
   ·rename_i e11 e18
    split at e
    ·cases e
     exact⟨c,o,vs,ho,hcls,hd,by assumption⟩
    ·cases e
   ·cases e
  ·cases e
 ·cases e
theorem Js{K:PySem.W.Frag}{c P:Addr}{q:Str}(h:(K.lookup c).bind dm=some (P,q)):∃o,K.lookup c=some o/\dm o=some (P,q):=Option.bind_eq_some_iff.mp h
theorem Cn{K T:PySem.W.Frag}{h:Heap}(X:PySem.W.Frag.In (K++T) h):K.In h:=fun b o e=>X b o (by
 show List.lookup b (K++T)=some o
 rw[List.lookup_append,show List.lookup b K=some o from e];rfl)
section
noncomputable def OT(K:PySem.W.Frag)(J:It)(xs:List PyData)(am:Mu)(H1:Hp):Prop:=∀be H2,Ext K am H1 be H2->bM K be H2->(∀a ds,am a=some ds->be a=some ds)->∀i,(i<xs.length->J.go i H2/\∀x H',J.yld i H2 x H'->∃d,xs[i]? = some d/\zw H2 H'/\Rp K be H' d x)/\(i=xs.length->J.stop i H2)
noncomputable def Pq(K:PySem.W.Frag)(wi:TI)(src:DTI):Prop:=∀(σ:St) (H:Hp) (ρ:Rho) (Z:Mu) (Qd:List PyData->Mu->Prop) (R:It->Hp->Prop),St0 K H ρ Z σ->src ρ Z Qd ->
 (∀xs am H1 J,Ext K Z H am H1->St0 K H1 ρ am σ->OT K J xs am H1->Qd xs am->R J H1)->wi σ H R
noncomputable def DIW(X:Cx)(tg iter:Expr)(src:DTI):Prop:=∃wi,PI X tg iter wi/\Pq X.K wi src
noncomputable def diM(te:DTE):DTI:=fun ρ Z Q=>te ρ Z fun d am=>match d with
 |.m l=>∃xs,am l=some xs/\Q xs am
 |_=>False
theorem SW{te:DTE}{ρ:Rho}{Z:Mu}{Q:List PyData->Mu->Prop}:diM te ρ Z Q=te ρ Z fun d am=>match d with
 |.m l=>∃xs,am l=some xs/\Q xs am
 |_=>False:=propext Iff.rfl
theorem Ta{X:Cx}{e tg:Expr}{te:DTE}(h:DE X e te):DIW X tg e (diM te):=by
 obtain⟨t1,p1,l1⟩:=h
 refine⟨_,Dw p1,fun σ H ρ Z Qd R S h k=>?_⟩
 refine l1 σ H ρ Z _ _ S h fun d u am H1 e1 S1 r h1=>?_
 split at h1
 ·rename_i l
  obtain⟨xs,hl,h1⟩:=h1
  obtain⟨rfl,_⟩:=r
  obtain⟨us0,hus0,_⟩:=S1.mu l xs hl
  refine⟨l,rfl,⟨us0,SqL.of hus0⟩,k xs am H1 _ e1 S1 (fun be H2 e2 ok2 st i=>?_) h1⟩
  obtain⟨us,hus,ra⟩:=ok2 l xs (st l xs hl)
  refine⟨fun hi=>?_,fun hi=>⟨us,SqL.of hus,by rw[<- ra.length];omega⟩⟩
  have hiu:i<us.length:=by rw[<- ra.length];exact hi
  refine⟨⟨us,us[i],SqL.of hus,by simp[hiu]⟩,fun x H' hq0=>?_⟩
  obtain⟨eH,hx⟩:=hq0
  subst eH
  obtain⟨u',h1',h2'⟩:=ra.get (i:=i) (d:=xs[i]) (by simp[hi])
  have:=hx us (SqL.of hus)
  rw[h1'] at this
  cases this
  exact⟨xs[i],by simp[hi],zw.refl _,h2'⟩
 ·exact h1.elim
theorem j4{X:Cx}{N':List Str}{scope:Scope}{cl:List (Str×Addr)}{elt iter tg:Expr}{ifs:List Expr}{pos:Pos}{cap:List (Option Nat)}{src:DTI}{g:DTG}{c:DTT}{te:DTE}(hc:X.calm=X.calm)
  (hi:DIW X tg iter src) (hg:∀fp ce db,DG (aH X N' scope cl fp ce db) tg g) (hif:∀fp ce db,EB (aH X N' scope cl fp ce db) ifs c) (he:∀fp ce db,DE (aH X N' scope cl fp ce db) elt te)
  (hclos:closureFor scope X.env=pure cl) (hcell:∀y∈scope.names,y.2≠.cell) (hkind:scope.kind = .function) (hnames:∀y∈scope.names,y.2 = .local->scope.names.lookup y.1=some .local)
  (hcl:∀x a,cl.lookup x=some a->X.env.cells.lookup x=some a) (hhas:∀x,(relabel scope X.env).names.lookup x=some .cell\/(relabel scope X.env).names.lookup x=some .free->∃a,cl.lookup x=some a)
  (hlen:cap.length=N'.length) (hcap:∀(i j:Nat) (x:Str),cap[i]? = some (some j)->N'[i]? = some x->X.N[j]? = some x/\Vis X.env.scope x/\X.env.kindOf x≠some .local/\((relabel scope X.env).names.lookup x=some .cell\/(relabel scope X.env).names.lookup x=some .free))
  (hs:∀x,foldedSetIterable iter X.env x=pure x:=by intro _;rfl):DE X (.ListComp elt [⟨tg,iter,ifs,0⟩] scope pos) (sY cap src g c te):=by
 refine LR fun pins s σ H ρ Z Qd Q I S h k=>?_
 obtain⟨wi,pw,li⟩:=hi
 rw[eval_ListComp]
 refine wpAny_comprehension_free (use:=none) rfl hs hclos hkind hnames (thn (pw pins s σ H _ I (li σ H ρ Z _ (fun J H1=>∃xs am,Ext X.K Z H am H1/\St0 X.K H1 ρ am σ/\OT X.K J xs am H1/\xs.length<=1000/\∃f:PyData->Option PyData,
   (∀x∈xs,∀U:Mu,(∀a ds,am a=some ds->U a=some ds)->g (.v x) (bE cap ρ) U fun dL be=>Le (bE cap ρ) dL/\c dL be fun b bi=>
    if b=true then te dL bi fun d dl=>dl=U/\(match d with|.v y=>f x=some y|_=>False) else bi=U/\f x=none)/\Qd (.v (.list (xs.filterMap f))) am) S h (fun xs am H1 J e1 S1 it q=>⟨xs,am,e1,S1,it,q⟩)))
  fun v s1 h1=>thn h1 fun itv s2 h2=>?_)
 obtain⟨it,fp,tn,J,H2,rfl,I2,T,st2,f2,xs,am,e1,S1,itok,hxs,f,body,fin⟩:=h2
 refine wpAny_newObj_type (wpAny_newFunctionEnv hcell (by intro y hy;simp at hy) (fun gl kw ld=>?_) hkind)
 dsimp only at kw ld ⊢
 have hfree2:H2 s2.heap.objs.size=none:=I2.hok.fresh (Nat.le_refl _)
 have hK2:X.K.lookup s2.heap.objs.size=none:=by
  cases z:X.K.lookup s2.heap.objs.size with
  |none=>rfl
  |some o=>exact absurd (Heap.lt_size (I2.kIn _ _ z)) (lt_irrefl _)
 have I3:Inv X pins σ (upd H2 s2.heap.objs.size (.lst [])) {s2 with heap:=s2.heap.push {cls:=.type "list",dict:=none,data:=.seq ([]:List Value).toArray}}:=
  I2.laid (t':=s2.toks) (fun b u e=>Heap.get?_push_of_some _ e) (Nat.le_refl _) ⟨zero_le _,[],0,.nil,Heap.get?_push_size _ rfl⟩
 generalize hH:s2.heap.push {cls:=.type "list",dict:=none,data:=.seq ([]:List Value).toArray} = hp3 at kw ld I3 ⊢
 have hsz3:hp3.objs.size=s2.heap.objs.size+1:=by rw[<- hH,Heap.size_push]
 have kept3:∀b o,hp3.get? b=some o->gl.get? b=some o:=fun b o e=>ld.extBut b o (ne_of_lt (Heap.lt_size e)) (Heap.get?_push_of_some _ e)
 have old3:∀b o,s2.heap.get? b=some o->hp3.get? b=some o:=fun b o e=>by rw[<- hH];exact Heap.get?_push_of_some _ e
 have fplt:∀b∈fp,b<s2.heap.objs.size:=fun b hb=>by obtain⟨o,e,_⟩:=T.obj 0 _ st2 b hb;exact Heap.lt_size e
 have fpst:∀b∈fp,b ∉ frs X.stack:=fun b hb hz=>by
  rcases List.mem_cons.mp (I2.lQ b hz) with e|e
  ·exact (f2 b hb).2.1 e
  ·exact (f2 b hb).2.2.1 e
 obtain⟨s3,hs3⟩:∃s3:Shared,s3={s2 with heap:=hp3}:=⟨_,rfl⟩
 obtain⟨H3,hH3⟩:∃H3:Hp,H3=upd H2 s2.heap.objs.size (.lst []):=⟨_,rfl⟩
 have heap3:s3.heap=hp3:=by rw[hs3]
 rw[<- hH3] at I3
 have I3':Inv X pins σ H3 s3:=by rw[hs3];exact I3
 have hloc:H3 hp3.objs.size=none:=by have:=I3'.hok.fresh (a:=hp3.objs.size) (by rw[heap3];exact Nat.le_refl _);exact this
 have okc:(aH X N' scope cl fp s3 H3).Ok:=by
  refine⟨I3.ok.mod,?_,I3.ok.glob,I3.ok.blt,Nat.le_refl _,fun x y a h1 h2=>I3.ok.inj x y a (hcl x a h1) (hcl y a h2),fun x hx=>hhas x hx,fun x a h=>(nomatch h),I3.ok.hd,I3.ok.qt,I3.ok.frames,.inl rfl,fun b hb=>⟨?_,fun x a h=>(f2 b hb).2.2.2.2.1 x a (hcl x a h)⟩,
   I3'.bs,le_trans I3.ok.bsz I3'.sz,fun b o e hb=>?_,fun b hb=>fpst b hb,I3'.stack,I3'.ur⟩
  ·exact hkind
  ·show b≠s3.heap.objs.size
   rw[heap3,hsz3]
   exact ne_of_lt (lt_succ_of_lt (fplt b hb))
  ·rcases (f2 b hb).2.2.2.1 with z|z
   ·exact I3.ok.FD b o e z
   ·exact absurd (lt_of_lt_of_le (Heap.lt_size (I3.ok.bs b o e).1) z) (lt_irrefl _)
 have I4:Inv (aH X N' scope cl fp s3 H3) [] (bE cap σ) H3 {s2 with heap:=gl,toks:=s2.toks+([]:List (Str×Value)).length}:=by
  refine⟨okc,by show s2.os=s3.os;rw[hs3],I3.bare,Un.kept (by show ∀b o,s3.heap.get? b=some o->_;rw[heap3];exact kept3),⟨_,(by show gl.Ns s3.heap.objs.size _;rw[heap3];exact kw),fun i x v e1 e2 e3=>?_⟩,fun x a h=>?_,(by show H3 s3.heap.objs.size=none;rw[heap3];exact hloc),fun x a h=>I3.mT x a (hcl x a h),fun p hp=>?_,I3.hok.kept kept3,?_⟩
  ·obtain⟨j,h1,h2⟩:=pN e2
   obtain⟨hN,hv,hnl,hk⟩:=hcap i j x h1 e1
   obtain⟨m,_,hl⟩:=I3.loc
   obtain⟨u,r,lk⟩:=hl j x v hN h2 hv
   refine⟨u,r,.inr ⟨hk,?_⟩⟩
   obtain⟨a,ha⟩:=hhas x hk
   rcases lk with ⟨z,_⟩|⟨_,a',z1,z2⟩
   ·exact absurd z hnl
   ·have:a'=a:=by have q:=hcl x a ha;rw[z1] at q;exact Option.some.inj q
    subst this
    obtain⟨o,ho,hd⟩:=z2
    exact⟨a',ha,o,kept3 _ _ ho,hd⟩
  ·obtain⟨v,o,ho,hd⟩:=I3.cell x a (hcl x a h)
   exact⟨v,o,kept3 _ _ ho,hd⟩
  ·have hp':p∈X.pn++pins:=mem_append_left _ (by simpa using (show p∈X.pn++[] from hp))
   obtain⟨z1,z2,z3,z4,z5⟩:=I3'.pin p hp'
   refine⟨kept3 _ _ (by rw[<- heap3];exact z1),z2,(show p.1≠s3.heap.objs.size from ne_of_lt (Heap.lt_size z1)),fun z=>?_,z5⟩
   rcases List.mem_cons.mp (I3'.lQ p.1 z) with e|e
   ·exact z3 e
   ·exact z4 e
  ·show (bE cap σ).length=N'.length
   unfold bE
   rw[length_map]
   exact hlen
 have lw:am s2.heap.objs.size=none:=S1.mu.free hfree2
 have sub1:∀ys a ds,am a=some ds->aE am s2.heap.objs.size ys a=some ds:=fun ys a ds e=>by
  have:a≠s2.heap.objs.size:=fun z=>by rw[z,lw] at e;cases e
  rw[aW this];exact e
 have loop:codeAny (model X.prog X.w) X.A (.compLoop (.ListComp elt [⟨tg,iter,ifs,0⟩] scope pos) 0 (.ref it) (.ref s2.heap.objs.size) (aH X N' scope cl fp s3 H3).env)
   (compPost (model X.prog X.w) X.A X.xe none (EP X pins σ Q) (.ref s2.heap.objs.size) hp3.objs.size) {s2 with heap:=gl,toks:=s2.toks+([]:List (Str×Value)).length}:=by
  refine kZ (fun n s'=>∃(i:Nat) (ga:St) (Hc:Hp),n=xs.length-i/\i<=xs.length/\Inv (aH X N' scope cl fp s3 H3) [] ga Hc s'/\tn i s'.heap/\(∀b∈fp,Hc b=none) /\
   St0 X.K Hc (bE cap ρ) (aE am s2.heap.objs.size ((xs.take i).filterMap f)) ga/\Ext X.K am H2 (aE am s2.heap.objs.size ((xs.take i).filterMap f)) Hc) ?_ xs.length
   ⟨0,bE cap σ,H3,by simp,zero_le _,I4,T.keep 0 _ _ st2 (fun b hb o e=>kept3 b o (old3 b o e)),fun b hb=>?_,?_,?_⟩
  ·rintro n s' ⟨i,ga,Hc,rfl,hi,Ic,tc,frc,Sc,Ec⟩
   have stat:∀{Hd:Hp},(∀b∈fp,Hd b=none)->∀b∈fp,rP (aH X N' scope cl fp s3 H3) [] Hd b:=fun hn b hb=>
    ⟨hn b hb,(okc.exf b hb).1,fpst b hb,.inl hb,fun x a h=>(okc.exf b hb).2 x a h,fun p hp=>(f2 b hb).2.2.2.2.2 p (mem_append_left _ (by simpa using (show p∈X.pn++[] from hp)))⟩
   obtain⟨go,stop⟩:=itok _ Hc Ec Sc.mu (sub1 _) i
   by_cases hlt:i<xs.length
   ·obtain⟨g1,y1⟩:=go hlt
    refine thn (T.item (aH X N' scope cl fp s3 H3) rfl rfl rfl (fun z=>z) i [] s' ga Hc (fun _ _=>False) Ic (stat frc) tc g1) fun r s4 hq0=>?_
    obtain⟨u,hr,h4⟩:=hq0
    subst hr
    refine thn h4 fun _ s5 hq0=>?_
    obtain⟨x,H5,I5,r5,y5,st5,fr5⟩:=hq0
    obtain⟨d,hd,sm,rd⟩:=y1 x H5 y5
    have I5':=I5.pinned (stat fr5) (T.obj _ _ st5)
    have e5:Ext X.K _ Hc _ H5:=.of_same (Z:=aE am s2.heap.objs.size ((xs.take i).filterMap f)) sm
    have S5:St0 X.K H5 (bE cap ρ) (aE am s2.heap.objs.size ((xs.take i).filterMap f)) ga:=⟨Sc.mu.HL e5 sm,Sc.rho.ext Sc.mu e5⟩
    obtain⟨gt,pg,lg⟩:=hg fp s3 H3
    have hmem:d∈xs:=mem_of_getElem? hd
    refine thn (pg _ s5 ga H5 x u (fun ca H'=>∃bv U,Ext X.K (aE am s2.heap.objs.size ((xs.take i).filterMap f)) H5 U H'/\St0 X.K H' bv U ca/\Le (bE cap ρ) bv/\c bv U fun b bi=>
      if b=true then te bv bi fun d' dl=>dl=aE am s2.heap.objs.size ((xs.take i).filterMap f)/\(match d' with|.v y=>f d=some y|_=>False) else bi=aE am s2.heap.objs.size ((xs.take i).filterMap f)/\f d=none) I5' r5
     (lg ga H5 (bE cap ρ) _ (.v d) x _ _ S5 rd (body d hmem _ (sub1 _)) fun ca bv U H' e' S' q=>⟨bv,U,e',S',q⟩)) fun _ s6 ⟨im,H6,I6,lf,tt,e6,S6,le6,q6⟩=>?_
    refine thn (hif fp s3 H3 _ s6 im H6 lf tt _ (fun b H'=>∃U,Ext X.K tt H6 U H'/\St0 X.K H' lf U im/\if b=true then te lf U fun d' dl=>dl=aE am s2.heap.objs.size ((xs.take i).filterMap f)/\(match d' with|.v y=>f d=some y|_=>False) else U=aE am s2.heap.objs.size ((xs.take i).filterMap f)/\f d=none)
     I6 S6 q6 fun b U H' e' S' q=>⟨U,e',S',q⟩) fun b s7 ⟨H7,I7,po,e7,S7,q7⟩=>?_
    have again:∀{H9:Hp} {s9:Shared},Inv (aH X N' scope cl fp s3 H3) ([]++sQ fp s5.heap) im H9 s9->bM X.K (aE am s2.heap.objs.size ((xs.take (i+1)).filterMap f)) H9->i5 X.K (aE am s2.heap.objs.size ((xs.take (i+1)).filterMap f)) H9 (bE cap ρ) im ->
      Ext X.K am H2 (aE am s2.heap.objs.size ((xs.take (i+1)).filterMap f)) H9->∃m,m<xs.length-i/\∃(i:Nat) (ga:St) (Hc:Hp),m=xs.length-i/\i<=xs.length/\Inv (aH X N' scope cl fp s3 H3) [] ga Hc s9/\tn i s9.heap/\(∀b∈fp,Hc b=none) /\
       St0 X.K Hc (bE cap ρ) (aE am s2.heap.objs.size ((xs.take i).filterMap f)) ga/\Ext X.K am H2 (aE am s2.heap.objs.size ((xs.take i).filterMap f)) Hc:=fun {H9 s9} I9 m9 r9 e9=>by
     refine⟨xs.length-(i+1),∅,i+1,im,H9,rfl,hlt,I9.fk,T.keep _ _ _ st5 fun b hb o e=>(I9.pin (b,o) (mem_append_right _ (mem_append_right _ (bQ hb e)))).1,fun b hb=>?_,⟨m9,r9⟩,e9⟩
     obtain⟨o,e,_⟩:=T.obj _ _ st5 b hb
     exact (I9.pin (b,o) (mem_append_right _ (mem_append_right _ (bQ hb e)))).2.1
    cases b with
    |false=>
     have q8:po=aE am s2.heap.objs.size ((xs.take i).filterMap f)/\f d=none:=by simpa using q7
     refine AW ?_
     have et:(xs.take (i+1)).filterMap f=(xs.take i).filterMap f:=by rw[CT hd,q8.2];simp
     have tj:aE am s2.heap.objs.size ((xs.take (i+1)).filterMap f)=po:=by rw[et,q8.1]
     refine again I7 (by rw[tj];exact S7.mu) (by rw[tj];exact S7.rho.le le6) ?_
     rw[tj]
     exact Ec.trans (e5.trans (e6.trans e7))
    |true=>
     refine AL ?_
     obtain⟨t8,p8,l8⟩:=he fp s3 H3
     refine thn (p8 _ s7 im H7 (fun v H'=>∃y,Ext X.K po H7 (aE am s2.heap.objs.size ((xs.take i).filterMap f)) H'/\St0 X.K H' lf (aE am s2.heap.objs.size ((xs.take i).filterMap f)) im/\Rp X.K (aE am s2.heap.objs.size ((xs.take i).filterMap f)) H' y v/\f d=some y) I7
      (l8 im H7 lf po _ _ S7 (by simpa using q7) fun d' v sB H8 e8 S8 r8 q8=>?_)) fun v s8 ⟨v8,H8,I8,r8,y,e8,S8,ry,fy⟩=>?_
     ·obtain⟨rfl,q8⟩:=q8
      cases d' with
      |v y=>exact⟨y,e8,S8,r8,q8⟩
      |m _=>exact q8.elim
      |s _=>exact q8.elim
      |o _=>exact q8.elim
      |b _=>exact q8.elim
      |q _=>exact q8.elim
     ·obtain⟨us,hacc,rus⟩:=S8.mu s2.heap.objs.size _ aF
      have hle:((xs.take i).filterMap f).length<=1000:=le_trans (List.length_filterMap_le _ _) (le_trans (by rw[length_take];exact Nat.min_le_right _ _) hxs)
      refine thn (qS (X:=aH X N' scope cl fp s3 H3) _ s8 im H8 (.ref s2.heap.objs.size) [v8] (.ref s2.heap.objs.size) [v] (fun _ H'=>H'=upd H8 s2.heap.objs.size (.lst (us++[v8]))) I8 rfl (.cons r8 .nil) ⟨_,us,v8,rfl,rfl,hacc,by rw[<- rus.length];exact gh hle,rfl⟩) fun _ s9 hq0=>?_
      obtain⟨_,H9,I9,_,e9⟩:=hq0
      subst e9
      have et:(xs.take (i+1)).filterMap f=(xs.take i).filterMap f++[y]:=by rw[CT hd,fy];rfl
      have mset:aE (aE am s2.heap.objs.size ((xs.take i).filterMap f)) s2.heap.objs.size ((xs.take (i+1)).filterMap f)=aE am s2.heap.objs.size ((xs.take (i+1)).filterMap f):=iy
      have ex:Ext X.K (aE am s2.heap.objs.size ((xs.take i).filterMap f)) H8 (aE am s2.heap.objs.size ((xs.take (i+1)).filterMap f)) (upd H8 s2.heap.objs.size (.lst (us++[v8]))):=by
       rw[<- mset]
       exact iM aF
      refine again I9 ?_ ((S8.rho.le le6).ext S8.mu ex) (Ec.trans (e5.trans (e6.trans (e7.trans (e8.trans ex)))))
      rw[<- mset]
      refine S8.mu.set aF ?_
      rw[et]
      exact rus.append (.cons ry .nil)
   ·have ei:i=xs.length:=by omega
    subst ei
    refine thn (T.done (aH X N' scope cl fp s3 H3) rfl rfl rfl (fun z=>z) _ [] s' ga Hc (fun _ _=>False) Ic (stat frc) tc (stop rfl)) fun r s4 hq0=>?_
    obtain⟨hr,I5⟩:=hq0
    subst hr
    rw[take_length] at Sc Ec
    obtain⟨m,hn,_⟩:=I5.loc
    refine⟨m,(by have z:s4.heap.Ns s3.heap.objs.size m:=hn;rw[heap3] at z;exact z),fun h' hs'=>?_⟩
    have kp:∀b o,b<s2.heap.objs.size->s4.heap.get? b=some o->h'.get? b=some o:=fun b o hb e=>hs'.extBut b o (by rw[hsz3];exact ne_of_lt (lt_succ_of_lt hb)) e
    have hcC:Hc hp3.objs.size=none:=by have z:Hc s3.heap.objs.size=none:=I5.free;rw[heap3] at z;exact z
    have hok':HOk X.prog X.w Hc h':=fun b ob e=>by
     refine (I5.hok b ob e).sA (fun cc v hcc q=>hs'.extBut cc v ?_ q) (fun _ q=>q) fun _ _ q=>q
     rintro rfl
     rcases hcc with z|z
     ·rw[<- z,hcC] at e;cases e
     ·rw[hcC] at z;cases z
    have u1:Un (frs X.stack) fp H2 H3 s2.heap s3.heap:=by rw[heap3,hH3];exact Un.laid old3 (Nat.le_refl _) hfree2
    have u2:Un (frs X.stack) fp H3 Hc s3.heap s4.heap:=I5.base
    have If:Inv X pins σ Hc {s4 with heap:=h'}:=I2.Bv (ch:=fp) (by show s4.os=s2.os;have z:s4.os=s3.os:=I5.os;rw[z,hs3]) (Un.after (u1.trans u2) kp) hok' I5.bare fun b hb=>⟨(f2 b hb).2.2.2.1,(f2 b hb).2.1,(f2 b hb).2.2.2.2.1,(f2 b hb).2.2.2.2.2⟩
    obtain⟨us,hacc,rus⟩:=Sc.mu s2.heap.objs.size _ aF
    have shr:∀a,aE am s2.heap.objs.size (xs.filterMap f) a=none->am a=none:=fun a e=>by
     by_cases ha:a=s2.heap.objs.size
     ·rw[ha];exact lw
     ·rw[aW ha] at e;exact e
    have eF:Ext X.K am H2 am Hc:=⟨Ec.keep,Ec.tb,fun _ ds q=>⟨ds,q⟩,fun _ q _=>q,Ec.st,fun _ c q=>⟨c,q⟩⟩
    have mF:bM X.K am Hc:=⟨fun a ds q=>by
     obtain⟨ys,z1,z2⟩:=Sc.mu a ds (sub1 _ a ds q)
     exact⟨ys,z1,z2.shrink shr⟩,Sc.mu.tab,fun a c q=>let ⟨z,o,w1,w2⟩:=Sc.mu.box a c q;⟨z,o,w1,w2.shrink shr⟩⟩
    exact⟨.ref s2.heap.objs.size,Hc,If,rfl,k (.v (.list (xs.filterMap f))) _ am Hc (e1.trans eF) ⟨mF,S1.rho.ext S1.mu eF⟩ (Rp.list hacc lw (rus.shrink shr)) fin⟩
  ·have z:b≠s2.heap.objs.size:=ne_of_lt (fplt b hb)
   rw[hH3,aU z]
   exact (f2 b hb).1
  ·have ex:=iJ (o:=.lst []) (ds:=[]) S1.mu hfree2 hK2
   rw[hH3]
   exact⟨S1.mu.mut .nil hfree2 hK2,(S1.rho.ext S1.mu ex).cap⟩
  ·rw[hH3]
   exact iJ (o:=.lst []) (ds:=[]) S1.mu hfree2 hK2
 have envE:(aH X N' scope cl fp s3 H3).env=compEnvC scope cl hp3.objs.size X.env:=by show compEnvC scope cl s3.heap.objs.size X.env=_;rw[heap3]
 rw[envE] at loop
 exact codeAny_compStart_list loop (T.self X.A 0 _ _ _ (T.keep 0 _ _ st2 (fun b hb o e=>kept3 b o (old3 b o e))) loop)
end
noncomputable def QT(ds:List D):PQ:=fun K u Z H=>∃a us,u = .ref a/\H a=some (.tup us)/\kL K Z H ds us
mutual
theorem Rp.sub{K:PySem.W.Frag}{Z am:Mu}{H:Hp}(h:∀a,am a=none->Z a=none):∀{d:PyData} {u:V},Rp K am H d u->Rp K Z H d u
 |_,_,.none=>.none
 |_,_,.bool b=>.bool b
 |_,_,.int i=>.int i
 |_,_,.str x=>.str x
 |_,_,.list a b c=>.list a (h _ b) (RpL.sub h c)
 |_,_,.tuple a c=>.tuple a (RpL.sub h c)
theorem RpL.sub{K:PySem.W.Frag}{Z am:Mu}{H:Hp}(h:∀a,am a=none->Z a=none):∀{ds:List PyData} {us:List V},RpL K am H ds us->RpL K Z H ds us
 |_,_,.nil=>.nil
 |_,_,.cons a b=>.cons (Rp.sub h a) (RpL.sub h b)
end
structure dO(Z U:Mu):Prop where
 l:∀b ds,Z b=some ds->U b=some ds
 b:∀b c,Z.b b=some c->U.b b=some c
noncomputable instance {Z U:Mu}:CoeFun (dO Z U) fun _=>∀b ds,Z b=some ds->U b=some ds:=⟨dO.l⟩
theorem dO.refl{Z:Mu}:dO Z Z:=⟨fun _ _ e=>e,fun _ _ e=>e⟩
theorem dO.none{Z U:Mu}(h:dO Z U){b:Addr}(e:U b=none):Z b=none:=by
 cases z:Z b with
 |none=>rfl
 |some ds=>rw[h b ds z] at e;cases e
theorem yo{K:PySem.W.Frag}{Z U:Mu}{H:Hp}(ok:bM K U H)(s:dO Z U):bM K Z H:=⟨fun a ds z=>by
 obtain⟨xs,h1,h2⟩:=ok.lst a ds (s a ds z)
 exact⟨xs,h1,h2.sub fun b hb=>s.none hb⟩,ok.tab,fun a c z=>by
 obtain⟨y,o,h1,h2⟩:=ok.box a c (s.b a c z)
 exact⟨y,o,h1,h2.shrink fun b hb=>s.none hb⟩⟩
theorem dO.set{Z U:Mu}{p:Addr}{ds:List PyData}(h:dO Z U)(n:Z p=Option.none):dO Z (aE U p ds):=⟨fun b es e=>by
 have:b≠p:=fun z=>by rw[z,n] at e;cases e
 rw[aW this];exact h b es e,h.b⟩
theorem dO.box{Z U:Mu}{p:Addr}{c:Box}(h:dO Z U)(n:Z.b p=Option.none):dO Z (bo U p c):=⟨h.l,fun b x e=>by
 have:b≠p:=fun z=>by rw[z,n] at e;cases e
 rw[bY this];exact h.b b x e⟩
noncomputable def frz(Z:Mu)(Qd:DK):DK:=fun d U=>match d with
 |.v x=>dO Z U/\Qd (.v x) Z
 |.m a=>(Z a=none/\dO Z U)/\∃es,U a=some es/\Qd (.v (.list es)) Z
 |_=>False
theorem vQ{P:Program}{w:World}{K:PySem.W.Frag}{mg:Str->Option Value}{base:Heap}{CX:CXT}{k:Nat}{f:Addr}{fd:FuncData}{ps:List Str}{sp sp':DSp}(F:bD P w K mg base CX k f fd ps (spD K sp))
  (h:∀ds Z Qd,sp' ds Z Qd->sp ds Z (frz Z Qd)):bD P w K mg base CX k f fd ps (spD K sp'):=by
 refine F.imp fun vs H Q E h'=>?_
 obtain⟨ds,Z,Qd,ok,r,s,kk⟩:=h'
 refine⟨ds,Z,_,ok,r,h _ _ _ s,fun d u U H' e ok' rd q=>?_⟩
 cases d with
 |v x=>
  obtain⟨sb,q⟩:=q
  exact kk (.v x) u Z H' ⟨e.keep,e.tb,fun b ds z=>⟨ds,z⟩,fun _ z _=>z,e.st,fun _ c z=>⟨c,z⟩⟩ (yo ok' sb) (show Rp K Z H' x u from (show Rp K U H' x u from rd).sub fun b hb=>sb.none hb) q
 |m a=>
  obtain⟨⟨n,sb⟩,es,he,q⟩:=q
  obtain⟨rfl,_⟩:=rd
  obtain⟨xs,h1,h2⟩:=ok'.lst a es he
  exact kk (.v (.list es)) (.ref a) Z H' ⟨e.keep,e.tb,fun b ds z=>⟨ds,z⟩,fun _ z _=>z,e.st,fun _ c z=>⟨c,z⟩⟩ (yo ok' sb) (show Rp K Z H' (.list es) (.ref a) from .list h1 n (h2.sub fun b hb=>sb.none hb)) q
 |s ns=>exact q.elim
 |o a=>exact q.elim
 |b a=>exact q.elim
 |q p=>exact q.elim
noncomputable def Sf:R2:=fun x y H Q=>y = .non/\((x = .non/\Q (.bl true) H)\/(∃a,x = .ref a/\Q (.bl false) H))
theorem Il{X:Cx}:OpR X (compareOp .Is) Sf:=by
 intro pins s σ H x y v u Q I rx ry h
 obtain⟨rfl,⟨rfl,q⟩|⟨i,rfl,q⟩⟩:=h
 ·cases rx;cases ry
  exact wpAny_is_plain rfl ⟨.bl true,H,I,rfl,q⟩
 ·cases rx
  cases ry
  exact wpAny_is_plain rfl ⟨.bl false,H,I,rfl,q⟩
noncomputable def Bn:D->D->Mu->DK->Prop:=fun x y Z Q=>match x,y with
 |.v .none,.v .none=>Q (.v (.bool true)) Z
 |.v (.list _),.v .none=>Q (.v (.bool false)) Z
 |_,_=>False
theorem Mw{K:PySem.W.Frag}:gj K Sf Bn:=by
 intro x y ux uy H Z Qd Q ok rx ry h k
 unfold Bn at h
 split at h
 ·cases rx;cases ry;exact⟨rfl,.inl ⟨rfl,k (.v _) _ Z H .refl ok (Rp.bool _) h⟩⟩
 ·cases rx;cases ry;exact⟨rfl,.inr ⟨_,rfl,k (.v _) _ Z H .refl ok (Rp.bool _) h⟩⟩
 ·exact h.elim
theorem MP{Z:Mu}{Q:DK}:Bn (.v .none) (.v .none) Z Q=Q (.v (.bool true)) Z:=propext Iff.rfl
theorem Mt{Z:Mu}{Q:DK}{xs:List PyData}:Bn (.v (.list xs)) (.v .none) Z Q=Q (.v (.bool false)) Z:=propext Iff.rfl
end L2.DL
namespace L2
open PySem PySem.W PyProof.Rows
end L2
namespace L2.DL
open PySem PySem.Spec PyProof.Rows
end L2.DL
namespace L2
open PySem PySem.W PyProof.Rows
section
variable {X:Cx}
theorem Sd{pins:List (Addr×Obj)}{σ:St}{H:Hp}{s:Shared}(I:Inv X pins σ H s):X.K.lookup s.heap.objs.size=none:=by
 cases c:X.K.lookup s.heap.objs.size with
 |none=>rfl
 |some o=>exact absurd (Heap.lt_size (I.kIn _ _ c)) (lt_irrefl _)
theorem G3:j5 X (.type "list") (fun xs H Q=>∃p ys,xs=[.ref p]/\(SqL X.K H p ys\/SqT X.K H p ys)/\∀l,H l=none->X.K.lookup l=none->Q (.ref l) (upd H l (.lst ys))):=by
 intro pins s σ H xs us Q I r h
 obtain⟨p,ys,rfl,hq,q⟩:=h
 have hk:=Sd I
 obtain⟨u,rfl,rx⟩:=vals1 r
 cases rx
 have go:∀(A:Around) (E:Value->Shared->Prop) (its:List Value),Vals ys its->ys.length<=sizeLine->∀(o:Obj) (n:Nat),(o.cls = .type "list"\/o.cls = .type "tuple")->s.heap.get? p=some o->o.data = .seq its.toArray n->wpAny (model X.prog X.w) A (call (.type "list") [.ref p]) (EP X pins σ Q) E s:=fun A E its rv hz o n hc ho hd=>by
  have hlen:=rv.length
  rcases hc with hc|hc
  ·refine call_list_seq p (.inl rfl) ho hc hd (fun h' c' kp e=>⟨.ref s.heap.objs.size,_,I.laid (t':=s.toks) kp (Nat.le_refl _) ?_,rfl,q _ (I.hok.fresh (Nat.le_refl _)) hk⟩) (by rw[size_toArray];omega)
   exact⟨hz,its,c',rv,e⟩
  ·refine call_list_seq p (.inr rfl) ho hc hd (fun h' c' kp e=>⟨.ref s.heap.objs.size,_,I.laid (t':=s.toks) kp (Nat.le_refl _) ?_,rfl,q _ (I.hok.fresh (Nat.le_refl _)) hk⟩) (by rw[size_toArray];omega)
   exact⟨hz,its,c',rv,e⟩
 rcases hq with hq|hq
 ·obtain⟨its,rv,pl,hz⟩:=I.list hq
  obtain⟨o,ho,hc,n,hd⟩:=pl.isList
  exact go _ _ its rv hz o n (.inl hc) ho hd
 ·obtain⟨its,rv,pl,hz⟩:=I.tuple hq
  obtain⟨o,ho,hc,n,hd⟩:=pl
  exact go _ _ its rv hz o n (.inr hc) ho hd
end
end L2
namespace L2.DL
open PySem PySem.Spec PyProof.Rows
noncomputable def Ci:List D->Mu->DK->Prop:=fun xs Z Q=>match xs with
 |[.v (.list ys)]=>∀p,Z p=none->Q (.m p) (aE Z p ys)
 |[.v (.tuple ys)]=>∀p,Z p=none->Q (.m p) (aE Z p ys)
 |[.m a]=>∃ys,Z a=some ys/\∀p,Z p=none->Q (.m p) (aE Z p ys)
 |_=>False
theorem LB{K:PySem.W.Frag}:oN K (fun xs H Q=>∃p ys,xs=[.ref p]/\(SqL K H p ys\/SqT K H p ys)/\∀l,H l=none->K.lookup l=none->Q (.ref l) (upd H l (.lst ys))) Ci:=by
 intro xs us H Z Qd Q ok rs h k
 have fin:∀(ys:List PyData) (vs:List V),RpL K Z H ys vs->(∀p,Z p=none->Qd (.m p) (aE Z p ys))->∀l,H l=none->K.lookup l=none->Q (.ref l) (upd H l (.lst vs)):=fun ys vs r q l hl hk=>
  k (.m l) _ (aE Z l ys) _ (iJ (o:=.lst vs) (ds:=ys) ok hl hk) (ok.mut r hl hk) ⟨rfl,ys,aF⟩ (q l (ok.free hl))
 unfold Ci at h
 split at h
 ·cases rs with
  |cons r1 r2=>
   cases r2
   cases r1 with
   |list hs hn r=>exact⟨_,_,rfl,.inl (SqL.of hs),fin _ _ r h⟩
 ·cases rs with
  |cons r1 r2=>
   cases r2
   cases r1 with
   |tuple hs r=>exact⟨_,_,rfl,.inr hs,fin _ _ r h⟩
 ·cases rs with
  |cons r1 r2=>
   cases r2
   obtain⟨ys,hm,h⟩:=h
   obtain⟨rfl,_⟩:=r1
   obtain⟨vs,hl,r⟩:=ok.lst _ ys hm
   exact⟨_,_,rfl,.inl (SqL.of hl),fin _ _ r h⟩
 ·exact h.elim
theorem LP{X:Cx}{e:Expr}{es:List Expr}{t:DTA}{pos p:Pos}(hg:Gl X "list")(hm:X.mg "list"=none)(ha:DA X (e::es) t)
  (he:starEach (e::es) X.env=(false,eval e X.env)::starEach es X.env:=by rfl) (hpl:(backTo pos (starEach es X.env)).any (·.1)=false:=by rfl):DE X (.Call (.Name "list" p) (e::es) [] pos) (dCB Ci t):=
 qW G3 LB hg hm PyProof.Rows.Boot.«list» ha ⋯ ⋯ he hpl
end L2.DL
namespace L2
open PySem PySem.Spec PyProof.Rows
end L2
namespace L2.DL
open PySem PySem.W PyProof.Rows
open PySem PySem.Spec PyProof.Rows
noncomputable def zQ(Z:Mu)(a:Addr):Mu:=⟨fun b=>if b=a then none else Z b,Z.b⟩
theorem ze{Z:Mu}{a:Addr}:zQ Z a a=none:=if_pos rfl
theorem u7{Z:Mu}{a b:Addr}(h:b≠a):zQ Z a b=Z b:=if_neg h
noncomputable def RO(Z:Mu)(Qd:DK):DK:=fun d U=>match d with
 |.v x=>Qd (.v x) U
 |.m a=>Z a=none/\∃es,U a=some es/\Qd (.v (.list es)) (zQ U a)
 |_=>False
theorem NG{P:Program}{w:World}{K:PySem.W.Frag}{mg:Str->Option Value}{base:Heap}{CX:CXT}{k:Nat}{f:Addr}{fd:FuncData}{ps:List Str}{sp sp':DSp}(F:bD P w K mg base CX k f fd ps (spD K sp))
  (h:∀ds Z Qd,sp' ds Z Qd->sp ds Z (RO Z Qd)):bD P w K mg base CX k f fd ps (spD K sp'):=by
 refine F.imp fun vs H Q E h'=>?_
 obtain⟨ds,Z,Qd,ok,r,s,kk⟩:=h'
 refine⟨ds,Z,_,ok,r,h _ _ _ s,fun d u U H' e ok' rd q=>?_⟩
 cases d with
 |v x=>exact kk (.v x) u U H' e ok' rd q
 |m a=>
  obtain⟨n,es,he,q⟩:=q
  obtain⟨rfl,_⟩:=rd
  obtain⟨xs,h1,h2⟩:=ok'.lst a es he
  have sb:dO (zQ U a) U:=⟨fun b ds z=>by
   by_cases c:b=a
   ·rw[c,ze] at z;cases z
   ·rw[u7 c] at z;exact z,fun _ _ z=>z⟩
  refine kk (.v (.list es)) (.ref a) (zQ U a) H' ⟨e.keep,e.tb,fun b ds z=>?_,fun b z g=>?_,e.st,e.bx⟩ (yo ok' sb) (show Rp K (zQ U a) H' (.list es) (.ref a) from .list h1 ze (h2.sub fun b hb=>sb.none hb)) q
  ·have c:b≠a:=fun c=>by rw[c,n] at z;cases z
   rw[u7 c];exact e.dom b ds z
  ·exact sb.none (e.fresh b z g)
 |s ns=>exact q.elim
 |o a=>exact q.elim
 |b _=>exact q.elim
 |q p=>exact q.elim
end L2.DL
namespace L2
open PySem PySem.Spec PyProof.Rows
end L2
namespace L2.DL
open PySem PySem.Spec PyProof.Rows
end L2.DL
namespace L2
open PySem PySem.Spec PyProof.Rows
section
variable {X:Cx}
noncomputable def Nv:V->List V->Hp->VK->Prop:=fun x vs H Q=>∃(l:Addr) (xs:List V) (i:Nat) (y:V),x = .ref l/\vs=[.int (i:Nat),y]/\H l=some (.lst xs)/\i<=xs.length/\xs.length<=1000/\Q .non (upd H l (.lst (xs.take i++y::xs.drop i)))
theorem Vals.ins{xs:List V}{us:List Value}{y:V}{u:Value}(h:Vals xs us)(r:RelV y u):∀i:Nat,Vals (xs.take i++y::xs.drop i) (us.take i++u::us.drop i):=by
 induction h with
 |nil=>intro i;simp;exact .cons r .nil
 |cons p t ih=>
  intro i
  cases i with
  |zero=>exact .cons r (.cons p t)
  |succ i=>exact .cons p (ih i)
theorem Jx:MtM X "list.insert" Nv:=by
 intro pins s σ H x vs v us Q I rx rv h
 obtain⟨l,xs,i,y,rfl,rfl,hH,hi,hz,q⟩:=h
 cases rx
 obtain⟨u1,u2,rfl,ru1,ru2⟩:=vals2 rv
 obtain⟨t,rfl⟩:=ru1
 obtain⟨z,its,n,r,hl,e⟩:=I.FL hH
 have hs:(1000:Nat)<sizeLine:=by decide
 have fit:Builtin.List.listFitsIndex (i:Int)=true:=by
  unfold Builtin.List.listFitsIndex
  rw[and_eq_true,decide_eq_true_eq,decide_eq_true_eq]
  have p:(2:Int) ^ 63=9223372036854775808:=by decide
  rw[p]
  omega
 obtain⟨x,hx⟩:∃x:Int,x=(i:Int):=⟨_,rfl⟩
 rw[<- hx] at fit ⊢
 have hn:¬ (!Builtin.List.listFitsIndex x)=true:=by rw[fit];exact Bool.false_ne_true
 have hsz:its.toArray.size<=sizeLine:=by rw[size_toArray];omega
 have M:=AutoSeq1.list_insert_list_int_val_1 l its.toArray n x t u2 hn hsz
 refine call_meets F.slot_list_insert ⟨_,e,rfl⟩ F.entry_list_insert (F.args_list_insert_3 _ _ _) M ⟨e,?_⟩
 refine⟨.non,_,I.NU (its':=its.take i++u2::its.drop i) hH e ?_ (Vals.ins r ru2 i) ?_,rfl,q⟩
 ·dsimp only
  rw[if_neg ∅,hx,Int.toNat_natCast,size_toArray,Nat.min_eq_left ∅]
  apply Array.ext'
  simp
  exact List.take_of_length_le (by simp)
 ·simp
  omega
end
end L2
namespace L2.DL
open PySem PySem.Spec PyProof.Rows
section
variable {X:Cx}{o i e:Expr}{to ti te:DTE}{apos cpos:Pos}
theorem RpL.ins{K:PySem.W.Frag}{Z:Mu}{H:Hp}{ds:List PyData}{us:List V}{d:PyData}{u:V}(q:Rp K Z H d u):∀(i:Nat),RpL K Z H ds us->RpL K Z H (ds.take i++d::ds.drop i) (us.take i++u::us.drop i)
 |_,.nil=>by simp;exact .cons q .nil
 |0,.cons p t=>.cons q (.cons p t)
 |i+1,.cons p t=>.cons p (RpL.ins q i t)
noncomputable def Jy(to ti te:DTE):DTE:=fun ρ Z Q=>to ρ Z fun x am=>match x with
 |.m l=>ti ρ am fun z be=>te ρ be fun y bi=>∃(j:Nat) (d:PyData) (xs:List PyData),z = .v (.int (j:Nat))/\y = .v d/\bi l=some xs/\j<=xs.length/\xs.length<=1000/\Q (.v .none) (aE bi l (xs.take j++d::xs.drop j))
 |_=>False
theorem BG(ho:DE X o to)(hi:DE X i ti)(ha:DE X e te)(hbase:attributeBase o "insert" X.env (eval o X.env)=eval o X.env:=by rfl)
  (hfew:((backTo cpos (starEach [i,e] X.env)).all (fun x=>!x.1)&&(backToKw cpos (keywordEach [] X.env)).all (fun x=>x.1.isSome)
   && decide ([i,e].length+([]:List Keyword).length+(if ([]:List Keyword).isEmpty then 0 else 1)<30))=true:=by rfl)
  (hline:(apos.endLine==cpos.line)=true:=by rfl) (hs:starEach [i,e] X.env=(false,eval i X.env)::starEach [e] X.env:=by rfl) (hs2:starEach [e] X.env=(false,eval e X.env)::starEach [] X.env:=by rfl) (hplain:(backTo cpos (starEach [e] X.env)).any (·.1)=false:=by rfl) :
  DE X (.Call (.Attribute o "insert" apos) [i,e] [] cpos) (Jy to ti te):=by
 obtain⟨t1,p1,l1⟩:=ho
 obtain⟨t3,p3,l3⟩:=hi
 obtain⟨t2,p2,l2⟩:=ha
 refine⟨_,HX plainAttrs_list PySem.F.slot_list_insert PySem.F.type_list_insert Jx p1 (lH p3 (lH p2 vm hs2) hs) hbase hfew hline hs hplain,fun σ H ρ Z Qd Q S h k=>?_⟩
 refine l1 σ H ρ Z _ _ S h fun x ux am H1 e1 S1 rx h1=>?_
 cases x with
 |m l=>
  obtain⟨rfl,ds,hm⟩:=id rx
  obtain⟨us,hl,rl⟩:=S1.mu l ds hm
  refine⟨.inl ⟨rfl,us,SqL.of hl⟩,?_⟩
  refine l3 σ H1 ρ am _ _ S1 h1 fun z uz be H2 e2 S2 rz h2=>?_
  refine l2 σ H2 ρ be _ _ S2 h2 fun y uy bi H3 e3 S3 ry h3=>?_
  obtain⟨j,d,xs,rfl,rfl,hx,hj,hz,q⟩:=h3
  obtain⟨us3,hl3,rl3⟩:=S3.mu l xs hx
  cases rz
  refine⟨l,us3,j,uy,rfl,rfl,hl3,by rw[<- rl3.length];exact hj,by rw[<- rl3.length];exact hz,?_⟩
  have ex:Ext X.K bi H3 (aE bi l (xs.take j++d::xs.drop j)) (upd H3 l (.lst (us3.take j++uy::us3.drop j))):=iM hx
  exact k (.v .none) .non _ _ (e1.trans (e2.trans (e3.trans ex))) ⟨S3.mu.set hx (rl3.ins ry j),S3.rho.ext S3.mu ex⟩ Rp.none q
 |v d=>exact h1.elim
 |s _=>exact h1.elim
 |o _=>exact h1.elim
 |b _=>exact h1.elim
 |q _=>exact h1.elim
theorem OJ{ρ:Rho}{Z:Mu}{Q:DK}:Jy to ti te ρ Z Q=to ρ Z (fun x am=>match x with
 |.m l=>ti ρ am fun z be=>te ρ be fun y bi=>∃(j:Nat) (d:PyData) (xs:List PyData),z = .v (.int (j:Nat))/\y = .v d/\bi l=some xs/\j<=xs.length/\xs.length<=1000/\Q (.v .none) (aE bi l (xs.take j++d::xs.drop j))
 |_=>False):=propext Iff.rfl
end
end L2.DL
namespace L2
open PySem PySem.Spec PyProof.Rows
section
variable {X:Cx}
noncomputable def Q8(x y:Str):Int:=match Builtin.Str.lastOccurrence x y 0 x.length with|some i=>(i:Nat)|none=>-1
end
end L2
namespace L2
open PySem PySem.Spec PyProof.Rows
end L2
namespace L2
open PySem PySem.Spec PyProof.Rows
end L2
namespace L2.DL
open PySem PySem.Spec PyProof.Rows
section
variable {X:Cx}{a b e e1 e2 o:Expr}{es:List Expr}{ta tb te to:DTE}{t:DTA}{pos p p2 apos cpos:Pos}{lo hi:Option Expr}
noncomputable def Nb(x y:Str):Bool:=decide (0+y.length<=x.length)&&Builtin.Str.subAt x y 0
noncomputable def R1(x y:Str):Bool:=decide (0+y.length<=x.length)&&Builtin.Str.subAt x y (x.length-y.length)
end
section
variable {X:Cx}{a b e e1 e2 o tg:Expr}{es:List Expr}{ta tb te to:DTE}{t:DTA}{pos p p2 apos cpos:Pos}{lo hi:Option Expr}
noncomputable abbrev DTJ:=Str->Rho->Mu->(Str->Mu->Prop)->Prop
end
section
variable {X:Cx}{e o:Expr}{te to:DTE}{apos cpos:Pos}
noncomputable def Np(x y:Str):PyData:=.bool (Nb x y)
noncomputable def Sa(x y:Str):PyData:=.bool (R1 x y)
noncomputable def Q1(x y:Str):PyData:=.int (Q8 x y)
end
noncomputable def Ite(K:PySem.W.Frag)(l:Addr):It:=
 ⟨fun i H=>∃xs x,SqL K H l xs/\xs[i]? = some x,
  fun i H v H'=>∃p x,v = .ref p/\H p=none/\H'=upd H p (.tup [.int i,x])/\(∀xs,SqL K H l xs->xs[i]? = some x),
  fun i H=>∃xs,SqL K H l xs/\xs.length<=i⟩
noncomputable def Qs(e it l:Addr)(i:Nat)(h:Heap):Prop:=(∃old,IsEnum h e it i old)/\h.IsListIter it l i
theorem JB{P:Program}{w:World}{K:PySem.W.Frag}{es:List Expr}{x1:Nat}{pos:Pos}(e it l:Addr)(hei:e≠it) :
  Turn true P w K (.Tuple es x1 pos) (Ite K l) [e,it] e (Qs e it l) where
 mem:=by simp
 obj:=fun i h st b hb=>by
  obtain⟨⟨old,a1⟩,⟨o4,a4,c4,d4⟩⟩:=st
  simp only[mem_cons,not_mem_nil,or_false] at hb
  rcases hb with rfl|rfl
  ·exact⟨_,a1,fun v z=>by cases z⟩
  ·exact⟨_,a4,fun v z=>by rw[d4] at z;cases z⟩
 keep:=fun i h h' st k=>by
  obtain⟨⟨old,a1⟩,a4⟩:=st
  exact⟨⟨old,k e (by simp) _ a1⟩,a4.at fun o e=>k it (by simp) o e⟩
 item:=by
  intro X hP hw hK hc i pins s σ H E I hf st hg
  subst hP hw hK
  obtain⟨xs,x,hq1,hx⟩:=hg
  obtain⟨its1,rv1,p1,_⟩:=I.list hq1
  obtain⟨u,hu,ru⟩:=rv1.get hx
  obtain⟨⟨old,a1⟩,a4⟩:=id st
  refine wpAny_pyNext_enum_item a1 a4 p1.isList (x:=u) (by simpa using hu) hei fun h' b1 b2 b3 b4 b5=>?_
  refine⟨.ref s.heap.objs.size,rfl,wpAny_letOwnedTupleGo_enum (s:={s with heap:=h',toks:=s.toks+1}) b1 fun h2 c1 sb=>?_⟩
  have hne:s.heap.objs.size≠e:=Nat.ne_of_gt (Heap.lt_size a1)
  have hT:h2.get? s.heap.objs.size=some {cls:=.type "tuple",data:=.seq #[.int i s.toks,u]}:=sb.extBut _ _ hne b3
  refine⟨.ref s.heap.objs.size,upd H s.heap.objs.size (.tup [.int i,x]),?_,rfl,⟨s.heap.objs.size,x,rfl,I.hok.fresh (Nat.le_refl _),rfl,fun zs hz=>by rw[I.vc hz hq1];exact hx⟩,?_,fun b hb=>?_⟩
  ·refine Inv.yH (s:=s) (h':=h2) (t':=s.toks+1) (ch:=[e,it]) I hf (fun b o hb e=>?_) (Nat.le_refl _) ⟨by show 2<=sizeLine;decide,[.int i s.toks,u],.cons ⟨_,rfl⟩ (.cons ru .nil),_,hT,rfl,0,rfl⟩
   simp only[mem_cons,not_mem_nil,or_false,not_or] at hb
   exact sb.extBut _ _ hb.1 (b5 b o hb.1 hb.2 e)
  ·exact⟨⟨_,by simpa using c1⟩,b2.at fun o e=>sb.extBut _ o (Ne.symm hei) e⟩
  ·have hb':b<s.heap.objs.size:=by
    simp only[mem_cons,not_mem_nil,or_false] at hb
    obtain⟨o4,e4,_⟩:=a4
    rcases hb with rfl|rfl
    ·exact Heap.lt_size a1
    ·exact Heap.lt_size e4
   rw[aU (ne_of_lt hb')]
   exact (hf b hb).1
 done:=by
  intro X hP hw hK hc i pins s σ H E I hf st hg
  subst hP hw hK
  obtain⟨xs,hq1,hx⟩:=hg
  obtain⟨its1,rv1,p1,_⟩:=I.list hq1
  obtain⟨⟨old,a1⟩,a4⟩:=id st
  have hl1:=rv1.length
  refine wpAny_pyNext_enum_end (I.ok.hd (hc rfl)) a1 a4 p1.isList (by simp;omega) fun h' b7=>⟨rfl,?_⟩
  refine Inv.HV (t':=s.toks) (ch:=[e,it]) I hf fun b o hb e=>?_
  simp only[mem_cons,not_mem_nil,or_false,not_or] at hb
  exact b7 b o hb.2 e
 self:=fun _ _ _ _ _ st h=>by
  obtain⟨⟨old,a1⟩,_⟩:=st
  exact wpAny_pyIter_enum a1 h
section
variable {X:Cx}{es:List Expr}{x1:Nat}{tpos:Pos}
noncomputable def RS(K:PySem.W.Frag)(ta:TA):TI:=fun σ H R=>ta σ H fun vs H1=>∃l,vs=[.ref l]/\(∃xs,SqL K H1 l xs)/\R (Ite K l) H1
theorem Ot{a:Expr}{ta:TA}{p pos:Pos}(hc:X.calm=true)(hg:Gl X "enumerate")(hm:X.mg "enumerate"=none)(ha:PA X [a] ta)(hs:starEach [a] X.env=[(false,eval a X.env)]:=by rfl) :
  PI X (.Tuple es x1 tpos) (.Call (.Name "enumerate" p) [a] [] pos) (RS X.K ta):=by
 intro pins s σ H R I h
 refine Call_ (pV I hg hm PyProof.Rows.Boot.«enumerate» (PyProof.Rows.callWith_type1 (thn (ha pos pins s σ H _ I h) fun us s1 hq0=>?_) (by rw[hs];rfl) (by rfl)))
 obtain⟨vs,H1,I1,r1,q1⟩:=hq0
 obtain⟨l1,e,⟨xs,hq1⟩,q⟩:=q1
 subst e
 cases r1 with
 |cons r rr=>
  cases rr
  cases r
  obtain⟨its1,rv1,p1,_⟩:=I1.list hq1
  refine call_enumerate_list p1.isList fun h' hz hi1 hsz hk=>?_
  refine wpAny_pyIter_enum (s:={s1 with heap:=h'}) hz ?_
  refine⟨s1.heap.objs.size+1,[s1.heap.objs.size+1,s1.heap.objs.size],_,_,H1,rfl,I1.kept (t':=s1.toks) hk,(JB _ _ l1 (Nat.succ_ne_self _)).calm hc,⟨⟨_,hz⟩,hi1⟩,fun b hb=>?_,q⟩
  have hb':s1.heap.objs.size<=b:=by
   simp only[mem_cons,not_mem_nil,or_false] at hb
   rcases hb with rfl|rfl
   ·exact le_add_right _ 1
   ·exact Nat.le_refl _
  exact I1.Gr hb' (I1.hok.fresh hb')
noncomputable def ki:Nat->List PyData->List PyData
 |_,[]=>[]
 |i,x::xs=>.tuple [.int i,x]::ki (i+1) xs
theorem vV:∀{xs:List PyData} {j i:Nat} {x:PyData},xs[i]? = some x->(ki j xs)[i]? = some (.tuple [.int ((j+i:Nat):Int),x])
 |_::_,j,0,x,h=>by simp at h;subst h;rfl
 |_::xs,j,i+1,x,h=>by
  have:=vV (xs:=xs) (j:=j+1) (i:=i) (x:=x) (by simpa using h)
  rw[show j+1+i=j+(i+1) by omega] at this
  exact this
 |[],j,i,x,h=>by simp at h
theorem vq:∀(j:Nat) (xs:List PyData),(ki j xs).length=xs.length
 |_,[]=>rfl
 |j,_::xs=>by show (ki (j+1) xs).length+1=xs.length+1;rw[vq]
noncomputable def zA(t:DTA):DTI:=fun ρ Z Q=>t ρ Z fun ds am=>match ds with
 |[.v (.list xs)]=>Q (ki 0 xs) am
 |_=>False
theorem DB{a:Expr}{t:DTA}{p pos:Pos}(hg:Gl X "enumerate")(hm:X.mg "enumerate"=none)(ha:DA X [a] t)(hs:starEach [a] X.env=[(false,eval a X.env)]:=by rfl)(hc:X.calm=true:=by rfl) :
  DI X (.Tuple es x1 tpos) (.Call (.Name "enumerate" p) [a] [] pos) (zA t):=by
 obtain⟨t1,p1,l1⟩:=ha
 refine⟨_,Ot hc hg hm p1 hs,fun σ H ρ Z Qd R S h k=>?_⟩
 refine l1 σ H ρ Z _ _ S h fun ds us am H1 e1 S1 rs len h1=>?_
 split at h1
 ·rename_i xs
  cases rs with
  |cons r1 r2=>
   cases r2
   cases r1 with
   |@list a us _ ha hn ra=>
    refine⟨a,rfl,⟨us,SqL.of ha⟩,k (ki 0 xs) am H1 _ e1 S1 (fun be H2 e2 ok2 i=>⟨fun hi=>?_,fun hi=>?_⟩) h1⟩
    ·rw[vq] at hi
     have ha2:=e2.keep _ _ ha hn trivial
     have i1:i<us.length:=by rw[<- ra.length];omega
     refine⟨⟨us,us[i],SqL.of ha2,by simp[i1]⟩,?_⟩
     rintro v H' ⟨p,x,rfl,hp,rfl,hx⟩
     obtain⟨u',h1',h2'⟩:=ra.get (i:=i) (d:=xs[i]'∅) (by simp)
     have z1:=hx us (SqL.of ha2)
     rw[h1'] at z1
     cases z1
     have eg:=vV (xs:=xs) (j:=0) (i:=i) (x:=xs[i]'∅) (by simp)
     rw[Nat.zero_add] at eg
     refine⟨.tuple [.int i,xs[i]'∅],eg,zN hp,?_⟩
     exact fJ ok2 (.cons (Rp.int _) (.cons (h2'.ext S1.mu e2) .nil)) hp
    ·rw[vq] at hi
     have l1:=ra.length
     exact⟨us,SqL.of (e2.keep _ _ ha hn trivial),∅⟩
 ·exact h1.elim
theorem Mj{t:DTA}{ρ:Rho}{Z:Mu}{Q:List PyData->Mu->Prop}:zA t ρ Z Q=t ρ Z fun ds am=>match ds with|[.v (.list xs)]=>Q (ki 0 xs) am|_=>False:=propext Iff.rfl
end
open PySem PySem.Spec PyProof.Rows NM
theorem oP{n m:Nat}{i j:Int}(h:Sz n i)(g:Sz m j)(l:n+m<=100000):IntMulOk i j:=by
 have b1:∀{k:Nat} {z:Int},Sz k z->Builtin.Int.intBits z<=k:=fun {k z} hz=>by
  unfold Builtin.Int.intBits
  split
  ·exact zero_le _
  ·rename_i q
   have hz':z.natAbs≠0:=by simp at q;omega
   have:=(Nat.log2_lt hz').mpr hz.lt
   omega
 have e1:=b1 h
 have e2:=b1 g
 unfold IntMulOk
 intro z
 simp only[and_eq_true] at z
 have z3:=z.2
 unfold Builtin.Int.intTooBig at z3
 simp only[decide_eq_true_eq] at z3
 have:(100000:Int)<=bitsLine:=by decide
 omega
theorem yR{n:Nat}{i j:Int}(h0:j≠0)(h:Sz n j)(l:n<=8900):wC i j:=by
 refine⟨h0,PyProof.noPylong_of_log2 ?_⟩
 have hz':j.natAbs≠0:=by omega
 have:=(Nat.log2_lt hz').mpr h.lt
 omega
theorem divC{i j:Int}(h0:j≠0)(h1:j.natAbs<1073741824):wC i j:=⟨h0,PyProof.noPylong_small h1⟩
theorem mulL{i j:Int}(h:i.natAbs<2 ^ 64):IntMulOk i j:=N1.ok (.inl ∅)
theorem mulR{i j:Int}(h:j.natAbs<2 ^ 64):IntMulOk i j:=N1.ok (.inr ∅)
noncomputable def dN(x:N3):PyData:=.tuple [.int x.a,.int x.b,.int x.c]
noncomputable def isWhole(d:PyData):Bool:=isT "int" d&&!isT "bool" d
noncomputable def isNum:PyData->Bool
 |.tuple [.int a,.int b,.int c]=>decide (1<=c)&&(g3 a b c==1)
 |_=>false
noncomputable def jH:DSp:=fun ds Z Q=>∃d,ds=[.v d]/\Q (.v (.bool (isWhole d))) Z
noncomputable def pX:DSp:=fun ds Z Q=>∃a b:Int,ds=[.v (.int a),.v (.int b)]/\Q (.v (.int (Int.gcd a b:Nat))) Z
noncomputable def yw:DSp:=fun ds Z Q=>∃a b c:Int,ds=[.v (.int a),.v (.int b),.v (.int c)]/\Q (.v (.int (g3 a b c:Nat))) Z
noncomputable def Few:PyData->Prop
 |.tuple xs=>xs.length<=1000
 |_=>True
noncomputable def lS:DSp:=fun ds Z Q=>∃d,ds=[.v d]/\Few d/\Q (.v (.bool (isNum d))) Z
noncomputable def eK:DSp:=fun ds Z Q=>∃a b c:Int,ds=[.v (.int a),.v (.int b),.v (.int c)]/\c≠0/\Sz 8800 c/\Q (.v (dN (low a b c))) Z
noncomputable def qL:DSp:=fun ds Z Q=>∃x:N3,ds=[.v (dN x)]/\Q (.v (dN (minus x))) Z
noncomputable def sp2(f:N3->N3->N3):DSp:=fun ds Z Q=>∃x y:N3,ds=[.v (dN x),.v (dN y)]/\Ok x/\Ok y/\Bd 4300 x/\Bd 4300 y/\Q (.v (dN (f x y))) Z
noncomputable abbrev ix:DSp:=sp2 plus
noncomputable abbrev yG:DSp:=sp2 less
noncomputable def uJ:DSp:=fun ds Z Q=>∃d a b:Int,ds=[.v (.int d),.v (.int a),.v (.int b)]/\Sz 5 d/\Sz 9900 a/\Sz 9900 b/\Q (.v (.int (sg d a b))) Z
noncomputable def iF:DSp:=fun ds Z Q=>∃(d:Int) (x:N3),ds=[.v (.int d),.v (dN x)]/\aM d/\Bd 8900 x/\Q (.v (.int (sg d x.a x.b))) Z
noncomputable def dif(d:Int)(x y:N3):Int:=sg d (x.a*y.c-y.a*x.c) (x.b*y.c-y.b*x.c)
noncomputable def xO:DSp:=fun ds Z Q=>∃(d:Int) (x y:N3),ds=[.v (.int d),.v (dN x),.v (dN y)]/\aM d/\Bd 4400 x/\Bd 4400 y/\Q (.v (.bool (decide (dif d x y=1)))) Z
noncomputable def x5:DSp:=fun ds Z Q=>∃(d:Int) (x y:N3),ds=[.v (.int d),.v (dN x),.v (dN y)]/\aM d/\Ok x/\Ok y/\Bd 4300 x/\Bd 4300 y/\Q (.v (.bool (decide (dif d y x=1)))) Z
noncomputable def Bag(Z:Mu)(a:Addr):Prop:=∃g m:Int,Z a=some [.int g,.int m]/\0<=g/\0<=m/\m<2147483648
noncomputable def Step(a:Addr)(Z U:Mu):Prop:=Bag U a/\∀b,b≠a->U b=Z b
noncomputable def HW:DSp:=fun ds Z Q=>∃(ns:List Int) (k:Int),ds=[.s ns,.v (.int k)]/\0<=k/\k<=1000/\∀p U,Z p=none->Step p Z U->Q (.m p) U
noncomputable def bL:DSp:=fun ds Z Q=>∃(a:Addr) (n:Int),ds=[.m a,.v (.int n)]/\1<=n/\n<=1000000000/\Bag Z a/\∀r U,0<=r->r<n->Step a Z U->Q (.v (.int r)) U
noncomputable def ue:DSp:=fun ds Z Q=>∃a:Addr,ds=[.m a]/\Bag Z a/\∀d U,aM d->Step a Z U->Q (.v (.int d)) U
theorem Step.trans{a:Addr}{Z am be:Mu}(h:Step a Z am)(g:Step a am be):Step a Z be:=⟨g.1,fun b n=>(g.2 b n).trans (h.2 b n)⟩
theorem Step.set{a:Addr}{Z:Mu}{g m:Int}(h1:0<=g)(h2:0<=m)(h3:m<2147483648):Step a Z (aE Z a [.int g,.int m]):=⟨⟨g,m,aF,h1,h2,h3⟩,fun b n=>aW n⟩
def mkW(s:String):Lean.MacroM (Lean.TSyntax `tactic):=do let a<-(s.splitOn " ").toArray.mapM fun t=>if t.front=='↓' then `(Lean.Parser.Tactic.simpLemma|↓$(Lean.mkIdent (t.drop 1).toName):term) else `(Lean.Parser.Tactic.simpLemma|$(Lean.mkIdent t.toName):term);`(tactic|simp only[$a,*])
local macro_rules|`(tactic| walk_at "rd")=>mkW "↓Hy ↓HU ↓GL ↓FV ↓Ga ↓HG ↓Hz ↓Gg ↓GV ↓GD ↓CM ↓q_c ↓Rt ↓q_B ↓QM ↓MN ↓Lu ↓KQ ↓OM ↓HC ↓Kr ↓Hf ↓Sg ↓LW ↓Gm ↓Mp ↓Mr ↓GK ↓MD ↓KS ↓LK ↓Ml ↓Lv ↓GN ↓GH ↓GW ↓CP ↓BV ↓DC ↓Hb ↓BO ↓zI ↓K1 ↓MT ↓M5 ↓Ge ↓Hn ↓Qy ↓yv ↓HJ ↓KH ↓Rl ↓FW ↓HD ↓Ha ↓Gv ↓KU ↓Q4 ↓HM ↓DD ↓MC ↓MH ↓KI ↓CH ↓G6 ↓C7 ↓GI ↓G7 ↓OV ↓K8 ↓GQ ↓Lc ↓Mm ↓Ho ↓OW ↓BZ ↓KJ ↓K2 ↓K6 ↓Hg ↓zP ↓Dm ↓zm ↓yJ ↓Dv ↓zl ↓Ll tI ↓rJ ↓nS Hm G5 Mi L4 LX Option.bind_none bind_some join_some List.getElem?_cons_zero List.getElem?_cons_succ aR dN va Bg Bw Fd Ib List.map List.append List.replicate length_cons length_nil Nat.reduceAdd Nat.reduceSub List.nil_append cons_append List.set_cons_zero List.set_cons_succ map_some ↓reduceIte Bool.not_true Bool.not_false false_eq_true Bool.true_eq_false xor_false false_xor"
noncomputable def lr:DTS:=
 (bb (kE (wx "int" (ah 0)) (KN (wx "bool" (ah 0)))))
noncomputable def gK:DTS:=
 (aN (sG (dB (dOp (de true) (ah 1) (dC (.int 0)))) (yI 0 1 (ag (ah 1) (ag (yF (ah 0) (ah 1)) ar))))
 (bb (dCB tW (ag (ah 0) ar))))
noncomputable def gZ:DTS:=
 (bb (ay pX (ag (ay pX (ag (ah 2) (ag (ah 0) ar))) (ag (ah 1) ar))))
noncomputable def jY:DTS:=
 (aN (yI 0 1 (ag (dCB tW (ag (ah 0) ar)) (ag (dCB tW (ag (ah 1) ar)) ar)))
 (aN (sG (dB (dOp rGt (ah 1) (dC (.int 0)))) (yI 0 1 (ag (ah 1) (ag (yF (ah 0) (ah 1)) ar))))
 (bb (ah 0))))
section
theorem Ih(x:Int){y:Int}(h:y≠0):(x.fmod y).natAbs<y.natAbs:=by
 have e:=Int.mul_fdiv_add_fmod x y
 have:=Int.fmod_def x y
 rcases Int.lt_or_gt_of_ne h with h|h
 ·have k:=Int.neg_fmod_neg (a:=x) (b:=y)
  have h1:=Int.fmod_nonneg_of_pos (-x) (show 0 < -y by omega)
  have h2:=Int.fmod_lt_of_pos (-x) (show 0 < -y by omega)
  omega
 ·have h1:=Int.fmod_nonneg_of_pos x h
  have h2:=Int.fmod_lt_of_pos x h
  omega
theorem D4(x y:Int):Int.gcd y (x.fmod y)=Int.gcd x y:=by
 have e:=Int.mul_fdiv_add_fmod x y
 have e':x.fmod y=x+y*(-(x.fdiv y)):=by rw[Int.mul_neg];omega
 rw[e',Int.gcd_add_mul_left_right,Int.gcd_comm]
theorem wG{Z Qd ds}(h:jH ds Z Qd):lr ‹Qd› (aR ["thing"] ds) Z:=by
 obtain⟨d,rfl,q⟩:=h
 unfold lr
 walk_at "rd"
 unfold isWhole at q
 cases hb:isT "int" d<;>simp_all
theorem uW{Z Qd ds}(h:pX ds Z Qd):gK ‹Qd› (aR ["a","b"] ds) Z:=by
 obtain⟨a,b,rfl,q⟩:=h
 unfold gK
 walk_at "rd"
 refine⟨fun m ρ U=>∃x y:Int,ρ=[some (.v (.int x)),some (.v (.int y))]/\m=y.natAbs/\Int.gcd x y=Int.gcd a b/\U=Z,⟨_,a,b,rfl,rfl,rfl,rfl⟩,?_⟩
 rintro m ρ U ⟨x,y,rfl,rfl,hg,rfl⟩
 walk_at "rd"
 by_cases hy:y=0
 ·subst hy
  have e:Int.gcd x 0=x.natAbs:=Int.gcd_zero_right x
  rw[<- hg,e] at q
  simpa using q
 ·have z:(true ^^ decide (y=0))=true:=by simp[hy]
  rw[if_pos z]
  exact⟨hy,_,Ih x hy,y,x.fmod y,rfl,rfl,(D4 x y).trans hg,trivial⟩
theorem zu{Z Qd ds}(h:pX ds Z Qd):jY ‹Qd› (aR ["_law_one","_law_other"] ds) Z:=by
 obtain⟨a,b,rfl,q⟩:=h
 unfold jY
 walk_at "rd"
 refine⟨fun m ρ U=>∃x y:Int,ρ=[some (.v (.int x)),some (.v (.int y))]/\m=y.natAbs/\0<=x/\0<=y/\Int.gcd x y=Int.gcd a b/\U=Z,⟨_,_,_,rfl,rfl,∅,∅,by simp[Int.gcd],rfl⟩,?_⟩
 rintro m ρ U ⟨x,y,rfl,rfl,hx,hy,hg,rfl⟩
 walk_at "rd"
 by_cases h0:0<y
 ·rw[if_pos (by simpa using h0)]
  have hy':y≠0:=by omega
  exact⟨hy',_,Ih x hy',y,x.fmod y,rfl,rfl,∅,Int.fmod_nonneg_of_pos x h0,(D4 x y).trans hg,trivial⟩
 ·rw[if_neg (by simpa using h0)]
  have e:y=0:=by omega
  subst e
  rw[Int.gcd_zero_right] at hg
  have:x=((Int.gcd a b:Nat):Int):=by omega
  rw[this]
  exact q
theorem tp{Z Qd ds}(h:yw ds Z Qd):gZ ‹Qd› (aR ["a","b","c"] ds) Z:=by
 obtain⟨a,b,c,rfl,q⟩:=h
 unfold gZ
 walk_at "rd"
 rw[<- Ow] at q
 exact⟨c,a,rfl,_,b,rfl,q⟩
end
noncomputable def vC:DTS:=
 (aN (cj (dB (dOp (de false) (ah 2) (dC (.int 0)))) GF bz)
 (aN (ba (ay yw (ag (ah 0) (ag (ah 1) (ag (ah 2) ar)))) (ao 3))
 (aN (cj (dB (dOp rLt (ah 2) (dC (.int 0)))) (ba (vB (ah 3)) (ao 3)) bz)
 (bb (aY (ag (xw (ah 0) (ah 3)) (ag (xw (ah 1) (ah 3)) (ag (xw (ah 2) (ah 3)) ar))))))))
noncomputable def pA:DTS:=
 (aN (ba (eI (ay pX (ag (ay pX (ag (ah 0) (ag (ah 1) ar))) (ag (ah 2) ar))) (dOp aQ (nA (ag (dC (.int 1)) (ag (vB (dC (.int 1))) ar))) (dCB uP (ag (dOp rLt (ah 2) (dC (.int 0))) ar)))) (ao 3))
 (bb (aY (ag (xw (ah 0) (ah 3)) (ag (xw (ah 1) (ah 3)) (ag (xw (ah 2) (ah 3)) ar))))))
noncomputable def ma:DTS:=
 (bb (aY (ag (mH (dC (.int 0)) (dOp aQ (ah 0) (dC (.int 0)))) (ag (mH (dC (.int 0)) (dOp aQ (ah 0) (dC (.int 1)))) (ag (dOp aQ (ah 0) (dC (.int 2))) ar)))))
noncomputable def C5:DTS:=
 (bb (ay eK (ag (dc (eI (dOp aQ (ah 0) (dC (.int 0))) (dOp aQ (ah 1) (dC (.int 2)))) (eI (dOp aQ (ah 1) (dC (.int 0))) (dOp aQ (ah 0) (dC (.int 2))))) (ag (dc (eI (dOp aQ (ah 0) (dC (.int 1))) (dOp aQ (ah 1) (dC (.int 2)))) (eI (dOp aQ (ah 1) (dC (.int 1))) (dOp aQ (ah 0) (dC (.int 2))))) (ag (eI (dOp aQ (ah 0) (dC (.int 2))) (dOp aQ (ah 1) (dC (.int 2)))) ar)))))
noncomputable def uG:DTS:=
 (bb (ay eK (ag (dc (eI (dOp aQ (ah 0) (dC (.int 0))) (dOp aQ (ah 1) (dC (.int 2)))) (eI (dOp aQ (ah 1) (dC (.int 0))) (dOp aQ (ah 0) (dC (.int 2))))) (ag (dc (eI (dOp aQ (ah 0) (dC (.int 1))) (dOp aQ (ah 1) (dC (.int 2)))) (eI (dOp aQ (ah 1) (dC (.int 1))) (dOp aQ (ah 0) (dC (.int 2))))) (ag (eI (dOp aQ (ah 0) (dC (.int 2))) (dOp aQ (ah 1) (dC (.int 2)))) ar)))))
section
variable {Z:Mu}{Qd:DK}{ds:List D}
theorem Tc(i j:Int):PyData.eqv (.int i) (.int j)=decide (i=j):=by simp[PyData.eqv];rfl
theorem gdv{a b c:Int}(h:Sz 8800 c)(hc:c≠0):Sz 8800 ((g3 a b c:Nat):Int):=by
 have h1:=(Ld a b c).2.2
 have h2:=Int.natAbs_dvd_natAbs.mpr h1
 exact h.le (Nat.le_of_dvd ∅ h2)
theorem JT(h:eK ds Z Qd):vC ‹Qd› (aR ["a","b","c","divisor"] ds) Z:=by
 obtain⟨a,b,c,rfl,hc,hz,q⟩:=h
 unfold vC
 walk_at "rd"
 rw[decide_eq_false hc]
 simp only[xor_false,false_eq_true,↓reduceIte]
 refine⟨a,b,c,rfl,?_⟩
 walk_at "rd"
 have hp:=DF (a:=a) (b:=b) hc
 have hg:=gdv (a:=a) (b:=b) hz hc
 unfold low NM.dv dN at q
 simp only at q
 by_cases hn:c<0
 ·rw[if_pos (by simpa using hn)]
  rw[if_pos hn] at q
  have o:∀i:Int,wC i (-((g3 a b c:Nat):Int)):=fun i=>yR ∅ hg.neg ⋯
  exact⟨o _,o _,o _,q⟩
 ·rw[if_neg (by simpa using hn)]
  rw[if_neg hn] at q
  have o:∀i:Int,wC i ((g3 a b c:Nat):Int):=fun i=>yR ∅ hg ⋯
  exact⟨o _,o _,o _,q⟩
theorem Fq(h:eK ds Z Qd):pA ‹Qd› (aR ["_law_a","_law_b","_law_c","_law_common"] ds) Z:=by
 obtain⟨a,b,c,rfl,hc,hz,q⟩:=h
 unfold pA
 walk_at "rd"
 refine⟨a,b,rfl,_,c,rfl,?_⟩
 walk_at "rd"
 have hp:=DF (a:=a) (b:=b) hc
 have hg:=gdv (a:=a) (b:=b) hz hc
 unfold low NM.dv dN at q
 simp only at q
 by_cases hn:c<0
 ·simp only[hn,decide_true,↓reduceIte,Bw]
  rw[if_pos hn] at q
  have e:((Int.gcd (Int.gcd a b:Nat) c:Nat):Int) * -1 = -((g3 a b c:Nat):Int):=by unfold g3;omega
  walk_at "rd"
  rw[e]
  have o:∀i:Int,wC i (-((g3 a b c:Nat):Int)):=fun i=>yR ∅ hg.neg ⋯
  exact⟨mulR ⋯,o _,o _,o _,q⟩
 ·simp only[hn,decide_false,false_eq_true,↓reduceIte,Bg]
  rw[if_neg hn] at q
  have e:((Int.gcd (Int.gcd a b:Nat) c:Nat):Int)*1=((g3 a b c:Nat):Int):=by unfold g3;omega
  walk_at "rd"
  rw[e]
  have o:∀i:Int,wC i ((g3 a b c:Nat):Int):=fun i=>yR ∅ hg ⋯
  exact⟨mulR ⋯,o _,o _,o _,q⟩
theorem AV(h:qL ds Z Qd):ma ‹Qd› (aR ["_law_x"] ds) Z:=by
 obtain⟨x,rfl,q⟩:=h
 unfold ma
 walk_at "rd"
 simp only[Int.zero_sub]
 exact q
theorem IF(h:ix ds Z Qd):C5 ‹Qd› (aR ["x","y"] ds) Z:=by
 obtain⟨x,y,rfl,ox,oy,bx,by',q⟩:=h
 unfold C5
 walk_at "rd"
 have m:∀{i j:Int},Sz 4300 i->Sz 4300 j->IntMulOk i j:=fun h g=>oP h g ⋯
 exact⟨m bx.a by'.c,m by'.a bx.c,m bx.b by'.c,m by'.b bx.c,m bx.c by'.c,_,_,_,rfl,Gp ox oy,(bx.c.mul by'.c).mono ⋯,q⟩
theorem BS(h:ix ds Z Qd):uG ‹Qd› (aR ["_law_x","_law_y"] ds) Z:=IF h
theorem Tw(a b c a' b' c':Int):PyData.eqv (.tuple [.int a,.int b,.int c]) (.tuple [.int a',.int b',.int c'])=decide (a=a'/\b=b'/\c=c'):=by
 simp[PyData.eqv,PyData.eqvAll]
 rfl
end
noncomputable def iz:DTS:=
 (aN (cj (zz (dB (dOp (de false) (ah 1) (dC (.int 0)))) (dB (dOp (de false) (ah 2) (dC (.int 0))))) (bb (dC (.int 0))) bz)
 (aN (cj (zz (dB (dOp rGe (ah 1) (dC (.int 0)))) (dB (dOp rGe (ah 2) (dC (.int 0))))) (bb (dC (.int 1))) bz)
 (aN (cj (zz (dB (dOp rLe (ah 1) (dC (.int 0)))) (dB (dOp rLe (ah 2) (dC (.int 0))))) (bb (vB (dC (.int 1)))) bz)
 (aN (ba (dIf (dB (dOp rGt (eI (ah 1) (ah 1)) (eI (eI (ah 0) (ah 2)) (ah 2)))) (ah 1) (ah 2)) (ao 3))
 (bb (dIf (dB (dOp rGt (ah 3) (dC (.int 0)))) (dC (.int 1)) (vB (dC (.int 1)))))))))
noncomputable def rL:DTS:=
 (bb (ay uJ (ag (ah 0) (ag (dOp aQ (ah 1) (dC (.int 0))) (ag (dOp aQ (ah 1) (dC (.int 1))) ar)))))
noncomputable def pM:DTS:=
 (aN (ba (mH (eI (dOp aQ (ah 1) (dC (.int 0))) (dOp aQ (ah 2) (dC (.int 2)))) (eI (dOp aQ (ah 2) (dC (.int 0))) (dOp aQ (ah 1) (dC (.int 2))))) (ao 3))
 (aN (ba (mH (eI (dOp aQ (ah 1) (dC (.int 1))) (dOp aQ (ah 2) (dC (.int 2)))) (eI (dOp aQ (ah 2) (dC (.int 1))) (dOp aQ (ah 1) (dC (.int 2))))) (ao 4))
 (bb (dOp (de false) (ay uJ (ag (ah 0) (ag (ah 3) (ag (ah 4) ar)))) (dC (.int 1))))))
noncomputable def n6:DTS:=
 (aN (yI 2 3 (ag (eI (dOp aQ (ah 1) (dC (.int 0))) (dOp aQ (ah 1) (dC (.int 0)))) (ag (eI (eI (ah 0) (dOp aQ (ah 1) (dC (.int 1)))) (dOp aQ (ah 1) (dC (.int 1)))) ar)))
 (aN (ba (nA (ag (mH (dCB uP (ag (dOp rGt (dOp aQ (ah 1) (dC (.int 0))) (dC (.int 0))) ar)) (dCB uP (ag (dOp rLt (dOp aQ (ah 1) (dC (.int 0))) (dC (.int 0))) ar))) (ag (mH (dCB uP (ag (dOp rGt (dOp aQ (ah 1) (dC (.int 1))) (dC (.int 0))) ar)) (dCB uP (ag (dOp rLt (dOp aQ (ah 1) (dC (.int 1))) (dC (.int 0))) ar))) ar))) (ao 4))
 (aN (cj (dB (dOp rGe (eI (dOp aQ (ah 4) (dC (.int 0))) (dOp aQ (ah 4) (dC (.int 1)))) (dC (.int 0)))) (bb (dIf (dB (dOp (de true) (dOp aQ (ah 4) (dC (.int 0))) (dC (.int 0)))) (dOp aQ (ah 4) (dC (.int 0))) (dOp aQ (ah 4) (dC (.int 1))))) bz)
 (bb (dIf (dB (dOp rGt (ah 2) (ah 3))) (dOp aQ (ah 4) (dC (.int 0))) (dOp aQ (ah 4) (dC (.int 1))))))))
noncomputable def mv:DTS:=
 (bb (dOp rGt (ay iF (ag (ah 0) (ag (ay ix (ag (ah 2) (ag (ay qL (ag (ah 1) ar)) ar))) ar))) (dC (.int 0))))
section
variable {Z:Mu}{Qd:DK}{ds:List D}
theorem vS(h:uJ ds Z Qd):iz ‹Qd› (aR ["d","a","b","prevailing"] ds) Z:=by
 obtain⟨d,a,b,rfl,hd,ha,hb,q⟩:=h
 unfold iz
 walk_at "rd"
 have m1:MulOk a a:=oP ha ha ⋯
 have m2:MulOk d b:=oP hd hb ⋯
 have m3:MulOk (d*b) b:=oP (hd.mul hb) hb ⋯
 unfold sg at q
 by_cases h1:a=0
 ·by_cases h2:b=0
  ·subst h1 h2;simpa using q
  ·subst h1
   rcases Int.lt_or_gt_of_ne h2 with h3|h3
   ·have e:¬ (0<=b):=by omega
    have e':b<=0:=by omega
    simp only[h2,e,e',and_false,true_and,if_true,if_false,decide_true,decide_false,le_refl,↓reduceIte,false_eq_true] at q ⊢
    exact q
   ·have e:(0<=b):=by omega
    simp only[h2,e,and_false,true_and,if_true,if_false,decide_true,decide_false,le_refl,↓reduceIte,false_eq_true] at q ⊢
    exact q
 ·by_cases h3:0<=a<;>by_cases h4:0<=b<;>by_cases h5:a<=0<;>by_cases h6:b<=0<;>by_cases h7:d*b*b<a*a<;>(try (exfalso;omega))<;>
   simp only[h1,h3,h4,h5,h6,h7,and_false,false_and,and_true,true_and,if_true,if_false,decide_true,decide_false,↓reduceIte,false_eq_true,and_self,m1,m2,m3,gt_iff_lt] at q ⊢<;>(try exact q)
  all_goals
   first
   |(by_cases h8:0<a<;>simp only[h8,if_true,if_false,decide_true,decide_false,↓reduceIte,false_eq_true] at q ⊢<;>exact q)
   |(by_cases h8:0<b<;>simp only[h8,if_true,if_false,decide_true,decide_false,↓reduceIte,false_eq_true] at q ⊢<;>exact q)
theorem Gd(h:iF ds Z Qd):rL ‹Qd› (aR ["d","x"] ds) Z:=by
 obtain⟨d,x,rfl,hd,bx,q⟩:=h
 unfold rL
 walk_at "rd"
 exact⟨d,x.a,x.b,rfl,Qb hd.1 hd.2.1,bx.a.mono ⋯,bx.b.mono ⋯,q⟩
theorem E2(h:xO ds Z Qd):pM ‹Qd› (aR ["d","x","y","a","b"] ds) Z:=by
 obtain⟨d,x,y,rfl,hd,bx,by',q⟩:=h
 unfold pM
 walk_at "rd"
 have m:∀{i j:Int},Sz 4400 i->Sz 4400 j->IntMulOk i j:=fun h g=>oP h g ⋯
 refine⟨m bx.a by'.c,m by'.a bx.c,m bx.b by'.c,m by'.b bx.c,d,_,_,rfl,Qb hd.1 hd.2.1,((bx.a.mul by'.c).sub (by'.a.mul bx.c)).mono ⋯,((bx.b.mul by'.c).sub (by'.b.mul bx.c)).mono ⋯,?_⟩
 walk_at "rd"
 exact q
theorem P4{d a b sa sb:Int}(ha:(a<0/\sa = -1)\/(a=0/\sa=0)\/(0<a/\sa=1))(hb:(b<0/\sb = -1)\/(b=0/\sb=0)\/(0<b/\sb=1)) :
  sg d a b=if 0<=sa*sb then (if sa≠0 then sa else sb) else if d*b*b<a*a then sa else sb:=by
 unfold sg
 by_cases h7:d*b*b<a*a<;>rcases ha with ⟨h1,rfl⟩|⟨h1,rfl⟩|⟨h1,rfl⟩<;>rcases hb with ⟨h2,rfl⟩|⟨h2,rfl⟩|⟨h2,rfl⟩<;>simp only[h7,↓reduceIte]<;>(repeat' split)<;>omega
theorem DH(h:iF ds Z Qd):n6 ‹Qd› (aR ["_law_d","_law_x","_law_first","_law_second","_law_sides"] ds) Z:=by
 obtain⟨d,x,rfl,hd,bx,q⟩:=h
 unfold n6
 walk_at "rd"
 have s5:=Qb hd.1 hd.2.1
 refine⟨oP bx.a bx.a ⋯,oP s5 bx.b ⋯,oP (s5.mul bx.b) bx.b ⋯,?_⟩
 have sd:∀u:Int,(u<0/\((if decide (0<u)=true then 1 else 0)-if decide (u<0)=true then 1 else 0:Int) = -1)\/(u=0/\((if decide (0<u)=true then 1 else 0)-if decide (u<0)=true then 1 else 0:Int)=0)\/(0<u/\((if decide (0<u)=true then 1 else 0)-if decide (u<0)=true then 1 else 0:Int)=1):=fun u=>by
  simp only[decide_eq_true_eq]
  split<;>split<;>omega
 have ha:=sd x.a
 have hb:=sd x.b
 generalize ((if decide (0<x.a)=true then 1 else 0)-if decide (x.a<0)=true then 1 else 0:Int)=sa at ha ⊢
 generalize ((if decide (0<x.b)=true then 1 else 0)-if decide (x.b<0)=true then 1 else 0:Int)=sb at hb ⊢
 rw[P4 ha hb] at q
 refine⟨mulL ∅,?_⟩
 by_cases c1:0<=sa*sb<;>by_cases c2:sa=0<;>by_cases c3:d*x.b*x.b<x.a*x.a<;>simp only[c1,c2,c3,decide_true,decide_false,↓reduceIte,false_eq_true,xor_false,Bool.xor_true,Bool.not_true,ne_eq,not_true_eq_false,not_false_eq_true,Int.zero_mul,le_refl] at q ⊢<;>exact q
theorem Al(h:x5 ds Z Qd):mv ‹Qd› (aR ["_law_d","_law_x","_law_y"] ds) Z:=by
 obtain⟨d,x,y,rfl,hd,ox,oy,bx,by',q⟩:=h
 unfold mv
 walk_at "rd"
 refine⟨x,rfl,y,minus x,rfl,oy,i6 ox,by'.mono ⋯,(tP bx).mono ⋯,d,plus y (minus x),rfl,hd,(qP oy (i6 ox) by' (tP bx)).mono ⋯,?_⟩
 walk_at "rd"
 have e:sg d (plus y (minus x)).a (plus y (minus x)).b=dif d y x:=by
  obtain⟨k,hk,hs,p1,p2,p3,_⟩:=nG (y.a*(minus x).c+(minus x).a*y.c) (y.b*(minus x).c+(minus x).b*y.c) (Gp oy (i6 ox))
  have hk0:0<k:=hs.mpr (Int.mul_pos oy.c (i6 ox).c)
  unfold dif
  have e1:y.a*x.c-x.a*y.c=k*(plus y (minus x)).a:=by rw[show k*(plus y (minus x)).a=_ from p1.symm];show _=y.a*x.c + -x.a*y.c;grind
  have e2:y.b*x.c-x.b*y.c=k*(plus y (minus x)).b:=by rw[show k*(plus y (minus x)).b=_ from p2.symm];show _=y.b*x.c + -x.b*y.c;grind
  rw[e1,e2,qg hd hk0]
 rw[e]
 have t:=oE d (y.a*x.c-x.a*y.c) (y.b*x.c-x.b*y.c)
 have f:decide (0<dif d y x)=decide (dif d y x=1):=by unfold dif;rcases t with z|z|z<;>rw[z]<;>decide
 rw[f]
 exact q
end
noncomputable def pC:DTS:=
 (aN (ba (dC (.int 0)) (ao 2))
 (aN (cj (dB (dOp rLt (ah 1) (dCB da (ag (ah 0) ar)))) (ba (dOp aQ (ah 0) (ah 1)) (ao 2)) bz)
 (aN (ba (dC (.int 0)) (ao 3))
 (aN (cj (dB (dOp rGe (dCB tW (ag (ah 2) ar)) (NI (dC (.int 10)) (dC (.int 18))))) (ba (dCB tW (ag (ah 2) ar)) (ao 3)) bz)
 (aN (ba (nA (ag (dC (.int 2147483647)) (ag (dC (.int 2147483629)) (ag (dC (.int 2147483587)) (ag (dC (.int 2147483579)) (ag (dC (.int 2147483563)) (ag (dC (.int 2147483549)) (ag (dC (.int 2147483543)) (ag (dC (.int 2147483497)) ar))))))))) (ao 4))
 (aN (ba (dc (dc (dc (eI (yF (ah 2) (dC (.int 2147483647))) (dC (.int 69623))) (eI (eI (dC (.int 104729)) (ah 1)) (ah 1))) (eI (dC (.int 7919)) (ah 1))) (dC (.int 12345))) (ao 5))
 (bb (rp (ag (ah 3) (ag (yF (ah 5) (dOp aQ (ah 4) (yF (ah 1) (dC (.int 8))))) ar))))))))))
section
variable {Z:Mu}{Qd:DK}{ds:List D}
theorem iO{α:Type}{xs:List α}{i:Int}(h0:0<=i)(h:i<(xs.length:Nat)):∃d,atI xs i=some d/\d∈xs:=by
 have hj:i.toNat<xs.length:=by omega
 have e:=xR (xs:=xs) (j:=i.toNat) (v:=xs[i.toNat]) (by simp[hj])
 rw[show ((i.toNat:Nat):Int)=i by omega] at e
 exact⟨_,e,getElem_mem _⟩
theorem qr(x:Int){y:Int}(h:0<y):0<=x.fmod y/\x.fmod y<y:=⟨Int.fmod_nonneg_of_pos x h,Int.fmod_lt_of_pos x h⟩
theorem Nu{x y:Int}(hx:0<=x)(hy:0<y):0<=x.fdiv y:=by rw[Int.fdiv_eq_ediv_of_nonneg _ ∅];exact Int.ediv_nonneg hx ∅
noncomputable def qQ:List PyData:=[.int 2147483647,.int 2147483629,.int 2147483587,.int 2147483579,.int 2147483563,.int 2147483549,.int 2147483543,.int 2147483497]
theorem Fb(h:HW ds Z Qd):pC ‹Qd› (aR ["_law_script","_law_at","_law_cell","_law_great","_law_primes","_law_mixed"] ds) Z:=by
 obtain⟨ns,k,rfl,h0,h1,q⟩:=h
 unfold pC
 have hp:∃pr:Int,atI qQ (k.fmod 8)=some (.int pr)/\0<pr/\pr<2147483648:=by
  obtain⟨h2,h3⟩:=qr k (show (0:Int)<8 by decide)
  obtain⟨p,e,hm⟩:=iO (xs:=qQ) h2 (by exact h3)
  simp only[qQ,mem_cons,not_mem_nil,or_false] at hm
  rcases hm with rfl|rfl|rfl|rfl|rfl|rfl|rfl|rfl<;>exact⟨_,e,⋯,⋯⟩
 obtain⟨pr,hpe,hp0,hp1⟩:=hp
 unfold qQ at hpe
 walk_at "rd"
 rw[hpe]
 walk_at "rd"
 have c1:Pd 10 18:=⟨⋯,⋯,⋯⟩
 have z1:(2147483647:Int)≠0:=by decide
 have z2:(8:Int)≠0:=by decide
 have m1:∀i:Int,MulOk i 69623:=fun i=>mulR ⋯
 have m2:MulOk 104729 k:=mulL ⋯
 have m3:MulOk (104729*k) k:=mulR ∅
 have m4:MulOk 7919 k:=mulL ⋯
 have z3:pr≠0:=by omega
 have fin:∀G x:Int,0<=G->∀p,Z p=none->Qd (.m p) (aE Z p [.int G,.int (x.fmod pr)]):=fun G x hG p hp=>by
  obtain⟨h2,h3⟩:=qr x hp0
  exact q p _ hp (Step.set hG h2 ∅)
 by_cases hk:k<(ns.length:Nat)
 ·rw[if_pos (by simpa using hk)]
  obtain⟨c,hc,_⟩:=iO h0 hk
  rw[hc]
  walk_at "rd"
  refine⟨c1,?_⟩
  split
  ·exact⟨z1,m1 _,m2,m3,m4,z2,z3,fin _ _ ∅⟩
  ·exact⟨z1,m1 _,m2,m3,m4,z2,z3,fin _ _ ∅⟩
 ·rw[if_neg (by simpa using hk)]
  refine⟨c1,?_⟩
  split
  ·exact⟨z1,m1 _,m2,m3,m4,z2,z3,fin _ _ ∅⟩
  ·exact⟨z1,m1 _,m2,m3,m4,z2,z3,fin _ _ ∅⟩
end
noncomputable def oj:DTS:=
 (aN (cj (ip (dS (dB (wx "tuple" (ah 0)))) (dB (dOp (de true) (dCB da (ag (ah 0) ar)) (dC (.int 3))))) (bb (dC (.bool false))) bz)
 (aN (ba (ah 0) (cA 3 (aD (ao 1) (aD (ao 2) (aD (ao 3) cN)))))
 (aN (cj (ip (dS (dB (ay jH (ag (ah 1) ar)))) (ip (dS (dB (ay jH (ag (ah 2) ar)))) (dS (dB (ay jH (ag (ah 3) ar)))))) (bb (dC (.bool false))) bz)
 (bb (kE (dOp rGe (ah 3) (dC (.int 1))) (dOp (de false) (ay yw (ag (ah 1) (ag (ah 2) (ag (ah 3) ar)))) (dC (.int 1))))))))
section
variable {Z:Mu}{Qd:DK}{ds:List D}
noncomputable def ID(i:Int):Bool:=decide (2<=i)&&decide (i<=30)&&!(decide (i=4) || decide (i=9) || decide (i=16) || decide (i=25))
theorem d0(d:PyData):(∃i,d = .int i/\isWhole d=true)\/((∀i,d≠.int i)/\isWhole d=false):=by
 cases d<;>first|exact .inl ⟨_,rfl,rfl⟩|exact .inr ⟨fun _ z=>(by cases z),rfl⟩
theorem Jb(d:PyData):(∃xs,d = .tuple xs/\isT "tuple" d=true)\/((∀xs,d≠.tuple xs)/\isT "tuple" d=false):=by
 cases d<;>first|exact .inl ⟨_,rfl,rfl⟩|exact .inr ⟨fun _ z=>(by cases z),rfl⟩
theorem By{d:PyData}(h:∀xs,d≠.tuple xs):isNum d=false:=by cases d<;>first|rfl|exact absurd rfl (h _)
theorem Bu{xs:List PyData}(h:xs.length≠3):isNum (.tuple xs)=false:=by
 unfold isNum
 split
 ·rename_i e;cases e;exact absurd rfl h
 ·rfl
theorem three{α:Type}{xs:List α}(h:xs.length=3):∃a b c,xs=[a,b,c]:=by
 match xs,h with
 |[a,b,c],_=>exact⟨a,b,c,rfl⟩
theorem Dg(h:lS ds Z Qd):oj ‹Qd› (aR ["thing","a","b","c"] ds) Z:=by
 obtain⟨d,rfl,_,q⟩:=h
 unfold oj
 walk_at "rd"
 rcases Jb d with ⟨xs,rfl,e⟩|⟨hn,e⟩
 ·rw[e]
  walk_at "rd"
  by_cases hl:xs.length=3
  ·obtain⟨a,b,c,rfl⟩:=three hl
   have e3:decide ((([a,b,c].length:Nat):Int)=3)=true:=rfl
   have e3':[a,b,c].length=3:=rfl
   simp only[e3,Bool.xor_self,false_eq_true,↓reduceIte]
   refine⟨rfl,?_⟩
   walk_at "rd"
   refine⟨a,rfl,?_⟩
   rcases d0 a with ⟨i,rfl,e⟩|⟨hn,e⟩
   ·rw[e]
    walk_at "rd"
    refine⟨b,rfl,?_⟩
    rcases d0 b with ⟨j,rfl,e⟩|⟨hn,e⟩
    ·rw[e]
     walk_at "rd"
     refine⟨c,rfl,?_⟩
     rcases d0 c with ⟨k,rfl,e⟩|⟨hn,e⟩
     ·rw[e]
      walk_at "rd"
      have q':Qd (.v (.bool (decide (1<=k)&&(g3 i j k==1)))) Z:=q
      by_cases hk:1<=k
      ·rw[if_pos (by simpa using hk)]
       refine⟨i,j,k,rfl,?_⟩
       walk_at "rd"
       have ee:decide (((g3 i j k:Nat):Int)=1)=(decide (1<=k)&&(g3 i j k==1)):=by
        rw[decide_eq_true hk,Bool.true_and,Bool.eq_iff_iff];simp;omega
       rw[ee]
       exact q'
      ·rw[if_neg (by simpa using hk)]
       rw[decide_eq_false hk] at q'
       exact q'
     ·rw[e]
      walk_at "rd"
      have:isNum (.tuple [.int i,.int j,c])=false:=by cases c<;>first|rfl|exact absurd rfl (hn _)
      rw[this] at q
      exact q
    ·rw[e]
     walk_at "rd"
     have:isNum (.tuple [.int i,b,c])=false:=by cases b<;>first|rfl|exact absurd rfl (hn _)
     rw[this] at q
     exact q
   ·rw[e]
    walk_at "rd"
    have:isNum (.tuple [a,b,c])=false:=by cases a<;>first|rfl|exact absurd rfl (hn _)
    rw[this] at q
    exact q
  ·rw[Bu hl] at q
   have:decide (((xs.length:Nat):Int)=3)=false:=by simp;omega
   rw[this]
   simp only[xor_false,↓reduceIte]
   exact q
 ·rw[e]
  rw[By hn] at q
  walk_at "rd"
  exact q
end
noncomputable def gI:DTS:=
 (aN (cj (ip (dS (dB (wx "tuple" (ah 0)))) (ip (dB (dOp (de true) (dCB da (ag (ah 0) ar)) (dC (.int 3)))) (dS (dB (dCB uN (ag (sY [none] (kM (ah 0)) (ao 0) jB (ay jH (ag (ah 0) ar))) ar)))))) (bb (dC (.bool false))) bz)
 (bb (kE (dOp rGt (dOp aQ (ah 0) (dC (.int 2))) (dC (.int 0))) (dOp (de false) (ay pX (ag (ay pX (ag (dOp aQ (ah 0) (dC (.int 0))) (ag (dOp aQ (ah 0) (dC (.int 1))) ar))) (ag (dOp aQ (ah 0) (dC (.int 2))) ar))) (dC (.int 1))))))
section
variable {Z:Mu}{Qd:DK}{ds:List D}
theorem sU(h:lS ds Z Qd):gI ‹Qd› (aR ["_law_thing"] ds) Z:=by
 obtain⟨d,rfl,few,q⟩:=h
 unfold gI
 walk_at "rd"
 rcases Jb d with ⟨xs,rfl,e⟩|⟨hn,e⟩
 ·rw[e]
  walk_at "rd"
  by_cases hl:xs.length=3
  ·obtain⟨a,b,c,rfl⟩:=three hl
   have e3:decide ((([a,b,c].length:Nat):Int)=3)=true:=rfl
   simp only[e3,Bool.xor_self,false_eq_true,↓reduceIte]
   refine⟨by simp,fun x=>some (.bool (isWhole x)),fun x hx U hs=>⟨trivial,x,rfl,rfl,rfl⟩,?_⟩
   rw[Jg (fun x=>PyData.bool (isWhole x)),wV]
   simp only[map_cons,map_nil,List.all_cons,List.all_nil,id,Bool.and_true]
   rcases d0 a with ⟨i,rfl,ea⟩|⟨hn,ea⟩
   ·rcases d0 b with ⟨j,rfl,e1⟩|⟨hn,e1⟩
    ·rcases d0 c with ⟨k,rfl,e2⟩|⟨hn,e2⟩
     ·rw[ea,e1,e2]
      simp only[Bool.and_self]
      walk_at "rd"
      have q':Qd (.v (.bool (decide (1<=k)&&(g3 i j k==1)))) Z:=q
      by_cases hk:1<=k
      ·rw[if_pos (by simp;omega)]
       refine⟨i,j,rfl,_,k,rfl,?_⟩
       walk_at "rd"
       have ee:decide (((Int.gcd (Int.gcd i j:Nat) k:Nat):Int)=1)=(decide (1<=k)&&(g3 i j k==1)):=by
        unfold g3
        rw[decide_eq_true hk,Bool.true_and,Bool.eq_iff_iff];simp;omega
       rw[ee]
       exact q'
      ·rw[if_neg (by simp;omega)]
       rw[decide_eq_false hk] at q'
       exact q'
     ·rw[ea,e1,e2]
      simp only[Bool.and_false]
      walk_at "rd"
      have:isNum (.tuple [.int i,.int j,c])=false:=by cases c<;>first|rfl|exact absurd rfl (hn _)
      rw[this] at q
      exact q
    ·rw[ea,e1]
     simp only[Bool.and_false,Bool.false_and]
     walk_at "rd"
     have:isNum (.tuple [.int i,b,c])=false:=by cases b<;>first|rfl|exact absurd rfl (hn _)
     rw[this] at q
     exact q
   ·rw[ea]
    simp only[Bool.and_false,Bool.false_and]
    walk_at "rd"
    have:isNum (.tuple [a,b,c])=false:=by cases a<;>first|rfl|exact absurd rfl (hn _)
    rw[this] at q
    exact q
  ·rw[Bu hl] at q
   have:decide (((xs.length:Nat):Int)=3)=false:=by simp;omega
   rw[this]
   simp only[xor_false,↓reduceIte]
   exact q
 ·rw[e]
  rw[By hn] at q
  walk_at "rd"
  exact q
theorem pick{P:PyData->Prop}{xs:List PyData}{i:Int}(h0:0<=i)(h1:i<(xs.length:Nat))(h:∀x∈xs,P x):∃d,atI xs i=some d/\P d:=let ⟨d,e,m⟩:=iO h0 h1;⟨d,e,h d m⟩
end
noncomputable def nJ:DTS:=
 (aN (cj (dB (dOp (de false) (ay bL (ag (ah 0) (ag (dC (.int 2)) ar))) (dC (.int 0)))) (bb (dOp aQ (nA (ag (dC (.int 2)) (ag (dC (.int 3)) (ag (dC (.int 5)) ar)))) (ay bL (ag (ah 0) (ag (dC (.int 3)) ar))))) bz)
 (aN (ba (ka [none] (sE (ag (dC (.int 2)) (ag (dC (.int 31)) ar))) (ao 0) (dB (dOp (NP true) (ah 0) (nA (ag (dC (.int 4)) (ag (dC (.int 9)) (ag (dC (.int 16)) (ag (dC (.int 25)) ar))))))) (ah 0)) (ao 1))
 (bb (dOp aQ (ah 1) (ay bL (ag (ah 0) (ag (dC (.int 25)) ar)))))))
noncomputable def qh:DTS:=
 (aN (ba (nA (ag (dC .none) (ag (dC (.bool true)) (ag (dC (.bool false)) (ag (dC (.str "1")) (ag (dC (.str "")) (ag (vB (dC (.int 1))) (ag (dC (.int 0)) (ag (dC (.int 1)) (ag (NI (dC (.int 10)) (dC (.int 59))) (ag (aY ar) (ag (nA ar) (ag (nA (ag (dC (.int 0)) ar)) (ag (aY (ag (dC (.int 0)) (ag (dC (.int 0)) ar))) (ag (aY (ag (dC (.int 1)) (ag (dC (.int 0)) (ag (dC (.int 0)) ar)))) (ag (aY (ag (dC (.int 2)) (ag (dC (.int 0)) (ag (dC (.int 2)) ar)))) (ag (aY (ag (dC (.int 1)) (ag (dC (.bool true)) (ag (dC (.int 1)) ar)))) (ag (aY (ag (dC (.int 1)) (ag (dC (.int 1)) (ag (vB (dC (.int 1))) ar)))) (ag (nA (ag (dC (.int 1)) (ag (dC (.int 0)) (ag (dC (.int 1)) ar)))) (ag (aY (ag (dC (.int 1)) (ag (dC (.int 0)) ar))) (ag (dC (.str "a")) ar))))))))))))))))))))) (ao 1))
 (bb (dOp aQ (ah 1) (ay bL (ag (ah 0) (ag (dC (.int 20)) ar))))))
section
variable {Z:Mu}{Qd:DK}{ds:List D}
theorem Og{lo:Int}{n:Nat}{x:PyData}(h:x∈pO lo n):∃i:Int,x = .int i/\lo<=i/\i<lo+n:=by
 unfold pO at h
 obtain⟨k,hk,rfl⟩:=List.mem_map.mp h
 have:=List.mem_range.mp hk
 exact⟨_,rfl,∅,∅⟩
noncomputable def Ej:PyData->Option PyData
 |.int i=>if ID i then some (.int i) else none
 |_=>none
noncomputable def BW:List PyData:=[2,3,5,6,7,8,10,11,12,13,14,15,17,18,19,20,21,22,23,24,26,27,28,29,30].map PyData.int
theorem in4(i:Int):(List.any [PyData.int 4,PyData.int 9,PyData.int 16,PyData.int 25] fun b=>PyData.eqv b (.int i))=(decide (i=4) || decide (i=9) || decide (i=16) || decide (i=25)):=by
 have ev:∀j:Int,PyData.eqv (.int j) (.int i)=decide (i=j):=fun j=>by rw[Tc];simp[eq_comm]
 simp only[List.any_cons,List.any_nil,ev,Bool.or_false,Bool.or_assoc]
theorem CA(h:ue ds Z Qd):nJ ‹Qd› (aR ["_law_bag_here","_law_some"] ds) Z:=by
 obtain⟨a,rfl,hb,q⟩:=h
 unfold nJ
 walk_at "rd"
 refine⟨a,2,rfl,⋯,⋯,hb,fun r0 am h0 h1 s1=>?_⟩
 walk_at "rd"
 by_cases hr:r0=0
 ·rw[if_pos (by simpa using hr)]
  refine⟨a,3,rfl,⋯,⋯,s1.1,fun r1 be h2 h3 s2=>?_⟩
  walk_at "rd"
  obtain⟨w,e,i,rfl,w0⟩:=pick (P:=fun d=>∃i:Int,d = .int i/\aM i) (xs:=[PyData.int 2,PyData.int 3,PyData.int 5]) h2 (by exact h3) (by
   intro x hx
   simp only[mem_cons,not_mem_nil,or_false] at hx
   rcases hx with rfl|rfl|rfl<;>exact⟨_,rfl,by unfold aM;omega⟩)
  rw[e]
  exact q _ _ w0 (s1.trans s2)
 ·rw[if_neg (by simpa using hr)]
  refine⟨⟨⋯,⋯,⋯,⋯⟩,⋯,fun p hp=>⟨fun i acc U=>acc=((pO 2 29).take i).filterMap Ej/\U=aE am p acc,⟨rfl,rfl⟩,?_,?_⟩⟩
  ·rintro i x acc U hx hpa ⟨e0,e1⟩
   obtain⟨k,rfl,i0,i1⟩:=Og (mem_of_getElem? hx)
   refine⟨trivial,rfl,rfl,by show 0<=60;decide,?_⟩
   rw[in4]
   have i1':k<31:=by simpa using i1
   have e:Ej (.int k)=if ID k then some (.int k) else none:=rfl
   have e2:ID k = !(decide (k=4) || decide (k=9) || decide (k=16) || decide (k=25)):=by
    unfold ID
    rw[decide_eq_true i0,decide_eq_true (show k<=30 by omega)]
    rfl
   have ft:((pO 2 29).take (i+1)).filterMap Ej=((pO 2 29).take i).filterMap Ej++(Ej (.int k)).toList:=Rg hx
   rw[e,e2] at ft
   cases hh:(decide (k=4) || decide (k=9) || decide (k=16) || decide (k=25))
   ·rw[hh] at ft
    simp only[Bool.true_xor,Bool.not_false,↓reduceIte] at ft ⊢
    refine⟨hpa,?_,?_⟩
    ·rw[ft,e0];rfl
    ·rw[e1,iy]
   ·rw[hh] at ft
    simp only[Bool.true_xor,Bool.not_true,↓reduceIte,false_eq_true] at ft ⊢
    refine⟨hpa,?_,e1⟩
    rw[ft,e0];simp
  rintro acc U ⟨e0,e1⟩ _
  have ed:mI U p=am:=by rw[e1];exact qR hp
  rw[ed]
  have e0':acc=BW:=by rw[e0];rfl
  rw[e0']
  refine⟨a,25,rfl,⋯,⋯,s1.1,fun r1 be h2 h3 s2=>?_⟩
  walk_at "rd"
  obtain⟨w,e,i,rfl,w0⟩:=pick (P:=fun d=>∃i:Int,d = .int i/\aM i) (xs:=BW) h2 (by exact h3) (by
   intro x hx
   unfold BW at hx
   obtain⟨k,hk,rfl⟩:=List.mem_map.mp hx
   exact⟨_,rfl,(show ∀k∈([2,3,5,6,7,8,10,11,12,13,14,15,17,18,19,20,21,22,23,24,26,27,28,29,30]:List Int),aM k by unfold aM;decide) k hk⟩)
  rw[e]
  exact q _ _ w0 (s1.trans s2)
noncomputable def fw:List PyData:=[.none,.bool true,.bool false,.str "1",.str "",.int (-1),.int 0,.int 1,.int (10 ^ Int.toNat 59),.tuple [],.list [],.list [.int 0],.tuple [.int 0,.int 0],.tuple [.int 1,.int 0,.int 0],.tuple [.int 2,.int 0,.int 2],.tuple [.int 1,.bool true,.int 1],.tuple [.int 1,.int 1,.int (-1)],.list [.int 1,.int 0,.int 1],.tuple [.int 1,.int 0],.str "a"]
noncomputable def Bs:DSp:=fun ds Z Q=>∃a:Addr,ds=[.m a]/\Bag Z a/\∀d U,d∈fw->Step a Z U->Q (.v d) U
theorem Fl(h:Bs ds Z Qd):qh ‹Qd› (aR ["_law_bag_here","_law_some"] ds) Z:=by
 obtain⟨a,rfl,hb,q⟩:=h
 unfold qh
 walk_at "rd"
 refine⟨⟨⋯,⋯,⋯⟩,a,20,rfl,⋯,⋯,hb,fun r0 am h0 h1 s1=>?_⟩
 walk_at "rd"
 obtain⟨d,e,m⟩:=iO (xs:=fw) h0 (by exact h1)
 unfold fw at e
 rw[e]
 exact q d _ m s1
end
section
variable {Z:Mu}{Q:DK}{ds:List D}
noncomputable def zj:DSp:=fun ds Z Q=>∃ns:List Int,ds=[.s ns]/\ns.length<=63/\∀U,Q (.v (.bool true)) U
theorem wM(h:jH ds Z Q):ds.length=1:=by obtain⟨_,rfl,_⟩:=h;rfl
theorem BI(h:pX ds Z Q):ds.length=2:=by obtain⟨_,_,rfl,_⟩:=h;rfl
theorem GG(h:yw ds Z Q):ds.length=3:=by obtain⟨_,_,_,rfl,_⟩:=h;rfl
theorem yq(h:lS ds Z Q):ds.length=1:=by obtain⟨_,rfl,_⟩:=h;rfl
theorem tM(h:eK ds Z Q):ds.length=3:=by obtain⟨_,_,_,rfl,_⟩:=h;rfl
theorem Ew(h:qL ds Z Q):ds.length=1:=by obtain⟨_,rfl,_⟩:=h;rfl
theorem x8(h:ix ds Z Q):ds.length=2:=by obtain⟨_,_,rfl,_⟩:=h;rfl
theorem Gq(h:yG ds Z Q):ds.length=2:=by obtain⟨_,_,rfl,_⟩:=h;rfl
theorem E4(h:uJ ds Z Q):ds.length=3:=by obtain⟨_,_,_,rfl,_⟩:=h;rfl
theorem za(h:iF ds Z Q):ds.length=2:=by obtain⟨_,_,rfl,_⟩:=h;rfl
theorem Es(h:xO ds Z Q):ds.length=3:=by obtain⟨_,_,_,rfl,_⟩:=h;rfl
theorem EZ(h:x5 ds Z Q):ds.length=3:=by obtain⟨_,_,_,rfl,_⟩:=h;rfl
theorem JW(h:HW ds Z Q):ds.length=2:=by obtain⟨_,_,rfl,_⟩:=h;rfl
theorem FF(h:ue ds Z Q):ds.length=1:=by obtain⟨_,rfl,_⟩:=h;rfl
theorem JV(h:Bs ds Z Q):ds.length=1:=by obtain⟨_,rfl,_⟩:=h;rfl
theorem Kg(h:zj ds Z Q):ds.length=1:=by obtain⟨_,rfl,_⟩:=h;rfl
end
noncomputable def mV:DTS:=lr
theorem vo{Z Qd ds}(h:jH ds Z Qd):mV ‹Qd› (aR ["_law_thing"] ds) Z:=wG h
structure R5(K:PySem.W.Frag)(mg:Str->Option Value)(x:Str)(g:Addr)(a b c:Int):Prop where
 m:mg x=some (.ref g)
 l:∃(od:Option Addr) (n:Nat) (sl:Array (Option Value)) (t u v:Tok),K.lookup g=some ⟨.type "tuple",od,.seq #[.int a t,.int b u,.int c v] n,sl⟩
theorem MB{X:Cx}{x:Str}{g:Addr}{a b c:Int}{pos:Pos}(hg:Gl X x)(h:R5 X.K X.mg x g a b c)(hd:(x==("__debug__":Str))=false:=by decide):DE X (.Name x pos) (dC (.tuple [.int a,.int b,.int c])):=by
 obtain⟨od,n,sl,t,u,v,e⟩:=h.l
 refine Jf (u:=.ref g) hg h.m rfl (fun Z H _=>Rp.tuple (xs:=[.int a,.int b,.int c]) (.inr ⟨_,_,_,e,rfl,rfl,(by show 3<=sizeLine;decide),.cons ⟨t,rfl⟩ (.cons ⟨u,rfl⟩ (.cons ⟨v,rfl⟩ .nil))⟩) (.cons (.int a) (.cons (.int b) (.cons (.int c) .nil)))) hd
theorem J9{K:PySem.W.Frag}{H:Hp}{a:Addr}{ns:List Int}(hl:ns.length<=63)(hT:Ea K H)(hS:SqL K H a (ns.map V.int)):spD K zj [.ref a] H (fun v _=>v = .bl true) fun _ _ _=>False:=by
 refine⟨[.s ns],⟨fun _=>none,fun _=>none⟩,fun d _=>d = .v (.bool true),⟨fun a ds h=>(by cases h),hT,fun a c h=>(by cases h)⟩,.cons ⟨a,rfl,hS,rfl⟩ .nil,⟨ns,rfl,hl,fun _=>rfl⟩,fun d u U H' _ _ r q=>?_⟩
 subst q
 cases r
 rfl
end L2.DL
namespace L2
open PySem PySem.Spec PyProof.Rows
end L2
namespace L2.DL
open PySem PySem.Spec PyProof.Rows
end L2.DL
namespace L2
open PySem PySem.Spec PyProof.Rows
end L2
namespace L2.DL
open PySem PySem.Spec PyProof.Rows
end L2.DL
namespace L2
open PySem PySem.Spec PyProof.Rows
end L2
namespace L2.DL
open PySem PySem.Spec PyProof.Rows
end L2.DL
namespace L2
open PySem PySem.Spec PyProof.Rows
end L2
namespace L2
open PySem PySem.Spec PyProof.Rows
end L2
namespace L2.DL
open PySem PySem.Spec PyProof.Rows
noncomputable def intsOf:List PyData->Option (List Int)
 |[]=>some []
 |.int i::r=>(intsOf r).map (i::·)
 |_=>none
theorem Jp{K:PySem.W.Frag}{Z:Mu}{H:Hp}:∀{ds:List PyData} {us:List V} {k:List Int},RpL K Z H ds us->intsOf ds=some k->us=k.map V.int
 |[],_,_,.nil,e=>by cases e;rfl
 |d::ds,_,k,.cons h t,e=>by
  cases d with
  |int i=>
   cases h
   rw[intsOf] at e
   cases q:intsOf ds with
   |none=>rw[q] at e;cases e
   |some k'=>rw[q] at e;cases e;rw[Jp t q];rfl
  |_=>cases e
section
variable {α:Type}
noncomputable def ck(kvs:List (List Int×α))(k:List Int):Option α:=(kvs.find? fun x=>decide (x.1=k)).map (·.2)
noncomputable def jf(kvs:List (List Int×α))(k:List Int)(v:α):List (List Int×α):=if (ck kvs k).isSome=true then kvs.map (fun x=>if x.1=k then (x.1,v) else x) else kvs++[(k,v)]
theorem dU{p:List Int×α}{r:List (List Int×α)}{k:List Int}(e:p.1=k):ck (p::r) k=some p.2:=by simp[ck,List.find?_cons,e]
theorem dZ{p:List Int×α}{r:List (List Int×α)}{k:List Int}(e:¬ p.1=k):ck (p::r) k=ck r k:=by simp[ck,List.find?_cons,e]
theorem BB(k j:List Int)(v:α):∀kvs:List (List Int×α),ck (kvs.map fun x=>if x.1=k then (x.1,v) else x) j=if j=k then (ck kvs j).map (fun _=>v) else ck kvs j
 |[]=>by split<;>rfl
 |p::r=>by
  have ih:=BB k j v r
  rw[map_cons]
  by_cases h:p.1=k
  ·rw[if_pos h]
   by_cases e:p.1=j
   ·rw[dU (p:=(p.1,v)) e,if_pos (e.symm.trans h),dU e];rfl
   ·rw[dZ (p:=(p.1,v)) e,ih,dZ e]
  ·rw[if_neg h]
   by_cases e:p.1=j
   ·rw[dU e,if_neg (fun z=>h (e.trans z)),dU e]
   ·rw[dZ e,ih,dZ e]
theorem zS(k j:List Int)(v:α):∀kvs:List (List Int×α),ck kvs k=none->ck (kvs++[(k,v)]) j=if j=k then some v else ck kvs j
 |[],_=>by
  by_cases e:k=j
  ·rw[if_pos e.symm];exact dU (p:=(k,v)) e
  ·rw[if_neg (fun z=>e z.symm)];exact dZ (p:=(k,v)) e
 |p::r,h=>by
  rw[cons_append]
  by_cases e:p.1=k
  ·rw[dU e] at h;cases h
  ·rw[dZ e] at h
   by_cases f:p.1=j
   ·rw[dU f,dU f,if_neg (fun z=>e (f.trans z))]
   ·rw[dZ f,zS k j v r h,dZ f]
theorem J0(kvs:List (List Int×α))(k j:List Int)(v:α):ck (jf kvs k v) j=if j=k then some v else ck kvs j:=by
 unfold jf
 cases q:ck kvs k with
 |none=>
  rw[if_neg (fun z=>nomatch z)]
  exact zS k j v kvs q
 |some x=>
  rw[if_pos (show (some x).isSome=true from rfl),BB]
  by_cases e:j=k
  ·subst e;rw[if_pos rfl,if_pos rfl,q];rfl
  ·rw[if_neg e,if_neg e]
theorem FA{kvs:List (List Int×α)}{k:List Int}{v:α}(h:ck kvs k=none):jf kvs k v=kvs++[(k,v)]:=by unfold jf;rw[h];rfl
theorem zi(kvs:List (List Int×α))(k:List Int)(v:α):(jf kvs k v).length<=kvs.length+1:=by
 unfold jf
 split
 ·rw[length_map];omega
 ·rw[length_append];exact Nat.le_refl _
end
section
variable {K:PySem.W.Frag}{Z am:Mu}{H H1:Hp}{p:Addr}
theorem gH.look{kvs:List (List Int×PyData)}{xs:List (List Int×Addr×Value)}(r:gH K Z H kvs xs)(k:List Int) :
  (ck kvs k=none/\atKey xs k=none)\/∃d q v w,ck kvs k=some d/\atKey xs k=some (q,w)/\Rp K Z H d v/\RelV v w:=by
 unfold gH at r
 induction r with
 |nil=>exact .inl ⟨rfl,rfl⟩
 |@cons a b as bs h t ih=>
  obtain⟨h1,h2,v,h3,h4⟩:=h
  by_cases e:a.1=k
  ·refine .inr ⟨a.2,b.2.1,v,b.2.2,dU e,?_,h3,h4⟩
   have:b.1=k:=h1.symm.trans e
   simp[atKey,List.find?_cons,this]
  ·have e2:¬ b.1=k:=fun z=>e (h1.trans z)
   have e3:atKey (b::bs) k=atKey bs k:=by simp[atKey,List.find?_cons,e2]
   rw[dZ e,e3]
   exact ih
theorem gH.put{kvs:List (List Int×PyData)}{xs:List (List Int×Addr×Value)}(r:gH K Z H kvs xs){k:List Int}{q:Addr}{d:PyData}{v:V}{w:Value}(hq:SqT K H q (k.map V.int))(hd:Rp K Z H d v)(hv:RelV v w) :
  gH K Z H (jf kvs k d) (storedH xs k q w):=by
 have hl:=r.look k
 unfold jf storedH
 rcases hl with ⟨l1,l2⟩|⟨d',q',v',w',l1,l2,_,_⟩
 ·rw[l1,l2]
  exact Paired.snoc r ⟨rfl,hq,v,hd,hv⟩
 ·rw[l1,l2]
  rw[if_pos (show (some d').isSome=true from rfl),if_pos (show (some (q',w')).isSome=true from rfl)]
  clear l1 l2
  unfold gH at r ⊢
  induction r with
  |nil=>exact .nil
  |@cons a b as bs h t ih=>
   obtain⟨h1,h2,h3⟩:=h
   refine .cons ?_ ih
   unfold putAt
   dsimp only
   by_cases e:a.1=k
   ·rw[if_pos e,if_pos (h1.symm.trans e)]
    exact⟨h1,h2,v,hd,hv⟩
   ·rw[if_neg e,if_neg (fun z=>e (h1.trans z))]
    exact⟨h1,h2,h3⟩
theorem gH.length{kvs:List (List Int×PyData)}{xs:List (List Int×Addr×Value)}(r:gH K Z H kvs xs):kvs.length=xs.length:=Paired.length r
theorem xY{o o':Obj}{c:Box}(h:H p=some (.raw o)):Ext K Z H (bo Z p c) (upd H p (.raw o')) where
 keep:=fun b u e n t=>by
  have:b≠p:=fun z=>by rw[z,h] at e;cases e;exact t
  rw[aU this];exact e
 tb:=fun b ps e n=>by
  have:b≠p:=fun z=>by rw[z,h] at e;cases e
  exact⟨ps,by rw[aU this];exact e⟩
 dom:=fun b ds q=>⟨ds,q⟩
 fresh:=fun b n q=>n
 st:=fun b u e n=>by
  by_cases z:b=p
  ·subst z;exact⟨_,fo⟩
  ·exact⟨u,by rw[aU z];exact e⟩
 bx:=fun b c' q=>by
  by_cases z:b=p
  ·subst z;exact⟨_,bc⟩
  ·exact⟨c',by rw[bY z];exact q⟩
theorem bM.GX{c:Box}{o o':Obj}(ok:bM K Z H)(hs:(p==sysModules)=false)(h:H p=some (.raw o))(r:ja K Z H c o'):bM K (bo Z p c) (upd H p (.raw o')):=by
 have e:Ext K Z H (bo Z p c) (upd H p (.raw o')):=xY h
 refine⟨fun a ds q=>?_,ok.tab.of fun b u e' n1 n2=>?_,fun a c' q=>?_⟩
 ·obtain⟨xs,h1,h2⟩:=ok.lst a ds q
  have:a≠p:=fun z=>by rw[z,h] at h1;cases h1
  exact⟨xs,by rw[aU this];exact h1,h2.ext ok e⟩
 ·have:b≠p:=fun z=>by rw[z,h] at e';exact n2 o (Option.some.inj e').symm
  rw[aU this];exact e'
 ·by_cases z:a=p
  ·subst z
   rw[bc] at q;cases q
   exact⟨hs,o',fo,r.ext ok e⟩
  ·rw[bY z] at q
   obtain⟨y,ob,h1,h2⟩:=ok.box a c' q
   exact⟨y,ob,by rw[aU z];exact h1,h2.ext ok e⟩
theorem j7{o:Obj}{c:Box}(ok:bM K Z H)(h:H p=none):Ext K Z H (bo Z p c) (upd H p (.raw o)) where
 keep:=fun b u e _ _=>by rw[aU (aZ e h)];exact e
 tb:=fun b ps e _=>⟨ps,by rw[aU (aZ e h)];exact e⟩
 dom:=fun b ds q=>⟨ds,q⟩
 fresh:=fun b n q=>n
 st:=fun b u e _=>⟨u,by rw[aU (aZ e h)];exact e⟩
 bx:=fun b c' q=>by
  have:b≠p:=fun z=>by rw[z,ok.I0 h] at q;cases q
  exact⟨c',by rw[bY this];exact q⟩
theorem bM.GP{c:Box}{o:Obj}(ok:bM K Z H)(hs:(p==sysModules)=false)(h:H p=none)(r:ja K Z H c o):bM K (bo Z p c) (upd H p (.raw o)):=by
 have e:Ext K Z H (bo Z p c) (upd H p (.raw o)):=j7 ok h
 refine⟨fun a ds q=>?_,ok.tab.of fun b u e' _ _=>?_,fun a c' q=>?_⟩
 ·obtain⟨xs,h1,h2⟩:=ok.lst a ds q
  exact⟨xs,by rw[aU (aZ h1 h)];exact h1,h2.ext ok e⟩
 ·rw[aU (aZ e' h)];exact e'
 ·by_cases z:a=p
  ·subst z
   rw[bc] at q;cases q
   exact⟨hs,o,fo,r.ext ok e⟩
  ·rw[bY z] at q
   obtain⟨y,ob,h1,h2⟩:=ok.box a c' q
   exact⟨y,ob,by rw[aU z];exact h1,h2.ext ok e⟩
theorem Bb{o:Obj}(h:o={cls:=.type "dict",data:=.dict #[]}):ja K Z H (.dict []) o:=by
 subst h
 exact⟨zero_le _,⟨rfl,rfl,rfl⟩,#[],0,[],rfl,rfl,List.nodup_nil,.nil⟩
theorem M4{o:Obj}{led:Bool}(h:o={cls:=.type "set",dict:=none,data:=.set #[] 0 (.fresh 0 0 led)}):ja K Z H (.set []) o:=by
 subst h
 exact⟨⟨rfl,rfl,rfl⟩,[],0,_,rfl,{place:=rfl,ris:=.nil,le:=fun _ h=>by simp at h,dum:=rfl,two:=⟨3,rfl,Nat.le_refl _⟩,on:=fun _ h=>by simp at h},(show 0*5<7*3 by decide),rfl,fun _ h=>by simp at h,fun _ h=>by simp at h⟩
end
section
variable {X:Cx}{pins:List (Addr×Obj)}{σ:St}{H:Hp}{s:Shared}{Z:Mu}
theorem items_int{P:Program}{w:World}:∀{ks:List Int} {us:List Value},Vals (ks.map V.int) us->ItemsAre (intKind P w) ks us
 |[],_,r=>by rw[map_nil] at r;cases r;exact .nil
 |k::ks,_,r=>by
  rw[map_cons] at r
  cases r with
  |cons h t=>obtain⟨tk,rfl⟩:=h;exact .cons (by show Value.isInt k (.int k tk)=true;simp[Value.isInt]) (items_int t)
theorem iY{q:Addr}{ks:List Int}(I:Inv X pins σ H s)(h:SqT X.K H q (ks.map V.int)):IsTupleKey (intKind X.prog X.w) s.heap ks q:=by
 obtain⟨its,r,⟨o,h1,h2,n,h3⟩,_⟩:=I.tuple h
 exact⟨o,its.toArray,n,h1,h2,h3,by simpa using items_int r⟩
theorem L6{kvs:List (List Int×PyData)}{xs:List (List Int×Addr×Value)}(I:Inv X pins σ H s)(r:gH X.K Z H kvs xs):∀x∈xs,IsTupleKey (intKind X.prog X.w) s.heap x.1 x.2.1:=by
 unfold gH at r
 induction r with
 |nil=>intro x hx;exact nomatch hx
 |@cons a b as bs h t ih=>
  intro x hx
  rcases List.mem_cons.mp hx with rfl|hx
  ·obtain⟨h1,h2,_⟩:=h
   rw[<- h1]
   exact iY I h2
  ·exact ih x hx
theorem qI{kvs:List (List Int×PyData)}{a:Addr}{o:Obj}(I:Inv X pins σ H s)(h:H a=some (.raw o))(r:ja X.K Z H (.dict kvs) o) :
  ∃xs,gH X.K Z H kvs xs/\s.heap.DictOfH (tupleKind (intKind X.prog X.w)) a xs/\xs.length<=sizeLine:=by
 obtain⟨h1,h2,es,ep,xs,h3,h4,h5,h6⟩:=r
 exact⟨xs,h6,⟨o,es,ep,(show s.heap.get? a=some o from I.hok a _ h),h2,h3,h4,L6 I h6,h5⟩,by rw[<- h6.length];exact h1⟩
theorem BD{kvs:List (List Int×PyData)}{a:Addr}{xs:List (List Int×Addr×Value)}{h':Heap}(hl:kvs.length<=sizeLine)(r:gH X.K Z H kvs xs)(d:h'.DictOfH (tupleKind (intKind X.prog X.w)) a xs) :
  ∃o,h'.get? a=some o/\ja X.K Z H (.dict kvs) o:=by
 obtain⟨o,es,ep,h1,h2,h3,h4,_,h5⟩:=d
 exact⟨o,h1,hl,h2,es,ep,xs,h3,h4,h5,r⟩
end
section
variable {X:Cx}{pins:List (Addr×Obj)}{σ:St}{H:Hp}{s:Shared}{Z:Mu}{A:Around}{E:Value->Shared->Prop}
theorem HP{ks:List (List Int)}{a:Addr}{o:Obj}(I:Inv X pins σ H s)(h:H a=some (.raw o))(r:ja X.K Z H (.set ks) o) :
  ∃L:ST.Ln Value,ST.EA s.heap a L/\L.length=ks.length/\(∀x∈L,∃k,ST.Ent (intKind X.prog X.w) s.heap x k/\k∈ks)/\(∀k∈ks,∃x∈L,ST.Ent (intKind X.prog X.w) s.heap x k) /\
   (∀x∈L,∃k q,x.2.2 = .ref q/\SqT X.K H q (k.map V.int)/\x.2.1=hI k/\k∈ks)/\∀k∈ks,∃x∈L,∃q,x.2.2 = .ref q/\SqT X.K H q (k.map V.int):=by
 obtain⟨h1,L,ep,t,h2,h3,h4,h5,h6,h7⟩:=r
 have ent:∀x∈L,∃k,ST.Ent (intKind X.prog X.w) s.heap x k/\k∈ks:=fun x hx=>by
  obtain⟨k,q,z1,z2,z3,z4⟩:=h6 x hx
  exact⟨k,⟨q,z1,iY I z2,z3⟩,z4⟩
 refine⟨L,⟨o,ep,t,(show s.heap.get? a=some o from I.hok a _ h),h1,h2,h3,h4⟩,h5,ent,fun k hk=>?_,h6,h7⟩
 obtain⟨x,hx,q,z1,z2⟩:=h7 k hk
 obtain⟨k',e',_⟩:=ent x hx
 have:k=k':=by
  obtain⟨q',y1,y2,_⟩:=e'
  rw[z1] at y1;cases y1
  exact (iY I z2).inj y2
 subst this
 exact⟨x,hx,e'⟩
theorem Jo{L:ST.Ln Value}{ks:List (List Int)}{h:Heap}{k:List Int}(a:∀x∈L,∃k,ST.Ent (intKind X.prog X.w) h x k/\k∈ks)(b:∀k∈ks,∃x∈L,ST.Ent (intKind X.prog X.w) h x k) :
  (∃x∈L,ST.Ent (intKind X.prog X.w) h x k)↔k∈ks:=by
 constructor
 ·rintro ⟨x,hx,e⟩
  obtain⟨k',e',hk⟩:=a x hx
  rw[e.inj e'];exact hk
 ·exact b k
theorem Pf{ks:List (List Int)}{a q:Addr}{o:Obj}{k:List Int}{Q:Value->Shared->Prop}(hu:A.units+64<cLine)(I:Inv X pins σ H s)(h:H a=some (.raw o))(r:ja X.K Z H (.set ks) o)(hk:SqT X.K H q (k.map V.int))(hb:ks.length<=9800)
  (hq:∀s',Inv X pins σ H s'->Q (.bool (decide (k∈ks))) s'):wpAny (model X.prog X.w) A (compareOp .In (.ref q) (.ref a)) Q E s:=by
 obtain⟨L,S,len,en1,en2,_,_⟩:=HP I h r
 have hT:s.TypeIs (.ref a) "set":=let ⟨o,_,_,ho,hc,_⟩:=S;⟨o,ho,hc.1⟩
 show wpAny _ _ (do return .bool (<- contains (.ref a) (.ref q))) Q E s
 refine wpAny_bind ?_
 unfold contains
 try with_reducible refine wpAny_holding ?_
 refine wpAny_bind (wpAny_specialOf hT PySem.F.slot_set_contains.lookup ?_)
 show wpAny _ _ (if (some (Value.builtin "set.__contains__")==some Value.none)=true then _ else _) _ E s
 rw[if_neg (by rw[beq_builtin_none];exact Bool.false_ne_true)]
 refine wpAny_bind (wpAny_callSpecialUnlessNone?_slot (name:=Str.ofString "__contains__") hT PySem.F.slot_set_contains
  (wpAny_call_entry PySem.F.slot_set_contains hT entry_set_contains ?_ (PySem.F.args_set_contains_2 _ _)))
 unfold Builtin.«frozenset.__contains__» Builtin.Frozenset.oneOther
 simp only[List.isEmpty_nil,bind_assoc]
 unfold Builtin.Frozenset.addrOf Builtin.Frozenset.withSetAsKey
 refine wpAny_bind (wpAny_pure ?_)
 try dsimp only
 refine wpAny_bind (wpAny_pure ?_)
 try dsimp only
 refine wpAny_bind (wpAny_tryCatch ?_)
 refine ST.Fc (by show A.units+1<cLine;omega) S (fun x hx=>let ⟨k,e,_⟩:=en1 x hx;⟨k,e⟩) ∅ (iY I hk) fun b hbq=>?_
 have e:b=decide (k∈ks):=by
  rw[Bool.eq_iff_iff,hbq,Jo en1 en2,decide_eq_true_eq]
 show wpAny _ _ (ret (Value.bool b)) _ _ _
 exact wpAny_pure ⟨_,rfl,wpAny_truthy_bool (wpAny_pure (by rw[e];exact hq _ (I.tok _)))⟩
theorem NL{ks:List (List Int)}{a q:Addr}{o:Obj}{k:List Int}{Q:Value->Shared->Prop}(hu:A.units+64<cLine)(I:Inv X pins σ H s)(h:H a=some (.raw o))(r:ja X.K Z H (.set ks) o)(hk:SqT X.K H q (k.map V.int))(hb:ks.length<=9800)(hn:k ∉ ks)
  (hq:∀o' s',Inv X pins σ (upd H a (.raw o')) s'->ja X.K Z H (.set (ks++[k])) o'->Q .none s'):wpAny (model X.prog X.w) A (call (.builtin "set.add") [.ref a,.ref q]) Q E s:=by
 obtain⟨L,S,len,en1,en2,r1,r2⟩:=HP I h r
 have hT:s.TypeIs (.ref a) "set":=let ⟨o,_,_,ho,hc,_⟩:=S;⟨o,ho,hc.1⟩
 refine wpAny_call_entry PySem.F.slot_set_add hT PySem.F.entry_set_add ?_ (PySem.F.args_set_add_2 _ _)
 unfold Builtin.«set.add» Builtin.Frozenset.oneOther
 simp only[List.isEmpty_nil,bind_assoc]
 unfold Builtin.Frozenset.addrOf
 refine wpAny_bind (wpAny_pure ?_)
 try dsimp only
 refine wpAny_bind (wpAny_pure ?_)
 try dsimp only
 refine wpAny_bind ?_
 refine ST.Qw (by show A.units+1<cLine;omega) S (fun x hx=>let ⟨k,e,_⟩:=en1 x hx;⟨k,e⟩) ∅ (iY I hk) (fun z=>absurd ((Jo en1 en2).mp z) hn) fun _ h' L' sb S' len' mem'=>?_
 obtain⟨o',ep,t,ho,hex,hd,T,hr⟩:=S'
 show wpAny _ _ (ret Value.none) _ _ _
 refine wpAny_pure ⟨_,rfl,hq o' _ (C9 I (by rw[h];exact True.intro) sb ⟨o',ho⟩ ho) ⟨hex,L',ep,t,hd,T,hr,by rw[len',len,length_append];rfl,fun x hx=>?_,fun k' hk'=>?_⟩⟩
 ·rcases (mem' x.2).mp (List.mem_map.mpr ⟨x,hx,rfl⟩) with z|z
  ·obtain⟨y,hy,ey⟩:=List.mem_map.mp z
   obtain⟨k',q',y1,y2,y3,y4⟩:=r1 y hy
   exact⟨k',q',by rw[<- ey];exact y1,y2,by rw[<- ey];exact y3,mem_append_left _ y4⟩
  ·exact⟨k,q,by rw[z],hk,by rw[z];rfl,mem_append_right _ (List.mem_singleton.mpr rfl)⟩
 ·rcases List.mem_append.mp hk' with z|z
  ·obtain⟨y,hy,q',y1,y2⟩:=r2 k' z
   obtain⟨x,hx,ex⟩:=List.mem_map.mp ((mem' y.2).mpr (.inl (List.mem_map.mpr ⟨y,hy,rfl⟩)))
   exact⟨x,hx,q',by rw[ex];exact y1,y2⟩
  ·rw[mem_singleton] at z
   subst z
   obtain⟨x,hx,ex⟩:=List.mem_map.mp ((mem' (tupleKeyHash (intKind X.prog X.w) k',.ref q)).mpr (.inr rfl))
   exact⟨x,hx,q,by rw[ex],hk⟩
end
section
variable {X:Cx}{a b e o:Expr}{ta tb te to:DTE}{pos p apos cpos:Pos}
theorem DE.mk{td:DTE}(h:∀(pins:List (Addr×Obj)) (s:Shared) (σ:St) (H:Hp) (ρ:Rho) (Z:Mu) (Qd:DK),Inv X pins σ H s->St0 X.K H ρ Z σ->td ρ Z Qd ->
  wpAny (model X.prog X.w) X.A (eval e X.env) (fun v s'=>∃d u U H',Inv X pins σ H' s'/\RelV u v/\Ext X.K Z H U H'/\St0 X.K H' ρ U σ/\RpD X.K U H' d u/\Qd d U) X.xe s):DE X e td:=by
 refine⟨fun σ H Q=>∃ρ Z Qd,St0 X.K H ρ Z σ/\td ρ Z Qd/\∀d u U H',Ext X.K Z H U H'->St0 X.K H' ρ U σ->RpD X.K U H' d u->Qd d U->Q u H',?_,fun σ H ρ Z Qd Q S h k=>⟨ρ,Z,Qd,S,h,k⟩⟩
 intro pins s σ H Q I ⟨ρ,Z,Qd,S,q,k⟩
 exact wpAny_mono (h pins s σ H ρ Z Qd I S q) (fun v s' ⟨d,u,U,H',I',rv,ex,S',rd,q'⟩=>⟨u,H',I',rv,k d u U H' ex S' rd q'⟩) fun _ _ z=>z
theorem DE.use{td:DTE}(h:DE X e td){pins:List (Addr×Obj)}{s:Shared}{σ:St}{H:Hp}{ρ:Rho}{Z:Mu}{Qd:DK}(I:Inv X pins σ H s)(S:St0 X.K H ρ Z σ)(q:td ρ Z Qd) :
  wpAny (model X.prog X.w) X.A (eval e X.env) (fun v s'=>∃d u U H',Inv X pins σ H' s'/\RelV u v/\Ext X.K Z H U H'/\St0 X.K H' ρ U σ/\RpD X.K U H' d u/\Qd d U) X.xe s:=by
 obtain⟨t,p,l⟩:=h
 exact wpAny_mono (p pins s σ H (fun u H'=>∃d U,Ext X.K Z H U H'/\St0 X.K H' ρ U σ/\RpD X.K U H' d u/\Qd d U) I (l σ H ρ Z Qd _ S q fun d u U H' ex S' r z=>⟨d,U,ex,S',r,z⟩))
  (fun v s' ⟨u,H',I',rv,d,U,ex,S',r,z⟩=>⟨d,u,U,H',I',rv,ex,S',r,z⟩) fun _ _ z=>z
noncomputable def DR:DTE:=fun _ Z Q=>∀p,Z.b p=none->Q (.b p) (bo Z p (.set []))
noncomputable def tK:DTE:=fun _ Z Q=>∀p,Z.b p=none->Q (.b p) (bo Z p (.dict []))
theorem Mk{ρ:Rho}{Z:Mu}{Q:DK}:DR ρ Z Q = ∀p,Z.b p=none->Q (.b p) (bo Z p (.set [])):=rfl
theorem ML{ρ:Rho}{Z:Mu}{Q:DK}:tK ρ Z Q = ∀p,Z.b p=none->Q (.b p) (bo Z p (.dict [])):=rfl
theorem HS{pins:List (Addr×Obj)}{s:Shared}{σ:St}{H:Hp}(I:Inv X pins σ H s):(s.heap.objs.size==sysModules)=false:=beq_eq_false_iff_ne.mpr (Ne.symm (ne_of_lt I.big))
theorem J1(hg:Gl X "set")(hm:X.mg "set"=none):DE X (.Call (.Name "set" p) [] [] pos) DR:=by
 refine DE.mk fun pins s σ H ρ Z Qd I S q=>?_
 refine wpAny_Call_Name_kw (pV I hg hm PyProof.Rows.Boot.«set» ?_ ⋯ ⋯)
 refine PyProof.Rows.callWith_type0 (call_set_0 fun led=>?_)
 have hn:=I.hok.fresh (Nat.le_refl s.heap.objs.size)
 have ex:=j7 (K:=X.K) (o:={cls:=.type "set",dict:=none,data:=.set #[] 0 (.fresh 0 0 led)}) (c:=.set []) S.mu hn
 refine⟨.b s.heap.objs.size,.ref s.heap.objs.size,bo Z s.heap.objs.size (.set []),_,I.laid (a:=s.heap.objs.size) (o:=.raw _) (t':=s.toks) (fun _ _ q=>Heap.get?_push_of_some _ q) (Nat.le_refl _) (Heap.get?_push_size _ rfl),rfl,ex,
  ⟨S.mu.GP (HS I) hn (M4 rfl),S.rho.ext S.mu ex⟩,⟨rfl,_,bc⟩,q _ (S.mu.I0 hn)⟩
theorem v5:DE X (.Dict [] [] pos) tK:=by
 refine DE.mk fun pins s σ H ρ Z Qd I S q=>?_
 refine wpAny_Dict_empty ?_
 have hn:=I.hok.fresh (Nat.le_refl s.heap.objs.size)
 have ex:=j7 (K:=X.K) (o:={cls:=.type "dict",data:=.dict #[]}) (c:=.dict []) S.mu hn
 refine⟨.b s.heap.objs.size,.ref s.heap.objs.size,bo Z s.heap.objs.size (.dict []),_,I.laid (a:=s.heap.objs.size) (o:=.raw _) (t':=s.toks) (fun _ _ q=>Heap.get?_push_of_some _ q) (Nat.le_refl _) (Heap.get?_push_size _ rfl),rfl,ex,
  ⟨S.mu.GP (HS I) hn (Bb rfl),S.rho.ext S.mu ex⟩,⟨rfl,_,bc⟩,q _ (S.mu.I0 hn)⟩
noncomputable def o8:D->Option (List Int)
 |.v (.tuple ds)=>intsOf ds
 |_=>none
theorem qM{K:PySem.W.Frag}{Z:Mu}{H:Hp}{d:D}{u:V}{k:List Int}(r:RpD K Z H d u)(h:o8 d=some k):∃q,u = .ref q/\SqT K H q (k.map V.int):=by
 cases d with
 |v x=>
  cases x with
  |tuple ds=>
   cases r with
   |tuple hs rl=>exact⟨_,rfl,by rw[<- Jp rl h];exact hs⟩
  |_=>cases h
 |_=>cases h
noncomputable def inB(c:Box)(k:List Int):Bool:=match c with
 |.set ks=>decide (k∈ks)
 |.dict kvs=>(ck kvs k).isSome
noncomputable def MR:Box->Prop
 |.set ks=>ks.length<=9800
 |.dict kvs=>kvs.length<=9800
noncomputable def D0(neg:Bool):D->D->Mu->DK->Prop:=fun x y Z Q=>∃k a c,o8 x=some k/\y = .b a/\Z.b a=some c/\MR c/\(neg=true->∃kvs,c = .dict kvs)/\Q (.v (.bool (xor neg (inB c k)))) Z
noncomputable def Pc(K:PySem.W.Frag)(r:D->D->Mu->DK->Prop):R2:=fun ux uy H Q=>∃x y Z Qd,bM K Z H/\RpD K Z H x ux/\RpD K Z H y uy/\r x y Z Qd/\∀d u U H',Ext K Z H U H'->bM K U H'->RpD K U H' d u->Qd d U->Q u H'
theorem Kt{K:PySem.W.Frag}{r:D->D->Mu->DK->Prop}:gj K (Pc K r) r:=fun x y ux uy H Z Qd Q ok rx ry h k=>⟨x,y,Z,Qd,ok,rx,ry,h,k⟩
theorem Pn(hu:X.A.units+64<cLine):OpR X (compareOp .In) (Pc X.K (D0 false)):=by
 intro pins s σ H ux uy v u Q I rv ru h
 obtain⟨x,y,Z,Qd,ok,rx,ry,⟨k,a,c,hk,rfl,hc,few,_,q⟩,kk⟩:=h
 obtain⟨qk,rfl,hq⟩:=qM rx hk
 obtain⟨rfl,_⟩:=ry
 cases rv;cases ru
 obtain⟨ns,ob,hr,hb⟩:=ok.box a c hc
 have fin:∀s',Inv X pins σ H s'->EP X pins σ Q (.bool (inB c k)) s':=fun s' I'=>⟨.bl (inB c k),H,I',rfl,kk (.v (.bool (inB c k))) _ Z H .refl ok (Rp.bool _) (by rw[false_xor] at q;exact q)⟩
 cases c with
 |set ks=>exact Pf hu I hr hb hq few fin
 |dict kvs=>
  obtain⟨xs,dp,dd,len⟩:=qI I hr hb
  refine wpAny_in_heap (tupleKind_room_in1 ∅) (iY I hq) ns dd ?_
  have e:(atKey xs k).isSome=inB (.dict kvs) k:=by
   show _=(ck kvs k).isSome
   rcases dp.look k with ⟨l1,l2⟩|⟨d',q',v',w',l1,l2,_,_⟩
   ·rw[l1,l2];rfl
   ·rw[l1,l2];rfl
  rw[e]
  exact fin _ (I.tok _)
theorem Km(hu:X.A.units+64<cLine):OpR X (compareOp .NotIn) (Pc X.K (D0 true)):=by
 intro pins s σ H ux uy v u Q I rv ru h
 obtain⟨x,y,Z,Qd,ok,rx,ry,⟨k,a,c,hk,rfl,hc,few,hn,q⟩,kk⟩:=h
 obtain⟨qk,rfl,hq⟩:=qM rx hk
 obtain⟨rfl,_⟩:=ry
 cases rv;cases ru
 obtain⟨ns,ob,hr,hb⟩:=ok.box a c hc
 obtain⟨kvs,rfl⟩:=hn rfl
 obtain⟨xs,dp,dd,len⟩:=qI I hr hb
 refine wpAny_notIn_heap (tupleKind_room_in1 ∅) (iY I hq) ns dd ?_
 have e:(atKey xs k).isSome=inB (.dict kvs) k:=by
  show _=(ck kvs k).isSome
  rcases dp.look k with ⟨l1,l2⟩|⟨d',q',v',w',l1,l2,_,_⟩
  ·rw[l1,l2];rfl
  ·rw[l1,l2];rfl
 rw[e]
 exact⟨.bl (!inB (.dict kvs) k),H,I.tok _,rfl,kk (.v (.bool _)) _ Z H .refl ok (Rp.bool _) (by rw[Bool.true_xor] at q;exact q)⟩
theorem M3(hu:X.A.units+64<cLine)(ha:DE X a ta)(hb:DE X b tb)(hm:behindInMarks .In b=false:=by rfl):DT X (.Compare a [.In] [b] pos) (dB (dOp (D0 false) ta tb)):=aS (Pn hu) Kt ha hb hm
theorem BL(hu:X.A.units+64<cLine)(ha:DE X a ta)(hb:DE X b tb)(hm:behindInMarks .NotIn b=false:=by rfl):DT X (.Compare a [.NotIn] [b] pos) (dB (dOp (D0 true) ta tb)):=aS (Km hu) Kt ha hb hm
end
section
variable {X:Cx}{a b e o i value:Expr}{ta tb te to ti tv:DTE}{pos pos' p apos cpos:Pos}
noncomputable def L8(to te:DTE):DTE:=fun ρ Z Q=>to ρ Z fun x am=>∃a ks0,x = .b a/\am.b a=some (.set ks0)/\te ρ am fun y be=>∃k ks,o8 y=some k/\be.b a=some (.set ks)/\ks.length<=9800/\k ∉ ks/\Q (.v .none) (bo be a (.set (ks++[k])))
theorem Qq{ρ:Rho}{Z:Mu}{Q:DK}:L8 to te ρ Z Q=to ρ Z fun x am=>∃a ks0,x = .b a/\am.b a=some (.set ks0)/\te ρ am fun y be=>∃k ks,o8 y=some k/\be.b a=some (.set ks)/\ks.length<=9800/\k ∉ ks/\Q (.v .none) (bo be a (.set (ks++[k]))):=rfl
theorem NW(hu:X.A.units+64<cLine)(ho:DE X o to)(he:DE X e te)(m:M1 X o "add" apos e cpos:=by exact⟨rfl,rfl,rfl,rfl⟩):DE X (.Call (.Attribute o "add" apos) [e] [] cpos) (L8 to te):=by
 refine DE.mk fun pins s σ H ρ Z Qd I S q=>?_
 refine wpAny_Call_method m.base m.few m.line PySem.F.plainAttrs_set PySem.F.slot_set_add PySem.F.type_set_add (thn (ho.use I S q) fun u s1 h1=>?_)
 obtain⟨x,ux,am,H1,I1,rx,e1,S1,rd,a,ks0,ex,hb0,q1⟩:=h1
 subst ex
 obtain⟨rfl,_⟩:=rd
 cases rx
 obtain⟨ns,ob,hr,hb⟩:=S1.mu.box a _ hb0
 obtain⟨L,SA,_,_,_,_,_⟩:=HP I1 hr hb
 obtain⟨ob',ep,t,g1,g2,_⟩:=SA
 refine⟨⟨ob',g1,g2.1⟩,fun b z=>by cases z;exact⟨ob',g1,g2.2.1⟩,?_⟩
 rw[m.trees]
 refine Calls.callWith_builtin rfl (Calls.evalArgs_plain (Calls.spliced_cons (thn (he.use I1 S1 q1) fun iv s2 h2=>Calls.spliced_nil ?_)))
 obtain⟨y,uy,be,H2,I2,ry,e2,S2,rd2,k,ks,hk,hb2,few,hn,q2⟩:=h2
 obtain⟨qk,rfl,hq⟩:=qM rd2 hk
 cases ry
 obtain⟨_,ob2,hr2,hb3⟩:=S2.mu.box a _ hb2
 refine NL hu I2 hr2 hb3 hq few hn fun o' s3 I3 hb4=>?_
 have ex:=xY (K:=X.K) (Z:=be) (c:=.set (ks++[k])) (o':=o') hr2
 exact⟨.v .none,.non,_,_,I3,rfl,e1.trans (e2.trans ex),⟨S2.mu.GX ns hr2 hb4,S2.rho.ext S2.mu ex⟩,Rp.none,q2⟩
noncomputable def D5(to ti:DTE):DTE:=fun ρ Z Q=>to ρ Z fun x am=>ti ρ am fun y be=>∃a kvs k d,x = .b a/\o8 y=some k/\be.b a=some (.dict kvs)/\ck kvs k=some d/\Q (.v d) be
theorem RQ{ρ:Rho}{Z:Mu}{Q:DK}:D5 to ti ρ Z Q=to ρ Z fun x am=>ti ρ am fun y be=>∃a kvs k d,x = .b a/\o8 y=some k/\be.b a=some (.dict kvs)/\ck kvs k=some d/\Q (.v d) be:=rfl
theorem vR(hu:X.A.units+64<cLine)(ho:DE X o to)(hi:DE X i ti)(hs:RM i:=by exact fun _ _=>rfl):DE X (.Subscript o i pos) (D5 to ti):=by
 refine DE.mk fun pins s σ H ρ Z Qd I S q=>?_
 refine Ob PySem.F.slot_dict_getitem.lookup hs (thn (ho.use I S q) fun u s1 h1=>?_)
 obtain⟨x,ux,am,H1,I1,rx,e1,S1,rd,q1⟩:=h1
 refine thn (hi.use I1 S1 q1) fun iv s2 h2=>?_
 obtain⟨y,uy,be,H2,I2,ry,e2,S2,rd2,a,kvs,k,d,ex,hk,hb2,hl,q2⟩:=h2
 subst ex
 obtain⟨rfl,_⟩:=rd
 cases rx
 obtain⟨qk,rfl,hq⟩:=qM rd2 hk
 cases ry
 obtain⟨ns,ob,hr,hb⟩:=S2.mu.box a _ hb2
 obtain⟨xs,dp,dd,len⟩:=qI I2 hr hb
 rcases dp.look k with ⟨l1,_⟩|⟨d',q',v',w',l1,l2,l3,l4⟩
 ·rw[hl] at l1;cases l1
 ·rw[hl] at l1;cases l1
  refine⟨dd.typeIs,wpAny_getItem_heap (tupleKind_room_in1 ∅) (iY I2 hq) dd l2 ?_⟩
  exact⟨.v d,v',be,H2,I2.tok _,l4,e1.trans e2,S2,l3,q2⟩
noncomputable def Bc(to ti tv:DTE):DTS:=fun D ρ Z=>tv ρ Z fun v am=>to ρ am fun x be=>ti ρ be fun y bi=>∃a kvs k d,v = .v d/\x = .b a/\o8 y=some k/\bi.b a=some (.dict kvs)/\kvs.length<=9800/\D.nx ρ (bo bi a (.dict (jf kvs k d)))
theorem QH{D:BN}{ρ:Rho}{Z:Mu}:Bc to ti tv D ρ Z=tv ρ Z fun v am=>to ρ am fun x be=>ti ρ be fun y bi=>∃a kvs k d,v = .v d/\x = .b a/\o8 y=some k/\bi.b a=some (.dict kvs)/\kvs.length<=9800/\D.nx ρ (bo bi a (.dict (jf kvs k d))):=rfl
theorem Cd(hu:X.A.units+64<cLine)(ho:DE X o to)(hi:DE X i ti)(hv:DE X value tv)(hs:swapsWith value (some (.Subscript o i pos')) pos.line X.env=pure false:=by rfl):DS X (.Assign [.Subscript o i pos'] value pos) (Bc to ti tv):=by
 refine⟨fun De σ H=>∃ρ Z Dd,St0 X.K H ρ Z σ/\Bc to ti tv Dd ρ Z/\∀ca bv U H',Ext X.K Z H U H'->St0 X.K H' bv U ca->Dd.nx bv U->De.nx ca H',?_,fun σ H ρ Z Dd De S h kn _ _ _=>⟨ρ,Z,Dd,S,h,kn⟩⟩
 intro pins s σ H D I ⟨ρ,Z,Dd,S,q,kn⟩
 refine wpAny_Assign_Subscript (thn (hv.use I S q) fun r s1 h1=>?_) hs
 obtain⟨v,uv,am,H1,I1,rv,e1,S1,rd1,q1⟩:=h1
 refine thn (ho.use I1 S1 q1) fun u s2 h2=>?_
 obtain⟨x,ux,be,H2,I2,rx,e2,S2,rd2,q2⟩:=h2
 refine thn (hi.use I2 S2 q2) fun iv s3 h3=>?_
 obtain⟨y,uy,bi,H3,I3,ry,e3,S3,rd3,a,kvs,k,d,ev,ex,hk,hb3,few,q3⟩:=h3
 subst ex;subst ev
 obtain⟨rfl,_⟩:=rd2
 cases rx
 obtain⟨qk,rfl,hq⟩:=qM rd3 hk
 cases ry
 obtain⟨ns,ob,hr,hb⟩:=S3.mu.box a _ hb3
 obtain⟨xs,dp,dd,len⟩:=qI I3 hr hb
 have rd1':Rp X.K bi H3 d uv:=Rp.ext S1.mu (e2.trans e3) rd1
 refine wpAny_setItem_heap (hsz:=len) (tupleKind_room_in1 ∅) (iY I3 hq) dd fun h' dd' sb=>?_
 have hl:(jf kvs k d).length<=sizeLine:=by have:=zi kvs k d;rw[sizeLine_eq];omega
 obtain⟨o',g1,g2⟩:=BD (X:=X) (Z:=bi) (H:=H3) hl (dp.put hq rd1' rv) dd'
 have exx:=xY (K:=X.K) (Z:=bi) (c:=.dict (jf kvs k d)) (o':=o') hr
 exact⟨σ,upd H3 a (.raw o'),C9 (ob:=.raw o') I3 (by rw[hr];exact True.intro) sb ⟨o',g1⟩ g1,kn σ ρ _ _ (e1.trans (e2.trans (e3.trans exx))) ⟨S3.mu.GX ns hr g2,S3.rho.ext S3.mu exx⟩ q3⟩
noncomputable def ED:Box->Nat
 |.set ks=>ks.length
 |.dict kvs=>kvs.length
theorem xo{prog:Program}{w:World}{K:Type}[DecidableEq K](knd:HeapKind prog w K)(d:Addr)(hd:(d==sysModules)=false) :
  MeetsIn prog w (Builtin.«dict.__len__» ⟨[.ref d],[]⟩) (fun _ R s=>∃kvs,s.heap.DictOfH knd d kvs/\R (.ok (.ret (.int kvs.length s.toks))) {s with toks:=s.toks+1}):=
 .of_wp fun A R s ⟨kvs,hm,h⟩=>by
  obtain⟨o,es,ep,ho,hc,hdat,hk,hp,hn⟩:=hm
  show wpAny _ _ (dictSize d>>=_) _ _ s
  unfold dictSize
  refine wpAny_bind (wpAny_bind (wpAny_dictEntries ho hdat (wpAny_pure ?_)))
  show wpAny _ _ (Builtin.Dict.pendingCount d>>=_) _ _ s
  refine wpAny_bind (wpAny_pendingCount_other hd ?_)
  refine wpAny_ret_mkInt ?_
  have:es.size=kvs.length:=size_of_entries hk
  rw[Nat.add_zero,this];exact h
theorem y9{prog:Program}{w:World}{K:Type}[DecidableEq K]{knd:HeapKind prog w K}{A:Around}{E:Value->Shared->Prop}{s:Shared}{d:Addr}{kvs:List (K×Addr×Value)}{Q:Value->Shared->Prop}(hd:(d==sysModules)=false)(hm:s.heap.DictOfH knd d kvs)(hfit:(kvs.length:Int)<2 ^ 63)
  (h:Q (.int kvs.length (s.toks+1)) {s with toks:=s.toks+1+1}):wpAny (model prog w) A (call (.builtin "len") [.ref d]) Q E s:=by
 refine Calls.call_function_entry kind_len plain_len entry_len (args_len1 _) ?_
 unfold Builtin.«len»
 refine wpAny_bind (m:=oneArg "len" _) (wpAny_pure ?_)
 refine wpAny_bind (m:=callSpecial? (.ref d) (Str.ofString "__len__")) (wpAny_callSpecial?_slot (name:=Str.ofString "__len__") hm.typeIs PySem.F.slot_dict_len
  (call_meetsIn PySem.F.slot_dict_len hm.typeIs PySem.F.entry_dict_len (PySem.F.args_dict_len_1 _) (xo knd d hd) ⟨kvs,hm,?_⟩))
 show wpAny _ _ _ _ _ {s with toks:=s.toks+1}
 refine wpAny_bind (wpAny_holding (wpAny_pure ?_))
 refine wpAny_bind (wpAny_letGo ?_)
 show wpAny _ _ (if ((kvs.length:Nat):Int)<0 then _ else _) _ _ _
 rw[if_neg ∅]
 show wpAny _ _ (if ((kvs.length:Nat):Int) ≥ 2 ^ 63 then _ else _) _ _ _
 rw[if_neg ∅]
 exact wpAny_bind (wpAny_mkInt (wpAny_pure ⟨_,rfl,h⟩))
noncomputable def IS:List D->Mu->DK->Prop:=fun xs Z Q=>∃a c,xs=[.b a]/\Z.b a=some c/\MR c/\Q (.v (.int (ED c:Nat))) Z
noncomputable def RJ(K:PySem.W.Frag)(r:List D->Mu->DK->Prop):List V->Hp->VK->Prop:=fun us H Q=>∃ds Z Qd,bM K Z H/\kL K Z H ds us/\r ds Z Qd/\∀d u U H',Ext K Z H U H'->bM K U H'->RpD K U H' d u->Qd d U->Q u H'
theorem PV{K:PySem.W.Frag}{r:List D->Mu->DK->Prop}:oN K (RJ K r) r:=fun xs us H Z Qd Q ok rs h k=>⟨xs,Z,Qd,ok,rs,h,k⟩
theorem JU:j5 X (.builtin "len") (RJ X.K IS):=by
 intro pins s σ H xs us Q I r h
 obtain⟨ds,Z,Qd,ok,rs,⟨a,c,rfl,hc,few,q⟩,kk⟩:=h
 cases rs with
 |cons r1 r2=>
  cases r2
  obtain⟨rfl,_⟩:=r1
  obtain⟨u,rfl,rx⟩:=vals1 r
  cases rx
  obtain⟨ns,ob,hr,hb⟩:=ok.box a c hc
  have fin:∀(t:Tok) s',Inv X pins σ H s'->EP X pins σ Q (.int (ED c:Nat) t) s':=fun t s' I'=>⟨.int (ED c:Nat),H,I',⟨t,rfl⟩,kk (.v (.int (ED c:Nat))) _ Z H .refl ok (Rp.int _) q⟩
  cases c with
  |set ks=>
   obtain⟨h1,L,ep,t,h2,h3,h4,h5,_,_⟩:=hb
   have hs:(L.map (·.2)).toArray.size=ks.length:=by rw[size_toArray,length_map,h5]
   have few':ks.length<=9800:=few
   refine PySem.call_len_set (show s.heap.get? a=some ob from I.hok a _ hr) h1 h2 (ST.fits_of h3 ∅) (by rw[hs];exact Int.lt_of_le_of_lt (by exact_mod_cast few':(ks.length:Int)<=9800) ⋯) ?_
   rw[hs]
   exact fin _ _ (I.kept (h':=s.heap) (t':=s.toks+1+1) fun _ _ e=>e)
  |dict kvs=>
   obtain⟨xs,dp,dd,len⟩:=qI I hr hb
   have few':kvs.length<=9800:=few
   refine y9 ns dd (by rw[<- dp.length];exact Int.lt_of_le_of_lt (by exact_mod_cast few':(kvs.length:Int)<=9800) ⋯) ?_
   rw[<- dp.length]
   exact fin _ _ (I.kept (h':=s.heap) (t':=s.toks+1+1) fun _ _ e=>e)
theorem Iu{es:List Expr}{t:DTA}(hg:Gl X "len")(hm:X.mg "len"=none)(ha:DA X (e::es) t)
  (he:starEach (e::es) X.env=(false,eval e X.env)::starEach es X.env:=by rfl) (hpl:(backTo pos (starEach es X.env)).any (·.1)=false:=by rfl):DE X (.Call (.Name "len" p) (e::es) [] pos) (dCB IS t):=
 nk JU PV hg hm PySem.boot_len ha ⋯ ⋯ he hpl
end
theorem rT{prog:Program}{w:World}{A:Around}{R:Result->Shared->Prop}{s:Shared}{kx vx target iter:Expr}{ifs:List Expr}{scope:Scope}{pos:Pos}{it:Value}{D:Addr}{env:Env}(I:Nat->Shared->Prop)
  (turn:∀n s,I n s->wpAny (model prog w) A (pyNext it) (fun r ci=>match r with
   |none=>R (.ok .next) ci
   |some v=>wpAny (model prog w) A (letOwnedTupleGo target it v) (fun _ s'=>wpAny (model prog w) A (assign target env v) (fun _ ii=>
     wpAny (model prog w) A (forIn ifs true fun c r=>if r=true then do let ok <- isTrue c env (eval c env);pure (ForInStep.yield ok) else pure (ForInStep.yield r)) (fun ok ce=>
      if ok=true then wpAny (model prog w) A (eval kx env) (fun kv sn=>wpAny (model prog w) A (eval vx env) (fun vv re=>
       wpAny (model prog w) A (dictSet D kv vv) (fun _ ww=>∃m,m<n/\I m ww) (fun _ _=>False) re) (fun _ _=>False) sn) (fun _ _=>False) ce
      else ∃m,m<n/\I m ce) (fun _ _=>False) ii) (fun _ _=>False) s') (fun _ _=>False) ci) (fun _ _=>False) s)
  (n:Nat) (h:I n s) :
  codeAny (model prog w) A (.compLoop (.DictComp kx vx [⟨target,iter,ifs,0⟩] scope pos) 0 it (.ref D) env) R s:=by
 refine codeAny_loop rfl I (fun n s hI=>?_) n h
 show wpAny _ A ((compTurn (.DictComp kx vx [⟨target,iter,ifs,0⟩] scope pos) 0 it (.ref D) env).onRaise (fun x=>do noteFrame x env;theTreesLotGoes x)) _ _ s
 refine wpAny_noted ?_
 rw[compTurn_dict]
 refine wpAny_bind (wpAny_standAt (wpAny_bind (wpAny_mono (turn n s hI) (fun r ci gl=>?_) fun _ _ h'=>h'.elim)))
 cases r with
 |none=>exact wpAny_pure gl
 |some v=>
  refine wpAny_bind (wpAny_mono gl (fun _ s' h'=>?_) fun _ _ h'=>h'.elim)
  refine wpAny_bind (wpAny_mono h' (fun _ ii o0=>wpAny_bind (wpAny_mono o0 (fun ok ce pd=>?_) fun _ _ h'=>h'.elim)) fun _ _ h'=>h'.elim)
  cases ok with
  |false=>exact wpAny_pure ⟨rfl,pd⟩
  |true=>
   exact wpAny_bind (wpAny_bind (wpAny_mono pd (fun kv sn u8=>wpAny_bind (wpAny_holding (wpAny_mono u8 (fun vv re v4=>wpAny_bind (wpAny_standAt (wpAny_holding (wpAny_mono v4 (fun _ ww x0=>wpAny_pure ⟨rfl,x0⟩) fun _ _ h'=>h'.elim)))) fun _ _ h'=>h'.elim))) fun _ _ h'=>h'.elim))
noncomputable def putAll{α:Type}(l:List (List Int×α)):List (List Int×α):=l.foldl (fun a x=>jf a x.1 x.2) []
theorem putAll_snoc{α:Type}(l:List (List Int×α))(k:List Int)(y:α):putAll (l++[(k,y)])=jf (putAll l) k y:=by unfold putAll;rw[List.foldl_append];rfl
theorem yj{α:Type}(l:List (List Int×α)):(putAll l).length<=l.length:=by
 have:∀(l a:List (List Int×α)),(l.foldl (fun a x=>jf a x.1 x.2) a).length<=a.length+l.length:=fun l=>by
  induction l with
  |nil=>intro a;exact Nat.le_refl _
  |cons x l ih=>
   intro a
   rw[List.foldl_cons,length_cons]
   have h1:=ih (jf a x.1 x.2)
   have h2:=zi a x.1 x.2
   omega
 have h:=this l []
 rw[length_nil,Nat.zero_add] at h
 exact h
theorem D9{β:Type}{xs:List PyData}{f:PyData->Option β}{i:Nat}{d:PyData}(h:xs[i]? = some d):(xs.take (i+1)).filterMap f=(xs.take i).filterMap f++(f d).toList:=by
 obtain⟨hi,e⟩:=List.getElem?_eq_some_iff.mp h
 rw[List.take_succ_eq_append_getElem hi,List.filterMap_append,e]
 cases q:f d<;>simp[q]
noncomputable def vk(cap:List (Option Nat))(src:DTI)(g:DTG)(c:DTT)(tk tv:DTE):DTE:=fun ρ Z Q=>src ρ Z fun xs am=>xs.length<=1000/\∃f:PyData->Option (List Int×PyData),
 (∀x∈xs,∀U:Mu,(∀a ds,am a=some ds->U a=some ds)->g (.v x) (bE cap ρ) U fun dL be=>Le (bE cap ρ) dL/\c dL be fun b bi=>
  if b=true then tk dL bi fun dk dl=>tv dL dl fun dv jp=>jp=U/\∃k y,o8 dk=some k/\dv = .v y/\f x=some (k,y) else bi=U/\f x=none)/\∀p,am.b p=none->Q (.b p) (bo am p (.dict (putAll (xs.filterMap f))))
theorem Jl{cap:List (Option Nat)}{src:DTI}{g:DTG}{c:DTT}{tk tv:DTE}{ρ:Rho}{Z:Mu}{Q:DK}:vk cap src g c tk tv ρ Z Q=src ρ Z fun xs am=>xs.length<=1000/\∃f:PyData->Option (List Int×PyData),
 (∀x∈xs,∀U:Mu,(∀a ds,am a=some ds->U a=some ds)->g (.v x) (bE cap ρ) U fun dL be=>Le (bE cap ρ) dL/\c dL be fun b bi=>
  if b=true then tk dL bi fun dk dl=>tv dL dl fun dv jp=>jp=U/\∃k y,o8 dk=some k/\dv = .v y/\f x=some (k,y) else bi=U/\f x=none)/\∀p,am.b p=none->Q (.b p) (bo am p (.dict (putAll (xs.filterMap f)))):=rfl
theorem FY{X:Cx}{pos2:Pos}{use:Option (Value->Sem Unit)}{QQ:Value->Shared->Prop}{pins:List (Addr×Obj)}{s:Shared}{σ:St}{H:Hp}{ρ:Rho}{Z:Mu}{Qd:DK}{N':List Str}{scope:Scope}{cl:List (Str×Addr)}{kx vx iter tg:Expr}{ifs:List Expr}{pos:Pos}{cap:List (Option Nat)}{src:DTI}{g:DTG}{c:DTT}{tk tv:DTE}(hc:X.calm=X.calm)(hu:X.A.units+64<cLine)
  (hi:DI X tg iter src) (hg:∀fp ce db,DG (aH X N' scope cl fp ce db) tg g) (hif:∀fp ce db,EB (aH X N' scope cl fp ce db) ifs c) (hkx:∀fp ce db,DE (aH X N' scope cl fp ce db) kx tk) (hvx:∀fp ce db,DE (aH X N' scope cl fp ce db) vx tv)
  (hclos:closureFor scope X.env=pure cl) (hcell:∀y∈scope.names,y.2≠.cell) (hkind:scope.kind = .function) (hnames:∀y∈scope.names,y.2 = .local->scope.names.lookup y.1=some .local)
  (hcl:∀x a,cl.lookup x=some a->X.env.cells.lookup x=some a) (hhas:∀x,(relabel scope X.env).names.lookup x=some .cell\/(relabel scope X.env).names.lookup x=some .free->∃a,cl.lookup x=some a)
  (hlen:cap.length=N'.length) (hcap:∀(i j:Nat) (x:Str),cap[i]? = some (some j)->N'[i]? = some x->X.N[j]? = some x/\Vis X.env.scope x/\X.env.kindOf x≠some .local/\((relabel scope X.env).names.lookup x=some .cell\/(relabel scope X.env).names.lookup x=some .free))
  (hs:∀x,foldedSetIterable iter X.env x=pure x) (I:Inv X pins σ H s) (S:St0 X.K H ρ Z σ) (h:vk cap src g c tk tv ρ Z Qd)
  (hend:∀(s4:Shared) (Hc:Hp) (C pa:Addr) (m:Str->Option Value) (sK:Mu),s4.heap.Ns C m->rP X pins Hc C->(∀h',Heap.SameBut C s4.heap h'->Inv X pins σ Hc {s4 with heap:=h'}) ->
   Ext X.K Z H sK Hc->St0 X.K Hc ρ sK σ->RpD X.K sK Hc (.b pa) (.ref pa)->Qd (.b pa) sK->compPost (model X.prog X.w) X.A X.xe use QQ (.ref pa) C (.ok .next) s4) :
  wpAny (model X.prog X.w) X.A (comprehension (.DictComp kx vx [⟨tg,iter,ifs,0⟩] scope pos) scope X.env pos2 newDict false (eval iter X.env) use) QQ X.xe s:=by
 obtain⟨wi,pw,li⟩:=hi
 refine wpAny_comprehension_free rfl hs hclos hkind hnames (thn (pw pins s σ H _ I (li σ H ρ Z _ (fun J H1=>∃xs am,Ext X.K Z H am H1/\St0 X.K H1 ρ am σ/\JJ X.K J xs am H1/\xs.length<=1000/\∃f:PyData->Option (List Int×PyData),
   (∀x∈xs,∀U:Mu,(∀a ds,am a=some ds->U a=some ds)->g (.v x) (bE cap ρ) U fun dL be=>Le (bE cap ρ) dL/\c dL be fun b bi=>
    if b=true then tk dL bi fun dk dl=>tv dL dl fun dv jp=>jp=U/\∃k y,o8 dk=some k/\dv = .v y/\f x=some (k,y) else bi=U/\f x=none)/\∀p,am.b p=none->Qd (.b p) (bo am p (.dict (putAll (xs.filterMap f))))) S h (fun xs am H1 J e1 S1 it q=>⟨xs,am,e1,S1,it,q⟩)))
  fun v s1 h1=>thn h1 fun itv s2 h2=>?_)
 obtain⟨it,fp,tn,J,H2,rfl,I2,T,st2,f2,xs,am,e1,S1,itok,hxs,f,body,fin⟩:=h2
 refine wpAny_newObj_type (wpAny_newFunctionEnv hcell (by intro y hy;simp at hy) (fun gl kw ld=>?_) hkind)
 dsimp only at kw ld ⊢
 have hfree2:H2 s2.heap.objs.size=none:=I2.hok.fresh (Nat.le_refl _)
 have hK2:X.K.lookup s2.heap.objs.size=none:=by
  cases z:X.K.lookup s2.heap.objs.size with
  |none=>rfl
  |some o=>exact absurd (Heap.lt_size (I2.kIn _ _ z)) (lt_irrefl _)
 have I3:Inv X pins σ (upd H2 s2.heap.objs.size (.raw {cls:=.type "dict",dict:=none,data:=.dict #[]})) {s2 with heap:=s2.heap.push {cls:=.type "dict",dict:=none,data:=.dict #[]}}:=
  I2.laid (t':=s2.toks) (fun b u e=>Heap.get?_push_of_some _ e) (Nat.le_refl _) (Heap.get?_push_size _ rfl)
 generalize hH:s2.heap.push {cls:=.type "dict",dict:=none,data:=.dict #[]} = hp3 at kw ld I3 ⊢
 have hsz3:hp3.objs.size=s2.heap.objs.size+1:=by rw[<- hH,Heap.size_push]
 have kept3:∀b o,hp3.get? b=some o->gl.get? b=some o:=fun b o e=>ld.extBut b o (ne_of_lt (Heap.lt_size e)) (Heap.get?_push_of_some _ e)
 have old3:∀b o,s2.heap.get? b=some o->hp3.get? b=some o:=fun b o e=>by rw[<- hH];exact Heap.get?_push_of_some _ e
 have fplt:∀b∈fp,b<s2.heap.objs.size:=fun b hb=>by obtain⟨o,e,_⟩:=T.obj 0 _ st2 b hb;exact Heap.lt_size e
 have fpst:∀b∈fp,b ∉ frs X.stack:=fun b hb hz=>by
  rcases List.mem_cons.mp (I2.lQ b hz) with e|e
  ·exact (f2 b hb).2.1 e
  ·exact (f2 b hb).2.2.1 e
 obtain⟨s3,hs3⟩:∃s3:Shared,s3={s2 with heap:=hp3}:=⟨_,rfl⟩
 obtain⟨H3,hH3⟩:∃H3:Hp,H3=upd H2 s2.heap.objs.size (.raw {cls:=.type "dict",dict:=none,data:=.dict #[]}):=⟨_,rfl⟩
 have heap3:s3.heap=hp3:=by rw[hs3]
 rw[<- hH3] at I3
 have I3':Inv X pins σ H3 s3:=by rw[hs3];exact I3
 have hloc:H3 hp3.objs.size=none:=by have:=I3'.hok.fresh (a:=hp3.objs.size) (by rw[heap3];exact Nat.le_refl _);exact this
 have okc:(aH X N' scope cl fp s3 H3).Ok:=by
  refine⟨I3.ok.mod,?_,I3.ok.glob,I3.ok.blt,Nat.le_refl _,fun x y a h1 h2=>I3.ok.inj x y a (hcl x a h1) (hcl y a h2),fun x hx=>hhas x hx,fun x a h=>(nomatch h),I3.ok.hd,I3.ok.qt,I3.ok.frames,.inl rfl,fun b hb=>⟨?_,fun x a h=>(f2 b hb).2.2.2.2.1 x a (hcl x a h)⟩,
   I3'.bs,le_trans I3.ok.bsz I3'.sz,fun b o e hb=>?_,fun b hb=>fpst b hb,I3'.stack,I3'.ur⟩
  ·exact hkind
  ·show b≠s3.heap.objs.size
   rw[heap3,hsz3]
   exact ne_of_lt (lt_succ_of_lt (fplt b hb))
  ·rcases (f2 b hb).2.2.2.1 with z|z
   ·exact I3.ok.FD b o e z
   ·exact absurd (lt_of_lt_of_le (Heap.lt_size (I3.ok.bs b o e).1) z) (lt_irrefl _)
 have I4:Inv (aH X N' scope cl fp s3 H3) [] (bE cap σ) H3 {s2 with heap:=gl,toks:=s2.toks+([]:List (Str×Value)).length}:=by
  refine⟨okc,by show s2.os=s3.os;rw[hs3],I3.bare,Un.kept (by show ∀b o,s3.heap.get? b=some o->_;rw[heap3];exact kept3),⟨_,(by show gl.Ns s3.heap.objs.size _;rw[heap3];exact kw),fun i x v e1 e2 e3=>?_⟩,fun x a h=>?_,(by show H3 s3.heap.objs.size=none;rw[heap3];exact hloc),fun x a h=>I3.mT x a (hcl x a h),fun p hp=>?_,I3.hok.kept kept3,?_⟩
  ·obtain⟨j,h1,h2⟩:=pN e2
   obtain⟨hN,hv,hnl,hk⟩:=hcap i j x h1 e1
   obtain⟨m,_,hl⟩:=I3.loc
   obtain⟨u,r,lk⟩:=hl j x v hN h2 hv
   refine⟨u,r,.inr ⟨hk,?_⟩⟩
   obtain⟨a,ha⟩:=hhas x hk
   rcases lk with ⟨z,_⟩|⟨_,a',z1,z2⟩
   ·exact absurd z hnl
   ·have:a'=a:=by have q:=hcl x a ha;rw[z1] at q;exact Option.some.inj q
    subst this
    obtain⟨o,ho,hd⟩:=z2
    exact⟨a',ha,o,kept3 _ _ ho,hd⟩
  ·obtain⟨v,o,ho,hd⟩:=I3.cell x a (hcl x a h)
   exact⟨v,o,kept3 _ _ ho,hd⟩
  ·have hp':p∈X.pn++pins:=mem_append_left _ (by simpa using (show p∈X.pn++[] from hp))
   obtain⟨z1,z2,z3,z4,z5⟩:=I3'.pin p hp'
   refine⟨kept3 _ _ (by rw[<- heap3];exact z1),z2,(show p.1≠s3.heap.objs.size from ne_of_lt (Heap.lt_size z1)),fun z=>?_,z5⟩
   rcases List.mem_cons.mp (I3'.lQ p.1 z) with e|e
   ·exact z3 e
   ·exact z4 e
  ·show (bE cap σ).length=N'.length
   unfold bE
   rw[length_map]
   exact hlen
 have lw:am.b s2.heap.objs.size=none:=S1.mu.I0 hfree2
 have sub1:∀(ys:Box) a ds,am a=some ds->bo am s2.heap.objs.size ys a=some ds:=fun ys a ds e=>e
 have loop:codeAny (model X.prog X.w) X.A (.compLoop (.DictComp kx vx [⟨tg,iter,ifs,0⟩] scope pos) 0 (.ref it) (.ref s2.heap.objs.size) (aH X N' scope cl fp s3 H3).env)
   (compPost (model X.prog X.w) X.A X.xe use QQ (.ref s2.heap.objs.size) hp3.objs.size) {s2 with heap:=gl,toks:=s2.toks+([]:List (Str×Value)).length}:=by
  refine rT (fun n s'=>∃(i:Nat) (ga:St) (Hc:Hp),n=xs.length-i/\i<=xs.length/\Inv (aH X N' scope cl fp s3 H3) [] ga Hc s'/\tn i s'.heap/\(∀b∈fp,Hc b=none) /\
   St0 X.K Hc (bE cap ρ) (bo am s2.heap.objs.size (.dict (putAll ((xs.take i).filterMap f)))) ga/\Ext X.K am H2 (bo am s2.heap.objs.size (.dict (putAll ((xs.take i).filterMap f)))) Hc) ?_ xs.length
   ⟨0,bE cap σ,H3,by simp,zero_le _,I4,T.keep 0 _ _ st2 (fun b hb o e=>kept3 b o (old3 b o e)),fun b hb=>?_,?_,?_⟩
  ·rintro n s' ⟨i,ga,Hc,rfl,hi,Ic,tc,frc,Sc,Ec⟩
   have stat:∀{Hd:Hp},(∀b∈fp,Hd b=none)->∀b∈fp,rP (aH X N' scope cl fp s3 H3) [] Hd b:=fun hn b hb=>
    ⟨hn b hb,(okc.exf b hb).1,fpst b hb,.inl hb,fun x a h=>(okc.exf b hb).2 x a h,fun p hp=>(f2 b hb).2.2.2.2.2 p (mem_append_left _ (by simpa using (show p∈X.pn++[] from hp)))⟩
   obtain⟨go,stop⟩:=itok _ Hc Ec Sc.mu i
   by_cases hlt:i<xs.length
   ·obtain⟨g1,y1⟩:=go hlt
    refine thn (T.item (aH X N' scope cl fp s3 H3) rfl rfl rfl (fun z=>z) i [] s' ga Hc (fun _ _=>False) Ic (stat frc) tc g1) fun r s4 hq0=>?_
    obtain⟨u,hr,h4⟩:=hq0
    subst hr
    refine thn h4 fun _ s5 hq0=>?_
    obtain⟨x,H5,I5,r5,y5,st5,fr5⟩:=hq0
    obtain⟨d,hd,sm,rd⟩:=y1 x H5 y5
    have I5':=I5.pinned (stat fr5) (T.obj _ _ st5)
    have e5:Ext X.K _ Hc _ H5:=.of_same (Z:=bo am s2.heap.objs.size (.dict (putAll ((xs.take i).filterMap f)))) sm
    have S5:St0 X.K H5 (bE cap ρ) (bo am s2.heap.objs.size (.dict (putAll ((xs.take i).filterMap f)))) ga:=⟨Sc.mu.HL e5 sm,Sc.rho.ext Sc.mu e5⟩
    obtain⟨gt,pg,lg⟩:=hg fp s3 H3
    have hmem:d∈xs:=mem_of_getElem? hd
    refine thn (pg _ s5 ga H5 x u (fun ca H'=>∃bv U,Ext X.K (bo am s2.heap.objs.size (.dict (putAll ((xs.take i).filterMap f)))) H5 U H'/\St0 X.K H' bv U ca/\Le (bE cap ρ) bv/\c bv U fun b bi=>
      if b=true then tk bv bi fun dk dl=>tv bv dl fun dv jp=>jp=bo am s2.heap.objs.size (.dict (putAll ((xs.take i).filterMap f)))/\∃k y,o8 dk=some k/\dv = .v y/\f d=some (k,y) else bi=bo am s2.heap.objs.size (.dict (putAll ((xs.take i).filterMap f)))/\f d=none) I5' r5
     (lg ga H5 (bE cap ρ) _ (.v d) x _ _ S5 rd (body d hmem _ (sub1 _)) fun ca bv U H' e' S' q=>⟨bv,U,e',S',q⟩)) fun _ s6 ⟨im,H6,I6,lf,tt,e6,S6,le6,q6⟩=>?_
    refine thn (hif fp s3 H3 _ s6 im H6 lf tt _ (fun b H'=>∃U,Ext X.K tt H6 U H'/\St0 X.K H' lf U im/\if b=true then tk lf U fun dk dl=>tv lf dl fun dv jp=>jp=bo am s2.heap.objs.size (.dict (putAll ((xs.take i).filterMap f)))/\∃k y,o8 dk=some k/\dv = .v y/\f d=some (k,y) else U=bo am s2.heap.objs.size (.dict (putAll ((xs.take i).filterMap f)))/\f d=none)
     I6 S6 q6 fun b U H' e' S' q=>⟨U,e',S',q⟩) fun b s7 ⟨H7,I7,po,e7,S7,q7⟩=>?_
    have again:∀{H9:Hp} {s9:Shared},Inv (aH X N' scope cl fp s3 H3) ([]++sQ fp s5.heap) im H9 s9->bM X.K (bo am s2.heap.objs.size (.dict (putAll ((xs.take (i+1)).filterMap f)))) H9->i5 X.K (bo am s2.heap.objs.size (.dict (putAll ((xs.take (i+1)).filterMap f)))) H9 (bE cap ρ) im ->
      Ext X.K am H2 (bo am s2.heap.objs.size (.dict (putAll ((xs.take (i+1)).filterMap f)))) H9->∃m,m<xs.length-i/\∃(i:Nat) (ga:St) (Hc:Hp),m=xs.length-i/\i<=xs.length/\Inv (aH X N' scope cl fp s3 H3) [] ga Hc s9/\tn i s9.heap/\(∀b∈fp,Hc b=none) /\
       St0 X.K Hc (bE cap ρ) (bo am s2.heap.objs.size (.dict (putAll ((xs.take i).filterMap f)))) ga/\Ext X.K am H2 (bo am s2.heap.objs.size (.dict (putAll ((xs.take i).filterMap f)))) Hc:=fun {H9 s9} I9 m9 r9 e9=>by
     refine⟨xs.length-(i+1),∅,i+1,im,H9,rfl,hlt,I9.fk,T.keep _ _ _ st5 fun b hb o e=>(I9.pin (b,o) (mem_append_right _ (mem_append_right _ (bQ hb e)))).1,fun b hb=>?_,⟨m9,r9⟩,e9⟩
     obtain⟨o,e,_⟩:=T.obj _ _ st5 b hb
     exact (I9.pin (b,o) (mem_append_right _ (mem_append_right _ (bQ hb e)))).2.1
    cases b with
    |false=>
     have q8:po=bo am s2.heap.objs.size (.dict (putAll ((xs.take i).filterMap f)))/\f d=none:=by simpa using q7
     refine AW ?_
     have et:(xs.take (i+1)).filterMap f=(xs.take i).filterMap f:=by rw[D9 hd,q8.2];simp
     have tj:bo am s2.heap.objs.size (.dict (putAll ((xs.take (i+1)).filterMap f)))=po:=by rw[et,q8.1]
     refine again I7 (by rw[tj];exact S7.mu) (by rw[tj];exact S7.rho.le le6) ?_
     rw[tj]
     exact Ec.trans (e5.trans (e6.trans e7))
    |true=>
     refine AL ?_
     have q8:tk lf po fun dk dl=>tv lf dl fun dv jp=>jp=bo am s2.heap.objs.size (.dict (putAll ((xs.take i).filterMap f)))/\∃k y,o8 dk=some k/\dv = .v y/\f d=some (k,y):=by simpa using q7
     refine thn ((hkx fp s3 H3).use I7 S7 q8) fun v s8 hq0=>?_
     obtain⟨dk,uk,sB,H8,I8,rk,e8,S8,rdk,q9⟩:=hq0
     refine thn ((hvx fp s3 H3).use I8 S8 q9) fun v' s9 hq0=>?_
     obtain⟨dv,uv,ul,H9,I9,rv,e9,S9,rdv,tj,kk,y,hk,ev,fy⟩:=hq0
     subst tj;subst ev
     obtain⟨qk,rfl,hq8⟩:=qM rdk hk
     have hq:SqT X.K H9 qk (kk.map V.int):=oM S8.mu e9 hq8
     cases rk
     have hle:((xs.take i).filterMap f).length<=1000:=le_trans (List.length_filterMap_le _ _) (le_trans (by rw[length_take];exact Nat.min_le_right _ _) hxs)
     obtain⟨ns,ob,hr,hb⟩:=S9.mu.box s2.heap.objs.size _ bc
     obtain⟨es,dp,dd,len⟩:=qI I9 hr hb
     refine wpAny_dictSet_heap (hsz:=len) (show X.A.units<cLine by omega) (iY I9 hq) dd fun h' dd' sb=>?_
     have et:(xs.take (i+1)).filterMap f=(xs.take i).filterMap f++[(kk,y)]:=by rw[D9 hd,fy];rfl
     have ep:putAll ((xs.take (i+1)).filterMap f)=jf (putAll ((xs.take i).filterMap f)) kk y:=by rw[et,putAll_snoc]
     have hl:(jf (putAll ((xs.take i).filterMap f)) kk y).length<=sizeLine:=by
      have h1:=zi (putAll ((xs.take i).filterMap f)) kk y
      have h2:=yj ((xs.take i).filterMap f)
      rw[sizeLine_eq];omega
     obtain⟨o',g1,g2⟩:=BD (X:=X) (Z:=bo am s2.heap.objs.size (.dict (putAll ((xs.take i).filterMap f)))) (H:=H9) hl (dp.put hq rdv rv) dd'
     have exx:=xY (K:=X.K) (Z:=bo am s2.heap.objs.size (.dict (putAll ((xs.take i).filterMap f)))) (c:=.dict (jf (putAll ((xs.take i).filterMap f)) kk y)) (o':=o') hr
     have mset:bo (bo am s2.heap.objs.size (.dict (putAll ((xs.take i).filterMap f)))) s2.heap.objs.size (.dict (jf (putAll ((xs.take i).filterMap f)) kk y))=bo am s2.heap.objs.size (.dict (putAll ((xs.take (i+1)).filterMap f))):=by rw[ep];exact JS
     have m9:=S9.mu.GX ns hr g2
     rw[mset] at exx m9
     refine again (C9 (ob:=.raw o') I9 (by rw[hr];exact True.intro) sb ⟨o',g1⟩ g1) m9 ?_ ?_
     ·exact (S9.rho.le le6).ext S9.mu exx
     ·exact Ec.trans (e5.trans (e6.trans (e7.trans (e8.trans (e9.trans exx)))))
   ·have ei:i=xs.length:=by omega
    subst ei
    refine thn (T.done (aH X N' scope cl fp s3 H3) rfl rfl rfl (fun z=>z) _ [] s' ga Hc (fun _ _=>False) Ic (stat frc) tc (stop rfl)) fun r s4 hq0=>?_
    obtain⟨hr,I5⟩:=hq0
    subst hr
    rw[take_length] at Sc Ec
    obtain⟨m,hn,_⟩:=I5.loc
    have hcC:Hc hp3.objs.size=none:=by have z:Hc s3.heap.objs.size=none:=I5.free;rw[heap3] at z;exact z
    refine hend s4 Hc hp3.objs.size s2.heap.objs.size m _ (by have z:s4.heap.Ns s3.heap.objs.size m:=hn;rw[heap3] at z;exact z) (I2.Gr (by rw[hsz3];exact Nat.le_succ _) hcC) (fun h' hs'=>?_) (e1.trans Ec) ⟨Sc.mu,S1.rho.ext S1.mu Ec⟩ ⟨rfl,_,bc⟩ (fin _ lw)
    have kp:∀b o,b<s2.heap.objs.size->s4.heap.get? b=some o->h'.get? b=some o:=fun b o hb e=>hs'.extBut b o (by rw[hsz3];exact ne_of_lt (lt_succ_of_lt hb)) e
    have hok':HOk X.prog X.w Hc h':=fun b ob e=>by
     refine (I5.hok b ob e).sA (fun cc v hcc q=>hs'.extBut cc v ?_ q) (fun _ q=>q) fun _ _ q=>q
     rintro rfl
     rcases hcc with z|z
     ·rw[<- z,hcC] at e;cases e
     ·rw[hcC] at z;cases z
    have u1:Un (frs X.stack) fp H2 H3 s2.heap s3.heap:=by rw[heap3,hH3];exact Un.laid old3 (Nat.le_refl _) hfree2
    have u2:Un (frs X.stack) fp H3 Hc s3.heap s4.heap:=I5.base
    exact I2.Bv (ch:=fp) (by show s4.os=s2.os;have z:s4.os=s3.os:=I5.os;rw[z,hs3]) (Un.after (u1.trans u2) kp) hok' I5.bare fun b hb=>⟨(f2 b hb).2.2.2.1,(f2 b hb).2.1,(f2 b hb).2.2.2.2.1,(f2 b hb).2.2.2.2.2⟩
  ·have z:b≠s2.heap.objs.size:=ne_of_lt (fplt b hb)
   rw[hH3,aU z]
   exact (f2 b hb).1
  ·have ex:=j7 (K:=X.K) (o:={cls:=.type "dict",dict:=none,data:=.dict #[]}) (c:=.dict []) S1.mu hfree2
   rw[hH3]
   exact⟨S1.mu.GP (HS I2) hfree2 (Bb rfl),(S1.rho.ext S1.mu ex).cap⟩
  ·rw[hH3]
   exact j7 (K:=X.K) (o:={cls:=.type "dict",dict:=none,data:=.dict #[]}) (c:=.dict []) S1.mu hfree2
 have envE:(aH X N' scope cl fp s3 H3).env=compEnvC scope cl hp3.objs.size X.env:=by show compEnvC scope cl s3.heap.objs.size X.env=_;rw[heap3]
 rw[envE] at loop
 exact codeAny_compStart_dict loop (T.self X.A 0 _ _ _ (T.keep 0 _ _ st2 (fun b hb o e=>kept3 b o (old3 b o e))) loop)
theorem IM{X:Cx}{i:Nat}{x:Str}{pos' spos:Pos}{N':List Str}{scope:Scope}{cl:List (Str×Addr)}{kx vx iter tg:Expr}{ifs:List Expr}{pos:Pos}{cap:List (Option Nat)}{src:DTI}{g:DTG}{c:DTT}{tk tv:DTE}(hN:X.N.Nodup)(hix:X.N[i]? = some x)(hx:X.env.scope.names.lookup x=some .local)(hc:X.calm=X.calm)(hu:X.A.units+64<cLine)
  (hi:DI X tg iter src) (hg:∀fp ce db,DG (aH X N' scope cl fp ce db) tg g) (hif:∀fp ce db,EB (aH X N' scope cl fp ce db) ifs c) (hkx:∀fp ce db,DE (aH X N' scope cl fp ce db) kx tk) (hvx:∀fp ce db,DE (aH X N' scope cl fp ce db) vx tv)
  (hclos:closureFor scope X.env=pure cl) (hcell:∀y∈scope.names,y.2≠.cell) (hkind:scope.kind = .function) (hnames:∀y∈scope.names,y.2 = .local->scope.names.lookup y.1=some .local)
  (hcl:∀x a,cl.lookup x=some a->X.env.cells.lookup x=some a) (hhas:∀x,(relabel scope X.env).names.lookup x=some .cell\/(relabel scope X.env).names.lookup x=some .free->∃a,cl.lookup x=some a)
  (hlen:cap.length=N'.length) (hcap:∀(i j:Nat) (x:Str),cap[i]? = some (some j)->N'[i]? = some x->X.N[j]? = some x/\Vis X.env.scope x/\X.env.kindOf x≠some .local/\((relabel scope X.env).names.lookup x=some .cell\/(relabel scope X.env).names.lookup x=some .free))
  (hs:∀x,foldedSetIterable iter X.env x=pure x:=by intro _;rfl)
  (hsw:swapsWith (.DictComp kx vx [⟨tg,iter,ifs,0⟩] scope pos) (some (.Name x pos')) spos.line X.env=pure true:=by rfl):DS X (.Assign [.Name x pos'] (.DictComp kx vx [⟨tg,iter,ifs,0⟩] scope pos) spos) (ba (vk cap src g c tk tv) (ao i)):=by
 refine⟨fun D σ H=>∃ρ Z Dd,St0 X.K H ρ Z σ/\ba (vk cap src g c tk tv) (ao i) Dd ρ Z/\(∀ca bv U H',Ext X.K Z H U H'->St0 X.K H' bv U ca->Dd.nx bv U->D.nx ca H'),?_,fun σ H ρ Z Dd De S h k1 k2 k3 k4=>⟨ρ,Z,Dd,S,h,k1⟩⟩
 rintro pins s σ H D I ⟨ρ,Z,Dd,S,h,k1⟩
 rw[exec_Assign_Name_used _ _ _ _ hsw]
 refine wpAny_bind (wpAny_standAt ?_)
 show wpAny _ _ ((comprehension (.DictComp kx vx [⟨tg,iter,ifs,0⟩] scope pos) scope X.env (firstIterPos [⟨tg,iter,ifs,0⟩] pos) newDict false (eval iter X.env) (some (assign (.Name x pos') X.env))>>=fun _=>pure ())>>=_) _ _ s
 refine wpAny_bind (wpAny_bind (FY (Qd:=fun d am=>ao i d ρ am Dd.nx) hc hu hi hg hif hkx hvx hclos hcell hkind hnames hcl hhas hlen hcap hs I S h fun s4 Hc C pa m sK hn fC hI e1 S1 r q=>?_))
 have I4:Inv X pins σ Hc s4:=hI s4.heap (Heap.SameBut.refl _ _)
 obtain⟨oC,hoC,hdC⟩:∃o,s4.heap.get? C=some o/\∀v,o.data≠.cell v:=by
  obtain⟨o,h1,h2⟩:=ns_obj hn
  exact⟨o,h1,h2⟩
 have I5:=I4.pinned (fp:=[C]) (fun b hb=>by rw[List.mem_singleton.mp hb];exact fC) (fun b hb=>by rw[List.mem_singleton.mp hb];exact⟨oC,hoC,hdC⟩)
 show wpAny _ _ (assign (.Name x pos') X.env (.ref pa)) _ _ s4
 refine wpAny_assign_Name (nD I5 hN hix (Or.inl hx) (show RelV (.ref pa) (.ref pa) from rfl) (fun s' I'=>?_) (.inr hx))
 have keepC:s'.heap.get? C=some oC:=(I'.pin (C,oC) (mem_append_right _ (mem_append_right _ (bQ (List.mem_singleton.mpr rfl) hoC)))).1
 have hn':s'.heap.Ns C m:=Ie hn (by rw[keepC,hoC])
 refine⟨m,hn',fun h' hs'=>wpAny_pure (wpAny_pure ?_)⟩
 refine⟨σ.set i (some (.ref pa)),Hc,?_,k1 _ _ _ _ e1 ⟨S1.mu,S1.rho.set (d:=.b pa) r⟩ q⟩
 refine I'.fk.Bv (ch:=[C]) rfl ⟨fun b o e n hb hx=>?_,fun b o e n hb hx=>?_,fun b o e n hx=>n,fun b o e hx=>?_,fun b xs e=>e,fun b o u e=>e,fun b ps e=>⟨#[],by rw[Array.append_empty];exact e⟩⟩ ?_ I'.bare fun b hb=>?_
 ·exact hs'.extBut b o (fun z=>hx (List.mem_singleton.mpr z)) e
 ·exact⟨o.slots,hs'.extBut b o (fun z=>hx (List.mem_singleton.mpr z)) e⟩
 ·exact⟨o,hs'.extBut b o (fun z=>hx (List.mem_singleton.mpr z)) e⟩
 ·exact fun b ob e=>by
   refine (I'.hok b ob e).sA (fun cc v hcc q=>hs'.extBut cc v ?_ q) (fun _ q=>q) fun _ _ q=>q
   rintro rfl
   rcases hcc with z|z
   ·rw[<- z,fC.1] at e;cases e
   ·rw[fC.1] at z;cases z
 ·rw[List.mem_singleton.mp hb]
  exact⟨fC.2.2.2.1,fC.2.1,fC.2.2.2.2.1,fC.2.2.2.2.2⟩
noncomputable abbrev two(elt tg iter tg2 iter2:Expr)(scope:Scope)(pos:Pos):Expr:=.ListComp elt [⟨tg,iter,[],0⟩,⟨tg2,iter2,[],0⟩] scope pos
theorem A6(elt tg iter tg2 iter2:Expr)(scope:Scope)(pos:Pos)(it acc:Value)(env:Env) :
  compTurn (two elt tg iter tg2 iter2 scope pos) 0 it acc env=(standAt iter.pos>>=fun _=>pyNext it>>=fun r=>match r with
   |none=>pure (.done .next)
   |some v=>letOwnedTupleGo tg it v>>=fun _=>assign tg env v>>=fun _=>
    (eval iter2 env>>=fun x=>standAt iter2.pos>>=fun _=>foldedSetIterable iter2 env x>>=fun x=>holding [x] (pyIter x)>>=fun it2=>runOwn (.compStart (two elt tg iter tg2 iter2 scope pos) 1 it2 acc env) env>>=fun _=>
     again (.compLoop (two elt tg iter tg2 iter2 scope pos) 0 it acc env))):=by rfl
theorem AA(elt tg iter tg2 iter2:Expr)(scope:Scope)(pos:Pos)(it acc:Value)(env:Env) :
  compTurn (two elt tg iter tg2 iter2 scope pos) 1 it acc env=(standAt iter2.pos>>=fun _=>pyNext it>>=fun r=>match r with
   |none=>pure (.done .next)
   |some v=>letOwnedTupleGo tg2 it v>>=fun _=>assign tg2 env v>>=fun _=>
    (eval elt env>>=fun x=>call (.builtin "list.append") [acc,x]>>=fun _=>pure ())>>=fun _=>
     again (.compLoop (two elt tg iter tg2 iter2 scope pos) 1 it acc env)):=by rfl
section
variable {prog:Program}{w:World}{A:Around}{R:Result->Shared->Prop}{s:Shared}{elt tg iter tg2 iter2:Expr}{scope:Scope}{pos:Pos}{it acc:Value}{env:Env}
theorem C1(I:Nat->Shared->Prop)(hs:∀x,foldedSetIterable iter2 env x=pure x)
  (turn:∀n s,I n s->wpAny (model prog w) A (pyNext it) (fun r ci=>match r with
   |none=>R (.ok .next) ci
   |some v=>wpAny (model prog w) A (letOwnedTupleGo tg it v) (fun _ s'=>wpAny (model prog w) A (assign tg env v) (fun _ ii=>
     wpAny (model prog w) A (eval iter2 env) (fun x ce=>wpAny (model prog w) A (pyIter x) (fun it2 sn=>
       codeAny (model prog w) A (.compStart (two elt tg iter tg2 iter2 scope pos) 1 it2 acc env) (fun r re=>∃f,r = .ok f/\∃m,m<n/\I m re) sn) (fun _ _=>False) ce) (fun _ _=>False) ii) (fun _ _=>False) s') (fun _ _=>False) ci) (fun _ _=>False) s)
  (n:Nat) (h:I n s) :
  codeAny (model prog w) A (.compLoop (two elt tg iter tg2 iter2 scope pos) 0 it acc env) R s:=by
 refine codeAny_loop rfl I (fun n s hI=>?_) n h
 show wpAny _ A ((compTurn (two elt tg iter tg2 iter2 scope pos) 0 it acc env).onRaise (fun x=>do noteFrame x env;theTreesLotGoes x)) _ _ s
 refine wpAny_noted ?_
 rw[A6]
 refine wpAny_bind (wpAny_standAt (wpAny_bind (wpAny_mono (turn n s hI) (fun r ci gl=>?_) fun _ _ h'=>h'.elim)))
 cases r with
 |none=>exact wpAny_pure gl
 |some v=>
  refine wpAny_bind (wpAny_mono gl (fun _ s' h'=>?_) fun _ _ h'=>h'.elim)
  refine wpAny_bind (wpAny_mono h' (fun _ ii o0=>wpAny_bind (wpAny_mono o0 (fun x ce pd=>?_) fun _ _ h'=>h'.elim)) fun _ _ h'=>h'.elim)
  refine wpAny_bind (wpAny_standAt (wpAny_bind (wpAny_of_eq (hs x) (wpAny_bind (wpAny_holding (wpAny_mono pd (fun it2 sn u8=>wpAny_bind (wpAny_runOwn ?_)) fun _ _ h'=>h'.elim))))))
  refine codeAny_mono u8 fun r re hq0=>?_
  obtain⟨f,e,m,hm,hI'⟩:=hq0
  subst e
  exact wpAny_pure ⟨rfl,m,hm,hI'⟩
theorem DU(I:Nat->Shared->Prop)
  (turn:∀n s,I n s->wpAny (model prog w) A (pyNext it) (fun r ci=>match r with
   |none=>R (.ok .next) ci
   |some v=>wpAny (model prog w) A (letOwnedTupleGo tg2 it v) (fun _ s'=>wpAny (model prog w) A (assign tg2 env v) (fun _ ce=>
      wpAny (model prog w) A (eval elt env) (fun x sn=>
       wpAny (model prog w) A (call (.builtin "list.append") [acc,x]) (fun _ re=>∃m,m<n/\I m re) (fun _ _=>False) sn) (fun _ _=>False) ce) (fun _ _=>False) s') (fun _ _=>False) ci) (fun _ _=>False) s)
  (n:Nat) (h:I n s) :
  codeAny (model prog w) A (.compLoop (two elt tg iter tg2 iter2 scope pos) 1 it acc env) R s:=by
 refine codeAny_loop rfl I (fun n s hI=>?_) n h
 show wpAny _ A ((compTurn (two elt tg iter tg2 iter2 scope pos) 1 it acc env).onRaise (fun x=>do noteFrame x env;theTreesLotGoes x)) _ _ s
 refine wpAny_noted ?_
 rw[AA]
 refine wpAny_bind (wpAny_standAt (wpAny_bind (wpAny_mono (turn n s hI) (fun r ci gl=>?_) fun _ _ h'=>h'.elim)))
 cases r with
 |none=>exact wpAny_pure gl
 |some v=>
  refine wpAny_bind (wpAny_mono gl (fun _ s' h'=>?_) fun _ _ h'=>h'.elim)
  refine wpAny_bind (wpAny_mono h' (fun _ ce pd=>?_) fun _ _ h'=>h'.elim)
  exact wpAny_bind (wpAny_bind (wpAny_mono pd (fun x sn u8=>wpAny_bind (wpAny_mono u8 (fun _ re v4=>wpAny_pure (wpAny_pure ⟨rfl,v4⟩)) fun _ _ h'=>h'.elim)) fun _ _ h'=>h'.elim))
theorem yi
  (h0:codeAny (model prog w) A (.compLoop (two elt tg iter tg2 iter2 scope pos) 1 it acc env) R s)
  (h:wpAny (model prog w) A (pyIter it) (fun it' s'=>codeAny (model prog w) A (.compLoop (two elt tg iter tg2 iter2 scope pos) 1 it' acc env) R s')
   (notedBy (model prog w) A env fun x s'=>R (.error x) s') s) :
  codeAny (model prog w) A (.compStart (two elt tg iter tg2 iter2 scope pos) 1 it acc env) R s:=by
 refine codeAny_of_tree ?_
 show wpAny _ _ ((compStart (two elt tg iter tg2 iter2 scope pos) 1 it acc env).onRaise (fun x=>do noteFrame x env;standAt theWindowsPlace)) _ _ s
 refine wpAny_notedAt ?_
 unfold compStart
 show wpAny _ _ (ask>>=_) _ _ s
 refine wpAny_bind (wpAny_askSetting (wpAny_ite ?_))
 split
 ·first
   |exact wpAny_bind (wpAny_pure (wpAny_pure (And.intro rfl h0)))
   |exact wpAny_pure (And.intro rfl h0)
 ·first
   |exact wpAny_bind (wpAny_rule (wpAny_bind (wpAny_standAt (wpAny_bind (wpAny_mono h (fun it' s' h'=>wpAny_pure (And.intro rfl h')) fun _ _ x=>x)))))
   |(refine wpAny_bind (wpAny_rule ?_);show wpAny _ _ (standAt iter2.pos>>=_) _ _ s;exact wpAny_bind (wpAny_standAt (wpAny_bind (wpAny_mono h (fun it' s' h'=>wpAny_pure (And.intro rfl h')) fun _ _ x=>x))))
end
theorem zf{Z:Mu}{p:Addr}{ds:List PyData}(h:Z p=some ds):aE Z p ds=Z:=Mu.eq (fun b=>by
 by_cases e:b=p
 ·rw[e,aF,h]
 ·rw[aW e]) fun _=>rfl
theorem JL{X:Cx}{N':List Str}{cl:List (Str×Addr)}{fp0:List Addr}{ce:Shared}{db:Hp}{elt tg iter tg2 iter2:Expr}{scope:Scope}{pos:Pos}{src2:DTI}{g2:DTG}{te:DTE}
  (hi2:DI (aH X N' scope cl fp0 ce db) tg2 iter2 src2) (hg2:DG (aH X N' scope cl fp0 ce db) tg2 g2) (he:DE (aH X N' scope cl fp0 ce db) elt te)
  {pins:List (Addr×Obj)} {s:Shared} {σ:St} {H:Hp} {ρ:Rho} {Z:Mu} {p:Addr} {acc zs:List PyData} (I:Inv (aH X N' scope cl fp0 ce db) pins σ H s) (S:St0 X.K H ρ Z σ) (hp:Z p=some acc) (hlen:acc.length+zs.length<=1000)
  (q:src2 ρ Z fun ys bi=>bi=Z/\∃h:PyData->PyData,zs=ys.map h/\∀y∈ys,∀gV:Mu,(∀a ds,a≠p->Z a=some ds->gV a=some ds)->g2 (.v y) ρ gV fun ls dl=>Le ρ ls/\te ls dl fun d jp=>jp=gV/\d = .v (h y)) :
  wpAny (model X.prog X.w) X.A (eval iter2 (aH X N' scope cl fp0 ce db).env) (fun x s1=>wpAny (model X.prog X.w) X.A (pyIter x) (fun it2 s2=>
   codeAny (model X.prog X.w) X.A (.compStart (two elt tg iter tg2 iter2 scope pos) 1 it2 (.ref p) (aH X N' scope cl fp0 ce db).env) (fun r s3=>∃f,r = .ok f/\∃nw H3,Inv (aH X N' scope cl fp0 ce db) pins nw H3 s3/\St0 X.K H3 ρ (aE Z p (acc++zs)) nw/\Ext X.K Z H (aE Z p (acc++zs)) H3) s2) (fun _ _=>False) s1) (fun _ _=>False) s:=by
 obtain⟨wi,pw,li⟩:=hi2
 refine thn (pw pins s σ H _ I (li σ H ρ Z _ (fun J H1=>∃ys bi,Ext X.K Z H bi H1/\St0 X.K H1 ρ bi σ/\JJ X.K J ys bi H1/\bi=Z/\∃h:PyData->PyData,zs=ys.map h/\∀y∈ys,∀gV:Mu,(∀a ds,a≠p->Z a=some ds->gV a=some ds)->g2 (.v y) ρ gV fun ls dl=>Le ρ ls/\te ls dl fun d jp=>jp=gV/\d = .v (h y)) S q
  (fun ys bi H1 J e1 S1 it q=>⟨ys,bi,e1,S1,it,q⟩))) fun v s1 h1=>thn h1 fun itv s2 h2=>?_
 obtain⟨it,fp,tn,J,H2,rfl,I2,T,st2,f2,ys,bi,e1,S1,itok,rfl,h,rfl,body⟩:=h2
 have loop:codeAny (model X.prog X.w) X.A (.compLoop (two elt tg iter tg2 iter2 scope pos) 1 (.ref it) (.ref p) (aH X N' scope cl fp0 ce db).env) (fun r s3=>∃f,r = .ok f/\∃nw H3,Inv (aH X N' scope cl fp0 ce db) pins nw H3 s3/\St0 X.K H3 ρ (aE bi p (acc++ys.map h)) nw/\Ext X.K bi H (aE bi p (acc++ys.map h)) H3) s2:=by
  refine DU (fun n s'=>∃(j:Nat) (ga:St) (Hc:Hp),n=ys.length-j/\j<=ys.length/\Inv (aH X N' scope cl fp0 ce db) pins ga Hc s'/\tn j s'.heap/\(∀b∈fp,Hc b=none) /\
   St0 X.K Hc ρ (aE bi p (acc++(ys.take j).map h)) ga/\Ext X.K bi H2 (aE bi p (acc++(ys.take j).map h)) Hc) ?_ ys.length
   ⟨0,σ,H2,by simp,zero_le _,I2,st2,fun b hb=>(f2 b hb).1,?_,?_⟩
  ·rintro n s' ⟨i,ga,Hc,rfl,hi,Ic,tc,frc,Sc,Ec⟩
   have stat:∀{Hd:Hp},(∀b∈fp,Hd b=none)->∀b∈fp,rP (aH X N' scope cl fp0 ce db) pins Hd b:=fun hn b hb=>⟨hn b hb,(f2 b hb).2⟩
   obtain⟨go,stop⟩:=itok _ Hc Ec Sc.mu i
   by_cases hlt:i<ys.length
   ·obtain⟨g1,y1⟩:=go hlt
    refine thn (T.item (aH X N' scope cl fp0 ce db) rfl rfl rfl (fun z=>z) i pins s' ga Hc (fun _ _=>False) Ic (stat frc) tc g1) fun r s4 hq0=>?_
    obtain⟨u,hr,h4⟩:=hq0
    subst hr
    refine thn h4 fun _ s5 hq0=>?_
    obtain⟨x,H5,I5,r5,y5,st5,fr5⟩:=hq0
    obtain⟨d,hd,sm,rd⟩:=y1 x H5 y5
    have I5':=I5.pinned (stat fr5) (T.obj _ _ st5)
    have e5:Ext X.K _ Hc _ H5:=.of_same (Z:=aE bi p (acc++(ys.take i).map h)) sm
    have S5:St0 X.K H5 ρ (aE bi p (acc++(ys.take i).map h)) ga:=⟨Sc.mu.HL e5 sm,Sc.rho.ext Sc.mu e5⟩
    obtain⟨gt,pg,lg⟩:=hg2
    have hmem:d∈ys:=mem_of_getElem? hd
    have sub:∀a ds,a≠p->bi a=some ds->aE bi p (acc++(ys.take i).map h) a=some ds:=fun a ds ne e=>by rw[aW ne];exact e
    refine thn (pg _ s5 ga H5 x u (fun ca H'=>∃bv U,Ext X.K (aE bi p (acc++(ys.take i).map h)) H5 U H'/\St0 X.K H' bv U ca/\Le ρ bv/\te bv U fun d' jp=>jp=aE bi p (acc++(ys.take i).map h)/\d' = .v (h d)) I5' r5
     (lg ga H5 ρ _ (.v d) x _ _ S5 rd (body d hmem _ sub) fun ca bv U H' e' S' q=>⟨bv,U,e',S',q⟩)) fun _ s6 ⟨im,H6,I6,lf,tt,e6,S6,le6,q6⟩=>?_
    refine thn (he.use I6 S6 q6) fun v s8 hq0=>?_
    obtain⟨d',v8,sB,H8,I8,r8,e8,S8,ry,tj,ed⟩:=hq0
    subst tj;subst ed
    obtain⟨us,hacc,rus⟩:=S8.mu.lst p _ aF
    have hle:(acc++(ys.take i).map h).length<1000:=by
     rw[length_append,length_map,length_take]
     rw[length_map] at hlen
     omega
    refine thn (qS (X:=aH X N' scope cl fp0 ce db) _ s8 im H8 (.ref p) [v8] (.ref p) [v] (fun _ H'=>H'=upd H8 p (.lst (us++[v8]))) I8 rfl (.cons r8 .nil) ⟨_,us,v8,rfl,rfl,hacc,by rw[<- rus.length];exact gh (Nat.le_of_lt hle),rfl⟩) fun _ s9 hq0=>?_
    obtain⟨_,H9,I9,_,e9⟩:=hq0
    subst e9
    have et:acc++(ys.take (i+1)).map h=acc++(ys.take i).map h++[h d]:=by
     obtain⟨hi',e⟩:=List.getElem?_eq_some_iff.mp hd
     rw[List.take_succ_eq_append_getElem hi',map_append,e,append_assoc]
     rfl
    have ex:Ext X.K (aE bi p (acc++(ys.take i).map h)) H8 (aE (aE bi p (acc++(ys.take i).map h)) p (acc++(ys.take i).map h++[h d])) (upd H8 p (.lst (us++[v8]))):=iM aF
    have m9:=S8.mu.set aF (rus.append (.cons ry .nil))
    rw[iy,<- et] at ex m9
    have Ef:=Ec.trans (e5.trans (e6.trans (e8.trans ex)))
    refine⟨ys.length-(i+1),∅,i+1,im,_,rfl,hlt,I9.fk,T.keep _ _ _ st5 fun b hb o e=>(I9.pin (b,o) (mem_append_right _ (mem_append_right _ (bQ hb e)))).1,fun b hb=>?_,⟨m9,(S8.rho.ext S8.mu ex).le le6⟩,Ef⟩
    obtain⟨o,e,_⟩:=T.obj _ _ st5 b hb
    exact (I9.pin (b,o) (mem_append_right _ (mem_append_right _ (bQ hb e)))).2.1
   ·have ei:i=ys.length:=by omega
    subst ei
    refine thn (T.done (aH X N' scope cl fp0 ce db) rfl rfl rfl (fun z=>z) _ pins s' ga Hc (fun _ _=>False) Ic (stat frc) tc (stop rfl)) fun r s4 hq0=>?_
    obtain⟨hr,I5⟩:=hq0
    subst hr
    rw[take_length] at Sc Ec
    exact⟨_,rfl,ga,Hc,I5,Sc,e1.trans Ec⟩
  ·rw[take_zero,map_nil,append_nil,zf hp]
   exact S1
  ·rw[take_zero,map_nil,append_nil,zf hp]
   exact .refl
 exact yi loop (T.self X.A 0 _ _ _ st2 loop)
noncomputable def DN(cap:List (Option Nat))(src:DTI)(g:DTG)(src2:DTI)(g2:DTG)(te:DTE):DTE:=fun ρ Z Q=>src ρ Z fun xs am=>xs.length<=1000/\∃f:PyData->List PyData,(xs.flatMap f).length<=1000 /\
   (∀x∈xs,∀U:Mu,(∀a ds,am a=some ds->U a=some ds)->g (.v x) (bE cap ρ) U fun dL be=>Le (bE cap ρ) dL/\be=U/\src2 dL U fun ys bi=>bi=U/\∃h:PyData->PyData,f x=ys.map h/\∀y∈ys,∀gV:Mu,(∀a ds,am a=some ds->gV a=some ds) ->
    g2 (.v y) dL gV fun ls dl=>Le dL ls/\te ls dl fun d jp=>jp=gV/\d = .v (h y))/\Q (.v (.list (xs.flatMap f))) am
theorem Jq{cap:List (Option Nat)}{src:DTI}{g:DTG}{src2:DTI}{g2:DTG}{te:DTE}{ρ:Rho}{Z:Mu}{Q:DK}:DN cap src g src2 g2 te ρ Z Q=src ρ Z fun xs am=>xs.length<=1000/\∃f:PyData->List PyData,(xs.flatMap f).length<=1000 /\
   (∀x∈xs,∀U:Mu,(∀a ds,am a=some ds->U a=some ds)->g (.v x) (bE cap ρ) U fun dL be=>Le (bE cap ρ) dL/\be=U/\src2 dL U fun ys bi=>bi=U/\∃h:PyData->PyData,f x=ys.map h/\∀y∈ys,∀gV:Mu,(∀a ds,am a=some ds->gV a=some ds) ->
    g2 (.v y) dL gV fun ls dl=>Le dL ls/\te ls dl fun d jp=>jp=gV/\d = .v (h y))/\Q (.v (.list (xs.flatMap f))) am:=rfl
theorem FO{X:Cx}{N':List Str}{scope:Scope}{cl:List (Str×Addr)}{elt iter tg tg2 iter2:Expr}{pos:Pos}{cap:List (Option Nat)}{src src2:DTI}{g g2:DTG}{te:DTE}(hc:X.calm=X.calm)
  (hi:DI X tg iter src) (hg:∀fp ce db,DG (aH X N' scope cl fp ce db) tg g) (hi2:∀fp ce db,DI (aH X N' scope cl fp ce db) tg2 iter2 src2) (hg2:∀fp ce db,DG (aH X N' scope cl fp ce db) tg2 g2) (he:∀fp ce db,DE (aH X N' scope cl fp ce db) elt te)
  (hclos:closureFor scope X.env=pure cl) (hcell:∀y∈scope.names,y.2≠.cell) (hkind:scope.kind = .function) (hnames:∀y∈scope.names,y.2 = .local->scope.names.lookup y.1=some .local)
  (hcl:∀x a,cl.lookup x=some a->X.env.cells.lookup x=some a) (hhas:∀x,(relabel scope X.env).names.lookup x=some .cell\/(relabel scope X.env).names.lookup x=some .free->∃a,cl.lookup x=some a)
  (hmono:∀(ρ:Rho) (Z:Mu) (Q Q':List PyData->Mu->Prop),src2 ρ Z Q->(∀ys U,Q ys U->Q' ys U)->src2 ρ Z Q') (hlen:cap.length=N'.length) (hcap:∀(i j:Nat) (x:Str),cap[i]? = some (some j)->N'[i]? = some x->X.N[j]? = some x/\Vis X.env.scope x/\X.env.kindOf x≠some .local/\((relabel scope X.env).names.lookup x=some .cell\/(relabel scope X.env).names.lookup x=some .free))
  (hs:∀x,foldedSetIterable iter X.env x=pure x:=by intro _;rfl) (hs2:∀(env:Env) x,foldedSetIterable iter2 env x=pure x:=by intro _ _;rfl):DE X (two elt tg iter tg2 iter2 scope pos) (DN cap src g src2 g2 te):=by
 refine LR fun pins s σ H ρ Z Qd Q I S h k=>?_
 obtain⟨wi,pw,li⟩:=hi
 show wpAny _ _ (eval (.ListComp elt [⟨tg,iter,[],0⟩,⟨tg2,iter2,[],0⟩] scope pos) X.env) _ _ _
 rw[eval_ListComp]
 refine wpAny_comprehension_free (use:=none) rfl hs hclos hkind hnames (thn (pw pins s σ H _ I (li σ H ρ Z _ (fun J H1=>∃xs am,Ext X.K Z H am H1/\St0 X.K H1 ρ am σ/\JJ X.K J xs am H1/\xs.length<=1000/\∃f:PyData->List PyData,(xs.flatMap f).length<=1000 /\
   (∀x∈xs,∀U:Mu,(∀a ds,am a=some ds->U a=some ds)->g (.v x) (bE cap ρ) U fun dL be=>Le (bE cap ρ) dL/\be=U/\src2 dL U fun ys bi=>bi=U/\∃h:PyData->PyData,f x=ys.map h/\∀y∈ys,∀gV:Mu,(∀a ds,am a=some ds->gV a=some ds) ->
    g2 (.v y) dL gV fun ls dl=>Le dL ls/\te ls dl fun d jp=>jp=gV/\d = .v (h y))/\Qd (.v (.list (xs.flatMap f))) am) S h (fun xs am H1 J e1 S1 it q=>⟨xs,am,e1,S1,it,q⟩)))
  fun v s1 h1=>thn h1 fun itv s2 h2=>?_)
 obtain⟨it,fp,tn,J,H2,rfl,I2,T,st2,f2,xs,am,e1,S1,itok,hxs,f,hfl,body,fin⟩:=h2
 refine wpAny_newObj_type (wpAny_newFunctionEnv hcell (by intro y hy;simp at hy) (fun gl kw ld=>?_) hkind)
 dsimp only at kw ld ⊢
 have hfree2:H2 s2.heap.objs.size=none:=I2.hok.fresh (Nat.le_refl _)
 have hK2:X.K.lookup s2.heap.objs.size=none:=by
  cases z:X.K.lookup s2.heap.objs.size with
  |none=>rfl
  |some o=>exact absurd (Heap.lt_size (I2.kIn _ _ z)) (lt_irrefl _)
 have I3:Inv X pins σ (upd H2 s2.heap.objs.size (.lst [])) {s2 with heap:=s2.heap.push {cls:=.type "list",dict:=none,data:=.seq ([]:List Value).toArray}}:=
  I2.laid (t':=s2.toks) (fun b u e=>Heap.get?_push_of_some _ e) (Nat.le_refl _) ⟨zero_le _,[],0,.nil,Heap.get?_push_size _ rfl⟩
 generalize hH:s2.heap.push {cls:=.type "list",dict:=none,data:=.seq ([]:List Value).toArray} = hp3 at kw ld I3 ⊢
 have hsz3:hp3.objs.size=s2.heap.objs.size+1:=by rw[<- hH,Heap.size_push]
 have kept3:∀b o,hp3.get? b=some o->gl.get? b=some o:=fun b o e=>ld.extBut b o (ne_of_lt (Heap.lt_size e)) (Heap.get?_push_of_some _ e)
 have old3:∀b o,s2.heap.get? b=some o->hp3.get? b=some o:=fun b o e=>by rw[<- hH];exact Heap.get?_push_of_some _ e
 have fplt:∀b∈fp,b<s2.heap.objs.size:=fun b hb=>by obtain⟨o,e,_⟩:=T.obj 0 _ st2 b hb;exact Heap.lt_size e
 have fpst:∀b∈fp,b ∉ frs X.stack:=fun b hb hz=>by
  rcases List.mem_cons.mp (I2.lQ b hz) with e|e
  ·exact (f2 b hb).2.1 e
  ·exact (f2 b hb).2.2.1 e
 obtain⟨s3,hs3⟩:∃s3:Shared,s3={s2 with heap:=hp3}:=⟨_,rfl⟩
 obtain⟨H3,hH3⟩:∃H3:Hp,H3=upd H2 s2.heap.objs.size (.lst []):=⟨_,rfl⟩
 have heap3:s3.heap=hp3:=by rw[hs3]
 rw[<- hH3] at I3
 have I3':Inv X pins σ H3 s3:=by rw[hs3];exact I3
 have hloc:H3 hp3.objs.size=none:=by have:=I3'.hok.fresh (a:=hp3.objs.size) (by rw[heap3];exact Nat.le_refl _);exact this
 have okc:(aH X N' scope cl fp s3 H3).Ok:=by
  refine⟨I3.ok.mod,?_,I3.ok.glob,I3.ok.blt,Nat.le_refl _,fun x y a h1 h2=>I3.ok.inj x y a (hcl x a h1) (hcl y a h2),fun x hx=>hhas x hx,fun x a h=>(nomatch h),I3.ok.hd,I3.ok.qt,I3.ok.frames,.inl rfl,fun b hb=>⟨?_,fun x a h=>(f2 b hb).2.2.2.2.1 x a (hcl x a h)⟩,
   I3'.bs,le_trans I3.ok.bsz I3'.sz,fun b o e hb=>?_,fun b hb=>fpst b hb,I3'.stack,I3'.ur⟩
  ·exact hkind
  ·show b≠s3.heap.objs.size
   rw[heap3,hsz3]
   exact ne_of_lt (lt_succ_of_lt (fplt b hb))
  ·rcases (f2 b hb).2.2.2.1 with z|z
   ·exact I3.ok.FD b o e z
   ·exact absurd (lt_of_lt_of_le (Heap.lt_size (I3.ok.bs b o e).1) z) (lt_irrefl _)
 have I4:Inv (aH X N' scope cl fp s3 H3) [] (bE cap σ) H3 {s2 with heap:=gl,toks:=s2.toks+([]:List (Str×Value)).length}:=by
  refine⟨okc,by show s2.os=s3.os;rw[hs3],I3.bare,Un.kept (by show ∀b o,s3.heap.get? b=some o->_;rw[heap3];exact kept3),⟨_,(by show gl.Ns s3.heap.objs.size _;rw[heap3];exact kw),fun i x v e1 e2 e3=>?_⟩,fun x a h=>?_,(by show H3 s3.heap.objs.size=none;rw[heap3];exact hloc),fun x a h=>I3.mT x a (hcl x a h),fun p hp=>?_,I3.hok.kept kept3,?_⟩
  ·obtain⟨j,h1,h2⟩:=pN e2
   obtain⟨hN,hv,hnl,hk⟩:=hcap i j x h1 e1
   obtain⟨m,_,hl⟩:=I3.loc
   obtain⟨u,r,lk⟩:=hl j x v hN h2 hv
   refine⟨u,r,.inr ⟨hk,?_⟩⟩
   obtain⟨a,ha⟩:=hhas x hk
   rcases lk with ⟨z,_⟩|⟨_,a',z1,z2⟩
   ·exact absurd z hnl
   ·have:a'=a:=by have q:=hcl x a ha;rw[z1] at q;exact Option.some.inj q
    subst this
    obtain⟨o,ho,hd⟩:=z2
    exact⟨a',ha,o,kept3 _ _ ho,hd⟩
  ·obtain⟨v,o,ho,hd⟩:=I3.cell x a (hcl x a h)
   exact⟨v,o,kept3 _ _ ho,hd⟩
  ·have hp':p∈X.pn++pins:=mem_append_left _ (by simpa using (show p∈X.pn++[] from hp))
   obtain⟨z1,z2,z3,z4,z5⟩:=I3'.pin p hp'
   refine⟨kept3 _ _ (by rw[<- heap3];exact z1),z2,(show p.1≠s3.heap.objs.size from ne_of_lt (Heap.lt_size z1)),fun z=>?_,z5⟩
   rcases List.mem_cons.mp (I3'.lQ p.1 z) with e|e
   ·exact z3 e
   ·exact z4 e
  ·show (bE cap σ).length=N'.length
   unfold bE
   rw[length_map]
   exact hlen
 have lw:am s2.heap.objs.size=none:=S1.mu.free hfree2
 have sub1:∀ys a ds,am a=some ds->aE am s2.heap.objs.size ys a=some ds:=fun ys a ds e=>by
  have:a≠s2.heap.objs.size:=fun z=>by rw[z,lw] at e;cases e
  rw[aW this];exact e
 have loop:codeAny (model X.prog X.w) X.A (.compLoop (two elt tg iter tg2 iter2 scope pos) 0 (.ref it) (.ref s2.heap.objs.size) (aH X N' scope cl fp s3 H3).env)
   (compPost (model X.prog X.w) X.A X.xe none (EP X pins σ Q) (.ref s2.heap.objs.size) hp3.objs.size) {s2 with heap:=gl,toks:=s2.toks+([]:List (Str×Value)).length}:=by
  refine C1 (I:=fun n s'=>∃(i:Nat) (ga:St) (Hc:Hp),n=xs.length-i/\i<=xs.length/\Inv (aH X N' scope cl fp s3 H3) [] ga Hc s'/\tn i s'.heap/\(∀b∈fp,Hc b=none) /\
   St0 X.K Hc (bE cap ρ) (aE am s2.heap.objs.size ((xs.take i).flatMap f)) ga/\Ext X.K am H2 (aE am s2.heap.objs.size ((xs.take i).flatMap f)) Hc) (hs2 _) ?_ xs.length
   ⟨0,bE cap σ,H3,by simp,zero_le _,I4,T.keep 0 _ _ st2 (fun b hb o e=>kept3 b o (old3 b o e)),fun b hb=>?_,?_,?_⟩
  ·rintro n s' ⟨i,ga,Hc,rfl,hi,Ic,tc,frc,Sc,Ec⟩
   have stat:∀{Hd:Hp},(∀b∈fp,Hd b=none)->∀b∈fp,rP (aH X N' scope cl fp s3 H3) [] Hd b:=fun hn b hb=>
    ⟨hn b hb,(okc.exf b hb).1,fpst b hb,.inl hb,fun x a h=>(okc.exf b hb).2 x a h,fun p hp=>(f2 b hb).2.2.2.2.2 p (mem_append_left _ (by simpa using (show p∈X.pn++[] from hp)))⟩
   obtain⟨go,stop⟩:=itok _ Hc Ec Sc.mu i
   by_cases hlt:i<xs.length
   ·obtain⟨g1,y1⟩:=go hlt
    refine thn (T.item (aH X N' scope cl fp s3 H3) rfl rfl rfl (fun z=>z) i [] s' ga Hc (fun _ _=>False) Ic (stat frc) tc g1) fun r s4 hq0=>?_
    obtain⟨u,hr,h4⟩:=hq0
    subst hr
    refine thn h4 fun _ s5 hq0=>?_
    obtain⟨x,H5,I5,r5,y5,st5,fr5⟩:=hq0
    obtain⟨d,hd,sm,rd⟩:=y1 x H5 y5
    have I5':=I5.pinned (stat fr5) (T.obj _ _ st5)
    have e5:Ext X.K _ Hc _ H5:=.of_same (Z:=aE am s2.heap.objs.size ((xs.take i).flatMap f)) sm
    have S5:St0 X.K H5 (bE cap ρ) (aE am s2.heap.objs.size ((xs.take i).flatMap f)) ga:=⟨Sc.mu.HL e5 sm,Sc.rho.ext Sc.mu e5⟩
    obtain⟨gt,pg,lg⟩:=hg fp s3 H3
    have hmem:d∈xs:=mem_of_getElem? hd
    refine thn (pg _ s5 ga H5 x u (fun ca H'=>∃bv U,Ext X.K (aE am s2.heap.objs.size ((xs.take i).flatMap f)) H5 U H'/\St0 X.K H' bv U ca/\Le (bE cap ρ) bv/\U=aE am s2.heap.objs.size ((xs.take i).flatMap f)/\src2 bv (aE am s2.heap.objs.size ((xs.take i).flatMap f)) fun ys bi=>bi=aE am s2.heap.objs.size ((xs.take i).flatMap f)/\∃h:PyData->PyData,f d=ys.map h/\∀y∈ys,∀gV:Mu,(∀a ds,am a=some ds->gV a=some ds) ->
      g2 (.v y) bv gV fun ls dl=>Le bv ls/\te ls dl fun d jp=>jp=gV/\d = .v (h y)) I5' r5
     (lg ga H5 (bE cap ρ) _ (.v d) x _ _ S5 rd (body d hmem _ (sub1 _)) fun ca bv U H' e' S' q=>⟨bv,U,e',S',q⟩)) fun _ s6 ⟨im,H6,I6,lf,tt,e6,S6,le6,tj,q6⟩=>?_
    subst tj
    have et:(xs.take (i+1)).flatMap f=(xs.take i).flatMap f++f d:=by
     obtain⟨hi',e⟩:=List.getElem?_eq_some_iff.mp hd
     rw[List.take_succ_eq_append_getElem hi',flatMap_append,e]
     simp
    have hl2:((xs.take i).flatMap f).length+(f d).length<=1000:=by
     have h1:((xs.take (i+1)).flatMap f).length<=(xs.flatMap f).length:=by
      have:xs.flatMap f=(xs.take (i+1)).flatMap f++(xs.drop (i+1)).flatMap f:=by rw[<- flatMap_append,List.take_append_drop]
      rw[this,length_append]
      omega
     rw[et,length_append] at h1
     omega
    have q7:src2 lf (aE am s2.heap.objs.size ((xs.take i).flatMap f)) fun ys bi=>bi=aE am s2.heap.objs.size ((xs.take i).flatMap f)/\∃h:PyData->PyData,f d=ys.map h/\∀y∈ys,∀gV:Mu,(∀a ds,a≠s2.heap.objs.size->aE am s2.heap.objs.size ((xs.take i).flatMap f) a=some ds->gV a=some ds) ->
      g2 (.v y) lf gV fun ls dl=>Le lf ls/\te ls dl fun d jp=>jp=gV/\d = .v (h y):=by
     refine hmono _ _ _ _ q6 fun ys bi ⟨z1,h,z2,z3⟩=>⟨z1,h,z2,fun y hy gV sb=>z3 y hy gV fun a ds e=>?_⟩
     have ne:a≠s2.heap.objs.size:=fun z=>by rw[z,lw] at e;cases e
     exact sb a ds ne (by rw[aW ne];exact e)
    refine thn (JL (hi2 fp s3 H3) (hg2 fp s3 H3) (he fp s3 H3) I6 S6 aF hl2 q7) fun v7 s7 h7=>thn h7 fun it2 s8 h8=>codeAny_mono h8 fun r s9 ⟨fl,er,xz,H9,I9,S9,E9⟩=>⟨fl,er,?_⟩
    rw[iy,<- et] at S9 E9
    refine⟨xs.length-(i+1),∅,i+1,xz,H9,rfl,hlt,I9.fk,T.keep _ _ _ st5 fun b hb o e=>(I9.pin (b,o) (mem_append_right _ (mem_append_right _ (bQ hb e)))).1,fun b hb=>?_,⟨S9.mu,S9.rho.le le6⟩,Ec.trans (e5.trans (e6.trans E9))⟩
    obtain⟨o,e,_⟩:=T.obj _ _ st5 b hb
    exact (I9.pin (b,o) (mem_append_right _ (mem_append_right _ (bQ hb e)))).2.1
   ·have ei:i=xs.length:=by omega
    subst ei
    refine thn (T.done (aH X N' scope cl fp s3 H3) rfl rfl rfl (fun z=>z) _ [] s' ga Hc (fun _ _=>False) Ic (stat frc) tc (stop rfl)) fun r s4 hq0=>?_
    obtain⟨hr,I5⟩:=hq0
    subst hr
    rw[take_length] at Sc Ec
    obtain⟨m,hn,_⟩:=I5.loc
    refine⟨m,(by have z:s4.heap.Ns s3.heap.objs.size m:=hn;rw[heap3] at z;exact z),fun h' hs'=>?_⟩
    have kp:∀b o,b<s2.heap.objs.size->s4.heap.get? b=some o->h'.get? b=some o:=fun b o hb e=>hs'.extBut b o (by rw[hsz3];exact ne_of_lt (lt_succ_of_lt hb)) e
    have hcC:Hc hp3.objs.size=none:=by have z:Hc s3.heap.objs.size=none:=I5.free;rw[heap3] at z;exact z
    have hok':HOk X.prog X.w Hc h':=fun b ob e=>by
     refine (I5.hok b ob e).sA (fun cc v hcc q=>hs'.extBut cc v ?_ q) (fun _ q=>q) fun _ _ q=>q
     rintro rfl
     rcases hcc with z|z
     ·rw[<- z,hcC] at e;cases e
     ·rw[hcC] at z;cases z
    have u1:Un (frs X.stack) fp H2 H3 s2.heap s3.heap:=by rw[heap3,hH3];exact Un.laid old3 (Nat.le_refl _) hfree2
    have u2:Un (frs X.stack) fp H3 Hc s3.heap s4.heap:=I5.base
    have If:Inv X pins σ Hc {s4 with heap:=h'}:=I2.Bv (ch:=fp) (by show s4.os=s2.os;have z:s4.os=s3.os:=I5.os;rw[z,hs3]) (Un.after (u1.trans u2) kp) hok' I5.bare fun b hb=>⟨(f2 b hb).2.2.2.1,(f2 b hb).2.1,(f2 b hb).2.2.2.2.1,(f2 b hb).2.2.2.2.2⟩
    obtain⟨us,hacc,rus⟩:=Sc.mu s2.heap.objs.size _ aF
    have shr:∀a,aE am s2.heap.objs.size (xs.flatMap f) a=none->am a=none:=fun a e=>by
     by_cases ha:a=s2.heap.objs.size
     ·rw[ha];exact lw
     ·rw[aW ha] at e;exact e
    have eF:Ext X.K am H2 am Hc:=⟨Ec.keep,Ec.tb,fun _ ds q=>⟨ds,q⟩,fun _ q _=>q,Ec.st,fun _ c q=>⟨c,q⟩⟩
    have mF:bM X.K am Hc:=⟨fun a ds q=>by
     obtain⟨ys,z1,z2⟩:=Sc.mu a ds (sub1 _ a ds q)
     exact⟨ys,z1,z2.shrink shr⟩,Sc.mu.tab,fun a c q=>let ⟨z,o,w1,w2⟩:=Sc.mu.box a c q;⟨z,o,w1,w2.shrink shr⟩⟩
    exact⟨.ref s2.heap.objs.size,Hc,If,rfl,k (.v (.list (xs.flatMap f))) _ am Hc (e1.trans eF) ⟨mF,S1.rho.ext S1.mu eF⟩ (Rp.list hacc lw (rus.shrink shr)) fin⟩
  ·have z:b≠s2.heap.objs.size:=ne_of_lt (fplt b hb)
   rw[hH3,aU z]
   exact (f2 b hb).1
  ·have ex:=iJ (o:=.lst []) (ds:=[]) S1.mu hfree2 hK2
   rw[hH3]
   exact⟨S1.mu.mut .nil hfree2 hK2,(S1.rho.ext S1.mu ex).cap⟩
  ·rw[hH3]
   exact iJ (o:=.lst []) (ds:=[]) S1.mu hfree2 hK2
 have envE:(aH X N' scope cl fp s3 H3).env=compEnvC scope cl hp3.objs.size X.env:=by show compEnvC scope cl s3.heap.objs.size X.env=_;rw[heap3]
 rw[envE] at loop
 exact codeAny_compStart_list loop (T.self X.A 0 _ _ _ (T.keep 0 _ _ st2 (fun b hb o e=>kept3 b o (old3 b o e))) loop)
theorem Em{i:Nat}{ρ:Rho}{Z:Mu}{Q Q':DK}(h:ah i ρ Z Q)(k:∀d U,Q d U->Q' d U):ah i ρ Z Q':=by
 unfold ah at h ⊢
 split at h
 ·exact k _ _ h
 ·exact h.elim
theorem Bi{i j:Nat}(ρ:Rho)(Z:Mu)(Q Q':List PyData->Mu->Prop)(h:kM (aY (ag (ah i) (ag (ah j) ar))) ρ Z Q)(k:∀ys U,Q ys U->Q' ys U):kM (aY (ag (ah i) (ag (ah j) ar))) ρ Z Q':=by
 unfold kM aY ag at h ⊢
 refine Em h fun x am h=>Em h fun y be h=>?_
 dsimp only[ar] at h ⊢
 split at h
 ·exact k _ _ h
 ·exact h.elim
theorem Jw{X:Cx}{tg e:Expr}{src:DTI}(h:DI X tg e src):DIW X tg e src:=by
 obtain⟨wi,p,l⟩:=h
 exact⟨wi,p,fun σ H ρ Z Qd R S s k=>l σ H ρ Z Qd R S s fun xs am H1 J e st ok q=>k xs am H1 J e st (fun be H2 e2 m2 _=>ok be H2 e2 m2) q⟩
theorem ln1{p:List Value->Prop}(h:∀a0,p [a0])(us:List Value)(hl:us.length=1):p us:=match us,hl with|[a0],_=>h a0
theorem ln2{p:List Value->Prop}(h:∀a0 a1,p [a0,a1])(us:List Value)(hl:us.length=2):p us:=match us,hl with|[a0,a1],_=>h a0 a1
theorem ln3{p:List Value->Prop}(h:∀a0 a1 a2,p [a0,a1,a2])(us:List Value)(hl:us.length=3):p us:=match us,hl with|[a0,a1,a2],_=>h a0 a1 a2
theorem ln4{p:List Value->Prop}(h:∀a0 a1 a2 a3,p [a0,a1,a2,a3])(us:List Value)(hl:us.length=4):p us:=match us,hl with|[a0,a1,a2,a3],_=>h a0 a1 a2 a3
theorem ln5{p:List Value->Prop}(h:∀a0 a1 a2 a3 a4,p [a0,a1,a2,a3,a4])(us:List Value)(hl:us.length=5):p us:=match us,hl with|[a0,a1,a2,a3,a4],_=>h a0 a1 a2 a3 a4
open PySem PySem.Spec PyProof.Rows NM
section
variable {Z:Mu}{Q:DK}{ds:List D}{x y:N3}
theorem OS(a b c:Int):PyData.tuple [.int a,.int b,.int c]=dN ⟨a,b,c⟩:=rfl
theorem KR:aQ (.v (dN x)) (.v (.int 0)) Z Q=Q (.v (.int x.a)) Z:=by unfold dN;rw[CP]
theorem LI:aQ (.v (dN x)) (.v (.int 1)) Z Q=Q (.v (.int x.b)) Z:=by unfold dN;rw[BV]
theorem MX:aQ (.v (dN x)) (.v (.int 2)) Z Q=Q (.v (.int x.c)) Z:=by unfold dN;rw[DC]
theorem eqN:PyData.eqv (dN x) (dN y)=decide (x=y):=by
 unfold dN
 rw[Tw,Bool.eq_iff_iff]
 simp only[decide_eq_true_eq]
 exact⟨fun h=>N3.ext' h.1 h.2.1 h.2.2,fun h=>by subst h;exact⟨rfl,rfl,rfl⟩⟩
theorem II{neg:Bool}:de neg (.v (dN x)) (.v (dN y)) Z Q=Q (.v (.bool (neg ^^ decide (x=y)))) Z:=by
 rw[KC,eqN]
 exact propext ⟨fun h=>h.2.2,fun h=>⟨rfl,rfl,h⟩⟩
theorem yr(h:Ok x):isNum (dN x)=true:=by
 have:=h.c
 show (decide (1<=x.c)&&(g3 x.a x.b x.c==1))=true
 rw[h.g]
 simp;omega
theorem So:Few (dN x):=by simp[dN,Few]
theorem Lb{d a b c:Int}(h:aM d)(hc:0<c):sg d (low a b c).a (low a b c).b=sg d a b:=by
 obtain⟨k,hk,hs,p1,p2,p3,_⟩:=nG a b (show c≠0 by omega)
 have e:=qg (a:=(low a b c).a) (b:=(low a b c).b) h (hs.mpr hc)
 rw[<- p1,<- p2] at e
 exact e.symm
theorem Dq{d:Int}(h:aM d)(ox:Ok x)(oy:Ok y):sg d (less x y).a (less x y).b=dif d x y:=by
 unfold less dif
 rw[Lb h (Int.mul_pos ox.c oy.c)]
theorem tX{lo:Int}{n i:Nat}{x:PyData}(h:(pO lo n)[i]? = some x):x = .int (lo+i)/\i<n:=by
 unfold pO at h
 rw[getElem?_map] at h
 by_cases hi:i<n
 ·rw[List.getElem?_range hi] at h
  cases h
  exact⟨rfl,hi⟩
 ·rw[getElem?_eq_none (by simpa using hi)] at h
  cases h
theorem lZ{lo:Int}{n:Nat}:(pO lo n).length=n:=by unfold pO;simp
end
end L2.DL
namespace NM
noncomputable abbrev T3:=Nat×Nat×Nat
noncomputable def N0(β:Bool)(c i j s:Nat):List T3:=(List.range c).map fun k=>if β=true then (i+k*s,j,s) else (i,j+k*s,s)
noncomputable def Kv:List Nat->Bool->Nat->Nat->Nat->Nat->List T3
 |[],_,_,_,_,_=>[]
 |c::cs,true,i,j,a,b=>N0 true c i j b++Kv cs false (i+c*b) j (a-c*b) b
 |c::cs,false,i,j,a,b=>N0 false c i j a++Kv cs true i (j+c*a) a (b-c*a)
theorem Jd{β:Bool}{c i j s:Nat}:(N0 β c i j s).length=c:=by unfold N0;simp
theorem qO:∀(cs:List Nat) (β:Bool) (i j a b:Nat),(Kv cs β i j a b).length=cs.sum
 |[],_,_,_,_,_=>rfl
 |c::cs,true,i,j,a,b=>by rw[Kv];rw[length_append,Jd,qO cs,List.sum_cons]
 |c::cs,false,i,j,a,b=>by rw[Kv];rw[length_append,Jd,qO cs,List.sum_cons]
end NM
namespace L2.DL
open PySem PySem.Spec PyProof.Rows NM
structure Tg{α:Sort u}(x:α):Type where
noncomputable def hd{α:Sort u}(x:α)(_:Tg x):α:=x
section
variable {ρ:Rho}{Z:Mu}{Q:DK}{QT:Bool->Mu->Prop}{Dd:BN}{ta tb tc:DTE}{t u:DTT}{tA:DTA}{s1 s2:DTS}{d:D}{A B:Prop}{p:Tg A}{q:Tg B}
theorem Ti{w:Tg Q}:hd Q w d Z=Q d Z:=propext Iff.rfl
theorem l_T{i:Decidable True}:(if True then hd A p else hd B q)=A:=if_pos trivial
theorem l_F{i:Decidable False}:(if False then hd A p else hd B q)=B:=if_neg id
theorem l_t{i:Decidable (true=true)}:(if true=true then hd A p else hd B q)=A:=if_pos rfl
theorem l_f{i:Decidable (false=true)}:(if false=true then hd A p else hd B q)=B:=if_neg Bool.false_ne_true
theorem bJ{c:Prop}{i:Decidable c}(h:c):(if c then hd A p else hd B q)=A:=if_pos h
theorem bI{c:Prop}{i:Decidable c}(h:¬ c):(if c then hd A p else hd B q)=B:=if_neg h
theorem Tu{i j:Int}{k:Decidable True}:(if True then i else j)=i:=if_pos trivial
theorem SK{i j:Int}{k:Decidable False}:(if False then i else j)=j:=if_neg id
theorem SY{r}:dOp r ta tb ρ Z Q=ta ρ Z fun x am=>tb ρ am fun y be=>r x y be (hd Q .mk):=propext Iff.rfl
theorem Rm{g:DTG}:ba ta g Dd ρ Z=ta ρ Z (hd (fun d am=>g d ρ am Dd.nx) .mk):=propext Iff.rfl
theorem Tt{rd}:dCB rd tA ρ Z Q=tA ρ Z fun ds am=>rd ds am (hd Q .mk):=propext Iff.rfl
theorem QC{dsp:DSp}:ay dsp tA ρ Z Q=tA ρ Z fun ds am=>dsp ds am (hd Q .mk):=propext Iff.rfl
theorem P8:zz t u ρ Z QT=t ρ Z fun c am=>if c=true then hd (u ρ am QT) .mk else hd (QT false am) .mk:=propext Iff.rfl
theorem Sv:ip t u ρ Z QT=t ρ Z fun c am=>if c=true then hd (QT true am) .mk else hd (u ρ am QT) .mk:=propext Iff.rfl
theorem QL:kE ta tb ρ Z Q=ta ρ Z fun x am=>match x with|.v (.bool c)=>if c=true then hd (tb ρ am Q) .mk else hd (Q (.v (.bool false)) am) .mk|_=>False:=propext Iff.rfl
theorem SN:dIf t ta tb ρ Z Q=t ρ Z fun c am=>if c=true then hd (ta ρ am Q) .mk else hd (tb ρ am Q) .mk:=propext Iff.rfl
theorem Sy:cj t s1 s2 Dd ρ Z=t ρ Z fun b am=>if b=true then hd (s1 Dd ρ am) .mk else hd (s2 Dd ρ am) .mk:=propext Iff.rfl
theorem Of{r r'}:HA r r' ta tb tc ρ Z Q=ta ρ Z fun x am=>tb ρ am fun y be=>r x y be fun z bi=>match z with
 |.v (.bool k)=>if k=true then hd (tc ρ bi fun w dl=>r' y w dl Q) .mk else hd (Q (.v (.bool false)) bi) .mk
 |_=>False:=propext Iff.rfl
end
local macro_rules|`(tactic| walk_at "rn")=>mkW "↓Hy ↓HU ↓GL ↓FV ↓Ga ↓HG ↓Hz ↓Gg ↓GV ↓GD ↓CM ↓q_c ↓Rt ↓q_B ↓QM ↓MN ↓Lu ↓KQ ↓OM ↓HC ↓Kr ↓Hf ↓Sg ↓LW ↓Gm ↓Mp ↓Mr ↓GK ↓MD ↓KS ↓LK ↓Ml ↓Lv ↓GN ↓GH ↓GW ↓CP ↓BV ↓DC ↓Hb ↓BO ↓zI ↓K1 ↓MT ↓M5 ↓Ge ↓Hn ↓Qy ↓yv ↓HJ ↓KH ↓Rl ↓FW ↓HD ↓Ha ↓Gv ↓KU ↓Q4 ↓HM ↓DD ↓MC ↓MH ↓KI ↓CH ↓G6 ↓C7 ↓GI ↓G7 ↓OV ↓K8 ↓GQ ↓Lc ↓Mm ↓Ho ↓OW ↓BZ ↓KJ ↓K2 ↓K6 ↓Hg ↓zP ↓Dm ↓zm ↓yJ ↓Dv ↓zl ↓Ll tI ↓rJ ↓nS Hm G5 Mi L4 LX Option.bind_none bind_some join_some List.getElem?_cons_zero List.getElem?_cons_succ aR OS KR LI MX II va Bg Bw Fd Ib List.map List.append List.replicate length_cons length_nil Nat.reduceAdd Nat.reduceSub List.nil_append cons_append List.set_cons_zero List.set_cons_succ map_some ↓reduceIte Bool.not_true Bool.not_false false_eq_true Bool.true_eq_false xor_false false_xor"
theorem Et{d:Int}{x y:N3}:dif d x y=NN d x y:=rfl
noncomputable def bV(d:Int):PyData->Bool
 |.tuple [.int a,.int b,.int c]=>isNum (.tuple [.int a,.int b,.int c])&&decide (sg d a b=1)
 |_=>false
noncomputable def dE:DSp:=fun ds Z Q=>∃(d:Int) (t:PyData),ds=[.v (.int d),.v t]/\aM d/\Few t/\(∀x,t=dN x->Bd 8900 x)/\Q (.v (.bool (bV d t))) Z
theorem ug{Z:Mu}{Q:DK}{ds:List D}(h:dE ds Z Q):ds.length=2:=by obtain⟨_,_,rfl,_⟩:=h;rfl
noncomputable def nF(a:Addr)(Z U:Mu):Prop:=Bag U a/\∀b,b≠a->∀ds,Z b=some ds->U b=some ds
noncomputable def fK:DTS:=
 (bb (kE (ay lS (ag (ah 1) ar)) (dOp (de false) (ay iF (ag (ah 0) (ag (ah 1) ar))) (dC (.int 1)))))
section
variable {Z:Mu}{Qd:DK}{ds:List D}
theorem ke{d:Int}{x:N3}(ox:Ok x):bV d (dN x)=decide (sg d x.a x.b=1):=by
 show (isNum (dN x)&&decide (sg d x.a x.b=1))=_
 rw[yr ox,Bool.true_and]
theorem kb{d:Int}{t:PyData}(h:isNum t=false):bV d t=false:=by
 unfold bV
 split
 ·rw[h,Bool.false_and]
 ·rfl
theorem dP{t:PyData}(h:isNum t=true):∃x:N3,t=dN x/\Ok x:=by
 unfold isNum at h
 split at h
 ·rename_i a b c
  simp only[and_eq_true,decide_eq_true_eq,beq_iff_eq] at h
  exact⟨⟨a,b,c⟩,rfl,by show 0<c;omega,h.2⟩
 ·cases h
theorem rW(h:dE ds Z Qd):fK ‹Qd› (aR ["d","thing"] ds) Z:=by
 obtain⟨d,t,rfl,hd,ft,bt,q⟩:=h
 unfold fK
 walk_at "rn"
 refine⟨t,rfl,ft,?_⟩
 walk_at "rn"
 cases e:isNum t with
 |true=>
  walk_at "rn"
  obtain⟨x,rfl,ox⟩:=dP e
  refine⟨d,x,rfl,hd,bt x rfl,?_⟩
  walk_at "rn"
  rw[ke ox] at q
  exact q
 |false=>
  walk_at "rn"
  rw[kb e] at q
  exact q
theorem sN{x y:N3}(e:dN x=dN y):x=y:=by
 simp only[dN,PyData.tuple.injEq,List.cons.injEq,PyData.int.injEq,and_true] at e
 exact N3.ext' e.1 e.2.1 e.2.2
theorem nF.trans{a:Addr}{Z am be:Mu}(h:nF a Z am)(g:nF a am be):nF a Z be:=⟨g.1,fun b n ds e=>g.2 b n ds (h.2 b n ds e)⟩
theorem Step.w{a:Addr}{Z U:Mu}(h:Step a Z U):nF a Z U:=⟨h.1,fun b n ds e=>by rw[h.2 b n];exact e⟩
end
section
variable {Z:Mu}{Qd:DK}{ds:List D}
theorem CU{α:Type}(xs:List α)(lo hi:Option Int):(qY xs lo hi).length<=xs.length:=by
 unfold qY
 rw[length_take,List.length_drop]
 omega
end
noncomputable def cR(d:Int)(ms:List N3):Prop:=ms.Pairwise fun a b=>dif d b a=1
noncomputable def uc:DSp:=fun ds Z Q=>∃(d:Int) (p:Addr) (ms:List N3) (x:N3),ds=[.v (.int d),.m p,.v (dN x)]/\aM d/\Z p=some (ms.map dN)/\(∀m∈ms,Ok m/\Bd 4400 m)/\Ok x/\Bd 4400 x/\cR d ms/\ms.length<=1000 /\
 ∀r:Nat,r<=ms.length->(∀i m,i<r->ms[i]? = some m->dif d x m=1)->(∀i m,r<=i->ms[i]? = some m->¬ dif d x m=1)->Q (.v (.int (r:Nat))) Z
theorem B5{ds:List D}{Z:Mu}{Q:DK}(h:uc ds Z Q):ds.length=3:=by obtain⟨_,_,_,_,rfl,_⟩:=h;rfl
noncomputable def zM:DSp:=fun ds Z Q=>∃(d:Int) (fs:List N3),ds=[.v (.int d),.v (.list (fs.map dN))]/\aM d/\(∀m∈fs,Ok m/\Bd 4400 m)/\fs.length<=1000 /\
 ∀p ms U,Z p=none->dO Z U->U p=some (ms.map dN)->cR d ms->(∀x,x∈ms↔x∈fs)->Q (.m p) U
theorem CQ{ds:List D}{Z:Mu}{Q:DK}(h:zM ds Z Q):ds.length=2:=by obtain⟨_,_,rfl,_⟩:=h;rfl
noncomputable def kh:DTS:=
 (aN (ba (dC (.int 0)) (ao 3))
 (aN (ba (dCB da (ag (ah 1) ar)) (ao 4))
 (aN (sG (dB (dOp rLt (ah 3) (ah 4))) (aN (ba (xw (dc (ah 3) (ah 4)) (dC (.int 2))) (ao 5))
 (cj (dB (ay xO (ag (ah 0) (ag (ah 2) (ag (dOp aQ (ah 1) (ah 5)) ar))))) (ba (dc (ah 5) (dC (.int 1))) (ao 3)) (ba (ah 5) (ao 4)))))
 (bb (ah 3)))))
noncomputable def jv:DTS:=
 (aN (ba (rp ar) (ao 2))
 (aN (o7 (jh (ah 1)) (ao 3) (aN (ba (ay uc (ag (ah 0) (ag (ah 2) (ag (ah 3) ar)))) (ao 4))
 (cj (ip (dB (dOp (de false) (ah 4) (dCB da (ag (ah 2) ar)))) (dB (dOp (de true) (dOp aQ (ah 2) (ah 4)) (ah 3)))) (qx (Jy (ah 2) (ah 4) (ah 3))) bz)))
 (bb (ah 2))))
section
variable {Z:Mu}{Qd:DK}{ds:List D}
theorem M8(r s:Nat):(r:Int).fdiv (s:Int)=((r / s:Nat):Int):=by rw[Int.fdiv_eq_ediv_of_nonneg _ (Int.natCast_nonneg s)];rfl
theorem pq{ks:List N3}{i:Nat}{m:N3}(h:ks[i]? = some m):atI (ks.map dN) (i:Int)=some (dN m):=by
 have hl:i<ks.length:=by
  rcases lt_or_ge i ks.length with z|z
  ·exact z
  ·rw[getElem?_eq_none z] at h;cases h
 unfold atI ixN
 rw[if_pos ∅,if_pos (by rw[length_map];omega)]
 simp only[bind_some,Int.toNat_natCast]
 rw[getElem?_map,h]
 rfl
theorem gr{d:Int}{x y z:N3}(hd:aM d)(ox:Ok x)(oy:Ok y)(oz:Ok z)(h1:dif d x y=1)(h2:dif d y z=1):dif d x z=1:=by
 rw[Et] at *
 unfold NN at *
 have cx:=ox.c
 have cy:=oy.c
 have cz:=oz.c
 have a1:P d (z.c*(x.a*y.c-y.a*x.c)) (z.c*(x.b*y.c-y.b*x.c)):=(mD hd).mp (by rw[qg hd cz];exact h1)
 have a2:P d (x.c*(y.a*z.c-z.a*y.c)) (x.c*(y.b*z.c-z.b*y.c)):=(mD hd).mp (by rw[qg hd cx];exact h2)
 have a3:=(mD hd).mpr (RT hd a1 a2)
 have e1:z.c*(x.a*y.c-y.a*x.c)+x.c*(y.a*z.c-z.a*y.c)=y.c*(x.a*z.c-z.a*x.c):=by grind
 have e2:z.c*(x.b*y.c-y.b*x.c)+x.c*(y.b*z.c-z.b*y.c)=y.c*(x.b*z.c-z.b*x.c):=by grind
 rw[e1,e2,qg hd cy] at a3
 exact a3
theorem ua{d:Int}{ms:List N3}(h:cR d ms){i j:Nat}{a b:N3}(hij:i<j)(ha:ms[i]? = some a)(hb:ms[j]? = some b):dif d b a=1:=by
 obtain⟨hi,rfl⟩:=List.getElem?_eq_some_iff.mp ha
 obtain⟨hj,rfl⟩:=List.getElem?_eq_some_iff.mp hb
 exact List.pairwise_iff_getElem.mp h i j hi hj hij
theorem dif_neg{d:Int}{x y:N3}(hd:aM d):dif d y x = - dif d x y:=by
 rw[Et,Et]
 unfold NN
 rw[<- B6 hd]
 congr 1<;>grind
theorem OH{d:Int}{x y:N3}(hd:aM d)(ox:Ok x)(oy:Ok y)(h:¬ dif d x y=1)(n:y≠x):dif d y x=1:=by
 rw[dif_neg hd]
 have t:dif d x y=0\/dif d x y=1\/dif d x y = -1:=by rw[Et];exact oE _ _ _
 rcases t with t|t|t
 ·exact absurd (Lz ox oy (by rw[<- Et];exact t)).symm n
 ·exact absurd t h
 ·rw[t];rfl
theorem E8{d:Int}{ms:List N3}{f:N3}{r:Nat}(hd:aM d)(gm:∀m∈ms,Ok m)(of:Ok f)(hr:cR d ms)(hl:r<=ms.length)(hb:∀i m,i<r->ms[i]? = some m->dif d f m=1)(ha:∀i m,r<=i->ms[i]? = some m->¬ dif d f m=1)(hn:∀m,ms[r]? = some m->m≠f):cR d (ms.take r++f::ms.drop r):=by
 unfold cR at *
 rw[List.pairwise_append]
 have hbm:∀m∈ms.take r,dif d f m=1:=fun m hm=>by
  obtain⟨i,hi,e⟩:=List.mem_iff_getElem.mp hm
  have hi':i<r:=by rw[length_take] at hi;omega
  refine hb i m hi' ?_
  rw[<- e,List.getElem_take]
  exact getElem?_eq_getElem _
 have ham:∀m∈ms.drop r,dif d m f=1:=fun m hm=>by
  obtain⟨i,hi,e⟩:=List.mem_iff_getElem.mp hm
  have hi2:r+i<ms.length:=by rw[List.length_drop] at hi;omega
  have em:ms[r+i]? = some m:=by rw[<- e,List.getElem_drop];exact getElem?_eq_getElem _
  have er:ms[r]? = some ms[r]:=getElem?_eq_getElem ∅
  have o1:=gm ms[r] (getElem_mem _)
  have b1:=OH hd of o1 (ha r _ (Nat.le_refl _) er) (hn _ er)
  cases i with
  |zero=>rw[Nat.add_zero,er] at em;cases em;exact b1
  |succ i=>exact gr hd (gm m (mem_of_getElem? em)) o1 of (ua hr ∅ er em) b1
 refine⟨hr.sublist (List.take_sublist _ _),List.pairwise_cons.mpr ⟨ham,hr.sublist (List.drop_sublist _ _)⟩,fun a ha' b hb'=>?_⟩
 rcases List.mem_cons.mp hb' with rfl|hb'
 ·exact hbm a ha'
 ·exact gr hd (gm b (List.mem_of_mem_drop hb')) of (gm a (List.mem_of_mem_take ha')) (ham b hb') (hbm a ha')
theorem Iy{α:Type}{ms:List α}{f x:α}{r:Nat}:x∈ms.take r++f::ms.drop r↔x=f\/x∈ms:=by
 rw[mem_append,mem_cons]
 have h:x∈ms↔x∈ms.take r\/x∈ms.drop r:=by
  conv=>lhs;rw[<- List.take_append_drop r ms]
  rw[mem_append]
 rw[h]
 constructor
 ·rintro (a|a|a)
  ·exact .inr (.inl a)
  ·exact .inl a
  ·exact .inr (.inr a)
 ·rintro (a|a|a)
  ·exact .inr (.inl a)
  ·exact .inl a
  ·exact .inr (.inr a)
theorem xI(h:zM ds Z Qd):jv ‹Qd› (aR ["d","found","marks","x","place"] ds) Z:=by
 obtain⟨d,fs,rfl,hd,gf,hl,q⟩:=h
 unfold jv
 walk_at "rn"
 intro p hp
 rw[jw]
 walk_at "rn"
 refine⟨fun i ρ U=>∃r3 r4 ms,ρ=[some (.v (.int d)),some (.v (.list (fs.map dN))),some (.m p),r3,r4]/\dO Z U/\U p=some (ms.map dN)/\cR d ms/\(∀x,x∈ms↔x∈fs.take i)/\ms.length<=i,⟨_,_,[],rfl,dO.refl.set hp,aF,List.Pairwise.nil,by simp,Nat.le_refl _⟩,?_,?_⟩
 ·rintro i x ρ U hx ⟨r3,r4,ms,rfl,sb,hm,hr,hms,lm⟩
  have hil:i<fs.length:=by
   rcases lt_or_ge i fs.length with z|z
   ·exact z
   ·rw[getElem?_eq_none (by rw[length_map];exact z)] at hx;cases hx
  obtain⟨f,ef,rfl⟩:∃f,fs[i]? = some f/\x=dN f:=by
   rw[getElem?_map,getElem?_eq_getElem hil] at hx
   exact⟨fs[i],getElem?_eq_getElem hil,(Option.some.inj hx).symm⟩
  have gm:∀m∈ms,Ok m/\Bd 4400 m:=fun m h=>gf m (List.mem_of_mem_take ((hms m).mp h))
  obtain⟨of,bf⟩:=gf f (mem_of_getElem? ef)
  have tk:fs.take (i+1)=fs.take i++[f]:=by rw[take_succ,ef];rfl
  walk_at "rn"
  refine⟨d,p,ms,f,rfl,hd,hm,gm,of,bf,hr,∅,fun r rl hb ha=>?_⟩
  have fin:(∀m,ms[r]? = some m->m≠f)->∃r3 r4 ms',[some (D.v (.int d)),some (D.v (.list (fs.map dN))),some (D.m p),some (D.v (dN f)),some (D.v (.int (r:Nat)))]=[some (.v (.int d)),some (.v (.list (fs.map dN))),some (.m p),r3,r4]/\dO Z (aE U p ((ms.map dN).take r++dN f::(ms.map dN).drop r))/\aE U p ((ms.map dN).take r++dN f::(ms.map dN).drop r) p=some (ms'.map dN)/\cR d ms'/\(∀x,x∈ms'↔x∈fs.take (i+1))/\ms'.length<=i+1:=fun hn=>by
   refine⟨_,_,ms.take r++f::ms.drop r,rfl,sb.set hp,?_,E8 hd (fun m h=>(gm m h).1) of hr rl hb ha hn,fun x=>?_,by simp;omega⟩
   ·rw[aF,map_append,map_cons,List.map_take,List.map_drop]
   ·rw[Iy,tk,mem_append,mem_singleton,hms]
    exact Or.comm
  walk_at "rn"
  rw[hm]
  dsimp only
  rw[length_map]
  have put:(∀m,ms[r]? = some m->m≠f)->∀K:DK,(∀z,(∃r3 r4 ms',[some (D.v (.int d)),some (D.v (.list (fs.map dN))),some (D.m p),some (D.v (dN f)),some (D.v (.int (r:Nat)))]=[some (.v (.int d)),some (.v (.list (fs.map dN))),some (.m p),r3,r4]/\dO Z z/\z p=some (ms'.map dN)/\cR d ms'/\(∀x,x∈ms'↔x∈fs.take (i+1))/\ms'.length<=i+1)->K (.v .none) z)->Jy (ah 2) (ah 4) (ah 3) [some (D.v (.int d)),some (D.v (.list (fs.map dN))),some (D.m p),some (D.v (dN f)),some (D.v (.int (r:Nat)))] U K:=fun hn K kk=>by
   rw[OJ]
   walk_at "rn"
   exact⟨r,dN f,ms.map dN,rfl,rfl,hm,by rw[length_map];exact rl,by rw[length_map];omega,kk _ (fin hn)⟩
  by_cases c:r=ms.length
  ·rw[if_pos (decide_eq_true ∅)]
   exact put (fun m e=>by rw[getElem?_eq_none ∅] at e;cases e) _ fun z h=>h
  ·rw[if_neg (by simp;omega)]
   have rl':r<ms.length:=by omega
   have er:ms[r]? = some ms[r]:=getElem?_eq_getElem rl'
   rw[pq er]
   dsimp only
   rw[II]
   dsimp only
   by_cases cf:ms[r]=f
   ·rw[if_neg (by simp[cf])]
    refine⟨_,_,ms,rfl,sb,hm,hr,fun x=>?_,∅⟩
    rw[tk,mem_append,mem_singleton,hms]
    constructor
    ·exact .inl
    ·rintro (h|rfl)
     ·exact h
     ·rw[<- hms,<- cf];exact getElem_mem _
   ·rw[if_pos (by simp[cf])]
    exact put (fun m e=>by rw[er] at e;cases e;exact cf) _ fun z h=>h
 ·rintro ρ U ⟨r3,r4,ms,rfl,sb,hm,hr,hms,lm⟩
  rw[length_map,take_length] at hms
  exact q p ms U hp sb hm hr hms
theorem y7(h:uc ds Z Qd):kh ‹Qd› (aR ["d","marks","x","low","high","middle"] ds) Z:=by
 obtain⟨d,p,ms,x,rfl,hd,hp,gm,ox,bx,hr,hl,q⟩:=h
 unfold kh
 walk_at "rn"
 rw[hp]
 dsimp only
 rw[Dj,length_map]
 refine⟨fun n ρ U=>∃(lo hi:Nat) (r5:Option D),ρ=[some (.v (.int d)),some (.m p),some (.v (dN x)),some (.v (.int (lo:Nat))),some (.v (.int (hi:Nat))),r5]/\U=Z/\n=hi-lo/\lo<=hi/\hi<=ms.length/\(∀i m,i<lo->ms[i]? = some m->dif d x m=1)/\(∀i m,hi<=i->ms[i]? = some m->¬ dif d x m=1),
  ⟨_,0,ms.length,none,rfl,rfl,rfl,zero_le _,Nat.le_refl _,fun i m z=>absurd z (not_lt_zero _),fun i m z e=>by rw[getElem?_eq_none z] at e;cases e⟩,?_⟩
 rintro n ρ U ⟨lo,hi,r5,rfl,rfl,rfl,h1,h2,hb,ha⟩
 walk_at "rn"
 by_cases c:lo<hi
 ·rw[if_pos (by simpa using c)]
  have hm:(lo+hi) / 2<ms.length:=by omega
  have em:ms[(lo+hi) / 2]? = some ms[(lo+hi) / 2]:=getElem?_eq_getElem hm
  have ef:(((lo:Nat):Int)+((hi:Nat):Int)).fdiv 2=(((lo+hi) / 2:Nat):Int):=by
   have:((lo:Nat):Int)+((hi:Nat):Int)=((lo+hi:Nat):Int):=by omega
   rw[this]
   exact M8 (lo+hi) 2
  rw[hp,ef]
  dsimp only
  rw[pq em]
  generalize ms[(lo+hi) / 2]=mm at em
  obtain⟨omm,bmm⟩:=gm mm (mem_of_getElem? em)
  refine⟨yR ⋯ (Sz.of (n:=2) ⋯) ⋯,d,x,mm,rfl,hd,bx,bmm,?_⟩
  dsimp only
  by_cases cc:dif d x mm=1
  ·rw[if_pos (decide_eq_true cc)]
   refine⟨_,?_,(lo+hi) / 2+1,hi,some (.v (.int (((lo+hi) / 2:Nat):Int))),by simp,rfl,rfl,∅,h2,fun i m z e=>?_,ha⟩
   ·omega
   ·rcases lt_or_eq_of_le (le_of_lt_succ z) with z|z
    ·obtain⟨om,_⟩:=gm m (mem_of_getElem? e)
     exact gr hd ox omm om cc (ua hr z e em)
    ·rw[z,em] at e
     cases e
     exact cc
  ·rw[if_neg (by simpa using cc)]
   refine⟨_,?_,lo,(lo+hi) / 2,_,rfl,rfl,rfl,∅,∅,hb,fun i m z e f=>cc ?_⟩
   ·omega
   ·rcases lt_or_eq_of_le z with z|z
    ·obtain⟨om,_⟩:=gm m (mem_of_getElem? e)
     exact gr hd ox om omm f (ua hr z em e)
    ·rw[<- z,em] at e
     cases e
     exact f
 ·rw[if_neg (by simpa using c)]
  obtain rfl:lo=hi:=by omega
  exact q lo h2 hb ha
end
noncomputable def numAt:PyData->N3
 |.tuple [.int a,.int b,.int c]=>⟨a,b,c⟩
 |_=>az
noncomputable def tT(t:PyData):Prop:=Few t/\∀x,t=dN x->Bd 4400 x
noncomputable def OP(t:PyData):Prop:=∀a b c e,t = .tuple [a,b,c,e]->tT a/\tT b/\tT c/\tT e
noncomputable def jz(d:Int):PyData->Bool
 |.tuple [a,b,c,e]=>(isNum a&&(isNum b&&(decide (0<=sg d (numAt a).a (numAt a).b)&&decide (0<=sg d (numAt b).a (numAt b).b))))&&(bV d c&&bV d e)
 |_=>false
noncomputable def sF:DSp:=fun ds Z Q=>∃(d:Int) (t:PyData),ds=[.v (.int d),.v t]/\aM d/\OP t/\Q (.v (.bool (jz d t))) Z
theorem zp{ds:List D}{Z:Mu}{Q:DK}(h:sF ds Z Q):ds.length=2:=by obtain⟨_,_,rfl,_⟩:=h;rfl
noncomputable def MA(t:PyData):Prop:=∀a b c,t = .tuple [a,b,c]->tT a/\tT b/\∀ts,c = .tuple ts->ts.length<=1000/\∀x∈ts,OP x
noncomputable def jy(d:Int):PyData->Bool
 |.tuple [a,b,.tuple ts]=>bV d a&&(bV d b&&(decide (1<=ts.length)&&(decide (ts.length<=60)&&ts.all (jz d))))
 |_=>false
noncomputable def xU:DSp:=fun ds Z Q=>∃(d:Int) (t:PyData),ds=[.v (.int d),.v t]/\aM d/\MA t/\Q (.v (.bool (jy d t))) Z
theorem FU{ds:List D}{Z:Mu}{Q:DK}(h:xU ds Z Q):ds.length=2:=by obtain⟨_,_,rfl,_⟩:=h;rfl
noncomputable def si:DTS:=
 (aN (cj (ip (dS (dB (wx "tuple" (ah 1)))) (dB (dOp (de true) (dCB da (ag (ah 1) ar)) (dC (.int 4))))) (bb (dC (.bool false))) bz)
 (aN (ba (ah 1) (cA 4 (aD (ao 2) (aD (ao 3) (aD (ao 4) (aD (ao 5) cN))))))
 (aN (cj (ip (dS (dB (ay lS (ag (ah 2) ar)))) (ip (dS (dB (ay lS (ag (ah 3) ar)))) (ip (dB (dOp rLt (ay iF (ag (ah 0) (ag (ah 2) ar))) (dC (.int 0)))) (dB (dOp rLt (ay iF (ag (ah 0) (ag (ah 3) ar))) (dC (.int 0))))))) (bb (dC (.bool false))) bz)
 (bb (kE (ay dE (ag (ah 0) (ag (ah 4) ar))) (ay dE (ag (ah 0) (ag (ah 5) ar))))))))
noncomputable def pB:DTS:=
 (aN (cj (ip (dS (dB (wx "tuple" (ah 1)))) (dB (dOp (de true) (dCB da (ag (ah 1) ar)) (dC (.int 3))))) (bb (dC (.bool false))) bz)
 (aN (ba (ah 1) (cA 3 (aD (ao 2) (aD (ao 3) (aD (ao 4) cN)))))
 (aN (cj (ip (dS (dB (ay dE (ag (ah 0) (ag (ah 2) ar))))) (dS (dB (ay dE (ag (ah 0) (ag (ah 3) ar)))))) (bb (dC (.bool false))) bz)
 (aN (cj (ip (dS (dB (wx "tuple" (ah 4)))) (ip (dB (dOp rLt (dCB da (ag (ah 4) ar)) (dC (.int 1)))) (dB (dOp rGt (dCB da (ag (ah 4) ar)) (dC (.int 60)))))) (bb (dC (.bool false))) bz)
 (bb (dCB uN (ag (sY [none,some 0] (kM (ah 4)) (ao 0) jB (ay sF (ag (ah 1) (ag (ah 0) ar)))) ar)))))))
section
variable {Z:Mu}{Qd:DK}{ds:List D}
theorem vK{d:Int}{xs:List PyData}(h:xs.length≠4):jz d (.tuple xs)=false:=by
 match xs,h with
 |[],_=>rfl
 |[_],_=>rfl
 |[_,_],_=>rfl
 |[_,_,_],_=>rfl
 |[_,_,_,_],h=>exact absurd rfl h
 |_::_::_::_::_::_,_=>rfl
theorem vP{d:Int}{p:PyData}(h:¬ ∃xs,p = .tuple xs):jz d p=false:=by cases p<;>first|rfl|exact absurd ⟨_,rfl⟩ h
theorem mS{p:PyData}(h:¬ ∃xs,p = .tuple xs):isT "tuple" p=false:=by cases p<;>first|rfl|exact absurd ⟨_,rfl⟩ h
theorem C6{α:Type}{xs:List α}(hl:xs.length=4):∃a b c d,xs=[a,b,c,d]:=by
 match xs,hl with
 |[a,b,c,d],_=>exact⟨a,b,c,d,rfl⟩
theorem xT{d:Int}{a b c e:PyData}:jz d (.tuple [a,b,c,e])=((isNum a&&(isNum b&&(decide (0<=sg d (numAt a).a (numAt a).b)&&decide (0<=sg d (numAt b).a (numAt b).b))))&&(bV d c&&bV d e)):=rfl
theorem qT{x:N3}:numAt (dN x)=x:=rfl
theorem G4(h:sF ds Z Qd):si ‹Qd› (aR ["d","thing","x","y","width","height"] ds) Z:=by
 obtain⟨d,t,rfl,hd,ht4,q⟩:=h
 unfold si
 walk_at "rn"
 by_cases ht:∃xs,t = .tuple xs
 ·obtain⟨xs,rfl⟩:=ht
  rw[if_neg (by rw[show isT "tuple" (.tuple xs)=true from rfl];decide)]
  walk_at "rn"
  by_cases l4:xs.length=4
  ·obtain⟨a,b,c,e,rfl⟩:=C6 l4
   rw[if_neg (by simp)]
   obtain⟨pa,pb,pc,pe⟩:=ht4 a b c e rfl
   rw[xT] at q
   walk_at "rn"
   refine⟨trivial,a,rfl,pa.1,?_⟩
   dsimp only
   cases na:isNum a with
   |false=>rw[if_pos ⋯];rw[na] at q;exact q
   |true=>
    rw[if_neg ⋯]
    rw[na,Bool.true_and] at q
    refine⟨b,rfl,pb.1,?_⟩
    dsimp only
    cases nb:isNum b with
    |false=>rw[if_pos ⋯];rw[nb] at q;exact q
    |true=>
     rw[if_neg ⋯]
     rw[nb,Bool.true_and] at q
     obtain⟨x,rfl,ox⟩:=dP na
     obtain⟨y,rfl,oy⟩:=dP nb
     rw[qT,qT] at q
     refine⟨d,x,rfl,hd,(pa.2 x rfl).mono ⋯,?_⟩
     walk_at "rn"
     by_cases cx:0<=sg d x.a x.b
     ·rw[if_neg (by simp;omega)]
      rw[decide_eq_true cx,Bool.true_and] at q
      refine⟨d,y,rfl,hd,(pb.2 y rfl).mono ⋯,?_⟩
      walk_at "rn"
      by_cases cy:0<=sg d y.a y.b
      ·rw[if_neg (by simp;omega)]
       rw[decide_eq_true cy,Bool.true_and] at q
       refine⟨d,c,rfl,hd,pc.1,fun x e=>(pc.2 x e).mono ⋯,?_⟩
       dsimp only
       cases ac:bV d c with
       |false=>rw[if_neg ⋯];rw[ac] at q;exact q
       |true=>
        rw[if_pos rfl]
        rw[ac,Bool.true_and] at q
        exact⟨d,e,rfl,hd,pe.1,fun x e=>(pe.2 x e).mono ⋯,q⟩
      ·rw[if_pos (by simp;omega)]
       rw[decide_eq_false cy] at q
       exact q
     ·rw[if_pos (by simp;omega)]
      rw[decide_eq_false cx] at q
      exact q
  ·rw[if_pos (by simp;omega)]
   rw[vK l4] at q
   exact q
 ·rw[if_pos (by rw[mS ht];rfl)]
  rw[vP ht] at q
  exact q
theorem vw{d:Int}{xs:List PyData}(h:xs.length≠3):jy d (.tuple xs)=false:=by
 match xs,h with
 |[],_=>rfl
 |[_],_=>rfl
 |[_,_],_=>rfl
 |[_,_,_],h=>exact absurd rfl h
 |_::_::c::_::_,_=>cases c<;>rfl
theorem wg{d:Int}{p:PyData}(h:¬ ∃xs,p = .tuple xs):jy d p=false:=by cases p<;>first|rfl|exact absurd ⟨_,rfl⟩ h
theorem xN{d:Int}{a b c:PyData}(h:¬ ∃ts,c = .tuple ts):jy d (.tuple [a,b,c])=false:=by cases c<;>first|rfl|exact absurd ⟨_,rfl⟩ h
theorem zG{α:Type}{xs:List α}(hl:xs.length=3):∃a b c,xs=[a,b,c]:=by
 match xs,hl with
 |[a,b,c],_=>exact⟨a,b,c,rfl⟩
theorem mR{f:PyData->Bool}:∀(xs:List PyData),cZ (xs.filterMap fun x=>some (.bool (f x)))=some (xs.map f)
 |[]=>rfl
 |x::xs=>by
  rw[filterMap_cons]
  simp only[cZ,mR xs,map_some,map_cons]
theorem E7(h:xU ds Z Qd):pB ‹Qd› (aR ["d","thing","width","height","tiles"] ds) Z:=by
 obtain⟨d,t,rfl,hd,ft,q⟩:=h
 unfold pB
 walk_at "rn"
 by_cases ht:∃xs,t = .tuple xs
 ·obtain⟨xs,rfl⟩:=ht
  rw[if_neg (by rw[show isT "tuple" (.tuple xs)=true from rfl];decide)]
  walk_at "rn"
  by_cases l3:xs.length=3
  ·obtain⟨a,b,c,rfl⟩:=zG l3
   rw[if_neg (by simp)]
   obtain⟨pa,pb,pc⟩:=ft a b c rfl
   walk_at "rn"
   have qf:(∃ts,c = .tuple ts)\/Qd (.v (.bool false)) Z:=by
    by_cases hc:∃ts,c = .tuple ts
    ·exact .inl hc
    ·rw[xN hc] at q;exact .inr q
   have q3:∀ts,c = .tuple ts->Qd (.v (.bool (bV d a&&(bV d b&&(decide (1<=ts.length)&&(decide (ts.length<=60)&&ts.all (jz d))))))) Z:=fun ts e=>by subst e;exact q
   refine⟨trivial,d,a,rfl,hd,pa.1,fun x e=>(pa.2 x e).mono ⋯,?_⟩
   dsimp only
   cases aa:bV d a with
   |false=>
    rw[if_pos ⋯]
    rcases qf with ⟨ts,e⟩|qf
    ·have:=q3 ts e;rw[aa] at this;exact this
    ·exact qf
   |true=>
    rw[if_neg ⋯]
    refine⟨d,b,rfl,hd,pb.1,fun x e=>(pb.2 x e).mono ⋯,?_⟩
    dsimp only
    cases ab:bV d b with
    |false=>
     rw[if_pos ⋯]
     rcases qf with ⟨ts,e⟩|qf
     ·have:=q3 ts e;rw[aa,ab] at this;exact this
     ·exact qf
    |true=>
     rw[if_neg ⋯]
     by_cases hc:∃ts,c = .tuple ts
     ·obtain⟨ts,rfl⟩:=hc
      have q4:=q3 ts rfl
      rw[aa,ab,Bool.true_and,Bool.true_and] at q4
      rw[if_neg (by rw[show isT "tuple" (.tuple ts)=true from rfl];decide)]
      walk_at "rn"
      by_cases c1:1<=ts.length
      ·rw[if_neg (by simp;omega)]
       rw[decide_eq_true c1,Bool.true_and] at q4
       by_cases c2:ts.length<=60
       ·rw[if_neg (by simp;omega)]
        rw[decide_eq_true c2,Bool.true_and] at q4
        obtain⟨tl,gt⟩:=pc ts rfl
        refine⟨tl,fun x=>some (.bool (jz d x)),fun x hx U _=>⟨⟨trivial,trivial⟩,d,x,rfl,hd,gt x hx,rfl,rfl⟩,?_⟩
        rw[mR]
        dsimp only
        have ea:(ts.map (jz d)).all id=ts.all (jz d):=by simp[all_map]
        rw[ea]
        exact q4
       ·rw[if_pos (by simp;omega)]
        rw[decide_eq_false c2] at q4
        exact q4
      ·rw[if_pos (by simp;omega)]
       rw[decide_eq_false c1] at q4
       exact q4
     ·rw[if_pos (by rw[mS hc];rfl)]
      rw[xN hc] at q
      exact q
  ·rw[if_pos (by simp;omega)]
   rw[vw l3] at q
   exact q
 ·rw[if_pos (by rw[mS ht];rfl)]
  rw[wg ht] at q
  exact q
end
structure Tl where
 x:N3
 y:N3
 w:N3
 h:N3
noncomputable def tlD(t:Tl):PyData:=.tuple [dN t.x,dN t.y,dN t.w,dN t.h]
structure SV(d:Int)(t:Tl):Prop where
 ox:Ok t.x
 oy:Ok t.y
 ow:Ok t.w
 oh:Ok t.h
 bx:Bd 2100 t.x
 by_:Bd 2100 t.y
 bw:Bd 2100 t.w
 bh:Bd 2100 t.h
noncomputable def vA(t:Tl):PyData:=.tuple [dN t.x,dN (plus t.x t.w),dN t.y,dN (plus t.y t.h)]
noncomputable def qB:DSp:=fun ds Z Q=>∃(d:Int) (t:Tl),ds=[.v (tlD t)]/\SV d t/\Q (.v (vA t)) Z
theorem AQ{ds:List D}{Z:Mu}{Q:DK}(h:qB ds Z Q):ds.length=1:=by obtain⟨_,_,rfl,_⟩:=h;rfl
noncomputable def ff(ms:List N3)(e:N3):Bool:=decide (ms.head? = some az)&&decide (ms.getLast? = some e)
noncomputable def tm:DSp:=fun ds Z Q=>∃(ms:List N3) (e:N3),ds=[.v (.list (ms.map dN)),.v (dN e)]/\ms≠[]/\Q (.v (.bool (ff ms e))) Z
theorem Fh{ds:List D}{Z:Mu}{Q:DK}(h:tm ds Z Q):ds.length=2:=by obtain⟨_,_,rfl,_⟩:=h;rfl
noncomputable def oi:DTS:=
 (aN (ba (ah 0) (cA 4 (aD (ao 1) (aD (ao 2) (aD (ao 3) (aD (ao 4) cN))))))
 (bb (aY (ag (ah 1) (ag (ay ix (ag (ah 1) (ag (ah 3) ar))) (ag (ah 2) (ag (ay ix (ag (ah 2) (ag (ah 4) ar))) ar)))))))
noncomputable def jm:DTS:=
 (bb (kE (dOp (de false) (dOp aQ (ah 0) (dC (.int 0))) (dC (.tuple [.int 0,.int 0,.int 1]))) (dOp (de false) (dOp aQ (ah 0) (vB (dC (.int 1)))) (ah 1))))
section
variable {Z:Mu}{Qd:DK}{ds:List D}
theorem C3(h:qB ds Z Qd):oi ‹Qd› (aR ["tile","x","y","width","height"] ds) Z:=by
 obtain⟨d,t,rfl,o,q⟩:=h
 unfold oi tlD
 walk_at "rn"
 refine⟨trivial,t.x,t.w,rfl,o.ox,o.ow,o.bx.mono ⋯,o.bw.mono ⋯,?_⟩
 walk_at "rn"
 refine⟨t.y,t.h,rfl,o.oy,o.oh,o.by_.mono ⋯,o.bh.mono ⋯,?_⟩
 walk_at "rn"
 exact q
theorem pE{ms:List N3}{l:N3}(h:ms.getLast? = some l):atI (ms.map dN) (-1)=some (dN l):=by
 obtain⟨ys,rfl⟩:∃ys,ms=ys++[l]:=by
  have hn:ms≠[]:=fun e=>by rw[e] at h;cases h
  refine⟨ms.dropLast,?_⟩
  rw[List.getLast?_eq_getLast hn] at h
  have e:=List.dropLast_concat_getLast hn
  rw[Option.some.inj h] at e
  exact e.symm
 rw[map_append]
 unfold atI ixN
 have e:(ys.map dN++[dN l]).length=ys.length+1:=by simp
 rw[show List.map dN [l]=[dN l] from rfl,e]
 split
 ·omega
 ·rw[if_pos ∅]
  have z:(-1+((ys.length+1:Nat):Int)).toNat=ys.length:=by omega
  simp only[bind_some]
  rw[z]
  simp
theorem xc(h:tm ds Z Qd):jm ‹Qd› (aR ["marks","end"] ds) Z:=by
 obtain⟨ms,e,rfl,hn,q⟩:=h
 unfold jm
 obtain⟨l,hl⟩:∃l,ms.getLast? = some l:=⟨ms.getLast hn,List.getLast?_eq_getLast hn⟩
 obtain⟨f,r,rfl⟩:∃f r,ms=f::r:=by
  cases ms with
  |nil=>exact absurd rfl hn
  |cons f r=>exact⟨f,r,rfl⟩
 walk_at "rn"
 have er:ff (f::r) e=(decide (f=⟨0,0,1⟩)&&decide (l=e)):=by
  unfold ff
  rw[hl]
  congr 1
  ·rw[List.head?_cons]
   simp only[Option.some.injEq]
   rfl
  ·simp only[Option.some.injEq]
 rw[er] at q
 by_cases c:f=⟨0,0,1⟩
 ·rw[if_pos (decide_eq_true c),<- show (f::r).map dN=dN f::r.map dN from rfl,pE hl]
  dsimp only
  rw[II,false_xor]
  rw[decide_eq_true c,Bool.true_and] at q
  exact q
 ·rw[if_neg (by simpa using c)]
  rw[decide_eq_false c] at q
  exact q
end
section
variable {Z:Mu}{d:D}{Q:DK}
theorem NO{a b c f g h k l m n n11}{o:Rho}:ah 11 (a::b::c::f::g::h::k::l::m::n::n11::some d::o) Z Q=Q d Z:=propext Iff.rfl
theorem Ov{a b c f g h k l m n n11 n12}{o:Rho}:ah 12 (a::b::c::f::g::h::k::l::m::n::n11::n12::some d::o) Z Q=Q d Z:=propext Iff.rfl
theorem NF{a b c f g h k l m n n11 n12 n13}{o:Rho}:ah 13 (a::b::c::f::g::h::k::l::m::n::n11::n12::n13::some d::o) Z Q=Q d Z:=propext Iff.rfl
theorem NC{a b c f g h k l m n n11 n12 n13 n14}{o:Rho}:ah 14 (a::b::c::f::g::h::k::l::m::n::n11::n12::n13::n14::some d::o) Z Q=Q d Z:=propext Iff.rfl
theorem ND{to te:DTE}{ρ:Rho}{Z:Mu}{Q:DK}:HQ to te ρ Z Q=to ρ Z fun x am=>match x with
 |.m l=>te ρ am fun y be=>(match y,be l with
  |.v (.int i),some xs=>(0<=i/\i<1000)/\∃d,xs[i.toNat]? = some d/\Q (.v d) (aE be l (xs.eraseIdx i.toNat))
  |_,_=>False)
 |_=>False:=propext Iff.rfl
theorem Nh{a b:Bool}{Z:Mu}{Q:DK}:vb (.v (.bool a)) (.v (.bool b)) Z Q=Q (.v (.bool (!(a==b)))) Z:=propext Iff.rfl
end
noncomputable def Ds(x:N3):List Int:=[x.a,x.b,x.c]
theorem M7{x y:N3}(h:Ds x=Ds y):x=y:=by
 cases x;cases y
 unfold Ds at h
 simp only[List.cons.injEq,and_true] at h
 obtain⟨rfl,rfl,rfl⟩:=h
 rfl
theorem uO{d:Int}{x:N3}(hd:aM d):dif d x x≠1:=fun h=>by
 have:=dif_neg (x:=x) (y:=x) hd
 omega
theorem fI{d:Int}{P:List N3}(hd:aM d)(h:cR d P):P.Nodup:=by
 unfold List.Nodup
 refine List.Pairwise.imp (fun {a b} z (e:a=b)=>?_) h
 subst e
 exact uO hd z
structure eN(d:Int)(P fs:List N3):Prop where
 up:cR d P
 mem:∀x,x∈P↔x∈fs
theorem J2{d:Int}(hd:aM d){P Q:List N3}(hp:cR d P)(hq:cR d Q)(g:∀x∈P,Ok x)(h:∀x,x∈P↔x∈Q):P=Q:=by
 induction P generalizing Q with
 |nil=>
  cases Q with
  |nil=>rfl
  |cons y Q=>exact absurd ((h y).mpr mem_cons_self) not_mem_nil
 |cons x P ih=>
  cases Q with
  |nil=>exact absurd ((h x).mp mem_cons_self) not_mem_nil
  |cons y Q=>
   obtain⟨p1,p2⟩:=List.pairwise_cons.mp hp
   obtain⟨q1,q2⟩:=List.pairwise_cons.mp hq
   have e:x=y:=by
    rcases List.mem_cons.mp ((h x).mp mem_cons_self) with e|e
    ·exact e
    ·rcases List.mem_cons.mp ((h y).mpr mem_cons_self) with e'|e'
     ·exact e'.symm
     ·have a:=p1 y e'
      have b:=q1 x e
      rw[dif_neg hd,b] at a
      exact absurd a ⋯
   subst e
   rw[ih p2 q2 (fun z hz=>g z (mem_cons_of_mem _ hz)) fun z=>?_]
   have nx:x ∉ P:=fun m=>uO hd (p1 x m)
   have ny:x ∉ Q:=fun m=>uO hd (q1 x m)
   constructor
   ·intro m
    rcases List.mem_cons.mp ((h z).mp (mem_cons_of_mem _ m)) with e|e
    ·exact absurd (e▸m) nx
    ·exact e
   ·intro m
    rcases List.mem_cons.mp ((h z).mpr (mem_cons_of_mem _ m)) with e|e
    ·exact absurd (e▸m) ny
    ·exact e
noncomputable def ents(P:List N3):List (List Int×PyData):=P.zipIdx.map fun x=>(Ds x.1,.int (x.2:Nat))
theorem Jv{P:List N3}{x:N3}:ents (P++[x])=ents P++[(Ds x,.int (P.length:Nat))]:=by
 unfold ents
 rw[List.zipIdx_append,map_append]
 simp
theorem MF{P:List N3}:(ents P).length=P.length:=by unfold ents;simp
noncomputable def book(P:List N3):List (List Int×PyData):=putAll (ents P)
theorem BH{P:List N3}{x:N3}:book (P++[x])=jf (book P) (Ds x) (.int (P.length:Nat)):=by unfold book;rw[Jv,putAll_snoc]
theorem K7{P:List N3}:(book P).length<=P.length:=by unfold book;have:=yj (ents P);rw[MF] at this;exact this
theorem snoc_ind{α:Type}{p:List α->Prop}(h0:p [])(h1:∀l x,p l->p (l++[x]))(l:List α):p l:=by
 rw[<- List.reverse_reverse l]
 generalize l.reverse=r
 induction r with
 |nil=>exact h0
 |cons a r ih=>rw[List.reverse_cons];exact h1 _ _ ih
theorem jV{x:N3}(P:List N3):P.Nodup->x∈P->ck (book P) (Ds x)=some (.int (P.idxOf x:Nat)):=by
 refine snoc_ind (p:=fun P=>P.Nodup->x∈P->ck (book P) (Ds x)=some (.int (P.idxOf x:Nat))) (fun _ h=>absurd h not_mem_nil) (fun P y ih hn hx=>?_) P
 rw[BH,J0]
 have hn':=List.nodup_append.mp hn
 rw[List.idxOf_append]
 by_cases e:x=y
 ·subst e
  have hxp:x ∉ P:=fun m=>hn'.2.2 x m x mem_cons_self rfl
  rw[if_pos rfl,if_neg hxp,List.idxOf_cons_self,Nat.zero_add]
 ·have hxp:x∈P:=by
   rcases List.mem_append.mp hx with m|m
   ·exact m
   ·exact absurd (List.mem_singleton.mp m) e
  rw[if_neg (fun z=>e (M7 z)),if_pos hxp,ih hn'.1 hxp]
noncomputable def Jc:PyData->Option (List Int×PyData)
 |.tuple [i,.tuple [.int a,.int b,.int c]]=>some ([a,b,c],i)
 |_=>none
theorem Br(P:List N3):(ki 0 (P.map dN)).filterMap Jc=ents P:=by
 unfold ents
 have h:∀j,(ki j (P.map dN)).filterMap Jc=(P.zipIdx j).map fun x=>(Ds x.1,PyData.int (x.2:Nat)):=by
  induction P with
  |nil=>intro j;rfl
  |cons x P ih=>
   intro j
   rw[map_cons,List.zipIdx_cons,map_cons,<- ih]
   rfl
 exact h 0
theorem Ee{P:List N3}{x:PyData}(h:x∈ki 0 (P.map dN)):∃(i:Nat) (m:N3),x = .tuple [.int (i:Nat),dN m]/\m∈P:=by
 have k:∀j,x∈ki j (P.map dN)->∃(i:Nat) (m:N3),x = .tuple [.int (i:Nat),dN m]/\m∈P:=by
  clear h
  induction P with
  |nil=>intro j h;exact absurd h not_mem_nil
  |cons y P ih=>
   intro j h
   rw[map_cons] at h
   rcases List.mem_cons.mp h with rfl|h
   ·exact⟨j,y,rfl,mem_cons_self⟩
   ·obtain⟨i,m,e,hm⟩:=ih _ h
    exact⟨i,m,e,mem_cons_of_mem _ hm⟩
 exact k 0 h
theorem tG{xs:List PyData}:(ki 0 xs).length=xs.length:=by
 have h:∀j,(ki j xs).length=xs.length:=by
  induction xs with
  |nil=>intro j;rfl
  |cons y P ih=>intro j;show (ki (j+1) P).length+1=_;rw[ih];rfl
 exact h 0
noncomputable def cq(P Q:List N3)(t:Tl):GR.Bx:=⟨P.idxOf t.x,P.idxOf (plus t.x t.w),Q.idxOf t.y,Q.idxOf (plus t.y t.h)⟩
structure OnM(P Q:List N3)(t:Tl):Prop where
 l:t.x∈P
 r:plus t.x t.w∈P
 b:t.y∈Q
 t:plus t.y t.h∈Q
noncomputable def fh(x:Nat×Nat):List Int:=[(x.1:Nat),(x.2:Nat)]
theorem EE{x y:Nat×Nat}(h:fh x=fh y):x=y:=by
 unfold fh at h
 simp only[List.cons.injEq,and_true,Int.natCast_inj] at h
 exact Prod.ext h.1 h.2
theorem zH{x:Nat×Nat}{l:List (Nat×Nat)}:fh x∈l.map fh↔x∈l:=by
 rw[mem_map]
 constructor
 ·rintro ⟨y,h,e⟩;exact EE e▸h
 ·intro h;exact⟨x,h,rfl⟩
theorem qH{α β:Type}{f:α->List β}{l:List α}{i:Nat}{x:α}(h:l[i]? = some x):(l.take (i+1)).flatMap f=(l.take i).flatMap f++f x:=by
 rw[take_succ,h,flatMap_append]
 simp
theorem uq{α β:Type}{f:α->List β}{l:List α}{i:Nat}:(l.take i).flatMap f <+: l.flatMap f:=by
 conv=>rhs;rw[<- List.take_append_drop i l,flatMap_append]
 exact List.prefix_append _ _
theorem B0{a b i:Nat}(h:i<b-a):(GR.run a b)[i]? = some (a+i):=by
 unfold GR.run
 rw[getElem?_map,List.getElem?_range h]
 rfl
local macro_rules|`(tactic| walk_at "rb")=>mkW "Np Sa Q1 ↓Ti ↓l_t ↓l_f l_T l_F Tu SK Mn decide_true decide_false Bool.xor_true Bool.true_xor ↓Hy ↓HU ↓GL ↓FV ↓Ga ↓HG ↓Hz ↓Gg ↓GV ↓GD ↓CM ↓q_c ↓SY ↓q_B ↓QM ↓MN ↓Lu ↓P8 ↓Sv ↓HC ↓QL ↓Hf ↓SN ↓LW ↓Gm ↓Mp ↓Mr ↓GK ↓MD ↓KS ↓LK ↓Ml ↓Lv ↓GN ↓GH ↓GW ↓CP ↓BV ↓DC ↓Hb ↓BO ↓zI ↓K1 ↓MT ↓M5 ↓Ge ↓Hn ↓Qy ↓yv ↓HJ ↓KH ↓Tt ↓FW ↓HD ↓Ha ↓Gv ↓KU ↓Q4 ↓HM ↓DD ↓MC ↓MH ↓KI ↓CH ↓G6 ↓C7 ↓GI ↓G7 ↓Rm ↓K8 ↓GQ ↓Lc ↓Mm ↓Ho ↓Sy ↓BZ ↓QC ↓K2 ↓K6 ↓Of ↓Hg ↓zP ↓Dm ↓zm ↓yJ ↓Dv ↓zl ↓Ll tI Hm G5 Mi L4 LX Option.bind_none bind_some join_some List.getElem?_cons_zero List.getElem?_cons_succ aR OS KR LI MX II va Bg Bw Fd Ib map_cons map_nil List.append List.replicate length_cons length_nil Nat.reduceAdd Nat.reduceSub List.nil_append cons_append List.set_cons_zero List.set_cons_succ map_some Bool.not_true Bool.not_false false_eq_true Bool.true_eq_false xor_false false_xor ↓NO ↓Ov ↓NF ↓NC ↓ND ↓Nh ↓Mk ↓ML ↓Qq ↓RQ ↓QH ↓Mj"
noncomputable def MV(P Q:List N3)(ts:List Tl):Prop:=P.Nodup/\Q.Nodup/\P≠[]/\Q≠[]/\P.length<=900/\Q.length<=900/\ts.length<=900/\(∀t∈ts,OnM P Q t)/\(P.length-1)*(Q.length-1)<=9000
noncomputable def wj:DSp:=fun ds Z K=>∃(P Q:List N3) (ts:List Tl),ds=[.v (.list (ts.map vA)),.v (.list (P.map dN)),.v (.list (Q.map dN))]/\MV P Q ts /\
 ∀U,dO Z U->K (.v (.bool (GR.o6 (ts.map (cq P Q)) (P.length-1) (Q.length-1)))) U
noncomputable def zT:DSp:=fun ds Z K=>∃(P Q:List N3) (ts:List Tl),ds=[.v (.list (ts.map vA)),.v (.list (P.map dN)),.v (.list (Q.map dN))]/\MV P Q ts /\
 K (.v (.bool (GR.o6 (ts.map (cq P Q)) (P.length-1) (Q.length-1)))) Z
theorem zW{ds:List D}{Z:Mu}{Q:DK}(h:wj ds Z Q):ds.length=3:=by obtain⟨_,_,_,rfl,_⟩:=h;rfl
theorem xg{ds:List D}{Z:Mu}{Qd:DK}(h:zT ds Z Qd):wj ds Z (frz Z Qd):=by
 obtain⟨P,Q,ts,rfl,pre,q⟩:=h
 exact⟨P,Q,ts,rfl,pre,fun U sb=>⟨sb,q⟩⟩
noncomputable def qC:DSp:=fun ds Z Q=>∃(d:Int) (fs:List N3),ds=[.v (.int d),.v (.list (fs.map dN))]/\aM d/\(∀m∈fs,Ok m/\Bd 4400 m)/\fs.length<=1000 /\
 ∀ms,eN d ms fs->Q (.v (.list (ms.map dN))) Z
theorem vF{ds:List D}{Z:Mu}{Qd:DK}(h:qC ds Z Qd):zM ds Z (frz Z Qd):=by
 obtain⟨d,fs,rfl,hd,g,hl,q⟩:=h
 exact⟨d,fs,rfl,hd,g,hl,fun p ms U hp sb hm hr hms=>⟨⟨hp,sb⟩,_,hm,q ms ⟨hr,hms⟩⟩⟩
noncomputable def kg:DTS:=
 (aN (ba (vk [none,none] (zA (ag (ah 1) ar)) (cA 2 (aD (ao 0) (aD (ao 1) cN))) jB (ah 1) (ah 0)) (ao 3))
 (aN (ba (vk [none,none] (zA (ag (ah 2) ar)) (cA 2 (aD (ao 0) (aD (ao 1) cN))) jB (ah 1) (ah 0)) (ao 4))
 (aN (ba DR (ao 5))
 (aN (o7 (jh (ah 0)) (cA 4 (aD (ao 6) (aD (ao 7) (aD (ao 8) (aD (ao 9) cN))))) (o7 (sE (ag (D5 (ah 3) (ah 6)) (ag (D5 (ah 3) (ah 7)) ar))) (ao 10) (o7 (sE (ag (D5 (ah 4) (ah 8)) (ag (D5 (ah 4) (ah 9)) ar))) (ao 11) (aN (cj (dB (dOp (D0 false) (aY (ag (ah 10) (ag (ah 11) ar))) (ah 5))) (bb (dC (.bool false))) bz)
 (qx (L8 (ah 5) (aY (ag (ah 10) (ag (ah 11) ar)))))))))
 (bb (dOp (de false) (dCB IS (ag (ah 5) ar)) (eI (mH (dCB da (ag (ah 1) ar)) (dC (.int 1))) (mH (dCB da (ag (ah 2) ar)) (dC (.int 1))))))))))
section
variable {Z:Mu}{Qd:DK}{ds:List D}
structure Be(Z:Mu)(P Q:List N3)(pc pr ps:Addr)(done:List (Nat×Nat))(U:Mu):Prop where
 sub:dO Z U
 nc:Z.b pc=none
 nr:Z.b pr=none
 ns:Z.b ps=none
 c:U.b pc=some (.dict (book P))
 r:U.b pr=some (.dict (book Q))
 s:U.b ps=some (.set (done.map fh))
 nodup:done.Nodup
 sc:pc≠ps
 sr:pr≠ps
theorem Be.put{Z U:Mu}{P Q:List N3}{pc pr ps:Addr}{done:List (Nat×Nat)}{x:Nat×Nat}(h:Be Z P Q pc pr ps done U)(hx:x ∉ done):Be Z P Q pc pr ps (done++[x]) (bo U ps (.set (done.map fh++[fh x]))) where
 sub:=h.sub.box h.ns
 nc:=h.nc
 nr:=h.nr
 ns:=h.ns
 c:=by rw[bY h.sc];exact h.c
 r:=by rw[bY h.sr];exact h.r
 s:=by rw[bc,map_append];rfl
 nodup:=List.nodup_append.mpr ⟨h.nodup,by simp,fun a ha b hb e=>hx (by rw[List.mem_singleton.mp hb] at e;exact e▸ha)⟩
 sc:=h.sc
 sr:=h.sr
theorem Dk{P Q:List N3}{ts:List Tl}(on:∀t∈ts,OnM P Q t):∀q∈ts.map (cq P Q),q.r<=P.length-1/\q.t<=Q.length-1:=fun q hq=>by
 obtain⟨t,ht,rfl⟩:=List.mem_map.mp hq
 have a:=GR.cO (on t ht).r
 have b:=GR.cO (on t ht).t
 show P.idxOf _<=_/\Q.idxOf _<=_
 omega
theorem sub_len{qs:List GR.Bx}{C R:Nat}(hin:∀q∈qs,q.r<=C/\q.t<=R){done:List (Nat×Nat)}(hn:done.Nodup)(hp:∀x∈done,x∈GR.cells qs):done.length<=C*R:=by
 rw[<- GR.tF]
 refine GR.pig hn fun x hx=>?_
 obtain⟨q,hq,h⟩:=GR.jW.mp (hp x hx)
 obtain⟨h1,h2⟩:=hin q hq
 exact GR.bU.mpr ⟨zero_le _,lt_of_lt_of_le h.2.1 h1,zero_le _,lt_of_lt_of_le h.2.2.2 h2⟩
theorem sW{a b:Nat}:(GR.run a b).take (b-a)=GR.run a b:=List.take_of_length_le (by rw[GR.qO];exact Nat.le_refl _)
theorem yk(h:wj ds Z Qd):kg ‹Qd› (aR ["bounds","across","upward","columns","rows","covered","left","right","bottom","top","column","row"] ds) Z:=by
 obtain⟨P,Q,ts,rfl,⟨np,nq,p0,q0,lp,lq,lt,on,few⟩,q⟩:=h
 unfold kg
 walk_at "rb"
 rw[Jl]
 walk_at "rb"
 refine⟨by rw[tG,length_map];omega,Jc,?_,?_⟩
 ·intro x hx U _
  obtain⟨i,m,rfl,_⟩:=Ee hx
  walk_at "rb"
  refine⟨trivial,trivial,?_⟩
  rw[if_pos trivial]
  exact⟨trivial,_,_,rfl,rfl,rfl⟩
 rw[Br]
 intro pc hpc
 rw[Jl]
 walk_at "rb"
 refine⟨by rw[tG,length_map];omega,Jc,?_,?_⟩
 ·intro x hx U _
  obtain⟨i,m,rfl,_⟩:=Ee hx
  walk_at "rb"
  refine⟨trivial,trivial,?_⟩
  rw[if_pos trivial]
  exact⟨trivial,_,_,rfl,rfl,rfl⟩
 rw[Br]
 intro pr hpr ps hps
 have rc:pr≠pc:=fun e=>by rw[e,bc] at hpr;cases hpr
 have sr:ps≠pr:=fun e=>by rw[e,bc] at hps;cases hps
 have sc:ps≠pc:=fun e=>by rw[e,bY rc.symm,bc] at hps;cases hps
 have hpr':Z.b pr=none:=by rw[bY rc] at hpr;exact hpr
 have hps':Z.b ps=none:=by rw[bY sr,bY sc] at hps;exact hps
 rw[jw]
 walk_at "rb"
 have fits:=Dk on
 refine⟨fun i ρ U=>∃r6 r7 r8 r9 r10 r11,ρ=[some (.v (.list (ts.map vA))),some (.v (.list (P.map dN))),some (.v (.list (Q.map dN))),some (.b pc),some (.b pr),some (.b ps),r6,r7,r8,r9,r10,r11]/\Be Z P Q pc pr ps (GR.cells ((ts.map (cq P Q)).take i)) U,
  ⟨_,_,_,_,_,_,rfl,⟨((dO.refl.box hpc).box hpr').box hps',hpc,hpr',hps',by rw[bY sc.symm,bY rc.symm,bc];rfl,by rw[bY sr.symm,bc];rfl,by rw[bc];rfl,List.nodup_nil,sc.symm,sr.symm⟩⟩,?_,?_⟩
 ·rintro i x ρ U hx ⟨r6,r7,r8,r9,r10,r11,rfl,st⟩
  obtain⟨t,et,rfl⟩:∃t,ts[i]? = some t/\x=vA t:=by
   rw[getElem?_map] at hx
   cases e:ts[i]? with
   |none=>rw[e] at hx;cases hx
   |some t=>rw[e] at hx;exact⟨t,rfl,(Option.some.inj hx).symm⟩
  have o:=on t (mem_of_getElem? et)
  have eb:(ts.map (cq P Q))[i]? = some (cq P Q t):=by rw[getElem?_map,et];rfl
  have ea:GR.cells ((ts.map (cq P Q)).take (i+1))=GR.cells ((ts.map (cq P Q)).take i)++GR.cellsOf (cq P Q t):=qH eb
  have pa:GR.cells ((ts.map (cq P Q)).take (i+1)) <+: GR.cells (ts.map (cq P Q)):=uq
  rw[show vA t = .tuple [dN t.x,dN (plus t.x t.w),dN t.y,dN (plus t.y t.h)] from rfl]
  walk_at "rb"
  refine⟨trivial,?_⟩
  rw[jw]
  walk_at "rb"
  refine⟨pc,_,_,_,rfl,rfl,st.c,jV P np o.l,pc,_,_,_,rfl,rfl,st.c,jV P np o.r,?_⟩
  have e1:=GR.cO o.l
  have e2:=GR.cO o.r
  have e3:=GR.cO o.b
  have e4:=GR.cO o.t
  walk_at "rb"
  refine⟨∅,fun c ρ U=>∃r10 r11,ρ=[some (.v (.list (ts.map vA))),some (.v (.list (P.map dN))),some (.v (.list (Q.map dN))),some (.b pc),some (.b pr),some (.b ps),some (.v (dN t.x)),some (.v (dN (plus t.x t.w))),some (.v (dN t.y)),some (.v (dN (plus t.y t.h))),r10,r11] /\
   Be Z P Q pc pr ps (GR.cells ((ts.map (cq P Q)).take i)++((GR.run (P.idxOf t.x) (P.idxOf (plus t.x t.w))).take c).flatMap fun a=>(GR.run (Q.idxOf t.y) (Q.idxOf (plus t.y t.h))).map fun b=>(a,b)) U,⟨_,_,rfl,by rw[take_zero,List.flatMap_nil,append_nil];exact st⟩,?_,?_⟩
  ·rintro c x ρ be hx2 ⟨s10,s11,rfl,st2⟩
   obtain⟨rfl,hc⟩:=tX hx2
   have ec:(GR.run (P.idxOf t.x) (P.idxOf (plus t.x t.w)))[c]? = some (P.idxOf t.x+c):=B0 ∅
   have eb2:GR.cells ((ts.map (cq P Q)).take i)++((GR.run (P.idxOf t.x) (P.idxOf (plus t.x t.w))).take (c+1)).flatMap (fun a=>(GR.run (Q.idxOf t.y) (Q.idxOf (plus t.y t.h))).map fun b=>(a,b))=(GR.cells ((ts.map (cq P Q)).take i)++((GR.run (P.idxOf t.x) (P.idxOf (plus t.x t.w))).take c).flatMap fun a=>(GR.run (Q.idxOf t.y) (Q.idxOf (plus t.y t.h))).map fun b=>(a,b))++(GR.run (Q.idxOf t.y) (Q.idxOf (plus t.y t.h))).map fun b=>(P.idxOf t.x+c,b):=by
    rw[qH ec,append_assoc]
   have pb:GR.cells ((ts.map (cq P Q)).take i)++((GR.run (P.idxOf t.x) (P.idxOf (plus t.x t.w))).take (c+1)).flatMap (fun a=>(GR.run (Q.idxOf t.y) (Q.idxOf (plus t.y t.h))).map fun b=>(a,b)) <+: GR.cells ((ts.map (cq P Q)).take (i+1)):=by
    rw[ea]
    exact (List.prefix_append_right_inj _).mpr uq
   generalize GR.cells ((ts.map (cq P Q)).take i)++((GR.run (P.idxOf t.x) (P.idxOf (plus t.x t.w))).take c).flatMap (fun a=>(GR.run (Q.idxOf t.y) (Q.idxOf (plus t.y t.h))).map fun b=>(a,b))=pre at st2 eb2
   walk_at "rb"
   rw[jw]
   walk_at "rb"
   refine⟨pr,_,_,_,rfl,rfl,st2.r,jV Q nq o.b,pr,_,_,_,rfl,rfl,st2.r,jV Q nq o.t,?_⟩
   walk_at "rb"
   refine⟨∅,fun k ρ U=>∃r11,ρ=[some (.v (.list (ts.map vA))),some (.v (.list (P.map dN))),some (.v (.list (Q.map dN))),some (.b pc),some (.b pr),some (.b ps),some (.v (dN t.x)),some (.v (dN (plus t.x t.w))),some (.v (dN t.y)),some (.v (dN (plus t.y t.h))),some (.v (.int ((P.idxOf t.x:Nat)+(c:Nat)))),r11] /\
    Be Z P Q pc pr ps (pre++((GR.run (Q.idxOf t.y) (Q.idxOf (plus t.y t.h))).take k).map fun b=>(P.idxOf t.x+c,b)) U,⟨_,rfl,by rw[take_zero,map_nil,append_nil];exact st2⟩,?_,?_⟩
   ·rintro k x ρ bi hx3 ⟨s11,rfl,st3⟩
    obtain⟨rfl,hk⟩:=tX hx3
    have ek:(GR.run (Q.idxOf t.y) (Q.idxOf (plus t.y t.h)))[k]? = some (Q.idxOf t.y+k):=B0 ∅
    have es:pre++((GR.run (Q.idxOf t.y) (Q.idxOf (plus t.y t.h))).take (k+1)).map (fun b=>(P.idxOf t.x+c,b))=(pre++((GR.run (Q.idxOf t.y) (Q.idxOf (plus t.y t.h))).take k).map fun b=>(P.idxOf t.x+c,b))++[(P.idxOf t.x+c,Q.idxOf t.y+k)]:=by
     rw[take_succ,ek,map_append,append_assoc]
     rfl
    have pk:pre++((GR.run (Q.idxOf t.y) (Q.idxOf (plus t.y t.h))).take (k+1)).map (fun b=>(P.idxOf t.x+c,b)) <+: GR.cells (ts.map (cq P Q)):=by
     refine List.IsPrefix.trans ?_ (pb.trans pa)
     rw[eb2]
     exact (List.prefix_append_right_inj _).mpr (by rw[List.map_take];exact List.take_prefix _ _)
    have pk0:pre++((GR.run (Q.idxOf t.y) (Q.idxOf (plus t.y t.h))).take k).map (fun b=>(P.idxOf t.x+c,b)) <+: GR.cells (ts.map (cq P Q)):=List.IsPrefix.trans (by rw[es];exact List.prefix_append _ _) pk
    rw[es] at pk
    generalize pre++((GR.run (Q.idxOf t.y) (Q.idxOf (plus t.y t.h))).take k).map (fun b=>(P.idxOf t.x+c,b))=done at st3 es pk pk0
    have le:done.length<=9000:=le_trans (sub_len fits st3.nodup fun x hx=>pk0.subset hx) few
    have kc:o8 (.v (.tuple [.int ((P.idxOf t.x:Nat)+(c:Nat)),.int ((Q.idxOf t.y:Nat)+(k:Nat))]))=some (fh (P.idxOf t.x+c,Q.idxOf t.y+k)):=by
     show some _=some _
     unfold fh
     simp only[Int.natCast_add]
    walk_at "rb"
    refine⟨_,ps,_,kc,rfl,st3.s,by show (done.map fh).length<=9800;rw[length_map];omega,fun z=>absurd z ⋯,?_⟩
    walk_at "rb"
    by_cases cc:(P.idxOf t.x+c,Q.idxOf t.y+k)∈done
    ·rw[bJ (by show decide _=true;exact decide_eq_true (zH.mpr cc))]
     walk_at "rb"
     have e:GR.o6 (ts.map (cq P Q)) (P.length-1) (Q.length-1)=false:=by
      unfold GR.o6
      rw[decide_eq_false,Bool.false_and]
      intro hn
      have:=List.nodup_append.mp (hn.sublist pk.sublist)
      exact this.2.2 _ cc _ mem_cons_self rfl
     rw[e] at q
     exact q _ st3.sub
    ·rw[bI (by show ¬ decide _=true;rw[decide_eq_true_iff,zH];exact cc)]
     walk_at "rb"
     refine⟨ps,_,rfl,st3.s,_,_,kc,st3.s,by rw[length_map];omega,fun z=>cc (zH.mp z),?_⟩
     exact⟨_,rfl,by rw[es];exact st3.put cc⟩
   ·rintro ρ bi ⟨s11,rfl,st3⟩
    rw[lZ,show ((Q.idxOf (plus t.y t.h):Nat)-(Q.idxOf t.y:Nat):Int).toNat=Q.idxOf (plus t.y t.h)-Q.idxOf t.y by omega,sW] at st3
    exact⟨_,_,rfl,by rw[eb2];exact st3⟩
  ·rintro ρ bi ⟨s10,s11,rfl,st3⟩
   rw[lZ,show ((P.idxOf (plus t.x t.w):Nat)-(P.idxOf t.x:Nat):Int).toNat=P.idxOf (plus t.x t.w)-P.idxOf t.x by omega,sW] at st3
   exact⟨_,_,_,_,_,_,rfl,by rw[ea];exact st3⟩
 ·rintro ρ U ⟨r6,r7,r8,r9,r10,r11,rfl,st⟩
  rw[List.take_of_length_le (by rw[length_map,length_map];exact Nat.le_refl _)] at st
  have le:(GR.cells (ts.map (cq P Q))).length<=9000:=le_trans (sub_len fits st.nodup fun x hx=>hx) few
  walk_at "rb"
  refine⟨ps,_,rfl,st.s,by show (List.map fh _).length<=9800;rw[length_map];omega,?_⟩
  walk_at "rb"
  have:=q U st.sub
  have l1:0<P.length:=List.length_pos_iff.mpr p0
  have l2:0<Q.length:=List.length_pos_iff.mpr q0
  rw[length_map,length_map,show ((P.length:Nat):Int)-1=((P.length-1:Nat):Int) by omega,show ((Q.length:Nat):Int)-1=((Q.length-1:Nat):Int) by omega]
  refine⟨oP (Sz.of (n:=10) ∅) (Sz.of (n:=10) ∅) ⋯,?_⟩
  have e:decide (((ED (Box.set (List.map fh (GR.cells (List.map (cq P Q) ts)))):Nat):Int)=((P.length-1:Nat):Int)*((Q.length-1:Nat):Int))=GR.o6 (List.map (cq P Q) ts) (P.length-1) (Q.length-1):=by
   unfold GR.o6
   rw[decide_eq_true st.nodup,Bool.true_and]
   refine decide_eq_decide.mpr ?_
   show ((List.map fh (GR.cells (List.map (cq P Q) ts))).length:Int)=_↔_
   rw[length_map,<- Int.natCast_mul,Int.natCast_inj]
  rw[e]
  exact this
end
structure rE(d:Int)(t:Tl):Prop where
 ox:Ok t.x
 oy:Ok t.y
 ow:Ok t.w
 oh:Ok t.h
 sx:0<=sg d t.x.a t.x.b
 sy:0<=sg d t.y.a t.y.b
 sw:sg d t.w.a t.w.b=1
 sh:sg d t.h.a t.h.b=1
structure wF(d:Int)(w h:N3)(ts:List Tl):Prop where
 ow:Ok w
 oh:Ok h
 sw:sg d w.a w.b=1
 sh:sg d h.a h.b=1
 some:1<=ts.length
 few:ts.length<=60
 tile:∀t∈ts,rE d t
noncomputable def i9(w h:N3)(ts:List Tl):PyData:=.tuple [dN w,dN h,.tuple (ts.map tlD)]
structure Bd4(n:Nat)(t:Tl):Prop where
 x:Bd n t.x
 y:Bd n t.y
 w:Bd n t.w
 h:Bd n t.h
noncomputable def Im(m:Nat)(ts:List Tl):Prop:=∃X Y:List N3,(∀t∈ts,OnM X Y t)/\X.length<=200/\Y.length<=200/\X.length*Y.length<=m
noncomputable def gn(ts:List Tl):List N3:=ts.flatMap fun t=>[t.x,plus t.x t.w]
noncomputable def fZ(ts:List Tl):List N3:=ts.flatMap fun t=>[t.y,plus t.y t.h]
noncomputable def Gx(t:PyData):Prop:=MA t/\∀w h ts,t=i9 w h ts->Bd 2100 w/\Bd 2100 h/\(∀t∈ts,Bd4 2100 t)/\Im 8000 ts
noncomputable def Lj(d:Int)(t:PyData)(b:Bool):Prop:=(jy d t=false->b=false)/\∀w h ts,t=i9 w h ts->wF d w h ts ->
 ∃P Q,eN d P (gn ts)/\eN d Q (fZ ts)/\b=(ff P w&&(ff Q h&&GR.o6 (ts.map (cq P Q)) (P.length-1) (Q.length-1)))
noncomputable def j8:DSp:=fun ds Z K=>∃(d:Int) (t:PyData),ds=[.v (.int d),.v t]/\aM d/\Gx t/\∀b,Lj d t b->K (.v (.bool b)) Z
theorem DM{ds:List D}{Z:Mu}{Q:DK}(h:j8 ds Z Q):ds.length=2:=by obtain⟨_,_,rfl,_⟩:=h;rfl
noncomputable def nI:DTS:=
 (aN (cj (dS (dB (ay xU (ag (ah 0) (ag (ah 1) ar))))) (bb (dC (.bool false))) bz)
 (aN (ba (ah 1) (cA 3 (aD (ao 2) (aD (ao 3) (aD (ao 4) cN)))))
 (aN (ba (ka [none] (kM (ah 4)) (ao 0) jB (ay qB (ag (ah 0) ar))) (ao 5))
 (aN (ba (ay qC (ag (ah 0) (ag (DN [none,none,none,none,none] (jh (ah 5)) (cA 4 (aD (ao 0) (aD (ao 1) (aD (ao 2) (aD (ao 3) cN))))) (kM (aY (ag (ah 0) (ag (ah 1) ar)))) (ao 4) (ah 4)) ar))) (ao 6))
 (aN (ba (ay qC (ag (ah 0) (ag (DN [none,none,none,none,none] (jh (ah 5)) (cA 4 (aD (ao 0) (aD (ao 1) (aD (ao 2) (aD (ao 3) cN))))) (kM (aY (ag (ah 2) (ag (ah 3) ar)))) (ao 4) (ah 4)) ar))) (ao 7))
 (bb (kE (ay tm (ag (ah 6) (ag (ah 2) ar))) (kE (ay tm (ag (ah 7) (ag (ah 3) ar))) (ay zT (ag (ah 5) (ag (ah 6) (ag (ah 7) ar))))))))))))
section
variable {Z:Mu}{Qd:DK}{ds:List D}
theorem uT{d:Int}{t:PyData}(h:bV d t=true):∃x:N3,t=dN x/\Ok x/\sg d x.a x.b=1:=by
 cases n:isNum t with
 |false=>rw[kb n] at h;cases h
 |true=>
  obtain⟨x,rfl,ox⟩:=dP n
  rw[ke ox] at h
  exact⟨x,rfl,ox,of_decide_eq_true h⟩
theorem Nn{d:Int}{t:PyData}(h:jz d t=true):∃tl,t=tlD tl/\rE d tl:=by
 by_cases ht:∃xs,t = .tuple xs
 ·obtain⟨xs,rfl⟩:=ht
  by_cases l:xs.length=4
  ·obtain⟨a,b,c,e,rfl⟩:=C6 l
   rw[xT] at h
   simp only[and_eq_true,decide_eq_true_iff] at h
   obtain⟨⟨na,nb,sa,sb⟩,hc,he⟩:=h
   obtain⟨x,rfl,ox⟩:=dP na
   obtain⟨y,rfl,oy⟩:=dP nb
   obtain⟨w,rfl,ow,sw⟩:=uT hc
   obtain⟨k,rfl,ok,sk⟩:=uT he
   exact⟨⟨x,y,w,k⟩,rfl,ox,oy,ow,ok,sa,sb,sw,sk⟩
  ·rw[vK l] at h;cases h
 ·rw[vP ht] at h;cases h
theorem MW{d:Int}{ts:List PyData}(h:ts.all (jz d)=true):∃us:List Tl,ts=us.map tlD/\∀t∈us,rE d t:=by
 induction ts with
 |nil=>exact⟨[],rfl,fun _ z=>absurd z not_mem_nil⟩
 |cons t ts ih=>
  rw[List.all_cons,and_eq_true] at h
  obtain⟨us,rfl,g⟩:=ih h.2
  obtain⟨tl,rfl,v⟩:=Nn h.1
  exact⟨tl::us,rfl,fun x hx=>by
   rcases List.mem_cons.mp hx with rfl|hx
   ·exact v
   ·exact g x hx⟩
theorem xZ{d:Int}{t:PyData}(h:jy d t=true):∃w k ts,t=i9 w k ts/\wF d w k ts:=by
 by_cases ht:∃xs,t = .tuple xs
 ·obtain⟨xs,rfl⟩:=ht
  by_cases l:xs.length=3
  ·obtain⟨a,b,c,rfl⟩:=zG l
   by_cases hc:∃ts,c = .tuple ts
   ·obtain⟨ts,rfl⟩:=hc
    unfold jy at h
    simp only[and_eq_true,decide_eq_true_iff] at h
    obtain⟨ha,hb,h1,h2,h3⟩:=h
    obtain⟨w,rfl,ow,sw⟩:=uT ha
    obtain⟨k,rfl,ok,sk⟩:=uT hb
    obtain⟨us,rfl,g⟩:=MW h3
    rw[length_map] at h1 h2
    exact⟨w,k,us,rfl,ow,ok,sw,sk,h1,h2,g⟩
   ·rw[xN hc] at h;cases h
  ·rw[vw l] at h;cases h
 ·rw[wg ht] at h;cases h
theorem DX{t u:Tl}(h:tlD t=tlD u):t=u:=by
 cases t;cases u
 unfold tlD at h
 injection h with h
 simp only[List.cons.injEq,and_true] at h
 obtain⟨h1,h2,h3,h4⟩:=h
 rw[sN h1,sN h2,sN h3,sN h4]
theorem EM:∀{xs ys:List Tl},xs.map tlD=ys.map tlD->xs=ys
 |[],[],_=>rfl
 |[],_::_,h=>by cases h
 |_::_,[],h=>by cases h
 |x::xs,y::ys,h=>by
  rw[map_cons,map_cons] at h
  injection h with h1 h2
  rw[DX h1,EM h2]
theorem Ex{w h w' h':N3}{ts ts':List Tl}(e:i9 w h ts=i9 w' h' ts'):w=w'/\h=h'/\ts=ts':=by
 unfold i9 at e
 injection e with e
 simp only[List.cons.injEq,and_true,PyData.tuple.injEq] at e
 exact⟨sN e.1,sN e.2.1,EM e.2.2⟩
theorem qD{d:Int}(hd:aM d){P fs X:List N3}(m:eN d P fs)(h:∀x∈fs,x∈X):P.length<=X.length:=GR.pig (fI hd m.up) fun x hx=>h x ((m.mem x).mp hx)
theorem Fv{X Y:List N3}{ts:List Tl}(on:∀t∈ts,OnM X Y t):(∀x∈gn ts,x∈X)/\(∀y∈fZ ts,y∈Y):=by
 constructor
 ·intro x hx
  obtain⟨t,ht,h⟩:=List.mem_flatMap.mp hx
  simp only[mem_cons,not_mem_nil,or_false] at h
  rcases h with rfl|rfl
  ·exact (on t ht).l
  ·exact (on t ht).r
 ·intro x hx
  obtain⟨t,ht,h⟩:=List.mem_flatMap.mp hx
  simp only[mem_cons,not_mem_nil,or_false] at h
  rcases h with rfl|rfl
  ·exact (on t ht).b
  ·exact (on t ht).t
theorem KA{d:Int}{P Q:List N3}{ts:List Tl}(mp:eN d P (gn ts))(mq:eN d Q (fZ ts)):∀t∈ts,OnM P Q t:=fun t ht=>
 ⟨(mp.mem _).mpr (List.mem_flatMap.mpr ⟨t,ht,mem_cons_self⟩),(mp.mem _).mpr (List.mem_flatMap.mpr ⟨t,ht,mem_cons_of_mem _ mem_cons_self⟩),(mq.mem _).mpr (List.mem_flatMap.mpr ⟨t,ht,mem_cons_self⟩),(mq.mem _).mpr (List.mem_flatMap.mpr ⟨t,ht,mem_cons_of_mem _ mem_cons_self⟩)⟩
theorem LA{d:Int}{ts:List Tl}(v:∀t∈ts,rE d t)(b:∀t∈ts,Bd4 2100 t):∀m∈gn ts,Ok m/\Bd 4400 m:=fun m hm=>by
 obtain⟨t,ht,h⟩:=List.mem_flatMap.mp hm
 have V:=v t ht
 have B:=b t ht
 simp only[mem_cons,not_mem_nil,or_false] at h
 rcases h with rfl|rfl
 ·exact⟨V.ox,B.x.mono ⋯⟩
 ·exact⟨dn V.ox V.ow,(qP V.ox V.ow B.x B.w).mono ⋯⟩
theorem LN{d:Int}{ts:List Tl}(v:∀t∈ts,rE d t)(b:∀t∈ts,Bd4 2100 t):∀m∈fZ ts,Ok m/\Bd 4400 m:=fun m hm=>by
 obtain⟨t,ht,h⟩:=List.mem_flatMap.mp hm
 have V:=v t ht
 have B:=b t ht
 simp only[mem_cons,not_mem_nil,or_false] at h
 rcases h with rfl|rfl
 ·exact⟨V.oy,B.y.mono ⋯⟩
 ·exact⟨dn V.oy V.oh,(qP V.oy V.oh B.y B.h).mono ⋯⟩
theorem qV{ts:List Tl}:(gn ts).length=2*ts.length:=by
 unfold gn
 induction ts with
 |nil=>rfl
 |cons t ts ih=>rw[flatMap_cons,length_append,ih,length_cons];simp only[length_cons,length_nil];omega
theorem qG{ts:List Tl}:(fZ ts).length=2*ts.length:=by
 unfold fZ
 induction ts with
 |nil=>rfl
 |cons t ts ih=>rw[flatMap_cons,length_append,ih,length_cons];simp only[length_cons,length_nil];omega
noncomputable def f2X:PyData->List PyData
 |.tuple [a,b,_,_]=>[a,b]
 |_=>[]
noncomputable def f2Y:PyData->List PyData
 |.tuple [_,_,a,b]=>[a,b]
 |_=>[]
theorem L0(ts:List Tl):(ts.map vA).flatMap f2X=(gn ts).map dN:=by
 induction ts with
 |nil=>rfl
 |cons t ts ih=>rw[map_cons,flatMap_cons,ih];rfl
theorem LG(ts:List Tl):(ts.map vA).flatMap f2Y=(fZ ts).map dN:=by
 induction ts with
 |nil=>rfl
 |cons t ts ih=>rw[map_cons,flatMap_cons,ih];rfl
theorem MU{α:Type}{f:α->PyData}{g:PyData->Option PyData}{h:α->PyData}(e:∀x,g (f x)=some (h x))(ts:List α):(ts.map f).filterMap g=ts.map h:=by
 induction ts with
 |nil=>rfl
 |cons t ts ih=>rw[map_cons,filterMap_cons,e,ih];rfl
theorem Nz{d:Int}{t:Tl}(v:rE d t):jz d (tlD t)=true:=by
 unfold tlD
 rw[xT,yr v.ox,yr v.oy,qT,qT,decide_eq_true v.sx,decide_eq_true v.sy,ke v.ow,ke v.oh,decide_eq_true v.sw,decide_eq_true v.sh]
 rfl
theorem HY{d:Int}{w k:N3}{ts:List Tl}(v:wF d w k ts):jy d (i9 w k ts)=true:=by
 show (bV d (dN w)&&(bV d (dN k)&&(decide (1<=(ts.map tlD).length)&&(decide ((ts.map tlD).length<=60)&&(ts.map tlD).all (jz d)))))=true
 rw[ke v.ow,ke v.oh,decide_eq_true v.sw,decide_eq_true v.sh,length_map,decide_eq_true v.some,decide_eq_true v.few,all_map]
 simp only[Bool.true_and]
 exact List.all_eq_true.mpr fun t ht=>Nz (v.tile t ht)
theorem Cb(h:j8 ds Z Qd):nI ‹Qd› (aR ["d","thing","width","height","tiles","bounds","across","upward"] ds) Z:=by
 obtain⟨d,t,rfl,hd,⟨fp,lay⟩,q⟩:=h
 unfold nI
 walk_at "rb"
 refine⟨d,t,rfl,hd,fp,?_⟩
 walk_at "rb"
 cases fb:jy d t with
 |false=>
  rw[bJ (by rfl)]
  walk_at "rb"
  exact q false ⟨fun _=>rfl,fun w k ts e v=>by rw[e,HY v] at fb;cases fb⟩
 |true=>
  rw[bI (by simp)]
  obtain⟨w,k,ts,rfl,v⟩:=xZ fb
  obtain⟨_,_,bd,X,Y,on,lX,lY,few⟩:=lay w k ts rfl
  have l60:=v.few
  have l1:=v.some
  unfold i9
  walk_at "rb"
  refine⟨trivial,?_⟩
  rw[nS]
  walk_at "rb"
  refine⟨by rw[length_map];omega,fun p hp=>⟨fun i acc U=>acc=(ts.take i).map vA/\U=aE Z p acc,⟨rfl,rfl⟩,?_,?_⟩⟩
  ·rintro i x acc U hx ha ⟨e0,e1⟩
   obtain⟨t,et,rfl⟩:∃t,ts[i]? = some t/\x=tlD t:=by
    rw[getElem?_map] at hx
    cases e:ts[i]? with
    |none=>rw[e] at hx;cases hx
    |some t=>rw[e] at hx;exact⟨t,rfl,(Option.some.inj hx).symm⟩
   have V:=v.tile t (mem_of_getElem? et)
   have B:=bd t (mem_of_getElem? et)
   walk_at "rb"
   refine⟨trivial,?_⟩
   rw[if_pos trivial]
   refine⟨d,t,rfl,⟨V.ox,V.oy,V.ow,V.oh,B.x,B.y,B.w,B.h⟩,?_⟩
   walk_at "rb"
   refine⟨ha,?_,?_⟩
   ·rw[e0,take_succ,et,map_append];rfl
   ·rw[e1,iy]
  rintro acc U ⟨e0,e1⟩ ha
  rw[length_map,take_length] at e0
  subst e0
  rw[e1,qR hp]
  rw[Jq]
  walk_at "rb"
  refine⟨by rw[length_map];omega,f2X,by rw[L0,length_map,qV];omega,?_,?_⟩
  ·intro x hx U _
   obtain⟨t,ht,rfl⟩:=List.mem_map.mp hx
   unfold vA
   walk_at "rb"
   refine⟨trivial,trivial,trivial,trivial,id,rfl,fun y hy gV _=>⟨⟨trivial,trivial,trivial,trivial,trivial⟩,trivial,rfl⟩⟩
  rw[L0]
  refine⟨d,gn ts,rfl,hd,LA v.tile bd,by rw[qV];omega,fun P mp=>?_⟩
  walk_at "rb"
  rw[Jq]
  walk_at "rb"
  refine⟨by rw[length_map];omega,f2Y,by rw[LG,length_map,qG];omega,?_,?_⟩
  ·intro x hx U _
   obtain⟨t,ht,rfl⟩:=List.mem_map.mp hx
   unfold vA
   walk_at "rb"
   refine⟨trivial,trivial,trivial,trivial,id,rfl,fun y hy gV _=>⟨⟨trivial,trivial,trivial,trivial,trivial⟩,trivial,rfl⟩⟩
  rw[LG]
  refine⟨d,fZ ts,rfl,hd,LN v.tile bd,by rw[qG];omega,fun Q mq=>?_⟩
  walk_at "rb"
  have np:P≠[]:=fun e=>by
   have:gn ts≠[]:=fun z=>by have:=qV (ts:=ts);rw[z] at this;simp at this;omega
   obtain⟨x,hx⟩:=List.exists_mem_of_ne_nil _ this
   have:=(mp.mem x).mpr hx
   rw[e] at this
   exact absurd this not_mem_nil
  have nq:Q≠[]:=fun e=>by
   have:fZ ts≠[]:=fun z=>by have:=qG (ts:=ts);rw[z] at this;simp at this;omega
   obtain⟨x,hx⟩:=List.exists_mem_of_ne_nil _ this
   have:=(mq.mem x).mpr hx
   rw[e] at this
   exact absurd this not_mem_nil
  have done:∀b,b=(ff P w&&(ff Q k&&GR.o6 (ts.map (cq P Q)) (P.length-1) (Q.length-1)))->Qd (.v (.bool b)) Z:=fun b e=>by
   refine q b ⟨fun z=>?_,fun w' k' ts' e' v'=>?_⟩
   ·rw[fb] at z;cases z
   ·obtain⟨rfl,rfl,rfl⟩:=Ex e'
    exact⟨P,Q,mp,mq,e⟩
  refine⟨P,w,rfl,np,?_⟩
  walk_at "rb"
  cases r1:ff P w with
  |false=>
   rw[bI ⋯]
   exact done false (by rw[r1];rfl)
  |true=>
   rw[bJ rfl]
   walk_at "rb"
   refine⟨Q,k,rfl,nq,?_⟩
   walk_at "rb"
   cases r2:ff Q k with
   |false=>
    rw[bI ⋯]
    exact done false (by rw[r1,r2];rfl)
   |true=>
    rw[bJ rfl]
    walk_at "rb"
    obtain⟨oX,oY⟩:=Fv on
    have fP:=qD hd mp oX
    have fQ:=qD hd mq oY
    have fm:(P.length-1)*(Q.length-1)<=X.length*Y.length:=mul_le_mul ∅ ∅
    refine⟨P,Q,ts,rfl,⟨fI hd mp.up,fI hd mq.up,np,nq,∅,∅,∅,KA mp mq,∅⟩,?_⟩
    walk_at "rb"
    exact done _ (by rw[r1,r2];rfl)
end
noncomputable def sC:DSp:=fun ds Z Q=>∃(d:Int) (a:Addr) (fs:List N3),ds=[.v (.int d),.m a]/\aM d/\Z a=some (fs.map dN)/\(∀m∈fs,Ok m/\Bd 4300 m)/\fs.length<=900 /\
 ∀p ms U,Z p=none->dO Z U->U p=some (ms.map dN)->eN d ms fs->Q (.m p) U
noncomputable def vh:DSp:=fun ds Z Q=>∃(d:Int) (a:Addr) (fs:List N3),ds=[.v (.int d),.m a]/\aM d/\Z a=some (fs.map dN)/\(∀m∈fs,Ok m/\Bd 4300 m)/\fs.length<=900 /\
 ∀ms,eN d ms fs->Q (.v (.list (ms.map dN))) Z
theorem zB{ds:List D}{Z:Mu}{Q:DK}(h:sC ds Z Q):ds.length=2:=by obtain⟨_,_,_,rfl,_⟩:=h;rfl
theorem ve{ds:List D}{Z:Mu}{Qd:DK}(h:vh ds Z Qd):sC ds Z (frz Z Qd):=by
 obtain⟨d,a,fs,rfl,hd,ha,g,hl,q⟩:=h
 exact⟨d,a,fs,rfl,hd,ha,g,hl,fun p ms U hp sb hm mk=>⟨⟨hp,sb⟩,_,hm,q ms mk⟩⟩
noncomputable def iw:DTS:=
 (bb (kE (ay lS (ag (ah 1) ar)) (dOp rGt (ay iF (ag (ah 0) (ag (ah 1) ar))) (dC (.int 0)))))
noncomputable def jl:DTS:=
 (aN (cj (ip (dS (dB (wx "tuple" (ah 1)))) (ip (dB (dOp (de true) (dCB da (ag (ah 1) ar)) (dC (.int 4)))) (dS (dB (dCB uN (ag (sY [none] (kM (ah 1)) (ao 0) jB (ay lS (ag (ah 0) ar))) ar)))))) (bb (dC (.bool false))) bz)
 (aN (cj (ip (dB (dOp rLt (ay iF (ag (ah 0) (ag (dOp aQ (ah 1) (dC (.int 0))) ar))) (dC (.int 0)))) (dB (dOp rLt (ay iF (ag (ah 0) (ag (dOp aQ (ah 1) (dC (.int 1))) ar))) (dC (.int 0))))) (bb (dC (.bool false))) bz)
 (bb (kE (ay dE (ag (ah 0) (ag (dOp aQ (ah 1) (dC (.int 2))) ar))) (ay dE (ag (ah 0) (ag (dOp aQ (ah 1) (dC (.int 3))) ar)))))))
noncomputable def jq:DTS:=
 (aN (ba (rp ar) (ao 2))
 (aN (Kx (ah 1) (ao 3) (aN (yI 4 5 (ag (dC (.int 0)) (ag (dCB da (ag (ah 2) ar)) ar)))
 (aN (sG (dB (dOp rLt (ah 4) (ah 5))) (aN (ba (xw (dc (ah 4) (ah 5)) (dC (.int 2))) (ao 6))
 (cj (dB (ay x5 (ag (ah 0) (ag (dOp aQ (ah 2) (ah 6)) (ag (ah 3) ar))))) (ba (dc (ah 6) (dC (.int 1))) (ao 4)) (ba (ah 6) (ao 5)))))
 (cj (ip (dB (dOp (de false) (ah 4) (dCB da (ag (ah 2) ar)))) (dB (dOp (de true) (dOp aQ (ah 2) (ah 4)) (ah 3)))) (qx (Jy (ah 2) (ah 4) (ah 3))) bz))))
 (bb (ah 2))))
section
variable {Z:Mu}{Qd:DK}{ds:List D}
theorem wu(h:dE ds Z Qd):iw ‹Qd› (aR ["_law_d","_law_thing"] ds) Z:=by
 obtain⟨d,t,rfl,hd,ft,bt,q⟩:=h
 unfold iw
 walk_at "rb"
 refine⟨t,rfl,ft,?_⟩
 walk_at "rb"
 cases e:isNum t with
 |true=>
  rw[bJ rfl]
  obtain⟨x,rfl,ox⟩:=dP e
  walk_at "rb"
  refine⟨d,x,rfl,hd,bt x rfl,?_⟩
  walk_at "rb"
  rw[ke ox] at q
  have e2:decide (sg d x.a x.b>0)=decide (sg d x.a x.b=1):=by
   refine decide_eq_decide.mpr ?_
   have:=oE d x.a x.b
   omega
  rw[e2];exact q
 |false=>
  rw[bI ⋯]
  rw[kb e] at q
  exact q
theorem w8(h:sF ds Z Qd):jl ‹Qd› (aR ["_law_d","_law_thing"] ds) Z:=by
 obtain⟨d,t,rfl,hd,ht4,q⟩:=h
 unfold jl
 walk_at "rb"
 by_cases ht:∃xs,t = .tuple xs
 ·obtain⟨xs,rfl⟩:=ht
  rw[bI (by rw[show isT "tuple" (.tuple xs)=true from rfl];decide)]
  walk_at "rb"
  by_cases l4:xs.length=4
  ·obtain⟨a,b,c,e,rfl⟩:=C6 l4
   rw[bI (by simp)]
   obtain⟨pa,pb,pc,pe⟩:=ht4 a b c e rfl
   rw[xT] at q
   walk_at "rb"
   rw[rJ]
   walk_at "rb"
   refine⟨⋯,fun x=>some (.bool (isNum x)),?_,?_⟩
   ·intro x hx U _
    have fx:Few x:=by
     simp only[mem_cons,not_mem_nil,or_false] at hx
     rcases hx with rfl|rfl|rfl|rfl
     ·exact pa.1
     ·exact pb.1
     ·exact pc.1
     ·exact pe.1
    walk_at "rb"
    refine⟨trivial,?_⟩
    rw[if_pos trivial]
    exact⟨x,rfl,fx,rfl,rfl⟩
   rw[mR]
   dsimp only
   by_cases nn:isNum a=true/\isNum b=true/\isNum c=true/\isNum e=true
   ·obtain⟨na,nb,nc,ne⟩:=nn
    rw[bI (by simp[na,nb,nc,ne])]
    obtain⟨x,rfl,ox⟩:=dP na
    obtain⟨y,rfl,oy⟩:=dP nb
    rw[na,nb,qT,qT,Bool.true_and,Bool.true_and] at q
    walk_at "rb"
    refine⟨d,x,rfl,hd,(pa.2 x rfl).mono ⋯,?_⟩
    walk_at "rb"
    by_cases s1:sg d x.a x.b<0
    ·rw[bJ (decide_eq_true s1)]
     rw[decide_eq_false ∅,Bool.false_and,Bool.false_and] at q
     walk_at "rb"
     exact q
    rw[bI (by simpa using s1)]
    rw[decide_eq_true (show 0<=sg d x.a x.b by omega),Bool.true_and] at q
    walk_at "rb"
    refine⟨d,y,rfl,hd,(pb.2 y rfl).mono ⋯,?_⟩
    walk_at "rb"
    by_cases s2:sg d y.a y.b<0
    ·rw[bJ (decide_eq_true s2)]
     rw[decide_eq_false ∅,Bool.false_and] at q
     walk_at "rb"
     exact q
    rw[bI (by simpa using s2)]
    rw[decide_eq_true (show 0<=sg d y.a y.b by omega),Bool.true_and] at q
    walk_at "rb"
    refine⟨d,c,rfl,hd,pc.1,fun z h=>(pc.2 z h).mono ⋯,?_⟩
    walk_at "rb"
    cases ac:bV d c with
    |false=>
     rw[bI ⋯]
     rw[ac] at q
     exact q
    |true=>
     rw[bJ rfl]
     rw[ac,Bool.true_and] at q
     walk_at "rb"
     refine⟨d,e,rfl,hd,pe.1,fun z h=>(pe.2 z h).mono ⋯,?_⟩
     walk_at "rb"
     exact q
   ·have q':Qd (.v (.bool false)) Z:=by
     have:(isNum a&&(isNum b&&(decide (0<=sg d (numAt a).a (numAt a).b)&&decide (0<=sg d (numAt b).a (numAt b).b)))&&(bV d c&&bV d e))=false:=by
      cases na:isNum a with
      |false=>rfl
      |true=>cases nb:isNum b with
       |false=>rfl
       |true=>cases nc:isNum c with
        |false=>rw[kb nc,Bool.false_and,Bool.and_false]
        |true=>cases ne:isNum e with
         |false=>rw[kb ne,Bool.and_false,Bool.and_false]
         |true=>exact absurd ⟨na,nb,nc,ne⟩ nn
     rw[this] at q
     exact q
    rw[bJ ?_]
    ·walk_at "rb"
     exact q'
    ·cases na:isNum a with
     |false=>simp[na]
     |true=>cases nb:isNum b with
      |false=>simp[nb]
      |true=>cases nc:isNum c with
       |false=>simp[nc]
       |true=>cases ne:isNum e with
        |false=>simp[ne]
        |true=>exact absurd ⟨na,nb,nc,ne⟩ nn
  ·rw[bJ (by simp;omega)]
   rw[vK l4] at q
   walk_at "rb"
   exact q
 ·rw[bJ (by rw[mS ht];rfl)]
  rw[vP ht] at q
  walk_at "rb"
  exact q
theorem xH(h:sC ds Z Qd):jq ‹Qd› (aR ["_law_d","_law_row","_law_found","_law_one","_law_low_here","_law_high","_law_middle"] ds) Z:=by
 obtain⟨d,a,fs,rfl,hd,ha0,gf,hl,q⟩:=h
 unfold jq
 walk_at "rb"
 intro p hp
 rw[QR]
 walk_at "rb"
 have pa:a≠p:=fun e=>by rw[e,hp] at ha0;cases ha0
 refine⟨fs.map dN,by rw[aW pa];exact ha0,fun i ρ U=>∃r3 r4 r5 r6 ms,ρ=[some (.v (.int d)),some (.m a),some (.m p),r3,r4,r5,r6]/\dO Z U/\U p=some (ms.map dN)/\cR d ms/\(∀x,x∈ms↔x∈fs.take i)/\ms.length<=i,⟨_,_,_,_,[],rfl,dO.refl.set hp,aF,List.Pairwise.nil,by simp,Nat.le_refl _⟩,?_,?_,?_⟩
 ·rintro i ρ U ⟨_,_,_,_,_,_,sb,_⟩
  exact sb.l a _ ha0
 ·rintro i x ρ U hx ⟨r3,r4,r5,r6,ms,rfl,sb,hm,hr,hms,lm⟩
  have hil:i<fs.length:=by
   rcases lt_or_ge i fs.length with z|z
   ·exact z
   ·rw[getElem?_eq_none (by rw[length_map];exact z)] at hx;cases hx
  obtain⟨f,ef,rfl⟩:∃f,fs[i]? = some f/\x=dN f:=by
   rw[getElem?_map,getElem?_eq_getElem hil] at hx
   exact⟨fs[i],getElem?_eq_getElem hil,(Option.some.inj hx).symm⟩
  have gm:∀m∈ms,Ok m/\Bd 4300 m:=fun m h=>gf m (List.mem_of_mem_take ((hms m).mp h))
  obtain⟨of,bf⟩:=gf f (mem_of_getElem? ef)
  have tk:fs.take (i+1)=fs.take i++[f]:=by rw[take_succ,ef];rfl
  walk_at "rb"
  rw[hm]
  walk_at "rb"
  rw[Dj,length_map]
  refine⟨fun n ρ be=>∃(lo hi:Nat) (r6:Option D),ρ=[some (.v (.int d)),some (.m a),some (.m p),some (.v (dN f)),some (.v (.int (lo:Nat))),some (.v (.int (hi:Nat))),r6]/\be=U/\n=hi-lo/\lo<=hi/\hi<=ms.length/\(∀i m,i<lo->ms[i]? = some m->dif d f m=1)/\(∀i m,hi<=i->ms[i]? = some m->¬ dif d f m=1),
   ⟨_,0,ms.length,r6,rfl,rfl,rfl,zero_le _,Nat.le_refl _,fun i m z=>absurd z (not_lt_zero _),fun i m z e=>by rw[getElem?_eq_none z] at e;cases e⟩,?_⟩
  rintro n ρ be ⟨lo,hi,r6',rfl,rfl,rfl,h1,h2,hb,ha⟩
  walk_at "rb"
  by_cases c:lo<hi
  ·rw[if_pos (decide_eq_true ∅)]
   have hmm:(lo+hi) / 2<ms.length:=by omega
   have em:ms[(lo+hi) / 2]? = some ms[(lo+hi) / 2]:=getElem?_eq_getElem hmm
   have efd:(((lo:Nat):Int)+((hi:Nat):Int)).fdiv 2=(((lo+hi) / 2:Nat):Int):=by
    have:((lo:Nat):Int)+((hi:Nat):Int)=((lo+hi:Nat):Int):=by omega
    rw[this]
    exact M8 (lo+hi) 2
   rw[efd,hm]
   dsimp only
   rw[pq em]
   generalize ms[(lo+hi) / 2]=mm at em
   obtain⟨omm,bmm⟩:=gm mm (mem_of_getElem? em)
   refine⟨yR ⋯ (Sz.of (n:=2) ⋯) ⋯,d,mm,f,rfl,hd,omm,of,bmm,bf,?_⟩
   walk_at "rb"
   by_cases cc:dif d f mm=1
   ·rw[bJ (decide_eq_true cc)]
    walk_at "rb"
    refine⟨_,?_,(lo+hi) / 2+1,hi,some (.v (.int (((lo+hi) / 2:Nat):Int))),by simp,trivial,rfl,∅,h2,fun i m z e=>?_,ha⟩
    ·omega
    ·rcases lt_or_eq_of_le (le_of_lt_succ z) with z|z
     ·obtain⟨om,_⟩:=gm m (mem_of_getElem? e)
      exact gr hd of omm om cc (ua hr z e em)
     ·rw[z,em] at e
      cases e
      exact cc
   ·rw[bI (by simpa using cc)]
    walk_at "rb"
    refine⟨_,?_,lo,(lo+hi) / 2,_,rfl,trivial,rfl,∅,∅,hb,fun i m z e g=>cc ?_⟩
    ·omega
    ·rcases lt_or_eq_of_le z with z|z
     ·obtain⟨om,_⟩:=gm m (mem_of_getElem? e)
      exact gr hd of om omm g (ua hr z em e)
     ·rw[<- z,em] at e
      cases e
      exact g
  ·rw[if_neg (by simpa using c)]
   obtain rfl:lo=hi:=by omega
   have fin:(∀m,ms[lo]? = some m->m≠f)->∃r3 r4 r5 r6 ms',[some (D.v (.int d)),some (D.m a),some (D.m p),some (D.v (dN f)),some (D.v (.int (lo:Nat))),some (D.v (.int (lo:Nat))),r6']=[some (.v (.int d)),some (.m a),some (.m p),r3,r4,r5,r6]/\dO Z (aE be p ((ms.map dN).take lo++dN f::(ms.map dN).drop lo))/\aE be p ((ms.map dN).take lo++dN f::(ms.map dN).drop lo) p=some (ms'.map dN)/\cR d ms'/\(∀x,x∈ms'↔x∈fs.take (i+1))/\ms'.length<=i+1:=fun hn=>by
    refine⟨_,_,_,_,ms.take lo++f::ms.drop lo,rfl,sb.set hp,?_,E8 hd (fun m h=>(gm m h).1) of hr h2 hb ha hn,fun x=>?_,by simp;omega⟩
    ·rw[aF,map_append,map_cons,List.map_take,List.map_drop]
    ·rw[Iy,tk,mem_append,mem_singleton,hms]
     exact Or.comm
   have put:(∀m,ms[lo]? = some m->m≠f)->∀K:DK,(∀z,(∃r3 r4 r5 r6 ms',[some (D.v (.int d)),some (D.m a),some (D.m p),some (D.v (dN f)),some (D.v (.int (lo:Nat))),some (D.v (.int (lo:Nat))),r6']=[some (.v (.int d)),some (.m a),some (.m p),r3,r4,r5,r6]/\dO Z z/\z p=some (ms'.map dN)/\cR d ms'/\(∀x,x∈ms'↔x∈fs.take (i+1))/\ms'.length<=i+1)->K (.v .none) z)->Jy (ah 2) (ah 4) (ah 3) [some (D.v (.int d)),some (D.m a),some (D.m p),some (D.v (dN f)),some (D.v (.int (lo:Nat))),some (D.v (.int (lo:Nat))),r6'] be K:=fun hn K kk=>by
    rw[OJ]
    walk_at "rb"
    exact⟨lo,dN f,ms.map dN,rfl,rfl,hm,by rw[length_map];exact h2,by rw[length_map];omega,kk _ (fin hn)⟩
   rw[hm]
   walk_at "rb"
   by_cases cl:lo=ms.length
   ·rw[bJ (decide_eq_true (by rw[length_map];omega))]
    walk_at "rb"
    exact put (fun m e=>by rw[getElem?_eq_none ∅] at e;cases e) _ fun z h=>h
   ·rw[bI (by simp;omega)]
    have rl':lo<ms.length:=by omega
    have er:ms[lo]? = some ms[lo]:=getElem?_eq_getElem rl'
    walk_at "rb"
    rw[hm]
    dsimp only
    rw[pq er]
    walk_at "rb"
    by_cases cf:ms[lo]=f
    ·rw[bI (by simp[cf])]
     walk_at "rb"
     refine⟨_,_,_,_,ms,rfl,sb,hm,hr,fun x=>?_,∅⟩
     rw[tk,mem_append,mem_singleton,hms]
     constructor
     ·exact .inl
     ·rintro (h|rfl)
      ·exact h
      ·rw[<- hms,<- cf];exact getElem_mem _
    ·rw[bJ (by simp[cf])]
     walk_at "rb"
     exact put (fun m e=>by rw[er] at e;cases e;exact cf) _ fun z h=>h
 ·rintro ρ U ⟨r3,r4,r5,r6,ms,rfl,sb,hm,hr,hms,lm⟩
  rw[length_map,take_length] at hms
  walk_at "rb"
  exact q p ms U hp sb hm ⟨hr,hms⟩
end
noncomputable def pairD(e:N3×N3):PyData:=.tuple [dN e.1,dN e.2]
noncomputable def mO(es:List (N3×N3)):List N3:=es.flatMap fun e=>[e.1,e.2]
noncomputable def lE(L:List N3)(e:N3×N3):PyData:=.tuple [.int (L.idxOf e.1:Nat),.int (L.idxOf e.2:Nat)]
noncomputable def qX(L:List N3)(es:List (N3×N3))(m:N3):PyData:=if L.getLast? = some m then .tuple [.list (es.map (lE L)),.int ((L.length-1:Nat):Int)] else .tuple [.none,.int 0]
noncomputable def Ia(d:Int)(es:List (N3×N3))(m:N3):Prop:=aM d/\(∀e∈es,Ok e.1/\Bd 4300 e.1/\Ok e.2/\Bd 4300 e.2)/\Ok m/\Bd 4300 m/\es.length<=100
noncomputable def zJ:DSp:=fun ds Z Q=>∃(d:Int) (es:List (N3×N3)) (m:N3),ds=[.v (.int d),.v (.list (es.map pairD)),.v (dN m)]/\Ia d es m /\
 ∀L U,dO Z U->eN d L (az::m::mO es)->Q (.v (qX L es m)) U
noncomputable def xP:DSp:=fun ds Z Q=>∃(d:Int) (es:List (N3×N3)) (m:N3),ds=[.v (.int d),.v (.list (es.map pairD)),.v (dN m)]/\Ia d es m /\
 ∀L,eN d L (az::m::mO es)->Q (.v (qX L es m)) Z
theorem C4{ds:List D}{Z:Mu}{Q:DK}(h:zJ ds Z Q):ds.length=3:=by obtain⟨_,_,_,rfl,_⟩:=h;rfl
theorem zC{ds:List D}{Z:Mu}{Qd:DK}(h:xP ds Z Qd):zJ ds Z (frz Z Qd):=by
 obtain⟨d,es,m,rfl,pre,q⟩:=h
 exact⟨d,es,m,rfl,pre,fun L U sb mk=>⟨sb,q L mk⟩⟩
noncomputable def lP:DTS:=
 (aN (ba (rp (ag (aY (ag (dC (.int 0)) (ag (dC (.int 0)) (ag (dC (.int 1)) ar)))) (ag (ah 2) ar))) (ao 3))
 (aN (o7 (jh (ah 1)) (cA 2 (aD (ao 4) (aD (ao 5) cN))) (qx (PH (ah 3) (nA (ag (ah 4) (ag (ah 5) ar))))))
 (aN (ba (ay vh (ag (ah 0) (ag (ah 3) ar))) (ao 6))
 (aN (cj (dB (dOp (de true) (dOp aQ (ah 6) (vB (dC (.int 1)))) (ah 2))) (bb (aY (ag (dC .none) (ag (dC (.int 0)) ar)))) bz)
 (aN (ba tK (ao 7))
 (aN (o7 (zA (ag (ah 6) ar)) (cA 2 (aD (ao 8) (aD (ao 9) cN))) (Bc (ah 7) (ah 9) (ah 8)))
 (bb (aY (ag (ka [none,none,some 7] (jh (ah 1)) (cA 2 (aD (ao 0) (aD (ao 1) cN))) jB (aY (ag (D5 (ah 2) (ah 0)) (ag (D5 (ah 2) (ah 1)) ar)))) (ag (mH (dCB da (ag (ah 6) ar)) (dC (.int 1))) ar))))))))))
section
variable {Z:Mu}{Qd:DK}{ds:List D}
theorem GB{es:List (N3×N3)}{e:N3×N3}:mO (es++[e])=mO es++[e.1,e.2]:=by unfold mO;rw[flatMap_append];rfl
theorem wt{es:List (N3×N3)}:(mO es).length=2*es.length:=by
 unfold mO
 induction es with
 |nil=>rfl
 |cons t ts ih=>rw[flatMap_cons,length_append,ih,length_cons];simp only[length_cons,length_nil];omega
theorem uC{α:Type}{f:α->PyData}{es:List α}{i:Nat}{x:PyData}(h:(es.map f)[i]? = some x):∃e,es[i]? = some e/\x=f e:=by
 rw[getElem?_map] at h
 cases k:es[i]? with
 |none=>rw[k] at h;cases h
 |some e=>rw[k] at h;exact⟨e,rfl,(Option.some.inj h).symm⟩
theorem take_snoc{α:Type}{es:List α}{i:Nat}{e:α}(h:es[i]? = some e):es.take (i+1)=es.take i++[e]:=by rw[take_succ,h];rfl
theorem AD(h:zJ ds Z Qd):lP ‹Qd› (aR ["_law_d","_law_ends_here","_law_most","_law_row","_law_low_here","_law_high","_law_places","_law_book","_law_place","_law_one"] ds) Z:=by
 obtain⟨d,es,m,rfl,⟨hd,ge,om,bm,le⟩,q⟩:=h
 unfold lP
 walk_at "rb"
 intro r hr
 rw[jw]
 walk_at "rb"
 refine⟨fun i ρ U=>∃r4 r5,ρ=[some (.v (.int d)),some (.v (.list (es.map pairD))),some (.v (dN m)),some (.m r),r4,r5,none,none,none,none]/\dO Z U/\U r=some ((az::m::mO (es.take i)).map dN),⟨_,_,rfl,dO.refl.set hr,by rw[aF];rfl⟩,?_,?_⟩
 ·rintro i x ρ U hx ⟨r4,r5,rfl,sb,hm⟩
  obtain⟨e,ee,rfl⟩:=uC hx
  have ei:i<es.length:=(List.getElem?_eq_some_iff.mp ee).1
  rw[show pairD e = .tuple [dN e.1,dN e.2] from rfl]
  walk_at "rb"
  refine⟨trivial,?_⟩
  rw[hm]
  dsimp only
  refine⟨by rw[length_map,length_cons,length_cons,wt,length_take];simp only[length_cons,length_nil];omega,_,_,rfl,sb.set hr,?_⟩
  rw[aF,take_snoc ee,GB]
  simp only[map_cons,map_append,map_nil,cons_append]
 ·rintro ρ U ⟨r4,r5,rfl,sb,hm⟩
  rw[length_map,take_length] at hm
  walk_at "rb"
  refine⟨d,r,az::m::mO es,rfl,hd,hm,?_,by rw[length_cons,length_cons,wt];omega,fun L mk=>?_⟩
  ·intro x hx
   rcases List.mem_cons.mp hx with rfl|hx
   ·exact⟨qJ,(show Bd 4 az from ⟨Sz.of ⋯,Sz.of ⋯,Sz.of ⋯⟩).mono ⋯⟩
   ·rcases List.mem_cons.mp hx with rfl|hx
    ·exact⟨om,bm⟩
    ·obtain⟨e,he,h⟩:=List.mem_flatMap.mp hx
     obtain⟨g1,g2,g3,g4⟩:=ge e he
     simp only[mem_cons,not_mem_nil,or_false] at h
     rcases h with rfl|rfl
     ·exact⟨g1,g2⟩
     ·exact⟨g3,g4⟩
  have nL:L.Nodup:=fI hd mk.up
  have neL:L≠[]:=fun z=>by
   have:=(mk.mem m).mpr (mem_cons_of_mem _ mem_cons_self)
   rw[z] at this
   exact absurd this not_mem_nil
  have lL:L.length<=202:=by
   have:=GR.pig nL fun x hx=>(mk.mem x).mp hx
   rw[length_cons,length_cons,wt] at this
   omega
  have inL:∀e∈es,e.1∈L/\e.2∈L:=fun e he=>⟨(mk.mem _).mpr (mem_cons_of_mem _ (mem_cons_of_mem _ (List.mem_flatMap.mpr ⟨e,he,mem_cons_self⟩))),(mk.mem _).mpr (mem_cons_of_mem _ (mem_cons_of_mem _ (List.mem_flatMap.mpr ⟨e,he,mem_cons_of_mem _ mem_cons_self⟩)))⟩
  have l0:0<L.length:=List.length_pos_iff.mpr neL
  obtain⟨l,hl⟩:∃l,L.getLast? = some l:=⟨L.getLast neL,List.getLast?_eq_getLast neL⟩
  walk_at "rb"
  rw[pE hl]
  walk_at "rb"
  by_cases c:l=m
  ·rw[bI (by simp[c])]
   walk_at "rb"
   intro pb hpb
   have hpb':Z.b pb=none:=by
    cases z:Z.b pb with
    |none=>rfl
    |some x=>have:=sb.b pb x z;rw[hpb] at this;cases this
   rw[jw]
   walk_at "rb"
   refine⟨fun i ρ be=>∃r8 r9,ρ=[some (.v (.int d)),some (.v (.list (es.map pairD))),some (.v (dN m)),some (.m r),r4,r5,some (.v (.list (L.map dN))),some (.b pb),r8,r9]/\dO Z be/\be.b pb=some (.dict (book (L.take i))),⟨_,_,rfl,sb.box hpb',by rw[bc];rfl⟩,?_,?_⟩
   ·rintro i x ρ be hx ⟨r8,r9,rfl,sb2,hb2⟩
    have hi:i<L.length:=by
     have:=(List.getElem?_eq_some_iff.mp hx).1
     rw[tG,length_map] at this
     exact this
    have ex:(ki 0 (L.map dN))[i]? = some (.tuple [.int ((0+i:Nat):Int),dN L[i]]):=vV (by rw[getElem?_map,getElem?_eq_getElem hi];rfl)
    rw[hx] at ex
    obtain rfl:=Option.some.inj ex
    rw[Nat.zero_add]
    have eL:L.take (i+1)=L.take i++[L[i]]:=take_snoc (getElem?_eq_getElem hi)
    walk_at "rb"
    refine⟨trivial,pb,_,_,_,rfl,rfl,rfl,hb2,?_,_,_,rfl,sb2.box hpb',?_⟩
    ·have:=K7 (P:=L.take i)
     rw[length_take] at this
     omega
    ·rw[bc,eL,BH,length_take,Nat.min_eq_left ∅]
     rfl
   ·rintro ρ be ⟨r8,r9,rfl,sb2,hb2⟩
    rw[tG,length_map,take_length] at hb2
    walk_at "rb"
    rw[nS]
    walk_at "rb"
    refine⟨by rw[length_map];omega,fun p hp=>⟨fun i acc U=>acc=(es.take i).map (lE L)/\U=aE be p acc,⟨rfl,rfl⟩,?_,?_⟩⟩
    ·rintro i x acc bi hx ha ⟨e0,e1⟩
     obtain⟨e,ee,rfl⟩:=uC hx
     obtain⟨i1,i2⟩:=inL e (mem_of_getElem? ee)
     rw[show pairD e = .tuple [dN e.1,dN e.2] from rfl]
     walk_at "rb"
     refine⟨trivial,⟨trivial,trivial⟩,?_⟩
     rw[if_pos trivial]
     have hb3:bi.b pb=some (.dict (book L)):=by rw[e1];exact hb2
     refine⟨pb,_,_,_,rfl,rfl,hb3,jV L nL i1,pb,_,_,_,rfl,rfl,hb3,jV L nL i2,?_⟩
     refine⟨ha,?_,?_⟩
     ·rw[e0,take_snoc ee,map_append];rfl
     ·rw[e1,iy]
    ·rintro acc bi ⟨e0,e1⟩ ha
     rw[length_map,take_length] at e0
     subst e0
     rw[e1,qR hp]
     have:=q L be sb2 mk
     unfold qX at this
     rw[if_pos (by rw[hl,c])] at this
     rw[length_map,show ((L.length:Nat):Int)-1=((L.length-1:Nat):Int) by omega]
     exact this
  ·rw[bJ (by simp[c])]
   walk_at "rb"
   have:=q L U sb mk
   unfold qX at this
   rw[if_neg (by rw[hl];exact fun z=>c (Option.some.inj z))] at this
   exact this
end
noncomputable def Iv(d:Int)(w h:N3)(ts:List Tl):Prop:=aM d/\Ok w/\Bd 2100 w/\Ok h/\Bd 2100 h/\(∀t∈ts,rE d t)/\(∀t∈ts,Bd4 2100 t)/\Im 8000 ts/\ts.length<=60
noncomputable def GS(d:Int)(w h:N3)(ts:List Tl)(b:Bool):Prop:=∃P Q,eN d P (az::w::gn ts)/\eN d Q (az::h::fZ ts)/\b=(decide (P.getLast? = some w)&&(decide (Q.getLast? = some h)&&GR.o6 (ts.map (cq P Q)) (P.length-1) (Q.length-1)))
noncomputable def rH:DSp:=fun ds Z K=>∃(d:Int) (w h:N3) (ts:List Tl),ds=[.v (.int d),.v (dN w),.v (dN h),.v (.tuple (ts.map tlD))]/\Iv d w h ts/\∀b U,dO Z U->GS d w h ts b->K (.v (.bool b)) U
noncomputable def vt:DSp:=fun ds Z K=>∃(d:Int) (w h:N3) (ts:List Tl),ds=[.v (.int d),.v (dN w),.v (dN h),.v (.tuple (ts.map tlD))]/\Iv d w h ts/\∀b,GS d w h ts b->K (.v (.bool b)) Z
theorem yY{ds:List D}{Z:Mu}{Q:DK}(h:rH ds Z Q):ds.length=4:=by obtain⟨_,_,_,_,rfl,_⟩:=h;rfl
theorem xr{ds:List D}{Z:Mu}{Qd:DK}(h:vt ds Z Qd):rH ds Z (frz Z Qd):=by
 obtain⟨d,w,h,ts,rfl,pre,q⟩:=h
 exact⟨d,w,h,ts,rfl,pre,fun b U sb mk=>⟨sb,q b mk⟩⟩
noncomputable def kf:DTS:=
 (aN (ba (ay xP (ag (ah 0) (ag (sY [none,none,none,none] (kM (ah 3)) (cA 4 (aD (ao 0) (aD (ao 1) (aD (ao 2) (aD (ao 3) cN))))) jB (aY (ag (ah 0) (ag (ay ix (ag (ah 0) (ag (ah 2) ar))) ar)))) (ag (ah 1) ar)))) (cA 2 (aD (ao 4) (aD (ao 5) cN))))
 (aN (ba (ay xP (ag (ah 0) (ag (sY [none,none,none,none] (kM (ah 3)) (cA 4 (aD (ao 0) (aD (ao 1) (aD (ao 2) (aD (ao 3) cN))))) jB (aY (ag (ah 1) (ag (ay ix (ag (ah 1) (ag (ah 3) ar))) ar)))) (ag (ah 2) ar)))) (cA 2 (aD (ao 6) (aD (ao 7) cN))))
 (aN (cj (ip (dB (dOp Bn (ah 4) (dC .none))) (dB (dOp Bn (ah 6) (dC .none)))) (bb (dC (.bool false))) bz)
 (aN (ba tK (ao 8))
 (aN (o7 (KG (ag (ah 4) (ag (ah 6) ar))) (cA 2 (aD (ao 9) (aD (ao 10) cN))) (o7 (sE (ag (dOp aQ (ah 9) (dC (.int 0))) (ag (dOp aQ (ah 9) (dC (.int 1))) ar))) (ao 11) (o7 (sE (ag (dOp aQ (ah 10) (dC (.int 0))) (ag (dOp aQ (ah 10) (dC (.int 1))) ar))) (ao 12) (aN (cj (dB (dOp (D0 false) (aY (ag (ah 11) (ag (ah 12) ar))) (ah 8))) (bb (dC (.bool false))) bz)
 (Bc (ah 8) (aY (ag (ah 11) (ag (ah 12) ar))) (dC (.bool true)))))))
 (bb (dOp (de false) (dCB IS (ag (ah 8) ar)) (eI (ah 5) (ah 7)))))))))
section
variable {Z:Mu}{Qd:DK}{ds:List D}
theorem fmX(ts:List Tl)(f:PyData->Option PyData)(h:∀t,f (tlD t)=some (pairD (t.x,plus t.x t.w))):(ts.map tlD).filterMap f=(ts.map fun t=>(t.x,plus t.x t.w)).map pairD:=by rw[map_map];exact MU h ts
theorem fmY(ts:List Tl)(f:PyData->Option PyData)(h:∀t,f (tlD t)=some (pairD (t.y,plus t.y t.h))):(ts.map tlD).filterMap f=(ts.map fun t=>(t.y,plus t.y t.h)).map pairD:=by rw[map_map];exact MU h ts
noncomputable def fSX:PyData->Option PyData
 |.tuple [.tuple [.int a1,.int a2,.int a3],_,.tuple [.int c1,.int c2,.int c3],_]=>some (pairD (⟨a1,a2,a3⟩,plus ⟨a1,a2,a3⟩ ⟨c1,c2,c3⟩))
 |_=>none
noncomputable def fSY:PyData->Option PyData
 |.tuple [_,.tuple [.int a1,.int a2,.int a3],_,.tuple [.int c1,.int c2,.int c3]]=>some (pairD (⟨a1,a2,a3⟩,plus ⟨a1,a2,a3⟩ ⟨c1,c2,c3⟩))
 |_=>none
theorem Py(ts:List Tl):mO (ts.map fun t=>(t.x,plus t.x t.w))=gn ts:=by unfold mO gn;rw[List.flatMap_map]
theorem Rb(ts:List Tl):mO (ts.map fun t=>(t.y,plus t.y t.h))=fZ ts:=by unfold mO fZ;rw[List.flatMap_map]
noncomputable def cT(x:Nat×Nat):List Int×PyData:=(fh x,.bool true)
theorem fW{x:Nat×Nat}:∀(l:List (Nat×Nat)),(ck (l.map cT) (fh x)).isSome=decide (x∈l)
 |[]=>rfl
 |y::l=>by
  rw[map_cons]
  by_cases e:y=x
  ·subst e
   rw[dU (show (cT y).1=fh y from rfl)]
   simp
  ·rw[dZ (show ¬ (cT y).1=fh x from fun z=>e (EE z)),fW l]
   refine decide_eq_decide.mpr ?_
   rw[mem_cons]
   exact⟨.inr,fun h=>h.resolve_left fun z=>e z.symm⟩
noncomputable def Ii(L:List N3)(es:List (N3×N3))(m:N3):PyData:=if L.getLast? = some m then .list (es.map (lE L)) else .none
noncomputable def Nd(L:List N3)(m:N3):Int:=if L.getLast? = some m then ((L.length-1:Nat):Int) else 0
theorem EY{L:List N3}{es:List (N3×N3)}{m:N3}(h:L.getLast? = some m):Ii L es m = .list (es.map (lE L)):=if_pos h
theorem DY{L:List N3}{es:List (N3×N3)}{m:N3}(h:¬ L.getLast? = some m):Ii L es m = .none:=if_neg h
theorem D8{L:List N3}{m:N3}(h:L.getLast? = some m):Nd L m=((L.length-1:Nat):Int):=if_pos h
theorem EX{L:List N3}{m:N3}(h:¬ L.getLast? = some m):Nd L m=0:=if_neg h
theorem Fg{L:List N3}{es:List (N3×N3)}{m:N3}:qX L es m = .tuple [Ii L es m,.int (Nd L m)]:=by unfold qX Ii Nd;split<;>rfl
structure Jz(Z:Mu)(p:Addr)(done:List (Nat×Nat))(U:Mu):Prop where
 sub:dO Z U
 n:Z.b p=none
 s:U.b p=some (.dict (done.map cT))
 nodup:done.Nodup
theorem Jz.put{Z U:Mu}{p:Addr}{done:List (Nat×Nat)}{x:Nat×Nat}(h:Jz Z p done U)(hx:x ∉ done):Jz Z p (done++[x]) (bo U p (.dict (jf (done.map cT) (fh x) (.bool true)))) where
 sub:=h.sub.box h.n
 n:=h.n
 s:=by
  rw[bc,FA,map_append]
  ·rfl
  ·have:=fW (x:=x) done
   rw[decide_eq_false hx] at this
   cases z:ck (done.map cT) (fh x) with
   |none=>rfl
   |some v=>rw[z] at this;cases this
 nodup:=List.nodup_append.mpr ⟨h.nodup,by simp,fun a ha b hb e=>hx (by rw[List.mem_singleton.mp hb] at e;exact e▸ha)⟩
theorem PU{P Q:List N3}{ts:List Tl}{i:Nat}{x:PyData}(h:(tI ((ts.map fun t=>(t.x,plus t.x t.w)).map (lE P)) ((ts.map fun t=>(t.y,plus t.y t.h)).map (lE Q)))[i]? = some x) :
  ∃t,ts[i]? = some t/\x = .tuple [.tuple [.int (P.idxOf t.x:Nat),.int (P.idxOf (plus t.x t.w):Nat)],.tuple [.int (Q.idxOf t.y:Nat),.int (Q.idxOf (plus t.y t.h):Nat)]]:=by
 induction ts generalizing i with
 |nil=>cases h
 |cons t ts ih=>
  cases i with
  |zero=>exact⟨t,rfl,(Option.some.inj h).symm⟩
  |succ i=>exact ih h
theorem Oz{P Q:List N3}{ts:List Tl}:(tI ((ts.map fun t=>(t.x,plus t.x t.w)).map (lE P)) ((ts.map fun t=>(t.y,plus t.y t.h)).map (lE Q))).length=ts.length:=by
 induction ts with
 |nil=>rfl
 |cons t ts ih=>exact congrArg (· + 1) ih
theorem yx(h:rH ds Z Qd):kf ‹Qd› (aR ["_law_d","_law_width","_law_height","_law_tiles","_law_wide","_law_columns","_law_high","_law_rows","_law_met","_law_span","_law_side_here","_law_column","_law_row"] ds) Z:=by
 obtain⟨d,w,k,ts,rfl,⟨hd,ow,bw,ok,bk,tv,bd,mi,lt⟩,q⟩:=h
 unfold kf
 walk_at "rb"
 rw[rJ]
 walk_at "rb"
 refine⟨by rw[length_map];omega,fSX,?_,?_⟩
 ·intro x hx U _
  obtain⟨t,ht,rfl⟩:=List.mem_map.mp hx
  have V:=tv t ht
  have B:=bd t ht
  rw[show tlD t = .tuple [dN t.x,dN t.y,dN t.w,dN t.h] from rfl]
  walk_at "rb"
  refine⟨trivial,trivial,?_⟩
  rw[if_pos trivial]
  refine⟨t.x,t.w,rfl,V.ox,V.ow,B.x.mono ⋯,B.w.mono ⋯,?_⟩
  walk_at "rb"
  exact⟨trivial,rfl⟩
 rw[fmX ts fSX fun t=>rfl]
 refine⟨d,_,w,rfl,⟨hd,?_,ow,bw.mono ⋯,by rw[length_map];omega⟩,fun P mp=>?_⟩
 ·intro e he
  obtain⟨t,ht,rfl⟩:=List.mem_map.mp he
  have V:=tv t ht
  have B:=bd t ht
  exact⟨V.ox,B.x.mono ⋯,dn V.ox V.ow,(qP V.ox V.ow B.x B.w).mono ⋯⟩
 rw[Py] at mp
 rw[Fg]
 walk_at "rb"
 refine⟨trivial,?_⟩
 rw[rJ]
 walk_at "rb"
 refine⟨by rw[length_map];omega,fSY,?_,?_⟩
 ·intro x hx U _
  obtain⟨t,ht,rfl⟩:=List.mem_map.mp hx
  have V:=tv t ht
  have B:=bd t ht
  rw[show tlD t = .tuple [dN t.x,dN t.y,dN t.w,dN t.h] from rfl]
  walk_at "rb"
  refine⟨trivial,trivial,?_⟩
  rw[if_pos trivial]
  refine⟨t.y,t.h,rfl,V.oy,V.oh,B.y.mono ⋯,B.h.mono ⋯,?_⟩
  walk_at "rb"
  exact⟨trivial,rfl⟩
 rw[fmY ts fSY fun t=>rfl]
 refine⟨d,_,k,rfl,⟨hd,?_,ok,bk.mono ⋯,by rw[length_map];omega⟩,fun Q mq=>?_⟩
 ·intro e he
  obtain⟨t,ht,rfl⟩:=List.mem_map.mp he
  have V:=tv t ht
  have B:=bd t ht
  exact⟨V.oy,B.y.mono ⋯,dn V.oy V.oh,(qP V.oy V.oh B.y B.h).mono ⋯⟩
 rw[Rb] at mq
 rw[Fg]
 walk_at "rb"
 refine⟨trivial,?_⟩
 by_cases c1:P.getLast? = some w
 ·rw[EY c1,D8 c1]
  rw[Mt]
  walk_at "rb"
  by_cases c2:Q.getLast? = some k
  ·rw[EY c2,D8 c2]
   rw[Mt]
   walk_at "rb"
   intro p hp
   have onM:∀t∈ts,OnM P Q t:=fun t ht=>⟨(mp.mem _).mpr (mem_cons_of_mem _ (mem_cons_of_mem _ (List.mem_flatMap.mpr ⟨t,ht,mem_cons_self⟩))),(mp.mem _).mpr (mem_cons_of_mem _ (mem_cons_of_mem _ (List.mem_flatMap.mpr ⟨t,ht,mem_cons_of_mem _ mem_cons_self⟩))),(mq.mem _).mpr (mem_cons_of_mem _ (mem_cons_of_mem _ (List.mem_flatMap.mpr ⟨t,ht,mem_cons_self⟩))),(mq.mem _).mpr (mem_cons_of_mem _ (mem_cons_of_mem _ (List.mem_flatMap.mpr ⟨t,ht,mem_cons_of_mem _ mem_cons_self⟩)))⟩
   obtain⟨X,Y,onX,lX,lY,fm⟩:=mi
   obtain⟨oX,oY⟩:=Fv onX
   have fP:P.length<=X.length+2:=qD hd mp (X:=az::w::X) fun x hx=>by
    rcases List.mem_cons.mp hx with rfl|hx
    ·exact mem_cons_self
    ·rcases List.mem_cons.mp hx with rfl|hx
     ·exact mem_cons_of_mem _ mem_cons_self
     ·exact mem_cons_of_mem _ (mem_cons_of_mem _ (oX x hx))
   have fQ:Q.length<=Y.length+2:=qD hd mq (X:=az::k::Y) fun x hx=>by
    rcases List.mem_cons.mp hx with rfl|hx
    ·exact mem_cons_self
    ·rcases List.mem_cons.mp hx with rfl|hx
     ·exact mem_cons_of_mem _ mem_cons_self
     ·exact mem_cons_of_mem _ (mem_cons_of_mem _ (oY x hx))
   have few:(P.length-1)*(Q.length-1)<=9000:=by
    refine le_trans (mul_le_mul (show P.length-1<=X.length+1 by omega) (show Q.length-1<=Y.length+1 by omega)) ?_
    rw[Nat.add_mul,Nat.mul_add]
    omega
   clear fP fQ fm lX lY onX oX oY
   have fits:=Dk onM
   have lp:P.length<=1000000:=by
    have:=GR.pig (fI hd mp.up) fun x hx=>(mp.mem x).mp hx
    rw[length_cons,length_cons,qV] at this
    omega
   have lq:Q.length<=1000000:=by
    have:=GR.pig (fI hd mq.up) fun x hx=>(mq.mem x).mp hx
    rw[length_cons,length_cons,qG] at this
    omega
   rw[jw]
   walk_at "rb"
   refine⟨fun i ρ U=>∃r9 r10 r11 r12,ρ=[some (.v (.int d)),some (.v (dN w)),some (.v (dN k)),some (.v (.tuple (ts.map tlD))),some (.v (.list ((ts.map fun t=>(t.x,plus t.x t.w)).map (lE P)))),some (.v (.int ((P.length-1:Nat):Int))),some (.v (.list ((ts.map fun t=>(t.y,plus t.y t.h)).map (lE Q)))),some (.v (.int ((Q.length-1:Nat):Int))),some (.b p),r9,r10,r11,r12]/\Jz Z p (GR.cells ((ts.map (cq P Q)).take i)) U,⟨_,_,_,_,rfl,⟨dO.refl.box hp,hp,by rw[bc];rfl,List.nodup_nil⟩⟩,?_,?_⟩
   ·rintro i x ρ U hx ⟨r9,r10,r11,r12,rfl,st⟩
    obtain⟨t,et,rfl⟩:∃t,ts[i]? = some t/\x = .tuple [.tuple [.int (P.idxOf t.x:Nat),.int (P.idxOf (plus t.x t.w):Nat)],.tuple [.int (Q.idxOf t.y:Nat),.int (Q.idxOf (plus t.y t.h):Nat)]]:=PU hx
    have o:=onM t (mem_of_getElem? et)
    have eb:(ts.map (cq P Q))[i]? = some (cq P Q t):=by rw[getElem?_map,et];rfl
    have ea:GR.cells ((ts.map (cq P Q)).take (i+1))=GR.cells ((ts.map (cq P Q)).take i)++GR.cellsOf (cq P Q t):=qH eb
    have pa:GR.cells ((ts.map (cq P Q)).take (i+1)) <+: GR.cells (ts.map (cq P Q)):=uq
    walk_at "rb"
    refine⟨trivial,?_⟩
    rw[jw]
    walk_at "rb"
    have e1:=GR.cO o.l
    have e2:=GR.cO o.r
    have e3:=GR.cO o.b
    have e4:=GR.cO o.t
    refine⟨∅,fun c ρ U=>∃r11 r12,ρ=[some (.v (.int d)),some (.v (dN w)),some (.v (dN k)),some (.v (.tuple (ts.map tlD))),some (.v (.list ((ts.map fun t=>(t.x,plus t.x t.w)).map (lE P)))),some (.v (.int ((P.length-1:Nat):Int))),some (.v (.list ((ts.map fun t=>(t.y,plus t.y t.h)).map (lE Q)))),some (.v (.int ((Q.length-1:Nat):Int))),some (.b p),some (.v (.tuple [.int (P.idxOf t.x:Nat),.int (P.idxOf (plus t.x t.w):Nat)])),some (.v (.tuple [.int (Q.idxOf t.y:Nat),.int (Q.idxOf (plus t.y t.h):Nat)])),r11,r12]/\Jz Z p (GR.cells ((ts.map (cq P Q)).take i)++((GR.run (P.idxOf t.x) (P.idxOf (plus t.x t.w))).take c).flatMap (fun a=>(GR.run (Q.idxOf t.y) (Q.idxOf (plus t.y t.h))).map fun b=>(a,b))) U,⟨_,_,rfl,by rw[take_zero,List.flatMap_nil,append_nil];exact st⟩,?_,?_⟩
    ·rintro c x ρ be hx2 ⟨s10,s11,rfl,st2⟩
     obtain⟨rfl,hc⟩:=tX hx2
     have ec:(GR.run (P.idxOf t.x) (P.idxOf (plus t.x t.w)))[c]? = some (P.idxOf t.x+c):=B0 ∅
     have eb2:GR.cells ((ts.map (cq P Q)).take i)++((GR.run (P.idxOf t.x) (P.idxOf (plus t.x t.w))).take (c+1)).flatMap (fun a=>(GR.run (Q.idxOf t.y) (Q.idxOf (plus t.y t.h))).map fun b=>(a,b))=(GR.cells ((ts.map (cq P Q)).take i)++((GR.run (P.idxOf t.x) (P.idxOf (plus t.x t.w))).take c).flatMap (fun a=>(GR.run (Q.idxOf t.y) (Q.idxOf (plus t.y t.h))).map fun b=>(a,b)))++(GR.run (Q.idxOf t.y) (Q.idxOf (plus t.y t.h))).map fun b=>(P.idxOf t.x+c,b):=by
      rw[qH ec,append_assoc]
     have pb:GR.cells ((ts.map (cq P Q)).take i)++((GR.run (P.idxOf t.x) (P.idxOf (plus t.x t.w))).take (c+1)).flatMap (fun a=>(GR.run (Q.idxOf t.y) (Q.idxOf (plus t.y t.h))).map fun b=>(a,b)) <+: GR.cells ((ts.map (cq P Q)).take (i+1)):=by
      rw[ea]
      exact (List.prefix_append_right_inj _).mpr uq
     generalize GR.cells ((ts.map (cq P Q)).take i)++((GR.run (P.idxOf t.x) (P.idxOf (plus t.x t.w))).take c).flatMap (fun a=>(GR.run (Q.idxOf t.y) (Q.idxOf (plus t.y t.h))).map fun b=>(a,b))=pre at st2 eb2
     walk_at "rb"
     rw[jw]
     walk_at "rb"
     refine⟨∅,fun j ρ U=>∃r12,ρ=[some (.v (.int d)),some (.v (dN w)),some (.v (dN k)),some (.v (.tuple (ts.map tlD))),some (.v (.list ((ts.map fun t=>(t.x,plus t.x t.w)).map (lE P)))),some (.v (.int ((P.length-1:Nat):Int))),some (.v (.list ((ts.map fun t=>(t.y,plus t.y t.h)).map (lE Q)))),some (.v (.int ((Q.length-1:Nat):Int))),some (.b p),some (.v (.tuple [.int (P.idxOf t.x:Nat),.int (P.idxOf (plus t.x t.w):Nat)])),some (.v (.tuple [.int (Q.idxOf t.y:Nat),.int (Q.idxOf (plus t.y t.h):Nat)])),some (.v (.int ((P.idxOf t.x:Nat)+(c:Nat)))),r12]/\Jz Z p (pre++((GR.run (Q.idxOf t.y) (Q.idxOf (plus t.y t.h))).take j).map fun b=>(P.idxOf t.x+c,b)) U,⟨_,rfl,by rw[take_zero,map_nil,append_nil];exact st2⟩,?_,?_⟩
     ·rintro j x ρ bi hx3 ⟨s11,rfl,st3⟩
      obtain⟨rfl,hj⟩:=tX hx3
      have ek:(GR.run (Q.idxOf t.y) (Q.idxOf (plus t.y t.h)))[j]? = some (Q.idxOf t.y+j):=B0 ∅
      have es:pre++((GR.run (Q.idxOf t.y) (Q.idxOf (plus t.y t.h))).take (j+1)).map (fun b=>(P.idxOf t.x+c,b))=(pre++((GR.run (Q.idxOf t.y) (Q.idxOf (plus t.y t.h))).take j).map fun b=>(P.idxOf t.x+c,b))++[(P.idxOf t.x+c,Q.idxOf t.y+j)]:=by
       rw[take_succ,ek,map_append,append_assoc]
       rfl
      have pk:pre++((GR.run (Q.idxOf t.y) (Q.idxOf (plus t.y t.h))).take (j+1)).map (fun b=>(P.idxOf t.x+c,b)) <+: GR.cells (ts.map (cq P Q)):=by
       refine List.IsPrefix.trans ?_ (pb.trans pa)
       rw[eb2]
       exact (List.prefix_append_right_inj _).mpr (by rw[List.map_take];exact List.take_prefix _ _)
      have pk0:pre++((GR.run (Q.idxOf t.y) (Q.idxOf (plus t.y t.h))).take j).map (fun b=>(P.idxOf t.x+c,b)) <+: GR.cells (ts.map (cq P Q)):=List.IsPrefix.trans (by rw[es];exact List.prefix_append _ _) pk
      rw[es] at pk
      generalize pre++((GR.run (Q.idxOf t.y) (Q.idxOf (plus t.y t.h))).take j).map (fun b=>(P.idxOf t.x+c,b))=done at st3 es pk pk0
      have le:done.length<=9000:=le_trans (sub_len fits st3.nodup fun x hx=>pk0.subset hx) few
      have kc:o8 (.v (.tuple [.int ((P.idxOf t.x:Nat)+(c:Nat)),.int ((Q.idxOf t.y:Nat)+(j:Nat))]))=some (fh (P.idxOf t.x+c,Q.idxOf t.y+j)):=by
       show some _=some _
       unfold fh
       simp only[Int.natCast_add]
      walk_at "rb"
      refine⟨_,p,_,kc,rfl,st3.s,by show (done.map cT).length<=9800;rw[length_map];omega,fun z=>absurd z ⋯,?_⟩
      walk_at "rb"
      have lc:=fW (x:=(P.idxOf t.x+c,Q.idxOf t.y+j)) done
      by_cases cc:(P.idxOf t.x+c,Q.idxOf t.y+j)∈done
      ·rw[bJ (by show (ck _ _).isSome=true;rw[lc];exact decide_eq_true cc)]
       walk_at "rb"
       refine q false bi st3.sub ⟨P,Q,mp,mq,?_⟩
       rw[decide_eq_true c1,decide_eq_true c2,Bool.true_and,Bool.true_and]
       unfold GR.o6
       rw[decide_eq_false,Bool.false_and]
       intro hn
       have:=List.nodup_append.mp (hn.sublist pk.sublist)
       exact this.2.2 _ cc _ mem_cons_self rfl
      ·rw[bI (by show ¬ (ck _ _).isSome=true;rw[lc,decide_eq_true_iff];exact cc)]
       walk_at "rb"
       refine⟨p,_,_,_,rfl,rfl,kc,st3.s,by rw[length_map];omega,_,rfl,?_⟩
       rw[es]
       exact st3.put cc
     ·rintro ρ bi ⟨s11,rfl,st3⟩
      rw[lZ,show ((Q.idxOf (plus t.y t.h):Nat)-(Q.idxOf t.y:Nat):Int).toNat=Q.idxOf (plus t.y t.h)-Q.idxOf t.y by omega,sW] at st3
      exact⟨_,_,rfl,by rw[eb2];exact st3⟩
    ·rintro ρ bi ⟨s10,s11,rfl,st3⟩
     rw[lZ,show ((P.idxOf (plus t.x t.w):Nat)-(P.idxOf t.x:Nat):Int).toNat=P.idxOf (plus t.x t.w)-P.idxOf t.x by omega,sW] at st3
     exact⟨_,_,_,_,rfl,by rw[ea];exact st3⟩
   ·rintro ρ U ⟨r9,r10,r11,r12,rfl,st⟩
    rw[Oz,List.take_of_length_le (by rw[length_map];exact Nat.le_refl _)] at st
    have le:(GR.cells (ts.map (cq P Q))).length<=9000:=le_trans (sub_len fits st.nodup fun x hx=>hx) few
    walk_at "rb"
    refine⟨p,_,rfl,st.s,by show (List.map cT _).length<=9800;rw[length_map];omega,?_⟩
    walk_at "rb"
    refine⟨oP (Sz.of (n:=20) ∅) (Sz.of (n:=20) ∅) ⋯,?_⟩
    refine q _ U st.sub ⟨P,Q,mp,mq,?_⟩
    rw[decide_eq_true c1,decide_eq_true c2,Bool.true_and,Bool.true_and]
    unfold GR.o6
    rw[decide_eq_true st.nodup,Bool.true_and]
    refine decide_eq_decide.mpr ?_
    show ((List.map cT (GR.cells (ts.map (cq P Q)))).length:Int)=_↔_
    rw[length_map,<- Int.natCast_mul,Int.natCast_inj]
  ·rw[DY c2,EX c2]
   rw[MP]
   walk_at "rb"
   exact q false Z .refl ⟨P,Q,mp,mq,by rw[decide_eq_false c2];simp⟩
 ·rw[DY c1,EX c1]
  rw[MP]
  walk_at "rb"
  exact q false Z .refl ⟨P,Q,mp,mq,by rw[decide_eq_false c1];rfl⟩
end
noncomputable def OQ(d:Int)(t:PyData)(b:Bool):Prop:=(jy d t=false->b=false)/\∀w h ts,t=i9 w h ts->wF d w h ts->GS d w h ts b
noncomputable def nB:DSp:=fun ds Z K=>∃(d:Int) (t:PyData),ds=[.v (.int d),.v t]/\aM d/\Gx t/\∀b,OQ d t b->K (.v (.bool b)) Z
theorem AM{ds:List D}{Z:Mu}{Q:DK}(h:nB ds Z Q):ds.length=2:=by obtain⟨_,_,rfl,_⟩:=h;rfl
noncomputable def gD:DTS:=
 (aN (cj (ip (dS (dB (wx "tuple" (ah 1)))) (dB (dOp (de true) (dCB da (ag (ah 1) ar)) (dC (.int 3))))) (bb (dC (.bool false))) bz)
 (aN (ba (ah 1) (cA 3 (aD (ao 2) (aD (ao 3) (aD (ao 4) cN)))))
 (aN (cj (ip (dS (dB (ay dE (ag (ah 0) (ag (ah 2) ar))))) (dS (dB (ay dE (ag (ah 0) (ag (ah 3) ar)))))) (bb (dC (.bool false))) bz)
 (aN (cj (ip (dS (dB (wx "tuple" (ah 4)))) (dS (dB (HA rLe rLe (dC (.int 1)) (dCB da (ag (ah 4) ar)) (dC (.int 60)))))) (bb (dC (.bool false))) bz)
 (bb (kE (dCB uN (ag (sY [none,some 0] (kM (ah 4)) (ao 0) jB (ay sF (ag (ah 1) (ag (ah 0) ar)))) ar)) (ay vt (ag (ah 0) (ag (ah 2) (ag (ah 3) (ag (ah 4) ar)))))))))))
section
variable {Z:Mu}{Qd:DK}{ds:List D}
theorem uu(h:nB ds Z Qd):gD ‹Qd› (aR ["_law_d","_law_thing","_law_width","_law_height","_law_tiles"] ds) Z:=by
 obtain⟨d,t,rfl,hd,⟨fp,lay⟩,q⟩:=h
 have qf:jy d t=false->Qd (.v (.bool false)) Z:=fun fb=>q false ⟨fun _=>rfl,fun w k ts e v=>by rw[e,HY v] at fb;cases fb⟩
 unfold gD
 walk_at "rb"
 by_cases ht:∃xs,t = .tuple xs
 ·obtain⟨xs,rfl⟩:=ht
  rw[bI (by rw[show isT "tuple" (.tuple xs)=true from rfl];decide)]
  walk_at "rb"
  by_cases l3:xs.length=3
  ·obtain⟨a,b,c,rfl⟩:=zG l3
   rw[bI (by simp)]
   obtain⟨pa,pb,pc⟩:=fp a b c rfl
   walk_at "rb"
   refine⟨trivial,d,a,rfl,hd,pa.1,fun x e=>(pa.2 x e).mono ⋯,?_⟩
   walk_at "rb"
   by_cases hc:∃us,c = .tuple us
   ·obtain⟨us,rfl⟩:=hc
    have ef:jy d (.tuple [a,b,.tuple us])=(bV d a&&(bV d b&&(decide (1<=us.length)&&(decide (us.length<=60)&&us.all (jz d))))):=rfl
    obtain⟨lu,tu⟩:=pc us rfl
    cases aa:bV d a with
    |false=>
     rw[bJ (by rfl)]
     walk_at "rb"
     exact qf (by rw[ef,aa];rfl)
    |true=>
     rw[bI ⋯]
     walk_at "rb"
     refine⟨d,b,rfl,hd,pb.1,fun x e=>(pb.2 x e).mono ⋯,?_⟩
     walk_at "rb"
     cases ab:bV d b with
     |false=>
      rw[bJ (by rfl)]
      walk_at "rb"
      exact qf (by rw[ef,aa,ab];rfl)
     |true=>
      rw[bI ⋯]
      walk_at "rb"
      rw[bI (by rw[show isT "tuple" (.tuple us)=true from rfl];decide)]
      walk_at "rb"
      by_cases g1:1<=us.length
      ·rw[bJ (decide_eq_true ∅)]
       walk_at "rb"
       by_cases g2:us.length<=60
       ·rw[bI (by simp;omega)]
        walk_at "rb"
        rw[rJ]
        walk_at "rb"
        refine⟨∅,fun x=>some (.bool (jz d x)),?_,?_⟩
        ·intro x hx U _
         walk_at "rb"
         refine⟨⟨trivial,trivial⟩,?_⟩
         rw[if_pos trivial]
         exact⟨d,x,rfl,hd,tu x hx,rfl,rfl⟩
        rw[mR]
        dsimp only
        cases al:us.all (jz d) with
        |false=>
         rw[bI (by rw[all_map];simpa using al)]
         exact qf (by rw[ef,al];simp)
        |true=>
         rw[bJ (by rw[all_map];simpa using al)]
         have fb:jy d (.tuple [a,b,.tuple us])=true:=by rw[ef,aa,ab,al,decide_eq_true g1,decide_eq_true g2];rfl
         obtain⟨w,k,ts,e,v⟩:=xZ fb
         obtain⟨bw,bk,bd,mi⟩:=lay w k ts e
         have e':=e
         unfold i9 at e'
         simp only[PyData.tuple.injEq,List.cons.injEq,and_true] at e'
         obtain⟨rfl,rfl,rfl⟩:=e'
         walk_at "rb"
         refine⟨d,w,k,ts,rfl,⟨hd,v.ow,bw,v.oh,bk,v.tile,bd,mi,v.few⟩,fun b0 lc=>?_⟩
         walk_at "rb"
         refine q b0 ⟨fun z=>(by rw[fb] at z;cases z),fun w' k' ts' e'' v'=>?_⟩
         obtain⟨rfl,rfl,rfl⟩:=Ex (w:=w) (h:=k) (ts:=ts) e''
         exact lc
       ·rw[bJ (by simp;omega)]
        walk_at "rb"
        exact qf (by rw[ef,decide_eq_false g2];simp)
      ·rw[bI (by simp;omega)]
       walk_at "rb"
       exact qf (by rw[ef,decide_eq_false g1];simp)
   ·have fb:=xN (d:=d) (a:=a) (b:=b) hc
    cases aa:bV d a with
    |false=>
     rw[bJ (by rfl)]
     walk_at "rb"
     exact qf fb
    |true=>
     rw[bI ⋯]
     walk_at "rb"
     refine⟨d,b,rfl,hd,pb.1,fun x e=>(pb.2 x e).mono ⋯,?_⟩
     walk_at "rb"
     cases ab:bV d b with
     |false=>
      rw[bJ (by rfl)]
      walk_at "rb"
      exact qf fb
     |true=>
      rw[bI ⋯]
      walk_at "rb"
      rw[bJ (by rw[mS hc];rfl)]
      walk_at "rb"
      exact qf fb
  ·rw[bJ (by simp;omega)]
   walk_at "rb"
   exact qf (vw l3)
 ·rw[bJ (by rw[mS ht];rfl)]
  walk_at "rb"
  exact qf (wg ht)
end
theorem BF{x y:N3}(ox:Ok x)(oy:Ok y):plus x (less y x)=y:=
 ((dz ox).plus ox (lF oy ox) ((dz oy).less oy ox (dz ox))).eq (dn ox (lF oy ox)) oy (dz oy) (by grind) (by grind)
theorem Hh{x y:N3}(ox:Ok x)(oy:Ok y):less (plus x y) x=y:=
 (((dz ox).plus ox oy (dz oy)).less (dn ox oy) ox (dz ox)).eq (lF (dn ox oy) ox) oy (dz oy) (by grind) (by grind)
theorem EF{d:Int}{x y:N3}(hd:aM d)(ox:Ok x)(oy:Ok y):dif d (plus x y) x=sg d y.a y.b:=by rw[<- Dq hd (dn ox oy) ox,Hh ox oy]
theorem rY{d:Int}{x:N3}:dif d x az=sg d x.a x.b:=by
 unfold dif az
 simp only[Int.mul_one,Int.zero_mul,Int.sub_zero]
theorem sR{d:Int}{x:N3}(hd:aM d):0<=sg d x.a x.b↔¬ dif d az x=1:=by
 rw[dif_neg hd,rY]
 have:=oE d x.a x.b
 omega
theorem wU{d:Int}{x y:N3}(hd:aM d)(ox:Ok x)(oy:Ok y)(hx:0<=sg d x.a x.b)(hy:sg d y.a y.b=1):0<=sg d (plus x y).a (plus x y).b:=by
 rw[sR hd]
 intro h
 have h1:=gr hd qJ (dn ox oy) ox h (by rw[EF hd ox oy];exact hy)
 exact (sR hd).mp hx h1
theorem Nt{d:Int}(hd:aM d){ts:List Tl}(v:∀t∈ts,rE d t):(∀x∈gn ts,Ok x/\0<=sg d x.a x.b)/\∀x∈fZ ts,Ok x/\0<=sg d x.a x.b:=by
 constructor
 ·intro x hx
  obtain⟨t,ht,h⟩:=List.mem_flatMap.mp hx
  have V:=v t ht
  simp only[mem_cons,not_mem_nil,or_false] at h
  rcases h with rfl|rfl
  ·exact⟨V.ox,V.sx⟩
  ·exact⟨dn V.ox V.ow,wU hd V.ox V.ow V.sx V.sw⟩
 ·intro x hx
  obtain⟨t,ht,h⟩:=List.mem_flatMap.mp hx
  have V:=v t ht
  simp only[mem_cons,not_mem_nil,or_false] at h
  rcases h with rfl|rfl
  ·exact⟨V.oy,V.sy⟩
  ·exact⟨dn V.oy V.oh,wU hd V.oy V.oh V.sy V.sh⟩
theorem lM{d:Int}(hd:aM d){P:List N3}(up:cR d P)(nn:∀x∈P,0<=sg d x.a x.b)(h0:az∈P):P.head? = some az:=by
 cases P with
 |nil=>exact absurd h0 not_mem_nil
 |cons x P=>
  rcases List.mem_cons.mp h0 with e|e
  ·rw[<- e];rfl
  ·exact absurd ((List.pairwise_cons.mp up).1 az e) ((sR hd).mp (nn x mem_cons_self))
theorem Nm{P:List N3}{x:N3}(h:P.head? = some x)(hl:0<P.length):P[0]=x:=by
 cases P with
 |nil=>cases h
 |cons y P=>exact Option.some.inj h
theorem Jk{P:List N3}{x:N3}(h:P.getLast? = some x)(hl:P.length-1<P.length):P[P.length-1]=x:=by
 rw[List.getLast?_eq_getElem?,getElem?_eq_getElem hl] at h
 exact Option.some.inj h
theorem oJ{d:Int}(hd:aM d){P L es:List N3}{w:N3}(mp:eN d P es)(ml:eN d L (az::w::es))(ok:∀x∈es,Ok x)(h0:az∈es)(hw:w∈es):P=L:=by
 refine J2 hd mp.up ml.up (fun x hx=>ok x ((mp.mem x).mp hx)) fun x=>?_
 rw[mp.mem,ml.mem]
 constructor
 ·exact fun h=>mem_cons_of_mem _ (mem_cons_of_mem _ h)
 ·intro h
  rcases List.mem_cons.mp h with rfl|h
  ·exact h0
  ·rcases List.mem_cons.mp h with rfl|h
   ·exact hw
   ·exact h
theorem BC{P:List N3}{e:N3}:ff P e=true↔P.head? = some az/\P.getLast? = some e:=by unfold ff;rw[and_eq_true,decide_eq_true_iff,decide_eq_true_iff]
theorem FC{P:List N3}{x:N3}(h:P.head? = some x):x∈P:=List.mem_of_mem_head? h
theorem qo{P:List N3}{x:N3}(h:P.getLast? = some x):x∈P:=List.mem_of_mem_getLast? h
theorem OL{d:Int}(hd:aM d){L es:List N3}{w:N3}(ml:eN d L (az::w::es))(nn:∀x∈es,Ok x/\0<=sg d x.a x.b)(ow:Ok w)(sw:sg d w.a w.b=1)(hl:L.getLast? = some w)
  (h0:∃x∈es,L.idxOf x<=0) (h1:∃x∈es,L.length-2<L.idxOf x):az∈es/\w∈es:=by
 have n0:az∈L:=(ml.mem _).mpr mem_cons_self
 have nnL:∀x∈L,0<=sg d x.a x.b:=fun x hx=>by
  rcases List.mem_cons.mp ((ml.mem x).mp hx) with rfl|h
  ·rw[show sg d az.a az.b=0 from fG.mpr ⟨rfl,rfl⟩];exact le_refl _
  ·rcases List.mem_cons.mp h with rfl|h
   ·omega
   ·exact (nn x h).2
 have hh:=lM hd ml.up nnL n0
 have l0:0<L.length:=List.length_pos_of_mem n0
 constructor
 ·obtain⟨x,hx,h⟩:=h0
  have xl:x∈L:=(ml.mem x).mpr (mem_cons_of_mem _ (mem_cons_of_mem _ hx))
  have e:=GR.uZ xl
  have:L.idxOf x=0:=by omega
  have e2:L[L.idxOf x]'(GR.cO xl)=L[0]:=by congr 1
  rw[e,Nm hh l0] at e2
  exact e2▸hx
 ·obtain⟨x,hx,h⟩:=h1
  have xl:x∈L:=(ml.mem x).mpr (mem_cons_of_mem _ (mem_cons_of_mem _ hx))
  have e:=GR.uZ xl
  have:=GR.cO xl
  have e2:L[L.idxOf x]'(GR.cO xl)=L[L.length-1]:=by congr 1;omega
  rw[e,Jk hl ∅] at e2
  exact e2▸hx
theorem Bh{d:Int}(hd:aM d){L es:List N3}{w:N3}(ml:eN d L (az::w::es))(sw:sg d w.a w.b=1):2<=L.length:=by
 have ne:az≠w:=fun e=>by
  rw[<- e,show sg d az.a az.b=0 from fG.mpr ⟨rfl,rfl⟩] at sw
  cases sw
 have:=GR.pig (l:=[az,w]) (m:=L) (by simp[ne]) fun x hx=>by
  simp only[mem_cons,not_mem_nil,or_false] at hx
  rcases hx with rfl|rfl
  ·exact (ml.mem _).mpr mem_cons_self
  ·exact (ml.mem _).mpr (mem_cons_of_mem _ mem_cons_self)
 exact this
theorem NH{d:Int}(hd:aM d){w k:N3}{ts:List Tl}(v:wF d w k ts){P Q P' Q':List N3}(mp:eN d P (gn ts))(mq:eN d Q (fZ ts))(mp':eN d P' (az::w::gn ts))(mq':eN d Q' (az::k::fZ ts)) :
  (ff P w&&(ff Q k&&GR.o6 (ts.map (cq P Q)) (P.length-1) (Q.length-1)))=(decide (P'.getLast? = some w)&&(decide (Q'.getLast? = some k)&&GR.o6 (ts.map (cq P' Q')) (P'.length-1) (Q'.length-1))):=by
 obtain⟨nX,nY⟩:=Nt hd v.tile
 have okX:∀x∈gn ts,Ok x:=fun x h=>(nX x h).1
 have okY:∀x∈fZ ts,Ok x:=fun x h=>(nY x h).1
 rw[Bool.eq_iff_iff]
 simp only[and_eq_true,decide_eq_true_iff,BC]
 constructor
 ·rintro ⟨⟨a1,a2⟩,⟨b1,b2⟩,c⟩
  have e1:=oJ hd mp mp' okX ((mp.mem _).mp (FC a1)) ((mp.mem _).mp (qo a2))
  have e2:=oJ hd mq mq' okY ((mq.mem _).mp (FC b1)) ((mq.mem _).mp (qo b2))
  subst e1 e2
  exact⟨a2,b2,c⟩
 ·rintro ⟨a2,b2,c⟩
  have on:∀t∈ts,OnM P' Q' t:=fun t ht=>⟨(mp'.mem _).mpr (mem_cons_of_mem _ (mem_cons_of_mem _ (List.mem_flatMap.mpr ⟨t,ht,mem_cons_self⟩))),(mp'.mem _).mpr (mem_cons_of_mem _ (mem_cons_of_mem _ (List.mem_flatMap.mpr ⟨t,ht,mem_cons_of_mem _ mem_cons_self⟩))),(mq'.mem _).mpr (mem_cons_of_mem _ (mem_cons_of_mem _ (List.mem_flatMap.mpr ⟨t,ht,mem_cons_self⟩))),(mq'.mem _).mpr (mem_cons_of_mem _ (mem_cons_of_mem _ (List.mem_flatMap.mpr ⟨t,ht,mem_cons_of_mem _ mem_cons_self⟩)))⟩
  obtain⟨ap,all⟩:=(GR.zK (Dk on)).mp c
  have l1:=Bh hd mp' v.sw
  have l2:=Bh hd mq' v.sh
  obtain⟨q,hq,h⟩:=all 0 0 ∅ ∅
  obtain⟨t,ht,rfl⟩:=List.mem_map.mp hq
  obtain⟨q',hq',h'⟩:=all (P'.length-2) (Q'.length-2) ∅ ∅
  obtain⟨t',ht',rfl⟩:=List.mem_map.mp hq'
  obtain⟨f1,f2⟩:=OL hd mp' nX v.ow v.sw a2 ⟨t.x,List.mem_flatMap.mpr ⟨t,ht,mem_cons_self⟩,h.1⟩ ⟨plus t'.x t'.w,List.mem_flatMap.mpr ⟨t',ht',mem_cons_of_mem _ mem_cons_self⟩,h'.2.1⟩
  obtain⟨g1,g2⟩:=OL hd mq' nY v.oh v.sh b2 ⟨t.y,List.mem_flatMap.mpr ⟨t,ht,mem_cons_self⟩,h.2.2.1⟩ ⟨plus t'.y t'.h,List.mem_flatMap.mpr ⟨t',ht',mem_cons_of_mem _ mem_cons_self⟩,h'.2.2.2⟩
  have e1:=oJ hd mp mp' okX f1 f2
  have e2:=oJ hd mq mq' okY g1 g2
  subst e1 e2
  refine⟨⟨lM hd mp.up (fun x hx=>(nX x ((mp.mem x).mp hx)).2) ((mp.mem _).mpr f1),a2⟩,⟨lM hd mq.up (fun x hx=>(nY x ((mq.mem x).mp hx)).2) ((mq.mem _).mpr g1),b2⟩,c⟩
theorem NQ{d:Int}(hd:aM d){t:PyData}{b b':Bool}(h:Lj d t b)(h':OQ d t b'):b=b':=by
 cases fb:jy d t with
 |false=>rw[h.1 fb,h'.1 fb]
 |true=>
  obtain⟨w,k,ts,e,v⟩:=xZ fb
  obtain⟨P,Q,mp,mq,rfl⟩:=h.2 w k ts e v
  obtain⟨P',Q',mp',mq',rfl⟩:=h'.2 w k ts e v
  exact NH hd v mp mq mp' mq'
noncomputable def kK(xs ys:List N3)(q:GR.Bx):Tl:=⟨xs.getD q.l az,ys.getD q.b az,less (xs.getD q.r az) (xs.getD q.l az),less (ys.getD q.t az) (ys.getD q.b az)⟩
structure iH(d:Int)(xs:List N3)(C:Nat):Prop where
 len:xs.length=C+1
 up:cR d xs
 ok:∀x∈xs,Ok x
 zero:xs[0]? = some az
theorem getD_at{xs:List N3}{i:Nat}(h:i<xs.length):xs.getD i az=xs[i]:=by
 rw[List.getD_eq_getElem?_getD,getElem?_eq_getElem h];rfl
theorem PN{xs:List N3}{i:Nat}(nd:xs.Nodup)(h:i<xs.length):xs.idxOf xs[i]=i:=by
 have hm:xs[i]∈xs:=getElem_mem h
 have e:=GR.uZ hm
 have hl:=GR.cO hm
 rcases Nat.lt_trichotomy (xs.idxOf xs[i]) i with z|z|z
 ·exact absurd e (List.pairwise_iff_getElem.mp nd _ _ hl h z)
 ·exact z
 ·exact absurd e.symm (List.pairwise_iff_getElem.mp nd _ _ h hl z)
theorem idx_map{P:List N3}{f:N3->Nat}{x:N3}(hx:x∈P)(inj:∀a∈P,∀b∈P,f a=f b->a=b):P.idxOf x=(P.map f).idxOf (f x):=by
 induction P with
 |nil=>exact absurd hx not_mem_nil
 |cons y P ih=>
  rw[map_cons,List.idxOf_cons,List.idxOf_cons]
  by_cases e:y=x
  ·subst e;simp
  ·have e2:f y≠f x:=fun z=>e (inj y mem_cons_self x hx z)
   have hx':x∈P:=by
    rcases List.mem_cons.mp hx with z|z
    ·exact absurd z.symm e
    ·exact z
   simp only[beq_iff_eq,e,e2,if_false,cond_false,beq_eq_false_iff_ne.mpr e,beq_eq_false_iff_ne.mpr e2]
   rw[ih hx' fun a ha b hb=>inj a (mem_cons_of_mem _ ha) b (mem_cons_of_mem _ hb)]
theorem QE{d:Int}(hd:aM d){xs:List N3}(up:cR d xs){a b:N3}(ha:a∈xs)(hb:b∈xs)(h:dif d b a=1):xs.idxOf a<xs.idxOf b:=by
 have ea:=GR.uZ ha
 have eb:=GR.uZ hb
 rcases Nat.lt_trichotomy (xs.idxOf a) (xs.idxOf b) with z|z|z
 ·exact z
 ·have:xs[xs.idxOf a]'(GR.cO ha)=xs[xs.idxOf b]'(GR.cO hb):=by congr 1
  rw[ea,eb] at this
  rw[this] at h
  exact absurd h (uO hd)
 ·have:=List.pairwise_iff_getElem.mp up _ _ (GR.cO hb) (GR.cO ha) z
  rw[ea,eb] at this
  rw[dif_neg hd,this] at h
  exact absurd h ⋯
theorem QY{d:Int}(hd:aM d){xs P:List N3}(up:cR d xs)(hp:cR d P)(sub:∀x∈P,x∈xs):GR.Up (P.map xs.idxOf):=by
 unfold GR.Up
 rw[List.pairwise_map]
 exact List.Pairwise.imp_of_mem (fun {a b} ha hb h=>QE hd up (sub a ha) (sub b hb) h) hp
theorem OC{d:Int}(hd:aM d){P:List N3}{w:N3}(up:cR d P)(hw:w∈P)(top:∀x∈P,¬ dif d x w=1):P.getLast? = some w:=by
 have l0:0<P.length:=List.length_pos_of_mem hw
 rw[List.getLast?_eq_getElem?,getElem?_eq_getElem ∅]
 have e:=GR.uZ hw
 have hl:=GR.cO hw
 rcases lt_or_ge (P.idxOf w) (P.length-1) with z|z
 ·have:=List.pairwise_iff_getElem.mp up _ _ hl ∅ z
  rw[e] at this
  exact absurd this (top _ (getElem_mem _))
 ·have:P[P.idxOf w]'hl=P[P.length-1]:=by congr 1;omega
  rw[<- this,e]
theorem iH.at{d:Int}{xs:List N3}{C i:Nat}(f:iH d xs C)(h:i<=C):i<xs.length:=by have:=f.len;omega
theorem iH.cQ{d:Int}{xs:List N3}{C i:Nat}(f:iH d xs C)(h:i<=C):Ok (xs.getD i az):=by rw[getD_at (f.at h)];exact f.ok _ (getElem_mem _)
theorem iH.lt{d:Int}{xs:List N3}{C i j:Nat}(f:iH d xs C)(h:i<j)(hj:j<=C):dif d (xs.getD j az) (xs.getD i az)=1:=by
 rw[getD_at (f.at hj),getD_at (f.at ∅)]
 exact List.pairwise_iff_getElem.mp f.up _ _ _ _ h
theorem iH.nn{d:Int}(hd:aM d){xs:List N3}{C i:Nat}(f:iH d xs C)(h:i<=C):0<=sg d (xs.getD i az).a (xs.getD i az).b:=by
 have z:xs.getD 0 az=az:=by rw[List.getD_eq_getElem?_getD,f.zero];rfl
 cases i with
 |zero=>rw[z,show sg d az.a az.b=0 from fG.mpr ⟨rfl,rfl⟩];exact le_refl _
 |succ i=>
  have:=f.lt (i:=0) (j:=i+1) ∅ h
  rw[z,rY] at this
  omega
theorem iH.pos{d:Int}{xs:List N3}{C:Nat}(f:iH d xs C)(h:0<C):sg d (xs.getD C az).a (xs.getD C az).b=1:=by
 have z:xs.getD 0 az=az:=by rw[List.getD_eq_getElem?_getD,f.zero];rfl
 have:=f.lt (i:=0) (j:=C) h (Nat.le_refl _)
 rw[z,rY] at this
 exact this
theorem BU{d:Int}{xs ys:List N3}{C R:Nat}(fx:iH d xs C){q:GR.Bx}(hl:q.l<q.r)(hr:q.r<=C):plus (kK xs ys q).x (kK xs ys q).w=xs.getD q.r az:=BF (fx.cQ ∅) (fx.cQ hr)
theorem CK{d:Int}{xs ys:List N3}{C R:Nat}(fy:iH d ys R){q:GR.Bx}(hl:q.b<q.t)(hr:q.t<=R):plus (kK xs ys q).y (kK xs ys q).h=ys.getD q.t az:=BF (fy.cQ ∅) (fy.cQ hr)
theorem Qt{d:Int}(hd:aM d){xs ys:List N3}{C R:Nat}(fx:iH d xs C)(fy:iH d ys R){q:GR.Bx}(h:q.l<q.r/\q.r<=C/\q.b<q.t/\q.t<=R):rE d (kK xs ys q) where
 ox:=fx.cQ ∅
 oy:=fy.cQ ∅
 ow:=lF (fx.cQ ∅) (fx.cQ ∅)
 oh:=lF (fy.cQ ∅) (fy.cQ ∅)
 sx:=fx.nn hd ∅
 sy:=fy.nn hd ∅
 sw:=by
  show sg d (less _ _).a (less _ _).b=1
  rw[Dq hd (fx.cQ ∅) (fx.cQ ∅)]
  exact fx.lt h.1 h.2.1
 sh:=by
  show sg d (less _ _).a (less _ _).b=1
  rw[Dq hd (fy.cQ ∅) (fy.cQ ∅)]
  exact fy.lt h.2.2.1 h.2.2.2
theorem IU{d:Int}(hd:aM d){xs P es:List N3}{C:Nat}(f:iH d xs C)(hC:0<C)(mp:eN d P es)(sub:∀x∈es,x∈xs)(h0:az∈es)(h1:xs.getD C az∈es) :
  ff P (xs.getD C az)=true/\GR.Up (P.map xs.idxOf)/\(∀a∈P.map xs.idxOf,a<=C)/\(∀i,i<=C->xs.getD i az∈es->i∈P.map xs.idxOf/\P.idxOf (xs.getD i az)=(P.map xs.idxOf).idxOf i):=by
 have subP:∀x∈P,x∈xs:=fun x hx=>sub x ((mp.mem x).mp hx)
 have nd:=fI hd f.up
 have nnx:∀x∈xs,0<=sg d x.a x.b:=fun x hx=>by
  obtain⟨i,hi,rfl⟩:=List.mem_iff_getElem.mp hx
  have:=f.nn hd (i:=i) (by have:=f.len;omega)
  rw[getD_at hi] at this
  exact this
 have inj:∀a∈P,∀b∈P,xs.idxOf a=xs.idxOf b->a=b:=fun a ha b hb e=>by
  have e1:=GR.uZ (subP a ha)
  have e2:=GR.uZ (subP b hb)
  have:xs[xs.idxOf a]'(GR.cO (subP a ha))=xs[xs.idxOf b]'(GR.cO (subP b hb)):=by congr 1
  rw[e1,e2] at this
  exact this
 refine⟨BC.mpr ⟨lM hd mp.up (fun x hx=>nnx x (subP x hx)) ((mp.mem _).mpr h0),OC hd mp.up ((mp.mem _).mpr h1) fun x hx h=>?_⟩,QY hd f.up mp.up subP,fun a ha=>?_,fun i hi he=>?_⟩
 ·obtain⟨i,hi,rfl⟩:=List.mem_iff_getElem.mp (subP x hx)
  have hi':i<=C:=by have:=f.len;omega
  rcases lt_or_eq_of_le hi' with z|z
  ·have:=f.lt z (Nat.le_refl _)
   rw[getD_at hi] at this
   rw[dif_neg hd,this] at h
   exact absurd h ⋯
  ·subst z
   rw[getD_at hi] at h
   exact uO hd h
 ·obtain⟨x,hx,rfl⟩:=List.mem_map.mp ha
  have:=GR.cO (subP x hx)
  have:=f.len
  omega
 ·have hp:xs.getD i az∈P:=(mp.mem _).mpr he
  have e:xs.idxOf (xs.getD i az)=i:=by rw[getD_at (f.at hi)];exact PN nd (f.at hi)
  refine⟨List.mem_map.mpr ⟨_,hp,e⟩,?_⟩
  rw[idx_map hp inj,e]
theorem Kb{d:Int}(hd:aM d){xs ys:List N3}{C R:Nat}(fx:iH d xs C)(fy:iH d ys R)(hC:0<C)(hR:0<R){qs:List GR.Bx}(cov:GR.jA qs C R){P Q:List N3}(mp:eN d P (gn (qs.map (kK xs ys))))(mq:eN d Q (fZ (qs.map (kK xs ys)))) :
  (ff P (xs.getD C az)&&(ff Q (ys.getD R az)&&GR.o6 ((qs.map (kK xs ys)).map (cq P Q)) (P.length-1) (Q.length-1)))=true:=by
 have inX:∀q∈qs,xs.getD q.l az∈gn (qs.map (kK xs ys))/\xs.getD q.r az∈gn (qs.map (kK xs ys)):=fun q hq=>by
  have h:=cov.fits q hq
  refine⟨List.mem_flatMap.mpr ⟨_,mem_map_of_mem hq,mem_cons_self⟩,List.mem_flatMap.mpr ⟨_,mem_map_of_mem hq,?_⟩⟩
  rw[BU (R:=R) fx h.1 h.2.1]
  exact mem_cons_of_mem _ mem_cons_self
 have inY:∀q∈qs,ys.getD q.b az∈fZ (qs.map (kK xs ys))/\ys.getD q.t az∈fZ (qs.map (kK xs ys)):=fun q hq=>by
  have h:=cov.fits q hq
  refine⟨List.mem_flatMap.mpr ⟨_,mem_map_of_mem hq,mem_cons_self⟩,List.mem_flatMap.mpr ⟨_,mem_map_of_mem hq,?_⟩⟩
  rw[CK (C:=C) fy h.2.2.1 h.2.2.2]
  exact mem_cons_of_mem _ mem_cons_self
 have subX:∀x∈gn (qs.map (kK xs ys)),x∈xs:=fun x hx=>by
  obtain⟨t,ht,h⟩:=List.mem_flatMap.mp hx
  obtain⟨q,hq,rfl⟩:=List.mem_map.mp ht
  have g:=cov.fits q hq
  rw[BU (R:=R) fx g.1 g.2.1] at h
  simp only[mem_cons,not_mem_nil,or_false] at h
  rcases h with rfl|rfl
  ·show xs.getD q.l az∈xs
   rw[getD_at (fx.at ∅)];exact getElem_mem _
  ·rw[getD_at (fx.at ∅)];exact getElem_mem _
 have subY:∀x∈fZ (qs.map (kK xs ys)),x∈ys:=fun x hx=>by
  obtain⟨t,ht,h⟩:=List.mem_flatMap.mp hx
  obtain⟨q,hq,rfl⟩:=List.mem_map.mp ht
  have g:=cov.fits q hq
  rw[CK (C:=C) fy g.2.2.1 g.2.2.2] at h
  simp only[mem_cons,not_mem_nil,or_false] at h
  rcases h with rfl|rfl
  ·show ys.getD q.b az∈ys
   rw[getD_at (fy.at ∅)];exact getElem_mem _
  ·rw[getD_at (fy.at ∅)];exact getElem_mem _
 have zx:xs.getD 0 az=az:=by rw[List.getD_eq_getElem?_getD,fx.zero];rfl
 have zy:ys.getD 0 az=az:=by rw[List.getD_eq_getElem?_getD,fy.zero];rfl
 obtain⟨⟨q1,m1,e1⟩,⟨q2,m2,e2⟩,⟨q3,m3,e3⟩,⟨q4,m4,e4⟩⟩:=cov.ends hC hR
 obtain⟨r1,u1,a1,i1⟩:=IU hd fx hC mp subX (by have:=(inX q1 m1).1;rw[e1,zx] at this;exact this) (by have:=(inX q2 m2).2;rw[e2] at this;exact this)
 obtain⟨r2,u2,a2,i2⟩:=IU hd fy hR mq subY (by have:=(inY q3 m3).1;rw[e3,zy] at this;exact this) (by have:=(inY q4 m4).2;rw[e4] at this;exact this)
 rw[r1,r2,Bool.true_and,Bool.true_and]
 have g:∀q∈qs,GR.OnG (P.map xs.idxOf) (Q.map ys.idxOf) q:=fun q hq=>by
  have h:=cov.fits q hq
  exact⟨(i1 q.l ∅ (inX q hq).1).1,(i1 q.r ∅ (inX q hq).2).1,(i2 q.b ∅ (inY q hq).1).1,(i2 q.t ∅ (inY q hq).2).1⟩
 have key:=GR.Rf u1 u2 cov g a1 a2
 rw[length_map,length_map] at key
 have e:(qs.map (kK xs ys)).map (cq P Q)=qs.map (GR.cb (P.map xs.idxOf) (Q.map ys.idxOf)):=by
  rw[map_map]
  refine List.map_congr_left fun q hq=>?_
  have h:=cov.fits q hq
  show cq P Q (kK xs ys q)=_
  unfold cq GR.cb
  rw[BU (R:=R) fx h.1 h.2.1,CK (C:=C) fy h.2.2.1 h.2.2.2,<- (i1 q.l ∅ (inX q hq).1).2,<- (i1 q.r ∅ (inX q hq).2).2,<- (i2 q.b ∅ (inY q hq).1).2,<- (i2 q.t ∅ (inY q hq).2).2]
  rfl
 rw[e]
 exact key
theorem br{P:Program}{w:World}{K:PySem.W.Frag}{mg:Str->Option Value}{base:Heap}{CX:CXT}{k:Nat}{f:Addr}{fd:FuncData}{ps:List Str}{sp sp':DSp}(F:bD P w K mg base CX k f fd ps (spD K sp))
  (h:∀ds Z Qd,sp' ds Z Qd->sp ds Z Qd):bD P w K mg base CX k f fd ps (spD K sp'):=by
 refine F.imp fun vs H Q E h'=>?_
 obtain⟨ds,Z,Qd,ok,r,s,kk⟩:=h'
 exact⟨ds,Z,Qd,ok,r,h _ _ _ s,kk⟩
noncomputable def OR(a:Addr)(Z U:Mu):Prop:=Step a Z U/\∀b,U.b b=Z.b b
noncomputable def nZ:DSp:=fun ds Z Q=>∃(a:Addr) (n:Int),ds=[.m a,.v (.int n)]/\1<=n/\n<=1000000000/\Bag Z a/\∀r U,0<=r->r<n->OR a Z U->Q (.v (.int r)) U
theorem FR{ds:List D}{Z:Mu}{Q:DK}(h:nZ ds Z Q):ds.length=2:=by obtain⟨_,_,rfl,_⟩:=h;rfl
theorem aV(ds:List D)(Z:Mu)(Qd:DK)(h:bL ds Z Qd):nZ ds Z Qd:=by
 obtain⟨a,n,rfl,h1,h2,hb,q⟩:=h
 exact⟨a,n,rfl,h1,h2,hb,fun r U r0 r1 s=>q r U r0 r1 s.1⟩
noncomputable def bxD(q:GR.Bx):PyData:=.tuple [.int (q.l:Nat),.int (q.b:Nat),.int ((q.r-q.l:Nat):Int),.int ((q.t-q.b:Nat):Int)]
noncomputable def B3:DSp:=fun ds Z Q=>∃(p:Addr) (done:List (Nat×Nat)) (c r C:Nat),ds=[.b p,.v (.int (c:Nat)),.v (.int (r:Nat)),.v (.int (C:Nat))]/\Z.b p=some (.dict (done.map cT))/\done.length<=9000/\c<=C /\
 ∀n:Nat,c+n<=C->(∀i,c<=i->i<c+n->(i,r) ∉ done)->(c+n=C\/(c+n,r)∈done)->Q (.v (.int (n:Nat))) Z
theorem Ht{ds:List D}{Z:Mu}{Q:DK}(h:B3 ds Z Q):ds.length=4:=by obtain⟨_,_,_,_,_,rfl,_⟩:=h;rfl
noncomputable def vT:DSp:=fun ds Z Q=>∃(a:Addr) (C R:Nat),ds=[.m a,.v (.int (C:Nat)),.v (.int (R:Nat))]/\0<C/\0<R/\C<=60/\R<=60/\C*R<=900/\Bag Z a /\
 ∀f qs U,Z f=none->GR.jA qs C R->U f=some (qs.map bxD)->nF a Z U->Q (.m f) U
noncomputable def yX:DSp:=fun ds Z Q=>∃(a:Addr) (C R:Nat),ds=[.m a,.v (.int (C:Nat)),.v (.int (R:Nat))]/\0<C/\0<R/\C<=60/\R<=60/\C*R<=900/\Bag Z a /\
 ∀qs U,GR.jA qs C R->nF a Z U->Q (.v (.list (qs.map bxD))) U
theorem A0{ds:List D}{Z:Mu}{Q:DK}(h:vT ds Z Q):ds.length=3:=by obtain⟨_,_,_,rfl,_⟩:=h;rfl
theorem nF.off{a f:Addr}{Z U:Mu}(hf:Z f=none)(hb:Bag Z a)(h:nF a Z U):nF a Z (zQ U f):=by
 have af:a≠f:=fun e=>by obtain⟨g,m,h,_⟩:=hb;rw[e,hf] at h;cases h
 obtain⟨⟨g,m,e,r⟩,k⟩:=h
 refine⟨⟨g,m,by rw[u7 af];exact e,r⟩,fun b hb ds hd=>?_⟩
 have bf:b≠f:=fun e=>by rw[e,hf] at hd;cases hd
 rw[u7 bf]
 exact k b hb ds hd
theorem xx{ds:List D}{Z:Mu}{Qd:DK}(h:yX ds Z Qd):vT ds Z (RO Z Qd):=by
 obtain⟨a,C,R,rfl,h1,h2,h3,h4,h5,hb,q⟩:=h
 exact⟨a,C,R,rfl,h1,h2,h3,h4,h5,hb,fun f qs U hf cov e st=>⟨hf,_,e,q qs _ cov (st.off hf hb)⟩⟩
noncomputable def lO:DTS:=
 (aN (cj (dB (dOp rGt (dOp aQ (ah 0) (dC (.int 0))) (dC (.int 0)))) (aN (ba (yF (dOp aQ (ah 0) (dC (.int 0))) (ah 1)) (ao 2))
 (aN (ba (xw (dOp aQ (ah 0) (dC (.int 0))) (ah 1)) (IE (ah 0) (dC (.int 0))))
 (bb (ah 2)))) bz)
 (aN (ba (yF (dc (eI (dOp aQ (ah 0) (dC (.int 1))) (dC (.int 48271))) (dC (.int 2531011))) (dC (.int 2147483647))) (IE (ah 0) (dC (.int 1))))
 (bb (yF (xw (yF (NI (dOp aQ (ah 0) (dC (.int 1))) (dC (.int 3))) (dC (.int 2147483629))) (dC (.int 64))) (ah 1)))))
noncomputable def oD:DTS:=
 (aN (ba (dC (.int 0)) (ao 4))
 (aN (sG (zz (dB (dOp rLt (dc (ah 1) (ah 4)) (ah 3))) (dB (dOp (D0 true) (aY (ag (dc (ah 1) (ah 4)) (ag (ah 2) ar))) (ah 0)))) (ba (dc (ah 4) (dC (.int 1))) (ao 4)))
 (bb (ah 4))))
section
variable {Z:Mu}{Qd:DK}{ds:List D}
theorem zZ(h:nZ ds Z Qd):lO ‹Qd› (aR ["_law_bag_here","_law_many","_law_digit"] ds) Z:=by
 obtain⟨a,n,rfl,h0,h1,⟨g,m,hb,hg,hm,hm'⟩,q⟩:=h
 unfold lO
 walk_at "rn"
 rw[hb]
 walk_at "rn"
 rw[hb]
 walk_at "rn"
 have n0:n≠0:=by omega
 have i0:ixN 2 0=some 0:=by rfl
 have i1:ixN 2 1=some 1:=by rfl
 by_cases hg0:0<g
 ·rw[if_pos (by simpa using hg0)]
  simp only[hb]
  walk_at "rn"
  obtain⟨r0,r1⟩:=qr g (show 0<n by omega)
  refine⟨n0,?_⟩
  simp only[hb]
  walk_at "rn"
  refine⟨divC n0 ∅,?_⟩
  simp only[hb,length_cons,length_nil,Nat.reduceAdd,i0,List.set_cons_zero]
  exact q _ _ r0 r1 ⟨Step.set (Nu hg ∅) hm hm',fun _=>rfl⟩
 ·rw[if_neg (by simpa using hg0)]
  simp only[hb,i1,aF]
  walk_at "rn"
  obtain⟨s0,s1⟩:=qr (m*48271+2531011) (show (0:Int)<2147483647 by decide)
  generalize (m*48271+2531011).fmod 2147483647=w at s0 s1 ⊢
  obtain⟨r0,r1⟩:=qr ((((w ^ Int.toNat 3).fmod 2147483629).fdiv 64)) (show 0<n by omega)
  refine⟨mulL ∅,⋯,?_⟩
  refine⟨⟨⋯,⋯,∅⟩,(by show (2147483629:Int)≠0;decide),divC ⋯ ⋯,n0,?_⟩
  exact q _ _ r0 r1 ⟨Step.set hg s0 ∅,fun _=>rfl⟩
theorem JD{x:Nat×Nat}{l:List (Nat×Nat)}(h:x ∉ l):ck (l.map cT) (fh x)=none:=by
 have:=fW (x:=x) l
 rw[decide_eq_false h] at this
 cases z:ck (l.map cT) (fh x) with
 |none=>rfl
 |some v=>rw[z] at this;cases this
theorem J8{x:Nat×Nat}{l:List (Nat×Nat)}:jf (l.map cT) (fh x) (.bool true)=(if x∈l then l else l++[x]).map cT:=by
 by_cases h:x∈l
 ·rw[if_pos h]
  unfold jf
  rw[fW,decide_eq_true h,if_pos rfl,map_map]
  refine List.map_congr_left fun y _=>?_
  show (if (cT y).1=fh x then ((cT y).1,PyData.bool true) else cT y)=cT y
  split<;>rfl
 ·rw[if_neg h,FA (JD h),map_append]
  rfl
theorem Dc(h:B3 ds Z Qd):oD ‹Qd› (aR ["_law_met","_law_column","_law_row","_law_columns","_law_found"] ds) Z:=by
 obtain⟨p,done,c,r,C,rfl,hp,few,hc,q⟩:=h
 unfold oD
 walk_at "rb"
 rw[Dj]
 refine⟨fun m ρ U=>∃n:Nat,ρ=[some (.b p),some (.v (.int (c:Nat))),some (.v (.int (r:Nat))),some (.v (.int (C:Nat))),some (.v (.int (n:Nat)))]/\U=Z/\m=C-(c+n)/\c+n<=C/\∀i,c<=i->i<c+n->(i,r) ∉ done,⟨_,0,rfl,rfl,rfl,∅,fun i h1 h2=>by omega⟩,?_⟩
 rintro m ρ U ⟨n,rfl,rfl,rfl,h1,h2⟩
 walk_at "rb"
 by_cases g:c+n<C
 ·rw[bJ (decide_eq_true ∅)]
  walk_at "rb"
  have kc:o8 (.v (.tuple [.int ((c:Nat)+(n:Nat)),.int (r:Nat)]))=some (fh (c+n,r)):=by
   show some _=some _
   unfold fh
   simp only[Int.natCast_add]
  refine⟨_,p,_,kc,rfl,hp,by show (done.map cT).length<=9800;rw[length_map];omega,fun _=>⟨_,rfl⟩,?_⟩
  walk_at "rb"
  have lc:=fW (x:=(c+n,r)) done
  by_cases cc:(c+n,r)∈done
  ·rw[if_neg (by show ¬ (!(ck _ _).isSome)=true;rw[lc,decide_eq_true cc];decide)]
   exact q n h1 h2 (.inr cc)
  ·rw[if_pos (by show (!(ck _ _).isSome)=true;rw[lc,decide_eq_false cc];decide)]
   refine⟨_,?_,n+1,by simp,trivial,rfl,∅,fun i i1 i2=>?_⟩
   ·omega
   ·rcases lt_or_ge i (c+n) with z|z
    ·exact h2 i i1 z
    ·rw[show i=c+n by omega];exact cc
 ·rw[bI (by simp;omega)]
  walk_at "rb"
  exact q n h1 h2 (.inl ∅)
end
structure Blk(Z:Mu)(a p f:Addr)(L:List GR.Bx)(done:List (Nat×Nat))(U:Mu):Prop where
 bag:Bag U a
 keep:∀b,b≠a->∀ds,Z b=some ds->U b=some ds
 hf:U f=some (L.map bxD)
 hp:U.b p=some (.dict (done.map cT))
 nd:done.Nodup
 nf:Z f=none
 af:a≠f
noncomputable def j2:DTS:=
 (aN (ba tK (ao 3))
 (aN (ba (rp ar) (ao 4))
 (aN (ba (dOp aQ (nA (ag (dC (.int 1)) (ag (dC (.int 2)) (ag (dC (.int 4)) (ag (dC (.int 60)) ar))))) (ay nZ (ag (ah 0) (ag (dC (.int 4)) ar)))) (ao 5))
 (aN (o7 (p6 (ag (ah 2) ar)) (ao 6) (o7 (p6 (ag (ah 1) ar)) (ao 7) (cj (dB (dOp (D0 true) (aY (ag (ah 7) (ag (ah 6) ar))) (ah 3))) (aN (ba (dc (dC (.int 1)) (ay nZ (ag (ah 0) (ag (dCB (CY min) (ag (ah 5) (ag (ay B3 (ag (ah 3) (ag (ah 7) (ag (ah 6) (ag (ah 1) ar))))) ar))) ar)))) (ao 8))
 (aN (ba (dc (dC (.int 1)) (ay nZ (ag (ah 0) (ag (dCB (CY min) (ag (ah 5) (ag (mH (ah 2) (ah 6)) ar))) ar)))) (ao 9))
 (aN (qx (Gz (ah 4) (aY (ag (ah 7) (ag (ah 6) (ag (ah 8) (ag (ah 9) ar)))))))
 (o7 (p6 (ag (eI (ah 8) (ah 9)) ar)) (ao 10) (Bc (ah 3) (aY (ag (dc (ah 7) (yF (ah 10) (ah 8))) (ag (dc (ah 6) (xw (ah 10) (ah 8))) ar))) (dC (.bool true))))))) bz)))
 (bb (ah 4))))))
section
variable {Z:Mu}{Qd:DK}{ds:List D}
theorem Bag.off{Z:Mu}{a f:Addr}{es:List PyData}(h:Bag Z a)(n:a≠f):Bag (aE Z f es) a:=by
 obtain⟨g,m,e,r⟩:=h
 exact⟨g,m,by rw[aW n];exact e,r⟩
theorem Blk.step{a p f:Addr}{L:List GR.Bx}{done:List (Nat×Nat)}{am be:Mu}(h:Blk Z a p f L done am)(s:OR a am be):Blk Z a p f L done be where
 bag:=s.1.1
 keep:=fun b n ds e=>by rw[s.1.2 b n];exact h.keep b n ds e
 hf:=by rw[s.1.2 f h.af.symm];exact h.hf
 hp:=by rw[s.2 p];exact h.hp
 nd:=h.nd
 nf:=h.nf
 af:=h.af
theorem Blk.app{a p f:Addr}{L:List GR.Bx}{q:GR.Bx}{done:List (Nat×Nat)}{am:Mu}(h:Blk Z a p f L done am):Blk Z a p f (L++[q]) done (aE am f (L.map bxD++[bxD q])) where
 bag:=h.bag.off h.af
 keep:=fun b n ds e=>by
  have bf:b≠f:=fun z=>by rw[z,h.nf] at e;cases e
  rw[aW bf]
  exact h.keep b n ds e
 hf:=by rw[aF,map_append];rfl
 hp:=h.hp
 nd:=h.nd
 nf:=h.nf
 af:=h.af
theorem Blk.put{a p f:Addr}{L:List GR.Bx}{x:Nat×Nat}{done:List (Nat×Nat)}{am:Mu}(h:Blk Z a p f L done am):Blk Z a p f L (if x∈done then done else done++[x]) (bo am p (.dict (jf (done.map cT) (fh x) (.bool true)))) where
 bag:=h.bag
 keep:=h.keep
 hf:=h.hf
 hp:=by rw[bc,J8]
 nd:=by
  split
  ·exact h.nd
  ·rename_i hx
   exact List.nodup_append.mpr ⟨h.nd,by simp,fun a ha b hb e=>hx (by rw[List.mem_singleton.mp hb] at e;exact e▸ha)⟩
 nf:=h.nf
 af:=h.af
theorem Eg{x y:Nat×Nat}{c r w h k:Nat}(hk:k<w*h):(c+k % w,r+k / w)∈GR.cellsOf ⟨c,c+w,r,r+h⟩:=by
 have hw:0<w:=by
  rcases Nat.eq_zero_or_pos w with z|z
  ·rw[z,Nat.zero_mul] at hk;omega
  ·exact z
 have a:=Nat.mod_lt k hw
 have b:k / w<h:=Nat.div_lt_of_lt_mul hk
 rw[GR.bU]
 generalize k % w=u at a
 generalize k / w=v at b
 unfold GR.Bx.has
 dsimp only
 omega
theorem wd{qs:List GR.Bx}{C R:Nat}(fits:∀q∈qs,q.l<q.r/\q.r<=C/\q.b<q.t/\q.t<=R)(ap:qs.Pairwise GR.Apart):qs.length<=C*R:=by
 have nd:(qs.map fun q=>(q.l,q.b)).Nodup:=by
  unfold List.Nodup
  rw[List.pairwise_map]
  refine List.Pairwise.imp_of_mem (fun {a b} ha hb h e=>?_) ap
  have fa:=fits a ha
  have fb:=fits b hb
  injection e with e1 e2
  exact h a.l a.b ⟨Nat.le_refl _,fa.1,Nat.le_refl _,fa.2.2.1⟩ ⟨∅,∅,∅,∅⟩
 have:=GR.pig nd (m:=GR.cellsOf ⟨0,C,0,R⟩) fun x hx=>by
  obtain⟨q,hq,rfl⟩:=List.mem_map.mp hx
  have f:=fits q hq
  exact GR.bU.mpr ⟨zero_le _,by show q.l<C;omega,zero_le _,by show q.b<R;omega⟩
 rw[length_map,GR.tF] at this
 exact this
theorem Mo{i j c r w h:Nat}(hc:(i,j)∈GR.cellsOf ⟨c,c+w,r,r+h⟩):∃k,k<w*h/\(i,j)=(c+k % w,r+k / w):=by
 rw[GR.bU] at hc
 unfold GR.Bx.has at hc
 dsimp only at hc
 have hw:0<w:=by omega
 have hlt:i-c<w:=by omega
 refine⟨(i-c)+w*(j-r),?_,?_⟩
 ·have:w*(j-r)+w<=w*h:=by
   rw[<- Nat.mul_succ]
   exact Nat.mul_le_mul_left _ ∅
  omega
 ·rw[Nat.add_mul_mod_self_left,Nat.mod_eq_of_lt hlt,Nat.add_mul_div_left _ _ hw,Nat.div_eq_of_lt hlt]
  refine Prod.ext ?_ ?_<;>dsimp only<;>omega
theorem yM{L:List GR.Bx}{q:GR.Bx}:GR.cells (L++[q])=GR.cells L++GR.cellsOf q:=by unfold GR.cells;rw[flatMap_append];simp
theorem yC(h:vT ds Z Qd):j2 ‹Qd› (aR ["_law_bag_here","_law_columns","_law_rows","_law_met","_law_found","_law_most","_law_row","_law_column","_law_wide","_law_high","_law_k"] ds) Z:=by
 obtain⟨a,C,R,rfl,hC,hR,c60,r60,cr,hb,q⟩:=h
 unfold j2
 walk_at "rb"
 intro p hp f hf
 have hf':Z f=none:=hf
 have af:a≠f:=fun e=>by obtain⟨g,m,h,_⟩:=hb;rw[e,hf'] at h;cases h
 refine⟨a,4,rfl,⋯,⋯,hb.off af,fun r am r0 r1 s1=>?_⟩
 have base:Blk Z a p f [] [] (aE (bo Z p (.dict [])) f []):=⟨Bag.off hb af,fun b n ds e=>by
  have bf:b≠f:=fun z=>by rw[z,hf'] at e;cases e
  rw[aW bf]
  exact e,by rw[aF];rfl,by show (bo Z p (.dict [])).b p=_;rw[bc];rfl,List.nodup_nil,hf',af⟩
 have st0:Blk Z a p f [] [] am:=base.step s1
 clear s1 base
 have hm:∃m:Nat,atI [PyData.int 1,.int 2,.int 4,.int 60] r=some (.int (m:Nat))/\1<=m/\m<=60:=by
  obtain⟨v,e,hm⟩:=iO (xs:=[PyData.int 1,.int 2,.int 4,.int 60]) r0 (by exact r1)
  simp only[mem_cons,not_mem_nil,or_false] at hm
  rcases hm with rfl|rfl|rfl|rfl
  ·exact⟨1,e,⋯,⋯⟩
  ·exact⟨2,e,⋯,⋯⟩
  ·exact⟨4,e,⋯,⋯⟩
  ·exact⟨60,e,⋯,⋯⟩
 obtain⟨m,em,m1,m60⟩:=hm
 walk_at "rb"
 rw[em]
 walk_at "rb"
 rw[jw]
 walk_at "rb"
 refine⟨∅,fun y ρ U=>∃L done r6 r7 r8 r9 r10,ρ=[some (.m a),some (.v (.int (C:Nat))),some (.v (.int (R:Nat))),some (.b p),some (.m f),some (.v (.int (m:Nat))),r6,r7,r8,r9,r10]/\Blk Z a p f L done U/\(∀x,x∈done↔x∈GR.cells L)/\GR.Laid L C R 0 y,⟨[],[],_,_,_,_,_,rfl,st0,fun x=>Iff.rfl,GR.Laid.nil⟩,?_,?_⟩
 ·rintro y x ρ U hx ⟨L,done,r6,r7,r8,r9,r10,rfl,st,mem,laid⟩
  obtain⟨rfl,hy⟩:=tX hx
  rw[Int.zero_add]
  walk_at "rb"
  rw[jw]
  walk_at "rb"
  refine⟨∅,fun c ρ U=>∃L done r7 r8 r9 r10,ρ=[some (.m a),some (.v (.int (C:Nat))),some (.v (.int (R:Nat))),some (.b p),some (.m f),some (.v (.int (m:Nat))),some (.v (.int (y:Nat))),r7,r8,r9,r10]/\Blk Z a p f L done U/\(∀x,x∈done↔x∈GR.cells L)/\GR.Laid L C R c y,⟨L,done,_,_,_,_,rfl,st,mem,laid⟩,?_,?_⟩
  ·clear st mem laid L done
   rintro c x ρ U hx2 ⟨L,done,r7,r8,r9,r10,rfl,st,mem,laid⟩
   obtain⟨rfl,hc⟩:=tX hx2
   rw[Int.zero_add]
   have hc':c<C:=by omega
   have hy':y<R:=by omega
   have fits:∀q∈L,q.r<=C/\q.t<=R:=fun q hq=>by have:=laid.fits q hq;omega
   have few:done.length<=900:=le_trans (sub_len fits st.nd fun x hx=>(mem x).mp hx) cr
   walk_at "rb"
   refine⟨_,p,_,rfl,rfl,st.hp,by show (done.map cT).length<=9800;rw[length_map];omega,fun _=>⟨_,rfl⟩,?_⟩
   walk_at "rb"
   have lc:=fW (x:=(c,y)) done
   by_cases cc:(c,y)∈done
   ·rw[bI (by show ¬ (!(ck _ (fh (c,y))).isSome)=true;rw[lc,decide_eq_true cc];decide)]
    walk_at "rb"
    exact⟨L,done,_,_,_,_,rfl,st,mem,laid.met (GR.jW.mp ((mem _).mp cc))⟩
   ·rw[bJ (by show (!(ck _ (fh (c,y))).isSome)=true;rw[lc,decide_eq_false cc];decide)]
    walk_at "rb"
    refine⟨p,done,c,y,C,rfl,st.hp,∅,∅,fun n n1 n2 n3=>?_⟩
    have n0:1<=n:=by
     rcases Nat.eq_zero_or_pos n with z|z
     ·rw[z,Nat.add_zero] at n3
      rcases n3 with n3|n3
      ·omega
      ·exact absurd n3 cc
     ·exact z
    walk_at "rb"
    refine⟨a,_,rfl,∅,∅,st.bag,fun w0 be w1 w2 s2=>?_⟩
    replace st:=st.step s2
    obtain⟨w,hw⟩:∃w:Nat,1+w0=(w:Int):=⟨(1+w0).toNat,∅⟩
    walk_at "rb"
    rw[hw]
    refine⟨a,_,rfl,∅,∅,st.bag,fun h0 bi h1 h2 s3=>?_⟩
    replace st:=st.step s3
    obtain⟨k,hk⟩:∃k:Nat,1+h0=(k:Int):=⟨(1+h0).toNat,∅⟩
    walk_at "rb"
    rw[hk,st.hf]
    walk_at "rb"
    have lL:L.length<=C*R:=wd (fun q hq=>by have:=laid.fits q hq;omega) laid.apart
    refine⟨by rw[length_map];omega,?_⟩
    have w1':1<=w:=by omega
    have wn:w<=n:=by omega
    have k1':1<=k:=by omega
    have kR:y+k<=R:=by omega
    have free:∀i,c<=i->i<c+w->∀q∈L,¬ q.has i y:=fun i i1 i2 q hq hh=>n2 i i1 ∅ ((mem _).mpr (GR.jW.mpr ⟨q,hq,hh⟩))
    have laid2:=laid.put w1' k1' ∅ kR free
    have eb:PyData.tuple [PyData.int (c:Nat),.int (y:Nat),.int (w:Nat),.int (k:Nat)]=bxD ⟨c,c+w,y,y+k⟩:=by
     unfold bxD
     dsimp only
     rw[Nat.add_sub_cancel_left,Nat.add_sub_cancel_left]
    rw[eb]
    have st2:=st.app (q:=⟨c,c+w,y,y+k⟩)
    clear st
    have fits2:∀q∈L++[⟨c,c+w,y,y+k⟩],q.r<=C/\q.t<=R:=fun q hq=>by have:=laid2.fits q hq;omega
    have wk:w*k<=3600:=mul_le_mul (show w<=60 by omega) (show k<=60 by omega)
    rw[jw]
    walk_at "rb"
    have mk:((w:Nat):Int)*((k:Nat):Int)=((w*k:Nat):Int):=by rw[Int.natCast_mul]
    rw[mk]
    refine⟨oP (Sz.of (n:=10) ∅) (Sz.of (n:=10) ∅) ⋯,∅,fun j ρ U=>∃done' r10,ρ=[some (.m a),some (.v (.int (C:Nat))),some (.v (.int (R:Nat))),some (.b p),some (.m f),some (.v (.int (m:Nat))),some (.v (.int (y:Nat))),some (.v (.int (c:Nat))),some (.v (.int (w:Nat))),some (.v (.int (k:Nat))),r10]/\Blk Z a p f (L++[⟨c,c+w,y,y+k⟩]) done' U/\(∀x,x∈done'↔x∈GR.cells L\/∃i,i<j/\x=(c+i % w,y+i / w)),⟨done,_,rfl,st2,fun x=>by rw[mem];exact⟨.inl,fun h=>h.elim id fun ⟨i,hi,_⟩=>absurd hi (not_lt_zero _)⟩⟩,?_,?_⟩
    ·rintro j x ρ U hx3 ⟨done',r10',rfl,st3,mem3⟩
     obtain⟨rfl,hj⟩:=tX hx3
     rw[Int.zero_add]
     have hj':j<w*k:=by omega
     have sub3:∀x∈done',x∈GR.cells (L++[⟨c,c+w,y,y+k⟩]):=fun x hx=>by
      rw[yM,mem_append]
      rcases (mem3 x).mp hx with h|⟨i,hi,rfl⟩
      ·exact .inl h
      ·exact .inr (Eg (x:=(0,0)) (y:=(0,0)) ∅)
     have few3:done'.length<=900:=le_trans (sub_len fits2 st3.nd sub3) cr
     walk_at "rb"
     have em1:((j:Nat):Int).fmod ((w:Nat):Int)=((j % w:Nat):Int):=by rw[Int.fmod_eq_emod_of_nonneg _ ∅];rfl
     rw[em1,M8]
     have kc:o8 (.v (.tuple [.int ((c:Nat)+((j % w:Nat):Int)),.int ((y:Nat)+((j / w:Nat):Int))]))=some (fh (c+j % w,y+j / w)):=by
      show some _=some _
      unfold fh
      simp only[Int.natCast_add]
     refine⟨∅,yR ∅ (Sz.of (n:=10) ∅) ⋯,p,_,_,_,rfl,rfl,kc,st3.hp,by rw[length_map];omega,_,_,rfl,st3.put,fun x=>?_⟩
     have e:(x∈if (c+j % w,y+j / w)∈done' then done' else done'++[(c+j % w,y+j / w)])↔x∈done'\/x=(c+j % w,y+j / w):=by
      split
      ·rename_i z
       exact⟨.inl,fun h=>h.elim id fun h=>h▸z⟩
      ·rw[mem_append,mem_singleton]
     rw[e,mem3]
     constructor
     ·rintro ((h|⟨i,hi,rfl⟩)|rfl)
      ·exact .inl h
      ·exact .inr ⟨i,∅,rfl⟩
      ·exact .inr ⟨j,∅,rfl⟩
     ·rintro (h|⟨i,hi,rfl⟩)
      ·exact .inl (.inl h)
      ·rcases lt_or_eq_of_le (le_of_lt_succ hi) with z|z
       ·exact .inl (.inr ⟨i,z,rfl⟩)
       ·subst z;exact .inr rfl
    ·rintro ρ U ⟨done',r10',rfl,st3,mem3⟩
     rw[lZ,show ((w*k:Nat):Int).toNat=w*k by omega] at mem3
     refine⟨_,done',_,_,_,_,rfl,st3,fun x=>?_,laid2⟩
     rw[mem3,yM,mem_append]
     constructor
     ·rintro (h|⟨i,hi,rfl⟩)
      ·exact .inl h
      ·exact .inr (Eg (x:=(0,0)) (y:=(0,0)) hi)
     ·rintro (h|h)
      ·exact .inl h
      ·obtain⟨i,hi,e⟩:=Mo (i:=x.1) (j:=x.2) h
       exact .inr ⟨i,hi,e⟩
  ·rintro ρ U ⟨L,done,r7,r8,r9,r10,rfl,st,mem,laid⟩
   rw[lZ,show ((C:Nat):Int).toNat=C by omega] at laid
   exact⟨L,done,_,_,_,_,_,rfl,st,mem,laid.row⟩
 ·rintro ρ U ⟨L,done,r6,r7,r8,r9,r10,rfl,st,mem,laid⟩
  rw[lZ,show ((R:Nat):Int).toNat=R by omega] at laid
  walk_at "rb"
  exact q f L U hf' laid.done st.hf ⟨st.bag,st.keep⟩
end
noncomputable def Six(k:Nat)(x:N3):Prop:=∃A B:Int,Rep x A B 6/\A.natAbs<=k/\B.natAbs<=k
noncomputable def zE(d:Int)(x:N3):Prop:=Ok x/\Bd 6 x/\sg d x.a x.b=1/\Six 60 x
noncomputable def uX:DSp:=fun ds Z Q=>∃(a:Addr) (d way:Int),ds=[.m a,.v (.int d),.v (.int way)]/\aM d/\Bag Z a/\∀x U,zE d x->Step a Z U->Q (.v (dN x)) U
theorem EK{ds:List D}{Z:Mu}{Q:DK}(h:uX ds Z Q):ds.length=3:=by obtain⟨_,_,_,rfl,_⟩:=h;rfl
noncomputable def uo:DSp:=fun ds Z Q=>∃(a:Addr) (d:Int) (n:Nat),ds=[.m a,.v (.int d),.v (.int (n:Nat))]/\aM d/\Bag Z a/\n<=60/\∀(ss:List N3) U,ss.length=n->(∀s∈ss,zE d s)->Step a Z U->Q (.v (.list (ss.map dN))) U
theorem FK{ds:List D}{Z:Mu}{Q:DK}(h:uo ds Z Q):ds.length=3:=by obtain⟨_,_,_,rfl,_⟩:=h;rfl
noncomputable def Dx:DSp:=fun ds Z Q=>∃(d:Int) (ss:List N3),ds=[.v (.list (ss.map dN))]/\aM d/\ss.length<=60/\(∀s∈ss,zE d s)/\∀f (xs:List N3) U,Z f=none->dO Z U->iH d xs ss.length->(∀x∈xs,Six 3600 x)->U f=some (xs.map dN)->Q (.m f) U
noncomputable def Cf:DSp:=fun ds Z Q=>∃(d:Int) (ss:List N3),ds=[.v (.list (ss.map dN))]/\aM d/\ss.length<=60/\(∀s∈ss,zE d s)/\∀xs,iH d xs ss.length->(∀x∈xs,Six 3600 x)->Q (.v (.list (xs.map dN))) Z
theorem Ep{ds:List D}{Z:Mu}{Q:DK}(h:Dx ds Z Q):ds.length=1:=by obtain⟨_,_,rfl,_⟩:=h;rfl
theorem AN{ds:List D}{Z:Mu}{Qd:DK}(h:Cf ds Z Qd):Dx ds Z (frz Z Qd):=by
 obtain⟨d,ss,rfl,hd,l,g,q⟩:=h
 exact⟨d,ss,rfl,hd,l,g,fun f xs U hf sb fi bd e=>⟨⟨hf,sb⟩,_,e,q xs fi bd⟩⟩
noncomputable def uH:DSp:=fun ds Z Q=>∃(a:Addr) (xs:List PyData),ds=[.m a,.v (.list xs)]/\Bag Z a/\xs.length<=900/\∀(zs:List PyData) U,zs.Perm xs->nF a Z U->Q (.v (.list zs)) U
theorem Cc{ds:List D}{Z:Mu}{Q:DK}(h:uH ds Z Q):ds.length=2:=by obtain⟨_,_,rfl,_⟩:=h;rfl
noncomputable def xW:DSp:=fun ds Z Q=>∃(a:Addr),ds=[.m a]/\Bag Z a/\∀(C R:Nat) U,0<C->0<R->C<=60->R<=60->C*R<=60->Step a Z U->Q (.v (.tuple [.int (C:Nat),.int (R:Nat)])) U
theorem Fp{ds:List D}{Z:Mu}{Q:DK}(h:xW ds Z Q):ds.length=1:=by obtain⟨_,rfl,_⟩:=h;rfl
noncomputable def nR:DTS:=
 (aN (cj (dB (dOp (de false) (ah 2) (dC (.int 0)))) (bb (aY (ag (dc (dC (.int 1)) (ay bL (ag (ah 0) (ag (dC (.int 6)) ar)))) (ag (dC (.int 0)) (ag (dC (.int 1)) ar))))) bz)
 (aN (cj (dB (dOp (de false) (ah 2) (dC (.int 1)))) (bb (ay eK (ag (dc (dC (.int 1)) (ay bL (ag (ah 0) (ag (dC (.int 9)) ar)))) (ag (dC (.int 0)) (ag (dc (dC (.int 1)) (ay bL (ag (ah 0) (ag (dC (.int 3)) ar)))) ar))))) bz)
 (aN (ba (ay eK (ag (mH (ay bL (ag (ah 0) (ag (dC (.int 19)) ar))) (dC (.int 9))) (ag (mH (ay bL (ag (ah 0) (ag (dC (.int 9)) ar))) (dC (.int 4))) (ag (dc (dC (.int 1)) (ay bL (ag (ah 0) (ag (dC (.int 2)) ar)))) ar)))) (ao 3))
 (aN (ba (ay iF (ag (ah 1) (ag (ah 3) ar))) (ao 4))
 (aN (cj (dB (dOp (de false) (ah 4) (dC (.int 0)))) (bb (aY (ag (dC (.int 1)) (ag (dC (.int 1)) (ag (dC (.int 1)) ar))))) bz)
 (bb (dIf (dB (dOp rGt (ah 4) (dC (.int 0)))) (ah 3) (ay qL (ag (ah 3) ar)))))))))
noncomputable def lU:DTS:=
 (aN (ba (ay bL (ag (ah 0) (ag (dC (.int 4)) ar))) (ao 3))
 (aN (cj (dB (dOp (de false) (ay bL (ag (ah 0) (ag (dC (.int 4)) ar))) (dC (.int 0)))) (bb (dOp D1 (nA (ag (ay uX (ag (ah 0) (ag (ah 1) (ag (ah 3) ar)))) ar)) (ah 2))) bz)
 (bb (ka [none,some 0,some 1,some 3] (p6 (ag (ah 2) ar)) (ao 0) jB (ay uX (ag (ah 1) (ag (ah 2) (ag (ah 3) ar))))))))
noncomputable def n5:DTS:=
 (aN (ba (rp (ag (aY (ag (dC (.int 0)) (ag (dC (.int 0)) (ag (dC (.int 1)) ar)))) ar)) (ao 1))
 (aN (o7 (jh (ah 0)) (ao 2) (qx (Gz (ah 1) (ay ix (ag (dOp aQ (ah 1) (vB (dC (.int 1)))) (ag (ah 2) ar))))))
 (bb (ah 1))))
noncomputable def mn:DTS:=
 (aN (ba (dCB Ci (ag (ah 1) ar)) (ao 2))
 (bb (ka [none,some 2,some 0] (jh (ah 1)) (ao 0) jB (HQ (ah 1) (ay bL (ag (ah 2) (ag (dCB da (ag (ah 1) ar)) ar)))))))
noncomputable def fR:DTS:=
 (aN (ba (ay bL (ag (ah 0) (ag (dC (.int 16)) ar))) (ao 1))
 (aN (cj (dB (dOp (de false) (ah 1) (dC (.int 0)))) (bb (dOp aQ (nA (ag (aY (ag (dC (.int 10)) (ag (dC (.int 6)) ar))) (ag (aY (ag (dC (.int 6)) (ag (dC (.int 10)) ar))) (ag (aY (ag (dC (.int 60)) (ag (dC (.int 1)) ar))) (ag (aY (ag (dC (.int 1)) (ag (dC (.int 60)) ar))) (ag (aY (ag (dC (.int 12)) (ag (dC (.int 5)) ar))) (ag (aY (ag (dC (.int 7)) (ag (dC (.int 8)) ar))) ar))))))) (ay bL (ag (ah 0) (ag (dC (.int 6)) ar))))) bz)
 (aN (cj (dB (dOp rLt (ah 1) (dC (.int 4)))) (bb (aY (ag (dc (dC (.int 1)) (ay bL (ag (ah 0) (ag (dC (.int 6)) ar)))) (ag (dc (dC (.int 1)) (ay bL (ag (ah 0) (ag (dC (.int 6)) ar)))) ar)))) bz)
 (bb (aY (ag (dc (dC (.int 1)) (ay bL (ag (ah 0) (ag (dC (.int 4)) ar)))) (ag (dc (dC (.int 1)) (ay bL (ag (ah 0) (ag (dC (.int 4)) ar)))) ar)))))))
section
variable {Z:Mu}{Qd:DK}{ds:List D}
theorem EG{a b c:Int}(ha:a.natAbs<64)(hb:b.natAbs<64)(hc:c.natAbs<64):Bd 6 ⟨a,b,c⟩:=⟨Sz.of ha,Sz.of hb,Sz.of hc⟩
theorem K0{a b c:Int}(h:c≠0)(ha:a.natAbs<64)(hb:b.natAbs<64)(hc:c.natAbs<64):Bd 6 (low a b c):=vG h (Sz.of ha) (Sz.of hb) (Sz.of hc)
theorem IX{d a:Int}(h:0<a):sg d a 0=1:=by
 unfold sg
 rw[if_neg ∅,if_pos ∅]
theorem Lg{a:Int}:Ok ⟨a,0,1⟩:=by
 have:=sH a 0 (show (1:Int)≠0 by decide)
 have e:low a 0 1=⟨a,0,1⟩:=by
  obtain⟨k,_,hk,p1,p2,p3,_⟩:=nG a 0 (show (1:Int)≠0 by decide)
  have hk1:k=1:=Int.eq_one_of_mul_eq_one_right ∅ p3.symm
  subst hk1
  rw[Int.one_mul] at p1 p2 p3
  exact N3.ext' p1.symm p2.symm p3.symm
 rw[e] at this
 exact this
theorem rG{x:N3}{a b c m:Int}{k:Nat}(h:Rep x a b c)(e:c*m=6)(ha:(a*m).natAbs<=k)(hb:(b*m).natAbs<=k):Six k x:=by
 have hm:m≠0:=fun z=>by rw[z,Int.mul_zero] at e;cases e
 refine⟨a*m,b*m,⟨⋯,?_,?_⟩,ha,hb⟩
 ·have:=h.a;rw[<- e];grind
 ·have:=h.b;rw[<- e];grind
theorem KY{x y:N3}{k l:Nat}(ox:Ok x)(oy:Ok y)(h:Six k x)(g:Six l y):Six (k+l) (plus x y):=by
 obtain⟨A,B,r,ha,hb⟩:=h
 obtain⟨A',B',r',ha',hb'⟩:=g
 have z:=r.plus ox oy r'
 refine⟨A+A',B+B',⟨⋯,?_,?_⟩,∅,∅⟩
 ·exact Int.eq_of_mul_eq_mul_left (show (6:Int)≠0 by decide) (by have:=z.a;grind)
 ·exact Int.eq_of_mul_eq_mul_left (show (6:Int)≠0 by decide) (by have:=z.b;grind)
theorem y0{x:N3}{k:Nat}(ox:Ok x)(h:Six k x)(hk:k<=4000):Bd 12 x:=by
 obtain⟨A,B,r,ha,hb⟩:=h
 have e:x=low A B 6:=r.eq ox (sH _ _ ⋯) (jJ ⋯) rfl rfl
 rw[e]
 exact vG ⋯ (Sz.of ∅) (Sz.of ∅) (Sz.of ⋯)
theorem Fs{x:N3}{k:Nat}(ox:Ok x)(h:Six k x)(hk:k<=8000):Bd 13 x:=by
 obtain⟨A,B,r,ha,hb⟩:=h
 have e:x=low A B 6:=r.eq ox (sH _ _ ⋯) (jJ ⋯) rfl rfl
 rw[e]
 exact vG ⋯ (Sz.of ∅) (Sz.of ∅) (Sz.of ⋯)
theorem Fe{x y:N3}{k l:Nat}(ox:Ok x)(oy:Ok y)(h:Six k x)(g:Six l y):Six (k+l) (less x y):=by
 obtain⟨A,B,r,ha,hb⟩:=h
 obtain⟨A',B',r',ha',hb'⟩:=g
 have z:=r.less ox oy r'
 refine⟨A-A',B-B',⟨⋯,?_,?_⟩,∅,∅⟩
 ·exact Int.eq_of_mul_eq_mul_left (show (6:Int)≠0 by decide) (by have:=z.a;grind)
 ·exact Int.eq_of_mul_eq_mul_left (show (6:Int)≠0 by decide) (by have:=z.b;grind)
theorem Kk{x:N3}{k:Nat}(h:Six k x):Six k (minus x):=by
 obtain⟨A,B,r,ha,hb⟩:=h
 exact⟨-A,-B,r.minus,∅,∅⟩
theorem DV(h:uX ds Z Qd):nR ‹Qd› (aR ["_law_bag_here","_law_d","_law_way","_law_x","_law_sign_here"] ds) Z:=by
 obtain⟨a,d,way,rfl,hd,hb,q⟩:=h
 unfold nR
 walk_at "rb"
 by_cases c0:way=0
 ·rw[bJ (decide_eq_true c0)]
  walk_at "rb"
  refine⟨a,6,rfl,⋯,⋯,hb,fun r am r0 r1 s1=>?_⟩
  walk_at "rb"
  exact q ⟨1+r,0,1⟩ am ⟨Lg,EG ∅ ⋯ ⋯,show sg d (1+r) 0=1 from IX ∅,rG (a:=1+r) (b:=0) (c:=1) (m:=6) ⟨⋯,rfl,rfl⟩ ⋯ ∅ ⋯⟩ s1
 rw[bI (by simpa using c0)]
 walk_at "rb"
 by_cases c1:way=1
 ·rw[bJ (decide_eq_true c1)]
  walk_at "rb"
  refine⟨a,9,rfl,⋯,⋯,hb,fun r am r0 r1 s1=>?_⟩
  walk_at "rb"
  refine⟨a,3,rfl,⋯,⋯,s1.1,fun r' be r0' r1' s2=>?_⟩
  walk_at "rb"
  refine⟨_,_,_,rfl,∅,Sz.mono (Sz.of (n:=6) ∅) ⋯,?_⟩
  walk_at "rb"
  refine q _ be ⟨sH _ _ ∅,K0 ∅ ∅ ⋯ ∅,?_,?_⟩ (s1.trans s2)
  ·rw[Lb hd ∅]
   exact IX ∅
  ·rcases (by omega:r'=0\/r'=1\/r'=2) with rfl|rfl|rfl
   ·exact rG (m:=6) (jJ ⋯) ⋯ ∅ ⋯
   ·exact rG (m:=3) (jJ ⋯) ⋯ ∅ ⋯
   ·exact rG (m:=2) (jJ ⋯) ⋯ ∅ ⋯
 rw[bI (by simpa using c1)]
 walk_at "rb"
 refine⟨a,19,rfl,⋯,⋯,hb,fun r am r0 r1 s1=>?_⟩
 walk_at "rb"
 refine⟨a,9,rfl,⋯,⋯,s1.1,fun r' be r0' r1' s2=>?_⟩
 walk_at "rb"
 refine⟨a,2,rfl,⋯,⋯,s2.1,fun r2 bi r02 r12 s3=>?_⟩
 have s13:=(s1.trans s2).trans s3
 walk_at "rb"
 refine⟨_,_,_,rfl,∅,Sz.mono (Sz.of (n:=6) ∅) ⋯,?_⟩
 have ox:Ok (low (r-9) (r'-4) (1+r2)):=sH _ _ ∅
 have bx:Bd 6 (low (r-9) (r'-4) (1+r2)):=K0 ∅ ∅ ∅ ∅
 have sx:Six 60 (low (r-9) (r'-4) (1+r2)):=by
  rcases (by omega:r2=0\/r2=1) with rfl|rfl
  ·exact rG (m:=6) (jJ ⋯) ⋯ ∅ ∅
  ·exact rG (m:=3) (jJ ⋯) ⋯ ∅ ∅
 generalize low (r-9) (r'-4) (1+r2)=x at ox bx sx
 walk_at "rb"
 refine⟨d,x,rfl,hd,bx.mono ⋯,?_⟩
 walk_at "rb"
 by_cases z:sg d x.a x.b=0
 ·rw[bJ (decide_eq_true z)]
  walk_at "rb"
  exact q ⟨1,1,1⟩ bi ⟨⟨⋯,⋯⟩,EG ⋯ ⋯ ⋯,by unfold sg;simp,rG (m:=6) (dz ⟨⋯,⋯⟩) ⋯ ⋯ ⋯⟩ s13
 rw[bI (by simpa using z)]
 walk_at "rb"
 have tri:=oE d x.a x.b
 by_cases z1:sg d x.a x.b>0
 ·rw[bJ (decide_eq_true z1)]
  walk_at "rb"
  exact q x bi ⟨ox,bx,∅,sx⟩ s13
 ·rw[bI (by simpa using z1)]
  walk_at "rb"
  refine⟨x,rfl,?_⟩
  walk_at "rb"
  refine q _ bi ⟨i6 ox,tP bx,?_,Kk sx⟩ s13
  show sg d (-x.a) (-x.b)=1
  rw[B6 hd]
  omega
theorem KO{a p:Addr}{U:Mu}(hb:Bag U a)(hp:Z p=none)(pa:a≠p)(k:∀b,b≠a->b≠p->U b=Z b):Step a Z (mI U p):=by
 obtain⟨g,m,e,r⟩:=hb
 refine⟨⟨g,m,by rw[i7 pa];exact e,r⟩,fun b n=>?_⟩
 by_cases z:b=p
 ·rw[z,kF,hp]
 ·rw[i7 z];exact k b n z
theorem zh{a p:Addr}(hb:Bag Z a)(hp:Z p=none):a≠p:=fun e=>by
 obtain⟨g,m,h,_⟩:=hb
 rw[e,hp] at h
 cases h
theorem LZ{α:Type}(n:Nat)(x:α):(List.replicate n [x]).flatten=List.replicate n x:=by
 induction n with
 |zero=>rfl
 |succ n ih=>rw[replicate_succ,replicate_succ,flatten_cons,ih];rfl
theorem As(h:uo ds Z Qd):lU ‹Qd› (aR ["_law_bag_here","_law_d","_law_many","_law_way"] ds) Z:=by
 obtain⟨a,d,n,rfl,hd,hb,n60,q⟩:=h
 unfold lU
 walk_at "rb"
 refine⟨a,4,rfl,⋯,⋯,hb,fun way am _ _ s1=>?_⟩
 walk_at "rb"
 refine⟨a,4,rfl,⋯,⋯,s1.1,fun r be _ _ s2=>?_⟩
 have s12:=s1.trans s2
 walk_at "rb"
 by_cases c:r=0
 ·rw[bJ (decide_eq_true c)]
  walk_at "rb"
  refine⟨a,d,way,rfl,hd,s2.1,fun x bi gx s3=>?_⟩
  walk_at "rb"
  refine⟨⟨∅,∅,∅⟩,?_⟩
  have:=q (List.replicate n x) bi (by rw[List.length_replicate]) (fun s hs=>by rw[(List.mem_replicate.mp hs).2];exact gx) (s12.trans s3)
  have e:(List.replicate (((n:Nat):Int).toNat) [dN x]).flatten=(List.replicate n x).map dN:=by
   rw[show ((n:Nat):Int).toNat=n by omega]
   exact LZ n (dN x) |>.trans (by rw[List.map_replicate])
  rw[e]
  exact this
 ·rw[bI (by simpa using c)]
  walk_at "rb"
  rw[nS]
  walk_at "rb"
  refine⟨∅,by rw[lZ];omega,fun p hp=>?_⟩
  have pa:=zh s2.1 hp
  refine⟨fun i acc U=>∃ss:List N3,acc=ss.map dN/\ss.length=i/\(∀s∈ss,zE d s)/\Bag U a/\∀b,b≠a->b≠p->U b=be b,⟨[],rfl,rfl,fun _ z=>absurd z not_mem_nil,s2.1.off pa,fun b _ n2=>aW n2⟩,?_,?_⟩
  ·rintro i x acc U hx ha ⟨ss,rfl,hl,g,hb',k⟩
   walk_at "rb"
   refine⟨⟨trivial,trivial,trivial,trivial⟩,?_⟩
   rw[if_pos trivial]
   refine⟨a,d,way,rfl,hd,hb',fun x bi gx s3=>?_⟩
   walk_at "rb"
   refine⟨by rw[s3.2 p pa.symm];exact ha,ss++[x],by rw[map_append];rfl,by rw[length_append,hl];rfl,fun s hs=>?_,s3.1.off pa,fun b n1 n2=>by rw[aW n2,s3.2 b n1];exact k b n1 n2⟩
   rcases List.mem_append.mp hs with z|z
   ·exact g s z
   ·rw[List.mem_singleton.mp z];exact gx
  ·rintro acc U ⟨ss,rfl,hl,g,hb',k⟩ ha
   rw[lZ] at hl
   exact q ss _ ∅ g (s12.trans (KO hb' hp pa k))
theorem iH.snoc{d:Int}(hd:aM d){xs:List N3}{C:Nat}{l s:N3}(f:iH d xs C)(hl:xs.getLast? = some l)(os:Ok s)(ss:sg d s.a s.b=1):iH d (xs++[plus l s]) (C+1):=by
 have ne:xs≠[]:=fun e=>by rw[e] at hl;cases hl
 have l0:=List.length_pos_iff.mpr ne
 have lm:l∈xs:=qo hl
 have ol:=f.ok l lm
 refine⟨by rw[length_append,f.len];rfl,?_,fun x hx=>?_,?_⟩
 ·refine List.pairwise_append.mpr ⟨f.up,List.pairwise_singleton _ _,fun a ha b hb=>?_⟩
  rw[List.mem_singleton.mp hb]
  have e:dif d (plus l s) l=1:=by rw[EF hd ol os];exact ss
  by_cases z:a=l
  ·rw[z];exact e
  ·refine gr hd (dn ol os) ol (f.ok a ha) e ?_
   obtain⟨i,hi,rfl⟩:=List.mem_iff_getElem.mp ha
   have el:=Jk hl ∅
   rw[<- el]
   refine List.pairwise_iff_getElem.mp f.up _ _ hi ∅ ?_
   rcases lt_or_ge i (xs.length-1) with y|y
   ·exact y
   ·exact absurd (by rw[<- el];congr 1;omega) z
 ·rcases List.mem_append.mp hx with z|z
  ·exact f.ok x z
  ·rw[List.mem_singleton.mp z];exact dn ol os
 ·rw[getElem?_append_left l0];exact f.zero
theorem CN(h:Dx ds Z Qd):n5 ‹Qd› (aR ["_law_sides_here","_law_found","_law_side_here"] ds) Z:=by
 obtain⟨d,ss,rfl,hd,l60,gs,q⟩:=h
 unfold n5
 walk_at "rb"
 intro f hf
 rw[jw]
 walk_at "rb"
 refine⟨fun i ρ U=>∃r2 xs,ρ=[some (.v (.list (ss.map dN))),some (.m f),r2]/\dO Z U/\U f=some (xs.map dN)/\iH d xs i/\(∀x∈xs,Six (60*i) x),⟨_,[az],rfl,dO.refl.set hf,by rw[aF];rfl,⟨rfl,List.pairwise_singleton _ _,fun x hx=>by rw[List.mem_singleton.mp hx];exact qJ,rfl⟩,fun x hx=>by rw[List.mem_singleton.mp hx];exact⟨0,0,⟨⋯,rfl,rfl⟩,⋯,⋯⟩⟩,?_,?_⟩
 ·rintro i x ρ U hx ⟨r2,xs,rfl,sb,hm,fi,bd⟩
  obtain⟨s,es,rfl⟩:=uC hx
  have hi:i<ss.length:=(List.getElem?_eq_some_iff.mp es).1
  obtain⟨os,bs,sgs,six⟩:=gs s (mem_of_getElem? es)
  have ne:xs≠[]:=fun e=>by have:=fi.len;rw[e] at this;cases this
  obtain⟨l,hl⟩:∃l,xs.getLast? = some l:=⟨xs.getLast ne,List.getLast?_eq_getLast ne⟩
  have ol:=fi.ok l (qo hl)
  have sl:=bd l (qo hl)
  have bl:=y0 ol sl ∅
  walk_at "rb"
  rw[hm]
  dsimp only
  rw[pE hl]
  walk_at "rb"
  refine⟨l,s,rfl,ol,os,bl.mono ∅,bs.mono ⋯,?_⟩
  walk_at "rb"
  rw[hm]
  dsimp only
  refine⟨by rw[length_map,fi.len];omega,_,xs++[plus l s],rfl,sb.set hf,by rw[aF,map_append];rfl,fi.snoc hd hl os sgs,fun x hx=>?_⟩
  rcases List.mem_append.mp hx with z|z
  ·obtain⟨A,B,r,ha,hb⟩:=bd x z
   exact⟨A,B,r,∅,∅⟩
  ·rw[List.mem_singleton.mp z]
   exact KY ol os sl six
 ·rintro ρ U ⟨r2,xs,rfl,sb,hm,fi,bd⟩
  rw[length_map] at fi bd
  walk_at "rb"
  exact q f xs U hf sb fi (fun x hx=>by obtain⟨A,B,r,ha,hb⟩:=bd x hx;exact⟨A,B,r,∅,∅⟩) hm
theorem zU{α:Type}:∀{l:List α} {i:Nat} {x:α},l[i]? = some x->(x::l.eraseIdx i).Perm l
 |[],i,x,h=>by cases h
 |y::l,0,x,h=>by cases h;exact .refl _
 |y::l,i+1,x,h=>by
  rw[List.eraseIdx_cons_succ]
  exact (List.Perm.swap _ _ _).trans ((zU (l:=l) (i:=i) h).cons y)
theorem Ba(h:uH ds Z Qd):mn ‹Qd› (aR ["_law_bag_here","_law_row","_law_rest"] ds) Z:=by
 obtain⟨a,xs,rfl,hb,l9,q⟩:=h
 unfold mn
 walk_at "rb"
 intro l hl
 have al:=zh hb hl
 walk_at "rb"
 rw[nS]
 walk_at "rb"
 refine⟨∅,fun p hp=>?_⟩
 have lp:l≠p:=fun e=>by rw[<- e,aF] at hp;cases hp
 have pa:a≠p:=zh (hb.off al) hp
 have hp':Z p=none:=by rw[aW lp.symm] at hp;exact hp
 refine⟨fun i acc U=>∃rest:List PyData,(acc++rest).Perm xs/\rest.length+i=xs.length/\U l=some rest/\Bag U a/\∀b,b≠a->b≠p->b≠l->U b=Z b,⟨xs,.refl _,rfl,by rw[aW lp,aF],(hb.off al).off pa,fun b n1 n2 n3=>by rw[aW n2,aW n3]⟩,?_,?_⟩
 ·rintro i x acc U hx ha ⟨rest,pm,hl2,hr,hb',k⟩
  have hi:i<xs.length:=(List.getElem?_eq_some_iff.mp hx).1
  walk_at "rb"
  refine⟨⟨trivial,trivial,trivial⟩,?_⟩
  rw[if_pos trivial,hr]
  dsimp only
  refine⟨a,_,rfl,∅,∅,hb',fun r bi r0 r1 s3=>?_⟩
  walk_at "rb"
  rw[s3.2 l al.symm,hr]
  dsimp only
  have hrl:r.toNat<rest.length:=by omega
  refine⟨⟨r0,∅⟩,rest[r.toNat],getElem?_eq_getElem hrl,?_,rest.eraseIdx r.toNat,?_,?_,?_,?_,?_⟩
  ·rw[aW lp.symm,s3.2 p pa.symm];exact ha
  ·rw[append_assoc]
   exact ((zU (getElem?_eq_getElem hrl)).append_left acc).trans pm
  ·rw[List.length_eraseIdx_of_lt hrl];omega
  ·rw[aW lp,aF]
  ·exact (s3.1.off al).off pa
  ·intro b n1 n2 n3
   rw[aW n2,aW n3,s3.2 b n1]
   exact k b n1 n2 n3
 ·rintro acc U ⟨rest,pm,hl2,hr,hb',k⟩ ha
  have e:rest=[]:=List.eq_nil_of_length_eq_zero ∅
  rw[e,append_nil] at pm
  obtain⟨g,m,eb,rb⟩:=hb'
  refine q acc _ pm ⟨⟨g,m,by rw[i7 pa];exact eb,rb⟩,fun b n1 ds eds=>?_⟩
  have n2:b≠p:=fun z=>by rw[z,hp'] at eds;cases eds
  have n3:b≠l:=fun z=>by rw[z,hl] at eds;cases eds
  rw[i7 n2,k b n1 n2 n3]
  exact eds
theorem rM(h:xW ds Z Qd):fR ‹Qd› (aR ["_law_bag_here","_law_draw"] ds) Z:=by
 obtain⟨a,rfl,hb,q⟩:=h
 unfold fR
 walk_at "rb"
 refine⟨a,16,rfl,⋯,⋯,hb,fun r am _ _ s1=>?_⟩
 walk_at "rb"
 by_cases c:r=0
 ·rw[bJ (decide_eq_true c)]
  walk_at "rb"
  refine⟨a,6,rfl,⋯,⋯,s1.1,fun r' be r0 r1 s2=>?_⟩
  walk_at "rb"
  have hm:∃C R:Nat,atI [PyData.tuple [.int 10,.int 6],.tuple [.int 6,.int 10],.tuple [.int 60,.int 1],.tuple [.int 1,.int 60],.tuple [.int 12,.int 5],.tuple [.int 7,.int 8]] r'=some (.tuple [.int (C:Nat),.int (R:Nat)])/\0<C/\0<R/\C<=60/\R<=60/\C*R<=60:=by
   obtain⟨v,e,hm⟩:=iO (xs:=[PyData.tuple [.int 10,.int 6],.tuple [.int 6,.int 10],.tuple [.int 60,.int 1],.tuple [.int 1,.int 60],.tuple [.int 12,.int 5],.tuple [.int 7,.int 8]]) r0 (by exact r1)
   simp only[mem_cons,not_mem_nil,or_false] at hm
   rcases hm with rfl|rfl|rfl|rfl|rfl|rfl
   ·exact⟨10,6,e,⋯,⋯,⋯,⋯,⋯⟩
   ·exact⟨6,10,e,⋯,⋯,⋯,⋯,⋯⟩
   ·exact⟨60,1,e,⋯,⋯,⋯,⋯,⋯⟩
   ·exact⟨1,60,e,⋯,⋯,⋯,⋯,⋯⟩
   ·exact⟨12,5,e,⋯,⋯,⋯,⋯,⋯⟩
   ·exact⟨7,8,e,⋯,⋯,⋯,⋯,⋯⟩
  obtain⟨C,R,e,h1,h2,h3,h4,h5⟩:=hm
  rw[e]
  exact q C R be h1 h2 h3 h4 h5 (s1.trans s2)
 rw[bI (by simpa using c)]
 walk_at "rb"
 have two:∀(r1 r2:Int) (U:Mu),0<=r1->r1<6->0<=r2->r2<6->Step a Z U->Qd (.v (.tuple [.int (1+r1),.int (1+r2)])) U:=fun r1 r2 U a0 a1 b0 b1 st=>by
  obtain⟨C,hC⟩:∃C:Nat,1+r1=(C:Int):=⟨(1+r1).toNat,∅⟩
  obtain⟨R,hR⟩:∃R:Nat,1+r2=(R:Int):=⟨(1+r2).toNat,∅⟩
  rw[hC,hR]
  refine q C R U ∅ ∅ ∅ ∅ ?_ st
  have:C*R<=6*6:=mul_le_mul ∅ ∅
  omega
 by_cases c4:r<4
 ·rw[bJ (decide_eq_true c4)]
  walk_at "rb"
  refine⟨a,6,rfl,⋯,⋯,s1.1,fun r1 be r0 r1' s2=>?_⟩
  walk_at "rb"
  refine⟨a,6,rfl,⋯,⋯,s2.1,fun r2 bi r02 r12 s3=>?_⟩
  walk_at "rb"
  exact two r1 r2 bi r0 r1' r02 r12 ((s1.trans s2).trans s3)
 ·rw[bI (by simpa using c4)]
  walk_at "rb"
  refine⟨a,4,rfl,⋯,⋯,s1.1,fun r1 be r0 r1' s2=>?_⟩
  walk_at "rb"
  refine⟨a,4,rfl,⋯,⋯,s2.1,fun r2 bi r02 r12 s3=>?_⟩
  walk_at "rb"
  exact two r1 r2 bi r0 ∅ r02 ∅ ((s1.trans s2).trans s3)
end
structure FZ(d:Int)(xs ys:List N3)(C R:Nat)(qs:List GR.Bx):Prop where
 fx:iH d xs C
 fy:iH d ys R
 c0:0<C
 r0:0<R
 c60:C<=60
 r60:R<=60
 cr:C*R<=60
 bx:∀x∈xs,Six 3600 x
 by_:∀y∈ys,Six 3600 y
 cov:GR.jA qs C R
noncomputable def Drawn(d:Int)(t:PyData):Prop:=∃xs ys C R qs,FZ d xs ys C R qs/\t=i9 (xs.getD C az) (ys.getD R az) (qs.map (kK xs ys))
noncomputable def n8:DSp:=fun ds Z Q=>∃(a:Addr),ds=[.m a]/\Bag Z a/\∀(C R:Nat) qs U,0<C->0<R->C<=4->R<=4->GR.jA qs C R->Step a Z U->Q (.v (.tuple [.int (C:Nat),.int (R:Nat),.list (qs.map bxD)])) U
theorem yB{ds:List D}{Z:Mu}{Q:DK}(h:n8 ds Z Q):ds.length=1:=by obtain⟨_,rfl,_⟩:=h;rfl
noncomputable def pU:DSp:=fun ds Z Q=>∃(a:Addr) (d:Int) (C R:Nat) (qs:List GR.Bx),ds=[.m a,.v (.int d),.v (.int (C:Nat)),.v (.int (R:Nat)),.v (.list (qs.map bxD))]/\aM d/\Bag Z a/\0<C/\0<R/\C<=60/\R<=60/\C*R<=60/\GR.jA qs C R /\
 ∀t U,Drawn d t->nF a Z U->Q (.v t) U
theorem Ca{ds:List D}{Z:Mu}{Q:DK}(h:pU ds Z Q):ds.length=5:=by obtain⟨_,_,_,_,_,rfl,_⟩:=h;rfl
noncomputable def qE:DSp:=fun ds Z Q=>∃(a:Addr) (d:Int),ds=[.m a,.v (.int d)]/\aM d/\Bag Z a/\∀t U,Drawn d t->nF a Z U->Q (.v t) U
theorem Av{ds:List D}{Z:Mu}{Q:DK}(h:qE ds Z Q):ds.length=2:=by obtain⟨_,_,rfl,_⟩:=h;rfl
noncomputable def nV:DTS:=
 (bb (ay ix (ag (ah 0) (ag (ay qL (ag (ah 1) ar)) ar))))
noncomputable def ie:DTS:=
 (aN (ba (aY (ag (dc (dC (.int 1)) (ay bL (ag (ah 0) (ag (dC (.int 2)) ar)))) (ag (dc (dC (.int 1)) (ay bL (ag (ah 0) (ag (dC (.int 2)) ar)))) ar))) (cA 2 (aD (ao 1) (aD (ao 2) cN))))
 (aN (ba (nA (ag (aY (ag (dC (.int 0)) (ag (dC (.int 0)) (ag (dc (ah 1) (dC (.int 1))) (ag (dC (.int 1)) ar))))) (ag (aY (ag (dc (ah 1) (dC (.int 1))) (ag (dC (.int 0)) (ag (dC (.int 1)) (ag (dc (ah 2) (dC (.int 1))) ar))))) (ag (aY (ag (dC (.int 1)) (ag (dc (ah 2) (dC (.int 1))) (ag (dc (ah 1) (dC (.int 1))) (ag (dC (.int 1)) ar))))) (ag (aY (ag (dC (.int 0)) (ag (dC (.int 1)) (ag (dC (.int 1)) (ag (dc (ah 2) (dC (.int 1))) ar))))) (ag (aY (ag (dC (.int 1)) (ag (dC (.int 1)) (ag (ah 1) (ag (ah 2) ar))))) ar)))))) (ao 3))
 (aN (cj (dB (dOp (de false) (ay bL (ag (ah 0) (ag (dC (.int 2)) ar))) (dC (.int 0)))) (ba (ka [none,none,none,none,some 1] (jh (ah 3)) (cA 4 (aD (ao 0) (aD (ao 1) (aD (ao 2) (aD (ao 3) cN))))) jB (aY (ag (mH (mH (dc (ah 4) (dC (.int 2))) (ah 0)) (ah 2)) (ag (ah 1) (ag (ah 2) (ag (ah 3) ar)))))) (ao 3)) bz)
 (bb (aY (ag (dc (ah 1) (dC (.int 2))) (ag (dc (ah 2) (dC (.int 2))) (ag (ah 3) ar))))))))
noncomputable def mh:DTS:=
 (aN (yI 5 6 (ag (ay Cf (ag (ay uo (ag (ah 0) (ag (ah 1) (ag (ah 2) ar)))) ar)) (ag (ay Cf (ag (ay uo (ag (ah 0) (ag (ah 1) (ag (ah 3) ar)))) ar)) ar)))
 (aN (ba (rp ar) (ao 7))
 (aN (o7 (jh (ay uH (ag (ah 0) (ag (ah 4) ar)))) (cA 4 (aD (ao 8) (aD (ao 9) (aD (ao 10) (aD (ao 11) cN))))) (aN (yI 12 13 (ag (ay yG (ag (dOp aQ (ah 5) (dc (ah 8) (ah 10))) (ag (dOp aQ (ah 5) (ah 8)) ar))) (ag (ay yG (ag (dOp aQ (ah 6) (dc (ah 9) (ah 11))) (ag (dOp aQ (ah 6) (ah 9)) ar))) ar)))
 (qx (Gz (ah 7) (aY (ag (dOp aQ (ah 5) (ah 8)) (ag (dOp aQ (ah 6) (ah 9)) (ag (ah 12) (ag (ah 13) ar)))))))))
 (bb (aY (ag (dOp aQ (ah 5) (vB (dC (.int 1)))) (ag (dOp aQ (ah 6) (vB (dC (.int 1)))) (ag (dCB u5 (ag (ah 7) ar)) ar))))))))
noncomputable def kj:DTS:=
 (aN (cj (dB (dOp (de false) (ay bL (ag (ah 0) (ag (dC (.int 5)) ar))) (dC (.int 0)))) (aN (ba (ay n8 (ag (ah 0) ar)) (cA 3 (aD (ao 2) (aD (ao 3) (aD (ao 4) cN)))))
 (bb (ay pU (ag (ah 0) (ag (ah 1) (ag (ah 2) (ag (ah 3) (ag (ah 4) ar)))))))) bz)
 (aN (ba (ay xW (ag (ah 0) ar)) (cA 2 (aD (ao 2) (aD (ao 3) cN))))
 (bb (ay pU (ag (ah 0) (ag (ah 1) (ag (ah 2) (ag (ah 3) (ag (ay yX (ag (ah 0) (ag (ah 2) (ag (ah 3) ar)))) ar)))))))))
section
variable {Z:Mu}{Qd:DK}{ds:List D}
theorem vW{qs:List GR.Bx}{C R:Nat}(h1:qs.all (fun q=>decide (q.l<q.r)&&(decide (q.r<=C)&&(decide (q.b<q.t)&&decide (q.t<=R))))=true)(h2:GR.o6 qs C R=true):GR.jA qs C R:=by
 have f:∀q∈qs,q.l<q.r/\q.r<=C/\q.b<q.t/\q.t<=R:=fun q hq=>by
  have:=List.all_eq_true.mp h1 q hq
  simp only[and_eq_true,decide_eq_true_iff] at this
  exact this
 obtain⟨a,b⟩:=(GR.zK fun q hq=>⟨(f q hq).2.1,(f q hq).2.2.2⟩).mp h2
 exact⟨f,a,b⟩
noncomputable def qsP(a b:Nat):List GR.Bx:=[⟨0,a+1,0,1⟩,⟨a+1,a+2,0,b+1⟩,⟨1,a+2,b+1,b+2⟩,⟨0,1,1,b+2⟩,⟨1,a+1,1,b+1⟩]
noncomputable def mir(A:Nat)(q:GR.Bx):GR.Bx:=⟨A-q.r,A-q.l,q.b,q.t⟩
theorem RG:∀a b:Nat,a=1\/a=2->b=1\/b=2->GR.jA (qsP a b) (a+2) (b+2)/\GR.jA ((qsP a b).map (mir (a+2))) (a+2) (b+2):=by
 rintro a b (rfl|rfl) (rfl|rfl)<;>exact⟨vW ⋯ ⋯,vW ⋯ ⋯⟩
theorem RA{A:Nat}{q:GR.Bx}(h:q.l<q.r/\q.r<=A):PyData.tuple [.int (((A:Nat):Int)-(q.l:Nat)-((q.r-q.l:Nat):Int)),.int (q.b:Nat),.int ((q.r-q.l:Nat):Int),.int ((q.t-q.b:Nat):Int)]=bxD (mir A q):=by
 unfold bxD mir
 dsimp only
 rw[show ((A:Nat):Int)-(q.l:Nat)-((q.r-q.l:Nat):Int)=((A-q.r:Nat):Int) by omega,show A-q.l-(A-q.r)=q.r-q.l by omega]
theorem Cq(h:yG ds Z Qd):nV ‹Qd› (aR ["_law_x","_law_y"] ds) Z:=by
 obtain⟨x,y,rfl,ox,oy,bx,by_,q⟩:=h
 unfold nV
 walk_at "rn"
 refine⟨y,rfl,x,minus y,rfl,ox,i6 oy,bx.mono ⋯,(tP by_).mono ⋯,?_⟩
 have e:plus x (minus y)=less x y:=Rep.eq (dn ox (i6 oy)) (lF ox oy) ((dz ox).plus ox (i6 oy) (dz oy).minus) ((dz ox).less ox oy (dz oy)) (by grind) (by grind)
 rw[e]
 exact q
theorem vU(h:n8 ds Z Qd):ie ‹Qd› (aR ["_law_bag_here","_law_a","_law_b","_law_found"] ds) Z:=by
 obtain⟨a,rfl,hb,q⟩:=h
 unfold ie
 walk_at "rb"
 refine⟨a,2,rfl,⋯,⋯,hb,fun r1 am r10 r11 s1=>?_⟩
 walk_at "rb"
 refine⟨a,2,rfl,⋯,⋯,s1.1,fun r2 be r20 r21 s2=>?_⟩
 have s12:=s1.trans s2
 walk_at "rb"
 obtain⟨A,hA⟩:∃A:Nat,1+r1=(A:Int):=⟨(1+r1).toNat,∅⟩
 obtain⟨B,hB⟩:∃B:Nat,1+r2=(B:Int):=⟨(1+r2).toNat,∅⟩
 rw[hA,hB]
 have A12:A=1\/A=2:=by omega
 have B12:B=1\/B=2:=by omega
 obtain⟨cv1,cv2⟩:=RG A B A12 B12
 refine⟨trivial,?_⟩
 refine⟨a,2,rfl,⋯,⋯,s2.1,fun r3 bi r30 r31 s3=>?_⟩
 have s13:=s12.trans s3
 walk_at "rb"
 have e0:[PyData.tuple [.int 0,.int 0,.int ((A:Nat)+1),.int 1],.tuple [.int ((A:Nat)+1),.int 0,.int 1,.int ((B:Nat)+1)],.tuple [.int 1,.int ((B:Nat)+1),.int ((A:Nat)+1),.int 1],.tuple [.int 0,.int 1,.int 1,.int ((B:Nat)+1)],.tuple [.int 1,.int 1,.int (A:Nat),.int (B:Nat)]]=(qsP A B).map bxD:=by
  rcases A12 with rfl|rfl<;>rcases B12 with rfl|rfl<;>rfl
 rw[e0]
 by_cases c:r3=0
 ·rw[bJ (decide_eq_true c)]
  walk_at "rb"
  rw[nS]
  walk_at "rb"
  refine⟨by rw[length_map];exact (by decide:(5:Nat)<=1000),fun p hp=>⟨fun i acc U=>acc=((qsP A B).take i).map (fun q=>bxD (mir (A+2) q))/\U=aE bi p acc,⟨rfl,rfl⟩,?_,?_⟩⟩
  ·rintro i x acc U hx ha ⟨e1,e2⟩
   obtain⟨b,eb,rfl⟩:=uC hx
   have fb:=cv1.fits b (mem_of_getElem? eb)
   rw[show bxD b = .tuple [.int (b.l:Nat),.int (b.b:Nat),.int ((b.r-b.l:Nat):Int),.int ((b.t-b.b:Nat):Int)] from rfl]
   walk_at "rb"
   simp only[true_and,and_true,↓reduceIte]
   rw[show ((A:Nat):Int)+2=((A+2:Nat):Int) by omega,RA ⟨fb.1,fb.2.1⟩]
   refine⟨ha,?_,?_⟩
   ·rw[e1,take_snoc eb,map_append];rfl
   ·rw[e2,iy]
  ·rintro acc U ⟨e1,e2⟩ ha
   rw[length_map,take_length] at e1
   subst e1
   rw[e2,qR hp]
   have:=q (A+2) (B+2) _ bi ∅ ∅ ∅ ∅ cv2 s13
   rw[map_map] at this
   exact this
 ·rw[bI (by simpa using c)]
  walk_at "rb"
  have:=q (A+2) (B+2) _ bi ∅ ∅ ∅ ∅ cv1 s13
  exact this
theorem Kz{α β:Type}{f:α->β}{zs m:List β}(h:zs.Perm m):∀{qs:List α},m=qs.map f->∃ps:List α,zs=ps.map f/\ps.Perm qs:=by
 induction h with
 |nil=>
  intro qs e
  cases qs with
  |nil=>exact⟨[],rfl,.refl _⟩
  |cons q qs=>cases e
 |cons x h ih=>
  intro qs e
  cases qs with
  |nil=>cases e
  |cons q qs=>
   rw[map_cons] at e
   injection e with e1 e2
   obtain⟨ps,e3,pm⟩:=ih e2
   exact⟨q::ps,by rw[map_cons,e1,e3],pm.cons q⟩
 |swap x y l=>
  intro qs e
  match qs,e with
  |a::b::rest,e=>
   rw[map_cons,map_cons] at e
   injection e with e1 e2
   injection e2 with e2 e3
   exact⟨b::a::rest,by rw[map_cons,map_cons,e1,e2,e3],.swap _ _ _⟩
 |trans h1 h2 ih1 ih2=>
  intro qs e
  obtain⟨ps,e3,pm⟩:=ih2 e
  obtain⟨ps',e4,pm'⟩:=ih1 e3
  exact⟨ps',e4,pm'.trans pm⟩
theorem at_getD{xs:List N3}{i:Nat}(h:i<xs.length):atI (xs.map dN) (i:Int)=some (dN (xs.getD i az)):=by
 rw[getD_at h]
 exact pq (getElem?_eq_getElem h)
theorem Bq{d:Int}{xs:List N3}{C:Nat}(f:iH d xs C):xs.getLast? = some (xs.getD C az):=by
 rw[List.getLast?_eq_getElem?,f.len,Nat.add_sub_cancel,getElem?_eq_getElem (f.at (Nat.le_refl _)),getD_at]
theorem Ax(h:pU ds Z Qd):mh ‹Qd› (aR ["_law_bag_here","_law_d","_law_columns","_law_rows","_law_blocks_here","_law_xs","_law_ys","_law_tiles","_law_column","_law_row","_law_wide","_law_high","_law_width","_law_height"] ds) Z:=by
 obtain⟨a,d,C,R,qs,rfl,hd,hb,c0,r0,c60,r60,cr,cov,q⟩:=h
 unfold mh
 walk_at "rb"
 refine⟨a,d,C,rfl,hd,hb,c60,fun sx am lx gx s1=>?_⟩
 walk_at "rb"
 refine⟨d,sx,rfl,hd,∅,gx,fun xs fx bx=>?_⟩
 rw[lx] at fx
 walk_at "rb"
 refine⟨a,d,R,rfl,hd,s1.1,r60,fun sy be ly gy s2=>?_⟩
 walk_at "rb"
 refine⟨d,sy,rfl,hd,∅,gy,fun ys fy by_=>?_⟩
 rw[ly] at fy
 have s12:=(s1.trans s2).w
 walk_at "rb"
 intro f hf
 have af:=zh s2.1 hf
 rw[jw]
 walk_at "rb"
 have lq:qs.length<=C*R:=wd cov.fits cov.apart
 refine⟨a,_,rfl,s2.1.off af,by rw[length_map];omega,fun zs bi pm s3=>?_⟩
 obtain⟨ps,rfl,pp⟩:=Kz pm rfl
 have covp:=cov.perm pp
 have lp:ps.length=qs.length:=pp.length_eq
 walk_at "rb"
 have keep:∀b,b≠a->∀es,Z b=some es->b≠f/\bi b=some es:=fun b n es e=>by
  have e2:=s12.2 b n es e
  have bf:b≠f:=fun z=>by rw[z,hf] at e2;cases e2
  exact⟨bf,s3.2 b n es (by rw[aW bf];exact e2)⟩
 refine⟨fun i ρ U=>∃r8 r9 r10 r11 r12 r13,ρ=[some (.m a),some (.v (.int d)),some (.v (.int (C:Nat))),some (.v (.int (R:Nat))),some (.v (.list (qs.map bxD))),some (.v (.list (xs.map dN))),some (.v (.list (ys.map dN))),some (.m f),r8,r9,r10,r11,r12,r13]/\Bag U a/\(∀b,b≠a->∀es,Z b=some es->U b=some es)/\U f=some ((ps.take i).map fun q=>tlD (kK xs ys q)),⟨_,_,_,_,_,_,rfl,s3.1,fun b n es e=>(keep b n es e).2,s3.2 f af.symm _ aF⟩,?_,?_⟩
 ·rintro i x ρ U hx ⟨r8,r9,r10,r11,r12,r13,rfl,hb',kp,hf'⟩
  obtain⟨b,eb,rfl⟩:=uC hx
  have hi:i<ps.length:=(List.getElem?_eq_some_iff.mp eb).1
  have fb:=covp.fits b (mem_of_getElem? eb)
  rw[show bxD b = .tuple [.int (b.l:Nat),.int (b.b:Nat),.int ((b.r-b.l:Nat):Int),.int ((b.t-b.b:Nat):Int)] from rfl]
  walk_at "rb"
  rw[show ((b.l:Nat):Int)+((b.r-b.l:Nat):Int)=((b.r:Nat):Int) by omega]
  have g:∀{j},j<=C->Bd 12 (xs.getD j az):=fun h=>by rw[getD_at (fx.at h)];exact y0 (fx.ok _ (getElem_mem _)) (bx _ (getElem_mem _)) ⋯
  have g':∀{j},j<=R->Bd 12 (ys.getD j az):=fun h=>by rw[getD_at (fy.at h)];exact y0 (fy.ok _ (getElem_mem _)) (by_ _ (getElem_mem _)) ⋯
  refine⟨trivial,?_⟩
  rw[at_getD (fx.at (show b.r<=C by omega)),at_getD (fx.at (show b.l<=C by omega))]
  dsimp only
  refine⟨_,_,rfl,fx.cQ ∅,fx.cQ ∅,(g ∅).mono ⋯,(g ∅).mono ⋯,?_⟩
  walk_at "rb"
  rw[show ((b.b:Nat):Int)+((b.t-b.b:Nat):Int)=((b.t:Nat):Int) by omega]
  rw[at_getD (fy.at (show b.t<=R by omega)),at_getD (fy.at (show b.b<=R by omega))]
  dsimp only
  refine⟨_,_,rfl,fy.cQ ∅,fy.cQ ∅,(g' ∅).mono ⋯,(g' ∅).mono ⋯,?_⟩
  walk_at "rb"
  rw[at_getD (fx.at (show b.l<=C by omega)),at_getD (fy.at (show b.b<=R by omega))]
  rw[hf']
  dsimp only
  have lt:(ps.take i).length<=60:=by rw[length_take];omega
  refine⟨by rw[length_map];omega,_,_,_,_,_,_,rfl,hb'.off af,fun c n es e=>?_,?_⟩
  ·rw[aW (keep c n es e).1];exact kp c n es e
  ·rw[aF,take_snoc eb,map_append];rfl
 ·rintro ρ U ⟨r8,r9,r10,r11,r12,r13,rfl,hb',kp,hf'⟩
  rw[length_map,take_length] at hf'
  walk_at "rb"
  rw[pE (Bq fx),pE (Bq fy)]
  walk_at "rb"
  rw[hf']
  dsimp only
  refine q _ U ⟨xs,ys,C,R,ps,⟨fx,fy,c0,r0,c60,r60,cr,bx,by_,covp⟩,?_⟩ ⟨hb',kp⟩
  unfold i9
  rw[map_map]
  rfl
theorem yE(h:qE ds Z Qd):kj ‹Qd› (aR ["_law_bag_here","_law_d","_law_columns","_law_rows","_law_blocks_here"] ds) Z:=by
 obtain⟨a,d,rfl,hd,hb,q⟩:=h
 unfold kj
 walk_at "rb"
 refine⟨a,5,rfl,⋯,⋯,hb,fun r am _ _ s1=>?_⟩
 walk_at "rb"
 by_cases c:r=0
 ·rw[bJ (decide_eq_true c)]
  walk_at "rb"
  refine⟨a,rfl,s1.1,fun C R qs be c0 r0 c4 r4 cov s2=>?_⟩
  walk_at "rb"
  have:C*R<=4*4:=mul_le_mul c4 r4
  refine⟨trivial,a,d,C,R,qs,rfl,hd,s2.1,c0,r0,∅,∅,∅,cov,fun t bi dr s3=>?_⟩
  walk_at "rb"
  exact q t bi dr ((s1.trans s2).w.trans s3)
 ·rw[bI (by simpa using c)]
  walk_at "rb"
  refine⟨a,rfl,s1.1,fun C R be c0 r0 c60 r60 cr s2=>?_⟩
  walk_at "rb"
  refine⟨trivial,a,C,R,rfl,c0,r0,c60,r60,∅,s2.1,fun qs bi cov s3=>?_⟩
  walk_at "rb"
  refine⟨a,d,C,R,qs,rfl,hd,s3.1,c0,r0,c60,r60,cr,cov,fun t dl dr s4=>?_⟩
  walk_at "rb"
  exact q t dl dr (((s1.trans s2).w.trans s3).trans s4)
end
noncomputable def gJ(n:Nat)(t:PyData):Prop:=Few t/\∀x,t=dN x->Bd n x
noncomputable def Dt(z:PyData):Prop:=∀a b c e,z≠.tuple [a,b,c,e]
noncomputable def P2(k:Nat)(ts:List Tl):Prop:=∃X Y:List N3,(∀t∈ts,OnM X Y t)/\X.length<=61+2*k/\Y.length<=61+2*k
noncomputable def xa(k n:Nat)(t:PyData):Prop:=MA t/\∀w h ts,t=i9 w h ts->Bd n w/\Bd n h/\(∀t∈ts,Bd4 n t)/\P2 k ts
structure TOk(t:Tl):Prop where
 x:Ok t.x
 y:Ok t.y
 w:Ok t.w
 h:Ok t.h
structure HB(k n:Nat)(w h:N3)(ts:List Tl):Prop where
 ow:Ok w
 oh:Ok h
 bw:Bd n w
 bh:Bd n h
 ok:∀t∈ts,TOk t
 bd:∀t∈ts,Bd4 n t
 l1:1<=ts.length
 l60:ts.length<=60
 Q0:P2 k ts
noncomputable def fE:DSp:=fun ds Z Q=>∃(xs:List PyData) (i:Int) (y:PyData),ds=[.v (.tuple xs),.v (.int i),.v y]/\xs.length<=200/\∀zs,zs.length<=2*xs.length+1->(∀z∈zs,z∈xs\/z=y)->Q (.v (.tuple zs)) Z
theorem Eh{Z:Mu}{Q:DK}{ds:List D}(h:fE ds Z Q):ds.length=3:=by obtain⟨_,_,_,rfl,_⟩:=h;rfl
noncomputable def jX:DSp:=fun ds Z Q=>∃(a:Addr) (n:Nat) (x:N3),ds=[.m a,.v (dN x)]/\Ok x/\Bd n x/\n<=2000/\Bag Z a/\∀t U,gJ (n+12) t->Step a Z U->Q (.v t) U
theorem AO{Z:Mu}{Q:DK}{ds:List D}(h:jX ds Z Q):ds.length=2:=by obtain⟨_,_,_,rfl,_⟩:=h;rfl
noncomputable def BY:DSp:=fun ds Z Q=>∃(a:Addr) (k n:Nat) (w h:N3) (ts:List Tl),ds=[.m a,.v (i9 w h ts)]/\HB k n w h ts/\n<=2000/\Bag Z a/\∀t U,xa (k+2) n t->Step a Z U->Q (.v t) U
theorem Hq{Z:Mu}{Q:DK}{ds:List D}(h:BY ds Z Q):ds.length=2:=by obtain⟨_,_,_,_,_,_,rfl,_⟩:=h;rfl
noncomputable def mX:DSp:=fun ds Z Q=>∃(a:Addr) (k n:Nat) (w h:N3) (ts:List Tl),ds=[.m a,.v (i9 w h ts)]/\HB k n w h ts/\n<=2000/\Bag Z a/\∀t U,xa (k+1) (n+12) t->Step a Z U->Q (.v t) U
theorem Az{Z:Mu}{Q:DK}{ds:List D}(h:mX ds Z Q):ds.length=2:=by obtain⟨_,_,_,_,_,_,rfl,_⟩:=h;rfl
noncomputable def u0:DSp:=fun ds Z K=>∃(d:Int) (t:PyData),ds=[.v (.int d),.v t]/\aM d/\Gx t/\K (.v (.bool true)) Z
theorem Fu{ds:List D}{Z:Mu}{Q:DK}(h:u0 ds Z Q):ds.length=2:=by obtain⟨_,_,rfl,_⟩:=h;rfl
section
variable {Z:Mu}{Qd:DK}{ds:List D}
theorem gJ.part{n:Nat}{t:PyData}(h:gJ n t)(l:n<=4400):tT t:=⟨h.1,fun x e=>(h.2 x e).mono l⟩
theorem cg{n:Nat}{x:N3}(b:Bd n x):gJ n (dN x):=⟨So,fun y e=>by rw[<- sN e];exact b⟩
theorem OnM.mono{X Y X' Y':List N3}{t:Tl}(h:OnM X Y t)(hx:∀x∈X,x∈X')(hy:∀y∈Y,y∈Y'):OnM X' Y' t:=⟨hx _ h.l,hx _ h.r,hy _ h.b,hy _ h.t⟩
theorem Lx{ts:List Tl}(ys:List PyData):∀{X Y:List N3},(∀t∈ts,OnM X Y t)->∃X' Y':List N3,X'.length<=X.length+2*ys.length/\Y'.length<=Y.length+2*ys.length/\(∀t∈ts,OnM X' Y' t)/\∀u,tlD u∈ys->OnM X' Y' u:=by
 induction ys with
 |nil=>intro X Y on;exact⟨X,Y,Nat.le_refl _,Nat.le_refl _,on,fun u h=>absurd h not_mem_nil⟩
 |cons y ys ih=>
  intro X Y on
  obtain⟨X',Y',lx,ly,on',onu⟩:=ih on
  by_cases c:∃u,y=tlD u
  ·obtain⟨u,rfl⟩:=c
   have mx:∀x∈X',x∈u.x::plus u.x u.w::X':=fun x h=>mem_cons_of_mem _ (mem_cons_of_mem _ h)
   have my:∀x∈Y',x∈u.y::plus u.y u.h::Y':=fun x h=>mem_cons_of_mem _ (mem_cons_of_mem _ h)
   refine⟨u.x::plus u.x u.w::X',u.y::plus u.y u.h::Y',?_,?_,fun t ht=>(on' t ht).mono mx my,fun v hv=>?_⟩
   ·simp only[length_cons];omega
   ·simp only[length_cons];omega
   ·rcases List.mem_cons.mp hv with e|e
    ·rw[DX e]
     exact⟨mem_cons_self,mem_cons_of_mem _ mem_cons_self,mem_cons_self,mem_cons_of_mem _ mem_cons_self⟩
    ·exact (onu v e).mono mx my
  ·refine⟨X',Y',?_,?_,on',fun v hv=>?_⟩
   ·simp only[length_cons];omega
   ·simp only[length_cons];omega
   ·rcases List.mem_cons.mp hv with e|e
    ·exact absurd ⟨v,e.symm⟩ c
    ·exact onu v e
noncomputable def AX(n:Nat)(y:PyData):Prop:=∀a b c e,y = .tuple [a,b,c,e]->gJ n a/\gJ n b/\gJ n c/\gJ n e
theorem Fm{n:Nat}{t:Tl}(h:Bd4 n t):AX n (tlD t):=fun a b c e z=>by
 unfold tlD at z
 simp only[PyData.tuple.injEq,List.cons.injEq,and_true] at z
 obtain⟨rfl,rfl,rfl,rfl⟩:=z
 exact⟨cg h.x,cg h.y,cg h.w,cg h.h⟩
theorem P9{n:Nat}{y:PyData}(h:AX n y){u:Tl}(e:y=tlD u):Bd4 n u:=by
 obtain⟨a,b,c,d⟩:=h _ _ _ _ e
 exact⟨a.2 _ rfl,b.2 _ rfl,c.2 _ rfl,d.2 _ rfl⟩
theorem uB{n:Nat}{y:PyData}(h:Dt y):AX n y:=fun a b c e z=>absurd z (h a b c e)
theorem DQ{k n:Nat}{ts:List Tl}(hn:n<=4400)(g:P2 k ts)(bd:∀t∈ts,Bd4 n t){a b c:PyData}(pa:gJ n a)(pb:gJ n b)(ys:List PyData)(hy:∀y∈ys,AX n y)
  (hc:∀zs,c = .tuple zs->zs.length<=1000/\∀z∈zs,(∃t∈ts,z=tlD t)\/z∈ys\/Dt z):xa (k+ys.length) n (.tuple [a,b,c]):=by
 constructor
 ·intro a' b' c' e
  simp only[PyData.tuple.injEq,List.cons.injEq,and_true] at e
  obtain⟨rfl,rfl,rfl⟩:=e
  refine⟨pa.part hn,pb.part hn,fun zs ez=>⟨(hc zs ez).1,fun z hz=>?_⟩⟩
  have:AX n z:=by
   rcases (hc zs ez).2 z hz with ⟨t,ht,rfl⟩|h|h
   ·exact Fm (bd t ht)
   ·exact hy z h
   ·exact uB h
  exact fun a b c e h=>by
   obtain⟨h1,h2,h3,h4⟩:=this a b c e h
   exact⟨h1.part hn,h2.part hn,h3.part hn,h4.part hn⟩
 ·intro w h us e
  unfold i9 at e
  simp only[PyData.tuple.injEq,List.cons.injEq,and_true] at e
  obtain⟨rfl,rfl,rfl⟩:=e
  have mem:∀u∈us,u∈ts\/tlD u∈ys:=fun u hu=>by
   rcases (hc _ rfl).2 _ (mem_map_of_mem hu) with ⟨t,ht,e⟩|h|h
   ·exact .inl (DX e▸ht)
   ·exact .inr h
   ·exact absurd rfl (h _ _ _ _)
  obtain⟨X,Y,on,lx,ly⟩:=g
  obtain⟨X',Y',lx',ly',on',onu⟩:=Lx ys on
  refine⟨pa.2 _ rfl,pb.2 _ rfl,fun u hu=>?_,X',Y',fun u hu=>?_,∅,∅⟩
  ·rcases mem u hu with z|z
   ·exact bd u z
   ·exact P9 (hy _ z) rfl
  ·rcases mem u hu with z|z
   ·exact on' u z
   ·exact onu u z
theorem zg{k n:Nat}{t:PyData}(h:∀a b c,t≠.tuple [a,b,c]):xa k n t:=⟨fun a b c e=>absurd e (h a b c),fun w k ts e=>absurd e (h _ _ _)⟩
theorem xa.p{k n:Nat}{t:PyData}(h:xa k n t)(hk:k<=10)(hn:n<=2100):Gx t:=by
 refine⟨h.1,fun w k' ts e=>?_⟩
 obtain⟨h1,h2,h3,X,Y,on,lx,ly⟩:=h.2 w k' ts e
 refine⟨h1.mono hn,h2.mono hn,fun t ht=>⟨(h3 t ht).x.mono hn,(h3 t ht).y.mono hn,(h3 t ht).w.mono hn,(h3 t ht).h.mono hn⟩,X,Y,on,∅,∅,?_⟩
 exact le_trans (mul_le_mul (show X.length<=81 by omega) (show Y.length<=81 by omega)) ⋯
theorem xa.v{k n:Nat}{d:Int}{w h:N3}{ts:List Tl}(hq:xa k n (i9 w h ts))(v:wF d w h ts):HB k n w h ts:=by
 obtain⟨h1,h2,h3,g⟩:=hq.2 w h ts rfl
 exact⟨v.ow,v.oh,h1,h2,fun t ht=>⟨(v.tile t ht).ox,(v.tile t ht).oy,(v.tile t ht).ow,(v.tile t ht).oh⟩,h3,v.some,v.few,g⟩
theorem HB.q{k n:Nat}{w h:N3}{ts:List Tl}(v:HB k n w h ts)(hn:n<=4400):xa k n (i9 w h ts):=by
 have:=DQ hn v.Q0 v.bd (c:=.tuple (ts.map tlD)) (cg v.bw) (cg v.bh) [] (fun _ h=>absurd h not_mem_nil) fun zs e=>by
  simp only[PyData.tuple.injEq] at e
  subst e
  have:=v.l60
  exact⟨by rw[length_map];omega,fun z hz=>by
   obtain⟨t,ht,rfl⟩:=List.mem_map.mp hz
   exact .inl ⟨t,ht,rfl⟩⟩
 exact this
theorem FZ.v{d:Int}(hd:aM d){xs ys:List N3}{C R:Nat}{qs:List GR.Bx}(h:FZ d xs ys C R qs):HB 0 13 (xs.getD C az) (ys.getD R az) (qs.map (kK xs ys))/\wF d (xs.getD C az) (ys.getD R az) (qs.map (kK xs ys)):=by
 have sx:∀{j},j<=C->Six 3600 (xs.getD j az):=fun z=>by rw[getD_at (h.fx.at z)];exact h.bx _ (getElem_mem _)
 have gx:∀{j},j<=C->Bd 12 (xs.getD j az):=fun z=>y0 (h.fx.cQ z) (sx z) ⋯
 have sy:∀{j},j<=R->Six 3600 (ys.getD j az):=fun z=>by rw[getD_at (h.fy.at z)];exact h.by_ _ (getElem_mem _)
 have gy:∀{j},j<=R->Bd 12 (ys.getD j az):=fun z=>y0 (h.fy.cQ z) (sy z) ⋯
 have l60:qs.length<=60:=le_trans (wd h.cov.fits h.cov.apart) h.cr
 have l1:1<=qs.length:=by
  obtain⟨q,hq,_⟩:=h.cov.all 0 0 h.c0 h.r0
  exact List.length_pos_of_mem hq
 have tv:∀t∈qs.map (kK xs ys),rE d t:=fun t ht=>by
  obtain⟨q,hq,rfl⟩:=List.mem_map.mp ht
  exact Qt hd h.fx h.fy (h.cov.fits q hq)
 have fv:wF d (xs.getD C az) (ys.getD R az) (qs.map (kK xs ys)):=⟨h.fx.cQ (Nat.le_refl _),h.fy.cQ (Nat.le_refl _),h.fx.pos h.c0,h.fy.pos h.r0,by rw[length_map];exact l1,by rw[length_map];exact l60,tv⟩
 refine⟨⟨fv.ow,fv.oh,(gx (Nat.le_refl _)).mono ⋯,(gy (Nat.le_refl _)).mono ⋯,fun t ht=>⟨(tv t ht).ox,(tv t ht).oy,(tv t ht).ow,(tv t ht).oh⟩,fun t ht=>?_,fv.some,fv.few,xs,ys,fun t ht=>?_,?_,?_⟩,fv⟩
 ·obtain⟨q,hq,rfl⟩:=List.mem_map.mp ht
  have f:=h.cov.fits q hq
  exact⟨(gx ∅).mono ⋯,(gy ∅).mono ⋯,Fs (lF (h.fx.cQ ∅) (h.fx.cQ ∅)) (Fe (h.fx.cQ ∅) (h.fx.cQ ∅) (sx ∅) (sx ∅)) ⋯,Fs (lF (h.fy.cQ ∅) (h.fy.cQ ∅)) (Fe (h.fy.cQ ∅) (h.fy.cQ ∅) (sy ∅) (sy ∅)) ⋯⟩
 ·obtain⟨q,hq,rfl⟩:=List.mem_map.mp ht
  have f:=h.cov.fits q hq
  have mx:∀{j},j<=C->xs.getD j az∈xs:=fun z=>by rw[getD_at (h.fx.at z)];exact getElem_mem _
  have my:∀{j},j<=R->ys.getD j az∈ys:=fun z=>by rw[getD_at (h.fy.at z)];exact getElem_mem _
  refine⟨mx ∅,?_,my ∅,?_⟩
  ·rw[BU (R:=R) h.fx f.1 f.2.1];exact mx ∅
  ·rw[CK (C:=C) h.fy f.2.2.1 f.2.2.2];exact my ∅
 ·have:=h.fx.len;have:=h.c60;omega
 ·have:=h.fy.len;have:=h.r60;omega
theorem Drawn.yes{d:Int}(hd:aM d){t:PyData}{b:Bool}(h:Drawn d t)(l:Lj d t b):b=true:=by
 obtain⟨xs,ys,C,R,qs,g,rfl⟩:=h
 obtain⟨P,Q,mp,mq,rfl⟩:=l.2 _ _ _ rfl (g.v hd).2
 exact Kb hd g.fx g.fy g.c0 g.r0 g.cov mp mq
theorem Md{o:PyData}(h:o∈fw):Dt o:=by
 simp only[fw,mem_cons,not_mem_nil,or_false] at h
 rcases h with rfl|rfl|rfl|rfl|rfl|rfl|rfl|rfl|rfl|rfl|rfl|rfl|rfl|rfl|rfl|rfl|rfl|rfl|rfl|rfl
 all_goals intro a b c e z;first|cases z|simp at z
theorem GJ{o:PyData}(h:o∈fw)(zs:List PyData)(e:o = .tuple zs):zs.length<=1000/\∀z∈zs,Dt z:=by
 have ji:∀i:Int,Dt (.int i):=fun i a b c e z=>by cases z
 have jb:∀i:Bool,Dt (.bool i):=fun i a b c e z=>by cases z
 simp only[fw,mem_cons,not_mem_nil,or_false] at h
 rcases h with rfl|rfl|rfl|rfl|rfl|rfl|rfl|rfl|rfl|rfl|rfl|rfl|rfl|rfl|rfl|rfl|rfl|rfl|rfl|rfl
 all_goals first
  |(cases e;done)
  |(injection e with e;subst e;refine⟨⋯,fun z hz=>?_⟩;first|exact absurd hz not_mem_nil|skip;all_goals (simp only[mem_cons,not_mem_nil,or_false] at hz);all_goals first|(rcases hz with rfl|rfl|rfl<;>first|exact ji _|exact jb _)|(rcases hz with rfl|rfl<;>first|exact ji _|exact jb _))
theorem Eb{k n:Nat}{o:PyData}(h:o∈fw):xa k n o:=by
 have nt:∀w h ts,o≠i9 w h ts:=fun w h' ts e=>by
  unfold i9 at e
  have:=(GJ h _ e).2 (.tuple (ts.map tlD)) (by simp)
  simp only[fw,mem_cons,not_mem_nil,or_false] at h
  rcases h with rfl|rfl|rfl|rfl|rfl|rfl|rfl|rfl|rfl|rfl|rfl|rfl|rfl|rfl|rfl|rfl|rfl|rfl|rfl|rfl
  all_goals first|(cases e;done)|(simp at e;done)|(simp[dN] at e;done)
 refine⟨fun a b c e=>?_,fun w h' ts e=>absurd e (nt w h' ts)⟩
 simp only[fw,mem_cons,not_mem_nil,or_false] at h
 have pi:∀i:Int,tT (.int i):=fun i=>⟨trivial,fun x e=>by unfold dN at e;cases e⟩
 have pb:∀i:Bool,tT (.bool i):=fun i=>⟨trivial,fun x e=>by unfold dN at e;cases e⟩
 rcases h with rfl|rfl|rfl|rfl|rfl|rfl|rfl|rfl|rfl|rfl|rfl|rfl|rfl|rfl|rfl|rfl|rfl|rfl|rfl|rfl
 all_goals first
  |(cases e;done)
  |(simp at e;done)
  |(simp only[PyData.tuple.injEq,List.cons.injEq,and_true] at e;obtain⟨rfl,rfl,rfl⟩:=e;exact⟨by first|exact pi _|exact pb _,by first|exact pi _|exact pb _,fun ts z=>by cases z⟩)
end
noncomputable def ju:DTS:=
 (aN (ba (ay j8 (ag (ah 0) (ag (ah 1) ar))) (ao 2))
 (bb (kE (wx "bool" (ah 2)) (dOp (de false) (ah 2) (ay nB (ag (ah 0) (ag (ah 1) ar)))))))
noncomputable def je:DTS:=
 (bb (dOp lI (dOp lI (dSl (ah 0) iN (oQ (ah 1))) (aY (ag (ah 2) ar))) (dSl (ah 0) (oQ (dOp lI (ah 1) (dC (.int 1)))) iN)))
section
variable {Z:Mu}{Qd:DK}{ds:List D}
theorem xB(h:u0 ds Z Qd):ju ‹Qd› (aR ["_law_d","_law_thing","_law_told"] ds) Z:=by
 obtain⟨d,t,rfl,hd,lp,q⟩:=h
 unfold ju
 walk_at "rb"
 refine⟨d,t,rfl,hd,lp,fun b lb=>?_⟩
 walk_at "rb"
 rw[bJ (show isT "bool" (.bool b)=true from rfl)]
 walk_at "rb"
 refine⟨d,t,rfl,hd,lp,fun b' lb'=>?_⟩
 obtain rfl:=NQ hd lb lb'
 walk_at "rb"
 rw[beq_self_eq_true]
 exact q
theorem mW{α:Type}{xs:List α}{lo hi:Option Int}{x:α}(h:x∈qY xs lo hi):x∈xs:=by
 unfold qY at h
 exact List.mem_of_mem_drop (List.mem_of_mem_take h)
theorem w9(h:fE ds Z Qd):je ‹Qd› (aR ["_law_row","_law_at","_law_thing"] ds) Z:=by
 obtain⟨xs,i,y,rfl,hl,q⟩:=h
 unfold je
 walk_at "rb"
 have l1:=CU xs none (some i)
 have l2:=CU xs (some (i+1)) none
 refine⟨∅,by rw[length_append];simp only[length_cons,length_nil];omega,q _ (by rw[length_append,length_append];simp only[length_cons,length_nil];omega) fun z hz=>?_⟩
 rcases List.mem_append.mp hz with w|w
 ·rcases List.mem_append.mp w with w|w
  ·exact .inl (mW w)
  ·exact .inr (List.mem_singleton.mp w)
 ·exact .inl (mW w)
end
noncomputable def fj:DTS:=
 (aN (ba (ah 1) (cA 3 (aD (ao 2) (aD (ao 3) (aD (ao 4) cN)))))
 (aN (ba (nA (ag (aY (ag (dc (ah 2) (dC (.int 1))) (ag (ah 3) (ag (ah 4) ar)))) (ag (aY (ag (mH (ah 2) (dC (.int 1))) (ag (ah 3) (ag (ah 4) ar)))) (ag (aY (ag (ah 2) (ag (dc (ah 3) (dC (.int 1))) (ag (ah 4) ar)))) (ag (aY (ag (ah 2) (ag (mH (dC (.int 0)) (ah 3)) (ag (ah 4) ar)))) (ag (aY (ag (mH (dC (.int 0)) (ah 2)) (ag (mH (dC (.int 0)) (ah 3)) (ag (ah 4) ar)))) (ag (aY (ag (eI (ah 2) (dC (.int 2))) (ag (eI (ah 3) (dC (.int 2))) (ag (eI (ah 4) (dC (.int 2))) ar)))) (ag (aY (ag (ah 2) (ag (ah 3) (ag (mH (dC (.int 0)) (ah 4)) ar)))) (ag (nA (ag (ah 2) (ag (ah 3) (ag (ah 4) ar)))) (ag (aY (ag (ah 2) (ag (ah 3) ar))) (ag (aY (ag (ah 2) (ag (ah 3) (ag (ah 4) (ag (dC (.int 1)) ar))))) (ag (aY (ag (dC (.int 0)) (ag (dC (.int 0)) (ag (dC (.int 1)) ar)))) (ag (ay ix (ag (ah 1) (ag (aY (ag (dC (.int 1)) (ag (dC (.int 0)) (ag (dC (.int 1000)) ar)))) ar))) (ag (ay eK (ag (ah 2) (ag (ah 3) (ag (dc (ah 4) (dC (.int 1))) ar)))) (ag (ay eK (ag (eI (ah 2) (dC (.int 2))) (ag (eI (ah 3) (dC (.int 2))) (ag (ah 4) ar)))) (ag (ay Bs (ag (ah 0) ar)) (ag (aY (ag (ah 2) (ag (ah 3) (ag (dC (.bool true)) ar)))) ar))))))))))))))))) (ao 5))
 (bb (dOp aQ (ah 5) (ay bL (ag (ah 0) (ag (dC (.int 16)) ar)))))))
noncomputable def gO:DTS:=
 (aN (ba (ah 1) (cA 3 (aD (ao 2) (aD (ao 3) (aD (ao 4) cN)))))
 (aN (yI 5 6 (ag (ay bL (ag (ah 0) (ag (dCB da (ag (ah 4) ar)) ar))) (ag (ay bL (ag (ah 0) (ag (dCB da (ag (ah 4) ar)) ar))) ar)))
 (aN (yI 7 8 (ag (dOp aQ (ah 4) (ah 5)) (ag (dOp aQ (ah 4) (ah 6)) ar)))
 (aN (ba (ay fE (ag (ah 4) (ag (ah 5) (ag (aY (ag (dOp aQ (ah 8) (dC (.int 0))) (ag (dOp aQ (ah 8) (dC (.int 1))) (ag (dOp aQ (ah 7) (dC (.int 2))) (ag (dOp aQ (ah 7) (dC (.int 3))) ar))))) ar)))) (ao 9))
 (aN (cj (dB (dOp (de true) (ah 5) (ah 6))) (ba (ay fE (ag (ah 9) (ag (ah 6) (ag (aY (ag (dOp aQ (ah 7) (dC (.int 0))) (ag (dOp aQ (ah 7) (dC (.int 1))) (ag (dOp aQ (ah 8) (dC (.int 2))) (ag (dOp aQ (ah 8) (dC (.int 3))) ar))))) ar)))) (ao 9)) bz)
 (bb (aY (ag (ah 2) (ag (ah 3) (ag (ah 9) ar))))))))))
noncomputable def hJ:DTS:=
 (aN (ba (dOp aQ (ah 4) (ah 6)) (cA 4 (aD (ao 10) (aD (ao 11) (aD (ao 12) (aD (ao 13) cN))))))
 (aN (ba (nA (ag (aY (ag (ah 2) (ag (ah 3) (ag (ay fE (ag (ah 4) (ag (ah 6) (ag (aY (ag (ah 10) (ag (ah 11) (ag (ah 13) (ag (ah 12) ar))))) ar)))) ar)))) (ag (aY (ag (ah 3) (ag (ah 2) (ag (ah 4) ar)))) (ag (aY (ag (ah 2) (ag (ah 3) (ag (ay fE (ag (ah 4) (ag (ah 6) (ag (aY (ag (ah 11) (ag (ah 10) (ag (ah 12) (ag (ah 13) ar))))) ar)))) ar)))) (ag (aY (ag (ah 2) (ag (ah 3) (ag (dCB vn (ag (ah 4) ar)) ar)))) (ag (ah 7) (ag (nA (ag (ah 2) (ag (ah 3) (ag (ah 4) ar)))) (ag (aY (ag (ah 2) (ag (ah 3) (ag (ay fE (ag (ah 4) (ag (ah 6) (ag (ah 7) ar)))) ar)))) (ag (aY (ag (ah 2) (ag (ah 3) (ag (ay fE (ag (ah 4) (ag (ah 6) (ag (dCB vn (ag (dOp aQ (ah 4) (ah 6)) ar)) ar)))) ar)))) (ag (aY (ag (ah 2) (ag (ah 3) ar))) (ag (aY (ag (ah 2) (ag (ah 3) (ag (ah 4) (ag (aY ar) ar))))) (ag (aY (ag (ah 2) (ag (ah 3) (ag (ah 7) ar)))) (ag (aY (ag (ah 2) (ag (ah 3) (ag (aY ar) ar)))) (ag (aY (ag (ah 2) (ag (ah 3) (ag (dOp lI (dSl (ah 4) (oQ (ah 6)) iN) (dSl (ah 4) iN (oQ (ah 6)))) ar)))) (ag (aY (ag (ah 2) (ag (ah 3) (ag (ay fE (ag (ah 4) (ag (ah 6) (ag (aY (ag (ah 10) (ag (ah 11) (ag (ah 12) ar)))) ar)))) ar)))) ar))))))))))))))) (ao 14))
 (bb (dOp aQ (ah 14) (ay bL (ag (ah 0) (ag (dC (.int 14)) ar)))))))
noncomputable def hW:DTS:=
 (aN (cj (dB (dOp (de false) (ah 5) (dC (.int 10)))) (bb (aY (ag (ah 2) (ag (ah 3) (ag (dOp lI (dOp lI (dSl (ah 4) iN (oQ (ah 6))) (dSl (ah 4) (oQ (ah 6)) (oQ (dOp lI (ah 6) (dC (.int 1)))))) (dSl (ah 4) (oQ (ah 6)) iN)) ar))))) bz)
 (hJ))
noncomputable def hU:DTS:=
 (aN (cj (dB (dOp (de false) (ah 5) (dC (.int 9)))) (bb (aY (ag (ah 2) (ag (ah 3) (ag (dOp lI (dSl (ah 4) iN (oQ (ah 6))) (dSl (ah 4) (oQ (dOp lI (ah 6) (dC (.int 1)))) iN)) ar))))) bz)
 (hW))
noncomputable def hV:DTS:=
 (aN (cj (dB (dOp (de false) (ah 5) (dC (.int 8)))) (bb (aY (ag (ah 2) (ag (ay jX (ag (ah 0) (ag (ah 3) ar))) (ag (ah 4) ar))))) bz)
 (hU))
noncomputable def hX:DTS:=
 (aN (cj (dB (dOp (de false) (ah 5) (dC (.int 7)))) (bb (aY (ag (ay jX (ag (ah 0) (ag (ah 2) ar))) (ag (ah 3) (ag (ah 4) ar))))) bz)
 (hV))
noncomputable def fe:DTS:=
 (aN (ba (ah 1) (cA 3 (aD (ao 2) (aD (ao 3) (aD (ao 4) cN)))))
 (aN (ba (ay bL (ag (ah 0) (ag (dC (.int 16)) ar))) (ao 5))
 (aN (ba (ay bL (ag (ah 0) (ag (dCB da (ag (ah 4) ar)) ar))) (ao 6))
 (aN (ba (ay Bs (ag (ah 0) ar)) (ao 7))
 (aN (cj (dB (dOp rLt (ah 5) (dC (.int 7)))) (aN (ba (ay bL (ag (ah 0) (ag (dC (.int 4)) ar))) (ao 8))
 (aN (ba (ay fE (ag (dOp aQ (ah 4) (ah 6)) (ag (ah 8) (ag (ay jX (ag (ah 0) (ag (dOp aQ (dOp aQ (ah 4) (ah 6)) (ah 8)) ar))) ar)))) (ao 9))
 (bb (aY (ag (ah 2) (ag (ah 3) (ag (ay fE (ag (ah 4) (ag (ah 6) (ag (ah 9) ar)))) ar))))))) bz)
 (hX))))))
section
variable {Z:Mu}{Qd:DK}{ds:List D}
theorem uQ{n:Nat}{t:PyData}(f:Few t)(h:∀x,t≠dN x):gJ n t:=⟨f,fun x e=>absurd e (h x)⟩
theorem K5{n:Nat}:Sz (n+1) 1:=(Sz.of (n:=1) ⋯).mono ∅
theorem JN{n:Nat}{o:PyData}(h:o∈fw):gJ (n+12) o:=by
 have nb:∀{a b c:Int},a.natAbs<4->b.natAbs<4->c.natAbs<4->gJ (n+12) (.tuple [.int a,.int b,.int c]):=fun {a b c} ha hb hc=>cg (x:=⟨a,b,c⟩) ((show Bd 2 ⟨a,b,c⟩ from ⟨Sz.of ha,Sz.of hb,Sz.of hc⟩).mono ∅)
 simp only[fw,mem_cons,not_mem_nil,or_false] at h
 rcases h with rfl|rfl|rfl|rfl|rfl|rfl|rfl|rfl|rfl|rfl|rfl|rfl|rfl|rfl|rfl|rfl|rfl|rfl|rfl|rfl
 all_goals first|exact nb ⋯ ⋯ ⋯|exact⟨by simp[Few],fun x e=>by unfold dN at e;cases e⟩|exact⟨by simp[Few],fun x e=>by unfold dN at e;simp at e⟩
theorem rf(h:jX ds Z Qd):fj ‹Qd› (aR ["_law_bag_here","_law_x","_law_a","_law_b","_law_c","_law_some"] ds) Z:=by
 obtain⟨a,n,x,rfl,ox,bx,hn,hb,q⟩:=h
 unfold fj
 walk_at "rb"
 have ex:dN x = .tuple [.int x.a,.int x.b,.int x.c]:=rfl
 rw[ex]
 walk_at "rb"
 have m2:∀{i:Int},Sz n i->Sz (n+12) (i*2):=fun h=>((h.mul (Sz.of (n:=2) (i:=2) ⋯))).mono ∅
 have ad:∀{i:Int},Sz n i->Sz (n+12) (i+1):=fun h=>((h.mono (show n<=n+1 by omega)).add K5).mono ∅
 have sb:∀{i:Int},Sz n i->Sz (n+12) (i-1):=fun h=>((h.mono (show n<=n+1 by omega)).sub K5).mono ∅
 have ng:∀{i:Int},Sz n i->Sz (n+12) (0-i):=fun h=>by rw[Int.zero_sub];exact h.neg.mono ∅
 have mo:∀{i:Int},Sz n i->Sz (n+12) i:=fun h=>h.mono ∅
 have mk:∀{i:Int},Sz n i->IntMulOk i 2:=fun h=>oP h (Sz.of (n:=2) ⋯) ∅
 have ok:Ok ⟨1,0,1000⟩:=⟨⋯,⋯⟩
 have bk:Bd 10 ⟨1,0,1000⟩:=⟨Sz.of ⋯,Sz.of ⋯,Sz.of ⋯⟩
 refine⟨trivial,mk bx.a,mk bx.b,mk bx.c,x,⟨1,0,1000⟩,rfl,ox,ok,bx.mono ∅,bk.mono ⋯,?_⟩
 have bp:Bd (n+12) (plus x ⟨1,0,1000⟩):=(qP ox ok bx bk).mono ∅
 generalize plus x ⟨1,0,1000⟩=x1 at bp
 walk_at "rb"
 have c0:=ox.c
 refine⟨_,_,_,rfl,∅,(ad bx.c).mono ∅,?_⟩
 have b2:Bd (n+12) (low x.a x.b (x.c+1)):=vG ∅ (mo bx.a) (mo bx.b) (ad bx.c)
 generalize low x.a x.b (x.c+1)=x2 at b2
 walk_at "rb"
 refine⟨mk bx.a,mk bx.b,_,_,_,rfl,∅,bx.c.mono ∅,?_⟩
 have b3:Bd (n+12) (low (x.a*2) (x.b*2) x.c):=vG ∅ (m2 bx.a) (m2 bx.b) (mo bx.c)
 generalize low (x.a*2) (x.b*2) x.c=x3 at b3
 walk_at "rb"
 refine⟨a,rfl,hb,fun o am ho s1=>?_⟩
 walk_at "rb"
 refine⟨a,16,rfl,⋯,⋯,s1.1,fun r be r0 r1 s2=>?_⟩
 walk_at "rb"
 obtain⟨v,ev,hv⟩:=iO (xs:=[dN ⟨x.a+1,x.b,x.c⟩,dN ⟨x.a-1,x.b,x.c⟩,dN ⟨x.a,x.b+1,x.c⟩,dN ⟨x.a,0-x.b,x.c⟩,dN ⟨0-x.a,0-x.b,x.c⟩,dN ⟨x.a*2,x.b*2,x.c*2⟩,dN ⟨x.a,x.b,0-x.c⟩,.list [.int x.a,.int x.b,.int x.c],.tuple [.int x.a,.int x.b],.tuple [.int x.a,.int x.b,.int x.c,.int 1],dN ⟨0,0,1⟩,dN x1,dN x2,dN x3,o,.tuple [.int x.a,.int x.b,.bool true]]) r0 (by exact r1)
 have pv:gJ (n+12) v:=by
  simp only[mem_cons,not_mem_nil,or_false] at hv
  rcases hv with rfl|rfl|rfl|rfl|rfl|rfl|rfl|rfl|rfl|rfl|rfl|rfl|rfl|rfl|rfl|rfl
  ·exact cg ⟨ad bx.a,mo bx.b,mo bx.c⟩
  ·exact cg ⟨sb bx.a,mo bx.b,mo bx.c⟩
  ·exact cg ⟨mo bx.a,ad bx.b,mo bx.c⟩
  ·exact cg ⟨mo bx.a,ng bx.b,mo bx.c⟩
  ·exact cg ⟨ng bx.a,ng bx.b,mo bx.c⟩
  ·exact cg ⟨m2 bx.a,m2 bx.b,m2 bx.c⟩
  ·exact cg ⟨mo bx.a,mo bx.b,ng bx.c⟩
  ·exact uQ trivial fun x e=>by unfold dN at e;cases e
  ·exact uQ (by simp[Few]) fun x e=>by unfold dN at e;simp at e
  ·exact uQ (by simp[Few]) fun x e=>by unfold dN at e;simp at e
  ·exact cg ((show Bd 2 ⟨0,0,1⟩ from ⟨Sz.of ⋯,Sz.of ⋯,Sz.of ⋯⟩).mono ∅)
  ·exact cg bp
  ·exact cg b2
  ·exact cg b3
  ·exact JN ho
  ·exact uQ (by simp[Few]) fun x e=>by unfold dN at e;simp at e
 rw[ev]
 exact q v be pv (s1.trans s2)
theorem GZ{ts:List Tl}{z:PyData}(h:z∈ts.map tlD):∃t∈ts,z=tlD t:=by
 obtain⟨t,ht,rfl⟩:=List.mem_map.mp h
 exact⟨t,ht,rfl⟩
theorem MI{ts:List Tl}{r:Int}(r0:0<=r)(r1:r<((ts.map tlD).length:Nat)):∃t∈ts,atI (ts.map tlD) r=some (.tuple [dN t.x,dN t.y,dN t.w,dN t.h]):=by
 obtain⟨v,e,hm⟩:=iO r0 r1
 obtain⟨t,ht,rfl⟩:=GZ hm
 exact⟨t,ht,e⟩
theorem IT{n:Nat}{x y z w:N3}(hx:Bd n x)(hy:Bd n y)(hz:Bd n z)(hw:Bd n w):AX n (.tuple [dN x,dN y,dN z,dN w]):=Fm (t:=⟨x,y,z,w⟩) ⟨hx,hy,hz,hw⟩
theorem uA(h:BY ds Z Qd):gO ‹Qd› (aR ["_law_bag_here","_law_laying_here","_law_width","_law_height","_law_tiles","_law_i","_law_j","_law_one","_law_other","_law_some"] ds) Z:=by
 obtain⟨a,k,n,w,h,ts,rfl,v,hn,hb,q⟩:=h
 have l1:=v.l1
 have l60:=v.l60
 have lm:(ts.map tlD).length=ts.length:=length_map _
 unfold gO i9
 walk_at "rb"
 refine⟨trivial,a,_,rfl,∅,∅,hb,fun i am i0 i1 s1=>?_⟩
 walk_at "rb"
 refine⟨a,_,rfl,∅,∅,s1.1,fun j be j0 j1 s2=>?_⟩
 obtain⟨t,ht,et⟩:=MI i0 i1
 obtain⟨u,hu,eu⟩:=MI j0 j1
 have bt:=v.bd t ht
 have bu:=v.bd u hu
 walk_at "rb"
 rw[et]
 walk_at "rb"
 rw[eu]
 walk_at "rb"
 refine⟨ts.map tlD,i,_,rfl,∅,fun zs lz mz=>?_⟩
 walk_at "rb"
 have n1:AX n (.tuple [dN u.x,dN u.y,dN t.w,dN t.h]):=IT bu.x bu.y bt.w bt.h
 have n2:AX n (.tuple [dN t.x,dN t.y,dN u.w,dN u.h]):=IT bt.x bt.y bu.w bu.h
 have fin:∀zs':List PyData,zs'.length<=1000->(∀z∈zs',z∈zs\/z = .tuple [dN t.x,dN t.y,dN u.w,dN u.h])->Qd (.v (.tuple [dN w,dN h,.tuple zs'])) be:=fun zs' lz' mz'=>by
  refine q _ be ?_ (s1.trans s2)
  refine DQ ∅ v.Q0 v.bd (cg v.bw) (cg v.bh) [.tuple [dN u.x,dN u.y,dN t.w,dN t.h],.tuple [dN t.x,dN t.y,dN u.w,dN u.h]] (fun y hy=>?_) fun zs2 e=>?_
  ·simp only[mem_cons,not_mem_nil,or_false] at hy
   rcases hy with rfl|rfl
   ·exact n1
   ·exact n2
  ·simp only[PyData.tuple.injEq] at e
   subst e
   refine⟨lz',fun z hz=>?_⟩
   rcases mz' z hz with g|g
   ·rcases mz z g with g|g
    ·exact .inl (GZ g)
    ·exact .inr (.inl (by rw[g];exact mem_cons_self))
   ·exact .inr (.inl (by rw[g];exact mem_cons_of_mem _ mem_cons_self))
 by_cases c:i=j
 ·rw[bI (by simp[c])]
  walk_at "rb"
  exact fin zs ∅ fun z hz=>.inl hz
 ·rw[bJ (by simp[c])]
  walk_at "rb"
  refine⟨zs,j,_,rfl,∅,fun zs' lz' mz'=>?_⟩
  walk_at "rb"
  exact fin zs' ∅ mz'
theorem qZ(h:mX ds Z Qd):fe ‹Qd› (aR ["_law_bag_here","_law_laying_here","_law_width","_law_height","_law_tiles","_law_way","_law_at","_law_odd_here","_law_place","_law_tile","_law_x","_law_y","_law_w","_law_h","_law_some"] ds) Z:=by
 obtain⟨a,k,n,w,h,ts,rfl,v,hn,hb,q⟩:=h
 have l1:=v.l1
 have l60:=v.l60
 have lm:(ts.map tlD).length=ts.length:=length_map _
 unfold fe i9
 walk_at "rb"
 refine⟨trivial,a,16,rfl,⋯,⋯,hb,fun way am way0 way1 s1=>?_⟩
 walk_at "rb"
 refine⟨a,_,rfl,∅,∅,s1.1,fun i be i0 i1 s2=>?_⟩
 obtain⟨t,ht,et⟩:=MI i0 i1
 have bt:=v.bd t ht
 have ot:=v.ok t ht
 walk_at "rb"
 refine⟨a,rfl,s2.1,fun o bi ho s3=>?_⟩
 have s13:=(s1.trans s2).trans s3
 walk_at "rb"
 have bd':∀t∈ts,Bd4 (n+12) t:=fun t ht=>⟨(v.bd t ht).x.mono ∅,(v.bd t ht).y.mono ∅,(v.bd t ht).w.mono ∅,(v.bd t ht).h.mono ∅⟩
 have pw:gJ (n+12) (dN w):=cg (v.bw.mono ∅)
 have ph:gJ (n+12) (dN h):=cg (v.bh.mono ∅)
  /- with one new tile -/
 have one:∀(a b c y:PyData) (U:Mu),gJ (n+12) a->gJ (n+12) b->AX (n+12) y->(∀zs,c = .tuple zs->zs.length<=1000/\∀z∈zs,z∈ts.map tlD\/z=y\/Dt z)->xa (k+1) (n+12) (.tuple [a,b,c]):=fun a b c y U ha hb hy hc=>by
  refine DQ ∅ v.Q0 bd' ha hb [y] (fun y' hy'=>by rw[List.mem_singleton.mp hy'];exact hy) fun zs e=>?_
  obtain⟨lz,mz⟩:=hc zs e
  refine⟨lz,fun z hz=>?_⟩
  rcases mz z hz with g|g|g
  ·exact .inl (GZ g)
  ·exact .inr (.inl (by rw[g];exact mem_cons_self))
  ·exact .inr (.inr g)
 have whole:∀zs,PyData.tuple (ts.map tlD) = .tuple zs->zs.length<=1000/\∀z∈zs,z∈ts.map tlD\/z = .none\/Dt z:=fun zs e=>by
  simp only[PyData.tuple.injEq] at e
  subst e
  exact⟨∅,fun z hz=>.inl hz⟩
 have nn:AX (n+12) .none:=fun a b c e z=>by cases z
 by_cases c7:way<7
 ·rw[bJ (decide_eq_true c7)]
  walk_at "rb"
  refine⟨a,4,rfl,⋯,⋯,s3.1,fun p dl p0 p1 s4=>?_⟩
  walk_at "rb"
  rw[et]
  walk_at "rb"
  obtain⟨x,ex,ox,bx⟩:∃x,atI [dN t.x,dN t.y,dN t.w,dN t.h] p=some (dN x)/\Ok x/\Bd n x:=by
   obtain⟨z,ez,hz⟩:=iO (xs:=[dN t.x,dN t.y,dN t.w,dN t.h]) p0 (by exact p1)
   simp only[mem_cons,not_mem_nil,or_false] at hz
   rcases hz with rfl|rfl|rfl|rfl
   ·exact⟨_,ez,ot.x,bt.x⟩
   ·exact⟨_,ez,ot.y,bt.y⟩
   ·exact⟨_,ez,ot.w,bt.w⟩
   ·exact⟨_,ez,ot.h,bt.h⟩
  rw[ex]
  walk_at "rb"
  refine⟨a,n,x,rfl,ox,bx,hn,s4.1,fun bn jp pbn s5=>?_⟩
  walk_at "rb"
  refine⟨_,p,bn,rfl,(by decide:(4:Nat)<=200),fun zs lz mz=>?_⟩
  walk_at "rb"
  refine⟨ts.map tlD,i,_,rfl,∅,fun zs2 lz2 mz2=>?_⟩
  walk_at "rb"
  refine q _ jp (one _ _ _ (.tuple zs) jp pw ph ?_ fun zs' e=>?_) ((s13.trans s4).trans s5)
  ·have pz:∀z∈zs,gJ (n+12) z:=fun z hz=>by
    rcases mz z hz with g|g
    ·simp only[mem_cons,not_mem_nil,or_false] at g
     rcases g with rfl|rfl|rfl|rfl
     ·exact cg (bt.x.mono ∅)
     ·exact cg (bt.y.mono ∅)
     ·exact cg (bt.w.mono ∅)
     ·exact cg (bt.h.mono ∅)
    ·rw[g];exact pbn
   intro a b c e z
   simp only[PyData.tuple.injEq] at z
   subst z
   exact⟨pz a (by simp),pz b (by simp),pz c (by simp),pz e (by simp)⟩
  ·simp only[PyData.tuple.injEq] at e
   subst e
   exact⟨∅,fun z hz=>(mz2 z hz).imp_right .inl⟩
 rw[bI (by simpa using c7)]
 walk_at "rb"
 unfold hX
 walk_at "rb"
 by_cases c8:way=7
 ·rw[bJ (decide_eq_true c8)]
  walk_at "rb"
  refine⟨a,n,w,rfl,v.ow,v.bw,hn,s3.1,fun bn dl pbn s4=>?_⟩
  walk_at "rb"
  exact q _ dl (one _ _ _ .none dl pbn ph nn whole) (s13.trans s4)
 rw[bI (by simpa using c8)]
 walk_at "rb"
 unfold hV
 walk_at "rb"
 by_cases c9:way=8
 ·rw[bJ (decide_eq_true c9)]
  walk_at "rb"
  refine⟨a,n,h,rfl,v.oh,v.bh,hn,s3.1,fun bn dl pbn s4=>?_⟩
  walk_at "rb"
  exact q _ dl (one _ _ _ .none dl pw pbn nn whole) (s13.trans s4)
 rw[bI (by simpa using c9)]
 walk_at "rb"
 unfold hU
 walk_at "rb"
 have lc:∀lo hi,(qY (ts.map tlD) lo hi).length<=60:=fun lo hi=>le_trans (CU _ lo hi) ∅
 by_cases c10:way=9
 ·rw[bJ (decide_eq_true c10)]
  walk_at "rb"
  have a1:=lc none (some i)
  have a2:=lc (some (i+1)) none
  refine⟨∅,q _ bi (one _ _ _ .none bi pw ph nn fun zs e=>?_) s13⟩
  simp only[PyData.tuple.injEq] at e
  subst e
  refine⟨by rw[length_append];omega,fun z hz=>.inl ?_⟩
  rcases List.mem_append.mp hz with g|g<;>exact mW g
 rw[bI (by simpa using c10)]
 walk_at "rb"
 unfold hW
 walk_at "rb"
 by_cases c11:way=10
 ·rw[bJ (decide_eq_true c11)]
  walk_at "rb"
  have a1:=lc none (some i)
  have a2:=lc (some i) (some (i+1))
  have a3:=lc (some i) none
  refine⟨∅,by rw[length_append];omega,q _ bi (one _ _ _ .none bi pw ph nn fun zs e=>?_) s13⟩
  simp only[PyData.tuple.injEq] at e
  subst e
  refine⟨by rw[length_append,length_append];omega,fun z hz=>.inl ?_⟩
  rcases List.mem_append.mp hz with g|g
  ·rcases List.mem_append.mp g with g|g<;>exact mW g
  ·exact mW g
 rw[bI (by simpa using c11)]
 walk_at "rb"
 unfold hJ
 walk_at "rb"
 rw[et]
 walk_at "rb"
 have tup:∀(zs:List PyData) (y:PyData),zs.length<=2*(ts.map tlD).length+1->(∀z∈zs,z∈ts.map tlD\/z=y)->∀zs',PyData.tuple zs = .tuple zs'->zs'.length<=1000/\∀z∈zs',z∈ts.map tlD\/z=y\/Dt z:=fun zs y lz mz zs' e=>by
  simp only[PyData.tuple.injEq] at e
  subst e
  exact⟨∅,fun z hz=>(mz z hz).imp_right .inl⟩
 refine⟨trivial,ts.map tlD,i,_,rfl,∅,fun z1 lz1 mz1=>?_⟩
 walk_at "rb"
 refine⟨ts.map tlD,i,_,rfl,∅,fun z2 lz2 mz2=>?_⟩
 walk_at "rb"
 refine⟨ts.map tlD,i,_,rfl,∅,fun z3 lz3 mz3=>?_⟩
 walk_at "rb"
 rw[et]
 walk_at "rb"
 refine⟨ts.map tlD,i,_,rfl,∅,fun z4 lz4 mz4=>?_⟩
 walk_at "rb"
 have a1:=lc none (some i)
 have a3:=lc (some i) none
 refine⟨∅,?_⟩
 refine⟨ts.map tlD,i,_,rfl,∅,fun z5 lz5 mz5=>?_⟩
 walk_at "rb"
 refine⟨a,14,rfl,⋯,⋯,s3.1,fun r dl r0 r1 s4=>?_⟩
 have s14:=s13.trans s4
 walk_at "rb"
 obtain⟨z,ez,hz⟩:=iO (xs:=[PyData.tuple [dN w,dN h,.tuple z1],.tuple [dN h,dN w,.tuple (ts.map tlD)],.tuple [dN w,dN h,.tuple z2],.tuple [dN w,dN h,.list (ts.map tlD)],o,.list [dN w,dN h,.tuple (ts.map tlD)],.tuple [dN w,dN h,.tuple z3],.tuple [dN w,dN h,.tuple z4],.tuple [dN w,dN h],.tuple [dN w,dN h,.tuple (ts.map tlD),.tuple []],.tuple [dN w,dN h,o],.tuple [dN w,dN h,.tuple []],.tuple [dN w,dN h,.tuple (qY (ts.map tlD) (some i) none++qY (ts.map tlD) none (some i))],.tuple [dN w,dN h,.tuple z5]]) r0 (by exact r1)
 rw[ez]
 refine q z dl ?_ s14
 have b4:=bd' t ht
 simp only[mem_cons,not_mem_nil,or_false] at hz
 rcases hz with rfl|rfl|rfl|rfl|rfl|rfl|rfl|rfl|rfl|rfl|rfl|rfl|rfl|rfl
 ·exact one _ _ _ _ dl pw ph (IT b4.x b4.y b4.h b4.w) (tup z1 _ lz1 mz1)
 ·exact one _ _ _ .none dl ph pw nn whole
 ·exact one _ _ _ _ dl pw ph (IT b4.y b4.x b4.w b4.h) (tup z2 _ lz2 mz2)
 ·exact one _ _ _ .none dl pw ph nn fun zs e=>by cases e
 ·exact Eb ho
 ·exact zg fun a b c e=>by cases e
 ·exact one _ _ _ _ dl pw ph (uB (Md ho)) (tup z3 _ lz3 mz3)
 ·exact one _ _ _ _ dl pw ph (uB fun a b c e z=>by cases z) (tup z4 _ lz4 mz4)
 ·exact zg fun a b c e=>by simp at e
 ·exact zg fun a b c e=>by simp at e
 ·exact one _ _ _ .none dl pw ph nn fun zs e=>⟨(GJ ho zs e).1,fun z hz=>.inr (.inr ((GJ ho zs e).2 z hz))⟩
 ·exact one _ _ _ .none dl pw ph nn fun zs e=>by
   simp only[PyData.tuple.injEq] at e
   subst e
   exact⟨⋯,fun z hz=>absurd hz not_mem_nil⟩
 ·refine one _ _ _ .none dl pw ph nn fun zs e=>?_
  simp only[PyData.tuple.injEq] at e
  subst e
  refine⟨by rw[length_append];omega,fun z hz=>.inl ?_⟩
  rcases List.mem_append.mp hz with g|g<;>exact mW g
 ·exact one _ _ _ _ dl pw ph (uB fun a b c e z=>by simp at z) (tup z5 _ lz5 mz5)
end
noncomputable def He:DTS:=
 (aN (o7 (p6 (ag (dCB (CY max) (ag (dC (.int 2)) (ag (dCB (CY min) (ag (dC (.int 4)) (ag (dCB da (ag (ah 0) ar)) ar))) ar))) ar)) (ao 1) (aN (ba (ay HW (ag (ah 0) (ag (ah 1) ar))) (ao 2))
 (aN (ba (aY (ag (ay ue (ag (ah 2) ar)) (ag (ay ue (ag (ah 2) ar)) ar))) (cA 2 (aD (ao 3) (aD (ao 4) cN))))
 (aN (ba (ay qE (ag (ah 2) (ag (ah 3) ar))) (ao 5))
 (aN (cj (ip (dB (dOp vb (ay j8 (ag (ah 3) (ag (ah 5) ar))) (dC (.bool true)))) (dS (dB (ay u0 (ag (ah 4) (ag (ah 5) ar)))))) (bb (dC (.bool false))) bz)
 (aN (ba (rp (ag (ay BY (ag (ah 2) (ag (ah 5) ar))) (ag (ay Bs (ag (ah 2) ar)) ar))) (ao 6))
 (aN (o7 (p6 (ag (dC (.int 5)) ar)) (ao 7) (aN (ba (ay mX (ag (ah 2) (ag (ah 5) ar))) (ao 8))
 (aN (qx (Gz (ah 6) (ah 8)))
 (cj (dB (ay nB (ag (ah 3) (ag (ah 8) ar)))) (qx (Gz (ah 6) (ay mX (ag (ah 2) (ag (ah 8) ar))))) bz))))
 (cj (ip (dS (dB (dCB uN (ag (sY [none,some 3] (diM (ah 6)) (ao 0) jB (ay u0 (ag (ah 1) (ag (ah 0) ar)))) ar)))) (dB (dOp vb (ay j8 (ag (ah 3) (ag (ah 5) ar))) (dC (.bool true))))) (bb (dC (.bool false))) bz))))))))
 (bb (dOp OF (ay j8 (ag (dC (.int 2)) (ag (aY (ag (aY (ag (dC (.int 1)) (ag (dC (.int 0)) (ag (dC (.int 1)) ar)))) (ag (aY (ag (dC (.int 1)) (ag (dC (.int 0)) (ag (dC (.int 1)) ar)))) (ag (aY (ag (aY (ag (aY (ag (dC (.int 0)) (ag (dC (.int 0)) (ag (dC (.int 1)) ar)))) (ag (aY (ag (dC (.int 0)) (ag (dC (.int 0)) (ag (dC (.int 1)) ar)))) (ag (aY (ag (dC (.int 1)) (ag (dC (.int 0)) (ag (dC (.int 1)) ar)))) (ag (aY (ag (dC (.int 1)) (ag (dC (.int 0)) (ag (dC (.int 1)) ar)))) ar))))) ar)) ar)))) ar))) (dC (.bool true)))))
section
variable {Z:Mu}{Qd:DK}{ds:List D}
theorem ON:iH 2 [az,one] 1:=⟨rfl,List.pairwise_cons.mpr ⟨fun x hx=>by rw[List.mem_singleton.mp hx];decide,List.pairwise_singleton _ _⟩,fun x hx=>by
 simp only[mem_cons,not_mem_nil,or_false] at hx
 rcases hx with rfl|rfl
 ·exact qJ
 ·exact Qa,rfl⟩
theorem Lf:Drawn 2 (.tuple [dN ⟨1,0,1⟩,dN ⟨1,0,1⟩,.tuple [.tuple [dN ⟨0,0,1⟩,dN ⟨0,0,1⟩,dN ⟨1,0,1⟩,dN ⟨1,0,1⟩]]]):=by
 have b1:∀x∈[az,one],Six 3600 x:=fun x hx=>by
  simp only[mem_cons,not_mem_nil,or_false] at hx
  rcases hx with rfl|rfl
  ·exact⟨0,0,⟨⋯,rfl,rfl⟩,⋯,⋯⟩
  ·exact⟨6,0,⟨⋯,rfl,rfl⟩,⋯,⋯⟩
 have e:less one az=one:=by decide
 refine⟨[az,one],[az,one],1,1,[⟨0,1,0,1⟩],⟨ON,ON,⋯,⋯,⋯,⋯,⋯,b1,b1,vW ⋯ ⋯⟩,?_⟩
 show _=i9 one one [⟨az,az,less one az,less one az⟩]
 rw[e]
 rfl
theorem Mc:aM 2:=⟨⋯,⋯,⋯,⋯,⋯,⋯⟩
theorem Pu(h:zj ds Z Qd):He ‹Qd› (aR ["_law_script","_law_k","_law_bag_here","_law_d","_law_other","_law_laying_here","_law_things","_law_turn","_law_thing"] ds) Z:=by
 obtain⟨ns,rfl,h63,q⟩:=h
 unfold He
 walk_at "rb"
 rw[jw]
 walk_at "rb"
 have hm:(-(2 ^ 62)<=max 2 (min 4 ((ns.length:Nat):Int))/\max 2 (min 4 ((ns.length:Nat):Int))<2 ^ 62):=by omega
 refine⟨hm,fun i ρ U=>∃r1 r2 r3 r4 r5 r6 r7 r8,ρ=[some (.s ns),r1,r2,r3,r4,r5,r6,r7,r8],⟨_,_,_,_,_,_,_,_,rfl⟩,?_,?_⟩
 ·rintro i x ρ xL hx ⟨r1,r2,r3,r4,r5,r6,r7,r8,rfl⟩
  obtain⟨rfl,hi⟩:=tX hx
  walk_at "rb"
  refine⟨ns,_,rfl,∅,∅,fun a am ha s1=>?_⟩
  walk_at "rb"
  refine⟨a,rfl,s1.1,fun d be hd s2=>?_⟩
  walk_at "rb"
  refine⟨a,rfl,s2.1,fun d2 bi hd2 s3=>?_⟩
  walk_at "rb"
  refine⟨trivial,a,d,rfl,hd,s3.1,fun t dl dr s4=>?_⟩
  obtain⟨lv,lq⟩:(∃w h ts,t=i9 w h ts/\HB 0 13 w h ts)/\xa 0 13 t:=by
   obtain⟨xs,ys,C,R,qs,g,rfl⟩:=dr
   exact⟨⟨_,_,_,rfl,(g.v hd).1⟩,(g.v hd).1.q ⋯⟩
  obtain⟨w,h,ts,rfl,lv⟩:=lv
  have lp:=lq.p ⋯ ⋯
  walk_at "rb"
  refine⟨d,_,rfl,hd,lp,fun b lb=>?_⟩
  obtain rfl:=dr.yes hd lb
  walk_at "rb"
  refine⟨d2,_,rfl,hd2,lp,?_⟩
  walk_at "rb"
  refine⟨a,0,13,w,h,ts,rfl,lv,⋯,s4.1,fun t1 jp q1 s5=>?_⟩
  walk_at "rb"
  refine⟨a,rfl,s5.1,fun o tt ho s6=>?_⟩
  walk_at "rb"
  intro f hf
  have af:=zh s6.1 hf
  rw[jw]
  walk_at "rb"
  refine⟨⋯,fun i ρ U=>∃r1 r7 r8 es,ρ=[some (.s ns),r1,some (.m a),some (.v (.int d)),some (.v (.int d2)),some (.v (i9 w h ts)),some (.m f),r7,r8]/\Bag U a/\U f=some es/\(∀e∈es,Gx e)/\es.length<=2+2*i,⟨_,_,_,[t1,o],rfl,s6.1.off af,by rw[aF],fun e he=>?_,Nat.le_refl 2⟩,?_,?_⟩
  ·simp only[mem_cons,not_mem_nil,or_false] at he
   rcases he with rfl|rfl
   ·exact q1.p ⋯ ⋯
   ·exact (Eb (k:=0) (n:=10) ho).p ⋯ ⋯
  ·rintro j x ρ po hx2 ⟨r1,r7,r8,es,rfl,hb7,hf7,le,ll⟩
   obtain⟨rfl,hj⟩:=tX hx2
   walk_at "rb"
   refine⟨a,0,13,w,h,ts,rfl,lv,⋯,hb7,fun t2 sB q2 s8=>?_⟩
   have lp2:=q2.p ⋯ ⋯
   walk_at "rb"
   rw[s8.2 f af.symm,hf7]
   walk_at "rb"
   refine⟨∅,d,t2,rfl,hd,lp2,fun b lb=>?_⟩
   have le2:∀e∈es++[t2],Gx e:=fun e he=>by
    rcases List.mem_append.mp he with z|z
    ·exact le e z
    ·rw[List.mem_singleton.mp z];exact lp2
   walk_at "rb"
   cases b with
   |false=>
    rw[bI ⋯]
    walk_at "rb"
    exact⟨_,_,_,es++[t2],rfl,s8.1.off af,by rw[aF],le2,by rw[length_append];simp only[length_cons,length_nil];omega⟩
   |true=>
    rw[bJ rfl]
    walk_at "rb"
    have fb:jy d t2=true:=by
     cases z:jy d t2 with
     |true=>rfl
     |false=>exact absurd (lb.1 z) ⋯
    obtain⟨w2,h2,ts2,rfl,v2⟩:=xZ fb
    refine⟨a,1,25,w2,h2,ts2,rfl,q2.v v2,⋯,s8.1.off af,fun t3 ul q3 s9=>?_⟩
    walk_at "rb"
    rw[s9.2 f af.symm,aF]
    dsimp only
    refine⟨by rw[length_append];simp only[length_cons,length_nil];omega,_,_,_,es++[i9 w2 h2 ts2]++[t3],rfl,s9.1.off af,by rw[aF],fun e he=>?_,by rw[length_append,length_append];simp only[length_cons,length_nil];omega⟩
    rcases List.mem_append.mp he with z|z
    ·exact le2 e z
    ·rw[List.mem_singleton.mp z];exact q3.p ⋯ ⋯
  ·rintro ρ po ⟨r1,r7,r8,es,rfl,hb7,hf7,le,ll⟩
   rw[lZ] at ll
   have ll':es.length<=12:=ll
   rw[rJ,SW]
   walk_at "rb"
   refine⟨es,hf7,∅,fun x=>some (.bool true),?_,?_⟩
   ·intro x hx U _
    walk_at "rb"
    simp only[true_and,and_true,↓reduceIte]
    exact⟨d,x,rfl,hd,le x hx,rfl,rfl⟩
   rw[mR (f:=fun _=>true)]
   dsimp only
   rw[bI (by simp)]
   walk_at "rb"
   refine⟨d,_,rfl,hd,lp,fun b lb2=>?_⟩
   obtain rfl:=dr.yes hd lb2
   walk_at "rb"
   exact⟨_,_,_,_,_,_,_,_,rfl⟩
 ·rintro ρ U ⟨r1,r2,r3,r4,r5,r6,r7,r8,rfl⟩
  have dr:=Lf
  have lp:Gx (.tuple [dN ⟨1,0,1⟩,dN ⟨1,0,1⟩,.tuple [.tuple [dN ⟨0,0,1⟩,dN ⟨0,0,1⟩,dN ⟨1,0,1⟩,dN ⟨1,0,1⟩]]]):=by
   obtain⟨xs,ys,C,R,qs,g,e⟩:=Lf
   rw[e]
   exact ((g.v Mc).1.q ⋯).p ⋯ ⋯
  refine⟨2,_,rfl,Mc,lp,fun b lb=>?_⟩
  obtain rfl:=dr.yes Mc lb
  walk_at "rb"
  exact q U
end
end L2.DL
namespace K08
open PySem L2 L2.DL
local macro_rules|`(tactic| walk_at "cl")=>`(tactic| (intro _ _ h;first|exact h|exact cl1 h|exact cl2 nofun h|exact cl3 nofun h|exact tR (hE rfl D6) _ _ h|exact tR (hE rfl (hE rfl D6)) _ _ h|exact tR (hE rfl (hE rfl (hE rfl D6))) _ _ h|exact tR (hE rfl (hE rfl (hE rfl (hE rfl D6)))) _ _ h|exact tR (hE rfl (hE rfl (hE rfl (hE rfl (hE rfl D6))))) _ _ h|exact tR (hE rfl (hE rfl (hE rfl (hE rfl (hE rfl (hE rfl D6)))))) _ _ h|exact tR (hE rfl (hE rfl (hE rfl (hE rfl (hE rfl (hE rfl (hE rfl D6))))))) _ _ h|exact tR D6 _ _ h|cases h))
set_option genInjectivity false in
structure Adr where
 nP:Addr
 rV:FuncData
 eU:Addr
 iA:FuncData
 kP:Addr
 pI:FuncData
 eZ:Addr
 ia:FuncData
 tY:Addr
 yN:FuncData
 CG:Addr
 Gn:FuncData
 qU:Addr
 wa:FuncData
 fF:Addr
 jd:FuncData
 oB:Addr
 sS:FuncData
 en:Addr
 gT:FuncData
 qN:Addr
 vI:FuncData
 nN:Addr
 su:FuncData
 lJ:Addr
 ql:FuncData
 iX:Addr
 mr:FuncData
 gR:Addr
 km:FuncData
 gY:Addr
 kA:FuncData
 iQ:Addr
 mB:FuncData
 k7:Addr
 p4:FuncData
 kU:Addr
 pY:FuncData
 gF:Addr
 kH:FuncData
 eO:Addr
 hZ:FuncData
 fH:Addr
 jn:FuncData
 eV:Addr
 ik:FuncData
 fz:Addr
 jo:FuncData
 iS:Addr
 lV:FuncData
 kW:Addr
 pF:FuncData
 gU:Addr
 kq:FuncData
 iZ:Addr
 lR:FuncData
 jP:Addr
 nM:FuncData
 gN:Addr
 kJ:FuncData
 jF:Addr
 oA:FuncData
 kX:Addr
 qm:FuncData
 oH:Addr
 rR:FuncData
 jN:Addr
 og:FuncData
 oq:Addr
 rZ:FuncData
 kT:Addr
 pL:FuncData
 iP:Addr
 mf:FuncData
 fu:Addr
 jr:FuncData
 jS:Addr
 ou:FuncData
 kQ:Addr
 qi:FuncData
 jQ:Addr
 n9:FuncData
 k5:Addr
 pD:FuncData
 jM:Addr
 nK:FuncData
 kO:Addr
 pT:FuncData
 eE:Addr
 gP:FuncData
 iR:Addr
 lT:FuncData
 k8:Addr
 qj:FuncData
 oF:Addr
 rQ:FuncData
 dM:Addr
 fU:FuncData
 dI:Addr
 fM:FuncData
 eQ:Addr
 iB:FuncData
 gE:Addr
 ky:FuncData
 H0:Addr
 Ks:FuncData
 Au:Tok
 JF:Addr
structure Txt(K:PySem.W.Frag)(mg:Str->Option Value)(t:Adr):Prop where
 GU:Fun K "is_whole" "is_whole" ic t.nP t.rV
 sv:mg "is_whole"=some (.ref t.nP)
 rX:keepIn K (.ref t.nP)=true
 sO:Binds K t.rV ["thing"] []
 wb:Fun K "common_divisor" "common_divisor" cK t.eU t.iA
 mP:mg "common_divisor"=some (.ref t.eU)
 nh:keepIn K (.ref t.eU)=true
 mZ:Binds K t.iA ["a","b"] []
 Fi:Fun K "is_number" "is_number" gk t.kP t.pI
 pH:mg "is_number"=some (.ref t.kP)
 pj:keepIn K (.ref t.kP)=true
 pG:Binds K t.pI ["thing"] []
 wm:Fun K "divisor_of_all" "divisor_of_all" cI t.eZ t.ia
 mY:mg "divisor_of_all"=some (.ref t.eZ)
 mL:keepIn K (.ref t.eZ)=true
 mQ:Binds K t.ia ["a","b","c"] []
 Ma:Fun K "number" "number" nH t.tY t.yN
 Ms:mg "number"=some (.ref t.tY)
 KW:keepIn K (.ref t.tY)=true
 K9:Binds K t.yN ["a","b","c"] []
 Po:Fun K "plus" "plus" wo t.CG t.Gn
 Ku:mg "plus"=some (.ref t.CG)
 LJ:keepIn K (.ref t.CG)=true
 LH:Binds K t.Gn ["x","y"] []
 Ka:Fun K "sign_of" "sign_of" jT t.qU t.wa
 vp:mg "sign_of"=some (.ref t.qU)
 vj:keepIn K (.ref t.qU)=true
 vi:Binds K t.wa ["d","x"] []
 xh:Fun K "sign_of_parts" "sign_of_parts" cU t.fF t.jd
 oU:mg "sign_of_parts"=some (.ref t.fF)
 oS:keepIn K (.ref t.fF)=true
 o3:Binds K t.jd ["d","a","b"] []
 GA:Fun K "is_above" "is_above" ig t.oB t.sS
 Hx:mg "is_above"=some (.ref t.oB)
 Gj:keepIn K (.ref t.oB)=true
 Gw:Binds K t.sS ["d","x","y"] []
 uK:Fun K "is_above_nought" "is_above_nought" cm t.en t.gT
 eC:mg "is_above_nought"=some (.ref t.en)
 eD:keepIn K (.ref t.en)=true
 eA:Binds K t.gT ["d","thing"] []
 Kn:Fun K "is_tile" "is_tile" jU t.qN t.vI
 Kh:mg "is_tile"=some (.ref t.qN)
 JK:keepIn K (.ref t.qN)=true
 JM:Binds K t.vI ["d","thing"] []
 Hr:Fun K "has_form" "has_form" iq t.nN t.su
 HN:mg "has_form"=some (.ref t.nN)
 GC:keepIn K (.ref t.nN)=true
 Gu:Binds K t.su ["d","thing"] []
 E1:Fun K "bounds_of" "bounds_of" gB t.lJ t.ql
 DZ:mg "bounds_of"=some (.ref t.lJ)
 EO:keepIn K (.ref t.lJ)=true
 FG:Binds K t.ql ["tile"] []
 Ap:Fun K "place_among" "place_among" d6 t.iX t.mr
 A5:mg "place_among"=some (.ref t.iX)
 Ad:keepIn K (.ref t.iX)=true
 AK:Binds K t.mr ["d","marks","x"] []
 zc:Fun K "rising_marks" "rising_marks" dy t.gR t.km
 pJ:mg "rising_marks"=some (.ref t.gR)
 qy:keepIn K (.ref t.gR)=true
 p5:Binds K t.km ["d","found"] []
 yS:Fun K "reaches_just" "reaches_just" dq t.gY t.kA
 qw:mg "reaches_just"=some (.ref t.gY)
 pQ:keepIn K (.ref t.gY)=true
 pW:Binds K t.kA ["marks","end"] []
 Af:Fun K "covers_once" "covers_once" d7 t.iQ t.mB
 AE:mg "covers_once"=some (.ref t.iQ)
 Ac:keepIn K (.ref t.iQ)=true
 A8:Binds K t.mB ["bounds","across","upward"] []
 Fn:Fun K "is_laying" "is_laying" gp t.k7 t.p4
 k6:mg "is_laying"=some (.ref t.k7)
 lB:keepIn K (.ref t.k7)=true
 kY:Binds K t.p4 ["d","thing"] []
 ET:Fun K "_law_take" "_law_take" gv t.kU t.pY
 aK:mg "_law_take"=some (.ref t.kU)
 aJ:keepIn K (.ref t.kU)=true
 aL:Binds K t.pY ["_law_bag_here","_law_many"] []
 yu:Fun K "_law_swapped" "_law_swapped" dA t.gF t.kH
 bR:mg "_law_swapped"=some (.ref t.gF)
 bO:keepIn K (.ref t.gF)=true
 bP:Binds K t.kH ["_law_row","_law_at","_law_thing"] []
 vz:Fun K "_law_is_laying" "_law_is_laying" cF t.eO t.hZ
 mG:mg "_law_is_laying"=some (.ref t.eO)
 mE:keepIn K (.ref t.eO)=true
 mU:Binds K t.hZ ["_law_d","_law_thing"] []
 xt:Fun K "_law_is_above" "_law_is_above" cY t.fH t.jn
 fA:mg "_law_is_above"=some (.ref t.fH)
 fD:keepIn K (.ref t.fH)=true
 fq:Binds K t.jn ["_law_d","_law_thing"] []
 vE:Fun K "_law_is_number" "_law_is_number" cE t.eV t.ik
 ni:mg "_law_is_number"=some (.ref t.eV)
 mK:keepIn K (.ref t.eV)=true
 nu:Binds K t.ik ["_law_thing"] []
 xf:Fun K "_law_is_whole" "_law_is_whole" cX t.fz t.jo
 xA:mg "_law_is_whole"=some (.ref t.fz)
 xq:keepIn K (.ref t.fz)=true
 xG:Binds K t.jo ["_law_thing"] []
 AB:Fun K "_law_shared" "_law_shared" dX t.iS t.lV
 iL:mg "_law_shared"=some (.ref t.iS)
 iU:keepIn K (.ref t.iS)=true
 iV:Binds K t.lV ["_law_one","_law_other"] []
 EU:Fun K "_law_sign" "_law_sign" fY t.kW t.pF
 i4:mg "_law_sign"=some (.ref t.kW)
 i8:keepIn K (.ref t.kW)=true
 i3:Binds K t.pF ["_law_d","_law_x"] []
 zq:Fun K "_law_is_tile" "_law_is_tile" dw t.gU t.kq
 ye:mg "_law_is_tile"=some (.ref t.gU)
 zr:keepIn K (.ref t.gU)=true
 yp:Binds K t.kq ["_law_d","_law_thing"] []
 Ao:Fun K "_law_covers" "_law_covers" dW t.iZ t.lR
 A1:mg "_law_covers"=some (.ref t.iZ)
 AG:keepIn K (.ref t.iZ)=true
 A7:Binds K t.lR ["_law_d","_law_width","_law_height","_law_tiles"] []
 Cs:Fun K "_law_spans" "_law_spans" eY t.jP t.nM
 uD:mg "_law_spans"=some (.ref t.jP)
 uh:keepIn K (.ref t.jP)=true
 tO:Binds K t.nM ["_law_d","_law_ends_here","_law_most"] []
 y8:Fun K "_law_ordered" "_law_ordered" du t.gN t.kJ
 zV:mg "_law_ordered"=some (.ref t.gN)
 zv:keepIn K (.ref t.gN)=true
 yA:Binds K t.kJ ["_law_d","_law_row"] []
 CW:Fun K "_law_below" "_law_below" eS t.jF t.oA
 Du:mg "_law_below"=some (.ref t.jF)
 Dl:keepIn K (.ref t.jF)=true
 Dr:Binds K t.oA ["_law_d","_law_x","_law_y"] []
 EV:Fun K "_law_plus" "_law_plus" fX t.kX t.qm
 gz:mg "_law_plus"=some (.ref t.kX)
 gu:keepIn K (.ref t.kX)=true
 gb:Binds K t.qm ["_law_x","_law_y"] []
 Hk:Fun K "_law_low" "_law_low" iG t.oH t.rR
 kI:mg "_law_low"=some (.ref t.oH)
 j9:keepIn K (.ref t.oH)=true
 kB:Binds K t.rR ["_law_a","_law_b","_law_c"] []
 DP:Fun K "_law_minus" "_law_minus" eP t.jN t.og
 n4:mg "_law_minus"=some (.ref t.jN)
 nO:keepIn K (.ref t.jN)=true
 oK:Binds K t.og ["_law_x"] []
 Hi:Fun K "_law_bag" "_law_bag" iE t.oq t.rZ
 Hu:mg "_law_bag"=some (.ref t.oq)
 HI:keepIn K (.ref t.oq)=true
 Hw:Binds K t.rZ ["_law_script","_law_at"] []
 FJ:Fun K "_law_root" "_law_root" gc t.kT t.pL
 wz:mg "_law_root"=some (.ref t.kT)
 wA:keepIn K (.ref t.kT)=true
 wW:Binds K t.pL ["_law_bag_here"] []
 A3:Fun K "_law_laying" "_law_laying" d3 t.iP t.mf
 A9:mg "_law_laying"=some (.ref t.iP)
 AY:keepIn K (.ref t.iP)=true
 AH:Binds K t.mf ["_law_bag_here","_law_d"] []
 xJ:Fun K "_law_pinwheel" "_law_pinwheel" cW t.fu t.jr
 xm:mg "_law_pinwheel"=some (.ref t.fu)
 xn:keepIn K (.ref t.fu)=true
 xu:Binds K t.jr ["_law_bag_here"] []
 Cg:Fun K "_law_floor" "_law_floor" eR t.jS t.ou
 um:mg "_law_floor"=some (.ref t.jS)
 uS:keepIn K (.ref t.jS)=true
 tS:Binds K t.ou ["_law_bag_here","_law_d","_law_columns","_law_rows","_law_blocks_here"] []
 EN:Fun K "_law_ends" "_law_ends" gw t.kQ t.qi
 wD:mg "_law_ends"=some (.ref t.kQ)
 wY:keepIn K (.ref t.kQ)=true
 wH:Binds K t.qi ["_law_sides_here"] []
 CO:Fun K "_law_sides" "_law_sides" fc t.jQ t.n9
 sZ:mg "_law_sides"=some (.ref t.jQ)
 sX:keepIn K (.ref t.jQ)=true
 u4:Binds K t.n9 ["_law_bag_here","_law_d","_law_many"] []
 Eo:Fun K "_law_side" "_law_side" gi t.k5 t.pD
 wR:mg "_law_side"=some (.ref t.k5)
 wO:keepIn K (.ref t.k5)=true
 wJ:Binds K t.pD ["_law_bag_here","_law_d","_law_way"] []
 Ct:Fun K "_law_mixed" "_law_mixed" eX t.jM t.nK
 Ce:mg "_law_mixed"=some (.ref t.jM)
 Cp:keepIn K (.ref t.jM)=true
 B8:Binds K t.nK ["_law_bag_here","_law_row"] []
 FN:Fun K "_law_less" "_law_less" gA t.kO t.pT
 wX:mg "_law_less"=some (.ref t.kO)
 wB:keepIn K (.ref t.kO)=true
 w4:Binds K t.pT ["_law_x","_law_y"] []
 tN:Fun K "_law_many_cells" "_law_many_cells" cp t.eE t.gP
 uF:mg "_law_many_cells"=some (.ref t.eE)
 tq:keepIn K (.ref t.eE)=true
 uj:Binds K t.gP ["_law_bag_here"] []
 Ah:Fun K "_law_blocks" "_law_blocks" dY t.iR t.lT
 Ae:mg "_law_blocks"=some (.ref t.iR)
 A2:keepIn K (.ref t.iR)=true
 Ar:Binds K t.lT ["_law_bag_here","_law_columns","_law_rows"] []
 FH:Fun K "_law_room" "_law_room" gg t.k8 t.qj
 EH:mg "_law_room"=some (.ref t.k8)
 Ek:keepIn K (.ref t.k8)=true
 Fo:Binds K t.qj ["_law_met","_law_column","_law_row","_law_columns"] []
 Gb:Fun K "_law_odd" "_law_odd" iD t.oF t.rQ
 sJ:mg "_law_odd"=some (.ref t.oF)
 sI:keepIn K (.ref t.oF)=true
 sf:Binds K t.rQ ["_law_bag_here"] []
 rK:Fun K "_law_bent_laying" "_law_bent_laying" bW t.dM t.fU
 kC:mg "_law_bent_laying"=some (.ref t.dM)
 kd:keepIn K (.ref t.dM)=true
 ko:Binds K t.fU ["_law_bag_here","_law_laying_here"] []
 sj:Fun K "_law_bent_number" "_law_bent_number" bX t.dI t.fM
 fN:mg "_law_bent_number"=some (.ref t.dI)
 fO:keepIn K (.ref t.dI)=true
 fS:Binds K t.fM ["_law_bag_here","_law_x"] []
 vM:Fun K "_law_exchanged" "_law_exchanged" cD t.eQ t.iB
 wq:mg "_law_exchanged"=some (.ref t.eQ)
 vH:keepIn K (.ref t.eQ)=true
 vD:Binds K t.iB ["_law_bag_here","_law_laying_here"] []
 yL:Fun K "_law_is_told" "_law_is_told" dD t.gE t.ky
 qv:mg "_law_is_told"=some (.ref t.gE)
 pZ:keepIn K (.ref t.gE)=true
 pS:Binds K t.ky ["_law_d","_law_thing"] []
 RF:Fun K "law" "law" rn t.H0 t.Ks
 TC:mg "law"=some (.ref t.H0)
 TB:keepIn K (.ref t.H0)=true
 Tz:Binds K t.Ks ["_law_script"] []
 bG:mg "isinstance"=none
 x6:mg "int"=none
 Gh:mg "bool"=none
 EI:mg "abs"=none
 jK:mg "tuple"=none
 eo:mg "len"=none
 Ff:mg "all"=none
 RD:mg "set"=none
 g8:mg "range"=none
 pf:mg "enumerate"=none
 RH:mg "zip"=none
 HR:mg "list"=none
 Mf:mg "min"=none
 Sr:mg "max"=none
 B7:mg "MOST_TILES"=some (.int 60 t.Au)
 Lh:R5 K mg "NOUGHT" t.JF 0 0 1
structure EQ where
 P:Program
 w:World
 K:PySem.W.Frag
 mg:Str->Option Value
 base:Heap
 t:Adr
noncomputable abbrev TX(e:EQ):Prop:=Txt e.K e.mg e.t
noncomputable abbrev wL(e:EQ):Prop:=bD e.P e.w e.K e.mg e.base CX0 1 e.t.nP e.t.rV ["thing"] (spD e.K jH)
noncomputable abbrev lN(e:EQ):Prop:=bD e.P e.w e.K e.mg e.base CX0 1 e.t.eU e.t.iA ["a","b"] (spD e.K pX)
noncomputable abbrev oI(e:EQ):Prop:=bD e.P e.w e.K e.mg e.base CX0 3 e.t.kP e.t.pI ["thing"] (spD e.K lS)
noncomputable abbrev gC(e:EQ):Prop:=bD e.P e.w e.K e.mg e.base CX0 2 e.t.eZ e.t.ia ["a","b","c"] (spD e.K yw)
noncomputable abbrev Bp(e:EQ):Prop:=bD e.P e.w e.K e.mg e.base CX0 3 e.t.tY e.t.yN ["a","b","c"] (spD e.K eK)
noncomputable abbrev IC(e:EQ):Prop:=bD e.P e.w e.K e.mg e.base CX0 4 e.t.CG e.t.Gn ["x","y"] (spD e.K ix)
noncomputable abbrev rS(e:EQ):Prop:=bD e.P e.w e.K e.mg e.base CX0 2 e.t.qU e.t.wa ["d","x"] (spD e.K iF)
noncomputable abbrev ij(e:EQ):Prop:=bD e.P e.w e.K e.mg e.base CX0 1 e.t.fF e.t.jd ["d","a","b"] (spD e.K uJ)
noncomputable abbrev wN(e:EQ):Prop:=bD e.P e.w e.K e.mg e.base CX0 2 e.t.oB e.t.sS ["d","x","y"] (spD e.K xO)
noncomputable abbrev fV(e:EQ):Prop:=bD e.P e.w e.K e.mg e.base CX0 4 e.t.en e.t.gT ["d","thing"] (spD e.K dE)
noncomputable abbrev yZ(e:EQ):Prop:=bD e.P e.w e.K e.mg e.base CX0 5 e.t.qN e.t.vI ["d","thing"] (spD e.K sF)
noncomputable abbrev wQ(e:EQ):Prop:=bD e.P e.w e.K e.mg e.base CX0 6 e.t.nN e.t.su ["d","thing"] (spD e.K xU)
noncomputable abbrev tL(e:EQ):Prop:=bD e.P e.w e.K e.mg e.base CX0 5 e.t.lJ e.t.ql ["tile"] (spD e.K qB)
noncomputable abbrev qd(e:EQ):Prop:=bD e.P e.w e.K e.mg e.base CX0 3 e.t.iX e.t.mr ["d","marks","x"] (spD e.K uc)
noncomputable abbrev oT(e:EQ):Prop:=bD e.P e.w e.K e.mg e.base CX0 4 e.t.gR e.t.km ["d","found"] (spD e.K qC)
noncomputable abbrev oR(e:EQ):Prop:=bD e.P e.w e.K e.mg e.base CX0 1 e.t.gY e.t.kA ["marks","end"] (spD e.K tm)
noncomputable abbrev qA(e:EQ):Prop:=bD e.P e.w e.K e.mg e.base CX0 1 e.t.iQ e.t.mB ["bounds","across","upward"] (spD e.K zT)
noncomputable abbrev oG(e:EQ):Prop:=bD e.P e.w e.K e.mg e.base CX0 7 e.t.k7 e.t.p4 ["d","thing"] (spD e.K j8)
noncomputable abbrev bH(e:EQ):Prop:=bD e.P e.w e.K e.mg e.base CX0 1 e.t.kU e.t.pY ["_law_bag_here","_law_many"] (spD e.K nZ)
noncomputable abbrev jt(e:EQ):Prop:=bD e.P e.w e.K e.mg e.base CX0 1 e.t.gF e.t.kH ["_law_row","_law_at","_law_thing"] (spD e.K fE)
noncomputable abbrev g9(e:EQ):Prop:=bD e.P e.w e.K e.mg e.base CX0 8 e.t.eO e.t.hZ ["_law_d","_law_thing"] (spD e.K nB)
noncomputable abbrev iu(e:EQ):Prop:=bD e.P e.w e.K e.mg e.base CX0 3 e.t.fH e.t.jn ["_law_d","_law_thing"] (spD e.K dE)
noncomputable abbrev gG(e:EQ):Prop:=bD e.P e.w e.K e.mg e.base CX0 2 e.t.eV e.t.ik ["_law_thing"] (spD e.K lS)
noncomputable abbrev nj(e:EQ):Prop:=bD e.P e.w e.K e.mg e.base CX0 1 e.t.fz e.t.jo ["_law_thing"] (spD e.K jH)
noncomputable abbrev kG(e:EQ):Prop:=bD e.P e.w e.K e.mg e.base CX0 1 e.t.iS e.t.lV ["_law_one","_law_other"] (spD e.K pX)
noncomputable abbrev gW(e:EQ):Prop:=bD e.P e.w e.K e.mg e.base CX0 1 e.t.kW e.t.pF ["_law_d","_law_x"] (spD e.K iF)
noncomputable abbrev oZ(e:EQ):Prop:=bD e.P e.w e.K e.mg e.base CX0 4 e.t.gU e.t.kq ["_law_d","_law_thing"] (spD e.K sF)
noncomputable abbrev pR(e:EQ):Prop:=bD e.P e.w e.K e.mg e.base CX0 7 e.t.iZ e.t.lR ["_law_d","_law_width","_law_height","_law_tiles"] (spD e.K vt)
noncomputable abbrev rB(e:EQ):Prop:=bD e.P e.w e.K e.mg e.base CX0 6 e.t.jP e.t.nM ["_law_d","_law_ends_here","_law_most"] (spD e.K xP)
noncomputable abbrev oV(e:EQ):Prop:=bD e.P e.w e.K e.mg e.base CX0 5 e.t.gN e.t.kJ ["_law_d","_law_row"] (spD e.K vh)
noncomputable abbrev rD(e:EQ):Prop:=bD e.P e.w e.K e.mg e.base CX0 4 e.t.jF e.t.oA ["_law_d","_law_x","_law_y"] (spD e.K x5)
noncomputable abbrev eT(e:EQ):Prop:=bD e.P e.w e.K e.mg e.base CX0 3 e.t.kX e.t.qm ["_law_x","_law_y"] (spD e.K ix)
noncomputable abbrev lh(e:EQ):Prop:=bD e.P e.w e.K e.mg e.base CX0 2 e.t.oH e.t.rR ["_law_a","_law_b","_law_c"] (spD e.K eK)
noncomputable abbrev iK(e:EQ):Prop:=bD e.P e.w e.K e.mg e.base CX0 1 e.t.jN e.t.og ["_law_x"] (spD e.K qL)
noncomputable abbrev wI(e:EQ):Prop:=bD e.P e.w e.K e.mg e.base CX0 1 e.t.oq e.t.rZ ["_law_script","_law_at"] (spD e.K HW)
noncomputable abbrev u9(e:EQ):Prop:=bD e.P e.w e.K e.mg e.base CX0 2 e.t.kT e.t.pL ["_law_bag_here"] (spD e.K ue)
noncomputable abbrev p7(e:EQ):Prop:=bD e.P e.w e.K e.mg e.base CX0 6 e.t.iP e.t.mf ["_law_bag_here","_law_d"] (spD e.K qE)
noncomputable abbrev mN(e:EQ):Prop:=bD e.P e.w e.K e.mg e.base CX0 2 e.t.fu e.t.jr ["_law_bag_here"] (spD e.K n8)
noncomputable abbrev rF(e:EQ):Prop:=bD e.P e.w e.K e.mg e.base CX0 5 e.t.jS e.t.ou ["_law_bag_here","_law_d","_law_columns","_law_rows","_law_blocks_here"] (spD e.K pU)
noncomputable abbrev tw(e:EQ):Prop:=bD e.P e.w e.K e.mg e.base CX0 4 e.t.kQ e.t.qi ["_law_sides_here"] (spD e.K Cf)
noncomputable abbrev rC(e:EQ):Prop:=bD e.P e.w e.K e.mg e.base CX0 4 e.t.jQ e.t.n9 ["_law_bag_here","_law_d","_law_many"] (spD e.K uo)
noncomputable abbrev tV(e:EQ):Prop:=bD e.P e.w e.K e.mg e.base CX0 3 e.t.k5 e.t.pD ["_law_bag_here","_law_d","_law_way"] (spD e.K uX)
noncomputable abbrev rA(e:EQ):Prop:=bD e.P e.w e.K e.mg e.base CX0 2 e.t.jM e.t.nK ["_law_bag_here","_law_row"] (spD e.K uH)
noncomputable abbrev uE(e:EQ):Prop:=bD e.P e.w e.K e.mg e.base CX0 4 e.t.kO e.t.pT ["_law_x","_law_y"] (spD e.K yG)
noncomputable abbrev j6(e:EQ):Prop:=bD e.P e.w e.K e.mg e.base CX0 2 e.t.eE e.t.gP ["_law_bag_here"] (spD e.K xW)
noncomputable abbrev qu(e:EQ):Prop:=bD e.P e.w e.K e.mg e.base CX0 2 e.t.iR e.t.lT ["_law_bag_here","_law_columns","_law_rows"] (spD e.K yX)
noncomputable abbrev ui(e:EQ):Prop:=bD e.P e.w e.K e.mg e.base CX0 1 e.t.k8 e.t.qj ["_law_met","_law_column","_law_row","_law_columns"] (spD e.K B3)
noncomputable abbrev k9(e:EQ):Prop:=bD e.P e.w e.K e.mg e.base CX0 2 e.t.oF e.t.rQ ["_law_bag_here"] (spD e.K Bs)
noncomputable abbrev jx(e:EQ):Prop:=bD e.P e.w e.K e.mg e.base CX0 5 e.t.dM e.t.fU ["_law_bag_here","_law_laying_here"] (spD e.K mX)
noncomputable abbrev jC(e:EQ):Prop:=bD e.P e.w e.K e.mg e.base CX0 4 e.t.dI e.t.fM ["_law_bag_here","_law_x"] (spD e.K jX)
noncomputable abbrev lA(e:EQ):Prop:=bD e.P e.w e.K e.mg e.base CX0 2 e.t.eQ e.t.iB ["_law_bag_here","_law_laying_here"] (spD e.K BY)
noncomputable abbrev oW(e:EQ):Prop:=bD e.P e.w e.K e.mg e.base CX0 9 e.t.gE e.t.ky ["_law_d","_law_thing"] (spD e.K u0)
noncomputable abbrev LV(e:EQ):Prop:=bD e.P e.w e.K e.mg e.base CX0 10 e.t.H0 e.t.Ks ["_law_script"] (spD e.K zj)
section
variable {e:EQ}
theorem Fw:aO ["thing"] ["thing"] (aA ic):=by walk_at "s"
theorem E6(T:TX e):wL e:=by
 have S:=Fw
 exact T.GU.okD S (fun ds Z Q h=>wM h) (fun cdv A outer s H E hr=>⟨lr,(au (aC (ir (ib (HZ _) rfl T.bG rfl T.x6 PyProof.Rows.Boot.«int» (dv 0)) (jc (LF (ib (yO _) rfl T.bG rfl T.Gh PyProof.Rows.Boot.«bool» (dv 0))))))),fun ds Z Qd h=>wG h⟩)
theorem uV:aO ["a","b"] ["a","b"] (aA cK):=by walk_at "s"
theorem tZ(T:TX e):lN e:=by
 have S:=uV
 exact T.wb.okD S (fun ds Z Q h=>BI h) (fun cdv A outer s H E hr=>⟨gK,(ak (qe PassesOwn.never (aS (jk hr.units) bq (dv 1) ai (aI _)) (au (nW (i:=0) (j:=1) rfl S.nd rfl rfl ⋯ rfl rfl (ae (dv 1) (ae (l7 (dv 0) (dv 1)) aj)) rfl)))
  (au (aC (zF rfl T.EI (ae (dv 0) aj))))),fun ds Z Qd h=>uW h⟩)
theorem vL:aO ["d","a","b","prevailing"] ["d","a","b"] (aA cU):=by walk_at "s"
theorem we(T:TX e):ij e:=by
 have S:=vL
 exact T.xh.okD S (fun ds Z Q h=>E4 h) (fun cdv A outer s H E hr=>⟨iz,(ak (bA (DW.dt (CB (aS (bZ hr.units) bq (dv 1) ai (aI _)) (xV (aS (bZ hr.units) bq (dv 2) ai (aI _))))) (au (aC ai)) aT)
  (ak (bA (DW.dt (CB (aS El eG (dv 1) ai (aI _)) (xV (aS El eG (dv 2) ai (aI _))))) (au (aC ai)) aT)
  (ak (bA (DW.dt (CB (aS Io eG (dv 1) ai (aI _)) (xV (aS Io eG (dv 2) ai (aI _))))) (au (aC (kD ai))) aT)
  (ak (aP (i:=3) S.nd rfl (Or.inl rfl) (ES (aS oO eG (bF (dv 1) (dv 1)) (bF (bF (dv 0) (dv 2)) (dv 2)) (aI _)) (dv 1) (dv 2)))
  (au (aC (ES (aS oO eG (dv 3) ai (aI _)) ai (kD ai)))))))),fun ds Z Qd h=>vS h⟩)
theorem xD:aO ["marks","end"] ["marks","end"] (aA dq):=by walk_at "s"
theorem xE(T:TX e):oR e:=by
 have S:=xD
 exact T.yS.okD S (fun ds Z Q h=>Fh h) (fun cdv A outer s H E hr=>⟨jm,(au (aC (ir (dJ (bZ hr.units) bq (aG (dv 0) ai) (MB rfl T.Lh) (aI _)) (jc (dJ (bZ hr.units) bq (aG (dv 0) (kD ai)) (dv 1) (aI _)))))),fun ds Z Qd h=>xc h⟩)
theorem yV:aO ["bounds","across","upward","columns","rows","covered","left","right","bottom","top","column","row"] ["bounds","across","upward"] (aA d7):=by walk_at "s"
theorem yz(T:TX e):qA e:=by
 have S:=yV
 exact vQ (T.Af.okD S (fun ds Z Q h=>zW h) (fun cdv A outer s H E hr=>⟨kg,(ak (IM (i:=3) (N':=["at","x"]) (cap:=[none,none]) S.nd rfl rfl rfl hr.units (DB rfl T.pf (ae (dv 1) aj)) (fun _ _ _=>(bS (n:=2) rfl (aw (av (i:=0) (show List.Nodup (["at","x"]:List Str) by decide +kernel) rfl (Or.inl rfl)) (aw (av (i:=1) (show List.Nodup (["at","x"]:List Str) by decide +kernel) rfl (Or.inl rfl)) bC)))) (fun _ _ _=>df) (fun _ _ _=>(dv 1)) (fun _ _ _=>(dv 0)) rfl nofun rfl nofun (by walk_at "cl") (eJ rfl) rfl (dR trivial))
  (ak (IM (i:=4) (N':=["at","y"]) (cap:=[none,none]) S.nd rfl rfl rfl hr.units (DB rfl T.pf (ae (dv 2) aj)) (fun _ _ _=>(bS (n:=2) rfl (aw (av (i:=0) (show List.Nodup (["at","y"]:List Str) by decide +kernel) rfl (Or.inl rfl)) (aw (av (i:=1) (show List.Nodup (["at","y"]:List Str) by decide +kernel) rfl (Or.inl rfl)) bC)))) (fun _ _ _=>df) (fun _ _ _=>(dv 1)) (fun _ _ _=>(dv 0)) rfl nofun rfl nofun (by walk_at "cl") (eJ rfl) rfl (dR trivial))
  (ak (aP (i:=5) S.nd rfl (Or.inl rfl) (J1 rfl T.RD))
  (ak (fg PassesOwn.never rfl (iW (dv 0)) (bS (n:=4) rfl (aw (av (i:=6) S.nd rfl (Or.inl rfl)) (aw (av (i:=7) S.nd rfl (Or.inl rfl)) (aw (av (i:=8) S.nd rfl (Or.inl rfl)) (aw (av (i:=9) S.nd rfl (Or.inl rfl)) bC))))) (au (fg PassesOwn.never rfl (tE rfl T.g8 (ae (vR hr.units (dv 3) (dv 6)) (ae (vR hr.units (dv 3) (dv 7)) aj))) (av (i:=10) S.nd rfl (Or.inl rfl)) (au (fg PassesOwn.never rfl (tE rfl T.g8 (ae (vR hr.units (dv 4) (dv 8)) (ae (vR hr.units (dv 4) (dv 9)) aj))) (av (i:=11) S.nd rfl (Or.inl rfl)) (ak (bA (M3 hr.units (aB (ae (dv 10) (ae (dv 11) aj))) (dv 5) (by with_unfolding_all rfl)) (au (aC di)) aT)
  (au (jG (NW hr.units (dv 5) (aB (ae (dv 10) (ae (dv 11) aj))))))))))))
  (au (aC (dJ (bZ hr.units) bq (Iu rfl T.eo (ae (dv 5) aj)) (bF (dG (cS rfl T.eo (ae (dv 1) aj)) ai) (dG (cS rfl T.eo (ae (dv 2) aj)) ai)) (aI _)))))))),fun ds Z Qd h=>yk h⟩)) (fun ds Z Qd h=>xg h)
theorem CZ:aO ["_law_bag_here","_law_many","_law_digit"] ["_law_bag_here","_law_many"] (aA gv):=by walk_at "s"
theorem Co(T:TX e):bH e:=by
 have S:=CZ
 exact T.ET.okD S (fun ds Z Q h=>FR h) (fun cdv A outer s H E hr=>⟨lO,(ak (bA (aS oO eG (aG (dv 0) ai) ai (aI _)) (ak (aP (i:=2) S.nd rfl (Or.inl rfl) (l7 (aG (dv 0) ai) (dv 1)))
  (ak (d8 (jZ (aG (dv 0) ai) (dv 1)) (My (dv 0) ai))
  (au (aC (dv 2))))) aT)
  (ak (d8 (l7 (bg (bF (aG (dv 0) ai) ai) ai) ai) (My (dv 0) ai))
  (au (aC (l7 (jZ (l7 (FX (aG (dv 0) ai) ai) ai) ai) (dv 1)))))),fun ds Z Qd h=>zZ h⟩)
theorem xy:aO ["_law_row","_law_at","_law_thing"] ["_law_row","_law_at","_law_thing"] (aA dA):=by walk_at "s"
theorem w5(T:TX e):jt e:=by
 have S:=xy
 exact T.yu.okD S (fun ds Z Q h=>Eh h) (fun cdv A outer s H E hr=>⟨je,(au (aC (jL (jL (gQ (dv 0) lK (iT (dv 1))) (aB (ae (dv 2) aj))) (gQ (dv 0) (iT (jL (dv 1) ai)) lK)))),fun ds Z Qd h=>w9 h⟩)
theorem vg:aO ["_law_thing"] ["_law_thing"] (aA cX):=by walk_at "s"
theorem vO(T:TX e):nj e:=by
 have S:=vg
 exact T.xf.okD S (fun ds Z Q h=>wM h) (fun cdv A outer s H E hr=>⟨mV,(au (aC (ir (ib (HZ _) rfl T.bG rfl T.x6 PyProof.Rows.Boot.«int» (dv 0)) (jc (LF (ib (yO _) rfl T.bG rfl T.Gh PyProof.Rows.Boot.«bool» (dv 0))))))),fun ds Z Qd h=>vo h⟩)
theorem ya:aO ["_law_one","_law_other"] ["_law_one","_law_other"] (aA dX):=by walk_at "s"
theorem zk(T:TX e):kG e:=by
 have S:=ya
 exact T.AB.okD S (fun ds Z Q h=>BI h) (fun cdv A outer s H E hr=>⟨jY,(ak (nW (i:=0) (j:=1) rfl S.nd rfl rfl ⋯ rfl rfl (ae (zF rfl T.EI (ae (dv 0) aj)) (ae (zF rfl T.EI (ae (dv 1) aj)) aj)) rfl)
  (ak (qe PassesOwn.never (aS oO eG (dv 1) ai (aI _)) (au (nW (i:=0) (j:=1) rfl S.nd rfl rfl ⋯ rfl rfl (ae (dv 1) (ae (l7 (dv 0) (dv 1)) aj)) rfl)))
  (au (aC (dv 0))))),fun ds Z Qd h=>zu h⟩)
theorem DJ:aO ["_law_d","_law_x","_law_first","_law_second","_law_sides_here"] ["_law_d","_law_x"] (aA fY):=by walk_at "s"
theorem Cv(T:TX e):gW e:=by
 have S:=DJ
 exact T.EU.okD S (fun ds Z Q h=>za h) (fun cdv A outer s H E hr=>⟨n6,(ak (nW (i:=2) (j:=3) rfl S.nd rfl rfl ⋯ rfl rfl (ae (bF (aG (dv 1) ai) (aG (dv 1) ai)) (ae (bF (bF (dv 0) (aG (dv 1) ai)) (aG (dv 1) ai)) aj)) rfl)
  (ak (aP (i:=4) S.nd rfl (Or.inl rfl) (ej (ae (dG (pK rfl T.x6 (ae (dJ oO eG (aG (dv 1) ai) ai (aI _)) aj)) (pK rfl T.x6 (ae (dJ ku eG (aG (dv 1) ai) ai (aI _)) aj))) (ae (dG (pK rfl T.x6 (ae (dJ oO eG (aG (dv 1) ai) ai (aI _)) aj)) (pK rfl T.x6 (ae (dJ ku eG (aG (dv 1) ai) ai (aI _)) aj))) aj))))
  (ak (bA (aS El eG (bF (aG (dv 4) ai) (aG (dv 4) ai)) ai (aI _)) (au (aC (ES (aS (jk hr.units) bq (aG (dv 4) ai) ai (aI _)) (aG (dv 4) ai) (aG (dv 4) ai)))) aT)
  (au (aC (ES (aS oO eG (dv 2) (dv 3) (aI _)) (aG (dv 4) ai) (aG (dv 4) ai))))))),fun ds Z Qd h=>DH h⟩)
theorem Ab:aO ["_law_x"] ["_law_x"] (aA eP):=by walk_at "s"
theorem AJ(T:TX e):iK e:=by
 have S:=Ab
 exact T.DP.okD S (fun ds Z Q h=>Ew h) (fun cdv A outer s H E hr=>⟨ma,(au (aC (aB (ae (dG ai (aG (dv 0) ai)) (ae (dG ai (aG (dv 0) ai)) (ae (aG (dv 0) ai) aj)))))),fun ds Z Qd h=>AV h⟩)
theorem En:aO ["_law_script","_law_at","_law_cell","_law_great","_law_primes","_law_mixed_here"] ["_law_script","_law_at"] (aA iE):=by walk_at "s"
theorem Fy(T:TX e):wI e:=by
 have S:=En
 exact T.Hi.okD S (fun ds Z Q h=>JW h) (fun cdv A outer s H E hr=>⟨pC,(ak (aP (i:=2) S.nd rfl (Or.inl rfl) ai)
  (ak (bA (aS ku eG (dv 1) (cS rfl T.eo (ae (dv 0) aj)) (aI _)) (au (aP (i:=2) S.nd rfl (Or.inl rfl) (aG (dv 0) (dv 1)))) aT)
  (ak (aP (i:=3) S.nd rfl (Or.inl rfl) ai)
  (ak (bA (aS El eG (zF rfl T.EI (ae (dv 2) aj)) (FX ai ai) (aI _)) (au (aP (i:=3) S.nd rfl (Or.inl rfl) (zF rfl T.EI (ae (dv 2) aj)))) aT)
  (ak (aP (i:=4) S.nd rfl (Or.inl rfl) (ej (ae ai (ae ai (ae ai (ae ai (ae ai (ae ai (ae ai (ae ai aj))))))))))
  (ak (aP (i:=5) S.nd rfl (Or.inl rfl) (bg (bg (bg (bF (l7 (dv 2) ai) ai) (bF (bF ai (dv 1)) (dv 1))) (bF ai (dv 1))) ai))
  (au (aC (lD (ae (dv 3) (ae (l7 (dv 5) (aG (dv 4) (l7 (dv 1) ai))) aj))))))))))),fun ds Z Qd h=>Fb h⟩)
theorem Di:aO ["_law_met","_law_column","_law_row","_law_columns","_law_found"] ["_law_met","_law_column","_law_row","_law_columns"] (aA gg):=by walk_at "s"
theorem Dy(T:TX e):ui e:=by
 have S:=Di
 exact T.FH.okD S (fun ds Z Q h=>Ht h) (fun cdv A outer s H E hr=>⟨oD,(ak (aP (i:=4) S.nd rfl (Or.inl rfl) ai)
  (ak (qe PassesOwn.never (DW.dt (CB (aS ku eG (bg (dv 1) (dv 4)) (dv 3) (aI _)) (xV (BL hr.units (aB (ae (bg (dv 1) (dv 4)) (ae (dv 2) aj))) (dv 0) (by with_unfolding_all rfl))))) (au (aP (i:=4) S.nd rfl (Or.inl rfl) (bg (dv 4) ai))))
  (au (aC (dv 4))))),fun ds Z Qd h=>Dc h⟩)
theorem tD:aO ["a","b","c"] ["a","b","c"] (aA cI):=by walk_at "s"
theorem uY(T:TX e)(eW:lN e):gC e:=by
 have S:=tD
 exact T.wm.okD S (fun ds Z Q h=>GG h) (fun cdv A outer s H E hr=>⟨gZ,(au (aC (aq eW (hr.mono ⋯) rfl T.mP T.nh T.mZ (ae (aq eW (hr.mono ⋯) rfl T.mP T.nh T.mZ (ae (dv 2) (ae (dv 0) aj))) (ae (dv 1) aj))))),fun ds Z Qd h=>tp h⟩)
theorem HE:aO ["d","x"] ["d","x"] (aA jT):=by walk_at "s"
theorem GO(T:TX e)(cV:ij e):rS e:=by
 have S:=HE
 exact T.Ka.okD S (fun ds Z Q h=>za h) (fun cdv A outer s H E hr=>⟨rL,(au (aC (aq cV (hr.mono ⋯) rfl T.oU T.oS T.o3 (ae (dv 0) (ae (aG (dv 1) ai) (ae (aG (dv 1) ai) aj)))))),fun ds Z Qd h=>Gd h⟩)
theorem FE:aO ["d","x","y","a","b"] ["d","x","y"] (aA ig):=by walk_at "s"
theorem EW(T:TX e)(cV:ij e):wN e:=by
 have S:=FE
 exact T.GA.okD S (fun ds Z Q h=>Es h) (fun cdv A outer s H E hr=>⟨pM,(ak (aP (i:=3) S.nd rfl (Or.inl rfl) (dG (bF (aG (dv 1) ai) (aG (dv 2) ai)) (bF (aG (dv 2) ai) (aG (dv 1) ai))))
  (ak (aP (i:=4) S.nd rfl (Or.inl rfl) (dG (bF (aG (dv 1) ai) (aG (dv 2) ai)) (bF (aG (dv 2) ai) (aG (dv 1) ai))))
  (au (aC (dJ (bZ hr.units) bq (aq cV (hr.mono ⋯) rfl T.oU T.oS T.o3 (ae (dv 0) (ae (dv 3) (ae (dv 4) aj)))) ai (aI _)))))),fun ds Z Qd h=>E2 h⟩)
theorem uU:aO ["_law_thing"] ["_law_thing"] (aA cE):=by walk_at "s"
theorem u6(T:TX e)(jg:nj e)(cC:kG e):gG e:=by
 have S:=uU
 exact T.vE.okD S (fun ds Z Q h=>yq h) (fun cdv A outer s H E hr=>⟨gI,(ak (bA (DW.dt (eB (cP (cu (ib (kit_tuple _) rfl T.bG rfl T.jK PyProof.Rows.Boot.«tuple» (dv 0)))) (eB (aS (jk hr.units) bq (cS rfl T.eo (ae (dv 0) aj)) ai (aI _)) (d9 (cP (cu (yb rfl rfl T.Ff (ae (j4 (N':=["_law_one"]) (cap:=[none]) rfl (Jw (nU (dv 0))) (fun _ _ _=>(av (i:=0) (show List.Nodup (["_law_one"]:List Str) by decide +kernel) rfl (Or.inl rfl))) (fun _ _ _=>df) (fun _ _ _=>(aq jg (hr.mono ⋯) rfl T.xA T.xq T.xG (ae (dv 0) aj))) rfl nofun rfl nofun (by walk_at "cl") (eJ rfl) rfl (dR trivial)) aj)))))))) (au (aC di)) aT)
  (au (aC (ir (dJ oO eG (aG (dv 0) ai) ai (aI _)) (jc (dJ (bZ hr.units) bq (aq cC (hr.mono ⋯) rfl T.iL T.iU T.iV (ae (aq cC (hr.mono ⋯) rfl T.iL T.iU T.iV (ae (aG (dv 0) ai) (ae (aG (dv 0) ai) aj))) (ae (aG (dv 0) ai) aj))) ai (aI _))))))),fun ds Z Qd h=>sU h⟩)
theorem Ez:aO ["_law_a","_law_b","_law_c","_law_common"] ["_law_a","_law_b","_law_c"] (aA iG):=by walk_at "s"
theorem EL(T:TX e)(cC:kG e):lh e:=by
 have S:=Ez
 exact T.Hk.okD S (fun ds Z Q h=>tM h) (fun cdv A outer s H E hr=>⟨pA,(ak (aP (i:=3) S.nd rfl (Or.inl rfl) (bF (aq cC (hr.mono ⋯) rfl T.iL T.iU T.iV (ae (aq cC (hr.mono ⋯) rfl T.iL T.iU T.iV (ae (dv 0) (ae (dv 1) aj))) (ae (dv 2) aj))) (aG (ej (ae ai (ae (kD ai) aj))) (pK rfl T.x6 (ae (dJ ku eG (dv 2) ai (aI _)) aj)))))
  (au (aC (aB (ae (jZ (dv 0) (dv 3)) (ae (jZ (dv 1) (dv 3)) (ae (jZ (dv 2) (dv 3)) aj))))))),fun ds Z Qd h=>Fq h⟩)
theorem Dz:aO ["_law_bag_here","_law_some"] ["_law_bag_here"] (aA gc):=by walk_at "s"
theorem CC(T:TX e)(ax:bH e):u9 e:=by
 have S:=Dz
 exact T.FJ.okD S (fun ds Z Q h=>FF h) (fun cdv A outer s H E hr=>⟨nJ,(ak (bA (aS (bZ hr.units) bq (aq (br ax @aV) (hr.mono ⋯) rfl T.aK T.aJ T.aL (ae (dv 0) (ae ai aj))) ai (aI _)) (au (aC (aG (ej (ae ai (ae ai (ae ai aj)))) (aq (br ax @aV) (hr.mono ⋯) rfl T.aK T.aJ T.aL (ae (dv 0) (ae ai aj)))))) aT)
  (ak (Cm (i:=1) (N':=["_law_d"]) (cap:=[none]) S.nd rfl rfl rfl (tE rfl T.g8 (ae ai (ae ai aj))) (fun _ _ _=>(av (i:=0) (show List.Nodup (["_law_d"]:List Str) by decide +kernel) rfl (Or.inl rfl))) (fun _ _ _=>(MY (aS (J7 hr.units) Qz (dv 0) (ej (ae ai (ae ai (ae ai (ae ai aj))))) (by with_unfolding_all rfl)))) (fun _ _ _=>(dv 0)) rfl nofun rfl nofun (by walk_at "cl") (eJ rfl) rfl (dR trivial))
  (au (aC (aG (dv 1) (aq (br ax @aV) (hr.mono ⋯) rfl T.aK T.aJ T.aL (ae (dv 0) (ae ai aj)))))))),fun ds Z Qd h=>CA h⟩)
theorem vY:aO ["_law_bag_here","_law_a","_law_b","_law_found"] ["_law_bag_here"] (aA cW):=by walk_at "s"
theorem vZ(T:TX e)(ax:bH e):mN e:=by
 have S:=vY
 exact T.xJ.okD S (fun ds Z Q h=>yB h) (fun cdv A outer s H E hr=>⟨ie,(ak (d8 (aB (ae (bg ai (aq (br ax @aV) (hr.mono ⋯) rfl T.aK T.aJ T.aL (ae (dv 0) (ae ai aj)))) (ae (bg ai (aq (br ax @aV) (hr.mono ⋯) rfl T.aK T.aJ T.aL (ae (dv 0) (ae ai aj)))) aj))) (bS (n:=2) rfl (aw (av (i:=1) S.nd rfl (Or.inr rfl)) (aw (av (i:=2) S.nd rfl (Or.inl rfl)) bC))))
  (ak (aP (i:=3) S.nd rfl (Or.inl rfl) (ej (ae (aB (ae ai (ae ai (ae (bg (dv 1) ai) (ae ai aj))))) (ae (aB (ae (bg (dv 1) ai) (ae ai (ae ai (ae (bg (dv 2) ai) aj))))) (ae (aB (ae ai (ae (bg (dv 2) ai) (ae (bg (dv 1) ai) (ae ai aj))))) (ae (aB (ae ai (ae ai (ae ai (ae (bg (dv 2) ai) aj))))) (ae (aB (ae ai (ae ai (ae (dv 1) (ae (dv 2) aj))))) aj)))))))
  (ak (bA (aS (bZ hr.units) bq (aq (br ax @aV) (hr.mono ⋯) rfl T.aK T.aJ T.aL (ae (dv 0) (ae ai aj))) ai (aI _)) (au (Cm (i:=3) (N':=["_law_column","_law_row","_law_wide","_law_high","_law_a"]) (cap:=[none,none,none,none,some 1]) S.nd rfl rfl rfl (iW (dv 3)) (fun _ _ _=>(bS (n:=4) rfl (aw (av (i:=0) (show List.Nodup (["_law_column","_law_row","_law_wide","_law_high","_law_a"]:List Str) by decide +kernel) rfl (Or.inl rfl)) (aw (av (i:=1) (show List.Nodup (["_law_column","_law_row","_law_wide","_law_high","_law_a"]:List Str) by decide +kernel) rfl (Or.inl rfl)) (aw (av (i:=2) (show List.Nodup (["_law_column","_law_row","_law_wide","_law_high","_law_a"]:List Str) by decide +kernel) rfl (Or.inl rfl)) (aw (av (i:=3) (show List.Nodup (["_law_column","_law_row","_law_wide","_law_high","_law_a"]:List Str) by decide +kernel) rfl (Or.inl rfl)) bC)))))) (fun _ _ _=>df) (fun _ _ _=>(aB (ae (dG (dG (bg (dv 4) ai) (dv 0)) (dv 2)) (ae (dv 1) (ae (dv 2) (ae (dv 3) aj)))))) rfl nofun rfl nofun (by walk_at "cl") (eJ rfl) rfl (dR ⟨Ag,trivial⟩))) aT)
  (au (aC (aB (ae (bg (dv 1) ai) (ae (bg (dv 2) ai) (ae (dv 3) aj))))))))),fun ds Z Qd h=>vU h⟩)
theorem Ay:aO ["_law_bag_here","_law_row","_law_rest"] ["_law_bag_here","_law_row"] (aA eX):=by walk_at "s"
theorem Aa(T:TX e)(ax:bH e):rA e:=by
 have S:=Ay
 exact T.Ct.okD S (fun ds Z Q h=>Cc h) (fun cdv A outer s H E hr=>⟨mn,(ak (aP (i:=2) S.nd rfl (Or.inr rfl) (LP rfl T.HR (ae (dv 1) aj)))
  (au (aC (yD (N':=["_law_thing","_law_rest","_law_bag_here"]) (cap:=[none,some 2,some 0]) rfl (iW (dv 1)) (fun _ _ _=>(av (i:=0) (show List.Nodup (["_law_thing","_law_rest","_law_bag_here"]:List Str) by decide +kernel) rfl (Or.inl rfl))) (fun _ _ _=>df) (fun _ _ _=>(Ky (dv 1) (aq (br ax @aV) (hr.mono ⋯) rfl T.aK T.aJ T.aL (ae (dv 2) (ae (cS rfl T.eo (ae (dv 1) aj)) aj))))) rfl nofun rfl nofun (by walk_at "cl") (eJ rfl) rfl (dR ⟨Ag,⟨Ag,trivial⟩⟩))))),fun ds Z Qd h=>Ba h⟩)
theorem sM:aO ["_law_bag_here","_law_draw"] ["_law_bag_here"] (aA cp):=by walk_at "s"
theorem se(T:TX e)(ax:bH e):j6 e:=by
 have S:=sM
 exact T.tN.okD S (fun ds Z Q h=>Fp h) (fun cdv A outer s H E hr=>⟨fR,(ak (aP (i:=1) S.nd rfl (Or.inl rfl) (aq (br ax @aV) (hr.mono ⋯) rfl T.aK T.aJ T.aL (ae (dv 0) (ae ai aj))))
  (ak (bA (aS (bZ hr.units) bq (dv 1) ai (aI _)) (au (aC (aG (ej (ae (aB (ae ai (ae ai aj))) (ae (aB (ae ai (ae ai aj))) (ae (aB (ae ai (ae ai aj))) (ae (aB (ae ai (ae ai aj))) (ae (aB (ae ai (ae ai aj))) (ae (aB (ae ai (ae ai aj))) aj))))))) (aq (br ax @aV) (hr.mono ⋯) rfl T.aK T.aJ T.aL (ae (dv 0) (ae ai aj)))))) aT)
  (ak (bA (aS ku eG (dv 1) ai (aI _)) (au (aC (aB (ae (bg ai (aq (br ax @aV) (hr.mono ⋯) rfl T.aK T.aJ T.aL (ae (dv 0) (ae ai aj)))) (ae (bg ai (aq (br ax @aV) (hr.mono ⋯) rfl T.aK T.aJ T.aL (ae (dv 0) (ae ai aj)))) aj))))) aT)
  (au (aC (aB (ae (bg ai (aq (br ax @aV) (hr.mono ⋯) rfl T.aK T.aJ T.aL (ae (dv 0) (ae ai aj)))) (ae (bg ai (aq (br ax @aV) (hr.mono ⋯) rfl T.aK T.aJ T.aL (ae (dv 0) (ae ai aj)))) aj)))))))),fun ds Z Qd h=>rM h⟩)
theorem yP:aO ["_law_bag_here","_law_columns","_law_rows","_law_met","_law_found","_law_most","_law_row","_law_column","_law_wide","_law_high","_law_k"] ["_law_bag_here","_law_columns","_law_rows"] (aA dY):=by walk_at "s"
theorem x9(T:TX e)(ax:bH e)(pP:ui e):qu e:=by
 have S:=yP
 exact NG (T.Ah.okD S (fun ds Z Q h=>A0 h) (fun cdv A outer s H E hr=>⟨j2,(ak (aP (i:=3) S.nd rfl (Or.inl rfl) v5)
  (ak (aP (i:=4) S.nd rfl (Or.inl rfl) (lD aj))
  (ak (aP (i:=5) S.nd rfl (Or.inl rfl) (aG (ej (ae ai (ae ai (ae ai (ae ai aj))))) (aq ax (hr.mono ⋯) rfl T.aK T.aJ T.aL (ae (dv 0) (ae ai aj)))))
  (ak (fg PassesOwn.never rfl (qF rfl T.g8 (ae (dv 2) aj)) (av (i:=6) S.nd rfl (Or.inl rfl)) (au (fg PassesOwn.never rfl (qF rfl T.g8 (ae (dv 1) aj)) (av (i:=7) S.nd rfl (Or.inl rfl)) (au (bA (BL hr.units (aB (ae (dv 7) (ae (dv 6) aj))) (dv 3) (by with_unfolding_all rfl)) (ak (aP (i:=8) S.nd rfl (Or.inl rfl) (bg ai (aq ax (hr.mono ⋯) rfl T.aK T.aJ T.aL (ae (dv 0) (ae (HF rfl rfl T.Mf (ae (dv 5) (ae (aq pP (hr.mono ⋯) rfl T.EH T.Ek T.Fo (ae (dv 3) (ae (dv 7) (ae (dv 6) (ae (dv 1) aj))))) aj))) aj)))))
  (ak (aP (i:=9) S.nd rfl (Or.inl rfl) (bg ai (aq ax (hr.mono ⋯) rfl T.aK T.aJ T.aL (ae (dv 0) (ae (HF rfl rfl T.Mf (ae (dv 5) (ae (dG (dv 2) (dv 6)) aj))) aj)))))
  (ak (jG (nE (dv 4) (aB (ae (dv 7) (ae (dv 6) (ae (dv 8) (ae (dv 9) aj)))))))
  (au (fg PassesOwn.never rfl (qF rfl T.g8 (ae (bF (dv 8) (dv 9)) aj)) (av (i:=10) S.nd rfl (Or.inl rfl)) (au (Cd hr.units (dv 3) (aB (ae (bg (dv 7) (l7 (dv 10) (dv 8))) (ae (bg (dv 6) (jZ (dv 10) (dv 8))) aj))) di))))))) aT)))))
  (au (aC (dv 4))))))),fun ds Z Qd h=>yC h⟩)) (fun ds Z Qd h=>xx h)
theorem Ei:aO ["_law_bag_here","_law_some"] ["_law_bag_here"] (aA iD):=by walk_at "s"
theorem Fx(T:TX e)(ax:bH e):k9 e:=by
 have S:=Ei
 exact T.Gb.okD S (fun ds Z Q h=>JV h) (fun cdv A outer s H E hr=>⟨qh,(ak (aP (i:=1) S.nd rfl (Or.inl rfl) (ej (ae CL (ae di (ae di (ae Gk (ae Gk (ae (kD ai) (ae ai (ae ai (ae (FX ai ai) (ae (aB aj) (ae (ej aj) (ae (ej (ae ai aj)) (ae (aB (ae ai (ae ai aj))) (ae (aB (ae ai (ae ai (ae ai aj)))) (ae (aB (ae ai (ae ai (ae ai aj)))) (ae (aB (ae ai (ae di (ae ai aj)))) (ae (aB (ae ai (ae ai (ae (kD ai) aj)))) (ae (ej (ae ai (ae ai (ae ai aj)))) (ae (aB (ae ai (ae ai aj))) (ae Gk aj))))))))))))))))))))))
  (au (aC (aG (dv 1) (aq (br ax @aV) (hr.mono ⋯) rfl T.aK T.aJ T.aL (ae (dv 0) (ae ai aj))))))),fun ds Z Qd h=>Fl h⟩)
theorem tQ:aO ["_law_bag_here","_law_laying_here","_law_width","_law_height","_law_tiles","_law_i","_law_j","_law_one","_law_other","_law_some"] ["_law_bag_here","_law_laying_here"] (aA cD):=by walk_at "s"
theorem tU(T:TX e)(ax:bH e)(bj:jt e):lA e:=by
 have S:=tQ
 exact T.vM.okD S (fun ds Z Q h=>Hq h) (fun cdv A outer s H E hr=>⟨gO,(ak (d8 (dv 1) (bS (n:=3) rfl (aw (av (i:=2) S.nd rfl (Or.inl rfl)) (aw (av (i:=3) S.nd rfl (Or.inl rfl)) (aw (av (i:=4) S.nd rfl (Or.inl rfl)) bC)))))
  (ak (nW (i:=5) (j:=6) rfl S.nd rfl rfl ⋯ rfl rfl (ae (aq (br ax @aV) (hr.mono ⋯) rfl T.aK T.aJ T.aL (ae (dv 0) (ae (cS rfl T.eo (ae (dv 4) aj)) aj))) (ae (aq (br ax @aV) (hr.mono ⋯) rfl T.aK T.aJ T.aL (ae (dv 0) (ae (cS rfl T.eo (ae (dv 4) aj)) aj))) aj)) rfl)
  (ak (nW (i:=7) (j:=8) rfl S.nd rfl rfl ⋯ rfl rfl (ae (aG (dv 4) (dv 5)) (ae (aG (dv 4) (dv 6)) aj)) rfl)
  (ak (aP (i:=9) S.nd rfl (Or.inl rfl) (aq bj (hr.mono ⋯) rfl T.bR T.bO T.bP (ae (dv 4) (ae (dv 5) (ae (aB (ae (aG (dv 8) ai) (ae (aG (dv 8) ai) (ae (aG (dv 7) ai) (ae (aG (dv 7) ai) aj))))) aj)))))
  (ak (bA (aS (jk hr.units) bq (dv 5) (dv 6) (aI _)) (au (aP (i:=9) S.nd rfl (Or.inl rfl) (aq bj (hr.mono ⋯) rfl T.bR T.bO T.bP (ae (dv 9) (ae (dv 6) (ae (aB (ae (aG (dv 7) ai) (ae (aG (dv 7) ai) (ae (aG (dv 8) ai) (ae (aG (dv 8) ai) aj))))) aj)))))) aT)
  (au (aC (aB (ae (dv 2) (ae (dv 3) (ae (dv 9) aj))))))))))),fun ds Z Qd h=>uA h⟩)
theorem C0:aO ["thing","a","b","c"] ["thing"] (aA gk):=by walk_at "s"
theorem CV(T:TX e)(kz:wL e)(cG:gC e):oI e:=by
 have S:=C0
 exact T.Fi.okD S (fun ds Z Q h=>yq h) (fun cdv A outer s H E hr=>⟨oj,(ak (bA (DW.dt (eB (cP (cu (ib (kit_tuple _) rfl T.bG rfl T.jK PyProof.Rows.Boot.«tuple» (dv 0)))) (d9 (aS (jk hr.units) bq (cS rfl T.eo (ae (dv 0) aj)) ai (aI _))))) (au (aC di)) aT)
  (ak (d8 (dv 0) (bS (n:=3) rfl (aw (av (i:=1) S.nd rfl (Or.inl rfl)) (aw (av (i:=2) S.nd rfl (Or.inl rfl)) (aw (av (i:=3) S.nd rfl (Or.inl rfl)) bC)))))
  (ak (bA (DW.dt (eB (cP (cu (aq kz (hr.mono ⋯) rfl T.sv T.rX T.sO (ae (dv 1) aj)))) (eB (cP (cu (aq kz (hr.mono ⋯) rfl T.sv T.rX T.sO (ae (dv 2) aj)))) (d9 (cP (cu (aq kz (hr.mono ⋯) rfl T.sv T.rX T.sO (ae (dv 3) aj)))))))) (au (aC di)) aT)
  (au (aC (ir (dJ El eG (dv 3) ai (aI _)) (jc (dJ (bZ hr.units) bq (aq cG (hr.mono ⋯) rfl T.mY T.mL T.mQ (ae (dv 1) (ae (dv 2) (ae (dv 3) aj)))) ai (aI _))))))))),fun ds Z Qd h=>Dg h⟩)
theorem JG:aO ["a","b","c","divisor"] ["a","b","c"] (aA nH):=by walk_at "s"
theorem JO(T:TX e)(cG:gC e):Bp e:=by
 have S:=JG
 exact T.Ma.okD S (fun ds Z Q h=>tM h) (fun cdv A outer s H E hr=>⟨vC,(ak (bA (aS (bZ hr.units) bq (dv 2) ai (aI _)) (au K3) aT)
  (ak (aP (i:=3) S.nd rfl (Or.inl rfl) (aq cG (hr.mono ⋯) rfl T.mY T.mL T.mQ (ae (dv 0) (ae (dv 1) (ae (dv 2) aj)))))
  (ak (bA (aS ku eG (dv 2) ai (aI _)) (au (aP (i:=3) S.nd rfl (Or.inl rfl) (kD (dv 3)))) aT)
  (au (aC (aB (ae (jZ (dv 0) (dv 3)) (ae (jZ (dv 1) (dv 3)) (ae (jZ (dv 2) (dv 3)) aj))))))))),fun ds Z Qd h=>JT h⟩)
theorem zb:aO ["d","marks","x","low","high","middle"] ["d","marks","x"] (aA d6):=by walk_at "s"
theorem y6(T:TX e)(sD:wN e):qd e:=by
 have S:=zb
 exact T.Ap.okD S (fun ds Z Q h=>B5 h) (fun cdv A outer s H E hr=>⟨kh,(ak (aP (i:=3) S.nd rfl (Or.inl rfl) ai)
  (ak (aP (i:=4) S.nd rfl (Or.inl rfl) (cS rfl T.eo (ae (dv 1) aj)))
  (ak (qe PassesOwn.never (aS ku eG (dv 3) (dv 4) (aI _)) (ak (aP (i:=5) S.nd rfl (Or.inl rfl) (jZ (bg (dv 3) (dv 4)) ai))
  (au (bA (cu (aq sD (hr.mono ⋯) rfl T.Hx T.Gj T.Gw (ae (dv 0) (ae (dv 2) (ae (aG (dv 1) (dv 5)) aj))))) (au (aP (i:=3) S.nd rfl (Or.inl rfl) (bg (dv 5) ai))) (au (aP (i:=4) S.nd rfl (Or.inl rfl) (dv 5)))))))
  (au (aC (dv 3)))))),fun ds Z Qd h=>y7 h⟩)
theorem vy:aO ["_law_d","_law_thing"] ["_law_d","_law_thing"] (aA cY):=by walk_at "s"
theorem wc(T:TX e)(cH:gG e)(bN:gW e):iu e:=by
 have S:=vy
 exact T.xt.okD S (fun ds Z Q h=>ug h) (fun cdv A outer s H E hr=>⟨iw,(au (aC (ir (aq cH (hr.mono ⋯) rfl T.ni T.mK T.nu (ae (dv 1) aj)) (jc (dJ oO eG (aq bN (hr.mono ⋯) rfl T.i4 T.i8 T.i3 (ae (dv 0) (ae (dv 1) aj))) ai (aI _)))))),fun ds Z Qd h=>wu h⟩)
theorem BX:aO ["_law_x","_law_y"] ["_law_x","_law_y"] (aA fX):=by walk_at "s"
theorem Df(T:TX e)(cL:lh e):eT e:=by
 have S:=BX
 exact T.EV.okD S (fun ds Z Q h=>x8 h) (fun cdv A outer s H E hr=>⟨uG,(au (aC (aq cL (hr.mono ⋯) rfl T.kI T.j9 T.kB (ae (bg (bF (aG (dv 0) ai) (aG (dv 1) ai)) (bF (aG (dv 1) ai) (aG (dv 0) ai))) (ae (bg (bF (aG (dv 0) ai) (aG (dv 1) ai)) (bF (aG (dv 1) ai) (aG (dv 0) ai))) (ae (bF (aG (dv 0) ai) (aG (dv 1) ai)) aj)))))),fun ds Z Qd h=>BS h⟩)
theorem Cy:aO ["_law_bag_here","_law_d","_law_way","_law_x","_law_sign_here"] ["_law_bag_here","_law_d","_law_way"] (aA gi):=by walk_at "s"
theorem CS(T:TX e)(ax:bH e)(cL:lh e)(bN:gW e)(cw:iK e):tV e:=by
 have S:=Cy
 exact T.Eo.okD S (fun ds Z Q h=>EK h) (fun cdv A outer s H E hr=>⟨nR,(ak (bA (aS (bZ hr.units) bq (dv 2) ai (aI _)) (au (aC (aB (ae (bg ai (aq (br ax @aV) (hr.mono ⋯) rfl T.aK T.aJ T.aL (ae (dv 0) (ae ai aj)))) (ae ai (ae ai aj)))))) aT)
  (ak (bA (aS (bZ hr.units) bq (dv 2) ai (aI _)) (au (aC (aq cL (hr.mono ⋯) rfl T.kI T.j9 T.kB (ae (bg ai (aq (br ax @aV) (hr.mono ⋯) rfl T.aK T.aJ T.aL (ae (dv 0) (ae ai aj)))) (ae ai (ae (bg ai (aq (br ax @aV) (hr.mono ⋯) rfl T.aK T.aJ T.aL (ae (dv 0) (ae ai aj)))) aj)))))) aT)
  (ak (aP (i:=3) S.nd rfl (Or.inl rfl) (aq cL (hr.mono ⋯) rfl T.kI T.j9 T.kB (ae (dG (aq (br ax @aV) (hr.mono ⋯) rfl T.aK T.aJ T.aL (ae (dv 0) (ae ai aj))) ai) (ae (dG (aq (br ax @aV) (hr.mono ⋯) rfl T.aK T.aJ T.aL (ae (dv 0) (ae ai aj))) ai) (ae (bg ai (aq (br ax @aV) (hr.mono ⋯) rfl T.aK T.aJ T.aL (ae (dv 0) (ae ai aj)))) aj)))))
  (ak (aP (i:=4) S.nd rfl (Or.inl rfl) (aq bN (hr.mono ⋯) rfl T.i4 T.i8 T.i3 (ae (dv 1) (ae (dv 3) aj))))
  (ak (bA (aS (bZ hr.units) bq (dv 4) ai (aI _)) (au (aC (aB (ae ai (ae ai (ae ai aj)))))) aT)
  (au (aC (ES (aS oO eG (dv 4) ai (aI _)) (dv 3) (aq cw (hr.mono ⋯) rfl T.n4 T.nO T.oK (ae (dv 3) aj)))))))))),fun ds Z Qd h=>DV h⟩)
theorem NK:aO ["x","y"] ["x","y"] (aA wo):=by walk_at "s"
theorem dn(T:TX e)(yU:Bp e):IC e:=by
 have S:=NK
 exact T.Po.okD S (fun ds Z Q h=>x8 h) (fun cdv A outer s H E hr=>⟨C5,(au (aC (aq yU (hr.mono ⋯) rfl T.Ms T.KW T.K9 (ae (bg (bF (aG (dv 0) ai) (aG (dv 1) ai)) (bF (aG (dv 1) ai) (aG (dv 0) ai))) (ae (bg (bF (aG (dv 0) ai) (aG (dv 1) ai)) (bF (aG (dv 1) ai) (aG (dv 0) ai))) (ae (bF (aG (dv 0) ai) (aG (dv 1) ai)) aj)))))),fun ds Z Qd h=>IF h⟩)
theorem rO:aO ["d","thing"] ["d","thing"] (aA cm):=by walk_at "s"
theorem sL(T:TX e)(eM:oI e)(il:rS e):fV e:=by
 have S:=rO
 exact T.uK.okD S (fun ds Z Q h=>ug h) (fun cdv A outer s H E hr=>⟨fK,(au (aC (ir (aq eM (hr.mono ⋯) rfl T.pH T.pj T.pG (ae (dv 1) aj)) (jc (dJ (bZ hr.units) bq (aq il (hr.mono ⋯) rfl T.vp T.vj T.vi (ae (dv 0) (ae (dv 1) aj))) ai (aI _)))))),fun ds Z Qd h=>rW h⟩)
theorem xj:aO ["d","found","marks","x","place"] ["d","found"] (aA dy):=by walk_at "s"
theorem xF(T:TX e)(mC:qd e):oT e:=by
 have S:=xj
 exact vQ (T.zc.okD S (fun ds Z Q h=>CQ h) (fun cdv A outer s H E hr=>⟨jv,(ak (aP (i:=2) S.nd rfl (Or.inl rfl) (lD aj))
  (ak (fg PassesOwn.never rfl (iW (dv 1)) (av (i:=3) S.nd rfl (Or.inl rfl)) (ak (aP (i:=4) S.nd rfl (Or.inl rfl) (aq mC (hr.mono ⋯) rfl T.A5 T.Ad T.AK (ae (dv 0) (ae (dv 2) (ae (dv 3) aj)))))
  (au (bA (DW.dt (eB (aS (bZ hr.units) bq (dv 4) (cS rfl T.eo (ae (dv 2) aj)) (aI _)) (d9 (aS (jk hr.units) bq (aG (dv 2) (dv 4)) (dv 3) (aI _))))) (au (jG (BG (dv 2) (dv 4) (dv 3)))) aT))))
  (au (aC (dv 2))))),fun ds Z Qd h=>xI h⟩)) (fun ds Z Qd h=>vF h)
theorem xk:aO ["_law_d","_law_thing"] ["_law_d","_law_thing"] (aA dw):=by walk_at "s"
theorem xK(T:TX e)(cH:gG e)(bN:gW e)(bT:iu e):oZ e:=by
 have S:=xk
 exact T.zq.okD S (fun ds Z Q h=>zp h) (fun cdv A outer s H E hr=>⟨jl,(ak (bA (DW.dt (eB (cP (cu (ib (kit_tuple _) rfl T.bG rfl T.jK PyProof.Rows.Boot.«tuple» (dv 1)))) (eB (aS (jk hr.units) bq (cS rfl T.eo (ae (dv 1) aj)) ai (aI _)) (d9 (cP (cu (yb rfl rfl T.Ff (ae (j4 (N':=["_law_one"]) (cap:=[none]) rfl (Jw (nU (dv 1))) (fun _ _ _=>(av (i:=0) (show List.Nodup (["_law_one"]:List Str) by decide +kernel) rfl (Or.inl rfl))) (fun _ _ _=>df) (fun _ _ _=>(aq cH (hr.mono ⋯) rfl T.ni T.mK T.nu (ae (dv 0) aj))) rfl nofun rfl nofun (by walk_at "cl") (eJ rfl) rfl (dR trivial)) aj)))))))) (au (aC di)) aT)
  (ak (bA (DW.dt (eB (aS ku eG (aq bN (hr.mono ⋯) rfl T.i4 T.i8 T.i3 (ae (dv 0) (ae (aG (dv 1) ai) aj))) ai (aI _)) (d9 (aS ku eG (aq bN (hr.mono ⋯) rfl T.i4 T.i8 T.i3 (ae (dv 0) (ae (aG (dv 1) ai) aj))) ai (aI _))))) (au (aC di)) aT)
  (au (aC (ir (aq bT (hr.mono ⋯) rfl T.fA T.fD T.fq (ae (dv 0) (ae (aG (dv 1) ai) aj))) (jc (aq bT (hr.mono ⋯) rfl T.fA T.fD T.fq (ae (dv 0) (ae (aG (dv 1) ai) aj))))))))),fun ds Z Qd h=>w8 h⟩)
theorem Aw:aO ["_law_d","_law_x","_law_y"] ["_law_d","_law_x","_law_y"] (aA eS):=by walk_at "s"
theorem Aq(T:TX e)(bN:gW e)(bB:eT e)(cw:iK e):rD e:=by
 have S:=Aw
 exact T.CW.okD S (fun ds Z Q h=>EZ h) (fun cdv A outer s H E hr=>⟨mv,(au (aC (dJ oO eG (aq bN (hr.mono ⋯) rfl T.i4 T.i8 T.i3 (ae (dv 0) (ae (aq bB (hr.mono ⋯) rfl T.gz T.gu T.gb (ae (dv 2) (ae (aq cw (hr.mono ⋯) rfl T.n4 T.nO T.oK (ae (dv 1) aj)) aj))) aj))) ai (aI _)))),fun ds Z Qd h=>Al h⟩)
theorem Cz:aO ["_law_sides_here","_law_found","_law_side_here"] ["_law_sides_here"] (aA gw):=by walk_at "s"
theorem Dh(T:TX e)(bB:eT e):tw e:=by
 have S:=Cz
 exact vQ (T.EN.okD S (fun ds Z Q h=>Ep h) (fun cdv A outer s H E hr=>⟨n5,(ak (aP (i:=1) S.nd rfl (Or.inl rfl) (lD (ae (aB (ae ai (ae ai (ae ai aj)))) aj)))
  (ak (fg PassesOwn.never rfl (iW (dv 0)) (av (i:=2) S.nd rfl (Or.inl rfl)) (au (jG (nE (dv 1) (aq bB (hr.mono ⋯) rfl T.gz T.gu T.gb (ae (aG (dv 1) (kD ai)) (ae (dv 2) aj)))))))
  (au (aC (dv 1))))),fun ds Z Qd h=>CN h⟩)) (fun ds Z Qd h=>AN h)
theorem AZ:aO ["_law_bag_here","_law_d","_law_many","_law_way"] ["_law_bag_here","_law_d","_law_many"] (aA fc):=by walk_at "s"
theorem AS(T:TX e)(ax:bH e)(k0:tV e):rC e:=by
 have S:=AZ
 exact T.CO.okD S (fun ds Z Q h=>FK h) (fun cdv A outer s H E hr=>⟨lU,(ak (aP (i:=3) S.nd rfl (Or.inr rfl) (aq (br ax @aV) (hr.mono ⋯) rfl T.aK T.aJ T.aL (ae (dv 0) (ae ai aj))))
  (ak (bA (aS (bZ hr.units) bq (aq (br ax @aV) (hr.mono ⋯) rfl T.aK T.aJ T.aL (ae (dv 0) (ae ai aj))) ai (aI _)) (au (aC (O8 (ej (ae (aq k0 (hr.mono ⋯) rfl T.wR T.wO T.wJ (ae (dv 0) (ae (dv 1) (ae (dv 3) aj)))) aj)) (dv 2)))) aT)
  (au (aC (yD (N':=["_law_k","_law_bag_here","_law_d","_law_way"]) (cap:=[none,some 0,some 1,some 3]) rfl (qF rfl T.g8 (ae (dv 2) aj)) (fun _ _ _=>(av (i:=0) (show List.Nodup (["_law_k","_law_bag_here","_law_d","_law_way"]:List Str) by decide +kernel) rfl (Or.inl rfl))) (fun _ _ _=>df) (fun _ _ _=>(aq k0 (hr.mono ⋯) rfl T.wR T.wO T.wJ (ae (dv 1) (ae (dv 2) (ae (dv 3) aj))))) rfl nofun rfl nofun (by walk_at "cl") (eJ rfl) rfl (dR ⟨Ag,⟨Ag,⟨Ag,trivial⟩⟩⟩)))))),fun ds Z Qd h=>As h⟩)
theorem Cw:aO ["_law_x","_law_y"] ["_law_x","_law_y"] (aA gA):=by walk_at "s"
theorem B9(T:TX e)(bB:eT e)(cw:iK e):uE e:=by
 have S:=Cw
 exact T.FN.okD S (fun ds Z Q h=>Gq h) (fun cdv A outer s H E hr=>⟨nV,(au (aC (aq bB (hr.mono ⋯) rfl T.gz T.gu T.gb (ae (dv 0) (ae (aq cw (hr.mono ⋯) rfl T.n4 T.nO T.oK (ae (dv 1) aj)) aj))))),fun ds Z Qd h=>Cq h⟩)
theorem rm:aO ["_law_bag_here","_law_x","_law_a","_law_b","_law_c","_law_some"] ["_law_bag_here","_law_x"] (aA bX):=by walk_at "s"
theorem rj(T:TX e)(bB:eT e)(cL:lh e)(dQ:k9 e)(ax:bH e):jC e:=by
 have S:=rm
 exact T.sj.okD S (fun ds Z Q h=>AO h) (fun cdv A outer s H E hr=>⟨fj,(ak (d8 (dv 1) (bS (n:=3) rfl (aw (av (i:=2) S.nd rfl (Or.inl rfl)) (aw (av (i:=3) S.nd rfl (Or.inl rfl)) (aw (av (i:=4) S.nd rfl (Or.inl rfl)) bC)))))
  (ak (aP (i:=5) S.nd rfl (Or.inl rfl) (ej (ae (aB (ae (bg (dv 2) ai) (ae (dv 3) (ae (dv 4) aj)))) (ae (aB (ae (dG (dv 2) ai) (ae (dv 3) (ae (dv 4) aj)))) (ae (aB (ae (dv 2) (ae (bg (dv 3) ai) (ae (dv 4) aj)))) (ae (aB (ae (dv 2) (ae (dG ai (dv 3)) (ae (dv 4) aj)))) (ae (aB (ae (dG ai (dv 2)) (ae (dG ai (dv 3)) (ae (dv 4) aj)))) (ae (aB (ae (bF (dv 2) ai) (ae (bF (dv 3) ai) (ae (bF (dv 4) ai) aj)))) (ae (aB (ae (dv 2) (ae (dv 3) (ae (dG ai (dv 4)) aj)))) (ae (ej (ae (dv 2) (ae (dv 3) (ae (dv 4) aj)))) (ae (aB (ae (dv 2) (ae (dv 3) aj))) (ae (aB (ae (dv 2) (ae (dv 3) (ae (dv 4) (ae ai aj))))) (ae (aB (ae ai (ae ai (ae ai aj)))) (ae (aq bB (hr.mono ⋯) rfl T.gz T.gu T.gb (ae (dv 1) (ae (aB (ae ai (ae ai (ae ai aj)))) aj))) (ae (aq cL (hr.mono ⋯) rfl T.kI T.j9 T.kB (ae (dv 2) (ae (dv 3) (ae (bg (dv 4) ai) aj)))) (ae (aq cL (hr.mono ⋯) rfl T.kI T.j9 T.kB (ae (bF (dv 2) ai) (ae (bF (dv 3) ai) (ae (dv 4) aj)))) (ae (aq dQ (hr.mono ⋯) rfl T.sJ T.sI T.sf (ae (dv 0) aj)) (ae (aB (ae (dv 2) (ae (dv 3) (ae di aj)))) aj))))))))))))))))))
  (au (aC (aG (dv 5) (aq (br ax @aV) (hr.mono ⋯) rfl T.aK T.aJ T.aL (ae (dv 0) (ae ai aj)))))))),fun ds Z Qd h=>rf h⟩)
theorem G8:aO ["d","thing","x","y","width","height"] ["d","thing"] (aA jU):=by walk_at "s"
theorem Gi(T:TX e)(eM:oI e)(il:rS e)(bK:fV e):yZ e:=by
 have S:=G8
 exact T.Kn.okD S (fun ds Z Q h=>zp h) (fun cdv A outer s H E hr=>⟨si,(ak (bA (DW.dt (eB (cP (cu (ib (kit_tuple _) rfl T.bG rfl T.jK PyProof.Rows.Boot.«tuple» (dv 1)))) (d9 (aS (jk hr.units) bq (cS rfl T.eo (ae (dv 1) aj)) ai (aI _))))) (au (aC di)) aT)
  (ak (d8 (dv 1) (bS (n:=4) rfl (aw (av (i:=2) S.nd rfl (Or.inl rfl)) (aw (av (i:=3) S.nd rfl (Or.inl rfl)) (aw (av (i:=4) S.nd rfl (Or.inl rfl)) (aw (av (i:=5) S.nd rfl (Or.inl rfl)) bC))))))
  (ak (bA (DW.dt (eB (cP (cu (aq eM (hr.mono ⋯) rfl T.pH T.pj T.pG (ae (dv 2) aj)))) (eB (cP (cu (aq eM (hr.mono ⋯) rfl T.pH T.pj T.pG (ae (dv 3) aj)))) (eB (aS ku eG (aq il (hr.mono ⋯) rfl T.vp T.vj T.vi (ae (dv 0) (ae (dv 2) aj))) ai (aI _)) (d9 (aS ku eG (aq il (hr.mono ⋯) rfl T.vp T.vj T.vi (ae (dv 0) (ae (dv 3) aj))) ai (aI _))))))) (au (aC di)) aT)
  (au (aC (ir (aq bK (hr.mono ⋯) rfl T.eC T.eD T.eA (ae (dv 0) (ae (dv 4) aj))) (jc (aq bK (hr.mono ⋯) rfl T.eC T.eD T.eA (ae (dv 0) (ae (dv 5) aj)))))))))),fun ds Z Qd h=>G4 h⟩)
theorem Dp:aO ["tile","x","y","width","height"] ["tile"] (aA gB):=by walk_at "s"
theorem Cu(T:TX e)(B4:IC e):tL e:=by
 have S:=Dp
 exact T.E1.okD S (fun ds Z Q h=>AQ h) (fun cdv A outer s H E hr=>⟨oi,(ak (d8 (dv 0) (bS (n:=4) rfl (aw (av (i:=1) S.nd rfl (Or.inl rfl)) (aw (av (i:=2) S.nd rfl (Or.inl rfl)) (aw (av (i:=3) S.nd rfl (Or.inl rfl)) (aw (av (i:=4) S.nd rfl (Or.inl rfl)) bC))))))
  (au (aC (aB (ae (dv 1) (ae (aq B4 (hr.mono ⋯) rfl T.Ku T.LJ T.LH (ae (dv 1) (ae (dv 3) aj))) (ae (dv 2) (ae (aq B4 (hr.mono ⋯) rfl T.Ku T.LJ T.LH (ae (dv 2) (ae (dv 4) aj))) aj)))))))),fun ds Z Qd h=>C3 h⟩)
theorem xC:aO ["_law_d","_law_row","_law_found","_law_one","_law_low_here","_law_high","_law_middle"] ["_law_d","_law_row"] (aA du):=by walk_at "s"
theorem xi(T:TX e)(nQ:rD e):oV e:=by
 have S:=xC
 exact vQ (T.y8.okD S (fun ds Z Q h=>zB h) (fun cdv A outer s H E hr=>⟨jq,(ak (aP (i:=2) S.nd rfl (Or.inl rfl) (lD aj))
  (ak (N6 PassesOwn.never rfl (dv 1) (av (i:=3) S.nd rfl (Or.inl rfl)) (ak (nW (i:=4) (j:=5) rfl S.nd rfl rfl ⋯ rfl rfl (ae ai (ae (cS rfl T.eo (ae (dv 2) aj)) aj)) rfl)
  (ak (qe PassesOwn.never (aS ku eG (dv 4) (dv 5) (aI _)) (ak (aP (i:=6) S.nd rfl (Or.inl rfl) (jZ (bg (dv 4) (dv 5)) ai))
  (au (bA (cu (aq nQ (hr.mono ⋯) rfl T.Du T.Dl T.Dr (ae (dv 0) (ae (aG (dv 2) (dv 6)) (ae (dv 3) aj))))) (au (aP (i:=4) S.nd rfl (Or.inl rfl) (bg (dv 6) ai))) (au (aP (i:=5) S.nd rfl (Or.inl rfl) (dv 6)))))))
  (au (bA (DW.dt (eB (aS (bZ hr.units) bq (dv 4) (cS rfl T.eo (ae (dv 2) aj)) (aI _)) (d9 (aS (jk hr.units) bq (aG (dv 2) (dv 4)) (dv 3) (aI _))))) (au (jG (BG (dv 2) (dv 4) (dv 3)))) aT)))))
  (au (aC (dv 2))))),fun ds Z Qd h=>xH h⟩)) (fun ds Z Qd h=>ve h)
theorem AF:aO ["_law_bag_here","_law_d","_law_columns","_law_rows","_law_blocks_here","_law_xs","_law_ys","_law_tiles","_law_column","_law_row","_law_wide","_law_high","_law_width","_law_height"] ["_law_bag_here","_law_d","_law_columns","_law_rows","_law_blocks_here"] (aA eR):=by walk_at "s"
theorem Am(T:TX e)(lC:tw e)(jO:rC e)(oo:rA e)(kS:uE e):rF e:=by
 have S:=AF
 exact T.Cg.okD S (fun ds Z Q h=>Ca h) (fun cdv A outer s H E hr=>⟨mh,(ak (nW (i:=5) (j:=6) rfl S.nd rfl rfl ⋯ rfl rfl (ae (aq lC (hr.mono ⋯) rfl T.wD T.wY T.wH (ae (aq jO (hr.mono ⋯) rfl T.sZ T.sX T.u4 (ae (dv 0) (ae (dv 1) (ae (dv 2) aj)))) aj)) (ae (aq lC (hr.mono ⋯) rfl T.wD T.wY T.wH (ae (aq jO (hr.mono ⋯) rfl T.sZ T.sX T.u4 (ae (dv 0) (ae (dv 1) (ae (dv 3) aj)))) aj)) aj)) rfl)
  (ak (aP (i:=7) S.nd rfl (Or.inl rfl) (lD aj))
  (ak (fg PassesOwn.never rfl (iW (aq oo (hr.mono ⋯) rfl T.Ce T.Cp T.B8 (ae (dv 0) (ae (dv 4) aj)))) (bS (n:=4) rfl (aw (av (i:=8) S.nd rfl (Or.inl rfl)) (aw (av (i:=9) S.nd rfl (Or.inl rfl)) (aw (av (i:=10) S.nd rfl (Or.inl rfl)) (aw (av (i:=11) S.nd rfl (Or.inl rfl)) bC))))) (ak (nW (i:=12) (j:=13) rfl S.nd rfl rfl ⋯ rfl rfl (ae (aq kS (hr.mono ⋯) rfl T.wX T.wB T.w4 (ae (aG (dv 5) (bg (dv 8) (dv 10))) (ae (aG (dv 5) (dv 8)) aj))) (ae (aq kS (hr.mono ⋯) rfl T.wX T.wB T.w4 (ae (aG (dv 6) (bg (dv 9) (dv 11))) (ae (aG (dv 6) (dv 9)) aj))) aj)) rfl)
  (au (jG (nE (dv 7) (aB (ae (aG (dv 5) (dv 8)) (ae (aG (dv 6) (dv 9)) (ae (dv 12) (ae (dv 13) aj))))))))))
  (au (aC (aB (ae (aG (dv 5) (kD ai)) (ae (aG (dv 6) (kD ai)) (ae (ME rfl T.jK (ae (dv 7) aj)) aj))))))))),fun ds Z Qd h=>Ax h⟩)
theorem rh:aO ["_law_bag_here","_law_laying_here","_law_width","_law_height","_law_tiles","_law_way","_law_at","_law_odd_here","_law_place","_law_tile","_law_x","_law_y","_law_w","_law_h","_law_some"] ["_law_bag_here","_law_laying_here"] (aA bW):=by walk_at "s"
theorem rg(T:TX e)(ax:bH e)(dQ:k9 e)(bj:jt e)(cM:jC e):jx e:=by
 have S:=rh
 exact T.rK.okD S (fun ds Z Q h=>Az h) (fun cdv A outer s H E hr=>⟨fe,(ak (d8 (dv 1) (bS (n:=3) rfl (aw (av (i:=2) S.nd rfl (Or.inl rfl)) (aw (av (i:=3) S.nd rfl (Or.inl rfl)) (aw (av (i:=4) S.nd rfl (Or.inl rfl)) bC)))))
  (ak (aP (i:=5) S.nd rfl (Or.inl rfl) (aq (br ax @aV) (hr.mono ⋯) rfl T.aK T.aJ T.aL (ae (dv 0) (ae ai aj))))
  (ak (aP (i:=6) S.nd rfl (Or.inl rfl) (aq (br ax @aV) (hr.mono ⋯) rfl T.aK T.aJ T.aL (ae (dv 0) (ae (cS rfl T.eo (ae (dv 4) aj)) aj))))
  (ak (aP (i:=7) S.nd rfl (Or.inl rfl) (aq dQ (hr.mono ⋯) rfl T.sJ T.sI T.sf (ae (dv 0) aj)))
  (ak (bA (aS ku eG (dv 5) ai (aI _)) (ak (aP (i:=8) S.nd rfl (Or.inl rfl) (aq (br ax @aV) (hr.mono ⋯) rfl T.aK T.aJ T.aL (ae (dv 0) (ae ai aj))))
  (ak (aP (i:=9) S.nd rfl (Or.inl rfl) (aq bj (hr.mono ⋯) rfl T.bR T.bO T.bP (ae (aG (dv 4) (dv 6)) (ae (dv 8) (ae (aq cM (hr.mono ⋯) rfl T.fN T.fO T.fS (ae (dv 0) (ae (aG (aG (dv 4) (dv 6)) (dv 8)) aj))) aj)))))
  (au (aC (aB (ae (dv 2) (ae (dv 3) (ae (aq bj (hr.mono ⋯) rfl T.bR T.bO T.bP (ae (dv 4) (ae (dv 6) (ae (dv 9) aj)))) aj)))))))) aT)
  (ak (bA (aS (bZ hr.units) bq (dv 5) ai (aI _)) (au (aC (aB (ae (aq cM (hr.mono ⋯) rfl T.fN T.fO T.fS (ae (dv 0) (ae (dv 2) aj))) (ae (dv 3) (ae (dv 4) aj)))))) aT)
  (ak (bA (aS (bZ hr.units) bq (dv 5) ai (aI _)) (au (aC (aB (ae (dv 2) (ae (aq cM (hr.mono ⋯) rfl T.fN T.fO T.fS (ae (dv 0) (ae (dv 3) aj))) (ae (dv 4) aj)))))) aT)
  (ak (bA (aS (bZ hr.units) bq (dv 5) ai (aI _)) (au (aC (aB (ae (dv 2) (ae (dv 3) (ae (jL (gQ (dv 4) lK (iT (dv 6))) (gQ (dv 4) (iT (jL (dv 6) ai)) lK)) aj)))))) aT)
  (ak (bA (aS (bZ hr.units) bq (dv 5) ai (aI _)) (au (aC (aB (ae (dv 2) (ae (dv 3) (ae (jL (jL (gQ (dv 4) lK (iT (dv 6))) (gQ (dv 4) (iT (dv 6)) (iT (jL (dv 6) ai)))) (gQ (dv 4) (iT (dv 6)) lK)) aj)))))) aT)
  (ak (d8 (aG (dv 4) (dv 6)) (bS (n:=4) rfl (aw (av (i:=10) S.nd rfl (Or.inl rfl)) (aw (av (i:=11) S.nd rfl (Or.inl rfl)) (aw (av (i:=12) S.nd rfl (Or.inl rfl)) (aw (av (i:=13) S.nd rfl (Or.inl rfl)) bC))))))
  (ak (aP (i:=14) S.nd rfl (Or.inl rfl) (ej (ae (aB (ae (dv 2) (ae (dv 3) (ae (aq bj (hr.mono ⋯) rfl T.bR T.bO T.bP (ae (dv 4) (ae (dv 6) (ae (aB (ae (dv 10) (ae (dv 11) (ae (dv 13) (ae (dv 12) aj))))) aj)))) aj)))) (ae (aB (ae (dv 3) (ae (dv 2) (ae (dv 4) aj)))) (ae (aB (ae (dv 2) (ae (dv 3) (ae (aq bj (hr.mono ⋯) rfl T.bR T.bO T.bP (ae (dv 4) (ae (dv 6) (ae (aB (ae (dv 11) (ae (dv 10) (ae (dv 12) (ae (dv 13) aj))))) aj)))) aj)))) (ae (aB (ae (dv 2) (ae (dv 3) (ae (Ji rfl T.HR (ae (dv 4) aj)) aj)))) (ae (dv 7) (ae (ej (ae (dv 2) (ae (dv 3) (ae (dv 4) aj)))) (ae (aB (ae (dv 2) (ae (dv 3) (ae (aq bj (hr.mono ⋯) rfl T.bR T.bO T.bP (ae (dv 4) (ae (dv 6) (ae (dv 7) aj)))) aj)))) (ae (aB (ae (dv 2) (ae (dv 3) (ae (aq bj (hr.mono ⋯) rfl T.bR T.bO T.bP (ae (dv 4) (ae (dv 6) (ae (Ji rfl T.HR (ae (aG (dv 4) (dv 6)) aj)) aj)))) aj)))) (ae (aB (ae (dv 2) (ae (dv 3) aj))) (ae (aB (ae (dv 2) (ae (dv 3) (ae (dv 4) (ae (aB aj) aj))))) (ae (aB (ae (dv 2) (ae (dv 3) (ae (dv 7) aj)))) (ae (aB (ae (dv 2) (ae (dv 3) (ae (aB aj) aj)))) (ae (aB (ae (dv 2) (ae (dv 3) (ae (jL (gQ (dv 4) (iT (dv 6)) lK) (gQ (dv 4) lK (iT (dv 6)))) aj)))) (ae (aB (ae (dv 2) (ae (dv 3) (ae (aq bj (hr.mono ⋯) rfl T.bR T.bO T.bP (ae (dv 4) (ae (dv 6) (ae (aB (ae (dv 10) (ae (dv 11) (ae (dv 12) aj)))) aj)))) aj)))) aj))))))))))))))))
  (au (aC (aG (dv 14) (aq (br ax @aV) (hr.mono ⋯) rfl T.aK T.aJ T.aL (ae (dv 0) (ae ai aj))))))))))))))))),fun ds Z Qd h=>qZ h⟩)
theorem Ft:aO ["d","thing","width","height","tiles"] ["d","thing"] (aA iq):=by walk_at "s"
theorem E5(T:TX e)(bK:fV e)(vf:yZ e):wQ e:=by
 have S:=Ft
 exact T.Hr.okD S (fun ds Z Q h=>FU h) (fun cdv A outer s H E hr=>⟨pB,(ak (bA (DW.dt (eB (cP (cu (ib (kit_tuple _) rfl T.bG rfl T.jK PyProof.Rows.Boot.«tuple» (dv 1)))) (d9 (aS (jk hr.units) bq (cS rfl T.eo (ae (dv 1) aj)) ai (aI _))))) (au (aC di)) aT)
  (ak (d8 (dv 1) (bS (n:=3) rfl (aw (av (i:=2) S.nd rfl (Or.inl rfl)) (aw (av (i:=3) S.nd rfl (Or.inl rfl)) (aw (av (i:=4) S.nd rfl (Or.inl rfl)) bC)))))
  (ak (bA (DW.dt (eB (cP (cu (aq bK (hr.mono ⋯) rfl T.eC T.eD T.eA (ae (dv 0) (ae (dv 2) aj))))) (d9 (cP (cu (aq bK (hr.mono ⋯) rfl T.eC T.eD T.eA (ae (dv 0) (ae (dv 3) aj)))))))) (au (aC di)) aT)
  (ak (bA (DW.dt (eB (cP (cu (ib (kit_tuple _) rfl T.bG rfl T.jK PyProof.Rows.Boot.«tuple» (dv 4)))) (eB (aS ku eG (cS rfl T.eo (ae (dv 4) aj)) ai (aI _)) (d9 (aS oO eG (cS rfl T.eo (ae (dv 4) aj)) (Jf (u:=.int 60) rfl T.B7 ⟨_,rfl⟩ (fun _ _ _=>Rp.int 60)) (aI _)))))) (au (aC di)) aT)
  (au (aC (yb rfl rfl T.Ff (ae (j4 (N':=["tile","d"]) (cap:=[none,some 0]) rfl (Jw (nU (dv 4))) (fun _ _ _=>(av (i:=0) (show List.Nodup (["tile","d"]:List Str) by decide +kernel) rfl (Or.inl rfl))) (fun _ _ _=>df) (fun _ _ _=>(aq vf (hr.mono ⋯) rfl T.Kh T.JK T.JM (ae (dv 1) (ae (dv 0) aj)))) rfl nofun rfl nofun (by walk_at "cl") (eJ rfl) rfl (dR ⟨Ag,trivial⟩)) aj)))))))),fun ds Z Qd h=>E7 h⟩)
theorem Ai:aO ["_law_d","_law_ends_here","_law_most","_law_row","_law_low_here","_law_high","_law_places","_law_book","_law_place","_law_one"] ["_law_d","_law_ends_here","_law_most"] (aA eY):=by walk_at "s"
theorem AU(T:TX e)(kr:oV e):rB e:=by
 have S:=Ai
 exact vQ (T.Cs.okD S (fun ds Z Q h=>C4 h) (fun cdv A outer s H E hr=>⟨lP,(ak (aP (i:=3) S.nd rfl (Or.inl rfl) (lD (ae (aB (ae ai (ae ai (ae ai aj)))) (ae (dv 2) aj))))
  (ak (fg PassesOwn.never rfl (iW (dv 1)) (bS (n:=2) rfl (aw (av (i:=4) S.nd rfl (Or.inl rfl)) (aw (av (i:=5) S.nd rfl (Or.inl rfl)) bC))) (au (jG (J3 (dv 3) (ej (ae (dv 4) (ae (dv 5) aj)))))))
  (ak (aP (i:=6) S.nd rfl (Or.inl rfl) (aq kr (hr.mono ⋯) rfl T.zV T.zv T.yA (ae (dv 0) (ae (dv 3) aj))))
  (ak (bA (aS (jk hr.units) bq (aG (dv 6) (kD ai)) (dv 2) (aI _)) (au (aC (aB (ae CL (ae ai aj))))) aT)
  (ak (aP (i:=7) S.nd rfl (Or.inr rfl) v5)
  (ak (fg PassesOwn.never rfl (DB rfl T.pf (ae (dv 6) aj)) (bS (n:=2) rfl (aw (av (i:=8) S.nd rfl (Or.inl rfl)) (aw (av (i:=9) S.nd rfl (Or.inl rfl)) bC))) (au (Cd hr.units (dv 7) (dv 9) (dv 8))))
  (au (aC (aB (ae (yD (N':=["_law_low_here","_law_high","_law_book"]) (cap:=[none,none,some 7]) rfl (iW (dv 1)) (fun _ _ _=>(bS (n:=2) rfl (aw (av (i:=0) (show List.Nodup (["_law_low_here","_law_high","_law_book"]:List Str) by decide +kernel) rfl (Or.inl rfl)) (aw (av (i:=1) (show List.Nodup (["_law_low_here","_law_high","_law_book"]:List Str) by decide +kernel) rfl (Or.inl rfl)) bC)))) (fun _ _ _=>df) (fun _ _ _=>(aB (ae (vR hr.units (dv 2) (dv 0)) (ae (vR hr.units (dv 2) (dv 1)) aj)))) rfl nofun rfl nofun (by walk_at "cl") (eJ rfl) rfl (dR ⟨Ag,trivial⟩)) (ae (dG (cS rfl T.eo (ae (dv 6) aj)) ai) aj))))))))))),fun ds Z Qd h=>AD h⟩)) (fun ds Z Qd h=>zC h)
theorem yy:aO ["_law_bag_here","_law_d","_law_columns","_law_rows","_law_blocks_here"] ["_law_bag_here","_law_d"] (aA d3):=by walk_at "s"
theorem zd(T:TX e)(ax:bH e)(jj:mN e)(jI:rF e)(gM:j6 e)(md:qu e):p7 e:=by
 have S:=yy
 exact T.A3.okD S (fun ds Z Q h=>Av h) (fun cdv A outer s H E hr=>⟨kj,(ak (bA (aS (bZ hr.units) bq (aq (br ax @aV) (hr.mono ⋯) rfl T.aK T.aJ T.aL (ae (dv 0) (ae ai aj))) ai (aI _)) (ak (d8 (aq jj (hr.mono ⋯) rfl T.xm T.xn T.xu (ae (dv 0) aj)) (bS (n:=3) rfl (aw (av (i:=2) S.nd rfl (Or.inl rfl)) (aw (av (i:=3) S.nd rfl (Or.inl rfl)) (aw (av (i:=4) S.nd rfl (Or.inl rfl)) bC)))))
  (au (aC (aq jI (hr.mono ⋯) rfl T.um T.uS T.tS (ae (dv 0) (ae (dv 1) (ae (dv 2) (ae (dv 3) (ae (dv 4) aj))))))))) aT)
  (ak (d8 (aq gM (hr.mono ⋯) rfl T.uF T.tq T.uj (ae (dv 0) aj)) (bS (n:=2) rfl (aw (av (i:=2) S.nd rfl (Or.inl rfl)) (aw (av (i:=3) S.nd rfl (Or.inl rfl)) bC))))
  (au (aC (aq jI (hr.mono ⋯) rfl T.um T.uS T.tS (ae (dv 0) (ae (dv 1) (ae (dv 2) (ae (dv 3) (ae (aq md (hr.mono ⋯) rfl T.Ae T.A2 T.Ar (ae (dv 0) (ae (dv 2) (ae (dv 3) aj)))) aj)))))))))),fun ds Z Qd h=>yE h⟩)
theorem Dn:aO ["d","thing","width","height","tiles","bounds","across","upward"] ["d","thing"] (aA gp):=by walk_at "s"
theorem C2(T:TX e)(sP:wQ e)(qq:tL e)(g0:oT e)(gX:oR e)(mw:qA e):oG e:=by
 have S:=Dn
 exact T.Fn.okD S (fun ds Z Q h=>DM h) (fun cdv A outer s H E hr=>⟨nI,(ak (bA (cP (cu (aq sP (hr.mono ⋯) rfl T.HN T.GC T.Gu (ae (dv 0) (ae (dv 1) aj))))) (au (aC di)) aT)
  (ak (d8 (dv 1) (bS (n:=3) rfl (aw (av (i:=2) S.nd rfl (Or.inl rfl)) (aw (av (i:=3) S.nd rfl (Or.inl rfl)) (aw (av (i:=4) S.nd rfl (Or.inl rfl)) bC)))))
  (ak (Cm (i:=5) (N':=["tile"]) (cap:=[none]) S.nd rfl rfl rfl (nU (dv 4)) (fun _ _ _=>(av (i:=0) (show List.Nodup (["tile"]:List Str) by decide +kernel) rfl (Or.inl rfl))) (fun _ _ _=>df) (fun _ _ _=>(aq qq (hr.mono ⋯) rfl T.DZ T.EO T.FG (ae (dv 0) aj))) rfl nofun rfl nofun (by walk_at "cl") (eJ rfl) rfl (dR trivial))
  (ak (aP (i:=6) S.nd rfl (Or.inl rfl) (aq g0 (hr.mono ⋯) rfl T.pJ T.qy T.p5 (ae (dv 0) (ae (FO (N':=["left","right","bottom","top","x"]) (cap:=[none,none,none,none,none]) rfl (iW (dv 5)) (fun _ _ _=>(bS (n:=4) rfl (aw (av (i:=0) (show List.Nodup (["left","right","bottom","top","x"]:List Str) by decide +kernel) rfl (Or.inl rfl)) (aw (av (i:=1) (show List.Nodup (["left","right","bottom","top","x"]:List Str) by decide +kernel) rfl (Or.inl rfl)) (aw (av (i:=2) (show List.Nodup (["left","right","bottom","top","x"]:List Str) by decide +kernel) rfl (Or.inl rfl)) (aw (av (i:=3) (show List.Nodup (["left","right","bottom","top","x"]:List Str) by decide +kernel) rfl (Or.inl rfl)) bC)))))) (fun _ _ _=>(nU (aB (ae (dv 0) (ae (dv 1) aj))))) (fun _ _ _=>(av (i:=4) (show List.Nodup (["left","right","bottom","top","x"]:List Str) by decide +kernel) rfl (Or.inl rfl))) (fun _ _ _=>(dv 4)) rfl nofun rfl nofun (by walk_at "cl") (eJ rfl) Bi rfl (dR trivial)) aj))))
  (ak (aP (i:=7) S.nd rfl (Or.inl rfl) (aq g0 (hr.mono ⋯) rfl T.pJ T.qy T.p5 (ae (dv 0) (ae (FO (N':=["left","right","bottom","top","y"]) (cap:=[none,none,none,none,none]) rfl (iW (dv 5)) (fun _ _ _=>(bS (n:=4) rfl (aw (av (i:=0) (show List.Nodup (["left","right","bottom","top","y"]:List Str) by decide +kernel) rfl (Or.inl rfl)) (aw (av (i:=1) (show List.Nodup (["left","right","bottom","top","y"]:List Str) by decide +kernel) rfl (Or.inl rfl)) (aw (av (i:=2) (show List.Nodup (["left","right","bottom","top","y"]:List Str) by decide +kernel) rfl (Or.inl rfl)) (aw (av (i:=3) (show List.Nodup (["left","right","bottom","top","y"]:List Str) by decide +kernel) rfl (Or.inl rfl)) bC)))))) (fun _ _ _=>(nU (aB (ae (dv 2) (ae (dv 3) aj))))) (fun _ _ _=>(av (i:=4) (show List.Nodup (["left","right","bottom","top","y"]:List Str) by decide +kernel) rfl (Or.inl rfl))) (fun _ _ _=>(dv 4)) rfl nofun rfl nofun (by walk_at "cl") (eJ rfl) Bi rfl (dR trivial)) aj))))
  (au (aC (ir (aq gX (hr.mono ⋯) rfl T.qw T.pQ T.pW (ae (dv 6) (ae (dv 2) aj))) (ir (aq gX (hr.mono ⋯) rfl T.qw T.pQ T.pW (ae (dv 7) (ae (dv 3) aj))) (jc (aq mw (hr.mono ⋯) rfl T.AE T.Ac T.A8 (ae (dv 5) (ae (dv 6) (ae (dv 7) aj)))))))))))))),fun ds Z Qd h=>Cb h⟩)
theorem yT:aO ["_law_d","_law_width","_law_height","_law_tiles","_law_wide","_law_columns","_law_high","_law_rows","_law_met","_law_span","_law_side_here","_law_column","_law_row"] ["_law_d","_law_width","_law_height","_law_tiles"] (aA dW):=by walk_at "s"
theorem yc(T:TX e)(jE:rB e)(bB:eT e):pR e:=by
 have S:=yT
 exact vQ (T.Ao.okD S (fun ds Z Q h=>yY h) (fun cdv A outer s H E hr=>⟨kf,(ak (d8 (aq jE (hr.mono ⋯) rfl T.uD T.uh T.tO (ae (dv 0) (ae (j4 (N':=["_law_x","_law_y","_law_w","_law_h"]) (cap:=[none,none,none,none]) rfl (Jw (nU (dv 3))) (fun _ _ _=>(bS (n:=4) rfl (aw (av (i:=0) (show List.Nodup (["_law_x","_law_y","_law_w","_law_h"]:List Str) by decide +kernel) rfl (Or.inl rfl)) (aw (av (i:=1) (show List.Nodup (["_law_x","_law_y","_law_w","_law_h"]:List Str) by decide +kernel) rfl (Or.inl rfl)) (aw (av (i:=2) (show List.Nodup (["_law_x","_law_y","_law_w","_law_h"]:List Str) by decide +kernel) rfl (Or.inl rfl)) (aw (av (i:=3) (show List.Nodup (["_law_x","_law_y","_law_w","_law_h"]:List Str) by decide +kernel) rfl (Or.inl rfl)) bC)))))) (fun _ _ _=>df) (fun _ _ _=>(aB (ae (dv 0) (ae (aq bB (hr.mono ⋯) rfl T.gz T.gu T.gb (ae (dv 0) (ae (dv 2) aj))) aj)))) rfl nofun rfl nofun (by walk_at "cl") (eJ rfl) rfl (dR trivial)) (ae (dv 1) aj)))) (bS (n:=2) rfl (aw (av (i:=4) S.nd rfl (Or.inl rfl)) (aw (av (i:=5) S.nd rfl (Or.inl rfl)) bC))))
  (ak (d8 (aq jE (hr.mono ⋯) rfl T.uD T.uh T.tO (ae (dv 0) (ae (j4 (N':=["_law_x","_law_y","_law_w","_law_h"]) (cap:=[none,none,none,none]) rfl (Jw (nU (dv 3))) (fun _ _ _=>(bS (n:=4) rfl (aw (av (i:=0) (show List.Nodup (["_law_x","_law_y","_law_w","_law_h"]:List Str) by decide +kernel) rfl (Or.inl rfl)) (aw (av (i:=1) (show List.Nodup (["_law_x","_law_y","_law_w","_law_h"]:List Str) by decide +kernel) rfl (Or.inl rfl)) (aw (av (i:=2) (show List.Nodup (["_law_x","_law_y","_law_w","_law_h"]:List Str) by decide +kernel) rfl (Or.inl rfl)) (aw (av (i:=3) (show List.Nodup (["_law_x","_law_y","_law_w","_law_h"]:List Str) by decide +kernel) rfl (Or.inl rfl)) bC)))))) (fun _ _ _=>df) (fun _ _ _=>(aB (ae (dv 1) (ae (aq bB (hr.mono ⋯) rfl T.gz T.gu T.gb (ae (dv 1) (ae (dv 3) aj))) aj)))) rfl nofun rfl nofun (by walk_at "cl") (eJ rfl) rfl (dR trivial)) (ae (dv 2) aj)))) (bS (n:=2) rfl (aw (av (i:=6) S.nd rfl (Or.inl rfl)) (aw (av (i:=7) S.nd rfl (Or.inl rfl)) bC))))
  (ak (bA (DW.dt (eB (aS Il Mw (dv 4) CL (aI _)) (d9 (aS Il Mw (dv 6) CL (aI _))))) (au (aC di)) aT)
  (ak (aP (i:=8) S.nd rfl (Or.inl rfl) v5)
  (ak (fg PassesOwn.never rfl (PB rfl T.RH (ae (dv 4) (ae (dv 6) aj))) (bS (n:=2) rfl (aw (av (i:=9) S.nd rfl (Or.inl rfl)) (aw (av (i:=10) S.nd rfl (Or.inl rfl)) bC))) (au (fg PassesOwn.never rfl (tE rfl T.g8 (ae (aG (dv 9) ai) (ae (aG (dv 9) ai) aj))) (av (i:=11) S.nd rfl (Or.inl rfl)) (au (fg PassesOwn.never rfl (tE rfl T.g8 (ae (aG (dv 10) ai) (ae (aG (dv 10) ai) aj))) (av (i:=12) S.nd rfl (Or.inl rfl)) (ak (bA (M3 hr.units (aB (ae (dv 11) (ae (dv 12) aj))) (dv 8) (by with_unfolding_all rfl)) (au (aC di)) aT)
  (au (Cd hr.units (dv 8) (aB (ae (dv 11) (ae (dv 12) aj))) di))))))))
  (au (aC (dJ (bZ hr.units) bq (Iu rfl T.eo (ae (dv 8) aj)) (bF (dv 5) (dv 7)) (aI _))))))))),fun ds Z Qd h=>yx h⟩)) (fun ds Z Qd h=>xr h)
theorem vd:aO ["_law_d","_law_thing","_law_width","_law_height","_law_tiles"] ["_law_d","_law_thing"] (aA cF):=by walk_at "s"
theorem tH(T:TX e)(bT:iu e)(j3:oZ e)(lW:pR e):g9 e:=by
 have S:=vd
 exact T.vz.okD S (fun ds Z Q h=>AM h) (fun cdv A outer s H E hr=>⟨gD,(ak (bA (DW.dt (eB (cP (cu (ib (kit_tuple _) rfl T.bG rfl T.jK PyProof.Rows.Boot.«tuple» (dv 1)))) (d9 (aS (jk hr.units) bq (cS rfl T.eo (ae (dv 1) aj)) ai (aI _))))) (au (aC di)) aT)
  (ak (d8 (dv 1) (bS (n:=3) rfl (aw (av (i:=2) S.nd rfl (Or.inl rfl)) (aw (av (i:=3) S.nd rfl (Or.inl rfl)) (aw (av (i:=4) S.nd rfl (Or.inl rfl)) bC)))))
  (ak (bA (DW.dt (eB (cP (cu (aq bT (hr.mono ⋯) rfl T.fA T.fD T.fq (ae (dv 0) (ae (dv 2) aj))))) (d9 (cP (cu (aq bT (hr.mono ⋯) rfl T.fA T.fD T.fq (ae (dv 0) (ae (dv 3) aj)))))))) (au (aC di)) aT)
  (ak (bA (DW.dt (eB (cP (cu (ib (kit_tuple _) rfl T.bG rfl T.jK PyProof.Rows.Boot.«tuple» (dv 4)))) (d9 (cP (MZ Io eG Io eG ai (cS rfl T.eo (ae (dv 4) aj)) ai))))) (au (aC di)) aT)
  (au (aC (ir (yb rfl rfl T.Ff (ae (j4 (N':=["_law_tile","_law_d"]) (cap:=[none,some 0]) rfl (Jw (nU (dv 4))) (fun _ _ _=>(av (i:=0) (show List.Nodup (["_law_tile","_law_d"]:List Str) by decide +kernel) rfl (Or.inl rfl))) (fun _ _ _=>df) (fun _ _ _=>(aq j3 (hr.mono ⋯) rfl T.ye T.zr T.yp (ae (dv 1) (ae (dv 0) aj)))) rfl nofun rfl nofun (by walk_at "cl") (eJ rfl) rfl (dR ⟨Ag,trivial⟩)) aj)) (jc (aq lW (hr.mono ⋯) rfl T.A1 T.AG T.A7 (ae (dv 0) (ae (dv 2) (ae (dv 3) (ae (dv 4) aj))))))))))))),fun ds Z Qd h=>uu h⟩)
theorem xp:aO ["_law_d","_law_thing","_law_told"] ["_law_d","_law_thing"] (aA dD):=by walk_at "s"
theorem xb(T:TX e)(dF:oG e)(cJ:g9 e):oW e:=by
 have S:=xp
 exact T.yL.okD S (fun ds Z Q h=>Fu h) (fun cdv A outer s H E hr=>⟨ju,(ak (aP (i:=2) S.nd rfl (Or.inl rfl) (aq dF (hr.mono ⋯) rfl T.k6 T.lB T.kY (ae (dv 0) (ae (dv 1) aj))))
  (au (aC (ir (ib (yO _) rfl T.bG rfl T.Gh PyProof.Rows.Boot.«bool» (dv 2)) (jc (dJ (bZ hr.units) bq (dv 2) (aq cJ (hr.mono ⋯) rfl T.mG T.mE T.mU (ae (dv 0) (ae (dv 1) aj))) (aI _))))))),fun ds Z Qd h=>xB h⟩)
theorem Qg:aO ["_law_script","_law_k","_law_bag_here","_law_d","_law_other","_law_laying_here","_law_things","_law_turn","_law_thing"] ["_law_script"] (aA rn):=by walk_at "s"
theorem Qu(T:TX e)(rN:wI e)(kN:u9 e)(mj:p7 e)(dF:oG e)(gS:oW e)(iC:lA e)(dQ:k9 e)(dH:jx e)(cJ:g9 e):LV e:=by
 have S:=Qg
 exact T.RF.okD S (fun ds Z Q h=>Kg h) (fun cdv A outer s H E hr=>⟨He,(ak (fg PassesOwn.never rfl (qF rfl T.g8 (ae (Q6 rfl rfl T.Sr (ae ai (ae (HF rfl rfl T.Mf (ae ai (ae (cS rfl T.eo (ae (dv 0) aj)) aj))) aj))) aj)) (av (i:=1) S.nd rfl (Or.inl rfl)) (ak (aP (i:=2) S.nd rfl (Or.inl rfl) (aq rN (hr.mono ⋯) rfl T.Hu T.HI T.Hw (ae (dv 0) (ae (dv 1) aj))))
  (ak (d8 (aB (ae (aq kN (hr.mono ⋯) rfl T.wz T.wA T.wW (ae (dv 2) aj)) (ae (aq kN (hr.mono ⋯) rfl T.wz T.wA T.wW (ae (dv 2) aj)) aj))) (bS (n:=2) rfl (aw (av (i:=3) S.nd rfl (Or.inr rfl)) (aw (av (i:=4) S.nd rfl (Or.inl rfl)) bC))))
  (ak (aP (i:=5) S.nd rfl (Or.inl rfl) (aq mj (hr.mono ⋯) rfl T.A9 T.AY T.AH (ae (dv 2) (ae (dv 3) aj))))
  (ak (bA (DW.dt (eB (aS BJ EJ (aq dF (hr.mono ⋯) rfl T.k6 T.lB T.kY (ae (dv 3) (ae (dv 5) aj))) di (aI _)) (d9 (cP (cu (aq gS (hr.mono ⋯) rfl T.qv T.pZ T.pS (ae (dv 4) (ae (dv 5) aj)))))))) (au (aC di)) aT)
  (ak (aP (i:=6) S.nd rfl (Or.inl rfl) (lD (ae (aq iC (hr.mono ⋯) rfl T.wq T.vH T.vD (ae (dv 2) (ae (dv 5) aj))) (ae (aq dQ (hr.mono ⋯) rfl T.sJ T.sI T.sf (ae (dv 2) aj)) aj))))
  (ak (fg PassesOwn.never rfl (qF rfl T.g8 (ae ai aj)) (av (i:=7) S.nd rfl (Or.inl rfl)) (ak (aP (i:=8) S.nd rfl (Or.inl rfl) (aq dH (hr.mono ⋯) rfl T.kC T.kd T.ko (ae (dv 2) (ae (dv 5) aj))))
  (ak (jG (nE (dv 6) (dv 8)))
  (au (bA (cu (aq cJ (hr.mono ⋯) rfl T.mG T.mE T.mU (ae (dv 3) (ae (dv 8) aj)))) (au (jG (nE (dv 6) (aq dH (hr.mono ⋯) rfl T.kC T.kd T.ko (ae (dv 2) (ae (dv 8) aj)))))) aT)))))
  (au (bA (DW.dt (eB (cP (cu (yb rfl rfl T.Ff (ae (j4 (N':=["_law_thing","_law_d"]) (cap:=[none,some 3]) rfl (Ta (dv 6)) (fun _ _ _=>(av (i:=0) (show List.Nodup (["_law_thing","_law_d"]:List Str) by decide +kernel) rfl (Or.inl rfl))) (fun _ _ _=>df) (fun _ _ _=>(aq gS (hr.mono ⋯) rfl T.qv T.pZ T.pS (ae (dv 1) (ae (dv 0) aj)))) rfl nofun rfl nofun (by walk_at "cl") (eJ rfl) rfl (dR ⟨Ag,trivial⟩)) aj)))) (d9 (aS BJ EJ (aq dF (hr.mono ⋯) rfl T.k6 T.lB T.kY (ae (dv 3) (ae (dv 5) aj))) di (aI _))))) (au (aC di)) aT)))))))))
  (au (aC (dJ Pb R8 (aq dF (hr.mono ⋯) rfl T.k6 T.lB T.kY (ae ai (ae (aB (ae (aB (ae ai (ae ai (ae ai aj)))) (ae (aB (ae ai (ae ai (ae ai aj)))) (ae (aB (ae (aB (ae (aB (ae ai (ae ai (ae ai aj)))) (ae (aB (ae ai (ae ai (ae ai aj)))) (ae (aB (ae ai (ae ai (ae ai aj)))) (ae (aB (ae ai (ae ai (ae ai aj)))) aj))))) aj)) aj)))) aj))) di (aI _))))),fun ds Z Qd h=>Pu h⟩)
theorem Qf(T:TX e):LV e:=by
 have kz:=E6 T
 have eW:=tZ T
 have cV:=we T
 have gX:=xE T
 have mw:=yz T
 have ax:=Co T
 have bj:=w5 T
 have jg:=vO T
 have cC:=zk T
 have bN:=Cv T
 have cw:=AJ T
 have rN:=Fy T
 have pP:=Dy T
 have cG:=uY T eW
 have il:=GO T cV
 have sD:=EW T cV
 have cH:=u6 T jg cC
 have cL:=EL T cC
 have kN:=CC T ax
 have jj:=vZ T ax
 have oo:=Aa T ax
 have gM:=se T ax
 have md:=x9 T ax pP
 have dQ:=Fx T ax
 have iC:=tU T ax bj
 have eM:=CV T kz cG
 have yU:=JO T cG
 have mC:=y6 T sD
 have bT:=wc T cH bN
 have bB:=Df T cL
 have k0:=CS T ax cL bN cw
 have B4:=dn T yU
 have bK:=sL T eM il
 have g0:=xF T mC
 have j3:=xK T cH bN bT
 have nQ:=Aq T bN bB cw
 have lC:=Dh T bB
 have jO:=AS T ax k0
 have kS:=B9 T bB cw
 have cM:=rj T bB cL dQ ax
 have vf:=Gi T eM il bK
 have qq:=Cu T B4
 have kr:=xi T nQ
 have jI:=Am T lC jO oo kS
 have dH:=rg T ax dQ bj cM
 have sP:=E5 T bK vf
 have jE:=AU T kr
 have mj:=zd T ax jj jI gM md
 have dF:=C2 T sP qq g0 gX mw
 have lW:=yc T jE bB
 have cJ:=tH T bT j3 lW
 have gS:=xb T dF cJ
 exact Qu T rN kN mj dF gS iC dQ dH cJ
end
theorem all_mk{l:PySem.W.OpenLaw}{w:World}{K:PySem.W.Frag}{h:Heap}{mg:Str->Option Value}{fa:Addr}(X:K.In h)(G:h.Ns mainGlobals mg)(hfa:mg "law"=some (.ref fa))
  {f0 c0 f1 c1 f2 c2 f3 c3 f4 c4 f5 c5 f6 c6 f7 c7 f8 c8 f9 c9 f10 c10 f11 c11 f12 c12 f13 c13 f14 c14 f15 c15 f16 c16 f17 c17 f18 c18 f19 c19 f20 c20 f21 c21 f22 c22 f23 c23 f24 c24 f25 c25 f26 c26 f27 c27 f28 c28 f29 c29 f30 c30 f31 c31 f32 c32 f33 c33 f34 c34 f35 c35 f36 c36 f37 c37 f38 c38 f39 c39 f40 c40 f41 c41 f42 c42 f43 c43 f44 c44 f45 c45 f46 c46 f47 c47 f48 c48 f49 c49 f50 c50 f51 c51 f52 c52:Addr} {t0 t1 t2 t3 t4 t5 t6 t7 t8 t9 t10 t11 t12 t13 t14 t15 t16 t17 t18 t19 t20 t21 t22 t23 t24 t25 t26 t27 t28 t29 t30 t31 t32 t33 t34 t35 t36 t37 t38 t39 t40 t41 t42 t43 t44 t45 t46 t47 t48 t49 t50 t51 t52:Tok} {m0 m1 m2 m3 m4 m5 m6 m7 m8 m9 m10 m11 m12 m13 m14 m15 m16 m17 m18 m19 m20 m21 m22 m23 m24 m25 m26 m27 m28 m29 m30 m31 m32 m33 m34 m35 m36 m37 m38 m39 m40 m41 m42 m43 m44 m45 m46 m47 m48 m49 m50 m51 m52:Str} {q0:Tok} {g1:Addr} {go1:Option Addr} {q1a q1b q1c:Tok} {gn1:Nat} {gs1:Array (Option Value)}
  (a0:FQ K "is_whole" ic f0 c0 t0 m0)
  (a1:FQ K "common_divisor" cK f1 c1 t1 m1)
  (a2:FQ K "is_number" gk f2 c2 t2 m2)
  (a3:FQ K "divisor_of_all" cI f3 c3 t3 m3)
  (a4:FQ K "number" nH f4 c4 t4 m4)
  (a5:FQ K "plus" wo f5 c5 t5 m5)
  (a6:FQ K "sign_of" jT f6 c6 t6 m6)
  (a7:FQ K "sign_of_parts" cU f7 c7 t7 m7)
  (a8:FQ K "is_above" ig f8 c8 t8 m8)
  (a9:FQ K "is_above_nought" cm f9 c9 t9 m9)
  (a10:FQ K "is_tile" jU f10 c10 t10 m10)
  (a11:FQ K "has_form" iq f11 c11 t11 m11)
  (a12:FQ K "bounds_of" gB f12 c12 t12 m12)
  (a13:FQ K "place_among" d6 f13 c13 t13 m13)
  (a14:FQ K "rising_marks" dy f14 c14 t14 m14)
  (a15:FQ K "reaches_just" dq f15 c15 t15 m15)
  (a16:FQ K "covers_once" d7 f16 c16 t16 m16)
  (a17:FQ K "is_laying" gp f17 c17 t17 m17)
  (a18:FQ K "_law_take" gv f18 c18 t18 m18)
  (a19:FQ K "_law_swapped" dA f19 c19 t19 m19)
  (a20:FQ K "_law_is_laying" cF f20 c20 t20 m20)
  (a21:FQ K "_law_is_above" cY f21 c21 t21 m21)
  (a22:FQ K "_law_is_number" cE f22 c22 t22 m22)
  (a23:FQ K "_law_is_whole" cX f23 c23 t23 m23)
  (a24:FQ K "_law_shared" dX f24 c24 t24 m24)
  (a25:FQ K "_law_sign" fY f25 c25 t25 m25)
  (a26:FQ K "_law_is_tile" dw f26 c26 t26 m26)
  (a27:FQ K "_law_covers" dW f27 c27 t27 m27)
  (a28:FQ K "_law_spans" eY f28 c28 t28 m28)
  (a29:FQ K "_law_ordered" du f29 c29 t29 m29)
  (a30:FQ K "_law_below" eS f30 c30 t30 m30)
  (a31:FQ K "_law_plus" fX f31 c31 t31 m31)
  (a32:FQ K "_law_low" iG f32 c32 t32 m32)
  (a33:FQ K "_law_minus" eP f33 c33 t33 m33)
  (a34:FQ K "_law_bag" iE f34 c34 t34 m34)
  (a35:FQ K "_law_root" gc f35 c35 t35 m35)
  (a36:FQ K "_law_laying" d3 f36 c36 t36 m36)
  (a37:FQ K "_law_pinwheel" cW f37 c37 t37 m37)
  (a38:FQ K "_law_floor" eR f38 c38 t38 m38)
  (a39:FQ K "_law_ends" gw f39 c39 t39 m39)
  (a40:FQ K "_law_sides" fc f40 c40 t40 m40)
  (a41:FQ K "_law_side" gi f41 c41 t41 m41)
  (a42:FQ K "_law_mixed" eX f42 c42 t42 m42)
  (a43:FQ K "_law_less" gA f43 c43 t43 m43)
  (a44:FQ K "_law_many_cells" cp f44 c44 t44 m44)
  (a45:FQ K "_law_blocks" dY f45 c45 t45 m45)
  (a46:FQ K "_law_room" gg f46 c46 t46 m46)
  (a47:FQ K "_law_odd" iD f47 c47 t47 m47)
  (a48:FQ K "_law_bent_laying" bW f48 c48 t48 m48)
  (a49:FQ K "_law_bent_number" bX f49 c49 t49 m49)
  (a50:FQ K "_law_exchanged" cD f50 c50 t50 m50)
  (a51:FQ K "_law_is_told" dD f51 c51 t51 m51)
  (a52:FQ K "law" rn f52 c52 t52 m52)
  (z0:nsIn K mainGlobals "isinstance"=some none)
  (z1:nsIn K mainGlobals "int"=some none)
  (z2:nsIn K mainGlobals "bool"=some none)
  (z3:nsIn K mainGlobals "abs"=some none)
  (z4:nsIn K mainGlobals "tuple"=some none)
  (z5:nsIn K mainGlobals "len"=some none)
  (z6:nsIn K mainGlobals "all"=some none)
  (z7:nsIn K mainGlobals "set"=some none)
  (z8:nsIn K mainGlobals "range"=some none)
  (z9:nsIn K mainGlobals "enumerate"=some none)
  (z10:nsIn K mainGlobals "zip"=some none)
  (z11:nsIn K mainGlobals "list"=some none)
  (z12:nsIn K mainGlobals "min"=some none)
  (z13:nsIn K mainGlobals "max"=some none)
  (v0:nsIn K mainGlobals "MOST_TILES"=some (some (.int 60 q0)))
  (v1:nsIn K mainGlobals "NOUGHT"=some (some (.ref g1))) (w1:K.lookup g1=some ⟨.type "tuple",go1,.seq #[.int 0 q1a,.int 0 q1b,.int 1 q1c] gn1,gs1⟩) :
  ∃fd:FuncData,(∀(s:Shared) (v:Value),BindsTo s fd ⟨[v],[]⟩ [("_law_script",v)])/\∀base:Heap,K.In base->base.Ns mainGlobals mg->bD l.prog w K mg base CX0 10 fa fd ["_law_script"] (spD K zj):=by
 have e:=hfa.symm.trans (mg_of X G a52.1)
 cases e
 have F0:=aX (st:=ic) a0.2.1 a0.2.2.1 a0.2.2.2
 have b0:=F0.binds (ps:=["thing"]) fun _ _ _ _ _ _=>ln1 fun _=>rfl
 have F1:=aX (st:=cK) a1.2.1 a1.2.2.1 a1.2.2.2
 have b1:=F1.binds (ps:=["a","b"]) fun _ _ _ _ _ _=>ln2 fun _ _=>rfl
 have F2:=aX (st:=gk) a2.2.1 a2.2.2.1 a2.2.2.2
 have b2:=F2.binds (ps:=["thing"]) fun _ _ _ _ _ _=>ln1 fun _=>rfl
 have F3:=aX (st:=cI) a3.2.1 a3.2.2.1 a3.2.2.2
 have b3:=F3.binds (ps:=["a","b","c"]) fun _ _ _ _ _ _=>ln3 fun _ _ _=>rfl
 have F4:=aX (st:=nH) a4.2.1 a4.2.2.1 a4.2.2.2
 have b4:=F4.binds (ps:=["a","b","c"]) fun _ _ _ _ _ _=>ln3 fun _ _ _=>rfl
 have F5:=aX (st:=wo) a5.2.1 a5.2.2.1 a5.2.2.2
 have b5:=F5.binds (ps:=["x","y"]) fun _ _ _ _ _ _=>ln2 fun _ _=>rfl
 have F6:=aX (st:=jT) a6.2.1 a6.2.2.1 a6.2.2.2
 have b6:=F6.binds (ps:=["d","x"]) fun _ _ _ _ _ _=>ln2 fun _ _=>rfl
 have F7:=aX (st:=cU) a7.2.1 a7.2.2.1 a7.2.2.2
 have b7:=F7.binds (ps:=["d","a","b"]) fun _ _ _ _ _ _=>ln3 fun _ _ _=>rfl
 have F8:=aX (st:=ig) a8.2.1 a8.2.2.1 a8.2.2.2
 have b8:=F8.binds (ps:=["d","x","y"]) fun _ _ _ _ _ _=>ln3 fun _ _ _=>rfl
 have F9:=aX (st:=cm) a9.2.1 a9.2.2.1 a9.2.2.2
 have b9:=F9.binds (ps:=["d","thing"]) fun _ _ _ _ _ _=>ln2 fun _ _=>rfl
 have F10:=aX (st:=jU) a10.2.1 a10.2.2.1 a10.2.2.2
 have b10:=F10.binds (ps:=["d","thing"]) fun _ _ _ _ _ _=>ln2 fun _ _=>rfl
 have F11:=aX (st:=iq) a11.2.1 a11.2.2.1 a11.2.2.2
 have b11:=F11.binds (ps:=["d","thing"]) fun _ _ _ _ _ _=>ln2 fun _ _=>rfl
 have F12:=aX (st:=gB) a12.2.1 a12.2.2.1 a12.2.2.2
 have b12:=F12.binds (ps:=["tile"]) fun _ _ _ _ _ _=>ln1 fun _=>rfl
 have F13:=aX (st:=d6) a13.2.1 a13.2.2.1 a13.2.2.2
 have b13:=F13.binds (ps:=["d","marks","x"]) fun _ _ _ _ _ _=>ln3 fun _ _ _=>rfl
 have F14:=aX (st:=dy) a14.2.1 a14.2.2.1 a14.2.2.2
 have b14:=F14.binds (ps:=["d","found"]) fun _ _ _ _ _ _=>ln2 fun _ _=>rfl
 have F15:=aX (st:=dq) a15.2.1 a15.2.2.1 a15.2.2.2
 have b15:=F15.binds (ps:=["marks","end"]) fun _ _ _ _ _ _=>ln2 fun _ _=>rfl
 have F16:=aX (st:=d7) a16.2.1 a16.2.2.1 a16.2.2.2
 have b16:=F16.binds (ps:=["bounds","across","upward"]) fun _ _ _ _ _ _=>ln3 fun _ _ _=>rfl
 have F17:=aX (st:=gp) a17.2.1 a17.2.2.1 a17.2.2.2
 have b17:=F17.binds (ps:=["d","thing"]) fun _ _ _ _ _ _=>ln2 fun _ _=>rfl
 have F18:=aX (st:=gv) a18.2.1 a18.2.2.1 a18.2.2.2
 have b18:=F18.binds (ps:=["_law_bag_here","_law_many"]) fun _ _ _ _ _ _=>ln2 fun _ _=>rfl
 have F19:=aX (st:=dA) a19.2.1 a19.2.2.1 a19.2.2.2
 have b19:=F19.binds (ps:=["_law_row","_law_at","_law_thing"]) fun _ _ _ _ _ _=>ln3 fun _ _ _=>rfl
 have F20:=aX (st:=cF) a20.2.1 a20.2.2.1 a20.2.2.2
 have b20:=F20.binds (ps:=["_law_d","_law_thing"]) fun _ _ _ _ _ _=>ln2 fun _ _=>rfl
 have F21:=aX (st:=cY) a21.2.1 a21.2.2.1 a21.2.2.2
 have b21:=F21.binds (ps:=["_law_d","_law_thing"]) fun _ _ _ _ _ _=>ln2 fun _ _=>rfl
 have F22:=aX (st:=cE) a22.2.1 a22.2.2.1 a22.2.2.2
 have b22:=F22.binds (ps:=["_law_thing"]) fun _ _ _ _ _ _=>ln1 fun _=>rfl
 have F23:=aX (st:=cX) a23.2.1 a23.2.2.1 a23.2.2.2
 have b23:=F23.binds (ps:=["_law_thing"]) fun _ _ _ _ _ _=>ln1 fun _=>rfl
 have F24:=aX (st:=dX) a24.2.1 a24.2.2.1 a24.2.2.2
 have b24:=F24.binds (ps:=["_law_one","_law_other"]) fun _ _ _ _ _ _=>ln2 fun _ _=>rfl
 have F25:=aX (st:=fY) a25.2.1 a25.2.2.1 a25.2.2.2
 have b25:=F25.binds (ps:=["_law_d","_law_x"]) fun _ _ _ _ _ _=>ln2 fun _ _=>rfl
 have F26:=aX (st:=dw) a26.2.1 a26.2.2.1 a26.2.2.2
 have b26:=F26.binds (ps:=["_law_d","_law_thing"]) fun _ _ _ _ _ _=>ln2 fun _ _=>rfl
 have F27:=aX (st:=dW) a27.2.1 a27.2.2.1 a27.2.2.2
 have b27:=F27.binds (ps:=["_law_d","_law_width","_law_height","_law_tiles"]) fun _ _ _ _ _ _=>ln4 fun _ _ _ _=>rfl
 have F28:=aX (st:=eY) a28.2.1 a28.2.2.1 a28.2.2.2
 have b28:=F28.binds (ps:=["_law_d","_law_ends_here","_law_most"]) fun _ _ _ _ _ _=>ln3 fun _ _ _=>rfl
 have F29:=aX (st:=du) a29.2.1 a29.2.2.1 a29.2.2.2
 have b29:=F29.binds (ps:=["_law_d","_law_row"]) fun _ _ _ _ _ _=>ln2 fun _ _=>rfl
 have F30:=aX (st:=eS) a30.2.1 a30.2.2.1 a30.2.2.2
 have b30:=F30.binds (ps:=["_law_d","_law_x","_law_y"]) fun _ _ _ _ _ _=>ln3 fun _ _ _=>rfl
 have F31:=aX (st:=fX) a31.2.1 a31.2.2.1 a31.2.2.2
 have b31:=F31.binds (ps:=["_law_x","_law_y"]) fun _ _ _ _ _ _=>ln2 fun _ _=>rfl
 have F32:=aX (st:=iG) a32.2.1 a32.2.2.1 a32.2.2.2
 have b32:=F32.binds (ps:=["_law_a","_law_b","_law_c"]) fun _ _ _ _ _ _=>ln3 fun _ _ _=>rfl
 have F33:=aX (st:=eP) a33.2.1 a33.2.2.1 a33.2.2.2
 have b33:=F33.binds (ps:=["_law_x"]) fun _ _ _ _ _ _=>ln1 fun _=>rfl
 have F34:=aX (st:=iE) a34.2.1 a34.2.2.1 a34.2.2.2
 have b34:=F34.binds (ps:=["_law_script","_law_at"]) fun _ _ _ _ _ _=>ln2 fun _ _=>rfl
 have F35:=aX (st:=gc) a35.2.1 a35.2.2.1 a35.2.2.2
 have b35:=F35.binds (ps:=["_law_bag_here"]) fun _ _ _ _ _ _=>ln1 fun _=>rfl
 have F36:=aX (st:=d3) a36.2.1 a36.2.2.1 a36.2.2.2
 have b36:=F36.binds (ps:=["_law_bag_here","_law_d"]) fun _ _ _ _ _ _=>ln2 fun _ _=>rfl
 have F37:=aX (st:=cW) a37.2.1 a37.2.2.1 a37.2.2.2
 have b37:=F37.binds (ps:=["_law_bag_here"]) fun _ _ _ _ _ _=>ln1 fun _=>rfl
 have F38:=aX (st:=eR) a38.2.1 a38.2.2.1 a38.2.2.2
 have b38:=F38.binds (ps:=["_law_bag_here","_law_d","_law_columns","_law_rows","_law_blocks_here"]) fun _ _ _ _ _ _=>ln5 fun _ _ _ _ _=>rfl
 have F39:=aX (st:=gw) a39.2.1 a39.2.2.1 a39.2.2.2
 have b39:=F39.binds (ps:=["_law_sides_here"]) fun _ _ _ _ _ _=>ln1 fun _=>rfl
 have F40:=aX (st:=fc) a40.2.1 a40.2.2.1 a40.2.2.2
 have b40:=F40.binds (ps:=["_law_bag_here","_law_d","_law_many"]) fun _ _ _ _ _ _=>ln3 fun _ _ _=>rfl
 have F41:=aX (st:=gi) a41.2.1 a41.2.2.1 a41.2.2.2
 have b41:=F41.binds (ps:=["_law_bag_here","_law_d","_law_way"]) fun _ _ _ _ _ _=>ln3 fun _ _ _=>rfl
 have F42:=aX (st:=eX) a42.2.1 a42.2.2.1 a42.2.2.2
 have b42:=F42.binds (ps:=["_law_bag_here","_law_row"]) fun _ _ _ _ _ _=>ln2 fun _ _=>rfl
 have F43:=aX (st:=gA) a43.2.1 a43.2.2.1 a43.2.2.2
 have b43:=F43.binds (ps:=["_law_x","_law_y"]) fun _ _ _ _ _ _=>ln2 fun _ _=>rfl
 have F44:=aX (st:=cp) a44.2.1 a44.2.2.1 a44.2.2.2
 have b44:=F44.binds (ps:=["_law_bag_here"]) fun _ _ _ _ _ _=>ln1 fun _=>rfl
 have F45:=aX (st:=dY) a45.2.1 a45.2.2.1 a45.2.2.2
 have b45:=F45.binds (ps:=["_law_bag_here","_law_columns","_law_rows"]) fun _ _ _ _ _ _=>ln3 fun _ _ _=>rfl
 have F46:=aX (st:=gg) a46.2.1 a46.2.2.1 a46.2.2.2
 have b46:=F46.binds (ps:=["_law_met","_law_column","_law_row","_law_columns"]) fun _ _ _ _ _ _=>ln4 fun _ _ _ _=>rfl
 have F47:=aX (st:=iD) a47.2.1 a47.2.2.1 a47.2.2.2
 have b47:=F47.binds (ps:=["_law_bag_here"]) fun _ _ _ _ _ _=>ln1 fun _=>rfl
 have F48:=aX (st:=bW) a48.2.1 a48.2.2.1 a48.2.2.2
 have b48:=F48.binds (ps:=["_law_bag_here","_law_laying_here"]) fun _ _ _ _ _ _=>ln2 fun _ _=>rfl
 have F49:=aX (st:=bX) a49.2.1 a49.2.2.1 a49.2.2.2
 have b49:=F49.binds (ps:=["_law_bag_here","_law_x"]) fun _ _ _ _ _ _=>ln2 fun _ _=>rfl
 have F50:=aX (st:=cD) a50.2.1 a50.2.2.1 a50.2.2.2
 have b50:=F50.binds (ps:=["_law_bag_here","_law_laying_here"]) fun _ _ _ _ _ _=>ln2 fun _ _=>rfl
 have F51:=aX (st:=dD) a51.2.1 a51.2.2.1 a51.2.2.2
 have b51:=F51.binds (ps:=["_law_d","_law_thing"]) fun _ _ _ _ _ _=>ln2 fun _ _=>rfl
 have F52:=aX (st:=rn) a52.2.1 a52.2.2.1 a52.2.2.2
 have b52:=F52.binds (ps:=["_law_script"]) fun _ _ _ _ _ _=>ln1 fun _=>rfl
 have T:Txt K mg ⟨f0,fd "is_whole" ic t0 m0 c0,f1,fd "common_divisor" cK t1 m1 c1,f2,fd "is_number" gk t2 m2 c2,f3,fd "divisor_of_all" cI t3 m3 c3,f4,fd "number" nH t4 m4 c4,f5,fd "plus" wo t5 m5 c5,f6,fd "sign_of" jT t6 m6 c6,f7,fd "sign_of_parts" cU t7 m7 c7,f8,fd "is_above" ig t8 m8 c8,f9,fd "is_above_nought" cm t9 m9 c9,f10,fd "is_tile" jU t10 m10 c10,f11,fd "has_form" iq t11 m11 c11,f12,fd "bounds_of" gB t12 m12 c12,f13,fd "place_among" d6 t13 m13 c13,f14,fd "rising_marks" dy t14 m14 c14,f15,fd "reaches_just" dq t15 m15 c15,f16,fd "covers_once" d7 t16 m16 c16,f17,fd "is_laying" gp t17 m17 c17,f18,fd "_law_take" gv t18 m18 c18,f19,fd "_law_swapped" dA t19 m19 c19,f20,fd "_law_is_laying" cF t20 m20 c20,f21,fd "_law_is_above" cY t21 m21 c21,f22,fd "_law_is_number" cE t22 m22 c22,f23,fd "_law_is_whole" cX t23 m23 c23,f24,fd "_law_shared" dX t24 m24 c24,f25,fd "_law_sign" fY t25 m25 c25,f26,fd "_law_is_tile" dw t26 m26 c26,f27,fd "_law_covers" dW t27 m27 c27,f28,fd "_law_spans" eY t28 m28 c28,f29,fd "_law_ordered" du t29 m29 c29,f30,fd "_law_below" eS t30 m30 c30,f31,fd "_law_plus" fX t31 m31 c31,f32,fd "_law_low" iG t32 m32 c32,f33,fd "_law_minus" eP t33 m33 c33,f34,fd "_law_bag" iE t34 m34 c34,f35,fd "_law_root" gc t35 m35 c35,f36,fd "_law_laying" d3 t36 m36 c36,f37,fd "_law_pinwheel" cW t37 m37 c37,f38,fd "_law_floor" eR t38 m38 c38,f39,fd "_law_ends" gw t39 m39 c39,f40,fd "_law_sides" fc t40 m40 c40,f41,fd "_law_side" gi t41 m41 c41,f42,fd "_law_mixed" eX t42 m42 c42,f43,fd "_law_less" gA t43 m43 c43,f44,fd "_law_many_cells" cp t44 m44 c44,f45,fd "_law_blocks" dY t45 m45 c45,f46,fd "_law_room" gg t46 m46 c46,f47,fd "_law_odd" iD t47 m47 c47,f48,fd "_law_bent_laying" bW t48 m48 c48,f49,fd "_law_bent_number" bX t49 m49 c49,f50,fd "_law_exchanged" cD t50 m50 c50,f51,fd "_law_is_told" dD t51 m51 c51,fa,fd "law" rn t52 m52 c52,q0,g1⟩:=⟨F0,mg_of X G a0.1,a0.2.2.2,b0,F1,mg_of X G a1.1,a1.2.2.2,b1,F2,mg_of X G a2.1,a2.2.2.2,b2,F3,mg_of X G a3.1,a3.2.2.2,b3,F4,mg_of X G a4.1,a4.2.2.2,b4,F5,mg_of X G a5.1,a5.2.2.2,b5,F6,mg_of X G a6.1,a6.2.2.2,b6,F7,mg_of X G a7.1,a7.2.2.2,b7,F8,mg_of X G a8.1,a8.2.2.2,b8,F9,mg_of X G a9.1,a9.2.2.2,b9,F10,mg_of X G a10.1,a10.2.2.2,b10,F11,mg_of X G a11.1,a11.2.2.2,b11,F12,mg_of X G a12.1,a12.2.2.2,b12,F13,mg_of X G a13.1,a13.2.2.2,b13,F14,mg_of X G a14.1,a14.2.2.2,b14,F15,mg_of X G a15.1,a15.2.2.2,b15,F16,mg_of X G a16.1,a16.2.2.2,b16,F17,mg_of X G a17.1,a17.2.2.2,b17,F18,mg_of X G a18.1,a18.2.2.2,b18,F19,mg_of X G a19.1,a19.2.2.2,b19,F20,mg_of X G a20.1,a20.2.2.2,b20,F21,mg_of X G a21.1,a21.2.2.2,b21,F22,mg_of X G a22.1,a22.2.2.2,b22,F23,mg_of X G a23.1,a23.2.2.2,b23,F24,mg_of X G a24.1,a24.2.2.2,b24,F25,mg_of X G a25.1,a25.2.2.2,b25,F26,mg_of X G a26.1,a26.2.2.2,b26,F27,mg_of X G a27.1,a27.2.2.2,b27,F28,mg_of X G a28.1,a28.2.2.2,b28,F29,mg_of X G a29.1,a29.2.2.2,b29,F30,mg_of X G a30.1,a30.2.2.2,b30,F31,mg_of X G a31.1,a31.2.2.2,b31,F32,mg_of X G a32.1,a32.2.2.2,b32,F33,mg_of X G a33.1,a33.2.2.2,b33,F34,mg_of X G a34.1,a34.2.2.2,b34,F35,mg_of X G a35.1,a35.2.2.2,b35,F36,mg_of X G a36.1,a36.2.2.2,b36,F37,mg_of X G a37.1,a37.2.2.2,b37,F38,mg_of X G a38.1,a38.2.2.2,b38,F39,mg_of X G a39.1,a39.2.2.2,b39,F40,mg_of X G a40.1,a40.2.2.2,b40,F41,mg_of X G a41.1,a41.2.2.2,b41,F42,mg_of X G a42.1,a42.2.2.2,b42,F43,mg_of X G a43.1,a43.2.2.2,b43,F44,mg_of X G a44.1,a44.2.2.2,b44,F45,mg_of X G a45.1,a45.2.2.2,b45,F46,mg_of X G a46.1,a46.2.2.2,b46,F47,mg_of X G a47.1,a47.2.2.2,b47,F48,mg_of X G a48.1,a48.2.2.2,b48,F49,mg_of X G a49.1,a49.2.2.2,b49,F50,mg_of X G a50.1,a50.2.2.2,b50,F51,mg_of X G a51.1,a51.2.2.2,b51,F52,mg_of X G a52.1,a52.2.2.2,b52,mg_none_of X G z0,mg_none_of X G z1,mg_none_of X G z2,mg_none_of X G z3,mg_none_of X G z4,mg_none_of X G z5,mg_none_of X G z6,mg_none_of X G z7,mg_none_of X G z8,mg_none_of X G z9,mg_none_of X G z10,mg_none_of X G z11,mg_none_of X G z12,mg_none_of X G z13,mg_of X G v0,⟨mg_of X G v1,⟨_,_,_,_,_,_,w1⟩⟩⟩
 exact⟨_,fun s v=>.of_eq rfl,fun base _ _=>Qf (e:=⟨l.prog,w,K,mg,base,_⟩) T⟩
theorem walk{l:PySem.W.OpenLaw}{q:Program}{loose:List Str}{XP:(Str->Option Value)->Heap->Prop}{YP:World->Heap->Prop}{d:DefRec}{K:Params->PySem.W.Frag}(tabs:List Addr)(hn:l.most=some 63)(hdf:d.params.defaults=[])
  (hY:∀(w:World) (h:Heap),YP w h->(K w.params).In h/\(∀p∈tabs,h.get? p=some (PySem.W.tabObj #[])/\(K w.params).lookup p=none)/\(∀p∈tabs,isCodeTable h p))
  (hA2:∀(w:World) c o p q,(K w.params).lookup c=some o->dm o=some (p,q)->p∈tabs)
  (F:∀(w:World) (mg:Str->Option Value) (fa:Addr) (h:Heap),(K w.params).In h->h.Ns mainGlobals mg->mg d.name=some (.ref fa) ->
   ∃fd:FuncData,(∀(s:Shared) (u:Value),BindsTo s fd ⟨[u],[]⟩ [("_law_script",u)])/\∀base:Heap,(K w.params).In base->base.Ns mainGlobals mg->bD l.prog w (K w.params) mg base CX0 10 fa fd ["_law_script"] (spD (K w.params) zj)) :
  PySem.W.WalkO q loose XP YP l.row.toRowW d [] (fun f vs=>PySem.call f vs):=
 L2.LD (n:=63) (k:=10) (x:="_law_script") (CX:=fun _=>CX0) (sp:=fun w=>spD (K w.params) zj) tabs hn ⋯ hdf ⟨rfl,⋯,⋯⟩ hY hA2 F (fun w H a ns hl hT hS=>J9 hl hT hS) fun _ _ _ _ _ z=>z
end K08
open PySem PySem.W PyProof.Rows L2.DL in
set_option maxRecDepth 100000 in
set_option maxHeartbeats 0 in
theorem PySem.Challenge.cw_matefloors_k08_what_is_a_laying_holds : PySem.Challenge.rw_matefloors_k08_what_is_a_laying.Holds :=
 holds_law K08.H.ws fun said=>holds_open (XP:=XL K08.H.V []) (YP:=K08.H.HK.says) (d:=K08.H.D) (kwd:=[]) K08.H.left K08.H.HK.of K08.H.HK.keeps (fun s e=>xl_of s (Bool.and_eq_true_iff.mp e).1) XL.keeps ⟨⟩ ⟨⟩ ⟨⟩
  (fun s e=>recFacts_of (Bool.and_eq_true_iff.mp e).2) ⟨⟩ said ⟨⟩ ⟨⟨⟩,⟨⟩,⟨⟩,⟨⟩,⟨⟩,⟨⟩⟩ ⟨[.list []],⟨⟩,⟨⟩⟩
  (K08.walk (l:=PySem.Challenge.rw_matefloors_k08_what_is_a_laying) (K:=K08.H.K) K08.H.tabs ⟨⟩ ⟨⟩ (fun w h Y=>by
   have Y:(K08.H.KF w.params).In h:=Y
   refine⟨Cn Y,fun p hp=>?_,fun p hp=>?_⟩
   ·rcases List.mem_cons.mp hp with rfl|hp
    ·exact⟨Y _ _ (K08.H.nC w.params).1,(K08.H.nC w.params).2⟩
    rcases List.mem_cons.mp hp with rfl|hp
    ·exact⟨Y _ _ (K08.H.Je w.params).1,(K08.H.Je w.params).2⟩
    exact nomatch hp
   ·rcases List.mem_cons.mp hp with rfl|hp
    ·obtain⟨o,e1,e2⟩:=Js (K08.H.uR w.params);exact BQ (Cn Y) e1 e2
    rcases List.mem_cons.mp hp with rfl|hp
    ·obtain⟨o,e1,e2⟩:=Js (K08.H.L5 w.params);exact BQ (Cn Y) e1 e2
    exact nomatch hp) (fun w c o p q e e2=>by
   have h:=N9 (K08.H.QV w.params) e e2
   have h2:=mem_map_of_mem (f:=fun x:Addr×Str=>x.1) h
   exact h2) fun w mg fa h KX G hmg=>by
   obtain⟨h0,h1,h2,h3,h4,h5,h6,h7,h8,h9,h10,h11,h12,h13⟩:=K08.H.Qx w.params
   obtain⟨h14,h15,h16,h17,h18,h19,h20,h21,h22,h23,h24,h25,h26,h27⟩:=K08.H.Q5 w.params
   obtain⟨h28,h29,h30,h31,h32,h33,h34,h35,h36,h37,h38,h39,h40,h41⟩:=K08.H.Q9 w.params
   obtain⟨h42,h43,h44,h45,h46,h47,h48,h49,h50,h51,h52,h53,h54,h55⟩:=K08.H.Pm w.params
   obtain⟨h56,h57,h58,h59,h60,h61,h62,h63,h64,h65,h66,h67,h68⟩:=K08.H.PD w.params
   exact K08.all_mk KX G hmg h0 h1 h2 h3 h4 h5 h6 h7 h8 h9 h10 h11 h12 h13 h14 h15 h16 h17 h18 h19 h20 h21 h22 h23 h24 h25 h26 h27 h28 h29 h30 h31 h32 h33 h34 h35 h36 h37 h38 h39 h40 h41 h42 h43 h44 h45 h46 h47 h48 h49 h50 h51 h52 h53 h54 h55 h56 h57 h58 h59 h60 h61 h62 h63 h64 h65 h66 h67 h68.1 h68.2)
