import PyProof.Rows.All
import KE.KFind
import KE.KLam
import KE.KTryMore
import KE.LcSums
import KE.KRevSl
import Lean
import PyProof.DictCompW
import PyProof.DictTable
import PyProof.IsRules
import PyProof.SetKind
import PyProof.TupleKey
import PySem.SetTable
import PyProof.EnumMake
import PyProof.WalksEnum
import PyProof.Rows.SetFrom
import PyProof.SetRoads
import PySem.Challenge.RW_matefloors_k16_whole_sums_kept
set_option Elab.async false
set_option linter.all false
set_option maxRecDepth 100000
set_option maxHeartbeats 4000000
set_option genSizeOf false
set_option compiler.extract_closed false
set_option bootstrap.genMatcherCode false
local macro_rules|`(‹$q›)=>`({nx:=fun _ y=>$q (.v .none) y,rt:=$q})
set_option genInjectivity false
local macro_rules | `(⋯) => `((by decide))
local macro_rules | `(∅) => `((by omega))
local macro_rules | `(nofun) => `((by decide +kernel))
local macro_rules | `(⟨⟩) => `((by kernel_rfl))
local macro_rules | `(tactic| walk_at "s") => `(tactic| exact ⟨rfl, rfl, rfl, by decide +kernel, rfl, by decide +kernel, by decide +kernel⟩)
local macro_rules | `(tactic| walk_at "b") => `(tactic| (intro _ _ _ _ _ _ us hl; first | exact (match us, hl with | [], _ => rfl) | exact (match us, hl with | [_], _ => rfl) | exact (match us, hl with | [_, _], _ => rfl) | exact (match us, hl with | [_, _, _], _ => rfl) | exact (match us, hl with | [_, _, _, _], _ => rfl) | exact (match us, hl with | [_, _, _, _, _], _ => rfl)))
open PySem.W (fnOf nsIn codeIn keepIn kitOne kia_one excIn findIn mroIn clsIn tabObj kla_fn exmOne mg_of mg_none_of)
open List (map_append map_map map_id take_of_length_le mem_append_left filterMap_cons mem_cons_self mem_cons_of_mem mem_append_right append_nil length_take getElem?_append_right getElem?_append_left getElem?_map mem_of_getElem? length_append length_map size_toArray map_nil map_cons length_pos_of_mem length_cons getElem_mem getElem?_eq_none mem_append mem_cons getElem?_eq_getElem append_assoc length_nil mem_map flatMap_cons pairwise_map mem_map_of_mem lookup_cons cons_append nil_append take_length not_mem_nil set_cons_zero set_cons_succ flatMap_append sum_cons take_succ map_take getD_eq_getElem?_getD sum_nil)
open Int (mul_one natAbs_mul mul_zero le_of_lt eq_of_mul_eq_mul_right mul_ne_zero mul_nonneg mul_pos zero_mul)
open Nat (lt_of_lt_of_le ne_of_lt lt_irrefl le_trans le_refl pow_succ zero_le lt_or_ge mul_le_mul lt_or_eq_of_le)
open Bool (false_eq_true and_eq_true xor_false false_xor)
open PySem.F (plainAttrs_list)
open Option (bind_some map_some join_some bind_none)
open PySem (mem_of_lookup)
namespace L2
open PySem PySem.W
noncomputable def kI:Sem Fin->Bool
 |.choose ..=>false
 |.os ..=>false
 |_=>true
theorem Pr{den:Code->Sem Fin}{p:Program}{w:World}{os:OsState}{s s':Shared}{t t':Thread}(h:kI t.cur=true)(e:step den p ⟨fun _ _=>0,w.params⟩ s t = .go s' t') :
  step den p w {s with os:=os} t = .go {s' with os:=os} t':=by
 obtain⟨heap,gens,drawn,toks,os0⟩:=s
 obtain⟨cur,code,pos,stack⟩:=t
 cases cur<;>simp only[step,finish,kI] at e h ⊢<;>(try (cases h;done))<;>(repeat' split at e)<;>simp_all<;>(try (obtain⟨rfl,rfl⟩:=e;simp_all))<;>(try (obtain⟨h1,h2⟩:=e;subst h1;rfl))
noncomputable def qL(tb:String->Option Builtin)(p:Program)(P:Params)(nw:Nat)(ann:Option Value):Nat->Shared->Thread->Option Shared
 |0,_,_=>none
 |n+1,s,t=>match through t with
  |true=>some s
  |false=>match stepOk nw ann t&&kI t.cur with
   |false=>none
   |true=>match step (denote tb) p ⟨fun _ _=>0,P⟩ s t with
    |.go s' t'=>qL tb p P nw ann n s' t'
    |.halt _ _=>none
theorem xI{tb:String->Option Builtin}{p:Program}{w:World}{nw:Nat}{ann:Option Value}{os:OsState}:∀{n:Nat} {s s':Shared} {t:Thread},qL tb p w.params nw ann n s t=some s'->topRun tb p w nw ann n {s with os:=os} t=some {s' with os:=os}
 |0,_,_,_,h=>by cases h
 |n+1,s,s',t,h=>by
  unfold qL at h
  unfold topRun
  cases ht:through t with
  |true=>rw[ht] at h;cases h;rfl
  |false=>
   rw[ht] at h
   cases hk:(stepOk nw ann t&&kI t.cur) with
   |false=>rw[hk] at h;cases h
   |true=>
    rw[hk] at h
    obtain⟨k1,k2⟩:=Bool.and_eq_true_iff.mp hk
    cases hs:step (denote tb) p ⟨fun _ _=>0,w.params⟩ s t with
    |halt o ln=>rw[hs] at h;cases h
    |go ln wE=>
     rw[hs] at h
     rw[k1,Pr (os:=os) k2 hs]
     exact xI h
noncomputable def vE(p:Program)(P:Params)(nw:Nat)(ann:Option Value):Nat->Shared->Thread->Option Shared
 |0,_,_=>none
 |n+1,s,t=>match through t with
  |true=>some s
  |false=>match Fast.tw6613529449190102663 nw ann t&&kI t.cur with
   |false=>none
   |true=>match Fast.tw8437177126325714943 (Fast.tw11892475500146522536 Fast.tw14364793385576792824) p ⟨fun _ _=>0,P⟩ s t with
    |.go s' t'=>vE p P nw ann n s' t'
    |.halt _ _=>none
theorem xS{p:Program}{P:Params}{nw:Nat}{ann:Option Value}:∀(n:Nat) (s:Shared) (t:Thread),vE p P nw ann n s t=qL treeTable p P nw ann n s t
 |0,_,_=>rfl
 |n+1,s,t=>by
  unfold vE qL
  rw[<- Fast.te6613529449190102663,<- Fast.te8437177126325714943,<- Fast.te11892475500146522536,<- Fast.te14364793385576792824]
  cases through t with
  |true=>rfl
  |false=>
   cases (stepOk nw ann t&&kI t.cur) with
   |false=>rfl
   |true=>
    cases step (denote treeTable) p ⟨fun _ _=>0,P⟩ s t with
    |halt o ln=>rfl
    |go ln wE=>exact xS n ln wE
end L2
namespace L2
open PySem
noncomputable def iR(s:Stmt):Arguments:=match s with
 |.FunctionDef _ a _ _ _ _ _ _ _ _=>a
 |_=>{posonlyargs:=[],args:=[],vararg:=none,kwonlyargs:=[],kw_defaults:=[],kwarg:=none,defaults:=[]}
noncomputable def d6(s:Stmt):List Stmt:=match s with
 |.FunctionDef _ _ b _ _ _ _ _ _ _=>b
 |_=>[]
noncomputable def az(s:Stmt):Scope:=match s with
 |.FunctionDef _ _ _ _ _ _ sc _ _ _=>sc
 |_=>{kind:=.function,names:=[],isGenerator:=false,isCoroutine:=false}
end L2
namespace L2.DL
open PySem
noncomputable def Lh:List Str:=["law","_law_is_right","_law_is_put","_law_are_refused","_law_is_told","_law_said","_law_is_plan_told"]
noncomputable def bO(o:Obj):Option (Addr×Str):=match o.cls,o.data with
 |.type c,.fields vs=>if c = "code" then (match vs[1]?,vs[7]?,vs[9]?,vs[10]?,vs[11]?,vs[18]? with
  |some (Value.str q _),some (Value.int _ _),some (Value.bool _),some (Value.int _ _),some (Value.ref P),some (Value.str _ _)=>if Lh.contains q=true then some (P,q) else none
  |_,_,_,_,_,_=>none) else none
 |_,_=>none
noncomputable abbrev bmV:List Value:=[.type "ValueError",.type "Exception",.type "BaseException",.type "object"]
end L2.DL
namespace K16
open PySem L2
noncomputable def top(i:Nat):Stmt:=PySem.Challenge.pw_matefloors_k16_whole_sums_kept.main.body.getD i (.Pass ⟨0,0,0,0⟩)
noncomputable abbrev jJ:Stmt:=top 17
noncomputable abbrev dh:Stmt:=top 18
noncomputable abbrev iB:Stmt:=top 19
noncomputable abbrev dw:Stmt:=top 20
noncomputable abbrev nG:Stmt:=top 21
noncomputable abbrev x8:Stmt:=top 22
noncomputable abbrev xr:Stmt:=top 23
noncomputable abbrev qV:Stmt:=top 24
noncomputable abbrev kE:Stmt:=top 25
noncomputable abbrev dH:Stmt:=top 26
noncomputable abbrev jl:Stmt:=top 27
noncomputable abbrev cW:Stmt:=top 28
noncomputable abbrev kN:Stmt:=top 31
noncomputable abbrev je:Stmt:=top 32
noncomputable abbrev iA:Stmt:=top 33
noncomputable abbrev fe:Stmt:=top 34
noncomputable abbrev eI:Stmt:=top 35
noncomputable abbrev d9:Stmt:=top 36
noncomputable abbrev fv:Stmt:=top 37
noncomputable abbrev ip:Stmt:=top 38
noncomputable abbrev dm:Stmt:=top 39
noncomputable abbrev lh:Stmt:=top 41
noncomputable abbrev eC:Stmt:=top 42
noncomputable abbrev jC:Stmt:=top 44
noncomputable abbrev iw:Stmt:=top 45
noncomputable abbrev dG:Stmt:=top 46
noncomputable abbrev fh:Stmt:=top 47
noncomputable abbrev jt:Stmt:=top 48
noncomputable abbrev dj:Stmt:=top 49
noncomputable abbrev iC:Stmt:=top 50
noncomputable abbrev gh:Stmt:=top 51
noncomputable abbrev iu:Stmt:=top 52
noncomputable abbrev gn:Stmt:=top 53
noncomputable abbrev dI:Stmt:=top 54
noncomputable abbrev iz:Stmt:=top 55
noncomputable abbrev iD:Stmt:=top 56
noncomputable abbrev fo:Stmt:=top 57
noncomputable abbrev gC:Stmt:=top 58
noncomputable abbrev jo:Stmt:=top 59
noncomputable abbrev eK:Stmt:=top 60
noncomputable abbrev gG:Stmt:=top 61
noncomputable abbrev eE:Stmt:=top 62
noncomputable abbrev jj:Stmt:=top 63
noncomputable abbrev fw:Stmt:=top 64
noncomputable abbrev eJ:Stmt:=top 65
noncomputable abbrev fz:Stmt:=top 66
noncomputable abbrev qD:Stmt:=top 67
noncomputable abbrev fd(n:Str)(s:Stmt)(tk:Tok)(m:Str)(cd:Addr):FuncData:=fnOf n n (iR s) (d6 s) (az s) .none .none .none (.str m tk) none (.ref cd) .none
noncomputable abbrev FQ(K:PySem.W.Frag)(n:Str)(s:Stmt)(a cd:Addr)(tk:Tok)(m:Str):Prop:=nsIn K mainGlobals n=some (some (.ref a))/\K.lookup a=some ⟨.type "function",none,.func (fd n s tk m cd),#[]⟩/\codeIn K (.ref cd) n=true/\keepIn K (.ref a)=true
end K16
namespace K16.H
open PySem PySem.W PyProof.Rows L2 L2.DL
set_option maxHeartbeats 0
noncomputable abbrev R:OpenLaw:=PySem.Challenge.rw_matefloors_k16_whole_sums_kept
noncomputable abbrev LO:List Str:=["has_form","has_form_layings","has_form_plans"]
noncomputable def sT(P:Params):Option Shared:=vE R.row.prog P 11 (some (.ref 6)) 20000 {heap:=boot_heap P,gens:=#[],drawn:=boot_drawn,toks:=boot_toks,os:=default} (topStub R.row.prog)
noncomputable def defName:Stmt->Str
 |.FunctionDef n _ _ _ _ _ _ _ _ _=>n
 |_=>Str.empty
noncomputable def Ht:Stmt->Int
 |.FunctionDef _ _ _ _ _ _ _ _ _ p=>Int.ofNat p.line
 |_=>0
noncomputable def cn(o:Obj)(r:List Obj):List Obj:=o::r
noncomputable def g(P:Params)(x:Str)(t:Nat)(v:Value):DictEntry:=⟨PyData.keyHash P x,.str x t,v⟩
noncomputable def gf(P:Params)(i t a:Nat):DictEntry:=g P (defName (top i)) t (.ref a)
noncomputable def tb:List (Int×Nat)->List Value
 |[]=>[]
 |(a,b)::l=>.int a 0::.int 0 0::.ref b::tb l
noncomputable def tu(l:List Value):Obj:=⟨.type "tuple",none,.seq l.toArray 0,#[]⟩
noncomputable def nf:Obj:=⟨.none,none,.fields #[],#[]⟩
noncomputable def dp(s:Stmt):List Str:=(iR s).args.map (·.arg)
noncomputable def fd(s:Stmt)(a:Addr)(p c:Value):Data:=.func {name:=defName s,qualname:=defName s,params:=iR s,body:=.stmts (d6 s),scope:=az s,globals:=a,closure:=[],defaults:=.none,kwdefaults:=.none,pyModule:=p,code:=c}
noncomputable def co(s:Stmt)(a t u:Nat)(x y:Value)(d:Nat):Obj:=⟨.type "code",none,.fields #[.str (defName s) t,.str (defName s) (t+1),.str "/claim/cut.py" (t+2),.int (Ht s) 0,.int (Int.ofNat (dp s).length) 0,.int 0 0,.int 0 0,.int 3 0,.ref a,.bool true,.int 181 0,.ref (a+1),.none,x,y,.ref (a+d),.int (Int.ofNat u) 0,.int (Ht s) 0,.str "/claim/cut.py" (u+1)],#[]⟩
noncomputable def nv:Nat->List Str->List Value
 |_,[]=>[]
 |t,x::l=>.str x t::nv (t+1) l
noncomputable def fB(i a t:Nat)(l:List Str)(p:Value)(r:List Obj):List Obj:=tu []::nf::tu (nv (t+3) (dp (top i)++l))::tu []::⟨.none,none,fd (top i) 0 .none .none,#[]⟩::co (top i) a t (t+3+(dp (top i)++l).length) (.ref (a+2)) (.ref (a+3)) 4::⟨.type "function",none,fd (top i) 3 p (.ref (a+5)),#[]⟩::r
noncomputable def fL(i a t:Nat)(p:Value)(r:List Obj):List Obj:=tu []::nf::⟨.none,none,fd (top i) 0 .none .none,#[]⟩::co (top i) a t (t+3) .none .none 2::⟨.type "function",none,fd (top i) 3 p (.ref (a+3)),#[]⟩::r
noncomputable def me:Value:=.str "matefloors.errors" 187
noncomputable def cB(P:Params)(x:Str)(i t:Nat)(n:Int)(r:List Obj):List Obj:=tu [.ref 24]::⟨.type "builtin_function_or_method",none,.fields #[.builtin "type.__prepare__",.type "type"],#[]⟩::⟨.type "dict",none,.dict #[g P "__module__" (t+5) me,g P "__qualname__" (t+7) (.str x (t+6)),g P "__firstlineno__" (t+9) (.int n (t+8)),g P "__static_attributes__" (t+10) (.ref (i+7))] 4,#[]⟩::tu []::nf::⟨.type "code",none,.fields #[.str x t,.str x (t+1),.str "/claim/cut.py" (t+2),.int n 0,.int 0 0,.int 0 0,.int 0 0,.int 0 0,.ref (i+3),.bool false,.int 181 0,.ref (i+4),.none,.none,.none,.none,.int (Int.ofNat (t+3)) 0,.int n 0,.str "/claim/cut.py" (t+4)],#[]⟩::⟨.type "frame",none,.plain,#[some (.ref (i+5)),some (.ref 3),some (.ref (i+2)),none,some me,none,some (.ref 0)]⟩::tu []::⟨.type "dict",none,.dict #[g P "__module__" (t+5) me,g P "__firstlineno__" (t+9) (.int n (t+8)),g P "__static_attributes__" (t+10) (.ref (i+7)),g P "__doc__" (t+11) .none] 2,#[]⟩::⟨.type "type",none,.cls ⟨x,[.ref 24],[.ref (i+9),.ref 24,.type "ValueError",.type "Exception",.type "BaseException",.type "object"],i+8,x,true,[],[],false,none,false⟩,#[some (.ref i),none,some (.str x (t-2)),some (.str x (t+6)),some (.builtin "ValueError.__new__"),some (.bool true)]⟩::⟨.type "super",none,.fields #[.ref (i+9),.ref (i+9),.ref (i+9)],#[]⟩::⟨.type "builtin_function_or_method",none,.fields #[.builtin "object.__init_subclass__",.ref (i+9)],#[]⟩::r
noncomputable def m0:Value:=.str "matefloors.numbers" 415
noncomputable def m1:Value:=.str "matefloors.layings" 526
noncomputable def m2:Value:=.str "matefloors.weighing" 610
noncomputable def m3:Value:=.str "law_matefloors_k16_whole_sums_kept" 634
noncomputable def ho0(P:Params)(r:List Obj):List Obj:=cn (boot_o_0 P) <| cn (boot_o_1 P) <| cn (boot_o_2 P) <| cn (⟨.type "dict",none,.dict #[g P "__name__" 165 (.str "law_matefloors_k16_whole_sums_kept" 634),g P "__doc__" 166 .none,g P "__package__" 167 .none,g P "__loader__" 168 (.builtin "__main__.__loader__#opaque"),g P "__spec__" 169 .none,g P "__annotations__" 170 (.ref 6),g P "__builtins__" 171 (.ref 4),g P "__file__" 173 (.str "/claim/cut.py" 172),g P "__cached__" 174 .none,g P "FloorError" 206 (.ref 24),g P "NoRoot" 222 (.ref 37),g P "NoNumber" 238 (.ref 49),g P "NoLaying" 254 (.ref 61),g P "NoTile" 270 (.ref 73),g P "NoFit" 286 (.ref 85),g P "NoKinds" 302 (.ref 97),g P "NoPlan" 318 (.ref 109),g P "NoSpot" 334 (.ref 121),g P "NoNet" 350 (.ref 133),g P "NoText" 366 (.ref 145),g P "NoSaying" 382 (.ref 157),g P "NoName" 398 (.ref 169),g P "TooMany" 414 (.ref 181),g P "NOUGHT" 420 (.ref 184),gf P 17 427 191,gf P 18 435 198,gf P 19 445 205,gf P 20 454 212,gf P 21 464 219,gf P 22 471 226,gf P 23 479 233,gf P 24 488 240,gf P 25 496 247,gf P 26 506 254,gf P 27 517 261,gf P 28 525 268,g P "MOST_TILES" 529 (.int 60 528),gf P 31 541 275,gf P 32 547 280,gf P 33 558 287,gf P 34 570 294,gf P 35 581 301,gf P 36 589 308,gf P 37 595 313,gf P 38 601 318,gf P 39 609 325,gf P 41 627 332,gf P 42 633 337,gf P 44 647 344,gf P 45 656 351,gf P 46 663 358,gf P 47 671 365,gf P 48 681 372,gf P 49 687 377,gf P 50 695 384,gf P 51 702 391,gf P 52 709 398,gf P 53 718 405,gf P 54 726 412,gf P 55 737 419,gf P 56 743 424,gf P 57 755 431,gf P 58 765 438,gf P 59 773 445,gf P 60 779 450,gf P 61 795 457,gf P 62 804 464,gf P 63 810 469,gf P 64 816 474,gf P 65 822 479,gf P 66 843 486,gf P 67 849 491] 72,#[]⟩) <| cn (boot_o_4 P) <| cn (boot_o_5 P) <| cn (boot_o_6 P) <| cn (boot_o_7 P) <| cn (boot_o_8 P) <| cn (boot_o_9 P) <| cn (boot_o_10 P) <| cn (⟨(.type "tuple"),none,(.seq #[] 0),#[]⟩) <| cn (⟨.none,none,.fields (tb [(2,20),(4,33),(6,45),(8,57),(10,69),(12,81),(14,93),(16,105),(18,117),(20,129),(22,141),(24,153),(26,165),(28,177),(32,190),(34,197),(38,204),(45,211),(47,218),(54,225),(56,232),(58,239),(60,246),(62,253),(71,260),(75,267),(79,274),(86,279),(95,286),(98,293),(108,300),(115,307),(117,312),(128,317),(136,324),(140,331),(145,336),(151,343),(161,350),(168,357),(170,364),(175,371),(178,376),(182,383),(184,390),(186,397),(188,404),(190,411),(192,418),(198,423),(203,430),(209,437),(215,444),(218,449),(228,456),(233,463),(238,468),(262,473),(269,478),(281,485),(292,490)]).toArray,#[]⟩) <| cn (⟨(.type "code"),none,(.fields #[(.str "<module>" 182),(.str "<module>" 183),(.str "/claim/cut.py" 184),(.int 1 0),(.int 0 0),(.int 0 0),(.int 0 0),(.int 0 0),(.ref 11),(.bool false),(.int 181 0),(.ref 12),.none,.none,.none,.none,(.int 185 0),(.int 1 0),(.str "/claim/cut.py" 186)]),#[]⟩) <| cn (⟨(.type "frame"),none,.plain,#[some (.ref 13),some (.ref 3),some (.ref 3),none,some (.str "__main__" 164),none,some (.ref 0)]⟩) <| cn (⟨(.type "tuple"),none,(.seq #[(.type "ValueError")] 0),#[]⟩) <| cn (⟨(.type "builtin_function_or_method"),none,(.fields #[(.builtin "type.__prepare__"),(.type "type")]),#[]⟩) <| cn (⟨(.type "dict"),none,(.dict #[⟨PyData.keyHash P "__module__",(.str "__module__" 196),(.str "matefloors.errors" 187)⟩,⟨PyData.keyHash P "__qualname__",(.str "__qualname__" 198),(.str "FloorError" 197)⟩,⟨PyData.keyHash P "__firstlineno__",(.str "__firstlineno__" 200),(.int 2 199)⟩,⟨PyData.keyHash P "__static_attributes__",(.str "__static_attributes__" 201),(.ref 22)⟩] 4),#[]⟩) <| cn (⟨(.type "tuple"),none,(.seq #[] 0),#[]⟩) <| cn (⟨.none,none,(.fields #[]),#[]⟩) <| r
noncomputable def ho1(P:Params)(r:List Obj):List Obj:=cn (⟨(.type "code"),none,(.fields #[(.str "FloorError" 191),(.str "FloorError" 192),(.str "/claim/cut.py" 193),(.int 2 0),(.int 0 0),(.int 0 0),(.int 0 0),(.int 0 0),(.ref 18),(.bool false),(.int 181 0),(.ref 19),.none,.none,.none,.none,(.int 194 0),(.int 2 0),(.str "/claim/cut.py" 195)]),#[]⟩) <| cn (⟨(.type "frame"),none,.plain,#[some (.ref 20),some (.ref 3),some (.ref 17),none,some (.str "matefloors.errors" 187),none,some (.ref 0)]⟩) <| cn (⟨(.type "tuple"),none,(.seq #[] 0),#[]⟩) <| cn (⟨(.type "dict"),none,(.dict #[⟨PyData.keyHash P "__module__",(.str "__module__" 196),(.str "matefloors.errors" 187)⟩,⟨PyData.keyHash P "__firstlineno__",(.str "__firstlineno__" 200),(.int 2 199)⟩,⟨PyData.keyHash P "__static_attributes__",(.str "__static_attributes__" 201),(.ref 22)⟩,⟨PyData.keyHash P "__weakref__",(.str "__weakref__" 203),(.ref 25)⟩,⟨PyData.keyHash P "__doc__",(.str "__doc__" 204),.none⟩] 3),#[]⟩) <| cn (⟨(.type "type"),none,(.cls ⟨"FloorError",[(.type "ValueError")],[(.ref 24),(.type "ValueError"),(.type "Exception"),(.type "BaseException"),(.type "object")],23,"FloorError",true,[],[(.ref 37),(.ref 49),(.ref 61),(.ref 73),(.ref 85),(.ref 97),(.ref 109),(.ref 121),(.ref 133),(.ref 145),(.ref 157),(.ref 169),(.ref 181)],false,none,false⟩),#[some (.ref 15),none,some (.str "FloorError" 189),some (.str "FloorError" 197),some (.builtin "ValueError.__new__"),some (.bool true)]⟩) <| cn (⟨(.type "getset_descriptor"),none,(.fields #[(.str "__weakref__" 202),(.ref 24),(.builtin "ExceptionGroup.__weakref__"),.none]),#[]⟩) <| cn (⟨(.type "super"),none,(.fields #[(.ref 24),(.ref 24),(.ref 24)]),#[]⟩) <| cn (⟨(.type "builtin_function_or_method"),none,(.fields #[(.builtin "object.__init_subclass__"),(.ref 24)]),#[]⟩) <| cB P "NoRoot" 28 209 4 <| cB P "NoNumber" 40 225 6 <| cB P "NoLaying" 52 241 8 <| cB P "NoTile" 64 257 10 <| cB P "NoFit" 76 273 12 <| cB P "NoKinds" 88 289 14 <| cB P "NoPlan" 100 305 16 <| cB P "NoSpot" 112 321 18 <| cB P "NoNet" 124 337 20 <| cB P "NoText" 136 353 22 <| cB P "NoSaying" 148 369 24 <| cB P "NoName" 160 385 26 <| r
noncomputable def ho2(P:Params)(r:List Obj):List Obj:=cB P "TooMany" 172 401 28 <| cn (⟨(.type "tuple"),none,(.seq #[(.int 0 417),(.int 0 418),(.int 1 419)] 0),#[]⟩) <| fB 17 185 421 [] m0 <| fB 18 192 428 [] m0 <| fB 19 199 436 ["a","b","c"] m0 <| fB 20 206 446 [] m0 <| fB 21 213 455 ["divisor"] m0 <| fB 22 220 465 [] m0 <| fB 23 227 472 [] m0 <| fB 24 234 480 [] m0 <| fB 25 241 489 [] m0 <| fB 26 248 497 ["prevailing"] m0 <| fB 27 255 507 ["a","b"] m0 <| fB 28 262 518 [] m0 <| fB 31 269 530 ["x","y","width","height"] m1 <| fL 32 276 542 m1 <| fB 33 281 548 ["x","y","width","height"] m1 <| fB 34 288 559 ["low","high","middle"] m1 <| fB 35 295 571 ["marks","x","place"] m1 <| fB 36 302 582 [] m1 <| r
noncomputable def ho3(P:Params)(r:List Obj):List Obj:=fL 37 309 590 m1 <| fL 38 314 596 m1 <| fB 39 319 602 [] m1 <| fB 41 326 612 ["p","q","s","t","by_width","by_its_mate"] m2 <| fL 42 333 628 m2 <| fB 44 338 636 ["_law_cell","_law_great","_law_primes","_law_mixed"] m3 <| fB 45 345 648 ["_law_digit"] m3 <| fB 46 352 657 [] m3 <| fB 47 359 664 [] m3 <| fB 48 366 672 ["_law_common"] m3 <| fL 49 373 682 m3 <| fB 50 378 688 [] m3 <| fB 51 385 696 [] m3 <| fB 52 392 703 [] m3 <| fB 53 399 710 [] m3 <| fB 54 406 719 [] m3 <| fB 55 413 727 ["_law_first","_law_second","_law_sides"] m3 <| fL 56 420 738 m3 <| fB 57 425 744 ["_law_wide","_law_a","_law_b","_law_c","_law_way"] m3 <| fB 58 432 756 ["_law_x","_law_sign_here"] m3 <| r
noncomputable def ho4(P:Params)(r:List Obj):List Obj:=fB 59 439 766 ["_law_some"] m3 <| fL 60 446 774 m3 <| fB 61 451 780 ["_law_p","_law_q","_law_s","_law_t","_law_first","_law_second"] m3 <| fB 62 458 796 ["_law_z"] m3 <| fL 63 465 805 m3 <| fL 64 470 811 m3 <| fL 65 475 817 m3 <| fB 66 480 823 ["_law_width","_law_height","_law_tiles","_law_at","_law_x","_law_y","_law_w","_law_h","_law_more","_law_wide","_law_some","_law_way"] m3 <| fL 67 487 844 m3 <| r
noncomputable def hT(P:Params):Heap:=⟨⟨ho0 P <| ho1 P <| ho2 P <| ho3 P <| ho4 P []⟩,(boot_heap P).life⟩
noncomputable abbrev mz0:Str:="matefloors.numbers"
noncomputable abbrev mz1:Str:="matefloors.layings"
noncomputable abbrev mz2:Str:="matefloors.weighing"
noncomputable abbrev mz3:Str:="law_matefloors_k16_whole_sums_kept"
noncomputable def isNm:Stmt->Bool
 |.Assign [.Name x _] _ _=>x == "__name__"
 |_=>false
noncomputable def V:Program:={R.row.prog with main:={R.row.prog.main with body:=R.row.prog.main.body.filter fun s=>!isNm s}}
noncomputable def as:List Addr:=[3,191,190,198,197,205,204,212,211,219,218,226,225,233,232,240,239,247,246,254,253,261,260,268,267,275,274,280,279,287,286,294,293,301,300,308,307,313,312,318,317,325,324,332,331,337,336,344,343,351,350,358,357,365,364,372,371,377,376,384,383,391,390,398,397,405,404,412,411,419,418,424,423,431,430,438,437,445,444,450,449,457,456,464,463,469,468,474,473,479,478,486,485,491,490,184,24,23,37,36,49,48,61,60,73,72,85,84,97,96,109,108,121,120,133,132,145,144,157,156,169,168,181,180,4]
noncomputable def tabs:List Addr:=[476,488]
noncomputable def K(P:Params):Frag:=as.map fun a=>(a,((hT P).get? a).getD default)
noncomputable def TF(P:Params):Frag:=tabs.map fun a=>(a,((hT P).get? a).getD default)
noncomputable def KF(P:Params):Frag:=K P++TF P
theorem kAs(P:Params):as++tabs=(KF P).map (·.1):=by
 unfold KF K TF
 rw[map_append,map_map,map_map]
 exact congr (congrArg HAppend.hAppend (map_id _).symm) (map_id _).symm
noncomputable def HK:Hook:=kHook KF (as++tabs) kAs
noncomputable def posOf:Stmt->Pos
 |.FunctionDef _ _ _ _ _ _ _ _ _ p=>p
 |_=>⟨0,0,0,0⟩
noncomputable def D:DefRec:=⟨"law",iR K16.qD,d6 K16.qD,az K16.qD,posOf K16.qD⟩
noncomputable def Xt:Shared->Bool:=fun s=>xlAt V [] s&&recOk R.row.records s
theorem runC(P:Params):(sT P).map (fun s=>(s.heap,s.gens,s.drawn,s.toks))=some (hT P,#[],{},850):=⟨⟩
theorem Ti{A B C D:Type}{a a':A}{b b':B}{c c':C}{d d':D}(h:(a,b,c,d)=(a',b',c',d')):a=a'/\b=b'/\c=c'/\d=d':=by
 cases h;exact⟨rfl,rfl,rfl,rfl⟩
theorem run(w:World)(os:OsState):topRun treeTable R.row.prog w 11 (some (.ref 6)) 20000 {heap:=boot_heap w.params,gens:=#[],drawn:=boot_drawn,toks:=boot_toks,os:=os} (topStub R.row.prog)=some {heap:=hT w.params,gens:=#[],drawn:={},toks:=850,os:=os}:=by
 have h:=runC w.params
 cases e:sT w.params with
 |none=>rw[e] at h;cases h
 |some s=>
  rw[e] at h
  obtain⟨heap,gens,drawn,toks,os0⟩:=s
  have h':some (heap,gens,drawn,toks)=some (hT w.params,(#[]:Array GenState),({}:Drawn),850):=h
  obtain⟨rfl,rfl,rfl,rfl⟩:=Ti (Option.some.inj h')
  exact xI (w:=w) (os:=os) ((xS _ _ _).symm.trans e)
theorem Rk(w:World)(os:OsState):(staticsOk (importedModules R.row.prog.main.body) (boot_heap w.params) (hT w.params)&&namesBound R.row.prog (hT w.params)&&gensDone {heap:=hT w.params,gens:=#[],drawn:={},toks:=850,os:=os}&&laidKept (boot_heap w.params) (hT w.params))=true:=⟨⟩
theorem O7(w:World)(os:OsState):seen (List.map (fun x=>x.name) (recsOf V)) (ownsOf V) [] {heap:=hT w.params,drawn:={},toks:=850,os:=os} = expectedOf V:=⟨⟩
theorem QF(w:World)(os:OsState):(hT w.params).bltView=bltViewBooted:=⟨⟩
theorem PB(w:World)(os:OsState):((hT w.params).keysOk (looseW V LO) (List.map (fun x=>x.name) (recsOf V)) (List.map (fun x=>x.fst) (litsOf V)) (List.map (fun x=>x.name) (clssOf V (looseW V LO)))&&(hT w.params).accountedOkI (importedModules R.row.prog.main.body)&&(hT w.params).isNs mainGlobals&&(hT w.params).isNs builtinsNs&&tablesOk V (hT w.params)&&Xt {heap:=hT w.params,gens:=#[],drawn:={},toks:=850,os:=os}&&(if true=true then (#[]:Array GenState).size==0 else !leftWithCleanup (#[]:Array GenState)))=true:=⟨⟩
theorem Pe(w:World)(os:OsState):tabsOk V {heap:=hT w.params,gens:=#[],drawn:={},toks:=850,os:=os} = true:=⟨⟩
theorem QD(w:World)(os:OsState):pinSeenD V (drecsOf V) {heap:=hT w.params,gens:=#[],drawn:={},toks:=850,os:=os} = pinGoodD (drecsOf V):=⟨⟩
theorem QJ(w:World)(os:OsState):plainSeenE V (looseW V LO) {heap:=hT w.params,gens:=#[],drawn:={},toks:=850,os:=os} = plainGoodE V (looseW V LO):=⟨⟩
theorem P1(w:World)(os:OsState):plainSeenD V LO {heap:=hT w.params,gens:=#[],drawn:={},toks:=850,os:=os} = plainGoodD V LO:=⟨⟩
theorem OU(w:World)(os:OsState):wideSeen V {heap:=hT w.params,gens:=#[],drawn:={},toks:=850,os:=os} = wideGood V:=⟨⟩
theorem PZ(w:World)(os:OsState):clsSeenW V LO {heap:=hT w.params,gens:=#[],drawn:={},toks:=850,os:=os} = clsGoodW V LO:=⟨⟩
theorem QU{A B C D E F G H I:Type}{a a':A}{b b':B}{c c':C}{d d':D}{e e':E}{f f':F}{g g':G}{h h':H}{i i':I}(h0:a=a')(h1:b=b')(h2:c=c')(h3:d=d')(h4:e=e')(h5:f=f')(h6:g=g')(h7:h=h')(h8:i=i'):(a,b,c,d,e,f,g,h,i)=(a',b',c',d',e',f',g',h',i'):=by
 rw[h0,h1,h2,h3,h4,h5,h6,h7,h8]
theorem Q6(w:World)(os:OsState):openSeen V LO (importedModules R.row.prog.main.body) Xt true {heap:=hT w.params,gens:=#[],drawn:={},toks:=850,os:=os} = openGood V LO:=QU (O7 w os) (QF w os) (PB w os) (Pe w os) (QD w os) (QJ w os) (P1 w os) (OU w os) (PZ w os)
theorem Ro(w:World)(os:OsState):HK.obs {heap:=hT w.params,gens:=#[],drawn:={},toks:=850,os:=os} = HK.val w:=⟨⟩
theorem seen(w:World):(fun os=>(staticsOk (importedModules R.row.prog.main.body) (boot_heap w.params) (hT w.params)&&namesBound R.row.prog (hT w.params)&&gensDone {heap:=hT w.params,gens:=#[],drawn:={},toks:=850,os:=os}&&laidKept (boot_heap w.params) (hT w.params),
  openSeen V LO (importedModules R.row.prog.main.body) Xt true {heap:=hT w.params,gens:=#[],drawn:={},toks:=850,os:=os},HK.obs {heap:=hT w.params,gens:=#[],drawn:={},toks:=850,os:=os}))=fun _:OsState=>(true,openGood V LO,HK.val w):=
 funext fun os=>Prod.ext (Rk w os) (Prod.ext (Q6 w os) (Ro w os))
theorem lkb{a b:Bool}(x:a=true)(y:b=true):(a&&b)=true:=by rw[x,y];rfl
theorem wsA:(sreFenced R.row.prog.main&&((moduleNames R.row.prog.main.body).isEmpty || lookedIntoSs (moduleNames R.row.prog.main.body) R.row.prog.main.body))=true:=⟨⟩
theorem wsB:namesResolve R.row.prog=true:=⟨⟩
theorem wsC:R.row.prog.boundNames.all (fun n=>!worldNames.contains n)=true:=⟨⟩
theorem wsD:noRoadLSs {strict:=!(importedModules R.row.prog.main.body).all cThrough.contains,foot:=none,bare:=(["vars","dir","locals"]:List Str).filter (readsOut R.row.prog R.row.prog.main.body)} R.row.prog.main.body=true:=⟨⟩
theorem wsE:(namesMeet R.row.prog R.row.prog.main.body fun _ n=>attrL n)=true:=⟨⟩
theorem wsF:looksOpen R.row.prog=true:=lkb (lkb (lkb (lkb wsA wsB) wsC) wsD) wsE
theorem wsG:R.row.wellSaid=true:=by
 unfold OpenRow.wellSaid OpenRow.partSaid
 rw[wsF]
 kernel_rfl
theorem wsH:noClassBlock R.prog R.footing=true:=⟨⟩
theorem wsI:noRoadLSs {strict:=true,foot:=some R.bound',writes:=R.writes,may:=R.may} R.footing=true:=⟨⟩
theorem wsJ:R.namesIt=true:=⟨⟩
theorem wsK:R.bound'.all (fun n=>!builtinNamed n || R.about==[n] || !R.reads n)=true:=⟨⟩
theorem wsL:namesMeet R.prog R.footing (fun sc n=>(!(["type","isinstance","issubclass","getattr","hasattr"]:List Str).contains n || sc.names.lookup n==some .globalImplicit)&&(R.may != some n || sc.kind==.module || sc.names.lookup n==some .globalImplicit))=true:=⟨⟩
theorem wsM:namesMeet R.prog R.above (fun _ n=>!R.own.contains n)=true:=⟨⟩
theorem wsN:(namesMeet R.prog R.footing fun sc n=>sc.kind==.module || sc.names.lookup n != some .globalExplicit)=true:=⟨⟩
theorem ws:R.wellSaid=true:=by
 unfold OpenLaw.wellSaid
 rw[wsG,wsH,wsI,wsJ,wsK,wsL,wsM,wsN]
 kernel_rfl
theorem PK(P:Params):FQ (K P) "is_whole" jJ 191 190 415 mz0/\FQ (K P) "common_divisor" dh 198 197 415 mz0/\FQ (K P) "is_number" iB 205 204 415 mz0/\FQ (K P) "divisor_of_all" dw 212 211 415 mz0/\FQ (K P) "number" nG 219 218 415 mz0/\FQ (K P) "mate" x8 226 225 415 mz0/\FQ (K P) "plus" xr 233 232 415 mz0/\FQ (K P) "times" qV 240 239 415 mz0/\FQ (K P) "sign_of" kE 247 246 415 mz0/\FQ (K P) "sign_of_parts" dH 254 253 415 mz0/\FQ (K P) "is_above" jl 261 260 415 mz0/\FQ (K P) "is_above_nought" cW 268 267 415 mz0/\FQ (K P) "is_tile" kN 275 274 526 mz1/\FQ (K P) "has_form" je 280 279 526 mz1:=
 by (repeat' apply And.intro)<;>first|kernel_rfl|decide
theorem Qz(P:Params):FQ (K P) "bounds_of" iA 287 286 526 mz1/\FQ (K P) "place_among" fe 294 293 526 mz1/\FQ (K P) "rising_marks" eI 301 300 526 mz1/\FQ (K P) "reaches_just" d9 308 307 526 mz1/\FQ (K P) "covers_once" fv 313 312 526 mz1/\FQ (K P) "is_laying" ip 318 317 526 mz1/\FQ (K P) "must_be_laying" dm 325 324 526 mz1/\FQ (K P) "weighed" lh 332 331 610 mz2/\FQ (K P) "weighed_sums" eC 337 336 610 mz2/\FQ (K P) "_law_bag" jC 344 343 634 mz3/\FQ (K P) "_law_take" iw 351 350 634 mz3/\FQ (K P) "_law_is_whole" dG 358 357 634 mz3/\FQ (K P) "_law_shared" fh 365 364 634 mz3/\FQ (K P) "_law_low" jt 372 371 634 mz3:=
 by (repeat' apply And.intro)<;>first|kernel_rfl|decide
theorem OT(P:Params):FQ (K P) "_law_is_number" dj 377 376 634 mz3/\FQ (K P) "_law_plus" iC 384 383 634 mz3/\FQ (K P) "_law_minus" gh 391 390 634 mz3/\FQ (K P) "_law_mate" iu 398 397 634 mz3/\FQ (K P) "_law_times" gn 405 404 634 mz3/\FQ (K P) "_law_contrary" dI 412 411 634 mz3/\FQ (K P) "_law_sign" iz 419 418 634 mz3/\FQ (K P) "_law_root" iD 424 423 634 mz3/\FQ (K P) "_law_number" fo 431 430 634 mz3/\FQ (K P) "_law_above" gC 438 437 634 mz3/\FQ (K P) "_law_odd" jo 445 444 634 mz3/\FQ (K P) "_law_refusal" eK 450 449 634 mz3/\FQ (K P) "_law_weigh" gG 457 456 634 mz3/\FQ (K P) "_law_between" eE 464 463 634 mz3:=
 by (repeat' apply And.intro)<;>first|kernel_rfl|decide
theorem Pl(P:Params):FQ (K P) "_law_cut" jj 469 468 634 mz3/\FQ (K P) "_law_laying" fw 474 473 634 mz3/\FQ (K P) "_law_is_told" eJ 479 478 634 mz3/\FQ (K P) "_law_spoilt" fz 486 485 634 mz3/\FQ (K P) "law" qD 491 490 634 mz3/\nsIn (K P) mainGlobals "isinstance"=some none/\nsIn (K P) mainGlobals "int"=some none/\nsIn (K P) mainGlobals "bool"=some none/\nsIn (K P) mainGlobals "abs"=some none/\nsIn (K P) mainGlobals "tuple"=some none/\nsIn (K P) mainGlobals "len"=some none/\nsIn (K P) mainGlobals "all"=some none/\nsIn (K P) mainGlobals "set"=some none/\nsIn (K P) mainGlobals "range"=some none:=
 by (repeat' apply And.intro)<;>first|kernel_rfl|decide
theorem Pm(P:Params):nsIn (K P) mainGlobals "enumerate"=some none/\nsIn (K P) mainGlobals "ValueError"=some none/\nsIn (K P) mainGlobals "list"=some none/\nsIn (K P) mainGlobals "max"=some none/\nsIn (K P) mainGlobals "min"=some none/\nsIn (K P) mainGlobals "MOST_TILES"=some (some (.int 60 528))/\(nsIn (K P) mainGlobals "NOUGHT"=some (some (.ref 184))/\(K P).lookup 184=some ⟨.type "tuple",none,.seq #[.int 0 417,.int 0 418,.int 1 419] 0,#[]⟩)/\nsIn (K P) mainGlobals "FloorError"=some (some (.ref 24))/\nsIn (K P) mainGlobals "NoRoot"=some (some (.ref 37))/\nsIn (K P) mainGlobals "NoNumber"=some (some (.ref 49))/\nsIn (K P) mainGlobals "NoLaying"=some (some (.ref 61))/\nsIn (K P) mainGlobals "NoTile"=some (some (.ref 73))/\nsIn (K P) mainGlobals "NoFit"=some (some (.ref 85))/\nsIn (K P) mainGlobals "NoKinds"=some (some (.ref 97)):=
 by (repeat' apply And.intro)<;>first|kernel_rfl|decide
theorem Pd(P:Params):nsIn (K P) mainGlobals "NoPlan"=some (some (.ref 109))/\nsIn (K P) mainGlobals "NoSpot"=some (some (.ref 121))/\nsIn (K P) mainGlobals "NoNet"=some (some (.ref 133))/\nsIn (K P) mainGlobals "NoText"=some (some (.ref 145))/\nsIn (K P) mainGlobals "NoSaying"=some (some (.ref 157))/\nsIn (K P) mainGlobals "NoName"=some (some (.ref 169))/\nsIn (K P) mainGlobals "TooMany"=some (some (.ref 181))/\excIn (K P) (61) bmV "ValueError.__new__"=true/\exmOne (K P) (.ref 61) (.ref 24)=some true/\findIn (K P) (.ref 61) "__getattribute__"=some (some (.builtin "BaseException.__getattribute__"))/\findIn (K P) (.ref 61) "__getattr__"=some none/\findIn (K P) (.ref 61) "__class__"=some (some (.builtin "object.__class__"))/\mroIn (K P) 61 (.type "object")=some true/\mroIn (K P) 61 (.type "BaseException")=some true:=
 by (repeat' apply And.intro)<;>first|kernel_rfl|decide
theorem P9(P:Params):(clsIn (K P) 61).isSome=true/\kitOne (K P) (.ref 61) (.ref 37)=some false/\kitOne (K P) (.ref 61) (.ref 49)=some false/\kitOne (K P) (.ref 61) (.ref 61)=some true/\kitOne (K P) (.ref 61) (.ref 73)=some false/\kitOne (K P) (.ref 61) (.ref 85)=some false/\kitOne (K P) (.ref 61) (.ref 97)=some false/\kitOne (K P) (.ref 61) (.ref 109)=some false/\kitOne (K P) (.ref 61) (.ref 121)=some false/\kitOne (K P) (.ref 61) (.ref 133)=some false/\kitOne (K P) (.ref 61) (.ref 145)=some false/\kitOne (K P) (.ref 61) (.ref 157)=some false/\kitOne (K P) (.ref 61) (.ref 169)=some false/\kitOne (K P) (.ref 61) (.ref 181)=some false:=
 by (repeat' apply And.intro)<;>first|kernel_rfl|decide
theorem Qn(P:Params):kitOne (K P) (.ref 61) (.type "ValueError")=some true/\(nsIn (K P) mainGlobals "__builtins__"=some (some (.ref 4))/\(4:Addr)≠builtinsNs/\(K P).lookup 4=some ⟨.type "module",some builtinsNs,.plain,#[]⟩):=
 by (repeat' apply And.intro)<;>first|kernel_rfl|decide
theorem Fl(P:Params):((K P).filterMap fun p=>bO p.2)=[(476,("_law_is_told":Str)),(488,("law":Str))]/\((K P).lookup 478).bind bO=some (476,("_law_is_told":Str))/\((K P).lookup 490).bind bO=some (488,("law":Str))/\(KF P).lookup 476=some (tabObj #[])/\(KF P).lookup 488=some (tabObj #[])/\(K P).lookup 476=none/\(K P).lookup 488=none:=⟨⟨⟩,⟨⟩,⟨⟩,⟨⟩,⟨⟩,⟨⟩,⟨⟩⟩
theorem LC(P:Params):((K P).filterMap fun p=>bO p.2)=[(476,("_law_is_told":Str)),(488,("law":Str))]:=(Fl P).1
theorem sN(P:Params):((K P).lookup 478).bind bO=some (476,("_law_is_told":Str)):=(Fl P).2.1
theorem Gd{q2:Str}(h:((476:Addr),q2)∈([(476,("_law_is_told":Str)),(488,("law":Str))]:List (Addr×Str))):q2 = "_law_is_told":=by simpa using h
theorem Eg(P:Params):((K P).lookup 490).bind bO=some (488,("law":Str)):=(Fl P).2.2.1
theorem LJ{q2:Str}(h:((488:Addr),q2)∈([(476,("_law_is_told":Str)),(488,("law":Str))]:List (Addr×Str))):q2 = "law":=by simpa using h
theorem k7(P:Params):(KF P).lookup 476=some (tabObj #[])/\(K P).lookup 476=none:=⟨(Fl P).2.2.2.1,(Fl P).2.2.2.2.2.1⟩
theorem G9(P:Params):(KF P).lookup 488=some (tabObj #[])/\(K P).lookup 488=none:=⟨(Fl P).2.2.2.2.1,(Fl P).2.2.2.2.2.2⟩
theorem left:LeftO R.row.prog V LO Xt HK.obs HK.val 20000:=
 LeftO.of_pieces (H₀:=boot_heap) (H₁:=hT) (gs₀:=#[]) (gs₁:=#[]) (d₀:=boot_drawn) (d₁:={}) (k₀:=boot_toks) (k₁:=850) (m₀:=11) (ann:=some (.ref 6)) (M:=20000)
  (boot_open ⟨⟩ ⟨⟩ (fun s=>⟨⟩)) (fun w=>⟨⟩) run ⟨⟩ seen
end K16.H
namespace L2
open PySem PySem.Spec PyProof.Rows
noncomputable def il(A:Around)(h:Heap):Prop:=A.handled=none\/∃(e:Addr) (oe:Obj) (vs:Array Value),A.handled=some (.ref e)/\h.get? e=some oe/\oe.data = .fields vs/\vs[2]? = some .none
theorem yB:entryFor table "proto.unchain"=some Builtin.«proto.unchain»:=entryFor_of_tree ⟨⟩
section
variable {prog:Program}{w:World}{A:Around}{E:Value->Shared->Prop}{s:Shared}
theorem BQ{x e:Addr}{oe:Obj}{vs:Array Value}{Q:Value->Shared->Prop}(he:s.heap.get? e=some oe)(hd:oe.data = .fields vs)(h2:vs[2]? = some .none)(h:Q .none s) :
  wpAny (model prog w) A (runValue (.builtin "proto.unchain" ⟨[.ref x,.ref e,.ref e,.bool false],[]⟩)) Q E s:=by
 refine wpAny_runValue (codeAny_builtin yB ?_)
 unfold Builtin.«proto.unchain»
 dsimp only
 refine wpAny_bind (wpAny_field he hd h2 ?_)
 rw[if_pos (by rfl)]
 exact wpAny_pure h
theorem w4{α:Type}{a:Addr}{oa:Obj}{ws:Array Value}{Q:α->Shared->Prop}(q:il A s.heap)(ha:s.heap.get? a=some oa)(hda:oa.data = .fields ws)(hz:2<ws.size)
  (hnew:∀e oe,A.handled=some (.ref e)->s.heap.get? e=some oe->e≠a)
  (h:∀h',Heap.ExtBut a s.heap h'->(∃o',h'.get? a=some o'/\o'.cls=oa.cls)->E (.ref a) {s with heap:=h'}):wpAny (model prog w) A (raiseNew (.ref a):Sem α) Q E s:=by
 unfold raiseNew
 refine wpAny_bind (wpAny_handled ?_)
 rcases q with q|⟨e,oe,vs,q,he,hd,h2⟩
 ·rw[q]
  exact wpAny_bind (wpAny_pure (wpAny_throw (h s.heap (fun b o _ z=>z) ⟨oa,ha,rfl⟩)))
 ·rw[q]
  have ne:e≠a:=hnew e oe q he
  dsimp only
  rw[if_pos (by simp[ne])]
  refine wpAny_bind (wpAny_holding (BQ he hd h2 ?_))
  refine wpAny_bind ?_
  refine wpAny_setField ha hda hz (wpAny_throw ?_)
  have hd':=Obj.data_mapFields hda (·.setIfInBounds 2 (Value.ref e))
  exact h _ (Heap.SameBut.update ..).extBut ⟨_,Heap.get?_update_self _ ha (Obj.isFreed_of_fields hd'),Obj.cls_mapFields ..⟩
theorem xl{it:Addr}{α:Type}{h0:Heap}{Q:α->Shared->Prop}(q:il A s.heap)(k:Heap.ExtBut it h0 s.heap)(kl:∀e oe,A.handled=some (.ref e)->s.heap.get? e=some oe->True)
  (h:∀h' a,Heap.ExtBut it h0 h'->(∃o',h'.get? a=some o'/\o'.cls = .type "StopIteration")->E (.ref a) {s with heap:=h'}):wpAny (model prog w) A (newExc (.type "StopIteration") []>>=fun e=>(raiseNew e:Sem α)) Q E s:=by
 refine wpAny_bind ?_;simp only[newExc,newTuple]
 refine wpAny_bind (wpAny_newObj_type ?_ (by size_fits));refine wpAny_bind (m:=firstArgMember _ _) (wpAny_of_eq (a:=Value.none) (by first|rfl|(simp only[firstArgMember];rfl)) ?_);refine wpAny_newObj_type ?_ (by size_fits)
 have q':∀o1 o2:Obj,il A ((s.heap.push o1).push o2):=fun o1 o2=>by
  rcases q with q|⟨e,oe,vs,q,he,r⟩
  ·exact .inl q
  ·exact .inr ⟨e,oe,vs,q,Heap.get?_push_of_some _ (Heap.get?_push_of_some _ he),r⟩
 refine w4 (q' _ _) (Heap.get?_push_size _ rfl) rfl (by rw[Array.size_append];exact lt_of_lt_of_le (by decide:2<6) (Nat.le_add_right _ _)) (fun e oe hq he z=>?_) fun h' hx ⟨o',ho',hc'⟩=>h h' _ (fun b o hb e=>hx b o ?_ (Heap.get?_push_of_some _ (Heap.get?_push_of_some _ (k b o hb e)))) ⟨o',ho',hc'⟩
 ·rcases q with q|⟨e1,oe1,vs,q,he1,r⟩
  ·rw[q] at hq;cases hq
  ·rw[q] at hq;cases hq
   exact absurd (Heap.lt_size he1) (by rw[z];simp)
 ·exact ne_of_lt (lt_of_lt_of_le (Heap.lt_size (k b o hb e)) (by simp))
theorem qR{it:Addr}{o:Obj}{ws:Array Value}{f:Array Value->Array Value}(q:il A s.heap)(ho:s.heap.get? it=some o)(hd:o.data = .fields ws)(hn:∀e,A.handled=some (.ref e)->e≠it):il A (s.heap.update it (Obj.mapFields f)):=by
 rcases q with q|⟨e,oe,vs,q,he,r⟩
 ·exact .inl q
 ·exact .inr ⟨e,oe,vs,q,by rw[Heap.get?_update_other _ _ (Ne.symm (hn e q))];exact he,r⟩
theorem yS{it l:Addr}{i:Nat}{items}{Q:Option Value->Shared->Prop}(q:il A s.heap)(hn:∀e,A.handled=some (.ref e)->e≠it)(hit:s.heap.IsListIter it l i)(hl:s.heap.IsList l items)(hx:items[i]? = none)
  (hQ:∀h',Heap.ExtBut it s.heap h'->Q none {s with heap:=h'}):wpAny (model prog w) A (pyNext (.ref it)) Q E s:=by
 obtain⟨o,ho,hc,hd⟩:=id hit
 obtain⟨ol,hol,_,nl,hdl⟩:=hl;unfold pyNext
 refine wpAny_bind (wpAny_attempt (wpAny_callSpecial?_slot (name:=Str.ofString "__next__") hit.typeIs slot_listiter_next (wpAny_call_entry slot_listiter_next hit.typeIs entry_listiter_next ?_ (args_listiter_next _))))
 show wpAny _ _ (field (.ref it) 0>>=_) _ _ s;refine wpAny_bind (wpAny_field ho hd (x:=.ref l) rfl ?_)
 show wpAny _ _ (if (Value.ref l==Value.none)=true then _ else _) _ _ s;rw[if_neg (show ¬ ((Value.ref l==Value.none)=true) from Bool.false_ne_true)]
 show wpAny _ _ (field (.ref it) 1>>=_) _ _ s;refine wpAny_bind (wpAny_field ho hd (x:=.int i 0) rfl ?_)
 show wpAny _ _ (seqItems? (.ref l)>>=_) _ _ s;refine wpAny_bind (wpAny_seqItems hol hdl ?_);simp only[Int.toNat_natCast,hx]
 refine wpAny_bind (wpAny_rule (wpAny_bind (wpAny_setField ho hd (by simp) ?_)))
 refine xl (it:=it) (h0:=s.heap) (A:=A.in1) (qR (A:=A.in1) q ho hd hn) (Heap.SameBut.update ..).extBut (fun _ _ _ _=>trivial) fun h' a hx' hq0=>?_
 obtain⟨o',ho',hc'⟩:=hq0
 refine wpAny_bind (wpAny_isInstance (T:="StopIteration") (b:=true) ⟨_,ho',hc'⟩ isSubtype_stop ?_);exact wpAny_pure (hQ _ hx')
theorem sR{it t:Addr}{i:Nat}{items}{Q:Option Value->Shared->Prop}(q:il A s.heap)(hn:∀e,A.handled=some (.ref e)->e≠it)(hit:IsTupIter s.heap it t i)(ht:IsTup s.heap t items)(hx:items[i]? = none)
  (hQ:∀h',Heap.ExtBut it s.heap h'->Q none {s with heap:=h'}):wpAny (model prog w) A (pyNext (.ref it)) Q E s:=by
 obtain⟨o,ho,hc,hd⟩:=id hit
 obtain⟨ol,hol,_,nl,hdl⟩:=ht;unfold pyNext
 refine wpAny_bind (wpAny_attempt (wpAny_callSpecial?_slot (name:=Str.ofString "__next__") hit.typeIs slot_tupleiter_next (wpAny_call_entry slot_tupleiter_next hit.typeIs entry_tupleiter_next ?_ (args_tupleiter_next _))))
 show wpAny _ _ (field (.ref it) 0>>=_) _ _ s;refine wpAny_bind (wpAny_field ho hd (x:=.ref t) rfl ?_)
 show wpAny _ _ (if (Value.ref t==Value.none)=true then _ else _) _ _ s;rw[if_neg (show ¬ ((Value.ref t==Value.none)=true) from Bool.false_ne_true)]
 show wpAny _ _ (field (.ref it) 1>>=_) _ _ s;refine wpAny_bind (wpAny_field ho hd (x:=.int i 0) rfl ?_)
 show wpAny _ _ (seqItems? (.ref t)>>=_) _ _ s;refine wpAny_bind (wpAny_seqItems hol hdl ?_);simp only[Int.toNat_natCast,hx]
 refine wpAny_bind (wpAny_rule (wpAny_bind (wpAny_setField ho hd (by simp) ?_)))
 refine xl (it:=it) (h0:=s.heap) (A:=A.in1) (qR (A:=A.in1) q ho hd hn) (Heap.SameBut.update ..).extBut (fun _ _ _ _=>trivial) fun h' a hx' hq0=>?_
 obtain⟨o',ho',hc'⟩:=hq0
 refine wpAny_bind (wpAny_isInstance (T:="StopIteration") (b:=true) ⟨_,ho',hc'⟩ isSubtype_stop ?_);exact wpAny_pure (hQ _ hx')
theorem yR{env:Env}{elts:List Expr}{x1}{pos:Pos}{t:Addr}{items:Array Value}{Q:Unit->Shared->Prop}(q:il A s.heap)(ht:IsTup s.heap t items)(hn:(assignEach elts env).length=items.size)
  (hstar:(assignEach elts env).findIdx? (·.1)=none) (h:∀h',Heap.ExtBut s.heap.objs.size s.heap h'->wpAny (model prog w) A (assignInOrder ((assignEach elts env).map (·.2)) items.toList) Q E {s with heap:=h'}) :
  wpAny (model prog w) A (assign (.Tuple elts x1 pos) env (.ref t)) Q E s:=by
 rw[assign_Tuple]
 refine wpAny_bind (wpAny_standAt ?_)
 unfold unpack;rw[hn,hstar]
 refine wpAny_bind (wpAny_holding ?_)
 have hlt:t≠s.heap.objs.size:=by obtain⟨o,ho,_⟩:=ht;exact ne_of_lt (Heap.lt_size ho)
 unfold unpackItems;refine wpAny_bind ?_
 unfold notIterableAtAll;refine wpAny_bind (wpAny_specialOf ht.typeIs slot_tuple_iter.lookup ?_);refine wpAny_pure ?_;simp only[false_eq_true,if_false]
 refine wpAny_bind (wpAny_holding (iter_tuple ht ?_))
 refine wpAny_bind (wpAny_holding (draw_tuple hlt items.size 0 _ _ ⟨_,Heap.get?_push_size _ rfl,rfl,rfl⟩ (ht.push _) ∅ fun ls wP v6=>?_))
 rw[show List.take items.size (List.drop 0 items.toList)=items.toList from by rw[List.drop_zero];exact take_of_length_le (by simp),if_neg (by simp)]
 have fr:∀e,A.handled=some (.ref e)->e≠s.heap.objs.size:=fun e hq=>by
  rcases q with q|⟨e1,oe1,vs,q,he1,r⟩
  ·rw[q] at hq;cases hq
  ·rw[q] at hq;cases hq;exact ne_of_lt (Heap.lt_size he1)
 have q1:il A ls:=by
  rcases q with q|⟨e,oe,vs,q,he,r⟩
  ·exact .inl q
  ·exact .inr ⟨e,oe,vs,q,v6.extBut e oe (fr e q) (Heap.get?_push_of_some _ he),r⟩
 refine wpAny_bind (wpAny_holding (sR q1 fr wP ((ht.push _).extBut v6.extBut hlt) (by simp) fun tz AC=>?_));simp only[Option.isSome_none,false_eq_true,if_false]
 exact wpAny_pure (h tz fun b o hb e=>AC b o hb (v6.extBut b o hb (Heap.get?_push_of_some _ e)))
end
end L2
namespace L2
open PySem PySem.Spec PyProof.Rows
noncomputable abbrev Key:=Sum Int Str
noncomputable def Om:Key->Value->Bool
 |.inl k,v=>Value.isInt k v
 |.inr x,v=>Value.isStrOf x v
noncomputable def Sq(w:World):Key->Int
 |.inl k=>hashInt k
 |.inr x=>hashStr w x
theorem cV:∀{k:Key} {v:Value},Om k v=true->(∃i t,k=Sum.inl i/\v=Value.int i t)\/(∃x t,k=Sum.inr x/\v=Value.str x t)
 |.inl i,v,h=>by
  obtain⟨t,e⟩:=Value.isInt_shape (k:=i) (v:=v) h
  exact .inl ⟨i,t,rfl,e⟩
 |.inr x,v,h=>by
  obtain⟨t,e⟩:=Value.isStrOf_shape (x:=x) (v:=v) h
  exact .inr ⟨x,t,rfl,e⟩
theorem P8(a b:Int):decide ((Sum.inl a:Key)=Sum.inl b)=(a==b):=by
 by_cases e:a=b
 ·subst e;simp
 ·have h:¬ (Sum.inl a:Key)=Sum.inl b:=fun q=>e (Sum.inl.inj q)
  rw[decide_eq_false h]
  exact (beq_eq_false_iff_ne.mpr e).symm
theorem OK(a b:Str):decide ((Sum.inr a:Key)=Sum.inr b)=decide (a=b):=by
 by_cases e:a=b
 ·subst e;simp
 ·have h:¬ (Sum.inr a:Key)=Sum.inr b:=fun q=>e (Sum.inr.inj q)
  rw[decide_eq_false h,decide_eq_false e]
theorem Qs(a:Int)(b:Str):decide ((Sum.inl a:Key)=Sum.inr b)=false:=decide_eq_false (fun q=>nomatch q)
theorem Pq(a:Str)(b:Int):decide ((Sum.inr a:Key)=Sum.inl b)=false:=decide_eq_false (fun q=>nomatch q)
noncomputable def Ga(prog:Program)(w:World):PySem.KeyKind prog w Key where
 is:=Om
 hash:=Sq w
 inj:=fun v a b ha hb=>by
  rcases cV ha with ⟨i,t,rfl,rfl⟩|⟨x,t,rfl,rfl⟩
  ·rcases cV hb with ⟨j,u,rfl,e⟩|⟨y,u,rfl,e⟩
   ·injection e with e1 _;rw[e1]
   ·exact nomatch e
  ·rcases cV hb with ⟨j,u,rfl,e⟩|⟨y,u,rfl,e⟩
   ·exact nomatch e
   ·injection e with e1 _;rw[e1]
 byValue:=fun k v h=>by
  rcases cV h with ⟨i,t,rfl,rfl⟩|⟨x,t,rfl,rfl⟩<;>rfl
 pyHash:=fun hv h=>by
  rcases cV hv with ⟨i,t,rfl,rfl⟩|⟨x,t,rfl,rfl⟩
  ·exact wpAny_pyHash_int h
  ·exact wpAny_pyHash_str h
 eqBool:=fun hu hv h=>by
  rcases cV hu with ⟨i,t,rfl,rfl⟩|⟨x,t,rfl,rfl⟩
  ·rcases cV hv with ⟨j,u,rfl,rfl⟩|⟨y,u,rfl,rfl⟩
   ·rw[P8] at h;exact wpAny_eqBool_int h
   ·rw[Qs] at h;exact SeqAt.EqAt.int_str i t y u _ _ _ _ h
  ·rcases cV hv with ⟨j,u,rfl,rfl⟩|⟨y,u,rfl,rfl⟩
   ·rw[Pq] at h;exact SeqAt.EqAt.str_int x t j u _ _ _ _ h
   ·rw[OK] at h;exact wpAny_eqBool_str h
 «strs»:=fun k x t v h=>by
  rcases cV h with ⟨i,u,rfl,e⟩|⟨y,u,rfl,e⟩
  ·exact nomatch e
  ·injection e with e1 _
   subst e1
   cases v<;>rfl
end L2
namespace L2
open PySem PySem.Spec PyProof.Rows
inductive V where
 |non|bl (b:Bool)|int (i:Int)|str (x:Str)|byt (b:Array UInt8)|flt (b:UInt64)|ref (a:Addr)|ty (n:String)
 deriving DecidableEq
noncomputable def RelV:V->Value->Prop
 |.non,u=>u=Value.none
 |.bl b,u=>u=Value.bool b
 |.int i,u=>∃t,u=Value.int i t
 |.str x,u=>∃t,u=Value.str x t
 |.byt b,u=>∃t,u=Value.bytes b t
 |.flt b,u=>∃t,u=Value.float b t
 |.ref a,u=>u=Value.ref a
 |.ty n,u=>u=Value.type n
noncomputable abbrev Vals:List V->List Value->Prop:=Paired RelV
theorem Vals.length{xs:List V}{us:List Value}(r:Vals xs us):xs.length=us.length:=Paired.length r
theorem Vals.get:∀{xs:List V} {us:List Value} {i:Nat} {x:V},Vals xs us->xs[i]? = some x->∃u,us[i]? = some u/\RelV x u
 |_,_,_,_,.nil,e=>by simp at e
 |_,_,0,_,.cons r _,e=>by simp at e;subst e;exact⟨_,rfl,r⟩
 |_,_,i+1,x,.cons _ t,e=>by
  obtain⟨u,h1,h2⟩:=Vals.get (i:=i) (x:=x) t (by simpa using e)
  exact⟨u,by simpa using h1,h2⟩
theorem Vals.set{x:V}{u:Value}(r:RelV x u):∀{xs:List V} {us:List Value} (i:Nat),Vals xs us->Vals (xs.set i x) (us.set i u)
 |_,_,_,.nil=>.nil
 |_,_,0,.cons _ t=>.cons r t
 |_,_,i+1,.cons q t=>.cons q (Vals.set r i t)
theorem Vals.append:∀{xs ys:List V} {us ws:List Value},Vals xs us->Vals ys ws->Vals (xs++ys) (us++ws)
 |_,_,_,_,.nil,s=>s
 |_,_,_,_,.cons r t,s=>.cons r (Vals.append t s)
theorem Vals.take:∀{xs:List V} {us:List Value} (n:Nat),Vals xs us->Vals (xs.take n) (us.take n)
 |_,_,0,_=>.nil
 |_,_,_+1,.nil=>.nil
 |_,_,n+1,.cons r t=>.cons r (Vals.take n t)
theorem Vals.drop:∀{xs:List V} {us:List Value} (n:Nat),Vals xs us->Vals (xs.drop n) (us.drop n)
 |_,_,0,r=>r
 |_,_,_+1,.nil=>.nil
 |_,_,n+1,.cons _ t=>Vals.drop n t
noncomputable def RW:Option V->Option Value->Prop
 |some v,some u=>RelV v u
 |none,none=>True
 |_,_=>False
noncomputable def KV{κ:Type}:List (κ×V)->List (κ×Value)->Prop:=Paired fun (p:κ×V) (q:κ×Value)=>p.1=q.1/\RelV p.2 q.2
noncomputable def kV:Key->V
 |.inl i=>.int i
 |.inr x=>.str x
inductive HO where
  /-- a list -/
 |lst (xs:List V)
  /-- a tuple (never changes) -/
 |tup (xs:List V)
  /-- a dict whose keys are ints and texts; one whose keys are tuples of ints and texts (the empty one is both) -/
 |dK (kvs:List (Key×V))|dT (kvs:List (List Key×V))
  /-- a set of ints: its members, its size -/
 |set (S:Int->Bool) (n:Nat)
  /-- an instance of the class at C, its dict at dx, its attributes -/
 |ins (C dx:Addr) (fs:List (Str×V))
  /-- the dict of the instance at x -/
 |own (x:Addr)
  /-- the dict of an exception -/
 |xd (fs:List (Str×V))
  /-- a bound method, f of x -/
 |met (f x:Addr)
  /-- a range object lo, lo + 1, .. below hi -/
 |rng (lo hi:Int)
  /-- a thing that is known to the object (the script; a dict while a loop walks it): read, never written while it is so -/
 |frz (o:Obj) (u:HO)
  /-- a code object's table -/
 |tbl (ps:Array Value)
  /-- any other thing, by what is true of its one object (a def of one's own: SetO a S n := HO.ext fun h => ..) -/
 |ext (φ:Heap->Prop)
  /-- the object itself; it may change -/
 |raw (o:Obj)
noncomputable abbrev Hp:=Addr->Option HO
noncomputable def upd(H:Hp)(a:Addr)(o:HO):Hp:=fun b=>if b=a then some o else H b
theorem b8{H:Hp}{a:Addr}{o:HO}:upd H a o a=some o:=by unfold upd;rw[if_pos rfl]
theorem aR{H:Hp}{a b:Addr}{o:HO}(h:b≠a):upd H a o b=H b:=by unfold upd;rw[if_neg h]
theorem aF{H:Hp}{a b:Addr}{o:HO}(h:H a=some o)(h':H b=none):a≠b:=by
 intro e;subst e;rw[h] at h';cases h'
section
variable (P:Program)(w:World)
noncomputable def gK(H:Hp)(h:Heap)(a:Addr):HO->Prop
 |.lst xs=>xs.length<=sizeLine/\∃(its:List Value) (n:Nat),Vals xs its/\h.get? a=some {cls:=.type "list",data:=.seq its.toArray n}
 |.tup xs=>xs.length<=sizeLine/\∃its:List Value,Vals xs its/\IsTup h a its.toArray
 |.dK kvs=>kvs.length<=sizeLine/\(a==sysModules)=false/\∃vs,KV kvs vs/\h.DictOf (Ga P w) a vs
 |.dT kvs=>kvs.length<=sizeLine/\(a==sysModules)=false/\∃xs:List (List Key×Addr×Value),
   Paired (fun (p:List Key×V) (q:List Key×Addr×Value)=>p.1=q.1/\H q.2.1=some (.tup (p.1.map kV))/\RelV p.2 q.2.2) kvs xs /\
   ∃o es ep,h.get? a=some o/\o.ExactDict/\o.data = .dict es ep/\es.toList=xs.map (entryOfKey (tupleKind (Ga P w)))/\(xs.map (·.1)).Nodup
 |.set S n=>h.SetOf (intKind P w) a S n
 |.ins C dx fs=>H dx=some (.own a)/\fs.length<=1000/\dx≠a/\h.get? a=some (PySem.W.instObj C dx) /\
   ∃mA,h.Ns1 dx mA/\(∀f,RW (fs.lookup f) (mA f))/\PySem.Within mA (fs.map (·.1))
 |.own _=>∃o,h.get? a=some o
 |.xd fs=>∃mA,h.Ns1 a mA/\∀f,RW (fs.lookup f) (mA f)
 |.rng lo hi=>∃t u v,h.get? a=some {cls:=.type "range",data:=.fields #[.int lo t,.int hi u,.int 1 v]}
 |.frz o u=>h.get? a=some o/\gK H h a u
 |.tbl ps=>h.get? a=some {cls:=.none,data:=.fields ps}
 |.met f x=>h.get? a=some (PySem.W.methodObj (.ref f) (.ref x))
 |.ext φ=>φ h/\(∃o,h.get? a=some o)/\∀h1 h2:Heap,φ h1->(∀o,h1.get? a=some o->h2.get? a=some o)->φ h2
 |.raw o=>h.get? a=some o
noncomputable def HOk(H:Hp)(h:Heap):Prop:=∀a o,H a=some o->gK P w H h a o
end
section
variable {P:Program}{w:World}{H H':Hp}{h h':Heap}{a:Addr}{o:HO}
theorem gK.lt(x:gK P w H h a o):a<h.objs.size:=by
 cases o with
 |lst xs=>obtain⟨_,_,_,_,e⟩:=x;exact Heap.lt_size e
 |tup xs=>obtain⟨_,_,_,p⟩:=x;exact p.lt
 |dK kvs=>obtain⟨_,_,_,_,o,_,_,e,_⟩:=x;exact Heap.lt_size e
 |dT kvs=>obtain⟨_,_,_,_,o,_,_,e,_⟩:=x;exact Heap.lt_size e
 |set S n=>obtain⟨o,_,_,_,e,_⟩:=x;exact Heap.lt_size e
 |ins C dx fs=>obtain⟨_,_,_,e,_⟩:=x;exact Heap.lt_size e
 |own y=>obtain⟨_,e⟩:=x;exact Heap.lt_size e
 |xd fs=>obtain⟨_,⟨_,_,_,e,_⟩,_⟩:=x;exact Heap.lt_size e
 |rng lo hi=>obtain⟨_,_,_,e⟩:=x;exact Heap.lt_size e
 |frz ob u=>obtain⟨e,_⟩:=x;exact Heap.lt_size e
 |tbl ps=>exact Heap.lt_size (show h.get? a=some _ from x)
 |met f y=>exact Heap.lt_size (show h.get? a=some _ from x)
 |ext φ=>obtain⟨_,⟨_,e⟩,_⟩:=x;exact Heap.lt_size e
 |raw ob=>exact Heap.lt_size (show h.get? a=some ob from x)
theorem Paired.LS{α β:Type}{F G:α->β->Prop}:∀{wv:List α} {xL:List β},Paired F wv xL->(∀a b,F a b->G a b)->Paired G wv xL
 |_,_,.nil,_=>.nil
 |_,_,.cons r t,f=>.cons (f _ _ r) (Paired.LS t f)
theorem gK.vC(x:gK P w H h a o)(k:∀b u,(b=a\/H b=some (.own a))->h.get? b=some u->h'.get? b=some u)
  (ho:∀b,H b=some (.own a)->H' b=some (.own a)) (ht:∀b xs,H b=some (.tup xs)->H' b=some (.tup xs)):gK P w H' h' a o:=by
 induction o with
 |lst xs=>obtain⟨z,its,n,r,e⟩:=x;exact⟨z,its,n,r,k _ _ (.inl rfl) e⟩
 |tup xs=>obtain⟨z,its,r,ob,e,c⟩:=x;exact⟨z,its,r,ob,k _ _ (.inl rfl) e,c⟩
 |dK kvs=>obtain⟨z,y,vs,r,ob,es,ep,e,c⟩:=x;exact⟨z,y,vs,r,ob,es,ep,k _ _ (.inl rfl) e,c⟩
 |dT kvs=>
  obtain⟨z,y,xs,r,ob,es,ep,e,c⟩:=x
  exact⟨z,y,xs,Paired.LS r fun p q z=>⟨z.1,ht _ _ z.2.1,z.2.2⟩,ob,es,ep,k _ _ (.inl rfl) e,c⟩
 |set S n=>obtain⟨ob,es,ep,t,e,c⟩:=x;exact⟨ob,es,ep,t,k _ _ (.inl rfl) e,c⟩
 |ins C dx fs=>
  obtain⟨d,z,ne,e,mA,⟨od,es,ep,e2,c⟩,r⟩:=x
  exact⟨ho _ d,z,ne,k _ _ (.inl rfl) e,mA,⟨od,es,ep,k _ _ (.inr d) e2,c⟩,r⟩
 |own y=>obtain⟨ob,e⟩:=x;exact⟨ob,k _ _ (.inl rfl) e⟩
 |xd fs=>obtain⟨mA,⟨od,es,ep,e,c⟩,r⟩:=x;exact⟨mA,⟨od,es,ep,k _ _ (.inl rfl) e,c⟩,r⟩
 |rng lo hi=>obtain⟨t,u,v,e⟩:=x;exact⟨t,u,v,k _ _ (.inl rfl) e⟩
 |frz ob u ih=>obtain⟨e,q⟩:=x;exact⟨k _ _ (.inl rfl) e,ih q⟩
 |tbl ps=>
  have e:h.get? a=some {cls:=.none,data:=.fields ps}:=x
  show h'.get? a=some {cls:=.none,data:=.fields ps}
  exact k a _ (.inl rfl) e
 |met f y=>
  have e:h.get? a=some (PySem.W.methodObj (.ref f) (.ref y)):=x
  show h'.get? a=some (PySem.W.methodObj (.ref f) (.ref y))
  exact k a _ (.inl rfl) e
 |raw ob=>
  have e:h.get? a=some ob:=x
  show h'.get? a=some ob
  exact k a _ (.inl rfl) e
 |ext φ=>obtain⟨p,⟨o,e⟩,st⟩:=x;exact⟨st _ _ p fun o q=>k _ _ (.inl rfl) q,⟨o,k _ _ (.inl rfl) e⟩,st⟩
theorem HOk.lt(x:HOk P w H h)(e:H a=some o):a<h.objs.size:=(x a o e).lt
theorem HOk.fresh(x:HOk P w H h)(e:h.objs.size<=a):H a=none:=by
 cases q:H a with
 |none=>rfl
 |some u=>exact absurd (lt_of_lt_of_le (x.lt q) e) (lt_irrefl _)
theorem HOk.kept(x:HOk P w H h)(k:∀b u,h.get? b=some u->h'.get? b=some u):HOk P w H h':=fun a o e=>
 (x a o e).vC (fun b u _ q=>k b u q) (fun _ q=>q) fun _ _ q=>q
theorem HOk.laid(x:HOk P w H h)(k:∀b u,h.get? b=some u->h'.get? b=some u)(hp:h.objs.size<=a)(new:gK P w (upd H a o) h' a o):HOk P w (upd H a o) h':=fun b u e=>by
 have hn:=x.fresh hp
 by_cases hb:b=a
 ·subst hb;rw[b8] at e;cases e;exact new
 ·rw[aR hb] at e
  exact (x b u e).vC (fun c v _ q=>k c v q) (fun c q=>by rw[aR (aF q hn)];exact q) fun c xs q=>by rw[aR (aF q hn)];exact q
end
noncomputable def Rd(H:Hp)(a:Addr)(u:HO):Prop:=H a=some u\/∃o,H a=some (.frz o u)
theorem Rd.ok{P:Program}{w:World}{H:Hp}{h:Heap}{a:Addr}{u:HO}(r:Rd H a u)(x:HOk P w H h):gK P w H h a u:=by
 rcases r with r|⟨o,r⟩
 ·exact x a u r
 ·obtain⟨_,q⟩:=x a _ r
  exact q
noncomputable def Mut:Option HO->Prop
 |some (.lst _)=>True
 |some (.dK _)=>True
 |some (.dT _)=>True
 |some (.set _ _)=>True
 |some (.ins _ _ _)=>True
 |some (.ext _)=>True
 |some (.raw _)=>True
 |_=>False
section
variable {P:Program}{w:World}{H:Hp}{h h':Heap}{x e:Addr}{o':HO}
theorem HOk.write(ok:HOk P w H h)(mu:Mut (H x))(he:e=x\/H e=some (.own x))(k:∀b u,b≠e->h.get? b=some u->h'.get? b=some u)(heo:∃u,h'.get? e=some u)
  (new:gK P w (upd H x o') h' x o'):HOk P w (upd H x o') h':=fun b u q=>by
 have nown:∀c y,H c=some (.own y)->c≠x:=fun c y r z=>by subst z;rw[r] at mu;exact mu
 have ntup:∀c xs,H c=some (.tup xs)->c≠x:=fun c xs r z=>by subst z;rw[r] at mu;exact mu
 by_cases hb:b=x
 ·subst hb;rw[b8] at q;cases q;exact new
 ·rw[aR hb] at q
  by_cases hbe:b=e
  ·have q':H b=some (.own x):=by
    rcases he with z|z
    ·exact absurd (hbe.trans z) hb
    ·rw[hbe];exact z
   rw[q] at q';cases q'
   obtain⟨v,hv⟩:=heo
   exact⟨v,by rw[hbe];exact hv⟩
  ·refine (ok b u q).vC (fun c v hc r=>k c v ?_ r) (fun c r=>by rw[aR (nown c b r)];exact r) fun c xs r=>by rw[aR (ntup c xs r)];exact r
   rcases hc with rfl|hc
   ·exact hbe
   ·rintro rfl
    rcases he with z|z
    ·exact nown c b hc z
    ·rw[hc] at z;cases z;exact hb rfl
end
structure Un(fs ex:List Addr)(H H':Hp)(h h':Heap):Prop where
 keep:∀b o,h.get? b=some o->H b=none->b ∉ fs->b ∉ ex->h'.get? b=some o
 slot:∀b o,h.get? b=some o->H b=none->b∈fs->b ∉ ex->∃sl,h'.get? b=some {o with slots:=sl}
 free:∀b o,h.get? b=some o->H b=none->b ∉ ex->H' b=none
 there:∀b o,h.get? b=some o->b ∉ ex->∃o',h'.get? b=some o'
 qp:∀b xs,H b=some (.tup xs)->H' b=some (.tup xs)
 o8:∀b o u,H b=some (.frz o u)->H' b=some (.frz o u)
 o7:∀b ps,H b=some (.tbl ps)->∃more,H' b=some (.tbl (ps++more))
section
variable {fs fs' ex ex':List Addr}{H H1 H2:Hp}{h h1 h2 h':Heap}{a x e:Addr}{o:HO}
theorem Un.any(u:Un fs ex H H1 h h1){b:Addr}{ob:Obj}(q:h.get? b=some ob)(n:H b=none)(hx:b ∉ ex):∃sl,h1.get? b=some {ob with slots:=sl}:=by
 by_cases hb:b∈fs
 ·exact u.slot b ob q n hb hx
 ·exact⟨ob.slots,u.keep b ob q n hb hx⟩
theorem Un.trans(a:Un fs ex H H1 h h1)(b:Un fs ex H1 H2 h1 h2):Un fs ex H H2 h h2 where
 keep:=fun c ob q n hc hx=>b.keep c ob (a.keep c ob q n hc hx) (a.free c ob q n hx) hc hx
 slot:=fun c ob q n hc hx=>by
  obtain⟨sl,e1⟩:=a.slot c ob q n hc hx
  obtain⟨sl',e2⟩:=b.slot c _ e1 (a.free c ob q n hx) hc hx
  exact⟨sl',e2⟩
 free:=fun c ob q n hx=>by
  obtain⟨o',e1⟩:=a.there c ob q hx
  exact b.free c o' e1 (a.free c ob q n hx) hx
 there:=fun c ob q hx=>by
  obtain⟨o',e1⟩:=a.there c ob q hx
  exact b.there c o' e1 hx
 qp:=fun c xs q=>b.qp c xs (a.qp c xs q)
 o8:=fun c ob xs q=>b.o8 c ob xs (a.o8 c ob xs q)
 o7:=fun c ps q=>by
  obtain⟨m1,e1⟩:=a.o7 c ps q
  obtain⟨m2,e2⟩:=b.o7 c _ e1
  exact⟨m1++m2,by rw[e2,Array.append_assoc]⟩
theorem Un.kept(k:∀b u,h.get? b=some u->h'.get? b=some u):Un fs ex H H h h':=
 ⟨fun b ob q _ _ _=>k b ob q,fun b ob q _ _ _=>⟨ob.slots,k b ob q⟩,fun _ _ _ n _=>n,fun b ob q _=>⟨ob,k b ob q⟩,fun _ _ q=>q,fun _ _ _ q=>q,fun _ ps q=>⟨#[],by rw[q];simp⟩⟩
theorem Un.refl:Un fs ex H H h h:=Un.kept fun _ _ q=>q
theorem Un.laid(k:∀b u,h.get? b=some u->h'.get? b=some u)(hp:h.objs.size<=a)(hn:H a=none):Un fs ex H (upd H a o) h h' where
 keep:=fun b u q _ _ _=>k b u q
 slot:=fun b u q _ _ _=>⟨u.slots,k b u q⟩
 free:=fun b u q n _=>by rw[aR (ne_of_lt (lt_of_lt_of_le (Heap.lt_size q) hp))];exact n
 there:=fun b u q _=>⟨u,k b u q⟩
 qp:=fun b xs q=>by rw[aR (aF q hn)];exact q
 o8:=fun b u xs q=>by rw[aR (aF q hn)];exact q
 o7:=fun b ps q=>⟨#[],by rw[aR (aF q hn),q];simp⟩
theorem Un.write(mu:Mut (H x))(he:e=x\/H e=some (.own x))(k:∀b u,b≠e->h.get? b=some u->h'.get? b=some u)(heo:∃u,h'.get? e=some u):Un fs ex H (upd H x o) h h':=by
 have hx:∀b,H b=none->b≠x:=fun b n z=>by subst z;rw[n] at mu;exact mu
 have hb:∀b,H b=none->b≠e:=fun b n z=>by
  subst z
  rcases he with r|r
  ·exact hx b n r
  ·rw[n] at r;cases r
 have hm:∀b u,H b=some u->¬ Mut (some u)->b≠x:=fun b u q nm z=>by subst z;rw[q] at mu;exact nm mu
 refine⟨fun b u q n _ _=>k b u (hb b n) q,fun b u q n _ _=>⟨u.slots,k b u (hb b n) q⟩,fun b u q n _=>by rw[aR (hx b n)];exact n,fun b u q _=>?_,
  fun b xs q=>by rw[aR (hm b _ q fun z=>z)];exact q,fun b u xs q=>by rw[aR (hm b _ q fun z=>z)];exact q,fun b ps q=>⟨#[],by rw[aR (hm b _ q fun z=>z),q];simp⟩⟩
 by_cases hbe:b=e
 ·subst hbe;exact heo
 ·exact⟨u,k b u hbe q⟩
end
noncomputable def trk(h:Heap)(H:Hp):List Addr:=(List.range h.objs.size).filter fun a=>(H a).isSome
noncomputable def A4(h:Heap)(H:Hp):Heap:=PySem.W.hideAll h (trk h H)
theorem HQ(h:Heap)(H:Hp):(A4 h H).objs.size=h.objs.size:=PySem.W.hideAll_size _ _
theorem JH{h:Heap}{H:Hp}{b:Addr}{o:Obj}(e:h.get? b=some o)(n:H b=none):(A4 h H).get? b=some o:=
 PySem.W.hideAll_get _ e fun hm=>by
  have q:(H b).isSome=true:=(List.mem_filter.mp hm).2
  rw[n] at q;simp at q
theorem NN{h:Heap}{H:Hp}{b:Addr}{o:Obj}(e:(A4 h H).get? b=some o):h.get? b=some o/\H b=none:=by
 have e':h.get? b=some o:=PySem.W.of_hideAll (trk h H) e
 refine⟨e',?_⟩
 cases q:H b with
 |none=>rfl
 |some x=>
  have hm:b∈trk h H:=List.mem_filter.mpr ⟨List.mem_range.mpr (Heap.lt_size e'),by simp[q]⟩
  have z:(A4 h H).get? b=none:=PySem.W.hideAll_none (trk h H) hm
  rw[z] at e;cases e
noncomputable def Mc(g h:Heap)(L:Addr):List (Addr×Obj):=(List.range h.objs.size).filterMap fun a=>if a=L\/(g.get? a).isSome=true then none else (h.get? a).map fun o=>(a,o)
noncomputable def rest(g h:Heap)(L d:Addr):List (Addr×Obj):=(Mc g h L).filter fun p=>decide (p.1≠d)
end L2
namespace L2
open PySem PySem.Spec PyProof.Rows
structure Mod(K:PySem.W.Frag)(mg:Str->Option Value)(base:Heap):Prop where
 kin:K.In base
 glob:base.Ns mainGlobals mg
 blt:∃mb,base.Ns builtinsNs mb/\∀x:Str,x ≠ "__name__"->mb x=bootBuiltins x
 nolimit:base.NoLimit
structure Cx where
 prog:Program
 w:World
 K:PySem.W.Frag
 mg:Str->Option Value
 base:Heap
 A:Around
 N:List Str
 io:Shared
 H₀:Hp
 env:Env
 outer:List Env
 stack:List Env
 ex:List Addr
 fn:Str->Bool
 calm:Bool
 pn:List (Addr×Obj)
 xe:Value->Shared->Prop
noncomputable def frs(l:List Env):List Addr:=l.filterMap (·.frame)
noncomputable abbrev Cx.fs(X:Cx):List Addr:=frs X.outer
noncomputable def Vis(sc:Scope)(x:Str):Prop:=sc.names.lookup x=some .local\/sc.names.lookup x=some .cell\/sc.names.lookup x=some .free
noncomputable def Loc(sc:Scope)(x:Str):Prop:=sc.names.lookup x=some .local\/sc.names.lookup x=some .cell
noncomputable def Look(env:Env)(h:Heap)(m:Str->Option Value)(x:Str)(u:Value):Prop:=
 (env.kindOf x=some .local/\m x=some u)\/((env.kindOf x=some .cell\/env.kindOf x=some .free)/\∃c,env.cells.lookup x=some c/\h.IsCell c (some u))
structure Cx.Ok(X:Cx):Prop where
 mod:Mod X.K X.mg X.base
 kind:X.env.scope.kind = .function
 glob:X.env.globals=mainGlobals
 blt:X.env.builtins=builtinsNs
 above:X.io.heap.objs.size<=X.env.locals
 inj:∀x y c,X.env.cells.lookup x=some c->X.env.cells.lookup y=some c->x=y
 has:∀x,(X.env.kindOf x=some .cell\/X.env.kindOf x=some .free)->∃c,X.env.cells.lookup x=some c
 cab:∀x c,X.fn x=true->X.env.cells.lookup x=some c->X.io.heap.objs.size<=c
 hd:X.calm=true->X.A.handled=none
 qt:X.A.handled=none\/∃(e:Addr) (oe:Obj) (vs:Array Value),X.A.handled=some (.ref e)/\(e,oe)∈X.pn/\oe.data = .fields vs/\vs[2]? = some .none
 frames:X.A.frames=some X.stack
 stk:X.stack=X.outer\/(X.stack=X.env::X.outer/\X.env.frame=some X.env.locals)
 exf:∀b∈X.ex,b≠X.env.locals/\∀x c,X.env.cells.lookup x=some c->c≠b
 bs:∀b o,X.base.get? b=some o->X.io.heap.get? b=some o/\X.H₀ b=none
 bsz:X.base.objs.size<=X.io.heap.objs.size
 Ie:∀b o,X.base.get? b=some o->b ∉ X.ex
 Ki:∀b∈X.ex,b ∉ X.fs
 qu:X.io.heap.FunFrames X.base X.outer
 frf:∀b∈X.fs,X.H₀ b=none
structure Inv(X:Cx)(pins:List (Addr×Obj))(σ:List (Option V))(H:Hp)(s:Shared):Prop where
 ok:X.Ok
 os:s.os=X.io.os
 bare:AllBare s.gens
 base:Un X.fs X.ex X.H₀ H X.io.heap s.heap
 loc:∃m,s.heap.Ns X.env.locals m/\∀(i:Nat) (x:Str) (v:V),X.N[i]? = some x->σ[i]? = some (some v)->Vis X.env.scope x->∃u,RelV v u/\Look X.env s.heap m x u
 cell:∀x c,X.env.cells.lookup x=some c->∃v,s.heap.IsCell c v
 free:H X.env.locals=none
 jg:∀x c,X.env.cells.lookup x=some c->H c=none
 pin:∀p∈X.pn++pins,s.heap.get? p.1=some p.2/\H p.1=none/\p.1≠X.env.locals/\p.1 ∉ X.fs/\∀v,p.2.data≠.cell v
 hok:HOk X.prog X.w H s.heap
 len:σ.length=X.N.length
section
variable {X:Cx}{pins:List (Addr×Obj)}{σ:List (Option V)}{H H':Hp}{s:Shared}{h':Heap}
theorem Inv.E4(I:Inv X pins σ H s):il X.A s.heap:=by
 rcases I.ok.qt with q|⟨e,oe,vs,q,hp,r⟩
 ·exact .inl q
 ·exact .inr ⟨e,oe,vs,q,(I.pin (e,oe) (mem_append_left _ hp)).1,r⟩
theorem Inv.hne(I:Inv X pins σ H s){b:Addr}(hb:∀p∈X.pn++pins,p.1≠b):∀e,X.A.handled=some (.ref e)->e≠b:=fun e he=>by
 rcases I.ok.qt with q|⟨e1,oe,vs,q,hp,r⟩
 ·rw[q] at he;cases he
 ·rw[q] at he;cases he;exact hb (e,oe) (mem_append_left _ hp)
theorem Cx.Ok.SV(ok:X.Ok){b:Addr}{o:Obj}(e:X.base.get? b=some o):b ∉ X.fs:=fun hb=>by
 have:=(ok.qu.mem hb).1
 rw[e] at this;cases this
theorem Inv.bs(I:Inv X pins σ H s):∀b o,X.base.get? b=some o->s.heap.get? b=some o/\H b=none:=fun b o e=>
 ⟨I.base.keep b o (I.ok.bs b o e).1 (I.ok.bs b o e).2 (I.ok.SV e) (I.ok.Ie b o e),I.base.free b o (I.ok.bs b o e).1 (I.ok.bs b o e).2 (I.ok.Ie b o e)⟩
theorem Inv.bk(I:Inv X pins σ H s):∀b o,X.base.get? b=some o->s.heap.get? b=some o:=fun b o e=>(I.bs b o e).1
theorem Inv.mod(I:Inv X pins σ H s):Mod X.K X.mg X.base:=I.ok.mod
theorem Inv.kIn(I:Inv X pins σ H s):X.K.In s.heap:=I.ok.mod.kin.keeps I.bk
theorem Inv.lt(I:Inv X pins σ H s):X.env.locals<s.heap.objs.size:=let ⟨_,hn,_⟩:=I.loc;hn.lt
theorem Inv.sz(I:Inv X pins σ H s):X.io.heap.objs.size<=s.heap.objs.size:=le_trans I.ok.above (Nat.le_of_lt I.lt)
theorem Inv.S0(I:Inv X pins σ H s){a:Addr}(h:s.heap.objs.size<=a):a ∉ X.fs:=fun hb=>by
 obtain⟨_,o,ho,_⟩:=I.ok.qu.mem hb
 exact absurd (lt_of_lt_of_le (Heap.lt_size ho) (le_trans I.sz h)) (lt_irrefl _)
theorem Inv.cne(I:Inv X pins σ H s):∀x c,X.env.cells.lookup x=some c->c≠X.env.locals:=fun x c e z=>by
 obtain⟨v,o,ho,hd⟩:=I.cell x c e
 obtain⟨m,⟨o',es,ep,ho',hd',_⟩,_⟩:=I.loc
 rw[z,ho'] at ho;cases ho;rw[hd'] at hd;cases hd
theorem Inv.qu(I:Inv X pins σ H s):s.heap.FunFrames X.base X.outer:=by
 have all:∀(l:List Env),(∀b∈frs l,b∈X.fs)->X.io.heap.FunFrames X.base l->s.heap.FunFrames X.base l:=by
  intro l
  induction l with
  |nil=>intro _ _;trivial
  |cons env r ih=>
   intro hs hl
   obtain⟨hk,⟨L,o,hf,hn,ho,hd⟩,hr⟩:=hl
   have hL:L∈X.fs:=hs L (by unfold frs;rw[filterMap_cons,hf];exact mem_cons_self)
   obtain⟨sl,e⟩:=I.base.slot L o ho (I.ok.frf L hL) hL fun z=>I.ok.Ki L z hL
   exact⟨hk,⟨L,_,hf,hn,e,hd⟩,ih (fun b hb=>hs b (by unfold frs;rw[filterMap_cons,hf];exact mem_cons_of_mem _ hb)) hr⟩
 exact all X.outer (fun _ hb=>hb) I.ok.qu
theorem Inv.stack(I:Inv X pins σ H s):s.heap.FunFrames X.base X.stack:=by
 rcases I.ok.stk with e|⟨e,hf⟩
 ·rw[e];exact I.qu
 ·rw[e]
  obtain⟨m,hn,_⟩:=I.loc
  refine .cons (by rw[I.ok.kind];decide) hf hn ?_ I.qu
  exact Heap.get?_none_of_le (le_trans I.ok.bsz I.ok.above)
theorem Inv.Cq(I:Inv X pins σ H s):∀b∈frs X.stack,b∈X.env.locals::X.fs:=fun b hb=>by
 rcases I.ok.stk with e|⟨e,hf⟩
 ·rw[e] at hb;exact mem_cons_of_mem _ hb
 ·rw[e] at hb
  unfold frs at hb
  rw[filterMap_cons,hf] at hb
  exact hb
theorem Inv.A3(I:Inv X pins σ H s):∀b∈frs X.stack,H b=none:=fun b hb=>by
 rcases List.mem_cons.mp (I.Cq b hb) with e|hb
 ·rw[e];exact I.free
 ·obtain⟨_,o,ho,_⟩:=I.ok.qu.mem hb
  exact I.base.free b o ho (I.ok.frf b hb) fun z=>I.ok.Ki b z hb
theorem Inv.step{g':Array GenState}{t':Nat}{d':Drawn}{ch:List Addr}(I:Inv X pins σ H s)
  (hch:∀b∈ch,(b∈X.ex\/X.io.heap.objs.size<=b)/\b≠X.env.locals/\(∀x c,X.env.cells.lookup x=some c->c≠b)/\∀p∈X.pn++pins,p.1≠b)
  (keep:∀b o,b≠X.env.locals->b ∉ X.fs->b ∉ ch->s.heap.get? b=some o->H b=none->h'.get? b=some o)
  (slot:∀b o,b≠X.env.locals->b∈X.fs->b ∉ ch->s.heap.get? b=some o->H b=none->∃sl,h'.get? b=some {o with slots:=sl}) (free:∀b o,b ∉ ch->s.heap.get? b=some o->H b=none->H' b=none)
  (there:∀b o,b ∉ ch->s.heap.get? b=some o->∃o',h'.get? b=some o')
  (qp:∀b xs,H b=some (.tup xs)->H' b=some (.tup xs)) (o8:∀b o u,H b=some (.frz o u)->H' b=some (.frz o u)) (o7:∀b ps,H b=some (.tbl ps)->∃more,H' b=some (.tbl (ps++more)))
  (ns:∀m,s.heap.Ns X.env.locals m->h'.Ns X.env.locals m) (hok:HOk X.prog X.w H' h') (hg:AllBare g') :
  Inv X pins σ H' {s with heap:=h',gens:=g',drawn:=d',toks:=t'}:=by
 have neL:∀b o,X.io.heap.get? b=some o->b≠X.env.locals:=fun b o e=>ne_of_lt (lt_of_lt_of_le (Heap.lt_size e) I.ok.above)
 have neC:∀b o,X.io.heap.get? b=some o->b ∉ X.ex->b ∉ ch:=fun b o e hx hb=>by
  rcases (hch b hb).1 with z|z
  ·exact hx z
  ·exact absurd (lt_of_lt_of_le (Heap.lt_size e) z) (lt_irrefl _)
 have cellK:∀x c,X.env.cells.lookup x=some c->∀v,s.heap.IsCell c v->h'.IsCell c v:=fun x c e v ⟨o,ho,hd⟩=>by
  have nch:c ∉ ch:=fun z=>(hch c z).2.2.1 x c e rfl
  by_cases hc:c∈X.fs
  ·obtain⟨sl,q⟩:=slot c o (I.cne x c e) hc nch ho (I.jg x c e)
   exact⟨_,q,hd⟩
  ·exact⟨o,keep c o (I.cne x c e) hc nch ho (I.jg x c e),hd⟩
 refine⟨I.ok,I.os,hg,⟨fun b o e n hb hx=>?_,fun b o e n hb hx=>?_,fun b o e n hx=>?_,fun b o e hx=>?_,fun b xs e=>qp b xs (I.base.qp b xs e),fun b o xs e=>o8 b o xs (I.base.o8 b o xs e),fun b ps e=>?_⟩,?_,fun x c e=>?_,?_,fun x c e=>?_,fun p hp=>?_,hok,I.len⟩
 ·exact keep b o (neL b o e) hb (neC b o e hx) (I.base.keep b o e n hb hx) (I.base.free b o e n hx)
 ·obtain⟨sl,e1⟩:=I.base.slot b o e n hb hx
  obtain⟨sl',e2⟩:=slot b _ (neL b o e) hb (neC b o e hx) e1 (I.base.free b o e n hx)
  exact⟨sl',e2⟩
 ·obtain⟨o',e1⟩:=I.base.there b o e hx
  exact free b o' (neC b o e hx) e1 (I.base.free b o e n hx)
 ·obtain⟨o',e1⟩:=I.base.there b o e hx
  exact there b o' (neC b o e hx) e1
 ·obtain⟨m1,e1⟩:=I.base.o7 b ps e
  obtain⟨m2,e2⟩:=o7 b _ e1
  exact⟨m1++m2,by rw[e2,Array.append_assoc]⟩
 ·obtain⟨m,hn,hl⟩:=I.loc
  refine⟨m,ns m hn,fun i x v e1 e2 e3=>?_⟩
  obtain⟨u,r,l⟩:=hl i x v e1 e2 e3
  refine⟨u,r,?_⟩
  rcases l with l|⟨k,c,e,z⟩
  ·exact .inl l
  ·exact .inr ⟨k,c,e,cellK x c e _ z⟩
 ·obtain⟨v,z⟩:=I.cell x c e
  exact⟨v,cellK x c e v z⟩
 ·obtain⟨m,⟨o,_,_,ho,_⟩,_⟩:=I.loc
  exact free _ o (fun z=>(hch _ z).2.1 rfl) ho I.free
 ·obtain⟨v,o,ho,hd⟩:=I.cell x c e
  exact free c o (fun z=>(hch c z).2.2.1 x c e rfl) ho (I.jg x c e)
 ·obtain⟨e,n,ne,nf,d⟩:=I.pin p hp
  have nch:p.1 ∉ ch:=fun z=>(hch p.1 z).2.2.2 p hp rfl
  exact⟨keep p.1 p.2 ne nf nch e n,free p.1 p.2 nch e n,ne,nf,d⟩
theorem Inv.un{t':Nat}(I:Inv X pins σ H s)(u:Un X.fs [] H H' s.heap h')(hok:HOk X.prog X.w H' h'):Inv X pins σ H' {s with heap:=h',toks:=t'}:=by
 obtain⟨m,⟨o,es,ep,ho,r⟩,_⟩:=id I.loc
 obtain⟨sl,hL⟩:=u.any ho I.free (by simp)
 exact I.step (g':=s.gens) (d':=s.drawn) (ch:=[]) (fun _ z=>nomatch z) (fun b o _ hb _ e n=>u.keep b o e n hb (by simp)) (fun b o _ hb _ e n=>u.slot b o e n hb (by simp)) (fun b o _ e n=>u.free b o e n (by simp)) (fun b o _ e=>u.there b o e (by simp)) u.qp u.o8 u.o7 (fun m' hm=>by
  obtain⟨o',es',ep',ho',r'⟩:=hm
  rw[ho] at ho';cases ho'
  exact⟨_,es',ep',hL,r'⟩) hok I.bare
theorem Inv.call{g':Array GenState}{t':Nat}{d':Drawn}{ch:List Addr}(I:Inv X pins σ H s)(u:Un (frs X.stack) ch H H' s.heap h')(hok:HOk X.prog X.w H' h')(hg:AllBare g')
  (hch:∀b∈ch,(b∈X.ex\/X.io.heap.objs.size<=b)/\b≠X.env.locals/\(∀x c,X.env.cells.lookup x=some c->c≠b)/\∀p∈X.pn++pins,p.1≠b) :
  Inv X pins σ H' {s with heap:=h',gens:=g',drawn:=d',toks:=t'}:=by
 obtain⟨m,⟨o,es,ep,ho,r⟩,_⟩:=id I.loc
 obtain⟨sl,hL⟩:=u.any ho I.free fun z=>(hch _ z).2.1 rfl
 exact I.step (ch:=ch) hch (fun b o hL hb hc e n=>u.keep b o e n (fun z=>(List.mem_cons.mp (I.Cq b z)).elim hL hb) hc) (fun b o _ _ hc e n=>u.any e n hc) (fun b o hc e n=>u.free b o e n hc) (fun b o hc e=>u.there b o e hc) u.qp u.o8 u.o7 (fun m' hm=>by
  obtain⟨o',es',ep',ho',r'⟩:=hm
  rw[ho] at ho';cases ho'
  exact⟨_,es',ep',hL,r'⟩) hok hg
theorem Inv.turned{t':Nat}{it:Addr}(I:Inv X pins σ H s)(k:∀b o,b≠it->s.heap.get? b=some o->h'.get? b=some o)(hn:H it=none)(hL:it≠X.env.locals)
  (h1:it∈X.ex\/X.io.heap.objs.size<=it) (h2:∀x c,X.env.cells.lookup x=some c->c≠it) (h3:∀p∈X.pn++pins,p.1≠it):Inv X pins σ H {s with heap:=h',toks:=t'}:=by
 have nit:∀b u,H b=some u->b≠it:=fun b u e z=>by rw[z,hn] at e;cases e
 refine I.step (g':=s.gens) (d':=s.drawn) (ch:=[it]) (fun b hb=>?_) (fun b o _ _ hc e _=>k b o (fun z=>hc (by simp[z])) e) (fun b o _ _ hc e _=>⟨o.slots,k b o (fun z=>hc (by simp[z])) e⟩) (fun _ _ _ _ n=>n)
  (fun b o hc e=>⟨o,k b o (fun z=>hc (by simp[z])) e⟩) (fun _ _ e=>e) (fun _ _ _ e=>e) (fun b ps e=>⟨#[],by rw[e];simp⟩) (fun m hm=>?_) (fun b u e=>?_) I.bare
 ·have e:b=it:=by simpa using hb
  subst e
  exact⟨h1,hL,h2,h3⟩
 ·obtain⟨o,es,ep,ho,r⟩:=hm
  exact⟨o,es,ep,k _ o (Ne.symm hL) ho,r⟩
 ·refine (I.hok b u e).vC (fun c v hc q=>k c v ?_ q) (fun _ q=>q) fun _ _ q=>q
  rcases hc with z|z
  ·rw[z];exact nit b u e
  ·exact nit c _ z
theorem Inv.tok(I:Inv X pins σ H s)(t:Nat):Inv X pins σ H {s with toks:=t}:=I.un (h':=s.heap) (t':=t) Un.refl I.hok
theorem Inv.kept{t':Nat}(I:Inv X pins σ H s)(k:∀b u,s.heap.get? b=some u->h'.get? b=some u):Inv X pins σ H {s with heap:=h',toks:=t'}:=I.un (Un.kept k) (I.hok.kept k)
theorem Inv.laid{a:Addr}{o:HO}{t':Nat}(I:Inv X pins σ H s)(k:∀b u,s.heap.get? b=some u->h'.get? b=some u)(hp:s.heap.objs.size<=a)(new:gK X.prog X.w (upd H a o) h' a o) :
  Inv X pins σ (upd H a o) {s with heap:=h',toks:=t'}:=I.un (Un.laid k hp (I.hok.fresh hp)) (I.hok.laid k hp new)
theorem Inv.write{x e:Addr}{o:HO}{t':Nat}(I:Inv X pins σ H s)(mu:Mut (H x))(he:e=x\/H e=some (.own x))(k:∀b u,b≠e->s.heap.get? b=some u->h'.get? b=some u)(heo:∃u,h'.get? e=some u)
  (new:gK X.prog X.w (upd H x o) h' x o):Inv X pins σ (upd H x o) {s with heap:=h',toks:=t'}:=I.un (Un.write mu he k heo) (I.hok.write mu he k heo new)
theorem Inv.FK{pins':List (Addr×Obj)}(I:Inv X pins σ H s)(h:∀p∈pins',s.heap.get? p.1=some p.2/\H p.1=none/\p.1≠X.env.locals/\p.1 ∉ X.fs/\∀v,p.2.data≠.cell v):Inv X pins' σ H s:=
 ⟨I.ok,I.os,I.bare,I.base,I.loc,I.cell,I.free,I.jg,fun p hp=>(List.mem_append.mp hp).elim (fun z=>I.pin p (mem_append_left _ z)) (h p),I.hok,I.len⟩
theorem CV{N:List Str}(hN:N.Nodup){i j:Nat}{x:Str}(a:N[i]? = some x)(b:N[j]? = some x):i=j:=by
 obtain⟨h1,e1⟩:=List.getElem?_eq_some_iff.mp a
 obtain⟨h2,e2⟩:=List.getElem?_eq_some_iff.mp b
 exact (List.getElem_inj hN).mp (e1.trans e2.symm)
theorem Ii{M:Model}{A:Around}{E:Value->Shared->Prop}{i:Nat}{x:Str}{v:V}{u:Value}{Q:Unit->Shared->Prop}(I:Inv X pins σ H s)(hN:X.N.Nodup)(hi:X.N[i]? = some x)(hx:Loc X.env.scope x)(r:RelV v u)
  (h:∀s',Inv X pins (σ.set i (some v)) H s'->(∃a,Heap.SameBut a s.heap s'.heap/\(a=X.env.locals\/X.env.cells.lookup x=some a))->Q () s') (hf:X.fn x=true\/X.env.scope.names.lookup x=some .local:=by first|exact .inl rfl|exact .inr rfl|assumption):wpAny M A (storeName X.env x u) Q E s:=by
 obtain⟨m,hn,hl⟩:=id I.loc
 have hcls:(X.env.scope.kind==.class || (X.env.scope.kind==.module&&X.env.locals != X.env.globals))=false:=by rw[I.ok.kind];rfl
 have wT:i<σ.length:=by rw[I.len];exact (List.getElem?_eq_some_iff.mp hi).1
 have cne:=I.cne
 have tracked:∀{a:Addr} {h':Heap},(∃o,s.heap.get? a=some o/\H a=none)->Heap.SameBut a s.heap h'->HOk X.prog X.w H h':=fun {a h'} ha hs b ob e=>by
  obtain⟨_,_,hfree⟩:=ha
  refine (I.hok b ob e).vC (fun c w' hc q=>(hs.2 c ?_).trans q) (fun _ q=>q) fun _ _ q=>q
  rintro rfl
  rcases hc with rfl|hc
  ·rw[hfree] at e;cases e
  ·rw[hfree] at hc;cases hc
 rcases hx with hk|hk
 ·refine wpAny_storeName_local hk hn (fun h' hn' hs=>?_) hcls
  obtain⟨oL,_,_,hoL,_⟩:=id hn
  refine h _ ⟨I.ok,I.os,I.bare,⟨fun b o e n hb hx=>?_,fun b o e n hb hx=>?_,I.base.free,fun b o e hx=>?_,I.base.qp,I.base.o8,I.base.o7⟩,⟨_,hn',fun j y v' e1 e2 e3=>?_⟩,fun y c e=>?_,I.free,I.jg,fun p hp=>?_,tracked ⟨oL,hoL,I.free⟩ hs,by simpa using I.len⟩ ⟨_,hs,.inl rfl⟩
  ·exact (hs.2 b (ne_of_lt (lt_of_lt_of_le (Heap.lt_size e) I.ok.above))).trans (I.base.keep b o e n hb hx)
  ·obtain⟨sl,e1⟩:=I.base.slot b o e n hb hx
   exact⟨sl,(hs.2 b (ne_of_lt (lt_of_lt_of_le (Heap.lt_size e) I.ok.above))).trans e1⟩
  ·obtain⟨o',e1⟩:=I.base.there b o e hx
   exact⟨o',(hs.2 b (ne_of_lt (lt_of_lt_of_le (Heap.lt_size e) I.ok.above))).trans e1⟩
  ·by_cases hj:j=i
   ·subst hj
    rw[hi] at e1;cases e1
    rw[List.getElem?_set_self wT] at e2
    cases e2
    exact⟨u,r,.inl ⟨hk,by simp⟩⟩
   ·rw[List.getElem?_set_ne (Ne.symm hj)] at e2
    obtain⟨u',r',q⟩:=hl j y v' e1 e2 e3
    refine⟨u',r',?_⟩
    rcases q with ⟨k,e⟩|⟨k,c,e,z⟩
    ·refine .inl ⟨k,?_⟩
     have:y≠x:=fun e=>hj (CV hN e1 (e▸hi))
     simp[this,e]
    ·exact .inr ⟨k,c,e,z.sameBut hs (cne y c e)⟩
  ·obtain⟨w',z⟩:=I.cell y c e
   exact⟨w',z.sameBut hs (cne y c e)⟩
  ·obtain⟨e,n,ne,nf,d⟩:=I.pin p hp
   exact⟨(hs.2 p.1 ne).trans e,n,ne,nf,d⟩
 ·have hfn:X.fn x=true:=by
   rcases hf with z|z
   ·exact z
   ·rw[z] at hk;cases hk
  obtain⟨c,hc⟩:=I.ok.has x (.inl hk)
  obtain⟨w',z⟩:=I.cell x c hc
  refine wpAny_storeName_cell I.ok.kind hk hc z (fun h' hc' hs=>?_)
  obtain⟨oc,hoc,hocd⟩:=id z
  refine h {s with heap:=h'} ⟨I.ok,I.os,I.bare,⟨fun b o e n hb hx=>?_,fun b o e n hb hx=>?_,I.base.free,fun b o e hx=>?_,I.base.qp,I.base.o8,I.base.o7⟩,⟨m,hn.sameBut hs (Ne.symm (cne x c hc)),fun j y v' e1 e2 e3=>?_⟩,fun y c' e=>?_,I.free,I.jg,fun p hp=>?_,tracked ⟨oc,hoc,I.jg x c hc⟩ hs,by simpa using I.len⟩ ⟨c,hs,.inr hc⟩
  ·exact (hs.2 b (ne_of_lt (lt_of_lt_of_le (Heap.lt_size e) (I.ok.cab x c hfn hc)))).trans (I.base.keep b o e n hb hx)
  ·obtain⟨sl,e1⟩:=I.base.slot b o e n hb hx
   exact⟨sl,(hs.2 b (ne_of_lt (lt_of_lt_of_le (Heap.lt_size e) (I.ok.cab x c hfn hc)))).trans e1⟩
  ·obtain⟨o',e1⟩:=I.base.there b o e hx
   exact⟨o',(hs.2 b (ne_of_lt (lt_of_lt_of_le (Heap.lt_size e) (I.ok.cab x c hfn hc)))).trans e1⟩
  ·by_cases hj:j=i
   ·subst hj
    rw[hi] at e1;cases e1
    rw[List.getElem?_set_self wT] at e2
    cases e2
    exact⟨u,r,.inr ⟨.inl hk,c,hc,hc'⟩⟩
   ·rw[List.getElem?_set_ne (Ne.symm hj)] at e2
    obtain⟨u',r',q⟩:=hl j y v' e1 e2 e3
    refine⟨u',r',?_⟩
    rcases q with q|⟨k,c',e,z'⟩
    ·exact .inl q
    ·refine .inr ⟨k,c',e,z'.sameBut hs ?_⟩
     rintro rfl
     exact hj (CV hN e1 (I.ok.inj _ _ _ e hc▸hi))
  ·by_cases hcc:c'=c
   ·subst hcc;exact⟨_,hc'⟩
   ·obtain⟨w2,z2⟩:=I.cell y c' e
    exact⟨w2,z2.sameBut hs hcc⟩
  ·obtain⟨e,n,ne,nf,d⟩:=I.pin p hp
   refine⟨(hs.2 p.1 ?_).trans e,n,ne,nf,d⟩
   intro q
   rw[q,hoc] at e
   have q':oc=p.2:=Option.some.inj e
   exact d w' (by rw[<- q'];exact hocd)
theorem kM{M:Model}{A:Around}{E:Value->Shared->Prop}{i:Nat}{x:Str}{v:V}{u:Value}{Q:Unit->Shared->Prop}(I:Inv X pins σ H s)(hN:X.N.Nodup)(hi:X.N[i]? = some x)(hx:Loc X.env.scope x)(r:RelV v u)
  (h:∀s',Inv X pins (σ.set i (some v)) H s'->Q () s') (hf:X.fn x=true\/X.env.scope.names.lookup x=some .local:=by first|exact .inl rfl|exact .inr rfl|assumption):wpAny M A (storeName X.env x u) Q E s:=
 Ii I hN hi hx r (fun s' I' _=>h s' I') hf
theorem Inv.FV{s':Shared}{ch:List Addr}(I:Inv X pins σ H s)(ho:s'.os=s.os)(u:Un (frs X.stack) ch H H' s.heap s'.heap)(hok:HOk X.prog X.w H' s'.heap)(hg:AllBare s'.gens)
  (hch:∀b∈ch,(b∈X.ex\/X.io.heap.objs.size<=b)/\b≠X.env.locals/\(∀x c,X.env.cells.lookup x=some c->c≠b)/\∀p∈X.pn++pins,p.1≠b):Inv X pins σ H' s':=by
 obtain⟨h',g',d',t',o'⟩:=s'
 have e:o'=s.os:=ho
 subst e
 exact I.call (g':=g') (t':=t') (d':=d') u hok hg hch
end
noncomputable abbrev XK:=Value->Option Addr->Hp->Prop
noncomputable abbrev St:=List (Option V)
noncomputable abbrev VK:=V->Hp->Prop
noncomputable abbrev TE:=St->Hp->VK->Prop
noncomputable abbrev TT:=St->Hp->(Bool->Hp->Prop)->Prop
noncomputable abbrev TA:=St->Hp->(List V->Hp->Prop)->Prop
structure Ends where
 nx:St->Hp->Prop
 rt:VK
 bk:St->Hp->Prop:=fun _ _=>False
 ct:St->Hp->Prop:=fun _ _=>False
noncomputable abbrev TS:=Ends->St->Hp->Prop
noncomputable def EP(X:Cx)(pins:List (Addr×Obj))(σ:St)(Q:VK)(u:Value)(s':Shared):Prop:=∃v H',Inv X pins σ H' s'/\RelV v u/\Q v H'
noncomputable def TP(X:Cx)(pins:List (Addr×Obj))(σ:St)(Q:Bool->Hp->Prop)(b:Bool)(s':Shared):Prop:=∃H',Inv X pins σ H' s'/\Q b H'
noncomputable def AP(X:Cx)(pins:List (Addr×Obj))(σ:St)(Q:List V->Hp->Prop)(us:List Value)(s':Shared):Prop:=∃vs H',Inv X pins σ H' s'/\Vals vs us/\Q vs H'
noncomputable def SP(X:Cx)(pins:List (Addr×Obj))(D:Ends)(f:Flow)(s':Shared):Prop:=
 match f with
 |.next=>∃db H',Inv X pins db H' s'/\D.nx db H'
 |.brk=>∃db H',Inv X pins db H' s'/\D.bk db H'
 |.cont=>∃db H',Inv X pins db H' s'/\D.ct db H'
 |.ret u=>∃v db H',Inv X pins db H' s'/\RelV v u/\D.rt v H'
noncomputable def PE(X:Cx)(e:Expr)(t:TE):Prop:=
 ∀(pins:List (Addr×Obj)) (s:Shared) (σ:St) (H:Hp) (Q:VK),Inv X pins σ H s->t σ H Q->wpAny (model X.prog X.w) X.A (eval e X.env) (EP X pins σ Q) X.xe s
noncomputable def PT(X:Cx)(e:Expr)(t:TT):Prop:=
 ∀(pins:List (Addr×Obj)) (s:Shared) (σ:St) (H:Hp) (Q:Bool->Hp->Prop),Inv X pins σ H s->t σ H Q->wpAny (model X.prog X.w) X.A (isTrue e X.env (eval e X.env)) (TP X pins σ Q) X.xe s
noncomputable def PW(X:Cx)(e:Expr)(t:TT):Prop:=
 ∀(whole:Sem Value) (pins:List (Addr×Obj)) (s:Shared) (σ:St) (H:Hp) (Q:Bool->Hp->Prop),Inv X pins σ H s->t σ H Q->wpAny (model X.prog X.w) X.A (isTrue e X.env whole) (TP X pins σ Q) X.xe s
theorem PW.pt{X:Cx}{e:Expr}{t:TT}(h:PW X e t):PT X e t:=h _
noncomputable def PA(X:Cx)(es:List Expr)(t:TA):Prop:=
 ∀(pos:Pos) (pins:List (Addr×Obj)) (s:Shared) (σ:St) (H:Hp) (Q:List V->Hp->Prop),Inv X pins σ H s->t σ H Q->wpAny (model X.prog X.w) X.A (spliced (backTo pos (starEach es X.env))) (AP X pins σ Q) X.xe s
noncomputable def PS(X:Cx)(st:Stmt)(t:TS):Prop:=
 ∀(pins:List (Addr×Obj)) (s:Shared) (σ:St) (H:Hp) (D:Ends),Inv X pins σ H s->t D σ H->wpAny (model X.prog X.w) X.A (exec st X.env) (SP X pins D) X.xe s
noncomputable def PSs(X:Cx)(st:List Stmt)(t:TS):Prop:=
 ∀(pins:List (Addr×Obj)) (s:Shared) (σ:St) (H:Hp) (D:Ends),Inv X pins σ H s->t D σ H->wpAny (model X.prog X.w) X.A (execs st X.env) (SP X pins D) X.xe s
theorem thn{α:Type}{t:Sem α}{Q Q':α->Shared->Prop}{M:Model}{A:Around}{E:Value->Shared->Prop}{s:Shared}(h:wpAny M A t Q E s)(hQ:∀a s,Q a s->Q' a s):wpAny M A t Q' E s:=wpAny_mono h hQ fun _ _ x=>x
end L2
namespace L2
open PySem PySem.Spec PyProof.Rows
section
variable {X:Cx}
theorem bin{a b:Expr}{ta tb:TE}(ha:PE X a ta)(hb:PE X b tb){pins:List (Addr×Obj)}{s:Shared}{σ:St}{H:Hp}{R:V->V->Hp->Prop}(I:Inv X pins σ H s)(h:ta σ H fun x H1=>tb σ H1 fun y H2=>R x y H2)
  {α:Type} {Q:α->Shared->Prop} {f:Value->Value->Sem α}
  (hf:∀v u s2 x y H2,Inv X pins σ H2 s2->RelV x v->RelV y u->R x y H2->wpAny (model X.prog X.w) X.A (f v u) Q X.xe s2) :
  wpAny (model X.prog X.w) X.A (eval a X.env) (fun v gV=>wpAny (model X.prog X.w) X.A (eval b X.env) (fun u ln=>wpAny (model X.prog X.w) X.A (f v u) Q X.xe ln) X.xe gV) X.xe s:=by
 refine thn (ha pins s σ H _ I h) fun v s1 hq0=>?_
 obtain⟨x,H1,I1,r1,q1⟩:=hq0
 refine thn (hb pins s1 σ H1 _ I1 q1) fun u s2 hq0=>?_
 obtain⟨y,H2,I2,r2,q2⟩:=hq0
 exact hf v u s2 x y H2 I2 r1 r2 q2
noncomputable def Q8(i:Nat):TE:=fun σ H Q=>∃v,σ[i]? = some (some v)/\Q v H
noncomputable def tC(v:V):TE:=fun _ H Q=>Q v H
theorem K2{i:Nat}{x:Str}{pos:Pos}(hN:X.N[i]? = some x)(hv:Vis X.env.scope x)(hd:(x==("__debug__":Str))=false:=by decide)(hcd:(x==("__classdict__":Str))=false:=by decide):PE X (.Name x pos) (Q8 i):=by
 intro pins s σ H Q I h
 obtain⟨v,e,h⟩:=h
 obtain⟨m,hn,hl⟩:=I.loc
 obtain⟨u,r,l⟩:=hl i x v hN e hv
 have fin:EP X pins σ Q u s:=⟨v,H,I,r,h⟩
 rcases l with ⟨hk,hm⟩|⟨hk,c,hc,hcell⟩
 ·exact wpAny_Name (wpAny_loadName_local I.ok.kind hk hn hm fin) hd
 ·rcases hk with hk|hk
  ·exact wpAny_Name (wpAny_loadName_cell I.ok.kind hk hc hcell fin) hd
  ·exact wpAny_Name (wpAny_loadName_free I.ok.kind hk hc hcell fin hcd) hd
theorem ON{i j pos}:PE X (.Constant (.int i) j pos) (tC (.int i)):=fun _ _ _ H _ I h=>wpAny_Constant_int ⟨.int i,H,I.tok _,⟨_,rfl⟩,h⟩
theorem Rr{b j pos}:PE X (.Constant (.bool b) j pos) (tC (.bl b)):=fun _ _ _ H _ I h=>Constant_bool ⟨.bl b,H,I,rfl,h⟩
theorem Oo{j pos}:PE X (.Constant .none j pos) (tC .non):=fun _ _ _ H _ I h=>Constant_none ⟨.non,H,I,rfl,h⟩
theorem LB{x j pos}:PE X (.Constant (.str x) j pos) (tC (.str x)):=fun _ _ _ H _ I h=>Calls.Constant_str ⟨.str x,H,I.tok _,⟨_,rfl⟩,h⟩
noncomputable def Gl(X:Cx)(x:Str):Prop:=X.env.kindOf x=some .globalImplicit
theorem rR{E:Value->Shared->Prop}{pins:List (Addr×Obj)}{s:Shared}{σ:St}{H:Hp}{x:Str}{u:Value}{pos:Pos}{Q:Value->Shared->Prop}(I:Inv X pins σ H s)(hg:Gl X x)(hm:X.mg x=some u)(h:Q u s)
  (hd:(x==("__debug__":Str))=false:=by decide):wpAny (model X.prog X.w) X.A (eval (.Name x pos) X.env) Q E s:=
 Calls.Name_function_global I.ok.kind hg (Calls.loadGlobal_global (by rw[I.ok.glob];exact I.mod.glob.keeps I.bk) hm h) hd
theorem qr{E:Value->Shared->Prop}{pins:List (Addr×Obj)}{s:Shared}{σ:St}{H:Hp}{x:Str}{u:Value}{pos:Pos}{Q:Value->Shared->Prop}(I:Inv X pins σ H s)(hg:Gl X x)(hm:X.mg x=none)(hv:bootBuiltins x=some u)(h:Q u s)
  (hn:x ≠ "__name__":=by decide) (hd:(x==("__debug__":Str))=false:=by decide):wpAny (model X.prog X.w) X.A (eval (.Name x pos) X.env) Q E s:=by
 obtain⟨mb,h1,h2⟩:=I.mod.blt
 exact Calls.Name_function_global I.ok.kind hg (Calls.loadGlobal_builtin (by rw[I.ok.glob];exact I.mod.glob.keeps I.bk) hm (by rw[I.ok.blt];exact h1.keeps I.bk) ((h2 x hn).trans hv) h) hd
theorem G5{x:Str}{v:V}{u:Value}{pos:Pos}(hg:Gl X x)(hm:X.mg x=some u)(r:RelV v u)(hd:(x==("__debug__":Str))=false:=by decide):PE X (.Name x pos) (tC v):=
 fun _ _ _ H _ I h=>rR I hg hm ⟨v,H,I,r,h⟩ hd
theorem Hr{x:Str}{v:V}{u:Value}{pos:Pos}(hg:Gl X x)(hm:X.mg x=none)(hv:bootBuiltins x=some u)(r:RelV v u)(hn:x ≠ "__name__":=by decide)(hd:(x==("__debug__":Str))=false:=by decide):PE X (.Name x pos) (tC v):=
 fun _ _ _ H _ I h=>qr I hg hm hv ⟨v,H,I,r,h⟩ hn hd
variable {a b:Expr}{ta tb:TE}{pos:Pos}
noncomputable def PC(X:Cx)(op:CmpOp)(a b:Expr)(t:TE):Prop:=
 ∀(pins:List (Addr×Obj)) (s:Shared) (σ:St) (H:Hp) (Q:VK),Inv X pins σ H s->t σ H Q ->
  wpAny (model X.prog X.w) X.A (eval a X.env) (fun v gV=>wpAny (model X.prog X.w) X.A (eval b X.env) (fun u ln=>wpAny (model X.prog X.w) X.A (compareOp op v u) (EP X pins σ Q) X.xe ln) X.xe gV) X.xe s
theorem Lv(b:Expr){op:CmpOp}(h:op≠.In)(h2:op≠.NotIn):behindInMarks op b=false:=by
 have e1:(op==CmpOp.In)=false:=by cases op<;>first|rfl|exact absurd rfl h
 have e2:(op==CmpOp.NotIn)=false:=by cases op<;>first|rfl|exact absurd rfl h2
 cases b<;>simp[behindInMarks,e1,e2]
noncomputable def tB(t:TE):TT:=fun σ H Q=>t σ H fun x H1=>∃c,x = .bl c/\Q c H1
theorem Ta{op:CmpOp}{t:TE}(h:PC X op a b t)(h1:behindInMarks op b=false:=by first|exact Lv _ ⋯ ⋯|rfl):PT X (.Compare a [op] [b] pos) (tB t):=by
 intro pins s σ H Q I hw
 refine wpAny_isTrue_Compare1 (thn (h pins s σ H _ I hw) fun v s1 h1=>thn h1 fun u s2 h2=>thn h2 fun c s3 hq0=>?_) h1
 obtain⟨x,H1,I1,r1,q1⟩:=hq0
 obtain⟨d,rfl,q⟩:=q1
 cases r1
 exact wpAny_truthy_bool ⟨H1,I1,q⟩
theorem OS{e:Expr}{t:TE}(h:PE X e t)(he:∀whole,isTrue e X.env whole=(do let v <- whole;standAt e.pos;holding [v] (truthy v)):=by intro _;rfl):PT X e (tB t):=by
 intro pins s σ H Q I hw
 refine isTrue_plain (thn (h pins s σ H _ I hw) fun v s1 hq0=>?_) (he _)
 obtain⟨x,H1,I1,r1,q1⟩:=hq0
 obtain⟨d,rfl,q⟩:=q1
 cases r1
 exact wpAny_truthy_bool ⟨H1,I1,q⟩
variable {tA tB':TT}{rest:List Expr}
noncomputable def Tu(t u:TT):TT:=fun σ H Q=>t σ H fun c H1=>if c=true then u σ H1 Q else Q false H1
noncomputable def tOr(t u:TT):TT:=fun σ H Q=>t σ H fun c H1=>if c=true then Q true H1 else u σ H1 Q
noncomputable def Tv(t:TT):TT:=fun σ H Q=>t σ H fun c H1=>Q (!c) H1
theorem pw_and1(ha:PT X a tA):PW X (.BoolOp .And [a] pos) tA:=by
 intro wh pins s σ H Q I h
 refine isTrue_and (thn (ha pins s σ H Q I h) fun c s1 e=>?_)
 cases c with
 |true=>exact isTrue_and_nil e
 |false=>exact e
theorem pw_or1(ha:PT X a tA):PW X (.BoolOp .Or [a] pos) tA:=by
 intro wh pins s σ H Q I h
 refine isTrue_or (thn (ha pins s σ H Q I h) fun c s1 e=>?_)
 cases c with
 |false=>exact isTrue_or_nil e
 |true=>exact e
theorem pw_and(ha:PT X a tA)(hb:PW X (.BoolOp .And (b::rest) pos) tB'):PW X (.BoolOp .And (a::b::rest) pos) (Tu tA tB'):=by
 intro wh pins s σ H Q I h
 refine isTrue_and (thn (ha pins s σ H _ I h) fun c s1 hq0=>?_)
 obtain⟨H1,I1,q1⟩:=hq0
 cases c with
 |true=>exact hb wh pins s1 σ H1 Q I1 q1
 |false=>exact⟨H1,I1,q1⟩
theorem pw_or(ha:PT X a tA)(hb:PW X (.BoolOp .Or (b::rest) pos) tB'):PW X (.BoolOp .Or (a::b::rest) pos) (tOr tA tB'):=by
 intro wh pins s σ H Q I h
 refine isTrue_or (thn (ha pins s σ H _ I h) fun c s1 hq0=>?_)
 obtain⟨H1,I1,q1⟩:=hq0
 cases c with
 |true=>exact⟨H1,I1,q1⟩
 |false=>exact hb wh pins s1 σ H1 Q I1 q1
theorem Qp(ha:PT X a tA):PT X (.UnaryOp .Not a pos) (Tv tA):=by
 intro pins s σ H Q I h
 exact isTrue_not (ha pins s σ H (fun c H1=>Q (!c) H1) I h)
noncomputable def RQ(ta tb:TE):TE:=fun σ H Q=>ta σ H fun x H1=>∃c,x = .bl c/\if c=true then tb σ H1 Q else Q (.bl false) H1
noncomputable def Rw(ta:TE):TE:=fun σ H Q=>ta σ H fun x H1=>∃c,x = .bl c/\Q (.bl (!c)) H1
theorem Qx{op}{t:TE}(h:PE X a t):PE X (.BoolOp op [a] pos) t:=fun pins s σ H Q I hw=>BoolOp_one (h pins s σ H Q I hw)
theorem O5(ha:PE X a ta)(hb:PE X (.BoolOp .And (b::rest) pos) tb):PE X (.BoolOp .And (a::b::rest) pos) (RQ ta tb):=by
 intro pins s σ H Q I h
 refine BoolOp_and (thn (ha pins s σ H _ I h) fun v s1 hq0=>?_)
 obtain⟨x,H1,I1,r1,q1⟩:=hq0
 obtain⟨c,rfl,q1⟩:=q1
 cases r1
 refine wpAny_truthy_bool ?_
 cases c with
 |true=>exact hb pins s1 σ H1 Q I1 q1
 |false=>exact⟨.bl false,H1,I1,rfl,q1⟩
theorem O3(ha:PE X a ta):PE X (.UnaryOp .Not a pos) (Rw ta):=by
 intro pins s σ H Q I h
 refine UnaryOp_ (thn (ha pins s σ H _ I h) fun v s1 hq0=>?_)
 obtain⟨x,H1,I1,r1,q1⟩:=hq0
 obtain⟨c,rfl,q1⟩:=q1
 cases r1
 exact not_of (wpAny_truthy_bool ⟨.bl (!c),H1,I1,rfl,q1⟩)
noncomputable def tIf(t:TT)(ta tb:TE):TE:=fun σ H Q=>t σ H fun c H1=>if c=true then ta σ H1 Q else tb σ H1 Q
theorem KI{c:Expr}(hc:PT X c tA)(ha:PE X a ta)(hb:PE X b tb):PE X (.IfExp c a b pos) (tIf tA ta tb):=by
 intro pins s σ H Q I h
 refine wpAny_IfExp (thn (hc pins s σ H _ I h) fun d s1 hq0=>?_)
 obtain⟨H1,I1,q1⟩:=hq0
 cases d with
 |true=>exact ha pins s1 σ H1 Q I1 q1
 |false=>exact hb pins s1 σ H1 Q I1 q1
end
end L2
namespace L2
open PySem PySem.Spec PyProof.Rows
noncomputable def SqL(K:PySem.W.Frag)(H:Hp)(a:Addr)(xs:List V):Prop:=
 Rd H a (.lst xs) \/
  ∃(o:Obj) (its:Array Value) (n:Nat),K.lookup a=some o/\o.cls = .type "list"/\o.dict=none/\o.data = .seq its n/\its.size<=sizeLine/\Vals xs its.toList
noncomputable def SqT(K:PySem.W.Frag)(H:Hp)(a:Addr)(xs:List V):Prop:=
 Rd H a (.tup xs) \/
  ∃(o:Obj) (its:Array Value) (n:Nat),K.lookup a=some o/\o.cls = .type "tuple"/\o.data = .seq its n/\its.size<=sizeLine/\Vals xs its.toList
noncomputable def So:Value->Option V
 |.none=>some .non
 |.bool b=>some (.bl b)
 |.int i _=>some (.int i)
 |.str x _=>some (.str x)
 |.bytes b _=>some (.byt b)
 |.float b _=>some (.flt b)
 |.ref a=>some (.ref a)
 |.type n=>some (.ty n)
 |_=>none
theorem RelV.abs{x:V}{u:Value}(r:RelV x u):So u=some x:=by
 cases x with
 |non=>cases r;rfl
 |bl _=>cases r;rfl
 |int _=>obtain⟨t,rfl⟩:=r;rfl
 |str _=>obtain⟨t,rfl⟩:=r;rfl
 |byt _=>obtain⟨t,rfl⟩:=r;rfl
 |flt _=>obtain⟨t,rfl⟩:=r;rfl
 |ref _=>cases r;rfl
 |ty _=>cases r;rfl
theorem RelV.inj{x y:V}{u:Value}(r:RelV x u)(q:RelV y u):x=y:=Option.some.inj (r.abs.symm.trans q.abs)
theorem Vals.inj:∀{xs ys:List V} {us:List Value},Vals xs us->Vals ys us->xs=ys
 |_,_,_,.nil,.nil=>rfl
 |_,_,_,.cons r t,.cons r' t'=>by rw[r.inj r',Vals.inj t t']
section
variable {X:Cx}{pins:List (Addr×Obj)}{σ:St}{H:Hp}{s:Shared}{a:Addr}{xs ys:List V}
theorem SqL.of{K:PySem.W.Frag}(h:H a=some (.lst xs)):SqL K H a xs:=.inl (.inl h)
theorem SqT.of{K:PySem.W.Frag}(h:H a=some (.tup xs)):SqT K H a xs:=.inl (.inl h)
theorem Inv.list(I:Inv X pins σ H s)(h:SqL X.K H a xs):∃its:List Value,Vals xs its/\PlainL s.heap a its.toArray/\xs.length<=sizeLine:=by
 rcases h with h|⟨o,its,n,hk,hc,hd,hs,hz,r⟩
 ·obtain⟨z,its,n,r,e⟩:=h.ok I.hok
  exact⟨its,r,⟨_,n,e,rfl,rfl,rfl⟩,z⟩
 ·refine⟨its.toList,r,⟨o,n,I.kIn a o hk,hc,hd,by simpa using hs⟩,?_⟩
  have e:=r.length
  simp only[Array.length_toList] at e
  omega
theorem Inv.tuple(I:Inv X pins σ H s)(h:SqT X.K H a xs):∃its:List Value,Vals xs its/\IsTup s.heap a its.toArray/\xs.length<=sizeLine:=by
 rcases h with h|⟨o,its,n,hk,hc,hs,hz,r⟩
 ·obtain⟨z,its,r,p⟩:=h.ok I.hok
  exact⟨its,r,p,z⟩
 ·refine⟨its.toList,r,⟨o,I.kIn a o hk,hc,n,by simpa using hs⟩,?_⟩
  have e:=r.length
  simp only[Array.length_toList] at e
  omega
theorem Inv.DF(I:Inv X pins σ H s)(h:SqL X.K H a xs)(h':SqL X.K H a ys):xs=ys:=by
 obtain⟨its,r,⟨o,n,e,_,_,d⟩,_⟩:=I.list h
 obtain⟨its',r',⟨o',n',e',_,_,d'⟩,_⟩:=I.list h'
 rw[e] at e';cases e'
 rw[d] at d'
 injection d' with d1 _
 have:its=its':=by simpa using congrArg Array.toList d1
 subst this
 exact r.inj r'
theorem Inv.IY(I:Inv X pins σ H s)(h:SqT X.K H a xs)(h':SqT X.K H a ys):xs=ys:=by
 obtain⟨its,r,⟨o,e,_,n,d⟩,_⟩:=I.tuple h
 obtain⟨its',r',⟨o',e',_,n',d'⟩,_⟩:=I.tuple h'
 rw[e] at e';cases e'
 rw[d] at d'
 injection d' with d1 _
 have:its=its':=by simpa using congrArg Array.toList d1
 subst this
 exact r.inj r'
end
noncomputable abbrev Cx.wZ(X:Cx)(E:Value->Shared->Prop):Cx:={X with xe:=E}
noncomputable abbrev Cx.nox(X:Cx):Cx:=X.wZ fun _ _=>False
theorem Cx.Ok.wZ{X:Cx}(ok:X.Ok)(E:Value->Shared->Prop):(X.wZ E).Ok:=
 ⟨ok.mod,ok.kind,ok.glob,ok.blt,ok.above,ok.inj,ok.has,ok.cab,ok.hd,ok.qt,ok.frames,ok.stk,ok.exf,ok.bs,ok.bsz,ok.Ie,ok.Ki,ok.qu,ok.frf⟩
theorem Cx.Ok.lP{X:Cx}{E:Value->Shared->Prop}(ok:(X.wZ E).Ok):X.Ok:=
 ⟨ok.mod,ok.kind,ok.glob,ok.blt,ok.above,ok.inj,ok.has,ok.cab,ok.hd,ok.qt,ok.frames,ok.stk,ok.exf,ok.bs,ok.bsz,ok.Ie,ok.Ki,ok.qu,ok.frf⟩
section
variable {X:Cx}{pins:List (Addr×Obj)}{σ:St}{H:Hp}{s:Shared}{E:Value->Shared->Prop}
theorem Inv.wZ(I:Inv X pins σ H s)(E:Value->Shared->Prop):Inv (X.wZ E) pins σ H s:=⟨I.ok.wZ E,I.os,I.bare,I.base,I.loc,I.cell,I.free,I.jg,I.pin,I.hok,I.len⟩
theorem Inv.lP(I:Inv (X.wZ E) pins σ H s):Inv X pins σ H s:=⟨I.ok.lP,I.os,I.bare,I.base,I.loc,I.cell,I.free,I.jg,I.pin,I.hok,I.len⟩
theorem SP.lP{D:Ends}{f:Flow}{s':Shared}(h:SP (X.wZ E) pins D f s'):SP X pins D f s':=by
 cases f with
 |next=>obtain⟨db,H',I,q⟩:=h;exact⟨db,H',I.lP,q⟩
 |brk=>obtain⟨db,H',I,q⟩:=h;exact⟨db,H',I.lP,q⟩
 |cont=>obtain⟨db,H',I,q⟩:=h;exact⟨db,H',I.lP,q⟩
 |ret u=>obtain⟨v,db,H',I,r,q⟩:=h;exact⟨v,db,H',I.lP,r,q⟩
theorem PSs.nox{st:List Stmt}{t:TS}(h:PSs X.nox st t):PSs X st t:=fun pins s σ H D I hw=>
 wpAny_mono (h pins s σ H D (I.wZ _) hw) (fun _ _ q=>q.lP) fun _ _ z=>False.elim z
end
section
variable {X:Cx}{st:Stmt}{rest:List Stmt}{t u:TS}{e:Expr}{te:TE}{pos:Pos}
noncomputable def RI:TS:=fun D σ H=>D.nx σ H
noncomputable def Rn(t u:TS):TS:=fun D σ H=>t {D with nx:=u D} σ H
theorem L9:PSs X [] RI:=fun _ _ σ H _ I h=>wpAny_execs_nil ⟨σ,H,I,h⟩
theorem Dw(h1:PS X st t)(h2:PSs X rest u):PSs X (st::rest) (Rn t u):=by
 intro pins s σ H D I h
 refine wpAny_execs_cons (thn (h1 pins s σ H {D with nx:=u D} I h) fun f s1 q=>?_)
 cases f with
 |next=>
  obtain⟨db,H',I',q⟩:=q
  exact h2 pins s1 db H' D I' q
 |ret v=>exact q
 |brk=>exact q
 |cont=>exact q
theorem MV(h1:PS X st t):PSs X [st] t:=by
 intro pins s σ H D I h
 refine wpAny_execs_cons (thn (h1 pins s σ H D I h) fun f s1 q=>?_)
 cases f with
 |next=>exact wpAny_execs_nil q
 |ret v=>exact q
 |brk=>exact q
 |cont=>exact q
theorem Inv.quiet{pins:List (Addr×Obj)}{σ:St}{H:Hp}{s:Shared}(I:Inv X pins σ H s):interactive X.env=false:=by simp[interactive,I.ok.kind]
noncomputable def RV(te:TE):TS:=fun D σ H=>te σ H fun _ H1=>D.nx σ H1
theorem GC(he:PE X e te)(hs:swapsWith e none pos.line X.env=pure false:=by rfl):PS X (.Expr e pos) (RV te):=by
 intro pins s σ H D I h
 exact wpAny_Expr_any (thn (he pins s σ H _ I h) fun v s1 ⟨x,H1,I1,r1,q1⟩=>⟨σ,H1,I1,q1⟩) I.quiet hs
noncomputable def SQ(te:TE):TS:=fun D σ H=>te σ H D.rt
theorem Qu(he:PE X e te):PS X (.Return (some e) pos) (SQ te):=by
 intro pins s σ H D I h
 exact wpAny_Return_some (thn (he pins s σ H _ I h) fun v s1 ⟨x,H1,I1,r1,q1⟩=>⟨x,σ,H1,I1,r1,q1⟩)
noncomputable def Sw(c:TT)(t u:TS):TS:=fun D σ H=>c σ H fun b H1=>if b=true then t D σ H1 else u D σ H1
theorem Oa{c:Expr}{a b:List Stmt}{tc:TT}(hc:PT X c tc)(ha:PSs X a t)(hb:PSs X b u):PS X (.If c a b pos) (Sw tc t u):=by
 intro pins s σ H D I h
 refine wpAny_If (thn (hc pins s σ H _ I h) fun d s1 hq0=>?_)
 obtain⟨H1,I1,q1⟩:=hq0
 cases d with
 |true=>exact ha pins s1 σ H1 D I1 q1
 |false=>exact hb pins s1 σ H1 D I1 q1
noncomputable def Pp:TS:=fun _ _ _=>False
theorem zJ{sts:List Stmt}:PSs X sts Pp:=fun _ _ _ _ _ _ h=>h.elim
end
noncomputable abbrev TG:=V->St->Hp->(St->Hp->Prop)->Prop
noncomputable abbrev TGs:=List V->St->Hp->(St->Hp->Prop)->Prop
noncomputable def PG(X:Cx)(target:Expr)(t:TG):Prop:=
 ∀(pins:List (Addr×Obj)) (s:Shared) (σ:St) (H:Hp) (v:V) (u:Value) (Q:St->Hp->Prop),Inv X pins σ H s->RelV v u->t v σ H Q ->
  wpAny (model X.prog X.w) X.A (assign target X.env u) (fun _ s'=>∃db H',Inv X pins db H' s'/\Q db H') X.xe s
noncomputable def PGs(X:Cx)(ts:List Expr)(t:TGs):Prop:=
 ∀(pins:List (Addr×Obj)) (s:Shared) (σ:St) (H:Hp) (vs:List V) (us:List Value) (Q:St->Hp->Prop),Inv X pins σ H s->Vals vs us->t vs σ H Q ->
  wpAny (model X.prog X.w) X.A (assignInOrder ((assignEach ts X.env).map (·.2)) us) (fun _ s'=>∃db H',Inv X pins db H' s'/\Q db H') X.xe s
noncomputable abbrev PH:=V->V->V->Hp->(Hp->Prop)->Prop
noncomputable def QY(X:Cx)(t:PH):Prop:=
 ∀(pins:List (Addr×Obj)) (s:Shared) (σ:St) (H:Hp) (o i v:V) (ov iv u:Value) (Q:Hp->Prop),Inv X pins σ H s->RelV o ov->RelV i iv->RelV v u->t o i v H Q ->
  wpAny (model X.prog X.w) X.A (setItem ov iv u) (fun _ s'=>∃H',Inv X pins σ H' s'/\Q H') X.xe s
section
variable {X:Cx}{pos:Pos}
noncomputable def Kj(i:Nat):TG:=fun v σ H Q=>Q (σ.set i (some v)) H
theorem NB{i:Nat}{x:Str}(hN:X.N.Nodup)(hi:X.N[i]? = some x)(hx:Loc X.env.scope x)(hf:X.fn x=true\/X.env.scope.names.lookup x=some .local:=by first|exact .inl rfl|exact .inr rfl|assumption):PG X (.Name x pos) (Kj i):=by
 intro pins s σ H v u Q I r h
 exact wpAny_assign_Name (kM I hN hi hx r (fun s' I'=>⟨_,H,I',h⟩) hf)
noncomputable def SH:TGs:=fun vs σ H Q=>vs=[]/\Q σ H
noncomputable def Q4(t:TG)(u:TGs):TGs:=fun vs σ H Q=>∃v r,vs=v::r/\t v σ H fun db H'=>u r db H' Q
theorem Mf:PGs X [] SH:=by
 intro pins s σ H vs us Q I r h
 obtain⟨e,h⟩:=h
 subst e
 cases r
 exact assignInOrder_nil ⟨σ,H,I,h⟩
theorem JE{e:Expr}{es:List Expr}{t:TG}{u:TGs}(h1:PG X e t)(h2:PGs X es u)
  (hs:(assignEach (e::es) X.env).map (·.2)=assign e X.env::(assignEach es X.env).map (·.2):=by rfl):PGs X (e::es) (Q4 t u):=by
 intro pins s σ H vs us Q I r h
 obtain⟨v,vr,e1,h⟩:=h
 subst e1
 cases r with
 |cons r rr=>
  rw[hs]
  refine assignInOrder_cons (thn (h1 pins s σ H _ _ _ I r h) fun _ s1 hq0=>?_)
  obtain⟨ss,H1,I1,q1⟩:=hq0
  exact h2 pins s1 ss H1 _ _ Q I1 rr q1
noncomputable def Tb(K:PySem.W.Frag)(n:Nat)(t:TGs):TG:=fun v σ H Q=>∃a xs,v = .ref a/\SqT K H a xs/\xs.length=n/\t xs σ H Q
theorem Ox{es:List Expr}{k:Nat}{t:TGs}{n:Nat}(hc:X.calm=X.calm)(h:PGs X es t)
  (hn:(assignEach es X.env).length=n:=by rfl) (hst:(assignEach es X.env).findIdx? (·.1)=none:=by rfl):PG X (.Tuple es k pos) (Tb X.K n t):=by
 intro pins s σ H v u Q I r hw
 obtain⟨a,xs,e1,hq,hl,hw⟩:=hw
 subst e1
 cases r
 obtain⟨its,rv,ht,hz⟩:=I.tuple hq
 refine yR I.E4 ht (by simp[hn,<- hl,rv.length]) hst fun h' hx=>?_
 have I1:Inv X pins σ H {s with heap:=h'}:=I.kept (t':=s.toks) fun b o e=>hx b o (ne_of_lt (Heap.lt_size e)) e
 exact h pins _ σ H xs _ Q I1 (by simpa using rv) hw
noncomputable def Tc(to ti:TE)(t:PH):TG:=fun v σ H Q=>to σ H fun o H1=>ti σ H1 fun i H2=>t o i v H2 fun H3=>Q σ H3
theorem PD{o i:Expr}{to ti:TE}{t:PH}(ho:PE X o to)(hi:PE X i ti)(hs:QY X t)
  (ha:∀v,assign (.Subscript o i pos) X.env v=(do
   let ov <- holding [v] (eval o X.env)
   let iv <- holding [v,ov] (eval i X.env)
   standAt pos
   holding [v,ov,iv] (setItem ov iv v)
   release [v,ov,iv] []):=by intro _;rfl):PG X (.Subscript o i pos) (Tc to ti t):=by
 intro pins s σ H v u Q I r h
 rw[ha]
 refine wpAny_bind (wpAny_holding (thn (ho pins s σ H _ I h) fun ov s1 hq0=>?_))
 obtain⟨x,H1,I1,r1,q1⟩:=hq0
 refine wpAny_bind (wpAny_holding (thn (hi pins s1 σ H1 _ I1 q1) fun iv s2 hq0=>?_))
 obtain⟨y,H2,I2,r2,q2⟩:=hq0
 refine wpAny_bind (wpAny_standAt (wpAny_bind (wpAny_holding (thn (hs pins s2 σ H2 x y v ov iv u _ I2 r1 r2 r q2) fun _ s3 hq0=>?_))))
 obtain⟨H3,I3,q3⟩:=hq0
 exact wpAny_release ⟨σ,H3,I3,q3⟩
noncomputable def Pa(te:TE)(g:TG):TS:=fun D σ H=>te σ H fun x H1=>g x σ H1 D.nx
theorem PM{tg e:Expr}{te:TE}{g:TG}(he:PE X e te)(hg:PG X tg g)(hs:swapsWithSole [tg] e pos.line X.env=pure false:=by rfl)(hw:swappedStores [tg] e X.env=pure none:=by rfl)
  (h1:(assignEach [tg] X.env).map (·.2)=[assign tg X.env]:=by rfl):PS X (.Assign [tg] e pos) (Pa te g):=by
 intro pins s σ H D I h
 refine wpAny_Assign_stores (thn (he pins s σ H _ I h) fun v s1 hq0=>?_) hs hw
 obtain⟨x,H1,I1,r1,q1⟩:=hq0
 rw[h1]
 exact thn (hg pins s1 σ H1 x v _ I1 r1 q1) fun _ s2 q=>q
theorem O0{i:Nat}{x:Str}{e:Expr}{te:TE}{pos':Pos}(hN:X.N.Nodup)(hi:X.N[i]? = some x)(hx:Loc X.env.scope x)(he:PE X e te)(hs:swapsWith e (some (.Name x pos')) pos.line X.env=pure false:=by rfl)(hf:X.fn x=true\/X.env.scope.names.lookup x=some .local:=by first|exact .inl rfl|exact .inr rfl|assumption) :
  PS X (.Assign [.Name x pos'] e pos) (Pa te (Kj i)):=by
 intro pins s σ H D I h
 refine wpAny_Assign_Name (thn (he pins s σ H _ I h) fun v s1 hq0=>?_) hs
 obtain⟨y,H1,I1,r1,q1⟩:=hq0
 exact kM I1 hN hi hx r1 (fun s2 I2=>⟨_,H1,I2,q1⟩) hf
noncomputable def SW(i j:Nat)(ta:TA):TS:=fun D σ H=>ta σ H fun vs H1=>∃v w,vs=[v,w]/\D.nx ((σ.set i (some v)).set j (some w)) H1
theorem P5{i j:Nat}{x y:Str}{a b:Expr}{ta:TA}{px py pt:Pos}{kt k2 pt2}(hc:X.calm=true)(hN:X.N.Nodup)(hi:X.N[i]? = some x)(hj:X.N[j]? = some y)(hij:i≠j)
  (hx:X.env.scope.names.lookup x=some .local) (hy:X.env.scope.names.lookup y=some .local) (ha:PA X [a,b] ta)
  (hw:swappedStores [.Tuple [.Name x px,.Name y py] kt pt] (.Tuple [a,b] k2 pt2) X.env=pure (some [x,y]))
  (hs:swapsWithSole [.Tuple [.Name x px,.Name y py] kt pt] (.Tuple [a,b] k2 pt2) pos.line X.env=pure false:=by rfl) :
  PS X (.Assign [.Tuple [.Name x px,.Name y py] kt pt] (.Tuple [a,b] k2 pt2) pos) (SW i j ta):=by
 intro pins s σ H D I h
 rw[exec_Assign_arm]
 refine wpAny_bind (wpAny_standAt ?_)
 rw[hs]
 refine wpAny_bind (wpAny_pure ?_)
 rw[if_neg ⋯]
 refine wpAny_bind (Tuple_ (thn (ha _ pins s σ H _ I h) fun us s1 hq0=>?_))
 obtain⟨vs,H1,I1,r1,q1⟩:=hq0
 obtain⟨v,w,e1,q1⟩:=q1
 subst e1
 obtain⟨u1,u2,rfl,rv,rw'⟩:∃u1 u2,us=[u1,u2]/\RelV v u1/\RelV w u2:=by
  cases r1 with
  |cons p q=>
   cases q with
   |cons p' q'=>
    cases q'
    exact⟨_,_,rfl,p,p'⟩
 refine wpAny_newObj_type ?_ (by show 2<=sizeLine;decide)
 have I2:Inv X pins σ H1 {s1 with heap:=s1.heap.push {cls:=.type "tuple",data:=.seq [u1,u2].toArray}}:=I1.kept (t':=s1.toks) fun b o e=>Heap.get?_push_of_some _ e
 rw[hw]
 refine wpAny_bind (wpAny_pure ?_)
 show wpAny (model X.prog X.w) X.A (do rule "assign.swapped-stores";let items <- unpackItems (.ref s1.heap.objs.size) 2 none;assignInOrder [fun v=>bindName X.env y v,fun v=>bindName X.env x v] items.reverse;pure Flow.next) _ _ _
 refine wpAny_bind (wpAny_rule (wpAny_bind (unpackItems_tuple (items:=#[u1,u2]) (I.ok.hd hc) (IsTup.new s1.heap _) fun h' hx'=>?_)))
 have I3:=I2.kept (h':=h') (t':=s1.toks) fun b o e=>hx' b o (ne_of_lt (Heap.lt_size e)) e
 show wpAny _ _ (assignInOrder [fun v=>bindName X.env y v,fun v=>bindName X.env x v] [u2,u1]>>=fun _=>pure Flow.next) _ _ _
 refine wpAny_bind (assignInOrder_cons (wpAny_bindName (kM I3 hN hj (.inl hy) rw' (fun s2 I4=>?_) (.inr hy))))
 refine assignInOrder_cons (wpAny_bindName (kM I4 hN hi (.inl hx) rv (fun s3 I5=>assignInOrder_nil (wpAny_pure ?_)) (.inr hx)))
 rw[List.set_comm _ _ (Ne.symm hij)] at I5
 exact⟨_,H1,I5,q1⟩
end
section
variable {X:Cx}{pos:Pos}
noncomputable def O9(c:TT)(tb:TS):TS:=fun D σ H=>∃W:Nat->St->Hp->Prop,(∃m,W m σ H)/\∀m σ H,W m σ H ->
 c σ H fun b H1=>if b=true then ∃N:St->Hp->Prop,(∀db H',N db H'->∃m',m'<m/\W m' db H')/\tb {D with nx:=N,ct:=N,bk:=D.nx} σ H1 else D.nx σ H1
theorem Kq{c:Expr}{body:List Stmt}{tc:TT}{tb:TS}(hp:PassesOwn (model X.prog X.w) X.A X.env X.xe)(hc:PT X c tc)(hb:PSs X body tb):PS X (.While c body [] pos) (O9 tc tb):=by
 intro pins s σ H D I h
 obtain⟨W,⟨m0,w0⟩,turn⟩:=h
 refine wpAny_While (codeAny_whileLoop (fun n s'=>∃db H',Inv X pins db H' s'/\W n db H') ?_ m0 ⟨σ,H,I,w0⟩)
 rintro n s1 ⟨ss,H1,I1,w1⟩
 refine wpAny_passesOwn hp (thn (hc pins s1 ss H1 _ I1 (turn n ss H1 w1)) fun b s2 hq0=>?_)
 obtain⟨H2,I2,q2⟩:=hq0
 cases b with
 |true=>
  obtain⟨N,hN,q2⟩:=q2
  rw[if_pos rfl]
  refine wpAny_passesOwn hp (thn (hb pins s2 ss H2 _ I2 q2) fun f s3 q3=>?_)
  cases f with
  |next=>
   obtain⟨o0,H3,I3,n3⟩:=q3
   obtain⟨m',hm,w3⟩:=hN o0 H3 n3
   exact⟨m',hm,o0,H3,I3,w3⟩
  |cont=>
   obtain⟨o0,H3,I3,n3⟩:=q3
   obtain⟨m',hm,w3⟩:=hN o0 H3 n3
   exact⟨m',hm,o0,H3,I3,w3⟩
  |brk=>exact q3
  |ret v=>exact q3
 |false=>
  rw[if_neg Bool.false_ne_true]
  exact wpAny_execs_nil ⟨ss,H2,I2,q2⟩
end
structure It where
 go:Nat->Hp->Prop
 yld:Nat->Hp->V->Hp->Prop
 stop:Nat->Hp->Prop
noncomputable def x9(X:Cx)(pins:List (Addr×Obj))(H:Hp)(b:Addr):Prop:=
 H b=none/\b≠X.env.locals/\b ∉ X.fs/\(b∈X.ex\/X.io.heap.objs.size<=b)/\(∀x c,X.env.cells.lookup x=some c->c≠b)/\∀p∈X.pn++pins,p.1≠b
theorem Inv.Ls{X:Cx}{pins:List (Addr×Obj)}{σ:St}{H H':Hp}{s:Shared}{b:Addr}(I:Inv X pins σ H s)(hb:s.heap.objs.size<=b)(hn:H' b=none):x9 X pins H' b:=by
 refine⟨hn,Nat.ne_of_gt (lt_of_lt_of_le I.lt hb),I.S0 hb,.inr (le_trans I.sz hb),fun x c e z=>?_,fun p hp z=>?_⟩
 ·obtain⟨v,q⟩:=I.cell x c e
  exact absurd (lt_of_lt_of_le q.lt (by rw[z];exact hb)) (lt_irrefl _)
 ·exact absurd (lt_of_lt_of_le (Heap.lt_size (I.pin p hp).1) (by rw[z];exact hb)) (lt_irrefl _)
structure Turn(c:Bool)(P:Program)(w:World)(K:PySem.W.Frag)(tg:Expr)(J:It)(fp:List Addr)(it:Addr)(tn:Nat->Heap->Prop):Prop where
 mem:it∈fp
 obj:∀i h,tn i h->∀b∈fp,∃o,h.get? b=some o/\∀v,o.data≠.cell v
 keep:∀i h h',tn i h->(∀b∈fp,∀o,h.get? b=some o->h'.get? b=some o)->tn i h'
 item:∀(X:Cx),X.prog=P->X.w=w->X.K=K->(c=true->X.calm=true)->∀(i:Nat) (pins:List (Addr×Obj)) (s:Shared) (σ:St) (H:Hp) (E:Value->Shared->Prop),Inv X pins σ H s->(∀b∈fp,x9 X pins H b)->tn i s.heap->J.go i H ->
  wpAny (model P w) X.A (pyNext (.ref it)) (fun r s1=>∃u,r=some u /\
   wpAny (model P w) X.A (letOwnedTupleGo tg (.ref it) u) (fun _ s2=>∃x H',Inv X pins σ H' s2/\RelV x u/\J.yld i H x H'/\tn (i+1) s2.heap/\∀b∈fp,H' b=none) E s1) E s
 done:∀(X:Cx),X.prog=P->X.w=w->X.K=K->(c=true->X.calm=true)->∀(i:Nat) (pins:List (Addr×Obj)) (s:Shared) (σ:St) (H:Hp) (E:Value->Shared->Prop),Inv X pins σ H s->(∀b∈fp,x9 X pins H b)->tn i s.heap->J.stop i H ->
  wpAny (model P w) X.A (pyNext (.ref it)) (fun r s1=>r=none/\Inv X pins σ H s1) E s
 self:∀(A:Around) (i:Nat) (s:Shared) (Q:Value->Shared->Prop) (E:Value->Shared->Prop),tn i s.heap->Q (.ref it) s->wpAny (model P w) A (pyIter (.ref it)) Q E s
theorem Turn.calm{c:Bool}{P:Program}{w:World}{K:PySem.W.Frag}{tg:Expr}{J:It}{fp:List Addr}{it:Addr}{tn:Nat->Heap->Prop}(T:Turn true P w K tg J fp it tn)(h:c=true):Turn c P w K tg J fp it tn:=by subst h;exact T
noncomputable abbrev TI:=St->Hp->(It->Hp->Prop)->Prop
noncomputable def PIE(X:Cx)(pins:List (Addr×Obj))(σ:St)(tg:Expr)(R:It->Hp->Prop)(itv:Value)(s2:Shared):Prop:=
 ∃(it:Addr) (fp:List Addr) (tn:Nat->Heap->Prop) (J:It) (H':Hp),itv = .ref it/\Inv X pins σ H' s2/\Turn X.calm X.prog X.w X.K tg J fp it tn/\tn 0 s2.heap/\(∀b∈fp,x9 X pins H' b)/\R J H'
noncomputable def PI(X:Cx)(tg iter:Expr)(wi:TI):Prop:=
 ∀(pins:List (Addr×Obj)) (s:Shared) (σ:St) (H:Hp) (R:It->Hp->Prop),Inv X pins σ H s->wi σ H R ->
  wpAny (model X.prog X.w) X.A (eval iter X.env) (fun v s1=>wpAny (model X.prog X.w) X.A (pyIter v) (PIE X pins σ tg R) X.xe s1) X.xe s
theorem Jo{M:Model}{A:Around}{E:Value->Shared->Prop}{s:Shared}{tg:Expr}{it:Addr}{u:Value}{o:Obj}{n:String}{vs:Array Value}{Q:Unit->Shared->Prop}(ho:s.heap.get? it=some o)(hc:o.cls = .type n)(hd:o.data = .fields vs)
  (hn:["enumerate","zip","dict_itemiterator","dict_reverseitemiterator","odict_iterator","itertools.zip_longest","itertools.pairwise"].contains n=false) (hQ:Q () s):wpAny M A (letOwnedTupleGo tg (.ref it) u) Q E s:=by
 unfold letOwnedTupleGo
 cases tg<;>first
  |exact wpAny_pure hQ
  |(cases u<;>first
    |exact wpAny_pure hQ
    |(refine wpAny_bind (wpAny_load ho ?_)
      rw[hc,hd]
      show wpAny M A (if (["enumerate","zip","dict_itemiterator","dict_reverseitemiterator","odict_iterator","itertools.zip_longest","itertools.pairwise"].contains n&&vs[0]?==some (rawInt _))=true then _ else _) Q E s
      rw[if_neg (by intro h;rw[hn,Bool.false_and] at h;cases h)]
      exact wpAny_pure hQ))
noncomputable def Itl(K:PySem.W.Frag)(a:Addr):It:=
 ⟨fun i H=>∃xs x,SqL K H a xs/\xs[i]? = some x,fun i H x H'=>H'=H/\∀xs,SqL K H a xs->xs[i]? = some x,fun i H=>∃xs,SqL K H a xs/\xs.length<=i⟩
noncomputable def Itt(K:PySem.W.Frag)(a:Addr):It:=
 ⟨fun i H=>∃xs x,SqT K H a xs/\xs[i]? = some x,fun i H x H'=>H'=H/\∀xs,SqT K H a xs->xs[i]? = some x,fun i H=>∃xs,SqT K H a xs/\xs.length<=i⟩
noncomputable def Itr(lo:Int)(n:Nat):It:=⟨fun i _=>i<n,fun i H x H'=>H'=H/\x = .int (lo+i),fun i _=>n<=i⟩
theorem Iu{c:Bool}{P:Program}{w:World}{K:PySem.W.Frag}{tg:Expr}(a it:Addr):Turn c P w K tg (Itl K a) [it] it (fun i h=>h.IsListIter it a i) where
 mem:=by simp
 obj:=fun i h st b hb=>by
  have e:b=it:=by simpa using hb
  subst e
  obtain⟨o,e,c,d⟩:=st
  exact⟨o,e,fun v z=>by rw[d] at z;cases z⟩
 keep:=fun i h h' st k=>st.at fun o e=>k it (by simp) o e
 item:=by
  intro X hP hw hK hc i pins s σ H E I hf st hg
  subst hP hw hK
  obtain⟨xs,x,hq,hx⟩:=hg
  obtain⟨its,rv,p,hz⟩:=I.list hq
  obtain⟨u,hu,ru⟩:=rv.get hx
  obtain⟨f0,f1,f2,f3,f4,f5⟩:=hf it (by simp)
  refine wpAny_pyNext_list_item st p.isList (x:=u) (by simpa using hu) fun h' st' sb=>?_
  have I1:Inv X pins σ H {s with heap:=h'}:=I.turned (t':=s.toks) (fun b o hb e=>(sb.2 b hb).trans e) f0 f1 f3 f4 f5
  obtain⟨o,e,c,d⟩:=id st'
  exact⟨u,rfl,Jo (s:={s with heap:=h'}) e c d ⋯ ⟨x,H,I1,ru,⟨rfl,fun ys hy=>by rw[I.DF hy hq];exact hx⟩,st',fun b hb=>(hf b hb).1⟩⟩
 done:=by
  intro X hP hw hK hc i pins s σ H E I hf st hg
  subst hP hw hK
  obtain⟨xs,hq,hx⟩:=hg
  obtain⟨its,rv,p,hz⟩:=I.list hq
  obtain⟨f0,f1,f2,f3,f4,f5⟩:=hf it (by simp)
  have hl:=rv.length
  exact yS I.E4 (I.hne f5) st p.isList (by simp;omega) fun h' eb=>⟨rfl,I.turned (t':=s.toks) (fun b o hb e=>eb b o hb e) f0 f1 f3 f4 f5⟩
 self:=fun _ _ _ _ _ st h=>wpAny_pyIter_listiter st h
theorem Fy{c:Bool}{P:Program}{w:World}{K:PySem.W.Frag}{tg:Expr}(a it:Addr):Turn c P w K tg (Itt K a) [it] it (fun i h=>h.IsTupleIter it a i) where
 mem:=by simp
 obj:=fun i h st b hb=>by
  have e:b=it:=by simpa using hb
  subst e
  obtain⟨o,e,c,d⟩:=st
  exact⟨o,e,fun v z=>by rw[d] at z;cases z⟩
 keep:=fun i h h' st k=>st.at fun o e=>k it (by simp) o e
 item:=by
  intro X hP hw hK hc i pins s σ H E I hf st hg
  subst hP hw hK
  obtain⟨xs,x,hq,hx⟩:=hg
  obtain⟨its,rv,p,hz⟩:=I.tuple hq
  obtain⟨u,hu,ru⟩:=rv.get hx
  obtain⟨f0,f1,f2,f3,f4,f5⟩:=hf it (by simp)
  refine wpAny_pyNext_tuple_item st (show s.heap.IsTuple a its.toArray from p) (x:=u) (by simpa using hu) fun h' st' sb=>?_
  have I1:Inv X pins σ H {s with heap:=h'}:=I.turned (t':=s.toks) (fun b o hb e=>(sb.2 b hb).trans e) f0 f1 f3 f4 f5
  obtain⟨o,e,c,d⟩:=id st'
  exact⟨u,rfl,Jo (s:={s with heap:=h'}) e c d ⋯ ⟨x,H,I1,ru,⟨rfl,fun ys hy=>by rw[I.IY hy hq];exact hx⟩,st',fun b hb=>(hf b hb).1⟩⟩
 done:=by
  intro X hP hw hK hc i pins s σ H E I hf st hg
  subst hP hw hK
  obtain⟨xs,hq,hx⟩:=hg
  obtain⟨its,rv,p,hz⟩:=I.tuple hq
  obtain⟨f0,f1,f2,f3,f4,f5⟩:=hf it (by simp)
  have hl:=rv.length
  exact sR I.E4 (I.hne f5) st (show s.heap.IsTuple a its.toArray from p) (by simp;omega) fun h' eb=>⟨rfl,I.turned (t':=s.toks) (fun b o hb e=>eb b o hb e) f0 f1 f3 f4 f5⟩
 self:=fun _ _ _ _ _ st h=>wpAny_pyIter_tupleiter st h
theorem Fu{P:Program}{w:World}{K:PySem.W.Frag}{tg:Expr}(it:Addr)(lo:Int)(n:Nat):Turn true P w K tg (Itr lo n) [it] it (fun i h=>IsRangeIter h it (lo+(i:Nat)*1) ((n:Int)-(i:Nat)) 1) where
 mem:=by simp
 obj:=fun i h st b hb=>by
  have e:b=it:=by simpa using hb
  subst e
  exact⟨_,st,fun v z=>by
   have z':Data.fields _=Data.cell v:=z
   cases z'⟩
 keep:=fun i h h' st k=>k it (by simp) _ st
 item:=by
  intro X hP hw hK hc i pins s σ H E I hf st hg
  subst hP hw hK
  obtain⟨f0,f1,f2,f3,f4,f5⟩:=hf it (by simp)
  have W:=Walks.range (prog:=X.prog) (w:=X.w) (I.ok.hd (hc rfl)) it lo 1 n
  refine W.item i s _ _ hg st fun v h' tk hv st' kk=>?_
  obtain⟨t,rfl⟩:=hv
  have I1:Inv X pins σ H {s with heap:=h',toks:=tk}:=I.turned (fun b o hb e=>kk b o (by simpa using hb) e) f0 f1 f3 f4 f5
  refine⟨_,rfl,Jo (s:={s with heap:=h',toks:=tk}) (n:="range_iterator") st' rfl rfl ⋯ ⟨.int (lo+i),H,I1,⟨t,?_⟩,⟨rfl,rfl⟩,st',fun b hb=>(hf b hb).1⟩⟩
  rw[mul_one]
 done:=by
  intro X hP hw hK hc i pins s σ H E I hf st hg
  subst hP hw hK
  obtain⟨f0,f1,f2,f3,f4,f5⟩:=hf it (by simp)
  exact wpAny_pyNext_range_end (I.ok.hd (hc rfl)) st (by have:n<=i:=hg;omega) fun h' eb=>⟨rfl,I.turned (t':=s.toks) (fun b o hb e=>eb b o hb e) f0 f1 f3 f4 f5⟩
 self:=fun _ _ _ _ _ st h=>wpAny_pyIter_rangeiter st h
end L2
namespace L2
open PySem PySem.Spec PyProof.Rows
section
variable {X:Cx}{tg:Expr}
noncomputable def Ru(K:PySem.W.Frag)(tl:TE):TI:=fun σ H R=>tl σ H fun x H1=>∃a,x = .ref a/\(∃xs,SqL K H1 a xs)/\R (Itl K a) H1
noncomputable def Tq(K:PySem.W.Frag)(tl:TE):TI:=fun σ H R=>tl σ H fun x H1=>∃a,x = .ref a/\(∃xs,SqT K H1 a xs)/\R (Itt K a) H1
theorem NO{l:Expr}{tl:TE}(hl:PE X l tl):PI X tg l (Ru X.K tl):=by
 intro pins s σ H R I h
 refine thn (hl pins s σ H _ I h) fun v s1 hq0=>?_
 obtain⟨x,H1,I1,r1,q1⟩:=hq0
 obtain⟨a,e,⟨xs,hq⟩,q⟩:=q1
 subst e
 cases r1
 obtain⟨its,rv,p,hz⟩:=I1.list hq
 refine wpAny_pyIter_list p.isList ?_
 refine⟨s1.heap.objs.size,[s1.heap.objs.size],_,_,H1,rfl,I1.kept (t':=s1.toks) fun b o e=>Heap.get?_push_of_some _ e,Iu a _,⟨_,Heap.get?_push_size _ rfl,rfl,rfl⟩,fun b hb=>?_,q⟩
 have e:b=s1.heap.objs.size:=by simpa using hb
 subst e
 exact I1.Ls (le_refl _) (I1.hok.fresh (le_refl _))
theorem QN{l:Expr}{tl:TE}(hl:PE X l tl):PI X tg l (Tq X.K tl):=by
 intro pins s σ H R I h
 refine thn (hl pins s σ H _ I h) fun v s1 hq0=>?_
 obtain⟨x,H1,I1,r1,q1⟩:=hq0
 obtain⟨a,e,⟨xs,hq⟩,q⟩:=q1
 subst e
 cases r1
 obtain⟨its,rv,p,hz⟩:=I1.tuple hq
 refine wpAny_pyIter_tuple (show s1.heap.IsTuple a its.toArray from p) ?_
 refine⟨s1.heap.objs.size,[s1.heap.objs.size],_,_,H1,rfl,I1.kept (t':=s1.toks) fun b o e=>Heap.get?_push_of_some _ e,Fy a _,⟨_,Heap.get?_push_size _ rfl,rfl,rfl⟩,fun b hb=>?_,q⟩
 have e:b=s1.heap.objs.size:=by simpa using hb
 subst e
 exact I1.Ls (le_refl _) (I1.hok.fresh (le_refl _))
theorem CN(hc:X.calm=true){pins:List (Addr×Obj)}{σ:St}{H:Hp}{s:Shared}{R:It->Hp->Prop}{E:Value->Shared->Prop}{lo hi:Int}{t u v:Tok}{tk:Nat}(I:Inv X pins σ H s)(h1:-(2 ^ 62)<=lo)(h2:lo<2 ^ 62)(h3:-(2 ^ 62)<=hi)(h4:hi<2 ^ 62)
  (q:R (Itr lo (hi-lo).toNat) H):wpAny (model X.prog X.w) X.A (pyIter (.ref s.heap.objs.size)) (PIE X pins σ tg R) E {s with heap:=s.heap.push {cls:=.type "range",data:=.fields #[.int lo t,.int hi u,.int 1 v]},toks:=tk}:=by
 refine wpAny_pyIter_range (IsRange.new ..) (small_one h1 h2 h3 h4) ?_
 have I1:Inv X pins σ H {s with heap:=s.heap.push {cls:=.type "range",data:=.fields #[.int lo t,.int hi u,.int 1 v]},toks:=tk}:=I.kept fun b o e=>Heap.get?_push_of_some _ e
 refine⟨(s.heap.push {cls:=.type "range",data:=.fields #[.int lo t,.int hi u,.int 1 v]}).objs.size,[(s.heap.push {cls:=.type "range",data:=.fields #[.int lo t,.int hi u,.int 1 v]}).objs.size],_,_,H,rfl,
  I1.kept (t':=tk) fun b o e=>Heap.get?_push_of_some _ e,(Fu _ lo (hi-lo).toNat).calm hc,?_,fun b hb=>?_,q⟩
 ·have e1:lo+((0:Nat):Int)*1=lo:=by simp
  have e2:(((hi-lo).toNat:Nat):Int)-((0:Nat):Int)=Builtin.Range.rangeSize lo hi 1:=by rw[rangeSize_one];split<;>omega
  show IsRangeIter _ _ (lo+((0:Nat):Int)*1) ((((hi-lo).toNat:Nat):Int)-((0:Nat):Int)) 1
  rw[e1,e2]
  exact Heap.get?_push_size _ rfl
 ·have e:b=(s.heap.push {cls:=.type "range",data:=.fields #[.int lo t,.int hi u,.int 1 v]}).objs.size:=by simpa using hb
  subst e
  exact I1.Ls (le_refl _) (I1.hok.fresh (le_refl _))
noncomputable def R0(ta:TA):TI:=fun σ H R=>ta σ H fun vs H1=>∃j:Int,vs=[.int j]/\-(2 ^ 62)<=j/\j<2 ^ 62/\R (Itr 0 j.toNat) H1
noncomputable def Se(ta:TA):TI:=fun σ H R=>ta σ H fun vs H1=>∃i j:Int,vs=[.int i,.int j]/\(-(2 ^ 62)<=i/\i<2 ^ 62/\-(2 ^ 62)<=j/\j<2 ^ 62)/\R (Itr i (j-i).toNat) H1
theorem Ir{a:Expr}{ta:TA}{p pos:Pos}(hc:X.calm=true)(hg:Gl X "range")(hm:X.mg "range"=none)(ha:PA X [a] ta)(hs:starEach [a] X.env=[(false,eval a X.env)]:=by rfl):PI X tg (.Call (.Name "range" p) [a] [] pos) (R0 ta):=by
 intro pins s σ H R I h
 refine Call_ (qr I hg hm boot_range (PyProof.Rows.callWith_type1 (thn (ha pos pins s σ H _ I h) fun us s1 hq0=>?_) hs rfl))
 obtain⟨vs,H1,I1,r1,q1⟩:=hq0
 obtain⟨j,e,q1,q2,q⟩:=q1
 subst e
 cases r1 with
 |cons r rr=>
  cases rr
  obtain⟨t,rfl⟩:=r
  exact call_range_1 (CN hc I1 ∅ ∅ q1 q2 (by simpa using q))
theorem HN{a b:Expr}{ta:TA}{p pos:Pos}(hc:X.calm=true)(hg:Gl X "range")(hm:X.mg "range"=none)(ha:PA X [a,b] ta)(hs:starEach [a,b] X.env=[(false,eval a X.env),(false,eval b X.env)]:=by rfl)(hs2:starEach [b] X.env=[(false,eval b X.env)]:=by rfl) :
  PI X tg (.Call (.Name "range" p) [a,b] [] pos) (Se ta):=by
 intro pins s σ H R I h
 refine Call_ (qr I hg hm boot_range (PyProof.Rows.callWith_type1 (thn (ha pos pins s σ H _ I h) fun us s1 hq0=>?_) (by rw[hs,hs2]) (by rw[hs2];rfl)))
 obtain⟨vs,H1,I1,r1,q1⟩:=hq0
 obtain⟨i,j,e,⟨q1,q2,q3,q4⟩,q⟩:=q1
 subst e
 cases r1 with
 |cons r rr=>
  cases rr with
  |cons r' rr=>
   cases rr
   obtain⟨t,rfl⟩:=r
   obtain⟨t',rfl⟩:=r'
   exact call_range_2 (CN hc I1 q1 q2 q3 q4 q)
noncomputable def SG(wi:TI)(g:TG)(tb:TS):TS:=fun D σ H=>wi σ H fun J H1=>∃W:Nat->Nat->St->Hp->Prop,(∃m,W 0 m σ H1)/\∀i m σ H,W i m σ H ->
 (J.stop i H/\D.nx σ H)\/(J.go i H/\∃N:St->Hp->Prop,(∀db H',N db H'->∃m',m'<m/\W (i+1) m' db H')/\∀x H',J.yld i H x H'->g x σ H' fun wn H2=>tb {D with nx:=N,ct:=N,bk:=D.nx} wn H2)
noncomputable def AF(fp:List Addr)(h:Heap):List (Addr×Obj):=fp.filterMap fun b=>(h.get? b).map fun o=>(b,o)
theorem fE{fp:List Addr}{h:Heap}{b:Addr}{o:Obj}(hb:b∈fp)(e:h.get? b=some o):(b,o)∈AF fp h:=List.mem_filterMap.mpr ⟨b,hb,by rw[e];rfl⟩
theorem Ih{fp:List Addr}{h:Heap}{p:Addr×Obj}(hp:p∈AF fp h):p.1∈fp/\h.get? p.1=some p.2:=by
 obtain⟨b,hb,e⟩:=List.mem_filterMap.mp hp
 cases q:h.get? b with
 |none=>rw[q] at e;cases e
 |some o=>
  rw[q] at e
  have e':(b,o)=p:=Option.some.inj e
  subst e'
  exact⟨hb,q⟩
theorem Inv.pinned{pins:List (Addr×Obj)}{σ:St}{H:Hp}{s:Shared}{fp:List Addr}(I:Inv X pins σ H s)(hf:∀b∈fp,x9 X pins H b)(ho:∀b∈fp,∃o,s.heap.get? b=some o/\∀v,o.data≠.cell v):Inv X (pins++AF fp s.heap) σ H s:=
 I.FK fun p hp=>(List.mem_append.mp hp).elim (fun z=>I.pin p (mem_append_right _ z)) fun z=>by
  obtain⟨hb,e⟩:=Ih z
  obtain⟨f0,f1,f2,_⟩:=hf p.1 hb
  obtain⟨o,e',d⟩:=ho p.1 hb
  rw[e] at e';cases e'
  exact⟨e,f0,f1,f2,d⟩
theorem Inv.kA{pins pl:List (Addr×Obj)}{σ:St}{H:Hp}{s:Shared}(I:Inv X (pins++pl) σ H s):Inv X pins σ H s:=I.FK fun p hp=>I.pin p (mem_append_right _ (mem_append_left _ hp))
theorem OF{iter:Expr}{body:List Stmt}{wi:TI}{g:TG}{tb:TS}{pos:Pos}(hp:PassesOwn (model X.prog X.w) X.A X.env X.xe)(hc:X.calm=true)(hi:PI X tg iter wi)(hg:PG X tg g)(hb:PSs X body tb)
  (hs:∀x,foldedSetIterable iter X.env x=pure x:=by intro _;rfl):PS X (.For tg iter body [] pos) (SG wi g tb):=by
 intro pins s σ H D I h
 refine wpAny_For (thn (hi pins s σ H _ I h) fun v s1 h1=>thn h1 fun itv s2 h2=>?_) hs
 obtain⟨it,fp,tn,J,H2,e,I2,T,st2,f2,W,⟨m0,w0⟩,turn⟩:=h2
 subst e
 have stat:∀{H':Hp},(∀b∈fp,H' b=none)->∀b∈fp,x9 X pins H' b:=fun hn b hb=>⟨hn b hb,(f2 b hb).2⟩
 refine codeAny_forLoop_any (fun n s'=>∃i db H',Inv X pins db H' s'/\tn i s'.heap/\(∀b∈fp,H' b=none)/\W i n db H') ?_ m0 ⟨0,σ,H2,I2,st2,fun b hb=>(f2 b hb).1,w0⟩
 rintro n s3 ⟨i,o0,H3,I3,st3,fr3,w3⟩
 rcases turn i n o0 H3 w3 with ⟨stop,qn⟩|⟨go,N,hN,step⟩
 ·refine wpAny_passesOwn hp (thn (T.done X rfl rfl rfl (fun z=>z) i pins s3 o0 H3 X.xe I3 (stat fr3) st3 stop) fun r s4 hq0=>?_)
  obtain⟨hr,I4⟩:=hq0
  subst hr
  exact wpAny_execs_nil ⟨o0,H3,I4,qn⟩
 ·refine wpAny_passesOwn hp (thn (T.item X rfl rfl rfl (fun z=>z) i pins s3 o0 H3 X.xe I3 (stat fr3) st3 go) fun r s4 hq0=>?_)
  obtain⟨u,hr,h4⟩:=hq0
  subst hr
  refine wpAny_passesOwn hp (thn h4 fun _ s5 hq0=>?_)
  obtain⟨x,H5,I5,r5,y5,st5,fr5⟩:=hq0
  have I5':=I5.pinned (stat fr5) (T.obj _ _ st5)
  refine wpAny_passesOwn hp (thn (hg _ s5 o0 H5 x u _ I5' r5 (step x H5 y5)) fun _ s6 hq0=>?_)
  obtain⟨ut,H6,I6,q6⟩:=hq0
  refine wpAny_passesOwn hp (thn (hb _ s6 ut H6 _ I6 q6) fun f s7 q7=>?_)
  have again:∀{pi:St} {H7:Hp},Inv X (pins++AF fp s5.heap) pi H7 s7->N pi H7->∃m,m<n/\∃i db H',Inv X pins db H' s7/\tn i s7.heap/\(∀b∈fp,H' b=none)/\W i m db H':=fun {pi H7} I7 n7=>by
   obtain⟨m',hm,w7⟩:=hN pi H7 n7
   refine⟨m',hm,i+1,pi,H7,I7.kA,T.keep _ _ _ st5 fun b hb o e=>(I7.pin (b,o) (mem_append_right _ (mem_append_right _ (fE hb e)))).1,fun b hb=>?_,w7⟩
   obtain⟨o,e,d⟩:=T.obj _ _ st5 b hb
   exact (I7.pin (b,o) (mem_append_right _ (mem_append_right _ (fE hb e)))).2.1
  cases f with
  |next=>obtain⟨pi,H7,I7,n7⟩:=q7;exact again I7 n7
  |cont=>obtain⟨pi,H7,I7,n7⟩:=q7;exact again I7 n7
  |brk=>obtain⟨pi,H7,I7,q7⟩:=q7;exact⟨pi,H7,I7.kA,q7⟩
  |ret v=>obtain⟨x7,pi,H7,I7,r7,q7⟩:=q7;exact⟨x7,pi,H7,I7.kA,r7,q7⟩
end
end L2
namespace L2
open PySem PySem.Spec PyProof.Rows
noncomputable abbrev R2:=V->V->Hp->VK->Prop
noncomputable def OpR(X:Cx)(f:Value->Value->Sem Value)(r:R2):Prop:=
 ∀(pins:List (Addr×Obj)) (s:Shared) (σ:St) (H:Hp) (x y:V) (v u:Value) (Q:VK),Inv X pins σ H s->RelV x v->RelV y u->r x y H Q ->
  wpAny (model X.prog X.w) X.A (f v u) (EP X pins σ Q) X.xe s
noncomputable def UnR(X:Cx)(f:Value->Sem Value)(r:V->Hp->VK->Prop):Prop:=
 ∀(pins:List (Addr×Obj)) (s:Shared) (σ:St) (H:Hp) (x:V) (v:Value) (Q:VK),Inv X pins σ H s->RelV x v->r x H Q ->
  wpAny (model X.prog X.w) X.A (f v) (EP X pins σ Q) X.xe s
noncomputable def jA(X:Cx)(f:Value)(r:List V->Hp->VK->Prop):Prop:=
 ∀(pins:List (Addr×Obj)) (s:Shared) (σ:St) (H:Hp) (xs:List V) (us:List Value) (Q:VK),Inv X pins σ H s->Vals xs us->r xs H Q ->
  wpAny (model X.prog X.w) X.A (call f us) (EP X pins σ Q) X.xe s
noncomputable def tOp(r:R2)(ta tb:TE):TE:=fun σ H Q=>ta σ H fun x H1=>tb σ H1 fun y H2=>r x y H2 Q
noncomputable def tUn(r:V->Hp->VK->Prop)(ta:TE):TE:=fun σ H Q=>ta σ H fun x H1=>r x H1 Q
noncomputable def rI(C:Int->Int->Prop)(g:Int->Int->V):R2:=fun x y H Q=>∃i j,x = .int i/\y = .int j/\C i j/\Q (g i j) H
noncomputable def rI0(g:Int->Int->V):R2:=fun x y H Q=>∃i j,x = .int i/\y = .int j/\Q (g i j) H
noncomputable def rU(g:Int->V):V->Hp->VK->Prop:=fun x H Q=>∃i,x = .int i/\Q (g i) H
section
variable {X:Cx}{a b c:Expr}{ta tb tc:TE}{pos:Pos}
theorem Qb(ha:PE X a ta)(hb:PE X b tb){pins:List (Addr×Obj)}{s:Shared}{σ:St}{H:Hp}{R:V->V->Hp->Prop}(I:Inv X pins σ H s)
  (h:ta σ H fun x H1=>tb σ H1 fun y H2=>R x y H2) {Q:Value->Shared->Prop} {f:Value->Value->Sem Value}
  (hf:∀v u s2 x y H2,Inv X pins σ H2 s2->RelV x v->RelV y u->R x y H2->wpAny (model X.prog X.w) X.A (f v u) Q X.xe s2) :
  wpAny (model X.prog X.w) X.A (eval a X.env) (fun v gV=>wpAny (model X.prog X.w) X.A (eval b X.env) (fun u ln=>wpAny (model X.prog X.w) X.A (f v u) Q X.xe ln) X.xe gV) X.xe s:=by
 refine thn (ha pins s σ H _ I h) fun v s1 hq0=>?_
 obtain⟨x,H1,I1,r1,q1⟩:=hq0
 refine thn (hb pins s1 σ H1 _ I1 q1) fun u s2 hq0=>?_
 obtain⟨y,H2,I2,r2,q2⟩:=hq0
 exact hf v u s2 x y H2 I2 r1 r2 q2
theorem R6{op:Operator}{r:R2}(ho:OpR X (binaryOp op) r)(ha:PE X a ta)(hb:PE X b tb):PE X (.BinOp a op b pos) (tOp r ta tb):=by
 intro pins s σ H Q I h
 exact wpAny_BinOp (Qb ha hb I h fun v u s2 x y H2 I2 rx ry q=>ho pins s2 σ H2 x y v u Q I2 rx ry q)
theorem Rl{op:UnaryOp}{r:V->Hp->VK->Prop}(ho:UnR X (unaryOp op) r)(ha:PE X a ta):PE X (.UnaryOp op a pos) (tUn r ta):=by
 intro pins s σ H Q I h
 exact UnaryOp_ (thn (ha pins s σ H _ I h) fun v s1 ⟨x,H1,I1,r1,q1⟩=>ho pins s1 σ H1 x v Q I1 r1 q1)
theorem opI{f:Value->Value->Sem Value}{C:Int->Int->Prop}{g:Int->Int->Int}
  (rule:∀(i j:Int) (t u:Tok) (s:Shared) (Q:Value->Shared->Prop) (E:Value->Shared->Prop),C i j->Q (.int (g i j) s.toks) {s with toks:=s.toks+1}->wpAny (model X.prog X.w) X.A (f (.int i t) (.int j u)) Q E s) :
  OpR X f (rI C fun i j=>.int (g i j)):=by
 intro pins s σ H x y v u Q I rx ry h
 obtain⟨i,j,rfl,rfl,hc,q⟩:=h
 obtain⟨t,rfl⟩:=rx
 obtain⟨t',rfl⟩:=ry
 exact rule i j t t' s _ _ hc ⟨.int (g i j),H,I.tok _,⟨_,rfl⟩,q⟩
theorem Q9{f:Value->Value->Sem Value}{g:Int->Int->Int}
  (rule:∀(i j:Int) (t u:Tok) (s:Shared) (Q:Value->Shared->Prop) (E:Value->Shared->Prop),Q (.int (g i j) s.toks) {s with toks:=s.toks+1}->wpAny (model X.prog X.w) X.A (f (.int i t) (.int j u)) Q E s) :
  OpR X f (rI0 fun i j=>.int (g i j)):=by
 intro pins s σ H x y v u Q I rx ry h
 obtain⟨i,j,rfl,rfl,q⟩:=h
 obtain⟨t,rfl⟩:=rx
 obtain⟨t',rfl⟩:=ry
 exact rule i j t t' s _ _ ⟨.int (g i j),H,I.tok _,⟨_,rfl⟩,q⟩
theorem Nk{f:Value->Value->Sem Value}{g:Int->Int->Bool}
  (rule:∀(i j:Int) (t u:Tok) (s:Shared) (Q:Value->Shared->Prop) (E:Value->Shared->Prop),Q (.bool (g i j)) s->wpAny (model X.prog X.w) X.A (f (.int i t) (.int j u)) Q E s) :
  OpR X f (rI0 fun i j=>.bl (g i j)):=by
 intro pins s σ H x y v u Q I rx ry h
 obtain⟨i,j,rfl,rfl,q⟩:=h
 obtain⟨t,rfl⟩:=rx
 obtain⟨t',rfl⟩:=ry
 exact rule i j t t' s _ _ ⟨.bl (g i j),H,I,rfl,q⟩
noncomputable def Qk(i j:Int):Prop:=0<=j/\j<=1000000/\i.natAbs<2 ^ 64
noncomputable def Mp(i j:Int):Prop:=(-(2 ^ 64)<i/\i<2 ^ 64)\/(-(2 ^ 64)<j/\j<2 ^ 64)
theorem Mp.ok{i j:Int}(h:Mp i j):IntMulOk i j:=by
 rcases h with ⟨h1,h2⟩|⟨h1,h2⟩
 ·exact .of_left (intBits_le_64 h1 h2)
 ·exact .of_right (intBits_le_64 h1 h2)
theorem Kh:OpR X (binaryOp .Add) (rI0 fun i j=>.int (i+j)):=Q9 fun _ _ _ _ _ _ _ q=>add_int q
theorem Qg:OpR X (binaryOp .Sub) (rI0 fun i j=>.int (i-j)):=Q9 fun _ _ _ _ _ _ _ q=>sub_int q
theorem Nn:OpR X (binaryOp .Mod) (rI (fun _ j=>j≠0) fun i j=>.int (i.fmod j)):=opI fun _ _ _ _ _ _ _ hc q=>mod_int' hc q
theorem Po:OpR X (binaryOp .Pow) (rI Qk fun i j=>.int (i ^ j.toNat)):=opI fun _ _ _ _ _ _ _ hc q=>pow_int_small hc.1 hc.2.1 hc.2.2 q
theorem unI{f:Value->Sem Value}{g:Int->Int}
  (rule:∀(i:Int) (t:Tok) (s:Shared) (Q:Value->Shared->Prop) (E:Value->Shared->Prop),Q (.int (g i) s.toks) {s with toks:=s.toks+1}->wpAny (model X.prog X.w) X.A (f (.int i t)) Q E s) :
  UnR X f (rU fun i=>.int (g i)):=by
 intro pins s σ H x v Q I rx h
 obtain⟨i,rfl,q⟩:=h
 obtain⟨t,rfl⟩:=rx
 exact rule i t s _ _ ⟨.int (g i),H,I.tok _,⟨_,rfl⟩,q⟩
theorem P6:UnR X (unaryOp .USub) (rU fun i=>.int (-i)):=unI fun _ _ _ _ _ q=>neg_int q
end
section
variable {X:Cx}{a b c:Expr}{ta tb tc:TE}{pos:Pos}
theorem mh:OpR X (compareOp .Lt) (rI0 fun i j=>.bl (decide (i<j))):=Nk fun _ _ _ _ _ _ _ q=>lt_int q
theorem Oh:OpR X (compareOp .LtE) (rI0 fun i j=>.bl (decide (i<=j))):=Nk fun _ _ _ _ _ _ _ q=>le_int q
theorem pQ:OpR X (compareOp .Gt) (rI0 fun i j=>.bl (decide (j<i))):=Nk fun _ _ _ _ _ _ _ q=>gt_int q
theorem Es:OpR X (compareOp .GtE) (rI0 fun i j=>.bl (decide (j<=i))):=Nk fun _ _ _ _ _ _ _ q=>ge_int q
theorem OpR.or{f:Value->Value->Sem Value}{r r':R2}(h:OpR X f r)(h':OpR X f r'):OpR X f (fun x y H Q=>r x y H Q\/r' x y H Q):=by
 intro pins s σ H x y v u Q I rx ry q
 rcases q with q|q
 ·exact h pins s σ H x y v u Q I rx ry q
 ·exact h' pins s σ H x y v u Q I rx ry q
theorem aU(b:Expr){op:CmpOp}(h:op≠.In:=by decide)(h2:op≠.NotIn:=by decide):behindInMarks op b=false:=by
 have e1:(op==CmpOp.In)=false:=by cases op<;>first|rfl|exact absurd rfl h
 have e2:(op==CmpOp.NotIn)=false:=by cases op<;>first|rfl|exact absurd rfl h2
 cases b<;>simp[behindInMarks,e1,e2]
theorem L7{op:CmpOp}{r:R2}(ho:OpR X (compareOp op) r)(ha:PE X a ta)(hb:PE X b tb)(hm:behindInMarks op b=false):PE X (.Compare a [op] [b] pos) (tOp r ta tb):=by
 intro pins s σ H Q I h
 exact wpAny_Compare1 (Qb ha hb I h fun v u s2 x y H2 I2 rx ry q=>ho pins s2 σ H2 x y v u Q I2 rx ry q) hm
noncomputable def NU(t:TE):TT:=fun σ H Q=>t σ H fun x H'=>∃k,x = .bl k/\Q k H'
theorem Mi{op:CmpOp}{r:R2}(ho:OpR X (compareOp op) r)(ha:PE X a ta)(hb:PE X b tb)(hm:behindInMarks op b=false):PT X (.Compare a [op] [b] pos) (NU (tOp r ta tb)):=by
 intro pins s σ H Q I h
 refine wpAny_isTrue_Compare1 (thn (ha pins s σ H _ I h) fun v s1 ⟨x,H1,I1,r1,q1⟩=>thn (hb pins s1 σ H1 _ I1 q1) fun u s2 ⟨y,H2,I2,r2,q2⟩=>
  thn (ho pins s2 σ H2 x y v u _ I2 r1 r2 q2) fun c s3 ⟨z,H3,I3,r3,k,e,q3⟩=>?_) hm
 subst e
 cases r3
 exact wpAny_truthy_bool ⟨H3,I3,q3⟩
theorem wO:(sizeLine:Nat)<2 ^ 63:=by rw[sizeLine_eq];decide
theorem vals1{x:V}{us:List Value}(r:Vals [x] us):∃u,us=[u]/\RelV x u:=by
 cases r with
 |cons r1 r2=>cases r2;exact⟨_,rfl,r1⟩
theorem vals2{x y:V}{us:List Value}(r:Vals [x,y] us):∃u w',us=[u,w']/\RelV x u/\RelV y w':=by
 cases r with
 |cons r1 r2=>
  cases r2 with
  |cons r3 r4=>cases r4;exact⟨_,_,rfl,r1,r3⟩
theorem Jn:jA X (.builtin "abs") (fun xs H Q=>∃i,xs=[.int i]/\Q (.int (if i<0 then -i else i)) H):=by
 intro pins s σ H xs us Q I r h
 obtain⟨i,rfl,q⟩:=h
 obtain⟨u,rfl,t,rfl⟩:=vals1 r
 exact call_abs_int fun u tk=>⟨.int (if i<0 then -i else i),H,I.tok _,⟨_,rfl⟩,q⟩
theorem IG(hc:X.calm=true):jA X (.builtin "max") (fun xs H Q=>∃i j,xs=[.int i,.int j]/\Q (.int (if j>i then j else i)) H):=by
 intro pins s σ H xs us Q I r h
 obtain⟨i,j,rfl,q⟩:=h
 obtain⟨u,w',rfl,⟨t,rfl⟩,⟨t',rfl⟩⟩:=vals2 r
 refine max_two_ints (I.ok.hd hc) fun h' tk k=>⟨_,H,I.kept k,?_,q⟩
 by_cases hj:j>i
 ·rw[if_pos hj,if_pos hj];exact⟨_,rfl⟩
 ·rw[if_neg hj,if_neg hj];exact⟨_,rfl⟩
theorem IM(hc:X.calm=true):jA X (.builtin "min") (fun xs H Q=>∃i j,xs=[.int i,.int j]/\Q (.int (if j<i then j else i)) H):=by
 intro pins s σ H xs us Q I r h
 obtain⟨i,j,rfl,q⟩:=h
 obtain⟨u,w',rfl,⟨t,rfl⟩,⟨t',rfl⟩⟩:=vals2 r
 refine min_two_ints (I.ok.hd hc) fun h' tk k=>⟨_,H,I.kept k,?_,q⟩
 by_cases hj:j<i
 ·rw[if_pos hj,if_pos hj];exact⟨_,rfl⟩
 ·rw[if_neg hj,if_neg hj];exact⟨_,rfl⟩
theorem IQ:jA X (.type "int") (fun xs H Q=>(∃i,xs=[.int i]/\Q (.int i) H)\/∃k,xs=[.bl k]/\Q (.int (if k then 1 else 0)) H):=by
 intro pins s σ H xs us Q I r h
 rcases h with ⟨i,rfl,q⟩|⟨k,rfl,q⟩
 ·obtain⟨u,rfl,t,rfl⟩:=vals1 r
  exact call_int_int ⟨.int i,H,I,⟨_,rfl⟩,q⟩
 ·obtain⟨u,rfl,r1⟩:=vals1 r
  cases r1
  exact call_int_bool ⟨.int (if k then 1 else 0),H,I.tok _,⟨_,rfl⟩,q⟩
end
end L2
namespace L2
open PySem PySem.Spec PyProof.Rows
end L2
namespace L2
open PySem PySem.Spec PyProof.Rows
structure fV(k:Nat)(A:Around):Prop where
 hd:A.handled=none
 dp:A.depth+3*k+5<recursionLimit
 un:A.units+16*k+200<cLine
theorem fV.mono{j k:Nat}{A:Around}(r:fV k A)(h:j<=k):fV j A:=⟨r.hd,by have:=r.dp;omega,by have:=r.un;omega⟩
theorem fV.deeper{k:Nat}{A:Around}(r:fV (k+1) A)(env:Env):fV k (A.deeper env):=
 ⟨r.hd,by have:=r.dp;show A.depth+1+3*k+5<_;omega,by have:=r.un;show A.units+3+16*k+200<_;omega⟩
theorem fV.depth{k:Nat}{A:Around}(r:fV k A):A.depth<recursionLimit:=by have:=r.dp;omega
theorem fV.units{k:Nat}{A:Around}(r:fV k A):A.units+64<cLine:=by have:=r.un;omega
noncomputable def Td:TA:=fun _ H Q=>Q [] H
noncomputable def Rf(ta:TE)(tr:TA):TA:=fun σ H Q=>ta σ H fun x H1=>tr σ H1 fun xs H2=>Q (x::xs) H2
section
variable {X:Cx}{e:Expr}{es:List Expr}{te:TE}{t:TA}{pos:Pos}
theorem lN:PA X [] Td:=fun _ _ _ _ H Q I h=>Calls.spliced_nil ⟨[],H,I,.nil,h⟩
theorem eO(ha:PE X e te)(hr:PA X es t)(hs:starEach (e::es) X.env=(false,eval e X.env)::starEach es X.env:=by rfl):PA X (e::es) (Rf te t):=by
 intro pos pins s σ H Q I h
 rw[hs]
 show wpAny _ _ (spliced ((false,eval e X.env)::backTo pos (starEach es X.env))) _ _ s
 refine Calls.spliced_cons (thn (ha pins s σ H _ I h) fun u s1 hq0=>?_)
 obtain⟨x,H1,I1,r1,q1⟩:=hq0
 exact thn (hr pos pins s1 σ H1 _ I1 q1) fun us s2 ⟨xs,H2,I2,r2,q2⟩=>⟨x::xs,H2,I2,.cons r1 r2,q2⟩
noncomputable def Sx(t:TA):TE:=fun σ H Q=>t σ H fun xs H1=>xs.length<=sizeLine/\∀p,H1 p=none->Q (.ref p) (upd H1 p (.tup xs))
noncomputable def Tr(t:TA):TE:=fun σ H Q=>t σ H fun xs H1=>xs.length<=sizeLine/\∀p,H1 p=none->Q (.ref p) (upd H1 p (.lst xs))
theorem KQ{x1}(h:PA X es t):PE X (.Tuple es x1 pos) (Sx t):=by
 intro pins s σ H Q I hq
 refine wpAny_Tuple_spliced (thn (h pos pins s σ H _ I hq) fun us s1 ⟨xs,H1,I1,r,z,q⟩=>⟨by rw[<- r.length];exact z,?_⟩)
 have hf:H1 s1.heap.objs.size=none:=I1.hok.fresh (le_refl _)
 refine⟨.ref s1.heap.objs.size,upd H1 s1.heap.objs.size (.tup xs),I1.laid (t':=s1.toks) (fun b u e=>Heap.get?_push_of_some _ e) (le_refl _) ?_,rfl,q _ hf⟩
 exact⟨z,us,r,⟨_,Heap.get?_push_size _ rfl,rfl,_,rfl⟩⟩
theorem OD(h:PA X es t):PE X (.List es pos) (Tr t):=by
 intro pins s σ H Q I hq
 refine wpAny_List_spliced (thn (h pos pins s σ H _ I hq) fun us s1 ⟨xs,H1,I1,r,z,q⟩=>⟨by rw[<- r.length];exact z,?_⟩)
 have hf:H1 s1.heap.objs.size=none:=I1.hok.fresh (le_refl _)
 refine⟨.ref s1.heap.objs.size,upd H1 s1.heap.objs.size (.lst xs),I1.laid (t':=s1.toks) (fun b u e=>Heap.get?_push_of_some _ e) (le_refl _) ?_,rfl,q _ hf⟩
 exact⟨z,us,0,r,Heap.get?_push_size _ rfl⟩
end
noncomputable abbrev Sp:=List V->Hp->VK->XK->Prop
noncomputable abbrev CXT:=List Env->Hp->Shared->XK->Value->Shared->Prop
structure EA(P:Program)(w:World)(K:PySem.W.Frag)(mg:Str->Option Value)(base:Heap)(A:Around)(outer:List Env)(s:Shared)(H:Hp):Prop where
 frames:A.frames=some outer
 mod:Mod K mg base
 bs:∀b o,base.get? b=some o->s.heap.get? b=some o/\H b=none
 bsz:base.objs.size<=s.heap.objs.size
 qu:s.heap.FunFrames base outer
 frf:∀b∈frs outer,H b=none
 hok:HOk P w H s.heap
 bare:AllBare s.gens
noncomputable def CE(outer:List Env)(P:Program)(w:World)(H:Hp)(s:Shared)(Q:VK)(u:Value)(s':Shared):Prop:=
 ∃v H',s'.os=s.os/\AllBare s'.gens/\Un (frs outer) [] H H' s.heap s'.heap/\HOk P w H' s'.heap/\RelV v u/\Q v H'
noncomputable def CR(CX:CXT)(outer:List Env)(P:Program)(w:World)(H:Hp)(s:Shared)(Q:VK)(E:XK)(r:Result)(s':Shared):Prop:=
 match r with
 |.ok (.ret u)=>CE outer P w H s Q u s'
 |.ok _=>False
 |.error e=>CX outer H s E e s'
structure iy(P:Program)(w:World)(K:PySem.W.Frag)(mg:Str->Option Value)(base:Heap)(CX:CXT)(k:Nat)(f:Addr)(fd:FuncData)(ps:List Str)(sp:Sp):Prop where
 len:∀vs H Q E,sp vs H Q E->vs.length=ps.length
 run:∀(A:Around) (outer:List Env) (s:Shared) (H:Hp) (args:Args) (us:List Value) (vs:List V) (Q:VK) (E:XK),fV k A->EA P w K mg base A outer s H->BindsTo s fd args (ps.zip us)->Vals vs us->sp vs H Q E ->
  codeAny (model P w) A (.call (.ref f) args) (CR CX outer P w H s Q E) s
theorem iy.imp{P:Program}{w:World}{K:PySem.W.Frag}{mg:Str->Option Value}{base:Heap}{CX:CXT}{k:Nat}{f:Addr}{fd:FuncData}{ps:List Str}{sp sp':Sp}(F:iy P w K mg base CX k f fd ps sp)
  (h:∀vs H Q E,sp' vs H Q E->sp vs H Q E):iy P w K mg base CX k f fd ps sp':=
 ⟨fun vs H Q E q=>F.len vs H Q E (h _ _ _ _ q),fun A outer s H args us vs Q E hr he hb hv hs=>F.run A outer s H args us vs Q E hr he hb hv (h _ _ _ _ hs)⟩
section
variable {X:Cx}{pins:List (Addr×Obj)}{σ:St}{H:Hp}{s s':Shared}
theorem Inv.QK(I:Inv X pins σ H s):EA X.prog X.w X.K X.mg X.base X.A X.stack s H:=
 ⟨I.ok.frames,I.ok.mod,I.bs,le_trans I.ok.bsz I.sz,I.stack,I.A3,I.hok,I.bare⟩
theorem Inv.after{Q:VK}{u:Value}(I:Inv X pins σ H s)(h:CE X.stack X.prog X.w H s Q u s'):EP X pins σ Q u s':=by
 obtain⟨v,H',os,bare,un,hok,r,q⟩:=h
 obtain⟨hh,g,d,t,os'⟩:=s'
 obtain rfl:os'=s.os:=os
 exact⟨v,H',I.call (h':=hh) (g':=g) (d':=d) (t':=t) (ch:=[]) un hok bare (fun b z=>absurd z (by simp)),r,q⟩
end
noncomputable def RN(sp:Sp)(dvs:List V)(E:XK)(t:TA):TE:=fun σ H Q=>t σ H fun vs H1=>sp (vs++dvs) H1 Q E
noncomputable def Binds(K:PySem.W.Frag)(fd:FuncData)(ps:List Str)(ds:List Value):Prop:=
 ∀(s:Shared) (us:List Value),K.In s.heap->(us++ds).length=ps.length->BindsTo s fd ⟨us,[]⟩ (ps.zip (us++ds))
theorem Binds.all{K:PySem.W.Frag}{fd:FuncData}{ps:List Str}(h:∀us:List Value,us.length=ps.length->bindArgs fd ⟨us,[]⟩=pure (ps.zip us)):Binds K fd ps []:=fun s us _ hl=>by
 rw[append_nil] at hl ⊢
 exact .of_eq (h us hl)
noncomputable def Passes(CX:CXT)(X:Cx)(E:XK):Prop:=∀(pins:List (Addr×Obj)) (σ:St) (H:Hp) (s:Shared) (e:Value) (s':Shared),Inv X pins σ H s->CX X.stack H s E e s'->X.xe e s'
section
variable {X:Cx}{CX:CXT}{k:Nat}{f C:Addr}{fd:FuncData}{ps:List Str}{sp:Sp}{dvs:List V}{ds:List Value}{E:XK}{x m:Str}{p pos apos:Pos}{e o:Expr}{es:List Expr}{ta:TE}{t:TA}
theorem Qh{pins:List (Addr×Obj)}{σ:St}{H:Hp}{s:Shared}{Q:VK}{us:List Value}{vs:List V}(F:iy X.prog X.w X.K X.mg X.base CX k f fd ps sp)(hr:fV k X.A)(hb:Binds X.K fd ps ds)(hd:Vals dvs ds)(hx:Passes CX X E)
  (I:Inv X pins σ H s) (r:Vals vs us) (h:sp (vs++dvs) H Q E):wpAny (model X.prog X.w) X.A (call (.ref f) us) (EP X pins σ Q) X.xe s:=by
 have r2:Vals (vs++dvs) (us++ds):=r.append hd
 have hl:(us++ds).length=ps.length:=by rw[<- r2.length];exact F.len _ _ _ _ h
 refine wpAny_call (codeAny_mono (F.run X.A X.stack s H ⟨us,[]⟩ (us++ds) (vs++dvs) Q E hr I.QK (hb s us I.kIn hl) r2 h) fun r s' hq=>?_)
 cases r with
 |error e=>exact hx pins σ H s e s' I hq
 |ok fl=>
  cases fl with
  |ret u=>exact I.after hq
  |next=>exact False.elim hq
  |brk=>exact False.elim hq
  |cont=>exact False.elim hq
theorem Hv(F:iy X.prog X.w X.K X.mg X.base CX k f fd ps sp)(hr:fV k X.A)(hg:Gl X x)(hm:X.mg x=some (.ref f))(hk:keepIn X.K (.ref f)=true)(hb:Binds X.K fd ps ds)(hd:Vals dvs ds)(hx:Passes CX X E)
  (ha:PA X (e::es) t) (hdb:(x==("__debug__":Str))=false:=by decide) (he:starEach (e::es) X.env=(false,eval e X.env)::starEach es X.env:=by rfl) (hpl:(backTo pos (starEach es X.env)).any (·.1)=false:=by rfl) :
  PE X (.Call (.Name x p) (e::es) [] pos) (RN sp dvs E t):=by
 intro pins s σ H Q I h
 refine wpAny_Call_Name_kw (rR I hg hm ?_ hdb)
 refine PySem.W.callWith_K (h₀:=X.base) I.ok.mod.kin hk (thn (ha pos pins s σ H _ I h) fun us s1 ⟨vs,H1,I1,r,q⟩=>⟨I1.kIn,?_⟩) he hpl
 exact Qh F hr hb hd hx I1 r q
end
structure aJ(N P:List Str)(sc:Scope):Prop where
 kind:sc.kind = .function
 co:sc.isCoroutine=false
 gen:sc.isGenerator=false
 nd:N.Nodup
 pre:N.take P.length=P
 par:∀x∈P,sc.names.lookup x=some .local\/sc.names.lookup x=some .cell
 PL:∀y∈sc.names,y.2≠.free
theorem zH{kindOf:Str->Option NameKind}{x:Str}:∀{binds:List (Str×Value)} {m:Str->Option Value},(∀v,(x,v) ∉ binds)->bindL kindOf binds m x=m x
 |[],_,_=>rfl
 |(n,v)::r,m,h=>by
  unfold bindL
  rw[zH fun w hw=>h w (mem_cons_of_mem _ hw)]
  split
  ·have:x≠n:=by rintro rfl;exact h v mem_cons_self
   simp[this]
  ·rfl
theorem Ai{kindOf:Str->Option NameKind}{x:Str}:∀{binds:List (Str×Value)} {m:Str->Option Value},(∀v,(x,v) ∉ binds)->bindC kindOf binds m x=m x
 |[],_,_=>rfl
 |(n,v)::r,m,h=>by
  unfold bindC
  rw[Ai fun w hw=>h w (mem_cons_of_mem _ hw)]
  split
  ·rfl
  ·have:x≠n:=by rintro rfl;exact h v mem_cons_self
   simp[this]
theorem zP{kindOf:Str->Option NameKind}{x:Str}{v:Value}:∀{P:List Str} {vs:List Value} {i:Nat} {m:Str->Option Value},P.Nodup->P[i]? = some x->vs[i]? = some v->kindOf x=some .local ->
  bindL kindOf (P.zip vs) m x=some v
 |[],_,_,_,_,h,_,_=>by simp at h
 |_::_,[],_,_,_,_,h,_=>by simp at h
 |p::P,w::vs,0,m,nd,h1,h2,hk=>by
  simp at h1 h2;subst h1;subst h2
  show bindL kindOf ((p,w)::P.zip vs) m p=_
  unfold bindL
  rw[zH fun v hv=>(List.nodup_cons.mp nd).1 (List.of_mem_zip hv).1,if_pos hk]
  simp
 |p::P,w::vs,i+1,m,nd,h1,h2,hk=>by
  show bindL kindOf ((p,w)::P.zip vs) m x=_
  unfold bindL
  exact zP (i:=i) (List.nodup_cons.mp nd).2 (by simpa using h1) (by simpa using h2) hk
theorem zI{kindOf:Str->Option NameKind}{x:Str}{v:Value}:∀{P:List Str} {vs:List Value} {i:Nat} {m:Str->Option Value},P.Nodup->P[i]? = some x->vs[i]? = some v->kindOf x≠some .local ->
  bindC kindOf (P.zip vs) m x=some v
 |[],_,_,_,_,h,_,_=>by simp at h
 |_::_,[],_,_,_,_,h,_=>by simp at h
 |p::P,w::vs,0,m,nd,h1,h2,hk=>by
  simp at h1 h2;subst h1;subst h2
  show bindC kindOf ((p,w)::P.zip vs) m p=_
  unfold bindC
  rw[Ai fun v hv=>(List.nodup_cons.mp nd).1 (List.of_mem_zip hv).1,if_neg hk]
  simp
 |p::P,w::vs,i+1,m,nd,h1,h2,hk=>by
  show bindC kindOf ((p,w)::P.zip vs) m x=_
  unfold bindC
  exact zI (i:=i) (List.nodup_cons.mp nd).2 (by simpa using h1) (by simpa using h2) hk
noncomputable def start(N:List Str)(vs:List V):St:=vs.map some++List.replicate (N.length-vs.length) none
noncomputable def kn(CX:CXT)(P:Program)(w:World)(K:PySem.W.Frag)(mg:Str->Option Value)(base:Heap)(N:List Str)(qual:Str)(scope:Scope)(f:Addr)(cd:Value)(A:Around)(outer:List Env)(s:Shared)(H:Hp)(E:XK):Cx where
 prog:=P
 w:=w
 K:=K
 mg:=mg
 base:=base
 A:=A.deeper (envOfC qual scope s.heap.objs.size f cd)
 N:=N
 io:=s
 H₀:=H
 env:=envOfC qual scope s.heap.objs.size f cd
 outer:=outer
 stack:=envOfC qual scope s.heap.objs.size f cd::outer
 ex:=[]
 calm:=true
 fn:=fun _=>true
 pn:=[]
 xe:=fun e s'=>wpAny (model P w) (A.deeper (envOfC qual scope s.heap.objs.size f cd)) (leaving (envOfC qual scope s.heap.objs.size f cd) e) (fun _ s''=>CX outer H s E e s'') (fun e' s''=>CX outer H s E e' s'') s'
theorem CA{sc:Scope}{n:Nat}{x:Str}(h:sc.names.lookup x=some .cell):∃c,(cellsFrom n sc.names []).lookup x=some c:=by
 have q:=PySem.W.cellsFrom_some sc.names n [] (.inl h)
 exact Option.isSome_iff_exists.mp q
theorem zj{CX:CXT}{P:Program}{w:World}{K:PySem.W.Frag}{mg:Str->Option Value}{base:Heap}{N ps:List Str}{qual:Str}{scope:Scope}{f:Addr}{cd:Value}{A:Around}{outer:List Env}{s s1:Shared}{H:Hp}{E:XK}{us:List Value}{vs:List V}
  (S:aJ N ps scope) (hd:A.handled=none) (e0:EA P w K mg base A outer s H) (hl:vs.length=ps.length) (r:Vals vs us)
  (x:InCallC s s.heap.objs.size (bindL (envOfC qual scope s.heap.objs.size f cd).kindOf (ps.zip us) fun _=>none) (cellsFrom (s.heap.objs.size+1) scope.names []) (bindC (envOfC qual scope s.heap.objs.size f cd).kindOf (ps.zip us) fun _=>none) s1) :
  Inv (kn CX P w K mg base N qual scope f cd A outer s H E) [] (start N vs) H s1:=by
 have hpl:ps.length<=N.length:=by have:=congrArg List.length S.pre;rw[length_take] at this;omega
 obtain⟨h1,tk,rfl,hk⟩:=x.done
 have noA:∀b:Addr,b ∉ (kn CX P w K mg base N qual scope f cd A outer s H E).ex:=fun b z=>absurd (show b∈([]:List Addr) from z) (by simp)
 refine⟨⟨e0.mod,S.kind,rfl,rfl,le_refl _,fun y z c h1 h2=>?_,fun y hy=>?_,fun y c _ h=>?_,fun _=>hd,.inl hd,Around.frames_deeper e0.frames,.inr ⟨rfl,rfl⟩,fun b z=>absurd z (noA b),e0.bs,e0.bsz,fun b _ _=>noA b,fun b z=>absurd z (noA b),e0.qu,e0.frf⟩,
  rfl,e0.bare,Un.kept hk,⟨_,x.toInCall.ns,fun i y v h1 h2 h3=>?_⟩,fun y c h=>⟨_,x.cell y c h⟩,e0.hok.fresh (le_refl _),fun y c h=>?_,fun p hp=>absurd (show p∈([]:List (Addr×Obj)) from hp) (by simp),e0.hok.kept hk,?_⟩
 ·exact name_of_addr x.apart (mem_of_lookup h1) (mem_of_lookup h2)
 ·have hy:scope.names.lookup y=some .cell\/scope.names.lookup y=some .free:=hy
  rcases hy with hy|hy
  ·exact CA hy
  ·exact absurd rfl (S.PL _ (mem_of_lookup hy))
 ·exact Nat.le_of_lt (x.above y c (mem_of_lookup h))
 ·have hi:i<vs.length:=by
   unfold start at h2
   by_cases hi:i<vs.length
   ·exact hi
   ·rw[getElem?_append_right (by simpa using hi)] at h2
    rw[List.getElem?_replicate] at h2
    split at h2<;>cases h2
  have ha:vs[i]? = some v:=by
   unfold start at h2
   rw[getElem?_append_left (by simpa using hi),getElem?_map] at h2
   cases e:vs[i]? with
   |none=>rw[e] at h2;cases h2
   |some a=>rw[e] at h2;cases h2;rfl
  obtain⟨u,hu,rv⟩:=r.get ha
  have hp:ps[i]? = some y:=by
   rw[<- S.pre,List.getElem?_take_of_lt ∅];exact h1
  have ndP:ps.Nodup:=by rw[<- S.pre];exact S.nd.sublist (List.take_sublist _ _)
  refine⟨u,rv,?_⟩
  rcases S.par y (mem_of_getElem? hp) with k|k
  ·exact .inl ⟨k,zP ndP hp hu k⟩
  ·obtain⟨c,e⟩:=CA (n:=s.heap.objs.size+1) k
   refine .inr ⟨.inl k,c,e,?_⟩
   have q:=x.cell y c e
   rw[zI ndP hp hu (by show scope.names.lookup y≠_;rw[k];decide)] at q
   exact q
 ·exact e0.hok.fresh (Nat.le_of_lt (x.above y c (mem_of_lookup h)))
 ·unfold start
  show _=N.length
  rw[length_append,length_map,List.length_replicate]
  omega
theorem K1{CX:CXT}{P:Program}{w:World}{K:PySem.W.Frag}{mg:Str->Option Value}{base:Heap}{k:Nat}{f:Addr}{name qual:Str}{params:Arguments}{body:List Stmt}{scope:Scope}{dV kV doc pm cdv ct oc:Value}{an od:Option Addr}
  {osl:Array (Option Value)} {N ps:List Str} {sp:Sp} (lk:K.lookup f=some ⟨oc,od,.func (fnOf name qual params body scope dV kV doc pm an cdv ct),osl⟩) (hcd:codeIn K cdv qual=true) (S:aJ N ps scope)
  (len:∀vs H Q E,sp vs H Q E->vs.length=ps.length)
  (hbody:∀(A:Around) (outer:List Env) (s:Shared) (H:Hp) (vs:List V) (Q:VK) (E:XK),fV k (A.deeper (envOfC qual scope s.heap.objs.size f cdv))->sp vs H Q E ->
   ∃t,PSs (kn CX P w K mg base N qual scope f cdv A outer s H E) body t/\t {nx:=fun _ H'=>Q .non H',rt:=Q} (start N vs) H) :
  iy P w K mg base CX (k+1) f (fnOf name qual params body scope dV kV doc pm an cdv ct) ps sp:=by
 refine⟨len,fun A outer s H args us vs Q E hr e0 hb r hsp=>?_⟩
 have hl:=len _ _ _ _ hsp
 have KX:K.In s.heap:=e0.mod.kin.keeps fun b o e=>(e0.bs b o e).1
 have lim:s.heap.NoLimit:=e0.mod.nolimit.keeps fun b o e=>(e0.bs b o e).1
 have hkind:∀y∈ps.zip us,scope.names.lookup y.1=some .local\/(scope.names.lookup y.1=some .cell/\((cellsFrom (s.heap.objs.size+1) scope.names []).lookup y.1).isSome=true):=fun ⟨n,v⟩ hy=>by
  rcases S.par n (List.of_mem_zip hy).1 with q|q
  ·exact .inl q
  ·exact .inr ⟨q,PySem.W.cellsFrom_some _ _ _ (.inl q)⟩
 refine codeAny_call_function hr.depth (KX _ _ lk) rfl S.co S.gen rfl (PySem.W.codeRec_of KX hcd) (hb _ _ _ _ ?_)
 refine wpAny_newFunctionEnv_cells S.kind hkind fun env he s1 x=>?_
 subst he
 refine⟨lim.keeps x.toInCall.keep,codeAny_func ?_⟩
 obtain⟨t,ht,hq⟩:=hbody A outer s H vs Q E (hr.deeper _) hsp
 have I:Inv (kn CX P w K mg base N qual scope f cdv A outer s H E) [] (start N vs) H s1:=zj S hr.hd e0 hl r x
 refine wpAny_mono (ht [] s1 (start N vs) H _ I hq) (fun fl s' hs=>?_) fun e s' hs=>hs
 have fin:∀{db:St} {H':Hp} {v:V} {u:Value},Inv (kn CX P w K mg base N qual scope f cdv A outer s H E) [] db H' s'->RelV v u->Q v H'->CE outer P w H s Q u s':=
  fun {db H' v u} J rv q=>⟨v,H',J.os,J.bare,J.base,J.hok,rv,q⟩
 cases fl with
 |ret u=>
  obtain⟨v,db,H',J,rv,q⟩:=hs
  exact fin J rv q
 |next=>
  obtain⟨db,H',J,q⟩:=hs
  exact fin (v:=V.non) (u:=Value.none) J rfl q
 |brk=>
  obtain⟨_,_,_,q⟩:=hs
  exact False.elim q
 |cont=>
  obtain⟨_,_,_,q⟩:=hs
  exact False.elim q
end L2
namespace L2
open PySem PySem.Spec PyProof.Rows
section
variable {X:Cx}{x:Str}{p pos:Pos}{e:Expr}{es:List Expr}{t:TA}{id T:String}{r:List V->Hp->VK->Prop}
noncomputable def tCB(r:List V->Hp->VK->Prop)(t:TA):TE:=fun σ H Q=>t σ H fun vs H1=>r vs H1 Q
theorem sL(hc:jA X (.builtin id) r)(hg:Gl X x)(hm:X.mg x=none)(hv:bootBuiltins x=some (.builtin id))(ha:PA X (e::es) t)(hn:x ≠ "__name__":=by decide)(hdb:(x==("__debug__":Str))=false:=by decide)
  (he:starEach (e::es) X.env=(false,eval e X.env)::starEach es X.env:=by rfl) (hpl:(backTo pos (starEach es X.env)).any (·.1)=false:=by rfl):PE X (.Call (.Name x p) (e::es) [] pos) (tCB r t):=by
 intro pins s σ H Q I h
 refine wpAny_Call_Name_kw (qr I hg hm hv ?_ hn hdb)
 exact PyProof.Rows.callWith_builtin1 (thn (ha pos pins s σ H _ I h) fun us s1 ⟨vs,H1,I1,r1,q1⟩=>hc pins s1 σ H1 vs us Q I1 r1 q1) he hpl
theorem HR(hc:jA X (.type T) r)(hg:Gl X x)(hm:X.mg x=none)(hv:bootBuiltins x=some (.type T))(ha:PA X (e::es) t)(hn:x ≠ "__name__":=by decide)(hdb:(x==("__debug__":Str))=false:=by decide)
  (he:starEach (e::es) X.env=(false,eval e X.env)::starEach es X.env:=by rfl) (hpl:(backTo pos (starEach es X.env)).any (·.1)=false:=by rfl):PE X (.Call (.Name x p) (e::es) [] pos) (tCB r t):=by
 intro pins s σ H Q I h
 refine wpAny_Call_Name_kw (qr I hg hm hv ?_ hn hdb)
 exact PyProof.Rows.callWith_type1 (thn (ha pos pins s σ H _ I h) fun us s1 ⟨vs,H1,I1,r1,q1⟩=>hc pins s1 σ H1 vs us Q I1 r1 q1) he hpl
end
end L2
namespace HT
open PySem PyProof.Rows
section
open PySem.SeqAt
open PySem.AutoSeq1 (wpAny_loadPart')
open PySem.MeetsSeq PySem.MeetsSeq2 PySem.MeetsSeq3
end
section
variable {prog:Program}{w:World}{A:Around}{E:Value->Shared->Prop}{s:Shared}
theorem Mm{t b:Addr}{vs ws:List Value}{Q:Value->Shared->Prop}(ht:IsTup s.heap t vs.toArray)(hb:IsTup s.heap b ws.toArray)(hv:vs≠[])
  (h1:ws=[]->Q (.ref t) s) (h2:ws≠[]->Q (.ref s.heap.objs.size) {s with heap:=s.heap.push {cls:=.type "tuple",data:=.seq (vs++ws).toArray}})
  (hsz:vs.length+ws.length<=sizeLine):wpAny (model prog w) A (binaryOp .Add (.ref t) (.ref b)) Q E s:=by
 obtain⟨⟨cls,dd,data,sl⟩,ho,hc,n,hd⟩:=id ht
 obtain⟨⟨cls2,dd2,data2,sl2⟩,ho2,hc2,n2,hd2⟩:=id hb
 simp only at hc hd hc2 hd2
 subst hc hd hc2 hd2
 have e:vs.toArray++ws.toArray=(vs++ws).toArray:=by simp
 by_cases hw:ws=[]
 ·exact concat_meets ⟨_,ho,rfl⟩ ⟨_,ho2,rfl⟩ noFill_tuple_add seq_tuple_add PySem.F.slot_tuple_add PySem.F.entry_tuple_add (PySem.F.args_tuple_add_2 _ _)
   (tuple_addW1 t b vs.toArray ws.toArray n n2 dd dd2 sl sl2 (by simpa using hv) (by simp[hw])) ⟨ho,ho2,h1 hw⟩
 ·refine concat_meets ⟨_,ho,rfl⟩ ⟨_,ho2,rfl⟩ noFill_tuple_add seq_tuple_add PySem.F.slot_tuple_add PySem.F.entry_tuple_add (PySem.F.args_tuple_add_2 _ _)
   (tuple_addW2 t b vs.toArray ws.toArray n n2 dd dd2 sl sl2 (by simpa using hv) (by simpa using hw) (by rw[size_toArray,size_toArray];exact hsz)) ⟨ho,ho2,?_⟩
  rw[e]
  exact h2 hw
noncomputable def sIx(n d:Nat):Option Int->Nat
 |none=>d
 |some v=>if v<0 then (v+(n:Int)).toNat else min v.toNat n
theorem Ei(n d:Nat):sIx n d none=d:=rfl
theorem GV(n d k:Nat):sIx n d (some (k:Int))=min k n:=by
 show (if (k:Int)<0 then ((k:Int)+(n:Int)).toNat else min (k:Int).toNat n)=min k n
 rw[if_neg ∅,Int.toNat_natCast]
theorem Pg(n d:Nat)(hd:d<=n)(o:Option Int):sIx n d o<=n:=by
 cases o with
 |none=>exact hd
 |some v=>
  show (if v<0 then (v+(n:Int)).toNat else min v.toNat n)<=n
  by_cases hv:v<0
  ·rw[if_pos hv];omega
  ·rw[if_neg hv];exact Nat.min_le_right _ _
theorem GX(v:Int)(n d:Nat):(if v<0 then max (v+(n:Int)) 0 else min v (n:Int))=((sIx n d (some v):Nat):Int):=by
 show (if v<0 then max (v+(n:Int)) 0 else min v (n:Int))=(((if v<0 then (v+(n:Int)).toNat else min v.toNat n):Nat):Int)
 by_cases hv:v<0
 ·simp only[if_pos hv];omega
 ·simp only[if_neg hv];omega
theorem E8(lo hi:Option Int)(n:Nat):Builtin.Slice.sliceAdjust lo hi 1 (n:Int)=(((sIx n 0 lo:Nat):Int),((sIx n n hi:Nat):Int)):=by
 have h1:¬ ((1:Int)<0):=by omega
 unfold Builtin.Slice.sliceAdjust
 simp only[h1,if_false]
 refine Prod.ext ?_ ?_
 ·cases lo with
  |none=>rfl
  |some v=>exact GX v n 0
 ·cases hi with
  |none=>rfl
  |some v=>exact GX v n n
theorem E3(i j:Nat):Builtin.Slice.slicePlaces (i:Int) (j:Int) 1=j-i:=by
 unfold Builtin.Slice.slicePlaces
 have h1:(1:Int)>0:=by omega
 simp only[h1,if_true,Int.ediv_one]
 split<;>omega
theorem wY{v:Value}{o:Option Int}{Q:Option Int->Shared->Prop}(p:IsPart v o)(h:Q o s):wpAny (model prog w) A (Builtin.Slice.slicePartIndex v) Q E s:=by
 cases p with
 |none=>exact slicePart_none h
 |int i t=>exact slicePart_int h
theorem kB{sl:Addr}{vl vu:Value}{lo hi:Option Int}{n:Nat}{Q:Int×Int×Nat->Shared->Prop}(hs:s.heap.IsSliceOf sl vl vu .none)(pl:IsPart vl lo)(pu:IsPart vu hi)
  (h:Q (((sIx n 0 lo:Nat):Int),1,sIx n n hi-sIx n 0 lo) s):wpAny (model prog w) A (Builtin.Slice.sliceApplied (.ref sl) (pure (n:Int))) Q E s:=by
 obtain⟨os,hos,hcs,hds⟩:=id hs
 unfold Builtin.Slice.sliceApplied Builtin.Slice.sliceFields
 refine wpAny_bind (wpAny_bind (wpAny_field hos hds (x:=vl) rfl (wpAny_bind (wpAny_field hos hds (x:=vu) rfl (wpAny_bind (wpAny_field hos hds (x:=.none) rfl (wpAny_pure ?_)))))))
 refine wpAny_bind (slicePart_none ?_)
 show wpAny _ _ (if ((1:Int)==0)=true then _ else _) _ _ s
 rw[if_neg ⋯]
 refine wpAny_bind (wY pl (wpAny_bind (wY pu (wpAny_bind (wpAny_pure ?_)))))
 show wpAny _ _ (match Builtin.Slice.sliceAdjust lo hi 1 (n:Int) with|(lo,hi)=>pure (lo,(1:Int),Builtin.Slice.slicePlaces lo hi 1)) _ _ s
 rw[E8 lo hi n]
 show wpAny _ _ (pure (((sIx n 0 lo:Nat):Int),(1:Int),Builtin.Slice.slicePlaces ((sIx n 0 lo:Nat):Int) ((sIx n n hi:Nat):Int) 1)) _ _ s
 rw[E3]
 exact wpAny_pure h
theorem JO(xs:Array Value)(i k:Nat):((List.range k).filterMap fun (m:Nat)=>xs[((i:Int)+(m:Int)*1).toNat]?).toArray=((xs.toList.drop i).take k).toArray:=by
 have e:(fun (m:Nat)=>xs[((i:Int)+(m:Int)*1).toNat]?)=fun m=>xs[i+m]?:=by
  funext m
  have:((i:Int)+(m:Int)*1).toNat=i+m:=by omega
  rw[this]
 rw[e]
 have:=pick_run xs i k
 rw[List.filterMap_map] at this
 have e2:((fun x=>xs[x]?) ∘ fun x=>i+x)=fun m=>xs[i+m]?:=rfl
 rw[e2] at this
 rw[this]
theorem qA{t sl:Addr}{items:Array Value}{vl vu:Value}{lo hi:Option Int}{Q:Value->Shared->Prop}(ht:IsTup s.heap t items)(hs:s.heap.IsSliceOf sl vl vu .none)(pl:IsPart vl lo)(pu:IsPart vu hi)
  (hw:¬ (sIx items.size 0 lo=0/\sIx items.size items.size hi=items.size))
  (h:Q (.ref s.heap.objs.size) {s with heap:=s.heap.push {cls:=.type "tuple",data:=.seq ((items.toList.drop (sIx items.size 0 lo)).take (sIx items.size items.size hi-sIx items.size 0 lo)).toArray}})
  (hsz:items.size<=sizeLine):wpAny (model prog w) A (getItem (.ref t) (.ref sl)) Q E s:=by
 have htake:sizeOk (.seq ((items.toList.drop (sIx items.size 0 lo)).take (sIx items.size items.size hi-sIx items.size 0 lo)).toArray):=by
  show ((items.toList.drop (sIx items.size 0 lo)).take (sIx items.size items.size hi-sIx items.size 0 lo)).toArray.size<=sizeLine
  rw[size_toArray,length_take,List.length_drop,Array.length_toList]
  omega
 have hj:sIx items.size items.size hi<=items.size:=Pg _ _ (le_refl _) hi
 obtain⟨os,hos,hcs,hds⟩:=id hs
 have hTs:s.TypeIs (.ref sl) "slice":=⟨os,hos,hcs⟩
 unfold getItem
 try with_reducible refine wpAny_holding ?_
 first|refine wpAny_bind (wpAny_pure ?_)|skip
 refine wpAny_bind (wpAny_sequenceKey ht.typeIs ⋯ ?_)
 refine wpAny_bind (wpAny_callSpecial?_slot (name:=Str.ofString "__getitem__") ht.typeIs PyProof.Rows.slot_tuple_getitem
  (wpAny_call_entry PyProof.Rows.slot_tuple_getitem ht.typeIs entry_tuple_getitem ?_ (args_tuple_getitem _ _)))
 show wpAny _ _ (Builtin.Tuple.tupleItemsOf (.ref t)>>=_) _ _ s
 refine wpAny_bind (tupleItemsOf_ ht ?_)
 refine wpAny_bind (wpAny_typeOf hTs ?_)
 rw[if_pos ⋯]
 refine wpAny_bind (kB hs pl pu ?_)
 have hno:¬ ((((sIx items.size 0 lo:Nat):Int)==0&&(1:Int)==1&&(sIx items.size items.size hi-sIx items.size 0 lo)==items.size)=true):=by
  intro q
  rw[and_eq_true,and_eq_true] at q
  have q1:((sIx items.size 0 lo:Nat):Int)=0:=eq_of_beq q.1.1
  have q2:sIx items.size items.size hi-sIx items.size 0 lo=items.size:=eq_of_beq q.2
  exact hw ⟨∅,∅⟩
 show wpAny _ _ (if (((sIx items.size 0 lo:Nat):Int)==0&&(1:Int)==1&&(sIx items.size items.size hi-sIx items.size 0 lo)==items.size)=true then _ else _) _ _ s
 rw[if_neg hno,JO]
 first
  |exact wpAny_bind (m:=Builtin.Tuple.tupleExact _) (wpAny_newObj_type (wpAny_pure ⟨_,rfl,wpAny_pure h⟩) htake)
  |exact wpAny_bind (m:=Builtin.Tuple.tupleExact _) (wpAny_newObj_type (wpAny_bind (wpAny_pure (wpAny_pure ⟨_,rfl,wpAny_pure h⟩))) htake)
  |exact wpAny_bind (wpAny_bind (m:=Builtin.Tuple.tupleExact _) (wpAny_newObj_type (wpAny_pure (wpAny_pure ⟨_,rfl,wpAny_pure h⟩)) htake))
  |exact wpAny_bind (wpAny_bind (m:=Builtin.Tuple.tupleExact _) (wpAny_newObj_type (wpAny_pure ⟨_,rfl,wpAny_pure h⟩) htake))
end
end HT
namespace L2
open PySem PySem.Spec PyProof.Rows
noncomputable abbrev TO:=St->Hp->(Option Int->Hp->Prop)->Prop
noncomputable def PO(X:Cx)(e:Option Expr)(t:TO):Prop:=
 ∀(pins:List (Addr×Obj)) (s:Shared) (σ:St) (H:Hp) (Q:Option Int->Hp->Prop),Inv X pins σ H s->t σ H Q ->
  wpAny (model X.prog X.w) X.A (evalPart e X.env) (fun u s'=>∃o H',Inv X pins σ H' s'/\IsPart u o/\Q o H') X.xe s
noncomputable def Ni:TO:=fun _ H Q=>Q none H
noncomputable def RE(t:TE):TO:=fun σ H Q=>t σ H fun x H1=>∃i,x = .int i/\Q (some i) H1
section
variable {X:Cx}{e:Expr}{te:TE}{lo hi:Option Expr}{tl th:TO}{pos p2:Pos}
theorem M5:PO X none Ni:=by
 intro pins s σ H Q I h
 rw[evalPart_none]
 exact wpAny_pure ⟨none,H,I,.none,h⟩
theorem Na(h:PE X e te):PO X (some e) (RE te):=by
 intro pins s σ H Q I hw
 rw[evalPart_some]
 refine thn (h pins s σ H _ I hw) fun u s1 hq0=>?_
 obtain⟨x,H1,I1,r1,q1⟩:=hq0
 obtain⟨i,rfl,q⟩:=q1
 obtain⟨t,rfl⟩:=r1
 exact⟨some i,H1,I1,.int i t,q⟩
noncomputable def SlR(X:Cx)(r:V->Option Int->Option Int->Hp->VK->Prop):Prop:=
 ∀(pins:List (Addr×Obj)) (s:Shared) (σ:St) (H:Hp) (x:V) (v vl vu:Value) (lo hi:Option Int) (sl:Addr) (Q:VK),Inv X pins σ H s->RelV x v->s.heap.IsSliceOf sl vl vu .none->IsPart vl lo->IsPart vu hi->r x lo hi H Q ->
  ∃T id,typeLookup (.type T) "__getitem__"=pure (some (.builtin id))/\s.TypeIs v T/\wpAny (model X.prog X.w) X.A (getItem v (.ref sl)) (EP X pins σ Q) X.xe s
theorem SlR.or{r r':V->Option Int->Option Int->Hp->VK->Prop}(h:SlR X r)(h':SlR X r'):SlR X (fun x lo hi H Q=>r x lo hi H Q\/r' x lo hi H Q):=by
 intro pins s σ H x v vl vu lo hi sl Q I rx hs pl pu q
 rcases q with q|q
 ·exact h pins s σ H x v vl vu lo hi sl Q I rx hs pl pu q
 ·exact h' pins s σ H x v vl vu lo hi sl Q I rx hs pl pu q
noncomputable def tSl(r:V->Option Int->Option Int->Hp->VK->Prop)(te:TE)(tl th:TO):TE:=fun σ H Q=>te σ H fun x H1=>tl σ H1 fun l H2=>th σ H2 fun u H3=>r x l u H3 Q
theorem JT{r:V->Option Int->Option Int->Hp->VK->Prop}(hr:SlR X r)(he:PE X e te)(hl:PO X lo tl)(hu:PO X hi th):PE X (.Subscript e (.Slice lo hi none p2) pos) (tSl r te tl th):=by
 intro pins s σ H Q I h
 refine Subscript_ (thn (he pins s σ H _ I h) fun v s1 hq0=>?_)
 obtain⟨x,H1,I1,r1,q1⟩:=hq0
 refine wpAny_Slice (thn (hl pins s1 σ H1 _ I1 q1) fun vl s2 ⟨l,H2,I2,pl,q2⟩=>thn (hu pins s2 σ H2 _ I2 q2) fun vu s3 hq0=>?_)
 obtain⟨u,H3,I3,pu,q3⟩:=hq0
 rw[evalPart_none]
 refine wpAny_pure ?_
 have I4:Inv X pins σ H3 {s3 with heap:=s3.heap.push {cls:=.type "slice",data:=.fields #[vl,vu,.none]}}:=I3.kept (t':=s3.toks) fun b ob q=>Heap.get?_push_of_some _ q
 obtain⟨T,id,hT,ht,hg⟩:=hr pins {s3 with heap:=s3.heap.push {cls:=.type "slice",data:=.fields #[vl,vu,.none]}} σ H3 x v vl vu l u s3.heap.objs.size Q I4 r1 (Heap.IsSliceOf.new ..) pl pu q3
 show wpAny (model X.prog X.w) X.A (subscriptTail e (.Slice lo hi none p2) v (.ref s3.heap.objs.size)) (EP X pins σ Q) X.xe {s3 with heap:=s3.heap.push {cls:=.type "slice",data:=.fields #[vl,vu,.none]}}
 exact tail_any (ops:=[.ref s3.heap.objs.size,v]) ht hT hg (by with_unfolding_all rfl)
noncomputable def AZ(xs:List V)(lo hi:Option Int):List V:=(xs.drop (HT.sIx xs.length 0 lo)).take (HT.sIx xs.length xs.length hi-HT.sIx xs.length 0 lo)
theorem ur(xs:List V)(lo hi:Option Int):(AZ xs lo hi).length<=xs.length:=by
 unfold AZ
 rw[length_take,List.length_drop]
 omega
noncomputable def SN(K:PySem.W.Frag):V->Option Int->Option Int->Hp->VK->Prop:=fun x lo hi H Q=>∃a xs,x = .ref a/\SqT K H a xs /\
 ¬ (HT.sIx xs.length 0 lo=0/\HT.sIx xs.length xs.length hi=xs.length)/\∀p,H p=none->Q (.ref p) (upd H p (.tup (AZ xs lo hi)))
theorem Px:SlR X (SN X.K):=by
 intro pins s σ H x v vl vu lo hi sl Q I rx hs pl pu h
 obtain⟨a,xs,rfl,hx,hw,q⟩:=h
 cases rx
 obtain⟨its,r,ht,hz⟩:=I.tuple hx
 have hlen:its.toArray.size=xs.length:=by rw[size_toArray];exact r.length.symm
 refine⟨"tuple",_,PyProof.Rows.slot_tuple_getitem.lookup,ht.typeIs,?_⟩
 refine HT.qA ht hs pl pu (by rw[hlen];exact hw) ?_ (by rw[hlen];exact hz)
 rw[hlen]
 refine⟨.ref s.heap.objs.size,_,I.laid (t':=s.toks) (o:=.tup (AZ xs lo hi)) (fun b ob q=>Heap.get?_push_of_some _ q) (le_refl _) ?_,rfl,q _ (I.hok.fresh (le_refl _))⟩
 exact⟨le_trans (ur xs lo hi) hz,_,(r.drop (HT.sIx xs.length 0 lo)).take (HT.sIx xs.length xs.length hi-HT.sIx xs.length 0 lo),IsTup.new _ _⟩
noncomputable def RK(K:PySem.W.Frag):R2:=fun x y H Q=>∃a b xs ys,x = .ref a/\y = .ref b/\SqT K H a xs/\SqT K H b ys/\xs≠[]/\xs.length+ys.length<=sizeLine /\
 (ys=[]->Q (.ref a) H)/\(ys≠[]->∀p,H p=none->Q (.ref p) (upd H p (.tup (xs++ys))))
theorem Vals.Cd{xs:List V}{us:List Value}(r:Vals xs us):us=[]↔xs=[]:=by
 cases r with
 |nil=>simp
 |cons _ _=>simp
theorem Mq:OpR X (binaryOp .Add) (RK X.K):=by
 intro pins s σ H x y v u Q I rx ry h
 obtain⟨a,b,xs,ys,rfl,rfl,ha,hb,hx,hz,q1,q2⟩:=h
 cases rx
 cases ry
 obtain⟨its,r1,p1,_⟩:=I.tuple ha
 obtain⟨its2,r2,p2,_⟩:=I.tuple hb
 refine HT.Mm p1 p2 (fun z=>hx (r1.Cd.mp z)) (fun z=>⟨.ref a,H,I,rfl,q1 (r2.Cd.mp z)⟩) (fun z=>?_) (by rw[<- r1.length,<- r2.length];exact hz)
 refine⟨.ref s.heap.objs.size,_,I.laid (t':=s.toks) (o:=.tup (xs++ys)) (fun b ob q=>Heap.get?_push_of_some _ q) (le_refl _) ?_,rfl,q2 (fun w=>z (r2.Cd.mpr w)) _ (I.hok.fresh (le_refl _))⟩
 exact⟨by rw[length_append];exact hz,_,r1.append r2,IsTup.new _ _⟩
end
end L2
namespace L2
open PySem PySem.Spec PyProof.Rows
noncomputable def ixN(n:Nat)(i:Int):Option Nat:=if 0<=i then (if i<n then some i.toNat else none) else if -(n:Int)<=i then some (i+n).toNat else none
noncomputable def atI{α:Type}(xs:List α)(i:Int):Option α:=(ixN xs.length i).bind fun j=>xs[j]?
theorem GQ{n:Nat}{i:Int}{j:Nat}(h:ixN n i=some j):seqIndex? i n=some j/\j<n/\-(n:Int)<=i/\i<n:=by
 unfold ixN at h
 by_cases h0:0<=i
 ·rw[if_pos h0] at h
  by_cases h1:i<n
  ·rw[if_pos h1] at h
   have e:i.toNat=j:=Option.some.inj h
   exact⟨by rw[seqIndex_of h0 h1,e],∅,∅,h1⟩
  ·rw[if_neg h1] at h;cases h
 ·rw[if_neg h0] at h
  by_cases h1:-(n:Int)<=i
  ·rw[if_pos h1] at h
   have e:(i+n).toNat=j:=Option.some.inj h
   exact⟨by rw[seqIndex_neg ∅ h1,e],∅,h1,∅⟩
  ·rw[if_neg h1] at h;cases h
theorem Ce{α:Type}{xs:List α}{i:Int}{v:α}(h:atI xs i=some v):∃j,seqIndex? i xs.length=some j/\xs[j]? = some v/\j<xs.length/\-(xs.length:Int)<=i/\i<xs.length:=by
 unfold atI at h
 cases e:ixN xs.length i with
 |none=>rw[e] at h;cases h
 |some j=>
  rw[e] at h
  obtain⟨h1,h2,h3,h4⟩:=GQ e
  exact⟨j,h1,h,h2,h3,h4⟩
theorem qB{α:Type}{xs:List α}{j:Nat}{v:α}(h:xs[j]? = some v):atI xs (j:Int)=some v:=by
 have hj:j<xs.length:=(List.getElem?_eq_some_iff.mp h).1
 have e:ixN xs.length (j:Int)=some j:=by
  unfold ixN
  rw[if_pos ∅,if_pos ∅];simp
 unfold atI;rw[e];exact h
noncomputable def Be(b:Expr):Prop:=∀o i,subscripted b false o i=operate [o,i] (getItem o i)
noncomputable def IxR(X:Cx)(r:R2):Prop:=
 ∀(value slice:Expr) (pins:List (Addr×Obj)) (s:Shared) (σ:St) (H:Hp) (x y:V) (v u:Value) (Q:VK),Inv X pins σ H s->RelV x v->RelV y u->r x y H Q ->
  subscripted slice false v u=operate [v,u] (getItem v u)->wpAny (model X.prog X.w) X.A (subscriptTail value slice v u) (EP X pins σ Q) X.xe s
noncomputable def MtR(X:Cx)(id:String)(r:V->List V->Hp->VK->Prop):Prop:=
 ∀(pins:List (Addr×Obj)) (s:Shared) (σ:St) (H:Hp) (x:V) (xs:List V) (v:Value) (us:List Value) (Q:VK),Inv X pins σ H s->RelV x v->Vals xs us->r x xs H Q ->
  wpAny (model X.prog X.w) X.A (call (.builtin id) (v::us)) (EP X pins σ Q) X.xe s
section
variable {X:Cx}{a b:Expr}{ta tb:TE}{pos:Pos}
theorem IxR.or{r r':R2}(h:IxR X r)(h':IxR X r'):IxR X (fun x y H Q=>r x y H Q\/r' x y H Q):=by
 intro value slice pins s σ H x y v u Q I rx ry q hs
 rcases q with q|q
 ·exact h value slice pins s σ H x y v u Q I rx ry q hs
 ·exact h' value slice pins s σ H x y v u Q I rx ry q hs
theorem N0{r:R2}(hr:IxR X r)(ha:PE X a ta)(hb:PE X b tb)(hs:Be b):PE X (.Subscript a b pos) (tOp r ta tb):=by
 intro pins s σ H Q I h
 exact Subscript_ (Qb ha hb I h fun v u s2 x y H2 I2 rx ry q=>hr a b pins s2 σ H2 x y v u Q I2 rx ry q (hs _ _))
noncomputable def Rb(K:PySem.W.Frag):R2:=fun x y H Q=>∃p xs i v,x = .ref p/\y = .int i/\SqL K H p xs/\atI xs i=some v/\Q v H
noncomputable def Rt(K:PySem.W.Frag):R2:=fun x y H Q=>∃p xs i v,x = .ref p/\y = .int i/\SqT K H p xs/\atI xs i=some v/\Q v H
noncomputable def Q2:R2:=fun x y H Q=>∃z i c,x = .str z/\y = .int i/\z.length<=sizeLine/\atI z.cps.toList i=some c/\Q (.str ⟨#[c]⟩) H
theorem L0:IxR X (Rb X.K):=by
 intro value slice pins s σ H x y v u Q I rx ry h hs
 obtain⟨p,xs,i,z,rfl,rfl,hq,he,q⟩:=h
 cases rx
 obtain⟨t,rfl⟩:=ry
 obtain⟨its,r,pl,hz⟩:=I.list hq
 obtain⟨j,h1,h2,h3,h4,h5⟩:=Ce he
 obtain⟨w,ew,rw'⟩:=r.get h2
 have hl:=r.length
 have hn:=wO
 have fin:EP X pins σ Q w s:=⟨z,H,I,rw',q⟩
 by_cases h0:0<=i
 ·have hj:i.toNat=j:=by
   rw[seqIndex_of h0 h5] at h1
   exact Option.some.inj h1
  exact item_listR pl.isList h0 ∅ (by rw[hj];simpa using ew) fin hs
 ·have hj:(i+(its.toArray.size:Int)).toNat=j:=by
   rw[seqIndex_neg ∅ h4] at h1
   rw[size_toArray,<- hl]
   exact Option.some.inj h1
  exact subscriptTail_builtinR (x:=w) pl.isList.typeIs slot_list_getitem.lookup
   (wpAny_getItem_list_neg (Q:=fun r s'=>r=w/\EP X pins σ Q r s') pl.isList ∅ (by rw[size_toArray]<;>omega) ∅ (by rw[hj];simpa using ew) ⟨rfl,fin⟩) hs
theorem OV:IxR X (Rt X.K):=by
 intro value slice pins s σ H x y v u Q I rx ry h hs
 obtain⟨p,xs,i,z,rfl,rfl,hq,he,q⟩:=h
 cases rx
 obtain⟨t,rfl⟩:=ry
 obtain⟨its,r,pl,hz⟩:=I.tuple hq
 obtain⟨j,h1,h2,h3,h4,h5⟩:=Ce he
 obtain⟨w,ew,rw'⟩:=r.get h2
 have hl:=r.length
 have hn:=wO
 have fin:EP X pins σ Q w s:=⟨z,H,I,rw',q⟩
 exact subscriptTail_builtinR (x:=w) pl.typeIs slot_tuple_getitem.lookup
  (getItem_tuple (j:=j) (Q:=fun r s'=>r=w/\EP X pins σ Q r s') pl ∅ ∅ (by rw[size_toArray,<- hl];exact h1) (by simpa using ew) ⟨rfl,fin⟩) hs
theorem PR:IxR X Q2:=by
 intro value slice pins s σ H x y v u Q I rx ry h hs
 obtain⟨z,i,c,rfl,rfl,hz,he,q⟩:=h
 obtain⟨t,rfl⟩:=rx
 obtain⟨t',rfl⟩:=ry
 obtain⟨j,h1,h2,h3,h4,h5⟩:=Ce he
 have hl:z.cps.toList.length=z.length:=by simp[Str.length]
 rw[hl] at h1 h4 h5
 have hn:=wO
 exact tail_any (typeIs_str s z t) slot_str_getitem.lookup (getItem_str (c:=c) (by
  have e1:decide (i < -(2 ^ 63:Int))=false:=decide_eq_false ∅
  have e2:decide (i ≥ 2 ^ 63)=false:=decide_eq_false ∅
  rw[e1,e2,Bool.or_false]) (by rw[h1];simpa using h2) ⟨.str ⟨#[c]⟩,H,I.tok _,⟨_,rfl⟩,q⟩) hs
noncomputable def rIx(K:PySem.W.Frag):R2:=fun x y H Q=>Rb K x y H Q\/Rt K x y H Q\/Q2 x y H Q
theorem Lr:IxR X (rIx X.K):=L0.or (OV.or PR)
theorem Ff(its:List Value)(n j:Nat)(u:Value):Obj.mapSeq (·.setIfInBounds j u) {cls:=.type "list",data:=.seq its.toArray n} = {cls:=.type "list",data:=.seq (its.set j u).toArray n}:=by
 simp[Obj.mapSeq]
theorem Inv.lst{pins:List (Addr×Obj)}{σ:St}{H:Hp}{s:Shared}{p:Addr}{xs:List V}(I:Inv X pins σ H s)(h:H p=some (.lst xs)) :
  ∃(its:List Value) (n:Nat),Vals xs its/\s.heap.get? p=some {cls:=.type "list",data:=.seq its.toArray n}/\xs.length<=sizeLine:=by
 obtain⟨z,its,n,r,e⟩:=I.hok p _ h
 exact⟨its,n,r,e,z⟩
theorem Inv.OG{pins:List (Addr×Obj)}{σ:St}{H:Hp}{s:Shared}{p:Addr}{xs ys:List V}{its its':List Value}{n n':Nat}{f:Obj->Obj}(I:Inv X pins σ H s)(h:H p=some (.lst xs))
  (ho:s.heap.get? p=some {cls:=.type "list",data:=.seq its.toArray n}) (hf:f {cls:=.type "list",data:=.seq its.toArray n} = {cls:=.type "list",data:=.seq its'.toArray n'}) (r:Vals ys its') (hz:ys.length<=sizeLine) (t:Nat) :
  Inv X pins σ (upd H p (.lst ys)) {s with heap:=s.heap.update p f,toks:=t}:=by
 have e:(s.heap.update p f).get? p=some {cls:=.type "list",data:=.seq its'.toArray n'}:=by
  rw[Heap.get?_update_self f ho (by rw[hf]<;>rfl),hf]
 refine I.write (x:=p) (e:=p) (by rw[h];trivial) (.inl rfl) (fun b u hb q=>(Heap.get?_update_other _ _ (Ne.symm hb)).trans q) ⟨_,e⟩ ?_
 exact⟨hz,its',n',r,e⟩
noncomputable def Q0:V->V->V->Hp->(Hp->Prop)->Prop:=fun o i v H Q=>∃p xs k j,o = .ref p/\i = .int k/\H p=some (.lst xs)/\ixN xs.length k=some j/\Q (upd H p (.lst (xs.set j v)))
theorem set_list:QY X Q0:=by
 intro pins s σ H o i v ov iv u Q I ro ri rv h
 obtain⟨p,xs,k,j,rfl,rfl,hp,hj,q⟩:=h
 cases ro
 obtain⟨t,rfl⟩:=ri
 obtain⟨its,n,r,ho,hz⟩:=I.lst hp
 obtain⟨h1,h2,h3,h4⟩:=GQ hj
 have hl:=r.length
 have hn:=wO
 have I':Inv X pins σ (upd H p (.lst (xs.set j v))) {s with heap:=s.heap.update p (Obj.mapSeq (·.setIfInBounds j u))}:=
  I.OG hp ho (Ff its n j u) (r.set rv j) (by rw[List.length_set];exact hz) s.toks
 by_cases h0:0<=k
 ·have hk:k.toNat=j:=by
   rw[seqIndex_of h0 h4] at h1
   exact Option.some.inj h1
  exact PySem.W.ki_setAt ho h0 ∅ (by rw[size_toArray,<- hl];exact h4) (by rw[hk];exact⟨_,I',q⟩)
 ·have hk:(k+(its.toArray.size:Int)).toNat=j:=by
   rw[seqIndex_neg ∅ h3] at h1
   rw[size_toArray,<- hl]
   exact Option.some.inj h1
  exact PySem.W.ki_setBack ho ∅ (by rw[size_toArray,<- hl];exact h3) ∅ (by rw[hk];exact⟨_,I',q⟩)
theorem A9(lo hi:Option Int)(n:Nat):(sliceBounds lo hi none n).1=((HT.sIx n 0 lo:Nat):Int)/\(sliceBounds lo hi none n).2.1=((HT.sIx n n hi:Nat):Int)/\(sliceBounds lo hi none n).2.2=1:=by
 refine⟨?_,?_,rfl⟩
 ·cases lo with
  |none=>simp[sliceBounds,HT.sIx]
  |some i=>
   simp only[sliceBounds,HT.sIx,Option.getD_none,show (1:Int)>0 by decide,if_true]
   by_cases h:i<0
   ·simp only[h,if_true]<;>omega
   ·simp only[h,if_false]<;>omega
 ·cases hi with
  |none=>simp[sliceBounds,HT.sIx]
  |some i=>
   simp only[sliceBounds,HT.sIx,Option.getD_none,show (1:Int)>0 by decide,if_true]
   by_cases h:i<0
   ·simp only[h,if_true]<;>omega
   ·simp only[h,if_false]<;>omega
theorem yC(its:List Value)(lo hi:Option Int):slicePick its.toArray lo hi none=((its.drop (HT.sIx its.length 0 lo)).take (HT.sIx its.length its.length hi-HT.sIx its.length 0 lo)).toArray:=by
 obtain⟨h1,h2,h3⟩:=A9 lo hi its.toArray.size
 unfold slicePick
 rw[h1,h2,h3]
 simp only[sliceRange_one,pick_run,size_toArray]<;>rfl
noncomputable def SD(K:PySem.W.Frag):V->Option Int->Option Int->Hp->VK->Prop:=fun x lo hi H Q=>∃a xs,x = .ref a/\SqL K H a xs/\∀p,H p=none->Q (.ref p) (upd H p (.lst (AZ xs lo hi)))
theorem NP:SlR X (SD X.K):=by
 intro pins s σ H x v vl vu lo hi sl Q I rx hs pl pu h
 obtain⟨a,xs,rfl,hx,q⟩:=h
 cases rx
 obtain⟨its,r,ht,hz⟩:=I.list hx
 have hlen:=r.length
 refine⟨"list",_,slot_list_getitem.lookup,ht.isList.typeIs,?_⟩
 refine wpAny_getItem_list_slice ht.isList hs pl pu .none (by simp) ?_ (by rw[size_toArray]<;>omega)
 rw[yC,<- hlen]
 refine⟨.ref s.heap.objs.size,_,I.laid (t':=s.toks) (o:=.lst (AZ xs lo hi)) (fun b ob q=>Heap.get?_push_of_some _ q) (le_refl _) ?_,rfl,q _ (I.hok.fresh (le_refl _))⟩
 exact⟨le_trans (ur xs lo hi) hz,_,0,(r.drop (HT.sIx xs.length 0 lo)).take (HT.sIx xs.length xs.length hi-HT.sIx xs.length 0 lo),Heap.get?_push_size _ rfl⟩
theorem rO:jA X (.builtin "len") (fun xs H Q=>∃p ys,xs=[.ref p]/\(SqL X.K H p ys\/SqT X.K H p ys)/\Q (.int ys.length) H):=by
 intro pins s σ H xs us Q I r h
 obtain⟨p,ys,rfl,hq,q⟩:=h
 obtain⟨u,rfl,rx⟩:=vals1 r
 cases rx
 have hn:=wO
 rcases hq with hq|hq
 ·obtain⟨its,r',pl,hz⟩:=I.list hq
  have hlen:=r'.length
  exact Calls.call_len_list pl.isList (by simp only[size_toArray]<;>omega) ⟨.int ys.length,H,I.tok _,⟨s.toks+1,by rw[size_toArray,hlen]⟩,q⟩
 ·obtain⟨its,r',pl,hz⟩:=I.tuple hq
  have hlen:=r'.length
  exact len_tuple pl (by simp only[size_toArray]<;>omega) ⟨.int ys.length,H,I.tok _,⟨s.toks+1,by rw[size_toArray,hlen]⟩,q⟩
theorem Bv:jA X (.type "list") (fun xs H Q=>∃p ys,xs=[.ref p]/\(SqL X.K H p ys\/SqT X.K H p ys)/\∀l,H l=none->Q (.ref l) (upd H l (.lst ys))):=by
 intro pins s σ H xs us Q I r h
 obtain⟨p,ys,rfl,hq,q⟩:=h
 obtain⟨u,rfl,rx⟩:=vals1 r
 cases rx
 have fin:∀(its:List Value),Vals ys its->ys.length<=sizeLine->∀(h':Heap) (c':Nat),(∀b o',s.heap.get? b=some o'->h'.get? b=some o') ->
   h'.get? s.heap.objs.size=some {cls:=.type "list",dict:=none,data:=.seq its.toArray c',slots:=#[]}->EP X pins σ Q (.ref s.heap.objs.size) {s with heap:=h'}:=fun its r' hz h' c' kp e=>
  ⟨.ref s.heap.objs.size,_,I.laid (t':=s.toks) kp (le_refl _) (show gK X.prog X.w _ h' _ (.lst ys) from ⟨hz,its,c',r',e⟩),rfl,q _ (I.hok.fresh (le_refl _))⟩
 rcases hq with hq|hq
 ·obtain⟨its,r',pl,hz⟩:=I.list hq
  have hlen:=r'.length
  obtain⟨o,ho,hc,n,hd⟩:=pl.isList
  exact call_list_seq p (.inl rfl) ho hc hd (fun h' c' kp e=>fin its r' hz h' c' kp e) (by simp only[size_toArray]<;>omega)
 ·obtain⟨its,r',pl,hz⟩:=I.tuple hq
  have hlen:=r'.length
  obtain⟨o,ho,hc,n,hd⟩:=pl
  exact call_list_seq p (.inr rfl) ho hc hd (fun h' c' kp e=>fin its r' hz h' c' kp e) (by simp only[size_toArray]<;>omega)
theorem yH:jA X (.type "tuple") (fun xs H Q=>∃p ys,xs=[.ref p]/\((SqL X.K H p ys/\∀l,H l=none->Q (.ref l) (upd H l (.tup ys)))\/(SqT X.K H p ys/\Q (.ref p) H))):=by
 intro pins s σ H xs us Q I r h
 obtain⟨p,ys,rfl,h⟩:=h
 obtain⟨u,rfl,rx⟩:=vals1 r
 cases rx
 rcases h with ⟨hq,q⟩|⟨hq,q⟩
 ·obtain⟨its,r',pl,hz⟩:=I.list hq
  have hlen:=r'.length
  refine call_tuple_list pl.isList (fun h' kp=>?_) (by simp only[size_toArray]<;>omega)
  have I1:Inv X pins σ H {s with heap:=h'}:=I.kept (t':=s.toks) kp
  have I2:Inv X pins σ (upd H h'.objs.size (.tup ys)) {s with heap:=h'.push {cls:=.type "tuple",data:=.seq its.toArray}}:=
   I1.laid (t':=s.toks) (fun b o e=>Heap.get?_push_of_some _ e) (le_refl _) (show gK X.prog X.w _ _ _ (.tup ys) from ⟨hz,its,r',IsTup.new _ _⟩)
  exact⟨.ref h'.objs.size,_,I2,rfl,q _ (I1.hok.fresh (le_refl _))⟩
 ·obtain⟨its,r',pl,hz⟩:=I.tuple hq
  exact call_tuple_same pl ⟨.ref p,H,I,rfl,q⟩
noncomputable def tyV(K:PySem.W.Frag)(T:String)(x:V)(H:Hp):Prop:=match x with
 |.str _=>T = "str"
 |.int _=>T = "int"
 |.ref p=>(T = "list"/\∃xs,SqL K H p xs)\/(T = "tuple"/\∃o,K.lookup p=some o/\o.cls = .type "tuple"/\o.dict=none) \/
   (T = "dict"/\((∃kvs,H p=some (.dK kvs))\/∃kvs,H p=some (.dT kvs)))\/(T = "set"/\∃S n,H p=some (.set S n))
 |_=>False
theorem OJ{pins:List (Addr×Obj)}{σ:St}{H:Hp}{s:Shared}{T:String}{x:V}{v:Value}(I:Inv X pins σ H s)(r:RelV x v)(ty:tyV X.K T x H) :
  s.TypeIs v T/\∀a,v = .ref a->∃ob,s.heap.get? a=some ob/\ob.dict=none:=by
 cases x with
 |str z=>
  obtain⟨t,rfl⟩:=r
  cases (show T = "str" from ty)
  exact⟨typeIs_str s z t,fun _ e=>nomatch e⟩
 |int i=>
  obtain⟨t,rfl⟩:=r
  cases (show T = "int" from ty)
  exact⟨typeIs_int s i t,fun _ e=>nomatch e⟩
 |ref p=>
  cases r
  rcases ty with ⟨rfl,xs,hq⟩|⟨rfl,o,hk,hc,hd⟩|⟨rfl,hk⟩|⟨rfl,S,n,hk⟩
  ·obtain⟨its,_,pl,_⟩:=I.list hq
   refine⟨pl.isList.typeIs,fun a e=>?_⟩
   cases e
   obtain⟨o,n,e,c,hd,_⟩:=pl
   exact⟨o,e,hd⟩
  ·refine⟨⟨o,I.kIn p o hk,hc⟩,fun a e=>?_⟩
   cases e
   exact⟨o,I.kIn _ o hk,hd⟩
  ·have z:∃o,s.heap.get? p=some o/\o.ExactDict:=by
    rcases hk with ⟨kvs,hk⟩|⟨kvs,hk⟩
    ·obtain⟨_,_,_,_,o,_,_,e,ex,_⟩:=I.hok p _ hk
     exact⟨o,e,ex⟩
    ·obtain⟨_,_,_,_,o,_,_,e,ex,_⟩:=I.hok p _ hk
     exact⟨o,e,ex⟩
   obtain⟨o,e,ex⟩:=z
   refine⟨⟨o,e,ex.1⟩,fun a e2=>?_⟩
   cases e2
   exact⟨o,e,ex.2.1⟩
  ·obtain⟨o,_,_,_,e,ex,_⟩:=I.hok p _ hk
   refine⟨⟨o,e,ex.1⟩,fun a e2=>?_⟩
   cases e2
   exact⟨o,e,ex.2.1⟩
 |_=>exact False.elim ty
noncomputable def tBM(K:PySem.W.Frag)(T:String)(r:V->List V->Hp->VK->Prop)(to:TE)(t:TA):TE:=fun σ H Q=>to σ H fun x H1=>tyV K T x H1/\t σ H1 fun xs H2=>r x xs H2 Q
variable {o e:Expr}{es:List Expr}{to:TE}{t:TA}{name:Str}{apos cpos:Pos}{T id:String}{r:V->List V->Hp->VK->Prop}
theorem F8(pa:PlainAttrs T)(slot:Slot T name id)(hty:typeOf (.builtin id)=pure (.type "method_descriptor"))(hm:MtR X id r)(ho:PE X o to)(ha:PA X (e::es) t)
  (hbase:attributeBase o name X.env (eval o X.env)=eval o X.env:=by rfl)
  (hfew:((backTo cpos (starEach (e::es) X.env)).all (fun x=>!x.1)&&(backToKw cpos (keywordEach [] X.env)).all (fun x=>x.1.isSome)
   && decide ((e::es).length+([]:List Keyword).length+(if ([]:List Keyword).isEmpty then 0 else 1)<30))=true:=by rfl)
  (hline:(apos.endLine==cpos.line)=true:=by rfl) (hs:starEach (e::es) X.env=(false,eval e X.env)::starEach es X.env:=by rfl) (hplain:(backTo cpos (starEach es X.env)).any (·.1)=false:=by rfl) :
  PE X (.Call (.Attribute o name apos) (e::es) [] cpos) (tBM X.K T r to t):=by
 intro pins s σ H Q I h
 refine wpAny_Call_method_late hbase hfew hline rfl (thn (ho pins s σ H _ I h) fun v s1 hq0=>?_)
 obtain⟨x,H1,I1,r1,ty,q1⟩:=hq0
 obtain⟨h1,h2⟩:=OJ I1 r1 ty
 refine⟨T,id,pa,slot,hty,h1,h2,?_⟩
 have hA:=ha cpos pins s1 σ H1 _ I1 q1
 rw[hs] at hA ⊢
 refine Calls.callWith_builtin (by show (false || (backTo cpos (starEach es X.env)).any (·.1))=false;rw[hplain]<;>rfl) (Calls.evalArgs_plain ?_)
 exact thn hA fun us s2 ⟨vs,H2,I2,r2,q2⟩=>hm pins s2 σ H2 x vs v us Q I2 r1 r2 q2
end
end L2
namespace L2
open PySem PySem.Spec PyProof.Rows
noncomputable def MtM(X:Cx)(id:String)(r:V->List V->Hp->VK->Prop):Prop:=
 ∀(pins:List (Addr×Obj)) (s:Shared) (σ:St) (H:Hp) (x:V) (xs:List V) (v:Value) (us:List Value) (Q:VK),Inv X pins σ H s->RelV x v->Vals xs us->r x xs H Q ->
  wpAny (model X.prog X.w) X.A (call (.builtin id) (v::us)) (EP X pins σ Q) X.xe s
theorem Vals.one:∀{x:V} {us:List Value},Vals [x] us->∃u,us=[u]/\RelV x u
 |_,_,.cons r .nil=>⟨_,rfl,r⟩
theorem Vals.dropLast{xs:List V}{us:List Value}(h:Vals xs us):Vals xs.dropLast us.dropLast:=by
 induction h with
 |nil=>exact .nil
 |cons r t ih=>
  cases t with
  |nil=>exact .nil
  |cons q t'=>exact .cons r ih
theorem Vals.eraseIdx:∀{xs:List V} {us:List Value} (i:Nat),Vals xs us->Vals (xs.eraseIdx i) (us.eraseIdx i)
 |_,_,_,.nil=>.nil
 |_,_,0,.cons _ t=>t
 |_,_,i+1,.cons r t=>.cons r (Vals.eraseIdx i t)
theorem zA{α:Type}:∀(l:List α) (i:Nat),(l.eraseIdx i).length<=l.length
 |[],_=>le_refl _
 |_::_,0=>Nat.le_succ _
 |_::r,i+1=>Nat.succ_le_succ (zA r i)
section
variable {X:Cx}{pins:List (Addr×Obj)}{σ:St}{H:Hp}{s:Shared}{l b:Addr}{xs ys zs:List V}
theorem Inv.Nm{its its':List Value}{n:Nat}{f:Array Value->Array Value}{t':Nat}(I:Inv X pins σ H s)(hH:H l=some (.lst xs))
  (e:s.heap.get? l=some {cls:=.type "list",data:=.seq its.toArray n}) (hf:f its.toArray=its'.toArray) (hv:Vals ys its') (hz:ys.length<=sizeLine) :
  Inv X pins σ (upd H l (.lst ys)) {s with heap:=s.heap.update l (Obj.mapSeq f),toks:=t'}:=by
 have q:=PySem.IsL.update e f
 rw[hf] at q
 refine I.write (x:=l) (e:=l) (by rw[hH];exact trivial) (.inl rfl) (fun b' u hb hu=>(Heap.get?_update_other s.heap (Obj.mapSeq f) (Ne.symm hb)).trans hu) ⟨_,q⟩ ?_
 exact⟨hz,its',_,hv,q⟩
theorem Inv.Tj{its:List Value}{t':Nat}(I:Inv X pins σ H s)(hv:Vals ys its)(hz:ys.length<=sizeLine) :
  Inv X pins σ (upd H s.heap.objs.size (.lst ys)) {s with heap:=s.heap.push {cls:=.type "list",data:=.seq its.toArray},toks:=t'}:=
 I.laid (fun _ _ q=>Heap.get?_push_of_some _ q) (le_refl _) ⟨hz,its,0,hv,Heap.get?_push_size _ rfl⟩
theorem Inv.fresh(I:Inv X pins σ H s):H s.heap.objs.size=none:=I.hok.fresh (le_refl _)
theorem Inv.ER(I:Inv X pins σ H s)(hH:H l=some (.lst xs)):xs.length<=sizeLine/\∃(its:List Value) (n:Nat),Vals xs its/\xs.length=its.length/\s.heap.get? l=some {cls:=.type "list",data:=.seq its.toArray n}:=by
 obtain⟨z,its,n,r,e⟩:=I.hok l _ hH
 exact⟨z,its,n,r,r.length,e⟩
theorem Jq{n:Nat}(h:n<=sizeLine):Builtin.List.listTooLong n=false:=by
 unfold Builtin.List.listTooLong
 exact decide_eq_false ∅
end
section
variable {X:Cx}
noncomputable def MK:V->List V->Hp->VK->Prop:=fun x vs H Q=>∃l xs y,x = .ref l/\vs=[y]/\H l=some (.lst xs)/\xs.length<sizeLine/\Q .non (upd H l (.lst (xs++[y])))
theorem tH:MtM X "list.append" MK:=by
 intro pins s σ H x vs v us Q I rx rv h
 obtain⟨l,xs,y,rfl,rfl,hH,hz,q⟩:=h
 cases rx
 obtain⟨u,rfl,ru⟩:=rv.one
 obtain⟨z,its,n,r,hl,e⟩:=I.ER hH
 refine call_meets F.slot_list_append ⟨_,e,rfl⟩ F.entry_list_append (F.args_list_append_2 _ _) (PySem.list_append l its.toArray n u (by rw[size_toArray];omega)) ⟨e,?_⟩
 refine⟨.non,_,I.Nm (its':=its++[u]) hH e (by simp) (r.append (.cons ru .nil)) ?_,rfl,q⟩
 rw[length_append,List.length_singleton]
 omega
noncomputable def NH:V->List V->Hp->VK->Prop:=fun x vs H Q=>∃l b xs zs,x = .ref l/\vs=[.ref b]/\H l=some (.lst xs)/\H b=some (.lst zs)/\xs.length+zs.length<=sizeLine/\Q .non (upd H l (.lst (xs++zs)))
theorem IB:MtM X "list.extend" NH:=by
 intro pins s σ H x vs v us Q I rx rv h
 obtain⟨l,b,xs,zs,rfl,rfl,hH,hB,hz,q⟩:=h
 cases rx
 obtain⟨u,rfl,ru⟩:=rv.one
 cases ru
 obtain⟨z,its,n,r,hl,e⟩:=I.ER hH
 obtain⟨z2,its2,n2,r2,hl2,e2⟩:=I.ER hB
 have hsz:its.toArray.size+its2.toArray.size<=sizeLine:=by rw[size_toArray,size_toArray];omega
 have hlong:¬ (!its.toArray.isEmpty&&Builtin.List.listTooLong (its.toArray.size+its2.toArray.size))=true:=by
  rw[Jq hsz,Bool.and_false]
  exact Bool.false_ne_true
 refine call_meets F.slot_list_extend ⟨_,e,rfl⟩ F.entry_list_extend (F.args_list_extend_2 _ _)
  (AutoSeq1.list_extend_list_list_0 l its.toArray n b its2.toArray n2 hlong (by rw[size_toArray];omega) ∅) ⟨e,e2,?_⟩
 refine⟨.non,_,I.Nm (its':=its++its2) hH e (by simp) (r.append r2) ?_,rfl,q⟩
 rw[length_append]
 omega
noncomputable def OE:V->List V->Hp->VK->Prop:=fun x vs H Q=>∃l xs i k y,x = .ref l/\vs=[.int i]/\H l=some (.lst xs)/\-(2 ^ 63)<=i/\i<2 ^ 63/\seqIndex? i xs.length=some k/\xs[k]? = some y/\Q y (upd H l (.lst (xs.eraseIdx k)))
theorem Kr:MtM X "list.pop" OE:=by
 intro pins s σ H x vs v us Q I rx rv h
 obtain⟨l,xs,i,k,y,rfl,rfl,hH,h1,h2,hk,hy,q⟩:=h
 cases rx
 obtain⟨u,rfl,ru⟩:=rv.one
 obtain⟨t,rfl⟩:=ru
 obtain⟨z,its,n,r,hl,e⟩:=I.ER hH
 obtain⟨w,hw,rw'⟩:=r.get hy
 refine call_meets F.slot_list_pop ⟨_,e,rfl⟩ F.entry_list_pop (F.args_list_pop_2 _ _)
  (MeetsSeq.list_pop_at l its.toArray n i t k w (fitsIndex_both h1 h2) (by rw[size_toArray,<- hl];exact hk) (by rw[<- Array.getElem?_toList];exact hw) (by rw[size_toArray];omega)) ⟨e,?_⟩
 refine⟨y,_,I.Nm (its':=its.eraseIdx k) hH e ?_ (r.eraseIdx k) ?_,rw',q⟩
 ·show its.toArray.eraseIdxIfInBounds k=(its.eraseIdx k).toArray
  rw[List.eraseIdxIfInBounds_toArray]
 ·have:=zA xs k
  omega
noncomputable def Ow:R2:=fun x y H Q=>∃l b xs zs,x = .ref l/\y = .ref b/\H l=some (.lst xs)/\H b=some (.lst zs)/\xs.length+zs.length<=sizeLine/\∀p,H p=none->Q (.ref p) (upd H p (.lst (xs++zs)))
theorem Qy:OpR X (binaryOp .Add) Ow:=by
 intro pins s σ H x y v u Q I rx ry h
 obtain⟨l,b,xs,zs,rfl,rfl,hH,hB,hz,q⟩:=h
 cases rx
 cases ry
 obtain⟨z,its,n,r,hl,e⟩:=I.ER hH
 obtain⟨z2,its2,n2,r2,hl2,e2⟩:=I.ER hB
 refine PySem.P.add_list e e2 ?_ (by rw[size_toArray,size_toArray];omega)
 have ea:its.toArray++its2.toArray=(its++its2).toArray:=by simp
 rw[ea]
 exact⟨.ref _,_,I.Tj (t':=s.toks) (r.append r2) (by rw[length_append];omega),rfl,q _ I.fresh⟩
end
end L2
namespace Att
open PySem PySem.W PySem.Calls PyProof.Rows
theorem vm{P:Params}{h:Heap}:∀(ns:List Int) (vs:List Value),WellAll P h vs (ns.map WData.int)->IntsAre vs ns:=by
 intro ns
 induction ns with
 |nil=>
  intro vs w
  rw[map_nil] at w
  cases w
  exact .nil
 |cons n ns ih=>
  intro vs w
  rw[map_cons] at w
  cases w with
  |cons a b=>
   cases a
   exact .cons _ _ (ih _ b)
theorem HZ{l:OpenLaw}{n:Nat}(hn:l.most=some n){P:Params}{h:Heap}{args:List WData}{vals:List Value}
  (hpre:l.row.toRowW.claim.pre args=true) (hwl:WellAll P h vals args) :
  ∃a vs ns,vals=[Value.ref a]/\args=[WData.list (ns.map WData.int)]/\h.get? a=some {cls:=.type "list",data:=.seq vs.toArray}/\IntsAre vs ns/\ns.length<=n:=by
 have hsh:WShape.hasAll [] args [.list .int]=true:=(pre_splitW hpre).1
 have hc:l.pre.holds [] {args:=args} = true:=(pre_splitW hpre).2
 obtain⟨d,r,rfl,h1,h2⟩:=hasAllW_cons hsh
 obtain rfl:=hasAllW_nil h2
 obtain⟨xs,rfl,h3⟩:=hasW_list h1
 obtain⟨ns,rfl⟩:=items_int h3
 have hlen:ns.length<=n:=by
  unfold OpenLaw.pre at hc
  have h4:(WTm.not (.lt (.lit (.int (n:Int))) (.len (.arg 0)))).holds [] {args:=[.list (ns.map .int)]} = true:=by
   have h4:=(holds_andW hc).1
   rw[hn] at h4
   exact h4
  have h5:=condW_of h4 (w_not (w_lt w_lit (w_len_list (w_arg rfl))))
  rw[length_map] at h5
  refine Nat.le_of_not_lt fun q=>?_
  have q':(n:Int)<((ns.length:Nat):Int):=by omega
  first
   |(rw[decide_eq_true q'] at h5;exact absurd h5 ⋯)
   |(simp at h5;omega)
 cases hwl with
 |cons w1 w2=>
  cases w2
  cases w1 with
  |list ho hall=>exact⟨_,_,ns,rfl,rfl,ho,vm ns _ hall,hlen⟩
theorem IE(l:OpenLaw)(args:List WData):l.row.toRowW.claim.post args (.bool true) args=true:=
 postW_of (r:=l.row.toRowW) (X:=(true==true))
  (show WShape.has [] (.bool true) .bool=true by first|rfl|decide|simp[WShape.has,WShape.arms,WShape.armsAll])
  (show (WTm.eq .res (.lit (.bool true))).value [] {args:=args,res:=some (.bool true),after:=args} = some (.bool (true==true)) from w_eq_bool (w_res rfl) w_lit) rfl
theorem DP{l:OpenLaw}{n:Nat}{q:Program}{loose:List Str}{XP:(Str->Option Value)->Heap->Prop}{YP:World->Heap->Prop}{d:DefRec}
  (hn:l.most=some n) (hdf:d.params.defaults=[])
  (call:∀(w:World) (io gV:Shared) (mg mb:Str->Option Value) (fa:Addr) (o:Obj) (pm cd doc:Value) (a:Addr) (vs:List Value) (ns:List Int),
   Ground q loose [] XP w io mg mb gV.heap->YP w gV.heap ->
   gV.heap.get? fa=some o->o.data = .func (docDef d.name d.params d.body d.scope pm cd doc)->gV.heap.CodeRec cd d.name->mg d.name=some (.ref fa) ->
   gV.heap.get? a=some {cls:=.type "list",data:=.seq vs.toArray}->IntsAre vs ns->ns.length<=n->gV.gens = #[] ->
   codeAny (model l.prog w) callerA (.call (.ref fa) ⟨[.ref a],[]⟩) (fun r s'=>r = .ok (.ret (.bool true))/\OldK gV.heap s'.heap/\s'.os=gV.os/\AllBare s'.gens) gV) :
  WalkO q loose XP YP l.row.toRowW d [] (fun f vs=>PySem.call f vs):=by
 intro w io gV mg mb G Y fa o pm cd doc dV kV ho hd hcd hD hmg hg args vals as hpre hlay hrd hwl hlo
 obtain rfl:dV = .none:=Dflts.none hD hdf
 obtain rfl:kV = .none:=Dflts.noKw hD
 obtain⟨a,vs,ns,rfl,rfl,hobj,hints,hlen⟩:=HZ hn hpre hwl
 refine enter_call (codeAny_mono (call w io gV mg mb fa o pm cd doc a vs ns G Y ho (fd_plain hd) hcd hmg hobj hints hlen hg) fun r s' hq=>?_)
 obtain⟨rfl,h2,h3,h4⟩:=hq
 exact⟨.inl ⟨.bool true,.bool true,[],rfl,fun _=>rfl,.bool true,IE l _,fun _=>⟨List.Pairwise.nil,fun _ hm=>(nomatch hm)⟩⟩,h2,h3,h4⟩
end Att
namespace L2
open PySem PySem.Spec PyProof.Rows
theorem zp:∀{vs:List Value} {ns:List Int},IntsAre vs ns->Vals (ns.map V.int) vs
 |_,_,.nil=>.nil
 |_,_,.cons n t h=>.cons ⟨t,rfl⟩ (zp h)
end L2
namespace L2
open PySem PySem.Spec PyProof.Rows
end L2
namespace L2
open PySem PySem.Spec PyProof.Rows
noncomputable abbrev CX0:CXT:=fun _ _ _ _ _ _=>False
noncomputable abbrev E0:XK:=fun _ _ _=>False
theorem R4{X:Cx}:Passes CX0 X E0:=fun _ _ _ _ _ _ _ h=>h.elim
structure Fun(K:PySem.W.Frag)(x qual:Str)(st:Stmt)(f:Addr)(fd:FuncData):Prop where
 ex:∃(oc:Value) (od:Option Addr) (kV doc pm:Value) (an:Option Addr) (cdv ct:Value) (osl:Array (Option Value)),
  fd=fnOf x qual (iR st) (d6 st) (az st) .none kV doc pm an cdv ct/\K.lookup f=some ⟨oc,od,.func fd,osl⟩/\codeIn K cdv qual=true
 kp:keepIn K (.ref f)=true
section
variable {P:Program}{w:World}{K:PySem.W.Frag}{mg:Str->Option Value}{base:Heap}
theorem Fun.ok{x qual:Str}{st:Stmt}{f:Addr}{fd:FuncData}{N ps:List Str}{k:Nat}{sp:Sp}(F:Fun K x qual st f fd)(S:aJ N ps (az st))(len:∀vs H Q E,sp vs H Q E->vs.length=ps.length)
  (hbody:∀(cdv:Value) (A:Around) (outer:List Env) (s:Shared) (H:Hp) (vs:List V) (Q:VK) (E:XK),fV k (A.deeper (envOfC qual (az st) s.heap.objs.size f cdv))->sp vs H Q E ->
   ∃t,PSs (kn CX0 P w K mg base N qual (az st) f cdv A outer s H E).nox (d6 st) t/\t {nx:=fun _ H'=>Q .non H',rt:=Q} (start N vs) H):iy P w K mg base CX0 (k+1) f fd ps sp:=by
 obtain⟨oc,od,kV,doc,pm,an,cdv,ct,osl,rfl,lk,hcd⟩:=F.ex
 refine K1 lk hcd S len fun A outer s H vs Q E hr hsp=>?_
 obtain⟨t,h,q⟩:=hbody cdv A outer s H vs Q E hr hsp
 exact⟨t,h.nox,q⟩
theorem Fun.binds{x qual:Str}{st:Stmt}{f:Addr}{fd:FuncData}{ps:List Str}(F:Fun K x qual st f fd)
  (h:∀(kV doc pm:Value) (an:Option Addr) (cdv ct:Value) (us:List Value),us.length=ps.length->bindArgs (fnOf x qual (iR st) (d6 st) (az st) .none kV doc pm an cdv ct) ⟨us,[]⟩=pure (ps.zip us)):Binds K fd ps []:=by
 obtain⟨oc,od,kV,doc,pm,an,cdv,ct,osl,rfl,lk,hcd⟩:=F.ex
 exact .all (h kV doc pm an cdv ct)
theorem PF{x qual:Str}{st:Stmt}{f:Addr}{oc:Value}{od an:Option Addr}{osl:Array (Option Value)}{kV doc pm cdv ct:Value}(l:K.lookup f=some ⟨oc,od,.func (fnOf x qual (iR st) (d6 st) (az st) .none kV doc pm an cdv ct),osl⟩)
  (c:codeIn K cdv qual=true) (k:keepIn K (.ref f)=true):Fun K x qual st f (fnOf x qual (iR st) (d6 st) (az st) .none kV doc pm an cdv ct):=⟨⟨oc,od,kV,doc,pm,an,cdv,ct,osl,rfl,l,c⟩,k⟩
end
theorem fS{n:Nat}(h:n<=1000):n<sizeLine:=Nat.lt_of_le_of_lt h ⋯
theorem Fd{A B:Prop}(h:B):if false=true then A else B:=by
 rw[if_neg Bool.false_ne_true]
 exact h
theorem Fp{A B:Prop}(h:A):if true=true then A else B:=by
 rw[if_pos rfl]
 exact h
noncomputable def Ar(H H':Hp):Prop:=∀b o,H b=some o->H' b=some o
theorem Ar.refl(H:Hp):Ar H H:=fun _ _ h=>h
end L2
namespace ST
open PySem PySem.SetTable
noncomputable def fiv(M x:Nat):Nat:=(x*5+1) % M
noncomputable def itf(M:Nat):Nat->Nat->Nat
 |0,x=>x
 |n+1,x=>fiv M (itf M n x)
noncomputable def geo:Nat->Nat
 |0=>0
 |p+1=>5*geo p+1
theorem Nx:∀p,4*geo p+1=5 ^ p
 |0=>rfl
 |p+1=>by
  have:=Nx p
  rw[geo,pow_succ]
  omega
theorem FR:∀p,geo p % 2=p % 2
 |0=>rfl
 |p+1=>by
  have:=FR p
  rw[geo]
  omega
theorem Mw(q:Nat):geo (2*q)=geo q*(2*geo q+1)*2:=by
 have h1:=Nx (2*q)
 have h2:=Nx q
 have h3:5 ^ (2*q)=5 ^ q*5 ^ q:=by rw[<- Nat.pow_add];congr 1;omega
 rw[h3,<- h2] at h1
 have h4:(4*geo q+1)*(4*geo q+1)=4*(geo q*(2*geo q+1)*2)+1:=by
  generalize geo q=g
  have:geo q=geo q:=rfl
  simp only[Nat.add_mul,Nat.mul_add,Nat.mul_assoc,Nat.mul_one,Nat.one_mul]
  have e1:g*(4*g)=4*(g*g):=by rw[Nat.mul_left_comm]
  have e2:g*(2*(g*2))=4*(g*g):=by rw[Nat.mul_left_comm,<- Nat.mul_assoc g g 2];omega
  rw[e1,e2]
  omega
 rw[h4] at h1
 omega
theorem F6:∀k p:Nat,2 ^ k ∣ geo p->2 ^ k ∣ p
 |0,p,_=>by rw[Nat.pow_zero];exact Nat.one_dvd p
 |k+1,p,h=>by
  have h2:2 ∣ geo p:=Nat.dvd_trans ⟨2 ^ k,by rw[pow_succ,Nat.mul_comm]⟩ h
  have hp:p % 2=0:=by rw[<- FR];omega
  obtain⟨q,rfl⟩:∃q,p=2*q:=⟨p / 2,∅⟩
  rw[Mw,pow_succ] at h
  have h3:=Nat.dvd_of_mul_dvd_mul_right (by decide:0<2) h
  have co:Nat.Coprime (2 ^ k) (2*geo q+1):=by
   refine Nat.Coprime.pow_left k ?_
   unfold Nat.Coprime
   rw[Nat.gcd_rec]
   have:(2*geo q+1) % 2=1:=by omega
   rw[this]
   decide
  have h4:=F6 k q (co.dvd_of_dvd_mul_right h3)
  rw[pow_succ,Nat.mul_comm 2 q]
  exact Nat.mul_dvd_mul_right h4 2
theorem KY{M a b:Nat}(h:a % M=b % M):(a*5+1) % M=(b*5+1) % M:=by
 rw[Nat.add_mod,Nat.mul_mod,h,<- Nat.mul_mod,<- Nat.add_mod]
theorem GS(M:Nat)(x:Nat):∀n,itf M n x % M=(5 ^ n*x+geo n) % M
 |0=>by rw[itf,geo,Nat.pow_zero,Nat.one_mul,Nat.add_zero]
 |n+1=>by
  rw[itf,fiv,Nat.mod_mod,KY (GS M x n),geo,pow_succ]
  congr 1
  rw[Nat.add_mul,Nat.mul_right_comm,Nat.mul_comm (geo n) 5];omega
theorem GU(M:Nat)(a x:Nat):∀b,itf M (a+b) x=itf M b (itf M a x)
 |0=>rfl
 |b+1=>by show fiv M (itf M (a+b) x)=_;rw[GU M a x b];rfl
theorem cyc{k p x:Nat}(h:(5 ^ p*x+geo p) % 2 ^ k=x % 2 ^ k):2 ^ k ∣ p:=by
 refine F6 k p ?_
 have h1:=Nat.sub_mod_eq_zero_of_mod_eq h
 have e:5 ^ p*x+geo p-x=geo p*(4*x+1):=by
  rw[<- Nx p,Nat.add_mul,Nat.mul_add,Nat.mul_one,Nat.one_mul]
  have:4*geo p*x=geo p*(4*x):=by rw[Nat.mul_comm 4,Nat.mul_assoc]
  omega
 rw[e] at h1
 have co:Nat.Coprime (2 ^ k) (4*x+1):=by
  refine Nat.Coprime.pow_left k ?_
  unfold Nat.Coprime
  rw[Nat.gcd_rec]
  have:(4*x+1) % 2=1:=by omega
  rw[this]
  decide
 exact co.dvd_of_dvd_mul_right (Nat.dvd_of_mod_eq_zero h1)
theorem Nu{k a b x:Nat}(h:a<b)(hb:b<2 ^ k)(hx:itf (2 ^ k) a x=itf (2 ^ k) b x):False:=by
 obtain⟨p,rfl⟩:∃p,b=a+p:=⟨b-a,∅⟩
 rw[GU] at hx
 have h1:=GS (2 ^ k) (itf (2 ^ k) a x) p
 rw[<- hx] at h1
 have h2:=Nat.le_of_dvd ∅ (cyc h1.symm)
 omega
theorem pig:∀(l O:List Nat),l.Nodup->(∀x∈l,x∈O)->l.length<=O.length
 |[],_,_,_=>zero_le _
 |a::l,O,h,s=>by
  rw[List.nodup_cons] at h
  have ha:=s a (mem_cons_self ..)
  have:=pig l (O.erase a) h.2 fun x hx=>(List.mem_erase_of_ne (fun z=>h.1 (by rw[<- z];exact hx))).mpr (s x (mem_cons_of_mem _ hx))
  rw[List.length_erase_of_mem ha] at this
  have:0<O.length:=length_pos_of_mem ha
  rw[length_cons]
  omega
theorem IK{k:Nat}{O:List Nat}(x:Nat)(hc:O.length<2 ^ k):∃r,r<=O.length/\itf (2 ^ k) r x ∉ O:=by
 by_cases h:∃r,r<=O.length/\itf (2 ^ k) r x ∉ O
 ·exact h
 exfalso
 have a:∀r,r<=O.length->itf (2 ^ k) r x∈O:=fun r hr=>Classical.byContradiction fun z=>h ⟨r,hr,z⟩
 have:=pig ((List.range (O.length+1)).map fun r=>itf (2 ^ k) r x) O ?_ fun y hy=>?_
 ·rw[length_map,List.length_range] at this
  omega
 ·refine List.pairwise_map.mpr (List.Pairwise.imp_of_mem (fun {p q} hp hq (hpq:p<q) z=>?_) List.pairwise_lt_range)
  rw[List.mem_range] at hq
  exact Nu hpq ∅ z
 ·obtain⟨r,hr,rfl⟩:=List.mem_map.mp hy
  rw[List.mem_range] at hr
  exact a r ∅
noncomputable def lp(m:Nat)(s:Nat×Nat):Nat->Nat×Nat
 |0=>s
 |n+1=>leap m (lp m s n).1 (lp m s n).2
theorem JU(m:Nat)(s:Nat×Nat):∀n,(lp m s n).2=s.2 / 32 ^ n
 |0=>by rw[Nat.pow_zero,Nat.div_one];rfl
 |n+1=>by
  show (lp m s n).2 / 32=_
  rw[JU m s n,Nat.div_div_eq_div_mul,pow_succ]
theorem FL(m:Nat)(s:Nat×Nat)(h:s.2<2 ^ 64):∀r,lp m s (13+r)=(itf (m+1) r (lp m s 13).1,0)
 |0=>by
  have:=JU m s 13
  rw[Nat.div_eq_of_lt (lt_of_lt_of_le h ⋯)] at this
  exact Prod.ext rfl this
 |r+1=>by
  show leap m (lp m s (13+r)).1 (lp m s (13+r)).2=_
  rw[FL m s h r]
  show ((itf (m+1) r (lp m s 13).1*5+1+0 / 32) % (m+1),0 / 32)=_
  rw[Nat.zero_div,Nat.add_zero]
  rfl
theorem zU{m k:Nat}(hm:m+1=2 ^ k){O:List Nat}(hc:O.length<=m)(s:Nat×Nat)(h:s.2<2 ^ 64):∃L,L<=13+O.length/\(lp m s L).1 ∉ O:=by
 obtain⟨r,h1,h2⟩:=IK (k:=k) (O:=O) (lp m s 13).1 ∅
 refine⟨13+r,∅,?_⟩
 rw[FL m s h,hm]
 exact h2
theorem GO(m i p:Nat):(leap m i p).1<=m:=by
 have:(i*5+1+p / 32) % (m+1)<m+1:=Nat.mod_lt _ (Nat.succ_pos m)
 show (i*5+1+p / 32) % (m+1)<=m
 omega
theorem Hw(h:Int):bits h<2 ^ 64:=by
 unfold bits
 have:=Int.emod_lt_of_pos h (show (0:Int)<2 ^ 64 by decide)
 have:=Int.emod_nonneg h (show (2 ^ 64:Int)≠0 by decide)
 omega
noncomputable def adv(m:Nat)(p:Probe):Probe:=
 if p.more>0 then {p with j:=p.j+1,more:=p.more-1} else
 {p with j:=(leap m p.i p.perturb).1,more:=runEnd m (leap m p.i p.perturb).1-(leap m p.i p.perturb).1,i:=(leap m p.i p.perturb).1,perturb:=(leap m p.i p.perturb).2}
noncomputable def st(m:Nat)(s:Nat×Nat):Probe:={j:=s.1,more:=runEnd m s.1-s.1,i:=s.1,perturb:=s.2,dummy:=none}
noncomputable def sth(m:Nat)(h:Int):Probe:=st m (bits h % (m+1),bits h)
inductive Way(m:Nat)(O:Nat->Prop):Probe->Nat->Nat->Prop
 |here {p:Probe}:p.dummy=none->¬ O p.j->Way m O p 0 p.j
 |step {p:Probe} {n e:Nat}:p.dummy=none->O p.j->Way m O (adv m p) n e->Way m O p (n+1) e
inductive On(m:Nat)(O:Nat->Prop):Probe->Nat->Prop
 |here {p:Probe}:On m O p p.j
 |step {p:Probe} {j:Nat}:O p.j->On m O (adv m p) j->On m O p j
theorem On.mono{m:Nat}{O O':Nat->Prop}(s:∀j,O j->O' j){p:Probe}{j:Nat}(h:On m O p j):On m O' p j:=by
 induction h with
 |here=>exact .here
 |step a _ ih=>exact .step (s _ a) ih
theorem Way.on{m:Nat}{O:Nat->Prop}{p:Probe}{n e:Nat}(h:Way m O p n e):On m O p e/\¬ O e:=by
 induction h with
 |here _ a=>exact⟨.here,a⟩
 |step _ a _ ih=>exact⟨.step a ih.1,ih.2⟩
theorem O4(m i:Nat):runEnd m i-i<=9:=by unfold runEnd;split<;>omega
theorem E6{m i:Nat}(h:i<=m):runEnd m i<=m:=by unfold runEnd;split<;>omega
theorem Fq(m i:Nat):i<=runEnd m i:=by unfold runEnd;split<;>omega
theorem Way.le{m:Nat}{O:Nat->Prop}{p:Probe}{n e:Nat}(h:Way m O p n e):p.j+p.more<=m->e<=m:=by
 induction h with
 |here _ _=>omega
 |@step p n e _ a _ ih=>
  intro hp
  refine ih ?_
  unfold adv
  split
  ·show p.j+1+(p.more-1)<=m;omega
  ·show (leap m p.i p.perturb).1+(runEnd m (leap m p.i p.perturb).1-(leap m p.i p.perturb).1)<=m
   have h1:=GO m p.i p.perturb
   have:=E6 h1
   omega
theorem GB{m:Nat}{O:Nat->Prop}{i pt n1 e1:Nat}(w:Way m O (st m (leap m i pt)) n1 e1):∀(more j:Nat),∃n e,Way m O {j:=j,more:=more,i:=i,perturb:=pt,dummy:=none} n e/\n<=more+1+n1
 |0,j=>by
  by_cases h:O j
  ·exact⟨n1+1,e1,.step rfl h w,∅⟩
  ·exact⟨0,j,.here rfl h,∅⟩
 |more+1,j=>by
  by_cases h:O j
  ·obtain⟨n,e,w1,hn⟩:=GB w more (j+1)
   exact⟨n+1,e,.step rfl h w1,∅⟩
  ·exact⟨0,j,.here rfl h,∅⟩
theorem Ld{m:Nat}{O:Nat->Prop}{s:Nat×Nat}{L:Nat}(hL:¬ O (lp m s L).1):∀d,d<=L->∃n e,Way m O (st m (lp m s (L-d))) n e/\n<=10*d
 |0,_=>⟨0,_,.here rfl hL,∅⟩
 |d+1,hd=>by
  obtain⟨n,e,w,hn⟩:=Ld hL d ∅
  have e1:L-d=(L-(d+1))+1:=by omega
  rw[e1] at w
  obtain⟨n',e',w',hn'⟩:=GB (i:=(lp m s (L-(d+1))).1) (pt:=(lp m s (L-(d+1))).2) w (runEnd m (lp m s (L-(d+1))).1-(lp m s (L-(d+1))).1) (lp m s (L-(d+1))).1
  have:=O4 m (lp m s (L-(d+1))).1
  exact⟨n',e',w',∅⟩
theorem Je{m k:Nat}(hm:m+1=2 ^ k){O:List Nat}(hc:O.length<=m)(h:Int):∃n e,Way m (·∈O) (sth m h) n e/\n<=10*(13+O.length)/\e<=m:=by
 obtain⟨L,h1,h2⟩:=zU hm hc (bits h % (m+1),bits h) (Hw h)
 obtain⟨n,e,w,hn⟩:=Ld (O:=(·∈O)) h2 L (le_refl _)
 rw[Nat.sub_self] at w
 refine⟨n,e,w,∅,w.le ?_⟩
 have:=E6 (m:=m) (i:=bits h % (m+1)) (Nat.le_of_lt_succ (Nat.mod_lt _ (Nat.succ_pos m)))
 have:=Fq m (bits h % (m+1))
 show bits h % (m+1)+(runEnd m (bits h % (m+1))-bits h % (m+1))<=m
 omega
theorem xf{A B:List Nat}{j:Nat}(hA:∀a∈A,a<j)(hB:∀b∈B,j<=b):∀fuel lo hi,lo<=A.length->A.length<=hi->hi<=(A++B).length->hi-lo<=fuel->below.go (A++B).toArray j fuel lo hi=A.length
 |0,lo,hi,h1,h2,_,h4=>by show lo=_;omega
 |fuel+1,lo,hi,h1,h2,h3,h4=>by
  rw[below.go]
  by_cases c:lo<hi
  ·rw[if_pos c]
   have hmid:(lo+hi) / 2<(A++B).length:=by omega
   have hg:(A++B).toArray.getD ((lo+hi) / 2) j=(A++B)[(lo+hi) / 2]:=by rw[Array.getD];exact dif_pos (by rw[size_toArray];exact hmid)
   simp only[hg]
   by_cases d:(lo+hi) / 2<A.length
   ·have:(A++B)[(lo+hi) / 2]=A[(lo+hi) / 2]:=List.getElem_append_left d
    rw[this,if_pos (hA _ (getElem_mem d))]
    exact xf hA hB fuel _ _ ∅ h2 h3 ∅
   ·have:(A++B)[(lo+hi) / 2]=B[(lo+hi) / 2-A.length]'(by rw[length_append] at hmid;omega):=List.getElem_append_right ∅
    rw[this,if_neg (Nat.not_lt.mpr (hB _ (getElem_mem _)))]
    exact xf hA hB fuel _ _ h1 ∅ ∅ ∅
  ·rw[if_neg c]
   omega
theorem Jp{A B:List Nat}{j:Nat}(hA:∀a∈A,a<j)(hB:∀b∈B,j<=b):below (A++B).toArray j=A.length:=by
 unfold below
 refine xf hA hB _ _ _ (zero_le _) ?_ ?_ ?_
 ·rw[size_toArray,length_append];omega
 ·rw[size_toArray];exact le_refl _
 ·omega
theorem zL{α:Type}(A B:List α)(x:α):insertAt (A++B).toArray A.length x=(A++x::B).toArray:=by
 unfold insertAt
 apply Array.ext'
 simp
end ST
namespace ST
open PySem PySem.SetTable
theorem On.inv{m:Nat}{O:Nat->Prop}{p:Probe}{j:Nat}(h:On m O p j):j=p.j\/(O p.j/\On m O (adv m p) j):=by
 cases h with
 |here=>exact .inl rfl
 |step a b=>exact .inr ⟨a,b⟩
section
variable {β:Type}
noncomputable abbrev Ln(β:Type):=List (Nat×Int×β)
noncomputable def Occ(L:Ln β)(j:Nat):Prop:=j∈L.map (·.1)
structure Tab(t:SetTable)(L:Ln β):Prop where
 place:t.place=(L.map (·.1)).toArray
 ris:L.Pairwise fun a b=>a.1<b.1
 le:∀x∈L,x.1<=t.mask
 dum:t.dummies = #[]
 two:∃k,t.mask+1=2 ^ k/\3<=k
 on:∀x∈L,On t.mask (Occ L) (sth t.mask x.2.1) x.1
theorem Hu(j:Nat):has #[] j=false:=by
 have:below #[] j=0:=rfl
 unfold has
 rw[this]
 rfl
theorem DV{L:Ln β}(r:L.Pairwise fun a b=>a.1<b.1)(j:Nat):∃A B:Ln β,L=A++B/\(∀a∈A,a.1<j)/\∀b∈B,j<=b.1:=by
 induction L with
 |nil=>exact⟨[],[],rfl,fun _ h=>by simp at h,fun _ h=>by simp at h⟩
 |cons x L ih=>
  rw[List.pairwise_cons] at r
  by_cases h:x.1<j
  ·obtain⟨A,B,rfl,h1,h2⟩:=ih r.2
   refine⟨x::A,B,rfl,fun a ha=>?_,h2⟩
   rcases List.mem_cons.mp ha with rfl|ha
   ·exact h
   ·exact h1 a ha
  ·refine⟨[],x::L,rfl,fun _ h=>by simp at h,fun b hb=>?_⟩
   rcases List.mem_cons.mp hb with rfl|hb
   ·omega
   ·have:=r.1 b hb;omega
theorem Tab.below{t:SetTable}{A B:Ln β}(T:Tab t (A++B)){j:Nat}(h1:∀a∈A,a.1<j)(h2:∀b∈B,j<=b.1):SetTable.below t.place j=A.length:=by
 rw[T.place,map_append]
 rw[Jp (j:=j) (fun a ha=>by obtain⟨x,hx,rfl⟩:=List.mem_map.mp ha;exact h1 x hx) (fun b hb=>by obtain⟨x,hx,rfl⟩:=List.mem_map.mp hb;exact h2 x hx),length_map]
theorem Tab.IJ{t:SetTable}{L:Ln β}(T:Tab t L){j:Nat}(h:¬ Occ L j):t.slot j = .empty:=by
 obtain⟨A,B,rfl,h1,h2⟩:=DV T.ris j
 unfold slot
 rw[T.below h1 h2,T.dum,Hu]
 have:(t.place[A.length]?==some j)=false:=by
  rw[T.place]
  cases B with
  |nil=>simp
  |cons b B=>
   simp only[map_append,map_cons,List.getElem?_toArray]
   rw[getElem?_append_right (by simp),length_map,Nat.sub_self]
   have:b.1≠j:=fun z=>h (by unfold Occ;rw[<- z];simp)
   simp[this]
 rw[if_neg (by rw[this];decide)]
 rfl
theorem GI{A B:Ln β}{x:Nat×Int×β}(r:(A++x::B).Pairwise fun a b=>a.1<b.1):(∀a∈A,a.1<x.1)/\∀b∈B,x.1<b.1:=by
 rw[List.pairwise_append,List.pairwise_cons] at r
 exact⟨fun a ha=>r.2.2 a ha x (mem_cons_self ..),fun b hb=>r.2.1.1 b hb⟩
theorem Tab.IH{t:SetTable}{A B:Ln β}{x:Nat×Int×β}(T:Tab t (A++x::B)):t.slot x.1 = .live A.length:=by
 obtain⟨h1,h2⟩:=GI T.ris
 unfold slot
 rw[T.below h1 (fun b hb=>by rcases List.mem_cons.mp hb with rfl|hb;exact le_refl _;exact Nat.le_of_lt (h2 b hb))]
 have:(t.place[A.length]?==some x.1)=true:=by
  rw[T.place]
  simp
 rw[if_pos this]
theorem Tab.Ms{t:SetTable}{L:Ln β}(T:Tab t L){j:Nat}(h:Occ L j):∃i x,t.slot j = .live i/\L[i]? = some (j,x):=by
 obtain⟨⟨j',x⟩,hx,rfl⟩:=List.mem_map.mp h
 obtain⟨A,B,rfl⟩:=List.append_of_mem hx
 exact⟨A.length,x,T.IH,by simp⟩
theorem Tab.uniq{t:SetTable}{L:Ln β}(T:Tab t L){j:Nat}{x y:Int×β}(h1:(j,x)∈L)(h2:(j,y)∈L):x=y:=by
 obtain⟨A,B,rfl⟩:=List.append_of_mem h1
 obtain⟨a1,a2⟩:=GI T.ris
 rcases List.mem_append.mp h2 with h|h
 ·exact absurd (a1 _ h) (lt_irrefl _)
 ·rcases List.mem_cons.mp h with h|h
  ·cases h;rfl
  ·exact absurd (a2 _ h) (lt_irrefl _)
noncomputable def hashOf(L:Ln β)(i:Nat):Int:=(L[i]?.map (·.2.1)).getD 0
theorem Kt{t:SetTable}{L:Ln β}(T:Tab t L){hashAt:Nat->Int}(hh:∀i,i<L.length->hashAt i=hashOf L i)(h:Int) :
  ∀(n:Nat) (p:Probe) (e fuel:Nat),Way t.mask (Occ L) p n e->n<fuel ->
   (probe.go t hashAt h fuel p=some (.empty e none)/\∀x∈L,x.2.1=h->¬ On t.mask (Occ L) p x.1) \/
   (∃i x next n',probe.go t hashAt h fuel p=some (.candidate x.1 i next)/\L[i]? = some x/\t.slot x.1 = .live i/\x.2.1=h/\n'<n/\Way t.mask (Occ L) next n' e /\
    ∀y∈L,y.2.1=h->On t.mask (Occ L) p y.1->y=x\/On t.mask (Occ L) next y.1):=by
 intro n
 induction n with
 |zero=>
  intro p e fuel w hf
  cases w with
  |here hd ho=>
   obtain⟨f,rfl⟩:∃f,fuel=f+1:=⟨fuel-1,∅⟩
   left
   refine⟨?_,fun x hx _ hon=>?_⟩
   ·rw[probe.go,T.IJ ho,hd]
   ·rcases hon.inv with z|⟨a,_⟩
    ·exact ho (List.mem_map.mpr ⟨x,hx,z⟩)
    ·exact ho a
 |succ n ih=>
  intro p e fuel w hf
  obtain⟨f,rfl⟩:∃f,fuel=f+1:=⟨fuel-1,∅⟩
  cases w with
  |step hd ho w=>
   obtain⟨i,x,h1,h2⟩:=T.Ms ho
   have hlt:i<L.length:=by
    rcases lt_or_ge i L.length with z|z
    ·exact z
    ·rw[getElem?_eq_none z] at h2;cases h2
   have eh:hashAt i=x.1:=by rw[hh i hlt,hashOf,h2];rfl
   by_cases c:x.1=h
   ·right
    refine⟨i,(p.j,x),adv t.mask p,n,?_,h2,h1,c,Nat.lt_succ_self n,w,fun y hy _ hon=>?_⟩
    ·rw[probe.go,h1]
     show (if (hashAt i==h)=true then _ else _)=_
     rw[if_pos (by rw[eh,c];exact beq_self_eq_true h)]
     rfl
    ·rcases hon.inv with z|⟨_,b⟩
     ·left
      obtain⟨y1,y2⟩:=y
      cases z
      rw[T.uniq hy (mem_of_getElem? h2)]
     ·exact .inr b
   ·have e1:probe.go t hashAt h (f+1) p=probe.go t hashAt h f (adv t.mask p):=by
     rw[probe.go,h1]
     show (if (hashAt i==h)=true then _ else _)=_
     rw[if_neg (by rw[eh];simpa using c)]
     rfl
    have on_next:∀y∈L,y.2.1=h->On t.mask (Occ L) p y.1->On t.mask (Occ L) (adv t.mask p) y.1:=fun y hy ey hon=>by
     rcases hon.inv with z|⟨_,b⟩
     ·obtain⟨y1,y2⟩:=y
      cases z
      rw[T.uniq hy (mem_of_getElem? h2)] at ey
      exact absurd ey c
     ·exact b
    rw[e1]
    rcases ih (adv t.mask p) e f w ∅ with ⟨a,b⟩|⟨i',x',next,n',a1,a2,a3,a4,a5,a6,a7⟩
    ·exact .inl ⟨a,fun y hy ey hon=>b y hy ey (on_next y hy ey hon)⟩
    ·exact .inr ⟨i',x',next,n',a1,a2,a3,a4,∅,a6,fun y hy ey hon=>a7 y hy ey (on_next y hy ey hon)⟩
theorem Tab.fill{t:SetTable}{L:Ln β}(T:Tab t L):t.fill=L.length:=by
 unfold SetTable.fill
 rw[T.place,T.dum,size_toArray,length_map]
 rfl
theorem Tab.odd{t:SetTable}{L:Ln β}(T:Tab t L):t.mask % 2=1:=by
 obtain⟨k,h1,h2⟩:=T.two
 obtain⟨q,rfl⟩:∃q,k=q+1:=⟨k-1,∅⟩
 rw[pow_succ] at h1
 omega
theorem Tab.way{t:SetTable}{L:Ln β}(T:Tab t L)(hc:L.length<=t.mask)(h:Int):∃n e,Way t.mask (Occ L) (sth t.mask h) n e/\n<=10*(13+L.length)/\e<=t.mask:=by
 obtain⟨k,h1,h2⟩:=T.two
 have:=Je h1 (O:=L.map (·.1)) (by rw[length_map];exact hc) h
 rw[length_map] at this
 exact this
theorem Tab.put{t:SetTable}{L:Ln β}(T:Tab t L){n e:Nat}{h:Int}{y:β}(w:Way t.mask (Occ L) (sth t.mask h) n e)(he:e<=t.mask) :
  ∃A B,L=A++B/\(t.put e).2=A.length/\Tab (t.put e).1 (A++(e,h,y)::B):=by
 obtain⟨A,B,rfl,h1,h2⟩:=DV T.ris e
 have hb:=T.below h1 h2
 obtain⟨won,wno⟩:=w.on
 have h2':∀b∈B,e<b.1:=fun b hb=>by
  have:=h2 b hb
  have:b.1≠e:=fun z=>wno (List.mem_map.mpr ⟨b,mem_append_right _ hb,z⟩)
  omega
 have hp:(t.put e).1={t with place:=insertAt t.place A.length e}:=by
  unfold SetTable.put
  rw[hb]
  show {t with place:=insertAt t.place A.length e,dummies:=if has t.dummies e=true then eraseAt t.dummies (SetTable.below t.dummies e) else t.dummies} = _
  rw[T.dum,Hu]
  rfl
 have oc:∀j,Occ (A++B) j->Occ (A++(e,h,y)::B) j:=fun j hj=>by
  unfold Occ at hj ⊢
  rw[map_append,mem_append] at hj
  rw[map_append,mem_append,map_cons,mem_cons]
  rcases hj with z|z
  ·exact .inl z
  ·exact .inr (.inr z)
 refine⟨A,B,rfl,hb,?_⟩
 rw[hp]
 exact {
  place:=by
   show insertAt t.place A.length e=_
   rw[T.place,map_append]
   have:=zL (A.map (·.1)) (B.map (·.1)) e
   rw[length_map] at this
   rw[this,map_append]
   rfl
  ris:=by
   have r:=T.ris
   rw[List.pairwise_append] at r ⊢
   refine⟨r.1,List.pairwise_cons.mpr ⟨fun b hb=>h2' b hb,r.2.1⟩,fun a ha b hb=>?_⟩
   rcases List.mem_cons.mp hb with rfl|hb
   ·exact h1 a ha
   ·exact r.2.2 a ha b hb
  le:=fun x hx=>by
   rcases List.mem_append.mp hx with z|z
   ·exact T.le x (mem_append_left _ z)
   ·rcases List.mem_cons.mp z with rfl|z
    ·exact he
    ·exact T.le x (mem_append_right _ z)
  dum:=T.dum
  two:=T.two
  on:=fun x hx=>by
   rcases List.mem_append.mp hx with z|z
   ·exact (T.on x (mem_append_left _ z)).mono oc
   ·rcases List.mem_cons.mp z with rfl|z
    ·exact won.mono oc
    ·exact (T.on x (mem_append_right _ z)).mono oc}
end
end ST
namespace ST
open PySem PySem.SetTable
theorem LL{m:Nat}{O:Nat->Prop}{i pt:Nat}:∀(k more j:Nat),k<=more->(∀q,q<k->O (j+q))->On m O {j:=j,more:=more,i:=i,perturb:=pt,dummy:=none} (j+k)
 |0,more,j,_,_=>.here
 |k+1,more,j,hk,ho=>by
  have hm:more>0:=by omega
  refine .step (ho 0 ∅) ?_
  have:adv m {j:=j,more:=more,i:=i,perturb:=pt,dummy:=none} = {j:=j+1,more:=more-1,i:=i,perturb:=pt,dummy:=none}:=by
   unfold adv;exact if_pos hm
  rw[this]
  have e:j+(k+1)=j+1+k:=by omega
  rw[e]
  exact LL k (more-1) (j+1) ∅ fun q hq=>by
   have:=ho (q+1) ∅
   have e:j+1+q=j+(q+1):=by omega
   rw[e];exact this
theorem yb{m:Nat}{O:Nat->Prop}{i pt e:Nat}(w:On m O (st m (leap m i pt)) e):∀(more j:Nat),(∀q,q<=more->O (j+q))->On m O {j:=j,more:=more,i:=i,perturb:=pt,dummy:=none} e
 |0,j,ho=>.step (ho 0 (le_refl _)) w
 |more+1,j,ho=>by
  refine .step (ho 0 ∅) ?_
  exact yb w more (j+1) fun q hq=>by
   have:=ho (q+1) ∅
   have e:j+1+q=j+(q+1):=by omega
   rw[e];exact this
theorem Ob{m:Nat}{s:Nat×Nat}(h:s.1<=m):∀n,(lp m s n).1<=m
 |0=>h
 |n+1=>GO m _ _
theorem MM{m:Nat}{owner:Array (Option Nat)}{js:List Nat}(ho:∀j,j<=m->((owner.getD j (some 0)).isNone=true↔j ∉ js)){s:Nat×Nat}(hs:s.1<=m){L:Nat}(hL:(lp m s L).1 ∉ js) :
  ∀(d fuel:Nat),d<fuel->d<=L->∃e,layClean.free m owner fuel (lp m s (L-d)).1 (lp m s (L-d)).2=some e/\On m (·∈js) (st m (lp m s (L-d))) e/\e ∉ js/\e<=m:=by
 intro d
 induction d with
 |zero=>
  intro fuel hf hd
  obtain⟨f,rfl⟩:∃f,fuel=f+1:=⟨fuel-1,∅⟩
  have hi:=Ob hs L
  rw[layClean.free]
  have hr:=Fq m (lp m s L).1
  have e1:(List.range (runEnd m (lp m s L).1+1-(lp m s L).1)).find? (fun k=>(owner.getD ((lp m s L).1+k) (some 0)).isNone)=some 0:=by
   rw[List.find?_range_eq_some]
   exact⟨(ho _ hi).mpr hL,List.mem_range.mpr ∅,fun j hj=>absurd hj (Nat.not_lt_zero j)⟩
  rw[Nat.sub_zero,e1]
  exact⟨_,rfl,.here,hL,hi⟩
 |succ d ih=>
  intro fuel hf hd
  obtain⟨f,rfl⟩:∃f,fuel=f+1:=⟨fuel-1,∅⟩
  have hi:=Ob hs (L-(d+1))
  obtain⟨e,a1,a2,a3,a4⟩:=ih f ∅ ∅
  have e1:L-d=(L-(d+1))+1:=by omega
  rw[e1] at a1 a2
  have hr:=Fq m (lp m s (L-(d+1))).1
  have hin:=E6 hi
  rw[layClean.free]
  cases q:(List.range (runEnd m (lp m s (L-(d+1))).1+1-(lp m s (L-(d+1))).1)).find? (fun k=>(owner.getD ((lp m s (L-(d+1))).1+k) (some 0)).isNone) with
  |some k=>
   rw[List.find?_range_eq_some] at q
   obtain⟨q1,q2,q3⟩:=q
   rw[List.mem_range] at q2
   refine⟨_,rfl,LL k _ _ ∅ fun z hz=>?_,(ho _ ∅).mp q1,∅⟩
   have h1:=q3 z hz
   have h2:=ho ((lp m s (L-(d+1))).1+z) ∅
   rw[Bool.not_eq_true'] at h1
   exact Classical.byContradiction fun w=>by rw[h2.mpr w] at h1;cases h1
  |none=>
   rw[List.find?_eq_none] at q
   refine⟨e,a1,yb a2 _ _ fun z hz=>?_,a3,a4⟩
   have h1:=q z (List.mem_range.mpr ∅)
   have h2:=ho ((lp m s (L-(d+1))).1+z) ∅
   exact Classical.byContradiction fun w=>h1 (h2.mpr w)
structure Own(m:Nat)(owner:Array (Option Nat))(js:List Nat)(hs:List Int):Prop where
 size:owner.size=m+1
 len:js.length=hs.length
 nd:js.Nodup
 le:∀j∈js,j<=m
 is:∀j i,owner.getD j none=some i↔js[i]? = some j
 on:∀(i j:Nat) (h:Int),js[i]? = some j->hs[i]? = some h->On m (·∈js) (sth m h) j
theorem Own.none{m:Nat}{owner:Array (Option Nat)}{js:List Nat}{hs:List Int}(w:Own m owner js hs){j:Nat}(hj:j<=m):(owner.getD j (some 0)).isNone=true↔j ∉ js:=by
 have hj':j<owner.size:=by rw[w.size];omega
 have e:owner.getD j (some 0)=owner.getD j .none:=by unfold Array.getD;rw[dif_pos hj',dif_pos hj']
 rw[e]
 constructor
 ·intro h z
  obtain⟨i,hi,rfl⟩:=List.getElem_of_mem z
  have:=(w.is js[i] i).mpr (getElem?_eq_getElem hi)
  rw[this] at h
  cases h
 ·intro h
  cases q:owner.getD j .none with
  |none=>rfl
  |some i=>exact absurd (mem_of_getElem? ((w.is j i).mp q)) h
noncomputable def fld(m:Nat)(acc:Option (Array (Option Nat)×Nat))(h:Int):Option (Array (Option Nat)×Nat):=do
  let (owner,k) <- acc
  let j <- layClean.free m owner (turns m) (bits h % (m+1)) (bits h)
  pure (owner.setIfInBounds j (some k),k+1)
theorem LI{m k:Nat}(hm:m+1=2 ^ k){owner:Array (Option Nat)}{js:List Nat}{hs:List Int}(w:Own m owner js hs)(hc:js.length<m)(h:Int) :
  ∃e,fld m (some (owner,js.length)) h=some (owner.setIfInBounds e (some js.length),js.length+1)/\Own m (owner.setIfInBounds e (some js.length)) (js++[e]) (hs++[h]):=by
 have hb:bits h % (m+1)<=m:=Nat.le_of_lt_succ (Nat.mod_lt _ (Nat.succ_pos m))
 obtain⟨L,h1,h2⟩:=zU hm (O:=js) ∅ (bits h % (m+1),bits h) (Hw h)
 obtain⟨e,a1,a2,a3,a4⟩:=MM (fun j hj=>w.none hj) (s:=(bits h % (m+1),bits h)) hb h2 L (turns m) (by unfold turns;omega) (le_refl _)
 rw[Nat.sub_self] at a1 a2
 have he:e<owner.size:=by rw[w.size];omega
 refine⟨e,?_,?_⟩
 ·unfold fld
  show (do let j <- layClean.free m owner (turns m) (bits h % (m+1)) (bits h);pure (owner.setIfInBounds j (some js.length),js.length+1))=_
  have a1':layClean.free m owner (turns m) (bits h % (m+1)) (bits h)=some e:=a1
  rw[a1']
  rfl
 ·have sub:∀j,j∈js->j∈js++[e]:=fun j hj=>mem_append_left _ hj
  have gd:∀j,(owner.setIfInBounds e (some js.length)).getD j none=if j=e then some js.length else owner.getD j none:=fun j=>by
   rw[Array.getD_eq_getD_getElem?,Array.getD_eq_getD_getElem?,Array.getElem?_setIfInBounds]
   by_cases c:e=j
   ·rw[if_pos c,if_pos c.symm,if_pos he];rfl
   ·rw[if_neg c,if_neg (fun z=>c z.symm)]
  exact {
   size:=by rw[Array.size_setIfInBounds];exact w.size
   len:=by rw[length_append,length_append,w.len];rfl
   nd:=by
    rw[List.nodup_append]
    refine⟨w.nd,List.pairwise_singleton _ _,fun a ha b hb z=>?_⟩
    rw[List.mem_singleton] at hb
    subst hb;subst z;exact a3 ha
   le:=fun j hj=>by
    rcases List.mem_append.mp hj with z|z
    ·exact w.le j z
    ·rw[List.mem_singleton] at z;omega
   is:=fun j i=>by
    rw[gd]
    by_cases c:j=e
    ·subst c
     rw[if_pos rfl]
     constructor
     ·intro z;cases z
      rw[getElem?_append_right (le_refl _),Nat.sub_self];rfl
     ·intro z
      rcases lt_or_ge i js.length with y|y
      ·rw[getElem?_append_left y] at z
       exact absurd (mem_of_getElem? z) a3
      ·rw[getElem?_append_right y] at z
       cases d:i-js.length with
       |zero=>congr 1;omega
       |succ n=>rw[d] at z;simp at z
    ·rw[if_neg c,w.is]
     rcases lt_or_ge i js.length with y|y
     ·rw[getElem?_append_left y]
     ·rw[getElem?_append_right y,getElem?_eq_none y]
      constructor
      ·intro z;cases z
      ·intro z
       cases d:i-js.length with
       |zero=>rw[d] at z;simp at z;exact absurd z.symm c
       |succ n=>rw[d] at z;simp at z
   on:=fun i j h' z1 z2=>by
    rcases lt_or_ge i js.length with y|y
    ·rw[getElem?_append_left y] at z1
     rw[getElem?_append_left (by rw[<- w.len];exact y)] at z2
     exact (w.on i j h' z1 z2).mono sub
    ·rw[getElem?_append_right y] at z1
     rw[getElem?_append_right (by rw[<- w.len];exact y),<- w.len] at z2
     cases d:i-js.length with
     |zero=>
      rw[d] at z1 z2
      simp at z1 z2
      subst z1;subst z2
      exact a2.mono sub
     |succ n=>rw[d] at z1;simp at z1}
theorem Ho{m k:Nat}(hm:m+1=2 ^ k):∀(rest:List Int) (owner:Array (Option Nat)) (js:List Nat) (hs:List Int),Own m owner js hs->js.length+rest.length<=m ->
  ∃owner' js',rest.foldl (fld m) (some (owner,js.length))=some (owner',js'.length)/\Own m owner' js' (hs++rest)
 |[],owner,js,hs,w,_=>⟨owner,js,rfl,by rw[append_nil];exact w⟩
 |h::rest,owner,js,hs,w,hc=>by
  rw[length_cons] at hc
  obtain⟨e,a1,a2⟩:=LI hm w ∅ h
  obtain⟨owner',js',b1,b2⟩:=Ho hm rest _ _ _ a2 (by rw[length_append,List.length_singleton];omega)
  refine⟨owner',js',?_,by rw[append_assoc] at b2;exact b2⟩
  rw[List.foldl_cons,a1]
  rw[length_append,List.length_singleton] at b1
  exact b1
theorem HH(m:Nat):Own m (Array.replicate (m+1) none) [] [] where
 size:=Array.size_replicate
 len:=rfl
 nd:=List.Pairwise.nil
 le:=fun _ h=>by simp at h
 is:=fun j i=>by
  rw[Array.getD_eq_getD_getElem?,Array.getElem?_replicate]
  constructor
  ·intro z;split at z<;>cases z
  ·intro z;simp at z
 on:=fun i j h z _=>by simp at z
theorem C0{m k:Nat}(hm:m+1=2 ^ k)(hs:List Int)(hc:hs.length<=m):∃owner js,layClean m hs.toArray=some owner/\Own m owner js hs:=by
 obtain⟨owner,js,h1,h2⟩:=Ho hm hs _ _ _ (HH m) (by rw[length_nil,Nat.zero_add];exact hc)
 refine⟨owner,js,?_,h2⟩
 have h1':hs.foldl (fld m) (some (Array.replicate (m+1) none,0))=some (owner,js.length):=h1
 unfold layClean
 rw[List.foldl_toArray]
 show Option.map (·.1) (hs.foldl (fld m) (some (Array.replicate (m+1) none,0)))=_
 rw[h1']
 rfl
section
variable {β:Type}
theorem Kg{D:List (Int×β)}:∀(l:List (Nat×Nat)),(∀q∈l,q.2<D.length)->(l.filterMap fun q=>(D[q.2]?).map fun x=>(q.1,x)).map (·.1)=l.map (·.1) /\
  (l.filterMap fun q=>(D[q.2]?).map fun x=>(q.1,x)).map (·.2)=(l.map (·.2)).filterMap (D[·]?)
 |[],_=>⟨rfl,rfl⟩
 |q::l,h=>by
  obtain⟨h1,h2⟩:=Kg l fun q hq=>h q (mem_cons_of_mem _ hq)
  have hq:=h q (mem_cons_self ..)
  have e:D[q.2]? = some D[q.2]:=getElem?_eq_getElem hq
  constructor
  ·rw[List.filterMap_cons_some (b:=(q.1,D[q.2])) (by rw[e];rfl),map_cons,map_cons,h1]
  ·rw[List.filterMap_cons_some (b:=(q.1,D[q.2])) (by rw[e];rfl),map_cons,map_cons,h2,List.filterMap_cons_some e]
theorem NC{m k:Nat}(hm:m+1=2 ^ k)(hk:3<=k)(D:List (Int×β))(hc:D.length<=m)(fi mo:Nat)(led pl:Bool) :
  ∃(t:SetTable) (order:Array Nat) (L:Ln β),laid m fi mo led pl (D.toArray.map (·.1))=some (t,order)/\order.filterMap (D.toArray[·]?)=(L.map (·.2)).toArray/\Tab t L/\L.length=D.length/\(∀x,x∈L.map (·.2)↔x∈D)/\t.mask=m/\t.led=led/\t.plain=pl:=by
 obtain⟨owner,js,h1,w⟩:=C0 hm (D.map (·.1)) (by rw[length_map];exact hc)
 have lj:js.length=D.length:=by rw[w.len,length_map]
 let live:=(List.range (m+1)).filterMap fun j=>(owner.getD j none).map (j,·)
 have mem_live:∀j i,(j,i)∈live↔js[i]? = some j:=fun j i=>by
  rw[List.mem_filterMap]
  constructor
  ·rintro ⟨a,_,e⟩
   cases q:owner.getD a none with
   |none=>rw[q] at e;cases e
   |some b=>rw[q] at e;cases e;exact (w.is _ _).mp q
  ·intro z
   refine⟨j,List.mem_range.mpr (Nat.lt_succ_of_le (w.le j (mem_of_getElem? z))),?_⟩
   rw[(w.is j i).mpr z]
   rfl
 have lt_live:∀q∈live,q.2<D.length:=fun q hq=>by
  have:=(mem_live q.1 q.2).mp hq
  rcases lt_or_ge q.2 js.length with z|z
  ·omega
  ·rw[getElem?_eq_none z] at this;cases this
 have ris_live:(live.map (·.1)).Pairwise (· < ·):=by
  refine List.pairwise_map.mpr (List.Pairwise.filterMap _ (fun a b hab x hx y hy=>?_) List.pairwise_lt_range)
  cases qa:owner.getD a none with
  |none=>rw[qa] at hx;cases hx
  |some i=>
   cases qb:owner.getD b none with
   |none=>rw[qb] at hy;cases hy
   |some i'=>rw[qa] at hx;rw[qb] at hy;cases hx;cases hy;exact hab
 have len_live:live.length=js.length:=by
  refine Nat.le_antisymm ?_ ?_
  ·have nd:(live.map fun q=>q.1).Nodup:=by
    unfold List.Nodup
    exact ris_live.imp fun {a b} (h:a<b)=>ne_of_lt h
   have:=pig _ js nd fun x hx=>by
    obtain⟨q,hq,rfl⟩:=List.mem_map.mp hx
    exact mem_of_getElem? ((mem_live q.1 q.2).mp hq)
   rw[length_map] at this
   exact this
  ·have:=pig js (live.map (·.1)) w.nd fun x hx=>by
    obtain⟨i,hi,rfl⟩:=List.getElem_of_mem hx
    exact List.mem_map.mpr ⟨(js[i],i),(mem_live _ _).mpr (getElem?_eq_getElem hi),rfl⟩
   rw[length_map] at this
   exact this
 let L:Ln β:=live.filterMap fun q=>(D[q.2]?).map fun x=>(q.1,x)
 obtain⟨f1,f2⟩:=Kg (D:=D) live lt_live
 have f1:L.map (·.1)=live.map (·.1):=f1
 have f2:L.map (·.2)=(live.map (·.2)).filterMap (D[·]?):=f2
 have mem_L:∀j x,(j,x)∈L↔∃i,js[i]? = some j/\D[i]? = some x:=fun j x=>by
  rw[List.mem_filterMap]
  constructor
  ·rintro ⟨q,hq,e⟩
   cases z:D[q.2]? with
   |none=>rw[z] at e;cases e
   |some y=>rw[z] at e;cases e;exact⟨q.2,(mem_live _ _).mp hq,z⟩
  ·rintro ⟨i,h1,h2⟩
   exact⟨(j,i),(mem_live j i).mpr h1,by rw[h2];rfl⟩
 have occ:∀j,j∈js->Occ L j:=fun j hj=>by
  unfold Occ
  rw[f1]
  obtain⟨i,hi,rfl⟩:=List.getElem_of_mem hj
  exact List.mem_map.mpr ⟨(js[i],i),(mem_live _ _).mpr (getElem?_eq_getElem hi),rfl⟩
 refine⟨{mask:=m,place:=(live.map (·.1)).toArray,dummies:=#[],finger:=fi,led:=led,moves:=mo,plain:=pl},(live.map (·.2)).toArray,L,?_,?_,?_,?_,?_,rfl,rfl,rfl⟩
 ·unfold laid
  have e:(D.toArray.map (·.1))=(D.map (·.1)).toArray:=by simp
  rw[e,h1]
  rfl
 ·rw[f2]
  simp
 ·exact {
   place:=by rw[f1]
   ris:=by
    have:=ris_live
    rw[<- f1] at this
    exact List.pairwise_map.mp this
   le:=fun x hx=>by
    obtain⟨i,h1,_⟩:=(mem_L x.1 x.2).mp hx
    exact w.le _ (mem_of_getElem? h1)
   dum:=rfl
   two:=⟨k,hm,hk⟩
   on:=fun x hx=>by
    obtain⟨i,h1,h2⟩:=(mem_L x.1 x.2).mp hx
    exact (w.on i x.1 x.2.1 h1 (by rw[getElem?_map,h2];rfl)).mono occ}
 ·rw[<- lj,<- len_live,<- length_map (f:=(·.1)) (as:=L),f1,length_map]
 ·intro x
  rw[mem_map]
  constructor
  ·rintro ⟨⟨j,y⟩,hy,rfl⟩
   obtain⟨i,_,h2⟩:=(mem_L j y).mp hy
   exact mem_of_getElem? h2
  ·intro hx
   obtain⟨i,hi,rfl⟩:=List.getElem_of_mem hx
   have hij:i<js.length:=by omega
   exact⟨(js[i],D[i]),(mem_L _ _).mpr ⟨i,getElem?_eq_getElem hij,getElem?_eq_getElem hi⟩,rfl⟩
end
theorem FJ(n:Nat):∀(fuel k:Nat),∃q,sizeAbove.go n fuel (2 ^ k)=2 ^ q/\k<=q/\(n<2 ^ (k+fuel)->n<2 ^ q)/\(2 ^ q=2 ^ k\/2 ^ q<=2*n)
 |0,k=>⟨k,rfl,le_refl _,fun h=>h,.inl rfl⟩
 |fuel+1,k=>by
  rw[sizeAbove.go]
  by_cases c:2 ^ k<=n
  ·rw[if_pos c]
   obtain⟨q,h1,h2,h3,h4⟩:=FJ n fuel (k+1)
   rw[<- pow_succ]
   refine⟨q,h1,∅,fun h=>h3 (by rw[Nat.add_assoc,Nat.add_comm 1 fuel];exact h),.inr ?_⟩
   rcases h4 with h4|h4
   ·rw[h4,pow_succ];omega
   ·exact h4
  ·rw[if_neg c]
   exact⟨k,rfl,le_refl _,fun _=>by omega,.inl rfl⟩
theorem M6(n:Nat)(h:n<2 ^ 60):∃k,sizeAbove n=2 ^ k/\3<=k/\n<2 ^ k/\(2 ^ k=8\/2 ^ k<=2*n):=by
 obtain⟨q,h1,h2,h3,h4⟩:=FJ n 64 3
 exact⟨q,h1,h2,h3 (lt_of_lt_of_le h (Nat.pow_le_pow_right ⋯ ⋯)),h4⟩
end ST
set_option maxHeartbeats 1000000
namespace ST
open PySem PySem.SetTable
section
variable {prog:Program}{w:World}{K:Type}[DecidableEq K]{knd:KeyKind prog w K}
variable {A:Around}{E:Value->Shared->Prop}{s:Shared}
theorem Ex{ks:List K}{a:Addr}{Q:Bool->Shared->Prop}(hk:IsTupleKey knd s.heap ks a)(h:Q false s):wpAny (model prog w) A (ofAClassStatement 8 (.ref a)) Q E s:=by
 have hT:=hk.typeIs
 obtain⟨o,items,n,ho,_,hd,hi⟩:=hk
 unfold ofAClassStatement
 refine wpAny_bind (wpAny_typeOf hT ?_)
 dsimp only
 rw[if_pos ⋯]
 refine wpAny_bind (wpAny_pure ?_)
 simp only[Bool.not_true,false_eq_true,if_false]
 refine wpAny_bind (wpAny_seqItems ho hd ?_)
 refine wpAny_bind ?_
 show wpAny _ _ (forIn items _ _) _ _ s
 rw[<- Array.forIn_toList]
 refine wpAny_forIn_list _ (fun rest r s'=>r.1=none/\s'=s/\∀v∈rest,carriedByValue v=true) _ ?_ ?_ _ _ ⟨rfl,rfl,hi.byValue⟩
 ·rintro v rest r s' ⟨hr,rfl,hall⟩
  have e:ofAClassStatement 7 v=pure false:=by
   have:=hall v mem_cons_self
   cases v with
   |ref a=>simp[carriedByValue] at this
   |_=>first|rfl|simp[ofAClassStatement]|(unfold ofAClassStatement;rfl)
  rw[e]
  refine wpAny_bind (wpAny_pure ?_)
  simp only[false_eq_true,if_false]
  exact wpAny_pure ⟨rfl,rfl,fun u hu'=>hall u (mem_cons_of_mem _ hu')⟩
 ·rintro ⟨r1,r2⟩ s' ⟨hr,rfl,_⟩
  simp only at hr
  subst hr
  exact wpAny_pure h
theorem JF{k:List K}{q:Addr}(hk:IsTupleKey knd s.heap k q)(stored:List Value)(hs:∀v∈stored,∃k' q',v = .ref q'/\IsTupleKey knd s.heap k' q'){Q:Bool->Shared->Prop}(h:Q false s) :
  wpAny (model prog w) A (searchCouldBeSeen (.ref q) stored) Q E s:=by
 unfold searchCouldBeSeen
 refine wpAny_bind ?_
 refine wpAny_forIn_list _ (fun rest r s'=>r.1=none/\s'=s/\∀v∈rest,∃k' q',v = .ref q'/\IsTupleKey knd s.heap k' q') _ ?_ ?_ _ _ ⟨rfl,rfl,hs⟩
 ·rintro v rest r s' ⟨hr,rfl,hall⟩
  obtain⟨k',q',rfl,hk'⟩:=hall v mem_cons_self
  have up:∀v∈rest,∃k' q',v = .ref q'/\IsTupleKey knd s'.heap k' q':=fun u hu'=>hall u (mem_cons_of_mem _ hu')
  dsimp only
  split
  ·exact wpAny_pure ⟨rfl,rfl,up⟩
  ·refine wpAny_bind (wpAny_eqIsQuiet_tuple hk ?_)
   simp only[Bool.not_true,false_eq_true,if_false]
   refine wpAny_bind (wpAny_eqIsQuiet_tuple hk' ?_)
   simp only[Bool.not_true,false_eq_true,if_false]
   refine wpAny_bind (Ex hk ?_)
   simp only[false_eq_true,if_false]
   refine wpAny_bind (Ex hk' ?_)
   simp only[false_eq_true,if_false]
   exact wpAny_pure ⟨rfl,rfl,up⟩
 ·rintro ⟨r1,r2⟩ s' ⟨hr,rfl,_⟩
  simp only at hr
  subst hr
  exact wpAny_pure h
noncomputable def Ent(knd:KeyKind prog w K)(h:Heap)(x:Nat×Int×Value)(k:List K):Prop:=∃q,x.2.2 = .ref q/\IsTupleKey knd h k q/\x.2.1=tupleKeyHash knd k
theorem Ent.inj{h:Heap}{x:Nat×Int×Value}{k k':List K}(a:Ent knd h x k)(b:Ent knd h x k'):k=k':=by
 obtain⟨q,a1,a2,_⟩:=a
 obtain⟨q',b1,b2,_⟩:=b
 rw[a1] at b1;cases b1
 exact a2.inj b2
theorem fits_of{t:SetTable}{L:Ln Value}(T:Tab t L)(hc:L.length<=t.mask):t.fits (L.map (·.2)).toArray.size=true:=by
 unfold SetTable.fits
 rw[T.fill,T.place]
 simp[hc]
theorem Ew{a:Addr}{o:Obj}{L:Ln Value}{ep:Nat}{t:SetTable}(hA:A.units<cLine)(ho:s.heap.get? a=some o)(hd:o.data = .set (L.map (·.2)).toArray ep t)(T:Tab t L)(hc:L.length<=t.mask)
  (hL:∀x∈L,∃k,Ent knd s.heap x k) {k:List K} {q:Addr} (hk:IsTupleKey knd s.heap k q) {adding:Bool} {e:Nat} {Q:SetFound->Shared->Prop}
  (yes:(∃x∈L,Ent knd s.heap x k)->∀r,(adding=false->r.isSome=true)->Q (.there r) s) (no:(∀x∈L,¬ Ent knd s.heap x k)->Q (.free e false) s) :
  ∀(n fuel:Nat) (stand:Option Probe),Way t.mask (Occ L) (stand.getD (t.probeStart (tupleKeyHash knd k))) n e->n<fuel->n<10*turns t.mask ->
   (∀y∈L,Ent knd s.heap y k->On t.mask (Occ L) (stand.getD (t.probeStart (tupleKeyHash knd k))) y.1) ->
   wpAny (model prog w) A (setSearchFrom a (.ref q) (tupleKeyHash knd k) adding fuel stand) Q E s:=by
 intro n
 induction n using Nat.strongRecOn with
 |_ n ih=>
  intro fuel stand wy hf hf2 hon
  obtain⟨f,rfl⟩:∃f,fuel=f+1:=⟨fuel-1,∅⟩
  have hfit:=fits_of T hc
  unfold setSearchFrom
  refine wpAny_bind (wpAny_setState_of ho hd hfit ?_)
  dsimp only
  have hgw:t.gaveWay=false:=by
   unfold SetTable.gaveWay
   rw[T.odd]
   rfl
  rw[hgw]
  simp only[false_eq_true,if_false]
  have hp:=Kt T (hashAt:=fun i=>(((L.map (·.2)).toArray)[i]?.map (·.1)).getD 0) (fun i hi=>by
   unfold hashOf
   simp
   rfl) (tupleKeyHash knd k) n _ e (10*turns t.mask) wy hf2
  rcases hp with ⟨g1,g2⟩|⟨i,x,next,n',g1,g2,g3,g4,g5,g6,g7⟩
  ·refine (show wpAny (model prog w) A (match t.probe (fun i=>(((L.map (·.2)).toArray)[i]?.map (·.1)).getD 0) (tupleKeyHash knd k) (stand.getD (t.probeStart (tupleKeyHash knd k))) with|some met=>_|_=>_) Q E s from ?_)
   unfold probe
   rw[g1]
   refine wpAny_pure (no fun x hx z=>?_)
   obtain⟨_,_,_,z3⟩:=id z
   exact g2 x hx z3 (hon x hx z)
  ·refine (show wpAny (model prog w) A (match t.probe (fun i=>(((L.map (·.2)).toArray)[i]?.map (·.1)).getD 0) (tupleKeyHash knd k) (stand.getD (t.probeStart (tupleKeyHash knd k))) with|some met=>_|_=>_) Q E s from ?_)
   unfold probe
   rw[g1]
   dsimp only
   obtain⟨k',hk'⟩:=hL x (mem_of_getElem? g2)
   obtain⟨q',e1,e2,e3⟩:=id hk'
   have hes:(L.map (·.2)).toArray[i]? = some (x.2.1,.ref q'):=by
    rw[List.getElem?_toArray,getElem?_map,g2,<- e1]
    rfl
   have go:wpAny (model prog w) A (do
     let some (_,y):=((L.map (·.2)).toArray)[i]?|unsupported "internal:set-entry"
     let equal <- holding [y] (eqBool y (.ref q))
     let (es',_,t') <- setState a
     if adding&&equal then return .there none
     let some same:=t'.sameMemory t.moves t.mask|unsupported "set.changed-during-lookup:is-the-new-block-at-the-old-address"
     let still <- match (if same then t'.slot x.1 else .empty) with
      |.live i'=>match es'[i']? with
       |some (_,y')=>do pure (if <- isSame y' y then some i' else none)
       |none=>pure none
      |_=>pure none
     match still with
     |none=>rule "set.search.anew";setSearchFrom a (.ref q) (tupleKeyHash knd k) adding f none
     |some i'=>if equal then return .there (some i') else setSearchFrom a (.ref q) (tupleKeyHash knd k) adding f (some next)) Q E s:=by
    rw[hes]
    dsimp only
    refine wpAny_bind (wpAny_holding (wpAny_eqBool_tuple hA e2 hk ?_))
    refine wpAny_bind (wpAny_setState_of ho hd hfit ?_)
    dsimp only
    have sm:t.sameMemory t.moves t.mask=some true:=by
     unfold sameMemory
     rw[if_pos (beq_self_eq_true _)]
    by_cases c:k'=k
    ·subst c
     have hex:∃x∈L,Ent knd s.heap x k':=⟨x,mem_of_getElem? g2,hk'⟩
     rw[decide_eq_true rfl]
     cases adding with
     |true=>exact wpAny_pure (yes hex none fun z=>nomatch z)
     |false=>
      simp only[Bool.false_and,false_eq_true,if_false]
      rw[sm]
      dsimp only
      rw[if_pos rfl,g3]
      dsimp only
      rw[hes]
      dsimp only
      refine wpAny_bind (wpAny_isSame_ref_self (wpAny_bind (wpAny_pure ?_)))
      rw[if_pos rfl]
      dsimp only
      rw[if_pos trivial]
      exact wpAny_pure (yes hex _ fun _=>rfl)
    ·rw[decide_eq_false c]
     simp only[Bool.and_false,false_eq_true,if_false]
     rw[sm]
     dsimp only
     rw[if_pos rfl,g3]
     dsimp only
     rw[hes]
     dsimp only
     refine wpAny_bind (wpAny_isSame_ref_self (wpAny_bind (wpAny_pure ?_)))
     rw[if_pos rfl]
     dsimp only
     refine ih n' g5 f (some next) g6 ∅ ∅ fun y hy hyk=>?_
     obtain⟨_,_,_,z3⟩:=id hyk
     rcases g7 y hy z3 (hon y hy hyk) with z|z
     ·subst z
      exact absurd (hk'.inj hyk) c
     ·exact z
   cases hl:t.led with
   |true=>
    simp only[Bool.not_true,false_eq_true,if_false]
    exact go
   |false=>
    simp only[Bool.not_false,if_true]
    refine wpAny_bind (JF hk _ (fun v hv=>?_) ?_)
    ·obtain⟨y,hy,rfl⟩:=List.mem_map.mp hv
     have hy1:y∈L.map (·.2):=by
      have:=Array.mem_toList_iff.mp hy
      rw[Array.mem_filter] at this
      simpa using this.1
     obtain⟨x',hx',rfl⟩:=List.mem_map.mp hy1
     obtain⟨k'',q'',b1,b2,_⟩:=hL x' hx'
     exact⟨k'',q'',b1,b2⟩
    ·simp only[false_eq_true,if_false]
     exact go
end
end ST
namespace ST
open PySem PySem.SetTable
noncomputable def CJ(h:Heap)(a:Addr)(L:Ln Value):Prop:=∃o ep t,h.get? a=some o/\o.ExactSet/\o.data = .set (L.map (·.2)).toArray ep t/\Tab t L/\L.length*5<t.mask*3
section
variable {prog:Program}{w:World}{K:Type}[DecidableEq K]{knd:KeyKind prog w K}
variable {A:Around}{E:Value->Shared->Prop}{s:Shared}
theorem zW{a:Addr}{o:Obj}{L:Ln Value}{ep:Nat}{t:SetTable}(hA:A.units<cLine)(ho:s.heap.get? a=some o)(hd:o.data = .set (L.map (·.2)).toArray ep t)(T:Tab t L)(hc:L.length<=t.mask)
  (hL:∀x∈L,∃k,Ent knd s.heap x k) (hb:L.length<=9900) {k:List K} {q:Addr} (hk:IsTupleKey knd s.heap k q) {adding:Bool} {Q:SetFound->Shared->Prop}
  (yes:(∃x∈L,Ent knd s.heap x k)->∀r,(adding=false->r.isSome=true)->Q (.there r) s)
  (no:(∀x∈L,¬ Ent knd s.heap x k)->∀n e,Way t.mask (Occ L) (sth t.mask (tupleKeyHash knd k)) n e->e<=t.mask->Q (.free e false) s) :
  wpAny (model prog w) A (setSearch a (.ref q) (tupleKeyHash knd k) adding) Q E s:=by
 obtain⟨n,e,wy,hn,he⟩:=T.way hc (tupleKeyHash knd k)
 refine Ew hA ho hd T hc hL hk yes (fun z=>no z n e wy he) n 100000 none wy ∅ (by unfold turns;omega) fun y hy hyk=>?_
 obtain⟨_,_,_,z3⟩:=hyk
 have:=T.on y hy
 rw[z3] at this
 exact this
theorem FX(q:Addr)(es:Array (Int×Value)):byScan (.ref q) es=false:=rfl
theorem Eh{a:Addr}{L:Ln Value}(hA:A.units<cLine)(S:CJ s.heap a L)(hL:∀x∈L,∃k,Ent knd s.heap x k)(hb:L.length<=9900){k:List K}{q:Addr}(hk:IsTupleKey knd s.heap k q){Q:Bool->Shared->Prop}
  (h:∀b:Bool,(b=true↔∃x∈L,Ent knd s.heap x k)->Q b {s with toks:=s.toks+(k.length+1)}):wpAny (model prog w) A (setContains a (.ref q)) Q E s:=by
 obtain⟨o,ep,t,ho,hex,hd,T,hr⟩:=S
 unfold setContains
 refine wpAny_holding (wpAny_bind (wpAny_pyHash_tuple hA hk (wpAny_bind ?_)))
 have hc:L.length<=t.mask:=by omega
 unfold setFind setFindIn
 refine wpAny_bind (wpAny_setState_of (s:={s with toks:=s.toks+(k.length+1)}) ho hd (fits_of T hc) ?_)
 dsimp only
 rw[FX]
 simp only[false_eq_true,if_false]
 refine wpAny_bind (zW (s:={s with toks:=s.toks+(k.length+1)}) hA ho hd T hc hL hb hk (fun z r hr=>?_) fun z n e _ _=>?_)
 ·refine wpAny_pure (wpAny_pure (h _ ⟨fun _=>z,fun _=>hr rfl⟩))
 ·refine wpAny_pure (wpAny_pure (h _ ⟨fun w=>(nomatch w),fun ⟨x,hx,hx2⟩=>absurd hx2 (z x hx)⟩))
theorem LH{ks:List K}{a:Addr}{Q:Bool->Shared->Prop}(hk:IsTupleKey knd s.heap ks a)(h:∀b,Q b s):wpAny (model prog w) A (hashByValue 8 (.ref a)) Q E s:=by
 have hT:=hk.typeIs
 obtain⟨o,items,n,ho,_,hd,hi⟩:=hk
 unfold hashByValue
 refine wpAny_bind (wpAny_specialOf hT F.slot_tuple_hash.lookup ?_)
 dsimp only
 refine wpAny_bind (wpAny_seqItems ho hd ?_)
 refine wpAny_bind ?_
 show wpAny _ _ (forIn items _ _) _ _ s
 rw[<- Array.forIn_toList]
 refine wpAny_forIn_list _ (fun rest r s'=>r.1=none/\s'=s/\∀v∈rest,carriedByValue v=true) _ ?_ ?_ _ _ ⟨rfl,rfl,hi.byValue⟩
 ·rintro v rest r s' ⟨hr,rfl,hall⟩
  have e:∃b,hashByValue 7 v=pure b:=by
   have:=hall v mem_cons_self
   cases v with
   |ref a=>simp[carriedByValue] at this
   |_=>exact⟨_,rfl⟩
  obtain⟨b,e⟩:=e
  rw[e]
  refine wpAny_bind (wpAny_pure ?_)
  cases b with
  |true=>
   simp only[Bool.not_true,false_eq_true,if_false]
   exact wpAny_pure ⟨rfl,rfl,fun u hu'=>hall u (mem_cons_of_mem _ hu')⟩
  |false=>
   simp only[Bool.not_false,if_true]
   exact wpAny_pure (wpAny_pure (h _))
 ·rintro ⟨r1,r2⟩ s' ⟨hr,rfl,_⟩
  simp only at hr
  subst hr
  exact wpAny_pure (h _)
theorem Tab.plain{t:SetTable}{L:Ln Value}(T:Tab t L)(b:Bool):Tab {t with plain:=b} L:=⟨T.place,T.ris,T.le,T.dum,T.two,T.on⟩
theorem zD{h:Heap}{a:Addr}{o:Obj}{es:Array (Int×Value)}{ep:Nat}{t:SetTable}(ho:h.get? a=some o)(hd:o.data = .set es ep t)(es':Array (Int×Value))(t':SetTable) :
  (h.update a (Obj.putSet es' t')).get? a=some {o with data:=.set es' (ep+1) t'}:=by
 have:=Heap.get?_update_self (Obj.putSet es' t') ho (by rw[putSet_of es' t' hd];rfl)
 rw[putSet_of es' t' hd] at this;exact this
theorem KS{a:Addr}{o:Obj}{L:Ln Value}{ep:Nat}{t:SetTable}(ho:s.heap.get? a=some o)(hex:o.ExactSet)(hd:o.data = .set (L.map (·.2)).toArray ep t)(T:Tab t L)(hc:L.length<=t.mask)(h0:0<L.length)(hb:L.length<=9900)
  {Q:Unit->Shared->Prop} (h:∀h' L',Heap.SameBut a s.heap h'->CJ h' a L'->L'.length=L.length->(∀y,y∈L'.map (·.2)↔y∈L.map (·.2))->Q () {s with heap:=h'}) :
  wpAny (model prog w) A (setRelay a (SetTable.grown L.length)) Q E s:=by
 have eg:SetTable.grown L.length=L.length*4:=by
  unfold SetTable.grown
  rw[if_neg ∅]
 rw[eg]
 obtain⟨k,k1,k2,k3,k4⟩:=M6 (L.length*4) (Nat.lt_of_le_of_lt (show L.length*4<=40000 by omega) ⋯)
 have hk8:2 ^ 3<=2 ^ k:=Nat.pow_le_pow_right (show 2>0 by decide) k2
 have hm:(SetTable.sizeAbove (L.length*4)-1)+1=2 ^ k:=by rw[k1];omega
 have hD:(L.map (·.2)).length=L.length:=length_map ..
 obtain⟨t',order,L',l1,l2,l3,l4,l5,l6,_,_⟩:=NC (β:=Value) hm k2 (L.map (·.2)) (by rw[hD,k1];omega) t.finger (t.movedTo (SetTable.sizeAbove (L.length*4)-1)) t.led t.plain
 rw[hD] at l4
 unfold setRelay
 refine wpAny_bind (wpAny_setState_of ho hd (fits_of T hc) ?_)
 dsimp only
 rw[if_neg (by rw[k1,sizeLine_eq];omega)]
 have er:t.relaid ((L.map (·.2)).toArray.map (·.1)) (L.length*4)=some (t',order):=l1
 rw[er]
 refine wpAny_bind ?_
 show wpAny _ _ (if ((order.filterMap ((L.map (·.2)).toArray[·]?)).size != (L.map (·.2)).toArray.size)=true then _ else _) _ _ s
 rw[l2]
 have e0:((L'.map (·.2)).toArray.size != (L.map (·.2)).toArray.size)=false:=by simp[l4]
 rw[e0]
 simp only[false_eq_true,if_false]
 refine wpAny_pure ?_
 dsimp only
 refine wpAny_storeSet_of ho hd ?_ (by rw[size_toArray,length_map,l4,sizeLine_eq];omega)
 exact h _ L' (Heap.SameBut.update s.heap a _) ⟨_,_,t',zD ho hd _ _,hex,rfl,l3,by rw[l4,l6,k1];omega⟩ l4 l5
theorem QB{a:Addr}{L:Ln Value}(hA:A.units<cLine)(S:CJ s.heap a L)(hL:∀x∈L,∃k,Ent knd s.heap x k)(hb:L.length<=9800){k:List K}{q:Addr}(hk:IsTupleKey knd s.heap k q){Q:Bool->Shared->Prop}
  (yes:(∃x∈L,Ent knd s.heap x k)->Q false {s with toks:=s.toks+(k.length+1)})
  (no:(∀x∈L,¬ Ent knd s.heap x k)->∀h' L',Heap.SameBut a s.heap h'->CJ h' a L'->L'.length=L.length+1->(∀y,y∈L'.map (·.2)↔y∈L.map (·.2)\/y=(tupleKeyHash knd k,.ref q)) ->
   Q true {s with heap:=h',toks:=s.toks+(k.length+1)}):wpAny (model prog w) A (setAdd a (.ref q)) Q E s:=by
 obtain⟨o,ep,t,ho,hex,hd,T,hr⟩:=S
 have hc:L.length<=t.mask:=by omega
 unfold setAdd
 refine wpAny_holding (wpAny_bind (wpAny_pyHash_tuple hA hk ?_))
 unfold setAddHashed
 refine wpAny_holding ?_
 unfold setAddHashedIn
 refine wpAny_bind (wpAny_setState_of (s:={s with toks:=s.toks+(k.length+1)}) ho hd (fits_of T hc) ?_)
 dsimp only
 rw[FX]
 simp only[false_eq_true,if_false]
 refine wpAny_bind (zW (s:={s with toks:=s.toks+(k.length+1)}) hA ho hd T hc hL ∅ hk (fun z r hr=>?_) fun z n e wy he=>?_)
 ·exact wpAny_pure (yes z)
 ·dsimp only
  refine wpAny_bind (wpAny_setState_of (s:={s with toks:=s.toks+(k.length+1)}) ho hd (fits_of T hc) ?_)
  dsimp only
  obtain⟨B1,B2,rfl,p1,p2⟩:=T.put (y:=Value.ref q) wy he
  have mk:(t.put e).1.mask=t.mask:=rfl
  rw[p1]
  have ees:insertAt ((B1++B2).map (·.2)).toArray B1.length (tupleKeyHash knd k,Value.ref q)=((B1++(e,tupleKeyHash knd k,Value.ref q)::B2).map (·.2)).toArray:=by
   rw[map_append,map_append]
   have:=zL (B1.map (·.2)) (B2.map (·.2)) (tupleKeyHash knd k,Value.ref q)
   rw[length_map] at this
   exact this
  have len1:(B1++(e,tupleKeyHash knd k,Value.ref q)::B2).length=(B1++B2).length+1:=by simp;omega
  have mem1:∀y,y∈(B1++(e,tupleKeyHash knd k,Value.ref q)::B2).map (·.2)↔y∈(B1++B2).map (·.2)\/y=(tupleKeyHash knd k,.ref q):=fun y=>by
   rw[map_append,map_append,mem_append,mem_append,map_cons,mem_cons]
   constructor
   ·rintro (z|z|z)
    ·exact .inl (.inl z)
    ·exact .inr z
    ·exact .inl (.inr z)
   ·rintro ((z|z)|z)
    ·exact .inl z
    ·exact .inr (.inr z)
    ·exact .inr (.inl z)
  have tail:∀(t1:SetTable),Tab t1 (B1++(e,tupleKeyHash knd k,Value.ref q)::B2)->t1.mask=t.mask->wpAny (model prog w) A (do
    storeSet a (insertAt ((B1++B2).map (·.2)).toArray B1.length (tupleKeyHash knd k,Value.ref q)) t1
    if (!false&&t1.tooFull)=true then do
     setRelay a (SetTable.grown (((B1++B2).map (·.2)).toArray.size+1))
     pure true
    else pure true) Q E {s with toks:=s.toks+(k.length+1)}:=by
   intro t1 T1 m1
   rw[ees]
   have hs1:((B1++(e,tupleKeyHash knd k,Value.ref q)::B2).map (·.2)).toArray.size<=sizeLine:=by
    rw[size_toArray,length_map,len1,sizeLine_eq];omega
   refine wpAny_bind (wpAny_storeSet_of (s:={s with toks:=s.toks+(k.length+1)}) ho hd ?_ hs1)
   have ho1:=zD ho hd ((B1++(e,tupleKeyHash knd k,Value.ref q)::B2).map (·.2)).toArray t1
   have sb1:=Heap.SameBut.update s.heap a (Obj.putSet ((B1++(e,tupleKeyHash knd k,Value.ref q)::B2).map (·.2)).toArray t1)
   have esz:((B1++B2).map (·.2)).toArray.size+1=(B1++(e,tupleKeyHash knd k,Value.ref q)::B2).length:=by
    rw[len1,size_toArray,length_map]
   rw[esz]
   by_cases tf:t1.tooFull=true
   ·rw[tf]
    rw[if_pos (by rfl)]
    refine wpAny_bind (KS (s:={s with heap:=_,toks:=s.toks+(k.length+1)}) ho1 hex rfl T1 (by rw[len1,m1];omega) ∅ ∅ fun h' L' c1 c2 c3 c4=>?_)
    exact wpAny_pure (no z h' L' (sb1.trans c1) c2 (c3.trans len1) fun y=>(c4 y).trans (mem1 y))
   ·rw[if_neg (by simpa using tf)]
    refine wpAny_pure (no z _ _ sb1 ⟨_,_,t1,ho1,hex,rfl,T1,?_⟩ len1 mem1)
    unfold tooFull at tf
    rw[T1.fill] at tf
    simpa using tf
  by_cases pl:(t.put e).1.plain=true
  ·rw[if_pos pl]
   refine wpAny_bind (LH (s:={s with toks:=s.toks+(k.length+1)}) hk fun b=>?_)
   cases b with
   |true=>exact tail _ p2 rfl
   |false=>exact tail _ (p2.plain false) rfl
  ·rw[if_neg pl]
   refine wpAny_bind (wpAny_pure ?_)
   exact tail _ p2 rfl
end
end ST
set_option maxHeartbeats 4000000
namespace NM
@[irreducible] def Sz (n:Nat) (i:Int):Prop:=i.natAbs<2 ^ n
theorem Sz.mono{n m:Nat}{i:Int}(h:Sz n i)(l:n<=m):Sz m i:=by unfold Sz at *;exact lt_of_lt_of_le h (Nat.pow_le_pow_right ⋯ l)
theorem Sz.mul{n m:Nat}{i j:Int}(h:Sz n i)(g:Sz m j):Sz (n+m) (i*j):=by
 unfold Sz at *
 rw[natAbs_mul,Nat.pow_add]
 exact Nat.mul_lt_mul'' h g
theorem Sz.add{n:Nat}{i j:Int}(h:Sz n i)(g:Sz n j):Sz (n+1) (i+j):=by
 unfold Sz at *
 have:=Int.natAbs_add_le i j
 rw[pow_succ]
 omega
theorem Sz.neg{n:Nat}{i:Int}(h:Sz n i):Sz n (-i):=by unfold Sz at *;rw[Int.natAbs_neg];exact h
theorem Sz.sub{n:Nat}{i j:Int}(h:Sz n i)(g:Sz n j):Sz (n+1) (i-j):=by rw[Int.sub_eq_add_neg];exact h.add g.neg
theorem Sz.le{n:Nat}{i j:Int}(h:Sz n i)(g:j.natAbs<=i.natAbs):Sz n j:=by unfold Sz at *;exact Nat.lt_of_le_of_lt g h
theorem Sz.of{n:Nat}{i:Int}(h:i.natAbs<2 ^ n):Sz n i:=by unfold Sz;exact h
theorem Sz.lt{n:Nat}{i:Int}(h:Sz n i):i.natAbs<2 ^ n:=by unfold Sz at h;exact h
noncomputable def g3(a b c:Int):Nat:=Int.gcd (Int.gcd a b:Nat) c
theorem Mv(a b c:Int):Int.gcd (Int.gcd c a:Nat) b=g3 a b c:=by
 unfold g3
 simp only[Int.gcd,Int.natAbs_natCast]
 rw[Nat.gcd_assoc,Nat.gcd_comm]
theorem KD(a b c:Int):((g3 a b c:Nat):Int) ∣ a/\((g3 a b c:Nat):Int) ∣ b/\((g3 a b c:Nat):Int) ∣ c:=by
 have h:((g3 a b c:Nat):Int) ∣ ((Int.gcd a b:Nat):Int):=Int.gcd_dvd_left ..
 exact⟨Int.dvd_trans h (Int.gcd_dvd_left ..),Int.dvd_trans h (Int.gcd_dvd_right ..),Int.gcd_dvd_right ..⟩
theorem PN{a b c:Int}{k:Nat}(h1:(k:Int) ∣ a)(h2:(k:Int) ∣ b)(h3:(k:Int) ∣ c):k ∣ g3 a b c:=by
 unfold g3
 exact Int.dvd_gcd (Int.natCast_dvd_natCast.mpr (Int.dvd_gcd h1 h2)) h3
theorem AR{a b c:Int}(h:c≠0):0<g3 a b c:=by
 unfold g3
 exact Int.gcd_pos_of_ne_zero_right _ h
theorem LM(a b c k:Int):g3 (a*k) (b*k) (c*k)=g3 a b c*k.natAbs:=by
 unfold g3
 simp only[Int.gcd,Int.natAbs_natCast,natAbs_mul,Nat.gcd_mul_right]
theorem Ed(a b c:Int):g3 a (-b) c=g3 a b c:=by
 unfold g3
 rw[Int.gcd_neg]
theorem Lx(a b c:Int):g3 (-a) b c=g3 a b c:=by
 unfold g3
 rw[Int.neg_gcd]
structure N3 where
 a:Int
 b:Int
 c:Int
deriving DecidableEq
theorem N3.ext'{x y:N3}(h1:x.a=y.a)(h2:x.b=y.b)(h3:x.c=y.c):x=y:=by cases x;cases y;simp_all
structure Ok(x:N3):Prop where
 c:0<x.c
 g:g3 x.a x.b x.c=1
noncomputable def dv(a b c:Int):Int:=if c<0 then -(g3 a b c:Nat) else (g3 a b c:Nat)
noncomputable def low(a b c:Int):N3:=⟨a.fdiv (dv a b c),b.fdiv (dv a b c),c.fdiv (dv a b c)⟩
theorem B4{a k q:Int}(hk:k≠0)(h:a=k*q):a.fdiv k=q:=by
 subst h
 exact Int.mul_fdiv_cancel_left q hk
theorem Q5{a b c:Int}(h:c≠0):dv a b c≠0:=by
 have:=AR (a:=a) (b:=b) h
 unfold dv
 split<;>omega
theorem QE(a b c:Int):dv a b c ∣ a/\dv a b c ∣ b/\dv a b c ∣ c:=by
 obtain⟨h1,h2,h3⟩:=KD a b c
 unfold dv
 split
 ·exact⟨Int.neg_dvd.mpr h1,Int.neg_dvd.mpr h2,Int.neg_dvd.mpr h3⟩
 ·exact⟨h1,h2,h3⟩
theorem jD(a b:Int){c:Int}(h:c≠0):∃k:Int,k≠0/\(0<k↔0<c)/\a=k*(low a b c).a/\b=k*(low a b c).b/\c=k*(low a b c).c/\Ok (low a b c):=by
 have hk:=Q5 (a:=a) (b:=b) h
 obtain⟨⟨p,hp⟩,⟨q,hq⟩,⟨r,hr⟩⟩:=QE a b c
 have ep:(low a b c).a=p:=B4 hk hp
 have eq:(low a b c).b=q:=B4 hk hq
 have er:(low a b c).c=r:=B4 hk hr
 have hg:=AR (a:=a) (b:=b) h
 have hs:0<dv a b c↔0<c:=by unfold dv;split<;>omega
 have hr0:0<r:=by
  have hr':r≠0:=fun z=>h (by rw[hr,z,mul_zero])
  rcases Int.lt_trichotomy 0 (dv a b c) with z|z|z
  ·have:=hs.mp z
   rw[hr] at this
   rw[Int.mul_comm] at this
   exact Int.pos_of_mul_pos_left this z |> fun t=>t
  ·exact absurd z.symm hk
  ·have:c<0:=by omega
   rcases Int.lt_trichotomy 0 r with w|w|w
   ·exact w
   ·exact absurd w.symm hr'
   ·have:=Int.mul_pos_of_neg_of_neg z w
    rw[<- hr] at this
    omega
 refine⟨dv a b c,hk,hs,by rw[ep];exact hp,by rw[eq];exact hq,by rw[er];exact hr,by rw[er];exact hr0,?_⟩
 rw[ep,eq,er]
 have e:=LM p q r (dv a b c)
 rw[Int.mul_comm p,Int.mul_comm q,Int.mul_comm r,<- hp,<- hq,<- hr] at e
 have e2:(dv a b c).natAbs=g3 a b c:=by unfold dv;split<;>simp
 rw[e2] at e
 have:g3 p q r*g3 a b c=1*g3 a b c:=by omega
 exact Nat.eq_of_mul_eq_mul_right hg this
theorem pV(a b:Int){c:Int}(h:c≠0):Ok (low a b c):=(jD a b h).choose_spec.2.2.2.2.2
theorem Ok.same{x y:N3}(hx:Ok x)(hy:Ok y)(h1:x.a*y.c=y.a*x.c)(h2:x.b*y.c=y.b*x.c):x=y:=by
 have key:∀{u v:N3},Ok u->Ok v->u.a*v.c=v.a*u.c->u.b*v.c=v.b*u.c->u.c ∣ v.c:=fun {u v} hu hv e1 e2=>by
  have hd:u.c.natAbs ∣ g3 (u.a*v.c) (u.b*v.c) (u.c*v.c):=PN
   (by rw[Int.natAbs_of_nonneg (le_of_lt hu.c),e1];exact Int.dvd_mul_left _ _) (by rw[Int.natAbs_of_nonneg (le_of_lt hu.c),e2];exact Int.dvd_mul_left _ _) (by rw[Int.natAbs_of_nonneg (le_of_lt hu.c)];exact Int.dvd_mul_right _ _)
  rw[LM,hu.g,Nat.one_mul] at hd
  exact Int.natAbs_dvd_natAbs.mp hd
 have hc:x.c=y.c:=Int.dvd_antisymm (le_of_lt hx.c) (le_of_lt hy.c) (key hx hy h1 h2) (key hy hx h1.symm h2.symm)
 have hn:y.c≠0:=by have:=hy.c;omega
 rw[hc] at h1 h2
 exact N3.ext' (eq_of_mul_eq_mul_right hn h1) (eq_of_mul_eq_mul_right hn h2) hc
theorem Py{a b c a' b' c':Int}(h:c≠0)(h':c'≠0)(e1:a*c'=a'*c)(e2:b*c'=b'*c):low a b c=low a' b' c':=by
 obtain⟨k,hk,_,p1,p2,p3,o⟩:=jD a b h
 obtain⟨l,hl,_,q1,q2,q3,o'⟩:=jD a' b' h'
 generalize low a b c=x at *
 generalize low a' b' c'=y at *
 subst p1 p2 p3 q1 q2 q3
 have hkl:k*l≠0:=mul_ne_zero hk hl
 refine o.same o' (Int.eq_of_mul_eq_mul_left hkl (by grind)) (Int.eq_of_mul_eq_mul_left hkl (by grind))
theorem Ok.low{x:N3}(h:Ok x):low x.a x.b x.c=x:=by
 have hc:x.c≠0:=by have:=h.c;omega
 obtain⟨k,hk,_,p1,p2,p3,o⟩:=jD x.a x.b hc
 refine o.same h ?_ ?_
 ·exact Int.eq_of_mul_eq_mul_left hk (by grind)
 ·exact Int.eq_of_mul_eq_mul_left hk (by grind)
theorem Ok.Pj{x:N3}{a b c:Int}(h:Ok x)(hc:c≠0)(e1:x.a*c=a*x.c)(e2:x.b*c=b*x.c):x=NM.low a b c:=by
 have q:=Py (by have:=h.c;omega) hc e1 e2
 rw[h.low] at q
 exact q
theorem Qf(a b:Int){c:Int}(h:c≠0):(low a b c).a.natAbs<=a.natAbs/\(low a b c).b.natAbs<=b.natAbs/\(low a b c).c.natAbs<=c.natAbs:=by
 obtain⟨k,hk,_,p1,p2,p3,_⟩:=jD a b h
 have hk':1<=k.natAbs:=by omega
 have le:∀{u v:Int},u=k*v->v.natAbs<=u.natAbs:=fun {u v} e=>by
  rw[e,natAbs_mul]
  exact Nat.le_mul_of_pos_left _ hk'
 exact⟨le p1,le p2,le p3⟩
structure Bd(n:Nat)(x:N3):Prop where
 a:Sz n x.a
 b:Sz n x.b
 c:Sz n x.c
theorem Bd.mono{n m:Nat}{x:N3}(h:Bd n x)(l:n<=m):Bd m x:=⟨h.a.mono l,h.b.mono l,h.c.mono l⟩
theorem tV{a b c:Int}{n:Nat}(h:c≠0)(ha:Sz n a)(hb:Sz n b)(hc:Sz n c):Bd n (low a b c):=by
 obtain⟨h1,h2,h3⟩:=Qf a b h
 exact⟨ha.le h1,hb.le h2,hc.le h3⟩
noncomputable def plus(x y:N3):N3:=low (x.a*y.c+y.a*x.c) (x.b*y.c+y.b*x.c) (x.c*y.c)
noncomputable def less(x y:N3):N3:=low (x.a*y.c-y.a*x.c) (x.b*y.c-y.b*x.c) (x.c*y.c)
noncomputable def times(d:Int)(x y:N3):N3:=low (x.a*y.a+d*x.b*y.b) (x.a*y.b+x.b*y.a) (x.c*y.c)
noncomputable def norm(d:Int)(x:N3):Int:=x.a*x.a-d*x.b*x.b
noncomputable def bN(d:Int)(x:N3):N3:=low (x.c*x.a) (-x.c*x.b) (norm d x)
noncomputable def nI(x:N3):N3:=⟨x.a,-x.b,x.c⟩
noncomputable def minus(x:N3):N3:=⟨-x.a,-x.b,x.c⟩
noncomputable def av:N3:=⟨0,0,1⟩
noncomputable def one:N3:=⟨1,0,1⟩
theorem Ok.cn{x:N3}(h:Ok x):x.c≠0:=by have:=h.c;omega
theorem yT{x y:N3}(h:Ok x)(g:Ok y):x.c*y.c≠0:=mul_ne_zero h.cn g.cn
theorem gj{x:N3}(h:Ok x):Ok (nI x):=⟨h.c,by show g3 x.a (-x.b) x.c=1;rw[Ed];exact h.g⟩
theorem fu{x:N3}(h:Ok x):Ok (minus x):=⟨h.c,by show g3 (-x.a) (-x.b) x.c=1;rw[Lx,Ed];exact h.g⟩
theorem aW{x y:N3}(h:Ok x)(g:Ok y):Ok (plus x y):=pV _ _ (yT h g)
theorem dF{x y:N3}(h:Ok x)(g:Ok y):Ok (less x y):=pV _ _ (yT h g)
theorem aM{d:Int}{x y:N3}(h:Ok x)(g:Ok y):Ok (times d x y):=pV _ _ (yT h g)
theorem bB:Ok av:=⟨⋯,⋯⟩
theorem dr:Ok one:=⟨⋯,⋯⟩
theorem Bu{n:Nat}{x:N3}(h:Bd n x):Bd n (nI x):=⟨h.a,h.b.neg,h.c⟩
theorem iq{n:Nat}{x:N3}(h:Bd n x):Bd n (minus x):=⟨h.a.neg,h.b.neg,h.c⟩
theorem cN{n m:Nat}{x y:N3}(hx:Ok x)(hy:Ok y)(h:Bd n x)(g:Bd m y):Bd (n+m+1) (plus x y):=
 tV (yT hx hy) ((h.a.mul g.c).add ((g.a.mul h.c).mono ∅)) ((h.b.mul g.c).add ((g.b.mul h.c).mono ∅)) ((h.c.mul g.c).mono ∅)
theorem o6{d:Int}(h:2<=d)(h':d<=30):Sz 5 d:=by unfold Sz;omega
theorem bD{n m:Nat}{d:Int}{x y:N3}(hd:Sz 5 d)(hx:Ok x)(hy:Ok y)(h:Bd n x)(g:Bd m y):Bd (n+m+6) (times d x y):=
 tV (yT hx hy) (((h.a.mul g.a).mono ∅).add (((hd.mul h.b).mul g.b).mono ∅)) ((((h.a.mul g.b).mono (by omega:n+m<=n+m)).add ((h.b.mul g.a).mono ∅)).mono ∅) ((h.c.mul g.c).mono ∅)
theorem HC{n:Nat}{d:Int}{x:N3}(hd:Sz 5 d)(h:Bd n x):Sz (2*n+6) (norm d x):=by
 have e1:=h.a.mul h.a
 have e2:=(hd.mul h.b).mul h.b
 exact ((e1.mono (by omega:n+n<=5+n+n)).sub e2).mono ∅
theorem D7{n:Nat}{d:Int}{x:N3}(hd:Sz 5 d)(hn:norm d x≠0)(h:Bd n x):Bd (2*n+6) (bN d x):=
 tV hn ((h.c.mul h.a).mono ∅) ((h.c.neg.mul h.b).mono ∅) (HC hd h)
noncomputable def ay(d:Int):Prop:=2<=d/\d<=30/\d≠4/\d≠9/\d≠16/\d≠25
theorem IW{d:Nat}(h:∀m:Nat,m*m≠d):∀{a b:Nat},a*a=d*(b*b)->b=0:=fun {a b} e=>by
 rcases Nat.eq_zero_or_pos b with hb|hb
 ·exact hb
 exfalso
 obtain⟨g,p,q,hg,hc,rfl,rfl⟩:=Nat.exists_coprime' (m:=a) (n:=b) (Nat.gcd_pos_of_pos_right _ hb)
 have e2:(p*p)*(g*g)=(d*(q*q))*(g*g):=by grind
 have e3:p*p=d*(q*q):=Nat.eq_of_mul_eq_mul_right (Nat.mul_pos hg hg) e2
 have hq:q ∣ p*p:=⟨d*q,by rw[e3];grind⟩
 have hq1:q ∣ p:=hc.symm.dvd_of_dvd_mul_left hq
 have hq2:q=1:=by
  have:=Nat.dvd_gcd hq1 (Nat.dvd_refl q)
  rw[hc] at this
  exact Nat.dvd_one.mp this
 subst hq2
 exact h p (by rw[e3];simp)
theorem ay.nat{d:Int}(h:ay d):∀m:Nat,m*m≠d.toNat:=fun m e=>by
 obtain⟨h1,h2,h3,h4,h5,h6⟩:=h
 have hm:m<=5:=by
  rcases lt_or_ge 5 m with z|z
  ·have:=mul_le_mul z z;omega
  ·exact z
 have:m=0\/m=1\/m=2\/m=3\/m=4\/m=5:=by omega
 rcases this with rfl|rfl|rfl|rfl|rfl|rfl<;>omega
theorem ay.EZ{d a b:Int}(h:ay d)(e:a*a=d*b*b):a=0/\b=0:=by
 have hd:d=((d.toNat:Nat):Int):=by have:=h.1;omega
 have e1:a.natAbs*a.natAbs=d.toNat*(b.natAbs*b.natAbs):=by
  have e2:=congrArg Int.natAbs e
  rw[natAbs_mul,natAbs_mul,natAbs_mul] at e2
  rw[e2,Nat.mul_assoc]
  congr 1
  omega
 have hb:=IW h.nat e1
 have hb':b=0:=by omega
 subst hb'
 have:a*a=0:=by rw[e];simp
 exact⟨by rcases Int.mul_eq_zero.mp this with z|z<;>exact z,rfl⟩
theorem ay.norm{d:Int}{x:N3}(h:ay d)(ok:Ok x)(hx:x≠av):norm d x≠0:=fun e=>by
 have e':x.a*x.a=d*x.b*x.b:=by unfold NM.norm at e;omega
 obtain⟨h1,h2⟩:=h.EZ e'
 apply hx
 have hg:=ok.g
 rw[h1,h2] at hg
 have hc:=ok.c
 have:x.c=1:=by
  unfold g3 at hg
  simp[Int.gcd] at hg
  omega
 exact N3.ext' h1 h2 this
theorem nM{d:Int}{x:N3}(h:NM.norm d x≠0):Ok (bN d x):=pV _ _ h
noncomputable def sg(d a b:Int):Int:=
 if a=0/\b=0 then 0 else if 0<=a/\0<=b then 1 else if a<=0/\b<=0 then -1 else if (if d*b*b<a*a then a else b)>0 then 1 else -1
theorem Oi{u v:Int}(hu:0<=u)(h:u*u<=v*v)(hv:0<=v):u<=v:=by
 rcases Int.lt_or_le v u with z|z
 ·have:=Int.mul_lt_mul_of_pos_left z (show 0<u by omega)
  have:=Int.mul_le_mul_of_nonneg_right (le_of_lt z) hv
  omega
 ·exact z
theorem sq_nonneg(u:Int):0<=u*u:=by
 rcases Int.le_total 0 u with h|h
 ·exact mul_nonneg h h
 ·exact Int.mul_nonneg_of_nonpos_of_nonpos h h
noncomputable def P(d a b:Int):Prop:=(0<=a/\0<=b/\¬ (a=0/\b=0))\/(0<a/\b<0/\d*b*b<a*a)\/(a<0/\0<b/\a*a<d*b*b)
theorem jE{d a b:Int}(h:ay d):sg d a b=1↔P d a b:=by
 unfold sg P
 have key:a*a=d*b*b->a=0/\b=0:=h.EZ
 by_cases c1:d*b*b<a*a
 ·simp only[c1,if_true];split<;>(try split)<;>(try split)<;>(try split)<;>simp<;>omega
 ·simp only[c1,if_false];split<;>(try split)<;>(try split)<;>(try split)<;>simp<;>omega
theorem yz{d a b:Int}(h:ay d):sg d (-a) (-b) = - sg d a b:=by
 unfold sg
 have key:a*a=d*b*b->a=0/\b=0:=h.EZ
 have e1:d * -b * -b=d*b*b:=by grind
 have e2:-a * -a=a*a:=by grind
 rw[e1,e2]
 by_cases c1:d*b*b<a*a
 ·simp only[c1,if_true];split<;>split<;>(try split)<;>(try split)<;>(try split)<;>(try split)<;>(try split)<;>(try split)<;>omega
 ·simp only[c1,if_false];split<;>split<;>(try split)<;>(try split)<;>(try split)<;>(try split)<;>(try split)<;>(try split)<;>omega
theorem d5{d a b:Int}:sg d a b=0↔a=0/\b=0:=by
 unfold sg;split<;>(try split)<;>(try split)<;>(try split)<;>omega
theorem kf(d a b:Int):sg d a b=0\/sg d a b=1\/sg d a b = -1:=by
 unfold sg;split<;>(try split)<;>(try split)<;>(try split)<;>omega
theorem QZ{d a b:Int}(h:ay d):(a=0/\b=0)\/P d a b\/P d (-a) (-b):=by
 rcases kf d a b with e|e|e
 ·exact .inl (d5.mp e)
 ·exact .inr (.inl ((jE h).mp e))
 ·exact .inr (.inr ((jE h).mp (by rw[yz h,e];rfl)))
theorem oQ{d a b:Int}(h:ay d)(n:d*b*b<a*a):P d a b↔0<a:=by
 unfold P
 have:=sq_nonneg b
 have h0:0<=d*b*b:=by rw[Int.mul_assoc];exact mul_nonneg (by have:=h.1;omega) this
 have ha:a≠0:=fun z=>by subst z;simp at n;omega
 omega
theorem kH{d a b:Int}(h:ay d)(n:a*a<d*b*b):P d a b↔0<b:=by
 unfold P
 have h0:=sq_nonneg a
 have hb:b≠0:=fun z=>by subst z;simp at n;omega
 omega
theorem sI{u v:Int}(h:v*v<u*u):0<u+v↔0<u:=by
 have hu:u≠0:=fun z=>by subst z;have:=sq_nonneg v;simp at h;omega
 have l:v.natAbs<u.natAbs:=by
  rcases lt_or_ge v.natAbs u.natAbs with z|z
  ·exact z
  ·have:=mul_le_mul z z
   have e1:((u.natAbs*u.natAbs:Nat):Int)=u*u:=Int.natAbs_mul_self
   have e2:((v.natAbs*v.natAbs:Nat):Int)=v*v:=Int.natAbs_mul_self
   omega
 omega
theorem mul_pos_iff{u v:Int}(hu:u≠0)(hv:v≠0):0<u*v↔(0<u↔0<v):=by
 rcases Int.lt_or_gt_of_ne hu with h|h<;>rcases Int.lt_or_gt_of_ne hv with g|g
 ·have:=Int.mul_pos_of_neg_of_neg h g;omega
 ·have:=Int.mul_neg_of_neg_of_pos h g;omega
 ·have:=Int.mul_neg_of_pos_of_neg h g;omega
 ·have:=mul_pos h g;omega
theorem wL{u v s t:Int}(hu:0<=u)(h:u<v)(hs:0<=s)(g:s<t):u*s<v*t:=by
 have e1:u*s<=v*s:=Int.mul_le_mul_of_nonneg_right (le_of_lt h) hs
 have e2:v*s<v*t:=Int.mul_lt_mul_of_pos_left g ∅
 omega
theorem dsq{d b:Int}(hd:0<d):0<=d*b*b:=by rw[Int.mul_assoc];exact mul_nonneg (le_of_lt hd) (sq_nonneg b)
theorem Rx{d a b p q:Int}(h:ay d)(h1:¬ (a=0/\b=0))(h2:¬ (p=0/\q=0)):P d (a*p+d*b*q) (a*q+b*p)↔(P d a b↔P d p q):=by
 have hd:0<d:=by have:=h.1;omega
 have n1:a*a≠d*b*b:=fun e=>h1 (h.EZ e)
 have n2:p*p≠d*q*q:=fun e=>h2 (h.EZ e)
 have pz:∀{u v:Int},d*v*v<u*u->u≠0:=fun {u v} e z=>by subst z;have:=dsq (b:=v) hd;simp at e;omega
 have qz:∀{u v:Int},u*u<d*v*v->v≠0:=fun {u v} e z=>by subst z;have:=sq_nonneg u;simp at e;omega
 have id1:(a*p+d*b*q)*(a*p+d*b*q)-d*(a*q+b*p)*(a*q+b*p)=(a*a-d*b*b)*(p*p-d*q*q):=by grind
 rcases Int.lt_or_gt_of_ne n1 with c1|c1<;>rcases Int.lt_or_gt_of_ne n2 with c2|c2
 ·have pp:=Int.mul_pos_of_neg_of_neg (show a*a-d*b*b<0 by omega) (show p*p-d*q*q<0 by omega)
  rw[oQ h ∅,kH h c1,kH h c2]
  have sq:(a*p)*(a*p)<(d*b*q)*(d*b*q):=by
   have e2:=wL (sq_nonneg a) c1 (sq_nonneg p) c2
   grind
  rw[Int.add_comm,sI sq,Int.mul_assoc,mul_pos_iff ∅ (mul_ne_zero (qz c1) (qz c2)),mul_pos_iff (qz c1) (qz c2)]
  omega
 ·have pp:=Int.mul_neg_of_neg_of_pos (show a*a-d*b*b<0 by omega) (show 0<p*p-d*q*q by omega)
  rw[kH h ∅,kH h c1,oQ h c2]
  have sq:(a*q)*(a*q)<(b*p)*(b*p):=by
   have e2:=wL (sq_nonneg a) c1 (dsq (b:=q) hd) c2
   have e3:d*((a*q)*(a*q))<d*((b*p)*(b*p)):=by grind
   exact Int.lt_of_mul_lt_mul_left e3 (le_of_lt hd)
  rw[Int.add_comm,sI sq,mul_pos_iff (qz c1) (pz c2)]
 ·have pp:=Int.mul_neg_of_pos_of_neg (show 0<a*a-d*b*b by omega) (show p*p-d*q*q<0 by omega)
  rw[kH h ∅,oQ h c1,kH h c2]
  have sq:(b*p)*(b*p)<(a*q)*(a*q):=by
   have e2:=wL (dsq (b:=b) hd) c1 (sq_nonneg p) c2
   have e3:d*((b*p)*(b*p))<d*((a*q)*(a*q)):=by grind
   exact Int.lt_of_mul_lt_mul_left e3 (le_of_lt hd)
  rw[sI sq,mul_pos_iff (pz c1) (qz c2)]
 ·have pp:=mul_pos (show 0<a*a-d*b*b by omega) (show 0<p*p-d*q*q by omega)
  rw[oQ h ∅,oQ h c1,oQ h c2]
  have sq:(d*b*q)*(d*b*q)<(a*p)*(a*p):=by
   have e2:=wL (dsq (b:=b) hd) c1 (dsq (b:=q) hd) c2
   grind
  rw[sI sq,mul_pos_iff (pz c1) (pz c2)]
theorem RC{d A x B y:Int}(hd:0<d)(hA:0<=A)(hx:0<=x)(hB:0<=B)(hy:0<=y)(h1:A*A<=d*B*B)(h2:x*x<=d*y*y):A*x<=d*(B*y):=by
 refine Oi (mul_nonneg hA hx) ?_ (mul_nonneg (le_of_lt hd) (mul_nonneg hB hy))
 have:=Int.mul_le_mul h1 h2 (sq_nonneg x) (dsq hd)
 grind
theorem T1{d A x B y:Int}(hd:0<d)(hA:0<=A)(hx:0<=x)(hB:0<=B)(hy:0<=y)(h1:A*A<d*B*B)(h2:x*x<d*y*y):(A+x)*(A+x)<d*(B+y)*(B+y):=by
 have:=RC hd hA hx hB hy (le_of_lt h1) (le_of_lt h2)
 grind
theorem T2{d A x B y:Int}(hd:0<d)(hA:0<=A)(hx:0<=x)(hB:0<=B)(hy:0<=y)(h1:d*B*B<A*A)(h2:d*y*y<x*x):d*(B+y)*(B+y)<(A+x)*(A+x):=by
 have:d*(B*y)<=A*x:=by
  refine Oi (mul_nonneg (le_of_lt hd) (mul_nonneg hB hy)) ?_ (mul_nonneg hA hx)
  have:=wL (dsq (b:=B) hd) h1 (dsq (b:=y) hd) h2
  grind
 grind
theorem Z1{d x1 y1 x2 y2:Int}(hd:0<d)(h1:x1*x1<d*y1*y1)(h2:d*y2*y2<x2*x2)(a1:0<=x2)(a2:x2<=x1)(a3:0<=y1)(a4:y1<=y2):False:=by
 have e1:=Int.mul_le_mul a2 a2 a1 (Int.le_trans a1 a2)
 have e2:=Int.mul_le_mul_of_nonneg_left (Int.mul_le_mul a4 a4 a3 (Int.le_trans a3 a4)) (le_of_lt hd)
 grind
theorem Z2{d x1 y1 x2 y2 x3 y3:Int}(hd:0<d)(h1:x1*x1<d*y1*y1)(h2:d*y2*y2<x2*x2)(h3:d*y3*y3<x3*x3)(a1:0<=x2)(a2:0<=y2)(a3:0<=x3)(a4:0<=y3)(e1:x1=x2+x3)(e2:y1=y2+y3):False:=by
 subst e1 e2
 have:=T2 hd a1 a3 a2 a4 h2 h3
 omega
theorem Z3{d x1 y1 x2 y2 x3 y3:Int}(hd:0<d)(h1:d*y1*y1<x1*x1)(h2:x2*x2<d*y2*y2)(h3:x3*x3<d*y3*y3)(a1:0<=x2)(a2:0<=y2)(a3:0<=x3)(a4:0<=y3)(e1:x1=x2+x3)(e2:y1=y2+y3):False:=by
 subst e1 e2
 have:=T1 hd a1 a3 a2 a4 h2 h3
 omega
theorem Rc{d a b p q u v:Int}(h:ay d)(h1:P d a b)(h2:P d p q)(h3:P d u v)(e1:a+p+u=0)(e2:b+q+v=0):False:=by
 have hd:0<d:=by have:=h.1;omega
 unfold P at h1 h2 h3
 have x1:∀{u c:Int},u*u<c->-u * -u<c:=fun {u c} e=>by grind
 have x2:∀{u c:Int},c<u*u->c < -u * -u:=fun {u c} e=>by grind
 have x3:∀{u c:Int},c<d*u*u->c<d * -u * -u:=fun {u c} e=>by grind
 have x4:∀{u c:Int},d*u*u<c->d * -u * -u<c:=fun {u c} e=>by grind
 rcases h1 with ⟨u1,u2,u3⟩|⟨u1,u2,u3⟩|⟨u1,u2,u3⟩<;>rcases h2 with ⟨v1,v2,v3⟩|⟨v1,v2,v3⟩|⟨v1,v2,v3⟩<;>rcases h3 with ⟨w1,w2,w3⟩|⟨w1,w2,w3⟩|⟨w1,w2,w3⟩<;>(try omega)
 all_goals first
  |exact Z1 hd (x1 u3) (x4 v3) ∅ ∅ ∅ ∅
  |exact Z1 hd (x1 v3) (x4 u3) ∅ ∅ ∅ ∅
  |exact Z1 hd (x1 u3) (x4 w3) ∅ ∅ ∅ ∅
  |exact Z1 hd (x1 w3) (x4 u3) ∅ ∅ ∅ ∅
  |exact Z1 hd (x1 v3) (x4 w3) ∅ ∅ ∅ ∅
  |exact Z1 hd (x1 w3) (x4 v3) ∅ ∅ ∅ ∅
  |exact Z2 hd (x1 u3) (x4 v3) (x4 w3) ∅ ∅ ∅ ∅ ∅ ∅
  |exact Z2 hd (x1 v3) (x4 u3) (x4 w3) ∅ ∅ ∅ ∅ ∅ ∅
  |exact Z2 hd (x1 w3) (x4 u3) (x4 v3) ∅ ∅ ∅ ∅ ∅ ∅
  |exact Z3 hd (x4 u3) (x1 v3) (x1 w3) ∅ ∅ ∅ ∅ ∅ ∅
  |exact Z3 hd (x4 v3) (x1 u3) (x1 w3) ∅ ∅ ∅ ∅ ∅ ∅
  |exact Z3 hd (x4 w3) (x1 u3) (x1 v3) ∅ ∅ ∅ ∅ ∅ ∅
theorem R3{d a b p q:Int}(h:ay d)(h1:P d a b)(h2:P d p q):P d (a+p) (b+q):=by
 rcases QZ (a:=a+p) (b:=b+q) h with ⟨e1,e2⟩|e|e
 ·have ea:p = -a:=by omega
  have eb:q = -b:=by omega
  subst ea eb
  have s1:=(jE h).mpr h1
  have s2:=(jE h).mpr h2
  rw[yz h,s1] at s2
  omega
 ·exact e
 ·exact (Rc h h1 h2 e ∅ ∅).elim
theorem EN{d a b p q:Int}(h:ay d):sg d (a*p+d*b*q) (a*q+b*p)=sg d a b*sg d p q:=by
 by_cases h1:a=0/\b=0
 ·obtain⟨rfl,rfl⟩:=h1
  have e:sg d (0:Int) 0=0:=d5.mpr ⟨rfl,rfl⟩
  rw[e];simp[d5]
 by_cases h2:p=0/\q=0
 ·obtain⟨rfl,rfl⟩:=h2
  have e:sg d (0:Int) 0=0:=d5.mpr ⟨rfl,rfl⟩
  rw[e];simp[d5]
 have k:=Rx h h1 h2
 have h3:¬ (a*p+d*b*q=0/\a*q+b*p=0):=fun ⟨e1,e2⟩=>by
  have id1:(a*p+d*b*q)*(a*p+d*b*q)-d*(a*q+b*p)*(a*q+b*p)=(a*a-d*b*b)*(p*p-d*q*q):=by grind
  rw[e1,e2] at id1
  simp only[mul_zero,Int.sub_self] at id1
  rcases Int.mul_eq_zero.mp id1.symm with z|z
  ·exact h1 (h.EZ ∅)
  ·exact h2 (h.EZ ∅)
 rw[<- jE h,<- jE h,<- jE h] at k
 have t1:=kf d a b
 have t2:=kf d p q
 have t3:=kf d (a*p+d*b*q) (a*q+b*p)
 have z1:sg d a b≠0:=fun z=>h1 (d5.mp z)
 have z2:sg d p q≠0:=fun z=>h2 (d5.mp z)
 have z3:sg d (a*p+d*b*q) (a*q+b*p)≠0:=fun z=>h3 (d5.mp z)
 rcases t1 with e|e|e<;>rcases t2 with f|f|f<;>rcases t3 with g|g|g<;>simp_all
theorem kG{d a b k:Int}(h:ay d)(hk:0<k):sg d (k*a) (k*b)=sg d a b:=by
 have e:=EN (a:=k) (b:=0) (p:=a) (q:=b) h
 have e1:sg d k 0=1:=by unfold sg;rw[if_neg ∅,if_pos ∅]
 rw[e1] at e
 simpa using e
end NM
namespace L2
open PySem PySem.Spec PyProof.Rows
section
variable {X:Cx}{pins:List (Addr×Obj)}{σ:St}{H:Hp}{s:Shared}{a:Addr}{y v:V}{u r:Value}{o:Option V}{A:Around}{E:Value->Shared->Prop}
theorem Inv.big(I:Inv X pins σ H s):sysModules<s.heap.objs.size:=by
 have h:mainGlobals<s.heap.objs.size:=(I.mod.glob.keeps I.bk).lt
 exact Nat.lt_trans ⋯ h
theorem GK{h':Heap}{t':Nat}{ob:HO}(I:Inv X pins σ H s)(mu:Mut (H a))(hs:Heap.SameBut a s.heap h')(he:∃q,h'.get? a=some q)(new:gK X.prog X.w (upd H a ob) h' a ob) :
  Inv X pins σ (upd H a ob) {s with heap:=h',toks:=t'}:=
 I.write (x:=a) (e:=a) mu (.inl rfl) (fun b q hb z=>(hs.2 b hb).trans z) he new
end
noncomputable def Rq(i:Expr):Prop:=∀ov iv,subscripted i false ov iv=operate [ov,iv] (getItem ov iv)
theorem MA{prog:Program}{w:World}{A:Around}{E:Value->Shared->Prop}{s:Shared}{env:Env}{value slice:Expr}{pos:Pos}{T id:String}{Q:Value->Shared->Prop}
  (hl:typeLookup (.type T) "__getitem__"=pure (some (.builtin id))) (hs:Rq slice)
  (h:wpAny (model prog w) A (eval value env) (fun o gV=>wpAny (model prog w) A (eval slice env) (fun i ln=>ln.TypeIs o T/\wpAny (model prog w) A (getItem o i) Q E ln) E gV) E s) :
  wpAny (model prog w) A (eval (.Subscript value slice pos) env) Q E s:=by
 refine Subscript_ (wpAny_mono h (fun o gV ls=>wpAny_mono ls (fun i ln tz=>?_) fun _ _ x=>x) fun _ _ x=>x)
 obtain⟨hT,tz⟩:=tz
 unfold subscriptTail
 refine wpAny_bind ?_
 rw[getitemInPython_of_ne hT.not_modules]
 refine wpAny_bind (wpAny_specialOf hT hl ?_)
 have fin:wpAny (model prog w) A (subscripted slice false o i) (fun r bv=>wpAny (model prog w) A (letTemporaryGo value o r>>=fun _=>pure r) Q E bv) E ln:=by
  rw[hs o i]
  exact wpAny_operating (wpAny_mono tz (fun r bv wl=>wpAny_bind (wpAny_letTemporaryGo (wpAny_pure wl))) fun _ _ x=>x)
 first
  |exact wpAny_pure (wpAny_bind fin)
  |exact wpAny_bind (wpAny_pure (wpAny_bind fin))
  |exact wpAny_bind fin
structure M1(X:Cx)(o:Expr)(m:Str)(apos:Pos)(e:Expr)(cpos:Pos):Prop where
 base:attributeBase o m X.env (eval o X.env)=eval o X.env
 few:((backTo cpos (starEach [e] X.env)).all (fun x=>!x.1)&&(backToKw cpos (keywordEach [] X.env)).all (fun x=>x.1.isSome)
  && decide (([e]:List Expr).length+([]:List Keyword).length+(if ([]:List Keyword).isEmpty then 0 else 1)<30))=true
 line:(apos.endLine==cpos.line)=true
 trees:backTo cpos (starEach [e] X.env)=[(false,eval e X.env)]
end L2
namespace NM
structure Rep(x:N3)(A B C:Int):Prop where
 c:C≠0
 a:x.a*C=A*x.c
 b:x.b*C=B*x.c
section
variable {x y:N3}{A B C A' B' C' d:Int}
theorem aD(h:Ok x):Rep x x.a x.b x.c:=⟨h.cn,rfl,rfl⟩
theorem rA{a b c:Int}(h:c≠0):Rep (low a b c) a b c:=by
 obtain⟨k,hk,_,p1,p2,p3,_⟩:=jD a b h
 generalize low a b c=z at *
 exact⟨h,by grind,by grind⟩
theorem Rep.eq(ox:Ok x)(oy:Ok y)(h:Rep x A B C)(g:Rep y A' B' C')(e1:A*C'=A'*C)(e2:B*C'=B'*C):x=y:=by
 have hc:C*C'≠0:=mul_ne_zero h.c g.c
 obtain⟨_,h1,h2⟩:=h
 obtain⟨_,g1,g2⟩:=g
 exact ox.same oy (eq_of_mul_eq_mul_right hc (by grind)) (eq_of_mul_eq_mul_right hc (by grind))
theorem Rep.nI(h:Rep x A B C):Rep (nI x) A (-B) C:=⟨h.c,h.a,by show -x.b*C = -B*x.c;have:=h.b;grind⟩
theorem Rep.minus(h:Rep x A B C):Rep (minus x) (-A) (-B) C:=⟨h.c,by show -x.a*C = -A*x.c;have:=h.a;grind,by show -x.b*C = -B*x.c;have:=h.b;grind⟩
theorem Rep.plus(ox:Ok x)(oy:Ok y)(h:Rep x A B C)(g:Rep y A' B' C'):Rep (plus x y) (A*C'+A'*C) (B*C'+B'*C) (C*C'):=by
 have hc:=yT ox oy
 obtain⟨_,q1,q2⟩:=rA (a:=x.a*y.c+y.a*x.c) (b:=x.b*y.c+y.b*x.c) hc
 obtain⟨hc1,h1,h2⟩:=h
 obtain⟨hc2,g1,g2⟩:=g
 change (NM.plus x y).a*(x.c*y.c)=_*(NM.plus x y).c at q1
 change (NM.plus x y).b*(x.c*y.c)=_*(NM.plus x y).c at q2
 generalize NM.plus x y=z at *
 exact⟨mul_ne_zero hc1 hc2,eq_of_mul_eq_mul_right hc (by grind),eq_of_mul_eq_mul_right hc (by grind)⟩
theorem Rep.less(ox:Ok x)(oy:Ok y)(h:Rep x A B C)(g:Rep y A' B' C'):Rep (less x y) (A*C'-A'*C) (B*C'-B'*C) (C*C'):=by
 have hc:=yT ox oy
 obtain⟨_,q1,q2⟩:=rA (a:=x.a*y.c-y.a*x.c) (b:=x.b*y.c-y.b*x.c) hc
 obtain⟨hc1,h1,h2⟩:=h
 obtain⟨hc2,g1,g2⟩:=g
 change (NM.less x y).a*(x.c*y.c)=_*(NM.less x y).c at q1
 change (NM.less x y).b*(x.c*y.c)=_*(NM.less x y).c at q2
 generalize NM.less x y=z at *
 exact⟨mul_ne_zero hc1 hc2,eq_of_mul_eq_mul_right hc (by grind),eq_of_mul_eq_mul_right hc (by grind)⟩
theorem Rep.times(ox:Ok x)(oy:Ok y)(h:Rep x A B C)(g:Rep y A' B' C'):Rep (times d x y) (A*A'+d*B*B') (A*B'+B*A') (C*C'):=by
 have hc:=yT ox oy
 obtain⟨_,q1,q2⟩:=rA (a:=x.a*y.a+d*x.b*y.b) (b:=x.a*y.b+x.b*y.a) hc
 obtain⟨hc1,h1,h2⟩:=h
 obtain⟨hc2,g1,g2⟩:=g
 change (NM.times d x y).a*(x.c*y.c)=_*(NM.times d x y).c at q1
 change (NM.times d x y).b*(x.c*y.c)=_*(NM.times d x y).c at q2
 generalize NM.times d x y=z at *
 exact⟨mul_ne_zero hc1 hc2,eq_of_mul_eq_mul_right hc (by grind),eq_of_mul_eq_mul_right hc (by grind)⟩
theorem Rep.norm(h:Rep x A B C):NM.norm d x*(C*C)=(A*A-d*B*B)*(x.c*x.c):=by
 obtain⟨_,h1,h2⟩:=h
 unfold NM.norm
 have e1:x.a*x.a*(C*C)=A*A*(x.c*x.c):=by
  have:(x.a*C)*(x.a*C)=(A*x.c)*(A*x.c):=by rw[h1]
  grind
 have e2:x.b*x.b*(C*C)=B*B*(x.c*x.c):=by
  have:(x.b*C)*(x.b*C)=(B*x.c)*(B*x.c):=by rw[h2]
  grind
 grind
theorem Rep.bN(ox:Ok x)(hn:NM.norm d x≠0)(h:Rep x A B C):Rep (bN d x) (C*A) (-C*B) (A*A-d*B*B):=by
 have hN:=h.norm (d:=d)
 have hcc:x.c*x.c≠0:=mul_ne_zero ox.cn ox.cn
 have hN0:A*A-d*B*B≠0:=fun z=>by
  rw[z,zero_mul] at hN
  rcases Int.mul_eq_zero.mp hN with w|w
  ·exact hn w
  ·rcases Int.mul_eq_zero.mp w with w|w<;>exact h.c w
 obtain⟨_,q1,q2⟩:=rA (a:=x.c*x.a) (b:=-x.c*x.b) hn
 change (NM.bN d x).a*NM.norm d x=_*(NM.bN d x).c at q1
 change (NM.bN d x).b*NM.norm d x=_*(NM.bN d x).c at q2
 obtain⟨hc1,h1,h2⟩:=h
 generalize NM.bN d x=z at *
 generalize NM.norm d x=n at *
 generalize A*A-d*B*B=m at *
 refine⟨hN0,?_,?_⟩
 ·have e:z.a*m*(x.c*x.c)=C*A*z.c*(x.c*x.c):=by grind
  exact eq_of_mul_eq_mul_right hcc e
 ·have e:z.b*m*(x.c*x.c) = -C*B*z.c*(x.c*x.c):=by grind
  exact eq_of_mul_eq_mul_right hcc e
theorem Rep.sg(hd:ay d)(ox:Ok x)(h:Rep x A B C)(hC:0<C):sg d x.a x.b=NM.sg d A B:=by
 have e1:=kG (a:=x.a) (b:=x.b) hd hC
 have e2:=kG (a:=A) (b:=B) hd ox.c
 rw[show C*x.a=x.c*A by have:=h.a;grind,show C*x.b=x.c*B by have:=h.b;grind] at e1
 rw[<- e1,e2]
end
end NM
namespace NM
noncomputable def Gk(d:Int)(x:N3):N3:=times d (times d (plus x (nI x)) (plus x (nI x))) (bN d (times d x (nI x)))
section
variable {d:Int}{x y z:N3}
theorem Mk{a b c:Int}(h:ay d)(hc:0<c):sg d (low a b c).a (low a b c).b=sg d a b:=(rA (show c≠0 by omega)).sg h (pV _ _ ∅) hc
theorem zr(h:ay d)(ox:Ok x)(oy:Ok y):sg d (times d x y).a (times d x y).b=sg d x.a x.b*sg d y.a y.b:=by
 unfold times
 rw[Mk h (mul_pos ox.c oy.c),EN h]
theorem oJ:sg d one.a one.b=1:=by
 unfold one sg
 rw[if_neg (by simp),if_pos (by simp)]
theorem wo(h:ay d)(ox:Ok x)(hx:sg d x.a x.b=1):norm d x≠0:=h.norm ox (fun e=>by subst e;have:sg d av.a av.b=0:=d5.mpr ⟨rfl,rfl⟩;omega)
theorem mU(ox:Ok x)(hn:norm d x≠0):times d x (bN d x)=one:=by
 have oc:=nM hn
 exact ((aD ox).times ox oc ((aD ox).bN ox hn)).eq (aM ox oc) dr (aD dr) (by simp only[one];grind) (by simp only[one];grind)
theorem Ct(h:ay d)(ox:Ok x)(hx:sg d x.a x.b=1):sg d (bN d x).a (bN d x).b=1:=by
 have hn:=wo h ox hx
 have e:=zr h ox (nM hn)
 rw[mU ox hn,oJ,hx] at e
 omega
noncomputable def W(x y:N3):Int:=x.b*y.a-x.a*y.b
noncomputable def LU(d:Int)(x y:N3):Int:=sg d (x.a*y.c-y.a*x.c) (x.b*y.c-y.b*x.c)
theorem Ja(ox:Ok x)(oy:Ok y)(e:LU d x y=0):x=y:=by
 obtain⟨h1,h2⟩:=d5.mp e
 exact ox.same oy ∅ ∅
end
end NM
namespace NM
end NM
namespace NM
section
variable {d:Int}{x y z:N3}
noncomputable def gtL(d:Int)(k o:N3):Prop:=((Gk d o).a.natAbs:Int)*(Gk d k).c<((Gk d k).a.natAbs:Int)*(Gk d o).c
noncomputable instance:Decidable (gtL d x y):=by unfold gtL;infer_instance
end
end NM
set_option maxHeartbeats 1000000
namespace NM
section
variable {d:Int}{x y z k s o:N3}{A B C A' B' C' P Q R E F G:Int}
theorem Rep.conv(h:Rep x A B C)(hc:C'≠0)(e1:A*C'=A'*C)(e2:B*C'=B'*C):Rep x A' B' C':=by
 obtain⟨h0,h1,h2⟩:=h
 refine⟨hc,eq_of_mul_eq_mul_right h0 ?_,eq_of_mul_eq_mul_right h0 ?_⟩
 ·have:x.a*C'*C=(x.a*C)*C':=by grind
  rw[this,h1]
  have:A*x.c*C'=(A*C')*x.c:=by grind
  rw[this,e1]
  grind
 ·have:x.b*C'*C=(x.b*C)*C':=by grind
  rw[this,h2]
  have:B*x.c*C'=(B*C')*x.c:=by grind
  rw[this,e2]
  grind
noncomputable def prt(d:Int)(k:N3):N3:=times d (bN d k) (bN d k)
end
end NM
set_option maxHeartbeats 4000000
namespace NM
end NM
set_option maxHeartbeats 400000
namespace NM
end NM
namespace NM
end NM
set_option maxHeartbeats 4000000
namespace NM
section
variable {d:Int}{x y z u p q s t w h p' q' s' t' w' h':N3}
theorem JK:Ok one:=⟨⋯,⋯⟩
theorem SS(ox:Ok x):times d one x=x:=
 ((aD JK).times JK ox (aD ox)).eq (aM JK ox) ox (aD ox) (by simp only[one];grind) (by simp only[one];grind)
noncomputable def hf(d:Int)(p q h:N3):N3:=plus (times d p h) (times d q (nI h))
end
end NM
set_option maxHeartbeats 400000
namespace NM
section
variable {d:Int}{x y z k s o f u v:N3}
theorem AO(ox:Ok x)(oy:Ok y):times d x y=times d y x:=
 Rep.eq (aM ox oy) (aM oy ox) (Rep.times ox oy (aD ox) (aD oy)) (Rep.times oy ox (aD oy) (aD ox)) (by grind) (by grind)
theorem GG(ox:Ok x):times d x one=x:=by rw[AO ox dr,SS ox]
end
end NM
set_option maxHeartbeats 4000000
namespace GR
theorem pig{α:Type}[DecidableEq α]{l m:List α}(hn:l.Nodup)(hs:∀x∈l,x∈m):l.length<=m.length:=by
 induction l generalizing m with
 |nil=>exact zero_le _
 |cons a l ih=>
  obtain⟨h1,h2⟩:=List.nodup_cons.mp hn
  have hm:a∈m:=hs a mem_cons_self
  have:=ih (m:=m.erase a) h2 fun x hx=>(List.mem_erase_of_ne (show x≠a from fun e=>h1 (e▸hx))).mpr (hs x (mem_cons_of_mem _ hx))
  rw[List.length_erase_of_mem hm] at this
  have:0<m.length:=length_pos_of_mem hm
  simp only[length_cons]
  omega
theorem M7{α:Type}[DecidableEq α]{l m:List α}(hn:l.Nodup)(hs:∀x∈l,x∈m)(hl:m.length<=l.length){x:α}(hx:x∈m):x∈l:=by
 by_cases c:x∈l
 ·exact c
 ·have:=pig (l:=x::l) (m:=m) (List.nodup_cons.mpr ⟨c,hn⟩) fun y hy=>by
   rcases List.mem_cons.mp hy with rfl|hy
   ·exact hx
   ·exact hs y hy
  simp only[length_cons] at this
  omega
theorem Ry{α:Type}[DecidableEq α]{l m:List α}(hn:l.Nodup)(hm:m.Nodup)(h:∀x,x∈l↔x∈m):l.length=m.length:=
 Nat.le_antisymm (pig hn fun x=>(h x).mp) (pig hm fun x=>(h x).mpr)
structure Bx where
 l:Nat
 r:Nat
 b:Nat
 t:Nat
noncomputable def Bx.has(q:Bx)(i j:Nat):Prop:=q.l<=i/\i<q.r/\q.b<=j/\j<q.t
noncomputable def run(a b:Nat):List Nat:=(List.range (b-a)).map (a + ·)
theorem L8{a b x:Nat}:x∈run a b↔a<=x/\x<b:=by
 unfold run
 simp only[mem_map,List.mem_range]
 constructor
 ·rintro ⟨k,h,rfl⟩;omega
 ·rintro ⟨h1,h2⟩;exact⟨x-a,∅,∅⟩
theorem zK{a b:Nat}:(run a b).Nodup:=by
 unfold run
 refine List.Pairwise.map _ (fun x y h e=>h ∅) List.nodup_range
theorem oU{a b:Nat}:(run a b).length=b-a:=by simp[run]
noncomputable def cellsOf(q:Bx):List (Nat×Nat):=(run q.l q.r).flatMap fun i=>(run q.b q.t).map fun j=>(i,j)
theorem cU{q:Bx}{i j:Nat}:(i,j)∈cellsOf q↔q.has i j:=by
 unfold cellsOf Bx.has
 simp only[List.mem_flatMap,mem_map,L8,Prod.mk.injEq]
 constructor
 ·rintro ⟨a,⟨h1,h2⟩,b,⟨h3,h4⟩,rfl,rfl⟩;exact⟨h1,h2,h3,h4⟩
 ·rintro ⟨h1,h2,h3,h4⟩;exact⟨i,⟨h1,h2⟩,j,⟨h3,h4⟩,rfl,rfl⟩
theorem wF{α β:Type}{f:α->List β}{l:List α}:(l.flatMap f).Nodup↔(∀x∈l,(f x).Nodup)/\l.Pairwise fun a b=>∀y∈f a,y ∉ f b:=by
 induction l with
 |nil=>simp
 |cons a l ih=>
  rw[flatMap_cons,List.nodup_append,ih,List.pairwise_cons]
  constructor
  ·rintro ⟨h1,⟨h2,h3⟩,h4⟩
   refine⟨fun x hx=>?_,fun b hb y hy hz=>h4 y hy y (List.mem_flatMap.mpr ⟨b,hb,hz⟩) rfl,h3⟩
   rcases List.mem_cons.mp hx with rfl|hx
   ·exact h1
   ·exact h2 x hx
  ·rintro ⟨h1,h2,h3⟩
   refine⟨h1 a mem_cons_self,⟨fun x hx=>h1 x (mem_cons_of_mem _ hx),h3⟩,fun y hy z hz e=>?_⟩
   obtain⟨b,hb,hz⟩:=List.mem_flatMap.mp hz
   exact h2 b hb y hy (e▸hz)
theorem pT(q:Bx):(cellsOf q).Nodup:=by
 unfold cellsOf
 rw[wF]
 refine⟨fun x _=>List.Pairwise.map _ (fun a b h e=>h (by injection e)) zK,?_⟩
 refine List.Pairwise.imp (fun {a b} h y hy hz=>?_) (zK (a:=q.l) (b:=q.r))
 obtain⟨j,_,rfl⟩:=List.mem_map.mp hy
 obtain⟨k,_,e⟩:=List.mem_map.mp hz
 injection e with e1 e2
 exact h e1.symm
noncomputable def cells(qs:List Bx):List (Nat×Nat):=qs.flatMap cellsOf
noncomputable def Apart(q p:Bx):Prop:=∀i j,q.has i j->¬ p.has i j
theorem nN{qs:List Bx}:(cells qs).Nodup↔qs.Pairwise Apart:=by
 unfold cells
 rw[wF]
 constructor
 ·rintro ⟨_,h⟩
  exact h.imp fun {a b} z i j h1 h2=>z (i,j) (cU.mpr h1) (cU.mpr h2)
 ·intro h
  exact⟨fun q _=>pT q,h.imp fun {a b} z y h1 h2=>z y.1 y.2 (cU.mp h1) (cU.mp h2)⟩
theorem oE{qs:List Bx}{i j:Nat}:(i,j)∈cells qs↔∃q∈qs,q.has i j:=by
 unfold cells
 simp only[List.mem_flatMap,cU]
noncomputable def ui(qs:List Bx)(C R:Nat):Bool:=decide (cells qs).Nodup&&decide ((cells qs).length=C*R)
theorem xn{C R:Nat}:(cellsOf ⟨0,C,0,R⟩).length=C*R:=by
 unfold cellsOf
 rw[List.length_flatMap]
 have:(fun i:Nat=>((run 0 R).map fun j=>(i,j)).length)=fun _=>R:=by funext i;rw[length_map,oU];rfl
 simp only[this,List.map_const',oU,List.sum_replicate_nat,Nat.sub_zero]
theorem xi{qs:List Bx}{C R:Nat}(hin:∀q∈qs,q.r<=C/\q.t<=R):ui qs C R=true↔qs.Pairwise Apart/\∀i j,i<C->j<R->∃q∈qs,q.has i j:=by
 unfold ui
 rw[and_eq_true,decide_eq_true_iff,decide_eq_true_iff,nN]
 have sub:∀x∈cells qs,x∈cellsOf ⟨0,C,0,R⟩:=fun x hx=>by
  obtain⟨q,hq,h⟩:=oE.mp hx
  obtain⟨h1,h2⟩:=hin q hq
  exact cU.mpr ⟨zero_le _,lt_of_lt_of_le h.2.1 h1,zero_le _,lt_of_lt_of_le h.2.2.2 h2⟩
 constructor
 ·rintro ⟨h1,h2⟩
  refine⟨h1,fun i j hi hj=>?_⟩
  have:=M7 (nN.mpr h1) sub (by rw[xn,h2];exact le_refl _) (x:=(i,j)) (cU.mpr ⟨zero_le _,hi,zero_le _,hj⟩)
  exact oE.mp this
 ·rintro ⟨h1,h2⟩
  refine⟨h1,?_⟩
  rw[<- xn]
  refine Ry (nN.mpr h1) (pT _) fun x=>⟨sub x,fun hx=>?_⟩
  obtain⟨_,hi,_,hj⟩:=cU.mp hx
  exact oE.mpr (h2 x.1 x.2 hi hj)
structure qG(qs:List Bx)(C R:Nat):Prop where
 fits:∀q∈qs,q.l<q.r/\q.r<=C/\q.b<q.t/\q.t<=R
 apart:qs.Pairwise Apart
 all:∀i j,i<C->j<R->∃q∈qs,q.has i j
end GR
namespace GR
noncomputable abbrev Up(A:List Nat):Prop:=A.Pairwise (· < ·)
theorem cE{α:Type}[BEq α][LawfulBEq α]{A:List α}{a:α}(h:a∈A):A.idxOf a<A.length:=List.idxOf_lt_length_iff.mpr h
theorem rP{α:Type}[BEq α][LawfulBEq α]{A:List α}{a:α}(h:a∈A):A[A.idxOf a]'(cE h)=a:=List.getElem_idxOf (cE h)
theorem Lu{A:List Nat}(hA:Up A){a i:Nat}(ha:a∈A)(hi:i<A.length):A.idxOf a<=i↔a<=A[i]:=by
 have e:=rP ha
 constructor
 ·intro h
  rcases lt_or_eq_of_le h with h|h
  ·have:=List.pairwise_iff_getElem.mp hA _ _ (cE ha) hi h
   omega
  ·have:A[A.idxOf a]'(cE ha)=A[i]:=by congr 1
   omega
 ·intro h
  rcases lt_or_ge i (A.idxOf a) with z|z
  ·have:=List.pairwise_iff_getElem.mp hA _ _ hi (cE ha) z
   omega
  ·exact z
theorem N4{A:List Nat}(hA:Up A){a i:Nat}(ha:a∈A)(hi:i<A.length):i<A.idxOf a↔A[i]<a:=by
 have:=Lu hA ha hi
 omega
noncomputable def cb(A B:List Nat)(q:Bx):Bx:=⟨A.idxOf q.l,A.idxOf q.r,B.idxOf q.b,B.idxOf q.t⟩
structure OnG(A B:List Nat)(q:Bx):Prop where
 l:q.l∈A
 r:q.r∈A
 b:q.b∈B
 t:q.t∈B
theorem EL{A B:List Nat}(hA:Up A)(hB:Up B){q:Bx}(g:OnG A B q){i j:Nat}(hi:i<A.length)(hj:j<B.length):(cb A B q).has i j↔q.has A[i] B[j]:=by
 unfold Bx.has cb
 rw[Lu hA g.l hi,N4 hA g.r hi,Lu hB g.b hj,N4 hB g.t hj]
theorem PJ{A B:List Nat}(hA:Up A)(hB:Up B){qs:List Bx}{C R:Nat}(hc:qG qs C R)(g:∀q∈qs,OnG A B q)(hAC:∀a∈A,a<=C)(hBR:∀b∈B,b<=R):ui (qs.map (cb A B)) (A.length-1) (B.length-1)=true:=by
 refine (xi ?_).mpr ⟨?_,?_⟩
 ·intro q hq
  obtain⟨q,hq2,rfl⟩:=List.mem_map.mp hq
  have a:=cE (g q hq2).r
  have b:=cE (g q hq2).t
  unfold cb
  dsimp only
  omega
 ·rw[pairwise_map]
  refine List.Pairwise.imp_of_mem (fun {q p} hq hp h i j h1 h2=>?_) hc.apart
  have gq:=g q hq
  have hi:i<A.length:=Nat.lt_trans h1.2.1 (cE gq.r)
  have hj:j<B.length:=Nat.lt_trans h1.2.2.2 (cE gq.t)
  exact h _ _ ((EL hA hB gq hi hj).mp h1) ((EL hA hB (g p hp) hi hj).mp h2)
 ·intro i j hi hj
  have a1:A[i]<A[i+1]:=List.pairwise_iff_getElem.mp hA _ _ ∅ ∅ ∅
  have a2:=hAC A[i+1] (getElem_mem _)
  have b1:B[j]<B[j+1]:=List.pairwise_iff_getElem.mp hB _ _ ∅ ∅ ∅
  have b2:=hBR B[j+1] (getElem_mem _)
  obtain⟨q,hq,h⟩:=hc.all A[i] B[j] ∅ ∅
  exact⟨_,mem_map_of_mem hq,(EL hA hB (g q hq) ∅ ∅).mpr h⟩
theorem qG.ends{qs:List Bx}{C R:Nat}(h:qG qs C R)(hC:0<C)(hR:0<R):(∃q∈qs,q.l=0)/\(∃q∈qs,q.r=C)/\(∃q∈qs,q.b=0)/\(∃q∈qs,q.t=R):=by
 obtain⟨q,hq,h1⟩:=h.all 0 0 hC hR
 obtain⟨p,hp,h2⟩:=h.all (C-1) (R-1) ∅ ∅
 have f:=h.fits p hp
 refine⟨⟨q,hq,?_⟩,⟨p,hp,?_⟩,⟨q,hq,?_⟩,⟨p,hp,?_⟩⟩<;>unfold Bx.has at h1 h2<;>omega
end GR
namespace L2.DL
open PySem PySem.Spec PyProof.Rows
inductive Box where
 |dict (kvs:List (List Int×PyData))
 |set (ks:List (List Int))
structure Mu where
 l:Addr->Option (List PyData)
 b:Addr->Option Box
noncomputable instance:CoeFun Mu fun _=>Addr->Option (List PyData):=⟨Mu.l⟩
noncomputable abbrev PQ:=PySem.W.Frag->V->Mu->Hp->Prop
inductive D where
 |v (x:PyData)
 |m (a:Addr)
 |s (ns:List Int)
  /-- an object that is handed on -/
 |o (a:Addr)
  /-- a dict or a set -/
 |b (a:Addr)
  /-- a thing of which something is known that stays -/
 |q (P:PQ)
noncomputable abbrev Rho:=List (Option D)
noncomputable def aQ(U:Mu)(a:Addr)(ds:List PyData):Mu:=⟨fun b=>if b=a then some ds else U b,U.b⟩
theorem aX{U:Mu}{a:Addr}{ds}:aQ U a ds a=some ds:=if_pos rfl
theorem aV{U:Mu}{a b:Addr}{ds}(h:b≠a):aQ U a ds b=U b:=if_neg h
noncomputable def ck(U:Mu)(a:Addr)(c:Box):Mu:=⟨U.l,fun b=>if b=a then some c else U.b b⟩
theorem bR{U:Mu}{a:Addr}{c}:(ck U a c).b a=some c:=if_pos rfl
theorem cj{U:Mu}{a b:Addr}{c}(h:b≠a):(ck U a c).b b=U.b b:=if_neg h
theorem Mu.eq{U ν:Mu}(h1:∀b,U b=ν b)(h2:∀b,U.b b=ν.b b):U=ν:=by
 obtain⟨l,b⟩:=U;obtain⟨l',b'⟩:=ν
 cases (funext h1:l=l');cases (funext h2:b=b');rfl
theorem IF{U:Mu}{a:Addr}{c d}:ck (ck U a c) a d=ck U a d:=Mu.eq (fun _=>rfl) fun b=>by
 by_cases h:b=a
 ·subst h;rw[bR,bR]
 ·rw[cj h,cj h,cj h]
theorem fO{U:Mu}{a:Addr}{ds es}:aQ (aQ U a ds) a es=aQ U a es:=Mu.eq (fun b=>by
 by_cases h:b=a
 ·subst h;rw[aX,aX]
 ·rw[aV h,aV h,aV h]) fun _=>rfl
mutual
inductive Rp(K:PySem.W.Frag)(U:Mu)(H:Hp):PyData->V->Prop
 |none:Rp K U H .none .non
 |bool (b:Bool):Rp K U H (.bool b) (.bl b)
 |int (i:Int):Rp K U H (.int i) (.int i)
 |str (x:Str):Rp K U H (.str x) (.str x)
 |list {a:Addr} {xs:List V} {ds:List PyData}:H a=some (.lst xs)->U a=Option.none->RpL K U H ds xs->Rp K U H (.list ds) (.ref a)
 |tuple {a:Addr} {xs:List V} {ds:List PyData}:SqT K H a xs->RpL K U H ds xs->Rp K U H (.tuple ds) (.ref a)
inductive RpL(K:PySem.W.Frag)(U:Mu)(H:Hp):List PyData->List V->Prop
 |nil:RpL K U H [] []
 |cons {d:PyData} {v:V} {ds:List PyData} {vs:List V}:Rp K U H d v->RpL K U H ds vs->RpL K U H (d::ds) (v::vs)
end
noncomputable def NT:HO->Prop
 |.tbl _=>False
 |.raw _=>False
 |_=>True
structure Ext(K:PySem.W.Frag)(U:Mu)(H:Hp)(Z:Mu)(H':Hp):Prop where
 keep:∀b o,H b=some o->U b=none->NT o->H' b=some o
 tb:∀b ps,H b=some (.tbl ps)->U b=none->∃ps',H' b=some (.tbl ps')
 dom:∀b ds,U b=some ds->∃es,Z b=some es
 fresh:∀b,U b=none->(H b≠none\/K.lookup b≠none)->Z b=none
 st:∀b o,H b=some o->U b=none->∃o',H' b=some o'
 bx:∀b c,U.b b=some c->∃c',Z.b b=some c'
noncomputable def RpD(K:PySem.W.Frag)(U:Mu)(H:Hp):D->V->Prop
 |.v x,u=>Rp K U H x u
 |.m a,u=>u = .ref a/\∃ds,U a=some ds
 |.s ns,u=>∃a,u = .ref a/\SqL K H a (ns.map V.int)/\U a=none
 |.o a,u=>u = .ref a
 |.b a,u=>u = .ref a/\∃c,U.b a=some c
 |.q P,u=>∀Z H',Ext K U H Z H'->P K u Z H'
noncomputable def codeAt(c:Addr)(q:Str)(h:Heap):Prop:=∃o vs t,h.get? c=some o/\o.data = .fields vs/\vs[1]? = some (.str q t)
noncomputable abbrev cu(q:Str):Str:=(q ++ ".<locals>.") ++ "<lambda>"
noncomputable def SY(H:Hp)(P:Addr)(q:Str):Prop:=∃ps:Array Value,H P=some (.tbl ps)/\TriplesOk ps.toList/\∀pos cv,codeAmong pos ps.toList=some cv->∃c,cv = .ref c/\H c=some (.ext (codeAt c (cu q)))
noncomputable def yY(K:PySem.W.Frag)(H:Hp):Prop:=∀c o P q,K.lookup c=some o->bO o=some (P,q)->SY H P q
noncomputable abbrev hI(ks:List Int):Int:=reduceHash (Builtin.Tuple.tupleHashOf (ks.map hashInt))
noncomputable def fZ(K:PySem.W.Frag)(U:Mu)(H:Hp)(kvs:List (List Int×PyData))(xs:List (List Int×Addr×Value)):Prop:=
 Paired (fun (p:List Int×PyData) (q:List Int×Addr×Value)=>p.1=q.1/\SqT K H q.2.1 (p.1.map V.int)/\∃v,Rp K U H p.2 v/\RelV v q.2.2) kvs xs
noncomputable def iE(K:PySem.W.Frag)(U:Mu)(H:Hp):Box->Obj->Prop
 |.dict kvs,o=>kvs.length<=sizeLine/\o.ExactDict/\∃es ep,∃xs:List (List Int×Addr×Value),o.data = .dict es ep/\es.toList=xs.map (fun x=>⟨hI x.1,.ref x.2.1,x.2.2⟩)/\(xs.map (·.1)).Nodup/\fZ K U H kvs xs
 |.set ks,o=>o.ExactSet/\∃(L:ST.Ln Value) (ep:Nat) (t:SetTable),o.data = .set (L.map (·.2)).toArray ep t/\ST.Tab t L/\L.length*5<t.mask*3/\L.length=ks.length /\
   (∀x∈L,∃k q,x.2.2 = .ref q/\SqT K H q (k.map V.int)/\x.2.1=hI k/\k∈ks)/\∀k∈ks,∃x∈L,∃q,x.2.2 = .ref q/\SqT K H q (k.map V.int)
structure bK(K:PySem.W.Frag)(U:Mu)(H:Hp):Prop where
 lst:∀a ds,U a=some ds->∃xs,H a=some (.lst xs)/\RpL K U H ds xs
 tab:yY K H
 box:∀a c,U.b a=some c->(a==sysModules)=false/\∃o,H a=some (.raw o)/\iE K U H c o
noncomputable instance {K:PySem.W.Frag} {U:Mu} {H:Hp}:CoeFun (bK K U H) fun _=>∀a ds,U a=some ds->∃xs,H a=some (.lst xs)/\RpL K U H ds xs:=⟨bK.lst⟩
theorem yY.of{K:PySem.W.Frag}{H H1:Hp}(t:yY K H)(s:∀b o,H b=some o->(∀xs,o≠.lst xs)->(∀ob,o≠.raw ob)->H1 b=some o):yY K H1:=fun c o P q h1 h2=>by
 obtain⟨ps,a1,a2,a3⟩:=t c o P q h1 h2
 exact⟨ps,s _ _ a1 (fun _ z=>nomatch z) (fun _ z=>nomatch z),a2,fun pos cv e=>let ⟨c,q1,q2⟩:=a3 pos cv e;⟨c,q1,s _ _ q2 (fun _ z=>nomatch z) (fun _ z=>nomatch z)⟩⟩
noncomputable def j3(K:PySem.W.Frag)(U:Mu)(H:Hp)(ρ:Rho)(σ:St):Prop:=
 ρ.length=σ.length/\∀(i:Nat) (d:D),ρ[i]? = some (some d)->∃u,σ[i]? = some (some u)/\RpD K U H d u
structure St0(K:PySem.W.Frag)(H:Hp)(ρ:Rho)(U:Mu)(σ:St):Prop where
 mu:bK K U H
 rho:j3 K U H ρ σ
section
variable {K:PySem.W.Frag}{U am bn:Mu}{H H1 H2:Hp}
theorem Ext.refl:Ext K U H U H:=⟨fun _ _ h _ _=>h,fun _ ps h _=>⟨ps,h⟩,fun _ ds h=>⟨ds,h⟩,fun _ h _=>h,fun _ o h _=>⟨o,h⟩,fun _ c h=>⟨c,h⟩⟩
theorem Ext.trans(a:Ext K U H am H1)(b:Ext K am H1 bn H2):Ext K U H bn H2 where
 keep:=fun c o h n t=>b.keep c o (a.keep c o h n t) (a.fresh c n (.inl (by rw[h];exact fun z=>nomatch z))) t
 tb:=fun c ps h n=>by
  obtain⟨ps1,h1⟩:=a.tb c ps h n
  exact b.tb c ps1 h1 (a.fresh c n (.inl (by rw[h];exact fun z=>nomatch z)))
 dom:=fun c ds h=>let ⟨es,q⟩:=a.dom c ds h;b.dom c es q
 fresh:=fun c n h=>by
  refine b.fresh c (a.fresh c n h) ?_
  rcases h with h|h
  ·cases q:H c with
   |none=>exact absurd q h
   |some o=>
    obtain⟨o',h'⟩:=a.st c o q n
    exact .inl (by rw[h'];exact fun z=>nomatch z)
  ·exact .inr h
 st:=fun c o h n=>by
  obtain⟨o',h'⟩:=a.st c o h n
  exact b.st c o' h' (a.fresh c n (.inl (by rw[h];exact fun z=>nomatch z)))
 bx:=fun c x h=>let ⟨x',q⟩:=a.bx c x h;b.bx c x' q
theorem Ext.of_same(s:Ar H H1):Ext K U H U H1:=⟨fun b o h _ _=>s b o h,fun b ps h _=>⟨ps,s b _ h⟩,fun _ ds h=>⟨ds,h⟩,fun _ h _=>h,fun b o h _=>⟨o,s b o h⟩,fun _ c h=>⟨c,h⟩⟩
theorem bK.not{a:Addr}{o:HO}(ok:bK K U H)(h:H a=some o)(n:∀xs,o≠.lst xs):U a=none:=by
 cases q:U a with
 |none=>rfl
 |some ds=>
  obtain⟨ys,e,_⟩:=ok a ds q
  rw[h] at e
  exact absurd (Option.some.inj e) (n ys)
theorem bK.free{a:Addr}(ok:bK K U H)(h:H a=none):U a=none:=by
 cases q:U a with
 |none=>rfl
 |some ds=>
  obtain⟨ys,e,_⟩:=ok a ds q
  rw[h] at e;cases e
theorem mf{a:Addr}{xs:List V}(ok:bK K U H)(e:Ext K U H am H1)(h:SqT K H a xs):SqT K H1 a xs:=by
 rcases h with (h|⟨o,h⟩)|h
 ·exact .inl (.inl (e.keep _ _ h (ok.not h fun _ z=>nomatch z) trivial))
 ·exact .inl (.inr ⟨o,e.keep _ _ h (ok.not h fun _ z=>nomatch z) trivial⟩)
 ·exact .inr h
theorem Hn{a:Addr}{xs:List V}(e:Ext K U H am H1)(h:SqL K H a xs)(n:U a=none):SqL K H1 a xs/\am a=none:=by
 rcases h with (h|⟨o,h⟩)|h
 ·exact⟨.inl (.inl (e.keep _ _ h n trivial)),e.fresh _ n (.inl (by rw[h];exact fun z=>nomatch z))⟩
 ·exact⟨.inl (.inr ⟨o,e.keep _ _ h n trivial⟩),e.fresh _ n (.inl (by rw[h];exact fun z=>nomatch z))⟩
 ·obtain⟨o,its,k,hk,r⟩:=id h
  exact⟨.inr h,e.fresh _ n (.inr (by rw[hk];exact fun z=>nomatch z))⟩
mutual
theorem Rp.ext{d:PyData}{u:V}(ok:bK K U H)(e:Ext K U H am H1):Rp K U H d u->Rp K am H1 d u
 |.none=>.none
 |.bool b=>.bool b
 |.int i=>.int i
 |.str x=>.str x
 |.list h n r=>.list (e.keep _ _ h n trivial) (e.fresh _ n (.inl (by rw[h];exact fun z=>nomatch z))) (RpL.ext ok e r)
 |.tuple h r=>.tuple (mf ok e h) (RpL.ext ok e r)
theorem RpL.ext{ds:List PyData}{us:List V}(ok:bK K U H)(e:Ext K U H am H1):RpL K U H ds us->RpL K am H1 ds us
 |.nil=>.nil
 |.cons h r=>.cons (Rp.ext ok e h) (RpL.ext ok e r)
end
theorem RpD.ext{d:D}{u:V}(ok:bK K U H)(e:Ext K U H am H1)(r:RpD K U H d u):RpD K am H1 d u:=by
 cases d with
 |v x=>exact Rp.ext ok e r
 |m a=>obtain⟨h,ds,q⟩:=r;exact⟨h,e.dom a ds q⟩
 |s ns=>obtain⟨a,h,q,n⟩:=r;exact⟨a,h,(Hn e q n).1,(Hn e q n).2⟩
 |o a=>exact r
 |b a=>obtain⟨h,c,q⟩:=r;exact⟨h,e.bx a c q⟩
 |q P=>exact fun Z H' e'=>r Z H' (e.trans e')
theorem iE.ext{c:Box}{o:Obj}(ok:bK K U H)(e:Ext K U H am H1)(r:iE K U H c o):iE K am H1 c o:=by
 cases c with
 |dict kvs=>
  obtain⟨h1,h2,es,ep,xs,h3,h4,h5,h6⟩:=r
  exact⟨h1,h2,es,ep,xs,h3,h4,h5,Paired.LS h6 fun p q ⟨z1,z2,v,z3,z4⟩=>⟨z1,mf ok e z2,v,Rp.ext ok e z3,z4⟩⟩
 |set ks=>
  obtain⟨h1,L,ep,t,h2,h3,h4,h5,h6,h7⟩:=r
  exact⟨h1,L,ep,t,h2,h3,h4,h5,fun x hx=>let ⟨k,q,z1,z2,z3⟩:=h6 x hx;⟨k,q,z1,mf ok e z2,z3⟩,fun k hk=>let ⟨x,hx,q,z1,z2⟩:=h7 k hk;⟨x,hx,q,z1,mf ok e z2⟩⟩
theorem bK.LF{a:Addr}(ok:bK K U H)(h:H a=none):U.b a=none:=by
 cases q:U.b a with
 |none=>rfl
 |some c=>
  obtain⟨_,ob,e,_⟩:=ok.box a c q
  rw[h] at e;cases e
theorem j3.ext{ρ:Rho}{σ:St}(ok:bK K U H)(e:Ext K U H am H1)(r:j3 K U H ρ σ):j3 K am H1 ρ σ:=
 ⟨r.1,fun i d h=>let ⟨u,h1,h2⟩:=r.2 i d h;⟨u,h1,h2.ext ok e⟩⟩
theorem RpL.length{ds:List PyData}{us:List V}:RpL K U H ds us->ds.length=us.length
 |.nil=>rfl
 |.cons _ r=>congrArg (· + 1) (RpL.length r)
theorem RpL.get{ds:List PyData}{us:List V}:∀{i:Nat} {d:PyData},RpL K U H ds us->ds[i]? = some d->∃u,us[i]? = some u/\Rp K U H d u
 |_,_,.nil,h=>by simp at h
 |0,_,.cons r _,h=>by simp at h;subst h;exact⟨_,rfl,r⟩
 |i+1,d,.cons _ t,h=>by
  obtain⟨u,h1,h2⟩:=RpL.get (i:=i) (d:=d) t (by simpa using h)
  exact⟨u,by simpa using h1,h2⟩
theorem RpL.append{ds es:List PyData}{us ws:List V}:RpL K U H ds us->RpL K U H es ws->RpL K U H (ds++es) (us++ws)
 |.nil,s=>s
 |.cons r t,s=>.cons r (RpL.append t s)
theorem RpL.take{ds:List PyData}{us:List V}:∀(n:Nat),RpL K U H ds us->RpL K U H (ds.take n) (us.take n)
 |0,_=>by simp;exact .nil
 |_+1,.nil=>by simp;exact .nil
 |n+1,.cons r t=>.cons r (RpL.take n t)
theorem RpL.drop{ds:List PyData}{us:List V}:∀(n:Nat),RpL K U H ds us->RpL K U H (ds.drop n) (us.drop n)
 |0,r=>r
 |_+1,.nil=>by simp;exact .nil
 |n+1,.cons _ t=>RpL.drop n t
theorem RpL.set{ds:List PyData}{us:List V}{d:PyData}{u:V}(q:Rp K U H d u):∀(i:Nat),RpL K U H ds us->RpL K U H (ds.set i d) (us.set i u)
 |_,.nil=>.nil
 |0,.cons _ t=>.cons q t
 |i+1,.cons r t=>.cons r (RpL.set q i t)
theorem FD{ds:List PyData}{us:List V}{i:Int}{d:PyData}(r:RpL K U H ds us)(h:atI ds i=some d):∃u,atI us i=some u/\Rp K U H d u:=by
 unfold atI at h ⊢
 rw[<- r.length]
 cases q:ixN ds.length i with
 |none=>rw[q] at h;cases h
 |some j=>
  rw[q] at h
  exact r.get h
noncomputable abbrev DK:=D->Mu->Prop
noncomputable abbrev DTE:=Rho->Mu->DK->Prop
noncomputable abbrev DTT:=Rho->Mu->(Bool->Mu->Prop)->Prop
noncomputable abbrev DTA:=Rho->Mu->(List D->Mu->Prop)->Prop
structure Cv where
 nx:Rho->Mu->Prop
 rt:DK
 bk:Rho->Mu->Prop:=fun _ _=>False
 ct:Rho->Mu->Prop:=fun _ _=>False
noncomputable abbrev DTS:=Cv->Rho->Mu->Prop
inductive iW(K:PySem.W.Frag)(U:Mu)(H:Hp):List D->List V->Prop
 |nil:iW K U H [] []
 |cons {d:D} {u:V} {ds:List D} {us:List V}:RpD K U H d u->iW K U H ds us->iW K U H (d::ds) (u::us)
theorem iW.ext{ds:List D}{us:List V}(ok:bK K U H)(e:Ext K U H am H1):iW K U H ds us->iW K am H1 ds us
 |.nil=>.nil
 |.cons h r=>.cons (h.ext ok e) (iW.ext ok e r)
theorem iW.length{ds:List D}{us:List V}:iW K U H ds us->ds.length=us.length
 |.nil=>rfl
 |.cons _ r=>congrArg (· + 1) (iW.length r)
end
noncomputable def qy(K:PySem.W.Frag)(t:TE)(td:DTE):Prop:=∀(σ:St) (H:Hp) (ρ:Rho) (U:Mu) (Qd:DK) (Q:VK),St0 K H ρ U σ->td ρ U Qd ->
 (∀d u Z H',Ext K U H Z H'->St0 K H' ρ Z σ->RpD K Z H' d u->Qd d Z->Q u H')->t σ H Q
noncomputable def LA(K:PySem.W.Frag)(t:TT)(td:DTT):Prop:=∀(σ:St) (H:Hp) (ρ:Rho) (U:Mu) (Qd:Bool->Mu->Prop) (Q:Bool->Hp->Prop),St0 K H ρ U σ->td ρ U Qd ->
 (∀b Z H',Ext K U H Z H'->St0 K H' ρ Z σ->Qd b Z->Q b H')->t σ H Q
noncomputable def N7(K:PySem.W.Frag)(n:Nat)(t:TA)(td:DTA):Prop:=∀(σ:St) (H:Hp) (ρ:Rho) (U:Mu) (Qd:List D->Mu->Prop) (Q:List V->Hp->Prop),St0 K H ρ U σ->td ρ U Qd ->
 (∀ds us Z H',Ext K U H Z H'->St0 K H' ρ Z σ->iW K Z H' ds us->ds.length=n->Qd ds Z->Q us H')->t σ H Q
noncomputable def Ah(K:PySem.W.Frag)(t:TS)(td:DTS):Prop:=∀(σ:St) (H:Hp) (ρ:Rho) (U:Mu) (Dd:Cv) (De:Ends),St0 K H ρ U σ->td Dd ρ U ->
 (∀db dL Z H',Ext K U H Z H'->St0 K H' dL Z db->Dd.nx dL Z->De.nx db H') ->
 (∀d u Z H',Ext K U H Z H'->bK K Z H'->RpD K Z H' d u->Dd.rt d Z->De.rt u H') ->
 (∀db dL Z H',Ext K U H Z H'->St0 K H' dL Z db->Dd.bk dL Z->De.bk db H') ->
 (∀db dL Z H',Ext K U H Z H'->St0 K H' dL Z db->Dd.ct dL Z->De.ct db H')->t De σ H
noncomputable def DE(X:Cx)(e:Expr)(td:DTE):Prop:=∃t,PE X e t/\qy X.K t td
noncomputable def DT(X:Cx)(e:Expr)(td:DTT):Prop:=∃t,PT X e t/\LA X.K t td
noncomputable def DA(X:Cx)(es:List Expr)(td:DTA):Prop:=∃t,PA X es t/\N7 X.K es.length t td
noncomputable def DS(X:Cx)(st:Stmt)(td:DTS):Prop:=∃t,PS X st t/\Ah X.K t td
noncomputable def DSs(X:Cx)(st:List Stmt)(td:DTS):Prop:=∃t,PSs X st t/\Ah X.K t td
section
variable {X:Cx}{a b c:Expr}{ta tb tc:DTE}{pos:Pos}
noncomputable def ai(i:Nat):DTE:=fun ρ U Q=>match ρ[i]? with
 |some (some d)=>Q d U
 |_=>False
noncomputable def dC(x:PyData):DTE:=fun _ U Q=>Q (.v x) U
theorem KA{K:PySem.W.Frag}(i:Nat):qy K (Q8 i) (ai i):=by
 intro σ H ρ U Qd Q S h k
 unfold ai at h
 split at h
 ·rename_i d e
  obtain⟨u,h1,h2⟩:=S.rho.2 i d e
  exact⟨u,h1,k d u U H .refl S h2 h⟩
 ·exact h.elim
theorem dv(i:Nat){x:Str}{pos:Pos}(hN:X.N[i]? = some x:=by rfl)(hv:Vis X.env.scope x:=by first|exact Or.inl rfl|exact Or.inr (Or.inl rfl)|exact Or.inr (Or.inr rfl))(hd:(x==("__debug__":Str))=false:=by decide)
  (hcd:(x==("__classdict__":Str))=false:=by decide):DE X (.Name x pos) (ai i):=⟨_,K2 hN hv hd hcd,KA i⟩
theorem wa{K:PySem.W.Frag}{x:PyData}{u:V}(h:∀U H,bK K U H->Rp K U H x u):qy K (tC u) (dC x):=fun σ H ρ U Qd Q S q k=>k (.v x) u U H .refl S (h U H S.mu) q
theorem ak{i j pos}:DE X (.Constant (.int i) j pos) (dC (.int i)):=⟨_,ON,wa fun _ _ _=>.int i⟩
theorem gi{i j pos}:DE X (.Constant (.bool i) j pos) (dC (.bool i)):=⟨_,Rr,wa fun _ _ _=>.bool i⟩
theorem OA{j pos}:DE X (.Constant .none j pos) (dC .none):=⟨_,Oo,wa fun _ _ _=>.none⟩
theorem dU{x j pos}:DE X (.Constant (.str x) j pos) (dC (.str x)):=⟨_,LB,wa fun _ _ _=>.str x⟩
theorem FN{x:Str}{d:PyData}{u:V}{w:Value}{pos:Pos}(hg:Gl X x)(hm:X.mg x=some w)(r:RelV u w)(h:∀U H,bK X.K U H->Rp X.K U H d u)(hd:(x==("__debug__":Str))=false:=by decide):DE X (.Name x pos) (dC d):=
 ⟨_,G5 hg hm r hd,wa h⟩
noncomputable def iO(K:PySem.W.Frag)(rr:R2)(r:D->D->Mu->DK->Prop):Prop:=∀(x y:D) (ux uy:V) (H:Hp) (U:Mu) (Qd:DK) (Q:VK),bK K U H->RpD K U H x ux->RpD K U H y uy->r x y U Qd ->
 (∀d u Z H',Ext K U H Z H'->bK K Z H'->RpD K Z H' d u->Qd d Z->Q u H')->rr ux uy H Q
noncomputable def dOp(r:D->D->Mu->DK->Prop)(ta tb:DTE):DTE:=fun ρ U Q=>ta ρ U fun x am=>tb ρ am fun y bn=>r x y bn Q
theorem rJ{K:PySem.W.Frag}{rr:R2}{r}{t1 t2:TE}(lo:iO K rr r)(la:qy K t1 ta)(lb:qy K t2 tb):qy K (tOp rr t1 t2) (dOp r ta tb):=by
 intro σ H ρ U Qd Q S h k
 refine la σ H ρ U _ _ S h fun x ux am H1 e1 S1 rx h1=>?_
 refine lb σ H1 ρ am _ _ S1 h1 fun y uy bn H2 e2 S2 ry h2=>?_
 exact lo x y ux uy H2 bn _ _ S2.mu (rx.ext S1.mu e2) ry h2 fun d u Z H' e3 ok r q=>k d u Z H' (e1.trans (e2.trans e3)) ⟨ok,S2.rho.ext S2.mu e3⟩ r q
theorem yt{op:Operator}{rr:R2}{r}(ho:OpR X (binaryOp op) rr)(lo:iO X.K rr r)(ha:DE X a ta)(hb:DE X b tb):DE X (.BinOp a op b pos) (dOp r ta tb):=by
 obtain⟨t1,p1,l1⟩:=ha
 obtain⟨t2,p2,l2⟩:=hb
 exact⟨_,R6 ho p1 p2,rJ lo l1 l2⟩
theorem eU{op:CmpOp}{rr:R2}{r}(ho:OpR X (compareOp op) rr)(lo:iO X.K rr r)(ha:DE X a ta)(hb:DE X b tb)(hm:behindInMarks op b=false):DE X (.Compare a [op] [b] pos) (dOp r ta tb):=by
 obtain⟨t1,p1,l1⟩:=ha
 obtain⟨t2,p2,l2⟩:=hb
 exact⟨_,L7 ho p1 p2 hm,rJ lo l1 l2⟩
noncomputable def dB(t:DTE):DTT:=fun ρ U Q=>t ρ U fun d am=>match d with
 |.v (.bool k)=>Q k am
 |_=>False
theorem zM{K:PySem.W.Frag}{t:TE}{td:DTE}(l:qy K t td):LA K (NU t) (dB td):=by
 intro σ H ρ U Qd Q S h k
 refine l σ H ρ U _ _ S h fun d u am H1 e1 S1 r q=>?_
 split at q
 ·rename_i b
  cases r
  exact⟨b,rfl,k b am H1 e1 S1 q⟩
 ·exact q.elim
theorem bj{op:CmpOp}{rr:R2}{r}(ho:OpR X (compareOp op) rr)(lo:iO X.K rr r)(ha:DE X a ta)(hb:DE X b tb)(hm:behindInMarks op b=false):DT X (.Compare a [op] [b] pos) (dB (dOp r ta tb)):=by
 obtain⟨t1,p1,l1⟩:=ha
 obtain⟨t2,p2,l2⟩:=hb
 exact⟨_,Mi ho p1 p2 hm,zM (rJ lo l1 l2)⟩
theorem cC{e:Expr}{td:DTE}(h:DE X e td)(he:∀whole,isTrue e X.env whole=(do let v <- whole;standAt e.pos;holding [v] (truthy v)):=by intro _;rfl):DT X e (dB td):=by
 obtain⟨t,p,l⟩:=h
 exact⟨_,OS p he,zM l⟩
noncomputable def rII(C:Int->Int->Prop)(g:Int->Int->PyData):D->D->Mu->DK->Prop:=fun x y U Q=>match x,y with
 |.v (.int i),.v (.int j)=>C i j/\Q (.v (g i j)) U
 |_,_=>False
theorem Nt{K:PySem.W.Frag}{C:Int->Int->Prop}{g:Int->Int->V}{gd:Int->Int->PyData}(hg:∀U H i j,Rp K U H (gd i j) (g i j)):iO K (rI C g) (rII C gd):=by
 intro x y ux uy H U Qd Q ok rx ry h k
 unfold rII at h
 split at h
 ·rename_i i j
  cases rx;cases ry
  exact⟨i,j,rfl,rfl,h.1,k (.v _) _ U H .refl ok (hg U H i j) h.2⟩
 ·exact h.elim
noncomputable def zi(g:Int->Int->PyData):D->D->Mu->DK->Prop:=fun x y U Q=>match x,y with
 |.v (.int i),.v (.int j)=>Q (.v (g i j)) U
 |_,_=>False
theorem Hm{K:PySem.W.Frag}{g:Int->Int->V}{gd:Int->Int->PyData}(hg:∀U H i j,Rp K U H (gd i j) (g i j)):iO K (rI0 g) (zi gd):=by
 intro x y ux uy H U Qd Q ok rx ry h k
 unfold zi at h
 split at h
 ·rename_i i j
  cases rx;cases ry
  exact⟨i,j,rfl,rfl,k (.v _) _ U H .refl ok (hg U H i j) h⟩
 ·exact h.elim
noncomputable abbrev kj(ta tb:DTE):DTE:=dOp (zi fun i j=>.int (i+j)) ta tb
noncomputable abbrev mP(ta tb:DTE):DTE:=dOp (zi fun i j=>.int (i-j)) ta tb
noncomputable abbrev MulOk(i j:Int):Prop:=IntMulOk i j
noncomputable abbrev cO(ta tb:DTE):DTE:=dOp (rII MulOk fun i j=>.int (i*j)) ta tb
noncomputable abbrev yK(ta tb:DTE):DTE:=dOp (rII (fun _ j=>j≠0) fun i j=>.int (i.fmod j)) ta tb
noncomputable abbrev uN(i j:Int):Prop:=j≠0/\Builtin.divisionGoesByPylong i j=false
noncomputable abbrev vg(ta tb:DTE):DTE:=dOp (rII uN fun i j=>.int (i.fdiv j)) ta tb
noncomputable abbrev Nl(ta tb:DTE):DTE:=dOp (rII Qk fun i j=>.int (i ^ j.toNat)) ta tb
theorem MO:OpR X (binaryOp .Mult) (rI MulOk fun i j=>.int (i*j)):=opI fun _ _ _ _ _ _ _ hc q=>mul_int q hc
theorem ND:OpR X (binaryOp .FloorDiv) (rI uN fun i j=>.int (i.fdiv j)):=opI fun _ _ _ _ _ _ _ hc q=>floordiv_int hc.1 q (.inl hc.2)
theorem dz(ha:DE X a ta)(hb:DE X b tb):DE X (.BinOp a .Add b pos) (kj ta tb):=yt Kh (Hm fun _ _ _ _=>.int _) ha hb
theorem eV(ha:DE X a ta)(hb:DE X b tb):DE X (.BinOp a .Sub b pos) (mP ta tb):=yt Qg (Hm fun _ _ _ _=>.int _) ha hb
theorem bA(ha:DE X a ta)(hb:DE X b tb):DE X (.BinOp a .Mult b pos) (cO ta tb):=yt MO (Nt fun _ _ _ _=>.int _) ha hb
theorem lR(ha:DE X a ta)(hb:DE X b tb):DE X (.BinOp a .Mod b pos) (yK ta tb):=yt Nn (Nt fun _ _ _ _=>.int _) ha hb
theorem jw(ha:DE X a ta)(hb:DE X b tb):DE X (.BinOp a .FloorDiv b pos) (vg ta tb):=yt ND (Nt fun _ _ _ _=>.int _) ha hb
theorem FH(ha:DE X a ta)(hb:DE X b tb):DE X (.BinOp a .Pow b pos) (Nl ta tb):=yt Po (Nt fun _ _ _ _=>.int _) ha hb
noncomputable abbrev rLt:=zi fun i j=>.bool (decide (i<j))
noncomputable abbrev rLe:=zi fun i j=>.bool (decide (i<=j))
noncomputable abbrev rGt:=zi fun i j=>.bool (decide (j<i))
noncomputable abbrev rGe:=zi fun i j=>.bool (decide (j<=i))
theorem gu{K:PySem.W.Frag}{p:Int->Int->Bool}:iO K (rI0 fun i j=>.bl (p i j)) (zi fun i j=>.bool (p i j)):=Hm fun _ _ _ _=>.bool _
noncomputable def zg(ta:DTE):DTE:=fun ρ U Q=>ta ρ U fun x am=>match x with
 |.v (.int i)=>Q (.v (.int (-i))) am
 |_=>False
theorem mR(ha:DE X a ta):DE X (.UnaryOp .USub a pos) (zg ta):=by
 obtain⟨t1,p1,l1⟩:=ha
 refine⟨_,Rl P6 p1,fun σ H ρ U Qd Q S h k=>?_⟩
 refine l1 σ H ρ U _ _ S h fun x ux am H1 e1 S1 rx h1=>?_
 split at h1
 ·rename_i i
  cases rx
  exact⟨i,rfl,k (.v _) _ am H1 e1 S1 (Rp.int _) h1⟩
 ·exact h1.elim
noncomputable def zl(t u:DTT):DTT:=fun ρ U Q=>t ρ U fun c am=>if c=true then u ρ am Q else Q false am
noncomputable def kU(t u:DTT):DTT:=fun ρ U Q=>t ρ U fun c am=>if c=true then Q true am else u ρ am Q
noncomputable def eo(t:DTT):DTT:=fun ρ U Q=>t ρ U fun c am=>Q (!c) am
noncomputable def DW(X:Cx)(e:Expr)(td:DTT):Prop:=∃t,PW X e t/\LA X.K t td
theorem DW.dt{e:Expr}{td:DTT}(h:DW X e td):DT X e td:=let ⟨t,p,l⟩:=h;⟨t,p.pt,l⟩
variable {tA tB':DTT}{rest:List Expr}
theorem vI(ha:DT X a tA):DW X (.BoolOp .And [a] pos) tA:=let ⟨t,p,l⟩:=ha;⟨t,pw_and1 p,l⟩
theorem jr(ha:DT X a tA):DW X (.BoolOp .Or [a] pos) tA:=let ⟨t,p,l⟩:=ha;⟨t,pw_or1 p,l⟩
theorem BF(ha:DT X a tA)(hb:DW X (.BoolOp .And (b::rest) pos) tB'):DW X (.BoolOp .And (a::b::rest) pos) (zl tA tB'):=by
 obtain⟨t1,p1,l1⟩:=ha
 obtain⟨t2,p2,l2⟩:=hb
 refine⟨_,pw_and p1 p2,fun σ H ρ U Qd Q S h k=>?_⟩
 refine l1 σ H ρ U _ _ S h fun c am H1 e1 S1 h1=>?_
 cases c with
 |true=>
  refine Fp (l2 σ H1 ρ am _ _ S1 (by simpa using h1) fun c bn H2 e2 S2 h2=>k c bn H2 (e1.trans e2) S2 h2)
 |false=>exact Fd (k false am H1 e1 S1 (by simpa using h1))
theorem ir(ha:DT X a tA)(hb:DW X (.BoolOp .Or (b::rest) pos) tB'):DW X (.BoolOp .Or (a::b::rest) pos) (kU tA tB'):=by
 obtain⟨t1,p1,l1⟩:=ha
 obtain⟨t2,p2,l2⟩:=hb
 refine⟨_,pw_or p1 p2,fun σ H ρ U Qd Q S h k=>?_⟩
 refine l1 σ H ρ U _ _ S h fun c am H1 e1 S1 h1=>?_
 cases c with
 |true=>exact Fp (k true am H1 e1 S1 (by simpa using h1))
 |false=>
  refine Fd (l2 σ H1 ρ am _ _ S1 (by simpa using h1) fun c bn H2 e2 S2 h2=>k c bn H2 (e1.trans e2) S2 h2)
theorem da(ha:DT X a tA):DT X (.UnaryOp .Not a pos) (eo tA):=by
 obtain⟨t1,p1,l1⟩:=ha
 refine⟨_,Qp p1,fun σ H ρ U Qd Q S h k=>?_⟩
 exact l1 σ H ρ U _ _ S h fun c am H1 e1 S1 h1=>k _ am H1 e1 S1 h1
noncomputable def mI(ta tb:DTE):DTE:=fun ρ U Q=>ta ρ U fun x am=>match x with
 |.v (.bool c)=>if c=true then tb ρ am Q else Q (.v (.bool false)) am
 |_=>False
noncomputable def Km(ta:DTE):DTE:=fun ρ U Q=>ta ρ U fun x am=>match x with
 |.v (.bool c)=>Q (.v (.bool (!c))) am
 |_=>False
theorem lT{op}(h:DE X a ta):DE X (.BoolOp op [a] pos) ta:=let ⟨t,p,l⟩:=h;⟨t,Qx p,l⟩
theorem kr(ha:DE X a ta)(hb:DE X (.BoolOp .And (b::rest) pos) tb):DE X (.BoolOp .And (a::b::rest) pos) (mI ta tb):=by
 obtain⟨t1,p1,l1⟩:=ha
 obtain⟨t2,p2,l2⟩:=hb
 refine⟨_,O5 p1 p2,fun σ H ρ U Qd Q S h k=>?_⟩
 refine l1 σ H ρ U _ _ S h fun x ux am H1 e1 S1 rx h1=>?_
 split at h1
 ·rename_i c
  cases rx
  refine⟨c,rfl,?_⟩
  cases c with
  |true=>exact Fp (l2 σ H1 ρ am _ _ S1 (by simpa using h1) fun d u bn H2 e2 S2 r2 h2=>k d u bn H2 (e1.trans e2) S2 r2 h2)
  |false=>exact Fd (k (.v _) _ am H1 e1 S1 (Rp.bool false) (by simpa using h1))
 ·exact h1.elim
theorem Kd(ha:DE X a ta):DE X (.UnaryOp .Not a pos) (Km ta):=by
 obtain⟨t1,p1,l1⟩:=ha
 refine⟨_,O3 p1,fun σ H ρ U Qd Q S h k=>?_⟩
 refine l1 σ H ρ U _ _ S h fun x ux am H1 e1 S1 rx h1=>?_
 split at h1
 ·rename_i c
  cases rx
  exact⟨c,rfl,k (.v _) _ am H1 e1 S1 (Rp.bool _) h1⟩
 ·exact h1.elim
noncomputable def dIf(t:DTT)(ta tb:DTE):DTE:=fun ρ U Q=>t ρ U fun c am=>if c=true then ta ρ am Q else tb ρ am Q
theorem DU{c:Expr}(hc:DT X c tA)(ha:DE X a ta)(hb:DE X b tb):DE X (.IfExp c a b pos) (dIf tA ta tb):=by
 obtain⟨t0,p0,l0⟩:=hc
 obtain⟨t1,p1,l1⟩:=ha
 obtain⟨t2,p2,l2⟩:=hb
 refine⟨_,KI p0 p1 p2,fun σ H ρ U Qd Q S h k=>?_⟩
 refine l0 σ H ρ U _ _ S h fun c am H1 e1 S1 h1=>?_
 cases c with
 |true=>exact Fp (l1 σ H1 ρ am _ _ S1 (by simpa using h1) fun d u bn H2 e2 S2 r2 h2=>k d u bn H2 (e1.trans e2) S2 r2 h2)
 |false=>exact Fd (l2 σ H1 ρ am _ _ S1 (by simpa using h1) fun d u bn H2 e2 S2 r2 h2=>k d u bn H2 (e1.trans e2) S2 r2 h2)
end
section
variable {K:PySem.W.Frag}{U am:Mu}{H H1:Hp}{p:Addr}
theorem df{o:HO}(h:H p=none):Ext K U H U (upd H p o):=
 ⟨fun b u e _ _=>by rw[aR (aF e h)];exact e,fun b ps e _=>⟨ps,by rw[aR (aF e h)];exact e⟩,fun _ ds q=>⟨ds,q⟩,fun _ q _=>q,fun b o e _=>⟨o,by rw[aR (aF e h)];exact e⟩,fun _ c q=>⟨c,q⟩⟩
theorem bK.MY(ok:bK K U H)(e:Ext K U H U H1)(s:Ar H H1):bK K U H1:=⟨fun a ds q=>by
 obtain⟨xs,h1,h2⟩:=ok a ds q
 exact⟨xs,s _ _ h1,h2.ext ok e⟩,ok.tab.of fun b o h _ _=>s b o h,fun a c q=>by
 obtain⟨z,o,h1,h2⟩:=ok.box a c q
 exact⟨z,o,s _ _ h1,h2.ext ok e⟩⟩
theorem Dt{o:HO}(h:H p=none):Ar H (upd H p o):=fun b u q=>by rw[aR (aF q h)];exact q
theorem bK.new{o:HO}(ok:bK K U H)(h:H p=none):bK K U (upd H p o):=ok.MY (df h) (Dt h)
theorem St0.new{o:HO}{ρ:Rho}{σ:St}(S:St0 K H ρ U σ)(h:H p=none):St0 K (upd H p o) ρ U σ:=⟨S.mu.new h,S.rho.ext S.mu (df h)⟩
theorem ib{us:List V}{ds:List PyData}(ok:bK K U H)(r:RpL K U H ds us)(h:H p=none):Rp K U (upd H p (.tup us)) (.tuple ds) (.ref p):=
 .tuple (SqT.of b8) (r.ext ok (df h))
theorem hZ{us:List V}{ds:List PyData}(ok:bK K U H)(r:RpL K U H ds us)(h:H p=none):Rp K U (upd H p (.lst us)) (.list ds) (.ref p):=
 .list b8 (ok.free h) (r.ext ok (df h))
theorem rD{o:HO}{ds:List PyData}(ok:bK K U H)(h:H p=none)(hk:K.lookup p=none):Ext K U H (aQ U p ds) (upd H p o) where
 keep:=fun b u e _ _=>by rw[aR (aF e h)];exact e
 tb:=fun b ps e _=>⟨ps,by rw[aR (aF e h)];exact e⟩
 dom:=fun b es q=>by
  have:b≠p:=fun z=>by rw[z,ok.free h] at q;cases q
  exact⟨es,by rw[aV this];exact q⟩
 fresh:=fun b n q=>by
  have:b≠p:=fun z=>by
   rcases q with q|q
   ·exact q (by rw[z];exact h)
   ·exact q (by rw[z];exact hk)
  rw[aV this];exact n
 st:=fun b o e _=>⟨o,by rw[aR (aF e h)];exact e⟩
 bx:=fun b c q=>⟨c,q⟩
theorem bK.mut{us:List V}{ds:List PyData}(ok:bK K U H)(r:RpL K U H ds us)(h:H p=none)(hk:K.lookup p=none):bK K (aQ U p ds) (upd H p (.lst us)):=⟨fun a es q=>by
 have e:=rD (o:=.lst us) (ds:=ds) ok h hk
 by_cases ha:a=p
 ·subst ha
  rw[aX] at q
  cases q
  exact⟨us,b8,r.ext ok e⟩
 ·rw[aV ha] at q
  obtain⟨xs,h1,h2⟩:=ok a es q
  exact⟨xs,by rw[aR ha];exact h1,h2.ext ok e⟩,ok.tab.of fun b o e _ _=>by rw[aR (aF e h)];exact e,fun a c q=>by
 obtain⟨z,o,h1,h2⟩:=ok.box a c q
 exact⟨z,o,by rw[aR (aF h1 h)];exact h1,h2.ext ok (rD ok h hk)⟩⟩
theorem iY{o:HO}{ds es:List PyData}(h:U p=some ds):Ext K U H (aQ U p es) (upd H p o) where
 keep:=fun b u e n _=>by
  have:b≠p:=fun z=>by rw[z,h] at n;cases n
  rw[aR this];exact e
 tb:=fun b ps e n=>by
  have:b≠p:=fun z=>by rw[z,h] at n;cases n
  exact⟨ps,by rw[aR this];exact e⟩
 dom:=fun b fs q=>by
  by_cases hb:b=p
  ·subst hb;exact⟨es,aX⟩
  ·exact⟨fs,by rw[aV hb];exact q⟩
 fresh:=fun b n q=>by
  have:b≠p:=fun z=>by rw[z,h] at n;cases n
  rw[aV this];exact n
 st:=fun b o e n=>by
  have:b≠p:=fun z=>by rw[z,h] at n;cases n
  exact⟨o,by rw[aR this];exact e⟩
 bx:=fun b c q=>⟨c,q⟩
theorem bK.set{us:List V}{ds es:List PyData}(ok:bK K U H)(h:U p=some ds)(r:RpL K U H es us):bK K (aQ U p es) (upd H p (.lst us)):=⟨fun a fs q=>by
 have e:Ext K U H (aQ U p es) (upd H p (.lst us)):=iY h
 by_cases ha:a=p
 ·subst ha
  rw[aX] at q
  cases q
  exact⟨us,b8,r.ext ok e⟩
 ·rw[aV ha] at q
  obtain⟨xs,h1,h2⟩:=ok a fs q
  exact⟨xs,by rw[aR ha];exact h1,h2.ext ok e⟩,by
 obtain⟨ys,hy,_⟩:=ok p ds h
 exact ok.tab.of fun b o e n _=>by
  have:b≠p:=fun z=>by rw[z,hy] at e;exact n ys (Option.some.inj e).symm
  rw[aR this];exact e,fun a c q=>by
 obtain⟨ys,hy,_⟩:=ok p ds h
 obtain⟨z,o,h1,h2⟩:=ok.box a c q
 have:a≠p:=fun w=>by rw[w,hy] at h1;cases h1
 exact⟨z,o,by rw[aR this];exact h1,h2.ext ok (iY h)⟩⟩
end
noncomputable def de:List D->Option (List PyData)
 |[]=>some []
 |.v x::r=>(de r).map (x::·)
 |_::_=>none
theorem iW.data{K:PySem.W.Frag}{U:Mu}{H:Hp}:∀{ds:List D} {us:List V} {xs:List PyData},iW K U H ds us->de ds=some xs->RpL K U H xs us
 |_,_,_,.nil,e=>by cases e;exact .nil
 |.v x::r,_,xs,.cons h t,e=>by
  simp only[de] at e
  cases q:de r with
  |none=>rw[q] at e;cases e
  |some ys=>rw[q] at e;cases e;exact .cons h (iW.data t q)
 |.m _::_,_,_,.cons _ _,e=>by simp[de] at e
 |.s _::_,_,_,.cons _ _,e=>by simp[de] at e
 |.o _::_,_,_,.cons _ _,e=>by simp[de] at e
section
variable {X:Cx}{e:Expr}{es:List Expr}{te:DTE}{t:DTA}{pos:Pos}
noncomputable def au:DTA:=fun _ U Q=>Q [] U
noncomputable def ah(ta:DTE)(tr:DTA):DTA:=fun ρ U Q=>ta ρ U fun x am=>tr ρ am fun xs bn=>Q (x::xs) bn
theorem aj:DA X [] au:=⟨_,lN,fun σ H ρ U Qd Q S h k=>k [] [] U H .refl S .nil rfl h⟩
theorem ag(ha:DE X e te)(hr:DA X es t)(hs:starEach (e::es) X.env=(false,eval e X.env)::starEach es X.env:=by rfl):DA X (e::es) (ah te t):=by
 obtain⟨t1,p1,l1⟩:=ha
 obtain⟨t2,p2,l2⟩:=hr
 refine⟨_,eO p1 p2 hs,fun σ H ρ U Qd Q S h k=>?_⟩
 refine l1 σ H ρ U _ _ S h fun x ux am H1 e1 S1 rx h1=>?_
 refine l2 σ H1 ρ am _ _ S1 h1 fun xs us bn H2 e2 S2 rs len h2=>?_
 exact k (x::xs) (ux::us) bn H2 (e1.trans e2) S2 (.cons (rx.ext S1.mu e2) rs) (by rw[length_cons,length_cons,len]) h2
noncomputable def bF(t:DTA):DTE:=fun ρ U Q=>t ρ U fun ds am=>match de ds with
 |some xs=>Q (.v (.tuple xs)) am
 |none=>False
noncomputable def jy(t:DTA):DTE:=fun ρ U Q=>t ρ U fun ds am=>match de ds with
 |some xs=>Q (.v (.list xs)) am
 |none=>False
noncomputable def Ae(t:DTA):DTE:=fun ρ U Q=>t ρ U fun ds am=>match de ds with
 |some xs=>∀p,am p=none->Q (.m p) (aQ am p xs)
 |none=>False
theorem aH{x1}(h:DA X es t)(hl:es.length<=1000:=by decide):DE X (.Tuple es x1 pos) (bF t):=by
 obtain⟨t1,p1,l1⟩:=h
 refine⟨_,KQ p1,fun σ H ρ U Qd Q S h k=>?_⟩
 refine l1 σ H ρ U _ _ S h fun ds us am H1 e1 S1 rs len h1=>?_
 cases q:de ds with
 |none=>rw[q] at h1;exact h1.elim
 |some xs=>
  rw[q] at h1
  refine⟨Nat.le_of_lt (fS (by rw[<- rs.length,len];exact hl)),fun p hp=>?_⟩
  exact k (.v (.tuple xs)) _ am _ (e1.trans (df hp)) (S1.new hp) (ib S1.mu (rs.data q) hp) h1
theorem cY(h:DA X es t)(hl:es.length<=1000:=by decide):DE X (.List es pos) (jy t):=by
 obtain⟨t1,p1,l1⟩:=h
 refine⟨_,OD p1,fun σ H ρ U Qd Q S h k=>?_⟩
 refine l1 σ H ρ U _ _ S h fun ds us am H1 e1 S1 rs len h1=>?_
 cases q:de ds with
 |none=>rw[q] at h1;exact h1.elim
 |some xs=>
  rw[q] at h1
  refine⟨Nat.le_of_lt (fS (by rw[<- rs.length,len];exact hl)),fun p hp=>?_⟩
  exact k (.v (.list xs)) _ am _ (e1.trans (df hp)) (S1.new hp) (hZ S1.mu (rs.data q) hp) h1
noncomputable def Sk(K:PySem.W.Frag)(t:TA):TE:=fun σ H Q=>t σ H fun xs H1=>xs.length<=sizeLine/\∀p,H1 p=none->K.lookup p=none->Q (.ref p) (upd H1 p (.lst xs))
theorem MG{t:TA}(h:PA X es t):PE X (.List es pos) (Sk X.K t):=by
 intro pins s σ H Q I hq
 refine wpAny_List_spliced (thn (h pos pins s σ H _ I hq) fun us s1 ⟨xs,H1,I1,r,z,q⟩=>⟨by rw[<- r.length];exact z,?_⟩)
 have hf:H1 s1.heap.objs.size=none:=I1.hok.fresh (le_refl _)
 have hk:X.K.lookup s1.heap.objs.size=none:=by
  cases c:X.K.lookup s1.heap.objs.size with
  |none=>rfl
  |some o=>exact absurd (Heap.lt_size (I1.kIn _ _ c)) (lt_irrefl _)
 refine⟨.ref s1.heap.objs.size,upd H1 s1.heap.objs.size (.lst xs),I1.laid (t':=s1.toks) (fun b u e=>Heap.get?_push_of_some _ e) (le_refl _) ?_,rfl,q _ hf hk⟩
 exact⟨z,us,0,r,Heap.get?_push_size _ rfl⟩
theorem vM(h:DA X es t)(hl:es.length<=1000:=by decide):DE X (.List es pos) (Ae t):=by
 obtain⟨t1,p1,l1⟩:=h
 refine⟨_,MG p1,fun σ H ρ U Qd Q S h k=>?_⟩
 refine l1 σ H ρ U _ _ S h fun ds us am H1 e1 S1 rs len h1=>?_
 cases q:de ds with
 |none=>rw[q] at h1;exact h1.elim
 |some xs=>
  rw[q] at h1
  refine⟨Nat.le_of_lt (fS (by rw[<- rs.length,len];exact hl)),fun p hp hk=>?_⟩
  have ex:=rD (o:=.lst us) (ds:=xs) S1.mu hp hk
  exact k (.m p) _ (aQ am p xs) _ (e1.trans ex) ⟨S1.mu.mut (rs.data q) hp hk,S1.rho.ext S1.mu ex⟩ ⟨rfl,xs,aX⟩ (h1 p (S1.mu.free hp))
end
section
variable {X:Cx}{pins:List (Addr×Obj)}{σ:St}{H:Hp}{s:Shared}{U:Mu}
mutual
theorem gw(I:Inv X pins σ H s):∀{d:PyData} {x:V} {u:Value},Rp X.K U H d x->RelV x u->∃as,Reads s.heap u d as
 |_,_,_,.none,r=>by cases r;exact⟨_,.none⟩
 |_,_,_,.bool b,r=>by cases r;exact⟨_,.bool b⟩
 |_,_,_,.int i,r=>by obtain⟨t,rfl⟩:=r;exact⟨_,.int i t⟩
 |_,_,_,.str y,r=>by obtain⟨t,rfl⟩:=r;exact⟨_,.str y t⟩
 |_,_,_,.list h _ q,r=>by
  cases r
  obtain⟨its,rv,⟨o,n,ho,hc,_,hd⟩,_⟩:=I.list (SqL.of h)
  obtain⟨as,ra⟩:=nj I q rv
  exact⟨_,.list ho hc hd (by simpa using ra)⟩
 |_,_,_,.tuple h q,r=>by
  cases r
  obtain⟨its,rv,⟨o,ho,hc,n,hd⟩,_⟩:=I.tuple h
  obtain⟨as,ra⟩:=nj I q rv
  exact⟨_,.tuple ho hc hd (by simpa using ra)⟩
theorem nj(I:Inv X pins σ H s):∀{ds:List PyData} {xs:List V} {us:List Value},RpL X.K U H ds xs->Vals xs us->∃as,ReadsAll s.heap us ds as
 |_,_,_,.nil,.nil=>⟨_,.nil⟩
 |_,_,_,.cons h t,.cons r q=>by
  obtain⟨as,ra⟩:=gw I h r
  obtain⟨bs,rb⟩:=nj I t q
  exact⟨_,.cons ra rb⟩
end
end
section
variable {X:Cx}
noncomputable def M9(K:PySem.W.Frag)(neg:Bool):R2:=fun x y H Q=>∃U a b,Rp K U H a x/\Rp K U H b y/\SeqAt.shaped a=true/\SeqAt.shaped b=true/\Q (.bl (neg ^^ PyData.eqv a b)) H
theorem du(hu:X.A.units+64<cLine):OpR X (compareOp .Eq) (M9 X.K false):=by
 intro pins s σ H x y v u Q I rx ry h
 obtain⟨U,a,b,ha,hb,sa,sb,q⟩:=h
 obtain⟨as,ra⟩:=gw I ha rx
 obtain⟨bs,rb⟩:=gw I hb ry
 exact eq_dataH ra rb sa sb hu ⟨.bl (PyData.eqv a b),H,I,rfl,by simpa using q⟩
theorem ka(hu:X.A.units+64<cLine):OpR X (compareOp .NotEq) (M9 X.K true):=by
 intro pins s σ H x y v u Q I rx ry h
 obtain⟨U,a,b,ha,hb,sa,sb,q⟩:=h
 obtain⟨as,ra⟩:=gw I ha rx
 obtain⟨bs,rb⟩:=gw I hb ry
 exact ne_dataH ra rb sa sb hu ⟨.bl (!PyData.eqv a b),H,I,rfl,by simpa using q⟩
noncomputable def dP(neg:Bool):D->D->Mu->DK->Prop:=fun x y U Q=>match x,y with
 |.v a,.v b=>SeqAt.shaped a=true/\SeqAt.shaped b=true/\Q (.v (.bool (neg ^^ PyData.eqv a b))) U
 |_,_=>False
theorem bT{K:PySem.W.Frag}{neg:Bool}:iO K (M9 K neg) (dP neg):=by
 intro x y ux uy H U Qd Q ok rx ry h k
 unfold dP at h
 split at h
 ·rename_i a b
  exact⟨U,a,b,rx,ry,h.1,h.2.1,k (.v _) _ U H .refl ok (Rp.bool _) h.2.2⟩
 ·exact h.elim
noncomputable def OI(K:PySem.W.Frag)(neg:Bool):R2:=fun x y H Q=>∃U a bs,Rp K U H a x/\Rp K U H (.list bs) y/\PyData.canLayAll0 bs=true/\a.canLay0=true/\PyData.depth a<=60/\Q (.bl (neg ^^ bs.any fun b=>PyData.eqv b a)) H
theorem Su(hu:X.A.units+64<cLine):OpR X (compareOp .In) (OI X.K false):=by
 intro pins s σ H x y v u Q I rx ry h
 obtain⟨U,a,b,ha,hb,sb,sa,dp,q⟩:=h
 obtain⟨as,ra⟩:=gw I ha rx
 obtain⟨bs,rb⟩:=gw I hb ry
 refine SeqAt.in_list_reads rb ra sb sa ∅ ⟨.bl (b.any fun z=>PyData.eqv z a),H,I,rfl,by simpa using q⟩
theorem HJ(hu:X.A.units+64<cLine):OpR X (compareOp .NotIn) (OI X.K true):=by
 intro pins s σ H x y v u Q I rx ry h
 obtain⟨U,a,b,ha,hb,sb,sa,dp,q⟩:=h
 obtain⟨as,ra⟩:=gw I ha rx
 obtain⟨bs,rb⟩:=gw I hb ry
 refine SeqAt.notIn_list_reads rb ra sb sa ∅ ⟨.bl (!b.any fun z=>PyData.eqv z a),H,I,rfl,by simpa using q⟩
noncomputable def MS(neg:Bool):D->D->Mu->DK->Prop:=fun x y U Q=>match x,y with
 |.v a,.v (.list bs)=>PyData.canLayAll0 bs=true/\a.canLay0=true/\PyData.depth a<=60/\Q (.v (.bool (neg ^^ bs.any fun b=>PyData.eqv b a))) U
 |_,_=>False
theorem P4{K:PySem.W.Frag}{neg:Bool}:iO K (OI K neg) (MS neg):=by
 intro x y ux uy H U Qd Q ok rx ry h k
 unfold MS at h
 split at h
 ·rename_i a b
  exact⟨U,a,b,rx,ry,h.1,h.2.1,h.2.2.1,k (.v _) _ U H .refl ok (Rp.bool _) h.2.2.2⟩
 ·exact h.elim
end
section
variable {X:Cx}{a b e:Expr}{es:List Expr}{ta tb te:DTE}{t:DTA}{p pos:Pos}
noncomputable def aN:D->D->Mu->DK->Prop:=fun x y U Q=>match x,y with
 |.v (.list xs),.v (.int i)=>(match atI xs i with|some d=>Q (.v d) U|none=>False)
 |.v (.tuple xs),.v (.int i)=>(match atI xs i with|some d=>Q (.v d) U|none=>False)
 |.m l,.v (.int i)=>(match U l with
  |some xs=>(match atI xs i with|some d=>Q (.v d) U|none=>False)
  |none=>False)
 |.s ns,.v (.int i)=>(match atI ns i with|some d=>Q (.v (.int d)) U|none=>False)
 |_,_=>False
theorem N9{K:PySem.W.Frag}:iO K (rIx K) aN:=by
 intro x y ux uy H U Qd Q ok rx ry h k
 unfold aN at h
 split at h
 ·rename_i xs i
  cases ry
  cases q:atI xs i with
  |none=>rw[q] at h;exact h.elim
  |some d=>
   rw[q] at h
   cases rx with
   |list hs hn r=>
    obtain⟨u,e1,e2⟩:=FD r q
    exact .inl ⟨_,_,i,u,rfl,rfl,SqL.of hs,e1,k (.v d) u U H .refl ok e2 h⟩
 ·rename_i xs i
  cases ry
  cases q:atI xs i with
  |none=>rw[q] at h;exact h.elim
  |some d=>
   rw[q] at h
   cases rx with
   |tuple hs r=>
    obtain⟨u,e1,e2⟩:=FD r q
    exact .inr (.inl ⟨_,_,i,u,rfl,rfl,hs,e1,k (.v d) u U H .refl ok e2 h⟩)
 ·rename_i l i
  cases ry
  obtain⟨rfl,ds,hm⟩:=rx
  rw[hm] at h
  simp only at h
  cases q:atI ds i with
  |none=>rw[q] at h;exact h.elim
  |some d=>
   rw[q] at h
   obtain⟨us,hl,r⟩:=ok l ds hm
   obtain⟨u,e1,e2⟩:=FD r q
   exact .inl ⟨_,_,i,u,rfl,rfl,SqL.of hl,e1,k (.v d) u U H .refl ok e2 h⟩
 ·rename_i ns i
  cases ry
  obtain⟨a,rfl,hs,hn⟩:=rx
  cases q:atI ns i with
  |none=>rw[q] at h;exact h.elim
  |some d=>
   rw[q] at h
   have e1:atI (ns.map V.int) i=some (.int d):=by
    unfold atI at q ⊢
    rw[length_map]
    cases z:ixN ns.length i with
    |none=>rw[z] at q;cases q
    |some j=>
     rw[z] at q
     simp only[bind_some,getElem?_map] at q ⊢
     rw[q]<;>rfl
   exact .inl ⟨_,_,i,_,rfl,rfl,hs,e1,k (.v (.int d)) _ U H .refl ok (Rp.int d) h⟩
 ·exact h.elim
theorem aE(ha:DE X a ta)(hb:DE X b tb)(hs:Be b:=by exact fun _ _=>rfl):DE X (.Subscript a b pos) (dOp aN ta tb):=by
 obtain⟨t1,p1,l1⟩:=ha
 obtain⟨t2,p2,l2⟩:=hb
 exact⟨_,N0 Lr p1 p2 hs,rJ N9 l1 l2⟩
theorem KU{prog:Program}{w:World}{A:Around}{E:Value->Shared->Prop}{s:Shared}{t b:Addr}{ws:List Value}{Q:Value->Shared->Prop}(ht:IsTup s.heap t #[])(hb:IsTup s.heap b ws.toArray)
  (h1:Q (.ref b) s):wpAny (model prog w) A (binaryOp .Add (.ref t) (.ref b)) Q E s:=by
 obtain⟨⟨cls,dd,data,sl⟩,ho,hc,n,hd⟩:=id ht
 obtain⟨⟨cls2,dd2,data2,sl2⟩,ho2,hc2,n2,hd2⟩:=id hb
 simp only at hc hd hc2 hd2
 subst hc hd hc2 hd2
 exact concat_meets ⟨_,ho,rfl⟩ ⟨_,ho2,rfl⟩ noFill_tuple_add seq_tuple_add PySem.F.slot_tuple_add PySem.F.entry_tuple_add (PySem.F.args_tuple_add_2 _ _)
  (tuple_addW0 t b #[] ws.toArray n n2 dd dd2 sl sl2 rfl) ⟨ho,ho2,h1⟩
noncomputable def pH(U:Mu):D->Option (List PyData)
 |.v (.list xs)=>some xs
 |.m l=>U l
 |_=>none
theorem D0{K:PySem.W.Frag}{U:Mu}{H:Hp}{x:D}{u:V}{xs:List PyData}(ok:bK K U H)(r:RpD K U H x u)(h:pH U x=some xs):∃a us,u = .ref a/\H a=some (.lst us)/\RpL K U H xs us:=by
 cases x with
 |v d=>
  cases d<;>simp only[pH] at h<;>try cases h
  cases r with
  |list hs _ q=>exact⟨_,_,rfl,hs,q⟩
 |m l=>
  obtain⟨rfl,ds,hm⟩:=r
  obtain⟨us,hl,q⟩:=ok l xs h
  exact⟨l,us,rfl,hl,q⟩
 |s ns=>cases h
 |o a=>cases h
 |b a=>cases h
 |q P=>cases h
noncomputable def G0:D->D->Mu->DK->Prop:=fun x y U Q=>match pH U x,pH U y with
 |some xs,some ys=>xs.length+ys.length<=1000/\Q (.v (.list (xs++ys))) U
 |_,_=>False
theorem An{n:Nat}(h:n<=1000):n<=sizeLine:=Nat.le_of_lt (fS h)
theorem Qr{K:PySem.W.Frag}:iO K Ow G0:=by
 intro x y ux uy H U Qd Q ok rx ry h k
 unfold G0 at h
 split at h
 ·rename_i xs ys hx hy
  obtain⟨a,us,rfl,ha,ra⟩:=D0 ok rx hx
  obtain⟨b,ws,rfl,hb,rb⟩:=D0 ok ry hy
  refine⟨a,b,us,ws,rfl,rfl,ha,hb,An (by rw[<- ra.length,<- rb.length];exact h.1),fun p hp=>?_⟩
  exact k (.v _) _ U _ (df hp) (ok.new hp) (hZ ok (ra.append rb) hp) h.2
 ·exact h.elim
noncomputable def EW(K:PySem.W.Frag):R2:=fun x y H Q=>∃a b xs ys,x = .ref a/\y = .ref b/\SqT K H a xs/\SqT K H b ys/\xs.length+ys.length<=sizeLine /\
 (xs=[]->Q (.ref b) H)/\(ys=[]->Q (.ref a) H)/\(∀p,H p=none->Q (.ref p) (upd H p (.tup (xs++ys))))
theorem Jt:OpR X (binaryOp .Add) (EW X.K):=by
 intro pins s σ H x y v u Q I rx ry h
 obtain⟨a,b,xs,ys,rfl,rfl,ha,hb,hz,q0,q1,q2⟩:=h
 by_cases hx:xs=[]
 ·subst hx
  cases rx
  cases ry
  obtain⟨its,r1,p1,_⟩:=I.tuple ha
  obtain⟨its2,r2,p2,_⟩:=I.tuple hb
  cases r1
  exact KU p1 p2 ⟨.ref b,H,I,rfl,q0 rfl⟩
 ·exact Mq pins s σ H _ _ v u Q I rx ry ⟨a,b,xs,ys,rfl,rfl,ha,hb,hx,hz,q1,fun _=>q2⟩
noncomputable def JL:D->D->Mu->DK->Prop:=fun x y U Q=>match x,y with
 |.v (.tuple xs),.v (.tuple ys)=>xs.length+ys.length<=1000/\Q (.v (.tuple (xs++ys))) U
 |_,_=>False
theorem MB{K:PySem.W.Frag}:iO K (EW K) JL:=by
 intro x y ux uy H U Qd Q ok rx ry h k
 unfold JL at h
 split at h
 ·rename_i xs ys
  cases id rx with
  |@tuple a us _ ha ra=>
   cases id ry with
   |@tuple b ws _ hb rb=>
    refine⟨a,b,us,ws,rfl,rfl,ha,hb,An (by rw[<- ra.length,<- rb.length];exact h.1),fun z=>?_,fun z=>?_,fun p hp=>?_⟩
    ·subst z
     cases ra
     exact k (.v _) _ U H .refl ok ry (by simpa using h.2)
    ·subst z
     cases rb
     exact k (.v _) _ U H .refl ok rx (by simpa using h.2)
    ·exact k (.v _) _ U _ (df hp) (ok.new hp) (ib ok (ra.append rb) hp) h.2
 ·exact h.elim
end
end L2.DL
namespace HT
open PySem PyProof.Rows
section
variable {prog:Program}{w:World}{A:Around}{E:Value->Shared->Prop}{s:Shared}
theorem rQ{t sl:Addr}{items:Array Value}{vl vu:Value}{lo hi:Option Int}{Q:Value->Shared->Prop}(ht:IsTup s.heap t items)(hs:s.heap.IsSliceOf sl vl vu .none)(pl:IsPart vl lo)(pu:IsPart vu hi)
  (hw:sIx items.size 0 lo=0/\sIx items.size items.size hi=items.size) (h:Q (.ref t) s):wpAny (model prog w) A (getItem (.ref t) (.ref sl)) Q E s:=by
 obtain⟨os,hos,hcs,hds⟩:=id hs
 have hTs:s.TypeIs (.ref sl) "slice":=⟨os,hos,hcs⟩
 unfold getItem
 try with_reducible refine wpAny_holding ?_
 first|refine wpAny_bind (wpAny_pure ?_)|skip
 refine wpAny_bind (wpAny_sequenceKey ht.typeIs ⋯ ?_)
 refine wpAny_bind (wpAny_callSpecial?_slot (name:=Str.ofString "__getitem__") ht.typeIs PyProof.Rows.slot_tuple_getitem
  (wpAny_call_entry PyProof.Rows.slot_tuple_getitem ht.typeIs entry_tuple_getitem ?_ (args_tuple_getitem _ _)))
 show wpAny _ _ (Builtin.Tuple.tupleItemsOf (.ref t)>>=_) _ _ s
 refine wpAny_bind (tupleItemsOf_ ht ?_)
 refine wpAny_bind (wpAny_typeOf hTs ?_)
 rw[if_pos ⋯]
 refine wpAny_bind (kB hs pl pu ?_)
 have hno:((((sIx items.size 0 lo:Nat):Int)==0&&(1:Int)==1&&(sIx items.size items.size hi-sIx items.size 0 lo)==items.size)=true):=by
  rw[hw.1,hw.2]
  simp
 show wpAny _ _ (if (((sIx items.size 0 lo:Nat):Int)==0&&(1:Int)==1&&(sIx items.size items.size hi-sIx items.size 0 lo)==items.size)=true then _ else _) _ _ s
 rw[if_pos hno]
 refine wpAny_bind ?_
 unfold Builtin.Tuple.tupleIsExact
 refine wpAny_bind (wpAny_typeOf ht.typeIs (wpAny_pure ?_))
 rw[if_pos ⋯]
 refine wpAny_bind (wpAny_rule ?_)
 exact wpAny_pure ⟨_,rfl,wpAny_pure h⟩
end
end HT
namespace L2.DL
open PySem PySem.Spec PyProof.Rows
section
variable {X:Cx}{a b e:Expr}{lo hi:Option Expr}{ta tb te:DTE}{pos p2:Pos}
noncomputable def nX{α:Type}(xs:List α)(lo hi:Option Int):List α:=(xs.drop (HT.sIx xs.length 0 lo)).take (HT.sIx xs.length xs.length hi-HT.sIx xs.length 0 lo)
theorem RpL.cut{K:PySem.W.Frag}{U:Mu}{H:Hp}{ds:List PyData}{us:List V}{lo hi:Option Int}(r:RpL K U H ds us):RpL K U H (nX ds lo hi) (AZ us lo hi):=by
 unfold nX AZ
 rw[r.length]
 exact (r.drop _).take _
theorem MT{α:Type}{xs:List α}{lo hi:Option Int}(h:HT.sIx xs.length 0 lo=0/\HT.sIx xs.length xs.length hi=xs.length):nX xs lo hi=xs:=by
 unfold nX
 rw[h.1,h.2]
 simp
noncomputable def Sb(K:PySem.W.Frag):V->Option Int->Option Int->Hp->VK->Prop:=fun x lo hi H Q=>∃a xs,x = .ref a/\SqT K H a xs /\
 (HT.sIx xs.length 0 lo=0/\HT.sIx xs.length xs.length hi=xs.length->Q (.ref a) H)/\∀p,H p=none->Q (.ref p) (upd H p (.tup (AZ xs lo hi)))
theorem M4:SlR X (Sb X.K):=by
 intro pins s σ H x v vl vu lo hi sl Q I rx hs pl pu h
 obtain⟨a,xs,rfl,hx,q1,q⟩:=h
 by_cases hw:HT.sIx xs.length 0 lo=0/\HT.sIx xs.length xs.length hi=xs.length
 ·cases rx
  obtain⟨its,r,ht,hz⟩:=I.tuple hx
  have hlen:its.toArray.size=xs.length:=by rw[size_toArray];exact r.length.symm
  refine⟨"tuple",_,PyProof.Rows.slot_tuple_getitem.lookup,ht.typeIs,?_⟩
  exact HT.rQ ht hs pl pu (by rw[hlen];exact hw) ⟨.ref a,H,I,rfl,q1 hw⟩
 ·exact Px pins s σ H _ v vl vu lo hi sl Q I rx hs pl pu ⟨a,xs,rfl,hx,hw,q⟩
noncomputable abbrev DTO:=Rho->Mu->(Option Int->Mu->Prop)->Prop
noncomputable def RO(K:PySem.W.Frag)(t:TO)(td:DTO):Prop:=∀(σ:St) (H:Hp) (ρ:Rho) (U:Mu) (Qd:Option Int->Mu->Prop) (Q:Option Int->Hp->Prop),St0 K H ρ U σ->td ρ U Qd ->
 (∀o Z H',Ext K U H Z H'->St0 K H' ρ Z σ->Qd o Z->Q o H')->t σ H Q
noncomputable def DO(X:Cx)(e:Option Expr)(td:DTO):Prop:=∃t,PO X e t/\RO X.K t td
noncomputable def dZ:DTO:=fun _ U Q=>Q none U
noncomputable def jV(t:DTE):DTO:=fun ρ U Q=>t ρ U fun x am=>match x with
 |.v (.int i)=>Q (some i) am
 |_=>False
theorem fA:DO X none dZ:=⟨_,M5,fun σ H ρ U Qd Q S h k=>k none U H .refl S h⟩
theorem fD(h:DE X e te):DO X (some e) (jV te):=by
 obtain⟨t1,p1,l1⟩:=h
 refine⟨_,Na p1,fun σ H ρ U Qd Q S h k=>?_⟩
 refine l1 σ H ρ U _ _ S h fun x ux am H1 e1 S1 rx h1=>?_
 split at h1
 ·cases rx
  exact⟨_,rfl,k _ am H1 e1 S1 h1⟩
 ·exact h1.elim
noncomputable def Mh(x:D)(lo hi:Option Int)(U:Mu)(Q:DK):Prop:=match x with
 |.v (.tuple xs)=>Q (.v (.tuple (nX xs lo hi))) U
 |.v (.list xs)=>Q (.v (.list (nX xs lo hi))) U
 |.m l=>(match U l with|some xs=>Q (.v (.list (nX xs lo hi))) U|none=>False)
 |_=>False
noncomputable def dSl(te:DTE)(tl th:DTO):DTE:=fun ρ U Q=>te ρ U fun x am=>tl ρ am fun l bn=>th ρ bn fun u dl=>Mh x l u dl Q
theorem dJ{tl th:DTO}(he:DE X e te)(hl:DO X lo tl)(hu:DO X hi th):DE X (.Subscript e (.Slice lo hi none p2) pos) (dSl te tl th):=by
 obtain⟨t1,p1,l1⟩:=he
 obtain⟨t2,p2,l2⟩:=hl
 obtain⟨t3,p3,l3⟩:=hu
 refine⟨_,JT (NP.or M4) p1 p2 p3,fun σ H ρ U Qd Q S h k=>?_⟩
 refine l1 σ H ρ U _ _ S h fun x ux am H1 e1 S1 rx h1=>?_
 refine l2 σ H1 ρ am _ _ S1 h1 fun l bn H2 e2 S2 h2=>?_
 refine l3 σ H2 ρ bn _ _ S2 h2 fun u dl H3 e3 S3 h3=>?_
 have rx3:=(rx.ext S1.mu e2).ext S2.mu e3
 have ee:=e1.trans (e2.trans e3)
 unfold Mh at h3
 split at h3
 ·rename_i xs
  cases id rx3 with
  |@tuple a us _ ha ra=>
   refine .inr ⟨a,us,rfl,ha,fun hw=>?_,fun p hp=>?_⟩
   ·refine k (.v _) _ dl H3 ee S3 (show Rp _ _ _ (.tuple (nX xs l u)) _ from ?_) h3
    rw[MT (by rw[ra.length];exact hw)]
    exact rx3
   ·exact k (.v _) _ dl _ (ee.trans (df hp)) (S3.new hp) (ib S3.mu ra.cut hp) h3
 ·rename_i xs
  cases id rx3 with
  |@list a us _ ha hn ra=>exact .inl ⟨a,us,rfl,SqL.of ha,fun p hp=>k (.v _) _ dl _ (ee.trans (df hp)) (S3.new hp) (hZ S3.mu ra.cut hp) h3⟩
 ·rename_i a
  obtain⟨rfl,ds,hm⟩:=rx3
  rw[hm] at h3
  obtain⟨us,ha,ra⟩:=S3.mu a ds hm
  exact .inl ⟨a,us,rfl,SqL.of ha,fun p hp=>k (.v _) _ dl _ (ee.trans (df hp)) (S3.new hp) (hZ S3.mu ra.cut hp) h3⟩
 ·exact h3.elim
end
section
variable {X:Cx}{a b e:Expr}{es:List Expr}{ta tb te:DTE}{t:DTA}{p pos:Pos}{x:Str}{bid T:String}
noncomputable def mG(K:PySem.W.Frag)(r:List V->Hp->VK->Prop)(rd:List D->Mu->DK->Prop):Prop:=∀(xs:List D) (us:List V) (H:Hp) (U:Mu) (Qd:DK) (Q:VK),bK K U H->iW K U H xs us->rd xs U Qd ->
 (∀d u Z H',Ext K U H Z H'->bK K Z H'->RpD K Z H' d u->Qd d Z->Q u H')->r us H Q
noncomputable def dCB(rd:List D->Mu->DK->Prop)(t:DTA):DTE:=fun ρ U Q=>t ρ U fun ds am=>rd ds am Q
theorem HD{K:PySem.W.Frag}{n:Nat}{r:List V->Hp->VK->Prop}{rd:List D->Mu->DK->Prop}{t1:TA}(lc:mG K r rd)(l1:N7 K n t1 t):qy K (tCB r t1) (dCB rd t):=by
 intro σ H ρ U Qd Q S h k
 refine l1 σ H ρ U _ _ S h fun xs us am H1 e1 S1 rs len h1=>?_
 exact lc xs us H1 am _ _ S1.mu rs h1 fun d u Z H' e2 ok r q=>k d u Z H' (e1.trans e2) ⟨ok,S1.rho.ext S1.mu e2⟩ r q
theorem jL{r:List V->Hp->VK->Prop}{rd:List D->Mu->DK->Prop}(hc:jA X (.builtin bid) r)(lc:mG X.K r rd)(hg:Gl X x)(hm:X.mg x=none)(hv:bootBuiltins x=some (.builtin bid))(ha:DA X (e::es) t)(hn:x ≠ "__name__":=by decide)(hdb:(x==("__debug__":Str))=false:=by decide)
  (he:starEach (e::es) X.env=(false,eval e X.env)::starEach es X.env:=by rfl) (hpl:(backTo pos (starEach es X.env)).any (·.1)=false:=by rfl):DE X (.Call (.Name x p) (e::es) [] pos) (dCB rd t):=by
 obtain⟨t1,p1,l1⟩:=ha
 exact⟨_,sL hc hg hm hv p1 hn hdb he hpl,HD lc l1⟩
theorem tX{r:List V->Hp->VK->Prop}{rd:List D->Mu->DK->Prop}(hc:jA X (.type T) r)(lc:mG X.K r rd)(hg:Gl X x)(hm:X.mg x=none)(hv:bootBuiltins x=some (.type T))(ha:DA X (e::es) t)(hn:x ≠ "__name__":=by decide)(hdb:(x==("__debug__":Str))=false:=by decide)
  (he:starEach (e::es) X.env=(false,eval e X.env)::starEach es X.env:=by rfl) (hpl:(backTo pos (starEach es X.env)).any (·.1)=false:=by rfl):DE X (.Call (.Name x p) (e::es) [] pos) (dCB rd t):=by
 obtain⟨t1,p1,l1⟩:=ha
 exact⟨_,HR hc hg hm hv p1 hn hdb he hpl,HD lc l1⟩
noncomputable def dq:List D->Mu->DK->Prop:=fun xs U Q=>match xs with
 |[.v (.list ys)]=>Q (.v (.int (ys.length:Nat))) U
 |[.v (.tuple ys)]=>Q (.v (.int (ys.length:Nat))) U
 |[.m l]=>(match U l with|some ys=>Q (.v (.int (ys.length:Nat))) U|none=>False)
 |[.s ns]=>Q (.v (.int (ns.length:Nat))) U
 |_=>False
theorem KG{K:PySem.W.Frag}:mG K (fun xs H Q=>∃p ys,xs=[.ref p]/\(SqL K H p ys\/SqT K H p ys)/\Q (.int ys.length) H) dq:=by
 intro xs us H U Qd Q ok rs h k
 unfold dq at h
 split at h
 ·cases rs with
  |cons r1 r2=>
   cases r2
   cases r1 with
   |list hs hn r=>exact⟨_,_,rfl,.inl (SqL.of hs),k (.v _) _ U H .refl ok (by rw[<- r.length];exact Rp.int _) h⟩
 ·cases rs with
  |cons r1 r2=>
   cases r2
   cases r1 with
   |tuple hs r=>exact⟨_,_,rfl,.inr hs,k (.v _) _ U H .refl ok (by rw[<- r.length];exact Rp.int _) h⟩
 ·cases rs with
  |cons r1 r2=>
   cases r2
   obtain⟨rfl,ds,hm⟩:=r1
   rw[hm] at h
   obtain⟨us,hl,r⟩:=ok _ ds hm
   exact⟨_,_,rfl,.inl (SqL.of hl),k (.v _) _ U H .refl ok (by rw[<- r.length];exact Rp.int _) h⟩
 ·cases rs with
  |cons r1 r2=>
   cases r2
   obtain⟨a,rfl,hs,hn⟩:=r1
   exact⟨_,_,rfl,.inl hs,k (.v _) _ U H .refl ok (by rw[length_map];exact Rp.int _) h⟩
 ·exact h.elim
theorem dX(hg:Gl X "len")(hm:X.mg "len"=none)(ha:DA X (e::es) t)
  (he:starEach (e::es) X.env=(false,eval e X.env)::starEach es X.env:=by rfl) (hpl:(backTo pos (starEach es X.env)).any (·.1)=false:=by rfl):DE X (.Call (.Name "len" p) (e::es) [] pos) (dCB dq t):=
 jL rO KG hg hm PySem.boot_len ha ⋯ ⋯ he hpl
noncomputable def qI:List D->Mu->DK->Prop:=fun xs U Q=>match xs with
 |[.v (.int i)]=>Q (.v (.int (i.natAbs:Nat))) U
 |_=>False
theorem Ph{K:PySem.W.Frag}:mG K (fun xs H Q=>∃i,xs=[.int i]/\Q (.int (if i<0 then -i else i)) H) qI:=by
 intro xs us H U Qd Q ok rs h k
 unfold qI at h
 split at h
 ·rename_i i
  cases rs with
  |cons r1 r2=>
   cases r2
   cases r1
   refine⟨i,rfl,k (.v (.int (i.natAbs:Nat))) _ U H .refl ok ?_ h⟩
   have:(if i<0 then -i else i)=((i.natAbs:Nat):Int):=by split<;>omega
   rw[this]
   exact Rp.int _
 ·exact h.elim
theorem wN(hg:Gl X "abs")(hm:X.mg "abs"=none)(ha:DA X (e::es) t)
  (he:starEach (e::es) X.env=(false,eval e X.env)::starEach es X.env:=by rfl) (hpl:(backTo pos (starEach es X.env)).any (·.1)=false:=by rfl):DE X (.Call (.Name "abs" p) (e::es) [] pos) (dCB qI t):=
 jL Jn Ph hg hm PyProof.Rows.Boot.«abs» ha ⋯ ⋯ he hpl
noncomputable def HI(g:Int->Int->Int):List D->Mu->DK->Prop:=fun xs U Q=>match xs with
 |[.v (.int i),.v (.int j)]=>Q (.v (.int (g i j))) U
 |_=>False
theorem Oe{K:PySem.W.Frag}{g g':Int->Int->Int}(hg:∀i j,g i j=g' i j):mG K (fun xs H Q=>∃i j,xs=[.int i,.int j]/\Q (.int (g i j)) H) (HI g'):=by
 intro xs us H U Qd Q ok rs h k
 unfold HI at h
 split at h
 ·rename_i i j
  cases rs with
  |cons r1 r2=>
   cases r2 with
   |cons r2 r3=>
    cases r3
    cases r1
    cases r2
    exact⟨i,j,rfl,k (.v _) _ U H .refl ok (by rw[hg];exact Rp.int _) h⟩
 ·exact h.elim
theorem Qa(hc:X.calm=true)(hg:Gl X "max")(hm:X.mg "max"=none)(ha:DA X (e::es) t)
  (he:starEach (e::es) X.env=(false,eval e X.env)::starEach es X.env:=by rfl) (hpl:(backTo pos (starEach es X.env)).any (·.1)=false:=by rfl):DE X (.Call (.Name "max" p) (e::es) [] pos) (dCB (HI max) t):=
 jL (IG hc) (Oe (fun i j=>by show (if j>i then j else i)=max i j;simp only[Int.max_def];split<;>split<;>omega)) hg hm PyProof.Rows.Boot.«max» ha ⋯ ⋯ he hpl
theorem OY(hc:X.calm=true)(hg:Gl X "min")(hm:X.mg "min"=none)(ha:DA X (e::es) t)
  (he:starEach (e::es) X.env=(false,eval e X.env)::starEach es X.env:=by rfl) (hpl:(backTo pos (starEach es X.env)).any (·.1)=false:=by rfl):DE X (.Call (.Name "min" p) (e::es) [] pos) (dCB (HI min) t):=
 jL (IM hc) (Oe (fun i j=>by show (if j<i then j else i)=min i j;simp only[Int.min_def];split<;>split<;>omega)) hg hm PyProof.Rows.Boot.«min» ha ⋯ ⋯ he hpl
noncomputable def sM:List D->Mu->DK->Prop:=fun xs U Q=>match xs with
 |[.v (.int i)]=>Q (.v (.int i)) U
 |[.v (.bool k)]=>Q (.v (.int (if k then 1 else 0))) U
 |_=>False
theorem Pt{K:PySem.W.Frag}:mG K (fun xs H Q=>(∃i,xs=[.int i]/\Q (.int i) H)\/∃k,xs=[.bl k]/\Q (.int (if k then 1 else 0)) H) sM:=by
 intro xs us H U Qd Q ok rs h k
 unfold sM at h
 split at h
 ·rename_i i
  cases rs with
  |cons r1 r2=>cases r2;cases r1;exact .inl ⟨i,rfl,k (.v _) _ U H .refl ok (Rp.int _) h⟩
 ·rename_i b
  cases rs with
  |cons r1 r2=>cases r2;cases r1;exact .inr ⟨b,rfl,k (.v _) _ U H .refl ok (Rp.int _) h⟩
 ·exact h.elim
theorem nQ(hg:Gl X "int")(hm:X.mg "int"=none)(ha:DA X (e::es) t)
  (he:starEach (e::es) X.env=(false,eval e X.env)::starEach es X.env:=by rfl) (hpl:(backTo pos (starEach es X.env)).any (·.1)=false:=by rfl):DE X (.Call (.Name "int" p) (e::es) [] pos) (dCB sM t):=
 tX IQ Pt hg hm PyProof.Rows.Boot.«int» ha ⋯ ⋯ he hpl
noncomputable def wH:List D->Mu->DK->Prop:=fun xs U Q=>match xs with
 |[.v (.list ys)]=>Q (.v (.list ys)) U
 |[.v (.tuple ys)]=>Q (.v (.list ys)) U
 |_=>False
theorem MP{K:PySem.W.Frag}:mG K (fun xs H Q=>∃p ys,xs=[.ref p]/\(SqL K H p ys\/SqT K H p ys)/\∀l,H l=none->Q (.ref l) (upd H l (.lst ys))) wH:=by
 intro xs us H U Qd Q ok rs h k
 unfold wH at h
 split at h
 ·cases rs with
  |cons r1 r2=>
   cases r2
   cases r1 with
   |list hs hn r=>exact⟨_,_,rfl,.inl (SqL.of hs),fun p hp=>k (.v _) _ U _ (df hp) (ok.new hp) (hZ ok r hp) h⟩
 ·cases rs with
  |cons r1 r2=>
   cases r2
   cases r1 with
   |tuple hs r=>exact⟨_,_,rfl,.inr hs,fun p hp=>k (.v _) _ U _ (df hp) (ok.new hp) (hZ ok r hp) h⟩
 ·exact h.elim
theorem Nb(hg:Gl X "list")(hm:X.mg "list"=none)(ha:DA X (e::es) t)
  (he:starEach (e::es) X.env=(false,eval e X.env)::starEach es X.env:=by rfl) (hpl:(backTo pos (starEach es X.env)).any (·.1)=false:=by rfl):DE X (.Call (.Name "list" p) (e::es) [] pos) (dCB wH t):=
 tX Bv MP hg hm PyProof.Rows.Boot.«list» ha ⋯ ⋯ he hpl
theorem CQ:∀{bs:List Bool} {us:List Value},Vals (bs.map V.bl) us->us=bs.map Value.bool
 |[],_,.nil=>rfl
 |b::r,_,.cons h t=>by cases h;rw[CQ t];rfl
theorem IV(hc:X.calm=true):jA X (.builtin "all") (fun xs H Q=>∃(p:Addr) (bs:List Bool),xs=[.ref p]/\H p=some (.lst (bs.map V.bl))/\Q (.bl (bs.all id)) H):=by
 intro pins s σ H xs us Q I r h
 obtain⟨l,bs,rfl,hl,q⟩:=h
 obtain⟨u,rfl,rx⟩:=vals1 r
 cases rx
 obtain⟨its,rv,pl,_⟩:=I.list (SqL.of hl)
 have eb:=CQ rv
 subst eb
 have hL:=pl.isList
 have hlt:=pl.lt
 refine call_all_walk (wpAny_pyIter_list hL ?_)
 refine⟨s.heap.objs.size,[s.heap.objs.size,l],[s.heap.objs.size],(bs.map Value.bool).toArray.size,_,_,fun i=>(bs[i]?).getD true,rfl,Walks.list (A:=X.A.in1) (by exact I.ok.hd hc) _ l (ne_of_lt hlt) (bs.map Value.bool).toArray,
  ⟨⟨_,Heap.get?_push_size _ rfl,rfl,rfl⟩,hL.push _⟩,fun i v s' Q' E' hP hQ=>?_,fun h' tk hk=>?_⟩
 ·have hP':(bs.map Value.bool)[i]? = some v:=by simpa using hP
  rw[getElem?_map] at hP'
  cases z:bs[i]? with
  |none=>rw[z] at hP';cases hP'
  |some b=>
   rw[z] at hP'
   cases hP'
   simp only[z,Option.getD_some] at hQ
   exact wpAny_truthy_bool hQ
 ·have e:((List.range (bs.map Value.bool).toArray.size).all fun i=>(bs[i]?).getD true)=bs.all id:=by
   rw[size_toArray,length_map];exact PyProof.Rows.LSm.range_all bs
  rw[e]
  exact⟨.bl (bs.all id),H,I.kept (PyProof.Rows.LSm.kept_iter hk),rfl,q⟩
noncomputable def cT:List PyData->Option (List Bool)
 |[]=>some []
 |.bool b::r=>(cT r).map (b::·)
 |_::_=>none
theorem xw{K:PySem.W.Frag}{U:Mu}{H:Hp}:∀{xs:List PyData} {us:List V} {bs:List Bool},RpL K U H xs us->cT xs=some bs->us=bs.map V.bl
 |_,_,_,.nil,e=>by cases e;rfl
 |.bool b::r,_,bs,.cons h t,e=>by
  simp only[cT] at e
  cases q:cT r with
  |none=>rw[q] at e;cases e
  |some cs=>rw[q] at e;cases e;cases h;rw[xw t q];rfl
 |.none::r,_,bs,.cons h t,e=>by simp[cT] at e
 |.int _::r,_,bs,.cons h t,e=>by simp[cT] at e
 |.str _::r,_,bs,.cons h t,e=>by simp[cT] at e
 |.list _::r,_,bs,.cons h t,e=>by simp[cT] at e
 |.tuple _::r,_,bs,.cons h t,e=>by simp[cT] at e
 |.dict _::r,_,bs,.cons h t,e=>by simp[cT] at e
noncomputable def zv:List D->Mu->DK->Prop:=fun xs U Q=>match xs with
 |[.v (.list ys)]=>(match cT ys with|some bs=>Q (.v (.bool (bs.all id))) U|none=>False)
 |_=>False
theorem Pk{K:PySem.W.Frag}:mG K (fun xs H Q=>∃(p:Addr) (bs:List Bool),xs=[.ref p]/\H p=some (.lst (bs.map V.bl))/\Q (.bl (bs.all id)) H) zv:=by
 intro xs us H U Qd Q ok rs h k
 unfold zv at h
 split at h
 ·rename_i ys
  cases q:cT ys with
  |none=>rw[q] at h;exact h.elim
  |some bs=>
   rw[q] at h
   cases rs with
   |cons r1 r2=>
    cases r2
    cases r1 with
    |list hs hn r=>exact⟨_,bs,rfl,by rw[hs,xw r q],k (.v _) _ U H .refl ok (Rp.bool _) h⟩
 ·exact h.elim
theorem J0(hc:X.calm=true)(hg:Gl X "all")(hm:X.mg "all"=none)(ha:DA X (e::es) t)
  (he:starEach (e::es) X.env=(false,eval e X.env)::starEach es X.env:=by rfl) (hpl:(backTo pos (starEach es X.env)).any (·.1)=false:=by rfl):DE X (.Call (.Name "all" p) (e::es) [] pos) (dCB zv t):=
 jL (IV hc) Pk hg hm PyProof.Rows.Boot.«all» ha ⋯ ⋯ he hpl
noncomputable def tyD:PyData->String
 |.none=>"NoneType"
 |.bool _=>"bool"
 |.int _=>"int"
 |.str _=>"str"
 |.list _=>"list"
 |.tuple _=>"tuple"
 |.dict _=>"dict"
noncomputable def isT(T:String)(d:PyData):Bool:=tyD d==T || (T == "int"&&tyD d == "bool")
theorem Iq{pins:List (Addr×Obj)}{σ:St}{H:Hp}{s:Shared}{U:Mu}{d:PyData}{u:V}{v:Value}{k:Bool}{A:Around}{E:Value->Shared->Prop}{Q:Value->Shared->Prop}(I:Inv X pins σ H s)(r:Rp X.K U H d u)(rx:RelV u v)
  (ek:kitOne X.K (.type (tyD d)) (.type T)=some k) (h:∀tk,Q (.bool k) {s with toks:=tk}):wpAny (model X.prog X.w) A (call (.builtin "isinstance") [v,.type T]) Q E s:=by
 cases r with
 |none=>cases rx;exact kia_one PySem.W.kitx_none I.kIn True.intro ek (fun z=>nomatch z) h
 |bool b=>cases rx;exact kia_one PySem.W.kitx_bool I.kIn True.intro ek (fun z=>nomatch z) h
 |int i=>obtain⟨t,rfl⟩:=rx;exact kia_one PySem.W.kitx_int I.kIn True.intro ek (fun z=>nomatch z) h
 |str y=>obtain⟨t,rfl⟩:=rx;exact kia_one PySem.W.kitx_str I.kIn True.intro ek (fun z=>nomatch z) h
 |list hs hn q=>
  cases rx
  obtain⟨its,rv,⟨o,n,h1,h2,_⟩,_⟩:=I.list (SqL.of hs)
  exact kia_one PySem.W.kitx_list I.kIn ⟨o,h1,h2⟩ ek (fun z=>nomatch z) h
 |tuple hs q=>
  cases rx
  obtain⟨its,rv,⟨o,h1,h2,_⟩,_⟩:=I.tuple hs
  exact kia_one PySem.W.kitx_tuple I.kIn ⟨o,h1,h2⟩ ek (fun z=>nomatch z) h
theorem GJ(K:PySem.W.Frag)(d:PyData):kitOne K (.type (tyD d)) (.type "int")=some (isT "int" d):=by cases d<;>rfl
theorem CL(K:PySem.W.Frag)(d:PyData):kitOne K (.type (tyD d)) (.type "bool")=some (isT "bool" d):=by cases d<;>rfl
theorem kit_tuple(K:PySem.W.Frag)(d:PyData):kitOne K (.type (tyD d)) (.type "tuple")=some (isT "tuple" d):=by cases d<;>rfl
theorem Ka(K:PySem.W.Frag)(d:PyData):kitOne K (.type (tyD d)) (.type "list")=some (isT "list" d):=by cases d<;>rfl
theorem Dn(kt:∀d,kitOne X.K (.type (tyD d)) (.type T)=some (isT T d)):jA X (.builtin "isinstance") (fun xs H Q=>∃U d u,xs=[u,.ty T]/\Rp X.K U H d u/\Q (.bl (isT T d)) H):=by
 intro pins s σ H xs us Q I r h
 obtain⟨U,d,u,rfl,rd,q⟩:=h
 obtain⟨v,w',rfl,r1,r2⟩:=vals2 r
 cases r2
 exact Iq I rd r1 (kt d) fun tk=>⟨.bl (isT T d),H,I.tok _,rfl,q⟩
noncomputable def xx(T:String)(te:DTE):DTE:=fun ρ U Q=>te ρ U fun x am=>match x with
 |.v d=>Q (.v (.bool (isT T d))) am
 |_=>False
theorem jq{y:Str}{py:Pos}(kt:∀d,kitOne X.K (.type (tyD d)) (.type T)=some (isT T d))(hg:Gl X "isinstance")(hm:X.mg "isinstance"=none)(hgy:Gl X y)(hmy:X.mg y=none)(hvy:bootBuiltins y=some (.type T))(ha:DE X e te)
  (hny:y ≠ "__name__":=by decide) (hdy:(y==("__debug__":Str))=false:=by decide)
  (he:starEach [e,.Name y py] X.env=(false,eval e X.env)::starEach [.Name y py] X.env:=by rfl) (he2:starEach [.Name y py] X.env=[(false,eval (.Name y py) X.env)]:=by rfl) (hpl:(backTo pos (starEach [.Name y py] X.env)).any (·.1)=false:=by rfl):DE X (.Call (.Name "isinstance" p) [e,.Name y py] [] pos) (xx T te):=by
 obtain⟨t1,p1,l1⟩:=ha
 refine⟨_,sL (Dn kt) hg hm PyProof.Rows.Boot.«isinstance» (eO p1 (eO (Hr (v:=.ty T) hgy hmy hvy rfl hny hdy) lN he2) he) ⋯ ⋯ he hpl,fun σ H ρ U Qd Q S h k=>?_⟩
 refine l1 σ H ρ U _ _ S h fun x ux am H1 e1 S1 rx h1=>?_
 split at h1
 ·exact⟨am,_,ux,rfl,rx,k (.v _) _ am H1 e1 S1 (Rp.bool _) h1⟩
 ·exact h1.elim
end
section
variable {X:Cx}{a b e:Expr}{es:List Expr}{ta tb te:DTE}{t:DTA}{p pos:Pos}{st:Stmt}{rest sts:List Stmt}{td ud:DTS}{tc:DTT}
noncomputable def bV:DTS:=fun Dd ρ U=>Dd.nx ρ U
noncomputable def aP(t u:DTS):DTS:=fun Dd ρ U=>t {Dd with nx:=u Dd} ρ U
noncomputable def bI(te:DTE):DTS:=fun Dd ρ U=>te ρ U Dd.rt
noncomputable def uB(te:DTE):DTS:=fun Dd ρ U=>te ρ U fun _ am=>Dd.nx ρ am
noncomputable def dA(c:DTT)(t u:DTS):DTS:=fun Dd ρ U=>c ρ U fun b am=>if b=true then t Dd ρ am else u Dd ρ am
theorem bc:DSs X [] bV:=⟨_,L9,fun σ H ρ U Dd De S h k1 k2 k3 k4=>k1 σ ρ U H .refl S h⟩
theorem aw(h:DS X st td):DSs X [st] td:=let ⟨t,p,l⟩:=h;⟨t,MV p,l⟩
theorem lift_seq{K:PySem.W.Frag}{t u:TS}(l1:Ah K t td)(l2:Ah K u ud):Ah K (Rn t u) (aP td ud):=by
 intro σ H ρ U Dd De S h k1 k2 k3 k4
 refine l1 σ H ρ U _ _ S h (fun db dL Z H' e' S' h'=>?_) k2 k3 k4
 exact l2 db H' dL Z Dd De S' h' (fun a b c d e2=>k1 a b c d (e'.trans e2)) (fun a b c d e2=>k2 a b c d (e'.trans e2)) (fun a b c d e2=>k3 a b c d (e'.trans e2)) (fun a b c d e2=>k4 a b c d (e'.trans e2))
theorem aq(h1:DS X st td)(h2:DSs X rest ud):DSs X (st::rest) (aP td ud):=by
 obtain⟨t1,p1,l1⟩:=h1
 obtain⟨t2,p2,l2⟩:=h2
 exact⟨_,Dw p1 p2,lift_seq l1 l2⟩
theorem aI(he:DE X e te):DS X (.Return (some e) pos) (bI te):=by
 obtain⟨t1,p1,l1⟩:=he
 exact⟨_,Qu p1,fun σ H ρ U Dd De S h k1 k2 k3 k4=>l1 σ H ρ U _ _ S h fun d u Z H' e' S' r q=>k2 d u Z H' e' S'.mu r q⟩
theorem oK(he:DE X e te)(hs:swapsWith e none pos.line X.env=pure false:=by rfl):DS X (.Expr e pos) (uB te):=by
 obtain⟨t1,p1,l1⟩:=he
 exact⟨_,GC p1 hs,fun σ H ρ U Dd De S h k1 k2 k3 k4=>l1 σ H ρ U _ _ S h fun d u Z H' e' S' r q=>k1 σ ρ Z H' e' S' q⟩
theorem bZ{c:Expr}{x y:List Stmt}(hc:DT X c tc)(ha:DSs X x td)(hb:DSs X y ud):DS X (.If c x y pos) (dA tc td ud):=by
 obtain⟨t0,p0,l0⟩:=hc
 obtain⟨t1,p1,l1⟩:=ha
 obtain⟨t2,p2,l2⟩:=hb
 refine⟨_,Oa p0 p1 p2,fun σ H ρ U Dd De S h k1 k2 k3 k4=>?_⟩
 refine l0 σ H ρ U _ _ S h fun c am H1 e1 S1 h1=>?_
 cases c with
 |true=>exact Fp (l1 σ H1 ρ am Dd De S1 (by simpa using h1) (fun a b c d e2=>k1 a b c d (e1.trans e2)) (fun a b c d e2=>k2 a b c d (e1.trans e2)) (fun a b c d e2=>k3 a b c d (e1.trans e2)) (fun a b c d e2=>k4 a b c d (e1.trans e2)))
 |false=>exact Fd (l2 σ H1 ρ am Dd De S1 (by simpa using h1) (fun a b c d e2=>k1 a b c d (e1.trans e2)) (fun a b c d e2=>k2 a b c d (e1.trans e2)) (fun a b c d e2=>k3 a b c d (e1.trans e2)) (fun a b c d e2=>k4 a b c d (e1.trans e2)))
noncomputable abbrev DTG:=D->Rho->Mu->(Rho->Mu->Prop)->Prop
noncomputable abbrev yW:=List PyData->Rho->Mu->(Rho->Mu->Prop)->Prop
noncomputable def J8(K:PySem.W.Frag)(g:TG)(gd:DTG):Prop:=∀(σ:St) (H:Hp) (ρ:Rho) (U:Mu) (d:D) (u:V) (Qd:Rho->Mu->Prop) (Q:St->Hp->Prop),St0 K H ρ U σ->RpD K U H d u->gd d ρ U Qd ->
 (∀db dL Z H',Ext K U H Z H'->St0 K H' dL Z db->Qd dL Z->Q db H')->g u σ H Q
noncomputable def Qi(K:PySem.W.Frag)(g:TGs)(gd:yW):Prop:=∀(σ:St) (H:Hp) (ρ:Rho) (U:Mu) (ds:List PyData) (us:List V) (Qd:Rho->Mu->Prop) (Q:St->Hp->Prop),St0 K H ρ U σ->RpL K U H ds us->gd ds ρ U Qd ->
 (∀db dL Z H',Ext K U H Z H'->St0 K H' dL Z db->Qd dL Z->Q db H')->g us σ H Q
noncomputable def DG(X:Cx)(tg:Expr)(gd:DTG):Prop:=∃g,PG X tg g/\J8 X.K g gd
noncomputable def DGs(X:Cx)(tg:List Expr)(gd:yW):Prop:=∃g,PGs X tg g/\Qi X.K g gd
theorem j3.set{K:PySem.W.Frag}{U:Mu}{H:Hp}{ρ:Rho}{σ:St}{i:Nat}{d:D}{u:V}(r:j3 K U H ρ σ)(h:RpD K U H d u):j3 K U H (ρ.set i (some d)) (σ.set i (some u)):=by
 refine⟨by rw[List.length_set,List.length_set];exact r.1,fun j d' e=>?_⟩
 by_cases hj:i=j
 ·subst hj
  have hl:i<ρ.length:=by
   have:=(List.getElem?_eq_some_iff.mp e).1
   rw[List.length_set] at this
   exact this
  rw[List.getElem?_set_self hl] at e
  cases e
  exact⟨u,List.getElem?_set_self (by rw[<- r.1];exact hl),h⟩
 ·rw[List.getElem?_set_ne hj] at e
  obtain⟨w,e1,e2⟩:=r.2 j d' e
  exact⟨w,by rw[List.getElem?_set_ne hj];exact e1,e2⟩
noncomputable def ar(i:Nat):DTG:=fun d ρ U Q=>Q (ρ.set i (some d)) U
theorem xA{K:PySem.W.Frag}{i:Nat}:J8 K (Kj i) (ar i):=fun σ H ρ U d u Qd Q S r h k=>k _ _ U H .refl ⟨S.mu,S.rho.set r⟩ h
theorem oO{i:Nat}{x:Str}(hN:X.N.Nodup)(hi:X.N[i]? = some x)(hx:Loc X.env.scope x)(hf:X.fn x=true\/X.env.scope.names.lookup x=some .local:=by first|exact .inl rfl|exact .inr rfl|assumption):DG X (.Name x pos) (ar i):=⟨_,NB hN hi hx hf,xA⟩
noncomputable def dO:yW:=fun ds ρ U Q=>match ds with
 |[]=>Q ρ U
 |_=>False
noncomputable def aG(g:DTG)(gs:yW):yW:=fun ds ρ U Q=>match ds with
 |d::r=>g (.v d) ρ U fun tj am=>gs r tj am Q
 |_=>False
theorem bY:DGs X [] dO:=⟨_,Mf,fun σ H ρ U ds us Qd Q S r h k=>by
 cases r with
 |nil=>exact⟨rfl,k σ ρ U H .refl S h⟩
 |cons _ _=>exact h.elim⟩
theorem aB{g:DTG}{gs:yW}(h1:DG X e g)(h2:DGs X es gs)(hs:(assignEach (e::es) X.env).map (·.2)=assign e X.env::(assignEach es X.env).map (·.2):=by rfl):DGs X (e::es) (aG g gs):=by
 obtain⟨t1,p1,l1⟩:=h1
 obtain⟨t2,p2,l2⟩:=h2
 refine⟨_,JE p1 p2 hs,fun σ H ρ U ds us Qd Q S r h k=>?_⟩
 cases r with
 |nil=>exact h.elim
 |@cons d u ds us r1 r2=>
  refine⟨u,us,rfl,l1 σ H ρ U (.v d) u _ _ S r1 h fun db dL Z H' e1 S' h1=>?_⟩
  exact l2 db H' dL Z ds us _ _ S' (r2.ext S.mu e1) h1 fun a b c d e2=>k a b c d (e1.trans e2)
noncomputable def dD(n:Nat)(gs:yW):DTG:=fun d ρ U Q=>match d with
 |.v (.tuple xs)=>xs.length=n/\gs xs ρ U Q
 |_=>False
theorem cP{k n:Nat}{gs:yW}(hc:X.calm=X.calm)(h:DGs X es gs)
  (hn:(assignEach es X.env).length=n:=by rfl) (hst:(assignEach es X.env).findIdx? (·.1)=none:=by rfl):DG X (.Tuple es k pos) (dD n gs):=by
 obtain⟨t1,p1,l1⟩:=h
 refine⟨_,Ox hc p1 hn hst,fun σ H ρ U d u Qd Q S r h k=>?_⟩
 unfold dD at h
 split at h
 ·cases r with
  |@tuple a us _ ha ra=>exact⟨a,us,rfl,ha,by rw[<- ra.length];exact h.1,l1 σ H ρ U _ us _ _ S ra h.2 k⟩
 ·exact h.elim
noncomputable def Dp(to ti:DTE):DTG:=fun d ρ U Q=>to ρ U fun o am=>ti ρ am fun i bn=>match o,i,d with
 |.m l,.v (.int k),.v x=>(match bn l with
  |some xs=>(match ixN xs.length k with
   |some j=>Q ρ (aQ bn l (xs.set j x))
   |none=>False)
  |none=>False)
 |_,_,_=>False
theorem Fw{o i:Expr}{to ti:DTE}(ho:DE X o to)(hi:DE X i ti)
  (ha:∀v,assign (.Subscript o i pos) X.env v=(do
   let ov <- holding [v] (eval o X.env)
   let iv <- holding [v,ov] (eval i X.env)
   standAt pos
   holding [v,ov,iv] (setItem ov iv v)
   release [v,ov,iv] []):=by intro _;rfl):DG X (.Subscript o i pos) (Dp to ti):=by
 obtain⟨t1,p1,l1⟩:=ho
 obtain⟨t2,p2,l2⟩:=hi
 refine⟨_,PD p1 p2 set_list ha,fun σ H ρ U d u Qd Q S r h k=>?_⟩
 refine l1 σ H ρ U _ _ S h fun x ux am H1 e1 S1 rx h1=>?_
 refine l2 σ H1 ρ am _ _ S1 h1 fun y uy bn H2 e2 S2 ry h2=>?_
 have r2:=(r.ext S.mu e1).ext S1.mu e2
 have rx2:=rx.ext S1.mu e2
 split at h2
 ·rename_i l kk xv
  obtain⟨rfl,ds,hm⟩:=rx2
  cases ry
  rw[hm] at h2
  obtain⟨us,hl,rl⟩:=S2.mu l ds hm
  simp only at h2
  cases q:ixN ds.length kk with
  |none=>rw[q] at h2;exact h2.elim
  |some j=>
   rw[q] at h2
   refine⟨l,us,kk,j,rfl,rfl,hl,by rw[<- rl.length];exact q,?_⟩
   have ex:Ext X.K bn H2 (aQ bn l (ds.set j xv)) (upd H2 l (.lst (us.set j u))):=iY hm
   exact k σ ρ _ _ (e1.trans (e2.trans ex)) ⟨S2.mu.set hm (rl.set r2 j),S2.rho.ext S2.mu ex⟩ h2
 ·exact h2.elim
noncomputable def br(te:DTE)(g:DTG):DTS:=fun Dd ρ U=>te ρ U fun d am=>g d ρ am Dd.nx
theorem Dc{K:PySem.W.Frag}{t:TE}{g:TG}{gd:DTG}(l1:qy K t te)(l2:J8 K g gd):Ah K (Pa t g) (br te gd):=by
 intro σ H ρ U Dd De S h k1 k2 k3 k4
 refine l1 σ H ρ U _ _ S h fun d u am H1 e1 S1 r h1=>?_
 exact l2 σ H1 ρ am d u _ _ S1 r h1 fun a b c d e2=>k1 a b c d (e1.trans e2)
theorem en{tg:Expr}{g:DTG}(he:DE X e te)(hg:DG X tg g)(hs:swapsWithSole [tg] e pos.line X.env=pure false:=by rfl)(hw:swappedStores [tg] e X.env=pure none:=by rfl)
  (h1:(assignEach [tg] X.env).map (·.2)=[assign tg X.env]:=by rfl):DS X (.Assign [tg] e pos) (br te g):=by
 obtain⟨t1,p1,l1⟩:=he
 obtain⟨t2,p2,l2⟩:=hg
 exact⟨_,PM p1 p2 hs hw h1,Dc l1 l2⟩
theorem qv{i:Nat}{x:Str}{pos':Pos}(hN:X.N.Nodup)(hi:X.N[i]? = some x)(hx:Loc X.env.scope x)(he:DE X e te)(hs:swapsWith e (some (.Name x pos')) pos.line X.env=pure false:=by rfl)(hf:X.fn x=true\/X.env.scope.names.lookup x=some .local:=by first|exact .inl rfl|exact .inr rfl|assumption) :
  DS X (.Assign [.Name x pos'] e pos) (br te (ar i)):=by
 obtain⟨t1,p1,l1⟩:=he
 exact⟨_,O0 hN hi hx p1 hs hf,Dc l1 xA⟩
noncomputable def tZ(i j:Nat)(t:DTA):DTS:=fun Dd ρ U=>t ρ U fun ds am=>match ds with
 |[v,w]=>Dd.nx ((ρ.set i (some v)).set j (some w)) am
 |_=>False
theorem ju{i j:Nat}{x y:Str}{a b:Expr}{t:DTA}{px py pt:Pos}{kt k2 pt2}(hc:X.calm=true)(hN:X.N.Nodup)(hi:X.N[i]? = some x)(hj:X.N[j]? = some y)(hij:i≠j)
  (hx:X.env.scope.names.lookup x=some .local) (hy:X.env.scope.names.lookup y=some .local) (ha:DA X [a,b] t)
  (hw:swappedStores [.Tuple [.Name x px,.Name y py] kt pt] (.Tuple [a,b] k2 pt2) X.env=pure (some [x,y]))
  (hs:swapsWithSole [.Tuple [.Name x px,.Name y py] kt pt] (.Tuple [a,b] k2 pt2) pos.line X.env=pure false:=by rfl) :
  DS X (.Assign [.Tuple [.Name x px,.Name y py] kt pt] (.Tuple [a,b] k2 pt2) pos) (tZ i j t):=by
 obtain⟨t1,p1,l1⟩:=ha
 refine⟨_,P5 hc hN hi hj hij hx hy p1 hw hs,fun σ H ρ U Dd De S h k1 k2 k3 k4=>?_⟩
 refine l1 σ H ρ U _ _ S h fun ds us am H1 e1 S1 rs len h1=>?_
 split at h1
 ·cases rs with
  |cons r1 r2=>
   cases r2 with
   |cons r2 r3=>
    cases r3
    exact⟨_,_,rfl,k1 _ _ am H1 e1 ⟨S1.mu,(S1.rho.set r1).set r2⟩ h1⟩
 ·exact h1.elim
noncomputable def xm(c:DTT)(tb:DTS):DTS:=fun Dd ρ U=>∃W:Nat->Rho->Mu->Prop,(∃m,W m ρ U)/\∀m ρ U,W m ρ U ->
 c ρ U fun b am=>if b=true then tb {Dd with nx:=fun dL Z=>∃m',m'<m/\W m' dL Z,ct:=fun dL Z=>∃m',m'<m/\W m' dL Z,bk:=Dd.nx} ρ am else Dd.nx ρ am
theorem yw{c:Expr}{body:List Stmt}(hp:PassesOwn (model X.prog X.w) X.A X.env X.xe)(hc:DT X c tc)(hb:DSs X body td):DS X (.While c body [] pos) (xm tc td):=by
 obtain⟨t0,p0,l0⟩:=hc
 obtain⟨t1,p1,l1⟩:=hb
 refine⟨_,Kq hp p0 p1,fun σ H ρ U Dd De S h k1 k2 k3 k4=>?_⟩
 obtain⟨W,⟨m,w0⟩,turn⟩:=h
 refine⟨fun m db H'=>∃dL Z,Ext X.K U H Z H'/\St0 X.K H' dL Z db/\W m dL Z,⟨m,ρ,U,.refl,S,w0⟩,?_⟩
 rintro m ss H1 ⟨tj,am,e1,S1,w1⟩
 refine l0 ss H1 tj am _ _ S1 (turn m tj am w1) fun b bn H2 e2 S2 h2=>?_
 cases b with
 |true=>
  refine Fp ⟨fun db H'=>∃m',m'<m/\∃dL Z,Ext X.K U H Z H'/\St0 X.K H' dL Z db/\W m' dL Z,fun db H' ⟨m',hm,q⟩=>⟨m',hm,q⟩,?_⟩
  have nxt:∀db dL Z H',Ext X.K bn H2 Z H'->St0 X.K H' dL Z db->(∃m',m'<m/\W m' dL Z)->∃m',m'<m/\∃dL Z,Ext X.K U H Z H'/\St0 X.K H' dL Z db/\W m' dL Z:=
   fun db dL Z H' e3 S3 ⟨m',hm,q⟩=>⟨m',hm,dL,Z,e1.trans (e2.trans e3),S3,q⟩
  rw[if_pos rfl] at h2
  exact l1 ss H2 tj bn _ _ S2 h2 nxt (fun a b c d e3=>k2 a b c d (e1.trans (e2.trans e3))) (fun a b c d e3=>k1 a b c d (e1.trans (e2.trans e3))) nxt
 |false=>exact Fd (k1 ss tj bn H2 (e1.trans e2) S2 (by simpa using h2))
noncomputable abbrev DTI:=Rho->Mu->(List PyData->Mu->Prop)->Prop
noncomputable def Nf(K:PySem.W.Frag)(J:It)(xs:List PyData)(am:Mu)(H1:Hp):Prop:=∀bn H2,Ext K am H1 bn H2->bK K bn H2->∀i,(i<xs.length->J.go i H2/\∀x H',J.yld i H2 x H'->∃d,xs[i]? = some d/\Ar H2 H'/\Rp K bn H' d x)/\(i=xs.length->J.stop i H2)
noncomputable def RL(K:PySem.W.Frag)(wi:TI)(src:DTI):Prop:=∀(σ:St) (H:Hp) (ρ:Rho) (U:Mu) (Qd:List PyData->Mu->Prop) (R:It->Hp->Prop),St0 K H ρ U σ->src ρ U Qd ->
 (∀xs am H1 J,Ext K U H am H1->St0 K H1 ρ am σ->Nf K J xs am H1->Qd xs am->R J H1)->wi σ H R
noncomputable def DI(X:Cx)(tg iter:Expr)(src:DTI):Prop:=∃wi,PI X tg iter wi/\RL X.K wi src
variable {tg:Expr}
noncomputable def lu(te:DTE):DTI:=fun ρ U Q=>te ρ U fun d am=>match d with
 |.v (.list xs)=>Q xs am
 |_=>False
noncomputable def sJ(te:DTE):DTI:=fun ρ U Q=>te ρ U fun d am=>match d with
 |.v (.tuple xs)=>Q xs am
 |_=>False
theorem oZ(h:DE X e te):DI X tg e (lu te):=by
 obtain⟨t1,p1,l1⟩:=h
 refine⟨_,NO p1,fun σ H ρ U Qd R S h k=>?_⟩
 refine l1 σ H ρ U _ _ S h fun d u am H1 e1 S1 r h1=>?_
 split at h1
 ·rename_i xs
  cases r with
  |@list a us _ ha hn ra=>
   refine⟨a,rfl,⟨us,SqL.of ha⟩,k xs am H1 _ e1 S1 (fun bn H2 e2 ok2 i=>⟨fun hi=>?_,fun hi=>?_⟩) h1⟩
   ·have ha2:=e2.keep _ _ ha hn trivial
    have hiu:i<us.length:=by rw[<- ra.length];exact hi
    refine⟨⟨us,us[i],SqL.of ha2,by simp[hiu]⟩,fun x H' hq0=>?_⟩
    obtain⟨eH,hx⟩:=hq0
    subst eH
    obtain⟨u',h1',h2'⟩:=ra.get (i:=i) (d:=xs[i]) (by simp[hi])
    have:=hx us (SqL.of ha2)
    rw[h1'] at this
    cases this
    exact⟨xs[i],by simp[hi],Ar.refl _,h2'.ext S1.mu e2⟩
   ·exact⟨us,SqL.of (e2.keep _ _ ha hn trivial),by rw[<- ra.length];omega⟩
 ·exact h1.elim
theorem pZ(h:DE X e te):DI X tg e (sJ te):=by
 obtain⟨t1,p1,l1⟩:=h
 refine⟨_,QN p1,fun σ H ρ U Qd R S h k=>?_⟩
 refine l1 σ H ρ U _ _ S h fun d u am H1 e1 S1 r h1=>?_
 split at h1
 ·rename_i xs
  cases r with
  |@tuple a us _ ha ra=>
   refine⟨a,rfl,⟨us,ha⟩,k xs am H1 _ e1 S1 (fun bn H2 e2 ok2 i=>⟨fun hi=>?_,fun hi=>?_⟩) h1⟩
   ·have ha2:=mf S1.mu e2 ha
    have hiu:i<us.length:=by rw[<- ra.length];exact hi
    refine⟨⟨us,us[i],ha2,by simp[hiu]⟩,fun x H' hq0=>?_⟩
    obtain⟨eH,hx⟩:=hq0
    subst eH
    obtain⟨u',h1',h2'⟩:=ra.get (i:=i) (d:=xs[i]) (by simp[hi])
    have:=hx us ha2
    rw[h1'] at this
    cases this
    exact⟨xs[i],by simp[hi],Ar.refl _,h2'.ext S1.mu e2⟩
   ·exact⟨us,mf S1.mu e2 ha,by rw[<- ra.length];omega⟩
 ·exact h1.elim
noncomputable def lJ(lo:Int)(n:Nat):List PyData:=(List.range n).map fun (i:Nat)=>PyData.int (lo+(i:Int))
theorem Jc{K:PySem.W.Frag}{lo:Int}{n:Nat}{U:Mu}{H:Hp}:Nf K (Itr lo n) (lJ lo n) U H:=fun bn H2 e2 ok2 i=>by
 have hl:(lJ lo n).length=n:=by unfold lJ;simp
 refine⟨fun hi=>?_,fun hi=>?_⟩
 ·rw[hl] at hi
  refine⟨hi,fun x H' hq0=>?_⟩
  obtain⟨eH,hx⟩:=hq0
  subst eH hx
  exact⟨.int (lo+i),by unfold lJ;simp[hi],Ar.refl _,.int _⟩
 ·show n<=i
  omega
noncomputable def kz(t:DTA):DTI:=fun ρ U Q=>t ρ U fun ds am=>match ds with
 |[.v (.int j)]=>(-(2 ^ 62)<=j/\j<2 ^ 62)/\Q (lJ 0 j.toNat) am
 |_=>False
noncomputable def w5(t:DTA):DTI:=fun ρ U Q=>t ρ U fun ds am=>match ds with
 |[.v (.int i),.v (.int j)]=>(-(2 ^ 62)<=i/\i<2 ^ 62/\-(2 ^ 62)<=j/\j<2 ^ 62)/\Q (lJ i (j-i).toNat) am
 |_=>False
theorem lQ{a:Expr}{t:DTA}{p pos:Pos}(hg:Gl X "range")(hm:X.mg "range"=none)(ha:DA X [a] t)(hs:starEach [a] X.env=[(false,eval a X.env)]:=by rfl)(hc:X.calm=true:=by rfl):DI X tg (.Call (.Name "range" p) [a] [] pos) (kz t):=by
 obtain⟨t1,p1,l1⟩:=ha
 refine⟨_,Ir hc hg hm p1 hs,fun σ H ρ U Qd R S h k=>?_⟩
 refine l1 σ H ρ U _ _ S h fun ds us am H1 e1 S1 rs len h1=>?_
 split at h1
 ·rename_i j
  cases rs with
  |cons r1 r2=>cases r2;cases r1;exact⟨j,rfl,h1.1.1,h1.1.2,k _ am H1 _ e1 S1 Jc h1.2⟩
 ·exact h1.elim
theorem Cs{a b:Expr}{t:DTA}{p pos:Pos}(hg:Gl X "range")(hm:X.mg "range"=none)(ha:DA X [a,b] t)(hs:starEach [a,b] X.env=[(false,eval a X.env),(false,eval b X.env)]:=by rfl)(hs2:starEach [b] X.env=[(false,eval b X.env)]:=by rfl)(hc:X.calm=true:=by rfl):DI X tg (.Call (.Name "range" p) [a,b] [] pos) (w5 t):=by
 obtain⟨t1,p1,l1⟩:=ha
 refine⟨_,HN hc hg hm p1 hs hs2,fun σ H ρ U Qd R S h k=>?_⟩
 refine l1 σ H ρ U _ _ S h fun ds us am H1 e1 S1 rs len h1=>?_
 split at h1
 ·rename_i i j
  cases rs with
  |cons r1 r2=>
   cases r2 with
   |cons r2 r3=>cases r3;cases r1;cases r2;exact⟨i,j,rfl,h1.1,k _ am H1 _ e1 S1 Jc h1.2⟩
 ·exact h1.elim
noncomputable def yq(src:DTI)(g:DTG)(tb:DTS):DTS:=fun Dd ρ U=>src ρ U fun xs am=>∃Pv:Nat->Rho->Mu->Prop,Pv 0 ρ am /\
 (∀i x dL Z,xs[i]? = some x->Pv i dL Z->g (.v x) dL Z fun ii bn=>tb {Dd with nx:=Pv (i+1),ct:=Pv (i+1),bk:=Dd.nx} ii bn)/\(∀dL Z,Pv xs.length dL Z->Dd.nx dL Z)
theorem lG{iter:Expr}{body:List Stmt}{src:DTI}{g:DTG}(hp:PassesOwn (model X.prog X.w) X.A X.env X.xe)(hc:X.calm=true)(hi:DI X tg iter src)(hg:DG X tg g)(hb:DSs X body td)
  (hs:∀x,foldedSetIterable iter X.env x=pure x:=by intro _;rfl):DS X (.For tg iter body [] pos) (yq src g td):=by
 obtain⟨t0,p0,l0⟩:=hi
 obtain⟨t1,p1,l1⟩:=hg
 obtain⟨t2,p2,l2⟩:=hb
 refine⟨_,OF hp hc p0 p1 p2 hs,fun σ H ρ U Dd De S h k1 k2 k3 k4=>?_⟩
 refine l0 σ H ρ U _ _ S h fun xs am H1 J e1 S1 it h1=>?_
 obtain⟨Pv,pv0,turn,fin⟩:=h1
 refine⟨fun i m db H'=>m=xs.length-i/\i<=xs.length/\∃dL Z,Ext X.K am H1 Z H'/\St0 X.K H' dL Z db/\Pv i dL Z,⟨xs.length,by simp,zero_le _,ρ,am,.refl,S1,pv0⟩,?_⟩
 rintro i m db H' ⟨rfl,hi,dL,Z,e2,S2,pv⟩
 obtain⟨go,stop⟩:=it Z H' e2 S2.mu i
 by_cases hlt:i<xs.length
 ·obtain⟨g1,y1⟩:=go hlt
  refine .inr ⟨g1,fun wn H2=>∃ii bn,Ext X.K am H1 bn H2/\St0 X.K H2 ii bn wn/\Pv (i+1) ii bn,fun wn H2 q=>⟨xs.length-(i+1),∅,rfl,hlt,q⟩,fun x H2 yl=>?_⟩
  obtain⟨d,hd,sm,rd⟩:=y1 x H2 yl
  have e3:Ext X.K Z H' Z H2:=.of_same sm
  have S3:St0 X.K H2 dL Z db:=⟨S2.mu.MY e3 sm,S2.rho.ext S2.mu e3⟩
  refine l1 db H2 dL Z (.v d) x _ _ S3 rd (turn i d dL Z hd pv) fun Cl Ch im H4 e4 S4 h4=>?_
  have nxt:∀a b c dd,Ext X.K im H4 c dd->St0 X.K dd b c a->Pv (i+1) b c->∃ii bn,Ext X.K am H1 bn dd/\St0 X.K dd ii bn a/\Pv (i+1) ii bn:=fun a b c dd e5 S5 q=>⟨b,c,e2.trans (e3.trans (e4.trans e5)),S5,q⟩
  have ee:=e1.trans (e2.trans (e3.trans e4))
  exact l2 Cl H4 Ch im _ _ S4 h4 nxt (fun a b c d e5=>k2 a b c d (ee.trans e5)) (fun a b c d e5=>k1 a b c d (ee.trans e5)) nxt
 ·have ei:i=xs.length:=by omega
  subst ei
  exact .inl ⟨stop rfl,k1 db dL Z H' (e1.trans e2) S2 (fin dL Z pv)⟩
end
noncomputable abbrev DSp:=List D->Mu->DK->Prop
noncomputable def spD(K:PySem.W.Frag)(dsp:DSp):Sp:=fun vs H Q _=>∃(ds:List D) (U:Mu) (Qd:DK),bK K U H/\iW K U H ds vs/\dsp ds U Qd /\
 (∀d u Z H',Ext K U H Z H'->bK K Z H'->RpD K Z H' d u->Qd d Z->Q u H')
noncomputable def aS(N:List Str)(ds:List D):Rho:=ds.map some++List.replicate (N.length-ds.length) none
theorem iW.get{K:PySem.W.Frag}{U:Mu}{H:Hp}{ds:List D}{us:List V}:∀{i:Nat} {d:D},iW K U H ds us->ds[i]? = some d->∃u,us[i]? = some u/\RpD K U H d u
 |_,_,.nil,h=>by simp at h
 |0,_,.cons r _,h=>by simp at h;subst h;exact⟨_,rfl,r⟩
 |i+1,d,.cons _ t,h=>by
  obtain⟨u,h1,h2⟩:=iW.get (i:=i) (d:=d) t (by simpa using h)
  exact⟨u,by simpa using h1,h2⟩
theorem ug{K:PySem.W.Frag}{U:Mu}{H:Hp}{N:List Str}{ds:List D}{vs:List V}(r:iW K U H ds vs):j3 K U H (aS N ds) (start N vs):=by
 have hl:=r.length
 refine⟨by unfold aS start;simp[hl],fun i d e=>?_⟩
 unfold aS at e
 by_cases hi:i<ds.length
 ·rw[getElem?_append_left (by simpa using hi),getElem?_map] at e
  unfold start
  rw[getElem?_append_left (by simpa [hl] using hi),getElem?_map]
  cases q:ds[i]? with
  |none=>rw[q] at e;cases e
  |some d'=>
   rw[q] at e
   cases e
   obtain⟨u,h1,h2⟩:=r.get q
   exact⟨u,by rw[h1];rfl,h2⟩
 ·rw[getElem?_append_right (by simpa using hi),List.getElem?_replicate] at e
  split at e<;>cases e
section
variable {P:Program}{w:World}{K:PySem.W.Frag}{mg:Str->Option Value}{base:Heap}
theorem _root_.L2.Fun.okD{x qual:Str}{st:Stmt}{f:Addr}{fd:FuncData}{N ps:List Str}{k:Nat}{dsp:DSp}(F:Fun K x qual st f fd)(S:aJ N ps (az st))(len:∀ds U Q,dsp ds U Q->ds.length=ps.length)
  (hbody:∀(cdv:Value) (A:Around) (outer:List Env) (s:Shared) (H:Hp) (E:XK),fV k (A.deeper (envOfC qual (az st) s.heap.objs.size f cdv)) ->
   ∃td,DSs (kn CX0 P w K mg base N qual (az st) f cdv A outer s H E).nox (d6 st) td/\∀ds U Qd,dsp ds U Qd->td ‹Qd› (aS N ds) U):iy P w K mg base CX0 (k+1) f fd ps (spD K dsp):=by
 refine F.ok S (fun vs H Q E h=>?_) (fun cdv A outer s H vs Q E hr h=>?_)
 ·obtain⟨ds,U,Qd,_,r,h,_⟩:=h
  rw[<- r.length]
  exact len ds U Qd h
 ·obtain⟨ds,U,Qd,ok,r,h,fin⟩:=h
  obtain⟨td,⟨t,p,l⟩,rd⟩:=hbody cdv A outer s H E hr
  refine⟨t,p,?_⟩
  exact l (start N vs) H (aS N ds) U _ _ ⟨ok,ug r⟩ (rd ds U Qd h) (fun db dL Z H' e' S' q=>fin (.v .none) .non Z H' e' S'.mu Rp.none q) (fun d u Z H' e' ok' r' q=>fin d u Z H' e' ok' r' q) (fun _ _ _ _ _ _ q=>q) (fun _ _ _ _ _ _ q=>q)
end
section
variable {X:Cx}{e:Expr}{es:List Expr}{t:DTA}{p pos:Pos}{x:Str}{k:Nat}{f:Addr}{fd:FuncData}{ps:List Str}{dsp:DSp}
noncomputable def ax(dsp:DSp)(t:DTA):DTE:=fun ρ U Q=>t ρ U fun ds am=>dsp ds am Q
theorem My(F:iy X.prog X.w X.K X.mg X.base CX0 k f fd ps (spD X.K dsp))(hr:fV k X.A)(hg:Gl X x)(hm:X.mg x=some (.ref f))(hk:keepIn X.K (.ref f)=true)(hb:Binds X.K fd ps [])
  (ha:DA X (e::es) t) (hdb:(x==("__debug__":Str))=false:=by decide) (he:starEach (e::es) X.env=(false,eval e X.env)::starEach es X.env:=by rfl) (hpl:(backTo pos (starEach es X.env)).any (·.1)=false:=by rfl) :
  DE X (.Call (.Name x p) (e::es) [] pos) (ax dsp t):=by
 obtain⟨t1,p1,l1⟩:=ha
 refine⟨_,Hv F hr hg hm hk hb .nil R4 p1 hdb he hpl,fun σ H ρ U Qd Q S h kk=>?_⟩
 refine l1 σ H ρ U _ _ S h fun ds us am H1 e1 S1 rs len h1=>?_
 refine⟨ds,am,Qd,S1.mu,by rw[append_nil];exact rs,h1,fun d u Z H' e2 ok r q=>?_⟩
 exact kk d u Z H' (e1.trans e2) ⟨ok,S1.rho.ext S1.mu e2⟩ r q
end
section
variable {X:Cx}{o e:Expr}{to te:DTE}{apos cpos:Pos}
noncomputable def QL(to te:DTE):DTE:=fun ρ U Q=>to ρ U fun x am=>match x with
 |.m l=>te ρ am fun y bn=>(match y,bn l with
  |.v d,some xs=>xs.length<1000/\Q (.v .none) (aQ bn l (xs++[d]))
  |_,_=>False)
 |_=>False
theorem HS(ho:DE X o to)(ha:DE X e te)(hbase:attributeBase o "append" X.env (eval o X.env)=eval o X.env:=by rfl)
  (hfew:((backTo cpos (starEach [e] X.env)).all (fun x=>!x.1)&&(backToKw cpos (keywordEach [] X.env)).all (fun x=>x.1.isSome)
   && decide ([e].length+([]:List Keyword).length+(if ([]:List Keyword).isEmpty then 0 else 1)<30))=true:=by rfl)
  (hline:(apos.endLine==cpos.line)=true:=by rfl) (hs:starEach [e] X.env=(false,eval e X.env)::starEach [] X.env:=by rfl) (hplain:(backTo cpos (starEach [] X.env)).any (·.1)=false:=by rfl) :
  DE X (.Call (.Attribute o "append" apos) [e] [] cpos) (QL to te):=by
 obtain⟨t1,p1,l1⟩:=ho
 obtain⟨t2,p2,l2⟩:=ha
 refine⟨_,F8 plainAttrs_list PySem.F.slot_list_append PySem.F.type_list_append tH p1 (eO p2 lN hs) hbase hfew hline hs hplain,fun σ H ρ U Qd Q S h k=>?_⟩
 refine l1 σ H ρ U _ _ S h fun x ux am H1 e1 S1 rx h1=>?_
 cases x with
 |m l=>
  obtain⟨rfl,ds,hm⟩:=id rx
  obtain⟨us,hl,rl⟩:=S1.mu l ds hm
  refine⟨.inl ⟨rfl,us,SqL.of hl⟩,?_⟩
  refine l2 σ H1 ρ am _ _ S1 h1 fun y uy bn H2 e2 S2 ry h2=>?_
  obtain⟨_,ds2,hm2⟩:=rx.ext S1.mu e2
  obtain⟨us2,hl2,rl2⟩:=S2.mu l ds2 hm2
  rw[hm2] at h2
  cases y with
  |v d=>
   have h3:ds2.length<1000/\Qd (.v .none) (aQ bn l (ds2++[d])):=h2
   refine⟨l,us2,uy,rfl,rfl,hl2,by rw[<- rl2.length];exact fS (Nat.le_of_lt h3.1),?_⟩
   have ex:Ext X.K bn H2 (aQ bn l (ds2++[d])) (upd H2 l (.lst (us2++[uy]))):=iY hm2
   exact k (.v .none) .non _ _ (e1.trans (e2.trans ex)) ⟨S2.mu.set hm2 (rl2.append (.cons ry .nil)),S2.rho.ext S2.mu ex⟩ Rp.none h3.2
  |m _=>exact h2.elim
  |s _=>exact h2.elim
  |o _=>exact h2.elim
  |b _=>exact h2.elim
  |q _=>exact h2.elim
 |v d=>exact h1.elim
 |s ns=>exact h1.elim
 |o _=>exact h1.elim
 |b _=>exact h1.elim
 |q _=>exact h1.elim
noncomputable def NI(to te:DTE):DTE:=fun ρ U Q=>to ρ U fun x am=>match x with
 |.m l=>te ρ am fun y bn=>(match y,bn l with
  |.v (.list ys),some xs=>xs.length+ys.length<=1000/\Q (.v .none) (aQ bn l (xs++ys))
  |_,_=>False)
 |_=>False
theorem zQ(ho:DE X o to)(ha:DE X e te)(hbase:attributeBase o "extend" X.env (eval o X.env)=eval o X.env:=by rfl)
  (hfew:((backTo cpos (starEach [e] X.env)).all (fun x=>!x.1)&&(backToKw cpos (keywordEach [] X.env)).all (fun x=>x.1.isSome)
   && decide ([e].length+([]:List Keyword).length+(if ([]:List Keyword).isEmpty then 0 else 1)<30))=true:=by rfl)
  (hline:(apos.endLine==cpos.line)=true:=by rfl) (hs:starEach [e] X.env=(false,eval e X.env)::starEach [] X.env:=by rfl) (hplain:(backTo cpos (starEach [] X.env)).any (·.1)=false:=by rfl) :
  DE X (.Call (.Attribute o "extend" apos) [e] [] cpos) (NI to te):=by
 obtain⟨t1,p1,l1⟩:=ho
 obtain⟨t2,p2,l2⟩:=ha
 refine⟨_,F8 plainAttrs_list PySem.F.slot_list_extend PySem.F.type_list_extend IB p1 (eO p2 lN hs) hbase hfew hline hs hplain,fun σ H ρ U Qd Q S h k=>?_⟩
 refine l1 σ H ρ U _ _ S h fun x ux am H1 e1 S1 rx h1=>?_
 cases x with
 |m l=>
  obtain⟨rfl,ds,hm⟩:=id rx
  obtain⟨us,hl,rl⟩:=S1.mu l ds hm
  refine⟨.inl ⟨rfl,us,SqL.of hl⟩,?_⟩
  refine l2 σ H1 ρ am _ _ S1 h1 fun y uy bn H2 e2 S2 ry h2=>?_
  obtain⟨_,ds2,hm2⟩:=rx.ext S1.mu e2
  obtain⟨us2,hl2,rl2⟩:=S2.mu l ds2 hm2
  rw[hm2] at h2
  cases y with
  |v d=>
   cases d with
   |list ys=>
    have h3:ds2.length+ys.length<=1000/\Qd (.v .none) (aQ bn l (ds2++ys)):=h2
    cases ry with
    |@list b ws _ hb hn rb=>
     refine⟨l,b,us2,ws,rfl,rfl,hl2,hb,An (by rw[<- rl2.length,<- rb.length];exact h3.1),?_⟩
     have ex:Ext X.K bn H2 (aQ bn l (ds2++ys)) (upd H2 l (.lst (us2++ws))):=iY hm2
     exact k (.v .none) .non _ _ (e1.trans (e2.trans ex)) ⟨S2.mu.set hm2 (rl2.append rb),S2.rho.ext S2.mu ex⟩ Rp.none h3.2
   |_=>exact h2.elim
  |m _=>exact h2.elim
  |s _=>exact h2.elim
  |o _=>exact h2.elim
  |b _=>exact h2.elim
  |q _=>exact h2.elim
 |v d=>exact h1.elim
 |s ns=>exact h1.elim
 |o _=>exact h1.elim
 |b _=>exact h1.elim
 |q _=>exact h1.elim
end
section
variable {K:PySem.W.Frag}{U Z:Mu}{H:Hp}
mutual
theorem Rp.shrink{d:PyData}{u:V}(sub:∀a,Z a=none->U a=none):Rp K Z H d u->Rp K U H d u
 |.none=>.none
 |.bool b=>.bool b
 |.int i=>.int i
 |.str x=>.str x
 |.list h n r=>.list h (sub _ n) (RpL.shrink sub r)
 |.tuple h r=>.tuple h (RpL.shrink sub r)
theorem RpL.shrink{ds:List PyData}{us:List V}(sub:∀a,Z a=none->U a=none):RpL K Z H ds us->RpL K U H ds us
 |.nil=>.nil
 |.cons h r=>.cons (Rp.shrink sub h) (RpL.shrink sub r)
end
theorem iE.shrink{c:Box}{o:Obj}(sub:∀a,Z a=none->U a=none)(r:iE K Z H c o):iE K U H c o:=by
 cases c with
 |dict kvs=>
  obtain⟨h1,h2,es,ep,xs,h3,h4,h5,h6⟩:=r
  exact⟨h1,h2,es,ep,xs,h3,h4,h5,Paired.LS h6 fun p q ⟨z1,z2,v,z3,z4⟩=>⟨z1,z2,v,Rp.shrink sub z3,z4⟩⟩
 |set ks=>exact r
end
theorem Od{X:Cx}{e:Expr}{td:DTE}(h:∀(pins:List (Addr×Obj)) (s:Shared) (σ:St) (H:Hp) (ρ:Rho) (U:Mu) (Qd:DK) (Q:VK),Inv X pins σ H s->St0 X.K H ρ U σ->td ρ U Qd ->
  (∀d u Z H',Ext X.K U H Z H'->St0 X.K H' ρ Z σ->RpD X.K Z H' d u->Qd d Z->Q u H')->wpAny (model X.prog X.w) X.A (eval e X.env) (EP X pins σ Q) X.xe s):DE X e td:=
 ⟨fun σ H Q=>∃ρ U Qd,St0 X.K H ρ U σ/\td ρ U Qd/\(∀d u Z H',Ext X.K U H Z H'->St0 X.K H' ρ Z σ->RpD X.K Z H' d u->Qd d Z->Q u H'),
  fun pins s σ H Q I ⟨ρ,U,Qd,S,q,k⟩=>h pins s σ H ρ U Qd Q I S q k,fun σ H ρ U Qd Q S q k=>⟨ρ,U,Qd,S,q,k⟩⟩
noncomputable def aK(X:Cx)(N':List Str)(scope:Scope)(cl:List (Str×Addr))(fp:List Addr)(bv:Shared)(ce:Hp):Cx:=
 {X with N:=N',io:=bv,H₀:=ce,env:=compEnvC scope cl bv.heap.objs.size X.env,outer:=X.stack,stack:=X.stack,ex:=fp,fn:=fun _=>false,pn:=X.pn,xe:=fun _ _=>False}
noncomputable def Le:Rho->Rho->Prop
 |[],[]=>True
 |none::r,_::r'=>Le r r'
 |some d::r,some d'::r'=>d=d'/\Le r r'
 |_,_=>False
theorem Le.get:∀{ρ dL:Rho},Le ρ dL->ρ.length=dL.length/\∀(i:Nat) d,ρ[i]? = some (some d)->dL[i]? = some (some d)
 |[],[],_=>⟨rfl,fun _ _ h=>h⟩
 |none::r,x::r',h=>by
  obtain⟨h1,h2⟩:=Le.get (ρ:=r) (dL:=r') h
  refine⟨congrArg (· + 1) h1,fun i d e=>?_⟩
  cases i with
  |zero=>simp at e
  |succ j=>exact h2 j d (by simpa using e)
 |some d::r,some d'::r',h=>by
  obtain⟨rfl,h⟩:=h
  obtain⟨h1,h2⟩:=Le.get (ρ:=r) (dL:=r') h
  refine⟨congrArg (· + 1) h1,fun i d e=>?_⟩
  cases i with
  |zero=>simpa using e
  |succ j=>exact h2 j d (by simpa using e)
 |some d::r,none::r',h=>h.elim
 |[],_::_,h=>h.elim
 |none::_,[],h=>h.elim
 |some _::_,[],h=>h.elim
noncomputable def cg{α:Type}(cap:List (Option Nat))(ρ:List (Option α)):List (Option α):=cap.map fun o=>o.bind fun j=>(ρ[j]?).join
noncomputable def Ad(cap:List (Option Nat))(src:DTI)(g:DTG)(c:DTT)(elt:DTE):DTE:=fun ρ U Q=>src ρ U fun xs am=>xs.length<=1000/\∃f:PyData->Option PyData,
 (∀x∈xs,∀Z:Mu,(∀a ds,am a=some ds->Z a=some ds)->g (.v x) (cg cap ρ) Z fun ii bn=>Le (cg cap ρ) ii/\c ii bn fun b dl=>
  if b=true then elt ii dl fun d im=>im=Z/\(match d with|.v y=>f x=some y|_=>False) else dl=Z/\f x=none)/\Q (.v (.list (xs.filterMap f))) am
noncomputable def ua(X:Cx)(ifs:List Expr)(c:DTT):Prop:=∀(pins:List (Addr×Obj)) (s:Shared) (σ:St) (H:Hp) (ρ:Rho) (U:Mu) (Qd:Bool->Mu->Prop) (Q:Bool->Hp->Prop),Inv X pins σ H s->St0 X.K H ρ U σ->c ρ U Qd ->
 (∀b Z H',Ext X.K U H Z H'->St0 X.K H' ρ Z σ->Qd b Z->Q b H') ->
 wpAny (model X.prog X.w) X.A (forIn ifs true fun c r=>if r=true then do let ok <- isTrue c X.env (eval c X.env);pure (ForInStep.yield ok) else pure (ForInStep.yield r)) (TP X pins σ Q) X.xe s
noncomputable def kP:DTT:=fun _ U Q=>Q true U
theorem fk{X:Cx}:ua X [] kP:=fun pins s σ H ρ U Qd Q I S h k=>wpAny_tests_nil ⟨H,I,k true U H .refl S h⟩
theorem Dx{X:Cx}{c:Expr}{tc:DTT}(h:DT X c tc):ua X [c] tc:=by
 obtain⟨t,p,l⟩:=h
 exact fun pins s σ H ρ U Qd Q I S h k=>wpAny_tests_one (p pins s σ H _ I (l σ H ρ U _ _ S h k))
theorem Un.after{fs ex:List Addr}{H H1:Hp}{h h1 h':Heap}(u:Un fs ex H H1 h h1)(k:∀b o,b<h.objs.size->h1.get? b=some o->h'.get? b=some o):Un fs ex H H1 h h':=
 ⟨fun b o e n hb hx=>k b o (Heap.lt_size e) (u.keep b o e n hb hx),fun b o e n hb hx=>let ⟨sl,q⟩:=u.slot b o e n hb hx;⟨sl,k b _ (Heap.lt_size e) q⟩,u.free,fun b o e hx=>let ⟨o',q⟩:=u.there b o e hx;⟨o',k b _ (Heap.lt_size e) q⟩,u.qp,u.o8,u.o7⟩
theorem yA{α:Type}{cap:List (Option Nat)}{ρ:List (Option α)}{i:Nat}{d:α}(h:(cg cap ρ)[i]? = some (some d)):∃j,cap[i]? = some (some j)/\ρ[j]? = some (some d):=by
 unfold cg at h
 rw[getElem?_map] at h
 cases q:cap[i]? with
 |none=>rw[q] at h;cases h
 |some o=>
  rw[q] at h
  cases o with
  |none=>cases h
  |some j=>
   refine⟨j,rfl,?_⟩
   simp only[map_some,bind_some,Option.some.injEq] at h
   cases z:ρ[j]? with
   |none=>rw[z] at h;cases h
   |some y=>rw[z] at h;simp only[join_some] at h;rw[h]
theorem LQ{α:Type}{cap:List (Option Nat)}{ρ:List (Option α)}{i j:Nat}{d:α}(h:cap[i]? = some (some j))(e:ρ[j]? = some (some d)):(cg cap ρ)[i]? = some (some d):=by
 unfold cg
 rw[getElem?_map,h]
 simp[e]
theorem j3.cap{K:PySem.W.Frag}{U:Mu}{H:Hp}{ρ:Rho}{σ:St}{cap:List (Option Nat)}(r:j3 K U H ρ σ):j3 K U H (cg cap ρ) (cg cap σ):=by
 refine⟨by unfold cg;simp,fun i d e=>?_⟩
 obtain⟨j,h1,h2⟩:=yA e
 obtain⟨u,h3,h4⟩:=r.2 j d h2
 exact⟨u,LQ h1 h3,h4⟩
theorem j3.le{K:PySem.W.Frag}{U:Mu}{H:Hp}{ρ dL:Rho}{σ:St}(r:j3 K U H dL σ)(l:Le ρ dL):j3 K U H ρ σ:=
 ⟨l.get.1.trans r.1,fun i d e=>r.2 i d (l.get.2 i d e)⟩
theorem HA{xs:List PyData}{f:PyData->Option PyData}{i:Nat}{d:PyData}(h:xs[i]? = some d):(xs.take (i+1)).filterMap f=(xs.take i).filterMap f++(f d).toList:=by
 obtain⟨hi,e⟩:=List.getElem?_eq_some_iff.mp h
 rw[List.take_succ_eq_append_getElem hi,List.filterMap_append,e]
 cases q:f d<;>simp[q]
theorem wz{α:Type}{x:α}{xs:List α}:atI (x::xs) 0=some x:=by unfold atI ixN;simp
theorem yd{α:Type}{x y:α}{xs:List α}:atI (x::y::xs) 1=some y:=by
 have h:=qB (xs:=x::y::xs) (j:=1) (v:=y) rfl
 exact h
theorem Ag{α:Type}{x y z:α}{xs:List α}:atI (x::y::z::xs) 2=some z:=by
 have h:=qB (xs:=x::y::z::xs) (j:=2) (v:=z) rfl
 exact h
theorem DD{α:Type}{x y z u:α}{xs:List α}:atI (x::y::z::u::xs) 3=some u:=by
 have h:=qB (xs:=x::y::z::u::xs) (j:=3) (v:=u) rfl
 exact h
noncomputable def eG:D->D->Mu->DK->Prop:=fun x y U Q=>match x,y with
 |.v (.int i),.v (.int j)=>Q (.v (.int (i+j))) U
 |.v (.tuple xs),.v (.tuple ys)=>xs.length+ys.length<=1000/\Q (.v (.tuple (xs++ys))) U
 |_,_=>G0 x y U Q
theorem OH{K:PySem.W.Frag}:iO K (fun x y H Q=>(rI0 fun i j=>.int (i+j)) x y H Q\/((EW K) x y H Q\/Ow x y H Q)) eG:=by
 intro x y ux uy H U Qd Q ok rx ry h k
 unfold eG at h
 split at h
 ·exact .inl (Hm (K:=K) (gd:=fun i j=>.int (i+j)) (fun _ _ _ _=>.int _) _ _ ux uy H U Qd Q ok rx ry h k)
 ·exact .inr (.inl (MB _ _ ux uy H U Qd Q ok rx ry h k))
 ·exact .inr (.inr (Qr _ _ ux uy H U Qd Q ok rx ry h k))
theorem cM{X:Cx}{a b:Expr}{ta tb:DTE}{pos:Pos}(ha:DE X a ta)(hb:DE X b tb):DE X (.BinOp a .Add b pos) (dOp eG ta tb):=yt (Kh.or (Jt.or Qy)) OH ha hb
section
variable {ρ:Rho}{U:Mu}{Q:DK}{QT:Bool->Mu->Prop}{QA:List D->Mu->Prop}{QG:Rho->Mu->Prop}{QI:List PyData->Mu->Prop}{QO:Option Int->Mu->Prop}{Dd:Cv}{ta tb tc:DTE}{t u:DTT}{tA:DTA}{s1 s2:DTS}{i j:Int}{x y:PyData}{xs ys:List PyData}{d e:D}
noncomputable def Ci:DTS:=fun _ _ _=>False
theorem CC{X:Cx}{st:Stmt}:DS X st Ci:=⟨fun _ _ _=>False,fun _ _ _ _ _ _ h=>h.elim,fun _ _ _ _ _ _ _ h=>h.elim⟩
theorem xq{o:Rho}:ai 0 (some d::o) U Q=Q d U:=propext Iff.rfl
theorem yo{a}{o:Rho}:ai 1 (a::some d::o) U Q=Q d U:=propext Iff.rfl
theorem A0{a b}{o:Rho}:ai 2 (a::b::some d::o) U Q=Q d U:=propext Iff.rfl
theorem tK{a b c}{o:Rho}:ai 3 (a::b::c::some d::o) U Q=Q d U:=propext Iff.rfl
theorem xK{a b c f}{o:Rho}:ai 4 (a::b::c::f::some d::o) U Q=Q d U:=propext Iff.rfl
theorem B6{a b c f g}{o:Rho}:ai 5 (a::b::c::f::g::some d::o) U Q=Q d U:=propext Iff.rfl
theorem we{a b c f g h}{o:Rho}:ai 6 (a::b::c::f::g::h::some d::o) U Q=Q d U:=propext Iff.rfl
theorem BR{a b c f g h k}{o:Rho}:ai 7 (a::b::c::f::g::h::k::some d::o) U Q=Q d U:=propext Iff.rfl
theorem Bj{a b c f g h k l}{o:Rho}:ai 8 (a::b::c::f::g::h::k::l::some d::o) U Q=Q d U:=propext Iff.rfl
theorem AD{a b c f g h k l m}{o:Rho}:ai 9 (a::b::c::f::g::h::k::l::m::some d::o) U Q=Q d U:=propext Iff.rfl
theorem vY{a b c f g h k l m n}{o:Rho}:ai 10 (a::b::c::f::g::h::k::l::m::n::some d::o) U Q=Q d U:=propext Iff.rfl
theorem q_c:dC x ρ U Q=Q (.v x) U:=propext Iff.rfl
theorem Qo{r}:dOp r ta tb ρ U Q=ta ρ U fun x am=>tb ρ am fun y bn=>r x y bn Q:=propext Iff.rfl
theorem q_B:dB ta ρ U QT=ta ρ U fun d am=>match d with|.v (.bool k)=>QT k am|_=>False:=propext Iff.rfl
theorem NK{C:Int->Int->Prop}{g:Int->Int->PyData}:rII C g (.v (.int i)) (.v (.int j)) U Q=(C i j/\Q (.v (g i j)) U):=propext Iff.rfl
theorem GZ{g:Int->Int->PyData}:zi g (.v (.int i)) (.v (.int j)) U Q=Q (.v (g i j)) U:=propext Iff.rfl
theorem GY:zg ta ρ U Q=ta ρ U fun x am=>match x with|.v (.int i)=>Q (.v (.int (-i))) am|_=>False:=propext Iff.rfl
theorem EF:zl t u ρ U QT=t ρ U fun c am=>if c=true then u ρ am QT else QT false am:=propext Iff.rfl
theorem N1:kU t u ρ U QT=t ρ U fun c am=>if c=true then QT true am else u ρ am QT:=propext Iff.rfl
theorem AG:eo t ρ U QT=t ρ U fun c am=>QT (!c) am:=propext Iff.rfl
theorem J4:mI ta tb ρ U Q=ta ρ U fun x am=>match x with|.v (.bool c)=>if c=true then tb ρ am Q else Q (.v (.bool false)) am|_=>False:=propext Iff.rfl
theorem Bq:Km ta ρ U Q=ta ρ U fun x am=>match x with|.v (.bool c)=>Q (.v (.bool (!c))) am|_=>False:=propext Iff.rfl
theorem Q3:dIf t ta tb ρ U Q=t ρ U fun c am=>if c=true then ta ρ am Q else tb ρ am Q:=propext Iff.rfl
theorem yv:au ρ U QA=QA [] U:=propext Iff.rfl
theorem qw:ah ta tA ρ U QA=ta ρ U fun x am=>tA ρ am fun xs bn=>QA (x::xs) bn:=propext Iff.rfl
theorem Em:bF tA ρ U Q=tA ρ U fun ds am=>match de ds with|some xs=>Q (.v (.tuple xs)) am|none=>False:=propext Iff.rfl
theorem C5:jy tA ρ U Q=tA ρ U fun ds am=>match de ds with|some xs=>Q (.v (.list xs)) am|none=>False:=propext Iff.rfl
theorem AL:Ae tA ρ U Q=tA ρ U fun ds am=>match de ds with|some xs=>∀p,am p=none->Q (.m p) (aQ am p xs)|none=>False:=propext Iff.rfl
theorem D1:de []=some []:=by rw[de]
theorem Ea{r:List D}:de (.v x::r)=(de r).map (x::·):=by rw[de]
theorem Oc{neg:Bool}:dP neg (.v x) (.v y) U Q=(SeqAt.shaped x=true/\SeqAt.shaped y=true/\Q (.v (.bool (neg ^^ PyData.eqv x y))) U):=propext Iff.rfl
theorem Dl{neg:Bool}:dP neg (.v (.int i)) (.v (.int j)) U Q=Q (.v (.bool (neg ^^ decide (i=j)))) U:=by
 have e:PyData.eqv (.int i) (.int j)=decide (i=j):=by simp[PyData.eqv];rfl
 rw[Oc,e]
 exact propext ⟨fun h=>h.2.2,fun h=>⟨rfl,rfl,h⟩⟩
theorem G8{neg:Bool}:dP neg (.v (.list xs)) (.v (.list ys)) U Q=(SeqAt.shaped (.list xs)=true/\SeqAt.shaped (.list ys)=true/\Q (.v (.bool (neg ^^ PyData.eqv (.list xs) (.list ys)))) U):=propext Iff.rfl
theorem Ha{neg:Bool}:MS neg (.v x) (.v (.list ys)) U Q=(PyData.canLayAll0 ys=true/\x.canLay0=true/\PyData.depth x<=60/\Q (.v (.bool (neg ^^ ys.any fun b=>PyData.eqv b x))) U):=propext Iff.rfl
theorem xE:aN (.v (.list xs)) (.v (.int i)) U Q=(match atI xs i with|some d=>Q (.v d) U|none=>False):=propext Iff.rfl
theorem uO:aN (.v (.tuple xs)) (.v (.int i)) U Q=(match atI xs i with|some d=>Q (.v d) U|none=>False):=propext Iff.rfl
theorem Hx{l:Addr}:aN (.m l) (.v (.int i)) U Q=(match U l with|some xs=>(match atI xs i with|some d=>Q (.v d) U|none=>False)|none=>False):=propext Iff.rfl
theorem Gi{ns:List Int}:aN (.s ns) (.v (.int i)) U Q=(match atI ns i with|some d=>Q (.v (.int d)) U|none=>False):=propext Iff.rfl
theorem xh:aN (.v (.list (x::xs))) (.v (.int 0)) U Q=Q (.v x) U:=by rw[xE,wz]
theorem wc:aN (.v (.tuple (x::xs))) (.v (.int 0)) U Q=Q (.v x) U:=by rw[uO,wz]
theorem Bp{z}:aN (.v (.list (z::x::xs))) (.v (.int 1)) U Q=Q (.v x) U:=by rw[xE,yd]
theorem xb{z}:aN (.v (.tuple (z::x::xs))) (.v (.int 1)) U Q=Q (.v x) U:=by rw[uO,yd]
theorem Bz{z w}:aN (.v (.list (z::w::x::xs))) (.v (.int 2)) U Q=Q (.v x) U:=by rw[xE,Ag]
theorem wQ{z w}:aN (.v (.tuple (z::w::x::xs))) (.v (.int 2)) U Q=Q (.v x) U:=by rw[uO,Ag]
theorem Ba{z w v}:aN (.v (.tuple (z::w::v::x::xs))) (.v (.int 3)) U Q=Q (.v x) U:=by rw[uO,DD]
theorem Hz:G0 d e U Q=(match pH U d,pH U e with|some xs,some ys=>xs.length+ys.length<=1000/\Q (.v (.list (xs++ys))) U|_,_=>False):=propext Iff.rfl
theorem AM:eG (.v (.int i)) (.v (.int j)) U Q=Q (.v (.int (i+j))) U:=propext Iff.rfl
theorem Bn:eG (.v (.tuple xs)) (.v (.tuple ys)) U Q=(xs.length+ys.length<=1000/\Q (.v (.tuple (xs++ys))) U):=propext Iff.rfl
theorem LY{tl th:DTO}:dSl ta tl th ρ U Q=ta ρ U fun x am=>tl ρ am fun l bn=>th ρ bn fun u dl=>Mh x l u dl Q:=propext Iff.rfl
theorem qQ:dZ ρ U QO=QO none U:=propext Iff.rfl
theorem Cg:jV ta ρ U QO=ta ρ U fun x am=>match x with|.v (.int i)=>QO (some i) am|_=>False:=propext Iff.rfl
theorem Hq{lo hi:Option Int}:Mh (.v (.tuple xs)) lo hi U Q=Q (.v (.tuple (nX xs lo hi))) U:=propext Iff.rfl
theorem Ou{rd}:dCB rd tA ρ U Q=tA ρ U fun ds am=>rd ds am Q:=propext Iff.rfl
theorem yp:dq [.v (.list ys)] U Q=Q (.v (.int (ys.length:Nat))) U:=propext Iff.rfl
theorem B3:dq [.v (.tuple ys)] U Q=Q (.v (.int (ys.length:Nat))) U:=propext Iff.rfl
theorem Cc{ns:List Int}:dq [.s ns] U Q=Q (.v (.int (ns.length:Nat))) U:=propext Iff.rfl
theorem BZ{l:Addr}:dq [.m l] U Q=(match U l with|some ys=>Q (.v (.int (ys.length:Nat))) U|none=>False):=propext Iff.rfl
theorem Gw:qI [.v (.int i)] U Q=Q (.v (.int (i.natAbs:Nat))) U:=propext Iff.rfl
theorem AB{k:Bool}:sM [.v (.bool k)] U Q=Q (.v (.int (if k then 1 else 0))) U:=propext Iff.rfl
theorem vK:wH [.v (.tuple ys)] U Q=Q (.v (.list ys)) U:=propext Iff.rfl
theorem Gh:zv [.v (.list ys)] U Q=(match cT ys with|some bs=>Q (.v (.bool (bs.all id))) U|none=>False):=propext Iff.rfl
theorem Gy{T:String}:xx T ta ρ U Q=ta ρ U fun x am=>match x with|.v d=>Q (.v (.bool (isT T d))) am|_=>False:=propext Iff.rfl
theorem oS{n:Nat}:ar n d ρ U QG=QG (ρ.set n (some d)) U:=propext Iff.rfl
theorem BS:dO [] ρ U QG=QG ρ U:=propext Iff.rfl
theorem vZ{g:DTG}{gs:yW}:aG g gs (x::xs) ρ U QG=g (.v x) ρ U fun tj am=>gs xs tj am QG:=propext Iff.rfl
theorem BO{n:Nat}{gs:yW}:dD n gs (.v (.tuple xs)) ρ U QG=(xs.length=n/\gs xs ρ U QG):=propext Iff.rfl
theorem B5:Dp ta tb d ρ U QG=ta ρ U fun o am=>tb ρ am fun i bn=>match o,i,d with
 |.m l,.v (.int k),.v x=>(match bn l with
  |some xs=>(match ixN xs.length k with
   |some j=>QG ρ (aQ bn l (xs.set j x))
   |none=>False)
  |none=>False)
 |_,_,_=>False:=propext Iff.rfl
theorem JY{g:DTG}:br ta g Dd ρ U=ta ρ U fun d am=>g d ρ am Dd.nx:=propext Iff.rfl
theorem He{i j:Nat}:tZ i j tA Dd ρ U=tA ρ U fun ds am=>match ds with|[v,w]=>Dd.nx ((ρ.set i (some v)).set j (some w)) am|_=>False:=propext Iff.rfl
theorem Bs:bV Dd ρ U=Dd.nx ρ U:=propext Iff.rfl
theorem wR:aP s1 s2 Dd ρ U=s1 {Dd with nx:=s2 Dd} ρ U:=propext Iff.rfl
theorem Ds:bI ta Dd ρ U=ta ρ U Dd.rt:=propext Iff.rfl
theorem BU:uB ta Dd ρ U=ta ρ U fun _ am=>Dd.nx ρ am:=propext Iff.rfl
theorem KN:dA t s1 s2 Dd ρ U=t ρ U fun b am=>if b=true then s1 Dd ρ am else s2 Dd ρ am:=propext Iff.rfl
theorem vR:Ci Dd ρ U=False:=propext Iff.rfl
theorem Fm{dsp:DSp}:ax dsp tA ρ U Q=tA ρ U fun ds am=>dsp ds am Q:=propext Iff.rfl
theorem F7:QL ta tb ρ U Q=ta ρ U fun x am=>match x with
 |.m l=>tb ρ am fun y bn=>(match y,bn l with
  |.v d,some xs=>xs.length<1000/\Q (.v .none) (aQ bn l (xs++[d]))
  |_,_=>False)
 |_=>False:=propext Iff.rfl
theorem F9:NI ta tb ρ U Q=ta ρ U fun x am=>match x with
 |.m l=>tb ρ am fun y bn=>(match y,bn l with
  |.v (.list ys),some xs=>xs.length+ys.length<=1000/\Q (.v .none) (aQ bn l (xs++ys))
  |_,_=>False)
 |_=>False:=propext Iff.rfl
theorem AI:kP ρ U QT=QT true U:=propext Iff.rfl
theorem sQ:lu ta ρ U QI=ta ρ U fun d am=>match d with|.v (.list xs)=>QI xs am|_=>False:=propext Iff.rfl
theorem vX:sJ ta ρ U QI=ta ρ U fun d am=>match d with|.v (.tuple xs)=>QI xs am|_=>False:=propext Iff.rfl
theorem qM:kz tA ρ U QI=tA ρ U fun ds am=>match ds with|[.v (.int j)]=>(-(2 ^ 62)<=j/\j<2 ^ 62)/\QI (lJ 0 j.toNat) am|_=>False:=propext Iff.rfl
theorem sF:w5 tA ρ U QI=tA ρ U fun ds am=>match ds with|[.v (.int i),.v (.int j)]=>(-(2 ^ 62)<=i/\i<2 ^ 62/\-(2 ^ 62)<=j/\j<2 ^ 62)/\QI (lJ i (j-i).toNat) am|_=>False:=propext Iff.rfl
theorem rL{src:DTI}{g:DTG}:yq src g s1 Dd ρ U=src ρ U fun xs am=>∃Pv:Nat->Rho->Mu->Prop,Pv 0 ρ am /\
 (∀i x dL Z,xs[i]? = some x->Pv i dL Z->g (.v x) dL Z fun ii bn=>s1 {Dd with nx:=Pv (i+1),ct:=Pv (i+1),bk:=Dd.nx} ii bn)/\(∀dL Z,Pv xs.length dL Z->Dd.nx dL Z):=propext Iff.rfl
theorem EU{cap:List (Option Nat)}{src:DTI}{g:DTG}:Ad cap src g t ta ρ U Q=src ρ U fun xs am=>xs.length<=1000/\∃f:PyData->Option PyData,
 (∀x∈xs,∀Z:Mu,(∀a ds,am a=some ds->Z a=some ds)->g (.v x) (cg cap ρ) Z fun ii bn=>Le (cg cap ρ) ii/\t ii bn fun b dl=>
  if b=true then ta ii dl fun d im=>im=Z/\(match d with|.v y=>f x=some y|_=>False) else dl=Z/\f x=none)/\Q (.v (.list (xs.filterMap f))) am:=propext Iff.rfl
theorem A5{α:Type}{r:List (Option α)}:cg [] r=[]:=rfl
theorem Aw{α:Type}{o:Option Nat}{c:List (Option Nat)}{r:List (Option α)}:cg (o::c) r=(o.bind fun j=>(r[j]?).join)::cg c r:=rfl
theorem Gj:Le [] []=True:=propext ⟨fun _=>trivial,fun h=>h⟩
theorem GP{r r':Rho}{o:Option D}:Le (none::r) (o::r')=Le r r':=propext Iff.rfl
theorem Hk{r r':Rho}{d d':D}:Le (some d::r) (some d'::r')=(d=d'/\Le r r'):=propext Iff.rfl
theorem uw{α:Type}(p:α->Bool):∀xs:List α,cT (xs.map fun x=>PyData.bool (p x))=some (xs.map p)
 |[]=>rfl
 |x::r=>by rw[map_cons,cT,uw p r];rfl
theorem G2{α β:Type}(p:α->β):∀xs:List α,xs.filterMap (fun x=>some (p x))=xs.map p
 |[]=>rfl
 |x::r=>by rw[filterMap_cons,G2 p r];rfl
theorem LX:xm t s1 Dd ρ U=(∃W:Nat->Rho->Mu->Prop,(∃m,W m ρ U)/\∀m ρ U,W m ρ U ->
 t ρ U fun b am=>if b=true then s1 {Dd with nx:=fun dL Z=>∃m',m'<m/\W m' dL Z,ct:=fun dL Z=>∃m',m'<m/\W m' dL Z,bk:=Dd.nx} ρ am else Dd.nx ρ am):=propext Iff.rfl
end
theorem Ke{α β:Type}[BEq α][LawfulBEq α]{x:α}{k:β}:∀{l:List (α×β)},l.lookup x=some k->(x,k)∈l
 |[],h=>by cases h
 |(y,j)::r,h=>by
  rw[lookup_cons] at h
  cases e:x==y with
  |true=>
   rw[e] at h
   simp only[Option.some.injEq] at h
   have:x=y:=eq_of_beq e
   subst this h
   exact mem_cons_self
  |false=>
   rw[e] at h
   exact mem_cons_of_mem _ (Ke h)
noncomputable def cfK:NameKind->Bool
 |.cell=>true
 |.free=>true
 |_=>false
theorem JN{names:List (Str×NameKind)}{cl:List (Str×Addr)}(h:(names.all fun y=>!(cfK y.2) || (cl.lookup y.1).isSome)=true)(x:Str)(hx:names.lookup x=some .cell\/names.lookup x=some .free):∃a,cl.lookup x=some a:=by
 rw[List.all_eq_true] at h
 have key:∀k,cfK k=true->names.lookup x=some k->∃a,cl.lookup x=some a:=fun k hk e=>by
  have q:=h _ (Ke e)
  simp only[hk,Bool.not_true,Bool.false_or] at q
  exact Option.isSome_iff_exists.mp q
 rcases hx with e|e
 ·exact key _ rfl e
 ·exact key _ rfl e
noncomputable def La(X:Cx)(sc:Scope):List (Option Nat)->List Str->Prop
 |none::c,_::n=>La X sc c n
 |some j::c,x::n=>(X.N[j]? = some x/\Vis X.env.scope x/\X.env.kindOf x≠some .local/\((relabel sc X.env).names.lookup x=some .cell\/(relabel sc X.env).names.lookup x=some .free))/\La X sc c n
 |_,_=>True
theorem EX{X:Cx}{sc:Scope}:∀{c:List (Option Nat)} {n:List Str},La X sc c n->∀(i j:Nat) (x:Str),c[i]? = some (some j)->n[i]? = some x ->
  X.N[j]? = some x/\Vis X.env.scope x/\X.env.kindOf x≠some .local/\((relabel sc X.env).names.lookup x=some .cell\/(relabel sc X.env).names.lookup x=some .free)
 |[],_,_,i,j,x,h,_=>by simp at h
 |_::_,[],_,i,j,x,_,h=>by simp at h
 |none::c,y::n,k,0,j,x,h,_=>by simp at h
 |none::c,y::n,k,i+1,j,x,h,g=>EX (c:=c) (n:=n) k i j x (by simpa using h) (by simpa using g)
 |some l::c,y::n,k,0,j,x,h,g=>by
  simp only[List.getElem?_cons_zero,Option.some.injEq] at h g
  subst h g
  exact k.1
 |some l::c,y::n,k,i+1,j,x,h,g=>EX (c:=c) (n:=n) k.2 i j x (by simpa using h) (by simpa using g)
theorem SJ{X:Cx}{sc:Scope}{j:Nat}{x:Str}(h1:X.N[j]? = some x:=by rfl)(h2:Vis X.env.scope x:=by first|exact Or.inl rfl|exact Or.inr (Or.inl rfl)|exact Or.inr (Or.inr rfl))(h3:X.env.kindOf x≠some .local:=by first|(intro z;cases z)|exact (fun z=>nomatch z))
  (h4:(relabel sc X.env).names.lookup x=some .cell\/(relabel sc X.env).names.lookup x=some .free:=by first|exact Or.inl rfl|exact Or.inr rfl):X.N[j]? = some x/\Vis X.env.scope x/\X.env.kindOf x≠some .local/\((relabel sc X.env).names.lookup x=some .cell\/(relabel sc X.env).names.lookup x=some .free):=⟨h1,h2,h3,h4⟩
noncomputable def kJ(U:Mu)(p:Addr):Mu:=⟨fun b=>if b=p then none else U b,U.b⟩
theorem fj{U:Mu}{p b:Addr}(h:b≠p):kJ U p b=U b:=if_neg h
theorem gP{U:Mu}{p:Addr}:kJ U p p=none:=if_pos rfl
noncomputable def gS(cap:List (Option Nat))(src:DTI)(g:DTG)(c:DTT)(elt:DTE):DTE:=fun ρ U Q=>src ρ U fun xs am=>xs.length<=1000/\∀p,am p=none->∃Pv:Nat->List PyData->Mu->Prop,Pv 0 [] (aQ am p []) /\
 (∀i x acc Z,xs[i]? = some x->Z p=some acc->Pv i acc Z->g (.v x) (cg cap ρ) Z fun ii bn=>Le (cg cap ρ) ii/\c ii bn fun b dl=>
  if b=true then elt ii dl fun d im=>im p=some acc/\(match d with|.v y=>Pv (i+1) (acc++[y]) (aQ im p (acc++[y]))|_=>False) else dl p=some acc/\Pv (i+1) acc dl) /\
 (∀acc Z,Pv xs.length acc Z->Z p=some acc->Q (.v (.list acc)) (kJ Z p))
theorem ns_obj{h:Heap}{C:Addr}{m:Str->Option Value}(hn:h.Ns C m):∃o,h.get? C=some o/\∀v,o.data≠.cell v:=let ⟨o,es,ep,ho,hd,_⟩:=hn;⟨o,ho,fun v z=>by rw[hd] at z;cases z⟩
theorem Nc{h h':Heap}{C:Addr}{m:Str->Option Value}(hn:h.Ns C m)(e:h'.get? C=h.get? C):h'.Ns C m:=let ⟨o,es,ep,ho,r⟩:=hn;⟨o,es,ep,e.trans ho,r⟩
theorem md{cap:List (Option Nat)}{src:DTI}{g:DTG}{t:DTT}{ta:DTE}{ρ:Rho}{U:Mu}{Q:DK}:gS cap src g t ta ρ U Q=src ρ U fun xs am=>xs.length<=1000/\∀p,am p=none->∃Pv:Nat->List PyData->Mu->Prop,Pv 0 [] (aQ am p []) /\
 (∀i x acc Z,xs[i]? = some x->Z p=some acc->Pv i acc Z->g (.v x) (cg cap ρ) Z fun ii bn=>Le (cg cap ρ) ii/\t ii bn fun b dl=>
  if b=true then ta ii dl fun d im=>im p=some acc/\(match d with|.v y=>Pv (i+1) (acc++[y]) (aQ im p (acc++[y]))|_=>False) else dl p=some acc/\Pv (i+1) acc dl) /\
 (∀acc Z,Pv xs.length acc Z->Z p=some acc->Q (.v (.list acc)) (kJ Z p)):=propext Iff.rfl
theorem tR{U:Mu}{p:Addr}{ds:List PyData}(h:U p=none):kJ (aQ U p ds) p=U:=Mu.eq (fun b=>by
 by_cases e:b=p
 ·rw[e,gP,h]
 ·rw[fj e,aV e]) fun _=>rfl
theorem OZ{xs:List PyData}{f:PyData->Option PyData}{i:Nat}{d:PyData}(h:xs[i]? = some d):(xs.take (i+1)).filterMap f=(xs.take i).filterMap f++(f d).toList:=HA h
theorem Inv.Fi{X:Cx}{pins:List (Addr×Obj)}{σ:St}{H:Hp}{s:Shared}{h':Heap}{t':Nat}{ch:List Addr}{a:Addr}{o:HO}(I:Inv X pins σ H s)(hc:∀b∈ch,x9 X pins H b)
  (k:∀b u,b ∉ ch->s.heap.get? b=some u->h'.get? b=some u) (hp:s.heap.objs.size<=a) (new:gK X.prog X.w (upd H a o) h' a o):Inv X pins σ (upd H a o) {s with heap:=h',toks:=t'}:=by
 have hn:=I.hok.fresh hp
 have nin:∀b u,H b=some u->b ∉ ch:=fun b u e z=>by rw[(hc b z).1] at e;cases e
 refine I.call (g':=s.gens) (d':=s.drawn) (t':=t') (ch:=ch) ?_ ?_ I.bare fun b hb=>?_
 ·exact⟨fun b u q _ _ x=>k b u x q,fun b u q _ _ x=>⟨u.slots,k b u x q⟩,fun b u q n _=>by rw[aR (ne_of_lt (lt_of_lt_of_le (Heap.lt_size q) hp))];exact n,fun b u q x=>⟨u,k b u x q⟩,
   fun b xs q=>by rw[aR (aF q hn)];exact q,fun b u xs q=>by rw[aR (aF q hn)];exact q,fun b ps q=>⟨#[],by rw[aR (aF q hn),q];simp⟩⟩
 ·intro b u e
  by_cases hb:b=a
  ·subst hb;rw[b8] at e;cases e;exact new
  ·rw[aR hb] at e
   refine (I.hok b u e).vC (fun c v hcv q=>k c v ?_ q) (fun c q=>by rw[aR (aF q hn)];exact q) fun c xs q=>by rw[aR (aF q hn)];exact q
   rcases hcv with z|z
   ·rw[z];exact nin b u e
   ·exact nin c _ z
 ·obtain⟨_,f1,f2,f3,f4,f5⟩:=hc b hb
  exact⟨f3,f1,f4,f5⟩
theorem Inv.L3{X:Cx}{pins:List (Addr×Obj)}{σ:St}{H:Hp}{s:Shared}{h':Heap}{t':Nat}{ch:List Addr}(I:Inv X pins σ H s)(hc:∀b∈ch,x9 X pins H b)
  (k:∀b u,b ∉ ch->s.heap.get? b=some u->h'.get? b=some u):Inv X pins σ H {s with heap:=h',toks:=t'}:=by
 have nin:∀b u,H b=some u->b ∉ ch:=fun b u e z=>by rw[(hc b z).1] at e;cases e
 refine I.call (g':=s.gens) (d':=s.drawn) (t':=t') (ch:=ch) ?_ ?_ I.bare fun b hb=>?_
 ·exact⟨fun b u q _ _ x=>k b u x q,fun b u q _ _ x=>⟨u.slots,k b u x q⟩,fun b u q n _=>n,fun b u q x=>⟨u,k b u x q⟩,fun b xs q=>q,fun b u xs q=>q,fun b ps q=>⟨#[],by rw[q];simp⟩⟩
 ·intro b u e
  refine (I.hok b u e).vC (fun c v hcv q=>k c v ?_ q) (fun c q=>q) fun c xs q=>q
  rcases hcv with z|z
  ·rw[z];exact nin b u e
  ·exact nin c _ z
 ·obtain⟨_,f1,f2,f3,f4,f5⟩:=hc b hb
  exact⟨f3,f1,f4,f5⟩
section
variable {X:Cx}{es:List Expr}{x1:Nat}{tpos:Pos}
noncomputable def Lg:List PyData->List PyData->List PyData
 |x::xs,y::ys=>.tuple [x,y]::Lg xs ys
 |_,_=>[]
end
section
variable {X:Cx}{a b e:Expr}{es:List Expr}{ta tb te:DTE}{t:DTA}{p pos:Pos}
noncomputable def oI:List D->Mu->DK->Prop:=fun xs U Q=>match xs with
 |[.v (.list ys)]=>Q (.v (.tuple ys)) U
 |[.v (.tuple ys)]=>Q (.v (.tuple ys)) U
 |[.m l]=>(match U l with|some ys=>Q (.v (.tuple ys)) U|none=>False)
 |_=>False
theorem IZ{K:PySem.W.Frag}:mG K (fun xs H Q=>∃p ys,xs=[.ref p]/\((SqL K H p ys/\∀l,H l=none->Q (.ref l) (upd H l (.tup ys)))\/(SqT K H p ys/\Q (.ref p) H))) oI:=by
 intro xs us H U Qd Q ok rs h k
 unfold oI at h
 split at h
 ·cases rs with
  |cons r1 r2=>
   cases r2
   cases r1 with
   |list hs hn r=>exact⟨_,_,rfl,.inl ⟨SqL.of hs,fun l hl=>k (.v _) _ U _ (df hl) (ok.new hl) (ib ok r hl) h⟩⟩
 ·cases rs with
  |cons r1 r2=>
   cases r2
   cases id r1 with
   |tuple hs r=>exact⟨_,_,rfl,.inr ⟨hs,k (.v _) _ U H .refl ok r1 h⟩⟩
 ·cases rs with
  |cons r1 r2=>
   cases r2
   obtain⟨rfl,ds,hm⟩:=r1
   rw[hm] at h
   obtain⟨us,hl,r⟩:=ok _ ds hm
   exact⟨_,_,rfl,.inl ⟨SqL.of hl,fun l hl'=>k (.v _) _ U _ (df hl') (ok.new hl') (ib ok r hl') h⟩⟩
 ·exact h.elim
theorem Dv(hg:Gl X "tuple")(hm:X.mg "tuple"=none)(ha:DA X (e::es) t)
  (he:starEach (e::es) X.env=(false,eval e X.env)::starEach es X.env:=by rfl) (hpl:(backTo pos (starEach es X.env)).any (·.1)=false:=by rfl):DE X (.Call (.Name "tuple" p) (e::es) [] pos) (dCB oI t):=
 tX yH IZ hg hm PyProof.Rows.Boot.«tuple» ha ⋯ ⋯ he hpl
theorem sO{ys:List PyData}{U:Mu}{Q:DK}:oI [.v (.list ys)] U Q=Q (.v (.tuple ys)) U:=propext Iff.rfl
end
theorem cl1{k:Str}{v:Addr}{r:List (Str×Addr)}{x:Str}{a:Addr}(h:List.lookup x [(k,v)]=some a):List.lookup x ((k,v)::r)=some a:=by
 simp only[lookup_cons] at h ⊢
 cases e:x==k with
 |true=>rw[e] at h;exact h
 |false=>rw[e] at h;exact absurd h (by simp)
theorem cl2{k k':Str}{v v':Addr}{r:List (Str×Addr)}{x:Str}{a:Addr}(n:(k==k')=false)(h:List.lookup x [(k,v)]=some a):List.lookup x ((k',v')::(k,v)::r)=some a:=by
 have g:=cl1 (r:=r) h
 simp only[lookup_cons] at h
 cases e:x==k with
 |true=>
  have e':x=k:=by simpa using e
  subst e'
  rw[lookup_cons,n]
  exact g
 |false=>rw[e] at h;exact absurd h (by simp)
section
variable {X:Cx}{e:Expr}{es:List Expr}{t:DTA}{p pos:Pos}
noncomputable def EV:List PyData->Option (List Int)
 |[]=>some []
 |.int b::r=>(EV r).map (b::·)
 |_::_=>none
end
section
variable {X:Cx}{a b c:Expr}{ta tb tc:DTE}{pos:Pos}
theorem cl3{k k':Str}{v v':Addr}{x:Str}{a:Addr}(n:(k==k')=false)(h:List.lookup x [(k,v),(k',v')]=some a):List.lookup x [(k',v'),(k,v)]=some a:=by
 simp only[lookup_cons,List.lookup_nil] at h ⊢
 cases e:x==k with
 |true=>
  have e':x=k:=by simpa using e
  subst e'
  rw[e] at h
  rw[n]
  exact h
 |false=>
  rw[e] at h
  cases e2:x==k' with
  |true=>rw[e2] at h;exact h
  |false=>rw[e2] at h;exact absurd h (by simp)
end
section
variable {X:Cx}{o e:Expr}{to te:DTE}{apos cpos pos:Pos}
noncomputable def Tw(to:DTE):DTE:=fun ρ U Q=>to ρ U fun x am=>match x with
 |.m l=>(match am l with
  |some xs=>∃d,xs[xs.length-1]? = some d/\Q (.v d) (aQ am l xs.dropLast)
  |none=>False)
 |_=>False
theorem RpL.eraseIdx{K:PySem.W.Frag}{U:Mu}{H:Hp}:∀{ds:List PyData} {us:List V} (i:Nat),RpL K U H ds us->RpL K U H (ds.eraseIdx i) (us.eraseIdx i)
 |_,_,_,.nil=>.nil
 |_,_,0,.cons _ t=>t
 |_,_,i+1,.cons h t=>.cons h (RpL.eraseIdx i t)
noncomputable def Bl(to te:DTE):DTE:=fun ρ U Q=>to ρ U fun x am=>match x with
 |.m l=>te ρ am fun y bn=>(match y,bn l with
  |.v (.int i),some xs=>(0<=i/\i<1000)/\∃d,xs[i.toNat]? = some d/\Q (.v d) (aQ bn l (xs.eraseIdx i.toNat))
  |_,_=>False)
 |_=>False
theorem RG{i:Int}{n:Nat}(h0:0<=i)(h:i.toNat<n):seqIndex? i n=some i.toNat:=by
 unfold seqIndex?
 simp only[Option.ite_none_right_eq_some,Option.some.injEq]<;>first|(split<;>(try split)<;>simp_all<;>omega)|(constructor<;>omega)|omega
theorem CM(ho:DE X o to)(ha:DE X e te)(hbase:attributeBase o "pop" X.env (eval o X.env)=eval o X.env:=by rfl)
  (hfew:((backTo cpos (starEach [e] X.env)).all (fun x=>!x.1)&&(backToKw cpos (keywordEach [] X.env)).all (fun x=>x.1.isSome)
   && decide ([e].length+([]:List Keyword).length+(if ([]:List Keyword).isEmpty then 0 else 1)<30))=true:=by rfl)
  (hline:(apos.endLine==cpos.line)=true:=by rfl) (hs:starEach [e] X.env=(false,eval e X.env)::starEach [] X.env:=by rfl) (hplain:(backTo cpos (starEach [] X.env)).any (·.1)=false:=by rfl) :
  DE X (.Call (.Attribute o "pop" apos) [e] [] cpos) (Bl to te):=by
 obtain⟨t1,p1,l1⟩:=ho
 obtain⟨t2,p2,l2⟩:=ha
 refine⟨_,F8 plainAttrs_list PySem.F.slot_list_pop PySem.F.type_list_pop Kr p1 (eO p2 lN hs) hbase hfew hline hs hplain,fun σ H ρ U Qd Q S h k=>?_⟩
 refine l1 σ H ρ U _ _ S h fun x ux am H1 e1 S1 rx h1=>?_
 cases x with
 |m l=>
  obtain⟨rfl,ds,hm⟩:=id rx
  obtain⟨us,hl,rl⟩:=S1.mu l ds hm
  refine⟨.inl ⟨rfl,us,SqL.of hl⟩,?_⟩
  refine l2 σ H1 ρ am _ _ S1 h1 fun y uy bn H2 e2 S2 ry h2=>?_
  obtain⟨_,ds2,hm2⟩:=rx.ext S1.mu e2
  obtain⟨us2,hl2,rl2⟩:=S2.mu l ds2 hm2
  rw[hm2] at h2
  split at h2
  ·rename_i i ds3 e3
   cases e3
   obtain⟨⟨i0,i1⟩,d,hd,q⟩:=h2
   cases ry
   obtain⟨u,hu,ru⟩:=rl2.get hd
   have hlt:i.toNat<us2.length:=by
    rcases lt_or_ge i.toNat us2.length with z|z
    ·exact z
    ·rw[getElem?_eq_none z] at hu;cases hu
   have ex:Ext X.K bn H2 (aQ bn l (ds2.eraseIdx i.toNat)) (upd H2 l (.lst (us2.eraseIdx i.toNat))):=iY hm2
   exact⟨l,us2,i,i.toNat,u,rfl,rfl,hl2,∅,∅,RG i0 hlt,hu,k (.v d) u _ _ (e1.trans (e2.trans ex)) ⟨S2.mu.set hm2 (rl2.eraseIdx _),S2.rho.ext S2.mu ex⟩ (ru.ext S2.mu ex) q⟩
  ·exact h2.elim
 |v d=>exact h1.elim
 |s ns=>exact h1.elim
 |o _=>exact h1.elim
 |b _=>exact h1.elim
 |q _=>exact h1.elim
end
noncomputable def BY(cap:List (Option Nat))(src:DTI)(g:DTG)(c:DTT)(elt:DTE):DTE:=fun ρ U Q=>src ρ U fun xs am=>xs.length<=1000/\∀p,am p=none->∃Pv:Nat->List PyData->Mu->Prop,Pv 0 [] (aQ am p []) /\
 (∀i x acc Z,xs[i]? = some x->Z p=some acc->Pv i acc Z->g (.v x) (cg cap ρ) Z fun ii bn=>Le (cg cap ρ) ii/\c ii bn fun b dl=>
  if b=true then elt ii dl fun d im=>im p=some acc/\(match d with|.v y=>Pv (i+1) (acc++[y]) (aQ im p (acc++[y]))|_=>False) else dl p=some acc/\Pv (i+1) acc dl) /\
 (∀acc Z,Pv xs.length acc Z->Z p=some acc->Q (.m p) Z)
theorem L1{cap:List (Option Nat)}{src:DTI}{g:DTG}{t:DTT}{ta:DTE}{ρ:Rho}{U:Mu}{Q:DK}:BY cap src g t ta ρ U Q=src ρ U fun xs am=>xs.length<=1000/\∀p,am p=none->∃Pv:Nat->List PyData->Mu->Prop,Pv 0 [] (aQ am p []) /\
 (∀i x acc Z,xs[i]? = some x->Z p=some acc->Pv i acc Z->g (.v x) (cg cap ρ) Z fun ii bn=>Le (cg cap ρ) ii/\t ii bn fun b dl=>
  if b=true then ta ii dl fun d im=>im p=some acc/\(match d with|.v y=>Pv (i+1) (acc++[y]) (aQ im p (acc++[y]))|_=>False) else dl p=some acc/\Pv (i+1) acc dl) /\
 (∀acc Z,Pv xs.length acc Z->Z p=some acc->Q (.m p) Z):=propext Iff.rfl
noncomputable def JD(cells:List (Str×Addr)):List (Str×Addr)->Prop
 |[]=>True
 |(k,v)::r=>cells.lookup k=some v/\JD cells r
theorem qE{cells:List (Str×Addr)}:JD cells []:=trivial
theorem cZ{cells r:List (Str×Addr)}{k:Str}{v:Addr}(h:cells.lookup k=some v)(t:JD cells r):JD cells ((k,v)::r):=⟨h,t⟩
theorem jb{cells:List (Str×Addr)}:∀{cl:List (Str×Addr)},JD cells cl->∀x a,cl.lookup x=some a->cells.lookup x=some a
 |[],_,_,_,h=>by simp at h
 |(k,v)::r,c,x,a,h=>by
  rw[lookup_cons] at h
  cases e:x==k with
  |true=>
   have e':x=k:=by simpa using e
   rw[e] at h
   subst e'
   rw[c.1];exact h
  |false=>
   rw[e] at h
   exact jb c.2 x a h
noncomputable def Fly(O:Addr->Prop)(h:Heap)(e:Addr)(cls fl:Value):Prop:=(∀b,O b->b<h.objs.size)/\∃oe vs T oT ts,h.get? e=some oe/\oe.cls=cls/\oe.data = .fields vs/\vs[1]? = some (.ref T)/\vs[2]? = some .none/\¬ O e/\¬ O T/\T≠e/\h.get? T=some oT/\oT.data = .fields ts/\ts[3]? = some fl
structure Kp(O:Addr->Prop)(fs:List Addr)(h h':Heap):Prop where
 keep:∀b o,h.get? b=some o->O b->b ∉ fs->h'.get? b=some o
 slot:∀b o,h.get? b=some o->(∀vs,o.data≠.fields vs)->∃sl,h'.get? b=some {o with slots:=sl}
section
variable {O:Addr->Prop}{fs:List Addr}{h h1 h2:Heap}
theorem Kp.trans(a:Kp O fs h h1)(b:Kp O fs h1 h2):Kp O fs h h2:=⟨fun c o e l f=>b.keep c o (a.keep c o e l f) l f,fun c o e d=>let ⟨_,e1⟩:=a.slot c o e d;let ⟨sl,e2⟩:=b.slot c _ e1 d;⟨sl,e2⟩⟩
theorem Kp.of(k:∀b o,h.get? b=some o->h1.get? b=some o):Kp O fs h h1:=⟨fun b o e _ _=>k b o e,fun b o e _=>⟨o.slots,k b o e⟩⟩
theorem Kp.frames{base:Heap}{l:List Env}(a:Kp O fs h h1)(k:h.FunFrames base l):h1.FunFrames base l:=k.of_keeps fun b o e d=>let ⟨_,e1⟩:=a.slot b o e d;⟨_,e1,rfl⟩
end
section
variable {M:Model}{A:Around}{E:Value->Shared->Prop}{s:Shared}{O:Addr->Prop}{e L:Addr}{cls fl:Value}{env:Env}{outer:List Env}{base:Heap}{Q:Unit->Shared->Prop}
theorem Dr{oe:Obj}{vs:Array Value}{head:Value}{hadNext:Bool}(hfr:A.frames=some (env::outer))(hl:s.heap.FunFrames base (env::outer))(hf:env.frame=some L)
  (he:s.heap.get? e=some oe) (hc:oe.cls=cls) (hd:oe.data = .fields vs) (hz:1<vs.size) (h2:vs[2]? = some .none) (hO:∀b,O b->b<s.heap.objs.size) (hn:¬ O e)
  (k:∀h',Kp O (frs (env::outer)) s.heap h'->Fly O h' e cls (rawInt L)->Q () {s with heap:=h'}) :
  wpAny M A (do let a <- frameOf env;let pl <- entryPlaceOf L hadNext;let b <- EntryCells.newEntry head a .none (rawInt L) .none pl;setField (.ref e) 1 b) Q E s:=by
 have ene:e ∉ frs (env::outer):=fun hm=>by
  obtain⟨_,o,ho,hnf⟩:=hl.mem hm
  rw[he] at ho
  exact hnf vs (by rw[<- Option.some.inj ho];exact hd)
 refine wpAny_bind (wpAny_frameOf_fun hfr hl hf fun g1 s1=>wpAny_bind (wpAny_entryPlaceOf fun pl hpl=>?_))
 unfold EntryCells.newEntry newFields;refine wpAny_bind (wpAny_newObj_type ?_ (hpl.sizeOk5 _ _ _ _ _))
 generalize hob:({cls:=.type "traceback",dict:=none,data:=.fields ([head,.ref L,.none,rawInt L,.none]++(if pl.isEmpty then List.replicate 6 Value.none else pl)).toArray}:Obj)=ob
 have e1:g1.get? e=some oe:=(s1.2.1 e ene).trans he
 have e2:(g1.push ob).get? e=some oe:=Heap.get?_push_of_some ob e1
 have neT:g1.objs.size≠e:=Nat.ne_of_gt (Heap.lt_size e1)
 have d3:=Obj.data_mapFields hd (·.setIfInBounds 1 (Value.ref g1.objs.size))
 have szs:¬ O g1.objs.size:=fun z=>absurd (hO _ z) (by rw[s1.1];exact lt_irrefl _)
 refine wpAny_setField e2 hd hz (k _ ⟨fun b o q l f=>?_,fun b o q d=>?_⟩ ?_)
 ·have bne:e≠b:=fun z=>hn (by rw[z];exact l)
  rw[Heap.get?_update_other _ _ bne]
  exact Heap.get?_push_of_some _ ((s1.2.1 b f).trans q)
 ·have bne:e≠b:=fun z=>by rw[<- z,he] at q;exact d vs (by rw[<- Option.some.inj q];exact hd)
  obtain⟨sl,q1⟩:=s1.2.2 b o q
  exact⟨sl,by rw[Heap.get?_update_other _ _ bne];exact Heap.get?_push_of_some _ q1⟩
 ·refine⟨fun b z=>lt_of_lt_of_le (hO b z) (by rw[Heap.size_after_update,Heap.size_push,s1.1];exact Nat.le_succ _),_,_,g1.objs.size,ob,_,Heap.get?_update_self _ e2 (Obj.isFreed_of_fields d3),(Obj.cls_mapFields ..).trans hc,d3,by simp[hz],by rw[Array.getElem?_setIfInBounds_ne ⋯];exact h2,hn,szs,neT,?_,by rw[<- hob],?_⟩
  ·rw[Heap.get?_update_other _ _ (Ne.symm neT)]
   exact Heap.get?_push_size g1 (by rw[<- hob];rfl)
  ·rcases hpl with z|⟨_,_,_,_,_,_,_,z⟩<;>(rw[z];rfl)
theorem Fg{oe:Obj}{vs:Array Value}(hfr:A.frames=some (env::outer))(hl:s.heap.FunFrames base (env::outer))(hf:env.frame=some L)
  (he:s.heap.get? e=some oe) (hc:oe.cls=cls) (hd:oe.data = .fields vs) (h1:vs[1]? = some .none) (h2:vs[2]? = some .none) (hO:∀b,O b->b<s.heap.objs.size) (hn:¬ O e)
  (k:∀h',Kp O (frs (env::outer)) s.heap h'->Fly O h' e cls (rawInt L)->Q () {s with heap:=h'}):wpAny M A (noteFrame (.ref e) env) Q E s:=by
 unfold noteFrame;simp only[hf]
 refine wpAny_bind (wpAny_field he hd h1 ?_)
 rw[if_neg ⋯]
 exact Dr hfr hl hf he hc hd (Array.getElem?_eq_some_iff.mp h1).1 h2 hO hn k
theorem zE(hfr:A.frames=some (env::outer))(hl:s.heap.FunFrames base (env::outer))(hf:env.frame=some L)(F:Fly O s.heap e cls .none)
  (k:∀h',Kp O (frs (env::outer)) s.heap h'->Fly O h' e cls (rawInt L)->Q () {s with heap:=h'}):wpAny M A (noteFrame (.ref e) env) Q E s:=by
 obtain⟨hO,oe,vs,T,oT,ts,he,hc,hd,h1,h2,hn,hT,nT,gT,dT,h3⟩:=F
 unfold noteFrame;simp only[hf]
 refine wpAny_bind (wpAny_field he hd h1 ?_)
 rw[if_pos (by simp)]
 refine wpAny_bind (wpAny_field gT dT h3 ?_)
 rw[if_neg (by simp[rawInt])]
 have oth:∀b,b≠T->(s.heap.update T (Obj.mapFields (·.setIfInBounds 3 Value.none))).get? b=s.heap.get? b:=fun b hb=>Heap.get?_update_other _ _ (Ne.symm hb)
 have kp:Kp O (frs (env::outer)) s.heap (s.heap.update T (Obj.mapFields (·.setIfInBounds 3 Value.none))):=
  ⟨fun b o q l _=>(oth b fun z=>hT (by rw[<- z];exact l)).trans q,fun b o q d=>⟨o.slots,(oth b fun z=>by rw[z,gT] at q;exact d ts (by rw[<- Option.some.inj q];exact dT)).trans q⟩⟩
 refine wpAny_bind (wpAny_setField gT dT (Array.getElem?_eq_some_iff.mp h3).1 ?_)
 exact Dr (s:={s with heap:=s.heap.update T (Obj.mapFields (·.setIfInBounds 3 Value.none))}) hfr (kp.frames hl) hf ((oth e (Ne.symm nT)).trans he) hc hd (Array.getElem?_eq_some_iff.mp h1).1 h2 (fun b z=>by rw[Heap.size_after_update];exact hO b z) hn fun h' a b=>k h' (kp.trans a) b
theorem jU{fs:List Addr}(F:Fly O s.heap e cls fl)(k:∀h',Kp O fs s.heap h'->Fly O h' e cls .none->Q () {s with heap:=h'}):wpAny M A (setFlight (.ref e) none) Q E s:=by
 obtain⟨hO,oe,vs,T,oT,ts,he,hc,hd,h1,h2,hn,hT,nT,gT,dT,h3⟩:=F
 have z3:3<ts.size:=(Array.getElem?_eq_some_iff.mp h3).1
 unfold setFlight
 refine wpAny_bind (wpAny_field he hd h1 ?_)
 rw[if_pos (by simp)]
 have oth:∀b,b≠T->(s.heap.update T (Obj.mapFields (·.setIfInBounds 3 ((none:Option Addr).elim Value.none fun f=>rawInt f)))).get? b=s.heap.get? b:=fun b hb=>Heap.get?_update_other _ _ (Ne.symm hb)
 refine wpAny_setField gT dT z3 (k _ ⟨fun b o q l _=>(oth b fun z=>hT (by rw[<- z];exact l)).trans q,fun b o q d=>⟨o.slots,(oth b fun z=>by rw[z,gT] at q;exact d ts (by rw[<- Option.some.inj q];exact dT)).trans q⟩⟩ ?_)
 exact⟨fun b z=>by rw[Heap.size_after_update];exact hO b z,oe,vs,T,_,_,(oth e (Ne.symm nT)).trans he,hc,hd,h1,h2,hn,hT,nT,Heap.get?_update_self _ gT (Obj.isFreed_of_fields (Obj.data_mapFields dT _)),Obj.data_mapFields dT _,by simp[z3]⟩
theorem CT{oe:Obj}{vs:Array Value}(hfr:A.frames=some (env::outer))(hl:s.heap.FunFrames base (env::outer))(hf:env.frame=some L)
  (he:s.heap.get? e=some oe) (hc:oe.cls=cls) (hd:oe.data = .fields vs) (h1:vs[1]? = some .none) (h2:vs[2]? = some .none) (hO:∀b,O b->b<s.heap.objs.size) (hn:¬ O e)
  (k:∀h',Kp O (frs (env::outer)) s.heap h'->Fly O h' e cls .none->Q () {s with heap:=h'}):wpAny M A (leaving env (.ref e)) Q E s:=by
 unfold leaving
 exact wpAny_bind (Fg hfr hl hf he hc hd h1 h2 hO hn fun h' a b=>jU (s:={s with heap:=h'}) b fun h'' a' b'=>k h'' (a.trans a') b')
theorem FG(hfr:A.frames=some (env::outer))(hl:s.heap.FunFrames base (env::outer))(hf:env.frame=some L)(F:Fly O s.heap e cls .none)
  (k:∀h',Kp O (frs (env::outer)) s.heap h'->Fly O h' e cls .none->Q () {s with heap:=h'}):wpAny M A (leaving env (.ref e)) Q E s:=by
 unfold leaving
 exact wpAny_bind (zE hfr hl hf F fun h' a b=>jU (s:={s with heap:=h'}) b fun h'' a' b'=>k h'' (a.trans a') b')
end
noncomputable def CX1(P:Program)(w:World):CXT:=fun outer H s E e s'=>∃(O:Addr->Prop) (ea:Addr) (cls:Value) (H':Hp),e = .ref ea/\s'.os=s.os/\AllBare s'.gens/\Un (frs outer) [] H H' s.heap s'.heap/\HOk P w H' s'.heap /\
 (∀b o,s.heap.get? b=some o->O b)/\(∀b,H' b≠none->O b)/\Fly O s'.heap ea cls .none/\E cls none H'
theorem Un.fly{fs:List Addr}{L:Addr}{H H':Hp}{h h1 h2:Heap}{O:Addr->Prop}(u:Un fs [] H H' h h1)(k:Kp O (L::fs) h1 h2)(hO:∀b o,h.get? b=some o->O b)(hL:∀o,h.get? L≠some o)(hd:∀b∈fs,∀o,h1.get? b=some o->∀vs,o.data≠.fields vs):Un fs [] H H' h h2 where
 keep:=fun b o e n f x=>k.keep b o (u.keep b o e n f x) (hO b o e) fun z=>by
  rcases List.mem_cons.mp z with z|z
  ·exact hL o (by rw[<- z];exact e)
  ·exact f z
 slot:=fun b o e n f x=>by
  obtain⟨sl,e1⟩:=u.slot b o e n f x
  obtain⟨sl',e2⟩:=k.slot b _ e1 (hd b f _ e1)
  exact⟨sl',e2⟩
 free:=u.free
 there:=fun b o e x=>by
  obtain⟨o1,e1⟩:=u.there b o e x
  by_cases f:b∈fs
  ·obtain⟨sl,e2⟩:=k.slot b _ e1 (hd b f _ e1)
   exact⟨_,e2⟩
  ·exact⟨o1,k.keep b o1 e1 (hO b o e) fun z=>by
    rcases List.mem_cons.mp z with z|z
    ·exact hL o (by rw[<- z];exact e)
    ·exact f z⟩
 qp:=u.qp
 o8:=u.o8
 o7:=u.o7
theorem HOk.fly{P:Program}{w:World}{H:Hp}{h h1:Heap}{O:Addr->Prop}{fs:List Addr}(x:HOk P w H h)(k:Kp O fs h h1)(hO:∀b,H b≠none->O b)(hf:∀b∈fs,H b=none):HOk P w H h1:=fun a o e=>by
 refine (x a o e).vC (fun b u hb q=>?_) (fun _ q=>q) fun _ _ q=>q
 have hb':H b≠none:=by
  rcases hb with rfl|hb
  ·rw[e];exact fun z=>nomatch z
  ·rw[hb];exact fun z=>nomatch z
 exact k.keep b u q (hO b hb') fun z=>hb' (hf b z)
theorem IT{P:Program}{w:World}{H:Hp}{h:Heap}{a:Addr}{o:HO}(x:gK P w H h a o):∃u,h.get? a=some u:=by
 cases o with
 |lst xs=>obtain⟨_,_,_,_,e⟩:=x;exact⟨_,e⟩
 |tup xs=>obtain⟨_,_,_,_,e,_⟩:=x;exact⟨_,e⟩
 |dK kvs=>obtain⟨_,_,_,_,_,_,_,e,_⟩:=x;exact⟨_,e⟩
 |dT kvs=>obtain⟨_,_,_,_,_,_,_,e,_⟩:=x;exact⟨_,e⟩
 |set S n=>obtain⟨_,_,_,_,e,_⟩:=x;exact⟨_,e⟩
 |ins C dx fs=>obtain⟨_,_,_,e,_⟩:=x;exact⟨_,e⟩
 |own y=>exact x
 |xd fs=>obtain⟨_,⟨_,_,_,e,_⟩,_⟩:=x;exact⟨_,e⟩
 |rng lo hi=>obtain⟨_,_,_,e⟩:=x;exact⟨_,e⟩
 |frz ob u=>obtain⟨e,_⟩:=x;exact⟨_,e⟩
 |tbl ps=>exact⟨_,(show h.get? a=some _ from x)⟩
 |met f y=>exact⟨_,(show h.get? a=some _ from x)⟩
 |raw ob=>exact⟨ob,x⟩
 |ext φ=>obtain⟨_,e,_⟩:=x;exact e
section
variable {X:Cx}{pins:List (Addr×Obj)}{σ:St}{H:Hp}{s:Shared}{O:Addr->Prop}{ea:Addr}{cls:Value}{E:XK}{base:Heap}
structure Frm(X:Cx):Prop where
 stk:X.stack=X.env::X.outer
 fr:X.env.frame=some X.env.locals
 ex:X.ex=[]
theorem qX(hF:Frm X):frs (X.env::X.outer)=X.env.locals::X.fs:=by
 unfold Cx.fs frs
 rw[filterMap_cons,hF.fr]
theorem BP(I:Inv X pins σ H s):∀b∈X.fs,∀o,s.heap.get? b=some o->∀vs,o.data≠.fields vs:=fun b hb o e vs=>by
 obtain⟨_,o',e',d⟩:=I.qu.mem hb
 rw[e] at e'
 rw[Option.some.inj e']
 exact d vs
theorem Gu(I:Inv X pins σ H s):∀o,X.io.heap.get? X.env.locals≠some o:=fun o e=>absurd (Heap.lt_size e) (Nat.not_lt.mpr I.ok.above)
theorem D9(hF:Frm X)(I:Inv X pins σ H s):∀b∈frs (X.env::X.outer),H b=none:=fun b hb=>by
 rw[qX hF] at hb
 rcases List.mem_cons.mp hb with e|hb
 ·rw[e];exact I.free
 ·exact I.A3 b (by rw[hF.stk,qX hF];exact mem_cons_of_mem _ hb)
theorem uf(hF:Frm X)(I:Inv X pins σ H s):s.heap.FunFrames X.base (X.env::X.outer):=by
 have:=I.stack
 rw[hF.stk] at this
 exact this
theorem Ll(hF:Frm X)(I:Inv X pins σ H s)(hO:∀b o,X.io.heap.get? b=some o->O b)(ht:∀b,H b≠none->O b){h':Heap}(k:Kp O (frs (X.env::X.outer)) s.heap h')(F:Fly O h' ea cls .none)(q:E cls none H) :
  CX1 X.prog X.w X.outer X.H₀ X.io E (.ref ea) {s with heap:=h'}:=by
 refine⟨O,ea,cls,H,rfl,I.os,I.bare,?_,HOk.fly I.hok k ht (D9 hF I),hO,ht,F,q⟩
 rw[qX hF] at k
 have u:=I.base
 rw[hF.ex] at u
 exact Un.fly u k hO (Gu I) (BP I)
theorem leave_new{vs:List Value}{h1:Heap}{Qe:Value->Shared->Prop}(hF:Frm X)(I:Inv X pins σ H s)(hx:Heap.MadeExcOf s.heap h1 ea cls vs)(q:E cls none H) :
  wpAny (model X.prog X.w) X.A (leaving X.env (.ref ea)) (fun _ s''=>CX1 X.prog X.w X.outer X.H₀ X.io E (.ref ea) s'') Qe {s with heap:=h1}:=by
 obtain⟨t,he,_,_⟩:=hx.there
 have I1:Inv X pins σ H {s with heap:=h1}:=I.kept (t':=s.toks) hx.keeps
 have fr:X.A.frames=some (X.env::X.outer):=by rw[<- hF.stk];exact I.ok.frames
 have kp:Kp (fun b=>∃o,s.heap.get? b=some o) (frs (X.env::X.outer)) s.heap h1:=.of hx.keeps
 refine CT (O:=fun b=>∃o,s.heap.get? b=some o) (s:={s with heap:=h1}) fr (uf hF I1) hF.fr he rfl rfl rfl rfl (fun b ⟨o,e⟩=>Heap.lt_size (hx.keeps b o e)) (fun ⟨o,e⟩=>by rw[hx.new] at e;cases e) fun h' k F=>?_
 have e:=Ll (s:=s) (X:=X) hF I (fun b o e=>I.base.there b o e (by rw[hF.ex];exact fun z=>nomatch z)) (fun b hb=>by
  cases z:H b with
  |none=>exact absurd z hb
  |some o=>exact IT (I.hok b o z)) (kp.trans k) F q
 exact e
end
structure XOk(X:Cx)(E:XK):Prop where
 new:∀(pins:List (Addr×Obj)) (σ:St) (H:Hp) (s:Shared) (ea:Addr) (cls:Value) (vs:List Value) (h1:Heap),Inv X pins σ H s->Heap.MadeExcOf s.heap h1 ea cls vs->E cls none H->X.xe (.ref ea) {s with heap:=h1}
 pas:Passes (CX1 X.prog X.w) X E
theorem zX{X:Cx}{pins:List (Addr×Obj)}{σ:St}{H:Hp}{s s':Shared}{E:XK}{e:Value}{Qe:Value->Shared->Prop}(hF:Frm X)(I:Inv X pins σ H s)(h:CX1 X.prog X.w X.stack H s E e s') :
  wpAny (model X.prog X.w) X.A (leaving X.env e) (fun _ s''=>CX1 X.prog X.w X.outer X.H₀ X.io E e s'') Qe s':=by
 obtain⟨O,ea,cls,H',rfl,os,bare,un,hok,hO,ht,F,q⟩:=h
 have I':Inv X pins σ H' s':=I.FV (ch:=[]) os un hok bare (fun b z=>nomatch z)
 have fr:X.A.frames=some (X.env::X.outer):=by rw[<- hF.stk];exact I.ok.frames
 refine FG (s:=s') fr (uf hF I') hF.fr F fun h' k F'=>?_
 exact Ll (s:=s') hF I' (fun b o e=>by
  obtain⟨o',e'⟩:=I.base.there b o e (by rw[hF.ex];exact fun z=>nomatch z)
  exact hO b o' e') ht k F' q
theorem G1{P:Program}{w:World}{K:PySem.W.Frag}{mg:Str->Option Value}{base:Heap}{N:List Str}{qual:Str}{scope:Scope}{f:Addr}{cd:Value}{A:Around}{outer:List Env}{s:Shared}{H:Hp}{E:XK} :
  XOk (kn (CX1 P w) P w K mg base N qual scope f cd A outer s H E) E where
 new:=fun pins σ H1 s1 ea cls vs h1 I hx q=>leave_new (X:=kn (CX1 P w) P w K mg base N qual scope f cd A outer s H E) ⟨rfl,rfl,rfl⟩ I hx q
 pas:=fun pins σ H1 s1 e s' I h=>zX (X:=kn (CX1 P w) P w K mg base N qual scope f cd A outer s H E) ⟨rfl,rfl,rfl⟩ I h
noncomputable abbrev DTX:=Rho->Mu->(Mu->Prop)->Prop
noncomputable abbrev XSp:=List D->Mu->(Mu->Prop)->Prop
noncomputable def ED(K:PySem.W.Frag)(E:XK)(C:Value)(U:Mu)(H:Hp)(Xk:Mu->Prop):Prop:=∀Z H',Ext K U H Z H'->bK K Z H'->Xk Z->E C none H'
theorem ED.on{K:PySem.W.Frag}{E:XK}{C:Value}{U am:Mu}{H H1:Hp}{Xk:Mu->Prop}(w:ED K E C U H Xk)(e:Ext K U H am H1):ED K E C am H1 Xk:=fun Z H' e'=>w Z H' (e.trans e')
noncomputable def XE(X:Cx)(E:XK)(C:Value)(e:Expr)(tx:DTX):Prop:=∃t:TE,PE X e t/\∀σ H ρ U Xk Q,St0 X.K H ρ U σ->tx ρ U Xk->ED X.K E C U H Xk->t σ H Q
noncomputable def XS(X:Cx)(E:XK)(C:Value)(st:Stmt)(tx:DTX):Prop:=∃t:TS,PS X st t/\∀σ H ρ U Xk D,St0 X.K H ρ U σ->tx ρ U Xk->ED X.K E C U H Xk->t D σ H
noncomputable def XSs(X:Cx)(E:XK)(C:Value)(st:List Stmt)(tx:DTX):Prop:=∃t:TS,PSs X st t/\∀σ H ρ U Xk D,St0 X.K H ρ U σ->tx ρ U Xk->ED X.K E C U H Xk->t D σ H
noncomputable def spX(K:PySem.W.Frag)(C:Value)(dsp:XSp):Sp:=fun vs H _ E=>∃(ds:List D) (U:Mu) (Xk:Mu->Prop),bK K U H/\iW K U H ds vs/\dsp ds U Xk/\ED K E C U H Xk
section
variable {X:Cx}{E:XK}{C:Value}{e:Expr}{es:List Expr}{t:DTA}{te:DTE}{tx ty:DTX}{p pos:Pos}{x:Str}{k:Nat}{f:Addr}{fd:FuncData}{ps:List Str}{dsp:XSp}{st:Stmt}{sts:List Stmt}
noncomputable def Hi(dsp:XSp)(t:DTA):DTX:=fun ρ U Xk=>t ρ U fun ds am=>dsp ds am Xk
theorem Gv(F:iy X.prog X.w X.K X.mg X.base (CX1 X.prog X.w) k f fd ps (spX X.K C dsp))(hr:fV k X.A)(hg:Gl X x)(hm:X.mg x=some (.ref f))(hk:keepIn X.K (.ref f)=true)(hb:Binds X.K fd ps [])(hx:XOk X E)
  (ha:DA X (e::es) t) (hdb:(x==("__debug__":Str))=false:=by decide) (he:starEach (e::es) X.env=(false,eval e X.env)::starEach es X.env:=by rfl) (hpl:(backTo pos (starEach es X.env)).any (·.1)=false:=by rfl) :
  XE X E C (.Call (.Name x p) (e::es) [] pos) (Hi dsp t):=by
 obtain⟨t1,p1,l1⟩:=ha
 refine⟨_,Hv F hr hg hm hk hb .nil hx.pas p1 hdb he hpl,fun σ H ρ U Xk Q S h wsh=>?_⟩
 refine l1 σ H ρ U _ _ S h fun ds us am H1 e1 S1 rs len h1=>?_
 exact⟨ds,am,Xk,S1.mu,by rw[append_nil];exact rs,h1,wsh.on e1⟩
theorem Mr(h:XE X E C e tx)(hs:swapsWith e none pos.line X.env=pure false:=by rfl):XS X E C (.Expr e pos) tx:=by
 obtain⟨t1,p1,l1⟩:=h
 exact⟨_,GC p1 hs,fun σ H ρ U Xk D S h wsh=>l1 σ H ρ U Xk _ S h wsh⟩
noncomputable def Ku:DTX:=fun _ _ _=>False
theorem IS:XSs X E C sts Ku:=⟨_,zJ,fun _ _ _ _ _ _ _ h _=>h.elim⟩
noncomputable def xIf(tc:DTT)(tx ty:DTX):DTX:=fun ρ U Xk=>tc ρ U fun b am=>if b=true then tx ρ am Xk else ty ρ am Xk
theorem R9{c:Expr}{a b:List Stmt}{tc:DTT}(hc:DT X c tc)(ha:XSs X E C a tx)(hb:XSs X E C b ty):XS X E C (.If c a b pos) (xIf tc tx ty):=by
 obtain⟨t0,p0,l0⟩:=hc
 obtain⟨t1,p1,l1⟩:=ha
 obtain⟨t2,p2,l2⟩:=hb
 refine⟨_,Oa p0 p1 p2,fun σ H ρ U Xk D S h wsh=>?_⟩
 refine l0 σ H ρ U _ _ S h fun c am H1 e1 S1 h1=>?_
 cases c with
 |true=>exact Fp (l1 σ H1 ρ am Xk D S1 (by simpa using h1) (wsh.on e1))
 |false=>exact Fd (l2 σ H1 ρ am Xk D S1 (by simpa using h1) (wsh.on e1))
theorem v7(h:XS X E C st tx):XSs X E C (st::sts) tx:=by
 obtain⟨t1,p1,l1⟩:=h
 exact⟨_,Dw p1 zJ,fun σ H ρ U Xk D S h wsh=>l1 σ H ρ U Xk _ S h wsh⟩
end
theorem _root_.L2.Fun.okX{P:Program}{w:World}{K:PySem.W.Frag}{mg:Str->Option Value}{base:Heap}{x qual:Str}{st:Stmt}{f:Addr}{fd:FuncData}{N ps:List Str}{k:Nat}{C:Value}{dsp:XSp}(F:Fun K x qual st f fd)(S:aJ N ps (az st))(len:∀ds U Xk,dsp ds U Xk->ds.length=ps.length)
  (hbody:∀(cdv:Value) (A:Around) (outer:List Env) (s:Shared) (H:Hp) (E:XK),fV k (A.deeper (envOfC qual (az st) s.heap.objs.size f cdv)) ->
   ∃tx,XSs (kn (CX1 P w) P w K mg base N qual (az st) f cdv A outer s H E) E C (d6 st) tx/\∀ds U Xk,dsp ds U Xk->tx (aS N ds) U Xk):iy P w K mg base (CX1 P w) (k+1) f fd ps (spX K C dsp):=by
 obtain⟨oc,od,kV,doc,pm,an,cdv,ct,osl,rfl,lk,hcd⟩:=F.ex
 refine K1 lk hcd S (fun vs H Q E h=>?_) fun A outer s H vs Q E hr hsp=>?_
 ·obtain⟨ds,U,Xk,_,r,h,_⟩:=h
  rw[<- r.length];exact len ds U Xk h
 ·obtain⟨tx,⟨t,p,l⟩,q⟩:=hbody cdv A outer s H E hr
  obtain⟨ds,U,Xk,ok,r,h,wsh⟩:=hsp
  exact⟨t,p,l (start N vs) H (aS N ds) U Xk _ ⟨ok,ug r⟩ (q ds U Xk h) wsh⟩
theorem Mn{K:PySem.W.Frag}{h:Heap}{C:Addr}{bmB:List Value}{newId:String}(X:K.In h)(q:excIn K C bmB newId=true) :
  ∃bm N nm q bs hdct sn sub ab col dd k0 k1 k2 k3 k5 mN,h.get? C=some (excClassObj nm q C N bs bm hdct sn sub ab col dd k0 k1 k2 k3 k5 newId)/\h.Ns N mN/\mN "__init__"=none/\OwnTail h bmB bm:=by
 unfold excIn at q
 split at q;rotate_left;· cases q
 rename_i dd cd sl ho;split at q;rotate_left;· cases q
 rename_i C' bm k0 k1 k2 k3 n k5 hm hs
 simp only[and_eq_true,beq_iff_eq,Bool.not_eq_true'] at q;obtain⟨⟨⟨⟨⟨rfl,rfl⟩,hdel⟩,ht⟩,hok⟩,hni⟩:=q
 obtain⟨nm,bs,mro,ns,qn,hd,sn,sub,ab,col,del⟩:=cd;dsimp only at hm hdel hok hni;subst hm hdel
 obtain rfl:sl = #[k0,k1,k2,k3,some (.builtin n),k5]:=by obtain⟨l⟩:=sl;exact congrArg Array.mk hs
 exact⟨bm,ns,nm,qn,bs,hd,sn,sub,ab,col,dd,k0,k1,k2,k3,k5,_,X _ _ ho,.of_isNs (PySem.W.isNs_of_in X hok),PySem.W.nsMap_none_of_in X hok hni,PySem.W.tail_of_in X ht⟩
section
variable {X:Cx}{E:XK}{x:Str}{C:Addr}
theorem Lf{txt:Str}{j}{np kp cpos pos:Pos}(hx:XOk X E)(hg:Gl X x)(hm:X.mg x=some (.ref C))(hq:excIn X.K C bmV "ValueError.__new__"=true)(hc:X.calm=true:=by rfl)(hdb:(x==("__debug__":Str))=false:=by decide)
  (hs:starEach [.Constant (.str txt) j kp] X.env=[(false,eval (.Constant (.str txt) j kp) X.env)]:=by rfl) :
  XS X E (.ref C) (.Raise (some (.Call (.Name x np) [.Constant (.str txt) j kp] [] cpos)) none pos) (fun _ U Xk=>Xk U):=by
 refine⟨fun D σ H=>E (.ref C) none H,fun pins s σ H D I h=>?_,fun σ H ρ U Xk D S h wsh=>wsh U H .refl S.mu h⟩
 obtain⟨tl,N,nm,q,bs,hdct,sn,sub,ab,col,dd,k0,k1,k2,k3,k5,mN,hC,hN,hni,T⟩:=Mn I.mod.kin hq
 refine wpAny_Raise_call_subT (C:=C) (nm:=nm) (q:=q) (N:=N) (bs:=bs) (bm:=tl) (hdct:=hdct) (sn:=sn) (sub:=sub) (ab:=ab) (col:=col) (dd:=dd) (k0:=k0) (k1:=k1) (k2:=k2) (k3:=k3) (k5:=k5)
  PySem.F.excBase_ValueError (mN:=mN) (T.hasType PySem.F.excBase_ValueError.hasBase) (I.ok.hd hc) (by rw[hs];rfl) hni (rR I hg hm ⟨rfl,?_⟩ hdb)
 have pa:=eO (X:=X) (es:=[]) (LB (x:=txt) (j:=j) (pos:=kp)) lN (by rw[hs];rfl) cpos pins s σ H (fun vs H1=>vs.length=1/\H1=H) I ⟨rfl,rfl⟩
 rw[hs] at pa ⊢
 refine Calls.evalArgs_plain (thn pa fun us s2 hq0=>?_)
 obtain⟨vs,H1,I1,r,l,e1⟩:=hq0
 subst e1
 exact⟨rfl,by rw[<- r.length,l];decide,I1.bk _ _ hC,hN.keeps I1.bk,T.keeps I1.bk,fun h' e hm'=>hx.new pins σ H1 s2 e _ _ h' I1 hm' h⟩
end
structure yn(K:PySem.W.Frag)(C:Addr):Prop where
 ga:findIn K (.ref C) "__getattribute__"=some (some (.builtin "BaseException.__getattribute__"))
 gx:findIn K (.ref C) "__getattr__"=some none
 cl:findIn K (.ref C) "__class__"=some (some (.builtin "object.__class__"))
 ob:mroIn K C (.type "object")=some true
 be:mroIn K C (.type "BaseException")=some true
 ci:(clsIn K C).isSome=true
section
variable {prog:Program}{w:World}{A:Around}{E:Value->Shared->Prop}{h:Heap}{g:Array GenState}{d:Drawn}{t:Nat}{os:OsState}{a C:Addr}{o:Obj}{K:PySem.W.Frag}
theorem Md{R:Result->Shared->Prop}(X:K.In h)(ZZ:yn K C)(hx:h.get? a=some o)(hc:o.cls = .ref C)(hq:R (.ok (.ret (.ref C))) ⟨h,g,d,t,os⟩) :
  codeAny (model prog w) A (.call (.builtin "getset_descriptor.__get__") ⟨[.builtin "object.__class__",.ref a,.ref C],[]⟩) R ⟨h,g,d,t,os⟩:=by
 have hT5:(⟨h,g,d,t,os⟩:Shared).TypeIs (.builtin "object.__class__") "getset_descriptor":=F.typeOf_object_class
 have sub:∀{A':Around} {Q':Bool->Shared->Prop} {E':Value->Shared->Prop} {g' d' t' os'},Q' true ⟨h,g',d',t',os'⟩->wpAny (model prog w) A' (isSubtype (.ref C) (.type (".".intercalate ("object.__class__".cutAt '.').dropLast))) Q' E' ⟨h,g',d',t',os'⟩:=fun q=>by
  rw[F.owner_object_class];exact (PySem.W.looks_mroIn X ZZ.ob).here q
 refine codeAny_call_builtin F.slot_gs_get.plain F.entry_gs_get (F.slot_gs_get.check _ _ _ _ _ _ _ _ hT5 (F.args_gs_get _ _ _) ?_)
 repeat (any_goals (first|assumption|(with_reducible refine wpAny_loadPart_at hx ?_;rw[hc])|with_reducible refine sub ?_|wp_step))
 refine⟨Code.quiet_builtin _ nofun,codeAny_builtin F.entry_object_class ?_⟩
 repeat (any_goals (first|assumption|(with_reducible refine wpAny_loadPart_at hx ?_;rw[hc])|wp_step))
theorem HW{tk:Tok}{Q:Fin->Shared->Prop}(X:K.In h)(ZZ:yn K C)(hx:h.get? a=some o)(hc:o.cls = .ref C)(hq:Q (.done (.ret (.ref C))) ⟨h,g,d,t,os⟩) :
  wpAny (model prog w) A (Builtin.«object.__getattribute__» ⟨[.ref a,.str "__class__" tk],[]⟩) Q E ⟨h,g,d,t,os⟩:=by
 have hT5:(⟨h,g,d,t,os⟩:Shared).TypeIs (.builtin "object.__class__") "getset_descriptor":=F.typeOf_object_class
 have f5:=F.typeOf_object_class;have f6:=F.slot_gs_get.lookup;have f7:=F.slot_gs_set.lookup
 have lk:∀{A':Around} {Q':Option Value->Shared->Prop} {E':Value->Shared->Prop} {g' d' t' os'},Q' (some (.builtin "object.__class__")) ⟨h,g',d',t',os'⟩->wpAny (model prog w) A' (typeLookup (.ref C) "__class__") Q' E' ⟨h,g',d',t',os'⟩:=fun q=>(PySem.W.looks_findIn X ZZ.cl).here q
 repeat (any_goals (first|assumption|(with_reducible refine wpAny_loadPart_at hx ?_;rw[hc])|with_reducible refine lk ?_|wp_step))
 refine Md X ZZ hx hc ?_
 repeat (any_goals (first|assumption|wp_step))
theorem Iw{nv:Value}{Q:Unit->Shared->Prop}(X:K.In h)(ZZ:yn K C)(hx:h.get? a=some o)(hc:o.cls = .ref C)(hq:Q () ⟨h,g,d,t,os⟩):wpAny (model prog w) A (checkBuiltinCall "BaseException.__getattribute__" ⟨[.ref a,nv],[]⟩) Q E ⟨h,g,d,t,os⟩:=by
 have hk:builtinKind "BaseException.__getattribute__"=some .slot:=nofun
 have hsp:splitId "BaseException.__getattribute__"=some ("BaseException","__getattribute__"):=nofun
 have ha:=F.args_bexc_ga (.ref a) nv
 have sub:∀{A':Around} {Q':Bool->Shared->Prop} {E':Value->Shared->Prop} {g' d' t' os'},Q' true ⟨h,g',d',t',os'⟩->wpAny (model prog w) A' (isSubtype (.ref C) (.type "BaseException")) Q' E' ⟨h,g',d',t',os'⟩:=fun q=>(PySem.W.looks_mroIn X ZZ.be).here q
 simp only[checkBuiltinCall,hk,hsp]
 refine wpAny_bind ?_
 unfold isInstance
 repeat (first|(with_reducible refine wpAny_loadPart_at hx ?_;rw[hc])|with_reducible refine sub ?_|wp_step)
 exact hq
theorem Lb{tk:Tok}{R:Result->Shared->Prop}(X:K.In h)(ZZ:yn K C)(hx:h.get? a=some o)(hc:o.cls = .ref C)(hq:R (.ok (.ret (.ref C))) ⟨h,g,d,t,os⟩) :
  codeAny (model prog w) A (.call (.builtin "BaseException.__getattribute__") ⟨[.ref a,.str "__class__" tk],[]⟩) R ⟨h,g,d,t,os⟩:=
 codeAny_call_builtin F.attr_ValueError.ga.plain F.entry_bexc_ga (Iw X ZZ hx hc (HW X ZZ hx hc hq))
theorem P7{tk:Tok}{Q:Value->Shared->Prop}(X:K.In h)(ZZ:yn K C)(hx:h.get? a=some o)(hc:o.cls = .ref C)(hq:Q (.ref C) ⟨h,g,d,t,os⟩):wpAny (model prog w) A (getAttrBy (.ref a) (.str "__class__" tk) false) Q E ⟨h,g,d,t,os⟩:=by
 have f3:=F.attr_ValueError.ga.bind (.ref a)
 have hx2:(Value.builtin "BaseException.__getattribute__"==Value.builtin "object.__getattribute__")=false:=nofun
 have hx1:(onTheHeap (Value.ref C)&&Value.builtin "BaseException.__getattribute__"==Value.builtin "object.__getattribute__")=false:=by rw[hx2];rfl
 have lk:∀{A':Around} {Q':Option Value->Shared->Prop} {E':Value->Shared->Prop} {g' d' t' os'},Q' (some (.builtin "BaseException.__getattribute__")) ⟨h,g',d',t',os'⟩->wpAny (model prog w) A' (typeLookup (.ref C) "__getattribute__") Q' E' ⟨h,g',d',t',os'⟩:=fun q=>(PySem.W.looks_findIn X ZZ.ga).here q
 have lx:∀{A':Around} {Q':Option Value->Shared->Prop} {E':Value->Shared->Prop} {g' d' t' os'},Q' none ⟨h,g',d',t',os'⟩->wpAny (model prog w) A' (typeLookup (.ref C) "__getattr__") Q' E' ⟨h,g',d',t',os'⟩:=fun q=>(PySem.W.looks_findIn X ZZ.gx).here q
 repeat (any_goals (first|assumption|(with_reducible refine wpAny_loadPart_at hx ?_;rw[hc])|with_reducible refine lk ?_|with_reducible refine lx ?_|wp_step))
 refine Lb X ZZ hx hc ?_
 repeat (any_goals (first|assumption|wp_step))
theorem Ly{Q:Option Value->Shared->Prop}(X:K.In h)(ZZ:yn K C)(hx:h.get? a=some o)(hc:o.cls = .ref C)(hq:Q (some (.ref C)) ⟨h,g,d,t+1,os⟩):wpAny (model prog w) A (getAttr? (.ref a) "__class__") Q E ⟨h,g,d,t,os⟩:=by
 unfold getAttr? getAttrBy?
 repeat (any_goals (first|assumption|with_reducible apply P7 X ZZ hx hc|wp_step))
theorem J6(ZZ:yn K C):PySem.W.KitX K (.ref a) (.ref C) (fun h=>∃o,h.get? a=some o/\o.cls = .ref C) where
 ty:=fun M h X ⟨o,e,c⟩=>by
  intro A' Q' E' s' k q
  unfold typeOf
  refine wpAny_bind (wpAny_loadPart (k _ _ e) ?_)
  rw[c]
  exact wpAny_pure q
 it:=fun M h X _=>by
  have z:=ZZ.ci
  unfold clsIn at z
  split at z
  ·rename_i ho
   intro A' Q' E' s' k q
   unfold isType loadHead
   exact wpAny_bind (wpAny_loadPart (k _ _ (X _ _ ho)) (wpAny_pure q))
  ·cases z
 ne:=fun h tp dd its n sl X htp=>by
  refine Bool.eq_false_iff.mpr fun q=>?_
  obtain rfl:C=tp:=Value.ref.inj (beq_iff_eq.mp q)
  have z:=ZZ.ci
  unfold clsIn at z
  split at z
  ·rename_i ho;have z':=(X _ _ ho).symm.trans htp;cases z'
  ·cases z
 ca:=fun {_ _ _ _ _ s} X ⟨o,e,c⟩ k=>by obtain⟨h,g,d,t,os⟩:=s;exact Ly X ZZ e c k
end
theorem MW{K:PySem.W.Frag}{h:Heap}{c P:Addr}{o:Obj}{q:Str}(X:K.In h)(l:K.lookup c=some o)(e:bO o=some (P,q))(ne:c≠P):PySem.W.CodeHd h c P:=by
 have ho:=X _ _ l
 unfold bO at e
 split at e
 ·rename_i cn vs hcls hd
  split at e
  ·rename_i hcn
   subst hcn
   split at e
   ·rename_i q' t' f1 f2 f3 f4 f5 f6 P' f7 f8 e1 e7 e9 e10 e11 e18
    split at e
    ·cases e
     refine⟨o,vs,f7,f8,f2,f3,f4,f5,f6,ho,hcls,hd,e11,?_,?_,?_,?_,?_,ne⟩
     ·rw[Array.getD_eq_getD_getElem?,e11];rfl
     ·rw[Array.getD_eq_getD_getElem?,e18];rfl
     ·rw[Array.getD_eq_getD_getElem?,e7];rfl
     ·rw[Array.getD_eq_getD_getElem?,e9];rfl
     ·rw[Array.getD_eq_getD_getElem?,e10];rfl
    ·cases e
   ·cases e
  ·cases e
 ·cases e
noncomputable def OL(K:PySem.W.Frag)(mg:Str->Option Value):Prop:=∃bm ob,mg "__builtins__"=some (.ref bm)/\bm≠builtinsNs/\K.lookup bm=some ob/\ob.cls = .type "module"/\ob.dict=some builtinsNs/\ob.data = .plain
theorem IU{pos:Pos}{w:Value}{l3:List Value}:∀{l:List Value},TriplesOk l->codeAmong pos l=some w->codeAmong pos (l++l3)=some w:=by
 intro l
 fun_induction TriplesOk l with
 |case1=>intro _ e;simp[codeAmong] at e
 |case2 a t b u x rest ih=>
  intro h e
  simp only[cons_append,codeAmong] at e ⊢
  split at e
  ·rename_i hc;rw[if_pos hc];exact e
  ·rename_i hc;rw[if_neg hc];exact ih h e
 |case3 l h1 h2=>intro h;exact h.elim
theorem ID{pos lpos:Pos}{cv:Value}{c:Value}:∀{l:List Value},TriplesOk l->codeAmong pos l=none->codeAmong pos (l++[rawInt lpos.line,rawInt lpos.col,c])=some cv->cv=c:=by
 intro l
 fun_induction TriplesOk l with
 |case1=>
  intro _ _ e
  simp only[nil_append,codeAmong,rawInt] at e
  split at e
  ·exact (Option.some.inj e).symm
  ·cases e
 |case2 a t b u x rest ih=>
  intro h n e
  simp only[cons_append,codeAmong] at n e
  split at n
  ·cases n
  ·rename_i hc;rw[if_neg hc] at e;exact ih h n e
 |case3 l h1 h2=>intro h;exact h.elim
section
variable {X:Cx}{pins:List (Addr×Obj)}{σ:St}{H:Hp}{s:Shared}
theorem HV{P c':Addr}{ps:Array Value}{l3:List Value}{h':Heap}{tk:Nat}{φ:Heap->Prop}(I:Inv X pins σ H s)(hP:H P=some (.tbl ps))(hx:Heap.ExtBut P s.heap h')(ht:h'.get? P=some (tabObj (ps++l3.toArray)))(hc:s.heap.objs.size<=c')(Db:φ h')(hc':∃o,h'.get? c'=some o)(hst:∀h1 h2:Heap,φ h1->(∀o,h1.get? c'=some o->h2.get? c'=some o)->φ h2) :
  Inv X pins σ (upd (upd H P (.tbl (ps++l3.toArray))) c' (.ext φ)) {s with heap:=h',toks:=tk}:=by
 have fc:H c'=none:=I.hok.fresh hc
 have nPc:P≠c':=aF hP fc
 have low:∀b o,s.heap.get? b=some o->b≠c':=fun b o e z=>absurd (Heap.lt_size e) (by rw[z];exact Nat.not_lt.mpr hc)
 have old:∀b,b≠P->b≠c'->upd (upd H P (.tbl (ps++l3.toArray))) c' (.ext φ) b=H b:=fun b h1 h2=>by rw[aR h2,aR h1]
 have atP:upd (upd H P (.tbl (ps++l3.toArray))) c' (.ext φ) P=some (.tbl (ps++l3.toArray)):=by rw[aR nPc];exact b8
 refine I.un (t':=tk) ⟨fun b o e n _ _=>hx b o (fun z=>by rw[z,hP] at n;cases n) e,fun b o e n _ _=>⟨o.slots,hx b o (fun z=>by rw[z,hP] at n;cases n) e⟩,fun b o e n _=>?_,fun b o e _=>?_,fun b xs e=>?_,fun b o u e=>?_,fun b qs e=>?_⟩ fun b o e=>?_
 ·rw[old b (fun z=>by rw[z,hP] at n;cases n) (low b o e)];exact n
 ·by_cases z:b=P
  ·exact⟨_,by rw[z];exact ht⟩
  ·exact⟨o,hx b o z e⟩
 ·rw[old b (fun z=>by rw[z,hP] at e;cases e) (aF e fc)];exact e
 ·rw[old b (fun z=>by rw[z,hP] at e;cases e) (aF e fc)];exact e
 ·by_cases z:b=P
  ·rw[z] at e;rw[hP] at e;cases e
   exact⟨l3.toArray,by rw[z];exact atP⟩
  ·exact⟨#[],by rw[old b z (aF e fc)];simpa using e⟩
 ·by_cases zc:b=c'
  ·subst zc
   rw[b8] at e;cases e
   exact⟨Db,hc',hst⟩
  ·by_cases z:b=P
   ·subst z
    rw[atP] at e;cases e
    exact ht
   ·rw[old b z zc] at e
    refine (I.hok b o e).vC (fun d u hd q=>hx d u ?_ q) (fun d q=>?_) fun d xs q=>?_
    ·rcases hd with rfl|hd
     ·exact z
     ·exact fun y=>by rw[y,hP] at hd;cases hd
    ·rw[old d (fun y=>by rw[y,hP] at q;cases q) (aF q fc)];exact q
    ·rw[old d (fun y=>by rw[y,hP] at q;cases q) (aF q fc)];exact q
theorem Lz{K:PySem.W.Frag}{P c':Addr}{ps:Array Value}{q:Str}{lpos:Pos}(t:yY K H)(hP:H P=some (.tbl ps))(htr:TriplesOk ps.toList)(hcs:∀pos cv,codeAmong pos ps.toList=some cv->∃c,cv = .ref c/\H c=some (.ext (codeAt c (cu q))))(hf:codeAmong lpos ps.toList=none)(fc:H c'=none)
  (hu:∀c2 o2 q2,K.lookup c2=some o2->bO o2=some (P,q2)->q2=q) :
  yY K (upd (upd H P (.tbl (ps++[rawInt lpos.line,rawInt lpos.col,.ref c'].toArray))) c' (.ext (codeAt c' (cu q)))):=fun c2 o2 P2 q2 l2 e2=>by
 have nPc:P≠c':=aF hP fc
 have old:∀b,b≠P->b≠c'->upd (upd H P (.tbl (ps++[rawInt lpos.line,rawInt lpos.col,.ref c'].toArray))) c' (.ext (codeAt c' (cu q))) b=H b:=fun b h1 h2=>by rw[aR h2,aR h1]
 have cold:∀c qq,H c=some (.ext (codeAt c qq))->upd (upd H P (.tbl (ps++[rawInt lpos.line,rawInt lpos.col,.ref c'].toArray))) c' (.ext (codeAt c' (cu q))) c=some (.ext (codeAt c qq)):=fun c qq h=>by rw[old c (fun z=>by rw[z,hP] at h;cases h) (aF h fc)];exact h
 by_cases z:P2=P
 ·subst z
  obtain rfl:=hu c2 o2 q2 l2 e2
  refine⟨_,by rw[aR nPc];exact b8,by rw[Array.toList_append];exact TriplesOk_snoc _ _ _ _ htr,fun pos cv e=>?_⟩
  rw[Array.toList_append] at e
  cases hp:codeAmong pos ps.toList with
  |some w=>
   obtain⟨c,hw,hc⟩:=hcs pos w hp
   have:codeAmong pos (ps.toList++[rawInt lpos.line,rawInt lpos.col,.ref c'])=some w:=IU htr hp
   have e':some w=some cv:=this.symm.trans e
   cases e'
   exact⟨c,hw,cold c _ hc⟩
  |none=>
   have:=ID htr hp (show codeAmong pos (ps.toList++[rawInt lpos.line,rawInt lpos.col,.ref c'])=some cv from e)
   exact⟨c',this,b8⟩
 ·obtain⟨qs,a1,a2,a3⟩:=t c2 o2 P2 q2 l2 e2
  exact⟨qs,by rw[old P2 z (aF a1 fc)];exact a1,a2,fun pos cv e=>let ⟨c,w1,w2⟩:=a3 pos cv e;⟨c,w1,cold c _ w2⟩⟩
theorem OM{U:Mu}{params:Arguments}{body:Expr}{lsc:Scope}{lpos:Pos}{cl:List (Str×Addr)}{c P:Addr}{o:Obj}{q:Str}{Qd:Value->Shared->Prop}(I:Inv X pins σ H s)(ok:bK X.K U H)(hcode:X.env.code = .ref c)(hl:X.K.lookup c=some o)
  (hlc:bO o=some (P,q)) (hu:∀c2 o2 q2,X.K.lookup c2=some o2->bO o2=some (P,q2)->q2=q) (hq:X.env.qual=q ++ ".<locals>.") (hB:OL X.K X.mg) (hcl:closureFor lsc X.env=pure cl) (hdef:defaultsOf params X.env=([],[]))
  (k:∀(fa c1:Addr) (ctv pm:Value) (H1:Hp) (s1:Shared),Inv X pins σ H1 s1->Ext X.K U H U H1->bK X.K U H1->s1.heap.get? fa=some {cls:=.type "function",data:=.func (kla_fn "<lambda>" (cu q) params body lsc cl pm (.ref c1) ctv)}->H1 fa=none->fa ∉ frs X.stack->H1 c1=some (.ext (codeAt c1 (cu q)))->Qd (.ref fa) s1) :
  wpAny (model X.prog X.w) X.A (eval (.Lambda params body lsc lpos) X.env) Qd X.xe s:=by
 refine PySem.W.kla_eval hdef ?_
 rw[hq]
 obtain⟨ps,hP,htr,hcs⟩:=ok.tab c o P q hl hlc
 have getP:s.heap.get? P=some (tabObj ps):=I.hok P _ hP
 have nK:∀b ob,X.K.lookup b=some ob->b≠P:=fun b ob e z=>by
  have:=(I.bs b ob (I.mod.kin b ob e)).2
  rw[z,hP] at this;cases this
 have C:=MW I.kIn hl hlc (nK c o hl)
 have hg:s.heap.Ns mainGlobals X.mg:=I.mod.glob.keeps I.bk
 have hgP:mainGlobals≠P:=fun z=>by
  obtain⟨og,es,ep,e,d,_⟩:=hg
  rw[z,getP] at e;cases e;cases d
 have hb:s.heap.BuiltinsAt X.mg P:=by
  obtain⟨bm,ob,b1,b2,b3,b4,b5,b6⟩:=hB
  refine⟨bm,ob,b1,b2,fun z=>?_,nK bm ob b3,I.kIn _ _ b3,b4,b5,b6⟩
  obtain⟨og,es,ep,e,d,_⟩:=hg
  rw[<- z,I.kIn _ _ b3] at e;cases e;rw[b6] at d;cases d
 have stk:∀b,s.heap.objs.size<=b->b ∉ frs X.stack:=fun b hb hm=>by
  obtain⟨_,ob,e,_⟩:=I.stack.mem hm
  exact absurd (Heap.lt_size e) (Nat.not_lt.mpr hb)
 cases hf:codeAmong lpos ps.toList with
 |some cv=>
  obtain⟨c1,rfl,hc1⟩:=hcs lpos cv hf
  refine PySem.W.kla_makeFunctionHit hcl I.ok.glob hg hcode C getP htr hf hb fun ctv h' tk hk hsz=>?_
  have I2:Inv X pins σ H {s with heap:=h'.push {cls:=.type "function",data:=.func (kla_fn "<lambda>" (cu q) params body lsc cl ((X.mg "__name__").getD .none) (.ref c1) ctv)},toks:=tk}:=I.kept (t':=tk) fun b u e=>Heap.get?_push_of_some _ (hk b u e)
  exact k h'.objs.size c1 ctv _ H _ I2 .refl ok (Heap.get?_push_size _ rfl) (I.hok.fresh hsz) (stk _ hsz) hc1
 |none=>
  refine PySem.W.kla_makeFunction hcl I.ok.glob hg hcode C getP htr hf hgP hb fun c' ctv h' tk hx hge hlt hrec htb=>?_
  have hca:codeAt c' (cu q) h':=by
   obtain⟨c2,oc,vs,t,e2,g2,d2,v2⟩:=hrec
   cases e2
   exact⟨oc,vs,t,g2,d2,v2⟩
  have fc:H c'=none:=I.hok.fresh hge
  have I1:Inv X pins σ (upd (upd H P (.tbl (ps++[rawInt lpos.line,rawInt lpos.col,.ref c'].toArray))) c' (.ext (codeAt c' (cu q)))) {s with heap:=h',toks:=tk}:=HV (φ:=codeAt c' (cu q)) I hP hx htb hge hca (let ⟨oc,_,_,g2,_⟩:=hca;⟨oc,g2⟩) (fun h1 h2 ⟨oc,vs,t,g2,d2,v2⟩ kk=>⟨oc,vs,t,kk _ g2,d2,v2⟩)
  have I2:Inv X pins σ (upd (upd H P (.tbl (ps++[rawInt lpos.line,rawInt lpos.col,.ref c'].toArray))) c' (.ext (codeAt c' (cu q)))) {s with heap:=h'.push {cls:=.type "function",data:=.func (kla_fn "<lambda>" (cu q) params body lsc cl ((X.mg "__name__").getD .none) (.ref c') ctv)},toks:=tk}:=I1.kept (t':=tk) fun b u e=>Heap.get?_push_of_some _ e
  have old:∀b,b≠P->b≠c'->upd (upd H P (.tbl (ps++[rawInt lpos.line,rawInt lpos.col,.ref c'].toArray))) c' (.ext (codeAt c' (cu q))) b=H b:=fun b h1 h2=>by rw[aR h2,aR h1]
  have nPc:P≠c':=aF hP fc
  have ex:Ext X.K U H U (upd (upd H P (.tbl (ps++[rawInt lpos.line,rawInt lpos.col,.ref c'].toArray))) c' (.ext (codeAt c' (cu q)))):=⟨fun b u e n nt=>by rw[old b (fun z=>by rw[z,hP] at e;cases e;exact nt) (aF e fc)];exact e,fun b qs e n=>by
   by_cases z:b=P
   ·exact⟨_,by rw[z,aR nPc];exact b8⟩
   ·exact⟨qs,by rw[old b z (aF e fc)];exact e⟩,fun _ ds e=>⟨ds,e⟩,fun _ e _=>e,fun b o e _=>by
   by_cases z:b=P
   ·exact⟨_,by rw[z,aR nPc];exact b8⟩
   ·exact⟨o,by rw[old b z (aF e fc)];exact e⟩,fun _ c e=>⟨c,e⟩⟩
  have mu:bK X.K U (upd (upd H P (.tbl (ps++[rawInt lpos.line,rawInt lpos.col,.ref c'].toArray))) c' (.ext (codeAt c' (cu q)))):=⟨fun a ds e=>by
   obtain⟨xs,h1,h2⟩:=ok a ds e
   exact⟨xs,by rw[old a (fun z=>by rw[z,hP] at h1;cases h1) (aF h1 fc)];exact h1,h2.ext ok ex⟩,Lz ok.tab hP htr hcs hf fc hu,fun a c e=>by
   obtain⟨y,o,h1,h2⟩:=ok.box a c e
   exact⟨y,o,by rw[old a (fun z=>by rw[z,hP] at h1;cases h1) (aF h1 fc)];exact h1,h2.ext ok ex⟩⟩
  have hfr:s.heap.objs.size<=h'.objs.size:=le_trans hge (Nat.le_of_lt hlt)
  refine k h'.objs.size c' ctv _ _ _ I2 ex mu (Heap.get?_push_size _ rfl) ?_ (stk _ hfr) b8
  have:h'.objs.size≠c':=Nat.ne_of_gt hlt
  by_cases z:h'.objs.size=P
  ·exact absurd (Heap.lt_size getP) (by rw[<- z];exact Nat.not_lt.mpr hfr)
  ·rw[old _ z this];exact I.hok.fresh hfr
end
noncomputable def sX(lsc:Scope)(cl:List (Str×Addr))(q:Str)(fa c1 L:Addr):Env:={scope:=lsc,locals:=L,globals:=mainGlobals,cells:=cl,qual:=q ++ ".<locals>.",func:=some fa,code:=.ref c1,frame:=some L,builtins:=builtinsNs}
noncomputable def uY(P:Program)(w:World)(K:PySem.W.Frag)(mg:Str->Option Value)(base:Heap)(N:List Str)(lsc:Scope)(cl:List (Str×Addr))(q:Str)(fa c1:Addr)(A:Around)(outer:List Env)(s:Shared)(H:Hp)(E:XK):Cx where
 prog:=P
 w:=w
 K:=K
 mg:=mg
 base:=base
 A:=A.deeper (sX lsc cl q fa c1 s.heap.objs.size)
 N:=N
 io:=s
 H₀:=H
 env:=sX lsc cl q fa c1 s.heap.objs.size
 outer:=outer
 stack:=sX lsc cl q fa c1 s.heap.objs.size::outer
 ex:=[]
 calm:=true
 fn:=fun _=>false
 pn:=[]
 xe:=fun e s'=>wpAny (model P w) (A.deeper (sX lsc cl q fa c1 s.heap.objs.size)) (leaving (sX lsc cl q fa c1 s.heap.objs.size) e) (fun _ s''=>CX1 P w outer H s E e s'') (fun e' s''=>CX1 P w outer H s E e' s'') s'
section
variable {P:Program}{w:World}{K:PySem.W.Frag}{mg:Str->Option Value}{base:Heap}{N:List Str}{lsc:Scope}{cl:List (Str×Addr)}{q:Str}{fa c1:Addr}{A:Around}{outer:List Env}{s:Shared}{H:Hp}{E:XK}{σ:St}{k:Nat}{params:Arguments}{body:Expr}{pm ctv:Value}{t:TE}
theorem MI:XOk (uY P w K mg base N lsc cl q fa c1 A outer s H E) E where
 new:=fun pins σ H1 s1 ea cls vs h1 I hx qq=>leave_new (X:=uY P w K mg base N lsc cl q fa c1 A outer s H E) ⟨rfl,rfl,rfl⟩ I hx qq
 pas:=fun pins σ H1 s1 e s' I h=>zX (X:=uY P w K mg base N lsc cl q fa c1 A outer s H E) ⟨rfl,rfl,rfl⟩ I h
structure Clo(lsc:Scope)(cl:List (Str×Addr))(N:List Str)(σ:St)(h:Heap)(H:Hp):Prop where
 cell:∀x c,cl.lookup x=some c->∃v,h.IsCell c v
 free:∀x c,cl.lookup x=some c->H c=none
 inj:∀x y c,cl.lookup x=some c->cl.lookup y=some c->x=y
 has:∀x,lsc.names.lookup x=some .cell\/lsc.names.lookup x=some .free->∃a,cl.lookup x=some a
 vals:∀(i:Nat) (x:Str) (v:V),N[i]? = some x->σ[i]? = some (some v)->Vis lsc x->∃u c,RelV v u/\lsc.names.lookup x=some .free/\cl.lookup x=some c/\h.IsCell c (some u)
 len:σ.length=N.length
theorem Kc{Q:VK}(hk:lsc.kind = .function)(hco:lsc.isCoroutine=false)(hgen:lsc.isGenerator=false)(hcell:∀y∈lsc.names,y.2≠.cell)(hr:fV (k+1) A)(e0:EA P w K mg base A outer s H)
  (ho:s.heap.get? fa=some {cls:=.type "function",data:=.func (kla_fn "<lambda>" q params body lsc cl pm (.ref c1) ctv)}) (hcd:H c1=some (.ext (codeAt c1 q))) (hbind:bindArgs (kla_fn "<lambda>" q params body lsc cl pm (.ref c1) ctv) ⟨[],[]⟩=pure [])
  (C:Clo lsc cl N σ s.heap H) (pe:PE (uY P w K mg base N lsc cl q fa c1 A outer s H E) body t) (ht:t σ H Q) :
  codeAny (model P w) A (.call (.ref fa) ⟨[],[]⟩) (CR (CX1 P w) outer P w H s Q E) s:=by
 have crec:s.heap.CodeRec (.ref c1) q:=by
  obtain⟨⟨o,vs,t,g,d,v⟩,_,_⟩:=e0.hok c1 _ hcd
  exact⟨c1,o,vs,t,rfl,g,d,v⟩
 refine PySem.W.kla_callFunE hr.depth ho rfl hco hgen rfl crec ?_
 rw[hbind]
 refine wpAny_pure (wpAny_newFunctionEnv hcell (fun y hy=>nomatch hy) (fun ls hns hsb=>?_) hk)
 have sB:∀b o,s.heap.get? b=some o->ls.get? b=some o:=fun b o e=>hsb.extBut b o (ne_of_lt (Heap.lt_size e)) (Heap.get?_push_of_some _ e)
 have lim:ls.NoLimit:=e0.mod.nolimit.keeps fun b o e=>sB b o (e0.bs b o e).1
 refine⟨lim,?_⟩
 have noA:∀b:Addr,b ∉ (uY P w K mg base N lsc cl q fa c1 A outer s H E).ex:=fun b z=>nomatch z
 have I:Inv (uY P w K mg base N lsc cl q fa c1 A outer s H E) [] σ H {s with heap:=ls,toks:=s.toks+([]:List (Str×Value)).length}:=by
  refine⟨⟨e0.mod,hk,rfl,rfl,le_refl _,C.inj,C.has,fun _ _ z=>(nomatch z),fun _=>hr.hd,.inl hr.hd,Around.frames_deeper e0.frames,.inr ⟨rfl,rfl⟩,fun b z=>absurd z (noA b),e0.bs,e0.bsz,fun b _ _=>noA b,fun b z=>absurd z (noA b),e0.qu,e0.frf⟩,
   rfl,e0.bare,Un.kept sB,⟨_,hns,fun i x v h1 h2 h3=>?_⟩,fun x c h=>?_,e0.hok.fresh (le_refl _),C.free,fun p hp=>(nomatch hp),e0.hok.kept sB,C.len⟩
  ·obtain⟨u,c,r,f1,f2,o,f3,f4⟩:=C.vals i x v h1 h2 h3
   exact⟨u,r,.inr ⟨.inr f1,c,f2,o,sB _ _ f3,f4⟩⟩
  ·obtain⟨v,o,f3,f4⟩:=C.cell x c h
   exact⟨v,o,sB _ _ f3,f4⟩
 show codeAny _ _ (.expr body (sX lsc cl q fa c1 s.heap.objs.size)) _ _
 refine PySem.W.kla_codeExpr (wpAny_mono (pe [] _ σ H Q I ht) (fun v s' hv=>?_) fun e s' hs=>hs)
 obtain⟨x,H',J,r,qq⟩:=hv
 exact⟨x,H',J.os,J.bare,J.base,J.hok,r,qq⟩
end
noncomputable def cxH(X:Cx)(ea:Addr)(oe:Obj):Cx:={X with A:=X.A.mark (some (.ref ea)),calm:=false,pn:=(ea,oe)::X.pn,xe:=fun _ _=>False}
section
variable {X:Cx}{pins:List (Addr×Obj)}{σ:St}{H:Hp}{s:Shared}{O:Addr->Prop}{ea:Addr}{oe:Obj}{vs:Array Value}
theorem As{h':Heap}(hF:Frm X)(I:Inv X pins σ H s)(k:Kp O (frs (X.env::X.outer)) s.heap h')(hO:∀b o,X.io.heap.get? b=some o->O b)(ht:∀b,H b≠none->O b)(hp:∀p∈X.pn++pins,O p.1):Inv X pins σ H {s with heap:=h'}:=by
 have cellK:∀c v,s.heap.IsCell c v->h'.IsCell c v:=fun c v ⟨o,e,d⟩=>by
  obtain⟨sl,e'⟩:=k.slot c o e fun vs z=>by rw[d] at z;cases z
  exact⟨_,e',d⟩
 refine⟨I.ok,I.os,I.bare,?_,?_,fun x c e=>let ⟨v,q⟩:=I.cell x c e;⟨v,cellK c v q⟩,I.free,I.jg,fun p hp'=>?_,HOk.fly I.hok k ht (D9 hF I),I.len⟩
 ·have k':=k
  rw[qX hF] at k'
  have u:=I.base
  rw[hF.ex] at u ⊢
  exact Un.fly u k' hO (Gu I) (BP I)
 ·obtain⟨m,⟨o,es,ep,e,d,r⟩,hl⟩:=I.loc
  obtain⟨sl,e'⟩:=k.slot _ o e fun vs z=>by rw[d] at z;cases z
  refine⟨m,⟨_,es,ep,e',d,r⟩,fun i x v h1 h2 h3=>?_⟩
  obtain⟨u,ru,lk⟩:=hl i x v h1 h2 h3
  refine⟨u,ru,?_⟩
  rcases lk with z|⟨z,c,z1,z2⟩
  ·exact .inl z
  ·exact .inr ⟨z,c,z1,cellK _ _ z2⟩
 ·obtain⟨a1,a2,a3,a4,a5⟩:=I.pin p hp'
  exact⟨k.keep _ _ a1 (hp p hp') fun z=>by
   rw[qX hF] at z
   rcases List.mem_cons.mp z with z|z
   ·exact a3 z
   ·exact a4 z,a2,a3,a4,a5⟩
theorem RB(I:Inv X pins σ H s)(he:s.heap.get? ea=some oe)(hH:H ea=none)(hL:ea≠X.env.locals)(hfs:ea ∉ X.fs)(hd:oe.data = .fields vs)(h2:vs[2]? = some .none):Inv (cxH X ea oe) pins σ H s:=
 ⟨⟨I.ok.mod,I.ok.kind,I.ok.glob,I.ok.blt,I.ok.above,I.ok.inj,I.ok.has,I.ok.cab,fun z=>(nomatch z),.inr ⟨ea,oe,vs,rfl,mem_cons_self,hd,h2⟩,I.ok.frames,I.ok.stk,I.ok.exf,I.ok.bs,I.ok.bsz,I.ok.Ie,I.ok.Ki,I.ok.qu,I.ok.frf⟩,
  I.os,I.bare,I.base,I.loc,I.cell,I.free,I.jg,fun p hp=>by
   rcases List.mem_cons.mp (show p∈(ea,oe)::(X.pn++pins) from hp) with z|z
   ·rw[z];exact⟨he,hH,hL,hfs,fun v y=>by rw[hd] at y;cases y⟩
   ·exact I.pin p z,I.hok,I.len⟩
theorem Js{h':Heap}{m':Str->Option Value}{tk:Nat}(ok:X.Ok)(I:Inv (cxH X ea oe) pins σ H s)(hn:h'.Ns X.env.locals m')(hs:Heap.SameBut X.env.locals s.heap h')(hx:X.ex=[]):Inv X pins (List.replicate X.N.length none) H {s with heap:=h',toks:=tk}:=by
 have kp:∀b o,b≠X.env.locals->s.heap.get? b=some o->h'.get? b=some o:=fun b o hb e=>(hs.2 b hb).trans e
 have low:∀b o,X.io.heap.get? b=some o->b≠X.env.locals:=fun b o e=>ne_of_lt (lt_of_lt_of_le (Heap.lt_size e) ok.above)
 have cne:∀x c,X.env.cells.lookup x=some c->c≠X.env.locals:=I.cne
 have u:Un X.fs X.ex X.H₀ H X.io.heap s.heap:=I.base
 have hneL:∀b∈X.fs,b≠X.env.locals:=fun b hb z=>by
  obtain⟨_,o,e,_⟩:=ok.qu.mem hb
  exact low b o e z
 refine⟨ok,I.os,I.bare,⟨fun b o e n f x=>kp b o (low b o e) (u.keep b o e n f x),fun b o e n f x=>?_,u.free,fun b o e x=>?_,u.qp,u.o8,u.o7⟩,⟨m',hn,fun i x v h1 h2 h3=>?_⟩,fun x c e=>?_,I.free,I.jg,fun p hp=>?_,fun b o e=>?_,by simp⟩
 ·obtain⟨sl,e1⟩:=u.slot b o e n f x
  exact⟨sl,kp b _ (low b o e) e1⟩
 ·obtain⟨o1,e1⟩:=u.there b o e x
  exact⟨o1,kp b o1 (low b o e) e1⟩
 ·rw[List.getElem?_replicate] at h2
  split at h2<;>cases h2
 ·obtain⟨v,o,e1,d⟩:=I.cell x c e
  exact⟨v,o,kp c o (cne x c e) e1,d⟩
 ·obtain⟨a1,a2,a3,a4,a5⟩:=I.pin p (mem_cons_of_mem _ hp)
  exact⟨kp _ _ a3 a1,a2,a3,a4,a5⟩
 ·refine (I.hok b o e).vC (fun d v hd q=>kp d v ?_ q) (fun _ q=>q) fun _ _ q=>q
  have fr:H X.env.locals=none:=I.free
  rintro rfl
  rcases hd with z|z
  ·rw[<- z,fr] at e;cases e
  ·rw[fr] at z;cases z
noncomputable def Ss(X:Cx)(di ni:Nat)(C:Value)(tS:Addr->Obj->TS):TS:=fun D σ H=>∃(fa:Addr) (Good:Hp->Prop),σ[di]? = some (some (.ref fa)) /\
 (∀s1,Inv X [] σ H s1->PySem.W.FnAt fa s1.heap/\codeAny (model X.prog X.w) X.A (.call (.ref fa) ⟨[],[]⟩) (CR (CX1 X.prog X.w) X.stack X.prog X.w H s1 (fun _ _=>False) (fun cls _ H'=>cls=C/\Good H')) s1) /\
 ∀H' ea oe,Good H'->oe.cls=C->H' ea=none->tS ea oe {nx:=fun _ _=>False,rt:=D.rt} (σ.set ni (some (.ref ea))) H'
theorem OO{dn x n:Str}{dp cp ep np hp pos:Pos}{di ni:Nat}{sK:Stmt}{suite:List Stmt}{C FE:Addr}{tS:Addr->Obj->TS}(hF:Frm X)(hpn:X.pn=[])(hNd:X.N.Nodup)(hd:X.N[di]? = some dn)(hv:Vis X.env.scope dn)(hn:X.N[ni]? = some n)(hl:X.env.kindOf n=some .local)(hg:Gl X x)(hm:X.mg x=some (.ref FE))
  (hex:exmOne X.K (.ref C) (.ref FE)=some true) (hs:∀ea oe,PSs (cxH X ea oe) (sK::suite) (tS ea oe)) (hdb:(dn==("__debug__":Str))=false:=by decide) (hdc:(dn==("__classdict__":Str))=false:=by decide) (hxb:(x==("__debug__":Str))=false:=by decide)
  (hsw:swapsWith (.Call (.Name dn dp) [] [] cp) none ep.line X.env=pure false:=by rfl) (pins0:List (Addr×Obj)) (s:Shared) (σ:St) (H:Hp) (D:Ends) (hp0:pins0=[]) (I0:Inv X pins0 σ H s) (h:Ss X di ni (.ref C) tS D σ H) :
  wpAny (model X.prog X.w) X.A (exec (.Try [.Expr (.Call (.Name dn dp) [] [] cp) ep] [.ExceptHandler (some (.Name x np)) (some n) (sK::suite) hp] [] [] pos) X.env) (SP X pins0 D) X.xe s:=by
 subst hp0
 obtain⟨fa,Good,D',deed,good⟩:=h
 refine wpAny_Try_except (wpAny_execs_cons (wpAny_Expr_any (wpAny_Call_Name_kw (wpAny_mono (K2 (X:=X.nox) hd hv hdb hdc [] s σ H (fun v H1=>v = .ref fa/\H1=H) (I0.wZ _) ⟨.ref fa,D',rfl,rfl⟩) (fun v s1 hv1=>?_) fun _ _ z=>z.elim)) I0.quiet hsw))
 obtain⟨y,H1,I1,r,e1,e2⟩:=hv1
 subst e1 e2
 cases r
 have I1:=I1.lP
 obtain⟨fn,code⟩:=deed s1 I1
 refine PySem.W.callWith_F0 fn (wpAny_call (codeAny_mono code fun r s' hr=>?_))
 cases r with
 |ok fl=>
  cases fl with
  |ret u=>obtain⟨_,_,_,_,_,_,_,z⟩:=hr;exact z.elim
  |next=>exact hr.elim
  |brk=>exact hr.elim
  |cont=>exact hr.elim
 |error e=>
  obtain⟨O,ea,cls,H',rfl,os,bare,un,hok,hO,ht,F,rfl,gd⟩:=hr
  have I':Inv X [] σ H' s':=I1.FV (ch:=[]) os un hok bare (fun b z=>nomatch z)
  have fr:X.A.frames=some (X.env::X.outer):=by rw[<- hF.stk];exact I0.ok.frames
  have hO0:∀b o,X.io.heap.get? b=some o->O b:=fun b o e=>by
   obtain⟨o',e'⟩:=I1.base.there b o e (by rw[hF.ex];exact fun z=>nomatch z)
   exact hO b o' e'
  have hpp:∀p∈X.pn++([]:List (Addr×Obj)),O p.1:=fun p hp=>by rw[hpn] at hp;exact nomatch hp
  have hLO:O X.env.locals:=by
   obtain⟨m,⟨o,es,ep,e,_⟩,_⟩:=I1.loc
   exact hO _ o e
  refine zE (s:=s') fr (uf hF I') hF.fr F fun h2 k2 F2=>?_
  have I2:=As hF I' k2 hO0 ht hpp
  refine jU (s:={s' with heap:=h2}) (fs:=frs (X.env::X.outer)) F2 fun h3 k3 F3=>?_
  have I3:=As hF I2 k3 hO0 ht hpp
  have keyE:∀{h:Heap} {fl:Value},Fly O h ea (.ref C) fl->∀{s4:Shared},s4.heap=h->Inv X [] σ H' s4->∃oe,oe.cls = .ref C/\s4.heap.get? ea=some oe/\H' ea=none/\Inv (cxH X ea oe) [] σ H' s4:=fun {h fl} G {s4} e4 I4=>by
   obtain⟨_,oe,vs,T,oT,ts,g1,g2,g3,g4,g5,g6,_⟩:=G
   have hH:H' ea=none:=by
    cases z:H' ea with
    |none=>rfl
    |some o=>exact absurd (ht ea (by rw[z];exact fun y=>nomatch y)) g6
   refine⟨oe,g2,by rw[e4];exact g1,hH,RB I4 (by rw[e4];exact g1) hH (fun z=>g6 (by rw[z];exact hLO)) (fun z=>?_) g3 g5⟩
   exact BP I4 ea z oe (by rw[e4];exact g1) vs g3
  obtain⟨oe3,c3,g3,n3,H3⟩:=keyE F3 rfl I3
  refine wpAny_handleBy_cons (codeAny_handlers_test (rR (X:=cxH X ea oe3) H3 hg hm ?_ hxb)) (by intro z;cases z)
  refine (PySem.W.exm_one (M:=model X.prog X.w) (K:=X.K) (h:=h3) I3.kIn (fun A' Q' E' s4 kk q=>?_) hex).here ?_
  ·have e3:=kk _ _ g3
   unfold typeOf
   refine wpAny_bind (wpAny_loadPart e3 ?_)
   rw[c3]
   exact wpAny_pure q
  ·refine codeAny_handlers_suite_as (jU (s:={s' with heap:=h3}) (fs:=frs (X.env::X.outer)) F3 fun h4 k4 F4=>?_)
   have I4:=As hF I3 k4 hO0 ht hpp
   obtain⟨oe,c4,g4,n4,H4⟩:=keyE F4 rfl I4
   refine kM (X:=cxH X ea oe) (v:=.ref ea) H4 hNd hn (Or.inl hl) rfl (fun s5 I5=>?_) (Or.inr hl)
   refine wpAny_mono (hs ea oe [] s5 _ H' {nx:=fun _ _=>False,rt:=D.rt} I5 (good H' ea oe gd c4 n4)) (fun f s6 h6=>?_) fun e s6 z=>z.elim
   cases f with
   |next=>obtain⟨_,_,_,z⟩:=h6;exact z.elim
   |brk=>obtain⟨_,_,_,z⟩:=h6;exact z.elim
   |cont=>obtain⟨_,_,_,z⟩:=h6;exact z.elim
   |ret u=>
    obtain⟨v,db,H6,I6,r6,q6⟩:=h6
    obtain⟨m6,hn6,_⟩:=I6.loc
    refine wpAny_nameGoes (env:=X.env) hl hn6 (by rw[I0.ok.kind];rfl) fun h7 m7 hn7 hs7=>?_
    exact⟨v,_,H6,Js I0.ok I6 hn7 hs7 hF.ex,r6,q6⟩
end
theorem RF{CX:CXT}{P:Program}{w:World}{K:PySem.W.Frag}{mg:Str->Option Value}{base:Heap}{k:Nat}{f:Addr}{name qual:Str}{params:Arguments}{body:List Stmt}{scope:Scope}{dV kV doc pm cdv ct oc:Value}{an od:Option Addr}{osl:Array (Option Value)}{N ps:List Str}
  {A:Around} {outer:List Env} {s:Shared} {H:Hp} {args:Args} {us:List Value} {vs:List V} {Q:VK} {E:XK} (lk:K.lookup f=some ⟨oc,od,.func (fnOf name qual params body scope dV kV doc pm an cdv ct),osl⟩) (hcd:codeIn K cdv qual=true) (S:aJ N ps scope)
  (hl:vs.length=ps.length) (hr:fV (k+1) A) (e0:EA P w K mg base A outer s H) (hb:BindsTo s (fnOf name qual params body scope dV kV doc pm an cdv ct) args (ps.zip us)) (r:Vals vs us)
  (hq:∀s1,Inv (kn CX P w K mg base N qual scope f cdv A outer s H E) [] (start N vs) H s1->wpAny (model P w) (A.deeper (envOfC qual scope s.heap.objs.size f cdv)) (execs body (envOfC qual scope s.heap.objs.size f cdv)) (SP (kn CX P w K mg base N qual scope f cdv A outer s H E) [] {nx:=fun _ H'=>Q .non H',rt:=Q}) (kn CX P w K mg base N qual scope f cdv A outer s H E).xe s1) :
  codeAny (model P w) A (.call (.ref f) args) (CR CX outer P w H s Q E) s:=by
 have KX:K.In s.heap:=e0.mod.kin.keeps fun b o e=>(e0.bs b o e).1
 have lim:s.heap.NoLimit:=e0.mod.nolimit.keeps fun b o e=>(e0.bs b o e).1
 have hkind:∀y∈ps.zip us,scope.names.lookup y.1=some .local\/(scope.names.lookup y.1=some .cell/\((cellsFrom (s.heap.objs.size+1) scope.names []).lookup y.1).isSome=true):=fun ⟨n,v⟩ hy=>by
  rcases S.par n (List.of_mem_zip hy).1 with q|q
  ·exact .inl q
  ·exact .inr ⟨q,PySem.W.cellsFrom_some _ _ _ (.inl q)⟩
 refine codeAny_call_function hr.depth (KX _ _ lk) rfl S.co S.gen rfl (PySem.W.codeRec_of KX hcd) (hb _ _ _ _ ?_)
 refine wpAny_newFunctionEnv_cells S.kind hkind fun env he s1 x=>?_
 subst he
 refine⟨lim.keeps x.toInCall.keep,codeAny_func ?_⟩
 have I:Inv (kn CX P w K mg base N qual scope f cdv A outer s H E) [] (start N vs) H s1:=zj S hr.hd e0 hl r x
 refine wpAny_mono (hq s1 I) (fun fl s' hs=>?_) fun e s' hs=>hs
 have fin:∀{db:St} {H':Hp} {v:V} {u:Value},Inv (kn CX P w K mg base N qual scope f cdv A outer s H E) [] db H' s'->RelV v u->Q v H'->CE outer P w H s Q u s':=
  fun {db H' v u} J rv q=>⟨v,H',J.os,J.bare,J.base,J.hok,rv,q⟩
 cases fl with
 |ret u=>obtain⟨v,db,H',J,rv,q⟩:=hs;exact fin J rv q
 |next=>obtain⟨db,H',J,q⟩:=hs;exact fin (v:=V.non) (u:=Value.none) J rfl q
 |brk=>obtain⟨_,_,_,q⟩:=hs;exact False.elim q
 |cont=>obtain⟨_,_,_,q⟩:=hs;exact False.elim q
structure JV(P:Program)(w:World)(K:PySem.W.Frag)(mg:Str->Option Value)(base:Heap)(k:Nat)(f:Addr)(fd:FuncData)(dn:Str)(C:Value)(nm:Str):Prop where
 run:∀(A:Around) (outer:List Env) (s:Shared) (H:Hp) (fa:Addr) (Good:Hp->Prop) (Q:VK),fV (k+1) A->EA P w K mg base A outer s H->BindsTo s fd ⟨[.ref fa],[]⟩ ([dn].zip [.ref fa]) ->
  (∀(A':Around) (outer':List Env) (s':Shared),fV k A'->EA P w K mg base A' outer' s' H->Un (frs outer) [] H H s.heap s'.heap->PySem.W.FnAt fa s'.heap/\codeAny (model P w) A' (.call (.ref fa) ⟨[],[]⟩) (CR (CX1 P w) outer' P w H s' (fun _ _=>False) (fun cls _ H'=>cls=C/\Good H')) s') ->
  (∀H',Good H'->∃U,bK K U H'/\∀H'',Ext K U H' U H''->bK K U H''->Q (.str nm) H'') ->
  codeAny (model P w) A (.call (.ref f) ⟨[.ref fa],[]⟩) (CR CX0 outer P w H s Q E0) s
theorem Qt{P:Program}{w:World}{K:PySem.W.Frag}{mg:Str->Option Value}{base:Heap}{k:Nat}{f:Addr}{fd:FuncData}{fx qual:Str}{st:Stmt}{dn n y1 y2 x:Str}{dp cp ep np hp pos:Pos}{sK:Stmt}{suite rest:List Stmt}{C FE:Addr}{nm:Str}{td:Addr->DTS}
  (F:Fun K fx qual st f fd) (S:aJ [dn,n,y1,y2] [dn] (az st))
  (hbody:d6 st = .Try [.Expr (.Call (.Name dn dp) [] [] cp) ep] [.ExceptHandler (some (.Name x np)) (some n) (sK::suite) hp] [] [] pos::rest)
  (hv:(az st).names.lookup dn=some .local) (hl:(az st).names.lookup n=some .local) (hg:(az st).names.lookup x=some .globalImplicit) (hm:mg x=some (.ref FE)) (hex:exmOne K (.ref C) (.ref FE)=some true)
  (hdb:(dn==("__debug__":Str))=false) (hdc:(dn==("__classdict__":Str))=false) (hxb:(x==("__debug__":Str))=false)
  (hsw:∀env:Env,swapsWith (.Call (.Name dn dp) [] [] cp) none ep.line env=pure false)
  (hs:∀(cdv:Value) (A:Around) (outer:List Env) (s:Shared) (H:Hp) (ea:Addr) (oe:Obj),oe.cls = .ref C->fV k (kn CX0 P w K mg base [dn,n,y1,y2] qual (az st) f cdv A outer s H E0).A->DSs (cxH (kn CX0 P w K mg base [dn,n,y1,y2] qual (az st) f cdv A outer s H E0) ea oe) (sK::suite) (td ea))
  (hrd:∀(ea fa:Addr) (U:Mu) (Qd:DK),Qd (.v (.str nm)) U->td ea {nx:=fun _ _=>False,rt:=Qd} [some (.o fa),some (.o ea),none,none] U):JV P w K mg base (k+1) f fd dn (.ref C) nm where
 run:=fun A outer s H fa Good Q hr e0 hb deed fin=>by
  obtain⟨oc,od,kV,doc,pm,an,cdv,ct,osl,rfl,lk,hcd⟩:=F.ex
  refine RF (k:=k+1) (vs:=[.ref fa]) (us:=[.ref fa]) lk hcd S rfl hr e0 hb (.cons rfl .nil) fun s1 I=>?_
  show wpAny _ _ (execs (d6 st) _) _ _ _
  rw[hbody]
  have hX:∀ea oe,PSs (cxH (kn CX0 P w K mg base [dn,n,y1,y2] qual (az st) f cdv A outer s H E0) ea oe) (sK::suite) (fun D db H'=>oe.cls = .ref C/\H' ea=none/\db=(start [dn,n,y1,y2] [V.ref fa]).set 1 (some (.ref ea))/\∃U,bK K U H'/\∀H'',Ext K U H' U H''->bK K U H''->D.rt (.str nm) H''):=fun ea oe pins' s' db H' D I' h=>by
   obtain⟨hc,hH,rfl,U,ok,q⟩:=h
   obtain⟨t,p,l⟩:=hs cdv A outer s H ea oe hc ((hr.deeper _).mono (Nat.le_succ _))
   refine p pins' s' _ H' D I' (l _ H' [some (.o fa),some (.o ea),none,none] U {nx:=fun _ _=>False,rt:=fun d Z=>d = .v (.str nm)/\Z=U} D ⟨ok,rfl,fun i d e=>?_⟩ (hrd ea fa U _ ⟨rfl,rfl⟩) (fun _ _ _ _ _ _ z=>z.elim) (fun d u Z H'' e' ok' r ⟨z1,z2⟩=>?_) (fun _ _ _ _ _ _ z=>z.elim) (fun _ _ _ _ _ _ z=>z.elim))
   ·match i,e with
    |0,e=>cases e;exact⟨.ref fa,rfl,rfl⟩
    |1,e=>cases e;exact⟨.ref ea,rfl,rfl⟩
    |2,e=>cases e
    |3,e=>cases e
   ·subst z1 z2
    cases r
    exact q H'' e' ok'
  refine wpAny_execs_cons (wpAny_mono (OO (X:=kn CX0 P w K mg base [dn,n,y1,y2] qual (az st) f cdv A outer s H E0) (C:=C) (FE:=FE) (di:=0) (ni:=1) ⟨rfl,rfl,rfl⟩ rfl S.nd rfl (Or.inl hv) rfl hl hg hm hex hX hdb hdc hxb (hsw _) [] s1 _ H {nx:=fun _ _=>False,rt:=Q} rfl I
   ⟨fa,Good,rfl,fun s2 I2=>deed _ _ s2 (hr.deeper _) I2.QK I2.base,fun H' ea oe gd c hn=>⟨c,hn,rfl,fin H' gd⟩⟩) (fun fl s' hs'=>?_) fun _ _ z=>z)
  cases fl with
  |ret u=>exact hs'
  |next=>obtain⟨_,_,_,z⟩:=hs';exact z.elim
  |brk=>obtain⟨_,_,_,z⟩:=hs';exact z.elim
  |cont=>obtain⟨_,_,_,z⟩:=hs';exact z.elim
section
variable {X:Cx}{e:Expr}{te:DTE}{p py pos:Pos}{y:Str}{C:Addr}{b:Bool}{ea:Addr}{oe:Obj}
noncomputable def lD(ea:Addr)(b:Bool)(te:DTE):DTE:=fun ρ U Q=>te ρ U fun x am=>match x with
 |.o a=>a=ea/\Q (.v (.bool b)) am
 |_=>False
theorem Df{cv:V}{w:Value}(ZZ:yn X.K C)(hp:(ea,oe)∈X.pn)(hc:oe.cls = .ref C)(r:RelV cv w)(hw:∀u,RelV cv u->u=w)(ek:kitOne X.K (.ref C) w=some b):jA X (.builtin "isinstance") (fun xs H Q=>xs=[.ref ea,cv]/\Q (.bl b) H):=by
 intro pins s σ H xs us Q I rr h
 obtain⟨rfl,q⟩:=h
 obtain⟨v,w',rfl,r1,r2⟩:=vals2 rr
 cases r1
 obtain rfl:=hw w' r2
 exact kia_one (J6 ZZ) I.kIn ⟨oe,(I.pin (ea,oe) (mem_append_left _ hp)).1,hc⟩ ek (fun z=>nomatch z) fun tk=>⟨.bl b,H,I.tok _,rfl,q⟩
theorem ia{C':Addr}(ZZ:yn X.K C)(hp:(ea,oe)∈X.pn)(hc:oe.cls = .ref C)(ek:kitOne X.K (.ref C) (.ref C')=some b)(hg:Gl X "isinstance")(hm:X.mg "isinstance"=none)(hgy:Gl X y)(hmy:X.mg y=some (.ref C'))(ha:DE X e te)(hdy:(y==("__debug__":Str))=false:=by decide)
  (he:starEach [e,.Name y py] X.env=(false,eval e X.env)::starEach [.Name y py] X.env:=by rfl) (he2:starEach [.Name y py] X.env=[(false,eval (.Name y py) X.env)]:=by rfl) (hpl:(backTo pos (starEach [.Name y py] X.env)).any (·.1)=false:=by rfl):DE X (.Call (.Name "isinstance" p) [e,.Name y py] [] pos) (lD ea b te):=by
 obtain⟨t1,p1,l1⟩:=ha
 refine⟨_,sL (Df (cv:=.ref C') ZZ hp hc rfl (fun u h=>h) ek) hg hm PyProof.Rows.Boot.«isinstance» (eO p1 (eO (G5 (v:=.ref C') hgy hmy rfl hdy) lN he2) he) ⋯ ⋯ he hpl,fun σ H ρ U Qd Q S h k=>?_⟩
 refine l1 σ H ρ U _ _ S h fun x ux am H1 e1 S1 rx h1=>?_
 split at h1
 ·obtain⟨rfl,h1⟩:=h1
  obtain rfl:ux = .ref _:=rx
  exact⟨rfl,k (.v _) _ am H1 e1 S1 (Rp.bool _) h1⟩
 ·exact h1.elim
theorem Nq{T:String}(ZZ:yn X.K C)(hp:(ea,oe)∈X.pn)(hc:oe.cls = .ref C)(ek:kitOne X.K (.ref C) (.type T)=some b)(hg:Gl X "isinstance")(hm:X.mg "isinstance"=none)(hgy:Gl X y)(hmy:X.mg y=none)(hvy:bootBuiltins y=some (.type T))(ha:DE X e te)(hny:y ≠ "__name__":=by decide)(hdy:(y==("__debug__":Str))=false:=by decide)
  (he:starEach [e,.Name y py] X.env=(false,eval e X.env)::starEach [.Name y py] X.env:=by rfl) (he2:starEach [.Name y py] X.env=[(false,eval (.Name y py) X.env)]:=by rfl) (hpl:(backTo pos (starEach [.Name y py] X.env)).any (·.1)=false:=by rfl):DE X (.Call (.Name "isinstance" p) [e,.Name y py] [] pos) (lD ea b te):=by
 obtain⟨t1,p1,l1⟩:=ha
 refine⟨_,sL (Df (cv:=.ty T) ZZ hp hc rfl (fun u h=>h) ek) hg hm PyProof.Rows.Boot.«isinstance» (eO p1 (eO (Hr (v:=.ty T) hgy hmy hvy rfl hny hdy) lN he2) he) ⋯ ⋯ he hpl,fun σ H ρ U Qd Q S h k=>?_⟩
 refine l1 σ H ρ U _ _ S h fun x ux am H1 e1 S1 rx h1=>?_
 split at h1
 ·obtain⟨rfl,h1⟩:=h1
  obtain rfl:ux = .ref _:=rx
  exact⟨rfl,k (.v _) _ am H1 e1 S1 (Rp.bool _) h1⟩
 ·exact h1.elim
end
structure Rh(K:PySem.W.Frag)(mg:Str->Option Value)(c P:Addr)(q:Str):Prop where
 obj:∃o,K.lookup c=some o/\bO o=some (P,q)
 one:∀c2 o2 q2,K.lookup c2=some o2->bO o2=some (P,q2)->q2=q
 blt:OL K mg
noncomputable def BC(cap:List (Option Nat))(tx:DTX)(nm:Str):DTE:=fun ρ U Qd=>tx (cg cap ρ) U fun Z=>Qd (.v (.str nm)) Z
theorem HY{X:Cx}{k:Nat}{f c P:Addr}{fd:FuncData}{dn rn q nm:Str}{C:Value}{params:Arguments}{body:Expr}{lsc:Scope}{lpos p pos:Pos}{cl:List (Str×Addr)}{N':List Str}{cap:List (Option Nat)}{tx:DTX}
  (R:JV X.prog X.w X.K X.mg X.base k f fd dn C nm) (hr:fV (k+1) X.A) (hg:Gl X rn) (hm:X.mg rn=some (.ref f)) (hk:keepIn X.K (.ref f)=true) (hb:Binds X.K fd [dn] []) (L:Rh X.K X.mg c P q) (hcode:X.env.code = .ref c) (hq:X.env.qual=q ++ ".<locals>.")
  (hk0:0<k) (he:∀(A':Around) (outer':List Env) (s':Shared) (H':Hp) (fa c1:Addr) (E:XK),fV (k-1) (uY X.prog X.w X.K X.mg X.base N' lsc cl (cu q) fa c1 A' outer' s' H' E).A->XE (uY X.prog X.w X.K X.mg X.base N' lsc cl (cu q) fa c1 A' outer' s' H' E) E C body tx)
  (hdef:defaultsOf params X.env=([],[])) (hclos:closureFor lsc X.env=pure cl) (hbind:∀(pm ctv:Value) (c1:Addr),bindArgs (kla_fn "<lambda>" (cu q) params body lsc cl pm (.ref c1) ctv) ⟨[],[]⟩=pure [])
  (hkind:lsc.kind = .function) (hco:lsc.isCoroutine=false) (hgen:lsc.isGenerator=false) (hcell:∀y∈lsc.names,y.2≠.cell) (hcl:∀x a,cl.lookup x=some a->X.env.cells.lookup x=some a) (hhas:∀x,lsc.names.lookup x=some .cell\/lsc.names.lookup x=some .free->∃a,cl.lookup x=some a)
  (hlen:cap.length=N'.length) (hcap:∀(i j:Nat) (x:Str),cap[i]? = some (some j)->N'[i]? = some x->X.N[j]? = some x/\Vis X.env.scope x/\X.env.kindOf x≠some .local/\lsc.names.lookup x=some .free)
  (hdb:(rn==("__debug__":Str))=false:=by decide) (hst:starEach [.Lambda params body lsc lpos] X.env=[(false,eval (.Lambda params body lsc lpos) X.env)]:=by rfl) :
  DE X (.Call (.Name rn p) [.Lambda params body lsc lpos] [] pos) (BC cap tx nm):=by
 refine Od fun pins s σ H ρ U Qd Q I S h kk=>?_
 obtain⟨o,hl,hlc⟩:=L.obj
 refine wpAny_Call_Name_kw (rR I hg hm ?_ hdb)
 refine PySem.W.callWith_K (h₀:=X.base) I.ok.mod.kin hk (spliced_more (OM I S.mu hcode hl hlc L.one hq L.blt hclos hdef fun fa c1 ctv pm H1 s1 I1 ex mu ho hfa hfr hc1=>spliced_none ⟨I1.kIn,?_⟩) (by rw[hst];rfl)) (by rw[hst];rfl) rfl
 have S1:St0 X.K H1 ρ U σ:=⟨mu,S.rho.ext S.mu ex⟩
 refine wpAny_call (codeAny_mono (R.run X.A X.stack s1 H1 fa (fun H'=>∃Z,Ext X.K U H1 Z H'/\bK X.K Z H'/\Qd (.v (.str nm)) Z) Q hr I1.QK (hb s1 [.ref fa] I1.kIn rfl) (fun A' outer' s' hr' e0' un=>?_) fun H' ⟨Z,e',ok',q'⟩=>?_) fun r s' hq'=>?_)
 ·have ho':=un.keep fa _ ho hfa hfr (fun z=>nomatch z)
  refine⟨⟨_,_,_,_,ho'⟩,?_⟩
  obtain⟨k',rfl⟩:∃k',k=k'+1:=⟨k-1,∅⟩
  obtain⟨t,pe,l⟩:=he A' outer' s' H1 fa c1 (fun cls _ H'=>cls=C/\∃Z,Ext X.K U H1 Z H'/\bK X.K Z H'/\Qd (.v (.str nm)) Z) (hr'.deeper _)
  have cellK:∀x cc v,X.env.cells.lookup x=some cc->s1.heap.IsCell cc v->s'.heap.IsCell cc v:=fun x cc v hx ⟨oc,ec,dc⟩=>by
   obtain⟨sl,e2⟩:=un.any ec (I1.jg x cc hx) (fun z=>nomatch z)
   exact⟨_,e2,dc⟩
  refine Kc (σ:=cg cap σ) (N:=N') hkind hco hgen hcell hr' e0' ho' hc1 (hbind pm ctv c1) ⟨fun x cc hx=>?_,fun x cc hx=>I1.jg x cc (hcl x cc hx),fun x y cc h1 h2=>I1.ok.inj x y cc (hcl x cc h1) (hcl y cc h2),hhas,fun i x v h1 h2 h3=>?_,?_⟩ pe (l _ H1 (cg cap ρ) U (fun Z=>Qd (.v (.str nm)) Z) _ ⟨mu,S1.rho.cap⟩ h fun Z H' e' ok' q'=>⟨rfl,Z,e',ok',q'⟩)
  ·obtain⟨v,hv⟩:=I1.cell x cc (hcl x cc hx)
   exact⟨v,cellK x cc v (hcl x cc hx) hv⟩
  ·obtain⟨j,j1,j2⟩:=yA h2
   obtain⟨hN,hv,hnl,hfree⟩:=hcap i j x j1 h1
   obtain⟨m,_,hll⟩:=I1.loc
   obtain⟨u,ru,lk⟩:=hll j x v hN j2 hv
   obtain⟨a,ha⟩:=hhas x (.inr hfree)
   rcases lk with ⟨z,_⟩|⟨_,a',z1,z2⟩
   ·exact absurd z hnl
   ·obtain rfl:a'=a:=by have qq:=hcl x a ha;rw[z1] at qq;exact Option.some.inj qq
    exact⟨u,a',ru,hfree,ha,cellK x a' _ z1 z2⟩
  ·unfold cg;rw[length_map];exact hlen
 ·exact⟨Z,ok',fun H'' e'' ok''=>kk (.v (.str nm)) (.str nm) Z H'' (ex.trans (e'.trans e'')) ⟨ok'',S1.rho.ext mu (e'.trans e'')⟩ (Rp.str nm) q'⟩
 ·cases r with
  |error e=>exact hq'.elim
  |ok fl=>
   cases fl with
   |ret u=>exact I1.after hq'
   |next=>exact hq'.elim
   |brk=>exact hq'.elim
   |cont=>exact hq'.elim
end L2.DL
namespace L2
open PySem PySem.Spec PyProof.Rows DL
noncomputable def Si(tabs:List Addr)(H:Hp):Prop:=∀b,H b=none\/(∃o xs,H b=some (.frz o (.lst xs)))\/(b∈tabs/\H b=some (.tbl #[]))
theorem Ij{P:Program}{w:World}{K:PySem.W.Frag}{mg mb:Str->Option Value}{CX:CXT}{k:Nat}{fa a:Addr}{fd:FuncData}{x:Str}{sp:Sp}{gV:Shared}{vs:List Value}{ns:List Int}(tabs:List Addr)
  (hT:∀p∈tabs,gV.heap.get? p=some (tabObj #[])/\K.lookup p=none) (hA2:∀c o p q,K.lookup c=some o->bO o=some (p,q)->p∈tabs) (hC:∀p∈tabs,isCodeTable gV.heap p)
  (KX:K.In gV.heap) (hns:gV.heap.Ns mainGlobals mg) (hb:gV.heap.Ns builtinsNs mb) (hbb:∀x:Str,x ≠ "__name__"->mb x=bootBuiltins x) (hlim:gV.heap.NoLimit) (hg:gV.gens = #[])
  (ha:gV.heap.get? a=some {cls:=.type "list",data:=.seq vs.toArray}) (hi:IntsAre vs ns) (hl:ns.length<=sizeLine) (hr:fV k callerA)
  (F:∀base:Heap,K.In base->base.Ns mainGlobals mg->iy P w K mg base CX k fa fd [x] sp) (hbind:∀(s:Shared) (u:Value),BindsTo s fd ⟨[u],[]⟩ [(x,u)])
  (hsp:∀H:Hp,yY K H->SqL K H a (ns.map V.int)->sp [.ref a] H (fun v _=>v = .bl true) fun _ _ _=>False)
  (hCX:∀H e s',CX [] H gV (fun _ _ _=>False) e s'->False) :
  codeAny (model P w) callerA (.call (.ref fa) ⟨[.ref a],[]⟩) (fun r s'=>r = .ok (.ret (.bool true))/\OldK gV.heap s'.heap/\s'.os=gV.os/\AllBare s'.gens) gV:=by
 have rv:=zp hi
 have lenV:=hi.length
 have ant:a ∉ tabs:=fun z=>by have:=(hT a z).1;rw[ha] at this;cases this
 have core:∀H:Hp,Si tabs H->SqL K H a (ns.map V.int)->HOk P w H gV.heap->(∀b,H b≠none->b=a\/b∈tabs)->(H a≠none->K.lookup a=none)->(∀p∈tabs,H p=some (.tbl #[])) ->
   codeAny (model P w) callerA (.call (.ref fa) ⟨[.ref a],[]⟩) (fun r s'=>r = .ok (.ret (.bool true))/\OldK gV.heap s'.heap/\s'.os=gV.os/\AllBare s'.gens) gV:=by
  intro H hO hS hok hA hK hP
  have base_of:∀{b:Addr} {o:Obj},gV.heap.get? b=some o->H b=none->(A4 gV.heap H).get? b=some o:=fun e n=>JH e n
  have noA:∀{b:Addr} {o:Obj} {es:Array DictEntry} {ep:Nat},gV.heap.get? b=some o->o.data = .dict es ep->H b=none:=fun {b o es ep} e d=>by
   cases q:H b with
   |none=>rfl
   |some u=>
    rcases hA b (by rw[q];simp) with e'|e'
    ·subst e'
     rw[ha] at e;cases e
     have d':Data.seq vs.toArray _=Data.dict es ep:=d
     cases d'
    ·rw[(hT b e').1] at e;cases e
     have d':Data.fields #[]=Data.dict es ep:=d
     cases d'
  have nsK:∀{b:Addr} {m:Str->Option Value},gV.heap.Ns b m->(A4 gV.heap H).Ns b m:=fun {b m} ⟨o,es,ep,e,d,r⟩=>⟨o,es,ep,base_of e (noA e d),d,r⟩
  have hKb:K.In (A4 gV.heap H):=fun b o e=>base_of (KX b o e) (by
   cases q:H b with
   |none=>rfl
   |some u=>
    rcases hA b (by rw[q];simp) with e'|e'
    ·subst e'
     rw[hK (by rw[q];simp)] at e;cases e
    ·have e2:=e;rw[show K.lookup b=none from (hT b e').2] at e2;cases e2)
  have hM:Mod K mg (A4 gV.heap H):=⟨hKb,nsK hns,⟨mb,nsK hb,hbb⟩,let ⟨mc,h1,h2⟩:=hlim;⟨mc,nsK h1,h2⟩⟩
  have e0:EA P w K mg (A4 gV.heap H) callerA [] gV H:=⟨rfl,hM,fun b o e=>NN e,Nat.le_of_eq (HQ _ _),trivial,fun b hb=>absurd (show b∈([]:List Addr) from hb) (by simp),hok,.of_eq hg⟩
  have tb:yY K H:=fun c o p q h1 h2=>⟨#[],hP p (hA2 c o p q h1 h2),trivial,fun pos cv e=>by simp[codeAmong] at e⟩
  refine codeAny_mono ((F _ hKb (nsK hns)).run callerA [] gV H ⟨[.ref a],[]⟩ [.ref a] [.ref a] _ _ hr e0 (hbind gV (.ref a)) (.cons rfl .nil) (hsp H tb hS)) fun r s' h=>?_
  cases r with
  |error e=>exact (hCX H e s' h).elim
  |ok fl=>
   cases fl with
   |next=>exact False.elim h
   |brk=>exact False.elim h
   |cont=>exact False.elim h
   |ret u=>
    obtain⟨v,H',os,bare,un,hok',r',q⟩:=h
    have q':v = .bl true:=q
    subst q'
    obtain rfl:u=Value.bool true:=r'
    refine⟨rfl,⟨fun b o e=>?_,fun b o e=>un.there b o e (by simp)⟩,os,bare⟩
    cases q:H b with
    |none=>exact .inl (un.keep b o e q (by intro z;exact absurd (show b∈([]:List Addr) from z) (by simp)) (by simp))
    |some u=>
     rcases hO b with z|⟨ob,xs,z⟩|⟨zt,z⟩
     ·rw[q] at z;cases z
     ·have z2:=un.o8 b ob _ z
      obtain⟨e1,_⟩:=hok b _ z
      obtain⟨e2,_⟩:=hok' b _ z2
      rw[e] at e1;cases e1
      exact .inl e2
     ·obtain⟨more,z2⟩:=un.o7 b _ z
      have e2:s'.heap.get? b=some {cls:=.none,data:=.fields (#[]++more)}:=hok' b _ z2
      have e1:=(hT b zt).1
      rw[e] at e1;cases e1
      exact .inr (.inl ⟨hC b zt,rfl,#[],more,rfl,e2⟩)
 have okT:∀p∈tabs,gV.heap.get? p=some {cls:=.none,data:=.fields #[]}:=fun p hp=>(hT p hp).1
 cases hk:K.lookup a with
 |some o=>
  have e:=KX a o hk
  rw[ha] at e
  cases e
  refine core (fun b=>if b∈tabs then some (.tbl #[]) else none) (fun b=>?_) (.inr ⟨_,vs.toArray,_,hk,rfl,rfl,rfl,by rw[size_toArray,lenV];exact hl,by simpa using rv⟩) (fun b u z=>?_) (fun b z=>?_) (fun z=>absurd (if_neg ant) z) (fun p hp=>if_pos hp)
  ·by_cases hb:b∈tabs
   ·exact .inr (.inr ⟨hb,if_pos hb⟩)
   ·exact .inl (if_neg hb)
  ·by_cases hb:b∈tabs
   ·have z':=(if_pos hb).symm.trans z;cases z';exact okT b hb
   ·have z':=(if_neg hb).symm.trans z;cases z'
  ·by_cases hb:b∈tabs
   ·exact .inr hb
   ·exact absurd (if_neg hb) z
 |none=>
  refine core (fun b=>if b=a then some (.frz {cls:=.type "list",data:=.seq vs.toArray} (.lst (ns.map V.int))) else if b∈tabs then some (.tbl #[]) else none) (fun b=>?_) (.inl (.inr ⟨{cls:=.type "list",data:=.seq vs.toArray},if_pos rfl⟩)) (fun b u z=>?_) (fun b z=>?_) (fun _=>hk) (fun p hp=>by
   have:p≠a:=fun y=>ant (by rw[<- y];exact hp)
   exact (if_neg this).trans (if_pos hp))
  ·by_cases hb:b=a
   ·exact .inr (.inl ⟨_,_,if_pos hb⟩)
   ·by_cases hb2:b∈tabs
    ·exact .inr (.inr ⟨hb2,(if_neg hb).trans (if_pos hb2)⟩)
    ·exact .inl ((if_neg hb).trans (if_neg hb2))
  ·by_cases hb:b=a
   ·have z':=(if_pos hb).symm.trans z
    cases z'
    subst hb
    exact⟨ha,by rw[length_map];exact hl,vs,_,rv,ha⟩
   ·by_cases hb2:b∈tabs
    ·have z':=((if_neg hb).trans (if_pos hb2)).symm.trans z;cases z';exact okT b hb2
    ·have z':=((if_neg hb).trans (if_neg hb2)).symm.trans z;cases z'
  ·by_cases hb:b=a
   ·exact .inl hb
   ·by_cases hb2:b∈tabs
    ·exact .inr hb2
    ·exact absurd ((if_neg hb).trans (if_neg hb2)) z
theorem Kl{l:PySem.W.OpenLaw}{n k:Nat}{q:Program}{loose:List Str}{XP:(Str->Option Value)->Heap->Prop}{YP:World->Heap->Prop}{d:DefRec}{K:Params->PySem.W.Frag}{CX:World->CXT}{sp:World->Sp}{x:Str}(tabs:List Addr)
  (hn:l.most=some n) (hn2:n<=sizeLine) (hdf:d.params.defaults=[]) (hr:fV k callerA)
  (hY:∀(w:World) (h:Heap),YP w h->(K w.params).In h/\(∀p∈tabs,h.get? p=some (tabObj #[])/\(K w.params).lookup p=none)/\(∀p∈tabs,isCodeTable h p))
  (hA2:∀(w:World) c o p q,(K w.params).lookup c=some o->bO o=some (p,q)->p∈tabs)
  (F:∀(w:World) (mg:Str->Option Value) (fa:Addr) (h:Heap),(K w.params).In h->h.Ns mainGlobals mg->mg d.name=some (.ref fa) ->
   ∃fd:FuncData,(∀(s:Shared) (u:Value),BindsTo s fd ⟨[u],[]⟩ [(x,u)]) /\
    ∀base:Heap,(K w.params).In base->base.Ns mainGlobals mg->iy l.prog w (K w.params) mg base (CX w) k fa fd [x] (sp w))
  (hsp:∀(w:World) (H:Hp) (a:Addr) (ns:List Int),ns.length<=n->yY (K w.params) H->SqL (K w.params) H a (ns.map V.int)->sp w [.ref a] H (fun v _=>v = .bl true) fun _ _ _=>False)
  (hCX:∀(w:World) (H:Hp) (s:Shared) (e:Value) (s':Shared),CX w [] H s (fun _ _ _=>False) e s'->False) :
  PySem.W.WalkO q loose XP YP l.row.toRowW d [] (fun f vs=>PySem.call f vs):=by
 refine Att.DP hn hdf fun w io gV mg mb fa o pm cd doc a vs ns G Y ho hd hcd hmg hobj hints hlen hg=>?_
 obtain⟨KX,hT,hC⟩:=hY w _ Y
 obtain⟨fd,hb,hF⟩:=F w mg fa _ KX G.T.g hmg
 exact Ij tabs hT (hA2 w) hC KX G.T.g G.T.b G.T.builtins G.T.nolimit hg hobj hints (le_trans hlen hn2) hr hF hb (fun H hO hS=>hsp w H a ns hlen hO hS) fun H e s'=>hCX w H gV e s'
end L2
namespace L2.DL
open PySem PySem.Spec PyProof.Rows
theorem _root_.L2.Fun.Tp{P:Program}{w:World}{K:PySem.W.Frag}{mg:Str->Option Value}{base:Heap}{x qual:Str}{st:Stmt}{f:Addr}{fd:FuncData}{N ps:List Str}{k:Nat}{dsp:DSp}(F:Fun K x qual st f fd)(S:aJ N ps (az st))(len:∀ds U Q,dsp ds U Q->ds.length=ps.length)
  (hbody:∀(cdv:Value),fd.code=cdv->∀(A:Around) (outer:List Env) (s:Shared) (H:Hp) (E:XK),fV k (A.deeper (envOfC qual (az st) s.heap.objs.size f cdv)) ->
   ∃td,DSs (kn CX0 P w K mg base N qual (az st) f cdv A outer s H E).nox (d6 st) td/\∀ds U Qd,dsp ds U Qd->td ‹Qd› (aS N ds) U):iy P w K mg base CX0 (k+1) f fd ps (spD K dsp):=by
 obtain⟨oc,od,kV,doc,pm,an,cdv,ct,osl,rfl,lk,hcd⟩:=F.ex
 refine K1 lk hcd S (fun vs H Q E h=>?_) fun A outer s H vs Q E hr h=>?_
 ·obtain⟨ds,U,Qd,_,r,h,_⟩:=h
  rw[<- r.length];exact len ds U Qd h
 ·obtain⟨ds,U,Qd,ok,r,h,fin⟩:=h
  obtain⟨td,⟨t,p,l⟩,rd⟩:=hbody cdv rfl A outer s H E hr
  exact⟨t,p.nox,l (start N vs) H (aS N ds) U _ _ ⟨ok,ug r⟩ (rd ds U Qd h) (fun db dL Z H' e' S' q=>fin (.v .none) .non Z H' e' S'.mu Rp.none q) (fun d u Z H' e' ok' r' q=>fin d u Z H' e' ok' r' q) (fun _ _ _ _ _ _ q=>q) (fun _ _ _ _ _ _ q=>q)⟩
noncomputable def Oj(X:Cx)(lsc:Scope):Option Nat->Str->Prop
 |some j,x=>X.N[j]? = some x/\Vis X.env.scope x/\X.env.kindOf x≠some .local/\lsc.names.lookup x=some .free
 |none,_=>True
noncomputable def Sf(X:Cx)(lsc:Scope):List (Option Nat)->List Str->Prop
 |c::r,x::r'=>Oj X lsc c x/\Sf X lsc r r'
 |_,_=>True
theorem GH{X:Cx}{lsc:Scope}:∀{cap:List (Option Nat)} {N':List Str},Sf X lsc cap N'->∀(i j:Nat) (x:Str),cap[i]? = some (some j)->N'[i]? = some x->X.N[j]? = some x/\Vis X.env.scope x/\X.env.kindOf x≠some .local/\lsc.names.lookup x=some .free
 |[],_,_,i,j,x,h,_=>by simp at h
 |_::_,[],_,i,j,x,_,h=>by simp at h
 |c::r,y::r',h,0,j,x,h1,h2=>by
  simp at h1 h2;subst h1 h2;exact h.1
 |c::r,y::r',h,i+1,j,x,h1,h2=>GH h.2 i j x (by simpa using h1) (by simpa using h2)
theorem Jy{X:Cx}{lsc:Scope}{j:Nat}{x:Str}(h1:X.N[j]? = some x:=by rfl)(h2:X.env.kindOf x=some .cell:=by rfl)(h3:lsc.names.lookup x=some .free:=by rfl):Oj X lsc (some j) x:=
 ⟨h1,.inr (.inl h2),(by rw[h2];decide),h3⟩
theorem Hy{K:PySem.W.Frag}{l:List (Addr×Str)}(h:(K.filterMap fun p=>bO p.2)=l){c:Addr}{o:Obj}{P:Addr}{q:Str}(e:K.lookup c=some o)(e2:bO o=some (P,q)):(P,q)∈l:=by
 rw[<- h]
 have mem:∀(L:List (Addr×Obj)),List.lookup c L=some o->(c,o)∈L:=fun L=>by
  induction L with
  |nil=>intro z;cases z
  |cons a r ih=>
   intro z
   rw[lookup_cons] at z
   by_cases y:c=a.1
   ·rw[y] at z ⊢;simp at z;rw[<- z];exact mem_cons_self
   ·rw[show (c==a.1)=false from by simpa using y] at z
    exact mem_cons_of_mem _ (ih z)
 exact List.mem_filterMap.mpr ⟨(c,o),mem K e,e2⟩
theorem zO{K:PySem.W.Frag}{h:Heap}{c P:Addr}{o:Obj}{q:Str}(X:K.In h)(l:K.lookup c=some o)(e:bO o=some (P,q)):isCodeTable h P:=by
 have ho:=X _ _ l
 unfold bO at e
 split at e
 ·rename_i cn vs hcls hd
  split at e
  ·rename_i hcn
   subst hcn
   split at e
   ·rename_i e11 e18
    split at e
    ·cases e
     exact⟨c,o,vs,ho,hcls,hd,by assumption⟩
    ·cases e
   ·cases e
  ·cases e
 ·cases e
theorem Bf{K:PySem.W.Frag}{c P:Addr}{q:Str}(h:(K.lookup c).bind bO=some (P,q)):∃o,K.lookup c=some o/\bO o=some (P,q):=Option.bind_eq_some_iff.mp h
theorem Bo{K T:PySem.W.Frag}{h:Heap}(X:PySem.W.Frag.In (K++T) h):K.In h:=fun b o e=>X b o (by
 show List.lookup b (K++T)=some o
 rw[List.lookup_append,show List.lookup b K=some o from e];rfl)
theorem QH{K:PySem.W.Frag}{mg:Str->Option Value}{bm:Addr}{sl:Array (Option Value)}(h1:mg "__builtins__"=some (.ref bm))(h2:bm≠builtinsNs)(h3:K.lookup bm=some ⟨.type "module",some builtinsNs,.plain,sl⟩):OL K mg:=⟨bm,_,h1,h2,h3,rfl,rfl,rfl⟩
theorem K3{cap:List (Option Nat)}{tx:DTX}{nm:Str}{ρ:Rho}{U:Mu}{Q:DK}:BC cap tx nm ρ U Q=tx (cg cap ρ) U (fun Z=>Q (.v (.str nm)) Z):=propext Iff.rfl
theorem FZ{dsp:XSp}{t:DTA}{ρ:Rho}{U:Mu}{Xk:Mu->Prop}:Hi dsp t ρ U Xk=t ρ U (fun ds am=>dsp ds am Xk):=propext Iff.rfl
theorem Rv{tc:DTT}{tx ty:DTX}{ρ:Rho}{U:Mu}{Xk:Mu->Prop}:xIf tc tx ty ρ U Xk=tc ρ U (fun b am=>if b=true then tx ρ am Xk else ty ρ am Xk):=propext Iff.rfl
theorem RZ{ea:Addr}{b:Bool}{i:Nat}{ρ:Rho}{U:Mu}{Q:DK}(h:ρ[i]? = some (some (.o ea))):lD ea b (ai i) ρ U Q=Q (.v (.bool b)) U:=by
 unfold lD ai
 rw[h]
 exact propext ⟨fun z=>z.2,fun z=>⟨rfl,z⟩⟩
theorem K9{ea:Addr}{b:Bool}{x:Option D}{r:Rho}{U:Mu}{Q:DK}:lD ea b (ai 1) (x::some (.o ea)::r) U Q=Q (.v (.bool b)) U:=RZ rfl
noncomputable def KP:PyData->Option PyData
 |.tuple [.str n,.bool b]=>if b=true then some (.str n) else none
 |_=>none
theorem K0{r:Rho}{U:Mu}{Q:DK}{ns:List (Str×Bool)}{i:Nat}(hi:r[i]? = some (some (.v (.list (ns.map fun n=>.tuple [.str n.1,.bool n.2])))))(hl:ns.length<=1000)(q:Q (.v (.list ((ns.map fun n=>(.tuple [.str n.1,.bool n.2]:PyData)).filterMap KP))) U) :
  gS [none,none] (lu (ai i)) (dD 2 (aG (ar 0) (aG (ar 1) dO))) (dB (ai 1)) (ai 0) r U Q:=by
 rw[md]
 show (match r[i]? with|some (some d)=>_|_=>False)
 rw[hi]
 refine⟨by rw[length_map];exact hl,fun p hp=>⟨fun i acc Z=>acc=((ns.map fun n=>(.tuple [.str n.1,.bool n.2]:PyData)).take i).filterMap KP/\Z=aQ U p acc,⟨rfl,rfl⟩,?_,?_⟩⟩
 ·rintro i x acc Z hx hpa ⟨e0,e1⟩
  obtain⟨n,hn,rfl⟩:=List.mem_map.mp (mem_of_getElem? hx)
  have st:=HA (f:=KP) hx
  obtain⟨n,b⟩:=n
  refine⟨rfl,⟨trivial,?_⟩⟩
  show if b=true then _ else _
  cases b with
  |true=>
   rw[if_pos rfl]
   refine⟨hpa,?_,?_⟩
   ·rw[st,<- e0];rfl
   ·rw[e1,fO]
  |false=>
   rw[if_neg ⋯]
   refine⟨hpa,?_,e1⟩
   rw[st,<- e0];simp[KP]
 ·rintro acc Z ⟨e0,e1⟩ hpa
  rw[take_length] at e0
  rw[e1,e0,tR hp]
  exact q
noncomputable def QT(ds:List D):PQ:=fun K u U H=>∃a us,u = .ref a/\H a=some (.tup us)/\iW K U H ds us
section
variable {K:PySem.W.Frag}{U:Mu}{H:Hp}{a:Addr}{us:List V}{ds:List D}
theorem QR(ok:bK K U H)(ha:H a=some (.tup us))(r:iW K U H ds us):RpD K U H (.q (QT ds)) (.ref a):=fun Z H' e=>⟨a,us,rfl,e.keep _ _ ha (ok.not ha fun _ z=>nomatch z) trivial,r.ext ok e⟩
end
section
variable {X:Cx}{es:List Expr}{t:DTA}{pos:Pos}
noncomputable def Kz(t:DTA):DTE:=fun ρ U Q=>t ρ U fun ds am=>Q (.q (QT ds)) am
theorem Nz{x1}(h:DA X es t)(hl:es.length<=1000:=by decide):DE X (.Tuple es x1 pos) (Kz t):=by
 obtain⟨t1,p1,l1⟩:=h
 refine⟨_,KQ p1,fun σ H ρ U Qd Q S h k=>?_⟩
 refine l1 σ H ρ U _ _ S h fun ds us am H1 e1 S1 rs len h1=>?_
 refine⟨Nat.le_of_lt (fS (by rw[<- rs.length,len];exact hl)),fun p hp=>?_⟩
 have e2:=df (K:=X.K) (U:=am) (o:=.tup us) hp
 have S2:=S1.new (o:=.tup us) hp
 exact k (.q (QT ds)) _ am _ (e1.trans e2) S2 (QR S2.mu b8 (rs.ext S1.mu e2)) h1
end
theorem O6{t:DTA}{ρ:Rho}{U:Mu}{Q:DK}:Kz t ρ U Q=t ρ U fun ds am=>Q (.q (QT ds)) am:=propext Iff.rfl
mutual
theorem Rp.sub{K:PySem.W.Frag}{U am:Mu}{H:Hp}(h:∀a,am a=none->U a=none):∀{d:PyData} {u:V},Rp K am H d u->Rp K U H d u
 |_,_,.none=>.none
 |_,_,.bool b=>.bool b
 |_,_,.int i=>.int i
 |_,_,.str x=>.str x
 |_,_,.list a b c=>.list a (h _ b) (RpL.sub h c)
 |_,_,.tuple a c=>.tuple a (RpL.sub h c)
theorem RpL.sub{K:PySem.W.Frag}{U am:Mu}{H:Hp}(h:∀a,am a=none->U a=none):∀{ds:List PyData} {us:List V},RpL K am H ds us->RpL K U H ds us
 |_,_,.nil=>.nil
 |_,_,.cons a b=>.cons (Rp.sub h a) (RpL.sub h b)
end
structure gJ(U Z:Mu):Prop where
 l:∀b ds,U b=some ds->Z b=some ds
 b:∀b c,U.b b=some c->Z.b b=some c
noncomputable instance {U Z:Mu}:CoeFun (gJ U Z) fun _=>∀b ds,U b=some ds->Z b=some ds:=⟨gJ.l⟩
theorem gJ.refl{U:Mu}:gJ U U:=⟨fun _ _ e=>e,fun _ _ e=>e⟩
theorem gJ.none{U Z:Mu}(h:gJ U Z){b:Addr}(e:Z b=none):U b=none:=by
 cases z:U b with
 |none=>rfl
 |some ds=>rw[h b ds z] at e;cases e
theorem nU{K:PySem.W.Frag}{U Z:Mu}{H:Hp}(ok:bK K Z H)(s:gJ U Z):bK K U H:=⟨fun a ds z=>by
 obtain⟨xs,h1,h2⟩:=ok.lst a ds (s a ds z)
 exact⟨xs,h1,h2.sub fun b hb=>s.none hb⟩,ok.tab,fun a c z=>by
 obtain⟨y,o,h1,h2⟩:=ok.box a c (s.b a c z)
 exact⟨y,o,h1,h2.shrink fun b hb=>s.none hb⟩⟩
theorem gJ.set{U Z:Mu}{p:Addr}{ds:List PyData}(h:gJ U Z)(n:U p=Option.none):gJ U (aQ Z p ds):=⟨fun b es e=>by
 have:b≠p:=fun z=>by rw[z,n] at e;cases e
 rw[aV this];exact h b es e,h.b⟩
theorem gJ.box{U Z:Mu}{p:Addr}{c:Box}(h:gJ U Z)(n:U.b p=Option.none):gJ U (ck Z p c):=⟨h.l,fun b x e=>by
 have:b≠p:=fun z=>by rw[z,n] at e;cases e
 rw[cj this];exact h.b b x e⟩
noncomputable def frz(U:Mu)(Qd:DK):DK:=fun d Z=>match d with
 |.v x=>gJ U Z/\Qd (.v x) U
 |.m a=>(U a=none/\gJ U Z)/\∃es,Z a=some es/\Qd (.v (.list es)) U
 |_=>False
theorem KR{P:Program}{w:World}{K:PySem.W.Frag}{mg:Str->Option Value}{base:Heap}{CX:CXT}{k:Nat}{f:Addr}{fd:FuncData}{ps:List Str}{sp sp':DSp}(F:iy P w K mg base CX k f fd ps (spD K sp))
  (h:∀ds U Qd,sp' ds U Qd->sp ds U (frz U Qd)):iy P w K mg base CX k f fd ps (spD K sp'):=by
 refine F.imp fun vs H Q E h'=>?_
 obtain⟨ds,U,Qd,ok,r,s,kk⟩:=h'
 refine⟨ds,U,_,ok,r,h _ _ _ s,fun d u Z H' e ok' rd q=>?_⟩
 cases d with
 |v x=>
  obtain⟨sb,q⟩:=q
  exact kk (.v x) u U H' ⟨e.keep,e.tb,fun b ds z=>⟨ds,z⟩,fun _ z _=>z,e.st,fun _ c z=>⟨c,z⟩⟩ (nU ok' sb) (show Rp K U H' x u from (show Rp K Z H' x u from rd).sub fun b hb=>sb.none hb) q
 |m a=>
  obtain⟨⟨n,sb⟩,es,he,q⟩:=q
  obtain⟨rfl,_⟩:=rd
  obtain⟨xs,h1,h2⟩:=ok'.lst a es he
  exact kk (.v (.list es)) (.ref a) U H' ⟨e.keep,e.tb,fun b ds z=>⟨ds,z⟩,fun _ z _=>z,e.st,fun _ c z=>⟨c,z⟩⟩ (nU ok' sb) (show Rp K U H' (.list es) (.ref a) from .list h1 n (h2.sub fun b hb=>sb.none hb)) q
 |s ns=>exact q.elim
 |o a=>exact q.elim
 |b a=>exact q.elim
 |q p=>exact q.elim
noncomputable def QP(x:PyData)(a:Addr):PQ:=QT [.v x,.m a]
section
variable {K:PySem.W.Frag}{U:Mu}{H:Hp}
theorem OC{x:PyData}{u:V}(r:Rp K U H x u):Rp K ⟨fun _=>none,fun _=>none⟩ H x u:=r.sub fun _ _=>rfl
theorem SK{a:Addr}{es:List PyData}(ok:bK K U H)(h:U a=some es):Rp K ⟨fun _=>none,fun _=>none⟩ H (.list es) (.ref a):=by
 obtain⟨xs,h1,h2⟩:=ok.lst a es h
 exact .list h1 rfl (h2.sub fun _ _=>rfl)
theorem J3{x:PyData}{a:Addr}{u:V}(r:RpD K U H (.q (QP x a)) u):∃p ux,u = .ref p/\SqT K H p [ux,.ref a]/\Rp K U H x ux/\∃ds,U a=some ds:=by
 obtain⟨p,us,rfl,hp,rs⟩:=r U H .refl
 cases rs with
 |cons r1 r2=>
  cases r2 with
  |cons r2 r3=>
   cases r3
   obtain⟨rfl,ds,hd⟩:=r2
   exact⟨p,_,rfl,.inl (.inl hp),r1,ds,hd⟩
noncomputable def BW:D->D->Mu->DK->Prop:=fun x y U Q=>match x,y with
 |.q P,.v (.int i)=>∃z a,P=QP z a/\((i=0/\Q (.v z) U)\/(i=1/\Q (.m a) U))
 |x,y=>aN x y U Q
theorem Oz:iO K (rIx K) BW:=by
 intro x y ux uy H U Qd Q ok rx ry h k
 unfold BW at h
 split at h
 ·obtain⟨z,a,rfl,h⟩:=h
  cases ry
  obtain⟨p,u,rfl,hp,r1,ds,hd⟩:=J3 rx
  rcases h with ⟨rfl,h⟩|⟨rfl,h⟩
  ·exact .inr (.inl ⟨p,_,0,u,rfl,rfl,hp,rfl,k (.v z) u U H .refl ok r1 h⟩)
  ·exact .inr (.inl ⟨p,_,1,.ref a,rfl,rfl,hp,rfl,k (.m a) _ U H .refl ok ⟨rfl,ds,hd⟩ h⟩)
 ·exact N9 x y ux uy H U Qd Q ok rx ry h k
noncomputable def wW:List D->Mu->DK->Prop:=fun xs U Q=>match xs with
 |[.q P]=>∃z a,P=QP z a/\Q (.v (.int 2)) U
 |xs=>dq xs U Q
theorem L4:mG K (fun xs H Q=>∃p ys,xs=[.ref p]/\(SqL K H p ys\/SqT K H p ys)/\Q (.int ys.length) H) wW:=by
 intro xs us H U Qd Q ok rs h k
 unfold wW at h
 split at h
 ·obtain⟨z,a,rfl,h⟩:=h
  cases rs with
  |cons r1 r2=>
   cases r2
   obtain⟨p,u,rfl,hp,_⟩:=J3 r1
   exact⟨p,_,rfl,.inr hp,k (.v (.int 2)) _ U H .refl ok (Rp.int _) h⟩
 ·exact KG xs us H U Qd Q ok rs h k
noncomputable def JW(neg:Bool):D->D->Mu->DK->Prop:=fun x y U Q=>match x,y with
 |.m a,.v b=>∃es,U a=some es/\SeqAt.shaped (.list es)=true/\SeqAt.shaped b=true/\Q (.v (.bool (neg ^^ PyData.eqv (.list es) b))) U
 |x,y=>dP neg x y U Q
theorem OR{neg:Bool}:iO K (M9 K neg) (JW neg):=by
 intro x y ux uy H U Qd Q ok rx ry h k
 unfold JW at h
 split at h
 ·rename_i a b
  obtain⟨es,hm,s1,s2,h⟩:=h
  obtain⟨rfl,_⟩:=rx
  exact⟨_,_,_,SK ok hm,OC ry,s1,s2,k (.v _) _ U H .refl ok (Rp.bool _) h⟩
 ·exact bT x y ux uy H U Qd Q ok rx ry h k
end
section
variable {X:Cx}{a b e:Expr}{ta tb te:DTE}{pos p:Pos}{T:String}
theorem Fn(ha:DE X a ta)(hb:DE X b tb)(hs:Be b):DE X (.Subscript a b pos) (dOp BW ta tb):=by
 obtain⟨t1,p1,l1⟩:=ha
 obtain⟨t2,p2,l2⟩:=hb
 exact⟨_,N0 Lr p1 p2 hs,rJ Oz l1 l2⟩
theorem FY{es:List Expr}{t:DTA}(hg:Gl X "len")(hm:X.mg "len"=none)(ha:DA X (e::es) t)
  (he:starEach (e::es) X.env=(false,eval e X.env)::starEach es X.env:=by rfl) (hpl:(backTo pos (starEach es X.env)).any (·.1)=false:=by rfl):DE X (.Call (.Name "len" p) (e::es) [] pos) (dCB wW t):=
 jL rO L4 hg hm PySem.boot_len ha ⋯ ⋯ he hpl
end
noncomputable def Sj(U:Mu)(Qd:DK):DK:=fun d Z=>match d with
 |.v x=>gJ U Z/\Qd (.v x) U
 |.q P=>∃z a es,P=QP z a/\(U a=none/\gJ U Z)/\Z a=some es/\Qd (.v (.tuple [z,.list es])) U
 |_=>False
theorem MR{P:Program}{w:World}{K:PySem.W.Frag}{mg:Str->Option Value}{base:Heap}{CX:CXT}{k:Nat}{f:Addr}{fd:FuncData}{ps:List Str}{sp sp':DSp}(F:iy P w K mg base CX k f fd ps (spD K sp))
  (h:∀ds U Qd,sp' ds U Qd->sp ds U Qd\/sp ds U (Sj U Qd)):iy P w K mg base CX k f fd ps (spD K sp'):=by
 refine F.imp fun vs H Q E h'=>?_
 obtain⟨ds,U,Qd,ok,r,s,kk⟩:=h'
 rcases h _ _ _ s with s|s
 ·exact⟨ds,U,_,ok,r,s,kk⟩
 refine⟨ds,U,_,ok,r,s,fun d u Z H' e ok' rd q=>?_⟩
 cases d with
 |v x=>
  obtain⟨sb,q⟩:=q
  exact kk (.v x) u U H' ⟨e.keep,e.tb,fun b ds z=>⟨ds,z⟩,fun _ z _=>z,e.st,fun _ c z=>⟨c,z⟩⟩ (nU ok' sb) (show Rp K U H' x u from (show Rp K Z H' x u from rd).sub fun b hb=>sb.none hb) q
 |q P=>
  obtain⟨z,a,es,rfl,⟨n,sb⟩,he,q⟩:=q
  obtain⟨p,ux,rfl,hp,r1,_⟩:=J3 rd
  obtain⟨xs,h1,h2⟩:=ok'.lst a es he
  exact kk (.v (.tuple [z,.list es])) (.ref p) U H' ⟨e.keep,e.tb,fun b ds z=>⟨ds,z⟩,fun _ z _=>z,e.st,fun _ c z=>⟨c,z⟩⟩ (nU ok' sb)
   (show Rp K U H' (.tuple [z,.list es]) (.ref p) from .tuple hp (.cons (r1.sub fun b hb=>sb.none hb) (.cons (.list h1 n (h2.sub fun b hb=>sb.none hb)) .nil))) q
 |m a=>exact q.elim
 |s ns=>exact q.elim
 |o a=>exact q.elim
 |b _=>exact q.elim
theorem Lm{z:PyData}{a:Addr}{U:Mu}{Q:DK}(h:Q (.m a) U):BW (.q (QP z a)) (.v (.int 1)) U Q:=⟨z,a,rfl,.inr ⟨rfl,h⟩⟩
theorem Qc{x:PyData}{d:D}{U:Mu}{Q:DK}:BW (.v x) d U Q=aN (.v x) d U Q:=by unfold BW;rfl
theorem OP{neg:Bool}{x:PyData}{d:D}{U:Mu}{Q:DK}:JW neg (.v x) d U Q=dP neg (.v x) d U Q:=by unfold JW;rfl
theorem NF{x:PyData}{U:Mu}{Q:DK}:wW [.v x] U Q=dq [.v x] U Q:=by unfold wW;rfl
end L2.DL
namespace L2
open PySem PySem.W PyProof.Rows
end L2
namespace L2.DL
open PySem PySem.Spec PyProof.Rows
end L2.DL
namespace L2
open PySem PySem.W PyProof.Rows
end L2
namespace L2.DL
open PySem PySem.Spec PyProof.Rows
end L2.DL
namespace L2
open PySem PySem.Spec PyProof.Rows
end L2
namespace L2.DL
open PySem PySem.W PyProof.Rows
open PySem PySem.Spec PyProof.Rows
noncomputable def yj(U:Mu)(a:Addr):Mu:=⟨fun b=>if b=a then none else U b,U.b⟩
theorem xO{U:Mu}{a:Addr}:yj U a a=none:=if_pos rfl
theorem si{U:Mu}{a b:Addr}(h:b≠a):yj U a b=U b:=if_neg h
noncomputable def Ra(U:Mu)(Qd:DK):DK:=fun d Z=>match d with
 |.v x=>Qd (.v x) Z
 |.m a=>U a=none/\∃es,Z a=some es/\Qd (.v (.list es)) (yj Z a)
 |_=>False
theorem MX{P:Program}{w:World}{K:PySem.W.Frag}{mg:Str->Option Value}{base:Heap}{CX:CXT}{k:Nat}{f:Addr}{fd:FuncData}{ps:List Str}{sp sp':DSp}(F:iy P w K mg base CX k f fd ps (spD K sp))
  (h:∀ds U Qd,sp' ds U Qd->sp ds U (Ra U Qd)):iy P w K mg base CX k f fd ps (spD K sp'):=by
 refine F.imp fun vs H Q E h'=>?_
 obtain⟨ds,U,Qd,ok,r,s,kk⟩:=h'
 refine⟨ds,U,_,ok,r,h _ _ _ s,fun d u Z H' e ok' rd q=>?_⟩
 cases d with
 |v x=>exact kk (.v x) u Z H' e ok' rd q
 |m a=>
  obtain⟨n,es,he,q⟩:=q
  obtain⟨rfl,_⟩:=rd
  obtain⟨xs,h1,h2⟩:=ok'.lst a es he
  have sb:gJ (yj Z a) Z:=⟨fun b ds z=>by
   by_cases c:b=a
   ·rw[c,xO] at z;cases z
   ·rw[si c] at z;exact z,fun _ _ z=>z⟩
  refine kk (.v (.list es)) (.ref a) (yj Z a) H' ⟨e.keep,e.tb,fun b ds z=>?_,fun b z g=>?_,e.st,e.bx⟩ (nU ok' sb) (show Rp K (yj Z a) H' (.list es) (.ref a) from .list h1 xO (h2.sub fun b hb=>sb.none hb)) q
  ·have c:b≠a:=fun c=>by rw[c,n] at z;cases z
   rw[si c];exact e.dom b ds z
  ·exact sb.none (e.fresh b z g)
 |s ns=>exact q.elim
 |o a=>exact q.elim
 |b _=>exact q.elim
 |q p=>exact q.elim
end L2.DL
namespace L2
open PySem PySem.Spec PyProof.Rows
end L2
namespace L2.DL
open PySem PySem.Spec PyProof.Rows
end L2.DL
namespace L2
open PySem PySem.Spec PyProof.Rows
section
variable {X:Cx}
noncomputable def LR:V->List V->Hp->VK->Prop:=fun x vs H Q=>∃(l:Addr) (xs:List V) (i:Nat) (y:V),x = .ref l/\vs=[.int (i:Nat),y]/\H l=some (.lst xs)/\i<=xs.length/\xs.length<=1000/\Q .non (upd H l (.lst (xs.take i++y::xs.drop i)))
theorem Vals.ins{xs:List V}{us:List Value}{y:V}{u:Value}(h:Vals xs us)(r:RelV y u):∀i:Nat,Vals (xs.take i++y::xs.drop i) (us.take i++u::us.drop i):=by
 induction h with
 |nil=>intro i;simp;exact .cons r .nil
 |cons p t ih=>
  intro i
  cases i with
  |zero=>exact .cons r (.cons p t)
  |succ i=>exact .cons p (ih i)
theorem H0:MtM X "list.insert" LR:=by
 intro pins s σ H x vs v us Q I rx rv h
 obtain⟨l,xs,i,y,rfl,rfl,hH,hi,hz,q⟩:=h
 cases rx
 obtain⟨u1,u2,rfl,ru1,ru2⟩:=vals2 rv
 obtain⟨t,rfl⟩:=ru1
 obtain⟨z,its,n,r,hl,e⟩:=I.ER hH
 have hs:(1000:Nat)<sizeLine:=by decide
 have fit:Builtin.List.listFitsIndex (i:Int)=true:=by
  unfold Builtin.List.listFitsIndex
  rw[and_eq_true,decide_eq_true_eq,decide_eq_true_eq]
  have p:(2:Int) ^ 63=9223372036854775808:=by decide
  rw[p]
  omega
 obtain⟨x,hx⟩:∃x:Int,x=(i:Int):=⟨_,rfl⟩
 rw[<- hx] at fit ⊢
 have hn:¬ (!Builtin.List.listFitsIndex x)=true:=by rw[fit];exact Bool.false_ne_true
 have hsz:its.toArray.size<=sizeLine:=by rw[size_toArray];omega
 have M:=AutoSeq1.list_insert_list_int_val_1 l its.toArray n x t u2 hn hsz
 refine call_meets F.slot_list_insert ⟨_,e,rfl⟩ F.entry_list_insert (F.args_list_insert_3 _ _ _) M ⟨e,?_⟩
 refine⟨.non,_,I.Nm (its':=its.take i++u2::its.drop i) hH e ?_ (Vals.ins r ru2 i) ?_,rfl,q⟩
 ·dsimp only
  rw[if_neg ∅,hx,Int.toNat_natCast,size_toArray,Nat.min_eq_left ∅]
  apply Array.ext'
  simp
  exact take_of_length_le (by simp)
 ·simp
  omega
end
end L2
namespace L2.DL
open PySem PySem.Spec PyProof.Rows
section
variable {X:Cx}{o i e:Expr}{to ti te:DTE}{apos cpos:Pos}
theorem RpL.ins{K:PySem.W.Frag}{U:Mu}{H:Hp}{ds:List PyData}{us:List V}{d:PyData}{u:V}(q:Rp K U H d u):∀(i:Nat),RpL K U H ds us->RpL K U H (ds.take i++d::ds.drop i) (us.take i++u::us.drop i)
 |_,.nil=>by simp;exact .cons q .nil
 |0,.cons p t=>.cons q (.cons p t)
 |i+1,.cons p t=>.cons p (RpL.ins q i t)
noncomputable def NL(to ti te:DTE):DTE:=fun ρ U Q=>to ρ U fun x am=>match x with
 |.m l=>ti ρ am fun z bn=>te ρ bn fun y dl=>∃(j:Nat) (d:PyData) (xs:List PyData),z = .v (.int (j:Nat))/\y = .v d/\dl l=some xs/\j<=xs.length/\xs.length<=1000/\Q (.v .none) (aQ dl l (xs.take j++d::xs.drop j))
 |_=>False
theorem HP(ho:DE X o to)(hi:DE X i ti)(ha:DE X e te)(hbase:attributeBase o "insert" X.env (eval o X.env)=eval o X.env:=by rfl)
  (hfew:((backTo cpos (starEach [i,e] X.env)).all (fun x=>!x.1)&&(backToKw cpos (keywordEach [] X.env)).all (fun x=>x.1.isSome)
   && decide ([i,e].length+([]:List Keyword).length+(if ([]:List Keyword).isEmpty then 0 else 1)<30))=true:=by rfl)
  (hline:(apos.endLine==cpos.line)=true:=by rfl) (hs:starEach [i,e] X.env=(false,eval i X.env)::starEach [e] X.env:=by rfl) (hs2:starEach [e] X.env=(false,eval e X.env)::starEach [] X.env:=by rfl) (hplain:(backTo cpos (starEach [e] X.env)).any (·.1)=false:=by rfl) :
  DE X (.Call (.Attribute o "insert" apos) [i,e] [] cpos) (NL to ti te):=by
 obtain⟨t1,p1,l1⟩:=ho
 obtain⟨t3,p3,l3⟩:=hi
 obtain⟨t2,p2,l2⟩:=ha
 refine⟨_,F8 plainAttrs_list PySem.F.slot_list_insert PySem.F.type_list_insert H0 p1 (eO p3 (eO p2 lN hs2) hs) hbase hfew hline hs hplain,fun σ H ρ U Qd Q S h k=>?_⟩
 refine l1 σ H ρ U _ _ S h fun x ux am H1 e1 S1 rx h1=>?_
 cases x with
 |m l=>
  obtain⟨rfl,ds,hm⟩:=id rx
  obtain⟨us,hl,rl⟩:=S1.mu l ds hm
  refine⟨.inl ⟨rfl,us,SqL.of hl⟩,?_⟩
  refine l3 σ H1 ρ am _ _ S1 h1 fun z uz bn H2 e2 S2 rz h2=>?_
  refine l2 σ H2 ρ bn _ _ S2 h2 fun y uy dl H3 e3 S3 ry h3=>?_
  obtain⟨j,d,xs,rfl,rfl,hx,hj,hz,q⟩:=h3
  obtain⟨us3,hl3,rl3⟩:=S3.mu l xs hx
  cases rz
  refine⟨l,us3,j,uy,rfl,rfl,hl3,by rw[<- rl3.length];exact hj,by rw[<- rl3.length];exact hz,?_⟩
  have ex:Ext X.K dl H3 (aQ dl l (xs.take j++d::xs.drop j)) (upd H3 l (.lst (us3.take j++uy::us3.drop j))):=iY hx
  exact k (.v .none) .non _ _ (e1.trans (e2.trans (e3.trans ex))) ⟨S3.mu.set hx (rl3.ins ry j),S3.rho.ext S3.mu ex⟩ Rp.none q
 |v d=>exact h1.elim
 |s _=>exact h1.elim
 |o _=>exact h1.elim
 |b _=>exact h1.elim
 |q _=>exact h1.elim
theorem Sn{ρ:Rho}{U:Mu}{Q:DK}:NL to ti te ρ U Q=to ρ U (fun x am=>match x with
 |.m l=>ti ρ am fun z bn=>te ρ bn fun y dl=>∃(j:Nat) (d:PyData) (xs:List PyData),z = .v (.int (j:Nat))/\y = .v d/\dl l=some xs/\j<=xs.length/\xs.length<=1000/\Q (.v .none) (aQ dl l (xs.take j++d::xs.drop j))
 |_=>False):=propext Iff.rfl
end
end L2.DL
namespace L2
open PySem PySem.Spec PyProof.Rows
section
variable {X:Cx}
noncomputable def Pz(x y:Str):Int:=match Builtin.Str.lastOccurrence x y 0 x.length with|some i=>(i:Nat)|none=>-1
end
end L2
namespace L2
open PySem PySem.Spec PyProof.Rows
end L2
namespace L2
open PySem PySem.Spec PyProof.Rows
end L2
namespace L2.DL
open PySem PySem.Spec PyProof.Rows
section
variable {X:Cx}{a b e e1 e2 o:Expr}{es:List Expr}{ta tb te to:DTE}{t:DTA}{pos p p2 apos cpos:Pos}{lo hi:Option Expr}
noncomputable def Nj(x y:Str):Bool:=decide (0+y.length<=x.length)&&Builtin.Str.subAt x y 0
noncomputable def RM(x y:Str):Bool:=decide (0+y.length<=x.length)&&Builtin.Str.subAt x y (x.length-y.length)
end
section
variable {X:Cx}{a b e e1 e2 o tg:Expr}{es:List Expr}{ta tb te to:DTE}{t:DTA}{pos p p2 apos cpos:Pos}{lo hi:Option Expr}
noncomputable abbrev DTJ:=Str->Rho->Mu->(Str->Mu->Prop)->Prop
end
section
variable {X:Cx}{e o:Expr}{te to:DTE}{apos cpos:Pos}
noncomputable def Hg(x y:Str):PyData:=.bool (Nj x y)
noncomputable def NV(x y:Str):PyData:=.bool (RM x y)
noncomputable def JP(x y:Str):PyData:=.int (Pz x y)
end
noncomputable def Ite(K:PySem.W.Frag)(l:Addr):It:=
 ⟨fun i H=>∃xs x,SqL K H l xs/\xs[i]? = some x,
  fun i H v H'=>∃p x,v = .ref p/\H p=none/\H'=upd H p (.tup [.int i,x])/\(∀xs,SqL K H l xs->xs[i]? = some x),
  fun i H=>∃xs,SqL K H l xs/\xs.length<=i⟩
noncomputable def O1(e it l:Addr)(i:Nat)(h:Heap):Prop:=(∃old,IsEnum h e it i old)/\h.IsListIter it l i
theorem IP{P:Program}{w:World}{K:PySem.W.Frag}{es:List Expr}{x1:Nat}{pos:Pos}(e it l:Addr)(hei:e≠it) :
  Turn true P w K (.Tuple es x1 pos) (Ite K l) [e,it] e (O1 e it l) where
 mem:=by simp
 obj:=fun i h st b hb=>by
  obtain⟨⟨old,a1⟩,⟨o4,a4,c4,d4⟩⟩:=st
  simp only[mem_cons,not_mem_nil,or_false] at hb
  rcases hb with rfl|rfl
  ·exact⟨_,a1,fun v z=>by cases z⟩
  ·exact⟨_,a4,fun v z=>by rw[d4] at z;cases z⟩
 keep:=fun i h h' st k=>by
  obtain⟨⟨old,a1⟩,a4⟩:=st
  exact⟨⟨old,k e (by simp) _ a1⟩,a4.at fun o e=>k it (by simp) o e⟩
 item:=by
  intro X hP hw hK hc i pins s σ H E I hf st hg
  subst hP hw hK
  obtain⟨xs,x,hq1,hx⟩:=hg
  obtain⟨its1,rv1,p1,_⟩:=I.list hq1
  obtain⟨u,hu,ru⟩:=rv1.get hx
  obtain⟨⟨old,a1⟩,a4⟩:=id st
  refine wpAny_pyNext_enum_item a1 a4 p1.isList (x:=u) (by simpa using hu) hei fun h' b1 b2 b3 b4 b5=>?_
  refine⟨.ref s.heap.objs.size,rfl,wpAny_letOwnedTupleGo_enum (s:={s with heap:=h',toks:=s.toks+1}) b1 fun h2 c1 sb=>?_⟩
  have hne:s.heap.objs.size≠e:=Nat.ne_of_gt (Heap.lt_size a1)
  have hT:h2.get? s.heap.objs.size=some {cls:=.type "tuple",data:=.seq #[.int i s.toks,u]}:=sb.extBut _ _ hne b3
  refine⟨.ref s.heap.objs.size,upd H s.heap.objs.size (.tup [.int i,x]),?_,rfl,⟨s.heap.objs.size,x,rfl,I.hok.fresh (le_refl _),rfl,fun zs hz=>by rw[I.DF hz hq1];exact hx⟩,?_,fun b hb=>?_⟩
  ·refine Inv.Fi (s:=s) (h':=h2) (t':=s.toks+1) (ch:=[e,it]) I hf (fun b o hb e=>?_) (le_refl _) ⟨by show 2<=sizeLine;decide,[.int i s.toks,u],.cons ⟨_,rfl⟩ (.cons ru .nil),_,hT,rfl,0,rfl⟩
   simp only[mem_cons,not_mem_nil,or_false,not_or] at hb
   exact sb.extBut _ _ hb.1 (b5 b o hb.1 hb.2 e)
  ·exact⟨⟨_,by simpa using c1⟩,b2.at fun o e=>sb.extBut _ o (Ne.symm hei) e⟩
  ·have hb':b<s.heap.objs.size:=by
    simp only[mem_cons,not_mem_nil,or_false] at hb
    obtain⟨o4,e4,_⟩:=a4
    rcases hb with rfl|rfl
    ·exact Heap.lt_size a1
    ·exact Heap.lt_size e4
   rw[aR (ne_of_lt hb')]
   exact (hf b hb).1
 done:=by
  intro X hP hw hK hc i pins s σ H E I hf st hg
  subst hP hw hK
  obtain⟨xs,hq1,hx⟩:=hg
  obtain⟨its1,rv1,p1,_⟩:=I.list hq1
  obtain⟨⟨old,a1⟩,a4⟩:=id st
  have hl1:=rv1.length
  refine wpAny_pyNext_enum_end (I.ok.hd (hc rfl)) a1 a4 p1.isList (by simp;omega) fun h' b7=>⟨rfl,?_⟩
  refine Inv.L3 (t':=s.toks) (ch:=[e,it]) I hf fun b o hb e=>?_
  simp only[mem_cons,not_mem_nil,or_false,not_or] at hb
  exact b7 b o hb.2 e
 self:=fun _ _ _ _ _ st h=>by
  obtain⟨⟨old,a1⟩,_⟩:=st
  exact wpAny_pyIter_enum a1 h
section
variable {X:Cx}{es:List Expr}{x1:Nat}{tpos:Pos}
noncomputable def Sa(K:PySem.W.Frag)(ta:TA):TI:=fun σ H R=>ta σ H fun vs H1=>∃l,vs=[.ref l]/\(∃xs,SqL K H1 l xs)/\R (Ite K l) H1
theorem MD{a:Expr}{ta:TA}{p pos:Pos}(hc:X.calm=true)(hg:Gl X "enumerate")(hm:X.mg "enumerate"=none)(ha:PA X [a] ta)(hs:starEach [a] X.env=[(false,eval a X.env)]:=by rfl) :
  PI X (.Tuple es x1 tpos) (.Call (.Name "enumerate" p) [a] [] pos) (Sa X.K ta):=by
 intro pins s σ H R I h
 refine Call_ (qr I hg hm PyProof.Rows.Boot.«enumerate» (PyProof.Rows.callWith_type1 (thn (ha pos pins s σ H _ I h) fun us s1 hq0=>?_) (by rw[hs];rfl) (by rfl)))
 obtain⟨vs,H1,I1,r1,q1⟩:=hq0
 obtain⟨l1,e,⟨xs,hq1⟩,q⟩:=q1
 subst e
 cases r1 with
 |cons r rr=>
  cases rr
  cases r
  obtain⟨its1,rv1,p1,_⟩:=I1.list hq1
  refine call_enumerate_list p1.isList fun h' hz hi1 hsz hk=>?_
  refine wpAny_pyIter_enum (s:={s1 with heap:=h'}) hz ?_
  refine⟨s1.heap.objs.size+1,[s1.heap.objs.size+1,s1.heap.objs.size],_,_,H1,rfl,I1.kept (t':=s1.toks) hk,(IP _ _ l1 (Nat.succ_ne_self _)).calm hc,⟨⟨_,hz⟩,hi1⟩,fun b hb=>?_,q⟩
  have hb':s1.heap.objs.size<=b:=by
   simp only[mem_cons,not_mem_nil,or_false] at hb
   rcases hb with rfl|rfl
   ·exact Nat.le_add_right _ 1
   ·exact le_refl _
  exact I1.Ls hb' (I1.hok.fresh hb')
noncomputable def jX:Nat->List PyData->List PyData
 |_,[]=>[]
 |i,x::xs=>.tuple [.int i,x]::jX (i+1) xs
theorem zB:∀{xs:List PyData} {j i:Nat} {x:PyData},xs[i]? = some x->(jX j xs)[i]? = some (.tuple [.int ((j+i:Nat):Int),x])
 |_::_,j,0,x,h=>by simp at h;subst h;rfl
 |_::xs,j,i+1,x,h=>by
  have:=zB (xs:=xs) (j:=j+1) (i:=i) (x:=x) (by simpa using h)
  rw[show j+1+i=j+(i+1) by omega] at this
  exact this
 |[],j,i,x,h=>by simp at h
theorem tJ:∀(j:Nat) (xs:List PyData),(jX j xs).length=xs.length
 |_,[]=>rfl
 |j,_::xs=>by show (jX (j+1) xs).length+1=xs.length+1;rw[tJ]
noncomputable def BV(t:DTA):DTI:=fun ρ U Q=>t ρ U fun ds am=>match ds with
 |[.v (.list xs)]=>Q (jX 0 xs) am
 |_=>False
theorem Hf{a:Expr}{t:DTA}{p pos:Pos}(hg:Gl X "enumerate")(hm:X.mg "enumerate"=none)(ha:DA X [a] t)(hs:starEach [a] X.env=[(false,eval a X.env)]:=by rfl)(hc:X.calm=true:=by rfl) :
  DI X (.Tuple es x1 tpos) (.Call (.Name "enumerate" p) [a] [] pos) (BV t):=by
 obtain⟨t1,p1,l1⟩:=ha
 refine⟨_,MD hc hg hm p1 hs,fun σ H ρ U Qd R S h k=>?_⟩
 refine l1 σ H ρ U _ _ S h fun ds us am H1 e1 S1 rs len h1=>?_
 split at h1
 ·rename_i xs
  cases rs with
  |cons r1 r2=>
   cases r2
   cases r1 with
   |@list a us _ ha hn ra=>
    refine⟨a,rfl,⟨us,SqL.of ha⟩,k (jX 0 xs) am H1 _ e1 S1 (fun bn H2 e2 ok2 i=>⟨fun hi=>?_,fun hi=>?_⟩) h1⟩
    ·rw[tJ] at hi
     have ha2:=e2.keep _ _ ha hn trivial
     have i1:i<us.length:=by rw[<- ra.length];omega
     refine⟨⟨us,us[i],SqL.of ha2,by simp[i1]⟩,?_⟩
     rintro v H' ⟨p,x,rfl,hp,rfl,hx⟩
     obtain⟨u',h1',h2'⟩:=ra.get (i:=i) (d:=xs[i]'∅) (by simp)
     have z1:=hx us (SqL.of ha2)
     rw[h1'] at z1
     cases z1
     have eg:=zB (xs:=xs) (j:=0) (i:=i) (x:=xs[i]'∅) (by simp)
     rw[Nat.zero_add] at eg
     refine⟨.tuple [.int i,xs[i]'∅],eg,Dt hp,?_⟩
     exact ib ok2 (.cons (Rp.int _) (.cons (h2'.ext S1.mu e2) .nil)) hp
    ·rw[tJ] at hi
     have l1:=ra.length
     exact⟨us,SqL.of (e2.keep _ _ ha hn trivial),∅⟩
 ·exact h1.elim
theorem Dj{t:DTA}{ρ:Rho}{U:Mu}{Q:List PyData->Mu->Prop}:BV t ρ U Q=t ρ U fun ds am=>match ds with|[.v (.list xs)]=>Q (jX 0 xs) am|_=>False:=propext Iff.rfl
end
open PySem PySem.Spec PyProof.Rows NM
theorem jM{n m:Nat}{i j:Int}(h:Sz n i)(g:Sz m j)(l:n+m<=100000):IntMulOk i j:=by
 have b1:∀{k:Nat} {z:Int},Sz k z->Builtin.Int.intBits z<=k:=fun {k z} hz=>by
  unfold Builtin.Int.intBits
  split
  ·exact zero_le _
  ·rename_i q
   have hz':z.natAbs≠0:=by simp at q;omega
   have:=(Nat.log2_lt hz').mpr hz.lt
   omega
 have e1:=b1 h
 have e2:=b1 g
 unfold IntMulOk
 intro z
 simp only[and_eq_true] at z
 have z3:=z.2
 unfold Builtin.Int.intTooBig at z3
 simp only[decide_eq_true_eq] at z3
 have:(100000:Int)<=bitsLine:=by decide
 omega
theorem Ep{n:Nat}{i j:Int}(h0:j≠0)(h:Sz n j)(l:n<=8900):uN i j:=by
 refine⟨h0,PyProof.noPylong_of_log2 ?_⟩
 have hz':j.natAbs≠0:=by omega
 have:=(Nat.log2_lt hz').mpr h.lt
 omega
theorem divC{i j:Int}(h0:j≠0)(h1:j.natAbs<1073741824):uN i j:=⟨h0,PyProof.noPylong_small h1⟩
theorem mulL{i j:Int}(h:i.natAbs<2 ^ 64):IntMulOk i j:=Mp.ok (.inl ∅)
theorem mulR{i j:Int}(h:j.natAbs<2 ^ 64):IntMulOk i j:=Mp.ok (.inr ∅)
noncomputable def dN(x:N3):PyData:=.tuple [.int x.a,.int x.b,.int x.c]
noncomputable def isWhole(d:PyData):Bool:=isT "int" d&&!isT "bool" d
noncomputable def isNum:PyData->Bool
 |.tuple [.int a,.int b,.int c]=>decide (1<=c)&&(g3 a b c==1)
 |_=>false
noncomputable def iS:DSp:=fun ds U Q=>∃d,ds=[.v d]/\Q (.v (.bool (isWhole d))) U
noncomputable def nH:DSp:=fun ds U Q=>∃a b:Int,ds=[.v (.int a),.v (.int b)]/\Q (.v (.int (Int.gcd a b:Nat))) U
noncomputable def xR:DSp:=fun ds U Q=>∃a b c:Int,ds=[.v (.int a),.v (.int b),.v (.int c)]/\Q (.v (.int (g3 a b c:Nat))) U
noncomputable def Few:PyData->Prop
 |.tuple xs=>xs.length<=1000
 |_=>True
noncomputable def ma:DSp:=fun ds U Q=>∃d,ds=[.v d]/\Few d/\Q (.v (.bool (isNum d))) U
noncomputable def dM:DSp:=fun ds U Q=>∃a b c:Int,ds=[.v (.int a),.v (.int b),.v (.int c)]/\c≠0/\Sz 8800 c/\Q (.v (dN (low a b c))) U
noncomputable def jv:DSp:=fun ds U Q=>∃x:N3,ds=[.v (dN x)]/\Q (.v (dN (nI x))) U
noncomputable def gp:DSp:=fun ds U Q=>∃x:N3,ds=[.v (dN x)]/\Q (.v (dN (minus x))) U
noncomputable def sp2(f:N3->N3->N3):DSp:=fun ds U Q=>∃x y:N3,ds=[.v (dN x),.v (dN y)]/\Ok x/\Ok y/\Bd 4300 x/\Bd 4300 y/\Q (.v (dN (f x y))) U
noncomputable abbrev bQ:DSp:=sp2 plus
noncomputable def bL:DSp:=fun ds U Q=>∃(d:Int) (x y:N3),ds=[.v (.int d),.v (dN x),.v (dN y)]/\Sz 5 d/\Ok x/\Ok y/\Bd 4300 x/\Bd 4300 y/\Q (.v (dN (times d x y))) U
noncomputable def jG:DSp:=fun ds U Q=>∃(d:Int) (x:N3),ds=[.v (.int d),.v (dN x)]/\Sz 5 d/\norm d x≠0/\Bd 4300 x/\Q (.v (dN (bN d x))) U
noncomputable def qY:DSp:=fun ds U Q=>∃d a b:Int,ds=[.v (.int d),.v (.int a),.v (.int b)]/\Sz 5 d/\Sz 9900 a/\Sz 9900 b/\Q (.v (.int (sg d a b))) U
noncomputable def kv:DSp:=fun ds U Q=>∃(d:Int) (x:N3),ds=[.v (.int d),.v (dN x)]/\ay d/\Bd 8900 x/\Q (.v (.int (sg d x.a x.b))) U
noncomputable def dif(d:Int)(x y:N3):Int:=sg d (x.a*y.c-y.a*x.c) (x.b*y.c-y.b*x.c)
noncomputable def vF:DSp:=fun ds U Q=>∃(d:Int) (x y:N3),ds=[.v (.int d),.v (dN x),.v (dN y)]/\ay d/\Bd 4400 x/\Bd 4400 y/\Q (.v (.bool (decide (dif d x y=1)))) U
noncomputable def Bag(U:Mu)(a:Addr):Prop:=∃g m:Int,U a=some [.int g,.int m]/\0<=g/\0<=m/\m<2147483648
noncomputable def Step(a:Addr)(U Z:Mu):Prop:=Bag Z a/\∀b,b≠a->Z b=U b
noncomputable def Gz:DSp:=fun ds U Q=>∃(ns:List Int) (k:Int),ds=[.s ns,.v (.int k)]/\0<=k/\k<=1000/\∀p Z,U p=none->Step p U Z->Q (.m p) Z
noncomputable def bX:DSp:=fun ds U Q=>∃(a:Addr) (n:Int),ds=[.m a,.v (.int n)]/\1<=n/\n<=1000000000/\Bag U a/\∀r Z,0<=r->r<n->Step a U Z->Q (.v (.int r)) Z
noncomputable def kT:DSp:=fun ds U Q=>∃a:Addr,ds=[.m a]/\Bag U a/\∀x Z,Ok x->Bd 20 x->Step a U Z->Q (.v (dN x)) Z
noncomputable def vL:DSp:=fun ds U Q=>∃a:Addr,ds=[.m a]/\Bag U a/\∀d Z,ay d->Step a U Z->Q (.v (.int d)) Z
theorem Step.trans{a:Addr}{U am bn:Mu}(h:Step a U am)(g:Step a am bn):Step a U bn:=⟨g.1,fun b n=>(g.2 b n).trans (h.2 b n)⟩
theorem Step.set{a:Addr}{U:Mu}{g m:Int}(h1:0<=g)(h2:0<=m)(h3:m<2147483648):Step a U (aQ U a [.int g,.int m]):=⟨⟨g,m,aX,h1,h2,h3⟩,fun b n=>aV n⟩
def mkW(s:String):Lean.MacroM (Lean.TSyntax `tactic):=do let a<-(s.splitOn " ").toArray.mapM fun t=>if t.front=='↓' then `(Lean.Parser.Tactic.simpLemma|↓$(Lean.mkIdent (t.drop 1).toName):term) else `(Lean.Parser.Tactic.simpLemma|$(Lean.mkIdent t.toName):term);`(tactic|simp only[$a,*])
local macro_rules|`(tactic| walk_at "rd")=>mkW "↓xq ↓yo ↓A0 ↓tK ↓xK ↓B6 ↓we ↓BR ↓Bj ↓AD ↓vY ↓q_c ↓Qo ↓q_B ↓NK ↓GZ ↓GY ↓EF ↓N1 ↓AG ↓J4 ↓Bq ↓Q3 ↓yv ↓qw ↓Em ↓C5 ↓AL ↓D1 ↓Ea ↓Dl ↓G8 ↓Ha ↓xh ↓Bp ↓Bz ↓wc ↓xb ↓wQ ↓Ba ↓xE ↓uO ↓Hx ↓Gi ↓Hz ↓AM ↓Bn ↓LY ↓qQ ↓Cg ↓Hq ↓Ou ↓yp ↓B3 ↓Cc ↓BZ ↓Gw ↓AB ↓vK ↓Gh ↓Gy ↓oS ↓BS ↓vZ ↓BO ↓B5 ↓JY ↓He ↓Bs ↓wR ↓Ds ↓BU ↓KN ↓vR ↓Fm ↓F7 ↓F9 ↓AI ↓sQ ↓vX ↓qM ↓sF ↓sO Lg ↓EU ↓md A5 Aw Gj GP Hk bind_none bind_some join_some List.getElem?_cons_zero List.getElem?_cons_succ aS dN pH wz yd Ag DD List.map List.append List.replicate length_cons length_nil Nat.reduceAdd Nat.reduceSub nil_append cons_append set_cons_zero set_cons_succ map_some ↓reduceIte Bool.not_true Bool.not_false false_eq_true Bool.true_eq_false xor_false false_xor"
noncomputable def jR:DTS:=
 (bI (mI (xx "int" (ai 0)) (Km (xx "bool" (ai 0)))))
noncomputable def gE:DTS:=
 (aP (xm (dB (dOp (dP true) (ai 1) (dC (.int 0)))) (tZ 0 1 (ah (ai 1) (ah (yK (ai 0) (ai 1)) au))))
 (bI (dCB qI (ah (ai 0) au))))
noncomputable def gk:DTS:=
 (bI (ax nH (ah (ax nH (ah (ai 2) (ah (ai 0) au))) (ah (ai 1) au))))
noncomputable def jm:DTS:=
 (aP (tZ 0 1 (ah (dCB qI (ah (ai 0) au)) (ah (dCB qI (ah (ai 1) au)) au)))
 (aP (xm (dB (dOp rGt (ai 1) (dC (.int 0)))) (tZ 0 1 (ah (ai 1) (ah (yK (ai 0) (ai 1)) au))))
 (bI (ai 0))))
section
theorem Gf(x:Int){y:Int}(h:y≠0):(x.fmod y).natAbs<y.natAbs:=by
 have e:=Int.mul_fdiv_add_fmod x y
 have:=Int.fmod_def x y
 rcases Int.lt_or_gt_of_ne h with h|h
 ·have k:=Int.neg_fmod_neg (a:=x) (b:=y)
  have h1:=Int.fmod_nonneg_of_pos (-x) (show 0 < -y by omega)
  have h2:=Int.fmod_lt_of_pos (-x) (show 0 < -y by omega)
  omega
 ·have h1:=Int.fmod_nonneg_of_pos x h
  have h2:=Int.fmod_lt_of_pos x h
  omega
theorem D3(x y:Int):Int.gcd y (x.fmod y)=Int.gcd x y:=by
 have e:=Int.mul_fdiv_add_fmod x y
 have e':x.fmod y=x+y*(-(x.fdiv y)):=by rw[Int.mul_neg];omega
 rw[e',Int.gcd_add_mul_left_right,Int.gcd_comm]
theorem uq{U Qd ds}(h:iS ds U Qd):jR ‹Qd› (aS ["thing"] ds) U:=by
 obtain⟨d,rfl,q⟩:=h
 unfold jR
 walk_at "rd"
 unfold isWhole at q
 cases hb:isT "int" d<;>simp_all
theorem rS{U Qd ds}(h:nH ds U Qd):gE ‹Qd› (aS ["a","b"] ds) U:=by
 obtain⟨a,b,rfl,q⟩:=h
 unfold gE
 walk_at "rd"
 refine⟨fun m ρ Z=>∃x y:Int,ρ=[some (.v (.int x)),some (.v (.int y))]/\m=y.natAbs/\Int.gcd x y=Int.gcd a b/\Z=U,⟨_,a,b,rfl,rfl,rfl,rfl⟩,?_⟩
 rintro m ρ Z ⟨x,y,rfl,rfl,hg,rfl⟩
 walk_at "rd"
 by_cases hy:y=0
 ·subst hy
  have e:Int.gcd x 0=x.natAbs:=Int.gcd_zero_right x
  rw[<- hg,e] at q
  simpa using q
 ·have z:(true ^^ decide (y=0))=true:=by simp[hy]
  rw[if_pos z]
  exact⟨hy,_,Gf x hy,y,x.fmod y,rfl,rfl,(D3 x y).trans hg,trivial⟩
theorem xB{U Qd ds}(h:nH ds U Qd):jm ‹Qd› (aS ["_law_one","_law_other"] ds) U:=by
 obtain⟨a,b,rfl,q⟩:=h
 unfold jm
 walk_at "rd"
 refine⟨fun m ρ Z=>∃x y:Int,ρ=[some (.v (.int x)),some (.v (.int y))]/\m=y.natAbs/\0<=x/\0<=y/\Int.gcd x y=Int.gcd a b/\Z=U,⟨_,_,_,rfl,rfl,∅,∅,by simp[Int.gcd],rfl⟩,?_⟩
 rintro m ρ Z ⟨x,y,rfl,rfl,hx,hy,hg,rfl⟩
 walk_at "rd"
 by_cases h0:0<y
 ·rw[if_pos (by simpa using h0)]
  have hy':y≠0:=by omega
  exact⟨hy',_,Gf x hy',y,x.fmod y,rfl,rfl,∅,Int.fmod_nonneg_of_pos x h0,(D3 x y).trans hg,trivial⟩
 ·rw[if_neg (by simpa using h0)]
  have e:y=0:=by omega
  subst e
  rw[Int.gcd_zero_right] at hg
  have:x=((Int.gcd a b:Nat):Int):=by omega
  rw[this]
  exact q
theorem sG{U Qd ds}(h:xR ds U Qd):gk ‹Qd› (aS ["a","b","c"] ds) U:=by
 obtain⟨a,b,c,rfl,q⟩:=h
 unfold gk
 walk_at "rd"
 rw[<- Mv] at q
 exact⟨c,a,rfl,_,b,rfl,q⟩
end
noncomputable def tm:DTS:=
 (aP (dA (dB (dOp (dP false) (ai 2) (dC (.int 0)))) Ci bV)
 (aP (br (ax xR (ah (ai 0) (ah (ai 1) (ah (ai 2) au)))) (ar 3))
 (aP (dA (dB (dOp rLt (ai 2) (dC (.int 0)))) (br (zg (ai 3)) (ar 3)) bV)
 (bI (bF (ah (vg (ai 0) (ai 3)) (ah (vg (ai 1) (ai 3)) (ah (vg (ai 2) (ai 3)) au))))))))
noncomputable def nW:DTS:=
 (aP (br (cO (ax nH (ah (ax nH (ah (ai 0) (ah (ai 1) au))) (ah (ai 2) au))) (dOp aN (jy (ah (dC (.int 1)) (ah (zg (dC (.int 1))) au))) (dCB sM (ah (dOp rLt (ai 2) (dC (.int 0))) au)))) (ar 3))
 (bI (bF (ah (vg (ai 0) (ai 3)) (ah (vg (ai 1) (ai 3)) (ah (vg (ai 2) (ai 3)) au))))))
noncomputable def lV:DTS:=
 (bI (bF (ah (dOp aN (ai 0) (dC (.int 0))) (ah (mP (dC (.int 0)) (dOp aN (ai 0) (dC (.int 1)))) (ah (dOp aN (ai 0) (dC (.int 2))) au)))))
noncomputable def kg:DTS:=
 (bI (bF (ah (mP (dC (.int 0)) (dOp aN (ai 0) (dC (.int 0)))) (ah (mP (dC (.int 0)) (dOp aN (ai 0) (dC (.int 1)))) (ah (dOp aN (ai 0) (dC (.int 2))) au)))))
noncomputable def Bi:DTS:=
 (bI (ax dM (ah (kj (cO (dOp aN (ai 0) (dC (.int 0))) (dOp aN (ai 1) (dC (.int 2)))) (cO (dOp aN (ai 1) (dC (.int 0))) (dOp aN (ai 0) (dC (.int 2))))) (ah (kj (cO (dOp aN (ai 0) (dC (.int 1))) (dOp aN (ai 1) (dC (.int 2)))) (cO (dOp aN (ai 1) (dC (.int 1))) (dOp aN (ai 0) (dC (.int 2))))) (ah (cO (dOp aN (ai 0) (dC (.int 2))) (dOp aN (ai 1) (dC (.int 2)))) au)))))
noncomputable def rg:DTS:=
 (bI (ax dM (ah (kj (cO (dOp aN (ai 0) (dC (.int 0))) (dOp aN (ai 1) (dC (.int 2)))) (cO (dOp aN (ai 1) (dC (.int 0))) (dOp aN (ai 0) (dC (.int 2))))) (ah (kj (cO (dOp aN (ai 0) (dC (.int 1))) (dOp aN (ai 1) (dC (.int 2)))) (cO (dOp aN (ai 1) (dC (.int 1))) (dOp aN (ai 0) (dC (.int 2))))) (ah (cO (dOp aN (ai 0) (dC (.int 2))) (dOp aN (ai 1) (dC (.int 2)))) au)))))
noncomputable def wG:DTS:=
 (bI (ax dM (ah (kj (cO (dOp aN (ai 1) (dC (.int 0))) (dOp aN (ai 2) (dC (.int 0)))) (cO (cO (ai 0) (dOp aN (ai 1) (dC (.int 1)))) (dOp aN (ai 2) (dC (.int 1))))) (ah (kj (cO (dOp aN (ai 1) (dC (.int 0))) (dOp aN (ai 2) (dC (.int 1)))) (cO (dOp aN (ai 1) (dC (.int 1))) (dOp aN (ai 2) (dC (.int 0))))) (ah (cO (dOp aN (ai 1) (dC (.int 2))) (dOp aN (ai 2) (dC (.int 2)))) au)))))
noncomputable def pF:DTS:=
 (bI (ax dM (ah (kj (cO (dOp aN (ai 1) (dC (.int 0))) (dOp aN (ai 2) (dC (.int 0)))) (cO (cO (ai 0) (dOp aN (ai 1) (dC (.int 1)))) (dOp aN (ai 2) (dC (.int 1))))) (ah (kj (cO (dOp aN (ai 1) (dC (.int 0))) (dOp aN (ai 2) (dC (.int 1)))) (cO (dOp aN (ai 1) (dC (.int 1))) (dOp aN (ai 2) (dC (.int 0))))) (ah (cO (dOp aN (ai 1) (dC (.int 2))) (dOp aN (ai 2) (dC (.int 2)))) au)))))
noncomputable def gY:DTS:=
 (bI (ax dM (ah (cO (dOp aN (ai 1) (dC (.int 0))) (dOp aN (ai 1) (dC (.int 2)))) (ah (mP (dC (.int 0)) (cO (dOp aN (ai 1) (dC (.int 1))) (dOp aN (ai 1) (dC (.int 2))))) (ah (mP (cO (dOp aN (ai 1) (dC (.int 0))) (dOp aN (ai 1) (dC (.int 0)))) (cO (cO (ai 0) (dOp aN (ai 1) (dC (.int 1)))) (dOp aN (ai 1) (dC (.int 1))))) au)))))
noncomputable def A1:DTS:=
 (bI (bF (ah (dOp aN (ai 0) (dC (.int 0))) (ah (zg (dOp aN (ai 0) (dC (.int 1)))) (ah (dOp aN (ai 0) (dC (.int 2))) au)))))
section
variable {U:Mu}{Qd:DK}{ds:List D}
theorem Th(i j:Int):PyData.eqv (.int i) (.int j)=decide (i=j):=by simp[PyData.eqv];rfl
theorem gdv{a b c:Int}(h:Sz 8800 c)(hc:c≠0):Sz 8800 ((g3 a b c:Nat):Int):=by
 have h1:=(KD a b c).2.2
 have h2:=Int.natAbs_dvd_natAbs.mpr h1
 exact h.le (Nat.le_of_dvd ∅ h2)
theorem IX(h:dM ds U Qd):tm ‹Qd› (aS ["a","b","c","divisor"] ds) U:=by
 obtain⟨a,b,c,rfl,hc,hz,q⟩:=h
 unfold tm
 walk_at "rd"
 rw[decide_eq_false hc]
 simp only[xor_false,false_eq_true,↓reduceIte]
 refine⟨a,b,c,rfl,?_⟩
 walk_at "rd"
 have hp:=AR (a:=a) (b:=b) hc
 have hg:=gdv (a:=a) (b:=b) hz hc
 unfold low NM.dv dN at q
 simp only at q
 by_cases hn:c<0
 ·rw[if_pos (by simpa using hn)]
  rw[if_pos hn] at q
  have o:∀i:Int,uN i (-((g3 a b c:Nat):Int)):=fun i=>Ep ∅ hg.neg ⋯
  exact⟨o _,o _,o _,q⟩
 ·rw[if_neg (by simpa using hn)]
  rw[if_neg hn] at q
  have o:∀i:Int,uN i ((g3 a b c:Nat):Int):=fun i=>Ep ∅ hg ⋯
  exact⟨o _,o _,o _,q⟩
theorem C7(h:dM ds U Qd):nW ‹Qd› (aS ["_law_a","_law_b","_law_c","_law_common"] ds) U:=by
 obtain⟨a,b,c,rfl,hc,hz,q⟩:=h
 unfold nW
 walk_at "rd"
 refine⟨a,b,rfl,_,c,rfl,?_⟩
 walk_at "rd"
 have hp:=AR (a:=a) (b:=b) hc
 have hg:=gdv (a:=a) (b:=b) hz hc
 unfold low NM.dv dN at q
 simp only at q
 by_cases hn:c<0
 ·simp only[hn,decide_true,↓reduceIte,yd]
  rw[if_pos hn] at q
  have e:((Int.gcd (Int.gcd a b:Nat) c:Nat):Int) * -1 = -((g3 a b c:Nat):Int):=by unfold g3;omega
  walk_at "rd"
  rw[e]
  have o:∀i:Int,uN i (-((g3 a b c:Nat):Int)):=fun i=>Ep ∅ hg.neg ⋯
  exact⟨mulR ⋯,o _,o _,o _,q⟩
 ·simp only[hn,decide_false,false_eq_true,↓reduceIte,wz]
  rw[if_neg hn] at q
  have e:((Int.gcd (Int.gcd a b:Nat) c:Nat):Int)*1=((g3 a b c:Nat):Int):=by unfold g3;omega
  walk_at "rd"
  rw[e]
  have o:∀i:Int,uN i ((g3 a b c:Nat):Int):=fun i=>Ep ∅ hg ⋯
  exact⟨mulR ⋯,o _,o _,o _,q⟩
theorem ME(h:jv ds U Qd):A1 ‹Qd› (aS ["x"] ds) U:=by
 obtain⟨x,rfl,q⟩:=h
 unfold A1
 walk_at "rd"
 exact q
theorem Cj(h:jv ds U Qd):lV ‹Qd› (aS ["_law_x"] ds) U:=by
 obtain⟨x,rfl,q⟩:=h
 unfold lV
 walk_at "rd"
 simp only[Int.zero_sub]
 exact q
theorem yV(h:gp ds U Qd):kg ‹Qd› (aS ["_law_x"] ds) U:=by
 obtain⟨x,rfl,q⟩:=h
 unfold kg
 walk_at "rd"
 simp only[Int.zero_sub]
 exact q
theorem G7(h:bQ ds U Qd):Bi ‹Qd› (aS ["x","y"] ds) U:=by
 obtain⟨x,y,rfl,ox,oy,bx,by',q⟩:=h
 unfold Bi
 walk_at "rd"
 have m:∀{i j:Int},Sz 4300 i->Sz 4300 j->IntMulOk i j:=fun h g=>jM h g ⋯
 exact⟨m bx.a by'.c,m by'.a bx.c,m bx.b by'.c,m by'.b bx.c,m bx.c by'.c,_,_,_,rfl,yT ox oy,(bx.c.mul by'.c).mono ⋯,q⟩
theorem Bg(h:bQ ds U Qd):rg ‹Qd› (aS ["_law_x","_law_y"] ds) U:=G7 h
theorem D8(h:bL ds U Qd):wG ‹Qd› (aS ["d","x","y"] ds) U:=by
 obtain⟨d,x,y,rfl,hd,ox,oy,bx,by',q⟩:=h
 unfold wG
 walk_at "rd"
 have m:∀{i j:Int},Sz 4300 i->Sz 4300 j->IntMulOk i j:=fun h g=>jM h g ⋯
 exact⟨m bx.a by'.a,jM hd bx.b ⋯,jM (hd.mul bx.b) by'.b ⋯,m bx.a by'.b,m bx.b by'.a,m bx.c by'.c,_,_,_,rfl,yT ox oy,(bx.c.mul by'.c).mono ⋯,q⟩
theorem yL(h:bL ds U Qd):pF ‹Qd› (aS ["_law_d","_law_x","_law_y"] ds) U:=D8 h
theorem sZ(h:jG ds U Qd):gY ‹Qd› (aS ["_law_d","_law_x"] ds) U:=by
 obtain⟨d,x,rfl,hd,hn,bx,q⟩:=h
 unfold gY
 walk_at "rd"
 have m:∀{i j:Int},Sz 4300 i->Sz 4300 j->IntMulOk i j:=fun h g=>jM h g ⋯
 refine⟨m bx.a bx.c,m bx.b bx.c,m bx.a bx.a,jM hd bx.b ⋯,jM (hd.mul bx.b) bx.b ⋯,_,_,_,rfl,hn,(HC hd bx).mono ⋯,?_⟩
 have e1:x.a*x.c=x.c*x.a:=Int.mul_comm ..
 have e2:0-x.b*x.c = -x.c*x.b:=by grind
 rw[e1,e2]
 exact q
theorem Sv(a b c a' b' c':Int):PyData.eqv (.tuple [.int a,.int b,.int c]) (.tuple [.int a',.int b',.int c'])=decide (a=a'/\b=b'/\c=c'):=by
 simp[PyData.eqv,PyData.eqvAll]
 rfl
end
noncomputable def gR:DTS:=
 (aP (dA (zl (dB (dOp (dP false) (ai 1) (dC (.int 0)))) (dB (dOp (dP false) (ai 2) (dC (.int 0))))) (bI (dC (.int 0))) bV)
 (aP (dA (zl (dB (dOp rGe (ai 1) (dC (.int 0)))) (dB (dOp rGe (ai 2) (dC (.int 0))))) (bI (dC (.int 1))) bV)
 (aP (dA (zl (dB (dOp rLe (ai 1) (dC (.int 0)))) (dB (dOp rLe (ai 2) (dC (.int 0))))) (bI (zg (dC (.int 1)))) bV)
 (aP (br (dIf (dB (dOp rGt (cO (ai 1) (ai 1)) (cO (cO (ai 0) (ai 2)) (ai 2)))) (ai 1) (ai 2)) (ar 3))
 (bI (dIf (dB (dOp rGt (ai 3) (dC (.int 0)))) (dC (.int 1)) (zg (dC (.int 1)))))))))
noncomputable def qg:DTS:=
 (bI (ax qY (ah (ai 0) (ah (dOp aN (ai 1) (dC (.int 0))) (ah (dOp aN (ai 1) (dC (.int 1))) au)))))
noncomputable def nC:DTS:=
 (aP (br (mP (cO (dOp aN (ai 1) (dC (.int 0))) (dOp aN (ai 2) (dC (.int 2)))) (cO (dOp aN (ai 2) (dC (.int 0))) (dOp aN (ai 1) (dC (.int 2))))) (ar 3))
 (aP (br (mP (cO (dOp aN (ai 1) (dC (.int 1))) (dOp aN (ai 2) (dC (.int 2)))) (cO (dOp aN (ai 2) (dC (.int 1))) (dOp aN (ai 1) (dC (.int 2))))) (ar 4))
 (bI (dOp (dP false) (ax qY (ah (ai 0) (ah (ai 3) (ah (ai 4) au)))) (dC (.int 1))))))
noncomputable def lE:DTS:=
 (aP (tZ 2 3 (ah (cO (dOp aN (ai 1) (dC (.int 0))) (dOp aN (ai 1) (dC (.int 0)))) (ah (cO (cO (ai 0) (dOp aN (ai 1) (dC (.int 1)))) (dOp aN (ai 1) (dC (.int 1)))) au)))
 (aP (br (jy (ah (mP (dCB sM (ah (dOp rGt (dOp aN (ai 1) (dC (.int 0))) (dC (.int 0))) au)) (dCB sM (ah (dOp rLt (dOp aN (ai 1) (dC (.int 0))) (dC (.int 0))) au))) (ah (mP (dCB sM (ah (dOp rGt (dOp aN (ai 1) (dC (.int 1))) (dC (.int 0))) au)) (dCB sM (ah (dOp rLt (dOp aN (ai 1) (dC (.int 1))) (dC (.int 0))) au))) au))) (ar 4))
 (aP (dA (dB (dOp rGe (cO (dOp aN (ai 4) (dC (.int 0))) (dOp aN (ai 4) (dC (.int 1)))) (dC (.int 0)))) (bI (dIf (dB (dOp (dP true) (dOp aN (ai 4) (dC (.int 0))) (dC (.int 0)))) (dOp aN (ai 4) (dC (.int 0))) (dOp aN (ai 4) (dC (.int 1))))) bV)
 (bI (dIf (dB (dOp rGt (ai 2) (ai 3))) (dOp aN (ai 4) (dC (.int 0))) (dOp aN (ai 4) (dC (.int 1))))))))
section
variable {U:Mu}{Qd:DK}{ds:List D}
theorem um(h:qY ds U Qd):gR ‹Qd› (aS ["d","a","b","prevailing"] ds) U:=by
 obtain⟨d,a,b,rfl,hd,ha,hb,q⟩:=h
 unfold gR
 walk_at "rd"
 have m1:MulOk a a:=jM ha ha ⋯
 have m2:MulOk d b:=jM hd hb ⋯
 have m3:MulOk (d*b) b:=jM (hd.mul hb) hb ⋯
 unfold sg at q
 by_cases h1:a=0
 ·by_cases h2:b=0
  ·subst h1 h2;simpa using q
  ·subst h1
   rcases Int.lt_or_gt_of_ne h2 with h3|h3
   ·have e:¬ (0<=b):=by omega
    have e':b<=0:=by omega
    simp only[h2,e,e',and_false,true_and,if_true,if_false,decide_true,decide_false,Int.le_refl,↓reduceIte,false_eq_true] at q ⊢
    exact q
   ·have e:(0<=b):=by omega
    simp only[h2,e,and_false,true_and,if_true,if_false,decide_true,decide_false,Int.le_refl,↓reduceIte,false_eq_true] at q ⊢
    exact q
 ·by_cases h3:0<=a<;>by_cases h4:0<=b<;>by_cases h5:a<=0<;>by_cases h6:b<=0<;>by_cases h7:d*b*b<a*a<;>(try (exfalso;omega))<;>
   simp only[h1,h3,h4,h5,h6,h7,and_false,false_and,and_true,true_and,if_true,if_false,decide_true,decide_false,↓reduceIte,false_eq_true,and_self,m1,m2,m3,gt_iff_lt] at q ⊢<;>(try exact q)
  all_goals
   first
   |(by_cases h8:0<a<;>simp only[h8,if_true,if_false,decide_true,decide_false,↓reduceIte,false_eq_true] at q ⊢<;>exact q)
   |(by_cases h8:0<b<;>simp only[h8,if_true,if_false,decide_true,decide_false,↓reduceIte,false_eq_true] at q ⊢<;>exact q)
theorem EY(h:kv ds U Qd):qg ‹Qd› (aS ["d","x"] ds) U:=by
 obtain⟨d,x,rfl,hd,bx,q⟩:=h
 unfold qg
 walk_at "rd"
 exact⟨d,x.a,x.b,rfl,o6 hd.1 hd.2.1,bx.a.mono ⋯,bx.b.mono ⋯,q⟩
theorem DY(h:vF ds U Qd):nC ‹Qd› (aS ["d","x","y","a","b"] ds) U:=by
 obtain⟨d,x,y,rfl,hd,bx,by',q⟩:=h
 unfold nC
 walk_at "rd"
 have m:∀{i j:Int},Sz 4400 i->Sz 4400 j->IntMulOk i j:=fun h g=>jM h g ⋯
 refine⟨m bx.a by'.c,m by'.a bx.c,m bx.b by'.c,m by'.b bx.c,d,_,_,rfl,o6 hd.1 hd.2.1,((bx.a.mul by'.c).sub (by'.a.mul bx.c)).mono ⋯,((bx.b.mul by'.c).sub (by'.b.mul bx.c)).mono ⋯,?_⟩
 walk_at "rd"
 exact q
theorem QC{d a b sa sb:Int}(ha:(a<0/\sa = -1)\/(a=0/\sa=0)\/(0<a/\sa=1))(hb:(b<0/\sb = -1)\/(b=0/\sb=0)\/(0<b/\sb=1)) :
  sg d a b=if 0<=sa*sb then (if sa≠0 then sa else sb) else if d*b*b<a*a then sa else sb:=by
 unfold sg
 by_cases h7:d*b*b<a*a<;>rcases ha with ⟨h1,rfl⟩|⟨h1,rfl⟩|⟨h1,rfl⟩<;>rcases hb with ⟨h2,rfl⟩|⟨h2,rfl⟩|⟨h2,rfl⟩<;>simp only[h7,↓reduceIte]<;>(repeat' split)<;>omega
theorem BJ(h:kv ds U Qd):lE ‹Qd› (aS ["_law_d","_law_x","_law_first","_law_second","_law_sides"] ds) U:=by
 obtain⟨d,x,rfl,hd,bx,q⟩:=h
 unfold lE
 walk_at "rd"
 have s5:=o6 hd.1 hd.2.1
 refine⟨jM bx.a bx.a ⋯,jM s5 bx.b ⋯,jM (s5.mul bx.b) bx.b ⋯,?_⟩
 have sd:∀u:Int,(u<0/\((if decide (0<u)=true then 1 else 0)-if decide (u<0)=true then 1 else 0:Int) = -1)\/(u=0/\((if decide (0<u)=true then 1 else 0)-if decide (u<0)=true then 1 else 0:Int)=0)\/(0<u/\((if decide (0<u)=true then 1 else 0)-if decide (u<0)=true then 1 else 0:Int)=1):=fun u=>by
  simp only[decide_eq_true_eq]
  split<;>split<;>omega
 have ha:=sd x.a
 have hb:=sd x.b
 generalize ((if decide (0<x.a)=true then 1 else 0)-if decide (x.a<0)=true then 1 else 0:Int)=sa at ha ⊢
 generalize ((if decide (0<x.b)=true then 1 else 0)-if decide (x.b<0)=true then 1 else 0:Int)=sb at hb ⊢
 rw[QC ha hb] at q
 refine⟨mulL ∅,?_⟩
 by_cases c1:0<=sa*sb<;>by_cases c2:sa=0<;>by_cases c3:d*x.b*x.b<x.a*x.a<;>simp only[c1,c2,c3,decide_true,decide_false,↓reduceIte,false_eq_true,xor_false,Bool.xor_true,Bool.not_true,ne_eq,not_true_eq_false,not_false_eq_true,zero_mul,Int.le_refl] at q ⊢<;>exact q
end
noncomputable def mQ:DTS:=
 (aP (br (dC (.int 0)) (ar 2))
 (aP (dA (dB (dOp rLt (ai 1) (dCB dq (ah (ai 0) au)))) (br (dOp aN (ai 0) (ai 1)) (ar 2)) bV)
 (aP (br (dC (.int 0)) (ar 3))
 (aP (dA (dB (dOp rGe (dCB qI (ah (ai 2) au)) (Nl (dC (.int 10)) (dC (.int 18))))) (br (dCB qI (ah (ai 2) au)) (ar 3)) bV)
 (aP (br (jy (ah (dC (.int 2147483647)) (ah (dC (.int 2147483629)) (ah (dC (.int 2147483587)) (ah (dC (.int 2147483579)) (ah (dC (.int 2147483563)) (ah (dC (.int 2147483549)) (ah (dC (.int 2147483543)) (ah (dC (.int 2147483497)) au))))))))) (ar 4))
 (aP (br (kj (kj (kj (cO (yK (ai 2) (dC (.int 2147483647))) (dC (.int 69623))) (cO (cO (dC (.int 104729)) (ai 1)) (ai 1))) (cO (dC (.int 7919)) (ai 1))) (dC (.int 12345))) (ar 5))
 (bI (Ae (ah (ai 3) (ah (yK (ai 5) (dOp aN (ai 4) (yK (ai 1) (dC (.int 8))))) au))))))))))
noncomputable def lC:DTS:=
 (aP (dA (dB (dOp rGt (dOp aN (ai 0) (dC (.int 0))) (dC (.int 0)))) (aP (br (yK (dOp aN (ai 0) (dC (.int 0))) (ai 1)) (ar 2))
 (aP (br (vg (dOp aN (ai 0) (dC (.int 0))) (ai 1)) (Dp (ai 0) (dC (.int 0))))
 (bI (ai 2)))) bV)
 (aP (br (yK (kj (cO (dOp aN (ai 0) (dC (.int 1))) (dC (.int 48271))) (dC (.int 2531011))) (dC (.int 2147483647))) (Dp (ai 0) (dC (.int 1))))
 (bI (yK (vg (yK (Nl (dOp aN (ai 0) (dC (.int 1))) (dC (.int 3))) (dC (.int 2147483629))) (dC (.int 64))) (ai 1)))))
section
variable {U:Mu}{Qd:DK}{ds:List D}
theorem vV{α:Type}{xs:List α}{i:Int}(h0:0<=i)(h:i<(xs.length:Nat)):∃d,atI xs i=some d/\d∈xs:=by
 have hj:i.toNat<xs.length:=by omega
 have e:=qB (xs:=xs) (j:=i.toNat) (v:=xs[i.toNat]) (by simp[hj])
 rw[show ((i.toNat:Nat):Int)=i by omega] at e
 exact⟨_,e,getElem_mem _⟩
theorem nV(x:Int){y:Int}(h:0<y):0<=x.fmod y/\x.fmod y<y:=⟨Int.fmod_nonneg_of_pos x h,Int.fmod_lt_of_pos x h⟩
theorem Nd{x y:Int}(hx:0<=x)(hy:0<y):0<=x.fdiv y:=by rw[Int.fdiv_eq_ediv_of_nonneg _ ∅];exact Int.ediv_nonneg hx ∅
noncomputable def oG:List PyData:=[.int 2147483647,.int 2147483629,.int 2147483587,.int 2147483579,.int 2147483563,.int 2147483549,.int 2147483543,.int 2147483497]
theorem DB(h:Gz ds U Qd):mQ ‹Qd› (aS ["_law_script","_law_at","_law_cell","_law_great","_law_primes","_law_mixed"] ds) U:=by
 obtain⟨ns,k,rfl,h0,h1,q⟩:=h
 unfold mQ
 have hp:∃pr:Int,atI oG (k.fmod 8)=some (.int pr)/\0<pr/\pr<2147483648:=by
  obtain⟨h2,h3⟩:=nV k (show (0:Int)<8 by decide)
  obtain⟨p,e,hm⟩:=vV (xs:=oG) h2 (by exact h3)
  simp only[oG,mem_cons,not_mem_nil,or_false] at hm
  rcases hm with rfl|rfl|rfl|rfl|rfl|rfl|rfl|rfl<;>exact⟨_,e,⋯,⋯⟩
 obtain⟨pr,hpe,hp0,hp1⟩:=hp
 unfold oG at hpe
 walk_at "rd"
 rw[hpe]
 walk_at "rd"
 have c1:Qk 10 18:=⟨⋯,⋯,⋯⟩
 have z1:(2147483647:Int)≠0:=by decide
 have z2:(8:Int)≠0:=by decide
 have m1:∀i:Int,MulOk i 69623:=fun i=>mulR ⋯
 have m2:MulOk 104729 k:=mulL ⋯
 have m3:MulOk (104729*k) k:=mulR ∅
 have m4:MulOk 7919 k:=mulL ⋯
 have z3:pr≠0:=by omega
 have fin:∀G x:Int,0<=G->∀p,U p=none->Qd (.m p) (aQ U p [.int G,.int (x.fmod pr)]):=fun G x hG p hp=>by
  obtain⟨h2,h3⟩:=nV x hp0
  exact q p _ hp (Step.set hG h2 ∅)
 by_cases hk:k<(ns.length:Nat)
 ·rw[if_pos (by simpa using hk)]
  obtain⟨c,hc,_⟩:=vV h0 hk
  rw[hc]
  walk_at "rd"
  refine⟨c1,?_⟩
  split
  ·exact⟨z1,m1 _,m2,m3,m4,z2,z3,fin _ _ ∅⟩
  ·exact⟨z1,m1 _,m2,m3,m4,z2,z3,fin _ _ ∅⟩
 ·rw[if_neg (by simpa using hk)]
  refine⟨c1,?_⟩
  split
  ·exact⟨z1,m1 _,m2,m3,m4,z2,z3,fin _ _ ∅⟩
  ·exact⟨z1,m1 _,m2,m3,m4,z2,z3,fin _ _ ∅⟩
theorem AS(h:bX ds U Qd):lC ‹Qd› (aS ["_law_bag_here","_law_many","_law_digit"] ds) U:=by
 obtain⟨a,n,rfl,h0,h1,⟨g,m,hb,hg,hm,hm'⟩,q⟩:=h
 unfold lC
 walk_at "rd"
 rw[hb]
 walk_at "rd"
 rw[hb]
 walk_at "rd"
 have n0:n≠0:=by omega
 have i0:ixN 2 0=some 0:=by rfl
 have i1:ixN 2 1=some 1:=by rfl
 by_cases hg0:0<g
 ·rw[if_pos (by simpa using hg0)]
  simp only[hb]
  walk_at "rd"
  obtain⟨r0,r1⟩:=nV g (show 0<n by omega)
  refine⟨n0,?_⟩
  simp only[hb]
  walk_at "rd"
  refine⟨divC n0 ∅,?_⟩
  simp only[hb,length_cons,length_nil,Nat.reduceAdd,i0,set_cons_zero]
  exact q _ _ r0 r1 (Step.set (Nd hg ∅) hm hm')
 ·rw[if_neg (by simpa using hg0)]
  simp only[hb,i1,aX]
  walk_at "rd"
  obtain⟨s0,s1⟩:=nV (m*48271+2531011) (show (0:Int)<2147483647 by decide)
  generalize (m*48271+2531011).fmod 2147483647=w at s0 s1 ⊢
  obtain⟨r0,r1⟩:=nV ((((w ^ Int.toNat 3).fmod 2147483629).fdiv 64)) (show 0<n by omega)
  refine⟨mulL ∅,⋯,?_⟩
  refine⟨⟨⋯,⋯,∅⟩,(by show (2147483629:Int)≠0;decide),divC ⋯ ⋯,n0,?_⟩
  exact q _ _ r0 r1 (Step.set hg s0 ∅)
end
noncomputable def lW:DTS:=
 (aP (dA (kU (eo (dB (xx "tuple" (ai 0)))) (dB (dOp (dP true) (dCB dq (ah (ai 0) au)) (dC (.int 3))))) (bI (dC (.bool false))) bV)
 (aP (br (ai 0) (dD 3 (aG (ar 1) (aG (ar 2) (aG (ar 3) dO)))))
 (aP (dA (kU (eo (dB (ax iS (ah (ai 1) au)))) (kU (eo (dB (ax iS (ah (ai 2) au)))) (eo (dB (ax iS (ah (ai 3) au)))))) (bI (dC (.bool false))) bV)
 (bI (mI (dOp rGe (ai 3) (dC (.int 1))) (dOp (dP false) (ax xR (ah (ai 1) (ah (ai 2) (ah (ai 3) au)))) (dC (.int 1))))))))
section
variable {U:Mu}{Qd:DK}{ds:List D}
noncomputable def Gm(i:Int):Bool:=decide (2<=i)&&decide (i<=30)&&!(decide (i=4) || decide (i=9) || decide (i=16) || decide (i=25))
theorem dS(d:PyData):(∃i,d = .int i/\isWhole d=true)\/((∀i,d≠.int i)/\isWhole d=false):=by
 cases d<;>first|exact .inl ⟨_,rfl,rfl⟩|exact .inr ⟨fun _ z=>(by cases z),rfl⟩
theorem GN(d:PyData):(∃xs,d = .tuple xs/\isT "tuple" d=true)\/((∀xs,d≠.tuple xs)/\isT "tuple" d=false):=by
 cases d<;>first|exact .inl ⟨_,rfl,rfl⟩|exact .inr ⟨fun _ z=>(by cases z),rfl⟩
theorem Af{d:PyData}(h:∀xs,d≠.tuple xs):isNum d=false:=by cases d<;>first|rfl|exact absurd rfl (h _)
theorem Am{xs:List PyData}(h:xs.length≠3):isNum (.tuple xs)=false:=by
 unfold isNum
 split
 ·rename_i e;cases e;exact absurd rfl h
 ·rfl
theorem three{α:Type}{xs:List α}(h:xs.length=3):∃a b c,xs=[a,b,c]:=by
 match xs,h with
 |[a,b,c],_=>exact⟨a,b,c,rfl⟩
theorem Ay(h:ma ds U Qd):lW ‹Qd› (aS ["thing","a","b","c"] ds) U:=by
 obtain⟨d,rfl,_,q⟩:=h
 unfold lW
 walk_at "rd"
 rcases GN d with ⟨xs,rfl,e⟩|⟨hn,e⟩
 ·rw[e]
  walk_at "rd"
  by_cases hl:xs.length=3
  ·obtain⟨a,b,c,rfl⟩:=three hl
   have e3:decide ((([a,b,c].length:Nat):Int)=3)=true:=rfl
   have e3':[a,b,c].length=3:=rfl
   simp only[e3,Bool.xor_self,false_eq_true,↓reduceIte]
   refine⟨rfl,?_⟩
   walk_at "rd"
   refine⟨a,rfl,?_⟩
   rcases dS a with ⟨i,rfl,e⟩|⟨hn,e⟩
   ·rw[e]
    walk_at "rd"
    refine⟨b,rfl,?_⟩
    rcases dS b with ⟨j,rfl,e⟩|⟨hn,e⟩
    ·rw[e]
     walk_at "rd"
     refine⟨c,rfl,?_⟩
     rcases dS c with ⟨k,rfl,e⟩|⟨hn,e⟩
     ·rw[e]
      walk_at "rd"
      have q':Qd (.v (.bool (decide (1<=k)&&(g3 i j k==1)))) U:=q
      by_cases hk:1<=k
      ·rw[if_pos (by simpa using hk)]
       refine⟨i,j,k,rfl,?_⟩
       walk_at "rd"
       have ee:decide (((g3 i j k:Nat):Int)=1)=(decide (1<=k)&&(g3 i j k==1)):=by
        rw[decide_eq_true hk,Bool.true_and,Bool.eq_iff_iff];simp;omega
       rw[ee]
       exact q'
      ·rw[if_neg (by simpa using hk)]
       rw[decide_eq_false hk] at q'
       exact q'
     ·rw[e]
      walk_at "rd"
      have:isNum (.tuple [.int i,.int j,c])=false:=by cases c<;>first|rfl|exact absurd rfl (hn _)
      rw[this] at q
      exact q
    ·rw[e]
     walk_at "rd"
     have:isNum (.tuple [.int i,b,c])=false:=by cases b<;>first|rfl|exact absurd rfl (hn _)
     rw[this] at q
     exact q
   ·rw[e]
    walk_at "rd"
    have:isNum (.tuple [a,b,c])=false:=by cases a<;>first|rfl|exact absurd rfl (hn _)
    rw[this] at q
    exact q
  ·rw[Am hl] at q
   have:decide (((xs.length:Nat):Int)=3)=false:=by simp;omega
   rw[this]
   simp only[xor_false,↓reduceIte]
   exact q
 ·rw[e]
  rw[Af hn] at q
  walk_at "rd"
  exact q
end
noncomputable def gF:DTS:=
 (aP (dA (kU (eo (dB (xx "tuple" (ai 0)))) (kU (dB (dOp (dP true) (dCB dq (ah (ai 0) au)) (dC (.int 3)))) (eo (dB (dCB zv (ah (Ad [none] (sJ (ai 0)) (ar 0) kP (ax iS (ah (ai 0) au))) au)))))) (bI (dC (.bool false))) bV)
 (bI (mI (dOp rGt (dOp aN (ai 0) (dC (.int 2))) (dC (.int 0))) (dOp (dP false) (ax nH (ah (ax nH (ah (dOp aN (ai 0) (dC (.int 0))) (ah (dOp aN (ai 0) (dC (.int 1))) au))) (ah (dOp aN (ai 0) (dC (.int 2))) au))) (dC (.int 1))))))
noncomputable def jd:DTS:=
 (aP (br (dOp aN (jy (ah (dC (.int 4)) (ah (dC (.int 10)) (ah (dC (.int 100)) (ah (dC (.int 1000000)) au))))) (ax bX (ah (ai 0) (ah (dC (.int 4)) au)))) (ar 1))
 (aP (tZ 2 3 (ah (mP (ax bX (ah (ai 0) (ah (ai 1) au))) (vg (ai 1) (dC (.int 2)))) (ah (mP (ax bX (ah (ai 0) (ah (ai 1) au))) (vg (ai 1) (dC (.int 2)))) au)))
 (aP (br (kj (dC (.int 1)) (ax bX (ah (ai 0) (ah (mP (ai 1) (dC (.int 1))) au)))) (ar 4))
 (aP (br (ax bX (ah (ai 0) (ah (dC (.int 8)) au))) (ar 5))
 (bI (ax dM (ah (dOp aN (jy (ah (ai 2) (ah (ai 2) (ah (ai 2) (ah (ai 2) (ah (ai 2) (ah (ai 2) (ah (ai 2) (ah (dC (.int 0)) au))))))))) (ai 5)) (ah (dOp aN (jy (ah (ai 3) (ah (ai 3) (ah (ai 3) (ah (ai 3) (ah (ai 3) (ah (dC (.int 0)) (ah (dC (.int 0)) (ah (ai 3) au))))))))) (ai 5)) (ah (dOp aN (jy (ah (ai 4) (ah (ai 4) (ah (dC (.int 1)) (ah (ai 4) (ah (dC (.int 1)) (ah (ai 4) (ah (dC (.int 1)) (ah (ai 4) au))))))))) (ai 5)) au)))))))))
section
variable {U:Mu}{Qd:DK}{ds:List D}
theorem qU(h:ma ds U Qd):gF ‹Qd› (aS ["_law_thing"] ds) U:=by
 obtain⟨d,rfl,few,q⟩:=h
 unfold gF
 walk_at "rd"
 rcases GN d with ⟨xs,rfl,e⟩|⟨hn,e⟩
 ·rw[e]
  walk_at "rd"
  by_cases hl:xs.length=3
  ·obtain⟨a,b,c,rfl⟩:=three hl
   have e3:decide ((([a,b,c].length:Nat):Int)=3)=true:=rfl
   simp only[e3,Bool.xor_self,false_eq_true,↓reduceIte]
   refine⟨by simp,fun x=>some (.bool (isWhole x)),fun x hx Z hs=>⟨trivial,x,rfl,rfl,rfl⟩,?_⟩
   rw[G2 (fun x=>PyData.bool (isWhole x)),uw]
   simp only[map_cons,map_nil,List.all_cons,List.all_nil,id,Bool.and_true]
   rcases dS a with ⟨i,rfl,ea⟩|⟨hn,ea⟩
   ·rcases dS b with ⟨j,rfl,e1⟩|⟨hn,e1⟩
    ·rcases dS c with ⟨k,rfl,e2⟩|⟨hn,e2⟩
     ·rw[ea,e1,e2]
      simp only[Bool.and_self]
      walk_at "rd"
      have q':Qd (.v (.bool (decide (1<=k)&&(g3 i j k==1)))) U:=q
      by_cases hk:1<=k
      ·rw[if_pos (by simp;omega)]
       refine⟨i,j,rfl,_,k,rfl,?_⟩
       walk_at "rd"
       have ee:decide (((Int.gcd (Int.gcd i j:Nat) k:Nat):Int)=1)=(decide (1<=k)&&(g3 i j k==1)):=by
        unfold g3
        rw[decide_eq_true hk,Bool.true_and,Bool.eq_iff_iff];simp;omega
       rw[ee]
       exact q'
      ·rw[if_neg (by simp;omega)]
       rw[decide_eq_false hk] at q'
       exact q'
     ·rw[ea,e1,e2]
      simp only[Bool.and_false]
      walk_at "rd"
      have:isNum (.tuple [.int i,.int j,c])=false:=by cases c<;>first|rfl|exact absurd rfl (hn _)
      rw[this] at q
      exact q
    ·rw[ea,e1]
     simp only[Bool.and_false,Bool.false_and]
     walk_at "rd"
     have:isNum (.tuple [.int i,b,c])=false:=by cases b<;>first|rfl|exact absurd rfl (hn _)
     rw[this] at q
     exact q
   ·rw[ea]
    simp only[Bool.and_false,Bool.false_and]
    walk_at "rd"
    have:isNum (.tuple [a,b,c])=false:=by cases a<;>first|rfl|exact absurd rfl (hn _)
    rw[this] at q
    exact q
  ·rw[Am hl] at q
   have:decide (((xs.length:Nat):Int)=3)=false:=by simp;omega
   rw[this]
   simp only[xor_false,↓reduceIte]
   exact q
 ·rw[e]
  rw[Af hn] at q
  walk_at "rd"
  exact q
theorem pick{P:PyData->Prop}{xs:List PyData}{i:Int}(h0:0<=i)(h1:i<(xs.length:Nat))(h:∀x∈xs,P x):∃d,atI xs i=some d/\P d:=let ⟨d,e,m⟩:=vV h0 h1;⟨d,e,h d m⟩
theorem Dz{i:Int}(h1:-1048576<i)(h2:i<1048576):Sz 20 i:=Sz.of (by show i.natAbs<1048576;omega)
theorem wC(h:kT ds U Qd):jd ‹Qd› (aS ["_law_bag_here","_law_wide","_law_a","_law_b","_law_c","_law_way"] ds) U:=by
 obtain⟨a,rfl,hb,q⟩:=h
 unfold jd
 walk_at "rd"
 refine⟨a,4,rfl,⋯,⋯,hb,fun r0 am h0 h1 s1=>?_⟩
 walk_at "rd"
 obtain⟨w,e,i,rfl,w0,w1⟩:=pick (P:=fun d=>∃i:Int,d = .int i/\4<=i/\i<=1000000) (xs:=[PyData.int 4,PyData.int 10,PyData.int 100,PyData.int 1000000]) h0 (by exact h1) (by
  intro x hx
  simp only[mem_cons,not_mem_nil,or_false] at hx
  rcases hx with rfl|rfl|rfl|rfl<;>exact⟨_,rfl,⋯,⋯⟩)
 rw[e]
 walk_at "rd"
 refine⟨a,i,rfl,∅,∅,s1.1,fun r1 bn h2 h3 s2=>?_⟩
 walk_at "rd"
 refine⟨divC ⋯ ⋯,a,i,rfl,∅,∅,s2.1,fun r2 dl h4 h5 s3=>?_⟩
 walk_at "rd"
 refine⟨divC ⋯ ⋯,a,i-1,rfl,∅,∅,s3.1,fun r3 im h6 h7 s4=>?_⟩
 walk_at "rd"
 refine⟨a,8,rfl,⋯,⋯,s4.1,fun r4 jp h8 h9 s5=>?_⟩
 walk_at "rd"
 have ef:i.fdiv 2=i / 2:=Int.fdiv_eq_ediv_of_nonneg _ ∅
 rw[ef]
 have za:Sz 20 (r1-i / 2):=Dz ∅ ∅
 have zb:Sz 20 (r2-i / 2):=Dz ∅ ∅
 have zc:Sz 20 (1+r3):=Dz ∅ ∅
 have z0:Sz 20 0:=Dz ∅ ∅
 have z1:Sz 20 1:=Dz ∅ ∅
 obtain⟨d1,e1,i1,rfl,b1⟩:=pick (P:=fun d=>∃i:Int,d = .int i/\Sz 20 i) (xs:=[PyData.int (r1-i / 2),PyData.int (r1-i / 2),PyData.int (r1-i / 2),PyData.int (r1-i / 2),PyData.int (r1-i / 2),PyData.int (r1-i / 2),PyData.int (r1-i / 2),PyData.int 0]) h8 (by exact h9) (by
  intro x hx
  simp only[mem_cons,not_mem_nil,or_false] at hx
  rcases hx with rfl|rfl|rfl|rfl|rfl|rfl|rfl|rfl<;>exact⟨_,rfl,by assumption⟩)
 rw[e1]
 walk_at "rd"
 obtain⟨d2,e2,i2,rfl,b2⟩:=pick (P:=fun d=>∃i:Int,d = .int i/\Sz 20 i) (xs:=[PyData.int (r2-i / 2),PyData.int (r2-i / 2),PyData.int (r2-i / 2),PyData.int (r2-i / 2),PyData.int (r2-i / 2),PyData.int 0,PyData.int 0,PyData.int (r2-i / 2)]) h8 (by exact h9) (by
  intro x hx
  simp only[mem_cons,not_mem_nil,or_false] at hx
  rcases hx with rfl|rfl|rfl|rfl|rfl|rfl|rfl|rfl<;>exact⟨_,rfl,by assumption⟩)
 rw[e2]
 walk_at "rd"
 obtain⟨d3,e3,i3,rfl,b3,p3⟩:=pick (P:=fun d=>∃i:Int,d = .int i/\Sz 20 i/\0<i) (xs:=[PyData.int (1+r3),PyData.int (1+r3),PyData.int 1,PyData.int (1+r3),PyData.int 1,PyData.int (1+r3),PyData.int 1,PyData.int (1+r3)]) h8 (by exact h9) (by
  intro x hx
  simp only[mem_cons,not_mem_nil,or_false] at hx
  rcases hx with rfl|rfl|rfl|rfl|rfl|rfl|rfl|rfl<;>exact⟨_,rfl,by assumption,∅⟩)
 rw[e3]
 walk_at "rd"
 have n3:i3≠0:=by omega
 exact⟨i1,i2,i3,rfl,n3,b3.mono ⋯,q _ _ (pV _ _ n3) (tV n3 b1 b2 b3) (s1.trans (s2.trans (s3.trans (s4.trans s5))))⟩
end
noncomputable def lS:DTS:=
 (aP (dA (dB (dOp (dP false) (ax bX (ah (ai 0) (ah (dC (.int 2)) au))) (dC (.int 0)))) (bI (dOp aN (jy (ah (dC (.int 2)) (ah (dC (.int 3)) (ah (dC (.int 5)) au)))) (ax bX (ah (ai 0) (ah (dC (.int 3)) au))))) bV)
 (aP (br (gS [none] (w5 (ah (dC (.int 2)) (ah (dC (.int 31)) au))) (ar 0) (dB (dOp (MS true) (ai 0) (jy (ah (dC (.int 4)) (ah (dC (.int 9)) (ah (dC (.int 16)) (ah (dC (.int 25)) au))))))) (ai 0)) (ar 1))
 (bI (dOp aN (ai 1) (ax bX (ah (ai 0) (ah (dC (.int 25)) au)))))))
noncomputable def nF:DTS:=
 (aP (br (jy (ah (dC .none) (ah (dC (.bool true)) (ah (dC (.bool false)) (ah (dC (.str "1")) (ah (dC (.str "")) (ah (zg (dC (.int 1))) (ah (dC (.int 0)) (ah (dC (.int 1)) (ah (Nl (dC (.int 10)) (dC (.int 59))) (ah (bF au) (ah (jy au) (ah (jy (ah (dC (.int 0)) au)) (ah (bF (ah (dC (.int 0)) (ah (dC (.int 0)) au))) (ah (bF (ah (dC (.int 1)) (ah (dC (.int 0)) (ah (dC (.int 0)) au)))) (ah (bF (ah (dC (.int 2)) (ah (dC (.int 0)) (ah (dC (.int 2)) au)))) (ah (bF (ah (dC (.int 1)) (ah (dC (.bool true)) (ah (dC (.int 1)) au)))) (ah (bF (ah (dC (.int 1)) (ah (dC (.int 1)) (ah (zg (dC (.int 1))) au)))) (ah (jy (ah (dC (.int 1)) (ah (dC (.int 0)) (ah (dC (.int 1)) au)))) (ah (bF (ah (dC (.int 1)) (ah (dC (.int 0)) au))) (ah (dC (.str "a")) au))))))))))))))))))))) (ar 1))
 (bI (dOp aN (ai 1) (ax bX (ah (ai 0) (ah (dC (.int 20)) au))))))
noncomputable def kh:DTS:=
 (aP (br (ax kT (ah (ai 0) au)) (ar 2))
 (aP (br (ax kv (ah (ai 1) (ah (ai 2) au))) (ar 3))
 (aP (dA (dB (dOp (dP false) (ai 3) (dC (.int 0)))) (bI (bF (ah (kj (dC (.int 1)) (ax bX (ah (ai 0) (ah (dC (.int 5)) au)))) (ah (dC (.int 0)) (ah (dC (.int 1)) au))))) bV)
 (bI (dIf (dB (dOp rGt (ai 3) (dC (.int 0)))) (ai 2) (ax gp (ah (ai 2) au)))))))
section
variable {U:Mu}{Qd:DK}{ds:List D}
theorem NA{lo:Int}{n:Nat}{x:PyData}(h:x∈lJ lo n):∃i:Int,x = .int i/\lo<=i/\i<lo+n:=by
 unfold lJ at h
 obtain⟨k,hk,rfl⟩:=List.mem_map.mp h
 have:=List.mem_range.mp hk
 exact⟨_,rfl,∅,∅⟩
noncomputable def CY:PyData->Option PyData
 |.int i=>if Gm i then some (.int i) else none
 |_=>none
noncomputable def Bm:List PyData:=[2,3,5,6,7,8,10,11,12,13,14,15,17,18,19,20,21,22,23,24,26,27,28,29,30].map PyData.int
theorem in4(i:Int):(List.any [PyData.int 4,PyData.int 9,PyData.int 16,PyData.int 25] fun b=>PyData.eqv b (.int i))=(decide (i=4) || decide (i=9) || decide (i=16) || decide (i=25)):=by
 have ev:∀j:Int,PyData.eqv (.int j) (.int i)=decide (i=j):=fun j=>by rw[Th];simp[eq_comm]
 simp only[List.any_cons,List.any_nil,ev,Bool.or_false,Bool.or_assoc]
theorem BA(h:vL ds U Qd):lS ‹Qd› (aS ["_law_bag_here","_law_some"] ds) U:=by
 obtain⟨a,rfl,hb,q⟩:=h
 unfold lS
 walk_at "rd"
 refine⟨a,2,rfl,⋯,⋯,hb,fun r0 am h0 h1 s1=>?_⟩
 walk_at "rd"
 by_cases hr:r0=0
 ·rw[if_pos (by simpa using hr)]
  refine⟨a,3,rfl,⋯,⋯,s1.1,fun r1 bn h2 h3 s2=>?_⟩
  walk_at "rd"
  obtain⟨w,e,i,rfl,w0⟩:=pick (P:=fun d=>∃i:Int,d = .int i/\ay i) (xs:=[PyData.int 2,PyData.int 3,PyData.int 5]) h2 (by exact h3) (by
   intro x hx
   simp only[mem_cons,not_mem_nil,or_false] at hx
   rcases hx with rfl|rfl|rfl<;>exact⟨_,rfl,by unfold ay;omega⟩)
  rw[e]
  exact q _ _ w0 (s1.trans s2)
 ·rw[if_neg (by simpa using hr)]
  refine⟨⟨⋯,⋯,⋯,⋯⟩,⋯,fun p hp=>⟨fun i acc Z=>acc=((lJ 2 29).take i).filterMap CY/\Z=aQ am p acc,⟨rfl,rfl⟩,?_,?_⟩⟩
  ·rintro i x acc Z hx hpa ⟨e0,e1⟩
   obtain⟨k,rfl,i0,i1⟩:=NA (mem_of_getElem? hx)
   refine⟨trivial,rfl,rfl,by show 0<=60;decide,?_⟩
   rw[in4]
   have i1':k<31:=by simpa using i1
   have e:CY (.int k)=if Gm k then some (.int k) else none:=rfl
   have e2:Gm k = !(decide (k=4) || decide (k=9) || decide (k=16) || decide (k=25)):=by
    unfold Gm
    rw[decide_eq_true i0,decide_eq_true (show k<=30 by omega)]
    rfl
   have ft:((lJ 2 29).take (i+1)).filterMap CY=((lJ 2 29).take i).filterMap CY++(CY (.int k)).toList:=OZ hx
   rw[e,e2] at ft
   cases hh:(decide (k=4) || decide (k=9) || decide (k=16) || decide (k=25))
   ·rw[hh] at ft
    simp only[Bool.true_xor,Bool.not_false,↓reduceIte] at ft ⊢
    refine⟨hpa,?_,?_⟩
    ·rw[ft,e0];rfl
    ·rw[e1,fO]
   ·rw[hh] at ft
    simp only[Bool.true_xor,Bool.not_true,↓reduceIte,false_eq_true] at ft ⊢
    refine⟨hpa,?_,e1⟩
    rw[ft,e0];simp
  rintro acc Z ⟨e0,e1⟩ _
  have ed:kJ Z p=am:=by rw[e1];exact tR hp
  rw[ed]
  have e0':acc=Bm:=by rw[e0];rfl
  rw[e0']
  refine⟨a,25,rfl,⋯,⋯,s1.1,fun r1 bn h2 h3 s2=>?_⟩
  walk_at "rd"
  obtain⟨w,e,i,rfl,w0⟩:=pick (P:=fun d=>∃i:Int,d = .int i/\ay i) (xs:=Bm) h2 (by exact h3) (by
   intro x hx
   unfold Bm at hx
   obtain⟨k,hk,rfl⟩:=List.mem_map.mp hx
   exact⟨_,rfl,(show ∀k∈([2,3,5,6,7,8,10,11,12,13,14,15,17,18,19,20,21,22,23,24,26,27,28,29,30]:List Int),ay k by unfold ay;decide) k hk⟩)
  rw[e]
  exact q _ _ w0 (s1.trans s2)
noncomputable def qJ:List PyData:=[.none,.bool true,.bool false,.str "1",.str "",.int (-1),.int 0,.int 1,.int (10 ^ Int.toNat 59),.tuple [],.list [],.list [.int 0],.tuple [.int 0,.int 0],.tuple [.int 1,.int 0,.int 0],.tuple [.int 2,.int 0,.int 2],.tuple [.int 1,.bool true,.int 1],.tuple [.int 1,.int 1,.int (-1)],.list [.int 1,.int 0,.int 1],.tuple [.int 1,.int 0],.str "a"]
noncomputable def F5:DSp:=fun ds U Q=>∃a:Addr,ds=[.m a]/\Bag U a/\∀d Z,d∈qJ->Step a U Z->Q (.v d) Z
theorem CU(h:F5 ds U Qd):nF ‹Qd› (aS ["_law_bag_here","_law_some"] ds) U:=by
 obtain⟨a,rfl,hb,q⟩:=h
 unfold nF
 walk_at "rd"
 refine⟨⟨⋯,⋯,⋯⟩,a,20,rfl,⋯,⋯,hb,fun r0 am h0 h1 s1=>?_⟩
 walk_at "rd"
 obtain⟨d,e,m⟩:=vV (xs:=qJ) h0 (by exact h1)
 unfold qJ at e
 rw[e]
 exact q d _ m s1
noncomputable def nY:DSp:=fun ds U Q=>∃(a:Addr) (d:Int),ds=[.m a,.v (.int d)]/\ay d/\Bag U a/\∀x Z,Ok x->Bd 20 x->sg d x.a x.b=1->Step a U Z->Q (.v (dN x)) Z
theorem yZ(h:nY ds U Qd):kh ‹Qd› (aS ["_law_bag_here","_law_d","_law_x","_law_sign_here"] ds) U:=by
 obtain⟨a,d,rfl,hd,hb,q⟩:=h
 unfold kh
 walk_at "rd"
 refine⟨a,rfl,hb,fun x am ox bx s1=>?_⟩
 walk_at "rd"
 refine⟨d,x,rfl,hd,bx.mono ⋯,?_⟩
 walk_at "rd"
 have t:=kf d x.a x.b
 by_cases h0:sg d x.a x.b=0
 ·rw[if_pos (by simpa using h0)]
  refine⟨a,5,rfl,⋯,⋯,s1.1,fun r bn r0 r1 s2=>?_⟩
  walk_at "rd"
  have ok:Ok ⟨1+r,0,1⟩:=⟨by show (0:Int)<1;decide,by unfold g3;simp⟩
  refine q ⟨1+r,0,1⟩ bn ok ⟨Dz (by show -1048576<1+r;omega) (by show 1+r<1048576;omega),Dz (by show -1048576<(0:Int);decide) (by show (0:Int)<1048576;decide),Dz (by show -1048576<(1:Int);decide) (by show (1:Int)<1048576;decide)⟩ ?_ (s1.trans s2)
  show sg d (1+r) 0=1
  unfold sg
  rw[if_neg ∅,if_pos ∅]
 ·rw[if_neg (by simpa using h0)]
  by_cases h1:0<sg d x.a x.b
  ·rw[if_pos (by simpa using h1)]
   exact q x am ox bx ∅ s1
  ·rw[if_neg (by simpa using h1)]
   refine⟨x,rfl,?_⟩
   refine q (minus x) am (fu ox) (iq bx) ?_ s1
   show sg d (-x.a) (-x.b)=1
   rw[yz hd]
   omega
end
section
variable {U:Mu}{Q:DK}{ds:List D}
noncomputable def xk:DSp:=fun ds U Q=>∃ns:List Int,ds=[.s ns]/\ns.length<=63/\∀Z,Q (.v (.bool true)) Z
theorem uU(h:iS ds U Q):ds.length=1:=by obtain⟨_,rfl,_⟩:=h;rfl
theorem zw(h:nH ds U Q):ds.length=2:=by obtain⟨_,_,rfl,_⟩:=h;rfl
theorem Fs(h:xR ds U Q):ds.length=3:=by obtain⟨_,_,_,rfl,_⟩:=h;rfl
theorem wq(h:ma ds U Q):ds.length=1:=by obtain⟨_,rfl,_⟩:=h;rfl
theorem sE(h:dM ds U Q):ds.length=3:=by obtain⟨_,_,_,rfl,_⟩:=h;rfl
theorem xy(h:jv ds U Q):ds.length=1:=by obtain⟨_,rfl,_⟩:=h;rfl
theorem DH(h:gp ds U Q):ds.length=1:=by obtain⟨_,rfl,_⟩:=h;rfl
theorem wI(h:bQ ds U Q):ds.length=2:=by obtain⟨_,_,rfl,_⟩:=h;rfl
theorem uI(h:bL ds U Q):ds.length=3:=by obtain⟨_,_,_,rfl,_⟩:=h;rfl
theorem xX(h:jG ds U Q):ds.length=2:=by obtain⟨_,_,rfl,_⟩:=h;rfl
theorem El(h:qY ds U Q):ds.length=3:=by obtain⟨_,_,_,rfl,_⟩:=h;rfl
theorem wg(h:kv ds U Q):ds.length=2:=by obtain⟨_,_,rfl,_⟩:=h;rfl
theorem C2(h:vF ds U Q):ds.length=3:=by obtain⟨_,_,_,rfl,_⟩:=h;rfl
theorem Il(h:Gz ds U Q):ds.length=2:=by obtain⟨_,_,rfl,_⟩:=h;rfl
theorem E7(h:bX ds U Q):ds.length=2:=by obtain⟨_,_,rfl,_⟩:=h;rfl
theorem yF(h:kT ds U Q):ds.length=1:=by obtain⟨_,rfl,_⟩:=h;rfl
theorem Du(h:vL ds U Q):ds.length=1:=by obtain⟨_,rfl,_⟩:=h;rfl
theorem Im(h:F5 ds U Q):ds.length=1:=by obtain⟨_,rfl,_⟩:=h;rfl
theorem A7(h:nY ds U Q):ds.length=2:=by obtain⟨_,_,rfl,_⟩:=h;rfl
theorem Ig(h:xk ds U Q):ds.length=1:=by obtain⟨_,rfl,_⟩:=h;rfl
end
noncomputable def lr:DTS:=jR
theorem tL{U Qd ds}(h:iS ds U Qd):lr ‹Qd› (aS ["_law_thing"] ds) U:=uq h
structure Q7(K:PySem.W.Frag)(mg:Str->Option Value)(x:Str)(g:Addr)(a b c:Int):Prop where
 m:mg x=some (.ref g)
 l:∃(od:Option Addr) (n:Nat) (sl:Array (Option Value)) (t u v:Tok),K.lookup g=some ⟨.type "tuple",od,.seq #[.int a t,.int b u,.int c v] n,sl⟩
theorem J1{X:Cx}{x:Str}{g:Addr}{a b c:Int}{pos:Pos}(hg:Gl X x)(h:Q7 X.K X.mg x g a b c)(hd:(x==("__debug__":Str))=false:=by decide):DE X (.Name x pos) (dC (.tuple [.int a,.int b,.int c])):=by
 obtain⟨od,n,sl,t,u,v,e⟩:=h.l
 refine FN (u:=.ref g) hg h.m rfl (fun U H _=>Rp.tuple (xs:=[.int a,.int b,.int c]) (.inr ⟨_,_,_,e,rfl,rfl,(by show 3<=sizeLine;decide),.cons ⟨t,rfl⟩ (.cons ⟨u,rfl⟩ (.cons ⟨v,rfl⟩ .nil))⟩) (.cons (.int a) (.cons (.int b) (.cons (.int c) .nil)))) hd
theorem Ip{K:PySem.W.Frag}{H:Hp}{a:Addr}{ns:List Int}(hl:ns.length<=63)(hT:yY K H)(hS:SqL K H a (ns.map V.int)):spD K xk [.ref a] H (fun v _=>v = .bl true) fun _ _ _=>False:=by
 refine⟨[.s ns],⟨fun _=>none,fun _=>none⟩,fun d _=>d = .v (.bool true),⟨fun a ds h=>(by cases h),hT,fun a c h=>(by cases h)⟩,.cons ⟨a,rfl,hS,rfl⟩ .nil,⟨ns,rfl,hl,fun _=>rfl⟩,fun d u Z H' _ _ r q=>?_⟩
 subst q
 cases r
 rfl
end L2.DL
namespace L2
open PySem PySem.Spec PyProof.Rows
end L2
namespace L2.DL
open PySem PySem.Spec PyProof.Rows
end L2.DL
namespace L2
open PySem PySem.Spec PyProof.Rows
end L2
namespace L2.DL
open PySem PySem.Spec PyProof.Rows
end L2.DL
namespace L2
open PySem PySem.Spec PyProof.Rows
end L2
namespace L2.DL
open PySem PySem.Spec PyProof.Rows
end L2.DL
namespace L2
open PySem PySem.Spec PyProof.Rows
end L2
namespace L2
open PySem PySem.Spec PyProof.Rows
end L2
namespace L2.DL
open PySem PySem.Spec PyProof.Rows
noncomputable def intsOf:List PyData->Option (List Int)
 |[]=>some []
 |.int i::r=>(intsOf r).map (i::·)
 |_=>none
theorem HB{K:PySem.W.Frag}{U:Mu}{H:Hp}:∀{ds:List PyData} {us:List V} {k:List Int},RpL K U H ds us->intsOf ds=some k->us=k.map V.int
 |[],_,_,.nil,e=>by cases e;rfl
 |d::ds,_,k,.cons h t,e=>by
  cases d with
  |int i=>
   cases h
   rw[intsOf] at e
   cases q:intsOf ds with
   |none=>rw[q] at e;cases e
   |some k'=>rw[q] at e;cases e;rw[HB t q];rfl
  |_=>cases e
section
variable {α:Type}
noncomputable def d8(kvs:List (List Int×α))(k:List Int):Option α:=(kvs.find? fun x=>decide (x.1=k)).map (·.2)
noncomputable def mY(kvs:List (List Int×α))(k:List Int)(v:α):List (List Int×α):=if (d8 kvs k).isSome=true then kvs.map (fun x=>if x.1=k then (x.1,v) else x) else kvs++[(k,v)]
theorem eQ{p:List Int×α}{r:List (List Int×α)}{k:List Int}(e:p.1=k):d8 (p::r) k=some p.2:=by simp[d8,List.find?_cons,e]
theorem eR{p:List Int×α}{r:List (List Int×α)}{k:List Int}(e:¬ p.1=k):d8 (p::r) k=d8 r k:=by simp[d8,List.find?_cons,e]
theorem zN(k j:List Int)(v:α):∀kvs:List (List Int×α),d8 (kvs.map fun x=>if x.1=k then (x.1,v) else x) j=if j=k then (d8 kvs j).map (fun _=>v) else d8 kvs j
 |[]=>by split<;>rfl
 |p::r=>by
  have ih:=zN k j v r
  rw[map_cons]
  by_cases h:p.1=k
  ·rw[if_pos h]
   by_cases e:p.1=j
   ·rw[eQ (p:=(p.1,v)) e,if_pos (e.symm.trans h),eQ e];rfl
   ·rw[eR (p:=(p.1,v)) e,ih,eR e]
  ·rw[if_neg h]
   by_cases e:p.1=j
   ·rw[eQ e,if_neg (fun z=>h (e.trans z)),eQ e]
   ·rw[eR e,ih,eR e]
theorem wx(k j:List Int)(v:α):∀kvs:List (List Int×α),d8 kvs k=none->d8 (kvs++[(k,v)]) j=if j=k then some v else d8 kvs j
 |[],_=>by
  by_cases e:k=j
  ·rw[if_pos e.symm];exact eQ (p:=(k,v)) e
  ·rw[if_neg (fun z=>e z.symm)];exact eR (p:=(k,v)) e
 |p::r,h=>by
  rw[cons_append]
  by_cases e:p.1=k
  ·rw[eQ e] at h;cases h
  ·rw[eR e] at h
   by_cases f:p.1=j
   ·rw[eQ f,eQ f,if_neg (fun z=>e (f.trans z))]
   ·rw[eR f,wx k j v r h,eR f]
theorem Iy(kvs:List (List Int×α))(k j:List Int)(v:α):d8 (mY kvs k v) j=if j=k then some v else d8 kvs j:=by
 unfold mY
 cases q:d8 kvs k with
 |none=>
  rw[if_neg (fun z=>nomatch z)]
  exact wx k j v kvs q
 |some x=>
  rw[if_pos (show (some x).isSome=true from rfl),zN]
  by_cases e:j=k
  ·subst e;rw[if_pos rfl,if_pos rfl,q];rfl
  ·rw[if_neg e,if_neg e]
theorem CG(kvs:List (List Int×α))(k:List Int)(v:α):(mY kvs k v).length<=kvs.length+1:=by
 unfold mY
 split
 ·rw[length_map];omega
 ·rw[length_append];exact le_refl _
end
section
variable {K:PySem.W.Frag}{U am:Mu}{H H1:Hp}{p:Addr}
theorem fZ.look{kvs:List (List Int×PyData)}{xs:List (List Int×Addr×Value)}(r:fZ K U H kvs xs)(k:List Int) :
  (d8 kvs k=none/\atKey xs k=none)\/∃d q v w,d8 kvs k=some d/\atKey xs k=some (q,w)/\Rp K U H d v/\RelV v w:=by
 unfold fZ at r
 induction r with
 |nil=>exact .inl ⟨rfl,rfl⟩
 |@cons a b as bs h t ih=>
  obtain⟨h1,h2,v,h3,h4⟩:=h
  by_cases e:a.1=k
  ·refine .inr ⟨a.2,b.2.1,v,b.2.2,eQ e,?_,h3,h4⟩
   have:b.1=k:=h1.symm.trans e
   simp[atKey,List.find?_cons,this]
  ·have e2:¬ b.1=k:=fun z=>e (h1.trans z)
   have e3:atKey (b::bs) k=atKey bs k:=by simp[atKey,List.find?_cons,e2]
   rw[eR e,e3]
   exact ih
theorem fZ.put{kvs:List (List Int×PyData)}{xs:List (List Int×Addr×Value)}(r:fZ K U H kvs xs){k:List Int}{q:Addr}{d:PyData}{v:V}{w:Value}(hq:SqT K H q (k.map V.int))(hd:Rp K U H d v)(hv:RelV v w) :
  fZ K U H (mY kvs k d) (storedH xs k q w):=by
 have hl:=r.look k
 unfold mY storedH
 rcases hl with ⟨l1,l2⟩|⟨d',q',v',w',l1,l2,_,_⟩
 ·rw[l1,l2]
  exact Paired.snoc r ⟨rfl,hq,v,hd,hv⟩
 ·rw[l1,l2]
  rw[if_pos (show (some d').isSome=true from rfl),if_pos (show (some (q',w')).isSome=true from rfl)]
  clear l1 l2
  unfold fZ at r ⊢
  induction r with
  |nil=>exact .nil
  |@cons a b as bs h t ih=>
   obtain⟨h1,h2,h3⟩:=h
   refine .cons ?_ ih
   unfold putAt
   dsimp only
   by_cases e:a.1=k
   ·rw[if_pos e,if_pos (h1.symm.trans e)]
    exact⟨h1,h2,v,hd,hv⟩
   ·rw[if_neg e,if_neg (fun z=>e (h1.trans z))]
    exact⟨h1,h2,h3⟩
theorem fZ.length{kvs:List (List Int×PyData)}{xs:List (List Int×Addr×Value)}(r:fZ K U H kvs xs):kvs.length=xs.length:=Paired.length r
theorem AE{o o':Obj}{c:Box}(h:H p=some (.raw o)):Ext K U H (ck U p c) (upd H p (.raw o')) where
 keep:=fun b u e n t=>by
  have:b≠p:=fun z=>by rw[z,h] at e;cases e;exact t
  rw[aR this];exact e
 tb:=fun b ps e n=>by
  have:b≠p:=fun z=>by rw[z,h] at e;cases e
  exact⟨ps,by rw[aR this];exact e⟩
 dom:=fun b ds q=>⟨ds,q⟩
 fresh:=fun b n q=>n
 st:=fun b u e n=>by
  by_cases z:b=p
  ·subst z;exact⟨_,b8⟩
  ·exact⟨u,by rw[aR z];exact e⟩
 bx:=fun b c' q=>by
  by_cases z:b=p
  ·subst z;exact⟨_,bR⟩
  ·exact⟨c',by rw[cj z];exact q⟩
theorem bK.LP{c:Box}{o o':Obj}(ok:bK K U H)(hs:(p==sysModules)=false)(h:H p=some (.raw o))(r:iE K U H c o'):bK K (ck U p c) (upd H p (.raw o')):=by
 have e:Ext K U H (ck U p c) (upd H p (.raw o')):=AE h
 refine⟨fun a ds q=>?_,ok.tab.of fun b u e' n1 n2=>?_,fun a c' q=>?_⟩
 ·obtain⟨xs,h1,h2⟩:=ok.lst a ds q
  have:a≠p:=fun z=>by rw[z,h] at h1;cases h1
  exact⟨xs,by rw[aR this];exact h1,h2.ext ok e⟩
 ·have:b≠p:=fun z=>by rw[z,h] at e';exact n2 o (Option.some.inj e').symm
  rw[aR this];exact e'
 ·by_cases z:a=p
  ·subst z
   rw[bR] at q;cases q
   exact⟨hs,o',b8,r.ext ok e⟩
  ·rw[cj z] at q
   obtain⟨y,ob,h1,h2⟩:=ok.box a c' q
   exact⟨y,ob,by rw[aR z];exact h1,h2.ext ok e⟩
theorem pY{o:Obj}{c:Box}(ok:bK K U H)(h:H p=none):Ext K U H (ck U p c) (upd H p (.raw o)) where
 keep:=fun b u e _ _=>by rw[aR (aF e h)];exact e
 tb:=fun b ps e _=>⟨ps,by rw[aR (aF e h)];exact e⟩
 dom:=fun b ds q=>⟨ds,q⟩
 fresh:=fun b n q=>n
 st:=fun b u e _=>⟨u,by rw[aR (aF e h)];exact e⟩
 bx:=fun b c' q=>by
  have:b≠p:=fun z=>by rw[z,ok.LF h] at q;cases q
  exact⟨c',by rw[cj this];exact q⟩
theorem bK.Kx{c:Box}{o:Obj}(ok:bK K U H)(hs:(p==sysModules)=false)(h:H p=none)(r:iE K U H c o):bK K (ck U p c) (upd H p (.raw o)):=by
 have e:Ext K U H (ck U p c) (upd H p (.raw o)):=pY ok h
 refine⟨fun a ds q=>?_,ok.tab.of fun b u e' _ _=>?_,fun a c' q=>?_⟩
 ·obtain⟨xs,h1,h2⟩:=ok.lst a ds q
  exact⟨xs,by rw[aR (aF h1 h)];exact h1,h2.ext ok e⟩
 ·rw[aR (aF e' h)];exact e'
 ·by_cases z:a=p
  ·subst z
   rw[bR] at q;cases q
   exact⟨hs,o,b8,r.ext ok e⟩
  ·rw[cj z] at q
   obtain⟨y,ob,h1,h2⟩:=ok.box a c' q
   exact⟨y,ob,by rw[aR z];exact h1,h2.ext ok e⟩
theorem HE{o:Obj}(h:o={cls:=.type "dict",data:=.dict #[]}):iE K U H (.dict []) o:=by
 subst h
 exact⟨zero_le _,⟨rfl,rfl,rfl⟩,#[],0,[],rfl,rfl,List.nodup_nil,.nil⟩
theorem J7{o:Obj}{led:Bool}(h:o={cls:=.type "set",dict:=none,data:=.set #[] 0 (.fresh 0 0 led)}):iE K U H (.set []) o:=by
 subst h
 exact⟨⟨rfl,rfl,rfl⟩,[],0,_,rfl,{place:=rfl,ris:=.nil,le:=fun _ h=>by simp at h,dum:=rfl,two:=⟨3,rfl,le_refl _⟩,on:=fun _ h=>by simp at h},(show 0*5<7*3 by decide),rfl,fun _ h=>by simp at h,fun _ h=>by simp at h⟩
end
section
variable {X:Cx}{pins:List (Addr×Obj)}{σ:St}{H:Hp}{s:Shared}{U:Mu}
theorem items_int{P:Program}{w:World}:∀{ks:List Int} {us:List Value},Vals (ks.map V.int) us->ItemsAre (intKind P w) ks us
 |[],_,r=>by rw[map_nil] at r;cases r;exact .nil
 |k::ks,_,r=>by
  rw[map_cons] at r
  cases r with
  |cons h t=>obtain⟨tk,rfl⟩:=h;exact .cons (by show Value.isInt k (.int k tk)=true;simp[Value.isInt]) (items_int t)
theorem j8{q:Addr}{ks:List Int}(I:Inv X pins σ H s)(h:SqT X.K H q (ks.map V.int)):IsTupleKey (intKind X.prog X.w) s.heap ks q:=by
 obtain⟨its,r,⟨o,h1,h2,n,h3⟩,_⟩:=I.tuple h
 exact⟨o,its.toArray,n,h1,h2,h3,by simpa using items_int r⟩
theorem Kk{kvs:List (List Int×PyData)}{xs:List (List Int×Addr×Value)}(I:Inv X pins σ H s)(r:fZ X.K U H kvs xs):∀x∈xs,IsTupleKey (intKind X.prog X.w) s.heap x.1 x.2.1:=by
 unfold fZ at r
 induction r with
 |nil=>intro x hx;exact nomatch hx
 |@cons a b as bs h t ih=>
  intro x hx
  rcases List.mem_cons.mp hx with rfl|hx
  ·obtain⟨h1,h2,_⟩:=h
   rw[<- h1]
   exact j8 I h2
  ·exact ih x hx
theorem vW{kvs:List (List Int×PyData)}{a:Addr}{o:Obj}(I:Inv X pins σ H s)(h:H a=some (.raw o))(r:iE X.K U H (.dict kvs) o) :
  ∃xs,fZ X.K U H kvs xs/\s.heap.DictOfH (tupleKind (intKind X.prog X.w)) a xs/\xs.length<=sizeLine:=by
 obtain⟨h1,h2,es,ep,xs,h3,h4,h5,h6⟩:=r
 exact⟨xs,h6,⟨o,es,ep,(show s.heap.get? a=some o from I.hok a _ h),h2,h3,h4,Kk I h6,h5⟩,by rw[<- h6.length];exact h1⟩
theorem HF{kvs:List (List Int×PyData)}{a:Addr}{xs:List (List Int×Addr×Value)}{h':Heap}(hl:kvs.length<=sizeLine)(r:fZ X.K U H kvs xs)(d:h'.DictOfH (tupleKind (intKind X.prog X.w)) a xs) :
  ∃o,h'.get? a=some o/\iE X.K U H (.dict kvs) o:=by
 obtain⟨o,es,ep,h1,h2,h3,h4,_,h5⟩:=d
 exact⟨o,h1,hl,h2,es,ep,xs,h3,h4,h5,r⟩
end
section
variable {X:Cx}{pins:List (Addr×Obj)}{σ:St}{H:Hp}{s:Shared}{U:Mu}{A:Around}{E:Value->Shared->Prop}
theorem E2{ks:List (List Int)}{a:Addr}{o:Obj}(I:Inv X pins σ H s)(h:H a=some (.raw o))(r:iE X.K U H (.set ks) o) :
  ∃L:ST.Ln Value,ST.CJ s.heap a L/\L.length=ks.length/\(∀x∈L,∃k,ST.Ent (intKind X.prog X.w) s.heap x k/\k∈ks)/\(∀k∈ks,∃x∈L,ST.Ent (intKind X.prog X.w) s.heap x k) /\
   (∀x∈L,∃k q,x.2.2 = .ref q/\SqT X.K H q (k.map V.int)/\x.2.1=hI k/\k∈ks)/\∀k∈ks,∃x∈L,∃q,x.2.2 = .ref q/\SqT X.K H q (k.map V.int):=by
 obtain⟨h1,L,ep,t,h2,h3,h4,h5,h6,h7⟩:=r
 have ent:∀x∈L,∃k,ST.Ent (intKind X.prog X.w) s.heap x k/\k∈ks:=fun x hx=>by
  obtain⟨k,q,z1,z2,z3,z4⟩:=h6 x hx
  exact⟨k,⟨q,z1,j8 I z2,z3⟩,z4⟩
 refine⟨L,⟨o,ep,t,(show s.heap.get? a=some o from I.hok a _ h),h1,h2,h3,h4⟩,h5,ent,fun k hk=>?_,h6,h7⟩
 obtain⟨x,hx,q,z1,z2⟩:=h7 k hk
 obtain⟨k',e',_⟩:=ent x hx
 have:k=k':=by
  obtain⟨q',y1,y2,_⟩:=e'
  rw[z1] at y1;cases y1
  exact (j8 I z2).inj y2
 subst this
 exact⟨x,hx,e'⟩
theorem Hb{L:ST.Ln Value}{ks:List (List Int)}{h:Heap}{k:List Int}(a:∀x∈L,∃k,ST.Ent (intKind X.prog X.w) h x k/\k∈ks)(b:∀k∈ks,∃x∈L,ST.Ent (intKind X.prog X.w) h x k) :
  (∃x∈L,ST.Ent (intKind X.prog X.w) h x k)↔k∈ks:=by
 constructor
 ·rintro ⟨x,hx,e⟩
  obtain⟨k',e',hk⟩:=a x hx
  rw[e.inj e'];exact hk
 ·exact b k
theorem O8{ks:List (List Int)}{a q:Addr}{o:Obj}{k:List Int}{Q:Value->Shared->Prop}(hu:A.units+64<cLine)(I:Inv X pins σ H s)(h:H a=some (.raw o))(r:iE X.K U H (.set ks) o)(hk:SqT X.K H q (k.map V.int))(hb:ks.length<=9800)
  (hq:∀s',Inv X pins σ H s'->Q (.bool (decide (k∈ks))) s'):wpAny (model X.prog X.w) A (compareOp .In (.ref q) (.ref a)) Q E s:=by
 obtain⟨L,S,len,en1,en2,_,_⟩:=E2 I h r
 have hT:s.TypeIs (.ref a) "set":=let ⟨o,_,_,ho,hc,_⟩:=S;⟨o,ho,hc.1⟩
 show wpAny _ _ (do return .bool (<- contains (.ref a) (.ref q))) Q E s
 refine wpAny_bind ?_
 unfold contains
 try with_reducible refine wpAny_holding ?_
 refine wpAny_bind (wpAny_specialOf hT PySem.F.slot_set_contains.lookup ?_)
 show wpAny _ _ (if (some (Value.builtin "set.__contains__")==some Value.none)=true then _ else _) _ E s
 rw[if_neg (by rw[beq_builtin_none];exact Bool.false_ne_true)]
 refine wpAny_bind (wpAny_callSpecialUnlessNone?_slot (name:=Str.ofString "__contains__") hT PySem.F.slot_set_contains
  (wpAny_call_entry PySem.F.slot_set_contains hT entry_set_contains ?_ (PySem.F.args_set_contains_2 _ _)))
 unfold Builtin.«frozenset.__contains__» Builtin.Frozenset.oneOther
 simp only[List.isEmpty_nil,bind_assoc]
 unfold Builtin.Frozenset.addrOf Builtin.Frozenset.withSetAsKey
 refine wpAny_bind (wpAny_pure ?_)
 try dsimp only
 refine wpAny_bind (wpAny_pure ?_)
 try dsimp only
 refine wpAny_bind (wpAny_tryCatch ?_)
 refine ST.Eh (by show A.units+1<cLine;omega) S (fun x hx=>let ⟨k,e,_⟩:=en1 x hx;⟨k,e⟩) ∅ (j8 I hk) fun b hbq=>?_
 have e:b=decide (k∈ks):=by
  rw[Bool.eq_iff_iff,hbq,Hb en1 en2,decide_eq_true_eq]
 show wpAny _ _ (ret (Value.bool b)) _ _ _
 exact wpAny_pure ⟨_,rfl,wpAny_truthy_bool (wpAny_pure (by rw[e];exact hq _ (I.tok _)))⟩
theorem MC{ks:List (List Int)}{a q:Addr}{o:Obj}{k:List Int}{Q:Value->Shared->Prop}(hu:A.units+64<cLine)(I:Inv X pins σ H s)(h:H a=some (.raw o))(r:iE X.K U H (.set ks) o)(hk:SqT X.K H q (k.map V.int))(hb:ks.length<=9800)(hn:k ∉ ks)
  (hq:∀o' s',Inv X pins σ (upd H a (.raw o')) s'->iE X.K U H (.set (ks++[k])) o'->Q .none s'):wpAny (model X.prog X.w) A (call (.builtin "set.add") [.ref a,.ref q]) Q E s:=by
 obtain⟨L,S,len,en1,en2,r1,r2⟩:=E2 I h r
 have hT:s.TypeIs (.ref a) "set":=let ⟨o,_,_,ho,hc,_⟩:=S;⟨o,ho,hc.1⟩
 refine wpAny_call_entry PySem.F.slot_set_add hT PySem.F.entry_set_add ?_ (PySem.F.args_set_add_2 _ _)
 unfold Builtin.«set.add» Builtin.Frozenset.oneOther
 simp only[List.isEmpty_nil,bind_assoc]
 unfold Builtin.Frozenset.addrOf
 refine wpAny_bind (wpAny_pure ?_)
 try dsimp only
 refine wpAny_bind (wpAny_pure ?_)
 try dsimp only
 refine wpAny_bind ?_
 refine ST.QB (by show A.units+1<cLine;omega) S (fun x hx=>let ⟨k,e,_⟩:=en1 x hx;⟨k,e⟩) ∅ (j8 I hk) (fun z=>absurd ((Hb en1 en2).mp z) hn) fun _ h' L' sb S' len' mem'=>?_
 obtain⟨o',ep,t,ho,hex,hd,T,hr⟩:=S'
 show wpAny _ _ (ret Value.none) _ _ _
 refine wpAny_pure ⟨_,rfl,hq o' _ (GK I (by rw[h];exact True.intro) sb ⟨o',ho⟩ ho) ⟨hex,L',ep,t,hd,T,hr,by rw[len',len,length_append];rfl,fun x hx=>?_,fun k' hk'=>?_⟩⟩
 ·rcases (mem' x.2).mp (List.mem_map.mpr ⟨x,hx,rfl⟩) with z|z
  ·obtain⟨y,hy,ey⟩:=List.mem_map.mp z
   obtain⟨k',q',y1,y2,y3,y4⟩:=r1 y hy
   exact⟨k',q',by rw[<- ey];exact y1,y2,by rw[<- ey];exact y3,mem_append_left _ y4⟩
  ·exact⟨k,q,by rw[z],hk,by rw[z];rfl,mem_append_right _ (List.mem_singleton.mpr rfl)⟩
 ·rcases List.mem_append.mp hk' with z|z
  ·obtain⟨y,hy,q',y1,y2⟩:=r2 k' z
   obtain⟨x,hx,ex⟩:=List.mem_map.mp ((mem' y.2).mpr (.inl (List.mem_map.mpr ⟨y,hy,rfl⟩)))
   exact⟨x,hx,q',by rw[ex];exact y1,y2⟩
  ·rw[List.mem_singleton] at z
   subst z
   obtain⟨x,hx,ex⟩:=List.mem_map.mp ((mem' (tupleKeyHash (intKind X.prog X.w) k',.ref q)).mpr (.inr rfl))
   exact⟨x,hx,q,by rw[ex],hk⟩
end
section
variable {X:Cx}{a b e o:Expr}{ta tb te to:DTE}{pos p apos cpos:Pos}
theorem DE.mk{td:DTE}(h:∀(pins:List (Addr×Obj)) (s:Shared) (σ:St) (H:Hp) (ρ:Rho) (U:Mu) (Qd:DK),Inv X pins σ H s->St0 X.K H ρ U σ->td ρ U Qd ->
  wpAny (model X.prog X.w) X.A (eval e X.env) (fun v s'=>∃d u Z H',Inv X pins σ H' s'/\RelV u v/\Ext X.K U H Z H'/\St0 X.K H' ρ Z σ/\RpD X.K Z H' d u/\Qd d Z) X.xe s):DE X e td:=by
 refine⟨fun σ H Q=>∃ρ U Qd,St0 X.K H ρ U σ/\td ρ U Qd/\∀d u Z H',Ext X.K U H Z H'->St0 X.K H' ρ Z σ->RpD X.K Z H' d u->Qd d Z->Q u H',?_,fun σ H ρ U Qd Q S h k=>⟨ρ,U,Qd,S,h,k⟩⟩
 intro pins s σ H Q I ⟨ρ,U,Qd,S,q,k⟩
 exact wpAny_mono (h pins s σ H ρ U Qd I S q) (fun v s' ⟨d,u,Z,H',I',rv,ex,S',rd,q'⟩=>⟨u,H',I',rv,k d u Z H' ex S' rd q'⟩) fun _ _ z=>z
theorem DE.use{td:DTE}(h:DE X e td){pins:List (Addr×Obj)}{s:Shared}{σ:St}{H:Hp}{ρ:Rho}{U:Mu}{Qd:DK}(I:Inv X pins σ H s)(S:St0 X.K H ρ U σ)(q:td ρ U Qd) :
  wpAny (model X.prog X.w) X.A (eval e X.env) (fun v s'=>∃d u Z H',Inv X pins σ H' s'/\RelV u v/\Ext X.K U H Z H'/\St0 X.K H' ρ Z σ/\RpD X.K Z H' d u/\Qd d Z) X.xe s:=by
 obtain⟨t,p,l⟩:=h
 exact wpAny_mono (p pins s σ H (fun u H'=>∃d Z,Ext X.K U H Z H'/\St0 X.K H' ρ Z σ/\RpD X.K Z H' d u/\Qd d Z) I (l σ H ρ U Qd _ S q fun d u Z H' ex S' r z=>⟨d,Z,ex,S',r,z⟩))
  (fun v s' ⟨u,H',I',rv,d,Z,ex,S',r,z⟩=>⟨d,u,Z,H',I',rv,ex,S',r,z⟩) fun _ _ z=>z
noncomputable def AU:DTE:=fun _ U Q=>∀p,U.b p=none->Q (.b p) (ck U p (.set []))
noncomputable def L6:DTE:=fun _ U Q=>∀p,U.b p=none->Q (.b p) (ck U p (.dict []))
theorem Cz{ρ:Rho}{U:Mu}{Q:DK}:AU ρ U Q = ∀p,U.b p=none->Q (.b p) (ck U p (.set [])):=rfl
theorem CS{ρ:Rho}{U:Mu}{Q:DK}:L6 ρ U Q = ∀p,U.b p=none->Q (.b p) (ck U p (.dict [])):=rfl
theorem Ko{pins:List (Addr×Obj)}{s:Shared}{σ:St}{H:Hp}(I:Inv X pins σ H s):(s.heap.objs.size==sysModules)=false:=beq_eq_false_iff_ne.mpr (Ne.symm (ne_of_lt I.big))
theorem Iv(hg:Gl X "set")(hm:X.mg "set"=none):DE X (.Call (.Name "set" p) [] [] pos) AU:=by
 refine DE.mk fun pins s σ H ρ U Qd I S q=>?_
 refine wpAny_Call_Name_kw (qr I hg hm PyProof.Rows.Boot.«set» ?_ ⋯ ⋯)
 refine PyProof.Rows.callWith_type0 (call_set_0 fun led=>?_)
 have hn:=I.hok.fresh (le_refl s.heap.objs.size)
 have ex:=pY (K:=X.K) (o:={cls:=.type "set",dict:=none,data:=.set #[] 0 (.fresh 0 0 led)}) (c:=.set []) S.mu hn
 refine⟨.b s.heap.objs.size,.ref s.heap.objs.size,ck U s.heap.objs.size (.set []),_,I.laid (a:=s.heap.objs.size) (o:=.raw _) (t':=s.toks) (fun _ _ q=>Heap.get?_push_of_some _ q) (le_refl _) (Heap.get?_push_size _ rfl),rfl,ex,
  ⟨S.mu.Kx (Ko I) hn (J7 rfl),S.rho.ext S.mu ex⟩,⟨rfl,_,bR⟩,q _ (S.mu.LF hn)⟩
noncomputable def tN:D->Option (List Int)
 |.v (.tuple ds)=>intsOf ds
 |_=>none
theorem vH{K:PySem.W.Frag}{U:Mu}{H:Hp}{d:D}{u:V}{k:List Int}(r:RpD K U H d u)(h:tN d=some k):∃q,u = .ref q/\SqT K H q (k.map V.int):=by
 cases d with
 |v x=>
  cases x with
  |tuple ds=>
   cases r with
   |tuple hs rl=>exact⟨_,rfl,by rw[<- HB rl h];exact hs⟩
  |_=>cases h
 |_=>cases h
noncomputable def inB(c:Box)(k:List Int):Bool:=match c with
 |.set ks=>decide (k∈ks)
 |.dict kvs=>(d8 kvs k).isSome
noncomputable def J2:Box->Prop
 |.set ks=>ks.length<=9800
 |.dict kvs=>kvs.length<=9800
noncomputable def Qw(neg:Bool):D->D->Mu->DK->Prop:=fun x y U Q=>∃k a c,tN x=some k/\y = .b a/\U.b a=some c/\J2 c/\(neg=true->∃kvs,c = .dict kvs)/\Q (.v (.bool (xor neg (inB c k)))) U
noncomputable def Rz(K:PySem.W.Frag)(r:D->D->Mu->DK->Prop):R2:=fun ux uy H Q=>∃x y U Qd,bK K U H/\RpD K U H x ux/\RpD K U H y uy/\r x y U Qd/\∀d u Z H',Ext K U H Z H'->bK K Z H'->RpD K Z H' d u->Qd d Z->Q u H'
theorem Pc{K:PySem.W.Frag}{r:D->D->Mu->DK->Prop}:iO K (Rz K r) r:=fun x y ux uy H U Qd Q ok rx ry h k=>⟨x,y,U,Qd,ok,rx,ry,h,k⟩
theorem Pu(hu:X.A.units+64<cLine):OpR X (compareOp .In) (Rz X.K (Qw false)):=by
 intro pins s σ H ux uy v u Q I rv ru h
 obtain⟨x,y,U,Qd,ok,rx,ry,⟨k,a,c,hk,rfl,hc,few,_,q⟩,kk⟩:=h
 obtain⟨qk,rfl,hq⟩:=vH rx hk
 obtain⟨rfl,_⟩:=ry
 cases rv;cases ru
 obtain⟨ns,ob,hr,hb⟩:=ok.box a c hc
 have fin:∀s',Inv X pins σ H s'->EP X pins σ Q (.bool (inB c k)) s':=fun s' I'=>⟨.bl (inB c k),H,I',rfl,kk (.v (.bool (inB c k))) _ U H .refl ok (Rp.bool _) (by rw[false_xor] at q;exact q)⟩
 cases c with
 |set ks=>exact O8 hu I hr hb hq few fin
 |dict kvs=>
  obtain⟨xs,dp,dd,len⟩:=vW I hr hb
  refine wpAny_in_heap (tupleKind_room_in1 ∅) (j8 I hq) ns dd ?_
  have e:(atKey xs k).isSome=inB (.dict kvs) k:=by
   show _=(d8 kvs k).isSome
   rcases dp.look k with ⟨l1,l2⟩|⟨d',q',v',w',l1,l2,_,_⟩
   ·rw[l1,l2];rfl
   ·rw[l1,l2];rfl
  rw[e]
  exact fin _ (I.tok _)
theorem Qq(hu:X.A.units+64<cLine)(ha:DE X a ta)(hb:DE X b tb)(hm:behindInMarks .In b=false:=by rfl):DT X (.Compare a [.In] [b] pos) (dB (dOp (Qw false) ta tb)):=bj (Pu hu) Pc ha hb hm
end
section
variable {X:Cx}{a b e o i value:Expr}{ta tb te to ti tv:DTE}{pos pos' p apos cpos:Pos}
noncomputable def Kw(to te:DTE):DTE:=fun ρ U Q=>to ρ U fun x am=>∃a ks0,x = .b a/\am.b a=some (.set ks0)/\te ρ am fun y bn=>∃k ks,tN y=some k/\bn.b a=some (.set ks)/\ks.length<=9800/\k ∉ ks/\Q (.v .none) (ck bn a (.set (ks++[k])))
theorem Jg{ρ:Rho}{U:Mu}{Q:DK}:Kw to te ρ U Q=to ρ U fun x am=>∃a ks0,x = .b a/\am.b a=some (.set ks0)/\te ρ am fun y bn=>∃k ks,tN y=some k/\bn.b a=some (.set ks)/\ks.length<=9800/\k ∉ ks/\Q (.v .none) (ck bn a (.set (ks++[k]))):=rfl
theorem Mj(hu:X.A.units+64<cLine)(ho:DE X o to)(he:DE X e te)(m:M1 X o "add" apos e cpos:=by exact⟨rfl,rfl,rfl,rfl⟩):DE X (.Call (.Attribute o "add" apos) [e] [] cpos) (Kw to te):=by
 refine DE.mk fun pins s σ H ρ U Qd I S q=>?_
 refine wpAny_Call_method m.base m.few m.line PySem.F.plainAttrs_set PySem.F.slot_set_add PySem.F.type_set_add (thn (ho.use I S q) fun u s1 h1=>?_)
 obtain⟨x,ux,am,H1,I1,rx,e1,S1,rd,a,ks0,ex,hb0,q1⟩:=h1
 subst ex
 obtain⟨rfl,_⟩:=rd
 cases rx
 obtain⟨ns,ob,hr,hb⟩:=S1.mu.box a _ hb0
 obtain⟨L,SA,_,_,_,_,_⟩:=E2 I1 hr hb
 obtain⟨ob',ep,t,g1,g2,_⟩:=SA
 refine⟨⟨ob',g1,g2.1⟩,fun b z=>by cases z;exact⟨ob',g1,g2.2.1⟩,?_⟩
 rw[m.trees]
 refine Calls.callWith_builtin rfl (Calls.evalArgs_plain (Calls.spliced_cons (thn (he.use I1 S1 q1) fun iv s2 h2=>Calls.spliced_nil ?_)))
 obtain⟨y,uy,bn,H2,I2,ry,e2,S2,rd2,k,ks,hk,hb2,few,hn,q2⟩:=h2
 obtain⟨qk,rfl,hq⟩:=vH rd2 hk
 cases ry
 obtain⟨_,ob2,hr2,hb3⟩:=S2.mu.box a _ hb2
 refine MC hu I2 hr2 hb3 hq few hn fun o' s3 I3 hb4=>?_
 have ex:=AE (K:=X.K) (U:=bn) (c:=.set (ks++[k])) (o':=o') hr2
 exact⟨.v .none,.non,_,_,I3,rfl,e1.trans (e2.trans ex),⟨S2.mu.LP ns hr2 hb4,S2.rho.ext S2.mu ex⟩,Rp.none,q2⟩
noncomputable def Ib(to ti:DTE):DTE:=fun ρ U Q=>to ρ U fun x am=>ti ρ am fun y bn=>∃a kvs k d,x = .b a/\tN y=some k/\bn.b a=some (.dict kvs)/\d8 kvs k=some d/\Q (.v d) bn
theorem Og{ρ:Rho}{U:Mu}{Q:DK}:Ib to ti ρ U Q=to ρ U fun x am=>ti ρ am fun y bn=>∃a kvs k d,x = .b a/\tN y=some k/\bn.b a=some (.dict kvs)/\d8 kvs k=some d/\Q (.v d) bn:=rfl
theorem B0(hu:X.A.units+64<cLine)(ho:DE X o to)(hi:DE X i ti)(hs:Rq i:=by exact fun _ _=>rfl):DE X (.Subscript o i pos) (Ib to ti):=by
 refine DE.mk fun pins s σ H ρ U Qd I S q=>?_
 refine MA PySem.F.slot_dict_getitem.lookup hs (thn (ho.use I S q) fun u s1 h1=>?_)
 obtain⟨x,ux,am,H1,I1,rx,e1,S1,rd,q1⟩:=h1
 refine thn (hi.use I1 S1 q1) fun iv s2 h2=>?_
 obtain⟨y,uy,bn,H2,I2,ry,e2,S2,rd2,a,kvs,k,d,ex,hk,hb2,hl,q2⟩:=h2
 subst ex
 obtain⟨rfl,_⟩:=rd
 cases rx
 obtain⟨qk,rfl,hq⟩:=vH rd2 hk
 cases ry
 obtain⟨ns,ob,hr,hb⟩:=S2.mu.box a _ hb2
 obtain⟨xs,dp,dd,len⟩:=vW I2 hr hb
 rcases dp.look k with ⟨l1,_⟩|⟨d',q',v',w',l1,l2,l3,l4⟩
 ·rw[hl] at l1;cases l1
 ·rw[hl] at l1;cases l1
  refine⟨dd.typeIs,wpAny_getItem_heap (tupleKind_room_in1 ∅) (j8 I2 hq) dd l2 ?_⟩
  exact⟨.v d,v',bn,H2,I2.tok _,l4,e1.trans e2,S2,l3,q2⟩
noncomputable def Ri(to ti tv:DTE):DTS:=fun D ρ U=>tv ρ U fun v am=>to ρ am fun x bn=>ti ρ bn fun y dl=>∃a kvs k d,v = .v d/\x = .b a/\tN y=some k/\dl.b a=some (.dict kvs)/\kvs.length<=9800/\D.nx ρ (ck dl a (.dict (mY kvs k d)))
theorem Li{D:Cv}{ρ:Rho}{U:Mu}:Ri to ti tv D ρ U=tv ρ U fun v am=>to ρ am fun x bn=>ti ρ bn fun y dl=>∃a kvs k d,v = .v d/\x = .b a/\tN y=some k/\dl.b a=some (.dict kvs)/\kvs.length<=9800/\D.nx ρ (ck dl a (.dict (mY kvs k d))):=rfl
noncomputable def CW:Box->Nat
 |.set ks=>ks.length
 |.dict kvs=>kvs.length
theorem vy{prog:Program}{w:World}{K:Type}[DecidableEq K](knd:HeapKind prog w K)(d:Addr)(hd:(d==sysModules)=false) :
  MeetsIn prog w (Builtin.«dict.__len__» ⟨[.ref d],[]⟩) (fun _ R s=>∃kvs,s.heap.DictOfH knd d kvs/\R (.ok (.ret (.int kvs.length s.toks))) {s with toks:=s.toks+1}):=
 .of_wp fun A R s ⟨kvs,hm,h⟩=>by
  obtain⟨o,es,ep,ho,hc,hdat,hk,hp,hn⟩:=hm
  show wpAny _ _ (dictSize d>>=_) _ _ s
  unfold dictSize
  refine wpAny_bind (wpAny_bind (wpAny_dictEntries ho hdat (wpAny_pure ?_)))
  show wpAny _ _ (Builtin.Dict.pendingCount d>>=_) _ _ s
  refine wpAny_bind (wpAny_pendingCount_other hd ?_)
  refine wpAny_ret_mkInt ?_
  have:es.size=kvs.length:=size_of_entries hk
  rw[Nat.add_zero,this];exact h
theorem v5{prog:Program}{w:World}{K:Type}[DecidableEq K]{knd:HeapKind prog w K}{A:Around}{E:Value->Shared->Prop}{s:Shared}{d:Addr}{kvs:List (K×Addr×Value)}{Q:Value->Shared->Prop}(hd:(d==sysModules)=false)(hm:s.heap.DictOfH knd d kvs)(hfit:(kvs.length:Int)<2 ^ 63)
  (h:Q (.int kvs.length (s.toks+1)) {s with toks:=s.toks+1+1}):wpAny (model prog w) A (call (.builtin "len") [.ref d]) Q E s:=by
 refine Calls.call_function_entry kind_len plain_len entry_len (args_len1 _) ?_
 unfold Builtin.«len»
 refine wpAny_bind (m:=oneArg "len" _) (wpAny_pure ?_)
 refine wpAny_bind (m:=callSpecial? (.ref d) (Str.ofString "__len__")) (wpAny_callSpecial?_slot (name:=Str.ofString "__len__") hm.typeIs PySem.F.slot_dict_len
  (call_meetsIn PySem.F.slot_dict_len hm.typeIs PySem.F.entry_dict_len (PySem.F.args_dict_len_1 _) (vy knd d hd) ⟨kvs,hm,?_⟩))
 show wpAny _ _ _ _ _ {s with toks:=s.toks+1}
 refine wpAny_bind (wpAny_holding (wpAny_pure ?_))
 refine wpAny_bind (wpAny_letGo ?_)
 show wpAny _ _ (if ((kvs.length:Nat):Int)<0 then _ else _) _ _ _
 rw[if_neg ∅]
 show wpAny _ _ (if ((kvs.length:Nat):Int) ≥ 2 ^ 63 then _ else _) _ _ _
 rw[if_neg ∅]
 exact wpAny_bind (wpAny_mkInt (wpAny_pure ⟨_,rfl,h⟩))
noncomputable def Lj:List D->Mu->DK->Prop:=fun xs U Q=>∃a c,xs=[.b a]/\U.b a=some c/\J2 c/\Q (.v (.int (CW c:Nat))) U
noncomputable def RH(K:PySem.W.Frag)(r:List D->Mu->DK->Prop):List V->Hp->VK->Prop:=fun us H Q=>∃ds U Qd,bK K U H/\iW K U H ds us/\r ds U Qd/\∀d u Z H',Ext K U H Z H'->bK K Z H'->RpD K Z H' d u->Qd d Z->Q u H'
theorem Pn{K:PySem.W.Frag}{r:List D->Mu->DK->Prop}:mG K (RH K r) r:=fun xs us H U Qd Q ok rs h k=>⟨xs,U,Qd,ok,rs,h,k⟩
theorem IC:jA X (.builtin "len") (RH X.K Lj):=by
 intro pins s σ H xs us Q I r h
 obtain⟨ds,U,Qd,ok,rs,⟨a,c,rfl,hc,few,q⟩,kk⟩:=h
 cases rs with
 |cons r1 r2=>
  cases r2
  obtain⟨rfl,_⟩:=r1
  obtain⟨u,rfl,rx⟩:=vals1 r
  cases rx
  obtain⟨ns,ob,hr,hb⟩:=ok.box a c hc
  have fin:∀(t:Tok) s',Inv X pins σ H s'->EP X pins σ Q (.int (CW c:Nat) t) s':=fun t s' I'=>⟨.int (CW c:Nat),H,I',⟨t,rfl⟩,kk (.v (.int (CW c:Nat))) _ U H .refl ok (Rp.int _) q⟩
  cases c with
  |set ks=>
   obtain⟨h1,L,ep,t,h2,h3,h4,h5,_,_⟩:=hb
   have hs:(L.map (·.2)).toArray.size=ks.length:=by rw[size_toArray,length_map,h5]
   have few':ks.length<=9800:=few
   refine PySem.call_len_set (show s.heap.get? a=some ob from I.hok a _ hr) h1 h2 (ST.fits_of h3 ∅) (by rw[hs];exact Int.lt_of_le_of_lt (by exact_mod_cast few':(ks.length:Int)<=9800) ⋯) ?_
   rw[hs]
   exact fin _ _ (I.kept (h':=s.heap) (t':=s.toks+1+1) fun _ _ e=>e)
  |dict kvs=>
   obtain⟨xs,dp,dd,len⟩:=vW I hr hb
   have few':kvs.length<=9800:=few
   refine v5 ns dd (by rw[<- dp.length];exact Int.lt_of_le_of_lt (by exact_mod_cast few':(kvs.length:Int)<=9800) ⋯) ?_
   rw[<- dp.length]
   exact fin _ _ (I.kept (h':=s.heap) (t':=s.toks+1+1) fun _ _ e=>e)
theorem L5{es:List Expr}{t:DTA}(hg:Gl X "len")(hm:X.mg "len"=none)(ha:DA X (e::es) t)
  (he:starEach (e::es) X.env=(false,eval e X.env)::starEach es X.env:=by rfl) (hpl:(backTo pos (starEach es X.env)).any (·.1)=false:=by rfl):DE X (.Call (.Name "len" p) (e::es) [] pos) (dCB Lj t):=
 jL IC Pn hg hm PySem.boot_len ha ⋯ ⋯ he hpl
end
noncomputable def putAll{α:Type}(l:List (List Int×α)):List (List Int×α):=l.foldl (fun a x=>mY a x.1 x.2) []
theorem putAll_snoc{α:Type}(l:List (List Int×α))(k:List Int)(y:α):putAll (l++[(k,y)])=mY (putAll l) k y:=by unfold putAll;rw[List.foldl_append];rfl
theorem EK{α:Type}(l:List (List Int×α)):(putAll l).length<=l.length:=by
 have:∀(l a:List (List Int×α)),(l.foldl (fun a x=>mY a x.1 x.2) a).length<=a.length+l.length:=fun l=>by
  induction l with
  |nil=>intro a;exact le_refl _
  |cons x l ih=>
   intro a
   rw[List.foldl_cons,length_cons]
   have h1:=ih (mY a x.1 x.2)
   have h2:=CG a x.1 x.2
   omega
 have h:=this l []
 rw[length_nil,Nat.zero_add] at h
 exact h
theorem Dm{β:Type}{xs:List PyData}{f:PyData->Option β}{i:Nat}{d:PyData}(h:xs[i]? = some d):(xs.take (i+1)).filterMap f=(xs.take i).filterMap f++(f d).toList:=by
 obtain⟨hi,e⟩:=List.getElem?_eq_some_iff.mp h
 rw[List.take_succ_eq_append_getElem hi,List.filterMap_append,e]
 cases q:f d<;>simp[q]
noncomputable def xM(cap:List (Option Nat))(src:DTI)(g:DTG)(c:DTT)(tk tv:DTE):DTE:=fun ρ U Q=>src ρ U fun xs am=>xs.length<=1000/\∃f:PyData->Option (List Int×PyData),
 (∀x∈xs,∀Z:Mu,(∀a ds,am a=some ds->Z a=some ds)->g (.v x) (cg cap ρ) Z fun ii bn=>Le (cg cap ρ) ii/\c ii bn fun b dl=>
  if b=true then tk ii dl fun dk im=>tv ii im fun dv jp=>jp=Z/\∃k y,tN dk=some k/\dv = .v y/\f x=some (k,y) else dl=Z/\f x=none)/\∀p,am.b p=none->Q (.b p) (ck am p (.dict (putAll (xs.filterMap f))))
theorem GD{cap:List (Option Nat)}{src:DTI}{g:DTG}{c:DTT}{tk tv:DTE}{ρ:Rho}{U:Mu}{Q:DK}:xM cap src g c tk tv ρ U Q=src ρ U fun xs am=>xs.length<=1000/\∃f:PyData->Option (List Int×PyData),
 (∀x∈xs,∀Z:Mu,(∀a ds,am a=some ds->Z a=some ds)->g (.v x) (cg cap ρ) Z fun ii bn=>Le (cg cap ρ) ii/\c ii bn fun b dl=>
  if b=true then tk ii dl fun dk im=>tv ii im fun dv jp=>jp=Z/\∃k y,tN dk=some k/\dv = .v y/\f x=some (k,y) else dl=Z/\f x=none)/\∀p,am.b p=none->Q (.b p) (ck am p (.dict (putAll (xs.filterMap f)))):=rfl
noncomputable abbrev two(elt tg iter tg2 iter2:Expr)(scope:Scope)(pos:Pos):Expr:=.ListComp elt [⟨tg,iter,[],0⟩,⟨tg2,iter2,[],0⟩] scope pos
theorem zh(elt tg iter tg2 iter2:Expr)(scope:Scope)(pos:Pos)(it acc:Value)(env:Env) :
  compTurn (two elt tg iter tg2 iter2 scope pos) 0 it acc env=(standAt iter.pos>>=fun _=>pyNext it>>=fun r=>match r with
   |none=>pure (.done .next)
   |some v=>letOwnedTupleGo tg it v>>=fun _=>assign tg env v>>=fun _=>
    (eval iter2 env>>=fun x=>standAt iter2.pos>>=fun _=>foldedSetIterable iter2 env x>>=fun x=>holding [x] (pyIter x)>>=fun it2=>runOwn (.compStart (two elt tg iter tg2 iter2 scope pos) 1 it2 acc env) env>>=fun _=>
     again (.compLoop (two elt tg iter tg2 iter2 scope pos) 0 it acc env))):=by rfl
theorem yJ(elt tg iter tg2 iter2:Expr)(scope:Scope)(pos:Pos)(it acc:Value)(env:Env) :
  compTurn (two elt tg iter tg2 iter2 scope pos) 1 it acc env=(standAt iter2.pos>>=fun _=>pyNext it>>=fun r=>match r with
   |none=>pure (.done .next)
   |some v=>letOwnedTupleGo tg2 it v>>=fun _=>assign tg2 env v>>=fun _=>
    (eval elt env>>=fun x=>call (.builtin "list.append") [acc,x]>>=fun _=>pure ())>>=fun _=>
     again (.compLoop (two elt tg iter tg2 iter2 scope pos) 1 it acc env)):=by rfl
section
variable {prog:Program}{w:World}{A:Around}{R:Result->Shared->Prop}{s:Shared}{elt tg iter tg2 iter2:Expr}{scope:Scope}{pos:Pos}{it acc:Value}{env:Env}
theorem Co(I:Nat->Shared->Prop)
  (turn:∀n s,I n s->wpAny (model prog w) A (pyNext it) (fun r gV=>match r with
   |none=>R (.ok .next) gV
   |some v=>wpAny (model prog w) A (letOwnedTupleGo tg2 it v) (fun _ s'=>wpAny (model prog w) A (assign tg2 env v) (fun _ bv=>
      wpAny (model prog w) A (eval elt env) (fun x zn=>
       wpAny (model prog w) A (call (.builtin "list.append") [acc,x]) (fun _ wS=>∃m,m<n/\I m wS) (fun _ _=>False) zn) (fun _ _=>False) bv) (fun _ _=>False) s') (fun _ _=>False) gV) (fun _ _=>False) s)
  (n:Nat) (h:I n s) :
  codeAny (model prog w) A (.compLoop (two elt tg iter tg2 iter2 scope pos) 1 it acc env) R s:=by
 refine codeAny_loop rfl I (fun n s hI=>?_) n h
 show wpAny _ A ((compTurn (two elt tg iter tg2 iter2 scope pos) 1 it acc env).onRaise (fun x=>do noteFrame x env;theTreesLotGoes x)) _ _ s
 refine wpAny_noted ?_
 rw[yJ]
 refine wpAny_bind (wpAny_standAt (wpAny_bind (wpAny_mono (turn n s hI) (fun r gV ls=>?_) fun _ _ h'=>h'.elim)))
 cases r with
 |none=>exact wpAny_pure ls
 |some v=>
  refine wpAny_bind (wpAny_mono ls (fun _ s' h'=>?_) fun _ _ h'=>h'.elim)
  refine wpAny_bind (wpAny_mono h' (fun _ bv wl=>?_) fun _ _ h'=>h'.elim)
  exact wpAny_bind (wpAny_bind (wpAny_mono wl (fun x zn BT=>wpAny_bind (wpAny_mono BT (fun _ wS AT=>wpAny_pure (wpAny_pure ⟨rfl,AT⟩)) fun _ _ h'=>h'.elim)) fun _ _ h'=>h'.elim))
theorem w9
  (h0:codeAny (model prog w) A (.compLoop (two elt tg iter tg2 iter2 scope pos) 1 it acc env) R s)
  (h:wpAny (model prog w) A (pyIter it) (fun it' s'=>codeAny (model prog w) A (.compLoop (two elt tg iter tg2 iter2 scope pos) 1 it' acc env) R s')
   (notedBy (model prog w) A env fun x s'=>R (.error x) s') s) :
  codeAny (model prog w) A (.compStart (two elt tg iter tg2 iter2 scope pos) 1 it acc env) R s:=by
 refine codeAny_of_tree ?_
 show wpAny _ _ ((compStart (two elt tg iter tg2 iter2 scope pos) 1 it acc env).onRaise (fun x=>do noteFrame x env;standAt theWindowsPlace)) _ _ s
 refine wpAny_notedAt ?_
 unfold compStart
 show wpAny _ _ (ask>>=_) _ _ s
 refine wpAny_bind (wpAny_askSetting (wpAny_ite ?_))
 split
 ·first
   |exact wpAny_bind (wpAny_pure (wpAny_pure (And.intro rfl h0)))
   |exact wpAny_pure (And.intro rfl h0)
 ·first
   |exact wpAny_bind (wpAny_rule (wpAny_bind (wpAny_standAt (wpAny_bind (wpAny_mono h (fun it' s' h'=>wpAny_pure (And.intro rfl h')) fun _ _ x=>x)))))
   |(refine wpAny_bind (wpAny_rule ?_);show wpAny _ _ (standAt iter2.pos>>=_) _ _ s;exact wpAny_bind (wpAny_standAt (wpAny_bind (wpAny_mono h (fun it' s' h'=>wpAny_pure (And.intro rfl h')) fun _ _ x=>x))))
end
theorem xF{U:Mu}{p:Addr}{ds:List PyData}(h:U p=some ds):aQ U p ds=U:=Mu.eq (fun b=>by
 by_cases e:b=p
 ·rw[e,aX,h]
 ·rw[aV e]) fun _=>rfl
theorem II{X:Cx}{N':List Str}{cl:List (Str×Addr)}{fp0:List Addr}{bv:Shared}{ce:Hp}{elt tg iter tg2 iter2:Expr}{scope:Scope}{pos:Pos}{src2:DTI}{g2:DTG}{te:DTE}
  (hi2:DI (aK X N' scope cl fp0 bv ce) tg2 iter2 src2) (hg2:DG (aK X N' scope cl fp0 bv ce) tg2 g2) (he:DE (aK X N' scope cl fp0 bv ce) elt te)
  {pins:List (Addr×Obj)} {s:Shared} {σ:St} {H:Hp} {ρ:Rho} {U:Mu} {p:Addr} {acc zs:List PyData} (I:Inv (aK X N' scope cl fp0 bv ce) pins σ H s) (S:St0 X.K H ρ U σ) (hp:U p=some acc) (hlen:acc.length+zs.length<=1000)
  (q:src2 ρ U fun ys dl=>dl=U/\∃h:PyData->PyData,zs=ys.map h/\∀y∈ys,∀kw:Mu,(∀a ds,a≠p->U a=some ds->kw a=some ds)->g2 (.v y) ρ kw fun pd im=>Le ρ pd/\te pd im fun d jp=>jp=kw/\d = .v (h y)) :
  wpAny (model X.prog X.w) X.A (eval iter2 (aK X N' scope cl fp0 bv ce).env) (fun x s1=>wpAny (model X.prog X.w) X.A (pyIter x) (fun it2 s2=>
   codeAny (model X.prog X.w) X.A (.compStart (two elt tg iter tg2 iter2 scope pos) 1 it2 (.ref p) (aK X N' scope cl fp0 bv ce).env) (fun r s3=>∃f,r = .ok f/\∃o0 H3,Inv (aK X N' scope cl fp0 bv ce) pins o0 H3 s3/\St0 X.K H3 ρ (aQ U p (acc++zs)) o0/\Ext X.K U H (aQ U p (acc++zs)) H3) s2) (fun _ _=>False) s1) (fun _ _=>False) s:=by
 obtain⟨wi,pw,li⟩:=hi2
 refine thn (pw pins s σ H _ I (li σ H ρ U _ (fun J H1=>∃ys dl,Ext X.K U H dl H1/\St0 X.K H1 ρ dl σ/\Nf X.K J ys dl H1/\dl=U/\∃h:PyData->PyData,zs=ys.map h/\∀y∈ys,∀kw:Mu,(∀a ds,a≠p->U a=some ds->kw a=some ds)->g2 (.v y) ρ kw fun pd im=>Le ρ pd/\te pd im fun d jp=>jp=kw/\d = .v (h y)) S q
  (fun ys dl H1 J e1 S1 it q=>⟨ys,dl,e1,S1,it,q⟩))) fun v s1 h1=>thn h1 fun itv s2 h2=>?_
 obtain⟨it,fp,tn,J,H2,rfl,I2,T,st2,f2,ys,dl,e1,S1,itok,rfl,h,rfl,body⟩:=h2
 have loop:codeAny (model X.prog X.w) X.A (.compLoop (two elt tg iter tg2 iter2 scope pos) 1 (.ref it) (.ref p) (aK X N' scope cl fp0 bv ce).env) (fun r s3=>∃f,r = .ok f/\∃o0 H3,Inv (aK X N' scope cl fp0 bv ce) pins o0 H3 s3/\St0 X.K H3 ρ (aQ dl p (acc++ys.map h)) o0/\Ext X.K dl H (aQ dl p (acc++ys.map h)) H3) s2:=by
  refine Co (fun n s'=>∃(j:Nat) (lf:St) (Hc:Hp),n=ys.length-j/\j<=ys.length/\Inv (aK X N' scope cl fp0 bv ce) pins lf Hc s'/\tn j s'.heap/\(∀b∈fp,Hc b=none) /\
   St0 X.K Hc ρ (aQ dl p (acc++(ys.take j).map h)) lf/\Ext X.K dl H2 (aQ dl p (acc++(ys.take j).map h)) Hc) ?_ ys.length
   ⟨0,σ,H2,by simp,zero_le _,I2,st2,fun b hb=>(f2 b hb).1,?_,?_⟩
  ·rintro n s' ⟨i,lf,Hc,rfl,hi,Ic,tc,frc,Sc,Ec⟩
   have stat:∀{Hd:Hp},(∀b∈fp,Hd b=none)->∀b∈fp,x9 (aK X N' scope cl fp0 bv ce) pins Hd b:=fun hn b hb=>⟨hn b hb,(f2 b hb).2⟩
   obtain⟨go,stop⟩:=itok _ Hc Ec Sc.mu i
   by_cases hlt:i<ys.length
   ·obtain⟨g1,y1⟩:=go hlt
    refine thn (T.item (aK X N' scope cl fp0 bv ce) rfl rfl rfl (fun z=>z) i pins s' lf Hc (fun _ _=>False) Ic (stat frc) tc g1) fun r s4 hq0=>?_
    obtain⟨u,hr,h4⟩:=hq0
    subst hr
    refine thn h4 fun _ s5 hq0=>?_
    obtain⟨x,H5,I5,r5,y5,st5,fr5⟩:=hq0
    obtain⟨d,hd,sm,rd⟩:=y1 x H5 y5
    have I5':=I5.pinned (stat fr5) (T.obj _ _ st5)
    have e5:Ext X.K _ Hc _ H5:=.of_same (U:=aQ dl p (acc++(ys.take i).map h)) sm
    have S5:St0 X.K H5 ρ (aQ dl p (acc++(ys.take i).map h)) lf:=⟨Sc.mu.MY e5 sm,Sc.rho.ext Sc.mu e5⟩
    obtain⟨gt,pg,lg⟩:=hg2
    have hmem:d∈ys:=mem_of_getElem? hd
    have sub:∀a ds,a≠p->dl a=some ds->aQ dl p (acc++(ys.take i).map h) a=some ds:=fun a ds ne e=>by rw[aV ne];exact e
    refine thn (pg _ s5 lf H5 x u (fun db H'=>∃dL Z,Ext X.K (aQ dl p (acc++(ys.take i).map h)) H5 Z H'/\St0 X.K H' dL Z db/\Le ρ dL/\te dL Z fun d' jp=>jp=aQ dl p (acc++(ys.take i).map h)/\d' = .v (h d)) I5' r5
     (lg lf H5 ρ _ (.v d) x _ _ S5 rd (body d hmem _ sub) fun db dL Z H' e' S' q=>⟨dL,Z,e',S',q⟩)) fun _ s6 ⟨ut,H6,I6,Do,wp,e6,S6,le6,q6⟩=>?_
    refine thn (he.use I6 S6 q6) fun v s8 hq0=>?_
    obtain⟨d',v8,wf,H8,I8,r8,e8,S8,ry,Da,ed⟩:=hq0
    subst Da;subst ed
    obtain⟨us,hacc,rus⟩:=S8.mu.lst p _ aX
    have hle:(acc++(ys.take i).map h).length<1000:=by
     rw[length_append,length_map,length_take]
     rw[length_map] at hlen
     omega
    refine thn (tH (X:=aK X N' scope cl fp0 bv ce) _ s8 ut H8 (.ref p) [v8] (.ref p) [v] (fun _ H'=>H'=upd H8 p (.lst (us++[v8]))) I8 rfl (.cons r8 .nil) ⟨_,us,v8,rfl,rfl,hacc,by rw[<- rus.length];exact fS (Nat.le_of_lt hle),rfl⟩) fun _ s9 hq0=>?_
    obtain⟨_,H9,I9,_,e9⟩:=hq0
    subst e9
    have et:acc++(ys.take (i+1)).map h=acc++(ys.take i).map h++[h d]:=by
     obtain⟨hi',e⟩:=List.getElem?_eq_some_iff.mp hd
     rw[List.take_succ_eq_append_getElem hi',map_append,e,append_assoc]
     rfl
    have ex:Ext X.K (aQ dl p (acc++(ys.take i).map h)) H8 (aQ (aQ dl p (acc++(ys.take i).map h)) p (acc++(ys.take i).map h++[h d])) (upd H8 p (.lst (us++[v8]))):=iY aX
    have m9:=S8.mu.set aX (rus.append (.cons ry .nil))
    rw[fO,<- et] at ex m9
    have Ef:=Ec.trans (e5.trans (e6.trans (e8.trans ex)))
    refine⟨ys.length-(i+1),∅,i+1,ut,_,rfl,hlt,I9.kA,T.keep _ _ _ st5 fun b hb o e=>(I9.pin (b,o) (mem_append_right _ (mem_append_right _ (fE hb e)))).1,fun b hb=>?_,⟨m9,(S8.rho.ext S8.mu ex).le le6⟩,Ef⟩
    obtain⟨o,e,_⟩:=T.obj _ _ st5 b hb
    exact (I9.pin (b,o) (mem_append_right _ (mem_append_right _ (fE hb e)))).2.1
   ·have ei:i=ys.length:=by omega
    subst ei
    refine thn (T.done (aK X N' scope cl fp0 bv ce) rfl rfl rfl (fun z=>z) _ pins s' lf Hc (fun _ _=>False) Ic (stat frc) tc (stop rfl)) fun r s4 hq0=>?_
    obtain⟨hr,I5⟩:=hq0
    subst hr
    rw[take_length] at Sc Ec
    exact⟨_,rfl,lf,Hc,I5,Sc,e1.trans Ec⟩
  ·rw[List.take_zero,map_nil,append_nil,xF hp]
   exact S1
  ·rw[List.take_zero,map_nil,append_nil,xF hp]
   exact .refl
 exact w9 loop (T.self X.A 0 _ _ _ st2 loop)
noncomputable def wj(cap:List (Option Nat))(src:DTI)(g:DTG)(src2:DTI)(g2:DTG)(te:DTE):DTE:=fun ρ U Q=>src ρ U fun xs am=>xs.length<=1000/\∃f:PyData->List PyData,(xs.flatMap f).length<=1000 /\
   (∀x∈xs,∀Z:Mu,(∀a ds,am a=some ds->Z a=some ds)->g (.v x) (cg cap ρ) Z fun ii bn=>Le (cg cap ρ) ii/\bn=Z/\src2 ii Z fun ys dl=>dl=Z/\∃h:PyData->PyData,f x=ys.map h/\∀y∈ys,∀kw:Mu,(∀a ds,am a=some ds->kw a=some ds) ->
    g2 (.v y) ii kw fun pd im=>Le ii pd/\te pd im fun d jp=>jp=kw/\d = .v (h y))/\Q (.v (.list (xs.flatMap f))) am
theorem G4{cap:List (Option Nat)}{src:DTI}{g:DTG}{src2:DTI}{g2:DTG}{te:DTE}{ρ:Rho}{U:Mu}{Q:DK}:wj cap src g src2 g2 te ρ U Q=src ρ U fun xs am=>xs.length<=1000/\∃f:PyData->List PyData,(xs.flatMap f).length<=1000 /\
   (∀x∈xs,∀Z:Mu,(∀a ds,am a=some ds->Z a=some ds)->g (.v x) (cg cap ρ) Z fun ii bn=>Le (cg cap ρ) ii/\bn=Z/\src2 ii Z fun ys dl=>dl=Z/\∃h:PyData->PyData,f x=ys.map h/\∀y∈ys,∀kw:Mu,(∀a ds,am a=some ds->kw a=some ds) ->
    g2 (.v y) ii kw fun pd im=>Le ii pd/\te pd im fun d jp=>jp=kw/\d = .v (h y))/\Q (.v (.list (xs.flatMap f))) am:=rfl
theorem ln1{p:List Value->Prop}(h:∀a0,p [a0])(us:List Value)(hl:us.length=1):p us:=match us,hl with|[a0],_=>h a0
theorem ln2{p:List Value->Prop}(h:∀a0 a1,p [a0,a1])(us:List Value)(hl:us.length=2):p us:=match us,hl with|[a0,a1],_=>h a0 a1
theorem ln3{p:List Value->Prop}(h:∀a0 a1 a2,p [a0,a1,a2])(us:List Value)(hl:us.length=3):p us:=match us,hl with|[a0,a1,a2],_=>h a0 a1 a2
theorem ln4{p:List Value->Prop}(h:∀a0 a1 a2 a3,p [a0,a1,a2,a3])(us:List Value)(hl:us.length=4):p us:=match us,hl with|[a0,a1,a2,a3],_=>h a0 a1 a2 a3
noncomputable def upE(te:DTE):DTE:=fun ρ U Q=>∃Q',te ρ U Q'/\∀d Z,Q' d Z->Q d Z
noncomputable def upG(g:DTG):DTG:=fun d ρ U Q=>∃Q',g d ρ U Q'/\∀dL Z,Q' dL Z->Q dL Z
noncomputable def upT(c:DTT):DTT:=fun ρ U Q=>∃Q',c ρ U Q'/\∀b Z,Q' b Z->Q b Z
noncomputable def upI(c:DTI):DTI:=fun ρ U Q=>∃Q',c ρ U Q'/\∀b Z,Q' b Z->Q b Z
theorem FU{X:Cx}{e:Expr}{te:DTE}(h:DE X e te):DE X e (upE te):=
 let ⟨t,p,l⟩:=h
 ⟨t,p,fun σ H ρ U _ Q S ⟨Q',h,z⟩ k=>l σ H ρ U Q' Q S h fun d u Z H' a b c q=>k d u Z H' a b c (z _ _ q)⟩
theorem Hh{X:Cx}{e:Expr}{g:DTG}(h:DG X e g):DG X e (upG g):=
 let ⟨t,p,l⟩:=h
 ⟨t,p,fun σ H ρ U d u _ Q S r ⟨Q',h,z⟩ k=>l σ H ρ U d u Q' Q S r h fun db dL Z H' a b q=>k db dL Z H' a b (z _ _ q)⟩
theorem Cb{X:Cx}{es:List Expr}{c:DTT}(h:ua X es c):ua X es (upT c):=
 fun pins s σ H ρ U _ Q I S ⟨Q',h',z⟩ k=>h pins s σ H ρ U Q' Q I S h' fun b Z H' x y q=>k b Z H' x y (z _ _ q)
theorem Cy{X:Cx}{tg e:Expr}{c:DTI}(h:DI X tg e c):DI X tg e (upI c):=
 let ⟨t,p,l⟩:=h
 ⟨t,p,fun σ H ρ U _ R S ⟨Q',h,z⟩ k=>l σ H ρ U Q' R S h fun xs am H1 J a b c q=>k xs am H1 J a b c (z _ _ q)⟩
theorem R8{X:Cx}{e:Expr}{te te':DTE}(h:DE X e te)(w:∀ρ U Q,te' ρ U Q->te ρ U Q):DE X e te':=
 let ⟨t,p,l⟩:=h
 ⟨t,p,fun σ H ρ U Qd Q S h k=>l σ H ρ U Qd Q S (w _ _ _ h) k⟩
theorem Ng{U:Mu}{p:Addr}{l:List PyData}(h:U p=none):kJ (aQ U p l) p=U:=Mu.eq (fun b=>by
 by_cases e:b=p
 ·rw[e,gP,h]
 ·rw[fj e,aV e]) fun _=>rfl
theorem Ia{cap:List (Option Nat)}{src:DTI}{g:DTG}{c:DTT}{te:DTE}{ρ:Rho}{U:Mu}{Q:DK}(h:Ad cap src g c te ρ U Q):gS cap (upI src) (upG g) (upT c) (upE te) ρ U Q:=by
 refine⟨_,h,fun xs am ⟨hl,f,body,q⟩=>⟨hl,fun p hp=>⟨fun i acc Z=>acc=(xs.take i).filterMap f/\Z=aQ am p acc,⟨rfl,rfl⟩,fun i x acc Z hx _ P=>?_,fun acc Z P _=>?_⟩⟩⟩
 ·obtain⟨e,rfl⟩:=P
  have tk:∀o,f x=o->(xs.take (i+1)).filterMap f=acc++o.toList:=fun o z=>by
   rw[List.take_add_one,hx,List.filterMap_append,e]
   show _++List.filterMap f [x]=_
   rw[filterMap_cons,z]
   cases o<;>rfl
  refine⟨_,body x (mem_of_getElem? hx) _ (fun a ds z=>by rw[aV (fun w=>by rw[w,hp] at z;cases z),z]),fun ii bn ⟨l,cc⟩=>⟨l,_,cc,fun b dl r=>?_⟩⟩
  cases b with
  |true=>
   rw[if_pos rfl] at r ⊢
   refine⟨_,r,fun d im hq0=>?_⟩
   obtain⟨e4,m⟩:=hq0
   subst e4
   refine⟨aX,?_⟩
   split at m
   ·exact⟨(tk _ m).symm,fO⟩
   ·exact m.elim
  |false=>
   rw[if_neg ⋯] at r ⊢
   obtain⟨rfl,z⟩:=r
   exact⟨aX,by rw[tk _ z];exact (append_nil _).symm,rfl⟩
 ·obtain⟨rfl,rfl⟩:=P
  rw[take_length,Ng hp]
  exact q
structure Cal(K:PySem.W.Frag)(mg:Str->Option Value)(n:Str)(ps:List Str)(st:Stmt)(a:Addr)(d:FuncData):Prop where
 f:Fun K n n st a d
 m:mg n=some (.ref a)
 k:keepIn K (.ref a)=true
 b:Binds K d ps []
theorem ao{X:Cx}{k j:Nat}{f:Addr}{fd:FuncData}{x:Str}{p pos:Pos}{e:Expr}{es:List Expr}{ps:List Str}{st:Stmt}{dsp:DSp}{t:DTA}(F:iy X.prog X.w X.K X.mg X.base CX0 k f fd ps (spD X.K dsp))(hr:fV j X.A)(C:Cal X.K X.mg x ps st f fd)
  (ha:DA X (e::es) t) (h:k<=j:=by decide) (hg:Gl X x:=by rfl) (hdb:(x==("__debug__":Str))=false:=by decide) (he:starEach (e::es) X.env=(false,eval e X.env)::starEach es X.env:=by rfl) (hpl:(backTo pos (starEach es X.env)).any (·.1)=false:=by rfl) :
  DE X (.Call (.Name x p) (e::es) [] pos) (ax dsp t):=My F (hr.mono h) hg C.m C.k C.b ha hdb he hpl
theorem bE{X:Cx}{pos:Pos}{i:Nat}{x:Str}(hN:X.N.Nodup)(hi:X.N[i]? = some x:=by rfl)(hx:Loc X.env.scope x:=by exact Or.inl rfl)(hf:X.fn x=true\/X.env.scope.names.lookup x=some .local:=by first|exact .inl rfl|exact .inr rfl|assumption):DG X (.Name x pos) (ar i):=oO hN hi hx hf
theorem cJ{X:Cx}{N':List Str}{scope:Scope}{cl:List (Str×Addr)}{fp:List Addr}{s:Shared}{H:Hp}{pos:Pos}(i:Nat){x:Str}(hN:N'.Nodup:=by decide +kernel)(hi:N'[i]? = some x:=by rfl)(hx:Loc (aK X N' scope cl fp s H).env.scope x:=by exact Or.inl rfl)(hf:(aK X N' scope cl fp s H).fn x=true\/(aK X N' scope cl fp s H).env.scope.names.lookup x=some .local:=by first|exact .inl rfl|exact .inr rfl|assumption):DG (aK X N' scope cl fp s H) (.Name x pos) (ar i):=oO hN hi hx hf
theorem bG{X:Cx}{e:Expr}{te:DTE}{pos:Pos}{i:Nat}{x:Str}{pos':Pos}(hN:X.N.Nodup)(he:DE X e te)(hi:X.N[i]? = some x:=by rfl)(hx:Loc X.env.scope x:=by exact Or.inl rfl)(hs:swapsWith e (some (.Name x pos')) pos.line X.env=pure false:=by rfl)(hf:X.fn x=true\/X.env.scope.names.lookup x=some .local:=by first|exact .inl rfl|exact .inr rfl|assumption) :
  DS X (.Assign [.Name x pos'] e pos) (br te (ar i)):=qv hN hi hx he hs hf
theorem cH{N P:List Str}{sc:Scope}(h1:sc.kind = .function:=by rfl)(h2:sc.isCoroutine=false:=by rfl)(h3:sc.isGenerator=false:=by rfl)(h4:N.Nodup:=by decide +kernel)(h5:N.take P.length=P:=by rfl)
  (h6:∀x∈P,sc.names.lookup x=some .local\/sc.names.lookup x=some .cell:=by decide +kernel) (h7:∀y∈sc.names,y.2≠.free:=by decide +kernel):aJ N P sc:=⟨h1,h2,h3,h4,h5,h6,h7⟩
structure CH(X:Cx)(N':List Str)(scope:Scope)(cl:List (Str×Addr))(cap:List (Option Nat)):Prop where
 cell:∀y∈scope.names,y.2≠.cell
 kind:scope.kind = .function
 nms:∀y∈scope.names,y.2 = .local->scope.names.lookup y.1=some .local
 sub:∀x a,cl.lookup x=some a->X.env.cells.lookup x=some a
 has:∀x,(relabel scope X.env).names.lookup x=some .cell\/(relabel scope X.env).names.lookup x=some .free->∃a,cl.lookup x=some a
 len:cap.length=N'.length
 cap:∀(i j:Nat) (x:Str),cap[i]? = some (some j)->N'[i]? = some x->X.N[j]? = some x/\Vis X.env.scope x/\X.env.kindOf x≠some .local/\((relabel scope X.env).names.lookup x=some .cell\/(relabel scope X.env).names.lookup x=some .free)
noncomputable def Core(X:Cx)(E:Expr)(scope:Scope)(mk:Sem Value)(iter:Expr)(te:DTE):Prop:=∀(pos:Pos) (use:Option (Value->Sem Unit)) (QQ:Value->Shared->Prop) (pins:List (Addr×Obj)) (s:Shared) (σ:St) (H:Hp) (ρ:Rho) (U:Mu) (Qd:DK),Inv X pins σ H s->St0 X.K H ρ U σ->te ρ U Qd ->
 (∀(s4:Shared) (Hc:Hp) (C pa:Addr) (m:Str->Option Value) (d:D) (lv:Mu),s4.heap.Ns C m->x9 X pins Hc C->(∀h',Heap.SameBut C s4.heap h'->Inv X pins σ Hc {s4 with heap:=h'}) ->
  Ext X.K U H lv Hc->St0 X.K Hc ρ lv σ->RpD X.K lv Hc d (.ref pa)->Qd d lv->compPost (model X.prog X.w) X.A X.xe use QQ (.ref pa) C (.ok .next) s4) ->
 wpAny (model X.prog X.w) X.A (comprehension E scope X.env pos mk false (eval iter X.env) use) QQ X.xe s
theorem Gg{X:Cx}{E iter:Expr}{scope:Scope}{mk:Sem Value}{te:DTE}{pos:Pos}(h:Core X E scope mk iter te)(e:eval E X.env=comprehension E scope X.env pos mk false (eval iter X.env)):DE X E te:=
 Od fun pins s σ H ρ U Qd Q I S q k=>by
  rw[e]
  exact h _ _ _ _ _ _ _ _ _ _ I S q fun s4 Hc C pa m d lv hn _ hI e1 S1 r q=>⟨m,hn,fun h' hs'=>⟨.ref pa,Hc,hI h' hs',rfl,k d _ lv Hc e1 S1 r q⟩⟩
theorem BN{X:Cx}{i:Nat}{x:Str}{pos' spos pos:Pos}{E iter:Expr}{scope:Scope}{mk:Sem Value}{te:DTE}(h:Core X E scope mk iter te)(hN:X.N.Nodup)(hix:X.N[i]? = some x)(hx:X.env.scope.names.lookup x=some .local)
  (hsw:swapsWith E (some (.Name x pos')) spos.line X.env=pure true) (e:evalThenUse E X.env (assign (.Name x pos') X.env)=comprehension E scope X.env pos mk false (eval iter X.env) (some (assign (.Name x pos') X.env))>>=fun _=>pure ()):DS X (.Assign [.Name x pos'] E spos) (br te (ar i)):=by
 refine⟨fun D σ H=>∃ρ U Dd,St0 X.K H ρ U σ/\br te (ar i) Dd ρ U/\(∀db dL Z H',Ext X.K U H Z H'->St0 X.K H' dL Z db->Dd.nx dL Z->D.nx db H'),?_,fun σ H ρ U Dd De S h k1 k2 k3 k4=>⟨ρ,U,Dd,S,h,k1⟩⟩
 intro pins s σ H D I hq
 obtain⟨ρ,U,Dd,S,q,k1⟩:=hq
 rw[exec_Assign_Name_used _ _ _ _ hsw,e]
 refine wpAny_bind (wpAny_standAt (wpAny_bind (wpAny_bind (h _ _ _ pins s σ H ρ U (fun d am=>ar i d ρ am Dd.nx) I S q fun s4 Hc C pa m d lv hn fC hI e1 S1 r q=>?_))))
 obtain⟨oC,hoC,hdC⟩:=ns_obj hn
 have I5:=(hI s4.heap (Heap.SameBut.refl _ _)).pinned (fp:=[C]) (fun b hb=>by rw[List.mem_singleton.mp hb];exact fC) (fun b hb=>by rw[List.mem_singleton.mp hb];exact⟨oC,hoC,hdC⟩)
 show wpAny _ _ (assign (.Name x pos') X.env (.ref pa)) _ _ s4
 refine wpAny_assign_Name (kM I5 hN hix (Or.inl hx) (show RelV (.ref pa) (.ref pa) from rfl) (fun s' I'=>?_) (.inr hx))
 have keepC:s'.heap.get? C=some oC:=(I'.pin (C,oC) (mem_append_right _ (mem_append_right _ (fE (List.mem_singleton.mpr rfl) hoC)))).1
 refine⟨m,Nc hn (by rw[keepC,hoC]),fun h' hs'=>wpAny_pure (wpAny_pure ⟨σ.set i (some (.ref pa)),Hc,?_,k1 _ _ _ _ e1 ⟨S1.mu,S1.rho.set r⟩ q⟩)⟩
 refine I'.kA.FV (ch:=[C]) rfl ⟨fun b o e n hb hx=>?_,fun b o e n hb hx=>?_,fun b o e n hx=>n,fun b o e hx=>?_,fun b xs e=>e,fun b o u e=>e,fun b ps e=>⟨#[],by rw[Array.append_empty];exact e⟩⟩ ?_ I'.bare fun b hb=>?_
 ·exact hs'.extBut b o (fun z=>hx (List.mem_singleton.mpr z)) e
 ·exact⟨o.slots,hs'.extBut b o (fun z=>hx (List.mem_singleton.mpr z)) e⟩
 ·exact⟨o,hs'.extBut b o (fun z=>hx (List.mem_singleton.mpr z)) e⟩
 ·exact fun b ob e=>by
   refine (I'.hok b ob e).vC (fun cc v hcc q=>hs'.extBut cc v ?_ q) (fun _ q=>q) fun _ _ q=>q
   rintro rfl
   rcases hcc with z|z
   ·rw[<- z,fC.1] at e;cases e
   ·rw[fC.1] at z;cases z
 ·rw[List.mem_singleton.mp hb]
  exact⟨fC.2.2.2.1,fC.2.1,fC.2.2.2.2.1,fC.2.2.2.2.2⟩
theorem Fx{X:Cx}{N':List Str}{scope:Scope}{cl:List (Str×Addr)}{cap:List (Option Nat)}{E tg:Expr}{gc:Comprehension}{gs:List Comprehension}{src:DTI}{g:DTG}{te:DTE}
  {T0:String} {dt:Data} {oH:HO} {mk0:Mu->Addr->Mu} {rest:Value->Addr->Env->Sem PySem.Fin} {Kb:Addr->PyData->Rho->Mu->(Mu->Prop)->Prop} {fin:DK->Mu->Addr->Mu->Prop}
  (hclos:closureFor scope X.env=pure cl) (hC:CH X N' scope cl cap) (hi:DI X tg gc.iter src) (hg:∀fp bv ce,DG (aK X N' scope cl fp bv ce) tg g)
  (hE:clausesOf E=gc::gs) (hs:∀x,foldedSetIterable gc.iter X.env x=pure x)
  (hst:∀{R:Result->Shared->Prop} {s:Shared} {it acc:Value} {env:Env},codeAny (model X.prog X.w) X.A (.compLoop E 0 it acc env) R s->wpAny (model X.prog X.w) X.A (pyIter it) (fun it' s'=>codeAny (model X.prog X.w) X.A (.compLoop E 0 it' acc env) R s') (notedBy (model X.prog X.w) X.A env fun x s'=>R (.error x) s') s->codeAny (model X.prog X.w) X.A (.compStart E 0 it acc env) R s)
  (hT:∀(it:Value) (D:Addr) (env:Env),compTurn E 0 it (.ref D) env=(standAt gc.iter.pos>>=fun _=>pyNext it>>=fun r=>match r with
   |none=>pure (.done .next)
   |some v=>letOwnedTupleGo tg it v>>=fun _=>assign tg env v>>=fun _=>rest it D env))
  (hU:∀{it:Value} {D:Addr} {env:Env} {Q:PySem.Fin->Shared->Prop} {Er:Value->Shared->Prop} {s:Shared},wpAny (model X.prog X.w) X.A ((compTurn E 0 it (.ref D) env).onRaise fun x=>do noteFrame x env;theTreesLotGoes x) Q Er s->wpAny (model X.prog X.w) (X.A.under (.compLoop E 0 it (.ref D) env)) ((model X.prog X.w).den (.compLoop E 0 it (.ref D) env)) Q Er s)
  (hsz:sizeOk dt) (hob:∀(H:Hp) (h:Heap),gK X.prog X.w (upd H h.objs.size oH) (h.push {cls:=.type T0,dict:=none,data:=dt}) h.objs.size oH)
  (hm0:∀{am:Mu} {H2:Hp} {p:Addr},bK X.K am H2->H2 p=none->X.K.lookup p=none->(p==sysModules)=false->bK X.K (mk0 am p) (upd H2 p oH)/\Ext X.K am H2 (mk0 am p) (upd H2 p oH))
  (hbd:∀{fp:List Addr} {s3:Shared} {H3:Hp} {pins:List (Addr×Obj)} {s:Shared} {σ:St} {H:Hp} {ρ:Rho} {U:Mu} {p:Addr} {d:PyData} {it:Value} {Qm:Mu->Prop} {Q:Shared->Prop},Inv (aK X N' scope cl fp s3 H3) pins σ H s->St0 X.K H ρ U σ->Kb p d ρ U Qm ->
   (∀s' db H' Z,Inv (aK X N' scope cl fp s3 H3) pins db H' s'->St0 X.K H' ρ Z db->Ext X.K U H Z H'->Qm Z->Q s') ->
   wpAny (model X.prog X.w) X.A (rest it p (aK X N' scope cl fp s3 H3).env) (fun r s'=>r = .again (.compLoop E 0 it (.ref p) (aK X N' scope cl fp s3 H3).env)/\Q s') (fun _ _=>False) s)
  (hte:∀ρ U Qd,te ρ U Qd->src ρ U fun xs am=>∀p,am p=none->am.b p=none->∃P:Nat->Mu->Prop,P 0 (mk0 am p)/\(∀i x Z,xs[i]? = some x->P i Z->g (.v x) (cg cap ρ) Z fun ii bn=>Le (cg cap ρ) ii/\Kb p x ii bn (P (i+1)))/\∀Z,P xs.length Z->fin Qd am p Z)
  (hend:∀{Qd:DK} {σ:St} {ρ:Rho} {p:Addr} {U am ld:Mu} {H H1 Hc:Hp},am p=none->am.b p=none->Ext X.K U H am H1->St0 X.K H1 ρ am σ->Ext X.K am H1 ld Hc->bK X.K ld Hc->fin Qd am p ld->∃d lv,Ext X.K U H lv Hc/\St0 X.K Hc ρ lv σ/\RpD X.K lv Hc d (.ref p)/\Qd d lv) :
  Core X E scope (newObj (.type T0) dt) gc.iter te:=by
 intro pos use QQ pins s σ H ρ U Qd I S h hd0
 obtain⟨wi,pw,li⟩:=hi
 refine wpAny_comprehension_free hE hs hclos hC.kind hC.nms (thn (pw pins s σ H _ I (li σ H ρ U _ (fun J H1=>∃xs am,Ext X.K U H am H1/\St0 X.K H1 ρ am σ/\Nf X.K J xs am H1/\∀p,am p=none->am.b p=none->∃P:Nat->Mu->Prop,P 0 (mk0 am p)/\(∀i x Z,xs[i]? = some x->P i Z->g (.v x) (cg cap ρ) Z fun ii bn=>Le (cg cap ρ) ii/\Kb p x ii bn (P (i+1)))/\∀Z,P xs.length Z->fin Qd am p Z) S (hte _ _ _ h) (fun xs am H1 J e1 S1 it q=>⟨xs,am,e1,S1,it,q⟩)))
  fun v s1 h1=>thn h1 fun itv s2 h2=>?_)
 obtain⟨it,fp,tn,J,H2,rfl,I2,T,st2,f2,xs,am,e1,S1,itok,allp⟩:=h2
 refine wpAny_newObj_type (wpAny_newFunctionEnv hC.cell (by intro y hy;simp at hy) (fun ls ul u8=>?_) hC.kind) hsz
 dsimp only at ul u8 ⊢
 have hfree2:H2 s2.heap.objs.size=none:=I2.hok.fresh (le_refl _)
 have hK2:X.K.lookup s2.heap.objs.size=none:=by
  cases z:X.K.lookup s2.heap.objs.size with
  |none=>rfl
  |some o=>exact absurd (Heap.lt_size (I2.kIn _ _ z)) (lt_irrefl _)
 have I3:Inv X pins σ (upd H2 s2.heap.objs.size oH) {s2 with heap:=s2.heap.push {cls:=.type T0,dict:=none,data:=dt}}:=
  I2.laid (t':=s2.toks) (fun b u e=>Heap.get?_push_of_some _ e) (le_refl _) (hob _ _)
 generalize hH:s2.heap.push {cls:=.type T0,dict:=none,data:=dt} = hp3 at ul u8 I3 ⊢
 have hsz3:hp3.objs.size=s2.heap.objs.size+1:=by rw[<- hH,Heap.size_push]
 have kept3:∀b o,hp3.get? b=some o->ls.get? b=some o:=fun b o e=>u8.extBut b o (ne_of_lt (Heap.lt_size e)) (Heap.get?_push_of_some _ e)
 have old3:∀b o,s2.heap.get? b=some o->hp3.get? b=some o:=fun b o e=>by rw[<- hH];exact Heap.get?_push_of_some _ e
 have fplt:∀b∈fp,b<s2.heap.objs.size:=fun b hb=>by obtain⟨o,e,_⟩:=T.obj 0 _ st2 b hb;exact Heap.lt_size e
 have fpst:∀b∈fp,b ∉ frs X.stack:=fun b hb hz=>by
  rcases List.mem_cons.mp (I2.Cq b hz) with e|e
  ·exact (f2 b hb).2.1 e
  ·exact (f2 b hb).2.2.1 e
 obtain⟨s3,hs3⟩:∃s3:Shared,s3={s2 with heap:=hp3}:=⟨_,rfl⟩
 obtain⟨H3,hH3⟩:∃H3:Hp,H3=upd H2 s2.heap.objs.size oH:=⟨_,rfl⟩
 have heap3:s3.heap=hp3:=by rw[hs3]
 rw[<- hH3] at I3
 have I3':Inv X pins σ H3 s3:=by rw[hs3];exact I3
 have hloc:H3 hp3.objs.size=none:=by have:=I3'.hok.fresh (a:=hp3.objs.size) (by rw[heap3];exact le_refl _);exact this
 have okc:(aK X N' scope cl fp s3 H3).Ok:=by
  refine⟨I3.ok.mod,?_,I3.ok.glob,I3.ok.blt,le_refl _,fun x y a h1 h2=>I3.ok.inj x y a (hC.sub x a h1) (hC.sub y a h2),fun x hx=>hC.has x hx,fun x a h=>(nomatch h),I3.ok.hd,I3.ok.qt,I3.ok.frames,.inl rfl,fun b hb=>⟨?_,fun x a h=>(f2 b hb).2.2.2.2.1 x a (hC.sub x a h)⟩,
   I3'.bs,le_trans I3.ok.bsz I3'.sz,fun b o e hb=>?_,fun b hb=>fpst b hb,I3'.stack,I3'.A3⟩
  ·exact hC.kind
  ·show b≠s3.heap.objs.size
   rw[heap3,hsz3]
   exact ne_of_lt (Nat.lt_succ_of_lt (fplt b hb))
  ·rcases (f2 b hb).2.2.2.1 with z|z
   ·exact I3.ok.Ie b o e z
   ·exact absurd (lt_of_lt_of_le (Heap.lt_size (I3.ok.bs b o e).1) z) (lt_irrefl _)
 have I4:Inv (aK X N' scope cl fp s3 H3) [] (cg cap σ) H3 {s2 with heap:=ls,toks:=s2.toks+([]:List (Str×Value)).length}:=by
  refine⟨okc,by show s2.os=s3.os;rw[hs3],I3.bare,Un.kept (by show ∀b o,s3.heap.get? b=some o->_;rw[heap3];exact kept3),⟨_,(by show ls.Ns s3.heap.objs.size _;rw[heap3];exact ul),fun i x v e1 e2 e3=>?_⟩,fun x a h=>?_,(by show H3 s3.heap.objs.size=none;rw[heap3];exact hloc),fun x a h=>I3.jg x a (hC.sub x a h),fun p hp=>?_,I3.hok.kept kept3,?_⟩
  ·obtain⟨j,h1,h2⟩:=yA e2
   obtain⟨hN,hv,hnl,hk⟩:=hC.cap i j x h1 e1
   obtain⟨m,_,hl⟩:=I3.loc
   obtain⟨u,r,lk⟩:=hl j x v hN h2 hv
   refine⟨u,r,.inr ⟨hk,?_⟩⟩
   obtain⟨a,ha⟩:=hC.has x hk
   rcases lk with ⟨z,_⟩|⟨_,a',z1,z2⟩
   ·exact absurd z hnl
   ·have:a'=a:=by have q:=hC.sub x a ha;rw[z1] at q;exact Option.some.inj q
    subst this
    obtain⟨o,ho,hd⟩:=z2
    exact⟨a',ha,o,kept3 _ _ ho,hd⟩
  ·obtain⟨v,o,ho,hd⟩:=I3.cell x a (hC.sub x a h)
   exact⟨v,o,kept3 _ _ ho,hd⟩
  ·have hp':p∈X.pn++pins:=mem_append_left _ (by simpa using (show p∈X.pn++[] from hp))
   obtain⟨z1,z2,z3,z4,z5⟩:=I3'.pin p hp'
   refine⟨kept3 _ _ (by rw[<- heap3];exact z1),z2,(show p.1≠s3.heap.objs.size from ne_of_lt (Heap.lt_size z1)),fun z=>?_,z5⟩
   rcases List.mem_cons.mp (I3'.Cq p.1 z) with e|e
   ·exact z3 e
   ·exact z4 e
  ·show (cg cap σ).length=N'.length
   unfold cg
   rw[length_map]
   exact hC.len
 have po:am s2.heap.objs.size=none:=S1.mu.free hfree2
 have xz:am.b s2.heap.objs.size=none:=S1.mu.LF hfree2
 obtain⟨P,p0,body,hfin⟩:=allp s2.heap.objs.size po xz
 obtain⟨m0,x0⟩:=hm0 S1.mu hfree2 hK2 (Ko I2)
 have loop:codeAny (model X.prog X.w) X.A (.compLoop E 0 (.ref it) (.ref s2.heap.objs.size) (aK X N' scope cl fp s3 H3).env)
   (compPost (model X.prog X.w) X.A X.xe use QQ (.ref s2.heap.objs.size) hp3.objs.size) {s2 with heap:=ls,toks:=s2.toks+([]:List (Str×Value)).length}:=by
  refine codeAny_loop rfl (fun n s'=>∃(i:Nat) (lf:St) (Hc:Hp) (ld:Mu),n=xs.length-i/\i<=xs.length/\Inv (aK X N' scope cl fp s3 H3) [] lf Hc s'/\tn i s'.heap/\(∀b∈fp,Hc b=none) /\
   P i ld/\St0 X.K Hc (cg cap ρ) ld lf/\Ext X.K am H2 ld Hc) (fun n s' hI=>?_) xs.length
   ⟨0,cg cap σ,H3,mk0 am s2.heap.objs.size,by simp,zero_le _,I4,T.keep 0 _ _ st2 (fun b hb o e=>kept3 b o (old3 b o e)),fun b hb=>?_,p0,?_,?_⟩
  ·obtain⟨i,lf,Hc,ld,rfl,hi,Ic,tc,frc,pvi,Sc,Ec⟩:=hI
   refine hU ?_
   refine wpAny_noted ?_
   rw[hT]
   have stat:∀{Hd:Hp},(∀b∈fp,Hd b=none)->∀b∈fp,x9 (aK X N' scope cl fp s3 H3) [] Hd b:=fun hn b hb=>
    ⟨hn b hb,(okc.exf b hb).1,fpst b hb,.inl hb,fun x a h=>(okc.exf b hb).2 x a h,fun p hp=>(f2 b hb).2.2.2.2.2 p (mem_append_left _ (by simpa using (show p∈X.pn++[] from hp)))⟩
   obtain⟨go,stop⟩:=itok _ Hc Ec Sc.mu i
   refine wpAny_bind (wpAny_standAt (wpAny_bind ?_))
   by_cases hlt:i<xs.length
   ·obtain⟨g1,y1⟩:=go hlt
    refine wpAny_mono (T.item (aK X N' scope cl fp s3 H3) rfl rfl rfl (fun z=>z) i [] s' lf Hc (fun _ _=>False) Ic (stat frc) tc g1) (fun r s4 hr=>?_) fun _ _ h'=>h'.elim
    obtain⟨u,rfl,h4⟩:=hr
    refine wpAny_bind (wpAny_mono h4 (fun _ s5 h5=>?_) fun _ _ h'=>h'.elim)
    obtain⟨x,H5,I5,r5,y5,st5,fr5⟩:=h5
    obtain⟨d,hd,sm,rd⟩:=y1 x H5 y5
    have I5':=I5.pinned (stat fr5) (T.obj _ _ st5)
    have e5:Ext X.K _ Hc _ H5:=.of_same (U:=ld) sm
    have S5:St0 X.K H5 (cg cap ρ) ld lf:=⟨Sc.mu.MY e5 sm,Sc.rho.ext Sc.mu e5⟩
    obtain⟨gt,pg,lg⟩:=hg fp s3 H3
    refine wpAny_bind (wpAny_mono (pg _ s5 lf H5 x u (fun db H'=>∃dL Z,Ext X.K ld H5 Z H'/\St0 X.K H' dL Z db/\Le (cg cap ρ) dL/\Kb s2.heap.objs.size d dL Z (P (i+1))) I5' r5
     (lg lf H5 (cg cap ρ) _ (.v d) x _ _ S5 rd (body i d ld hd pvi) fun db dL Z H' e' S' q=>⟨dL,Z,e',S',q⟩)) (fun _ s6 h6=>?_) fun _ _ h'=>h'.elim)
    obtain⟨ut,H6,I6,Do,wp,e6,S6,le6,q6⟩:=h6
    refine wpAny_mono (hbd (it:=.ref it) (Q:=fun s9=>∃m,m<xs.length-i/\∃(i:Nat) (lf:St) (Hc:Hp) (ld:Mu),m=xs.length-i/\i<=xs.length/\Inv (aK X N' scope cl fp s3 H3) [] lf Hc s9/\tn i s9.heap/\(∀b∈fp,Hc b=none) /\
     P i ld/\St0 X.K Hc (cg cap ρ) ld lf/\Ext X.K am H2 ld Hc) I6 S6 q6 fun s9 Ev H9 wr I9 S9 e9 p9=>?_) (fun r s9 hr=>?_) fun _ _ h'=>h'.elim
    ·refine⟨xs.length-(i+1),∅,i+1,Ev,H9,wr,rfl,hlt,I9.kA,T.keep _ _ _ st5 fun b hb o e=>(I9.pin (b,o) (mem_append_right _ (mem_append_right _ (fE hb e)))).1,fun b hb=>?_,p9,⟨S9.mu,S9.rho.le le6⟩,Ec.trans (e5.trans (e6.trans e9))⟩
     obtain⟨o,e,_⟩:=T.obj _ _ st5 b hb
     exact (I9.pin (b,o) (mem_append_right _ (mem_append_right _ (fE hb e)))).2.1
    ·obtain⟨rfl,q⟩:=hr
     exact⟨rfl,q⟩
   ·have ei:i=xs.length:=by omega
    subst ei
    refine wpAny_mono (T.done (aK X N' scope cl fp s3 H3) rfl rfl rfl (fun z=>z) _ [] s' lf Hc (fun _ _=>False) Ic (stat frc) tc (stop rfl)) (fun r s4 hr=>?_) fun _ _ h'=>h'.elim
    obtain⟨rfl,I5⟩:=hr
    refine wpAny_pure ?_
    obtain⟨m,hn,_⟩:=I5.loc
    have hcC:Hc hp3.objs.size=none:=by have z:Hc s3.heap.objs.size=none:=I5.free;rw[heap3] at z;exact z
    obtain⟨d,lv,eF,SF,rF,qF⟩:=hend po xz e1 S1 Ec Sc.mu (hfin _ pvi)
    refine hd0 s4 Hc hp3.objs.size s2.heap.objs.size m d lv (by have z:s4.heap.Ns s3.heap.objs.size m:=hn;rw[heap3] at z;exact z) (I2.Ls (by rw[hsz3];exact Nat.le_succ _) hcC) (fun h' hs'=>?_) eF SF rF qF
    have kp:∀b o,b<s2.heap.objs.size->s4.heap.get? b=some o->h'.get? b=some o:=fun b o hb e=>hs'.extBut b o (by rw[hsz3];exact ne_of_lt (Nat.lt_succ_of_lt hb)) e
    have hok':HOk X.prog X.w Hc h':=fun b ob e=>by
     refine (I5.hok b ob e).vC (fun cc v hcc q=>hs'.extBut cc v ?_ q) (fun _ q=>q) fun _ _ q=>q
     rintro rfl
     rcases hcc with z|z
     ·rw[<- z,hcC] at e;cases e
     ·rw[hcC] at z;cases z
    have u1:Un (frs X.stack) fp H2 H3 s2.heap s3.heap:=by rw[heap3,hH3];exact Un.laid old3 (le_refl _) hfree2
    have u2:Un (frs X.stack) fp H3 Hc s3.heap s4.heap:=I5.base
    exact I2.FV (ch:=fp) (by show s4.os=s2.os;have z:s4.os=s3.os:=I5.os;rw[z,hs3]) (Un.after (u1.trans u2) kp) hok' I5.bare fun b hb=>⟨(f2 b hb).2.2.2.1,(f2 b hb).2.1,(f2 b hb).2.2.2.2.1,(f2 b hb).2.2.2.2.2⟩
  ·have z:b≠s2.heap.objs.size:=ne_of_lt (fplt b hb)
   rw[hH3,aR z]
   exact (f2 b hb).1
  ·rw[hH3]
   exact⟨m0,(S1.rho.ext S1.mu x0).cap⟩
  ·rw[hH3]
   exact x0
 have envE:(aK X N' scope cl fp s3 H3).env=compEnvC scope cl hp3.objs.size X.env:=by show compEnvC scope cl s3.heap.objs.size X.env=_;rw[heap3]
 rw[envE] at loop
 exact hst loop (T.self X.A 0 _ _ _ (T.keep 0 _ _ st2 (fun b hb o e=>kept3 b o (old3 b o e))) loop)
theorem Aa{X:Cx}{N':List Str}{scope:Scope}{cl:List (Str×Addr)}{cap:List (Option Nat)}
  (h1:∀y∈scope.names,y.2≠.cell:=by decide +kernel) (h2:scope.kind = .function:=by rfl) (h3:∀y∈scope.names,y.2 = .local->scope.names.lookup y.1=some .local:=by decide +kernel)
  (h4:∀x a,cl.lookup x=some a->X.env.cells.lookup x=some a:=by intro _ _ h;first|exact h|exact cl1 h|exact cl2 nofun h|exact cl3 nofun h|exact jb (cZ rfl qE) _ _ h|exact jb (cZ rfl (cZ rfl qE)) _ _ h|exact jb (cZ rfl (cZ rfl (cZ rfl qE))) _ _ h|exact jb (cZ rfl (cZ rfl (cZ rfl (cZ rfl qE)))) _ _ h|exact jb (cZ rfl (cZ rfl (cZ rfl (cZ rfl (cZ rfl qE))))) _ _ h|exact jb qE _ _ h|cases h)
  (h5:∀x,(relabel scope X.env).names.lookup x=some .cell\/(relabel scope X.env).names.lookup x=some .free->∃a,cl.lookup x=some a:=by exact JN rfl) (h6:cap.length=N'.length:=by rfl)
  (h7:∀(i j:Nat) (x:Str),cap[i]? = some (some j)->N'[i]? = some x->X.N[j]? = some x/\Vis X.env.scope x/\X.env.kindOf x≠some .local/\((relabel scope X.env).names.lookup x=some .cell\/(relabel scope X.env).names.lookup x=some .free):=by exact EX (by repeat' first|exact trivial|refine⟨SJ,?_⟩)):CH X N' scope cl cap:=⟨h1,h2,h3,h4,h5,h6,h7⟩
section
variable {X:Cx}{N':List Str}{scope:Scope}{cl:List (Str×Addr)}{iter tg:Expr}{ifs:List Expr}{pos:Pos}{cap:List (Option Nat)}{src:DTI}{g:DTG}{c:DTT}
theorem C9{elt:Expr}{te te0:DTE}{fin:DK->Addr->List PyData->Mu->Prop}(hclos:closureFor scope X.env=pure cl)(hi:DI X tg iter src)(hg:∀fp bv ce,DG (aK X N' scope cl fp bv ce) tg g)(hif:∀fp bv ce,ua (aK X N' scope cl fp bv ce) ifs c)(he:∀fp bv ce,DE (aK X N' scope cl fp bv ce) elt te)
  (hC:CH X N' scope cl cap) (hs:∀x,foldedSetIterable iter X.env x=pure x)
  (hte0:∀ρ U Qd,te0 ρ U Qd->src ρ U fun xs am=>xs.length<=1000/\∀p,am p=none->∃Pv:Nat->List PyData->Mu->Prop,Pv 0 [] (aQ am p []) /\
   (∀i x acc Z,xs[i]? = some x->Z p=some acc->Pv i acc Z->g (.v x) (cg cap ρ) Z fun ii bn=>Le (cg cap ρ) ii/\c ii bn fun b dl=>
    if b=true then te ii dl fun d im=>im p=some acc/\(match d with|.v y=>Pv (i+1) (acc++[y]) (aQ im p (acc++[y]))|_=>False) else dl p=some acc/\Pv (i+1) acc dl) /\
   (∀acc Z,Pv xs.length acc Z->Z p=some acc->fin Qd p acc Z))
  (hend:∀{Qd:DK} {σ:St} {ρ:Rho} {p:Addr} {acc:List PyData} {U am ld:Mu} {H H1 Hc:Hp},am p=none->Ext X.K U H am H1->St0 X.K H1 ρ am σ->Ext X.K am H1 ld Hc->bK X.K ld Hc->ld p=some acc->fin Qd p acc ld->∃d lv,Ext X.K U H lv Hc/\St0 X.K Hc ρ lv σ/\RpD X.K lv Hc d (.ref p)/\Qd d lv) :
  Core X (.ListComp elt [⟨tg,iter,ifs,0⟩] scope pos) scope (newList []) iter te0:=by
 refine Fx (gc:=⟨tg,iter,ifs,0⟩) (oH:=.lst []) (mk0:=fun U p=>aQ U p [])
  (Kb:=fun p _ ρ U R=>upT c ρ U fun b dl=>if b=true then upE te ρ dl fun d im=>∃acc y,im p=some acc/\acc.length<=1000/\d = .v y/\R (aQ im p (acc++[y])) else R dl)
  (fin:=fun Qd _ p Z=>∃acc,Z p=some acc/\fin Qd p acc Z)
  hclos hC (Cy hi) (fun a b c=>Hh (hg a b c)) rfl hs codeAny_compStart_list (fun it D env=>compTurn_list elt tg iter ifs scope pos it (.ref D) env) (fun h=>h) (zero_le _) (fun H h=>⟨zero_le _,[],0,.nil,Heap.get?_push_size _ rfl⟩)
  (fun m f k _=>⟨m.mut .nil f k,rD m f k⟩) ?_ ?_ (fun h1 _ e1 S1 Ec Sc hF=>let ⟨_,hp,q⟩:=hF;hend h1 e1 S1 Ec Sc hp q)
 ·intro fp s3 H3 pins s σ H ρ U p d it Qm Q I S q k
  refine wpAny_bind (wpAny_mono (Cb (hif fp s3 H3) pins s σ H ρ U _ (fun b H'=>∃Z,Ext X.K U H Z H'/\St0 X.K H' ρ Z σ/\if b=true then upE te ρ Z fun d im=>∃acc y,im p=some acc/\acc.length<=1000/\d = .v y/\Qm (aQ im p (acc++[y])) else Qm Z) I S q fun b Z H' e' S' q=>⟨Z,e',S',q⟩)
   (fun ok s7 h7=>?_) fun _ _ h'=>h'.elim)
  obtain⟨H7,I7,ww,e7,S7,q7⟩:=h7
  cases ok with
  |false=>
   rw[if_neg ⋯] at q7
   exact wpAny_pure ⟨rfl,k _ _ _ _ I7 S7 e7 q7⟩
  |true=>
   rw[if_pos rfl] at q7
   refine wpAny_bind (wpAny_bind (wpAny_mono ((FU (he fp s3 H3)).use I7 S7 q7) (fun v s8 h8=>?_) fun _ _ h'=>h'.elim))
   obtain⟨d',v8,wf,H8,I8,r8,e8,S8,ry,acc,y,pa,hle,rfl,q8⟩:=h8
   obtain⟨us,hacc,rus⟩:=S8.mu.lst p _ pa
   refine wpAny_bind (wpAny_mono (tH (X:=aK X N' scope cl fp s3 H3) _ s8 σ H8 (.ref p) [v8] (.ref p) [v] (fun _ H'=>H'=upd H8 p (.lst (us++[v8]))) I8 rfl (.cons r8 .nil) ⟨_,us,v8,rfl,rfl,hacc,by rw[<- rus.length];exact fS hle,rfl⟩) (fun _ s9 h9=>?_) fun _ _ h'=>h'.elim)
   obtain⟨_,H9,I9,_,e9⟩:=h9
   subst e9
   have ex:Ext X.K wf H8 (aQ wf p (acc++[y])) (upd H8 p (.lst (us++[v8]))):=iY pa
   exact wpAny_pure (wpAny_pure ⟨rfl,k _ _ _ _ I9 ⟨S8.mu.set pa (rus.append (.cons ry .nil)),S8.rho.ext S8.mu ex⟩ (e7.trans (e8.trans ex)) q8⟩)
 ·intro ρ U Qd h
  refine⟨_,hte0 _ _ _ h,fun xs am hx p hp _=>?_⟩
  obtain⟨hl,f⟩:=hx
  obtain⟨Pv,p0,body,fin⟩:=f p hp
  refine⟨fun i Z=>∃acc,Z p=some acc/\acc.length<=i/\Pv i acc Z,⟨[],aX,le_refl _,p0⟩,fun i x Z hx hP=>?_,fun Z hP=>?_⟩
  ·obtain⟨acc,e,l,v⟩:=hP
   have li:i<xs.length:=(List.getElem?_eq_some_iff.mp hx).1
   refine⟨_,body i x acc Z hx e v,fun ii bn hq=>⟨hq.1,_,hq.2,fun b dl r=>?_⟩⟩
   cases b with
   |false=>
    rw[if_neg ⋯] at r ⊢
    exact⟨acc,r.1,Nat.le_succ_of_le l,r.2⟩
   |true=>
    rw[if_pos rfl] at r ⊢
    refine⟨_,r,fun d im hm=>?_⟩
    obtain⟨e4,m⟩:=hm
    split at m
    ·exact⟨acc,_,e4,∅,rfl,_,aX,by rw[length_append];exact Nat.succ_le_succ l,m⟩
    ·exact m.elim
  ·obtain⟨acc,e,_,v⟩:=hP
   exact⟨acc,e,fin acc Z v e⟩
theorem zR{elt:Expr}{te:DTE}(hclos:closureFor scope X.env=pure cl)(hi:DI X tg iter src)(hg:∀fp bv ce,DG (aK X N' scope cl fp bv ce) tg g)(hif:∀fp bv ce,ua (aK X N' scope cl fp bv ce) ifs c)(he:∀fp bv ce,DE (aK X N' scope cl fp bv ce) elt te)
  (hC:CH X N' scope cl cap) (hs:∀x,foldedSetIterable iter X.env x=pure x):Core X (.ListComp elt [⟨tg,iter,ifs,0⟩] scope pos) scope (newList []) iter (gS cap src g c te):=by
 refine C9 (fin:=fun Qd p acc Z=>Qd (.v (.list acc)) (kJ Z p)) hclos hi hg hif he hC hs (fun _ _ _ h=>h) ?_
 intro Qd σ ρ p acc U am ld H H1 Hc po e1 S1 Ec Sc hpa q
 obtain⟨us,hacc,rus⟩:=Sc.lst p _ hpa
 have shr:∀a,ld a=none->kJ ld p a=none:=fun a e=>by
  by_cases z:a=p
  ·rw[z];exact gP
  ·rw[fj z];exact e
 have dne:∀a ds,kJ ld p a=some ds->ld a=some ds:=fun a ds e=>by
  by_cases z:a=p
  ·rw[z,gP] at e;cases e
  ·rw[fj z] at e;exact e
 have eF:Ext X.K am H1 (kJ ld p) Hc:=by
  refine⟨Ec.keep,Ec.tb,fun b ds q=>?_,fun b q z=>shr b (Ec.fresh b q z),Ec.st,fun b c q=>Ec.bx b c q⟩
  obtain⟨es,q2⟩:=Ec.dom b ds q
  have:b≠p:=fun z=>by rw[z,po] at q;cases q
  exact⟨es,by rw[fj this];exact q2⟩
 have mF:bK X.K (kJ ld p) Hc:=⟨fun a ds q=>by
  obtain⟨ys,z1,z2⟩:=Sc.lst a ds (dne a ds q)
  exact⟨ys,z1,z2.shrink shr⟩,Sc.tab,fun a c q=>let ⟨z,o,w1,w2⟩:=Sc.box a c q;⟨z,o,w1,w2.shrink shr⟩⟩
 exact⟨.v (.list acc),_,e1.trans eF,⟨mF,S1.rho.ext S1.mu eF⟩,Rp.list hacc gP (rus.shrink shr),q⟩
theorem ET{elt:Expr}{te:DTE}(hclos:closureFor scope X.env=pure cl)(hi:DI X tg iter src)(hg:∀fp bv ce,DG (aK X N' scope cl fp bv ce) tg g)(hif:∀fp bv ce,ua (aK X N' scope cl fp bv ce) ifs c)(he:∀fp bv ce,DE (aK X N' scope cl fp bv ce) elt te)
  (hC:CH X N' scope cl cap) (hs:∀x,foldedSetIterable iter X.env x=pure x):Core X (.ListComp elt [⟨tg,iter,ifs,0⟩] scope pos) scope (newList []) iter (BY cap src g c te):=
 C9 (fin:=fun Qd p acc Z=>Qd (.m p) Z) hclos hi hg hif he hC hs (fun _ _ _ h=>h) fun {_ _ _ p acc _ _ _ _ _ _} _ e1 S1 Ec Sc hp q=>⟨.m p,_,e1.trans Ec,⟨Sc,S1.rho.ext S1.mu Ec⟩,⟨rfl,acc,hp⟩,q⟩
theorem HU{kx vx:Expr}{tk tv:DTE}(hclos:closureFor scope X.env=pure cl)(hu:X.A.units+64<cLine)(hi:DI X tg iter src)(hg:∀fp bv ce,DG (aK X N' scope cl fp bv ce) tg g)(hif:∀fp bv ce,ua (aK X N' scope cl fp bv ce) ifs c)(hkx:∀fp bv ce,DE (aK X N' scope cl fp bv ce) kx tk)(hvx:∀fp bv ce,DE (aK X N' scope cl fp bv ce) vx tv)
  (hC:CH X N' scope cl cap) (hs:∀x,foldedSetIterable iter X.env x=pure x):Core X (.DictComp kx vx [⟨tg,iter,ifs,0⟩] scope pos) scope newDict iter (xM cap src g c tk tv):=by
 refine Fx (gc:=⟨tg,iter,ifs,0⟩) (oH:=.raw {cls:=.type "dict",dict:=none,data:=.dict #[]}) (mk0:=fun U p=>ck U p (.dict []))
  (Kb:=fun p _ ρ U R=>upT c ρ U fun b dl=>if b=true then upE tk ρ dl fun dk im=>upE tv ρ im fun dv jp=>∃kvs kk y,jp.b p=some (.dict kvs)/\kvs.length<=1000/\tN dk=some kk/\dv = .v y/\R (ck jp p (.dict (mY kvs kk y))) else R dl)
  (fin:=fun Qd _ p Z=>(∃c,Z.b p=some c)/\Qd (.b p) Z)
  hclos hC (Cy hi) (fun a b c=>Hh (hg a b c)) rfl hs codeAny_compStart_dict (fun it D env=>compTurn_dict kx vx tg iter ifs scope pos it D env) (fun h=>h) (zero_le _) (fun H h=>Heap.get?_push_size _ rfl)
  (fun m f _ z=>⟨m.Kx z f (HE rfl),pY m f⟩) ?_ ?_ (fun {_ _ _ p _ _ _ _ _ _} _ _ e1 S1 Ec Sc hF=>⟨.b p,_,e1.trans Ec,⟨Sc,S1.rho.ext S1.mu Ec⟩,⟨rfl,hF.1⟩,hF.2⟩)
 ·intro fp s3 H3 pins s σ H ρ U p d it Qm Q I S q k
  refine wpAny_bind (wpAny_mono (Cb (hif fp s3 H3) pins s σ H ρ U _ (fun b H'=>∃Z,Ext X.K U H Z H'/\St0 X.K H' ρ Z σ/\if b=true then upE tk ρ Z fun dk im=>upE tv ρ im fun dv jp=>∃kvs kk y,jp.b p=some (.dict kvs)/\kvs.length<=1000/\tN dk=some kk/\dv = .v y/\Qm (ck jp p (.dict (mY kvs kk y))) else Qm Z) I S q fun b Z H' e' S' q=>⟨Z,e',S',q⟩)
   (fun ok s7 h7=>?_) fun _ _ h'=>h'.elim)
  obtain⟨H7,I7,ww,e7,S7,q7⟩:=h7
  cases ok with
  |false=>
   rw[if_neg ⋯] at q7
   exact wpAny_pure ⟨rfl,k _ _ _ _ I7 S7 e7 q7⟩
  |true=>
   rw[if_pos rfl] at q7
   refine wpAny_bind (wpAny_bind (wpAny_mono ((FU (hkx fp s3 H3)).use I7 S7 q7) (fun v s8 h8=>?_) fun _ _ h'=>h'.elim))
   obtain⟨dk,uk,wf,H8,I8,rk,e8,S8,rdk,q9⟩:=h8
   refine wpAny_bind (wpAny_holding (wpAny_mono ((FU (hvx fp s3 H3)).use I8 S8 q9) (fun v' s9 h9=>?_) fun _ _ h'=>h'.elim))
   obtain⟨dv,uv,wr,H9,I9,rv,e9,S9,rdv,kvs,kk,y,hb0,hle,hk,ev,q10⟩:=h9
   subst ev
   obtain⟨qk,rfl,hq8⟩:=vH rdk hk
   have hq:SqT X.K H9 qk (kk.map V.int):=mf S8.mu e9 hq8
   cases rk
   obtain⟨ns,ob,hr,hb⟩:=S9.mu.box p _ hb0
   obtain⟨es,dp,dd,len⟩:=vW I9 hr hb
   refine wpAny_bind (wpAny_standAt (wpAny_holding (wpAny_mono (wpAny_dictSet_heap (hsz:=len) (show X.A.units<cLine by omega) (j8 I9 hq) dd (Q:=fun _ s'=>Q s') fun h' dd' sb=>?_) (fun _ s' h=>wpAny_pure ⟨rfl,h⟩) fun _ _ h'=>h')))
   have hl:(mY kvs kk y).length<=sizeLine:=by
    have h1:=CG kvs kk y
    rw[sizeLine_eq];omega
   obtain⟨o',g1,g2⟩:=HF (X:=X) (U:=wr) (H:=H9) hl (dp.put hq rdv rv) dd'
   have exx:=AE (K:=X.K) (U:=wr) (c:=.dict (mY kvs kk y)) (o':=o') hr
   exact k _ _ _ _ (GK (ob:=.raw o') I9 (by rw[hr];exact True.intro) sb ⟨o',g1⟩ g1) ⟨S9.mu.LP ns hr g2,S9.rho.ext S9.mu exx⟩ (e7.trans (e8.trans (e9.trans exx))) q10
 ·intro ρ U Qd h
  refine⟨_,h,fun xs am hx p _ hp=>?_⟩
  obtain⟨hl,f,body,fin⟩:=hx
  have ll:∀i,(putAll ((xs.take i).filterMap f)).length<=1000:=fun i=>le_trans (EK _) (le_trans (List.length_filterMap_le _ _) (le_trans (by rw[length_take];exact Nat.min_le_right _ _) hl))
  refine⟨fun i Z=>Z=ck am p (.dict (putAll ((xs.take i).filterMap f))),rfl,fun i x Z hx hP=>?_,fun Z hP=>?_⟩
  ·subst hP
   refine⟨_,body x (mem_of_getElem? hx) _ (fun a ds e=>e),fun ii bn hq=>⟨hq.1,_,hq.2,fun b dl r=>?_⟩⟩
   cases b with
   |false=>
    rw[if_neg ⋯] at r ⊢
    show _=ck _ _ _
    rw[r.1,Dm hx,r.2]
    simp
   |true=>
    rw[if_pos rfl] at r ⊢
    refine⟨_,r,fun dk im hm=>⟨_,hm,fun dv jp hv=>?_⟩⟩
    obtain⟨rfl,kk,y,hk,ev,fy⟩:=hv
    refine⟨_,kk,y,bR,ll i,hk,ev,?_⟩
    show ck _ _ _=ck _ _ _
    rw[Dm hx,fy]
    show ck _ _ _=ck _ _ (.dict (putAll (_++[(kk,y)])))
    rw[putAll_snoc,IF]
  ·subst hP
   rw[take_length]
   exact⟨⟨_,bR⟩,fin p hp⟩
end
theorem Ju{X:Cx}{N':List Str}{scope:Scope}{cl:List (Str×Addr)}{elt iter tg tg2 iter2:Expr}{pos:Pos}{cap:List (Option Nat)}{src src2:DTI}{g g2:DTG}{te:DTE}(hclos:closureFor scope X.env=pure cl)
  (hi:DI X tg iter src) (hg:∀fp bv ce,DG (aK X N' scope cl fp bv ce) tg g) (hi2:∀fp bv ce,DI (aK X N' scope cl fp bv ce) tg2 iter2 src2) (hg2:∀fp bv ce,DG (aK X N' scope cl fp bv ce) tg2 g2) (he:∀fp bv ce,DE (aK X N' scope cl fp bv ce) elt te)
  (hC:CH X N' scope cl cap) (hs:∀x,foldedSetIterable iter X.env x=pure x) (hs2:∀(env:Env) x,foldedSetIterable iter2 env x=pure x):Core X (two elt tg iter tg2 iter2 scope pos) scope (newList []) iter (wj cap src g src2 g2 te):=by
 refine Fx (gc:=⟨tg,iter,[],0⟩) (oH:=.lst []) (mk0:=fun U p=>aQ U p [])
  (Kb:=fun p _ ρ U R=>∃acc zs,U p=some acc/\acc.length+zs.length<=1000/\(upI src2 ρ U fun ys dl=>dl=U/\∃h:PyData->PyData,zs=ys.map h/\∀y∈ys,∀kw:Mu,(∀a ds,a≠p->U a=some ds->kw a=some ds)->g2 (.v y) ρ kw fun pd im=>Le ρ pd/\te pd im fun d jp=>jp=kw/\d = .v (h y))/\R (aQ U p (acc++zs)))
  (fin:=fun Qd am p Z=>∃acc,Z=aQ am p acc/\Qd (.v (.list acc)) am)
  hclos hC (Cy hi) (fun a b c=>Hh (hg a b c)) rfl hs codeAny_compStart_list (fun it D env=>zh elt tg iter tg2 iter2 scope pos it (.ref D) env) (fun h=>h) (zero_le _) (fun H h=>⟨zero_le _,[],0,.nil,Heap.get?_push_size _ rfl⟩)
  (fun m f k _=>⟨m.mut .nil f k,rD m f k⟩) ?_ ?_ ?_
 ·intro fp s3 H3 pins s σ H ρ U p d it Qm Q I S q k
  obtain⟨acc,zs,hp,hl,q1,q2⟩:=q
  refine wpAny_bind (wpAny_mono (II (Cy (hi2 fp s3 H3)) (hg2 fp s3 H3) (he fp s3 H3) I S hp hl q1) (fun x s4 h4=>wpAny_bind (wpAny_standAt (wpAny_bind (wpAny_of_eq (hs2 _ x) (wpAny_bind (wpAny_holding (wpAny_mono h4 (fun it2 s5 h5=>wpAny_bind (wpAny_runOwn (codeAny_mono h5 fun r s6 h6=>?_))) fun _ _ h'=>h'.elim))))))) fun _ _ h'=>h'.elim)
  obtain⟨f,rfl,ut,H6,I6,S6,e6⟩:=h6
  exact wpAny_pure ⟨rfl,k _ _ _ _ I6 S6 e6 q2⟩
 ·intro ρ U Qd h
  refine⟨_,h,fun xs am hx p hp _=>?_⟩
  obtain⟨hl,f,hfl,body,fin⟩:=hx
  have sub1:∀ys a ds,am a=some ds->aQ am p ys a=some ds:=fun ys a ds e=>by rw[aV (fun z=>by rw[z,hp] at e;cases e)];exact e
  refine⟨fun i Z=>Z=aQ am p ((xs.take i).flatMap f),rfl,fun i x Z hx hP=>?_,fun Z hP=>?_⟩
  ·subst hP
   refine⟨_,body x (mem_of_getElem? hx) _ (sub1 _),fun ii bn hq=>?_⟩
   obtain⟨le,rfl,q⟩:=hq
   have et:(xs.take (i+1)).flatMap f=(xs.take i).flatMap f++f x:=by
    obtain⟨hi',e⟩:=List.getElem?_eq_some_iff.mp hx
    rw[List.take_succ_eq_append_getElem hi',flatMap_append,e]
    simp
   refine⟨le,_,f x,aX,?_,⟨_,q,fun ys dl hy=>?_⟩,by show aQ _ _ _=aQ _ _ _;rw[fO,et]⟩
   ·have h1:((xs.take (i+1)).flatMap f).length<=(xs.flatMap f).length:=by
     have:xs.flatMap f=(xs.take (i+1)).flatMap f++(xs.drop (i+1)).flatMap f:=by rw[<- flatMap_append,List.take_append_drop]
     rw[this,length_append]
     omega
    rw[et,length_append] at h1
    omega
   ·obtain⟨z1,h,z2,z3⟩:=hy
    refine⟨z1,h,z2,fun y hy kw sb=>z3 y hy kw fun a ds e=>?_⟩
    have ne:a≠p:=fun z=>by rw[z,hp] at e;cases e
    exact sb a ds ne (by rw[aV ne];exact e)
  ·subst hP
   rw[take_length]
   exact⟨_,rfl,fin⟩
 ·intro Qd σ ρ p U am ld H H1 Hc po _ e1 S1 Ec Sc hF
  obtain⟨acc,rfl,q⟩:=hF
  obtain⟨us,hacc,rus⟩:=Sc.lst p _ aX
  have shr:∀a,aQ am p acc a=none->am a=none:=fun a e=>by
   by_cases z:a=p
   ·rw[z];exact po
   ·rw[aV z] at e;exact e
  have eF:Ext X.K am H1 am Hc:=by
   refine⟨Ec.keep,Ec.tb,fun b ds q=>⟨ds,q⟩,fun b q z=>q,Ec.st,fun b c q=>Ec.bx b c q⟩
  have mF:bK X.K am Hc:=⟨fun a ds q=>by
   obtain⟨ys,z1,z2⟩:=Sc.lst a ds (by rw[aV (fun z=>by rw[z,po] at q;cases q)];exact q)
   exact⟨ys,z1,z2.shrink shr⟩,Sc.tab,fun a c q=>let ⟨z,o,w1,w2⟩:=Sc.box a c q;⟨z,o,w1,w2.shrink shr⟩⟩
  exact⟨.v (.list acc),_,e1.trans eF,⟨mF,S1.rho.ext S1.mu eF⟩,Rp.list hacc po (rus.shrink shr),q⟩
section
variable {X:Cx}{N':List Str}{scope:Scope}{cl:List (Str×Addr)}{iter tg:Expr}{ifs:List Expr}{pos:Pos}{cap:List (Option Nat)}{src:DTI}{g:DTG}{c:DTT}
theorem JA{elt:Expr}{te:DTE}(hclos:closureFor scope X.env=pure cl)(hi:DI X tg iter src)(hg:∀fp bv ce,DG (aK X N' scope cl fp bv ce) tg g)(hif:∀fp bv ce,ua (aK X N' scope cl fp bv ce) ifs c)(he:∀fp bv ce,DE (aK X N' scope cl fp bv ce) elt te)
  (hC:CH X N' scope cl cap:=by exact Aa) (hs:∀x,foldedSetIterable iter X.env x=pure x:=by intro _;rfl):DE X (.ListComp elt [⟨tg,iter,ifs,0⟩] scope pos) (gS cap src g c te):=Gg (zR hclos hi hg hif he hC hs) (eval_ListComp _ _ _ _)
theorem KC{elt:Expr}{te:DTE}(hclos:closureFor scope X.env=pure cl)(hi:DI X tg iter src)(hg:∀fp bv ce,DG (aK X N' scope cl fp bv ce) tg g)(hif:∀fp bv ce,ua (aK X N' scope cl fp bv ce) ifs c)(he:∀fp bv ce,DE (aK X N' scope cl fp bv ce) elt te)
  (hC:CH X N' scope cl cap:=by exact Aa) (hs:∀x,foldedSetIterable iter X.env x=pure x:=by intro _;rfl):DE X (.ListComp elt [⟨tg,iter,ifs,0⟩] scope pos) (Ad cap src g c te):=
 R8 (JA hclos (Cy hi) (fun a b c=>Hh (hg a b c)) (fun a b c=>Cb (hif a b c)) (fun a b c=>FU (he a b c)) hC hs) fun _ _ _=>Ia
theorem FT{i:Nat}{x:Str}{pos' spos:Pos}{elt:Expr}{te:DTE}(hN:X.N.Nodup)(hix:X.N[i]? = some x)(hx:X.env.scope.names.lookup x=some .local)(hclos:closureFor scope X.env=pure cl)(hi:DI X tg iter src)(hg:∀fp bv ce,DG (aK X N' scope cl fp bv ce) tg g)(hif:∀fp bv ce,ua (aK X N' scope cl fp bv ce) ifs c)(he:∀fp bv ce,DE (aK X N' scope cl fp bv ce) elt te)
  (hC:CH X N' scope cl cap:=by exact Aa) (hs:∀x,foldedSetIterable iter X.env x=pure x:=by intro _;rfl) (hsw:swapsWith (.ListComp elt [⟨tg,iter,ifs,0⟩] scope pos) (some (.Name x pos')) spos.line X.env=pure true:=by rfl):DS X (.Assign [.Name x pos'] (.ListComp elt [⟨tg,iter,ifs,0⟩] scope pos) spos) (br (gS cap src g c te) (ar i)):=
 BN (zR hclos hi hg hif he hC hs) hN hix hx hsw rfl
theorem R7{i:Nat}{x:Str}{pos' spos:Pos}{elt:Expr}{te:DTE}(hN:X.N.Nodup)(hix:X.N[i]? = some x)(hx:X.env.scope.names.lookup x=some .local)(hclos:closureFor scope X.env=pure cl)(hi:DI X tg iter src)(hg:∀fp bv ce,DG (aK X N' scope cl fp bv ce) tg g)(hif:∀fp bv ce,ua (aK X N' scope cl fp bv ce) ifs c)(he:∀fp bv ce,DE (aK X N' scope cl fp bv ce) elt te)
  (hC:CH X N' scope cl cap:=by exact Aa) (hs:∀x,foldedSetIterable iter X.env x=pure x:=by intro _;rfl) (hsw:swapsWith (.ListComp elt [⟨tg,iter,ifs,0⟩] scope pos) (some (.Name x pos')) spos.line X.env=pure true:=by rfl):DS X (.Assign [.Name x pos'] (.ListComp elt [⟨tg,iter,ifs,0⟩] scope pos) spos) (br (BY cap src g c te) (ar i)):=
 BN (ET hclos hi hg hif he hC hs) hN hix hx hsw rfl
theorem N2{i:Nat}{x:Str}{pos' spos:Pos}{kx vx:Expr}{tk tv:DTE}(hN:X.N.Nodup)(hix:X.N[i]? = some x)(hx:X.env.scope.names.lookup x=some .local)(hclos:closureFor scope X.env=pure cl)(hu:X.A.units+64<cLine)(hi:DI X tg iter src)(hg:∀fp bv ce,DG (aK X N' scope cl fp bv ce) tg g)(hif:∀fp bv ce,ua (aK X N' scope cl fp bv ce) ifs c)(hkx:∀fp bv ce,DE (aK X N' scope cl fp bv ce) kx tk)(hvx:∀fp bv ce,DE (aK X N' scope cl fp bv ce) vx tv)
  (hC:CH X N' scope cl cap:=by exact Aa) (hs:∀x,foldedSetIterable iter X.env x=pure x:=by intro _;rfl) (hsw:swapsWith (.DictComp kx vx [⟨tg,iter,ifs,0⟩] scope pos) (some (.Name x pos')) spos.line X.env=pure true:=by rfl):DS X (.Assign [.Name x pos'] (.DictComp kx vx [⟨tg,iter,ifs,0⟩] scope pos) spos) (br (xM cap src g c tk tv) (ar i)):=
 BN (HU hclos hu hi hg hif hkx hvx hC hs) hN hix hx hsw rfl
theorem NS{elt tg2 iter2:Expr}{src2:DTI}{g2:DTG}{te:DTE}(hclos:closureFor scope X.env=pure cl)(hi:DI X tg iter src)(hg:∀fp bv ce,DG (aK X N' scope cl fp bv ce) tg g)(hi2:∀fp bv ce,DI (aK X N' scope cl fp bv ce) tg2 iter2 src2)(hg2:∀fp bv ce,DG (aK X N' scope cl fp bv ce) tg2 g2)(he:∀fp bv ce,DE (aK X N' scope cl fp bv ce) elt te)
  (hC:CH X N' scope cl cap:=by exact Aa) (hs:∀x,foldedSetIterable iter X.env x=pure x:=by intro _;rfl) (hs2:∀(env:Env) x,foldedSetIterable iter2 env x=pure x:=by intro _ _;rfl):DE X (two elt tg iter tg2 iter2 scope pos) (wj cap src g src2 g2 te):=
 Gg (Ju hclos hi hg hi2 hg2 he hC hs hs2) (eval_ListComp _ _ _ _)
end
open PySem PySem.Spec PyProof.Rows NM
section
variable {U:Mu}{Q:DK}{ds:List D}{x y:N3}
theorem KO(a b c:Int):PyData.tuple [.int a,.int b,.int c]=dN ⟨a,b,c⟩:=rfl
theorem EO:aN (.v (dN x)) (.v (.int 0)) U Q=Q (.v (.int x.a)) U:=by unfold dN;rw[wc]
theorem FC:aN (.v (dN x)) (.v (.int 1)) U Q=Q (.v (.int x.b)) U:=by unfold dN;rw[xb]
theorem Fe:aN (.v (dN x)) (.v (.int 2)) U Q=Q (.v (.int x.c)) U:=by unfold dN;rw[wQ]
theorem eqN:PyData.eqv (dN x) (dN y)=decide (x=y):=by
 unfold dN
 rw[Sv,Bool.eq_iff_iff]
 simp only[decide_eq_true_eq]
 exact⟨fun h=>N3.ext' h.1 h.2.1 h.2.2,fun h=>by subst h;exact⟨rfl,rfl,rfl⟩⟩
theorem Ek{neg:Bool}:dP neg (.v (dN x)) (.v (dN y)) U Q=Q (.v (.bool (neg ^^ decide (x=y)))) U:=by
 rw[Oc,eqN]
 exact propext ⟨fun h=>h.2.2,fun h=>⟨rfl,rfl,h⟩⟩
theorem sj(h:Ok x):isNum (dN x)=true:=by
 have:=h.c
 show (decide (1<=x.c)&&(g3 x.a x.b x.c==1))=true
 rw[h.g]
 simp;omega
theorem NX:Few (dN x):=by simp[dN,Few]
noncomputable def Num(n:Nat)(d:PyData):Prop:=∃x,d=dN x/\Ok x/\Bd n x
theorem EC{d a b c:Int}(h:ay d)(hc:0<c):sg d (low a b c).a (low a b c).b=sg d a b:=by
 obtain⟨k,hk,hs,p1,p2,p3,_⟩:=jD a b (show c≠0 by omega)
 have e:=kG (a:=(low a b c).a) (b:=(low a b c).b) h (hs.mpr hc)
 rw[<- p1,<- p2] at e
 exact e.symm
theorem nP{d:Int}(h:ay d)(ox:Ok x)(oy:Ok y):sg d (times d x y).a (times d x y).b=sg d x.a x.b*sg d y.a y.b:=by
 unfold times
 rw[EC h (mul_pos ox.c oy.c),EN h]
theorem ie{d:Int}(h:ay d)(ox:Ok x)(oy:Ok y):sg d (less x y).a (less x y).b=dif d x y:=by
 unfold less dif
 rw[EC h (mul_pos ox.c oy.c)]
theorem wM{lo:Int}{n i:Nat}{x:PyData}(h:(lJ lo n)[i]? = some x):x = .int (lo+i)/\i<n:=by
 unfold lJ at h
 rw[getElem?_map] at h
 by_cases hi:i<n
 ·rw[List.getElem?_range hi] at h
  cases h
  exact⟨rfl,hi⟩
 ·rw[getElem?_eq_none (by simpa using hi)] at h
  cases h
theorem nL{lo:Int}{n:Nat}:(lJ lo n).length=n:=by unfold lJ;simp
end
end L2.DL
namespace NM
noncomputable abbrev T3:=Nat×Nat×Nat
noncomputable def Mx(β:Bool)(c i j s:Nat):List T3:=(List.range c).map fun k=>if β=true then (i+k*s,j,s) else (i,j+k*s,s)
noncomputable def K4:List Nat->Bool->Nat->Nat->Nat->Nat->List T3
 |[],_,_,_,_,_=>[]
 |c::cs,true,i,j,a,b=>Mx true c i j b++K4 cs false (i+c*b) j (a-c*b) b
 |c::cs,false,i,j,a,b=>Mx false c i j a++K4 cs true i (j+c*a) a (b-c*a)
theorem Hl{β:Bool}{c i j s:Nat}:(Mx β c i j s).length=c:=by unfold Mx;simp
theorem oU:∀(cs:List Nat) (β:Bool) (i j a b:Nat),(K4 cs β i j a b).length=cs.sum
 |[],_,_,_,_,_=>rfl
 |c::cs,true,i,j,a,b=>by rw[K4];rw[length_append,Hl,oU cs,sum_cons]
 |c::cs,false,i,j,a,b=>by rw[K4];rw[length_append,Hl,oU cs,sum_cons]
noncomputable def Uq(d:Int)(u:N3)(i:Nat):N3:=times d u ⟨(i:Int),0,1⟩
section
variable {d:Int}{u:N3}{i j:Nat}
theorem xD(i:Int):Ok ⟨i,0,1⟩:=⟨by show (0:Int)<1;decide,by show Int.gcd (Int.gcd i 0) 1=1;exact Int.gcd_one_right _⟩
theorem fM(ou:Ok u):Ok (Uq d u i):=aM ou (xD i)
theorem NR{n m:Nat}(hd:Sz 5 d)(ou:Ok u)(bu:Bd n u)(hi:i<2 ^ m)(hm:1<=m):Bd (n+m+6) (Uq d u i):=by
 have p:2<=2 ^ m:=le_trans (by decide:2<=2 ^ 1) (Nat.pow_le_pow_right ⋯ hm)
 exact bD hd ou (xD i) bu ⟨Sz.of (by show (i:Int).natAbs<_;rw[Int.natAbs_natCast];exact hi),Sz.of (by show (0:Int).natAbs<_;simp;omega),Sz.of (by show (1:Int).natAbs<_;simp;omega)⟩
theorem Bh(ou:Ok u):Rep (Uq d u i) (u.a*i) (u.b*i) u.c:=by
 have h:=(aD ou).times (d:=d) ou (xD i) (aD (xD i))
 have e1:u.a*(i:Int)+d*u.b*0=u.a*i:=by rw[mul_zero,Int.add_zero]
 have e2:u.a*0+u.b*(i:Int)=u.b*i:=by rw[mul_zero,Int.zero_add]
 have h':Rep (Uq d u i) (u.a*(i:Int)+d*u.b*0) (u.a*0+u.b*(i:Int)) (u.c*1):=h
 rw[e1,e2,mul_one] at h'
 exact h'
theorem BH(ou:Ok u)(h:j<=i):less (Uq d u i) (Uq d u j)=Uq d u (i-j):=
 Rep.eq (dF (fM ou) (fM ou)) (fM ou) ((Bh ou).less (fM ou) (fM ou) (Bh ou)) (Bh ou) (by rw[Int.natCast_sub h];grind) (by rw[Int.natCast_sub h];grind)
theorem NJ(ou:Ok u):Uq d u 0=av:=
 Rep.eq (fM ou) bB (Bh ou) (aD bB) (by show u.a*(0:Nat)*1=0*u.c;simp) (by show u.b*(0:Nat)*1=0*u.c;simp)
theorem Jr(hd:ay d)(ou:Ok u)(su:sg d u.a u.b=1)(h:0<i):sg d (Uq d u i).a (Uq d u i).b=1:=by
 unfold Uq
 rw[zr hd ou (xD i),su]
 have:sg d (i:Int) 0=1:=(jE hd).mpr (.inl ⟨∅,∅,∅⟩)
 rw[this];rfl
end
end NM
namespace L2.DL
open PySem PySem.Spec PyProof.Rows NM
structure Tg{α:Sort u}(x:α):Type where
noncomputable def hd{α:Sort u}(x:α)(_:Tg x):α:=x
section
variable {ρ:Rho}{U:Mu}{Q:DK}{QT:Bool->Mu->Prop}{Dd:Cv}{ta tb tc:DTE}{t u:DTT}{tA:DTA}{s1 s2:DTS}{d:D}{A B:Prop}{p:Tg A}{q:Tg B}
theorem RD{w:Tg Q}:hd Q w d U=Q d U:=propext Iff.rfl
theorem l_T{i:Decidable True}:(if True then hd A p else hd B q)=A:=if_pos trivial
theorem l_F{i:Decidable False}:(if False then hd A p else hd B q)=B:=if_neg id
theorem l_t{i:Decidable (true=true)}:(if true=true then hd A p else hd B q)=A:=if_pos rfl
theorem l_f{i:Decidable (false=true)}:(if false=true then hd A p else hd B q)=B:=if_neg Bool.false_ne_true
theorem ng{c:Prop}{i:Decidable c}(h:c):(if c then hd A p else hd B q)=A:=if_pos h
theorem mz{c:Prop}{i:Decidable c}(h:¬ c):(if c then hd A p else hd B q)=B:=if_neg h
theorem R1{i j:Int}{k:Decidable True}:(if True then i else j)=i:=if_pos trivial
theorem R5{i j:Int}{k:Decidable False}:(if False then i else j)=j:=if_neg id
theorem Rj{r}:dOp r ta tb ρ U Q=ta ρ U fun x am=>tb ρ am fun y bn=>r x y bn (hd Q .mk):=propext Iff.rfl
theorem N6{g:DTG}:br ta g Dd ρ U=ta ρ U (hd (fun d am=>g d ρ am Dd.nx) .mk):=propext Iff.rfl
theorem Sm{rd}:dCB rd tA ρ U Q=tA ρ U fun ds am=>rd ds am (hd Q .mk):=propext Iff.rfl
theorem Jl{dsp:DSp}:ax dsp tA ρ U Q=tA ρ U fun ds am=>dsp ds am (hd Q .mk):=propext Iff.rfl
theorem NW:kU t u ρ U QT=t ρ U fun c am=>if c=true then hd (QT true am) .mk else hd (u ρ am QT) .mk:=propext Iff.rfl
theorem KZ:mI ta tb ρ U Q=ta ρ U fun x am=>match x with|.v (.bool c)=>if c=true then hd (tb ρ am Q) .mk else hd (Q (.v (.bool false)) am) .mk|_=>False:=propext Iff.rfl
theorem NQ:dA t s1 s2 Dd ρ U=t ρ U fun b am=>if b=true then hd (s1 Dd ρ am) .mk else hd (s2 Dd ρ am) .mk:=propext Iff.rfl
end
local macro_rules|`(tactic| walk_at "rn")=>mkW "↓xq ↓yo ↓A0 ↓tK ↓xK ↓B6 ↓we ↓BR ↓Bj ↓AD ↓vY ↓q_c ↓Qo ↓q_B ↓NK ↓GZ ↓GY ↓EF ↓N1 ↓AG ↓J4 ↓Bq ↓Q3 ↓yv ↓qw ↓Em ↓C5 ↓AL ↓D1 ↓Ea ↓Dl ↓G8 ↓Ha ↓xh ↓Bp ↓Bz ↓wc ↓xb ↓wQ ↓Ba ↓xE ↓uO ↓Hx ↓Gi ↓Hz ↓AM ↓Bn ↓LY ↓qQ ↓Cg ↓Hq ↓Ou ↓yp ↓B3 ↓Cc ↓BZ ↓Gw ↓AB ↓vK ↓Gh ↓Gy ↓oS ↓BS ↓vZ ↓BO ↓B5 ↓JY ↓He ↓Bs ↓wR ↓Ds ↓BU ↓KN ↓vR ↓Fm ↓F7 ↓F9 ↓AI ↓sQ ↓vX ↓qM ↓sF ↓sO Lg ↓EU ↓md A5 Aw Gj GP Hk bind_none bind_some join_some List.getElem?_cons_zero List.getElem?_cons_succ aS KO EO FC Fe Ek pH wz yd Ag DD List.map List.append List.replicate length_cons length_nil Nat.reduceAdd Nat.reduceSub nil_append cons_append set_cons_zero set_cons_succ map_some ↓reduceIte Bool.not_true Bool.not_false false_eq_true Bool.true_eq_false xor_false false_xor"
theorem Dy{d:Int}{x y:N3}:dif d x y=LU d x y:=rfl
noncomputable def dY(d:Int):PyData->Bool
 |.tuple [.int a,.int b,.int c]=>isNum (.tuple [.int a,.int b,.int c])&&decide (sg d a b=1)
 |_=>false
noncomputable def jK:DSp:=fun ds U Q=>∃(d:Int) (t:PyData),ds=[.v (.int d),.v t]/\ay d/\Few t/\(∀x,t=dN x->Bd 8900 x)/\Q (.v (.bool (dY d t))) U
theorem B7{U:Mu}{Q:DK}{ds:List D}(h:jK ds U Q):ds.length=2:=by obtain⟨_,_,rfl,_⟩:=h;rfl
noncomputable def sS(a:Addr)(U Z:Mu):Prop:=Bag Z a/\∀b,b≠a->∀ds,U b=some ds->Z b=some ds
noncomputable def fI:DTS:=
 (bI (mI (ax ma (ah (ai 1) au)) (dOp (dP false) (ax kv (ah (ai 0) (ah (ai 1) au))) (dC (.int 1)))))
section
variable {U:Mu}{Qd:DK}{ds:List D}
theorem k8{d:Int}{x:N3}(ox:Ok x):dY d (dN x)=decide (sg d x.a x.b=1):=by
 show (isNum (dN x)&&decide (sg d x.a x.b=1))=_
 rw[sj ox,Bool.true_and]
theorem yi{d:Int}{t:PyData}(h:isNum t=false):dY d t=false:=by
 unfold dY
 split
 ·rw[h,Bool.false_and]
 ·rfl
theorem gN{t:PyData}(h:isNum t=true):∃x:N3,t=dN x/\Ok x:=by
 unfold isNum at h
 split at h
 ·rename_i a b c
  simp only[and_eq_true,decide_eq_true_eq,beq_iff_eq] at h
  exact⟨⟨a,b,c⟩,rfl,by show 0<c;omega,h.2⟩
 ·cases h
theorem pX(h:jK ds U Qd):fI ‹Qd› (aS ["d","thing"] ds) U:=by
 obtain⟨d,t,rfl,hd,ft,bt,q⟩:=h
 unfold fI
 walk_at "rn"
 refine⟨t,rfl,ft,?_⟩
 walk_at "rn"
 cases e:isNum t with
 |true=>
  walk_at "rn"
  obtain⟨x,rfl,ox⟩:=gN e
  refine⟨d,x,rfl,hd,bt x rfl,?_⟩
  walk_at "rn"
  rw[k8 ox] at q
  exact q
 |false=>
  walk_at "rn"
  rw[yi e] at q
  exact q
theorem DJ{x:PyData}(h:SeqAt.shaped x=true):x.eqv x=true:=SeqAt.eqv_refl _ (SeqAt.canLay_of_shaped h)
theorem ne_str{U:Mu}{Qd:DK}{s:Str}(h:SeqAt.shaped (.str s)=true)(q:Qd (.v (.bool false)) U):dP true (.v (.str s)) (.v (.str s)) U Qd:=⟨h,h,by rw[DJ h];exact q⟩
theorem p7{x y:N3}(e:dN x=dN y):x=y:=by
 simp only[dN,PyData.tuple.injEq,List.cons.injEq,PyData.int.injEq,and_true] at e
 exact N3.ext' e.1 e.2.1 e.2.2
theorem Step.w{a:Addr}{U Z:Mu}(h:Step a U Z):sS a U Z:=⟨h.1,fun b n ds e=>by rw[h.2 b n];exact e⟩
end
section
variable {U:Mu}{Qd:DK}{ds:List D}
theorem _root_.NM.Rep.bd{x:N3}{A B C:Int}{n:Nat}(ox:Ok x)(r:Rep x A B C)(ha:Sz n A)(hb:Sz n B)(hc:Sz n C):Bd n x:=by
 have e:x=NM.low A B C:=ox.Pj r.c r.a r.b
 rw[e]
 exact tV r.c ha hb hc
end
noncomputable def cK(d:Int)(ms:List N3):Prop:=ms.Pairwise fun a b=>dif d b a=1
noncomputable def rV:DSp:=fun ds U Q=>∃(d:Int) (p:Addr) (ms:List N3) (x:N3),ds=[.v (.int d),.m p,.v (dN x)]/\ay d/\U p=some (ms.map dN)/\(∀m∈ms,Ok m/\Bd 4400 m)/\Ok x/\Bd 4400 x/\cK d ms/\ms.length<=1000 /\
 ∀r:Nat,r<=ms.length->(∀i m,i<r->ms[i]? = some m->dif d x m=1)->(∀i m,r<=i->ms[i]? = some m->¬ dif d x m=1)->Q (.v (.int (r:Nat))) U
theorem AX{ds:List D}{U:Mu}{Q:DK}(h:rV ds U Q):ds.length=3:=by obtain⟨_,_,_,_,rfl,_⟩:=h;rfl
noncomputable def yr:DSp:=fun ds U Q=>∃(d:Int) (fs:List N3),ds=[.v (.int d),.v (.list (fs.map dN))]/\ay d/\(∀m∈fs,Ok m/\Bd 4400 m)/\fs.length<=1000 /\
 ∀p ms Z,U p=none->gJ U Z->Z p=some (ms.map dN)->cK d ms->(∀x,x∈ms↔x∈fs)->Q (.m p) Z
theorem BG{ds:List D}{U:Mu}{Q:DK}(h:yr ds U Q):ds.length=2:=by obtain⟨_,_,rfl,_⟩:=h;rfl
noncomputable def jB:DTS:=
 (aP (br (dC (.int 0)) (ar 3))
 (aP (br (dCB dq (ah (ai 1) au)) (ar 4))
 (aP (xm (dB (dOp rLt (ai 3) (ai 4))) (aP (br (vg (kj (ai 3) (ai 4)) (dC (.int 2))) (ar 5))
 (dA (dB (ax vF (ah (ai 0) (ah (ai 2) (ah (dOp aN (ai 1) (ai 5)) au))))) (br (kj (ai 5) (dC (.int 1))) (ar 3)) (br (ai 5) (ar 4)))))
 (bI (ai 3)))))
noncomputable def iH:DTS:=
 (aP (br (Ae au) (ar 2))
 (aP (yq (lu (ai 1)) (ar 3) (aP (br (ax rV (ah (ai 0) (ah (ai 2) (ah (ai 3) au)))) (ar 4))
 (dA (kU (dB (dOp (dP false) (ai 4) (dCB dq (ah (ai 2) au)))) (dB (dOp (dP true) (dOp aN (ai 2) (ai 4)) (ai 3)))) (uB (NL (ai 2) (ai 4) (ai 3))) bV)))
 (bI (ai 2))))
section
variable {U:Mu}{Qd:DK}{ds:List D}
theorem QX(r s:Nat):(r:Int).fdiv (s:Int)=((r / s:Nat):Int):=by rw[Int.fdiv_eq_ediv_of_nonneg _ (Int.natCast_nonneg s)];rfl
theorem Cw{ks:List N3}{i:Nat}{m:N3}(h:ks[i]? = some m):atI (ks.map dN) (i:Int)=some (dN m):=by
 have hl:i<ks.length:=by
  rcases lt_or_ge i ks.length with z|z
  ·exact z
  ·rw[getElem?_eq_none z] at h;cases h
 unfold atI ixN
 rw[if_pos ∅,if_pos (by rw[length_map];omega)]
 simp only[bind_some,Int.toNat_natCast]
 rw[getElem?_map,h]
 rfl
theorem i5{d:Int}{x y z:N3}(hd:ay d)(ox:Ok x)(oy:Ok y)(oz:Ok z)(h1:dif d x y=1)(h2:dif d y z=1):dif d x z=1:=by
 rw[Dy] at *
 unfold LU at *
 have cx:=ox.c
 have cy:=oy.c
 have cz:=oz.c
 have a1:P d (z.c*(x.a*y.c-y.a*x.c)) (z.c*(x.b*y.c-y.b*x.c)):=(jE hd).mp (by rw[kG hd cz];exact h1)
 have a2:P d (x.c*(y.a*z.c-z.a*y.c)) (x.c*(y.b*z.c-z.b*y.c)):=(jE hd).mp (by rw[kG hd cx];exact h2)
 have a3:=(jE hd).mpr (R3 hd a1 a2)
 have e1:z.c*(x.a*y.c-y.a*x.c)+x.c*(y.a*z.c-z.a*y.c)=y.c*(x.a*z.c-z.a*x.c):=by grind
 have e2:z.c*(x.b*y.c-y.b*x.c)+x.c*(y.b*z.c-z.b*y.c)=y.c*(x.b*z.c-z.b*x.c):=by grind
 rw[e1,e2,kG hd cy] at a3
 exact a3
theorem Cr{d:Int}{ms:List N3}(h:cK d ms){i j:Nat}{a b:N3}(hij:i<j)(ha:ms[i]? = some a)(hb:ms[j]? = some b):dif d b a=1:=by
 obtain⟨hi,rfl⟩:=List.getElem?_eq_some_iff.mp ha
 obtain⟨hj,rfl⟩:=List.getElem?_eq_some_iff.mp hb
 exact List.pairwise_iff_getElem.mp h i j hi hj hij
theorem dif_neg{d:Int}{x y:N3}(hd:ay d):dif d y x = - dif d x y:=by
 rw[Dy,Dy]
 unfold LU
 rw[<- yz hd]
 congr 1<;>grind
theorem G6{d:Int}{x y:N3}(hd:ay d)(ox:Ok x)(oy:Ok y)(h:¬ dif d x y=1)(n:y≠x):dif d y x=1:=by
 rw[dif_neg hd]
 have t:dif d x y=0\/dif d x y=1\/dif d x y = -1:=by rw[Dy];exact kf _ _ _
 rcases t with t|t|t
 ·exact absurd (Ja ox oy (by rw[<- Dy];exact t)).symm n
 ·exact absurd t h
 ·rw[t];rfl
theorem Lk{d:Int}{ms:List N3}{f:N3}{r:Nat}(hd:ay d)(gm:∀m∈ms,Ok m)(of:Ok f)(hr:cK d ms)(hl:r<=ms.length)(hb:∀i m,i<r->ms[i]? = some m->dif d f m=1)(ha:∀i m,r<=i->ms[i]? = some m->¬ dif d f m=1)(hn:∀m,ms[r]? = some m->m≠f):cK d (ms.take r++f::ms.drop r):=by
 unfold cK at *
 rw[List.pairwise_append]
 have hbm:∀m∈ms.take r,dif d f m=1:=fun m hm=>by
  obtain⟨i,hi,e⟩:=List.mem_iff_getElem.mp hm
  have hi':i<r:=by rw[length_take] at hi;omega
  refine hb i m hi' ?_
  rw[<- e,List.getElem_take]
  exact getElem?_eq_getElem _
 have ham:∀m∈ms.drop r,dif d m f=1:=fun m hm=>by
  obtain⟨i,hi,e⟩:=List.mem_iff_getElem.mp hm
  have hi2:r+i<ms.length:=by rw[List.length_drop] at hi;omega
  have em:ms[r+i]? = some m:=by rw[<- e,List.getElem_drop];exact getElem?_eq_getElem _
  have er:ms[r]? = some ms[r]:=getElem?_eq_getElem ∅
  have o1:=gm ms[r] (getElem_mem _)
  have b1:=G6 hd of o1 (ha r _ (le_refl _) er) (hn _ er)
  cases i with
  |zero=>rw[Nat.add_zero,er] at em;cases em;exact b1
  |succ i=>exact i5 hd (gm m (mem_of_getElem? em)) o1 of (Cr hr ∅ er em) b1
 refine⟨hr.sublist (List.take_sublist _ _),List.pairwise_cons.mpr ⟨ham,hr.sublist (List.drop_sublist _ _)⟩,fun a ha' b hb'=>?_⟩
 rcases List.mem_cons.mp hb' with rfl|hb'
 ·exact hbm a ha'
 ·exact i5 hd (gm b (List.mem_of_mem_drop hb')) of (gm a (List.mem_of_mem_take ha')) (ham b hb') (hbm a ha')
theorem LZ{α:Type}{ms:List α}{f x:α}{r:Nat}:x∈ms.take r++f::ms.drop r↔x=f\/x∈ms:=by
 rw[mem_append,mem_cons]
 have h:x∈ms↔x∈ms.take r\/x∈ms.drop r:=by
  conv=>lhs;rw[<- List.take_append_drop r ms]
  rw[mem_append]
 rw[h]
 constructor
 ·rintro (a|a|a)
  ·exact .inr (.inl a)
  ·exact .inl a
  ·exact .inr (.inr a)
 ·rintro (a|a|a)
  ·exact .inr (.inl a)
  ·exact .inl a
  ·exact .inr (.inr a)
theorem vB(h:yr ds U Qd):iH ‹Qd› (aS ["d","found","marks","x","place"] ds) U:=by
 obtain⟨d,fs,rfl,hd,gf,hl,q⟩:=h
 unfold iH
 walk_at "rn"
 intro p hp
 rw[rL]
 walk_at "rn"
 refine⟨fun i ρ Z=>∃r3 r4 ms,ρ=[some (.v (.int d)),some (.v (.list (fs.map dN))),some (.m p),r3,r4]/\gJ U Z/\Z p=some (ms.map dN)/\cK d ms/\(∀x,x∈ms↔x∈fs.take i)/\ms.length<=i,⟨_,_,[],rfl,gJ.refl.set hp,aX,List.Pairwise.nil,by simp,le_refl _⟩,?_,?_⟩
 ·rintro i x ρ Z hx ⟨r3,r4,ms,rfl,sb,hm,hr,hms,lm⟩
  have hil:i<fs.length:=by
   rcases lt_or_ge i fs.length with z|z
   ·exact z
   ·rw[getElem?_eq_none (by rw[length_map];exact z)] at hx;cases hx
  obtain⟨f,ef,rfl⟩:∃f,fs[i]? = some f/\x=dN f:=by
   rw[getElem?_map,getElem?_eq_getElem hil] at hx
   exact⟨fs[i],getElem?_eq_getElem hil,(Option.some.inj hx).symm⟩
  have gm:∀m∈ms,Ok m/\Bd 4400 m:=fun m h=>gf m (List.mem_of_mem_take ((hms m).mp h))
  obtain⟨of,bf⟩:=gf f (mem_of_getElem? ef)
  have tk:fs.take (i+1)=fs.take i++[f]:=by rw[take_succ,ef];rfl
  walk_at "rn"
  refine⟨d,p,ms,f,rfl,hd,hm,gm,of,bf,hr,∅,fun r rl hb ha=>?_⟩
  have fin:(∀m,ms[r]? = some m->m≠f)->∃r3 r4 ms',[some (D.v (.int d)),some (D.v (.list (fs.map dN))),some (D.m p),some (D.v (dN f)),some (D.v (.int (r:Nat)))]=[some (.v (.int d)),some (.v (.list (fs.map dN))),some (.m p),r3,r4]/\gJ U (aQ Z p ((ms.map dN).take r++dN f::(ms.map dN).drop r))/\aQ Z p ((ms.map dN).take r++dN f::(ms.map dN).drop r) p=some (ms'.map dN)/\cK d ms'/\(∀x,x∈ms'↔x∈fs.take (i+1))/\ms'.length<=i+1:=fun hn=>by
   refine⟨_,_,ms.take r++f::ms.drop r,rfl,sb.set hp,?_,Lk hd (fun m h=>(gm m h).1) of hr rl hb ha hn,fun x=>?_,by simp;omega⟩
   ·rw[aX,map_append,map_cons,map_take,List.map_drop]
   ·rw[LZ,tk,mem_append,List.mem_singleton,hms]
    exact Or.comm
  walk_at "rn"
  rw[hm]
  dsimp only
  rw[length_map]
  have put:(∀m,ms[r]? = some m->m≠f)->∀K:DK,(∀z,(∃r3 r4 ms',[some (D.v (.int d)),some (D.v (.list (fs.map dN))),some (D.m p),some (D.v (dN f)),some (D.v (.int (r:Nat)))]=[some (.v (.int d)),some (.v (.list (fs.map dN))),some (.m p),r3,r4]/\gJ U z/\z p=some (ms'.map dN)/\cK d ms'/\(∀x,x∈ms'↔x∈fs.take (i+1))/\ms'.length<=i+1)->K (.v .none) z)->NL (ai 2) (ai 4) (ai 3) [some (D.v (.int d)),some (D.v (.list (fs.map dN))),some (D.m p),some (D.v (dN f)),some (D.v (.int (r:Nat)))] Z K:=fun hn K kk=>by
   rw[Sn]
   walk_at "rn"
   exact⟨r,dN f,ms.map dN,rfl,rfl,hm,by rw[length_map];exact rl,by rw[length_map];omega,kk _ (fin hn)⟩
  by_cases c:r=ms.length
  ·rw[if_pos (decide_eq_true ∅)]
   exact put (fun m e=>by rw[getElem?_eq_none ∅] at e;cases e) _ fun z h=>h
  ·rw[if_neg (by simp;omega)]
   have rl':r<ms.length:=by omega
   have er:ms[r]? = some ms[r]:=getElem?_eq_getElem rl'
   rw[Cw er]
   dsimp only
   rw[Ek]
   dsimp only
   by_cases cf:ms[r]=f
   ·rw[if_neg (by simp[cf])]
    refine⟨_,_,ms,rfl,sb,hm,hr,fun x=>?_,∅⟩
    rw[tk,mem_append,List.mem_singleton,hms]
    constructor
    ·exact .inl
    ·rintro (h|rfl)
     ·exact h
     ·rw[<- hms,<- cf];exact getElem_mem _
   ·rw[if_pos (by simp[cf])]
    exact put (fun m e=>by rw[er] at e;cases e;exact cf) _ fun z h=>h
 ·rintro ρ Z ⟨r3,r4,ms,rfl,sb,hm,hr,hms,lm⟩
  rw[length_map,take_length] at hms
  exact q p ms Z hp sb hm hr hms
theorem xT(h:rV ds U Qd):jB ‹Qd› (aS ["d","marks","x","low","high","middle"] ds) U:=by
 obtain⟨d,p,ms,x,rfl,hd,hp,gm,ox,bx,hr,hl,q⟩:=h
 unfold jB
 walk_at "rn"
 rw[hp]
 dsimp only
 rw[LX,length_map]
 refine⟨fun n ρ Z=>∃(lo hi:Nat) (r5:Option D),ρ=[some (.v (.int d)),some (.m p),some (.v (dN x)),some (.v (.int (lo:Nat))),some (.v (.int (hi:Nat))),r5]/\Z=U/\n=hi-lo/\lo<=hi/\hi<=ms.length/\(∀i m,i<lo->ms[i]? = some m->dif d x m=1)/\(∀i m,hi<=i->ms[i]? = some m->¬ dif d x m=1),
  ⟨_,0,ms.length,none,rfl,rfl,rfl,zero_le _,le_refl _,fun i m z=>absurd z (Nat.not_lt_zero _),fun i m z e=>by rw[getElem?_eq_none z] at e;cases e⟩,?_⟩
 rintro n ρ Z ⟨lo,hi,r5,rfl,rfl,rfl,h1,h2,hb,ha⟩
 walk_at "rn"
 by_cases c:lo<hi
 ·rw[if_pos (by simpa using c)]
  have hm:(lo+hi) / 2<ms.length:=by omega
  have em:ms[(lo+hi) / 2]? = some ms[(lo+hi) / 2]:=getElem?_eq_getElem hm
  have ef:(((lo:Nat):Int)+((hi:Nat):Int)).fdiv 2=(((lo+hi) / 2:Nat):Int):=by
   have:((lo:Nat):Int)+((hi:Nat):Int)=((lo+hi:Nat):Int):=by omega
   rw[this]
   exact QX (lo+hi) 2
  rw[hp,ef]
  dsimp only
  rw[Cw em]
  generalize ms[(lo+hi) / 2]=mm at em
  obtain⟨omm,bmm⟩:=gm mm (mem_of_getElem? em)
  refine⟨Ep ⋯ (Sz.of (n:=2) ⋯) ⋯,d,x,mm,rfl,hd,bx,bmm,?_⟩
  dsimp only
  by_cases cc:dif d x mm=1
  ·rw[if_pos (decide_eq_true cc)]
   refine⟨_,?_,(lo+hi) / 2+1,hi,some (.v (.int (((lo+hi) / 2:Nat):Int))),by simp,rfl,rfl,∅,h2,fun i m z e=>?_,ha⟩
   ·omega
   ·rcases lt_or_eq_of_le (Nat.le_of_lt_succ z) with z|z
    ·obtain⟨om,_⟩:=gm m (mem_of_getElem? e)
     exact i5 hd ox omm om cc (Cr hr z e em)
    ·rw[z,em] at e
     cases e
     exact cc
  ·rw[if_neg (by simpa using cc)]
   refine⟨_,?_,lo,(lo+hi) / 2,_,rfl,rfl,rfl,∅,∅,hb,fun i m z e f=>cc ?_⟩
   ·omega
   ·rcases lt_or_eq_of_le z with z|z
    ·obtain⟨om,_⟩:=gm m (mem_of_getElem? e)
     exact i5 hd ox om omm f (Cr hr z em e)
    ·rw[<- z,em] at e
     cases e
     exact f
 ·rw[if_neg (by simpa using c)]
  obtain rfl:lo=hi:=by omega
  exact q lo h2 hb ha
end
noncomputable def numAt:PyData->N3
 |.tuple [.int a,.int b,.int c]=>⟨a,b,c⟩
 |_=>av
noncomputable def wt(t:PyData):Prop:=Few t/\∀x,t=dN x->Bd 4400 x
noncomputable def N5(t:PyData):Prop:=∀a b c e,t = .tuple [a,b,c,e]->wt a/\wt b/\wt c/\wt e
noncomputable def kC(d:Int):PyData->Bool
 |.tuple [a,b,c,e]=>(isNum a&&(isNum b&&(decide (0<=sg d (numAt a).a (numAt a).b)&&decide (0<=sg d (numAt b).a (numAt b).b))))&&(dY d c&&dY d e)
 |_=>false
noncomputable def AK:DSp:=fun ds U Q=>∃(d:Int) (t:PyData),ds=[.v (.int d),.v t]/\ay d/\N5 t/\Q (.v (.bool (kC d t))) U
theorem Fo{ds:List D}{U:Mu}{Q:DK}(h:AK ds U Q):ds.length=2:=by obtain⟨_,_,rfl,_⟩:=h;rfl
noncomputable def Jh(t:PyData):Prop:=∀a b c,t = .tuple [a,b,c]->wt a/\wt b/\∀ts,c = .tuple ts->ts.length<=1000/\∀x∈ts,N5 x
noncomputable def pj(d:Int):PyData->Bool
 |.tuple [a,b,.tuple ts]=>dY d a&&(dY d b&&(decide (1<=ts.length)&&(decide (ts.length<=60)&&ts.all (kC d))))
 |_=>false
noncomputable def vN:DSp:=fun ds U Q=>∃(d:Int) (t:PyData),ds=[.v (.int d),.v t]/\ay d/\Jh t/\Q (.v (.bool (pj d t))) U
theorem Ej{ds:List D}{U:Mu}{Q:DK}(h:vN ds U Q):ds.length=2:=by obtain⟨_,_,rfl,_⟩:=h;rfl
noncomputable def qc:DTS:=
 (aP (dA (kU (eo (dB (xx "tuple" (ai 1)))) (dB (dOp (dP true) (dCB dq (ah (ai 1) au)) (dC (.int 4))))) (bI (dC (.bool false))) bV)
 (aP (br (ai 1) (dD 4 (aG (ar 2) (aG (ar 3) (aG (ar 4) (aG (ar 5) dO))))))
 (aP (dA (kU (eo (dB (ax ma (ah (ai 2) au)))) (kU (eo (dB (ax ma (ah (ai 3) au)))) (kU (dB (dOp rLt (ax kv (ah (ai 0) (ah (ai 2) au))) (dC (.int 0)))) (dB (dOp rLt (ax kv (ah (ai 0) (ah (ai 3) au))) (dC (.int 0))))))) (bI (dC (.bool false))) bV)
 (bI (mI (ax jK (ah (ai 0) (ah (ai 4) au))) (ax jK (ah (ai 0) (ah (ai 5) au))))))))
noncomputable def n5:DTS:=
 (aP (dA (kU (eo (dB (xx "tuple" (ai 1)))) (dB (dOp (dP true) (dCB dq (ah (ai 1) au)) (dC (.int 3))))) (bI (dC (.bool false))) bV)
 (aP (br (ai 1) (dD 3 (aG (ar 2) (aG (ar 3) (aG (ar 4) dO)))))
 (aP (dA (kU (eo (dB (ax jK (ah (ai 0) (ah (ai 2) au))))) (eo (dB (ax jK (ah (ai 0) (ah (ai 3) au)))))) (bI (dC (.bool false))) bV)
 (aP (dA (kU (eo (dB (xx "tuple" (ai 4)))) (kU (dB (dOp rLt (dCB dq (ah (ai 4) au)) (dC (.int 1)))) (dB (dOp rGt (dCB dq (ah (ai 4) au)) (dC (.int 60)))))) (bI (dC (.bool false))) bV)
 (bI (dCB zv (ah (Ad [none,some 0] (sJ (ai 4)) (ar 0) kP (ax AK (ah (ai 1) (ah (ai 0) au)))) au)))))))
section
variable {U:Mu}{Qd:DK}{ds:List D}
theorem zY{d:Int}{xs:List PyData}(h:xs.length≠4):kC d (.tuple xs)=false:=by
 match xs,h with
 |[],_=>rfl
 |[_],_=>rfl
 |[_,_],_=>rfl
 |[_,_,_],_=>rfl
 |[_,_,_,_],h=>exact absurd rfl h
 |_::_::_::_::_::_,_=>rfl
theorem zq{d:Int}{p:PyData}(h:¬ ∃xs,p = .tuple xs):kC d p=false:=by cases p<;>first|rfl|exact absurd ⟨_,rfl⟩ h
theorem x5{p:PyData}(h:¬ ∃xs,p = .tuple xs):isT "tuple" p=false:=by cases p<;>first|rfl|exact absurd ⟨_,rfl⟩ h
theorem FW{α:Type}{xs:List α}(hl:xs.length=4):∃a b c d,xs=[a,b,c,d]:=by
 match xs,hl with
 |[a,b,c,d],_=>exact⟨a,b,c,d,rfl⟩
theorem BI{d:Int}{a b c e:PyData}:kC d (.tuple [a,b,c,e])=((isNum a&&(isNum b&&(decide (0<=sg d (numAt a).a (numAt a).b)&&decide (0<=sg d (numAt b).a (numAt b).b))))&&(dY d c&&dY d e)):=rfl
theorem vJ{x:N3}:numAt (dN x)=x:=rfl
theorem FF(h:AK ds U Qd):qc ‹Qd› (aS ["d","thing","x","y","width","height"] ds) U:=by
 obtain⟨d,t,rfl,hd,ht4,q⟩:=h
 unfold qc
 walk_at "rn"
 by_cases ht:∃xs,t = .tuple xs
 ·obtain⟨xs,rfl⟩:=ht
  rw[if_neg (by rw[show isT "tuple" (.tuple xs)=true from rfl];decide)]
  walk_at "rn"
  by_cases l4:xs.length=4
  ·obtain⟨a,b,c,e,rfl⟩:=FW l4
   rw[if_neg (by simp)]
   obtain⟨pa,pb,pc,pe⟩:=ht4 a b c e rfl
   rw[BI] at q
   walk_at "rn"
   refine⟨trivial,a,rfl,pa.1,?_⟩
   dsimp only
   cases na:isNum a with
   |false=>rw[if_pos ⋯];rw[na] at q;exact q
   |true=>
    rw[if_neg ⋯]
    rw[na,Bool.true_and] at q
    refine⟨b,rfl,pb.1,?_⟩
    dsimp only
    cases nb:isNum b with
    |false=>rw[if_pos ⋯];rw[nb] at q;exact q
    |true=>
     rw[if_neg ⋯]
     rw[nb,Bool.true_and] at q
     obtain⟨x,rfl,ox⟩:=gN na
     obtain⟨y,rfl,oy⟩:=gN nb
     rw[vJ,vJ] at q
     refine⟨d,x,rfl,hd,(pa.2 x rfl).mono ⋯,?_⟩
     walk_at "rn"
     by_cases cx:0<=sg d x.a x.b
     ·rw[if_neg (by simp;omega)]
      rw[decide_eq_true cx,Bool.true_and] at q
      refine⟨d,y,rfl,hd,(pb.2 y rfl).mono ⋯,?_⟩
      walk_at "rn"
      by_cases cy:0<=sg d y.a y.b
      ·rw[if_neg (by simp;omega)]
       rw[decide_eq_true cy,Bool.true_and] at q
       refine⟨d,c,rfl,hd,pc.1,fun x e=>(pc.2 x e).mono ⋯,?_⟩
       dsimp only
       cases ac:dY d c with
       |false=>rw[if_neg ⋯];rw[ac] at q;exact q
       |true=>
        rw[if_pos rfl]
        rw[ac,Bool.true_and] at q
        exact⟨d,e,rfl,hd,pe.1,fun x e=>(pe.2 x e).mono ⋯,q⟩
      ·rw[if_pos (by simp;omega)]
       rw[decide_eq_false cy] at q
       exact q
     ·rw[if_pos (by simp;omega)]
      rw[decide_eq_false cx] at q
      exact q
  ·rw[if_pos (by simp;omega)]
   rw[zY l4] at q
   exact q
 ·rw[if_pos (by rw[x5 ht];rfl)]
  rw[zq ht] at q
  exact q
theorem Aj{d:Int}{xs:List PyData}(h:xs.length≠3):pj d (.tuple xs)=false:=by
 match xs,h with
 |[],_=>rfl
 |[_],_=>rfl
 |[_,_],_=>rfl
 |[_,_,_],h=>exact absurd rfl h
 |_::_::c::_::_,_=>cases c<;>rfl
theorem zG{d:Int}{p:PyData}(h:¬ ∃xs,p = .tuple xs):pj d p=false:=by cases p<;>first|rfl|exact absurd ⟨_,rfl⟩ h
theorem BX{d:Int}{a b c:PyData}(h:¬ ∃ts,c = .tuple ts):pj d (.tuple [a,b,c])=false:=by cases c<;>first|rfl|exact absurd ⟨_,rfl⟩ h
theorem CO{α:Type}{xs:List α}(hl:xs.length=3):∃a b c,xs=[a,b,c]:=by
 match xs,hl with
 |[a,b,c],_=>exact⟨a,b,c,rfl⟩
theorem Ak{f:PyData->Bool}:∀(xs:List PyData),cT (xs.filterMap fun x=>some (.bool (f x)))=some (xs.map f)
 |[]=>rfl
 |x::xs=>by
  rw[filterMap_cons]
  simp only[cT,Ak xs,map_some,map_cons]
theorem DX(h:vN ds U Qd):n5 ‹Qd› (aS ["d","thing","width","height","tiles"] ds) U:=by
 obtain⟨d,t,rfl,hd,ft,q⟩:=h
 unfold n5
 walk_at "rn"
 by_cases ht:∃xs,t = .tuple xs
 ·obtain⟨xs,rfl⟩:=ht
  rw[if_neg (by rw[show isT "tuple" (.tuple xs)=true from rfl];decide)]
  walk_at "rn"
  by_cases l3:xs.length=3
  ·obtain⟨a,b,c,rfl⟩:=CO l3
   rw[if_neg (by simp)]
   obtain⟨pa,pb,pc⟩:=ft a b c rfl
   walk_at "rn"
   have qf:(∃ts,c = .tuple ts)\/Qd (.v (.bool false)) U:=by
    by_cases hc:∃ts,c = .tuple ts
    ·exact .inl hc
    ·rw[BX hc] at q;exact .inr q
   have q3:∀ts,c = .tuple ts->Qd (.v (.bool (dY d a&&(dY d b&&(decide (1<=ts.length)&&(decide (ts.length<=60)&&ts.all (kC d))))))) U:=fun ts e=>by subst e;exact q
   refine⟨trivial,d,a,rfl,hd,pa.1,fun x e=>(pa.2 x e).mono ⋯,?_⟩
   dsimp only
   cases aa:dY d a with
   |false=>
    rw[if_pos ⋯]
    rcases qf with ⟨ts,e⟩|qf
    ·have:=q3 ts e;rw[aa] at this;exact this
    ·exact qf
   |true=>
    rw[if_neg ⋯]
    refine⟨d,b,rfl,hd,pb.1,fun x e=>(pb.2 x e).mono ⋯,?_⟩
    dsimp only
    cases ab:dY d b with
    |false=>
     rw[if_pos ⋯]
     rcases qf with ⟨ts,e⟩|qf
     ·have:=q3 ts e;rw[aa,ab] at this;exact this
     ·exact qf
    |true=>
     rw[if_neg ⋯]
     by_cases hc:∃ts,c = .tuple ts
     ·obtain⟨ts,rfl⟩:=hc
      have q4:=q3 ts rfl
      rw[aa,ab,Bool.true_and,Bool.true_and] at q4
      rw[if_neg (by rw[show isT "tuple" (.tuple ts)=true from rfl];decide)]
      walk_at "rn"
      by_cases c1:1<=ts.length
      ·rw[if_neg (by simp;omega)]
       rw[decide_eq_true c1,Bool.true_and] at q4
       by_cases c2:ts.length<=60
       ·rw[if_neg (by simp;omega)]
        rw[decide_eq_true c2,Bool.true_and] at q4
        obtain⟨tl,gt⟩:=pc ts rfl
        refine⟨tl,fun x=>some (.bool (kC d x)),fun x hx Z _=>⟨⟨trivial,trivial⟩,d,x,rfl,hd,gt x hx,rfl,rfl⟩,?_⟩
        rw[Ak]
        dsimp only
        have ea:(ts.map (kC d)).all id=ts.all (kC d):=by simp[List.all_map]
        rw[ea]
        exact q4
       ·rw[if_pos (by simp;omega)]
        rw[decide_eq_false c2] at q4
        exact q4
      ·rw[if_pos (by simp;omega)]
       rw[decide_eq_false c1] at q4
       exact q4
     ·rw[if_pos (by rw[x5 hc];rfl)]
      rw[BX hc] at q
      exact q
  ·rw[if_pos (by simp;omega)]
   rw[Aj l3] at q
   exact q
 ·rw[if_pos (by rw[x5 ht];rfl)]
  rw[zG ht] at q
  exact q
end
structure Tl where
 x:N3
 y:N3
 w:N3
 h:N3
noncomputable def tlD(t:Tl):PyData:=.tuple [dN t.x,dN t.y,dN t.w,dN t.h]
structure To(d:Int)(t:Tl):Prop where
 ox:Ok t.x
 oy:Ok t.y
 ow:Ok t.w
 oh:Ok t.h
 bx:Bd 2100 t.x
 by_:Bd 2100 t.y
 bw:Bd 2100 t.w
 bh:Bd 2100 t.h
noncomputable def tD(t:Tl):PyData:=.tuple [dN t.x,dN (plus t.x t.w),dN t.y,dN (plus t.y t.h)]
noncomputable def oD:DSp:=fun ds U Q=>∃(d:Int) (t:Tl),ds=[.v (tlD t)]/\To d t/\Q (.v (tD t)) U
theorem yG{ds:List D}{U:Mu}{Q:DK}(h:oD ds U Q):ds.length=1:=by obtain⟨_,_,rfl,_⟩:=h;rfl
noncomputable def fW(ms:List N3)(e:N3):Bool:=decide (ms.head? = some av)&&decide (ms.getLast? = some e)
noncomputable def qC:DSp:=fun ds U Q=>∃(ms:List N3) (e:N3),ds=[.v (.list (ms.map dN)),.v (dN e)]/\ms≠[]/\Q (.v (.bool (fW ms e))) U
theorem Dk{ds:List D}{U:Mu}{Q:DK}(h:qC ds U Q):ds.length=2:=by obtain⟨_,_,rfl,_⟩:=h;rfl
noncomputable def lK:DTS:=
 (aP (br (ai 0) (dD 4 (aG (ar 1) (aG (ar 2) (aG (ar 3) (aG (ar 4) dO))))))
 (bI (bF (ah (ai 1) (ah (ax bQ (ah (ai 1) (ah (ai 3) au))) (ah (ai 2) (ah (ax bQ (ah (ai 2) (ah (ai 4) au))) au)))))))
noncomputable def iI:DTS:=
 (bI (mI (dOp (dP false) (dOp aN (ai 0) (dC (.int 0))) (dC (.tuple [.int 0,.int 0,.int 1]))) (dOp (dP false) (dOp aN (ai 0) (zg (dC (.int 1)))) (ai 1))))
section
variable {U:Mu}{Qd:DK}{ds:List D}
theorem B8(h:oD ds U Qd):lK ‹Qd› (aS ["tile","x","y","width","height"] ds) U:=by
 obtain⟨d,t,rfl,o,q⟩:=h
 unfold lK tlD
 walk_at "rn"
 refine⟨trivial,t.x,t.w,rfl,o.ox,o.ow,o.bx.mono ⋯,o.bw.mono ⋯,?_⟩
 walk_at "rn"
 refine⟨t.y,t.h,rfl,o.oy,o.oh,o.by_.mono ⋯,o.bh.mono ⋯,?_⟩
 walk_at "rn"
 exact q
theorem Jb{ms:List N3}{l:N3}(h:ms.getLast? = some l):atI (ms.map dN) (-1)=some (dN l):=by
 obtain⟨ys,rfl⟩:∃ys,ms=ys++[l]:=by
  have hn:ms≠[]:=fun e=>by rw[e] at h;cases h
  refine⟨ms.dropLast,?_⟩
  rw[List.getLast?_eq_getLast hn] at h
  have e:=List.dropLast_concat_getLast hn
  rw[Option.some.inj h] at e
  exact e.symm
 rw[map_append]
 unfold atI ixN
 have e:(ys.map dN++[dN l]).length=ys.length+1:=by simp
 rw[show List.map dN [l]=[dN l] from rfl,e]
 split
 ·omega
 ·rw[if_pos ∅]
  have z:(-1+((ys.length+1:Nat):Int)).toNat=ys.length:=by omega
  simp only[bind_some]
  rw[z]
  simp
theorem vD(h:qC ds U Qd):iI ‹Qd› (aS ["marks","end"] ds) U:=by
 obtain⟨ms,e,rfl,hn,q⟩:=h
 unfold iI
 obtain⟨l,hl⟩:∃l,ms.getLast? = some l:=⟨ms.getLast hn,List.getLast?_eq_getLast hn⟩
 obtain⟨f,r,rfl⟩:∃f r,ms=f::r:=by
  cases ms with
  |nil=>exact absurd rfl hn
  |cons f r=>exact⟨f,r,rfl⟩
 walk_at "rn"
 have er:fW (f::r) e=(decide (f=⟨0,0,1⟩)&&decide (l=e)):=by
  unfold fW
  rw[hl]
  congr 1
  ·rw[List.head?_cons]
   simp only[Option.some.injEq]
   rfl
  ·simp only[Option.some.injEq]
 rw[er] at q
 by_cases c:f=⟨0,0,1⟩
 ·rw[if_pos (decide_eq_true c),<- show (f::r).map dN=dN f::r.map dN from rfl,Jb hl]
  dsimp only
  rw[Ek,false_xor]
  rw[decide_eq_true c,Bool.true_and] at q
  exact q
 ·rw[if_neg (by simpa using c)]
  rw[decide_eq_false c] at q
  exact q
end
section
variable {U:Mu}{d:D}{Q:DK}
theorem Gb{a b c f g h k l m n n11}{o:Rho}:ai 11 (a::b::c::f::g::h::k::l::m::n::n11::some d::o) U Q=Q d U:=propext Iff.rfl
theorem Hj{a b c f g h k l m n n11 n12}{o:Rho}:ai 12 (a::b::c::f::g::h::k::l::m::n::n11::n12::some d::o) U Q=Q d U:=propext Iff.rfl
theorem G3{a b c f g h k l m n n11 n12 n13}{o:Rho}:ai 13 (a::b::c::f::g::h::k::l::m::n::n11::n12::n13::some d::o) U Q=Q d U:=propext Iff.rfl
theorem GA{a b c f g h k l m n n11 n12 n13 n14}{o:Rho}:ai 14 (a::b::c::f::g::h::k::l::m::n::n11::n12::n13::n14::some d::o) U Q=Q d U:=propext Iff.rfl
theorem Gp{to te:DTE}{ρ:Rho}{U:Mu}{Q:DK}:Bl to te ρ U Q=to ρ U fun x am=>match x with
 |.m l=>te ρ am fun y bn=>(match y,bn l with
  |.v (.int i),some xs=>(0<=i/\i<1000)/\∃d,xs[i.toNat]? = some d/\Q (.v d) (aQ bn l (xs.eraseIdx i.toNat))
  |_,_=>False)
 |_=>False:=propext Iff.rfl
end
noncomputable def Au(x:N3):List Int:=[x.a,x.b,x.c]
theorem JC{x y:N3}(h:Au x=Au y):x=y:=by
 cases x;cases y
 unfold Au at h
 simp only[List.cons.injEq,and_true] at h
 obtain⟨rfl,rfl,rfl⟩:=h
 rfl
theorem vS{d:Int}{x:N3}(hd:ay d):dif d x x≠1:=fun h=>by
 have:=dif_neg (x:=x) (y:=x) hd
 omega
theorem l8{d:Int}{P:List N3}(hd:ay d)(h:cK d P):P.Nodup:=by
 unfold List.Nodup
 refine List.Pairwise.imp (fun {a b} z (e:a=b)=>?_) h
 subst e
 exact vS hd z
structure ji(d:Int)(P fs:List N3):Prop where
 up:cK d P
 mem:∀x,x∈P↔x∈fs
noncomputable def ents(P:List N3):List (List Int×PyData):=P.zipIdx.map fun x=>(Au x.1,.int (x.2:Nat))
theorem HG{P:List N3}{x:N3}:ents (P++[x])=ents P++[(Au x,.int (P.length:Nat))]:=by
 unfold ents
 rw[List.zipIdx_append,map_append]
 simp
noncomputable def book(P:List N3):List (List Int×PyData):=putAll (ents P)
theorem HX{P:List N3}{x:N3}:book (P++[x])=mY (book P) (Au x) (.int (P.length:Nat)):=by unfold book;rw[HG,putAll_snoc]
theorem snoc_ind{α:Type}{p:List α->Prop}(h0:p [])(h1:∀l x,p l->p (l++[x]))(l:List α):p l:=by
 rw[<- List.reverse_reverse l]
 generalize l.reverse=r
 induction r with
 |nil=>exact h0
 |cons a r ih=>rw[List.reverse_cons];exact h1 _ _ ih
theorem oV{x:N3}(P:List N3):P.Nodup->x∈P->d8 (book P) (Au x)=some (.int (P.idxOf x:Nat)):=by
 refine snoc_ind (p:=fun P=>P.Nodup->x∈P->d8 (book P) (Au x)=some (.int (P.idxOf x:Nat))) (fun _ h=>absurd h not_mem_nil) (fun P y ih hn hx=>?_) P
 rw[HX,Iy]
 have hn':=List.nodup_append.mp hn
 rw[List.idxOf_append]
 by_cases e:x=y
 ·subst e
  have hxp:x ∉ P:=fun m=>hn'.2.2 x m x mem_cons_self rfl
  rw[if_pos rfl,if_neg hxp,List.idxOf_cons_self,Nat.zero_add]
 ·have hxp:x∈P:=by
   rcases List.mem_append.mp hx with m|m
   ·exact m
   ·exact absurd (List.mem_singleton.mp m) e
  rw[if_neg (fun z=>e (JC z)),if_pos hxp,ih hn'.1 hxp]
noncomputable def GW:PyData->Option (List Int×PyData)
 |.tuple [i,.tuple [.int a,.int b,.int c]]=>some ([a,b,c],i)
 |_=>none
theorem zV(P:List N3):(jX 0 (P.map dN)).filterMap GW=ents P:=by
 unfold ents
 have h:∀j,(jX j (P.map dN)).filterMap GW=(P.zipIdx j).map fun x=>(Au x.1,PyData.int (x.2:Nat)):=by
  induction P with
  |nil=>intro j;rfl
  |cons x P ih=>
   intro j
   rw[map_cons,List.zipIdx_cons,map_cons,<- ih]
   rfl
 exact h 0
theorem C8{P:List N3}{x:PyData}(h:x∈jX 0 (P.map dN)):∃(i:Nat) (m:N3),x = .tuple [.int (i:Nat),dN m]/\m∈P:=by
 have k:∀j,x∈jX j (P.map dN)->∃(i:Nat) (m:N3),x = .tuple [.int (i:Nat),dN m]/\m∈P:=by
  clear h
  induction P with
  |nil=>intro j h;exact absurd h not_mem_nil
  |cons y P ih=>
   intro j h
   rw[map_cons] at h
   rcases List.mem_cons.mp h with rfl|h
   ·exact⟨j,y,rfl,mem_cons_self⟩
   ·obtain⟨i,m,e,hm⟩:=ih _ h
    exact⟨i,m,e,mem_cons_of_mem _ hm⟩
 exact k 0 h
theorem Eu{xs:List PyData}:(jX 0 xs).length=xs.length:=by
 have h:∀j,(jX j xs).length=xs.length:=by
  induction xs with
  |nil=>intro j;rfl
  |cons y P ih=>intro j;show (jX (j+1) P).length+1=_;rw[ih];rfl
 exact h 0
noncomputable def d7(P Q:List N3)(t:Tl):GR.Bx:=⟨P.idxOf t.x,P.idxOf (plus t.x t.w),Q.idxOf t.y,Q.idxOf (plus t.y t.h)⟩
structure OnM(P Q:List N3)(t:Tl):Prop where
 l:t.x∈P
 r:plus t.x t.w∈P
 b:t.y∈Q
 t:plus t.y t.h∈Q
noncomputable def qK(x:Nat×Nat):List Int:=[(x.1:Nat),(x.2:Nat)]
theorem Ji{x y:Nat×Nat}(h:qK x=qK y):x=y:=by
 unfold qK at h
 simp only[List.cons.injEq,and_true,Int.natCast_inj] at h
 exact Prod.ext h.1 h.2
theorem wb{x:Nat×Nat}{l:List (Nat×Nat)}:qK x∈l.map qK↔x∈l:=by
 rw[mem_map]
 constructor
 ·rintro ⟨y,h,e⟩;exact Ji e▸h
 ·intro h;exact⟨x,h,rfl⟩
theorem zk{α β:Type}{f:α->List β}{l:List α}{i:Nat}{x:α}(h:l[i]? = some x):(l.take (i+1)).flatMap f=(l.take i).flatMap f++f x:=by
 rw[take_succ,h,flatMap_append]
 simp
theorem Dg{α β:Type}{f:α->List β}{l:List α}{i:Nat}:(l.take i).flatMap f <+: l.flatMap f:=by
 conv=>rhs;rw[<- List.take_append_drop i l,flatMap_append]
 exact List.prefix_append _ _
theorem Jx{a b i:Nat}(h:i<b-a):(GR.run a b)[i]? = some (a+i):=by
 unfold GR.run
 rw[getElem?_map,List.getElem?_range h]
 rfl
local macro_rules|`(tactic| walk_at "rb")=>mkW "Hg NV JP ↓RD ↓l_t ↓l_f l_T l_F R1 R5 EV decide_true decide_false Bool.xor_true Bool.true_xor ↓xq ↓yo ↓A0 ↓tK ↓xK ↓B6 ↓we ↓BR ↓Bj ↓AD ↓vY ↓q_c ↓Rj ↓q_B ↓NK ↓GZ ↓GY ↓NW ↓AG ↓KZ ↓Bq ↓yv ↓qw ↓Em ↓C5 ↓AL ↓D1 ↓Ea ↓Dl ↓G8 ↓Ha ↓xh ↓Bp ↓Bz ↓wc ↓xb ↓wQ ↓Ba ↓xE ↓uO ↓Hx ↓Gi ↓Hz ↓AM ↓Bn ↓LY ↓qQ ↓Cg ↓Hq ↓Sm ↓yp ↓B3 ↓Cc ↓BZ ↓Gw ↓AB ↓vK ↓Gh ↓Gy ↓oS ↓BS ↓vZ ↓BO ↓B5 ↓N6 ↓He ↓Bs ↓wR ↓Ds ↓BU ↓NQ ↓vR ↓Jl ↓F7 ↓F9 ↓AI ↓sQ ↓vX ↓qM ↓sF ↓sO Lg A5 Aw Gj GP Hk bind_none bind_some join_some List.getElem?_cons_zero List.getElem?_cons_succ aS KO EO FC Fe Ek pH wz yd Ag DD map_cons map_nil List.append List.replicate length_cons length_nil Nat.reduceAdd Nat.reduceSub nil_append cons_append set_cons_zero set_cons_succ map_some Bool.not_true Bool.not_false false_eq_true Bool.true_eq_false xor_false false_xor ↓Gb ↓Hj ↓G3 ↓GA ↓Gp ↓Cz ↓CS ↓Jg ↓Og ↓Li ↓Dj"
noncomputable def LD(P Q:List N3)(ts:List Tl):Prop:=P.Nodup/\Q.Nodup/\P≠[]/\Q≠[]/\P.length<=900/\Q.length<=900/\ts.length<=900/\(∀t∈ts,OnM P Q t)/\(P.length-1)*(Q.length-1)<=9000
noncomputable def tT:DSp:=fun ds U K=>∃(P Q:List N3) (ts:List Tl),ds=[.v (.list (ts.map tD)),.v (.list (P.map dN)),.v (.list (Q.map dN))]/\LD P Q ts /\
 ∀Z,gJ U Z->K (.v (.bool (GR.ui (ts.map (d7 P Q)) (P.length-1) (Q.length-1)))) Z
noncomputable def ye:DSp:=fun ds U K=>∃(P Q:List N3) (ts:List Tl),ds=[.v (.list (ts.map tD)),.v (.list (P.map dN)),.v (.list (Q.map dN))]/\LD P Q ts /\
 K (.v (.bool (GR.ui (ts.map (d7 P Q)) (P.length-1) (Q.length-1)))) U
theorem yN{ds:List D}{U:Mu}{Q:DK}(h:tT ds U Q):ds.length=3:=by obtain⟨_,_,_,rfl,_⟩:=h;rfl
theorem vf{ds:List D}{U:Mu}{Qd:DK}(h:ye ds U Qd):tT ds U (frz U Qd):=by
 obtain⟨P,Q,ts,rfl,pre,q⟩:=h
 exact⟨P,Q,ts,rfl,pre,fun Z sb=>⟨sb,q⟩⟩
noncomputable def oF:DSp:=fun ds U Q=>∃(d:Int) (fs:List N3),ds=[.v (.int d),.v (.list (fs.map dN))]/\ay d/\(∀m∈fs,Ok m/\Bd 4400 m)/\fs.length<=1000 /\
 ∀ms,ji d ms fs->Q (.v (.list (ms.map dN))) U
theorem tG{ds:List D}{U:Mu}{Qd:DK}(h:oF ds U Qd):yr ds U (frz U Qd):=by
 obtain⟨d,fs,rfl,hd,g,hl,q⟩:=h
 exact⟨d,fs,rfl,hd,g,hl,fun p ms Z hp sb hm hr hms=>⟨⟨hp,sb⟩,_,hm,q ms ⟨hr,hms⟩⟩⟩
noncomputable def jf:DTS:=
 (aP (br (xM [none,none] (BV (ah (ai 1) au)) (dD 2 (aG (ar 0) (aG (ar 1) dO))) kP (ai 1) (ai 0)) (ar 3))
 (aP (br (xM [none,none] (BV (ah (ai 2) au)) (dD 2 (aG (ar 0) (aG (ar 1) dO))) kP (ai 1) (ai 0)) (ar 4))
 (aP (br AU (ar 5))
 (aP (yq (lu (ai 0)) (dD 4 (aG (ar 6) (aG (ar 7) (aG (ar 8) (aG (ar 9) dO))))) (yq (w5 (ah (Ib (ai 3) (ai 6)) (ah (Ib (ai 3) (ai 7)) au))) (ar 10) (yq (w5 (ah (Ib (ai 4) (ai 8)) (ah (Ib (ai 4) (ai 9)) au))) (ar 11) (aP (dA (dB (dOp (Qw false) (bF (ah (ai 10) (ah (ai 11) au))) (ai 5))) (bI (dC (.bool false))) bV)
 (uB (Kw (ai 5) (bF (ah (ai 10) (ah (ai 11) au)))))))))
 (bI (dOp (dP false) (dCB Lj (ah (ai 5) au)) (cO (mP (dCB dq (ah (ai 1) au)) (dC (.int 1))) (mP (dCB dq (ah (ai 2) au)) (dC (.int 1))))))))))
section
variable {U:Mu}{Qd:DK}{ds:List D}
structure zT(U:Mu)(P Q:List N3)(pc pr ps:Addr)(done:List (Nat×Nat))(Z:Mu):Prop where
 sub:gJ U Z
 nc:U.b pc=none
 nr:U.b pr=none
 ns:U.b ps=none
 c:Z.b pc=some (.dict (book P))
 r:Z.b pr=some (.dict (book Q))
 s:Z.b ps=some (.set (done.map qK))
 nodup:done.Nodup
 sc:pc≠ps
 sr:pr≠ps
theorem zT.put{U Z:Mu}{P Q:List N3}{pc pr ps:Addr}{done:List (Nat×Nat)}{x:Nat×Nat}(h:zT U P Q pc pr ps done Z)(hx:x ∉ done):zT U P Q pc pr ps (done++[x]) (ck Z ps (.set (done.map qK++[qK x]))) where
 sub:=h.sub.box h.ns
 nc:=h.nc
 nr:=h.nr
 ns:=h.ns
 c:=by rw[cj h.sc];exact h.c
 r:=by rw[cj h.sr];exact h.r
 s:=by rw[bR,map_append];rfl
 nodup:=List.nodup_append.mpr ⟨h.nodup,by simp,fun a ha b hb e=>hx (by rw[List.mem_singleton.mp hb] at e;exact e▸ha)⟩
 sc:=h.sc
 sr:=h.sr
theorem Nv{P Q:List N3}{ts:List Tl}(on:∀t∈ts,OnM P Q t):∀q∈ts.map (d7 P Q),q.r<=P.length-1/\q.t<=Q.length-1:=fun q hq=>by
 obtain⟨t,ht,rfl⟩:=List.mem_map.mp hq
 have a:=GR.cE (on t ht).r
 have b:=GR.cE (on t ht).t
 show P.idxOf _<=_/\Q.idxOf _<=_
 omega
theorem sub_len{qs:List GR.Bx}{C R:Nat}(hin:∀q∈qs,q.r<=C/\q.t<=R){done:List (Nat×Nat)}(hn:done.Nodup)(hp:∀x∈done,x∈GR.cells qs):done.length<=C*R:=by
 rw[<- GR.xn]
 refine GR.pig hn fun x hx=>?_
 obtain⟨q,hq,h⟩:=GR.oE.mp (hp x hx)
 obtain⟨h1,h2⟩:=hin q hq
 exact GR.cU.mpr ⟨zero_le _,lt_of_lt_of_le h.2.1 h1,zero_le _,lt_of_lt_of_le h.2.2.2 h2⟩
theorem C6{a b:Nat}:(GR.run a b).take (b-a)=GR.run a b:=take_of_length_le (by rw[GR.oU];exact le_refl _)
theorem w6(h:tT ds U Qd):jf ‹Qd› (aS ["bounds","across","upward","columns","rows","covered","left","right","bottom","top","column","row"] ds) U:=by
 obtain⟨P,Q,ts,rfl,⟨np,nq,p0,q0,lp,lq,lt,on,few⟩,q⟩:=h
 unfold jf
 walk_at "rb"
 rw[GD]
 walk_at "rb"
 refine⟨by rw[Eu,length_map];omega,GW,?_,?_⟩
 ·intro x hx Z _
  obtain⟨i,m,rfl,_⟩:=C8 hx
  walk_at "rb"
  refine⟨trivial,trivial,?_⟩
  rw[if_pos trivial]
  exact⟨trivial,_,_,rfl,rfl,rfl⟩
 rw[zV]
 intro pc hpc
 rw[GD]
 walk_at "rb"
 refine⟨by rw[Eu,length_map];omega,GW,?_,?_⟩
 ·intro x hx Z _
  obtain⟨i,m,rfl,_⟩:=C8 hx
  walk_at "rb"
  refine⟨trivial,trivial,?_⟩
  rw[if_pos trivial]
  exact⟨trivial,_,_,rfl,rfl,rfl⟩
 rw[zV]
 intro pr hpr ps hps
 have rc:pr≠pc:=fun e=>by rw[e,bR] at hpr;cases hpr
 have sr:ps≠pr:=fun e=>by rw[e,bR] at hps;cases hps
 have sc:ps≠pc:=fun e=>by rw[e,cj rc.symm,bR] at hps;cases hps
 have hpr':U.b pr=none:=by rw[cj rc] at hpr;exact hpr
 have hps':U.b ps=none:=by rw[cj sr,cj sc] at hps;exact hps
 rw[rL]
 walk_at "rb"
 have fits:=Nv on
 refine⟨fun i ρ Z=>∃r6 r7 r8 r9 r10 r11,ρ=[some (.v (.list (ts.map tD))),some (.v (.list (P.map dN))),some (.v (.list (Q.map dN))),some (.b pc),some (.b pr),some (.b ps),r6,r7,r8,r9,r10,r11]/\zT U P Q pc pr ps (GR.cells ((ts.map (d7 P Q)).take i)) Z,
  ⟨_,_,_,_,_,_,rfl,⟨((gJ.refl.box hpc).box hpr').box hps',hpc,hpr',hps',by rw[cj sc.symm,cj rc.symm,bR];rfl,by rw[cj sr.symm,bR];rfl,by rw[bR];rfl,List.nodup_nil,sc.symm,sr.symm⟩⟩,?_,?_⟩
 ·rintro i x ρ Z hx ⟨r6,r7,r8,r9,r10,r11,rfl,st⟩
  obtain⟨t,et,rfl⟩:∃t,ts[i]? = some t/\x=tD t:=by
   rw[getElem?_map] at hx
   cases e:ts[i]? with
   |none=>rw[e] at hx;cases hx
   |some t=>rw[e] at hx;exact⟨t,rfl,(Option.some.inj hx).symm⟩
  have o:=on t (mem_of_getElem? et)
  have eb:(ts.map (d7 P Q))[i]? = some (d7 P Q t):=by rw[getElem?_map,et];rfl
  have ea:GR.cells ((ts.map (d7 P Q)).take (i+1))=GR.cells ((ts.map (d7 P Q)).take i)++GR.cellsOf (d7 P Q t):=zk eb
  have pa:GR.cells ((ts.map (d7 P Q)).take (i+1)) <+: GR.cells (ts.map (d7 P Q)):=Dg
  rw[show tD t = .tuple [dN t.x,dN (plus t.x t.w),dN t.y,dN (plus t.y t.h)] from rfl]
  walk_at "rb"
  refine⟨trivial,?_⟩
  rw[rL]
  walk_at "rb"
  refine⟨pc,_,_,_,rfl,rfl,st.c,oV P np o.l,pc,_,_,_,rfl,rfl,st.c,oV P np o.r,?_⟩
  have e1:=GR.cE o.l
  have e2:=GR.cE o.r
  have e3:=GR.cE o.b
  have e4:=GR.cE o.t
  walk_at "rb"
  refine⟨∅,fun c ρ Z=>∃r10 r11,ρ=[some (.v (.list (ts.map tD))),some (.v (.list (P.map dN))),some (.v (.list (Q.map dN))),some (.b pc),some (.b pr),some (.b ps),some (.v (dN t.x)),some (.v (dN (plus t.x t.w))),some (.v (dN t.y)),some (.v (dN (plus t.y t.h))),r10,r11] /\
   zT U P Q pc pr ps (GR.cells ((ts.map (d7 P Q)).take i)++((GR.run (P.idxOf t.x) (P.idxOf (plus t.x t.w))).take c).flatMap fun a=>(GR.run (Q.idxOf t.y) (Q.idxOf (plus t.y t.h))).map fun b=>(a,b)) Z,⟨_,_,rfl,by rw[List.take_zero,List.flatMap_nil,append_nil];exact st⟩,?_,?_⟩
  ·rintro c x ρ bn hx2 ⟨s10,s11,rfl,st2⟩
   obtain⟨rfl,hc⟩:=wM hx2
   have ec:(GR.run (P.idxOf t.x) (P.idxOf (plus t.x t.w)))[c]? = some (P.idxOf t.x+c):=Jx ∅
   have eb2:GR.cells ((ts.map (d7 P Q)).take i)++((GR.run (P.idxOf t.x) (P.idxOf (plus t.x t.w))).take (c+1)).flatMap (fun a=>(GR.run (Q.idxOf t.y) (Q.idxOf (plus t.y t.h))).map fun b=>(a,b))=(GR.cells ((ts.map (d7 P Q)).take i)++((GR.run (P.idxOf t.x) (P.idxOf (plus t.x t.w))).take c).flatMap fun a=>(GR.run (Q.idxOf t.y) (Q.idxOf (plus t.y t.h))).map fun b=>(a,b))++(GR.run (Q.idxOf t.y) (Q.idxOf (plus t.y t.h))).map fun b=>(P.idxOf t.x+c,b):=by
    rw[zk ec,append_assoc]
   have pb:GR.cells ((ts.map (d7 P Q)).take i)++((GR.run (P.idxOf t.x) (P.idxOf (plus t.x t.w))).take (c+1)).flatMap (fun a=>(GR.run (Q.idxOf t.y) (Q.idxOf (plus t.y t.h))).map fun b=>(a,b)) <+: GR.cells ((ts.map (d7 P Q)).take (i+1)):=by
    rw[ea]
    exact (List.prefix_append_right_inj _).mpr Dg
   generalize GR.cells ((ts.map (d7 P Q)).take i)++((GR.run (P.idxOf t.x) (P.idxOf (plus t.x t.w))).take c).flatMap (fun a=>(GR.run (Q.idxOf t.y) (Q.idxOf (plus t.y t.h))).map fun b=>(a,b))=pre at st2 eb2
   walk_at "rb"
   rw[rL]
   walk_at "rb"
   refine⟨pr,_,_,_,rfl,rfl,st2.r,oV Q nq o.b,pr,_,_,_,rfl,rfl,st2.r,oV Q nq o.t,?_⟩
   walk_at "rb"
   refine⟨∅,fun k ρ Z=>∃r11,ρ=[some (.v (.list (ts.map tD))),some (.v (.list (P.map dN))),some (.v (.list (Q.map dN))),some (.b pc),some (.b pr),some (.b ps),some (.v (dN t.x)),some (.v (dN (plus t.x t.w))),some (.v (dN t.y)),some (.v (dN (plus t.y t.h))),some (.v (.int ((P.idxOf t.x:Nat)+(c:Nat)))),r11] /\
    zT U P Q pc pr ps (pre++((GR.run (Q.idxOf t.y) (Q.idxOf (plus t.y t.h))).take k).map fun b=>(P.idxOf t.x+c,b)) Z,⟨_,rfl,by rw[List.take_zero,map_nil,append_nil];exact st2⟩,?_,?_⟩
   ·rintro k x ρ dl hx3 ⟨s11,rfl,st3⟩
    obtain⟨rfl,hk⟩:=wM hx3
    have ek:(GR.run (Q.idxOf t.y) (Q.idxOf (plus t.y t.h)))[k]? = some (Q.idxOf t.y+k):=Jx ∅
    have es:pre++((GR.run (Q.idxOf t.y) (Q.idxOf (plus t.y t.h))).take (k+1)).map (fun b=>(P.idxOf t.x+c,b))=(pre++((GR.run (Q.idxOf t.y) (Q.idxOf (plus t.y t.h))).take k).map fun b=>(P.idxOf t.x+c,b))++[(P.idxOf t.x+c,Q.idxOf t.y+k)]:=by
     rw[take_succ,ek,map_append,append_assoc]
     rfl
    have pk:pre++((GR.run (Q.idxOf t.y) (Q.idxOf (plus t.y t.h))).take (k+1)).map (fun b=>(P.idxOf t.x+c,b)) <+: GR.cells (ts.map (d7 P Q)):=by
     refine List.IsPrefix.trans ?_ (pb.trans pa)
     rw[eb2]
     exact (List.prefix_append_right_inj _).mpr (by rw[map_take];exact List.take_prefix _ _)
    have pk0:pre++((GR.run (Q.idxOf t.y) (Q.idxOf (plus t.y t.h))).take k).map (fun b=>(P.idxOf t.x+c,b)) <+: GR.cells (ts.map (d7 P Q)):=List.IsPrefix.trans (by rw[es];exact List.prefix_append _ _) pk
    rw[es] at pk
    generalize pre++((GR.run (Q.idxOf t.y) (Q.idxOf (plus t.y t.h))).take k).map (fun b=>(P.idxOf t.x+c,b))=done at st3 es pk pk0
    have le:done.length<=9000:=le_trans (sub_len fits st3.nodup fun x hx=>pk0.subset hx) few
    have kc:tN (.v (.tuple [.int ((P.idxOf t.x:Nat)+(c:Nat)),.int ((Q.idxOf t.y:Nat)+(k:Nat))]))=some (qK (P.idxOf t.x+c,Q.idxOf t.y+k)):=by
     show some _=some _
     unfold qK
     simp only[Int.natCast_add]
    walk_at "rb"
    refine⟨_,ps,_,kc,rfl,st3.s,by show (done.map qK).length<=9800;rw[length_map];omega,fun z=>absurd z ⋯,?_⟩
    walk_at "rb"
    by_cases cc:(P.idxOf t.x+c,Q.idxOf t.y+k)∈done
    ·rw[ng (by show decide _=true;exact decide_eq_true (wb.mpr cc))]
     walk_at "rb"
     have e:GR.ui (ts.map (d7 P Q)) (P.length-1) (Q.length-1)=false:=by
      unfold GR.ui
      rw[decide_eq_false,Bool.false_and]
      intro hn
      have:=List.nodup_append.mp (hn.sublist pk.sublist)
      exact this.2.2 _ cc _ mem_cons_self rfl
     rw[e] at q
     exact q _ st3.sub
    ·rw[mz (by show ¬ decide _=true;rw[decide_eq_true_iff,wb];exact cc)]
     walk_at "rb"
     refine⟨ps,_,rfl,st3.s,_,_,kc,st3.s,by rw[length_map];omega,fun z=>cc (wb.mp z),?_⟩
     exact⟨_,rfl,by rw[es];exact st3.put cc⟩
   ·rintro ρ dl ⟨s11,rfl,st3⟩
    rw[nL,show ((Q.idxOf (plus t.y t.h):Nat)-(Q.idxOf t.y:Nat):Int).toNat=Q.idxOf (plus t.y t.h)-Q.idxOf t.y by omega,C6] at st3
    exact⟨_,_,rfl,by rw[eb2];exact st3⟩
  ·rintro ρ dl ⟨s10,s11,rfl,st3⟩
   rw[nL,show ((P.idxOf (plus t.x t.w):Nat)-(P.idxOf t.x:Nat):Int).toNat=P.idxOf (plus t.x t.w)-P.idxOf t.x by omega,C6] at st3
   exact⟨_,_,_,_,_,_,rfl,by rw[ea];exact st3⟩
 ·rintro ρ Z ⟨r6,r7,r8,r9,r10,r11,rfl,st⟩
  rw[take_of_length_le (by rw[length_map,length_map];exact le_refl _)] at st
  have le:(GR.cells (ts.map (d7 P Q))).length<=9000:=le_trans (sub_len fits st.nodup fun x hx=>hx) few
  walk_at "rb"
  refine⟨ps,_,rfl,st.s,by show (List.map qK _).length<=9800;rw[length_map];omega,?_⟩
  walk_at "rb"
  have:=q Z st.sub
  have l1:0<P.length:=List.length_pos_iff.mpr p0
  have l2:0<Q.length:=List.length_pos_iff.mpr q0
  rw[length_map,length_map,show ((P.length:Nat):Int)-1=((P.length-1:Nat):Int) by omega,show ((Q.length:Nat):Int)-1=((Q.length-1:Nat):Int) by omega]
  refine⟨jM (Sz.of (n:=10) ∅) (Sz.of (n:=10) ∅) ⋯,?_⟩
  have e:decide (((CW (Box.set (List.map qK (GR.cells (List.map (d7 P Q) ts)))):Nat):Int)=((P.length-1:Nat):Int)*((Q.length-1:Nat):Int))=GR.ui (List.map (d7 P Q) ts) (P.length-1) (Q.length-1):=by
   unfold GR.ui
   rw[decide_eq_true st.nodup,Bool.true_and]
   refine decide_eq_decide.mpr ?_
   show ((List.map qK (GR.cells (List.map (d7 P Q) ts))).length:Int)=_↔_
   rw[length_map,<- Int.natCast_mul,Int.natCast_inj]
  rw[e]
  exact this
end
structure uD(d:Int)(t:Tl):Prop where
 ox:Ok t.x
 oy:Ok t.y
 ow:Ok t.w
 oh:Ok t.h
 sx:0<=sg d t.x.a t.x.b
 sy:0<=sg d t.y.a t.y.b
 sw:sg d t.w.a t.w.b=1
 sh:sg d t.h.a t.h.b=1
structure uR(d:Int)(w h:N3)(ts:List Tl):Prop where
 ow:Ok w
 oh:Ok h
 sw:sg d w.a w.b=1
 sh:sg d h.a h.b=1
 some:1<=ts.length
 few:ts.length<=60
 tile:∀t∈ts,uD d t
noncomputable def fg(w h:N3)(ts:List Tl):PyData:=.tuple [dN w,dN h,.tuple (ts.map tlD)]
structure Bd4(n:Nat)(t:Tl):Prop where
 x:Bd n t.x
 y:Bd n t.y
 w:Bd n t.w
 h:Bd n t.h
noncomputable def Me(m:Nat)(ts:List Tl):Prop:=∃X Y:List N3,(∀t∈ts,OnM X Y t)/\X.length<=200/\Y.length<=200/\X.length*Y.length<=m
noncomputable def iP(ts:List Tl):List N3:=ts.flatMap fun t=>[t.x,plus t.x t.w]
noncomputable def iQ(ts:List Tl):List N3:=ts.flatMap fun t=>[t.y,plus t.y t.h]
noncomputable def Di(t:PyData):Prop:=Jh t/\∀w h ts,t=fg w h ts->Bd 2100 w/\Bd 2100 h/\(∀t∈ts,Bd4 2100 t)/\Me 8000 ts
noncomputable def oA(d:Int)(t:PyData)(b:Bool):Prop:=(pj d t=false->b=false)/\∀w h ts,t=fg w h ts->uR d w h ts ->
 ∃P Q,ji d P (iP ts)/\ji d Q (iQ ts)/\b=(fW P w&&(fW Q h&&GR.ui (ts.map (d7 P Q)) (P.length-1) (Q.length-1)))
noncomputable def nO:DSp:=fun ds U K=>∃(d:Int) (t:PyData),ds=[.v (.int d),.v t]/\ay d/\Di t/\∀b,oA d t b->K (.v (.bool b)) U
theorem Br{ds:List D}{U:Mu}{Q:DK}(h:nO ds U Q):ds.length=2:=by obtain⟨_,_,rfl,_⟩:=h;rfl
noncomputable def lL:DTS:=
 (aP (dA (eo (dB (ax vN (ah (ai 0) (ah (ai 1) au))))) (bI (dC (.bool false))) bV)
 (aP (br (ai 1) (dD 3 (aG (ar 2) (aG (ar 3) (aG (ar 4) dO)))))
 (aP (br (gS [none] (sJ (ai 4)) (ar 0) kP (ax oD (ah (ai 0) au))) (ar 5))
 (aP (br (ax oF (ah (ai 0) (ah (wj [none,none,none,none,none] (lu (ai 5)) (dD 4 (aG (ar 0) (aG (ar 1) (aG (ar 2) (aG (ar 3) dO))))) (sJ (bF (ah (ai 0) (ah (ai 1) au)))) (ar 4) (ai 4)) au))) (ar 6))
 (aP (br (ax oF (ah (ai 0) (ah (wj [none,none,none,none,none] (lu (ai 5)) (dD 4 (aG (ar 0) (aG (ar 1) (aG (ar 2) (aG (ar 3) dO))))) (sJ (bF (ah (ai 2) (ah (ai 3) au)))) (ar 4) (ai 4)) au))) (ar 7))
 (bI (mI (ax qC (ah (ai 6) (ah (ai 2) au))) (mI (ax qC (ah (ai 7) (ah (ai 3) au))) (ax ye (ah (ai 5) (ah (ai 6) (ah (ai 7) au))))))))))))
section
variable {U:Mu}{Qd:DK}{ds:List D}
theorem rZ{d:Int}{t:PyData}(h:dY d t=true):∃x:N3,t=dN x/\Ok x/\sg d x.a x.b=1:=by
 cases n:isNum t with
 |false=>rw[yi n] at h;cases h
 |true=>
  obtain⟨x,rfl,ox⟩:=gN n
  rw[k8 ox] at h
  exact⟨x,rfl,ox,of_decide_eq_true h⟩
theorem Nr{d:Int}{t:PyData}(h:kC d t=true):∃tl,t=tlD tl/\uD d tl:=by
 by_cases ht:∃xs,t = .tuple xs
 ·obtain⟨xs,rfl⟩:=ht
  by_cases l:xs.length=4
  ·obtain⟨a,b,c,e,rfl⟩:=FW l
   rw[BI] at h
   simp only[and_eq_true,decide_eq_true_iff] at h
   obtain⟨⟨na,nb,sa,sb⟩,hc,he⟩:=h
   obtain⟨x,rfl,ox⟩:=gN na
   obtain⟨y,rfl,oy⟩:=gN nb
   obtain⟨w,rfl,ow,sw⟩:=rZ hc
   obtain⟨k,rfl,ok,sk⟩:=rZ he
   exact⟨⟨x,y,w,k⟩,rfl,ox,oy,ow,ok,sa,sb,sw,sk⟩
  ·rw[zY l] at h;cases h
 ·rw[zq ht] at h;cases h
theorem JM{d:Int}{ts:List PyData}(h:ts.all (kC d)=true):∃us:List Tl,ts=us.map tlD/\∀t∈us,uD d t:=by
 induction ts with
 |nil=>exact⟨[],rfl,fun _ z=>absurd z not_mem_nil⟩
 |cons t ts ih=>
  rw[List.all_cons,and_eq_true] at h
  obtain⟨us,rfl,g⟩:=ih h.2
  obtain⟨tl,rfl,v⟩:=Nr h.1
  exact⟨tl::us,rfl,fun x hx=>by
   rcases List.mem_cons.mp hx with rfl|hx
   ·exact v
   ·exact g x hx⟩
theorem FP{d:Int}{t:PyData}(h:pj d t=true):∃w k ts,t=fg w k ts/\uR d w k ts:=by
 by_cases ht:∃xs,t = .tuple xs
 ·obtain⟨xs,rfl⟩:=ht
  by_cases l:xs.length=3
  ·obtain⟨a,b,c,rfl⟩:=CO l
   by_cases hc:∃ts,c = .tuple ts
   ·obtain⟨ts,rfl⟩:=hc
    unfold pj at h
    simp only[and_eq_true,decide_eq_true_iff] at h
    obtain⟨ha,hb,h1,h2,h3⟩:=h
    obtain⟨w,rfl,ow,sw⟩:=rZ ha
    obtain⟨k,rfl,ok,sk⟩:=rZ hb
    obtain⟨us,rfl,g⟩:=JM h3
    rw[length_map] at h1 h2
    exact⟨w,k,us,rfl,ow,ok,sw,sk,h1,h2,g⟩
   ·rw[BX hc] at h;cases h
  ·rw[Aj l] at h;cases h
 ·rw[zG ht] at h;cases h
theorem vG{t u:Tl}(h:tlD t=tlD u):t=u:=by
 cases t;cases u
 unfold tlD at h
 injection h with h
 simp only[List.cons.injEq,and_true] at h
 obtain⟨h1,h2,h3,h4⟩:=h
 rw[p7 h1,p7 h2,p7 h3,p7 h4]
theorem Ee:∀{xs ys:List Tl},xs.map tlD=ys.map tlD->xs=ys
 |[],[],_=>rfl
 |[],_::_,h=>by cases h
 |_::_,[],h=>by cases h
 |x::xs,y::ys,h=>by
  rw[map_cons,map_cons] at h
  injection h with h1 h2
  rw[vG h1,Ee h2]
theorem Dh{w h w' h':N3}{ts ts':List Tl}(e:fg w h ts=fg w' h' ts'):w=w'/\h=h'/\ts=ts':=by
 unfold fg at e
 injection e with e
 simp only[List.cons.injEq,and_true,PyData.tuple.injEq] at e
 exact⟨p7 e.1,p7 e.2.1,Ee e.2.2⟩
theorem Ab{d:Int}(hd:ay d){P fs X:List N3}(m:ji d P fs)(h:∀x∈fs,x∈X):P.length<=X.length:=GR.pig (l8 hd m.up) fun x hx=>h x ((m.mem x).mp hx)
theorem Kf{X Y:List N3}{ts:List Tl}(on:∀t∈ts,OnM X Y t):(∀x∈iP ts,x∈X)/\(∀y∈iQ ts,y∈Y):=by
 constructor
 ·intro x hx
  obtain⟨t,ht,h⟩:=List.mem_flatMap.mp hx
  simp only[mem_cons,not_mem_nil,or_false] at h
  rcases h with rfl|rfl
  ·exact (on t ht).l
  ·exact (on t ht).r
 ·intro x hx
  obtain⟨t,ht,h⟩:=List.mem_flatMap.mp hx
  simp only[mem_cons,not_mem_nil,or_false] at h
  rcases h with rfl|rfl
  ·exact (on t ht).b
  ·exact (on t ht).t
theorem rX{d:Int}{P Q:List N3}{ts:List Tl}(mp:ji d P (iP ts))(mq:ji d Q (iQ ts)):∀t∈ts,OnM P Q t:=fun t ht=>
 ⟨(mp.mem _).mpr (List.mem_flatMap.mpr ⟨t,ht,mem_cons_self⟩),(mp.mem _).mpr (List.mem_flatMap.mpr ⟨t,ht,mem_cons_of_mem _ mem_cons_self⟩),(mq.mem _).mpr (List.mem_flatMap.mpr ⟨t,ht,mem_cons_self⟩),(mq.mem _).mpr (List.mem_flatMap.mpr ⟨t,ht,mem_cons_of_mem _ mem_cons_self⟩)⟩
theorem Kn{d:Int}{ts:List Tl}(v:∀t∈ts,uD d t)(b:∀t∈ts,Bd4 2100 t):∀m∈iP ts,Ok m/\Bd 4400 m:=fun m hm=>by
 obtain⟨t,ht,h⟩:=List.mem_flatMap.mp hm
 have V:=v t ht
 have B:=b t ht
 simp only[mem_cons,not_mem_nil,or_false] at h
 rcases h with rfl|rfl
 ·exact⟨V.ox,B.x.mono ⋯⟩
 ·exact⟨aW V.ox V.ow,(cN V.ox V.ow B.x B.w).mono ⋯⟩
theorem JQ{d:Int}{ts:List Tl}(v:∀t∈ts,uD d t)(b:∀t∈ts,Bd4 2100 t):∀m∈iQ ts,Ok m/\Bd 4400 m:=fun m hm=>by
 obtain⟨t,ht,h⟩:=List.mem_flatMap.mp hm
 have V:=v t ht
 have B:=b t ht
 simp only[mem_cons,not_mem_nil,or_false] at h
 rcases h with rfl|rfl
 ·exact⟨V.oy,B.y.mono ⋯⟩
 ·exact⟨aW V.oy V.oh,(cN V.oy V.oh B.y B.h).mono ⋯⟩
theorem tF{ts:List Tl}:(iP ts).length=2*ts.length:=by
 unfold iP
 induction ts with
 |nil=>rfl
 |cons t ts ih=>rw[flatMap_cons,length_append,ih,length_cons];simp only[length_cons,length_nil];omega
theorem sV{ts:List Tl}:(iQ ts).length=2*ts.length:=by
 unfold iQ
 induction ts with
 |nil=>rfl
 |cons t ts ih=>rw[flatMap_cons,length_append,ih,length_cons];simp only[length_cons,length_nil];omega
noncomputable def f2X:PyData->List PyData
 |.tuple [a,b,_,_]=>[a,b]
 |_=>[]
noncomputable def f2Y:PyData->List PyData
 |.tuple [_,_,a,b]=>[a,b]
 |_=>[]
theorem Lw(ts:List Tl):(ts.map tD).flatMap f2X=(iP ts).map dN:=by
 induction ts with
 |nil=>rfl
 |cons t ts ih=>rw[map_cons,flatMap_cons,ih];rfl
theorem J5(ts:List Tl):(ts.map tD).flatMap f2Y=(iQ ts).map dN:=by
 induction ts with
 |nil=>rfl
 |cons t ts ih=>rw[map_cons,flatMap_cons,ih];rfl
theorem M3{d:Int}{t:Tl}(v:uD d t):kC d (tlD t)=true:=by
 unfold tlD
 rw[BI,sj v.ox,sj v.oy,vJ,vJ,decide_eq_true v.sx,decide_eq_true v.sy,k8 v.ow,k8 v.oh,decide_eq_true v.sw,decide_eq_true v.sh]
 rfl
theorem Mo{d:Int}{w k:N3}{ts:List Tl}(v:uR d w k ts):pj d (fg w k ts)=true:=by
 show (dY d (dN w)&&(dY d (dN k)&&(decide (1<=(ts.map tlD).length)&&(decide ((ts.map tlD).length<=60)&&(ts.map tlD).all (kC d)))))=true
 rw[k8 v.ow,k8 v.oh,decide_eq_true v.sw,decide_eq_true v.sh,length_map,decide_eq_true v.some,decide_eq_true v.few,List.all_map]
 simp only[Bool.true_and]
 exact List.all_eq_true.mpr fun t ht=>M3 (v.tile t ht)
theorem Cp(h:nO ds U Qd):lL ‹Qd› (aS ["d","thing","width","height","tiles","bounds","across","upward"] ds) U:=by
 obtain⟨d,t,rfl,hd,⟨fp,lay⟩,q⟩:=h
 unfold lL
 walk_at "rb"
 refine⟨d,t,rfl,hd,fp,?_⟩
 walk_at "rb"
 cases fb:pj d t with
 |false=>
  rw[ng (by rfl)]
  walk_at "rb"
  exact q false ⟨fun _=>rfl,fun w k ts e v=>by rw[e,Mo v] at fb;cases fb⟩
 |true=>
  rw[mz (by simp)]
  obtain⟨w,k,ts,rfl,v⟩:=FP fb
  obtain⟨_,_,bd,X,Y,on,lX,lY,few⟩:=lay w k ts rfl
  have l60:=v.few
  have l1:=v.some
  unfold fg
  walk_at "rb"
  refine⟨trivial,?_⟩
  rw[md]
  walk_at "rb"
  refine⟨by rw[length_map];omega,fun p hp=>⟨fun i acc Z=>acc=(ts.take i).map tD/\Z=aQ U p acc,⟨rfl,rfl⟩,?_,?_⟩⟩
  ·rintro i x acc Z hx ha ⟨e0,e1⟩
   obtain⟨t,et,rfl⟩:∃t,ts[i]? = some t/\x=tlD t:=by
    rw[getElem?_map] at hx
    cases e:ts[i]? with
    |none=>rw[e] at hx;cases hx
    |some t=>rw[e] at hx;exact⟨t,rfl,(Option.some.inj hx).symm⟩
   have V:=v.tile t (mem_of_getElem? et)
   have B:=bd t (mem_of_getElem? et)
   walk_at "rb"
   refine⟨trivial,?_⟩
   rw[if_pos trivial]
   refine⟨d,t,rfl,⟨V.ox,V.oy,V.ow,V.oh,B.x,B.y,B.w,B.h⟩,?_⟩
   walk_at "rb"
   refine⟨ha,?_,?_⟩
   ·rw[e0,take_succ,et,map_append];rfl
   ·rw[e1,fO]
  rintro acc Z ⟨e0,e1⟩ ha
  rw[length_map,take_length] at e0
  subst e0
  rw[e1,tR hp]
  rw[G4]
  walk_at "rb"
  refine⟨by rw[length_map];omega,f2X,by rw[Lw,length_map,tF];omega,?_,?_⟩
  ·intro x hx Z _
   obtain⟨t,ht,rfl⟩:=List.mem_map.mp hx
   unfold tD
   walk_at "rb"
   refine⟨trivial,trivial,trivial,trivial,id,rfl,fun y hy kw _=>⟨⟨trivial,trivial,trivial,trivial,trivial⟩,trivial,rfl⟩⟩
  rw[Lw]
  refine⟨d,iP ts,rfl,hd,Kn v.tile bd,by rw[tF];omega,fun P mp=>?_⟩
  walk_at "rb"
  rw[G4]
  walk_at "rb"
  refine⟨by rw[length_map];omega,f2Y,by rw[J5,length_map,sV];omega,?_,?_⟩
  ·intro x hx Z _
   obtain⟨t,ht,rfl⟩:=List.mem_map.mp hx
   unfold tD
   walk_at "rb"
   refine⟨trivial,trivial,trivial,trivial,id,rfl,fun y hy kw _=>⟨⟨trivial,trivial,trivial,trivial,trivial⟩,trivial,rfl⟩⟩
  rw[J5]
  refine⟨d,iQ ts,rfl,hd,JQ v.tile bd,by rw[sV];omega,fun Q mq=>?_⟩
  walk_at "rb"
  have np:P≠[]:=fun e=>by
   have:iP ts≠[]:=fun z=>by have:=tF (ts:=ts);rw[z] at this;simp at this;omega
   obtain⟨x,hx⟩:=List.exists_mem_of_ne_nil _ this
   have:=(mp.mem x).mpr hx
   rw[e] at this
   exact absurd this not_mem_nil
  have nq:Q≠[]:=fun e=>by
   have:iQ ts≠[]:=fun z=>by have:=sV (ts:=ts);rw[z] at this;simp at this;omega
   obtain⟨x,hx⟩:=List.exists_mem_of_ne_nil _ this
   have:=(mq.mem x).mpr hx
   rw[e] at this
   exact absurd this not_mem_nil
  have done:∀b,b=(fW P w&&(fW Q k&&GR.ui (ts.map (d7 P Q)) (P.length-1) (Q.length-1)))->Qd (.v (.bool b)) U:=fun b e=>by
   refine q b ⟨fun z=>?_,fun w' k' ts' e' v'=>?_⟩
   ·rw[fb] at z;cases z
   ·obtain⟨rfl,rfl,rfl⟩:=Dh e'
    exact⟨P,Q,mp,mq,e⟩
  refine⟨P,w,rfl,np,?_⟩
  walk_at "rb"
  cases r1:fW P w with
  |false=>
   rw[mz ⋯]
   exact done false (by rw[r1];rfl)
  |true=>
   rw[ng rfl]
   walk_at "rb"
   refine⟨Q,k,rfl,nq,?_⟩
   walk_at "rb"
   cases r2:fW Q k with
   |false=>
    rw[mz ⋯]
    exact done false (by rw[r1,r2];rfl)
   |true=>
    rw[ng rfl]
    walk_at "rb"
    obtain⟨oX,oY⟩:=Kf on
    have fP:=Ab hd mp oX
    have fQ:=Ab hd mq oY
    have fm:(P.length-1)*(Q.length-1)<=X.length*Y.length:=mul_le_mul ∅ ∅
    refine⟨P,Q,ts,rfl,⟨l8 hd mp.up,l8 hd mq.up,np,nq,∅,∅,∅,rX mp mq,∅⟩,?_⟩
    walk_at "rb"
    exact done _ (by rw[r1,r2];rfl)
end
section
variable {U:Mu}{Qd:DK}{ds:List D}
theorem Gq{α:Type}{f:α->PyData}{es:List α}{i:Nat}{x:PyData}(h:(es.map f)[i]? = some x):∃e,es[i]? = some e/\x=f e:=by
 rw[getElem?_map] at h
 cases k:es[i]? with
 |none=>rw[k] at h;cases h
 |some e=>rw[k] at h;exact⟨e,rfl,(Option.some.inj h).symm⟩
theorem take_snoc{α:Type}{es:List α}{i:Nat}{e:α}(h:es[i]? = some e):es.take (i+1)=es.take i++[e]:=by rw[take_succ,h];rfl
end
theorem oM{x y:N3}(ox:Ok x)(oy:Ok y):plus x (less y x)=y:=
 ((aD ox).plus ox (dF oy ox) ((aD oy).less oy ox (aD ox))).eq (aW ox (dF oy ox)) oy (aD oy) (by grind) (by grind)
theorem bP{x y:N3}(ox:Ok x)(oy:Ok y):less (plus x y) x=y:=
 (((aD ox).plus ox oy (aD oy)).less (aW ox oy) ox (aD ox)).eq (dF (aW ox oy) ox) oy (aD oy) (by grind) (by grind)
theorem JS{d:Int}{x y:N3}(hd:ay d)(ox:Ok x)(oy:Ok y):dif d (plus x y) x=sg d y.a y.b:=by rw[<- ie hd (aW ox oy) ox,bP ox oy]
theorem fG{d:Int}{x:N3}:dif d x av=sg d x.a x.b:=by
 unfold dif av
 simp only[mul_one,zero_mul,Int.sub_zero]
theorem Fz{d:Int}{x:N3}(hd:ay d):0<=sg d x.a x.b↔¬ dif d av x=1:=by
 rw[dif_neg hd,fG]
 have:=kf d x.a x.b
 omega
theorem u5{d:Int}(hd:ay d){P:List N3}(up:cK d P)(nn:∀x∈P,0<=sg d x.a x.b)(h0:av∈P):P.head? = some av:=by
 cases P with
 |nil=>exact absurd h0 not_mem_nil
 |cons x P=>
  rcases List.mem_cons.mp h0 with e|e
  ·rw[<- e];rfl
  ·exact absurd ((List.pairwise_cons.mp up).1 av e) ((Fz hd).mp (nn x mem_cons_self))
theorem sU{P:List N3}{e:N3}:fW P e=true↔P.head? = some av/\P.getLast? = some e:=by unfold fW;rw[and_eq_true,decide_eq_true_iff,decide_eq_true_iff]
noncomputable def dW(xs ys:List N3)(q:GR.Bx):Tl:=⟨xs.getD q.l av,ys.getD q.b av,less (xs.getD q.r av) (xs.getD q.l av),less (ys.getD q.t av) (ys.getD q.b av)⟩
structure jO(d:Int)(xs:List N3)(C:Nat):Prop where
 len:xs.length=C+1
 up:cK d xs
 ok:∀x∈xs,Ok x
 zero:xs[0]? = some av
theorem getD_at{xs:List N3}{i:Nat}(h:i<xs.length):xs.getD i av=xs[i]:=by
 rw[getD_eq_getElem?_getD,getElem?_eq_getElem h];rfl
theorem O2{xs:List N3}{i:Nat}(nd:xs.Nodup)(h:i<xs.length):xs.idxOf xs[i]=i:=by
 have hm:xs[i]∈xs:=getElem_mem h
 have e:=GR.rP hm
 have hl:=GR.cE hm
 rcases Nat.lt_trichotomy (xs.idxOf xs[i]) i with z|z|z
 ·exact absurd e (List.pairwise_iff_getElem.mp nd _ _ hl h z)
 ·exact z
 ·exact absurd e.symm (List.pairwise_iff_getElem.mp nd _ _ h hl z)
theorem idx_map{P:List N3}{f:N3->Nat}{x:N3}(hx:x∈P)(inj:∀a∈P,∀b∈P,f a=f b->a=b):P.idxOf x=(P.map f).idxOf (f x):=by
 induction P with
 |nil=>exact absurd hx not_mem_nil
 |cons y P ih=>
  rw[map_cons,List.idxOf_cons,List.idxOf_cons]
  by_cases e:y=x
  ·subst e;simp
  ·have e2:f y≠f x:=fun z=>e (inj y mem_cons_self x hx z)
   have hx':x∈P:=by
    rcases List.mem_cons.mp hx with z|z
    ·exact absurd z.symm e
    ·exact z
   simp only[beq_iff_eq,e,e2,if_false,cond_false,beq_eq_false_iff_ne.mpr e,beq_eq_false_iff_ne.mpr e2]
   rw[ih hx' fun a ha b hb=>inj a (mem_cons_of_mem _ ha) b (mem_cons_of_mem _ hb)]
theorem EI{d:Int}(hd:ay d){xs:List N3}(up:cK d xs){a b:N3}(ha:a∈xs)(hb:b∈xs)(h:dif d b a=1):xs.idxOf a<xs.idxOf b:=by
 have ea:=GR.rP ha
 have eb:=GR.rP hb
 rcases Nat.lt_trichotomy (xs.idxOf a) (xs.idxOf b) with z|z|z
 ·exact z
 ·have:xs[xs.idxOf a]'(GR.cE ha)=xs[xs.idxOf b]'(GR.cE hb):=by congr 1
  rw[ea,eb] at this
  rw[this] at h
  exact absurd h (vS hd)
 ·have:=List.pairwise_iff_getElem.mp up _ _ (GR.cE hb) (GR.cE ha) z
  rw[ea,eb] at this
  rw[dif_neg hd,this] at h
  exact absurd h ⋯
theorem PV{d:Int}(hd:ay d){xs P:List N3}(up:cK d xs)(hp:cK d P)(sub:∀x∈P,x∈xs):GR.Up (P.map xs.idxOf):=by
 unfold GR.Up
 rw[pairwise_map]
 exact List.Pairwise.imp_of_mem (fun {a b} ha hb h=>EI hd up (sub a ha) (sub b hb) h) hp
theorem LV{d:Int}(hd:ay d){P:List N3}{w:N3}(up:cK d P)(hw:w∈P)(top:∀x∈P,¬ dif d x w=1):P.getLast? = some w:=by
 have l0:0<P.length:=length_pos_of_mem hw
 rw[List.getLast?_eq_getElem?,getElem?_eq_getElem ∅]
 have e:=GR.rP hw
 have hl:=GR.cE hw
 rcases lt_or_ge (P.idxOf w) (P.length-1) with z|z
 ·have:=List.pairwise_iff_getElem.mp up _ _ hl ∅ z
  rw[e] at this
  exact absurd this (top _ (getElem_mem _))
 ·have:P[P.idxOf w]'hl=P[P.length-1]:=by congr 1;omega
  rw[<- this,e]
theorem jO.at{d:Int}{xs:List N3}{C i:Nat}(f:jO d xs C)(h:i<=C):i<xs.length:=by have:=f.len;omega
theorem jO.gL{d:Int}{xs:List N3}{C i:Nat}(f:jO d xs C)(h:i<=C):Ok (xs.getD i av):=by rw[getD_at (f.at h)];exact f.ok _ (getElem_mem _)
theorem jO.lt{d:Int}{xs:List N3}{C i j:Nat}(f:jO d xs C)(h:i<j)(hj:j<=C):dif d (xs.getD j av) (xs.getD i av)=1:=by
 rw[getD_at (f.at hj),getD_at (f.at ∅)]
 exact List.pairwise_iff_getElem.mp f.up _ _ _ _ h
theorem jO.nn{d:Int}(hd:ay d){xs:List N3}{C i:Nat}(f:jO d xs C)(h:i<=C):0<=sg d (xs.getD i av).a (xs.getD i av).b:=by
 have z:xs.getD 0 av=av:=by rw[getD_eq_getElem?_getD,f.zero];rfl
 cases i with
 |zero=>rw[z,show sg d av.a av.b=0 from d5.mpr ⟨rfl,rfl⟩];exact Int.le_refl _
 |succ i=>
  have:=f.lt (i:=0) (j:=i+1) ∅ h
  rw[z,fG] at this
  omega
theorem jO.pos{d:Int}{xs:List N3}{C:Nat}(f:jO d xs C)(h:0<C):sg d (xs.getD C av).a (xs.getD C av).b=1:=by
 have z:xs.getD 0 av=av:=by rw[getD_eq_getElem?_getD,f.zero];rfl
 have:=f.lt (i:=0) (j:=C) h (le_refl _)
 rw[z,fG] at this
 exact this
theorem Bk{d:Int}{xs ys:List N3}{C R:Nat}(fx:jO d xs C){q:GR.Bx}(hl:q.l<q.r)(hr:q.r<=C):plus (dW xs ys q).x (dW xs ys q).w=xs.getD q.r av:=oM (fx.gL ∅) (fx.gL hr)
theorem Bc{d:Int}{xs ys:List N3}{C R:Nat}(fy:jO d ys R){q:GR.Bx}(hl:q.b<q.t)(hr:q.t<=R):plus (dW xs ys q).y (dW xs ys q).h=ys.getD q.t av:=oM (fy.gL ∅) (fy.gL hr)
theorem Pb{d:Int}(hd:ay d){xs ys:List N3}{C R:Nat}(fx:jO d xs C)(fy:jO d ys R){q:GR.Bx}(h:q.l<q.r/\q.r<=C/\q.b<q.t/\q.t<=R):uD d (dW xs ys q) where
 ox:=fx.gL ∅
 oy:=fy.gL ∅
 ow:=dF (fx.gL ∅) (fx.gL ∅)
 oh:=dF (fy.gL ∅) (fy.gL ∅)
 sx:=fx.nn hd ∅
 sy:=fy.nn hd ∅
 sw:=by
  show sg d (less _ _).a (less _ _).b=1
  rw[ie hd (fx.gL ∅) (fx.gL ∅)]
  exact fx.lt h.1 h.2.1
 sh:=by
  show sg d (less _ _).a (less _ _).b=1
  rw[ie hd (fy.gL ∅) (fy.gL ∅)]
  exact fy.lt h.2.2.1 h.2.2.2
theorem FI{d:Int}(hd:ay d){xs P es:List N3}{C:Nat}(f:jO d xs C)(hC:0<C)(mp:ji d P es)(sub:∀x∈es,x∈xs)(h0:av∈es)(h1:xs.getD C av∈es) :
  fW P (xs.getD C av)=true/\GR.Up (P.map xs.idxOf)/\(∀a∈P.map xs.idxOf,a<=C)/\(∀i,i<=C->xs.getD i av∈es->i∈P.map xs.idxOf/\P.idxOf (xs.getD i av)=(P.map xs.idxOf).idxOf i):=by
 have subP:∀x∈P,x∈xs:=fun x hx=>sub x ((mp.mem x).mp hx)
 have nd:=l8 hd f.up
 have nnx:∀x∈xs,0<=sg d x.a x.b:=fun x hx=>by
  obtain⟨i,hi,rfl⟩:=List.mem_iff_getElem.mp hx
  have:=f.nn hd (i:=i) (by have:=f.len;omega)
  rw[getD_at hi] at this
  exact this
 have inj:∀a∈P,∀b∈P,xs.idxOf a=xs.idxOf b->a=b:=fun a ha b hb e=>by
  have e1:=GR.rP (subP a ha)
  have e2:=GR.rP (subP b hb)
  have:xs[xs.idxOf a]'(GR.cE (subP a ha))=xs[xs.idxOf b]'(GR.cE (subP b hb)):=by congr 1
  rw[e1,e2] at this
  exact this
 refine⟨sU.mpr ⟨u5 hd mp.up (fun x hx=>nnx x (subP x hx)) ((mp.mem _).mpr h0),LV hd mp.up ((mp.mem _).mpr h1) fun x hx h=>?_⟩,PV hd f.up mp.up subP,fun a ha=>?_,fun i hi he=>?_⟩
 ·obtain⟨i,hi,rfl⟩:=List.mem_iff_getElem.mp (subP x hx)
  have hi':i<=C:=by have:=f.len;omega
  rcases lt_or_eq_of_le hi' with z|z
  ·have:=f.lt z (le_refl _)
   rw[getD_at hi] at this
   rw[dif_neg hd,this] at h
   exact absurd h ⋯
  ·subst z
   rw[getD_at hi] at h
   exact vS hd h
 ·obtain⟨x,hx,rfl⟩:=List.mem_map.mp ha
  have:=GR.cE (subP x hx)
  have:=f.len
  omega
 ·have hp:xs.getD i av∈P:=(mp.mem _).mpr he
  have e:xs.idxOf (xs.getD i av)=i:=by rw[getD_at (f.at hi)];exact O2 nd (f.at hi)
  refine⟨List.mem_map.mpr ⟨_,hp,e⟩,?_⟩
  rw[idx_map hp inj,e]
theorem Io{d:Int}(hd:ay d){xs ys:List N3}{C R:Nat}(fx:jO d xs C)(fy:jO d ys R)(hC:0<C)(hR:0<R){qs:List GR.Bx}(cov:GR.qG qs C R){P Q:List N3}(mp:ji d P (iP (qs.map (dW xs ys))))(mq:ji d Q (iQ (qs.map (dW xs ys)))) :
  (fW P (xs.getD C av)&&(fW Q (ys.getD R av)&&GR.ui ((qs.map (dW xs ys)).map (d7 P Q)) (P.length-1) (Q.length-1)))=true:=by
 have inX:∀q∈qs,xs.getD q.l av∈iP (qs.map (dW xs ys))/\xs.getD q.r av∈iP (qs.map (dW xs ys)):=fun q hq=>by
  have h:=cov.fits q hq
  refine⟨List.mem_flatMap.mpr ⟨_,mem_map_of_mem hq,mem_cons_self⟩,List.mem_flatMap.mpr ⟨_,mem_map_of_mem hq,?_⟩⟩
  rw[Bk (R:=R) fx h.1 h.2.1]
  exact mem_cons_of_mem _ mem_cons_self
 have inY:∀q∈qs,ys.getD q.b av∈iQ (qs.map (dW xs ys))/\ys.getD q.t av∈iQ (qs.map (dW xs ys)):=fun q hq=>by
  have h:=cov.fits q hq
  refine⟨List.mem_flatMap.mpr ⟨_,mem_map_of_mem hq,mem_cons_self⟩,List.mem_flatMap.mpr ⟨_,mem_map_of_mem hq,?_⟩⟩
  rw[Bc (C:=C) fy h.2.2.1 h.2.2.2]
  exact mem_cons_of_mem _ mem_cons_self
 have subX:∀x∈iP (qs.map (dW xs ys)),x∈xs:=fun x hx=>by
  obtain⟨t,ht,h⟩:=List.mem_flatMap.mp hx
  obtain⟨q,hq,rfl⟩:=List.mem_map.mp ht
  have g:=cov.fits q hq
  rw[Bk (R:=R) fx g.1 g.2.1] at h
  simp only[mem_cons,not_mem_nil,or_false] at h
  rcases h with rfl|rfl
  ·show xs.getD q.l av∈xs
   rw[getD_at (fx.at ∅)];exact getElem_mem _
  ·rw[getD_at (fx.at ∅)];exact getElem_mem _
 have subY:∀x∈iQ (qs.map (dW xs ys)),x∈ys:=fun x hx=>by
  obtain⟨t,ht,h⟩:=List.mem_flatMap.mp hx
  obtain⟨q,hq,rfl⟩:=List.mem_map.mp ht
  have g:=cov.fits q hq
  rw[Bc (C:=C) fy g.2.2.1 g.2.2.2] at h
  simp only[mem_cons,not_mem_nil,or_false] at h
  rcases h with rfl|rfl
  ·show ys.getD q.b av∈ys
   rw[getD_at (fy.at ∅)];exact getElem_mem _
  ·rw[getD_at (fy.at ∅)];exact getElem_mem _
 have zx:xs.getD 0 av=av:=by rw[getD_eq_getElem?_getD,fx.zero];rfl
 have zy:ys.getD 0 av=av:=by rw[getD_eq_getElem?_getD,fy.zero];rfl
 obtain⟨⟨q1,m1,e1⟩,⟨q2,m2,e2⟩,⟨q3,m3,e3⟩,⟨q4,m4,e4⟩⟩:=cov.ends hC hR
 obtain⟨r1,u1,a1,i1⟩:=FI hd fx hC mp subX (by have:=(inX q1 m1).1;rw[e1,zx] at this;exact this) (by have:=(inX q2 m2).2;rw[e2] at this;exact this)
 obtain⟨r2,u2,a2,i2⟩:=FI hd fy hR mq subY (by have:=(inY q3 m3).1;rw[e3,zy] at this;exact this) (by have:=(inY q4 m4).2;rw[e4] at this;exact this)
 rw[r1,r2,Bool.true_and,Bool.true_and]
 have g:∀q∈qs,GR.OnG (P.map xs.idxOf) (Q.map ys.idxOf) q:=fun q hq=>by
  have h:=cov.fits q hq
  exact⟨(i1 q.l ∅ (inX q hq).1).1,(i1 q.r ∅ (inX q hq).2).1,(i2 q.b ∅ (inY q hq).1).1,(i2 q.t ∅ (inY q hq).2).1⟩
 have key:=GR.PJ u1 u2 cov g a1 a2
 rw[length_map,length_map] at key
 have e:(qs.map (dW xs ys)).map (d7 P Q)=qs.map (GR.cb (P.map xs.idxOf) (Q.map ys.idxOf)):=by
  rw[map_map]
  refine List.map_congr_left fun q hq=>?_
  have h:=cov.fits q hq
  show d7 P Q (dW xs ys q)=_
  unfold d7 GR.cb
  rw[Bk (R:=R) fx h.1 h.2.1,Bc (C:=C) fy h.2.2.1 h.2.2.2,<- (i1 q.l ∅ (inX q hq).1).2,<- (i1 q.r ∅ (inX q hq).2).2,<- (i2 q.b ∅ (inY q hq).1).2,<- (i2 q.t ∅ (inY q hq).2).2]
  rfl
 rw[e]
 exact key
theorem sS.off{a f:Addr}{U Z:Mu}(hf:U f=none)(hb:Bag U a)(h:sS a U Z):sS a U (yj Z f):=by
 have af:a≠f:=fun e=>by obtain⟨g,m,h,_⟩:=hb;rw[e,hf] at h;cases h
 obtain⟨⟨g,m,e,r⟩,k⟩:=h
 refine⟨⟨g,m,by rw[si af];exact e,r⟩,fun b hb ds hd=>?_⟩
 have bf:b≠f:=fun e=>by rw[e,hf] at hd;cases hd
 rw[si bf]
 exact k b hb ds hd
section
variable {U:Mu}{Qd:DK}{ds:List D}
theorem Bag.off{U:Mu}{a f:Addr}{es:List PyData}(h:Bag U a)(n:a≠f):Bag (aQ U f es) a:=by
 obtain⟨g,m,e,r⟩:=h
 exact⟨g,m,by rw[aV n];exact e,r⟩
end
noncomputable def Six(k:Nat)(x:N3):Prop:=∃A B:Int,Rep x A B 6/\A.natAbs<=k/\B.natAbs<=k
section
variable {U:Mu}{Qd:DK}{ds:List D}
theorem E1{a p:Addr}(hb:Bag U a)(hp:U p=none):a≠p:=fun e=>by
 obtain⟨g,m,h,_⟩:=hb
 rw[e,hp] at h
 cases h
theorem p8{α:Type}:∀{l:List α} {i:Nat} {x:α},l[i]? = some x->(x::l.eraseIdx i).Perm l
 |[],i,x,h=>by cases h
 |y::l,0,x,h=>by cases h;exact .refl _
 |y::l,i+1,x,h=>by
  rw[List.eraseIdx_cons_succ]
  exact (List.Perm.swap _ _ _).trans ((p8 (l:=l) (i:=i) h).cons y)
end
structure OQ(d:Int)(xs ys:List N3)(C R:Nat)(qs:List GR.Bx):Prop where
 fx:jO d xs C
 fy:jO d ys R
 c0:0<C
 r0:0<R
 c60:C<=60
 r60:R<=60
 cr:C*R<=60
 bx:∀x∈xs,Six 3600 x
 by_:∀y∈ys,Six 3600 y
 cov:GR.qG qs C R
noncomputable def Drawn(d:Int)(t:PyData):Prop:=∃xs ys C R qs,OQ d xs ys C R qs/\t=fg (xs.getD C av) (ys.getD R av) (qs.map (dW xs ys))
section
variable {U:Mu}{Qd:DK}{ds:List D}
theorem kD{qs:List GR.Bx}{C R:Nat}(h1:qs.all (fun q=>decide (q.l<q.r)&&(decide (q.r<=C)&&(decide (q.b<q.t)&&decide (q.t<=R))))=true)(h2:GR.ui qs C R=true):GR.qG qs C R:=by
 have f:∀q∈qs,q.l<q.r/\q.r<=C/\q.b<q.t/\q.t<=R:=fun q hq=>by
  have:=List.all_eq_true.mp h1 q hq
  simp only[and_eq_true,decide_eq_true_iff] at this
  exact this
 obtain⟨a,b⟩:=(GR.xi fun q hq=>⟨(f q hq).2.1,(f q hq).2.2.2⟩).mp h2
 exact⟨f,a,b⟩
theorem Kv{α β:Type}{f:α->β}{zs m:List β}(h:zs.Perm m):∀{qs:List α},m=qs.map f->∃ps:List α,zs=ps.map f/\ps.Perm qs:=by
 induction h with
 |nil=>
  intro qs e
  cases qs with
  |nil=>exact⟨[],rfl,.refl _⟩
  |cons q qs=>cases e
 |cons x h ih=>
  intro qs e
  cases qs with
  |nil=>cases e
  |cons q qs=>
   rw[map_cons] at e
   injection e with e1 e2
   obtain⟨ps,e3,pm⟩:=ih e2
   exact⟨q::ps,by rw[map_cons,e1,e3],pm.cons q⟩
 |swap x y l=>
  intro qs e
  match qs,e with
  |a::b::rest,e=>
   rw[map_cons,map_cons] at e
   injection e with e1 e2
   injection e2 with e2 e3
   exact⟨b::a::rest,by rw[map_cons,map_cons,e1,e2,e3],.swap _ _ _⟩
 |trans h1 h2 ih1 ih2=>
  intro qs e
  obtain⟨ps,e3,pm⟩:=ih2 e
  obtain⟨ps',e4,pm'⟩:=ih1 e3
  exact⟨ps',e4,pm'.trans pm⟩
end
noncomputable def kS(n:Nat)(t:PyData):Prop:=Few t/\∀x,t=dN x->Bd n x
noncomputable def Qj(z:PyData):Prop:=∀a b c e,z≠.tuple [a,b,c,e]
noncomputable def Np(k:Nat)(ts:List Tl):Prop:=∃X Y:List N3,(∀t∈ts,OnM X Y t)/\X.length<=61+2*k/\Y.length<=61+2*k
noncomputable def Nw(k n:Nat)(t:PyData):Prop:=Jh t/\∀w h ts,t=fg w h ts->Bd n w/\Bd n h/\(∀t∈ts,Bd4 n t)/\Np k ts
structure TOk(t:Tl):Prop where
 x:Ok t.x
 y:Ok t.y
 w:Ok t.w
 h:Ok t.h
structure OB(k n:Nat)(w h:N3)(ts:List Tl):Prop where
 ow:Ok w
 oh:Ok h
 bw:Bd n w
 bh:Bd n h
 ok:∀t∈ts,TOk t
 bd:∀t∈ts,Bd4 n t
 l1:1<=ts.length
 l60:ts.length<=60
 MJ:Np k ts
section
variable {U:Mu}{Qd:DK}{ds:List D}
theorem kS.part{n:Nat}{t:PyData}(h:kS n t)(l:n<=4400):wt t:=⟨h.1,fun x e=>(h.2 x e).mono l⟩
theorem kd{n:Nat}{x:N3}(b:Bd n x):kS n (dN x):=⟨NX,fun y e=>by rw[<- p7 e];exact b⟩
theorem OnM.mono{X Y X' Y':List N3}{t:Tl}(h:OnM X Y t)(hx:∀x∈X,x∈X')(hy:∀y∈Y,y∈Y'):OnM X' Y' t:=⟨hx _ h.l,hx _ h.r,hy _ h.b,hy _ h.t⟩
theorem Jm{ts:List Tl}(ys:List PyData):∀{X Y:List N3},(∀t∈ts,OnM X Y t)->∃X' Y':List N3,X'.length<=X.length+2*ys.length/\Y'.length<=Y.length+2*ys.length/\(∀t∈ts,OnM X' Y' t)/\∀u,tlD u∈ys->OnM X' Y' u:=by
 induction ys with
 |nil=>intro X Y on;exact⟨X,Y,le_refl _,le_refl _,on,fun u h=>absurd h not_mem_nil⟩
 |cons y ys ih=>
  intro X Y on
  obtain⟨X',Y',lx,ly,on',onu⟩:=ih on
  by_cases c:∃u,y=tlD u
  ·obtain⟨u,rfl⟩:=c
   have mx:∀x∈X',x∈u.x::plus u.x u.w::X':=fun x h=>mem_cons_of_mem _ (mem_cons_of_mem _ h)
   have my:∀x∈Y',x∈u.y::plus u.y u.h::Y':=fun x h=>mem_cons_of_mem _ (mem_cons_of_mem _ h)
   refine⟨u.x::plus u.x u.w::X',u.y::plus u.y u.h::Y',?_,?_,fun t ht=>(on' t ht).mono mx my,fun v hv=>?_⟩
   ·simp only[length_cons];omega
   ·simp only[length_cons];omega
   ·rcases List.mem_cons.mp hv with e|e
    ·rw[vG e]
     exact⟨mem_cons_self,mem_cons_of_mem _ mem_cons_self,mem_cons_self,mem_cons_of_mem _ mem_cons_self⟩
    ·exact (onu v e).mono mx my
  ·refine⟨X',Y',?_,?_,on',fun v hv=>?_⟩
   ·simp only[length_cons];omega
   ·simp only[length_cons];omega
   ·rcases List.mem_cons.mp hv with e|e
    ·exact absurd ⟨v,e.symm⟩ c
    ·exact onu v e
noncomputable def EM(n:Nat)(y:PyData):Prop:=∀a b c e,y = .tuple [a,b,c,e]->kS n a/\kS n b/\kS n c/\kS n e
theorem xZ{n:Nat}{t:Tl}(h:Bd4 n t):EM n (tlD t):=fun a b c e z=>by
 unfold tlD at z
 simp only[PyData.tuple.injEq,List.cons.injEq,and_true] at z
 obtain⟨rfl,rfl,rfl,rfl⟩:=z
 exact⟨kd h.x,kd h.y,kd h.w,kd h.h⟩
theorem OW{n:Nat}{y:PyData}(h:EM n y){u:Tl}(e:y=tlD u):Bd4 n u:=by
 obtain⟨a,b,c,d⟩:=h _ _ _ _ e
 exact⟨a.2 _ rfl,b.2 _ rfl,c.2 _ rfl,d.2 _ rfl⟩
theorem D2{n:Nat}{y:PyData}(h:Qj y):EM n y:=fun a b c e z=>absurd z (h a b c e)
theorem F0{k n:Nat}{ts:List Tl}(hn:n<=4400)(g:Np k ts)(bd:∀t∈ts,Bd4 n t){a b c:PyData}(pa:kS n a)(pb:kS n b)(ys:List PyData)(hy:∀y∈ys,EM n y)
  (hc:∀zs,c = .tuple zs->zs.length<=1000/\∀z∈zs,(∃t∈ts,z=tlD t)\/z∈ys\/Qj z):Nw (k+ys.length) n (.tuple [a,b,c]):=by
 constructor
 ·intro a' b' c' e
  simp only[PyData.tuple.injEq,List.cons.injEq,and_true] at e
  obtain⟨rfl,rfl,rfl⟩:=e
  refine⟨pa.part hn,pb.part hn,fun zs ez=>⟨(hc zs ez).1,fun z hz=>?_⟩⟩
  have:EM n z:=by
   rcases (hc zs ez).2 z hz with ⟨t,ht,rfl⟩|h|h
   ·exact xZ (bd t ht)
   ·exact hy z h
   ·exact D2 h
  exact fun a b c e h=>by
   obtain⟨h1,h2,h3,h4⟩:=this a b c e h
   exact⟨h1.part hn,h2.part hn,h3.part hn,h4.part hn⟩
 ·intro w h us e
  unfold fg at e
  simp only[PyData.tuple.injEq,List.cons.injEq,and_true] at e
  obtain⟨rfl,rfl,rfl⟩:=e
  have mem:∀u∈us,u∈ts\/tlD u∈ys:=fun u hu=>by
   rcases (hc _ rfl).2 _ (mem_map_of_mem hu) with ⟨t,ht,e⟩|h|h
   ·exact .inl (vG e▸ht)
   ·exact .inr h
   ·exact absurd rfl (h _ _ _ _)
  obtain⟨X,Y,on,lx,ly⟩:=g
  obtain⟨X',Y',lx',ly',on',onu⟩:=Jm ys on
  refine⟨pa.2 _ rfl,pb.2 _ rfl,fun u hu=>?_,X',Y',fun u hu=>?_,∅,∅⟩
  ·rcases mem u hu with z|z
   ·exact bd u z
   ·exact OW (hy _ z) rfl
  ·rcases mem u hu with z|z
   ·exact on' u z
   ·exact onu u z
theorem Nw.p{k n:Nat}{t:PyData}(h:Nw k n t)(hk:k<=10)(hn:n<=2100):Di t:=by
 refine⟨h.1,fun w k' ts e=>?_⟩
 obtain⟨h1,h2,h3,X,Y,on,lx,ly⟩:=h.2 w k' ts e
 refine⟨h1.mono hn,h2.mono hn,fun t ht=>⟨(h3 t ht).x.mono hn,(h3 t ht).y.mono hn,(h3 t ht).w.mono hn,(h3 t ht).h.mono hn⟩,X,Y,on,∅,∅,?_⟩
 exact le_trans (mul_le_mul (show X.length<=81 by omega) (show Y.length<=81 by omega)) ⋯
theorem OB.q{k n:Nat}{w h:N3}{ts:List Tl}(v:OB k n w h ts)(hn:n<=4400):Nw k n (fg w h ts):=by
 have:=F0 hn v.MJ v.bd (c:=.tuple (ts.map tlD)) (kd v.bw) (kd v.bh) [] (fun _ h=>absurd h not_mem_nil) fun zs e=>by
  simp only[PyData.tuple.injEq] at e
  subst e
  have:=v.l60
  exact⟨by rw[length_map];omega,fun z hz=>by
   obtain⟨t,ht,rfl⟩:=List.mem_map.mp hz
   exact .inl ⟨t,ht,rfl⟩⟩
 exact this
theorem DZ{o:PyData}(h:o∈qJ):Qj o:=by
 simp only[qJ,mem_cons,not_mem_nil,or_false] at h
 rcases h with rfl|rfl|rfl|rfl|rfl|rfl|rfl|rfl|rfl|rfl|rfl|rfl|rfl|rfl|rfl|rfl|rfl|rfl|rfl|rfl
 all_goals intro a b c e z;first|cases z|simp at z
end
structure LG(d:Int)(xs ys:List N3)(C R:Nat)(qs:List GR.Bx):Prop where
 fx:jO d xs C
 fy:jO d ys R
 c0:0<C
 r0:0<R
 cov:GR.qG qs C R
noncomputable def o5(d:Int)(w h:N3)(ts:List Tl):Prop:=∃xs ys C R qs,LG d xs ys C R qs/\w=xs.getD C av/\h=ys.getD R av/\ts=qs.map (dW xs ys)
theorem o5.Jv{d:Int}(hd:ay d){w h:N3}{ts:List Tl}(r:o5 d w h ts)(l60:ts.length<=60):uR d w h ts:=by
 obtain⟨xs,ys,C,R,qs,g,rfl,rfl,rfl⟩:=r
 refine⟨g.fx.gL (le_refl _),g.fy.gL (le_refl _),g.fx.pos g.c0,g.fy.pos g.r0,?_,l60,fun t ht=>?_⟩
 ·obtain⟨q,hq,_⟩:=g.cov.all 0 0 g.c0 g.r0
  exact length_pos_of_mem (mem_map_of_mem hq)
 ·obtain⟨q,hq,rfl⟩:=List.mem_map.mp ht
  exact Pb hd g.fx g.fy (g.cov.fits q hq)
theorem o5.yes{d:Int}(hd:ay d){w h:N3}{ts:List Tl}(r:o5 d w h ts)(l60:ts.length<=60){b:Bool}(l:oA d (fg w h ts) b):b=true:=by
 obtain⟨P,Q,mp,mq,rfl⟩:=l.2 _ _ _ rfl (r.Jv hd l60)
 obtain⟨xs,ys,C,R,qs,g,rfl,rfl,rfl⟩:=r
 exact Io hd g.fx g.fy g.c0 g.r0 g.cov mp mq
theorem o5.MJ{d:Int}{w h:N3}{ts:List Tl}(r:o5 d w h ts)(l60:ts.length<=60):Np 0 ts:=by
 obtain⟨xs,ys,C,R,qs,g,rfl,rfl,rfl⟩:=r
 have zx:xs.getD 0 av=av:=by rw[getD_eq_getElem?_getD,g.fx.zero];rfl
 have zy:ys.getD 0 av=av:=by rw[getD_eq_getElem?_getD,g.fy.zero];rfl
 have ap:∀q∈qs,∀p∈qs,∀i j,q.has i j->p.has i j->q=p:=fun q hq p hp i j h1 h2=>by
  refine Classical.byContradiction fun ne=>?_
  have:=g.cov.apart
  rcases List.mem_iff_getElem.mp hq with ⟨a,ha,rfl⟩
  rcases List.mem_iff_getElem.mp hp with ⟨b,hb,rfl⟩
  rcases Nat.lt_trichotomy a b with z|z|z
  ·exact List.pairwise_iff_getElem.mp this a b ha hb z i j h1 h2
  ·subst z;exact ne rfl
  ·exact List.pairwise_iff_getElem.mp this b a hb ha z i j h2 h1
 refine⟨av::(qs.map (dW xs ys)).map (fun t=>plus t.x t.w),av::(qs.map (dW xs ys)).map (fun t=>plus t.y t.h),fun t ht=>?_,by simp only[length_cons,length_map] at l60 ⊢;omega,by simp only[length_cons,length_map] at l60 ⊢;omega⟩
 obtain⟨q,hq,rfl⟩:=List.mem_map.mp ht
 have f:=g.cov.fits q hq
 refine⟨?_,mem_cons_of_mem _ (List.mem_map.mpr ⟨_,ht,rfl⟩),?_,mem_cons_of_mem _ (List.mem_map.mpr ⟨_,ht,rfl⟩)⟩
 ·show xs.getD q.l av∈_
  rcases Nat.eq_zero_or_pos q.l with z|z
  ·rw[z,zx];exact mem_cons_self
  ·obtain⟨p,hp,hh⟩:=g.cov.all (q.l-1) q.b ∅ ∅
   have fp:=g.cov.fits p hp
   have e:p.r=q.l:=by
    rcases lt_or_ge q.l p.r with y|y
    ·have:=ap q hq p hp q.l q.b ⟨le_refl _,f.1,le_refl _,f.2.2.1⟩ ⟨by have:=hh.1;omega,y,hh.2.2⟩
     subst this
     have:=hh.1
     omega
    ·have:=hh.2.1
     omega
   refine mem_cons_of_mem _ (List.mem_map.mpr ⟨_,mem_map_of_mem hp,?_⟩)
   rw[Bk (R:=R) g.fx fp.1 fp.2.1,e]
 ·show ys.getD q.b av∈_
  rcases Nat.eq_zero_or_pos q.b with z|z
  ·rw[z,zy];exact mem_cons_self
  ·obtain⟨p,hp,hh⟩:=g.cov.all q.l (q.b-1) ∅ ∅
   have fp:=g.cov.fits p hp
   have e:p.t=q.b:=by
    rcases lt_or_ge q.b p.t with y|y
    ·have:=ap q hq p hp q.l q.b ⟨le_refl _,f.1,le_refl _,f.2.2.1⟩ ⟨hh.1,hh.2.1,by have:=hh.2.2.1;omega,y⟩
     subst this
     have:=hh.2.2.1
     omega
    ·have:=hh.2.2.2
     omega
   refine mem_cons_of_mem _ (List.mem_map.mpr ⟨_,mem_map_of_mem hp,?_⟩)
   rw[Bc (C:=C) g.fy fp.2.2.1 fp.2.2.2,e]
theorem o5.v{d:Int}(hd:ay d){n:Nat}{w h:N3}{ts:List Tl}(r:o5 d w h ts)(l60:ts.length<=60)(bw:Bd n w)(bh:Bd n h)(bd:∀t∈ts,Bd4 n t):OB 0 n w h ts:=by
 have v:=r.Jv hd l60
 exact⟨v.ow,v.oh,bw,bh,fun t ht=>⟨(v.tile t ht).ox,(v.tile t ht).oy,(v.tile t ht).ow,(v.tile t ht).oh⟩,bd,v.some,l60,r.MJ l60⟩
structure Fh(d:Int)(n:Nat)(w h:N3)(ts:List Tl):Prop where
 root:ay d
 r:o5 d w h ts
 l60:ts.length<=60
 bw:Bd n w
 bh:Bd n h
 bd:∀t∈ts,Bd4 n t
noncomputable def oP:DSp:=fun ds U Q=>∃(d:Int) (t:PyData),ds=[.v (.int d),.v t]/\ay d/\Di t/\(∀b,oA d t b->b=true)/\Q (.v .none) U
theorem yD{ds:List D}{U:Mu}{Q:DK}(h:oP ds U Q):ds.length=2:=by obtain⟨_,_,rfl,_⟩:=h;rfl
noncomputable def gD:DTS:=
 (dA (eo (dB (ax nO (ah (ai 0) (ah (ai 1) au))))) Ci bV)
section
variable {U:Mu}{Qd:DK}{ds:List D}
theorem Fh.Jv{d:Int}{n:Nat}{w h:N3}{ts:List Tl}(L:Fh d n w h ts):uR d w h ts:=L.r.Jv L.root L.l60
theorem Fh.lp{d:Int}{n:Nat}{w h:N3}{ts:List Tl}(L:Fh d n w h ts)(hn:n<=2100):Di (fg w h ts):=((L.r.v L.root L.l60 L.bw L.bh L.bd).q ∅).p ⋯ hn
theorem Fh.yes{d:Int}{n:Nat}{w h:N3}{ts:List Tl}(L:Fh d n w h ts)(b:Bool)(l:oA d (fg w h ts) b):b=true:=L.r.yes L.root L.l60 l
theorem rY(h:oP ds U Qd):gD ‹Qd› (aS ["d","thing"] ds) U:=by
 obtain⟨d,t,rfl,hd,lp,yes,q⟩:=h
 unfold gD
 walk_at "rb"
 refine⟨d,t,rfl,hd,lp,fun b lb=>?_⟩
 obtain rfl:=yes b lb
 walk_at "rb"
 exact q
end
noncomputable def Lq(d:Int)(a b:N3):Prop:=dif d b a=1
section
variable {d:Int}{a b c:N3}
theorem uC(hd:ay d)(oa:Ok a)(ob:Ok b)(oc:Ok c)(h:Lq d a b)(g:Lq d b c):Lq d a c:=i5 hd oc ob oa g h
theorem dE(hd:ay d):¬ Lq d a a:=vS hd
theorem ke(hd:ay d)(oa:Ok a)(ob:Ok b)(h:Lq d a b):¬ Lq d b a:=fun g=>dE hd (uC hd oa ob oa h g)
theorem JI(hd:ay d)(oa:Ok a)(ob:Ok b)(h:¬ Lq d a b)(g:¬ Lq d b a):a=b:=Classical.byContradiction fun n=>g (G6 hd ob oa h n)
theorem mM(hd:ay d)(oa:Ok a)(ob:Ok b)(s:sg d b.a b.b=1):Lq d a (plus a b):=by show dif d (plus a b) a=1;rw[JS hd oa ob,s]
theorem yX(s:sg d b.a b.b=1):Lq d av b:=by show dif d b av=1;rw[fG,s]
theorem RP(hd:ay d)(h:¬ Lq d b av):0<=sg d b.a b.b:=by
 have h2:¬ dif d av b=1:=h
 rw[dif_neg hd,fG] at h2
 rcases kf d b.a b.b with z|z|z<;>omega
end
noncomputable def In(d:Int)(t:Tl)(a b:N3):Prop:=(¬ Lq d a t.x/\Lq d a (plus t.x t.w))/\¬ Lq d b t.y/\Lq d b (plus t.y t.h)
structure TV(d:Int)(t:Tl):Prop where
 o:TOk t
 w:sg d t.w.a t.w.b=1
 h:sg d t.h.a t.h.b=1
theorem TV.self{d:Int}(hd:ay d){t:Tl}(v:TV d t):In d t t.x t.y:=⟨⟨dE hd,mM hd v.o.x v.o.w v.w⟩,dE hd,mM hd v.o.y v.o.h v.h⟩
structure Part(d:Int)(T:Tl)(us:List Tl):Prop where
 val:∀u∈us,TV d u
 sub:∀u∈us,∀a b,Ok a->Ok b->In d u a b->In d T a b
 dis:us.Pairwise fun u v=>∀a b,Ok a->Ok b->In d u a b->¬ In d v a b
 all:∀a b,Ok a->Ok b->In d T a b->∃u∈us,In d u a b
theorem Part.perm{d:Int}{T:Tl}{us vs:List Tl}(h:Part d T us)(p:vs.Perm us):Part d T vs:=
 ⟨fun u hu=>h.val u (p.mem_iff.mp hu),fun u hu=>h.sub u (p.mem_iff.mp hu),(p.pairwise_iff fun {x y} z a b oa ob h1 h2=>z a b oa ob h2 h1).mpr h.dis,fun a b oa ob i=>let ⟨u,hu,z⟩:=h.all a b oa ob i;⟨u,p.mem_iff.mpr hu,z⟩⟩
theorem Part.put{d:Int}{T t:Tl}{ts us:List Tl}(h:Part d T (t::ts))(g:Part d t us):Part d T (ts++us):=by
 refine⟨fun u hu=>?_,fun u hu a b oa ob i=>?_,List.pairwise_append.mpr ⟨(List.pairwise_cons.mp h.dis).2,g.dis,fun u hu v hv a b oa ob i j=>(List.pairwise_cons.mp h.dis).1 u hu a b oa ob (g.sub v hv a b oa ob j) i⟩,fun a b oa ob i=>?_⟩
 ·rcases List.mem_append.mp hu with z|z
  ·exact h.val u (mem_cons_of_mem _ z)
  ·exact g.val u z
 ·rcases List.mem_append.mp hu with z|z
  ·exact h.sub u (mem_cons_of_mem _ z) a b oa ob i
  ·exact h.sub t mem_cons_self a b oa ob (g.sub u z a b oa ob i)
 ·obtain⟨u,hu,j⟩:=h.all a b oa ob i
  rcases List.mem_cons.mp hu with rfl|z
  ·obtain⟨v,hv,k⟩:=g.all a b oa ob j
   exact⟨v,mem_append_right _ hv,k⟩
  ·exact⟨u,mem_append_left _ z,j⟩
theorem Part.one{d:Int}{T:Tl}(v:TV d T):Part d T [T]:=
 ⟨fun u hu=>by rw[List.mem_singleton.mp hu];exact v,fun u hu a b _ _ i=>by rw[List.mem_singleton.mp hu] at i;exact i,List.pairwise_singleton _ _,fun a b _ _ i=>⟨T,List.mem_singleton.mpr rfl,i⟩⟩
structure Gr(d:Int)(xs:List N3)(C:Nat):Prop where
 len:xs.length=C+1
 up:cK d xs
 ok:∀x∈xs,Ok x
section
variable {d:Int}{xs ys:List N3}{C R i j:Nat}{a:N3}
theorem Gr.o(g:Gr d xs C)(h:i<=C):Ok (xs.getD i av):=by have:=g.len;rw[getD_at (show i<xs.length by omega)];exact g.ok _ (getElem_mem _)
theorem Gr.lt(g:Gr d xs C)(h:i<j)(hj:j<=C):Lq d (xs.getD i av) (xs.getD j av):=by
 have:=g.len
 rw[getD_at (show j<xs.length by omega),getD_at (show i<xs.length by omega)]
 exact List.pairwise_iff_getElem.mp g.up _ _ _ _ h
theorem Gr.ge(hd:ay d)(g:Gr d xs C)(oa:Ok a)(h:j<=i)(hi:i<=C)(k:¬ Lq d a (xs.getD i av)):¬ Lq d a (xs.getD j av):=fun z=>by
 rcases lt_or_eq_of_le h with h|h
 ·exact k (uC hd oa (g.o ∅) (g.o hi) z (g.lt h hi))
 ·subst h;exact k z
theorem Gr.le(hd:ay d)(g:Gr d xs C)(oa:Ok a)(h:i<=j)(hj:j<=C)(k:Lq d a (xs.getD i av)):Lq d a (xs.getD j av):=by
 rcases lt_or_eq_of_le h with h|h
 ·exact uC hd oa (g.o ∅) (g.o hj) k (g.lt h hj)
 ·subst h;exact k
theorem Gr.col(g:Gr d xs C)(h0:¬ Lq d a (xs.getD 0 av)):∀n,n<=C->Lq d a (xs.getD n av)->∃i,i<n/\¬ Lq d a (xs.getD i av)/\Lq d a (xs.getD (i+1) av)
 |0,_,h=>absurd h h0
 |n+1,hn,h=>by
  by_cases z:Lq d a (xs.getD n av)
  ·obtain⟨i,hi,k⟩:=g.col h0 n ∅ z
   exact⟨i,∅,k⟩
  ·exact⟨n,∅,z,h⟩
theorem Gr.in_(hd:ay d)(g:Gr d xs C)(oa:Ok a){l r:Nat}(hl:l<=C)(hr:r<=C)(hi:i<C)(h1:¬ Lq d a (xs.getD i av))(h2:Lq d a (xs.getD (i+1) av)):(¬ Lq d a (xs.getD l av)/\Lq d a (xs.getD r av))↔l<=i/\i<r:=by
 constructor
 ·rintro ⟨k1,k2⟩
  refine⟨?_,?_⟩
  ·rcases lt_or_ge i l with z|z
   ·exact absurd (g.le hd oa z hl h2) k1
   ·exact z
  ·rcases lt_or_ge i r with z|z
   ·exact z
   ·exact absurd k2 (g.ge hd oa z ∅ h1)
 ·rintro ⟨k1,k2⟩
  exact⟨g.ge hd oa k1 ∅ h1,g.le hd oa k2 hr h2⟩
end
theorem RT{d:Int}{xs ys:List N3}{C:Nat}(g:Gr d xs C){q:GR.Bx}(hl:q.l<q.r)(hr:q.r<=C):plus (dW xs ys q).x (dW xs ys q).w=xs.getD q.r av:=oM (g.o ∅) (g.o hr)
theorem QW{d:Int}{xs ys:List N3}{R:Nat}(g:Gr d ys R){q:GR.Bx}(hl:q.b<q.t)(hr:q.t<=R):plus (dW xs ys q).y (dW xs ys q).h=ys.getD q.t av:=oM (g.o ∅) (g.o hr)
theorem i6{d:Int}(hd:ay d){xs ys:List N3}{C R:Nat}(gx:Gr d xs C)(gy:Gr d ys R){qs:List GR.Bx}(cov:GR.qG qs C R){T:Tl}(ex:T.x=xs.getD 0 av)(ew:plus T.x T.w=xs.getD C av)(ey:T.y=ys.getD 0 av)(eh:plus T.y T.h=ys.getD R av):Part d T (qs.map (dW xs ys)):=by
 have inq:∀q∈qs,∀a b,In d (dW xs ys q) a b↔(¬ Lq d a (xs.getD q.l av)/\Lq d a (xs.getD q.r av))/\¬ Lq d b (ys.getD q.b av)/\Lq d b (ys.getD q.t av):=fun q hq a b=>by
  have f:=cov.fits q hq
  unfold In
  rw[RT gx f.1 f.2.1,QW gy f.2.2.1 f.2.2.2]
  rfl
 have inT:∀a b,In d T a b↔(¬ Lq d a (xs.getD 0 av)/\Lq d a (xs.getD C av))/\¬ Lq d b (ys.getD 0 av)/\Lq d b (ys.getD R av):=fun a b=>by unfold In;rw[ew,eh,ex,ey]
 have sub:∀q∈qs,∀a b,Ok a->Ok b->In d (dW xs ys q) a b->In d T a b:=fun q hq a b oa ob h=>by
  have f:=cov.fits q hq
  obtain⟨⟨h1,h2⟩,h3,h4⟩:=(inq q hq a b).mp h
  exact (inT a b).mpr ⟨⟨gx.ge hd oa (zero_le _) ∅ h1,gx.le hd oa f.2.1 (le_refl _) h2⟩,gy.ge hd ob (zero_le _) ∅ h3,gy.le hd ob f.2.2.2 (le_refl _) h4⟩
 have cell:∀a b,Ok a->Ok b->In d T a b->∃i j,i<C/\j<R/\∀q∈qs,In d (dW xs ys q) a b↔q.has i j:=fun a b oa ob h=>by
  obtain⟨⟨h1,h2⟩,h3,h4⟩:=(inT a b).mp h
  obtain⟨i,hi,k1,k2⟩:=gx.col h1 C (le_refl _) h2
  obtain⟨j,hj,k3,k4⟩:=gy.col h3 R (le_refl _) h4
  refine⟨i,j,hi,hj,fun q hq=>?_⟩
  have f:=cov.fits q hq
  rw[inq q hq,gx.in_ hd oa ∅ f.2.1 hi k1 k2,gy.in_ hd ob ∅ f.2.2.2 hj k3 k4]
  unfold GR.Bx.has
  exact and_assoc
 refine⟨fun u hu=>?_,fun u hu a b oa ob h=>?_,?_,fun a b oa ob h=>?_⟩
 ·obtain⟨q,hq,rfl⟩:=List.mem_map.mp hu
  have f:=cov.fits q hq
  have o1:=gx.o (show q.l<=C by omega)
  have o2:=gx.o f.2.1
  have o3:=gy.o (show q.b<=R by omega)
  have o4:=gy.o f.2.2.2
  refine⟨⟨o1,o3,dF o2 o1,dF o4 o3⟩,?_,?_⟩
  ·show sg d (less _ _).a (less _ _).b=1
   rw[ie hd o2 o1];exact gx.lt f.1 f.2.1
  ·show sg d (less _ _).a (less _ _).b=1
   rw[ie hd o4 o3];exact gy.lt f.2.2.1 f.2.2.2
 ·obtain⟨q,hq,rfl⟩:=List.mem_map.mp hu
  exact sub q hq a b oa ob h
 ·rw[pairwise_map]
  refine List.Pairwise.imp_of_mem (fun {p q} hp hq z a b oa ob h1 h2=>?_) cov.apart
  obtain⟨i,j,_,_,k⟩:=cell a b oa ob (sub p hp a b oa ob h1)
  exact z i j ((k p hp).mp h1) ((k q hq).mp h2)
 ·obtain⟨i,j,hi,hj,k⟩:=cell a b oa ob h
  obtain⟨q,hq,z⟩:=cov.all i j hi hj
  exact⟨_,mem_map_of_mem hq,(k q hq).mpr z⟩
noncomputable abbrev flr(w h:N3):Tl:=⟨av,av,w,h⟩
theorem tO{x:N3}(ox:Ok x):plus av x=x:=
 Rep.eq (aW bB ox) ox ((aD bB).plus bB ox (aD ox)) (aD ox) (by show (0*_+_*1)*_=_*(1*_);grind) (by show (0*_+_*1)*_=_*(1*_);grind)
theorem o5.part{d:Int}(hd:ay d){w h:N3}{ts:List Tl}(r:o5 d w h ts):Part d (flr w h) ts:=by
 obtain⟨xs,ys,C,R,qs,g,rfl,rfl,rfl⟩:=r
 have zx:xs.getD 0 av=av:=by rw[getD_eq_getElem?_getD,g.fx.zero];rfl
 have zy:ys.getD 0 av=av:=by rw[getD_eq_getElem?_getD,g.fy.zero];rfl
 exact i6 hd ⟨g.fx.len,g.fx.up,g.fx.ok⟩ ⟨g.fy.len,g.fy.up,g.fy.ok⟩ g.cov zx.symm (tO (g.fx.gL (le_refl _))) zy.symm (tO (g.fy.gL (le_refl _)))
theorem C4{d:Int}(hd:ay d){x:N3}(ox:Ok x):∀{P:List N3},cK d P->(∀y∈P,Ok y)->∃P',cK d P'/\∀y,y∈P'↔y=x\/y∈P
 |[],_,_=>⟨[x],List.pairwise_singleton _ _,fun y=>by simp⟩
 |y::P,up,ok=>by
  have oy:=ok y mem_cons_self
  obtain⟨u1,u2⟩:=List.pairwise_cons.mp up
  by_cases h1:Lq d x y
  ·refine⟨x::y::P,List.pairwise_cons.mpr ⟨fun z hz=>?_,up⟩,fun z=>by simp⟩
   rcases List.mem_cons.mp hz with rfl|hz
   ·exact h1
   ·exact uC hd ox oy (ok z (mem_cons_of_mem _ hz)) h1 (u1 z hz)
  ·by_cases h2:Lq d y x
   ·obtain⟨P',up',m⟩:=C4 hd ox u2 fun z hz=>ok z (mem_cons_of_mem _ hz)
    refine⟨y::P',List.pairwise_cons.mpr ⟨fun z hz=>?_,up'⟩,fun z=>?_⟩
    ·rcases (m z).mp hz with rfl|hz
     ·exact h2
     ·exact u1 z hz
    ·rw[mem_cons,m,mem_cons];exact or_left_comm
   ·refine⟨y::P,up,fun z=>?_⟩
    rw[JI hd ox oy h1 h2,mem_cons]
    exact⟨.inr,fun h=>h.elim .inl id⟩
theorem xN{d:Int}(hd:ay d):∀{es:List N3},(∀x∈es,Ok x)->∃P,ji d P es
 |[],_=>⟨[],⟨.nil,fun _=>Iff.rfl⟩⟩
 |x::es,ok=>by
  obtain⟨P,m⟩:=xN hd (es:=es) fun y hy=>ok y (mem_cons_of_mem _ hy)
  obtain⟨P',up,m'⟩:=C4 hd (ok x mem_cons_self) m.up fun y hy=>ok y (mem_cons_of_mem _ ((m.mem y).mp hy))
  exact⟨P',⟨up,fun y=>by rw[m',m.mem,mem_cons]⟩⟩
theorem Az{d:Int}(hd:ay d){P:List N3}(up:cK d P)(ok:∀y∈P,Ok y){x:N3}(hx:x∈P){i:Nat}(hi:i<P.length):P.idxOf x<=i↔¬ Lq d P[i] x:=by
 have e:=GR.rP hx
 have hl:=GR.cE hx
 constructor
 ·intro h
  rcases lt_or_eq_of_le h with h|h
  ·have:=List.pairwise_iff_getElem.mp up _ _ hl hi h
   rw[e] at this
   exact ke hd (ok x hx) (ok _ (getElem_mem _)) this
  ·have:P[P.idxOf x]'hl=P[i]:=by congr 1
   rw[<- this,e];exact dE hd
 ·intro h
  rcases lt_or_ge i (P.idxOf x) with z|z
  ·have:=List.pairwise_iff_getElem.mp up _ _ hi hl z
   rw[e] at this
   exact absurd this h
  ·exact z
theorem zC{d:Int}(hd:ay d){w h:N3}{ts:List Tl}(val:∀t∈ts,TV d t){P Q:List N3}(mp:ji d P (iP ts))(mq:ji d Q (iQ ts))(hp:P.head? = some av)(lp:P.getLast? = some w)(hq:Q.head? = some av)(lq:Q.getLast? = some h)
  (sw:sg d w.a w.b=1) (sh:sg d h.a h.b=1) (ap:(ts.map (d7 P Q)).Pairwise GR.Apart) (all:∀i j,i<P.length-1->j<Q.length-1->∃q∈ts.map (d7 P Q),q.has i j):o5 d w h ts:=by
 have oX:∀x∈iP ts,Ok x:=fun x hx=>by
  obtain⟨t,ht,z⟩:=List.mem_flatMap.mp hx
  have v:=(val t ht).o
  simp only[mem_cons,not_mem_nil,or_false] at z
  rcases z with rfl|rfl
  ·exact v.x
  ·exact aW v.x v.w
 have oY:∀x∈iQ ts,Ok x:=fun x hx=>by
  obtain⟨t,ht,z⟩:=List.mem_flatMap.mp hx
  have v:=(val t ht).o
  simp only[mem_cons,not_mem_nil,or_false] at z
  rcases z with rfl|rfl
  ·exact v.y
  ·exact aW v.y v.h
 have key:∀{M es:List N3} {e:N3},ji d M es->(∀x∈es,Ok x)->M.head? = some av->M.getLast? = some e->sg d e.a e.b=1->jO d M (M.length-1)/\M.getD (M.length-1) av=e/\0<M.length-1:=fun {M es e} m ok h0 hl s=>by
  have l0:0<M.length:=length_pos_of_mem (List.mem_of_mem_head? h0)
  have e1:M[M.length-1]? = some e:=by rw[<- List.getLast?_eq_getElem?];exact hl
  have e0:M[0]? = some av:=by rw[<- List.head?_eq_getElem?];exact h0
  refine⟨⟨∅,m.up,fun x hx=>ok x ((m.mem x).mp hx),e0⟩,by rw[getD_eq_getElem?_getD,e1];rfl,?_⟩
  rcases Nat.eq_zero_or_pos (M.length-1) with z|z
  ·rw[z,e0] at e1
   rw[<- Option.some.inj e1,show sg d av.a av.b=0 from d5.mpr ⟨rfl,rfl⟩] at s
   exact absurd s ⋯
  ·exact z
 obtain⟨fx,ew,c0⟩:=key mp oX hp lp sw
 obtain⟨fy,eh,r0⟩:=key mq oY hq lq sh
 have on:=rX mp mq
 refine⟨P,Q,P.length-1,Q.length-1,ts.map (d7 P Q),⟨fx,fy,c0,r0,⟨fun q hq=>?_,ap,all⟩⟩,ew.symm,eh.symm,?_⟩
 ·obtain⟨t,ht,rfl⟩:=List.mem_map.mp hq
  have o:=on t ht
  have v:=val t ht
  have a1:=EI hd mp.up o.l o.r (mM hd v.o.x v.o.w v.w)
  have a2:=GR.cE o.r
  have a3:=EI hd mq.up o.b o.t (mM hd v.o.y v.o.h v.h)
  have a4:=GR.cE o.t
  show P.idxOf t.x<P.idxOf (plus t.x t.w)/\P.idxOf (plus t.x t.w)<=P.length-1/\Q.idxOf t.y<Q.idxOf (plus t.y t.h)/\Q.idxOf (plus t.y t.h)<=Q.length-1
  omega
 ·rw[map_map]
  conv=>lhs;rw[<- map_id ts]
  refine List.map_congr_left fun t ht=>?_
  have o:=on t ht
  have v:=(val t ht).o
  have g:∀{M:List N3} {x:N3},x∈M->M.getD (M.idxOf x) av=x:=fun hx=>by rw[getD_at (GR.cE hx)];exact GR.rP hx
  show t=dW P Q (d7 P Q t)
  unfold dW d7
  dsimp only
  rw[g o.l,g o.r,g o.b,g o.t,bP v.x v.w,bP v.y v.h]
theorem Part.lay{d:Int}(hd:ay d){w h:N3}{ts:List Tl}(p:Part d (flr w h) ts)(ow:Ok w)(oh:Ok h)(sw:sg d w.a w.b=1)(sh:sg d h.a h.b=1):o5 d w h ts:=by
 have inT:∀a b,In d (flr w h) a b↔(¬ Lq d a av/\Lq d a w)/\¬ Lq d b av/\Lq d b h:=fun a b=>by
  show (¬ Lq d a av/\Lq d a (plus av w))/\¬ Lq d b av/\Lq d b (plus av h)↔_
  rw[tO ow,tO oh]
 have on:=bB
 obtain⟨P,mp⟩:=xN hd (es:=iP ts) fun x hx=>by
  obtain⟨t,ht,z⟩:=List.mem_flatMap.mp hx
  have v:=(p.val t ht).o
  simp only[mem_cons,not_mem_nil,or_false] at z
  rcases z with rfl|rfl
  ·exact v.x
  ·exact aW v.x v.w
 obtain⟨Q,mq⟩:=xN hd (es:=iQ ts) fun x hx=>by
  obtain⟨t,ht,z⟩:=List.mem_flatMap.mp hx
  have v:=(p.val t ht).o
  simp only[mem_cons,not_mem_nil,or_false] at z
  rcases z with rfl|rfl
  ·exact v.y
  ·exact aW v.y v.h
 have okP:∀x∈P,Ok x:=fun x hx=>by
  obtain⟨t,ht,z⟩:=List.mem_flatMap.mp ((mp.mem x).mp hx)
  have v:=(p.val t ht).o
  simp only[mem_cons,not_mem_nil,or_false] at z
  rcases z with rfl|rfl
  ·exact v.x
  ·exact aW v.x v.w
 have okQ:∀x∈Q,Ok x:=fun x hx=>by
  obtain⟨t,ht,z⟩:=List.mem_flatMap.mp ((mq.mem x).mp hx)
  have v:=(p.val t ht).o
  simp only[mem_cons,not_mem_nil,or_false] at z
  rcases z with rfl|rfl
  ·exact v.y
  ·exact aW v.y v.h
 have self:∀t∈ts,In d (flr w h) t.x t.y:=fun t ht=>p.sub t ht _ _ (p.val t ht).o.x (p.val t ht).o.y ((p.val t ht).self hd)
 have side:∀{M es:List N3} {e:N3},ji d M es->(∀x∈M,Ok x)->Ok e->Lq d av e->(∀x∈es,¬ Lq d x av/\¬ Lq d e x)->(∀a,Ok a->¬ Lq d a av->Lq d a e->∃l r,l∈es/\r∈es/\¬ Lq d a l/\Lq d a r)->M.head? = some av/\M.getLast? = some e:=fun {M es e} m ok oe pe win cov=>by
  obtain⟨l,r,hl,hr,k1,k2⟩:=cov av on (dE hd) pe
  have ml:av∈M:=by
   have e0:=JI hd on (ok l ((m.mem l).mpr hl)) k1 (win l hl).1
   rw[e0];exact (m.mem l).mpr hl
  refine⟨u5 hd m.up (fun x hx=>RP hd (win x ((m.mem x).mp hx)).1) ml,?_⟩
  have l0:0<M.length:=length_pos_of_mem ml
  have el:M.getLast? = some (M[M.length-1]'∅):=by rw[List.getLast?_eq_getElem?,getElem?_eq_getElem ∅]
  generalize hx:M[M.length-1]'∅=x at el
  have hm:x∈M:=hx▸getElem_mem _
  have top:∀y∈M,¬ Lq d x y:=fun y hy=>by
   obtain⟨k,hk,rfl⟩:=List.mem_iff_getElem.mp hy
   rw[<- hx]
   rcases lt_or_ge k (M.length-1) with z|z
   ·exact ke hd (ok _ (getElem_mem _)) (ok _ (getElem_mem _)) (List.pairwise_iff_getElem.mp m.up _ _ _ _ z)
   ·have:M[k]=M[M.length-1]'∅:=by congr 1;omega
    rw[this];exact dE hd
  by_cases z:Lq d x e
  ·obtain⟨l,r,_,hr,_,k⟩:=cov x (ok x hm) (win x ((m.mem x).mp hm)).1 z
   exact absurd k (top r ((m.mem r).mpr hr))
  ·rw[el,JI hd (ok x hm) oe z (win x ((m.mem x).mp hm)).2]
 obtain⟨hp,lp⟩:=side mp okP ow (yX sw) (fun x hx=>by
  obtain⟨t,ht,z⟩:=List.mem_flatMap.mp hx
  have v:=p.val t ht
  obtain⟨⟨s1,s2⟩,s3,s4⟩:=(inT _ _).mp (self t ht)
  simp only[mem_cons,not_mem_nil,or_false] at z
  rcases z with rfl|rfl
  ·exact⟨s1,ke hd v.o.x ow s2⟩
  ·refine⟨fun k=>s1 (uC hd v.o.x (aW v.o.x v.o.w) on (mM hd v.o.x v.o.w v.w) k),fun k=>?_⟩
   have:=(inT _ _).mp (p.sub t ht w t.y ow v.o.y ⟨⟨ke hd v.o.x ow s2,k⟩,dE hd,mM hd v.o.y v.o.h v.h⟩)
   exact dE hd this.1.2) fun a oa k1 k2=>by
  obtain⟨t,ht,i⟩:=p.all a av oa on ((inT _ _).mpr ⟨⟨k1,k2⟩,dE hd,yX sh⟩)
  exact⟨t.x,plus t.x t.w,List.mem_flatMap.mpr ⟨t,ht,mem_cons_self⟩,List.mem_flatMap.mpr ⟨t,ht,mem_cons_of_mem _ mem_cons_self⟩,i.1.1,i.1.2⟩
 obtain⟨hq,lq⟩:=side mq okQ oh (yX sh) (fun x hx=>by
  obtain⟨t,ht,z⟩:=List.mem_flatMap.mp hx
  have v:=p.val t ht
  obtain⟨⟨s1,s2⟩,s3,s4⟩:=(inT _ _).mp (self t ht)
  simp only[mem_cons,not_mem_nil,or_false] at z
  rcases z with rfl|rfl
  ·exact⟨s3,ke hd v.o.y oh s4⟩
  ·refine⟨fun k=>s3 (uC hd v.o.y (aW v.o.y v.o.h) on (mM hd v.o.y v.o.h v.h) k),fun k=>?_⟩
   have:=(inT _ _).mp (p.sub t ht t.x h v.o.x oh ⟨⟨dE hd,mM hd v.o.x v.o.w v.w⟩,ke hd v.o.y oh s4,k⟩)
   exact dE hd this.2.2) fun a oa k1 k2=>by
  obtain⟨t,ht,i⟩:=p.all av a on oa ((inT _ _).mpr ⟨⟨dE hd,yX sw⟩,k1,k2⟩)
  exact⟨t.y,plus t.y t.h,List.mem_flatMap.mpr ⟨t,ht,mem_cons_self⟩,List.mem_flatMap.mpr ⟨t,ht,mem_cons_of_mem _ mem_cons_self⟩,i.2.1,i.2.2⟩
 have mon:=rX mp mq
 have has:∀t∈ts,∀i j (hi:i<P.length) (hj:j<Q.length),(d7 P Q t).has i j↔In d t P[i] Q[j]:=fun t ht i j hi hj=>by
  have o:=mon t ht
  show P.idxOf t.x<=i/\i<P.idxOf (plus t.x t.w)/\Q.idxOf t.y<=j/\j<Q.idxOf (plus t.y t.h)↔_
  rw[Az hd mp.up okP o.l hi,Az hd mq.up okQ o.b hj,<- Nat.not_le,<- Nat.not_le,Az hd mp.up okP o.r hi,Az hd mq.up okQ o.t hj,Classical.not_not,Classical.not_not]
  exact and_assoc.symm
 refine zC hd p.val mp mq hp lp hq lq sw sh ?_ fun i j hi hj=>?_
 ·rw[pairwise_map]
  refine List.Pairwise.imp_of_mem (fun {t u} ht hu z i j h1 h2=>?_) p.dis
  have hi:i<P.length:=Nat.lt_trans h1.2.1 (GR.cE (mon t ht).r)
  have hj:j<Q.length:=Nat.lt_trans h1.2.2.2 (GR.cE (mon t ht).t)
  exact z _ _ (okP _ (getElem_mem _)) (okQ _ (getElem_mem _)) ((has t ht i j hi hj).mp h1) ((has u hu i j hi hj).mp h2)
 ·have hi':i<P.length:=by omega
  have hj':j<Q.length:=by omega
  have oi:=okP _ (getElem_mem hi')
  have oj:=okQ _ (getElem_mem hj')
  have bd:∀{M es:List N3} {e:N3} (m:ji d M es),(∀x∈M,Ok x)->M.head? = some av->M.getLast? = some e->∀k (hk:k<M.length-1),¬ Lq d (M[k]'∅) av/\Lq d (M[k]'∅) e:=fun {M es e} m ok h0 hl k hk=>by
   have e1:M[M.length-1]'∅=e:=by
    have:M[M.length-1]? = some e:=by rw[<- List.getLast?_eq_getElem?];exact hl
    rw[getElem?_eq_getElem ∅] at this
    exact Option.some.inj this
   have e0:M[0]'∅=av:=by
    have:M[0]? = some av:=by rw[<- List.head?_eq_getElem?];exact h0
    rw[getElem?_eq_getElem ∅] at this
    exact Option.some.inj this
   refine⟨?_,?_⟩
   ·rcases Nat.eq_zero_or_pos k with z|z
    ·subst z;rw[e0];exact dE hd
    ·have:=List.pairwise_iff_getElem.mp m.up 0 k ∅ ∅ z
     rw[e0] at this
     exact ke hd on (ok _ (getElem_mem _)) this
   ·have:=List.pairwise_iff_getElem.mp m.up k (M.length-1) ∅ ∅ hk
    rw[e1] at this
    exact this
  obtain⟨t,ht,z⟩:=p.all _ _ oi oj ((inT _ _).mpr ⟨bd mp okP hp lp i hi,bd mq okQ hq lq j hj⟩)
  exact⟨_,mem_map_of_mem ht,(has t ht i j hi' hj').mpr z⟩
theorem Mb{d:Int}(hd:ay d){w h:N3}{ts:List Tl}(v:uR d w h ts)(l:oA d (fg w h ts) true):o5 d w h ts:=by
 obtain⟨P,Q,mp,mq,e⟩:=l.2 _ _ _ rfl v
 have e':=e.symm
 rw[and_eq_true,and_eq_true,sU,sU] at e'
 obtain⟨⟨hp,lp⟩,⟨hq,lq⟩,c⟩:=e'
 have on:=rX mp mq
 have tv:∀t∈ts,TV d t:=fun t ht=>let z:=v.tile t ht;⟨⟨z.ox,z.oy,z.ow,z.oh⟩,z.sw,z.sh⟩
 obtain⟨ap,all⟩:=(GR.xi fun q hq=>by
  obtain⟨t,ht,rfl⟩:=List.mem_map.mp hq
  have a:=GR.cE (on t ht).r
  have b:=GR.cE (on t ht).t
  show P.idxOf (plus t.x t.w)<=P.length-1/\Q.idxOf (plus t.y t.h)<=Q.length-1
  omega).mp c
 exact zC hd tv mp mq hp lp hq lq v.sw v.sh ap all
theorem LN{d:Int}{a b f:N3}(oa:Ok a)(ob:Ok b)(of:Ok f):less (times d a f) (times d b f)=times d (less a b) f:=
 Rep.eq (dF (aM oa of) (aM ob of)) (aM (dF oa ob) of) (((aD oa).times oa of (aD of)).less (aM oa of) (aM ob of) ((aD ob).times ob of (aD of))) (((aD oa).less oa ob (aD ob)).times (dF oa ob) of (aD of)) (by grind) (by grind)
structure Te where
 t:Tl
 a:Int
 b:Int
 e:Int
 f:Int
structure Ge(C K:Int)(n:Nat)(x:Te):Prop where
 w:Rep x.t.w x.a x.b C
 h:Rep x.t.h x.e x.f K
 sa:Sz n x.a
 sb:Sz n x.b
 se:Sz n x.e
 sf:Sz n x.f
noncomputable def sm(g:Te->Int)(l:List Te):Int:=(l.map g).sum
structure PX(l:List Te)(a b e f:Int):Prop where
 ae:sm (fun x=>x.a*x.e) l=a*e
 af:sm (fun x=>x.a*x.f) l=a*f
 be:sm (fun x=>x.b*x.e) l=b*e
 bf:sm (fun x=>x.b*x.f) l=b*f
structure pL(d:Int)(t:Tl)(us:List Tl):Prop where
 part:Part d t us
 l1:1<=us.length
 l9:us.length<=9
 pos:∀n m,Bd n t.w->Bd n t.h->Bd m t.x->Bd m t.y->∀u∈us,Bd (m+n+48) u.x/\Bd (m+n+48) u.y
 com:∃c k:Int,0<c/\0<k/\Sz 32 c/\Sz 32 k/\∀a b e f C K n,Rep t.w a b C->Rep t.h e f K->Sz n a->Sz n b->Sz n e->Sz n f ->
  ∃l:List Te,l.map Te.t=us/\(∀x∈l,Ge (C*c) (K*k) (n+48) x)/\PX l (c*a) (c*b) (k*e) (k*f)
structure Fac(d:Int)(f:N3):Prop where
 ok:Ok f
 bd:Bd 16 f
 sg:sg d f.a f.b=1
 lt:NM.sg d (less one f).a (less one f).b=1
theorem ko{x y:N3}{A B A' B' D:Int}(ox:Ok x)(oy:Ok y)(h:Rep x A B D)(g:Rep y A' B' D):Rep (less x y) (A-A') (B-B') D:=
 (h.less ox oy g).conv h.c (by grind) (by grind)
theorem Ck{x y:N3}{A B A' B' D:Int}(ox:Ok x)(oy:Ok y)(h:Rep x A B D)(g:Rep y A' B' D):Rep (plus x y) (A+A') (B+B') D:=
 (h.plus ox oy g).conv h.c (by grind) (by grind)
theorem xu{x:N3}{A B C:Int}{c:Int}(h:Rep x A B C)(hc:c≠0):Rep x (c*A) (c*B) (C*c):=
 h.conv (mul_ne_zero h.c hc) (by grind) (by grind)
theorem eL{x u v:N3}(ox:Ok x)(ou:Ok u)(ov:Ok v):less (plus x v) (plus x u)=less v u:=
 Rep.eq (dF (aW ox ov) (aW ox ou)) (dF ov ou) (((aD ox).plus ox ov (aD ov)).less (aW ox ov) (aW ox ou) ((aD ox).plus ox ou (aD ou))) ((aD ov).less ov ou (aD ou)) (by grind) (by grind)
theorem Ez{d:Int}(hd:ay d){x u v:N3}(ox:Ok x)(ou:Ok u)(ov:Ok v)(h:sg d (less v u).a (less v u).b=1):Lq d (plus x u) (plus x v):=by
 show dif d (plus x v) (plus x u)=1
 rw[<- ie hd (aW ox ov) (aW ox ou),eL ox ou ov,h]
structure Sd(d:Int)(x w w1 w2:N3):Prop where
 ox:Ok x
 ow:Ok w
 o1:Ok w1
 o2:Ok w2
 s1:sg d w1.a w1.b=1
 s12:sg d (less w2 w1).a (less w2 w1).b=1
 s2:sg d (less w w2).a (less w w2).b=1
 s02:sg d w2.a w2.b=1
 sw:sg d w.a w.b=1
 s01:sg d (less w w1).a (less w w1).b=1
theorem N8{d:Int}(hd:ay d){x w f f':N3}(ox:Ok x)(ow:Ok w)(sw:sg d w.a w.b=1)(F:Fac d f)(F':Fac d f'):Sd d x w (times d (times d w f) f') (times d w f):=by
 have o2:=aM (d:=d) ow F.ok
 have o1:=aM (d:=d) o2 F'.ok
 have cut:∀{v g:N3},Ok v->sg d v.a v.b=1->Fac d g->sg d (less v (times d v g)).a (less v (times d v g)).b=1:=fun {v g} ov sv G=>by
  have e:less v (times d v g)=times d (less one g) v:=by
   rw[<- LN dr G.ok ov,AO dr ov,GG ov,AO G.ok ov]
  rw[e,nP hd (dF dr G.ok) ov,G.lt,sv];rfl
 have s2:=cut ow sw F
 have s02:sg d (times d w f).a (times d w f).b=1:=by rw[nP hd ow F.ok,sw,F.sg];rfl
 have s12:=cut o2 s02 F'
 refine⟨ox,ow,o1,o2,by rw[nP hd o2 F'.ok,s02,F'.sg];rfl,s12,s2,s02,sw,?_⟩
 rw[ie hd ow o1]
 rw[ie hd o2 o1] at s12
 rw[ie hd ow o2] at s2
 exact i5 hd ow o2 o1 s2 s12
theorem Sd.gr4{d:Int}(hd:ay d){x w w1 w2:N3}(S:Sd d x w w1 w2):Gr d [x,plus x w1,plus x w2,plus x w] 3:=by
 have a1:=mM hd S.ox S.o1 S.s1
 have a2:=mM hd S.ox S.o2 S.s02
 have a3:=mM hd S.ox S.ow S.sw
 have b1:=Ez hd S.ox S.o1 S.o2 S.s12
 have b2:=Ez hd S.ox S.o1 S.ow S.s01
 have b3:=Ez hd S.ox S.o2 S.ow S.s2
 refine⟨rfl,?_,fun y hy=>?_⟩
 ·unfold cK
  simp only[List.pairwise_cons,mem_cons,not_mem_nil,or_false,List.Pairwise.nil,and_true,forall_eq_or_imp,forall_eq,false_imp_iff,implies_true]
  exact⟨⟨a1,a2,a3⟩,⟨b1,b2⟩,b3⟩
 ·simp only[mem_cons,not_mem_nil,or_false] at hy
  rcases hy with rfl|rfl|rfl|rfl
  ·exact S.ox
  ·exact aW S.ox S.o1
  ·exact aW S.ox S.o2
  ·exact aW S.ox S.ow
theorem Sd.gr3{d:Int}(hd:ay d){x w w1 w2:N3}(S:Sd d x w w1 w2):Gr d [x,plus x w2,plus x w] 2:=by
 have g:=S.gr4 hd
 exact⟨rfl,List.Pairwise.sublist (List.Sublist.cons_cons _ (List.Sublist.cons _ (List.Sublist.refl _))) g.up,fun y hy=>g.ok y (by
  rcases List.mem_cons.mp hy with rfl|h
  ·exact mem_cons_self
  ·exact mem_cons_of_mem _ (mem_cons_of_mem _ h))⟩
theorem gr2{d:Int}(hd:ay d){x w:N3}(ox:Ok x)(ow:Ok w)(sw:sg d w.a w.b=1):Gr d [x,plus x w] 1:=
 ⟨rfl,List.pairwise_cons.mpr ⟨fun y hy=>by rw[List.mem_singleton.mp hy];exact mM hd ox ow sw,List.pairwise_singleton _ _⟩,fun y hy=>by
  rcases List.mem_cons.mp hy with rfl|hy
  ·exact ox
  ·rw[List.mem_singleton.mp hy];exact aW ox ow⟩
structure Sr(d:Int)(w w1 w2:N3)(c:Int):Prop where
 c0:0<c
 cs:Sz 32 c
 all:∀a b C n,Rep w a b C->Sz n a->Sz n b->∃a1 b1 a2 b2,Rep w (c*a) (c*b) (C*c)/\Rep w1 a1 b1 (C*c)/\Rep w2 a2 b2 (C*c)/\Sz (n+46) (c*a)/\Sz (n+46) (c*b)/\Sz (n+46) a1/\Sz (n+46) b1/\Sz (n+46) a2/\Sz (n+46) b2
theorem NY{d:Int}(hd:ay d){w f f':N3}(ow:Ok w)(F:Fac d f)(F':Fac d f'):Sr d w (times d (times d w f) f') (times d w f) (f.c*f'.c):=by
 have s5:=o6 hd.1 hd.2.1
 have c1:=F.ok.c
 have c2:=F'.ok.c
 have o2:=aM (d:=d) ow F.ok
 refine⟨mul_pos c1 c2,F.bd.c.mul F'.bd.c,fun a b C n r sa sb=>?_⟩
 have r2:=r.times (d:=d) ow F.ok (aD F.ok)
 have r1:=r2.times (d:=d) o2 F'.ok (aD F'.ok)
 have q1:Sz (n+22) (a*f.a+d*b*f.b):=(((sa.mul F.bd.a).mono ∅).add (((s5.mul sb).mul F.bd.b).mono (show 5+n+16<=n+21 by omega)))
 have q2:Sz (n+22) (a*f.b+b*f.a):=(((sa.mul F.bd.b).mono (show n+16<=n+21 by omega)).add ((sb.mul F.bd.a).mono ∅))
 have q3:Sz (n+46) ((a*f.a+d*b*f.b)*f'.a+d*(a*f.b+b*f.a)*f'.b):=(((q1.mul F'.bd.a).mono (show n+22+16<=n+45 by omega)).add (((s5.mul q2).mul F'.bd.b).mono ∅))
 have q4:Sz (n+46) ((a*f.a+d*b*f.b)*f'.b+(a*f.b+b*f.a)*f'.a):=(((q1.mul F'.bd.b).mono (show n+22+16<=n+45 by omega)).add ((q2.mul F'.bd.a).mono ∅))
 have cn:f.c*f'.c≠0:=mul_ne_zero F.ok.cn F'.ok.cn
 refine⟨_,_,(a*f.a+d*b*f.b)*f'.c,(a*f.b+b*f.a)*f'.c,xu r cn,by rw[<- Int.mul_assoc];exact r1,?_,?_,?_,q3,q4,(q1.mul F'.bd.c).mono ∅,(q2.mul F'.bd.c).mono ∅⟩
 ·exact r2.conv (mul_ne_zero r.c cn) (by grind) (by grind)
 ·exact ((F.bd.c.mul F'.bd.c).mul sa).mono ∅
 ·exact ((F.bd.c.mul F'.bd.c).mul sb).mono ∅
theorem tW{x y:N3}(ox:Ok x)(oy:Ok y):plus x (minus y)=less x y:=
 Rep.eq (aW ox (fu oy)) (dF ox oy) ((aD ox).plus ox (fu oy) (aD oy).minus) ((aD ox).less ox oy (aD oy)) (by grind) (by grind)
structure Ts(d:Int)(t:Tl)(f1 f2 f3 f4:N3):Prop where
 X:Sd d t.x t.w (times d (times d t.w f1) f3) (times d t.w f1)
 Y:Sd d t.y t.h (times d (times d t.h f2) f4) (times d t.h f2)
 RX:Sr d t.w (times d (times d t.w f1) f3) (times d t.w f1) (f1.c*f3.c)
 RY:Sr d t.h (times d (times d t.h f2) f4) (times d t.h f2) (f2.c*f4.c)
theorem Ml{d:Int}(hd:ay d){t:Tl}(v:TV d t){f1 f2 f3 f4:N3}(F1:Fac d f1)(F2:Fac d f2)(F3:Fac d f3)(F4:Fac d f4):Ts d t f1 f2 f3 f4:=
 ⟨N8 hd v.o.x v.o.w v.w F1 F3,N8 hd v.o.y v.o.h v.h F2 F4,NY hd v.o.w F1 F3,NY hd v.o.h F2 F4⟩
theorem Aq{d:Int}(hd:ay d){t:Tl}{us:List Tl}{w1 w2 h1 h2:N3}{c k:Int}(RX:Sr d t.w w1 w2 c)(RY:Sr d t.h h1 h2 k)(part:Part d t us)(l1:1<=us.length)(l9:us.length<=9)
  (pos:∀n m,Bd n t.w->Bd n t.h->Bd m t.x->Bd m t.y->∀u∈us,Bd (m+n+48) u.x/\Bd (m+n+48) u.y)
  (all:∀C K a0 b0 a1 b1 a2 b2 e0 f0 e1 f1 e2 f2 n,Rep t.w a0 b0 C->Rep w1 a1 b1 C->Rep w2 a2 b2 C->Rep t.h e0 f0 K->Rep h1 e1 f1 K->Rep h2 e2 f2 K->(Sz n a0/\Sz n b0/\Sz n a1/\Sz n b1/\Sz n a2/\Sz n b2)->(Sz n e0/\Sz n f0/\Sz n e1/\Sz n f1/\Sz n e2/\Sz n f2) ->
   ∃l:List Te,l.map Te.t=us/\(∀x∈l,Ge C K (n+2) x)/\PX l a0 b0 e0 f0):pL d t us:=by
 refine⟨part,l1,l9,pos,c,k,RX.c0,RY.c0,RX.cs,RY.cs,fun a b e f C K n ra re sa sb se sf=>?_⟩
 obtain⟨a1,b1,a2,b2,x0,x1,x2,z⟩:=RX.all a b C n ra sa sb
 obtain⟨e1,f1,e2,f2,y0,y1,y2,z'⟩:=RY.all e f K n re se sf
 exact all _ _ _ _ a1 b1 a2 b2 _ _ e1 f1 e2 f2 (n+46) x0 x1 x2 y0 y1 y2 z z'
theorem SE{d:Int}(hd:ay d){t:Tl}(v:TV d t){f1 f2 f3 f4:N3}(F1:Fac d f1)(F2:Fac d f2)(F3:Fac d f3)(F4:Fac d f4) :
  pL d t [⟨t.x,t.y,times d t.w f1,t.h⟩,⟨plus t.x (times d t.w f1),t.y,less t.w (times d t.w f1),t.h⟩]:=by
 have S:=Ml hd v F1 F2 F3 F4
 have X:=S.X
 have s5:=o6 hd.1 hd.2.1
 refine Aq hd S.RX S.RY ?_ (by show 1<=2;decide) (by show 2<=9;decide) (fun n m bw bh bx by_ u hu=>?_) fun C K a0 b0 a1 b1 a2 b2 e0 f0 e1 f1' e2 f2' n x0 x1 x2 y0 y1 y2 z z'=>?_
 ·have p:=i6 hd (X.gr3 hd) (gr2 hd v.o.y v.o.h v.h) (qs:=[⟨0,1,0,1⟩,⟨1,2,0,1⟩]) (kD ⋯ ⋯) (T:=t) rfl rfl rfl rfl
  have e:[(⟨0,1,0,1⟩:GR.Bx),⟨1,2,0,1⟩].map (dW [t.x,plus t.x (times d t.w f1),plus t.x t.w] [t.y,plus t.y t.h])=[⟨t.x,t.y,times d t.w f1,t.h⟩,⟨plus t.x (times d t.w f1),t.y,less t.w (times d t.w f1),t.h⟩]:=by
   show [(⟨t.x,t.y,less (plus t.x (times d t.w f1)) t.x,less (plus t.y t.h) t.y⟩:Tl),⟨plus t.x (times d t.w f1),t.y,less (plus t.x t.w) (plus t.x (times d t.w f1)),less (plus t.y t.h) t.y⟩]=_
   rw[bP X.ox X.o2,bP v.o.y v.o.h,eL X.ox X.o2 X.ow]
  rw[e] at p
  exact p
 ·have b2:=bD s5 v.o.w F1.ok bw F1.bd
  simp only[mem_cons,not_mem_nil,or_false] at hu
  rcases hu with rfl|rfl
  ·exact⟨bx.mono ∅,by_.mono ∅⟩
  ·exact⟨(cN X.ox X.o2 bx b2).mono ∅,by_.mono ∅⟩
 ·obtain⟨za0,zb0,za1,zb1,za2,zb2⟩:=z
  obtain⟨ze0,zf0,ze1,zf1,ze2,zf2⟩:=z'
  refine⟨[⟨_,a2,b2,e0,f0⟩,⟨_,a0-a2,b0-b2,e0,f0⟩],rfl,fun x hx=>?_,?_⟩
  ·simp only[mem_cons,not_mem_nil,or_false] at hx
   rcases hx with rfl|rfl
   ·exact⟨x2,y0,za2.mono ∅,zb2.mono ∅,ze0.mono ∅,zf0.mono ∅⟩
   ·exact⟨ko X.ow X.o2 x0 x2,y0,(za0.sub za2).mono ∅,(zb0.sub zb2).mono ∅,ze0.mono ∅,zf0.mono ∅⟩
  ·constructor<;>simp only[sm,map_cons,map_nil,sum_cons,sum_nil]<;>grind
theorem Tf{d:Int}(hd:ay d){t:Tl}(v:TV d t){f1 f2 f3 f4:N3}(F1:Fac d f1)(F2:Fac d f2)(F3:Fac d f3)(F4:Fac d f4) :
  pL d t [⟨t.x,t.y,t.w,times d t.h f2⟩,⟨t.x,plus t.y (times d t.h f2),t.w,less t.h (times d t.h f2)⟩]:=by
 have S:=Ml hd v F1 F2 F3 F4
 have Y:=S.Y
 have s5:=o6 hd.1 hd.2.1
 refine Aq hd S.RX S.RY ?_ (by show 1<=2;decide) (by show 2<=9;decide) (fun n m bw bh bx by_ u hu=>?_) fun C K a0 b0 a1 b1 a2 b2 e0 f0 e1 f1' e2 f2' n x0 x1 x2 y0 y1 y2 z z'=>?_
 ·have p:=i6 hd (gr2 hd v.o.x v.o.w v.w) (Y.gr3 hd) (qs:=[⟨0,1,0,1⟩,⟨0,1,1,2⟩]) (kD ⋯ ⋯) (T:=t) rfl rfl rfl rfl
  have e:[(⟨0,1,0,1⟩:GR.Bx),⟨0,1,1,2⟩].map (dW [t.x,plus t.x t.w] [t.y,plus t.y (times d t.h f2),plus t.y t.h])=[⟨t.x,t.y,t.w,times d t.h f2⟩,⟨t.x,plus t.y (times d t.h f2),t.w,less t.h (times d t.h f2)⟩]:=by
   show [(⟨t.x,t.y,less (plus t.x t.w) t.x,less (plus t.y (times d t.h f2)) t.y⟩:Tl),⟨t.x,plus t.y (times d t.h f2),less (plus t.x t.w) t.x,less (plus t.y t.h) (plus t.y (times d t.h f2))⟩]=_
   rw[bP Y.ox Y.o2,bP v.o.x v.o.w,eL Y.ox Y.o2 Y.ow]
  rw[e] at p
  exact p
 ·have b2:=bD s5 v.o.h F2.ok bh F2.bd
  simp only[mem_cons,not_mem_nil,or_false] at hu
  rcases hu with rfl|rfl
  ·exact⟨bx.mono ∅,by_.mono ∅⟩
  ·exact⟨bx.mono ∅,(cN Y.ox Y.o2 by_ b2).mono ∅⟩
 ·obtain⟨za0,zb0,za1,zb1,za2,zb2⟩:=z
  obtain⟨ze0,zf0,ze1,zf1,ze2,zf2⟩:=z'
  refine⟨[⟨_,a0,b0,e2,f2'⟩,⟨_,a0,b0,e0-e2,f0-f2'⟩],rfl,fun x hx=>?_,?_⟩
  ·simp only[mem_cons,not_mem_nil,or_false] at hx
   rcases hx with rfl|rfl
   ·exact⟨x0,y2,za0.mono ∅,zb0.mono ∅,ze2.mono ∅,zf2.mono ∅⟩
   ·exact⟨x0,ko Y.ow Y.o2 y0 y2,za0.mono ∅,zb0.mono ∅,(ze0.sub ze2).mono ∅,(zf0.sub zf2).mono ∅⟩
  ·constructor<;>simp only[sm,map_cons,map_nil,sum_cons,sum_nil]<;>grind
theorem RA{d:Int}(hd:ay d){t:Tl}(v:TV d t){f1 f2 f3 f4:N3}(F1:Fac d f1)(F2:Fac d f2)(F3:Fac d f3)(F4:Fac d f4) :
  pL d t [⟨t.x,t.y,times d t.w f1,times d t.h f2⟩,⟨plus t.x (times d t.w f1),t.y,less t.w (times d t.w f1),times d t.h f2⟩,⟨t.x,plus t.y (times d t.h f2),times d t.w f1,less t.h (times d t.h f2)⟩,⟨plus t.x (times d t.w f1),plus t.y (times d t.h f2),less t.w (times d t.w f1),less t.h (times d t.h f2)⟩]:=by
 have S:=Ml hd v F1 F2 F3 F4
 have X:=S.X
 have Y:=S.Y
 have s5:=o6 hd.1 hd.2.1
 refine Aq hd S.RX S.RY ?_ (by show 1<=4;decide) (by show 4<=9;decide) (fun n m bw bh bx by_ u hu=>?_) fun C K a0 b0 a1 b1 a2 b2 e0 f0 e1 f1' e2 f2' n x0 x1 x2 y0 y1 y2 z z'=>?_
 ·have p:=i6 hd (X.gr3 hd) (Y.gr3 hd) (qs:=[⟨0,1,0,1⟩,⟨1,2,0,1⟩,⟨0,1,1,2⟩,⟨1,2,1,2⟩]) (kD ⋯ ⋯) (T:=t) rfl rfl rfl rfl
  have e:[(⟨0,1,0,1⟩:GR.Bx),⟨1,2,0,1⟩,⟨0,1,1,2⟩,⟨1,2,1,2⟩].map (dW [t.x,plus t.x (times d t.w f1),plus t.x t.w] [t.y,plus t.y (times d t.h f2),plus t.y t.h])=[⟨t.x,t.y,times d t.w f1,times d t.h f2⟩,⟨plus t.x (times d t.w f1),t.y,less t.w (times d t.w f1),times d t.h f2⟩,⟨t.x,plus t.y (times d t.h f2),times d t.w f1,less t.h (times d t.h f2)⟩,⟨plus t.x (times d t.w f1),plus t.y (times d t.h f2),less t.w (times d t.w f1),less t.h (times d t.h f2)⟩]:=by
   show [(⟨t.x,t.y,less (plus t.x (times d t.w f1)) t.x,less (plus t.y (times d t.h f2)) t.y⟩:Tl),⟨plus t.x (times d t.w f1),t.y,less (plus t.x t.w) (plus t.x (times d t.w f1)),less (plus t.y (times d t.h f2)) t.y⟩,⟨t.x,plus t.y (times d t.h f2),less (plus t.x (times d t.w f1)) t.x,less (plus t.y t.h) (plus t.y (times d t.h f2))⟩,⟨plus t.x (times d t.w f1),plus t.y (times d t.h f2),less (plus t.x t.w) (plus t.x (times d t.w f1)),less (plus t.y t.h) (plus t.y (times d t.h f2))⟩]=_
   rw[bP X.ox X.o2,bP Y.ox Y.o2,eL X.ox X.o2 X.ow,eL Y.ox Y.o2 Y.ow]
  rw[e] at p
  exact p
 ·have b2:=(cN X.ox X.o2 bx (bD s5 v.o.w F1.ok bw F1.bd)).mono (show _<=m+n+48 by omega)
  have b3:=(cN Y.ox Y.o2 by_ (bD s5 v.o.h F2.ok bh F2.bd)).mono (show _<=m+n+48 by omega)
  have b0:=bx.mono (show m<=m+n+48 by omega)
  have b1:=by_.mono (show m<=m+n+48 by omega)
  simp only[mem_cons,not_mem_nil,or_false] at hu
  rcases hu with rfl|rfl|rfl|rfl
  ·exact⟨b0,b1⟩
  ·exact⟨b2,b1⟩
  ·exact⟨b0,b3⟩
  ·exact⟨b2,b3⟩
 ·obtain⟨za0,zb0,za1,zb1,za2,zb2⟩:=z
  obtain⟨ze0,zf0,ze1,zf1,ze2,zf2⟩:=z'
  refine⟨[⟨_,a2,b2,e2,f2'⟩,⟨_,a0-a2,b0-b2,e2,f2'⟩,⟨_,a2,b2,e0-e2,f0-f2'⟩,⟨_,a0-a2,b0-b2,e0-e2,f0-f2'⟩],rfl,fun x hx=>?_,?_⟩
  ·have q1:=ko X.ow X.o2 x0 x2
   have q2:=ko Y.ow Y.o2 y0 y2
   have u1:=(za0.sub za2).mono (show _<=n+2 by omega)
   have u2:=(zb0.sub zb2).mono (show _<=n+2 by omega)
   have u3:=(ze0.sub ze2).mono (show _<=n+2 by omega)
   have u4:=(zf0.sub zf2).mono (show _<=n+2 by omega)
   have v1:=za2.mono (show n<=n+2 by omega)
   have v2:=zb2.mono (show n<=n+2 by omega)
   have v3:=ze2.mono (show n<=n+2 by omega)
   have v4:=zf2.mono (show n<=n+2 by omega)
   simp only[mem_cons,not_mem_nil,or_false] at hx
   rcases hx with rfl|rfl|rfl|rfl
   ·exact⟨x2,y2,v1,v2,v3,v4⟩
   ·exact⟨q1,y2,u1,u2,v3,v4⟩
   ·exact⟨x2,q2,v1,v2,u3,u4⟩
   ·exact⟨q1,q2,u1,u2,u3,u4⟩
  ·constructor<;>simp only[sm,map_cons,map_nil,sum_cons,sum_nil]<;>grind
theorem SU{d:Int}(hd:ay d){t:Tl}(v:TV d t){f1 f2 f3 f4:N3}(F1:Fac d f1)(F2:Fac d f2)(F3:Fac d f3)(F4:Fac d f4){w2 w1 h2 h1:N3}(ew2:w2=times d t.w f1)(ew1:w1=times d w2 f3)(eh2:h2=times d t.h f2)(eh1:h1=times d h2 f4) :
  pL d t [⟨t.x,t.y,w2,h1⟩,⟨plus t.x w2,t.y,less t.w w2,h2⟩,⟨plus t.x w1,plus t.y h2,less t.w w1,less t.h h2⟩,⟨t.x,plus t.y h1,w1,less t.h h1⟩,⟨plus t.x w1,plus t.y h1,less w2 w1,less h2 h1⟩]:=by
 have s5:=o6 hd.1 hd.2.1
 have bw2:∀n,Bd n t.w->Bd (n+22) w2/\Bd (n+44) w1:=fun n b=>by
  have b2:=bD s5 v.o.w F1.ok b F1.bd
  have b1:=bD s5 (aM v.o.w F1.ok) F3.ok b2 F3.bd
  rw[ew1,ew2]
  exact⟨b2.mono ∅,b1.mono ∅⟩
 have bh2:∀n,Bd n t.h->Bd (n+22) h2/\Bd (n+44) h1:=fun n b=>by
  have b2:=bD s5 v.o.h F2.ok b F2.bd
  have b1:=bD s5 (aM v.o.h F2.ok) F4.ok b2 F4.bd
  rw[eh1,eh2]
  exact⟨b2.mono ∅,b1.mono ∅⟩
 have S:=Ml hd v F1 F2 F3 F4
 have X:=S.X
 have Y:=S.Y
 have RX:=S.RX
 have RY:=S.RY
 rw[<- ew2,<- ew1] at X RX
 rw[<- eh2,<- eh1] at Y RY
 clear ew2 ew1 eh2 eh1
 refine Aq hd RX RY ?_ (by show 1<=5;decide) (by show 5<=9;decide) (fun n m bw bh bx by_ u hu=>?_) fun C K a0 b0 a1 b1 a2 b2 e0 f0 e1 f1' e2 f2' n x0 x1 x2 y0 y1 y2 z z'=>?_
 ·have p:=i6 hd (X.gr4 hd) (Y.gr4 hd) (qs:=[⟨0,2,0,1⟩,⟨2,3,0,2⟩,⟨1,3,2,3⟩,⟨0,1,1,3⟩,⟨1,2,1,2⟩]) (kD ⋯ ⋯) (T:=t) rfl rfl rfl rfl
  have e:[(⟨0,2,0,1⟩:GR.Bx),⟨2,3,0,2⟩,⟨1,3,2,3⟩,⟨0,1,1,3⟩,⟨1,2,1,2⟩].map (dW [t.x,plus t.x w1,plus t.x w2,plus t.x t.w] [t.y,plus t.y h1,plus t.y h2,plus t.y t.h])=[⟨t.x,t.y,w2,h1⟩,⟨plus t.x w2,t.y,less t.w w2,h2⟩,⟨plus t.x w1,plus t.y h2,less t.w w1,less t.h h2⟩,⟨t.x,plus t.y h1,w1,less t.h h1⟩,⟨plus t.x w1,plus t.y h1,less w2 w1,less h2 h1⟩]:=by
   show [(⟨t.x,t.y,less (plus t.x w2) t.x,less (plus t.y h1) t.y⟩:Tl),⟨plus t.x w2,t.y,less (plus t.x t.w) (plus t.x w2),less (plus t.y h2) t.y⟩,⟨plus t.x w1,plus t.y h2,less (plus t.x t.w) (plus t.x w1),less (plus t.y t.h) (plus t.y h2)⟩,⟨t.x,plus t.y h1,less (plus t.x w1) t.x,less (plus t.y t.h) (plus t.y h1)⟩,⟨plus t.x w1,plus t.y h1,less (plus t.x w2) (plus t.x w1),less (plus t.y h2) (plus t.y h1)⟩]=_
   rw[bP X.ox X.o2,bP X.ox X.o1,bP Y.ox Y.o2,bP Y.ox Y.o1,eL X.ox X.o2 X.ow,eL X.ox X.o1 X.ow,eL X.ox X.o1 X.o2,eL Y.ox Y.o2 Y.ow,eL Y.ox Y.o1 Y.ow,eL Y.ox Y.o1 Y.o2]
  rw[e] at p
  exact p
 ·have p2:=(cN X.ox X.o2 bx (bw2 n bw).1).mono (show _<=m+n+48 by omega)
  have p1:=(cN X.ox X.o1 bx (bw2 n bw).2).mono (show _<=m+n+48 by omega)
  have r2:=(cN Y.ox Y.o2 by_ (bh2 n bh).1).mono (show _<=m+n+48 by omega)
  have r1:=(cN Y.ox Y.o1 by_ (bh2 n bh).2).mono (show _<=m+n+48 by omega)
  have p0:=bx.mono (show m<=m+n+48 by omega)
  have r0:=by_.mono (show m<=m+n+48 by omega)
  simp only[mem_cons,not_mem_nil,or_false] at hu
  rcases hu with rfl|rfl|rfl|rfl|rfl
  ·exact⟨p0,r0⟩
  ·exact⟨p2,r0⟩
  ·exact⟨p1,r2⟩
  ·exact⟨p0,r1⟩
  ·exact⟨p1,r1⟩
 ·obtain⟨za0,zb0,za1,zb1,za2,zb2⟩:=z
  obtain⟨ze0,zf0,ze1,zf1,ze2,zf2⟩:=z'
  refine⟨[⟨_,a2,b2,e1,f1'⟩,⟨_,a0-a2,b0-b2,e2,f2'⟩,⟨_,a0-a1,b0-b1,e0-e2,f0-f2'⟩,⟨_,a1,b1,e0-e1,f0-f1'⟩,⟨_,a2-a1,b2-b1,e2-e1,f2'-f1'⟩],rfl,fun x hx=>?_,?_⟩
  ·have up:∀{i:Int},Sz n i->Sz (n+2) i:=fun h=>h.mono ∅
   have sb:∀{i j:Int},Sz n i->Sz n j->Sz (n+2) (i-j):=fun h g=>(h.sub g).mono ∅
   simp only[mem_cons,not_mem_nil,or_false] at hx
   rcases hx with rfl|rfl|rfl|rfl|rfl
   ·exact⟨x2,y1,up za2,up zb2,up ze1,up zf1⟩
   ·exact⟨ko X.ow X.o2 x0 x2,y2,sb za0 za2,sb zb0 zb2,up ze2,up zf2⟩
   ·exact⟨ko X.ow X.o1 x0 x1,ko Y.ow Y.o2 y0 y2,sb za0 za1,sb zb0 zb1,sb ze0 ze2,sb zf0 zf2⟩
   ·exact⟨x1,ko Y.ow Y.o1 y0 y1,up za1,up zb1,sb ze0 ze1,sb zf0 zf1⟩
   ·exact⟨ko X.o2 X.o1 x2 x1,ko Y.o2 Y.o1 y2 y1,sb za2 za1,sb zb2 zb1,sb ze2 ze1,sb zf2 zf1⟩
  ·constructor<;>simp only[sm,map_cons,map_nil,sum_cons,sum_nil]<;>grind
theorem QM{d:Int}(hd:ay d){z:N3}(oz:Ok z)(bz:Bd 4 z)(sz:sg d z.a z.b=1):Fac d (bN d (plus one z)):=by
 have s5:=o6 hd.1 hd.2.1
 have oy:=aW dr oz
 have r:Rep (plus one z) (z.c+z.a) z.b z.c:=((aD dr).plus dr oz (aD oz)).conv oz.cn (by show (1*z.c+z.a*1)*z.c=(z.c+z.a)*(1*z.c);grind) (by show (0*z.c+z.b*1)*z.c=z.b*(1*z.c);grind)
 have by_:Bd 5 (plus one z):=r.bd oy (bz.c.add bz.a) (bz.b.mono ⋯) (bz.c.mono ⋯)
 have sy:sg d (plus one z).a (plus one z).b=1:=by
  have h1:Lq d one (plus one z):=mM hd dr oz sz
  have h0:Lq d av one:=yX oJ
  have:=uC hd bB dr oy h0 h1
  have h2:dif d (plus one z) av=1:=this
  rw[fG] at h2
  exact h2
 have ny:=wo hd oy sy
 have of:=nM ny
 have sf:=Ct hd oy sy
 refine⟨of,(D7 s5 ny by_).mono ⋯,sf,?_⟩
 have e:less one (bN d (plus one z))=times d z (bN d (plus one z)):=by
  have h1:=LN (d:=d) (a:=plus one z) (b:=one) (f:=bN d (plus one z)) oy dr of
  rw[mU oy ny,AO dr of,GG of,bP dr oz] at h1
  exact h1
 rw[e,nP hd oz of,sz,sf];rfl
theorem SM{x:N3}(ox:Ok x):plus x av=x:=
 Rep.eq (aW ox bB) ox ((aD ox).plus ox bB (aD bB)) (aD ox) (by show (_*1+0*_)*_=_*(_*1);grind) (by show (_*1+0*_)*_=_*(_*1);grind)
theorem CP{g:Te->Int}{v:Int}:∀{l:List Te},(∀x∈l,g x=v)->sm g l=l.length*v
 |[],_=>by unfold sm;simp
 |x::l,h=>by
  have ih:=CP (l:=l) fun y hy=>h y (mem_cons_of_mem _ hy)
  unfold sm at ih ⊢
  rw[map_cons,sum_cons,ih,h x mem_cons_self,length_cons,Int.natCast_succ]
  grind
theorem KH{g:Te->Int}(l m:List Te):sm g (l++m)=sm g l+sm g m:=by unfold sm;rw[map_append,List.sum_append]
theorem vQ{g:Te->Int}{l m:List Te}(h:l.Perm m):sm g l=sm g m:=by
 unfold sm
 induction h with
 |nil=>rfl
 |cons x _ ih=>rw[map_cons,map_cons,sum_cons,sum_cons,ih]
 |swap x y l=>simp only[map_cons,sum_cons];omega
 |trans _ _ h1 h2=>rw[h1,h2]
theorem Jj{g g1 g2 g3 g4:Te->Int}{k1 k2 k3 k4:Int}(h:∀x,g x=k1*g1 x+k2*g2 x+k3*g3 x+k4*g4 x)(l:List Te):sm g l=k1*sm g1 l+k2*sm g2 l+k3*sm g3 l+k4*sm g4 l:=by
 induction l with
 |nil=>unfold sm;simp
 |cons x l ih=>
  unfold sm at ih ⊢
  simp only[map_cons,sum_cons]
  rw[ih,h x]
  grind
theorem OX{g g':Te->Int}{φ:Te->Te}{k:Int}(h:∀y,g (φ y)=k*g' y)(m:List Te):sm g (m.map φ)=k*sm g' m:=by
 induction m with
 |nil=>unfold sm;simp
 |cons y m ih=>
  unfold sm at ih ⊢
  simp only[map_cons,sum_cons]
  rw[ih,h y,Int.mul_add]
theorem Gs{g:Te->Int}(x:Te)(m:List Te):sm g (x::m)=g x+sm g m:=by unfold sm;rw[map_cons,sum_cons]
noncomputable def cel(d:Int)(t:Tl)(wide high:N3)(u v:Nat):List Tl:=(List.range v).flatMap fun j=>(List.range u).map fun i=>⟨plus t.x (Uq d wide i),plus t.y (Uq d high j),wide,high⟩
noncomputable def cq(u v:Nat):List GR.Bx:=(List.range v).flatMap fun j=>(List.range u).map fun i=>⟨i,i+1,j,j+1⟩
noncomputable def prt(d:Int)(x wide:N3)(u:Nat):List N3:=(List.range (u+1)).map fun i=>plus x (Uq d wide i)
theorem xQ{u:Nat}(h:0<u):Ok ⟨1,0,(u:Int)⟩:=⟨by show (0:Int)<u;omega,by show Int.gcd (Int.gcd 1 0) u=1;rw[show ((Int.gcd 1 0:Nat):Int)=1 from rfl];exact Int.gcd_one_left _⟩
structure Ws(d:Int)(w wide:N3)(u:Nat):Prop where
 o:Ok wide
 s:sg d wide.a wide.b=1
 all:Uq d wide u=w
 rep:∀a b C,Rep w a b C->Rep wide a b (C*u)
theorem DC{d:Int}(hd:ay d){w:N3}(ow:Ok w)(sw:sg d w.a w.b=1){u:Nat}(h:0<u):Ws d w (times d w ⟨1,0,(u:Int)⟩) u:=by
 have ou:=xQ h
 have o:=aM (d:=d) ow ou
 have rep:∀a b C,Rep w a b C->Rep (times d w ⟨1,0,(u:Int)⟩) a b (C*u):=fun a b C r=>by
  have q:=r.times (d:=d) ow ou (aD ou)
  have q':Rep (times d w ⟨1,0,(u:Int)⟩) (a*1+d*b*0) (a*0+b*1) (C*u):=q
  rw[mul_one,mul_zero,Int.add_zero,mul_zero,Int.zero_add,mul_one] at q'
  exact q'
 refine⟨o,?_,?_,rep⟩
 ·rw[nP hd ow ou,sw,show sg d 1 0=1 from oJ];rfl
 ·have r1:=(rep _ _ _ (aD ow)).times (d:=d) o (xD u) (aD (xD u))
  refine Rep.eq (fM o) ow r1 (aD ow) ?_ ?_
  ·show (w.a*u+d*w.b*0)*w.c=w.a*(w.c*u*1);grind
  ·show (w.a*0+w.b*u)*w.c=w.b*(w.c*u*1);grind
theorem j0{d:Int}{x wide:N3}{u i:Nat}(h:i<=u):(prt d x wide u).getD i av=plus x (Uq d wide i):=by
 unfold prt
 rw[getD_eq_getElem?_getD,getElem?_map,List.getElem?_range ∅]
 rfl
theorem Jd{d:Int}(hd:ay d){x w wide:N3}{u:Nat}(ox:Ok x)(W:Ws d w wide u):Gr d (prt d x wide u) u:=by
 refine⟨by unfold prt;simp,?_,fun y hy=>?_⟩
 ·unfold cK prt
  rw[pairwise_map,List.pairwise_iff_getElem]
  intro i j hi hj l
  rw[List.getElem_range,List.getElem_range]
  exact Ez hd ox (fM W.o) (fM W.o) (by rw[BH W.o ∅];exact Jr hd W.o W.s ∅)
 ·unfold prt at hy
  obtain⟨i,_,rfl⟩:=List.mem_map.mp hy
  exact aW ox (fM W.o)
theorem SX{d:Int}(hd:ay d){t:Tl}(v:TV d t){u k:Nat}(u0:0<u)(u3:u<=3)(k0:0<k)(k3:k<=3):pL d t (cel d t (times d t.w ⟨1,0,(u:Int)⟩) (times d t.h ⟨1,0,(k:Int)⟩) u k):=by
 have s5:=o6 hd.1 hd.2.1
 have W:=DC hd v.o.w v.w u0
 have H:=DC hd v.o.h v.h k0
 have bo:∀{i:Nat},i<=3->Bd 2 ⟨1,0,(i:Int)⟩:=fun hi=>⟨Sz.of (by show (1:Int).natAbs<4;decide),Sz.of (by show (0:Int).natAbs<4;decide),Sz.of (by show ((_:Nat):Int).natAbs<4;omega)⟩
 have bw:∀n,Bd n t.w->Bd (n+8) (times d t.w ⟨1,0,(u:Int)⟩):=fun n b=>(bD s5 v.o.w (xQ u0) b (bo u3)).mono ∅
 have bh:∀n,Bd n t.h->Bd (n+8) (times d t.h ⟨1,0,(k:Int)⟩):=fun n b=>(bD s5 v.o.h (xQ k0) b (bo k3)).mono ∅
 generalize times d t.w ⟨1,0,(u:Int)⟩=wide at *
 generalize times d t.h ⟨1,0,(k:Int)⟩=high at *
 have cov:GR.qG (cq u k) u k:=by
  have hu:u=1\/u=2\/u=3:=by omega
  have hk:k=1\/k=2\/k=3:=by omega
  rcases hu with rfl|rfl|rfl<;>rcases hk with rfl|rfl|rfl<;>exact kD ⋯ ⋯
 have len:(cq u k).length=u*k:=by
  have hu:u=1\/u=2\/u=3:=by omega
  have hk:k=1\/k=2\/k=3:=by omega
  rcases hu with rfl|rfl|rfl<;>rcases hk with rfl|rfl|rfl<;>rfl
 have e:(cq u k).map (dW (prt d t.x wide u) (prt d t.y high k))=cel d t wide high u k:=by
  unfold cq cel
  rw[List.map_flatMap]
  rw[List.flatMap_def,List.flatMap_def]
  congr 1
  refine List.map_congr_left fun j hj=>?_
  rw[map_map]
  refine List.map_congr_left fun i hi=>?_
  have hi':=List.mem_range.mp hi
  have hj':=List.mem_range.mp hj
  show dW (prt d t.x wide u) (prt d t.y high k) ⟨i,i+1,j,j+1⟩=_
  unfold dW
  dsimp only
  have u1:∀{x:N3},Ok x->Uq d x 1=x:=fun ox=>GG ox
  rw[j0 ∅,j0 ∅,j0 ∅,j0 ∅,eL v.o.x (fM W.o) (fM W.o),eL v.o.y (fM H.o) (fM H.o),BH W.o ∅,BH H.o ∅,Nat.add_sub_cancel_left,Nat.add_sub_cancel_left,u1 W.o,u1 H.o]
 have le:(cel d t wide high u k).length=u*k:=by rw[<- e,length_map,len]
 have uk:u*k<=3*3:=mul_le_mul u3 k3
 have pu:0<u*k:=Nat.mul_pos u0 k0
 refine⟨?_,∅,∅,fun n m b1 b2 b3 b4 y hy=>?_,(u:Int),(k:Int),∅,∅,(Sz.of (n:=2) (by show ((u:Nat):Int).natAbs<4;omega)).mono ⋯,(Sz.of (n:=2) (by show ((k:Nat):Int).natAbs<4;omega)).mono ⋯,fun a b e' f C K n ra re sa sb se sf=>?_⟩
 ·have z:∀{x s:N3},Ok x->Ok s->x=plus x (Uq d s 0):=fun ox os=>by rw[NJ os,SM ox]
  have p:=i6 hd (Jd hd v.o.x W) (Jd hd v.o.y H) cov (T:=t) (by rw[j0 (zero_le _)];exact z v.o.x W.o) (by rw[j0 (le_refl _),W.all]) (by rw[j0 (zero_le _)];exact z v.o.y H.o) (by rw[j0 (le_refl _),H.all])
  rw[e] at p
  exact p
 ·unfold cel at hy
  obtain⟨j,hj,hy⟩:=List.mem_flatMap.mp hy
  obtain⟨i,hi,rfl⟩:=List.mem_map.mp hy
  have hi':=List.mem_range.mp hi
  have hj':=List.mem_range.mp hj
  exact⟨(cN v.o.x (fM W.o) b3 (NR s5 W.o (bw n b1) (show i<2 ^ 2 by omega) ⋯)).mono ∅,(cN v.o.y (fM H.o) b4 (NR s5 H.o (bh n b2) (show j<2 ^ 2 by omega) ⋯)).mono ∅⟩
 ·have key:∀y∈cel d t wide high u k,y.w=wide/\y.h=high:=fun y hy=>by
   unfold cel at hy
   obtain⟨j,hj,hy⟩:=List.mem_flatMap.mp hy
   obtain⟨i,hi,rfl⟩:=List.mem_map.mp hy
   exact⟨rfl,rfl⟩
  refine⟨(cel d t wide high u k).map fun y=>⟨y,a,b,e',f⟩,?_,fun x hx=>?_,?_⟩
  ·rw[map_map]
   conv=>rhs;rw[<- map_id (cel d t wide high u k)]
   rfl
  ·obtain⟨y,hy,rfl⟩:=List.mem_map.mp hx
   obtain⟨k1,k2⟩:=key y hy
   exact⟨by show Rep y.w a b _;rw[k1];exact W.rep _ _ _ ra,by show Rep y.h e' f _;rw[k2];exact H.rep _ _ _ re,sa.mono ∅,sb.mono ∅,se.mono ∅,sf.mono ∅⟩
  ·have c:∀(g:Te->Int) (v:Int),(∀y,g ⟨y,a,b,e',f⟩=v)->sm g ((cel d t wide high u k).map fun y=>⟨y,a,b,e',f⟩)=(u:Int)*k*v:=fun g v h=>by
    rw[CP fun x hx=>by obtain⟨y,_,rfl⟩:=List.mem_map.mp hx;exact h y,length_map,le,Int.natCast_mul]
   constructor
   ·rw[c _ (a*e') fun _=>rfl];grind
   ·rw[c _ (a*f) fun _=>rfl];grind
   ·rw[c _ (b*e') fun _=>rfl];grind
   ·rw[c _ (b*f) fun _=>rfl];grind
structure L16(d:Int)(W H:N3)(j:Nat)(ts:List Tl):Prop where
 hd:ay d
 oW:Ok W
 oH:Ok H
 sW:sg d W.a W.b=1
 sH:sg d H.a H.b=1
 bW:Bd 20 W
 bH:Bd 20 H
 part:Part d (flr W H) ts
 pos:∀t∈ts,Bd (2+320*j) t.x/\Bd (2+320*j) t.y
 com:∃(C K A B E F:Int) (l:List Te),0<C/\0<K/\Sz (20+32*j) C/\Sz (20+32*j) K/\Rep W A B C/\Rep H E F K/\l.map Te.t=ts/\(∀x∈l,Ge C K (20+48*j) x)/\PX l A B E F
theorem L16.start{d:Int}(hd:ay d){W H:N3}(oW:Ok W)(oH:Ok H)(sW:sg d W.a W.b=1)(sH:sg d H.a H.b=1)(bW:Bd 20 W)(bH:Bd 20 H):L16 d W H 0 [flr W H]:=by
 refine⟨hd,oW,oH,sW,sH,bW,bH,.one ⟨⟨bB,bB,oW,oH⟩,sW,sH⟩,fun t ht=>?_,W.c,H.c,W.a,W.b,H.a,H.b,[⟨flr W H,W.a,W.b,H.a,H.b⟩],oW.c,oH.c,bW.c,bH.c,aD oW,aD oH,rfl,fun x hx=>?_,?_⟩
 ·rw[List.mem_singleton.mp ht]
  have:Bd 2 av:=⟨Sz.of ⋯,Sz.of ⋯,Sz.of ⋯⟩
  exact⟨this,this⟩
 ·rw[List.mem_singleton.mp hx]
  exact⟨aD oW,aD oH,bW.a,bW.b,bH.a,bH.b⟩
 ·constructor<;>simp[sm]
theorem L16.perm{d:Int}{W H:N3}{j:Nat}{ts us:List Tl}(L:L16 d W H j ts)(p:us.Perm ts):L16 d W H j us:=by
 obtain⟨C,K,A,B,E,F,l,c0,k0,sc,sk,rW,rH,e,g,s⟩:=L.com
 obtain⟨m,rfl,pm⟩:=Kv p e.symm
 exact⟨L.hd,L.oW,L.oH,L.sW,L.sH,L.bW,L.bH,L.part.perm p,fun t ht=>L.pos t (p.mem_iff.mp ht),C,K,A,B,E,F,m,c0,k0,sc,sk,rW,rH,rfl,fun x hx=>g x (pm.mem_iff.mp hx),⟨by rw[vQ pm];exact s.ae,by rw[vQ pm];exact s.af,by rw[vQ pm];exact s.be,by rw[vQ pm];exact s.bf⟩⟩
theorem L16.bd{d:Int}{W H:N3}{j:Nat}{ts:List Tl}(L:L16 d W H j ts){t:Tl}(ht:t∈ts):Bd (20+48*j) t.w/\Bd (20+48*j) t.h:=by
 obtain⟨C,K,A,B,E,F,l,c0,k0,sc,sk,rW,rH,rfl,g,s⟩:=L.com
 obtain⟨x,hx,rfl⟩:=List.mem_map.mp ht
 have v:=L.part.val _ ht
 have G:=g x hx
 exact⟨G.w.bd v.o.w G.sa G.sb (sc.mono ∅),G.h.bd v.o.h G.se G.sf (sk.mono ∅)⟩
theorem L16.cut{d:Int}{W H:N3}{j:Nat}{t:Tl}{ts us:List Tl}(L:L16 d W H j (t::ts))(hj:j<=5)(c:pL d t us):L16 d W H (j+1) (ts++us):=by
 have bt:=L.bd mem_cons_self
 have pt:=L.pos t mem_cons_self
 obtain⟨C,K,A,B,E,F,l,c0,k0,sc,sk,rW,rH,e,g,s⟩:=L.com
 obtain⟨x,m,rfl,rfl,rfl⟩:∃x m,l=x::m/\x.t=t/\m.map Te.t=ts:=by
  cases l with
  |nil=>cases e
  |cons x m=>rw[map_cons] at e;injection e with e1 e2;exact⟨x,m,rfl,e1,e2⟩
 obtain⟨cc,kk,hc,hk,scc,skk,all⟩:=c.com
 have G:=g x mem_cons_self
 obtain⟨l',el,gl,sl⟩:=all x.a x.b x.e x.f C K _ G.w G.h G.sa G.sb G.se G.sf
 have up:∀{i:Int},Sz (20+48*j) i->Sz (20+48*(j+1)) (cc*i)/\Sz (20+48*(j+1)) (kk*i):=fun h=>⟨(scc.mul h).mono ∅,(skk.mul h).mono ∅⟩
 refine⟨L.hd,L.oW,L.oH,L.sW,L.sH,L.bW,L.bH,L.part.put c.part,fun y hy=>?_,C*cc,K*kk,cc*A,cc*B,kk*E,kk*F,m.map (fun y=>⟨y.t,cc*y.a,cc*y.b,kk*y.e,kk*y.f⟩)++l',mul_pos c0 hc,mul_pos k0 hk,(sc.mul scc).mono ∅,(sk.mul skk).mono ∅,xu rW ∅,xu rH ∅,?_,fun y hy=>?_,?_⟩
 ·rcases List.mem_append.mp hy with z|z
  ·exact⟨(L.pos y (mem_cons_of_mem _ z)).1.mono ∅,(L.pos y (mem_cons_of_mem _ z)).2.mono ∅⟩
  ·have:=c.pos _ _ bt.1 bt.2 pt.1 pt.2 y z
   exact⟨this.1.mono ∅,this.2.mono ∅⟩
 ·rw[map_append,map_map,el];rfl
 ·rcases List.mem_append.mp hy with z|z
  ·obtain⟨y',hy',rfl⟩:=List.mem_map.mp z
   have G:=g y' (mem_cons_of_mem _ hy')
   exact⟨xu G.w ∅,xu G.h ∅,(up G.sa).1,(up G.sb).1,(up G.se).2,(up G.sf).2⟩
  ·have G:=gl y z
   exact⟨G.w,G.h,G.sa.mono ∅,G.sb.mono ∅,G.se.mono ∅,G.sf.mono ∅⟩
 ·have fin:∀{p q P Q:Int} {g:Te->Int},(∀y:Te,g ⟨y.t,cc*y.a,cc*y.b,kk*y.e,kk*y.f⟩=cc*kk*g y)->g x=p*q->sm g (x::m)=P*Q->sm g l'=(cc*p)*(kk*q)->sm g (m.map (fun y=>⟨y.t,cc*y.a,cc*y.b,kk*y.e,kk*y.f⟩)++l')=(cc*P)*(kk*Q):=fun {p q P Q g} h1 h2 h3 h4=>by
   rw[KH,OX (k:=cc*kk) h1,h4]
   rw[Gs,h2] at h3
   have h5:sm g m=P*Q-p*q:=by omega
   rw[h5]
   grind
  exact⟨fin (fun y=>by show cc*y.a*(kk*y.e)=cc*kk*(y.a*y.e);grind) rfl s.ae sl.ae,fin (fun y=>by show cc*y.a*(kk*y.f)=cc*kk*(y.a*y.f);grind) rfl s.af sl.af,fin (fun y=>by show cc*y.b*(kk*y.e)=cc*kk*(y.b*y.e);grind) rfl s.be sl.be,fin (fun y=>by show cc*y.b*(kk*y.f)=cc*kk*(y.b*y.f);grind) rfl s.bf sl.bf⟩
noncomputable def weigh(d:Int)(p q s t w h:N3):N3:=plus (times d w (plus (times d p h) (times d q (nI h)))) (times d (nI w) (plus (times d s h) (times d t (nI h))))
noncomputable def W4(p q s t:N3):PyData:=.tuple [dN p,dN q,dN s,dN t]
structure Ok4(n:Nat)(p q s t:N3):Prop where
 op:Ok p
 oq:Ok q
 os:Ok s
 ot:Ok t
 bp:Bd n p
 bq:Bd n q
 bs:Bd n s
 bt:Bd n t
noncomputable def eM:DSp:=fun ds U Q=>∃(d:Int) (p q s t w h:N3),ds=[.v (.int d),.v (W4 p q s t),.v (dN w),.v (dN h)]/\ay d/\Ok4 810 p q s t/\Ok w/\Bd 810 w/\Ok h/\Bd 880 h/\Q (.v (dN (weigh d p q s t w h))) U
theorem pN{U:Mu}{Q:DK}{ds:List D}(h:eM ds U Q):ds.length=4:=by obtain⟨_,_,_,_,_,_,_,rfl,_⟩:=h;rfl
noncomputable def lI:XSp:=fun ds U Xk=>∃(d:Int) (t:PyData),ds=[.v (.int d),.v t]/\ay d/\Di t/\(∀b,oA d t b->b=false)/\Xk U
theorem vq{ds:List D}{U:Mu}{X:Mu->Prop}(h:lI ds U X):ds.length=2:=by obtain⟨_,_,rfl,_⟩:=h;rfl
noncomputable def vO:XSp:=fun ds U Xk=>∃(d:Int) (u t:PyData),ds=[.v (.int d),.v u,.v t]/\ay d/\Di t/\(∀b,oA d t b->b=false)/\Xk U
theorem AW{ds:List D}{U:Mu}{X:Mu->Prop}(h:vO ds U X):ds.length=3:=by obtain⟨_,_,_,rfl,_⟩:=h;rfl
structure Pf(d:Int)(p q s t W H:N3)(ts:List Tl):Prop where
 o4:Ok4 20 p q s t
 l:Fh d 2000 W H ts
 bW:Bd 320 W
 bH:Bd 320 H
 b:∀u∈ts,Bd 320 u.w/\Bd 320 u.h
noncomputable def wgs(d:Int)(p q s t:N3)(ts:List Tl):List PyData:=ts.map fun u=>dN (weigh d p q s t u.w u.h)
noncomputable def rE:DSp:=fun ds U Q=>∃(d:Int) (p q s t W H:N3) (ts:List Tl),ds=[.v (.int d),.v (W4 p q s t),.v (fg W H ts)]/\Pf d p q s t W H ts/\∀a Z,U a=none->gJ U Z->Z a=some (wgs d p q s t ts)->Q (.q (QP (dN (weigh d p q s t W H)) a)) Z
theorem C1{ds:List D}{U:Mu}{Q:DK}(h:rE ds U Q):ds.length=3:=by obtain⟨_,_,_,_,_,_,_,_,rfl,_⟩:=h;rfl
noncomputable def MU:DSp:=fun ds U Q=>∃(d:Int) (p q s t W H:N3) (ts:List Tl),ds=[.v (.int d),.v (W4 p q s t),.v (fg W H ts)]/\Pf d p q s t W H ts/\Q (.v (.tuple [dN (weigh d p q s t W H),.list (wgs d p q s t ts)])) U
noncomputable def vP:DSp:=fun ds U Q=>rE ds U Q\/MU ds U Q
theorem uh{ds:List D}{U:Mu}{Qd:DK}(h:vP ds U Qd):rE ds U Qd\/rE ds U (Sj U Qd):=by
 rcases h with h|h
 ·exact .inl h
 ·obtain⟨d,p,q,s,t,W,H,ts,rfl,L,k⟩:=h
  exact .inr ⟨d,p,q,s,t,W,H,ts,rfl,L,fun a Z n sb e=>⟨_,a,_,rfl,⟨n,sb⟩,e,k⟩⟩
noncomputable def qh:DSp:=fun ds U Q=>∃(a:Addr) (d:Int),ds=[.m a,.v (.int d)]/\ay d/\Bag U a/\∀f Z,Fac d f->Step a U Z->Q (.v (dN f)) Z
theorem Fj{ds:List D}{U:Mu}{Q:DK}(h:qh ds U Q):ds.length=2:=by obtain⟨_,_,rfl,_⟩:=h;rfl
noncomputable def qj:DTS:=
 (aP (br (ai 1) (dD 4 (aG (ar 4) (aG (ar 5) (aG (ar 6) (aG (ar 7) dO))))))
 (aP (br (ax bQ (ah (ax bL (ah (ai 0) (ah (ai 4) (ah (ai 3) au)))) (ah (ax bL (ah (ai 0) (ah (ai 5) (ah (ax jv (ah (ai 3) au)) au)))) au))) (ar 8))
 (aP (br (ax bQ (ah (ax bL (ah (ai 0) (ah (ai 6) (ah (ai 3) au)))) (ah (ax bL (ah (ai 0) (ah (ai 7) (ah (ax jv (ah (ai 3) au)) au)))) au))) (ar 9))
 (bI (ax bQ (ah (ax bL (ah (ai 0) (ah (ai 2) (ah (ai 8) au)))) (ah (ax bL (ah (ai 0) (ah (ax jv (ah (ai 2) au)) (ah (ai 9) au)))) au)))))))
noncomputable def pG:DTS:=
 (aP (br (ai 1) (dD 4 (aG (ar 4) (aG (ar 5) (aG (ar 6) (aG (ar 7) dO))))))
 (aP (br (ax bQ (ah (ax bL (ah (ai 0) (ah (ai 4) (ah (ai 3) au)))) (ah (ax bL (ah (ai 0) (ah (ai 5) (ah (ax jv (ah (ai 3) au)) au)))) au))) (ar 8))
 (aP (br (ax bQ (ah (ax bL (ah (ai 0) (ah (ai 6) (ah (ai 3) au)))) (ah (ax bL (ah (ai 0) (ah (ai 7) (ah (ax jv (ah (ai 3) au)) au)))) au))) (ar 9))
 (bI (ax bQ (ah (ax bL (ah (ai 0) (ah (ai 2) (ah (ai 8) au)))) (ah (ax bL (ah (ai 0) (ah (ax jv (ah (ai 2) au)) (ah (ai 9) au)))) au)))))))
noncomputable def cA:DTX:=
 (xIf (eo (dB (ax nO (ah (ai 0) (ah (ai 1) au))))) (fun _ U Xk=>Xk U) Ku)
noncomputable def cQ:DTX:=
 (Hi lI (ah (ai 0) (ah (ai 2) au)))
noncomputable def ff(ea:Addr):DTS:=
 (aP (br (jy (ah (bF (ah (dC (.str "NoRoot")) (ah (lD ea false (ai 1)) au))) (ah (bF (ah (dC (.str "NoNumber")) (ah (lD ea false (ai 1)) au))) (ah (bF (ah (dC (.str "NoLaying")) (ah (lD ea true (ai 1)) au))) (ah (bF (ah (dC (.str "NoTile")) (ah (lD ea false (ai 1)) au))) (ah (bF (ah (dC (.str "NoFit")) (ah (lD ea false (ai 1)) au))) (ah (bF (ah (dC (.str "NoKinds")) (ah (lD ea false (ai 1)) au))) (ah (bF (ah (dC (.str "NoPlan")) (ah (lD ea false (ai 1)) au))) (ah (bF (ah (dC (.str "NoSpot")) (ah (lD ea false (ai 1)) au))) (ah (bF (ah (dC (.str "NoNet")) (ah (lD ea false (ai 1)) au))) (ah (bF (ah (dC (.str "NoText")) (ah (lD ea false (ai 1)) au))) (ah (bF (ah (dC (.str "NoSaying")) (ah (lD ea false (ai 1)) au))) (ah (bF (ah (dC (.str "NoName")) (ah (lD ea false (ai 1)) au))) (ah (bF (ah (dC (.str "TooMany")) (ah (lD ea false (ai 1)) au))) au)))))))))))))) (ar 2))
 (aP (br (gS [none,none] (lu (ai 2)) (dD 2 (aG (ar 0) (aG (ar 1) dO))) (dB (ai 1)) (ai 0)) (ar 3))
 (aP (dA (zl (dB (dOp (dP false) (dCB dq (ah (ai 3) au)) (dC (.int 1)))) (dB (lD ea true (ai 1)))) (bI (dOp aN (ai 3) (dC (.int 0)))) bV)
 (bI (dC (.str "several"))))))
noncomputable def iF:DTS:=
 (aP (uB (ax oP (ah (ai 0) (ah (ai 2) au))))
 (aP (br (ai 2) (dD 3 (aG (ar 3) (aG (ar 4) (aG (ar 5) dO)))))
 (aP (br (BY [none,none,none,none,some 0,some 1] (sJ (ai 5)) (dD 4 (aG (ar 0) (aG (ar 1) (aG (ar 2) (aG (ar 3) dO))))) kP (ax eM (ah (ai 4) (ah (ai 5) (ah (ai 2) (ah (ai 3) au)))))) (ar 6))
 (bI (Kz (ah (ax eM (ah (ai 0) (ah (ai 1) (ah (ai 3) (ah (ai 4) au))))) (ah (ai 6) au)))))))
noncomputable def iN:DTS:=
 (aP (br (ax dM (ah (kj (dC (.int 1)) (ax bX (ah (ai 0) (ah (dC (.int 9)) au)))) (ah (dOp aN (jy (ah (dC (.int 0)) (ah (mP (ax bX (ah (ai 0) (ah (dC (.int 7)) au))) (dC (.int 3))) au))) (ax bX (ah (ai 0) (ah (dC (.int 2)) au)))) (ah (kj (dC (.int 1)) (ax bX (ah (ai 0) (ah (dC (.int 4)) au)))) au)))) (ar 2))
 (aP (dA (dB (dOp rLt (ax kv (ah (ai 1) (ah (ai 2) au))) (dC (.int 0)))) (br (ax gp (ah (ai 2) au)) (ar 2)) bV)
 (bI (ax jG (ah (ai 1) (ah (ax bQ (ah (bF (ah (dC (.int 1)) (ah (dC (.int 0)) (ah (dC (.int 1)) au)))) (ah (ai 2) au))) au))))))
section
variable {U:Mu}{Qd:DK}{ds:List D}{Xk:Mu->Prop}
theorem ki{U:Mu}{Qd:DK}{ea fa:Addr}(q:Qd (.v (.str "NoLaying")) U):ff ea {nx:=fun _ _=>False,rt:=Qd} [some (.o fa),some (.o ea),none,none] U:=by
 unfold ff
 simp only[↓wR,↓JY,↓C5,↓Em,↓qw,↓yv,↓q_c,↓K9,↓D1,↓Ea,↓oS,map_some,set_cons_zero,set_cons_succ]
 refine K0 (ns:=[("NoRoot",false),("NoNumber",false),("NoLaying",true),("NoTile",false),("NoFit",false),("NoKinds",false),("NoPlan",false),("NoSpot",false),("NoNet",false),("NoText",false),("NoSaying",false),("NoName",false),("TooMany",false)]) rfl ⋯ ?_
 simp only[↓oS,↓wR,set_cons_zero,set_cons_succ,map_cons,map_nil,filterMap_cons,List.filterMap_nil,KP,false_eq_true,↓reduceIte]
 simp only[↓KN,↓EF,↓q_B,↓Qo,↓Ou,↓qw,↓yv,↓tK,↓yp,↓q_c,↓Dl,↓K9,↓Ds,↓xh,List.getElem?_cons_zero,List.getElem?_cons_succ,length_cons,length_nil]
 exact q
theorem xg(h:eM ds U Qd):qj ‹Qd› (aS ["d","weights","width","height","p","q","s","t","by_width","by_its_mate"] ds) U:=by
 obtain⟨d,p,q',s,t,w,h,rfl,hd,o4,ow,bw,oh,bh,q⟩:=h
 obtain⟨op,oq,os,ot,bp,bq,bs,bt⟩:=o4
 have s5:=o6 hd.1 hd.2.1
 have omh:=gj oh
 have bmh:=Bu bh
 have b2:∀{u:N3},Bd 810 u->Bd 4300 u:=fun h=>h.mono ⋯
 have b3:∀{u:N3},Bd 880 u->Bd 4300 u:=fun h=>h.mono ⋯
 have tp:=bD s5 op oh bp bh
 have tq:=bD s5 oq omh bq bmh
 have ts:=bD s5 os oh bs bh
 have tt:=bD s5 ot omh bt bmh
 have o1:=aM (d:=d) op oh
 have o2:=aM (d:=d) oq omh
 have o3:=aM (d:=d) os oh
 have o4:=aM (d:=d) ot omh
 have b12:=cN o1 o2 tp tq
 have b34:=cN o3 o4 ts tt
 have o12:=aW o1 o2
 have o34:=aW o3 o4
 have ow1:=aM (d:=d) ow o12
 have ow2:=aM (d:=d) (gj ow) o34
 have bw1:=bD s5 ow o12 bw b12
 have bw2:=bD s5 (gj ow) o34 (Bu bw) b34
 unfold qj
 simp only[W4]
 walk_at "rn"
 refine⟨trivial,d,p,h,rfl,s5,op,oh,b2 bp,b3 bh,?_⟩
 walk_at "rn"
 refine⟨h,rfl,d,q',nI h,rfl,s5,oq,omh,b2 bq,b3 bmh,_,_,rfl,o1,o2,tp.mono ⋯,tq.mono ⋯,?_⟩
 walk_at "rn"
 refine⟨d,s,h,rfl,s5,os,oh,b2 bs,b3 bh,?_⟩
 walk_at "rn"
 refine⟨h,rfl,d,t,nI h,rfl,s5,ot,omh,b2 bt,b3 bmh,_,_,rfl,o3,o4,ts.mono ⋯,tt.mono ⋯,?_⟩
 walk_at "rn"
 refine⟨d,w,_,rfl,s5,ow,o12,b2 bw,b12.mono ⋯,?_⟩
 walk_at "rn"
 exact⟨w,rfl,d,nI w,_,rfl,s5,gj ow,o34,(Bu bw).mono ⋯,b34.mono ⋯,_,_,rfl,ow1,ow2,bw1.mono ⋯,bw2.mono ⋯,q⟩
theorem yE(h:eM ds U Qd):pG ‹Qd› (aS ["_law_d","_law_weights","_law_width","_law_height","_law_p","_law_q","_law_s","_law_t","_law_first","_law_second"] ds) U:=xg h
theorem Ok4.mono{n m:Nat}{p q s t:N3}(o:Ok4 n p q s t)(h:n<=m):Ok4 m p q s t:=⟨o.op,o.oq,o.os,o.ot,o.bp.mono h,o.bq.mono h,o.bs.mono h,o.bt.mono h⟩
theorem iU(h:lI ds U Xk):cA (aS ["d","thing"] ds) U Xk:=by
 obtain⟨d,t,rfl,hd,lp,no,q⟩:=h
 unfold cA
 rw[Rv]
 walk_at "rb"
 refine⟨d,t,rfl,hd,lp,fun b l=>?_⟩
 rw[no b l]
 walk_at "rb"
 exact q
theorem jN(h:vO ds U Xk):cQ (aS ["d","weights","laying","floor_width","floor_height","tiles","of_tiles"] ds) U Xk:=by
 obtain⟨d,u,t,rfl,hd,lp,no,q⟩:=h
 unfold cQ
 rw[FZ]
 walk_at "rb"
 exact⟨d,t,rfl,hd,lp,no,q⟩
theorem vh(h:rE ds U Qd):iF ‹Qd› (aS ["d","weights","laying","floor_width","floor_height","tiles","of_tiles"] ds) U:=by
 obtain⟨d,p,q,s,t,W,H,ts,rfl,L,k⟩:=h
 have hd:=L.l.root
 have l60:=L.l.l60
 have f:=L.l.Jv
 unfold iF
 walk_at "rb"
 refine⟨d,_,rfl,hd,L.l.lp ⋯,L.l.yes,?_⟩
 rw[show fg W H ts = .tuple [dN W,dN H,.tuple (ts.map tlD)] from rfl]
 walk_at "rb"
 refine⟨trivial,?_⟩
 rw[L1]
 walk_at "rb"
 refine⟨by rw[length_map];omega,fun a ha=>⟨fun i acc Z=>acc=(ts.take i).map (fun u=>dN (weigh d p q s t u.w u.h))/\Z=aQ U a acc,⟨rfl,rfl⟩,?_,?_⟩⟩
 ·rintro i z acc Z hz hacc ⟨e0,e1⟩
  obtain⟨u,eu,rfl⟩:=Gq hz
  have mt:=mem_of_getElem? eu
  have v:=f.tile u mt
  have b:=L.b u mt
  rw[show tlD u = .tuple [dN u.x,dN u.y,dN u.w,dN u.h] from rfl]
  walk_at "rb"
  simp only[true_and,and_true,↓reduceIte]
  refine⟨d,p,q,s,t,u.w,u.h,rfl,hd,L.o4.mono ⋯,v.ow,b.1.mono ⋯,v.oh,b.2.mono ⋯,?_⟩
  walk_at "rb"
  refine⟨hacc,?_,?_⟩
  ·rw[e0,take_snoc eu,map_append];rfl
  ·rw[e1,fO]
 ·rintro acc Z ⟨e0,e1⟩ hacc
  rw[length_map,take_length] at e0
  subst e0
  simp only[↓O6,↓qw,↓yv,↓Fm,↓xq,↓yo,↓tK,↓xK,↓we]
  refine⟨d,p,q,s,t,W,H,rfl,hd,L.o4.mono ⋯,f.ow,L.bW.mono ⋯,f.oh,L.bH.mono ⋯,?_⟩
  exact k a Z ha (by rw[e1];exact gJ.refl.set ha) hacc
theorem IA{d:Int}(hd:ay d){z:N3}(oz:Ok z)(sz:sg d z.a z.b=1):norm d (plus one z)≠0:=by
 have h1:Lq d one (plus one z):=mM hd dr oz sz
 have h2:dif d (plus one z) av=1:=uC hd bB dr (aW dr oz) (yX oJ) h1
 rw[fG] at h2
 exact wo hd (aW dr oz) h2
theorem vd(h:qh ds U Qd):iN ‹Qd› (aS ["_law_bag_here","_law_d","_law_z"] ds) U:=by
 obtain⟨a,d,rfl,hd,hb,q⟩:=h
 have s5:=o6 hd.1 hd.2.1
 unfold iN
 walk_at "rb"
 refine⟨a,9,rfl,⋯,⋯,hb,fun r1 am r10 r11 s1=>?_⟩
 walk_at "rb"
 refine⟨a,7,rfl,⋯,⋯,s1.1,fun r2 bn r20 r21 s2=>?_⟩
 walk_at "rb"
 refine⟨a,2,rfl,⋯,⋯,s2.1,fun r3 dl r30 r31 s3=>?_⟩
 walk_at "rb"
 obtain⟨_,e,bb,rfl,b0,b1⟩:=pick (P:=fun v=>∃bb:Int,v = .int bb/\-3<=bb/\bb<=3) (xs:=[.int 0,.int (r2-3)]) r30 (by exact r31) (by
  intro v hv
  simp only[mem_cons,not_mem_nil,or_false] at hv
  rcases hv with rfl|rfl
  ·exact⟨_,rfl,⋯,⋯⟩
  ·exact⟨_,rfl,∅,∅⟩)
 rw[e]
 dsimp only
 refine⟨a,4,rfl,⋯,⋯,s3.1,fun r4 im r40 r41 s4=>?_⟩
 walk_at "rb"
 have cn:1+r4≠0:=by omega
 have s14:=s1.trans (s2.trans (s3.trans s4))
 refine⟨_,_,_,rfl,cn,(Sz.of (n:=4) (by show (1+r4).natAbs<16;omega)).mono ⋯,?_⟩
 have oz:=pV (1+r1) bb cn
 have bz:Bd 4 (low (1+r1) bb (1+r4)):=tV cn (Sz.of (by show (1+r1).natAbs<16;omega)) (Sz.of (by show bb.natAbs<16;omega)) (Sz.of (by show (1+r4).natAbs<16;omega))
 have nz:sg d (low (1+r1) bb (1+r4)).a (low (1+r1) bb (1+r4)).b≠0:=by
  rw[EC hd ∅]
  intro z
  have:=(d5.mp z).1
  omega
 generalize low (1+r1) bb (1+r4)=z at oz bz nz
 walk_at "rb"
 refine⟨d,z,rfl,hd,bz.mono ⋯,?_⟩
 walk_at "rb"
 have fin:∀y:N3,Ok y->Bd 4 y->sg d y.a y.b=1->bQ [.v (dN one),.v (dN y)] im (fun x am=>jG [.v (.int d),x] am Qd):=fun y oy by_ sy=>by
  have ny:=IA hd oy sy
  refine⟨one,y,rfl,dr,oy,(show Bd 1 one from ⟨Sz.of ⋯,Sz.of ⋯,Sz.of ⋯⟩).mono ⋯,by_.mono ⋯,?_⟩
  exact⟨d,_,rfl,s5,ny,(cN dr oy (show Bd 1 one from ⟨Sz.of ⋯,Sz.of ⋯,Sz.of ⋯⟩) by_).mono ⋯,q _ im (QM hd oy by_ sy) s14⟩
 by_cases c:sg d z.a z.b<0
 ·rw[ng (by simpa using c)]
  walk_at "rb"
  refine⟨z,rfl,?_⟩
  walk_at "rb"
  exact fin _ (fu oz) (iq bz) (by
   show sg d (-z.a) (-z.b)=1
   rw[yz hd]
   rcases kf d z.a z.b with h|h|h<;>omega)
 ·rw[mz (by simpa using c)]
  walk_at "rb"
  exact fin z oz bz (by rcases kf d z.a z.b with h|h|h<;>omega)
end
section
variable {U:Mu}{d:D}{Q:DK}
theorem Ma{a b c f g h k l m n n11 n12 n13 n14 n15}{o:Rho}:ai 15 (a::b::c::f::g::h::k::l::m::n::n11::n12::n13::n14::n15::some d::o) U Q=Q d U:=propext Iff.rfl
theorem M8{a b c f g h k l m n n11 n12 n13 n14 n15 n16}{o:Rho}:ai 16 (a::b::c::f::g::h::k::l::m::n::n11::n12::n13::n14::n15::n16::some d::o) U Q=Q d U:=propext Iff.rfl
theorem Nh{a b c f g h k l m n n11 n12 n13 n14 n15 n16 n17}{o:Rho}:ai 17 (a::b::c::f::g::h::k::l::m::n::n11::n12::n13::n14::n15::n16::n17::some d::o) U Q=Q d U:=propext Iff.rfl
theorem Mg{a b c f g h k l m n n11 n12 n13 n14 n15 n16 n17 n18}{o:Rho}:ai 18 (a::b::c::f::g::h::k::l::m::n::n11::n12::n13::n14::n15::n16::n17::n18::some d::o) U Q=Q d U:=propext Iff.rfl
theorem Mz{a b c f g h k l m n n11 n12 n13 n14 n15 n16 n17 n18 n19}{o:Rho}:ai 19 (a::b::c::f::g::h::k::l::m::n::n11::n12::n13::n14::n15::n16::n17::n18::n19::some d::o) U Q=Q d U:=propext Iff.rfl
theorem MF{a b c f g h k l m n n11 n12 n13 n14 n15 n16 n17 n18 n19 n20}{o:Rho}:ai 20 (a::b::c::f::g::h::k::l::m::n::n11::n12::n13::n14::n15::n16::n17::n18::n19::n20::some d::o) U Q=Q d U:=propext Iff.rfl
theorem Ny{a b c f g h k l m n n11 n12 n13 n14 n15 n16 n17 n18 n19 n20 n21}{o:Rho}:ai 21 (a::b::c::f::g::h::k::l::m::n::n11::n12::n13::n14::n15::n16::n17::n18::n19::n20::n21::some d::o) U Q=Q d U:=propext Iff.rfl
theorem MN{a b c f g h k l m n n11 n12 n13 n14 n15 n16 n17 n18 n19 n20 n21 n22}{o:Rho}:ai 22 (a::b::c::f::g::h::k::l::m::n::n11::n12::n13::n14::n15::n16::n17::n18::n19::n20::n21::n22::some d::o) U Q=Q d U:=propext Iff.rfl
theorem M0{a b c f g h k l m n n11 n12 n13 n14 n15 n16 n17 n18 n19 n20 n21 n22 n23}{o:Rho}:ai 23 (a::b::c::f::g::h::k::l::m::n::n11::n12::n13::n14::n15::n16::n17::n18::n19::n20::n21::n22::n23::some d::o) U Q=Q d U:=propext Iff.rfl
theorem MQ{a b c f g h k l m n n11 n12 n13 n14 n15 n16 n17 n18 n19 n20 n21 n22 n23 n24}{o:Rho}:ai 24 (a::b::c::f::g::h::k::l::m::n::n11::n12::n13::n14::n15::n16::n17::n18::n19::n20::n21::n22::n23::n24::some d::o) U Q=Q d U:=propext Iff.rfl
end
local macro_rules|`(tactic| walk_at "rbw")=>mkW "Hg NV JP ↓RD ↓l_t ↓l_f l_T l_F R1 R5 EV decide_true decide_false Bool.xor_true Bool.true_xor ↓xq ↓yo ↓A0 ↓tK ↓xK ↓B6 ↓we ↓BR ↓Bj ↓AD ↓vY ↓q_c ↓Rj ↓q_B ↓NK ↓GZ ↓GY ↓NW ↓AG ↓KZ ↓Bq ↓yv ↓qw ↓Em ↓C5 ↓AL ↓D1 ↓Ea ↓Dl ↓G8 ↓Ha ↓xh ↓Bp ↓Bz ↓wc ↓xb ↓wQ ↓Ba ↓xE ↓uO ↓Hx ↓Gi ↓Hz ↓AM ↓Bn ↓LY ↓qQ ↓Cg ↓Hq ↓Sm ↓yp ↓B3 ↓Cc ↓BZ ↓Gw ↓AB ↓vK ↓Gh ↓Gy ↓oS ↓BS ↓vZ ↓BO ↓B5 ↓N6 ↓He ↓Bs ↓wR ↓Ds ↓BU ↓NQ ↓vR ↓Jl ↓F7 ↓F9 ↓AI ↓sQ ↓vX ↓qM ↓sF ↓sO Lg A5 Aw Gj GP Hk bind_none bind_some join_some List.getElem?_cons_zero List.getElem?_cons_succ aS KO EO FC Fe Ek pH wz yd Ag DD map_cons map_nil List.append List.replicate length_cons length_nil Nat.reduceAdd Nat.reduceSub nil_append cons_append set_cons_zero set_cons_succ map_some Bool.not_true Bool.not_false false_eq_true Bool.true_eq_false xor_false false_xor ↓Gb ↓Hj ↓G3 ↓GA ↓Ma ↓M8 ↓Nh ↓Mg ↓Mz ↓MF ↓Ny ↓MN ↓M0 ↓MQ ↓Gp ↓Cz ↓CS ↓Jg ↓Og ↓Li ↓Dj"
noncomputable def EH:DSp:=fun ds U Q=>∃(a:Addr) (d:Int) (t:Tl),ds=[.m a,.v (.int d),.v (tlD t)]/\ay d/\Bag U a/\TV d t/\Bd 400 t.w/\Bd 400 t.h/\Bd 1900 t.x/\Bd 1900 t.y/\∀us Z,pL d t us->sS a U Z->Q (.v (.list (us.map tlD))) Z/\∀f,U f=none->Z f=some (us.map tlD)->Q (.m f) Z
noncomputable def K6:DSp:=fun ds U Q=>∃(a:Addr) (d:Int) (t:Tl),ds=[.m a,.v (.int d),.v (tlD t)]/\ay d/\Bag U a/\TV d t/\Bd 400 t.w/\Bd 400 t.h/\Bd 1900 t.x/\Bd 1900 t.y/\∀us Z,pL d t us->sS a U Z->Q (.v (.list (us.map tlD))) Z
theorem Ft{ds:List D}{U:Mu}{Q:DK}(h:EH ds U Q):ds.length=3:=by obtain⟨_,_,_,rfl,_⟩:=h;rfl
theorem BK{ds:List D}{U:Mu}{Qd:DK}(h:K6 ds U Qd):EH ds U (Ra U Qd):=by
 obtain⟨a,d,t,rfl,hd,hb,v,b1,b2,b3,b4,q⟩:=h
 exact⟨a,d,t,rfl,hd,hb,v,b1,b2,b3,b4,fun us Z c s=>⟨q us Z c s,fun f n e=>⟨n,_,e,q us _ c (s.off n hb)⟩⟩⟩
noncomputable def kq:DTS:=
 (aP (tZ 15 16 (ah (ax bL (ah (ai 1) (ah (ai 5) (ah (ax qh (ah (ai 0) (ah (ai 1) au))) au)))) (ah (ax bL (ah (ai 1) (ah (ai 6) (ah (ax qh (ah (ai 0) (ah (ai 1) au))) au)))) au)))
 (aP (tZ 17 18 (ah (ax bL (ah (ai 1) (ah (ai 15) (ah (ax qh (ah (ai 0) (ah (ai 1) au))) au)))) (ah (ax bL (ah (ai 1) (ah (ai 16) (ah (ax qh (ah (ai 0) (ah (ai 1) au))) au)))) au)))
 (aP (br (bF (ah (ax bQ (ah (ai 5) (ah (ax gp (ah (ai 15) au)) au))) (ah (ax bQ (ah (ai 6) (ah (ax gp (ah (ai 16) au)) au))) au))) (dD 2 (aG (ar 19) (aG (ar 14) dO))))
 (aP (tZ 20 21 (ah (ax bQ (ah (ai 3) (ah (ai 15) au))) (ah (ax bQ (ah (ai 4) (ah (ai 16) au))) au)))
 (aP (dA (dB (dOp (dP false) (ai 7) (dC (.int 0)))) (bI (jy (ah (bF (ah (ai 3) (ah (ai 4) (ah (ai 15) (ah (ai 6) au))))) (ah (bF (ah (ai 20) (ah (ai 4) (ah (ai 19) (ah (ai 6) au))))) au)))) bV)
 (aP (dA (dB (dOp (dP false) (ai 7) (dC (.int 1)))) (bI (jy (ah (bF (ah (ai 3) (ah (ai 4) (ah (ai 5) (ah (ai 16) au))))) (ah (bF (ah (ai 3) (ah (ai 21) (ah (ai 5) (ah (ai 14) au))))) au)))) bV)
 (aP (dA (dB (dOp (dP false) (ai 7) (dC (.int 4)))) (bI (jy (ah (bF (ah (ai 3) (ah (ai 4) (ah (ai 15) (ah (ai 16) au))))) (ah (bF (ah (ai 20) (ah (ai 4) (ah (ai 19) (ah (ai 16) au))))) (ah (bF (ah (ai 3) (ah (ai 21) (ah (ai 15) (ah (ai 14) au))))) (ah (bF (ah (ai 20) (ah (ai 21) (ah (ai 19) (ah (ai 14) au))))) au)))))) bV)
 (aP (tZ 22 23 (ah (ax bQ (ah (ai 3) (ah (ai 17) au))) (ah (ax bQ (ah (ai 4) (ah (ai 18) au))) au)))
 (aP (br (bF (ah (ai 22) (ah (ai 23) (ah (ax bQ (ah (ai 15) (ah (ax gp (ah (ai 17) au)) au))) (ah (ax bQ (ah (ai 16) (ah (ax gp (ah (ai 18) au)) au))) au))))) (ar 24))
 (bI (jy (ah (bF (ah (ai 3) (ah (ai 4) (ah (ai 15) (ah (ai 18) au))))) (ah (bF (ah (ai 20) (ah (ai 4) (ah (ai 19) (ah (ai 16) au))))) (ah (bF (ah (ai 22) (ah (ai 21) (ah (ax bQ (ah (ai 5) (ah (ax gp (ah (ai 17) au)) au))) (ah (ai 14) au))))) (ah (bF (ah (ai 3) (ah (ai 23) (ah (ai 17) (ah (ax bQ (ah (ai 6) (ah (ax gp (ah (ai 18) au)) au))) au))))) (ah (ai 24) au))))))))))))))))
noncomputable def mZ:DTS:=
 (aP (br (ai 2) (dD 4 (aG (ar 3) (aG (ar 4) (aG (ar 5) (aG (ar 6) dO))))))
 (aP (br (ax bX (ah (ai 0) (ah (dC (.int 5)) au))) (ar 7))
 (aP (dA (dB (dOp (dP false) (ai 7) (dC (.int 3)))) (aP (tZ 8 9 (ah (kj (dC (.int 1)) (ax bX (ah (ai 0) (ah (dC (.int 3)) au)))) (ah (kj (dC (.int 1)) (ax bX (ah (ai 0) (ah (dC (.int 3)) au)))) au)))
 (aP (br (bF (ah (ax bL (ah (ai 1) (ah (ai 5) (ah (bF (ah (dC (.int 1)) (ah (dC (.int 0)) (ah (ai 8) au)))) au)))) (ah (ax bL (ah (ai 1) (ah (ai 6) (ah (bF (ah (dC (.int 1)) (ah (dC (.int 0)) (ah (ai 9) au)))) au)))) au))) (dD 2 (aG (ar 10) (aG (ar 11) dO))))
 (aP (br (Ae au) (ar 12))
 (aP (yq (kz (ah (ai 9) au)) (ar 13) (aP (br (ax bQ (ah (ai 4) (ah (ax bL (ah (ai 1) (ah (ai 11) (ah (bF (ah (ai 13) (ah (dC (.int 0)) (ah (dC (.int 1)) au)))) au)))) au))) (ar 14))
 (uB (NI (ai 12) (Ad [none,some 14,some 10,some 11,some 3,some 1] (kz (ah (ai 8) au)) (ar 0) kP (bF (ah (ax bQ (ah (ai 4) (ah (ax bL (ah (ai 5) (ah (ai 2) (ah (bF (ah (ai 0) (ah (dC (.int 0)) (ah (dC (.int 1)) au)))) au)))) au))) (ah (ai 1) (ah (ai 2) (ah (ai 3) au))))))))))
 (bI (ai 12)))))) bV)
 (kq))))
section
variable {U:Mu}{Qd:DK}{ds:List D}
theorem LK{a:Addr}{d:Int}{t:Tl}{way:Int}{am:Mu}{r8 r9 r10 r11 r12 r13 r14:Option D}(hd:ay d)(hb:Bag am a)(v:TV d t)(bw:Bd 400 t.w)(bh:Bd 400 t.h)(bx:Bd 1900 t.x)(by_:Bd 1900 t.y)(q:∀us Z,pL d t us->Step a am Z->Qd (.v (.list (us.map tlD))) Z) :
  kq ‹Qd› [some (.m a),some (.v (.int d)),some (.v (tlD t)),some (.v (dN t.x)),some (.v (dN t.y)),some (.v (dN t.w)),some (.v (dN t.h)),some (.v (.int way)),r8,r9,r10,r11,r12,r13,r14,none,none,none,none,none,none,none,none,none,none] am:=by
 have s5:=o6 hd.1 hd.2.1
 unfold kq
 walk_at "rbw"
 refine⟨a,d,rfl,hd,hb,fun f1 bn F1 s2=>?_⟩
 refine⟨d,t.w,f1,rfl,s5,v.o.w,F1.ok,bw.mono ⋯,F1.bd.mono ⋯,?_⟩
 walk_at "rbw"
 refine⟨a,d,rfl,hd,s2.1,fun f2 dl F2 s3=>?_⟩
 refine⟨d,t.h,f2,rfl,s5,v.o.h,F2.ok,bh.mono ⋯,F2.bd.mono ⋯,?_⟩
 have ow2:=aM (d:=d) v.o.w F1.ok
 have oh2:=aM (d:=d) v.o.h F2.ok
 have bw2:=bD s5 v.o.w F1.ok bw F1.bd
 have bh2:=bD s5 v.o.h F2.ok bh F2.bd
 generalize ew2:times d t.w f1=w2 at *
 generalize eh2:times d t.h f2=h2 at *
 walk_at "rbw"
 refine⟨a,d,rfl,hd,s3.1,fun f3 im F3 s4=>?_⟩
 refine⟨d,w2,f3,rfl,s5,ow2,F3.ok,bw2.mono ⋯,F3.bd.mono ⋯,?_⟩
 walk_at "rbw"
 refine⟨a,d,rfl,hd,s4.1,fun f4 jp F4 s6=>?_⟩
 refine⟨d,h2,f4,rfl,s5,oh2,F4.ok,bh2.mono ⋯,F4.bd.mono ⋯,?_⟩
 have ow1:=aM (d:=d) ow2 F3.ok
 have oh1:=aM (d:=d) oh2 F4.ok
 have bw1:=bD s5 ow2 F3.ok bw2 F3.bd
 have bh1:=bD s5 oh2 F4.ok bh2 F4.bd
 generalize ew1:times d w2 f3=w1 at *
 generalize eh1:times d h2 f4=h1 at *
 have st:=s2.trans (s3.trans (s4.trans s6))
 walk_at "rbw"
 refine⟨w2,rfl,t.w,minus w2,rfl,v.o.w,fu ow2,bw.mono ⋯,(iq bw2).mono ⋯,?_⟩
 walk_at "rbw"
 refine⟨h2,rfl,t.h,minus h2,rfl,v.o.h,fu oh2,bh.mono ⋯,(iq bh2).mono ⋯,?_⟩
 rw[tW v.o.w ow2,tW v.o.h oh2]
 walk_at "rbw"
 refine⟨trivial,t.x,w2,rfl,v.o.x,ow2,bx.mono ⋯,bw2.mono ⋯,?_⟩
 walk_at "rbw"
 refine⟨t.y,h2,rfl,v.o.y,oh2,by_.mono ⋯,bh2.mono ⋯,?_⟩
 walk_at "rbw"
 by_cases c0:way=0
 ·rw[ng (by simp[c0])]
  walk_at "rbw"
  subst ew1 eh1 ew2 eh2
  exact q _ jp (SE hd v F1 F2 F3 F4) st
 ·rw[mz (by simp[c0])]
  walk_at "rbw"
  by_cases c1:way=1
  ·rw[ng (by simp[c1])]
   walk_at "rbw"
   subst ew1 eh1 ew2 eh2
   exact q _ jp (Tf hd v F1 F2 F3 F4) st
  ·rw[mz (by simp[c1])]
   walk_at "rbw"
   by_cases c4:way=4
   ·rw[ng (by simp[c4])]
    walk_at "rbw"
    subst ew1 eh1 ew2 eh2
    exact q _ jp (RA hd v F1 F2 F3 F4) st
   ·rw[mz (by simp[c4])]
    walk_at "rbw"
    refine⟨t.x,w1,rfl,v.o.x,ow1,bx.mono ⋯,bw1.mono ⋯,?_⟩
    walk_at "rbw"
    refine⟨t.y,h1,rfl,v.o.y,oh1,by_.mono ⋯,bh1.mono ⋯,?_⟩
    walk_at "rbw"
    refine⟨w1,rfl,w2,minus w1,rfl,ow2,fu ow1,bw2.mono ⋯,(iq bw1).mono ⋯,?_⟩
    walk_at "rbw"
    refine⟨h1,rfl,h2,minus h1,rfl,oh2,fu oh1,bh2.mono ⋯,(iq bh1).mono ⋯,?_⟩
    walk_at "rbw"
    refine⟨w1,rfl,t.w,minus w1,rfl,v.o.w,fu ow1,bw.mono ⋯,(iq bw1).mono ⋯,?_⟩
    walk_at "rbw"
    refine⟨h1,rfl,t.h,minus h1,rfl,v.o.h,fu oh1,bh.mono ⋯,(iq bh1).mono ⋯,?_⟩
    rw[tW ow2 ow1,tW oh2 oh1,tW v.o.w ow1,tW v.o.h oh1]
    walk_at "rbw"
    exact q _ jp (SU hd v F1 F2 F3 F4 ew2.symm ew1.symm eh2.symm eh1.symm) st
noncomputable def Oy(d:Int)(x wide:N3)(up:N3)(high:N3):PyData->Option PyData
 |.int i=>some (tlD ⟨plus x (Uq d wide i.toNat),up,wide,high⟩)
 |_=>none
theorem K8{d:Int}{x wide up high:N3}{u:Nat}:(lJ 0 ((u:Nat):Int).toNat).filterMap (Oy d x wide up high)=((List.range u).map fun i=>(⟨plus x (Uq d wide i),up,wide,high⟩:Tl)).map tlD:=by
 rw[show ((u:Nat):Int).toNat=u by omega]
 unfold lJ
 rw[map_map,List.filterMap_map,<- List.filterMap_eq_map]
 congr 1
 funext i
 show Oy d x wide up high (.int (0+(i:Int)))=_
 rw[Int.zero_add]
 rfl
theorem DR(h:EH ds U Qd):mZ ‹Qd› (aS ["_law_bag_here","_law_d","_law_tile","_law_x","_law_y","_law_w","_law_h","_law_way","_law_u","_law_v","_law_wide","_law_high","_law_found","_law_row","_law_up","_law_w2","_law_h2","_law_w1","_law_h1","_law_right","_law_x2","_law_y2","_law_x1","_law_y1","_law_middle"] ds) U:=by
 obtain⟨a,d,t,rfl,hd,hb,v,bw,bh,bx,by_,q⟩:=h
 have s5:=o6 hd.1 hd.2.1
 unfold mZ
 rw[show tlD t = .tuple [dN t.x,dN t.y,dN t.w,dN t.h] from rfl]
 walk_at "rbw"
 refine⟨trivial,a,5,rfl,⋯,⋯,hb,fun way am w0 w1 s1=>?_⟩
 walk_at "rbw"
 by_cases c:way=3
 ·rw[ng (by simp[c])]
  walk_at "rbw"
  refine⟨a,3,rfl,⋯,⋯,s1.1,fun r1 bn r10 r11 s2=>?_⟩
  walk_at "rbw"
  refine⟨a,3,rfl,⋯,⋯,s2.1,fun r2 dl r20 r21 s3=>?_⟩
  obtain⟨u,hu⟩:∃u:Nat,1+r1=u:=⟨(1+r1).toNat,∅⟩
  obtain⟨k,hk⟩:∃k:Nat,1+r2=k:=⟨(1+r2).toNat,∅⟩
  walk_at "rbw"
  rw[hu,hk]
  have u0:0<u:=by omega
  have u3:u<=3:=by omega
  have k0:0<k:=by omega
  have k3:k<=3:=by omega
  have bo:∀{i:Nat},i<=3->Bd 2 ⟨1,0,(i:Int)⟩:=fun hi=>⟨Sz.of (by show (1:Int).natAbs<4;decide),Sz.of (by show (0:Int).natAbs<4;decide),Sz.of (by show ((_:Nat):Int).natAbs<4;omega)⟩
  have bi:∀{i:Nat},i<=3->Bd 2 ⟨(i:Int),0,1⟩:=fun hi=>⟨Sz.of (by show ((_:Nat):Int).natAbs<4;omega),Sz.of (by show (0:Int).natAbs<4;decide),Sz.of (by show (1:Int).natAbs<4;decide)⟩
  have cut:=SX hd v u0 u3 k0 k3
  have W:=DC hd v.o.w v.w u0
  have H:=DC hd v.o.h v.h k0
  have bwi:=bD s5 v.o.w (xQ u0) bw (bo u3)
  have bhi:=bD s5 v.o.h (xQ k0) bh (bo k3)
  refine⟨d,t.w,⟨1,0,(u:Int)⟩,rfl,s5,v.o.w,xQ u0,bw.mono ⋯,(bo u3).mono ⋯,?_⟩
  walk_at "rbw"
  refine⟨d,t.h,⟨1,0,(k:Int)⟩,rfl,s5,v.o.h,xQ k0,bh.mono ⋯,(bo k3).mono ⋯,?_⟩
  generalize times d t.w ⟨1,0,(u:Int)⟩=wide at *
  generalize times d t.h ⟨1,0,(k:Int)⟩=high at *
  walk_at "rbw"
  refine⟨trivial,?_⟩
  intro f hf
  have st:=s1.trans (s2.trans s3)
  have af:=E1 st.1 hf
  have f0:U f=none:=by rw[<- st.2 f af.symm];exact hf
  rw[rL]
  walk_at "rbw"
  refine⟨⟨∅,∅⟩,fun j ρ Z=>∃r13 r14:Option D,ρ=[some (.m a),some (.v (.int d)),some (.v (tlD t)),some (.v (dN t.x)),some (.v (dN t.y)),some (.v (dN t.w)),some (.v (dN t.h)),some (.v (.int way)),some (.v (.int (u:Nat))),some (.v (.int (k:Nat))),some (.v (dN wide)),some (.v (dN high)),some (.m f),r13,r14,none,none,none,none,none,none,none,none,none,none]/\sS a U Z/\Z f=some ((cel d t wide high u j).map tlD),⟨_,_,rfl,?_,?_⟩,?_,?_⟩
  ·exact⟨st.1.off af,fun b n es e=>by rw[aV (fun z=>by rw[z,f0] at e;cases e),st.2 b n];exact e⟩
  ·exact aX
  ·rintro j x ρ im hx ⟨r13,r14,rfl,sw,hf'⟩
   obtain⟨rfl,hj⟩:=wM hx
   rw[Int.zero_add]
   have hj':j<k:=by omega
   have uk:u*j<=3*3:=mul_le_mul u3 ∅
   have lc:∀i,(cel d t wide high u i).length=i*u:=fun i=>by
    unfold cel
    induction i with
    |zero=>simp
    |succ i ih=>rw[List.range_succ,flatMap_append,length_append,ih];simp[Nat.succ_mul]
   walk_at "rbw"
   refine⟨d,high,⟨(j:Int),0,1⟩,rfl,s5,H.o,xD j,bhi.mono ⋯,(bi ∅).mono ⋯,?_⟩
   walk_at "rbw"
   refine⟨t.y,Uq d high j,rfl,v.o.y,fM H.o,by_.mono ⋯,(bD s5 H.o (xD j) bhi (bi (show j<=3 by omega))).mono ⋯,?_⟩
   walk_at "rbw"
   rw[EU]
   walk_at "rbw"
   refine⟨⟨∅,∅⟩,by rw[nL];omega,Oy d t.x wide (plus t.y (Uq d high j)) high,?_,?_⟩
   ·intro x hx Z _
    obtain⟨i,hi⟩:=List.mem_iff_getElem?.mp hx
    obtain⟨rfl,hin⟩:=wM hi
    rw[Int.zero_add]
    walk_at "rbw"
    simp only[true_and,and_true,↓reduceIte]
    refine⟨d,wide,⟨(i:Int),0,1⟩,rfl,s5,W.o,xD i,bwi.mono ⋯,(bi ∅).mono ⋯,?_⟩
    walk_at "rbw"
    refine⟨t.x,Uq d wide i,rfl,v.o.x,fM W.o,bx.mono ⋯,(bD s5 W.o (xD i) bwi (bi (show i<=3 by omega))).mono ⋯,?_⟩
    walk_at "rbw"
    exact⟨trivial,rfl⟩
   ·rw[K8,hf']
    dsimp only
    refine⟨by rw[length_map,length_map,length_map,List.length_range,lc,Nat.mul_comm];omega,_,_,rfl,⟨sw.1.off af,fun b n es e=>by rw[aV (fun z=>by rw[z,f0] at e;cases e)];exact sw.2 b n es e⟩,?_⟩
    rw[aX,<- map_append]
    congr 2
    unfold cel
    rw[List.range_succ,flatMap_append]
    simp
  ·rintro ρ im ⟨r13,r14,rfl,sw,hf'⟩
   rw[nL] at hf'
   rw[show ((k:Nat):Int).toNat=k by omega] at hf'
   walk_at "rbw"
   exact (q _ im cut sw).2 f f0 hf'
 ·rw[mz (by simp[c])]
  walk_at "rbw"
  exact LK hd s1.1 v bw bh bx by_ fun us Z co st=>(q us Z co (s1.trans st).w).1
end
noncomputable def vU:DSp:=fun ds U Q=>∃(a:Addr) (d:Int),ds=[.m a,.v (.int d)]/\ay d/\Bag U a/\∀W H ts j Z,L16 d W H j ts->j<=6->1<=ts.length->ts.length<=60->sS a U Z->Q (.v (fg W H ts)) Z
theorem D6{ds:List D}{U:Mu}{Q:DK}(h:vU ds U Q):ds.length=2:=by obtain⟨_,_,rfl,_⟩:=h;rfl
noncomputable def gX:DTS:=
 (aP (tZ 2 3 (ah (ax nY (ah (ai 0) (ah (ai 1) au))) (ah (ax nY (ah (ai 0) (ah (ai 1) au))) au)))
 (aP (br (Ae (ah (bF (ah (bF (ah (dC (.int 0)) (ah (dC (.int 0)) (ah (dC (.int 1)) au)))) (ah (bF (ah (dC (.int 0)) (ah (dC (.int 0)) (ah (dC (.int 1)) au)))) (ah (ai 2) (ah (ai 3) au))))) au)) (ar 4))
 (aP (yq (kz (ah (ax bX (ah (ai 0) (ah (dC (.int 7)) au))) au)) (ar 5) (dA (dB (dOp rLt (dCB dq (ah (ai 4) au)) (dC (.int 52)))) (uB (NI (ai 4) (ax K6 (ah (ai 0) (ah (ai 1) (ah (Bl (ai 4) (ax bX (ah (ai 0) (ah (dCB dq (ah (ai 4) au)) au)))) au)))))) bV))
 (bI (bF (ah (ai 2) (ah (ai 3) (ah (dCB oI (ah (gS [none,some 4,some 0] (kz (ah (dCB dq (ah (ai 4) au)) au)) (ar 0) kP (Bl (ai 1) (ax bX (ah (ai 2) (ah (dCB dq (ah (ai 1) au)) au))))) au)) au))))))))
section
variable {U:Mu}{Qd:DK}{ds:List D}
theorem J9(ts:List Tl)(i:Nat):(ts.map tlD).eraseIdx i=(ts.eraseIdx i).map tlD:=by
 induction ts generalizing i with
 |nil=>rfl
 |cons t ts ih=>
  cases i with
  |zero=>rfl
  |succ i=>rw[map_cons,List.eraseIdx_cons_succ,List.eraseIdx_cons_succ,map_cons,ih]
theorem tI(h:vU ds U Qd):gX ‹Qd› (aS ["_law_bag_here","_law_d","_law_width","_law_height","_law_tiles","_law_turn"] ds) U:=by
 obtain⟨a,d,rfl,hd,hb,q⟩:=h
 unfold gX
 walk_at "rb"
 refine⟨a,d,rfl,hd,hb,fun W am oW bW sW s1=>?_⟩
 walk_at "rb"
 refine⟨a,d,rfl,hd,s1.1,fun H bn oH bH sH s2=>?_⟩
 have s12:=s1.trans s2
 walk_at "rb"
 intro l hl
 have al:=E1 s2.1 hl
 have l0:U l=none:=by rw[<- s12.2 l al.symm];exact hl
 rw[rL]
 walk_at "rb"
 refine⟨a,7,rfl,⋯,⋯,s2.1.off al,fun n dl n0 n1 s3=>?_⟩
 walk_at "rb"
 refine⟨⟨∅,∅⟩,fun i ρ Z=>∃(r5:Option D) (ts:List Tl) (j:Nat),ρ=[some (.m a),some (.v (.int d)),some (.v (dN W)),some (.v (dN H)),some (.m l),r5]/\L16 d W H j ts/\j<=i/\1<=ts.length/\ts.length<=60/\sS a U Z/\Z l=some (ts.map tlD),⟨_,[flr W H],0,rfl,.start hd oW oH sW sH bW bH,le_refl _,by show 1<=1;decide,by show 1<=60;decide,?_,?_⟩,?_,?_⟩
 ·exact⟨s3.1,fun b n es e=>by rw[s3.2 b n,aV (fun z=>by rw[z,l0] at e;cases e),s12.2 b n];exact e⟩
 ·rw[s3.2 l al.symm,aX];rfl
 ·rintro i x ρ im hx ⟨r5,ts,j,rfl,L,hj,t1,t60,sw,hl4⟩
  obtain⟨rfl,hi⟩:=wM hx
  walk_at "rb"
  rw[hl4]
  dsimp only
  rw[length_map]
  by_cases c:ts.length<52
  ·rw[ng (by rw[decide_eq_true_eq];omega)]
   walk_at "rb"
   rw[hl4]
   dsimp only
   refine⟨a,_,rfl,by rw[length_map];omega,by rw[length_map];omega,sw.1,fun r jp r0 r1 s5=>?_⟩
   rw[length_map] at r1
   walk_at "rb"
   rw[s5.2 l al.symm,hl4]
   dsimp only
   have hr:r.toNat<ts.length:=by omega
   have gt:ts[r.toNat]? = some ts[r.toNat]:=getElem?_eq_getElem hr
   generalize ts[r.toNat]=t at gt
   have mt:=mem_of_getElem? gt
   have bt:=L.bd mt
   have pt:=L.pos t mt
   have ee:(ts.map tlD).eraseIdx r.toNat=(ts.eraseIdx r.toNat).map tlD:=J9 ts _
   refine⟨⟨r0,∅⟩,tlD t,by rw[getElem?_map,gt];rfl,?_⟩
   refine⟨a,d,t,rfl,hd,s5.1.off al,L.part.val t mt,bt.1.mono ∅,bt.2.mono ∅,pt.1.mono ∅,pt.2.mono ∅,fun us wp co s6=>?_⟩
   walk_at "rb"
   rw[s6.2 l al.symm _ aX]
   dsimp only
   have le:(ts.eraseIdx r.toNat).length=ts.length-1:=List.length_eraseIdx_of_lt hr
   have l9:=co.l9
   have l1:=co.l1
   refine⟨by rw[ee,length_map,length_map];omega,_,ts.eraseIdx r.toNat++us,j+1,rfl,(L.perm (p8 gt)).cut ∅ co,∅,by rw[length_append];omega,by rw[length_append];omega,⟨s6.1.off al,fun b n es e=>?_⟩,?_⟩
   ·have nb:b≠l:=fun z=>by rw[z,l0] at e;cases e
    rw[aV nb]
    refine s6.2 b n es ?_
    rw[aV nb,s5.2 b n]
    exact sw.2 b n es e
   ·rw[aX,ee,map_append]
  ·rw[mz (by rw[decide_eq_true_eq];omega)]
   walk_at "rb"
   exact⟨_,ts,j,rfl,L,∅,t1,t60,sw,hl4⟩
 ·rintro ρ im ⟨r5,ts,j,rfl,L,hj,t1,t60,sw,hl4⟩
  have hj6:j<=6:=by rw[nL] at hj;omega
  walk_at "rb"
  rw[md]
  walk_at "rb"
  rw[hl4]
  dsimp only
  rw[length_map]
  refine⟨⟨∅,∅⟩,by rw[nL];omega,fun p hp=>?_⟩
  have lp:l≠p:=fun e=>by rw[<- e,hl4] at hp;cases hp
  have pa:a≠p:=E1 sw.1 hp
  have p0:U p=none:=by
   cases z:U p with
   |none=>rfl
   |some es=>rw[sw.2 p pa.symm es z] at hp;cases hp
  refine⟨fun i acc Z=>∃us rest:List Tl,acc=us.map tlD/\(us++rest).Perm ts/\rest.length+i=ts.length/\Z l=some (rest.map tlD)/\Bag Z a/\∀b,b≠a->b≠p->b≠l->Z b=im b,⟨[],ts,rfl,.refl _,rfl,by rw[aV lp,hl4],sw.1.off pa,fun b n1 n2 n3=>by rw[aV n2]⟩,?_,?_⟩
  ·rintro i x acc Z hx ha ⟨us,rest,rfl,pm,hl2,hr,hb',k⟩
   obtain⟨_,hi⟩:=wM hx
   walk_at "rb"
   refine⟨⟨trivial,trivial,trivial⟩,?_⟩
   rw[if_pos trivial,hr]
   dsimp only
   refine⟨a,_,rfl,by rw[length_map];omega,by rw[length_map];omega,hb',fun r Fa r0 r1 s3'=>?_⟩
   rw[length_map] at r1
   walk_at "rb"
   rw[s3'.2 l al.symm,hr]
   dsimp only
   have hrl:r.toNat<rest.length:=by omega
   have gt:rest[r.toNat]? = some rest[r.toNat]:=getElem?_eq_getElem hrl
   generalize rest[r.toNat]=t at gt
   refine⟨⟨r0,∅⟩,tlD t,by rw[getElem?_map,gt];rfl,?_,us++[t],rest.eraseIdx r.toNat,?_,?_,?_,?_,?_,?_⟩
   ·rw[aV lp.symm,s3'.2 p pa.symm];exact ha
   ·rw[map_append];rfl
   ·rw[append_assoc]
    exact ((p8 gt).append_left us).trans pm
   ·rw[List.length_eraseIdx_of_lt hrl];omega
   ·rw[aV lp,aX,J9]
   ·exact (s3'.1.off al).off pa
   ·intro b n1 n2 n3
    rw[aV n2,aV n3,s3'.2 b n1]
    exact k b n1 n2 n3
  ·rintro acc Z ⟨us,rest,rfl,pm,hl2,hr,hb',k⟩ ha
   rw[nL] at hl2
   have e:rest=[]:=List.eq_nil_of_length_eq_zero ∅
   rw[e,append_nil] at pm
   obtain⟨g,m,eb,rb⟩:=hb'
   refine q W H us j _ (L.perm pm) hj6 (by rw[pm.length_eq];exact t1) (by rw[pm.length_eq];exact t60) ⟨⟨g,m,by rw[fj pa];exact eb,rb⟩,fun b n1 ds eds=>?_⟩
   have n2:b≠p:=fun z=>by rw[z,p0] at eds;cases eds
   have n3:b≠l:=fun z=>by rw[z,l0] at eds;cases eds
   rw[fj n2,k b n1 n2 n3]
   exact sw.2 b n1 ds eds
end
noncomputable def n8:DSp:=fun ds U Q=>∃(d:Int) (p q s t W H:N3) (ts:List Tl) (j:Nat),ds=[.v (.int d),.v (W4 p q s t),.v (fg W H ts)]/\Ok4 20 p q s t/\L16 d W H j ts/\j<=6/\1<=ts.length/\ts.length<=60/\Q (.v (.bool true)) U
theorem AQ{ds:List D}{U:Mu}{Q:DK}(h:n8 ds U Q):ds.length=3:=by obtain⟨_,_,_,_,_,_,_,_,_,rfl,_⟩:=h;rfl
noncomputable def iJ:DTS:=
 (aP (br (ax vP (ah (ai 0) (ah (ai 1) (ah (ai 2) au)))) (ar 3))
 (aP (dA (kU (eo (dB (xx "tuple" (ai 3)))) (kU (dB (dOp (dP true) (dCB dq (ah (ai 3) au)) (dC (.int 2)))) (eo (dB (xx "list" (dOp aN (ai 3) (dC (.int 1)))))))) (bI (dC (.bool false))) bV)
 (aP (br (ai 3) (dD 2 (aG (ar 4) (aG (ar 5) dO))))
 (aP (br (gS [none,none,none,none,some 0,some 1] (sJ (dOp aN (ai 2) (dC (.int 2)))) (dD 4 (aG (ar 0) (aG (ar 1) (aG (ar 2) (aG (ar 3) dO))))) kP (ax eM (ah (ai 4) (ah (ai 5) (ah (ai 2) (ah (ai 3) au)))))) (ar 6))
 (aP (dA (kU (dB (dOp (dP true) (ai 5) (ai 6))) (eo (dB (ax ma (ah (ai 4) au))))) (bI (dC (.bool false))) bV)
 (aP (br (bF (ah (dC (.int 0)) (ah (dC (.int 0)) (ah (dC (.int 1)) au)))) (ar 7))
 (aP (yq (lu (ai 5)) (ar 8) (br (ax bQ (ah (ai 7) (ah (ai 8) au))) (ar 7)))
 (bI (mI (dOp (dP false) (ai 4) (ai 7)) (dOp (dP false) (ai 4) (ax eM (ah (ai 0) (ah (ai 1) (ah (dOp aN (ai 2) (dC (.int 0))) (ah (dOp aN (ai 2) (dC (.int 1))) au)))))))))))))))
structure Wt where
 p1:Int
 p2:Int
 q1:Int
 q2:Int
 s1:Int
 s2:Int
 t1:Int
 t2:Int
noncomputable def wA(d:Int)(k:Wt)(x:Te):Int:=(x.a*(k.p1*x.e+d*k.p2*x.f+(k.q1*x.e+d*k.q2 * -x.f))+d*x.b*(k.p1*x.f+k.p2*x.e+(k.q1 * -x.f+k.q2*x.e)))+(x.a*(k.s1*x.e+d*k.s2*x.f+(k.t1*x.e+d*k.t2 * -x.f))+d * -x.b*(k.s1*x.f+k.s2*x.e+(k.t1 * -x.f+k.t2*x.e)))
noncomputable def wB(d:Int)(k:Wt)(x:Te):Int:=(x.a*(k.p1*x.f+k.p2*x.e+(k.q1 * -x.f+k.q2*x.e))+x.b*(k.p1*x.e+d*k.p2*x.f+(k.q1*x.e+d*k.q2 * -x.f)))+(x.a*(k.s1*x.f+k.s2*x.e+(k.t1 * -x.f+k.t2*x.e)) + -x.b*(k.s1*x.e+d*k.s2*x.f+(k.t1*x.e+d*k.t2 * -x.f)))
structure Wr(p q s t:N3)(k:Wt)(P:Int):Prop where
 P0:0<P
 sP:Sz 80 P
 rp:Rep p k.p1 k.p2 P
 rq:Rep q k.q1 k.q2 P
 rs:Rep s k.s1 k.s2 P
 rt:Rep t k.t1 k.t2 P
 z1:Sz 80 k.p1
 z2:Sz 80 k.p2
 z3:Sz 80 k.q1
 z4:Sz 80 k.q2
 z5:Sz 80 k.s1
 z6:Sz 80 k.s2
 z7:Sz 80 k.t1
 z8:Sz 80 k.t2
theorem RS{p q s t:N3}(o:Ok4 20 p q s t):∃k P,Wr p q s t k P:=by
 obtain⟨op,oq,os,ot,bp,bq,bs,bt⟩:=o
 have c1:=op.c
 have c2:=oq.c
 have c3:=os.c
 have c4:=ot.c
 have z4:∀{i j k l:Int},Sz 20 i->Sz 20 j->Sz 20 k->Sz 20 l->Sz 80 (i*(j*(k*l))):=fun h1 h2 h3 h4=>(h1.mul (h2.mul (h3.mul h4))).mono ⋯
 have n0:p.c*(q.c*(s.c*t.c))≠0:=mul_ne_zero op.cn (mul_ne_zero oq.cn (mul_ne_zero os.cn ot.cn))
 exact⟨⟨p.a*(q.c*(s.c*t.c)),p.b*(q.c*(s.c*t.c)),q.a*(p.c*(s.c*t.c)),q.b*(p.c*(s.c*t.c)),s.a*(p.c*(q.c*t.c)),s.b*(p.c*(q.c*t.c)),t.a*(p.c*(q.c*s.c)),t.b*(p.c*(q.c*s.c))⟩,p.c*(q.c*(s.c*t.c)),mul_pos c1 (mul_pos c2 (mul_pos c3 c4)),z4 bp.c bq.c bs.c bt.c,
  (aD op).conv n0 (by grind) (by grind),(aD oq).conv n0 (by grind) (by grind),(aD os).conv n0 (by grind) (by grind),(aD ot).conv n0 (by grind) (by grind),
  z4 bp.a bq.c bs.c bt.c,z4 bp.b bq.c bs.c bt.c,z4 bq.a bp.c bs.c bt.c,z4 bq.b bp.c bs.c bt.c,z4 bs.a bp.c bq.c bt.c,z4 bs.b bp.c bq.c bt.c,z4 bt.a bp.c bq.c bs.c,z4 bt.b bp.c bq.c bs.c⟩
theorem nR{d:Int}{n:Nat}{p q s t w h:N3}(o:Ok4 n p q s t)(ow:Ok w)(oh:Ok h):Ok (weigh d p q s t w h):=
 have omh:=gj oh
 aW (aM ow (aW (aM o.op oh) (aM o.oq omh))) (aM (gj ow) (aW (aM o.os oh) (aM o.ot omh)))
theorem ue{d:Int}{n:Nat}{p q s t:N3}{k:Wt}{P C K:Int}(o:Ok4 n p q s t)(w:Wr p q s t k P){x:Te}{W H:N3}(oW:Ok W)(oH:Ok H)(rw_:Rep W x.a x.b C)(rh:Rep H x.e x.f K):Rep (weigh d p q s t W H) (wA d k x) (wB d k x) (C*(P*K)):=by
 have omh:=gj oH
 have rm:=rh.nI
 have u:=Ck (aM (d:=d) o.op oH) (aM (d:=d) o.oq omh) (w.rp.times (d:=d) o.op oH rh) (w.rq.times (d:=d) o.oq omh rm)
 have v:=Ck (aM (d:=d) o.os oH) (aM (d:=d) o.ot omh) (w.rs.times (d:=d) o.os oH rh) (w.rt.times (d:=d) o.ot omh rm)
 have ou:=aW (aM (d:=d) o.op oH) (aM (d:=d) o.oq omh)
 have ov:=aW (aM (d:=d) o.os oH) (aM (d:=d) o.ot omh)
 exact Ck (aM (d:=d) oW ou) (aM (d:=d) (gj oW) ov) (rw_.times (d:=d) oW ou u) (rw_.nI.times (d:=d) (gj oW) ov v)
theorem KL{d:Int}{k:Wt}(x:Te):wA d k x=(k.p1+k.q1+k.s1+k.t1)*(x.a*x.e)+d*(k.p2-k.q2+k.s2-k.t2)*(x.a*x.f)+d*(k.p2+k.q2-k.s2-k.t2)*(x.b*x.e)+d*(k.p1-k.q1-k.s1+k.t1)*(x.b*x.f):=by unfold wA;grind
theorem Jz{d:Int}{k:Wt}(x:Te):wB d k x=(k.p2+k.q2+k.s2+k.t2)*(x.a*x.e)+(k.p1-k.q1+k.s1-k.t1)*(x.a*x.f)+(k.p1+k.q1-k.s1-k.t1)*(x.b*x.e)+d*(k.p2-k.q2-k.s2+k.t2)*(x.b*x.f):=by unfold wB;grind
theorem Lo{d:Int}{p q s t:N3}{k:Wt}{P:Int}(s5:Sz 5 d)(w:Wr p q s t k P){x:Te}{n:Nat}(sa:Sz n x.a)(sb:Sz n x.b)(se:Sz n x.e)(sf:Sz n x.f):Sz (2*n+100) (wA d k x)/\Sz (2*n+100) (wB d k x):=by
 have u:∀{i j l m:Int},Sz 80 i->Sz 80 j->Sz n l->Sz n m->Sz (n+86) (i*l+d*j*m):=fun h1 h2 h3 h4=>((h1.mul h3).mono (show 80+n<=n+85 by omega)).add (((s5.mul h2).mul h4).mono ∅)
 have v:∀{i j l m:Int},Sz 80 i->Sz 80 j->Sz n l->Sz n m->Sz (n+86) (i*l+j*m):=fun h1 h2 h3 h4=>(((h1.mul h3).mono (show 80+n<=n+85 by omega)).add ((h2.mul h4).mono ∅))
 have U1:=(u w.z1 w.z2 se sf).add (u w.z3 w.z4 se sf.neg)
 have U2:=(v w.z1 w.z2 sf se).add (v w.z3 w.z4 sf.neg se)
 have V1:=(u w.z5 w.z6 se sf).add (u w.z7 w.z8 se sf.neg)
 have V2:=(v w.z5 w.z6 sf se).add (v w.z7 w.z8 sf.neg se)
 have T:∀{a b i j:Int},Sz n a->Sz n b->Sz (n+86+1) i->Sz (n+86+1) j->Sz (2*n+99) (a*i+d*b*j):=fun h1 h2 h3 h4=>(((h1.mul h3).mono (show n+(n+86+1)<=2*n+98 by omega)).add (((s5.mul h2).mul h4).mono ∅))
 have T':∀{a b i j:Int},Sz n a->Sz n b->Sz (n+86+1) i->Sz (n+86+1) j->Sz (2*n+99) (a*i+b*j):=fun h1 h2 h3 h4=>(((h1.mul h3).mono (show n+(n+86+1)<=2*n+98 by omega)).add ((h2.mul h4).mono ∅))
 exact⟨(T sa sb U1 U2).add (T sa sb.neg V1 V2),(T' sa sb U2 U1).add (T' sa sb.neg V2 V1)⟩
noncomputable def vn(d:Int)(p q s t:N3)(ts:List Tl):N3:=ts.foldl (fun c u=>plus c (weigh d p q s t u.w u.h)) av
theorem KW{d:Int}{W H:N3}{j:Nat}{ts:List Tl}{p q s t:N3}(L:L16 d W H j ts)(hj:j<=6)(l60:ts.length<=60)(o:Ok4 20 p q s t):(∀i,i<=ts.length->Ok (vn d p q s t (ts.take i))/\Bd 1000 (vn d p q s t (ts.take i)))/\vn d p q s t ts=weigh d p q s t W H/\∀u∈ts,Bd 1000 (weigh d p q s t u.w u.h):=by
 have s5:=o6 L.hd.1 L.hd.2.1
 obtain⟨k,P,w⟩:=RS o
 obtain⟨C,K,A,B,E,F,l,c0,k0,sc,sk,rW,rH,rfl,g,sm4⟩:=L.com
 have nD:C*(P*K)≠0:=mul_ne_zero ∅ (mul_ne_zero (by have:=w.P0;omega) ∅)
 have sD:Sz 1000 (C*(P*K)):=(sc.mul (w.sP.mul sk)).mono ∅
 have val:∀x∈l,TV d x.t:=fun x hx=>L.part.val _ (mem_map_of_mem hx)
 rw[length_map] at l60
 have key:∀i,i<=l.length->Ok (vn d p q s t ((l.take i).map Te.t))/\Rep (vn d p q s t ((l.take i).map Te.t)) (sm (wA d k) (l.take i)) (sm (wB d k) (l.take i)) (C*(P*K))/\Sz (900+i) (sm (wA d k) (l.take i))/\Sz (900+i) (sm (wB d k) (l.take i)):=by
  intro i
  induction i with
  |zero=>
   intro _
   have z:Sz 900 0:=(Sz.of (n:=1) ⋯).mono ⋯
   exact⟨bB,⟨nD,by show (0:Int)*_=0*1;rw[zero_mul,zero_mul],by show (0:Int)*_=0*1;rw[zero_mul,zero_mul]⟩,z,z⟩
  |succ i ih=>
   intro hi
   obtain⟨oc,rc,sa,sb⟩:=ih ∅
   have hx:=getElem_mem (show i<l.length by omega)
   have e:l.take (i+1)=l.take i++[l[i]]:=(List.take_append_getElem ∅).symm
   generalize l[i]=x at hx e
   have v:=val x hx
   have G:=g x hx
   have ow:=nR (d:=d) o v.o.w v.o.h
   have r:=ue (d:=d) o w (x:=x) v.o.w v.o.h G.w G.h
   have z:=Lo (d:=d) s5 w (x:=x) G.sa G.sb G.se G.sf
   have ec:vn d p q s t ((l.take (i+1)).map Te.t)=plus (vn d p q s t ((l.take i).map Te.t)) (weigh d p q s t x.t.w x.t.h):=by
    unfold vn
    rw[e,map_append,List.foldl_append]
    rfl
   have es:∀g:Te->Int,sm g (l.take (i+1))=sm g (l.take i)+g x:=fun g=>by rw[e,KH,Gs];unfold sm;simp
   rw[ec,es,es]
   exact⟨aW oc ow,Ck oc ow rc r,sa.add (z.1.mono ∅),sb.add (z.2.mono ∅)⟩
 refine⟨fun i hi=>?_,?_,fun u hu=>?_⟩
 ·rw[length_map] at hi
  obtain⟨oc,rc,sa,sb⟩:=key i hi
  rw[<- map_take]
  exact⟨oc,rc.bd oc (sa.mono ∅) (sb.mono ∅) sD⟩
 ·obtain⟨oc,rc,_,_⟩:=key l.length (le_refl _)
  rw[take_length] at oc rc
  have r:=ue (d:=d) o w (x:=⟨flr W H,A,B,E,F⟩) L.oW L.oH rW rH
  refine Rep.eq oc (nR o L.oW L.oH) rc r ?_ ?_
  ·rw[Jj KL,sm4.ae,sm4.af,sm4.be,sm4.bf,KL]
  ·rw[Jj Jz,sm4.ae,sm4.af,sm4.be,sm4.bf,Jz]
 ·obtain⟨x,hx,rfl⟩:=List.mem_map.mp hu
  have v:=val x hx
  have G:=g x hx
  have z:=Lo (d:=d) s5 w (x:=x) G.sa G.sb G.se G.sf
  exact (ue (d:=d) o w (x:=x) v.o.w v.o.h G.w G.h).bd (nR o v.o.w v.o.h) (z.1.mono ∅) (z.2.mono ∅) sD
theorem L16.layW{d:Int}{W H:N3}{j:Nat}{ts:List Tl}{p q s t:N3}(L:L16 d W H j ts)(hj:j<=6)(l60:ts.length<=60)(o:Ok4 20 p q s t):Pf d p q s t W H ts:=by
 refine⟨o,⟨L.hd,L.part.lay L.hd L.oW L.oH L.sW L.sH,l60,L.bW.mono ⋯,L.bH.mono ⋯,fun u hu=>?_⟩,L.bW.mono ⋯,L.bH.mono ⋯,fun u hu=>?_⟩
 ·exact⟨(L.pos u hu).1.mono ∅,(L.pos u hu).2.mono ∅,(L.bd hu).1.mono ∅,(L.bd hu).2.mono ∅⟩
 ·exact⟨(L.bd hu).1.mono ∅,(L.bd hu).2.mono ∅⟩
structure Sh(t:PyData):Prop where
 lay:t.canLay0=true
 dep:t.depth<=60
theorem Sh.shaped{t:PyData}(h:Sh t):SeqAt.shaped t=true:=by
 unfold SeqAt.shaped
 rw[h.lay,Bool.true_and,decide_eq_true_eq]
 have:=h.dep;omega
structure Lt(n:Nat)(t:PyData):Prop where
 lay:t.canLay0=true
 dep:t.depth<=n
theorem Lt.sh{n:Nat}{t:PyData}(h:Lt n t)(hn:n<=60):Sh t:=⟨h.lay,le_trans h.dep hn⟩
theorem Gn{xs:List PyData}(h:∀x∈xs,x.canLay0=true):PyData.canLayAll0 xs=true:=by
 induction xs with
 |nil=>rfl
 |cons x r ih=>rw[PyData.canLayAll0,h x (by simp),ih (fun y hy=>h y (by simp[hy]))];rfl
theorem zF{xs:List PyData}{n:Nat}(h:∀x∈xs,x.depth<=n):PyData.depthAll xs<=n:=by
 induction xs with
 |nil=>exact zero_le _
 |cons x r ih=>
  rw[PyData.depthAll]
  have h1:=h x (by simp)
  have h2:=ih (fun y hy=>h y (by simp[hy]))
  omega
theorem Qv{xs:List PyData}{n:Nat}(h:∀x∈xs,Lt n x):Lt (n+1) (.tuple xs):=
 ⟨by rw[PyData.canLay0];exact Gn fun x hx=>(h x hx).lay,by rw[PyData.depth];have:=zF (n:=n) fun x hx=>(h x hx).dep;omega⟩
theorem Ot{xs:List PyData}{n:Nat}(h:∀x∈xs,Lt n x):Lt (n+1) (.list xs):=
 ⟨by rw[PyData.canLay0];exact Gn fun x hx=>(h x hx).lay,by rw[PyData.depth];have:=zF (n:=n) fun x hx=>(h x hx).dep;omega⟩
theorem lt_int{n:Nat}{i:Int}:Lt n (.int i):=⟨rfl,zero_le _⟩
theorem Fc{d:Int}{p q s t:N3}{ts:List Tl}:SeqAt.shaped (.list (wgs d p q s t ts))=true:=
 ((Ot (n:=1) fun x hx=>by
  unfold wgs at hx
  obtain⟨k,_,rfl⟩:=List.mem_map.mp hx
  exact Qv (n:=0) fun y hy=>by
   simp only[mem_cons,not_mem_nil,or_false] at hy
   rcases hy with rfl|rfl|rfl<;>exact lt_int).sh ⋯).shaped
theorem Sl{U:Mu}{p:Addr}{l:List PyData}(h:U p=none):kJ (aQ U p l) p=U:=Mu.eq (fun b=>by
 by_cases e:b=p
 ·rw[e,gP,h]
 ·rw[fj e,aV e]) fun _=>rfl
section
variable {U:Mu}{Qd:DK}{ds:List D}
theorem vz(h:n8 ds U Qd):iJ ‹Qd› (aS ["_law_d","_law_weights","_law_laying_here","_law_told","_law_whole","_law_parts","_law_due","_law_come","_law_part"] ds) U:=by
 obtain⟨d,p,q,s,t,W,H,ts,j,rfl,o4,L,hj,t1,t60,k⟩:=h
 have LW:=L.layW hj t60 o4
 obtain⟨cb,call,cw⟩:=KW L hj t60 o4
 have hd:=L.hd
 unfold iJ
 rw[show fg W H ts = .tuple [dN W,dN H,.tuple (ts.map tlD)] from rfl]
 walk_at "rb"
 refine .inr ⟨d,p,q,s,t,W,H,ts,rfl,LW,?_⟩
 have e1:isT "tuple" (.tuple [dN (weigh d p q s t W H),.list (wgs d p q s t ts)])=true:=rfl
 have e2:isT "list" (.list (wgs d p q s t ts))=true:=rfl
 have lw:(wgs d p q s t ts).length=ts.length:=length_map _
 walk_at "rb"
 rw[e1]
 walk_at "rb"
 rw[mz (by simp)]
 walk_at "rb"
 rw[e2]
 walk_at "rb"
 refine⟨trivial,?_⟩
 rw[md]
 walk_at "rb"
 refine⟨by rw[length_map];omega,fun ad had=>⟨fun i acc Z=>acc=wgs d p q s t (ts.take i)/\Z=aQ U ad acc,⟨rfl,rfl⟩,?_,?_⟩⟩
 ·rintro i z acc Z hz hacc ⟨e0,e3⟩
  obtain⟨u,eu,rfl⟩:=Gq hz
  have mt:=mem_of_getElem? eu
  have v:=L.part.val u mt
  have b:=LW.b u mt
  rw[show tlD u = .tuple [dN u.x,dN u.y,dN u.w,dN u.h] from rfl]
  walk_at "rb"
  simp only[true_and,and_true,↓reduceIte]
  refine⟨d,p,q,s,t,u.w,u.h,rfl,hd,o4.mono ⋯,v.o.w,b.1.mono ⋯,v.o.h,b.2.mono ⋯,?_⟩
  walk_at "rb"
  refine⟨hacc,?_,?_⟩
  ·rw[e0,take_snoc eu];unfold wgs;rw[map_append];rfl
  ·rw[e3,fO]
 ·rintro acc Z ⟨e0,e3⟩ hacc
  rw[length_map,take_length] at e0
  rw[e3,Sl had,e0]
  refine⟨Fc,Fc,?_⟩
  rw[DJ Fc]
  walk_at "rb"
  have ow:=nR (d:=d) o4 L.oW L.oH
  refine⟨_,rfl,NX,?_⟩
  rw[sj ow]
  walk_at "rb"
  rw[rL]
  walk_at "rb"
  refine⟨fun i ρ Z=>∃r8:Option D,ρ=[some (.v (.int d)),some (.v (W4 p q s t)),some (.v (.tuple [dN W,dN H,.tuple (ts.map tlD)])),some (.v (.tuple [dN (weigh d p q s t W H),.list (wgs d p q s t ts)])),some (.v (dN (weigh d p q s t W H))),some (.v (.list (wgs d p q s t ts))),some (.v (.list (wgs d p q s t ts))),some (.v (dN (vn d p q s t (ts.take i)))),r8]/\Z=U,⟨_,rfl,rfl⟩,?_,?_⟩
  ·rintro i x ρ bn hx ⟨r8,rfl,rfl⟩
   obtain⟨u,eu,rfl⟩:∃u,ts[i]? = some u/\x=dN (weigh d p q s t u.w u.h):=by
    unfold wgs at hx
    rw[getElem?_map] at hx
    cases e:ts[i]? with
    |none=>rw[e] at hx;cases hx
    |some u=>rw[e] at hx;exact⟨u,rfl,(Option.some.inj hx).symm⟩
   have hi:i<ts.length:=(List.getElem?_eq_some_iff.mp eu).1
   have v:=L.part.val u (mem_of_getElem? eu)
   have c1:=cb i ∅
   have c2:=cb (i+1) ∅
   have b:=LW.b u (mem_of_getElem? eu)
   have bg:Bd 4300 (weigh d p q s t u.w u.h):=(cw u (mem_of_getElem? eu)).mono ⋯
   walk_at "rb"
   refine⟨_,_,rfl,c1.1,nR o4 v.o.w v.o.h,c1.2.mono ⋯,bg,?_⟩
   have ec:vn d p q s t (ts.take (i+1))=plus (vn d p q s t (ts.take i)) (weigh d p q s t u.w u.h):=by
    unfold vn
    rw[take_snoc eu,List.foldl_append]
    rfl
   rw[ec]
   exact⟨_,rfl,rfl⟩
  ·rintro ρ bn ⟨r8,rfl,rfl⟩
   rw[lw,take_length,call]
   walk_at "rb"
   refine⟨d,p,q,s,t,W,H,rfl,hd,o4.mono ⋯,L.oW,LW.bW.mono ⋯,L.oH,LW.bH.mono ⋯,?_⟩
   walk_at "rb"
   exact k
end
structure Al(d:Int)(t:PyData):Prop where
 lp:Di t
 no:∀b,oA d t b->b=false
noncomputable def rK:DSp:=fun ds U Q=>∃(a:Addr) (d:Int) (W H:N3) (ts:List Tl) (j:Nat),ds=[.m a,.v (.int d),.v (fg W H ts)]/\Bag U a/\L16 d W H j ts/\j<=6/\1<=ts.length/\ts.length<=60/\∀t Z,Al d t->Step a U Z->Q (.v t) Z
theorem A6{ds:List D}{U:Mu}{Q:DK}(h:rK ds U Q):ds.length=3:=by obtain⟨_,_,_,_,_,_,rfl,_⟩:=h;rfl
noncomputable def jH:DTS:=
 (aP (br (ai 2) (dD 3 (aG (ar 3) (aG (ar 4) (aG (ar 5) dO)))))
 (aP (br (ax bX (ah (ai 0) (ah (dCB dq (ah (ai 5) au)) au))) (ar 6))
 (aP (br (dOp aN (ai 5) (ai 6)) (dD 4 (aG (ar 7) (aG (ar 8) (aG (ar 9) (aG (ar 10) dO))))))
 (aP (br (ax bQ (ah (ai 9) (ah (bF (ah (dC (.int 1)) (ah (dC (.int 0)) (ah (dOp eG (dC (.int 1)) (ax bX (ah (ai 0) (ah (dC (.int 999)) au)))) au)))) au))) (ar 11))
 (aP (br (ax bQ (ah (ai 3) (ah (bF (ah (dC (.int 1)) (ah (dC (.int 0)) (ah (dOp eG (dC (.int 1)) (ax bX (ah (ai 0) (ah (dC (.int 999)) au)))) au)))) au))) (ar 12))
 (aP (br (jy (ah (dOp eG (dSl (ai 5) dZ (jV (ai 6))) (dSl (ai 5) (jV (dOp eG (ai 6) (dC (.int 1)))) dZ)) (ah (dOp eG (dSl (ai 5) dZ (jV (dOp eG (ai 6) (dC (.int 1))))) (dSl (ai 5) (jV (ai 6)) dZ)) (ah (dOp eG (dOp eG (dSl (ai 5) dZ (jV (ai 6))) (bF (ah (bF (ah (ai 7) (ah (ai 8) (ah (ai 11) (ah (ai 10) au))))) au))) (dSl (ai 5) (jV (dOp eG (ai 6) (dC (.int 1)))) dZ)) (ah (dOp eG (dOp eG (dSl (ai 5) dZ (jV (ai 6))) (bF (ah (bF (ah (ax bQ (ah (ai 7) (ah (bF (ah (dC (.int 1)) (ah (dC (.int 0)) (ah (dC (.int 3)) au)))) au))) (ah (ai 8) (ah (ai 9) (ah (ai 10) au))))) au))) (dSl (ai 5) (jV (dOp eG (ai 6) (dC (.int 1)))) dZ)) (ah (dCB wH (ah (ai 5) au)) (ah (bF au) (ah (dOp eG (dOp eG (dSl (ai 5) dZ (jV (ai 6))) (bF (ah (bF (ah (ai 7) (ah (ai 8) (ah (ai 9) (ah (bF (ah (dC (.int 0)) (ah (dC (.int 0)) (ah (dC (.int 1)) au)))) au))))) au))) (dSl (ai 5) (jV (dOp eG (ai 6) (dC (.int 1)))) dZ)) (ah (dOp eG (dOp eG (dSl (ai 5) dZ (jV (ai 6))) (bF (ah (ax F5 (ah (ai 0) au)) au))) (dSl (ai 5) (jV (dOp eG (ai 6) (dC (.int 1)))) dZ)) au))))))))) (ar 13))
 (aP (br (ax bX (ah (ai 0) (ah (dC (.int 10)) au))) (ar 14))
 (aP (dA (dB (dOp rLt (ai 14) (dC (.int 8)))) (bI (bF (ah (ai 3) (ah (ai 4) (ah (dOp aN (ai 13) (ai 14)) au))))) bV)
 (bI (dOp aN (jy (ah (bF (ah (ai 12) (ah (ai 4) (ah (ai 5) au)))) (ah (bF (ah (ai 3) (ah (ax bL (ah (ai 1) (ah (ai 4) (ah (bF (ah (dC (.int 1)) (ah (dC (.int 0)) (ah (dC (.int 2)) au)))) au)))) (ah (ai 5) au)))) au))) (mP (ai 14) (dC (.int 8)))))))))))))
theorem Mt{d:Int}(hd:ay d){t:PyData}(l:oA d t true):∃w k us,t=fg w k us/\uR d w k us/\o5 d w k us:=by
 cases f:pj d t with
 |false=>exact absurd (l.1 f) ⋯
 |true=>
  obtain⟨w,k,us,rfl,v⟩:=FP f
  exact⟨w,k,us,rfl,v,Mb hd v l⟩
theorem BE{d:Int}(hd:ay d){t:PyData}(h:∀w k us,t=fg w k us->uR d w k us->o5 d w k us->False)(b:Bool)(l:oA d t b):b=false:=by
 cases b with
 |false=>rfl
 |true=>
  obtain⟨w,k,us,e,v,r⟩:=Mt hd l
  exact (h w k us e v r).elim
theorem Av{d:Int}(hd:ay d){W H:N3}{ts:List Tl}(h:Part d (flr W H) ts->False)(b:Bool)(l:oA d (fg W H ts) b):b=false:=
 BE hd (fun w k us e _ r=>by
  obtain⟨rfl,rfl,rfl⟩:=Dh e
  exact h (r.part hd)) b l
section
variable {d:Int}{T t t':Tl}{ts rest:List Tl}
theorem Ca(p:Part d T (t::rest)):∀u∈rest,∀a b,Ok a->Ok b->In d t a b->¬ In d u a b:=(List.pairwise_cons.mp p.dis).1
theorem vT(hd:ay d)(p:Part d T (t::rest)):TV d t/\In d T t.x t.y:=by
 have v:=p.val t mem_cons_self
 exact⟨v,p.sub t mem_cons_self _ _ v.o.x v.o.y (v.self hd)⟩
theorem Tn(hd:ay d)(p:Part d T (t::rest))(r:Part d T rest):False:=by
 obtain⟨v,s⟩:=vT hd p
 obtain⟨u,hu,i⟩:=r.all _ _ v.o.x v.o.y s
 exact Ca p u hu _ _ v.o.x v.o.y (v.self hd) i
theorem SI(hd:ay d)(r:Part d T (t::t::rest)):False:=by
 obtain⟨v,s⟩:=vT hd r
 exact Ca r t mem_cons_self _ _ v.o.x v.o.y (v.self hd) (v.self hd)
theorem SR(hd:ay d){k:N3}(ok:Ok k)(sk:sg d k.a k.b=1)(p:Part d T (t::rest))(r:Part d T (⟨t.x,t.y,plus t.w k,t.h⟩::rest)):False:=by
 obtain⟨v,s⟩:=vT hd p
 have o:=aW v.o.x v.o.w
 have owk:=aW v.o.w ok
 have i':In d ⟨t.x,t.y,plus t.w k,t.h⟩ (plus t.x t.w) t.y:=⟨⟨ke hd v.o.x o (mM hd v.o.x v.o.w v.w),Ez hd v.o.x v.o.w owk (by rw[bP v.o.w ok];exact sk)⟩,dE hd,mM hd v.o.y v.o.h v.h⟩
 obtain⟨u,hu,i⟩:=p.all _ _ o v.o.y (r.sub _ mem_cons_self _ _ o v.o.y i')
 rcases List.mem_cons.mp hu with rfl|hu
 ·exact dE hd i.1.2
 ·exact Ca r u hu _ _ o v.o.y i' i
theorem SO(hd:ay d){k:N3}(ok:Ok k)(sk:sg d k.a k.b=1)(p:Part d T (t::rest))(r:Part d T (⟨plus t.x k,t.y,t.w,t.h⟩::rest)):False:=by
 obtain⟨v,s⟩:=vT hd p
 obtain⟨u,hu,i⟩:=r.all _ _ v.o.x v.o.y s
 rcases List.mem_cons.mp hu with rfl|hu
 ·exact i.1.1 (mM hd v.o.x ok sk)
 ·exact Ca p u hu _ _ v.o.x v.o.y (v.self hd) i
end
theorem A2{d:Int}{W H a b:N3}(oW:Ok W)(oH:Ok H):In d (flr W H) a b↔(¬ Lq d a av/\Lq d a W)/\¬ Lq d b av/\Lq d b H:=by
 show (¬ Lq d a av/\Lq d a (plus av W))/\¬ Lq d b av/\Lq d b (plus av H)↔_
 rw[tO oW,tO oH]
theorem Tt{d:Int}(hd:ay d){W W' H:N3}{ts:List Tl}(oW:Ok W)(oW':Ok W')(oH:Ok H)(sW:sg d W.a W.b=1)(sH:sg d H.a H.b=1)(lt:Lq d W W')(p:Part d (flr W H) ts)(r:Part d (flr W' H) ts):False:=by
 obtain⟨u,hu,i⟩:=r.all W av oW bB ((A2 oW' oH).mpr ⟨⟨ke hd bB oW (yX sW),lt⟩,dE hd,yX sH⟩)
 exact dE hd ((A2 oW oH).mp (p.sub u hu _ _ oW bB i)).1.2
theorem Sy{d:Int}(hd:ay d){W H H':N3}{ts:List Tl}(oW:Ok W)(oH:Ok H)(oH':Ok H')(sW:sg d W.a W.b=1)(sH':sg d H'.a H'.b=1)(lt:Lq d H' H)(p:Part d (flr W H) ts)(r:Part d (flr W H') ts):False:=by
 obtain⟨u,hu,i⟩:=p.all av H' bB oH' ((A2 oW oH).mpr ⟨⟨dE hd,yX sW⟩,ke hd bB oH' (yX sH'),lt⟩)
 exact dE hd ((A2 oW oH').mp (r.sub u hu _ _ bB oH' i)).2.2
theorem NZ{d r:Int}(hd:ay d)(h0:0<=r)(h1:r<999):Ok ⟨1,0,1+r⟩/\Bd 10 ⟨1,0,1+r⟩/\sg d 1 0=1:=
 ⟨⟨by show (0:Int)<1+r;omega,by show Int.gcd (Int.gcd 1 0) (1+r)=1;rw[show ((Int.gcd 1 0:Nat):Int)=1 from rfl];exact Int.gcd_one_left _⟩,⟨Sz.of (by show (1:Int).natAbs<1024;decide),Sz.of (by show (0:Int).natAbs<1024;decide),Sz.of (by show (1+r).natAbs<1024;omega)⟩,oJ⟩
structure At(d:Int)(W H:N3)(j:Nat)(A B:List Tl)(t:Tl):Prop where
 L:L16 d W H j (A++t::B)
 hj:j<=6
 l60:(A++t::B).length<=60
section
variable {d:Int}{W H:N3}{j:Nat}{A B:List Tl}{t:Tl}
theorem At.p(a:At d W H j A B t):Part d (flr W H) (t::(A++B)):=a.L.part.perm List.perm_middle.symm
theorem At.q(a:At d W H j A B t){w h c:PyData}(pa:kS 2000 w)(pb:kS 2000 h)(ys:List PyData)(ly:ys.length<=1)(hy:∀y∈ys,EM 2000 y)(hc:∀zs,c = .tuple zs->zs.length<=1000/\∀z∈zs,(∃u∈A++t::B,z=tlD u)\/z∈ys):Di (.tuple [w,h,c]):=by
 have LW:=a.L.layW a.hj a.l60 (p:=av) (q:=av) (s:=av) (t:=av) (by
  have b0:Bd 20 av:=(show Bd 1 av from ⟨Sz.of ⋯,Sz.of ⋯,Sz.of ⋯⟩).mono ⋯
  exact⟨bB,bB,bB,bB,b0,b0,b0,b0⟩)
 exact (F0 ⋯ (LW.l.r.MJ a.l60) LW.l.bd pa pb ys hy fun zs e=>⟨(hc zs e).1,fun z hz=>by
  rcases (hc zs e).2 z hz with h|h
  ·exact .inl h
  ·exact .inr (.inl h)⟩).p ∅ ⋯
theorem At.b(a:At d W H j A B t):Bd4 1930 t/\TV d t:=by
 have m:t∈A++t::B:=mem_append_right _ mem_cons_self
 have b:=a.L.bd m
 have p:=a.L.pos t m
 have:=a.hj
 exact⟨⟨p.1.mono ∅,p.2.mono ∅,b.1.mono ∅,b.2.mono ∅⟩,a.L.part.val t m⟩
theorem At.pW(a:At d W H j A B t):kS 2000 (dN W)/\kS 2000 (dN H):=⟨kd (a.L.bW.mono ⋯),kd (a.L.bH.mono ⋯)⟩
theorem At.sp(a:At d W H j A B t)(us:List Tl)(ly:us.length<=61)(hu:∀u∈us,u∈A++t::B\/(us=A++u::B/\Bd4 2000 u))(no:Part d (flr W H) us->False):Al d (.tuple [dN W,dN H,.tuple (us.map tlD)]):=by
 refine⟨?_,Av a.L.hd no⟩
 by_cases c:∃u,us=A++u::B/\Bd4 2000 u
 ·obtain⟨u,rfl,bu⟩:=c
  refine a.q a.pW.1 a.pW.2 [tlD u] (le_refl 1) (fun y hy=>by rw[List.mem_singleton.mp hy];exact xZ bu) fun zs e=>?_
  simp only[PyData.tuple.injEq] at e
  subst e
  refine⟨by rw[length_map];omega,fun z hz=>?_⟩
  obtain⟨v,hv,rfl⟩:=List.mem_map.mp hz
  rcases List.mem_append.mp hv with h|h
  ·exact .inl ⟨v,mem_append_left _ h,rfl⟩
  ·rcases List.mem_cons.mp h with rfl|h
   ·exact .inr (List.mem_singleton.mpr rfl)
   ·exact .inl ⟨v,mem_append_right _ (mem_cons_of_mem _ h),rfl⟩
 ·refine a.q a.pW.1 a.pW.2 [] ⋯ (fun y hy=>absurd hy not_mem_nil) fun zs e=>?_
  simp only[PyData.tuple.injEq] at e
  subst e
  refine⟨by rw[length_map];omega,fun z hz=>?_⟩
  obtain⟨v,hv,rfl⟩:=List.mem_map.mp hz
  rcases hu v hv with h|h
  ·exact .inl ⟨v,h,rfl⟩
  ·exact absurd ⟨v,h⟩ c
theorem At.odd(a:At d W H j A B t){o:PyData}(no:EM 2000 o)(bad:∀tl,o=tlD tl->uD d tl->False):Al d (.tuple [dN W,dN H,.tuple (A.map tlD++[o]++B.map tlD)]):=by
 have l60:=a.l60
 rw[length_append,length_cons] at l60
 refine⟨a.q a.pW.1 a.pW.2 [o] (le_refl 1) (fun y hy=>by rw[List.mem_singleton.mp hy];exact no) fun zs e=>?_,BE a.L.hd fun w k us e v _=>?_⟩
 ·simp only[PyData.tuple.injEq] at e
  subst e
  refine⟨by simp only[length_append,length_map,List.length_singleton];omega,fun z hz=>?_⟩
  rcases List.mem_append.mp hz with h|h
  ·rcases List.mem_append.mp h with h|h
   ·obtain⟨v,hv,rfl⟩:=List.mem_map.mp h
    exact .inl ⟨v,mem_append_left _ hv,rfl⟩
   ·exact .inr h
  ·obtain⟨v,hv,rfl⟩:=List.mem_map.mp h
   exact .inl ⟨v,mem_append_right _ (mem_cons_of_mem _ hv),rfl⟩
 ·unfold fg at e
  simp only[PyData.tuple.injEq,List.cons.injEq,and_true] at e
  obtain⟨_,_,e⟩:=e
  have m:o∈us.map tlD:=by rw[<- e];exact mem_append_left _ (mem_append_right _ mem_cons_self)
  obtain⟨tl,ht,rfl⟩:=List.mem_map.mp m
  exact bad tl rfl (v.tile tl ht)
end
section
variable {U:Mu}{Qd:DK}{ds:List D}
theorem Sg{α:Type}{xs:List α}{p:Nat}(h:p<=xs.length):nX xs none (some (p:Int))=xs.take p:=by
 unfold nX
 rw[HT.Ei,HT.GV,List.drop_zero,Nat.min_eq_left h,Nat.sub_zero]
theorem Q1{α:Type}{xs:List α}{p:Nat}(h:p<=xs.length):nX xs (some (p:Int)) none=xs.drop p:=by
 unfold nX
 rw[HT.Ei,HT.GV,Nat.min_eq_left ∅]
 exact take_of_length_le (by rw[List.length_drop];omega)
theorem xC(h:rK ds U Qd):jH ‹Qd› (aS ["_law_bag_here","_law_d","_law_laying_here","_law_width","_law_height","_law_tiles","_law_at","_law_x","_law_y","_law_w","_law_h","_law_more","_law_wide","_law_some","_law_way"] ds) U:=by
 obtain⟨a,d,W,H,ts,j,rfl,hb,L,hj,t1,t60,q⟩:=h
 have hd:=L.hd
 have s5:=o6 hd.1 hd.2.1
 unfold jH
 rw[show fg W H ts = .tuple [dN W,dN H,.tuple (ts.map tlD)] from rfl]
 walk_at "rb"
 rw[length_map]
 refine⟨trivial,a,_,rfl,∅,∅,hb,fun r am r0 rl s1=>?_⟩
 obtain⟨k,rfl⟩:∃k:Nat,r=(k:Int):=⟨r.toNat,∅⟩
 have hk:k<ts.length:=by omega
 obtain⟨A,t,B,rfl,lA⟩:∃A t B,ts=A++t::B/\A.length=k:=⟨ts.take k,ts[k],ts.drop (k+1),by rw[List.getElem_cons_drop,List.take_append_drop],by rw[length_take];omega⟩
 have at_:At d W H j A B t:=⟨L,hj,t60⟩
 obtain⟨bt,v⟩:=at_.b
 have eT:atI ((A++t::B).map tlD) (k:Int)=some (tlD t):=qB (by rw[getElem?_map,getElem?_append_right ∅,lA,Nat.sub_self];rfl)
 walk_at "rb"
 rw[eT]
 dsimp only
 rw[show tlD t = .tuple [dN t.x,dN t.y,dN t.w,dN t.h] from rfl]
 walk_at "rb"
 refine⟨trivial,a,999,rfl,⋯,⋯,s1.1,fun r2 bn r20 r21 s2=>?_⟩
 walk_at "rb"
 obtain⟨ok1,bk1,sk1⟩:=NZ hd r20 r21
 refine⟨t.w,⟨1,0,1+r2⟩,rfl,v.o.w,ok1,bt.w.mono ⋯,bk1.mono ⋯,?_⟩
 walk_at "rb"
 refine⟨a,999,rfl,⋯,⋯,s2.1,fun r3 dl r30 r31 s3=>?_⟩
 walk_at "rb"
 obtain⟨ok2,bk2,sk2⟩:=NZ hd r30 r31
 refine⟨W,⟨1,0,1+r3⟩,rfl,L.oW,ok2,L.bW.mono ⋯,bk2.mono ⋯,?_⟩
 walk_at "rb"
 have l0:=t60
 rw[length_append,length_cons] at l0
 have k1:((k:Nat):Int)+1=((k+1:Nat):Int):=by omega
 have lm:((A++t::B).map tlD).length=A.length+B.length+1:=by rw[length_map,length_append,length_cons];omega
 have eA:nX ((A++t::B).map tlD) none (some (k:Int))=A.map tlD:=by rw[Sg ∅,<- map_take,List.take_left' lA]
 have eB:nX ((A++t::B).map tlD) (some ((k:Int)+1)) none=B.map tlD:=by rw[k1,Q1 ∅,<- List.map_drop,<- lA,List.drop_append,List.drop_of_length_le ∅,Nat.add_sub_cancel_left];rfl
 have eA1:nX ((A++t::B).map tlD) none (some ((k:Int)+1))=(A++[t]).map tlD:=by rw[k1,Sg ∅,<- map_take,<- lA,List.take_append,take_of_length_le ∅,Nat.add_sub_cancel_left];rfl
 have eB1:nX ((A++t::B).map tlD) (some (k:Int)) none=(t::B).map tlD:=by rw[Q1 ∅,<- List.map_drop,<- lA,List.drop_left]
 rw[eA,eB,eA1,eB1]
 have o3:Ok ⟨1,0,3⟩:=⟨⋯,⋯⟩
 have b3:Bd 2 ⟨1,0,3⟩:=⟨Sz.of ⋯,Sz.of ⋯,Sz.of ⋯⟩
 refine⟨by simp only[length_append,length_map,length_cons,length_nil];omega,by simp only[length_append,length_map,length_cons,length_nil];omega,by simp only[length_append,length_map,length_cons,length_nil];omega,by simp only[length_append,length_map,length_cons,length_nil];omega,t.x,⟨1,0,3⟩,rfl,v.o.x,o3,bt.x.mono ⋯,b3.mono ⋯,?_⟩
 walk_at "rb"
 rw[eA,eB]
 refine⟨by simp only[length_append,length_map,length_cons,length_nil];omega,by simp only[length_append,length_map,length_cons,length_nil];omega,by simp only[length_append,length_map,length_cons,length_nil];omega,by simp only[length_append,length_map,length_cons,length_nil];omega,a,rfl,s3.1,fun o im ho s4=>?_⟩
 walk_at "rb"
 rw[eB]
 refine⟨by simp only[length_append,length_map,length_cons,length_nil];omega,by simp only[length_append,length_map,length_cons,length_nil];omega,?_⟩
 have st:=s1.trans (s2.trans (s3.trans s4))
 refine⟨a,10,rfl,⋯,⋯,s4.1,fun way jp w0 w1 s6=>?_⟩
 walk_at "rb"
 have fin:=st.trans s6
 by_cases c:way<8
 ·rw[ng (by simpa using c)]
  walk_at "rb"
  obtain⟨vv,ev,sv⟩:=pick (P:=fun v=>Al d (.tuple [dN W,dN H,v])) (xs:=[.tuple (A.map tlD++B.map tlD),.tuple ((A++[t]).map tlD++tlD t::B.map tlD),.tuple (A.map tlD++[.tuple [dN t.x,dN t.y,dN (plus t.w ⟨1,0,1+r2⟩),dN t.h]]++B.map tlD),.tuple (A.map tlD++[.tuple [dN (plus t.x ⟨1,0,3⟩),dN t.y,dN t.w,dN t.h]]++B.map tlD),.list ((A++t::B).map tlD),.tuple [],.tuple (A.map tlD++[.tuple [dN t.x,dN t.y,dN t.w,dN ⟨0,0,1⟩]]++B.map tlD),.tuple (A.map tlD++[o]++B.map tlD)]) w0 (by show way<((8:Nat):Int);omega) (by
   intro y hy
   simp only[mem_cons,not_mem_nil,or_false] at hy
   have mem:∀u,∀w∈A++u::B,w=u\/w∈A++t::B:=fun u w hw=>by
    rcases List.mem_append.mp hw with h|h
    ·exact .inr (mem_append_left _ h)
    ·rcases List.mem_cons.mp h with rfl|h
     ·exact .inl rfl
     ·exact .inr (mem_append_right _ (mem_cons_of_mem _ h))
   have one_:∀u,Bd4 2000 u->(Part d (flr W H) (u::(A++B))->False)->Al d (.tuple [dN W,dN H,.tuple (A.map tlD++[tlD u]++B.map tlD)]):=fun u bu no=>by
    have e:A.map tlD++[tlD u]++B.map tlD=(A++u::B).map tlD:=by rw[map_append,map_cons,append_assoc];rfl
    rw[e]
    exact at_.sp (A++u::B) (by rw[length_append,length_cons];omega) (fun w hw=>by
     rcases mem u w hw with rfl|h
     ·exact .inr ⟨rfl,bu⟩
     ·exact .inl h) fun r=>no (r.perm List.perm_middle.symm)
   rcases hy with rfl|rfl|rfl|rfl|rfl|rfl|rfl|rfl
   ·rw[<- map_append]
    exact at_.sp (A++B) (by rw[length_append];omega) (fun u hu=>.inl (by
     rcases List.mem_append.mp hu with h|h
     ·exact mem_append_left _ h
     ·exact mem_append_right _ (mem_cons_of_mem _ h))) (Tn hd at_.p)
   ·rw[<- map_cons,<- map_append]
    refine at_.sp (A++[t]++t::B) (by simp only[length_append,length_cons,length_nil];omega) (fun u hu=>.inl (by
     rcases List.mem_append.mp hu with h|h
     ·rcases List.mem_append.mp h with h|h
      ·exact mem_append_left _ h
      ·rw[List.mem_singleton.mp h];exact mem_append_right _ mem_cons_self
     ·exact mem_append_right _ h)) fun r=>SI hd (r.perm (vs:=t::t::(A++B)) ?_)
    refine .trans (.cons t ?_) List.perm_middle.symm
    rw[append_assoc]
    exact List.perm_middle.symm
   ·exact one_ ⟨t.x,t.y,plus t.w ⟨1,0,1+r2⟩,t.h⟩ ⟨bt.x.mono ⋯,bt.y.mono ⋯,(cN v.o.w ok1 bt.w bk1).mono ⋯,bt.h.mono ⋯⟩ (SR hd ok1 sk1 at_.p)
   ·exact one_ ⟨plus t.x ⟨1,0,3⟩,t.y,t.w,t.h⟩ ⟨(cN v.o.x o3 bt.x b3).mono ⋯,bt.y.mono ⋯,bt.w.mono ⋯,bt.h.mono ⋯⟩ (SO hd o3 oJ at_.p)
   ·refine⟨at_.q at_.pW.1 at_.pW.2 [] (zero_le _) (fun _ h=>absurd h not_mem_nil) fun zs e=>(nomatch e),BE hd fun w k us e _ _=>?_⟩
    unfold fg at e
    simp only[PyData.tuple.injEq,List.cons.injEq,and_true] at e
    exact nomatch e.2.2
   ·refine⟨at_.q at_.pW.1 at_.pW.2 [] (zero_le _) (fun _ h=>absurd h not_mem_nil) fun zs e=>?_,BE hd fun w k us e v _=>?_⟩
    ·simp only[PyData.tuple.injEq] at e
     subst e
     exact⟨zero_le _,fun _ h=>absurd h not_mem_nil⟩
    ·unfold fg at e
     simp only[PyData.tuple.injEq,List.cons.injEq,and_true] at e
     have:=v.some
     have z:us.map tlD=[]:=e.2.2.symm
     rw[List.map_eq_nil_iff] at z
     rw[z] at this
     exact absurd this ⋯
   ·refine at_.odd (o:=tlD ⟨t.x,t.y,t.w,av⟩) (xZ ⟨bt.x.mono ⋯,bt.y.mono ⋯,bt.w.mono ⋯,(show Bd 1 av from ⟨Sz.of ⋯,Sz.of ⋯,Sz.of ⋯⟩).mono ⋯⟩) fun tl e v=>?_
    have:=v.sh
    rw[<- vG e,show sg d av.a av.b=0 from d5.mpr ⟨rfl,rfl⟩] at this
    exact absurd this ⋯
   ·exact at_.odd (D2 (DZ ho)) fun tl e _=>DZ ho _ _ _ _ e)
  rw[ev]
  exact q _ jp sv fin
 ·rw[mz (by simpa using c)]
  walk_at "rb"
  have o2:Ok ⟨1,0,2⟩:=⟨⋯,⋯⟩
  have b2:Bd 2 ⟨1,0,2⟩:=⟨Sz.of ⋯,Sz.of ⋯,Sz.of ⋯⟩
  refine⟨d,H,⟨1,0,2⟩,rfl,s5,L.oH,o2,L.bH.mono ⋯,b2.mono ⋯,?_⟩
  walk_at "rb"
  have Hs:Ws d H (times d H ⟨1,0,2⟩) 2:=DC hd L.oH L.sH (u:=2) ⋯
  have lt9:Lq d (times d H ⟨1,0,2⟩) H:=by
   show dif d H (times d H ⟨1,0,2⟩)=1
   have e2:Uq d (times d H ⟨1,0,2⟩) 2=H:=Hs.all
   have e1:Uq d (times d H ⟨1,0,2⟩) 1=times d H ⟨1,0,2⟩:=GG Hs.o
   have h:dif d (Uq d (times d H ⟨1,0,2⟩) 2) (Uq d (times d H ⟨1,0,2⟩) 1)=1:=by
    rw[<- ie hd (fM Hs.o) (fM Hs.o),BH Hs.o ⋯]
    exact Jr hd Hs.o Hs.s ⋯
   rw[e2,e1] at h
   exact h
  have all_:∀zs,PyData.tuple ((A++t::B).map tlD) = .tuple zs->zs.length<=1000/\∀z∈zs,(∃u∈A++t::B,z=tlD u)\/z∈([]:List PyData):=fun zs e=>by
   simp only[PyData.tuple.injEq] at e
   subst e
   refine⟨∅,fun z hz=>?_⟩
   obtain⟨u,hu,rfl⟩:=List.mem_map.mp hz
   exact .inl ⟨u,hu,rfl⟩
  obtain⟨vv,ev,sv⟩:=pick (P:=fun v=>Al d v) (xs:=[.tuple [dN (plus W ⟨1,0,1+r3⟩),dN H,.tuple ((A++t::B).map tlD)],.tuple [dN W,dN (times d H ⟨1,0,2⟩),.tuple ((A++t::B).map tlD)]]) (i:=way-8) ∅ (by show way-8<((2:Nat):Int);omega) (by
   intro y hy
   simp only[mem_cons,not_mem_nil,or_false] at hy
   rcases hy with rfl|rfl
   ·exact⟨at_.q (kd ((cN L.oW ok2 L.bW bk2).mono ⋯)) at_.pW.2 [] ⋯ (fun y hy=>absurd hy not_mem_nil) all_,Av hd (Tt hd L.oW (aW L.oW ok2) L.oH L.sW L.sH (mM hd L.oW ok2 sk2) L.part)⟩
   ·exact⟨at_.q at_.pW.1 (kd ((bD s5 L.oH o2 L.bH b2).mono ⋯)) [] ⋯ (fun y hy=>absurd hy not_mem_nil) all_,Av hd (Sy hd L.oW L.oH Hs.o L.sW Hs.s lt9 L.part)⟩)
  rw[ev]
  exact q _ jp sv fin
end
noncomputable def CD:DTS:=
 (yq (kz (ah (dC (.int 2)) au)) (ar 5) (aP (br (dCB oI (ah (gS [none,some 2] (kz (ah (dC (.int 4)) au)) (ar 0) kP (ax kT (ah (ai 1) au))) au)) (ar 6))
 (aP (br (ax vP (ah (ai 3) (ah (ai 6) (ah (ai 4) au)))) (ar 7))
 (aP (uB (QL (dOp BW (ai 7) (dC (.int 1))) (bF (ah (dC (.int 0)) (ah (dC (.int 0)) (ah (dC (.int 1)) au))))))
 (aP (br (bF (ah (dC (.int 7)) (ah (dC (.int 0)) (ah (dC (.int 1)) au)))) (Dp (dOp BW (ai 7) (dC (.int 1))) (ax bX (ah (ai 2) (ah (dCB wW (ah (dOp BW (ai 4) (dC (.int 2))) au)) au)))))
 (aP (dA (eo (dB (ax n8 (ah (ai 3) (ah (ai 6) (ah (ai 4) au)))))) (bI (dC (.bool false))) bV)
 (aP (br (ax rK (ah (ai 2) (ah (ai 3) (ah (ai 4) au)))) (ar 8))
 (aP (dA (dB (dOp (JW true) (BC [some 3,some 6,some 8] (Hi vO (ah (ai 0) (ah (ai 1) (ah (ai 2) au)))) "NoLaying") (dC (.str "NoLaying")))) (bI (dC (.bool false))) bV)
 (dA (eo (dB (ax n8 (ah (ai 3) (ah (ai 6) (ah (ai 4) au)))))) (bI (dC (.bool false))) bV)))))))))
noncomputable def Fb:DTS:=
 (aP (yq (kz (ah (dCB (HI max) (ah (dC (.int 2)) (ah (dCB (HI min) (ah (dC (.int 4)) (ah (dCB wW (ah (ai 0) au)) au))) au))) au)) (ar 1) (aP (br (ax Gz (ah (ai 0) (ah (ai 1) au))) (ar 2))
 (aP (br (ax vL (ah (ai 2) au)) (ar 3))
 (aP (br (ax vU (ah (ai 2) (ah (ai 3) au))) (ar 4))
 (CD)))))
 (bI (dC (.bool true))))
theorem Ov{n k:Nat}(h:k<n):ixN n (k:Int)=some k:=by unfold ixN;rw[if_pos ∅,if_pos ∅];rfl
theorem four{α:Type}{xs:List α}(h:xs.length=4):∃a b c e,xs=[a,b,c,e]:=by
 match xs,h with
 |[a,b,c,e],_=>exact⟨a,b,c,e,rfl⟩
section
variable {U:Mu}{Qd:DK}{ds:List D}
theorem QV{a:Addr}{cap:List (Option Nat)}{ta:DTE}{ρ:Rho}{Q:DK}(hb:Bag U a)(hle:∀x,Le (cg cap ρ) ((cg cap ρ).set 0 (some (.v x))))
  (he:∀x Z (K:DK),Bag Z a->(∀y bn,Ok y->Bd 20 y->Step a Z bn->K (.v (dN y)) bn)->ta ((cg cap ρ).set 0 (some (.v x))) Z K)
  (k:∀x1 x2 x3 x4 Z,Ok4 20 x1 x2 x3 x4->Step a U Z->Q (.v (.list [dN x1,dN x2,dN x3,dN x4])) Z) :
  gS cap (kz (ah (dC (.int 4)) au)) (ar 0) kP ta ρ U Q:=by
 rw[md]
 walk_at "rb"
 refine⟨⟨⋯,⋯⟩,⋯,fun pa hpa=>?_⟩
 have hapa:a≠pa:=fun z=>by obtain⟨g,m,e,_⟩:=id hb;rw[z,hpa] at e;cases e
 refine⟨fun i acc Z=>Bag Z a/\(∀b,b≠a->b≠pa->Z b=U b)/\acc.length=i/\∀v∈acc,Num 20 v,⟨?_,fun b _ h2=>aV h2,rfl,fun _ h=>by cases h⟩,?_,?_⟩
 ·obtain⟨g,m,e,z⟩:=hb;exact⟨g,m,by rw[aV hapa];exact e,z⟩
 ·rintro i v acc Z hv hacc ⟨hb',hk',hl,hn⟩
  refine⟨hle v,he v Z _ hb' fun y bn oy by' s2=>?_⟩
  have h4:bn pa=some acc:=by rw[s2.2 pa (fun z=>hapa z.symm)];exact hacc
  refine⟨h4,?_,fun b h1 h2=>by rw[aV h2,s2.2 b h1];exact hk' b h1 h2,by simp[hl],fun w hw=>?_⟩
  ·obtain⟨g,m,e,z⟩:=s2.1;exact⟨g,m,by rw[aV hapa];exact e,z⟩
  ·rcases List.mem_append.mp hw with z|z
   ·exact hn w z
   ·rw[List.mem_singleton.mp z]
    exact⟨y,rfl,oy,by'⟩
 ·rintro acc Z ⟨hb',hk',hl,hn⟩ hacc
  rw[nL] at hl
  have hl4:acc.length=4:=hl
  obtain⟨v1,v2,v3,v4,rfl⟩:=four hl4
  obtain⟨n1,rfl,on1,bn1⟩:=hn v1 (by simp)
  obtain⟨n2,rfl,on2,bn2⟩:=hn v2 (by simp)
  obtain⟨n3,rfl,on3,bn3⟩:=hn v3 (by simp)
  obtain⟨n4,rfl,on4,bn4⟩:=hn v4 (by simp)
  refine k n1 n2 n3 n4 _ ⟨on1,on2,on3,on4,bn1,bn2,bn3,bn4⟩ ⟨?_,fun b h1=>?_⟩
  ·obtain⟨g,m,e,z⟩:=hb';exact⟨g,m,by rw[fj hapa];exact e,z⟩
  ·by_cases hbp:b=pa
   ·subst hbp;rw[hpa];show (if b=b then none else _)=none;rw[if_pos rfl]
   ·rw[fj hbp];exact hk' b h1 hbp
theorem PY(h:xk ds U Qd):Fb ‹Qd› (aS ["_law_script","_law_k","_law_bag_here","_law_d","_law_laying_here","_law_turn","_law_weights","_law_told","_law_spoilt_here"] ds) U:=by
 obtain⟨ns,rfl,h63,q⟩:=h
 unfold Fb
 rw[wR,rL]
 walk_at "rb"
 have hm:(-(2 ^ 62)<=max 2 (min 4 ((ns.length:Nat):Int))/\max 2 (min 4 ((ns.length:Nat):Int))<2 ^ 62):=by omega
 refine⟨hm,fun i ρ Z=>∃r1 r2 r3 r4 r5 r6 r7 r8,ρ=[some (.s ns),r1,r2,r3,r4,r5,r6,r7,r8],⟨_,_,_,_,_,_,_,_,rfl⟩,?_,?_⟩
 ·rintro i x ρ Fk hx ⟨r1,r2,r3,r4,r5,r6,r7,r8,rfl⟩
  obtain⟨rfl,hi⟩:=wM hx
  walk_at "rb"
  refine⟨ns,_,rfl,∅,∅,fun a am ha s1=>?_⟩
  walk_at "rb"
  refine⟨a,rfl,s1.1,fun d bn hd s2=>?_⟩
  walk_at "rb"
  refine⟨a,d,rfl,hd,s2.1,fun W H ts j dl L hj t1 t60 s3=>?_⟩
  walk_at "rb"
  unfold CD
  rw[rL]
  walk_at "rb"
  refine⟨⟨⋯,⋯⟩,fun i' ρ Z=>∃r1 r5 r6 r7 r8,ρ=[some (.s ns),r1,some (.m a),some (.v (.int d)),some (.v (fg W H ts)),r5,r6,r7,r8]/\Bag Z a,⟨_,_,_,_,_,rfl,s3.1⟩,?_,?_⟩
  ·rintro i' y ρ im hy ⟨r1,r5,r6,r7,r8,rfl,hb⟩
   walk_at "rb"
   refine QV (a:=a) hb (fun x=>by walk_at "rb";exact⟨trivial,trivial⟩) (fun x Z K hb' kk=>?_) fun p q' s t jp o4 s5=>?_
   ·walk_at "rb"
    exact⟨a,rfl,hb',fun x bn ox bx s=>kk x bn ox bx s⟩
   walk_at "rb"
   have LW:=L.layW hj t60 o4
   refine .inl ⟨d,p,q',s,t,W,H,ts,rfl,LW,fun m wp nm sb em=>?_⟩
   walk_at "rb"
   refine Lm ?_
   walk_at "rb"
   have nma:a≠m:=fun z=>by obtain⟨g,m',e,_⟩:=id s5.1;rw[z,nm] at e;cases e
   have hb5:Bag wp a:=by obtain⟨g,m',e,r⟩:=s5.1;exact⟨g,m',sb.l a _ e,r⟩
   have hb6:=hb5.off nma (es:=wgs d p q' s t ts++[dN ⟨0,0,1⟩])
   have lw:(wgs d p q' s t ts).length=ts.length:=length_map _
   rw[em]
   dsimp only
   refine⟨∅,Lm ?_⟩
   walk_at "rb"
   rw[Qc]
   rw[show fg W H ts = .tuple [dN W,dN H,.tuple (ts.map tlD)] from rfl]
   walk_at "rb"
   rw[NF]
   walk_at "rb"
   rw[length_map]
   refine⟨a,_,rfl,∅,∅,hb6,fun r ww r0 rl s7=>?_⟩
   have e7:ww m=some (wgs d p q' s t ts++[dN ⟨0,0,1⟩]):=by rw[s7.2 m (fun z=>nma z.symm)];exact aX
   walk_at "rb"
   rw[e7]
   obtain⟨k',rfl⟩:∃k:Nat,r=(k:Int):=⟨r.toNat,∅⟩
   dsimp only
   rw[Ov (n:=(wgs d p q' s t ts++[dN ⟨0,0,1⟩]).length) (k:=k') (by rw[length_append,lw];omega)]
   dsimp only
   have hb7:=s7.1.off nma (es:=(wgs d p q' s t ts++[dN ⟨0,0,1⟩]).set k' (dN ⟨7,0,1⟩))
   refine⟨d,p,q',s,t,W,H,ts,j,rfl,o4,L,hj,t1,t60,?_⟩
   walk_at "rb"
   refine⟨a,d,W,H,ts,j,rfl,hb7,L,hj,t1,t60,fun x wf sp s8=>?_⟩
   walk_at "rb"
   rw[K3,FZ]
   walk_at "rb"
   refine⟨d,_,x,rfl,hd,sp.lp,sp.no,?_⟩
   dsimp only
   rw[OP]
   refine ne_str nofun ?_
   walk_at "rb"
   refine⟨d,p,q',s,t,W,H,ts,j,rfl,o4,L,hj,t1,t60,?_⟩
   walk_at "rb"
   exact⟨_,_,_,_,_,rfl,s8.1⟩
  ·rintro ρ Z ⟨r1,r5,r6,r7,r8,rfl,hb⟩
   exact⟨_,_,_,_,_,_,_,_,rfl⟩
 ·rintro ρ Z ⟨r1,r2,r3,r4,r5,r6,r7,r8,rfl⟩
  exact q _
end
end L2.DL
namespace K16
open PySem L2 L2.DL
local macro_rules|`(tactic| walk_at "cl")=>`(tactic| (intro _ _ h;first|exact h|exact cl1 h|exact cl2 nofun h|exact cl3 nofun h|exact jb (cZ rfl qE) _ _ h|exact jb (cZ rfl (cZ rfl qE)) _ _ h|exact jb (cZ rfl (cZ rfl (cZ rfl qE))) _ _ h|exact jb (cZ rfl (cZ rfl (cZ rfl (cZ rfl qE)))) _ _ h|exact jb (cZ rfl (cZ rfl (cZ rfl (cZ rfl (cZ rfl qE))))) _ _ h|exact jb (cZ rfl (cZ rfl (cZ rfl (cZ rfl (cZ rfl (cZ rfl qE)))))) _ _ h|exact jb (cZ rfl (cZ rfl (cZ rfl (cZ rfl (cZ rfl (cZ rfl (cZ rfl qE))))))) _ _ h|exact jb qE _ _ h|cases h))
set_option genInjectivity false in
structure Adr where
 xJ:Addr
 yc:FuncData
 k9:Addr
 kZ:FuncData
 uJ:Addr
 va:FuncData
 k6:Addr
 kK:FuncData
 DM:Addr
 Et:FuncData
 JG:Addr
 JX:FuncData
 JB:Addr
 K7:FuncData
 GF:Addr
 Gx:FuncData
 Ac:Addr
 zm:FuncData
 mD:Addr
 mj:FuncData
 wd:Addr
 wD:FuncData
 jT:Addr
 jW:FuncData
 zo:Addr
 zz:FuncData
 xU:Addr
 xp:FuncData
 uE:Addr
 uW:FuncData
 pJ:Addr
 pU:FuncData
 nS:Addr
 mS:FuncData
 nJ:Addr
 nB:FuncData
 pC:Addr
 pB:FuncData
 u7:Addr
 uo:FuncData
 gO:Addr
 hV:FuncData
 zu:Addr
 zZ:FuncData
 jn:Addr
 jI:FuncData
 xP:Addr
 xV:FuncData
 uK:Addr
 uP:FuncData
 mH:Addr
 mC:FuncData
 pR:Addr
 pK:FuncData
 xH:Addr
 yf:FuncData
 kY:Addr
 kF:FuncData
 vc:Addr
 uZ:FuncData
 sA:Addr
 qS:FuncData
 uM:Addr
 uS:FuncData
 rT:Addr
 rf:FuncData
 mr:Addr
 mn:FuncData
 uQ:Addr
 u9:FuncData
 uX:Addr
 vb:FuncData
 ph:Addr
 o9:FuncData
 qZ:Addr
 rM:FuncData
 ym:Addr
 xG:FuncData
 n6:Addr
 n9:FuncData
 rG:Addr
 rj:FuncData
 mO:Addr
 oB:FuncData
 x6:Addr
 yu:FuncData
 pM:Addr
 pf:FuncData
 mX:Addr
 mT:FuncData
 pI:Addr
 pS:FuncData
 Ol:Addr
 Ks:FuncData
 zf:Tok
 Ik:Addr
 dR:Addr
 i7:Addr
 fK:Addr
 aA:Addr
 i9:Addr
 kR:Addr
 gU:Addr
 i4:Addr
 iZ:Addr
 kQ:Addr
 i8:Addr
 fU:Addr
 ja:Addr
 gQ:Addr
 tP:Addr
 C3:Addr
structure Txt(K:PySem.W.Frag)(mg:Str->Option Value)(t:Adr):Prop where
 lO:Cal K mg "is_whole" ["thing"] jJ t.xJ t.yc
 gZ:Cal K mg "common_divisor" ["a","b"] dh t.k9 t.kZ
 jY:Cal K mg "is_number" ["thing"] iB t.uJ t.va
 hW:Cal K mg "divisor_of_all" ["a","b","c"] dw t.k6 t.kK
 yg:Cal K mg "number" ["a","b","c"] nG t.DM t.Et
 AJ:Cal K mg "mate" ["x"] x8 t.JG t.JX
 uc:Cal K mg "plus" ["x","y"] xr t.JB t.K7
 lM:Cal K mg "times" ["d","x","y"] qV t.GF t.Gx
 oN:Cal K mg "sign_of" ["d","x"] kE t.Ac t.zm
 iM:Cal K mg "sign_of_parts" ["d","a","b"] dH t.mD t.mj
 xW:Cal K mg "is_above" ["d","x","y"] jl t.wd t.wD
 cS:Cal K mg "is_above_nought" ["d","thing"] cW t.jT t.jW
 zS:Cal K mg "is_tile" ["d","thing"] kN t.zo t.zz
 xj:Cal K mg "has_form" ["d","thing"] je t.xU t.xp
 uA:Cal K mg "bounds_of" ["tile"] iA t.uE t.uW
 pE:Cal K mg "place_among" ["d","marks","x"] fe t.pJ t.pU
 jx:Cal K mg "rising_marks" ["d","found"] eI t.nS t.mS
 jF:Cal K mg "reaches_just" ["marks","end"] d9 t.nJ t.nB
 pq:Cal K mg "covers_once" ["bounds","across","upward"] fv t.pC t.pB
 mW:Cal K mg "is_laying" ["d","thing"] ip t.u7 t.uo
 cF:Cal K mg "must_be_laying" ["d","thing"] dm t.gO t.hV
 sY:Cal K mg "weighed" ["d","weights","width","height"] lh t.zu t.zZ
 cI:Cal K mg "weighed_sums" ["d","weights","laying"] eC t.jn t.jI
 yx:Cal K mg "_law_bag" ["_law_script","_law_at"] jC t.xP t.xV
 aT:Cal K mg "_law_take" ["_law_bag_here","_law_many"] iw t.uK t.uP
 mE:Cal K mg "_law_is_whole" ["_law_thing"] dG t.mH t.mC
 eZ:Cal K mg "_law_shared" ["_law_one","_law_other"] fh t.pR t.pK
 g8:Cal K mg "_law_low" ["_law_a","_law_b","_law_c"] jt t.xH t.yf
 kL:Cal K mg "_law_is_number" ["_law_thing"] dj t.kY t.kF
 aZ:Cal K mg "_law_plus" ["_law_x","_law_y"] iC t.vc t.uZ
 cm:Cal K mg "_law_minus" ["_law_x"] gh t.sA t.qS
 j6:Cal K mg "_law_mate" ["_law_x"] iu t.uM t.uS
 bC:Cal K mg "_law_times" ["_law_d","_law_x","_law_y"] gn t.rT t.rf
 mL:Cal K mg "_law_contrary" ["_law_d","_law_x"] dI t.mr t.mn
 nk:Cal K mg "_law_sign" ["_law_d","_law_x"] iz t.uQ t.u9
 uT:Cal K mg "_law_root" ["_law_bag_here"] iD t.uX t.vb
 j9:Cal K mg "_law_number" ["_law_bag_here"] fo t.ph t.o9
 lU:Cal K mg "_law_above" ["_law_bag_here","_law_d"] gC t.qZ t.rM
 xa:Cal K mg "_law_odd" ["_law_bag_here"] jo t.ym t.xG
 gA:Cal K mg "_law_refusal" ["_law_deed"] eK t.n6 t.n9
 lz:Cal K mg "_law_weigh" ["_law_d","_law_weights","_law_width","_law_height"] gG t.rG t.rj
 eD:Cal K mg "_law_between" ["_law_bag_here","_law_d"] eE t.mO t.oB
 w8:Cal K mg "_law_cut" ["_law_bag_here","_law_d","_law_tile"] jj t.x6 t.yu
 pP:Cal K mg "_law_laying" ["_law_bag_here","_law_d"] fw t.pM t.pf
 jh:Cal K mg "_law_is_told" ["_law_d","_law_weights","_law_laying_here"] eJ t.mX t.mT
 pD:Cal K mg "_law_spoilt" ["_law_bag_here","_law_d","_law_laying_here"] fz t.pI t.pS
 RU:Cal K mg "law" ["_law_script"] qD t.Ol t.Ks
 aO:mg "isinstance"=none
 wk:mg "int"=none
 JR:mg "bool"=none
 Cu:mg "abs"=none
 jS:mg "tuple"=none
 fq:mg "len"=none
 Of:mg "all"=none
 RR:mg "set"=none
 ij:mg "range"=none
 uG:mg "enumerate"=none
 AN:mg "ValueError"=none
 Jf:mg "list"=none
 Rg:mg "max"=none
 Rm:mg "min"=none
 BL:mg "MOST_TILES"=some (.int 60 t.zf)
 K5:Q7 K mg "NOUGHT" t.Ik 0 0 1
 Bb:mg "FloorError"=some (.ref t.dR)
 JZ:mg "NoRoot"=some (.ref t.i7)
 EJ:mg "NoNumber"=some (.ref t.fK)
 wK:mg "NoLaying"=some (.ref t.aA)
 Ky:mg "NoTile"=some (.ref t.i9)
 MZ:mg "NoFit"=some (.ref t.kR)
 HM:mg "NoKinds"=some (.ref t.gU)
 Lp:mg "NoPlan"=some (.ref t.i4)
 JJ:mg "NoSpot"=some (.ref t.iZ)
 NG:mg "NoNet"=some (.ref t.kQ)
 Jw:mg "NoText"=some (.ref t.i8)
 ES:mg "NoSaying"=some (.ref t.fU)
 Jk:mg "NoName"=some (.ref t.ja)
 HL:mg "TooMany"=some (.ref t.gQ)
 qo:excIn K (t.aA) bmV "ValueError.__new__"=true
 p5:exmOne K (.ref t.aA) (.ref t.dR)=some true
 gr:kitOne K (.ref t.aA) (.ref t.i7)=some false
 eX:kitOne K (.ref t.aA) (.ref t.fK)=some false
 eY:kitOne K (.ref t.aA) (.ref t.aA)=some true
 gB:kitOne K (.ref t.aA) (.ref t.i9)=some false
 g0:kitOne K (.ref t.aA) (.ref t.kR)=some false
 fH:kitOne K (.ref t.aA) (.ref t.gU)=some false
 gH:kitOne K (.ref t.aA) (.ref t.i4)=some false
 gv:kitOne K (.ref t.aA) (.ref t.iZ)=some false
 g9:kitOne K (.ref t.aA) (.ref t.kQ)=some false
 fX:kitOne K (.ref t.aA) (.ref t.i8)=some false
 eW:kitOne K (.ref t.aA) (.ref t.fU)=some false
 gI:kitOne K (.ref t.aA) (.ref t.ja)=some false
 fF:kitOne K (.ref t.aA) (.ref t.gQ)=some false
 lB:kitOne K (.ref t.aA) (.type "ValueError")=some true
 bU:yn K t.aA
 RJ:Rh K mg t.tP t.C3 "law"
 Pw:t.Ks.code = .ref t.tP
structure EQ where
 P:Program
 w:World
 K:PySem.W.Frag
 mg:Str->Option Value
 base:Heap
 t:Adr
noncomputable abbrev FO(e:EQ)(k:Nat)(a:Addr)(d:FuncData)(ps:List Str)(sp:DSp):Prop:=iy e.P e.w e.K e.mg e.base CX0 k a d ps (spD e.K sp)
noncomputable abbrev TX(e:EQ):Prop:=Txt e.K e.mg e.t
noncomputable abbrev uF(e:EQ):Prop:=FO e 1 e.t.xJ e.t.yc ["thing"] iS
noncomputable abbrev jZ(e:EQ):Prop:=FO e 1 e.t.k9 e.t.kZ ["a","b"] nH
noncomputable abbrev lF(e:EQ):Prop:=FO e 3 e.t.uJ e.t.va ["thing"] ma
noncomputable abbrev gg(e:EQ):Prop:=FO e 2 e.t.k6 e.t.kK ["a","b","c"] xR
noncomputable abbrev tU(e:EQ):Prop:=FO e 3 e.t.DM e.t.Et ["a","b","c"] dM
noncomputable abbrev GL(e:EQ):Prop:=FO e 1 e.t.JG e.t.JX ["x"] jv
noncomputable abbrev Cn(e:EQ):Prop:=FO e 4 e.t.JB e.t.K7 ["x","y"] bQ
noncomputable abbrev EB(e:EQ):Prop:=FO e 4 e.t.GF e.t.Gx ["d","x","y"] bL
noncomputable abbrev qi(e:EQ):Prop:=FO e 2 e.t.Ac e.t.zm ["d","x"] kv
noncomputable abbrev hJ(e:EQ):Prop:=FO e 1 e.t.mD e.t.mj ["d","a","b"] qY
noncomputable abbrev uL(e:EQ):Prop:=FO e 2 e.t.wd e.t.wD ["d","x","y"] vF
noncomputable abbrev fJ(e:EQ):Prop:=FO e 4 e.t.jT e.t.jW ["d","thing"] jK
noncomputable abbrev xo(e:EQ):Prop:=FO e 5 e.t.zo e.t.zz ["d","thing"] AK
noncomputable abbrev u6(e:EQ):Prop:=FO e 6 e.t.xU e.t.xp ["d","thing"] vN
noncomputable abbrev q5(e:EQ):Prop:=FO e 5 e.t.uE e.t.uW ["tile"] oD
noncomputable abbrev nE(e:EQ):Prop:=FO e 3 e.t.pJ e.t.pU ["d","marks","x"] rV
noncomputable abbrev mK(e:EQ):Prop:=FO e 4 e.t.nS e.t.mS ["d","found"] oF
noncomputable abbrev mJ(e:EQ):Prop:=FO e 1 e.t.nJ e.t.nB ["marks","end"] qC
noncomputable abbrev oo(e:EQ):Prop:=FO e 1 e.t.pC e.t.pB ["bounds","across","upward"] ye
noncomputable abbrev lH(e:EQ):Prop:=FO e 7 e.t.u7 e.t.uo ["d","thing"] nO
noncomputable abbrev j4(e:EQ):Prop:=FO e 8 e.t.gO e.t.hV ["d","thing"] oP
noncomputable abbrev wU(e:EQ):Prop:=FO e 5 e.t.zu e.t.zZ ["d","weights","width","height"] eM
noncomputable abbrev iL(e:EQ):Prop:=FO e 9 e.t.jn e.t.jI ["d","weights","laying"] vP
noncomputable abbrev uH(e:EQ):Prop:=FO e 1 e.t.xP e.t.xV ["_law_script","_law_at"] Gz
noncomputable abbrev b9(e:EQ):Prop:=FO e 1 e.t.uK e.t.uP ["_law_bag_here","_law_many"] bX
noncomputable abbrev kO(e:EQ):Prop:=FO e 1 e.t.mH e.t.mC ["_law_thing"] iS
noncomputable abbrev jz(e:EQ):Prop:=FO e 1 e.t.pR e.t.pK ["_law_one","_law_other"] nH
noncomputable abbrev fR(e:EQ):Prop:=FO e 2 e.t.xH e.t.yf ["_law_a","_law_b","_law_c"] dM
noncomputable abbrev jQ(e:EQ):Prop:=FO e 2 e.t.kY e.t.kF ["_law_thing"] ma
noncomputable abbrev eP(e:EQ):Prop:=FO e 3 e.t.vc e.t.uZ ["_law_x","_law_y"] bQ
noncomputable abbrev ik(e:EQ):Prop:=FO e 1 e.t.sA e.t.qS ["_law_x"] gp
noncomputable abbrev qN(e:EQ):Prop:=FO e 1 e.t.uM e.t.uS ["_law_x"] jv
noncomputable abbrev ig(e:EQ):Prop:=FO e 3 e.t.rT e.t.rf ["_law_d","_law_x","_law_y"] bL
noncomputable abbrev kW(e:EQ):Prop:=FO e 3 e.t.mr e.t.mn ["_law_d","_law_x"] jG
noncomputable abbrev l7(e:EQ):Prop:=FO e 1 e.t.uQ e.t.u9 ["_law_d","_law_x"] kv
noncomputable abbrev qO(e:EQ):Prop:=FO e 2 e.t.uX e.t.vb ["_law_bag_here"] vL
noncomputable abbrev jc(e:EQ):Prop:=FO e 3 e.t.ph e.t.o9 ["_law_bag_here"] kT
noncomputable abbrev pA(e:EQ):Prop:=FO e 4 e.t.qZ e.t.rM ["_law_bag_here","_law_d"] nY
noncomputable abbrev uV(e:EQ):Prop:=FO e 2 e.t.ym e.t.xG ["_law_bag_here"] F5
noncomputable abbrev pO(e:EQ):Prop:=FO e 4 e.t.rG e.t.rj ["_law_d","_law_weights","_law_width","_law_height"] eM
noncomputable abbrev mB(e:EQ):Prop:=FO e 4 e.t.mO e.t.oB ["_law_bag_here","_law_d"] qh
noncomputable abbrev uu(e:EQ):Prop:=FO e 5 e.t.x6 e.t.yu ["_law_bag_here","_law_d","_law_tile"] K6
noncomputable abbrev nu(e:EQ):Prop:=FO e 6 e.t.pM e.t.pf ["_law_bag_here","_law_d"] vU
noncomputable abbrev mi(e:EQ):Prop:=FO e 10 e.t.mX e.t.mT ["_law_d","_law_weights","_law_laying_here"] n8
noncomputable abbrev mV(e:EQ):Prop:=FO e 4 e.t.pI e.t.pS ["_law_bag_here","_law_d","_law_laying_here"] rK
noncomputable abbrev Lc(e:EQ):Prop:=FO e 12 e.t.Ol e.t.Ks ["_law_script"] xk
noncomputable abbrev d0(e:EQ):Prop:=iy e.P e.w e.K e.mg e.base (CX1 e.P e.w) 8 e.t.gO e.t.hV ["d","thing"] (spX e.K (.ref e.t.aA) lI)
noncomputable abbrev eS(e:EQ):Prop:=iy e.P e.w e.K e.mg e.base (CX1 e.P e.w) 9 e.t.jn e.t.jI ["d","weights","laying"] (spX e.K (.ref e.t.aA) vO)
noncomputable abbrev qP(e:EQ):Prop:=JV e.P e.w e.K e.mg e.base 10 e.t.n6 e.t.n9 "_law_deed" (.ref e.t.aA) "NoLaying"
section
variable {e:EQ}
theorem Dq:aJ ["thing"] ["thing"] (az jJ):=cH
theorem Eb(T:TX e):uF e:=by
 have S:=Dq
 exact T.lO.f.okD S (fun ds U Q h=>uU h) (fun cdv A outer s H E hr=>⟨jR,(aw (aI (kr (jq (GJ _) rfl T.aO rfl T.wk PyProof.Rows.Boot.«int» (dv 0)) (lT (Kd (jq (CL _) rfl T.aO rfl T.JR PyProof.Rows.Boot.«bool» (dv 0))))))),fun ds U Qd h=>uq h⟩)
theorem qT:aJ ["a","b"] ["a","b"] (az dh):=cH
theorem rN(T:TX e):jZ e:=by
 have S:=qT
 exact T.gZ.f.okD S (fun ds U Q h=>zw h) (fun cdv A outer s H E hr=>⟨gE,(aq (yw PassesOwn.never (bj (ka hr.units) bT (dv 1) ak (aU _)) (aw (ju (i:=0) (j:=1) rfl S.nd rfl rfl ⋯ rfl rfl (ag (dv 1) (ag (lR (dv 0) (dv 1)) aj)) rfl)))
  (aw (aI (wN rfl T.Cu (ag (dv 0) aj))))),fun ds U Qd h=>rS h⟩)
theorem MH:aJ ["x"] ["x"] (az x8):=cH
theorem gj(T:TX e):GL e:=by
 have S:=MH
 exact T.AJ.f.okD S (fun ds U Q h=>xy h) (fun cdv A outer s H E hr=>⟨A1,(aw (aI (aH (ag (aE (dv 0) ak (fun _ _=>rfl)) (ag (mR (aE (dv 0) ak (fun _ _=>rfl))) (ag (aE (dv 0) ak (fun _ _=>rfl)) aj)))))),fun ds U Qd h=>ME h⟩)
theorem tY:aJ ["d","a","b","prevailing"] ["d","a","b"] (az dH):=cH
theorem ub(T:TX e):hJ e:=by
 have S:=tY
 exact T.iM.f.okD S (fun ds U Q h=>El h) (fun cdv A outer s H E hr=>⟨gR,(aq (bZ (DW.dt (BF (bj (du hr.units) bT (dv 1) ak (aU _)) (vI (bj (du hr.units) bT (dv 2) ak (aU _))))) (aw (aI ak)) bc)
  (aq (bZ (DW.dt (BF (bj Es gu (dv 1) ak (aU _)) (vI (bj Es gu (dv 2) ak (aU _))))) (aw (aI ak)) bc)
  (aq (bZ (DW.dt (BF (bj Oh gu (dv 1) ak (aU _)) (vI (bj Oh gu (dv 2) ak (aU _))))) (aw (aI (mR ak))) bc)
  (aq (bG (i:=3) S.nd (DU (bj pQ gu (bA (dv 1) (dv 1)) (bA (bA (dv 0) (dv 2)) (dv 2)) (aU _)) (dv 1) (dv 2)))
  (aw (aI (DU (bj pQ gu (dv 3) ak (aU _)) ak (mR ak)))))))),fun ds U Qd h=>um h⟩)
theorem vt:aJ ["marks","end"] ["marks","end"] (az d9):=cH
theorem vi(T:TX e):mJ e:=by
 have S:=vt
 exact T.jF.f.okD S (fun ds U Q h=>Dk h) (fun cdv A outer s H E hr=>⟨iI,(aw (aI (kr (eU (du hr.units) bT (aE (dv 0) ak (fun _ _=>rfl)) (J1 rfl T.K5) (aU _)) (lT (eU (du hr.units) bT (aE (dv 0) (mR ak) (fun _ _=>rfl)) (dv 1) (aU _)))))),fun ds U Qd h=>vD h⟩)
theorem wm:aJ ["bounds","across","upward","columns","rows","covered","left","right","bottom","top","column","row"] ["bounds","across","upward"] (az fv):=cH
theorem xY(T:TX e):oo e:=by
 have S:=wm
 exact KR (T.pq.f.okD S (fun ds U Q h=>yN h) (fun cdv A outer s H E hr=>⟨jf,(aq (N2 (i:=3) (N':=["at","x"]) (cap:=[none,none]) S.nd rfl rfl rfl hr.units (Hf rfl T.uG (ag (dv 1) aj)) (fun _ _ _=>(cP (n:=2) rfl (aB (cJ 0) (aB (cJ 1) bY)))) (fun _ _ _=>fk) (fun _ _ _=>(dv 1)) (fun _ _ _=>(dv 0)))
  (aq (N2 (i:=4) (N':=["at","y"]) (cap:=[none,none]) S.nd rfl rfl rfl hr.units (Hf rfl T.uG (ag (dv 2) aj)) (fun _ _ _=>(cP (n:=2) rfl (aB (cJ 0) (aB (cJ 1) bY)))) (fun _ _ _=>fk) (fun _ _ _=>(dv 1)) (fun _ _ _=>(dv 0)))
  (aq (bG (i:=5) S.nd (Iv rfl T.RR))
  (aq (lG PassesOwn.never rfl (oZ (dv 0)) (cP (n:=4) rfl (aB (bE (i:=6) S.nd) (aB (bE (i:=7) S.nd) (aB (bE (i:=8) S.nd) (aB (bE (i:=9) S.nd) bY))))) (aw (lG PassesOwn.never rfl (Cs rfl T.ij (ag (B0 hr.units (dv 3) (dv 6)) (ag (B0 hr.units (dv 3) (dv 7)) aj))) (bE (i:=10) S.nd) (aw (lG PassesOwn.never rfl (Cs rfl T.ij (ag (B0 hr.units (dv 4) (dv 8)) (ag (B0 hr.units (dv 4) (dv 9)) aj))) (bE (i:=11) S.nd) (aq (bZ (Qq hr.units (aH (ag (dv 10) (ag (dv 11) aj))) (dv 5) (by with_unfolding_all rfl)) (aw (aI gi)) bc)
  (aw (oK (Mj hr.units (dv 5) (aH (ag (dv 10) (ag (dv 11) aj))))))))))))
  (aw (aI (eU (du hr.units) bT (L5 rfl T.fq (ag (dv 5) aj)) (bA (eV (dX rfl T.fq (ag (dv 1) aj)) ak) (eV (dX rfl T.fq (ag (dv 2) aj)) ak)) (aU _)))))))),fun ds U Qd h=>w6 h⟩)) (fun ds U Qd h=>vf h)
theorem DQ:aJ ["_law_script","_law_at","_law_cell","_law_great","_law_primes","_law_mixed"] ["_law_script","_law_at"] (az jC):=cH
theorem DN(T:TX e):uH e:=by
 have S:=DQ
 exact T.yx.f.okD S (fun ds U Q h=>Il h) (fun cdv A outer s H E hr=>⟨mQ,(aq (bG (i:=2) S.nd ak)
  (aq (bZ (bj mh gu (dv 1) (dX rfl T.fq (ag (dv 0) aj)) (aU _)) (aw (bG (i:=2) S.nd (aE (dv 0) (dv 1) (fun _ _=>rfl)))) bc)
  (aq (bG (i:=3) S.nd ak)
  (aq (bZ (bj Es gu (wN rfl T.Cu (ag (dv 2) aj)) (FH ak ak) (aU _)) (aw (bG (i:=3) S.nd (wN rfl T.Cu (ag (dv 2) aj)))) bc)
  (aq (bG (i:=4) S.nd (cY (ag ak (ag ak (ag ak (ag ak (ag ak (ag ak (ag ak (ag ak aj))))))))))
  (aq (bG (i:=5) S.nd (dz (dz (dz (bA (lR (dv 2) ak) ak) (bA (bA ak (dv 1)) (dv 1))) (bA ak (dv 1))) ak))
  (aw (aI (vM (ag (dv 3) (ag (lR (dv 5) (aE (dv 4) (lR (dv 1) ak) (fun _ _=>rfl))) aj))))))))))),fun ds U Qd h=>DB h⟩)
theorem Cf:aJ ["_law_bag_here","_law_many","_law_digit"] ["_law_bag_here","_law_many"] (az iw):=cH
theorem AH(T:TX e):b9 e:=by
 have S:=Cf
 exact T.aT.f.okD S (fun ds U Q h=>E7 h) (fun cdv A outer s H E hr=>⟨lC,(aq (bZ (bj pQ gu (aE (dv 0) ak (fun _ _=>rfl)) ak (aU _)) (aq (bG (i:=2) S.nd (lR (aE (dv 0) ak (fun _ _=>rfl)) (dv 1)))
  (aq (en (jw (aE (dv 0) ak (fun _ _=>rfl)) (dv 1)) (Fw (dv 0) ak))
  (aw (aI (dv 2))))) bc)
  (aq (en (lR (dz (bA (aE (dv 0) ak (fun _ _=>rfl)) ak) ak) ak) (Fw (dv 0) ak))
  (aw (aI (lR (jw (lR (FH (aE (dv 0) ak (fun _ _=>rfl)) ak) ak) ak) (dv 1)))))),fun ds U Qd h=>AS h⟩)
theorem tE:aJ ["_law_thing"] ["_law_thing"] (az dG):=cH
theorem tw(T:TX e):kO e:=by
 have S:=tE
 exact T.mE.f.okD S (fun ds U Q h=>uU h) (fun cdv A outer s H E hr=>⟨lr,(aw (aI (kr (jq (GJ _) rfl T.aO rfl T.wk PyProof.Rows.Boot.«int» (dv 0)) (lT (Kd (jq (CL _) rfl T.aO rfl T.JR PyProof.Rows.Boot.«bool» (dv 0))))))),fun ds U Qd h=>tL h⟩)
theorem yy:aJ ["_law_one","_law_other"] ["_law_one","_law_other"] (az fh):=cH
theorem xt(T:TX e):jz e:=by
 have S:=yy
 exact T.eZ.f.okD S (fun ds U Q h=>zw h) (fun cdv A outer s H E hr=>⟨jm,(aq (ju (i:=0) (j:=1) rfl S.nd rfl rfl ⋯ rfl rfl (ag (wN rfl T.Cu (ag (dv 0) aj)) (ag (wN rfl T.Cu (ag (dv 1) aj)) aj)) rfl)
  (aq (yw PassesOwn.never (bj pQ gu (dv 1) ak (aU _)) (aw (ju (i:=0) (j:=1) rfl S.nd rfl rfl ⋯ rfl rfl (ag (dv 1) (ag (lR (dv 0) (dv 1)) aj)) rfl)))
  (aw (aI (dv 0))))),fun ds U Qd h=>xB h⟩)
theorem yI:aJ ["_law_x"] ["_law_x"] (az gh):=cH
theorem yO(T:TX e):ik e:=by
 have S:=yI
 exact T.cm.f.okD S (fun ds U Q h=>DH h) (fun cdv A outer s H E hr=>⟨kg,(aw (aI (aH (ag (eV ak (aE (dv 0) ak (fun _ _=>rfl))) (ag (eV ak (aE (dv 0) ak (fun _ _=>rfl))) (ag (aE (dv 0) ak (fun _ _=>rfl)) aj)))))),fun ds U Qd h=>yV h⟩)
theorem Bw:aJ ["_law_x"] ["_law_x"] (az iu):=cH
theorem Ao(T:TX e):qN e:=by
 have S:=Bw
 exact T.j6.f.okD S (fun ds U Q h=>xy h) (fun cdv A outer s H E hr=>⟨lV,(aw (aI (aH (ag (aE (dv 0) ak (fun _ _=>rfl)) (ag (eV ak (aE (dv 0) ak (fun _ _=>rfl))) (ag (aE (dv 0) ak (fun _ _=>rfl)) aj)))))),fun ds U Qd h=>Cj h⟩)
theorem AV:aJ ["_law_d","_law_x","_law_first","_law_second","_law_sides"] ["_law_d","_law_x"] (az iz):=cH
theorem A8(T:TX e):l7 e:=by
 have S:=AV
 exact T.nk.f.okD S (fun ds U Q h=>wg h) (fun cdv A outer s H E hr=>⟨lE,(aq (ju (i:=2) (j:=3) rfl S.nd rfl rfl ⋯ rfl rfl (ag (bA (aE (dv 1) ak (fun _ _=>rfl)) (aE (dv 1) ak (fun _ _=>rfl))) (ag (bA (bA (dv 0) (aE (dv 1) ak (fun _ _=>rfl))) (aE (dv 1) ak (fun _ _=>rfl))) aj)) rfl)
  (aq (bG (i:=4) S.nd (cY (ag (eV (nQ rfl T.wk (ag (eU pQ gu (aE (dv 1) ak (fun _ _=>rfl)) ak (aU _)) aj)) (nQ rfl T.wk (ag (eU mh gu (aE (dv 1) ak (fun _ _=>rfl)) ak (aU _)) aj))) (ag (eV (nQ rfl T.wk (ag (eU pQ gu (aE (dv 1) ak (fun _ _=>rfl)) ak (aU _)) aj)) (nQ rfl T.wk (ag (eU mh gu (aE (dv 1) ak (fun _ _=>rfl)) ak (aU _)) aj))) aj))))
  (aq (bZ (bj Es gu (bA (aE (dv 4) ak (fun _ _=>rfl)) (aE (dv 4) ak (fun _ _=>rfl))) ak (aU _)) (aw (aI (DU (bj (ka hr.units) bT (aE (dv 4) ak (fun _ _=>rfl)) ak (aU _)) (aE (dv 4) ak (fun _ _=>rfl)) (aE (dv 4) ak (fun _ _=>rfl))))) bc)
  (aw (aI (DU (bj pQ gu (dv 2) (dv 3) (aU _)) (aE (dv 4) ak (fun _ _=>rfl)) (aE (dv 4) ak (fun _ _=>rfl)))))))),fun ds U Qd h=>BJ h⟩)
theorem rB:aJ ["a","b","c"] ["a","b","c"] (az dw):=cH
theorem qW(T:TX e)(eN:jZ e):gg e:=by
 have S:=rB
 exact T.hW.f.okD S (fun ds U Q h=>Fs h) (fun cdv A outer s H E hr=>⟨gk,(aw (aI (ao eN hr T.gZ (ag (ao eN hr T.gZ (ag (dv 2) (ag (dv 0) aj))) (ag (dv 1) aj))))),fun ds U Qd h=>sG h⟩)
theorem EE:aJ ["d","x"] ["d","x"] (az kE):=cH
theorem E9(T:TX e)(cR:hJ e):qi e:=by
 have S:=EE
 exact T.oN.f.okD S (fun ds U Q h=>wg h) (fun cdv A outer s H E hr=>⟨qg,(aw (aI (ao cR hr T.iM (ag (dv 0) (ag (aE (dv 1) ak (fun _ _=>rfl)) (ag (aE (dv 1) ak (fun _ _=>rfl)) aj)))))),fun ds U Qd h=>EY h⟩)
theorem CK:aJ ["d","x","y","a","b"] ["d","x","y"] (az jl):=cH
theorem CF(T:TX e)(cR:hJ e):uL e:=by
 have S:=CK
 exact T.xW.f.okD S (fun ds U Q h=>C2 h) (fun cdv A outer s H E hr=>⟨nC,(aq (bG (i:=3) S.nd (eV (bA (aE (dv 1) ak (fun _ _=>rfl)) (aE (dv 2) ak (fun _ _=>rfl))) (bA (aE (dv 2) ak (fun _ _=>rfl)) (aE (dv 1) ak (fun _ _=>rfl)))))
  (aq (bG (i:=4) S.nd (eV (bA (aE (dv 1) ak (fun _ _=>rfl)) (aE (dv 2) ak (fun _ _=>rfl))) (bA (aE (dv 2) ak (fun _ _=>rfl)) (aE (dv 1) ak (fun _ _=>rfl)))))
  (aw (aI (eU (du hr.units) bT (ao cR hr T.iM (ag (dv 0) (ag (dv 3) (ag (dv 4) aj)))) ak (aU _)))))),fun ds U Qd h=>DY h⟩)
theorem Ey:aJ ["_law_a","_law_b","_law_c","_law_common"] ["_law_a","_law_b","_law_c"] (az jt):=cH
theorem D4(T:TX e)(cD:jz e):fR e:=by
 have S:=Ey
 exact T.g8.f.okD S (fun ds U Q h=>sE h) (fun cdv A outer s H E hr=>⟨nW,(aq (bG (i:=3) S.nd (bA (ao cD hr T.eZ (ag (ao cD hr T.eZ (ag (dv 0) (ag (dv 1) aj))) (ag (dv 2) aj))) (aE (cY (ag ak (ag (mR ak) aj))) (nQ rfl T.wk (ag (eU mh gu (dv 2) ak (aU _)) aj)) (fun _ _=>rfl))))
  (aw (aI (aH (ag (jw (dv 0) (dv 3)) (ag (jw (dv 1) (dv 3)) (ag (jw (dv 2) (dv 3)) aj))))))),fun ds U Qd h=>C7 h⟩)
theorem sC:aJ ["_law_thing"] ["_law_thing"] (az dj):=cH
theorem qH(T:TX e)(iK:kO e)(cD:jz e):jQ e:=by
 have S:=sC
 exact T.kL.f.okD S (fun ds U Q h=>wq h) (fun cdv A outer s H E hr=>⟨gF,(aq (bZ (DW.dt (ir (da (cC (jq (kit_tuple _) rfl T.aO rfl T.jS PyProof.Rows.Boot.«tuple» (dv 0)))) (ir (bj (ka hr.units) bT (dX rfl T.fq (ag (dv 0) aj)) ak (aU _)) (jr (da (cC (J0 rfl rfl T.Of (ag (KC (N':=["_law_one"]) (cap:=[none]) rfl (pZ (dv 0)) (fun _ _ _=>(cJ 0)) (fun _ _ _=>fk) (fun _ _ _=>(ao iK hr T.mE (ag (dv 0) aj)))) aj)))))))) (aw (aI gi)) bc)
  (aw (aI (kr (eU pQ gu (aE (dv 0) ak (fun _ _=>rfl)) ak (aU _)) (lT (eU (du hr.units) bT (ao cD hr T.eZ (ag (ao cD hr T.eZ (ag (aE (dv 0) ak (fun _ _=>rfl)) (ag (aE (dv 0) ak (fun _ _=>rfl)) aj))) (ag (aE (dv 0) ak (fun _ _=>rfl)) aj))) ak (aU _))))))),fun ds U Qd h=>qU h⟩)
theorem Ap:aJ ["_law_bag_here","_law_some"] ["_law_bag_here"] (az iD):=cH
theorem Bt(T:TX e)(aC:b9 e):qO e:=by
 have S:=Ap
 exact T.uT.f.okD S (fun ds U Q h=>Du h) (fun cdv A outer s H E hr=>⟨lS,(aq (bZ (bj (du hr.units) bT (ao aC hr T.aT (ag (dv 0) (ag ak aj))) ak (aU _)) (aw (aI (aE (cY (ag ak (ag ak (ag ak aj)))) (ao aC hr T.aT (ag (dv 0) (ag ak aj))) (fun _ _=>rfl)))) bc)
  (aq (FT (i:=1) (N':=["_law_d"]) (cap:=[none]) S.nd rfl rfl rfl (Cs rfl T.ij (ag ak (ag ak aj))) (fun _ _ _=>(cJ 0)) (fun _ _ _=>(Dx (bj (HJ hr.units) P4 (dv 0) (cY (ag ak (ag ak (ag ak (ag ak aj))))) (by with_unfolding_all rfl)))) (fun _ _ _=>(dv 0)))
  (aw (aI (aE (dv 1) (ao aC hr T.aT (ag (dv 0) (ag ak aj))) (fun _ _=>rfl)))))),fun ds U Qd h=>BA h⟩)
theorem CI:aJ ["_law_bag_here","_law_some"] ["_law_bag_here"] (az jo):=cH
theorem En(T:TX e)(aC:b9 e):uV e:=by
 have S:=CI
 exact T.xa.f.okD S (fun ds U Q h=>Im h) (fun cdv A outer s H E hr=>⟨nF,(aq (bG (i:=1) S.nd (cY (ag OA (ag gi (ag gi (ag dU (ag dU (ag (mR ak) (ag ak (ag ak (ag (FH ak ak) (ag (aH aj) (ag (cY aj) (ag (cY (ag ak aj)) (ag (aH (ag ak (ag ak aj))) (ag (aH (ag ak (ag ak (ag ak aj)))) (ag (aH (ag ak (ag ak (ag ak aj)))) (ag (aH (ag ak (ag gi (ag ak aj)))) (ag (aH (ag ak (ag ak (ag (mR ak) aj)))) (ag (cY (ag ak (ag ak (ag ak aj)))) (ag (aH (ag ak (ag ak aj))) (ag dU aj))))))))))))))))))))))
  (aw (aI (aE (dv 1) (ao aC hr T.aT (ag (dv 0) (ag ak aj))) (fun _ _=>rfl))))),fun ds U Qd h=>CU h⟩)
theorem B9:aJ ["thing","a","b","c"] ["thing"] (az iB):=cH
theorem BD(T:TX e)(jk:uF e)(cG:gg e):lF e:=by
 have S:=B9
 exact T.jY.f.okD S (fun ds U Q h=>wq h) (fun cdv A outer s H E hr=>⟨lW,(aq (bZ (DW.dt (ir (da (cC (jq (kit_tuple _) rfl T.aO rfl T.jS PyProof.Rows.Boot.«tuple» (dv 0)))) (jr (bj (ka hr.units) bT (dX rfl T.fq (ag (dv 0) aj)) ak (aU _))))) (aw (aI gi)) bc)
  (aq (en (dv 0) (cP (n:=3) rfl (aB (bE (i:=1) S.nd) (aB (bE (i:=2) S.nd) (aB (bE (i:=3) S.nd) bY)))))
  (aq (bZ (DW.dt (ir (da (cC (ao jk hr T.lO (ag (dv 1) aj)))) (ir (da (cC (ao jk hr T.lO (ag (dv 2) aj)))) (jr (da (cC (ao jk hr T.lO (ag (dv 3) aj)))))))) (aw (aI gi)) bc)
  (aw (aI (kr (eU Es gu (dv 3) ak (aU _)) (lT (eU (du hr.units) bT (ao cG hr T.hW (ag (dv 1) (ag (dv 2) (ag (dv 3) aj)))) ak (aU _))))))))),fun ds U Qd h=>Ay h⟩)
theorem Iz:aJ ["a","b","c","divisor"] ["a","b","c"] (az nG):=cH
theorem IL(T:TX e)(cG:gg e):tU e:=by
 have S:=Iz
 exact T.yg.f.okD S (fun ds U Q h=>sE h) (fun cdv A outer s H E hr=>⟨tm,(aq (bZ (bj (du hr.units) bT (dv 2) ak (aU _)) (aw CC) bc)
  (aq (bG (i:=3) S.nd (ao cG hr T.hW (ag (dv 0) (ag (dv 1) (ag (dv 2) aj)))))
  (aq (bZ (bj mh gu (dv 2) ak (aU _)) (aw (bG (i:=3) S.nd (mR (dv 3)))) bc)
  (aw (aI (aH (ag (jw (dv 0) (dv 3)) (ag (jw (dv 1) (dv 3)) (ag (jw (dv 2) (dv 3)) aj))))))))),fun ds U Qd h=>IX h⟩)
theorem wu:aJ ["d","marks","x","low","high","middle"] ["d","marks","x"] (az fe):=cH
theorem wJ(T:TX e)(qe:uL e):nE e:=by
 have S:=wu
 exact T.pE.f.okD S (fun ds U Q h=>AX h) (fun cdv A outer s H E hr=>⟨jB,(aq (bG (i:=3) S.nd ak)
  (aq (bG (i:=4) S.nd (dX rfl T.fq (ag (dv 1) aj)))
  (aq (yw PassesOwn.never (bj mh gu (dv 3) (dv 4) (aU _)) (aq (bG (i:=5) S.nd (jw (dz (dv 3) (dv 4)) ak))
  (aw (bZ (cC (ao qe hr T.xW (ag (dv 0) (ag (dv 2) (ag (aE (dv 1) (dv 5) (fun _ _=>rfl)) aj))))) (aw (bG (i:=3) S.nd (dz (dv 5) ak))) (aw (bG (i:=4) S.nd (dv 5)))))))
  (aw (aI (dv 3)))))),fun ds U Qd h=>xT h⟩)
theorem AA:aJ ["_law_x","_law_y"] ["_law_x","_law_y"] (az iC):=cH
theorem Cm(T:TX e)(bS:fR e):eP e:=by
 have S:=AA
 exact T.aZ.f.okD S (fun ds U Q h=>wI h) (fun cdv A outer s H E hr=>⟨rg,(aw (aI (ao bS hr T.g8 (ag (dz (bA (aE (dv 0) ak (fun _ _=>rfl)) (aE (dv 1) ak (fun _ _=>rfl))) (bA (aE (dv 1) ak (fun _ _=>rfl)) (aE (dv 0) ak (fun _ _=>rfl)))) (ag (dz (bA (aE (dv 0) ak (fun _ _=>rfl)) (aE (dv 1) ak (fun _ _=>rfl))) (bA (aE (dv 1) ak (fun _ _=>rfl)) (aE (dv 0) ak (fun _ _=>rfl)))) (ag (bA (aE (dv 0) ak (fun _ _=>rfl)) (aE (dv 1) ak (fun _ _=>rfl))) aj)))))),fun ds U Qd h=>Bg h⟩)
theorem ze:aJ ["_law_d","_law_x","_law_y"] ["_law_d","_law_x","_law_y"] (az gn):=cH
theorem zd(T:TX e)(bS:fR e):ig e:=by
 have S:=ze
 exact T.bC.f.okD S (fun ds U Q h=>uI h) (fun cdv A outer s H E hr=>⟨pF,(aw (aI (ao bS hr T.g8 (ag (dz (bA (aE (dv 1) ak (fun _ _=>rfl)) (aE (dv 2) ak (fun _ _=>rfl))) (bA (bA (dv 0) (aE (dv 1) ak (fun _ _=>rfl))) (aE (dv 2) ak (fun _ _=>rfl)))) (ag (dz (bA (aE (dv 1) ak (fun _ _=>rfl)) (aE (dv 2) ak (fun _ _=>rfl))) (bA (aE (dv 1) ak (fun _ _=>rfl)) (aE (dv 2) ak (fun _ _=>rfl)))) (ag (bA (aE (dv 1) ak (fun _ _=>rfl)) (aE (dv 2) ak (fun _ _=>rfl))) aj)))))),fun ds U Qd h=>yL h⟩)
theorem tQ:aJ ["_law_d","_law_x"] ["_law_d","_law_x"] (az dI):=cH
theorem tM(T:TX e)(bS:fR e):kW e:=by
 have S:=tQ
 exact T.mL.f.okD S (fun ds U Q h=>xX h) (fun cdv A outer s H E hr=>⟨gY,(aw (aI (ao bS hr T.g8 (ag (bA (aE (dv 1) ak (fun _ _=>rfl)) (aE (dv 1) ak (fun _ _=>rfl))) (ag (eV ak (bA (aE (dv 1) ak (fun _ _=>rfl)) (aE (dv 1) ak (fun _ _=>rfl)))) (ag (eV (bA (aE (dv 1) ak (fun _ _=>rfl)) (aE (dv 1) ak (fun _ _=>rfl))) (bA (bA (dv 0) (aE (dv 1) ak (fun _ _=>rfl))) (aE (dv 1) ak (fun _ _=>rfl)))) aj)))))),fun ds U Qd h=>sZ h⟩)
theorem xc:aJ ["_law_bag_here","_law_wide","_law_a","_law_b","_law_c","_law_way"] ["_law_bag_here"] (az fo):=cH
theorem v9(T:TX e)(aC:b9 e)(bS:fR e):jc e:=by
 have S:=xc
 exact T.j9.f.okD S (fun ds U Q h=>yF h) (fun cdv A outer s H E hr=>⟨jd,(aq (bG (i:=1) S.nd (aE (cY (ag ak (ag ak (ag ak (ag ak aj))))) (ao aC hr T.aT (ag (dv 0) (ag ak aj))) (fun _ _=>rfl)))
  (aq (ju (i:=2) (j:=3) rfl S.nd rfl rfl ⋯ rfl rfl (ag (eV (ao aC hr T.aT (ag (dv 0) (ag (dv 1) aj))) (jw (dv 1) ak)) (ag (eV (ao aC hr T.aT (ag (dv 0) (ag (dv 1) aj))) (jw (dv 1) ak)) aj)) rfl)
  (aq (bG (i:=4) S.nd (dz ak (ao aC hr T.aT (ag (dv 0) (ag (eV (dv 1) ak) aj)))))
  (aq (bG (i:=5) S.nd (ao aC hr T.aT (ag (dv 0) (ag ak aj))))
  (aw (aI (ao bS hr T.g8 (ag (aE (cY (ag (dv 2) (ag (dv 2) (ag (dv 2) (ag (dv 2) (ag (dv 2) (ag (dv 2) (ag (dv 2) (ag ak aj))))))))) (dv 5) (fun _ _=>rfl)) (ag (aE (cY (ag (dv 3) (ag (dv 3) (ag (dv 3) (ag (dv 3) (ag (dv 3) (ag ak (ag ak (ag (dv 3) aj))))))))) (dv 5) (fun _ _=>rfl)) (ag (aE (cY (ag (dv 4) (ag (dv 4) (ag ak (ag (dv 4) (ag ak (ag (dv 4) (ag ak (ag (dv 4) aj))))))))) (dv 5) (fun _ _=>rfl)) aj)))))))))),fun ds U Qd h=>wC h⟩)
theorem ML:aJ ["x","y"] ["x","y"] (az xr):=cH
theorem aW(T:TX e)(kX:tU e):Cn e:=by
 have S:=ML
 exact T.uc.f.okD S (fun ds U Q h=>wI h) (fun cdv A outer s H E hr=>⟨Bi,(aw (aI (ao kX hr T.yg (ag (dz (bA (aE (dv 0) ak (fun _ _=>rfl)) (aE (dv 1) ak (fun _ _=>rfl))) (bA (aE (dv 1) ak (fun _ _=>rfl)) (aE (dv 0) ak (fun _ _=>rfl)))) (ag (dz (bA (aE (dv 0) ak (fun _ _=>rfl)) (aE (dv 1) ak (fun _ _=>rfl))) (bA (aE (dv 1) ak (fun _ _=>rfl)) (aE (dv 0) ak (fun _ _=>rfl)))) (ag (bA (aE (dv 0) ak (fun _ _=>rfl)) (aE (dv 1) ak (fun _ _=>rfl))) aj)))))),fun ds U Qd h=>G7 h⟩)
theorem KJ:aJ ["d","x","y"] ["d","x","y"] (az qV):=cH
theorem aM(T:TX e)(kX:tU e):EB e:=by
 have S:=KJ
 exact T.lM.f.okD S (fun ds U Q h=>uI h) (fun cdv A outer s H E hr=>⟨wG,(aw (aI (ao kX hr T.yg (ag (dz (bA (aE (dv 1) ak (fun _ _=>rfl)) (aE (dv 2) ak (fun _ _=>rfl))) (bA (bA (dv 0) (aE (dv 1) ak (fun _ _=>rfl))) (aE (dv 2) ak (fun _ _=>rfl)))) (ag (dz (bA (aE (dv 1) ak (fun _ _=>rfl)) (aE (dv 2) ak (fun _ _=>rfl))) (bA (aE (dv 1) ak (fun _ _=>rfl)) (aE (dv 2) ak (fun _ _=>rfl)))) (ag (bA (aE (dv 1) ak (fun _ _=>rfl)) (aE (dv 2) ak (fun _ _=>rfl))) aj)))))),fun ds U Qd h=>D8 h⟩)
theorem p4:aJ ["d","thing"] ["d","thing"] (az cW):=cH
theorem p6(T:TX e)(ej:lF e)(gM:qi e):fJ e:=by
 have S:=p4
 exact T.cS.f.okD S (fun ds U Q h=>B7 h) (fun cdv A outer s H E hr=>⟨fI,(aw (aI (kr (ao ej hr T.jY (ag (dv 1) aj)) (lT (eU (du hr.units) bT (ao gM hr T.oN (ag (dv 0) (ag (dv 1) aj))) ak (aU _)))))),fun ds U Qd h=>pX h⟩)
theorem vw:aJ ["d","found","marks","x","place"] ["d","found"] (az eI):=cH
theorem vo(T:TX e)(km:nE e):mK e:=by
 have S:=vw
 exact KR (T.jx.f.okD S (fun ds U Q h=>BG h) (fun cdv A outer s H E hr=>⟨iH,(aq (bG (i:=2) S.nd (vM aj))
  (aq (lG PassesOwn.never rfl (oZ (dv 1)) (bE (i:=3) S.nd) (aq (bG (i:=4) S.nd (ao km hr T.pE (ag (dv 0) (ag (dv 2) (ag (dv 3) aj)))))
  (aw (bZ (DW.dt (ir (bj (du hr.units) bT (dv 4) (dX rfl T.fq (ag (dv 2) aj)) (aU _)) (jr (bj (ka hr.units) bT (aE (dv 2) (dv 4) (fun _ _=>rfl)) (dv 3) (aU _))))) (aw (oK (HP (dv 2) (dv 4) (dv 3)))) bc))))
  (aw (aI (dv 2))))),fun ds U Qd h=>vB h⟩)) (fun ds U Qd h=>tG h)
theorem yU:aJ ["_law_bag_here","_law_d","_law_x","_law_sign_here"] ["_law_bag_here","_law_d"] (az gC):=cH
theorem yM(T:TX e)(dQ:jc e)(fN:l7 e)(aC:b9 e)(bJ:ik e):pA e:=by
 have S:=yU
 exact T.lU.f.okD S (fun ds U Q h=>A7 h) (fun cdv A outer s H E hr=>⟨kh,(aq (bG (i:=2) S.nd (ao dQ hr T.j9 (ag (dv 0) aj)))
  (aq (bG (i:=3) S.nd (ao fN hr T.nk (ag (dv 1) (ag (dv 2) aj))))
  (aq (bZ (bj (du hr.units) bT (dv 3) ak (aU _)) (aw (aI (aH (ag (dz ak (ao aC hr T.aT (ag (dv 0) (ag ak aj)))) (ag ak (ag ak aj)))))) bc)
  (aw (aI (DU (bj pQ gu (dv 3) ak (aU _)) (dv 2) (ao bJ hr T.cm (ag (dv 2) aj)))))))),fun ds U Qd h=>yZ h⟩)
theorem yP:aJ ["_law_d","_law_weights","_law_width","_law_height","_law_p","_law_q","_law_s","_law_t","_law_first","_law_second"] ["_law_d","_law_weights","_law_width","_law_height"] (az gG):=cH
theorem yQ(T:TX e)(aL:eP e)(aY:ig e)(ix:qN e):pO e:=by
 have S:=yP
 exact T.lz.f.okD S (fun ds U Q h=>pN h) (fun cdv A outer s H E hr=>⟨pG,(aq (en (dv 1) (cP (n:=4) rfl (aB (bE (i:=4) S.nd) (aB (bE (i:=5) S.nd) (aB (bE (i:=6) S.nd) (aB (bE (i:=7) S.nd) bY))))))
  (aq (bG (i:=8) S.nd (ao aL hr T.aZ (ag (ao aY hr T.bC (ag (dv 0) (ag (dv 4) (ag (dv 3) aj)))) (ag (ao aY hr T.bC (ag (dv 0) (ag (dv 5) (ag (ao ix hr T.j6 (ag (dv 3) aj)) aj)))) aj))))
  (aq (bG (i:=9) S.nd (ao aL hr T.aZ (ag (ao aY hr T.bC (ag (dv 0) (ag (dv 6) (ag (dv 3) aj)))) (ag (ao aY hr T.bC (ag (dv 0) (ag (dv 7) (ag (ao ix hr T.j6 (ag (dv 3) aj)) aj)))) aj))))
  (aw (aI (ao aL hr T.aZ (ag (ao aY hr T.bC (ag (dv 0) (ag (dv 2) (ag (dv 8) aj)))) (ag (ao aY hr T.bC (ag (dv 0) (ag (ao ix hr T.j6 (ag (dv 2) aj)) (ag (dv 9) aj)))) aj)))))))),fun ds U Qd h=>yE h⟩)
theorem vp:aJ ["_law_bag_here","_law_d","_law_z"] ["_law_bag_here","_law_d"] (az eE):=cH
theorem ve(T:TX e)(bS:fR e)(aC:b9 e)(fN:l7 e)(bJ:ik e)(iG:kW e)(aL:eP e):mB e:=by
 have S:=vp
 exact T.eD.f.okD S (fun ds U Q h=>Fj h) (fun cdv A outer s H E hr=>⟨iN,(aq (bG (i:=2) S.nd (ao bS hr T.g8 (ag (dz ak (ao aC hr T.aT (ag (dv 0) (ag ak aj)))) (ag (aE (cY (ag ak (ag (eV (ao aC hr T.aT (ag (dv 0) (ag ak aj))) ak) aj))) (ao aC hr T.aT (ag (dv 0) (ag ak aj))) (fun _ _=>rfl)) (ag (dz ak (ao aC hr T.aT (ag (dv 0) (ag ak aj)))) aj)))))
  (aq (bZ (bj mh gu (ao fN hr T.nk (ag (dv 1) (ag (dv 2) aj))) ak (aU _)) (aw (bG (i:=2) S.nd (ao bJ hr T.cm (ag (dv 2) aj)))) bc)
  (aw (aI (ao iG hr T.mL (ag (dv 1) (ag (ao aL hr T.aZ (ag (aH (ag ak (ag ak (ag ak aj)))) (ag (dv 2) aj))) aj))))))),fun ds U Qd h=>vd h⟩)
theorem yk:aJ ["_law_bag_here","_law_d","_law_laying_here","_law_width","_law_height","_law_tiles","_law_at","_law_x","_law_y","_law_w","_law_h","_law_more","_law_wide","_law_some","_law_way"] ["_law_bag_here","_law_d","_law_laying_here"] (az fz):=cH
theorem yh(T:TX e)(aC:b9 e)(aL:eP e)(ql:uV e)(aY:ig e):mV e:=by
 have S:=yk
 exact T.pD.f.okD S (fun ds U Q h=>A6 h) (fun cdv A outer s H E hr=>⟨jH,(aq (en (dv 2) (cP (n:=3) rfl (aB (bE (i:=3) S.nd) (aB (bE (i:=4) S.nd) (aB (bE (i:=5) S.nd) bY)))))
  (aq (bG (i:=6) S.nd (ao aC hr T.aT (ag (dv 0) (ag (dX rfl T.fq (ag (dv 5) aj)) aj))))
  (aq (en (aE (dv 5) (dv 6) (fun _ _=>rfl)) (cP (n:=4) rfl (aB (bE (i:=7) S.nd) (aB (bE (i:=8) S.nd) (aB (bE (i:=9) S.nd) (aB (bE (i:=10) S.nd) bY))))))
  (aq (bG (i:=11) S.nd (ao aL hr T.aZ (ag (dv 9) (ag (aH (ag ak (ag ak (ag (cM ak (ao aC hr T.aT (ag (dv 0) (ag ak aj)))) aj)))) aj))))
  (aq (bG (i:=12) S.nd (ao aL hr T.aZ (ag (dv 3) (ag (aH (ag ak (ag ak (ag (cM ak (ao aC hr T.aT (ag (dv 0) (ag ak aj)))) aj)))) aj))))
  (aq (bG (i:=13) S.nd (cY (ag (cM (dJ (dv 5) fA (fD (dv 6))) (dJ (dv 5) (fD (cM (dv 6) ak)) fA)) (ag (cM (dJ (dv 5) fA (fD (cM (dv 6) ak))) (dJ (dv 5) (fD (dv 6)) fA)) (ag (cM (cM (dJ (dv 5) fA (fD (dv 6))) (aH (ag (aH (ag (dv 7) (ag (dv 8) (ag (dv 11) (ag (dv 10) aj))))) aj))) (dJ (dv 5) (fD (cM (dv 6) ak)) fA)) (ag (cM (cM (dJ (dv 5) fA (fD (dv 6))) (aH (ag (aH (ag (ao aL hr T.aZ (ag (dv 7) (ag (aH (ag ak (ag ak (ag ak aj)))) aj))) (ag (dv 8) (ag (dv 9) (ag (dv 10) aj))))) aj))) (dJ (dv 5) (fD (cM (dv 6) ak)) fA)) (ag (Nb rfl T.Jf (ag (dv 5) aj)) (ag (aH aj) (ag (cM (cM (dJ (dv 5) fA (fD (dv 6))) (aH (ag (aH (ag (dv 7) (ag (dv 8) (ag (dv 9) (ag (aH (ag ak (ag ak (ag ak aj)))) aj))))) aj))) (dJ (dv 5) (fD (cM (dv 6) ak)) fA)) (ag (cM (cM (dJ (dv 5) fA (fD (dv 6))) (aH (ag (ao ql hr T.xa (ag (dv 0) aj)) aj))) (dJ (dv 5) (fD (cM (dv 6) ak)) fA)) aj))))))))))
  (aq (bG (i:=14) S.nd (ao aC hr T.aT (ag (dv 0) (ag ak aj))))
  (aq (bZ (bj mh gu (dv 14) ak (aU _)) (aw (aI (aH (ag (dv 3) (ag (dv 4) (ag (aE (dv 13) (dv 14) (fun _ _=>rfl)) aj)))))) bc)
  (aw (aI (aE (cY (ag (aH (ag (dv 12) (ag (dv 4) (ag (dv 5) aj)))) (ag (aH (ag (dv 3) (ag (ao aY hr T.bC (ag (dv 1) (ag (dv 4) (ag (aH (ag ak (ag ak (ag ak aj)))) aj)))) (ag (dv 5) aj)))) aj))) (eV (dv 14) ak) (fun _ _=>rfl)))))))))))),fun ds U Qd h=>xC h⟩)
theorem FA:aJ ["d","thing","x","y","width","height"] ["d","thing"] (az kN):=cH
theorem E5(T:TX e)(ej:lF e)(gM:qi e)(bM:fJ e):xo e:=by
 have S:=FA
 exact T.zS.f.okD S (fun ds U Q h=>Fo h) (fun cdv A outer s H E hr=>⟨qc,(aq (bZ (DW.dt (ir (da (cC (jq (kit_tuple _) rfl T.aO rfl T.jS PyProof.Rows.Boot.«tuple» (dv 1)))) (jr (bj (ka hr.units) bT (dX rfl T.fq (ag (dv 1) aj)) ak (aU _))))) (aw (aI gi)) bc)
  (aq (en (dv 1) (cP (n:=4) rfl (aB (bE (i:=2) S.nd) (aB (bE (i:=3) S.nd) (aB (bE (i:=4) S.nd) (aB (bE (i:=5) S.nd) bY))))))
  (aq (bZ (DW.dt (ir (da (cC (ao ej hr T.jY (ag (dv 2) aj)))) (ir (da (cC (ao ej hr T.jY (ag (dv 3) aj)))) (ir (bj mh gu (ao gM hr T.oN (ag (dv 0) (ag (dv 2) aj))) ak (aU _)) (jr (bj mh gu (ao gM hr T.oN (ag (dv 0) (ag (dv 3) aj))) ak (aU _))))))) (aw (aI gi)) bc)
  (aw (aI (kr (ao bM hr T.cS (ag (dv 0) (ag (dv 4) aj))) (lT (ao bM hr T.cS (ag (dv 0) (ag (dv 5) aj)))))))))),fun ds U Qd h=>FF h⟩)
theorem BM:aJ ["tile","x","y","width","height"] ["tile"] (az iA):=cH
theorem AY(T:TX e)(lZ:Cn e):q5 e:=by
 have S:=BM
 exact T.uA.f.okD S (fun ds U Q h=>yG h) (fun cdv A outer s H E hr=>⟨lK,(aq (en (dv 0) (cP (n:=4) rfl (aB (bE (i:=1) S.nd) (aB (bE (i:=2) S.nd) (aB (bE (i:=3) S.nd) (aB (bE (i:=4) S.nd) bY))))))
  (aw (aI (aH (ag (dv 1) (ag (ao lZ hr T.uc (ag (dv 1) (ag (dv 3) aj))) (ag (dv 2) (ag (ao lZ hr T.uc (ag (dv 2) (ag (dv 4) aj))) aj)))))))),fun ds U Qd h=>B8 h⟩)
theorem Fv:aJ ["d","weights","width","height","p","q","s","t","by_width","by_its_mate"] ["d","weights","width","height"] (az lh):=cH
theorem EG(T:TX e)(lZ:Cn e)(j5:EB e)(wV:GL e):wU e:=by
 have S:=Fv
 exact T.sY.f.okD S (fun ds U Q h=>pN h) (fun cdv A outer s H E hr=>⟨qj,(aq (en (dv 1) (cP (n:=4) rfl (aB (bE (i:=4) S.nd) (aB (bE (i:=5) S.nd) (aB (bE (i:=6) S.nd) (aB (bE (i:=7) S.nd) bY))))))
  (aq (bG (i:=8) S.nd (ao lZ hr T.uc (ag (ao j5 hr T.lM (ag (dv 0) (ag (dv 4) (ag (dv 3) aj)))) (ag (ao j5 hr T.lM (ag (dv 0) (ag (dv 5) (ag (ao wV hr T.AJ (ag (dv 3) aj)) aj)))) aj))))
  (aq (bG (i:=9) S.nd (ao lZ hr T.uc (ag (ao j5 hr T.lM (ag (dv 0) (ag (dv 6) (ag (dv 3) aj)))) (ag (ao j5 hr T.lM (ag (dv 0) (ag (dv 7) (ag (ao wV hr T.AJ (ag (dv 3) aj)) aj)))) aj))))
  (aw (aI (ao lZ hr T.uc (ag (ao j5 hr T.lM (ag (dv 0) (ag (dv 2) (ag (dv 8) aj)))) (ag (ao j5 hr T.lM (ag (dv 0) (ag (ao wV hr T.AJ (ag (dv 2) aj)) (ag (dv 9) aj)))) aj)))))))),fun ds U Qd h=>xg h⟩)
theorem D5:aJ ["_law_bag_here","_law_d","_law_tile","_law_x","_law_y","_law_w","_law_h","_law_way","_law_u","_law_v","_law_wide","_law_high","_law_found","_law_row","_law_up","_law_w2","_law_h2","_law_w1","_law_h1","_law_right","_law_x2","_law_y2","_law_x1","_law_y1","_law_middle"] ["_law_bag_here","_law_d","_law_tile"] (az jj):=cH
theorem Eo(T:TX e)(aC:b9 e)(aY:ig e)(aL:eP e)(dy:mB e)(bJ:ik e):uu e:=by
 have S:=D5
 exact MX (T.w8.f.okD S (fun ds U Q h=>Ft h) (fun cdv A outer s H E hr=>⟨mZ,(aq (en (dv 2) (cP (n:=4) rfl (aB (oO (i:=3) S.nd rfl (Or.inr rfl)) (aB (bE (i:=4) S.nd) (aB (bE (i:=5) S.nd) (aB (bE (i:=6) S.nd) bY))))))
  (aq (bG (i:=7) S.nd (ao aC hr T.aT (ag (dv 0) (ag ak aj))))
  (aq (bZ (bj (du hr.units) bT (dv 7) ak (aU _)) (aq (ju (i:=8) (j:=9) rfl S.nd rfl rfl ⋯ rfl rfl (ag (dz ak (ao aC hr T.aT (ag (dv 0) (ag ak aj)))) (ag (dz ak (ao aC hr T.aT (ag (dv 0) (ag ak aj)))) aj)) rfl)
  (aq (en (aH (ag (ao aY hr T.bC (ag (dv 1) (ag (dv 5) (ag (aH (ag ak (ag ak (ag (dv 8) aj)))) aj)))) (ag (ao aY hr T.bC (ag (dv 1) (ag (dv 6) (ag (aH (ag ak (ag ak (ag (dv 9) aj)))) aj)))) aj))) (cP (n:=2) rfl (aB (oO (i:=10) S.nd rfl (Or.inr rfl)) (aB (oO (i:=11) S.nd rfl (Or.inr rfl)) bY))))
  (aq (bG (i:=12) S.nd (vM aj))
  (aq (lG PassesOwn.never rfl (lQ rfl T.ij (ag (dv 9) aj)) (bE (i:=13) S.nd) (aq (qv (i:=14) S.nd rfl (Or.inr rfl) (ao aL hr T.aZ (ag (dv 4) (ag (ao aY hr T.bC (ag (dv 1) (ag (dv 11) (ag (aH (ag (dv 13) (ag ak (ag ak aj)))) aj)))) aj))))
  (aw (oK (zQ (dv 12) (KC (N':=["_law_one","_law_up","_law_wide","_law_high","_law_x","_law_d"]) (cap:=[none,some 14,some 10,some 11,some 3,some 1]) rfl (lQ rfl T.ij (ag (dv 8) aj)) (fun _ _ _=>(cJ 0)) (fun _ _ _=>fk) (fun _ _ _=>(aH (ag (ao aL hr T.aZ (ag (dv 4) (ag (ao aY hr T.bC (ag (dv 5) (ag (dv 2) (ag (aH (ag (dv 0) (ag ak (ag ak aj)))) aj)))) aj))) (ag (dv 1) (ag (dv 2) (ag (dv 3) aj))))))))))))
  (aw (aI (dv 12))))))) bc)
  (aq (ju (i:=15) (j:=16) rfl S.nd rfl rfl ⋯ rfl rfl (ag (ao aY hr T.bC (ag (dv 1) (ag (dv 5) (ag (ao dy hr T.eD (ag (dv 0) (ag (dv 1) aj))) aj)))) (ag (ao aY hr T.bC (ag (dv 1) (ag (dv 6) (ag (ao dy hr T.eD (ag (dv 0) (ag (dv 1) aj))) aj)))) aj)) rfl)
  (aq (ju (i:=17) (j:=18) rfl S.nd rfl rfl ⋯ rfl rfl (ag (ao aY hr T.bC (ag (dv 1) (ag (dv 15) (ag (ao dy hr T.eD (ag (dv 0) (ag (dv 1) aj))) aj)))) (ag (ao aY hr T.bC (ag (dv 1) (ag (dv 16) (ag (ao dy hr T.eD (ag (dv 0) (ag (dv 1) aj))) aj)))) aj)) rfl)
  (aq (en (aH (ag (ao aL hr T.aZ (ag (dv 5) (ag (ao bJ hr T.cm (ag (dv 15) aj)) aj))) (ag (ao aL hr T.aZ (ag (dv 6) (ag (ao bJ hr T.cm (ag (dv 16) aj)) aj))) aj))) (cP (n:=2) rfl (aB (bE (i:=19) S.nd) (aB (oO (i:=14) S.nd rfl (Or.inr rfl)) bY))))
  (aq (ju (i:=20) (j:=21) rfl S.nd rfl rfl ⋯ rfl rfl (ag (ao aL hr T.aZ (ag (dv 3) (ag (dv 15) aj))) (ag (ao aL hr T.aZ (ag (dv 4) (ag (dv 16) aj))) aj)) rfl)
  (aq (bZ (bj (du hr.units) bT (dv 7) ak (aU _)) (aw (aI (cY (ag (aH (ag (dv 3) (ag (dv 4) (ag (dv 15) (ag (dv 6) aj))))) (ag (aH (ag (dv 20) (ag (dv 4) (ag (dv 19) (ag (dv 6) aj))))) aj))))) bc)
  (aq (bZ (bj (du hr.units) bT (dv 7) ak (aU _)) (aw (aI (cY (ag (aH (ag (dv 3) (ag (dv 4) (ag (dv 5) (ag (dv 16) aj))))) (ag (aH (ag (dv 3) (ag (dv 21) (ag (dv 5) (ag (dv 14) aj))))) aj))))) bc)
  (aq (bZ (bj (du hr.units) bT (dv 7) ak (aU _)) (aw (aI (cY (ag (aH (ag (dv 3) (ag (dv 4) (ag (dv 15) (ag (dv 16) aj))))) (ag (aH (ag (dv 20) (ag (dv 4) (ag (dv 19) (ag (dv 16) aj))))) (ag (aH (ag (dv 3) (ag (dv 21) (ag (dv 15) (ag (dv 14) aj))))) (ag (aH (ag (dv 20) (ag (dv 21) (ag (dv 19) (ag (dv 14) aj))))) aj))))))) bc)
  (aq (ju (i:=22) (j:=23) rfl S.nd rfl rfl ⋯ rfl rfl (ag (ao aL hr T.aZ (ag (dv 3) (ag (dv 17) aj))) (ag (ao aL hr T.aZ (ag (dv 4) (ag (dv 18) aj))) aj)) rfl)
  (aq (bG (i:=24) S.nd (aH (ag (dv 22) (ag (dv 23) (ag (ao aL hr T.aZ (ag (dv 15) (ag (ao bJ hr T.cm (ag (dv 17) aj)) aj))) (ag (ao aL hr T.aZ (ag (dv 16) (ag (ao bJ hr T.cm (ag (dv 18) aj)) aj))) aj))))))
  (aw (aI (cY (ag (aH (ag (dv 3) (ag (dv 4) (ag (dv 15) (ag (dv 18) aj))))) (ag (aH (ag (dv 20) (ag (dv 4) (ag (dv 19) (ag (dv 16) aj))))) (ag (aH (ag (dv 22) (ag (dv 21) (ag (ao aL hr T.aZ (ag (dv 5) (ag (ao bJ hr T.cm (ag (dv 17) aj)) aj))) (ag (dv 14) aj))))) (ag (aH (ag (dv 3) (ag (dv 23) (ag (dv 17) (ag (ao aL hr T.aZ (ag (dv 6) (ag (ao bJ hr T.cm (ag (dv 18) aj)) aj))) aj))))) (ag (dv 24) aj)))))))))))))))))))),fun ds U Qd h=>DR h⟩)) (fun ds U Qd h=>BK h)
theorem CZ:aJ ["d","thing","width","height","tiles"] ["d","thing"] (az je):=cH
theorem CB(T:TX e)(bM:fJ e)(uj:xo e):u6 e:=by
 have S:=CZ
 exact T.xj.f.okD S (fun ds U Q h=>Ej h) (fun cdv A outer s H E hr=>⟨n5,(aq (bZ (DW.dt (ir (da (cC (jq (kit_tuple _) rfl T.aO rfl T.jS PyProof.Rows.Boot.«tuple» (dv 1)))) (jr (bj (ka hr.units) bT (dX rfl T.fq (ag (dv 1) aj)) ak (aU _))))) (aw (aI gi)) bc)
  (aq (en (dv 1) (cP (n:=3) rfl (aB (bE (i:=2) S.nd) (aB (bE (i:=3) S.nd) (aB (bE (i:=4) S.nd) bY)))))
  (aq (bZ (DW.dt (ir (da (cC (ao bM hr T.cS (ag (dv 0) (ag (dv 2) aj))))) (jr (da (cC (ao bM hr T.cS (ag (dv 0) (ag (dv 3) aj)))))))) (aw (aI gi)) bc)
  (aq (bZ (DW.dt (ir (da (cC (jq (kit_tuple _) rfl T.aO rfl T.jS PyProof.Rows.Boot.«tuple» (dv 4)))) (ir (bj mh gu (dX rfl T.fq (ag (dv 4) aj)) ak (aU _)) (jr (bj pQ gu (dX rfl T.fq (ag (dv 4) aj)) (FN (u:=.int 60) rfl T.BL ⟨_,rfl⟩ (fun _ _ _=>Rp.int 60)) (aU _)))))) (aw (aI gi)) bc)
  (aw (aI (J0 rfl rfl T.Of (ag (KC (N':=["tile","d"]) (cap:=[none,some 0]) rfl (pZ (dv 4)) (fun _ _ _=>(cJ 0)) (fun _ _ _=>fk) (fun _ _ _=>(ao uj hr T.zS (ag (dv 1) (ag (dv 0) aj))))) aj)))))))),fun ds U Qd h=>DX h⟩)
theorem ya:aJ ["_law_bag_here","_law_d","_law_width","_law_height","_law_tiles","_law_turn"] ["_law_bag_here","_law_d"] (az fw):=cH
theorem wX(T:TX e)(iT:pA e)(aC:b9 e)(qm:uu e):nu e:=by
 have S:=ya
 exact T.pP.f.okD S (fun ds U Q h=>D6 h) (fun cdv A outer s H E hr=>⟨gX,(aq (ju (i:=2) (j:=3) rfl S.nd rfl rfl ⋯ rfl rfl (ag (ao iT hr T.lU (ag (dv 0) (ag (dv 1) aj))) (ag (ao iT hr T.lU (ag (dv 0) (ag (dv 1) aj))) aj)) rfl)
  (aq (qv (i:=4) S.nd rfl (Or.inr rfl) (vM (ag (aH (ag (aH (ag ak (ag ak (ag ak aj)))) (ag (aH (ag ak (ag ak (ag ak aj)))) (ag (dv 2) (ag (dv 3) aj))))) aj)))
  (aq (lG PassesOwn.never rfl (lQ rfl T.ij (ag (ao aC hr T.aT (ag (dv 0) (ag ak aj))) aj)) (bE (i:=5) S.nd) (aw (bZ (bj mh gu (dX rfl T.fq (ag (dv 4) aj)) ak (aU _)) (aw (oK (zQ (dv 4) (ao qm hr T.w8 (ag (dv 0) (ag (dv 1) (ag (CM (dv 4) (ao aC hr T.aT (ag (dv 0) (ag (dX rfl T.fq (ag (dv 4) aj)) aj)))) aj))))))) bc)))
  (aw (aI (aH (ag (dv 2) (ag (dv 3) (ag (Dv rfl T.jS (ag (JA (N':=["_law_k","_law_tiles","_law_bag_here"]) (cap:=[none,some 4,some 0]) rfl (lQ rfl T.ij (ag (dX rfl T.fq (ag (dv 4) aj)) aj)) (fun _ _ _=>(cJ 0)) (fun _ _ _=>fk) (fun _ _ _=>(CM (dv 1) (ao aC hr T.aT (ag (dv 2) (ag (dX rfl T.fq (ag (dv 1) aj)) aj)))))) aj)) aj))))))))),fun ds U Qd h=>tI h⟩)
theorem BB:aJ ["d","thing","width","height","tiles","bounds","across","upward"] ["d","thing"] (az ip):=cH
theorem Ax(T:TX e)(qd:u6 e)(nA:q5 e)(fY:mK e)(gz:mJ e)(ku:oo e):lH e:=by
 have S:=BB
 exact T.mW.f.okD S (fun ds U Q h=>Br h) (fun cdv A outer s H E hr=>⟨lL,(aq (bZ (da (cC (ao qd hr T.xj (ag (dv 0) (ag (dv 1) aj))))) (aw (aI gi)) bc)
  (aq (en (dv 1) (cP (n:=3) rfl (aB (bE (i:=2) S.nd) (aB (bE (i:=3) S.nd) (aB (bE (i:=4) S.nd) bY)))))
  (aq (FT (i:=5) (N':=["tile"]) (cap:=[none]) S.nd rfl rfl rfl (pZ (dv 4)) (fun _ _ _=>(cJ 0)) (fun _ _ _=>fk) (fun _ _ _=>(ao nA hr T.uA (ag (dv 0) aj))))
  (aq (bG (i:=6) S.nd (ao fY hr T.jx (ag (dv 0) (ag (NS (N':=["left","right","bottom","top","x"]) (cap:=[none,none,none,none,none]) rfl (oZ (dv 5)) (fun _ _ _=>(cP (n:=4) rfl (aB (cJ 0) (aB (cJ 1) (aB (cJ 2) (aB (cJ 3) bY)))))) (fun _ _ _=>(pZ (aH (ag (dv 0) (ag (dv 1) aj))))) (fun _ _ _=>(cJ 4)) (fun _ _ _=>(dv 4))) aj))))
  (aq (bG (i:=7) S.nd (ao fY hr T.jx (ag (dv 0) (ag (NS (N':=["left","right","bottom","top","y"]) (cap:=[none,none,none,none,none]) rfl (oZ (dv 5)) (fun _ _ _=>(cP (n:=4) rfl (aB (cJ 0) (aB (cJ 1) (aB (cJ 2) (aB (cJ 3) bY)))))) (fun _ _ _=>(pZ (aH (ag (dv 2) (ag (dv 3) aj))))) (fun _ _ _=>(cJ 4)) (fun _ _ _=>(dv 4))) aj))))
  (aw (aI (kr (ao gz hr T.jF (ag (dv 6) (ag (dv 2) aj))) (kr (ao gz hr T.jF (ag (dv 7) (ag (dv 3) aj))) (lT (ao ku hr T.pq (ag (dv 5) (ag (dv 6) (ag (dv 7) aj)))))))))))))),fun ds U Qd h=>Cp h⟩)
theorem j7:aJ ["d","thing"] ["d","thing"] (az dm):=cH
theorem iX(T:TX e)(fT:lH e):d0 e:=by
 have S:=j7
 exact T.cF.f.okX S (fun ds U Xk h=>vq h) (fun cdv A outer s H E hr=>⟨cA,(v7 (R9 (da (cC (ao fT hr T.mW (ag (dv 0) (ag (dv 1) aj))))) (v7 (Lf G1 rfl T.wK T.qo)) IS)),fun ds U Xk h=>iU h⟩)
theorem rC(T:TX e)(fT:lH e):j4 e:=by
 have S:=j7
 exact T.cF.f.okD S (fun ds U Q h=>yD h) (fun cdv A outer s H E hr=>⟨gD,(aw (bZ (da (cC (ao fT hr T.mW (ag (dv 0) (ag (dv 1) aj))))) (aw CC) bc)),fun ds U Qd h=>rY h⟩)
theorem mv:aJ ["d","weights","laying","floor_width","floor_height","tiles","of_tiles"] ["d","weights","laying"] (az eC):=cH
theorem jP(T:TX e)(cL:d0 e):eS e:=by
 have S:=mv
 exact T.cI.f.okX S (fun ds U Xk h=>AW h) (fun cdv A outer s H E hr=>⟨cQ,(v7 (Mr (Gv cL (hr.mono ⋯) rfl T.cF.m T.cF.k T.cF.b G1 (ag (dv 0) (ag (dv 2) aj))))),fun ds U Xk h=>jN h⟩)
theorem vk(T:TX e)(ic:j4 e)(oR:wU e):iL e:=by
 have S:=mv
 exact MR (T.cI.f.okD S (fun ds U Q h=>C1 h) (fun cdv A outer s H E hr=>⟨iF,(aq (oK (ao ic hr T.cF (ag (dv 0) (ag (dv 2) aj))))
  (aq (en (dv 2) (cP (n:=3) rfl (aB (bE (i:=3) S.nd) (aB (bE (i:=4) S.nd) (aB (bE (i:=5) S.nd) bY)))))
  (aq (R7 (i:=6) (N':=["x","y","width","height","d","weights"]) (cap:=[none,none,none,none,some 0,some 1]) S.nd rfl rfl rfl (pZ (dv 5)) (fun _ _ _=>(cP (n:=4) rfl (aB (cJ 0) (aB (cJ 1) (aB (cJ 2) (aB (cJ 3) bY)))))) (fun _ _ _=>fk) (fun _ _ _=>(ao oR hr T.sY (ag (dv 4) (ag (dv 5) (ag (dv 2) (ag (dv 3) aj)))))))
  (aw (aI (Nz (ag (ao oR hr T.sY (ag (dv 0) (ag (dv 1) (ag (dv 3) (ag (dv 4) aj))))) (ag (dv 6) aj)))))))),fun ds U Qd h=>vh h⟩)) (fun ds U Qd h=>uh h)
theorem vj:aJ ["_law_d","_law_weights","_law_laying_here","_law_told","_law_whole","_law_parts","_law_due","_law_come","_law_part"] ["_law_d","_law_weights","_law_laying_here"] (az eJ):=cH
theorem vA(T:TX e)(dg:iL e)(iV:pO e)(gW:jQ e)(aL:eP e):mi e:=by
 have S:=vj
 exact T.jh.f.okD S (fun ds U Q h=>AQ h) (fun cdv A outer s H E hr=>⟨iJ,(aq (bG (i:=3) S.nd (ao dg hr T.cI (ag (dv 0) (ag (dv 1) (ag (dv 2) aj)))))
  (aq (bZ (DW.dt (ir (da (cC (jq (kit_tuple _) rfl T.aO rfl T.jS PyProof.Rows.Boot.«tuple» (dv 3)))) (ir (bj (ka hr.units) bT (dX rfl T.fq (ag (dv 3) aj)) ak (aU _)) (jr (da (cC (jq (Ka _) rfl T.aO rfl T.Jf PyProof.Rows.Boot.«list» (aE (dv 3) ak (fun _ _=>rfl))))))))) (aw (aI gi)) bc)
  (aq (en (dv 3) (cP (n:=2) rfl (aB (bE (i:=4) S.nd) (aB (bE (i:=5) S.nd) bY))))
  (aq (FT (i:=6) (N':=["_law_x","_law_y","_law_w","_law_h","_law_d","_law_weights"]) (cap:=[none,none,none,none,some 0,some 1]) S.nd rfl rfl rfl (pZ (aE (dv 2) ak (fun _ _=>rfl))) (fun _ _ _=>(cP (n:=4) rfl (aB (cJ 0) (aB (cJ 1) (aB (cJ 2) (aB (cJ 3) bY)))))) (fun _ _ _=>fk) (fun _ _ _=>(ao iV hr T.lz (ag (dv 4) (ag (dv 5) (ag (dv 2) (ag (dv 3) aj)))))))
  (aq (bZ (DW.dt (ir (bj (ka hr.units) bT (dv 5) (dv 6) (aU _)) (jr (da (cC (ao gW hr T.kL (ag (dv 4) aj))))))) (aw (aI gi)) bc)
  (aq (bG (i:=7) S.nd (aH (ag ak (ag ak (ag ak aj)))))
  (aq (lG PassesOwn.never rfl (oZ (dv 5)) (bE (i:=8) S.nd) (aw (bG (i:=7) S.nd (ao aL hr T.aZ (ag (dv 7) (ag (dv 8) aj))))))
  (aw (aI (kr (eU (du hr.units) bT (dv 4) (dv 7) (aU _)) (lT (eU (du hr.units) bT (dv 4) (ao iV hr T.lz (ag (dv 0) (ag (dv 1) (ag (aE (dv 2) ak (fun _ _=>rfl)) (ag (aE (dv 2) ak (fun _ _=>rfl)) aj))))) (aU _))))))))))))),fun ds U Qd h=>vz h⟩)
theorem mw:aJ ["_law_deed","e","_law_some","_law_names"] ["_law_deed"] (az eK):=cH
theorem By(T:TX e):qP e:=by
 have S:=mw
 exact Qt (k:=9) T.gA.f mw rfl rfl rfl rfl T.Bb T.p5 ⋯ ⋯ ⋯ (fun _=>rfl) (fun cdv A outer s H ea oe hc hr=>(aq (bG (i:=2) S.nd (cY (ag (aH (ag dU (ag (ia (ea:=ea) (oe:=oe) T.bU (mem_cons_self) hc T.gr rfl T.aO rfl T.JZ (dv 1)) aj))) (ag (aH (ag dU (ag (ia (ea:=ea) (oe:=oe) T.bU (mem_cons_self) hc T.eX rfl T.aO rfl T.EJ (dv 1)) aj))) (ag (aH (ag dU (ag (ia (ea:=ea) (oe:=oe) T.bU (mem_cons_self) hc T.eY rfl T.aO rfl T.wK (dv 1)) aj))) (ag (aH (ag dU (ag (ia (ea:=ea) (oe:=oe) T.bU (mem_cons_self) hc T.gB rfl T.aO rfl T.Ky (dv 1)) aj))) (ag (aH (ag dU (ag (ia (ea:=ea) (oe:=oe) T.bU (mem_cons_self) hc T.g0 rfl T.aO rfl T.MZ (dv 1)) aj))) (ag (aH (ag dU (ag (ia (ea:=ea) (oe:=oe) T.bU (mem_cons_self) hc T.fH rfl T.aO rfl T.HM (dv 1)) aj))) (ag (aH (ag dU (ag (ia (ea:=ea) (oe:=oe) T.bU (mem_cons_self) hc T.gH rfl T.aO rfl T.Lp (dv 1)) aj))) (ag (aH (ag dU (ag (ia (ea:=ea) (oe:=oe) T.bU (mem_cons_self) hc T.gv rfl T.aO rfl T.JJ (dv 1)) aj))) (ag (aH (ag dU (ag (ia (ea:=ea) (oe:=oe) T.bU (mem_cons_self) hc T.g9 rfl T.aO rfl T.NG (dv 1)) aj))) (ag (aH (ag dU (ag (ia (ea:=ea) (oe:=oe) T.bU (mem_cons_self) hc T.fX rfl T.aO rfl T.Jw (dv 1)) aj))) (ag (aH (ag dU (ag (ia (ea:=ea) (oe:=oe) T.bU (mem_cons_self) hc T.eW rfl T.aO rfl T.ES (dv 1)) aj))) (ag (aH (ag dU (ag (ia (ea:=ea) (oe:=oe) T.bU (mem_cons_self) hc T.gI rfl T.aO rfl T.Jk (dv 1)) aj))) (ag (aH (ag dU (ag (ia (ea:=ea) (oe:=oe) T.bU (mem_cons_self) hc T.fF rfl T.aO rfl T.HL (dv 1)) aj))) aj)))))))))))))))
  (aq (FT (i:=3) (N':=["_law_name","_law_is_so"]) (cap:=[none,none]) S.nd rfl rfl rfl (oZ (dv 2)) (fun _ _ _=>(cP (n:=2) rfl (aB (cJ 0) (aB (cJ 1) bY)))) (fun _ _ _=>(Dx (cC (dv 1)))) (fun _ _ _=>(dv 0)))
  (aq (bZ (DW.dt (BF (bj (du hr.units) bT (dX rfl T.fq (ag (dv 3) aj)) ak (aU _)) (vI (cC (Nq (ea:=ea) (oe:=oe) (T:="ValueError") T.bU (mem_cons_self) hc T.lB rfl T.aO rfl T.AN PyProof.Rows.Boot.«ValueError» (dv 1)))))) (aw (aI (aE (dv 3) ak (fun _ _=>rfl)))) bc)
  (aw (aI dU)))))) (fun ea fa U Qd h=>ki h)
theorem Ql:aJ ["_law_script","_law_k","_law_bag_here","_law_d","_law_laying_here","_law_turn","_law_weights","_law_told","_law_spoilt_here"] ["_law_script"] (az qD):=cH
theorem PU(T:TX e)(qx:uH e)(nZ:qO e)(kb:nu e)(dQ:jc e)(dg:iL e)(aC:b9 e)(gb:mi e)(ky:mV e)(nh:qP e)(cX:eS e):Lc e:=by
 have S:=Ql
 exact T.RU.f.Tp S (fun ds U Q h=>Ig h) (fun cdv hcv A outer s H E hr=>⟨Fb,(aq (lG PassesOwn.never rfl (lQ rfl T.ij (ag (Qa rfl rfl T.Rg (ag ak (ag (OY rfl rfl T.Rm (ag ak (ag (FY rfl T.fq (ag (dv 0) aj)) aj))) aj))) aj)) (bE (i:=1) S.nd) (aq (qv (i:=2) S.nd rfl (Or.inr rfl) (ao qx hr T.yx (ag (dv 0) (ag (dv 1) aj))))
  (aq (qv (i:=3) S.nd rfl (Or.inr rfl) (ao nZ hr T.uT (ag (dv 2) aj)))
  (aq (bG (i:=4) S.nd (ao kb hr T.pP (ag (dv 2) (ag (dv 3) aj))))
  (aw (lG PassesOwn.never rfl (lQ rfl T.ij (ag ak aj)) (bE (i:=5) S.nd) (aq (qv (i:=6) S.nd rfl (Or.inr rfl) (Dv rfl T.jS (ag (JA (N':=["_law_one","_law_bag_here"]) (cap:=[none,some 2]) rfl (lQ rfl T.ij (ag ak aj)) (fun _ _ _=>(cJ 0)) (fun _ _ _=>fk) (fun _ _ _=>(ao dQ hr T.j9 (ag (dv 1) aj)))) aj)))
  (aq (bG (i:=7) S.nd (ao dg hr T.cI (ag (dv 3) (ag (dv 6) (ag (dv 4) aj)))))
  (aq (oK (HS (Fn (dv 7) ak (fun _ _=>rfl)) (aH (ag ak (ag ak (ag ak aj))))))
  (aq (en (aH (ag ak (ag ak (ag ak aj)))) (Fw (Fn (dv 7) ak (fun _ _=>rfl)) (ao aC hr T.aT (ag (dv 2) (ag (FY rfl T.fq (ag (Fn (dv 4) ak (fun _ _=>rfl)) aj)) aj)))))
  (aq (bZ (da (cC (ao gb hr T.jh (ag (dv 3) (ag (dv 6) (ag (dv 4) aj)))))) (aw (aI gi)) bc)
  (aq (qv (i:=8) S.nd rfl (Or.inr rfl) (ao ky hr T.pD (ag (dv 2) (ag (dv 3) (ag (dv 4) aj)))))
  (aq (bZ (bj (ka hr.units) OR (HY (N':=(["_law_d","_law_weights","_law_spoilt_here"]:List Str)) (cap:=[some 3,some 6,some 8]) nh (hr.mono ⋯) rfl T.gA.m T.gA.k T.gA.b T.RJ (hcv.symm.trans T.Pw) rfl ⋯ (fun A' outer' s' H' fa c1 E hrL=>(Gv cX (hrL.mono ⋯) rfl T.cI.m T.cI.k T.cI.b MI (ag (dv 0) (ag (dv 1) (ag (dv 2) aj))))) rfl rfl (fun _ _ _=>rfl) rfl rfl rfl nofun (by walk_at "cl") (JN rfl) rfl (GH ⟨Jy,⟨Jy,⟨Jy,trivial⟩⟩⟩)) dU (aU _)) (aw (aI gi)) bc)
  (aw (bZ (da (cC (ao gb hr T.jh (ag (dv 3) (ag (dv 6) (ag (dv 4) aj)))))) (aw (aI gi)) bc)))))))))))))))
  (aw (aI gi))),fun ds U Qd h=>PY h⟩)
theorem Oq(T:TX e):Lc e:=by
 have jk:=Eb T
 have eN:=rN T
 have wV:=gj T
 have cR:=ub T
 have gz:=vi T
 have ku:=xY T
 have qx:=DN T
 have aC:=AH T
 have iK:=tw T
 have cD:=xt T
 have bJ:=yO T
 have ix:=Ao T
 have fN:=A8 T
 have cG:=qW T eN
 have gM:=E9 T cR
 have qe:=CF T cR
 have bS:=D4 T cD
 have gW:=qH T iK cD
 have nZ:=Bt T aC
 have ql:=En T aC
 have ej:=BD T jk cG
 have kX:=IL T cG
 have km:=wJ T qe
 have aL:=Cm T bS
 have aY:=zd T bS
 have iG:=tM T bS
 have dQ:=v9 T aC bS
 have lZ:=aW T kX
 have j5:=aM T kX
 have bM:=p6 T ej gM
 have fY:=vo T km
 have iT:=yM T dQ fN aC bJ
 have iV:=yQ T aL aY ix
 have dy:=ve T bS aC fN bJ iG aL
 have ky:=yh T aC aL ql aY
 have uj:=E5 T ej gM bM
 have nA:=AY T lZ
 have oR:=EG T lZ j5 wV
 have qm:=Eo T aC aY aL dy bJ
 have qd:=CB T bM uj
 have kb:=wX T iT aC qm
 have fT:=Ax T qd nA fY gz ku
 have cL:=iX T fT
 have ic:=rC T fT
 have cX:=jP T cL
 have dg:=vk T ic oR
 have gb:=vA T dg iV gW aL
 have nh:=By T
 exact PU T qx nZ kb dQ dg aC gb ky nh cX
end
theorem ba{K:PySem.W.Frag}{h:Heap}{mg:Str->Option Value}{n m:Str}{st:Stmt}{f c:Addr}{t:Tok}{ps:List Str}(X:K.In h)(G:h.Ns mainGlobals mg)(a:FQ K n st f c t m)
  (b:∀(kV doc pm:Value) (an:Option Addr) (cdv ct:Value) (us:List Value),us.length=ps.length->bindArgs (fnOf n n (iR st) (d6 st) (az st) .none kV doc pm an cdv ct) ⟨us,[]⟩=pure (ps.zip us)):Cal K mg n ps st f (fd n st t m c):=
 have F:=PF (st:=st) a.2.1 a.2.2.1 a.2.2.2
 ⟨F,mg_of X G a.1,a.2.2.2,F.binds b⟩
theorem all_mk{l:PySem.W.OpenLaw}{w:World}{K:PySem.W.Frag}{h:Heap}{mg:Str->Option Value}{fa:Addr}(X:K.In h)(G:h.Ns mainGlobals mg)(hfa:mg "law"=some (.ref fa))
  {f0 c0 f1 c1 f2 c2 f3 c3 f4 c4 f5 c5 f6 c6 f7 c7 f8 c8 f9 c9 f10 c10 f11 c11 f12 c12 f13 c13 f14 c14 f15 c15 f16 c16 f17 c17 f18 c18 f19 c19 f20 c20 f21 c21 f22 c22 f23 c23 f24 c24 f25 c25 f26 c26 f27 c27 f28 c28 f29 c29 f30 c30 f31 c31 f32 c32 f33 c33 f34 c34 f35 c35 f36 c36 f37 c37 f38 c38 f39 c39 f40 c40 f41 c41 f42 c42 f43 c43 f44 c44 f45 c45 f46 c46:Addr} {t0 t1 t2 t3 t4 t5 t6 t7 t8 t9 t10 t11 t12 t13 t14 t15 t16 t17 t18 t19 t20 t21 t22 t23 t24 t25 t26 t27 t28 t29 t30 t31 t32 t33 t34 t35 t36 t37 t38 t39 t40 t41 t42 t43 t44 t45 t46:Tok} {m0 m1 m2 m3 m4 m5 m6 m7 m8 m9 m10 m11 m12 m13 m14 m15 m16 m17 m18 m19 m20 m21 m22 m23 m24 m25 m26 m27 m28 m29 m30 m31 m32 m33 m34 m35 m36 m37 m38 m39 m40 m41 m42 m43 m44 m45 m46:Str} {q0:Tok} {g1:Addr} {go1:Option Addr} {q1a q1b q1c:Tok} {gn1:Nat} {gs1:Array (Option Value)} {dR:Addr} {i7:Addr} {fK:Addr} {aA:Addr} {i9:Addr} {kR:Addr} {gU:Addr} {i4:Addr} {iZ:Addr} {kQ:Addr} {i8:Addr} {fU:Addr} {ja:Addr} {gQ:Addr} {bm:Addr} {bsl:Array (Option Value)} {tP C3:Addr}
  (a0:FQ K "is_whole" jJ f0 c0 t0 m0)
  (a1:FQ K "common_divisor" dh f1 c1 t1 m1)
  (a2:FQ K "is_number" iB f2 c2 t2 m2)
  (a3:FQ K "divisor_of_all" dw f3 c3 t3 m3)
  (a4:FQ K "number" nG f4 c4 t4 m4)
  (a5:FQ K "mate" x8 f5 c5 t5 m5)
  (a6:FQ K "plus" xr f6 c6 t6 m6)
  (a7:FQ K "times" qV f7 c7 t7 m7)
  (a8:FQ K "sign_of" kE f8 c8 t8 m8)
  (a9:FQ K "sign_of_parts" dH f9 c9 t9 m9)
  (a10:FQ K "is_above" jl f10 c10 t10 m10)
  (a11:FQ K "is_above_nought" cW f11 c11 t11 m11)
  (a12:FQ K "is_tile" kN f12 c12 t12 m12)
  (a13:FQ K "has_form" je f13 c13 t13 m13)
  (a14:FQ K "bounds_of" iA f14 c14 t14 m14)
  (a15:FQ K "place_among" fe f15 c15 t15 m15)
  (a16:FQ K "rising_marks" eI f16 c16 t16 m16)
  (a17:FQ K "reaches_just" d9 f17 c17 t17 m17)
  (a18:FQ K "covers_once" fv f18 c18 t18 m18)
  (a19:FQ K "is_laying" ip f19 c19 t19 m19)
  (a20:FQ K "must_be_laying" dm f20 c20 t20 m20)
  (a21:FQ K "weighed" lh f21 c21 t21 m21)
  (a22:FQ K "weighed_sums" eC f22 c22 t22 m22)
  (a23:FQ K "_law_bag" jC f23 c23 t23 m23)
  (a24:FQ K "_law_take" iw f24 c24 t24 m24)
  (a25:FQ K "_law_is_whole" dG f25 c25 t25 m25)
  (a26:FQ K "_law_shared" fh f26 c26 t26 m26)
  (a27:FQ K "_law_low" jt f27 c27 t27 m27)
  (a28:FQ K "_law_is_number" dj f28 c28 t28 m28)
  (a29:FQ K "_law_plus" iC f29 c29 t29 m29)
  (a30:FQ K "_law_minus" gh f30 c30 t30 m30)
  (a31:FQ K "_law_mate" iu f31 c31 t31 m31)
  (a32:FQ K "_law_times" gn f32 c32 t32 m32)
  (a33:FQ K "_law_contrary" dI f33 c33 t33 m33)
  (a34:FQ K "_law_sign" iz f34 c34 t34 m34)
  (a35:FQ K "_law_root" iD f35 c35 t35 m35)
  (a36:FQ K "_law_number" fo f36 c36 t36 m36)
  (a37:FQ K "_law_above" gC f37 c37 t37 m37)
  (a38:FQ K "_law_odd" jo f38 c38 t38 m38)
  (a39:FQ K "_law_refusal" eK f39 c39 t39 m39)
  (a40:FQ K "_law_weigh" gG f40 c40 t40 m40)
  (a41:FQ K "_law_between" eE f41 c41 t41 m41)
  (a42:FQ K "_law_cut" jj f42 c42 t42 m42)
  (a43:FQ K "_law_laying" fw f43 c43 t43 m43)
  (a44:FQ K "_law_is_told" eJ f44 c44 t44 m44)
  (a45:FQ K "_law_spoilt" fz f45 c45 t45 m45)
  (a46:FQ K "law" qD f46 c46 t46 m46)
  (z0:nsIn K mainGlobals "isinstance"=some none)
  (z1:nsIn K mainGlobals "int"=some none)
  (z2:nsIn K mainGlobals "bool"=some none)
  (z3:nsIn K mainGlobals "abs"=some none)
  (z4:nsIn K mainGlobals "tuple"=some none)
  (z5:nsIn K mainGlobals "len"=some none)
  (z6:nsIn K mainGlobals "all"=some none)
  (z7:nsIn K mainGlobals "set"=some none)
  (z8:nsIn K mainGlobals "range"=some none)
  (z9:nsIn K mainGlobals "enumerate"=some none)
  (z10:nsIn K mainGlobals "ValueError"=some none)
  (z11:nsIn K mainGlobals "list"=some none)
  (z12:nsIn K mainGlobals "max"=some none)
  (z13:nsIn K mainGlobals "min"=some none)
  (v0:nsIn K mainGlobals "MOST_TILES"=some (some (.int 60 q0)))
  (v1:nsIn K mainGlobals "NOUGHT"=some (some (.ref g1))) (w1:K.lookup g1=some ⟨.type "tuple",go1,.seq #[.int 0 q1a,.int 0 q1b,.int 1 q1c] gn1,gs1⟩)
  (y0:nsIn K mainGlobals "FloorError"=some (some (.ref dR)))
  (y1:nsIn K mainGlobals "NoRoot"=some (some (.ref i7)))
  (y2:nsIn K mainGlobals "NoNumber"=some (some (.ref fK)))
  (y3:nsIn K mainGlobals "NoLaying"=some (some (.ref aA)))
  (y4:nsIn K mainGlobals "NoTile"=some (some (.ref i9)))
  (y5:nsIn K mainGlobals "NoFit"=some (some (.ref kR)))
  (y6:nsIn K mainGlobals "NoKinds"=some (some (.ref gU)))
  (y7:nsIn K mainGlobals "NoPlan"=some (some (.ref i4)))
  (y8:nsIn K mainGlobals "NoSpot"=some (some (.ref iZ)))
  (y9:nsIn K mainGlobals "NoNet"=some (some (.ref kQ)))
  (y10:nsIn K mainGlobals "NoText"=some (some (.ref i8)))
  (y11:nsIn K mainGlobals "NoSaying"=some (some (.ref fU)))
  (y12:nsIn K mainGlobals "NoName"=some (some (.ref ja)))
  (y13:nsIn K mainGlobals "TooMany"=some (some (.ref gQ)))
  (qo:excIn K (aA) bmV "ValueError.__new__"=true)
  (p5:exmOne K (.ref aA) (.ref dR)=some true)
  (z1_NoLaying:findIn K (.ref aA) "__getattribute__"=some (some (.builtin "BaseException.__getattribute__")))
  (z2_NoLaying:findIn K (.ref aA) "__getattr__"=some none)
  (z3_NoLaying:findIn K (.ref aA) "__class__"=some (some (.builtin "object.__class__")))
  (z4_NoLaying:mroIn K aA (.type "object")=some true)
  (z5_NoLaying:mroIn K aA (.type "BaseException")=some true)
  (z6_NoLaying:(clsIn K aA).isSome=true)
  (gr:kitOne K (.ref aA) (.ref i7)=some false)
  (eX:kitOne K (.ref aA) (.ref fK)=some false)
  (eY:kitOne K (.ref aA) (.ref aA)=some true)
  (gB:kitOne K (.ref aA) (.ref i9)=some false)
  (g0:kitOne K (.ref aA) (.ref kR)=some false)
  (fH:kitOne K (.ref aA) (.ref gU)=some false)
  (gH:kitOne K (.ref aA) (.ref i4)=some false)
  (gv:kitOne K (.ref aA) (.ref iZ)=some false)
  (g9:kitOne K (.ref aA) (.ref kQ)=some false)
  (fX:kitOne K (.ref aA) (.ref i8)=some false)
  (eW:kitOne K (.ref aA) (.ref fU)=some false)
  (gI:kitOne K (.ref aA) (.ref ja)=some false)
  (fF:kitOne K (.ref aA) (.ref gQ)=some false)
  (lB:kitOne K (.ref aA) (.type "ValueError")=some true)
  (bb1:nsIn K mainGlobals "__builtins__"=some (some (.ref bm))) (bb2:bm≠builtinsNs) (bb3:K.lookup bm=some ⟨.type "module",some builtinsNs,.plain,bsl⟩)
  (lo_law:(K.lookup tP).bind bO=some (C3,("law":Str))) (l1_law:∀c2 o2 q2,K.lookup c2=some o2->bO o2=some (C3,q2)->q2 = "law") (lc_law:c46=tP) :
  ∃fd:FuncData,(∀(s:Shared) (v:Value),BindsTo s fd ⟨[v],[]⟩ [("_law_script",v)])/\∀base:Heap,K.In base->base.Ns mainGlobals mg->iy l.prog w K mg base CX0 12 fa fd ["_law_script"] (spD K xk):=by
 have e:=hfa.symm.trans (mg_of X G a46.1)
 cases e
 have T:Txt K mg ⟨f0,fd "is_whole" jJ t0 m0 c0,f1,fd "common_divisor" dh t1 m1 c1,f2,fd "is_number" iB t2 m2 c2,f3,fd "divisor_of_all" dw t3 m3 c3,f4,fd "number" nG t4 m4 c4,f5,fd "mate" x8 t5 m5 c5,f6,fd "plus" xr t6 m6 c6,f7,fd "times" qV t7 m7 c7,f8,fd "sign_of" kE t8 m8 c8,f9,fd "sign_of_parts" dH t9 m9 c9,f10,fd "is_above" jl t10 m10 c10,f11,fd "is_above_nought" cW t11 m11 c11,f12,fd "is_tile" kN t12 m12 c12,f13,fd "has_form" je t13 m13 c13,f14,fd "bounds_of" iA t14 m14 c14,f15,fd "place_among" fe t15 m15 c15,f16,fd "rising_marks" eI t16 m16 c16,f17,fd "reaches_just" d9 t17 m17 c17,f18,fd "covers_once" fv t18 m18 c18,f19,fd "is_laying" ip t19 m19 c19,f20,fd "must_be_laying" dm t20 m20 c20,f21,fd "weighed" lh t21 m21 c21,f22,fd "weighed_sums" eC t22 m22 c22,f23,fd "_law_bag" jC t23 m23 c23,f24,fd "_law_take" iw t24 m24 c24,f25,fd "_law_is_whole" dG t25 m25 c25,f26,fd "_law_shared" fh t26 m26 c26,f27,fd "_law_low" jt t27 m27 c27,f28,fd "_law_is_number" dj t28 m28 c28,f29,fd "_law_plus" iC t29 m29 c29,f30,fd "_law_minus" gh t30 m30 c30,f31,fd "_law_mate" iu t31 m31 c31,f32,fd "_law_times" gn t32 m32 c32,f33,fd "_law_contrary" dI t33 m33 c33,f34,fd "_law_sign" iz t34 m34 c34,f35,fd "_law_root" iD t35 m35 c35,f36,fd "_law_number" fo t36 m36 c36,f37,fd "_law_above" gC t37 m37 c37,f38,fd "_law_odd" jo t38 m38 c38,f39,fd "_law_refusal" eK t39 m39 c39,f40,fd "_law_weigh" gG t40 m40 c40,f41,fd "_law_between" eE t41 m41 c41,f42,fd "_law_cut" jj t42 m42 c42,f43,fd "_law_laying" fw t43 m43 c43,f44,fd "_law_is_told" eJ t44 m44 c44,f45,fd "_law_spoilt" fz t45 m45 c45,fa,fd "law" qD t46 m46 c46,q0,g1,dR,i7,fK,aA,i9,kR,gU,i4,iZ,kQ,i8,fU,ja,gQ,tP,C3⟩:=⟨ba X G a0 (fun _ _ _ _ _ _=>ln1 fun _=>rfl),ba X G a1 (fun _ _ _ _ _ _=>ln2 fun _ _=>rfl),ba X G a2 (fun _ _ _ _ _ _=>ln1 fun _=>rfl),ba X G a3 (fun _ _ _ _ _ _=>ln3 fun _ _ _=>rfl),ba X G a4 (fun _ _ _ _ _ _=>ln3 fun _ _ _=>rfl),ba X G a5 (fun _ _ _ _ _ _=>ln1 fun _=>rfl),ba X G a6 (fun _ _ _ _ _ _=>ln2 fun _ _=>rfl),ba X G a7 (fun _ _ _ _ _ _=>ln3 fun _ _ _=>rfl),ba X G a8 (fun _ _ _ _ _ _=>ln2 fun _ _=>rfl),ba X G a9 (fun _ _ _ _ _ _=>ln3 fun _ _ _=>rfl),ba X G a10 (fun _ _ _ _ _ _=>ln3 fun _ _ _=>rfl),ba X G a11 (fun _ _ _ _ _ _=>ln2 fun _ _=>rfl),ba X G a12 (fun _ _ _ _ _ _=>ln2 fun _ _=>rfl),ba X G a13 (fun _ _ _ _ _ _=>ln2 fun _ _=>rfl),ba X G a14 (fun _ _ _ _ _ _=>ln1 fun _=>rfl),ba X G a15 (fun _ _ _ _ _ _=>ln3 fun _ _ _=>rfl),ba X G a16 (fun _ _ _ _ _ _=>ln2 fun _ _=>rfl),ba X G a17 (fun _ _ _ _ _ _=>ln2 fun _ _=>rfl),ba X G a18 (fun _ _ _ _ _ _=>ln3 fun _ _ _=>rfl),ba X G a19 (fun _ _ _ _ _ _=>ln2 fun _ _=>rfl),ba X G a20 (fun _ _ _ _ _ _=>ln2 fun _ _=>rfl),ba X G a21 (fun _ _ _ _ _ _=>ln4 fun _ _ _ _=>rfl),ba X G a22 (fun _ _ _ _ _ _=>ln3 fun _ _ _=>rfl),ba X G a23 (fun _ _ _ _ _ _=>ln2 fun _ _=>rfl),ba X G a24 (fun _ _ _ _ _ _=>ln2 fun _ _=>rfl),ba X G a25 (fun _ _ _ _ _ _=>ln1 fun _=>rfl),ba X G a26 (fun _ _ _ _ _ _=>ln2 fun _ _=>rfl),ba X G a27 (fun _ _ _ _ _ _=>ln3 fun _ _ _=>rfl),ba X G a28 (fun _ _ _ _ _ _=>ln1 fun _=>rfl),ba X G a29 (fun _ _ _ _ _ _=>ln2 fun _ _=>rfl),ba X G a30 (fun _ _ _ _ _ _=>ln1 fun _=>rfl),ba X G a31 (fun _ _ _ _ _ _=>ln1 fun _=>rfl),ba X G a32 (fun _ _ _ _ _ _=>ln3 fun _ _ _=>rfl),ba X G a33 (fun _ _ _ _ _ _=>ln2 fun _ _=>rfl),ba X G a34 (fun _ _ _ _ _ _=>ln2 fun _ _=>rfl),ba X G a35 (fun _ _ _ _ _ _=>ln1 fun _=>rfl),ba X G a36 (fun _ _ _ _ _ _=>ln1 fun _=>rfl),ba X G a37 (fun _ _ _ _ _ _=>ln2 fun _ _=>rfl),ba X G a38 (fun _ _ _ _ _ _=>ln1 fun _=>rfl),ba X G a39 (fun _ _ _ _ _ _=>ln1 fun _=>rfl),ba X G a40 (fun _ _ _ _ _ _=>ln4 fun _ _ _ _=>rfl),ba X G a41 (fun _ _ _ _ _ _=>ln2 fun _ _=>rfl),ba X G a42 (fun _ _ _ _ _ _=>ln3 fun _ _ _=>rfl),ba X G a43 (fun _ _ _ _ _ _=>ln2 fun _ _=>rfl),ba X G a44 (fun _ _ _ _ _ _=>ln3 fun _ _ _=>rfl),ba X G a45 (fun _ _ _ _ _ _=>ln3 fun _ _ _=>rfl),ba X G a46 (fun _ _ _ _ _ _=>ln1 fun _=>rfl),mg_none_of X G z0,mg_none_of X G z1,mg_none_of X G z2,mg_none_of X G z3,mg_none_of X G z4,mg_none_of X G z5,mg_none_of X G z6,mg_none_of X G z7,mg_none_of X G z8,mg_none_of X G z9,mg_none_of X G z10,mg_none_of X G z11,mg_none_of X G z12,mg_none_of X G z13,mg_of X G v0,⟨mg_of X G v1,⟨_,_,_,_,_,_,w1⟩⟩,mg_of X G y0,mg_of X G y1,mg_of X G y2,mg_of X G y3,mg_of X G y4,mg_of X G y5,mg_of X G y6,mg_of X G y7,mg_of X G y8,mg_of X G y9,mg_of X G y10,mg_of X G y11,mg_of X G y12,mg_of X G y13,qo,p5,gr,eX,eY,gB,g0,fH,gH,gv,g9,fX,eW,gI,fF,lB,⟨z1_NoLaying,z2_NoLaying,z3_NoLaying,z4_NoLaying,z5_NoLaying,z6_NoLaying⟩,⟨Bf lo_law,l1_law,QH (mg_of X G bb1) bb2 bb3⟩,congrArg Value.ref lc_law⟩
 exact⟨_,fun s v=>.of_eq rfl,fun base _ _=>Oq (e:=⟨l.prog,w,K,mg,base,_⟩) T⟩
theorem walk{l:PySem.W.OpenLaw}{q:Program}{loose:List Str}{XP:(Str->Option Value)->Heap->Prop}{YP:World->Heap->Prop}{d:DefRec}{K:Params->PySem.W.Frag}(tabs:List Addr)(hn:l.most=some 63)(hdf:d.params.defaults=[])
  (hY:∀(w:World) (h:Heap),YP w h->(K w.params).In h/\(∀p∈tabs,h.get? p=some (tabObj #[])/\(K w.params).lookup p=none)/\(∀p∈tabs,isCodeTable h p))
  (hA2:∀(w:World) c o p q,(K w.params).lookup c=some o->bO o=some (p,q)->p∈tabs)
  (F:∀(w:World) (mg:Str->Option Value) (fa:Addr) (h:Heap),(K w.params).In h->h.Ns mainGlobals mg->mg d.name=some (.ref fa) ->
   ∃fd:FuncData,(∀(s:Shared) (u:Value),BindsTo s fd ⟨[u],[]⟩ [("_law_script",u)])/\∀base:Heap,(K w.params).In base->base.Ns mainGlobals mg->iy l.prog w (K w.params) mg base CX0 12 fa fd ["_law_script"] (spD (K w.params) xk)) :
  PySem.W.WalkO q loose XP YP l.row.toRowW d [] (fun f vs=>PySem.call f vs):=
 L2.Kl (n:=63) (k:=12) (x:="_law_script") (CX:=fun _=>CX0) (sp:=fun w=>spD (K w.params) xk) tabs hn ⋯ hdf ⟨rfl,⋯,⋯⟩ hY hA2 F (fun w H a ns hl hT hS=>Ip hl hT hS) fun _ _ _ _ _ z=>z
end K16
open PySem PySem.W PyProof.Rows L2.DL in
set_option maxRecDepth 100000 in
set_option maxHeartbeats 0 in
theorem PySem.Challenge.cw_matefloors_k16_whole_sums_kept_holds : PySem.Challenge.rw_matefloors_k16_whole_sums_kept.Holds :=
 holds_law K16.H.ws fun said=>holds_open (XP:=XL K16.H.V []) (YP:=K16.H.HK.says) (d:=K16.H.D) (kwd:=[]) K16.H.left K16.H.HK.of K16.H.HK.keeps (fun s e=>xl_of s (Bool.and_eq_true_iff.mp e).1) XL.keeps ⟨⟩ ⟨⟩ ⟨⟩
  (fun s e=>recFacts_of (Bool.and_eq_true_iff.mp e).2) ⟨⟩ said ⟨⟩ ⟨⟨⟩,⟨⟩,⟨⟩,⟨⟩,⟨⟩,⟨⟩⟩ ⟨[.list []],⟨⟩,⟨⟩⟩
  (K16.walk (l:=PySem.Challenge.rw_matefloors_k16_whole_sums_kept) (K:=K16.H.K) K16.H.tabs ⟨⟩ ⟨⟩ (fun w h Y=>by
   have Y:(K16.H.KF w.params).In h:=Y
   refine⟨Bo Y,fun p hp=>?_,fun p hp=>?_⟩
   ·rcases List.mem_cons.mp hp with rfl|hp
    ·exact⟨Y _ _ (K16.H.k7 w.params).1,(K16.H.k7 w.params).2⟩
    rcases List.mem_cons.mp hp with rfl|hp
    ·exact⟨Y _ _ (K16.H.G9 w.params).1,(K16.H.G9 w.params).2⟩
    exact nomatch hp
   ·rcases List.mem_cons.mp hp with rfl|hp
    ·obtain⟨o,e1,e2⟩:=Bf (K16.H.sN w.params);exact zO (Bo Y) e1 e2
    rcases List.mem_cons.mp hp with rfl|hp
    ·obtain⟨o,e1,e2⟩:=Bf (K16.H.Eg w.params);exact zO (Bo Y) e1 e2
    exact nomatch hp) (fun w c o p q e e2=>by
   have h:=Hy (K16.H.LC w.params) e e2
   have h2:=mem_map_of_mem (f:=fun x:Addr×Str=>x.1) h
   exact h2) fun w mg fa h KX G hmg=>by
   obtain⟨h0,h1,h2,h3,h4,h5,h6,h7,h8,h9,h10,h11,h12,h13⟩:=K16.H.PK w.params
   obtain⟨h14,h15,h16,h17,h18,h19,h20,h21,h22,h23,h24,h25,h26,h27⟩:=K16.H.Qz w.params
   obtain⟨h28,h29,h30,h31,h32,h33,h34,h35,h36,h37,h38,h39,h40,h41⟩:=K16.H.OT w.params
   obtain⟨h42,h43,h44,h45,h46,h47,h48,h49,h50,h51,h52,h53,h54,h55⟩:=K16.H.Pl w.params
   obtain⟨h56,h57,h58,h59,h60,h61,h62,h63,h64,h65,h66,h67,h68,h69⟩:=K16.H.Pm w.params
   obtain⟨h70,h71,h72,h73,h74,h75,h76,h77,h78,h79,h80,h81,h82,h83⟩:=K16.H.Pd w.params
   obtain⟨h84,h85,h86,h87,h88,h89,h90,h91,h92,h93,h94,h95,h96,h97⟩:=K16.H.P9 w.params
   obtain⟨h98,h99⟩:=K16.H.Qn w.params
   exact K16.all_mk KX G hmg h0 h1 h2 h3 h4 h5 h6 h7 h8 h9 h10 h11 h12 h13 h14 h15 h16 h17 h18 h19 h20 h21 h22 h23 h24 h25 h26 h27 h28 h29 h30 h31 h32 h33 h34 h35 h36 h37 h38 h39 h40 h41 h42 h43 h44 h45 h46 h47 h48 h49 h50 h51 h52 h53 h54 h55 h56 h57 h58 h59 h60 h61 h62.1 h62.2 h63 h64 h65 h66 h67 h68 h69 h70 h71 h72 h73 h74 h75 h76 h77 h78 h79 h80 h81 h82 h83 h84 h85 h86 h87 h88 h89 h90 h91 h92 h93 h94 h95 h96 h97 h98 h99.1 h99.2.1 h99.2.2 (K16.H.Eg w.params) (fun c2 o2 q2 e e2=>K16.H.LJ (Hy (K16.H.LC w.params) e e2)) rfl)
