import PyProof.Rows.All
import KE.KFind
import KE.KLam
import KE.KTryMore
import KE.LcSums
import KE.KRevSl
import KE.KIntText
import Lean
import PySem.Challenge.RW_matefloors_k49_plans_written
set_option Elab.async false
set_option linter.all false
set_option maxRecDepth 100000
set_option maxHeartbeats 4000000
set_option genSizeOf false
set_option compiler.extract_closed false
set_option bootstrap.genMatcherCode false
local macro_rules|`(‹$q›)=>`({nx:=fun _ y=>$q (.v .none) y,rt:=$q})
local macro_rules | `(⋯) => `((by decide))
local macro_rules | `(∅) => `((by omega))
local macro_rules | `(nofun) => `((by decide +kernel))
local macro_rules | `(⟨⟩) => `((by kernel_rfl))
local macro_rules | `(tactic| walk_at "s") => `(tactic| exact ⟨rfl, rfl, rfl, by decide +kernel, rfl, by decide +kernel, by decide +kernel⟩)
local macro_rules | `(tactic| walk_at "b") => `(tactic| (intro _ _ _ _ _ _ us hl; first | exact (match us, hl with | [_], _ => rfl) | exact (match us, hl with | [_, _], _ => rfl) | exact (match us, hl with | [_, _, _], _ => rfl) | exact (match us, hl with | [_, _, _, _], _ => rfl) | exact (match us, hl with | [_, _, _, _, _], _ => rfl)))
open PySem.W (fnOf nsIn codeIn keepIn kitOne kia_one excIn findIn mroIn clsIn tabObj kla_fn FnAt exmOne mg_of mg_none_of)
open List (map_append map_map mem_append_left filterMap_cons mem_cons_self mem_cons_of_mem mem_append_right size_toArray append_nil length_take getElem?_map mem_of_getElem? length_append length_map replicate_succ flatten_cons append_assoc foldl_cons length_singleton map_nil map_cons length_cons take_length lookup_cons getElem?_cons_zero getElem?_eq_none length_nil nil_append cons_append set_cons_zero set_cons_succ mem_cons not_mem_nil getElem?_eq_getElem sum_cons mem_map_of_mem take_succ any_cons any_nil)
open Nat (lt_of_lt_of_le ne_of_lt lt_irrefl le_trans le_of_lt le_refl le_succ zero_le lt_or_ge)
open Bool (false_eq_true and_eq_true false_xor)
open PySem.F (plainAttrs_list)
open Option (bind_some map_some join_some bind_none)
open PySem (mem_of_lookup)
namespace L2
open PySem PySem.W
def kH:Sem Fin->Bool
 |.choose ..=>false
 |.os ..=>false
 |_=>true
theorem K8{den:Code->Sem Fin}{p:Program}{w:World}{os:OsState}{s s':Shared}{t t':Thread}(h:kH t.cur=true)(e:step den p ⟨fun _ _=>0,w.params⟩ s t = .go s' t') :
  step den p w {s with os:=os} t = .go {s' with os:=os} t':=by
 obtain⟨heap,gens,drawn,toks,os0⟩:=s
 obtain⟨cur,code,pos,stack⟩:=t
 cases cur<;>simp only[step,finish,kH] at e h ⊢<;>(try (cases h;done))<;>(repeat' split at e)<;>simp_all<;>(try (obtain⟨rfl,rfl⟩:=e;simp_all))<;>(try (obtain⟨h1,h2⟩:=e;subst h1;rfl))
def pO(tb:String->Option Builtin)(p:Program)(P:Params)(kw:Nat)(ann:Option Value):Nat->Shared->Thread->Option Shared
 |0,_,_=>none
 |n+1,s,t=>match through t with
  |true=>some s
  |false=>match stepOk kw ann t&&kH t.cur with
   |false=>none
   |true=>match step (denote tb) p ⟨fun _ _=>0,P⟩ s t with
    |.go s' t'=>pO tb p P kw ann n s' t'
    |.halt _ _=>none
theorem tM{tb:String->Option Builtin}{p:Program}{w:World}{kw:Nat}{ann:Option Value}{os:OsState}:∀{n:Nat} {s s':Shared} {t:Thread},pO tb p w.params kw ann n s t=some s'->topRun tb p w kw ann n {s with os:=os} t=some {s' with os:=os}
 |0,_,_,_,h=>by cases h
 |n+1,s,s',t,h=>by
  unfold pO at h
  unfold topRun
  cases ht:through t with
  |true=>rw[ht] at h;cases h;rfl
  |false=>
   rw[ht] at h
   cases hk:(stepOk kw ann t&&kH t.cur) with
   |false=>rw[hk] at h;cases h
   |true=>
    rw[hk] at h
    obtain⟨k1,k2⟩:=Bool.and_eq_true_iff.mp hk
    cases hs:step (denote tb) p ⟨fun _ _=>0,w.params⟩ s t with
    |halt o ks=>rw[hs] at h;cases h
    |go ks tv=>
     rw[hs] at h
     rw[k1,K8 (os:=os) k2 hs]
     exact tM h
noncomputable def tf(p:Program)(P:Params)(kw:Nat)(ann:Option Value):Nat->Shared->Thread->Option Shared
 |0,_,_=>none
 |n+1,s,t=>match through t with
  |true=>some s
  |false=>match Fast.tw6613529449190102663 kw ann t&&kH t.cur with
   |false=>none
   |true=>match Fast.tw8437177126325714943 (Fast.tw11892475500146522536 Fast.tw14364793385576792824) p ⟨fun _ _=>0,P⟩ s t with
    |.go s' t'=>tf p P kw ann n s' t'
    |.halt _ _=>none
theorem uF{p:Program}{P:Params}{kw:Nat}{ann:Option Value}:∀(n:Nat) (s:Shared) (t:Thread),tf p P kw ann n s t=pO treeTable p P kw ann n s t
 |0,_,_=>rfl
 |n+1,s,t=>by
  unfold tf pO
  rw[<- Fast.te6613529449190102663,<- Fast.te8437177126325714943,<- Fast.te11892475500146522536,<- Fast.te14364793385576792824]
  cases through t with
  |true=>rfl
  |false=>
   cases (stepOk kw ann t&&kH t.cur) with
   |false=>rfl
   |true=>
    cases step (denote treeTable) p ⟨fun _ _=>0,P⟩ s t with
    |halt o ks=>rfl
    |go ks tv=>exact uF n ks tv
end L2
namespace L2
open PySem
def kd(s:Stmt):Arguments:=match s with
 |.FunctionDef _ a _ _ _ _ _ _ _ _=>a
 |_=>{posonlyargs:=[],args:=[],vararg:=none,kwonlyargs:=[],kw_defaults:=[],kwarg:=none,defaults:=[]}
def dk(s:Stmt):List Stmt:=match s with
 |.FunctionDef _ _ b _ _ _ _ _ _ _=>b
 |_=>[]
def az(s:Stmt):Scope:=match s with
 |.FunctionDef _ _ _ _ _ _ sc _ _ _=>sc
 |_=>{kind:=.function,names:=[],isGenerator:=false,isCoroutine:=false}
end L2
namespace L2.DL
open PySem
def Fv:List Str:=["law","_law_is_right","_law_is_put","_law_are_refused","_law_is_told","_law_said","_law_is_plan_told"]
def bO(o:Obj):Option (Addr×Str):=match o.cls,o.data with
 |.type c,.fields vs=>if c = "code" then (match vs[1]?,vs[7]?,vs[9]?,vs[10]?,vs[11]?,vs[18]? with
  |some (Value.str q _),some (Value.int _ _),some (Value.bool _),some (Value.int _ _),some (Value.ref P),some (Value.str _ _)=>if Fv.contains q=true then some (P,q) else none
  |_,_,_,_,_,_=>none) else none
 |_,_=>none
abbrev bmV:List Value:=[.type "ValueError",.type "Exception",.type "BaseException",.type "object"]
end L2.DL
namespace K49
open PySem L2
def top(i:Nat):Stmt:=PySem.Challenge.pw_matefloors_k49_plans_written.main.body.getD i (.Pass ⟨0,0,0,0⟩)
abbrev ig:Stmt:=top 16
abbrev jn:Stmt:=top 23
abbrev gS:Stmt:=top 24
abbrev ip:Stmt:=top 25
abbrev hJ:Stmt:=top 26
abbrev cW:Stmt:=top 27
abbrev eN:Stmt:=top 32
abbrev eV:Stmt:=top 33
abbrev fK:Stmt:=top 34
abbrev fR:Stmt:=top 35
abbrev fX:Stmt:=top 36
abbrev fT:Stmt:=top 37
abbrev eP:Stmt:=top 38
abbrev fV:Stmt:=top 39
abbrev cw:Stmt:=top 40
abbrev eM:Stmt:=top 41
abbrev ic:Stmt:=top 43
abbrev fS:Stmt:=top 44
abbrev cG:Stmt:=top 45
abbrev ie:Stmt:=top 46
abbrev cT:Stmt:=top 47
abbrev cz:Stmt:=top 48
abbrev fZ:Stmt:=top 49
abbrev cH:Stmt:=top 50
abbrev cu:Stmt:=top 51
abbrev cU:Stmt:=top 52
abbrev cm:Stmt:=top 53
abbrev cq:Stmt:=top 54
abbrev cx:Stmt:=top 55
abbrev n6:Stmt:=top 56
abbrev fd(n:Str)(s:Stmt)(tk:Tok)(m:Str)(cd:Addr):FuncData:=fnOf n n (kd s) (dk s) (az s) .none .none .none (.str m tk) none (.ref cd) .none
noncomputable abbrev FQ(K:PySem.W.Frag)(n:Str)(s:Stmt)(a cd:Addr)(tk:Tok)(m:Str):Prop:=nsIn K mainGlobals n=some (some (.ref a))/\K.lookup a=some ⟨.type "function",none,.func (fd n s tk m cd),#[]⟩/\codeIn K (.ref cd) n=true/\keepIn K (.ref a)=true
end K49
namespace K49.H
open PySem PySem.W PyProof.Rows L2 L2.DL
set_option maxHeartbeats 0
abbrev R:OpenLaw:=PySem.Challenge.rw_matefloors_k49_plans_written
abbrev LO:List Str:=[]
noncomputable def sT(P:Params):Option Shared:=tf R.row.prog P 11 (some (.ref 6)) 20000 {heap:=boot_heap P,gens:=#[],drawn:=boot_drawn,toks:=boot_toks,os:=default} (topStub R.row.prog)
def defName:Stmt->Str
 |.FunctionDef n _ _ _ _ _ _ _ _ _=>n
 |_=>Str.empty
def Dj:Stmt->Int
 |.FunctionDef _ _ _ _ _ _ _ _ _ p=>Int.ofNat p.line
 |_=>0
def cn(o:Obj)(r:List Obj):List Obj:=o::r
def g(P:Params)(x:Str)(t:Nat)(v:Value):DictEntry:=⟨PyData.keyHash P x,.str x t,v⟩
def gf(P:Params)(i t a:Nat):DictEntry:=g P (defName (top i)) t (.ref a)
def tb:List (Int×Nat)->List Value
 |[]=>[]
 |(a,b)::l=>.int a 0::.int 0 0::.ref b::tb l
def tu(l:List Value):Obj:=⟨.type "tuple",none,.seq l.toArray 0,#[]⟩
def nf:Obj:=⟨.none,none,.fields #[],#[]⟩
def dp(s:Stmt):List Str:=(kd s).args.map (·.arg)
def fd(s:Stmt)(a:Addr)(p c:Value):Data:=.func {name:=defName s,qualname:=defName s,params:=kd s,body:=.stmts (dk s),scope:=az s,globals:=a,closure:=[],defaults:=.none,kwdefaults:=.none,pyModule:=p,code:=c}
def co(s:Stmt)(a t u:Nat)(x y:Value)(d:Nat):Obj:=⟨.type "code",none,.fields #[.str (defName s) t,.str (defName s) (t+1),.str "/claim/cut.py" (t+2),.int (Dj s) 0,.int (Int.ofNat (dp s).length) 0,.int 0 0,.int 0 0,.int 3 0,.ref a,.bool true,.int 181 0,.ref (a+1),.none,x,y,.ref (a+d),.int (Int.ofNat u) 0,.int (Dj s) 0,.str "/claim/cut.py" (u+1)],#[]⟩
def nv:Nat->List Str->List Value
 |_,[]=>[]
 |t,x::l=>.str x t::nv (t+1) l
def fB(i a t:Nat)(l:List Str)(p:Value)(r:List Obj):List Obj:=tu []::nf::tu (nv (t+3) (dp (top i)++l))::tu []::⟨.none,none,fd (top i) 0 .none .none,#[]⟩::co (top i) a t (t+3+(dp (top i)++l).length) (.ref (a+2)) (.ref (a+3)) 4::⟨.type "function",none,fd (top i) 3 p (.ref (a+5)),#[]⟩::r
def fL(i a t:Nat)(p:Value)(r:List Obj):List Obj:=tu []::nf::⟨.none,none,fd (top i) 0 .none .none,#[]⟩::co (top i) a t (t+3) .none .none 2::⟨.type "function",none,fd (top i) 3 p (.ref (a+3)),#[]⟩::r
def fC(i a t:Nat)(l c:List Str)(p:Value)(r:List Obj):List Obj:=tu []::nf::tu (nv (t+3) (dp (top i)++l))::tu (nv (t+3+(dp (top i)++l).length) c)::⟨.none,none,fd (top i) 0 .none .none,#[]⟩::co (top i) a t (t+3+(dp (top i)++l).length+c.length) (.ref (a+2)) (.ref (a+3)) 4::⟨.type "function",none,fd (top i) 3 p (.ref (a+5)),#[]⟩::r
def me:Value:=.str "matefloors.errors" 187
def cB(P:Params)(x:Str)(i t:Nat)(n:Int)(r:List Obj):List Obj:=tu [.ref 24]::⟨.type "builtin_function_or_method",none,.fields #[.builtin "type.__prepare__",.type "type"],#[]⟩::⟨.type "dict",none,.dict #[g P "__module__" (t+5) me,g P "__qualname__" (t+7) (.str x (t+6)),g P "__firstlineno__" (t+9) (.int n (t+8)),g P "__static_attributes__" (t+10) (.ref (i+7))] 4,#[]⟩::tu []::nf::⟨.type "code",none,.fields #[.str x t,.str x (t+1),.str "/claim/cut.py" (t+2),.int n 0,.int 0 0,.int 0 0,.int 0 0,.int 0 0,.ref (i+3),.bool false,.int 181 0,.ref (i+4),.none,.none,.none,.none,.int (Int.ofNat (t+3)) 0,.int n 0,.str "/claim/cut.py" (t+4)],#[]⟩::⟨.type "frame",none,.plain,#[some (.ref (i+5)),some (.ref 3),some (.ref (i+2)),none,some me,none,some (.ref 0)]⟩::tu []::⟨.type "dict",none,.dict #[g P "__module__" (t+5) me,g P "__firstlineno__" (t+9) (.int n (t+8)),g P "__static_attributes__" (t+10) (.ref (i+7)),g P "__doc__" (t+11) .none] 2,#[]⟩::⟨.type "type",none,.cls ⟨x,[.ref 24],[.ref (i+9),.ref 24,.type "ValueError",.type "Exception",.type "BaseException",.type "object"],i+8,x,true,[],[],false,none,false⟩,#[some (.ref i),none,some (.str x (t-2)),some (.str x (t+6)),some (.builtin "ValueError.__new__"),some (.bool true)]⟩::⟨.type "super",none,.fields #[.ref (i+9),.ref (i+9),.ref (i+9)],#[]⟩::⟨.type "builtin_function_or_method",none,.fields #[.builtin "object.__init_subclass__",.ref (i+9)],#[]⟩::r
def m0:Value:=.str "matefloors.numbers" 415
def m1:Value:=.str "matefloors.plans" 426
def m2:Value:=.str "matefloors.texts" 481
def m3:Value:=.str "law_matefloors_k49_plans_written" 586
noncomputable def ho0(P:Params)(r:List Obj):List Obj:=cn (boot_o_0 P) <| cn (boot_o_1 P) <| cn (boot_o_2 P) <| cn (⟨.type "dict",none,.dict #[g P "__name__" 165 (.str "law_matefloors_k49_plans_written" 586),g P "__doc__" 166 .none,g P "__package__" 167 .none,g P "__loader__" 168 (.builtin "__main__.__loader__#opaque"),g P "__spec__" 169 .none,g P "__annotations__" 170 (.ref 6),g P "__builtins__" 171 (.ref 4),g P "__file__" 173 (.str "/claim/cut.py" 172),g P "__cached__" 174 .none,g P "FloorError" 206 (.ref 24),g P "NoRoot" 222 (.ref 37),g P "NoNumber" 238 (.ref 49),g P "NoLaying" 254 (.ref 61),g P "NoTile" 270 (.ref 73),g P "NoFit" 286 (.ref 85),g P "NoKinds" 302 (.ref 97),g P "NoPlan" 318 (.ref 109),g P "NoSpot" 334 (.ref 121),g P "NoNet" 350 (.ref 133),g P "NoText" 366 (.ref 145),g P "NoSaying" 382 (.ref 157),g P "NoName" 398 (.ref 169),g P "TooMany" 414 (.ref 181),gf P 16 423 190,g P "MOST_KINDS" 425 (.int 3 424),g P "MOST_WITHIN" 429 (.int 12 428),g P "MOST_PLANS" 431 (.int 60 430),g P "LEAST_PARTS" 433 (.int 2 432),g P "MOST_PARTS" 435 (.int 8 434),gf P 23 448 197,gf P 24 457 204,gf P 25 464 211,gf P 26 472 218,gf P 27 480 225,g P "MOST_FIGURES" 484 (.int 40 483),g P "FIGURES" 486 (.str "0123456789" 485),g P "LETTERS" 490 (.ref 226),gf P 32 500 233,gf P 33 506 238,gf P 34 513 245,gf P 35 519 250,gf P 36 528 257,gf P 37 540 264,gf P 38 553 271,gf P 39 565 278,gf P 40 576 285,gf P 41 585 292,gf P 43 599 299,gf P 44 608 306,gf P 45 615 313,gf P 46 623 320,gf P 47 629 325,gf P 48 636 332,gf P 49 642 337,gf P 50 648 342,gf P 51 656 349,gf P 52 665 356,gf P 53 678 363,gf P 54 688 370,gf P 55 694 375,gf P 56 711 382] 61,#[]⟩) <| cn (boot_o_4 P) <| cn (boot_o_5 P) <| cn (boot_o_6 P) <| cn (boot_o_7 P) <| cn (boot_o_8 P) <| cn (boot_o_9 P) <| cn (boot_o_10 P) <| cn (⟨(.type "tuple"),none,(.seq #[] 0),#[]⟩) <| cn (⟨.none,none,.fields (tb [(2,20),(4,33),(6,45),(8,57),(10,69),(12,81),(14,93),(16,105),(18,117),(20,129),(22,141),(24,153),(26,165),(28,177),(31,189),(39,196),(50,203),(63,210),(65,217),(72,224),(79,232),(89,237),(93,244),(96,249),(107,256),(114,263),(126,270),(137,277),(143,284),(151,291),(155,298),(165,305),(172,312),(174,319),(177,324),(187,331),(189,336),(214,341),(231,348),(233,355),(235,362),(245,369),(248,374),(257,381)]).toArray,#[]⟩) <| cn (⟨(.type "code"),none,(.fields #[(.str "<module>" 182),(.str "<module>" 183),(.str "/claim/cut.py" 184),(.int 1 0),(.int 0 0),(.int 0 0),(.int 0 0),(.int 0 0),(.ref 11),(.bool false),(.int 181 0),(.ref 12),.none,.none,.none,.none,(.int 185 0),(.int 1 0),(.str "/claim/cut.py" 186)]),#[]⟩) <| cn (⟨(.type "frame"),none,.plain,#[some (.ref 13),some (.ref 3),some (.ref 3),none,some (.str "__main__" 164),none,some (.ref 0)]⟩) <| cn (⟨(.type "tuple"),none,(.seq #[(.type "ValueError")] 0),#[]⟩) <| cn (⟨(.type "builtin_function_or_method"),none,(.fields #[(.builtin "type.__prepare__"),(.type "type")]),#[]⟩) <| cn (⟨(.type "dict"),none,(.dict #[⟨PyData.keyHash P "__module__",(.str "__module__" 196),(.str "matefloors.errors" 187)⟩,⟨PyData.keyHash P "__qualname__",(.str "__qualname__" 198),(.str "FloorError" 197)⟩,⟨PyData.keyHash P "__firstlineno__",(.str "__firstlineno__" 200),(.int 2 199)⟩,⟨PyData.keyHash P "__static_attributes__",(.str "__static_attributes__" 201),(.ref 22)⟩] 4),#[]⟩) <| cn (⟨(.type "tuple"),none,(.seq #[] 0),#[]⟩) <| cn (⟨.none,none,(.fields #[]),#[]⟩) <| r
noncomputable def ho1(P:Params)(r:List Obj):List Obj:=cn (⟨(.type "code"),none,(.fields #[(.str "FloorError" 191),(.str "FloorError" 192),(.str "/claim/cut.py" 193),(.int 2 0),(.int 0 0),(.int 0 0),(.int 0 0),(.int 0 0),(.ref 18),(.bool false),(.int 181 0),(.ref 19),.none,.none,.none,.none,(.int 194 0),(.int 2 0),(.str "/claim/cut.py" 195)]),#[]⟩) <| cn (⟨(.type "frame"),none,.plain,#[some (.ref 20),some (.ref 3),some (.ref 17),none,some (.str "matefloors.errors" 187),none,some (.ref 0)]⟩) <| cn (⟨(.type "tuple"),none,(.seq #[] 0),#[]⟩) <| cn (⟨(.type "dict"),none,(.dict #[⟨PyData.keyHash P "__module__",(.str "__module__" 196),(.str "matefloors.errors" 187)⟩,⟨PyData.keyHash P "__firstlineno__",(.str "__firstlineno__" 200),(.int 2 199)⟩,⟨PyData.keyHash P "__static_attributes__",(.str "__static_attributes__" 201),(.ref 22)⟩,⟨PyData.keyHash P "__weakref__",(.str "__weakref__" 203),(.ref 25)⟩,⟨PyData.keyHash P "__doc__",(.str "__doc__" 204),.none⟩] 3),#[]⟩) <| cn (⟨(.type "type"),none,(.cls ⟨"FloorError",[(.type "ValueError")],[(.ref 24),(.type "ValueError"),(.type "Exception"),(.type "BaseException"),(.type "object")],23,"FloorError",true,[],[(.ref 37),(.ref 49),(.ref 61),(.ref 73),(.ref 85),(.ref 97),(.ref 109),(.ref 121),(.ref 133),(.ref 145),(.ref 157),(.ref 169),(.ref 181)],false,none,false⟩),#[some (.ref 15),none,some (.str "FloorError" 189),some (.str "FloorError" 197),some (.builtin "ValueError.__new__"),some (.bool true)]⟩) <| cn (⟨(.type "getset_descriptor"),none,(.fields #[(.str "__weakref__" 202),(.ref 24),(.builtin "ExceptionGroup.__weakref__"),.none]),#[]⟩) <| cn (⟨(.type "super"),none,(.fields #[(.ref 24),(.ref 24),(.ref 24)]),#[]⟩) <| cn (⟨(.type "builtin_function_or_method"),none,(.fields #[(.builtin "object.__init_subclass__"),(.ref 24)]),#[]⟩) <| cB P "NoRoot" 28 209 4 <| cB P "NoNumber" 40 225 6 <| cB P "NoLaying" 52 241 8 <| cB P "NoTile" 64 257 10 <| cB P "NoFit" 76 273 12 <| cB P "NoKinds" 88 289 14 <| cB P "NoPlan" 100 305 16 <| cB P "NoSpot" 112 321 18 <| cB P "NoNet" 124 337 20 <| cB P "NoText" 136 353 22 <| cB P "NoSaying" 148 369 24 <| cB P "NoName" 160 385 26 <| r
noncomputable def ho2(P:Params)(r:List Obj):List Obj:=cB P "TooMany" 172 401 28 <| fB 16 184 417 [] m0 <| fB 23 191 436 ["waiting","counted","plan","depth","part"] m1 <| fB 24 198 449 ["word"] m1 <| fB 25 205 458 [] m1 <| fB 26 212 465 ["word"] m1 <| fB 27 219 473 [] m1 <| cn (⟨(.type "tuple"),none,(.seq #[(.str "a" 487),(.str "b" 488),(.str "c" 489)] 0),#[]⟩) <| fB 32 227 491 ["block","blocks","rest"] m2 <| fL 33 234 501 m2 <| fB 34 239 507 [] m2 <| fL 35 246 514 m2 <| fB 36 251 520 ["plan","end"] m2 <| fB 37 258 529 ["sign","plan","end"] m2 <| fB 38 265 541 ["first","parts","between","part"] m2 <| fB 39 272 554 ["columns","rows","plan"] m2 <| fB 40 279 566 ["end","found"] m2 <| fB 41 286 577 [] m2 <| fB 43 293 588 ["_law_cell","_law_great","_law_primes","_law_mixed"] m3 <| fB 44 300 600 ["_law_digit"] m3 <| r
noncomputable def ho3(P:Params)(r:List Obj):List Obj:=fB 45 307 609 [] m3 <| fB 46 314 616 ["_law_some"] m3 <| fL 47 321 624 m3 <| fB 48 326 630 [] m3 <| fL 49 333 637 m3 <| fL 50 338 643 m3 <| fB 51 343 649 [] m3 <| fB 52 350 657 [] m3 <| fB 53 357 666 ["_law_odd_here","_law_way","_law_at","_law_small"] m3 <| fB 54 364 679 ["_law_thing"] m3 <| fL 55 371 689 m3 <| fC 56 376 695 ["_law_ahead","_law_k","_law_bag_here","_law_turn","_law_plan_here","_law_told","_law_wide","_law_name"] ["_law_text","_law_thing"] m3 <| r
noncomputable def hT(P:Params):Heap:=⟨⟨ho0 P <| ho1 P <| ho2 P <| ho3 P []⟩,(boot_heap P).life⟩
abbrev mz0:Str:="matefloors.numbers"
abbrev mz1:Str:="matefloors.plans"
abbrev mz2:Str:="matefloors.texts"
abbrev mz3:Str:="law_matefloors_k49_plans_written"
def isNm:Stmt->Bool
 |.Assign [.Name x _] _ _=>x == "__name__"
 |_=>false
def V:Program:={R.row.prog with main:={R.row.prog.main with body:=R.row.prog.main.body.filter fun s=>!isNm s}}
def as:List Addr:=[3,190,189,197,196,204,203,211,210,218,217,225,224,233,232,238,237,245,244,250,249,257,256,264,263,271,270,278,277,285,284,292,291,299,298,306,305,313,312,320,319,325,324,332,331,337,336,342,341,349,348,356,355,363,362,370,369,375,374,382,381,226,24,23,37,36,49,48,61,60,73,72,85,84,97,96,109,108,121,120,133,132,145,144,157,156,169,168,181,180,4]
def tabs:List Addr:=[377]
noncomputable def K(P:Params):Frag:=as.map fun a=>(a,((hT P).get? a).getD default)
noncomputable def TF(P:Params):Frag:=tabs.map fun a=>(a,((hT P).get? a).getD default)
noncomputable def KF(P:Params):Frag:=K P++TF P
theorem kAs(P:Params):as++tabs=(KF P).map (·.1):=by
 unfold KF K TF
 rw[map_append,map_map,map_map]
 exact congr (congrArg HAppend.hAppend (List.map_id _).symm) (List.map_id _).symm
noncomputable def HK:Hook:=kHook KF (as++tabs) kAs
def posOf:Stmt->Pos
 |.FunctionDef _ _ _ _ _ _ _ _ _ p=>p
 |_=>⟨0,0,0,0⟩
def D:DefRec:=⟨"law",kd K49.n6,dk K49.n6,az K49.n6,posOf K49.n6⟩
def Xt:Shared->Bool:=fun s=>xlAt V [] s&&recOk R.row.records s
theorem runC(P:Params):(sT P).map (fun s=>(s.heap,s.gens,s.drawn,s.toks))=some (hT P,#[],{},712):=⟨⟩
theorem M6{A B C D:Type}{a a':A}{b b':B}{c c':C}{d d':D}(h:(a,b,c,d)=(a',b',c',d')):a=a'/\b=b'/\c=c'/\d=d':=by
 cases h;exact⟨rfl,rfl,rfl,rfl⟩
theorem run(w:World)(os:OsState):topRun treeTable R.row.prog w 11 (some (.ref 6)) 20000 {heap:=boot_heap w.params,gens:=#[],drawn:=boot_drawn,toks:=boot_toks,os:=os} (topStub R.row.prog)=some {heap:=hT w.params,gens:=#[],drawn:={},toks:=712,os:=os}:=by
 have h:=runC w.params
 cases e:sT w.params with
 |none=>rw[e] at h;cases h
 |some s=>
  rw[e] at h
  obtain⟨heap,gens,drawn,toks,os0⟩:=s
  have h':some (heap,gens,drawn,toks)=some (hT w.params,(#[]:Array GenState),({}:Drawn),712):=h
  obtain⟨rfl,rfl,rfl,rfl⟩:=M6 (Option.some.inj h')
  exact tM (w:=w) (os:=os) ((uF _ _ _).symm.trans e)
theorem Mm(w:World)(os:OsState):(staticsOk (importedModules R.row.prog.main.body) (boot_heap w.params) (hT w.params)&&namesBound R.row.prog (hT w.params)&&gensDone {heap:=hT w.params,gens:=#[],drawn:={},toks:=712,os:=os}&&laidKept (boot_heap w.params) (hT w.params))=true:=⟨⟩
theorem J6(w:World)(os:OsState):seen (List.map (fun x=>x.name) (recsOf V)) (ownsOf V) [] {heap:=hT w.params,drawn:={},toks:=712,os:=os} = expectedOf V:=⟨⟩
theorem Kv(w:World)(os:OsState):(hT w.params).bltView=bltViewBooted:=⟨⟩
theorem Jy(w:World)(os:OsState):((hT w.params).keysOk (looseW V LO) (List.map (fun x=>x.name) (recsOf V)) (List.map (fun x=>x.fst) (litsOf V)) (List.map (fun x=>x.name) (clssOf V (looseW V LO)))&&(hT w.params).accountedOkI (importedModules R.row.prog.main.body)&&(hT w.params).isNs mainGlobals&&(hT w.params).isNs builtinsNs&&tablesOk V (hT w.params)&&Xt {heap:=hT w.params,gens:=#[],drawn:={},toks:=712,os:=os}&&(if true=true then (#[]:Array GenState).size==0 else !leftWithCleanup (#[]:Array GenState)))=true:=⟨⟩
theorem JU(w:World)(os:OsState):tabsOk V {heap:=hT w.params,gens:=#[],drawn:={},toks:=712,os:=os} = true:=⟨⟩
theorem Ko(w:World)(os:OsState):pinSeenD V (drecsOf V) {heap:=hT w.params,gens:=#[],drawn:={},toks:=712,os:=os} = pinGoodD (drecsOf V):=⟨⟩
theorem KL(w:World)(os:OsState):plainSeenE V (looseW V LO) {heap:=hT w.params,gens:=#[],drawn:={},toks:=712,os:=os} = plainGoodE V (looseW V LO):=⟨⟩
theorem K0(w:World)(os:OsState):plainSeenD V LO {heap:=hT w.params,gens:=#[],drawn:={},toks:=712,os:=os} = plainGoodD V LO:=⟨⟩
theorem La(w:World)(os:OsState):wideSeen V {heap:=hT w.params,gens:=#[],drawn:={},toks:=712,os:=os} = wideGood V:=⟨⟩
theorem Ku(w:World)(os:OsState):clsSeenW V LO {heap:=hT w.params,gens:=#[],drawn:={},toks:=712,os:=os} = clsGoodW V LO:=⟨⟩
theorem L5{A B C D E F G H I:Type}{a a':A}{b b':B}{c c':C}{d d':D}{e e':E}{f f':F}{g g':G}{h h':H}{i i':I}(h0:a=a')(h1:b=b')(h2:c=c')(h3:d=d')(h4:e=e')(h5:f=f')(h6:g=g')(h7:h=h')(h8:i=i'):(a,b,c,d,e,f,g,h,i)=(a',b',c',d',e',f',g',h',i'):=by
 rw[h0,h1,h2,h3,h4,h5,h6,h7,h8]
theorem ML(w:World)(os:OsState):openSeen V LO (importedModules R.row.prog.main.body) Xt true {heap:=hT w.params,gens:=#[],drawn:={},toks:=712,os:=os} = openGood V LO:=L5 (J6 w os) (Kv w os) (Jy w os) (JU w os) (Ko w os) (KL w os) (K0 w os) (La w os) (Ku w os)
theorem Mn(w:World)(os:OsState):HK.obs {heap:=hT w.params,gens:=#[],drawn:={},toks:=712,os:=os} = HK.val w:=⟨⟩
theorem seen(w:World):(fun os=>(staticsOk (importedModules R.row.prog.main.body) (boot_heap w.params) (hT w.params)&&namesBound R.row.prog (hT w.params)&&gensDone {heap:=hT w.params,gens:=#[],drawn:={},toks:=712,os:=os}&&laidKept (boot_heap w.params) (hT w.params),
  openSeen V LO (importedModules R.row.prog.main.body) Xt true {heap:=hT w.params,gens:=#[],drawn:={},toks:=712,os:=os},HK.obs {heap:=hT w.params,gens:=#[],drawn:={},toks:=712,os:=os}))=fun _:OsState=>(true,openGood V LO,HK.val w):=
 funext fun os=>Prod.ext (Mm w os) (Prod.ext (ML w os) (Mn w os))
theorem lkb{a b:Bool}(x:a=true)(y:b=true):(a&&b)=true:=by rw[x,y];rfl
theorem wsA:(sreFenced R.row.prog.main&&((moduleNames R.row.prog.main.body).isEmpty || lookedIntoSs (moduleNames R.row.prog.main.body) R.row.prog.main.body))=true:=⟨⟩
theorem wsB:namesResolve R.row.prog=true:=⟨⟩
theorem wsC:R.row.prog.boundNames.all (fun n=>!worldNames.contains n)=true:=⟨⟩
theorem wsD:noRoadLSs {strict:=!(importedModules R.row.prog.main.body).all cThrough.contains,foot:=none,bare:=(["vars","dir","locals"]:List Str).filter (readsOut R.row.prog R.row.prog.main.body)} R.row.prog.main.body=true:=⟨⟩
theorem wsE:(namesMeet R.row.prog R.row.prog.main.body fun _ n=>attrL n)=true:=⟨⟩
theorem wsF:looksOpen R.row.prog=true:=lkb (lkb (lkb (lkb wsA wsB) wsC) wsD) wsE
theorem wsG:R.row.wellSaid=true:=by
 unfold OpenRow.wellSaid OpenRow.partSaid
 rw[wsF]
 kernel_rfl
theorem wsH:noClassBlock R.prog R.footing=true:=⟨⟩
theorem wsI:noRoadLSs {strict:=true,foot:=some R.bound',writes:=R.writes,may:=R.may} R.footing=true:=⟨⟩
theorem wsJ:R.namesIt=true:=⟨⟩
theorem wsK:R.bound'.all (fun n=>!builtinNamed n || R.about==[n] || !R.reads n)=true:=⟨⟩
theorem wsL:namesMeet R.prog R.footing (fun sc n=>(!(["type","isinstance","issubclass","getattr","hasattr"]:List Str).contains n || sc.names.lookup n==some .globalImplicit)&&(R.may != some n || sc.kind==.module || sc.names.lookup n==some .globalImplicit))=true:=⟨⟩
theorem wsM:namesMeet R.prog R.above (fun _ n=>!R.own.contains n)=true:=⟨⟩
theorem wsN:(namesMeet R.prog R.footing fun sc n=>sc.kind==.module || sc.names.lookup n != some .globalExplicit)=true:=⟨⟩
theorem ws:R.wellSaid=true:=by
 unfold OpenLaw.wellSaid
 rw[wsG,wsH,wsI,wsJ,wsK,wsL,wsM,wsN]
 kernel_rfl
theorem K5(P:Params):FQ (K P) "is_whole" ig 190 189 415 mz0/\FQ (K P) "is_plan" jn 197 196 426 mz1/\FQ (K P) "has_form" gS 204 203 426 mz1/\FQ (K P) "is_count" ip 211 210 426 mz1/\FQ (K P) "parts_of" hJ 218 217 426 mz1/\FQ (K P) "must_be_plan" cW 225 224 426 mz1/\FQ (K P) "show_whole" eN 233 232 481 mz2/\FQ (K P) "read_whole" eV 238 237 481 mz2/\FQ (K P) "show_plan" fK 245 244 481 mz2/\FQ (K P) "plan_text" fR 250 249 481 mz2/\FQ (K P) "read_plan" fX 257 256 481 mz2/\FQ (K P) "plan_from" fT 264 263 481 mz2/\FQ (K P) "parts_from" eP 271 270 481 mz2/\FQ (K P) "grid_from" fV 278 277 481 mz2:=
 by (repeat' apply And.intro)<;>first|kernel_rfl|decide
theorem Ju(P:Params):FQ (K P) "whole_ahead_of" cw 285 284 481 mz2/\FQ (K P) "must_stand" eM 292 291 481 mz2/\FQ (K P) "_law_bag" ic 299 298 586 mz3/\FQ (K P) "_law_take" fS 306 305 586 mz3/\FQ (K P) "_law_is_whole" cG 313 312 586 mz3/\FQ (K P) "_law_odd" ie 320 319 586 mz3/\FQ (K P) "_law_refusal" cT 325 324 586 mz3/\FQ (K P) "_law_grid_size" cz 332 331 586 mz3/\FQ (K P) "_law_plan" fZ 337 336 586 mz3/\FQ (K P) "_law_plans_in" cH 342 341 586 mz3/\FQ (K P) "_law_is_a_plan" cu 349 348 586 mz3/\FQ (K P) "_law_swapped" cU 356 355 586 mz3/\FQ (K P) "_law_bent_plan" cm 363 362 586 mz3/\FQ (K P) "_law_none_plan" cq 370 369 586 mz3:=
 by (repeat' apply And.intro)<;>first|kernel_rfl|decide
theorem J1(P:Params):FQ (K P) "_law_plan_text" cx 375 374 586 mz3/\FQ (K P) "law" n6 382 381 586 mz3/\nsIn (K P) mainGlobals "isinstance"=some none/\nsIn (K P) mainGlobals "int"=some none/\nsIn (K P) mainGlobals "bool"=some none/\nsIn (K P) mainGlobals "len"=some none/\nsIn (K P) mainGlobals "tuple"=some none/\nsIn (K P) mainGlobals "list"=some none/\nsIn (K P) mainGlobals "abs"=some none/\nsIn (K P) mainGlobals "str"=some none/\nsIn (K P) mainGlobals "all"=some none/\nsIn (K P) mainGlobals "ValueError"=some none/\nsIn (K P) mainGlobals "range"=some none/\nsIn (K P) mainGlobals "min"=some none:=
 by (repeat' apply And.intro)<;>first|kernel_rfl|decide
theorem Lj(P:Params):nsIn (K P) mainGlobals "max"=some none/\nsIn (K P) mainGlobals "sum"=some none/\nsIn (K P) mainGlobals "MOST_KINDS"=some (some (.int 3 424))/\nsIn (K P) mainGlobals "MOST_WITHIN"=some (some (.int 12 428))/\nsIn (K P) mainGlobals "MOST_PLANS"=some (some (.int 60 430))/\nsIn (K P) mainGlobals "LEAST_PARTS"=some (some (.int 2 432))/\nsIn (K P) mainGlobals "MOST_PARTS"=some (some (.int 8 434))/\nsIn (K P) mainGlobals "MOST_FIGURES"=some (some (.int 40 483))/\nsIn (K P) mainGlobals "FIGURES"=some (some (.str "0123456789" 485))/\(nsIn (K P) mainGlobals "LETTERS"=some (some (.ref 226))/\(K P).lookup 226=some ⟨.type "tuple",none,.seq #[.str "a" 487,.str "b" 488,.str "c" 489] 0,#[]⟩)/\nsIn (K P) mainGlobals "FloorError"=some (some (.ref 24))/\nsIn (K P) mainGlobals "NoRoot"=some (some (.ref 37))/\nsIn (K P) mainGlobals "NoNumber"=some (some (.ref 49))/\nsIn (K P) mainGlobals "NoLaying"=some (some (.ref 61)):=
 by (repeat' apply And.intro)<;>first|kernel_rfl|decide
theorem JN(P:Params):nsIn (K P) mainGlobals "NoTile"=some (some (.ref 73))/\nsIn (K P) mainGlobals "NoFit"=some (some (.ref 85))/\nsIn (K P) mainGlobals "NoKinds"=some (some (.ref 97))/\nsIn (K P) mainGlobals "NoPlan"=some (some (.ref 109))/\nsIn (K P) mainGlobals "NoSpot"=some (some (.ref 121))/\nsIn (K P) mainGlobals "NoNet"=some (some (.ref 133))/\nsIn (K P) mainGlobals "NoText"=some (some (.ref 145))/\nsIn (K P) mainGlobals "NoSaying"=some (some (.ref 157))/\nsIn (K P) mainGlobals "NoName"=some (some (.ref 169))/\nsIn (K P) mainGlobals "TooMany"=some (some (.ref 181))/\excIn (K P) (109) bmV "ValueError.__new__"=true/\exmOne (K P) (.ref 109) (.ref 24)=some true/\findIn (K P) (.ref 109) "__getattribute__"=some (some (.builtin "BaseException.__getattribute__"))/\findIn (K P) (.ref 109) "__getattr__"=some none:=
 by (repeat' apply And.intro)<;>first|kernel_rfl|decide
theorem IY(P:Params):findIn (K P) (.ref 109) "__class__"=some (some (.builtin "object.__class__"))/\mroIn (K P) 109 (.type "object")=some true/\mroIn (K P) 109 (.type "BaseException")=some true/\(clsIn (K P) 109).isSome=true/\kitOne (K P) (.ref 109) (.ref 37)=some false/\kitOne (K P) (.ref 109) (.ref 49)=some false/\kitOne (K P) (.ref 109) (.ref 61)=some false/\kitOne (K P) (.ref 109) (.ref 73)=some false/\kitOne (K P) (.ref 109) (.ref 85)=some false/\kitOne (K P) (.ref 109) (.ref 97)=some false/\kitOne (K P) (.ref 109) (.ref 109)=some true/\kitOne (K P) (.ref 109) (.ref 121)=some false/\kitOne (K P) (.ref 109) (.ref 133)=some false/\kitOne (K P) (.ref 109) (.ref 145)=some false:=
 by (repeat' apply And.intro)<;>first|kernel_rfl|decide
theorem J2(P:Params):kitOne (K P) (.ref 109) (.ref 157)=some false/\kitOne (K P) (.ref 109) (.ref 169)=some false/\kitOne (K P) (.ref 109) (.ref 181)=some false/\kitOne (K P) (.ref 109) (.type "ValueError")=some true/\excIn (K P) (145) bmV "ValueError.__new__"=true/\exmOne (K P) (.ref 145) (.ref 24)=some true/\findIn (K P) (.ref 145) "__getattribute__"=some (some (.builtin "BaseException.__getattribute__"))/\findIn (K P) (.ref 145) "__getattr__"=some none/\findIn (K P) (.ref 145) "__class__"=some (some (.builtin "object.__class__"))/\mroIn (K P) 145 (.type "object")=some true/\mroIn (K P) 145 (.type "BaseException")=some true/\(clsIn (K P) 145).isSome=true/\kitOne (K P) (.ref 145) (.ref 37)=some false/\kitOne (K P) (.ref 145) (.ref 49)=some false:=
 by (repeat' apply And.intro)<;>first|kernel_rfl|decide
theorem JA(P:Params):kitOne (K P) (.ref 145) (.ref 61)=some false/\kitOne (K P) (.ref 145) (.ref 73)=some false/\kitOne (K P) (.ref 145) (.ref 85)=some false/\kitOne (K P) (.ref 145) (.ref 97)=some false/\kitOne (K P) (.ref 145) (.ref 109)=some false/\kitOne (K P) (.ref 145) (.ref 121)=some false/\kitOne (K P) (.ref 145) (.ref 133)=some false/\kitOne (K P) (.ref 145) (.ref 145)=some true/\kitOne (K P) (.ref 145) (.ref 157)=some false/\kitOne (K P) (.ref 145) (.ref 169)=some false/\kitOne (K P) (.ref 145) (.ref 181)=some false/\kitOne (K P) (.ref 145) (.type "ValueError")=some true/\(nsIn (K P) mainGlobals "__builtins__"=some (some (.ref 4))/\(4:Addr)≠builtinsNs/\(K P).lookup 4=some ⟨.type "module",some builtinsNs,.plain,#[]⟩):=
 by (repeat' apply And.intro)<;>first|kernel_rfl|decide
theorem HG(P:Params):((K P).filterMap fun p=>bO p.2)=[(377,("law":Str))]/\((K P).lookup 381).bind bO=some (377,("law":Str))/\(KF P).lookup 377=some (tabObj #[])/\(K P).lookup 377=none:=⟨⟨⟩,⟨⟩,⟨⟩,⟨⟩⟩
theorem Gz(P:Params):((K P).filterMap fun p=>bO p.2)=[(377,("law":Str))]:=(HG P).1
theorem zX(P:Params):((K P).lookup 381).bind bO=some (377,("law":Str)):=(HG P).2.1
theorem GH{q2:Str}(h:((377:Addr),q2)∈([(377,("law":Str))]:List (Addr×Str))):q2 = "law":=by simpa using h
theorem Cf(P:Params):(KF P).lookup 377=some (tabObj #[])/\(K P).lookup 377=none:=⟨(HG P).2.2.1,(HG P).2.2.2⟩
theorem left:LeftO R.row.prog V LO Xt HK.obs HK.val 20000:=
 LeftO.of_pieces (H₀:=boot_heap) (H₁:=hT) (gs₀:=#[]) (gs₁:=#[]) (d₀:=boot_drawn) (d₁:={}) (k₀:=boot_toks) (k₁:=712) (m₀:=11) (ann:=some (.ref 6)) (M:=20000)
  (boot_open ⟨⟩ ⟨⟩ (fun s=>⟨⟩)) (fun w=>⟨⟩) run ⟨⟩ seen
end K49.H
namespace L2
open PySem PySem.Spec PyProof.Rows
noncomputable def iA(A:Around)(h:Heap):Prop:=A.handled=none\/∃(e:Addr) (oe:Obj) (vs:Array Value),A.handled=some (.ref e)/\h.get? e=some oe/\oe.data = .fields vs/\vs[2]? = some .none
theorem vD:entryFor table "proto.unchain"=some Builtin.«proto.unchain»:=entryFor_of_tree ⟨⟩
section
variable {prog:Program}{w:World}{A:Around}{E:Value->Shared->Prop}{s:Shared}
theorem xT{x e:Addr}{oe:Obj}{vs:Array Value}{Q:Value->Shared->Prop}(he:s.heap.get? e=some oe)(hd:oe.data = .fields vs)(h2:vs[2]? = some .none)(h:Q .none s) :
  wpAny (model prog w) A (runValue (.builtin "proto.unchain" ⟨[.ref x,.ref e,.ref e,.bool false],[]⟩)) Q E s:=by
 refine wpAny_runValue (codeAny_builtin vD ?_)
 unfold Builtin.«proto.unchain»
 dsimp only
 refine wpAny_bind (wpAny_field he hd h2 ?_)
 rw[if_pos (by rfl)]
 exact wpAny_pure h
theorem u4{α:Type}{a:Addr}{oa:Obj}{ws:Array Value}{Q:α->Shared->Prop}(q:iA A s.heap)(ha:s.heap.get? a=some oa)(hda:oa.data = .fields ws)(hz:2<ws.size)
  (hnew:∀e oe,A.handled=some (.ref e)->s.heap.get? e=some oe->e≠a)
  (h:∀h',Heap.ExtBut a s.heap h'->(∃o',h'.get? a=some o'/\o'.cls=oa.cls)->E (.ref a) {s with heap:=h'}):wpAny (model prog w) A (raiseNew (.ref a):Sem α) Q E s:=by
 unfold raiseNew
 refine wpAny_bind (wpAny_handled ?_)
 rcases q with q|⟨e,oe,vs,q,he,hd,h2⟩
 ·rw[q]
  exact wpAny_bind (wpAny_pure (wpAny_throw (h s.heap (fun b o _ z=>z) ⟨oa,ha,rfl⟩)))
 ·rw[q]
  have ne:e≠a:=hnew e oe q he
  dsimp only
  rw[if_pos (by simp[ne])]
  refine wpAny_bind (wpAny_holding (xT he hd h2 ?_))
  refine wpAny_bind ?_
  refine wpAny_setField ha hda hz (wpAny_throw ?_)
  have hd':=Obj.data_mapFields hda (·.setIfInBounds 2 (Value.ref e))
  exact h _ (Heap.SameBut.update ..).extBut ⟨_,Heap.get?_update_self _ ha (Obj.isFreed_of_fields hd'),Obj.cls_mapFields ..⟩
theorem vn{it:Addr}{α:Type}{h0:Heap}{Q:α->Shared->Prop}(q:iA A s.heap)(k:Heap.ExtBut it h0 s.heap)(kl:∀e oe,A.handled=some (.ref e)->s.heap.get? e=some oe->True)
  (h:∀h' a,Heap.ExtBut it h0 h'->(∃o',h'.get? a=some o'/\o'.cls = .type "StopIteration")->E (.ref a) {s with heap:=h'}):wpAny (model prog w) A (newExc (.type "StopIteration") []>>=fun e=>(raiseNew e:Sem α)) Q E s:=by
 refine wpAny_bind ?_;simp only[newExc,newTuple]
 refine wpAny_bind (wpAny_newObj_type ?_ (by size_fits));refine wpAny_bind (m:=firstArgMember _ _) (wpAny_of_eq (a:=Value.none) (by first|rfl|(simp only[firstArgMember];rfl)) ?_);refine wpAny_newObj_type ?_ (by size_fits)
 have q':∀o1 o2:Obj,iA A ((s.heap.push o1).push o2):=fun o1 o2=>by
  rcases q with q|⟨e,oe,vs,q,he,r⟩
  ·exact .inl q
  ·exact .inr ⟨e,oe,vs,q,Heap.get?_push_of_some _ (Heap.get?_push_of_some _ he),r⟩
 refine u4 (q' _ _) (Heap.get?_push_size _ rfl) rfl (by rw[Array.size_append];exact lt_of_lt_of_le (by decide:2<6) (Nat.le_add_right _ _)) (fun e oe hq he z=>?_) fun h' hx ⟨o',ho',hc'⟩=>h h' _ (fun b o hb e=>hx b o ?_ (Heap.get?_push_of_some _ (Heap.get?_push_of_some _ (k b o hb e)))) ⟨o',ho',hc'⟩
 ·rcases q with q|⟨e1,oe1,vs,q,he1,r⟩
  ·rw[q] at hq;cases hq
  ·rw[q] at hq;cases hq
   exact absurd (Heap.lt_size he1) (by rw[z];simp)
 ·exact ne_of_lt (lt_of_lt_of_le (Heap.lt_size (k b o hb e)) (by simp))
theorem qv{it:Addr}{o:Obj}{ws:Array Value}{f:Array Value->Array Value}(q:iA A s.heap)(ho:s.heap.get? it=some o)(hd:o.data = .fields ws)(hn:∀e,A.handled=some (.ref e)->e≠it):iA A (s.heap.update it (Obj.mapFields f)):=by
 rcases q with q|⟨e,oe,vs,q,he,r⟩
 ·exact .inl q
 ·exact .inr ⟨e,oe,vs,q,by rw[Heap.get?_update_other _ _ (Ne.symm (hn e q))];exact he,r⟩
theorem vM{it l:Addr}{i:Nat}{items}{Q:Option Value->Shared->Prop}(q:iA A s.heap)(hn:∀e,A.handled=some (.ref e)->e≠it)(hit:s.heap.IsListIter it l i)(hl:s.heap.IsList l items)(hx:items[i]? = none)
  (hQ:∀h',Heap.ExtBut it s.heap h'->Q none {s with heap:=h'}):wpAny (model prog w) A (pyNext (.ref it)) Q E s:=by
 obtain⟨o,ho,hc,hd⟩:=id hit
 obtain⟨ol,hol,_,nl,hdl⟩:=hl;unfold pyNext
 refine wpAny_bind (wpAny_attempt (wpAny_callSpecial?_slot (name:=Str.ofString "__next__") hit.typeIs slot_listiter_next (wpAny_call_entry slot_listiter_next hit.typeIs entry_listiter_next ?_ (args_listiter_next _))))
 show wpAny _ _ (field (.ref it) 0>>=_) _ _ s;refine wpAny_bind (wpAny_field ho hd (x:=.ref l) rfl ?_)
 show wpAny _ _ (if (Value.ref l==Value.none)=true then _ else _) _ _ s;rw[if_neg (show ¬ ((Value.ref l==Value.none)=true) from Bool.false_ne_true)]
 show wpAny _ _ (field (.ref it) 1>>=_) _ _ s;refine wpAny_bind (wpAny_field ho hd (x:=.int i 0) rfl ?_)
 show wpAny _ _ (seqItems? (.ref l)>>=_) _ _ s;refine wpAny_bind (wpAny_seqItems hol hdl ?_);simp only[Int.toNat_natCast,hx]
 refine wpAny_bind (wpAny_rule (wpAny_bind (wpAny_setField ho hd (by simp) ?_)))
 refine vn (it:=it) (h0:=s.heap) (A:=A.in1) (qv (A:=A.in1) q ho hd hn) (Heap.SameBut.update ..).extBut (fun _ _ _ _=>trivial) fun h' a hx' ⟨o',ho',hc'⟩=>?_
 refine wpAny_bind (wpAny_isInstance (T:="StopIteration") (b:=true) ⟨_,ho',hc'⟩ isSubtype_stop ?_);exact wpAny_pure (hQ _ hx')
theorem qc{it t:Addr}{i:Nat}{items}{Q:Option Value->Shared->Prop}(q:iA A s.heap)(hn:∀e,A.handled=some (.ref e)->e≠it)(hit:IsTupIter s.heap it t i)(ht:IsTup s.heap t items)(hx:items[i]? = none)
  (hQ:∀h',Heap.ExtBut it s.heap h'->Q none {s with heap:=h'}):wpAny (model prog w) A (pyNext (.ref it)) Q E s:=by
 obtain⟨o,ho,hc,hd⟩:=id hit
 obtain⟨ol,hol,_,nl,hdl⟩:=ht;unfold pyNext
 refine wpAny_bind (wpAny_attempt (wpAny_callSpecial?_slot (name:=Str.ofString "__next__") hit.typeIs slot_tupleiter_next (wpAny_call_entry slot_tupleiter_next hit.typeIs entry_tupleiter_next ?_ (args_tupleiter_next _))))
 show wpAny _ _ (field (.ref it) 0>>=_) _ _ s;refine wpAny_bind (wpAny_field ho hd (x:=.ref t) rfl ?_)
 show wpAny _ _ (if (Value.ref t==Value.none)=true then _ else _) _ _ s;rw[if_neg (show ¬ ((Value.ref t==Value.none)=true) from Bool.false_ne_true)]
 show wpAny _ _ (field (.ref it) 1>>=_) _ _ s;refine wpAny_bind (wpAny_field ho hd (x:=.int i 0) rfl ?_)
 show wpAny _ _ (seqItems? (.ref t)>>=_) _ _ s;refine wpAny_bind (wpAny_seqItems hol hdl ?_);simp only[Int.toNat_natCast,hx]
 refine wpAny_bind (wpAny_rule (wpAny_bind (wpAny_setField ho hd (by simp) ?_)))
 refine vn (it:=it) (h0:=s.heap) (A:=A.in1) (qv (A:=A.in1) q ho hd hn) (Heap.SameBut.update ..).extBut (fun _ _ _ _=>trivial) fun h' a hx' ⟨o',ho',hc'⟩=>?_
 refine wpAny_bind (wpAny_isInstance (T:="StopIteration") (b:=true) ⟨_,ho',hc'⟩ isSubtype_stop ?_);exact wpAny_pure (hQ _ hx')
theorem vV{env:Env}{elts:List Expr}{x1}{pos:Pos}{t:Addr}{items:Array Value}{Q:Unit->Shared->Prop}(q:iA A s.heap)(ht:IsTup s.heap t items)(hn:(assignEach elts env).length=items.size)
  (hstar:(assignEach elts env).findIdx? (·.1)=none) (h:∀h',Heap.ExtBut s.heap.objs.size s.heap h'->wpAny (model prog w) A (assignInOrder ((assignEach elts env).map (·.2)) items.toList) Q E {s with heap:=h'}) :
  wpAny (model prog w) A (assign (.Tuple elts x1 pos) env (.ref t)) Q E s:=by
 rw[assign_Tuple]
 refine wpAny_bind (wpAny_standAt ?_)
 unfold unpack;rw[hn,hstar]
 refine wpAny_bind (wpAny_holding ?_)
 have hlt:t≠s.heap.objs.size:=by obtain⟨o,ho,_⟩:=ht;exact ne_of_lt (Heap.lt_size ho)
 unfold unpackItems;refine wpAny_bind ?_
 unfold notIterableAtAll;refine wpAny_bind (wpAny_specialOf ht.typeIs slot_tuple_iter.lookup ?_);refine wpAny_pure ?_;simp only[false_eq_true,if_false]
 refine wpAny_bind (wpAny_holding (iter_tuple ht ?_))
 refine wpAny_bind (wpAny_holding (draw_tuple hlt items.size 0 _ _ ⟨_,Heap.get?_push_size _ rfl,rfl,rfl⟩ (ht.push _) ∅ fun im rc nw=>?_))
 rw[show List.take items.size (List.drop 0 items.toList)=items.toList from by rw[List.drop_zero];exact List.take_of_length_le (by simp),if_neg (by simp)]
 have fr:∀e,A.handled=some (.ref e)->e≠s.heap.objs.size:=fun e hq=>by
  rcases q with q|⟨e1,oe1,vs,q,he1,r⟩
  ·rw[q] at hq;cases hq
  ·rw[q] at hq;cases hq;exact ne_of_lt (Heap.lt_size he1)
 have q1:iA A im:=by
  rcases q with q|⟨e,oe,vs,q,he,r⟩
  ·exact .inl q
  ·exact .inr ⟨e,oe,vs,q,nw.extBut e oe (fr e q) (Heap.get?_push_of_some _ he),r⟩
 refine wpAny_bind (wpAny_holding (qc q1 fr rc ((ht.push _).extBut nw.extBut hlt) (by simp) fun pc ut=>?_));simp only[Option.isSome_none,false_eq_true,if_false]
 exact wpAny_pure (h pc fun b o hb e=>ut b o hb (nw.extBut b o hb (Heap.get?_push_of_some _ e)))
end
end L2
namespace L2
open PySem PySem.Spec PyProof.Rows
abbrev Key:=Sum Int Str
def IF:Key->Value->Bool
 |.inl k,v=>Value.isInt k v
 |.inr x,v=>Value.isStrOf x v
def Nl(w:World):Key->Int
 |.inl k=>hashInt k
 |.inr x=>hashStr w x
theorem cK:∀{k:Key} {v:Value},IF k v=true->(∃i t,k=Sum.inl i/\v=Value.int i t)\/(∃x t,k=Sum.inr x/\v=Value.str x t)
 |.inl i,v,h=>by
  obtain⟨t,e⟩:=Value.isInt_shape (k:=i) (v:=v) h
  exact .inl ⟨i,t,rfl,e⟩
 |.inr x,v,h=>by
  obtain⟨t,e⟩:=Value.isStrOf_shape (x:=x) (v:=v) h
  exact .inr ⟨x,t,rfl,e⟩
theorem J3(a b:Int):decide ((Sum.inl a:Key)=Sum.inl b)=(a==b):=by
 by_cases e:a=b
 ·subst e;simp
 ·have h:¬ (Sum.inl a:Key)=Sum.inl b:=fun q=>e (Sum.inl.inj q)
  rw[decide_eq_false h]
  exact (beq_eq_false_iff_ne.mpr e).symm
theorem J9(a b:Str):decide ((Sum.inr a:Key)=Sum.inr b)=decide (a=b):=by
 by_cases e:a=b
 ·subst e;simp
 ·have h:¬ (Sum.inr a:Key)=Sum.inr b:=fun q=>e (Sum.inr.inj q)
  rw[decide_eq_false h,decide_eq_false e]
theorem Kq(a:Int)(b:Str):decide ((Sum.inl a:Key)=Sum.inr b)=false:=decide_eq_false (fun q=>nomatch q)
theorem Kt(a:Str)(b:Int):decide ((Sum.inr a:Key)=Sum.inl b)=false:=decide_eq_false (fun q=>nomatch q)
def yD(prog:Program)(w:World):PySem.KeyKind prog w Key where
 is:=IF
 hash:=Nl w
 inj:=fun v a b ha hb=>by
  rcases cK ha with ⟨i,t,rfl,rfl⟩|⟨x,t,rfl,rfl⟩
  ·rcases cK hb with ⟨j,u,rfl,e⟩|⟨y,u,rfl,e⟩
   ·injection e with e1 _;rw[e1]
   ·exact nomatch e
  ·rcases cK hb with ⟨j,u,rfl,e⟩|⟨y,u,rfl,e⟩
   ·exact nomatch e
   ·injection e with e1 _;rw[e1]
 byValue:=fun k v h=>by
  rcases cK h with ⟨i,t,rfl,rfl⟩|⟨x,t,rfl,rfl⟩<;>rfl
 pyHash:=fun hv h=>by
  rcases cK hv with ⟨i,t,rfl,rfl⟩|⟨x,t,rfl,rfl⟩
  ·exact wpAny_pyHash_int h
  ·exact wpAny_pyHash_str h
 eqBool:=fun hu hv h=>by
  rcases cK hu with ⟨i,t,rfl,rfl⟩|⟨x,t,rfl,rfl⟩
  ·rcases cK hv with ⟨j,u,rfl,rfl⟩|⟨y,u,rfl,rfl⟩
   ·rw[J3] at h;exact wpAny_eqBool_int h
   ·rw[Kq] at h;exact SeqAt.EqAt.int_str i t y u _ _ _ _ h
  ·rcases cK hv with ⟨j,u,rfl,rfl⟩|⟨y,u,rfl,rfl⟩
   ·rw[Kt] at h;exact SeqAt.EqAt.str_int x t j u _ _ _ _ h
   ·rw[J9] at h;exact wpAny_eqBool_str h
 «strs»:=fun k x t v h=>by
  rcases cK h with ⟨i,u,rfl,e⟩|⟨y,u,rfl,e⟩
  ·exact nomatch e
  ·injection e with e1 _
   subst e1
   cases v<;>rfl
end L2
namespace L2
open PySem PySem.Spec PyProof.Rows
inductive V where
 |non|bl (b:Bool)|int (i:Int)|str (x:Str)|byt (b:Array UInt8)|flt (b:UInt64)|ref (a:Addr)|ty (n:String)
 deriving DecidableEq
def RelV:V->Value->Prop
 |.non,u=>u=Value.none
 |.bl b,u=>u=Value.bool b
 |.int i,u=>∃t,u=Value.int i t
 |.str x,u=>∃t,u=Value.str x t
 |.byt b,u=>∃t,u=Value.bytes b t
 |.flt b,u=>∃t,u=Value.float b t
 |.ref a,u=>u=Value.ref a
 |.ty n,u=>u=Value.type n
abbrev Vals:List V->List Value->Prop:=Paired RelV
theorem Vals.length{xs:List V}{us:List Value}(r:Vals xs us):xs.length=us.length:=Paired.length r
theorem Vals.get:∀{xs:List V} {us:List Value} {i:Nat} {x:V},Vals xs us->xs[i]? = some x->∃u,us[i]? = some u/\RelV x u
 |_,_,_,_,.nil,e=>by simp at e
 |_,_,0,_,.cons r _,e=>by simp at e;subst e;exact⟨_,rfl,r⟩
 |_,_,i+1,x,.cons _ t,e=>by
  obtain⟨u,h1,h2⟩:=Vals.get (i:=i) (x:=x) t (by simpa using e)
  exact⟨u,by simpa using h1,h2⟩
theorem Vals.set{x:V}{u:Value}(r:RelV x u):∀{xs:List V} {us:List Value} (i:Nat),Vals xs us->Vals (xs.set i x) (us.set i u)
 |_,_,_,.nil=>.nil
 |_,_,0,.cons _ t=>.cons r t
 |_,_,i+1,.cons q t=>.cons q (Vals.set r i t)
theorem Vals.append:∀{xs ys:List V} {us ws:List Value},Vals xs us->Vals ys ws->Vals (xs++ys) (us++ws)
 |_,_,_,_,.nil,s=>s
 |_,_,_,_,.cons r t,s=>.cons r (Vals.append t s)
theorem Vals.take:∀{xs:List V} {us:List Value} (n:Nat),Vals xs us->Vals (xs.take n) (us.take n)
 |_,_,0,_=>.nil
 |_,_,_+1,.nil=>.nil
 |_,_,n+1,.cons r t=>.cons r (Vals.take n t)
theorem Vals.drop:∀{xs:List V} {us:List Value} (n:Nat),Vals xs us->Vals (xs.drop n) (us.drop n)
 |_,_,0,r=>r
 |_,_,_+1,.nil=>.nil
 |_,_,n+1,.cons _ t=>Vals.drop n t
def LX:Option V->Option Value->Prop
 |some v,some u=>RelV v u
 |none,none=>True
 |_,_=>False
def KV{κ:Type}:List (κ×V)->List (κ×Value)->Prop:=Paired fun (p:κ×V) (q:κ×Value)=>p.1=q.1/\RelV p.2 q.2
def kV:Key->V
 |.inl i=>.int i
 |.inr x=>.str x
inductive HO where
  /-- a list -/
 |lst (xs:List V)
  /-- a tuple (never changes) -/
 |tup (xs:List V)
  /-- a dict whose keys are ints and texts; one whose keys are tuples of ints and texts (the empty one is both) -/
 |dK (kvs:List (Key×V))|dT (kvs:List (List Key×V))
  /-- a set of ints: its members, its size -/
 |set (S:Int->Bool) (n:Nat)
  /-- an instance of the class at C, its dict at dx, its attributes -/
 |ins (C dx:Addr) (fs:List (Str×V))
  /-- the dict of the instance at x -/
 |own (x:Addr)
  /-- the dict of an exception -/
 |xd (fs:List (Str×V))
  /-- a bound method, f of x -/
 |met (f x:Addr)
  /-- a range object lo, lo + 1, .. below hi -/
 |rng (lo hi:Int)
  /-- a thing that is known to the object (the script; a dict while a loop walks it): read, never written while it is so -/
 |frz (o:Obj) (u:HO)
  /-- a code object's table -/
 |tbl (ps:Array Value)
  /-- any other thing, by what is true of its one object (a def of one's own: SetO a S n := HO.ext fun h => ..) -/
 |ext (φ:Heap->Prop)
abbrev Hp:=Addr->Option HO
def upd(H:Hp)(a:Addr)(o:HO):Hp:=fun b=>if b=a then some o else H b
theorem dA{H:Hp}{a:Addr}{o:HO}:upd H a o a=some o:=by unfold upd;rw[if_pos rfl]
theorem bB{H:Hp}{a b:Addr}{o:HO}(h:b≠a):upd H a o b=H b:=by unfold upd;rw[if_neg h]
theorem aX{H:Hp}{a b:Addr}{o:HO}(h:H a=some o)(h':H b=none):a≠b:=by
 intro e;subst e;rw[h] at h';cases h'
section
variable (P:Program)(w:World)
def jw(H:Hp)(h:Heap)(a:Addr):HO->Prop
 |.lst xs=>xs.length<=sizeLine/\∃(its:List Value) (n:Nat),Vals xs its/\h.get? a=some {cls:=.type "list",data:=.seq its.toArray n}
 |.tup xs=>xs.length<=sizeLine/\∃its:List Value,Vals xs its/\IsTup h a its.toArray
 |.dK kvs=>kvs.length<=sizeLine/\(a==sysModules)=false/\∃vs,KV kvs vs/\h.DictOf (yD P w) a vs
 |.dT kvs=>kvs.length<=sizeLine/\(a==sysModules)=false/\∃xs:List (List Key×Addr×Value),
   Paired (fun (p:List Key×V) (q:List Key×Addr×Value)=>p.1=q.1/\H q.2.1=some (.tup (p.1.map kV))/\RelV p.2 q.2.2) kvs xs /\
   ∃o es ep,h.get? a=some o/\o.ExactDict/\o.data = .dict es ep/\es.toList=xs.map (entryOfKey (tupleKind (yD P w)))/\(xs.map (·.1)).Nodup
 |.set S n=>h.SetOf (intKind P w) a S n
 |.ins C dx fs=>H dx=some (.own a)/\fs.length<=1000/\dx≠a/\h.get? a=some (PySem.W.instObj C dx) /\
   ∃mA,h.Ns1 dx mA/\(∀f,LX (fs.lookup f) (mA f))/\PySem.Within mA (fs.map (·.1))
 |.own _=>∃o,h.get? a=some o
 |.xd fs=>∃mA,h.Ns1 a mA/\∀f,LX (fs.lookup f) (mA f)
 |.rng lo hi=>∃t u v,h.get? a=some {cls:=.type "range",data:=.fields #[.int lo t,.int hi u,.int 1 v]}
 |.frz o u=>h.get? a=some o/\jw H h a u
 |.tbl ps=>h.get? a=some {cls:=.none,data:=.fields ps}
 |.met f x=>h.get? a=some (PySem.W.methodObj (.ref f) (.ref x))
 |.ext φ=>φ h/\(∃o,h.get? a=some o)/\∀h1 h2:Heap,φ h1->(∀o,h1.get? a=some o->h2.get? a=some o)->φ h2
noncomputable def HOk(H:Hp)(h:Heap):Prop:=∀a o,H a=some o->jw P w H h a o
end
section
variable {P:Program}{w:World}{H H':Hp}{h h':Heap}{a:Addr}{o:HO}
theorem jw.lt(x:jw P w H h a o):a<h.objs.size:=by
 cases o with
 |lst xs=>obtain⟨_,_,_,_,e⟩:=x;exact Heap.lt_size e
 |tup xs=>obtain⟨_,_,_,p⟩:=x;exact p.lt
 |dK kvs=>obtain⟨_,_,_,_,o,_,_,e,_⟩:=x;exact Heap.lt_size e
 |dT kvs=>obtain⟨_,_,_,_,o,_,_,e,_⟩:=x;exact Heap.lt_size e
 |set S n=>obtain⟨o,_,_,_,e,_⟩:=x;exact Heap.lt_size e
 |ins C dx fs=>obtain⟨_,_,_,e,_⟩:=x;exact Heap.lt_size e
 |own y=>obtain⟨_,e⟩:=x;exact Heap.lt_size e
 |xd fs=>obtain⟨_,⟨_,_,_,e,_⟩,_⟩:=x;exact Heap.lt_size e
 |rng lo hi=>obtain⟨_,_,_,e⟩:=x;exact Heap.lt_size e
 |frz ob u=>obtain⟨e,_⟩:=x;exact Heap.lt_size e
 |tbl ps=>exact Heap.lt_size (show h.get? a=some _ from x)
 |met f y=>exact Heap.lt_size (show h.get? a=some _ from x)
 |ext φ=>obtain⟨_,⟨_,e⟩,_⟩:=x;exact Heap.lt_size e
theorem Paired.Mh{α β:Type}{F G:α->β->Prop}:∀{re:List α} {ul:List β},Paired F re ul->(∀a b,F a b->G a b)->Paired G re ul
 |_,_,.nil,_=>.nil
 |_,_,.cons r t,f=>.cons (f _ _ r) (Paired.Mh t f)
theorem jw.pz(x:jw P w H h a o)(k:∀b u,(b=a\/H b=some (.own a))->h.get? b=some u->h'.get? b=some u)
  (ho:∀b,H b=some (.own a)->H' b=some (.own a)) (ht:∀b xs,H b=some (.tup xs)->H' b=some (.tup xs)):jw P w H' h' a o:=by
 induction o with
 |lst xs=>obtain⟨z,its,n,r,e⟩:=x;exact⟨z,its,n,r,k _ _ (.inl rfl) e⟩
 |tup xs=>obtain⟨z,its,r,ob,e,c⟩:=x;exact⟨z,its,r,ob,k _ _ (.inl rfl) e,c⟩
 |dK kvs=>obtain⟨z,y,vs,r,ob,es,ep,e,c⟩:=x;exact⟨z,y,vs,r,ob,es,ep,k _ _ (.inl rfl) e,c⟩
 |dT kvs=>
  obtain⟨z,y,xs,r,ob,es,ep,e,c⟩:=x
  exact⟨z,y,xs,Paired.Mh r fun p q z=>⟨z.1,ht _ _ z.2.1,z.2.2⟩,ob,es,ep,k _ _ (.inl rfl) e,c⟩
 |set S n=>obtain⟨ob,es,ep,t,e,c⟩:=x;exact⟨ob,es,ep,t,k _ _ (.inl rfl) e,c⟩
 |ins C dx fs=>
  obtain⟨d,z,ne,e,mA,⟨od,es,ep,e2,c⟩,r⟩:=x
  exact⟨ho _ d,z,ne,k _ _ (.inl rfl) e,mA,⟨od,es,ep,k _ _ (.inr d) e2,c⟩,r⟩
 |own y=>obtain⟨ob,e⟩:=x;exact⟨ob,k _ _ (.inl rfl) e⟩
 |xd fs=>obtain⟨mA,⟨od,es,ep,e,c⟩,r⟩:=x;exact⟨mA,⟨od,es,ep,k _ _ (.inl rfl) e,c⟩,r⟩
 |rng lo hi=>obtain⟨t,u,v,e⟩:=x;exact⟨t,u,v,k _ _ (.inl rfl) e⟩
 |frz ob u ih=>obtain⟨e,q⟩:=x;exact⟨k _ _ (.inl rfl) e,ih q⟩
 |tbl ps=>
  have e:h.get? a=some {cls:=.none,data:=.fields ps}:=x
  show h'.get? a=some {cls:=.none,data:=.fields ps}
  exact k a _ (.inl rfl) e
 |met f y=>
  have e:h.get? a=some (PySem.W.methodObj (.ref f) (.ref y)):=x
  show h'.get? a=some (PySem.W.methodObj (.ref f) (.ref y))
  exact k a _ (.inl rfl) e
 |ext φ=>obtain⟨p,⟨o,e⟩,st⟩:=x;exact⟨st _ _ p fun o q=>k _ _ (.inl rfl) q,⟨o,k _ _ (.inl rfl) e⟩,st⟩
theorem HOk.lt(x:HOk P w H h)(e:H a=some o):a<h.objs.size:=(x a o e).lt
theorem HOk.fresh(x:HOk P w H h)(e:h.objs.size<=a):H a=none:=by
 cases q:H a with
 |none=>rfl
 |some u=>exact absurd (lt_of_lt_of_le (x.lt q) e) (lt_irrefl _)
theorem HOk.kept(x:HOk P w H h)(k:∀b u,h.get? b=some u->h'.get? b=some u):HOk P w H h':=fun a o e=>
 (x a o e).pz (fun b u _ q=>k b u q) (fun _ q=>q) fun _ _ q=>q
theorem HOk.laid(x:HOk P w H h)(k:∀b u,h.get? b=some u->h'.get? b=some u)(hp:h.objs.size<=a)(new:jw P w (upd H a o) h' a o):HOk P w (upd H a o) h':=fun b u e=>by
 have hn:=x.fresh hp
 by_cases hb:b=a
 ·subst hb;rw[dA] at e;cases e;exact new
 ·rw[bB hb] at e
  exact (x b u e).pz (fun c v _ q=>k c v q) (fun c q=>by rw[bB (aX q hn)];exact q) fun c xs q=>by rw[bB (aX q hn)];exact q
end
noncomputable def Rd(H:Hp)(a:Addr)(u:HO):Prop:=H a=some u\/∃o,H a=some (.frz o u)
theorem Rd.ok{P:Program}{w:World}{H:Hp}{h:Heap}{a:Addr}{u:HO}(r:Rd H a u)(x:HOk P w H h):jw P w H h a u:=by
 rcases r with r|⟨o,r⟩
 ·exact x a u r
 ·obtain⟨_,q⟩:=x a _ r
  exact q
def Mut:Option HO->Prop
 |some (.lst _)=>True
 |some (.dK _)=>True
 |some (.dT _)=>True
 |some (.set _ _)=>True
 |some (.ins _ _ _)=>True
 |some (.ext _)=>True
 |_=>False
section
variable {P:Program}{w:World}{H:Hp}{h h':Heap}{x e:Addr}{o':HO}
theorem HOk.write(ok:HOk P w H h)(mu:Mut (H x))(he:e=x\/H e=some (.own x))(k:∀b u,b≠e->h.get? b=some u->h'.get? b=some u)(heo:∃u,h'.get? e=some u)
  (new:jw P w (upd H x o') h' x o'):HOk P w (upd H x o') h':=fun b u q=>by
 have nown:∀c y,H c=some (.own y)->c≠x:=fun c y r z=>by subst z;rw[r] at mu;exact mu
 have ntup:∀c xs,H c=some (.tup xs)->c≠x:=fun c xs r z=>by subst z;rw[r] at mu;exact mu
 by_cases hb:b=x
 ·subst hb;rw[dA] at q;cases q;exact new
 ·rw[bB hb] at q
  by_cases hbe:b=e
  ·have q':H b=some (.own x):=by
    rcases he with z|z
    ·exact absurd (hbe.trans z) hb
    ·rw[hbe];exact z
   rw[q] at q';cases q'
   obtain⟨v,hv⟩:=heo
   exact⟨v,by rw[hbe];exact hv⟩
  ·refine (ok b u q).pz (fun c v hc r=>k c v ?_ r) (fun c r=>by rw[bB (nown c b r)];exact r) fun c xs r=>by rw[bB (ntup c xs r)];exact r
   rcases hc with rfl|hc
   ·exact hbe
   ·rintro rfl
    rcases he with z|z
    ·exact nown c b hc z
    ·rw[hc] at z;cases z;exact hb rfl
end
structure Un(fs ex:List Addr)(H H':Hp)(h h':Heap):Prop where
 keep:∀b o,h.get? b=some o->H b=none->b ∉ fs->b ∉ ex->h'.get? b=some o
 slot:∀b o,h.get? b=some o->H b=none->b∈fs->b ∉ ex->∃sl,h'.get? b=some {o with slots:=sl}
 free:∀b o,h.get? b=some o->H b=none->b ∉ ex->H' b=none
 there:∀b o,h.get? b=some o->b ∉ ex->∃o',h'.get? b=some o'
 oD:∀b xs,H b=some (.tup xs)->H' b=some (.tup xs)
 nQ:∀b o u,H b=some (.frz o u)->H' b=some (.frz o u)
 nS:∀b ps,H b=some (.tbl ps)->∃more,H' b=some (.tbl (ps++more))
section
variable {fs fs' ex ex':List Addr}{H H1 H2:Hp}{h h1 h2 h':Heap}{a x e:Addr}{o:HO}
theorem Un.any(u:Un fs ex H H1 h h1){b:Addr}{ob:Obj}(q:h.get? b=some ob)(n:H b=none)(hx:b ∉ ex):∃sl,h1.get? b=some {ob with slots:=sl}:=by
 by_cases hb:b∈fs
 ·exact u.slot b ob q n hb hx
 ·exact⟨ob.slots,u.keep b ob q n hb hx⟩
theorem Un.trans(a:Un fs ex H H1 h h1)(b:Un fs ex H1 H2 h1 h2):Un fs ex H H2 h h2 where
 keep:=fun c ob q n hc hx=>b.keep c ob (a.keep c ob q n hc hx) (a.free c ob q n hx) hc hx
 slot:=fun c ob q n hc hx=>by
  obtain⟨sl,e1⟩:=a.slot c ob q n hc hx
  obtain⟨sl',e2⟩:=b.slot c _ e1 (a.free c ob q n hx) hc hx
  exact⟨sl',e2⟩
 free:=fun c ob q n hx=>by
  obtain⟨o',e1⟩:=a.there c ob q hx
  exact b.free c o' e1 (a.free c ob q n hx) hx
 there:=fun c ob q hx=>by
  obtain⟨o',e1⟩:=a.there c ob q hx
  exact b.there c o' e1 hx
 oD:=fun c xs q=>b.oD c xs (a.oD c xs q)
 nQ:=fun c ob xs q=>b.nQ c ob xs (a.nQ c ob xs q)
 nS:=fun c ps q=>by
  obtain⟨m1,e1⟩:=a.nS c ps q
  obtain⟨m2,e2⟩:=b.nS c _ e1
  exact⟨m1++m2,by rw[e2,Array.append_assoc]⟩
theorem Un.kept(k:∀b u,h.get? b=some u->h'.get? b=some u):Un fs ex H H h h':=
 ⟨fun b ob q _ _ _=>k b ob q,fun b ob q _ _ _=>⟨ob.slots,k b ob q⟩,fun _ _ _ n _=>n,fun b ob q _=>⟨ob,k b ob q⟩,fun _ _ q=>q,fun _ _ _ q=>q,fun _ ps q=>⟨#[],by rw[q];simp⟩⟩
theorem Un.refl:Un fs ex H H h h:=Un.kept fun _ _ q=>q
theorem Un.laid(k:∀b u,h.get? b=some u->h'.get? b=some u)(hp:h.objs.size<=a)(hn:H a=none):Un fs ex H (upd H a o) h h' where
 keep:=fun b u q _ _ _=>k b u q
 slot:=fun b u q _ _ _=>⟨u.slots,k b u q⟩
 free:=fun b u q n _=>by rw[bB (ne_of_lt (lt_of_lt_of_le (Heap.lt_size q) hp))];exact n
 there:=fun b u q _=>⟨u,k b u q⟩
 oD:=fun b xs q=>by rw[bB (aX q hn)];exact q
 nQ:=fun b u xs q=>by rw[bB (aX q hn)];exact q
 nS:=fun b ps q=>⟨#[],by rw[bB (aX q hn),q];simp⟩
theorem Un.write(mu:Mut (H x))(he:e=x\/H e=some (.own x))(k:∀b u,b≠e->h.get? b=some u->h'.get? b=some u)(heo:∃u,h'.get? e=some u):Un fs ex H (upd H x o) h h':=by
 have hx:∀b,H b=none->b≠x:=fun b n z=>by subst z;rw[n] at mu;exact mu
 have hb:∀b,H b=none->b≠e:=fun b n z=>by
  subst z
  rcases he with r|r
  ·exact hx b n r
  ·rw[n] at r;cases r
 have hm:∀b u,H b=some u->¬ Mut (some u)->b≠x:=fun b u q nm z=>by subst z;rw[q] at mu;exact nm mu
 refine⟨fun b u q n _ _=>k b u (hb b n) q,fun b u q n _ _=>⟨u.slots,k b u (hb b n) q⟩,fun b u q n _=>by rw[bB (hx b n)];exact n,fun b u q _=>?_,
  fun b xs q=>by rw[bB (hm b _ q fun z=>z)];exact q,fun b u xs q=>by rw[bB (hm b _ q fun z=>z)];exact q,fun b ps q=>⟨#[],by rw[bB (hm b _ q fun z=>z),q];simp⟩⟩
 by_cases hbe:b=e
 ·subst hbe;exact heo
 ·exact⟨u,k b u hbe q⟩
end
def trk(h:Heap)(H:Hp):List Addr:=(List.range h.objs.size).filter fun a=>(H a).isSome
def yX(h:Heap)(H:Hp):Heap:=PySem.W.hideAll h (trk h H)
theorem DH(h:Heap)(H:Hp):(yX h H).objs.size=h.objs.size:=PySem.W.hideAll_size _ _
theorem FW{h:Heap}{H:Hp}{b:Addr}{o:Obj}(e:h.get? b=some o)(n:H b=none):(yX h H).get? b=some o:=
 PySem.W.hideAll_get _ e fun hm=>by
  have q:(H b).isSome=true:=(List.mem_filter.mp hm).2
  rw[n] at q;simp at q
theorem Ip{h:Heap}{H:Hp}{b:Addr}{o:Obj}(e:(yX h H).get? b=some o):h.get? b=some o/\H b=none:=by
 have e':h.get? b=some o:=PySem.W.of_hideAll (trk h H) e
 refine⟨e',?_⟩
 cases q:H b with
 |none=>rfl
 |some x=>
  have hm:b∈trk h H:=List.mem_filter.mpr ⟨List.mem_range.mpr (Heap.lt_size e'),by simp[q]⟩
  have z:(yX h H).get? b=none:=PySem.W.hideAll_none (trk h H) hm
  rw[z] at e;cases e
def Hg(g h:Heap)(L:Addr):List (Addr×Obj):=(List.range h.objs.size).filterMap fun a=>if a=L\/(g.get? a).isSome=true then none else (h.get? a).map fun o=>(a,o)
def rest(g h:Heap)(L d:Addr):List (Addr×Obj):=(Hg g h L).filter fun p=>decide (p.1≠d)
end L2
namespace L2
open PySem PySem.Spec PyProof.Rows
structure Mod(K:PySem.W.Frag)(mg:Str->Option Value)(base:Heap):Prop where
 kin:K.In base
 glob:base.Ns mainGlobals mg
 blt:∃mb,base.Ns builtinsNs mb/\∀x:Str,x ≠ "__name__"->mb x=bootBuiltins x
 nolimit:base.NoLimit
structure Cx where
 prog:Program
 w:World
 K:PySem.W.Frag
 mg:Str->Option Value
 base:Heap
 A:Around
 N:List Str
 dl:Shared
 H₀:Hp
 env:Env
 outer:List Env
 stack:List Env
 ex:List Addr
 fn:Str->Bool
 calm:Bool
 pn:List (Addr×Obj)
 xe:Value->Shared->Prop
def frs(l:List Env):List Addr:=l.filterMap (·.frame)
abbrev Cx.fs(X:Cx):List Addr:=frs X.outer
noncomputable def Vis(sc:Scope)(x:Str):Prop:=sc.names.lookup x=some .local\/sc.names.lookup x=some .cell\/sc.names.lookup x=some .free
noncomputable def Loc(sc:Scope)(x:Str):Prop:=sc.names.lookup x=some .local\/sc.names.lookup x=some .cell
noncomputable def Look(env:Env)(h:Heap)(m:Str->Option Value)(x:Str)(u:Value):Prop:=
 (env.kindOf x=some .local/\m x=some u)\/((env.kindOf x=some .cell\/env.kindOf x=some .free)/\∃c,env.cells.lookup x=some c/\h.IsCell c (some u))
structure Cx.Ok(X:Cx):Prop where
 mod:Mod X.K X.mg X.base
 kind:X.env.scope.kind = .function
 glob:X.env.globals=mainGlobals
 blt:X.env.builtins=builtinsNs
 above:X.dl.heap.objs.size<=X.env.locals
 inj:∀x y c,X.env.cells.lookup x=some c->X.env.cells.lookup y=some c->x=y
 has:∀x,(X.env.kindOf x=some .cell\/X.env.kindOf x=some .free)->∃c,X.env.cells.lookup x=some c
 cab:∀x c,X.fn x=true->X.env.cells.lookup x=some c->X.dl.heap.objs.size<=c
 hd:X.calm=true->X.A.handled=none
 qt:X.A.handled=none\/∃(e:Addr) (oe:Obj) (vs:Array Value),X.A.handled=some (.ref e)/\(e,oe)∈X.pn/\oe.data = .fields vs/\vs[2]? = some .none
 frames:X.A.frames=some X.stack
 stk:X.stack=X.outer\/(X.stack=X.env::X.outer/\X.env.frame=some X.env.locals)
 exf:∀b∈X.ex,b≠X.env.locals/\∀x c,X.env.cells.lookup x=some c->c≠b
 bs:∀b o,X.base.get? b=some o->X.dl.heap.get? b=some o/\X.H₀ b=none
 bsz:X.base.objs.size<=X.dl.heap.objs.size
 zx:∀b o,X.base.get? b=some o->b ∉ X.ex
 FC:∀b∈X.ex,b ∉ X.fs
 oG:X.dl.heap.FunFrames X.base X.outer
 frf:∀b∈X.fs,X.H₀ b=none
structure Inv(X:Cx)(pins:List (Addr×Obj))(Y:List (Option V))(H:Hp)(s:Shared):Prop where
 ok:X.Ok
 os:s.os=X.dl.os
 bare:AllBare s.gens
 base:Un X.fs X.ex X.H₀ H X.dl.heap s.heap
 loc:∃m,s.heap.Ns X.env.locals m/\∀(i:Nat) (x:Str) (v:V),X.N[i]? = some x->Y[i]? = some (some v)->Vis X.env.scope x->∃u,RelV v u/\Look X.env s.heap m x u
 cell:∀x c,X.env.cells.lookup x=some c->∃v,s.heap.IsCell c v
 free:H X.env.locals=none
 gI:∀x c,X.env.cells.lookup x=some c->H c=none
 pin:∀p∈X.pn++pins,s.heap.get? p.1=some p.2/\H p.1=none/\p.1≠X.env.locals/\p.1 ∉ X.fs/\∀v,p.2.data≠.cell v
 hok:HOk X.prog X.w H s.heap
 len:Y.length=X.N.length
section
variable {X:Cx}{pins:List (Addr×Obj)}{Y:List (Option V)}{H H':Hp}{s:Shared}{h':Heap}
theorem Inv.A9(I:Inv X pins Y H s):iA X.A s.heap:=by
 rcases I.ok.qt with q|⟨e,oe,vs,q,hp,r⟩
 ·exact .inl q
 ·exact .inr ⟨e,oe,vs,q,(I.pin (e,oe) (mem_append_left _ hp)).1,r⟩
theorem Inv.hne(I:Inv X pins Y H s){b:Addr}(hb:∀p∈X.pn++pins,p.1≠b):∀e,X.A.handled=some (.ref e)->e≠b:=fun e he=>by
 rcases I.ok.qt with q|⟨e1,oe,vs,q,hp,r⟩
 ·rw[q] at he;cases he
 ·rw[q] at he;cases he;exact hb (e,oe) (mem_append_left _ hp)
theorem Cx.Ok.Nc(ok:X.Ok){b:Addr}{o:Obj}(e:X.base.get? b=some o):b ∉ X.fs:=fun hb=>by
 have:=(ok.oG.mem hb).1
 rw[e] at this;cases this
theorem Inv.bs(I:Inv X pins Y H s):∀b o,X.base.get? b=some o->s.heap.get? b=some o/\H b=none:=fun b o e=>
 ⟨I.base.keep b o (I.ok.bs b o e).1 (I.ok.bs b o e).2 (I.ok.Nc e) (I.ok.zx b o e),I.base.free b o (I.ok.bs b o e).1 (I.ok.bs b o e).2 (I.ok.zx b o e)⟩
theorem Inv.bk(I:Inv X pins Y H s):∀b o,X.base.get? b=some o->s.heap.get? b=some o:=fun b o e=>(I.bs b o e).1
theorem Inv.mod(I:Inv X pins Y H s):Mod X.K X.mg X.base:=I.ok.mod
theorem Inv.kIn(I:Inv X pins Y H s):X.K.In s.heap:=I.ok.mod.kin.keeps I.bk
theorem Inv.lt(I:Inv X pins Y H s):X.env.locals<s.heap.objs.size:=let ⟨_,hn,_⟩:=I.loc;hn.lt
theorem Inv.sz(I:Inv X pins Y H s):X.dl.heap.objs.size<=s.heap.objs.size:=le_trans I.ok.above (le_of_lt I.lt)
theorem Inv.M3(I:Inv X pins Y H s){a:Addr}(h:s.heap.objs.size<=a):a ∉ X.fs:=fun hb=>by
 obtain⟨_,o,ho,_⟩:=I.ok.oG.mem hb
 exact absurd (lt_of_lt_of_le (Heap.lt_size ho) (le_trans I.sz h)) (lt_irrefl _)
theorem Inv.cne(I:Inv X pins Y H s):∀x c,X.env.cells.lookup x=some c->c≠X.env.locals:=fun x c e z=>by
 obtain⟨v,o,ho,hd⟩:=I.cell x c e
 obtain⟨m,⟨o',es,ep,ho',hd',_⟩,_⟩:=I.loc
 rw[z,ho'] at ho;cases ho;rw[hd'] at hd;cases hd
theorem Inv.oG(I:Inv X pins Y H s):s.heap.FunFrames X.base X.outer:=by
 have all:∀(l:List Env),(∀b∈frs l,b∈X.fs)->X.dl.heap.FunFrames X.base l->s.heap.FunFrames X.base l:=by
  intro l
  induction l with
  |nil=>intro _ _;trivial
  |cons env r ih=>
   intro hs hl
   obtain⟨hk,⟨L,o,hf,hn,ho,hd⟩,hr⟩:=hl
   have hL:L∈X.fs:=hs L (by unfold frs;rw[filterMap_cons,hf];exact mem_cons_self)
   obtain⟨sl,e⟩:=I.base.slot L o ho (I.ok.frf L hL) hL fun z=>I.ok.FC L z hL
   exact⟨hk,⟨L,_,hf,hn,e,hd⟩,ih (fun b hb=>hs b (by unfold frs;rw[filterMap_cons,hf];exact mem_cons_of_mem _ hb)) hr⟩
 exact all X.outer (fun _ hb=>hb) I.ok.oG
theorem Inv.stack(I:Inv X pins Y H s):s.heap.FunFrames X.base X.stack:=by
 rcases I.ok.stk with e|⟨e,hf⟩
 ·rw[e];exact I.oG
 ·rw[e]
  obtain⟨m,hn,_⟩:=I.loc
  refine .cons (by rw[I.ok.kind];decide) hf hn ?_ I.oG
  exact Heap.get?_none_of_le (le_trans I.ok.bsz I.ok.above)
theorem Inv.nr(I:Inv X pins Y H s):∀b∈frs X.stack,b∈X.env.locals::X.fs:=fun b hb=>by
 rcases I.ok.stk with e|⟨e,hf⟩
 ·rw[e] at hb;exact mem_cons_of_mem _ hb
 ·rw[e] at hb
  unfold frs at hb
  rw[filterMap_cons,hf] at hb
  exact hb
theorem Inv.pd(I:Inv X pins Y H s):∀b∈frs X.stack,H b=none:=fun b hb=>by
 rcases List.mem_cons.mp (I.nr b hb) with e|hb
 ·rw[e];exact I.free
 ·obtain⟨_,o,ho,_⟩:=I.ok.oG.mem hb
  exact I.base.free b o ho (I.ok.frf b hb) fun z=>I.ok.FC b z hb
theorem Inv.step{g':Array GenState}{t':Nat}{d':Drawn}{ch:List Addr}(I:Inv X pins Y H s)
  (hch:∀b∈ch,(b∈X.ex\/X.dl.heap.objs.size<=b)/\b≠X.env.locals/\(∀x c,X.env.cells.lookup x=some c->c≠b)/\∀p∈X.pn++pins,p.1≠b)
  (keep:∀b o,b≠X.env.locals->b ∉ X.fs->b ∉ ch->s.heap.get? b=some o->H b=none->h'.get? b=some o)
  (slot:∀b o,b≠X.env.locals->b∈X.fs->b ∉ ch->s.heap.get? b=some o->H b=none->∃sl,h'.get? b=some {o with slots:=sl}) (free:∀b o,b ∉ ch->s.heap.get? b=some o->H b=none->H' b=none)
  (there:∀b o,b ∉ ch->s.heap.get? b=some o->∃o',h'.get? b=some o')
  (oD:∀b xs,H b=some (.tup xs)->H' b=some (.tup xs)) (nQ:∀b o u,H b=some (.frz o u)->H' b=some (.frz o u)) (nS:∀b ps,H b=some (.tbl ps)->∃more,H' b=some (.tbl (ps++more)))
  (ns:∀m,s.heap.Ns X.env.locals m->h'.Ns X.env.locals m) (hok:HOk X.prog X.w H' h') (hg:AllBare g') :
  Inv X pins Y H' {s with heap:=h',gens:=g',drawn:=d',toks:=t'}:=by
 have neL:∀b o,X.dl.heap.get? b=some o->b≠X.env.locals:=fun b o e=>ne_of_lt (lt_of_lt_of_le (Heap.lt_size e) I.ok.above)
 have neC:∀b o,X.dl.heap.get? b=some o->b ∉ X.ex->b ∉ ch:=fun b o e hx hb=>by
  rcases (hch b hb).1 with z|z
  ·exact hx z
  ·exact absurd (lt_of_lt_of_le (Heap.lt_size e) z) (lt_irrefl _)
 have cellK:∀x c,X.env.cells.lookup x=some c->∀v,s.heap.IsCell c v->h'.IsCell c v:=fun x c e v ⟨o,ho,hd⟩=>by
  have nch:c ∉ ch:=fun z=>(hch c z).2.2.1 x c e rfl
  by_cases hc:c∈X.fs
  ·obtain⟨sl,q⟩:=slot c o (I.cne x c e) hc nch ho (I.gI x c e)
   exact⟨_,q,hd⟩
  ·exact⟨o,keep c o (I.cne x c e) hc nch ho (I.gI x c e),hd⟩
 refine⟨I.ok,I.os,hg,⟨fun b o e n hb hx=>?_,fun b o e n hb hx=>?_,fun b o e n hx=>?_,fun b o e hx=>?_,fun b xs e=>oD b xs (I.base.oD b xs e),fun b o xs e=>nQ b o xs (I.base.nQ b o xs e),fun b ps e=>?_⟩,?_,fun x c e=>?_,?_,fun x c e=>?_,fun p hp=>?_,hok,I.len⟩
 ·exact keep b o (neL b o e) hb (neC b o e hx) (I.base.keep b o e n hb hx) (I.base.free b o e n hx)
 ·obtain⟨sl,e1⟩:=I.base.slot b o e n hb hx
  obtain⟨sl',e2⟩:=slot b _ (neL b o e) hb (neC b o e hx) e1 (I.base.free b o e n hx)
  exact⟨sl',e2⟩
 ·obtain⟨o',e1⟩:=I.base.there b o e hx
  exact free b o' (neC b o e hx) e1 (I.base.free b o e n hx)
 ·obtain⟨o',e1⟩:=I.base.there b o e hx
  exact there b o' (neC b o e hx) e1
 ·obtain⟨m1,e1⟩:=I.base.nS b ps e
  obtain⟨m2,e2⟩:=nS b _ e1
  exact⟨m1++m2,by rw[e2,Array.append_assoc]⟩
 ·obtain⟨m,hn,hl⟩:=I.loc
  refine⟨m,ns m hn,fun i x v e1 e2 e3=>?_⟩
  obtain⟨u,r,l⟩:=hl i x v e1 e2 e3
  refine⟨u,r,?_⟩
  rcases l with l|⟨k,c,e,z⟩
  ·exact .inl l
  ·exact .inr ⟨k,c,e,cellK x c e _ z⟩
 ·obtain⟨v,z⟩:=I.cell x c e
  exact⟨v,cellK x c e v z⟩
 ·obtain⟨m,⟨o,_,_,ho,_⟩,_⟩:=I.loc
  exact free _ o (fun z=>(hch _ z).2.1 rfl) ho I.free
 ·obtain⟨v,o,ho,hd⟩:=I.cell x c e
  exact free c o (fun z=>(hch c z).2.2.1 x c e rfl) ho (I.gI x c e)
 ·obtain⟨e,n,ne,nf,d⟩:=I.pin p hp
  have nch:p.1 ∉ ch:=fun z=>(hch p.1 z).2.2.2 p hp rfl
  exact⟨keep p.1 p.2 ne nf nch e n,free p.1 p.2 nch e n,ne,nf,d⟩
theorem Inv.un{t':Nat}(I:Inv X pins Y H s)(u:Un X.fs [] H H' s.heap h')(hok:HOk X.prog X.w H' h'):Inv X pins Y H' {s with heap:=h',toks:=t'}:=by
 obtain⟨m,⟨o,es,ep,ho,r⟩,_⟩:=id I.loc
 obtain⟨sl,hL⟩:=u.any ho I.free (by simp)
 exact I.step (g':=s.gens) (d':=s.drawn) (ch:=[]) (fun _ z=>nomatch z) (fun b o _ hb _ e n=>u.keep b o e n hb (by simp)) (fun b o _ hb _ e n=>u.slot b o e n hb (by simp)) (fun b o _ e n=>u.free b o e n (by simp)) (fun b o _ e=>u.there b o e (by simp)) u.oD u.nQ u.nS (fun m' hm=>by
  obtain⟨o',es',ep',ho',r'⟩:=hm
  rw[ho] at ho';cases ho'
  exact⟨_,es',ep',hL,r'⟩) hok I.bare
theorem Inv.call{g':Array GenState}{t':Nat}{d':Drawn}{ch:List Addr}(I:Inv X pins Y H s)(u:Un (frs X.stack) ch H H' s.heap h')(hok:HOk X.prog X.w H' h')(hg:AllBare g')
  (hch:∀b∈ch,(b∈X.ex\/X.dl.heap.objs.size<=b)/\b≠X.env.locals/\(∀x c,X.env.cells.lookup x=some c->c≠b)/\∀p∈X.pn++pins,p.1≠b) :
  Inv X pins Y H' {s with heap:=h',gens:=g',drawn:=d',toks:=t'}:=by
 obtain⟨m,⟨o,es,ep,ho,r⟩,_⟩:=id I.loc
 obtain⟨sl,hL⟩:=u.any ho I.free fun z=>(hch _ z).2.1 rfl
 exact I.step (ch:=ch) hch (fun b o hL hb hc e n=>u.keep b o e n (fun z=>(List.mem_cons.mp (I.nr b z)).elim hL hb) hc) (fun b o _ _ hc e n=>u.any e n hc) (fun b o hc e n=>u.free b o e n hc) (fun b o hc e=>u.there b o e hc) u.oD u.nQ u.nS (fun m' hm=>by
  obtain⟨o',es',ep',ho',r'⟩:=hm
  rw[ho] at ho';cases ho'
  exact⟨_,es',ep',hL,r'⟩) hok hg
theorem Inv.turned{t':Nat}{it:Addr}(I:Inv X pins Y H s)(k:∀b o,b≠it->s.heap.get? b=some o->h'.get? b=some o)(hn:H it=none)(hL:it≠X.env.locals)
  (h1:it∈X.ex\/X.dl.heap.objs.size<=it) (h2:∀x c,X.env.cells.lookup x=some c->c≠it) (h3:∀p∈X.pn++pins,p.1≠it):Inv X pins Y H {s with heap:=h',toks:=t'}:=by
 have nit:∀b u,H b=some u->b≠it:=fun b u e z=>by rw[z,hn] at e;cases e
 refine I.step (g':=s.gens) (d':=s.drawn) (ch:=[it]) (fun b hb=>?_) (fun b o _ _ hc e _=>k b o (fun z=>hc (by simp[z])) e) (fun b o _ _ hc e _=>⟨o.slots,k b o (fun z=>hc (by simp[z])) e⟩) (fun _ _ _ _ n=>n)
  (fun b o hc e=>⟨o,k b o (fun z=>hc (by simp[z])) e⟩) (fun _ _ e=>e) (fun _ _ _ e=>e) (fun b ps e=>⟨#[],by rw[e];simp⟩) (fun m hm=>?_) (fun b u e=>?_) I.bare
 ·have e:b=it:=by simpa using hb
  subst e
  exact⟨h1,hL,h2,h3⟩
 ·obtain⟨o,es,ep,ho,r⟩:=hm
  exact⟨o,es,ep,k _ o (Ne.symm hL) ho,r⟩
 ·refine (I.hok b u e).pz (fun c v hc q=>k c v ?_ q) (fun _ q=>q) fun _ _ q=>q
  rcases hc with z|z
  ·rw[z];exact nit b u e
  ·exact nit c _ z
theorem Inv.tok(I:Inv X pins Y H s)(t:Nat):Inv X pins Y H {s with toks:=t}:=I.un (h':=s.heap) (t':=t) Un.refl I.hok
theorem Inv.kept{t':Nat}(I:Inv X pins Y H s)(k:∀b u,s.heap.get? b=some u->h'.get? b=some u):Inv X pins Y H {s with heap:=h',toks:=t'}:=I.un (Un.kept k) (I.hok.kept k)
theorem Inv.laid{a:Addr}{o:HO}{t':Nat}(I:Inv X pins Y H s)(k:∀b u,s.heap.get? b=some u->h'.get? b=some u)(hp:s.heap.objs.size<=a)(new:jw X.prog X.w (upd H a o) h' a o) :
  Inv X pins Y (upd H a o) {s with heap:=h',toks:=t'}:=I.un (Un.laid k hp (I.hok.fresh hp)) (I.hok.laid k hp new)
theorem Inv.write{x e:Addr}{o:HO}{t':Nat}(I:Inv X pins Y H s)(mu:Mut (H x))(he:e=x\/H e=some (.own x))(k:∀b u,b≠e->s.heap.get? b=some u->h'.get? b=some u)(heo:∃u,h'.get? e=some u)
  (new:jw X.prog X.w (upd H x o) h' x o):Inv X pins Y (upd H x o) {s with heap:=h',toks:=t'}:=I.un (Un.write mu he k heo) (I.hok.write mu he k heo new)
theorem Inv.Ct{pins':List (Addr×Obj)}(I:Inv X pins Y H s)(h:∀p∈pins',s.heap.get? p.1=some p.2/\H p.1=none/\p.1≠X.env.locals/\p.1 ∉ X.fs/\∀v,p.2.data≠.cell v):Inv X pins' Y H s:=
 ⟨I.ok,I.os,I.bare,I.base,I.loc,I.cell,I.free,I.gI,fun p hp=>(List.mem_append.mp hp).elim (fun z=>I.pin p (mem_append_left _ z)) (h p),I.hok,I.len⟩
theorem zu{N:List Str}(hN:N.Nodup){i j:Nat}{x:Str}(a:N[i]? = some x)(b:N[j]? = some x):i=j:=by
 obtain⟨h1,e1⟩:=List.getElem?_eq_some_iff.mp a
 obtain⟨h2,e2⟩:=List.getElem?_eq_some_iff.mp b
 exact (List.getElem_inj hN).mp (e1.trans e2.symm)
theorem Eb{M:Model}{A:Around}{E:Value->Shared->Prop}{i:Nat}{x:Str}{v:V}{u:Value}{Q:Unit->Shared->Prop}(I:Inv X pins Y H s)(hN:X.N.Nodup)(hi:X.N[i]? = some x)(hx:Loc X.env.scope x)(r:RelV v u)
  (h:∀s',Inv X pins (Y.set i (some v)) H s'->(∃a,Heap.SameBut a s.heap s'.heap/\(a=X.env.locals\/X.env.cells.lookup x=some a))->Q () s') (hf:X.fn x=true\/X.env.scope.names.lookup x=some .local:=by first|exact .inl rfl|exact .inr rfl|assumption):wpAny M A (storeName X.env x u) Q E s:=by
 obtain⟨m,hn,hl⟩:=id I.loc
 have hcls:(X.env.scope.kind==.class || (X.env.scope.kind==.module&&X.env.locals != X.env.globals))=false:=by rw[I.ok.kind];rfl
 have sB:i<Y.length:=by rw[I.len];exact (List.getElem?_eq_some_iff.mp hi).1
 have cne:=I.cne
 have tracked:∀{a:Addr} {h':Heap},(∃o,s.heap.get? a=some o/\H a=none)->Heap.SameBut a s.heap h'->HOk X.prog X.w H h':=fun {a h'} ha hs b ob e=>by
  obtain⟨_,_,hfree⟩:=ha
  refine (I.hok b ob e).pz (fun c w' hc q=>(hs.2 c ?_).trans q) (fun _ q=>q) fun _ _ q=>q
  rintro rfl
  rcases hc with rfl|hc
  ·rw[hfree] at e;cases e
  ·rw[hfree] at hc;cases hc
 rcases hx with hk|hk
 ·refine wpAny_storeName_local hk hn (fun h' hn' hs=>?_) hcls
  obtain⟨oL,_,_,hoL,_⟩:=id hn
  refine h _ ⟨I.ok,I.os,I.bare,⟨fun b o e n hb hx=>?_,fun b o e n hb hx=>?_,I.base.free,fun b o e hx=>?_,I.base.oD,I.base.nQ,I.base.nS⟩,⟨_,hn',fun j y v' e1 e2 e3=>?_⟩,fun y c e=>?_,I.free,I.gI,fun p hp=>?_,tracked ⟨oL,hoL,I.free⟩ hs,by simpa using I.len⟩ ⟨_,hs,.inl rfl⟩
  ·exact (hs.2 b (ne_of_lt (lt_of_lt_of_le (Heap.lt_size e) I.ok.above))).trans (I.base.keep b o e n hb hx)
  ·obtain⟨sl,e1⟩:=I.base.slot b o e n hb hx
   exact⟨sl,(hs.2 b (ne_of_lt (lt_of_lt_of_le (Heap.lt_size e) I.ok.above))).trans e1⟩
  ·obtain⟨o',e1⟩:=I.base.there b o e hx
   exact⟨o',(hs.2 b (ne_of_lt (lt_of_lt_of_le (Heap.lt_size e) I.ok.above))).trans e1⟩
  ·by_cases hj:j=i
   ·subst hj
    rw[hi] at e1;cases e1
    rw[List.getElem?_set_self sB] at e2
    cases e2
    exact⟨u,r,.inl ⟨hk,by simp⟩⟩
   ·rw[List.getElem?_set_ne (Ne.symm hj)] at e2
    obtain⟨u',r',q⟩:=hl j y v' e1 e2 e3
    refine⟨u',r',?_⟩
    rcases q with ⟨k,e⟩|⟨k,c,e,z⟩
    ·refine .inl ⟨k,?_⟩
     have:y≠x:=fun e=>hj (zu hN e1 (e▸hi))
     simp[this,e]
    ·exact .inr ⟨k,c,e,z.sameBut hs (cne y c e)⟩
  ·obtain⟨w',z⟩:=I.cell y c e
   exact⟨w',z.sameBut hs (cne y c e)⟩
  ·obtain⟨e,n,ne,nf,d⟩:=I.pin p hp
   exact⟨(hs.2 p.1 ne).trans e,n,ne,nf,d⟩
 ·have hfn:X.fn x=true:=by
   rcases hf with z|z
   ·exact z
   ·rw[z] at hk;cases hk
  obtain⟨c,hc⟩:=I.ok.has x (.inl hk)
  obtain⟨w',z⟩:=I.cell x c hc
  refine wpAny_storeName_cell I.ok.kind hk hc z (fun h' hc' hs=>?_)
  obtain⟨oc,hoc,hocd⟩:=id z
  refine h {s with heap:=h'} ⟨I.ok,I.os,I.bare,⟨fun b o e n hb hx=>?_,fun b o e n hb hx=>?_,I.base.free,fun b o e hx=>?_,I.base.oD,I.base.nQ,I.base.nS⟩,⟨m,hn.sameBut hs (Ne.symm (cne x c hc)),fun j y v' e1 e2 e3=>?_⟩,fun y c' e=>?_,I.free,I.gI,fun p hp=>?_,tracked ⟨oc,hoc,I.gI x c hc⟩ hs,by simpa using I.len⟩ ⟨c,hs,.inr hc⟩
  ·exact (hs.2 b (ne_of_lt (lt_of_lt_of_le (Heap.lt_size e) (I.ok.cab x c hfn hc)))).trans (I.base.keep b o e n hb hx)
  ·obtain⟨sl,e1⟩:=I.base.slot b o e n hb hx
   exact⟨sl,(hs.2 b (ne_of_lt (lt_of_lt_of_le (Heap.lt_size e) (I.ok.cab x c hfn hc)))).trans e1⟩
  ·obtain⟨o',e1⟩:=I.base.there b o e hx
   exact⟨o',(hs.2 b (ne_of_lt (lt_of_lt_of_le (Heap.lt_size e) (I.ok.cab x c hfn hc)))).trans e1⟩
  ·by_cases hj:j=i
   ·subst hj
    rw[hi] at e1;cases e1
    rw[List.getElem?_set_self sB] at e2
    cases e2
    exact⟨u,r,.inr ⟨.inl hk,c,hc,hc'⟩⟩
   ·rw[List.getElem?_set_ne (Ne.symm hj)] at e2
    obtain⟨u',r',q⟩:=hl j y v' e1 e2 e3
    refine⟨u',r',?_⟩
    rcases q with q|⟨k,c',e,z'⟩
    ·exact .inl q
    ·refine .inr ⟨k,c',e,z'.sameBut hs ?_⟩
     rintro rfl
     exact hj (zu hN e1 (I.ok.inj _ _ _ e hc▸hi))
  ·by_cases hcc:c'=c
   ·subst hcc;exact⟨_,hc'⟩
   ·obtain⟨w2,z2⟩:=I.cell y c' e
    exact⟨w2,z2.sameBut hs hcc⟩
  ·obtain⟨e,n,ne,nf,d⟩:=I.pin p hp
   refine⟨(hs.2 p.1 ?_).trans e,n,ne,nf,d⟩
   intro q
   rw[q,hoc] at e
   have q':oc=p.2:=Option.some.inj e
   exact d w' (by rw[<- q'];exact hocd)
theorem jy{M:Model}{A:Around}{E:Value->Shared->Prop}{i:Nat}{x:Str}{v:V}{u:Value}{Q:Unit->Shared->Prop}(I:Inv X pins Y H s)(hN:X.N.Nodup)(hi:X.N[i]? = some x)(hx:Loc X.env.scope x)(r:RelV v u)
  (h:∀s',Inv X pins (Y.set i (some v)) H s'->Q () s') (hf:X.fn x=true\/X.env.scope.names.lookup x=some .local:=by first|exact .inl rfl|exact .inr rfl|assumption):wpAny M A (storeName X.env x u) Q E s:=
 Eb I hN hi hx r (fun s' I' _=>h s' I') hf
theorem Inv.uR{s':Shared}{ch:List Addr}(I:Inv X pins Y H s)(ho:s'.os=s.os)(u:Un (frs X.stack) ch H H' s.heap s'.heap)(hok:HOk X.prog X.w H' s'.heap)(hg:AllBare s'.gens)
  (hch:∀b∈ch,(b∈X.ex\/X.dl.heap.objs.size<=b)/\b≠X.env.locals/\(∀x c,X.env.cells.lookup x=some c->c≠b)/\∀p∈X.pn++pins,p.1≠b):Inv X pins Y H' s':=by
 obtain⟨h',g',d',t',o'⟩:=s'
 have e:o'=s.os:=ho
 subst e
 exact I.call (g':=g') (t':=t') (d':=d') u hok hg hch
end
abbrev XK:=Value->Option Addr->Hp->Prop
abbrev St:=List (Option V)
abbrev VK:=V->Hp->Prop
abbrev TE:=St->Hp->VK->Prop
abbrev TT:=St->Hp->(Bool->Hp->Prop)->Prop
abbrev TA:=St->Hp->(List V->Hp->Prop)->Prop
structure Ends where
 nx:St->Hp->Prop
 rt:VK
 bk:St->Hp->Prop:=fun _ _=>False
 ct:St->Hp->Prop:=fun _ _=>False
abbrev TS:=Ends->St->Hp->Prop
noncomputable def EP(X:Cx)(pins:List (Addr×Obj))(Y:St)(Q:VK)(u:Value)(s':Shared):Prop:=∃v H',Inv X pins Y H' s'/\RelV v u/\Q v H'
noncomputable def TP(X:Cx)(pins:List (Addr×Obj))(Y:St)(Q:Bool->Hp->Prop)(b:Bool)(s':Shared):Prop:=∃H',Inv X pins Y H' s'/\Q b H'
noncomputable def AP(X:Cx)(pins:List (Addr×Obj))(Y:St)(Q:List V->Hp->Prop)(us:List Value)(s':Shared):Prop:=∃vs H',Inv X pins Y H' s'/\Vals vs us/\Q vs H'
noncomputable def SP(X:Cx)(pins:List (Addr×Obj))(D:Ends)(f:Flow)(s':Shared):Prop:=
 match f with
 |.next=>∃ap H',Inv X pins ap H' s'/\D.nx ap H'
 |.brk=>∃ap H',Inv X pins ap H' s'/\D.bk ap H'
 |.cont=>∃ap H',Inv X pins ap H' s'/\D.ct ap H'
 |.ret u=>∃v ap H',Inv X pins ap H' s'/\RelV v u/\D.rt v H'
noncomputable def PE(X:Cx)(e:Expr)(t:TE):Prop:=
 ∀(pins:List (Addr×Obj)) (s:Shared) (Y:St) (H:Hp) (Q:VK),Inv X pins Y H s->t Y H Q->wpAny (model X.prog X.w) X.A (eval e X.env) (EP X pins Y Q) X.xe s
noncomputable def PT(X:Cx)(e:Expr)(t:TT):Prop:=
 ∀(pins:List (Addr×Obj)) (s:Shared) (Y:St) (H:Hp) (Q:Bool->Hp->Prop),Inv X pins Y H s->t Y H Q->wpAny (model X.prog X.w) X.A (isTrue e X.env (eval e X.env)) (TP X pins Y Q) X.xe s
noncomputable def PW(X:Cx)(e:Expr)(t:TT):Prop:=
 ∀(whole:Sem Value) (pins:List (Addr×Obj)) (s:Shared) (Y:St) (H:Hp) (Q:Bool->Hp->Prop),Inv X pins Y H s->t Y H Q->wpAny (model X.prog X.w) X.A (isTrue e X.env whole) (TP X pins Y Q) X.xe s
theorem PW.pt{X:Cx}{e:Expr}{t:TT}(h:PW X e t):PT X e t:=h _
noncomputable def PA(X:Cx)(es:List Expr)(t:TA):Prop:=
 ∀(pos:Pos) (pins:List (Addr×Obj)) (s:Shared) (Y:St) (H:Hp) (Q:List V->Hp->Prop),Inv X pins Y H s->t Y H Q->wpAny (model X.prog X.w) X.A (spliced (backTo pos (starEach es X.env))) (AP X pins Y Q) X.xe s
noncomputable def PS(X:Cx)(st:Stmt)(t:TS):Prop:=
 ∀(pins:List (Addr×Obj)) (s:Shared) (Y:St) (H:Hp) (D:Ends),Inv X pins Y H s->t D Y H->wpAny (model X.prog X.w) X.A (exec st X.env) (SP X pins D) X.xe s
noncomputable def PSs(X:Cx)(st:List Stmt)(t:TS):Prop:=
 ∀(pins:List (Addr×Obj)) (s:Shared) (Y:St) (H:Hp) (D:Ends),Inv X pins Y H s->t D Y H->wpAny (model X.prog X.w) X.A (execs st X.env) (SP X pins D) X.xe s
theorem thn{α:Type}{t:Sem α}{Q Q':α->Shared->Prop}{M:Model}{A:Around}{E:Value->Shared->Prop}{s:Shared}(h:wpAny M A t Q E s)(hQ:∀a s,Q a s->Q' a s):wpAny M A t Q' E s:=wpAny_mono h hQ fun _ _ x=>x
end L2
namespace L2
open PySem PySem.Spec PyProof.Rows
section
variable {X:Cx}
theorem bin{a b:Expr}{ta tb:TE}(ha:PE X a ta)(hb:PE X b tb){pins:List (Addr×Obj)}{s:Shared}{Y:St}{H:Hp}{R:V->V->Hp->Prop}(I:Inv X pins Y H s)(h:ta Y H fun x H1=>tb Y H1 fun y H2=>R x y H2)
  {α:Type} {Q:α->Shared->Prop} {f:Value->Value->Sem α}
  (hf:∀v u s2 x y H2,Inv X pins Y H2 s2->RelV x v->RelV y u->R x y H2->wpAny (model X.prog X.w) X.A (f v u) Q X.xe s2) :
  wpAny (model X.prog X.w) X.A (eval a X.env) (fun v bi=>wpAny (model X.prog X.w) X.A (eval b X.env) (fun u ks=>wpAny (model X.prog X.w) X.A (f v u) Q X.xe ks) X.xe bi) X.xe s:=by
 refine thn (ha pins s Y H _ I h) fun v s1 ⟨x,H1,I1,r1,q1⟩=>?_
 refine thn (hb pins s1 Y H1 _ I1 q1) fun u s2 ⟨y,H2,I2,r2,q2⟩=>?_
 exact hf v u s2 x y H2 I2 r1 r2 q2
noncomputable def MM(i:Nat):TE:=fun Y H Q=>∃v,Y[i]? = some (some v)/\Q v H
noncomputable def tC(v:V):TE:=fun _ H Q=>Q v H
theorem BS{i:Nat}{x:Str}{pos:Pos}(hN:X.N[i]? = some x)(hv:Vis X.env.scope x)(hd:(x==("__debug__":Str))=false:=by decide)(hcd:(x==("__classdict__":Str))=false:=by decide):PE X (.Name x pos) (MM i):=by
 intro pins s Y H Q I h
 obtain⟨v,e,h⟩:=h
 obtain⟨m,hn,hl⟩:=I.loc
 obtain⟨u,r,l⟩:=hl i x v hN e hv
 have fin:EP X pins Y Q u s:=⟨v,H,I,r,h⟩
 rcases l with ⟨hk,hm⟩|⟨hk,c,hc,hcell⟩
 ·exact wpAny_Name (wpAny_loadName_local I.ok.kind hk hn hm fin) hd
 ·rcases hk with hk|hk
  ·exact wpAny_Name (wpAny_loadName_cell I.ok.kind hk hc hcell fin) hd
  ·exact wpAny_Name (wpAny_loadName_free I.ok.kind hk hc hcell fin hcd) hd
theorem Jm{i j pos}:PE X (.Constant (.int i) j pos) (tC (.int i)):=fun _ _ _ H _ I h=>wpAny_Constant_int ⟨.int i,H,I.tok _,⟨_,rfl⟩,h⟩
theorem Mq{b j pos}:PE X (.Constant (.bool b) j pos) (tC (.bl b)):=fun _ _ _ H _ I h=>Constant_bool ⟨.bl b,H,I,rfl,h⟩
theorem EG{j pos}:PE X (.Constant .none j pos) (tC .non):=fun _ _ _ H _ I h=>Constant_none ⟨.non,H,I,rfl,h⟩
theorem ED{x j pos}:PE X (.Constant (.str x) j pos) (tC (.str x)):=fun _ _ _ H _ I h=>Calls.Constant_str ⟨.str x,H,I.tok _,⟨_,rfl⟩,h⟩
noncomputable def Gl(X:Cx)(x:Str):Prop:=X.env.kindOf x=some .globalImplicit
theorem nE{E:Value->Shared->Prop}{pins:List (Addr×Obj)}{s:Shared}{Y:St}{H:Hp}{x:Str}{u:Value}{pos:Pos}{Q:Value->Shared->Prop}(I:Inv X pins Y H s)(hg:Gl X x)(hm:X.mg x=some u)(h:Q u s)
  (hd:(x==("__debug__":Str))=false:=by decide):wpAny (model X.prog X.w) X.A (eval (.Name x pos) X.env) Q E s:=
 Calls.Name_function_global I.ok.kind hg (Calls.loadGlobal_global (by rw[I.ok.glob];exact I.mod.glob.keeps I.bk) hm h) hd
theorem yj{E:Value->Shared->Prop}{pins:List (Addr×Obj)}{s:Shared}{Y:St}{H:Hp}{x:Str}{u:Value}{pos:Pos}{Q:Value->Shared->Prop}(I:Inv X pins Y H s)(hg:Gl X x)(hm:X.mg x=none)(hv:bootBuiltins x=some u)(h:Q u s)
  (hn:x ≠ "__name__":=by decide) (hd:(x==("__debug__":Str))=false:=by decide):wpAny (model X.prog X.w) X.A (eval (.Name x pos) X.env) Q E s:=by
 obtain⟨mb,h1,h2⟩:=I.mod.blt
 exact Calls.Name_function_global I.ok.kind hg (Calls.loadGlobal_builtin (by rw[I.ok.glob];exact I.mod.glob.keeps I.bk) hm (by rw[I.ok.blt];exact h1.keeps I.bk) ((h2 x hn).trans hv) h) hd
theorem za{x:Str}{v:V}{u:Value}{pos:Pos}(hg:Gl X x)(hm:X.mg x=some u)(r:RelV v u)(hd:(x==("__debug__":Str))=false:=by decide):PE X (.Name x pos) (tC v):=
 fun _ _ _ H _ I h=>nE I hg hm ⟨v,H,I,r,h⟩ hd
theorem CO{x:Str}{v:V}{u:Value}{pos:Pos}(hg:Gl X x)(hm:X.mg x=none)(hv:bootBuiltins x=some u)(r:RelV v u)(hn:x ≠ "__name__":=by decide)(hd:(x==("__debug__":Str))=false:=by decide):PE X (.Name x pos) (tC v):=
 fun _ _ _ H _ I h=>yj I hg hm hv ⟨v,H,I,r,h⟩ hn hd
variable {a b:Expr}{ta tb:TE}{pos:Pos}
noncomputable def PC(X:Cx)(op:CmpOp)(a b:Expr)(t:TE):Prop:=
 ∀(pins:List (Addr×Obj)) (s:Shared) (Y:St) (H:Hp) (Q:VK),Inv X pins Y H s->t Y H Q ->
  wpAny (model X.prog X.w) X.A (eval a X.env) (fun v bi=>wpAny (model X.prog X.w) X.A (eval b X.env) (fun u ks=>wpAny (model X.prog X.w) X.A (compareOp op v u) (EP X pins Y Q) X.xe ks) X.xe bi) X.xe s
theorem FK(b:Expr){op:CmpOp}(h:op≠.In)(h2:op≠.NotIn):behindInMarks op b=false:=by
 have e1:(op==CmpOp.In)=false:=by cases op<;>first|rfl|exact absurd rfl h
 have e2:(op==CmpOp.NotIn)=false:=by cases op<;>first|rfl|exact absurd rfl h2
 cases b<;>simp[behindInMarks,e1,e2]
noncomputable def tB(t:TE):TT:=fun Y H Q=>t Y H fun x H1=>∃c,x = .bl c/\Q c H1
theorem Nv{op:CmpOp}{t:TE}(h:PC X op a b t)(h1:behindInMarks op b=false:=by first|exact FK _ ⋯ ⋯|rfl):PT X (.Compare a [op] [b] pos) (tB t):=by
 intro pins s Y H Q I hw
 refine wpAny_isTrue_Compare1 (thn (h pins s Y H _ I hw) fun v s1 h1=>thn h1 fun u s2 h2=>thn h2 fun c s3 ⟨x,H1,I1,r1,q1⟩=>?_) h1
 obtain⟨d,rfl,q⟩:=q1
 cases r1
 exact wpAny_truthy_bool ⟨H1,I1,q⟩
theorem KZ{e:Expr}{t:TE}(h:PE X e t)(he:∀whole,isTrue e X.env whole=(do let v <- whole;standAt e.pos;holding [v] (truthy v)):=by intro _;rfl):PT X e (tB t):=by
 intro pins s Y H Q I hw
 refine isTrue_plain (thn (h pins s Y H _ I hw) fun v s1 ⟨x,H1,I1,r1,q1⟩=>?_) (he _)
 obtain⟨d,rfl,q⟩:=q1
 cases r1
 exact wpAny_truthy_bool ⟨H1,I1,q⟩
variable {tA tB':TT}{rest:List Expr}
noncomputable def Nq(t u:TT):TT:=fun Y H Q=>t Y H fun c H1=>if c=true then u Y H1 Q else Q false H1
noncomputable def tOr(t u:TT):TT:=fun Y H Q=>t Y H fun c H1=>if c=true then Q true H1 else u Y H1 Q
noncomputable def Nk(t:TT):TT:=fun Y H Q=>t Y H fun c H1=>Q (!c) H1
theorem pw_and1(ha:PT X a tA):PW X (.BoolOp .And [a] pos) tA:=by
 intro wh pins s Y H Q I h
 refine isTrue_and (thn (ha pins s Y H Q I h) fun c s1 e=>?_)
 cases c with
 |true=>exact isTrue_and_nil e
 |false=>exact e
theorem pw_or1(ha:PT X a tA):PW X (.BoolOp .Or [a] pos) tA:=by
 intro wh pins s Y H Q I h
 refine isTrue_or (thn (ha pins s Y H Q I h) fun c s1 e=>?_)
 cases c with
 |false=>exact isTrue_or_nil e
 |true=>exact e
theorem pw_and(ha:PT X a tA)(hb:PW X (.BoolOp .And (b::rest) pos) tB'):PW X (.BoolOp .And (a::b::rest) pos) (Nq tA tB'):=by
 intro wh pins s Y H Q I h
 refine isTrue_and (thn (ha pins s Y H _ I h) fun c s1 ⟨H1,I1,q1⟩=>?_)
 cases c with
 |true=>exact hb wh pins s1 Y H1 Q I1 q1
 |false=>exact⟨H1,I1,q1⟩
theorem pw_or(ha:PT X a tA)(hb:PW X (.BoolOp .Or (b::rest) pos) tB'):PW X (.BoolOp .Or (a::b::rest) pos) (tOr tA tB'):=by
 intro wh pins s Y H Q I h
 refine isTrue_or (thn (ha pins s Y H _ I h) fun c s1 ⟨H1,I1,q1⟩=>?_)
 cases c with
 |true=>exact⟨H1,I1,q1⟩
 |false=>exact hb wh pins s1 Y H1 Q I1 q1
theorem JM(ha:PT X a tA):PT X (.UnaryOp .Not a pos) (Nk tA):=by
 intro pins s Y H Q I h
 exact isTrue_not (ha pins s Y H (fun c H1=>Q (!c) H1) I h)
noncomputable def MK(ta tb:TE):TE:=fun Y H Q=>ta Y H fun x H1=>∃c,x = .bl c/\if c=true then tb Y H1 Q else Q (.bl false) H1
noncomputable def Mc(ta:TE):TE:=fun Y H Q=>ta Y H fun x H1=>∃c,x = .bl c/\Q (.bl (!c)) H1
theorem Jp{op}{t:TE}(h:PE X a t):PE X (.BoolOp op [a] pos) t:=fun pins s Y H Q I hw=>BoolOp_one (h pins s Y H Q I hw)
theorem Ln(ha:PE X a ta)(hb:PE X (.BoolOp .And (b::rest) pos) tb):PE X (.BoolOp .And (a::b::rest) pos) (MK ta tb):=by
 intro pins s Y H Q I h
 refine BoolOp_and (thn (ha pins s Y H _ I h) fun v s1 ⟨x,H1,I1,r1,q1⟩=>?_)
 obtain⟨c,rfl,q1⟩:=q1
 cases r1
 refine wpAny_truthy_bool ?_
 cases c with
 |true=>exact hb pins s1 Y H1 Q I1 q1
 |false=>exact⟨.bl false,H1,I1,rfl,q1⟩
theorem Je(ha:PE X a ta):PE X (.UnaryOp .Not a pos) (Mc ta):=by
 intro pins s Y H Q I h
 refine UnaryOp_ (thn (ha pins s Y H _ I h) fun v s1 ⟨x,H1,I1,r1,q1⟩=>?_)
 obtain⟨c,rfl,q1⟩:=q1
 cases r1
 exact not_of (wpAny_truthy_bool ⟨.bl (!c),H1,I1,rfl,q1⟩)
noncomputable def tIf(t:TT)(ta tb:TE):TE:=fun Y H Q=>t Y H fun c H1=>if c=true then ta Y H1 Q else tb Y H1 Q
theorem Es{c:Expr}(hc:PT X c tA)(ha:PE X a ta)(hb:PE X b tb):PE X (.IfExp c a b pos) (tIf tA ta tb):=by
 intro pins s Y H Q I h
 refine wpAny_IfExp (thn (hc pins s Y H _ I h) fun d s1 ⟨H1,I1,q1⟩=>?_)
 cases d with
 |true=>exact ha pins s1 Y H1 Q I1 q1
 |false=>exact hb pins s1 Y H1 Q I1 q1
end
end L2
namespace L2
open PySem PySem.Spec PyProof.Rows
noncomputable def SqL(K:PySem.W.Frag)(H:Hp)(a:Addr)(xs:List V):Prop:=
 Rd H a (.lst xs) \/
  ∃(o:Obj) (its:Array Value) (n:Nat),K.lookup a=some o/\o.cls = .type "list"/\o.dict=none/\o.data = .seq its n/\its.size<=sizeLine/\Vals xs its.toList
noncomputable def SqT(K:PySem.W.Frag)(H:Hp)(a:Addr)(xs:List V):Prop:=
 Rd H a (.tup xs) \/
  ∃(o:Obj) (its:Array Value) (n:Nat),K.lookup a=some o/\o.cls = .type "tuple"/\o.data = .seq its n/\its.size<=sizeLine/\Vals xs its.toList
def Nb:Value->Option V
 |.none=>some .non
 |.bool b=>some (.bl b)
 |.int i _=>some (.int i)
 |.str x _=>some (.str x)
 |.bytes b _=>some (.byt b)
 |.float b _=>some (.flt b)
 |.ref a=>some (.ref a)
 |.type n=>some (.ty n)
 |_=>none
theorem RelV.abs{x:V}{u:Value}(r:RelV x u):Nb u=some x:=by
 cases x with
 |non=>cases r;rfl
 |bl _=>cases r;rfl
 |int _=>obtain⟨t,rfl⟩:=r;rfl
 |str _=>obtain⟨t,rfl⟩:=r;rfl
 |byt _=>obtain⟨t,rfl⟩:=r;rfl
 |flt _=>obtain⟨t,rfl⟩:=r;rfl
 |ref _=>cases r;rfl
 |ty _=>cases r;rfl
theorem RelV.inj{x y:V}{u:Value}(r:RelV x u)(q:RelV y u):x=y:=Option.some.inj (r.abs.symm.trans q.abs)
theorem Vals.inj:∀{xs ys:List V} {us:List Value},Vals xs us->Vals ys us->xs=ys
 |_,_,_,.nil,.nil=>rfl
 |_,_,_,.cons r t,.cons r' t'=>by rw[r.inj r',Vals.inj t t']
section
variable {X:Cx}{pins:List (Addr×Obj)}{Y:St}{H:Hp}{s:Shared}{a:Addr}{xs ys:List V}
theorem SqL.of{K:PySem.W.Frag}(h:H a=some (.lst xs)):SqL K H a xs:=.inl (.inl h)
theorem SqT.of{K:PySem.W.Frag}(h:H a=some (.tup xs)):SqT K H a xs:=.inl (.inl h)
theorem Inv.list(I:Inv X pins Y H s)(h:SqL X.K H a xs):∃its:List Value,Vals xs its/\PlainL s.heap a its.toArray/\xs.length<=sizeLine:=by
 rcases h with h|⟨o,its,n,hk,hc,hd,hs,hz,r⟩
 ·obtain⟨z,its,n,r,e⟩:=h.ok I.hok
  exact⟨its,r,⟨_,n,e,rfl,rfl,rfl⟩,z⟩
 ·refine⟨its.toList,r,⟨o,n,I.kIn a o hk,hc,hd,by simpa using hs⟩,?_⟩
  have e:=r.length
  simp only[Array.length_toList] at e
  omega
theorem Inv.tuple(I:Inv X pins Y H s)(h:SqT X.K H a xs):∃its:List Value,Vals xs its/\IsTup s.heap a its.toArray/\xs.length<=sizeLine:=by
 rcases h with h|⟨o,its,n,hk,hc,hs,hz,r⟩
 ·obtain⟨z,its,r,p⟩:=h.ok I.hok
  exact⟨its,r,p,z⟩
 ·refine⟨its.toList,r,⟨o,I.kIn a o hk,hc,n,by simpa using hs⟩,?_⟩
  have e:=r.length
  simp only[Array.length_toList] at e
  omega
theorem Inv.Ey(I:Inv X pins Y H s)(h:SqL X.K H a xs)(h':SqL X.K H a ys):xs=ys:=by
 obtain⟨its,r,⟨o,n,e,_,_,d⟩,_⟩:=I.list h
 obtain⟨its',r',⟨o',n',e',_,_,d'⟩,_⟩:=I.list h'
 rw[e] at e';cases e'
 rw[d] at d'
 injection d' with d1 _
 have:its=its':=by simpa using congrArg Array.toList d1
 subst this
 exact r.inj r'
theorem Inv.DN(I:Inv X pins Y H s)(h:SqT X.K H a xs)(h':SqT X.K H a ys):xs=ys:=by
 obtain⟨its,r,⟨o,e,_,n,d⟩,_⟩:=I.tuple h
 obtain⟨its',r',⟨o',e',_,n',d'⟩,_⟩:=I.tuple h'
 rw[e] at e';cases e'
 rw[d] at d'
 injection d' with d1 _
 have:its=its':=by simpa using congrArg Array.toList d1
 subst this
 exact r.inj r'
end
abbrev Cx.sD(X:Cx)(E:Value->Shared->Prop):Cx:={X with xe:=E}
abbrev Cx.nox(X:Cx):Cx:=X.sD fun _ _=>False
theorem Cx.Ok.sD{X:Cx}(ok:X.Ok)(E:Value->Shared->Prop):(X.sD E).Ok:=
 ⟨ok.mod,ok.kind,ok.glob,ok.blt,ok.above,ok.inj,ok.has,ok.cab,ok.hd,ok.qt,ok.frames,ok.stk,ok.exf,ok.bs,ok.bsz,ok.zx,ok.FC,ok.oG,ok.frf⟩
theorem Cx.Ok.kf{X:Cx}{E:Value->Shared->Prop}(ok:(X.sD E).Ok):X.Ok:=
 ⟨ok.mod,ok.kind,ok.glob,ok.blt,ok.above,ok.inj,ok.has,ok.cab,ok.hd,ok.qt,ok.frames,ok.stk,ok.exf,ok.bs,ok.bsz,ok.zx,ok.FC,ok.oG,ok.frf⟩
section
variable {X:Cx}{pins:List (Addr×Obj)}{Y:St}{H:Hp}{s:Shared}{E:Value->Shared->Prop}
theorem Inv.sD(I:Inv X pins Y H s)(E:Value->Shared->Prop):Inv (X.sD E) pins Y H s:=⟨I.ok.sD E,I.os,I.bare,I.base,I.loc,I.cell,I.free,I.gI,I.pin,I.hok,I.len⟩
theorem Inv.kf(I:Inv (X.sD E) pins Y H s):Inv X pins Y H s:=⟨I.ok.kf,I.os,I.bare,I.base,I.loc,I.cell,I.free,I.gI,I.pin,I.hok,I.len⟩
theorem SP.kf{D:Ends}{f:Flow}{s':Shared}(h:SP (X.sD E) pins D f s'):SP X pins D f s':=by
 cases f with
 |next=>obtain⟨ap,H',I,q⟩:=h;exact⟨ap,H',I.kf,q⟩
 |brk=>obtain⟨ap,H',I,q⟩:=h;exact⟨ap,H',I.kf,q⟩
 |cont=>obtain⟨ap,H',I,q⟩:=h;exact⟨ap,H',I.kf,q⟩
 |ret u=>obtain⟨v,ap,H',I,r,q⟩:=h;exact⟨v,ap,H',I.kf,r,q⟩
theorem PSs.nox{st:List Stmt}{t:TS}(h:PSs X.nox st t):PSs X st t:=fun pins s Y H D I hw=>
 wpAny_mono (h pins s Y H D (I.sD _) hw) (fun _ _ q=>q.kf) fun _ _ z=>False.elim z
end
section
variable {X:Cx}{st:Stmt}{rest:List Stmt}{t u:TS}{e:Expr}{te:TE}{pos:Pos}
noncomputable def Lv:TS:=fun D Y H=>D.nx Y H
noncomputable def LL(t u:TS):TS:=fun D Y H=>t {D with nx:=u D} Y H
theorem C1:PSs X [] Lv:=fun _ _ Y H _ I h=>wpAny_execs_nil ⟨Y,H,I,h⟩
theorem oQ(h1:PS X st t)(h2:PSs X rest u):PSs X (st::rest) (LL t u):=by
 intro pins s Y H D I h
 refine wpAny_execs_cons (thn (h1 pins s Y H {D with nx:=u D} I h) fun f s1 q=>?_)
 cases f with
 |next=>
  obtain⟨ap,H',I',q⟩:=q
  exact h2 pins s1 ap H' D I' q
 |ret v=>exact q
 |brk=>exact q
 |cont=>exact q
theorem Ik(h1:PS X st t):PSs X [st] t:=by
 intro pins s Y H D I h
 refine wpAny_execs_cons (thn (h1 pins s Y H D I h) fun f s1 q=>?_)
 cases f with
 |next=>exact wpAny_execs_nil q
 |ret v=>exact q
 |brk=>exact q
 |cont=>exact q
theorem Inv.quiet{pins:List (Addr×Obj)}{Y:St}{H:Hp}{s:Shared}(I:Inv X pins Y H s):interactive X.env=false:=by simp[interactive,I.ok.kind]
noncomputable def Md(te:TE):TS:=fun D Y H=>te Y H fun _ H1=>D.nx Y H1
theorem CN(he:PE X e te)(hs:swapsWith e none pos.line X.env=pure false:=by rfl):PS X (.Expr e pos) (Md te):=by
 intro pins s Y H D I h
 exact wpAny_Expr_any (thn (he pins s Y H _ I h) fun v s1 ⟨x,H1,I1,r1,q1⟩=>⟨Y,H1,I1,q1⟩) I.quiet hs
noncomputable def MY(te:TE):TS:=fun D Y H=>te Y H D.rt
theorem Ba(he:PE X e te):PS X (.Return (some e) pos) (MY te):=by
 intro pins s Y H D I h
 exact wpAny_Return_some (thn (he pins s Y H _ I h) fun v s1 ⟨x,H1,I1,r1,q1⟩=>⟨x,Y,H1,I1,r1,q1⟩)
noncomputable def Nm(c:TT)(t u:TS):TS:=fun D Y H=>c Y H fun b H1=>if b=true then t D Y H1 else u D Y H1
theorem IK{c:Expr}{a b:List Stmt}{tc:TT}(hc:PT X c tc)(ha:PSs X a t)(hb:PSs X b u):PS X (.If c a b pos) (Nm tc t u):=by
 intro pins s Y H D I h
 refine wpAny_If (thn (hc pins s Y H _ I h) fun d s1 ⟨H1,I1,q1⟩=>?_)
 cases d with
 |true=>exact ha pins s1 Y H1 D I1 q1
 |false=>exact hb pins s1 Y H1 D I1 q1
noncomputable def K2:TS:=fun _ _ _=>False
theorem wQ{sts:List Stmt}:PSs X sts K2:=fun _ _ _ _ _ _ h=>h.elim
end
abbrev TG:=V->St->Hp->(St->Hp->Prop)->Prop
abbrev TGs:=List V->St->Hp->(St->Hp->Prop)->Prop
noncomputable def PG(X:Cx)(target:Expr)(t:TG):Prop:=
 ∀(pins:List (Addr×Obj)) (s:Shared) (Y:St) (H:Hp) (v:V) (u:Value) (Q:St->Hp->Prop),Inv X pins Y H s->RelV v u->t v Y H Q ->
  wpAny (model X.prog X.w) X.A (assign target X.env u) (fun _ s'=>∃ap H',Inv X pins ap H' s'/\Q ap H') X.xe s
noncomputable def PGs(X:Cx)(ts:List Expr)(t:TGs):Prop:=
 ∀(pins:List (Addr×Obj)) (s:Shared) (Y:St) (H:Hp) (vs:List V) (us:List Value) (Q:St->Hp->Prop),Inv X pins Y H s->Vals vs us->t vs Y H Q ->
  wpAny (model X.prog X.w) X.A (assignInOrder ((assignEach ts X.env).map (·.2)) us) (fun _ s'=>∃ap H',Inv X pins ap H' s'/\Q ap H') X.xe s
abbrev Ka:=V->V->V->Hp->(Hp->Prop)->Prop
noncomputable def LN(X:Cx)(t:Ka):Prop:=
 ∀(pins:List (Addr×Obj)) (s:Shared) (Y:St) (H:Hp) (o i v:V) (ov iv u:Value) (Q:Hp->Prop),Inv X pins Y H s->RelV o ov->RelV i iv->RelV v u->t o i v H Q ->
  wpAny (model X.prog X.w) X.A (setItem ov iv u) (fun _ s'=>∃H',Inv X pins Y H' s'/\Q H') X.xe s
abbrev TIp:=V->V->Hp->VK->Prop
noncomputable def PIp(X:Cx)(op:Operator)(t:TIp):Prop:=
 ∀(pins:List (Addr×Obj)) (s:Shared) (Y:St) (H:Hp) (x y:V) (v u:Value) (Q:VK),Inv X pins Y H s->RelV x v->RelV y u->t x y H Q ->
  wpAny (model X.prog X.w) X.A (inplaceOp op v u) (EP X pins Y Q) X.xe s
section
variable {X:Cx}{pos:Pos}
noncomputable def Fb(i:Nat):TG:=fun v Y H Q=>Q (Y.set i (some v)) H
theorem Iu{i:Nat}{x:Str}(hN:X.N.Nodup)(hi:X.N[i]? = some x)(hx:Loc X.env.scope x)(hf:X.fn x=true\/X.env.scope.names.lookup x=some .local:=by first|exact .inl rfl|exact .inr rfl|assumption):PG X (.Name x pos) (Fb i):=by
 intro pins s Y H v u Q I r h
 exact wpAny_assign_Name (jy I hN hi hx r (fun s' I'=>⟨_,H,I',h⟩) hf)
def Nf:TGs:=fun vs Y H Q=>vs=[]/\Q Y H
def MH(t:TG)(u:TGs):TGs:=fun vs Y H Q=>∃v r,vs=v::r/\t v Y H fun ap H'=>u r ap H' Q
theorem HR:PGs X [] Nf:=by
 intro pins s Y H vs us Q I r h
 obtain⟨e,h⟩:=h
 subst e
 cases r
 exact assignInOrder_nil ⟨Y,H,I,h⟩
theorem E6{e:Expr}{es:List Expr}{t:TG}{u:TGs}(h1:PG X e t)(h2:PGs X es u)
  (hs:(assignEach (e::es) X.env).map (·.2)=assign e X.env::(assignEach es X.env).map (·.2):=by rfl):PGs X (e::es) (MH t u):=by
 intro pins s Y H vs us Q I r h
 obtain⟨v,vr,e1,h⟩:=h
 subst e1
 cases r with
 |cons r rr=>
  rw[hs]
  refine assignInOrder_cons (thn (h1 pins s Y H _ _ _ I r h) fun _ s1 ⟨na,H1,I1,q1⟩=>?_)
  exact h2 pins s1 na H1 _ _ Q I1 rr q1
noncomputable def Nx(K:PySem.W.Frag)(n:Nat)(t:TGs):TG:=fun v Y H Q=>∃a xs,v = .ref a/\SqT K H a xs/\xs.length=n/\t xs Y H Q
theorem JD{es:List Expr}{k:Nat}{t:TGs}{n:Nat}(hc:X.calm=X.calm)(h:PGs X es t)
  (hn:(assignEach es X.env).length=n:=by rfl) (hst:(assignEach es X.env).findIdx? (·.1)=none:=by rfl):PG X (.Tuple es k pos) (Nx X.K n t):=by
 intro pins s Y H v u Q I r hw
 obtain⟨a,xs,e1,hq,hl,hw⟩:=hw
 subst e1
 cases r
 obtain⟨its,rv,ht,hz⟩:=I.tuple hq
 refine vV I.A9 ht (by simp[hn,<- hl,rv.length]) hst fun h' hx=>?_
 have I1:Inv X pins Y H {s with heap:=h'}:=I.kept (t':=s.toks) fun b o e=>hx b o (ne_of_lt (Heap.lt_size e)) e
 exact h pins _ Y H xs _ Q I1 (by simpa using rv) hw
noncomputable def Np(to ti:TE)(t:Ka):TG:=fun v Y H Q=>to Y H fun o H1=>ti Y H1 fun i H2=>t o i v H2 fun H3=>Q Y H3
theorem Lh{o i:Expr}{to ti:TE}{t:Ka}(ho:PE X o to)(hi:PE X i ti)(hs:LN X t)
  (ha:∀v,assign (.Subscript o i pos) X.env v=(do
   let ov <- holding [v] (eval o X.env)
   let iv <- holding [v,ov] (eval i X.env)
   standAt pos
   holding [v,ov,iv] (setItem ov iv v)
   release [v,ov,iv] []):=by intro _;rfl):PG X (.Subscript o i pos) (Np to ti t):=by
 intro pins s Y H v u Q I r h
 rw[ha]
 refine wpAny_bind (wpAny_holding (thn (ho pins s Y H _ I h) fun ov s1 ⟨x,H1,I1,r1,q1⟩=>?_))
 refine wpAny_bind (wpAny_holding (thn (hi pins s1 Y H1 _ I1 q1) fun iv s2 ⟨y,H2,I2,r2,q2⟩=>?_))
 refine wpAny_bind (wpAny_standAt (wpAny_bind (wpAny_holding (thn (hs pins s2 Y H2 x y v ov iv u _ I2 r1 r2 r q2) fun _ s3 ⟨H3,I3,q3⟩=>?_))))
 exact wpAny_release ⟨Y,H3,I3,q3⟩
noncomputable def IX(te:TE)(g:TG):TS:=fun D Y H=>te Y H fun x H1=>g x Y H1 D.nx
theorem FJ{tg e:Expr}{te:TE}{g:TG}(he:PE X e te)(hg:PG X tg g)(hs:swapsWithSole [tg] e pos.line X.env=pure false:=by rfl)(hw:swappedStores [tg] e X.env=pure none:=by rfl)
  (h1:(assignEach [tg] X.env).map (·.2)=[assign tg X.env]:=by rfl):PS X (.Assign [tg] e pos) (IX te g):=by
 intro pins s Y H D I h
 refine wpAny_Assign_stores (thn (he pins s Y H _ I h) fun v s1 ⟨x,H1,I1,r1,q1⟩=>?_) hs hw
 rw[h1]
 exact thn (hg pins s1 Y H1 x v _ I1 r1 q1) fun _ s2 q=>q
theorem GB{i:Nat}{x:Str}{e:Expr}{te:TE}{pos':Pos}(hN:X.N.Nodup)(hi:X.N[i]? = some x)(hx:Loc X.env.scope x)(he:PE X e te)(hs:swapsWith e (some (.Name x pos')) pos.line X.env=pure false:=by rfl)(hf:X.fn x=true\/X.env.scope.names.lookup x=some .local:=by first|exact .inl rfl|exact .inr rfl|assumption) :
  PS X (.Assign [.Name x pos'] e pos) (IX te (Fb i)):=by
 intro pins s Y H D I h
 refine wpAny_Assign_Name (thn (he pins s Y H _ I h) fun v s1 ⟨y,H1,I1,r1,q1⟩=>?_) hs
 exact jy I1 hN hi hx r1 (fun s2 I2=>⟨_,H1,I2,q1⟩) hf
noncomputable def Nw(i j:Nat)(ta:TA):TS:=fun D Y H=>ta Y H fun vs H1=>∃v w,vs=[v,w]/\D.nx ((Y.set i (some v)).set j (some w)) H1
theorem JK{i j:Nat}{x y:Str}{a b:Expr}{ta:TA}{px py pt:Pos}{kt k2 pt2}(hc:X.calm=true)(hN:X.N.Nodup)(hi:X.N[i]? = some x)(hj:X.N[j]? = some y)(hij:i≠j)
  (hx:X.env.scope.names.lookup x=some .local) (hy:X.env.scope.names.lookup y=some .local) (ha:PA X [a,b] ta)
  (hw:swappedStores [.Tuple [.Name x px,.Name y py] kt pt] (.Tuple [a,b] k2 pt2) X.env=pure (some [x,y]))
  (hs:swapsWithSole [.Tuple [.Name x px,.Name y py] kt pt] (.Tuple [a,b] k2 pt2) pos.line X.env=pure false:=by rfl) :
  PS X (.Assign [.Tuple [.Name x px,.Name y py] kt pt] (.Tuple [a,b] k2 pt2) pos) (Nw i j ta):=by
 intro pins s Y H D I h
 rw[exec_Assign_arm]
 refine wpAny_bind (wpAny_standAt ?_)
 rw[hs]
 refine wpAny_bind (wpAny_pure ?_)
 rw[if_neg ⋯]
 refine wpAny_bind (Tuple_ (thn (ha _ pins s Y H _ I h) fun us s1 ⟨vs,H1,I1,r1,q1⟩=>?_))
 obtain⟨v,w,e1,q1⟩:=q1
 subst e1
 obtain⟨u1,u2,rfl,rv,rw'⟩:∃u1 u2,us=[u1,u2]/\RelV v u1/\RelV w u2:=by
  cases r1 with
  |cons p q=>
   cases q with
   |cons p' q'=>
    cases q'
    exact⟨_,_,rfl,p,p'⟩
 refine wpAny_newObj_type ?_ (by show 2<=sizeLine;decide)
 have I2:Inv X pins Y H1 {s1 with heap:=s1.heap.push {cls:=.type "tuple",data:=.seq [u1,u2].toArray}}:=I1.kept (t':=s1.toks) fun b o e=>Heap.get?_push_of_some _ e
 rw[hw]
 refine wpAny_bind (wpAny_pure ?_)
 show wpAny (model X.prog X.w) X.A (do rule "assign.swapped-stores";let items <- unpackItems (.ref s1.heap.objs.size) 2 none;assignInOrder [fun v=>bindName X.env y v,fun v=>bindName X.env x v] items.reverse;pure Flow.next) _ _ _
 refine wpAny_bind (wpAny_rule (wpAny_bind (unpackItems_tuple (items:=#[u1,u2]) (I.ok.hd hc) (IsTup.new s1.heap _) fun h' hx'=>?_)))
 have I3:=I2.kept (h':=h') (t':=s1.toks) fun b o e=>hx' b o (ne_of_lt (Heap.lt_size e)) e
 show wpAny _ _ (assignInOrder [fun v=>bindName X.env y v,fun v=>bindName X.env x v] [u2,u1]>>=fun _=>pure Flow.next) _ _ _
 refine wpAny_bind (assignInOrder_cons (wpAny_bindName (jy I3 hN hj (.inl hy) rw' (fun s2 I4=>?_) (.inr hy))))
 refine assignInOrder_cons (wpAny_bindName (jy I4 hN hi (.inl hx) rv (fun s3 I5=>assignInOrder_nil (wpAny_pure ?_)) (.inr hx)))
 rw[List.set_comm _ _ (Ne.symm hij)] at I5
 exact⟨_,H1,I5,q1⟩
noncomputable def NB(i:Nat)(te:TE)(ti:TIp):TS:=fun D Y H=>∃x,Y[i]? = some (some x)/\te Y H fun y H1=>ti x y H1 fun z H2=>D.nx (Y.set i (some z)) H2
theorem JB{i:Nat}{x:Str}{e:Expr}{te:TE}{op:Operator}{ti:TIp}{pos':Pos}(hN:X.N.Nodup)(hi:X.N[i]? = some x)(hx:Loc X.env.scope x)(he:PE X e te)(ho:PIp X op ti)(hf:X.fn x=true\/X.env.scope.names.lookup x=some .local:=by first|exact .inl rfl|exact .inr rfl|assumption) :
  PS X (.AugAssign (.Name x pos') op e pos) (NB i te ti):=by
 intro pins s Y H D I h
 obtain⟨v,e1,h⟩:=h
 obtain⟨m,hn,hl⟩:=I.loc
 have vis:Vis X.env.scope x:=by rcases hx with k|k;exact .inl k;exact .inr (.inl k)
 obtain⟨u,r,l⟩:=hl i x v hi e1 vis
 refine wpAny_AugAssign_Name ?_
 have go:wpAny (model X.prog X.w) X.A (eval e X.env) (fun w ks=>wpAny (model X.prog X.w) X.A (inplaceOp op u w) (fun r ce=>wpAny (model X.prog X.w) X.A (storeName X.env x r) (fun _=>SP X pins D .next) X.xe ce) X.xe ks) X.xe s:=by
  refine thn (he pins s Y H _ I h) fun w s1 ⟨y,H1,I1,r1,q1⟩=>?_
  refine thn (ho pins s1 Y H1 v y u w _ I1 r r1 q1) fun z s2 ⟨zv,H2,I2,r2,q2⟩=>?_
  exact jy I2 hN hi hx r2 (fun s3 I3=>⟨_,H2,I3,q2⟩) hf
 rcases l with ⟨hk,hm⟩|⟨hk,c,hc,hcell⟩
 ·exact wpAny_loadName_local I.ok.kind hk hn hm go
 ·rcases hk with hk|hk
  ·exact wpAny_loadName_cell I.ok.kind hk hc hcell go
  ·rcases hx with k|k
   ·have:X.env.scope.names.lookup x=some .free:=hk
    rw[k] at this;cases this
   ·have:X.env.scope.names.lookup x=some .free:=hk
    rw[k] at this;cases this
def ipI(f:Int->Int->Int):TIp:=fun x y H Q=>∃i j,x = .int i/\y = .int j/\Q (.int (f i j)) H
theorem KI:PIp X .Add (ipI fun i j=>i+j):=by
 intro pins s Y H x y v u Q I r1 r2 h
 obtain⟨i,j,e1,e2,q⟩:=h
 subst e1;subst e2
 obtain⟨t,rfl⟩:=r1
 obtain⟨t',rfl⟩:=r2
 exact iadd_int ⟨.int _,H,I.tok _,⟨_,rfl⟩,q⟩
end
section
variable {X:Cx}{pos:Pos}
noncomputable def Jd(c:TT)(tb:TS):TS:=fun D Y H=>∃W:Nat->St->Hp->Prop,(∃m,W m Y H)/\∀m Y H,W m Y H ->
 c Y H fun b H1=>if b=true then ∃N:St->Hp->Prop,(∀ap H',N ap H'->∃m',m'<m/\W m' ap H')/\tb {D with nx:=N,ct:=N,bk:=D.nx} Y H1 else D.nx Y H1
theorem GN{c:Expr}{body:List Stmt}{tc:TT}{tb:TS}(hp:PassesOwn (model X.prog X.w) X.A X.env X.xe)(hc:PT X c tc)(hb:PSs X body tb):PS X (.While c body [] pos) (Jd tc tb):=by
 intro pins s Y H D I h
 obtain⟨W,⟨m0,w0⟩,turn⟩:=h
 refine wpAny_While (codeAny_whileLoop (fun n s'=>∃ap H',Inv X pins ap H' s'/\W n ap H') ?_ m0 ⟨Y,H,I,w0⟩)
 rintro n s1 ⟨na,H1,I1,w1⟩
 refine wpAny_passesOwn hp (thn (hc pins s1 na H1 _ I1 (turn n na H1 w1)) fun b s2 ⟨H2,I2,q2⟩=>?_)
 cases b with
 |true=>
  obtain⟨N,hN,q2⟩:=q2
  rw[if_pos rfl]
  refine wpAny_passesOwn hp (thn (hb pins s2 na H2 _ I2 q2) fun f s3 q3=>?_)
  cases f with
  |next=>
   obtain⟨lw,H3,I3,n3⟩:=q3
   obtain⟨m',hm,w3⟩:=hN lw H3 n3
   exact⟨m',hm,lw,H3,I3,w3⟩
  |cont=>
   obtain⟨lw,H3,I3,n3⟩:=q3
   obtain⟨m',hm,w3⟩:=hN lw H3 n3
   exact⟨m',hm,lw,H3,I3,w3⟩
  |brk=>exact q3
  |ret v=>exact q3
 |false=>
  rw[if_neg Bool.false_ne_true]
  exact wpAny_execs_nil ⟨na,H2,I2,q2⟩
end
structure It where
 go:Nat->Hp->Prop
 yld:Nat->Hp->V->Hp->Prop
 stop:Nat->Hp->Prop
noncomputable def uT(X:Cx)(pins:List (Addr×Obj))(H:Hp)(b:Addr):Prop:=
 H b=none/\b≠X.env.locals/\b ∉ X.fs/\(b∈X.ex\/X.dl.heap.objs.size<=b)/\(∀x c,X.env.cells.lookup x=some c->c≠b)/\∀p∈X.pn++pins,p.1≠b
theorem Inv.DC{X:Cx}{pins:List (Addr×Obj)}{Y:St}{H H':Hp}{s:Shared}{b:Addr}(I:Inv X pins Y H s)(hb:s.heap.objs.size<=b)(hn:H' b=none):uT X pins H' b:=by
 refine⟨hn,Nat.ne_of_gt (lt_of_lt_of_le I.lt hb),I.M3 hb,.inr (le_trans I.sz hb),fun x c e z=>?_,fun p hp z=>?_⟩
 ·obtain⟨v,q⟩:=I.cell x c e
  exact absurd (lt_of_lt_of_le q.lt (by rw[z];exact hb)) (lt_irrefl _)
 ·exact absurd (lt_of_lt_of_le (Heap.lt_size (I.pin p hp).1) (by rw[z];exact hb)) (lt_irrefl _)
structure Turn(c:Bool)(P:Program)(w:World)(K:PySem.W.Frag)(tg:Expr)(J:It)(fp:List Addr)(it:Addr)(tn:Nat->Heap->Prop):Prop where
 mem:it∈fp
 obj:∀i h,tn i h->∀b∈fp,∃o,h.get? b=some o/\∀v,o.data≠.cell v
 keep:∀i h h',tn i h->(∀b∈fp,∀o,h.get? b=some o->h'.get? b=some o)->tn i h'
 item:∀(X:Cx),X.prog=P->X.w=w->X.K=K->(c=true->X.calm=true)->∀(i:Nat) (pins:List (Addr×Obj)) (s:Shared) (Y:St) (H:Hp) (E:Value->Shared->Prop),Inv X pins Y H s->(∀b∈fp,uT X pins H b)->tn i s.heap->J.go i H ->
  wpAny (model P w) X.A (pyNext (.ref it)) (fun r s1=>∃u,r=some u /\
   wpAny (model P w) X.A (letOwnedTupleGo tg (.ref it) u) (fun _ s2=>∃x H',Inv X pins Y H' s2/\RelV x u/\J.yld i H x H'/\tn (i+1) s2.heap/\∀b∈fp,H' b=none) E s1) E s
 done:∀(X:Cx),X.prog=P->X.w=w->X.K=K->(c=true->X.calm=true)->∀(i:Nat) (pins:List (Addr×Obj)) (s:Shared) (Y:St) (H:Hp) (E:Value->Shared->Prop),Inv X pins Y H s->(∀b∈fp,uT X pins H b)->tn i s.heap->J.stop i H ->
  wpAny (model P w) X.A (pyNext (.ref it)) (fun r s1=>r=none/\Inv X pins Y H s1) E s
 self:∀(A:Around) (i:Nat) (s:Shared) (Q:Value->Shared->Prop) (E:Value->Shared->Prop),tn i s.heap->Q (.ref it) s->wpAny (model P w) A (pyIter (.ref it)) Q E s
theorem Turn.calm{c:Bool}{P:Program}{w:World}{K:PySem.W.Frag}{tg:Expr}{J:It}{fp:List Addr}{it:Addr}{tn:Nat->Heap->Prop}(T:Turn true P w K tg J fp it tn)(h:c=true):Turn c P w K tg J fp it tn:=by subst h;exact T
abbrev TI:=St->Hp->(It->Hp->Prop)->Prop
noncomputable def PIE(X:Cx)(pins:List (Addr×Obj))(Y:St)(tg:Expr)(R:It->Hp->Prop)(itv:Value)(s2:Shared):Prop:=
 ∃(it:Addr) (fp:List Addr) (tn:Nat->Heap->Prop) (J:It) (H':Hp),itv = .ref it/\Inv X pins Y H' s2/\Turn X.calm X.prog X.w X.K tg J fp it tn/\tn 0 s2.heap/\(∀b∈fp,uT X pins H' b)/\R J H'
noncomputable def PI(X:Cx)(tg iter:Expr)(wi:TI):Prop:=
 ∀(pins:List (Addr×Obj)) (s:Shared) (Y:St) (H:Hp) (R:It->Hp->Prop),Inv X pins Y H s->wi Y H R ->
  wpAny (model X.prog X.w) X.A (eval iter X.env) (fun v s1=>wpAny (model X.prog X.w) X.A (pyIter v) (PIE X pins Y tg R) X.xe s1) X.xe s
theorem Cp{M:Model}{A:Around}{E:Value->Shared->Prop}{s:Shared}{tg:Expr}{it:Addr}{u:Value}{o:Obj}{n:String}{vs:Array Value}{Q:Unit->Shared->Prop}(ho:s.heap.get? it=some o)(hc:o.cls = .type n)(hd:o.data = .fields vs)
  (hn:["enumerate","zip","dict_itemiterator","dict_reverseitemiterator","odict_iterator","itertools.zip_longest","itertools.pairwise"].contains n=false) (hQ:Q () s):wpAny M A (letOwnedTupleGo tg (.ref it) u) Q E s:=by
 unfold letOwnedTupleGo
 cases tg<;>first
  |exact wpAny_pure hQ
  |(cases u<;>first
    |exact wpAny_pure hQ
    |(refine wpAny_bind (wpAny_load ho ?_)
      rw[hc,hd]
      show wpAny M A (if (["enumerate","zip","dict_itemiterator","dict_reverseitemiterator","odict_iterator","itertools.zip_longest","itertools.pairwise"].contains n&&vs[0]?==some (rawInt _))=true then _ else _) Q E s
      rw[if_neg (by intro h;rw[hn,Bool.false_and] at h;cases h)]
      exact wpAny_pure hQ))
def Itl(K:PySem.W.Frag)(a:Addr):It:=
 ⟨fun i H=>∃xs x,SqL K H a xs/\xs[i]? = some x,fun i H x H'=>H'=H/\∀xs,SqL K H a xs->xs[i]? = some x,fun i H=>∃xs,SqL K H a xs/\xs.length<=i⟩
def Itt(K:PySem.W.Frag)(a:Addr):It:=
 ⟨fun i H=>∃xs x,SqT K H a xs/\xs[i]? = some x,fun i H x H'=>H'=H/\∀xs,SqT K H a xs->xs[i]? = some x,fun i H=>∃xs,SqT K H a xs/\xs.length<=i⟩
def Itr(lo:Int)(n:Nat):It:=⟨fun i _=>i<n,fun i H x H'=>H'=H/\x = .int (lo+i),fun i _=>n<=i⟩
theorem D7{c:Bool}{P:Program}{w:World}{K:PySem.W.Frag}{tg:Expr}(a it:Addr):Turn c P w K tg (Itl K a) [it] it (fun i h=>h.IsListIter it a i) where
 mem:=by simp
 obj:=fun i h st b hb=>by
  have e:b=it:=by simpa using hb
  subst e
  obtain⟨o,e,c,d⟩:=st
  exact⟨o,e,fun v z=>by rw[d] at z;cases z⟩
 keep:=fun i h h' st k=>st.at fun o e=>k it (by simp) o e
 item:=by
  intro X hP hw hK hc i pins s Y H E I hf st hg
  subst hP hw hK
  obtain⟨xs,x,hq,hx⟩:=hg
  obtain⟨its,rv,p,hz⟩:=I.list hq
  obtain⟨u,hu,ru⟩:=rv.get hx
  obtain⟨f0,f1,f2,f3,f4,f5⟩:=hf it (by simp)
  refine wpAny_pyNext_list_item st p.isList (x:=u) (by simpa using hu) fun h' st' sb=>?_
  have I1:Inv X pins Y H {s with heap:=h'}:=I.turned (t':=s.toks) (fun b o hb e=>(sb.2 b hb).trans e) f0 f1 f3 f4 f5
  obtain⟨o,e,c,d⟩:=id st'
  exact⟨u,rfl,Cp (s:={s with heap:=h'}) e c d ⋯ ⟨x,H,I1,ru,⟨rfl,fun ys hy=>by rw[I.Ey hy hq];exact hx⟩,st',fun b hb=>(hf b hb).1⟩⟩
 done:=by
  intro X hP hw hK hc i pins s Y H E I hf st hg
  subst hP hw hK
  obtain⟨xs,hq,hx⟩:=hg
  obtain⟨its,rv,p,hz⟩:=I.list hq
  obtain⟨f0,f1,f2,f3,f4,f5⟩:=hf it (by simp)
  have hl:=rv.length
  exact vM I.A9 (I.hne f5) st p.isList (by simp;omega) fun h' eb=>⟨rfl,I.turned (t':=s.toks) (fun b o hb e=>eb b o hb e) f0 f1 f3 f4 f5⟩
 self:=fun _ _ _ _ _ st h=>wpAny_pyIter_listiter st h
theorem B4{c:Bool}{P:Program}{w:World}{K:PySem.W.Frag}{tg:Expr}(a it:Addr):Turn c P w K tg (Itt K a) [it] it (fun i h=>h.IsTupleIter it a i) where
 mem:=by simp
 obj:=fun i h st b hb=>by
  have e:b=it:=by simpa using hb
  subst e
  obtain⟨o,e,c,d⟩:=st
  exact⟨o,e,fun v z=>by rw[d] at z;cases z⟩
 keep:=fun i h h' st k=>st.at fun o e=>k it (by simp) o e
 item:=by
  intro X hP hw hK hc i pins s Y H E I hf st hg
  subst hP hw hK
  obtain⟨xs,x,hq,hx⟩:=hg
  obtain⟨its,rv,p,hz⟩:=I.tuple hq
  obtain⟨u,hu,ru⟩:=rv.get hx
  obtain⟨f0,f1,f2,f3,f4,f5⟩:=hf it (by simp)
  refine wpAny_pyNext_tuple_item st (show s.heap.IsTuple a its.toArray from p) (x:=u) (by simpa using hu) fun h' st' sb=>?_
  have I1:Inv X pins Y H {s with heap:=h'}:=I.turned (t':=s.toks) (fun b o hb e=>(sb.2 b hb).trans e) f0 f1 f3 f4 f5
  obtain⟨o,e,c,d⟩:=id st'
  exact⟨u,rfl,Cp (s:={s with heap:=h'}) e c d ⋯ ⟨x,H,I1,ru,⟨rfl,fun ys hy=>by rw[I.DN hy hq];exact hx⟩,st',fun b hb=>(hf b hb).1⟩⟩
 done:=by
  intro X hP hw hK hc i pins s Y H E I hf st hg
  subst hP hw hK
  obtain⟨xs,hq,hx⟩:=hg
  obtain⟨its,rv,p,hz⟩:=I.tuple hq
  obtain⟨f0,f1,f2,f3,f4,f5⟩:=hf it (by simp)
  have hl:=rv.length
  exact qc I.A9 (I.hne f5) st (show s.heap.IsTuple a its.toArray from p) (by simp;omega) fun h' eb=>⟨rfl,I.turned (t':=s.toks) (fun b o hb e=>eb b o hb e) f0 f1 f3 f4 f5⟩
 self:=fun _ _ _ _ _ st h=>wpAny_pyIter_tupleiter st h
theorem B3{P:Program}{w:World}{K:PySem.W.Frag}{tg:Expr}(it:Addr)(lo:Int)(n:Nat):Turn true P w K tg (Itr lo n) [it] it (fun i h=>IsRangeIter h it (lo+(i:Nat)*1) ((n:Int)-(i:Nat)) 1) where
 mem:=by simp
 obj:=fun i h st b hb=>by
  have e:b=it:=by simpa using hb
  subst e
  exact⟨_,st,fun v z=>by
   have z':Data.fields _=Data.cell v:=z
   cases z'⟩
 keep:=fun i h h' st k=>k it (by simp) _ st
 item:=by
  intro X hP hw hK hc i pins s Y H E I hf st hg
  subst hP hw hK
  obtain⟨f0,f1,f2,f3,f4,f5⟩:=hf it (by simp)
  have W:=Walks.range (prog:=X.prog) (w:=X.w) (I.ok.hd (hc rfl)) it lo 1 n
  refine W.item i s _ _ hg st fun v h' tk hv st' kk=>?_
  obtain⟨t,rfl⟩:=hv
  have I1:Inv X pins Y H {s with heap:=h',toks:=tk}:=I.turned (fun b o hb e=>kk b o (by simpa using hb) e) f0 f1 f3 f4 f5
  refine⟨_,rfl,Cp (s:={s with heap:=h',toks:=tk}) (n:="range_iterator") st' rfl rfl ⋯ ⟨.int (lo+i),H,I1,⟨t,?_⟩,⟨rfl,rfl⟩,st',fun b hb=>(hf b hb).1⟩⟩
  rw[Int.mul_one]
 done:=by
  intro X hP hw hK hc i pins s Y H E I hf st hg
  subst hP hw hK
  obtain⟨f0,f1,f2,f3,f4,f5⟩:=hf it (by simp)
  exact wpAny_pyNext_range_end (I.ok.hd (hc rfl)) st (by have:n<=i:=hg;omega) fun h' eb=>⟨rfl,I.turned (t':=s.toks) (fun b o hb e=>eb b o hb e) f0 f1 f3 f4 f5⟩
 self:=fun _ _ _ _ _ st h=>wpAny_pyIter_rangeiter st h
end L2
namespace L2
open PySem PySem.Spec PyProof.Rows
section
variable {X:Cx}{tg:Expr}
noncomputable def Mk(K:PySem.W.Frag)(tl:TE):TI:=fun Y H R=>tl Y H fun x H1=>∃a,x = .ref a/\(∃xs,SqL K H1 a xs)/\R (Itl K a) H1
noncomputable def Nu(K:PySem.W.Frag)(tl:TE):TI:=fun Y H R=>tl Y H fun x H1=>∃a,x = .ref a/\(∃xs,SqT K H1 a xs)/\R (Itt K a) H1
theorem Dl{l:Expr}{tl:TE}(hl:PE X l tl):PI X tg l (Mk X.K tl):=by
 intro pins s Y H R I h
 refine thn (hl pins s Y H _ I h) fun v s1 ⟨x,H1,I1,r1,q1⟩=>?_
 obtain⟨a,e,⟨xs,hq⟩,q⟩:=q1
 subst e
 cases r1
 obtain⟨its,rv,p,hz⟩:=I1.list hq
 refine wpAny_pyIter_list p.isList ?_
 refine⟨s1.heap.objs.size,[s1.heap.objs.size],_,_,H1,rfl,I1.kept (t':=s1.toks) fun b o e=>Heap.get?_push_of_some _ e,D7 a _,⟨_,Heap.get?_push_size _ rfl,rfl,rfl⟩,fun b hb=>?_,q⟩
 have e:b=s1.heap.objs.size:=by simpa using hb
 subst e
 exact I1.DC (le_refl _) (I1.hok.fresh (le_refl _))
theorem Kl{l:Expr}{tl:TE}(hl:PE X l tl):PI X tg l (Nu X.K tl):=by
 intro pins s Y H R I h
 refine thn (hl pins s Y H _ I h) fun v s1 ⟨x,H1,I1,r1,q1⟩=>?_
 obtain⟨a,e,⟨xs,hq⟩,q⟩:=q1
 subst e
 cases r1
 obtain⟨its,rv,p,hz⟩:=I1.tuple hq
 refine wpAny_pyIter_tuple (show s1.heap.IsTuple a its.toArray from p) ?_
 refine⟨s1.heap.objs.size,[s1.heap.objs.size],_,_,H1,rfl,I1.kept (t':=s1.toks) fun b o e=>Heap.get?_push_of_some _ e,B4 a _,⟨_,Heap.get?_push_size _ rfl,rfl,rfl⟩,fun b hb=>?_,q⟩
 have e:b=s1.heap.objs.size:=by simpa using hb
 subst e
 exact I1.DC (le_refl _) (I1.hok.fresh (le_refl _))
theorem Gm(hc:X.calm=true){pins:List (Addr×Obj)}{Y:St}{H:Hp}{s:Shared}{R:It->Hp->Prop}{E:Value->Shared->Prop}{lo hi:Int}{t u v:Tok}{tk:Nat}(I:Inv X pins Y H s)(h1:-(2 ^ 62)<=lo)(h2:lo<2 ^ 62)(h3:-(2 ^ 62)<=hi)(h4:hi<2 ^ 62)
  (q:R (Itr lo (hi-lo).toNat) H):wpAny (model X.prog X.w) X.A (pyIter (.ref s.heap.objs.size)) (PIE X pins Y tg R) E {s with heap:=s.heap.push {cls:=.type "range",data:=.fields #[.int lo t,.int hi u,.int 1 v]},toks:=tk}:=by
 refine wpAny_pyIter_range (IsRange.new ..) (small_one h1 h2 h3 h4) ?_
 have I1:Inv X pins Y H {s with heap:=s.heap.push {cls:=.type "range",data:=.fields #[.int lo t,.int hi u,.int 1 v]},toks:=tk}:=I.kept fun b o e=>Heap.get?_push_of_some _ e
 refine⟨(s.heap.push {cls:=.type "range",data:=.fields #[.int lo t,.int hi u,.int 1 v]}).objs.size,[(s.heap.push {cls:=.type "range",data:=.fields #[.int lo t,.int hi u,.int 1 v]}).objs.size],_,_,H,rfl,
  I1.kept (t':=tk) fun b o e=>Heap.get?_push_of_some _ e,(B3 _ lo (hi-lo).toNat).calm hc,?_,fun b hb=>?_,q⟩
 ·have e1:lo+((0:Nat):Int)*1=lo:=by simp
  have e2:(((hi-lo).toNat:Nat):Int)-((0:Nat):Int)=Builtin.Range.rangeSize lo hi 1:=by rw[rangeSize_one];split<;>omega
  show IsRangeIter _ _ (lo+((0:Nat):Int)*1) ((((hi-lo).toNat:Nat):Int)-((0:Nat):Int)) 1
  rw[e1,e2]
  exact Heap.get?_push_size _ rfl
 ·have e:b=(s.heap.push {cls:=.type "range",data:=.fields #[.int lo t,.int hi u,.int 1 v]}).objs.size:=by simpa using hb
  subst e
  exact I1.DC (le_refl _) (I1.hok.fresh (le_refl _))
noncomputable def Mi(ta:TA):TI:=fun Y H R=>ta Y H fun vs H1=>∃j:Int,vs=[.int j]/\-(2 ^ 62)<=j/\j<2 ^ 62/\R (Itr 0 j.toNat) H1
theorem D9{a:Expr}{ta:TA}{p pos:Pos}(hc:X.calm=true)(hg:Gl X "range")(hm:X.mg "range"=none)(ha:PA X [a] ta)(hs:starEach [a] X.env=[(false,eval a X.env)]:=by rfl):PI X tg (.Call (.Name "range" p) [a] [] pos) (Mi ta):=by
 intro pins s Y H R I h
 refine Call_ (yj I hg hm boot_range (PyProof.Rows.callWith_type1 (thn (ha pos pins s Y H _ I h) fun us s1 ⟨vs,H1,I1,r1,q1⟩=>?_) hs rfl))
 obtain⟨j,e,q1,q2,q⟩:=q1
 subst e
 cases r1 with
 |cons r rr=>
  cases rr
  obtain⟨t,rfl⟩:=r
  exact call_range_1 (Gm hc I1 ∅ ∅ q1 q2 (by simpa using q))
noncomputable def Nh(wi:TI)(g:TG)(tb:TS):TS:=fun D Y H=>wi Y H fun J H1=>∃W:Nat->Nat->St->Hp->Prop,(∃m,W 0 m Y H1)/\∀i m Y H,W i m Y H ->
 (J.stop i H/\D.nx Y H)\/(J.go i H/\∃N:St->Hp->Prop,(∀ap H',N ap H'->∃m',m'<m/\W (i+1) m' ap H')/\∀x H',J.yld i H x H'->g x Y H' fun no H2=>tb {D with nx:=N,ct:=N,bk:=D.nx} no H2)
def oJ(fp:List Addr)(h:Heap):List (Addr×Obj):=fp.filterMap fun b=>(h.get? b).map fun o=>(b,o)
theorem du{fp:List Addr}{h:Heap}{b:Addr}{o:Obj}(hb:b∈fp)(e:h.get? b=some o):(b,o)∈oJ fp h:=List.mem_filterMap.mpr ⟨b,hb,by rw[e];rfl⟩
theorem El{fp:List Addr}{h:Heap}{p:Addr×Obj}(hp:p∈oJ fp h):p.1∈fp/\h.get? p.1=some p.2:=by
 obtain⟨b,hb,e⟩:=List.mem_filterMap.mp hp
 cases q:h.get? b with
 |none=>rw[q] at e;cases e
 |some o=>
  rw[q] at e
  have e':(b,o)=p:=Option.some.inj e
  subst e'
  exact⟨hb,q⟩
theorem Inv.pinned{pins:List (Addr×Obj)}{Y:St}{H:Hp}{s:Shared}{fp:List Addr}(I:Inv X pins Y H s)(hf:∀b∈fp,uT X pins H b)(ho:∀b∈fp,∃o,s.heap.get? b=some o/\∀v,o.data≠.cell v):Inv X (pins++oJ fp s.heap) Y H s:=
 I.Ct fun p hp=>(List.mem_append.mp hp).elim (fun z=>I.pin p (mem_append_right _ z)) fun z=>by
  obtain⟨hb,e⟩:=El z
  obtain⟨f0,f1,f2,_⟩:=hf p.1 hb
  obtain⟨o,e',d⟩:=ho p.1 hb
  rw[e] at e';cases e'
  exact⟨e,f0,f1,f2,d⟩
theorem Inv.js{pins pl:List (Addr×Obj)}{Y:St}{H:Hp}{s:Shared}(I:Inv X (pins++pl) Y H s):Inv X pins Y H s:=I.Ct fun p hp=>I.pin p (mem_append_right _ (mem_append_left _ hp))
theorem GF{iter:Expr}{body:List Stmt}{wi:TI}{g:TG}{tb:TS}{pos:Pos}(hp:PassesOwn (model X.prog X.w) X.A X.env X.xe)(hc:X.calm=true)(hi:PI X tg iter wi)(hg:PG X tg g)(hb:PSs X body tb)
  (hs:∀x,foldedSetIterable iter X.env x=pure x:=by intro _;rfl):PS X (.For tg iter body [] pos) (Nh wi g tb):=by
 intro pins s Y H D I h
 refine wpAny_For (thn (hi pins s Y H _ I h) fun v s1 h1=>thn h1 fun itv s2 h2=>?_) hs
 obtain⟨it,fp,tn,J,H2,e,I2,T,st2,f2,W,⟨m0,w0⟩,turn⟩:=h2
 subst e
 have stat:∀{H':Hp},(∀b∈fp,H' b=none)->∀b∈fp,uT X pins H' b:=fun hn b hb=>⟨hn b hb,(f2 b hb).2⟩
 refine codeAny_forLoop_any (fun n s'=>∃i ap H',Inv X pins ap H' s'/\tn i s'.heap/\(∀b∈fp,H' b=none)/\W i n ap H') ?_ m0 ⟨0,Y,H2,I2,st2,fun b hb=>(f2 b hb).1,w0⟩
 rintro n s3 ⟨i,lw,H3,I3,st3,fr3,w3⟩
 rcases turn i n lw H3 w3 with ⟨stop,qn⟩|⟨go,N,hN,step⟩
 ·refine wpAny_passesOwn hp (thn (T.done X rfl rfl rfl (fun z=>z) i pins s3 lw H3 X.xe I3 (stat fr3) st3 stop) fun r s4 ⟨hr,I4⟩=>?_)
  subst hr
  exact wpAny_execs_nil ⟨lw,H3,I4,qn⟩
 ·refine wpAny_passesOwn hp (thn (T.item X rfl rfl rfl (fun z=>z) i pins s3 lw H3 X.xe I3 (stat fr3) st3 go) fun r s4 ⟨u,hr,h4⟩=>?_)
  subst hr
  refine wpAny_passesOwn hp (thn h4 fun _ s5 ⟨x,H5,I5,r5,y5,st5,fr5⟩=>?_)
  have I5':=I5.pinned (stat fr5) (T.obj _ _ st5)
  refine wpAny_passesOwn hp (thn (hg _ s5 lw H5 x u _ I5' r5 (step x H5 y5)) fun _ s6 ⟨ii,H6,I6,q6⟩=>?_)
  refine wpAny_passesOwn hp (thn (hb _ s6 ii H6 _ I6 q6) fun f s7 q7=>?_)
  have again:∀{ms:St} {H7:Hp},Inv X (pins++oJ fp s5.heap) ms H7 s7->N ms H7->∃m,m<n/\∃i ap H',Inv X pins ap H' s7/\tn i s7.heap/\(∀b∈fp,H' b=none)/\W i m ap H':=fun {ms H7} I7 n7=>by
   obtain⟨m',hm,w7⟩:=hN ms H7 n7
   refine⟨m',hm,i+1,ms,H7,I7.js,T.keep _ _ _ st5 fun b hb o e=>(I7.pin (b,o) (mem_append_right _ (mem_append_right _ (du hb e)))).1,fun b hb=>?_,w7⟩
   obtain⟨o,e,d⟩:=T.obj _ _ st5 b hb
   exact (I7.pin (b,o) (mem_append_right _ (mem_append_right _ (du hb e)))).2.1
  cases f with
  |next=>obtain⟨ms,H7,I7,n7⟩:=q7;exact again I7 n7
  |cont=>obtain⟨ms,H7,I7,n7⟩:=q7;exact again I7 n7
  |brk=>obtain⟨ms,H7,I7,q7⟩:=q7;exact⟨ms,H7,I7.js,q7⟩
  |ret v=>obtain⟨x7,ms,H7,I7,r7,q7⟩:=q7;exact⟨x7,ms,H7,I7.js,r7,q7⟩
end
end L2
namespace L2
open PySem PySem.Spec PyProof.Rows
abbrev R2:=V->V->Hp->VK->Prop
noncomputable def OpR(X:Cx)(f:Value->Value->Sem Value)(r:R2):Prop:=
 ∀(pins:List (Addr×Obj)) (s:Shared) (Y:St) (H:Hp) (x y:V) (v u:Value) (Q:VK),Inv X pins Y H s->RelV x v->RelV y u->r x y H Q ->
  wpAny (model X.prog X.w) X.A (f v u) (EP X pins Y Q) X.xe s
noncomputable def UnR(X:Cx)(f:Value->Sem Value)(r:V->Hp->VK->Prop):Prop:=
 ∀(pins:List (Addr×Obj)) (s:Shared) (Y:St) (H:Hp) (x:V) (v:Value) (Q:VK),Inv X pins Y H s->RelV x v->r x H Q ->
  wpAny (model X.prog X.w) X.A (f v) (EP X pins Y Q) X.xe s
noncomputable def fU(X:Cx)(f:Value)(r:List V->Hp->VK->Prop):Prop:=
 ∀(pins:List (Addr×Obj)) (s:Shared) (Y:St) (H:Hp) (xs:List V) (us:List Value) (Q:VK),Inv X pins Y H s->Vals xs us->r xs H Q ->
  wpAny (model X.prog X.w) X.A (call f us) (EP X pins Y Q) X.xe s
noncomputable def Ni(X:Cx)(r:V->Hp->(Bool->Hp->Prop)->Prop):Prop:=
 ∀(pins:List (Addr×Obj)) (s:Shared) (Y:St) (H:Hp) (x:V) (v:Value) (Q:Bool->Hp->Prop),Inv X pins Y H s->RelV x v->r x H Q ->
  wpAny (model X.prog X.w) X.A (truthy v) (TP X pins Y Q) X.xe s
noncomputable def tOp(r:R2)(ta tb:TE):TE:=fun Y H Q=>ta Y H fun x H1=>tb Y H1 fun y H2=>r x y H2 Q
noncomputable def tUn(r:V->Hp->VK->Prop)(ta:TE):TE:=fun Y H Q=>ta Y H fun x H1=>r x H1 Q
noncomputable def rI(C:Int->Int->Prop)(g:Int->Int->V):R2:=fun x y H Q=>∃i j,x = .int i/\y = .int j/\C i j/\Q (g i j) H
noncomputable def rI0(g:Int->Int->V):R2:=fun x y H Q=>∃i j,x = .int i/\y = .int j/\Q (g i j) H
def rU(g:Int->V):V->Hp->VK->Prop:=fun x H Q=>∃i,x = .int i/\Q (g i) H
section
variable {X:Cx}{a b c:Expr}{ta tb tc:TE}{pos:Pos}
theorem JR(ha:PE X a ta)(hb:PE X b tb){pins:List (Addr×Obj)}{s:Shared}{Y:St}{H:Hp}{R:V->V->Hp->Prop}(I:Inv X pins Y H s)
  (h:ta Y H fun x H1=>tb Y H1 fun y H2=>R x y H2) {Q:Value->Shared->Prop} {f:Value->Value->Sem Value}
  (hf:∀v u s2 x y H2,Inv X pins Y H2 s2->RelV x v->RelV y u->R x y H2->wpAny (model X.prog X.w) X.A (f v u) Q X.xe s2) :
  wpAny (model X.prog X.w) X.A (eval a X.env) (fun v bi=>wpAny (model X.prog X.w) X.A (eval b X.env) (fun u ks=>wpAny (model X.prog X.w) X.A (f v u) Q X.xe ks) X.xe bi) X.xe s:=by
 refine thn (ha pins s Y H _ I h) fun v s1 ⟨x,H1,I1,r1,q1⟩=>?_
 refine thn (hb pins s1 Y H1 _ I1 q1) fun u s2 ⟨y,H2,I2,r2,q2⟩=>?_
 exact hf v u s2 x y H2 I2 r1 r2 q2
theorem MG{op:Operator}{r:R2}(ho:OpR X (binaryOp op) r)(ha:PE X a ta)(hb:PE X b tb):PE X (.BinOp a op b pos) (tOp r ta tb):=by
 intro pins s Y H Q I h
 exact wpAny_BinOp (JR ha hb I h fun v u s2 x y H2 I2 rx ry q=>ho pins s2 Y H2 x y v u Q I2 rx ry q)
theorem Mb{op:UnaryOp}{r:V->Hp->VK->Prop}(ho:UnR X (unaryOp op) r)(ha:PE X a ta):PE X (.UnaryOp op a pos) (tUn r ta):=by
 intro pins s Y H Q I h
 exact UnaryOp_ (thn (ha pins s Y H _ I h) fun v s1 ⟨x,H1,I1,r1,q1⟩=>ho pins s1 Y H1 x v Q I1 r1 q1)
theorem opI{f:Value->Value->Sem Value}{C:Int->Int->Prop}{g:Int->Int->Int}
  (rule:∀(i j:Int) (t u:Tok) (s:Shared) (Q:Value->Shared->Prop) (E:Value->Shared->Prop),C i j->Q (.int (g i j) s.toks) {s with toks:=s.toks+1}->wpAny (model X.prog X.w) X.A (f (.int i t) (.int j u)) Q E s) :
  OpR X f (rI C fun i j=>.int (g i j)):=by
 intro pins s Y H x y v u Q I rx ry h
 obtain⟨i,j,rfl,rfl,hc,q⟩:=h
 obtain⟨t,rfl⟩:=rx
 obtain⟨t',rfl⟩:=ry
 exact rule i j t t' s _ _ hc ⟨.int (g i j),H,I.tok _,⟨_,rfl⟩,q⟩
theorem LH{f:Value->Value->Sem Value}{g:Int->Int->Int}
  (rule:∀(i j:Int) (t u:Tok) (s:Shared) (Q:Value->Shared->Prop) (E:Value->Shared->Prop),Q (.int (g i j) s.toks) {s with toks:=s.toks+1}->wpAny (model X.prog X.w) X.A (f (.int i t) (.int j u)) Q E s) :
  OpR X f (rI0 fun i j=>.int (g i j)):=by
 intro pins s Y H x y v u Q I rx ry h
 obtain⟨i,j,rfl,rfl,q⟩:=h
 obtain⟨t,rfl⟩:=rx
 obtain⟨t',rfl⟩:=ry
 exact rule i j t t' s _ _ ⟨.int (g i j),H,I.tok _,⟨_,rfl⟩,q⟩
theorem GX{f:Value->Value->Sem Value}{g:Int->Int->Bool}
  (rule:∀(i j:Int) (t u:Tok) (s:Shared) (Q:Value->Shared->Prop) (E:Value->Shared->Prop),Q (.bool (g i j)) s->wpAny (model X.prog X.w) X.A (f (.int i t) (.int j u)) Q E s) :
  OpR X f (rI0 fun i j=>.bl (g i j)):=by
 intro pins s Y H x y v u Q I rx ry h
 obtain⟨i,j,rfl,rfl,q⟩:=h
 obtain⟨t,rfl⟩:=rx
 obtain⟨t',rfl⟩:=ry
 exact rule i j t t' s _ _ ⟨.bl (g i j),H,I,rfl,q⟩
noncomputable def xX(i j:Int):Prop:=0<=j/\j<=1000000/\i.natAbs<2 ^ 64
noncomputable def Ht(i j:Int):Prop:=(-(2 ^ 64)<i/\i<2 ^ 64)\/(-(2 ^ 64)<j/\j<2 ^ 64)
theorem Ht.ok{i j:Int}(h:Ht i j):IntMulOk i j:=by
 rcases h with ⟨h1,h2⟩|⟨h1,h2⟩
 ·exact .of_left (intBits_le_64 h1 h2)
 ·exact .of_right (intBits_le_64 h1 h2)
theorem Gw:OpR X (binaryOp .Add) (rI0 fun i j=>.int (i+j)):=LH fun _ _ _ _ _ _ _ q=>add_int q
theorem JQ:OpR X (binaryOp .Sub) (rI0 fun i j=>.int (i-j)):=LH fun _ _ _ _ _ _ _ q=>sub_int q
theorem GY:OpR X (binaryOp .Mod) (rI (fun _ j=>j≠0) fun i j=>.int (i.fmod j)):=opI fun _ _ _ _ _ _ _ hc q=>mod_int' hc q
theorem JT:OpR X (binaryOp .Pow) (rI xX fun i j=>.int (i ^ j.toNat)):=opI fun _ _ _ _ _ _ _ hc q=>pow_int_small hc.1 hc.2.1 hc.2.2 q
theorem unI{f:Value->Sem Value}{g:Int->Int}
  (rule:∀(i:Int) (t:Tok) (s:Shared) (Q:Value->Shared->Prop) (E:Value->Shared->Prop),Q (.int (g i) s.toks) {s with toks:=s.toks+1}->wpAny (model X.prog X.w) X.A (f (.int i t)) Q E s) :
  UnR X f (rU fun i=>.int (g i)):=by
 intro pins s Y H x v Q I rx h
 obtain⟨i,rfl,q⟩:=h
 obtain⟨t,rfl⟩:=rx
 exact rule i t s _ _ ⟨.int (g i),H,I.tok _,⟨_,rfl⟩,q⟩
theorem JY:UnR X (unaryOp .USub) (rU fun i=>.int (-i)):=unI fun _ _ _ _ _ q=>neg_int q
end
section
variable {X:Cx}{a b c:Expr}{ta tb tc:TE}{pos:Pos}
theorem Kb{pins:List (Addr×Obj)}{Y:St}{H:Hp}{s:Shared}{Q:VK}{k k':Bool}(I:Inv X pins Y H s)(q:Q (.bl k) H)(e:k=k'):EP X pins Y Q (.bool k') s:=by
 subst e
 exact⟨.bl k,H,I,rfl,q⟩
theorem n5:OpR X (compareOp .Lt) (rI0 fun i j=>.bl (decide (i<j))):=GX fun _ _ _ _ _ _ _ q=>lt_int q
theorem zK:OpR X (compareOp .LtE) (rI0 fun i j=>.bl (decide (i<=j))):=GX fun _ _ _ _ _ _ _ q=>le_int q
theorem nZ:OpR X (compareOp .Gt) (rI0 fun i j=>.bl (decide (j<i))):=GX fun _ _ _ _ _ _ _ q=>gt_int q
theorem wq:OpR X (compareOp .GtE) (rI0 fun i j=>.bl (decide (j<=i))):=GX fun _ _ _ _ _ _ _ q=>ge_int q
theorem w4:OpR X (compareOp .In) (fun x y H Q=>∃i j,x = .str i/\y = .str j/\Q (.bl (!(Builtin.Str.occurrences j i 0 j.length 1).isEmpty)) H):=by
 intro pins s Y H x y v u Q I rx ry h
 obtain⟨i,j,rfl,rfl,q⟩:=h
 obtain⟨t,rfl⟩:=rx
 obtain⟨t',rfl⟩:=ry
 exact in_str (Kb I q rfl)
theorem OpR.or{f:Value->Value->Sem Value}{r r':R2}(h:OpR X f r)(h':OpR X f r'):OpR X f (fun x y H Q=>r x y H Q\/r' x y H Q):=by
 intro pins s Y H x y v u Q I rx ry q
 rcases q with q|q
 ·exact h pins s Y H x y v u Q I rx ry q
 ·exact h' pins s Y H x y v u Q I rx ry q
theorem aC(b:Expr){op:CmpOp}(h:op≠.In:=by decide)(h2:op≠.NotIn:=by decide):behindInMarks op b=false:=by
 have e1:(op==CmpOp.In)=false:=by cases op<;>first|rfl|exact absurd rfl h
 have e2:(op==CmpOp.NotIn)=false:=by cases op<;>first|rfl|exact absurd rfl h2
 cases b<;>simp[behindInMarks,e1,e2]
theorem Hh{op:CmpOp}{r:R2}(ho:OpR X (compareOp op) r)(ha:PE X a ta)(hb:PE X b tb)(hm:behindInMarks op b=false):PE X (.Compare a [op] [b] pos) (tOp r ta tb):=by
 intro pins s Y H Q I h
 exact wpAny_Compare1 (JR ha hb I h fun v u s2 x y H2 I2 rx ry q=>ho pins s2 Y H2 x y v u Q I2 rx ry q) hm
noncomputable def Fo(t:TE):TT:=fun Y H Q=>t Y H fun x H'=>∃k,x = .bl k/\Q k H'
theorem GQ{op:CmpOp}{r:R2}(ho:OpR X (compareOp op) r)(ha:PE X a ta)(hb:PE X b tb)(hm:behindInMarks op b=false):PT X (.Compare a [op] [b] pos) (Fo (tOp r ta tb)):=by
 intro pins s Y H Q I h
 refine wpAny_isTrue_Compare1 (thn (ha pins s Y H _ I h) fun v s1 ⟨x,H1,I1,r1,q1⟩=>thn (hb pins s1 Y H1 _ I1 q1) fun u s2 ⟨y,H2,I2,r2,q2⟩=>
  thn (ho pins s2 Y H2 x y v u _ I2 r1 r2 q2) fun c s3 ⟨z,H3,I3,r3,k,e,q3⟩=>?_) hm
 subst e
 cases r3
 exact wpAny_truthy_bool ⟨H3,I3,q3⟩
noncomputable def Fu(r r':R2)(ta tb tc:TE):TE:=fun Y H Q=>ta Y H fun x H1=>tb Y H1 fun y H2=>r x y H2 fun z H3=>∃k,z = .bl k /\
 (if k=true then tc Y H3 fun w' H4=>r' y w' H4 Q else Q (.bl false) H3)
theorem Gj{op op':CmpOp}{r r':R2}(ho:OpR X (compareOp op) r)(ho':OpR X (compareOp op') r')(ha:PE X a ta)(hb:PE X b tb)(hc:PE X c tc)
  (hm:lastMarks [op,op'] [b,c]=false:=by with_unfolding_all rfl):PE X (.Compare a [op,op'] [b,c] pos) (Fu r r' ta tb tc):=by
 intro pins s Y H Q I h
 refine Compare_chain (thn (ha pins s Y H _ I h) fun v s1 ⟨x,H1,I1,r1,q1⟩=>chain_link (thn (hb pins s1 Y H1 _ I1 q1) fun u s2 ⟨y,H2,I2,r2,q2⟩=>
  thn (ho pins s2 Y H2 x y v u _ I2 r1 r2 q2) fun d s3 ⟨z,H3,I3,r3,k,e,q3⟩=>?_)) hm
 subst e
 cases r3
 refine wpAny_truthy_bool ?_
 cases k with
 |false=>exact ite_ff ⟨.bl false,H3,I3,rfl,q3⟩
 |true=>exact ite_tt (chain_last (thn (hc pins s3 Y H3 _ I3 q3) fun w' s4 ⟨z',H4,I4,r4,q4⟩=>ho' pins s4 Y H4 y z' u w' Q I4 r2 r4 q4))
theorem Gb{op op':CmpOp}{r r':R2}(ho:OpR X (compareOp op) r)(ho':OpR X (compareOp op') r')(ha:PE X a ta)(hb:PE X b tb)(hc:PE X c tc)
  (hm:lastMarks [op,op'] [b,c]=false:=by with_unfolding_all rfl):PT X (.Compare a [op,op'] [b,c] pos) (Fo (Fu r r' ta tb tc)):=by
 intro pins s Y H Q I h
 refine isTrue_chain (thn (ha pins s Y H _ I h) fun v s1 ⟨x,H1,I1,r1,q1⟩=>test_link (thn (hb pins s1 Y H1 _ I1 q1) fun u s2 ⟨y,H2,I2,r2,q2⟩=>
  thn (ho pins s2 Y H2 x y v u _ I2 r1 r2 q2) fun d s3 ⟨z,H3,I3,r3,k,e,q3⟩=>?_)) hm
 subst e
 cases r3
 refine wpAny_truthy_bool ?_
 cases k with
 |false=>
  obtain⟨k',e',q'⟩:=q3
  cases e'
  exact ite_ff ⟨H3,I3,q'⟩
 |true=>
  refine ite_tt (test_last (thn (hc pins s3 Y H3 _ I3 q3) fun w' s4 ⟨z',H4,I4,r4,q4⟩=>thn (ho' pins s4 Y H4 y z' u w' _ I4 r2 r4 q4) fun d' s5 ⟨z2,H5,I5,r5,k2,e2,q5⟩=>?_))
  subst e2
  cases r5
  exact wpAny_truthy_bool ⟨H5,I5,q5⟩
noncomputable def Mx(K:PySem.W.Frag)(x:V)(H:Hp)(k:Bool):Prop:=
 match x with
 |.non=>k=false
 |.bl b=>k=b
 |.int i=>k=(i != 0)
 |.str y=>y.length<=sizeLine/\k=((y.length:Int) != 0)
 |.byt y=>y.size<=sizeLine/\k=((y.size:Int) != 0)
 |.ref p=>(∃xs,SqL K H p xs/\k = !xs.isEmpty)\/(∃xs,SqT K H p xs/\k = !xs.isEmpty)\/∃kvs,H p=some (.dK kvs)/\k = !kvs.isEmpty
 |_=>False
theorem BP{κ:Type}{kvs:List (κ×V)}{vs:List (κ×Value)}(r:KV kvs vs):(!vs.isEmpty) = !kvs.isEmpty:=by
 cases r<;>rfl
theorem uX{xs:List V}{its:List Value}(r:Vals xs its):(!its.toArray.isEmpty) = !xs.isEmpty:=by
 cases r<;>simp
theorem oo:(sizeLine:Nat)<2 ^ 63:=by rw[sizeLine_eq];decide
theorem Kg:Ni X (fun x H Q=>∃k,Mx X.K x H k/\Q k H):=by
 intro pins s Y H x v Q I rx h
 obtain⟨k,e,q⟩:=h
 have hl:=oo
 have hs:sizeLine=16777216:=sizeLine_eq
 cases x with
 |non=>
  cases rx
  have e':k=false:=e
  subst e'
  exact truthy_none ⟨H,I,q⟩
 |bl b=>
  cases rx
  have e':k=b:=e
  subst e'
  exact wpAny_truthy_bool ⟨H,I,q⟩
 |int i=>
  obtain⟨t,rfl⟩:=rx
  have e':k=(i != 0):=e
  subst e'
  exact PySem.P.truthy_int ⟨H,I,q⟩
 |str y=>
  obtain⟨t,rfl⟩:=rx
  obtain⟨hy,e'⟩:y.length<=sizeLine/\k=((y.length:Int) != 0):=e
  subst e'
  exact PySem.P.truthy_str ∅ ⟨H,I.tok _,q⟩
 |byt y=>
  obtain⟨t,rfl⟩:=rx
  obtain⟨hy,e'⟩:y.size<=sizeLine/\k=((y.size:Int) != 0):=e
  subst e'
  exact PySem.W.truthy_bytes ∅ ⟨H,I.tok _,q⟩
 |ref p=>
  cases rx
  have e':(∃xs,SqL X.K H p xs/\k = !xs.isEmpty)\/(∃xs,SqT X.K H p xs/\k = !xs.isEmpty)\/∃kvs,H p=some (.dK kvs)/\k = !kvs.isEmpty:=e
  rcases e' with ⟨xs,hx,e'⟩|⟨xs,hx,e'⟩|⟨kvs,hx,e'⟩
  ·subst e'
   obtain⟨its,r,pl,hz⟩:=I.list hx
   have hlen:=r.length
   exact wpAny_truthy_list pl.isList (by simp only[size_toArray];omega) ⟨H,I.tok _,by rw[uX r];exact q⟩
  ·subst e'
   obtain⟨its,r,pl,hz⟩:=I.tuple hx
   have hlen:=r.length
   exact truthy_tuple pl (by simp only[size_toArray];omega) ⟨H,I.tok _,by rw[uX r];exact q⟩
  ·subst e'
   obtain⟨hz,hS,vs,r,m⟩:kvs.length<=sizeLine/\(p==sysModules)=false/\∃vs,KV kvs vs/\s.heap.DictOf (yD X.prog X.w) p vs:=I.hok p _ hx
   have hlen:kvs.length=vs.length:=Paired.length r
   exact wpAny_truthy_dict hS m ∅ ⟨H,I.tok _,by rw[BP r];exact q⟩
 |_=>exact (show False from e).elim
theorem Ft(ha:PE X a ta)(he:∀whole,isTrue a X.env whole=(do let v <- whole;standAt a.pos;holding [v] (truthy v))) :
  PT X a (fun Y H Q=>ta Y H fun x H'=>∃k,Mx X.K x H' k/\Q k H'):=by
 intro pins s Y H Q I h
 exact isTrue_plain (thn (ha pins s Y H _ I h) fun v s1 ⟨x,H1,I1,r1,q1⟩=>Kg pins s1 Y H1 x v Q I1 r1 q1) (he _)
theorem Bu:OpR X (binaryOp .Add) (fun x y H Q=>∃i j,x = .str i/\y = .str j/\i.length+j.length<=sizeLine/\Q (.str (i++j)) H):=by
 intro pins s Y H x y v u Q I rx ry h
 obtain⟨i,j,rfl,rfl,hz,q⟩:=h
 obtain⟨t,rfl⟩:=rx
 obtain⟨t',rfl⟩:=ry
 exact add_str (fun t' tk=>⟨.str (i++j),H,I.tok _,⟨_,rfl⟩,q⟩) hz
theorem vals1{x:V}{us:List Value}(r:Vals [x] us):∃u,us=[u]/\RelV x u:=by
 cases r with
 |cons r1 r2=>cases r2;exact⟨_,rfl,r1⟩
theorem vals2{x y:V}{us:List Value}(r:Vals [x,y] us):∃u w',us=[u,w']/\RelV x u/\RelV y w':=by
 cases r with
 |cons r1 r2=>
  cases r2 with
  |cons r3 r4=>cases r4;exact⟨_,_,rfl,r1,r3⟩
theorem Fe:fU X (.builtin "abs") (fun xs H Q=>∃i,xs=[.int i]/\Q (.int (if i<0 then -i else i)) H):=by
 intro pins s Y H xs us Q I r h
 obtain⟨i,rfl,q⟩:=h
 obtain⟨u,rfl,t,rfl⟩:=vals1 r
 exact call_abs_int fun u tk=>⟨.int (if i<0 then -i else i),H,I.tok _,⟨_,rfl⟩,q⟩
theorem Ea(hc:X.calm=true):fU X (.builtin "max") (fun xs H Q=>∃i j,xs=[.int i,.int j]/\Q (.int (if j>i then j else i)) H):=by
 intro pins s Y H xs us Q I r h
 obtain⟨i,j,rfl,q⟩:=h
 obtain⟨u,w',rfl,⟨t,rfl⟩,⟨t',rfl⟩⟩:=vals2 r
 refine max_two_ints (I.ok.hd hc) fun h' tk k=>⟨_,H,I.kept k,?_,q⟩
 by_cases hj:j>i
 ·rw[if_pos hj,if_pos hj];exact⟨_,rfl⟩
 ·rw[if_neg hj,if_neg hj];exact⟨_,rfl⟩
theorem DM(hc:X.calm=true):fU X (.builtin "min") (fun xs H Q=>∃i j,xs=[.int i,.int j]/\Q (.int (if j<i then j else i)) H):=by
 intro pins s Y H xs us Q I r h
 obtain⟨i,j,rfl,q⟩:=h
 obtain⟨u,w',rfl,⟨t,rfl⟩,⟨t',rfl⟩⟩:=vals2 r
 refine min_two_ints (I.ok.hd hc) fun h' tk k=>⟨_,H,I.kept k,?_,q⟩
 by_cases hj:j<i
 ·rw[if_pos hj,if_pos hj];exact⟨_,rfl⟩
 ·rw[if_neg hj,if_neg hj];exact⟨_,rfl⟩
theorem D6:fU X (.type "int") (fun xs H Q=>(∃i,xs=[.int i]/\Q (.int i) H)\/∃k,xs=[.bl k]/\Q (.int (if k then 1 else 0)) H):=by
 intro pins s Y H xs us Q I r h
 rcases h with ⟨i,rfl,q⟩|⟨k,rfl,q⟩
 ·obtain⟨u,rfl,t,rfl⟩:=vals1 r
  exact call_int_int ⟨.int i,H,I,⟨_,rfl⟩,q⟩
 ·obtain⟨u,rfl,r1⟩:=vals1 r
  cases r1
  exact call_int_bool ⟨.int (if k then 1 else 0),H,I.tok _,⟨_,rfl⟩,q⟩
theorem yT:fU X (.type "str") (fun xs H Q=>∃i,xs=[.int i]/\i.natAbs.log2<1920/\Q (.str (toString i)) H):=by
 intro pins s Y H xs us Q I r h
 obtain⟨i,rfl,hz,q⟩:=h
 obtain⟨u,rfl,t,rfl⟩:=vals1 r
 exact PySem.P.str_of_int hz ⟨.str _,H,I.tok _,⟨_,rfl⟩,q⟩
end
end L2
namespace L2
open PySem PySem.Spec PyProof.Rows
end L2
namespace L2
open PySem PySem.Spec PyProof.Rows
structure fi(k:Nat)(A:Around):Prop where
 hd:A.handled=none
 dp:A.depth+3*k+5<recursionLimit
 un:A.units+16*k+200<cLine
theorem fi.mono{j k:Nat}{A:Around}(r:fi k A)(h:j<=k):fi j A:=⟨r.hd,by have:=r.dp;omega,by have:=r.un;omega⟩
theorem fi.deeper{k:Nat}{A:Around}(r:fi (k+1) A)(env:Env):fi k (A.deeper env):=
 ⟨r.hd,by have:=r.dp;show A.depth+1+3*k+5<_;omega,by have:=r.un;show A.units+3+16*k+200<_;omega⟩
theorem fi.depth{k:Nat}{A:Around}(r:fi k A):A.depth<recursionLimit:=by have:=r.dp;omega
theorem fi.units{k:Nat}{A:Around}(r:fi k A):A.units+64<cLine:=by have:=r.un;omega
noncomputable def MR:TA:=fun _ H Q=>Q [] H
noncomputable def LI(ta:TE)(tr:TA):TA:=fun Y H Q=>ta Y H fun x H1=>tr Y H1 fun xs H2=>Q (x::xs) H2
section
variable {X:Cx}{e:Expr}{es:List Expr}{te:TE}{t:TA}{pos:Pos}
theorem kg:PA X [] MR:=fun _ _ _ _ H Q I h=>Calls.spliced_nil ⟨[],H,I,.nil,h⟩
theorem dP(ha:PE X e te)(hr:PA X es t)(hs:starEach (e::es) X.env=(false,eval e X.env)::starEach es X.env:=by rfl):PA X (e::es) (LI te t):=by
 intro pos pins s Y H Q I h
 rw[hs]
 show wpAny _ _ (spliced ((false,eval e X.env)::backTo pos (starEach es X.env))) _ _ s
 refine Calls.spliced_cons (thn (ha pins s Y H _ I h) fun u s1 ⟨x,H1,I1,r1,q1⟩=>?_)
 exact thn (hr pos pins s1 Y H1 _ I1 q1) fun us s2 ⟨xs,H2,I2,r2,q2⟩=>⟨x::xs,H2,I2,.cons r1 r2,q2⟩
noncomputable def MP(t:TA):TE:=fun Y H Q=>t Y H fun xs H1=>xs.length<=sizeLine/\∀p,H1 p=none->Q (.ref p) (upd H1 p (.tup xs))
noncomputable def MQ(t:TA):TE:=fun Y H Q=>t Y H fun xs H1=>xs.length<=sizeLine/\∀p,H1 p=none->Q (.ref p) (upd H1 p (.lst xs))
theorem Kw{x1}(h:PA X es t):PE X (.Tuple es x1 pos) (MP t):=by
 intro pins s Y H Q I hq
 refine wpAny_Tuple_spliced (thn (h pos pins s Y H _ I hq) fun us s1 ⟨xs,H1,I1,r,z,q⟩=>⟨by rw[<- r.length];exact z,?_⟩)
 have hf:H1 s1.heap.objs.size=none:=I1.hok.fresh (le_refl _)
 refine⟨.ref s1.heap.objs.size,upd H1 s1.heap.objs.size (.tup xs),I1.laid (t':=s1.toks) (fun b u e=>Heap.get?_push_of_some _ e) (le_refl _) ?_,rfl,q _ hf⟩
 exact⟨z,us,r,⟨_,Heap.get?_push_size _ rfl,rfl,_,rfl⟩⟩
theorem IZ(h:PA X es t):PE X (.List es pos) (MQ t):=by
 intro pins s Y H Q I hq
 refine wpAny_List_spliced (thn (h pos pins s Y H _ I hq) fun us s1 ⟨xs,H1,I1,r,z,q⟩=>⟨by rw[<- r.length];exact z,?_⟩)
 have hf:H1 s1.heap.objs.size=none:=I1.hok.fresh (le_refl _)
 refine⟨.ref s1.heap.objs.size,upd H1 s1.heap.objs.size (.lst xs),I1.laid (t':=s1.toks) (fun b u e=>Heap.get?_push_of_some _ e) (le_refl _) ?_,rfl,q _ hf⟩
 exact⟨z,us,0,r,Heap.get?_push_size _ rfl⟩
end
abbrev Sp:=List V->Hp->VK->XK->Prop
abbrev CXT:=List Env->Hp->Shared->XK->Value->Shared->Prop
structure wb(P:Program)(w:World)(K:PySem.W.Frag)(mg:Str->Option Value)(base:Heap)(A:Around)(outer:List Env)(s:Shared)(H:Hp):Prop where
 frames:A.frames=some outer
 mod:Mod K mg base
 bs:∀b o,base.get? b=some o->s.heap.get? b=some o/\H b=none
 bsz:base.objs.size<=s.heap.objs.size
 oG:s.heap.FunFrames base outer
 frf:∀b∈frs outer,H b=none
 hok:HOk P w H s.heap
 bare:AllBare s.gens
noncomputable def CE(outer:List Env)(P:Program)(w:World)(H:Hp)(s:Shared)(Q:VK)(u:Value)(s':Shared):Prop:=
 ∃v H',s'.os=s.os/\AllBare s'.gens/\Un (frs outer) [] H H' s.heap s'.heap/\HOk P w H' s'.heap/\RelV v u/\Q v H'
noncomputable def CR(CX:CXT)(outer:List Env)(P:Program)(w:World)(H:Hp)(s:Shared)(Q:VK)(E:XK)(r:Result)(s':Shared):Prop:=
 match r with
 |.ok (.ret u)=>CE outer P w H s Q u s'
 |.ok _=>False
 |.error e=>CX outer H s E e s'
structure bw(P:Program)(w:World)(K:PySem.W.Frag)(mg:Str->Option Value)(base:Heap)(CX:CXT)(k:Nat)(f:Addr)(fd:FuncData)(ps:List Str)(sp:Sp):Prop where
 len:∀vs H Q E,sp vs H Q E->vs.length=ps.length
 run:∀(A:Around) (outer:List Env) (s:Shared) (H:Hp) (args:Args) (us:List Value) (vs:List V) (Q:VK) (E:XK),fi k A->wb P w K mg base A outer s H->BindsTo s fd args (ps.zip us)->Vals vs us->sp vs H Q E ->
  codeAny (model P w) A (.call (.ref f) args) (CR CX outer P w H s Q E) s
section
variable {X:Cx}{pins:List (Addr×Obj)}{Y:St}{H:Hp}{s s':Shared}
theorem Inv.Ga(I:Inv X pins Y H s):wb X.prog X.w X.K X.mg X.base X.A X.stack s H:=
 ⟨I.ok.frames,I.ok.mod,I.bs,le_trans I.ok.bsz I.sz,I.stack,I.pd,I.hok,I.bare⟩
theorem Inv.after{Q:VK}{u:Value}(I:Inv X pins Y H s)(h:CE X.stack X.prog X.w H s Q u s'):EP X pins Y Q u s':=by
 obtain⟨v,H',os,bare,un,hok,r,q⟩:=h
 obtain⟨hh,g,d,t,os'⟩:=s'
 obtain rfl:os'=s.os:=os
 exact⟨v,H',I.call (h':=hh) (g':=g) (d':=d) (t':=t) (ch:=[]) un hok bare (fun b z=>absurd z (by simp)),r,q⟩
end
noncomputable def MA(sp:Sp)(dvs:List V)(E:XK)(t:TA):TE:=fun Y H Q=>t Y H fun vs H1=>sp (vs++dvs) H1 Q E
noncomputable def Binds(K:PySem.W.Frag)(fd:FuncData)(ps:List Str)(ds:List Value):Prop:=
 ∀(s:Shared) (us:List Value),K.In s.heap->(us++ds).length=ps.length->BindsTo s fd ⟨us,[]⟩ (ps.zip (us++ds))
theorem Binds.all{K:PySem.W.Frag}{fd:FuncData}{ps:List Str}(h:∀us:List Value,us.length=ps.length->bindArgs fd ⟨us,[]⟩=pure (ps.zip us)):Binds K fd ps []:=fun s us _ hl=>by
 rw[append_nil] at hl ⊢
 exact .of_eq (h us hl)
noncomputable def Passes(CX:CXT)(X:Cx)(E:XK):Prop:=∀(pins:List (Addr×Obj)) (Y:St) (H:Hp) (s:Shared) (e:Value) (s':Shared),Inv X pins Y H s->CX X.stack H s E e s'->X.xe e s'
section
variable {X:Cx}{CX:CXT}{k:Nat}{f C:Addr}{fd:FuncData}{ps:List Str}{sp:Sp}{dvs:List V}{ds:List Value}{E:XK}{x m:Str}{p pos apos:Pos}{e o:Expr}{es:List Expr}{ta:TE}{t:TA}
theorem K3{pins:List (Addr×Obj)}{Y:St}{H:Hp}{s:Shared}{Q:VK}{us:List Value}{vs:List V}(F:bw X.prog X.w X.K X.mg X.base CX k f fd ps sp)(hr:fi k X.A)(hb:Binds X.K fd ps ds)(hd:Vals dvs ds)(hx:Passes CX X E)
  (I:Inv X pins Y H s) (r:Vals vs us) (h:sp (vs++dvs) H Q E):wpAny (model X.prog X.w) X.A (call (.ref f) us) (EP X pins Y Q) X.xe s:=by
 have r2:Vals (vs++dvs) (us++ds):=r.append hd
 have hl:(us++ds).length=ps.length:=by rw[<- r2.length];exact F.len _ _ _ _ h
 refine wpAny_call (codeAny_mono (F.run X.A X.stack s H ⟨us,[]⟩ (us++ds) (vs++dvs) Q E hr I.Ga (hb s us I.kIn hl) r2 h) fun r s' hq=>?_)
 cases r with
 |error e=>exact hx pins Y H s e s' I hq
 |ok fl=>
  cases fl with
  |ret u=>exact I.after hq
  |next=>exact False.elim hq
  |brk=>exact False.elim hq
  |cont=>exact False.elim hq
theorem Cs(F:bw X.prog X.w X.K X.mg X.base CX k f fd ps sp)(hr:fi k X.A)(hg:Gl X x)(hm:X.mg x=some (.ref f))(hk:keepIn X.K (.ref f)=true)(hb:Binds X.K fd ps ds)(hd:Vals dvs ds)(hx:Passes CX X E)
  (ha:PA X (e::es) t) (hdb:(x==("__debug__":Str))=false:=by decide) (he:starEach (e::es) X.env=(false,eval e X.env)::starEach es X.env:=by rfl) (hpl:(backTo pos (starEach es X.env)).any (·.1)=false:=by rfl) :
  PE X (.Call (.Name x p) (e::es) [] pos) (MA sp dvs E t):=by
 intro pins s Y H Q I h
 refine wpAny_Call_Name_kw (nE I hg hm ?_ hdb)
 refine PySem.W.callWith_K (h₀:=X.base) I.ok.mod.kin hk (thn (ha pos pins s Y H _ I h) fun us s1 ⟨vs,H1,I1,r,q⟩=>⟨I1.kIn,?_⟩) he hpl
 exact K3 F hr hb hd hx I1 r q
end
structure aZ(N P:List Str)(sc:Scope):Prop where
 kind:sc.kind = .function
 co:sc.isCoroutine=false
 gen:sc.isGenerator=false
 nd:N.Nodup
 pre:N.take P.length=P
 par:∀x∈P,sc.names.lookup x=some .local\/sc.names.lookup x=some .cell
 KN:∀y∈sc.names,y.2≠.free
theorem wk{kindOf:Str->Option NameKind}{x:Str}:∀{binds:List (Str×Value)} {m:Str->Option Value},(∀v,(x,v) ∉ binds)->bindL kindOf binds m x=m x
 |[],_,_=>rfl
 |(n,v)::r,m,h=>by
  unfold bindL
  rw[wk fun w hw=>h w (mem_cons_of_mem _ hw)]
  split
  ·have:x≠n:=by rintro rfl;exact h v mem_cons_self
   simp[this]
  ·rfl
theorem wX{kindOf:Str->Option NameKind}{x:Str}:∀{binds:List (Str×Value)} {m:Str->Option Value},(∀v,(x,v) ∉ binds)->bindC kindOf binds m x=m x
 |[],_,_=>rfl
 |(n,v)::r,m,h=>by
  unfold bindC
  rw[wX fun w hw=>h w (mem_cons_of_mem _ hw)]
  split
  ·rfl
  ·have:x≠n:=by rintro rfl;exact h v mem_cons_self
   simp[this]
theorem wH{kindOf:Str->Option NameKind}{x:Str}{v:Value}:∀{P:List Str} {vs:List Value} {i:Nat} {m:Str->Option Value},P.Nodup->P[i]? = some x->vs[i]? = some v->kindOf x=some .local ->
  bindL kindOf (P.zip vs) m x=some v
 |[],_,_,_,_,h,_,_=>by simp at h
 |_::_,[],_,_,_,_,h,_=>by simp at h
 |p::P,w::vs,0,m,nd,h1,h2,hk=>by
  simp at h1 h2;subst h1;subst h2
  show bindL kindOf ((p,w)::P.zip vs) m p=_
  unfold bindL
  rw[wk fun v hv=>(List.nodup_cons.mp nd).1 (List.of_mem_zip hv).1,if_pos hk]
  simp
 |p::P,w::vs,i+1,m,nd,h1,h2,hk=>by
  show bindL kindOf ((p,w)::P.zip vs) m x=_
  unfold bindL
  exact wH (i:=i) (List.nodup_cons.mp nd).2 (by simpa using h1) (by simpa using h2) hk
theorem wL{kindOf:Str->Option NameKind}{x:Str}{v:Value}:∀{P:List Str} {vs:List Value} {i:Nat} {m:Str->Option Value},P.Nodup->P[i]? = some x->vs[i]? = some v->kindOf x≠some .local ->
  bindC kindOf (P.zip vs) m x=some v
 |[],_,_,_,_,h,_,_=>by simp at h
 |_::_,[],_,_,_,_,h,_=>by simp at h
 |p::P,w::vs,0,m,nd,h1,h2,hk=>by
  simp at h1 h2;subst h1;subst h2
  show bindC kindOf ((p,w)::P.zip vs) m p=_
  unfold bindC
  rw[wX fun v hv=>(List.nodup_cons.mp nd).1 (List.of_mem_zip hv).1,if_neg hk]
  simp
 |p::P,w::vs,i+1,m,nd,h1,h2,hk=>by
  show bindC kindOf ((p,w)::P.zip vs) m x=_
  unfold bindC
  exact wL (i:=i) (List.nodup_cons.mp nd).2 (by simpa using h1) (by simpa using h2) hk
def start(N:List Str)(vs:List V):St:=vs.map some++List.replicate (N.length-vs.length) none
def jJ(CX:CXT)(P:Program)(w:World)(K:PySem.W.Frag)(mg:Str->Option Value)(base:Heap)(N:List Str)(qual:Str)(scope:Scope)(f:Addr)(cd:Value)(A:Around)(outer:List Env)(s:Shared)(H:Hp)(E:XK):Cx where
 prog:=P
 w:=w
 K:=K
 mg:=mg
 base:=base
 A:=A.deeper (envOfC qual scope s.heap.objs.size f cd)
 N:=N
 dl:=s
 H₀:=H
 env:=envOfC qual scope s.heap.objs.size f cd
 outer:=outer
 stack:=envOfC qual scope s.heap.objs.size f cd::outer
 ex:=[]
 calm:=true
 fn:=fun _=>true
 pn:=[]
 xe:=fun e s'=>wpAny (model P w) (A.deeper (envOfC qual scope s.heap.objs.size f cd)) (leaving (envOfC qual scope s.heap.objs.size f cd) e) (fun _ s''=>CX outer H s E e s'') (fun e' s''=>CX outer H s E e' s'') s'
theorem AY{sc:Scope}{n:Nat}{x:Str}(h:sc.names.lookup x=some .cell):∃c,(cellsFrom n sc.names []).lookup x=some c:=by
 have q:=PySem.W.cellsFrom_some sc.names n [] (.inl h)
 exact Option.isSome_iff_exists.mp q
theorem wm{CX:CXT}{P:Program}{w:World}{K:PySem.W.Frag}{mg:Str->Option Value}{base:Heap}{N ps:List Str}{qual:Str}{scope:Scope}{f:Addr}{cd:Value}{A:Around}{outer:List Env}{s s1:Shared}{H:Hp}{E:XK}{us:List Value}{vs:List V}
  (S:aZ N ps scope) (hd:A.handled=none) (e0:wb P w K mg base A outer s H) (hl:vs.length=ps.length) (r:Vals vs us)
  (x:InCallC s s.heap.objs.size (bindL (envOfC qual scope s.heap.objs.size f cd).kindOf (ps.zip us) fun _=>none) (cellsFrom (s.heap.objs.size+1) scope.names []) (bindC (envOfC qual scope s.heap.objs.size f cd).kindOf (ps.zip us) fun _=>none) s1) :
  Inv (jJ CX P w K mg base N qual scope f cd A outer s H E) [] (start N vs) H s1:=by
 have hpl:ps.length<=N.length:=by have:=congrArg List.length S.pre;rw[length_take] at this;omega
 obtain⟨h1,tk,rfl,hk⟩:=x.done
 have noA:∀b:Addr,b ∉ (jJ CX P w K mg base N qual scope f cd A outer s H E).ex:=fun b z=>absurd (show b∈([]:List Addr) from z) (by simp)
 refine⟨⟨e0.mod,S.kind,rfl,rfl,le_refl _,fun y z c h1 h2=>?_,fun y hy=>?_,fun y c _ h=>?_,fun _=>hd,.inl hd,Around.frames_deeper e0.frames,.inr ⟨rfl,rfl⟩,fun b z=>absurd z (noA b),e0.bs,e0.bsz,fun b _ _=>noA b,fun b z=>absurd z (noA b),e0.oG,e0.frf⟩,
  rfl,e0.bare,Un.kept hk,⟨_,x.toInCall.ns,fun i y v h1 h2 h3=>?_⟩,fun y c h=>⟨_,x.cell y c h⟩,e0.hok.fresh (le_refl _),fun y c h=>?_,fun p hp=>absurd (show p∈([]:List (Addr×Obj)) from hp) (by simp),e0.hok.kept hk,?_⟩
 ·exact name_of_addr x.apart (mem_of_lookup h1) (mem_of_lookup h2)
 ·have hy:scope.names.lookup y=some .cell\/scope.names.lookup y=some .free:=hy
  rcases hy with hy|hy
  ·exact AY hy
  ·exact absurd rfl (S.KN _ (mem_of_lookup hy))
 ·exact le_of_lt (x.above y c (mem_of_lookup h))
 ·have hi:i<vs.length:=by
   unfold start at h2
   by_cases hi:i<vs.length
   ·exact hi
   ·rw[List.getElem?_append_right (by simpa using hi)] at h2
    rw[List.getElem?_replicate] at h2
    split at h2<;>cases h2
  have ha:vs[i]? = some v:=by
   unfold start at h2
   rw[List.getElem?_append_left (by simpa using hi),getElem?_map] at h2
   cases e:vs[i]? with
   |none=>rw[e] at h2;cases h2
   |some a=>rw[e] at h2;cases h2;rfl
  obtain⟨u,hu,rv⟩:=r.get ha
  have hp:ps[i]? = some y:=by
   rw[<- S.pre,List.getElem?_take_of_lt ∅];exact h1
  have ndP:ps.Nodup:=by rw[<- S.pre];exact S.nd.sublist (List.take_sublist _ _)
  refine⟨u,rv,?_⟩
  rcases S.par y (mem_of_getElem? hp) with k|k
  ·exact .inl ⟨k,wH ndP hp hu k⟩
  ·obtain⟨c,e⟩:=AY (n:=s.heap.objs.size+1) k
   refine .inr ⟨.inl k,c,e,?_⟩
   have q:=x.cell y c e
   rw[wL ndP hp hu (by show scope.names.lookup y≠_;rw[k];decide)] at q
   exact q
 ·exact e0.hok.fresh (le_of_lt (x.above y c (mem_of_lookup h)))
 ·unfold start
  show _=N.length
  rw[length_append,length_map,List.length_replicate]
  omega
theorem FG{CX:CXT}{P:Program}{w:World}{K:PySem.W.Frag}{mg:Str->Option Value}{base:Heap}{k:Nat}{f:Addr}{name qual:Str}{params:Arguments}{body:List Stmt}{scope:Scope}{dV kV doc pm cdv ct oc:Value}{an od:Option Addr}
  {osl:Array (Option Value)} {N ps:List Str} {sp:Sp} (lk:K.lookup f=some ⟨oc,od,.func (fnOf name qual params body scope dV kV doc pm an cdv ct),osl⟩) (hcd:codeIn K cdv qual=true) (S:aZ N ps scope)
  (len:∀vs H Q E,sp vs H Q E->vs.length=ps.length)
  (hbody:∀(A:Around) (outer:List Env) (s:Shared) (H:Hp) (vs:List V) (Q:VK) (E:XK),fi k (A.deeper (envOfC qual scope s.heap.objs.size f cdv))->sp vs H Q E ->
   ∃t,PSs (jJ CX P w K mg base N qual scope f cdv A outer s H E) body t/\t {nx:=fun _ H'=>Q .non H',rt:=Q} (start N vs) H) :
  bw P w K mg base CX (k+1) f (fnOf name qual params body scope dV kV doc pm an cdv ct) ps sp:=by
 refine⟨len,fun A outer s H args us vs Q E hr e0 hb r hsp=>?_⟩
 have hl:=len _ _ _ _ hsp
 have KX:K.In s.heap:=e0.mod.kin.keeps fun b o e=>(e0.bs b o e).1
 have lim:s.heap.NoLimit:=e0.mod.nolimit.keeps fun b o e=>(e0.bs b o e).1
 have hkind:∀y∈ps.zip us,scope.names.lookup y.1=some .local\/(scope.names.lookup y.1=some .cell/\((cellsFrom (s.heap.objs.size+1) scope.names []).lookup y.1).isSome=true):=fun ⟨n,v⟩ hy=>by
  rcases S.par n (List.of_mem_zip hy).1 with q|q
  ·exact .inl q
  ·exact .inr ⟨q,PySem.W.cellsFrom_some _ _ _ (.inl q)⟩
 refine codeAny_call_function hr.depth (KX _ _ lk) rfl S.co S.gen rfl (PySem.W.codeRec_of KX hcd) (hb _ _ _ _ ?_)
 refine wpAny_newFunctionEnv_cells S.kind hkind fun env he s1 x=>?_
 subst he
 refine⟨lim.keeps x.toInCall.keep,codeAny_func ?_⟩
 obtain⟨t,ht,hq⟩:=hbody A outer s H vs Q E (hr.deeper _) hsp
 have I:Inv (jJ CX P w K mg base N qual scope f cdv A outer s H E) [] (start N vs) H s1:=wm S hr.hd e0 hl r x
 refine wpAny_mono (ht [] s1 (start N vs) H _ I hq) (fun fl s' hs=>?_) fun e s' hs=>hs
 have fin:∀{ap:St} {H':Hp} {v:V} {u:Value},Inv (jJ CX P w K mg base N qual scope f cdv A outer s H E) [] ap H' s'->RelV v u->Q v H'->CE outer P w H s Q u s':=
  fun {ap H' v u} J rv q=>⟨v,H',J.os,J.bare,J.base,J.hok,rv,q⟩
 cases fl with
 |ret u=>
  obtain⟨v,ap,H',J,rv,q⟩:=hs
  exact fin J rv q
 |next=>
  obtain⟨ap,H',J,q⟩:=hs
  exact fin (v:=V.non) (u:=Value.none) J rfl q
 |brk=>
  obtain⟨_,_,_,q⟩:=hs
  exact False.elim q
 |cont=>
  obtain⟨_,_,_,q⟩:=hs
  exact False.elim q
end L2
namespace L2
open PySem PySem.Spec PyProof.Rows
section
variable {X:Cx}{x:Str}{p pos:Pos}{e:Expr}{es:List Expr}{t:TA}{id T:String}{r:List V->Hp->VK->Prop}
noncomputable def tCB(r:List V->Hp->VK->Prop)(t:TA):TE:=fun Y H Q=>t Y H fun vs H1=>r vs H1 Q
theorem qu(hc:fU X (.builtin id) r)(hg:Gl X x)(hm:X.mg x=none)(hv:bootBuiltins x=some (.builtin id))(ha:PA X (e::es) t)(hn:x ≠ "__name__":=by decide)(hdb:(x==("__debug__":Str))=false:=by decide)
  (he:starEach (e::es) X.env=(false,eval e X.env)::starEach es X.env:=by rfl) (hpl:(backTo pos (starEach es X.env)).any (·.1)=false:=by rfl):PE X (.Call (.Name x p) (e::es) [] pos) (tCB r t):=by
 intro pins s Y H Q I h
 refine wpAny_Call_Name_kw (yj I hg hm hv ?_ hn hdb)
 exact PyProof.Rows.callWith_builtin1 (thn (ha pos pins s Y H _ I h) fun us s1 ⟨vs,H1,I1,r1,q1⟩=>hc pins s1 Y H1 vs us Q I1 r1 q1) he hpl
theorem DY(hc:fU X (.type T) r)(hg:Gl X x)(hm:X.mg x=none)(hv:bootBuiltins x=some (.type T))(ha:PA X (e::es) t)(hn:x ≠ "__name__":=by decide)(hdb:(x==("__debug__":Str))=false:=by decide)
  (he:starEach (e::es) X.env=(false,eval e X.env)::starEach es X.env:=by rfl) (hpl:(backTo pos (starEach es X.env)).any (·.1)=false:=by rfl):PE X (.Call (.Name x p) (e::es) [] pos) (tCB r t):=by
 intro pins s Y H Q I h
 refine wpAny_Call_Name_kw (yj I hg hm hv ?_ hn hdb)
 exact PyProof.Rows.callWith_type1 (thn (ha pos pins s Y H _ I h) fun us s1 ⟨vs,H1,I1,r1,q1⟩=>hc pins s1 Y H1 vs us Q I1 r1 q1) he hpl
end
end L2
namespace HT
open PySem PyProof.Rows
section
open PySem.SeqAt
open PySem.AutoSeq1 (wpAny_loadPart')
open PySem.MeetsSeq PySem.MeetsSeq2 PySem.MeetsSeq3
end
section
variable {prog:Program}{w:World}{A:Around}{E:Value->Shared->Prop}{s:Shared}
theorem HH{t b:Addr}{vs ws:List Value}{Q:Value->Shared->Prop}(ht:IsTup s.heap t vs.toArray)(hb:IsTup s.heap b ws.toArray)(hv:vs≠[])
  (h1:ws=[]->Q (.ref t) s) (h2:ws≠[]->Q (.ref s.heap.objs.size) {s with heap:=s.heap.push {cls:=.type "tuple",data:=.seq (vs++ws).toArray}})
  (hsz:vs.length+ws.length<=sizeLine):wpAny (model prog w) A (binaryOp .Add (.ref t) (.ref b)) Q E s:=by
 obtain⟨⟨cls,dd,data,sl⟩,ho,hc,n,hd⟩:=id ht
 obtain⟨⟨cls2,dd2,data2,sl2⟩,ho2,hc2,n2,hd2⟩:=id hb
 simp only at hc hd hc2 hd2
 subst hc hd hc2 hd2
 have e:vs.toArray++ws.toArray=(vs++ws).toArray:=by simp
 by_cases hw:ws=[]
 ·exact concat_meets ⟨_,ho,rfl⟩ ⟨_,ho2,rfl⟩ noFill_tuple_add seq_tuple_add PySem.F.slot_tuple_add PySem.F.entry_tuple_add (PySem.F.args_tuple_add_2 _ _)
   (tuple_addW1 t b vs.toArray ws.toArray n n2 dd dd2 sl sl2 (by simpa using hv) (by simp[hw])) ⟨ho,ho2,h1 hw⟩
 ·refine concat_meets ⟨_,ho,rfl⟩ ⟨_,ho2,rfl⟩ noFill_tuple_add seq_tuple_add PySem.F.slot_tuple_add PySem.F.entry_tuple_add (PySem.F.args_tuple_add_2 _ _)
   (tuple_addW2 t b vs.toArray ws.toArray n n2 dd dd2 sl sl2 (by simpa using hv) (by simpa using hw) (by rw[size_toArray,size_toArray];exact hsz)) ⟨ho,ho2,?_⟩
  rw[e]
  exact h2 hw
def sIx(n d:Nat):Option Int->Nat
 |none=>d
 |some v=>if v<0 then (v+(n:Int)).toNat else min v.toNat n
theorem KW(n d:Nat)(hd:d<=n)(o:Option Int):sIx n d o<=n:=by
 cases o with
 |none=>exact hd
 |some v=>
  show (if v<0 then (v+(n:Int)).toNat else min v.toNat n)<=n
  by_cases hv:v<0
  ·rw[if_pos hv];omega
  ·rw[if_neg hv];exact Nat.min_le_right _ _
theorem C7(v:Int)(n d:Nat):(if v<0 then max (v+(n:Int)) 0 else min v (n:Int))=((sIx n d (some v):Nat):Int):=by
 show (if v<0 then max (v+(n:Int)) 0 else min v (n:Int))=(((if v<0 then (v+(n:Int)).toNat else min v.toNat n):Nat):Int)
 by_cases hv:v<0
 ·simp only[if_pos hv];omega
 ·simp only[if_neg hv];omega
theorem B6(lo hi:Option Int)(n:Nat):Builtin.Slice.sliceAdjust lo hi 1 (n:Int)=(((sIx n 0 lo:Nat):Int),((sIx n n hi:Nat):Int)):=by
 have h1:¬ ((1:Int)<0):=by omega
 unfold Builtin.Slice.sliceAdjust
 simp only[h1,if_false]
 refine Prod.ext ?_ ?_
 ·cases lo with
  |none=>rfl
  |some v=>exact C7 v n 0
 ·cases hi with
  |none=>rfl
  |some v=>exact C7 v n n
theorem A8(i j:Nat):Builtin.Slice.slicePlaces (i:Int) (j:Int) 1=j-i:=by
 unfold Builtin.Slice.slicePlaces
 have h1:(1:Int)>0:=by omega
 simp only[h1,if_true,Int.ediv_one]
 split<;>omega
theorem tZ{v:Value}{o:Option Int}{Q:Option Int->Shared->Prop}(p:IsPart v o)(h:Q o s):wpAny (model prog w) A (Builtin.Slice.slicePartIndex v) Q E s:=by
 cases p with
 |none=>exact slicePart_none h
 |int i t=>exact slicePart_int h
theorem kK{sl:Addr}{vl vu:Value}{lo hi:Option Int}{n:Nat}{Q:Int×Int×Nat->Shared->Prop}(hs:s.heap.IsSliceOf sl vl vu .none)(pl:IsPart vl lo)(pu:IsPart vu hi)
  (h:Q (((sIx n 0 lo:Nat):Int),1,sIx n n hi-sIx n 0 lo) s):wpAny (model prog w) A (Builtin.Slice.sliceApplied (.ref sl) (pure (n:Int))) Q E s:=by
 obtain⟨os,hos,hcs,hds⟩:=id hs
 unfold Builtin.Slice.sliceApplied Builtin.Slice.sliceFields
 refine wpAny_bind (wpAny_bind (wpAny_field hos hds (x:=vl) rfl (wpAny_bind (wpAny_field hos hds (x:=vu) rfl (wpAny_bind (wpAny_field hos hds (x:=.none) rfl (wpAny_pure ?_)))))))
 refine wpAny_bind (slicePart_none ?_)
 show wpAny _ _ (if ((1:Int)==0)=true then _ else _) _ _ s
 rw[if_neg ⋯]
 refine wpAny_bind (tZ pl (wpAny_bind (tZ pu (wpAny_bind (wpAny_pure ?_)))))
 show wpAny _ _ (match Builtin.Slice.sliceAdjust lo hi 1 (n:Int) with|(lo,hi)=>pure (lo,(1:Int),Builtin.Slice.slicePlaces lo hi 1)) _ _ s
 rw[B6 lo hi n]
 show wpAny _ _ (pure (((sIx n 0 lo:Nat):Int),(1:Int),Builtin.Slice.slicePlaces ((sIx n 0 lo:Nat):Int) ((sIx n n hi:Nat):Int) 1)) _ _ s
 rw[A8]
 exact wpAny_pure h
theorem Gy(xs:Array Value)(i k:Nat):((List.range k).filterMap fun (m:Nat)=>xs[((i:Int)+(m:Int)*1).toNat]?).toArray=((xs.toList.drop i).take k).toArray:=by
 have e:(fun (m:Nat)=>xs[((i:Int)+(m:Int)*1).toNat]?)=fun m=>xs[i+m]?:=by
  funext m
  have:((i:Int)+(m:Int)*1).toNat=i+m:=by omega
  rw[this]
 rw[e]
 have:=pick_run xs i k
 rw[List.filterMap_map] at this
 have e2:((fun x=>xs[x]?) ∘ fun x=>i+x)=fun m=>xs[i+m]?:=rfl
 rw[e2] at this
 rw[this]
theorem o8{t sl:Addr}{items:Array Value}{vl vu:Value}{lo hi:Option Int}{Q:Value->Shared->Prop}(ht:IsTup s.heap t items)(hs:s.heap.IsSliceOf sl vl vu .none)(pl:IsPart vl lo)(pu:IsPart vu hi)
  (hw:¬ (sIx items.size 0 lo=0/\sIx items.size items.size hi=items.size))
  (h:Q (.ref s.heap.objs.size) {s with heap:=s.heap.push {cls:=.type "tuple",data:=.seq ((items.toList.drop (sIx items.size 0 lo)).take (sIx items.size items.size hi-sIx items.size 0 lo)).toArray}})
  (hsz:items.size<=sizeLine):wpAny (model prog w) A (getItem (.ref t) (.ref sl)) Q E s:=by
 have htake:sizeOk (.seq ((items.toList.drop (sIx items.size 0 lo)).take (sIx items.size items.size hi-sIx items.size 0 lo)).toArray):=by
  show ((items.toList.drop (sIx items.size 0 lo)).take (sIx items.size items.size hi-sIx items.size 0 lo)).toArray.size<=sizeLine
  rw[size_toArray,length_take,List.length_drop,Array.length_toList]
  omega
 have hj:sIx items.size items.size hi<=items.size:=KW _ _ (le_refl _) hi
 obtain⟨os,hos,hcs,hds⟩:=id hs
 have hTs:s.TypeIs (.ref sl) "slice":=⟨os,hos,hcs⟩
 unfold getItem
 try with_reducible refine wpAny_holding ?_
 first|refine wpAny_bind (wpAny_pure ?_)|skip
 refine wpAny_bind (wpAny_sequenceKey ht.typeIs ⋯ ?_)
 refine wpAny_bind (wpAny_callSpecial?_slot (name:=Str.ofString "__getitem__") ht.typeIs PyProof.Rows.slot_tuple_getitem
  (wpAny_call_entry PyProof.Rows.slot_tuple_getitem ht.typeIs entry_tuple_getitem ?_ (args_tuple_getitem _ _)))
 show wpAny _ _ (Builtin.Tuple.tupleItemsOf (.ref t)>>=_) _ _ s
 refine wpAny_bind (tupleItemsOf_ ht ?_)
 refine wpAny_bind (wpAny_typeOf hTs ?_)
 rw[if_pos ⋯]
 refine wpAny_bind (kK hs pl pu ?_)
 have hno:¬ ((((sIx items.size 0 lo:Nat):Int)==0&&(1:Int)==1&&(sIx items.size items.size hi-sIx items.size 0 lo)==items.size)=true):=by
  intro q
  rw[and_eq_true,and_eq_true] at q
  have q1:((sIx items.size 0 lo:Nat):Int)=0:=eq_of_beq q.1.1
  have q2:sIx items.size items.size hi-sIx items.size 0 lo=items.size:=eq_of_beq q.2
  exact hw ⟨∅,∅⟩
 show wpAny _ _ (if (((sIx items.size 0 lo:Nat):Int)==0&&(1:Int)==1&&(sIx items.size items.size hi-sIx items.size 0 lo)==items.size)=true then _ else _) _ _ s
 rw[if_neg hno,Gy]
 first
  |exact wpAny_bind (m:=Builtin.Tuple.tupleExact _) (wpAny_newObj_type (wpAny_pure ⟨_,rfl,wpAny_pure h⟩) htake)
  |exact wpAny_bind (m:=Builtin.Tuple.tupleExact _) (wpAny_newObj_type (wpAny_bind (wpAny_pure (wpAny_pure ⟨_,rfl,wpAny_pure h⟩))) htake)
  |exact wpAny_bind (wpAny_bind (m:=Builtin.Tuple.tupleExact _) (wpAny_newObj_type (wpAny_pure (wpAny_pure ⟨_,rfl,wpAny_pure h⟩)) htake))
  |exact wpAny_bind (wpAny_bind (m:=Builtin.Tuple.tupleExact _) (wpAny_newObj_type (wpAny_pure ⟨_,rfl,wpAny_pure h⟩) htake))
end
end HT
namespace L2
open PySem PySem.Spec PyProof.Rows
abbrev TO:=St->Hp->(Option Int->Hp->Prop)->Prop
noncomputable def PO(X:Cx)(e:Option Expr)(t:TO):Prop:=
 ∀(pins:List (Addr×Obj)) (s:Shared) (Y:St) (H:Hp) (Q:Option Int->Hp->Prop),Inv X pins Y H s->t Y H Q ->
  wpAny (model X.prog X.w) X.A (evalPart e X.env) (fun u s'=>∃o H',Inv X pins Y H' s'/\IsPart u o/\Q o H') X.xe s
noncomputable def Hu:TO:=fun _ H Q=>Q none H
noncomputable def MB(t:TE):TO:=fun Y H Q=>t Y H fun x H1=>∃i,x = .int i/\Q (some i) H1
section
variable {X:Cx}{e:Expr}{te:TE}{lo hi:Option Expr}{tl th:TO}{pos p2:Pos}
theorem GU:PO X none Hu:=by
 intro pins s Y H Q I h
 rw[evalPart_none]
 exact wpAny_pure ⟨none,H,I,.none,h⟩
theorem H0(h:PE X e te):PO X (some e) (MB te):=by
 intro pins s Y H Q I hw
 rw[evalPart_some]
 refine thn (h pins s Y H _ I hw) fun u s1 ⟨x,H1,I1,r1,q1⟩=>?_
 obtain⟨i,rfl,q⟩:=q1
 obtain⟨t,rfl⟩:=r1
 exact⟨some i,H1,I1,.int i t,q⟩
noncomputable def SlR(X:Cx)(r:V->Option Int->Option Int->Hp->VK->Prop):Prop:=
 ∀(pins:List (Addr×Obj)) (s:Shared) (Y:St) (H:Hp) (x:V) (v vl vu:Value) (lo hi:Option Int) (sl:Addr) (Q:VK),Inv X pins Y H s->RelV x v->s.heap.IsSliceOf sl vl vu .none->IsPart vl lo->IsPart vu hi->r x lo hi H Q ->
  ∃T id,typeLookup (.type T) "__getitem__"=pure (some (.builtin id))/\s.TypeIs v T/\wpAny (model X.prog X.w) X.A (getItem v (.ref sl)) (EP X pins Y Q) X.xe s
theorem SlR.or{r r':V->Option Int->Option Int->Hp->VK->Prop}(h:SlR X r)(h':SlR X r'):SlR X (fun x lo hi H Q=>r x lo hi H Q\/r' x lo hi H Q):=by
 intro pins s Y H x v vl vu lo hi sl Q I rx hs pl pu q
 rcases q with q|q
 ·exact h pins s Y H x v vl vu lo hi sl Q I rx hs pl pu q
 ·exact h' pins s Y H x v vl vu lo hi sl Q I rx hs pl pu q
noncomputable def tSl(r:V->Option Int->Option Int->Hp->VK->Prop)(te:TE)(tl th:TO):TE:=fun Y H Q=>te Y H fun x H1=>tl Y H1 fun l H2=>th Y H2 fun u H3=>r x l u H3 Q
theorem Ag{r:V->Option Int->Option Int->Hp->VK->Prop}(hr:SlR X r)(he:PE X e te)(hl:PO X lo tl)(hu:PO X hi th):PE X (.Subscript e (.Slice lo hi none p2) pos) (tSl r te tl th):=by
 intro pins s Y H Q I h
 refine Subscript_ (thn (he pins s Y H _ I h) fun v s1 ⟨x,H1,I1,r1,q1⟩=>?_)
 refine wpAny_Slice (thn (hl pins s1 Y H1 _ I1 q1) fun vl s2 ⟨l,H2,I2,pl,q2⟩=>thn (hu pins s2 Y H2 _ I2 q2) fun vu s3 ⟨u,H3,I3,pu,q3⟩=>?_)
 rw[evalPart_none]
 refine wpAny_pure ?_
 have I4:Inv X pins Y H3 {s3 with heap:=s3.heap.push {cls:=.type "slice",data:=.fields #[vl,vu,.none]}}:=I3.kept (t':=s3.toks) fun b ob q=>Heap.get?_push_of_some _ q
 obtain⟨T,id,hT,ht,hg⟩:=hr pins {s3 with heap:=s3.heap.push {cls:=.type "slice",data:=.fields #[vl,vu,.none]}} Y H3 x v vl vu l u s3.heap.objs.size Q I4 r1 (Heap.IsSliceOf.new ..) pl pu q3
 show wpAny (model X.prog X.w) X.A (subscriptTail e (.Slice lo hi none p2) v (.ref s3.heap.objs.size)) (EP X pins Y Q) X.xe {s3 with heap:=s3.heap.push {cls:=.type "slice",data:=.fields #[vl,vu,.none]}}
 exact tail_any (ops:=[.ref s3.heap.objs.size,v]) ht hT hg (by with_unfolding_all rfl)
def yu(xs:List V)(lo hi:Option Int):List V:=(xs.drop (HT.sIx xs.length 0 lo)).take (HT.sIx xs.length xs.length hi-HT.sIx xs.length 0 lo)
theorem rS(xs:List V)(lo hi:Option Int):(yu xs lo hi).length<=xs.length:=by
 unfold yu
 rw[length_take,List.length_drop]
 omega
def M1(K:PySem.W.Frag):V->Option Int->Option Int->Hp->VK->Prop:=fun x lo hi H Q=>∃a xs,x = .ref a/\SqT K H a xs /\
 ¬ (HT.sIx xs.length 0 lo=0/\HT.sIx xs.length xs.length hi=xs.length)/\∀p,H p=none->Q (.ref p) (upd H p (.tup (yu xs lo hi)))
theorem Kr:SlR X (M1 X.K):=by
 intro pins s Y H x v vl vu lo hi sl Q I rx hs pl pu h
 obtain⟨a,xs,rfl,hx,hw,q⟩:=h
 cases rx
 obtain⟨its,r,ht,hz⟩:=I.tuple hx
 have hlen:its.toArray.size=xs.length:=by rw[size_toArray];exact r.length.symm
 refine⟨"tuple",_,PyProof.Rows.slot_tuple_getitem.lookup,ht.typeIs,?_⟩
 refine HT.o8 ht hs pl pu (by rw[hlen];exact hw) ?_ (by rw[hlen];exact hz)
 rw[hlen]
 refine⟨.ref s.heap.objs.size,_,I.laid (t':=s.toks) (o:=.tup (yu xs lo hi)) (fun b ob q=>Heap.get?_push_of_some _ q) (le_refl _) ?_,rfl,q _ (I.hok.fresh (le_refl _))⟩
 exact⟨le_trans (rS xs lo hi) hz,_,(r.drop (HT.sIx xs.length 0 lo)).take (HT.sIx xs.length xs.length hi-HT.sIx xs.length 0 lo),IsTup.new _ _⟩
noncomputable def LV(K:PySem.W.Frag):R2:=fun x y H Q=>∃a b xs ys,x = .ref a/\y = .ref b/\SqT K H a xs/\SqT K H b ys/\xs≠[]/\xs.length+ys.length<=sizeLine /\
 (ys=[]->Q (.ref a) H)/\(ys≠[]->∀p,H p=none->Q (.ref p) (upd H p (.tup (xs++ys))))
theorem Vals.sL{xs:List V}{us:List Value}(r:Vals xs us):us=[]↔xs=[]:=by
 cases r with
 |nil=>simp
 |cons _ _=>simp
theorem G0:OpR X (binaryOp .Add) (LV X.K):=by
 intro pins s Y H x y v u Q I rx ry h
 obtain⟨a,b,xs,ys,rfl,rfl,ha,hb,hx,hz,q1,q2⟩:=h
 cases rx
 cases ry
 obtain⟨its,r1,p1,_⟩:=I.tuple ha
 obtain⟨its2,r2,p2,_⟩:=I.tuple hb
 refine HT.HH p1 p2 (fun z=>hx (r1.sL.mp z)) (fun z=>⟨.ref a,H,I,rfl,q1 (r2.sL.mp z)⟩) (fun z=>?_) (by rw[<- r1.length,<- r2.length];exact hz)
 refine⟨.ref s.heap.objs.size,_,I.laid (t':=s.toks) (o:=.tup (xs++ys)) (fun b ob q=>Heap.get?_push_of_some _ q) (le_refl _) ?_,rfl,q2 (fun w=>z (r2.sL.mpr w)) _ (I.hok.fresh (le_refl _))⟩
 exact⟨by rw[length_append];exact hz,_,r1.append r2,IsTup.new _ _⟩
end
end L2
namespace L2
open PySem PySem.Spec PyProof.Rows
def ixN(n:Nat)(i:Int):Option Nat:=if 0<=i then (if i<n then some i.toNat else none) else if -(n:Int)<=i then some (i+n).toNat else none
def atI{α:Type}(xs:List α)(i:Int):Option α:=(ixN xs.length i).bind fun j=>xs[j]?
theorem Cj{n:Nat}{i:Int}{j:Nat}(h:ixN n i=some j):seqIndex? i n=some j/\j<n/\-(n:Int)<=i/\i<n:=by
 unfold ixN at h
 by_cases h0:0<=i
 ·rw[if_pos h0] at h
  by_cases h1:i<n
  ·rw[if_pos h1] at h
   have e:i.toNat=j:=Option.some.inj h
   exact⟨by rw[seqIndex_of h0 h1,e],∅,∅,h1⟩
  ·rw[if_neg h1] at h;cases h
 ·rw[if_neg h0] at h
  by_cases h1:-(n:Int)<=i
  ·rw[if_pos h1] at h
   have e:(i+n).toNat=j:=Option.some.inj h
   exact⟨by rw[seqIndex_neg ∅ h1,e],∅,h1,∅⟩
  ·rw[if_neg h1] at h;cases h
theorem x6{α:Type}{xs:List α}{i:Int}{v:α}(h:atI xs i=some v):∃j,seqIndex? i xs.length=some j/\xs[j]? = some v/\j<xs.length/\-(xs.length:Int)<=i/\i<xs.length:=by
 unfold atI at h
 cases e:ixN xs.length i with
 |none=>rw[e] at h;cases h
 |some j=>
  rw[e] at h
  obtain⟨h1,h2,h3,h4⟩:=Cj e
  exact⟨j,h1,h,h2,h3,h4⟩
theorem tq{α:Type}{xs:List α}{j:Nat}{v:α}(h:xs[j]? = some v):atI xs (j:Int)=some v:=by
 have hj:j<xs.length:=(List.getElem?_eq_some_iff.mp h).1
 have e:ixN xs.length (j:Int)=some j:=by
  unfold ixN
  rw[if_pos ∅,if_pos ∅];simp
 unfold atI;rw[e];exact h
noncomputable def yM(b:Expr):Prop:=∀o i,subscripted b false o i=operate [o,i] (getItem o i)
noncomputable def IxR(X:Cx)(r:R2):Prop:=
 ∀(value slice:Expr) (pins:List (Addr×Obj)) (s:Shared) (Y:St) (H:Hp) (x y:V) (v u:Value) (Q:VK),Inv X pins Y H s->RelV x v->RelV y u->r x y H Q ->
  subscripted slice false v u=operate [v,u] (getItem v u)->wpAny (model X.prog X.w) X.A (subscriptTail value slice v u) (EP X pins Y Q) X.xe s
noncomputable def MtR(X:Cx)(id:String)(r:V->List V->Hp->VK->Prop):Prop:=
 ∀(pins:List (Addr×Obj)) (s:Shared) (Y:St) (H:Hp) (x:V) (xs:List V) (v:Value) (us:List Value) (Q:VK),Inv X pins Y H s->RelV x v->Vals xs us->r x xs H Q ->
  wpAny (model X.prog X.w) X.A (call (.builtin id) (v::us)) (EP X pins Y Q) X.xe s
section
variable {X:Cx}{a b:Expr}{ta tb:TE}{pos:Pos}
theorem IxR.or{r r':R2}(h:IxR X r)(h':IxR X r'):IxR X (fun x y H Q=>r x y H Q\/r' x y H Q):=by
 intro value slice pins s Y H x y v u Q I rx ry q hs
 rcases q with q|q
 ·exact h value slice pins s Y H x y v u Q I rx ry q hs
 ·exact h' value slice pins s Y H x y v u Q I rx ry q hs
theorem IV{r:R2}(hr:IxR X r)(ha:PE X a ta)(hb:PE X b tb)(hs:yM b):PE X (.Subscript a b pos) (tOp r ta tb):=by
 intro pins s Y H Q I h
 exact Subscript_ (JR ha hb I h fun v u s2 x y H2 I2 rx ry q=>hr a b pins s2 Y H2 x y v u Q I2 rx ry q (hs _ _))
noncomputable def LQ(K:PySem.W.Frag):R2:=fun x y H Q=>∃p xs i v,x = .ref p/\y = .int i/\SqL K H p xs/\atI xs i=some v/\Q v H
noncomputable def Ly(K:PySem.W.Frag):R2:=fun x y H Q=>∃p xs i v,x = .ref p/\y = .int i/\SqT K H p xs/\atI xs i=some v/\Q v H
noncomputable def Ja:R2:=fun x y H Q=>∃z i c,x = .str z/\y = .int i/\z.length<=sizeLine/\atI z.cps.toList i=some c/\Q (.str ⟨#[c]⟩) H
theorem G8:IxR X (LQ X.K):=by
 intro value slice pins s Y H x y v u Q I rx ry h hs
 obtain⟨p,xs,i,z,rfl,rfl,hq,he,q⟩:=h
 cases rx
 obtain⟨t,rfl⟩:=ry
 obtain⟨its,r,pl,hz⟩:=I.list hq
 obtain⟨j,h1,h2,h3,h4,h5⟩:=x6 he
 obtain⟨w,ew,rw'⟩:=r.get h2
 have hl:=r.length
 have hn:=oo
 have fin:EP X pins Y Q w s:=⟨z,H,I,rw',q⟩
 by_cases h0:0<=i
 ·have hj:i.toNat=j:=by
   rw[seqIndex_of h0 h5] at h1
   exact Option.some.inj h1
  exact item_listR pl.isList h0 ∅ (by rw[hj];simpa using ew) fin hs
 ·have hj:(i+(its.toArray.size:Int)).toNat=j:=by
   rw[seqIndex_neg ∅ h4] at h1
   rw[size_toArray,<- hl]
   exact Option.some.inj h1
  exact subscriptTail_builtinR (x:=w) pl.isList.typeIs slot_list_getitem.lookup
   (wpAny_getItem_list_neg (Q:=fun r s'=>r=w/\EP X pins Y Q r s') pl.isList ∅ (by rw[size_toArray]<;>omega) ∅ (by rw[hj];simpa using ew) ⟨rfl,fin⟩) hs
theorem K7:IxR X (Ly X.K):=by
 intro value slice pins s Y H x y v u Q I rx ry h hs
 obtain⟨p,xs,i,z,rfl,rfl,hq,he,q⟩:=h
 cases rx
 obtain⟨t,rfl⟩:=ry
 obtain⟨its,r,pl,hz⟩:=I.tuple hq
 obtain⟨j,h1,h2,h3,h4,h5⟩:=x6 he
 obtain⟨w,ew,rw'⟩:=r.get h2
 have hl:=r.length
 have hn:=oo
 have fin:EP X pins Y Q w s:=⟨z,H,I,rw',q⟩
 exact subscriptTail_builtinR (x:=w) pl.typeIs slot_tuple_getitem.lookup
  (getItem_tuple (j:=j) (Q:=fun r s'=>r=w/\EP X pins Y Q r s') pl ∅ ∅ (by rw[size_toArray,<- hl];exact h1) (by simpa using ew) ⟨rfl,fin⟩) hs
theorem Fg:IxR X Ja:=by
 intro value slice pins s Y H x y v u Q I rx ry h hs
 obtain⟨z,i,c,rfl,rfl,hz,he,q⟩:=h
 obtain⟨t,rfl⟩:=rx
 obtain⟨t',rfl⟩:=ry
 obtain⟨j,h1,h2,h3,h4,h5⟩:=x6 he
 have hl:z.cps.toList.length=z.length:=by simp[Str.length]
 rw[hl] at h1 h4 h5
 have hn:=oo
 exact tail_any (typeIs_str s z t) slot_str_getitem.lookup (getItem_str (c:=c) (by
  have e1:decide (i < -(2 ^ 63:Int))=false:=decide_eq_false ∅
  have e2:decide (i ≥ 2 ^ 63)=false:=decide_eq_false ∅
  rw[e1,e2,Bool.or_false]) (by rw[h1];simpa using h2) ⟨.str ⟨#[c]⟩,H,I.tok _,⟨_,rfl⟩,q⟩) hs
noncomputable def rIx(K:PySem.W.Frag):R2:=fun x y H Q=>LQ K x y H Q\/Ly K x y H Q\/Ja x y H Q
theorem KC:IxR X (rIx X.K):=G8.or (K7.or Fg)
theorem Bl(its:List Value)(n j:Nat)(u:Value):Obj.mapSeq (·.setIfInBounds j u) {cls:=.type "list",data:=.seq its.toArray n} = {cls:=.type "list",data:=.seq (its.set j u).toArray n}:=by
 simp[Obj.mapSeq]
theorem Inv.lst{pins:List (Addr×Obj)}{Y:St}{H:Hp}{s:Shared}{p:Addr}{xs:List V}(I:Inv X pins Y H s)(h:H p=some (.lst xs)) :
  ∃(its:List Value) (n:Nat),Vals xs its/\s.heap.get? p=some {cls:=.type "list",data:=.seq its.toArray n}/\xs.length<=sizeLine:=by
 obtain⟨z,its,n,r,e⟩:=I.hok p _ h
 exact⟨its,n,r,e,z⟩
theorem Inv.K9{pins:List (Addr×Obj)}{Y:St}{H:Hp}{s:Shared}{p:Addr}{xs ys:List V}{its its':List Value}{n n':Nat}{f:Obj->Obj}(I:Inv X pins Y H s)(h:H p=some (.lst xs))
  (ho:s.heap.get? p=some {cls:=.type "list",data:=.seq its.toArray n}) (hf:f {cls:=.type "list",data:=.seq its.toArray n} = {cls:=.type "list",data:=.seq its'.toArray n'}) (r:Vals ys its') (hz:ys.length<=sizeLine) (t:Nat) :
  Inv X pins Y (upd H p (.lst ys)) {s with heap:=s.heap.update p f,toks:=t}:=by
 have e:(s.heap.update p f).get? p=some {cls:=.type "list",data:=.seq its'.toArray n'}:=by
  rw[Heap.get?_update_self f ho (by rw[hf]<;>rfl),hf]
 refine I.write (x:=p) (e:=p) (by rw[h];trivial) (.inl rfl) (fun b u hb q=>(Heap.get?_update_other _ _ (Ne.symm hb)).trans q) ⟨_,e⟩ ?_
 exact⟨hz,its',n',r,e⟩
def LM:V->V->V->Hp->(Hp->Prop)->Prop:=fun o i v H Q=>∃p xs k j,o = .ref p/\i = .int k/\H p=some (.lst xs)/\ixN xs.length k=some j/\Q (upd H p (.lst (xs.set j v)))
theorem set_list:LN X LM:=by
 intro pins s Y H o i v ov iv u Q I ro ri rv h
 obtain⟨p,xs,k,j,rfl,rfl,hp,hj,q⟩:=h
 cases ro
 obtain⟨t,rfl⟩:=ri
 obtain⟨its,n,r,ho,hz⟩:=I.lst hp
 obtain⟨h1,h2,h3,h4⟩:=Cj hj
 have hl:=r.length
 have hn:=oo
 have I':Inv X pins Y (upd H p (.lst (xs.set j v))) {s with heap:=s.heap.update p (Obj.mapSeq (·.setIfInBounds j u))}:=
  I.K9 hp ho (Bl its n j u) (r.set rv j) (by rw[List.length_set];exact hz) s.toks
 by_cases h0:0<=k
 ·have hk:k.toNat=j:=by
   rw[seqIndex_of h0 h4] at h1
   exact Option.some.inj h1
  exact PySem.W.ki_setAt ho h0 ∅ (by rw[size_toArray,<- hl];exact h4) (by rw[hk];exact⟨_,I',q⟩)
 ·have hk:(k+(its.toArray.size:Int)).toNat=j:=by
   rw[seqIndex_neg ∅ h3] at h1
   rw[size_toArray,<- hl]
   exact Option.some.inj h1
  exact PySem.W.ki_setBack ho ∅ (by rw[size_toArray,<- hl];exact h3) ∅ (by rw[hk];exact⟨_,I',q⟩)
theorem xC(lo hi:Option Int)(n:Nat):(sliceBounds lo hi none n).1=((HT.sIx n 0 lo:Nat):Int)/\(sliceBounds lo hi none n).2.1=((HT.sIx n n hi:Nat):Int)/\(sliceBounds lo hi none n).2.2=1:=by
 refine⟨?_,?_,rfl⟩
 ·cases lo with
  |none=>simp[sliceBounds,HT.sIx]
  |some i=>
   simp only[sliceBounds,HT.sIx,Option.getD_none,show (1:Int)>0 by decide,if_true]
   by_cases h:i<0
   ·simp only[h,if_true]<;>omega
   ·simp only[h,if_false]<;>omega
 ·cases hi with
  |none=>simp[sliceBounds,HT.sIx]
  |some i=>
   simp only[sliceBounds,HT.sIx,Option.getD_none,show (1:Int)>0 by decide,if_true]
   by_cases h:i<0
   ·simp only[h,if_true]<;>omega
   ·simp only[h,if_false]<;>omega
theorem vA(its:List Value)(lo hi:Option Int):slicePick its.toArray lo hi none=((its.drop (HT.sIx its.length 0 lo)).take (HT.sIx its.length its.length hi-HT.sIx its.length 0 lo)).toArray:=by
 obtain⟨h1,h2,h3⟩:=xC lo hi its.toArray.size
 unfold slicePick
 rw[h1,h2,h3]
 simp only[sliceRange_one,pick_run,size_toArray]<;>rfl
def M7(K:PySem.W.Frag):V->Option Int->Option Int->Hp->VK->Prop:=fun x lo hi H Q=>∃a xs,x = .ref a/\SqL K H a xs/\∀p,H p=none->Q (.ref p) (upd H p (.lst (yu xs lo hi)))
theorem HD:SlR X (M7 X.K):=by
 intro pins s Y H x v vl vu lo hi sl Q I rx hs pl pu h
 obtain⟨a,xs,rfl,hx,q⟩:=h
 cases rx
 obtain⟨its,r,ht,hz⟩:=I.list hx
 have hlen:=r.length
 refine⟨"list",_,slot_list_getitem.lookup,ht.isList.typeIs,?_⟩
 refine wpAny_getItem_list_slice ht.isList hs pl pu .none (by simp) ?_ (by rw[size_toArray]<;>omega)
 rw[vA,<- hlen]
 refine⟨.ref s.heap.objs.size,_,I.laid (t':=s.toks) (o:=.lst (yu xs lo hi)) (fun b ob q=>Heap.get?_push_of_some _ q) (le_refl _) ?_,rfl,q _ (I.hok.fresh (le_refl _))⟩
 exact⟨le_trans (rS xs lo hi) hz,_,0,(r.drop (HT.sIx xs.length 0 lo)).take (HT.sIx xs.length xs.length hi-HT.sIx xs.length 0 lo),Heap.get?_push_size _ rfl⟩
theorem xN:fU X (.builtin "len") (fun xs H Q=>∃p ys,xs=[.ref p]/\(SqL X.K H p ys\/SqT X.K H p ys)/\Q (.int ys.length) H):=by
 intro pins s Y H xs us Q I r h
 obtain⟨p,ys,rfl,hq,q⟩:=h
 obtain⟨u,rfl,rx⟩:=vals1 r
 cases rx
 have hn:=oo
 rcases hq with hq|hq
 ·obtain⟨its,r',pl,hz⟩:=I.list hq
  have hlen:=r'.length
  exact Calls.call_len_list pl.isList (by simp only[size_toArray]<;>omega) ⟨.int ys.length,H,I.tok _,⟨s.toks+1,by rw[size_toArray,hlen]⟩,q⟩
 ·obtain⟨its,r',pl,hz⟩:=I.tuple hq
  have hlen:=r'.length
  exact len_tuple pl (by simp only[size_toArray]<;>omega) ⟨.int ys.length,H,I.tok _,⟨s.toks+1,by rw[size_toArray,hlen]⟩,q⟩
theorem yU:fU X (.builtin "len") (fun xs H Q=>∃z,xs=[.str z]/\z.length<=sizeLine/\Q (.int z.length) H):=by
 intro pins s Y H xs us Q I r h
 obtain⟨z,rfl,hz,q⟩:=h
 obtain⟨u,rfl,t,rfl⟩:=vals1 r
 have hn:=oo
 exact len_str ∅ ⟨.int z.length,H,I.tok _,⟨_,rfl⟩,q⟩
theorem yN:fU X (.type "list") (fun xs H Q=>∃p ys,xs=[.ref p]/\(SqL X.K H p ys\/SqT X.K H p ys)/\∀l,H l=none->Q (.ref l) (upd H l (.lst ys))):=by
 intro pins s Y H xs us Q I r h
 obtain⟨p,ys,rfl,hq,q⟩:=h
 obtain⟨u,rfl,rx⟩:=vals1 r
 cases rx
 have fin:∀(its:List Value),Vals ys its->ys.length<=sizeLine->∀(h':Heap) (c':Nat),(∀b o',s.heap.get? b=some o'->h'.get? b=some o') ->
   h'.get? s.heap.objs.size=some {cls:=.type "list",dict:=none,data:=.seq its.toArray c',slots:=#[]}->EP X pins Y Q (.ref s.heap.objs.size) {s with heap:=h'}:=fun its r' hz h' c' kp e=>
  ⟨.ref s.heap.objs.size,_,I.laid (t':=s.toks) kp (le_refl _) (show jw X.prog X.w _ h' _ (.lst ys) from ⟨hz,its,c',r',e⟩),rfl,q _ (I.hok.fresh (le_refl _))⟩
 rcases hq with hq|hq
 ·obtain⟨its,r',pl,hz⟩:=I.list hq
  have hlen:=r'.length
  obtain⟨o,ho,hc,n,hd⟩:=pl.isList
  exact call_list_seq p (.inl rfl) ho hc hd (fun h' c' kp e=>fin its r' hz h' c' kp e) (by simp only[size_toArray]<;>omega)
 ·obtain⟨its,r',pl,hz⟩:=I.tuple hq
  have hlen:=r'.length
  obtain⟨o,ho,hc,n,hd⟩:=pl
  exact call_list_seq p (.inr rfl) ho hc hd (fun h' c' kp e=>fin its r' hz h' c' kp e) (by simp only[size_toArray]<;>omega)
theorem vR:fU X (.type "tuple") (fun xs H Q=>∃p ys,xs=[.ref p]/\((SqL X.K H p ys/\∀l,H l=none->Q (.ref l) (upd H l (.tup ys)))\/(SqT X.K H p ys/\Q (.ref p) H))):=by
 intro pins s Y H xs us Q I r h
 obtain⟨p,ys,rfl,h⟩:=h
 obtain⟨u,rfl,rx⟩:=vals1 r
 cases rx
 rcases h with ⟨hq,q⟩|⟨hq,q⟩
 ·obtain⟨its,r',pl,hz⟩:=I.list hq
  have hlen:=r'.length
  refine call_tuple_list pl.isList (fun h' kp=>?_) (by simp only[size_toArray]<;>omega)
  have I1:Inv X pins Y H {s with heap:=h'}:=I.kept (t':=s.toks) kp
  have I2:Inv X pins Y (upd H h'.objs.size (.tup ys)) {s with heap:=h'.push {cls:=.type "tuple",data:=.seq its.toArray}}:=
   I1.laid (t':=s.toks) (fun b o e=>Heap.get?_push_of_some _ e) (le_refl _) (show jw X.prog X.w _ _ _ (.tup ys) from ⟨hz,its,r',IsTup.new _ _⟩)
  exact⟨.ref h'.objs.size,_,I2,rfl,q _ (I1.hok.fresh (le_refl _))⟩
 ·obtain⟨its,r',pl,hz⟩:=I.tuple hq
  exact call_tuple_same pl ⟨.ref p,H,I,rfl,q⟩
noncomputable def tyV(K:PySem.W.Frag)(T:String)(x:V)(H:Hp):Prop:=match x with
 |.str _=>T = "str"
 |.int _=>T = "int"
 |.ref p=>(T = "list"/\∃xs,SqL K H p xs)\/(T = "tuple"/\∃o,K.lookup p=some o/\o.cls = .type "tuple"/\o.dict=none) \/
   (T = "dict"/\((∃kvs,H p=some (.dK kvs))\/∃kvs,H p=some (.dT kvs)))\/(T = "set"/\∃S n,H p=some (.set S n))
 |_=>False
theorem EM{pins:List (Addr×Obj)}{Y:St}{H:Hp}{s:Shared}{T:String}{x:V}{v:Value}(I:Inv X pins Y H s)(r:RelV x v)(ty:tyV X.K T x H) :
  s.TypeIs v T/\∀a,v = .ref a->∃ob,s.heap.get? a=some ob/\ob.dict=none:=by
 cases x with
 |str z=>
  obtain⟨t,rfl⟩:=r
  cases (show T = "str" from ty)
  exact⟨typeIs_str s z t,fun _ e=>nomatch e⟩
 |int i=>
  obtain⟨t,rfl⟩:=r
  cases (show T = "int" from ty)
  exact⟨typeIs_int s i t,fun _ e=>nomatch e⟩
 |ref p=>
  cases r
  rcases ty with ⟨rfl,xs,hq⟩|⟨rfl,o,hk,hc,hd⟩|⟨rfl,hk⟩|⟨rfl,S,n,hk⟩
  ·obtain⟨its,_,pl,_⟩:=I.list hq
   refine⟨pl.isList.typeIs,fun a e=>?_⟩
   cases e
   obtain⟨o,n,e,c,hd,_⟩:=pl
   exact⟨o,e,hd⟩
  ·refine⟨⟨o,I.kIn p o hk,hc⟩,fun a e=>?_⟩
   cases e
   exact⟨o,I.kIn _ o hk,hd⟩
  ·have z:∃o,s.heap.get? p=some o/\o.ExactDict:=by
    rcases hk with ⟨kvs,hk⟩|⟨kvs,hk⟩
    ·obtain⟨_,_,_,_,o,_,_,e,ex,_⟩:=I.hok p _ hk
     exact⟨o,e,ex⟩
    ·obtain⟨_,_,_,_,o,_,_,e,ex,_⟩:=I.hok p _ hk
     exact⟨o,e,ex⟩
   obtain⟨o,e,ex⟩:=z
   refine⟨⟨o,e,ex.1⟩,fun a e2=>?_⟩
   cases e2
   exact⟨o,e,ex.2.1⟩
  ·obtain⟨o,_,_,_,e,ex,_⟩:=I.hok p _ hk
   refine⟨⟨o,e,ex.1⟩,fun a e2=>?_⟩
   cases e2
   exact⟨o,e,ex.2.1⟩
 |_=>exact False.elim ty
noncomputable def M0(K:PySem.W.Frag)(T:String)(r:V->List V->Hp->VK->Prop)(to:TE):TE:=fun Y H Q=>to Y H fun x H1=>tyV K T x H1/\r x [] H1 Q
noncomputable def tBM(K:PySem.W.Frag)(T:String)(r:V->List V->Hp->VK->Prop)(to:TE)(t:TA):TE:=fun Y H Q=>to Y H fun x H1=>tyV K T x H1/\t Y H1 fun xs H2=>r x xs H2 Q
variable {o e:Expr}{es:List Expr}{to:TE}{t:TA}{name:Str}{apos cpos:Pos}{T id:String}{r:V->List V->Hp->VK->Prop}
theorem FU(pa:PlainAttrs T)(slot:Slot T name id)(hty:typeOf (.builtin id)=pure (.type "method_descriptor"))(hm:MtR X id r)(ho:PE X o to)
  (hbase:attributeBase o name X.env (eval o X.env)=eval o X.env:=by rfl) (hline:(apos.endLine==cpos.line)=true:=by rfl):PE X (.Call (.Attribute o name apos) [] [] cpos) (M0 X.K T r to):=by
 intro pins s Y H Q I h
 refine wpAny_Call_method0_late hbase hline (thn (ho pins s Y H _ I h) fun v s1 ⟨x,H1,I1,r1,ty,q1⟩=>?_)
 obtain⟨h1,h2⟩:=EM I1 r1 ty
 exact⟨T,id,pa,slot,hty,h1,h2,Calls.callWith_builtin rfl (PySem.evalArgs_none (hm pins s1 Y H1 x [] v [] Q I1 r1 .nil q1))⟩
theorem Aj(pa:PlainAttrs T)(slot:Slot T name id)(hty:typeOf (.builtin id)=pure (.type "method_descriptor"))(hm:MtR X id r)(ho:PE X o to)(ha:PA X (e::es) t)
  (hbase:attributeBase o name X.env (eval o X.env)=eval o X.env:=by rfl)
  (hfew:((backTo cpos (starEach (e::es) X.env)).all (fun x=>!x.1)&&(backToKw cpos (keywordEach [] X.env)).all (fun x=>x.1.isSome)
   && decide ((e::es).length+([]:List Keyword).length+(if ([]:List Keyword).isEmpty then 0 else 1)<30))=true:=by rfl)
  (hline:(apos.endLine==cpos.line)=true:=by rfl) (hs:starEach (e::es) X.env=(false,eval e X.env)::starEach es X.env:=by rfl) (hplain:(backTo cpos (starEach es X.env)).any (·.1)=false:=by rfl) :
  PE X (.Call (.Attribute o name apos) (e::es) [] cpos) (tBM X.K T r to t):=by
 intro pins s Y H Q I h
 refine wpAny_Call_method_late hbase hfew hline rfl (thn (ho pins s Y H _ I h) fun v s1 ⟨x,H1,I1,r1,ty,q1⟩=>?_)
 obtain⟨h1,h2⟩:=EM I1 r1 ty
 refine⟨T,id,pa,slot,hty,h1,h2,?_⟩
 have hA:=ha cpos pins s1 Y H1 _ I1 q1
 rw[hs] at hA ⊢
 refine Calls.callWith_builtin (by show (false || (backTo cpos (starEach es X.env)).any (·.1))=false;rw[hplain]<;>rfl) (Calls.evalArgs_plain ?_)
 exact thn hA fun us s2 ⟨vs,H2,I2,r2,q2⟩=>hm pins s2 Y H2 x vs v us Q I2 r1 r2 q2
end
end L2
namespace L2
open PySem PySem.Spec PyProof.Rows
noncomputable def MtM(X:Cx)(id:String)(r:V->List V->Hp->VK->Prop):Prop:=
 ∀(pins:List (Addr×Obj)) (s:Shared) (Y:St) (H:Hp) (x:V) (xs:List V) (v:Value) (us:List Value) (Q:VK),Inv X pins Y H s->RelV x v->Vals xs us->r x xs H Q ->
  wpAny (model X.prog X.w) X.A (call (.builtin id) (v::us)) (EP X pins Y Q) X.xe s
theorem Vals.one:∀{x:V} {us:List Value},Vals [x] us->∃u,us=[u]/\RelV x u
 |_,_,.cons r .nil=>⟨_,rfl,r⟩
theorem Vals.zero:∀{us:List Value},Vals [] us->us=[]
 |_,.nil=>rfl
theorem Vals.dropLast{xs:List V}{us:List Value}(h:Vals xs us):Vals xs.dropLast us.dropLast:=by
 induction h with
 |nil=>exact .nil
 |cons r t ih=>
  cases t with
  |nil=>exact .nil
  |cons q t'=>exact .cons r ih
theorem Vals.eraseIdx:∀{xs:List V} {us:List Value} (i:Nat),Vals xs us->Vals (xs.eraseIdx i) (us.eraseIdx i)
 |_,_,_,.nil=>.nil
 |_,_,0,.cons _ t=>t
 |_,_,i+1,.cons r t=>.cons r (Vals.eraseIdx i t)
theorem Vals.reverse{xs:List V}{us:List Value}(h:Vals xs us):Vals xs.reverse us.reverse:=by
 induction h with
 |nil=>exact .nil
 |cons r t ih=>rw[List.reverse_cons,List.reverse_cons];exact Vals.append ih (.cons r .nil)
theorem Vals.rep{xs:List V}{us:List Value}(h:Vals xs us):∀k:Nat,Vals (List.replicate k xs).flatten (List.replicate k us).flatten
 |0=>.nil
 |k+1=>by
  rw[replicate_succ,replicate_succ,flatten_cons,flatten_cons]
  exact Vals.append h (Vals.rep h k)
theorem Bp{α:Type}(l:List α):l.eraseIdx (l.length-1)=l.dropLast:=by
 induction l with
 |nil=>rfl
 |cons a r ih=>
  cases r with
  |nil=>rfl
  |cons b r=>
   have e:(a::b::r).length-1=((b::r).length-1)+1:=by
    have h1:(a::b::r).length=r.length+2:=rfl
    have h2:(b::r).length=r.length+1:=rfl
    omega
   rw[e,List.eraseIdx_cons_succ,ih]
   all_goals rfl
theorem xh{α:Type}:∀(l:List α) (i:Nat),(l.eraseIdx i).length<=l.length
 |[],_=>le_refl _
 |_::_,0=>le_succ _
 |_::r,i+1=>Nat.succ_le_succ (xh r i)
theorem foldl_rep(its:List Value):∀(k:Nat) (acc:List Value),
  List.foldl (fun x1 x2=>x1++x2) acc.toArray (List.replicate k its.toArray)=(acc++(List.replicate k its).flatten).toArray
 |0,acc=>by simp
 |k+1,acc=>by
  have e:acc.toArray++its.toArray=(acc++its).toArray:=by simp
  have e2:(acc++its)++(List.replicate k its).flatten=acc++(List.replicate (k+1) its).flatten:=by
   rw[replicate_succ,flatten_cons,append_assoc]
  rw[<- e2,<- foldl_rep its k (acc++its),<- e,replicate_succ,foldl_cons]
section
variable {X:Cx}{pins:List (Addr×Obj)}{Y:St}{H:Hp}{s:Shared}{l b:Addr}{xs ys zs:List V}
theorem Inv.EA{its its':List Value}{n:Nat}{f:Array Value->Array Value}{t':Nat}(I:Inv X pins Y H s)(hH:H l=some (.lst xs))
  (e:s.heap.get? l=some {cls:=.type "list",data:=.seq its.toArray n}) (hf:f its.toArray=its'.toArray) (hv:Vals ys its') (hz:ys.length<=sizeLine) :
  Inv X pins Y (upd H l (.lst ys)) {s with heap:=s.heap.update l (Obj.mapSeq f),toks:=t'}:=by
 have q:=PySem.IsL.update e f
 rw[hf] at q
 refine I.write (x:=l) (e:=l) (by rw[hH];exact trivial) (.inl rfl) (fun b' u hb hu=>(Heap.get?_update_other s.heap (Obj.mapSeq f) (Ne.symm hb)).trans hu) ⟨_,q⟩ ?_
 exact⟨hz,its',_,hv,q⟩
theorem Inv.NA{its:List Value}{t':Nat}(I:Inv X pins Y H s)(hv:Vals ys its)(hz:ys.length<=sizeLine) :
  Inv X pins Y (upd H s.heap.objs.size (.lst ys)) {s with heap:=s.heap.push {cls:=.type "list",data:=.seq its.toArray},toks:=t'}:=
 I.laid (fun _ _ q=>Heap.get?_push_of_some _ q) (le_refl _) ⟨hz,its,0,hv,Heap.get?_push_size _ rfl⟩
theorem Inv.fresh(I:Inv X pins Y H s):H s.heap.objs.size=none:=I.hok.fresh (le_refl _)
theorem Inv.xU(I:Inv X pins Y H s)(hH:H l=some (.lst xs)):xs.length<=sizeLine/\∃(its:List Value) (n:Nat),Vals xs its/\xs.length=its.length/\s.heap.get? l=some {cls:=.type "list",data:=.seq its.toArray n}:=by
 obtain⟨z,its,n,r,e⟩:=I.hok l _ hH
 exact⟨z,its,n,r,r.length,e⟩
theorem E7{n:Nat}(h:n<=sizeLine):Builtin.List.listTooLong n=false:=by
 unfold Builtin.List.listTooLong
 exact decide_eq_false ∅
end
section
variable {X:Cx}
def Hi:V->List V->Hp->VK->Prop:=fun x vs H Q=>∃l xs y,x = .ref l/\vs=[y]/\H l=some (.lst xs)/\xs.length<sizeLine/\Q .non (upd H l (.lst (xs++[y])))
theorem nF:MtM X "list.append" Hi:=by
 intro pins s Y H x vs v us Q I rx rv h
 obtain⟨l,xs,y,rfl,rfl,hH,hz,q⟩:=h
 cases rx
 obtain⟨u,rfl,ru⟩:=rv.one
 obtain⟨z,its,n,r,hl,e⟩:=I.xU hH
 refine call_meets F.slot_list_append ⟨_,e,rfl⟩ F.entry_list_append (F.args_list_append_2 _ _) (PySem.list_append l its.toArray n u (by rw[size_toArray];omega)) ⟨e,?_⟩
 refine⟨.non,_,I.EA (its':=its++[u]) hH e (by simp) (r.append (.cons ru .nil)) ?_,rfl,q⟩
 rw[length_append,length_singleton]
 omega
def G1:V->List V->Hp->VK->Prop:=fun x vs H Q=>∃l b xs zs,x = .ref l/\vs=[.ref b]/\H l=some (.lst xs)/\H b=some (.lst zs)/\xs.length+zs.length<=sizeLine/\Q .non (upd H l (.lst (xs++zs)))
theorem Lr:MtM X "list.extend" G1:=by
 intro pins s Y H x vs v us Q I rx rv h
 obtain⟨l,b,xs,zs,rfl,rfl,hH,hB,hz,q⟩:=h
 cases rx
 obtain⟨u,rfl,ru⟩:=rv.one
 cases ru
 obtain⟨z,its,n,r,hl,e⟩:=I.xU hH
 obtain⟨z2,its2,n2,r2,hl2,e2⟩:=I.xU hB
 have hsz:its.toArray.size+its2.toArray.size<=sizeLine:=by rw[size_toArray,size_toArray];omega
 have hlong:¬ (!its.toArray.isEmpty&&Builtin.List.listTooLong (its.toArray.size+its2.toArray.size))=true:=by
  rw[E7 hsz,Bool.and_false]
  exact Bool.false_ne_true
 refine call_meets F.slot_list_extend ⟨_,e,rfl⟩ F.entry_list_extend (F.args_list_extend_2 _ _)
  (AutoSeq1.list_extend_list_list_0 l its.toArray n b its2.toArray n2 hlong (by rw[size_toArray];omega) ∅) ⟨e,e2,?_⟩
 refine⟨.non,_,I.EA (its':=its++its2) hH e (by simp) (r.append r2) ?_,rfl,q⟩
 rw[length_append]
 omega
def MV:V->List V->Hp->VK->Prop:=fun x vs H Q=>∃l xs y,x = .ref l/\vs=[]/\H l=some (.lst xs)/\xs[xs.length-1]? = some y/\Q y (upd H l (.lst xs.dropLast))
theorem Ke:MtM X "list.pop" MV:=by
 intro pins s Y H x vs v us Q I rx rv h
 obtain⟨l,xs,y,rfl,rfl,hH,hy,q⟩:=h
 cases rx
 have hus:=rv.zero
 subst hus
 obtain⟨z,its,n,r,hl,e⟩:=I.xU hH
 obtain⟨u,hu,ru⟩:=r.get hy
 have hy':its.toArray[its.toArray.size-1]? = some u:=by
  show its.toArray[its.length-1]? = some u
  rw[<- Array.getElem?_toList,<- hl]
  exact hu
 refine call_meets F.slot_list_pop ⟨_,e,rfl⟩ F.entry_list_pop (F.args_list_pop_1 _) (MeetsSeq.list_pop_last l its.toArray n u hy' (by rw[size_toArray];omega)) ⟨e,?_⟩
 refine⟨y,_,I.EA (its':=its.dropLast) hH e ?_ r.dropLast ?_,ru,q⟩
 ·show its.toArray.eraseIdxIfInBounds (its.toArray.size-1)=its.dropLast.toArray
  rw[size_toArray,List.eraseIdxIfInBounds_toArray,Bp]
 ·rw[List.length_dropLast]
  omega
def Jx:V->List V->Hp->VK->Prop:=fun x vs H Q=>∃l xs i k y,x = .ref l/\vs=[.int i]/\H l=some (.lst xs)/\-(2 ^ 63)<=i/\i<2 ^ 63/\seqIndex? i xs.length=some k/\xs[k]? = some y/\Q y (upd H l (.lst (xs.eraseIdx k)))
theorem En:MtM X "list.pop" Jx:=by
 intro pins s Y H x vs v us Q I rx rv h
 obtain⟨l,xs,i,k,y,rfl,rfl,hH,h1,h2,hk,hy,q⟩:=h
 cases rx
 obtain⟨u,rfl,ru⟩:=rv.one
 obtain⟨t,rfl⟩:=ru
 obtain⟨z,its,n,r,hl,e⟩:=I.xU hH
 obtain⟨w,hw,rw'⟩:=r.get hy
 refine call_meets F.slot_list_pop ⟨_,e,rfl⟩ F.entry_list_pop (F.args_list_pop_2 _ _)
  (MeetsSeq.list_pop_at l its.toArray n i t k w (fitsIndex_both h1 h2) (by rw[size_toArray,<- hl];exact hk) (by rw[<- Array.getElem?_toList];exact hw) (by rw[size_toArray];omega)) ⟨e,?_⟩
 refine⟨y,_,I.EA (its':=its.eraseIdx k) hH e ?_ (r.eraseIdx k) ?_,rw',q⟩
 ·show its.toArray.eraseIdxIfInBounds k=(its.eraseIdx k).toArray
  rw[List.eraseIdxIfInBounds_toArray]
 ·have:=xh xs k
  omega
def GC:V->List V->Hp->VK->Prop:=fun x vs H Q=>∃l xs,x = .ref l/\vs=[]/\H l=some (.lst xs)/\Q .non (upd H l (.lst xs.reverse))
theorem Bf:MtM X "list.reverse" GC:=by
 intro pins s Y H x vs v us Q I rx rv h
 obtain⟨l,xs,rfl,rfl,hH,q⟩:=h
 cases rx
 have hus:=rv.zero
 subst hus
 obtain⟨z,its,n,r,hl,e⟩:=I.xU hH
 refine call_meets F.slot_list_reverse ⟨_,e,rfl⟩ F.entry_list_reverse (F.args_list_reverse_1 _) (AutoSeq1.list_reverse_list_0 l its.toArray n (by rw[size_toArray];omega)) ⟨e,?_⟩
 refine⟨.non,_,I.EA (its':=its.reverse) hH e (by simp) r.reverse ?_,rfl,q⟩
 rw[List.length_reverse]
 omega
noncomputable def KG:R2:=fun x y H Q=>∃l b xs zs,x = .ref l/\y = .ref b/\H l=some (.lst xs)/\H b=some (.lst zs)/\xs.length+zs.length<=sizeLine/\∀p,H p=none->Q (.ref p) (upd H p (.lst (xs++zs)))
theorem Kf:OpR X (binaryOp .Add) KG:=by
 intro pins s Y H x y v u Q I rx ry h
 obtain⟨l,b,xs,zs,rfl,rfl,hH,hB,hz,q⟩:=h
 cases rx
 cases ry
 obtain⟨z,its,n,r,hl,e⟩:=I.xU hH
 obtain⟨z2,its2,n2,r2,hl2,e2⟩:=I.xU hB
 refine PySem.P.add_list e e2 ?_ (by rw[size_toArray,size_toArray];omega)
 have ea:its.toArray++its2.toArray=(its++its2).toArray:=by simp
 rw[ea]
 exact⟨.ref _,_,I.NA (t':=s.toks) (r.append r2) (by rw[length_append];omega),rfl,q _ I.fresh⟩
theorem len_rep{α:Type}(xs:List α)(k:Nat):(List.replicate k xs).flatten.length=k*xs.length:=by
 induction k with
 |zero=>simp
 |succ k ih=>rw[replicate_succ,flatten_cons,length_append,ih,Nat.succ_mul,Nat.add_comm]
end
end L2
namespace Att
open PySem PySem.W PySem.Calls PyProof.Rows
theorem su{P:Params}{h:Heap}:∀(ns:List Int) (vs:List Value),WellAll P h vs (ns.map WData.int)->IntsAre vs ns:=by
 intro ns
 induction ns with
 |nil=>
  intro vs w
  rw[map_nil] at w
  cases w
  exact .nil
 |cons n ns ih=>
  intro vs w
  rw[map_cons] at w
  cases w with
  |cons a b=>
   cases a
   exact .cons _ _ (ih _ b)
theorem Dx{l:OpenLaw}{n:Nat}(hn:l.most=some n){P:Params}{h:Heap}{args:List WData}{vals:List Value}
  (hpre:l.row.toRowW.claim.pre args=true) (hwl:WellAll P h vals args) :
  ∃a vs ns,vals=[Value.ref a]/\args=[WData.list (ns.map WData.int)]/\h.get? a=some {cls:=.type "list",data:=.seq vs.toArray}/\IntsAre vs ns/\ns.length<=n:=by
 have hsh:WShape.hasAll [] args [.list .int]=true:=(pre_splitW hpre).1
 have hc:l.pre.holds [] {args:=args} = true:=(pre_splitW hpre).2
 obtain⟨d,r,rfl,h1,h2⟩:=hasAllW_cons hsh
 obtain rfl:=hasAllW_nil h2
 obtain⟨xs,rfl,h3⟩:=hasW_list h1
 obtain⟨ns,rfl⟩:=items_int h3
 have hlen:ns.length<=n:=by
  unfold OpenLaw.pre at hc
  have h4:(WTm.not (.lt (.lit (.int (n:Int))) (.len (.arg 0)))).holds [] {args:=[.list (ns.map .int)]} = true:=by
   have h4:=(holds_andW hc).1
   rw[hn] at h4
   exact h4
  have h5:=condW_of h4 (w_not (w_lt w_lit (w_len_list (w_arg rfl))))
  rw[length_map] at h5
  refine Nat.le_of_not_lt fun q=>?_
  have q':(n:Int)<((ns.length:Nat):Int):=by omega
  first
   |(rw[decide_eq_true q'] at h5;exact absurd h5 ⋯)
   |(simp at h5;omega)
 cases hwl with
 |cons w1 w2=>
  cases w2
  cases w1 with
  |list ho hall=>exact⟨_,_,ns,rfl,rfl,ho,su ns _ hall,hlen⟩
theorem DB(l:OpenLaw)(args:List WData):l.row.toRowW.claim.post args (.bool true) args=true:=
 postW_of (r:=l.row.toRowW) (X:=(true==true))
  (show WShape.has [] (.bool true) .bool=true by first|rfl|decide|simp[WShape.has,WShape.arms,WShape.armsAll])
  (show (WTm.eq .res (.lit (.bool true))).value [] {args:=args,res:=some (.bool true),after:=args} = some (.bool (true==true)) from w_eq_bool (w_res rfl) w_lit) rfl
theorem zr{l:OpenLaw}{n:Nat}{q:Program}{loose:List Str}{XP:(Str->Option Value)->Heap->Prop}{YP:World->Heap->Prop}{d:DefRec}
  (hn:l.most=some n) (hdf:d.params.defaults=[])
  (call:∀(w:World) (dl bi:Shared) (mg mb:Str->Option Value) (fa:Addr) (o:Obj) (pm cd doc:Value) (a:Addr) (vs:List Value) (ns:List Int),
   Ground q loose [] XP w dl mg mb bi.heap->YP w bi.heap ->
   bi.heap.get? fa=some o->o.data = .func (docDef d.name d.params d.body d.scope pm cd doc)->bi.heap.CodeRec cd d.name->mg d.name=some (.ref fa) ->
   bi.heap.get? a=some {cls:=.type "list",data:=.seq vs.toArray}->IntsAre vs ns->ns.length<=n->bi.gens = #[] ->
   codeAny (model l.prog w) callerA (.call (.ref fa) ⟨[.ref a],[]⟩) (fun r s'=>r = .ok (.ret (.bool true))/\OldK bi.heap s'.heap/\s'.os=bi.os/\AllBare s'.gens) bi) :
  WalkO q loose XP YP l.row.toRowW d [] (fun f vs=>PySem.call f vs):=by
 intro w dl bi mg mb G ZZ fa o pm cd doc dV kV ho hd hcd hD hmg hg args vals as hpre hlay hrd hwl hlo
 obtain rfl:dV = .none:=Dflts.none hD hdf
 obtain rfl:kV = .none:=Dflts.noKw hD
 obtain⟨a,vs,ns,rfl,rfl,hobj,hints,hlen⟩:=Dx hn hpre hwl
 refine enter_call (codeAny_mono (call w dl bi mg mb fa o pm cd doc a vs ns G ZZ ho (fd_plain hd) hcd hmg hobj hints hlen hg) fun r s' hq=>?_)
 obtain⟨rfl,h2,h3,h4⟩:=hq
 exact⟨.inl ⟨.bool true,.bool true,[],rfl,fun _=>rfl,.bool true,DB l _,fun _=>⟨List.Pairwise.nil,fun _ hm=>(nomatch hm)⟩⟩,h2,h3,h4⟩
end Att
namespace L2
open PySem PySem.Spec PyProof.Rows
theorem xf:∀{vs:List Value} {ns:List Int},IntsAre vs ns->Vals (ns.map V.int) vs
 |_,_,.nil=>.nil
 |_,_,.cons n t h=>.cons ⟨t,rfl⟩ (xf h)
end L2
namespace L2
open PySem PySem.Spec PyProof.Rows
end L2
namespace L2
open PySem PySem.Spec PyProof.Rows
noncomputable abbrev CX0:CXT:=fun _ _ _ _ _ _=>False
noncomputable abbrev E0:XK:=fun _ _ _=>False
theorem Mj{X:Cx}:Passes CX0 X E0:=fun _ _ _ _ _ _ _ h=>h.elim
structure Fun(K:PySem.W.Frag)(x qual:Str)(st:Stmt)(f:Addr)(fd:FuncData):Prop where
 ex:∃(oc:Value) (od:Option Addr) (kV doc pm:Value) (an:Option Addr) (cdv ct:Value) (osl:Array (Option Value)),
  fd=fnOf x qual (kd st) (dk st) (az st) .none kV doc pm an cdv ct/\K.lookup f=some ⟨oc,od,.func fd,osl⟩/\codeIn K cdv qual=true
 kp:keepIn K (.ref f)=true
section
variable {P:Program}{w:World}{K:PySem.W.Frag}{mg:Str->Option Value}{base:Heap}
theorem Fun.ok{x qual:Str}{st:Stmt}{f:Addr}{fd:FuncData}{N ps:List Str}{k:Nat}{sp:Sp}(F:Fun K x qual st f fd)(S:aZ N ps (az st))(len:∀vs H Q E,sp vs H Q E->vs.length=ps.length)
  (hbody:∀(cdv:Value) (A:Around) (outer:List Env) (s:Shared) (H:Hp) (vs:List V) (Q:VK) (E:XK),fi k (A.deeper (envOfC qual (az st) s.heap.objs.size f cdv))->sp vs H Q E ->
   ∃t,PSs (jJ CX0 P w K mg base N qual (az st) f cdv A outer s H E).nox (dk st) t/\t {nx:=fun _ H'=>Q .non H',rt:=Q} (start N vs) H):bw P w K mg base CX0 (k+1) f fd ps sp:=by
 obtain⟨oc,od,kV,doc,pm,an,cdv,ct,osl,rfl,lk,hcd⟩:=F.ex
 refine FG lk hcd S len fun A outer s H vs Q E hr hsp=>?_
 obtain⟨t,h,q⟩:=hbody cdv A outer s H vs Q E hr hsp
 exact⟨t,h.nox,q⟩
theorem Fun.binds{x qual:Str}{st:Stmt}{f:Addr}{fd:FuncData}{ps:List Str}(F:Fun K x qual st f fd)
  (h:∀(kV doc pm:Value) (an:Option Addr) (cdv ct:Value) (us:List Value),us.length=ps.length->bindArgs (fnOf x qual (kd st) (dk st) (az st) .none kV doc pm an cdv ct) ⟨us,[]⟩=pure (ps.zip us)):Binds K fd ps []:=by
 obtain⟨oc,od,kV,doc,pm,an,cdv,ct,osl,rfl,lk,hcd⟩:=F.ex
 exact .all (h kV doc pm an cdv ct)
theorem bM{x qual:Str}{st:Stmt}{f:Addr}{oc:Value}{od an:Option Addr}{osl:Array (Option Value)}{kV doc pm cdv ct:Value}(l:K.lookup f=some ⟨oc,od,.func (fnOf x qual (kd st) (dk st) (az st) .none kV doc pm an cdv ct),osl⟩)
  (c:codeIn K cdv qual=true) (k:keepIn K (.ref f)=true):Fun K x qual st f (fnOf x qual (kd st) (dk st) (az st) .none kV doc pm an cdv ct):=⟨⟨oc,od,kV,doc,pm,an,cdv,ct,osl,rfl,l,c⟩,k⟩
end
theorem fW{n:Nat}(h:n<=1000):n<sizeLine:=Nat.lt_of_le_of_lt h ⋯
theorem sr{A B:Prop}(h:B):if false=true then A else B:=by
 rw[if_neg Bool.false_ne_true]
 exact h
theorem sI{A B:Prop}(h:A):if true=true then A else B:=by
 rw[if_pos rfl]
 exact h
noncomputable def vT(H H':Hp):Prop:=∀b o,H b=some o->H' b=some o
theorem vT.refl(H:Hp):vT H H:=fun _ _ h=>h
end L2
namespace NM
def g3(a b c:Int):Nat:=Int.gcd (Int.gcd a b:Nat) c
structure N3 where
 a:Int
 b:Int
 c:Int
deriving DecidableEq
def dv(a b c:Int):Int:=if c<0 then -(g3 a b c:Nat) else (g3 a b c:Nat)
def low(a b c:Int):N3:=⟨a.fdiv (dv a b c),b.fdiv (dv a b c),c.fdiv (dv a b c)⟩
def plus(x y:N3):N3:=low (x.a*y.c+y.a*x.c) (x.b*y.c+y.b*x.c) (x.c*y.c)
def times(d:Int)(x y:N3):N3:=low (x.a*y.a+d*x.b*y.b) (x.a*y.b+x.b*y.a) (x.c*y.c)
def norm(d:Int)(x:N3):Int:=x.a*x.a-d*x.b*x.b
def Gs(d:Int)(x:N3):N3:=low (x.c*x.a) (-x.c*x.b) (norm d x)
def Iy(x:N3):N3:=⟨x.a,-x.b,x.c⟩
def one:N3:=⟨1,0,1⟩
noncomputable def P(d a b:Int):Prop:=(0<=a/\0<=b/\¬ (a=0/\b=0))\/(0<a/\b<0/\d*b*b<a*a)\/(a<0/\0<b/\a*a<d*b*b)
end NM
namespace NM
end NM
namespace NM
def C3(d:Int)(x:N3):N3:=times d (times d (plus x (Iy x)) (plus x (Iy x))) (Gs d (times d x (Iy x)))
section
variable {d:Int}{x y z:N3}
def W(x y:N3):Int:=x.b*y.a-x.a*y.b
end
end NM
namespace L2.DL
open PySem PySem.Spec PyProof.Rows
abbrev Mu:=Addr->Option (List PyData)
abbrev PQ:=PySem.W.Frag->V->Mu->Hp->Prop
inductive D where
 |v (x:PyData)
 |m (a:Addr)
 |s (ns:List Int)
  /-- an object that is handed on -/
 |o (a:Addr)
  /-- a thing of which something is known that stays -/
 |q (P:PQ)
abbrev Rho:=List (Option D)
def aF(U:Mu)(a:Addr)(ds:List PyData):Mu:=fun b=>if b=a then some ds else U b
theorem aT{U:Mu}{a:Addr}{ds}:aF U a ds a=some ds:=by unfold aF;rw[if_pos rfl]
theorem ba{U:Mu}{a b:Addr}{ds}(h:b≠a):aF U a ds b=U b:=by unfold aF;rw[if_neg h]
theorem qF{U:Mu}{a:Addr}{ds es}:aF (aF U a ds) a es=aF U a es:=by
 funext b;unfold aF;split<;>rfl
mutual
inductive Rp(K:PySem.W.Frag)(U:Mu)(H:Hp):PyData->V->Prop
 |none:Rp K U H .none .non
 |bool (b:Bool):Rp K U H (.bool b) (.bl b)
 |int (i:Int):Rp K U H (.int i) (.int i)
 |str (x:Str):Rp K U H (.str x) (.str x)
 |list {a:Addr} {xs:List V} {ds:List PyData}:H a=some (.lst xs)->U a=Option.none->RpL K U H ds xs->Rp K U H (.list ds) (.ref a)
 |tuple {a:Addr} {xs:List V} {ds:List PyData}:SqT K H a xs->RpL K U H ds xs->Rp K U H (.tuple ds) (.ref a)
inductive RpL(K:PySem.W.Frag)(U:Mu)(H:Hp):List PyData->List V->Prop
 |nil:RpL K U H [] []
 |cons {d:PyData} {v:V} {ds:List PyData} {vs:List V}:Rp K U H d v->RpL K U H ds vs->RpL K U H (d::ds) (v::vs)
end
def NT:HO->Prop
 |.tbl _=>False
 |_=>True
structure Ext(K:PySem.W.Frag)(U:Mu)(H:Hp)(Z:Mu)(H':Hp):Prop where
 keep:∀b o,H b=some o->U b=none->NT o->H' b=some o
 tb:∀b ps,H b=some (.tbl ps)->U b=none->∃ps',H' b=some (.tbl ps')
 dom:∀b ds,U b=some ds->∃es,Z b=some es
 fresh:∀b,U b=none->(H b≠none\/K.lookup b≠none)->Z b=none
def RpD(K:PySem.W.Frag)(U:Mu)(H:Hp):D->V->Prop
 |.v x,u=>Rp K U H x u
 |.m a,u=>u = .ref a/\∃ds,U a=some ds
 |.s ns,u=>∃a,u = .ref a/\SqL K H a (ns.map V.int)/\U a=none
 |.o a,u=>u = .ref a
 |.q P,u=>∀Z H',Ext K U H Z H'->P K u Z H'
noncomputable def codeAt(c:Addr)(q:Str)(h:Heap):Prop:=∃o vs t,h.get? c=some o/\o.data = .fields vs/\vs[1]? = some (.str q t)
abbrev bR(q:Str):Str:=(q ++ ".<locals>.") ++ "<lambda>"
noncomputable def M8(H:Hp)(P:Addr)(q:Str):Prop:=∃ps:Array Value,H P=some (.tbl ps)/\TriplesOk ps.toList/\∀pos cv,codeAmong pos ps.toList=some cv->∃c,cv = .ref c/\H c=some (.ext (codeAt c (bR q)))
noncomputable def vH(K:PySem.W.Frag)(H:Hp):Prop:=∀c o P q,K.lookup c=some o->bO o=some (P,q)->M8 H P q
structure bX(K:PySem.W.Frag)(U:Mu)(H:Hp):Prop where
 lst:∀a ds,U a=some ds->∃xs,H a=some (.lst xs)/\RpL K U H ds xs
 tab:vH K H
instance {K:PySem.W.Frag} {U:Mu} {H:Hp}:CoeFun (bX K U H) fun _=>∀a ds,U a=some ds->∃xs,H a=some (.lst xs)/\RpL K U H ds xs:=⟨bX.lst⟩
theorem vH.of{K:PySem.W.Frag}{H H1:Hp}(t:vH K H)(s:∀b o,H b=some o->(∀xs,o≠.lst xs)->H1 b=some o):vH K H1:=fun c o P q h1 h2=>by
 obtain⟨ps,a1,a2,a3⟩:=t c o P q h1 h2
 exact⟨ps,s _ _ a1 (fun _ z=>nomatch z),a2,fun pos cv e=>let ⟨c,q1,q2⟩:=a3 pos cv e;⟨c,q1,s _ _ q2 (fun _ z=>nomatch z)⟩⟩
noncomputable def iM(K:PySem.W.Frag)(U:Mu)(H:Hp)(ρ:Rho)(Y:St):Prop:=
 ρ.length=Y.length/\∀(i:Nat) (d:D),ρ[i]? = some (some d)->∃u,Y[i]? = some (some u)/\RpD K U H d u
structure St0(K:PySem.W.Frag)(H:Hp)(ρ:Rho)(U:Mu)(Y:St):Prop where
 mu:bX K U H
 rho:iM K U H ρ Y
section
variable {K:PySem.W.Frag}{U ad al:Mu}{H H1 H2:Hp}
theorem Ext.refl:Ext K U H U H:=⟨fun _ _ h _ _=>h,fun _ ps h _=>⟨ps,h⟩,fun _ ds h=>⟨ds,h⟩,fun _ h _=>h⟩
theorem Ext.trans(a:Ext K U H ad H1)(b:Ext K ad H1 al H2):Ext K U H al H2 where
 keep:=fun c o h n t=>b.keep c o (a.keep c o h n t) (a.fresh c n (.inl (by rw[h];exact fun z=>nomatch z))) t
 tb:=fun c ps h n=>by
  obtain⟨ps1,h1⟩:=a.tb c ps h n
  exact b.tb c ps1 h1 (a.fresh c n (.inl (by rw[h];exact fun z=>nomatch z)))
 dom:=fun c ds h=>let ⟨es,q⟩:=a.dom c ds h;b.dom c es q
 fresh:=fun c n h=>by
  refine b.fresh c (a.fresh c n h) ?_
  rcases h with h|h
  ·cases q:H c with
   |none=>exact absurd q h
   |some o=>
    by_cases t:NT o
    ·exact .inl (by rw[a.keep c o q n t];exact fun z=>nomatch z)
    ·cases o with
     |tbl ps=>
      obtain⟨ps1,h1⟩:=a.tb c ps q n
      exact .inl (by rw[h1];exact fun z=>nomatch z)
     |_=>exact absurd trivial t
  ·exact .inr h
theorem Ext.of_same(s:vT H H1):Ext K U H U H1:=⟨fun b o h _ _=>s b o h,fun b ps h _=>⟨ps,s b _ h⟩,fun _ ds h=>⟨ds,h⟩,fun _ h _=>h⟩
theorem bX.not{a:Addr}{o:HO}(ok:bX K U H)(h:H a=some o)(n:∀xs,o≠.lst xs):U a=none:=by
 cases q:U a with
 |none=>rfl
 |some ds=>
  obtain⟨ys,e,_⟩:=ok a ds q
  rw[h] at e
  exact absurd (Option.some.inj e) (n ys)
theorem bX.free{a:Addr}(ok:bX K U H)(h:H a=none):U a=none:=by
 cases q:U a with
 |none=>rfl
 |some ds=>
  obtain⟨ys,e,_⟩:=ok a ds q
  rw[h] at e;cases e
theorem xj{a:Addr}{xs:List V}(ok:bX K U H)(e:Ext K U H ad H1)(h:SqT K H a xs):SqT K H1 a xs:=by
 rcases h with (h|⟨o,h⟩)|h
 ·exact .inl (.inl (e.keep _ _ h (ok.not h fun _ z=>nomatch z) trivial))
 ·exact .inl (.inr ⟨o,e.keep _ _ h (ok.not h fun _ z=>nomatch z) trivial⟩)
 ·exact .inr h
theorem Dg{a:Addr}{xs:List V}(e:Ext K U H ad H1)(h:SqL K H a xs)(n:U a=none):SqL K H1 a xs/\ad a=none:=by
 rcases h with (h|⟨o,h⟩)|h
 ·exact⟨.inl (.inl (e.keep _ _ h n trivial)),e.fresh _ n (.inl (by rw[h];exact fun z=>nomatch z))⟩
 ·exact⟨.inl (.inr ⟨o,e.keep _ _ h n trivial⟩),e.fresh _ n (.inl (by rw[h];exact fun z=>nomatch z))⟩
 ·obtain⟨o,its,k,hk,r⟩:=id h
  exact⟨.inr h,e.fresh _ n (.inr (by rw[hk];exact fun z=>nomatch z))⟩
mutual
theorem Rp.ext{d:PyData}{u:V}(ok:bX K U H)(e:Ext K U H ad H1):Rp K U H d u->Rp K ad H1 d u
 |.none=>.none
 |.bool b=>.bool b
 |.int i=>.int i
 |.str x=>.str x
 |.list h n r=>.list (e.keep _ _ h n trivial) (e.fresh _ n (.inl (by rw[h];exact fun z=>nomatch z))) (RpL.ext ok e r)
 |.tuple h r=>.tuple (xj ok e h) (RpL.ext ok e r)
theorem RpL.ext{ds:List PyData}{us:List V}(ok:bX K U H)(e:Ext K U H ad H1):RpL K U H ds us->RpL K ad H1 ds us
 |.nil=>.nil
 |.cons h r=>.cons (Rp.ext ok e h) (RpL.ext ok e r)
end
theorem RpD.ext{d:D}{u:V}(ok:bX K U H)(e:Ext K U H ad H1)(r:RpD K U H d u):RpD K ad H1 d u:=by
 cases d with
 |v x=>exact Rp.ext ok e r
 |m a=>obtain⟨h,ds,q⟩:=r;exact⟨h,e.dom a ds q⟩
 |s ns=>obtain⟨a,h,q,n⟩:=r;exact⟨a,h,(Dg e q n).1,(Dg e q n).2⟩
 |o a=>exact r
 |q P=>exact fun Z H' e'=>r Z H' (e.trans e')
theorem iM.ext{ρ:Rho}{Y:St}(ok:bX K U H)(e:Ext K U H ad H1)(r:iM K U H ρ Y):iM K ad H1 ρ Y:=
 ⟨r.1,fun i d h=>let ⟨u,h1,h2⟩:=r.2 i d h;⟨u,h1,h2.ext ok e⟩⟩
theorem RpL.length{ds:List PyData}{us:List V}:RpL K U H ds us->ds.length=us.length
 |.nil=>rfl
 |.cons _ r=>congrArg (· + 1) (RpL.length r)
theorem RpL.get{ds:List PyData}{us:List V}:∀{i:Nat} {d:PyData},RpL K U H ds us->ds[i]? = some d->∃u,us[i]? = some u/\Rp K U H d u
 |_,_,.nil,h=>by simp at h
 |0,_,.cons r _,h=>by simp at h;subst h;exact⟨_,rfl,r⟩
 |i+1,d,.cons _ t,h=>by
  obtain⟨u,h1,h2⟩:=RpL.get (i:=i) (d:=d) t (by simpa using h)
  exact⟨u,by simpa using h1,h2⟩
theorem RpL.append{ds es:List PyData}{us ws:List V}:RpL K U H ds us->RpL K U H es ws->RpL K U H (ds++es) (us++ws)
 |.nil,s=>s
 |.cons r t,s=>.cons r (RpL.append t s)
theorem RpL.take{ds:List PyData}{us:List V}:∀(n:Nat),RpL K U H ds us->RpL K U H (ds.take n) (us.take n)
 |0,_=>by simp;exact .nil
 |_+1,.nil=>by simp;exact .nil
 |n+1,.cons r t=>.cons r (RpL.take n t)
theorem RpL.drop{ds:List PyData}{us:List V}:∀(n:Nat),RpL K U H ds us->RpL K U H (ds.drop n) (us.drop n)
 |0,r=>r
 |_+1,.nil=>by simp;exact .nil
 |n+1,.cons _ t=>RpL.drop n t
theorem RpL.set{ds:List PyData}{us:List V}{d:PyData}{u:V}(q:Rp K U H d u):∀(i:Nat),RpL K U H ds us->RpL K U H (ds.set i d) (us.set i u)
 |_,.nil=>.nil
 |0,.cons _ t=>.cons q t
 |i+1,.cons r t=>.cons r (RpL.set q i t)
theorem BB{ds:List PyData}{us:List V}{i:Int}{d:PyData}(r:RpL K U H ds us)(h:atI ds i=some d):∃u,atI us i=some u/\Rp K U H d u:=by
 unfold atI at h ⊢
 rw[<- r.length]
 cases q:ixN ds.length i with
 |none=>rw[q] at h;cases h
 |some j=>
  rw[q] at h
  exact r.get h
abbrev DK:=D->Mu->Prop
abbrev DTE:=Rho->Mu->DK->Prop
abbrev DTT:=Rho->Mu->(Bool->Mu->Prop)->Prop
abbrev DTA:=Rho->Mu->(List D->Mu->Prop)->Prop
structure kc where
 nx:Rho->Mu->Prop
 rt:DK
 bk:Rho->Mu->Prop:=fun _ _=>False
 ct:Rho->Mu->Prop:=fun _ _=>False
abbrev DTS:=kc->Rho->Mu->Prop
inductive jL(K:PySem.W.Frag)(U:Mu)(H:Hp):List D->List V->Prop
 |nil:jL K U H [] []
 |cons {d:D} {u:V} {ds:List D} {us:List V}:RpD K U H d u->jL K U H ds us->jL K U H (d::ds) (u::us)
theorem jL.ext{ds:List D}{us:List V}(ok:bX K U H)(e:Ext K U H ad H1):jL K U H ds us->jL K ad H1 ds us
 |.nil=>.nil
 |.cons h r=>.cons (h.ext ok e) (jL.ext ok e r)
theorem jL.length{ds:List D}{us:List V}:jL K U H ds us->ds.length=us.length
 |.nil=>rfl
 |.cons _ r=>congrArg (· + 1) (jL.length r)
end
noncomputable def oU(K:PySem.W.Frag)(t:TE)(td:DTE):Prop:=∀(Y:St) (H:Hp) (ρ:Rho) (U:Mu) (Qd:DK) (Q:VK),St0 K H ρ U Y->td ρ U Qd ->
 (∀d u Z H',Ext K U H Z H'->St0 K H' ρ Z Y->RpD K Z H' d u->Qd d Z->Q u H')->t Y H Q
noncomputable def FH(K:PySem.W.Frag)(t:TT)(td:DTT):Prop:=∀(Y:St) (H:Hp) (ρ:Rho) (U:Mu) (Qd:Bool->Mu->Prop) (Q:Bool->Hp->Prop),St0 K H ρ U Y->td ρ U Qd ->
 (∀b Z H',Ext K U H Z H'->St0 K H' ρ Z Y->Qd b Z->Q b H')->t Y H Q
noncomputable def IM(K:PySem.W.Frag)(n:Nat)(t:TA)(td:DTA):Prop:=∀(Y:St) (H:Hp) (ρ:Rho) (U:Mu) (Qd:List D->Mu->Prop) (Q:List V->Hp->Prop),St0 K H ρ U Y->td ρ U Qd ->
 (∀ds us Z H',Ext K U H Z H'->St0 K H' ρ Z Y->jL K Z H' ds us->ds.length=n->Qd ds Z->Q us H')->t Y H Q
noncomputable def wV(K:PySem.W.Frag)(t:TS)(td:DTS):Prop:=∀(Y:St) (H:Hp) (ρ:Rho) (U:Mu) (Dd:kc) (De:Ends),St0 K H ρ U Y->td Dd ρ U ->
 (∀ap am Z H',Ext K U H Z H'->St0 K H' am Z ap->Dd.nx am Z->De.nx ap H') ->
 (∀d u Z H',Ext K U H Z H'->bX K Z H'->RpD K Z H' d u->Dd.rt d Z->De.rt u H') ->
 (∀ap am Z H',Ext K U H Z H'->St0 K H' am Z ap->Dd.bk am Z->De.bk ap H') ->
 (∀ap am Z H',Ext K U H Z H'->St0 K H' am Z ap->Dd.ct am Z->De.ct ap H')->t De Y H
noncomputable def DE(X:Cx)(e:Expr)(td:DTE):Prop:=∃t,PE X e t/\oU X.K t td
noncomputable def DT(X:Cx)(e:Expr)(td:DTT):Prop:=∃t,PT X e t/\FH X.K t td
noncomputable def DA(X:Cx)(es:List Expr)(td:DTA):Prop:=∃t,PA X es t/\IM X.K es.length t td
noncomputable def DS(X:Cx)(st:Stmt)(td:DTS):Prop:=∃t,PS X st t/\wV X.K t td
noncomputable def DSs(X:Cx)(st:List Stmt)(td:DTS):Prop:=∃t,PSs X st t/\wV X.K t td
section
variable {X:Cx}{a b c:Expr}{ta tb tc:DTE}{pos:Pos}
noncomputable def ah(i:Nat):DTE:=fun ρ U Q=>match ρ[i]? with
 |some (some d)=>Q d U
 |_=>False
noncomputable def dC(x:PyData):DTE:=fun _ U Q=>Q (.v x) U
theorem FR{K:PySem.W.Frag}(i:Nat):oU K (MM i) (ah i):=by
 intro Y H ρ U Qd Q S h k
 unfold ah at h
 split at h
 ·rename_i d e
  obtain⟨u,h1,h2⟩:=S.rho.2 i d e
  exact⟨u,h1,k d u U H .refl S h2 h⟩
 ·exact h.elim
theorem dv(i:Nat){x:Str}{pos:Pos}(hN:X.N[i]? = some x:=by rfl)(hv:Vis X.env.scope x:=by first|exact Or.inl rfl|exact Or.inr (Or.inl rfl)|exact Or.inr (Or.inr rfl))(hd:(x==("__debug__":Str))=false:=by decide)
  (hcd:(x==("__classdict__":Str))=false:=by decide):DE X (.Name x pos) (ah i):=⟨_,BS hN hv hd hcd,FR i⟩
theorem ve{K:PySem.W.Frag}{x:PyData}{u:V}(h:∀U H,bX K U H->Rp K U H x u):oU K (tC u) (dC x):=fun Y H ρ U Qd Q S q k=>k (.v x) u U H .refl S (h U H S.mu) q
theorem ag{i j pos}:DE X (.Constant (.int i) j pos) (dC (.int i)):=⟨_,Jm,ve fun _ _ _=>.int i⟩
theorem jz{i j pos}:DE X (.Constant (.bool i) j pos) (dC (.bool i)):=⟨_,Mq,ve fun _ _ _=>.bool i⟩
theorem Bs{j pos}:DE X (.Constant .none j pos) (dC .none):=⟨_,EG,ve fun _ _ _=>.none⟩
theorem ak{x j pos}:DE X (.Constant (.str x) j pos) (dC (.str x)):=⟨_,ED,ve fun _ _ _=>.str x⟩
theorem dR{x:Str}{d:PyData}{u:V}{w:Value}{pos:Pos}(hg:Gl X x)(hm:X.mg x=some w)(r:RelV u w)(h:∀U H,bX X.K U H->Rp X.K U H d u)(hd:(x==("__debug__":Str))=false:=by decide):DE X (.Name x pos) (dC d):=
 ⟨_,za hg hm r hd,ve h⟩
noncomputable def d8(K:PySem.W.Frag)(rr:R2)(r:D->D->Mu->DK->Prop):Prop:=∀(x y:D) (ux uy:V) (H:Hp) (U:Mu) (Qd:DK) (Q:VK),bX K U H->RpD K U H x ux->RpD K U H y uy->r x y U Qd ->
 (∀d u Z H',Ext K U H Z H'->bX K Z H'->RpD K Z H' d u->Qd d Z->Q u H')->rr ux uy H Q
noncomputable def dOp(r:D->D->Mu->DK->Prop)(ta tb:DTE):DTE:=fun ρ U Q=>ta ρ U fun x ad=>tb ρ ad fun y al=>r x y al Q
theorem pR{K:PySem.W.Frag}{rr:R2}{r}{t1 t2:TE}(lo:d8 K rr r)(la:oU K t1 ta)(lb:oU K t2 tb):oU K (tOp rr t1 t2) (dOp r ta tb):=by
 intro Y H ρ U Qd Q S h k
 refine la Y H ρ U _ _ S h fun x ux ad H1 e1 S1 rx h1=>?_
 refine lb Y H1 ρ ad _ _ S1 h1 fun y uy al H2 e2 S2 ry h2=>?_
 exact lo x y ux uy H2 al _ _ S2.mu (rx.ext S1.mu e2) ry h2 fun d u Z H' e3 ok r q=>k d u Z H' (e1.trans (e2.trans e3)) ⟨ok,S2.rho.ext S2.mu e3⟩ r q
theorem o4{op:Operator}{rr:R2}{r}(ho:OpR X (binaryOp op) rr)(lo:d8 X.K rr r)(ha:DE X a ta)(hb:DE X b tb):DE X (.BinOp a op b pos) (dOp r ta tb):=by
 obtain⟨t1,p1,l1⟩:=ha
 obtain⟨t2,p2,l2⟩:=hb
 exact⟨_,MG ho p1 p2,pR lo l1 l2⟩
theorem ik{op:CmpOp}{rr:R2}{r}(ho:OpR X (compareOp op) rr)(lo:d8 X.K rr r)(ha:DE X a ta)(hb:DE X b tb)(hm:behindInMarks op b=false):DE X (.Compare a [op] [b] pos) (dOp r ta tb):=by
 obtain⟨t1,p1,l1⟩:=ha
 obtain⟨t2,p2,l2⟩:=hb
 exact⟨_,Hh ho p1 p2 hm,pR lo l1 l2⟩
noncomputable def dB(t:DTE):DTT:=fun ρ U Q=>t ρ U fun d ad=>match d with
 |.v (.bool k)=>Q k ad
 |_=>False
theorem qZ{K:PySem.W.Frag}{t:TE}{td:DTE}(l:oU K t td):FH K (Fo t) (dB td):=by
 intro Y H ρ U Qd Q S h k
 refine l Y H ρ U _ _ S h fun d u ad H1 e1 S1 r q=>?_
 split at q
 ·rename_i b
  cases r
  exact⟨b,rfl,k b ad H1 e1 S1 q⟩
 ·exact q.elim
theorem aE{op:CmpOp}{rr:R2}{r}(ho:OpR X (compareOp op) rr)(lo:d8 X.K rr r)(ha:DE X a ta)(hb:DE X b tb)(hm:behindInMarks op b=false):DT X (.Compare a [op] [b] pos) (dB (dOp r ta tb)):=by
 obtain⟨t1,p1,l1⟩:=ha
 obtain⟨t2,p2,l2⟩:=hb
 exact⟨_,GQ ho p1 p2 hm,qZ (pR lo l1 l2)⟩
theorem dM{e:Expr}{td:DTE}(h:DE X e td)(he:∀whole,isTrue e X.env whole=(do let v <- whole;standAt e.pos;holding [v] (truthy v)):=by intro _;rfl):DT X e (dB td):=by
 obtain⟨t,p,l⟩:=h
 exact⟨_,KZ p he,qZ l⟩
def rII(C:Int->Int->Prop)(g:Int->Int->PyData):D->D->Mu->DK->Prop:=fun x y U Q=>match x,y with
 |.v (.int i),.v (.int j)=>C i j/\Q (.v (g i j)) U
 |_,_=>False
theorem G2{K:PySem.W.Frag}{C:Int->Int->Prop}{g:Int->Int->V}{gd:Int->Int->PyData}(hg:∀U H i j,Rp K U H (gd i j) (g i j)):d8 K (rI C g) (rII C gd):=by
 intro x y ux uy H U Qd Q ok rx ry h k
 unfold rII at h
 split at h
 ·rename_i i j
  cases rx;cases ry
  exact⟨i,j,rfl,rfl,h.1,k (.v _) _ U H .refl ok (hg U H i j) h.2⟩
 ·exact h.elim
def vQ(g:Int->Int->PyData):D->D->Mu->DK->Prop:=fun x y U Q=>match x,y with
 |.v (.int i),.v (.int j)=>Q (.v (g i j)) U
 |_,_=>False
theorem Cm{K:PySem.W.Frag}{g:Int->Int->V}{gd:Int->Int->PyData}(hg:∀U H i j,Rp K U H (gd i j) (g i j)):d8 K (rI0 g) (vQ gd):=by
 intro x y ux uy H U Qd Q ok rx ry h k
 unfold vQ at h
 split at h
 ·rename_i i j
  cases rx;cases ry
  exact⟨i,j,rfl,rfl,k (.v _) _ U H .refl ok (hg U H i j) h⟩
 ·exact h.elim
noncomputable abbrev dJ(ta tb:DTE):DTE:=dOp (vQ fun i j=>.int (i+j)) ta tb
noncomputable abbrev JH(ta tb:DTE):DTE:=dOp (vQ fun i j=>.int (i-j)) ta tb
noncomputable abbrev MulOk(i j:Int):Prop:=IntMulOk i j
noncomputable abbrev Ee(ta tb:DTE):DTE:=dOp (rII MulOk fun i j=>.int (i*j)) ta tb
noncomputable abbrev xq(ta tb:DTE):DTE:=dOp (rII (fun _ j=>j≠0) fun i j=>.int (i.fmod j)) ta tb
noncomputable abbrev E5(i j:Int):Prop:=j≠0/\Builtin.divisionGoesByPylong i j=false
noncomputable abbrev KO(ta tb:DTE):DTE:=dOp (rII E5 fun i j=>.int (i.fdiv j)) ta tb
noncomputable abbrev vj(ta tb:DTE):DTE:=dOp (rII xX fun i j=>.int (i ^ j.toNat)) ta tb
theorem Hv:OpR X (binaryOp .Mult) (rI MulOk fun i j=>.int (i*j)):=opI fun _ _ _ _ _ _ _ hc q=>mul_int q hc
theorem HS:OpR X (binaryOp .FloorDiv) (rI E5 fun i j=>.int (i.fdiv j)):=opI fun _ _ _ _ _ _ _ hc q=>floordiv_int hc.1 q (.inl hc.2)
theorem bC(ha:DE X a ta)(hb:DE X b tb):DE X (.BinOp a .Add b pos) (dJ ta tb):=o4 Gw (Cm fun _ _ _ _=>.int _) ha hb
theorem Er(ha:DE X a ta)(hb:DE X b tb):DE X (.BinOp a .Sub b pos) (JH ta tb):=o4 JQ (Cm fun _ _ _ _=>.int _) ha hb
theorem u9(ha:DE X a ta)(hb:DE X b tb):DE X (.BinOp a .Mult b pos) (Ee ta tb):=o4 Hv (G2 fun _ _ _ _=>.int _) ha hb
theorem mw(ha:DE X a ta)(hb:DE X b tb):DE X (.BinOp a .Mod b pos) (xq ta tb):=o4 GY (G2 fun _ _ _ _=>.int _) ha hb
theorem FF(ha:DE X a ta)(hb:DE X b tb):DE X (.BinOp a .FloorDiv b pos) (KO ta tb):=o4 HS (G2 fun _ _ _ _=>.int _) ha hb
theorem ke(ha:DE X a ta)(hb:DE X b tb):DE X (.BinOp a .Pow b pos) (vj ta tb):=o4 JT (G2 fun _ _ _ _=>.int _) ha hb
abbrev rLt:=vQ fun i j=>.bool (decide (i<j))
abbrev rLe:=vQ fun i j=>.bool (decide (i<=j))
abbrev rGt:=vQ fun i j=>.bool (decide (j<i))
abbrev rGe:=vQ fun i j=>.bool (decide (j<=i))
theorem fF{K:PySem.W.Frag}{p:Int->Int->Bool}:d8 K (rI0 fun i j=>.bl (p i j)) (vQ fun i j=>.bool (p i j)):=Cm fun _ _ _ _=>.bool _
noncomputable def Am(ta:DTE):DTE:=fun ρ U Q=>ta ρ U fun x ad=>match x with
 |.v (.int i)=>Q (.v (.int (-i))) ad
 |_=>False
theorem qH(ha:DE X a ta):DE X (.UnaryOp .USub a pos) (Am ta):=by
 obtain⟨t1,p1,l1⟩:=ha
 refine⟨_,Mb JY p1,fun Y H ρ U Qd Q S h k=>?_⟩
 refine l1 Y H ρ U _ _ S h fun x ux ad H1 e1 S1 rx h1=>?_
 split at h1
 ·rename_i i
  cases rx
  exact⟨i,rfl,k (.v _) _ ad H1 e1 S1 (Rp.int _) h1⟩
 ·exact h1.elim
noncomputable def kb(t u:DTT):DTT:=fun ρ U Q=>t ρ U fun c ad=>if c=true then u ρ ad Q else Q false ad
noncomputable def km(t u:DTT):DTT:=fun ρ U Q=>t ρ U fun c ad=>if c=true then Q true ad else u ρ ad Q
noncomputable def jP(t:DTT):DTT:=fun ρ U Q=>t ρ U fun c ad=>Q (!c) ad
noncomputable def DW(X:Cx)(e:Expr)(td:DTT):Prop:=∃t,PW X e t/\FH X.K t td
theorem DW.dt{e:Expr}{td:DTT}(h:DW X e td):DT X e td:=let ⟨t,p,l⟩:=h;⟨t,p.pt,l⟩
variable {tA tB':DTT}{rest:List Expr}
theorem jg(ha:DT X a tA):DW X (.BoolOp .And [a] pos) tA:=let ⟨t,p,l⟩:=ha;⟨t,pw_and1 p,l⟩
theorem gO(ha:DT X a tA):DW X (.BoolOp .Or [a] pos) tA:=let ⟨t,p,l⟩:=ha;⟨t,pw_or1 p,l⟩
theorem jH(ha:DT X a tA)(hb:DW X (.BoolOp .And (b::rest) pos) tB'):DW X (.BoolOp .And (a::b::rest) pos) (kb tA tB'):=by
 obtain⟨t1,p1,l1⟩:=ha
 obtain⟨t2,p2,l2⟩:=hb
 refine⟨_,pw_and p1 p2,fun Y H ρ U Qd Q S h k=>?_⟩
 refine l1 Y H ρ U _ _ S h fun c ad H1 e1 S1 h1=>?_
 cases c with
 |true=>
  refine sI (l2 Y H1 ρ ad _ _ S1 (by simpa using h1) fun c al H2 e2 S2 h2=>k c al H2 (e1.trans e2) S2 h2)
 |false=>exact sr (k false ad H1 e1 S1 (by simpa using h1))
theorem gQ(ha:DT X a tA)(hb:DW X (.BoolOp .Or (b::rest) pos) tB'):DW X (.BoolOp .Or (a::b::rest) pos) (km tA tB'):=by
 obtain⟨t1,p1,l1⟩:=ha
 obtain⟨t2,p2,l2⟩:=hb
 refine⟨_,pw_or p1 p2,fun Y H ρ U Qd Q S h k=>?_⟩
 refine l1 Y H ρ U _ _ S h fun c ad H1 e1 S1 h1=>?_
 cases c with
 |true=>exact sI (k true ad H1 e1 S1 (by simpa using h1))
 |false=>
  refine sr (l2 Y H1 ρ ad _ _ S1 (by simpa using h1) fun c al H2 e2 S2 h2=>k c al H2 (e1.trans e2) S2 h2)
theorem i4(ha:DT X a tA):DT X (.UnaryOp .Not a pos) (jP tA):=by
 obtain⟨t1,p1,l1⟩:=ha
 refine⟨_,JM p1,fun Y H ρ U Qd Q S h k=>?_⟩
 exact l1 Y H ρ U _ _ S h fun c ad H1 e1 S1 h1=>k _ ad H1 e1 S1 h1
noncomputable def jO(ta tb:DTE):DTE:=fun ρ U Q=>ta ρ U fun x ad=>match x with
 |.v (.bool c)=>if c=true then tb ρ ad Q else Q (.v (.bool false)) ad
 |_=>False
noncomputable def Gf(ta:DTE):DTE:=fun ρ U Q=>ta ρ U fun x ad=>match x with
 |.v (.bool c)=>Q (.v (.bool (!c))) ad
 |_=>False
theorem ny{op}(h:DE X a ta):DE X (.BoolOp op [a] pos) ta:=let ⟨t,p,l⟩:=h;⟨t,Jp p,l⟩
theorem i3(ha:DE X a ta)(hb:DE X (.BoolOp .And (b::rest) pos) tb):DE X (.BoolOp .And (a::b::rest) pos) (jO ta tb):=by
 obtain⟨t1,p1,l1⟩:=ha
 obtain⟨t2,p2,l2⟩:=hb
 refine⟨_,Ln p1 p2,fun Y H ρ U Qd Q S h k=>?_⟩
 refine l1 Y H ρ U _ _ S h fun x ux ad H1 e1 S1 rx h1=>?_
 split at h1
 ·rename_i c
  cases rx
  refine⟨c,rfl,?_⟩
  cases c with
  |true=>exact sI (l2 Y H1 ρ ad _ _ S1 (by simpa using h1) fun d u al H2 e2 S2 r2 h2=>k d u al H2 (e1.trans e2) S2 r2 h2)
  |false=>exact sr (k (.v _) _ ad H1 e1 S1 (Rp.bool false) (by simpa using h1))
 ·exact h1.elim
theorem GG(ha:DE X a ta):DE X (.UnaryOp .Not a pos) (Gf ta):=by
 obtain⟨t1,p1,l1⟩:=ha
 refine⟨_,Je p1,fun Y H ρ U Qd Q S h k=>?_⟩
 refine l1 Y H ρ U _ _ S h fun x ux ad H1 e1 S1 rx h1=>?_
 split at h1
 ·rename_i c
  cases rx
  exact⟨c,rfl,k (.v _) _ ad H1 e1 S1 (Rp.bool _) h1⟩
 ·exact h1.elim
noncomputable def dIf(t:DTT)(ta tb:DTE):DTE:=fun ρ U Q=>t ρ U fun c ad=>if c=true then ta ρ ad Q else tb ρ ad Q
theorem Ai{c:Expr}(hc:DT X c tA)(ha:DE X a ta)(hb:DE X b tb):DE X (.IfExp c a b pos) (dIf tA ta tb):=by
 obtain⟨t0,p0,l0⟩:=hc
 obtain⟨t1,p1,l1⟩:=ha
 obtain⟨t2,p2,l2⟩:=hb
 refine⟨_,Es p0 p1 p2,fun Y H ρ U Qd Q S h k=>?_⟩
 refine l0 Y H ρ U _ _ S h fun c ad H1 e1 S1 h1=>?_
 cases c with
 |true=>exact sI (l1 Y H1 ρ ad _ _ S1 (by simpa using h1) fun d u al H2 e2 S2 r2 h2=>k d u al H2 (e1.trans e2) S2 r2 h2)
 |false=>exact sr (l2 Y H1 ρ ad _ _ S1 (by simpa using h1) fun d u al H2 e2 S2 r2 h2=>k d u al H2 (e1.trans e2) S2 r2 h2)
end
section
variable {K:PySem.W.Frag}{U ad:Mu}{H H1:Hp}{p:Addr}
theorem cP{o:HO}(h:H p=none):Ext K U H U (upd H p o):=
 ⟨fun b u e _ _=>by rw[bB (aX e h)];exact e,fun b ps e _=>⟨ps,by rw[bB (aX e h)];exact e⟩,fun _ ds q=>⟨ds,q⟩,fun _ q _=>q⟩
theorem bX.Fp(ok:bX K U H)(e:Ext K U H U H1)(s:vT H H1):bX K U H1:=⟨fun a ds q=>by
 obtain⟨xs,h1,h2⟩:=ok a ds q
 exact⟨xs,s _ _ h1,h2.ext ok e⟩,ok.tab.of fun b o h _=>s b o h⟩
theorem Gr{o:HO}(h:H p=none):vT H (upd H p o):=fun b u q=>by rw[bB (aX q h)];exact q
theorem bX.new{o:HO}(ok:bX K U H)(h:H p=none):bX K U (upd H p o):=ok.Fp (cP h) (Gr h)
theorem St0.new{o:HO}{ρ:Rho}{Y:St}(S:St0 K H ρ U Y)(h:H p=none):St0 K (upd H p o) ρ U Y:=⟨S.mu.new h,S.rho.ext S.mu (cP h)⟩
theorem gX{us:List V}{ds:List PyData}(ok:bX K U H)(r:RpL K U H ds us)(h:H p=none):Rp K U (upd H p (.tup us)) (.tuple ds) (.ref p):=
 .tuple (SqT.of dA) (r.ext ok (cP h))
theorem gW{us:List V}{ds:List PyData}(ok:bX K U H)(r:RpL K U H ds us)(h:H p=none):Rp K U (upd H p (.lst us)) (.list ds) (.ref p):=
 .list dA (ok.free h) (r.ext ok (cP h))
theorem jZ{o:HO}{ds:List PyData}(ok:bX K U H)(h:H p=none)(hk:K.lookup p=none):Ext K U H (aF U p ds) (upd H p o) where
 keep:=fun b u e _ _=>by rw[bB (aX e h)];exact e
 tb:=fun b ps e _=>⟨ps,by rw[bB (aX e h)];exact e⟩
 dom:=fun b es q=>by
  have:b≠p:=fun z=>by rw[z,ok.free h] at q;cases q
  exact⟨es,by rw[ba this];exact q⟩
 fresh:=fun b n q=>by
  have:b≠p:=fun z=>by
   rcases q with q|q
   ·exact q (by rw[z];exact h)
   ·exact q (by rw[z];exact hk)
  rw[ba this];exact n
theorem bX.mut{us:List V}{ds:List PyData}(ok:bX K U H)(r:RpL K U H ds us)(h:H p=none)(hk:K.lookup p=none):bX K (aF U p ds) (upd H p (.lst us)):=⟨fun a es q=>by
 have e:=jZ (o:=.lst us) (ds:=ds) ok h hk
 by_cases ha:a=p
 ·subst ha
  rw[aT] at q
  cases q
  exact⟨us,dA,r.ext ok e⟩
 ·rw[ba ha] at q
  obtain⟨xs,h1,h2⟩:=ok a es q
  exact⟨xs,by rw[bB ha];exact h1,h2.ext ok e⟩,ok.tab.of fun b o e _=>by rw[bB (aX e h)];exact e⟩
theorem jl{o:HO}{ds es:List PyData}(h:U p=some ds):Ext K U H (aF U p es) (upd H p o) where
 keep:=fun b u e n _=>by
  have:b≠p:=fun z=>by rw[z,h] at n;cases n
  rw[bB this];exact e
 tb:=fun b ps e n=>by
  have:b≠p:=fun z=>by rw[z,h] at n;cases n
  exact⟨ps,by rw[bB this];exact e⟩
 dom:=fun b fs q=>by
  by_cases hb:b=p
  ·subst hb;exact⟨es,aT⟩
  ·exact⟨fs,by rw[ba hb];exact q⟩
 fresh:=fun b n q=>by
  have:b≠p:=fun z=>by rw[z,h] at n;cases n
  rw[ba this];exact n
theorem bX.set{us:List V}{ds es:List PyData}(ok:bX K U H)(h:U p=some ds)(r:RpL K U H es us):bX K (aF U p es) (upd H p (.lst us)):=⟨fun a fs q=>by
 have e:Ext K U H (aF U p es) (upd H p (.lst us)):=jl h
 by_cases ha:a=p
 ·subst ha
  rw[aT] at q
  cases q
  exact⟨us,dA,r.ext ok e⟩
 ·rw[ba ha] at q
  obtain⟨xs,h1,h2⟩:=ok a fs q
  exact⟨xs,by rw[bB ha];exact h1,h2.ext ok e⟩,by
 obtain⟨ys,hy,_⟩:=ok p ds h
 exact ok.tab.of fun b o e n=>by
  have:b≠p:=fun z=>by rw[z,hy] at e;exact n ys (Option.some.inj e).symm
  rw[bB this];exact e⟩
end
def cD:List D->Option (List PyData)
 |[]=>some []
 |.v x::r=>(cD r).map (x::·)
 |_::_=>none
theorem jL.data{K:PySem.W.Frag}{U:Mu}{H:Hp}:∀{ds:List D} {us:List V} {xs:List PyData},jL K U H ds us->cD ds=some xs->RpL K U H xs us
 |_,_,_,.nil,e=>by cases e;exact .nil
 |.v x::r,_,xs,.cons h t,e=>by
  simp only[cD] at e
  cases q:cD r with
  |none=>rw[q] at e;cases e
  |some ys=>rw[q] at e;cases e;exact .cons h (jL.data t q)
 |.m _::_,_,_,.cons _ _,e=>by simp[cD] at e
 |.s _::_,_,_,.cons _ _,e=>by simp[cD] at e
 |.o _::_,_,_,.cons _ _,e=>by simp[cD] at e
section
variable {X:Cx}{e:Expr}{es:List Expr}{te:DTE}{t:DTA}{pos:Pos}
noncomputable def aj:DTA:=fun _ U Q=>Q [] U
noncomputable def ae(ta:DTE)(tr:DTA):DTA:=fun ρ U Q=>ta ρ U fun x ad=>tr ρ ad fun xs al=>Q (x::xs) al
theorem af:DA X [] aj:=⟨_,kg,fun Y H ρ U Qd Q S h k=>k [] [] U H .refl S .nil rfl h⟩
theorem aa(ha:DE X e te)(hr:DA X es t)(hs:starEach (e::es) X.env=(false,eval e X.env)::starEach es X.env:=by rfl):DA X (e::es) (ae te t):=by
 obtain⟨t1,p1,l1⟩:=ha
 obtain⟨t2,p2,l2⟩:=hr
 refine⟨_,dP p1 p2 hs,fun Y H ρ U Qd Q S h k=>?_⟩
 refine l1 Y H ρ U _ _ S h fun x ux ad H1 e1 S1 rx h1=>?_
 refine l2 Y H1 ρ ad _ _ S1 h1 fun xs us al H2 e2 S2 rs len h2=>?_
 exact k (x::xs) (ux::us) al H2 (e1.trans e2) S2 (.cons (rx.ext S1.mu e2) rs) (by rw[length_cons,length_cons,len]) h2
noncomputable def bb(t:DTA):DTE:=fun ρ U Q=>t ρ U fun ds ad=>match cD ds with
 |some xs=>Q (.v (.tuple xs)) ad
 |none=>False
noncomputable def gC(t:DTA):DTE:=fun ρ U Q=>t ρ U fun ds ad=>match cD ds with
 |some xs=>Q (.v (.list xs)) ad
 |none=>False
noncomputable def tG(t:DTA):DTE:=fun ρ U Q=>t ρ U fun ds ad=>match cD ds with
 |some xs=>∀p,ad p=none->Q (.m p) (aF ad p xs)
 |none=>False
theorem aw{x1}(h:DA X es t)(hl:es.length<=1000:=by decide):DE X (.Tuple es x1 pos) (bb t):=by
 obtain⟨t1,p1,l1⟩:=h
 refine⟨_,Kw p1,fun Y H ρ U Qd Q S h k=>?_⟩
 refine l1 Y H ρ U _ _ S h fun ds us ad H1 e1 S1 rs len h1=>?_
 cases q:cD ds with
 |none=>rw[q] at h1;exact h1.elim
 |some xs=>
  rw[q] at h1
  refine⟨le_of_lt (fW (by rw[<- rs.length,len];exact hl)),fun p hp=>?_⟩
  exact k (.v (.tuple xs)) _ ad _ (e1.trans (cP hp)) (S1.new hp) (gX S1.mu (rs.data q) hp) h1
theorem bU(h:DA X es t)(hl:es.length<=1000:=by decide):DE X (.List es pos) (gC t):=by
 obtain⟨t1,p1,l1⟩:=h
 refine⟨_,IZ p1,fun Y H ρ U Qd Q S h k=>?_⟩
 refine l1 Y H ρ U _ _ S h fun ds us ad H1 e1 S1 rs len h1=>?_
 cases q:cD ds with
 |none=>rw[q] at h1;exact h1.elim
 |some xs=>
  rw[q] at h1
  refine⟨le_of_lt (fW (by rw[<- rs.length,len];exact hl)),fun p hp=>?_⟩
  exact k (.v (.list xs)) _ ad _ (e1.trans (cP hp)) (S1.new hp) (gW S1.mu (rs.data q) hp) h1
noncomputable def LB(K:PySem.W.Frag)(t:TA):TE:=fun Y H Q=>t Y H fun xs H1=>xs.length<=sizeLine/\∀p,H1 p=none->K.lookup p=none->Q (.ref p) (upd H1 p (.lst xs))
theorem HQ{t:TA}(h:PA X es t):PE X (.List es pos) (LB X.K t):=by
 intro pins s Y H Q I hq
 refine wpAny_List_spliced (thn (h pos pins s Y H _ I hq) fun us s1 ⟨xs,H1,I1,r,z,q⟩=>⟨by rw[<- r.length];exact z,?_⟩)
 have hf:H1 s1.heap.objs.size=none:=I1.hok.fresh (le_refl _)
 have hk:X.K.lookup s1.heap.objs.size=none:=by
  cases c:X.K.lookup s1.heap.objs.size with
  |none=>rfl
  |some o=>exact absurd (Heap.lt_size (I1.kIn _ _ c)) (lt_irrefl _)
 refine⟨.ref s1.heap.objs.size,upd H1 s1.heap.objs.size (.lst xs),I1.laid (t':=s1.toks) (fun b u e=>Heap.get?_push_of_some _ e) (le_refl _) ?_,rfl,q _ hf hk⟩
 exact⟨z,us,0,r,Heap.get?_push_size _ rfl⟩
theorem ql(h:DA X es t)(hl:es.length<=1000:=by decide):DE X (.List es pos) (tG t):=by
 obtain⟨t1,p1,l1⟩:=h
 refine⟨_,HQ p1,fun Y H ρ U Qd Q S h k=>?_⟩
 refine l1 Y H ρ U _ _ S h fun ds us ad H1 e1 S1 rs len h1=>?_
 cases q:cD ds with
 |none=>rw[q] at h1;exact h1.elim
 |some xs=>
  rw[q] at h1
  refine⟨le_of_lt (fW (by rw[<- rs.length,len];exact hl)),fun p hp hk=>?_⟩
  have ex:=jZ (o:=.lst us) (ds:=xs) S1.mu hp hk
  exact k (.m p) _ (aF ad p xs) _ (e1.trans ex) ⟨S1.mu.mut (rs.data q) hp hk,S1.rho.ext S1.mu ex⟩ ⟨rfl,xs,aT⟩ (h1 p (S1.mu.free hp))
end
section
variable {X:Cx}{pins:List (Addr×Obj)}{Y:St}{H:Hp}{s:Shared}{U:Mu}
mutual
theorem gJ(I:Inv X pins Y H s):∀{d:PyData} {x:V} {u:Value},Rp X.K U H d x->RelV x u->∃as,Reads s.heap u d as
 |_,_,_,.none,r=>by cases r;exact⟨_,.none⟩
 |_,_,_,.bool b,r=>by cases r;exact⟨_,.bool b⟩
 |_,_,_,.int i,r=>by obtain⟨t,rfl⟩:=r;exact⟨_,.int i t⟩
 |_,_,_,.str y,r=>by obtain⟨t,rfl⟩:=r;exact⟨_,.str y t⟩
 |_,_,_,.list h _ q,r=>by
  cases r
  obtain⟨its,rv,⟨o,n,ho,hc,_,hd⟩,_⟩:=I.list (SqL.of h)
  obtain⟨as,ra⟩:=my I q rv
  exact⟨_,.list ho hc hd (by simpa using ra)⟩
 |_,_,_,.tuple h q,r=>by
  cases r
  obtain⟨its,rv,⟨o,ho,hc,n,hd⟩,_⟩:=I.tuple h
  obtain⟨as,ra⟩:=my I q rv
  exact⟨_,.tuple ho hc hd (by simpa using ra)⟩
theorem my(I:Inv X pins Y H s):∀{ds:List PyData} {xs:List V} {us:List Value},RpL X.K U H ds xs->Vals xs us->∃as,ReadsAll s.heap us ds as
 |_,_,_,.nil,.nil=>⟨_,.nil⟩
 |_,_,_,.cons h t,.cons r q=>by
  obtain⟨as,ra⟩:=gJ I h r
  obtain⟨bs,rb⟩:=my I t q
  exact⟨_,.cons ra rb⟩
end
end
section
variable {X:Cx}
noncomputable def Jn(K:PySem.W.Frag)(neg:Bool):R2:=fun x y H Q=>∃U a b,Rp K U H a x/\Rp K U H b y/\SeqAt.shaped a=true/\SeqAt.shaped b=true/\Q (.bl (neg ^^ PyData.eqv a b)) H
theorem bh(hu:X.A.units+64<cLine):OpR X (compareOp .Eq) (Jn X.K false):=by
 intro pins s Y H x y v u Q I rx ry h
 obtain⟨U,a,b,ha,hb,sa,sb,q⟩:=h
 obtain⟨as,ra⟩:=gJ I ha rx
 obtain⟨bs,rb⟩:=gJ I hb ry
 exact eq_dataH ra rb sa sb hu ⟨.bl (PyData.eqv a b),H,I,rfl,by simpa using q⟩
theorem fE(hu:X.A.units+64<cLine):OpR X (compareOp .NotEq) (Jn X.K true):=by
 intro pins s Y H x y v u Q I rx ry h
 obtain⟨U,a,b,ha,hb,sa,sb,q⟩:=h
 obtain⟨as,ra⟩:=gJ I ha rx
 obtain⟨bs,rb⟩:=gJ I hb ry
 exact ne_dataH ra rb sa sb hu ⟨.bl (!PyData.eqv a b),H,I,rfl,by simpa using q⟩
def bI(neg:Bool):D->D->Mu->DK->Prop:=fun x y U Q=>match x,y with
 |.v a,.v b=>SeqAt.shaped a=true/\SeqAt.shaped b=true/\Q (.v (.bool (neg ^^ PyData.eqv a b))) U
 |_,_=>False
theorem aO{K:PySem.W.Frag}{neg:Bool}:d8 K (Jn K neg) (bI neg):=by
 intro x y ux uy H U Qd Q ok rx ry h k
 unfold bI at h
 split at h
 ·rename_i a b
  exact⟨U,a,b,rx,ry,h.1,h.2.1,k (.v _) _ U H .refl ok (Rp.bool _) h.2.2⟩
 ·exact h.elim
noncomputable def LZ(K:PySem.W.Frag)(neg:Bool):R2:=fun x y H Q=>∃U a bs,Rp K U H a x/\Rp K U H (.list bs) y/\PyData.canLayAll0 bs=true/\a.canLay0=true/\PyData.depth a<=60/\Q (.bl (neg ^^ bs.any fun b=>PyData.eqv b a)) H
theorem EE(hu:X.A.units+64<cLine):OpR X (compareOp .In) (LZ X.K false):=by
 intro pins s Y H x y v u Q I rx ry h
 obtain⟨U,a,b,ha,hb,sb,sa,dp,q⟩:=h
 obtain⟨as,ra⟩:=gJ I ha rx
 obtain⟨bs,rb⟩:=gJ I hb ry
 refine SeqAt.in_list_reads rb ra sb sa ∅ ⟨.bl (b.any fun z=>PyData.eqv z a),H,I,rfl,by simpa using q⟩
def Eo(neg:Bool):D->D->Mu->DK->Prop:=fun x y U Q=>match x,y with
 |.v a,.v (.list bs)=>PyData.canLayAll0 bs=true/\a.canLay0=true/\PyData.depth a<=60/\Q (.v (.bool (neg ^^ bs.any fun b=>PyData.eqv b a))) U
 |_,_=>False
theorem ER{K:PySem.W.Frag}{neg:Bool}:d8 K (LZ K neg) (Eo neg):=by
 intro x y ux uy H U Qd Q ok rx ry h k
 unfold Eo at h
 split at h
 ·rename_i a b
  exact⟨U,a,b,rx,ry,h.1,h.2.1,h.2.2.1,k (.v _) _ U H .refl ok (Rp.bool _) h.2.2.2⟩
 ·exact h.elim
end
section
variable {X:Cx}{a b e:Expr}{es:List Expr}{ta tb te:DTE}{t:DTA}{p pos:Pos}
def bg:D->D->Mu->DK->Prop:=fun x y U Q=>match x,y with
 |.v (.list xs),.v (.int i)=>(match atI xs i with|some d=>Q (.v d) U|none=>False)
 |.v (.tuple xs),.v (.int i)=>(match atI xs i with|some d=>Q (.v d) U|none=>False)
 |.m l,.v (.int i)=>(match U l with
  |some xs=>(match atI xs i with|some d=>Q (.v d) U|none=>False)
  |none=>False)
 |.s ns,.v (.int i)=>(match atI ns i with|some d=>Q (.v (.int d)) U|none=>False)
 |_,_=>False
theorem Ms{K:PySem.W.Frag}:d8 K (rIx K) bg:=by
 intro x y ux uy H U Qd Q ok rx ry h k
 unfold bg at h
 split at h
 ·rename_i xs i
  cases ry
  cases q:atI xs i with
  |none=>rw[q] at h;exact h.elim
  |some d=>
   rw[q] at h
   cases rx with
   |list hs hn r=>
    obtain⟨u,e1,e2⟩:=BB r q
    exact .inl ⟨_,_,i,u,rfl,rfl,SqL.of hs,e1,k (.v d) u U H .refl ok e2 h⟩
 ·rename_i xs i
  cases ry
  cases q:atI xs i with
  |none=>rw[q] at h;exact h.elim
  |some d=>
   rw[q] at h
   cases rx with
   |tuple hs r=>
    obtain⟨u,e1,e2⟩:=BB r q
    exact .inr (.inl ⟨_,_,i,u,rfl,rfl,hs,e1,k (.v d) u U H .refl ok e2 h⟩)
 ·rename_i l i
  cases ry
  obtain⟨rfl,ds,hm⟩:=rx
  rw[hm] at h
  simp only at h
  cases q:atI ds i with
  |none=>rw[q] at h;exact h.elim
  |some d=>
   rw[q] at h
   obtain⟨us,hl,r⟩:=ok l ds hm
   obtain⟨u,e1,e2⟩:=BB r q
   exact .inl ⟨_,_,i,u,rfl,rfl,SqL.of hl,e1,k (.v d) u U H .refl ok e2 h⟩
 ·rename_i ns i
  cases ry
  obtain⟨a,rfl,hs,hn⟩:=rx
  cases q:atI ns i with
  |none=>rw[q] at h;exact h.elim
  |some d=>
   rw[q] at h
   have e1:atI (ns.map V.int) i=some (.int d):=by
    unfold atI at q ⊢
    rw[length_map]
    cases z:ixN ns.length i with
    |none=>rw[z] at q;cases q
    |some j=>
     rw[z] at q
     simp only[bind_some,getElem?_map] at q ⊢
     rw[q]<;>rfl
   exact .inl ⟨_,_,i,_,rfl,rfl,hs,e1,k (.v (.int d)) _ U H .refl ok (Rp.int d) h⟩
 ·exact h.elim
theorem aV(ha:DE X a ta)(hb:DE X b tb)(hs:yM b:=by exact fun _ _=>rfl):DE X (.Subscript a b pos) (dOp bg ta tb):=by
 obtain⟨t1,p1,l1⟩:=ha
 obtain⟨t2,p2,l2⟩:=hb
 exact⟨_,IV KC p1 p2 hs,pR Ms l1 l2⟩
theorem E9{prog:Program}{w:World}{A:Around}{E:Value->Shared->Prop}{s:Shared}{t b:Addr}{ws:List Value}{Q:Value->Shared->Prop}(ht:IsTup s.heap t #[])(hb:IsTup s.heap b ws.toArray)
  (h1:Q (.ref b) s):wpAny (model prog w) A (binaryOp .Add (.ref t) (.ref b)) Q E s:=by
 obtain⟨⟨cls,dd,data,sl⟩,ho,hc,n,hd⟩:=id ht
 obtain⟨⟨cls2,dd2,data2,sl2⟩,ho2,hc2,n2,hd2⟩:=id hb
 simp only at hc hd hc2 hd2
 subst hc hd hc2 hd2
 exact concat_meets ⟨_,ho,rfl⟩ ⟨_,ho2,rfl⟩ noFill_tuple_add seq_tuple_add PySem.F.slot_tuple_add PySem.F.entry_tuple_add (PySem.F.args_tuple_add_2 _ _)
  (tuple_addW0 t b #[] ws.toArray n n2 dd dd2 sl sl2 rfl) ⟨ho,ho2,h1⟩
def oh(U:Mu):D->Option (List PyData)
 |.v (.list xs)=>some xs
 |.m l=>U l
 |_=>none
theorem zE{K:PySem.W.Frag}{U:Mu}{H:Hp}{x:D}{u:V}{xs:List PyData}(ok:bX K U H)(r:RpD K U H x u)(h:oh U x=some xs):∃a us,u = .ref a/\H a=some (.lst us)/\RpL K U H xs us:=by
 cases x with
 |v d=>
  cases d<;>simp only[oh] at h<;>try cases h
  cases r with
  |list hs _ q=>exact⟨_,_,rfl,hs,q⟩
 |m l=>
  obtain⟨rfl,ds,hm⟩:=r
  obtain⟨us,hl,q⟩:=ok l xs h
  exact⟨l,us,rfl,hl,q⟩
 |s ns=>cases h
 |o a=>cases h
 |q P=>cases h
def Ck:D->D->Mu->DK->Prop:=fun x y U Q=>match oh U x,oh U y with
 |some xs,some ys=>xs.length+ys.length<=1000/\Q (.v (.list (xs++ys))) U
 |_,_=>False
theorem Cz{n:Nat}(h:n<=1000):n<=sizeLine:=le_of_lt (fW h)
theorem JX{K:PySem.W.Frag}:d8 K KG Ck:=by
 intro x y ux uy H U Qd Q ok rx ry h k
 unfold Ck at h
 split at h
 ·rename_i xs ys hx hy
  obtain⟨a,us,rfl,ha,ra⟩:=zE ok rx hx
  obtain⟨b,ws,rfl,hb,rb⟩:=zE ok ry hy
  refine⟨a,b,us,ws,rfl,rfl,ha,hb,Cz (by rw[<- ra.length,<- rb.length];exact h.1),fun p hp=>?_⟩
  exact k (.v _) _ U _ (cP hp) (ok.new hp) (gW ok (ra.append rb) hp) h.2
 ·exact h.elim
noncomputable def BU(K:PySem.W.Frag):R2:=fun x y H Q=>∃a b xs ys,x = .ref a/\y = .ref b/\SqT K H a xs/\SqT K H b ys/\xs.length+ys.length<=sizeLine /\
 (xs=[]->Q (.ref b) H)/\(ys=[]->Q (.ref a) H)/\(∀p,H p=none->Q (.ref p) (upd H p (.tup (xs++ys))))
theorem Gh:OpR X (binaryOp .Add) (BU X.K):=by
 intro pins s Y H x y v u Q I rx ry h
 obtain⟨a,b,xs,ys,rfl,rfl,ha,hb,hz,q0,q1,q2⟩:=h
 by_cases hx:xs=[]
 ·subst hx
  cases rx
  cases ry
  obtain⟨its,r1,p1,_⟩:=I.tuple ha
  obtain⟨its2,r2,p2,_⟩:=I.tuple hb
  cases r1
  exact E9 p1 p2 ⟨.ref b,H,I,rfl,q0 rfl⟩
 ·exact G0 pins s Y H _ _ v u Q I rx ry ⟨a,b,xs,ys,rfl,rfl,ha,hb,hx,hz,q1,fun _=>q2⟩
def FI:D->D->Mu->DK->Prop:=fun x y U Q=>match x,y with
 |.v (.tuple xs),.v (.tuple ys)=>xs.length+ys.length<=1000/\Q (.v (.tuple (xs++ys))) U
 |_,_=>False
theorem GW{K:PySem.W.Frag}:d8 K (BU K) FI:=by
 intro x y ux uy H U Qd Q ok rx ry h k
 unfold FI at h
 split at h
 ·rename_i xs ys
  cases id rx with
  |@tuple a us _ ha ra=>
   cases id ry with
   |@tuple b ws _ hb rb=>
    refine⟨a,b,us,ws,rfl,rfl,ha,hb,Cz (by rw[<- ra.length,<- rb.length];exact h.1),fun z=>?_,fun z=>?_,fun p hp=>?_⟩
    ·subst z
     cases ra
     exact k (.v _) _ U H .refl ok ry (by simpa using h.2)
    ·subst z
     cases rb
     exact k (.v _) _ U H .refl ok rx (by simpa using h.2)
    ·exact k (.v _) _ U _ (cP hp) (ok.new hp) (gX ok (ra.append rb) hp) h.2
 ·exact h.elim
end
end L2.DL
namespace HT
open PySem PyProof.Rows
section
variable {prog:Program}{w:World}{A:Around}{E:Value->Shared->Prop}{s:Shared}
theorem oV{t sl:Addr}{items:Array Value}{vl vu:Value}{lo hi:Option Int}{Q:Value->Shared->Prop}(ht:IsTup s.heap t items)(hs:s.heap.IsSliceOf sl vl vu .none)(pl:IsPart vl lo)(pu:IsPart vu hi)
  (hw:sIx items.size 0 lo=0/\sIx items.size items.size hi=items.size) (h:Q (.ref t) s):wpAny (model prog w) A (getItem (.ref t) (.ref sl)) Q E s:=by
 obtain⟨os,hos,hcs,hds⟩:=id hs
 have hTs:s.TypeIs (.ref sl) "slice":=⟨os,hos,hcs⟩
 unfold getItem
 try with_reducible refine wpAny_holding ?_
 first|refine wpAny_bind (wpAny_pure ?_)|skip
 refine wpAny_bind (wpAny_sequenceKey ht.typeIs ⋯ ?_)
 refine wpAny_bind (wpAny_callSpecial?_slot (name:=Str.ofString "__getitem__") ht.typeIs PyProof.Rows.slot_tuple_getitem
  (wpAny_call_entry PyProof.Rows.slot_tuple_getitem ht.typeIs entry_tuple_getitem ?_ (args_tuple_getitem _ _)))
 show wpAny _ _ (Builtin.Tuple.tupleItemsOf (.ref t)>>=_) _ _ s
 refine wpAny_bind (tupleItemsOf_ ht ?_)
 refine wpAny_bind (wpAny_typeOf hTs ?_)
 rw[if_pos ⋯]
 refine wpAny_bind (kK hs pl pu ?_)
 have hno:((((sIx items.size 0 lo:Nat):Int)==0&&(1:Int)==1&&(sIx items.size items.size hi-sIx items.size 0 lo)==items.size)=true):=by
  rw[hw.1,hw.2]
  simp
 show wpAny _ _ (if (((sIx items.size 0 lo:Nat):Int)==0&&(1:Int)==1&&(sIx items.size items.size hi-sIx items.size 0 lo)==items.size)=true then _ else _) _ _ s
 rw[if_pos hno]
 refine wpAny_bind ?_
 unfold Builtin.Tuple.tupleIsExact
 refine wpAny_bind (wpAny_typeOf ht.typeIs (wpAny_pure ?_))
 rw[if_pos ⋯]
 refine wpAny_bind (wpAny_rule ?_)
 exact wpAny_pure ⟨_,rfl,wpAny_pure h⟩
end
end HT
namespace L2.DL
open PySem PySem.Spec PyProof.Rows
section
variable {X:Cx}{a b e:Expr}{lo hi:Option Expr}{ta tb te:DTE}{pos p2:Pos}
def oK{α:Type}(xs:List α)(lo hi:Option Int):List α:=(xs.drop (HT.sIx xs.length 0 lo)).take (HT.sIx xs.length xs.length hi-HT.sIx xs.length 0 lo)
theorem RpL.cut{K:PySem.W.Frag}{U:Mu}{H:Hp}{ds:List PyData}{us:List V}{lo hi:Option Int}(r:RpL K U H ds us):RpL K U H (oK ds lo hi) (yu us lo hi):=by
 unfold oK yu
 rw[r.length]
 exact (r.drop _).take _
theorem G7{α:Type}{xs:List α}{lo hi:Option Int}(h:HT.sIx xs.length 0 lo=0/\HT.sIx xs.length xs.length hi=xs.length):oK xs lo hi=xs:=by
 unfold oK
 rw[h.1,h.2]
 simp
def LG(K:PySem.W.Frag):V->Option Int->Option Int->Hp->VK->Prop:=fun x lo hi H Q=>∃a xs,x = .ref a/\SqT K H a xs /\
 (HT.sIx xs.length 0 lo=0/\HT.sIx xs.length xs.length hi=xs.length->Q (.ref a) H)/\∀p,H p=none->Q (.ref p) (upd H p (.tup (yu xs lo hi)))
theorem Hj:SlR X (LG X.K):=by
 intro pins s Y H x v vl vu lo hi sl Q I rx hs pl pu h
 obtain⟨a,xs,rfl,hx,q1,q⟩:=h
 by_cases hw:HT.sIx xs.length 0 lo=0/\HT.sIx xs.length xs.length hi=xs.length
 ·cases rx
  obtain⟨its,r,ht,hz⟩:=I.tuple hx
  have hlen:its.toArray.size=xs.length:=by rw[size_toArray];exact r.length.symm
  refine⟨"tuple",_,PyProof.Rows.slot_tuple_getitem.lookup,ht.typeIs,?_⟩
  exact HT.oV ht hs pl pu (by rw[hlen];exact hw) ⟨.ref a,H,I,rfl,q1 hw⟩
 ·exact Kr pins s Y H _ v vl vu lo hi sl Q I rx hs pl pu ⟨a,xs,rfl,hx,hw,q⟩
abbrev DTO:=Rho->Mu->(Option Int->Mu->Prop)->Prop
noncomputable def Ma(K:PySem.W.Frag)(t:TO)(td:DTO):Prop:=∀(Y:St) (H:Hp) (ρ:Rho) (U:Mu) (Qd:Option Int->Mu->Prop) (Q:Option Int->Hp->Prop),St0 K H ρ U Y->td ρ U Qd ->
 (∀o Z H',Ext K U H Z H'->St0 K H' ρ Z Y->Qd o Z->Q o H')->t Y H Q
noncomputable def DO(X:Cx)(e:Option Expr)(td:DTO):Prop:=∃t,PO X e t/\Ma X.K t td
noncomputable def nJ:DTO:=fun _ U Q=>Q none U
noncomputable def dO(t:DTE):DTO:=fun ρ U Q=>t ρ U fun x ad=>match x with
 |.v (.int i)=>Q (some i) ad
 |_=>False
theorem sQ:DO X none nJ:=⟨_,GU,fun Y H ρ U Qd Q S h k=>k none U H .refl S h⟩
theorem bS(h:DE X e te):DO X (some e) (dO te):=by
 obtain⟨t1,p1,l1⟩:=h
 refine⟨_,H0 p1,fun Y H ρ U Qd Q S h k=>?_⟩
 refine l1 Y H ρ U _ _ S h fun x ux ad H1 e1 S1 rx h1=>?_
 split at h1
 ·cases rx
  exact⟨_,rfl,k _ ad H1 e1 S1 h1⟩
 ·exact h1.elim
noncomputable def GR(x:D)(lo hi:Option Int)(U:Mu)(Q:DK):Prop:=match x with
 |.v (.tuple xs)=>Q (.v (.tuple (oK xs lo hi))) U
 |.v (.list xs)=>Q (.v (.list (oK xs lo hi))) U
 |.m l=>(match U l with|some xs=>Q (.v (.list (oK xs lo hi))) U|none=>False)
 |_=>False
noncomputable def dSl(te:DTE)(tl th:DTO):DTE:=fun ρ U Q=>te ρ U fun x ad=>tl ρ ad fun l al=>th ρ al fun u bd=>GR x l u bd Q
theorem mQ{tl th:DTO}(he:DE X e te)(hl:DO X lo tl)(hu:DO X hi th):DE X (.Subscript e (.Slice lo hi none p2) pos) (dSl te tl th):=by
 obtain⟨t1,p1,l1⟩:=he
 obtain⟨t2,p2,l2⟩:=hl
 obtain⟨t3,p3,l3⟩:=hu
 refine⟨_,Ag (HD.or Hj) p1 p2 p3,fun Y H ρ U Qd Q S h k=>?_⟩
 refine l1 Y H ρ U _ _ S h fun x ux ad H1 e1 S1 rx h1=>?_
 refine l2 Y H1 ρ ad _ _ S1 h1 fun l al H2 e2 S2 h2=>?_
 refine l3 Y H2 ρ al _ _ S2 h2 fun u bd H3 e3 S3 h3=>?_
 have rx3:=(rx.ext S1.mu e2).ext S2.mu e3
 have ee:=e1.trans (e2.trans e3)
 unfold GR at h3
 split at h3
 ·rename_i xs
  cases id rx3 with
  |@tuple a us _ ha ra=>
   refine .inr ⟨a,us,rfl,ha,fun hw=>?_,fun p hp=>?_⟩
   ·refine k (.v _) _ bd H3 ee S3 (show Rp _ _ _ (.tuple (oK xs l u)) _ from ?_) h3
    rw[G7 (by rw[ra.length];exact hw)]
    exact rx3
   ·exact k (.v _) _ bd _ (ee.trans (cP hp)) (S3.new hp) (gX S3.mu ra.cut hp) h3
 ·rename_i xs
  cases id rx3 with
  |@list a us _ ha hn ra=>exact .inl ⟨a,us,rfl,SqL.of ha,fun p hp=>k (.v _) _ bd _ (ee.trans (cP hp)) (S3.new hp) (gW S3.mu ra.cut hp) h3⟩
 ·rename_i a
  obtain⟨rfl,ds,hm⟩:=rx3
  rw[hm] at h3
  obtain⟨us,ha,ra⟩:=S3.mu a ds hm
  exact .inl ⟨a,us,rfl,SqL.of ha,fun p hp=>k (.v _) _ bd _ (ee.trans (cP hp)) (S3.new hp) (gW S3.mu ra.cut hp) h3⟩
 ·exact h3.elim
end
section
variable {X:Cx}{a b e:Expr}{es:List Expr}{ta tb te:DTE}{t:DTA}{p pos:Pos}{x:Str}{bid T:String}
noncomputable def jd(K:PySem.W.Frag)(r:List V->Hp->VK->Prop)(rd:List D->Mu->DK->Prop):Prop:=∀(xs:List D) (us:List V) (H:Hp) (U:Mu) (Qd:DK) (Q:VK),bX K U H->jL K U H xs us->rd xs U Qd ->
 (∀d u Z H',Ext K U H Z H'->bX K Z H'->RpD K Z H' d u->Qd d Z->Q u H')->r us H Q
noncomputable def dCB(rd:List D->Mu->DK->Prop)(t:DTA):DTE:=fun ρ U Q=>t ρ U fun ds ad=>rd ds ad Q
theorem CD{K:PySem.W.Frag}{n:Nat}{r:List V->Hp->VK->Prop}{rd:List D->Mu->DK->Prop}{t1:TA}(lc:jd K r rd)(l1:IM K n t1 t):oU K (tCB r t1) (dCB rd t):=by
 intro Y H ρ U Qd Q S h k
 refine l1 Y H ρ U _ _ S h fun xs us ad H1 e1 S1 rs len h1=>?_
 exact lc xs us H1 ad _ _ S1.mu rs h1 fun d u Z H' e2 ok r q=>k d u Z H' (e1.trans e2) ⟨ok,S1.rho.ext S1.mu e2⟩ r q
theorem gw{r:List V->Hp->VK->Prop}{rd:List D->Mu->DK->Prop}(hc:fU X (.builtin bid) r)(lc:jd X.K r rd)(hg:Gl X x)(hm:X.mg x=none)(hv:bootBuiltins x=some (.builtin bid))(ha:DA X (e::es) t)(hn:x ≠ "__name__":=by decide)(hdb:(x==("__debug__":Str))=false:=by decide)
  (he:starEach (e::es) X.env=(false,eval e X.env)::starEach es X.env:=by rfl) (hpl:(backTo pos (starEach es X.env)).any (·.1)=false:=by rfl):DE X (.Call (.Name x p) (e::es) [] pos) (dCB rd t):=by
 obtain⟨t1,p1,l1⟩:=ha
 exact⟨_,qu hc hg hm hv p1 hn hdb he hpl,CD lc l1⟩
theorem kB{r:List V->Hp->VK->Prop}{rd:List D->Mu->DK->Prop}(hc:fU X (.type T) r)(lc:jd X.K r rd)(hg:Gl X x)(hm:X.mg x=none)(hv:bootBuiltins x=some (.type T))(ha:DA X (e::es) t)(hn:x ≠ "__name__":=by decide)(hdb:(x==("__debug__":Str))=false:=by decide)
  (he:starEach (e::es) X.env=(false,eval e X.env)::starEach es X.env:=by rfl) (hpl:(backTo pos (starEach es X.env)).any (·.1)=false:=by rfl):DE X (.Call (.Name x p) (e::es) [] pos) (dCB rd t):=by
 obtain⟨t1,p1,l1⟩:=ha
 exact⟨_,DY hc hg hm hv p1 hn hdb he hpl,CD lc l1⟩
def cC:List D->Mu->DK->Prop:=fun xs U Q=>match xs with
 |[.v (.list ys)]=>Q (.v (.int (ys.length:Nat))) U
 |[.v (.tuple ys)]=>Q (.v (.int (ys.length:Nat))) U
 |[.m l]=>(match U l with|some ys=>Q (.v (.int (ys.length:Nat))) U|none=>False)
 |[.s ns]=>Q (.v (.int (ns.length:Nat))) U
 |_=>False
theorem JJ{K:PySem.W.Frag}:jd K (fun xs H Q=>∃p ys,xs=[.ref p]/\(SqL K H p ys\/SqT K H p ys)/\Q (.int ys.length) H) cC:=by
 intro xs us H U Qd Q ok rs h k
 unfold cC at h
 split at h
 ·cases rs with
  |cons r1 r2=>
   cases r2
   cases r1 with
   |list hs hn r=>exact⟨_,_,rfl,.inl (SqL.of hs),k (.v _) _ U H .refl ok (by rw[<- r.length];exact Rp.int _) h⟩
 ·cases rs with
  |cons r1 r2=>
   cases r2
   cases r1 with
   |tuple hs r=>exact⟨_,_,rfl,.inr hs,k (.v _) _ U H .refl ok (by rw[<- r.length];exact Rp.int _) h⟩
 ·cases rs with
  |cons r1 r2=>
   cases r2
   obtain⟨rfl,ds,hm⟩:=r1
   rw[hm] at h
   obtain⟨us,hl,r⟩:=ok _ ds hm
   exact⟨_,_,rfl,.inl (SqL.of hl),k (.v _) _ U H .refl ok (by rw[<- r.length];exact Rp.int _) h⟩
 ·cases rs with
  |cons r1 r2=>
   cases r2
   obtain⟨a,rfl,hs,hn⟩:=r1
   exact⟨_,_,rfl,.inl hs,k (.v _) _ U H .refl ok (by rw[length_map];exact Rp.int _) h⟩
 ·exact h.elim
theorem dH(hg:Gl X "len")(hm:X.mg "len"=none)(ha:DA X (e::es) t)
  (he:starEach (e::es) X.env=(false,eval e X.env)::starEach es X.env:=by rfl) (hpl:(backTo pos (starEach es X.env)).any (·.1)=false:=by rfl):DE X (.Call (.Name "len" p) (e::es) [] pos) (dCB cC t):=
 gw xN JJ hg hm PySem.boot_len ha ⋯ ⋯ he hpl
def uK:List D->Mu->DK->Prop:=fun xs U Q=>match xs with
 |[.v (.int i)]=>Q (.v (.int (i.natAbs:Nat))) U
 |_=>False
theorem JZ{K:PySem.W.Frag}:jd K (fun xs H Q=>∃i,xs=[.int i]/\Q (.int (if i<0 then -i else i)) H) uK:=by
 intro xs us H U Qd Q ok rs h k
 unfold uK at h
 split at h
 ·rename_i i
  cases rs with
  |cons r1 r2=>
   cases r2
   cases r1
   refine⟨i,rfl,k (.v (.int (i.natAbs:Nat))) _ U H .refl ok ?_ h⟩
   have:(if i<0 then -i else i)=((i.natAbs:Nat):Int):=by split<;>omega
   rw[this]
   exact Rp.int _
 ·exact h.elim
theorem By(hg:Gl X "abs")(hm:X.mg "abs"=none)(ha:DA X (e::es) t)
  (he:starEach (e::es) X.env=(false,eval e X.env)::starEach es X.env:=by rfl) (hpl:(backTo pos (starEach es X.env)).any (·.1)=false:=by rfl):DE X (.Call (.Name "abs" p) (e::es) [] pos) (dCB uK t):=
 gw Fe JZ hg hm PyProof.Rows.Boot.«abs» ha ⋯ ⋯ he hpl
def zV(g:Int->Int->Int):List D->Mu->DK->Prop:=fun xs U Q=>match xs with
 |[.v (.int i),.v (.int j)]=>Q (.v (.int (g i j))) U
 |_=>False
theorem IC{K:PySem.W.Frag}{g g':Int->Int->Int}(hg:∀i j,g i j=g' i j):jd K (fun xs H Q=>∃i j,xs=[.int i,.int j]/\Q (.int (g i j)) H) (zV g'):=by
 intro xs us H U Qd Q ok rs h k
 unfold zV at h
 split at h
 ·rename_i i j
  cases rs with
  |cons r1 r2=>
   cases r2 with
   |cons r2 r3=>
    cases r3
    cases r1
    cases r2
    exact⟨i,j,rfl,k (.v _) _ U H .refl ok (by rw[hg];exact Rp.int _) h⟩
 ·exact h.elim
theorem Lg(hc:X.calm=true)(hg:Gl X "max")(hm:X.mg "max"=none)(ha:DA X (e::es) t)
  (he:starEach (e::es) X.env=(false,eval e X.env)::starEach es X.env:=by rfl) (hpl:(backTo pos (starEach es X.env)).any (·.1)=false:=by rfl):DE X (.Call (.Name "max" p) (e::es) [] pos) (dCB (zV max) t):=
 gw (Ea hc) (IC (fun i j=>by show (if j>i then j else i)=max i j;simp only[Int.max_def];split<;>split<;>omega)) hg hm PyProof.Rows.Boot.«max» ha ⋯ ⋯ he hpl
theorem EB(hc:X.calm=true)(hg:Gl X "min")(hm:X.mg "min"=none)(ha:DA X (e::es) t)
  (he:starEach (e::es) X.env=(false,eval e X.env)::starEach es X.env:=by rfl) (hpl:(backTo pos (starEach es X.env)).any (·.1)=false:=by rfl):DE X (.Call (.Name "min" p) (e::es) [] pos) (dCB (zV min) t):=
 gw (DM hc) (IC (fun i j=>by show (if j<i then j else i)=min i j;simp only[Int.min_def];split<;>split<;>omega)) hg hm PyProof.Rows.Boot.«min» ha ⋯ ⋯ he hpl
def tH:List D->Mu->DK->Prop:=fun xs U Q=>match xs with
 |[.v (.int i)]=>Q (.v (.int i)) U
 |[.v (.bool k)]=>Q (.v (.int (if k then 1 else 0))) U
 |_=>False
theorem Lq{K:PySem.W.Frag}:jd K (fun xs H Q=>(∃i,xs=[.int i]/\Q (.int i) H)\/∃k,xs=[.bl k]/\Q (.int (if k then 1 else 0)) H) tH:=by
 intro xs us H U Qd Q ok rs h k
 unfold tH at h
 split at h
 ·rename_i i
  cases rs with
  |cons r1 r2=>cases r2;cases r1;exact .inl ⟨i,rfl,k (.v _) _ U H .refl ok (Rp.int _) h⟩
 ·rename_i b
  cases rs with
  |cons r1 r2=>cases r2;cases r1;exact .inr ⟨b,rfl,k (.v _) _ U H .refl ok (Rp.int _) h⟩
 ·exact h.elim
theorem tL(hg:Gl X "int")(hm:X.mg "int"=none)(ha:DA X (e::es) t)
  (he:starEach (e::es) X.env=(false,eval e X.env)::starEach es X.env:=by rfl) (hpl:(backTo pos (starEach es X.env)).any (·.1)=false:=by rfl):DE X (.Call (.Name "int" p) (e::es) [] pos) (dCB tH t):=
 kB D6 Lq hg hm PyProof.Rows.Boot.«int» ha ⋯ ⋯ he hpl
def oH:List D->Mu->DK->Prop:=fun xs U Q=>match xs with
 |[.v (.list ys)]=>Q (.v (.list ys)) U
 |[.v (.tuple ys)]=>Q (.v (.list ys)) U
 |_=>False
theorem HW{K:PySem.W.Frag}:jd K (fun xs H Q=>∃p ys,xs=[.ref p]/\(SqL K H p ys\/SqT K H p ys)/\∀l,H l=none->Q (.ref l) (upd H l (.lst ys))) oH:=by
 intro xs us H U Qd Q ok rs h k
 unfold oH at h
 split at h
 ·cases rs with
  |cons r1 r2=>
   cases r2
   cases r1 with
   |list hs hn r=>exact⟨_,_,rfl,.inl (SqL.of hs),fun p hp=>k (.v _) _ U _ (cP hp) (ok.new hp) (gW ok r hp) h⟩
 ·cases rs with
  |cons r1 r2=>
   cases r2
   cases r1 with
   |tuple hs r=>exact⟨_,_,rfl,.inr hs,fun p hp=>k (.v _) _ U _ (cP hp) (ok.new hp) (gW ok r hp) h⟩
 ·exact h.elim
theorem xr(hg:Gl X "list")(hm:X.mg "list"=none)(ha:DA X (e::es) t)
  (he:starEach (e::es) X.env=(false,eval e X.env)::starEach es X.env:=by rfl) (hpl:(backTo pos (starEach es X.env)).any (·.1)=false:=by rfl):DE X (.Call (.Name "list" p) (e::es) [] pos) (dCB oH t):=
 kB yN HW hg hm PyProof.Rows.Boot.«list» ha ⋯ ⋯ he hpl
theorem zh:∀{bs:List Bool} {us:List Value},Vals (bs.map V.bl) us->us=bs.map Value.bool
 |[],_,.nil=>rfl
 |b::r,_,.cons h t=>by cases h;rw[zh t];rfl
theorem DV(hc:X.calm=true):fU X (.builtin "all") (fun xs H Q=>∃(p:Addr) (bs:List Bool),xs=[.ref p]/\H p=some (.lst (bs.map V.bl))/\Q (.bl (bs.all id)) H):=by
 intro pins s Y H xs us Q I r h
 obtain⟨l,bs,rfl,hl,q⟩:=h
 obtain⟨u,rfl,rx⟩:=vals1 r
 cases rx
 obtain⟨its,rv,pl,_⟩:=I.list (SqL.of hl)
 have eb:=zh rv
 subst eb
 have hL:=pl.isList
 have hlt:=pl.lt
 refine call_all_walk (wpAny_pyIter_list hL ?_)
 refine⟨s.heap.objs.size,[s.heap.objs.size,l],[s.heap.objs.size],(bs.map Value.bool).toArray.size,_,_,fun i=>(bs[i]?).getD true,rfl,Walks.list (A:=X.A.in1) (by exact I.ok.hd hc) _ l (ne_of_lt hlt) (bs.map Value.bool).toArray,
  ⟨⟨_,Heap.get?_push_size _ rfl,rfl,rfl⟩,hL.push _⟩,fun i v s' Q' E' hP hQ=>?_,fun h' tk hk=>?_⟩
 ·have hP':(bs.map Value.bool)[i]? = some v:=by simpa using hP
  rw[getElem?_map] at hP'
  cases z:bs[i]? with
  |none=>rw[z] at hP';cases hP'
  |some b=>
   rw[z] at hP'
   cases hP'
   simp only[z,Option.getD_some] at hQ
   exact wpAny_truthy_bool hQ
 ·have e:((List.range (bs.map Value.bool).toArray.size).all fun i=>(bs[i]?).getD true)=bs.all id:=by
   rw[size_toArray,length_map];exact PyProof.Rows.LSm.range_all bs
  rw[e]
  exact⟨.bl (bs.all id),H,I.kept (PyProof.Rows.LSm.kept_iter hk),rfl,q⟩
def dz:List PyData->Option (List Bool)
 |[]=>some []
 |.bool b::r=>(dz r).map (b::·)
 |_::_=>none
theorem uC{K:PySem.W.Frag}{U:Mu}{H:Hp}:∀{xs:List PyData} {us:List V} {bs:List Bool},RpL K U H xs us->dz xs=some bs->us=bs.map V.bl
 |_,_,_,.nil,e=>by cases e;rfl
 |.bool b::r,_,bs,.cons h t,e=>by
  simp only[dz] at e
  cases q:dz r with
  |none=>rw[q] at e;cases e
  |some cs=>rw[q] at e;cases e;cases h;rw[uC t q];rfl
 |.none::r,_,bs,.cons h t,e=>by simp[dz] at e
 |.int _::r,_,bs,.cons h t,e=>by simp[dz] at e
 |.str _::r,_,bs,.cons h t,e=>by simp[dz] at e
 |.list _::r,_,bs,.cons h t,e=>by simp[dz] at e
 |.tuple _::r,_,bs,.cons h t,e=>by simp[dz] at e
 |.dict _::r,_,bs,.cons h t,e=>by simp[dz] at e
def uJ:List D->Mu->DK->Prop:=fun xs U Q=>match xs with
 |[.v (.list ys)]=>(match dz ys with|some bs=>Q (.v (.bool (bs.all id))) U|none=>False)
 |_=>False
theorem Ji{K:PySem.W.Frag}:jd K (fun xs H Q=>∃(p:Addr) (bs:List Bool),xs=[.ref p]/\H p=some (.lst (bs.map V.bl))/\Q (.bl (bs.all id)) H) uJ:=by
 intro xs us H U Qd Q ok rs h k
 unfold uJ at h
 split at h
 ·rename_i ys
  cases q:dz ys with
  |none=>rw[q] at h;exact h.elim
  |some bs=>
   rw[q] at h
   cases rs with
   |cons r1 r2=>
    cases r2
    cases r1 with
    |list hs hn r=>exact⟨_,bs,rfl,by rw[hs,uC r q],k (.v _) _ U H .refl ok (Rp.bool _) h⟩
 ·exact h.elim
theorem Bo(hc:X.calm=true)(hg:Gl X "all")(hm:X.mg "all"=none)(ha:DA X (e::es) t)
  (he:starEach (e::es) X.env=(false,eval e X.env)::starEach es X.env:=by rfl) (hpl:(backTo pos (starEach es X.env)).any (·.1)=false:=by rfl):DE X (.Call (.Name "all" p) (e::es) [] pos) (dCB uJ t):=
 gw (DV hc) Ji hg hm PyProof.Rows.Boot.«all» ha ⋯ ⋯ he hpl
def tyD:PyData->String
 |.none=>"NoneType"
 |.bool _=>"bool"
 |.int _=>"int"
 |.str _=>"str"
 |.list _=>"list"
 |.tuple _=>"tuple"
 |.dict _=>"dict"
def isT(T:String)(d:PyData):Bool:=tyD d==T || (T == "int"&&tyD d == "bool")
theorem Dw{pins:List (Addr×Obj)}{Y:St}{H:Hp}{s:Shared}{U:Mu}{d:PyData}{u:V}{v:Value}{k:Bool}{A:Around}{E:Value->Shared->Prop}{Q:Value->Shared->Prop}(I:Inv X pins Y H s)(r:Rp X.K U H d u)(rx:RelV u v)
  (ek:kitOne X.K (.type (tyD d)) (.type T)=some k) (h:∀tk,Q (.bool k) {s with toks:=tk}):wpAny (model X.prog X.w) A (call (.builtin "isinstance") [v,.type T]) Q E s:=by
 cases r with
 |none=>cases rx;exact kia_one PySem.W.kitx_none I.kIn True.intro ek (fun z=>nomatch z) h
 |bool b=>cases rx;exact kia_one PySem.W.kitx_bool I.kIn True.intro ek (fun z=>nomatch z) h
 |int i=>obtain⟨t,rfl⟩:=rx;exact kia_one PySem.W.kitx_int I.kIn True.intro ek (fun z=>nomatch z) h
 |str y=>obtain⟨t,rfl⟩:=rx;exact kia_one PySem.W.kitx_str I.kIn True.intro ek (fun z=>nomatch z) h
 |list hs hn q=>
  cases rx
  obtain⟨its,rv,⟨o,n,h1,h2,_⟩,_⟩:=I.list (SqL.of hs)
  exact kia_one PySem.W.kitx_list I.kIn ⟨o,h1,h2⟩ ek (fun z=>nomatch z) h
 |tuple hs q=>
  cases rx
  obtain⟨its,rv,⟨o,h1,h2,_⟩,_⟩:=I.tuple hs
  exact kia_one PySem.W.kitx_tuple I.kIn ⟨o,h1,h2⟩ ek (fun z=>nomatch z) h
theorem CW(K:PySem.W.Frag)(d:PyData):kitOne K (.type (tyD d)) (.type "int")=some (isT "int" d):=by cases d<;>rfl
theorem Aa(K:PySem.W.Frag)(d:PyData):kitOne K (.type (tyD d)) (.type "bool")=some (isT "bool" d):=by cases d<;>rfl
theorem kit_tuple(K:PySem.W.Frag)(d:PyData):kitOne K (.type (tyD d)) (.type "tuple")=some (isT "tuple" d):=by cases d<;>rfl
theorem xk(K:PySem.W.Frag)(d:PyData):kitOne K (.type (tyD d)) (.type "str")=some (isT "str" d):=by cases d<;>rfl
theorem zQ(kt:∀d,kitOne X.K (.type (tyD d)) (.type T)=some (isT T d)):fU X (.builtin "isinstance") (fun xs H Q=>∃U d u,xs=[u,.ty T]/\Rp X.K U H d u/\Q (.bl (isT T d)) H):=by
 intro pins s Y H xs us Q I r h
 obtain⟨U,d,u,rfl,rd,q⟩:=h
 obtain⟨v,w',rfl,r1,r2⟩:=vals2 r
 cases r2
 exact Dw I rd r1 (kt d) fun tk=>⟨.bl (isT T d),H,I.tok _,rfl,q⟩
noncomputable def vi(T:String)(te:DTE):DTE:=fun ρ U Q=>te ρ U fun x ad=>match x with
 |.v d=>Q (.v (.bool (isT T d))) ad
 |_=>False
theorem jr{y:Str}{py:Pos}(kt:∀d,kitOne X.K (.type (tyD d)) (.type T)=some (isT T d))(hg:Gl X "isinstance")(hm:X.mg "isinstance"=none)(hgy:Gl X y)(hmy:X.mg y=none)(hvy:bootBuiltins y=some (.type T))(ha:DE X e te)
  (hny:y ≠ "__name__":=by decide) (hdy:(y==("__debug__":Str))=false:=by decide)
  (he:starEach [e,.Name y py] X.env=(false,eval e X.env)::starEach [.Name y py] X.env:=by rfl) (he2:starEach [.Name y py] X.env=[(false,eval (.Name y py) X.env)]:=by rfl) (hpl:(backTo pos (starEach [.Name y py] X.env)).any (·.1)=false:=by rfl):DE X (.Call (.Name "isinstance" p) [e,.Name y py] [] pos) (vi T te):=by
 obtain⟨t1,p1,l1⟩:=ha
 refine⟨_,qu (zQ kt) hg hm PyProof.Rows.Boot.«isinstance» (dP p1 (dP (CO (v:=.ty T) hgy hmy hvy rfl hny hdy) kg he2) he) ⋯ ⋯ he hpl,fun Y H ρ U Qd Q S h k=>?_⟩
 refine l1 Y H ρ U _ _ S h fun x ux ad H1 e1 S1 rx h1=>?_
 split at h1
 ·exact⟨ad,_,ux,rfl,rx,k (.v _) _ ad H1 e1 S1 (Rp.bool _) h1⟩
 ·exact h1.elim
end
section
variable {X:Cx}{a b e:Expr}{es:List Expr}{ta tb te:DTE}{t:DTA}{p pos:Pos}{st:Stmt}{rest sts:List Stmt}{td ud:DTS}{tc:DTT}
noncomputable def br:DTS:=fun Dd ρ U=>Dd.nx ρ U
noncomputable def aM(t u:DTS):DTS:=fun Dd ρ U=>t {Dd with nx:=u Dd} ρ U
noncomputable def bG(te:DTE):DTS:=fun Dd ρ U=>te ρ U Dd.rt
noncomputable def mK(te:DTE):DTS:=fun Dd ρ U=>te ρ U fun _ ad=>Dd.nx ρ ad
noncomputable def bN(c:DTT)(t u:DTS):DTS:=fun Dd ρ U=>c ρ U fun b ad=>if b=true then t Dd ρ ad else u Dd ρ ad
theorem aH:DSs X [] br:=⟨_,C1,fun Y H ρ U Dd De S h k1 k2 k3 k4=>k1 Y ρ U H .refl S h⟩
theorem ar(h:DS X st td):DSs X [st] td:=let ⟨t,p,l⟩:=h;⟨t,Ik p,l⟩
theorem lift_seq{K:PySem.W.Frag}{t u:TS}(l1:wV K t td)(l2:wV K u ud):wV K (LL t u) (aM td ud):=by
 intro Y H ρ U Dd De S h k1 k2 k3 k4
 refine l1 Y H ρ U _ _ S h (fun ap am Z H' e' S' h'=>?_) k2 k3 k4
 exact l2 ap H' am Z Dd De S' h' (fun a b c d e2=>k1 a b c d (e'.trans e2)) (fun a b c d e2=>k2 a b c d (e'.trans e2)) (fun a b c d e2=>k3 a b c d (e'.trans e2)) (fun a b c d e2=>k4 a b c d (e'.trans e2))
theorem ai(h1:DS X st td)(h2:DSs X rest ud):DSs X (st::rest) (aM td ud):=by
 obtain⟨t1,p1,l1⟩:=h1
 obtain⟨t2,p2,l2⟩:=h2
 exact⟨_,oQ p1 p2,lift_seq l1 l2⟩
theorem aI(he:DE X e te):DS X (.Return (some e) pos) (bG te):=by
 obtain⟨t1,p1,l1⟩:=he
 exact⟨_,Ba p1,fun Y H ρ U Dd De S h k1 k2 k3 k4=>l1 Y H ρ U _ _ S h fun d u Z H' e' S' r q=>k2 d u Z H' e' S'.mu r q⟩
theorem jh(he:DE X e te)(hs:swapsWith e none pos.line X.env=pure false:=by rfl):DS X (.Expr e pos) (mK te):=by
 obtain⟨t1,p1,l1⟩:=he
 exact⟨_,CN p1 hs,fun Y H ρ U Dd De S h k1 k2 k3 k4=>l1 Y H ρ U _ _ S h fun d u Z H' e' S' r q=>k1 Y ρ Z H' e' S' q⟩
theorem bo{c:Expr}{x y:List Stmt}(hc:DT X c tc)(ha:DSs X x td)(hb:DSs X y ud):DS X (.If c x y pos) (bN tc td ud):=by
 obtain⟨t0,p0,l0⟩:=hc
 obtain⟨t1,p1,l1⟩:=ha
 obtain⟨t2,p2,l2⟩:=hb
 refine⟨_,IK p0 p1 p2,fun Y H ρ U Dd De S h k1 k2 k3 k4=>?_⟩
 refine l0 Y H ρ U _ _ S h fun c ad H1 e1 S1 h1=>?_
 cases c with
 |true=>exact sI (l1 Y H1 ρ ad Dd De S1 (by simpa using h1) (fun a b c d e2=>k1 a b c d (e1.trans e2)) (fun a b c d e2=>k2 a b c d (e1.trans e2)) (fun a b c d e2=>k3 a b c d (e1.trans e2)) (fun a b c d e2=>k4 a b c d (e1.trans e2)))
 |false=>exact sr (l2 Y H1 ρ ad Dd De S1 (by simpa using h1) (fun a b c d e2=>k1 a b c d (e1.trans e2)) (fun a b c d e2=>k2 a b c d (e1.trans e2)) (fun a b c d e2=>k3 a b c d (e1.trans e2)) (fun a b c d e2=>k4 a b c d (e1.trans e2)))
abbrev DTG:=D->Rho->Mu->(Rho->Mu->Prop)->Prop
abbrev vZ:=List PyData->Rho->Mu->(Rho->Mu->Prop)->Prop
noncomputable def GO(K:PySem.W.Frag)(g:TG)(gd:DTG):Prop:=∀(Y:St) (H:Hp) (ρ:Rho) (U:Mu) (d:D) (u:V) (Qd:Rho->Mu->Prop) (Q:St->Hp->Prop),St0 K H ρ U Y->RpD K U H d u->gd d ρ U Qd ->
 (∀ap am Z H',Ext K U H Z H'->St0 K H' am Z ap->Qd am Z->Q ap H')->g u Y H Q
noncomputable def KR(K:PySem.W.Frag)(g:TGs)(gd:vZ):Prop:=∀(Y:St) (H:Hp) (ρ:Rho) (U:Mu) (ds:List PyData) (us:List V) (Qd:Rho->Mu->Prop) (Q:St->Hp->Prop),St0 K H ρ U Y->RpL K U H ds us->gd ds ρ U Qd ->
 (∀ap am Z H',Ext K U H Z H'->St0 K H' am Z ap->Qd am Z->Q ap H')->g us Y H Q
noncomputable def DG(X:Cx)(tg:Expr)(gd:DTG):Prop:=∃g,PG X tg g/\GO X.K g gd
noncomputable def DGs(X:Cx)(tg:List Expr)(gd:vZ):Prop:=∃g,PGs X tg g/\KR X.K g gd
theorem iM.set{K:PySem.W.Frag}{U:Mu}{H:Hp}{ρ:Rho}{Y:St}{i:Nat}{d:D}{u:V}(r:iM K U H ρ Y)(h:RpD K U H d u):iM K U H (ρ.set i (some d)) (Y.set i (some u)):=by
 refine⟨by rw[List.length_set,List.length_set];exact r.1,fun j d' e=>?_⟩
 by_cases hj:i=j
 ·subst hj
  have hl:i<ρ.length:=by
   have:=(List.getElem?_eq_some_iff.mp e).1
   rw[List.length_set] at this
   exact this
  rw[List.getElem?_set_self hl] at e
  cases e
  exact⟨u,List.getElem?_set_self (by rw[<- r.1];exact hl),h⟩
 ·rw[List.getElem?_set_ne hj] at e
  obtain⟨w,e1,e2⟩:=r.2 j d' e
  exact⟨w,by rw[List.getElem?_set_ne hj];exact e1,e2⟩
noncomputable def ao(i:Nat):DTG:=fun d ρ U Q=>Q (ρ.set i (some d)) U
theorem u3{K:PySem.W.Frag}{i:Nat}:GO K (Fb i) (ao i):=fun Y H ρ U d u Qd Q S r h k=>k _ _ U H .refl ⟨S.mu,S.rho.set r⟩ h
theorem aG{i:Nat}{x:Str}(hN:X.N.Nodup)(hi:X.N[i]? = some x)(hx:Loc X.env.scope x)(hf:X.fn x=true\/X.env.scope.names.lookup x=some .local:=by first|exact .inl rfl|exact .inr rfl|assumption):DG X (.Name x pos) (ao i):=⟨_,Iu hN hi hx hf,u3⟩
def fg:vZ:=fun ds ρ U Q=>match ds with
 |[]=>Q ρ U
 |_=>False
def bc(g:DTG)(gs:vZ):vZ:=fun ds ρ U Q=>match ds with
 |d::r=>g (.v d) ρ U fun nn ad=>gs r nn ad Q
 |_=>False
theorem cg:DGs X [] fg:=⟨_,HR,fun Y H ρ U ds us Qd Q S r h k=>by
 cases r with
 |nil=>exact⟨rfl,k Y ρ U H .refl S h⟩
 |cons _ _=>exact h.elim⟩
theorem aJ{g:DTG}{gs:vZ}(h1:DG X e g)(h2:DGs X es gs)(hs:(assignEach (e::es) X.env).map (·.2)=assign e X.env::(assignEach es X.env).map (·.2):=by rfl):DGs X (e::es) (bc g gs):=by
 obtain⟨t1,p1,l1⟩:=h1
 obtain⟨t2,p2,l2⟩:=h2
 refine⟨_,E6 p1 p2 hs,fun Y H ρ U ds us Qd Q S r h k=>?_⟩
 cases r with
 |nil=>exact h.elim
 |@cons d u ds us r1 r2=>
  refine⟨u,us,rfl,l1 Y H ρ U (.v d) u _ _ S r1 h fun ap am Z H' e1 S' h1=>?_⟩
  exact l2 ap H' am Z ds us _ _ S' (r2.ext S.mu e1) h1 fun a b c d e2=>k a b c d (e1.trans e2)
noncomputable def eD(n:Nat)(gs:vZ):DTG:=fun d ρ U Q=>match d with
 |.v (.tuple xs)=>xs.length=n/\gs xs ρ U Q
 |_=>False
theorem dw{k n:Nat}{gs:vZ}(hc:X.calm=X.calm)(h:DGs X es gs)
  (hn:(assignEach es X.env).length=n:=by rfl) (hst:(assignEach es X.env).findIdx? (·.1)=none:=by rfl):DG X (.Tuple es k pos) (eD n gs):=by
 obtain⟨t1,p1,l1⟩:=h
 refine⟨_,JD hc p1 hn hst,fun Y H ρ U d u Qd Q S r h k=>?_⟩
 unfold eD at h
 split at h
 ·cases r with
  |@tuple a us _ ha ra=>exact⟨a,us,rfl,ha,by rw[<- ra.length];exact h.1,l1 Y H ρ U _ us _ _ S ra h.2 k⟩
 ·exact h.elim
noncomputable def Dh(to ti:DTE):DTG:=fun d ρ U Q=>to ρ U fun o ad=>ti ρ ad fun i al=>match o,i,d with
 |.m l,.v (.int k),.v x=>(match al l with
  |some xs=>(match ixN xs.length k with
   |some j=>Q ρ (aF al l (xs.set j x))
   |none=>False)
  |none=>False)
 |_,_,_=>False
theorem Fz{o i:Expr}{to ti:DTE}(ho:DE X o to)(hi:DE X i ti)
  (ha:∀v,assign (.Subscript o i pos) X.env v=(do
   let ov <- holding [v] (eval o X.env)
   let iv <- holding [v,ov] (eval i X.env)
   standAt pos
   holding [v,ov,iv] (setItem ov iv v)
   release [v,ov,iv] []):=by intro _;rfl):DG X (.Subscript o i pos) (Dh to ti):=by
 obtain⟨t1,p1,l1⟩:=ho
 obtain⟨t2,p2,l2⟩:=hi
 refine⟨_,Lh p1 p2 set_list ha,fun Y H ρ U d u Qd Q S r h k=>?_⟩
 refine l1 Y H ρ U _ _ S h fun x ux ad H1 e1 S1 rx h1=>?_
 refine l2 Y H1 ρ ad _ _ S1 h1 fun y uy al H2 e2 S2 ry h2=>?_
 have r2:=(r.ext S.mu e1).ext S1.mu e2
 have rx2:=rx.ext S1.mu e2
 split at h2
 ·rename_i l kk xv
  obtain⟨rfl,ds,hm⟩:=rx2
  cases ry
  rw[hm] at h2
  obtain⟨us,hl,rl⟩:=S2.mu l ds hm
  simp only at h2
  cases q:ixN ds.length kk with
  |none=>rw[q] at h2;exact h2.elim
  |some j=>
   rw[q] at h2
   refine⟨l,us,kk,j,rfl,rfl,hl,by rw[<- rl.length];exact q,?_⟩
   have ex:Ext X.K al H2 (aF al l (ds.set j xv)) (upd H2 l (.lst (us.set j u))):=jl hm
   exact k Y ρ _ _ (e1.trans (e2.trans ex)) ⟨S2.mu.set hm (rl.set r2 j),S2.rho.ext S2.mu ex⟩ h2
 ·exact h2.elim
noncomputable def bt(te:DTE)(g:DTG):DTS:=fun Dd ρ U=>te ρ U fun d ad=>g d ρ ad Dd.nx
theorem Ar{K:PySem.W.Frag}{t:TE}{g:TG}{gd:DTG}(l1:oU K t te)(l2:GO K g gd):wV K (IX t g) (bt te gd):=by
 intro Y H ρ U Dd De S h k1 k2 k3 k4
 refine l1 Y H ρ U _ _ S h fun d u ad H1 e1 S1 r h1=>?_
 exact l2 Y H1 ρ ad d u _ _ S1 r h1 fun a b c d e2=>k1 a b c d (e1.trans e2)
theorem iu{tg:Expr}{g:DTG}(he:DE X e te)(hg:DG X tg g)(hs:swapsWithSole [tg] e pos.line X.env=pure false:=by rfl)(hw:swappedStores [tg] e X.env=pure none:=by rfl)
  (h1:(assignEach [tg] X.env).map (·.2)=[assign tg X.env]:=by rfl):DS X (.Assign [tg] e pos) (bt te g):=by
 obtain⟨t1,p1,l1⟩:=he
 obtain⟨t2,p2,l2⟩:=hg
 exact⟨_,FJ p1 p2 hs hw h1,Ar l1 l2⟩
theorem aQ{i:Nat}{x:Str}{pos':Pos}(hN:X.N.Nodup)(hi:X.N[i]? = some x)(hx:Loc X.env.scope x)(he:DE X e te)(hs:swapsWith e (some (.Name x pos')) pos.line X.env=pure false:=by rfl)(hf:X.fn x=true\/X.env.scope.names.lookup x=some .local:=by first|exact .inl rfl|exact .inr rfl|assumption) :
  DS X (.Assign [.Name x pos'] e pos) (bt te (ao i)):=by
 obtain⟨t1,p1,l1⟩:=he
 exact⟨_,GB hN hi hx p1 hs hf,Ar l1 u3⟩
noncomputable def Kj(i j:Nat)(t:DTA):DTS:=fun Dd ρ U=>t ρ U fun ds ad=>match ds with
 |[v,w]=>Dd.nx ((ρ.set i (some v)).set j (some w)) ad
 |_=>False
theorem Jr{i j:Nat}{x y:Str}{a b:Expr}{t:DTA}{px py pt:Pos}{kt k2 pt2}(hc:X.calm=true)(hN:X.N.Nodup)(hi:X.N[i]? = some x)(hj:X.N[j]? = some y)(hij:i≠j)
  (hx:X.env.scope.names.lookup x=some .local) (hy:X.env.scope.names.lookup y=some .local) (ha:DA X [a,b] t)
  (hw:swappedStores [.Tuple [.Name x px,.Name y py] kt pt] (.Tuple [a,b] k2 pt2) X.env=pure (some [x,y]))
  (hs:swapsWithSole [.Tuple [.Name x px,.Name y py] kt pt] (.Tuple [a,b] k2 pt2) pos.line X.env=pure false:=by rfl) :
  DS X (.Assign [.Tuple [.Name x px,.Name y py] kt pt] (.Tuple [a,b] k2 pt2) pos) (Kj i j t):=by
 obtain⟨t1,p1,l1⟩:=ha
 refine⟨_,JK hc hN hi hj hij hx hy p1 hw hs,fun Y H ρ U Dd De S h k1 k2 k3 k4=>?_⟩
 refine l1 Y H ρ U _ _ S h fun ds us ad H1 e1 S1 rs len h1=>?_
 split at h1
 ·cases rs with
  |cons r1 r2=>
   cases r2 with
   |cons r2 r3=>
    cases r3
    exact⟨_,_,rfl,k1 _ _ ad H1 e1 ⟨S1.mu,(S1.rho.set r1).set r2⟩ h1⟩
 ·exact h1.elim
noncomputable def uk(c:DTT)(tb:DTS):DTS:=fun Dd ρ U=>∃W:Nat->Rho->Mu->Prop,(∃m,W m ρ U)/\∀m ρ U,W m ρ U ->
 c ρ U fun b ad=>if b=true then tb {Dd with nx:=fun am Z=>∃m',m'<m/\W m' am Z,ct:=fun am Z=>∃m',m'<m/\W m' am Z,bk:=Dd.nx} ρ ad else Dd.nx ρ ad
theorem tP{c:Expr}{body:List Stmt}(hp:PassesOwn (model X.prog X.w) X.A X.env X.xe)(hc:DT X c tc)(hb:DSs X body td):DS X (.While c body [] pos) (uk tc td):=by
 obtain⟨t0,p0,l0⟩:=hc
 obtain⟨t1,p1,l1⟩:=hb
 refine⟨_,GN hp p0 p1,fun Y H ρ U Dd De S h k1 k2 k3 k4=>?_⟩
 obtain⟨W,⟨m,w0⟩,turn⟩:=h
 refine⟨fun m ap H'=>∃am Z,Ext X.K U H Z H'/\St0 X.K H' am Z ap/\W m am Z,⟨m,ρ,U,.refl,S,w0⟩,?_⟩
 rintro m na H1 ⟨nn,ad,e1,S1,w1⟩
 refine l0 na H1 nn ad _ _ S1 (turn m nn ad w1) fun b al H2 e2 S2 h2=>?_
 cases b with
 |true=>
  refine sI ⟨fun ap H'=>∃m',m'<m/\∃am Z,Ext X.K U H Z H'/\St0 X.K H' am Z ap/\W m' am Z,fun ap H' ⟨m',hm,q⟩=>⟨m',hm,q⟩,?_⟩
  have nxt:∀ap am Z H',Ext X.K al H2 Z H'->St0 X.K H' am Z ap->(∃m',m'<m/\W m' am Z)->∃m',m'<m/\∃am Z,Ext X.K U H Z H'/\St0 X.K H' am Z ap/\W m' am Z:=
   fun ap am Z H' e3 S3 ⟨m',hm,q⟩=>⟨m',hm,am,Z,e1.trans (e2.trans e3),S3,q⟩
  rw[if_pos rfl] at h2
  exact l1 na H2 nn al _ _ S2 h2 nxt (fun a b c d e3=>k2 a b c d (e1.trans (e2.trans e3))) (fun a b c d e3=>k1 a b c d (e1.trans (e2.trans e3))) nxt
 |false=>exact sr (k1 na nn al H2 (e1.trans e2) S2 (by simpa using h2))
abbrev DTI:=Rho->Mu->(List PyData->Mu->Prop)->Prop
noncomputable def Eu(K:PySem.W.Frag)(J:It)(xs:List PyData)(ad:Mu)(H1:Hp):Prop:=∀al H2,Ext K ad H1 al H2->bX K al H2->∀i,(i<xs.length->J.go i H2/\∀x H',J.yld i H2 x H'->∃d,xs[i]? = some d/\vT H2 H'/\Rp K al H' d x)/\(i=xs.length->J.stop i H2)
noncomputable def MC(K:PySem.W.Frag)(wi:TI)(src:DTI):Prop:=∀(Y:St) (H:Hp) (ρ:Rho) (U:Mu) (Qd:List PyData->Mu->Prop) (R:It->Hp->Prop),St0 K H ρ U Y->src ρ U Qd ->
 (∀xs ad H1 J,Ext K U H ad H1->St0 K H1 ρ ad Y->Eu K J xs ad H1->Qd xs ad->R J H1)->wi Y H R
noncomputable def DI(X:Cx)(tg iter:Expr)(src:DTI):Prop:=∃wi,PI X tg iter wi/\MC X.K wi src
variable {tg:Expr}
noncomputable def iV(te:DTE):DTI:=fun ρ U Q=>te ρ U fun d ad=>match d with
 |.v (.list xs)=>Q xs ad
 |_=>False
noncomputable def o3(te:DTE):DTI:=fun ρ U Q=>te ρ U fun d ad=>match d with
 |.v (.tuple xs)=>Q xs ad
 |_=>False
theorem jU(h:DE X e te):DI X tg e (iV te):=by
 obtain⟨t1,p1,l1⟩:=h
 refine⟨_,Dl p1,fun Y H ρ U Qd R S h k=>?_⟩
 refine l1 Y H ρ U _ _ S h fun d u ad H1 e1 S1 r h1=>?_
 split at h1
 ·rename_i xs
  cases r with
  |@list a us _ ha hn ra=>
   refine⟨a,rfl,⟨us,SqL.of ha⟩,k xs ad H1 _ e1 S1 (fun al H2 e2 ok2 i=>⟨fun hi=>?_,fun hi=>?_⟩) h1⟩
   ·have ha2:=e2.keep _ _ ha hn trivial
    have hiu:i<us.length:=by rw[<- ra.length];exact hi
    refine⟨⟨us,us[i],SqL.of ha2,by simp[hiu]⟩,fun x H' ⟨eH,hx⟩=>?_⟩
    subst eH
    obtain⟨u',h1',h2'⟩:=ra.get (i:=i) (d:=xs[i]) (by simp[hi])
    have:=hx us (SqL.of ha2)
    rw[h1'] at this
    cases this
    exact⟨xs[i],by simp[hi],vT.refl _,h2'.ext S1.mu e2⟩
   ·exact⟨us,SqL.of (e2.keep _ _ ha hn trivial),by rw[<- ra.length];omega⟩
 ·exact h1.elim
theorem B0(h:DE X e te):DI X tg e (o3 te):=by
 obtain⟨t1,p1,l1⟩:=h
 refine⟨_,Kl p1,fun Y H ρ U Qd R S h k=>?_⟩
 refine l1 Y H ρ U _ _ S h fun d u ad H1 e1 S1 r h1=>?_
 split at h1
 ·rename_i xs
  cases r with
  |@tuple a us _ ha ra=>
   refine⟨a,rfl,⟨us,ha⟩,k xs ad H1 _ e1 S1 (fun al H2 e2 ok2 i=>⟨fun hi=>?_,fun hi=>?_⟩) h1⟩
   ·have ha2:=xj S1.mu e2 ha
    have hiu:i<us.length:=by rw[<- ra.length];exact hi
    refine⟨⟨us,us[i],ha2,by simp[hiu]⟩,fun x H' ⟨eH,hx⟩=>?_⟩
    subst eH
    obtain⟨u',h1',h2'⟩:=ra.get (i:=i) (d:=xs[i]) (by simp[hi])
    have:=hx us ha2
    rw[h1'] at this
    cases this
    exact⟨xs[i],by simp[hi],vT.refl _,h2'.ext S1.mu e2⟩
   ·exact⟨us,xj S1.mu e2 ha,by rw[<- ra.length];omega⟩
 ·exact h1.elim
def vI(lo:Int)(n:Nat):List PyData:=(List.range n).map fun (i:Nat)=>PyData.int (lo+(i:Int))
theorem J7{K:PySem.W.Frag}{lo:Int}{n:Nat}{U:Mu}{H:Hp}:Eu K (Itr lo n) (vI lo n) U H:=fun al H2 e2 ok2 i=>by
 have hl:(vI lo n).length=n:=by unfold vI;simp
 refine⟨fun hi=>?_,fun hi=>?_⟩
 ·rw[hl] at hi
  refine⟨hi,fun x H' ⟨eH,hx⟩=>?_⟩
  subst eH hx
  exact⟨.int (lo+i),by unfold vI;simp[hi],vT.refl _,.int _⟩
 ·show n<=i
  omega
noncomputable def mE(t:DTA):DTI:=fun ρ U Q=>t ρ U fun ds ad=>match ds with
 |[.v (.int j)]=>(-(2 ^ 62)<=j/\j<2 ^ 62)/\Q (vI 0 j.toNat) ad
 |_=>False
theorem o5{a:Expr}{t:DTA}{p pos:Pos}(hg:Gl X "range")(hm:X.mg "range"=none)(ha:DA X [a] t)(hs:starEach [a] X.env=[(false,eval a X.env)]:=by rfl)(hc:X.calm=true:=by rfl):DI X tg (.Call (.Name "range" p) [a] [] pos) (mE t):=by
 obtain⟨t1,p1,l1⟩:=ha
 refine⟨_,D9 hc hg hm p1 hs,fun Y H ρ U Qd R S h k=>?_⟩
 refine l1 Y H ρ U _ _ S h fun ds us ad H1 e1 S1 rs len h1=>?_
 split at h1
 ·rename_i j
  cases rs with
  |cons r1 r2=>cases r2;cases r1;exact⟨j,rfl,h1.1.1,h1.1.2,k _ ad H1 _ e1 S1 J7 h1.2⟩
 ·exact h1.elim
noncomputable def Bb(src:DTI)(g:DTG)(tb:DTS):DTS:=fun Dd ρ U=>src ρ U fun xs ad=>∃Pv:Nat->Rho->Mu->Prop,Pv 0 ρ ad /\
 (∀i x am Z,xs[i]? = some x->Pv i am Z->g (.v x) am Z fun cr al=>tb {Dd with nx:=Pv (i+1),ct:=Pv (i+1),bk:=Dd.nx} cr al)/\(∀am Z,Pv xs.length am Z->Dd.nx am Z)
theorem vm{iter:Expr}{body:List Stmt}{src:DTI}{g:DTG}(hp:PassesOwn (model X.prog X.w) X.A X.env X.xe)(hc:X.calm=true)(hi:DI X tg iter src)(hg:DG X tg g)(hb:DSs X body td)
  (hs:∀x,foldedSetIterable iter X.env x=pure x:=by intro _;rfl):DS X (.For tg iter body [] pos) (Bb src g td):=by
 obtain⟨t0,p0,l0⟩:=hi
 obtain⟨t1,p1,l1⟩:=hg
 obtain⟨t2,p2,l2⟩:=hb
 refine⟨_,GF hp hc p0 p1 p2 hs,fun Y H ρ U Dd De S h k1 k2 k3 k4=>?_⟩
 refine l0 Y H ρ U _ _ S h fun xs ad H1 J e1 S1 it h1=>?_
 obtain⟨Pv,pv0,turn,fin⟩:=h1
 refine⟨fun i m ap H'=>m=xs.length-i/\i<=xs.length/\∃am Z,Ext X.K ad H1 Z H'/\St0 X.K H' am Z ap/\Pv i am Z,⟨xs.length,by simp,zero_le _,ρ,ad,.refl,S1,pv0⟩,?_⟩
 rintro i m ap H' ⟨rfl,hi,am,Z,e2,S2,pv⟩
 obtain⟨go,stop⟩:=it Z H' e2 S2.mu i
 by_cases hlt:i<xs.length
 ·obtain⟨g1,y1⟩:=go hlt
  refine .inr ⟨g1,fun no H2=>∃cr al,Ext X.K ad H1 al H2/\St0 X.K H2 cr al no/\Pv (i+1) cr al,fun no H2 q=>⟨xs.length-(i+1),∅,rfl,hlt,q⟩,fun x H2 yl=>?_⟩
  obtain⟨d,hd,sm,rd⟩:=y1 x H2 yl
  have e3:Ext X.K Z H' Z H2:=.of_same sm
  have S3:St0 X.K H2 am Z ap:=⟨S2.mu.Fp e3 sm,S2.rho.ext S2.mu e3⟩
  refine l1 ap H2 am Z (.v d) x _ _ S3 rd (turn i d am Z hd pv) fun po u8 bn H4 e4 S4 h4=>?_
  have nxt:∀a b c dd,Ext X.K bn H4 c dd->St0 X.K dd b c a->Pv (i+1) b c->∃cr al,Ext X.K ad H1 al dd/\St0 X.K dd cr al a/\Pv (i+1) cr al:=fun a b c dd e5 S5 q=>⟨b,c,e2.trans (e3.trans (e4.trans e5)),S5,q⟩
  have ee:=e1.trans (e2.trans (e3.trans e4))
  exact l2 po H4 u8 bn _ _ S4 h4 nxt (fun a b c d e5=>k2 a b c d (ee.trans e5)) (fun a b c d e5=>k1 a b c d (ee.trans e5)) nxt
 ·have ei:i=xs.length:=by omega
  subst ei
  exact .inl ⟨stop rfl,k1 ap am Z H' (e1.trans e2) S2 (fin am Z pv)⟩
end
abbrev DSp:=List D->Mu->DK->Prop
noncomputable def spD(K:PySem.W.Frag)(dsp:DSp):Sp:=fun vs H Q _=>∃(ds:List D) (U:Mu) (Qd:DK),bX K U H/\jL K U H ds vs/\dsp ds U Qd /\
 (∀d u Z H',Ext K U H Z H'->bX K Z H'->RpD K Z H' d u->Qd d Z->Q u H')
def aY(N:List Str)(ds:List D):Rho:=ds.map some++List.replicate (N.length-ds.length) none
theorem jL.get{K:PySem.W.Frag}{U:Mu}{H:Hp}{ds:List D}{us:List V}:∀{i:Nat} {d:D},jL K U H ds us->ds[i]? = some d->∃u,us[i]? = some u/\RpD K U H d u
 |_,_,.nil,h=>by simp at h
 |0,_,.cons r _,h=>by simp at h;subst h;exact⟨_,rfl,r⟩
 |i+1,d,.cons _ t,h=>by
  obtain⟨u,h1,h2⟩:=jL.get (i:=i) (d:=d) t (by simpa using h)
  exact⟨u,by simpa using h1,h2⟩
theorem rH{K:PySem.W.Frag}{U:Mu}{H:Hp}{N:List Str}{ds:List D}{vs:List V}(r:jL K U H ds vs):iM K U H (aY N ds) (start N vs):=by
 have hl:=r.length
 refine⟨by unfold aY start;simp[hl],fun i d e=>?_⟩
 unfold aY at e
 by_cases hi:i<ds.length
 ·rw[List.getElem?_append_left (by simpa using hi),getElem?_map] at e
  unfold start
  rw[List.getElem?_append_left (by simpa [hl] using hi),getElem?_map]
  cases q:ds[i]? with
  |none=>rw[q] at e;cases e
  |some d'=>
   rw[q] at e
   cases e
   obtain⟨u,h1,h2⟩:=r.get q
   exact⟨u,by rw[h1];rfl,h2⟩
 ·rw[List.getElem?_append_right (by simpa using hi),List.getElem?_replicate] at e
  split at e<;>cases e
section
variable {P:Program}{w:World}{K:PySem.W.Frag}{mg:Str->Option Value}{base:Heap}
theorem _root_.L2.Fun.okD{x qual:Str}{st:Stmt}{f:Addr}{fd:FuncData}{N ps:List Str}{k:Nat}{dsp:DSp}(F:Fun K x qual st f fd)(S:aZ N ps (az st))(len:∀ds U Q,dsp ds U Q->ds.length=ps.length)
  (hbody:∀(cdv:Value) (A:Around) (outer:List Env) (s:Shared) (H:Hp) (E:XK),fi k (A.deeper (envOfC qual (az st) s.heap.objs.size f cdv)) ->
   ∃td,DSs (jJ CX0 P w K mg base N qual (az st) f cdv A outer s H E).nox (dk st) td/\∀ds U Qd,dsp ds U Qd->td ‹Qd› (aY N ds) U):bw P w K mg base CX0 (k+1) f fd ps (spD K dsp):=by
 refine F.ok S (fun vs H Q E h=>?_) (fun cdv A outer s H vs Q E hr h=>?_)
 ·obtain⟨ds,U,Qd,_,r,h,_⟩:=h
  rw[<- r.length]
  exact len ds U Qd h
 ·obtain⟨ds,U,Qd,ok,r,h,fin⟩:=h
  obtain⟨td,⟨t,p,l⟩,rd⟩:=hbody cdv A outer s H E hr
  refine⟨t,p,?_⟩
  exact l (start N vs) H (aY N ds) U _ _ ⟨ok,rH r⟩ (rd ds U Qd h) (fun ap am Z H' e' S' q=>fin (.v .none) .non Z H' e' S'.mu Rp.none q) (fun d u Z H' e' ok' r' q=>fin d u Z H' e' ok' r' q) (fun _ _ _ _ _ _ q=>q) (fun _ _ _ _ _ _ q=>q)
end
section
variable {X:Cx}{e:Expr}{es:List Expr}{t:DTA}{p pos:Pos}{x:Str}{k:Nat}{f:Addr}{fd:FuncData}{ps:List Str}{dsp:DSp}
noncomputable def aK(dsp:DSp)(t:DTA):DTE:=fun ρ U Q=>t ρ U fun ds ad=>dsp ds ad Q
theorem ax(F:bw X.prog X.w X.K X.mg X.base CX0 k f fd ps (spD X.K dsp))(hr:fi k X.A)(hg:Gl X x)(hm:X.mg x=some (.ref f))(hk:keepIn X.K (.ref f)=true)(hb:Binds X.K fd ps [])
  (ha:DA X (e::es) t) (hdb:(x==("__debug__":Str))=false:=by decide) (he:starEach (e::es) X.env=(false,eval e X.env)::starEach es X.env:=by rfl) (hpl:(backTo pos (starEach es X.env)).any (·.1)=false:=by rfl) :
  DE X (.Call (.Name x p) (e::es) [] pos) (aK dsp t):=by
 obtain⟨t1,p1,l1⟩:=ha
 refine⟨_,Cs F hr hg hm hk hb .nil Mj p1 hdb he hpl,fun Y H ρ U Qd Q S h kk=>?_⟩
 refine l1 Y H ρ U _ _ S h fun ds us ad H1 e1 S1 rs len h1=>?_
 refine⟨ds,ad,Qd,S1.mu,by rw[append_nil];exact rs,h1,fun d u Z H' e2 ok r q=>?_⟩
 exact kk d u Z H' (e1.trans e2) ⟨ok,S1.rho.ext S1.mu e2⟩ r q
end
section
variable {X:Cx}{o e:Expr}{to te:DTE}{apos cpos:Pos}
noncomputable def BD(to te:DTE):DTE:=fun ρ U Q=>to ρ U fun x ad=>match x with
 |.m l=>te ρ ad fun y al=>(match y,al l with
  |.v d,some xs=>xs.length<1000/\Q (.v .none) (aF al l (xs++[d]))
  |_,_=>False)
 |_=>False
theorem kM(ho:DE X o to)(ha:DE X e te)(hbase:attributeBase o "append" X.env (eval o X.env)=eval o X.env:=by rfl)
  (hfew:((backTo cpos (starEach [e] X.env)).all (fun x=>!x.1)&&(backToKw cpos (keywordEach [] X.env)).all (fun x=>x.1.isSome)
   && decide ([e].length+([]:List Keyword).length+(if ([]:List Keyword).isEmpty then 0 else 1)<30))=true:=by rfl)
  (hline:(apos.endLine==cpos.line)=true:=by rfl) (hs:starEach [e] X.env=(false,eval e X.env)::starEach [] X.env:=by rfl) (hplain:(backTo cpos (starEach [] X.env)).any (·.1)=false:=by rfl) :
  DE X (.Call (.Attribute o "append" apos) [e] [] cpos) (BD to te):=by
 obtain⟨t1,p1,l1⟩:=ho
 obtain⟨t2,p2,l2⟩:=ha
 refine⟨_,Aj plainAttrs_list PySem.F.slot_list_append PySem.F.type_list_append nF p1 (dP p2 kg hs) hbase hfew hline hs hplain,fun Y H ρ U Qd Q S h k=>?_⟩
 refine l1 Y H ρ U _ _ S h fun x ux ad H1 e1 S1 rx h1=>?_
 cases x with
 |m l=>
  obtain⟨rfl,ds,hm⟩:=id rx
  obtain⟨us,hl,rl⟩:=S1.mu l ds hm
  refine⟨.inl ⟨rfl,us,SqL.of hl⟩,?_⟩
  refine l2 Y H1 ρ ad _ _ S1 h1 fun y uy al H2 e2 S2 ry h2=>?_
  obtain⟨_,ds2,hm2⟩:=rx.ext S1.mu e2
  obtain⟨us2,hl2,rl2⟩:=S2.mu l ds2 hm2
  rw[hm2] at h2
  cases y with
  |v d=>
   have h3:ds2.length<1000/\Qd (.v .none) (aF al l (ds2++[d])):=h2
   refine⟨l,us2,uy,rfl,rfl,hl2,by rw[<- rl2.length];exact fW (le_of_lt h3.1),?_⟩
   have ex:Ext X.K al H2 (aF al l (ds2++[d])) (upd H2 l (.lst (us2++[uy]))):=jl hm2
   exact k (.v .none) .non _ _ (e1.trans (e2.trans ex)) ⟨S2.mu.set hm2 (rl2.append (.cons ry .nil)),S2.rho.ext S2.mu ex⟩ Rp.none h3.2
  |m _=>exact h2.elim
  |s _=>exact h2.elim
  |o _=>exact h2.elim
  |q _=>exact h2.elim
 |v d=>exact h1.elim
 |s ns=>exact h1.elim
 |o _=>exact h1.elim
 |q _=>exact h1.elim
noncomputable def MS(to te:DTE):DTE:=fun ρ U Q=>to ρ U fun x ad=>match x with
 |.m l=>te ρ ad fun y al=>(match y,al l with
  |.v (.list ys),some xs=>xs.length+ys.length<=1000/\Q (.v .none) (aF al l (xs++ys))
  |_,_=>False)
 |_=>False
end
theorem gc{prog:Program}{w:World}{A:Around}{R:Result->Shared->Prop}{s:Shared}{elt target iter:Expr}{ifs:List Expr}{scope:Scope}{pos:Pos}{it acc:Value}{env:Env}(I:Nat->Shared->Prop)
  (turn:∀n s,I n s->wpAny (model prog w) A (pyNext it) (fun r bi=>match r with
   |none=>R (.ok .next) bi
   |some v=>wpAny (model prog w) A (letOwnedTupleGo target it v) (fun _ s'=>wpAny (model prog w) A (assign target env v) (fun _ ks=>
     wpAny (model prog w) A (forIn ifs true fun c r=>if r=true then do let ok <- isTrue c env (eval c env);pure (ForInStep.yield ok) else pure (ForInStep.yield r)) (fun ok ce=>
      if ok=true then wpAny (model prog w) A (eval elt env) (fun x tt=>
       wpAny (model prog w) A (call (.builtin "list.append") [acc,x]) (fun _ tz=>∃m,m<n/\I m tz) (fun _ _=>False) tt) (fun _ _=>False) ce
      else ∃m,m<n/\I m ce) (fun _ _=>False) ks) (fun _ _=>False) s') (fun _ _=>False) bi) (fun _ _=>False) s)
  (n:Nat) (h:I n s) :
  codeAny (model prog w) A (.compLoop (.ListComp elt [⟨target,iter,ifs,0⟩] scope pos) 0 it acc env) R s:=by
 refine codeAny_loop rfl I (fun n s hI=>?_) n h
 show wpAny _ A ((compTurn (.ListComp elt [⟨target,iter,ifs,0⟩] scope pos) 0 it acc env).onRaise (fun x=>do noteFrame x env;theTreesLotGoes x)) _ _ s
 refine wpAny_noted ?_
 rw[compTurn_list]
 refine wpAny_bind (wpAny_standAt (wpAny_bind (wpAny_mono (turn n s hI) (fun r bi im=>?_) fun _ _ h'=>h'.elim)))
 cases r with
 |none=>exact wpAny_pure im
 |some v=>
  refine wpAny_bind (wpAny_mono im (fun _ s' h'=>?_) fun _ _ h'=>h'.elim)
  refine wpAny_bind (wpAny_mono h' (fun _ ks pc=>wpAny_bind (wpAny_mono pc (fun ok ce sK=>?_) fun _ _ h'=>h'.elim)) fun _ _ h'=>h'.elim)
  cases ok with
  |false=>exact wpAny_pure ⟨rfl,sK⟩
  |true=>
   exact wpAny_bind (wpAny_bind (wpAny_mono sK (fun x tt wn=>wpAny_bind (wpAny_mono wn (fun _ tz wl=>wpAny_pure (wpAny_pure ⟨rfl,wl⟩)) fun _ _ h'=>h'.elim)) fun _ _ h'=>h'.elim))
section
variable {K:PySem.W.Frag}{U Z:Mu}{H:Hp}
mutual
theorem Rp.shrink{d:PyData}{u:V}(sub:∀a,Z a=none->U a=none):Rp K Z H d u->Rp K U H d u
 |.none=>.none
 |.bool b=>.bool b
 |.int i=>.int i
 |.str x=>.str x
 |.list h n r=>.list h (sub _ n) (RpL.shrink sub r)
 |.tuple h r=>.tuple h (RpL.shrink sub r)
theorem RpL.shrink{ds:List PyData}{us:List V}(sub:∀a,Z a=none->U a=none):RpL K Z H ds us->RpL K U H ds us
 |.nil=>.nil
 |.cons h r=>.cons (Rp.shrink sub h) (RpL.shrink sub r)
end
end
theorem zM{X:Cx}{e:Expr}{td:DTE}(h:∀(pins:List (Addr×Obj)) (s:Shared) (Y:St) (H:Hp) (ρ:Rho) (U:Mu) (Qd:DK) (Q:VK),Inv X pins Y H s->St0 X.K H ρ U Y->td ρ U Qd ->
  (∀d u Z H',Ext X.K U H Z H'->St0 X.K H' ρ Z Y->RpD X.K Z H' d u->Qd d Z->Q u H')->wpAny (model X.prog X.w) X.A (eval e X.env) (EP X pins Y Q) X.xe s):DE X e td:=
 ⟨fun Y H Q=>∃ρ U Qd,St0 X.K H ρ U Y/\td ρ U Qd/\(∀d u Z H',Ext X.K U H Z H'->St0 X.K H' ρ Z Y->RpD X.K Z H' d u->Qd d Z->Q u H'),
  fun pins s Y H Q I ⟨ρ,U,Qd,S,q,k⟩=>h pins s Y H ρ U Qd Q I S q k,fun Y H ρ U Qd Q S q k=>⟨ρ,U,Qd,S,q,k⟩⟩
def aU(X:Cx)(N':List Str)(scope:Scope)(cl:List (Str×Addr))(fp:List Addr)(ce:Shared)(db:Hp):Cx:=
 {X with N:=N',dl:=ce,H₀:=db,env:=compEnvC scope cl ce.heap.objs.size X.env,outer:=X.stack,stack:=X.stack,ex:=fp,fn:=fun _=>false,pn:=X.pn,xe:=fun _ _=>False}
def Le:Rho->Rho->Prop
 |[],[]=>True
 |none::r,_::r'=>Le r r'
 |some d::r,some d'::r'=>d=d'/\Le r r'
 |_,_=>False
theorem Le.get:∀{ρ am:Rho},Le ρ am->ρ.length=am.length/\∀(i:Nat) d,ρ[i]? = some (some d)->am[i]? = some (some d)
 |[],[],_=>⟨rfl,fun _ _ h=>h⟩
 |none::r,x::r',h=>by
  obtain⟨h1,h2⟩:=Le.get (ρ:=r) (am:=r') h
  refine⟨congrArg (· + 1) h1,fun i d e=>?_⟩
  cases i with
  |zero=>simp at e
  |succ j=>exact h2 j d (by simpa using e)
 |some d::r,some d'::r',h=>by
  obtain⟨rfl,h⟩:=h
  obtain⟨h1,h2⟩:=Le.get (ρ:=r) (am:=r') h
  refine⟨congrArg (· + 1) h1,fun i d e=>?_⟩
  cases i with
  |zero=>simpa using e
  |succ j=>exact h2 j d (by simpa using e)
 |some d::r,none::r',h=>h.elim
 |[],_::_,h=>h.elim
 |none::_,[],h=>h.elim
 |some _::_,[],h=>h.elim
def bE{α:Type}(cap:List (Option Nat))(ρ:List (Option α)):List (Option α):=cap.map fun o=>o.bind fun j=>(ρ[j]?).join
noncomputable def Ad(cap:List (Option Nat))(src:DTI)(g:DTG)(c:DTT)(elt:DTE):DTE:=fun ρ U Q=>src ρ U fun xs ad=>xs.length<=1000/\∃f:PyData->Option PyData,
 (∀x∈xs,∀Z:Mu,(∀a ds,ad a=some ds->Z a=some ds)->g (.v x) (bE cap ρ) Z fun cr al=>Le (bE cap ρ) cr/\c cr al fun b bd=>
  if b=true then elt cr bd fun d bn=>bn=Z/\(match d with|.v y=>f x=some y|_=>False) else bd=Z/\f x=none)/\Q (.v (.list (xs.filterMap f))) ad
noncomputable def zI(X:Cx)(ifs:List Expr)(c:DTT):Prop:=∀(pins:List (Addr×Obj)) (s:Shared) (Y:St) (H:Hp) (ρ:Rho) (U:Mu) (Qd:Bool->Mu->Prop) (Q:Bool->Hp->Prop),Inv X pins Y H s->St0 X.K H ρ U Y->c ρ U Qd ->
 (∀b Z H',Ext X.K U H Z H'->St0 X.K H' ρ Z Y->Qd b Z->Q b H') ->
 wpAny (model X.prog X.w) X.A (forIn ifs true fun c r=>if r=true then do let ok <- isTrue c X.env (eval c X.env);pure (ForInStep.yield ok) else pure (ForInStep.yield r)) (TP X pins Y Q) X.xe s
noncomputable def iL:DTT:=fun _ U Q=>Q true U
theorem eI{X:Cx}:zI X [] iL:=fun pins s Y H ρ U Qd Q I S h k=>wpAny_tests_nil ⟨H,I,k true U H .refl S h⟩
theorem AZ{X:Cx}{c:Expr}{tc:DTT}(h:DT X c tc):zI X [c] tc:=by
 obtain⟨t,p,l⟩:=h
 exact fun pins s Y H ρ U Qd Q I S h k=>wpAny_tests_one (p pins s Y H _ I (l Y H ρ U _ _ S h k))
theorem Un.after{fs ex:List Addr}{H H1:Hp}{h h1 h':Heap}(u:Un fs ex H H1 h h1)(k:∀b o,b<h.objs.size->h1.get? b=some o->h'.get? b=some o):Un fs ex H H1 h h':=
 ⟨fun b o e n hb hx=>k b o (Heap.lt_size e) (u.keep b o e n hb hx),fun b o e n hb hx=>let ⟨sl,q⟩:=u.slot b o e n hb hx;⟨sl,k b _ (Heap.lt_size e) q⟩,u.free,fun b o e hx=>let ⟨o',q⟩:=u.there b o e hx;⟨o',k b _ (Heap.lt_size e) q⟩,u.oD,u.nQ,u.nS⟩
theorem kz{α:Type}{cap:List (Option Nat)}{ρ:List (Option α)}{i:Nat}{d:α}(h:(bE cap ρ)[i]? = some (some d)):∃j,cap[i]? = some (some j)/\ρ[j]? = some (some d):=by
 unfold bE at h
 rw[getElem?_map] at h
 cases q:cap[i]? with
 |none=>rw[q] at h;cases h
 |some o=>
  rw[q] at h
  cases o with
  |none=>cases h
  |some j=>
   refine⟨j,rfl,?_⟩
   simp only[map_some,bind_some,Option.some.injEq] at h
   cases z:ρ[j]? with
   |none=>rw[z] at h;cases h
   |some y=>rw[z] at h;simp only[join_some] at h;rw[h]
theorem Fj{α:Type}{cap:List (Option Nat)}{ρ:List (Option α)}{i j:Nat}{d:α}(h:cap[i]? = some (some j))(e:ρ[j]? = some (some d)):(bE cap ρ)[i]? = some (some d):=by
 unfold bE
 rw[getElem?_map,h]
 simp[e]
theorem iM.cap{K:PySem.W.Frag}{U:Mu}{H:Hp}{ρ:Rho}{Y:St}{cap:List (Option Nat)}(r:iM K U H ρ Y):iM K U H (bE cap ρ) (bE cap Y):=by
 refine⟨by unfold bE;simp,fun i d e=>?_⟩
 obtain⟨j,h1,h2⟩:=kz e
 obtain⟨u,h3,h4⟩:=r.2 j d h2
 exact⟨u,Fj h1 h3,h4⟩
theorem iM.le{K:PySem.W.Frag}{U:Mu}{H:Hp}{ρ am:Rho}{Y:St}(r:iM K U H am Y)(l:Le ρ am):iM K U H ρ Y:=
 ⟨l.get.1.trans r.1,fun i d e=>r.2 i d (l.get.2 i d e)⟩
theorem xJ{xs:List PyData}{f:PyData->Option PyData}{i:Nat}{d:PyData}(h:xs[i]? = some d):(xs.take (i+1)).filterMap f=(xs.take i).filterMap f++(f d).toList:=by
 obtain⟨hi,e⟩:=List.getElem?_eq_some_iff.mp h
 rw[List.take_succ_eq_append_getElem hi,List.filterMap_append,e]
 cases q:f d<;>simp[q]
theorem x4{X:Cx}{N':List Str}{scope:Scope}{cl:List (Str×Addr)}{elt iter tg:Expr}{ifs:List Expr}{pos:Pos}{cap:List (Option Nat)}{src:DTI}{g:DTG}{c:DTT}{te:DTE}(hc:X.calm=X.calm)
  (hi:DI X tg iter src) (hg:∀fp ce db,DG (aU X N' scope cl fp ce db) tg g) (hif:∀fp ce db,zI (aU X N' scope cl fp ce db) ifs c) (he:∀fp ce db,DE (aU X N' scope cl fp ce db) elt te)
  (hclos:closureFor scope X.env=pure cl) (hcell:∀y∈scope.names,y.2≠.cell) (hkind:scope.kind = .function) (hnames:∀y∈scope.names,y.2 = .local->scope.names.lookup y.1=some .local)
  (hcl:∀x a,cl.lookup x=some a->X.env.cells.lookup x=some a) (hhas:∀x,(relabel scope X.env).names.lookup x=some .cell\/(relabel scope X.env).names.lookup x=some .free->∃a,cl.lookup x=some a)
  (hlen:cap.length=N'.length) (hcap:∀(i j:Nat) (x:Str),cap[i]? = some (some j)->N'[i]? = some x->X.N[j]? = some x/\Vis X.env.scope x/\X.env.kindOf x≠some .local/\((relabel scope X.env).names.lookup x=some .cell\/(relabel scope X.env).names.lookup x=some .free))
  (hs:∀x,foldedSetIterable iter X.env x=pure x:=by intro _;rfl):DE X (.ListComp elt [⟨tg,iter,ifs,0⟩] scope pos) (Ad cap src g c te):=by
 refine zM fun pins s Y H ρ U Qd Q I S h k=>?_
 obtain⟨wi,pw,li⟩:=hi
 rw[eval_ListComp]
 refine wpAny_comprehension_free (use:=none) rfl hs hclos hkind hnames (thn (pw pins s Y H _ I (li Y H ρ U _ (fun J H1=>∃xs ad,Ext X.K U H ad H1/\St0 X.K H1 ρ ad Y/\Eu X.K J xs ad H1/\xs.length<=1000/\∃f:PyData->Option PyData,
   (∀x∈xs,∀Z:Mu,(∀a ds,ad a=some ds->Z a=some ds)->g (.v x) (bE cap ρ) Z fun cr al=>Le (bE cap ρ) cr/\c cr al fun b bd=>
    if b=true then te cr bd fun d bn=>bn=Z/\(match d with|.v y=>f x=some y|_=>False) else bd=Z/\f x=none)/\Qd (.v (.list (xs.filterMap f))) ad) S h (fun xs ad H1 J e1 S1 it q=>⟨xs,ad,e1,S1,it,q⟩)))
  fun v s1 h1=>thn h1 fun itv s2 h2=>?_)
 obtain⟨it,fp,tn,J,H2,rfl,I2,T,st2,f2,xs,ad,e1,S1,itok,hxs,f,body,fin⟩:=h2
 refine wpAny_newObj_type (wpAny_newFunctionEnv hcell (by intro y hy;simp at hy) (fun im jp j'=>?_) hkind)
 dsimp only at jp j' ⊢
 have hfree2:H2 s2.heap.objs.size=none:=I2.hok.fresh (le_refl _)
 have hK2:X.K.lookup s2.heap.objs.size=none:=by
  cases z:X.K.lookup s2.heap.objs.size with
  |none=>rfl
  |some o=>exact absurd (Heap.lt_size (I2.kIn _ _ z)) (lt_irrefl _)
 have I3:Inv X pins Y (upd H2 s2.heap.objs.size (.lst [])) {s2 with heap:=s2.heap.push {cls:=.type "list",dict:=none,data:=.seq ([]:List Value).toArray}}:=
  I2.laid (t':=s2.toks) (fun b u e=>Heap.get?_push_of_some _ e) (le_refl _) ⟨zero_le _,[],0,.nil,Heap.get?_push_size _ rfl⟩
 generalize hH:s2.heap.push {cls:=.type "list",dict:=none,data:=.seq ([]:List Value).toArray} = hp3 at jp j' I3 ⊢
 have hsz3:hp3.objs.size=s2.heap.objs.size+1:=by rw[<- hH,Heap.size_push]
 have kept3:∀b o,hp3.get? b=some o->im.get? b=some o:=fun b o e=>j'.extBut b o (ne_of_lt (Heap.lt_size e)) (Heap.get?_push_of_some _ e)
 have old3:∀b o,s2.heap.get? b=some o->hp3.get? b=some o:=fun b o e=>by rw[<- hH];exact Heap.get?_push_of_some _ e
 have fplt:∀b∈fp,b<s2.heap.objs.size:=fun b hb=>by obtain⟨o,e,_⟩:=T.obj 0 _ st2 b hb;exact Heap.lt_size e
 have fpst:∀b∈fp,b ∉ frs X.stack:=fun b hb hz=>by
  rcases List.mem_cons.mp (I2.nr b hz) with e|e
  ·exact (f2 b hb).2.1 e
  ·exact (f2 b hb).2.2.1 e
 obtain⟨s3,hs3⟩:∃s3:Shared,s3={s2 with heap:=hp3}:=⟨_,rfl⟩
 obtain⟨H3,hH3⟩:∃H3:Hp,H3=upd H2 s2.heap.objs.size (.lst []):=⟨_,rfl⟩
 have heap3:s3.heap=hp3:=by rw[hs3]
 rw[<- hH3] at I3
 have I3':Inv X pins Y H3 s3:=by rw[hs3];exact I3
 have hloc:H3 hp3.objs.size=none:=by have:=I3'.hok.fresh (a:=hp3.objs.size) (by rw[heap3];exact le_refl _);exact this
 have okc:(aU X N' scope cl fp s3 H3).Ok:=by
  refine⟨I3.ok.mod,?_,I3.ok.glob,I3.ok.blt,le_refl _,fun x y a h1 h2=>I3.ok.inj x y a (hcl x a h1) (hcl y a h2),fun x hx=>hhas x hx,fun x a h=>(nomatch h),I3.ok.hd,I3.ok.qt,I3.ok.frames,.inl rfl,fun b hb=>⟨?_,fun x a h=>(f2 b hb).2.2.2.2.1 x a (hcl x a h)⟩,
   I3'.bs,le_trans I3.ok.bsz I3'.sz,fun b o e hb=>?_,fun b hb=>fpst b hb,I3'.stack,I3'.pd⟩
  ·exact hkind
  ·show b≠s3.heap.objs.size
   rw[heap3,hsz3]
   exact ne_of_lt (Nat.lt_succ_of_lt (fplt b hb))
  ·rcases (f2 b hb).2.2.2.1 with z|z
   ·exact I3.ok.zx b o e z
   ·exact absurd (lt_of_lt_of_le (Heap.lt_size (I3.ok.bs b o e).1) z) (lt_irrefl _)
 have I4:Inv (aU X N' scope cl fp s3 H3) [] (bE cap Y) H3 {s2 with heap:=im,toks:=s2.toks+([]:List (Str×Value)).length}:=by
  refine⟨okc,by show s2.os=s3.os;rw[hs3],I3.bare,Un.kept (by show ∀b o,s3.heap.get? b=some o->_;rw[heap3];exact kept3),⟨_,(by show im.Ns s3.heap.objs.size _;rw[heap3];exact jp),fun i x v e1 e2 e3=>?_⟩,fun x a h=>?_,(by show H3 s3.heap.objs.size=none;rw[heap3];exact hloc),fun x a h=>I3.gI x a (hcl x a h),fun p hp=>?_,I3.hok.kept kept3,?_⟩
  ·obtain⟨j,h1,h2⟩:=kz e2
   obtain⟨hN,hv,hnl,hk⟩:=hcap i j x h1 e1
   obtain⟨m,_,hl⟩:=I3.loc
   obtain⟨u,r,lk⟩:=hl j x v hN h2 hv
   refine⟨u,r,.inr ⟨hk,?_⟩⟩
   obtain⟨a,ha⟩:=hhas x hk
   rcases lk with ⟨z,_⟩|⟨_,a',z1,z2⟩
   ·exact absurd z hnl
   ·have:a'=a:=by have q:=hcl x a ha;rw[z1] at q;exact Option.some.inj q
    subst this
    obtain⟨o,ho,hd⟩:=z2
    exact⟨a',ha,o,kept3 _ _ ho,hd⟩
  ·obtain⟨v,o,ho,hd⟩:=I3.cell x a (hcl x a h)
   exact⟨v,o,kept3 _ _ ho,hd⟩
  ·have hp':p∈X.pn++pins:=mem_append_left _ (by simpa using (show p∈X.pn++[] from hp))
   obtain⟨z1,z2,z3,z4,z5⟩:=I3'.pin p hp'
   refine⟨kept3 _ _ (by rw[<- heap3];exact z1),z2,(show p.1≠s3.heap.objs.size from ne_of_lt (Heap.lt_size z1)),fun z=>?_,z5⟩
   rcases List.mem_cons.mp (I3'.nr p.1 z) with e|e
   ·exact z3 e
   ·exact z4 e
  ·show (bE cap Y).length=N'.length
   unfold bE
   rw[length_map]
   exact hlen
 have mo:ad s2.heap.objs.size=none:=S1.mu.free hfree2
 have sub1:∀ys a ds,ad a=some ds->aF ad s2.heap.objs.size ys a=some ds:=fun ys a ds e=>by
  have:a≠s2.heap.objs.size:=fun z=>by rw[z,mo] at e;cases e
  rw[ba this];exact e
 have loop:codeAny (model X.prog X.w) X.A (.compLoop (.ListComp elt [⟨tg,iter,ifs,0⟩] scope pos) 0 (.ref it) (.ref s2.heap.objs.size) (aU X N' scope cl fp s3 H3).env)
   (compPost (model X.prog X.w) X.A X.xe none (EP X pins Y Q) (.ref s2.heap.objs.size) hp3.objs.size) {s2 with heap:=im,toks:=s2.toks+([]:List (Str×Value)).length}:=by
  refine gc (fun n s'=>∃(i:Nat) (gl:St) (Hc:Hp),n=xs.length-i/\i<=xs.length/\Inv (aU X N' scope cl fp s3 H3) [] gl Hc s'/\tn i s'.heap/\(∀b∈fp,Hc b=none) /\
   St0 X.K Hc (bE cap ρ) (aF ad s2.heap.objs.size ((xs.take i).filterMap f)) gl/\Ext X.K ad H2 (aF ad s2.heap.objs.size ((xs.take i).filterMap f)) Hc) ?_ xs.length
   ⟨0,bE cap Y,H3,by simp,zero_le _,I4,T.keep 0 _ _ st2 (fun b hb o e=>kept3 b o (old3 b o e)),fun b hb=>?_,?_,?_⟩
  ·rintro n s' ⟨i,gl,Hc,rfl,hi,Ic,tc,frc,Sc,Ec⟩
   have stat:∀{Hd:Hp},(∀b∈fp,Hd b=none)->∀b∈fp,uT (aU X N' scope cl fp s3 H3) [] Hd b:=fun hn b hb=>
    ⟨hn b hb,(okc.exf b hb).1,fpst b hb,.inl hb,fun x a h=>(okc.exf b hb).2 x a h,fun p hp=>(f2 b hb).2.2.2.2.2 p (mem_append_left _ (by simpa using (show p∈X.pn++[] from hp)))⟩
   obtain⟨go,stop⟩:=itok _ Hc Ec Sc.mu i
   by_cases hlt:i<xs.length
   ·obtain⟨g1,y1⟩:=go hlt
    refine thn (T.item (aU X N' scope cl fp s3 H3) rfl rfl rfl (fun z=>z) i [] s' gl Hc (fun _ _=>False) Ic (stat frc) tc g1) fun r s4 ⟨u,hr,h4⟩=>?_
    subst hr
    refine thn h4 fun _ s5 ⟨x,H5,I5,r5,y5,st5,fr5⟩=>?_
    obtain⟨d,hd,sm,rd⟩:=y1 x H5 y5
    have I5':=I5.pinned (stat fr5) (T.obj _ _ st5)
    have e5:Ext X.K _ Hc _ H5:=.of_same (U:=aF ad s2.heap.objs.size ((xs.take i).filterMap f)) sm
    have S5:St0 X.K H5 (bE cap ρ) (aF ad s2.heap.objs.size ((xs.take i).filterMap f)) gl:=⟨Sc.mu.Fp e5 sm,Sc.rho.ext Sc.mu e5⟩
    obtain⟨gt,pg,lg⟩:=hg fp s3 H3
    have hmem:d∈xs:=mem_of_getElem? hd
    refine thn (pg _ s5 gl H5 x u (fun ap H'=>∃am Z,Ext X.K (aF ad s2.heap.objs.size ((xs.take i).filterMap f)) H5 Z H'/\St0 X.K H' am Z ap/\Le (bE cap ρ) am/\c am Z fun b bd=>
      if b=true then te am bd fun d' bn=>bn=aF ad s2.heap.objs.size ((xs.take i).filterMap f)/\(match d' with|.v y=>f d=some y|_=>False) else bd=aF ad s2.heap.objs.size ((xs.take i).filterMap f)/\f d=none) I5' r5
     (lg gl H5 (bE cap ρ) _ (.v d) x _ _ S5 rd (body d hmem _ (sub1 _)) fun ap am Z H' e' S' q=>⟨am,Z,e',S',q⟩)) fun _ s6 ⟨ii,H6,I6,ld,mt,e6,S6,le6,q6⟩=>?_
    refine thn (hif fp s3 H3 _ s6 ii H6 ld mt _ (fun b H'=>∃Z,Ext X.K mt H6 Z H'/\St0 X.K H' ld Z ii/\if b=true then te ld Z fun d' bn=>bn=aF ad s2.heap.objs.size ((xs.take i).filterMap f)/\(match d' with|.v y=>f d=some y|_=>False) else Z=aF ad s2.heap.objs.size ((xs.take i).filterMap f)/\f d=none)
     I6 S6 q6 fun b Z H' e' S' q=>⟨Z,e',S',q⟩) fun b s7 ⟨H7,I7,lf,e7,S7,q7⟩=>?_
    have again:∀{H9:Hp} {s9:Shared},Inv (aU X N' scope cl fp s3 H3) ([]++oJ fp s5.heap) ii H9 s9->bX X.K (aF ad s2.heap.objs.size ((xs.take (i+1)).filterMap f)) H9->iM X.K (aF ad s2.heap.objs.size ((xs.take (i+1)).filterMap f)) H9 (bE cap ρ) ii ->
      Ext X.K ad H2 (aF ad s2.heap.objs.size ((xs.take (i+1)).filterMap f)) H9->∃m,m<xs.length-i/\∃(i:Nat) (gl:St) (Hc:Hp),m=xs.length-i/\i<=xs.length/\Inv (aU X N' scope cl fp s3 H3) [] gl Hc s9/\tn i s9.heap/\(∀b∈fp,Hc b=none) /\
       St0 X.K Hc (bE cap ρ) (aF ad s2.heap.objs.size ((xs.take i).filterMap f)) gl/\Ext X.K ad H2 (aF ad s2.heap.objs.size ((xs.take i).filterMap f)) Hc:=fun {H9 s9} I9 m9 r9 e9=>by
     refine⟨xs.length-(i+1),∅,i+1,ii,H9,rfl,hlt,I9.js,T.keep _ _ _ st5 fun b hb o e=>(I9.pin (b,o) (mem_append_right _ (mem_append_right _ (du hb e)))).1,fun b hb=>?_,⟨m9,r9⟩,e9⟩
     obtain⟨o,e,_⟩:=T.obj _ _ st5 b hb
     exact (I9.pin (b,o) (mem_append_right _ (mem_append_right _ (du hb e)))).2.1
    cases b with
    |false=>
     have q8:lf=aF ad s2.heap.objs.size ((xs.take i).filterMap f)/\f d=none:=by simpa using q7
     refine sr ?_
     have et:(xs.take (i+1)).filterMap f=(xs.take i).filterMap f:=by rw[xJ hd,q8.2];simp
     have pi:aF ad s2.heap.objs.size ((xs.take (i+1)).filterMap f)=lf:=by rw[et,q8.1]
     refine again I7 (by rw[pi];exact S7.mu) (by rw[pi];exact S7.rho.le le6) ?_
     rw[pi]
     exact Ec.trans (e5.trans (e6.trans e7))
    |true=>
     refine sI ?_
     obtain⟨t8,p8,l8⟩:=he fp s3 H3
     refine thn (p8 _ s7 ii H7 (fun v H'=>∃y,Ext X.K lf H7 (aF ad s2.heap.objs.size ((xs.take i).filterMap f)) H'/\St0 X.K H' ld (aF ad s2.heap.objs.size ((xs.take i).filterMap f)) ii/\Rp X.K (aF ad s2.heap.objs.size ((xs.take i).filterMap f)) H' y v/\f d=some y) I7
      (l8 ii H7 ld lf _ _ S7 (by simpa using q7) fun d' v io H8 e8 S8 r8 q8=>?_)) fun v s8 ⟨v8,H8,I8,r8,y,e8,S8,ry,fy⟩=>?_
     ·obtain⟨rfl,q8⟩:=q8
      cases d' with
      |v y=>exact⟨y,e8,S8,r8,q8⟩
      |m _=>exact q8.elim
      |s _=>exact q8.elim
      |o _=>exact q8.elim
      |q _=>exact q8.elim
     ·obtain⟨us,hacc,rus⟩:=S8.mu s2.heap.objs.size _ aT
      have hle:((xs.take i).filterMap f).length<=1000:=le_trans (List.length_filterMap_le _ _) (le_trans (by rw[length_take];exact Nat.min_le_right _ _) hxs)
      refine thn (nF (X:=aU X N' scope cl fp s3 H3) _ s8 ii H8 (.ref s2.heap.objs.size) [v8] (.ref s2.heap.objs.size) [v] (fun _ H'=>H'=upd H8 s2.heap.objs.size (.lst (us++[v8]))) I8 rfl (.cons r8 .nil) ⟨_,us,v8,rfl,rfl,hacc,by rw[<- rus.length];exact fW hle,rfl⟩) fun _ s9 ⟨_,H9,I9,_,e9⟩=>?_
      subst e9
      have et:(xs.take (i+1)).filterMap f=(xs.take i).filterMap f++[y]:=by rw[xJ hd,fy];rfl
      have mset:aF (aF ad s2.heap.objs.size ((xs.take i).filterMap f)) s2.heap.objs.size ((xs.take (i+1)).filterMap f)=aF ad s2.heap.objs.size ((xs.take (i+1)).filterMap f):=qF
      have ex:Ext X.K (aF ad s2.heap.objs.size ((xs.take i).filterMap f)) H8 (aF ad s2.heap.objs.size ((xs.take (i+1)).filterMap f)) (upd H8 s2.heap.objs.size (.lst (us++[v8]))):=by
       rw[<- mset]
       exact jl aT
      refine again I9 ?_ ((S8.rho.le le6).ext S8.mu ex) (Ec.trans (e5.trans (e6.trans (e7.trans (e8.trans ex)))))
      rw[<- mset]
      refine S8.mu.set aT ?_
      rw[et]
      exact rus.append (.cons ry .nil)
   ·have ei:i=xs.length:=by omega
    subst ei
    refine thn (T.done (aU X N' scope cl fp s3 H3) rfl rfl rfl (fun z=>z) _ [] s' gl Hc (fun _ _=>False) Ic (stat frc) tc (stop rfl)) fun r s4 ⟨hr,I5⟩=>?_
    subst hr
    rw[take_length] at Sc Ec
    obtain⟨m,hn,_⟩:=I5.loc
    refine⟨m,(by have z:s4.heap.Ns s3.heap.objs.size m:=hn;rw[heap3] at z;exact z),fun h' hs'=>?_⟩
    have kp:∀b o,b<s2.heap.objs.size->s4.heap.get? b=some o->h'.get? b=some o:=fun b o hb e=>hs'.extBut b o (by rw[hsz3];exact ne_of_lt (Nat.lt_succ_of_lt hb)) e
    have hcC:Hc hp3.objs.size=none:=by have z:Hc s3.heap.objs.size=none:=I5.free;rw[heap3] at z;exact z
    have hok':HOk X.prog X.w Hc h':=fun b ob e=>by
     refine (I5.hok b ob e).pz (fun cc v hcc q=>hs'.extBut cc v ?_ q) (fun _ q=>q) fun _ _ q=>q
     rintro rfl
     rcases hcc with z|z
     ·rw[<- z,hcC] at e;cases e
     ·rw[hcC] at z;cases z
    have u1:Un (frs X.stack) fp H2 H3 s2.heap s3.heap:=by rw[heap3,hH3];exact Un.laid old3 (le_refl _) hfree2
    have u2:Un (frs X.stack) fp H3 Hc s3.heap s4.heap:=I5.base
    have If:Inv X pins Y Hc {s4 with heap:=h'}:=I2.uR (ch:=fp) (by show s4.os=s2.os;have z:s4.os=s3.os:=I5.os;rw[z,hs3]) (Un.after (u1.trans u2) kp) hok' I5.bare fun b hb=>⟨(f2 b hb).2.2.2.1,(f2 b hb).2.1,(f2 b hb).2.2.2.2.1,(f2 b hb).2.2.2.2.2⟩
    obtain⟨us,hacc,rus⟩:=Sc.mu s2.heap.objs.size _ aT
    have shr:∀a,aF ad s2.heap.objs.size (xs.filterMap f) a=none->ad a=none:=fun a e=>by
     by_cases ha:a=s2.heap.objs.size
     ·rw[ha];exact mo
     ·rw[ba ha] at e;exact e
    have eF:Ext X.K ad H2 ad Hc:=⟨Ec.keep,Ec.tb,fun _ ds q=>⟨ds,q⟩,fun _ q _=>q⟩
    have mF:bX X.K ad Hc:=⟨fun a ds q=>by
     obtain⟨ys,z1,z2⟩:=Sc.mu a ds (sub1 _ a ds q)
     exact⟨ys,z1,z2.shrink shr⟩,Sc.mu.tab⟩
    exact⟨.ref s2.heap.objs.size,Hc,If,rfl,k (.v (.list (xs.filterMap f))) _ ad Hc (e1.trans eF) ⟨mF,S1.rho.ext S1.mu eF⟩ (Rp.list hacc mo (rus.shrink shr)) fin⟩
  ·have z:b≠s2.heap.objs.size:=ne_of_lt (fplt b hb)
   rw[hH3,bB z]
   exact (f2 b hb).1
  ·have ex:=jZ (o:=.lst []) (ds:=[]) S1.mu hfree2 hK2
   rw[hH3]
   exact⟨S1.mu.mut .nil hfree2 hK2,(S1.rho.ext S1.mu ex).cap⟩
  ·rw[hH3]
   exact jZ (o:=.lst []) (ds:=[]) S1.mu hfree2 hK2
 have envE:(aU X N' scope cl fp s3 H3).env=compEnvC scope cl hp3.objs.size X.env:=by show compEnvC scope cl s3.heap.objs.size X.env=_;rw[heap3]
 rw[envE] at loop
 exact codeAny_compStart_list loop (T.self X.A 0 _ _ _ (T.keep 0 _ _ st2 (fun b hb o e=>kept3 b o (old3 b o e))) loop)
section
variable {X:Cx}{a b c:Expr}{ta tb tc:DTE}{pos:Pos}
noncomputable def ot(r r':D->D->Mu->DK->Prop)(ta tb tc:DTE):DTE:=fun ρ U Q=>ta ρ U fun x ad=>tb ρ ad fun y al=>r x y al fun z bd=>match z with
 |.v (.bool k)=>if k=true then tc ρ bd fun w bn=>r' y w bn Q else Q (.v (.bool false)) bd
 |_=>False
theorem AU{op op':CmpOp}{rr rr':R2}{r r':D->D->Mu->DK->Prop}(ho:OpR X (compareOp op) rr)(lo:d8 X.K rr r)(ho':OpR X (compareOp op') rr')(lo':d8 X.K rr' r')(ha:DE X a ta)(hb:DE X b tb)(hc:DE X c tc)
  (hm:lastMarks [op,op'] [b,c]=false:=by with_unfolding_all rfl):DE X (.Compare a [op,op'] [b,c] pos) (ot r r' ta tb tc):=by
 obtain⟨t1,p1,l1⟩:=ha
 obtain⟨t2,p2,l2⟩:=hb
 obtain⟨t3,p3,l3⟩:=hc
 refine⟨_,Gj ho ho' p1 p2 p3 hm,fun Y H ρ U Qd Q S h k=>?_⟩
 refine l1 Y H ρ U _ _ S h fun x ux ad H1 e1 S1 rx h1=>?_
 refine l2 Y H1 ρ ad _ _ S1 h1 fun y uy al H2 e2 S2 ry h2=>?_
 refine lo x y ux uy H2 al _ _ S2.mu (rx.ext S1.mu e2) ry h2 fun z uz bd H3 e3 ok3 rz h3=>?_
 have S3:St0 X.K H3 ρ bd Y:=⟨ok3,S2.rho.ext S2.mu e3⟩
 split at h3
 ·rename_i kk
  cases rz
  refine⟨kk,rfl,?_⟩
  cases kk with
  |true=>
   refine sI ?_
   refine l3 Y H3 ρ bd _ _ S3 (by simpa using h3) fun w uw bn H4 e4 S4 rw' h4=>?_
   exact lo' y w uy uw H4 bn _ _ S4.mu ((ry.ext S2.mu e3).ext S3.mu e4) rw' h4 fun d u Z H' e5 ok r q=>k d u Z H' (e1.trans (e2.trans (e3.trans (e4.trans e5)))) ⟨ok,S4.rho.ext S4.mu e5⟩ r q
  |false=>exact sr (k (.v (.bool false)) _ bd H3 (e1.trans (e2.trans e3)) S3 (Rp.bool false) (by simpa using h3))
 ·exact h3.elim
end
theorem pP{α:Type}{x:α}{xs:List α}:atI (x::xs) 0=some x:=by unfold atI ixN;simp
theorem rZ{α:Type}{x y:α}{xs:List α}:atI (x::y::xs) 1=some y:=by
 have h:=tq (xs:=x::y::xs) (j:=1) (v:=y) rfl
 exact h
theorem rK{α:Type}{x y z:α}{xs:List α}:atI (x::y::z::xs) 2=some z:=by
 have h:=tq (xs:=x::y::z::xs) (j:=2) (v:=z) rfl
 exact h
theorem zC{α:Type}{x y z u:α}{xs:List α}:atI (x::y::z::u::xs) 3=some u:=by
 have h:=tq (xs:=x::y::z::u::xs) (j:=3) (v:=u) rfl
 exact h
def je:D->D->Mu->DK->Prop:=fun x y U Q=>match x,y with
 |.v (.int i),.v (.int j)=>Q (.v (.int (i+j))) U
 |.v (.tuple xs),.v (.tuple ys)=>xs.length+ys.length<=1000/\Q (.v (.tuple (xs++ys))) U
 |_,_=>Ck x y U Q
theorem Jb{K:PySem.W.Frag}:d8 K (fun x y H Q=>(rI0 fun i j=>.int (i+j)) x y H Q\/((BU K) x y H Q\/KG x y H Q)) je:=by
 intro x y ux uy H U Qd Q ok rx ry h k
 unfold je at h
 split at h
 ·exact .inl (Cm (K:=K) (gd:=fun i j=>.int (i+j)) (fun _ _ _ _=>.int _) _ _ ux uy H U Qd Q ok rx ry h k)
 ·exact .inr (.inl (GW _ _ ux uy H U Qd Q ok rx ry h k))
 ·exact .inr (.inr (JX _ _ ux uy H U Qd Q ok rx ry h k))
theorem ix{X:Cx}{a b:Expr}{ta tb:DTE}{pos:Pos}(ha:DE X a ta)(hb:DE X b tb):DE X (.BinOp a .Add b pos) (dOp je ta tb):=o4 (Gw.or (Gh.or Kf)) Jb ha hb
section
variable {ρ:Rho}{U:Mu}{Q:DK}{QT:Bool->Mu->Prop}{QA:List D->Mu->Prop}{QG:Rho->Mu->Prop}{QI:List PyData->Mu->Prop}{QO:Option Int->Mu->Prop}{Dd:kc}{ta tb tc:DTE}{t u:DTT}{tA:DTA}{s1 s2:DTS}{i j:Int}{x y:PyData}{xs ys:List PyData}{d e:D}
noncomputable def fh:DTS:=fun _ _ _=>False
theorem dE{X:Cx}{st:Stmt}:DS X st fh:=⟨fun _ _ _=>False,fun _ _ _ _ _ _ h=>h.elim,fun _ _ _ _ _ _ _ h=>h.elim⟩
theorem ui{o:Rho}:ah 0 (some d::o) U Q=Q d U:=propext Iff.rfl
theorem tU{a}{o:Rho}:ah 1 (a::some d::o) U Q=Q d U:=propext Iff.rfl
theorem uj{a b}{o:Rho}:ah 2 (a::b::some d::o) U Q=Q d U:=propext Iff.rfl
theorem qI{a b c}{o:Rho}:ah 3 (a::b::c::some d::o) U Q=Q d U:=propext Iff.rfl
theorem ye{a b c f}{o:Rho}:ah 4 (a::b::c::f::some d::o) U Q=Q d U:=propext Iff.rfl
theorem xO{a b c f g}{o:Rho}:ah 5 (a::b::c::f::g::some d::o) U Q=Q d U:=propext Iff.rfl
theorem yV{a b c f g h}{o:Rho}:ah 6 (a::b::c::f::g::h::some d::o) U Q=Q d U:=propext Iff.rfl
theorem yb{a b c f g h k}{o:Rho}:ah 7 (a::b::c::f::g::h::k::some d::o) U Q=Q d U:=propext Iff.rfl
theorem xi{a b c f g h k l}{o:Rho}:ah 8 (a::b::c::f::g::h::k::l::some d::o) U Q=Q d U:=propext Iff.rfl
theorem yW{a b c f g h k l m}{o:Rho}:ah 9 (a::b::c::f::g::h::k::l::m::some d::o) U Q=Q d U:=propext Iff.rfl
theorem tD{a b c f g h k l m n}{o:Rho}:ah 10 (a::b::c::f::g::h::k::l::m::n::some d::o) U Q=Q d U:=propext Iff.rfl
theorem q_c:dC x ρ U Q=Q (.v x) U:=propext Iff.rfl
theorem Hx{r}:dOp r ta tb ρ U Q=ta ρ U fun x ad=>tb ρ ad fun y al=>r x y al Q:=propext Iff.rfl
theorem q_B:dB ta ρ U QT=ta ρ U fun d ad=>match d with|.v (.bool k)=>QT k ad|_=>False:=propext Iff.rfl
theorem HA{C:Int->Int->Prop}{g:Int->Int->PyData}:rII C g (.v (.int i)) (.v (.int j)) U Q=(C i j/\Q (.v (g i j)) U):=propext Iff.rfl
theorem Cg{g:Int->Int->PyData}:vQ g (.v (.int i)) (.v (.int j)) U Q=Q (.v (g i j)) U:=propext Iff.rfl
theorem CJ:Am ta ρ U Q=ta ρ U fun x ad=>match x with|.v (.int i)=>Q (.v (.int (-i))) ad|_=>False:=propext Iff.rfl
theorem yx:kb t u ρ U QT=t ρ U fun c ad=>if c=true then u ρ ad QT else QT false ad:=propext Iff.rfl
theorem IS:km t u ρ U QT=t ρ U fun c ad=>if c=true then QT true ad else u ρ ad QT:=propext Iff.rfl
theorem yi:jP t ρ U QT=t ρ U fun c ad=>QT (!c) ad:=propext Iff.rfl
theorem EY:jO ta tb ρ U Q=ta ρ U fun x ad=>match x with|.v (.bool c)=>if c=true then tb ρ ad Q else Q (.v (.bool false)) ad|_=>False:=propext Iff.rfl
theorem yk:Gf ta ρ U Q=ta ρ U fun x ad=>match x with|.v (.bool c)=>Q (.v (.bool (!c))) ad|_=>False:=propext Iff.rfl
theorem nY:aj ρ U QA=QA [] U:=propext Iff.rfl
theorem kh:ae ta tA ρ U QA=ta ρ U fun x ad=>tA ρ ad fun xs al=>QA (x::xs) al:=propext Iff.rfl
theorem wB:bb tA ρ U Q=tA ρ U fun ds ad=>match cD ds with|some xs=>Q (.v (.tuple xs)) ad|none=>False:=propext Iff.rfl
theorem wK:gC tA ρ U Q=tA ρ U fun ds ad=>match cD ds with|some xs=>Q (.v (.list xs)) ad|none=>False:=propext Iff.rfl
theorem yI:tG tA ρ U Q=tA ρ U fun ds ad=>match cD ds with|some xs=>∀p,ad p=none->Q (.m p) (aF ad p xs)|none=>False:=propext Iff.rfl
theorem wy:cD []=some []:=by rw[cD]
theorem wJ{r:List D}:cD (.v x::r)=(cD r).map (x::·):=by rw[cD]
theorem nV{neg:Bool}:bI neg (.v x) (.v y) U Q=(SeqAt.shaped x=true/\SeqAt.shaped y=true/\Q (.v (.bool (neg ^^ PyData.eqv x y))) U):=propext Iff.rfl
theorem xb{neg:Bool}:bI neg (.v (.int i)) (.v (.int j)) U Q=Q (.v (.bool (neg ^^ decide (i=j)))) U:=by
 have e:PyData.eqv (.int i) (.int j)=decide (i=j):=by simp[PyData.eqv];rfl
 rw[nV,e]
 exact propext ⟨fun h=>h.2.2,fun h=>⟨rfl,rfl,h⟩⟩
theorem Df{neg:Bool}:bI neg (.v (.list xs)) (.v (.list ys)) U Q=(SeqAt.shaped (.list xs)=true/\SeqAt.shaped (.list ys)=true/\Q (.v (.bool (neg ^^ PyData.eqv (.list xs) (.list ys)))) U):=propext Iff.rfl
theorem CL{neg:Bool}:Eo neg (.v x) (.v (.list ys)) U Q=(PyData.canLayAll0 ys=true/\x.canLay0=true/\PyData.depth x<=60/\Q (.v (.bool (neg ^^ ys.any fun b=>PyData.eqv b x))) U):=propext Iff.rfl
theorem uL:bg (.v (.list xs)) (.v (.int i)) U Q=(match atI xs i with|some d=>Q (.v d) U|none=>False):=propext Iff.rfl
theorem sg:bg (.v (.tuple xs)) (.v (.int i)) U Q=(match atI xs i with|some d=>Q (.v d) U|none=>False):=propext Iff.rfl
theorem CF{l:Addr}:bg (.m l) (.v (.int i)) U Q=(match U l with|some xs=>(match atI xs i with|some d=>Q (.v d) U|none=>False)|none=>False):=propext Iff.rfl
theorem CZ{ns:List Int}:bg (.s ns) (.v (.int i)) U Q=(match atI ns i with|some d=>Q (.v (.int d)) U|none=>False):=propext Iff.rfl
theorem rA:bg (.v (.list (x::xs))) (.v (.int 0)) U Q=Q (.v x) U:=by rw[uL,pP]
theorem ue:bg (.v (.tuple (x::xs))) (.v (.int 0)) U Q=Q (.v x) U:=by rw[sg,pP]
theorem yK{z}:bg (.v (.list (z::x::xs))) (.v (.int 1)) U Q=Q (.v x) U:=by rw[uL,rZ]
theorem uQ{z}:bg (.v (.tuple (z::x::xs))) (.v (.int 1)) U Q=Q (.v x) U:=by rw[sg,rZ]
theorem x9{z w}:bg (.v (.list (z::w::x::xs))) (.v (.int 2)) U Q=Q (.v x) U:=by rw[uL,rK]
theorem tO{z w}:bg (.v (.tuple (z::w::x::xs))) (.v (.int 2)) U Q=Q (.v x) U:=by rw[sg,rK]
theorem ya{z w v}:bg (.v (.tuple (z::w::v::x::xs))) (.v (.int 3)) U Q=Q (.v x) U:=by rw[sg,zC]
theorem CQ:Ck d e U Q=(match oh U d,oh U e with|some xs,some ys=>xs.length+ys.length<=1000/\Q (.v (.list (xs++ys))) U|_,_=>False):=propext Iff.rfl
theorem x5:je (.v (.int i)) (.v (.int j)) U Q=Q (.v (.int (i+j))) U:=propext Iff.rfl
theorem yS:je (.v (.tuple xs)) (.v (.tuple ys)) U Q=(xs.length+ys.length<=1000/\Q (.v (.tuple (xs++ys))) U):=propext Iff.rfl
theorem x3:je (.v (.list xs)) (.v (.list ys)) U Q=(xs.length+ys.length<=1000/\Q (.v (.list (xs++ys))) U):=propext Iff.rfl
theorem Hs{tl th:DTO}:dSl ta tl th ρ U Q=ta ρ U fun x ad=>tl ρ ad fun l al=>th ρ al fun u bd=>GR x l u bd Q:=propext Iff.rfl
theorem qe:nJ ρ U QO=QO none U:=propext Iff.rfl
theorem xl:dO ta ρ U QO=ta ρ U fun x ad=>match x with|.v (.int i)=>QO (some i) ad|_=>False:=propext Iff.rfl
theorem Ds{lo hi:Option Int}:GR (.v (.tuple xs)) lo hi U Q=Q (.v (.tuple (oK xs lo hi))) U:=propext Iff.rfl
theorem GL{rd}:dCB rd tA ρ U Q=tA ρ U fun ds ad=>rd ds ad Q:=propext Iff.rfl
theorem rJ:cC [.v (.list ys)] U Q=Q (.v (.int (ys.length:Nat))) U:=propext Iff.rfl
theorem xS:cC [.v (.tuple ys)] U Q=Q (.v (.int (ys.length:Nat))) U:=propext Iff.rfl
theorem xK{ns:List Int}:cC [.s ns] U Q=Q (.v (.int (ns.length:Nat))) U:=propext Iff.rfl
theorem ua{l:Addr}:cC [.m l] U Q=(match U l with|some ys=>Q (.v (.int (ys.length:Nat))) U|none=>False):=propext Iff.rfl
theorem C0:uK [.v (.int i)] U Q=Q (.v (.int (i.natAbs:Nat))) U:=propext Iff.rfl
theorem Ij{g:Int->Int->Int}:zV g [.v (.int i),.v (.int j)] U Q=Q (.v (.int (g i j))) U:=propext Iff.rfl
theorem yo{k:Bool}:tH [.v (.bool k)] U Q=Q (.v (.int (if k then 1 else 0))) U:=propext Iff.rfl
theorem sN:oH [.v (.tuple ys)] U Q=Q (.v (.list ys)) U:=propext Iff.rfl
theorem Dc:uJ [.v (.list ys)] U Q=(match dz ys with|some bs=>Q (.v (.bool (bs.all id))) U|none=>False):=propext Iff.rfl
theorem Cy{T:String}:vi T ta ρ U Q=ta ρ U fun x ad=>match x with|.v d=>Q (.v (.bool (isT T d))) ad|_=>False:=propext Iff.rfl
theorem iz{n:Nat}:ao n d ρ U QG=QG (ρ.set n (some d)) U:=propext Iff.rfl
theorem u7:fg [] ρ U QG=QG ρ U:=propext Iff.rfl
theorem pj{g:DTG}{gs:vZ}:bc g gs (x::xs) ρ U QG=g (.v x) ρ U fun nn ad=>gs xs nn ad QG:=propext Iff.rfl
theorem vh{n:Nat}{gs:vZ}:eD n gs (.v (.tuple xs)) ρ U QG=(xs.length=n/\gs xs ρ U QG):=propext Iff.rfl
theorem xV:Dh ta tb d ρ U QG=ta ρ U fun o ad=>tb ρ ad fun i al=>match o,i,d with
 |.m l,.v (.int k),.v x=>(match al l with
  |some xs=>(match ixN xs.length k with
   |some j=>QG ρ (aF al l (xs.set j x))
   |none=>False)
  |none=>False)
 |_,_,_=>False:=propext Iff.rfl
theorem Dk{g:DTG}:bt ta g Dd ρ U=ta ρ U fun d ad=>g d ρ ad Dd.nx:=propext Iff.rfl
theorem CS{i j:Nat}:Kj i j tA Dd ρ U=tA ρ U fun ds ad=>match ds with|[v,w]=>Dd.nx ((ρ.set i (some v)).set j (some w)) ad|_=>False:=propext Iff.rfl
theorem yL:br Dd ρ U=Dd.nx ρ U:=propext Iff.rfl
theorem nX:aM s1 s2 Dd ρ U=s1 {Dd with nx:=s2 Dd} ρ U:=propext Iff.rfl
theorem w8:bG ta Dd ρ U=ta ρ U Dd.rt:=propext Iff.rfl
theorem xI:mK ta Dd ρ U=ta ρ U fun _ ad=>Dd.nx ρ ad:=propext Iff.rfl
theorem CA:bN t s1 s2 Dd ρ U=t ρ U fun b ad=>if b=true then s1 Dd ρ ad else s2 Dd ρ ad:=propext Iff.rfl
theorem sR:fh Dd ρ U=False:=propext Iff.rfl
theorem B9{dsp:DSp}:aK dsp tA ρ U Q=tA ρ U fun ds ad=>dsp ds ad Q:=propext Iff.rfl
theorem Cr:BD ta tb ρ U Q=ta ρ U fun x ad=>match x with
 |.m l=>tb ρ ad fun y al=>(match y,al l with
  |.v d,some xs=>xs.length<1000/\Q (.v .none) (aF al l (xs++[d]))
  |_,_=>False)
 |_=>False:=propext Iff.rfl
theorem Dm:MS ta tb ρ U Q=ta ρ U fun x ad=>match x with
 |.m l=>tb ρ ad fun y al=>(match y,al l with
  |.v (.list ys),some xs=>xs.length+ys.length<=1000/\Q (.v .none) (aF al l (xs++ys))
  |_,_=>False)
 |_=>False:=propext Iff.rfl
theorem CC{r r'}:ot r r' ta tb tc ρ U Q=ta ρ U fun x ad=>tb ρ ad fun y al=>r x y al fun z bd=>match z with
 |.v (.bool k)=>if k=true then tc ρ bd fun w bn=>r' y w bn Q else Q (.v (.bool false)) bd
 |_=>False:=propext Iff.rfl
theorem rj:iL ρ U QT=QT true U:=propext Iff.rfl
theorem mM:iV ta ρ U QI=ta ρ U fun d ad=>match d with|.v (.list xs)=>QI xs ad|_=>False:=propext Iff.rfl
theorem sV:o3 ta ρ U QI=ta ρ U fun d ad=>match d with|.v (.tuple xs)=>QI xs ad|_=>False:=propext Iff.rfl
theorem nh:mE tA ρ U QI=tA ρ U fun ds ad=>match ds with|[.v (.int j)]=>(-(2 ^ 62)<=j/\j<2 ^ 62)/\QI (vI 0 j.toNat) ad|_=>False:=propext Iff.rfl
theorem Aw{src:DTI}{g:DTG}:Bb src g s1 Dd ρ U=src ρ U fun xs ad=>∃Pv:Nat->Rho->Mu->Prop,Pv 0 ρ ad /\
 (∀i x am Z,xs[i]? = some x->Pv i am Z->g (.v x) am Z fun cr al=>s1 {Dd with nx:=Pv (i+1),ct:=Pv (i+1),bk:=Dd.nx} cr al)/\(∀am Z,Pv xs.length am Z->Dd.nx am Z):=propext Iff.rfl
theorem xp{cap:List (Option Nat)}{src:DTI}{g:DTG}:Ad cap src g t ta ρ U Q=src ρ U fun xs ad=>xs.length<=1000/\∃f:PyData->Option PyData,
 (∀x∈xs,∀Z:Mu,(∀a ds,ad a=some ds->Z a=some ds)->g (.v x) (bE cap ρ) Z fun cr al=>Le (bE cap ρ) cr/\t cr al fun b bd=>
  if b=true then ta cr bd fun d bn=>bn=Z/\(match d with|.v y=>f x=some y|_=>False) else bd=Z/\f x=none)/\Q (.v (.list (xs.filterMap f))) ad:=propext Iff.rfl
theorem oN{α:Type}{r:List (Option α)}:bE [] r=[]:=rfl
theorem mH{α:Type}{o:Option Nat}{c:List (Option Nat)}{r:List (Option α)}:bE (o::c) r=(o.bind fun j=>(r[j]?).join)::bE c r:=rfl
theorem wG:Le [] []=True:=propext ⟨fun _=>trivial,fun h=>h⟩
theorem wZ{r r':Rho}{o:Option D}:Le (none::r) (o::r')=Le r r':=propext Iff.rfl
theorem zR{r r':Rho}{d d':D}:Le (some d::r) (some d'::r')=(d=d'/\Le r r'):=propext Iff.rfl
theorem nD{α:Type}(p:α->Bool):∀xs:List α,dz (xs.map fun x=>PyData.bool (p x))=some (xs.map p)
 |[]=>rfl
 |x::r=>by rw[map_cons,dz,nD p r];rfl
theorem Ce{α β:Type}(p:α->β):∀xs:List α,xs.filterMap (fun x=>some (p x))=xs.map p
 |[]=>rfl
 |x::r=>by rw[filterMap_cons,Ce p r];rfl
theorem yP:uk t s1 Dd ρ U=(∃W:Nat->Rho->Mu->Prop,(∃m,W m ρ U)/\∀m ρ U,W m ρ U ->
 t ρ U fun b ad=>if b=true then s1 {Dd with nx:=fun am Z=>∃m',m'<m/\W m' am Z,ct:=fun am Z=>∃m',m'<m/\W m' am Z,bk:=Dd.nx} ρ ad else Dd.nx ρ ad):=propext Iff.rfl
end
theorem Gv{α β:Type}[BEq α][LawfulBEq α]{x:α}{k:β}:∀{l:List (α×β)},l.lookup x=some k->(x,k)∈l
 |[],h=>by cases h
 |(y,j)::r,h=>by
  rw[lookup_cons] at h
  cases e:x==y with
  |true=>
   rw[e] at h
   simp only[Option.some.injEq] at h
   have:x=y:=eq_of_beq e
   subst this h
   exact mem_cons_self
  |false=>
   rw[e] at h
   exact mem_cons_of_mem _ (Gv h)
def cfK:NameKind->Bool
 |.cell=>true
 |.free=>true
 |_=>false
theorem ft{names:List (Str×NameKind)}{cl:List (Str×Addr)}(h:(names.all fun y=>!(cfK y.2) || (cl.lookup y.1).isSome)=true)(x:Str)(hx:names.lookup x=some .cell\/names.lookup x=some .free):∃a,cl.lookup x=some a:=by
 rw[List.all_eq_true] at h
 have key:∀k,cfK k=true->names.lookup x=some k->∃a,cl.lookup x=some a:=fun k hk e=>by
  have q:=h _ (Gv e)
  simp only[hk,Bool.not_true,Bool.false_or] at q
  exact Option.isSome_iff_exists.mp q
 rcases hx with e|e
 ·exact key _ rfl e
 ·exact key _ rfl e
def Fm(X:Cx)(sc:Scope):List (Option Nat)->List Str->Prop
 |none::c,_::n=>Fm X sc c n
 |some j::c,x::n=>(X.N[j]? = some x/\Vis X.env.scope x/\X.env.kindOf x≠some .local/\((relabel sc X.env).names.lookup x=some .cell\/(relabel sc X.env).names.lookup x=some .free))/\Fm X sc c n
 |_,_=>True
theorem fG{X:Cx}{sc:Scope}:∀{c:List (Option Nat)} {n:List Str},Fm X sc c n->∀(i j:Nat) (x:Str),c[i]? = some (some j)->n[i]? = some x ->
  X.N[j]? = some x/\Vis X.env.scope x/\X.env.kindOf x≠some .local/\((relabel sc X.env).names.lookup x=some .cell\/(relabel sc X.env).names.lookup x=some .free)
 |[],_,_,i,j,x,h,_=>by simp at h
 |_::_,[],_,i,j,x,_,h=>by simp at h
 |none::c,y::n,k,0,j,x,h,_=>by simp at h
 |none::c,y::n,k,i+1,j,x,h,g=>fG (c:=c) (n:=n) k i j x (by simpa using h) (by simpa using g)
 |some l::c,y::n,k,0,j,x,h,g=>by
  simp only[getElem?_cons_zero,Option.some.injEq] at h g
  subst h g
  exact k.1
 |some l::c,y::n,k,i+1,j,x,h,g=>fG (c:=c) (n:=n) k.2 i j x (by simpa using h) (by simpa using g)
theorem BW{X:Cx}{sc:Scope}{j:Nat}{x:Str}(h1:X.N[j]? = some x:=by rfl)(h2:Vis X.env.scope x:=by first|exact Or.inl rfl|exact Or.inr (Or.inl rfl)|exact Or.inr (Or.inr rfl))(h3:X.env.kindOf x≠some .local:=by first|(intro z;cases z)|exact (fun z=>nomatch z))
  (h4:(relabel sc X.env).names.lookup x=some .cell\/(relabel sc X.env).names.lookup x=some .free:=by first|exact Or.inl rfl|exact Or.inr rfl):X.N[j]? = some x/\Vis X.env.scope x/\X.env.kindOf x≠some .local/\((relabel sc X.env).names.lookup x=some .cell\/(relabel sc X.env).names.lookup x=some .free):=⟨h1,h2,h3,h4⟩
def gk(U:Mu)(p:Addr):Mu:=fun b=>if b=p then none else U b
theorem kQ{U:Mu}{p b:Addr}(h:b≠p):gk U p b=U b:=by unfold gk;rw[if_neg h]
noncomputable def dq(cap:List (Option Nat))(src:DTI)(g:DTG)(c:DTT)(elt:DTE):DTE:=fun ρ U Q=>src ρ U fun xs ad=>xs.length<=1000/\∀p,ad p=none->∃Pv:Nat->List PyData->Mu->Prop,Pv 0 [] (aF ad p []) /\
 (∀i x acc Z,xs[i]? = some x->Z p=some acc->Pv i acc Z->g (.v x) (bE cap ρ) Z fun cr al=>Le (bE cap ρ) cr/\c cr al fun b bd=>
  if b=true then elt cr bd fun d bn=>bn p=some acc/\(match d with|.v y=>Pv (i+1) (acc++[y]) (aF bn p (acc++[y]))|_=>False) else bd p=some acc/\Pv (i+1) acc bd) /\
 (∀acc Z,Pv xs.length acc Z->Z p=some acc->Q (.v (.list acc)) (gk Z p))
theorem wY{X:Cx}{pos2:Pos}{use:Option (Value->Sem Unit)}{QQ:Value->Shared->Prop}{pins:List (Addr×Obj)}{s:Shared}{Y:St}{H:Hp}{ρ:Rho}{U:Mu}{Qd:DK}{N':List Str}{scope:Scope}{cl:List (Str×Addr)}{elt iter tg:Expr}{ifs:List Expr}{pos:Pos}{cap:List (Option Nat)}{src:DTI}{g:DTG}{c:DTT}{te:DTE}(hc:X.calm=X.calm)
  (hi:DI X tg iter src) (hg:∀fp ce db,DG (aU X N' scope cl fp ce db) tg g) (hif:∀fp ce db,zI (aU X N' scope cl fp ce db) ifs c) (he:∀fp ce db,DE (aU X N' scope cl fp ce db) elt te)
  (hclos:closureFor scope X.env=pure cl) (hcell:∀y∈scope.names,y.2≠.cell) (hkind:scope.kind = .function) (hnames:∀y∈scope.names,y.2 = .local->scope.names.lookup y.1=some .local)
  (hcl:∀x a,cl.lookup x=some a->X.env.cells.lookup x=some a) (hhas:∀x,(relabel scope X.env).names.lookup x=some .cell\/(relabel scope X.env).names.lookup x=some .free->∃a,cl.lookup x=some a)
  (hlen:cap.length=N'.length) (hcap:∀(i j:Nat) (x:Str),cap[i]? = some (some j)->N'[i]? = some x->X.N[j]? = some x/\Vis X.env.scope x/\X.env.kindOf x≠some .local/\((relabel scope X.env).names.lookup x=some .cell\/(relabel scope X.env).names.lookup x=some .free))
  (hs:∀x,foldedSetIterable iter X.env x=pure x )
  (I:Inv X pins Y H s) (S:St0 X.K H ρ U Y) (h:dq cap src g c te ρ U Qd)
  (hend:∀(s4:Shared) (Hc:Hp) (C pa:Addr) (m:Str->Option Value) (acc:List PyData) (ln:Mu),s4.heap.Ns C m->uT X pins Hc C->(∀h',Heap.SameBut C s4.heap h'->Inv X pins Y Hc {s4 with heap:=h'}) ->
   Ext X.K U H ln Hc->St0 X.K Hc ρ ln Y->Rp X.K ln Hc (.list acc) (.ref pa)->Qd (.v (.list acc)) ln->compPost (model X.prog X.w) X.A X.xe use QQ (.ref pa) C (.ok .next) s4) :
  wpAny (model X.prog X.w) X.A (comprehension (.ListComp elt [⟨tg,iter,ifs,0⟩] scope pos) scope X.env pos2 (newList []) false (eval iter X.env) use) QQ X.xe s:=by
 obtain⟨wi,pw,li⟩:=hi
 refine wpAny_comprehension_free rfl hs hclos hkind hnames (thn (pw pins s Y H _ I (li Y H ρ U _ (fun J H1=>∃xs ad,Ext X.K U H ad H1/\St0 X.K H1 ρ ad Y/\Eu X.K J xs ad H1/\xs.length<=1000/\∀p,ad p=none->∃Pv:Nat->List PyData->Mu->Prop,Pv 0 [] (aF ad p []) /\
   (∀i x acc Z,xs[i]? = some x->Z p=some acc->Pv i acc Z->g (.v x) (bE cap ρ) Z fun cr al=>Le (bE cap ρ) cr/\c cr al fun b bd=>
    if b=true then te cr bd fun d bn=>bn p=some acc/\(match d with|.v y=>Pv (i+1) (acc++[y]) (aF bn p (acc++[y]))|_=>False) else bd p=some acc/\Pv (i+1) acc bd) /\
   (∀acc Z,Pv xs.length acc Z->Z p=some acc->Qd (.v (.list acc)) (gk Z p))) S h (fun xs ad H1 J e1 S1 it q=>⟨xs,ad,e1,S1,it,q⟩)))
  fun v s1 h1=>thn h1 fun itv s2 h2=>?_)
 obtain⟨it,fp,tn,J,H2,rfl,I2,T,st2,f2,xs,ad,e1,S1,itok,hxs,allp⟩:=h2
 refine wpAny_newObj_type (wpAny_newFunctionEnv hcell (by intro y hy;simp at hy) (fun im jp j'=>?_) hkind)
 dsimp only at jp j' ⊢
 have hfree2:H2 s2.heap.objs.size=none:=I2.hok.fresh (le_refl _)
 have hK2:X.K.lookup s2.heap.objs.size=none:=by
  cases z:X.K.lookup s2.heap.objs.size with
  |none=>rfl
  |some o=>exact absurd (Heap.lt_size (I2.kIn _ _ z)) (lt_irrefl _)
 have I3:Inv X pins Y (upd H2 s2.heap.objs.size (.lst [])) {s2 with heap:=s2.heap.push {cls:=.type "list",dict:=none,data:=.seq ([]:List Value).toArray}}:=
  I2.laid (t':=s2.toks) (fun b u e=>Heap.get?_push_of_some _ e) (le_refl _) ⟨zero_le _,[],0,.nil,Heap.get?_push_size _ rfl⟩
 generalize hH:s2.heap.push {cls:=.type "list",dict:=none,data:=.seq ([]:List Value).toArray} = hp3 at jp j' I3 ⊢
 have hsz3:hp3.objs.size=s2.heap.objs.size+1:=by rw[<- hH,Heap.size_push]
 have kept3:∀b o,hp3.get? b=some o->im.get? b=some o:=fun b o e=>j'.extBut b o (ne_of_lt (Heap.lt_size e)) (Heap.get?_push_of_some _ e)
 have old3:∀b o,s2.heap.get? b=some o->hp3.get? b=some o:=fun b o e=>by rw[<- hH];exact Heap.get?_push_of_some _ e
 have fplt:∀b∈fp,b<s2.heap.objs.size:=fun b hb=>by obtain⟨o,e,_⟩:=T.obj 0 _ st2 b hb;exact Heap.lt_size e
 have fpst:∀b∈fp,b ∉ frs X.stack:=fun b hb hz=>by
  rcases List.mem_cons.mp (I2.nr b hz) with e|e
  ·exact (f2 b hb).2.1 e
  ·exact (f2 b hb).2.2.1 e
 obtain⟨s3,hs3⟩:∃s3:Shared,s3={s2 with heap:=hp3}:=⟨_,rfl⟩
 obtain⟨H3,hH3⟩:∃H3:Hp,H3=upd H2 s2.heap.objs.size (.lst []):=⟨_,rfl⟩
 have heap3:s3.heap=hp3:=by rw[hs3]
 rw[<- hH3] at I3
 have I3':Inv X pins Y H3 s3:=by rw[hs3];exact I3
 have hloc:H3 hp3.objs.size=none:=by have:=I3'.hok.fresh (a:=hp3.objs.size) (by rw[heap3];exact le_refl _);exact this
 have okc:(aU X N' scope cl fp s3 H3).Ok:=by
  refine⟨I3.ok.mod,?_,I3.ok.glob,I3.ok.blt,le_refl _,fun x y a h1 h2=>I3.ok.inj x y a (hcl x a h1) (hcl y a h2),fun x hx=>hhas x hx,fun x a h=>(nomatch h),I3.ok.hd,I3.ok.qt,I3.ok.frames,.inl rfl,fun b hb=>⟨?_,fun x a h=>(f2 b hb).2.2.2.2.1 x a (hcl x a h)⟩,
   I3'.bs,le_trans I3.ok.bsz I3'.sz,fun b o e hb=>?_,fun b hb=>fpst b hb,I3'.stack,I3'.pd⟩
  ·exact hkind
  ·show b≠s3.heap.objs.size
   rw[heap3,hsz3]
   exact ne_of_lt (Nat.lt_succ_of_lt (fplt b hb))
  ·rcases (f2 b hb).2.2.2.1 with z|z
   ·exact I3.ok.zx b o e z
   ·exact absurd (lt_of_lt_of_le (Heap.lt_size (I3.ok.bs b o e).1) z) (lt_irrefl _)
 have I4:Inv (aU X N' scope cl fp s3 H3) [] (bE cap Y) H3 {s2 with heap:=im,toks:=s2.toks+([]:List (Str×Value)).length}:=by
  refine⟨okc,by show s2.os=s3.os;rw[hs3],I3.bare,Un.kept (by show ∀b o,s3.heap.get? b=some o->_;rw[heap3];exact kept3),⟨_,(by show im.Ns s3.heap.objs.size _;rw[heap3];exact jp),fun i x v e1 e2 e3=>?_⟩,fun x a h=>?_,(by show H3 s3.heap.objs.size=none;rw[heap3];exact hloc),fun x a h=>I3.gI x a (hcl x a h),fun p hp=>?_,I3.hok.kept kept3,?_⟩
  ·obtain⟨j,h1,h2⟩:=kz e2
   obtain⟨hN,hv,hnl,hk⟩:=hcap i j x h1 e1
   obtain⟨m,_,hl⟩:=I3.loc
   obtain⟨u,r,lk⟩:=hl j x v hN h2 hv
   refine⟨u,r,.inr ⟨hk,?_⟩⟩
   obtain⟨a,ha⟩:=hhas x hk
   rcases lk with ⟨z,_⟩|⟨_,a',z1,z2⟩
   ·exact absurd z hnl
   ·have:a'=a:=by have q:=hcl x a ha;rw[z1] at q;exact Option.some.inj q
    subst this
    obtain⟨o,ho,hd⟩:=z2
    exact⟨a',ha,o,kept3 _ _ ho,hd⟩
  ·obtain⟨v,o,ho,hd⟩:=I3.cell x a (hcl x a h)
   exact⟨v,o,kept3 _ _ ho,hd⟩
  ·have hp':p∈X.pn++pins:=mem_append_left _ (by simpa using (show p∈X.pn++[] from hp))
   obtain⟨z1,z2,z3,z4,z5⟩:=I3'.pin p hp'
   refine⟨kept3 _ _ (by rw[<- heap3];exact z1),z2,(show p.1≠s3.heap.objs.size from ne_of_lt (Heap.lt_size z1)),fun z=>?_,z5⟩
   rcases List.mem_cons.mp (I3'.nr p.1 z) with e|e
   ·exact z3 e
   ·exact z4 e
  ·show (bE cap Y).length=N'.length
   unfold bE
   rw[length_map]
   exact hlen
 have mo:ad s2.heap.objs.size=none:=S1.mu.free hfree2
 obtain⟨Pv,pv0,body,fin⟩:=allp s2.heap.objs.size mo
 have loop:codeAny (model X.prog X.w) X.A (.compLoop (.ListComp elt [⟨tg,iter,ifs,0⟩] scope pos) 0 (.ref it) (.ref s2.heap.objs.size) (aU X N' scope cl fp s3 H3).env)
   (compPost (model X.prog X.w) X.A X.xe use QQ (.ref s2.heap.objs.size) hp3.objs.size) {s2 with heap:=im,toks:=s2.toks+([]:List (Str×Value)).length}:=by
  refine gc (fun n s'=>∃(i:Nat) (gl:St) (Hc:Hp) (acc:List PyData) (dL:Mu),n=xs.length-i/\i<=xs.length/\Inv (aU X N' scope cl fp s3 H3) [] gl Hc s'/\tn i s'.heap/\(∀b∈fp,Hc b=none) /\
   acc.length<=i/\dL s2.heap.objs.size=some acc/\Pv i acc dL/\St0 X.K Hc (bE cap ρ) dL gl/\Ext X.K ad H2 dL Hc) ?_ xs.length
   ⟨0,bE cap Y,H3,[],aF ad s2.heap.objs.size [],by simp,zero_le _,I4,T.keep 0 _ _ st2 (fun b hb o e=>kept3 b o (old3 b o e)),fun b hb=>?_,le_refl _,aT,pv0,?_,?_⟩
  ·rintro n s' ⟨i,gl,Hc,acc,dL,rfl,hi,Ic,tc,frc,hal,hpa,pvi,Sc,Ec⟩
   have stat:∀{Hd:Hp},(∀b∈fp,Hd b=none)->∀b∈fp,uT (aU X N' scope cl fp s3 H3) [] Hd b:=fun hn b hb=>
    ⟨hn b hb,(okc.exf b hb).1,fpst b hb,.inl hb,fun x a h=>(okc.exf b hb).2 x a h,fun p hp=>(f2 b hb).2.2.2.2.2 p (mem_append_left _ (by simpa using (show p∈X.pn++[] from hp)))⟩
   obtain⟨go,stop⟩:=itok _ Hc Ec Sc.mu i
   by_cases hlt:i<xs.length
   ·obtain⟨g1,y1⟩:=go hlt
    refine thn (T.item (aU X N' scope cl fp s3 H3) rfl rfl rfl (fun z=>z) i [] s' gl Hc (fun _ _=>False) Ic (stat frc) tc g1) fun r s4 ⟨u,hr,h4⟩=>?_
    subst hr
    refine thn h4 fun _ s5 ⟨x,H5,I5,r5,y5,st5,fr5⟩=>?_
    obtain⟨d,hd,sm,rd⟩:=y1 x H5 y5
    have I5':=I5.pinned (stat fr5) (T.obj _ _ st5)
    have e5:Ext X.K _ Hc _ H5:=.of_same (U:=dL) sm
    have S5:St0 X.K H5 (bE cap ρ) dL gl:=⟨Sc.mu.Fp e5 sm,Sc.rho.ext Sc.mu e5⟩
    obtain⟨gt,pg,lg⟩:=hg fp s3 H3
    refine thn (pg _ s5 gl H5 x u (fun ap H'=>∃am Z,Ext X.K dL H5 Z H'/\St0 X.K H' am Z ap/\Le (bE cap ρ) am/\c am Z fun b bd=>
      if b=true then te am bd fun d' bn=>bn s2.heap.objs.size=some acc/\(match d' with|.v y=>Pv (i+1) (acc++[y]) (aF bn s2.heap.objs.size (acc++[y]))|_=>False) else bd s2.heap.objs.size=some acc/\Pv (i+1) acc bd) I5' r5
     (lg gl H5 (bE cap ρ) _ (.v d) x _ _ S5 rd (body i d acc dL hd hpa pvi) fun ap am Z H' e' S' q=>⟨am,Z,e',S',q⟩)) fun _ s6 ⟨ii,H6,I6,ld,mt,e6,S6,le6,q6⟩=>?_
    refine thn (hif fp s3 H3 _ s6 ii H6 ld mt _ (fun b H'=>∃Z,Ext X.K mt H6 Z H'/\St0 X.K H' ld Z ii/\if b=true then te ld Z fun d' bn=>bn s2.heap.objs.size=some acc/\(match d' with|.v y=>Pv (i+1) (acc++[y]) (aF bn s2.heap.objs.size (acc++[y]))|_=>False) else Z s2.heap.objs.size=some acc/\Pv (i+1) acc Z)
     I6 S6 q6 fun b Z H' e' S' q=>⟨Z,e',S',q⟩) fun b s7 ⟨H7,I7,lf,e7,S7,q7⟩=>?_
    have again:∀{H9:Hp} {s9:Shared} {acc':List PyData} {lm:Mu},Inv (aU X N' scope cl fp s3 H3) ([]++oJ fp s5.heap) ii H9 s9->acc'.length<=i+1->lm s2.heap.objs.size=some acc'->Pv (i+1) acc' lm->bX X.K lm H9->iM X.K lm H9 (bE cap ρ) ii ->
      Ext X.K ad H2 lm H9->∃m,m<xs.length-i/\∃(i:Nat) (gl:St) (Hc:Hp) (acc:List PyData) (dL:Mu),m=xs.length-i/\i<=xs.length/\Inv (aU X N' scope cl fp s3 H3) [] gl Hc s9/\tn i s9.heap/\(∀b∈fp,Hc b=none) /\
       acc.length<=i/\dL s2.heap.objs.size=some acc/\Pv i acc dL/\St0 X.K Hc (bE cap ρ) dL gl/\Ext X.K ad H2 dL Hc:=fun {H9 s9 acc' lm} I9 l9 p9 v9 m9 r9 e9=>by
     refine⟨xs.length-(i+1),∅,i+1,ii,H9,acc',lm,rfl,hlt,I9.js,T.keep _ _ _ st5 fun b hb o e=>(I9.pin (b,o) (mem_append_right _ (mem_append_right _ (du hb e)))).1,fun b hb=>?_,l9,p9,v9,⟨m9,r9⟩,e9⟩
     obtain⟨o,e,_⟩:=T.obj _ _ st5 b hb
     exact (I9.pin (b,o) (mem_append_right _ (mem_append_right _ (du hb e)))).2.1
    cases b with
    |false=>
     have q8:lf s2.heap.objs.size=some acc/\Pv (i+1) acc lf:=by simpa using q7
     refine sr ?_
     exact again I7 ∅ q8.1 q8.2 S7.mu (S7.rho.le le6) (Ec.trans (e5.trans (e6.trans e7)))
    |true=>
     refine sI ?_
     obtain⟨t8,p8,l8⟩:=he fp s3 H3
     refine thn (p8 _ s7 ii H7 (fun v H'=>∃y io,Ext X.K lf H7 io H'/\St0 X.K H' ld io ii/\Rp X.K io H' y v/\io s2.heap.objs.size=some acc/\Pv (i+1) (acc++[y]) (aF io s2.heap.objs.size (acc++[y]))) I7
      (l8 ii H7 ld lf _ _ S7 (by simpa using q7) fun d' v io H8 e8 S8 r8 q8=>?_)) fun v s8 ⟨v8,H8,I8,r8,y,io,e8,S8,ry,pa8,fy⟩=>?_
     ·obtain⟨q80,q8⟩:=q8
      cases d' with
      |v y=>exact⟨y,io,e8,S8,r8,q80,q8⟩
      |m _=>exact q8.elim
      |s _=>exact q8.elim
      |o _=>exact q8.elim
      |q _=>exact q8.elim
     ·obtain⟨us,hacc,rus⟩:=S8.mu s2.heap.objs.size _ pa8
      have hle:acc.length<=1000:=by omega
      refine thn (nF (X:=aU X N' scope cl fp s3 H3) _ s8 ii H8 (.ref s2.heap.objs.size) [v8] (.ref s2.heap.objs.size) [v] (fun _ H'=>H'=upd H8 s2.heap.objs.size (.lst (us++[v8]))) I8 rfl (.cons r8 .nil) ⟨_,us,v8,rfl,rfl,hacc,by rw[<- rus.length];exact fW hle,rfl⟩) fun _ s9 ⟨_,H9,I9,_,e9⟩=>?_
      subst e9
      have ex:Ext X.K io H8 (aF io s2.heap.objs.size (acc++[y])) (upd H8 s2.heap.objs.size (.lst (us++[v8]))):=jl pa8
      exact again I9 (by rw[length_append,length_singleton];omega) aT fy (S8.mu.set pa8 (rus.append (.cons ry .nil))) ((S8.rho.le le6).ext S8.mu ex) (Ec.trans (e5.trans (e6.trans (e7.trans (e8.trans ex)))))
   ·have ei:i=xs.length:=by omega
    subst ei
    refine thn (T.done (aU X N' scope cl fp s3 H3) rfl rfl rfl (fun z=>z) _ [] s' gl Hc (fun _ _=>False) Ic (stat frc) tc (stop rfl)) fun r s4 ⟨hr,I5⟩=>?_
    subst hr
    obtain⟨m,hn,_⟩:=I5.loc
    have hcC:Hc hp3.objs.size=none:=by have z:Hc s3.heap.objs.size=none:=I5.free;rw[heap3] at z;exact z
    obtain⟨us,hacc,rus⟩:=Sc.mu s2.heap.objs.size _ hpa
    have shr:∀a,dL a=none->gk dL s2.heap.objs.size a=none:=fun a e=>by
     unfold gk
     split
     ·rfl
     ·exact e
    have dne:∀a ds,gk dL s2.heap.objs.size a=some ds->dL a=some ds:=fun a ds e=>by
     unfold gk at e
     split at e
     ·cases e
     ·exact e
    have eF:Ext X.K ad H2 (gk dL s2.heap.objs.size) Hc:=by
     refine⟨Ec.keep,Ec.tb,fun b ds q=>?_,fun b q z=>shr b (Ec.fresh b q z)⟩
     obtain⟨es,q2⟩:=Ec.dom b ds q
     have:b≠s2.heap.objs.size:=fun z=>by rw[z,mo] at q;cases q
     exact⟨es,by unfold gk;rw[if_neg this];exact q2⟩
    have mF:bX X.K (gk dL s2.heap.objs.size) Hc:=⟨fun a ds q=>by
     obtain⟨ys,z1,z2⟩:=Sc.mu a ds (dne a ds q)
     exact⟨ys,z1,z2.shrink shr⟩,Sc.mu.tab⟩
    refine hend s4 Hc hp3.objs.size s2.heap.objs.size m acc (gk dL s2.heap.objs.size) (by have z:s4.heap.Ns s3.heap.objs.size m:=hn;rw[heap3] at z;exact z) (I2.DC (by rw[hsz3];exact le_succ _) hcC) (fun h' hs'=>?_) (e1.trans eF) ⟨mF,S1.rho.ext S1.mu eF⟩ (Rp.list hacc (by unfold gk;rw[if_pos rfl]) (rus.shrink shr)) (fin acc dL pvi hpa)
    have kp:∀b o,b<s2.heap.objs.size->s4.heap.get? b=some o->h'.get? b=some o:=fun b o hb e=>hs'.extBut b o (by rw[hsz3];exact ne_of_lt (Nat.lt_succ_of_lt hb)) e
    have hok':HOk X.prog X.w Hc h':=fun b ob e=>by
     refine (I5.hok b ob e).pz (fun cc v hcc q=>hs'.extBut cc v ?_ q) (fun _ q=>q) fun _ _ q=>q
     rintro rfl
     rcases hcc with z|z
     ·rw[<- z,hcC] at e;cases e
     ·rw[hcC] at z;cases z
    have u1:Un (frs X.stack) fp H2 H3 s2.heap s3.heap:=by rw[heap3,hH3];exact Un.laid old3 (le_refl _) hfree2
    have u2:Un (frs X.stack) fp H3 Hc s3.heap s4.heap:=I5.base
    exact I2.uR (ch:=fp) (by show s4.os=s2.os;have z:s4.os=s3.os:=I5.os;rw[z,hs3]) (Un.after (u1.trans u2) kp) hok' I5.bare fun b hb=>⟨(f2 b hb).2.2.2.1,(f2 b hb).2.1,(f2 b hb).2.2.2.2.1,(f2 b hb).2.2.2.2.2⟩
  ·have z:b≠s2.heap.objs.size:=ne_of_lt (fplt b hb)
   rw[hH3,bB z]
   exact (f2 b hb).1
  ·have ex:=jZ (o:=.lst []) (ds:=[]) S1.mu hfree2 hK2
   rw[hH3]
   exact⟨S1.mu.mut .nil hfree2 hK2,(S1.rho.ext S1.mu ex).cap⟩
  ·rw[hH3]
   exact jZ (o:=.lst []) (ds:=[]) S1.mu hfree2 hK2
 have envE:(aU X N' scope cl fp s3 H3).env=compEnvC scope cl hp3.objs.size X.env:=by show compEnvC scope cl s3.heap.objs.size X.env=_;rw[heap3]
 rw[envE] at loop
 exact codeAny_compStart_list loop (T.self X.A 0 _ _ _ (T.keep 0 _ _ st2 (fun b hb o e=>kept3 b o (old3 b o e))) loop)
theorem u6{X:Cx}{N':List Str}{scope:Scope}{cl:List (Str×Addr)}{elt iter tg:Expr}{ifs:List Expr}{pos:Pos}{cap:List (Option Nat)}{src:DTI}{g:DTG}{c:DTT}{te:DTE}(hc:X.calm=X.calm)
  (hi:DI X tg iter src) (hg:∀fp ce db,DG (aU X N' scope cl fp ce db) tg g) (hif:∀fp ce db,zI (aU X N' scope cl fp ce db) ifs c) (he:∀fp ce db,DE (aU X N' scope cl fp ce db) elt te)
  (hclos:closureFor scope X.env=pure cl) (hcell:∀y∈scope.names,y.2≠.cell) (hkind:scope.kind = .function) (hnames:∀y∈scope.names,y.2 = .local->scope.names.lookup y.1=some .local)
  (hcl:∀x a,cl.lookup x=some a->X.env.cells.lookup x=some a) (hhas:∀x,(relabel scope X.env).names.lookup x=some .cell\/(relabel scope X.env).names.lookup x=some .free->∃a,cl.lookup x=some a)
  (hlen:cap.length=N'.length) (hcap:∀(i j:Nat) (x:Str),cap[i]? = some (some j)->N'[i]? = some x->X.N[j]? = some x/\Vis X.env.scope x/\X.env.kindOf x≠some .local/\((relabel scope X.env).names.lookup x=some .cell\/(relabel scope X.env).names.lookup x=some .free))
  (hs:∀x,foldedSetIterable iter X.env x=pure x:=by intro _;rfl):DE X (.ListComp elt [⟨tg,iter,ifs,0⟩] scope pos) (dq cap src g c te):=by
 refine zM fun pins s Y H ρ U Qd Q I S h k=>?_
 rw[eval_ListComp]
 refine wY hc hi hg hif he hclos hcell hkind hnames hcl hhas hlen hcap hs I S h fun s4 Hc C pa m acc ln hn _ hI e1 S1 r q=>?_
 exact⟨m,hn,fun h' hs'=>⟨.ref pa,Hc,hI h' hs',rfl,k (.v (.list acc)) _ ln Hc e1 S1 r q⟩⟩
theorem ns_obj{h:Heap}{C:Addr}{m:Str->Option Value}(hn:h.Ns C m):∃o,h.get? C=some o/\∀v,o.data≠.cell v:=let ⟨o,es,ep,ho,hd,_⟩:=hn;⟨o,ho,fun v z=>by rw[hd] at z;cases z⟩
theorem Ia{h h':Heap}{C:Addr}{m:Str->Option Value}(hn:h.Ns C m)(e:h'.get? C=h.get? C):h'.Ns C m:=let ⟨o,es,ep,ho,r⟩:=hn;⟨o,es,ep,e.trans ho,r⟩
theorem nN{X:Cx}{i:Nat}{x:Str}{pos' spos:Pos}{N':List Str}{scope:Scope}{cl:List (Str×Addr)}{elt iter tg:Expr}{ifs:List Expr}{pos:Pos}{cap:List (Option Nat)}{src:DTI}{g:DTG}{c:DTT}{te:DTE}(hN:X.N.Nodup)(hix:X.N[i]? = some x)(hx:X.env.scope.names.lookup x=some .local)(hc:X.calm=X.calm)
  (hi:DI X tg iter src) (hg:∀fp ce db,DG (aU X N' scope cl fp ce db) tg g) (hif:∀fp ce db,zI (aU X N' scope cl fp ce db) ifs c) (he:∀fp ce db,DE (aU X N' scope cl fp ce db) elt te)
  (hclos:closureFor scope X.env=pure cl) (hcell:∀y∈scope.names,y.2≠.cell) (hkind:scope.kind = .function) (hnames:∀y∈scope.names,y.2 = .local->scope.names.lookup y.1=some .local)
  (hcl:∀x a,cl.lookup x=some a->X.env.cells.lookup x=some a) (hhas:∀x,(relabel scope X.env).names.lookup x=some .cell\/(relabel scope X.env).names.lookup x=some .free->∃a,cl.lookup x=some a)
  (hlen:cap.length=N'.length) (hcap:∀(i j:Nat) (x:Str),cap[i]? = some (some j)->N'[i]? = some x->X.N[j]? = some x/\Vis X.env.scope x/\X.env.kindOf x≠some .local/\((relabel scope X.env).names.lookup x=some .cell\/(relabel scope X.env).names.lookup x=some .free))
  (hs:∀x,foldedSetIterable iter X.env x=pure x:=by intro _;rfl)
  (hsw:swapsWith (.ListComp elt [⟨tg,iter,ifs,0⟩] scope pos) (some (.Name x pos')) spos.line X.env=pure true:=by rfl):DS X (.Assign [.Name x pos'] (.ListComp elt [⟨tg,iter,ifs,0⟩] scope pos) spos) (bt (dq cap src g c te) (ao i)):=by
 refine⟨fun D Y H=>∃ρ U Dd,St0 X.K H ρ U Y/\bt (dq cap src g c te) (ao i) Dd ρ U/\(∀ap am Z H',Ext X.K U H Z H'->St0 X.K H' am Z ap->Dd.nx am Z->D.nx ap H'),?_,fun Y H ρ U Dd De S h k1 k2 k3 k4=>⟨ρ,U,Dd,S,h,k1⟩⟩
 rintro pins s Y H D I ⟨ρ,U,Dd,S,h,k1⟩
 rw[exec_Assign_Name_used _ _ _ _ hsw]
 refine wpAny_bind (wpAny_standAt ?_)
 show wpAny _ _ ((comprehension (.ListComp elt [⟨tg,iter,ifs,0⟩] scope pos) scope X.env (firstIterPos [⟨tg,iter,ifs,0⟩] pos) (newList []) false (eval iter X.env) (some (assign (.Name x pos') X.env))>>=fun _=>pure ())>>=_) _ _ s
 refine wpAny_bind (wpAny_bind (wY (Qd:=fun d ad=>ao i d ρ ad Dd.nx) hc hi hg hif he hclos hcell hkind hnames hcl hhas hlen hcap hs I S h fun s4 Hc C pa m acc ln hn fC hI e1 S1 r q=>?_))
 have I4:Inv X pins Y Hc s4:=hI s4.heap (Heap.SameBut.refl _ _)
 obtain⟨oC,hoC,hdC⟩:∃o,s4.heap.get? C=some o/\∀v,o.data≠.cell v:=by
  obtain⟨o,h1,h2⟩:=ns_obj hn
  exact⟨o,h1,h2⟩
 have I5:=I4.pinned (fp:=[C]) (fun b hb=>by rw[List.mem_singleton.mp hb];exact fC) (fun b hb=>by rw[List.mem_singleton.mp hb];exact⟨oC,hoC,hdC⟩)
 show wpAny _ _ (assign (.Name x pos') X.env (.ref pa)) _ _ s4
 refine wpAny_assign_Name (jy I5 hN hix (Or.inl hx) (show RelV (.ref pa) (.ref pa) from rfl) (fun s' I'=>?_) (.inr hx))
 have keepC:s'.heap.get? C=some oC:=(I'.pin (C,oC) (mem_append_right _ (mem_append_right _ (du (List.mem_singleton.mpr rfl) hoC)))).1
 have hn':s'.heap.Ns C m:=Ia hn (by rw[keepC,hoC])
 refine⟨m,hn',fun h' hs'=>wpAny_pure (wpAny_pure ?_)⟩
 refine⟨Y.set i (some (.ref pa)),Hc,?_,k1 _ _ _ _ e1 ⟨S1.mu,S1.rho.set (d:=.v (.list acc)) r⟩ q⟩
 refine I'.js.uR (ch:=[C]) rfl ⟨fun b o e n hb hx=>?_,fun b o e n hb hx=>?_,fun b o e n hx=>n,fun b o e hx=>?_,fun b xs e=>e,fun b o u e=>e,fun b ps e=>⟨#[],by rw[Array.append_empty];exact e⟩⟩ ?_ I'.bare fun b hb=>?_
 ·exact hs'.extBut b o (fun z=>hx (List.mem_singleton.mpr z)) e
 ·exact⟨o.slots,hs'.extBut b o (fun z=>hx (List.mem_singleton.mpr z)) e⟩
 ·exact⟨o,hs'.extBut b o (fun z=>hx (List.mem_singleton.mpr z)) e⟩
 ·exact fun b ob e=>by
   refine (I'.hok b ob e).pz (fun cc v hcc q=>hs'.extBut cc v ?_ q) (fun _ q=>q) fun _ _ q=>q
   rintro rfl
   rcases hcc with z|z
   ·rw[<- z,fC.1] at e;cases e
   ·rw[fC.1] at z;cases z
 ·rw[List.mem_singleton.mp hb]
  exact⟨fC.2.2.2.1,fC.2.1,fC.2.2.2.2.1,fC.2.2.2.2.2⟩
theorem lF{cap:List (Option Nat)}{src:DTI}{g:DTG}{t:DTT}{ta:DTE}{ρ:Rho}{U:Mu}{Q:DK}:dq cap src g t ta ρ U Q=src ρ U fun xs ad=>xs.length<=1000/\∀p,ad p=none->∃Pv:Nat->List PyData->Mu->Prop,Pv 0 [] (aF ad p []) /\
 (∀i x acc Z,xs[i]? = some x->Z p=some acc->Pv i acc Z->g (.v x) (bE cap ρ) Z fun cr al=>Le (bE cap ρ) cr/\t cr al fun b bd=>
  if b=true then ta cr bd fun d bn=>bn p=some acc/\(match d with|.v y=>Pv (i+1) (acc++[y]) (aF bn p (acc++[y]))|_=>False) else bd p=some acc/\Pv (i+1) acc bd) /\
 (∀acc Z,Pv xs.length acc Z->Z p=some acc->Q (.v (.list acc)) (gk Z p)):=propext Iff.rfl
theorem wR{U:Mu}{p:Addr}{ds:List PyData}(h:U p=none):gk (aF U p ds) p=U:=by
 funext b
 unfold gk aF
 by_cases e:b=p
 ·rw[if_pos e,e,h]
 ·rw[if_neg e,if_neg e]
section
variable {X:Cx}{es:List Expr}{x1:Nat}{tpos:Pos}
def FV:List PyData->List PyData->List PyData
 |x::xs,y::ys=>.tuple [x,y]::FV xs ys
 |_,_=>[]
end
section
variable {X:Cx}{a b e:Expr}{es:List Expr}{ta tb te:DTE}{t:DTA}{p pos:Pos}
def lq:List D->Mu->DK->Prop:=fun xs U Q=>match xs with
 |[.v (.list ys)]=>Q (.v (.tuple ys)) U
 |[.v (.tuple ys)]=>Q (.v (.tuple ys)) U
 |[.m l]=>(match U l with|some ys=>Q (.v (.tuple ys)) U|none=>False)
 |_=>False
theorem Fd{K:PySem.W.Frag}:jd K (fun xs H Q=>∃p ys,xs=[.ref p]/\((SqL K H p ys/\∀l,H l=none->Q (.ref l) (upd H l (.tup ys)))\/(SqT K H p ys/\Q (.ref p) H))) lq:=by
 intro xs us H U Qd Q ok rs h k
 unfold lq at h
 split at h
 ·cases rs with
  |cons r1 r2=>
   cases r2
   cases r1 with
   |list hs hn r=>exact⟨_,_,rfl,.inl ⟨SqL.of hs,fun l hl=>k (.v _) _ U _ (cP hl) (ok.new hl) (gX ok r hl) h⟩⟩
 ·cases rs with
  |cons r1 r2=>
   cases r2
   cases id r1 with
   |tuple hs r=>exact⟨_,_,rfl,.inr ⟨hs,k (.v _) _ U H .refl ok r1 h⟩⟩
 ·cases rs with
  |cons r1 r2=>
   cases r2
   obtain⟨rfl,ds,hm⟩:=r1
   rw[hm] at h
   obtain⟨us,hl,r⟩:=ok _ ds hm
   exact⟨_,_,rfl,.inl ⟨SqL.of hl,fun l hl'=>k (.v _) _ U _ (cP hl') (ok.new hl') (gX ok r hl') h⟩⟩
 ·exact h.elim
theorem AE(hg:Gl X "tuple")(hm:X.mg "tuple"=none)(ha:DA X (e::es) t)
  (he:starEach (e::es) X.env=(false,eval e X.env)::starEach es X.env:=by rfl) (hpl:(backTo pos (starEach es X.env)).any (·.1)=false:=by rfl):DE X (.Call (.Name "tuple" p) (e::es) [] pos) (dCB lq t):=
 kB vR Fd hg hm PyProof.Rows.Boot.«tuple» ha ⋯ ⋯ he hpl
theorem pK{ys:List PyData}{U:Mu}{Q:DK}:lq [.v (.list ys)] U Q=Q (.v (.tuple ys)) U:=propext Iff.rfl
theorem oY{l:Addr}{U:Mu}{Q:DK}:lq [.m l] U Q=(match U l with|some ys=>Q (.v (.tuple ys)) U|none=>False):=propext Iff.rfl
theorem RpL.rep{K:PySem.W.Frag}{U:Mu}{H:Hp}{ds:List PyData}{us:List V}(r:RpL K U H ds us):∀n:Nat,RpL K U H (List.replicate n ds).flatten (List.replicate n us).flatten
 |0=>.nil
 |n+1=>by rw[replicate_succ,flatten_cons,replicate_succ,flatten_cons];exact r.append (RpL.rep r n)
end
theorem cl1{k:Str}{v:Addr}{r:List (Str×Addr)}{x:Str}{a:Addr}(h:List.lookup x [(k,v)]=some a):List.lookup x ((k,v)::r)=some a:=by
 simp only[lookup_cons] at h ⊢
 cases e:x==k with
 |true=>rw[e] at h;exact h
 |false=>rw[e] at h;exact absurd h (by simp)
theorem cl2{k k':Str}{v v':Addr}{r:List (Str×Addr)}{x:Str}{a:Addr}(n:(k==k')=false)(h:List.lookup x [(k,v)]=some a):List.lookup x ((k',v')::(k,v)::r)=some a:=by
 have g:=cl1 (r:=r) h
 simp only[lookup_cons] at h
 cases e:x==k with
 |true=>
  have e':x=k:=by simpa using e
  subst e'
  rw[lookup_cons,n]
  exact g
 |false=>rw[e] at h;exact absurd h (by simp)
section
variable {X:Cx}{e:Expr}{es:List Expr}{t:DTA}{p pos:Pos}
theorem sW:∀{ns:List Int} {us:List Value},Vals (ns.map V.int) us->PyProof.Rows.IntsAre us ns
 |[],_,.nil=>.nil
 |n::r,_,.cons h t=>by obtain⟨tk,rfl⟩:=h;exact .cons n tk (sW t)
theorem D3(hc:X.calm=true):fU X (.builtin "sum") (fun xs H Q=>∃(p:Addr) (ns:List Int),xs=[.ref p]/\H p=some (.lst (ns.map V.int))/\Q (.int ns.sum) H):=by
 intro pins s Y H xs us Q I r h
 obtain⟨l,ns,rfl,hl,q⟩:=h
 obtain⟨u,rfl,rx⟩:=vals1 r
 cases rx
 obtain⟨its,rv,pl,_⟩:=I.list (SqL.of hl)
 have hi:=sW rv
 have hL:=pl.isList
 obtain⟨xs,hx⟩:=hi.allInts.items
 have hn:numsOf its.toArray.toList=ns:=by rw[show its.toArray.toList=its from rfl,hi.numsOf]
 rw[hx] at hL hn
 rw[nums_intItems] at hn
 refine sum_intListG (I.ok.hd hc) hL fun h' tk t' hk=>?_
 rw[preSum_eq,List.take_of_length_le (by simp),hn]
 exact⟨.int ns.sum,H,I.kept hk,⟨_,rfl⟩,q⟩
def bZ:List PyData->Option (List Int)
 |[]=>some []
 |.int b::r=>(bZ r).map (b::·)
 |_::_=>none
theorem nI{K:PySem.W.Frag}{U:Mu}{H:Hp}:∀{xs:List PyData} {us:List V} {bs:List Int},RpL K U H xs us->bZ xs=some bs->us=bs.map V.int
 |_,_,_,.nil,e=>by cases e;rfl
 |.int b::r,_,bs,.cons h t,e=>by
  simp only[bZ] at e
  cases q:bZ r with
  |none=>rw[q] at e;cases e
  |some cs=>rw[q] at e;cases e;cases h;rw[nI t q];rfl
 |.none::r,_,bs,.cons h t,e=>by simp[bZ] at e
 |.bool _::r,_,bs,.cons h t,e=>by simp[bZ] at e
 |.str _::r,_,bs,.cons h t,e=>by simp[bZ] at e
 |.list _::r,_,bs,.cons h t,e=>by simp[bZ] at e
 |.tuple _::r,_,bs,.cons h t,e=>by simp[bZ] at e
 |.dict _::r,_,bs,.cons h t,e=>by simp[bZ] at e
def wz:List D->Mu->DK->Prop:=fun xs U Q=>match xs with
 |[.v (.list ys)]=>(match bZ ys with|some bs=>Q (.v (.int bs.sum)) U|none=>False)
 |_=>False
theorem Ld{K:PySem.W.Frag}:jd K (fun xs H Q=>∃(p:Addr) (ns:List Int),xs=[.ref p]/\H p=some (.lst (ns.map V.int))/\Q (.int ns.sum) H) wz:=by
 intro xs us H U Qd Q ok rs h k
 unfold wz at h
 split at h
 ·rename_i ys
  cases q:bZ ys with
  |none=>rw[q] at h;exact h.elim
  |some bs=>
   rw[q] at h
   cases rs with
   |cons r1 r2=>
    cases r2
    cases r1 with
    |list hs hn r=>exact⟨_,bs,rfl,by rw[hs,nI r q],k (.v _) _ U H .refl ok (Rp.int _) h⟩
 ·exact h.elim
theorem Fy(hc:X.calm=true)(hg:Gl X "sum")(hm:X.mg "sum"=none)(ha:DA X (e::es) t)
  (he:starEach (e::es) X.env=(false,eval e X.env)::starEach es X.env:=by rfl) (hpl:(backTo pos (starEach es X.env)).any (·.1)=false:=by rfl):DE X (.Call (.Name "sum" p) (e::es) [] pos) (dCB wz t):=
 gw (D3 hc) Ld hg hm PyProof.Rows.Boot.«sum» ha ⋯ ⋯ he hpl
theorem GK{ys:List PyData}{U:Mu}{Q:DK}:wz [.v (.list ys)] U Q=(match bZ ys with|some bs=>Q (.v (.int bs.sum)) U|none=>False):=propext Iff.rfl
end
section
variable {X:Cx}{e tg:Expr}{te:DTE}{td:DTS}{pos:Pos}
noncomputable def Fs(te:DTE)(g:DTG)(tb:DTS):DTS:=fun Dd ρ U=>te ρ U fun d ad=>match d with
 |.m l=>∃xs,ad l=some xs/\∃Pv:Nat->Rho->Mu->Prop,Pv 0 ρ ad/\(∀i am Z,Pv i am Z->Z l=some xs) /\
   (∀i x am Z,xs[i]? = some x->Pv i am Z->g (.v x) am Z fun cr al=>tb {Dd with nx:=Pv (i+1),ct:=Pv (i+1),bk:=Dd.nx} cr al)/\(∀am Z,Pv xs.length am Z->Dd.nx am Z)
 |_=>False
theorem Hn{body:List Stmt}{g:DTG}(hp:PassesOwn (model X.prog X.w) X.A X.env X.xe)(hc:X.calm=true)(hi:DE X e te)(hg:DG X tg g)(hb:DSs X body td)
  (hs:∀x,foldedSetIterable e X.env x=pure x:=by intro _;rfl):DS X (.For tg e body [] pos) (Fs te g td):=by
 obtain⟨t0,p0,l0⟩:=hi
 obtain⟨t1,p1,l1⟩:=hg
 obtain⟨t2,p2,l2⟩:=hb
 refine⟨_,GF hp hc (Dl p0) p1 p2 hs,fun Y H ρ U Dd De S h k1 k2 k3 k4=>?_⟩
 refine l0 Y H ρ U _ _ S h fun d u ad H1 e1 S1 r h1=>?_
 split at h1
 ·rename_i l
  obtain⟨xs,hl,Pv,pv0,pz,turn,fin⟩:=h1
  obtain⟨rfl,_⟩:=r
  obtain⟨us0,hus0,_⟩:=S1.mu l xs hl
  refine⟨l,rfl,⟨us0,SqL.of hus0⟩,?_⟩
  refine⟨fun i m ap H'=>m=xs.length-i/\i<=xs.length/\∃am Z,Ext X.K ad H1 Z H'/\St0 X.K H' am Z ap/\Pv i am Z,⟨xs.length,by simp,zero_le _,ρ,ad,.refl,S1,pv0⟩,?_⟩
  rintro i m ap H' ⟨rfl,hi,am,Z,e2,S2,pv⟩
  obtain⟨us,hus,ra⟩:=S2.mu l xs (pz i am Z pv)
  by_cases hlt:i<xs.length
  ·have hiu:i<us.length:=by rw[<- ra.length];exact hlt
   refine .inr ⟨⟨us,us[i],SqL.of hus,by simp[hiu]⟩,fun no H2=>∃cr al,Ext X.K ad H1 al H2/\St0 X.K H2 cr al no/\Pv (i+1) cr al,fun no H2 q=>⟨xs.length-(i+1),∅,rfl,hlt,q⟩,fun x H2 yl=>?_⟩
   obtain⟨eH,hx⟩:=yl
   subst eH
   obtain⟨u',h1',h2'⟩:=ra.get (i:=i) (d:=xs[i]) (by simp[hlt])
   have hx':=hx us (SqL.of hus)
   rw[h1'] at hx'
   cases hx'
   refine l1 ap H2 am Z (.v xs[i]) _ _ _ S2 h2' (turn i xs[i] am Z (by simp[hlt]) pv) fun po u8 bn H4 e4 S4 h4=>?_
   have nxt:∀a b c dd,Ext X.K bn H4 c dd->St0 X.K dd b c a->Pv (i+1) b c->∃cr al,Ext X.K ad H1 al dd/\St0 X.K dd cr al a/\Pv (i+1) cr al:=fun a b c dd e5 S5 q=>⟨b,c,e2.trans (e4.trans e5),S5,q⟩
   have ee:=e1.trans (e2.trans e4)
   exact l2 po H4 u8 bn _ _ S4 h4 nxt (fun a b c d e5=>k2 a b c d (ee.trans e5)) (fun a b c d e5=>k1 a b c d (ee.trans e5)) nxt
  ·have ei:i=xs.length:=by omega
   subst ei
   exact .inl ⟨⟨us,SqL.of hus,by rw[<- ra.length];omega⟩,k1 ap am Z H' (e1.trans e2) S2 (fin am Z pv)⟩
 ·exact h1.elim
theorem Km{g:DTG}{tb:DTS}{Dd:kc}{ρ:Rho}{U:Mu}:Fs te g tb Dd ρ U=te ρ U fun d ad=>match d with
 |.m l=>∃xs,ad l=some xs/\∃Pv:Nat->Rho->Mu->Prop,Pv 0 ρ ad/\(∀i am Z,Pv i am Z->Z l=some xs) /\
   (∀i x am Z,xs[i]? = some x->Pv i am Z->g (.v x) am Z fun cr al=>tb {Dd with nx:=Pv (i+1),ct:=Pv (i+1),bk:=Dd.nx} cr al)/\(∀am Z,Pv xs.length am Z->Dd.nx am Z)
 |_=>False:=propext Iff.rfl
end
section
variable {X:Cx}{a b c:Expr}{ta tb tc:DTE}{pos:Pos}
theorem GI{op op':CmpOp}{rr rr':R2}{r r':D->D->Mu->DK->Prop}(ho:OpR X (compareOp op) rr)(lo:d8 X.K rr r)(ho':OpR X (compareOp op') rr')(lo':d8 X.K rr' r')(ha:DE X a ta)(hb:DE X b tb)(hc:DE X c tc)
  (hm:lastMarks [op,op'] [b,c]=false:=by with_unfolding_all rfl):DT X (.Compare a [op,op'] [b,c] pos) (dB (ot r r' ta tb tc)):=by
 obtain⟨t1,p1,l1⟩:=ha
 obtain⟨t2,p2,l2⟩:=hb
 obtain⟨t3,p3,l3⟩:=hc
 refine⟨_,Gb ho ho' p1 p2 p3 hm,qZ (fun Y H ρ U Qd Q S h k=>?_)⟩
 refine l1 Y H ρ U _ _ S h fun x ux ad H1 e1 S1 rx h1=>?_
 refine l2 Y H1 ρ ad _ _ S1 h1 fun y uy al H2 e2 S2 ry h2=>?_
 refine lo x y ux uy H2 al _ _ S2.mu (rx.ext S1.mu e2) ry h2 fun z uz bd H3 e3 ok3 rz h3=>?_
 have S3:St0 X.K H3 ρ bd Y:=⟨ok3,S2.rho.ext S2.mu e3⟩
 split at h3
 ·rename_i kk
  cases rz
  refine⟨kk,rfl,?_⟩
  cases kk with
  |true=>
   refine sI ?_
   refine l3 Y H3 ρ bd _ _ S3 (by simpa using h3) fun w uw bn H4 e4 S4 rw' h4=>?_
   exact lo' y w uy uw H4 bn _ _ S4.mu ((ry.ext S2.mu e3).ext S3.mu e4) rw' h4 fun d u Z H' e5 ok r q=>k d u Z H' (e1.trans (e2.trans (e3.trans (e4.trans e5)))) ⟨ok,S4.rho.ext S4.mu e5⟩ r q
  |false=>exact sr (k (.v (.bool false)) _ bd H3 (e1.trans (e2.trans e3)) S3 (Rp.bool false) (by simpa using h3))
 ·exact h3.elim
theorem cl3{k k':Str}{v v':Addr}{x:Str}{a:Addr}(n:(k==k')=false)(h:List.lookup x [(k,v),(k',v')]=some a):List.lookup x [(k',v'),(k,v)]=some a:=by
 simp only[lookup_cons,List.lookup_nil] at h ⊢
 cases e:x==k with
 |true=>
  have e':x=k:=by simpa using e
  subst e'
  rw[e] at h
  rw[n]
  exact h
 |false=>
  rw[e] at h
  cases e2:x==k' with
  |true=>rw[e2] at h;exact h
  |false=>rw[e2] at h;exact absurd h (by simp)
end
section
variable {X:Cx}{o e:Expr}{to te:DTE}{apos cpos pos:Pos}
noncomputable def Kd(to:DTE):DTE:=fun ρ U Q=>to ρ U fun x ad=>match x with
 |.m l=>(match ad l with
  |some xs=>∃d,xs[xs.length-1]? = some d/\Q (.v d) (aF ad l xs.dropLast)
  |none=>False)
 |_=>False
theorem RpL.dropLast{K:PySem.W.Frag}{U:Mu}{H:Hp}:∀{ds:List PyData} {us:List V},RpL K U H ds us->RpL K U H ds.dropLast us.dropLast
 |_,_,.nil=>.nil
 |_,_,.cons h .nil=>.nil
 |_,_,.cons h (.cons h2 t)=>.cons h (RpL.dropLast (.cons h2 t))
theorem RpL.eraseIdx{K:PySem.W.Frag}{U:Mu}{H:Hp}:∀{ds:List PyData} {us:List V} (i:Nat),RpL K U H ds us->RpL K U H (ds.eraseIdx i) (us.eraseIdx i)
 |_,_,_,.nil=>.nil
 |_,_,0,.cons _ t=>t
 |_,_,i+1,.cons h t=>.cons h (RpL.eraseIdx i t)
theorem Jg(ho:DE X o to)(hbase:attributeBase o "pop" X.env (eval o X.env)=eval o X.env:=by rfl)(hline:(apos.endLine==cpos.line)=true:=by rfl) :
  DE X (.Call (.Attribute o "pop" apos) [] [] cpos) (Kd to):=by
 obtain⟨t1,p1,l1⟩:=ho
 refine⟨_,FU plainAttrs_list PySem.F.slot_list_pop PySem.F.type_list_pop Ke p1 hbase hline,fun Y H ρ U Qd Q S h k=>?_⟩
 refine l1 Y H ρ U _ _ S h fun x ux ad H1 e1 S1 rx h1=>?_
 cases x with
 |m l=>
  obtain⟨rfl,ds,hm⟩:=id rx
  obtain⟨us,hl,rl⟩:=S1.mu l ds hm
  refine⟨.inl ⟨rfl,us,SqL.of hl⟩,?_⟩
  dsimp only at h1
  rw[hm] at h1
  obtain⟨d,hd,q⟩:=h1
  obtain⟨u,hu,ru⟩:=rl.get hd
  have ex:Ext X.K ad H1 (aF ad l ds.dropLast) (upd H1 l (.lst us.dropLast)):=jl hm
  exact⟨l,us,u,rfl,rfl,hl,by rw[<- rl.length];exact hu,k (.v d) u _ _ (e1.trans ex) ⟨S1.mu.set hm rl.dropLast,S1.rho.ext S1.mu ex⟩ (ru.ext S1.mu ex) q⟩
 |v d=>exact h1.elim
 |s ns=>exact h1.elim
 |o _=>exact h1.elim
 |q _=>exact h1.elim
noncomputable def qJ(to te:DTE):DTE:=fun ρ U Q=>to ρ U fun x ad=>match x with
 |.m l=>te ρ ad fun y al=>(match y,al l with
  |.v (.int i),some xs=>(0<=i/\i<1000)/\∃d,xs[i.toNat]? = some d/\Q (.v d) (aF al l (xs.eraseIdx i.toNat))
  |_,_=>False)
 |_=>False
theorem Me{i:Int}{n:Nat}(h0:0<=i)(h:i.toNat<n):seqIndex? i n=some i.toNat:=by
 unfold seqIndex?
 simp only[Option.ite_none_right_eq_some,Option.some.injEq]<;>first|(split<;>(try split)<;>simp_all<;>omega)|(constructor<;>omega)|omega
theorem AJ(ho:DE X o to)(ha:DE X e te)(hbase:attributeBase o "pop" X.env (eval o X.env)=eval o X.env:=by rfl)
  (hfew:((backTo cpos (starEach [e] X.env)).all (fun x=>!x.1)&&(backToKw cpos (keywordEach [] X.env)).all (fun x=>x.1.isSome)
   && decide ([e].length+([]:List Keyword).length+(if ([]:List Keyword).isEmpty then 0 else 1)<30))=true:=by rfl)
  (hline:(apos.endLine==cpos.line)=true:=by rfl) (hs:starEach [e] X.env=(false,eval e X.env)::starEach [] X.env:=by rfl) (hplain:(backTo cpos (starEach [] X.env)).any (·.1)=false:=by rfl) :
  DE X (.Call (.Attribute o "pop" apos) [e] [] cpos) (qJ to te):=by
 obtain⟨t1,p1,l1⟩:=ho
 obtain⟨t2,p2,l2⟩:=ha
 refine⟨_,Aj plainAttrs_list PySem.F.slot_list_pop PySem.F.type_list_pop En p1 (dP p2 kg hs) hbase hfew hline hs hplain,fun Y H ρ U Qd Q S h k=>?_⟩
 refine l1 Y H ρ U _ _ S h fun x ux ad H1 e1 S1 rx h1=>?_
 cases x with
 |m l=>
  obtain⟨rfl,ds,hm⟩:=id rx
  obtain⟨us,hl,rl⟩:=S1.mu l ds hm
  refine⟨.inl ⟨rfl,us,SqL.of hl⟩,?_⟩
  refine l2 Y H1 ρ ad _ _ S1 h1 fun y uy al H2 e2 S2 ry h2=>?_
  obtain⟨_,ds2,hm2⟩:=rx.ext S1.mu e2
  obtain⟨us2,hl2,rl2⟩:=S2.mu l ds2 hm2
  rw[hm2] at h2
  split at h2
  ·rename_i i ds3 e3
   cases e3
   obtain⟨⟨i0,i1⟩,d,hd,q⟩:=h2
   cases ry
   obtain⟨u,hu,ru⟩:=rl2.get hd
   have hlt:i.toNat<us2.length:=by
    rcases lt_or_ge i.toNat us2.length with z|z
    ·exact z
    ·rw[getElem?_eq_none z] at hu;cases hu
   have ex:Ext X.K al H2 (aF al l (ds2.eraseIdx i.toNat)) (upd H2 l (.lst (us2.eraseIdx i.toNat))):=jl hm2
   exact⟨l,us2,i,i.toNat,u,rfl,rfl,hl2,∅,∅,Me i0 hlt,hu,k (.v d) u _ _ (e1.trans (e2.trans ex)) ⟨S2.mu.set hm2 (rl2.eraseIdx _),S2.rho.ext S2.mu ex⟩ (ru.ext S2.mu ex) q⟩
  ·exact h2.elim
 |v d=>exact h1.elim
 |s ns=>exact h1.elim
 |o _=>exact h1.elim
 |q _=>exact h1.elim
noncomputable def Ff(to:DTE):DTT:=fun ρ U Q=>to ρ U fun x ad=>match x with
 |.m l=>(match ad l with|some xs=>Q (!xs.isEmpty) ad|none=>False)
 |_=>False
theorem GV(ho:DE X o to)(he:∀whole,isTrue o X.env whole=(do let v <- whole;standAt o.pos;holding [v] (truthy v)):=by intro _;rfl):DT X o (Ff to):=by
 obtain⟨t1,p1,l1⟩:=ho
 refine⟨_,Ft p1 he,fun Y H ρ U Qd Q S h k=>?_⟩
 refine l1 Y H ρ U _ _ S h fun x ux ad H1 e1 S1 rx h1=>?_
 cases x with
 |m l=>
  obtain⟨rfl,ds,hm⟩:=id rx
  obtain⟨us,hl,rl⟩:=S1.mu l ds hm
  dsimp only at h1
  rw[hm] at h1
  refine⟨!us.isEmpty,.inl ⟨us,SqL.of hl,rfl⟩,?_⟩
  have:us.isEmpty=ds.isEmpty:=by cases rl<;>rfl
  rw[this]
  exact k _ ad H1 e1 S1 h1
 |v d=>exact h1.elim
 |s ns=>exact h1.elim
 |o _=>exact h1.elim
 |q _=>exact h1.elim
noncomputable def Ki(i:Nat)(te:DTE):DTS:=fun Dd ρ U=>∃a:Int,ρ[i]? = some (some (.v (.int a)))/\te ρ U fun y ad=>match y with
 |.v (.int b)=>Dd.nx (ρ.set i (some (.v (.int (a+b))))) ad
 |_=>False
theorem KH{i:Nat}{x:Str}{pos':Pos}(hN:X.N.Nodup)(hi:X.N[i]? = some x)(hx:Loc X.env.scope x)(ha:DE X e te)(hf:X.fn x=true\/X.env.scope.names.lookup x=some .local:=by first|exact .inl rfl|exact .inr rfl|assumption) :
  DS X (.AugAssign (.Name x pos') .Add e pos) (Ki i te):=by
 obtain⟨t1,p1,l1⟩:=ha
 refine⟨_,JB hN hi hx p1 KI hf,fun Y H ρ U Dd De S h k1 k2 k3 k4=>?_⟩
 obtain⟨a,ea,h⟩:=h
 obtain⟨u,hu,ru⟩:=S.rho.2 i _ ea
 cases ru
 refine⟨_,hu,l1 Y H ρ U _ _ S h fun y uy ad H1 e1 S1 ry h1=>?_⟩
 split at h1
 ·cases ry
  exact⟨_,_,rfl,rfl,k1 _ _ ad H1 e1 ⟨S1.mu,S1.rho.set (d:=.v (.int _)) (Rp.int _)⟩ h1⟩
 ·exact h1.elim
end
section
variable {X:Cx}{e:Expr}{es:List Expr}{t:DTA}{p pos:Pos}
theorem DF(hc:X.calm=true):fU X (.builtin "min") (fun xs H Q=>∃(p:Addr) (ns:List Int),xs=[.ref p]/\H p=some (.lst (ns.map V.int))/\0<ns.length/\∀M∈ns,(∀a∈ns,M<=a)->Q (.int M) H):=by
 intro pins s Y H xs us Q I r h
 obtain⟨l,ns,rfl,hl,hne,q⟩:=h
 obtain⟨u,rfl,rx⟩:=vals1 r
 cases rx
 obtain⟨its,rv,pl,_⟩:=I.list (SqL.of hl)
 have hi:=sW rv
 obtain⟨xs,e⟩:=hi.allInts.items
 have hns:ns=xs.toList.map (·.1):=by rw[<- hi.numsOf,<- nums_intItems,<- e]
 have hsz:0<xs.size:=by have h3:=hne;rw[hns,length_map,Array.length_toList] at h3;exact h3
 have hL:=pl.isList
 rw[e] at hL
 refine min_intList (I.ok.hd hc) hL hsz fun v h' tk hv hk=>?_
 obtain⟨t,rfl⟩:=intItems_at hv
 obtain⟨h1,h2⟩:=argBest_lt (numAt xs) (xs.size-1)
 refine⟨.int _,H,I.kept hk,⟨_,rfl⟩,q _ ?_ fun a ha=>?_⟩
 ·rw[hns,numAt_eq];exact getD_mem (by rw[length_map,Array.length_toList];omega)
 ·rw[hns] at ha
  obtain⟨j,hj,rfl⟩:=mem_getD ha
  rw[length_map,Array.length_toList] at hj
  rw[<- numAt_eq];exact h2 j ∅
theorem Em(hc:X.calm=true):fU X (.builtin "max") (fun xs H Q=>∃(p:Addr) (ns:List Int),xs=[.ref p]/\H p=some (.lst (ns.map V.int))/\0<ns.length/\∀M∈ns,(∀a∈ns,a<=M)->Q (.int M) H):=by
 intro pins s Y H xs us Q I r h
 obtain⟨l,ns,rfl,hl,hne,q⟩:=h
 obtain⟨u,rfl,rx⟩:=vals1 r
 cases rx
 obtain⟨its,rv,pl,_⟩:=I.list (SqL.of hl)
 have hi:=sW rv
 obtain⟨xs,e⟩:=hi.allInts.items
 have hns:ns=xs.toList.map (·.1):=by rw[<- hi.numsOf,<- nums_intItems,<- e]
 have hsz:0<xs.size:=by have h3:=hne;rw[hns,length_map,Array.length_toList] at h3;exact h3
 have hL:=pl.isList
 rw[e] at hL
 refine max_intList (I.ok.hd hc) hL hsz fun v h' tk hv hk=>?_
 obtain⟨t,rfl⟩:=intItems_at hv
 obtain⟨h1,h2⟩:=argBest_gt (numAt xs) (xs.size-1)
 refine⟨.int _,H,I.kept hk,⟨_,rfl⟩,q _ ?_ fun a ha=>?_⟩
 ·rw[hns,numAt_eq];exact getD_mem (by rw[length_map,Array.length_toList];omega)
 ·rw[hns] at ha
  obtain⟨j,hj,rfl⟩:=mem_getD ha
  rw[length_map,Array.length_toList] at hj
  rw[<- numAt_eq];exact h2 j ∅
def AG:List D->Mu->DK->Prop:=fun xs U Q=>match xs with
 |[.v (.list ys)]=>(match bZ ys with|some ns=>0<ns.length/\∀M∈ns,(∀a∈ns,M<=a)->Q (.v (.int M)) U|none=>False)
 |_=>False
def zg:List D->Mu->DK->Prop:=fun xs U Q=>match xs with
 |[.v (.list ys)]=>(match bZ ys with|some ns=>0<ns.length/\∀M∈ns,(∀a∈ns,a<=M)->Q (.v (.int M)) U|none=>False)
 |_=>False
theorem HU{K:PySem.W.Frag}:jd K (fun xs H Q=>∃(p:Addr) (ns:List Int),xs=[.ref p]/\H p=some (.lst (ns.map V.int))/\0<ns.length/\∀M∈ns,(∀a∈ns,M<=a)->Q (.int M) H) AG:=by
 intro xs us H U Qd Q ok rs h k
 unfold AG at h
 split at h
 ·rename_i ys
  cases q:bZ ys with
  |none=>rw[q] at h;exact h.elim
  |some ns=>
   rw[q] at h
   cases rs with
   |cons r1 r2=>
    cases r2
    cases r1 with
    |list hs hn r=>exact⟨_,ns,rfl,by rw[hs,nI r q],h.1,fun M hM hle=>k (.v _) _ U H .refl ok (Rp.int _) (h.2 M hM hle)⟩
 ·exact h.elim
theorem Iq{K:PySem.W.Frag}:jd K (fun xs H Q=>∃(p:Addr) (ns:List Int),xs=[.ref p]/\H p=some (.lst (ns.map V.int))/\0<ns.length/\∀M∈ns,(∀a∈ns,a<=M)->Q (.int M) H) zg:=by
 intro xs us H U Qd Q ok rs h k
 unfold zg at h
 split at h
 ·rename_i ys
  cases q:bZ ys with
  |none=>rw[q] at h;exact h.elim
  |some ns=>
   rw[q] at h
   cases rs with
   |cons r1 r2=>
    cases r2
    cases r1 with
    |list hs hn r=>exact⟨_,ns,rfl,by rw[hs,nI r q],h.1,fun M hM hle=>k (.v _) _ U H .refl ok (Rp.int _) (h.2 M hM hle)⟩
 ·exact h.elim
theorem HL(hc:X.calm=true)(hg:Gl X "min")(hm:X.mg "min"=none)(ha:DA X (e::es) t)
  (he:starEach (e::es) X.env=(false,eval e X.env)::starEach es X.env:=by rfl) (hpl:(backTo pos (starEach es X.env)).any (·.1)=false:=by rfl):DE X (.Call (.Name "min" p) (e::es) [] pos) (dCB AG t):=
 gw (DF hc) HU hg hm PyProof.Rows.Boot.«min» ha ⋯ ⋯ he hpl
theorem Ir(hc:X.calm=true)(hg:Gl X "max")(hm:X.mg "max"=none)(ha:DA X (e::es) t)
  (he:starEach (e::es) X.env=(false,eval e X.env)::starEach es X.env:=by rfl) (hpl:(backTo pos (starEach es X.env)).any (·.1)=false:=by rfl):DE X (.Call (.Name "max" p) (e::es) [] pos) (dCB zg t):=
 gw (Em hc) Iq hg hm PyProof.Rows.Boot.«max» ha ⋯ ⋯ he hpl
end
section
variable {X:Cx}{a b:Expr}{ta tb:DTE}{pos:Pos}
theorem rq:fillsNumberSlot (.type "tuple") "mul"=pure false:=
 PySem.fillsNumberSlot_seq (id:="tuple.__mul__") (r:=some (.builtin "tuple.__rmul__")) F.slot_tuple_mul.lookup nofun F.slot_tuple_rmul.lookup nofun
theorem yp:seqRepeat? (.type "tuple")=pure (some (.builtin "tuple.__mul__")):=by
 unfold seqRepeat?
 rw[PySem.seqSlot_of (T:="tuple") (name:="__mul__") (id:="tuple.__mul__") F.slot_tuple_mul.lookup nofun,PySem.seqSlot_of (T:="tuple") (name:="__rmul__") (id:="tuple.__rmul__") F.slot_tuple_rmul.lookup nofun]
 rfl
theorem um(a:Int)(t:Tok)(l:Addr)(o:Obj)(items:Array Value)(n:Nat)(hc:o.cls = .type "tuple")(hd:o.data = .seq items n) :
  Meets (Builtin.«int.__rmul__» ⟨[.int a t,.ref l],[]⟩) (fun _ R s=>s.heap.get? l=some o/\R (.ok (.ret Value.notImplemented)) s):=
 .of_wp fun prog w A R s h=>by
  obtain⟨hp,g,d,tk,os⟩:=s;obtain⟨hl,h⟩:=h
  wp_walk
  rw[hd]
  wp_walk
  exact⟨_,rfl,h⟩
theorem sH(l:Addr)(o:Obj)(items:Array Value)(n:Nat)(k:Int)(u:Tok)(hc:o.cls = .type "tuple")(hd:o.data = .seq items n)(h2:2<=k)(h3:k<=1000)(he:items.isEmpty=false)(hz:items.size*k.toNat<=1000) :
  Meets (Builtin.«tuple.__mul__» ⟨[.ref l,.int k u],[]⟩) (fun _ R s=>s.heap.get? l=some o/\R (.ok (.ret (Value.ref s.heap.objs.size))) {s with heap:=s.heap.push {cls:=Value.type "tuple",data:=Data.seq (List.foldl (fun x1 x2=>x1++x2) #[] (List.replicate k.toNat items))},toks:=s.toks}):=
 .of_wp fun prog w A R s h=>by
  obtain⟨hp,g,d,tk,os⟩:=s;obtain⟨hl,h⟩:=h
  have c1:¬ (decide (k < -2 ^ 63) || decide (k ≥ 2 ^ 63))=true:=by simp;omega
  have c2:¬ (items.isEmpty || k==1)=true:=by rw[he];simp;omega
  have c3:¬ (decide (k<=0) || items.isEmpty)=true:=by rw[he];simp;omega
  have hp':(items.size:Int)*k<=1000:=by
   have:(items.size:Int)*k=((items.size*k.toNat:Nat):Int):=by rw[Int.natCast_mul];congr 1;omega
   omega
  have c4:¬ (items.size:Int)*k>(2 ^ 63-1) / 8:=by
   have:((2:Int) ^ 63-1) / 8>1000:=by decide
   omega
  have c5:¬ Builtin.Tuple.tupleTooMany ((items.size:Int)*k)=true:=by
   unfold Builtin.Tuple.tupleTooMany
   have:(1000:Int)<=(sizeLine:Int):=by decide
   simp only[decide_eq_true_eq];omega
  wp_walk
  rw[if_neg c1]
  wp_walk
  rw[hd]
  refine wpAny_pure (wpAny_pure ?_)
  show wpAny _ _ (if (items.isEmpty || k==1)=true then _ else _) _ _ _
  rw[if_neg c2]
  show wpAny _ _ (if (decide (k<=0) || items.isEmpty)=true then _ else _) _ _ _
  rw[if_neg c3]
  show wpAny _ _ (if (items.size:Int)*k>(2 ^ 63-1) / 8 then _ else _) _ _ _
  rw[if_neg c4]
  show wpAny _ _ (if Builtin.Tuple.tupleTooMany ((items.size:Int)*k)=true then _ else _) _ _ _
  rw[if_neg c5]
  have hsz:¬ (List.foldl (fun x1 x2=>x1++x2) #[] (List.replicate k.toNat items)).size>sizeLine:=by
   have e:∀(m:Nat) (acc:Array Value),(List.foldl (fun x1 x2=>x1++x2) acc (List.replicate m items)).size=acc.size+m*items.size:=by
    intro m
    induction m with
    |zero=>intro acc;simp
    |succ m ih=>intro acc;rw[replicate_succ,foldl_cons,ih,Array.size_append,Nat.succ_mul];omega
   rw[e]
   have:(1000:Nat)<=sizeLine:=by decide
   simp only[size_toArray,length_nil]
   rw[Nat.mul_comm] at hz
   omega
  show wpAny _ _ (Builtin.Tuple.tupleExact (List.foldl (fun x1 x2=>x1++x2) #[] (List.replicate k.toNat items))>>=_) _ _ _
  refine wpAny_bind ?_
  unfold Builtin.Tuple.tupleExact
  refine wpAny_newObj_type ?_ (by first|exact Nat.not_lt.mp hsz|omega|size_fits)
  wp_walk
  exact⟨_,rfl,h⟩
noncomputable def IE(K:PySem.W.Frag):R2:=fun x y H Q=>∃l k xs,x = .ref l/\y = .int k/\SqT K H l xs/\2<=k/\k<=1000/\xs≠[]/\xs.length*k.toNat<=1000 /\
 ∀p,H p=none->Q (.ref p) (upd H p (.tup (List.replicate k.toNat xs).flatten))
theorem Hm:OpR X (binaryOp .Mult) (IE X.K):=by
 intro pins s Y H x y v u Q I rx ry h
 obtain⟨l,k,xs,rfl,rfl,hT,h2,h3,hne,hz,q⟩:=h
 cases rx
 obtain⟨t,rfl⟩:=ry
 obtain⟨its,r,⟨o,ho,hc,n,hd⟩,hzz⟩:=I.tuple hT
 have hl:=r.length
 have he:its.toArray.isEmpty=false:=by
  cases its with
  |nil=>exact absurd (r.sL.mp rfl) hne
  |cons a r'=>simp
 have hnew:List.foldl (fun x1 x2=>x1++x2) #[] (List.replicate k.toNat its.toArray)=(List.replicate k.toNat its).flatten.toArray:=by
  have:=foldl_rep its k.toNat []
  rw[nil_append] at this
  exact this
 refine wpAny_binaryOp_repeat_ref (T:="tuple") (U:="int") ⋯ ⟨_,ho,hc⟩ (fun s'=>typeIs_int s' k t) rq F.fills_int_mul F.slot_int_rmul yp F.slot_int_index.lookup
  (call_meets F.slot_int_rmul (typeIs_int s k t) F.entry_int_rmul (F.args_int_rmul_2 _ _) (um k t l o its.toArray n hc hd)
   ⟨ho,rfl,⟨_,ho,hc⟩,call_meets F.slot_tuple_mul ⟨_,ho,hc⟩ F.entry_tuple_mul (F.args_tuple_mul_2 _ _) (sH l o its.toArray n k t hc hd h2 h3 he (by rw[size_toArray,<- hl];exact hz)) ⟨ho,?_⟩⟩)
 rw[hnew]
 refine⟨.ref s.heap.objs.size,_,I.laid (t':=s.toks) (o:=.tup (List.replicate k.toNat xs).flatten) (fun b ob q=>Heap.get?_push_of_some _ q) (le_refl _) ?_,rfl,q _ (I.hok.fresh (le_refl _))⟩
 exact⟨le_trans (by rw[len_rep,Nat.mul_comm];exact hz) ⋯,_,r.rep k.toNat,IsTup.new _ _⟩
def ug:D->D->Mu->DK->Prop:=fun x y U Q=>match x,y with
 |.v (.tuple xs),.v (.int k)=>(2<=k/\k<=1000/\xs≠[]/\xs.length*k.toNat<=1000)/\Q (.v (.tuple (List.replicate k.toNat xs).flatten)) U
 |_,_=>False
theorem BM{xs:List PyData}{k:Int}{U:Mu}{Q:DK}:ug (.v (.tuple xs)) (.v (.int k)) U Q=((2<=k/\k<=1000/\xs≠[]/\xs.length*k.toNat<=1000)/\Q (.v (.tuple (List.replicate k.toNat xs).flatten)) U):=propext Iff.rfl
theorem HZ{K:PySem.W.Frag}:d8 K (IE K) ug:=by
 intro x y ux uy H U Qd Q ok rx ry h k
 unfold ug at h
 split at h
 ·rename_i xs n
  cases ry
  cases rx with
  |@tuple a us _ ha ra=>
   refine⟨a,n,us,rfl,rfl,ha,h.1.1,h.1.2.1,fun z=>h.1.2.2.1 ?_,by rw[<- ra.length];exact h.1.2.2.2,fun p hp=>?_⟩
   ·subst z;cases ra;rfl
   ·exact k (.v _) _ U _ (cP hp) (ok.new hp) (gX ok (ra.rep _) hp) h.2
 ·exact h.elim
theorem Hq(ha:DE X a ta)(hb:DE X b tb):DE X (.BinOp a .Mult b pos) (dOp ug ta tb):=o4 Hm HZ ha hb
end
noncomputable def yh(cap:List (Option Nat))(src:DTI)(g:DTG)(c:DTT)(elt:DTE):DTE:=fun ρ U Q=>src ρ U fun xs ad=>xs.length<=1000/\∀p,ad p=none->∃Pv:Nat->List PyData->Mu->Prop,Pv 0 [] (aF ad p []) /\
 (∀i x acc Z,xs[i]? = some x->Z p=some acc->Pv i acc Z->g (.v x) (bE cap ρ) Z fun cr al=>Le (bE cap ρ) cr/\c cr al fun b bd=>
  if b=true then elt cr bd fun d bn=>bn p=some acc/\(match d with|.v y=>Pv (i+1) (acc++[y]) (aF bn p (acc++[y]))|_=>False) else bd p=some acc/\Pv (i+1) acc bd) /\
 (∀acc Z,Pv xs.length acc Z->Z p=some acc->Q (.m p) Z)
theorem BR{X:Cx}{pos2:Pos}{use:Option (Value->Sem Unit)}{QQ:Value->Shared->Prop}{pins:List (Addr×Obj)}{s:Shared}{Y:St}{H:Hp}{ρ:Rho}{U:Mu}{Qd:DK}{N':List Str}{scope:Scope}{cl:List (Str×Addr)}{elt iter tg:Expr}{ifs:List Expr}{pos:Pos}{cap:List (Option Nat)}{src:DTI}{g:DTG}{c:DTT}{te:DTE}(hc:X.calm=X.calm)
  (hi:DI X tg iter src) (hg:∀fp ce db,DG (aU X N' scope cl fp ce db) tg g) (hif:∀fp ce db,zI (aU X N' scope cl fp ce db) ifs c) (he:∀fp ce db,DE (aU X N' scope cl fp ce db) elt te)
  (hclos:closureFor scope X.env=pure cl) (hcell:∀y∈scope.names,y.2≠.cell) (hkind:scope.kind = .function) (hnames:∀y∈scope.names,y.2 = .local->scope.names.lookup y.1=some .local)
  (hcl:∀x a,cl.lookup x=some a->X.env.cells.lookup x=some a) (hhas:∀x,(relabel scope X.env).names.lookup x=some .cell\/(relabel scope X.env).names.lookup x=some .free->∃a,cl.lookup x=some a)
  (hlen:cap.length=N'.length) (hcap:∀(i j:Nat) (x:Str),cap[i]? = some (some j)->N'[i]? = some x->X.N[j]? = some x/\Vis X.env.scope x/\X.env.kindOf x≠some .local/\((relabel scope X.env).names.lookup x=some .cell\/(relabel scope X.env).names.lookup x=some .free))
  (hs:∀x,foldedSetIterable iter X.env x=pure x )
  (I:Inv X pins Y H s) (S:St0 X.K H ρ U Y) (h:yh cap src g c te ρ U Qd)
  (hend:∀(s4:Shared) (Hc:Hp) (C pa:Addr) (m:Str->Option Value) (acc:List PyData) (ln:Mu),s4.heap.Ns C m->uT X pins Hc C->(∀h',Heap.SameBut C s4.heap h'->Inv X pins Y Hc {s4 with heap:=h'}) ->
   Ext X.K U H ln Hc->St0 X.K Hc ρ ln Y->RpD X.K ln Hc (.m pa) (.ref pa)->Qd (.m pa) ln->compPost (model X.prog X.w) X.A X.xe use QQ (.ref pa) C (.ok .next) s4) :
  wpAny (model X.prog X.w) X.A (comprehension (.ListComp elt [⟨tg,iter,ifs,0⟩] scope pos) scope X.env pos2 (newList []) false (eval iter X.env) use) QQ X.xe s:=by
 obtain⟨wi,pw,li⟩:=hi
 refine wpAny_comprehension_free rfl hs hclos hkind hnames (thn (pw pins s Y H _ I (li Y H ρ U _ (fun J H1=>∃xs ad,Ext X.K U H ad H1/\St0 X.K H1 ρ ad Y/\Eu X.K J xs ad H1/\xs.length<=1000/\∀p,ad p=none->∃Pv:Nat->List PyData->Mu->Prop,Pv 0 [] (aF ad p []) /\
   (∀i x acc Z,xs[i]? = some x->Z p=some acc->Pv i acc Z->g (.v x) (bE cap ρ) Z fun cr al=>Le (bE cap ρ) cr/\c cr al fun b bd=>
    if b=true then te cr bd fun d bn=>bn p=some acc/\(match d with|.v y=>Pv (i+1) (acc++[y]) (aF bn p (acc++[y]))|_=>False) else bd p=some acc/\Pv (i+1) acc bd) /\
   (∀acc Z,Pv xs.length acc Z->Z p=some acc->Qd (.m p) Z)) S h (fun xs ad H1 J e1 S1 it q=>⟨xs,ad,e1,S1,it,q⟩)))
  fun v s1 h1=>thn h1 fun itv s2 h2=>?_)
 obtain⟨it,fp,tn,J,H2,rfl,I2,T,st2,f2,xs,ad,e1,S1,itok,hxs,allp⟩:=h2
 refine wpAny_newObj_type (wpAny_newFunctionEnv hcell (by intro y hy;simp at hy) (fun im jp j'=>?_) hkind)
 dsimp only at jp j' ⊢
 have hfree2:H2 s2.heap.objs.size=none:=I2.hok.fresh (le_refl _)
 have hK2:X.K.lookup s2.heap.objs.size=none:=by
  cases z:X.K.lookup s2.heap.objs.size with
  |none=>rfl
  |some o=>exact absurd (Heap.lt_size (I2.kIn _ _ z)) (lt_irrefl _)
 have I3:Inv X pins Y (upd H2 s2.heap.objs.size (.lst [])) {s2 with heap:=s2.heap.push {cls:=.type "list",dict:=none,data:=.seq ([]:List Value).toArray}}:=
  I2.laid (t':=s2.toks) (fun b u e=>Heap.get?_push_of_some _ e) (le_refl _) ⟨zero_le _,[],0,.nil,Heap.get?_push_size _ rfl⟩
 generalize hH:s2.heap.push {cls:=.type "list",dict:=none,data:=.seq ([]:List Value).toArray} = hp3 at jp j' I3 ⊢
 have hsz3:hp3.objs.size=s2.heap.objs.size+1:=by rw[<- hH,Heap.size_push]
 have kept3:∀b o,hp3.get? b=some o->im.get? b=some o:=fun b o e=>j'.extBut b o (ne_of_lt (Heap.lt_size e)) (Heap.get?_push_of_some _ e)
 have old3:∀b o,s2.heap.get? b=some o->hp3.get? b=some o:=fun b o e=>by rw[<- hH];exact Heap.get?_push_of_some _ e
 have fplt:∀b∈fp,b<s2.heap.objs.size:=fun b hb=>by obtain⟨o,e,_⟩:=T.obj 0 _ st2 b hb;exact Heap.lt_size e
 have fpst:∀b∈fp,b ∉ frs X.stack:=fun b hb hz=>by
  rcases List.mem_cons.mp (I2.nr b hz) with e|e
  ·exact (f2 b hb).2.1 e
  ·exact (f2 b hb).2.2.1 e
 obtain⟨s3,hs3⟩:∃s3:Shared,s3={s2 with heap:=hp3}:=⟨_,rfl⟩
 obtain⟨H3,hH3⟩:∃H3:Hp,H3=upd H2 s2.heap.objs.size (.lst []):=⟨_,rfl⟩
 have heap3:s3.heap=hp3:=by rw[hs3]
 rw[<- hH3] at I3
 have I3':Inv X pins Y H3 s3:=by rw[hs3];exact I3
 have hloc:H3 hp3.objs.size=none:=by have:=I3'.hok.fresh (a:=hp3.objs.size) (by rw[heap3];exact le_refl _);exact this
 have okc:(aU X N' scope cl fp s3 H3).Ok:=by
  refine⟨I3.ok.mod,?_,I3.ok.glob,I3.ok.blt,le_refl _,fun x y a h1 h2=>I3.ok.inj x y a (hcl x a h1) (hcl y a h2),fun x hx=>hhas x hx,fun x a h=>(nomatch h),I3.ok.hd,I3.ok.qt,I3.ok.frames,.inl rfl,fun b hb=>⟨?_,fun x a h=>(f2 b hb).2.2.2.2.1 x a (hcl x a h)⟩,
   I3'.bs,le_trans I3.ok.bsz I3'.sz,fun b o e hb=>?_,fun b hb=>fpst b hb,I3'.stack,I3'.pd⟩
  ·exact hkind
  ·show b≠s3.heap.objs.size
   rw[heap3,hsz3]
   exact ne_of_lt (Nat.lt_succ_of_lt (fplt b hb))
  ·rcases (f2 b hb).2.2.2.1 with z|z
   ·exact I3.ok.zx b o e z
   ·exact absurd (lt_of_lt_of_le (Heap.lt_size (I3.ok.bs b o e).1) z) (lt_irrefl _)
 have I4:Inv (aU X N' scope cl fp s3 H3) [] (bE cap Y) H3 {s2 with heap:=im,toks:=s2.toks+([]:List (Str×Value)).length}:=by
  refine⟨okc,by show s2.os=s3.os;rw[hs3],I3.bare,Un.kept (by show ∀b o,s3.heap.get? b=some o->_;rw[heap3];exact kept3),⟨_,(by show im.Ns s3.heap.objs.size _;rw[heap3];exact jp),fun i x v e1 e2 e3=>?_⟩,fun x a h=>?_,(by show H3 s3.heap.objs.size=none;rw[heap3];exact hloc),fun x a h=>I3.gI x a (hcl x a h),fun p hp=>?_,I3.hok.kept kept3,?_⟩
  ·obtain⟨j,h1,h2⟩:=kz e2
   obtain⟨hN,hv,hnl,hk⟩:=hcap i j x h1 e1
   obtain⟨m,_,hl⟩:=I3.loc
   obtain⟨u,r,lk⟩:=hl j x v hN h2 hv
   refine⟨u,r,.inr ⟨hk,?_⟩⟩
   obtain⟨a,ha⟩:=hhas x hk
   rcases lk with ⟨z,_⟩|⟨_,a',z1,z2⟩
   ·exact absurd z hnl
   ·have:a'=a:=by have q:=hcl x a ha;rw[z1] at q;exact Option.some.inj q
    subst this
    obtain⟨o,ho,hd⟩:=z2
    exact⟨a',ha,o,kept3 _ _ ho,hd⟩
  ·obtain⟨v,o,ho,hd⟩:=I3.cell x a (hcl x a h)
   exact⟨v,o,kept3 _ _ ho,hd⟩
  ·have hp':p∈X.pn++pins:=mem_append_left _ (by simpa using (show p∈X.pn++[] from hp))
   obtain⟨z1,z2,z3,z4,z5⟩:=I3'.pin p hp'
   refine⟨kept3 _ _ (by rw[<- heap3];exact z1),z2,(show p.1≠s3.heap.objs.size from ne_of_lt (Heap.lt_size z1)),fun z=>?_,z5⟩
   rcases List.mem_cons.mp (I3'.nr p.1 z) with e|e
   ·exact z3 e
   ·exact z4 e
  ·show (bE cap Y).length=N'.length
   unfold bE
   rw[length_map]
   exact hlen
 have mo:ad s2.heap.objs.size=none:=S1.mu.free hfree2
 obtain⟨Pv,pv0,body,fin⟩:=allp s2.heap.objs.size mo
 have loop:codeAny (model X.prog X.w) X.A (.compLoop (.ListComp elt [⟨tg,iter,ifs,0⟩] scope pos) 0 (.ref it) (.ref s2.heap.objs.size) (aU X N' scope cl fp s3 H3).env)
   (compPost (model X.prog X.w) X.A X.xe use QQ (.ref s2.heap.objs.size) hp3.objs.size) {s2 with heap:=im,toks:=s2.toks+([]:List (Str×Value)).length}:=by
  refine gc (fun n s'=>∃(i:Nat) (gl:St) (Hc:Hp) (acc:List PyData) (dL:Mu),n=xs.length-i/\i<=xs.length/\Inv (aU X N' scope cl fp s3 H3) [] gl Hc s'/\tn i s'.heap/\(∀b∈fp,Hc b=none) /\
   acc.length<=i/\dL s2.heap.objs.size=some acc/\Pv i acc dL/\St0 X.K Hc (bE cap ρ) dL gl/\Ext X.K ad H2 dL Hc) ?_ xs.length
   ⟨0,bE cap Y,H3,[],aF ad s2.heap.objs.size [],by simp,zero_le _,I4,T.keep 0 _ _ st2 (fun b hb o e=>kept3 b o (old3 b o e)),fun b hb=>?_,le_refl _,aT,pv0,?_,?_⟩
  ·rintro n s' ⟨i,gl,Hc,acc,dL,rfl,hi,Ic,tc,frc,hal,hpa,pvi,Sc,Ec⟩
   have stat:∀{Hd:Hp},(∀b∈fp,Hd b=none)->∀b∈fp,uT (aU X N' scope cl fp s3 H3) [] Hd b:=fun hn b hb=>
    ⟨hn b hb,(okc.exf b hb).1,fpst b hb,.inl hb,fun x a h=>(okc.exf b hb).2 x a h,fun p hp=>(f2 b hb).2.2.2.2.2 p (mem_append_left _ (by simpa using (show p∈X.pn++[] from hp)))⟩
   obtain⟨go,stop⟩:=itok _ Hc Ec Sc.mu i
   by_cases hlt:i<xs.length
   ·obtain⟨g1,y1⟩:=go hlt
    refine thn (T.item (aU X N' scope cl fp s3 H3) rfl rfl rfl (fun z=>z) i [] s' gl Hc (fun _ _=>False) Ic (stat frc) tc g1) fun r s4 ⟨u,hr,h4⟩=>?_
    subst hr
    refine thn h4 fun _ s5 ⟨x,H5,I5,r5,y5,st5,fr5⟩=>?_
    obtain⟨d,hd,sm,rd⟩:=y1 x H5 y5
    have I5':=I5.pinned (stat fr5) (T.obj _ _ st5)
    have e5:Ext X.K _ Hc _ H5:=.of_same (U:=dL) sm
    have S5:St0 X.K H5 (bE cap ρ) dL gl:=⟨Sc.mu.Fp e5 sm,Sc.rho.ext Sc.mu e5⟩
    obtain⟨gt,pg,lg⟩:=hg fp s3 H3
    refine thn (pg _ s5 gl H5 x u (fun ap H'=>∃am Z,Ext X.K dL H5 Z H'/\St0 X.K H' am Z ap/\Le (bE cap ρ) am/\c am Z fun b bd=>
      if b=true then te am bd fun d' bn=>bn s2.heap.objs.size=some acc/\(match d' with|.v y=>Pv (i+1) (acc++[y]) (aF bn s2.heap.objs.size (acc++[y]))|_=>False) else bd s2.heap.objs.size=some acc/\Pv (i+1) acc bd) I5' r5
     (lg gl H5 (bE cap ρ) _ (.v d) x _ _ S5 rd (body i d acc dL hd hpa pvi) fun ap am Z H' e' S' q=>⟨am,Z,e',S',q⟩)) fun _ s6 ⟨ii,H6,I6,ld,mt,e6,S6,le6,q6⟩=>?_
    refine thn (hif fp s3 H3 _ s6 ii H6 ld mt _ (fun b H'=>∃Z,Ext X.K mt H6 Z H'/\St0 X.K H' ld Z ii/\if b=true then te ld Z fun d' bn=>bn s2.heap.objs.size=some acc/\(match d' with|.v y=>Pv (i+1) (acc++[y]) (aF bn s2.heap.objs.size (acc++[y]))|_=>False) else Z s2.heap.objs.size=some acc/\Pv (i+1) acc Z)
     I6 S6 q6 fun b Z H' e' S' q=>⟨Z,e',S',q⟩) fun b s7 ⟨H7,I7,lf,e7,S7,q7⟩=>?_
    have again:∀{H9:Hp} {s9:Shared} {acc':List PyData} {lm:Mu},Inv (aU X N' scope cl fp s3 H3) ([]++oJ fp s5.heap) ii H9 s9->acc'.length<=i+1->lm s2.heap.objs.size=some acc'->Pv (i+1) acc' lm->bX X.K lm H9->iM X.K lm H9 (bE cap ρ) ii ->
      Ext X.K ad H2 lm H9->∃m,m<xs.length-i/\∃(i:Nat) (gl:St) (Hc:Hp) (acc:List PyData) (dL:Mu),m=xs.length-i/\i<=xs.length/\Inv (aU X N' scope cl fp s3 H3) [] gl Hc s9/\tn i s9.heap/\(∀b∈fp,Hc b=none) /\
       acc.length<=i/\dL s2.heap.objs.size=some acc/\Pv i acc dL/\St0 X.K Hc (bE cap ρ) dL gl/\Ext X.K ad H2 dL Hc:=fun {H9 s9 acc' lm} I9 l9 p9 v9 m9 r9 e9=>by
     refine⟨xs.length-(i+1),∅,i+1,ii,H9,acc',lm,rfl,hlt,I9.js,T.keep _ _ _ st5 fun b hb o e=>(I9.pin (b,o) (mem_append_right _ (mem_append_right _ (du hb e)))).1,fun b hb=>?_,l9,p9,v9,⟨m9,r9⟩,e9⟩
     obtain⟨o,e,_⟩:=T.obj _ _ st5 b hb
     exact (I9.pin (b,o) (mem_append_right _ (mem_append_right _ (du hb e)))).2.1
    cases b with
    |false=>
     have q8:lf s2.heap.objs.size=some acc/\Pv (i+1) acc lf:=by simpa using q7
     refine sr ?_
     exact again I7 ∅ q8.1 q8.2 S7.mu (S7.rho.le le6) (Ec.trans (e5.trans (e6.trans e7)))
    |true=>
     refine sI ?_
     obtain⟨t8,p8,l8⟩:=he fp s3 H3
     refine thn (p8 _ s7 ii H7 (fun v H'=>∃y io,Ext X.K lf H7 io H'/\St0 X.K H' ld io ii/\Rp X.K io H' y v/\io s2.heap.objs.size=some acc/\Pv (i+1) (acc++[y]) (aF io s2.heap.objs.size (acc++[y]))) I7
      (l8 ii H7 ld lf _ _ S7 (by simpa using q7) fun d' v io H8 e8 S8 r8 q8=>?_)) fun v s8 ⟨v8,H8,I8,r8,y,io,e8,S8,ry,pa8,fy⟩=>?_
     ·obtain⟨q80,q8⟩:=q8
      cases d' with
      |v y=>exact⟨y,io,e8,S8,r8,q80,q8⟩
      |m _=>exact q8.elim
      |s _=>exact q8.elim
      |o _=>exact q8.elim
      |q _=>exact q8.elim
     ·obtain⟨us,hacc,rus⟩:=S8.mu s2.heap.objs.size _ pa8
      have hle:acc.length<=1000:=by omega
      refine thn (nF (X:=aU X N' scope cl fp s3 H3) _ s8 ii H8 (.ref s2.heap.objs.size) [v8] (.ref s2.heap.objs.size) [v] (fun _ H'=>H'=upd H8 s2.heap.objs.size (.lst (us++[v8]))) I8 rfl (.cons r8 .nil) ⟨_,us,v8,rfl,rfl,hacc,by rw[<- rus.length];exact fW hle,rfl⟩) fun _ s9 ⟨_,H9,I9,_,e9⟩=>?_
      subst e9
      have ex:Ext X.K io H8 (aF io s2.heap.objs.size (acc++[y])) (upd H8 s2.heap.objs.size (.lst (us++[v8]))):=jl pa8
      exact again I9 (by rw[length_append,length_singleton];omega) aT fy (S8.mu.set pa8 (rus.append (.cons ry .nil))) ((S8.rho.le le6).ext S8.mu ex) (Ec.trans (e5.trans (e6.trans (e7.trans (e8.trans ex)))))
   ·have ei:i=xs.length:=by omega
    subst ei
    refine thn (T.done (aU X N' scope cl fp s3 H3) rfl rfl rfl (fun z=>z) _ [] s' gl Hc (fun _ _=>False) Ic (stat frc) tc (stop rfl)) fun r s4 ⟨hr,I5⟩=>?_
    subst hr
    obtain⟨m,hn,_⟩:=I5.loc
    have hcC:Hc hp3.objs.size=none:=by have z:Hc s3.heap.objs.size=none:=I5.free;rw[heap3] at z;exact z
    obtain⟨us,hacc,rus⟩:=Sc.mu s2.heap.objs.size _ hpa
    refine hend s4 Hc hp3.objs.size s2.heap.objs.size m acc dL (by have z:s4.heap.Ns s3.heap.objs.size m:=hn;rw[heap3] at z;exact z) (I2.DC (by rw[hsz3];exact le_succ _) hcC) (fun h' hs'=>?_) (e1.trans Ec) ⟨Sc.mu,S1.rho.ext S1.mu Ec⟩ ⟨rfl,acc,hpa⟩ (fin acc dL pvi hpa)
    have kp:∀b o,b<s2.heap.objs.size->s4.heap.get? b=some o->h'.get? b=some o:=fun b o hb e=>hs'.extBut b o (by rw[hsz3];exact ne_of_lt (Nat.lt_succ_of_lt hb)) e
    have hok':HOk X.prog X.w Hc h':=fun b ob e=>by
     refine (I5.hok b ob e).pz (fun cc v hcc q=>hs'.extBut cc v ?_ q) (fun _ q=>q) fun _ _ q=>q
     rintro rfl
     rcases hcc with z|z
     ·rw[<- z,hcC] at e;cases e
     ·rw[hcC] at z;cases z
    have u1:Un (frs X.stack) fp H2 H3 s2.heap s3.heap:=by rw[heap3,hH3];exact Un.laid old3 (le_refl _) hfree2
    have u2:Un (frs X.stack) fp H3 Hc s3.heap s4.heap:=I5.base
    exact I2.uR (ch:=fp) (by show s4.os=s2.os;have z:s4.os=s3.os:=I5.os;rw[z,hs3]) (Un.after (u1.trans u2) kp) hok' I5.bare fun b hb=>⟨(f2 b hb).2.2.2.1,(f2 b hb).2.1,(f2 b hb).2.2.2.2.1,(f2 b hb).2.2.2.2.2⟩
  ·have z:b≠s2.heap.objs.size:=ne_of_lt (fplt b hb)
   rw[hH3,bB z]
   exact (f2 b hb).1
  ·have ex:=jZ (o:=.lst []) (ds:=[]) S1.mu hfree2 hK2
   rw[hH3]
   exact⟨S1.mu.mut .nil hfree2 hK2,(S1.rho.ext S1.mu ex).cap⟩
  ·rw[hH3]
   exact jZ (o:=.lst []) (ds:=[]) S1.mu hfree2 hK2
 have envE:(aU X N' scope cl fp s3 H3).env=compEnvC scope cl hp3.objs.size X.env:=by show compEnvC scope cl s3.heap.objs.size X.env=_;rw[heap3]
 rw[envE] at loop
 exact codeAny_compStart_list loop (T.self X.A 0 _ _ _ (T.keep 0 _ _ st2 (fun b hb o e=>kept3 b o (old3 b o e))) loop)
theorem FP{X:Cx}{N':List Str}{scope:Scope}{cl:List (Str×Addr)}{elt iter tg:Expr}{ifs:List Expr}{pos:Pos}{cap:List (Option Nat)}{src:DTI}{g:DTG}{c:DTT}{te:DTE}(hc:X.calm=X.calm)
  (hi:DI X tg iter src) (hg:∀fp ce db,DG (aU X N' scope cl fp ce db) tg g) (hif:∀fp ce db,zI (aU X N' scope cl fp ce db) ifs c) (he:∀fp ce db,DE (aU X N' scope cl fp ce db) elt te)
  (hclos:closureFor scope X.env=pure cl) (hcell:∀y∈scope.names,y.2≠.cell) (hkind:scope.kind = .function) (hnames:∀y∈scope.names,y.2 = .local->scope.names.lookup y.1=some .local)
  (hcl:∀x a,cl.lookup x=some a->X.env.cells.lookup x=some a) (hhas:∀x,(relabel scope X.env).names.lookup x=some .cell\/(relabel scope X.env).names.lookup x=some .free->∃a,cl.lookup x=some a)
  (hlen:cap.length=N'.length) (hcap:∀(i j:Nat) (x:Str),cap[i]? = some (some j)->N'[i]? = some x->X.N[j]? = some x/\Vis X.env.scope x/\X.env.kindOf x≠some .local/\((relabel scope X.env).names.lookup x=some .cell\/(relabel scope X.env).names.lookup x=some .free))
  (hs:∀x,foldedSetIterable iter X.env x=pure x:=by intro _;rfl):DE X (.ListComp elt [⟨tg,iter,ifs,0⟩] scope pos) (yh cap src g c te):=by
 refine zM fun pins s Y H ρ U Qd Q I S h k=>?_
 rw[eval_ListComp]
 refine BR hc hi hg hif he hclos hcell hkind hnames hcl hhas hlen hcap hs I S h fun s4 Hc C pa m acc ln hn _ hI e1 S1 r q=>?_
 exact⟨m,hn,fun h' hs'=>⟨.ref pa,Hc,hI h' hs',rfl,k (.m pa) _ ln Hc e1 S1 r q⟩⟩
theorem Hl{cap:List (Option Nat)}{src:DTI}{g:DTG}{t:DTT}{ta:DTE}{ρ:Rho}{U:Mu}{Q:DK}:yh cap src g t ta ρ U Q=src ρ U fun xs ad=>xs.length<=1000/\∀p,ad p=none->∃Pv:Nat->List PyData->Mu->Prop,Pv 0 [] (aF ad p []) /\
 (∀i x acc Z,xs[i]? = some x->Z p=some acc->Pv i acc Z->g (.v x) (bE cap ρ) Z fun cr al=>Le (bE cap ρ) cr/\t cr al fun b bd=>
  if b=true then ta cr bd fun d bn=>bn p=some acc/\(match d with|.v y=>Pv (i+1) (acc++[y]) (aF bn p (acc++[y]))|_=>False) else bd p=some acc/\Pv (i+1) acc bd) /\
 (∀acc Z,Pv xs.length acc Z->Z p=some acc->Q (.m p) Z):=propext Iff.rfl
def Ge(cells:List (Str×Addr)):List (Str×Addr)->Prop
 |[]=>True
 |(k,v)::r=>cells.lookup k=some v/\Ge cells r
theorem zp{cells:List (Str×Addr)}:Ge cells []:=trivial
theorem gP{cells r:List (Str×Addr)}{k:Str}{v:Addr}(h:cells.lookup k=some v)(t:Ge cells r):Ge cells ((k,v)::r):=⟨h,t⟩
theorem pB{cells:List (Str×Addr)}:∀{cl:List (Str×Addr)},Ge cells cl->∀x a,cl.lookup x=some a->cells.lookup x=some a
 |[],_,_,_,h=>by simp at h
 |(k,v)::r,c,x,a,h=>by
  rw[lookup_cons] at h
  cases e:x==k with
  |true=>
   have e':x=k:=by simpa using e
   rw[e] at h
   subst e'
   rw[c.1];exact h
  |false=>
   rw[e] at h
   exact pB c.2 x a h
noncomputable def Fly(O:Addr->Prop)(h:Heap)(e:Addr)(cls fl:Value):Prop:=(∀b,O b->b<h.objs.size)/\∃oe vs T oT ts,h.get? e=some oe/\oe.cls=cls/\oe.data = .fields vs/\vs[1]? = some (.ref T)/\vs[2]? = some .none/\¬ O e/\¬ O T/\T≠e/\h.get? T=some oT/\oT.data = .fields ts/\ts[3]? = some fl
structure Kp(O:Addr->Prop)(fs:List Addr)(h h':Heap):Prop where
 keep:∀b o,h.get? b=some o->O b->b ∉ fs->h'.get? b=some o
 slot:∀b o,h.get? b=some o->(∀vs,o.data≠.fields vs)->∃sl,h'.get? b=some {o with slots:=sl}
section
variable {O:Addr->Prop}{fs:List Addr}{h h1 h2:Heap}
theorem Kp.trans(a:Kp O fs h h1)(b:Kp O fs h1 h2):Kp O fs h h2:=⟨fun c o e l f=>b.keep c o (a.keep c o e l f) l f,fun c o e d=>let ⟨_,e1⟩:=a.slot c o e d;let ⟨sl,e2⟩:=b.slot c _ e1 d;⟨sl,e2⟩⟩
theorem Kp.of(k:∀b o,h.get? b=some o->h1.get? b=some o):Kp O fs h h1:=⟨fun b o e _ _=>k b o e,fun b o e _=>⟨o.slots,k b o e⟩⟩
theorem Kp.frames{base:Heap}{l:List Env}(a:Kp O fs h h1)(k:h.FunFrames base l):h1.FunFrames base l:=k.of_keeps fun b o e d=>let ⟨_,e1⟩:=a.slot b o e d;⟨_,e1,rfl⟩
end
section
variable {M:Model}{A:Around}{E:Value->Shared->Prop}{s:Shared}{O:Addr->Prop}{e L:Addr}{cls fl:Value}{env:Env}{outer:List Env}{base:Heap}{Q:Unit->Shared->Prop}
theorem AR{oe:Obj}{vs:Array Value}{head:Value}{hadNext:Bool}(hfr:A.frames=some (env::outer))(hl:s.heap.FunFrames base (env::outer))(hf:env.frame=some L)
  (he:s.heap.get? e=some oe) (hc:oe.cls=cls) (hd:oe.data = .fields vs) (hz:1<vs.size) (h2:vs[2]? = some .none) (hO:∀b,O b->b<s.heap.objs.size) (hn:¬ O e)
  (k:∀h',Kp O (frs (env::outer)) s.heap h'->Fly O h' e cls (rawInt L)->Q () {s with heap:=h'}) :
  wpAny M A (do let a <- frameOf env;let pl <- entryPlaceOf L hadNext;let b <- EntryCells.newEntry head a .none (rawInt L) .none pl;setField (.ref e) 1 b) Q E s:=by
 have ene:e ∉ frs (env::outer):=fun hm=>by
  obtain⟨_,o,ho,hnf⟩:=hl.mem hm
  rw[he] at ho
  exact hnf vs (by rw[<- Option.some.inj ho];exact hd)
 refine wpAny_bind (wpAny_frameOf_fun hfr hl hf fun g1 s1=>wpAny_bind (wpAny_entryPlaceOf fun pl hpl=>?_))
 unfold EntryCells.newEntry newFields;refine wpAny_bind (wpAny_newObj_type ?_ (hpl.sizeOk5 _ _ _ _ _))
 generalize hob:({cls:=.type "traceback",dict:=none,data:=.fields ([head,.ref L,.none,rawInt L,.none]++(if pl.isEmpty then List.replicate 6 Value.none else pl)).toArray}:Obj)=ob
 have e1:g1.get? e=some oe:=(s1.2.1 e ene).trans he
 have e2:(g1.push ob).get? e=some oe:=Heap.get?_push_of_some ob e1
 have neT:g1.objs.size≠e:=Nat.ne_of_gt (Heap.lt_size e1)
 have d3:=Obj.data_mapFields hd (·.setIfInBounds 1 (Value.ref g1.objs.size))
 have szs:¬ O g1.objs.size:=fun z=>absurd (hO _ z) (by rw[s1.1];exact lt_irrefl _)
 refine wpAny_setField e2 hd hz (k _ ⟨fun b o q l f=>?_,fun b o q d=>?_⟩ ?_)
 ·have bne:e≠b:=fun z=>hn (by rw[z];exact l)
  rw[Heap.get?_update_other _ _ bne]
  exact Heap.get?_push_of_some _ ((s1.2.1 b f).trans q)
 ·have bne:e≠b:=fun z=>by rw[<- z,he] at q;exact d vs (by rw[<- Option.some.inj q];exact hd)
  obtain⟨sl,q1⟩:=s1.2.2 b o q
  exact⟨sl,by rw[Heap.get?_update_other _ _ bne];exact Heap.get?_push_of_some _ q1⟩
 ·refine⟨fun b z=>lt_of_lt_of_le (hO b z) (by rw[Heap.size_after_update,Heap.size_push,s1.1];exact le_succ _),_,_,g1.objs.size,ob,_,Heap.get?_update_self _ e2 (Obj.isFreed_of_fields d3),(Obj.cls_mapFields ..).trans hc,d3,by simp[hz],by rw[Array.getElem?_setIfInBounds_ne ⋯];exact h2,hn,szs,neT,?_,by rw[<- hob],?_⟩
  ·rw[Heap.get?_update_other _ _ (Ne.symm neT)]
   exact Heap.get?_push_size g1 (by rw[<- hob];rfl)
  ·rcases hpl with z|⟨_,_,_,_,_,_,_,z⟩<;>(rw[z];rfl)
theorem BJ{oe:Obj}{vs:Array Value}(hfr:A.frames=some (env::outer))(hl:s.heap.FunFrames base (env::outer))(hf:env.frame=some L)
  (he:s.heap.get? e=some oe) (hc:oe.cls=cls) (hd:oe.data = .fields vs) (h1:vs[1]? = some .none) (h2:vs[2]? = some .none) (hO:∀b,O b->b<s.heap.objs.size) (hn:¬ O e)
  (k:∀h',Kp O (frs (env::outer)) s.heap h'->Fly O h' e cls (rawInt L)->Q () {s with heap:=h'}):wpAny M A (noteFrame (.ref e) env) Q E s:=by
 unfold noteFrame;simp only[hf]
 refine wpAny_bind (wpAny_field he hd h1 ?_)
 rw[if_neg ⋯]
 exact AR hfr hl hf he hc hd (Array.getElem?_eq_some_iff.mp h1).1 h2 hO hn k
theorem wA(hfr:A.frames=some (env::outer))(hl:s.heap.FunFrames base (env::outer))(hf:env.frame=some L)(F:Fly O s.heap e cls .none)
  (k:∀h',Kp O (frs (env::outer)) s.heap h'->Fly O h' e cls (rawInt L)->Q () {s with heap:=h'}):wpAny M A (noteFrame (.ref e) env) Q E s:=by
 obtain⟨hO,oe,vs,T,oT,ts,he,hc,hd,h1,h2,hn,hT,nT,gT,dT,h3⟩:=F
 unfold noteFrame;simp only[hf]
 refine wpAny_bind (wpAny_field he hd h1 ?_)
 rw[if_pos (by simp)]
 refine wpAny_bind (wpAny_field gT dT h3 ?_)
 rw[if_neg (by simp[rawInt])]
 have oth:∀b,b≠T->(s.heap.update T (Obj.mapFields (·.setIfInBounds 3 Value.none))).get? b=s.heap.get? b:=fun b hb=>Heap.get?_update_other _ _ (Ne.symm hb)
 have kp:Kp O (frs (env::outer)) s.heap (s.heap.update T (Obj.mapFields (·.setIfInBounds 3 Value.none))):=
  ⟨fun b o q l _=>(oth b fun z=>hT (by rw[<- z];exact l)).trans q,fun b o q d=>⟨o.slots,(oth b fun z=>by rw[z,gT] at q;exact d ts (by rw[<- Option.some.inj q];exact dT)).trans q⟩⟩
 refine wpAny_bind (wpAny_setField gT dT (Array.getElem?_eq_some_iff.mp h3).1 ?_)
 exact AR (s:={s with heap:=s.heap.update T (Obj.mapFields (·.setIfInBounds 3 Value.none))}) hfr (kp.frames hl) hf ((oth e (Ne.symm nT)).trans he) hc hd (Array.getElem?_eq_some_iff.mp h1).1 h2 (fun b z=>by rw[Heap.size_after_update];exact hO b z) hn fun h' a b=>k h' (kp.trans a) b
theorem jW{fs:List Addr}(F:Fly O s.heap e cls fl)(k:∀h',Kp O fs s.heap h'->Fly O h' e cls .none->Q () {s with heap:=h'}):wpAny M A (setFlight (.ref e) none) Q E s:=by
 obtain⟨hO,oe,vs,T,oT,ts,he,hc,hd,h1,h2,hn,hT,nT,gT,dT,h3⟩:=F
 have z3:3<ts.size:=(Array.getElem?_eq_some_iff.mp h3).1
 unfold setFlight
 refine wpAny_bind (wpAny_field he hd h1 ?_)
 rw[if_pos (by simp)]
 have oth:∀b,b≠T->(s.heap.update T (Obj.mapFields (·.setIfInBounds 3 ((none:Option Addr).elim Value.none fun f=>rawInt f)))).get? b=s.heap.get? b:=fun b hb=>Heap.get?_update_other _ _ (Ne.symm hb)
 refine wpAny_setField gT dT z3 (k _ ⟨fun b o q l _=>(oth b fun z=>hT (by rw[<- z];exact l)).trans q,fun b o q d=>⟨o.slots,(oth b fun z=>by rw[z,gT] at q;exact d ts (by rw[<- Option.some.inj q];exact dT)).trans q⟩⟩ ?_)
 exact⟨fun b z=>by rw[Heap.size_after_update];exact hO b z,oe,vs,T,_,_,(oth e (Ne.symm nT)).trans he,hc,hd,h1,h2,hn,hT,nT,Heap.get?_update_self _ gT (Obj.isFreed_of_fields (Obj.data_mapFields dT _)),Obj.data_mapFields dT _,by simp[z3]⟩
theorem zZ{oe:Obj}{vs:Array Value}(hfr:A.frames=some (env::outer))(hl:s.heap.FunFrames base (env::outer))(hf:env.frame=some L)
  (he:s.heap.get? e=some oe) (hc:oe.cls=cls) (hd:oe.data = .fields vs) (h1:vs[1]? = some .none) (h2:vs[2]? = some .none) (hO:∀b,O b->b<s.heap.objs.size) (hn:¬ O e)
  (k:∀h',Kp O (frs (env::outer)) s.heap h'->Fly O h' e cls .none->Q () {s with heap:=h'}):wpAny M A (leaving env (.ref e)) Q E s:=by
 unfold leaving
 exact wpAny_bind (BJ hfr hl hf he hc hd h1 h2 hO hn fun h' a b=>jW (s:={s with heap:=h'}) b fun h'' a' b'=>k h'' (a.trans a') b')
theorem Bn(hfr:A.frames=some (env::outer))(hl:s.heap.FunFrames base (env::outer))(hf:env.frame=some L)(F:Fly O s.heap e cls .none)
  (k:∀h',Kp O (frs (env::outer)) s.heap h'->Fly O h' e cls .none->Q () {s with heap:=h'}):wpAny M A (leaving env (.ref e)) Q E s:=by
 unfold leaving
 exact wpAny_bind (wA hfr hl hf F fun h' a b=>jW (s:={s with heap:=h'}) b fun h'' a' b'=>k h'' (a.trans a') b')
end
noncomputable def CX1(P:Program)(w:World):CXT:=fun outer H s E e s'=>∃(O:Addr->Prop) (ea:Addr) (cls:Value) (H':Hp),e = .ref ea/\s'.os=s.os/\AllBare s'.gens/\Un (frs outer) [] H H' s.heap s'.heap/\HOk P w H' s'.heap /\
 (∀b o,s.heap.get? b=some o->O b)/\(∀b,H' b≠none->O b)/\Fly O s'.heap ea cls .none/\E cls none H'
theorem Un.fly{fs:List Addr}{L:Addr}{H H':Hp}{h h1 h2:Heap}{O:Addr->Prop}(u:Un fs [] H H' h h1)(k:Kp O (L::fs) h1 h2)(hO:∀b o,h.get? b=some o->O b)(hL:∀o,h.get? L≠some o)(hd:∀b∈fs,∀o,h1.get? b=some o->∀vs,o.data≠.fields vs):Un fs [] H H' h h2 where
 keep:=fun b o e n f x=>k.keep b o (u.keep b o e n f x) (hO b o e) fun z=>by
  rcases List.mem_cons.mp z with z|z
  ·exact hL o (by rw[<- z];exact e)
  ·exact f z
 slot:=fun b o e n f x=>by
  obtain⟨sl,e1⟩:=u.slot b o e n f x
  obtain⟨sl',e2⟩:=k.slot b _ e1 (hd b f _ e1)
  exact⟨sl',e2⟩
 free:=u.free
 there:=fun b o e x=>by
  obtain⟨o1,e1⟩:=u.there b o e x
  by_cases f:b∈fs
  ·obtain⟨sl,e2⟩:=k.slot b _ e1 (hd b f _ e1)
   exact⟨_,e2⟩
  ·exact⟨o1,k.keep b o1 e1 (hO b o e) fun z=>by
    rcases List.mem_cons.mp z with z|z
    ·exact hL o (by rw[<- z];exact e)
    ·exact f z⟩
 oD:=u.oD
 nQ:=u.nQ
 nS:=u.nS
theorem HOk.fly{P:Program}{w:World}{H:Hp}{h h1:Heap}{O:Addr->Prop}{fs:List Addr}(x:HOk P w H h)(k:Kp O fs h h1)(hO:∀b,H b≠none->O b)(hf:∀b∈fs,H b=none):HOk P w H h1:=fun a o e=>by
 refine (x a o e).pz (fun b u hb q=>?_) (fun _ q=>q) fun _ _ q=>q
 have hb':H b≠none:=by
  rcases hb with rfl|hb
  ·rw[e];exact fun z=>nomatch z
  ·rw[hb];exact fun z=>nomatch z
 exact k.keep b u q (hO b hb') fun z=>hb' (hf b z)
theorem D2{P:Program}{w:World}{H:Hp}{h:Heap}{a:Addr}{o:HO}(x:jw P w H h a o):∃u,h.get? a=some u:=by
 cases o with
 |lst xs=>obtain⟨_,_,_,_,e⟩:=x;exact⟨_,e⟩
 |tup xs=>obtain⟨_,_,_,_,e,_⟩:=x;exact⟨_,e⟩
 |dK kvs=>obtain⟨_,_,_,_,_,_,_,e,_⟩:=x;exact⟨_,e⟩
 |dT kvs=>obtain⟨_,_,_,_,_,_,_,e,_⟩:=x;exact⟨_,e⟩
 |set S n=>obtain⟨_,_,_,_,e,_⟩:=x;exact⟨_,e⟩
 |ins C dx fs=>obtain⟨_,_,_,e,_⟩:=x;exact⟨_,e⟩
 |own y=>exact x
 |xd fs=>obtain⟨_,⟨_,_,_,e,_⟩,_⟩:=x;exact⟨_,e⟩
 |rng lo hi=>obtain⟨_,_,_,e⟩:=x;exact⟨_,e⟩
 |frz ob u=>obtain⟨e,_⟩:=x;exact⟨_,e⟩
 |tbl ps=>exact⟨_,(show h.get? a=some _ from x)⟩
 |met f y=>exact⟨_,(show h.get? a=some _ from x)⟩
 |ext φ=>obtain⟨_,e,_⟩:=x;exact e
section
variable {X:Cx}{pins:List (Addr×Obj)}{Y:St}{H:Hp}{s:Shared}{O:Addr->Prop}{ea:Addr}{cls:Value}{E:XK}{base:Heap}
structure Frm(X:Cx):Prop where
 stk:X.stack=X.env::X.outer
 fr:X.env.frame=some X.env.locals
 ex:X.ex=[]
theorem qw(hF:Frm X):frs (X.env::X.outer)=X.env.locals::X.fs:=by
 unfold Cx.fs frs
 rw[filterMap_cons,hF.fr]
theorem xR(I:Inv X pins Y H s):∀b∈X.fs,∀o,s.heap.get? b=some o->∀vs,o.data≠.fields vs:=fun b hb o e vs=>by
 obtain⟨_,o',e',d⟩:=I.oG.mem hb
 rw[e] at e'
 rw[Option.some.inj e']
 exact d vs
theorem Cv(I:Inv X pins Y H s):∀o,X.dl.heap.get? X.env.locals≠some o:=fun o e=>absurd (Heap.lt_size e) (Nat.not_lt.mpr I.ok.above)
theorem A1(hF:Frm X)(I:Inv X pins Y H s):∀b∈frs (X.env::X.outer),H b=none:=fun b hb=>by
 rw[qw hF] at hb
 rcases List.mem_cons.mp hb with e|hb
 ·rw[e];exact I.free
 ·exact I.pd b (by rw[hF.stk,qw hF];exact mem_cons_of_mem _ hb)
theorem rg(hF:Frm X)(I:Inv X pins Y H s):s.heap.FunFrames X.base (X.env::X.outer):=by
 have:=I.stack
 rw[hF.stk] at this
 exact this
theorem EI(hF:Frm X)(I:Inv X pins Y H s)(hO:∀b o,X.dl.heap.get? b=some o->O b)(ht:∀b,H b≠none->O b){h':Heap}(k:Kp O (frs (X.env::X.outer)) s.heap h')(F:Fly O h' ea cls .none)(q:E cls none H) :
  CX1 X.prog X.w X.outer X.H₀ X.dl E (.ref ea) {s with heap:=h'}:=by
 refine⟨O,ea,cls,H,rfl,I.os,I.bare,?_,HOk.fly I.hok k ht (A1 hF I),hO,ht,F,q⟩
 rw[qw hF] at k
 have u:=I.base
 rw[hF.ex] at u
 exact Un.fly u k hO (Cv I) (xR I)
theorem leave_new{vs:List Value}{h1:Heap}{Qe:Value->Shared->Prop}(hF:Frm X)(I:Inv X pins Y H s)(hx:Heap.MadeExcOf s.heap h1 ea cls vs)(q:E cls none H) :
  wpAny (model X.prog X.w) X.A (leaving X.env (.ref ea)) (fun _ s''=>CX1 X.prog X.w X.outer X.H₀ X.dl E (.ref ea) s'') Qe {s with heap:=h1}:=by
 obtain⟨t,he,_,_⟩:=hx.there
 have I1:Inv X pins Y H {s with heap:=h1}:=I.kept (t':=s.toks) hx.keeps
 have fr:X.A.frames=some (X.env::X.outer):=by rw[<- hF.stk];exact I.ok.frames
 have kp:Kp (fun b=>∃o,s.heap.get? b=some o) (frs (X.env::X.outer)) s.heap h1:=.of hx.keeps
 refine zZ (O:=fun b=>∃o,s.heap.get? b=some o) (s:={s with heap:=h1}) fr (rg hF I1) hF.fr he rfl rfl rfl rfl (fun b ⟨o,e⟩=>Heap.lt_size (hx.keeps b o e)) (fun ⟨o,e⟩=>by rw[hx.new] at e;cases e) fun h' k F=>?_
 have e:=EI (s:=s) (X:=X) hF I (fun b o e=>I.base.there b o e (by rw[hF.ex];exact fun z=>nomatch z)) (fun b hb=>by
  cases z:H b with
  |none=>exact absurd z hb
  |some o=>exact D2 (I.hok b o z)) (kp.trans k) F q
 exact e
end
structure XOk(X:Cx)(E:XK):Prop where
 new:∀(pins:List (Addr×Obj)) (Y:St) (H:Hp) (s:Shared) (ea:Addr) (cls:Value) (vs:List Value) (h1:Heap),Inv X pins Y H s->Heap.MadeExcOf s.heap h1 ea cls vs->E cls none H->X.xe (.ref ea) {s with heap:=h1}
 pas:Passes (CX1 X.prog X.w) X E
theorem wC{X:Cx}{pins:List (Addr×Obj)}{Y:St}{H:Hp}{s s':Shared}{E:XK}{e:Value}{Qe:Value->Shared->Prop}(hF:Frm X)(I:Inv X pins Y H s)(h:CX1 X.prog X.w X.stack H s E e s') :
  wpAny (model X.prog X.w) X.A (leaving X.env e) (fun _ s''=>CX1 X.prog X.w X.outer X.H₀ X.dl E e s'') Qe s':=by
 obtain⟨O,ea,cls,H',rfl,os,bare,un,hok,hO,ht,F,q⟩:=h
 have I':Inv X pins Y H' s':=I.uR (ch:=[]) os un hok bare (fun b z=>nomatch z)
 have fr:X.A.frames=some (X.env::X.outer):=by rw[<- hF.stk];exact I.ok.frames
 refine Bn (s:=s') fr (rg hF I') hF.fr F fun h' k F'=>?_
 exact EI (s:=s') hF I' (fun b o e=>by
  obtain⟨o',e'⟩:=I.base.there b o e (by rw[hF.ex];exact fun z=>nomatch z)
  exact hO b o' e') ht k F' q
theorem lQ{P:Program}{w:World}{K:PySem.W.Frag}{mg:Str->Option Value}{base:Heap}{N:List Str}{qual:Str}{scope:Scope}{f:Addr}{cd:Value}{A:Around}{outer:List Env}{s:Shared}{H:Hp}{E:XK} :
  XOk (jJ (CX1 P w) P w K mg base N qual scope f cd A outer s H E) E where
 new:=fun pins Y H1 s1 ea cls vs h1 I hx q=>leave_new (X:=jJ (CX1 P w) P w K mg base N qual scope f cd A outer s H E) ⟨rfl,rfl,rfl⟩ I hx q
 pas:=fun pins Y H1 s1 e s' I h=>wC (X:=jJ (CX1 P w) P w K mg base N qual scope f cd A outer s H E) ⟨rfl,rfl,rfl⟩ I h
abbrev DTX:=Rho->Mu->(Mu->Prop)->Prop
abbrev XSp:=List D->Mu->(Mu->Prop)->Prop
noncomputable def BV(K:PySem.W.Frag)(E:XK)(C:Value)(U:Mu)(H:Hp)(Xk:Mu->Prop):Prop:=∀Z H',Ext K U H Z H'->bX K Z H'->Xk Z->E C none H'
theorem BV.on{K:PySem.W.Frag}{E:XK}{C:Value}{U ad:Mu}{H H1:Hp}{Xk:Mu->Prop}(w:BV K E C U H Xk)(e:Ext K U H ad H1):BV K E C ad H1 Xk:=fun Z H' e'=>w Z H' (e.trans e')
noncomputable def XE(X:Cx)(E:XK)(C:Value)(e:Expr)(tx:DTX):Prop:=∃t:TE,PE X e t/\∀Y H ρ U Xk Q,St0 X.K H ρ U Y->tx ρ U Xk->BV X.K E C U H Xk->t Y H Q
noncomputable def XS(X:Cx)(E:XK)(C:Value)(st:Stmt)(tx:DTX):Prop:=∃t:TS,PS X st t/\∀Y H ρ U Xk D,St0 X.K H ρ U Y->tx ρ U Xk->BV X.K E C U H Xk->t D Y H
noncomputable def XSs(X:Cx)(E:XK)(C:Value)(st:List Stmt)(tx:DTX):Prop:=∃t:TS,PSs X st t/\∀Y H ρ U Xk D,St0 X.K H ρ U Y->tx ρ U Xk->BV X.K E C U H Xk->t D Y H
noncomputable def spX(K:PySem.W.Frag)(C:Value)(dsp:XSp):Sp:=fun vs H _ E=>∃(ds:List D) (U:Mu) (Xk:Mu->Prop),bX K U H/\jL K U H ds vs/\dsp ds U Xk/\BV K E C U H Xk
section
variable {X:Cx}{E:XK}{C:Value}{e:Expr}{es:List Expr}{t:DTA}{te:DTE}{tx ty:DTX}{p pos:Pos}{x:Str}{k:Nat}{f:Addr}{fd:FuncData}{ps:List Str}{dsp:XSp}{st:Stmt}{sts:List Stmt}
noncomputable def pT(dsp:XSp)(t:DTA):DTX:=fun ρ U Xk=>t ρ U fun ds ad=>dsp ds ad Xk
theorem lZ(F:bw X.prog X.w X.K X.mg X.base (CX1 X.prog X.w) k f fd ps (spX X.K C dsp))(hr:fi k X.A)(hg:Gl X x)(hm:X.mg x=some (.ref f))(hk:keepIn X.K (.ref f)=true)(hb:Binds X.K fd ps [])(hx:XOk X E)
  (ha:DA X (e::es) t) (hdb:(x==("__debug__":Str))=false:=by decide) (he:starEach (e::es) X.env=(false,eval e X.env)::starEach es X.env:=by rfl) (hpl:(backTo pos (starEach es X.env)).any (·.1)=false:=by rfl) :
  XE X E C (.Call (.Name x p) (e::es) [] pos) (pT dsp t):=by
 obtain⟨t1,p1,l1⟩:=ha
 refine⟨_,Cs F hr hg hm hk hb .nil hx.pas p1 hdb he hpl,fun Y H ρ U Xk Q S h wsh=>?_⟩
 refine l1 Y H ρ U _ _ S h fun ds us ad H1 e1 S1 rs len h1=>?_
 exact⟨ds,ad,Xk,S1.mu,by rw[append_nil];exact rs,h1,wsh.on e1⟩
theorem Kx(h:XE X E C e tx):XS X E C (.Return (some e) pos) tx:=by
 obtain⟨t1,p1,l1⟩:=h
 exact⟨_,Ba p1,fun Y H ρ U Xk D S h wsh=>l1 Y H ρ U Xk _ S h wsh⟩
theorem Io(h:XE X E C e tx)(hs:swapsWith e none pos.line X.env=pure false:=by rfl):XS X E C (.Expr e pos) tx:=by
 obtain⟨t1,p1,l1⟩:=h
 exact⟨_,CN p1 hs,fun Y H ρ U Xk D S h wsh=>l1 Y H ρ U Xk _ S h wsh⟩
theorem Kz{i:Nat}{y:Str}{pos':Pos}(hN:X.N.Nodup)(hi:X.N[i]? = some y)(hx:Loc X.env.scope y)(h:XE X E C e tx)(hs:swapsWith e (some (.Name y pos')) pos.line X.env=pure false:=by rfl)(hf:X.fn y=true\/X.env.scope.names.lookup y=some .local:=by first|exact .inl rfl|exact .inr rfl|assumption) :
  XS X E C (.Assign [.Name y pos'] e pos) tx:=by
 obtain⟨t1,p1,l1⟩:=h
 exact⟨_,GB hN hi hx p1 hs hf,fun Y H ρ U Xk D S h wsh=>l1 Y H ρ U Xk _ S h wsh⟩
noncomputable def Ca:DTX:=fun _ _ _=>False
theorem xg:XSs X E C sts Ca:=⟨_,wQ,fun _ _ _ _ _ _ _ h _=>h.elim⟩
noncomputable def xIf(tc:DTT)(tx ty:DTX):DTX:=fun ρ U Xk=>tc ρ U fun b ad=>if b=true then tx ρ ad Xk else ty ρ ad Xk
theorem IB{c:Expr}{a b:List Stmt}{tc:DTT}(hc:DT X c tc)(ha:XSs X E C a tx)(hb:XSs X E C b ty):XS X E C (.If c a b pos) (xIf tc tx ty):=by
 obtain⟨t0,p0,l0⟩:=hc
 obtain⟨t1,p1,l1⟩:=ha
 obtain⟨t2,p2,l2⟩:=hb
 refine⟨_,IK p0 p1 p2,fun Y H ρ U Xk D S h wsh=>?_⟩
 refine l0 Y H ρ U _ _ S h fun c ad H1 e1 S1 h1=>?_
 cases c with
 |true=>exact sI (l1 Y H1 ρ ad Xk D S1 (by simpa using h1) (wsh.on e1))
 |false=>exact sr (l2 Y H1 ρ ad Xk D S1 (by simpa using h1) (wsh.on e1))
theorem gj(h:XS X E C st tx):XSs X E C (st::sts) tx:=by
 obtain⟨t1,p1,l1⟩:=h
 exact⟨_,oQ p1 wQ,fun Y H ρ U Xk D S h wsh=>l1 Y H ρ U Xk _ S h wsh⟩
noncomputable def uB(td:DTS)(tx:DTX):DTX:=fun ρ U Xk=>td {nx:=fun am Z=>tx am Z Xk,rt:=fun _ _=>False} ρ U
theorem gK{td:DTS}(h:DS X st td)(hr:XSs X E C sts tx):XSs X E C (st::sts) (uB td tx):=by
 obtain⟨t1,p1,l1⟩:=h
 obtain⟨t2,p2,l2⟩:=hr
 refine⟨_,oQ p1 p2,fun Y H ρ U Xk D S h wsh=>?_⟩
 refine l1 Y H ρ U _ _ S h (fun ap am Z H' e' S' q=>?_) (fun d u Z H' e' ok r q=>q.elim) (fun ap am Z H' e' S' q=>q.elim) (fun ap am Z H' e' S' q=>q.elim)
 exact l2 ap H' am Z Xk D S' q (wsh.on e')
end
theorem _root_.L2.Fun.okX{P:Program}{w:World}{K:PySem.W.Frag}{mg:Str->Option Value}{base:Heap}{x qual:Str}{st:Stmt}{f:Addr}{fd:FuncData}{N ps:List Str}{k:Nat}{C:Value}{dsp:XSp}(F:Fun K x qual st f fd)(S:aZ N ps (az st))(len:∀ds U Xk,dsp ds U Xk->ds.length=ps.length)
  (hbody:∀(cdv:Value) (A:Around) (outer:List Env) (s:Shared) (H:Hp) (E:XK),fi k (A.deeper (envOfC qual (az st) s.heap.objs.size f cdv)) ->
   ∃tx,XSs (jJ (CX1 P w) P w K mg base N qual (az st) f cdv A outer s H E) E C (dk st) tx/\∀ds U Xk,dsp ds U Xk->tx (aY N ds) U Xk):bw P w K mg base (CX1 P w) (k+1) f fd ps (spX K C dsp):=by
 obtain⟨oc,od,kV,doc,pm,an,cdv,ct,osl,rfl,lk,hcd⟩:=F.ex
 refine FG lk hcd S (fun vs H Q E h=>?_) fun A outer s H vs Q E hr hsp=>?_
 ·obtain⟨ds,U,Xk,_,r,h,_⟩:=h
  rw[<- r.length];exact len ds U Xk h
 ·obtain⟨tx,⟨t,p,l⟩,q⟩:=hbody cdv A outer s H E hr
  obtain⟨ds,U,Xk,ok,r,h,wsh⟩:=hsp
  exact⟨t,p,l (start N vs) H (aY N ds) U Xk _ ⟨ok,rH r⟩ (q ds U Xk h) wsh⟩
theorem Hr{K:PySem.W.Frag}{h:Heap}{C:Addr}{bmB:List Value}{newId:String}(X:K.In h)(q:excIn K C bmB newId=true) :
  ∃bm N nm q bs hdct sn sub ab col dd k0 k1 k2 k3 k5 mN,h.get? C=some (excClassObj nm q C N bs bm hdct sn sub ab col dd k0 k1 k2 k3 k5 newId)/\h.Ns N mN/\mN "__init__"=none/\OwnTail h bmB bm:=by
 unfold excIn at q
 split at q;rotate_left;· cases q
 rename_i dd cd sl ho;split at q;rotate_left;· cases q
 rename_i C' bm k0 k1 k2 k3 n k5 hm hs
 simp only[and_eq_true,beq_iff_eq,Bool.not_eq_true'] at q;obtain⟨⟨⟨⟨⟨rfl,rfl⟩,hdel⟩,ht⟩,hok⟩,hni⟩:=q
 obtain⟨nm,bs,mro,ns,qn,hd,sn,sub,ab,col,del⟩:=cd;dsimp only at hm hdel hok hni;subst hm hdel
 obtain rfl:sl = #[k0,k1,k2,k3,some (.builtin n),k5]:=by obtain⟨l⟩:=sl;exact congrArg Array.mk hs
 exact⟨bm,ns,nm,qn,bs,hd,sn,sub,ab,col,dd,k0,k1,k2,k3,k5,_,X _ _ ho,.of_isNs (PySem.W.isNs_of_in X hok),PySem.W.nsMap_none_of_in X hok hni,PySem.W.tail_of_in X ht⟩
section
variable {X:Cx}{E:XK}{x:Str}{C:Addr}
theorem AN{txt:Str}{j}{np kp cpos pos:Pos}(hx:XOk X E)(hg:Gl X x)(hm:X.mg x=some (.ref C))(hq:excIn X.K C bmV "ValueError.__new__"=true)(hc:X.calm=true:=by rfl)(hdb:(x==("__debug__":Str))=false:=by decide)
  (hs:starEach [.Constant (.str txt) j kp] X.env=[(false,eval (.Constant (.str txt) j kp) X.env)]:=by rfl) :
  XS X E (.ref C) (.Raise (some (.Call (.Name x np) [.Constant (.str txt) j kp] [] cpos)) none pos) (fun _ U Xk=>Xk U):=by
 refine⟨fun D Y H=>E (.ref C) none H,fun pins s Y H D I h=>?_,fun Y H ρ U Xk D S h wsh=>wsh U H .refl S.mu h⟩
 obtain⟨tl,N,nm,q,bs,hdct,sn,sub,ab,col,dd,k0,k1,k2,k3,k5,mN,hC,hN,hni,T⟩:=Hr I.mod.kin hq
 refine wpAny_Raise_call_subT (C:=C) (nm:=nm) (q:=q) (N:=N) (bs:=bs) (bm:=tl) (hdct:=hdct) (sn:=sn) (sub:=sub) (ab:=ab) (col:=col) (dd:=dd) (k0:=k0) (k1:=k1) (k2:=k2) (k3:=k3) (k5:=k5)
  PySem.F.excBase_ValueError (mN:=mN) (T.hasType PySem.F.excBase_ValueError.hasBase) (I.ok.hd hc) (by rw[hs];rfl) hni (nE I hg hm ⟨rfl,?_⟩ hdb)
 have pa:=dP (X:=X) (es:=[]) (ED (x:=txt) (j:=j) (pos:=kp)) kg (by rw[hs];rfl) cpos pins s Y H (fun vs H1=>vs.length=1/\H1=H) I ⟨rfl,rfl⟩
 rw[hs] at pa ⊢
 refine Calls.evalArgs_plain (thn pa fun us s2 ⟨vs,H1,I1,r,l,e1⟩=>?_)
 subst e1
 exact⟨rfl,by rw[<- r.length,l];decide,I1.bk _ _ hC,hN.keeps I1.bk,T.keeps I1.bk,fun h' e hm'=>hx.new pins Y H1 s2 e _ _ h' I1 hm' h⟩
end
structure sq(K:PySem.W.Frag)(C:Addr):Prop where
 ga:findIn K (.ref C) "__getattribute__"=some (some (.builtin "BaseException.__getattribute__"))
 gx:findIn K (.ref C) "__getattr__"=some none
 cl:findIn K (.ref C) "__class__"=some (some (.builtin "object.__class__"))
 ob:mroIn K C (.type "object")=some true
 be:mroIn K C (.type "BaseException")=some true
 ci:(clsIn K C).isSome=true
section
variable {prog:Program}{w:World}{A:Around}{E:Value->Shared->Prop}{h:Heap}{g:Array GenState}{d:Drawn}{t:Nat}{os:OsState}{a C:Addr}{o:Obj}{K:PySem.W.Frag}
theorem HM{R:Result->Shared->Prop}(X:K.In h)(ZY:sq K C)(hx:h.get? a=some o)(hc:o.cls = .ref C)(hq:R (.ok (.ret (.ref C))) ⟨h,g,d,t,os⟩) :
  codeAny (model prog w) A (.call (.builtin "getset_descriptor.__get__") ⟨[.builtin "object.__class__",.ref a,.ref C],[]⟩) R ⟨h,g,d,t,os⟩:=by
 have hT5:(⟨h,g,d,t,os⟩:Shared).TypeIs (.builtin "object.__class__") "getset_descriptor":=F.typeOf_object_class
 have sub:∀{A':Around} {Q':Bool->Shared->Prop} {E':Value->Shared->Prop} {g' d' t' os'},Q' true ⟨h,g',d',t',os'⟩->wpAny (model prog w) A' (isSubtype (.ref C) (.type (".".intercalate ("object.__class__".cutAt '.').dropLast))) Q' E' ⟨h,g',d',t',os'⟩:=fun q=>by
  rw[F.owner_object_class];exact (PySem.W.looks_mroIn X ZY.ob).here q
 refine codeAny_call_builtin F.slot_gs_get.plain F.entry_gs_get (F.slot_gs_get.check _ _ _ _ _ _ _ _ hT5 (F.args_gs_get _ _ _) ?_)
 repeat (any_goals (first|assumption|(with_reducible refine wpAny_loadPart_at hx ?_;rw[hc])|with_reducible refine sub ?_|wp_step))
 refine⟨Code.quiet_builtin _ nofun,codeAny_builtin F.entry_object_class ?_⟩
 repeat (any_goals (first|assumption|(with_reducible refine wpAny_loadPart_at hx ?_;rw[hc])|wp_step))
theorem D4{tk:Tok}{Q:Fin->Shared->Prop}(X:K.In h)(ZY:sq K C)(hx:h.get? a=some o)(hc:o.cls = .ref C)(hq:Q (.done (.ret (.ref C))) ⟨h,g,d,t,os⟩) :
  wpAny (model prog w) A (Builtin.«object.__getattribute__» ⟨[.ref a,.str "__class__" tk],[]⟩) Q E ⟨h,g,d,t,os⟩:=by
 have hT5:(⟨h,g,d,t,os⟩:Shared).TypeIs (.builtin "object.__class__") "getset_descriptor":=F.typeOf_object_class
 have f5:=F.typeOf_object_class;have f6:=F.slot_gs_get.lookup;have f7:=F.slot_gs_set.lookup
 have lk:∀{A':Around} {Q':Option Value->Shared->Prop} {E':Value->Shared->Prop} {g' d' t' os'},Q' (some (.builtin "object.__class__")) ⟨h,g',d',t',os'⟩->wpAny (model prog w) A' (typeLookup (.ref C) "__class__") Q' E' ⟨h,g',d',t',os'⟩:=fun q=>(PySem.W.looks_findIn X ZY.cl).here q
 repeat (any_goals (first|assumption|(with_reducible refine wpAny_loadPart_at hx ?_;rw[hc])|with_reducible refine lk ?_|wp_step))
 refine HM X ZY hx hc ?_
 repeat (any_goals (first|assumption|wp_step))
theorem Ek{nv:Value}{Q:Unit->Shared->Prop}(X:K.In h)(ZY:sq K C)(hx:h.get? a=some o)(hc:o.cls = .ref C)(hq:Q () ⟨h,g,d,t,os⟩):wpAny (model prog w) A (checkBuiltinCall "BaseException.__getattribute__" ⟨[.ref a,nv],[]⟩) Q E ⟨h,g,d,t,os⟩:=by
 have hk:builtinKind "BaseException.__getattribute__"=some .slot:=nofun
 have hsp:splitId "BaseException.__getattribute__"=some ("BaseException","__getattribute__"):=nofun
 have ha:=F.args_bexc_ga (.ref a) nv
 have sub:∀{A':Around} {Q':Bool->Shared->Prop} {E':Value->Shared->Prop} {g' d' t' os'},Q' true ⟨h,g',d',t',os'⟩->wpAny (model prog w) A' (isSubtype (.ref C) (.type "BaseException")) Q' E' ⟨h,g',d',t',os'⟩:=fun q=>(PySem.W.looks_mroIn X ZY.be).here q
 simp only[checkBuiltinCall,hk,hsp]
 refine wpAny_bind ?_
 unfold isInstance
 repeat (first|(with_reducible refine wpAny_loadPart_at hx ?_;rw[hc])|with_reducible refine sub ?_|wp_step)
 exact hq
theorem EH{tk:Tok}{R:Result->Shared->Prop}(X:K.In h)(ZY:sq K C)(hx:h.get? a=some o)(hc:o.cls = .ref C)(hq:R (.ok (.ret (.ref C))) ⟨h,g,d,t,os⟩) :
  codeAny (model prog w) A (.call (.builtin "BaseException.__getattribute__") ⟨[.ref a,.str "__class__" tk],[]⟩) R ⟨h,g,d,t,os⟩:=
 codeAny_call_builtin F.attr_ValueError.ga.plain F.entry_bexc_ga (Ek X ZY hx hc (D4 X ZY hx hc hq))
theorem Kh{tk:Tok}{Q:Value->Shared->Prop}(X:K.In h)(ZY:sq K C)(hx:h.get? a=some o)(hc:o.cls = .ref C)(hq:Q (.ref C) ⟨h,g,d,t,os⟩):wpAny (model prog w) A (getAttrBy (.ref a) (.str "__class__" tk) false) Q E ⟨h,g,d,t,os⟩:=by
 have f3:=F.attr_ValueError.ga.bind (.ref a)
 have hx2:(Value.builtin "BaseException.__getattribute__"==Value.builtin "object.__getattribute__")=false:=nofun
 have hx1:(onTheHeap (Value.ref C)&&Value.builtin "BaseException.__getattribute__"==Value.builtin "object.__getattribute__")=false:=by rw[hx2];rfl
 have lk:∀{A':Around} {Q':Option Value->Shared->Prop} {E':Value->Shared->Prop} {g' d' t' os'},Q' (some (.builtin "BaseException.__getattribute__")) ⟨h,g',d',t',os'⟩->wpAny (model prog w) A' (typeLookup (.ref C) "__getattribute__") Q' E' ⟨h,g',d',t',os'⟩:=fun q=>(PySem.W.looks_findIn X ZY.ga).here q
 have lx:∀{A':Around} {Q':Option Value->Shared->Prop} {E':Value->Shared->Prop} {g' d' t' os'},Q' none ⟨h,g',d',t',os'⟩->wpAny (model prog w) A' (typeLookup (.ref C) "__getattr__") Q' E' ⟨h,g',d',t',os'⟩:=fun q=>(PySem.W.looks_findIn X ZY.gx).here q
 repeat (any_goals (first|assumption|(with_reducible refine wpAny_loadPart_at hx ?_;rw[hc])|with_reducible refine lk ?_|with_reducible refine lx ?_|wp_step))
 refine EH X ZY hx hc ?_
 repeat (any_goals (first|assumption|wp_step))
theorem Gx{Q:Option Value->Shared->Prop}(X:K.In h)(ZY:sq K C)(hx:h.get? a=some o)(hc:o.cls = .ref C)(hq:Q (some (.ref C)) ⟨h,g,d,t+1,os⟩):wpAny (model prog w) A (getAttr? (.ref a) "__class__") Q E ⟨h,g,d,t,os⟩:=by
 unfold getAttr? getAttrBy?
 repeat (any_goals (first|assumption|with_reducible apply Kh X ZY hx hc|wp_step))
theorem Fc(ZY:sq K C):PySem.W.KitX K (.ref a) (.ref C) (fun h=>∃o,h.get? a=some o/\o.cls = .ref C) where
 ty:=fun M h X ⟨o,e,c⟩=>by
  intro A' Q' E' s' k q
  unfold typeOf
  refine wpAny_bind (wpAny_loadPart (k _ _ e) ?_)
  rw[c]
  exact wpAny_pure q
 it:=fun M h X _=>by
  have z:=ZY.ci
  unfold clsIn at z
  split at z
  ·rename_i ho
   intro A' Q' E' s' k q
   unfold isType loadHead
   exact wpAny_bind (wpAny_loadPart (k _ _ (X _ _ ho)) (wpAny_pure q))
  ·cases z
 ne:=fun h tp dd its n sl X htp=>by
  refine Bool.eq_false_iff.mpr fun q=>?_
  obtain rfl:C=tp:=Value.ref.inj (beq_iff_eq.mp q)
  have z:=ZY.ci
  unfold clsIn at z
  split at z
  ·rename_i ho;have z':=(X _ _ ho).symm.trans htp;cases z'
  ·cases z
 ca:=fun {_ _ _ _ _ s} X ⟨o,e,c⟩ k=>by obtain⟨h,g,d,t,os⟩:=s;exact Gx X ZY e c k
end
theorem HB{K:PySem.W.Frag}{h:Heap}{c P:Addr}{o:Obj}{q:Str}(X:K.In h)(l:K.lookup c=some o)(e:bO o=some (P,q))(ne:c≠P):PySem.W.CodeHd h c P:=by
 have ho:=X _ _ l
 unfold bO at e
 split at e
 ·rename_i cn vs hcls hd
  split at e
  ·rename_i hcn
   subst hcn
   split at e
   ·rename_i q' t' f1 f2 f3 f4 f5 f6 P' f7 f8 e1 e7 e9 e10 e11 e18
    split at e
    ·cases e
     refine⟨o,vs,f7,f8,f2,f3,f4,f5,f6,ho,hcls,hd,e11,?_,?_,?_,?_,?_,ne⟩
     ·rw[Array.getD_eq_getD_getElem?,e11];rfl
     ·rw[Array.getD_eq_getD_getElem?,e18];rfl
     ·rw[Array.getD_eq_getD_getElem?,e7];rfl
     ·rw[Array.getD_eq_getD_getElem?,e9];rfl
     ·rw[Array.getD_eq_getD_getElem?,e10];rfl
    ·cases e
   ·cases e
  ·cases e
 ·cases e
noncomputable def Kk(K:PySem.W.Frag)(mg:Str->Option Value):Prop:=∃bm ob,mg "__builtins__"=some (.ref bm)/\bm≠builtinsNs/\K.lookup bm=some ob/\ob.cls = .type "module"/\ob.dict=some builtinsNs/\ob.data = .plain
theorem DR{pos:Pos}{w:Value}{l3:List Value}:∀{l:List Value},TriplesOk l->codeAmong pos l=some w->codeAmong pos (l++l3)=some w:=by
 intro l
 fun_induction TriplesOk l with
 |case1=>intro _ e;simp[codeAmong] at e
 |case2 a t b u x rest ih=>
  intro h e
  simp only[cons_append,codeAmong] at e ⊢
  split at e
  ·rename_i hc;rw[if_pos hc];exact e
  ·rename_i hc;rw[if_neg hc];exact ih h e
 |case3 l h1 h2=>intro h;exact h.elim
theorem Eh{pos lpos:Pos}{cv:Value}{c:Value}:∀{l:List Value},TriplesOk l->codeAmong pos l=none->codeAmong pos (l++[rawInt lpos.line,rawInt lpos.col,c])=some cv->cv=c:=by
 intro l
 fun_induction TriplesOk l with
 |case1=>
  intro _ _ e
  simp only[nil_append,codeAmong,rawInt] at e
  split at e
  ·exact (Option.some.inj e).symm
  ·cases e
 |case2 a t b u x rest ih=>
  intro h n e
  simp only[cons_append,codeAmong] at n e
  split at n
  ·cases n
  ·rename_i hc;rw[if_neg hc] at e;exact ih h n e
 |case3 l h1 h2=>intro h;exact h.elim
section
variable {X:Cx}{pins:List (Addr×Obj)}{Y:St}{H:Hp}{s:Shared}
theorem Dz{P c':Addr}{ps:Array Value}{l3:List Value}{h':Heap}{tk:Nat}{φ:Heap->Prop}(I:Inv X pins Y H s)(hP:H P=some (.tbl ps))(hx:Heap.ExtBut P s.heap h')(ht:h'.get? P=some (tabObj (ps++l3.toArray)))(hc:s.heap.objs.size<=c')(wp:φ h')(hc':∃o,h'.get? c'=some o)(hst:∀h1 h2:Heap,φ h1->(∀o,h1.get? c'=some o->h2.get? c'=some o)->φ h2) :
  Inv X pins Y (upd (upd H P (.tbl (ps++l3.toArray))) c' (.ext φ)) {s with heap:=h',toks:=tk}:=by
 have fc:H c'=none:=I.hok.fresh hc
 have nPc:P≠c':=aX hP fc
 have low:∀b o,s.heap.get? b=some o->b≠c':=fun b o e z=>absurd (Heap.lt_size e) (by rw[z];exact Nat.not_lt.mpr hc)
 have old:∀b,b≠P->b≠c'->upd (upd H P (.tbl (ps++l3.toArray))) c' (.ext φ) b=H b:=fun b h1 h2=>by rw[bB h2,bB h1]
 have atP:upd (upd H P (.tbl (ps++l3.toArray))) c' (.ext φ) P=some (.tbl (ps++l3.toArray)):=by rw[bB nPc];exact dA
 refine I.un (t':=tk) ⟨fun b o e n _ _=>hx b o (fun z=>by rw[z,hP] at n;cases n) e,fun b o e n _ _=>⟨o.slots,hx b o (fun z=>by rw[z,hP] at n;cases n) e⟩,fun b o e n _=>?_,fun b o e _=>?_,fun b xs e=>?_,fun b o u e=>?_,fun b qs e=>?_⟩ fun b o e=>?_
 ·rw[old b (fun z=>by rw[z,hP] at n;cases n) (low b o e)];exact n
 ·by_cases z:b=P
  ·exact⟨_,by rw[z];exact ht⟩
  ·exact⟨o,hx b o z e⟩
 ·rw[old b (fun z=>by rw[z,hP] at e;cases e) (aX e fc)];exact e
 ·rw[old b (fun z=>by rw[z,hP] at e;cases e) (aX e fc)];exact e
 ·by_cases z:b=P
  ·rw[z] at e;rw[hP] at e;cases e
   exact⟨l3.toArray,by rw[z];exact atP⟩
  ·exact⟨#[],by rw[old b z (aX e fc)];simpa using e⟩
 ·by_cases zc:b=c'
  ·subst zc
   rw[dA] at e;cases e
   exact⟨wp,hc',hst⟩
  ·by_cases z:b=P
   ·subst z
    rw[atP] at e;cases e
    exact ht
   ·rw[old b z zc] at e
    refine (I.hok b o e).pz (fun d u hd q=>hx d u ?_ q) (fun d q=>?_) fun d xs q=>?_
    ·rcases hd with rfl|hd
     ·exact z
     ·exact fun y=>by rw[y,hP] at hd;cases hd
    ·rw[old d (fun y=>by rw[y,hP] at q;cases q) (aX q fc)];exact q
    ·rw[old d (fun y=>by rw[y,hP] at q;cases q) (aX q fc)];exact q
theorem GA{K:PySem.W.Frag}{P c':Addr}{ps:Array Value}{q:Str}{lpos:Pos}(t:vH K H)(hP:H P=some (.tbl ps))(htr:TriplesOk ps.toList)(hcs:∀pos cv,codeAmong pos ps.toList=some cv->∃c,cv = .ref c/\H c=some (.ext (codeAt c (bR q))))(hf:codeAmong lpos ps.toList=none)(fc:H c'=none)
  (hu:∀c2 o2 q2,K.lookup c2=some o2->bO o2=some (P,q2)->q2=q) :
  vH K (upd (upd H P (.tbl (ps++[rawInt lpos.line,rawInt lpos.col,.ref c'].toArray))) c' (.ext (codeAt c' (bR q)))):=fun c2 o2 P2 q2 l2 e2=>by
 have nPc:P≠c':=aX hP fc
 have old:∀b,b≠P->b≠c'->upd (upd H P (.tbl (ps++[rawInt lpos.line,rawInt lpos.col,.ref c'].toArray))) c' (.ext (codeAt c' (bR q))) b=H b:=fun b h1 h2=>by rw[bB h2,bB h1]
 have cold:∀c qq,H c=some (.ext (codeAt c qq))->upd (upd H P (.tbl (ps++[rawInt lpos.line,rawInt lpos.col,.ref c'].toArray))) c' (.ext (codeAt c' (bR q))) c=some (.ext (codeAt c qq)):=fun c qq h=>by rw[old c (fun z=>by rw[z,hP] at h;cases h) (aX h fc)];exact h
 by_cases z:P2=P
 ·subst z
  obtain rfl:=hu c2 o2 q2 l2 e2
  refine⟨_,by rw[bB nPc];exact dA,by rw[Array.toList_append];exact TriplesOk_snoc _ _ _ _ htr,fun pos cv e=>?_⟩
  rw[Array.toList_append] at e
  cases hp:codeAmong pos ps.toList with
  |some w=>
   obtain⟨c,hw,hc⟩:=hcs pos w hp
   have:codeAmong pos (ps.toList++[rawInt lpos.line,rawInt lpos.col,.ref c'])=some w:=DR htr hp
   have e':some w=some cv:=this.symm.trans e
   cases e'
   exact⟨c,hw,cold c _ hc⟩
  |none=>
   have:=Eh htr hp (show codeAmong pos (ps.toList++[rawInt lpos.line,rawInt lpos.col,.ref c'])=some cv from e)
   exact⟨c',this,dA⟩
 ·obtain⟨qs,a1,a2,a3⟩:=t c2 o2 P2 q2 l2 e2
  exact⟨qs,by rw[old P2 z (aX a1 fc)];exact a1,a2,fun pos cv e=>let ⟨c,w1,w2⟩:=a3 pos cv e;⟨c,w1,cold c _ w2⟩⟩
theorem Fl{U:Mu}{params:Arguments}{body:Expr}{lsc:Scope}{lpos:Pos}{cl:List (Str×Addr)}{c P:Addr}{o:Obj}{q:Str}{Qd:Value->Shared->Prop}(I:Inv X pins Y H s)(ok:bX X.K U H)(hcode:X.env.code = .ref c)(hl:X.K.lookup c=some o)
  (hlc:bO o=some (P,q)) (hu:∀c2 o2 q2,X.K.lookup c2=some o2->bO o2=some (P,q2)->q2=q) (hq:X.env.qual=q ++ ".<locals>.") (hB:Kk X.K X.mg) (hcl:closureFor lsc X.env=pure cl) (hdef:defaultsOf params X.env=([],[]))
  (k:∀(fa c1:Addr) (ctv pm:Value) (H1:Hp) (s1:Shared),Inv X pins Y H1 s1->Ext X.K U H U H1->bX X.K U H1->s1.heap.get? fa=some {cls:=.type "function",data:=.func (kla_fn "<lambda>" (bR q) params body lsc cl pm (.ref c1) ctv)}->H1 fa=none->fa ∉ frs X.stack->H1 c1=some (.ext (codeAt c1 (bR q)))->Qd (.ref fa) s1) :
  wpAny (model X.prog X.w) X.A (eval (.Lambda params body lsc lpos) X.env) Qd X.xe s:=by
 refine PySem.W.kla_eval hdef ?_
 rw[hq]
 obtain⟨ps,hP,htr,hcs⟩:=ok.tab c o P q hl hlc
 have getP:s.heap.get? P=some (tabObj ps):=I.hok P _ hP
 have nK:∀b ob,X.K.lookup b=some ob->b≠P:=fun b ob e z=>by
  have:=(I.bs b ob (I.mod.kin b ob e)).2
  rw[z,hP] at this;cases this
 have C:=HB I.kIn hl hlc (nK c o hl)
 have hg:s.heap.Ns mainGlobals X.mg:=I.mod.glob.keeps I.bk
 have hgP:mainGlobals≠P:=fun z=>by
  obtain⟨og,es,ep,e,d,_⟩:=hg
  rw[z,getP] at e;cases e;cases d
 have hb:s.heap.BuiltinsAt X.mg P:=by
  obtain⟨bm,ob,b1,b2,b3,b4,b5,b6⟩:=hB
  refine⟨bm,ob,b1,b2,fun z=>?_,nK bm ob b3,I.kIn _ _ b3,b4,b5,b6⟩
  obtain⟨og,es,ep,e,d,_⟩:=hg
  rw[<- z,I.kIn _ _ b3] at e;cases e;rw[b6] at d;cases d
 have stk:∀b,s.heap.objs.size<=b->b ∉ frs X.stack:=fun b hb hm=>by
  obtain⟨_,ob,e,_⟩:=I.stack.mem hm
  exact absurd (Heap.lt_size e) (Nat.not_lt.mpr hb)
 cases hf:codeAmong lpos ps.toList with
 |some cv=>
  obtain⟨c1,rfl,hc1⟩:=hcs lpos cv hf
  refine PySem.W.kla_makeFunctionHit hcl I.ok.glob hg hcode C getP htr hf hb fun ctv h' tk hk hsz=>?_
  have I2:Inv X pins Y H {s with heap:=h'.push {cls:=.type "function",data:=.func (kla_fn "<lambda>" (bR q) params body lsc cl ((X.mg "__name__").getD .none) (.ref c1) ctv)},toks:=tk}:=I.kept (t':=tk) fun b u e=>Heap.get?_push_of_some _ (hk b u e)
  exact k h'.objs.size c1 ctv _ H _ I2 .refl ok (Heap.get?_push_size _ rfl) (I.hok.fresh hsz) (stk _ hsz) hc1
 |none=>
  refine PySem.W.kla_makeFunction hcl I.ok.glob hg hcode C getP htr hf hgP hb fun c' ctv h' tk hx hge hlt hrec htb=>?_
  have hca:codeAt c' (bR q) h':=by
   obtain⟨c2,oc,vs,t,e2,g2,d2,v2⟩:=hrec
   cases e2
   exact⟨oc,vs,t,g2,d2,v2⟩
  have fc:H c'=none:=I.hok.fresh hge
  have I1:Inv X pins Y (upd (upd H P (.tbl (ps++[rawInt lpos.line,rawInt lpos.col,.ref c'].toArray))) c' (.ext (codeAt c' (bR q)))) {s with heap:=h',toks:=tk}:=Dz (φ:=codeAt c' (bR q)) I hP hx htb hge hca (let ⟨oc,_,_,g2,_⟩:=hca;⟨oc,g2⟩) (fun h1 h2 ⟨oc,vs,t,g2,d2,v2⟩ kk=>⟨oc,vs,t,kk _ g2,d2,v2⟩)
  have I2:Inv X pins Y (upd (upd H P (.tbl (ps++[rawInt lpos.line,rawInt lpos.col,.ref c'].toArray))) c' (.ext (codeAt c' (bR q)))) {s with heap:=h'.push {cls:=.type "function",data:=.func (kla_fn "<lambda>" (bR q) params body lsc cl ((X.mg "__name__").getD .none) (.ref c') ctv)},toks:=tk}:=I1.kept (t':=tk) fun b u e=>Heap.get?_push_of_some _ e
  have old:∀b,b≠P->b≠c'->upd (upd H P (.tbl (ps++[rawInt lpos.line,rawInt lpos.col,.ref c'].toArray))) c' (.ext (codeAt c' (bR q))) b=H b:=fun b h1 h2=>by rw[bB h2,bB h1]
  have nPc:P≠c':=aX hP fc
  have ex:Ext X.K U H U (upd (upd H P (.tbl (ps++[rawInt lpos.line,rawInt lpos.col,.ref c'].toArray))) c' (.ext (codeAt c' (bR q)))):=⟨fun b u e n nt=>by rw[old b (fun z=>by rw[z,hP] at e;cases e;exact nt) (aX e fc)];exact e,fun b qs e n=>by
   by_cases z:b=P
   ·exact⟨_,by rw[z,bB nPc];exact dA⟩
   ·exact⟨qs,by rw[old b z (aX e fc)];exact e⟩,fun _ ds e=>⟨ds,e⟩,fun _ e _=>e⟩
  have mu:bX X.K U (upd (upd H P (.tbl (ps++[rawInt lpos.line,rawInt lpos.col,.ref c'].toArray))) c' (.ext (codeAt c' (bR q)))):=⟨fun a ds e=>by
   obtain⟨xs,h1,h2⟩:=ok a ds e
   exact⟨xs,by rw[old a (fun z=>by rw[z,hP] at h1;cases h1) (aX h1 fc)];exact h1,h2.ext ok ex⟩,GA ok.tab hP htr hcs hf fc hu⟩
  have hfr:s.heap.objs.size<=h'.objs.size:=le_trans hge (le_of_lt hlt)
  refine k h'.objs.size c' ctv _ _ _ I2 ex mu (Heap.get?_push_size _ rfl) ?_ (stk _ hfr) dA
  have:h'.objs.size≠c':=Nat.ne_of_gt hlt
  by_cases z:h'.objs.size=P
  ·exact absurd (Heap.lt_size getP) (by rw[<- z];exact Nat.not_lt.mpr hfr)
  ·rw[old _ z this];exact I.hok.fresh hfr
end
def rf(lsc:Scope)(cl:List (Str×Addr))(q:Str)(fa c1 L:Addr):Env:={scope:=lsc,locals:=L,globals:=mainGlobals,cells:=cl,qual:=q ++ ".<locals>.",func:=some fa,code:=.ref c1,frame:=some L,builtins:=builtinsNs}
def n8(P:Program)(w:World)(K:PySem.W.Frag)(mg:Str->Option Value)(base:Heap)(N:List Str)(lsc:Scope)(cl:List (Str×Addr))(q:Str)(fa c1:Addr)(A:Around)(outer:List Env)(s:Shared)(H:Hp)(E:XK):Cx where
 prog:=P
 w:=w
 K:=K
 mg:=mg
 base:=base
 A:=A.deeper (rf lsc cl q fa c1 s.heap.objs.size)
 N:=N
 dl:=s
 H₀:=H
 env:=rf lsc cl q fa c1 s.heap.objs.size
 outer:=outer
 stack:=rf lsc cl q fa c1 s.heap.objs.size::outer
 ex:=[]
 calm:=true
 fn:=fun _=>false
 pn:=[]
 xe:=fun e s'=>wpAny (model P w) (A.deeper (rf lsc cl q fa c1 s.heap.objs.size)) (leaving (rf lsc cl q fa c1 s.heap.objs.size) e) (fun _ s''=>CX1 P w outer H s E e s'') (fun e' s''=>CX1 P w outer H s E e' s'') s'
section
variable {P:Program}{w:World}{K:PySem.W.Frag}{mg:Str->Option Value}{base:Heap}{N:List Str}{lsc:Scope}{cl:List (Str×Addr)}{q:Str}{fa c1:Addr}{A:Around}{outer:List Env}{s:Shared}{H:Hp}{E:XK}{Y:St}{k:Nat}{params:Arguments}{body:Expr}{pm ctv:Value}{t:TE}
theorem Dq:XOk (n8 P w K mg base N lsc cl q fa c1 A outer s H E) E where
 new:=fun pins Y H1 s1 ea cls vs h1 I hx qq=>leave_new (X:=n8 P w K mg base N lsc cl q fa c1 A outer s H E) ⟨rfl,rfl,rfl⟩ I hx qq
 pas:=fun pins Y H1 s1 e s' I h=>wC (X:=n8 P w K mg base N lsc cl q fa c1 A outer s H E) ⟨rfl,rfl,rfl⟩ I h
structure Clo(lsc:Scope)(cl:List (Str×Addr))(N:List Str)(Y:St)(h:Heap)(H:Hp):Prop where
 cell:∀x c,cl.lookup x=some c->∃v,h.IsCell c v
 free:∀x c,cl.lookup x=some c->H c=none
 inj:∀x y c,cl.lookup x=some c->cl.lookup y=some c->x=y
 has:∀x,lsc.names.lookup x=some .cell\/lsc.names.lookup x=some .free->∃a,cl.lookup x=some a
 vals:∀(i:Nat) (x:Str) (v:V),N[i]? = some x->Y[i]? = some (some v)->Vis lsc x->∃u c,RelV v u/\lsc.names.lookup x=some .free/\cl.lookup x=some c/\h.IsCell c (some u)
 len:Y.length=N.length
theorem Ae{Q:VK}(hk:lsc.kind = .function)(hco:lsc.isCoroutine=false)(hgen:lsc.isGenerator=false)(hcell:∀y∈lsc.names,y.2≠.cell)(hr:fi (k+1) A)(e0:wb P w K mg base A outer s H)
  (ho:s.heap.get? fa=some {cls:=.type "function",data:=.func (kla_fn "<lambda>" q params body lsc cl pm (.ref c1) ctv)}) (hcd:H c1=some (.ext (codeAt c1 q))) (hbind:bindArgs (kla_fn "<lambda>" q params body lsc cl pm (.ref c1) ctv) ⟨[],[]⟩=pure [])
  (C:Clo lsc cl N Y s.heap H) (pe:PE (n8 P w K mg base N lsc cl q fa c1 A outer s H E) body t) (ht:t Y H Q) :
  codeAny (model P w) A (.call (.ref fa) ⟨[],[]⟩) (CR (CX1 P w) outer P w H s Q E) s:=by
 have crec:s.heap.CodeRec (.ref c1) q:=by
  obtain⟨⟨o,vs,t,g,d,v⟩,_,_⟩:=e0.hok c1 _ hcd
  exact⟨c1,o,vs,t,rfl,g,d,v⟩
 refine PySem.W.kla_callFunE hr.depth ho rfl hco hgen rfl crec ?_
 rw[hbind]
 refine wpAny_pure (wpAny_newFunctionEnv hcell (fun y hy=>nomatch hy) (fun im hns hsb=>?_) hk)
 have nb:∀b o,s.heap.get? b=some o->im.get? b=some o:=fun b o e=>hsb.extBut b o (ne_of_lt (Heap.lt_size e)) (Heap.get?_push_of_some _ e)
 have lim:im.NoLimit:=e0.mod.nolimit.keeps fun b o e=>nb b o (e0.bs b o e).1
 refine⟨lim,?_⟩
 have noA:∀b:Addr,b ∉ (n8 P w K mg base N lsc cl q fa c1 A outer s H E).ex:=fun b z=>nomatch z
 have I:Inv (n8 P w K mg base N lsc cl q fa c1 A outer s H E) [] Y H {s with heap:=im,toks:=s.toks+([]:List (Str×Value)).length}:=by
  refine⟨⟨e0.mod,hk,rfl,rfl,le_refl _,C.inj,C.has,fun _ _ z=>(nomatch z),fun _=>hr.hd,.inl hr.hd,Around.frames_deeper e0.frames,.inr ⟨rfl,rfl⟩,fun b z=>absurd z (noA b),e0.bs,e0.bsz,fun b _ _=>noA b,fun b z=>absurd z (noA b),e0.oG,e0.frf⟩,
   rfl,e0.bare,Un.kept nb,⟨_,hns,fun i x v h1 h2 h3=>?_⟩,fun x c h=>?_,e0.hok.fresh (le_refl _),C.free,fun p hp=>(nomatch hp),e0.hok.kept nb,C.len⟩
  ·obtain⟨u,c,r,f1,f2,o,f3,f4⟩:=C.vals i x v h1 h2 h3
   exact⟨u,r,.inr ⟨.inr f1,c,f2,o,nb _ _ f3,f4⟩⟩
  ·obtain⟨v,o,f3,f4⟩:=C.cell x c h
   exact⟨v,o,nb _ _ f3,f4⟩
 show codeAny _ _ (.expr body (rf lsc cl q fa c1 s.heap.objs.size)) _ _
 refine PySem.W.kla_codeExpr (wpAny_mono (pe [] _ Y H Q I ht) (fun v s' hv=>?_) fun e s' hs=>hs)
 obtain⟨x,H',J,r,qq⟩:=hv
 exact⟨x,H',J.os,J.bare,J.base,J.hok,r,qq⟩
end
def cxH(X:Cx)(ea:Addr)(oe:Obj):Cx:={X with A:=X.A.mark (some (.ref ea)),calm:=false,pn:=(ea,oe)::X.pn,xe:=fun _ _=>False}
section
variable {X:Cx}{pins:List (Addr×Obj)}{Y:St}{H:Hp}{s:Shared}{O:Addr->Prop}{ea:Addr}{oe:Obj}{vs:Array Value}
theorem yt{h':Heap}(hF:Frm X)(I:Inv X pins Y H s)(k:Kp O (frs (X.env::X.outer)) s.heap h')(hO:∀b o,X.dl.heap.get? b=some o->O b)(ht:∀b,H b≠none->O b)(hp:∀p∈X.pn++pins,O p.1):Inv X pins Y H {s with heap:=h'}:=by
 have cellK:∀c v,s.heap.IsCell c v->h'.IsCell c v:=fun c v ⟨o,e,d⟩=>by
  obtain⟨sl,e'⟩:=k.slot c o e fun vs z=>by rw[d] at z;cases z
  exact⟨_,e',d⟩
 refine⟨I.ok,I.os,I.bare,?_,?_,fun x c e=>let ⟨v,q⟩:=I.cell x c e;⟨v,cellK c v q⟩,I.free,I.gI,fun p hp'=>?_,HOk.fly I.hok k ht (A1 hF I),I.len⟩
 ·have k':=k
  rw[qw hF] at k'
  have u:=I.base
  rw[hF.ex] at u ⊢
  exact Un.fly u k' hO (Cv I) (xR I)
 ·obtain⟨m,⟨o,es,ep,e,d,r⟩,hl⟩:=I.loc
  obtain⟨sl,e'⟩:=k.slot _ o e fun vs z=>by rw[d] at z;cases z
  refine⟨m,⟨_,es,ep,e',d,r⟩,fun i x v h1 h2 h3=>?_⟩
  obtain⟨u,ru,lk⟩:=hl i x v h1 h2 h3
  refine⟨u,ru,?_⟩
  rcases lk with z|⟨z,c,z1,z2⟩
  ·exact .inl z
  ·exact .inr ⟨z,c,z1,cellK _ _ z2⟩
 ·obtain⟨a1,a2,a3,a4,a5⟩:=I.pin p hp'
  exact⟨k.keep _ _ a1 (hp p hp') fun z=>by
   rw[qw hF] at z
   rcases List.mem_cons.mp z with z|z
   ·exact a3 z
   ·exact a4 z,a2,a3,a4,a5⟩
theorem L3(I:Inv X pins Y H s)(he:s.heap.get? ea=some oe)(hH:H ea=none)(hL:ea≠X.env.locals)(hfs:ea ∉ X.fs)(hd:oe.data = .fields vs)(h2:vs[2]? = some .none):Inv (cxH X ea oe) pins Y H s:=
 ⟨⟨I.ok.mod,I.ok.kind,I.ok.glob,I.ok.blt,I.ok.above,I.ok.inj,I.ok.has,I.ok.cab,fun z=>(nomatch z),.inr ⟨ea,oe,vs,rfl,mem_cons_self,hd,h2⟩,I.ok.frames,I.ok.stk,I.ok.exf,I.ok.bs,I.ok.bsz,I.ok.zx,I.ok.FC,I.ok.oG,I.ok.frf⟩,
  I.os,I.bare,I.base,I.loc,I.cell,I.free,I.gI,fun p hp=>by
   rcases List.mem_cons.mp (show p∈(ea,oe)::(X.pn++pins) from hp) with z|z
   ·rw[z];exact⟨he,hH,hL,hfs,fun v y=>by rw[hd] at y;cases y⟩
   ·exact I.pin p z,I.hok,I.len⟩
theorem Gi{h':Heap}{m':Str->Option Value}{tk:Nat}(ok:X.Ok)(I:Inv (cxH X ea oe) pins Y H s)(hn:h'.Ns X.env.locals m')(hs:Heap.SameBut X.env.locals s.heap h')(hx:X.ex=[]):Inv X pins (List.replicate X.N.length none) H {s with heap:=h',toks:=tk}:=by
 have kp:∀b o,b≠X.env.locals->s.heap.get? b=some o->h'.get? b=some o:=fun b o hb e=>(hs.2 b hb).trans e
 have low:∀b o,X.dl.heap.get? b=some o->b≠X.env.locals:=fun b o e=>ne_of_lt (lt_of_lt_of_le (Heap.lt_size e) ok.above)
 have cne:∀x c,X.env.cells.lookup x=some c->c≠X.env.locals:=I.cne
 have u:Un X.fs X.ex X.H₀ H X.dl.heap s.heap:=I.base
 have hneL:∀b∈X.fs,b≠X.env.locals:=fun b hb z=>by
  obtain⟨_,o,e,_⟩:=ok.oG.mem hb
  exact low b o e z
 refine⟨ok,I.os,I.bare,⟨fun b o e n f x=>kp b o (low b o e) (u.keep b o e n f x),fun b o e n f x=>?_,u.free,fun b o e x=>?_,u.oD,u.nQ,u.nS⟩,⟨m',hn,fun i x v h1 h2 h3=>?_⟩,fun x c e=>?_,I.free,I.gI,fun p hp=>?_,fun b o e=>?_,by simp⟩
 ·obtain⟨sl,e1⟩:=u.slot b o e n f x
  exact⟨sl,kp b _ (low b o e) e1⟩
 ·obtain⟨o1,e1⟩:=u.there b o e x
  exact⟨o1,kp b o1 (low b o e) e1⟩
 ·rw[List.getElem?_replicate] at h2
  split at h2<;>cases h2
 ·obtain⟨v,o,e1,d⟩:=I.cell x c e
  exact⟨v,o,kp c o (cne x c e) e1,d⟩
 ·obtain⟨a1,a2,a3,a4,a5⟩:=I.pin p (mem_cons_of_mem _ hp)
  exact⟨kp _ _ a3 a1,a2,a3,a4,a5⟩
 ·refine (I.hok b o e).pz (fun d v hd q=>kp d v ?_ q) (fun _ q=>q) fun _ _ q=>q
  have fr:H X.env.locals=none:=I.free
  rintro rfl
  rcases hd with z|z
  ·rw[<- z,fr] at e;cases e
  ·rw[fr] at z;cases z
noncomputable def MX(X:Cx)(di ni:Nat)(C:Value)(tS:Addr->Obj->TS):TS:=fun D Y H=>∃(fa:Addr) (Good:Hp->Prop),Y[di]? = some (some (.ref fa)) /\
 (∀s1,Inv X [] Y H s1->FnAt fa s1.heap/\codeAny (model X.prog X.w) X.A (.call (.ref fa) ⟨[],[]⟩) (CR (CX1 X.prog X.w) X.stack X.prog X.w H s1 (fun _ _=>False) (fun cls _ H'=>cls=C/\Good H')) s1) /\
 ∀H' ea oe,Good H'->oe.cls=C->H' ea=none->tS ea oe {nx:=fun _ _=>False,rt:=D.rt} (Y.set ni (some (.ref ea))) H'
theorem Kc{dn x n:Str}{dp cp ep np hp pos:Pos}{di ni:Nat}{b₀:Stmt}{suite:List Stmt}{C FE:Addr}{tS:Addr->Obj->TS}(hF:Frm X)(hpn:X.pn=[])(hNd:X.N.Nodup)(hd:X.N[di]? = some dn)(hv:Vis X.env.scope dn)(hn:X.N[ni]? = some n)(hl:X.env.kindOf n=some .local)(hg:Gl X x)(hm:X.mg x=some (.ref FE))
  (hex:exmOne X.K (.ref C) (.ref FE)=some true) (hs:∀ea oe,PSs (cxH X ea oe) (b₀::suite) (tS ea oe)) (hdb:(dn==("__debug__":Str))=false:=by decide) (hdc:(dn==("__classdict__":Str))=false:=by decide) (hxb:(x==("__debug__":Str))=false:=by decide)
  (hsw:swapsWith (.Call (.Name dn dp) [] [] cp) none ep.line X.env=pure false:=by rfl) (pins0:List (Addr×Obj)) (s:Shared) (Y:St) (H:Hp) (D:Ends) (hp0:pins0=[]) (I0:Inv X pins0 Y H s) (h:MX X di ni (.ref C) tS D Y H) :
  wpAny (model X.prog X.w) X.A (exec (.Try [.Expr (.Call (.Name dn dp) [] [] cp) ep] [.ExceptHandler (some (.Name x np)) (some n) (b₀::suite) hp] [] [] pos) X.env) (SP X pins0 D) X.xe s:=by
 subst hp0
 obtain⟨fa,Good,pp,deed,good⟩:=h
 refine wpAny_Try_except (wpAny_execs_cons (wpAny_Expr_any (wpAny_Call_Name_kw (wpAny_mono (BS (X:=X.nox) hd hv hdb hdc [] s Y H (fun v H1=>v = .ref fa/\H1=H) (I0.sD _) ⟨.ref fa,pp,rfl,rfl⟩) (fun v s1 hv1=>?_) fun _ _ z=>z.elim)) I0.quiet hsw))
 obtain⟨y,H1,I1,r,e1,e2⟩:=hv1
 subst e1 e2
 cases r
 have I1:=I1.kf
 obtain⟨fn,code⟩:=deed s1 I1
 refine PySem.W.callWith_F0 fn (wpAny_call (codeAny_mono code fun r s' hr=>?_))
 cases r with
 |ok fl=>
  cases fl with
  |ret u=>obtain⟨_,_,_,_,_,_,_,z⟩:=hr;exact z.elim
  |next=>exact hr.elim
  |brk=>exact hr.elim
  |cont=>exact hr.elim
 |error e=>
  obtain⟨O,ea,cls,H',rfl,os,bare,un,hok,hO,ht,F,rfl,gd⟩:=hr
  have I':Inv X [] Y H' s':=I1.uR (ch:=[]) os un hok bare (fun b z=>nomatch z)
  have fr:X.A.frames=some (X.env::X.outer):=by rw[<- hF.stk];exact I0.ok.frames
  have hO0:∀b o,X.dl.heap.get? b=some o->O b:=fun b o e=>by
   obtain⟨o',e'⟩:=I1.base.there b o e (by rw[hF.ex];exact fun z=>nomatch z)
   exact hO b o' e'
  have hpp:∀p∈X.pn++([]:List (Addr×Obj)),O p.1:=fun p hp=>by rw[hpn] at hp;exact nomatch hp
  have hLO:O X.env.locals:=by
   obtain⟨m,⟨o,es,ep,e,_⟩,_⟩:=I1.loc
   exact hO _ o e
  refine wA (s:=s') fr (rg hF I') hF.fr F fun h2 k2 F2=>?_
  have I2:=yt hF I' k2 hO0 ht hpp
  refine jW (s:={s' with heap:=h2}) (fs:=frs (X.env::X.outer)) F2 fun h3 k3 F3=>?_
  have I3:=yt hF I2 k3 hO0 ht hpp
  have keyE:∀{h:Heap} {fl:Value},Fly O h ea (.ref C) fl->∀{s4:Shared},s4.heap=h->Inv X [] Y H' s4->∃oe,oe.cls = .ref C/\s4.heap.get? ea=some oe/\H' ea=none/\Inv (cxH X ea oe) [] Y H' s4:=fun {h fl} G {s4} e4 I4=>by
   obtain⟨_,oe,vs,T,oT,ts,g1,g2,g3,g4,g5,g6,_⟩:=G
   have hH:H' ea=none:=by
    cases z:H' ea with
    |none=>rfl
    |some o=>exact absurd (ht ea (by rw[z];exact fun y=>nomatch y)) g6
   refine⟨oe,g2,by rw[e4];exact g1,hH,L3 I4 (by rw[e4];exact g1) hH (fun z=>g6 (by rw[z];exact hLO)) (fun z=>?_) g3 g5⟩
   exact xR I4 ea z oe (by rw[e4];exact g1) vs g3
  obtain⟨oe3,c3,g3,n3,H3⟩:=keyE F3 rfl I3
  refine wpAny_handleBy_cons (codeAny_handlers_test (nE (X:=cxH X ea oe3) H3 hg hm ?_ hxb)) (by intro z;cases z)
  refine (PySem.W.exm_one (M:=model X.prog X.w) (K:=X.K) (h:=h3) I3.kIn (fun A' Q' E' s4 kk q=>?_) hex).here ?_
  ·have e3:=kk _ _ g3
   unfold typeOf
   refine wpAny_bind (wpAny_loadPart e3 ?_)
   rw[c3]
   exact wpAny_pure q
  ·refine codeAny_handlers_suite_as (jW (s:={s' with heap:=h3}) (fs:=frs (X.env::X.outer)) F3 fun h4 k4 F4=>?_)
   have I4:=yt hF I3 k4 hO0 ht hpp
   obtain⟨oe,c4,g4,n4,H4⟩:=keyE F4 rfl I4
   refine jy (X:=cxH X ea oe) (v:=.ref ea) H4 hNd hn (Or.inl hl) rfl (fun s5 I5=>?_) (Or.inr hl)
   refine wpAny_mono (hs ea oe [] s5 _ H' {nx:=fun _ _=>False,rt:=D.rt} I5 (good H' ea oe gd c4 n4)) (fun f s6 h6=>?_) fun e s6 z=>z.elim
   cases f with
   |next=>obtain⟨_,_,_,z⟩:=h6;exact z.elim
   |brk=>obtain⟨_,_,_,z⟩:=h6;exact z.elim
   |cont=>obtain⟨_,_,_,z⟩:=h6;exact z.elim
   |ret u=>
    obtain⟨v,ap,H6,I6,r6,q6⟩:=h6
    obtain⟨m6,hn6,_⟩:=I6.loc
    refine wpAny_nameGoes (env:=X.env) hl hn6 (by rw[I0.ok.kind];rfl) fun h7 m7 hn7 hs7=>?_
    exact⟨v,_,H6,Gi I0.ok I6 hn7 hs7 hF.ex,r6,q6⟩
end
theorem IL{CX:CXT}{P:Program}{w:World}{K:PySem.W.Frag}{mg:Str->Option Value}{base:Heap}{k:Nat}{f:Addr}{name qual:Str}{params:Arguments}{body:List Stmt}{scope:Scope}{dV kV doc pm cdv ct oc:Value}{an od:Option Addr}{osl:Array (Option Value)}{N ps:List Str}
  {A:Around} {outer:List Env} {s:Shared} {H:Hp} {args:Args} {us:List Value} {vs:List V} {Q:VK} {E:XK} (lk:K.lookup f=some ⟨oc,od,.func (fnOf name qual params body scope dV kV doc pm an cdv ct),osl⟩) (hcd:codeIn K cdv qual=true) (S:aZ N ps scope)
  (hl:vs.length=ps.length) (hr:fi (k+1) A) (e0:wb P w K mg base A outer s H) (hb:BindsTo s (fnOf name qual params body scope dV kV doc pm an cdv ct) args (ps.zip us)) (r:Vals vs us)
  (hq:∀s1,Inv (jJ CX P w K mg base N qual scope f cdv A outer s H E) [] (start N vs) H s1->wpAny (model P w) (A.deeper (envOfC qual scope s.heap.objs.size f cdv)) (execs body (envOfC qual scope s.heap.objs.size f cdv)) (SP (jJ CX P w K mg base N qual scope f cdv A outer s H E) [] {nx:=fun _ H'=>Q .non H',rt:=Q}) (jJ CX P w K mg base N qual scope f cdv A outer s H E).xe s1) :
  codeAny (model P w) A (.call (.ref f) args) (CR CX outer P w H s Q E) s:=by
 have KX:K.In s.heap:=e0.mod.kin.keeps fun b o e=>(e0.bs b o e).1
 have lim:s.heap.NoLimit:=e0.mod.nolimit.keeps fun b o e=>(e0.bs b o e).1
 have hkind:∀y∈ps.zip us,scope.names.lookup y.1=some .local\/(scope.names.lookup y.1=some .cell/\((cellsFrom (s.heap.objs.size+1) scope.names []).lookup y.1).isSome=true):=fun ⟨n,v⟩ hy=>by
  rcases S.par n (List.of_mem_zip hy).1 with q|q
  ·exact .inl q
  ·exact .inr ⟨q,PySem.W.cellsFrom_some _ _ _ (.inl q)⟩
 refine codeAny_call_function hr.depth (KX _ _ lk) rfl S.co S.gen rfl (PySem.W.codeRec_of KX hcd) (hb _ _ _ _ ?_)
 refine wpAny_newFunctionEnv_cells S.kind hkind fun env he s1 x=>?_
 subst he
 refine⟨lim.keeps x.toInCall.keep,codeAny_func ?_⟩
 have I:Inv (jJ CX P w K mg base N qual scope f cdv A outer s H E) [] (start N vs) H s1:=wm S hr.hd e0 hl r x
 refine wpAny_mono (hq s1 I) (fun fl s' hs=>?_) fun e s' hs=>hs
 have fin:∀{ap:St} {H':Hp} {v:V} {u:Value},Inv (jJ CX P w K mg base N qual scope f cdv A outer s H E) [] ap H' s'->RelV v u->Q v H'->CE outer P w H s Q u s':=
  fun {ap H' v u} J rv q=>⟨v,H',J.os,J.bare,J.base,J.hok,rv,q⟩
 cases fl with
 |ret u=>obtain⟨v,ap,H',J,rv,q⟩:=hs;exact fin J rv q
 |next=>obtain⟨ap,H',J,q⟩:=hs;exact fin (v:=V.non) (u:=Value.none) J rfl q
 |brk=>obtain⟨_,_,_,q⟩:=hs;exact False.elim q
 |cont=>obtain⟨_,_,_,q⟩:=hs;exact False.elim q
structure Dn(P:Program)(w:World)(K:PySem.W.Frag)(mg:Str->Option Value)(base:Heap)(k:Nat)(f:Addr)(fd:FuncData)(dn:Str)(C:Value)(nm:Str):Prop where
 run:∀(A:Around) (outer:List Env) (s:Shared) (H:Hp) (fa:Addr) (Good:Hp->Prop) (Q:VK),fi (k+1) A->wb P w K mg base A outer s H->BindsTo s fd ⟨[.ref fa],[]⟩ ([dn].zip [.ref fa]) ->
  (∀(A':Around) (outer':List Env) (s':Shared),fi k A'->wb P w K mg base A' outer' s' H->Un (frs outer) [] H H s.heap s'.heap->FnAt fa s'.heap/\codeAny (model P w) A' (.call (.ref fa) ⟨[],[]⟩) (CR (CX1 P w) outer' P w H s' (fun _ _=>False) (fun cls _ H'=>cls=C/\Good H')) s') ->
  (∀H',Good H'->∃U,bX K U H'/\∀H'',Ext K U H' U H''->bX K U H''->Q (.str nm) H'') ->
  codeAny (model P w) A (.call (.ref f) ⟨[.ref fa],[]⟩) (CR CX0 outer P w H s Q E0) s
theorem EL{P:Program}{w:World}{K:PySem.W.Frag}{mg:Str->Option Value}{base:Heap}{k:Nat}{f:Addr}{fd:FuncData}{fx qual:Str}{st:Stmt}{dn n y1 y2 x:Str}{dp cp ep np hp pos:Pos}{b₀:Stmt}{suite rest:List Stmt}{C FE:Addr}{nm:Str}{td:Addr->DTS}
  (F:Fun K fx qual st f fd) (S:aZ [dn,n,y1,y2] [dn] (az st))
  (hbody:dk st = .Try [.Expr (.Call (.Name dn dp) [] [] cp) ep] [.ExceptHandler (some (.Name x np)) (some n) (b₀::suite) hp] [] [] pos::rest)
  (hv:(az st).names.lookup dn=some .local) (hl:(az st).names.lookup n=some .local) (hg:(az st).names.lookup x=some .globalImplicit) (hm:mg x=some (.ref FE)) (hex:exmOne K (.ref C) (.ref FE)=some true)
  (hdb:(dn==("__debug__":Str))=false) (hdc:(dn==("__classdict__":Str))=false) (hxb:(x==("__debug__":Str))=false)
  (hsw:∀env:Env,swapsWith (.Call (.Name dn dp) [] [] cp) none ep.line env=pure false)
  (hs:∀(cdv:Value) (A:Around) (outer:List Env) (s:Shared) (H:Hp) (ea:Addr) (oe:Obj),oe.cls = .ref C->fi k (jJ CX0 P w K mg base [dn,n,y1,y2] qual (az st) f cdv A outer s H E0).A->DSs (cxH (jJ CX0 P w K mg base [dn,n,y1,y2] qual (az st) f cdv A outer s H E0) ea oe) (b₀::suite) (td ea))
  (hrd:∀(ea fa:Addr) (U:Mu) (Qd:DK),Qd (.v (.str nm)) U->td ea {nx:=fun _ _=>False,rt:=Qd} [some (.o fa),some (.o ea),none,none] U):Dn P w K mg base (k+1) f fd dn (.ref C) nm where
 run:=fun A outer s H fa Good Q hr e0 hb deed fin=>by
  obtain⟨oc,od,kV,doc,pm,an,cdv,ct,osl,rfl,lk,hcd⟩:=F.ex
  refine IL (k:=k+1) (vs:=[.ref fa]) (us:=[.ref fa]) lk hcd S rfl hr e0 hb (.cons rfl .nil) fun s1 I=>?_
  show wpAny _ _ (execs (dk st) _) _ _ _
  rw[hbody]
  have hX:∀ea oe,PSs (cxH (jJ CX0 P w K mg base [dn,n,y1,y2] qual (az st) f cdv A outer s H E0) ea oe) (b₀::suite) (fun D ap H'=>oe.cls = .ref C/\H' ea=none/\ap=(start [dn,n,y1,y2] [V.ref fa]).set 1 (some (.ref ea))/\∃U,bX K U H'/\∀H'',Ext K U H' U H''->bX K U H''->D.rt (.str nm) H''):=fun ea oe pins' s' ap H' D I' h=>by
   obtain⟨hc,hH,rfl,U,ok,q⟩:=h
   obtain⟨t,p,l⟩:=hs cdv A outer s H ea oe hc ((hr.deeper _).mono (le_succ _))
   refine p pins' s' _ H' D I' (l _ H' [some (.o fa),some (.o ea),none,none] U {nx:=fun _ _=>False,rt:=fun d Z=>d = .v (.str nm)/\Z=U} D ⟨ok,rfl,fun i d e=>?_⟩ (hrd ea fa U _ ⟨rfl,rfl⟩) (fun _ _ _ _ _ _ z=>z.elim) (fun d u Z H'' e' ok' r ⟨z1,z2⟩=>?_) (fun _ _ _ _ _ _ z=>z.elim) (fun _ _ _ _ _ _ z=>z.elim))
   ·match i,e with
    |0,e=>cases e;exact⟨.ref fa,rfl,rfl⟩
    |1,e=>cases e;exact⟨.ref ea,rfl,rfl⟩
    |2,e=>cases e
    |3,e=>cases e
   ·subst z1 z2
    cases r
    exact q H'' e' ok'
  refine wpAny_execs_cons (wpAny_mono (Kc (X:=jJ CX0 P w K mg base [dn,n,y1,y2] qual (az st) f cdv A outer s H E0) (C:=C) (FE:=FE) (di:=0) (ni:=1) ⟨rfl,rfl,rfl⟩ rfl S.nd rfl (Or.inl hv) rfl hl hg hm hex hX hdb hdc hxb (hsw _) [] s1 _ H {nx:=fun _ _=>False,rt:=Q} rfl I
   ⟨fa,Good,rfl,fun s2 I2=>deed _ _ s2 (hr.deeper _) I2.Ga I2.base,fun H' ea oe gd c hn=>⟨c,hn,rfl,fin H' gd⟩⟩) (fun fl s' hs'=>?_) fun _ _ z=>z)
  cases fl with
  |ret u=>exact hs'
  |next=>obtain⟨_,_,_,z⟩:=hs';exact z.elim
  |brk=>obtain⟨_,_,_,z⟩:=hs';exact z.elim
  |cont=>obtain⟨_,_,_,z⟩:=hs';exact z.elim
section
variable {X:Cx}{e:Expr}{te:DTE}{p py pos:Pos}{y:Str}{C:Addr}{b:Bool}{ea:Addr}{oe:Obj}
noncomputable def fo(ea:Addr)(b:Bool)(te:DTE):DTE:=fun ρ U Q=>te ρ U fun x ad=>match x with
 |.o a=>a=ea/\Q (.v (.bool b)) ad
 |_=>False
theorem AQ{cv:V}{w:Value}(ZY:sq X.K C)(hp:(ea,oe)∈X.pn)(hc:oe.cls = .ref C)(r:RelV cv w)(hw:∀u,RelV cv u->u=w)(ek:kitOne X.K (.ref C) w=some b):fU X (.builtin "isinstance") (fun xs H Q=>xs=[.ref ea,cv]/\Q (.bl b) H):=by
 intro pins s Y H xs us Q I rr h
 obtain⟨rfl,q⟩:=h
 obtain⟨v,w',rfl,r1,r2⟩:=vals2 rr
 cases r1
 obtain rfl:=hw w' r2
 exact kia_one (Fc ZY) I.kIn ⟨oe,(I.pin (ea,oe) (mem_append_left _ hp)).1,hc⟩ ek (fun z=>nomatch z) fun tk=>⟨.bl b,H,I.tok _,rfl,q⟩
theorem cb{C':Addr}(ZY:sq X.K C)(hp:(ea,oe)∈X.pn)(hc:oe.cls = .ref C)(ek:kitOne X.K (.ref C) (.ref C')=some b)(hg:Gl X "isinstance")(hm:X.mg "isinstance"=none)(hgy:Gl X y)(hmy:X.mg y=some (.ref C'))(ha:DE X e te)(hdy:(y==("__debug__":Str))=false:=by decide)
  (he:starEach [e,.Name y py] X.env=(false,eval e X.env)::starEach [.Name y py] X.env:=by rfl) (he2:starEach [.Name y py] X.env=[(false,eval (.Name y py) X.env)]:=by rfl) (hpl:(backTo pos (starEach [.Name y py] X.env)).any (·.1)=false:=by rfl):DE X (.Call (.Name "isinstance" p) [e,.Name y py] [] pos) (fo ea b te):=by
 obtain⟨t1,p1,l1⟩:=ha
 refine⟨_,qu (AQ (cv:=.ref C') ZY hp hc rfl (fun u h=>h) ek) hg hm PyProof.Rows.Boot.«isinstance» (dP p1 (dP (za (v:=.ref C') hgy hmy rfl hdy) kg he2) he) ⋯ ⋯ he hpl,fun Y H ρ U Qd Q S h k=>?_⟩
 refine l1 Y H ρ U _ _ S h fun x ux ad H1 e1 S1 rx h1=>?_
 split at h1
 ·obtain⟨rfl,h1⟩:=h1
  obtain rfl:ux = .ref _:=rx
  exact⟨rfl,k (.v _) _ ad H1 e1 S1 (Rp.bool _) h1⟩
 ·exact h1.elim
theorem Ci{T:String}(ZY:sq X.K C)(hp:(ea,oe)∈X.pn)(hc:oe.cls = .ref C)(ek:kitOne X.K (.ref C) (.type T)=some b)(hg:Gl X "isinstance")(hm:X.mg "isinstance"=none)(hgy:Gl X y)(hmy:X.mg y=none)(hvy:bootBuiltins y=some (.type T))(ha:DE X e te)(hny:y ≠ "__name__":=by decide)(hdy:(y==("__debug__":Str))=false:=by decide)
  (he:starEach [e,.Name y py] X.env=(false,eval e X.env)::starEach [.Name y py] X.env:=by rfl) (he2:starEach [.Name y py] X.env=[(false,eval (.Name y py) X.env)]:=by rfl) (hpl:(backTo pos (starEach [.Name y py] X.env)).any (·.1)=false:=by rfl):DE X (.Call (.Name "isinstance" p) [e,.Name y py] [] pos) (fo ea b te):=by
 obtain⟨t1,p1,l1⟩:=ha
 refine⟨_,qu (AQ (cv:=.ty T) ZY hp hc rfl (fun u h=>h) ek) hg hm PyProof.Rows.Boot.«isinstance» (dP p1 (dP (CO (v:=.ty T) hgy hmy hvy rfl hny hdy) kg he2) he) ⋯ ⋯ he hpl,fun Y H ρ U Qd Q S h k=>?_⟩
 refine l1 Y H ρ U _ _ S h fun x ux ad H1 e1 S1 rx h1=>?_
 split at h1
 ·obtain⟨rfl,h1⟩:=h1
  obtain rfl:ux = .ref _:=rx
  exact⟨rfl,k (.v _) _ ad H1 e1 S1 (Rp.bool _) h1⟩
 ·exact h1.elim
end
structure J0(K:PySem.W.Frag)(mg:Str->Option Value)(c P:Addr)(q:Str):Prop where
 obj:∃o,K.lookup c=some o/\bO o=some (P,q)
 one:∀c2 o2 q2,K.lookup c2=some o2->bO o2=some (P,q2)->q2=q
 blt:Kk K mg
noncomputable def sP(cap:List (Option Nat))(tx:DTX)(nm:Str):DTE:=fun ρ U Qd=>tx (bE cap ρ) U fun Z=>Qd (.v (.str nm)) Z
theorem wW{X:Cx}{k:Nat}{f c P:Addr}{fd:FuncData}{dn rn q nm:Str}{C:Value}{params:Arguments}{body:Expr}{lsc:Scope}{lpos p pos:Pos}{cl:List (Str×Addr)}{N':List Str}{cap:List (Option Nat)}{tx:DTX}
  (R:Dn X.prog X.w X.K X.mg X.base k f fd dn C nm) (hr:fi (k+1) X.A) (hg:Gl X rn) (hm:X.mg rn=some (.ref f)) (hk:keepIn X.K (.ref f)=true) (hb:Binds X.K fd [dn] []) (L:J0 X.K X.mg c P q) (hcode:X.env.code = .ref c) (hq:X.env.qual=q ++ ".<locals>.")
  (hk0:0<k) (he:∀(A':Around) (outer':List Env) (s':Shared) (H':Hp) (fa c1:Addr) (E:XK),fi (k-1) (n8 X.prog X.w X.K X.mg X.base N' lsc cl (bR q) fa c1 A' outer' s' H' E).A->XE (n8 X.prog X.w X.K X.mg X.base N' lsc cl (bR q) fa c1 A' outer' s' H' E) E C body tx)
  (hdef:defaultsOf params X.env=([],[])) (hclos:closureFor lsc X.env=pure cl) (hbind:∀(pm ctv:Value) (c1:Addr),bindArgs (kla_fn "<lambda>" (bR q) params body lsc cl pm (.ref c1) ctv) ⟨[],[]⟩=pure [])
  (hkind:lsc.kind = .function) (hco:lsc.isCoroutine=false) (hgen:lsc.isGenerator=false) (hcell:∀y∈lsc.names,y.2≠.cell) (hcl:∀x a,cl.lookup x=some a->X.env.cells.lookup x=some a) (hhas:∀x,lsc.names.lookup x=some .cell\/lsc.names.lookup x=some .free->∃a,cl.lookup x=some a)
  (hlen:cap.length=N'.length) (hcap:∀(i j:Nat) (x:Str),cap[i]? = some (some j)->N'[i]? = some x->X.N[j]? = some x/\Vis X.env.scope x/\X.env.kindOf x≠some .local/\lsc.names.lookup x=some .free)
  (hdb:(rn==("__debug__":Str))=false:=by decide) (hst:starEach [.Lambda params body lsc lpos] X.env=[(false,eval (.Lambda params body lsc lpos) X.env)]:=by rfl) :
  DE X (.Call (.Name rn p) [.Lambda params body lsc lpos] [] pos) (sP cap tx nm):=by
 refine zM fun pins s Y H ρ U Qd Q I S h kk=>?_
 obtain⟨o,hl,hlc⟩:=L.obj
 refine wpAny_Call_Name_kw (nE I hg hm ?_ hdb)
 refine PySem.W.callWith_K (h₀:=X.base) I.ok.mod.kin hk (spliced_more (Fl I S.mu hcode hl hlc L.one hq L.blt hclos hdef fun fa c1 ctv pm H1 s1 I1 ex mu ho hfa hfr hc1=>spliced_none ⟨I1.kIn,?_⟩) (by rw[hst];rfl)) (by rw[hst];rfl) rfl
 have S1:St0 X.K H1 ρ U Y:=⟨mu,S.rho.ext S.mu ex⟩
 refine wpAny_call (codeAny_mono (R.run X.A X.stack s1 H1 fa (fun H'=>∃Z,Ext X.K U H1 Z H'/\bX X.K Z H'/\Qd (.v (.str nm)) Z) Q hr I1.Ga (hb s1 [.ref fa] I1.kIn rfl) (fun A' outer' s' hr' e0' un=>?_) fun H' ⟨Z,e',ok',q'⟩=>?_) fun r s' hq'=>?_)
 ·have ho':=un.keep fa _ ho hfa hfr (fun z=>nomatch z)
  refine⟨⟨_,_,_,_,ho'⟩,?_⟩
  obtain⟨k',rfl⟩:∃k',k=k'+1:=⟨k-1,∅⟩
  obtain⟨t,pe,l⟩:=he A' outer' s' H1 fa c1 (fun cls _ H'=>cls=C/\∃Z,Ext X.K U H1 Z H'/\bX X.K Z H'/\Qd (.v (.str nm)) Z) (hr'.deeper _)
  have cellK:∀x cc v,X.env.cells.lookup x=some cc->s1.heap.IsCell cc v->s'.heap.IsCell cc v:=fun x cc v hx ⟨oc,ec,dc⟩=>by
   obtain⟨sl,e2⟩:=un.any ec (I1.gI x cc hx) (fun z=>nomatch z)
   exact⟨_,e2,dc⟩
  refine Ae (Y:=bE cap Y) (N:=N') hkind hco hgen hcell hr' e0' ho' hc1 (hbind pm ctv c1) ⟨fun x cc hx=>?_,fun x cc hx=>I1.gI x cc (hcl x cc hx),fun x y cc h1 h2=>I1.ok.inj x y cc (hcl x cc h1) (hcl y cc h2),hhas,fun i x v h1 h2 h3=>?_,?_⟩ pe (l _ H1 (bE cap ρ) U (fun Z=>Qd (.v (.str nm)) Z) _ ⟨mu,S1.rho.cap⟩ h fun Z H' e' ok' q'=>⟨rfl,Z,e',ok',q'⟩)
  ·obtain⟨v,hv⟩:=I1.cell x cc (hcl x cc hx)
   exact⟨v,cellK x cc v (hcl x cc hx) hv⟩
  ·obtain⟨j,j1,j2⟩:=kz h2
   obtain⟨hN,hv,hnl,hfree⟩:=hcap i j x j1 h1
   obtain⟨m,_,hll⟩:=I1.loc
   obtain⟨u,ru,lk⟩:=hll j x v hN j2 hv
   obtain⟨a,ha⟩:=hhas x (.inr hfree)
   rcases lk with ⟨z,_⟩|⟨_,a',z1,z2⟩
   ·exact absurd z hnl
   ·obtain rfl:a'=a:=by have qq:=hcl x a ha;rw[z1] at qq;exact Option.some.inj qq
    exact⟨u,a',ru,hfree,ha,cellK x a' _ z1 z2⟩
  ·unfold bE;rw[length_map];exact hlen
 ·exact⟨Z,ok',fun H'' e'' ok''=>kk (.v (.str nm)) (.str nm) Z H'' (ex.trans (e'.trans e'')) ⟨ok'',S1.rho.ext mu (e'.trans e'')⟩ (Rp.str nm) q'⟩
 ·cases r with
  |error e=>exact hq'.elim
  |ok fl=>
   cases fl with
   |ret u=>exact I1.after hq'
   |next=>exact hq'.elim
   |brk=>exact hq'.elim
   |cont=>exact hq'.elim
end L2.DL
namespace L2
open PySem PySem.Spec PyProof.Rows DL
noncomputable def Mv(tabs:List Addr)(H:Hp):Prop:=∀b,H b=none\/(∃o xs,H b=some (.frz o (.lst xs)))\/(b∈tabs/\H b=some (.tbl #[]))
theorem D5{P:Program}{w:World}{K:PySem.W.Frag}{mg mb:Str->Option Value}{CX:CXT}{k:Nat}{fa a:Addr}{fd:FuncData}{x:Str}{sp:Sp}{bi:Shared}{vs:List Value}{ns:List Int}(tabs:List Addr)
  (hT:∀p∈tabs,bi.heap.get? p=some (tabObj #[])/\K.lookup p=none) (hA2:∀c o p q,K.lookup c=some o->bO o=some (p,q)->p∈tabs) (hC:∀p∈tabs,isCodeTable bi.heap p)
  (KX:K.In bi.heap) (hns:bi.heap.Ns mainGlobals mg) (hb:bi.heap.Ns builtinsNs mb) (hbb:∀x:Str,x ≠ "__name__"->mb x=bootBuiltins x) (hlim:bi.heap.NoLimit) (hg:bi.gens = #[])
  (ha:bi.heap.get? a=some {cls:=.type "list",data:=.seq vs.toArray}) (hi:IntsAre vs ns) (hl:ns.length<=sizeLine) (hr:fi k callerA)
  (F:∀base:Heap,K.In base->base.Ns mainGlobals mg->bw P w K mg base CX k fa fd [x] sp) (hbind:∀(s:Shared) (u:Value),BindsTo s fd ⟨[u],[]⟩ [(x,u)])
  (hsp:∀H:Hp,vH K H->SqL K H a (ns.map V.int)->sp [.ref a] H (fun v _=>v = .bl true) fun _ _ _=>False)
  (hCX:∀H e s',CX [] H bi (fun _ _ _=>False) e s'->False) :
  codeAny (model P w) callerA (.call (.ref fa) ⟨[.ref a],[]⟩) (fun r s'=>r = .ok (.ret (.bool true))/\OldK bi.heap s'.heap/\s'.os=bi.os/\AllBare s'.gens) bi:=by
 have rv:=xf hi
 have lenV:=hi.length
 have ant:a ∉ tabs:=fun z=>by have:=(hT a z).1;rw[ha] at this;cases this
 have core:∀H:Hp,Mv tabs H->SqL K H a (ns.map V.int)->HOk P w H bi.heap->(∀b,H b≠none->b=a\/b∈tabs)->(H a≠none->K.lookup a=none)->(∀p∈tabs,H p=some (.tbl #[])) ->
   codeAny (model P w) callerA (.call (.ref fa) ⟨[.ref a],[]⟩) (fun r s'=>r = .ok (.ret (.bool true))/\OldK bi.heap s'.heap/\s'.os=bi.os/\AllBare s'.gens) bi:=by
  intro H hO hS hok hA hK hP
  have base_of:∀{b:Addr} {o:Obj},bi.heap.get? b=some o->H b=none->(yX bi.heap H).get? b=some o:=fun e n=>FW e n
  have noA:∀{b:Addr} {o:Obj} {es:Array DictEntry} {ep:Nat},bi.heap.get? b=some o->o.data = .dict es ep->H b=none:=fun {b o es ep} e d=>by
   cases q:H b with
   |none=>rfl
   |some u=>
    rcases hA b (by rw[q];simp) with e'|e'
    ·subst e'
     rw[ha] at e;cases e
     have d':Data.seq vs.toArray _=Data.dict es ep:=d
     cases d'
    ·rw[(hT b e').1] at e;cases e
     have d':Data.fields #[]=Data.dict es ep:=d
     cases d'
  have nsK:∀{b:Addr} {m:Str->Option Value},bi.heap.Ns b m->(yX bi.heap H).Ns b m:=fun {b m} ⟨o,es,ep,e,d,r⟩=>⟨o,es,ep,base_of e (noA e d),d,r⟩
  have hKb:K.In (yX bi.heap H):=fun b o e=>base_of (KX b o e) (by
   cases q:H b with
   |none=>rfl
   |some u=>
    rcases hA b (by rw[q];simp) with e'|e'
    ·subst e'
     rw[hK (by rw[q];simp)] at e;cases e
    ·have e2:=e;rw[show K.lookup b=none from (hT b e').2] at e2;cases e2)
  have hM:Mod K mg (yX bi.heap H):=⟨hKb,nsK hns,⟨mb,nsK hb,hbb⟩,let ⟨mc,h1,h2⟩:=hlim;⟨mc,nsK h1,h2⟩⟩
  have e0:wb P w K mg (yX bi.heap H) callerA [] bi H:=⟨rfl,hM,fun b o e=>Ip e,Nat.le_of_eq (DH _ _),trivial,fun b hb=>absurd (show b∈([]:List Addr) from hb) (by simp),hok,.of_eq hg⟩
  have tb:vH K H:=fun c o p q h1 h2=>⟨#[],hP p (hA2 c o p q h1 h2),trivial,fun pos cv e=>by simp[codeAmong] at e⟩
  refine codeAny_mono ((F _ hKb (nsK hns)).run callerA [] bi H ⟨[.ref a],[]⟩ [.ref a] [.ref a] _ _ hr e0 (hbind bi (.ref a)) (.cons rfl .nil) (hsp H tb hS)) fun r s' h=>?_
  cases r with
  |error e=>exact (hCX H e s' h).elim
  |ok fl=>
   cases fl with
   |next=>exact False.elim h
   |brk=>exact False.elim h
   |cont=>exact False.elim h
   |ret u=>
    obtain⟨v,H',os,bare,un,hok',r',q⟩:=h
    have q':v = .bl true:=q
    subst q'
    obtain rfl:u=Value.bool true:=r'
    refine⟨rfl,⟨fun b o e=>?_,fun b o e=>un.there b o e (by simp)⟩,os,bare⟩
    cases q:H b with
    |none=>exact .inl (un.keep b o e q (by intro z;exact absurd (show b∈([]:List Addr) from z) (by simp)) (by simp))
    |some u=>
     rcases hO b with z|⟨ob,xs,z⟩|⟨zt,z⟩
     ·rw[q] at z;cases z
     ·have z2:=un.nQ b ob _ z
      obtain⟨e1,_⟩:=hok b _ z
      obtain⟨e2,_⟩:=hok' b _ z2
      rw[e] at e1;cases e1
      exact .inl e2
     ·obtain⟨more,z2⟩:=un.nS b _ z
      have e2:s'.heap.get? b=some {cls:=.none,data:=.fields (#[]++more)}:=hok' b _ z2
      have e1:=(hT b zt).1
      rw[e] at e1;cases e1
      exact .inr (.inl ⟨hC b zt,rfl,#[],more,rfl,e2⟩)
 have okT:∀p∈tabs,bi.heap.get? p=some {cls:=.none,data:=.fields #[]}:=fun p hp=>(hT p hp).1
 cases hk:K.lookup a with
 |some o=>
  have e:=KX a o hk
  rw[ha] at e
  cases e
  refine core (fun b=>if b∈tabs then some (.tbl #[]) else none) (fun b=>?_) (.inr ⟨_,vs.toArray,_,hk,rfl,rfl,rfl,by rw[size_toArray,lenV];exact hl,by simpa using rv⟩) (fun b u z=>?_) (fun b z=>?_) (fun z=>absurd (if_neg ant) z) (fun p hp=>if_pos hp)
  ·by_cases hb:b∈tabs
   ·exact .inr (.inr ⟨hb,if_pos hb⟩)
   ·exact .inl (if_neg hb)
  ·by_cases hb:b∈tabs
   ·have z':=(if_pos hb).symm.trans z;cases z';exact okT b hb
   ·have z':=(if_neg hb).symm.trans z;cases z'
  ·by_cases hb:b∈tabs
   ·exact .inr hb
   ·exact absurd (if_neg hb) z
 |none=>
  refine core (fun b=>if b=a then some (.frz {cls:=.type "list",data:=.seq vs.toArray} (.lst (ns.map V.int))) else if b∈tabs then some (.tbl #[]) else none) (fun b=>?_) (.inl (.inr ⟨{cls:=.type "list",data:=.seq vs.toArray},if_pos rfl⟩)) (fun b u z=>?_) (fun b z=>?_) (fun _=>hk) (fun p hp=>by
   have:p≠a:=fun y=>ant (by rw[<- y];exact hp)
   exact (if_neg this).trans (if_pos hp))
  ·by_cases hb:b=a
   ·exact .inr (.inl ⟨_,_,if_pos hb⟩)
   ·by_cases hb2:b∈tabs
    ·exact .inr (.inr ⟨hb2,(if_neg hb).trans (if_pos hb2)⟩)
    ·exact .inl ((if_neg hb).trans (if_neg hb2))
  ·by_cases hb:b=a
   ·have z':=(if_pos hb).symm.trans z
    cases z'
    subst hb
    exact⟨ha,by rw[length_map];exact hl,vs,_,rv,ha⟩
   ·by_cases hb2:b∈tabs
    ·have z':=((if_neg hb).trans (if_pos hb2)).symm.trans z;cases z';exact okT b hb2
    ·have z':=((if_neg hb).trans (if_neg hb2)).symm.trans z;cases z'
  ·by_cases hb:b=a
   ·exact .inl hb
   ·by_cases hb2:b∈tabs
    ·exact .inr hb2
    ·exact absurd ((if_neg hb).trans (if_neg hb2)) z
theorem Fx{l:PySem.W.OpenLaw}{n k:Nat}{q:Program}{loose:List Str}{XP:(Str->Option Value)->Heap->Prop}{YP:World->Heap->Prop}{d:DefRec}{K:Params->PySem.W.Frag}{CX:World->CXT}{sp:World->Sp}{x:Str}(tabs:List Addr)
  (hn:l.most=some n) (hn2:n<=sizeLine) (hdf:d.params.defaults=[]) (hr:fi k callerA)
  (hY:∀(w:World) (h:Heap),YP w h->(K w.params).In h/\(∀p∈tabs,h.get? p=some (tabObj #[])/\(K w.params).lookup p=none)/\(∀p∈tabs,isCodeTable h p))
  (hA2:∀(w:World) c o p q,(K w.params).lookup c=some o->bO o=some (p,q)->p∈tabs)
  (F:∀(w:World) (mg:Str->Option Value) (fa:Addr) (h:Heap),(K w.params).In h->h.Ns mainGlobals mg->mg d.name=some (.ref fa) ->
   ∃fd:FuncData,(∀(s:Shared) (u:Value),BindsTo s fd ⟨[u],[]⟩ [(x,u)]) /\
    ∀base:Heap,(K w.params).In base->base.Ns mainGlobals mg->bw l.prog w (K w.params) mg base (CX w) k fa fd [x] (sp w))
  (hsp:∀(w:World) (H:Hp) (a:Addr) (ns:List Int),ns.length<=n->vH (K w.params) H->SqL (K w.params) H a (ns.map V.int)->sp w [.ref a] H (fun v _=>v = .bl true) fun _ _ _=>False)
  (hCX:∀(w:World) (H:Hp) (s:Shared) (e:Value) (s':Shared),CX w [] H s (fun _ _ _=>False) e s'->False) :
  PySem.W.WalkO q loose XP YP l.row.toRowW d [] (fun f vs=>PySem.call f vs):=by
 refine Att.zr hn hdf fun w dl bi mg mb fa o pm cd doc a vs ns G ZZ ho hd hcd hmg hobj hints hlen hg=>?_
 obtain⟨KX,hT,hC⟩:=hY w _ ZZ
 obtain⟨fd,hb,hF⟩:=F w mg fa _ KX G.T.g hmg
 exact D5 tabs hT (hA2 w) hC KX G.T.g G.T.b G.T.builtins G.T.nolimit hg hobj hints (le_trans hlen hn2) hr hF hb (fun H hO hS=>hsp w H a ns hlen hO hS) fun H e s'=>hCX w H bi e s'
end L2
namespace L2.DL
open PySem PySem.Spec PyProof.Rows
theorem _root_.L2.Fun.Na{P:Program}{w:World}{K:PySem.W.Frag}{mg:Str->Option Value}{base:Heap}{x qual:Str}{st:Stmt}{f:Addr}{fd:FuncData}{N ps:List Str}{k:Nat}{dsp:DSp}(F:Fun K x qual st f fd)(S:aZ N ps (az st))(len:∀ds U Q,dsp ds U Q->ds.length=ps.length)
  (hbody:∀(cdv:Value),fd.code=cdv->∀(A:Around) (outer:List Env) (s:Shared) (H:Hp) (E:XK),fi k (A.deeper (envOfC qual (az st) s.heap.objs.size f cdv)) ->
   ∃td,DSs (jJ CX0 P w K mg base N qual (az st) f cdv A outer s H E).nox (dk st) td/\∀ds U Qd,dsp ds U Qd->td ‹Qd› (aY N ds) U):bw P w K mg base CX0 (k+1) f fd ps (spD K dsp):=by
 obtain⟨oc,od,kV,doc,pm,an,cdv,ct,osl,rfl,lk,hcd⟩:=F.ex
 refine FG lk hcd S (fun vs H Q E h=>?_) fun A outer s H vs Q E hr h=>?_
 ·obtain⟨ds,U,Qd,_,r,h,_⟩:=h
  rw[<- r.length];exact len ds U Qd h
 ·obtain⟨ds,U,Qd,ok,r,h,fin⟩:=h
  obtain⟨td,⟨t,p,l⟩,rd⟩:=hbody cdv rfl A outer s H E hr
  exact⟨t,p.nox,l (start N vs) H (aY N ds) U _ _ ⟨ok,rH r⟩ (rd ds U Qd h) (fun ap am Z H' e' S' q=>fin (.v .none) .non Z H' e' S'.mu Rp.none q) (fun d u Z H' e' ok' r' q=>fin d u Z H' e' ok' r' q) (fun _ _ _ _ _ _ q=>q) (fun _ _ _ _ _ _ q=>q)⟩
def IQ(X:Cx)(lsc:Scope):Option Nat->Str->Prop
 |some j,x=>X.N[j]? = some x/\Vis X.env.scope x/\X.env.kindOf x≠some .local/\lsc.names.lookup x=some .free
 |none,_=>True
def MD(X:Cx)(lsc:Scope):List (Option Nat)->List Str->Prop
 |c::r,x::r'=>IQ X lsc c x/\MD X lsc r r'
 |_,_=>True
theorem sO{X:Cx}{lsc:Scope}:∀{cap:List (Option Nat)} {N':List Str},MD X lsc cap N'->∀(i j:Nat) (x:Str),cap[i]? = some (some j)->N'[i]? = some x->X.N[j]? = some x/\Vis X.env.scope x/\X.env.kindOf x≠some .local/\lsc.names.lookup x=some .free
 |[],_,_,i,j,x,h,_=>by simp at h
 |_::_,[],_,i,j,x,_,h=>by simp at h
 |c::r,y::r',h,0,j,x,h1,h2=>by
  simp at h1 h2;subst h1 h2;exact h.1
 |c::r,y::r',h,i+1,j,x,h1,h2=>sO h.2 i j x (by simpa using h1) (by simpa using h2)
theorem FA{X:Cx}{lsc:Scope}{j:Nat}{x:Str}(h1:X.N[j]? = some x:=by rfl)(h2:X.env.kindOf x=some .cell:=by rfl)(h3:lsc.names.lookup x=some .free:=by rfl):IQ X lsc (some j) x:=
 ⟨h1,.inr (.inl h2),(by rw[h2];decide),h3⟩
theorem CY{K:PySem.W.Frag}{l:List (Addr×Str)}(h:(K.filterMap fun p=>bO p.2)=l){c:Addr}{o:Obj}{P:Addr}{q:Str}(e:K.lookup c=some o)(e2:bO o=some (P,q)):(P,q)∈l:=by
 rw[<- h]
 have mem:∀(L:List (Addr×Obj)),List.lookup c L=some o->(c,o)∈L:=fun L=>by
  induction L with
  |nil=>intro z;cases z
  |cons a r ih=>
   intro z
   rw[lookup_cons] at z
   by_cases y:c=a.1
   ·rw[y] at z ⊢;simp at z;rw[<- z];exact mem_cons_self
   ·rw[show (c==a.1)=false from by simpa using y] at z
    exact mem_cons_of_mem _ (ih z)
 exact List.mem_filterMap.mpr ⟨(c,o),mem K e,e2⟩
theorem Dv{K:PySem.W.Frag}{h:Heap}{c P:Addr}{o:Obj}{q:Str}(X:K.In h)(l:K.lookup c=some o)(e:bO o=some (P,q)):isCodeTable h P:=by
 have ho:=X _ _ l
 unfold bO at e
 split at e
 ·rename_i cn vs hcls hd
  split at e
  ·rename_i hcn
   subst hcn
   split at e
   ·rename_i e11 e18
    split at e
    ·cases e
     exact⟨c,o,vs,ho,hcls,hd,by assumption⟩
    ·cases e
   ·cases e
  ·cases e
 ·cases e
theorem C4{K:PySem.W.Frag}{c P:Addr}{q:Str}(h:(K.lookup c).bind bO=some (P,q)):∃o,K.lookup c=some o/\bO o=some (P,q):=Option.bind_eq_some_iff.mp h
theorem C6{K T:PySem.W.Frag}{h:Heap}(X:PySem.W.Frag.In (K++T) h):K.In h:=fun b o e=>X b o (by
 show List.lookup b (K++T)=some o
 rw[List.lookup_append,show List.lookup b K=some o from e];rfl)
theorem Jz{K:PySem.W.Frag}{mg:Str->Option Value}{bm:Addr}{sl:Array (Option Value)}(h1:mg "__builtins__"=some (.ref bm))(h2:bm≠builtinsNs)(h3:K.lookup bm=some ⟨.type "module",some builtinsNs,.plain,sl⟩):Kk K mg:=⟨bm,_,h1,h2,h3,rfl,rfl,rfl⟩
theorem zU{cap:List (Option Nat)}{tx:DTX}{nm:Str}{ρ:Rho}{U:Mu}{Q:DK}:sP cap tx nm ρ U Q=tx (bE cap ρ) U (fun Z=>Q (.v (.str nm)) Z):=propext Iff.rfl
theorem lh{dsp:XSp}{t:DTA}{ρ:Rho}{U:Mu}{Xk:Mu->Prop}:pT dsp t ρ U Xk=t ρ U (fun ds ad=>dsp ds ad Xk):=propext Iff.rfl
theorem IJ{tc:DTT}{tx ty:DTX}{ρ:Rho}{U:Mu}{Xk:Mu->Prop}:xIf tc tx ty ρ U Xk=tc ρ U (fun b ad=>if b=true then tx ρ ad Xk else ty ρ ad Xk):=propext Iff.rfl
theorem lr{td:DTS}{tx:DTX}{ρ:Rho}{U:Mu}{Xk:Mu->Prop}:uB td tx ρ U Xk=td {nx:=fun am Z=>tx am Z Xk,rt:=fun _ _=>False} ρ U:=propext Iff.rfl
theorem LK{ea:Addr}{b:Bool}{i:Nat}{ρ:Rho}{U:Mu}{Q:DK}(h:ρ[i]? = some (some (.o ea))):fo ea b (ah i) ρ U Q=Q (.v (.bool b)) U:=by
 unfold fo ah
 rw[h]
 exact propext ⟨fun z=>z.2,fun z=>⟨rfl,z⟩⟩
theorem yd{ea:Addr}{b:Bool}{x:Option D}{r:Rho}{U:Mu}{Q:DK}:fo ea b (ah 1) (x::some (.o ea)::r) U Q=Q (.v (.bool b)) U:=LK rfl
def D8:PyData->Option PyData
 |.tuple [.str n,.bool b]=>if b=true then some (.str n) else none
 |_=>none
theorem AI{r:Rho}{U:Mu}{Q:DK}{ns:List (Str×Bool)}{i:Nat}(hi:r[i]? = some (some (.v (.list (ns.map fun n=>.tuple [.str n.1,.bool n.2])))))(hl:ns.length<=1000)(q:Q (.v (.list ((ns.map fun n=>(.tuple [.str n.1,.bool n.2]:PyData)).filterMap D8))) U) :
  dq [none,none] (iV (ah i)) (eD 2 (bc (ao 0) (bc (ao 1) fg))) (dB (ah 1)) (ah 0) r U Q:=by
 rw[lF]
 show (match r[i]? with|some (some d)=>_|_=>False)
 rw[hi]
 refine⟨by rw[length_map];exact hl,fun p hp=>⟨fun i acc Z=>acc=((ns.map fun n=>(.tuple [.str n.1,.bool n.2]:PyData)).take i).filterMap D8/\Z=aF U p acc,⟨rfl,rfl⟩,?_,?_⟩⟩
 ·rintro i x acc Z hx hpa ⟨e0,e1⟩
  obtain⟨n,hn,rfl⟩:=List.mem_map.mp (mem_of_getElem? hx)
  have st:=xJ (f:=D8) hx
  obtain⟨n,b⟩:=n
  refine⟨rfl,⟨trivial,?_⟩⟩
  show if b=true then _ else _
  cases b with
  |true=>
   rw[if_pos rfl]
   refine⟨hpa,?_,?_⟩
   ·rw[st,<- e0];rfl
   ·rw[e1,qF]
  |false=>
   rw[if_neg ⋯]
   refine⟨hpa,?_,e1⟩
   rw[st,<- e0];simp[D8]
 ·rintro acc Z ⟨e0,e1⟩ hpa
  rw[take_length] at e0
  rw[e1,e0,wR hp]
  exact q
noncomputable def QT(ds:List D):PQ:=fun K u U H=>∃a us,u = .ref a/\H a=some (.tup us)/\jL K U H ds us
section
variable {X:Cx}
theorem GZ{dn x n:Str}{dp cp ep np hp pos:Pos}{di:Nat}{b₀:Stmt}{suite:List Stmt}(hd:X.N[di]? = some dn)(hv:Vis X.env.scope dn)(hdb:(dn==("__debug__":Str))=false:=by decide)(hdc:(dn==("__classdict__":Str))=false:=by decide)
  (hsw:swapsWith (.Call (.Name dn dp) [] [] cp) none ep.line X.env=pure false:=by rfl) (s:Shared) (Y:St) (H:Hp) (D:Ends) (I0:Inv X [] Y H s) {fa:Addr} (pp:Y[di]? = some (some (.ref fa)))
  (deed:∀s1,Inv X [] Y H s1->FnAt fa s1.heap/\codeAny (model X.prog X.w) X.A (.call (.ref fa) ⟨[],[]⟩) (CR CX0 X.stack X.prog X.w H s1 (fun _ H'=>D.nx Y H') E0) s1) :
  wpAny (model X.prog X.w) X.A (exec (.Try [.Expr (.Call (.Name dn dp) [] [] cp) ep] [.ExceptHandler (some (.Name x np)) (some n) (b₀::suite) hp] [] [] pos) X.env) (SP X [] D) X.xe s:=by
 refine wpAny_Try_except (wpAny_execs_cons (wpAny_Expr_any (wpAny_Call_Name_kw (wpAny_mono (BS (X:=X.nox) hd hv hdb hdc [] s Y H (fun v H1=>v = .ref fa/\H1=H) (I0.sD _) ⟨.ref fa,pp,rfl,rfl⟩) (fun v s1 hv1=>?_) fun _ _ z=>z.elim)) I0.quiet hsw))
 obtain⟨y,H1,I1,r,e1,e2⟩:=hv1
 subst e1 e2
 cases r
 have I1:=I1.kf
 obtain⟨fn,code⟩:=deed s1 I1
 refine PySem.W.callWith_F0 fn (wpAny_call (codeAny_mono code fun r s' hr=>?_))
 cases r with
 |ok fl=>
  cases fl with
  |ret u=>
   obtain⟨v,H',os,bare,un,hok,rv,q⟩:=hr
   have I':Inv X [] Y H' s':=I1.uR (ch:=[]) os un hok bare (fun b z=>nomatch z)
   exact wpAny_execs_nil (wpAny_execs_nil ⟨Y,H',I',q⟩)
  |next=>exact hr.elim
  |brk=>exact hr.elim
  |cont=>exact hr.elim
 |error e=>exact hr.elim
end
structure Jh(P:Program)(w:World)(K:PySem.W.Frag)(mg:Str->Option Value)(base:Heap)(k:Nat)(f:Addr)(fd:FuncData)(dn:Str):Prop where
 run:∀(A:Around) (outer:List Env) (s:Shared) (H:Hp) (fa:Addr) (Q:VK),fi (k+1) A->wb P w K mg base A outer s H->BindsTo s fd ⟨[.ref fa],[]⟩ ([dn].zip [.ref fa]) ->
  (∀(A':Around) (outer':List Env) (s':Shared),fi k A'->wb P w K mg base A' outer' s' H->Un (frs outer) [] H H s.heap s'.heap->FnAt fa s'.heap/\codeAny (model P w) A' (.call (.ref fa) ⟨[],[]⟩) (CR CX0 outer' P w H s' (fun _ H'=>Q .non H') E0) s') ->
  codeAny (model P w) A (.call (.ref f) ⟨[.ref fa],[]⟩) (CR CX0 outer P w H s Q E0) s
theorem Hb{P:Program}{w:World}{K:PySem.W.Frag}{mg:Str->Option Value}{base:Heap}{k:Nat}{f:Addr}{fd:FuncData}{fx qual:Str}{st:Stmt}{dn n y1 y2 x:Str}{dp cp ep np hp pos p1 p2:Pos}{b₀:Stmt}{suite:List Stmt}{j}
  (F:Fun K fx qual st f fd) (S:aZ [dn,n,y1,y2] [dn] (az st))
  (hbody:dk st=[.Try [.Expr (.Call (.Name dn dp) [] [] cp) ep] [.ExceptHandler (some (.Name x np)) (some n) (b₀::suite) hp] [] [] pos,.Return (some (.Constant .none j p1)) p2])
  (hv:(az st).names.lookup dn=some .local) (hdb:(dn==("__debug__":Str))=false) (hdc:(dn==("__classdict__":Str))=false)
  (hsw:∀env:Env,swapsWith (.Call (.Name dn dp) [] [] cp) none ep.line env=pure false):Jh P w K mg base k f fd dn where
 run:=fun A outer s H fa Q hr e0 hb deed=>by
  obtain⟨oc,od,kV,doc,pm,an,cdv,ct,osl,rfl,lk,hcd⟩:=F.ex
  refine IL (k:=k) (vs:=[.ref fa]) (us:=[.ref fa]) lk hcd S rfl hr e0 hb (.cons rfl .nil) fun s1 I=>?_
  show wpAny _ _ (execs (dk st) _) _ _ _
  rw[hbody]
  refine wpAny_execs_cons (wpAny_mono (GZ (X:=jJ CX0 P w K mg base [dn,n,y1,y2] qual (az st) f cdv A outer s H E0) (di:=0) (fa:=fa) (x:=x) (n:=n) (np:=np) (hp:=hp) (pos:=pos) (b₀:=b₀) (suite:=suite) rfl (Or.inl hv) hdb hdc (hsw _) s1 _ H {nx:=fun _ H'=>Q .non H',rt:=Q} I rfl
   (fun s2 I2=>deed _ _ s2 (hr.deeper _) I2.Ga I2.base)) (fun fl s' hs'=>?_) fun _ _ z=>z)
  cases fl with
  |next=>
   obtain⟨ap,H',I',q⟩:=hs'
   exact (oQ (Ba EG) C1) [] s' ap H' {nx:=fun _ H'=>Q .non H',rt:=Q} I' q
  |ret u=>exact hs'
  |brk=>exact hs'
  |cont=>exact hs'
theorem FN{X:Cx}{E:XK}{C:Value}{e tg:Expr}{tx:DTX}{g:DTG}{pos:Pos}(h:XE X E C e tx)(hg:DG X tg g)(hs:swapsWithSole [tg] e pos.line X.env=pure false:=by rfl)(hw:swappedStores [tg] e X.env=pure none:=by rfl)
  (h1:(assignEach [tg] X.env).map (·.2)=[assign tg X.env]:=by rfl):XS X E C (.Assign [tg] e pos) tx:=by
 obtain⟨t1,p1,l1⟩:=h
 obtain⟨t2,p2,l2⟩:=hg
 exact⟨_,FJ p1 p2 hs hw h1,fun Y H ρ U Xk D S h wsh=>l1 Y H ρ U Xk _ S h wsh⟩
section
variable {K:PySem.W.Frag}{U:Mu}{H:Hp}
def NH(neg:Bool):D->D->Mu->DK->Prop:=fun x y U Q=>match x,y with
 |.m a,.v b=>∃es,U a=some es/\SeqAt.shaped (.list es)=true/\SeqAt.shaped b=true/\Q (.v (.bool (neg ^^ PyData.eqv (.list es) b))) U
 |x,y=>bI neg x y U Q
end
section
variable {X:Cx}{a b e:Expr}{ta tb te:DTE}{pos p:Pos}{T:String}
noncomputable def Ew(to:DTE):DTE:=fun ρ U Q=>to ρ U fun x ad=>match x with
 |.m l=>(match ad l with
  |some xs=>Q (.v .none) (aF ad l xs.reverse)
  |none=>False)
 |_=>False
theorem RpL.snoc{K:PySem.W.Frag}{U:Mu}{H:Hp}:∀{ds:List PyData} {us:List V} {d:PyData} {u:V},RpL K U H ds us->Rp K U H d u->RpL K U H (ds++[d]) (us++[u])
 |_,_,_,_,.nil,r=>.cons r .nil
 |_,_,_,_,.cons a b,r=>.cons a (RpL.snoc b r)
theorem RpL.rev{K:PySem.W.Frag}{U:Mu}{H:Hp}:∀{ds:List PyData} {us:List V},RpL K U H ds us->RpL K U H ds.reverse us.reverse
 |_,_,.nil=>.nil
 |_,_,.cons a b=>by rw[List.reverse_cons,List.reverse_cons];exact RpL.snoc (RpL.rev b) a
theorem G5{o:Expr}{to:DTE}{apos cpos:Pos}(ho:DE X o to)(hbase:attributeBase o "reverse" X.env (eval o X.env)=eval o X.env:=by rfl)(hline:(apos.endLine==cpos.line)=true:=by rfl) :
  DE X (.Call (.Attribute o "reverse" apos) [] [] cpos) (Ew to):=by
 obtain⟨t1,p1,l1⟩:=ho
 refine⟨_,FU plainAttrs_list PySem.F.slot_list_reverse PySem.F.type_list_reverse Bf p1 hbase hline,fun Y H ρ U Qd Q S h k=>?_⟩
 refine l1 Y H ρ U _ _ S h fun x ux ad H1 e1 S1 rx h1=>?_
 cases x with
 |m l=>
  obtain⟨rfl,ds,hm⟩:=id rx
  obtain⟨us,hl,rl⟩:=S1.mu l ds hm
  refine⟨.inl ⟨rfl,us,SqL.of hl⟩,?_⟩
  dsimp only at h1
  rw[hm] at h1
  have ex:Ext X.K ad H1 (aF ad l ds.reverse) (upd H1 l (.lst us.reverse)):=jl hm
  exact⟨l,us,rfl,rfl,hl,k (.v .none) .non _ _ (e1.trans ex) ⟨S1.mu.set hm rl.rev,S1.rho.ext S1.mu ex⟩ Rp.none h1⟩
 |v d=>exact h1.elim
 |s ns=>exact h1.elim
 |o _=>exact h1.elim
 |q _=>exact h1.elim
end
theorem JG{to:DTE}{ρ:Rho}{U:Mu}{Q:DK}:Ew to ρ U Q=to ρ U (fun x ad=>match x with
 |.m l=>(match ad l with
  |some xs=>Q (.v .none) (aF ad l xs.reverse)
  |none=>False)
 |_=>False):=propext Iff.rfl
end L2.DL
namespace L2
open PySem PySem.W PyProof.Rows
end L2
namespace L2.DL
open PySem PySem.Spec PyProof.Rows
end L2.DL
namespace L2
open PySem PySem.W PyProof.Rows
end L2
namespace L2.DL
open PySem PySem.Spec PyProof.Rows
end L2.DL
namespace L2
open PySem PySem.Spec PyProof.Rows
end L2
namespace L2.DL
open PySem PySem.W PyProof.Rows
open PySem PySem.Spec PyProof.Rows
end L2.DL
namespace L2
open PySem PySem.Spec PyProof.Rows
end L2
namespace L2.DL
open PySem PySem.Spec PyProof.Rows
end L2.DL
namespace L2
open PySem PySem.Spec PyProof.Rows
end L2
namespace L2.DL
open PySem PySem.Spec PyProof.Rows
end L2.DL
namespace L2
open PySem PySem.Spec PyProof.Rows
section
variable {X:Cx}
theorem vG:fU X (.type "int") (fun xs H Q=>∃z n,xs=[.str z]/\intText? z=some n/\z.length<=640/\Q (.int n) H):=by
 intro pins s Y H xs us Q I r h
 obtain⟨z,n,rfl,hn,hz,q⟩:=h
 obtain⟨u,rfl,t,rfl⟩:=vals1 r
 exact PySem.W.KIN.call_text hn hz ⟨.int n,H,I.tok _,⟨_,rfl⟩,q⟩
def M4:V->Option Int->Option Int->Hp->VK->Prop:=fun x lo hi H Q=>∃z,x = .str z/\z.length<=sizeLine/\Q (.str (Txt.slice z lo hi)) H
theorem Aq{vl:Value}{lo:Option Int}(h:IsPart vl lo):∃o:Option (Int×Tok),o.map (·.1)=lo/\(vl=match o with|some p=>.int p.1 p.2|none=>.none):=by
 cases h with
 |none=>exact⟨none,rfl,rfl⟩
 |int i t=>exact⟨some (i,t),rfl,rfl⟩
theorem KA:SlR X M4:=by
 intro pins s Y H x v vl vu lo hi sl Q I rx hs pl pu h
 obtain⟨z,rfl,hz,q⟩:=h
 obtain⟨t,rfl⟩:=rx
 obtain⟨ol,rfl,el⟩:=Aq pl
 obtain⟨ou,rfl,eu⟩:=Aq pu
 refine⟨"str",_,slot_str_getitem.lookup,typeIs_str s z t,wpAny_getItem_str_slice (l:=ol) (u:=ou) (st:=none) ?_ rfl ?_⟩
 ·obtain⟨o,h1,h2,h3⟩:=hs
  refine⟨o,h1,h2,?_⟩
  rw[h3,el,eu]
  cases ol<;>cases ou<;>rfl
 ·have e:Txt.slice z (ol.map (·.1)) (ou.map (·.1))=if ((1:Int)==1&&(slicePicked z ol ou none).length==z.length)=true then z else ⟨((slicePicked z ol ou none).filterMap fun i=>z.cps[i]?).toArray⟩:=rfl
  have hl:=Txt.slice_le z (ol.map (·.1)) (ou.map (·.1))
  rw[e] at q hl
  unfold sliceMade
  show Made.post (if ((1:Int)==1&&(slicePicked z ol ou none).length==z.length)=true then _ else _) _ s
  split at q
  ·rename_i c
   rw[if_pos c]
   exact⟨.str z,H,I,⟨_,rfl⟩,q⟩
  ·rename_i c
   rw[if_neg c] at hl ⊢
   exact⟨le_trans hl hz,.str _,H,I.tok _,⟨_,rfl⟩,q⟩
def JC(x y:Str):Int:=match Builtin.Str.lastOccurrence x y 0 x.length with|some i=>(i:Nat)|none=>-1
end
end L2
namespace L2
open PySem PySem.Spec PyProof.Rows
section
variable {X:Cx}{tg:Expr}
def BC(x:Str):List V:=x.cps.toList.map fun c=>.str ⟨#[c]⟩
def Its(x:Str):It:={go:=fun i _=>i<x.cps.size,yld:=fun i H v H'=>H'=H/\(BC x)[i]? = some v,stop:=fun i _=>x.cps.size<=i}
theorem Ex{P:Program}{w:World}{K:PySem.W.Frag}{tg:Expr}(it:Addr)(x:Str)(t:Tok):Turn true P w K tg (Its x) [it] it (fun i h=>i<=x.cps.size/\h.IsStrIter it (strIterType x) x t i) where
 mem:=by simp
 obj:=fun i h st b hb=>by
  have e:b=it:=by simpa using hb
  subst e
  obtain⟨o,e,c,d⟩:=st.2
  exact⟨o,e,fun v z=>by rw[d] at z;cases z⟩
 keep:=fun i h h' st k=>⟨st.1,by obtain⟨o,e,c,d⟩:=st.2;exact⟨o,k it (by simp) o e,c,d⟩⟩
 item:=by
  intro X hP hw hK hc i pins s Y H E I hf st hg
  subst hP hw hK
  obtain⟨f0,f1,f2,f3,f4,f5⟩:=hf it (by simp)
  have W:Walks X.prog X.w X.A it [it] [it] x.cps.size (SignAt x) (fun i h=>h.IsStrIter it (strIterType x) x t i):=by
   have e:strIterType x = "str_ascii_iterator"\/strIterType x = "str_iterator":=by
    unfold strIterType;split
    ·exact .inl rfl
    ·exact .inr rfl
   rcases e with e|e<;>rw[e]
   ·exact Walks.strAscii (I.ok.hd (hc rfl)) it x t
   ·exact Walks.strWide (I.ok.hd (hc rfl)) it x t
  refine W.item i s _ _ hg st.2 fun v h' tk hv st' kk=>?_
  obtain⟨c,u,hcu,rfl⟩:=hv
  have I1:Inv X pins Y H {s with heap:=h',toks:=tk}:=I.turned (fun b o hb e=>kk b o (by simpa using hb) e) f0 f1 f3 f4 f5
  obtain⟨o,e1,e2,e3⟩:=id st'
  refine⟨_,rfl,Cp (s:={s with heap:=h',toks:=tk}) e1 e2 e3 (by unfold strIterType;split<;>decide) ⟨.str ⟨#[c]⟩,H,I1,⟨_,rfl⟩,⟨rfl,?_⟩,⟨hg,st'⟩,fun b hb=>(hf b hb).1⟩⟩
  unfold BC
  rw[getElem?_map,Array.getElem?_toList,hcu]
  rfl
 done:=by
  intro X hP hw hK hc i pins s Y H E I hf st hg
  subst hP hw hK
  obtain⟨f0,f1,f2,f3,f4,f5⟩:=hf it (by simp)
  have W:Walks X.prog X.w X.A it [it] [it] x.cps.size (SignAt x) (fun i h=>h.IsStrIter it (strIterType x) x t i):=by
   have e:strIterType x = "str_ascii_iterator"\/strIterType x = "str_iterator":=by
    unfold strIterType;split
    ·exact .inl rfl
    ·exact .inr rfl
   rcases e with e|e<;>rw[e]
   ·exact Walks.strAscii (I.ok.hd (hc rfl)) it x t
   ·exact Walks.strWide (I.ok.hd (hc rfl)) it x t
  have hi:i=x.cps.size:=Nat.le_antisymm st.1 hg
  subst hi
  exact W.done s _ _ st.2 fun h' tk kk=>⟨rfl,I.turned (fun b o hb e=>kk b o (by simpa using hb) e) f0 f1 f3 f4 f5⟩
 self:=fun A i s Q E st h=>by
  have e:strIterType x = "str_ascii_iterator"\/strIterType x = "str_iterator":=by
   unfold strIterType;split
   ·exact .inl rfl
   ·exact .inr rfl
  rcases e with e|e<;>rw[e] at st
  ·exact wpAny_pyIter_striter_ascii st.2 h
  ·exact wpAny_pyIter_striter_wide st.2 h
noncomputable def Nr(tl:TE):TI:=fun Y H R=>tl Y H fun x H1=>∃z,x = .str z/\R (Its z) H1
theorem Lo{l:Expr}{tl:TE}(hc:X.calm=true)(hl:PE X l tl):PI X tg l (Nr tl):=by
 intro pins s Y H R I h
 refine thn (hl pins s Y H _ I h) fun v s1 ⟨x,H1,I1,r1,q1⟩=>?_
 obtain⟨z,rfl,q⟩:=q1
 obtain⟨t,rfl⟩:=r1
 refine wpAny_pyIter_strU ?_
 refine⟨s1.heap.objs.size,[s1.heap.objs.size],_,_,H1,rfl,I1.kept (t':=s1.toks) fun b o e=>Heap.get?_push_of_some _ e,(Ex _ z t).calm hc,⟨zero_le _,_,Heap.get?_push_size _ rfl,rfl,rfl⟩,fun b hb=>?_,q⟩
 have e:b=s1.heap.objs.size:=by simpa using hb
 subst e
 exact I1.DC (le_refl _) (I1.hok.fresh (le_refl _))
def mS(sep:Str)(ws:List Str):Str:=match ws with
 |[p]=>p
 |l=>Builtin.Str.glued sep l
def rJoin:V->List V->Hp->VK->Prop:=fun x vs H Q=>∃(z:Str) (a:Addr) (ws:List Str),x = .str z/\vs=[.ref a]/\H a=some (.lst (ws.map .str))/\Builtin.Str.tooLong (Array.foldl (fun n w=>n+w.length+z.length) 0 ws.toArray)=false/\(mS z ws).length<=sizeLine/\Q (.str (mS z ws)) H
theorem qK:∀{ws:List Str} {us:List Value},Vals (ws.map .str) us->∃l:List (Str×Tok),us=strValues l/\l.map (·.1)=ws
 |[],_,.nil=>⟨[],rfl,rfl⟩
 |w::r,_,.cons ⟨t,e⟩ h=>by
  obtain⟨l,rfl,rfl⟩:=qK h
  exact⟨(w,t)::l,by rw[e];rfl,rfl⟩
theorem He:MtM X "str.join" rJoin:=by
 intro pins s Y H x vs v us Q I rx rv h
 obtain⟨z,a,ws,rfl,rfl,hH,hz,hs,q⟩:=h
 obtain⟨t,rfl⟩:=rx
 obtain⟨u,rfl,ru⟩:=vals1 rv
 cases ru
 obtain⟨_,its,n,r,hl,e⟩:=I.xU hH
 obtain⟨l,rfl,rfl⟩:=qK r
 refine call_meets F.slot_str_join (typeIs_str s z t) F.entry_str_join (F.args_str_join_2 _ _) (meets_str_join_list z t a l hz) ⟨⟨_,e,rfl,n,rfl⟩,?_⟩
 match l,hs,q with
 |[],hs,q=>exact⟨hs,.str _,H,I.tok _,⟨_,rfl⟩,q⟩
 |[p],hs,q=>exact⟨.str p.1,H,I,⟨_,rfl⟩,q⟩
 |p::p'::l,hs,q=>exact⟨hs,.str _,H,I.tok _,⟨_,rfl⟩,q⟩
end
end L2
namespace L2
open PySem PySem.Spec PyProof.Rows
section
variable {X:Cx}{e e1 e2:Expr}{es:List Expr}{te:TE}{pos:Pos}
abbrev TJ:=Str->St->Hp->(Str->Hp->Prop)->Prop
noncomputable def PJ(X:Cx)(es:List Expr)(t:TJ):Prop:=∀(pins:List (Addr×Obj)) (s:Shared) (Y:St) (H:Hp) (acc:Str) (Q:Str->Hp->Prop),Inv X pins Y H s->t acc Y H Q ->
 Joins (model X.prog X.w) X.A X.xe (evalEach es X.env) acc (fun out s1=>out.length<=sizeLine/\∃H1,Inv X pins Y H1 s1/\Q out H1) s
def tjN:TJ:=fun acc _ H Q=>acc.length<=sizeLine/\Q acc H
def tjC(te:TE)(tj:TJ):TJ:=fun acc Y H Q=>te Y H fun x H1=>∃y,x = .str y/\(acc++y).length<=sizeLine/\tj (acc++y) Y H1 Q
theorem Lf:PJ X [] tjN:=by
 intro pins s Y H acc Q I h
 exact⟨h.1,H,I,h.2⟩
theorem G9{tj:TJ}(he:PE X e te)(hr:PJ X es tj):PJ X (e::es) (tjC te tj):=by
 intro pins s Y H acc Q I h
 show Joins _ _ _ (eval e X.env::evalEach es X.env) acc _ s
 rw[Joins.eq_2]
 refine thn (he pins s Y H _ I h) fun v s1 ⟨x,H1,I1,r1,q1⟩=>?_
 obtain⟨y,rfl,hl,q⟩:=q1
 obtain⟨t,rfl⟩:=r1
 exact⟨y,t,rfl,hl,hr pins s1 Y H1 _ Q I1 q⟩
noncomputable def tJS(tj:TJ):TE:=fun Y H Q=>tj Str.empty Y H fun z H1=>Q (.str z) H1
theorem Ei{tj:TJ}(h:PJ X (e1::e2::es) tj):PE X (.JoinedStr (e1::e2::es) pos) (tJS tj):=by
 intro pins s Y H Q I hq
 refine wpAny_JoinedStr ?_
 have:=h pins s Y H Str.empty (fun z H1=>Q (.str z) H1) I hq
 clear I hq h
 revert this
 generalize evalEach (e1::e2::es) X.env=ts
 generalize Str.empty=acc
 induction ts generalizing acc s with
 |nil=>exact fun ⟨a,H1,b,c⟩=>⟨a,.str acc,H1,b.tok _,⟨_,rfl⟩,c⟩
 |cons t r ih=>
  intro g
  rw[Joins.eq_2] at g ⊢
  exact thn g fun v s1 ⟨y,tk,e,hl,g'⟩=>⟨y,tk,e,hl,ih s1 _ g'⟩
noncomputable def tFv(te:TE):TE:=fun Y H Q=>te Y H fun x H1=>∃z,x = .str z/\z.length<=sizeLine/\Q (.str z) H1
theorem Mg(he:PE X e te):PE X (.FormattedValue e (-1) none pos) (tFv te):=by
 intro pins s Y H Q I h
 refine wpAny_FormattedValue_plain (thn (he pins s Y H _ I h) fun v s1 ⟨x,H1,I1,r1,q1⟩=>?_)
 obtain⟨z,rfl,hz,q⟩:=q1
 obtain⟨t,rfl⟩:=r1
 exact wpAny_formatField_str ⟨.str z,H1,I1,⟨_,rfl⟩,q⟩ ⟨.str z,H1,I1.tok _,⟨_,rfl⟩,q⟩ hz
end
end L2
namespace L2.DL
open PySem PySem.Spec PyProof.Rows
section
variable {X:Cx}{a b e e1 e2 o:Expr}{es:List Expr}{ta tb te to:DTE}{t:DTA}{pos p p2 apos cpos:Pos}{lo hi:Option Expr}
def fm:D->D->Mu->DK->Prop:=fun x y U Q=>match x,y with
 |.v (.str i),.v (.str j)=>i.length+j.length<=10000/\Q (.v (.str (i++j))) U
 |_,_=>False
theorem fv{n:Nat}(h:n<=10000):n<=sizeLine:=le_trans h ⋯
theorem G6{K:PySem.W.Frag}:d8 K (fun x y H Q=>∃i j,x = .str i/\y = .str j/\i.length+j.length<=sizeLine/\Q (.str (i++j)) H) fm:=by
 intro x y ux uy H U Qd Q ok rx ry h k
 unfold fm at h
 split at h
 ·cases rx;cases ry
  exact⟨_,_,rfl,rfl,fv h.1,k (.v _) _ U H .refl ok (.str _) h.2⟩
 ·exact h.elim
theorem fA(ha:DE X a ta)(hb:DE X b tb):DE X (.BinOp a .Add b pos) (dOp fm ta tb):=o4 Bu G6 ha hb
def inS(i j:Str):Bool:=!(Builtin.Str.occurrences j i 0 j.length 1).isEmpty
def A0(neg:Bool):D->D->Mu->DK->Prop:=fun x y U Q=>match x,y with
 |.v (.str i),.v (.str j)=>Q (.v (.bool (neg ^^ inS i j))) U
 |_,_=>False
theorem Gk{K:PySem.W.Frag}:d8 K (fun x y H Q=>∃i j,x = .str i/\y = .str j/\Q (.bl (!(Builtin.Str.occurrences j i 0 j.length 1).isEmpty)) H) (A0 false):=by
 intro x y ux uy H U Qd Q ok rx ry h k
 unfold A0 at h
 split at h
 ·cases rx;cases ry
  rw[false_xor] at h
  exact⟨_,_,rfl,rfl,k (.v _) _ U H .refl ok (.bool _) h⟩
 ·exact h.elim
def rR:List D->Mu->DK->Prop:=fun xs U Q=>match xs with
 |[.v (.int i)]=>i.natAbs.log2<1920/\Q (.v (.str (toString i))) U
 |_=>False
theorem JV{K:PySem.W.Frag}:jd K (fun xs H Q=>∃i,xs=[.int i]/\i.natAbs.log2<1920/\Q (.str (toString i)) H) rR:=by
 intro xs us H U Qd Q ok rs h k
 unfold rR at h
 split at h
 ·rename_i i
  cases rs with
  |cons r1 r2=>cases r2;cases r1;exact⟨i,rfl,h.1,k (.v _) _ U H .refl ok (Rp.str _) h.2⟩
 ·exact h.elim
theorem pW(hg:Gl X "str")(hm:X.mg "str"=none)(ha:DA X (e::es) t)
  (he:starEach (e::es) X.env=(false,eval e X.env)::starEach es X.env:=by rfl) (hpl:(backTo pos (starEach es X.env)).any (·.1)=false:=by rfl):DE X (.Call (.Name "str" p) (e::es) [] pos) (dCB rR t):=
 kB yT JV hg hm PyProof.Rows.Boot.«str» ha ⋯ ⋯ he hpl
def AO:List D->Mu->DK->Prop:=fun xs U Q=>match xs with
 |[.v (.str z)]=>∃n,intText? z=some n/\z.length<=640/\Q (.v (.int n)) U
 |_=>False
theorem Il{K:PySem.W.Frag}:jd K (fun xs H Q=>∃z n,xs=[.str z]/\intText? z=some n/\z.length<=640/\Q (.int n) H) AO:=by
 intro xs us H U Qd Q ok rs h k
 unfold AO at h
 split at h
 ·rename_i z
  obtain⟨n,h1,h2,h3⟩:=h
  cases rs with
  |cons r1 r2=>cases r2;cases r1;exact⟨z,n,rfl,h1,h2,k (.v _) _ U H .refl ok (Rp.int _) h3⟩
 ·exact h.elim
theorem HF(hg:Gl X "int")(hm:X.mg "int"=none)(ha:DA X (e::es) t)
  (he:starEach (e::es) X.env=(false,eval e X.env)::starEach es X.env:=by rfl) (hpl:(backTo pos (starEach es X.env)).any (·.1)=false:=by rfl):DE X (.Call (.Name "int" p) (e::es) [] pos) (dCB AO t):=
 kB vG Il hg hm PyProof.Rows.Boot.«int» ha ⋯ ⋯ he hpl
def uY:List D->Mu->DK->Prop:=fun xs U Q=>match xs with
 |[.v (.str z)]=>z.length<=10000/\Q (.v (.int (z.length:Nat))) U
 |_=>False
theorem HY{K:PySem.W.Frag}:jd K (fun xs H Q=>∃z,xs=[.str z]/\z.length<=sizeLine/\Q (.int z.length) H) uY:=by
 intro xs us H U Qd Q ok rs h k
 unfold uY at h
 split at h
 ·rename_i z
  cases rs with
  |cons r1 r2=>cases r2;cases r1;exact⟨z,rfl,fv h.1,k (.v _) _ U H .refl ok (Rp.int _) h.2⟩
 ·exact h.elim
theorem yR(hg:Gl X "len")(hm:X.mg "len"=none)(ha:DA X (e::es) t)
  (he:starEach (e::es) X.env=(false,eval e X.env)::starEach es X.env:=by rfl) (hpl:(backTo pos (starEach es X.env)).any (·.1)=false:=by rfl):DE X (.Call (.Name "len" p) (e::es) [] pos) (dCB uY t):=
 gw yU HY hg hm PySem.boot_len ha ⋯ ⋯ he hpl
noncomputable def vL(te:DTE)(tl th:DTO):DTE:=fun ρ U Q=>te ρ U fun x ad=>tl ρ ad fun l al=>th ρ al fun u bd=>match x with
 |.v (.str z)=>z.length<=10000/\Q (.v (.str (Txt.slice z l u))) bd
 |_=>False
theorem fI{tl th:DTO}(he:DE X e te)(hl:DO X lo tl)(hu:DO X hi th):DE X (.Subscript e (.Slice lo hi none p2) pos) (vL te tl th):=by
 obtain⟨t1,p1,l1⟩:=he
 obtain⟨t2,p2,l2⟩:=hl
 obtain⟨t3,p3,l3⟩:=hu
 refine⟨_,Ag KA p1 p2 p3,fun Y H ρ U Qd Q S h k=>?_⟩
 refine l1 Y H ρ U _ _ S h fun x ux ad H1 e1 S1 rx h1=>?_
 refine l2 Y H1 ρ ad _ _ S1 h1 fun l al H2 e2 S2 h2=>?_
 refine l3 Y H2 ρ al _ _ S2 h2 fun u bd H3 e3 S3 h3=>?_
 split at h3
 ·cases rx
  exact⟨_,rfl,fv h3.1,k (.v _) _ bd H3 (e1.trans (e2.trans e3)) S3 (Rp.str _) h3.2⟩
 ·exact h3.elim
def Ig(x y:Str):Bool:=decide (0+y.length<=x.length)&&Builtin.Str.subAt x y 0
def Mp(x y:Str):Bool:=decide (0+y.length<=x.length)&&Builtin.Str.subAt x y (x.length-y.length)
end
section
variable {X:Cx}{a b e e1 e2 o tg:Expr}{es:List Expr}{ta tb te to:DTE}{t:DTA}{pos p p2 apos cpos:Pos}{lo hi:Option Expr}
def Mz(x y:Str):List PyData:=match Builtin.Str.occurrences x y 0 x.length 1 with
 |i::_=>[.str (Builtin.Str.strSub x 0 i),.str y,.str (Builtin.Str.strSub x (i+y.length) x.length)]
 |[]=>[.str x,.str Str.empty,.str Str.empty]
noncomputable def Nd(to te:DTE):DTE:=fun ρ U Q=>to ρ U fun x ad=>match x with
 |.v (.str i)=>te ρ ad fun y al=>(match y with
  |.v (.str j)=>(j.length==0)=false/\i.length<=10000/\Q (.v (.tuple (Mz i j))) al
  |_=>False)
 |_=>False
def ku:List PyData->Option (List Str)
 |[]=>some []
 |.str z::r=>(ku r).map (z::·)
 |_::_=>none
theorem xn{K:PySem.W.Frag}{U:Mu}{H:Hp}:∀{xs:List PyData} {us:List V} {ws:List Str},RpL K U H xs us->ku xs=some ws->us=ws.map .str
 |[],_,ws,.nil,h=>by cases (show some []=some ws from h);rfl
 |x::r,_,ws,.cons q t,h=>by
  cases q<;>first|(rename_i z;cases er:ku r with
   |none=>simp[ku,er] at h
   |some ws'=>simp[ku,er] at h;rw[<- h,xn t er];rfl)|cases h
def uo(n:Nat)(ws:List Str):Nat:=Array.foldl (fun k w=>k+w.length+n) 0 ws.toArray
def Hz(U:Mu):D->Option (List PyData)
 |.v (.list xs)=>some xs
 |.m l=>U l
 |_=>none
noncomputable def ow(to te:DTE):DTE:=fun ρ U Q=>to ρ U fun x ad=>match x with
 |.v (.str z)=>te ρ ad fun y al=>∃xs ws,Hz al y=some xs/\ku xs=some ws/\uo z.length ws<=10000/\(mS z ws).length<=10000/\Q (.v (.str (mS z ws))) al
 |_=>False
theorem mJ(ho:DE X o to)(ha:DE X e te)(hbase:attributeBase o "join" X.env (eval o X.env)=eval o X.env:=by rfl)
  (hfew:((backTo cpos (starEach [e] X.env)).all (fun x=>!x.1)&&(backToKw cpos (keywordEach [] X.env)).all (fun x=>x.1.isSome)
   && decide ([e].length+([]:List Keyword).length+(if ([]:List Keyword).isEmpty then 0 else 1)<30))=true:=by rfl)
  (hline:(apos.endLine==cpos.line)=true:=by rfl) (hs:starEach [e] X.env=(false,eval e X.env)::starEach [] X.env:=by rfl) (hplain:(backTo cpos (starEach [] X.env)).any (·.1)=false:=by rfl) :
  DE X (.Call (.Attribute o "join" apos) [e] [] cpos) (ow to te):=by
 obtain⟨t1,p1,l1⟩:=ho
 obtain⟨t2,p2,l2⟩:=ha
 refine⟨_,Aj PySem.F.plainAttrs_str PySem.F.slot_str_join PySem.F.type_str_join He p1 (dP p2 kg hs) hbase hfew hline hs hplain,fun Y H ρ U Qd Q S h k=>?_⟩
 refine l1 Y H ρ U _ _ S h fun x ux ad H1 e1 S1 rx h1=>?_
 split at h1
 ·cases rx
  refine⟨rfl,?_⟩
  refine l2 Y H1 ρ ad _ _ S1 h1 fun y uy al H2 e2 S2 ry h2=>?_
  obtain⟨xs,ws,hl,hw,hz,hj,q⟩:=h2
  have tl:∀n,n<=10000->Builtin.Str.tooLong n=false:=fun n h=>by
   unfold Builtin.Str.tooLong
   exact decide_eq_false (Nat.not_lt.mpr (fv h))
  cases y with
  |v d=>
   cases d<;>first|cases hl|skip
   cases ry with
   |@list l us _ ha hn ra=>
    have eu:=xn ra hw
    subst eu
    exact⟨_,l,ws,rfl,rfl,ha,tl _ hz,fv hj,k (.v _) _ al H2 (e1.trans e2) S2 (Rp.str _) q⟩
  |m l=>
   obtain⟨rfl,ds,hm⟩:=id ry
   obtain⟨us,ha,ra⟩:=S2.mu l ds hm
   have:ds=xs:=by rw[show Hz al (.m l)=al l from rfl,hm] at hl;cases hl;rfl
   subst this
   have eu:=xn ra hw
   subst eu
   exact⟨_,l,ws,rfl,rfl,ha,tl _ hz,fv hj,k (.v _) _ al H2 (e1.trans e2) S2 (Rp.str _) q⟩
  |s ns=>cases hl
  |o a=>cases hl
  |q P=>cases hl
 ·exact h1.elim
abbrev DTJ:=Str->Rho->Mu->(Str->Mu->Prop)->Prop
noncomputable def LF(K:PySem.W.Frag)(t:TJ)(td:DTJ):Prop:=∀(acc:Str) (Y:St) (H:Hp) (ρ:Rho) (U:Mu) (Qd:Str->Mu->Prop) (Q:Str->Hp->Prop),St0 K H ρ U Y->td acc ρ U Qd ->
 (∀z Z H',Ext K U H Z H'->St0 K H' ρ Z Y->Qd z Z->Q z H')->t acc Y H Q
noncomputable def DJ(X:Cx)(es:List Expr)(td:DTJ):Prop:=∃t,PJ X es t/\LF X.K t td
def djN:DTJ:=fun acc _ U Q=>acc.length<=10000/\Q acc U
def djC(te:DTE)(tj:DTJ):DTJ:=fun acc ρ U Q=>te ρ U fun x ad=>match x with
 |.v (.str y)=>(acc++y).length<=10000/\tj (acc++y) ρ ad Q
 |_=>False
theorem FO:DJ X [] djN:=⟨_,Lf,fun acc Y H ρ U Qd Q S h k=>⟨fv h.1,k acc U H .refl S h.2⟩⟩
theorem jf{tj:DTJ}(he:DE X e te)(hr:DJ X es tj):DJ X (e::es) (djC te tj):=by
 obtain⟨t1,p1,l1⟩:=he
 obtain⟨t2,p2,l2⟩:=hr
 refine⟨_,G9 p1 p2,fun acc Y H ρ U Qd Q S h k=>?_⟩
 refine l1 Y H ρ U _ _ S h fun x ux ad H1 e1 S1 rx h1=>?_
 split at h1
 ·cases rx
  exact⟨_,rfl,fv h1.1,l2 _ Y H1 ρ ad _ _ S1 h1.2 fun z al H2 e2 S2 q=>k z al H2 (e1.trans e2) S2 q⟩
 ·exact h1.elim
noncomputable def dJS(tj:DTJ):DTE:=fun ρ U Q=>tj Str.empty ρ U fun z ad=>Q (.v (.str z)) ad
theorem xc{tj:DTJ}(h:DJ X (e1::e2::es) tj):DE X (.JoinedStr (e1::e2::es) pos) (dJS tj):=by
 obtain⟨t1,p1,l1⟩:=h
 exact⟨_,Ei p1,fun Y H ρ U Qd Q S h k=>l1 _ Y H ρ U _ _ S h fun z ad H1 e1 S1 q=>k (.v _) _ ad H1 e1 S1 (Rp.str _) q⟩
noncomputable def dFv(te:DTE):DTE:=fun ρ U Q=>te ρ U fun x ad=>match x with
 |.v (.str z)=>z.length<=10000/\Q (.v (.str z)) ad
 |_=>False
theorem CH(he:DE X e te):DE X (.FormattedValue e (-1) none pos) (dFv te):=by
 obtain⟨t1,p1,l1⟩:=he
 refine⟨_,Mg p1,fun Y H ρ U Qd Q S h k=>?_⟩
 refine l1 Y H ρ U _ _ S h fun x ux ad H1 e1 S1 rx h1=>?_
 split at h1
 ·cases rx
  exact⟨_,rfl,fv h1.1,k (.v _) _ ad H1 e1 S1 (Rp.str _) h1.2⟩
 ·exact h1.elim
def lT(z:Str):List PyData:=z.cps.toList.map fun c=>.str ⟨#[c]⟩
noncomputable def CB(te:DTE):DTI:=fun ρ U Q=>te ρ U fun x ad=>match x with
 |.v (.str z)=>Q (lT z) ad
 |_=>False
theorem FZ(h:DE X e te)(hc:X.calm=true:=by rfl):DI X tg e (CB te):=by
 obtain⟨t1,p1,l1⟩:=h
 refine⟨_,Lo hc p1,fun Y H ρ U Qd R S h k=>?_⟩
 refine l1 Y H ρ U _ _ S h fun d u ad H1 e1 S1 r h1=>?_
 split at h1
 ·rename_i z
  cases r
  refine⟨z,rfl,k (lT z) ad H1 _ e1 S1 (fun al H2 e2 ok2 i=>?_) h1⟩
  have hl:(lT z).length=z.cps.size:=by unfold lT;simp
  refine⟨fun hi=>?_,fun hi=>?_⟩
  ·rw[hl] at hi
   refine⟨hi,fun x H' ⟨eH,hx⟩=>?_⟩
   subst eH
   unfold BC at hx
   rw[getElem?_map,Array.getElem?_toList,Array.getElem?_eq_getElem hi] at hx
   cases hx
   exact⟨.str ⟨#[z.cps[i]]⟩,by unfold lT;rw[getElem?_map,Array.getElem?_toList,Array.getElem?_eq_getElem hi];rfl,vT.refl _,.str _⟩
  ·show z.cps.size<=i
   omega
 ·exact h1.elim
end
section
variable {X:Cx}{e o:Expr}{te to:DTE}{apos cpos:Pos}
noncomputable def NF(to:DTE):DTT:=fun ρ U Q=>to ρ U fun x ad=>match x with
 |.v (.str z)=>z.length<=10000/\Q (((z.length:Nat):Int) != 0) ad
 |_=>False
theorem D0{ss:List Stmt}:DSs X ss fh:=⟨fun _ _ _=>False,fun _ _ _ _ _ _ h=>h.elim,fun _ _ _ _ _ _ _ h=>h.elim⟩
def HX(x y:Str):PyData:=.bool (Ig x y)
def Ml(x y:Str):PyData:=.bool (Mp x y)
def KQ(x y:Str):PyData:=.int (JC x y)
end
section
variable {ρ:Rho}{U:Mu}{Q:DK}{QT:Bool->Mu->Prop}{QI:List PyData->Mu->Prop}{QS:Str->Mu->Prop}{ta tb te to:DTE}{i j z acc:Str}{n:Int}{tj:DTJ}{tl th:DTO}{xs:List PyData}{l:Addr}
theorem Lk:fm (.v (.str i)) (.v (.str j)) U Q=(i.length+j.length<=10000/\Q (.v (.str (i++j))) U):=propext Iff.rfl
theorem LW{neg:Bool}:A0 neg (.v (.str i)) (.v (.str j)) U Q=Q (.v (.bool (neg ^^ inS i j))) U:=propext Iff.rfl
theorem Hf:rR [.v (.int n)] U Q=(n.natAbs.log2<1920/\Q (.v (.str (toString n))) U):=propext Iff.rfl
theorem Js:AO [.v (.str z)] U Q=(∃n,intText? z=some n/\z.length<=640/\Q (.v (.int n)) U):=propext Iff.rfl
theorem Ii:uY [.v (.str z)] U Q=(z.length<=10000/\Q (.v (.int (z.length:Nat))) U):=propext Iff.rfl
theorem L0:vL te tl th ρ U Q=te ρ U fun x ad=>tl ρ ad fun l al=>th ρ al fun u bd=>match x with|.v (.str z)=>z.length<=10000/\Q (.v (.str (Txt.slice z l u))) bd|_=>False:=propext Iff.rfl
theorem Hk:ow to te ρ U Q=to ρ U fun x ad=>match x with|.v (.str z)=>te ρ ad (fun y al=>∃xs ws,Hz al y=some xs/\ku xs=some ws/\uo z.length ws<=10000/\(mS z ws).length<=10000/\Q (.v (.str (mS z ws))) al)|_=>False:=propext Iff.rfl
theorem MW:dJS tj ρ U Q=tj Str.empty ρ U fun z ad=>Q (.v (.str z)) ad:=propext Iff.rfl
theorem Nj:djN acc ρ U QS=(acc.length<=10000/\QS acc U):=propext Iff.rfl
theorem MN:djC te tj acc ρ U QS=te ρ U fun x ad=>match x with|.v (.str y)=>(acc++y).length<=10000/\tj (acc++y) ρ ad QS|_=>False:=propext Iff.rfl
theorem Ny:dFv te ρ U Q=te ρ U fun x ad=>match x with|.v (.str z)=>z.length<=10000/\Q (.v (.str z)) ad|_=>False:=propext Iff.rfl
theorem Iv:CB te ρ U QI=te ρ U fun x ad=>match x with|.v (.str z)=>QI (lT z) ad|_=>False:=propext Iff.rfl
end
end L2.DL
set_option maxHeartbeats 1000000
namespace NM
end NM
set_option maxHeartbeats 4000000
namespace NM
end NM
namespace NM
end NM
namespace NM
section
variable {d:Int}{x y z:N3}
noncomputable def gtL(d:Int)(k o:N3):Prop:=((C3 d o).a.natAbs:Int)*(C3 d k).c<((C3 d k).a.natAbs:Int)*(C3 d o).c
instance:Decidable (gtL d x y):=by unfold gtL;infer_instance
end
end NM
set_option maxHeartbeats 400000
namespace NM
end NM
namespace NM
end NM
set_option maxHeartbeats 4000000
namespace NM
section
variable {d:Int}{x y z u p q s t w h p' q' s' t' w' h':N3}
def hf(d:Int)(p q h:N3):N3:=plus (times d p h) (times d q (Iy h))
end
end NM
set_option maxHeartbeats 400000
namespace NM
end NM
set_option maxHeartbeats 4000000
namespace L2.DL
open PySem PySem.Spec PyProof.Rows NM
theorem divC{i j:Int}(h0:j≠0)(h1:j.natAbs<1073741824):E5 i j:=⟨h0,PyProof.noPylong_small h1⟩
theorem mulL{i j:Int}(h:i.natAbs<2 ^ 64):IntMulOk i j:=Ht.ok (.inl ∅)
theorem mulR{i j:Int}(h:j.natAbs<2 ^ 64):IntMulOk i j:=Ht.ok (.inr ∅)
def dN(x:N3):PyData:=.tuple [.int x.a,.int x.b,.int x.c]
def isWhole(d:PyData):Bool:=isT "int" d&&!isT "bool" d
noncomputable def jm:DSp:=fun ds U Q=>∃d,ds=[.v d]/\Q (.v (.bool (isWhole d))) U
noncomputable def Bag(U:Mu)(a:Addr):Prop:=∃g m:Int,U a=some [.int g,.int m]/\0<=g/\0<=m/\m<2147483648
noncomputable def Step(a:Addr)(U Z:Mu):Prop:=Bag Z a/\∀b,b≠a->Z b=U b
noncomputable def CM:DSp:=fun ds U Q=>∃(ns:List Int) (k:Int),ds=[.s ns,.v (.int k)]/\0<=k/\k<=1000/\∀p Z,U p=none->Step p U Z->Q (.m p) Z
noncomputable def cF:DSp:=fun ds U Q=>∃(a:Addr) (n:Int),ds=[.m a,.v (.int n)]/\1<=n/\n<=1000000000/\Bag U a/\∀r Z,0<=r->r<n->Step a U Z->Q (.v (.int r)) Z
theorem Step.trans{a:Addr}{U ad al:Mu}(h:Step a U ad)(g:Step a ad al):Step a U al:=⟨g.1,fun b n=>(g.2 b n).trans (h.2 b n)⟩
theorem Step.set{a:Addr}{U:Mu}{g m:Int}(h1:0<=g)(h2:0<=m)(h3:m<2147483648):Step a U (aF U a [.int g,.int m]):=⟨⟨g,m,aT,h1,h2,h3⟩,fun b n=>ba n⟩
def mkW(s:String):Lean.MacroM (Lean.TSyntax `tactic):=do let a<-(s.splitOn " ").toArray.mapM fun t=>if t.front=='↓' then `(Lean.Parser.Tactic.simpLemma|↓$(Lean.mkIdent (t.drop 1).toName):term) else `(Lean.Parser.Tactic.simpLemma|$(Lean.mkIdent t.toName):term);`(tactic|simp only[$a,*])
local macro_rules|`(tactic| walk_at "rd")=>mkW "↓ui ↓tU ↓uj ↓qI ↓ye ↓xO ↓yV ↓yb ↓xi ↓yW ↓tD ↓q_c ↓Hx ↓q_B ↓HA ↓Cg ↓CJ ↓yx ↓IS ↓yi ↓EY ↓yk ↓nY ↓kh ↓wB ↓wK ↓yI ↓wy ↓wJ ↓xb ↓Df ↓CL ↓rA ↓yK ↓x9 ↓ue ↓uQ ↓tO ↓ya ↓uL ↓sg ↓CF ↓CZ ↓CQ ↓x5 ↓yS ↓x3 ↓Hs ↓qe ↓xl ↓Ds ↓GL ↓rJ ↓xS ↓xK ↓ua ↓C0 ↓Ij ↓yo ↓sN ↓Dc ↓Cy ↓iz ↓u7 ↓pj ↓vh ↓xV ↓Dk ↓CS ↓yL ↓nX ↓w8 ↓xI ↓CA ↓sR ↓B9 ↓Cr ↓Dm ↓CC ↓rj ↓mM ↓sV ↓nh ↓pK ↓oY FV ↓xp ↓lF oN mH wG wZ zR bind_none bind_some join_some getElem?_cons_zero List.getElem?_cons_succ aY dN oh pP rZ rK zC List.map List.append List.replicate length_cons length_nil Nat.reduceAdd Nat.reduceSub nil_append cons_append set_cons_zero set_cons_succ map_some ↓reduceIte Bool.not_true Bool.not_false false_eq_true Bool.true_eq_false Bool.xor_false false_xor"
noncomputable def j4:DTS:=
 (bG (jO (vi "int" (ah 0)) (Gf (vi "bool" (ah 0)))))
section
theorem sf{U Qd ds}(h:jm ds U Qd):j4 ‹Qd› (aY [""] ds) U:=by
 obtain⟨d,rfl,q⟩:=h
 unfold j4
 walk_at "rd"
 unfold isWhole at q
 cases hb:isT "int" d<;>simp_all
end
noncomputable def mO:DTS:=
 (aM (bt (dC (.int 0)) (ao 2))
 (aM (bN (dB (dOp rLt (ah 1) (dCB cC (ae (ah 0) aj)))) (bt (dOp bg (ah 0) (ah 1)) (ao 2)) br)
 (aM (bt (dC (.int 0)) (ao 3))
 (aM (bN (dB (dOp rGe (dCB uK (ae (ah 2) aj)) (vj (dC (.int 10)) (dC (.int 18))))) (bt (dCB uK (ae (ah 2) aj)) (ao 3)) br)
 (aM (bt (gC (ae (dC (.int 2147483647)) (ae (dC (.int 2147483629)) (ae (dC (.int 2147483587)) (ae (dC (.int 2147483579)) (ae (dC (.int 2147483563)) (ae (dC (.int 2147483549)) (ae (dC (.int 2147483543)) (ae (dC (.int 2147483497)) aj))))))))) (ao 4))
 (aM (bt (dJ (dJ (dJ (Ee (xq (ah 2) (dC (.int 2147483647))) (dC (.int 69623))) (Ee (Ee (dC (.int 104729)) (ah 1)) (ah 1))) (Ee (dC (.int 7919)) (ah 1))) (dC (.int 12345))) (ao 5))
 (bG (tG (ae (ah 3) (ae (xq (ah 5) (dOp bg (ah 4) (xq (ah 1) (dC (.int 8))))) aj))))))))))
noncomputable def k7:DTS:=
 (aM (bN (dB (dOp rGt (dOp bg (ah 0) (dC (.int 0))) (dC (.int 0)))) (aM (bt (xq (dOp bg (ah 0) (dC (.int 0))) (ah 1)) (ao 2))
 (aM (bt (KO (dOp bg (ah 0) (dC (.int 0))) (ah 1)) (Dh (ah 0) (dC (.int 0))))
 (bG (ah 2)))) br)
 (aM (bt (xq (dJ (Ee (dOp bg (ah 0) (dC (.int 1))) (dC (.int 48271))) (dC (.int 2531011))) (dC (.int 2147483647))) (Dh (ah 0) (dC (.int 1))))
 (bG (xq (KO (xq (vj (dOp bg (ah 0) (dC (.int 1))) (dC (.int 3))) (dC (.int 2147483629))) (dC (.int 64))) (ah 1)))))
section
variable {U:Mu}{Qd:DK}{ds:List D}
theorem sU{α:Type}{xs:List α}{i:Int}(h0:0<=i)(h:i<(xs.length:Nat)):∃d,atI xs i=some d/\d∈xs:=by
 have hj:i.toNat<xs.length:=by omega
 have e:=tq (xs:=xs) (j:=i.toNat) (v:=xs[i.toNat]) (by simp[hj])
 rw[show ((i.toNat:Nat):Int)=i by omega] at e
 exact⟨_,e,List.getElem_mem _⟩
theorem nj(x:Int){y:Int}(h:0<y):0<=x.fmod y/\x.fmod y<y:=⟨Int.fmod_nonneg_of_pos x h,Int.fmod_lt_of_pos x h⟩
theorem GS{x y:Int}(hx:0<=x)(hy:0<y):0<=x.fdiv y:=by rw[Int.fdiv_eq_ediv_of_nonneg _ ∅];exact Int.ediv_nonneg hx ∅
def nP:List PyData:=[.int 2147483647,.int 2147483629,.int 2147483587,.int 2147483579,.int 2147483563,.int 2147483549,.int 2147483543,.int 2147483497]
theorem zz(h:CM ds U Qd):mO ‹Qd› (aY ["","","","","",""] ds) U:=by
 obtain⟨ns,k,rfl,h0,h1,q⟩:=h
 unfold mO
 have hp:∃pr:Int,atI nP (k.fmod 8)=some (.int pr)/\0<pr/\pr<2147483648:=by
  obtain⟨h2,h3⟩:=nj k (show (0:Int)<8 by decide)
  obtain⟨p,e,hm⟩:=sU (xs:=nP) h2 (by exact h3)
  simp only[nP,mem_cons,not_mem_nil,or_false] at hm
  rcases hm with rfl|rfl|rfl|rfl|rfl|rfl|rfl|rfl<;>exact⟨_,e,⋯,⋯⟩
 obtain⟨pr,hpe,hp0,hp1⟩:=hp
 unfold nP at hpe
 walk_at "rd"
 rw[hpe]
 walk_at "rd"
 have c1:xX 10 18:=⟨⋯,⋯,⋯⟩
 have z1:(2147483647:Int)≠0:=by decide
 have z2:(8:Int)≠0:=by decide
 have m1:∀i:Int,MulOk i 69623:=fun i=>mulR ⋯
 have m2:MulOk 104729 k:=mulL ⋯
 have m3:MulOk (104729*k) k:=mulR ∅
 have m4:MulOk 7919 k:=mulL ⋯
 have z3:pr≠0:=by omega
 have fin:∀G x:Int,0<=G->∀p,U p=none->Qd (.m p) (aF U p [.int G,.int (x.fmod pr)]):=fun G x hG p hp=>by
  obtain⟨h2,h3⟩:=nj x hp0
  exact q p _ hp (Step.set hG h2 ∅)
 by_cases hk:k<(ns.length:Nat)
 ·rw[if_pos (by simpa using hk)]
  obtain⟨c,hc,_⟩:=sU h0 hk
  rw[hc]
  walk_at "rd"
  refine⟨c1,?_⟩
  split
  ·exact⟨z1,m1 _,m2,m3,m4,z2,z3,fin _ _ ∅⟩
  ·exact⟨z1,m1 _,m2,m3,m4,z2,z3,fin _ _ ∅⟩
 ·rw[if_neg (by simpa using hk)]
  refine⟨c1,?_⟩
  split
  ·exact⟨z1,m1 _,m2,m3,m4,z2,z3,fin _ _ ∅⟩
  ·exact⟨z1,m1 _,m2,m3,m4,z2,z3,fin _ _ ∅⟩
theorem xx(h:cF ds U Qd):k7 ‹Qd› (aY ["","",""] ds) U:=by
 obtain⟨a,n,rfl,h0,h1,⟨g,m,hb,hg,hm,hm'⟩,q⟩:=h
 unfold k7
 walk_at "rd"
 rw[hb]
 walk_at "rd"
 rw[hb]
 walk_at "rd"
 have n0:n≠0:=by omega
 have i0:ixN 2 0=some 0:=by rfl
 have i1:ixN 2 1=some 1:=by rfl
 by_cases hg0:0<g
 ·rw[if_pos (by simpa using hg0)]
  simp only[hb]
  walk_at "rd"
  obtain⟨r0,r1⟩:=nj g (show 0<n by omega)
  refine⟨n0,?_⟩
  simp only[hb]
  walk_at "rd"
  refine⟨divC n0 ∅,?_⟩
  simp only[hb,length_cons,length_nil,Nat.reduceAdd,i0,set_cons_zero]
  exact q _ _ r0 r1 (Step.set (GS hg ∅) hm hm')
 ·rw[if_neg (by simpa using hg0)]
  simp only[hb,i1,aT]
  walk_at "rd"
  obtain⟨s0,s1⟩:=nj (m*48271+2531011) (show (0:Int)<2147483647 by decide)
  generalize (m*48271+2531011).fmod 2147483647=w at s0 s1 ⊢
  obtain⟨r0,r1⟩:=nj ((((w ^ Int.toNat 3).fmod 2147483629).fdiv 64)) (show 0<n by omega)
  refine⟨mulL ∅,⋯,?_⟩
  refine⟨⟨⋯,⋯,∅⟩,(by show (2147483629:Int)≠0;decide),divC ⋯ ⋯,n0,?_⟩
  exact q _ _ r0 r1 (Step.set hg s0 ∅)
end
section
variable {U:Mu}{Qd:DK}{ds:List D}
theorem tw(d:PyData):(∃xs,d = .tuple xs/\isT "tuple" d=true)\/((∀xs,d≠.tuple xs)/\isT "tuple" d=false):=by
 cases d<;>first|exact .inl ⟨_,rfl,rfl⟩|exact .inr ⟨fun _ z=>(by cases z),rfl⟩
end
section
variable {U:Mu}{Qd:DK}{ds:List D}
theorem pick{P:PyData->Prop}{xs:List PyData}{i:Int}(h0:0<=i)(h1:i<(xs.length:Nat))(h:∀x∈xs,P x):∃d,atI xs i=some d/\P d:=let ⟨d,e,m⟩:=sU h0 h1;⟨d,e,h d m⟩
end
noncomputable def mv:DTS:=
 (aM (bt (gC (ae (dC .none) (ae (dC (.bool true)) (ae (dC (.bool false)) (ae (dC (.str "1")) (ae (dC (.str "")) (ae (Am (dC (.int 1))) (ae (dC (.int 0)) (ae (dC (.int 1)) (ae (vj (dC (.int 10)) (dC (.int 59))) (ae (bb aj) (ae (gC aj) (ae (gC (ae (dC (.int 0)) aj)) (ae (bb (ae (dC (.int 0)) (ae (dC (.int 0)) aj))) (ae (bb (ae (dC (.int 1)) (ae (dC (.int 0)) (ae (dC (.int 0)) aj)))) (ae (bb (ae (dC (.int 2)) (ae (dC (.int 0)) (ae (dC (.int 2)) aj)))) (ae (bb (ae (dC (.int 1)) (ae (dC (.bool true)) (ae (dC (.int 1)) aj)))) (ae (bb (ae (dC (.int 1)) (ae (dC (.int 1)) (ae (Am (dC (.int 1))) aj)))) (ae (gC (ae (dC (.int 1)) (ae (dC (.int 0)) (ae (dC (.int 1)) aj)))) (ae (bb (ae (dC (.int 1)) (ae (dC (.int 0)) aj))) (ae (dC (.str "a")) aj))))))))))))))))))))) (ao 1))
 (bG (dOp bg (ah 1) (aK cF (ae (ah 0) (ae (dC (.int 20)) aj))))))
section
variable {U:Mu}{Qd:DK}{ds:List D}
def qd:List PyData:=[.none,.bool true,.bool false,.str "1",.str "",.int (-1),.int 0,.int 1,.int (10 ^ Int.toNat 59),.tuple [],.list [],.list [.int 0],.tuple [.int 0,.int 0],.tuple [.int 1,.int 0,.int 0],.tuple [.int 2,.int 0,.int 2],.tuple [.int 1,.bool true,.int 1],.tuple [.int 1,.int 1,.int (-1)],.list [.int 1,.int 0,.int 1],.tuple [.int 1,.int 0],.str "a"]
noncomputable def CU:DSp:=fun ds U Q=>∃a:Addr,ds=[.m a]/\Bag U a/\∀d Z,d∈qd->Step a U Z->Q (.v d) Z
theorem zN(h:CU ds U Qd):mv ‹Qd› (aY ["",""] ds) U:=by
 obtain⟨a,rfl,hb,q⟩:=h
 unfold mv
 walk_at "rd"
 refine⟨⟨⋯,⋯,⋯⟩,a,20,rfl,⋯,⋯,hb,fun r0 ad h0 h1 s1=>?_⟩
 walk_at "rd"
 obtain⟨d,e,m⟩:=sU (xs:=qd) h0 (by exact h1)
 unfold qd at e
 rw[e]
 exact q d _ m s1
end
section
variable {U:Mu}{Q:DK}{ds:List D}
noncomputable def uS:DSp:=fun ds U Q=>∃ns:List Int,ds=[.s ns]/\ns.length<=63/\∀Z,Q (.v (.bool true)) Z
theorem sd(h:jm ds U Q):ds.length=1:=by obtain⟨_,rfl,_⟩:=h;rfl
theorem Dy(h:CM ds U Q):ds.length=2:=by obtain⟨_,_,rfl,_⟩:=h;rfl
theorem Bz(h:cF ds U Q):ds.length=2:=by obtain⟨_,_,rfl,_⟩:=h;rfl
theorem Dt(h:CU ds U Q):ds.length=1:=by obtain⟨_,rfl,_⟩:=h;rfl
theorem DD(h:uS ds U Q):ds.length=1:=by obtain⟨_,rfl,_⟩:=h;rfl
end
noncomputable def kJ:DTS:=j4
theorem rE{U Qd ds}(h:jm ds U Qd):kJ ‹Qd› (aY [""] ds) U:=sf h
theorem DU{K:PySem.W.Frag}{H:Hp}{a:Addr}{ns:List Int}(hl:ns.length<=63)(hT:vH K H)(hS:SqL K H a (ns.map V.int)):spD K uS [.ref a] H (fun v _=>v = .bl true) fun _ _ _=>False:=by
 refine⟨[.s ns],fun _=>none,fun d _=>d = .v (.bool true),⟨fun a ds h=>(by cases h),hT⟩,.cons ⟨a,rfl,hS,rfl⟩ .nil,⟨ns,rfl,hl,fun _=>rfl⟩,fun d u Z H' _ _ r q=>?_⟩
 subst q
 cases r
 rfl
section
variable {U:Mu}{Q:DK}{ds:List D}{x y:N3}
theorem Gg(a b c:Int):PyData.tuple [.int a,.int b,.int c]=dN ⟨a,b,c⟩:=rfl
theorem Bw:bg (.v (dN x)) (.v (.int 0)) U Q=Q (.v (.int x.a)) U:=by unfold dN;rw[ue]
theorem BQ:bg (.v (dN x)) (.v (.int 1)) U Q=Q (.v (.int x.b)) U:=by unfold dN;rw[uQ]
theorem Cb:bg (.v (dN x)) (.v (.int 2)) U Q=Q (.v (.int x.c)) U:=by unfold dN;rw[tO]
theorem EN{lo:Int}{n i:Nat}{x:PyData}(h:(vI lo n)[i]? = some x):x = .int (lo+i)/\i<n:=by
 unfold vI at h
 rw[getElem?_map] at h
 by_cases hi:i<n
 ·rw[List.getElem?_range hi] at h
  cases h
  exact⟨rfl,hi⟩
 ·rw[getElem?_eq_none (by simpa using hi)] at h
  cases h
theorem uI{lo:Int}{n:Nat}:(vI lo n).length=n:=by unfold vI;simp
end
end L2.DL
namespace L2
open PySem PySem.Spec PyProof.Rows
section
variable {X:Cx}
def Az(x y:Str)(i:Int):Int:=match Builtin.Str.occurrences x y (fromIndex x.length i) x.length 1 with|k::_=>(k:Nat)|[]=>-1
def J8:V->List V->Hp->VK->Prop:=fun x vs H Q=>∃a b i,x = .str a/\vs=[.str b,.int i]/\Q (.int (Az a b i)) H
theorem GJ:MtM X "str.find" J8:=by
 intro pins s Y H x vs v us Q I rx rv h
 obtain⟨a,b,i,rfl,rfl,q⟩:=h
 obtain⟨t,rfl⟩:=rx
 obtain⟨u1,u2,rfl,⟨t1,rfl⟩,⟨t2,rfl⟩⟩:=vals2 rv
 exact call_gives F.slot_str_find (typeIs_str s a t) F.entry_str_find (F.args_str_find_3 _ _ _) (gives_str_find_from a b i t t1 t2) ⟨.int _,H,I.tok _,⟨_,rfl⟩,q⟩
end
end L2
namespace L2.DL
open PySem PySem.Spec PyProof.Rows
section
variable {X:Cx}{a b e i o:Expr}{ta tb te ti to:DTE}{pos apos cpos:Pos}
noncomputable def yH(to te ti:DTE):DTE:=fun ρ U Q=>to ρ U fun x ad=>match x with
 |.v (.str z)=>te ρ ad fun y al=>ti ρ al fun k bd=>(match y,k with
  |.v (.str w),.v (.int n)=>Q (.v (.int (Az z w n))) bd
  |_,_=>False)
 |_=>False
theorem zH(ho:DE X o to)(ha:DE X e te)(hi:DE X i ti)(hbase:attributeBase o "find" X.env (eval o X.env)=eval o X.env:=by rfl)
  (hfew:((backTo cpos (starEach [e,i] X.env)).all (fun x=>!x.1)&&(backToKw cpos (keywordEach [] X.env)).all (fun x=>x.1.isSome)
   && decide ([e,i].length+([]:List Keyword).length+(if ([]:List Keyword).isEmpty then 0 else 1)<30))=true:=by rfl)
  (hline:(apos.endLine==cpos.line)=true:=by rfl) (hs:starEach [e,i] X.env=(false,eval e X.env)::starEach [i] X.env:=by rfl) (hs2:starEach [i] X.env=(false,eval i X.env)::starEach [] X.env:=by rfl) (hplain:(backTo cpos (starEach [i] X.env)).any (·.1)=false:=by rfl) :
  DE X (.Call (.Attribute o "find" apos) [e,i] [] cpos) (yH to te ti):=by
 obtain⟨t1,p1,l1⟩:=ho
 obtain⟨t2,p2,l2⟩:=ha
 obtain⟨t3,p3,l3⟩:=hi
 refine⟨_,Aj PySem.F.plainAttrs_str PySem.F.slot_str_find PySem.F.type_str_find GJ p1 (dP p2 (dP p3 kg hs2) hs) hbase hfew hline hs hplain,fun Y H ρ U Qd Q S h k=>?_⟩
 refine l1 Y H ρ U _ _ S h fun x ux ad H1 e1 S1 rx h1=>?_
 split at h1
 ·cases rx
  refine⟨rfl,?_⟩
  refine l2 Y H1 ρ ad _ _ S1 h1 fun y uy al H2 e2 S2 ry h2=>?_
  refine l3 Y H2 ρ al _ _ S2 h2 fun z uz bd H3 e3 S3 rz h3=>?_
  split at h3
  ·cases ry;cases rz
   exact⟨_,_,_,rfl,rfl,k (.v _) _ bd H3 (e1.trans (e2.trans e3)) S3 (.int _) h3⟩
  ·exact h3.elim
 ·exact h1.elim
noncomputable def IG(K:PySem.W.Frag):R2:=fun x y H Q=>∃U a bs,Rp K U H a x/\Rp K U H (.tuple bs) y/\PyData.canLayAll0 bs=true/\a.canLay0=true/\PyData.depth a<=60/\Q (.bl (bs.any fun b=>PyData.eqv b a)) H
theorem GD(hu:X.A.units+64<cLine):OpR X (compareOp .In) (IG X.K):=by
 intro pins s Y H x y v u Q I rx ry h
 obtain⟨U,a,b,ha,hb,sb,sa,dp,q⟩:=h
 obtain⟨as,ra⟩:=gJ I ha rx
 obtain⟨bs,rb⟩:=gJ I hb ry
 exact SeqAt.in_tuple_reads rb ra sb sa ∅ ⟨.bl (b.any fun z=>PyData.eqv z a),H,I,rfl,q⟩
def wF:D->D->Mu->DK->Prop:=fun x y U Q=>match x,y with
 |.v a,.v (.tuple bs)=>PyData.canLayAll0 bs=true/\a.canLay0=true/\PyData.depth a<=60/\Q (.v (.bool (bs.any fun b=>PyData.eqv b a))) U
 |_,_=>False
theorem Gq{K:PySem.W.Frag}:d8 K (IG K) wF:=by
 intro x y ux uy H U Qd Q ok rx ry h k
 unfold wF at h
 split at h
 ·exact⟨U,_,_,rx,ry,h.1,h.2.1,h.2.2.1,k (.v _) _ U H .refl ok (.bool _) h.2.2.2⟩
 ·exact h.elim
structure Jj(K:PySem.W.Frag)(mg:Str->Option Value)(x:Str)(g:Addr)(a b c:Str):Prop where
 m:mg x=some (.ref g)
 l:∃(n:Nat) (sl:Array (Option Value)) (t u v:Tok),K.lookup g=some ⟨.type "tuple",none,.seq #[.str a t,.str b u,.str c v] n,sl⟩
theorem qX{x:Str}{g:Addr}{a b c:Str}(hg:Gl X x)(h:Jj X.K X.mg x g a b c)(hd:(x==("__debug__":Str))=false:=by decide):DE X (.Name x pos) (dC (.tuple [.str a,.str b,.str c])):=by
 obtain⟨n,sl,t,u,v,e⟩:=h.l
 refine dR (u:=.ref g) hg h.m rfl (fun U H _=>Rp.tuple (xs:=[.str a,.str b,.str c]) (.inr ⟨_,_,_,e,rfl,rfl,(by show 3<=sizeLine;decide),.cons ⟨t,rfl⟩ (.cons ⟨u,rfl⟩ (.cons ⟨v,rfl⟩ .nil))⟩) (.cons (.str a) (.cons (.str b) (.cons (.str c) .nil)))) hd
end
section
variable {ρ:Rho}{U:Mu}{Q:DK}{te ti to:DTE}{d:PyData}{xs:List PyData}
theorem Hy:yH to te ti ρ U Q=to ρ U fun x ad=>match x with
 |.v (.str z)=>te ρ ad (fun y al=>ti ρ al fun k bd=>(match y,k with
  |.v (.str w),.v (.int n)=>Q (.v (.int (Az z w n))) bd
  |_,_=>False))
 |_=>False:=propext Iff.rfl
theorem L4:wF (.v d) (.v (.tuple xs)) U Q=(PyData.canLayAll0 xs=true/\d.canLay0=true/\PyData.depth d<=60/\Q (.v (.bool (xs.any fun b=>PyData.eqv b d))) U):=propext Iff.rfl
end
end L2.DL
namespace L2
open PySem PySem.Spec PyProof.Rows
theorem uv(a:Addr)(l:List (Str×Tok))(z:Str)(t:Tok)(j:Nat)(hj:(l.map (·.1))[j]? = some z)(hm:∀m,m<j->(l.map (·.1))[m]?≠some z) :
  Meets (Builtin.«tuple.index» {pos:=[.ref a,.str z t]}) fun _ R s=>s.heap.IsTuple a (strValues l).toArray/\R (Except.ok (Flow.ret (Value.int (j:Nat) s.toks))) {s with toks:=s.toks+1}:=by
 intro prog w A R s ⟨hT,hR⟩
 obtain⟨o,h1,h2,n,h3⟩:=hT
 unfold Builtin.«tuple.index»
 refine wpAny_bind ?_
 have e1:selfAndSome "tuple.index" "index" 1 3 {pos:=[.ref a,.str z t]} = pure (.ref a,[.str z t]):=by rfl
 rw[e1]
 refine wpAny_pure ?_
 refine wpAny_bind ?_
 refine wpAny_tupleItemsOf h1 h3 ?_
 refine wpAny_bind (wpAny_pure ?_)
 refine wpAny_bind (wpAny_pure ?_)
 refine wpAny_bind ?_
 rw[Std.Legacy.Range.forIn_eq_forIn_range']
 have hl:j<l.length:=by
  rcases lt_or_ge j l.length with z|z
  ·exact z
  ·rw[getElem?_eq_none (by rw[length_map];exact z)] at hj;cases hj
 have at_:∀i,(strValues l).toArray[i]? = (l[i]?).map fun (p:Str×Tok)=>Value.str p.1 p.2:=fun i=>by
  rw[<- Array.getElem?_toList]
  show ((l.map fun p=>Value.str p.1 p.2))[i]? = _
  rw[getElem?_map]
 refine wpAny_forIn_list (I:=fun r b s'=>b=(none,())/\s'=s/\∃i,i<=j/\r=List.range' i (l.length-i)) _ _ ?_ ?_ _ _ ?_
 ·rintro x r b s' ⟨rfl,rfl,i,hi,hr⟩
  have hil:i<l.length:=by omega
  rw[show l.length-i=(l.length-(i+1))+1 by omega,List.range'_succ] at hr
  obtain⟨rfl,rfl⟩:=List.cons.inj hr
  rw[at_,getElem?_eq_getElem hil,map_some]
  refine wpAny_bind (wpAny_eqBool_str ?_)
  by_cases hij:x=j
  ·subst hij
   have ez:(l[x]'hil).1=z:=by
    rw[getElem?_map,getElem?_eq_getElem hil] at hj
    exact Option.some.inj hj
   rw[if_pos (decide_eq_true ez)]
   refine wpAny_bind ?_
   unfold retInt
   refine wpAny_bind ?_
   refine wpAny_mkInt ?_
   refine wpAny_pure ?_
   refine wpAny_pure ?_
   dsimp only
   refine wpAny_pure ?_
   exact hR
  ·have nz:¬ (l[x]'hil).1=z:=fun e=>hm x ∅ (by rw[getElem?_map,getElem?_eq_getElem hil];exact congrArg some e)
   rw[if_neg (by rw[decide_eq_true_eq];exact nz)]
   refine wpAny_pure ?_
   exact⟨rfl,rfl,x+1,∅,rfl⟩
 ·rintro b s' ⟨rfl,rfl,i,hi,hr⟩
  exfalso
  rw[show l.length-i=(l.length-(i+1))+1 by omega,List.range'_succ] at hr
  cases hr
 ·refine⟨rfl,rfl,0,zero_le _,?_⟩
  congr 1
  show (min _ _-0+1-1) / 1=_
  have:(strValues l).toArray.size=l.length:=by rw[size_toArray];exact length_map _
  rw[this]
  omega
section
variable {X:Cx}
def HP(K:PySem.W.Frag):V->List V->Hp->VK->Prop:=fun x vs H Q=>∃(a:Addr) (ws:List Str) (z:Str) (j:Nat),x = .ref a/\vs=[.str z]/\SqT K H a (ws.map .str)/\ws[j]? = some z/\(∀m,m<j->ws[m]?≠some z)/\Q (.int (j:Nat)) H
theorem DX:MtM X "tuple.index" (HP X.K):=by
 intro pins s Y H x vs v us Q I rx rv h
 obtain⟨a,ws,z,j,rfl,rfl,hT,hj,hm,q⟩:=h
 cases rx
 obtain⟨u,rfl,t,rfl⟩:=vals1 rv
 obtain⟨its,r,p,hz⟩:=I.tuple hT
 obtain⟨l,rfl,rfl⟩:=qK r
 have hI:s.heap.IsTuple a (strValues l).toArray:=p
 have hty:s.TypeIs (.ref a) "tuple":=IsTup.typeIs p
 refine call_meets F.slot_tuple_index hty F.entry_tuple_index (F.args_tuple_index_2 _ _) (uv a l z t j hj hm) ⟨hI,?_⟩
 exact⟨.int (j:Nat),H,I.tok _,⟨_,rfl⟩,q⟩
end
end L2
namespace L2.DL
open PySem PySem.Spec PyProof.Rows
section
variable {X:Cx}{e:Expr}{te:DTE}{p apos cpos:Pos}
noncomputable def HJ(ws:List Str)(te:DTE):DTE:=fun ρ U Q=>te ρ U fun y ad=>match y with
 |.v (.str z)=>∃j:Nat,ws[j]? = some z/\(∀m,m<j->ws[m]?≠some z)/\Q (.v (.int (j:Nat))) ad
 |_=>False
theorem zB{x:Str}{g:Addr}{a b c:Str}(hg:Gl X x)(h:Jj X.K X.mg x g a b c)(he:DE X e te)(hd:(x==("__debug__":Str))=false:=by decide)
  (hbase:attributeBase (.Name x p) "index" X.env (eval (.Name x p) X.env)=eval (.Name x p) X.env:=by rfl)
  (hfew:((backTo cpos (starEach [e] X.env)).all (fun x=>!x.1)&&(backToKw cpos (keywordEach [] X.env)).all (fun x=>x.1.isSome)
   && decide ([e].length+([]:List Keyword).length+(if ([]:List Keyword).isEmpty then 0 else 1)<30))=true:=by rfl)
  (hline:(apos.endLine==cpos.line)=true:=by rfl) (hs:starEach [e] X.env=(false,eval e X.env)::starEach [] X.env:=by rfl) (hplain:(backTo cpos (starEach [] X.env)).any (·.1)=false:=by rfl) :
  DE X (.Call (.Attribute (.Name x p) "index" apos) [e] [] cpos) (HJ [a,b,c] te):=by
 obtain⟨n,sl,t,u,v,el⟩:=h.l
 obtain⟨t2,p2,l2⟩:=he
 have pg:PE X (.Name x p) (tC (.ref g)):=za hg h.m rfl hd
 refine⟨_,Aj PySem.F.plainAttrs_tuple PySem.F.slot_tuple_index PySem.F.type_tuple_index DX pg (dP p2 kg hs) hbase hfew hline hs hplain,fun Y H ρ U Qd Q S hq k=>?_⟩
 refine⟨.inr (.inl ⟨rfl,_,el,rfl,rfl⟩),?_⟩
 refine l2 Y H ρ U _ _ S hq fun y uy al H2 e2 S2 ry h2=>?_
 split at h2
 ·rename_i z
  cases ry
  obtain⟨j,hj,hm,q⟩:=h2
  exact⟨g,[a,b,c],z,j,rfl,rfl,.inr ⟨_,_,_,el,rfl,rfl,(by show 3<=sizeLine;decide),.cons ⟨t,rfl⟩ (.cons ⟨u,rfl⟩ (.cons ⟨v,rfl⟩ .nil))⟩,hj,hm,k (.v _) _ al H2 e2 S2 (.int _) q⟩
 ·exact h2.elim
end
section
variable {X:Cx}{a b:Expr}{ta tb:DTE}{pos:Pos}
def zo:D->D->Mu->DK->Prop:=fun x y U Q=>match x,y with
 |.v (.str z),.v (.int i)=>∃c,z.length<=10000/\atI z.cps.toList i=some c/\Q (.v (.str ⟨#[c]⟩)) U
 |_,_=>False
theorem Jw{K:PySem.W.Frag}:d8 K Ja zo:=by
 intro x y ux uy H U Qd Q ok rx ry h k
 unfold zo at h
 split at h
 ·cases rx;cases ry
  obtain⟨c,h1,h2,h3⟩:=h
  exact⟨_,_,c,rfl,rfl,fv h1,h2,k (.v _) _ U H .refl ok (.str _) h3⟩
 ·exact h.elim
theorem Jk(ha:DE X a ta)(hb:DE X b tb)(hs:yM b:=by exact fun _ _=>rfl):DE X (.Subscript a b pos) (dOp zo ta tb):=by
 obtain⟨t1,p1,l1⟩:=ha
 obtain⟨t2,p2,l2⟩:=hb
 exact⟨_,IV Fg p1 p2 hs,pR Jw l1 l2⟩
end
theorem JW{z:Str}{i:Int}{U:Mu}{Q:DK}:zo (.v (.str z)) (.v (.int i)) U Q=(∃c,z.length<=10000/\atI z.cps.toList i=some c/\Q (.v (.str ⟨#[c]⟩)) U):=propext Iff.rfl
theorem Mo{ws:List Str}{te:DTE}{ρ:Rho}{U:Mu}{Q:DK}:HJ ws te ρ U Q=te ρ U fun y ad=>match y with
 |.v (.str z)=>∃j:Nat,ws[j]? = some z/\(∀m,m<j->ws[m]?≠some z)/\Q (.v (.int (j:Nat))) ad
 |_=>False:=propext Iff.rfl
noncomputable def Li(ta tb:DTE):DTE:=fun ρ U Q=>ta ρ U Q\/tb ρ U Q
theorem JO{X:Cx}{e:Expr}{ta tb:DTE}(ha:DE X e ta)(hb:DE X e tb):DE X e (Li ta tb):=by
 obtain⟨t1,p1,l1⟩:=ha
 obtain⟨t2,p2,l2⟩:=hb
 refine⟨fun Y H Q=>t1 Y H Q\/t2 Y H Q,fun pins s Y H Q I h=>?_,fun Y H ρ U Qd Q S h k=>?_⟩
 ·rcases h with h|h
  ·exact p1 pins s Y H Q I h
  ·exact p2 pins s Y H Q I h
 ·rcases h with h|h
  ·exact .inl (l1 Y H ρ U Qd Q S h k)
  ·exact .inr (l2 Y H ρ U Qd Q S h k)
theorem L9{ta tb:DTE}{ρ:Rho}{U:Mu}{Q:DK}:Li ta tb ρ U Q=(ta ρ U Q\/tb ρ U Q):=propext Iff.rfl
noncomputable def Fi(cap:List (Option Nat))(te:DTE):DTE:=fun ρ U Qd=>te (bE cap ρ) U fun _ Z=>Qd (.v .none) Z
theorem HN{X:Cx}{k:Nat}{f c P:Addr}{fd:FuncData}{dn rn q:Str}{params:Arguments}{body:Expr}{lsc:Scope}{lpos p pos:Pos}{cl:List (Str×Addr)}{N':List Str}{cap:List (Option Nat)}{te:DTE}
  (R:Jh X.prog X.w X.K X.mg X.base k f fd dn) (hr:fi (k+1) X.A) (hg:Gl X rn) (hm:X.mg rn=some (.ref f)) (hk:keepIn X.K (.ref f)=true) (hb:Binds X.K fd [dn] []) (L:J0 X.K X.mg c P q) (hcode:X.env.code = .ref c) (hq:X.env.qual=q ++ ".<locals>.")
  (hk0:0<k) (he:∀(A':Around) (outer':List Env) (s':Shared) (H':Hp) (fa c1:Addr) (E:XK),fi (k-1) (n8 X.prog X.w X.K X.mg X.base N' lsc cl (bR q) fa c1 A' outer' s' H' E).A->DE (n8 X.prog X.w X.K X.mg X.base N' lsc cl (bR q) fa c1 A' outer' s' H' E) body te)
  (hdef:defaultsOf params X.env=([],[])) (hclos:closureFor lsc X.env=pure cl) (hbind:∀(pm ctv:Value) (c1:Addr),bindArgs (kla_fn "<lambda>" (bR q) params body lsc cl pm (.ref c1) ctv) ⟨[],[]⟩=pure [])
  (hkind:lsc.kind = .function) (hco:lsc.isCoroutine=false) (hgen:lsc.isGenerator=false) (hcell:∀y∈lsc.names,y.2≠.cell) (hcl:∀x a,cl.lookup x=some a->X.env.cells.lookup x=some a) (hhas:∀x,lsc.names.lookup x=some .cell\/lsc.names.lookup x=some .free->∃a,cl.lookup x=some a)
  (hlen:cap.length=N'.length) (hcap:∀(i j:Nat) (x:Str),cap[i]? = some (some j)->N'[i]? = some x->X.N[j]? = some x/\Vis X.env.scope x/\X.env.kindOf x≠some .local/\lsc.names.lookup x=some .free)
  (hdb:(rn==("__debug__":Str))=false:=by decide) (hst:starEach [.Lambda params body lsc lpos] X.env=[(false,eval (.Lambda params body lsc lpos) X.env)]:=by rfl) :
  DE X (.Call (.Name rn p) [.Lambda params body lsc lpos] [] pos) (Fi cap te):=by
 refine zM fun pins s Y H ρ U Qd Q I S h kk=>?_
 obtain⟨o,hl,hlc⟩:=L.obj
 refine wpAny_Call_Name_kw (nE I hg hm ?_ hdb)
 refine PySem.W.callWith_K (h₀:=X.base) I.ok.mod.kin hk (spliced_more (Fl I S.mu hcode hl hlc L.one hq L.blt hclos hdef fun fa c1 ctv pm H1 s1 I1 ex mu ho hfa hfr hc1=>spliced_none ⟨I1.kIn,?_⟩) (by rw[hst];rfl)) (by rw[hst];rfl) rfl
 have S1:St0 X.K H1 ρ U Y:=⟨mu,S.rho.ext S.mu ex⟩
 refine wpAny_call (codeAny_mono (R.run X.A X.stack s1 H1 fa Q hr I1.Ga (hb s1 [.ref fa] I1.kIn rfl) (fun A' outer' s' hr' e0' un=>?_)) fun r s' hq'=>?_)
 ·have ho':=un.keep fa _ ho hfa hfr (fun z=>nomatch z)
  refine⟨⟨_,_,_,_,ho'⟩,?_⟩
  obtain⟨k',rfl⟩:∃k',k=k'+1:=⟨k-1,∅⟩
  obtain⟨t,pe,l⟩:=he A' outer' s' H1 fa c1 (fun _ _ _=>False) (hr'.deeper _)
  have cellK:∀x cc v,X.env.cells.lookup x=some cc->s1.heap.IsCell cc v->s'.heap.IsCell cc v:=fun x cc v hx ⟨oc,ec,dc⟩=>by
   obtain⟨sl,e2⟩:=un.any ec (I1.gI x cc hx) (fun z=>nomatch z)
   exact⟨_,e2,dc⟩
  refine codeAny_mono (Ae (Y:=bE cap Y) (N:=N') (E:=fun _ _ _=>False) (Q:=fun _ H'=>Q .non H') hkind hco hgen hcell hr' e0' ho' hc1 (hbind pm ctv c1) ⟨fun x cc hx=>?_,fun x cc hx=>I1.gI x cc (hcl x cc hx),fun x y cc h1 h2=>I1.ok.inj x y cc (hcl x cc h1) (hcl y cc h2),hhas,fun i x v h1 h2 h3=>?_,?_⟩ pe (l _ H1 (bE cap ρ) U _ _ ⟨mu,S1.rho.cap⟩ h fun d u o0 H' e' S' r' q'=>kk (.v .none) .non o0 H' (ex.trans e') ⟨S'.mu,S1.rho.ext mu e'⟩ Rp.none q')) fun r s2 hr2=>?_
  ·obtain⟨v,hv⟩:=I1.cell x cc (hcl x cc hx)
   exact⟨v,cellK x cc v (hcl x cc hx) hv⟩
  ·obtain⟨j,j1,j2⟩:=kz h2
   obtain⟨hN,hv,hnl,hfree⟩:=hcap i j x j1 h1
   obtain⟨m,_,hll⟩:=I1.loc
   obtain⟨u,ru,lk⟩:=hll j x v hN j2 hv
   obtain⟨a,ha⟩:=hhas x (.inr hfree)
   rcases lk with ⟨z,_⟩|⟨_,a',z1,z2⟩
   ·exact absurd z hnl
   ·obtain rfl:a'=a:=by have qq:=hcl x a ha;rw[z1] at qq;exact Option.some.inj qq
    exact⟨u,a',ru,hfree,ha,cellK x a' _ z1 z2⟩
  ·unfold bE;rw[length_map];exact hlen
  ·cases r with
   |ok fl=>
    cases fl with
    |ret u=>exact hr2
    |next=>exact hr2
    |brk=>exact hr2
    |cont=>exact hr2
   |error e=>
    obtain⟨O,ea,cls,H',_,_,_,_,_,_,_,_,z⟩:=hr2
    exact z.elim
 ·cases r with
  |error e=>exact hq'.elim
  |ok fl=>
   cases fl with
   |ret u=>exact I1.after hq'
   |next=>exact hq'.elim
   |brk=>exact hq'.elim
   |cont=>exact hq'.elim
noncomputable def L7:R2:=fun x y H Q=>y = .non/\((x = .non/\Q (.bl true) H)\/(∃i,x = .str i/\Q (.bl false) H))
theorem HC{X:Cx}:OpR X (compareOp .Is) L7:=by
 intro pins s Y H x y v u Q I rx ry h
 obtain⟨rfl,⟨rfl,q⟩|⟨i,rfl,q⟩⟩:=h
 ·cases rx;cases ry
  exact wpAny_is_plain rfl ⟨.bl true,H,I,rfl,q⟩
 ·obtain⟨t,rfl⟩:=rx
  cases ry
  exact wpAny_is_plain rfl ⟨.bl false,H,I,rfl,q⟩
def AL:D->D->Mu->DK->Prop:=fun x y U Q=>match x,y with
 |.v .none,.v .none=>Q (.v (.bool true)) U
 |.v (.str _),.v .none=>Q (.v (.bool false)) U
 |_,_=>False
theorem J5{K:PySem.W.Frag}:d8 K L7 AL:=by
 intro x y ux uy H U Qd Q ok rx ry h k
 unfold AL at h
 split at h
 ·cases rx;cases ry;exact⟨rfl,.inl ⟨rfl,k (.v _) _ U H .refl ok (Rp.bool _) h⟩⟩
 ·cases rx;cases ry;exact⟨rfl,.inr ⟨_,rfl,k (.v _) _ U H .refl ok (Rp.bool _) h⟩⟩
 ·exact h.elim
theorem JP{U:Mu}{Q:DK}:AL (.v .none) (.v .none) U Q=Q (.v (.bool true)) U:=propext Iff.rfl
theorem K6{U:Mu}{Q:DK}{x:Str}:AL (.v (.str x)) (.v .none) U Q=Q (.v (.bool false)) U:=propext Iff.rfl
noncomputable def FX:DSp:=fun _ _ _=>False
theorem IH{P:Program}{w:World}{K:PySem.W.Frag}{mg:Str->Option Value}{base:Heap}{k:Nat}{f:Addr}{fd:FuncData}{ps:List Str}:bw P w K mg base CX0 k f fd ps (spD K FX):=
 ⟨fun vs H Q E h=>by obtain⟨ds,U,Qd,_,r,z,_⟩:=h;exact z.elim,fun A outer s H args us vs Q E hr e0 hb hv h=>by obtain⟨ds,U,Qd,_,r,z,_⟩:=h;exact z.elim⟩
theorem Lp{cap:List (Option Nat)}{te:DTE}{ρ:Rho}{U:Mu}{Qd:DK}:Fi cap te ρ U Qd=te (bE cap ρ) U fun _ Z=>Qd (.v .none) Z:=rfl
open PySem PySem.Spec PyProof.Rows NM
theorem IP{α:Type}{P:α->Prop}:∀x∈([]:List α),P x:=fun _ h=>nomatch h
theorem cN{α:Type}{P:α->Prop}{a:α}{l:List α}(h:P a)(t:∀x∈l,P x):∀x∈a::l,P x:=List.forall_mem_cons.mpr ⟨h,t⟩
structure Tg{α:Sort u}(x:α):Type where
def hd{α:Sort u}(x:α)(_:Tg x):α:=x
section
variable {ρ:Rho}{U:Mu}{Q:DK}{QT:Bool->Mu->Prop}{Dd:kc}{ta tb tc:DTE}{t u:DTT}{tA:DTA}{s1 s2:DTS}{d:D}{A B:Prop}{p:Tg A}{q:Tg B}
theorem LU{w:Tg Q}:hd Q w d U=Q d U:=propext Iff.rfl
theorem l_T{i:Decidable True}:(if True then hd A p else hd B q)=A:=if_pos trivial
theorem l_F{i:Decidable False}:(if False then hd A p else hd B q)=B:=if_neg id
theorem l_t{i:Decidable (true=true)}:(if true=true then hd A p else hd B q)=A:=if_pos rfl
theorem l_f{i:Decidable (false=true)}:(if false=true then hd A p else hd B q)=B:=if_neg Bool.false_ne_true
theorem n9{c:Prop}{i:Decidable c}(h:c):(if c then hd A p else hd B q)=A:=if_pos h
theorem j7{c:Prop}{i:Decidable c}(h:¬ c):(if c then hd A p else hd B q)=B:=if_neg h
theorem IU{c:Prop}{i:Decidable c}(h:c->A)(g:¬ c->B):if c then hd A p else hd B q:=by split<;>rename_i z<;>first|exact h z|exact g z
theorem Mr{i j:Int}{k:Decidable True}:(if True then i else j)=i:=if_pos trivial
theorem LY{i j:Int}{k:Decidable False}:(if False then i else j)=j:=if_neg id
theorem LS{r}:dOp r ta tb ρ U Q=ta ρ U fun x ad=>tb ρ ad fun y al=>r x y al (hd Q .mk):=propext Iff.rfl
theorem IT{g:DTG}:bt ta g Dd ρ U=ta ρ U (hd (fun d ad=>g d ρ ad Dd.nx) .mk):=propext Iff.rfl
theorem L6{rd}:dCB rd tA ρ U Q=tA ρ U fun ds ad=>rd ds ad (hd Q .mk):=propext Iff.rfl
theorem EU{dsp:DSp}:aK dsp tA ρ U Q=tA ρ U fun ds ad=>dsp ds ad (hd Q .mk):=propext Iff.rfl
theorem EC:kb t u ρ U QT=t ρ U fun c ad=>if c=true then hd (u ρ ad QT) .mk else hd (QT false ad) .mk:=propext Iff.rfl
theorem II:km t u ρ U QT=t ρ U fun c ad=>if c=true then hd (QT true ad) .mk else hd (u ρ ad QT) .mk:=propext Iff.rfl
theorem ET:jO ta tb ρ U Q=ta ρ U fun x ad=>match x with|.v (.bool c)=>if c=true then hd (tb ρ ad Q) .mk else hd (Q (.v (.bool false)) ad) .mk|_=>False:=propext Iff.rfl
theorem LR:dIf t ta tb ρ U Q=t ρ U fun c ad=>if c=true then hd (ta ρ ad Q) .mk else hd (tb ρ ad Q) .mk:=propext Iff.rfl
theorem IA:bN t s1 s2 Dd ρ U=t ρ U fun b ad=>if b=true then hd (s1 Dd ρ ad) .mk else hd (s2 Dd ρ ad) .mk:=propext Iff.rfl
theorem CP{r r'}:ot r r' ta tb tc ρ U Q=ta ρ U fun x ad=>tb ρ ad fun y al=>r x y al fun z bd=>match z with
 |.v (.bool k)=>if k=true then hd (tc ρ bd fun w bn=>r' y w bn Q) .mk else hd (Q (.v (.bool false)) bd) .mk
 |_=>False:=propext Iff.rfl
end
def txt(l:List Nat):Str:=⟨l.toArray⟩
theorem bf(l:List Nat):(txt l).length=l.length:=size_toArray
theorem Av(l:List Nat):(txt l).cps.toList=l:=rfl
theorem bL(l r:List Nat):txt l++txt r=txt (l++r):=by
 show (⟨l.toArray++r.toArray⟩:Str)=_
 unfold txt
 rw[List.append_toArray]
theorem sZ{l r:List Nat}(h:txt l=txt r):l=r:=by
 have:=congrArg (fun z:Str=>z.cps.toList) h
 exact this
def dg(n:Nat):List Nat:=(Nat.toDigits 10 n).map Char.toNat
def whl(i:Int):List Nat:=if i<0 then 45::dg i.natAbs else dg i.natAbs
theorem Gn(n:Nat):NumText.digitsVal (dg n)=n:=PySem.W.KIN.val_back n
theorem zO:∀(f n:Nat) (r:List Char),(∀c∈r,48<=c.toNat/\c.toNat<=57)->∀c∈Nat.toDigitsCore 10 f n r,48<=c.toNat/\c.toNat<=57
 |0,n,r,h=>by simpa [Nat.toDigitsCore] using h
 |f+1,n,r,h=>by
  have hd:48<=(Nat.digitChar (n % 10)).toNat/\(Nat.digitChar (n % 10)).toNat<=57:=by
   have:n % 10<10:=Nat.mod_lt _ ⋯
   generalize n % 10=k at this
   match k,this with
   |0,_=>decide
   |1,_=>decide
   |2,_=>decide
   |3,_=>decide
   |4,_=>decide
   |5,_=>decide
   |6,_=>decide
   |7,_=>decide
   |8,_=>decide
   |9,_=>decide
  have h':∀c∈Nat.digitChar (n % 10)::r,48<=c.toNat/\c.toNat<=57:=fun c hc=>by
   rcases List.mem_cons.mp hc with z|z
   ·rw[z];exact hd
   ·exact h c z
  intro c hc
  simp only[Nat.toDigitsCore] at hc
  split at hc
  ·exact h' c hc
  ·exact zO f _ _ h' c hc
theorem qL(n:Nat):NumText.AllDigits (dg n):=fun c hc=>by
 obtain⟨k,hk,rfl⟩:=List.mem_map.mp hc
 exact zO _ _ [] (fun _ z=>nomatch z) k hk
theorem Co:∀(f n:Nat) (r:List Char),r≠[]->Nat.toDigitsCore 10 f n r≠[]
 |0,n,r,h=>by simpa [Nat.toDigitsCore] using h
 |f+1,n,r,h=>by
  simp only[Nat.toDigitsCore]
  split
  ·exact List.cons_ne_nil _ _
  ·exact Co f _ _ (List.cons_ne_nil _ _)
theorem Dr(n:Nat):dg n≠[]:=fun h=>by
 have h2:Nat.toDigits 10 n=[]:=List.map_eq_nil_iff.mp h
 unfold Nat.toDigits at h2
 simp only[Nat.toDigitsCore] at h2
 split at h2
 ·cases h2
 ·exact Co _ _ _ (List.cons_ne_nil _ _) h2
theorem Ao:∀(f n k:Nat) (r:List Char),n<10 ^ (k+1)->(Nat.toDigitsCore 10 f n r).length<=k+1+r.length
 |0,n,k,r,h=>by simp[Nat.toDigitsCore]
 |f+1,n,k,r,h=>by
  simp only[Nat.toDigitsCore]
  split
  ·rw[length_cons];omega
  ·rename_i hz
   cases k with
   |zero=>exact absurd (Nat.div_eq_of_lt (by simpa using h)) hz
   |succ k=>
    have:=Ao f (n / 10) k (Nat.digitChar (n % 10)::r) (by rw[Nat.div_lt_iff_lt_mul ⋯];rw[Nat.pow_succ] at h;exact h)
    rw[length_cons] at this
    omega
theorem qY{n k:Nat}(h:n<10 ^ (k+1)):(dg n).length<=k+1:=by
 unfold dg
 rw[length_map]
 exact Ao _ _ k [] h
theorem sS(n:Nat):Str.ofString (toString ((n:Nat):Int))=txt (dg n):=text_ofNat n
theorem tos(i:Int):Str.ofString (toString i)=txt (whl i):=by
 unfold whl
 cases i with
 |ofNat n=>rw[if_neg (by show ¬ ((n:Nat):Int)<0;omega)];exact text_ofNat n
 |negSucc n=>
  rw[if_pos ∅]
  rw[PySem.Str.ofString_eq_toList]
  unfold txt
  have e:(toString (Int.negSucc n)).toList = '-'::(Nat.toDigits 10 (n+1)):=by
   show ("-"++Nat.repr (n+1)).toList=_
   rw[String.toList_append]
   unfold Nat.repr
   show '-'::(String.ofList (Nat.toDigits 10 (n+1))).toList=_
   rw[show (String.ofList (Nat.toDigits 10 (n+1))).toList=Nat.toDigits 10 (n+1) from String.toList_ofList ..]
  rw[e]
  rfl
theorem lit(s:String):Str.ofString s=txt (s.toList.map Char.toNat):=PySem.Str.ofString_eq_toList s
theorem B7{l:List Nat}{i j:Int}(h:0<=i/\i<=j/\j<=(l.length:Nat)):Txt.slice (txt l) (some i) (some j)=txt ((l.drop i.toNat).take (j-i).toNat):=by
 have:=slice_closes (x:=txt l) h
 exact eq_of_beq this
theorem IW(l:List Nat)(c:Nat):inS (txt [c]) (txt l)=decide (c∈l):=StrLaws.found_one (txt l) c
theorem Lm{l:List Nat}(h:NumText.AllDigits l)(hn:l≠[])(hl:l.length<=640):intText? (txt l)=some ((NumText.digitsVal l:Nat):Int):=intText_digits (x:=txt l) h hn (by rw[bf];omega)
theorem tF(l r:List Nat):PyData.eqv (.str (txt l)) (.str (txt r))=decide (l=r):=by
 have:PyData.eqv (.str (txt l)) (.str (txt r))=(txt l==txt r):=by simp[PyData.eqv]
 rw[this]
 by_cases h:l=r
 ·rw[h,decide_eq_true rfl];exact beq_self_eq_true _
 ·rw[decide_eq_false h]
  exact beq_eq_false_iff_ne.mpr fun z=>h (sZ z)
noncomputable def Asc(l:List Nat):Prop:=∀c∈l,c<128
theorem oz{l:List Nat}(h:Asc l):SeqAt.shaped (.str (txt l))=true:=by
 unfold SeqAt.shaped
 simp only[PyData.canLay0,PyData.depth]
 have:PyData.strOk (txt l)=true:=by
  unfold PyData.strOk
  rw[Array.all_eq_true']
  intro c hc
  have:=h c (by simpa [txt] using hc)
  exact decide_eq_true ∅
 rw[this]
 rfl
theorem qT(n:Nat):Asc (dg n):=fun c hc=>by have:=qL n c hc;omega
theorem CV(i:Int):Asc (whl i):=fun c hc=>by
 unfold whl at hc
 split at hc
 ·rcases List.mem_cons.mp hc with z|z
  ·omega
  ·exact qT _ c z
 ·exact qT _ c hc
def bj(c:Nat):List (List Nat)->List Nat
 |[]=>[]
 |[l]=>l
 |l::r=>l++c::bj c r
theorem ej(c:Nat)(l m:List Nat)(r:List (List Nat)):bj c (l::m::r)=l++c::bj c (m::r):=rfl
theorem wI(c:Nat):∀(r:List (List Nat)) (l:List Nat),List.foldl (fun (acc:Array Nat) (p:Str)=>acc++(txt [c]).cps++p.cps) l.toArray (r.map txt)=(bj c (l::r)).toArray
 |[],l=>rfl
 |m::r,l=>by
  rw[map_cons,foldl_cons]
  have e:l.toArray++(txt [c]).cps++(txt m).cps=(l++c::m).toArray:=by
   unfold txt
   simp
  rw[e,wI c r (l++c::m)]
  congr 1
  cases r with
  |nil=>rfl
  |cons m' r'=>rw[ej,ej,ej];simp
theorem iO(c:Nat)(ls:List (List Nat)):mS (txt [c]) (ls.map txt)=txt (bj c ls):=by
 unfold mS
 split
 ·rename_i p hp
  cases ls with
  |nil=>cases hp
  |cons l r=>
   cases r with
   |nil=>cases hp;rfl
   |cons _ _=>cases hp
 ·cases ls with
  |nil=>rfl
  |cons l r=>
   show (⟨_⟩:Str)=_
   unfold txt
   congr 1
   exact wI c r l
theorem kT(ls:List (List Nat)):ku (ls.map fun l=>PyData.str (txt l))=some (ls.map txt):=by
 induction ls with
 |nil=>rfl
 |cons l r ih=>rw[map_cons,ku,ih];rfl
theorem nH(c:Nat):∀ls:List (List Nat),(bj c ls).length+1=(ls.map (·.length)).sum+ls.length+(if ls=[] then 1 else 0)
 |[]=>rfl
 |[l]=>by simp[bj]
 |l::m::r=>by
  rw[ej,length_append,length_cons]
  have:=nH c (m::r)
  rw[if_neg (List.cons_ne_nil _ _)] at this ⊢
  rw[map_cons,sum_cons,length_cons]
  omega
inductive PX(B:Int):Nat->PyData->List Nat->Prop
 |kind (i:Nat):i<3->PX B 1 (.tuple [.str "kind",.int (i:Nat)]) [97+i]
 |turn {d:Nat} {t:PyData} {l:List Nat}:PX B d t l->PX B (d+1) (.tuple [.str "turn",t]) (126::l)
 |grid {d:Nat} {t:PyData} {l:List Nat} (u v:Int):1<=u->1<=v->u<B->v<B->PX B d t l->PX B (d+1) (.tuple [.str "grid",.int u,.int v,t]) (whl u++120::(whl v++91::(l++[93])))
 |upon {d:Nat} (es:List (Nat×PyData×List Nat)):2<=es.length->es.length<=8->(∀e∈es,e.1<=d)->(∀e∈es,PX B e.1 e.2.1 e.2.2)->PX B (d+1) (.tuple [.str "upon",.tuple (es.map (·.2.1))]) (40::(bj 47 (es.map (·.2.2))++[41]))
 |beside {d:Nat} (es:List (Nat×PyData×List Nat)):2<=es.length->es.length<=8->(∀e∈es,e.1<=d)->(∀e∈es,PX B e.1 e.2.1 e.2.2)->PX B (d+1) (.tuple [.str "beside",.tuple (es.map (·.2.1))]) (40::(bj 124 (es.map (·.2.2))++[41]))
theorem PX.mono{B B':Int}(hB:B<=B'){d:Nat}{t:PyData}{l:List Nat}(h:PX B d t l):PX B' d t l:=by
 induction h with
 |kind i hi=>exact .kind i hi
 |turn _ ih=>exact .turn ih
 |grid u v h1 h2 h3 h4 _ ih=>exact .grid u v h1 h2 (Int.lt_of_lt_of_le h3 hB) (Int.lt_of_lt_of_le h4 hB) ih
 |upon es h1 h2 h3 _ ih=>exact .upon es h1 h2 h3 ih
 |beside es h1 h2 h3 _ ih=>exact .beside es h1 h2 h3 ih
theorem nq(c:Nat):∀(i:Nat) (ls:List (List Nat)),1<=i->i<ls.length->bj c ls=bj c (ls.take i)++c::bj c (ls.drop i)
 |1,[l],_,h=>by simp at h
 |1,l::m::r,_,_=>rfl
 |i+2,[l],_,h=>by simp at h
 |i+2,l::m::r,_,h=>by
  have:=nq c (i+1) (m::r) ∅ (by simpa using h)
  rw[ej,this]
  show _=bj c (l::List.take (i+1) (m::r))++_
  rw[show List.take (i+1) (m::r)=m::List.take i r from rfl,ej]
  simp
theorem rB{c:Nat}(hc:c<128):∀{ls:List (List Nat)},(∀l∈ls,Asc l)->Asc (bj c ls)
 |[],_=>fun _ h=>nomatch h
 |[l],h=>h l (by simp)
 |l::m::r,h=>fun x hx=>by
  rw[ej] at hx
  rcases List.mem_append.mp hx with z|z
  ·exact h l (by simp) x z
  ·rcases List.mem_cons.mp z with z|z
   ·rw[z];exact hc
   ·exact rB hc (fun l' hl'=>h l' (mem_cons_of_mem _ hl')) x z
theorem PX.asc{B:Int}{d:Nat}{t:PyData}{l:List Nat}(h:PX B d t l):Asc l:=by
 induction h with
 |kind i hi=>intro x hx;rw[List.mem_singleton.mp hx];omega
 |turn _ ih=>
  intro x hx
  rcases List.mem_cons.mp hx with z|z
  ·omega
  ·exact ih x z
 |grid u v h1 h2 h3 h4 _ ih=>
  intro x hx
  rcases List.mem_append.mp hx with z|z
  ·exact CV u x z
  ·rcases List.mem_cons.mp z with z|z
   ·omega
   ·rcases List.mem_append.mp z with z|z
    ·exact CV v x z
    ·rcases List.mem_cons.mp z with z|z
     ·omega
     ·rcases List.mem_append.mp z with z|z
      ·exact ih x z
      ·rw[List.mem_singleton.mp z];omega
 |upon es h1 h2 h3 _ ih=>
  intro x hx
  rcases List.mem_cons.mp hx with z|z
  ·omega
  ·rcases List.mem_append.mp z with z|z
   ·exact rB ⋯ (fun l hl=>by obtain⟨e,he,rfl⟩:=List.mem_map.mp hl;exact ih e he) x z
   ·rw[List.mem_singleton.mp z];omega
 |beside es h1 h2 h3 _ ih=>
  intro x hx
  rcases List.mem_cons.mp hx with z|z
  ·omega
  ·rcases List.mem_append.mp z with z|z
   ·exact rB ⋯ (fun l hl=>by obtain⟨e,he,rfl⟩:=List.mem_map.mp hl;exact ih e he) x z
   ·rw[List.mem_singleton.mp z];omega
theorem nM{a b c f g h k l m n n11}{o:Rho}:ah 11 (a::b::c::f::g::h::k::l::m::n::n11::some d::o) U Q=Q d U:=propext Iff.rfl
theorem yC{a b c f g h k l m n n11 n12}{o:Rho}:ah 12 (a::b::c::f::g::h::k::l::m::n::n11::n12::some d::o) U Q=Q d U:=propext Iff.rfl
theorem xm{a b c f g h k l m n n11 n12 n13}{o:Rho}:ah 13 (a::b::c::f::g::h::k::l::m::n::n11::n12::n13::some d::o) U Q=Q d U:=propext Iff.rfl
theorem xw{a b c f g h k l m n n11 n12 n13 n14}{o:Rho}:ah 14 (a::b::c::f::g::h::k::l::m::n::n11::n12::n13::n14::some d::o) U Q=Q d U:=propext Iff.rfl
theorem Et{to:DTE}{ρ:Rho}{U:Mu}{Q:DK}:Kd to ρ U Q=to ρ U fun x ad=>match x with
 |.m l=>(match ad l with
  |some xs=>∃d,xs[xs.length-1]? = some d/\Q (.v d) (aF ad l xs.dropLast)
  |none=>False)
 |_=>False:=propext Iff.rfl
theorem CG{to te:DTE}{ρ:Rho}{U:Mu}{Q:DK}:qJ to te ρ U Q=to ρ U fun x ad=>match x with
 |.m l=>te ρ ad fun y al=>(match y,al l with
  |.v (.int i),some xs=>(0<=i/\i<1000)/\∃d,xs[i.toNat]? = some d/\Q (.v d) (aF al l (xs.eraseIdx i.toNat))
  |_,_=>False)
 |_=>False:=propext Iff.rfl
theorem Cc{to:DTE}{ρ:Rho}{U:Mu}{Q:Bool->Mu->Prop}:Ff to ρ U Q=to ρ U fun x ad=>match x with
 |.m l=>(match ad l with|some xs=>Q (!xs.isEmpty) ad|none=>False)
 |_=>False:=propext Iff.rfl
theorem Lx{i:Nat}{te:DTE}{Dd:kc}{ρ:Rho}{U:Mu}:Ki i te Dd ρ U = ∃a:Int,ρ[i]? = some (some (.v (.int a)))/\te ρ U fun y ad=>match y with
 |.v (.int b)=>Dd.nx (ρ.set i (some (.v (.int (a+b))))) ad
 |_=>False:=propext Iff.rfl
theorem FT{ys:List PyData}{U:Mu}{Q:DK}:AG [.v (.list ys)] U Q=(match bZ ys with|some ns=>0<ns.length/\∀M∈ns,(∀a∈ns,M<=a)->Q (.v (.int M)) U|none=>False):=propext Iff.rfl
theorem EF{ys:List PyData}{U:Mu}{Q:DK}:zg [.v (.list ys)] U Q=(match bZ ys with|some ns=>0<ns.length/\∀M∈ns,(∀a∈ns,a<=M)->Q (.v (.int M)) U|none=>False):=propext Iff.rfl
def aL(s:Str):PyData->Bool
 |.str x=>decide (x=s)
 |_=>false
theorem Iw(x:PyData)(s:Str):PyData.eqv x (.str s)=aL s x:=by
 cases x<;>first|rfl|(simp[PyData.eqv,aL];done)|(simp[PyData.eqv,aL];rfl)
def intD:PyData->Int
 |.int i=>i
 |_=>0
structure Sh(t:PyData):Prop where
 lay:t.canLay0=true
 dep:t.depth<=60
theorem Sh.shaped{t:PyData}(h:Sh t):SeqAt.shaped t=true:=by
 unfold SeqAt.shaped
 rw[h.lay,Bool.true_and,decide_eq_true_eq]
 have:=h.dep;omega
theorem yv:∀{xs:List PyData},PyData.canLayAll0 xs=true->∀x∈xs,x.canLay0=true
 |[],_,_,h=>nomatch h
 |y::r,e,x,h=>by
  rw[PyData.canLayAll0,and_eq_true] at e
  rcases List.mem_cons.mp h with z|z
  ·rw[z];exact e.1
  ·exact yv e.2 x z
theorem qC:∀{xs:List PyData} {n:Nat},PyData.depthAll xs<=n->∀x∈xs,x.depth<=n
 |[],_,_,_,h=>nomatch h
 |y::r,n,e,x,h=>by
  rw[PyData.depthAll] at e
  rcases List.mem_cons.mp h with z|z
  ·rw[z];omega
  ·exact qC ∅ x z
theorem Sh.mem{xs:List PyData}(h:Sh (.tuple xs)):∀x∈xs,Sh x:=fun x hx=>⟨yv (by have:=h.lay;rw[PyData.canLay0] at this;exact this) x hx,by
 have:=h.dep
 rw[PyData.depth] at this
 exact qC (n:=60) ∅ x hx⟩
theorem eo{w:PyData}{s:Str}{neg:Bool}{U:Mu}{Q:DK}(hw:SeqAt.shaped w=true)(hs:SeqAt.shaped (.str s)=true):bI neg (.v w) (.v (.str s)) U Q=Q (.v (.bool (neg ^^ aL s w))) U:=by
 rw[nV,Iw]
 exact propext ⟨fun h=>h.2.2,fun h=>⟨hw,hs,h⟩⟩
theorem Bc:SeqAt.shaped (.str "kind")=true:=nofun
theorem B8:SeqAt.shaped (.str "turn")=true:=nofun
theorem vg:SeqAt.shaped (.str "grid")=true:=nofun
theorem Lc:SeqAt.shaped (.str "upon")=true:=nofun
theorem Jq:SeqAt.shaped (.str "beside")=true:=nofun
def cV(m:Int)(w x:PyData):Option (List PyData):=
 if aL "kind" w=true then (if (isWhole x&&(decide (0<=intD x)&&decide (intD x<m)))=true then some [] else none)
 else if aL "turn" w=true then some [x]
 else if (aL "upon" w || aL "beside" w)=true then (match x with|.tuple xs=>if 2<=xs.length/\xs.length<=8 then some xs else none|_=>none)
 else none
def mi(w u v x:PyData):Option (List PyData):=
 if aL "grid" w=true then (if ((isWhole u&&decide (1<=intD u))&&(isWhole v&&decide (1<=intD v)))=true then some [x] else none) else none
def iC(m:Int):PyData->Option (List PyData)
 |.tuple [w,x]=>cV m w x
 |.tuple [w,u,v,x]=>mi w u v x
 |_=>none
def cnt(m:Int):Nat->PyData->Nat
 |0,_=>0
 |n+1,t=>match iC m t with
  |none=>0
  |some ps=>if (ps.map (cnt m n)).all (fun c=>decide (0<c))=true then 1+(ps.map (cnt m n)).sum else 0
def okN(c:Nat):Bool:=decide (0<c)&&decide (c<=60)
noncomputable def o7:DSp:=fun ds U Q=>∃t,ds=[.v t]/\Q (.v (.bool (isWhole t&&decide (1<=intD t)))) U
theorem AV{U:Mu}{Q:DK}{ds:List D}(h:o7 ds U Q):ds.length=1:=by obtain⟨_,rfl,_⟩:=h;rfl
noncomputable def yz:DSp:=fun ds U Q=>∃(t:PyData) (m:Int),ds=[.v t,.v (.int m)]/\Sh t/\Q (.v (.bool (iC m t).isSome)) U
theorem BY{U:Mu}{Q:DK}{ds:List D}(h:yz ds U Q):ds.length=2:=by obtain⟨_,_,rfl,_⟩:=h;rfl
noncomputable def sM:DSp:=fun ds U Q=>∃(t:PyData) (m:Int) (ps:List PyData),ds=[.v t]/\Sh t/\iC m t=some ps/\Q (.v (.list ps)) U
theorem zm{U:Mu}{Q:DK}{ds:List D}(h:sM ds U Q):ds.length=1:=by obtain⟨_,_,_,rfl,_⟩:=h;rfl
noncomputable def jo:DSp:=fun ds U Q=>∃(t:PyData) (m:Int),ds=[.v t,.v (.int m)]/\Sh t/\∀Z,(∀b ds,U b=some ds->Z b=some ds)->Q (.v (.bool (okN (cnt m 12 t)))) Z
theorem vF{U:Mu}{Q:DK}{ds:List D}(h:jo ds U Q):ds.length=2:=by obtain⟨_,_,rfl,_⟩:=h;rfl
theorem Gu{x:Str}:isT "str" (.str x)=true:=rfl
theorem Fn{xs:List PyData}:isT "tuple" (.tuple xs)=true:=rfl
theorem KS{u:Int}:isWhole (.int u)=true:=rfl
theorem Fq:decide (((2:Nat):Int)<2)=false:=rfl
theorem EV:decide (((0:Nat):Int)<2)=true:=rfl
theorem E8:decide (((1:Nat):Int)<2)=true:=rfl
theorem ES:decide (((3:Nat):Int)<2)=false:=rfl
theorem EX:decide (((4:Nat):Int)<2)=false:=rfl
theorem KD:decide (((2:Nat):Int)=2)=true:=rfl
theorem J4:decide (((3:Nat):Int)=2)=false:=rfl
theorem K1:decide (((4:Nat):Int)=2)=false:=rfl
theorem Kn:decide (((2:Nat):Int)=4)=false:=rfl
theorem Jc:decide (((3:Nat):Int)=4)=false:=rfl
theorem Ks:decide (((4:Nat):Int)=4)=true:=rfl
theorem E1{n:Nat}:decide (((n+1+1+1+1+1:Nat):Int)<2)=false:=decide_eq_false ∅
theorem KU{n:Nat}:decide (((n+1+1+1+1+1:Nat):Int)=2)=false:=decide_eq_false ∅
theorem Jl{n:Nat}:decide (((n+1+1+1+1+1:Nat):Int)=4)=false:=decide_eq_false ∅
theorem Bt{m:Nat}:decide (((m+1:Nat):Int)=0)=false:=decide_eq_false ∅
theorem Ll{m:Nat}:decide ((0:Int)<=(m:Int))=true:=decide_eq_true ∅
theorem MI:aL "upon" (.str "kind")=false:=by decide
theorem LA:aL "turn" (.str "kind")=false:=by decide
theorem Lu:aL "turn" (.str "upon")=false:=by decide
theorem LP:aL "turn" (.str "beside")=false:=by decide
theorem My:aL "turn" (.str "grid")=false:=by decide
theorem JS:aL "turn" (.str "turn")=true:=by decide
theorem LJ:aL "grid" (.str "turn")=false:=by decide
theorem MF:aL "grid" (.str "upon")=false:=by decide
theorem Mf:aL "grid" (.str "beside")=false:=by decide
theorem Ez:aL "grid" (.str "grid")=true:=by decide
theorem Mt:aL "beside" (.str "upon")=false:=by decide
theorem KJ:aL "kind" (.str "turn")=false:=by decide
theorem Ls:aL "kind" (.str "upon")=false:=by decide
theorem ME:aL "kind" (.str "beside")=false:=by decide
theorem Lw:aL "kind" (.str "grid")=false:=by decide
theorem Im:aL "kind" (.str "kind")=true:=by decide
theorem Ky:aL "upon" (.str "upon")=true:=by decide
theorem KY:aL "upon" (.str "beside")=false:=by decide
theorem K4:aL "upon" (.str "turn")=false:=by decide
theorem Ie:aL "upon" (.str "grid")=false:=by decide
theorem JE:aL "beside" (.str "beside")=true:=by decide
theorem Jt:aL "beside" (.str "turn")=false:=by decide
theorem G3:aL "beside" (.str "grid")=false:=by decide
local macro_rules|`(tactic| walk_at "rl")=>mkW "↓eo Bc B8 vg Lc Jq Im LA MI KJ JS K4 Jt LJ Ls Lu MF Ky Mt ME LP Mf KY JE Lw My Ie G3 Ez ↓LU ↓l_t ↓l_f l_T l_F Mr LY ↓GK ↓BM bZ Gu Fn KS Fq EV E8 ES EX KD J4 K1 Kn Jc Ks E1 KU Jl Bt Ll decide_true decide_false Bool.xor_true Bool.true_xor ↓nM ↓yC ↓xm ↓xw ↓Et ↓Cc ↓FT ↓EF ↓ui ↓tU ↓uj ↓qI ↓ye ↓xO ↓yV ↓yb ↓xi ↓yW ↓tD ↓q_c ↓LS ↓q_B ↓HA ↓Cg ↓CJ ↓EC ↓II ↓yi ↓ET ↓yk ↓LR ↓nY ↓kh ↓wB ↓wK ↓yI ↓wy ↓wJ ↓xb ↓Df ↓CL ↓rA ↓yK ↓x9 ↓ue ↓uQ ↓tO ↓ya ↓uL ↓sg ↓CF ↓CZ ↓CQ ↓x5 ↓yS ↓x3 ↓Hs ↓qe ↓xl ↓Ds ↓L6 ↓rJ ↓xS ↓xK ↓ua ↓C0 ↓Ij ↓yo ↓sN ↓Dc ↓Cy ↓iz ↓u7 ↓pj ↓vh ↓xV ↓IT ↓CS ↓yL ↓nX ↓w8 ↓xI ↓IA ↓sR ↓EU ↓Cr ↓Dm ↓CP ↓rj ↓mM ↓sV ↓nh ↓pK ↓oY FV oN mH wG wZ zR bind_none bind_some join_some getElem?_cons_zero List.getElem?_cons_succ aY Gg Bw BQ Cb oh pP rZ rK zC map_cons map_nil List.append List.replicate length_cons length_nil Nat.reduceAdd Nat.reduceSub nil_append cons_append set_cons_zero set_cons_succ map_some Bool.not_true Bool.not_false false_eq_true Bool.true_eq_false Bool.xor_false false_xor"
local macro_rules|`(tactic| walk_at "rt")=>mkW "↓GK ↓BM bZ Gu Fn KS Fq EV E8 ES EX KD J4 K1 Kn Jc Ks E1 KU Jl Bt Ll decide_true decide_false Bool.xor_true Bool.true_xor ↓nM ↓yC ↓xm ↓xw ↓Et ↓CG ↓Cc ↓FT ↓EF ↓ui ↓tU ↓uj ↓qI ↓ye ↓xO ↓yV ↓yb ↓xi ↓yW ↓tD ↓q_c ↓Hx ↓q_B ↓HA ↓Cg ↓CJ ↓yx ↓IS ↓yi ↓EY ↓yk ↓nY ↓kh ↓wB ↓wK ↓yI ↓wy ↓wJ ↓xb ↓Df ↓CL ↓rA ↓yK ↓x9 ↓ue ↓uQ ↓tO ↓ya ↓uL ↓sg ↓CF ↓CZ ↓CQ ↓x5 ↓yS ↓x3 ↓Hs ↓qe ↓xl ↓Ds ↓GL ↓rJ ↓xS ↓xK ↓ua ↓C0 ↓Ij ↓yo ↓sN ↓Dc ↓Cy ↓iz ↓u7 ↓pj ↓vh ↓xV ↓Dk ↓CS ↓yL ↓nX ↓w8 ↓xI ↓CA ↓sR ↓B9 ↓Cr ↓Dm ↓CC ↓rj ↓mM ↓sV ↓nh ↓pK ↓oY FV ↓xp ↓lF oN mH wG wZ zR bind_none bind_some join_some getElem?_cons_zero List.getElem?_cons_succ aY Gg Bw BQ Cb oh pP rZ rK zC List.map List.append List.replicate length_cons length_nil Nat.reduceAdd Nat.reduceSub nil_append cons_append set_cons_zero set_cons_succ map_some ↓reduceIte Bool.not_true Bool.not_false false_eq_true Bool.true_eq_false Bool.xor_false false_xor"
noncomputable def ng:DTS:=
 (bG (jO (aK jm (ae (ah 0) aj)) (dOp rGe (ah 0) (dC (.int 1)))))
noncomputable def mT:DTS:=
 (aM (bN (km (jP (dB (vi "tuple" (ah 0)))) (dB (dOp rLt (dCB cC (ae (ah 0) aj)) (dC (.int 2))))) (bG (dC (.bool false))) br)
 (aM (bt (dOp bg (ah 0) (dC (.int 0))) (ao 2))
 (aM (bN (dB (dOp (bI false) (ah 2) (dC (.str "grid")))) (bG (jO (dOp (bI false) (dCB cC (ae (ah 0) aj)) (dC (.int 4))) (jO (aK o7 (ae (dOp bg (ah 0) (dC (.int 1))) aj)) (aK o7 (ae (dOp bg (ah 0) (dC (.int 2))) aj))))) br)
 (aM (bN (dB (dOp (bI true) (dCB cC (ae (ah 0) aj)) (dC (.int 2)))) (bG (dC (.bool false))) br)
 (aM (bN (dB (dOp (bI false) (ah 2) (dC (.str "kind")))) (bG (jO (aK jm (ae (dOp bg (ah 0) (dC (.int 1))) aj)) (jO (dOp rGe (dOp bg (ah 0) (dC (.int 1))) (dC (.int 0))) (dOp rLt (dOp bg (ah 0) (dC (.int 1))) (ah 1))))) br)
 (aM (bN (km (dB (dOp (bI false) (ah 2) (dC (.str "upon")))) (dB (dOp (bI false) (ah 2) (dC (.str "beside"))))) (bG (jO (vi "tuple" (dOp bg (ah 0) (dC (.int 1)))) (jO (dOp rGe (dCB cC (ae (dOp bg (ah 0) (dC (.int 1))) aj)) (dC (.int 2))) (dOp rLe (dCB cC (ae (dOp bg (ah 0) (dC (.int 1))) aj)) (dC (.int 8)))))) br)
 (bG (dOp (bI false) (ah 2) (dC (.str "turn"))))))))))
noncomputable def nc:DTS:=
 (aM (bt (dOp bg (ah 0) (dC (.int 0))) (ao 1))
 (aM (bN (dB (dOp (bI false) (ah 1) (dC (.str "kind")))) (bG (gC aj)) br)
 (aM (bN (km (dB (dOp (bI false) (ah 1) (dC (.str "upon")))) (dB (dOp (bI false) (ah 1) (dC (.str "beside"))))) (bG (dCB oH (ae (dOp bg (ah 0) (dC (.int 1))) aj))) br)
 (bG (gC (ae (dOp bg (ah 0) (Am (dC (.int 1)))) aj))))))
noncomputable def oF:DTS:=
 (aM (bt (tG (ae (bb (ae (ah 0) (ae (dC (.int 1)) aj))) aj)) (ao 2))
 (aM (bt (dC (.int 0)) (ao 3))
 (aM (uk (Ff (ah 2)) (aM (bt (Kd (ah 2)) (eD 2 (bc (ao 4) (bc (ao 5) fg))))
 (aM (Ki 3 (dC (.int 1)))
 (aM (bN (km (dB (dOp rGt (ah 3) (dC (.int 60)))) (km (dB (dOp rGt (ah 5) (dC (.int 12)))) (jP (dB (aK yz (ae (ah 4) (ae (ah 1) aj))))))) (bG (dC (.bool false))) br)
 (Bb (iV (aK sM (ae (ah 4) aj))) (ao 6) (mK (BD (ah 2) (bb (ae (ah 6) (ae (dJ (ah 5) (dC (.int 1))) aj))))))))))
 (bG (dC (.bool true))))))
section
variable {U:Mu}{Qd:DK}{ds:List D}
theorem lS{t:PyData}(h:isWhole t=true):∃i,t = .int i:=by
 cases t<;>first|exact⟨_,rfl⟩|(exfalso;exact Bool.false_ne_true h)
theorem zj(h:o7 ds U Qd):ng ‹Qd› (aY [""] ds) U:=by
 obtain⟨t,rfl,q⟩:=h
 unfold ng
 walk_at "rt"
 refine⟨t,rfl,?_⟩
 walk_at "rt"
 cases e:isWhole t with
 |true=>
  obtain⟨i,rfl⟩:=lS e
  walk_at "rt"
  exact q
 |false=>
  rw[e] at q
  walk_at "rt"
  exact q
theorem k9{s:Str}{w:PyData}(h:aL s w=true):w = .str s:=by
 cases w<;>first|(exfalso;exact Bool.false_ne_true h)|(rename_i x;have:x=s:=of_decide_eq_true h;rw[this])
theorem Hw{m:Int}{x:PyData}:cV m (.str "grid") x=none:=by
 unfold cV
 rw[if_neg ⋯,if_neg ⋯,if_neg ⋯]
def rP:PyData->Option (List PyData)
 |.tuple xs=>if 2<=xs.length/\xs.length<=8 then some xs else none
 |_=>none
theorem CI{m:Int}{x:PyData}:cV m (.str "upon") x=rP x:=by
 unfold cV
 rw[if_neg ⋯,if_neg ⋯,if_pos ⋯]
 unfold rP
 cases x<;>rfl
theorem wD{m:Int}{x:PyData}:cV m (.str "beside") x=rP x:=by
 unfold cV
 rw[if_neg ⋯,if_neg ⋯,if_pos ⋯]
 unfold rP
 cases x<;>rfl
theorem zW{x:PyData}(q':Qd (.v (.bool (rP x).isSome)) U):if isT "tuple" x=true then
   cC [.v x] U fun x_1 ad=>rGe x_1 (.v (.int 2)) ad fun x_2 ad=>match x_2 with
    |.v (.bool c)=>if c=true then cC [.v x] ad fun x ad=>rLe x (.v (.int 8)) ad Qd else Qd (.v (.bool false)) ad
    |_=>False
  else Qd (.v (.bool false)) U:=by
 rcases tw x with ⟨xs,rfl,e⟩|⟨hn,e⟩
 ·rw[e]
  walk_at "rt"
  have q2:Qd (.v (.bool (if 2<=xs.length/\xs.length<=8 then some xs else none).isSome)) U:=q'
  by_cases c1:2<=xs.length
  ·rw[decide_eq_true (by omega:(2:Int)<=(xs.length:Nat))]
   simp only[↓reduceIte]
   by_cases c2:xs.length<=8
   ·rw[decide_eq_true (by omega:((xs.length:Nat):Int)<=8)]
    rw[if_pos ⟨c1,c2⟩] at q2
    exact q2
   ·rw[decide_eq_false (by omega:¬ ((xs.length:Nat):Int)<=8)]
    rw[if_neg (fun z=>c2 z.2)] at q2
    exact q2
  ·rw[decide_eq_false (by omega:¬ (2:Int)<=(xs.length:Nat))]
   simp only[false_eq_true,↓reduceIte]
   rw[if_neg (fun z=>c1 z.1)] at q2
   exact q2
 ·rw[e]
  have:rP x=none:=by cases x<;>first|rfl|exact absurd rfl (hn _)
  rw[this] at q'
  simp only[false_eq_true,↓reduceIte]
  exact q'
theorem As(h:yz ds U Qd):mT ‹Qd› (aY ["","",""] ds) U:=by
 obtain⟨t,m,rfl,hs,q⟩:=h
 unfold mT
 rcases tw t with ⟨xs,rfl,e⟩|⟨hn,e⟩
 ·have hw:=hs.mem
  rcases xs with _|⟨w,_|⟨x,_|⟨y,_|⟨z,_|⟨r,rs⟩⟩⟩⟩⟩
  ·walk_at "rl";exact q
  ·walk_at "rl";exact q
  ·have sw:=(hw w (by simp)).shaped
   have q':Qd (.v (.bool (cV m w x).isSome)) U:=q
   walk_at "rl"
   simp only[eo sw vg,false_xor]
   cases e1:aL "grid" w with
   |true=>
    have ew:=k9 e1
    subst ew
    rw[Hw] at q'
    walk_at "rl"
    exact q'
   |false=>
    walk_at "rl"
    simp only[eo sw Bc,false_xor]
    cases e2:aL "kind" w with
    |true=>
     unfold cV at q'
     rw[if_pos e2] at q'
     walk_at "rl"
     refine⟨x,rfl,?_⟩
     cases ex:isWhole x with
     |true=>
      obtain⟨i,rfl⟩:=lS ex
      walk_at "rl"
      have q2:Qd (.v (.bool (if (true&&(decide (0<=i)&&decide (i<m)))=true then some ([]:List PyData) else none).isSome)) U:=q'
      by_cases c1:0<=i
      ·rw[decide_eq_true c1] at q2 ⊢
       simp only[Bool.true_and] at q2
       walk_at "rl"
       cases c2:decide (i<m)<;>rw[c2] at q2<;>exact q2
      ·rw[decide_eq_false c1] at q2 ⊢
       simp only[Bool.true_and,Bool.false_and,false_eq_true,↓reduceIte] at q2
       walk_at "rl"
       exact q2
     |false=>
      rw[ex] at q'
      walk_at "rl"
      exact q'
    |false=>
     walk_at "rl"
     simp only[eo sw Lc,false_xor]
     cases e3:aL "upon" w with
     |true=>
      have ew:=k9 e3
      subst ew
      rw[CI] at q'
      walk_at "rl"
      exact zW q'
     |false=>
      walk_at "rl"
      simp only[eo sw Jq,false_xor]
      cases e4:aL "beside" w with
      |true=>
       have ew:=k9 e4
       subst ew
       rw[wD] at q'
       walk_at "rl"
       exact zW q'
      |false=>
       walk_at "rl"
       simp only[eo sw B8,false_xor]
       unfold cV at q'
       rw[if_neg (by rw[e2];decide),e3,e4] at q'
       cases e5:aL "turn" w with
       |true=>rw[if_pos e5] at q';exact q'
       |false=>rw[if_neg (by rw[e5];decide),if_neg ⋯] at q';exact q'
  ·have sw:=(hw w (by simp)).shaped
   walk_at "rl"
   simp only[eo sw vg,false_xor]
   cases e1:aL "grid" w<;>walk_at "rl"<;>exact q
  ·have sw:=(hw w (by simp)).shaped
   have q':Qd (.v (.bool (mi w x y z).isSome)) U:=q
   walk_at "rl"
   simp only[eo sw vg,false_xor]
   unfold mi at q'
   cases e1:aL "grid" w with
   |true=>
    rw[if_pos e1] at q'
    walk_at "rl"
    refine⟨x,rfl,?_⟩
    cases c1:(isWhole x&&decide (1<=intD x)) with
    |true=>
     walk_at "rl"
     refine⟨y,rfl,?_⟩
     rw[c1] at q'
     cases c2:(isWhole y&&decide (1<=intD y))<;>rw[c2] at q'<;>exact q'
    |false=>
     rw[c1] at q'
     walk_at "rl"
     exact q'
   |false=>rw[if_neg (by rw[e1];decide)] at q';walk_at "rl";exact q'
  ·have sw:=(hw w (by simp)).shaped
   walk_at "rl"
   simp only[eo sw vg,false_xor]
   cases e1:aL "grid" w<;>walk_at "rl"<;>exact q
 ·walk_at "rl"
  rw[e]
  walk_at "rl"
  have:iC m t=none:=by cases t<;>first|rfl|exact absurd rfl (hn _)
  rw[this] at q
  exact q
theorem vo{m:Int}{t:PyData}{ps:List PyData}(h:iC m t=some ps):(∃x,t = .tuple [.str "kind",x]/\ps=[])\/(∃x,t = .tuple [.str "turn",x]/\ps=[x])\/((∃xs,t = .tuple [.str "upon",.tuple xs]/\ps=xs/\2<=xs.length/\xs.length<=8)\/(∃xs,t = .tuple [.str "beside",.tuple xs]/\ps=xs/\2<=xs.length/\xs.length<=8))\/(∃u v x,t = .tuple [.str "grid",u,v,x]/\ps=[x]):=by
 unfold iC at h
 split at h
 ·rename_i w x
  unfold cV at h
  split at h
  ·rename_i e
   rw[k9 e]
   split at h
   ·cases h;exact .inl ⟨x,rfl,rfl⟩
   ·cases h
  ·split at h
   ·rename_i e
    rw[k9 e]
    cases h;exact .inr (.inl ⟨x,rfl,rfl⟩)
   ·split at h
    ·rename_i e
     have hx:∃xs,x = .tuple xs/\(2<=xs.length/\xs.length<=8)/\ps=xs:=by
      split at h
      ·rename_i xs
       split at h
       ·rename_i c;cases h;exact⟨_,rfl,c,rfl⟩
       ·cases h
      ·cases h
     obtain⟨xs,rfl,c,rfl⟩:=hx
     rw[Bool.or_eq_true] at e
     rcases e with e|e
     ·rw[k9 e];exact .inr (.inr (.inl (.inl ⟨_,rfl,rfl,c.1,c.2⟩)))
     ·rw[k9 e];exact .inr (.inr (.inl (.inr ⟨_,rfl,rfl,c.1,c.2⟩)))
    ·cases h
 ·rename_i w u v x
  unfold mi at h
  split at h
  ·rename_i e
   rw[k9 e]
   split at h
   ·cases h;exact .inr (.inr (.inr ⟨u,v,x,rfl,rfl⟩))
   ·cases h
  ·cases h
 ·cases h
theorem yB{m:Int}{t:PyData}{ps:List PyData}(h:iC m t=some ps)(hs:Sh t):(∀p∈ps,Sh p)/\ps.length<=8:=by
 rcases vo h with ⟨x,rfl,rfl⟩|⟨x,rfl,rfl⟩|(⟨xs,rfl,rfl,c1,c2⟩|⟨xs,rfl,rfl,c1,c2⟩)|⟨u,v,x,rfl,rfl⟩
 ·exact⟨fun _ z=>(nomatch z),by simp⟩
 ·exact⟨fun p z=>by rw[List.mem_singleton.mp z];exact hs.mem x (by simp),by simp⟩
 ·exact⟨(hs.mem (.tuple ps) (by simp)).mem,c2⟩
 ·exact⟨(hs.mem (.tuple ps) (by simp)).mem,c2⟩
 ·exact⟨fun p z=>by rw[List.mem_singleton.mp z];exact hs.mem x (by simp),by simp⟩
theorem AD(h:sM ds U Qd):nc ‹Qd› (aY ["",""] ds) U:=by
 obtain⟨t,m,ps,rfl,hs,hf,q⟩:=h
 unfold nc
 rcases vo hf with ⟨x,rfl,rfl⟩|⟨x,rfl,rfl⟩|(⟨xs,rfl,rfl,c1,c2⟩|⟨xs,rfl,rfl,c1,c2⟩)|⟨u,v,x,rfl,rfl⟩
 ·walk_at "rl"
  exact q
 ·walk_at "rl"
  exact q
 ·walk_at "rl"
  exact q
 ·walk_at "rl"
  exact q
 ·walk_at "rl"
  exact q
def ent(e:PyData×Nat):PyData:=.tuple [e.1,.int (e.2:Nat)]
def wt(m:Int)(e:PyData×Nat):Nat:=cnt m (13-e.2) e.1
noncomputable def Good(m:Int)(S:List (PyData×Nat))(c:Nat):Prop:=(∀e∈S,0<wt m e)/\c+(S.map (wt m)).sum<=60
theorem yy(xs ys:List Nat):(xs++ys).sum=xs.sum+ys.sum:=List.sum_append
theorem vc{m:Int}{L:List (PyData×Nat)}{e:PyData×Nat}{c:Nat}(h:Good m (L++[e]) c):0<wt m e/\c+1<=60:=by
 have p:=h.1 e (by simp)
 have s:=h.2
 rw[map_append,yy] at s
 simp only[map_cons,map_nil,sum_cons,List.sum_nil] at s
 exact⟨p,∅⟩
theorem cnt_none{m:Int}{n:Nat}{t:PyData}(h:iC m t=none):cnt m n t=0:=by
 cases n with
 |zero=>rfl
 |succ n=>simp only[cnt,h]
theorem mx{m:Int}{n:Nat}{t:PyData}{ps:List PyData}(h:iC m t=some ps):cnt m (n+1) t=if (ps.map (cnt m n)).all (fun c=>decide (0<c))=true then 1+(ps.map (cnt m n)).sum else 0:=by
 simp only[cnt,h]
theorem Du{m:Int}{L:List (PyData×Nat)}{t:PyData}{d c:Nat}{ps:List PyData}(hd:d<=12)(hf:iC m t=some ps):Good m (L++ps.map (fun p=>(p,d+1))) (c+1)↔Good m (L++[(t,d)]) c:=by
 obtain⟨n,hn⟩:∃n,13-d=n+1:=⟨12-d,∅⟩
 have e1:wt m (t,d)=if (ps.map (cnt m n)).all (fun c=>decide (0<c))=true then 1+(ps.map (cnt m n)).sum else 0:=by
  show cnt m (13-d) t=_
  rw[hn,mx hf]
 have e2:∀p,wt m (p,d+1)=cnt m n p:=fun p=>by show cnt m (13-(d+1)) p=_;congr 1;omega
 have e3:(ps.map (fun p=>(p,d+1))).map (wt m)=ps.map (cnt m n):=by
  rw[map_map];exact List.map_congr_left fun p _=>e2 p
 unfold Good
 rw[map_append,map_append,yy,yy,e3]
 simp only[map_cons,map_nil,sum_cons,List.sum_nil,Nat.add_zero]
 rw[e1]
 by_cases ha:(ps.map (cnt m n)).all (fun c=>decide (0<c))=true
 ·rw[if_pos ha]
  have hp:∀p∈ps,0<cnt m n p:=fun p hp=>by
   have:=List.all_eq_true.mp ha (cnt m n p) (mem_map_of_mem hp)
   exact of_decide_eq_true this
  constructor
  ·rintro ⟨h1,h2⟩
   refine⟨fun e he=>?_,∅⟩
   rcases List.mem_append.mp he with z|z
   ·exact h1 e (mem_append_left _ z)
   ·rw[List.mem_singleton.mp z,e1,if_pos ha];omega
  ·rintro ⟨h1,h2⟩
   refine⟨fun e he=>?_,∅⟩
   rcases List.mem_append.mp he with z|z
   ·exact h1 e (mem_append_left _ z)
   ·obtain⟨p,hp',rfl⟩:=List.mem_map.mp z
    rw[e2];exact hp p hp'
 ·rw[if_neg ha]
  constructor
  ·rintro ⟨h1,h2⟩
   exfalso
   apply ha
   rw[List.all_eq_true]
   intro x hx
   obtain⟨p,hp',rfl⟩:=List.mem_map.mp hx
   have:=h1 (p,d+1) (mem_append_right _ (mem_map_of_mem hp'))
   rw[e2] at this
   exact decide_eq_true this
  ·rintro ⟨h1,h2⟩
   exfalso
   have:=h1 (t,d) (by simp)
   rw[e1,if_neg ha] at this
   omega
theorem B5{m:Int}{t:PyData}:Good m [(t,1)] 0↔okN (cnt m 12 t)=true:=by
 unfold Good okN
 have:wt m (t,1)=cnt m 12 t:=rfl
 simp only[List.mem_singleton,forall_eq,map_cons,map_nil,sum_cons,List.sum_nil,this,and_eq_true,decide_eq_true_eq]
 omega
theorem A6(h:jo ds U Qd):oF ‹Qd› (aY ["","","","","","",""] ds) U:=by
 obtain⟨t,m,rfl,hs,q⟩:=h
 unfold oF
 walk_at "rt"
 intro pw hpw
 rw[yP]
 refine⟨fun k ρ Z=>∃(S:List (PyData×Nat)) (c:Nat) (r4 r5 r6:Option D),ρ=[some (.v t),some (.v (.int m)),some (.m pw),some (.v (.int c)),r4,r5,r6]/\Z pw=some (S.map ent)/\(∀b ds,b≠pw->U b=some ds->Z b=some ds)/\(∀e∈S,Sh e.1)/\S.length<=1+8*c/\c<=60/\k=61-c/\(Good m S c↔okN (cnt m 12 t)=true),
  ⟨61,[(t,1)],0,none,none,none,rfl,aT,fun b ds hb e=>by rw[ba hb];exact e,fun e he=>by rw[List.mem_singleton.mp he];exact hs,by simp,∅,rfl,B5⟩,?_⟩
 rintro k ρ Z ⟨S,c,r4,r5,r6,rfl,hm,hk,hS,hl,hc,rfl,hg⟩
 have keep:∀b ds,U b=some ds->Z b=some ds:=fun b ds e=>hk b ds (fun z=>by rw[z,hpw] at e;cases e) e
 walk_at "rt"
 rw[hm]
 rcases List.eq_nil_or_concat S with rfl|⟨L,e,rfl⟩
 ·have:okN (cnt m 12 t)=true:=hg.mp ⟨fun _ z=>(nomatch z),by simpa using hc⟩
  have q':=q Z keep
  rw[this] at q'
  exact q'
 ·obtain⟨t',d⟩:=e
  rw[List.concat_eq_append] at hm hS hl hg
  have nok:¬ Good m (L++[(t',d)]) c->okN (cnt m 12 t)=false:=fun h=>by
   cases z:okN (cnt m 12 t) with
   |true=>exact absurd (hg.mpr z) h
   |false=>rfl
  have hemp:(List.map ent (L++[(t',d)])).isEmpty=false:=by simp
  rw[List.concat_eq_append]
  dsimp only
  rw[hemp]
  simp only[Bool.not_false,↓reduceIte]
  have hkw:∀b ds,U b=some ds->aF Z pw (List.map ent L) b=some ds:=fun b ds e=>by
   have hb:b≠pw:=fun z=>by rw[z,hpw] at e;cases e
   rw[ba hb];exact hk b ds hb e
  refine⟨ent (t',d),by simp,?_⟩
  have edl:(List.map ent (L++[(t',d)])).dropLast=List.map ent L:=by simp
  rw[edl]
  show eD 2 (bc (ao 4) (bc (ao 5) fg)) (.v (.tuple [t',.int (d:Nat)])) _ _ _
  have q0:okN (cnt m 12 t)=false->Qd (.v (.bool false)) (aF Z pw (List.map ent L)):=fun z=>by
   have:=q _ hkw
   rw[z] at this
   exact this
  have st':Sh t':=hS (t',d) (by simp)
  walk_at "rt"
  refine⟨trivial,?_⟩
  rw[Lx]
  refine⟨c,rfl,?_⟩
  walk_at "rl"
  by_cases c1:60<(c:Int)+1
  ·rw[n9 (by simpa using c1)]
   exact q0 (nok fun g=>by have:=vc g;omega)
  ·rw[j7 (by simpa using c1)]
   walk_at "rl"
   by_cases c2:12<(d:Int)
   ·rw[n9 (by simpa using c2)]
    refine q0 (nok fun g=>?_)
    have h0:wt m (t',d)=0:=by show cnt m (13-d) t'=0;rw[show 13-d=0 by omega];rfl
    have:=vc g;omega
   ·rw[j7 (by simpa using c2)]
    walk_at "rl"
    refine⟨t',m,rfl,st',?_⟩
    walk_at "rl"
    cases hf:iC m t' with
    |none=>
     simp only[Option.isSome_none]
     walk_at "rl"
     refine q0 (nok fun g=>?_)
     have h0:wt m (t',d)=0:=cnt_none hf
     have:=vc g;omega
    |some ps=>
     simp only[Option.isSome_some]
     walk_at "rl"
     obtain⟨hps,lps⟩:=yB hf st'
     rw[Aw]
     walk_at "rt"
     refine⟨t',m,ps,rfl,st',hf,?_⟩
     rw[length_append,length_singleton] at hl
     refine⟨fun i ρ al=>∃r6,ρ=[some (.v t),some (.v (.int m)),some (.m pw),some (.v (.int ((c:Int)+1))),some (.v t'),some (.v (.int (d:Nat))),r6]/\al pw=some (List.map ent (L++(ps.take i).map (fun p=>(p,d+1))))/\∀b,b≠pw->al b=Z b,⟨_,rfl,by rw[aT];simp,fun b hb=>ba hb⟩,?_,?_⟩
     ·rintro i x ρ al hx ⟨r6,rfl,hm2,hk2⟩
      have hi:i<ps.length:=by
       rcases lt_or_ge i ps.length with z|z
       ·exact z
       ·rw[getElem?_eq_none z] at hx;cases hx
      walk_at "rt"
      simp only[hm2]
      refine⟨?_,_,rfl,?_,fun b hb=>by rw[ba hb];exact hk2 b hb⟩
      ·rw[length_map,length_append,length_map,length_take];omega
      ·rw[aT,take_succ,hx]
       simp[ent]
     ·rintro ρ al ⟨r6,rfl,hm2,hk2⟩
      rw[take_length] at hm2
      refine⟨61-(c+1),∅,L++ps.map (fun p=>(p,d+1)),c+1,_,_,_,rfl,hm2,fun b ds hb e=>by rw[hk2 b hb];exact hk b ds hb e,fun e he=>?_,?_,∅,rfl,(Du ∅ hf).trans hg⟩
      ·rcases List.mem_append.mp he with z|z
       ·exact hS e (mem_append_left _ z)
       ·obtain⟨p,hp,rfl⟩:=List.mem_map.mp z
        exact hps p hp
      ·rw[length_append,length_map];omega
end
noncomputable def dG(n:Nat):DSp:=fun ds U Q=>∃(t:PyData) (m:Int) (deep:Nat),ds=[.v t,.v (.int m),.v (.int deep)]/\deep<n/\Sh t/\∀Z,(∀b ds,U b=some ds->Z b=some ds)->Q (.v (.int (cnt m deep t))) Z
theorem vz{n:Nat}{U:Mu}{Q:DK}{ds:List D}(h:dG n ds U Q):ds.length=3:=by obtain⟨_,_,_,rfl,_⟩:=h;rfl
theorem uH{U:Mu}{Q:DK}{ds:List D}(h:dG 0 ds U Q):False:=by obtain⟨_,_,_,_,h,_⟩:=h;omega
noncomputable def kG:DSp:=fun ds U Q=>∃(t:PyData) (m:Int),ds=[.v t,.v (.int m)]/\Sh t/\∀Z,(∀b ds,U b=some ds->Z b=some ds)->Q (.v (.bool (okN (cnt m 12 t)))) Z
theorem vO{U:Mu}{Q:DK}{ds:List D}(h:kG ds U Q):ds.length=2:=by obtain⟨_,_,rfl,_⟩:=h;rfl
noncomputable def tQ:DSp:=fun ds U Q=>∃a:Addr,ds=[.m a]/\Bag U a/\∀g Z,1<=g->g<=1000000->Step a U Z->Q (.v (.int g)) Z
theorem B1{U:Mu}{Q:DK}{ds:List D}(h:tQ ds U Q):ds.length=1:=by obtain⟨_,rfl,_⟩:=h;rfl
theorem ky(s:Str)(x:PyData):PyData.eqv (.str s) x=aL s x:=by
 cases x with
 |str y=>
  have e:PyData.eqv (.str s) (.str y)=decide (s=y):=by simp[PyData.eqv];rfl
  rw[e]
  show decide (s=y)=decide (y=s)
  rw[Bool.eq_iff_iff,decide_eq_true_eq,decide_eq_true_eq]
  exact eq_comm
 |_=>first|rfl|simp[PyData.eqv,aL]
theorem xH:PyData.canLayAll0 [.str "upon",.str "beside"]=true:=nofun
def tot(cs:List Nat):Nat:=if cs=[] then 0 else if cs.all (fun c=>decide (0<c))=true then 1+cs.sum else 0
noncomputable def cA(n:Nat):DTS:=
 (aM (bt (dq [none,some 1,some 2] (iV (ah 5)) (ao 0) iL (aK (dG n) (ae (ah 0) (ae (ah 1) (ae (JH (ah 2) (dC (.int 1))) aj))))) (ao 6))
 (aM (bN (km (dB (dOp (bI false) (ah 6) (gC aj))) (dB (dOp (bI false) (dCB AG (ae (ah 6) aj)) (dC (.int 0))))) (bG (dC (.int 0))) br)
 (bG (dJ (dC (.int 1)) (dCB wz (ae (ah 6) aj))))))
noncomputable def gU(n:Nat):DTS:=
 (aM (bN (km (dB (dOp (bI false) (ah 2) (dC (.int 0)))) (km (jP (dB (vi "tuple" (ah 0)))) (dB (dOp rLt (dCB cC (ae (ah 0) aj)) (dC (.int 2)))))) (bG (dC (.int 0))) br)
 (aM (Kj 3 4 (ae (dOp bg (ah 0) (dC (.int 0))) (ae (dCB cC (ae (ah 0) aj)) aj)))
 (aM (bN (dB (dOp (bI false) (ah 3) (dC (.str "kind")))) (bG (dCB tH (ae (jO (dOp (bI false) (ah 4) (dC (.int 2))) (jO (aK jm (ae (dOp bg (ah 0) (dC (.int 1))) aj)) (ot rLe rLt (dC (.int 0)) (dOp bg (ah 0) (dC (.int 1))) (ah 1)))) aj))) br)
 (aM (bt (gC aj) (ao 5))
 (aM (bN (kb (dB (dOp (bI false) (ah 3) (dC (.str "turn")))) (dB (dOp (bI false) (ah 4) (dC (.int 2))))) (bt (gC (ae (dOp bg (ah 0) (dC (.int 1))) aj)) (ao 5)) (bN (kb (dB (dOp (Eo false) (ah 3) (gC (ae (dC (.str "upon")) (ae (dC (.str "beside")) aj))))) (kb (dB (dOp (bI false) (ah 4) (dC (.int 2)))) (dB (vi "tuple" (dOp bg (ah 0) (dC (.int 1))))))) (bt (dIf (dB (ot rLe rLe (dC (.int 2)) (dCB cC (ae (dOp bg (ah 0) (dC (.int 1))) aj)) (dC (.int 8)))) (dCB oH (ae (dOp bg (ah 0) (dC (.int 1))) aj)) (gC aj)) (ao 5)) (bN (kb (dB (dOp (bI false) (ah 3) (dC (.str "grid")))) (kb (dB (dOp (bI false) (ah 4) (dC (.int 4)))) (dB (dCB uJ (ae (Ad [none] (o3 (dSl (ah 0) (dO (dC (.int 1))) (dO (dC (.int 3))))) (ao 0) iL (jO (aK jm (ae (ah 0) aj)) (dOp rGt (ah 0) (dC (.int 0))))) aj))))) (bt (gC (ae (dOp bg (ah 0) (dC (.int 3))) aj)) (ao 5)) br)))
 (cA n))))))
noncomputable def gz:DTS:=
 (bG (ot rLt rLe (dC (.int 0)) (aK (dG 31) (ae (ah 0) (ae (ah 1) (ae (dC (.int 12)) aj)))) (dC (.int 60))))
noncomputable def gN:DTS:=
 (bG (dJ (dC (.int 1)) (aK cF (ae (ah 0) (ae (dOp bg (gC (ae (dC (.int 2)) (ae (dC (.int 3)) (ae (dC (.int 5)) (ae (dC (.int 3)) (ae (dC (.int 2)) (ae (dC (.int 9)) (ae (dC (.int 4)) (ae (vj (dC (.int 10)) (dC (.int 6))) aj))))))))) (aK cF (ae (ah 0) (ae (dC (.int 8)) aj)))) aj)))))
section
variable {U:Mu}{Qd:DK}{ds:List D}
theorem Ho(cs:List Nat):bZ (cs.map fun (c:Nat)=>PyData.int (c:Int))=some (cs.map fun (c:Nat)=>(c:Int)):=by
 induction cs with
 |nil=>rfl
 |cons c r ih=>simp only[map_cons,bZ,ih,map_some]
theorem EJ(cs:List Nat):(cs.map fun (c:Nat)=>(c:Int)).sum=((cs.sum:Nat):Int):=by
 induction cs with
 |nil=>rfl
 |cons c r ih=>simp only[map_cons,sum_cons,ih];omega
theorem min_zero{cs:List Nat}{M:Int}(h1:M∈cs.map fun (c:Nat)=>(c:Int))(h2:∀a∈cs.map fun (c:Nat)=>(c:Int),M<=a):M=0↔cs.all (fun c=>decide (0<c))=false:=by
 obtain⟨c,hc,rfl⟩:=List.mem_map.mp h1
 constructor
 ·intro z
  rw[Bool.eq_false_iff]
  intro ha
  have:=List.all_eq_true.mp ha c hc
  have:=of_decide_eq_true this
  omega
 ·intro hf
  have:∃x∈cs,¬ 0<x:=by
   rcases Classical.em (∃x∈cs,¬ 0<x) with z|z
   ·exact z
   ·exfalso
    rw[Bool.eq_false_iff] at hf
    apply hf
    rw[List.all_eq_true]
    intro x hx
    rcases lt_or_ge 0 x with w|w
    ·exact decide_eq_true w
    ·exact absurd ⟨x,hx,∅⟩ z
  obtain⟨x,hx,hx0⟩:=this
  have:=h2 (x:Int) (mem_map_of_mem hx)
  omega
theorem shaped_ints(cs:List Nat):SeqAt.shaped (.list (cs.map fun (c:Nat)=>PyData.int (c:Int)))=true:=by
 have h1:PyData.canLayAll0 (cs.map fun (c:Nat)=>PyData.int (c:Int))=true:=by
  induction cs with
  |nil=>rfl
  |cons c r ih=>simp only[map_cons,PyData.canLayAll0,PyData.canLay0,ih,Bool.and_true]
 have h2:PyData.depthAll (cs.map fun (c:Nat)=>PyData.int (c:Int))=0:=by
  induction cs with
  |nil=>rfl
  |cons c r ih=>simp only[map_cons,PyData.depthAll,PyData.depth,PyData.canLayAll0,PyData.canLay0,and_eq_true] at *;rw[ih (by simpa [PyData.canLayAll0,PyData.canLay0] using h1)];rfl
 unfold SeqAt.shaped
 rw[PyData.canLay0,h1,PyData.depth,h2]
 rfl
theorem uc{n k:Nat}{t w s:D}{m:Int}{ps:List PyData}{r6:Option D}{Dd:kc}(hk:k<n)(hps:∀p∈ps,Sh p)(lps:ps.length<=8)
  (q:∀Z,(∀b ds,U b=some ds->Z b=some ds)->Dd.rt (.v (.int (tot (ps.map (cnt m k))))) Z) :
  cA n Dd [some t,some (.v (.int m)),some (.v (.int ((k+1:Nat):Int))),some w,some s,some (.v (.list ps)),r6] U:=by
 unfold cA
 walk_at "rt"
 refine⟨∅,fun a ha=>⟨fun i acc Z=>acc=((ps.take i).map fun p=>PyData.int (cnt m k p:Nat))/\∀b ds,b≠a->U b=some ds->Z b=some ds,⟨by simp,fun b ds hb e=>by rw[ba hb];exact e⟩,?_,?_⟩⟩
 ·rintro i x acc Z hx hacc ⟨rfl,hk'⟩
  refine⟨⟨trivial,trivial,trivial⟩,x,m,k,?_,hk,hps x (mem_of_getElem? hx),fun bn h4=>⟨h4 _ _ hacc,?_,fun b ds hb e=>by rw[ba hb];exact h4 b ds (hk' b ds hb e)⟩⟩
  ·congr 1;congr 1;congr 1;congr 1;congr 1;omega
  ·rw[take_succ,hx];simp
 ·rintro acc Z ⟨rfl,hk'⟩ hacc
  have q':=q (gk Z a) fun b ds e=>by
   have hb:b≠a:=fun z=>by rw[z,ha] at e;cases e
   rw[kQ hb];exact hk' b ds hb e
  rw[take_length]
  have em:(ps.map fun p=>PyData.int (cnt m k p:Nat))=(ps.map (cnt m k)).map fun (c:Nat)=>PyData.int (c:Int):=by rw[map_map];rfl
  rw[em]
  generalize ps.map (cnt m k)=cs at q'
  refine⟨shaped_ints cs,rfl,?_⟩
  cases cs with
  |nil=>exact q'
  |cons c r=>
   have e0:PyData.eqv (.list ((c::r).map fun (c:Nat)=>PyData.int (c:Int))) (.list [])=false:=by simp[PyData.eqv,PyData.eqvAll]
   rw[e0,Ho]
   simp only[false_eq_true,↓reduceIte]
   refine⟨by simp,fun M h1 h2=>?_⟩
   have hz:=min_zero h1 h2
   have q2:Dd.rt (.v (.int ((if (c::r).all (fun c=>decide (0<c))=true then 1+(c::r).sum else 0:Nat):Int))) (gk Z a):=q'
   cases ea:(c::r).all (fun c=>decide (0<c)) with
   |true=>
    rw[if_pos ea] at q2
    rw[decide_eq_false (fun z=>by rw[hz,ea] at z;cases z)]
    simp only[false_eq_true,↓reduceIte]
    rw[EJ]
    have e1:(1:Int)+(((c::r).sum:Nat):Int)=((1+(c::r).sum:Nat):Int):=by omega
    rw[e1]
    exact q2
   |false=>
    rw[if_neg (by rw[ea];decide)] at q2
    rw[decide_eq_true (hz.mpr ea)]
    exact q2
theorem KP{m:Int}{k:Nat}{t:PyData}{ps:List PyData}(h:iC m t=some ps)(hne:ps≠[]):cnt m (k+1) t=tot (ps.map (cnt m k)):=by
 rw[mx h]
 unfold tot
 rw[if_neg (fun z=>hne (List.map_eq_nil_iff.mp z))]
theorem qG(n:Nat)(h:dG (n+1) ds U Qd):gU n ‹Qd› (aY ["","","","","","",""] ds) U:=by
 obtain⟨t,m,deep,rfl,hn,hs,q⟩:=h
 unfold gU
 cases deep with
 |zero=>
  walk_at "rl"
  exact q U fun _ _ e=>e
 |succ k=>
  have q0:iC m t=none->Qd (.v (.int 0)) U:=fun z=>by
   have:=q U fun _ _ e=>e
   rw[cnt_none z] at this
   exact this
  have kn:k<n:=by omega
  have tail0:∀{w s:D} {r6:Option D},iC m t=none->cA n ‹Qd› [some (.v t),some (.v (.int m)),some (.v (.int ((k+1:Nat):Int))),some w,some s,some (.v (.list [])),r6] U:=fun {w s r6} z=>
   uc kn (fun _ z=>(nomatch z)) (by simp) fun Z h=>by
    have:=q Z h
    rw[cnt_none z] at this
    exact this
  have tail1:∀{w s:D} {r6:Option D} {ps:List PyData},iC m t=some ps->ps≠[]->cA n ‹Qd› [some (.v t),some (.v (.int m)),some (.v (.int ((k+1:Nat):Int))),some w,some s,some (.v (.list ps)),r6] U:=fun {w s r6 ps} z hne=>
   uc kn (yB z hs).1 (yB z hs).2 fun Z h=>by
    have:=q Z h
    rw[KP z hne] at this
    exact this
  rcases tw t with ⟨xs,rfl,e⟩|⟨hn',e⟩
  ·have hw:=hs.mem
   rcases xs with _|⟨w,_|⟨x,_|⟨y,_|⟨z,_|⟨r,rs⟩⟩⟩⟩⟩
   ·walk_at "rl";exact q0 rfl
   ·walk_at "rl";exact q0 rfl
   ·have sw:=hw w (by simp)
    walk_at "rl"
    simp only[eo sw.shaped Bc,false_xor]
    have f0:iC m (.tuple [w,x])=cV m w x:=rfl
    have eany:([PyData.str "upon",.str "beside"].any fun b=>PyData.eqv b w)=(aL "upon" w || aL "beside" w):=by simp only[any_cons,any_nil,ky,Bool.or_false]
    cases e1:aL "kind" w with
    |true=>
     walk_at "rl"
     have f1:cV m w x=if (isWhole x&&(decide (0<=intD x)&&decide (intD x<m)))=true then some [] else none:=by unfold cV;rw[if_pos e1]
     have qk:=q U fun _ _ e=>e
     refine⟨x,rfl,?_⟩
     cases ex:isWhole x with
     |true=>
      obtain⟨i,rfl⟩:=lS ex
      have f2:cV m w (.int i)=if (decide (0<=i)&&decide (i<m))=true then some [] else none:=f1
      walk_at "rl"
      by_cases c1:0<=i
      ·rw[decide_eq_true c1] at f2 ⊢
       simp only[Bool.true_and] at f2
       walk_at "rl"
       by_cases c2:i<m
       ·rw[decide_eq_true c2] at f2 ⊢
        rw[mx (f0.trans f2)] at qk
        exact qk
       ·rw[decide_eq_false c2] at f2 ⊢
        exact q0 (f0.trans f2)
      ·rw[decide_eq_false c1] at f2 ⊢
       simp only[Bool.false_and,false_eq_true,↓reduceIte] at f2
       walk_at "rl"
       exact q0 (f0.trans f2)
     |false=>
      walk_at "rl"
      exact q0 (by rw[f0,f1,ex];rfl)
    |false=>
     walk_at "rl"
     simp only[eo sw.shaped B8,false_xor]
     cases e2:aL "turn" w with
     |true=>
      walk_at "rl"
      exact tail1 (by rw[f0];unfold cV;rw[if_neg (by rw[e1];decide),if_pos e2]) (by simp)
     |false=>
      walk_at "rl"
      refine⟨xH,sw.lay,sw.dep,?_⟩
      rw[eany]
      have f3:cV m w x=if (aL "upon" w || aL "beside" w)=true then rP x else none:=by
       unfold cV
       rw[if_neg (by rw[e1];decide),if_neg (by rw[e2];decide)]
       unfold rP
       cases x<;>rfl
      cases e3:(aL "upon" w || aL "beside" w) with
      |true=>
       rw[e3] at f3
       simp only[↓reduceIte] at f3
       walk_at "rl"
       rcases tw x with ⟨xs,rfl,et⟩|⟨hx,et⟩
       ·rw[et]
        walk_at "rl"
        have f4:cV m w (.tuple xs)=if 2<=xs.length/\xs.length<=8 then some xs else none:=f3
        by_cases c1:2<=xs.length
        ·rw[decide_eq_true (by omega:(2:Int)<=(xs.length:Nat))]
         walk_at "rl"
         by_cases c2:xs.length<=8
         ·rw[decide_eq_true (by omega:((xs.length:Nat):Int)<=8)]
          walk_at "rl"
          exact tail1 (by rw[f0,f4,if_pos ⟨c1,c2⟩]) (fun z=>by rw[z] at c1;simp at c1)
         ·rw[decide_eq_false (by omega:¬ ((xs.length:Nat):Int)<=8)]
          walk_at "rl"
          exact tail0 (by rw[f0,f4,if_neg (fun z=>c2 z.2)])
        ·rw[decide_eq_false (by omega:¬ (2:Int)<=(xs.length:Nat))]
         walk_at "rl"
         exact tail0 (by rw[f0,f4,if_neg (fun z=>c1 z.1)])
       ·rw[et]
        walk_at "rl"
        have fn:iC m (.tuple [w,x])=none:=by rw[f0,f3];cases x<;>first|rfl|exact absurd rfl (hx _)
        simp only[eo sw.shaped vg,false_xor]
        cases aL "grid" w<;>walk_at "rl"<;>exact tail0 fn
      |false=>
       rw[e3] at f3
       simp only[false_eq_true,↓reduceIte] at f3
       walk_at "rl"
       simp only[eo sw.shaped vg,false_xor]
       cases aL "grid" w<;>walk_at "rl"<;>exact tail0 (f0.trans f3)
   ·have sw:=hw w (by simp)
    walk_at "rl"
    simp only[eo sw.shaped Bc,false_xor]
    cases aL "kind" w with
    |true=>walk_at "rl";exact q0 rfl
    |false=>
     walk_at "rl"
     simp only[eo sw.shaped B8,false_xor]
     cases aL "turn" w<;>walk_at "rl"<;>refine⟨xH,sw.lay,sw.dep,?_⟩<;>cases (List.any _ _)<;>walk_at "rl"<;>simp only[eo sw.shaped vg,false_xor]<;>cases aL "grid" w<;>walk_at "rl"<;>exact tail0 rfl
   ·have sw:=hw w (by simp)
    walk_at "rl"
    have f0:iC m (.tuple [w,x,y,z])=mi w x y z:=rfl
    cases eg:aL "grid" w with
    |true=>
     have ew:=k9 eg
     subst ew
     have f1:mi (.str "grid") x y z=if ((isWhole x&&decide (1<=intD x))&&(isWhole y&&decide (1<=intD y)))=true then some [z] else none:=by unfold mi;rw[if_pos Ez]
     have eany:([PyData.str "upon",.str "beside"].any fun b=>PyData.eqv b (.str "grid"))=false:=by simp only[any_cons,any_nil,ky,Ie,G3,Bool.or_false]
     walk_at "rl"
     refine⟨xH,sw.lay,sw.dep,?_⟩
     rw[eany]
     walk_at "rl"
     rw[xp]
     walk_at "rl"
     have ec:oK [PyData.str "grid",x,y,z] (some 1) (some 3)=[x,y]:=rfl
     rw[ec]
     refine⟨(by show 2<=1000;decide),fun t=>some (.bool (isWhole t&&decide (1<=intD t))),fun t ht Z _=>⟨trivial,t,rfl,?_⟩,?_⟩
     ·cases et:isWhole t with
      |true=>
       obtain⟨i,rfl⟩:=lS et
       walk_at "rl"
       refine⟨trivial,?_⟩
       have:decide (0<i)=decide (1<=i):=by rw[Bool.eq_iff_iff,decide_eq_true_eq,decide_eq_true_eq];omega
       rw[this]
       rfl
      |false=>
       walk_at "rl"
       exact⟨trivial,by rw[et];rfl⟩
     ·rw[Ce (fun t=>PyData.bool (isWhole t&&decide (1<=intD t))),nD]
      simp only[map_cons,map_nil,List.all_cons,List.all_nil,id,Bool.and_true]
      cases ea:((isWhole x&&decide (1<=intD x))&&(isWhole y&&decide (1<=intD y))) with
      |true=>
       rw[ea] at f1
       walk_at "rl"
       exact tail1 (f0.trans f1) (by simp)
      |false=>
       rw[ea] at f1
       walk_at "rl"
       exact tail0 (f0.trans f1)
    |false=>
     have f1:iC m (.tuple [w,x,y,z])=none:=by rw[f0];unfold mi;rw[if_neg (by rw[eg];decide)]
     simp only[eo sw.shaped Bc,false_xor]
     cases aL "kind" w with
     |true=>walk_at "rl";exact q0 f1
     |false=>
      walk_at "rl"
      simp only[eo sw.shaped B8,false_xor]
      cases aL "turn" w<;>walk_at "rl"<;>refine⟨xH,sw.lay,sw.dep,?_⟩<;>cases (List.any _ _)<;>walk_at "rl"<;>simp only[eo sw.shaped vg,false_xor,eg]<;>walk_at "rl"<;>exact tail0 f1
   ·have sw:=hw w (by simp)
    walk_at "rl"
    simp only[eo sw.shaped Bc,false_xor]
    cases aL "kind" w with
    |true=>walk_at "rl";exact q0 rfl
    |false=>
     walk_at "rl"
     simp only[eo sw.shaped B8,false_xor]
     cases aL "turn" w<;>walk_at "rl"<;>refine⟨xH,sw.lay,sw.dep,?_⟩<;>cases (List.any _ _)<;>walk_at "rl"<;>simp only[eo sw.shaped vg,false_xor]<;>cases aL "grid" w<;>walk_at "rl"<;>exact tail0 rfl
  ·walk_at "rl"
   rw[e]
   walk_at "rl"
   exact q0 (by cases t<;>first|rfl|exact absurd rfl (hn' _))
theorem oW(h:kG ds U Qd):gz ‹Qd› (aY ["",""] ds) U:=by
 obtain⟨t,m,rfl,hs,q⟩:=h
 unfold gz
 walk_at "rt"
 refine⟨t,m,12,rfl,⋯,hs,fun Z h=>?_⟩
 have q':=q Z h
 unfold okN at q'
 walk_at "rt"
 generalize cnt m 12 t=c at q'
 by_cases c1:0<c
 ·rw[decide_eq_true (by omega:(0:Int)<(c:Int))]
  rw[decide_eq_true c1,Bool.true_and] at q'
  simp only[↓reduceIte]
  have:decide ((c:Int)<=60)=decide (c<=60):=by rw[Bool.eq_iff_iff,decide_eq_true_eq,decide_eq_true_eq];omega
  rw[this]
  exact q'
 ·rw[decide_eq_false (by omega:¬ (0:Int)<(c:Int))]
  rw[decide_eq_false c1,Bool.false_and] at q'
  exact q'
theorem qg(h:tQ ds U Qd):gN ‹Qd› (aY [""] ds) U:=by
 obtain⟨a,rfl,hb,q⟩:=h
 unfold gN
 walk_at "rt"
 refine⟨⟨⋯,⋯,⋯⟩,a,8,rfl,⋯,⋯,hb,fun r ad r0 r1 s1=>?_⟩
 have e6:(10:Int) ^ Int.toNat 6=1000000:=by decide
 rw[e6]
 obtain⟨_,e1,w,rfl,w0,w1⟩:=pick (P:=fun v=>∃w:Int,v = .int w/\1<=w/\w<=1000000) (xs:=[.int 2,.int 3,.int 5,.int 3,.int 2,.int 9,.int 4,.int 1000000]) r0 (by exact r1) (by
  intro v hv
  simp only[mem_cons,not_mem_nil,or_false] at hv
  rcases hv with rfl|rfl|rfl|rfl|rfl|rfl|rfl|rfl<;>exact⟨_,rfl,⋯,⋯⟩)
 walk_at "rt"
 rw[e1]
 refine⟨a,w,rfl,∅,∅,s1.1,fun u al u0 u1 s2=>?_⟩
 walk_at "rt"
 exact q _ al ∅ ∅ (s1.trans s2)
end
inductive IsP(m:Int):Nat->Nat->PyData->Prop
 |kind (i:Int):0<=i->i<m->IsP m 1 1 (.tuple [.str "kind",.int i])
 |turn {d c:Nat} {t:PyData}:IsP m d c t->IsP m (d+1) (c+1) (.tuple [.str "turn",t])
 |grid {d c:Nat} {t:PyData} (u v:Int):1<=u->1<=v->u<=1000000->v<=1000000->IsP m d c t->IsP m (d+1) (c+1) (.tuple [.str "grid",.int u,.int v,t])
 |upon {d:Nat} (es:List (Nat×Nat×PyData)):2<=es.length->es.length<=8->(∀e∈es,e.1<=d)->(∀e∈es,IsP m e.1 e.2.1 e.2.2)->IsP m (d+1) ((es.map (·.2.1)).sum+1) (.tuple [.str "upon",.tuple (es.map (·.2.2))])
 |beside {d:Nat} (es:List (Nat×Nat×PyData)):2<=es.length->es.length<=8->(∀e∈es,e.1<=d)->(∀e∈es,IsP m e.1 e.2.1 e.2.2)->IsP m (d+1) ((es.map (·.2.1)).sum+1) (.tuple [.str "beside",.tuple (es.map (·.2.2))])
structure Lt(n:Nat)(t:PyData):Prop where
 lay:t.canLay0=true
 dep:t.depth<=n
theorem Lt.sh{n:Nat}{t:PyData}(h:Lt n t)(hn:n<=60):Sh t:=⟨h.lay,le_trans h.dep hn⟩
theorem Lt.mono{n k:Nat}{t:PyData}(h:Lt n t)(hn:n<=k):Lt k t:=⟨h.lay,le_trans h.dep hn⟩
theorem C8{xs:List PyData}(h:∀x∈xs,x.canLay0=true):PyData.canLayAll0 xs=true:=by
 induction xs with
 |nil=>rfl
 |cons x r ih=>rw[PyData.canLayAll0,h x (by simp),ih (fun y hy=>h y (by simp[hy]))];rfl
theorem wj{xs:List PyData}{n:Nat}(h:∀x∈xs,x.depth<=n):PyData.depthAll xs<=n:=by
 induction xs with
 |nil=>exact zero_le _
 |cons x r ih=>
  rw[PyData.depthAll]
  have h1:=h x (by simp)
  have h2:=ih (fun y hy=>h y (by simp[hy]))
  omega
theorem dr{xs:List PyData}{n:Nat}(h:∀x∈xs,Lt n x):Lt (n+1) (.tuple xs):=
 ⟨by rw[PyData.canLay0];exact C8 fun x hx=>(h x hx).lay,by rw[PyData.depth];have:=wj (n:=n) fun x hx=>(h x hx).dep;omega⟩
theorem BZ{xs:List PyData}{n:Nat}(h:∀x∈xs,Lt n x):Lt (n+1) (.list xs):=
 ⟨by rw[PyData.canLay0];exact C8 fun x hx=>(h x hx).lay,by rw[PyData.depth];have:=wj (n:=n) fun x hx=>(h x hx).dep;omega⟩
theorem lt_int{n:Nat}{i:Int}:Lt n (.int i):=⟨rfl,zero_le _⟩
theorem lt_bool{n:Nat}{i:Bool}:Lt n (.bool i):=⟨rfl,zero_le _⟩
theorem xQ{n:Nat}:Lt n (.str "kind"):=⟨nofun,zero_le _⟩
theorem DQ{n:Nat}:Lt n (.str "turn"):=⟨nofun,zero_le _⟩
theorem M9{n:Nat}:Lt n (.str "Turn"):=⟨nofun,zero_le _⟩
theorem vS{n:Nat}:Lt n (.str "grid"):=⟨nofun,zero_le _⟩
theorem AS{n:Nat}:Lt n (.str "upon"):=⟨nofun,zero_le _⟩
theorem A5{n:Nat}:Lt n (.str "beside"):=⟨nofun,zero_le _⟩
theorem all2{P:PyData->Prop}{a b:PyData}(ha:P a)(hb:P b):∀x∈[a,b],P x:=fun x hx=>by
 simp only[mem_cons,not_mem_nil,or_false] at hx
 rcases hx with rfl|rfl<;>assumption
theorem all1{P:PyData->Prop}{a:PyData}(ha:P a):∀x∈[a],P x:=fun x hx=>by rw[List.mem_singleton.mp hx];exact ha
theorem Ib{P:PyData->Prop}{a b c:PyData}(ha:P a)(hb:P b)(hc:P c):∀x∈[a,b,c],P x:=fun x hx=>by
 simp only[mem_cons,not_mem_nil,or_false] at hx
 rcases hx with rfl|rfl|rfl<;>assumption
theorem Ef{P:PyData->Prop}{a b c d:PyData}(ha:P a)(hb:P b)(hc:P c)(hd:P d):∀x∈[a,b,c,d],P x:=fun x hx=>by
 simp only[mem_cons,not_mem_nil,or_false] at hx
 rcases hx with rfl|rfl|rfl|rfl<;>assumption
theorem IsP.pos{m:Int}{d c:Nat}{t:PyData}(h:IsP m d c t):1<=d/\1<=c:=by cases h<;>exact⟨∅,∅⟩
theorem IsP.lt{m:Int}{d c:Nat}{t:PyData}(h:IsP m d c t):Lt (2*d) t:=by
 induction h with
 |kind i h0 h1=>exact (dr (n:=0) (all2 xQ lt_int)).mono ∅
 |turn _ ih=>exact (dr (all2 DQ ih)).mono ∅
 |grid u v _ _ _ _ _ ih=>exact (dr (Ef vS lt_int lt_int ih)).mono ∅
 |@upon d es _ _ hd _ ih=>exact (dr (all2 AS (dr (n:=2*d) fun x hx=>by obtain⟨e,he,rfl⟩:=List.mem_map.mp hx;exact (ih e he).mono (by have:=hd e he;omega)))).mono ∅
 |@beside d es _ _ hd _ ih=>exact (dr (all2 A5 (dr (n:=2*d) fun x hx=>by obtain⟨e,he,rfl⟩:=List.mem_map.mp hx;exact (ih e he).mono (by have:=hd e he;omega)))).mono ∅
theorem wN{m:Int}{w:Str}{xs:List PyData}(hw:w = "upon"\/w = "beside")(h2:2<=xs.length)(h8:xs.length<=8):iC m (.tuple [.str w,.tuple xs])=some xs:=by
 rcases hw with rfl|rfl
 ·show cV m (.str "upon") (.tuple xs)=_
  rw[CI]
  show (if 2<=xs.length/\xs.length<=8 then some xs else none)=some xs
  rw[if_pos ⟨h2,h8⟩]
 ·show cV m (.str "beside") (.tuple xs)=_
  rw[wD]
  show (if 2<=xs.length/\xs.length<=8 then some xs else none)=some xs
  rw[if_pos ⟨h2,h8⟩]
theorem mI{m:Int}{n:Nat}{t:PyData}{es:List (Nat×Nat×PyData)}(hf:iC m t=some (es.map (·.2.2)))(h:∀e∈es,cnt m n e.2.2=e.2.1/\1<=e.2.1):cnt m (n+1) t=(es.map (·.2.1)).sum+1:=by
 have e1:(es.map (·.2.2)).map (cnt m n)=es.map (·.2.1):=by rw[map_map];exact List.map_congr_left fun e he=>(h e he).1
 rw[mx hf,e1,if_pos,Nat.add_comm]
 rw[List.all_eq_true]
 intro x hx
 obtain⟨e,he,rfl⟩:=List.mem_map.mp hx
 exact decide_eq_true (h e he).2
theorem IsP.cnt{m:Int}{d c:Nat}{t:PyData}(h:IsP m d c t):∀n,d<=n->cnt m n t=c:=by
 induction h with
 |kind i h0 h1=>
  intro n hn
  obtain⟨k,rfl⟩:∃k,n=k+1:=⟨n-1,∅⟩
  have hf:iC m (.tuple [.str "kind",.int i])=some []:=by
   show cV m (.str "kind") (.int i)=_
   unfold cV
   rw[if_pos Im,if_pos]
   show (true&&(decide (0<=i)&&decide (i<m)))=true
   rw[decide_eq_true h0,decide_eq_true h1];rfl
  rw[mx hf];rfl
 |@turn d c t hh ih=>
  intro n hn
  obtain⟨k,rfl⟩:∃k,n=k+1:=⟨n-1,∅⟩
  have hf:iC m (.tuple [.str "turn",t])=some [t]:=by
   show cV m (.str "turn") t=_
   unfold cV
   rw[if_neg (by rw[KJ];decide),if_pos JS]
  have:=mI (n:=k) (es:=[(d,c,t)]) hf fun e he=>by rw[List.mem_singleton.mp he];exact⟨ih k ∅,hh.pos.2⟩
  exact this
 |@grid d c t u v hu hv _ _ hh ih=>
  intro n hn
  obtain⟨k,rfl⟩:∃k,n=k+1:=⟨n-1,∅⟩
  have hf:iC m (.tuple [.str "grid",.int u,.int v,t])=some [t]:=by
   show mi (.str "grid") (.int u) (.int v) t=_
   unfold mi
   rw[if_pos Ez,if_pos]
   show ((true&&decide (1<=u))&&(true&&decide (1<=v)))=true
   rw[decide_eq_true hu,decide_eq_true hv];rfl
  have:=mI (n:=k) (es:=[(d,c,t)]) hf fun e he=>by rw[List.mem_singleton.mp he];exact⟨ih k ∅,hh.pos.2⟩
  exact this
 |upon es h2 h8 hd hh ih=>
  intro n hn
  obtain⟨k,rfl⟩:∃k,n=k+1:=⟨n-1,∅⟩
  exact mI (wN (.inl rfl) (by simpa using h2) (by simpa using h8)) fun e he=>⟨ih e he k (by have:=hd e he;omega),(hh e he).pos.2⟩
 |beside es h2 h8 hd hh ih=>
  intro n hn
  obtain⟨k,rfl⟩:∃k,n=k+1:=⟨n-1,∅⟩
  exact mI (wN (.inr rfl) (by simpa using h2) (by simpa using h8)) fun e he=>⟨ih e he k (by have:=hd e he;omega),(hh e he).pos.2⟩
noncomputable def Cu(a:Addr)(U Z:Mu):Prop:=Bag Z a/\∀b,b≠a->∀ds,U b=some ds->Z b=some ds
noncomputable def kx:DSp:=fun ds U Q=>∃(xs:List PyData) (i:Int) (y:PyData),ds=[.v (.tuple xs),.v (.int i),.v y]/\xs.length<=100/\∀zs,(∀z∈zs,z∈xs\/z=y)->Q (.v (.tuple zs)) U
theorem vw{U:Mu}{Q:DK}{ds:List D}(h:kx ds U Q):ds.length=3:=by obtain⟨_,_,_,rfl,_⟩:=h;rfl
noncomputable def dQ(n:Nat):DSp:=fun ds U Q=>∃(a:Addr) (t:PyData) (m:Int) (d c:Nat),ds=[.m a,.v t,.v (.int m)]/\Bag U a/\IsP m d c t/\d<=n/\∀x Z,Lt (2*n+6) x->Step a U Z->Q (.v x) Z
theorem zy{n:Nat}{U:Mu}{Q:DK}{ds:List D}(h:dQ n ds U Q):ds.length=3:=by obtain⟨_,_,_,_,_,rfl,_⟩:=h;rfl
theorem Au{U:Mu}{Q:DK}{ds:List D}(h:dQ 0 ds U Q):False:=by obtain⟨_,_,_,_,_,_,_,h1,h2,_⟩:=h;have:=h1.pos;omega
noncomputable def sY:DSp:=fun ds U Q=>∃(a:Addr) (m:Int),ds=[.m a,.v (.int m)]/\1<=m/\m<=3/\Bag U a/\∀d c t Z,IsP m d c t->d<=12->c<=60->Cu a U Z->Q (.v t) Z
theorem An{U:Mu}{Q:DK}{ds:List D}(h:sY ds U Q):ds.length=2:=by obtain⟨_,_,rfl,_⟩:=h;rfl
noncomputable def iX:DTS:=
 (bG (dOp je (dOp je (dSl (ah 0) nJ (dO (ah 1))) (bb (ae (ah 2) aj))) (dSl (ah 0) (dO (dOp je (ah 1) (dC (.int 1)))) nJ)))
noncomputable def cO:DTS:=
 (aM (bt (gC (ae (bb (ae (dC (.str "kind")) (ae (ah 2) aj))) (ae (bb (ae (dC (.str "kind")) (ae (Am (dC (.int 1))) aj))) (ae (bb (ae (dC (.str "kind")) (ae (dC (.bool true)) aj))) (ae (bb (ae (dC (.str "kind")) aj)) (ae (bb (ae (dC (.str "kind")) (ae (dC (.int 0)) (ae (dC (.int 0)) aj)))) (ae (gC (ae (dC (.str "kind")) (ae (dC (.int 0)) aj))) (ae (bb (ae (dC (.str "kind")) (ae (ah 3) aj))) (ae (ah 3) (ae (bb (ae (dC (.str "turn")) (ae (ah 1) (ae (ah 1) aj)))) (ae (bb (ae (dC (.str "upon")) (ae (bb (ae (ah 1) aj)) aj))) (ae (bb (ae (dC (.str "beside")) (ae (dOp ug (bb (ae (bb (ae (dC (.str "kind")) (ae (dC (.int 0)) aj))) aj)) (dC (.int 9))) aj))) (ae (bb (ae (dC (.str "upon")) (ae (gC (ae (ah 1) (ae (ah 1) aj))) aj))) (ae (bb (ae (dC (.str "beside")) (ae (bb aj) aj))) (ae (bb (ae (dC (.str "turn")) (ae (ah 1) aj))) (ae (bb (ae (dC (.str "grid")) (ae (dC (.int 0)) (ae (dC (.int 1)) (ae (ah 1) aj))))) (ae (bb (ae (dC (.str "grid")) (ae (dC (.int 2)) (ae (ah 3) (ae (ah 1) aj))))) (ae (bb (ae (dC (.str "grid")) (ae (dC (.bool true)) (ae (dC (.int 1)) (ae (ah 1) aj))))) (ae (bb (ae (dC (.str "grid")) (ae (dC (.int 1)) (ae (ah 1) aj)))) (ae (bb (ae (dC (.str "grid")) (ae (dC (.int 1)) (ae (dC (.int 1)) (ae (dC (.int 1)) (ae (ah 1) aj)))))) (ae (bb (ae (dC (.str "Turn")) (ae (ah 1) aj))) (ae (bb (ae (dC (.str "upon")) (ae (ah 1) (ae (ah 1) aj)))) (ae (bb (ae (dC (.str "upon")) (ae (bb (ae (ah 1) (ae (ah 1) aj))) aj))) (ae (dOp je (ah 1) (bb (ae (ah 3) aj))) (ae (dCB oH (ae (ah 1) aj)) (ae (dOp je (bb (ae (ah 3) aj)) (dSl (ah 1) (dO (dC (.int 1))) nJ)) (ae (bb (ae (dC (.str "beside")) (ae (bb (ae (ah 1) (ae (ah 3) aj))) aj))) aj))))))))))))))))))))))))))) (ao 6))
 (bG (dOp bg (ah 6) (aK cF (ae (ah 0) (ae (dC (.int 26)) aj))))))
noncomputable def gH(n:Nat):DTS:=
 (aM (bt (aK CU (ae (ah 0) aj)) (ao 3))
 (aM (bt (aK cF (ae (ah 0) (ae (dC (.int 10)) aj))) (ao 4))
 (aM (bN (kb (dB (dOp (bI true) (dOp bg (ah 1) (dC (.int 0))) (dC (.str "kind")))) (dB (dOp rLt (ah 4) (dC (.int 6))))) (aM (bN (dB (dOp (Eo false) (dOp bg (ah 1) (dC (.int 0))) (gC (ae (dC (.str "upon")) (ae (dC (.str "beside")) aj))))) (aM (bt (aK cF (ae (ah 0) (ae (dCB cC (ae (dOp bg (ah 1) (dC (.int 1))) aj)) aj))) (ao 5))
 (bG (bb (ae (dOp bg (ah 1) (dC (.int 0))) (ae (aK kx (ae (dOp bg (ah 1) (dC (.int 1))) (ae (ah 5) (ae (aK (dQ n) (ae (ah 0) (ae (dOp bg (dOp bg (ah 1) (dC (.int 1))) (ah 5)) (ae (ah 2) aj)))) aj)))) aj))))) br)
 (bG (dOp je (dSl (ah 1) nJ (dO (Am (dC (.int 1))))) (bb (ae (aK (dQ n) (ae (ah 0) (ae (dOp bg (ah 1) (Am (dC (.int 1)))) (ae (ah 2) aj)))) aj))))) br)
 (cO))))
section
variable {U:Mu}{Qd:DK}{ds:List D}
theorem yQ{xs:List PyData}{lo hi:Option Int}:∀x∈oK xs lo hi,x∈xs:=fun x hx=>by
 unfold oK at hx
 exact List.mem_of_mem_drop (List.mem_of_mem_take hx)
theorem BG{xs:List PyData}{lo hi:Option Int}:(oK xs lo hi).length<=xs.length:=by
 unfold oK
 rw[length_take,List.length_drop];omega
theorem sC(h:kx ds U Qd):iX ‹Qd› (aY ["","",""] ds) U:=by
 obtain⟨xs,i,y,rfl,hl,q⟩:=h
 unfold iX
 walk_at "rt"
 have l1:=BG (xs:=xs) (lo:=none) (hi:=some i)
 have l2:=BG (xs:=xs) (lo:=some (i+1)) (hi:=none)
 refine⟨by first|omega|(simp;omega),by first|omega|(simp;omega),q _ fun z hz=>?_⟩
 rcases List.mem_append.mp hz with w|w
 ·rcases List.mem_append.mp w with w|w
  ·exact .inl (yQ z w)
  ·exact .inr (List.mem_singleton.mp w)
 ·exact .inl (yQ z w)
theorem Jo:∀x∈qd,Lt 2 x:=by
 have h:∀x∈qd,x.canLay0=true/\x.depth<=2:=nofun
 exact fun x hx=>⟨(h x hx).1,(h x hx).2⟩
theorem L8{xs:List PyData}{n:Nat}(h:Lt n (.tuple xs)):∀x∈xs,Lt n x:=fun x hx=>
 ⟨yv (by have:=h.lay;rw[PyData.canLay0] at this;exact this) x hx,by have:=h.dep;rw[PyData.depth] at this;exact qC (n:=n) ∅ x hx⟩
theorem Nt{P:PyData->Prop}{a b c d e:PyData}(ha:P a)(hb:P b)(hc:P c)(hd:P d)(he:P e):∀x∈[a,b,c,d,e],P x:=fun x hx=>by
 simp only[mem_cons,not_mem_nil,or_false] at hx
 rcases hx with rfl|rfl|rfl|rfl|rfl<;>assumption
theorem DP{a:Addr}{ys:List PyData}{m:Int}{o:PyData}{k:Nat}{r4 r5 r6:Option D}{Dd:kc}(hb:Bag U a)(ht:Lt k (.tuple ys))(hy:ys.length<=10)(ho:Lt 2 o)
  (q:∀x Z,Lt (k+5) x->Step a U Z->Dd.rt (.v x) Z):cO Dd [some (.m a),some (.v (.tuple ys)),some (.v (.int m)),some (.v o),r4,r5,r6] U:=by
 unfold cO
 walk_at "rt"
 have lc:=BG (xs:=ys) (lo:=some 1) (hi:=none)
 refine⟨⟨⋯,⋯,by simp,⋯⟩,∅,∅,a,26,rfl,⋯,⋯,hb,fun r ad r0 r1 s1=>?_⟩
 have hm:=L8 ht
 have ho':∀{n:Nat},2<=n->Lt n o:=fun h=>ho.mono h
 have T:∀{xs:List PyData},(∀x∈xs,Lt (k+2) x)->Lt (k+5) (.tuple xs):=fun h=>(dr h).mono ∅
 have t2:Lt (k+2) (.tuple ys):=ht.mono ∅
 have t3:Lt (k+3) (.tuple ys):=ht.mono ∅
 have T4:∀{xs:List PyData},(∀x∈xs,Lt (k+4) x)->Lt (k+5) (.tuple xs):=fun h=>dr h
 obtain⟨_,e1,w⟩:=pick (P:=fun v=>Lt (k+5) v) (xs:=[PyData.tuple [.str "kind",.int m],.tuple [.str "kind",.int (-1)],.tuple [.str "kind",.bool true],.tuple [.str "kind"],.tuple [.str "kind",.int 0,.int 0],.list [.str "kind",.int 0],.tuple [.str "kind",o],o,.tuple [.str "turn",.tuple ys,.tuple ys],.tuple [.str "upon",.tuple [.tuple ys]],.tuple [.str "beside",.tuple (List.replicate (Int.toNat 9) [PyData.tuple [.str "kind",.int 0]]).flatten],.tuple [.str "upon",.list [.tuple ys,.tuple ys]],.tuple [.str "beside",.tuple []],.tuple [.str "turn",.tuple ys],.tuple [.str "grid",.int 0,.int 1,.tuple ys],.tuple [.str "grid",.int 2,o,.tuple ys],.tuple [.str "grid",.bool true,.int 1,.tuple ys],.tuple [.str "grid",.int 1,.tuple ys],.tuple [.str "grid",.int 1,.int 1,.int 1,.tuple ys],.tuple [.str "Turn",.tuple ys],.tuple [.str "upon",.tuple ys,.tuple ys],.tuple [.str "upon",.tuple [.tuple ys,.tuple ys]],.tuple (ys++[o]),.list ys,.tuple (o::oK ys (some 1) none),.tuple [.str "beside",.tuple [.tuple ys,o]]]) r0 (by exact r1) (by
  refine cN ?_ <| cN ?_ <| cN ?_ <| cN ?_ <| cN ?_ <| cN ?_ <| cN ?_ <| cN ?_ <| cN ?_ <| cN ?_ <| cN ?_ <| cN ?_ <| cN ?_ <| cN ?_ <| cN ?_ <| cN ?_ <| cN ?_ <| cN ?_ <| cN ?_ <| cN ?_ <| cN ?_ <| cN ?_ <| cN ?_ <| cN ?_ <| cN ?_ <| cN ?_ <| IP
  ·exact T (all2 xQ lt_int)
  ·exact T (all2 xQ lt_int)
  ·exact T (all2 xQ lt_bool)
  ·exact T (all1 xQ)
  ·exact T (Ib xQ lt_int lt_int)
  ·exact (BZ (n:=0) (all2 xQ lt_int)).mono ∅
  ·exact T (all2 xQ (ho' ∅))
  ·exact ho' ∅
  ·exact T (Ib DQ t2 t2)
  ·exact T4 (all2 AS (dr (all1 t3)))
  ·exact T4 (all2 A5 (Lt.mono (n:=2) ⟨nofun,nofun⟩ ∅))
  ·exact T4 (all2 AS (BZ (all2 t3 t3)))
  ·exact T4 (all2 A5 (dr fun x hx=>nomatch hx))
  ·exact T (all2 DQ t2)
  ·exact T (Ef vS lt_int lt_int t2)
  ·exact T (Ef vS lt_int (ho' ∅) t2)
  ·exact T (Ef vS lt_bool lt_int t2)
  ·exact T (Ib vS lt_int t2)
  ·exact T (Nt vS lt_int lt_int lt_int t2)
  ·exact T (all2 M9 t2)
  ·exact T (Ib AS t2 t2)
  ·exact T4 (all2 AS (dr (all2 t3 t3)))
  ·exact T fun x hx=>by
    rcases List.mem_append.mp hx with z|z
    ·exact (hm x z).mono ∅
    ·rw[List.mem_singleton.mp z];exact ho' ∅
  ·exact (BZ hm).mono ∅
  ·exact T fun x hx=>by
    rcases List.mem_cons.mp hx with z|z
    ·rw[z];exact ho' ∅
    ·exact (hm x (yQ x z)).mono ∅
  ·exact T4 (all2 A5 (dr (all2 t3 (ho' ∅)))))
 walk_at "rt"
 rw[e1]
 exact q _ ad w s1
theorem wo{n:Nat}{a:Addr}{m:Int}{w:Str}{d':Nat}{es:List (Nat×Nat×PyData)}(hw:∀{k:Nat},Lt k (.str w))(h2:2<=es.length)(h8:es.length<=8)(he:∀e∈es,e.1<=d')(hh:∀e∈es,IsP m e.1 e.2.1 e.2.2)(hd:d'<=n)(hb:Bag U a)
  (q:∀x Z,Lt (2*(n+1)+6) x->Step a U Z->Qd (.v x) Z) :
  cC [.v (.tuple (es.map (·.2.2)))] U fun x ad=>cF [.m a,x] ad fun d ad=>bg (.v (.tuple (es.map (·.2.2)))) d ad fun x ad=>dQ n [.m a,x,.v (.int m)] ad fun x ad=>kx [.v (.tuple (es.map (·.2.2))),d,x] ad fun x ad=>
   match Option.map (fun x=>PyData.str w::x) (cD [x]) with
   |some xs=>Qd (.v (.tuple xs)) ad
   |none=>False:=by
 walk_at "rt"
 have hl:(es.map (·.2.2)).length=es.length:=length_map _
 refine⟨a,_,rfl,by rw[hl];omega,by rw[hl];omega,hb,fun i ad i0 i1 s1=>?_⟩
 have hin:∀v∈es.map (·.2.2),∃e∈es,v=e.2.2:=fun v hv=>by obtain⟨e,h,rfl⟩:=List.mem_map.mp hv;exact⟨e,h,rfl⟩
 obtain⟨_,e1,e,hee,rfl⟩:=pick (P:=fun v=>∃e∈es,v=e.2.2) (xs:=es.map (·.2.2)) i0 i1 hin
 walk_at "rt"
 rw[e1]
 have:=he e hee
 refine⟨a,_,m,e.1,e.2.1,rfl,s1.1,hh e hee,∅,fun x al hx s2=>?_⟩
 refine⟨_,i,x,rfl,by rw[hl];omega,fun zs hz=>?_⟩
 walk_at "rt"
 refine q _ al ?_ (s1.trans s2)
 have hz':∀z∈zs,Lt (2*n+6) z:=fun z hzz=>by
  rcases hz z hzz with w'|w'
  ·obtain⟨e',h',rfl⟩:=hin z w'
   exact (hh e' h').lt.mono (by have:=he e' h';omega)
  ·rw[w'];exact hx
 exact (dr (all2 hw (dr hz'))).mono ∅
theorem qy(n:Nat)(h:dQ (n+1) ds U Qd):gH n ‹Qd› (aY ["","","","","","",""] ds) U:=by
 obtain⟨a,t,m,d,c,rfl,hb,hp,hd,q⟩:=h
 have hl:=hp.lt
 unfold gH
 walk_at "rl"
 refine⟨a,rfl,hb,fun o ad ho s1=>?_⟩
 have lo:=Jo o ho
 walk_at "rl"
 refine⟨a,10,rfl,⋯,⋯,s1.1,fun w al w0 w1 s2=>?_⟩
 walk_at "rl"
 have s12:=s1.trans s2
 have tail:∀(ys:List PyData) (r5 r6:Option D),t = .tuple ys->ys.length<=10->cO ‹Qd› [some (.m a),some (.v (.tuple ys)),some (.v (.int m)),some (.v o),some (.v (.int w)),r5,r6] al:=fun ys r5 r6 e hy=>by
  subst e
  exact DP s2.1 hl hy lo fun x Z hx s=>q x Z (hx.mono ∅) (s12.trans s)
 cases hp with
 |kind i i0 i1=>
  walk_at "rl"
  exact tail _ _ _ rfl (by simp)
 |@turn d' c' t' hh=>
  walk_at "rl"
  by_cases c6:w<6
  ·rw[n9 (by simpa using c6)]
   walk_at "rl"
   refine⟨xH,(DQ (n:=60)).lay,(DQ (n:=60)).dep,?_⟩
   have eany:([PyData.str "upon",.str "beside"].any fun b=>PyData.eqv b (.str "turn"))=false:=by simp only[any_cons,any_nil,ky,K4,Jt,Bool.or_false]
   rw[eany]
   walk_at "rl"
   show dQ n [.m a,.v t',.v (.int m)] al _
   refine⟨a,t',m,d',c',rfl,s2.1,hh,∅,fun x bd hx s3=>?_⟩
   walk_at "rl"
   refine⟨by show 1+1<=1000;decide,q _ bd ?_ (s12.trans s3)⟩
   show Lt (2*(n+1)+6) (.tuple [.str "turn",x])
   exact (dr (all2 DQ hx)).mono ∅
  ·rw[j7 (by simpa using c6)]
   walk_at "rl"
   exact tail _ _ _ rfl (by simp)
 |@grid d' c' t' u v hu hv _ _ hh=>
  walk_at "rl"
  by_cases c6:w<6
  ·rw[n9 (by simpa using c6)]
   walk_at "rl"
   refine⟨xH,(vS (n:=60)).lay,(vS (n:=60)).dep,?_⟩
   have eany:([PyData.str "upon",.str "beside"].any fun b=>PyData.eqv b (.str "grid"))=false:=by simp only[any_cons,any_nil,ky,Ie,G3,Bool.or_false]
   rw[eany]
   walk_at "rl"
   show dQ n [.m a,.v t',.v (.int m)] al _
   refine⟨a,t',m,d',c',rfl,s2.1,hh,∅,fun x bd hx s3=>?_⟩
   walk_at "rl"
   refine⟨by show 3+1<=1000;decide,q _ bd ?_ (s12.trans s3)⟩
   show Lt (2*(n+1)+6) (.tuple [.str "grid",.int u,.int v,x])
   exact (dr (Ef vS lt_int lt_int hx)).mono ∅
  ·rw[j7 (by simpa using c6)]
   walk_at "rl"
   exact tail _ _ _ rfl (by simp)
 |@upon d' es h2 h8 he hh=>
  walk_at "rl"
  by_cases c6:w<6
  ·rw[n9 (by simpa using c6)]
   walk_at "rl"
   refine⟨xH,(AS (n:=60)).lay,(AS (n:=60)).dep,?_⟩
   have eany:([PyData.str "upon",.str "beside"].any fun b=>PyData.eqv b (.str "upon"))=true:=by simp only[any_cons,any_nil,ky,Ky,Bool.true_or]
   rw[eany]
   walk_at "rl"
   exact wo (w:="upon") AS h2 h8 he hh ∅ s2.1 fun x bd hx s3=>q x bd hx (s12.trans s3)
  ·rw[j7 (by simpa using c6)]
   walk_at "rl"
   exact tail _ _ _ rfl (by simp)
 |@beside d' es h2 h8 he hh=>
  walk_at "rl"
  by_cases c6:w<6
  ·rw[n9 (by simpa using c6)]
   walk_at "rl"
   refine⟨xH,(A5 (n:=60)).lay,(A5 (n:=60)).dep,?_⟩
   have eany:([PyData.str "upon",.str "beside"].any fun b=>PyData.eqv b (.str "beside"))=true:=by simp only[any_cons,any_nil,ky,KY,JE,Bool.false_or,Bool.true_or]
   rw[eany]
   walk_at "rl"
   exact wo (w:="beside") A5 h2 h8 he hh ∅ s2.1 fun x bd hx s3=>q x bd hx (s12.trans s3)
  ·rw[j7 (by simpa using c6)]
   walk_at "rl"
   exact tail _ _ _ rfl (by simp)
end
abbrev E3:=Nat×Nat×PyData
def jx(e:E3):PyData:=.tuple [.int (e.1:Nat),.int (e.2.1:Nat),e.2.2]
noncomputable def Gd(m:Int)(e:E3):Prop:=IsP m e.1 e.2.1 e.2.2/\e.1<=12/\e.2.1<=60
structure Pl(a l:Addr)(m:Int)(gV U:Mu)(es:List E3):Prop where
 ne:l≠a
 bag:Bag U a
 at_:U l=some (es.map jx)
 gd:∀e∈es,Gd m e
 kept:∀b,b≠a->b≠l->∀ds,gV b=some ds->U b=some ds
noncomputable def gn:DTS:=
 (aM (bt (dCB lq (ae (dq [none,none,none] (iV (ah 11)) (eD 3 (bc (ao 0) (bc (ao 1) (bc (ao 2) fg)))) iL (ah 2)) aj)) (ao 12))
 (aM (bt (dq [none,none,none] (iV (ah 11)) (eD 3 (bc (ao 0) (bc (ao 1) (bc (ao 2) fg)))) iL (ah 1)) (ao 13))
 (aM (bt (dJ (dC (.int 1)) (dCB zg (ae (dq [none,none,none] (iV (ah 11)) (eD 3 (bc (ao 0) (bc (ao 1) (bc (ao 2) fg)))) iL (ah 0)) aj))) (ao 14))
 (bt (bb (ae (ah 14) (ae (dJ (dC (.int 1)) (dCB wz (ae (ah 13) aj))) (ae (bb (ae (dOp bg (gC (ae (dC (.str "upon")) (ae (dC (.str "beside")) aj))) (xq (ah 8) (dC (.int 2)))) (ae (ah 12) aj))) aj)))) (ao 9)))))
noncomputable def jv:DTS:=
 (aM (bt (dCB (zV min) (ae (dCB cC (ae (ah 3) aj)) (ae (dJ (dC (.int 1)) (aK cF (ae (ah 0) (ae (dOp bg (gC (ae (dC (.int 1)) (ae (dC (.int 1)) (ae (dC (.int 2)) (ae (dC (.int 7)) aj))))) (aK cF (ae (ah 0) (ae (dC (.int 4)) aj)))) aj)))) aj))) (ao 10))
 (aM (bt (dOp je (gC (ae (bb (ae (ah 5) (ae (ah 6) (ae (ah 7) aj)))) aj)) (dq [none,some 3,some 0] (mE (ae (ah 10) aj)) (ao 0) iL (qJ (ah 1) (aK cF (ae (ah 2) (ae (dCB cC (ae (ah 1) aj)) aj)))))) (ao 11))
 (aM (bN (dB (dOp (bI false) (dCB cC (ae (ah 11) aj)) (dC (.int 1)))) (bt (dOp je (ah 11) (ah 11)) (ao 11)) br)
 (gn))))
noncomputable def gv:DTS:=
 (aM (bN (km (dB (dOp rGt (dOp bg (ah 9) (dC (.int 0))) (dC (.int 12)))) (dB (dOp rGt (dOp bg (ah 9) (dC (.int 1))) (dC (.int 60))))) (bG (ah 7)) br)
 (aM (mK (BD (ah 3) (ah 9)))
 (bN (kb (dB (dOp (bI false) (dCB cC (ae (ah 3) aj)) (dC (.int 1)))) (dB (dOp (bI false) (aK cF (ae (ah 0) (ae (dC (.int 3)) aj))) (dC (.int 0))))) (bG (dOp bg (ah 9) (dC (.int 2)))) br)))
noncomputable def jE:DTS:=
 (aM (Bb (mE (ae (dC (.int 30)) aj)) (ao 4) (aM (bt (qJ (ah 3) (aK cF (ae (ah 0) (ae (dCB cC (ae (ah 3) aj)) aj)))) (eD 3 (bc (ao 5) (bc (ao 6) (bc (ao 7) fg)))))
 (aM (bt (aK cF (ae (ah 0) (ae (dC (.int 6)) aj))) (ao 8))
 (aM (bN (dB (dOp (bI false) (ah 8) (dC (.int 0)))) (bt (bb (ae (dJ (ah 5) (dC (.int 1))) (ae (dJ (ah 6) (dC (.int 1))) (ae (bb (ae (dC (.str "turn")) (ae (ah 7) aj))) aj)))) (ao 9)) (bN (dB (dOp (bI false) (ah 8) (dC (.int 1)))) (bt (bb (ae (dJ (ah 5) (dC (.int 1))) (ae (dJ (ah 6) (dC (.int 1))) (ae (bb (ae (dC (.str "grid")) (ae (aK tQ (ae (ah 0) aj)) (ae (aK tQ (ae (ah 0) aj)) (ae (ah 7) aj))))) aj)))) (ao 9)) (jv)))
 (gv)))))
 (bG (dOp bg (dOp bg (ah 3) (dC (.int 0))) (dC (.int 2)))))
noncomputable def lY:DTS:=
 (aM (bt (dJ (dC (.int 1)) (aK cF (ae (ah 0) (ae (dOp bg (gC (ae (dC (.int 2)) (ae (dC (.int 4)) (ae (dC (.int 12)) aj)))) (aK cF (ae (ah 0) (ae (dC (.int 3)) aj)))) aj)))) (ao 2))
 (aM (bt (yh [none,some 0,some 1] (mE (ae (ah 2) aj)) (ao 0) iL (bb (ae (dC (.int 1)) (ae (dC (.int 1)) (ae (bb (ae (dC (.str "kind")) (ae (aK cF (ae (ah 1) (ae (ah 2) aj))) aj))) aj))))) (ao 3))
 (jE)))
section
variable {U gV:Mu}{Qd:DK}{ds:List D}{a l:Addr}{m:Int}{es:List E3}{ρ:Rho}{i j:Nat}
theorem Jv{d:D}(h:ρ[i]? = some (some d)):ah i ρ U Qd=Qd d U:=by unfold ah;rw[h]
theorem EW{α β:Type}(f:α->β):∀(xs:List α) (i:Nat),(xs.map f).eraseIdx i=(xs.eraseIdx i).map f
 |[],_=>rfl
 |_::_,0=>rfl
 |x::r,i+1=>by simp only[map_cons,List.eraseIdx_cons_succ,EW f r i]
theorem Pl.step{Z:Mu}(h:Pl a l m gV U es)(s:Step a U Z):Pl a l m gV Z es:=⟨h.ne,s.1,by rw[s.2 l h.ne];exact h.at_,h.gd,fun b n1 n2 ds e=>by rw[s.2 b n1];exact h.kept b n1 n2 ds e⟩
theorem Bag.set{x:List PyData}(h:Bag U a)(n:l≠a):Bag (aF U l x) a:=by
 obtain⟨g,k,e,z⟩:=h
 exact⟨g,k,by rw[ba (Ne.symm n)];exact e,z⟩
theorem Pl.set{fs:List E3}(h:Pl a l m gV U es)(g:∀e∈fs,Gd m e):Pl a l m gV (aF U l (fs.map jx)) fs:=
 ⟨h.ne,h.bag.set h.ne,aT,g,fun b n1 n2 ds e=>by rw[ba n2];exact h.kept b n1 n2 ds e⟩
theorem Pl.off{p:Addr}{x:List PyData}(h:Pl a l m gV U es)(pa:p≠a)(pl:p≠l)(p0:gV p=none):Pl a l m gV (aF U p x) es:=
 ⟨h.ne,h.bag.set pa,by rw[ba (Ne.symm pl)];exact h.at_,h.gd,fun b n1 n2 ds e=>by
  have hb:b≠p:=fun z=>by rw[z,p0] at e;cases e
  rw[ba hb];exact h.kept b n1 n2 ds e⟩
theorem Pl.del{p:Addr}(h:Pl a l m gV U es)(pa:p≠a)(pl:p≠l)(p0:gV p=none):Pl a l m gV (gk U p) es:=
 ⟨h.ne,by obtain⟨g,k,e,z⟩:=h.bag;exact⟨g,k,by rw[kQ (Ne.symm pa)];exact e,z⟩,by rw[kQ (Ne.symm pl)];exact h.at_,h.gd,fun b n1 n2 ds e=>by
  have hb:b≠p:=fun z=>by rw[z,p0] at e;cases e
  rw[kQ hb];exact h.kept b n1 n2 ds e⟩
theorem Pl.fresh{p:Addr}(h:Pl a l m gV U es)(hp:U p=none):p≠a/\p≠l/\gV p=none:=by
 have h1:p≠a:=fun z=>by obtain⟨g,k,e,_⟩:=h.bag;rw[z,e] at hp;cases hp
 have h2:p≠l:=fun z=>by rw[z,h.at_] at hp;cases hp
 refine⟨h1,h2,?_⟩
 cases e:gV p with
 |none=>rfl
 |some ds=>rw[h.kept p h1 h2 ds e] at hp;cases hp
theorem Pl.w(h:Pl a l m gV U es)(hl:gV l=none):Cu a gV U:=⟨h.bag,fun b n ds e=>h.kept b n (fun z=>by rw[z,hl] at e;cases e) ds e⟩
theorem Cq(h:Pl a l m gV U es)(h1:1<=es.length)(h2:es.length<=100)(hi:ρ[i]? = some (some (.m l)))(hj:ρ[j]? = some (some (.m a)))
  (q:∀(e:E3) (fs:List E3) (Z:Mu),Gd m e->fs.length+1=es.length->Pl a l m gV Z fs->(∀b,b≠a->b≠l->Z b=U b)->Qd (.v (jx e)) Z) :
  qJ (ah i) (aK cF (ae (ah j) (ae (dCB cC (ae (ah i) aj)) aj))) ρ U Qd:=by
 simp only[CG,B9,kh,nY,GL,Jv hi,Jv hj,ua,h.at_,length_map]
 refine⟨a,_,rfl,∅,∅,h.bag,fun r ad r0 r1 s1=>?_⟩
 have h':=h.step s1
 simp only[h'.at_]
 obtain⟨k,rfl⟩:∃k:Nat,r=k:=⟨r.toNat,∅⟩
 have hk:k<es.length:=by omega
 refine⟨⟨∅,∅⟩,jx es[k],by simp[hk],?_⟩
 rw[EW]
 have hs:=h'.set (fs:=es.eraseIdx k) fun e he=>h.gd e (List.mem_of_mem_eraseIdx he)
 refine q es[k] _ _ (h.gd _ (List.getElem_mem hk)) (by rw[List.length_eraseIdx_of_lt hk];omega) hs fun b n1 n2=>?_
 rw[ba n2,s1.2 b n1]
theorem MZ{k:Nat}(h:Pl a l m gV U es)(hk:k<=es.length)(h2:es.length<=100)(h3:ρ[3]? = some (some (.m l)))(h0:ρ[0]? = some (some (.m a)))(h10:ρ[10]? = some (some (.v (.int (k:Nat)))))
  (q:∀(gs fs:List E3) (Z:Mu),(∀e∈gs,Gd m e)->gs.length=k->fs.length<=es.length->Pl a l m gV Z fs->Qd (.v (.list (gs.map jx))) Z) :
  dq [none,some 3,some 0] (mE (ae (ah 10) aj)) (ao 0) iL (qJ (ah 1) (aK cF (ae (ah 2) (ae (dCB cC (ae (ah 1) aj)) aj)))) ρ U Qd:=by
 rw[lF]
 simp only[nh,kh,nY,Jv h10]
 refine⟨⟨∅,∅⟩,by rw[uI];omega,fun p hp=>?_⟩
 obtain⟨pa,pl,p0⟩:=h.fresh hp
 refine⟨fun i acc Z=>∃gs fs:List E3,acc=gs.map jx/\gs.length=i/\fs.length+i=es.length/\(∀e∈gs,Gd m e)/\Pl a l m gV Z fs,⟨[],es,rfl,rfl,rfl,(fun _ z=>nomatch z),h.off pa pl p0⟩,?_,?_⟩
 ·rintro i x acc Z hx hacc ⟨gs,fs,rfl,hg,hf,gd,hP⟩
  obtain⟨rfl,hi⟩:=EN hx
  simp only[iz,mH,oN,h3,h0,bind_some,bind_none,join_some,set_cons_zero,rj,↓reduceIte,wZ,zR,wG,true_and,and_true]
  refine Cq hP ∅ ∅ rfl rfl fun e fs' ad he hl P1 kp=>?_
  refine⟨by rw[kp p pa pl];exact hacc,gs++[e],fs',by simp,by simp[hg],∅,fun e' he'=>?_,P1.off pa pl p0⟩
  rcases List.mem_append.mp he' with z|z
  ·exact gd e' z
  ·rw[List.mem_singleton.mp z];exact he
 ·rintro acc Z ⟨gs,fs,rfl,hg,hf,gd,hP⟩ hacc
  rw[uI] at hg hf
  exact q gs fs _ gd ∅ ∅ (hP.del pa pl p0)
theorem EK{k:Nat}{f:E3->PyData}{te:DTE}(hs:∀Q,te ρ U Q=Q (.v (.list (es.map jx))) U)(hl:es.length<=100)(hf:∀(e:E3) (Z:Mu) (Q:DK),ah k [some (.v (.int (e.1:Nat))),some (.v (.int (e.2.1:Nat))),some (.v e.2.2)] Z Q=Q (.v (f e)) Z)
  (q:Qd (.v (.list (es.map f))) U):dq [none,none,none] (iV te) (eD 3 (bc (ao 0) (bc (ao 1) (bc (ao 2) fg)))) iL (ah k) ρ U Qd:=by
 rw[lF,mM,hs]
 refine⟨by rw[length_map];omega,fun p hp=>⟨fun i acc Z=>acc=(es.take i).map f/\Z=aF U p acc,⟨by simp,rfl⟩,?_,?_⟩⟩
 ·rintro i x acc Z hx hacc ⟨rfl,rfl⟩
  rw[getElem?_map] at hx
  obtain⟨e,he,rfl⟩:∃e,es[i]? = some e/\jx e=x:=by
   cases z:es[i]? with
   |none=>rw[z] at hx;cases hx
   |some e=>rw[z] at hx;exact⟨e,rfl,by simpa using hx⟩
  unfold jx
  simp only[vh,pj,u7,iz,mH,oN,bind_none,set_cons_zero,set_cons_succ,rj,↓reduceIte,wZ,wG,true_and,hf,length_cons,length_nil]
  refine⟨hacc,?_,?_⟩
  ·rw[take_succ,he];simp
  ·rw[qF]
 ·rintro acc Z ⟨rfl,rfl⟩ hacc
  rw[wR hp,length_map,take_length]
  exact q
theorem tX(es:List E3)(f:E3->Nat):bZ (es.map fun e=>PyData.int (f e:Nat))=some (es.map fun e=>((f e:Nat):Int)):=by
 induction es with
 |nil=>rfl
 |cons c r ih=>simp only[map_cons,bZ,ih,map_some]
theorem HI(es:List E3):(es.map fun e=>((e.2.1:Nat):Int)).sum=(((es.map (·.2.1)).sum:Nat):Int):=by
 induction es with
 |nil=>rfl
 |cons c r ih=>simp only[map_cons,sum_cons,ih];omega
theorem DZ{r0 r1 r2 r3 r4 r5 r6 r7 r9 r10 r12 r13 r14:Option D}{Dd:kc}{w:Int}(h2:2<=es.length)(h8:es.length<=8)(gd:∀e∈es,Gd m e)
  (q:∀(e:E3) (s12 s13 s14:Option D),IsP m e.1 e.2.1 e.2.2->Dd.nx [r0,r1,r2,r3,r4,r5,r6,r7,some (.v (.int w)),some (.v (jx e)),r10,some (.v (.list (es.map jx))),s12,s13,s14] U) :
  gn Dd [r0,r1,r2,r3,r4,r5,r6,r7,some (.v (.int w)),r9,r10,some (.v (.list (es.map jx))),r12,r13,r14] U:=by
 unfold gn
 walk_at "rl"
 refine EK (f:=fun e=>e.2.2) (fun Q=>nM) ∅ (fun e Z Q=>uj) ?_
 walk_at "rl"
 refine EK (f:=fun e=>.int (e.2.1:Nat)) (fun Q=>nM) ∅ (fun e Z Q=>tU) ?_
 walk_at "rl"
 refine EK (f:=fun e=>.int (e.1:Nat)) (fun Q=>nM) ∅ (fun e Z Q=>ui) ?_
 walk_at "rl"
 simp only[tX]
 refine⟨by rw[length_map];omega,fun M h1 hM=>?_⟩
 simp only[tX,HI]
 refine⟨⋯,?_⟩
 obtain⟨e,he,rfl⟩:=List.mem_map.mp h1
 obtain⟨_,e1,ws,rfl,hws⟩:=pick (P:=fun v=>∃w:Str,v = .str w/\(w = "upon"\/w = "beside")) (xs:=[.str "upon",.str "beside"]) (i:=w.fmod 2) (Int.fmod_nonneg_of_pos _ ⋯) (Int.fmod_lt_of_pos _ ⋯) (by
  refine cN ?_ <| cN ?_ <| IP
  ·exact⟨_,rfl,.inl rfl⟩
  ·exact⟨_,rfl,.inr rfl⟩)
 rw[e1]
 walk_at "rl"
 have hd:∀x∈es,x.1<=e.1:=fun x hx=>by have:=hM (x.1:Int) (List.mem_map.mpr ⟨x,hx,rfl⟩);omega
 have hp:∀x∈es,IsP m x.1 x.2.1 x.2.2:=fun x hx=>(gd x hx).1
 have eA:(1:Int)+(e.1:Nat)=((e.1+1:Nat):Int):=by omega
 have eB:(1:Int)+((es.map (·.2.1)).sum:Nat)=(((es.map (·.2.1)).sum+1:Nat):Int):=by omega
 rcases hws with rfl|rfl
 ·have hN:=IsP.upon (d:=e.1) es h2 h8 hd hp
  have:=q (e.1+1,(es.map (·.2.1)).sum+1,_) (some (.v (.tuple (es.map fun e=>e.2.2)))) (some (.v (.list (es.map fun e=>PyData.int (e.2.1:Nat))))) (some (.v (.int ((e.1+1:Nat):Int)))) hN
  rw[eA,eB]
  exact this
 ·have hN:=IsP.beside (d:=e.1) es h2 h8 hd hp
  have:=q (e.1+1,(es.map (·.2.1)).sum+1,_) (some (.v (.tuple (es.map fun e=>e.2.2)))) (some (.v (.list (es.map fun e=>PyData.int (e.2.1:Nat))))) (some (.v (.int ((e.1+1:Nat):Int)))) hN
  rw[eA,eB]
  exact this
theorem Ed{r2 r4 r9 r10 r11 r12 r13 r14:Option D}{Dd:kc}{e0:E3}{w:Int}(h:Pl a l m gV U es)(h2:es.length<=20)(g0:Gd m e0)
  (q:∀(e:E3) (fs:List E3) (Z:Mu) (s10 s11 s12 s13 s14:Option D),IsP m e.1 e.2.1 e.2.2->fs.length<=es.length->Pl a l m gV Z fs->Dd.nx [some (.m a),some (.v (.int m)),r2,some (.m l),r4,some (.v (.int (e0.1:Nat))),some (.v (.int (e0.2.1:Nat))),some (.v e0.2.2),some (.v (.int w)),some (.v (jx e)),s10,s11,s12,s13,s14] Z) :
  jv Dd [some (.m a),some (.v (.int m)),r2,some (.m l),r4,some (.v (.int (e0.1:Nat))),some (.v (.int (e0.2.1:Nat))),some (.v e0.2.2),some (.v (.int w)),r9,r10,r11,r12,r13,r14] U:=by
 unfold jv
 walk_at "rl"
 simp only[h.at_,length_map]
 refine⟨a,4,rfl,⋯,⋯,h.bag,fun r ad r0 r1 s1=>?_⟩
 walk_at "rl"
 obtain⟨_,e1,n,rfl,n1,n7⟩:=pick (P:=fun v=>∃n:Int,v = .int n/\1<=n/\n<=7) (xs:=[.int 1,.int 1,.int 2,.int 7]) r0 (by exact r1) (by
  intro v hv
  simp only[mem_cons,not_mem_nil,or_false] at hv
  rcases hv with rfl|rfl|rfl|rfl<;>exact⟨_,rfl,⋯,⋯⟩)
 rw[e1]
 refine⟨a,n,rfl,n1,∅,s1.1,fun u al u0 u1 s2=>?_⟩
 walk_at "rl"
 rw[length_map]
 have P2:=(h.step s1).step s2
 obtain⟨k,hk⟩:∃k:Nat,min (es.length:Int) (1+u)=k:=⟨(min (es.length:Int) (1+u)).toNat,∅⟩
 rw[hk]
 have hk7:k<=7/\k<=es.length:=by omega
 refine MZ P2 hk7.2 ∅ rfl rfl rfl fun gs fs bd gg hg hf P3=>?_
 walk_at "rl"
 refine⟨by rw[length_map];omega,?_⟩
 have fin:∀(xs:List E3),2<=xs.length->xs.length<=8->(∀e∈xs,Gd m e)->gn Dd [some (.m a),some (.v (.int m)),r2,some (.m l),r4,some (.v (.int (e0.1:Nat))),some (.v (.int (e0.2.1:Nat))),some (.v e0.2.2),some (.v (.int w)),r9,some (.v (.int (k:Nat))),some (.v (.list (xs.map jx))),r12,r13,r14] bd:=fun xs x2 x8 gx=>
  DZ x2 x8 gx fun e s12 s13 s14 he=>q e fs bd _ _ _ _ _ he hf P3
 have g0':∀e∈e0::gs,Gd m e:=fun e he=>by
  rcases List.mem_cons.mp he with z|z
  ·rw[z];exact g0
  ·exact gg e z
 by_cases c:gs.length=0
 ·rw[if_pos (decide_eq_true (by rw[length_map,c];rfl))]
  have:gs=[]:=List.length_eq_zero_iff.mp c
  subst this
  refine⟨by show 2<=1000;decide,fin [e0,e0] (by simp) (by simp) fun e he=>?_⟩
  simp only[mem_cons,not_mem_nil,or_false,or_self] at he
  rw[he];exact g0
 ·rw[if_neg (by rw[decide_eq_true_eq,length_map];omega)]
  exact fin (e0::gs) (by rw[length_cons];omega) (by rw[length_cons];omega) g0'
theorem D1{r2 r4 r5 r6 r8 r10 r11 r12 r13 r14:Option D}{Dd:kc}{e0 e:E3}(h:Pl a l m gV U es)(h2:es.length<=20)(g0:Gd m e0)(he:IsP m e.1 e.2.1 e.2.2)
  (qr:∀(e:E3) (fs:List E3) (Z:Mu),Gd m e->Pl a l m gV Z fs->Dd.rt (.v e.2.2) Z)
  (qn:∀Z,Pl a l m gV Z (es++[e])->Dd.nx [some (.m a),some (.v (.int m)),r2,some (.m l),r4,r5,r6,some (.v e0.2.2),r8,some (.v (jx e)),r10,r11,r12,r13,r14] Z) :
  gv Dd [some (.m a),some (.v (.int m)),r2,some (.m l),r4,r5,r6,some (.v e0.2.2),r8,some (.v (jx e)),r10,r11,r12,r13,r14] U:=by
 unfold gv
 have ee:jx e = .tuple [.int (e.1:Nat),.int (e.2.1:Nat),e.2.2]:=rfl
 rw[ee] at qn ⊢
 walk_at "rl"
 by_cases c1:(12:Int)<(e.1:Nat)
 ·rw[decide_eq_true c1]
  walk_at "rl"
  exact qr e0 es U g0 h
 ·rw[decide_eq_false c1]
  walk_at "rl"
  by_cases c2:(60:Int)<(e.2.1:Nat)
  ·rw[decide_eq_true c2]
   walk_at "rl"
   exact qr e0 es U g0 h
  ·rw[decide_eq_false c2]
   walk_at "rl"
   simp only[h.at_]
   have ge:Gd m e:=⟨he,∅,∅⟩
   refine⟨by rw[length_map];omega,?_⟩
   have P1:Pl a l m gV (aF U l (es.map jx++[jx e])) (es++[e]):=by
    have:=h.set (fs:=es++[e]) fun x hx=>by
     rcases List.mem_append.mp hx with z|z
     ·exact h.gd x z
     ·rw[List.mem_singleton.mp z];exact ge
    rw[map_append] at this
    exact this
   rw[ee] at P1
   simp only[P1.at_]
   refine IU (fun _=>?_) fun _=>?_
   ·walk_at "rl"
    refine⟨a,3,rfl,⋯,⋯,P1.bag,fun r ad r0 r1 s1=>?_⟩
    walk_at "rl"
    refine IU (fun _=>?_) fun _=>?_<;>walk_at "rl"
    ·exact qr e _ ad ge (P1.step s1)
    ·exact qn ad (P1.step s1)
   ·walk_at "rl"
    exact qn _ P1
theorem Ej{r2 r4 r5 r6 r7 r8 r9 r10 r11 r12 r13 r14:Option D}{Dd:kc}(h:Pl a l m gV U es)(h1:1<=es.length)(h2:es.length<=20)
  (qr:∀(e:E3) (fs:List E3) (Z:Mu),Gd m e->Pl a l m gV Z fs->Dd.rt (.v e.2.2) Z) :
  jE Dd [some (.m a),some (.v (.int m)),r2,some (.m l),r4,r5,r6,r7,r8,r9,r10,r11,r12,r13,r14] U:=by
 unfold jE
 rw[nX,Aw]
 walk_at "rl"
 refine⟨⋯,fun i ρ Z=>∃(fs:List E3) (s4 s5 s6 s7 s8 s9 s10 s11 s12 s13 s14:Option D),ρ=[some (.m a),some (.v (.int m)),r2,some (.m l),s4,s5,s6,s7,s8,s9,s10,s11,s12,s13,s14]/\Pl a l m gV Z fs/\1<=fs.length/\fs.length<=20,⟨es,_,_,_,_,_,_,_,_,_,_,_,rfl,h,h1,h2⟩,?_,?_⟩
 ·rintro i x ρ ad hx ⟨fs,s4,s5,s6,s7,s8,s9,s10,s11,s12,s13,s14,rfl,P1,l1,l2⟩
  walk_at "rl"
  refine Cq P1 l1 ∅ rfl rfl fun e gs al ge hl P2 _=>?_
  have ee:jx e = .tuple [.int (e.1:Nat),.int (e.2.1:Nat),e.2.2]:=rfl
  rw[ee]
  walk_at "rl"
  refine⟨trivial,a,6,rfl,⋯,⋯,P2.bag,fun w bd w0 w1 s3=>?_⟩
  have P3:=P2.step s3
  have tail:∀{e':E3} {hs:List E3} {bn:Mu} {t8 t10 t11 t12 t13 t14:Option D},Pl a l m gV bn hs->hs.length<=gs.length->IsP m e'.1 e'.2.1 e'.2.2->gv {nx:=fun ρ Z=>∃(fs:List E3) (s4 s5 s6 s7 s8 s9 s10 s11 s12 s13 s14:Option D),ρ=[some (.m a),some (.v (.int m)),r2,some (.m l),s4,s5,s6,s7,s8,s9,s10,s11,s12,s13,s14]/\Pl a l m gV Z fs/\1<=fs.length/\fs.length<=20,rt:=Dd.rt,bk:=bG (dOp bg (dOp bg (ah 3) (dC (.int 0))) (dC (.int 2))) Dd,ct:=fun ρ Z=>∃(fs:List E3) (s4 s5 s6 s7 s8 s9 s10 s11 s12 s13 s14:Option D),ρ=[some (.m a),some (.v (.int m)),r2,some (.m l),s4,s5,s6,s7,s8,s9,s10,s11,s12,s13,s14]/\Pl a l m gV Z fs/\1<=fs.length/\fs.length<=20}
    [some (.m a),some (.v (.int m)),r2,some (.m l),some (.v x),some (.v (.int (e.1:Nat))),some (.v (.int (e.2.1:Nat))),some (.v e.2.2),t8,some (.v (jx e')),t10,t11,t12,t13,t14] bn:=fun P4 hh he'=>
   D1 P4 ∅ ge he' (fun e fs Z g P=>qr e fs Z g P) fun Z P'=>⟨_,_,_,_,_,_,_,_,_,_,_,_,rfl,P',by rw[length_append,length_singleton];omega,by rw[length_append,length_singleton];omega⟩
  walk_at "rl"
  by_cases c0:w=0
  ·rw[n9 (decide_eq_true c0)]
   walk_at "rl"
   exact tail (e':=(e.1+1,e.2.1+1,_)) P3 (le_refl _) (.turn ge.1)
  ·rw[j7 (by rw[decide_eq_true_eq];exact c0)]
   walk_at "rl"
   by_cases c1:w=1
   ·rw[n9 (decide_eq_true c1)]
    walk_at "rl"
    refine⟨a,rfl,P3.bag,fun g bn g1 g2 s4=>?_⟩
    walk_at "rl"
    refine⟨a,rfl,s4.1,fun g' wf g1' g2' s5=>?_⟩
    walk_at "rl"
    exact tail (e':=(e.1+1,e.2.1+1,_)) ((P3.step s4).step s5) (le_refl _) (.grid g g' g1 g1' g2 g2' ge.1)
   ·rw[j7 (by rw[decide_eq_true_eq];exact c1)]
    exact Ed P3 ∅ ge fun e' hs bn s10 s11 s12 s13 s14 he' hl' P4=>tail P4 hl' he'
 ·rintro ρ ad ⟨fs,s4,s5,s6,s7,s8,s9,s10,s11,s12,s13,s14,rfl,P1,l1,l2⟩
  walk_at "rl"
  simp only[P1.at_]
  cases fs with
  |nil=>simp at l1
  |cons e r=>
   rw[map_cons,pP]
   have ee:jx e = .tuple [.int (e.1:Nat),.int (e.2.1:Nat),e.2.2]:=rfl
   simp only[ee]
   walk_at "rl"
   exact qr e _ ad (P1.gd e (by simp)) P1
theorem yq(h:sY ds U Qd):lY ‹Qd› (aY ["","","","","","","","","","","","","","",""] ds) U:=by
 obtain⟨a,m,rfl,m1,m3,hb,q⟩:=h
 unfold lY
 walk_at "rl"
 refine⟨a,3,rfl,⋯,⋯,hb,fun r ad r0 r1 s1=>?_⟩
 walk_at "rl"
 obtain⟨_,e1,n,rfl,n1,n7⟩:=pick (P:=fun v=>∃n:Int,v = .int n/\1<=n/\n<=12) (xs:=[.int 2,.int 4,.int 12]) r0 (by exact r1) (by
  intro v hv
  simp only[mem_cons,not_mem_nil,or_false] at hv
  rcases hv with rfl|rfl|rfl<;>exact⟨_,rfl,⋯,⋯⟩)
 rw[e1]
 refine⟨a,n,rfl,n1,∅,s1.1,fun u al u0 u1 s2=>?_⟩
 walk_at "rl"
 have s12:=s1.trans s2
 obtain⟨k,hk⟩:∃k:Nat,1+u=k:=⟨(1+u).toNat,∅⟩
 rw[hk,Hl]
 walk_at "rl"
 refine⟨⟨∅,∅⟩,by rw[uI];omega,fun p hp=>?_⟩
 have pa:p≠a:=fun z=>by obtain⟨g,k,e,_⟩:=s12.1;rw[z,e] at hp;cases hp
 have p0:U p=none:=by rw[<- s12.2 p pa];exact hp
 refine⟨fun i acc Z=>∃fs:List E3,acc=fs.map jx/\fs.length=i/\(∀b,b≠a->b≠p->∀ds,U b=some ds->Z b=some ds)/\Bag Z a/\(∀e∈fs,Gd m e),⟨[],rfl,rfl,fun b n1 n2 ds e=>by rw[ba n2,s12.2 b n1];exact e,s12.1.set pa,(fun _ z=>nomatch z)⟩,?_,?_⟩
 ·rintro i x acc Z hx hacc ⟨fs,rfl,hf,kp,hb',gd⟩
  refine⟨⟨trivial,trivial,trivial⟩,a,m,rfl,m1,∅,hb',fun v bd v0 v1 s3=>?_⟩
  walk_at "rl"
  refine⟨by rw[s3.2 p pa];exact hacc,fs++[(1,1,.tuple [.str "kind",.int v])],by rw[map_append];rfl,by simp[hf],fun b n1 n2 ds e=>by rw[ba n2,s3.2 b n1];exact kp b n1 n2 ds e,s3.1.set pa,fun e he=>?_⟩
  rcases List.mem_append.mp he with z|z
  ·exact gd e z
  ·rw[List.mem_singleton.mp z];exact⟨.kind v v0 v1,by show 1<=12;decide,by show 1<=60;decide⟩
 ·rintro acc Z ⟨fs,rfl,hf,kp,hb',gd⟩ hacc
  rw[uI] at hf
  have P:Pl a p m U Z fs:=⟨pa,hb',hacc,gd,kp⟩
  exact Ej P ∅ ∅ fun e gs o0 ge P'=>q e.1 e.2.1 e.2.2 o0 ge.1 ge.2.1 ge.2.2 (P'.w p0)
end
noncomputable def Wd(i:Int):Prop:=i.natAbs<10 ^ 60
noncomputable def kF:DSp:=fun ds U Q=>∃k:Int,ds=[.v (.int k)]/\Wd k/\∀Z,(∀b ds,U b=some ds->Z b=some ds)->Q (.v (.str (txt (whl k)))) Z
theorem xP{U:Mu}{Q:DK}{ds:List D}(h:kF ds U Q):ds.length=1:=by obtain⟨_,rfl,_⟩:=h;rfl
noncomputable def eY(n:Nat):DSp:=fun ds U Q=>∃(d:Nat) (t:PyData) (l:List Nat),ds=[.v t]/\d<=n/\PX (10 ^ 60) d t l/\l.length<=9000/\1<=n/\∀Z,(∀b ds,U b=some ds->Z b=some ds)->Q (.v (.str (txt l))) Z
theorem zD{n:Nat}{U:Mu}{Q:DK}{ds:List D}(h:eY n ds U Q):ds.length=1:=by obtain⟨_,_,_,rfl,_⟩:=h;rfl
theorem Ab{U:Mu}{Q:DK}{ds:List D}(h:eY 0 ds U Q):False:=by obtain⟨_,_,_,_,_,_,_,h,_⟩:=h;omega
noncomputable def cS(n:Nat):DSp:=fun ds U Q=>∃(d:Nat) (t:PyData) (l:List Nat),ds=[.v t,.v (.str "abc")]/\d<=n/\PX (10 ^ 60) d t l/\l.length<=9000/\1<=n/\∀Z,(∀b ds,U b=some ds->Z b=some ds)->Q (.v (.str (txt l))) Z
theorem xG{n:Nat}{U:Mu}{Q:DK}{ds:List D}(h:cS n ds U Q):ds.length=2:=by obtain⟨_,_,_,rfl,_⟩:=h;rfl
theorem xa{U:Mu}{Q:DK}{ds:List D}(h:cS 0 ds U Q):False:=by obtain⟨_,_,_,_,_,_,_,h,_⟩:=h;omega
noncomputable def qx:DSp:=fun ds U Q=>∃(l:List Nat) (at_:Nat) (c:Nat),ds=[.v (.str (txt l)),.v (.int (at_:Nat)),.v (.str (txt [c]))]/\Asc l/\c<128/\l.length<=9000/\l[at_]? = some c/\Q (.v .none) U
theorem zS{U:Mu}{Q:DK}{ds:List D}(h:qx ds U Q):ds.length=3:=by obtain⟨_,_,_,rfl,_⟩:=h;rfl
local macro_rules|`(tactic| walk_at "rl")=>mkW "↓JG ↓Lk ↓LW ↓Hf ↓Js ↓Ii ↓L0 ↓Hk ↓MW ↓Nj ↓MN ↓Ny ↓Iv HX Ml KQ ↓Hy ↓JW ↓Mo ↓eo Bc B8 vg Lc Jq Im LA MI KJ JS K4 Jt LJ Ls Lu MF Ky Mt ME LP Mf KY JE Lw My Ie G3 Ez ↓LU ↓l_t ↓l_f l_T l_F Mr LY ↓GK ↓BM bZ Gu Fn KS Fq EV E8 ES EX KD J4 K1 Kn Jc Ks E1 KU Jl Bt Ll decide_true decide_false Bool.xor_true Bool.true_xor ↓nM ↓yC ↓xm ↓xw ↓Et ↓Cc ↓FT ↓EF ↓ui ↓tU ↓uj ↓qI ↓ye ↓xO ↓yV ↓yb ↓xi ↓yW ↓tD ↓q_c ↓LS ↓q_B ↓HA ↓Cg ↓CJ ↓EC ↓II ↓yi ↓ET ↓yk ↓LR ↓nY ↓kh ↓wB ↓wK ↓yI ↓wy ↓wJ ↓xb ↓Df ↓CL ↓rA ↓yK ↓x9 ↓ue ↓uQ ↓tO ↓ya ↓uL ↓sg ↓CF ↓CZ ↓CQ ↓x5 ↓yS ↓x3 ↓Hs ↓qe ↓xl ↓Ds ↓L6 ↓rJ ↓xS ↓xK ↓ua ↓C0 ↓Ij ↓yo ↓sN ↓Dc ↓Cy ↓iz ↓u7 ↓pj ↓vh ↓xV ↓IT ↓CS ↓yL ↓nX ↓w8 ↓xI ↓IA ↓sR ↓EU ↓Cr ↓Dm ↓CP ↓rj ↓mM ↓sV ↓nh ↓pK ↓oY FV oN mH wG wZ zR bind_none bind_some join_some getElem?_cons_zero List.getElem?_cons_succ aY Gg Bw BQ Cb oh pP rZ rK zC map_cons map_nil List.append List.replicate length_cons length_nil Nat.reduceAdd Nat.reduceSub nil_append cons_append set_cons_zero set_cons_succ map_some Bool.not_true Bool.not_false false_eq_true Bool.true_eq_false Bool.xor_false false_xor"
noncomputable def ko:DTS:=
 (aM (bt (vj (dC (.int 10)) (dC (.int 64))) (ao 1))
 (aM (bt (tG aj) (ao 2))
 (aM (bt (dCB uK (ae (ah 0) aj)) (ao 3))
 (aM (uk (dB (dOp rGe (ah 3) (ah 1))) fh)
 (aM (mK (BD (ah 2) (dCB rR (ae (ah 3) aj))))
 (aM (mK (Ew (ah 2)))
 (bG (dOp fm (dIf (dB (dOp rLt (ah 0) (dC (.int 0)))) (dC (.str "-")) (dC (.str ""))) (ow (dC (.str "")) (ah 2))))))))))
noncomputable def lP(n:Nat):DTS:=
 (aM (bt (dOp bg (ah 0) (dC (.int 0))) (ao 1))
 (aM (bN (dB (dOp (bI false) (ah 1) (dC (.str "kind")))) (bG (dOp bg (dC (.tuple [.str "a",.str "b",.str "c"])) (dOp bg (ah 0) (dC (.int 1))))) br)
 (aM (bN (dB (dOp (bI false) (ah 1) (dC (.str "turn")))) (bG (dOp fm (dC (.str "~")) (aK (eY n) (ae (dOp bg (ah 0) (dC (.int 1))) aj)))) br)
 (aM (bN (dB (dOp (bI false) (ah 1) (dC (.str "grid")))) (bG (dJS (djC (dFv (aK kF (ae (dOp bg (ah 0) (dC (.int 1))) aj))) (djC (dC (.str "x")) (djC (dFv (aK kF (ae (dOp bg (ah 0) (dC (.int 2))) aj))) (djC (dC (.str "[")) (djC (dFv (aK (eY n) (ae (dOp bg (ah 0) (dC (.int 3))) aj))) (djC (dC (.str "]")) djN)))))))) br)
 (aM (bt (dq [none] (o3 (dOp bg (ah 0) (dC (.int 1)))) (ao 0) iL (aK (eY n) (ae (ah 0) aj))) (ao 2))
 (aM (bt (dIf (dB (dOp (bI false) (ah 1) (dC (.str "upon")))) (ow (dC (.str "/")) (ah 2)) (ow (dC (.str "|")) (ah 2))) (ao 3))
 (bG (dJS (djC (dC (.str "(")) (djC (dFv (ah 3)) (djC (dC (.str ")")) djN)))))))))))
noncomputable def gF(n:Nat):DTS:=
 (aM (bN (dB (dOp (bI false) (dOp bg (ah 0) (dC (.int 0))) (dC (.str "kind")))) (bG (dOp zo (ah 1) (dOp bg (ah 0) (dC (.int 1))))) br)
 (aM (bN (dB (dOp (bI false) (dOp bg (ah 0) (dC (.int 0))) (dC (.str "turn")))) (bG (dOp fm (dC (.str "~")) (aK (cS n) (ae (dOp bg (ah 0) (dC (.int 1))) (ae (ah 1) aj))))) br)
 (aM (bN (dB (dOp (bI false) (dOp bg (ah 0) (dC (.int 0))) (dC (.str "grid")))) (bG (dOp fm (dOp fm (dOp fm (dOp fm (dOp fm (dCB rR (ae (dOp bg (ah 0) (dC (.int 1))) aj)) (dC (.str "x"))) (dCB rR (ae (dOp bg (ah 0) (dC (.int 2))) aj))) (dC (.str "["))) (aK (cS n) (ae (dOp bg (ah 0) (dC (.int 3))) (ae (ah 1) aj)))) (dC (.str "]")))) br)
 (aM (bt (dq [none,some 1] (o3 (dOp bg (ah 0) (dC (.int 1)))) (ao 0) iL (aK (cS n) (ae (ah 0) (ae (ah 1) aj)))) (ao 2))
 (bG (dOp fm (dOp fm (dC (.str "(")) (dIf (dB (dOp (bI false) (dOp bg (ah 0) (dC (.int 0))) (dC (.str "upon")))) (ow (dC (.str "/")) (ah 2)) (ow (dC (.str "|")) (ah 2)))) (dC (.str ")"))))))))
noncomputable def ki:DTS:=
 (bN (dB (dOp (bI true) (vL (ah 0) (dO (ah 1)) (dO (dJ (ah 1) (dC (.int 1))))) (ah 2))) fh br)
section
variable {U:Mu}{Qd:DK}{ds:List D}
theorem uO{i:Int}(h:Wd i):(whl i).length<=61:=by
 have:=qY (n:=i.natAbs) (k:=59) h
 unfold whl
 split
 ·rw[length_cons];omega
 ·omega
theorem Bv{i:Int}(h:Wd i):i.natAbs.log2<1920:=by
 rcases Nat.eq_zero_or_pos i.natAbs with z|z
 ·rw[z];decide
 ·rw[Nat.log2_lt ∅]
  exact Nat.lt_trans h nofun
theorem bD{l:List Nat}{n:Nat}(h:l.length<=n):(txt l).length<=n:=by rw[bf];exact h
theorem yJ(z:Str):Str.empty++z=z:=by
 show (⟨#[]++z.cps⟩:Str)=z
 rw[Array.empty_append]
theorem vU(h:kF ds U Qd):ko ‹Qd› (aY ["","","",""] ds) U:=by
 obtain⟨k,rfl,hk,q⟩:=h
 unfold ko
 walk_at "rl"
 refine⟨⟨⋯,⋯,⋯⟩,fun p hp=>?_⟩
 rw[yP]
 refine⟨fun _ ρ Z=>ρ=[some (.v (.int k)),some (.v (.int (10 ^ Int.toNat 64))),some (.m p),some (.v (.int (k.natAbs:Nat)))]/\Z=aF U p [],⟨0,rfl,rfl⟩,fun m ρ Z ⟨e1,e2⟩=>?_⟩
 subst e1 e2
 walk_at "rl"
 have hb:¬ (10:Int) ^ Int.toNat 64<=(k.natAbs:Nat):=by
  have h1:k.natAbs<10 ^ 60:=hk
  have e:(10:Int) ^ Int.toNat 64=((10 ^ 64:Nat):Int):=nofun
  rw[e]
  have:(10:Nat) ^ 60<10 ^ 64:=nofun
  omega
 rw[decide_eq_false hb,if_neg Bool.false_ne_true]
 refine⟨(by rw[Int.natAbs_natCast];exact Bv hk),?_⟩
 simp only[aT]
 refine⟨⋯,?_⟩
 simp only[aT,nil_append]
 have fin:∀(u:List Nat) (z:Str) (M:Mu),z=txt u->u++dg k.natAbs=whl k->M p=some [.str (txt (dg k.natAbs))]->(∀b ds,U b=some ds->M b=some ds) ->
   ∃xs ws,Hz M (.m p)=some xs/\ku xs=some ws/\uo (Str.ofString "").length ws<=10000/\(mS (Str.ofString "") ws).length<=10000/\z.length+(mS (Str.ofString "") ws).length<=10000/\Qd (.v (.str (z++mS (Str.ofString "") ws))) M:=fun u z M hz hu hM hk'=>by
  have hl:=uO hk
  rw[<- hu,length_append] at hl
  refine⟨_,[txt (dg k.natAbs)],hM,rfl,?_,?_,?_,?_⟩
  ·show 0+(txt (dg k.natAbs)).length+0<=10000
   rw[bf];omega
  ·show (txt (dg k.natAbs)).length<=10000
   rw[bf];omega
  ·show z.length+(txt (dg k.natAbs)).length<=10000
   rw[hz,bf,bf];omega
  ·show Qd (.v (.str (z++txt (dg k.natAbs)))) _
   rw[hz,bL,hu]
   exact q _ hk'
 have hM:aF (aF (aF U p []) p [.str (Str.ofString (toString ((k.natAbs:Nat):Int)))]) p [PyData.str (Str.ofString (toString ((k.natAbs:Nat):Int)))].reverse p=some [.str (txt (dg k.natAbs))]:=by
  rw[aT,sS];rfl
 have hk':∀b ds,U b=some ds->aF (aF (aF U p []) p [.str (Str.ofString (toString ((k.natAbs:Nat):Int)))]) p [PyData.str (Str.ofString (toString ((k.natAbs:Nat):Int)))].reverse b=some ds:=fun b ds e=>by
  have hb:b≠p:=fun z=>by rw[z,hp] at e;cases e
  rw[ba hb,ba hb,ba hb];exact e
 by_cases c:k<0
 ·rw[n9 (decide_eq_true c)]
  walk_at "rl"
  exact fin [45] _ _ (lit _) (by unfold whl;rw[if_pos c];rfl) hM hk'
 ·rw[j7 (by rw[decide_eq_true_eq];exact c)]
  walk_at "rl"
  exact fin [] _ _ (lit _) (by unfold whl;rw[if_neg c];rfl) hM hk'
theorem PX.pos{B:Int}{d:Nat}{t:PyData}{l:List Nat}(h:PX B d t l):1<=d:=by cases h<;>omega
theorem Nn:∀i:Nat,i<3->atI [PyData.str "a",.str "b",.str "c"] (i:Nat)=some (.str (txt [97+i]))
 |0,_=>by rw[show ((0:Nat):Int)=0 from rfl,pP,lit "a"];rfl
 |1,_=>by rw[show ((1:Nat):Int)=1 from rfl,rZ,lit "b"];rfl
 |2,_=>by rw[show ((2:Nat):Int)=2 from rfl,rK,lit "c"];rfl
theorem kA{c:Nat}:∀{ls:List (List Nat)} {l:List Nat},l∈ls->l.length<=(bj c ls).length
 |[m],l,h=>by rw[List.mem_singleton.mp h];exact le_refl _
 |m::m'::r,l,h=>by
  rw[ej,length_append,length_cons]
  rcases List.mem_cons.mp h with z|z
  ·rw[z];omega
  ·have:=kA (c:=c) z;omega
theorem lG{c:Nat}{ls:List (List Nat)}(h:(bj c ls).length<=8998)(h8:ls.length<=8):uo (txt [c]).length (ls.map txt)<=10000:=by
 have e:∀(ls:List (List Nat)) (k:Nat),List.foldl (fun k (w:Str)=>k+w.length+1) k (ls.map txt)=k+(ls.map (·.length)).sum+ls.length:=by
  intro ls
  induction ls with
  |nil=>intro k;simp
  |cons l r ih=>intro k;rw[map_cons,foldl_cons,ih,bf,map_cons,sum_cons,length_cons];omega
 have:=nH c ls
 unfold uo
 rw[List.foldl_toArray']
 ·show List.foldl (fun k (w:Str)=>k+w.length+1) 0 (ls.map txt)<=10000
  rw[e]
  split at this<;>omega
 ·rfl
theorem ub{n d:Nat}{es:List (Nat×PyData×List Nat)}{ρ:Rho}{te:DTE}{Q:DK}(hsrc:∀QI:List PyData->Mu->Prop,QI (es.map (·.2.1)) U->o3 te ρ U QI)(h8:es.length<=8)(hd:∀e∈es,e.1<=d)(hdn:d<=n)(h:∀e∈es,PX (10 ^ 60) e.1 e.2.1 e.2.2)(hl:∀e∈es,e.2.2.length<=9000)
  (q:∀Z,(∀b ds,U b=some ds->Z b=some ds)->Q (.v (.list ((es.map (·.2.2)).map fun l=>PyData.str (txt l)))) Z) :
  dq [none] (o3 te) (ao 0) iL (aK (eY n) (ae (ah 0) aj)) ρ U Q:=by
 rw[lF]
 refine hsrc _ ⟨by rw[length_map];omega,fun p hp=>?_⟩
 refine⟨fun i acc Z=>acc=((es.take i).map fun e=>PyData.str (txt e.2.2))/\∀b ds,b≠p->U b=some ds->Z b=some ds,⟨rfl,fun b ds hb e=>by rw[ba hb];exact e⟩,?_,?_⟩
 ·rintro i x acc Z hx hacc ⟨rfl,hk⟩
  rw[getElem?_map] at hx
  cases ee:es[i]? with
  |none=>rw[ee] at hx;cases hx
  |some e=>
   rw[ee] at hx
   cases hx
   have hm:=mem_of_getElem? ee
   have hp1:=(h e hm).pos
   have he1:=hd e hm
   walk_at "rl"
   refine⟨trivial,?_⟩
   rw[if_pos trivial]
   refine⟨e.1,e.2.1,e.2.2,rfl,∅,h e hm,hl e hm,∅,fun bn h4=>?_⟩
   walk_at "rl"
   refine⟨h4 _ _ hacc,?_,fun b ds hb ed=>by rw[ba hb];exact h4 b ds (hk b ds hb ed)⟩
   rw[take_succ,ee];simp
 ·rintro acc Z ⟨rfl,hk⟩ hacc
  rw[length_map,take_length]
  rw[show (es.map fun e=>PyData.str (txt e.2.2))=((es.map (·.2.2)).map fun l=>PyData.str (txt l)) by rw[map_map];rfl]
  exact q _ fun b ds e=>by
   have hb:b≠p:=fun z=>by rw[z,hp] at e;cases e
   rw[kQ hb];exact hk b ds hb e
theorem xB(n:Nat)(h:eY (n+1) ds U Qd):lP n ‹Qd› (aY ["","","",""] ds) U:=by
 obtain⟨d,t,l,rfl,hd,px,hl,_,q⟩:=h
 unfold lP
 cases px with
 |kind i hi=>
  walk_at "rl"
  rw[Nn i hi]
  exact q U fun _ _ e=>e
 |@turn d' t' l' p'=>
  have:=p'.pos
  rw[length_cons] at hl
  walk_at "rl"
  refine⟨d',t',l',rfl,∅,p',∅,∅,fun ad h1=>?_⟩
  walk_at "rl"
  rw[lit "~",bL]
  refine⟨by rw[bf,bf];show 1+_<=10000;omega,?_⟩
  exact q ad h1
 |@grid d' t' l' u v hu hv bu bv p'=>
  have hp:=p'.pos
  have wu:Wd u:=by show u.natAbs<10 ^ 60;omega
  have wv:Wd v:=by show v.natAbs<10 ^ 60;omega
  have lu:=uO wu
  have lv:=uO wv
  have ll:l'.length<=9000:=by simp only[length_append,length_cons] at hl;omega
  walk_at "rl"
  refine⟨u,rfl,wu,fun ad h1=>?_⟩
  walk_at "rl"
  rw[yJ,lit "x",bL]
  refine⟨bD ∅,bD ∅,bD (by rw[length_append];show _+1<=10000;omega),v,rfl,wv,fun al h2=>?_⟩
  walk_at "rl"
  rw[lit "[",bL,bL]
  refine⟨bD ∅,bD (by rw[length_append,length_append];show _+1+_<=10000;omega),bD (by rw[length_append,length_append,length_append];show _+1+_+1<=10000;omega),d',t',l',rfl,∅,p',ll,∅,fun bd h3=>?_⟩
  walk_at "rl"
  rw[lit "]",bL,bL]
  have l5:(whl u ++ "x".toList.map Char.toNat++whl v ++ "[".toList.map Char.toNat++l').length<=9999:=by
   simp only[length_append,length_cons] at hl ⊢
   have e1:("x".toList.map Char.toNat).length=1:=rfl
   have e2:("[".toList.map Char.toNat).length=1:=rfl
   rw[e1,e2]
   omega
  have l6:(whl u ++ "x".toList.map Char.toNat++whl v ++ "[".toList.map Char.toNat++l' ++ "]".toList.map Char.toNat).length<=10000:=by
   rw[length_append]
   show _+1<=10000
   omega
  refine⟨bD ∅,bD ∅,bD l6,bD l6,?_⟩
  have:=q bd fun b ds e=>h3 b ds (h2 b ds (h1 b ds e))
  rw[show whl u ++ "x".toList.map Char.toNat++whl v ++ "[".toList.map Char.toNat++l' ++ "]".toList.map Char.toNat=whl u++120::(whl v++91::(l'++[93])) by
   rw[show "x".toList.map Char.toNat=[120] from rfl,show "[".toList.map Char.toNat=[91] from rfl,show "]".toList.map Char.toNat=[93] from rfl]
   simp]
  exact this
 |@upon d' es h2 h8 hed hes=>
  have hle:∀e∈es,e.2.2.length<=9000:=fun e he=>by
   have:=kA (c:=47) (mem_map_of_mem (f:=fun e:Nat×PyData×List Nat=>e.2.2) he)
   rw[length_cons,length_append] at hl
   omega
  have lj:(bj 47 (es.map (·.2.2))).length<=8998:=by
   rw[length_cons,length_append] at hl
   have:[41].length=1:=rfl
   omega
  walk_at "rl"
  refine ub (d:=d') (fun QI hq=>by walk_at "rl";exact hq) h8 hed ∅ hes hle fun ad h1=>?_
  walk_at "rl"
  rw[lit "/",lit "(",lit ")"]
  refine⟨_,_,rfl,kT _,?_,?_,?_⟩
  ·exact lG lj (by rw[length_map];omega)
  ·rw[show "/".toList.map Char.toNat=[47] from rfl,iO];exact bD ∅
  ·rw[yJ,show "/".toList.map Char.toNat=[47] from rfl,iO,bL,bL]
   rw[length_cons,length_append] at hl
   refine⟨bD ⋯,bD ∅,bD (by rw[length_append];show 1+_<=10000;omega),bD (by rw[length_append,length_append];show 1+_+1<=10000;omega),bD (by rw[length_append,length_append];show 1+_+1<=10000;omega),?_⟩
   have:=q ad h1
   exact this
 |@beside d' es h2 h8 hed hes=>
  have hle:∀e∈es,e.2.2.length<=9000:=fun e he=>by
   have:=kA (c:=124) (mem_map_of_mem (f:=fun e:Nat×PyData×List Nat=>e.2.2) he)
   rw[length_cons,length_append] at hl
   omega
  have lj:(bj 124 (es.map (·.2.2))).length<=8998:=by
   rw[length_cons,length_append] at hl
   have:[41].length=1:=rfl
   omega
  walk_at "rl"
  refine ub (d:=d') (fun QI hq=>by walk_at "rl";exact hq) h8 hed ∅ hes hle fun ad h1=>?_
  walk_at "rl"
  rw[lit "|",lit "(",lit ")"]
  refine⟨_,_,rfl,kT _,?_,?_,?_⟩
  ·exact lG lj (by rw[length_map];omega)
  ·rw[show "|".toList.map Char.toNat=[124] from rfl,iO];exact bD ∅
  ·rw[yJ,show "|".toList.map Char.toNat=[124] from rfl,iO,bL,bL]
   rw[length_cons,length_append] at hl
   refine⟨bD ⋯,bD ∅,bD (by rw[length_append];show 1+_<=10000;omega),bD (by rw[length_append,length_append];show 1+_+1<=10000;omega),bD (by rw[length_append,length_append];show 1+_+1<=10000;omega),?_⟩
   have:=q ad h1
   exact this
end
section
variable {U:Mu}{Qd:DK}{ds:List D}
theorem abc:Str.ofString "abc"=txt [97,98,99]:=lit _
theorem LD:∀i:Nat,i<3->atI [97,98,99] (i:Nat)=some (97+i)
 |0,_=>pP
 |1,_=>rZ
 |2,_=>rK
theorem rM{n d:Nat}{es:List (Nat×PyData×List Nat)}{ρ:Rho}{te:DTE}{Q:DK}(hsrc:∀QI:List PyData->Mu->Prop,QI (es.map (·.2.1)) U->o3 te ρ U QI)(wr:(ρ[1]?).join=some (.v (.str "abc")))(h8:es.length<=8)(hd:∀e∈es,e.1<=d)(hdn:d<=n)(h:∀e∈es,PX (10 ^ 60) e.1 e.2.1 e.2.2)(hl:∀e∈es,e.2.2.length<=9000)
  (q:∀Z,(∀b ds,U b=some ds->Z b=some ds)->Q (.v (.list ((es.map (·.2.2)).map fun l=>PyData.str (txt l)))) Z) :
  dq [none,some 1] (o3 te) (ao 0) iL (aK (cS n) (ae (ah 0) (ae (ah 1) aj))) ρ U Q:=by
 rw[lF]
 refine hsrc _ ⟨by rw[length_map];omega,fun p hp=>?_⟩
 have ec:bE [none,some 1] ρ=[none,some (.v (.str "abc"))]:=by
  rw[mH,mH,oN]
  show [none,(ρ[1]?).join]=_
  rw[wr]
 rw[ec]
 refine⟨fun i acc Z=>acc=((es.take i).map fun e=>PyData.str (txt e.2.2))/\∀b ds,b≠p->U b=some ds->Z b=some ds,⟨rfl,fun b ds hb e=>by rw[ba hb];exact e⟩,?_,?_⟩
 ·rintro i x acc Z hx hacc ⟨rfl,hk⟩
  rw[getElem?_map] at hx
  cases ee:es[i]? with
  |none=>rw[ee] at hx;cases hx
  |some e=>
   rw[ee] at hx
   cases hx
   have hm:=mem_of_getElem? ee
   have hp1:=(h e hm).pos
   have he1:=hd e hm
   walk_at "rl"
   refine⟨⟨trivial,trivial⟩,?_⟩
   rw[if_pos trivial]
   refine⟨e.1,e.2.1,e.2.2,rfl,∅,h e hm,hl e hm,∅,fun bn h4=>?_⟩
   walk_at "rl"
   refine⟨h4 _ _ hacc,?_,fun b ds hb ed=>by rw[ba hb];exact h4 b ds (hk b ds hb ed)⟩
   rw[take_succ,ee];simp
 ·rintro acc Z ⟨rfl,hk⟩ hacc
  rw[length_map,take_length]
  rw[show (es.map fun e=>PyData.str (txt e.2.2))=((es.map (·.2.2)).map fun l=>PyData.str (txt l)) by rw[map_map];rfl]
  exact q _ fun b ds e=>by
   have hb:b≠p:=fun z=>by rw[z,hp] at e;cases e
   rw[kQ hb];exact hk b ds hb e
theorem pM(n:Nat)(h:cS (n+1) ds U Qd):gF n ‹Qd› (aY ["","",""] ds) U:=by
 obtain⟨d,t,l,rfl,hd,px,hl,_,q⟩:=h
 unfold gF
 cases px with
 |kind i hi=>
  walk_at "rl"
  refine⟨97+i,⋯,by rw[abc];exact LD i hi,?_⟩
  exact q U fun _ _ e=>e
 |@turn d' t' l' p'=>
  have:=p'.pos
  rw[length_cons] at hl
  walk_at "rl"
  refine⟨d',t',l',rfl,∅,p',∅,∅,fun ad h1=>?_⟩
  walk_at "rl"
  rw[lit "~",bL]
  refine⟨by rw[bf,bf];show 1+_<=10000;omega,?_⟩
  exact q ad h1
 |@grid d' t' l' u v hu hv bu bv p'=>
  have hp:=p'.pos
  have wu:Wd u:=by show u.natAbs<10 ^ 60;omega
  have wv:Wd v:=by show v.natAbs<10 ^ 60;omega
  have lu:=uO wu
  have lv:=uO wv
  have ll:l'.length<=9000:=by simp only[length_append,length_cons] at hl;omega
  walk_at "rl"
  rw[tos,tos,lit "x",lit "[",bL,bL,bL]
  have ex:("x".toList.map Char.toNat).length=1:=rfl
  have eb:("[".toList.map Char.toNat).length=1:=rfl
  refine⟨Bv wu,by rw[bf,bf];omega,Bv wv,by rw[bf,bf,length_append];omega,by rw[bf,bf,length_append,length_append];omega,d',t',l',rfl,∅,p',ll,∅,fun bd h3=>?_⟩
  walk_at "rl"
  rw[lit "]",bL,bL]
  have e3:("]".toList.map Char.toNat).length=1:=rfl
  simp only[length_append,length_cons] at hl
  refine⟨by rw[bf,bf,length_append,length_append,length_append];omega,by rw[bf,bf,length_append,length_append,length_append,length_append];omega,?_⟩
  have:=q bd h3
  rw[show whl u ++ "x".toList.map Char.toNat++whl v ++ "[".toList.map Char.toNat++l' ++ "]".toList.map Char.toNat=whl u++120::(whl v++91::(l'++[93])) by
   rw[show "x".toList.map Char.toNat=[120] from rfl,show "[".toList.map Char.toNat=[91] from rfl,show "]".toList.map Char.toNat=[93] from rfl]
   simp]
  exact this
 |@upon d' es h2 h8 hed hes=>
  have hle:∀e∈es,e.2.2.length<=9000:=fun e he=>by
   have:=kA (c:=47) (mem_map_of_mem (f:=fun e:Nat×PyData×List Nat=>e.2.2) he)
   rw[length_cons,length_append] at hl
   omega
  have lj:(bj 47 (es.map (·.2.2))).length<=8998:=by
   rw[length_cons,length_append] at hl
   have:[41].length=1:=rfl
   omega
  walk_at "rl"
  refine rM (d:=d') (fun QI hq=>by walk_at "rl";exact hq) rfl h8 hed ∅ hes hle fun ad h1=>?_
  walk_at "rl"
  rw[lit "/",lit "(",lit ")"]
  refine⟨_,_,rfl,kT _,lG lj (by rw[length_map];omega),?_,?_⟩
  ·rw[show "/".toList.map Char.toNat=[47] from rfl,iO];exact bD ∅
  ·rw[show "/".toList.map Char.toNat=[47] from rfl,iO,bL,bL]
   refine⟨by rw[bf,bf];show 1+_<=10000;omega,by rw[bf,bf,length_append];show 1+_+1<=10000;omega,?_⟩
   exact q ad h1
 |@beside d' es h2 h8 hed hes=>
  have hle:∀e∈es,e.2.2.length<=9000:=fun e he=>by
   have:=kA (c:=124) (mem_map_of_mem (f:=fun e:Nat×PyData×List Nat=>e.2.2) he)
   rw[length_cons,length_append] at hl
   omega
  have lj:(bj 124 (es.map (·.2.2))).length<=8998:=by
   rw[length_cons,length_append] at hl
   have:[41].length=1:=rfl
   omega
  walk_at "rl"
  refine rM (d:=d') (fun QI hq=>by walk_at "rl";exact hq) rfl h8 hed ∅ hes hle fun ad h1=>?_
  walk_at "rl"
  rw[lit "|",lit "(",lit ")"]
  refine⟨_,_,rfl,kT _,lG lj (by rw[length_map];omega),?_,?_⟩
  ·rw[show "|".toList.map Char.toNat=[124] from rfl,iO];exact bD ∅
  ·rw[show "|".toList.map Char.toNat=[124] from rfl,iO,bL,bL]
   refine⟨by rw[bf,bf];show 1+_<=10000;omega,by rw[bf,bf,length_append];show 1+_+1<=10000;omega,?_⟩
   exact q ad h1
end
noncomputable def tm:DSp:=fun ds U Q=>∃n:Nat,ds=[.v (.str (txt (dg n)))]/\n<10 ^ 40/\Q (.v (.int (n:Nat))) U
theorem AM{U:Mu}{Q:DK}{ds:List D}(h:tm ds U Q):ds.length=1:=by obtain⟨_,rfl,_⟩:=h;rfl
noncomputable def kN:DSp:=fun ds U Q=>∃(pre post:List Nat) (n c:Nat),ds=[.v (.str (txt (pre++dg n++c::post))),.v (.int (pre.length:Nat)),.v (.str (txt [c]))]/\57<c/\n<10 ^ 40/\(pre++dg n++c::post).length<=9000/\∀Z,(∀b ds,U b=some ds->Z b=some ds)->Q (.v (.tuple [.int (n:Nat),.int ((pre.length+(dg n).length+1:Nat):Int)])) Z
theorem xt{U:Mu}{Q:DK}{ds:List D}(h:kN ds U Q):ds.length=3:=by obtain⟨_,_,_,_,rfl,_⟩:=h;rfl
noncomputable def kj:DTS:=
 (aM (bN (km (dB (dOp (bI false) (ah 0) (dC (.str "")))) (km (dB (dOp rGt (dCB uY (ae (ah 0) aj)) (dC (.int 40)))) (jP (dB (dCB uJ (ae (Ad [none] (CB (ah 0)) (ao 0) iL (dOp (A0 false) (ah 0) (dC (.str "0123456789")))) aj)))))) fh br)
 (bG (dCB AO (ae (ah 0) aj))))
noncomputable def gr:DTS:=
 (aM (bt (yH (ah 0) (ah 2) (ah 1)) (ao 3))
 (aM (bN (dB (dOp rLt (ah 3) (dC (.int 0)))) fh br)
 (aM (bt (aK tm (ae (vL (ah 0) (dO (ah 1)) (dO (ah 3))) aj)) (ao 4))
 (aM (bN (dB (dOp (bI true) (aK kF (ae (ah 4) aj)) (vL (ah 0) (dO (ah 1)) (dO (ah 3))))) fh br)
 (bG (bb (ae (ah 4) (ae (dJ (ah 3) (dC (.int 1))) aj))))))))
section
variable {U:Mu}{Qd:DK}{ds:List D}
theorem LC:Str.ofString ""=txt []:=lit _
theorem HV:Str.ofString "("=txt [40]:=lit _
theorem Nz:Str.ofString ")"=txt [41]:=lit _
theorem Ha:Str.ofString "/"=txt [47]:=lit _
theorem d4{l r:List Nat}{neg:Bool}{U:Mu}{Q:DK}(hl:Asc l)(hr:Asc r):bI neg (.v (.str (txt l))) (.v (.str (txt r))) U Q=Q (.v (.bool (neg ^^ decide (l=r)))) U:=by
 rw[nV,tF]
 exact propext ⟨fun h=>h.2.2,fun h=>⟨oz hl,oz hr,h⟩⟩
theorem cQ{l:List Nat}(h:l.all (fun c=>decide (c<128))=true):Asc l:=fun c hc=>of_decide_eq_true (List.all_eq_true.mp h c hc)
theorem HE(xs:List PyData):(xs.filterMap fun _=>some (PyData.bool true))=xs.map fun _=>PyData.bool true:=by
 induction xs with
 |nil=>rfl
 |cons a r ih=>rw[filterMap_cons,ih];rfl
theorem vE(h:tm ds U Qd):kj ‹Qd› (aY [""] ds) U:=by
 obtain⟨n,rfl,hn,q⟩:=h
 have l1:=qY (n:=n) (k:=39) hn
 unfold kj
 walk_at "rl"
 rw[LC,d4 (qT n) (cQ rfl),decide_eq_false (Dr n)]
 walk_at "rl"
 refine⟨bD ∅,?_⟩
 rw[bf,j7 (by rw[decide_eq_true_eq];omega)]
 walk_at "rl"
 rw[xp]
 walk_at "rl"
 have el:(lT (txt (dg n))).length=(dg n).length:=by unfold lT;rw[length_map,Av]
 refine⟨by rw[el];omega,fun _=>some (.bool true),fun x hx Z _=>⟨trivial,?_⟩,?_⟩
 ·obtain⟨c,hc,rfl⟩:=List.mem_map.mp hx
  rw[Av] at hc
  have hd:=qL n c hc
  walk_at "rl"
  refine⟨trivial,?_⟩
  have e:inS ⟨#[c]⟩ (Str.ofString "0123456789")=true:=by
   rw[lit,show (⟨#[c]⟩:Str)=txt [c] from rfl,IW]
   have:c=48\/c=49\/c=50\/c=51\/c=52\/c=53\/c=54\/c=55\/c=56\/c=57:=by omega
   rcases this with rfl|rfl|rfl|rfl|rfl|rfl|rfl|rfl|rfl|rfl<;>decide
  rw[e]
 ·rw[HE,nD (fun _=>true)]
  have ea:((lT (txt (dg n))).map fun _=>true).all id=true:=by rw[List.all_map];exact List.all_eq_true.mpr fun _ _=>rfl
  dsimp only
  rw[ea]
  walk_at "rl"
  refine⟨_,Lm (qL n) (Dr n) ∅,bD ∅,?_⟩
  rw[Gn]
  exact q
theorem kY{l:List Nat}{k c:Nat}(h:l[k]? = some c):Txt.slice (txt l) (some (k:Nat)) (some ((k:Nat)+1))=txt [c]:=by
 have hk:k<l.length:=by
  rcases lt_or_ge k l.length with z|z
  ·exact z
  ·rw[getElem?_eq_none z] at h;cases h
 rw[B7 ∅,Int.toNat_natCast,show ((k:Int)+1-(k:Int)).toNat=1 by omega]
 congr 1
 rw[List.drop_eq_getElem_cons hk]
 rw[getElem?_eq_getElem hk] at h
 rw[Option.some.inj h]
 rfl
theorem vY(h:qx ds U Qd):ki ‹Qd› (aY ["","",""] ds) U:=by
 obtain⟨l,k,c,rfl,ha,hc,hl,hk,q⟩:=h
 unfold ki
 walk_at "rl"
 refine⟨bD ∅,?_⟩
 have ac:Asc [c]:=fun x hx=>by rw[List.mem_singleton.mp hx];exact hc
 rw[kY hk,d4 ac ac,decide_eq_true rfl]
 walk_at "rl"
 exact q
theorem Cw{pre post:List Nat}{n c:Nat}(hc:57<c):Az (txt (pre++dg n++c::post)) (txt [c]) (pre.length:Nat)=((pre.length+(dg n).length:Nat):Int):=by
 have e:Az (txt (pre++dg n++c::post)) (txt [c]) (pre.length:Nat)=Txt.find3 (txt (pre++dg n++c::post)) ⟨#[c]⟩ (pre.length:Nat):=rfl
 have ll:(txt (pre++dg n++c::post)).length=pre.length+(dg n).length+(post.length+1):=by rw[bf];simp;omega
 have ef:fromIndex (txt (pre++dg n++c::post)).length (pre.length:Nat)=pre.length:=by
  unfold fromIndex
  omega
 have g1:(txt (pre++dg n++c::post)).cps.getD (pre.length+(dg n).length) 0=c:=by
  show (pre++dg n++c::post).toArray.getD (pre.length+(dg n).length) 0=c
  simp
 have g2:∀k,k<(dg n).length->(txt (pre++dg n++c::post)).cps.getD (pre.length+k) 0≠c:=fun k hk z=>by
  have:(pre++dg n++c::post)[pre.length+k]? = some c:=by
   have h0:pre.length+k<(pre++dg n++c::post).length:=by simp;omega
   rw[getElem?_eq_getElem h0]
   have z':(pre++dg n++c::post).toArray.getD (pre.length+k) 0=c:=z
   rw[Array.getD_eq_getD_getElem?,List.getElem?_toArray,getElem?_eq_getElem h0] at z'
   exact congrArg some z'
  rw[append_assoc,List.getElem?_append_right ∅,show pre.length+k-pre.length=k by omega,List.getElem?_append_left hk] at this
  have:=qL n c (mem_of_getElem? this)
  omega
 rw[e]
 rcases StrLaws.find3_spec (txt (pre++dg n++c::post)) c (pre.length:Nat) with ⟨_,h2⟩|⟨k,h1,h2,h3,h4,h5⟩
 ·exact absurd g1 (h2 _ (by rw[ef];omega) (by rw[ll];omega))
 ·rw[h1]
  rw[ef] at h2 h5
  have:k=pre.length+(dg n).length:=by
   rcases Nat.lt_trichotomy k (pre.length+(dg n).length) with z|z|z
   ·exfalso
    obtain⟨r,rfl⟩:∃r,k=pre.length+r:=⟨k-pre.length,∅⟩
    exact g2 r ∅ h4
   ·exact z
   ·exact absurd g1 (h5 _ ∅ z)
  rw[this]
theorem pV(h:kN ds U Qd):gr ‹Qd› (aY ["","","","",""] ds) U:=by
 obtain⟨pre,post,n,c,rfl,hc,hn,hl,q⟩:=h
 have es:Txt.slice (txt (pre++dg n++c::post)) (some (pre.length:Nat)) (some ((pre.length+(dg n).length:Nat):Int))=txt (dg n):=by
  rw[B7 (by simp;omega),Int.toNat_natCast,append_assoc,List.drop_left' rfl,show (((pre.length+(dg n).length:Nat):Int)-(pre.length:Nat)).toNat=(dg n).length by omega,List.take_left' rfl]
 unfold gr
 walk_at "rl"
 rw[Cw hc]
 rw[j7 (by rw[decide_eq_true_eq];omega)]
 walk_at "rl"
 refine⟨bD ∅,?_⟩
 rw[es]
 refine⟨n,rfl,hn,?_⟩
 walk_at "rl"
 refine⟨n,rfl,by show (n:Int).natAbs<_;exact Nat.lt_trans (by rw[Int.natAbs_natCast];exact hn) nofun,fun ad h1=>?_⟩
 walk_at "rl"
 refine⟨bD ∅,?_⟩
 have ew:whl (n:Nat)=dg n:=by unfold whl;rw[if_neg ∅];rfl
 rw[es,ew,d4 (qT n) (qT n),decide_eq_true rfl]
 walk_at "rl"
 have:=q ad h1
 exact this
end
noncomputable def dm(n:Nat):DSp:=fun ds U Q=>∃(pre post lt:List Nat) (t:PyData) (d dep:Nat),ds=[.v (.str (txt (pre++lt++post))),.v (.int (pre.length:Nat)),.v (.int (dep:Nat))]/\d<=n/\1<=n/\PX (10 ^ 40) d t lt/\dep+d<=13/\Asc (pre++lt++post)/\(pre++lt++post).length<=9000/\∀Z,(∀b ds,U b=some ds->Z b=some ds)->Q (.v (.tuple [t,.int ((pre.length+lt.length:Nat):Int)])) Z
theorem AK{n:Nat}{U:Mu}{Q:DK}{ds:List D}(h:dm n ds U Q):ds.length=3:=by obtain⟨_,_,_,_,_,_,rfl,_⟩:=h;rfl
theorem zJ{U:Mu}{Q:DK}{ds:List D}(h:dm 0 ds U Q):False:=by obtain⟨_,_,_,_,_,_,_,_,h,_⟩:=h;omega
noncomputable def mW(n:Nat):DSp:=fun ds U Q=>∃(pre post:List Nat) (es:List (Nat×PyData×List Nat)) (c:Nat) (w:Str) (d dep:Nat),ds=[.v (.str (txt (pre++bj c (es.map (·.2.2))++41::post))),.v (.int (pre.length:Nat)),.v (.int (dep:Nat))]/\((c=47/\w = "upon")\/(c=124/\w = "beside"))/\2<=es.length/\es.length<=8/\(∀e∈es,e.1<=d/\PX (10 ^ 40) e.1 e.2.1 e.2.2)/\d<=n/\1<=n/\dep+d<=13/\Asc (pre++bj c (es.map (·.2.2))++41::post)/\(pre++bj c (es.map (·.2.2))++41::post).length<=9000/\∀Z,(∀b ds,U b=some ds->Z b=some ds)->Q (.v (.tuple [.tuple [.str w,.tuple (es.map (·.2.1))],.int ((pre.length+(bj c (es.map (·.2.2))).length+1:Nat):Int)])) Z
theorem xM{n:Nat}{U:Mu}{Q:DK}{ds:List D}(h:mW n ds U Q):ds.length=3:=by obtain⟨_,_,_,_,_,_,_,rfl,_⟩:=h;rfl
noncomputable def pS(n:Nat):DSp:=fun ds U Q=>∃(pre post lt:List Nat) (t:PyData) (u v d dep:Nat),ds=[.v (.str (txt (pre++dg u++120::(dg v++91::(lt++93::post))))),.v (.int (pre.length:Nat)),.v (.int (dep:Nat))]/\u<10 ^ 40/\v<10 ^ 40/\d<=n/\1<=n/\PX (10 ^ 40) d t lt/\dep+d<=13/\Asc (pre++dg u++120::(dg v++91::(lt++93::post)))/\(pre++dg u++120::(dg v++91::(lt++93::post))).length<=9000/\∀Z,(∀b ds,U b=some ds->Z b=some ds)->Q (.v (.tuple [.tuple [.str "grid",.int (u:Nat),.int (v:Nat),t],.int ((pre.length+((dg u).length+1+(dg v).length+1+lt.length)+1:Nat):Int)])) Z
theorem zd{n:Nat}{U:Mu}{Q:DK}{ds:List D}(h:pS n ds U Q):ds.length=3:=by obtain⟨_,_,_,_,_,_,_,_,rfl,_⟩:=h;rfl
noncomputable def lU(n:Nat):DTS:=
 (aM (bN (dB (dOp rGt (ah 2) (dC (.int 12)))) fh br)
 (aM (bt (vL (ah 0) (dO (ah 1)) (dO (dJ (ah 1) (dC (.int 1))))) (ao 3))
 (aM (bN (dB (dOp wF (ah 3) (dC (.tuple [.str "a",.str "b",.str "c"])))) (bG (bb (ae (bb (ae (dC (.str "kind")) (ae (HJ ["a","b","c"] (ah 3)) aj))) (ae (dJ (ah 1) (dC (.int 1))) aj)))) br)
 (aM (bN (dB (dOp (bI false) (ah 3) (dC (.str "~")))) (aM (bt (aK (dm n) (ae (ah 0) (ae (dJ (ah 1) (dC (.int 1))) (ae (dJ (ah 2) (dC (.int 1))) aj)))) (eD 2 (bc (ao 4) (bc (ao 5) fg))))
 (bG (bb (ae (bb (ae (dC (.str "turn")) (ae (ah 4) aj))) (ae (ah 5) aj))))) br)
 (aM (bN (dB (dOp (bI false) (ah 3) (dC (.str "(")))) (bG (aK (mW n) (ae (ah 0) (ae (dJ (ah 1) (dC (.int 1))) (ae (dJ (ah 2) (dC (.int 1))) aj))))) br)
 (bG (aK (pS n) (ae (ah 0) (ae (ah 1) (ae (dJ (ah 2) (dC (.int 1))) aj))))))))))
noncomputable def i9(n:Nat):DTS:=
 (aM (uk (dB (dOp (bI false) (vL (ah 0) (dO (ah 1)) (dO (dJ (ah 1) (dC (.int 1))))) (ah 5))) (aM (bt (aK (dm n) (ae (ah 0) (ae (dJ (ah 1) (dC (.int 1))) (ae (ah 2) aj)))) (eD 2 (bc (ao 6) (bc (ao 1) fg))))
 (mK (BD (ah 4) (ah 6)))))
 (aM (mK (aK qx (ae (ah 0) (ae (ah 1) (ae (dC (.str ")")) aj)))))
 (bG (bb (ae (bb (ae (dIf (dB (dOp (bI false) (ah 5) (dC (.str "/")))) (dC (.str "upon")) (dC (.str "beside"))) (ae (dCB lq (ae (ah 4) aj)) aj))) (ae (dJ (ah 1) (dC (.int 1))) aj))))))
noncomputable def kr(n:Nat):DTS:=
 (aM (bt (aK (dm n) (ae (ah 0) (ae (ah 1) (ae (ah 2) aj)))) (eD 2 (bc (ao 3) (bc (ao 1) fg))))
 (aM (bt (tG (ae (ah 3) aj)) (ao 4))
 (aM (bt (vL (ah 0) (dO (ah 1)) (dO (dJ (ah 1) (dC (.int 1))))) (ao 5))
 (aM (bN (kb (dB (dOp (bI true) (ah 5) (dC (.str "/")))) (dB (dOp (bI true) (ah 5) (dC (.str "|"))))) fh br)
 (i9 n)))))
noncomputable def kU(n:Nat):DTS:=
 (aM (bt (aK kN (ae (ah 0) (ae (ah 1) (ae (dC (.str "x")) aj)))) (eD 2 (bc (ao 3) (bc (ao 1) fg))))
 (aM (bt (aK kN (ae (ah 0) (ae (ah 1) (ae (dC (.str "[")) aj)))) (eD 2 (bc (ao 4) (bc (ao 1) fg))))
 (aM (bt (aK (dm n) (ae (ah 0) (ae (ah 1) (ae (ah 2) aj)))) (eD 2 (bc (ao 5) (bc (ao 1) fg))))
 (aM (mK (aK qx (ae (ah 0) (ae (ah 1) (ae (dC (.str "]")) aj)))))
 (bG (bb (ae (bb (ae (dC (.str "grid")) (ae (ah 3) (ae (ah 4) (ae (ah 5) aj))))) (ae (dJ (ah 1) (dC (.int 1))) aj))))))))
section
variable {U:Mu}{Qd:DK}{ds:List D}
theorem yc(n:Nat)(h:pS n ds U Qd):kU n ‹Qd› (aY ["","","","","",""] ds) U:=by
 obtain⟨pre,post,lt,t,u,v,d,dep,rfl,hu,hv,hd,h1,px,hdep,ha,hl,q⟩:=h
 unfold kU
 walk_at "rl"
 refine⟨pre,dg v++91::(lt++93::post),u,120,?_,⋯,hu,hl,fun ad k1=>?_⟩
 ·rw[lit "x"];rfl
 walk_at "rl"
 have e2:pre++dg u++120::(dg v++91::(lt++93::post))=(pre++dg u++[120])++dg v++91::(lt++93::post):=by simp
 have n2:pre.length+(dg u).length+1=(pre++dg u++[120]).length:=by simp;omega
 refine⟨trivial,pre++dg u++[120],lt++93::post,v,91,?_,⋯,hv,by rw[<- e2];exact hl,fun al k2=>?_⟩
 ·rw[lit "[",e2,n2];rfl
 walk_at "rl"
 have e3:pre++dg u++120::(dg v++91::(lt++93::post))=(pre++dg u++[120]++dg v++[91])++lt++93::post:=by simp
 have n3:(pre++dg u++[120]).length+(dg v).length+1=(pre++dg u++[120]++dg v++[91]).length:=by simp;omega
 refine⟨trivial,pre++dg u++[120]++dg v++[91],93::post,lt,t,d,dep,?_,hd,h1,px,hdep,by rw[<- e3];exact ha,by rw[<- e3];exact hl,fun bd k3=>?_⟩
 ·rw[e3,n3]
 walk_at "rl"
 have n4:(pre++dg u++120::(dg v++91::(lt++93::post)))[(pre++dg u++[120]++dg v++[91]).length+lt.length]? = some 93:=by
  rw[e3,append_assoc _ lt,List.getElem?_append_right ∅,List.getElem?_append_right ∅]
  simp
 refine⟨trivial,_,(pre++dg u++[120]++dg v++[91]).length+lt.length,93,by rw[lit "]"];rfl,ha,⋯,hl,n4,?_⟩
 walk_at "rl"
 have:=q bd fun b ds e=>k3 b ds (k2 b ds (k1 b ds e))
 have en:(((pre++dg u++[120]++dg v++[91]).length+lt.length:Nat):Int)+1=((pre.length+((dg u).length+1+(dg v).length+1+lt.length)+1:Nat):Int):=by simp;omega
 exact en▸this
end
section
variable {U:Mu}{Qd:DK}{ds:List D}
theorem Fw:Str.ofString "~"=txt [126]:=lit _
theorem w6{c:Nat}{U:Mu}{Q:DK}(hc:c<128):wF (.v (.str (txt [c]))) (.v (.tuple [.str "a",.str "b",.str "c"])) U Q=Q (.v (.bool (decide (97<=c/\c<=99)))) U:=by
 have ac:Asc [c]:=fun x hx=>by rw[List.mem_singleton.mp hx];exact hc
 have hs:=oz ac
 have hlay:PyData.canLay0 (.str (txt [c]))=true:=by
  unfold SeqAt.shaped at hs
  exact (and_eq_true _ _▸hs).1
 have ev:([PyData.str "a",.str "b",.str "c"].any fun b=>PyData.eqv b (.str (txt [c])))=decide (97<=c/\c<=99):=by
  simp only[any_cons,any_nil,Bool.or_false]
  rw[lit "a",lit "b",lit "c",tF,tF,tF]
  show (decide ([97]=[c]) || (decide ([98]=[c]) || decide ([99]=[c])))=_
  rw[Bool.eq_iff_iff]
  simp only[Bool.or_eq_true,decide_eq_true_eq,List.cons.injEq,and_true]
  omega
 rw[L4,ev]
 exact propext ⟨fun h=>h.2.2.2,fun h=>⟨nofun,hlay,by show 0<=60;decide,h⟩⟩
theorem MO:∀i:Nat,i<3->([("a":Str),"b","c"]:List Str)[i]? = some (txt [97+i])/\∀m,m<i->([("a":Str),"b","c"]:List Str)[m]?≠some (txt [97+i])
 |0,_=>⟨congrArg some (lit "a"),fun m h=>absurd h (Nat.not_lt_zero m)⟩
 |1,_=>⟨congrArg some (lit "b"),fun m h=>by
   have:m=0:=by omega
   subst this
   intro z
   have z1:Str.ofString "a"=txt [98]:=Option.some.inj z
   rw[lit] at z1
   have:=sZ z1
   cases this⟩
 |2,_=>⟨congrArg some (lit "c"),fun m h=>by
   have:m=0\/m=1:=by omega
   rcases this with rfl|rfl<;>intro z
   ·have z1:Str.ofString "a"=txt [99]:=Option.some.inj z
    rw[lit] at z1
    have:=sZ z1
    cases this
   ·have z1:Str.ofString "b"=txt [99]:=Option.some.inj z
    rw[lit] at z1
    have:=sZ z1
    cases this⟩
theorem xZ{pre r:List Nat}{c:Nat}:(pre++c::r)[pre.length]? = some c:=by simp
theorem Di(n:Nat):∃c r,dg n=c::r/\48<=c/\c<=57:=by
 cases e:dg n with
 |nil=>exact absurd e (Dr n)
 |cons c r=>exact⟨c,r,rfl,qL n c (by rw[e];exact mem_cons_self)⟩
theorem yY(n:Nat)(h:dm (n+1) ds U Qd):lU n ‹Qd› (aY ["","","","","",""] ds) U:=by
 obtain⟨pre,post,lt,t,d,dep,rfl,hd,_,px,hdep,ha,hl,q⟩:=h
 have dp:=px.pos
 have hc:∀{c:Nat},(pre++lt++post)[pre.length]? = some c->c<128:=fun h=>ha _ (mem_of_getElem? h)
 have ac:∀{c:Nat},c<128->Asc [c]:=fun h x hx=>by rw[List.mem_singleton.mp hx];exact h
 unfold lU
 walk_at "rl"
 rw[j7 (by rw[decide_eq_true_eq];omega)]
 walk_at "rl"
 refine⟨bD ∅,?_⟩
 cases px with
 |kind i hi=>
  have h0:(pre++[97+i]++post)[pre.length]? = some (97+i):=by rw[append_assoc];exact xZ
  rw[kY h0,w6 (hc h0),decide_eq_true ∅]
  walk_at "rl"
  obtain⟨j1,j2⟩:=MO i hi
  refine⟨i,j1,j2,?_⟩
  exact q U fun _ _ e=>e
 |@turn d' t' l' p'=>
  have h0:(pre++126::l'++post)[pre.length]? = some 126:=by rw[append_assoc];exact xZ
  rw[kY h0,w6 (hc h0),decide_eq_false ∅]
  walk_at "rl"
  rw[Fw,d4 (ac ⋯) (cQ rfl),decide_eq_true rfl]
  walk_at "rl"
  have e1:pre++126::l'++post=(pre++[126])++l'++post:=by simp
  have n1:((pre.length:Nat):Int)+1=((pre++[126]).length:Nat):=by simp
  have n2:((dep:Nat):Int)+1=((dep+1:Nat):Int):=by omega
  have:=p'.pos
  refine⟨pre++[126],post,l',t',d',dep+1,by rw[e1,n1,n2],∅,∅,p',∅,by rw[<- e1];exact ha,by rw[<- e1];exact hl,fun ad k1=>?_⟩
  walk_at "rl"
  refine⟨trivial,?_⟩
  have en:(((pre++[126]).length+l'.length:Nat):Int)=((pre.length+(126::l').length:Nat):Int):=by simp;omega
  have:=q ad k1
  exact en▸this
 |@grid d' t' l' u v hu hv bu bv p'=>
  have eu:whl u=dg u.toNat:=by unfold whl;rw[if_neg ∅];congr 1;omega
  have ev:whl v=dg v.toNat:=by unfold whl;rw[if_neg ∅];congr 1;omega
  obtain⟨c0,r0,e0,c1,c2⟩:=Di u.toNat
  have et:pre++(whl u++120::(whl v++91::(l'++[93])))++post=pre++dg u.toNat++120::(dg v.toNat++91::(l'++93::post)):=by rw[eu,ev];simp
  have h0:(pre++(whl u++120::(whl v++91::(l'++[93])))++post)[pre.length]? = some c0:=by rw[et,e0];simp
  rw[kY h0,w6 (hc h0),decide_eq_false ∅]
  walk_at "rl"
  rw[Fw,d4 (ac ∅) (cQ rfl),decide_eq_false (by intro z;have:=(List.cons.inj z).1;omega)]
  walk_at "rl"
  rw[HV,d4 (ac ∅) (cQ rfl),decide_eq_false (by intro z;have:=(List.cons.inj z).1;omega)]
  walk_at "rl"
  have n2:((dep:Nat):Int)+1=((dep+1:Nat):Int):=by omega
  have:=p'.pos
  refine⟨pre,post,l',t',u.toNat,v.toNat,d',dep+1,by rw[et,n2],∅,∅,∅,∅,p',∅,by rw[<- et];exact ha,by rw[<- et];exact hl,fun ad k1=>?_⟩
  have en:((pre.length+((dg u.toNat).length+1+(dg v.toNat).length+1+l'.length)+1:Nat):Int)=((pre.length+(whl u++120::(whl v++91::(l'++[93]))).length:Nat):Int):=by rw[eu,ev];simp;omega
  have hU:((u.toNat:Nat):Int)=u:=by omega
  have hV:((v.toNat:Nat):Int)=v:=by omega
  have:=q ad k1
  rw[en,hU,hV]
  exact this
 |@upon d' es h2 h8 hed hes=>
  have h0:(pre++40::(bj 47 (es.map (·.2.2))++[41])++post)[pre.length]? = some 40:=by rw[append_assoc];exact xZ
  rw[kY h0,w6 (hc h0),decide_eq_false ∅]
  walk_at "rl"
  rw[Fw,d4 (ac ⋯) (cQ rfl),decide_eq_false ⋯]
  walk_at "rl"
  rw[HV,d4 (ac ⋯) (cQ rfl),decide_eq_true rfl]
  walk_at "rl"
  have e1:pre++40::(bj 47 (es.map (·.2.2))++[41])++post=(pre++[40])++bj 47 (es.map (·.2.2))++41::post:=by simp
  have n1:((pre.length:Nat):Int)+1=((pre++[40]).length:Nat):=by simp
  have n2:((dep:Nat):Int)+1=((dep+1:Nat):Int):=by omega
  obtain⟨e0,he0⟩:∃e,e∈es:=by
   cases es with
   |nil=>simp at h2
   |cons e r=>exact⟨e,mem_cons_self⟩
  have:=(hes e0 he0).pos
  have:=hed e0 he0
  refine⟨pre++[40],post,es,47,_,d',dep+1,by rw[e1,n1,n2],.inl ⟨rfl,rfl⟩,h2,h8,fun e he=>⟨hed e he,hes e he⟩,∅,∅,∅,by rw[<- e1];exact ha,by rw[<- e1];exact hl,fun ad k1=>?_⟩
  have en:(((pre++[40]).length+(bj 47 (es.map (·.2.2))).length+1:Nat):Int)=((pre.length+(40::(bj 47 (es.map (·.2.2))++[41])).length:Nat):Int):=by simp;omega
  have:=q ad k1
  exact en▸this
 |@beside d' es h2 h8 hed hes=>
  have h0:(pre++40::(bj 124 (es.map (·.2.2))++[41])++post)[pre.length]? = some 40:=by rw[append_assoc];exact xZ
  rw[kY h0,w6 (hc h0),decide_eq_false ∅]
  walk_at "rl"
  rw[Fw,d4 (ac ⋯) (cQ rfl),decide_eq_false ⋯]
  walk_at "rl"
  rw[HV,d4 (ac ⋯) (cQ rfl),decide_eq_true rfl]
  walk_at "rl"
  have e1:pre++40::(bj 124 (es.map (·.2.2))++[41])++post=(pre++[40])++bj 124 (es.map (·.2.2))++41::post:=by simp
  have n1:((pre.length:Nat):Int)+1=((pre++[40]).length:Nat):=by simp
  have n2:((dep:Nat):Int)+1=((dep+1:Nat):Int):=by omega
  obtain⟨e0,he0⟩:∃e,e∈es:=by
   cases es with
   |nil=>simp at h2
   |cons e r=>exact⟨e,mem_cons_self⟩
  have:=(hes e0 he0).pos
  have:=hed e0 he0
  refine⟨pre++[40],post,es,124,_,d',dep+1,by rw[e1,n1,n2],.inr ⟨rfl,rfl⟩,h2,h8,fun e he=>⟨hed e he,hes e he⟩,∅,∅,∅,by rw[<- e1];exact ha,by rw[<- e1];exact hl,fun ad k1=>?_⟩
  have en:(((pre++[40]).length+(bj 124 (es.map (·.2.2))).length+1:Nat):Int)=((pre.length+(40::(bj 124 (es.map (·.2.2))++[41])).length:Nat):Int):=by simp;omega
  have:=q ad k1
  exact en▸this
end
section
variable {U:Mu}{Qd:DK}{ds:List D}
def w5(c:Nat)(ls:List (List Nat))(post:List Nat)(i:Nat):List Nat:=if i<ls.length then c::(bj c (ls.drop i)++41::post) else 41::post
theorem rest_eq{c:Nat}{ls:List (List Nat)}{post:List Nat}{i:Nat}(h1:1<=i)(h2:i<=ls.length):bj c ls++41::post=bj c (ls.take i)++w5 c ls post i:=by
 unfold w5
 split
 ·rename_i z
  rw[nq c i ls h1 z]
  simp
 ·have:i=ls.length:=by omega
  rw[this,take_length]
theorem wM{c:Nat}{ls:List (List Nat)}{i:Nat}{l:List Nat}(h1:1<=i)(h:ls[i]? = some l):bj c (ls.take (i+1))=bj c (ls.take i)++c::l:=by
 have hi:i<ls.length:=by
  rcases lt_or_ge i ls.length with z|z
  ·exact z
  ·rw[getElem?_eq_none z] at h;cases h
 rw[nq c i (ls.take (i+1)) h1 (by rw[length_take];omega),List.take_take,Nat.min_eq_left ∅]
 have:(ls.take (i+1)).drop i=[l]:=by
  rw[take_succ,h]
  rw[List.drop_append_of_le_length (by rw[length_take];omega),List.drop_eq_nil_of_le (by rw[length_take];omega)]
  rfl
 rw[this]
 rfl
theorem Cn{c:Nat}{ls:List (List Nat)}{post pre:List Nat}{i:Nat}(h1:1<=i)(h2:i<=ls.length):(pre++bj c ls++41::post)[pre.length+(bj c (ls.take i)).length]? = some (if i<ls.length then c else 41):=by
 rw[append_assoc,rest_eq h1 h2,<- append_assoc,List.getElem?_append_right (by simp)]
 rw[show pre.length+(bj c (ls.take i)).length-(pre++bj c (ls.take i)).length=0 by simp]
 unfold w5
 split<;>rfl
theorem MT:Str.ofString "|"=txt [124]:=lit _
theorem uM{n:Nat}{pre post L:List Nat}{es:List (Nat×PyData×List Nat)}{c:Nat}{w:Str}{d dep:Nat}{first r6:Option D}{p:Addr}{e0:Nat×PyData×List Nat}{es':List (Nat×PyData×List Nat)}(hes0:es=e0::es')(hL:pre++bj c (es.map (·.2.2))++41::post=L)(hcw:(c=47/\w = "upon")\/(c=124/\w = "beside"))(h2:2<=es.length)(h8:es.length<=8)(hes:∀e∈es,e.1<=d/\PX (10 ^ 40) e.1 e.2.1 e.2.2)(hd:d<=n)(h1n:1<=n)(hdep:dep+d<=13)(ha:Asc L)(hl:L.length<=9000)
  {ad:Mu} (hp1:ad p=none) (k1:∀b ds,U b=some ds->ad b=some ds)
  (q:∀Z,(∀b ds,U b=some ds->Z b=some ds)->Qd (.v (.tuple [.tuple [.str w,.tuple (es.map (·.2.1))],.int ((pre.length+(bj c (es.map (·.2.2))).length+1:Nat):Int)])) Z) :
  i9 n ‹Qd› [some (.v (.str (txt L))),some (.v (.int ((pre.length+e0.2.2.length:Nat):Int))),some (.v (.int (dep:Nat))),first,some (.m p),some (.v (.str (txt [c]))),r6] (aF ad p [e0.2.1]):=by
 have hc:c<128:=by rcases hcw with ⟨z,_⟩|⟨z,_⟩<;>omega
 have hc41:c≠41:=by rcases hcw with ⟨z,_⟩|⟨z,_⟩<;>omega
 have ac:∀{x:Nat},x<128->Asc [x]:=fun h y hy=>by rw[List.mem_singleton.mp hy];exact h
 have ll:(es.map (·.2.2)).length=es.length:=length_map _
 have sgn:∀i,1<=i->i<=es.length->L[pre.length+(bj c ((es.map (·.2.2)).take i)).length]? = some (if i<es.length then c else 41):=fun i a b=>by
  rw[<- hL];have:=Cn (c:=c) (ls:=es.map (·.2.2)) (post:=post) (pre:=pre) a (by rw[ll];exact b);rw[ll] at this;exact this
 unfold i9
 rw[nX,yP]
 refine⟨fun m ρ Z=>∃(i:Nat) (r6:Option D),1<=i/\i<=es.length/\m=es.length-i/\ρ=[some (.v (.str (txt L))),some (.v (.int ((pre.length+(bj c ((es.map (·.2.2)).take i)).length:Nat):Int))),some (.v (.int (dep:Nat))),first,some (.m p),some (.v (.str (txt [c]))),r6]/\Z p=some ((es.take i).map (·.2.1))/\∀b ds,U b=some ds->Z b=some ds,⟨es.length-1,1,r6,⋯,∅,rfl,by rw[hes0];rfl,by rw[aT,hes0];rfl,fun b ds e=>?_⟩,?_⟩
 ·have hb:b≠p:=fun z=>by have:=k1 b ds e;rw[z,hp1] at this;cases this
  rw[ba hb];exact k1 b ds e
 ·rintro m ρ al ⟨i,r6,i1,i2,rfl,rfl,hp2,k2⟩
  have si:=sgn i i1 i2
  walk_at "rl"
  refine⟨bD ∅,?_⟩
  rw[kY si]
  by_cases il:i<es.length
  ·rw[if_pos il,d4 (ac hc) (ac hc),decide_eq_true rfl]
   obtain⟨e,ee⟩:∃e,es[i]? = some e:=⟨_,getElem?_eq_getElem il⟩
   have em:(es.map (·.2.2))[i]? = some e.2.2:=by rw[getElem?_map,ee];rfl
   obtain⟨de,pe⟩:=hes e (mem_of_getElem? ee)
   have e2:L=(pre++bj c ((es.map (·.2.2)).take i)++[c])++e.2.2++w5 c (es.map (·.2.2)) post (i+1):=by
    rw[<- hL,append_assoc,rest_eq (i:=i+1) ∅ (by rw[ll];omega),wM i1 em];simp
   have n1:((pre.length+(bj c ((es.map (·.2.2)).take i)).length:Nat):Int)+1=((pre++bj c ((es.map (·.2.2)).take i)++[c]).length:Nat):=by simp;omega
   walk_at "rl"
   rw[if_pos trivial]
   refine⟨_,_,e.2.2,e.2.1,e.1,dep,by rw[e2,n1],∅,h1n,pe,∅,by rw[<- e2];exact ha,by rw[<- e2];exact hl,fun bd k3=>?_⟩
   have hp3:=k3 _ _ hp2
   walk_at "rl"
   simp only[hp3]
   refine⟨trivial,by rw[length_map,length_take];omega,es.length-(i+1),∅,i+1,some (.v e.2.1),∅,∅,rfl,?_,?_,fun b ds e'=>?_⟩
   ·have en:(pre++bj c ((es.map (·.2.2)).take i)++[c]).length+e.2.2.length=pre.length+(bj c ((es.map (·.2.2)).take (i+1))).length:=by rw[wM i1 em];simp;omega
    rw[en]
   ·rw[aT,take_succ,ee];simp
   ·have hb:b≠p:=fun z=>by have:=k1 b ds e';rw[z,hp1] at this;cases this
    rw[ba hb];exact k3 b ds (k2 b ds e')
  ·have ei:i=es.length:=by omega
   rw[if_neg il] at si
   rw[if_neg il,d4 (ac ⋯) (ac hc),decide_eq_false (fun z=>hc41 (List.cons.inj z).1.symm)]
   walk_at "rl"
   rw[if_neg (fun z=>z)]
   have et:(es.map (·.2.2)).take i=es.map (·.2.2):=by rw[ei];exact List.take_of_length_le (by rw[ll];exact le_refl _)
   have et2:es.take i=es:=by rw[ei];exact take_length
   rw[et2] at hp2
   rw[et] at si ⊢
   refine⟨L,_,41,by rw[Nz],ha,⋯,hl,si,?_⟩
   have en:((pre.length+(bj c (es.map (·.2.2))).length:Nat):Int)+1=((pre.length+(bj c (es.map (·.2.2))).length+1:Nat):Int):=by omega
   have qf:=q al k2
   walk_at "rl"
   rcases hcw with ⟨rfl,rfl⟩|⟨rfl,rfl⟩
   ·rw[Ha,d4 (ac hc) (cQ rfl),decide_eq_true rfl]
    walk_at "rl"
    simp only[hp2]
    exact en▸qf
   ·rw[Ha,d4 (ac hc) (cQ rfl),decide_eq_false ⋯]
    walk_at "rl"
    simp only[hp2]
    exact en▸qf
theorem wc(n:Nat)(h:mW n ds U Qd):kr n ‹Qd› (aY ["","","","","","",""] ds) U:=by
 obtain⟨pre,post,es,c,w,d,dep,rfl,hcw,h2,h8,hes,hd,h1n,hdep,ha,hl,q⟩:=h
 obtain⟨L,hL⟩:∃L,pre++bj c (es.map (·.2.2))++41::post=L:=⟨_,rfl⟩
 have hc:c<128:=by rcases hcw with ⟨z,_⟩|⟨z,_⟩<;>omega
 have hc41:c≠41:=by rcases hcw with ⟨z,_⟩|⟨z,_⟩<;>omega
 have ac:∀{x:Nat},x<128->Asc [x]:=fun h y hy=>by rw[List.mem_singleton.mp hy];exact h
 have ll:(es.map (·.2.2)).length=es.length:=length_map _
 have sgn:∀i,1<=i->i<=es.length->L[pre.length+(bj c ((es.map (·.2.2)).take i)).length]? = some (if i<es.length then c else 41):=fun i a b=>by
  rw[<- hL];have:=Cn (c:=c) (ls:=es.map (·.2.2)) (post:=post) (pre:=pre) a (by rw[ll];exact b);rw[ll] at this;exact this
 rw[hL] at ha hl ⊢
 obtain⟨e0,es',rfl⟩:∃e r,es=e::r:=by
  cases es with
  |nil=>simp at h2
  |cons e r=>exact⟨e,r,rfl⟩
 unfold kr
 walk_at "rl"
 have t0:(e0::es').map (·.2.2)=e0.2.2::es'.map (·.2.2):=rfl
 have e1:L=pre++e0.2.2++w5 c ((e0::es').map (·.2.2)) post 1:=by
  rw[<- hL,append_assoc,rest_eq (i:=1) ⋯ (by rw[ll];omega),<- append_assoc];rfl
 obtain⟨d0,p0⟩:=hes e0 mem_cons_self
 refine⟨pre,w5 c ((e0::es').map (·.2.2)) post 1,e0.2.2,e0.2.1,e0.1,dep,by rw[e1],∅,h1n,p0,∅,by rw[<- e1];exact ha,by rw[<- e1];exact hl,fun ad k1=>?_⟩
 walk_at "rl"
 refine⟨trivial,fun p hp=>?_⟩
 have s1:=sgn 1 ⋯ ∅
 rw[if_pos ∅] at s1
 have j1:pre.length+(bj c (((e0::es').map (·.2.2)).take 1)).length=pre.length+e0.2.2.length:=rfl
 rw[j1] at s1
 refine⟨bD ∅,?_⟩
 rw[kY s1]
 rcases hcw with ⟨rfl,rfl⟩|⟨rfl,rfl⟩
 ·rw[Ha,d4 (ac hc) (cQ rfl),decide_eq_true rfl]
  walk_at "rl"
  exact uM rfl hL (.inl ⟨rfl,rfl⟩) h2 h8 hes hd h1n hdep ha hl hp k1 q
 ·rw[Ha,d4 (ac hc) (cQ rfl),decide_eq_false ⋯]
  walk_at "rl"
  rw[MT,d4 (ac hc) (cQ rfl),decide_eq_true rfl]
  walk_at "rl"
  exact uM rfl hL (.inr ⟨rfl,rfl⟩) h2 h8 hes hd h1n hdep ha hl hp k1 q
end
section
variable {U:Mu}{Qd:DK}{ds:List D}
theorem yO{P:Nat->PyData->List Nat->Prop}:∀{es:List (Nat×Nat×PyData)},(∀e∈es,∃l,P e.1 e.2.2 l/\l.length<=20*e.2.1)->∃fs:List (Nat×PyData×List Nat),fs.map (·.2.1)=es.map (·.2.2)/\fs.map (·.1)=es.map (·.1)/\(∀f∈fs,P f.1 f.2.1 f.2.2)/\((fs.map (·.2.2)).map (·.length)).sum<=20*(es.map (·.2.1)).sum
 |[],_=>⟨[],rfl,rfl,(fun _ z=>nomatch z),zero_le _⟩
 |e::r,h=>by
  obtain⟨fs,h1,h2,h3,h4⟩:=yO (es:=r) fun x hx=>h x (mem_cons_of_mem _ hx)
  obtain⟨l,hl,hn⟩:=h e mem_cons_self
  refine⟨(e.1,e.2.2,l)::fs,by rw[map_cons,h1];rfl,by rw[map_cons,h2];rfl,fun f hf=>?_,?_⟩
  ·rcases List.mem_cons.mp hf with z|z
   ·rw[z];exact hl
   ·exact h3 f z
  ·simp only[map_cons,sum_cons]
   omega
theorem ze{u:Int}(h1:1<=u)(h2:u<=1000000):(whl u).length<=7:=by
 unfold whl
 rw[if_neg ∅]
 exact qY (k:=6) (by show u.natAbs<10000000;omega)
theorem CK{c:Nat}{d:Nat}{es:List (Nat×Nat×PyData)}{fs:List (Nat×PyData×List Nat)}(h1:fs.map (·.2.1)=es.map (·.2.2))(h2:fs.map (·.1)=es.map (·.1))(hd:∀e∈es,e.1<=d):fs.length=es.length/\∀f∈fs,f.1<=d:=by
 have hl:fs.length=es.length:=by have:=congrArg List.length h1;simpa using this
 refine⟨hl,fun f hf=>?_⟩
 have:f.1∈es.map (·.1):=by rw[<- h2];exact mem_map_of_mem hf
 obtain⟨e,he,e1⟩:=List.mem_map.mp this
 rw[<- e1];exact hd e he
theorem L1{m:Int}(hm:m<=3){d c:Nat}{t:PyData}(h:IsP m d c t):∃l,PX (10 ^ 40) d t l/\l.length<=20*c:=by
 induction h with
 |kind i i0 i1=>
  have e:i=((i.toNat:Nat):Int):=by omega
  rw[e]
  exact⟨_,.kind i.toNat ∅,by show 1<=20*1;decide⟩
 |turn _ ih=>
  obtain⟨l,h1,h2⟩:=ih
  exact⟨_,.turn h1,by rw[length_cons];omega⟩
 |grid u v u1 v1 u2 v2 _ ih=>
  obtain⟨l,h1,h2⟩:=ih
  have:=ze u1 u2
  have:=ze v1 v2
  exact⟨_,.grid u v u1 v1 ∅ ∅ h1,by simp only[length_append,length_cons,length_nil];omega⟩
 |upon es e2 e8 hd _ ih=>
  obtain⟨fs,f1,f2,f3,f4⟩:=yO ih
  obtain⟨g1,g2⟩:=CK (c:=0) f1 f2 hd
  refine⟨_,by rw[<- f1];exact .upon fs ∅ ∅ g2 f3,?_⟩
  have:=nH 47 (fs.map (·.2.2))
  rw[length_map] at this
  rw[length_cons,length_append]
  show _+1+1<=_
  split at this<;>omega
 |beside es e2 e8 hd _ ih=>
  obtain⟨fs,f1,f2,f3,f4⟩:=yO ih
  obtain⟨g1,g2⟩:=CK (c:=0) f1 f2 hd
  refine⟨_,by rw[<- f1];exact .beside fs ∅ ∅ g2 f3,?_⟩
  have:=nH 124 (fs.map (·.2.2))
  rw[length_map] at this
  rw[length_cons,length_append]
  show _+1+1<=_
  split at this<;>omega
end
noncomputable def l7:DSp:=fun ds U Q=>∃(t:PyData) (m:Int),ds=[.v t,.v (.int m)]/\Sh t/\okN (cnt m 12 t)=true/\∀Z,(∀b ds,U b=some ds->Z b=some ds)->Q (.v .none) Z
theorem vp{U:Mu}{Q:DK}{ds:List D}(h:l7 ds U Q):ds.length=2:=by obtain⟨_,_,rfl,_⟩:=h;rfl
noncomputable def j5:XSp:=fun ds U Xk=>∃(t:PyData) (m:Int),ds=[.v t,.v (.int m)]/\Sh t/\okN (cnt m 12 t)=false/\∀Z,(∀b ds,U b=some ds->Z b=some ds)->Xk Z
theorem rD{ds:List D}{U:Mu}{Xk:Mu->Prop}(h:j5 ds U Xk):ds.length=2:=by obtain⟨_,_,rfl,_⟩:=h;rfl
noncomputable def sX:DSp:=fun ds U Q=>∃(a:Addr) (t:PyData) (m:Int) (d c:Nat),ds=[.m a,.v t,.v (.int m)]/\0<=m/\Bag U a/\IsP m d c t/\d<=12/\∀x Z,Sh x->okN (cnt m 12 x)=false->Cu a U Z->Q (.v x) Z
theorem Ah{U:Mu}{Q:DK}{ds:List D}(h:sX ds U Q):ds.length=3:=by obtain⟨_,_,_,_,_,rfl,_⟩:=h;rfl
noncomputable def nO:DSp:=fun ds U Q=>∃(t:PyData) (l:List Nat) (d:Nat),ds=[.v t]/\Sh t/\okN (cnt 3 12 t)=true/\PX (10 ^ 60) d t l/\d<=13/\l.length<=9000/\∀Z,(∀b ds,U b=some ds->Z b=some ds)->Q (.v (.str (txt l))) Z
theorem AB{U:Mu}{Q:DK}{ds:List D}(h:nO ds U Q):ds.length=1:=by obtain⟨_,_,_,rfl,_⟩:=h;rfl
noncomputable def j8:DSp:=fun ds U Q=>∃(t:PyData) (l:List Nat) (d:Nat),ds=[.v (.str (txt l))]/\Sh t/\okN (cnt 3 12 t)=true/\PX (10 ^ 40) d t l/\d<=12/\l.length<=9000/\∀Z,(∀b ds,U b=some ds->Z b=some ds)->Q (.v t) Z
theorem zG{U:Mu}{Q:DK}{ds:List D}(h:j8 ds U Q):ds.length=1:=by obtain⟨_,_,_,rfl,_⟩:=h;rfl
noncomputable def pY:XSp:=fun ds U Xk=>∃t:PyData,ds=[.v t]/\Sh t/\okN (cnt 3 12 t)=false/\∀Z,(∀b ds,U b=some ds->Z b=some ds)->Xk Z
theorem wg{ds:List D}{U:Mu}{Xk:Mu->Prop}(h:pY ds U Xk):ds.length=1:=by obtain⟨_,rfl,_⟩:=h;rfl
noncomputable def i8:DTS:=
 (bN (jP (dB (aK jo (ae (ah 0) (ae (ah 1) aj))))) fh br)
noncomputable def cX:DTX:=
 (xIf (jP (dB (aK jo (ae (ah 0) (ae (ah 1) aj))))) (fun _ U Xk=>Xk U) Ca)
noncomputable def gh(ea:Addr):DTS:=
 (aM (bt (gC (ae (bb (ae (dC (.str "NoRoot")) (ae (fo ea false (ah 1)) aj))) (ae (bb (ae (dC (.str "NoNumber")) (ae (fo ea false (ah 1)) aj))) (ae (bb (ae (dC (.str "NoLaying")) (ae (fo ea false (ah 1)) aj))) (ae (bb (ae (dC (.str "NoTile")) (ae (fo ea false (ah 1)) aj))) (ae (bb (ae (dC (.str "NoFit")) (ae (fo ea false (ah 1)) aj))) (ae (bb (ae (dC (.str "NoKinds")) (ae (fo ea false (ah 1)) aj))) (ae (bb (ae (dC (.str "NoPlan")) (ae (fo ea true (ah 1)) aj))) (ae (bb (ae (dC (.str "NoSpot")) (ae (fo ea false (ah 1)) aj))) (ae (bb (ae (dC (.str "NoNet")) (ae (fo ea false (ah 1)) aj))) (ae (bb (ae (dC (.str "NoText")) (ae (fo ea false (ah 1)) aj))) (ae (bb (ae (dC (.str "NoSaying")) (ae (fo ea false (ah 1)) aj))) (ae (bb (ae (dC (.str "NoName")) (ae (fo ea false (ah 1)) aj))) (ae (bb (ae (dC (.str "TooMany")) (ae (fo ea false (ah 1)) aj))) aj)))))))))))))) (ao 2))
 (aM (bt (dq [none,none] (iV (ah 2)) (eD 2 (bc (ao 0) (bc (ao 1) fg))) (dB (ah 1)) (ah 0)) (ao 3))
 (aM (bN (kb (dB (dOp (bI false) (dCB cC (ae (ah 3) aj)) (dC (.int 1)))) (dB (fo ea true (ah 1)))) (bG (dOp bg (ah 3) (dC (.int 0)))) br)
 (bG (dC (.str "several"))))))
noncomputable def gu:DTS:=
 (aM (bt (aK (dQ 12) (ae (ah 0) (ae (ah 1) (ae (ah 2) aj)))) (ao 3))
 (bG (dOp bg (gC (ae (ah 3) (ae (bb (ae (dC (.str "kind")) (ae (ah 2) aj))) aj))) (dCB tH (ae (aK kG (ae (ah 3) (ae (ah 2) aj))) aj)))))
noncomputable def lR:DTS:=
 (aM (mK (aK l7 (ae (ah 0) (ae (dC (.int 3)) aj))))
 (bG (aK (eY 13) (ae (ah 0) aj))))
noncomputable def kX:DTS:=
 (aM (bN (jP (dB (vi "str" (ah 0)))) fh br)
 (aM (bt (aK (dm 13) (ae (ah 0) (ae (dC (.int 0)) (ae (dC (.int 1)) aj)))) (eD 2 (bc (ao 1) (bc (ao 2) fg))))
 (aM (bN (km (dB (dOp (bI true) (ah 2) (dCB uY (ae (ah 0) aj)))) (jP (dB (aK jo (ae (ah 1) (ae (dC (.int 3)) aj)))))) fh br)
 (bG (ah 1)))))
section
variable {U:Mu}{Qd:DK}{ds:List D}{ρ:Rho}{n:Nat}
theorem sG(h:l7 ds U Qd):i8 ‹Qd› (aY ["",""] ds) U:=by
 obtain⟨t,m,rfl,hs,ho,q⟩:=h
 unfold i8
 walk_at "rl"
 refine⟨t,m,rfl,hs,fun Z k=>?_⟩
 walk_at "rl"
 rw[ho]
 simp only[Bool.not_true,false_eq_true,↓reduceIte]
 exact q Z k
theorem lp{U:Mu}{Qd:DK}{ea fa:Addr}(q:Qd (.v (.str "NoPlan")) U):gh ea {nx:=fun _ _=>False,rt:=Qd} [some (.o fa),some (.o ea),none,none] U:=by
 unfold gh
 simp only[↓nX,↓Dk,↓wK,↓wB,↓kh,↓nY,↓q_c,↓yd,↓wy,↓wJ,↓iz,map_some,set_cons_zero,set_cons_succ]
 refine AI (ns:=[("NoRoot",false),("NoNumber",false),("NoLaying",false),("NoTile",false),("NoFit",false),("NoKinds",false),("NoPlan",true),("NoSpot",false),("NoNet",false),("NoText",false),("NoSaying",false),("NoName",false),("TooMany",false)]) rfl ⋯ ?_
 simp only[↓iz,↓nX,set_cons_zero,set_cons_succ,map_cons,map_nil,filterMap_cons,List.filterMap_nil,D8,false_eq_true,↓reduceIte]
 simp only[↓CA,↓yx,↓q_B,↓Hx,↓GL,↓kh,↓nY,↓qI,↓rJ,↓q_c,↓xb,↓yd,↓w8,↓rA,getElem?_cons_zero,List.getElem?_cons_succ,length_cons,length_nil]
 exact q
theorem kE{Xk:Mu->Prop}(h:j5 ds U Xk):cX (aY ["",""] ds) U Xk:=by
 obtain⟨t,m,rfl,hs,ho,q⟩:=h
 unfold cX
 rw[IJ]
 walk_at "rl"
 refine⟨t,m,rfl,hs,fun Z k=>?_⟩
 rw[ho]
 exact q Z k
theorem Fh(m:Int):okN (cnt m 12 (.tuple [.str "kind",.int m]))=false:=by
 have e:iC m (.tuple [.str "kind",.int m])=none:=by
  show cV m (.str "kind") (.int m)=none
  unfold cV
  rw[if_pos Im,if_neg]
  show ¬ ((true&&decide (0<=m))&&decide (m<m))=true
  rw[decide_eq_false (Int.lt_irrefl m),Bool.and_false]
  decide
 unfold cnt
 rw[e]
 rfl
theorem pC(h:sX ds U Qd):gu ‹Qd› (aY ["","","",""] ds) U:=by
 obtain⟨a,t,m,d,c,rfl,hm,hb,hp,hd,q⟩:=h
 unfold gu
 walk_at "rl"
 refine⟨a,t,m,d,c,rfl,hb,hp,hd,fun x ad hx s1=>?_⟩
 have sx:Sh x:=hx.sh ⋯
 walk_at "rl"
 refine⟨x,m,rfl,sx,fun al k2=>?_⟩
 have s2:Cu a U al:=by
  obtain⟨g,w,e,z⟩:=s1.1
  exact⟨⟨g,w,k2 _ _ e,z⟩,fun b hb ds e=>k2 b ds (by rw[s1.2 b hb];exact e)⟩
 cases e:okN (cnt m 12 x) with
 |true=>
  walk_at "rl"
  exact q _ _ ((IsP.kind (m:=m+1) m hm ∅).lt.sh ⋯) (Fh m) s2
 |false=>
  walk_at "rl"
  exact q _ _ sx e s2
theorem yZ(h:nO ds U Qd):lR ‹Qd› (aY [""] ds) U:=by
 obtain⟨t,l,d,rfl,hs,ho,px,hd,hl,q⟩:=h
 unfold lR
 walk_at "rl"
 refine⟨t,3,rfl,hs,ho,fun ad k1=>?_⟩
 walk_at "rl"
 exact⟨d,t,l,rfl,hd,px,hl,⋯,fun al k2=>q al fun b ds e=>k2 b ds (k1 b ds e)⟩
theorem ym(h:j8 ds U Qd):kX ‹Qd› (aY ["","",""] ds) U:=by
 obtain⟨t,l,d,rfl,hs,ho,px,hd,hl,q⟩:=h
 have eS:∀z:Str,isT "str" (.str z)=true:=fun _=>rfl
 unfold kX
 walk_at "rl"
 refine⟨[],[],l,t,d,1,by rw[append_nil];rfl,∅,⋯,px,∅,by rw[append_nil];exact px.asc,by rw[append_nil];exact hl,fun ad k1=>?_⟩
 walk_at "rl"
 rw[bf]
 have en:decide (((0+l.length:Nat):Int)=((l.length:Nat):Int))=true:=decide_eq_true ∅
 refine⟨trivial,∅,?_⟩
 rw[en]
 walk_at "rl"
 refine⟨t,3,rfl,hs,fun al k2=>?_⟩
 rw[ho]
 walk_at "rl"
 exact q al fun b ds e=>k2 b ds (k1 b ds e)
end
noncomputable def Far(n:Nat):Prop:=10 ^ 40<=n/\n<10 ^ 60
noncomputable def qj:XSp:=fun ds U Xk=>∃n:Nat,ds=[.v (.str (txt (dg n)))]/\Far n/\Xk U
theorem vB{ds:List D}{U:Mu}{Xk:Mu->Prop}(h:qj ds U Xk):ds.length=1:=by obtain⟨_,rfl,_⟩:=h;rfl
noncomputable def pG:XSp:=fun ds U Xk=>∃(pre post:List Nat) (n c:Nat),ds=[.v (.str (txt (pre++dg n++c::post))),.v (.int (pre.length:Nat)),.v (.str (txt [c]))]/\57<c/\Far n/\(pre++dg n++c::post).length<=9000/\Xk U
theorem we{ds:List D}{U:Mu}{Xk:Mu->Prop}(h:pG ds U Xk):ds.length=3:=by obtain⟨_,_,_,_,rfl,_⟩:=h;rfl
noncomputable def pN:XSp:=fun ds U Xk=>∃(pre post:List Nat) (u v dep:Nat),ds=[.v (.str (txt (pre++dg u++120::(dg v++91::post)))),.v (.int (pre.length:Nat)),.v (.int (dep:Nat))]/\u<10 ^ 40/\Far v/\(pre++dg u++120::(dg v++91::post)).length<=9000/\∀Z,(∀b ds,U b=some ds->Z b=some ds)->Xk Z
theorem vW{ds:List D}{U:Mu}{Xk:Mu->Prop}(h:pN ds U Xk):ds.length=3:=by obtain⟨_,_,_,_,_,rfl,_⟩:=h;rfl
noncomputable def pq:XSp:=fun ds U Xk=>∃(pre post:List Nat) (u v dep:Nat),ds=[.v (.str (txt (pre++dg u++120::(dg v++91::post)))),.v (.int (pre.length:Nat)),.v (.int (dep:Nat))]/\dep<=12/\u<10 ^ 40/\Far v/\(pre++dg u++120::(dg v++91::post)).length<=9000/\∀Z,(∀b ds,U b=some ds->Z b=some ds)->Xk Z
theorem vX{ds:List D}{U:Mu}{Xk:Mu->Prop}(h:pq ds U Xk):ds.length=3:=by obtain⟨_,_,_,_,_,rfl,_⟩:=h;rfl
noncomputable def qp:XSp:=fun ds U Xk=>∃(post:List Nat) (u v:Nat),ds=[.v (.str (txt (dg u++120::(dg v++91::post))))]/\u<10 ^ 40/\Far v/\(dg u++120::(dg v++91::post)).length<=9000/\∀Z,(∀b ds,U b=some ds->Z b=some ds)->Xk Z
theorem vv{ds:List D}{U:Mu}{Xk:Mu->Prop}(h:qp ds U Xk):ds.length=1:=by obtain⟨_,_,_,rfl,_⟩:=h;rfl
noncomputable def d6:DTX:=
 (pT j5 (ae (ah 0) (ae (dC (.int 3)) aj)))
noncomputable def dI:DTX:=
 (xIf (km (dB (dOp (bI false) (ah 0) (dC (.str "")))) (km (dB (dOp rGt (dCB uY (ae (ah 0) aj)) (dC (.int 40)))) (jP (dB (dCB uJ (ae (Ad [none] (CB (ah 0)) (ao 0) iL (dOp (A0 false) (ah 0) (dC (.str "0123456789")))) aj)))))) (fun _ U Xk=>Xk U) Ca)
noncomputable def cE:DTX:=
 (uB (bt (yH (ah 0) (ah 2) (ah 1)) (ao 3))
 (uB (bN (dB (dOp rLt (ah 3) (dC (.int 0)))) fh br)
 (pT qj (ae (vL (ah 0) (dO (ah 1)) (dO (ah 3))) aj))))
noncomputable def d7:DTX:=
 (uB (bt (aK kN (ae (ah 0) (ae (ah 1) (ae (dC (.str "x")) aj)))) (eD 2 (bc (ao 3) (bc (ao 1) fg))))
 (pT pG (ae (ah 0) (ae (ah 1) (ae (dC (.str "[")) aj)))))
noncomputable def dS:DTX:=
 (uB (bN (dB (dOp rGt (ah 2) (dC (.int 12)))) fh br)
 (uB (bt (vL (ah 0) (dO (ah 1)) (dO (dJ (ah 1) (dC (.int 1))))) (ao 3))
 (uB (bN (dB (dOp wF (ah 3) (dC (.tuple [.str "a",.str "b",.str "c"])))) (bG (bb (ae (bb (ae (dC (.str "kind")) (ae (HJ ["a","b","c"] (ah 3)) aj))) (ae (dJ (ah 1) (dC (.int 1))) aj)))) br)
 (uB (bN (dB (dOp (bI false) (ah 3) (dC (.str "~")))) (aM (bt (aK FX (ae (ah 0) (ae (dJ (ah 1) (dC (.int 1))) (ae (dJ (ah 2) (dC (.int 1))) aj)))) (eD 2 (bc (ao 4) (bc (ao 5) fg))))
 (bG (bb (ae (bb (ae (dC (.str "turn")) (ae (ah 4) aj))) (ae (ah 5) aj))))) br)
 (uB (bN (dB (dOp (bI false) (ah 3) (dC (.str "(")))) (bG (aK FX (ae (ah 0) (ae (dJ (ah 1) (dC (.int 1))) (ae (dJ (ah 2) (dC (.int 1))) aj))))) br)
 (pT pN (ae (ah 0) (ae (ah 1) (ae (dJ (ah 2) (dC (.int 1))) aj)))))))))
noncomputable def dZ:DTX:=
 (uB (bN (jP (dB (vi "str" (ah 0)))) fh br)
 (pT pq (ae (ah 0) (ae (dC (.int 0)) (ae (dC (.int 1)) aj)))))
section
variable {U:Mu}{Xk:Mu->Prop}{ds:List D}
theorem Ep:∀(l:List Nat) (k:Nat),NumText.AllDigits l->l.foldl (fun acc c=>acc*10+(c-48)) k<(k+1)*10 ^ l.length
 |[],k,_=>by simp
 |c::r,k,h=>by
  have h1:=h c mem_cons_self
  have ih:=Ep r (k*10+(c-48)) fun x hx=>h x (mem_cons_of_mem _ hx)
  rw[foldl_cons,length_cons,Nat.pow_succ]
  refine lt_of_lt_of_le ih ?_
  rw[Nat.mul_comm (10 ^ r.length) 10,<- Nat.mul_assoc]
  exact Nat.mul_le_mul_right _ ∅
theorem G4{n:Nat}(h:Far n):41<=(dg n).length:=by
 have:=Ep (dg n) 0 (qL n)
 have e:(dg n).foldl (fun acc c=>acc*10+(c-48)) 0=n:=Gn n
 rw[e,Nat.zero_add,Nat.one_mul] at this
 rcases lt_or_ge 40 (dg n).length with z|z
 ·exact z
 ·exfalso
  have h1:=h.1
  have:=lt_of_lt_of_le this (Nat.pow_le_pow_right ⋯ z)
  omega
theorem mZ(h:pY ds U Xk):d6 (aY [""] ds) U Xk:=by
 obtain⟨t,rfl,hs,ho,q⟩:=h
 unfold d6
 rw[lh]
 walk_at "rl"
 exact⟨t,3,rfl,hs,ho,q⟩
theorem mr(h:qj ds U Xk):dI (aY [""] ds) U Xk:=by
 obtain⟨n,rfl,hf,q⟩:=h
 have l1:=G4 hf
 have l2:=qY (n:=n) (k:=59) hf.2
 unfold dI
 rw[IJ]
 walk_at "rl"
 rw[LC,d4 (qT n) (cQ rfl),decide_eq_false (Dr n)]
 walk_at "rl"
 refine⟨bD ∅,?_⟩
 rw[bf,n9 (decide_eq_true ∅)]
 exact q
theorem jM(h:pG ds U Xk):cE (aY ["","","","",""] ds) U Xk:=by
 obtain⟨pre,post,n,c,rfl,hc,hf,hl,q⟩:=h
 have es:Txt.slice (txt (pre++dg n++c::post)) (some (pre.length:Nat)) (some ((pre.length+(dg n).length:Nat):Int))=txt (dg n):=by
  rw[B7 (by simp;omega),Int.toNat_natCast,append_assoc,List.drop_left' rfl,show (((pre.length+(dg n).length:Nat):Int)-(pre.length:Nat)).toNat=(dg n).length by omega,List.take_left' rfl]
 unfold cE
 rw[lr]
 walk_at "rl"
 rw[Cw hc,lr]
 walk_at "rl"
 rw[j7 (by rw[decide_eq_true_eq];omega)]
 walk_at "rl"
 rw[lh]
 walk_at "rl"
 refine⟨bD ∅,?_⟩
 rw[es]
 exact⟨n,rfl,hf,q⟩
theorem nA(h:pN ds U Xk):d7 (aY ["","","","","",""] ds) U Xk:=by
 obtain⟨pre,post,u,v,dep,rfl,hu,hv,hl,q⟩:=h
 unfold d7
 rw[lr]
 walk_at "rl"
 refine⟨pre,dg v++91::post,u,120,by rw[lit "x"];rfl,⋯,hu,hl,fun ad k1=>?_⟩
 walk_at "rl"
 have e2:pre++dg u++120::(dg v++91::post)=(pre++dg u++[120])++dg v++91::post:=by simp
 have n2:pre.length+(dg u).length+1=(pre++dg u++[120]).length:=by simp;omega
 refine⟨trivial,?_⟩
 rw[lh]
 walk_at "rl"
 exact⟨pre++dg u++[120],post,v,91,by rw[lit "[",e2,n2];rfl,⋯,hv,by rw[<- e2];exact hl,q ad k1⟩
theorem mV(h:pq ds U Xk):dS (aY ["","","","","",""] ds) U Xk:=by
 obtain⟨pre,post,u,v,dep,rfl,hd,hu,hv,hl,q⟩:=h
 obtain⟨c0,r0,e0,c1,c2⟩:=Di u
 have h0:(pre++dg u++120::(dg v++91::post))[pre.length]? = some c0:=by rw[e0];simp
 have ac:∀{c:Nat},c<128->Asc [c]:=fun h x hx=>by rw[List.mem_singleton.mp hx];exact h
 unfold dS
 rw[lr]
 walk_at "rl"
 rw[j7 (by rw[decide_eq_true_eq];omega)]
 walk_at "rl"
 rw[lr]
 walk_at "rl"
 refine⟨bD ∅,?_⟩
 rw[kY h0,lr]
 walk_at "rl"
 rw[w6 ∅,decide_eq_false ∅]
 walk_at "rl"
 rw[lr]
 walk_at "rl"
 rw[Fw,d4 (ac ∅) (cQ rfl),decide_eq_false (by intro z;have:=(List.cons.inj z).1;omega)]
 walk_at "rl"
 rw[lr]
 walk_at "rl"
 rw[HV,d4 (ac ∅) (cQ rfl),decide_eq_false (by intro z;have:=(List.cons.inj z).1;omega)]
 walk_at "rl"
 rw[lh]
 walk_at "rl"
 have n2:((dep:Nat):Int)+1=((dep+1:Nat):Int):=by omega
 exact⟨pre,post,u,v,dep+1,by rw[n2],hu,hv,hl,q⟩
theorem mY(h:qp ds U Xk):dZ (aY ["","",""] ds) U Xk:=by
 obtain⟨post,u,v,rfl,hu,hv,hl,q⟩:=h
 unfold dZ
 rw[lr]
 walk_at "rl"
 rw[lh]
 walk_at "rl"
 exact⟨[],post,u,v,1,rfl,⋯,hu,hv,hl,q⟩
end
noncomputable def gL(ea:Addr):DTS:=
 (aM (bt (gC (ae (bb (ae (dC (.str "NoRoot")) (ae (fo ea false (ah 1)) aj))) (ae (bb (ae (dC (.str "NoNumber")) (ae (fo ea false (ah 1)) aj))) (ae (bb (ae (dC (.str "NoLaying")) (ae (fo ea false (ah 1)) aj))) (ae (bb (ae (dC (.str "NoTile")) (ae (fo ea false (ah 1)) aj))) (ae (bb (ae (dC (.str "NoFit")) (ae (fo ea false (ah 1)) aj))) (ae (bb (ae (dC (.str "NoKinds")) (ae (fo ea false (ah 1)) aj))) (ae (bb (ae (dC (.str "NoPlan")) (ae (fo ea false (ah 1)) aj))) (ae (bb (ae (dC (.str "NoSpot")) (ae (fo ea false (ah 1)) aj))) (ae (bb (ae (dC (.str "NoNet")) (ae (fo ea false (ah 1)) aj))) (ae (bb (ae (dC (.str "NoText")) (ae (fo ea true (ah 1)) aj))) (ae (bb (ae (dC (.str "NoSaying")) (ae (fo ea false (ah 1)) aj))) (ae (bb (ae (dC (.str "NoName")) (ae (fo ea false (ah 1)) aj))) (ae (bb (ae (dC (.str "TooMany")) (ae (fo ea false (ah 1)) aj))) aj)))))))))))))) (ao 2))
 (aM (bt (dq [none,none] (iV (ah 2)) (eD 2 (bc (ao 0) (bc (ao 1) fg))) (dB (ah 1)) (ah 0)) (ao 3))
 (aM (bN (kb (dB (dOp (bI false) (dCB cC (ae (ah 3) aj)) (dC (.int 1)))) (dB (fo ea true (ah 1)))) (bG (dOp bg (ah 3) (dC (.int 0)))) br)
 (bG (dC (.str "several"))))))
section
variable {U:Mu}{Qd:DK}{ds:List D}
theorem ly{U:Mu}{Qd:DK}{ea fa:Addr}(q:Qd (.v (.str "NoText")) U):gL ea {nx:=fun _ _=>False,rt:=Qd} [some (.o fa),some (.o ea),none,none] U:=by
 unfold gL
 simp only[↓nX,↓Dk,↓wK,↓wB,↓kh,↓nY,↓q_c,↓yd,↓wy,↓wJ,↓iz,map_some,set_cons_zero,set_cons_succ]
 refine AI (ns:=[("NoRoot",false),("NoNumber",false),("NoLaying",false),("NoTile",false),("NoFit",false),("NoKinds",false),("NoPlan",false),("NoSpot",false),("NoNet",false),("NoText",true),("NoSaying",false),("NoName",false),("TooMany",false)]) rfl ⋯ ?_
 simp only[↓iz,↓nX,set_cons_zero,set_cons_succ,map_cons,map_nil,filterMap_cons,List.filterMap_nil,D8,false_eq_true,↓reduceIte]
 simp only[↓CA,↓yx,↓q_B,↓Hx,↓GL,↓kh,↓nY,↓qI,↓rJ,↓q_c,↓xb,↓yd,↓w8,↓rA,getElem?_cons_zero,List.getElem?_cons_succ,length_cons,length_nil]
 exact q
theorem IsP.up{m m':Int}(hm:m<=m'){d c:Nat}{t:PyData}(h:IsP m d c t):IsP m' d c t:=by
 induction h with
 |kind i h0 h1=>exact .kind i h0 ∅
 |turn _ ih=>exact .turn ih
 |grid u v h1 h2 h3 h4 _ ih=>exact .grid u v h1 h2 h3 h4 ih
 |upon es h1 h2 h3 _ ih=>exact .upon es h1 h2 h3 ih
 |beside es h1 h2 h3 _ ih=>exact .beside es h1 h2 h3 ih
structure PT(t:PyData)(l:List Nat):Prop where
 sh:Sh t
 ok:okN (cnt 3 12 t)=true
 px:∃d,PX (10 ^ 40) d t l/\d<=12
 len:l.length<=1200
theorem MJ{m:Int}(hm:m<=3){d c:Nat}{t:PyData}(h:IsP m d c t)(hd:d<=12)(hc:c<=60):∃l,PT t l:=by
 obtain⟨l,px,hl⟩:=L1 hm h
 refine⟨l,h.lt.sh ∅,?_,⟨d,px,hd⟩,∅⟩
 rw[(h.up hm).cnt 12 hd]
 have:=h.pos.2
 unfold okN
 rw[decide_eq_true ∅,decide_eq_true ∅]
 rfl
def wid(v:Int):PyData:=.tuple [.str "grid",.int 2,.int v,.tuple [.str "kind",.int 1]]
theorem zb{v:Int}(hv:1<=v):okN (cnt 3 12 (wid v))=true:=by
 have hf:iC 3 (wid v)=some [.tuple [.str "kind",.int 1]]:=by
  show mi (.str "grid") (.int 2) (.int v) _=_
  unfold mi
  rw[if_pos Ez,if_pos]
  show ((true&&true)&&(true&&decide (1<=v)))=true
  rw[decide_eq_true hv];rfl
 have:=mI (n:=11) (es:=[(1,1,.tuple [.str "kind",.int 1])]) hf fun e he=>by rw[List.mem_singleton.mp he];exact⟨(IsP.kind (m:=3) 1 ⋯ ⋯).cnt 11 ⋯,⋯⟩
 rw[this]
 rfl
theorem qD{v:Int}:Sh (wid v):=(dr (n:=1) (Ef vS lt_int lt_int (dr (n:=0) (all2 xQ lt_int)))).sh ⋯
def xo(n:Nat):List Nat:=dg 2++120::(dg n++91::[98,93])
theorem xD{B:Int}{n:Nat}(h1:1<=n)(hB:(n:Int)<B)(h2:2<B):PX B 2 (wid n) (xo n):=by
 have:=PX.grid (B:=B) 2 (n:Int) ⋯ ∅ h2 hB (.kind 1 ⋯)
 exact this
end
noncomputable def uq:DTS:=
 (aM (bt (aK sY (ae (ah 3) (ae (dOp je (dC (.int 1)) (aK cF (ae (ah 3) (ae (dC (.int 3)) aj)))) aj))) (ao 5))
 (aM (bt (aK nO (ae (ah 5) aj)) (ao 6))
 (aM (bN (km (jP (dB (vi "str" (ah 6)))) (dB (dOp (bI true) (ah 6) (aK (cS 13) (ae (ah 5) (ae (dC (.str "abc")) aj)))))) (bG (dC (.bool false))) br)
 (aM (bt (aK j8 (ae (ah 6) aj)) (ao 7))
 (aM (bN (km (jP (dB (aK kG (ae (ah 7) (ae (dC (.int 3)) aj))))) (dB (dOp (bI true) (ah 7) (ah 5)))) (bG (dC (.bool false))) br)
 (aM (mK (BD (ah 1) (bb (ae (ah 5) (ae (ah 6) aj)))))
 (aM (bt (aK sX (ae (ah 3) (ae (ah 5) (ae (dC (.int 3)) aj)))) (ao 8))
 (bN (dB (dOp (bI true) (sP [some 8] (pT pY (ae (ah 0) aj)) "NoPlan") (dC (.str "NoPlan")))) (bG (dC (.bool false))) br))))))))
noncomputable def vd:DTS:=
 (aM (bt (bb (ae (dC (.str "grid")) (ae (dC (.int 2)) (ae (ah 9) (ae (bb (ae (dC (.str "kind")) (ae (dC (.int 1)) aj))) aj))))) (ao 5))
 (aM (bt (aK nO (ae (ah 5) aj)) (ao 6))
 (aM (bN (dB (dOp (bI true) (ah 6) (dOp fm (dOp fm (dC (.str "2x")) (dCB rR (ae (ah 9) aj))) (dC (.str "[b]"))))) (bG (dC (.bool false))) br)
 (aM (bt (Li (sP [some 6] (pT qp (ae (ah 0) aj)) "NoText") (Fi [some 6] (aK j8 (ae (ah 0) aj)))) (ao 10))
 (bN (km (dB (dOp (bI true) (ah 10) (dOp bg (gC (ae (dC .none) (ae (dC (.str "NoText")) aj))) (dCB tH (ae (dOp rGe (ah 9) (vj (dC (.int 10)) (dC (.int 40)))) aj))))) (kb (dB (dOp AL (ah 10) (dC .none))) (dB (dOp (bI true) (aK j8 (ae (ah 6) aj)) (ah 5))))) (bG (dC (.bool false))) br)))))
noncomputable def BE:DTS:=
 (aM (bt (tG aj) (ao 1))
 (aM (Bb (mE (ae (dCB (zV max) (ae (dC (.int 2)) (ae (dCB (zV min) (ae (dC (.int 6)) (ae (dCB cC (ae (ah 0) aj)) aj))) aj))) aj)) (ao 2) (aM (bt (aK CM (ae (ah 0) (ae (ah 2) aj))) (ao 3))
 (Bb (mE (ae (dC (.int 3)) aj)) (ao 4) (uq))))
 (aM (Bb (iV (gC (ae (vj (dC (.int 10)) (dC (.int 39))) (ae (JH (vj (dC (.int 10)) (dC (.int 40))) (dC (.int 1))) (ae (vj (dC (.int 10)) (dC (.int 40))) (ae (dOp je (vj (dC (.int 10)) (dC (.int 58))) (dC (.int 7))) aj)))))) (ao 9) (vd))
 (aM (Fs (ah 1) (eD 2 (bc (ao 5) (bc (ao 6) fg))) (bN (km (dB (dOp (bI true) (aK nO (ae (ah 5) aj)) (ah 6))) (dB (dOp (bI true) (aK j8 (ae (ah 6) aj)) (ah 5)))) (bG (dC (.bool false))) br))
 (bG (dOp (bI false) (aK j8 (ae (dC (.str "3x2[~a]")) aj)) (bb (ae (dC (.str "grid")) (ae (dC (.int 3)) (ae (dC (.int 2)) (ae (bb (ae (dC (.str "turn")) (ae (bb (ae (dC (.str "kind")) (ae (dC (.int 0)) aj))) aj))) aj)))))))))))
section
variable {U:Mu}{Qd:DK}{ds:List D}
theorem pF{x:PyData}(h:SeqAt.shaped x=true):x.eqv x=true:=SeqAt.eqv_refl _ (SeqAt.canLay_of_shaped h)
theorem tE{n:Nat}(h:n<10 ^ 60):(xo n).length<=9000:=by
 have:=qY (n:=n) (k:=59) h
 have:(dg 2).length=1:=nofun
 unfold xo
 simp only[length_append,length_cons,length_nil]
 omega
theorem EZ{n:Nat}(h:1<=n):("2x":Str)++Str.ofString (toString ((n:Nat):Int))++("[b]":Str)=txt (xo n):=by
 rw[sS,lit "2x",lit "[b]",bL,bL]
 have e2:dg 2=[50]:=nofun
 unfold xo
 rw[e2]
 simp
theorem Ng{Dd:kc}{r0 r1 r2 r3 r4 r5 r6 r7 r8 r10:Option D}{n:Nat}(h1:10 ^ 39<=n)(h2:n<10 ^ 60)(h3:n.log2<1920)
  (q:∀r5 r6 r10 Z,(∀b ds,U b=some ds->Z b=some ds)->Dd.nx [r0,r1,r2,r3,r4,r5,r6,r7,r8,some (.v (.int (n:Nat))),r10] Z) :
  vd Dd [r0,r1,r2,r3,r4,r5,r6,r7,r8,some (.v (.int (n:Nat))),r10] U:=by
 have p1:1<=n:=by omega
 have asc:Asc (xo n):=(xD (B:=10 ^ 60) p1 (by exact_mod_cast h2) ⋯).asc
 unfold vd
 walk_at "rl"
 refine⟨wid n,xo n,2,rfl,qD,zb ∅,xD p1 (by exact_mod_cast h2) ⋯,⋯,tE h2,fun ad k1=>?_⟩
 walk_at "rl"
 refine⟨h3,?_⟩
 rw[EZ p1,d4 asc asc,decide_eq_true rfl]
 walk_at "rl"
 have l0:=qY (n:=n) (k:=59) h2
 have lA:(Str.ofString (toString ((n:Nat):Int))).length<=60:=by rw[sS,bf];exact l0
 have lB:("2x":Str).length=2:=nofun
 have lC:("[b]":Str).length=3:=nofun
 have lD:(("2x":Str)++Str.ofString (toString ((n:Nat):Int))).length<=62:=by
  rw[sS,lit "2x",bL,bf,length_append]
  have:("2x".toList.map Char.toNat).length=2:=nofun
  omega
 refine⟨∅,∅,?_⟩
 rw[L9]
 by_cases c:n<10 ^ 40
 ·refine .inr ?_
  rw[Lp]
  walk_at "rl"
  refine⟨wid n,xo n,2,rfl,qD,zb ∅,xD p1 (by exact_mod_cast c) ⋯,⋯,tE h2,fun al k2=>?_⟩
  walk_at "rl"
  refine⟨by unfold xX;decide +kernel,?_⟩
  have hlt:¬ (decide (10 ^ Int.toNat 40<=((n:Nat):Int))=true):=by
   rw[decide_eq_true_eq]
   have hc:((n:Nat):Int)<10 ^ 40:=by exact_mod_cast c
   exact Int.not_le.mpr hc
  rw[if_neg hlt]
  walk_at "rl"
  rw[nV]
  refine⟨rfl,rfl,?_⟩
  rw[show PyData.eqv .none .none=true from rfl]
  walk_at "rl"
  rw[JP]
  walk_at "rl"
  refine⟨wid n,xo n,2,rfl,qD,zb ∅,xD p1 (by exact_mod_cast c) ⋯,⋯,tE h2,fun bd k3=>?_⟩
  walk_at "rl"
  rw[nV]
  refine⟨qD.shaped,qD.shaped,?_⟩
  rw[show PyData.eqv (wid n) (.tuple [.str "grid",.int 2,.int n,.tuple [.str "kind",.int 1]])=true from pF qD.shaped]
  walk_at "rl"
  exact q _ _ _ _ fun b ds e=>k3 b ds (k2 b ds (k1 b ds e))
 ·refine .inl ?_
  rw[zU,lh]
  walk_at "rl"
  refine⟨[98,93],2,n,rfl,⋯,⟨∅,h2⟩,tE h2,fun al k2=>?_⟩
  walk_at "rl"
  refine⟨by unfold xX;decide +kernel,?_⟩
  rw[if_pos (by rw[decide_eq_true_eq];show (10:Int) ^ 40<=n;exact_mod_cast (Nat.le_of_not_lt c))]
  walk_at "rl"
  rw[nV]
  refine⟨nofun,nofun,?_⟩
  rw[show PyData.eqv (.str "NoText") (.str "NoText")=true by decide +kernel]
  walk_at "rl"
  rw[K6]
  walk_at "rl"
  exact q _ _ _ _ fun b ds e=>k2 b ds (k1 b ds e)
end
section
variable {U:Mu}{Qd:DK}{ds:List D}
def vk(e:PyData×List Nat):PyData:=.tuple [e.1,.str (txt e.2)]
theorem PT.show{t:PyData}{l:List Nat}(h:PT t l):∃d,PX (10 ^ 60) d t l/\d<=13:=by
 obtain⟨d,px,hd⟩:=h.px
 exact⟨d,px.mono ⋯,∅⟩
theorem PT.asc{t:PyData}{l:List Nat}(h:PT t l):Asc l:=by
 obtain⟨d,px,hd⟩:=h.px
 exact px.asc
theorem M5{Dd:kc}{r0 r2 r4 r5 r6 r7 r8 r9 r10:Option D}{p a:Addr}{es:List (PyData×List Nat)}(hp:U p=some (es.map vk))(hl:es.length<=100)(pa:p≠a)(hb:Bag U a)
  (q:∀r4 r5 r6 r7 r8 t l Z,PT t l->Z p=some ((es++[(t,l)]).map vk)->Bag Z a->Dd.nx [r0,some (.m p),r2,some (.m a),r4,r5,r6,r7,r8,r9,r10] Z) :
  uq Dd [r0,some (.m p),r2,some (.m a),r4,r5,r6,r7,r8,r9,r10] U:=by
 unfold uq
 walk_at "rl"
 refine⟨a,3,rfl,⋯,⋯,hb,fun r ad hr0 hr1 s1=>?_⟩
 walk_at "rl"
 refine⟨a,1+r,rfl,∅,∅,s1.1,fun d c t al hP hd hc s2=>?_⟩
 obtain⟨l,ht⟩:=MJ ∅ hP hd hc
 obtain⟨e1,px1,hd1⟩:=ht.show
 have l9:l.length<=9000:=le_trans ht.len ⋯
 have hp2:al p=some (es.map vk):=s2.2 p pa _ (by rw[s1.2 p pa];exact hp)
 walk_at "rl"
 refine⟨t,l,e1,rfl,ht.sh,ht.ok,px1,hd1,l9,fun bd k3=>?_⟩
 have eS:∀z:Str,isT "str" (.str z)=true:=fun _=>rfl
 walk_at "rl"
 refine⟨e1,t,l,rfl,hd1,px1,l9,⋯,fun bn k4=>?_⟩
 walk_at "rl"
 rw[d4 ht.asc ht.asc,decide_eq_true rfl]
 walk_at "rl"
 obtain⟨e2,px2,hd2⟩:=ht.px
 refine⟨t,l,e2,rfl,ht.sh,ht.ok,px2,hd2,l9,fun wf k5=>?_⟩
 walk_at "rl"
 refine⟨t,3,rfl,ht.sh,fun mt k6=>?_⟩
 rw[ht.ok]
 walk_at "rl"
 rw[nV]
 refine⟨ht.sh.shaped,ht.sh.shaped,?_⟩
 rw[pF ht.sh.shaped]
 walk_at "rl"
 have hp6:mt p=some (es.map vk):=k6 _ _ (k5 _ _ (k4 _ _ (k3 _ _ hp2)))
 have hb6:Bag mt a:=by
  obtain⟨g,m,e,z⟩:=s2.1
  exact⟨g,m,k6 _ _ (k5 _ _ (k4 _ _ (k3 _ _ e))),z⟩
 simp only[hp6]
 refine⟨by rw[length_map];omega,a,t,3,d,c,rfl,⋯,?_,hP.up ∅,hd,fun x lf sx nx s7=>?_⟩
 ·obtain⟨g,m,e,z⟩:=hb6
  exact⟨g,m,by rw[ba (fun z=>pa z.symm)];exact e,z⟩
 have hp7:lf p=some ((es++[(t,l)]).map vk):=s7.2 p pa _ (by rw[aT,map_append];rfl)
 walk_at "rl"
 rw[zU,lh]
 walk_at "rl"
 refine⟨x,rfl,sx,nx,fun io k8=>?_⟩
 walk_at "rl"
 rw[nV]
 refine⟨nofun,nofun,?_⟩
 rw[show PyData.eqv (.str "NoPlan") (.str "NoPlan")=true by decide +kernel]
 walk_at "rl"
 refine q _ _ _ _ _ t l io ht (k8 _ _ hp7) ?_
 obtain⟨g,m,e,z⟩:=s7.1
 exact⟨g,m,k8 _ _ e,z⟩
theorem Gp{i:Nat}{x:PyData}(h:[PyData.int (10 ^ Int.toNat 39),PyData.int (10 ^ Int.toNat 40-1),PyData.int (10 ^ Int.toNat 40),PyData.int (10 ^ Int.toNat 58+7)][i]? = some x):∃n:Nat,x = .int (n:Nat)/\10 ^ 39<=n/\n<10 ^ 60/\n.log2<1920:=by
 have:=mem_of_getElem? h
 simp only[mem_cons,not_mem_nil,or_false] at this
 rcases this with rfl|rfl|rfl|rfl
 ·exact⟨10 ^ 39,congrArg PyData.int nofun,nofun,nofun,nofun⟩
 ·exact⟨10 ^ 40-1,congrArg PyData.int nofun,nofun,nofun,nofun⟩
 ·exact⟨10 ^ 40,congrArg PyData.int nofun,nofun,nofun,nofun⟩
 ·exact⟨10 ^ 58+7,congrArg PyData.int nofun,nofun,nofun,nofun⟩
def C9:PyData:=.tuple [.str "grid",.int 3,.int 2,.tuple [.str "turn",.tuple [.str "kind",.int 0]]]
theorem uh:IsP 3 3 3 C9:=.grid 3 2 ⋯ ⋯ ⋯ ⋯ (.turn (.kind 0 ⋯ ⋯))
theorem JF:PX (10 ^ 40) 3 C9 ("3x2[~a]".toList.map Char.toNat):=by
 have:=PX.grid (B:=10 ^ 40) 3 2 ⋯ ⋯ ⋯ ⋯ (.turn (.kind 0 ⋯))
 exact this
theorem Jf(h:uS ds U Qd):BE ‹Qd› (aY ["","","","","","","","","","",""] ds) U:=by
 obtain⟨ns,rfl,h63,q⟩:=h
 unfold BE
 walk_at "rl"
 intro p hp
 rw[Aw]
 walk_at "rl"
 have hm:(-(2 ^ 62)<=max 2 (min 6 ((ns.length:Nat):Int))/\max 2 (min 6 ((ns.length:Nat):Int))<2 ^ 62):=by omega
 refine⟨hm,fun i ρ Z=>∃(r2 r3 r4 r5 r6 r7 r8 r9 r10:Option D) (xs:List (PyData×List Nat)),ρ=[some (.s ns),some (.m p),r2,r3,r4,r5,r6,r7,r8,r9,r10]/\Z p=some (xs.map vk)/\xs.length=3*i/\∀x∈xs,PT x.1 x.2,⟨_,_,_,_,_,_,_,_,_,[],rfl,aT,rfl,fun _ z=>nomatch z⟩,?_,?_⟩
 ·rintro i x ρ ad hx ⟨r2,r3,r4,r5,r6,r7,r8,r9,r10,xs,rfl,hp1,hl,hok⟩
  obtain⟨rfl,hi⟩:=EN hx
  have i6:i<6:=by omega
  walk_at "rl"
  refine⟨ns,_,rfl,∅,∅,fun a al ha s2=>?_⟩
  have pa:p≠a:=fun z=>by rw[z,ha] at hp1;cases hp1
  walk_at "rl"
  rw[Aw]
  walk_at "rl"
  refine⟨⋯,fun j ρ Z=>∃(r4 r5 r6 r7 r8 r9 r10:Option D) (ys:List (PyData×List Nat)),ρ=[some (.s ns),some (.m p),some (.v (.int (0+(i:Int)))),some (.m a),r4,r5,r6,r7,r8,r9,r10]/\Z p=some (ys.map vk)/\ys.length=3*i+j/\(∀x∈ys,PT x.1 x.2)/\Bag Z a,⟨_,_,_,_,_,_,_,xs,rfl,by rw[s2.2 p pa];exact hp1,hl,hok,s2.1⟩,?_,?_⟩
  ·rintro j y ρ bd hy ⟨r4,r5,r6,r7,r8,r9,r10,ys,rfl,hp3,hl3,hok3,hb3⟩
   obtain⟨rfl,hj⟩:=EN hy
   walk_at "rl"
   refine M5 hp3 ∅ pa hb3 fun r4 r5 r6 r7 r8 t l bn ht hp4 hb4=>?_
   refine⟨_,_,_,_,_,_,_,ys++[(t,l)],rfl,hp4,by rw[length_append,hl3];rfl,fun z hz=>?_,hb4⟩
   rcases List.mem_append.mp hz with w|w
   ·exact hok3 z w
   ·rw[List.mem_singleton.mp w];exact ht
  ·rintro ρ bd ⟨r4,r5,r6,r7,r8,r9,r10,ys,rfl,hp3,hl3,hok3,hb3⟩
   exact⟨_,_,_,_,_,_,_,_,_,ys,rfl,hp3,by rw[hl3,uI];show 3*i+3=3*(i+1);omega,hok3⟩
 ·rintro ρ ad ⟨r2,r3,r4,r5,r6,r7,r8,r9,r10,xs,rfl,hp1,hl,hok⟩
  rw[Aw]
  walk_at "rl"
  refine⟨by unfold xX;decide +kernel,by unfold xX;decide +kernel,by unfold xX;decide +kernel,by unfold xX;decide +kernel,fun i ρ Z=>∃(r5 r6 r9 r10:Option D),ρ=[some (.s ns),some (.m p),r2,r3,r4,r5,r6,r7,r8,r9,r10]/\Z p=some (xs.map vk),⟨_,_,_,_,rfl,hp1⟩,?_,?_⟩
  ·rintro i x ρ al hx ⟨r5,r6,r9,r10,rfl,hp2⟩
   obtain⟨n,rfl,n1,n2,n3⟩:=Gp hx
   exact Ng n1 n2 n3 fun r5 r6 r10 bd k3=>⟨_,_,_,_,rfl,k3 _ _ hp2⟩
  ·rintro ρ al ⟨r5,r6,r9,r10,rfl,hp2⟩
   rw[Km]
   walk_at "rl"
   refine⟨_,hp2,fun i ρ Z=>∃(r5 r6:Option D),ρ=[some (.s ns),some (.m p),r2,r3,r4,r5,r6,r7,r8,r9,r10]/\Z p=some (xs.map vk),⟨_,_,rfl,hp2⟩,fun i ρ Z ⟨_,_,_,e⟩=>e,?_,?_⟩
   ·rintro i y ρ bd hy ⟨r5,r6,rfl,hp3⟩
    obtain⟨x,hx,rfl⟩:∃x∈xs,vk x=y:=List.mem_map.mp (mem_of_getElem? hy)
    have ht:=hok x hx
    obtain⟨e1,px1,hd1⟩:=ht.show
    obtain⟨e2,px2,hd2⟩:=ht.px
    have l9:x.2.length<=9000:=le_trans ht.len ⋯
    unfold vk
    walk_at "rl"
    refine⟨trivial,x.1,x.2,e1,rfl,ht.sh,ht.ok,px1,hd1,l9,fun bn k4=>?_⟩
    walk_at "rl"
    rw[d4 ht.asc ht.asc,decide_eq_true rfl]
    walk_at "rl"
    refine⟨x.1,x.2,e2,rfl,ht.sh,ht.ok,px2,hd2,l9,fun wf k5=>?_⟩
    walk_at "rl"
    rw[nV]
    refine⟨ht.sh.shaped,ht.sh.shaped,?_⟩
    rw[pF ht.sh.shaped]
    walk_at "rl"
    exact⟨_,_,rfl,k5 _ _ (k4 _ _ hp3)⟩
   ·rintro ρ bd ⟨r5,r6,rfl,hp3⟩
    refine⟨C9,_,3,by rw[<- lit "3x2[~a]"],uh.lt.sh ⋯,?_,JF,⋯,nofun,fun bn k4=>?_⟩
    ·rw[uh.cnt 12 ⋯];rfl
    walk_at "rl"
    rw[nV]
    refine⟨(uh.lt.sh ⋯).shaped,(uh.lt.sh ⋯).shaped,?_⟩
    rw[show C9.eqv (.tuple [.str "grid",.int 3,.int 2,.tuple [.str "turn",.tuple [.str "kind",.int 0]]])=true from pF (uh.lt.sh ⋯).shaped]
    exact q bn
end
end L2.DL
namespace K49
open PySem L2 L2.DL
local macro_rules|`(tactic| walk_at "cl")=>`(tactic| (intro _ _ h;first|exact h|exact cl1 h|exact cl2 nofun h|exact cl3 nofun h|exact pB (gP rfl zp) _ _ h|exact pB (gP rfl (gP rfl zp)) _ _ h|exact pB (gP rfl (gP rfl (gP rfl zp))) _ _ h|exact pB (gP rfl (gP rfl (gP rfl (gP rfl zp)))) _ _ h|exact pB (gP rfl (gP rfl (gP rfl (gP rfl (gP rfl zp))))) _ _ h|exact pB (gP rfl (gP rfl (gP rfl (gP rfl (gP rfl (gP rfl zp)))))) _ _ h|exact pB (gP rfl (gP rfl (gP rfl (gP rfl (gP rfl (gP rfl (gP rfl zp))))))) _ _ h|exact pB zp _ _ h|cases h))
set_option genInjectivity false in
structure Adr where
 kW:Addr
 oP:FuncData
 nL:Addr
 q9:FuncData
 l4:Addr
 oy:FuncData
 lO:Addr
 ox:FuncData
 lJ:Addr
 oB:FuncData
 dX:Addr
 gE:FuncData
 jk:Addr
 lH:FuncData
 gp:Addr
 jj:FuncData
 iB:Addr
 ka:FuncData
 df:Addr
 dW:FuncData
 iE:Addr
 j0:FuncData
 bQ:Addr
 bY:FuncData
 eO:Addr
 gD:FuncData
 fM:Addr
 iD:FuncData
 cR:Addr
 eJ:FuncData
 ji:Addr
 lW:FuncData
 lX:Addr
 oA:FuncData
 jT:Addr
 mU:FuncData
 fD:Addr
 iW:FuncData
 lI:Addr
 oq:FuncData
 cY:Addr
 eG:FuncData
 eT:Addr
 ib:FuncData
 j6:Addr
 mX:FuncData
 bP:Addr
 cf:FuncData
 eU:Addr
 ij:FuncData
 gG:Addr
 jq:FuncData
 bK:Addr
 bV:FuncData
 eQ:Addr
 ir:FuncData
 bJ:Addr
 bW:FuncData
 C2:Addr
 CT:FuncData
 wa:Tok
 tJ:Tok
 vP:Tok
 uN:Tok
 vt:Tok
 sF:Tok
 BI:Tok
 Bg:Addr
 cj:Addr
 fH:Addr
 cZ:Addr
 da:Addr
 fQ:Addr
 iF:Addr
 dY:Addr
 aB:Addr
 fJ:Addr
 iJ:Addr
 ay:Addr
 dh:Addr
 fY:Addr
 eh:Addr
 qU:Addr
 AX:Addr
structure Txt(K:PySem.W.Frag)(mg:Str->Option Value)(t:Adr):Prop where
 BA:Fun K "is_whole" "is_whole" ig t.kW t.oP
 vf:mg "is_whole"=some (.ref t.kW)
 uu:keepIn K (.ref t.kW)=true
 uf:Binds K t.oP ["thing"] []
 Eg:Fun K "is_plan" "is_plan" jn t.nL t.q9
 rF:mg "is_plan"=some (.ref t.nL)
 qE:keepIn K (.ref t.nL)=true
 qN:Binds K t.q9 ["thing","many"] []
 A7:Fun K "has_form" "has_form" gS t.l4 t.oy
 A2:mg "has_form"=some (.ref t.l4)
 BN:keepIn K (.ref t.l4)=true
 A3:Binds K t.oy ["thing","many"] []
 BK:Fun K "is_count" "is_count" ip t.lO t.ox
 tR:mg "is_count"=some (.ref t.lO)
 tI:keepIn K (.ref t.lO)=true
 ur:Binds K t.ox ["thing"] []
 Cd:Fun K "parts_of" "parts_of" hJ t.lJ t.oB
 BX:mg "parts_of"=some (.ref t.lJ)
 Be:keepIn K (.ref t.lJ)=true
 BO:Binds K t.oB ["plan"] []
 mL:Fun K "must_be_plan" "must_be_plan" cW t.dX t.gE
 mD:mg "must_be_plan"=some (.ref t.dX)
 mP:keepIn K (.ref t.dX)=true
 nC:Binds K t.gE ["thing","many"] []
 yA:Fun K "show_whole" "show_whole" eN t.jk t.lH
 lL:mg "show_whole"=some (.ref t.jk)
 lM:keepIn K (.ref t.jk)=true
 lN:Binds K t.lH ["k"] []
 pZ:Fun K "read_whole" "read_whole" eV t.gp t.jj
 pX:mg "read_whole"=some (.ref t.gp)
 ph:keepIn K (.ref t.gp)=true
 pU:Binds K t.jj ["text"] []
 rY:Fun K "show_plan" "show_plan" fK t.iB t.ka
 jQ:mg "show_plan"=some (.ref t.iB)
 jV:keepIn K (.ref t.iB)=true
 jY:Binds K t.ka ["plan"] []
 Ak:Fun K "plan_text" "plan_text" fR t.df t.dW
 jS:mg "plan_text"=some (.ref t.df)
 jX:keepIn K (.ref t.df)=true
 jR:Binds K t.dW ["plan"] []
 rT:Fun K "read_plan" "read_plan" fX t.iE t.j0
 fN:mg "read_plan"=some (.ref t.iE)
 gb:keepIn K (.ref t.iE)=true
 fO:Binds K t.j0 ["text"] []
 rX:Fun K "plan_from" "plan_from" fT t.bQ t.bY
 ey:mg "plan_from"=some (.ref t.bQ)
 d9:keepIn K (.ref t.bQ)=true
 dU:Binds K t.bY ["text","at","depth"] []
 yf:Fun K "parts_from" "parts_from" eP t.eO t.gD
 oZ:mg "parts_from"=some (.ref t.eO)
 o9:keepIn K (.ref t.eO)=true
 p6:Binds K t.gD ["text","at","depth"] []
 rV:Fun K "grid_from" "grid_from" fV t.fM t.iD
 rN:mg "grid_from"=some (.ref t.fM)
 se:keepIn K (.ref t.fM)=true
 rQ:Binds K t.iD ["text","at","depth"] []
 kC:Fun K "whole_ahead_of" "whole_ahead_of" cw t.cR t.eJ
 eR:mg "whole_ahead_of"=some (.ref t.cR)
 eX:keepIn K (.ref t.cR)=true
 fb:Binds K t.eJ ["text","at","sign"] []
 yr:Fun K "must_stand" "must_stand" eM t.ji t.lW
 pb:mg "must_stand"=some (.ref t.ji)
 pL:keepIn K (.ref t.ji)=true
 oX:Binds K t.lW ["text","at","sign"] []
 Bm:Fun K "_law_bag" "_law_bag" ic t.lX t.oA
 A4:mg "_law_bag"=some (.ref t.lX)
 Br:keepIn K (.ref t.lX)=true
 BH:Binds K t.oA ["_law_script","_law_at"] []
 zi:Fun K "_law_take" "_law_take" fS t.jT t.mU
 bx:mg "_law_take"=some (.ref t.jT)
 bz:keepIn K (.ref t.jT)=true
 bA:Binds K t.mU ["_law_bag_here","_law_many"] []
 sJ:Fun K "_law_is_whole" "_law_is_whole" cG t.fD t.iW
 mf:mg "_law_is_whole"=some (.ref t.fD)
 md:keepIn K (.ref t.fD)=true
 mj:Binds K t.iW ["_law_thing"] []
 Bj:Fun K "_law_odd" "_law_odd" ie t.lI t.oq
 B2:mg "_law_odd"=some (.ref t.lI)
 Bd:keepIn K (.ref t.lI)=true
 Bi:Binds K t.oq ["_law_bag_here"] []
 jD:Fun K "_law_refusal" "_law_refusal" cT t.cY t.eG
 jB:mg "_law_refusal"=some (.ref t.cY)
 jA:keepIn K (.ref t.cY)=true
 jF:Binds K t.eG ["_law_deed"] []
 qW:Fun K "_law_grid_size" "_law_grid_size" cz t.eT t.ib
 kD:mg "_law_grid_size"=some (.ref t.eT)
 kI:keepIn K (.ref t.eT)=true
 kv:Binds K t.ib ["_law_bag_here"] []
 zL:Fun K "_law_plan" "_law_plan" fZ t.j6 t.mX
 AW:mg "_law_plan"=some (.ref t.j6)
 AF:keepIn K (.ref t.j6)=true
 zl:Binds K t.mX ["_law_bag_here","_law_many"] []
 sv:Fun K "_law_plans_in" "_law_plans_in" cH t.bP t.cf
 ml:mg "_law_plans_in"=some (.ref t.bP)
 ma:keepIn K (.ref t.bP)=true
 mn:Binds K t.cf ["_law_thing","_law_many","_law_deep"] []
 rk:Fun K "_law_is_a_plan" "_law_is_a_plan" cu t.eU t.ij
 kR:mg "_law_is_a_plan"=some (.ref t.eU)
 kL:keepIn K (.ref t.eU)=true
 kS:Binds K t.ij ["_law_thing","_law_many"] []
 tT:Fun K "_law_swapped" "_law_swapped" cU t.gG t.jq
 uE:mg "_law_swapped"=some (.ref t.gG)
 vb:keepIn K (.ref t.gG)=true
 tY:Binds K t.jq ["_law_row","_law_at","_law_thing"] []
 rC:Fun K "_law_bent_plan" "_law_bent_plan" cm t.bK t.bV
 g8:mg "_law_bent_plan"=some (.ref t.bK)
 gZ:keepIn K (.ref t.bK)=true
 hE:Binds K t.bV ["_law_bag_here","_law_plan_here","_law_many"] []
 rG:Fun K "_law_none_plan" "_law_none_plan" cq t.eQ t.ir
 qS:mg "_law_none_plan"=some (.ref t.eQ)
 qM:keepIn K (.ref t.eQ)=true
 rp:Binds K t.ir ["_law_bag_here","_law_plan_here","_law_many"] []
 rm:Fun K "_law_plan_text" "_law_plan_text" cx t.bJ t.bW
 eL:mg "_law_plan_text"=some (.ref t.bJ)
 eZ:keepIn K (.ref t.bJ)=true
 eW:Binds K t.bW ["_law_plan_here","_law_letters"] []
 Lz:Fun K "law" "law" n6 t.C2 t.CT
 NG:mg "law"=some (.ref t.C2)
 NC:keepIn K (.ref t.C2)=true
 ND:Binds K t.CT ["_law_script"] []
 av:mg "isinstance"=none
 wx:mg "int"=none
 FL:mg "bool"=none
 fw:mg "len"=none
 nG:mg "tuple"=none
 Bx:mg "list"=none
 FY:mg "abs"=none
 tK:mg "str"=none
 E2:mg "all"=none
 pD:mg "ValueError"=none
 pJ:mg "range"=none
 EO:mg "min"=none
 ID:mg "max"=none
 Iz:mg "sum"=none
 lz:mg "MOST_KINDS"=some (.int 3 t.wa)
 kq:mg "MOST_WITHIN"=some (.int 12 t.tJ)
 xu:mg "MOST_PLANS"=some (.int 60 t.vP)
 vJ:mg "LEAST_PARTS"=some (.int 2 t.uN)
 xY:mg "MOST_PARTS"=some (.int 8 t.vt)
 nk:mg "MOST_FIGURES"=some (.int 40 t.sF)
 wU:mg "FIGURES"=some (.str "0123456789" t.BI)
 kO:Jj K mg "LETTERS" t.Bg "a" "b" "c"
 o6:mg "FloorError"=some (.ref t.cj)
 Af:mg "NoRoot"=some (.ref t.fH)
 vq:mg "NoNumber"=some (.ref t.cZ)
 tN:mg "NoLaying"=some (.ref t.da)
 zf:mg "NoTile"=some (.ref t.fQ)
 C5:mg "NoFit"=some (.ref t.iF)
 wO:mg "NoKinds"=some (.ref t.dY)
 uG:mg "NoPlan"=some (.ref t.aB)
 AA:mg "NoSpot"=some (.ref t.fJ)
 Dp:mg "NoNet"=some (.ref t.iJ)
 u5:mg "NoText"=some (.ref t.ay)
 uA:mg "NoSaying"=some (.ref t.dh)
 zT:mg "NoName"=some (.ref t.fY)
 w9:mg "TooMany"=some (.ref t.eh)
 uD:excIn K (t.aB) bmV "ValueError.__new__"=true
 uV:exmOne K (.ref t.aB) (.ref t.cj)=some true
 iU:kitOne K (.ref t.aB) (.ref t.fH)=some false
 gA:kitOne K (.ref t.aB) (.ref t.cZ)=some false
 gi:kitOne K (.ref t.aB) (.ref t.da)=some false
 iR:kitOne K (.ref t.aB) (.ref t.fQ)=some false
 ju:kitOne K (.ref t.aB) (.ref t.iF)=some false
 g9:kitOne K (.ref t.aB) (.ref t.dY)=some false
 iS:kitOne K (.ref t.aB) (.ref t.aB)=some true
 iY:kitOne K (.ref t.aB) (.ref t.fJ)=some false
 jG:kitOne K (.ref t.aB) (.ref t.iJ)=some false
 iZ:kitOne K (.ref t.aB) (.ref t.ay)=some false
 gm:kitOne K (.ref t.aB) (.ref t.dh)=some false
 i5:kitOne K (.ref t.aB) (.ref t.fY)=some false
 hZ:kitOne K (.ref t.aB) (.ref t.eh)=some false
 oj:kitOne K (.ref t.aB) (.type "ValueError")=some true
 uZ:excIn K (t.ay) bmV "ValueError.__new__"=true
 tV:exmOne K (.ref t.ay) (.ref t.cj)=some true
 i7:kitOne K (.ref t.ay) (.ref t.fH)=some false
 gM:kitOne K (.ref t.ay) (.ref t.cZ)=some false
 gq:kitOne K (.ref t.ay) (.ref t.da)=some false
 jc:kitOne K (.ref t.ay) (.ref t.fQ)=some false
 jI:kitOne K (.ref t.ay) (.ref t.iF)=some false
 hW:kitOne K (.ref t.ay) (.ref t.dY)=some false
 ja:kitOne K (.ref t.ay) (.ref t.aB)=some false
 iT:kitOne K (.ref t.ay) (.ref t.fJ)=some false
 jt:kitOne K (.ref t.ay) (.ref t.iJ)=some false
 iP:kitOne K (.ref t.ay) (.ref t.ay)=some true
 gB:kitOne K (.ref t.ay) (.ref t.dh)=some false
 iQ:kitOne K (.ref t.ay) (.ref t.fY)=some false
 iw:kitOne K (.ref t.ay) (.ref t.eh)=some false
 oI:kitOne K (.ref t.ay) (.type "ValueError")=some true
 cI:sq K t.aB
 cJ:sq K t.ay
 FD:J0 K mg t.qU t.AX "law"
 Bh:t.CT.code = .ref t.qU
structure EQ where
 P:Program
 w:World
 K:PySem.W.Frag
 mg:Str->Option Value
 base:Heap
 t:Adr
noncomputable abbrev TX(e:EQ):Prop:=Txt e.K e.mg e.t
noncomputable abbrev mC(e:EQ):Prop:=bw e.P e.w e.K e.mg e.base CX0 1 e.t.kW e.t.oP ["thing"] (spD e.K jm)
noncomputable abbrev lV(e:EQ):Prop:=bw e.P e.w e.K e.mg e.base CX0 4 e.t.nL e.t.q9 ["thing","many"] (spD e.K jo)
noncomputable abbrev sj(e:EQ):Prop:=bw e.P e.w e.K e.mg e.base CX0 3 e.t.l4 e.t.oy ["thing","many"] (spD e.K yz)
noncomputable abbrev rO(e:EQ):Prop:=bw e.P e.w e.K e.mg e.base CX0 2 e.t.lO e.t.ox ["thing"] (spD e.K o7)
noncomputable abbrev rL(e:EQ):Prop:=bw e.P e.w e.K e.mg e.base CX0 1 e.t.lJ e.t.oB ["plan"] (spD e.K sM)
noncomputable abbrev mh(e:EQ):Prop:=bw e.P e.w e.K e.mg e.base CX0 5 e.t.dX e.t.gE ["thing","many"] (spD e.K l7)
noncomputable abbrev iy(e:EQ):Prop:=bw e.P e.w e.K e.mg e.base CX0 1 e.t.jk e.t.lH ["k"] (spD e.K kF)
noncomputable abbrev nW(e:EQ):Prop:=bw e.P e.w e.K e.mg e.base CX0 1 e.t.gp e.t.jj ["text"] (spD e.K tm)
noncomputable abbrev oR(e:EQ):Prop:=bw e.P e.w e.K e.mg e.base CX0 16 e.t.iB e.t.ka ["plan"] (spD e.K nO)
noncomputable abbrev yw(e:EQ):Prop:=bw e.P e.w e.K e.mg e.base CX0 15 e.t.df e.t.dW ["plan"] (spD e.K (eY 13))
noncomputable abbrev oS(e:EQ):Prop:=bw e.P e.w e.K e.mg e.base CX0 30 e.t.iE e.t.j0 ["text"] (spD e.K j8)
noncomputable abbrev yF(e:EQ):Prop:=bw e.P e.w e.K e.mg e.base CX0 29 e.t.bQ e.t.bY ["text","at","depth"] (spD e.K (dm 13))
noncomputable abbrev GP(e:EQ):Prop:=bw e.P e.w e.K e.mg e.base CX0 28 e.t.eO e.t.gD ["text","at","depth"] (spD e.K (mW 13))
noncomputable abbrev Ih(e:EQ):Prop:=bw e.P e.w e.K e.mg e.base CX0 28 e.t.fM e.t.iD ["text","at","depth"] (spD e.K (pS 13))
noncomputable abbrev cL(e:EQ):Prop:=bw e.P e.w e.K e.mg e.base CX0 2 e.t.cR e.t.eJ ["text","at","sign"] (spD e.K kN)
noncomputable abbrev fz(e:EQ):Prop:=bw e.P e.w e.K e.mg e.base CX0 1 e.t.ji e.t.lW ["text","at","sign"] (spD e.K qx)
noncomputable abbrev rW(e:EQ):Prop:=bw e.P e.w e.K e.mg e.base CX0 1 e.t.lX e.t.oA ["_law_script","_law_at"] (spD e.K CM)
noncomputable abbrev dy(e:EQ):Prop:=bw e.P e.w e.K e.mg e.base CX0 1 e.t.jT e.t.mU ["_law_bag_here","_law_many"] (spD e.K cF)
noncomputable abbrev ia(e:EQ):Prop:=bw e.P e.w e.K e.mg e.base CX0 1 e.t.fD e.t.iW ["_law_thing"] (spD e.K jm)
noncomputable abbrev mz(e:EQ):Prop:=bw e.P e.w e.K e.mg e.base CX0 2 e.t.lI e.t.oq ["_law_bag_here"] (spD e.K CU)
noncomputable abbrev jN(e:EQ):Prop:=bw e.P e.w e.K e.mg e.base CX0 2 e.t.eT e.t.ib ["_law_bag_here"] (spD e.K tQ)
noncomputable abbrev qb(e:EQ):Prop:=bw e.P e.w e.K e.mg e.base CX0 3 e.t.j6 e.t.mX ["_law_bag_here","_law_many"] (spD e.K sY)
noncomputable abbrev qP(e:EQ):Prop:=bw e.P e.w e.K e.mg e.base CX0 33 e.t.bP e.t.cf ["_law_thing","_law_many","_law_deep"] (spD e.K (dG 31))
noncomputable abbrev gy(e:EQ):Prop:=bw e.P e.w e.K e.mg e.base CX0 34 e.t.eU e.t.ij ["_law_thing","_law_many"] (spD e.K kG)
noncomputable abbrev jb(e:EQ):Prop:=bw e.P e.w e.K e.mg e.base CX0 1 e.t.gG e.t.jq ["_law_row","_law_at","_law_thing"] (spD e.K kx)
noncomputable abbrev qm(e:EQ):Prop:=bw e.P e.w e.K e.mg e.base CX0 15 e.t.bK e.t.bV ["_law_bag_here","_law_plan_here","_law_many"] (spD e.K (dQ 12))
noncomputable abbrev j9(e:EQ):Prop:=bw e.P e.w e.K e.mg e.base CX0 35 e.t.eQ e.t.ir ["_law_bag_here","_law_plan_here","_law_many"] (spD e.K sX)
noncomputable abbrev p7(e:EQ):Prop:=bw e.P e.w e.K e.mg e.base CX0 14 e.t.bJ e.t.bW ["_law_plan_here","_law_letters"] (spD e.K (cS 13))
noncomputable abbrev E4(e:EQ):Prop:=bw e.P e.w e.K e.mg e.base CX0 36 e.t.C2 e.t.CT ["_law_script"] (spD e.K uS)
noncomputable abbrev fP(e:EQ):Prop:=bw e.P e.w e.K e.mg e.base (CX1 e.P e.w) 5 e.t.dX e.t.gE ["thing","many"] (spX e.K (.ref e.t.aB) j5)
noncomputable abbrev iI(e:EQ):Prop:=bw e.P e.w e.K e.mg e.base (CX1 e.P e.w) 16 e.t.iB e.t.ka ["plan"] (spX e.K (.ref e.t.aB) pY)
noncomputable abbrev gR(e:EQ):Prop:=bw e.P e.w e.K e.mg e.base (CX1 e.P e.w) 1 e.t.gp e.t.jj ["text"] (spX e.K (.ref e.t.ay) qj)
noncomputable abbrev ff(e:EQ):Prop:=bw e.P e.w e.K e.mg e.base (CX1 e.P e.w) 2 e.t.cR e.t.eJ ["text","at","sign"] (spX e.K (.ref e.t.ay) pG)
noncomputable abbrev iG(e:EQ):Prop:=bw e.P e.w e.K e.mg e.base (CX1 e.P e.w) 28 e.t.fM e.t.iD ["text","at","depth"] (spX e.K (.ref e.t.ay) pN)
noncomputable abbrev iN(e:EQ):Prop:=bw e.P e.w e.K e.mg e.base (CX1 e.P e.w) 29 e.t.bQ e.t.bY ["text","at","depth"] (spX e.K (.ref e.t.ay) pq)
noncomputable abbrev iK(e:EQ):Prop:=bw e.P e.w e.K e.mg e.base (CX1 e.P e.w) 30 e.t.iE e.t.j0 ["text"] (spX e.K (.ref e.t.ay) qp)
noncomputable abbrev Mw(e:EQ):Prop:=Jh e.P e.w e.K e.mg e.base 31 e.t.cY e.t.eG "_law_deed"
noncomputable abbrev uP(e:EQ):Prop:=Dn e.P e.w e.K e.mg e.base 31 e.t.cY e.t.eG "_law_deed" (.ref e.t.aB) "NoPlan"
noncomputable abbrev uU(e:EQ):Prop:=Dn e.P e.w e.K e.mg e.base 31 e.t.cY e.t.eG "_law_deed" (.ref e.t.ay) "NoText"
section
variable {e:EQ}
theorem Ac:aZ ["thing"] ["thing"] (az ig):=by walk_at "s"
theorem zw(T:TX e):mC e:=by
 have S:=Ac
 exact T.BA.okD S (fun ds U Q h=>sd h) (fun cdv A outer s H E hr=>⟨j4,(ar (aI (i3 (jr (CW _) rfl T.av rfl T.wx PyProof.Rows.Boot.«int» (dv 0)) (ny (GG (jr (Aa _) rfl T.av rfl T.FL PyProof.Rows.Boot.«bool» (dv 0))))))),fun ds U Qd h=>sf h⟩)
theorem zF:aZ ["plan","word"] ["plan"] (az hJ):=by walk_at "s"
theorem Ay(T:TX e):rL e:=by
 have S:=zF
 exact T.Cd.okD S (fun ds U Q h=>zm h) (fun cdv A outer s H E hr=>⟨nc,(ai (aQ (i:=1) S.nd rfl (Or.inl rfl) (aV (dv 0) ag))
  (ai (bo (aE (bh hr.units) aO (dv 1) ak (aC _)) (ar (aI (bU af))) aH)
  (ai (bo (DW.dt (gQ (aE (bh hr.units) aO (dv 1) ak (aC _)) (gO (aE (bh hr.units) aO (dv 1) ak (aC _))))) (ar (aI (xr rfl T.Bx (aa (aV (dv 0) ag) af)))) aH)
  (ar (aI (bU (aa (aV (dv 0) (qH ag)) af))))))),fun ds U Qd h=>AD h⟩)
theorem vK:aZ ["k","block","blocks","rest"] ["k"] (az eN):=by walk_at "s"
theorem vC(T:TX e):iy e:=by
 have S:=vK
 exact T.yA.okD S (fun ds U Q h=>xP h) (fun cdv A outer s H E hr=>⟨ko,(ai (aQ (i:=1) S.nd rfl (Or.inl rfl) (ke ag ag))
  (ai (aQ (i:=2) S.nd rfl (Or.inl rfl) (ql af))
  (ai (aQ (i:=3) S.nd rfl (Or.inl rfl) (By rfl T.FY (aa (dv 0) af)))
  (ai (tP PassesOwn.never (aE wq fF (dv 3) (dv 1) (aC _)) D0)
  (ai (jh (kM (dv 2) (pW rfl T.tK (aa (dv 3) af))))
  (ai (jh (G5 (dv 2)))
  (ar (aI (fA (Ai (aE n5 fF (dv 0) ag (aC _)) ak ak) (mJ ak (dv 2))))))))))),fun ds U Qd h=>vU h⟩)
theorem oi:aZ ["text"] ["text"] (az eV):=by walk_at "s"
theorem mq(T:TX e):gR e:=by
 have S:=oi
 exact T.pZ.okX S (fun ds U Xk h=>vB h) (fun cdv A outer s H E hr=>⟨dI,(gj (IB (DW.dt (gQ (aE (bh hr.units) aO (dv 0) ak (aC _)) (gQ (aE nZ fF (yR rfl T.fw (aa (dv 0) af)) (dR (u:=.int 40) rfl T.nk ⟨_,rfl⟩ (fun _ _ _=>Rp.int 40)) (aC _)) (gO (i4 (dM (Bo rfl rfl T.E2 (aa (x4 (N':=["sign"]) (cap:=[none]) rfl (FZ (dv 0)) (fun _ _ _=>(aG (i:=0) (show List.Nodup (["sign"]:List Str) by decide +kernel) rfl (Or.inl rfl))) (fun _ _ _=>eI) (fun _ _ _=>(ik w4 Gk (dv 0) (dR (u:=.str "0123456789") rfl T.wU ⟨_,rfl⟩ (fun _ _ _=>Rp.str _)) (by with_unfolding_all rfl))) rfl nofun rfl nofun (by walk_at "cl") (ft rfl) rfl (fG trivial)) af)))))))) (gj (AN lQ rfl T.u5 T.uZ)) xg)),fun ds U Xk h=>mr h⟩)
theorem vy(T:TX e):nW e:=by
 have S:=oi
 exact T.pZ.okD S (fun ds U Q h=>AM h) (fun cdv A outer s H E hr=>⟨kj,(ai (bo (DW.dt (gQ (aE (bh hr.units) aO (dv 0) ak (aC _)) (gQ (aE nZ fF (yR rfl T.fw (aa (dv 0) af)) (dR (u:=.int 40) rfl T.nk ⟨_,rfl⟩ (fun _ _ _=>Rp.int 40)) (aC _)) (gO (i4 (dM (Bo rfl rfl T.E2 (aa (x4 (N':=["sign"]) (cap:=[none]) rfl (FZ (dv 0)) (fun _ _ _=>(aG (i:=0) (show List.Nodup (["sign"]:List Str) by decide +kernel) rfl (Or.inl rfl))) (fun _ _ _=>eI) (fun _ _ _=>(ik w4 Gk (dv 0) (dR (u:=.str "0123456789") rfl T.wU ⟨_,rfl⟩ (fun _ _ _=>Rp.str _)) (by with_unfolding_all rfl))) rfl nofun rfl nofun (by walk_at "cl") (ft rfl) rfl (fG trivial)) af)))))))) (ar dE) aH)
  (ar (aI (HF rfl T.wx (aa (dv 0) af))))),fun ds U Qd h=>vE h⟩)
theorem wd:aZ ["text","at","sign"] ["text","at","sign"] (az eM):=by walk_at "s"
theorem vx(T:TX e):fz e:=by
 have S:=wd
 exact T.yr.okD S (fun ds U Q h=>zS h) (fun cdv A outer s H E hr=>⟨ki,(ar (bo (aE (fE hr.units) aO (fI (dv 0) (bS (dv 1)) (bS (bC (dv 1) ag))) (dv 2) (aC _)) (ar dE) aH)),fun ds U Qd h=>vY h⟩)
theorem zP:aZ ["_law_script","_law_at","_law_cell","_law_great","_law_primes","_law_mixed"] ["_law_script","_law_at"] (az ic):=by walk_at "s"
theorem zA(T:TX e):rW e:=by
 have S:=zP
 exact T.Bm.okD S (fun ds U Q h=>Dy h) (fun cdv A outer s H E hr=>⟨mO,(ai (aQ (i:=2) S.nd rfl (Or.inl rfl) ag)
  (ai (bo (aE n5 fF (dv 1) (dH rfl T.fw (aa (dv 0) af)) (aC _)) (ar (aQ (i:=2) S.nd rfl (Or.inl rfl) (aV (dv 0) (dv 1)))) aH)
  (ai (aQ (i:=3) S.nd rfl (Or.inl rfl) ag)
  (ai (bo (aE wq fF (By rfl T.FY (aa (dv 2) af)) (ke ag ag) (aC _)) (ar (aQ (i:=3) S.nd rfl (Or.inl rfl) (By rfl T.FY (aa (dv 2) af)))) aH)
  (ai (aQ (i:=4) S.nd rfl (Or.inl rfl) (bU (aa ag (aa ag (aa ag (aa ag (aa ag (aa ag (aa ag (aa ag af))))))))))
  (ai (aQ (i:=5) S.nd rfl (Or.inl rfl) (bC (bC (bC (u9 (mw (dv 2) ag) ag) (u9 (u9 ag (dv 1)) (dv 1))) (u9 ag (dv 1))) ag))
  (ar (aI (ql (aa (dv 3) (aa (mw (dv 5) (aV (dv 4) (mw (dv 1) ag))) af))))))))))),fun ds U Qd h=>zz h⟩)
theorem xW:aZ ["_law_bag_here","_law_many","_law_digit"] ["_law_bag_here","_law_many"] (az fS):=by walk_at "s"
theorem xA(T:TX e):dy e:=by
 have S:=xW
 exact T.zi.okD S (fun ds U Q h=>Bz h) (fun cdv A outer s H E hr=>⟨k7,(ai (bo (aE nZ fF (aV (dv 0) ag) ag (aC _)) (ai (aQ (i:=2) S.nd rfl (Or.inl rfl) (mw (aV (dv 0) ag) (dv 1)))
  (ai (iu (FF (aV (dv 0) ag) (dv 1)) (Fz (dv 0) ag))
  (ar (aI (dv 2))))) aH)
  (ai (iu (mw (bC (u9 (aV (dv 0) ag) ag) ag) ag) (Fz (dv 0) ag))
  (ar (aI (mw (FF (mw (ke (aV (dv 0) ag) ag) ag) ag) (dv 1)))))),fun ds U Qd h=>xx h⟩)
theorem qV:aZ ["_law_thing"] ["_law_thing"] (az cG):=by walk_at "s"
theorem qQ(T:TX e):ia e:=by
 have S:=qV
 exact T.sJ.okD S (fun ds U Q h=>sd h) (fun cdv A outer s H E hr=>⟨kJ,(ar (aI (i3 (jr (CW _) rfl T.av rfl T.wx PyProof.Rows.Boot.«int» (dv 0)) (ny (GG (jr (Aa _) rfl T.av rfl T.FL PyProof.Rows.Boot.«bool» (dv 0))))))),fun ds U Qd h=>rE h⟩)
theorem sy:aZ ["_law_row","_law_at","_law_thing"] ["_law_row","_law_at","_law_thing"] (az cU):=by walk_at "s"
theorem sk(T:TX e):jb e:=by
 have S:=sy
 exact T.tT.okD S (fun ds U Q h=>vw h) (fun cdv A outer s H E hr=>⟨iX,(ar (aI (ix (ix (mQ (dv 0) sQ (bS (dv 1))) (aw (aa (dv 2) af))) (mQ (dv 0) (bS (ix (dv 1) ag)) sQ)))),fun ds U Qd h=>sC h⟩)
theorem AH:aZ ["thing"] ["thing"] (az ip):=by walk_at "s"
theorem zY(T:TX e)(iq:mC e):rO e:=by
 have S:=AH
 exact T.BK.okD S (fun ds U Q h=>AV h) (fun cdv A outer s H E hr=>⟨ng,(ar (aI (i3 (ax iq (hr.mono ⋯) rfl T.vf T.uu T.uf (aa (dv 0) af)) (ny (ik wq fF (dv 0) ag (aC _)))))),fun ds U Qd h=>zj h⟩)
theorem j3:aZ ["text","at","sign","end","found"] ["text","at","sign"] (az cw):=by walk_at "s"
theorem jK(T:TX e)(eE:gR e):ff e:=by
 have S:=j3
 exact T.kC.okX S (fun ds U Xk h=>we h) (fun cdv A outer s H E hr=>⟨cE,(gK (aQ (i:=3) S.nd rfl (Or.inl rfl) (zH (dv 0) (dv 2) (dv 1)))
  (gK (bo (aE n5 fF (dv 3) ag (aC _)) (ar dE) aH)
  (gj (Kz (i:=4) S.nd rfl (Or.inl rfl) (lZ eE (hr.mono ⋯) rfl T.pX T.ph T.pU lQ (aa (fI (dv 0) (bS (dv 1)) (bS (dv 3))) af)))))),fun ds U Xk h=>jM h⟩)
theorem p4(T:TX e)(lK:nW e)(aS:iy e):cL e:=by
 have S:=j3
 exact T.kC.okD S (fun ds U Q h=>xt h) (fun cdv A outer s H E hr=>⟨gr,(ai (aQ (i:=3) S.nd rfl (Or.inl rfl) (zH (dv 0) (dv 2) (dv 1)))
  (ai (bo (aE n5 fF (dv 3) ag (aC _)) (ar dE) aH)
  (ai (aQ (i:=4) S.nd rfl (Or.inl rfl) (ax lK (hr.mono ⋯) rfl T.pX T.ph T.pU (aa (fI (dv 0) (bS (dv 1)) (bS (dv 3))) af)))
  (ai (bo (aE (fE hr.units) aO (ax aS (hr.mono ⋯) rfl T.lL T.lM T.lN (aa (dv 4) af)) (fI (dv 0) (bS (dv 1)) (bS (dv 3))) (aC _)) (ar dE) aH)
  (ar (aI (aw (aa (dv 4) (aa (bC (dv 3) ag) af))))))))),fun ds U Qd h=>pV h⟩)
theorem Ax:aZ ["_law_bag_here","_law_some"] ["_law_bag_here"] (az ie):=by walk_at "s"
theorem Ap(T:TX e)(aA:dy e):mz e:=by
 have S:=Ax
 exact T.Bj.okD S (fun ds U Q h=>Dt h) (fun cdv A outer s H E hr=>⟨mv,(ai (aQ (i:=1) S.nd rfl (Or.inl rfl) (bU (aa Bs (aa jz (aa jz (aa ak (aa ak (aa (qH ag) (aa ag (aa ag (aa (ke ag ag) (aa (aw af) (aa (bU af) (aa (bU (aa ag af)) (aa (aw (aa ag (aa ag af))) (aa (aw (aa ag (aa ag (aa ag af)))) (aa (aw (aa ag (aa ag (aa ag af)))) (aa (aw (aa ag (aa jz (aa ag af)))) (aa (aw (aa ag (aa ag (aa (qH ag) af)))) (aa (bU (aa ag (aa ag (aa ag af)))) (aa (aw (aa ag (aa ag af))) (aa ak af))))))))))))))))))))))
  (ar (aI (aV (dv 1) (ax aA (hr.mono ⋯) rfl T.bx T.bz T.bA (aa (dv 0) (aa ag af))))))),fun ds U Qd h=>zN h⟩)
theorem pQ:aZ ["_law_bag_here"] ["_law_bag_here"] (az cz):=by walk_at "s"
theorem qi(T:TX e)(aA:dy e):jN e:=by
 have S:=pQ
 exact T.qW.okD S (fun ds U Q h=>B1 h) (fun cdv A outer s H E hr=>⟨gN,(ar (aI (bC ag (ax aA (hr.mono ⋯) rfl T.bx T.bz T.bA (aa (dv 0) (aa (aV (bU (aa ag (aa ag (aa ag (aa ag (aa ag (aa ag (aa ag (aa (ke ag ag) af))))))))) (ax aA (hr.mono ⋯) rfl T.bx T.bz T.bA (aa (dv 0) (aa ag af)))) af)))))),fun ds U Qd h=>qg h⟩)
theorem Al:aZ ["thing","many","word"] ["thing","many"] (az gS):=by walk_at "s"
theorem zq(T:TX e)(lE:rO e)(iq:mC e):sj e:=by
 have S:=Al
 exact T.A7.okD S (fun ds U Q h=>BY h) (fun cdv A outer s H E hr=>⟨mT,(ai (bo (DW.dt (gQ (i4 (dM (jr (kit_tuple _) rfl T.av rfl T.nG PyProof.Rows.Boot.«tuple» (dv 0)))) (gO (aE n5 fF (dH rfl T.fw (aa (dv 0) af)) ag (aC _))))) (ar (aI jz)) aH)
  (ai (aQ (i:=2) S.nd rfl (Or.inl rfl) (aV (dv 0) ag))
  (ai (bo (aE (bh hr.units) aO (dv 2) ak (aC _)) (ar (aI (i3 (ik (bh hr.units) aO (dH rfl T.fw (aa (dv 0) af)) ag (aC _)) (i3 (ax lE (hr.mono ⋯) rfl T.tR T.tI T.ur (aa (aV (dv 0) ag) af)) (ny (ax lE (hr.mono ⋯) rfl T.tR T.tI T.ur (aa (aV (dv 0) ag) af))))))) aH)
  (ai (bo (aE (fE hr.units) aO (dH rfl T.fw (aa (dv 0) af)) ag (aC _)) (ar (aI jz)) aH)
  (ai (bo (aE (bh hr.units) aO (dv 2) ak (aC _)) (ar (aI (i3 (ax iq (hr.mono ⋯) rfl T.vf T.uu T.uf (aa (aV (dv 0) ag) af)) (i3 (ik wq fF (aV (dv 0) ag) ag (aC _)) (ny (ik n5 fF (aV (dv 0) ag) (dv 1) (aC _))))))) aH)
  (ai (bo (DW.dt (gQ (aE (bh hr.units) aO (dv 2) ak (aC _)) (gO (aE (bh hr.units) aO (dv 2) ak (aC _))))) (ar (aI (i3 (jr (kit_tuple _) rfl T.av rfl T.nG PyProof.Rows.Boot.«tuple» (aV (dv 0) ag)) (i3 (ik wq fF (dH rfl T.fw (aa (aV (dv 0) ag) af)) (dR (u:=.int 2) rfl T.vJ ⟨_,rfl⟩ (fun _ _ _=>Rp.int 2)) (aC _)) (ny (ik zK fF (dH rfl T.fw (aa (aV (dv 0) ag) af)) (dR (u:=.int 8) rfl T.xY ⟨_,rfl⟩ (fun _ _ _=>Rp.int 8)) (aC _))))))) aH)
  (ar (aI (ik (bh hr.units) aO (dv 2) ak (aC _)))))))))),fun ds U Qd h=>As h⟩)
theorem yn:aZ ["_law_bag_here","_law_many","_law_leaves","_law_parts","_law_turn","_law_deep","_law_size","_law_plan_here","_law_way","_law_whole","_law_count","_law_some","_law_inner","_law_sizes","_law_most"] ["_law_bag_here","_law_many"] (az fZ):=by walk_at "s"
theorem xF(T:TX e)(aA:dy e)(eK:jN e):qb e:=by
 have S:=yn
 exact T.zL.okD S (fun ds U Q h=>An h) (fun cdv A outer s H E hr=>⟨lY,(ai (aQ (i:=2) S.nd rfl (Or.inl rfl) (bC ag (ax aA (hr.mono ⋯) rfl T.bx T.bz T.bA (aa (dv 0) (aa (aV (bU (aa ag (aa ag (aa ag af)))) (ax aA (hr.mono ⋯) rfl T.bx T.bz T.bA (aa (dv 0) (aa ag af)))) af)))))
  (ai (aQ (i:=3) S.nd rfl (Or.inr rfl) (FP (N':=["_law_k","_law_bag_here","_law_many"]) (cap:=[none,some 0,some 1]) rfl (o5 rfl T.pJ (aa (dv 2) af)) (fun _ _ _=>(aG (i:=0) (show List.Nodup (["_law_k","_law_bag_here","_law_many"]:List Str) by decide +kernel) rfl (Or.inl rfl))) (fun _ _ _=>eI) (fun _ _ _=>(aw (aa ag (aa ag (aa (aw (aa ak (aa (ax aA (hr.mono ⋯) rfl T.bx T.bz T.bA (aa (dv 1) (aa (dv 2) af))) af))) af))))) rfl nofun rfl nofun (by walk_at "cl") (ft rfl) rfl (fG ⟨BW,⟨BW,trivial⟩⟩)))
  (ai (vm PassesOwn.never rfl (o5 rfl T.pJ (aa ag af)) (aG (i:=4) S.nd rfl (Or.inl rfl)) (ai (iu (AJ (dv 3) (ax aA (hr.mono ⋯) rfl T.bx T.bz T.bA (aa (dv 0) (aa (dH rfl T.fw (aa (dv 3) af)) af)))) (dw (n:=3) rfl (aJ (aG (i:=5) S.nd rfl (Or.inl rfl)) (aJ (aG (i:=6) S.nd rfl (Or.inl rfl)) (aJ (aG (i:=7) S.nd rfl (Or.inl rfl)) cg)))))
  (ai (aQ (i:=8) S.nd rfl (Or.inl rfl) (ax aA (hr.mono ⋯) rfl T.bx T.bz T.bA (aa (dv 0) (aa ag af))))
  (ai (bo (aE (bh hr.units) aO (dv 8) ag (aC _)) (ar (aQ (i:=9) S.nd rfl (Or.inl rfl) (aw (aa (bC (dv 5) ag) (aa (bC (dv 6) ag) (aa (aw (aa ak (aa (dv 7) af))) af)))))) (ar (bo (aE (bh hr.units) aO (dv 8) ag (aC _)) (ar (aQ (i:=9) S.nd rfl (Or.inl rfl) (aw (aa (bC (dv 5) ag) (aa (bC (dv 6) ag) (aa (aw (aa ak (aa (ax eK (hr.mono ⋯) rfl T.kD T.kI T.kv (aa (dv 0) af)) (aa (ax eK (hr.mono ⋯) rfl T.kD T.kI T.kv (aa (dv 0) af)) (aa (dv 7) af))))) af)))))) (ai (aQ (i:=10) S.nd rfl (Or.inl rfl) (EB rfl rfl T.EO (aa (dH rfl T.fw (aa (dv 3) af)) (aa (bC ag (ax aA (hr.mono ⋯) rfl T.bx T.bz T.bA (aa (dv 0) (aa (aV (bU (aa ag (aa ag (aa ag (aa ag af))))) (ax aA (hr.mono ⋯) rfl T.bx T.bz T.bA (aa (dv 0) (aa ag af)))) af)))) af))))
  (ai (aQ (i:=11) S.nd rfl (Or.inl rfl) (ix (bU (aa (aw (aa (dv 5) (aa (dv 6) (aa (dv 7) af)))) af)) (u6 (N':=["_law_k","_law_parts","_law_bag_here"]) (cap:=[none,some 3,some 0]) rfl (o5 rfl T.pJ (aa (dv 10) af)) (fun _ _ _=>(aG (i:=0) (show List.Nodup (["_law_k","_law_parts","_law_bag_here"]:List Str) by decide +kernel) rfl (Or.inl rfl))) (fun _ _ _=>eI) (fun _ _ _=>(AJ (dv 1) (ax aA (hr.mono ⋯) rfl T.bx T.bz T.bA (aa (dv 2) (aa (dH rfl T.fw (aa (dv 1) af)) af))))) rfl nofun rfl nofun (by walk_at "cl") (ft rfl) rfl (fG ⟨BW,⟨BW,trivial⟩⟩))))
  (ai (bo (aE (bh hr.units) aO (dH rfl T.fw (aa (dv 11) af)) ag (aC _)) (ar (aQ (i:=11) S.nd rfl (Or.inl rfl) (ix (dv 11) (dv 11)))) aH)
  (ai (aQ (i:=12) S.nd rfl (Or.inl rfl) (AE rfl T.nG (aa (u6 (N':=["_law_here","_law_many_in","_law_part"]) (cap:=[none,none,none]) rfl (jU (dv 11)) (fun _ _ _=>(dw (n:=3) rfl (aJ (aG (i:=0) (show List.Nodup (["_law_here","_law_many_in","_law_part"]:List Str) by decide +kernel) rfl (Or.inl rfl)) (aJ (aG (i:=1) (show List.Nodup (["_law_here","_law_many_in","_law_part"]:List Str) by decide +kernel) rfl (Or.inl rfl)) (aJ (aG (i:=2) (show List.Nodup (["_law_here","_law_many_in","_law_part"]:List Str) by decide +kernel) rfl (Or.inl rfl)) cg))))) (fun _ _ _=>eI) (fun _ _ _=>(dv 2)) rfl nofun rfl nofun (by walk_at "cl") (ft rfl) rfl (fG trivial)) af)))
  (ai (nN (i:=13) (N':=["_law_here","_law_many_in","_law_part"]) (cap:=[none,none,none]) S.nd rfl rfl rfl (jU (dv 11)) (fun _ _ _=>(dw (n:=3) rfl (aJ (aG (i:=0) (show List.Nodup (["_law_here","_law_many_in","_law_part"]:List Str) by decide +kernel) rfl (Or.inl rfl)) (aJ (aG (i:=1) (show List.Nodup (["_law_here","_law_many_in","_law_part"]:List Str) by decide +kernel) rfl (Or.inl rfl)) (aJ (aG (i:=2) (show List.Nodup (["_law_here","_law_many_in","_law_part"]:List Str) by decide +kernel) rfl (Or.inl rfl)) cg))))) (fun _ _ _=>eI) (fun _ _ _=>(dv 1)) rfl nofun rfl nofun (by walk_at "cl") (ft rfl) rfl (fG trivial))
  (ai (aQ (i:=14) S.nd rfl (Or.inl rfl) (bC ag (Ir rfl rfl T.ID (aa (u6 (N':=["_law_here","_law_many_in","_law_part"]) (cap:=[none,none,none]) rfl (jU (dv 11)) (fun _ _ _=>(dw (n:=3) rfl (aJ (aG (i:=0) (show List.Nodup (["_law_here","_law_many_in","_law_part"]:List Str) by decide +kernel) rfl (Or.inl rfl)) (aJ (aG (i:=1) (show List.Nodup (["_law_here","_law_many_in","_law_part"]:List Str) by decide +kernel) rfl (Or.inl rfl)) (aJ (aG (i:=2) (show List.Nodup (["_law_here","_law_many_in","_law_part"]:List Str) by decide +kernel) rfl (Or.inl rfl)) cg))))) (fun _ _ _=>eI) (fun _ _ _=>(dv 0)) rfl nofun rfl nofun (by walk_at "cl") (ft rfl) rfl (fG trivial)) af))))
  (ar (aQ (i:=9) S.nd rfl (Or.inl rfl) (aw (aa (dv 14) (aa (bC ag (Fy rfl rfl T.Iz (aa (dv 13) af))) (aa (aw (aa (aV (bU (aa ak (aa ak af))) (mw (dv 8) ag)) (aa (dv 12) af))) af)))))))))))))))
  (ai (bo (DW.dt (gQ (aE nZ fF (aV (dv 9) ag) ag (aC _)) (gO (aE nZ fF (aV (dv 9) ag) ag (aC _))))) (ar (aI (dv 7))) aH)
  (ai (jh (kM (dv 3) (dv 9)))
  (ar (bo (DW.dt (jH (aE (bh hr.units) aO (dH rfl T.fw (aa (dv 3) af)) ag (aC _)) (jg (aE (bh hr.units) aO (ax aA (hr.mono ⋯) rfl T.bx T.bz T.bA (aa (dv 0) (aa ag af))) ag (aC _))))) (ar (aI (aV (dv 9) ag))) aH))))))))
  (ar (aI (aV (aV (dv 3) ag) ag)))))),fun ds U Qd h=>yq h⟩)
theorem Bk:aZ ["thing","many","waiting","counted","plan","depth","part"] ["thing","many"] (az jn):=by walk_at "s"
theorem BL(T:TX e)(om:sj e)(oO:rL e):lV e:=by
 have S:=Bk
 exact T.Eg.okD S (fun ds U Q h=>vF h) (fun cdv A outer s H E hr=>⟨oF,(ai (aQ (i:=2) S.nd rfl (Or.inl rfl) (ql (aa (aw (aa (dv 0) (aa ag af))) af)))
  (ai (aQ (i:=3) S.nd rfl (Or.inl rfl) ag)
  (ai (tP PassesOwn.never (GV (dv 2)) (ai (iu (Jg (dv 2)) (dw (n:=2) rfl (aJ (aG (i:=4) S.nd rfl (Or.inl rfl)) (aJ (aG (i:=5) S.nd rfl (Or.inl rfl)) cg))))
  (ai (KH (i:=3) S.nd rfl (Or.inl rfl) ag)
  (ai (bo (DW.dt (gQ (aE nZ fF (dv 3) (dR (u:=.int 60) rfl T.xu ⟨_,rfl⟩ (fun _ _ _=>Rp.int 60)) (aC _)) (gQ (aE nZ fF (dv 5) (dR (u:=.int 12) rfl T.kq ⟨_,rfl⟩ (fun _ _ _=>Rp.int 12)) (aC _)) (gO (i4 (dM (ax om (hr.mono ⋯) rfl T.A2 T.BN T.A3 (aa (dv 4) (aa (dv 1) af))))))))) (ar (aI jz)) aH)
  (ar (vm PassesOwn.never rfl (jU (ax oO (hr.mono ⋯) rfl T.BX T.Be T.BO (aa (dv 4) af))) (aG (i:=6) S.nd rfl (Or.inl rfl)) (ar (jh (kM (dv 2) (aw (aa (dv 6) (aa (bC (dv 5) ag) af))))))))))))
  (ar (aI jz))))),fun ds U Qd h=>A6 h⟩)
theorem mm:aZ ["thing","many"] ["thing","many"] (az cW):=by walk_at "s"
theorem kP(T:TX e)(fe:lV e):fP e:=by
 have S:=mm
 exact T.mL.okX S (fun ds U Xk h=>rD h) (fun cdv A outer s H E hr=>⟨cX,(gj (IB (i4 (dM (ax fe (hr.mono ⋯) rfl T.rF T.qE T.qN (aa (dv 0) (aa (dv 1) af))))) (gj (AN lQ rfl T.uG T.uD)) xg)),fun ds U Xk h=>kE h⟩)
theorem sA(T:TX e)(fe:lV e):mh e:=by
 have S:=mm
 exact T.mL.okD S (fun ds U Q h=>vp h) (fun cdv A outer s H E hr=>⟨i8,(ar (bo (i4 (dM (ax fe (hr.mono ⋯) rfl T.rF T.qE T.qN (aa (dv 0) (aa (dv 1) af))))) (ar dE) aH)),fun ds U Qd h=>sG h⟩)
theorem pA:aZ ["_law_plan_here","_law_letters","_law_texts"] ["_law_plan_here","_law_letters"] (az cx):=by walk_at "s"
theorem nR:bw e.P e.w e.K e.mg e.base CX0 1 e.t.bJ e.t.bW ["_law_plan_here","_law_letters"] (spD e.K (cS 0)):=
 ⟨fun vs H Q E h=>by obtain⟨ds,U,Qd,_,r,z,_⟩:=h;exact (xa z).elim,fun A outer s H args us vs Q E hr e0 hb hv h=>by obtain⟨ds,U,Qd,_,r,z,_⟩:=h;exact (xa z).elim⟩
theorem aN(T:TX e)(n k:Nat)(hk:1<=k) (bT:bw e.P e.w e.K e.mg e.base CX0 k e.t.bJ e.t.bW ["_law_plan_here","_law_letters"] (spD e.K (cS n))):bw e.P e.w e.K e.mg e.base CX0 (k+1) e.t.bJ e.t.bW ["_law_plan_here","_law_letters"] (spD e.K (cS (n+1))):=by
 have S:=pA
 exact T.rm.okD S (fun ds U Q h=>xG h) (fun cdv A outer s H E hr=>⟨gF n,(ai (bo (aE (bh hr.units) aO (aV (dv 0) ag) ak (aC _)) (ar (aI (Jk (dv 1) (aV (dv 0) ag)))) aH)
  (ai (bo (aE (bh hr.units) aO (aV (dv 0) ag) ak (aC _)) (ar (aI (fA ak (ax bT (hr.mono ∅) rfl T.eL T.eZ T.eW (aa (aV (dv 0) ag) (aa (dv 1) af)))))) aH)
  (ai (bo (aE (bh hr.units) aO (aV (dv 0) ag) ak (aC _)) (ar (aI (fA (fA (fA (fA (fA (pW rfl T.tK (aa (aV (dv 0) ag) af)) ak) (pW rfl T.tK (aa (aV (dv 0) ag) af))) ak) (ax bT (hr.mono ∅) rfl T.eL T.eZ T.eW (aa (aV (dv 0) ag) (aa (dv 1) af)))) ak))) aH)
  (ai (nN (i:=2) (N':=["_law_part","_law_letters"]) (cap:=[none,some 1]) S.nd rfl rfl rfl (B0 (aV (dv 0) ag)) (fun _ _ _=>(aG (i:=0) (show List.Nodup (["_law_part","_law_letters"]:List Str) by decide +kernel) rfl (Or.inl rfl))) (fun _ _ _=>eI) (fun _ _ _=>(ax bT (hr.mono ∅) rfl T.eL T.eZ T.eW (aa (dv 0) (aa (dv 1) af)))) rfl nofun rfl nofun (by walk_at "cl") (ft rfl) rfl (fG ⟨BW,trivial⟩))
  (ar (aI (fA (fA ak (Ai (aE (bh hr.units) aO (aV (dv 0) ag) ak (aC _)) (mJ ak (dv 2)) (mJ ak (dv 2)))) ak))))))),fun ds U Qd h=>pM n h⟩)
theorem qa(T:TX e):bw e.P e.w e.K e.mg e.base CX0 14 e.t.bJ e.t.bW ["_law_plan_here","_law_letters"] (spD e.K (cS 13)):=(aN T 12 13 ⋯  (aN T 11 12 ⋯  (aN T 10 11 ⋯  (aN T 9 10 ⋯  (aN T 8 9 ⋯  (aN T 7 8 ⋯  (aN T 6 7 ⋯  (aN T 5 6 ⋯  (aN T 4 5 ⋯  (aN T 3 4 ⋯  (aN T 2 3 ⋯  (aN T 1 2 ⋯  (aN T 0 1 ⋯  nR)))))))))))))
theorem yG:aZ ["plan","word","parts","inner"] ["plan"] (az fR):=by walk_at "s"
theorem uW:bw e.P e.w e.K e.mg e.base CX0 2 e.t.df e.t.dW ["plan"] (spD e.K (eY 0)):=
 ⟨fun vs H Q E h=>by obtain⟨ds,U,Qd,_,r,z,_⟩:=h;exact (Ab z).elim,fun A outer s H args us vs Q E hr e0 hb hv h=>by obtain⟨ds,U,Qd,_,r,z,_⟩:=h;exact (Ab z).elim⟩
theorem bp(T:TX e)(n k:Nat)(hk:2<=k)(aS:iy e)(eC:bw e.P e.w e.K e.mg e.base CX0 k e.t.df e.t.dW ["plan"] (spD e.K (eY n))):bw e.P e.w e.K e.mg e.base CX0 (k+1) e.t.df e.t.dW ["plan"] (spD e.K (eY (n+1))):=by
 have S:=yG
 exact T.Ak.okD S (fun ds U Q h=>zD h) (fun cdv A outer s H E hr=>⟨lP n,(ai (aQ (i:=1) S.nd rfl (Or.inl rfl) (aV (dv 0) ag))
  (ai (bo (aE (bh hr.units) aO (dv 1) ak (aC _)) (ar (aI (aV (qX rfl T.kO) (aV (dv 0) ag)))) aH)
  (ai (bo (aE (bh hr.units) aO (dv 1) ak (aC _)) (ar (aI (fA ak (ax eC (hr.mono ∅) rfl T.jS T.jX T.jR (aa (aV (dv 0) ag) af))))) aH)
  (ai (bo (aE (bh hr.units) aO (dv 1) ak (aC _)) (ar (aI (xc (jf (CH (ax aS (hr.mono ∅) rfl T.lL T.lM T.lN (aa (aV (dv 0) ag) af))) (jf ak (jf (CH (ax aS (hr.mono ∅) rfl T.lL T.lM T.lN (aa (aV (dv 0) ag) af))) (jf ak (jf (CH (ax eC (hr.mono ∅) rfl T.jS T.jX T.jR (aa (aV (dv 0) ag) af))) (jf ak FO))))))))) aH)
  (ai (nN (i:=2) (N':=["part"]) (cap:=[none]) S.nd rfl rfl rfl (B0 (aV (dv 0) ag)) (fun _ _ _=>(aG (i:=0) (show List.Nodup (["part"]:List Str) by decide +kernel) rfl (Or.inl rfl))) (fun _ _ _=>eI) (fun _ _ _=>(ax eC (hr.mono ∅) rfl T.jS T.jX T.jR (aa (dv 0) af))) rfl nofun rfl nofun (by walk_at "cl") (ft rfl) rfl (fG trivial))
  (ai (aQ (i:=3) S.nd rfl (Or.inl rfl) (Ai (aE (bh hr.units) aO (dv 1) ak (aC _)) (mJ ak (dv 2)) (mJ ak (dv 2))))
  (ar (aI (xc (jf ak (jf (CH (dv 3)) (jf ak FO)))))))))))),fun ds U Qd h=>xB n h⟩)
theorem yg(T:TX e)(aS:iy e):bw e.P e.w e.K e.mg e.base CX0 15 e.t.df e.t.dW ["plan"] (spD e.K (eY 13)):=(bp T 12 14 ⋯ aS (bp T 11 13 ⋯ aS (bp T 10 12 ⋯ aS (bp T 9 11 ⋯ aS (bp T 8 10 ⋯ aS (bp T 7 9 ⋯ aS (bp T 6 8 ⋯ aS (bp T 5 7 ⋯ aS (bp T 4 6 ⋯ aS (bp T 3 5 ⋯ aS (bp T 2 4 ⋯ aS (bp T 1 3 ⋯ aS (bp T 0 2 ⋯ aS uW)))))))))))))
theorem pf:aZ ["_law_bag_here","_law_plan_here","_law_many","_law_odd_here","_law_way","_law_at","_law_small"] ["_law_bag_here","_law_plan_here","_law_many"] (az cm):=by walk_at "s"
theorem nU:bw e.P e.w e.K e.mg e.base CX0 3 e.t.bK e.t.bV ["_law_bag_here","_law_plan_here","_law_many"] (spD e.K (dQ 0)):=
 ⟨fun vs H Q E h=>by obtain⟨ds,U,Qd,_,r,z,_⟩:=h;exact (Au z).elim,fun A outer s H args us vs Q E hr e0 hb hv h=>by obtain⟨ds,U,Qd,_,r,z,_⟩:=h;exact (Au z).elim⟩
theorem aR(T:TX e)(n k:Nat)(hk:3<=k)(bF:mz e)(aA:dy e)(aW:jb e)(cy:bw e.P e.w e.K e.mg e.base CX0 k e.t.bK e.t.bV ["_law_bag_here","_law_plan_here","_law_many"] (spD e.K (dQ n))):bw e.P e.w e.K e.mg e.base CX0 (k+1) e.t.bK e.t.bV ["_law_bag_here","_law_plan_here","_law_many"] (spD e.K (dQ (n+1))):=by
 have S:=pf
 exact T.rC.okD S (fun ds U Q h=>zy h) (fun cdv A outer s H E hr=>⟨gH n,(ai (aQ (i:=3) S.nd rfl (Or.inl rfl) (ax bF (hr.mono ∅) rfl T.B2 T.Bd T.Bi (aa (dv 0) af)))
  (ai (aQ (i:=4) S.nd rfl (Or.inl rfl) (ax aA (hr.mono ∅) rfl T.bx T.bz T.bA (aa (dv 0) (aa ag af))))
  (ai (bo (DW.dt (jH (aE (fE hr.units) aO (aV (dv 1) ag) ak (aC _)) (jg (aE n5 fF (dv 4) ag (aC _))))) (ai (bo (aE (EE hr.units) ER (aV (dv 1) ag) (bU (aa ak (aa ak af))) (by with_unfolding_all rfl)) (ai (aQ (i:=5) S.nd rfl (Or.inl rfl) (ax aA (hr.mono ∅) rfl T.bx T.bz T.bA (aa (dv 0) (aa (dH rfl T.fw (aa (aV (dv 1) ag) af)) af))))
  (ar (aI (aw (aa (aV (dv 1) ag) (aa (ax aW (hr.mono ∅) rfl T.uE T.vb T.tY (aa (aV (dv 1) ag) (aa (dv 5) (aa (ax cy (hr.mono ∅) rfl T.g8 T.gZ T.hE (aa (dv 0) (aa (aV (aV (dv 1) ag) (dv 5)) (aa (dv 2) af)))) af)))) af)))))) aH)
  (ar (aI (ix (mQ (dv 1) sQ (bS (qH ag))) (aw (aa (ax cy (hr.mono ∅) rfl T.g8 T.gZ T.hE (aa (dv 0) (aa (aV (dv 1) (qH ag)) (aa (dv 2) af)))) af)))))) aH)
  (ai (aQ (i:=6) S.nd rfl (Or.inl rfl) (bU (aa (aw (aa ak (aa (dv 2) af))) (aa (aw (aa ak (aa (qH ag) af))) (aa (aw (aa ak (aa jz af))) (aa (aw (aa ak af)) (aa (aw (aa ak (aa ag (aa ag af)))) (aa (bU (aa ak (aa ag af))) (aa (aw (aa ak (aa (dv 3) af))) (aa (dv 3) (aa (aw (aa ak (aa (dv 1) (aa (dv 1) af)))) (aa (aw (aa ak (aa (aw (aa (dv 1) af)) af))) (aa (aw (aa ak (aa (Hq (aw (aa (aw (aa ak (aa ag af))) af)) ag) af))) (aa (aw (aa ak (aa (bU (aa (dv 1) (aa (dv 1) af))) af))) (aa (aw (aa ak (aa (aw af) af))) (aa (aw (aa ak (aa (dv 1) af))) (aa (aw (aa ak (aa ag (aa ag (aa (dv 1) af))))) (aa (aw (aa ak (aa ag (aa (dv 3) (aa (dv 1) af))))) (aa (aw (aa ak (aa jz (aa ag (aa (dv 1) af))))) (aa (aw (aa ak (aa ag (aa (dv 1) af)))) (aa (aw (aa ak (aa ag (aa ag (aa ag (aa (dv 1) af)))))) (aa (aw (aa ak (aa (dv 1) af))) (aa (aw (aa ak (aa (dv 1) (aa (dv 1) af)))) (aa (aw (aa ak (aa (aw (aa (dv 1) (aa (dv 1) af))) af))) (aa (ix (dv 1) (aw (aa (dv 3) af))) (aa (xr rfl T.Bx (aa (dv 1) af)) (aa (ix (aw (aa (dv 3) af)) (mQ (dv 1) (bS ag) sQ)) (aa (aw (aa ak (aa (aw (aa (dv 1) (aa (dv 3) af))) af))) af))))))))))))))))))))))))))))
  (ar (aI (aV (dv 6) (ax aA (hr.mono ∅) rfl T.bx T.bz T.bA (aa (dv 0) (aa ag af)))))))))),fun ds U Qd h=>qy n h⟩)
theorem qA(T:TX e)(bF:mz e)(aA:dy e)(aW:jb e):bw e.P e.w e.K e.mg e.base CX0 15 e.t.bK e.t.bV ["_law_bag_here","_law_plan_here","_law_many"] (spD e.K (dQ 12)):=(aR T 11 14 ⋯ bF aA aW (aR T 10 13 ⋯ bF aA aW (aR T 9 12 ⋯ bF aA aW (aR T 8 11 ⋯ bF aA aW (aR T 7 10 ⋯ bF aA aW (aR T 6 9 ⋯ bF aA aW (aR T 5 8 ⋯ bF aA aW (aR T 4 7 ⋯ bF aA aW (aR T 3 6 ⋯ bF aA aW (aR T 2 5 ⋯ bF aA aW (aR T 1 4 ⋯ bF aA aW (aR T 0 3 ⋯ bF aA aW nU))))))))))))
theorem p5:aZ ["plan"] ["plan"] (az fK):=by walk_at "s"
theorem mR(T:TX e)(dj:fP e):iI e:=by
 have S:=p5
 exact T.rY.okX S (fun ds U Xk h=>wg h) (fun cdv A outer s H E hr=>⟨d6,(gj (Io (lZ dj (hr.mono ⋯) rfl T.mD T.mP T.nC lQ (aa (dv 0) (aa (dR (u:=.int 3) rfl T.lz ⟨_,rfl⟩ (fun _ _ _=>Rp.int 3)) af))))),fun ds U Xk h=>mZ h⟩)
theorem yE(T:TX e)(jC:mh e)(eC:yw e):oR e:=by
 have S:=p5
 exact T.rY.okD S (fun ds U Q h=>AB h) (fun cdv A outer s H E hr=>⟨lR,(ai (jh (ax jC (hr.mono ⋯) rfl T.mD T.mP T.nC (aa (dv 0) (aa (dR (u:=.int 3) rfl T.lz ⟨_,rfl⟩ (fun _ _ _=>Rp.int 3)) af))))
  (ar (aI (ax eC (hr.mono ⋯) rfl T.jS T.jX T.jR (aa (dv 0) af))))),fun ds U Qd h=>yZ h⟩)
theorem vN:aZ ["text","at","depth","first","parts","between","part"] ["text","at","depth"] (az eP):=by walk_at "s"
theorem sE(T:TX e)(n k:Nat)(hk:3<=k)(aP:fz e)(bH:bw e.P e.w e.K e.mg e.base CX0 k e.t.bQ e.t.bY ["text","at","depth"] (spD e.K (dm n))):bw e.P e.w e.K e.mg e.base CX0 (k+1) e.t.eO e.t.gD ["text","at","depth"] (spD e.K (mW n)):=by
 have S:=vN
 exact T.yf.okD S (fun ds U Q h=>xM h) (fun cdv A outer s H E hr=>⟨kr n,(ai (iu (ax bH (hr.mono ∅) rfl T.ey T.d9 T.dU (aa (dv 0) (aa (dv 1) (aa (dv 2) af)))) (dw (n:=2) rfl (aJ (aG (i:=3) S.nd rfl (Or.inl rfl)) (aJ (aG (i:=1) S.nd rfl (Or.inl rfl)) cg))))
  (ai (aQ (i:=4) S.nd rfl (Or.inl rfl) (ql (aa (dv 3) af)))
  (ai (aQ (i:=5) S.nd rfl (Or.inl rfl) (fI (dv 0) (bS (dv 1)) (bS (bC (dv 1) ag))))
  (ai (bo (DW.dt (jH (aE (fE hr.units) aO (dv 5) ak (aC _)) (jg (aE (fE hr.units) aO (dv 5) ak (aC _))))) (ar dE) aH)
  (ai (tP PassesOwn.never (aE (bh hr.units) aO (fI (dv 0) (bS (dv 1)) (bS (bC (dv 1) ag))) (dv 5) (aC _)) (ai (iu (ax bH (hr.mono ∅) rfl T.ey T.d9 T.dU (aa (dv 0) (aa (bC (dv 1) ag) (aa (dv 2) af)))) (dw (n:=2) rfl (aJ (aG (i:=6) S.nd rfl (Or.inl rfl)) (aJ (aG (i:=1) S.nd rfl (Or.inl rfl)) cg))))
  (ar (jh (kM (dv 4) (dv 6))))))
  (ai (jh (ax aP (hr.mono ∅) rfl T.pb T.pL T.oX (aa (dv 0) (aa (dv 1) (aa ak af)))))
  (ar (aI (aw (aa (aw (aa (Ai (aE (bh hr.units) aO (dv 5) ak (aC _)) ak ak) (aa (AE rfl T.nG (aa (dv 4) af)) af))) (aa (bC (dv 1) ag) af))))))))))),fun ds U Qd h=>wc n h⟩)
theorem pH:aZ ["text","at","depth","columns","rows","plan"] ["text","at","depth"] (az fV):=by walk_at "s"
theorem mB(T:TX e)(aD:cL e)(cM:ff e):iG e:=by
 have S:=pH
 exact T.rV.okX S (fun ds U Xk h=>vW h) (fun cdv A outer s H E hr=>⟨d7,(gK (iu (ax aD (hr.mono ⋯) rfl T.eR T.eX T.fb (aa (dv 0) (aa (dv 1) (aa ak af)))) (dw (n:=2) rfl (aJ (aG (i:=3) S.nd rfl (Or.inl rfl)) (aJ (aG (i:=1) S.nd rfl (Or.inl rfl)) cg))))
  (gj (FN (lZ cM (hr.mono ⋯) rfl T.eR T.eX T.fb lQ (aa (dv 0) (aa (dv 1) (aa ak af)))) (dw (n:=2) rfl (aJ (aG (i:=4) S.nd rfl (Or.inl rfl)) (aJ (aG (i:=1) S.nd rfl (Or.inl rfl)) cg)))))),fun ds U Xk h=>nA h⟩)
theorem tW(T:TX e)(n k:Nat)(hk:3<=k)(aD:cL e)(aP:fz e)(bH:bw e.P e.w e.K e.mg e.base CX0 k e.t.bQ e.t.bY ["text","at","depth"] (spD e.K (dm n))):bw e.P e.w e.K e.mg e.base CX0 (k+1) e.t.fM e.t.iD ["text","at","depth"] (spD e.K (pS n)):=by
 have S:=pH
 exact T.rV.okD S (fun ds U Q h=>zd h) (fun cdv A outer s H E hr=>⟨kU n,(ai (iu (ax aD (hr.mono ∅) rfl T.eR T.eX T.fb (aa (dv 0) (aa (dv 1) (aa ak af)))) (dw (n:=2) rfl (aJ (aG (i:=3) S.nd rfl (Or.inl rfl)) (aJ (aG (i:=1) S.nd rfl (Or.inl rfl)) cg))))
  (ai (iu (ax aD (hr.mono ∅) rfl T.eR T.eX T.fb (aa (dv 0) (aa (dv 1) (aa ak af)))) (dw (n:=2) rfl (aJ (aG (i:=4) S.nd rfl (Or.inl rfl)) (aJ (aG (i:=1) S.nd rfl (Or.inl rfl)) cg))))
  (ai (iu (ax bH (hr.mono ∅) rfl T.ey T.d9 T.dU (aa (dv 0) (aa (dv 1) (aa (dv 2) af)))) (dw (n:=2) rfl (aJ (aG (i:=5) S.nd rfl (Or.inl rfl)) (aJ (aG (i:=1) S.nd rfl (Or.inl rfl)) cg))))
  (ai (jh (ax aP (hr.mono ∅) rfl T.pb T.pL T.oX (aa (dv 0) (aa (dv 1) (aa ak af)))))
  (ar (aI (aw (aa (aw (aa ak (aa (dv 3) (aa (dv 4) (aa (dv 5) af))))) (aa (bC (dv 1) ag) af))))))))),fun ds U Qd h=>yc n h⟩)
theorem qz:aZ ["text","at","depth","sign","plan","end"] ["text","at","depth"] (az fT):=by walk_at "s"
theorem nu(T:TX e)(fk:iG e):iN e:=by
 have S:=qz
 have bH:bw e.P e.w e.K e.mg e.base CX0 0 e.t.bQ e.t.bY ["text","at","depth"] (spD e.K FX):=IH
 have kZ:bw e.P e.w e.K e.mg e.base CX0 0 e.t.eO e.t.gD ["text","at","depth"] (spD e.K FX):=IH
 exact T.rX.okX S (fun ds U Xk h=>vX h) (fun cdv A outer s H E hr=>⟨dS,(gK (bo (aE nZ fF (dv 2) (dR (u:=.int 12) rfl T.kq ⟨_,rfl⟩ (fun _ _ _=>Rp.int 12)) (aC _)) (ar dE) aH)
  (gK (aQ (i:=3) S.nd rfl (Or.inl rfl) (fI (dv 0) (bS (dv 1)) (bS (bC (dv 1) ag))))
  (gK (bo (aE (GD hr.units) Gq (dv 3) (qX rfl T.kO) (by with_unfolding_all rfl)) (ar (aI (aw (aa (aw (aa ak (aa (zB rfl T.kO (dv 3)) af))) (aa (bC (dv 1) ag) af))))) aH)
  (gK (bo (aE (bh hr.units) aO (dv 3) ak (aC _)) (ai (iu (ax bH (hr.mono ⋯) rfl T.ey T.d9 T.dU (aa (dv 0) (aa (bC (dv 1) ag) (aa (bC (dv 2) ag) af)))) (dw (n:=2) rfl (aJ (aG (i:=4) S.nd rfl (Or.inl rfl)) (aJ (aG (i:=5) S.nd rfl (Or.inl rfl)) cg))))
  (ar (aI (aw (aa (aw (aa ak (aa (dv 4) af))) (aa (dv 5) af)))))) aH)
  (gK (bo (aE (bh hr.units) aO (dv 3) ak (aC _)) (ar (aI (ax kZ (hr.mono ⋯) rfl T.oZ T.o9 T.p6 (aa (dv 0) (aa (bC (dv 1) ag) (aa (bC (dv 2) ag) af)))))) aH)
  (gj (Kx (lZ fk (hr.mono ⋯) rfl T.rN T.se T.rQ lQ (aa (dv 0) (aa (dv 1) (aa (bC (dv 2) ag) af))))))))))),fun ds U Xk h=>mV h⟩)
theorem va:bw e.P e.w e.K e.mg e.base CX0 3 e.t.bQ e.t.bY ["text","at","depth"] (spD e.K (dm 0)):=
 ⟨fun vs H Q E h=>by obtain⟨ds,U,Qd,_,r,z,_⟩:=h;exact (zJ z).elim,fun A outer s H args us vs Q E hr e0 hb hv h=>by obtain⟨ds,U,Qd,_,r,z,_⟩:=h;exact (zJ z).elim⟩
theorem bq(T:TX e)(n k:Nat)(hk:3<=k)(aP:fz e)(aD:cL e)(bH:bw e.P e.w e.K e.mg e.base CX0 k e.t.bQ e.t.bY ["text","at","depth"] (spD e.K (dm n))):bw e.P e.w e.K e.mg e.base CX0 (k+2) e.t.bQ e.t.bY ["text","at","depth"] (spD e.K (dm (n+1))):=by
 have S:=qz
 have kZ:=sE T n k hk aP bH
 have zk:=tW T n k hk aD aP bH
 exact T.rX.okD S (fun ds U Q h=>AK h) (fun cdv A outer s H E hr=>⟨lU n,(ai (bo (aE nZ fF (dv 2) (dR (u:=.int 12) rfl T.kq ⟨_,rfl⟩ (fun _ _ _=>Rp.int 12)) (aC _)) (ar dE) aH)
  (ai (aQ (i:=3) S.nd rfl (Or.inl rfl) (fI (dv 0) (bS (dv 1)) (bS (bC (dv 1) ag))))
  (ai (bo (aE (GD hr.units) Gq (dv 3) (qX rfl T.kO) (by with_unfolding_all rfl)) (ar (aI (aw (aa (aw (aa ak (aa (zB rfl T.kO (dv 3)) af))) (aa (bC (dv 1) ag) af))))) aH)
  (ai (bo (aE (bh hr.units) aO (dv 3) ak (aC _)) (ai (iu (ax bH (hr.mono ∅) rfl T.ey T.d9 T.dU (aa (dv 0) (aa (bC (dv 1) ag) (aa (bC (dv 2) ag) af)))) (dw (n:=2) rfl (aJ (aG (i:=4) S.nd rfl (Or.inl rfl)) (aJ (aG (i:=5) S.nd rfl (Or.inl rfl)) cg))))
  (ar (aI (aw (aa (aw (aa ak (aa (dv 4) af))) (aa (dv 5) af)))))) aH)
  (ai (bo (aE (bh hr.units) aO (dv 3) ak (aC _)) (ar (aI (ax kZ (hr.mono ∅) rfl T.oZ T.o9 T.p6 (aa (dv 0) (aa (bC (dv 1) ag) (aa (bC (dv 2) ag) af)))))) aH)
  (ar (aI (ax zk (hr.mono ∅) rfl T.rN T.se T.rQ (aa (dv 0) (aa (dv 1) (aa (bC (dv 2) ag) af))))))))))),fun ds U Qd h=>yY n h⟩)
theorem xE(T:TX e)(aP:fz e)(aD:cL e):bw e.P e.w e.K e.mg e.base CX0 29 e.t.bQ e.t.bY ["text","at","depth"] (spD e.K (dm 13)):=(bq T 12 27 ⋯ aP aD (bq T 11 25 ⋯ aP aD (bq T 10 23 ⋯ aP aD (bq T 9 21 ⋯ aP aD (bq T 8 19 ⋯ aP aD (bq T 7 17 ⋯ aP aD (bq T 6 15 ⋯ aP aD (bq T 5 13 ⋯ aP aD (bq T 4 11 ⋯ aP aD (bq T 3 9 ⋯ aP aD (bq T 2 7 ⋯ aP aD (bq T 1 5 ⋯ aP aD (bq T 0 3 ⋯ aP aD va)))))))))))))
theorem pI:aZ ["text","plan","end"] ["text"] (az fX):=by walk_at "s"
theorem nB(T:TX e)(fj:iN e):iK e:=by
 have S:=pI
 exact T.rT.okX S (fun ds U Xk h=>vv h) (fun cdv A outer s H E hr=>⟨dZ,(gK (bo (i4 (dM (jr (xk _) rfl T.av rfl T.tK PyProof.Rows.Boot.«str» (dv 0)))) (ar dE) aH)
  (gj (FN (lZ fj (hr.mono ⋯) rfl T.ey T.d9 T.dU lQ (aa (dv 0) (aa ag (aa ag af)))) (dw (n:=2) rfl (aJ (aG (i:=1) S.nd rfl (Or.inl rfl)) (aJ (aG (i:=2) S.nd rfl (Or.inl rfl)) cg)))))),fun ds U Xk h=>mY h⟩)
theorem xy(T:TX e)(bH:yF e)(fe:lV e):oS e:=by
 have S:=pI
 exact T.rT.okD S (fun ds U Q h=>zG h) (fun cdv A outer s H E hr=>⟨kX,(ai (bo (i4 (dM (jr (xk _) rfl T.av rfl T.tK PyProof.Rows.Boot.«str» (dv 0)))) (ar dE) aH)
  (ai (iu (ax bH (hr.mono ⋯) rfl T.ey T.d9 T.dU (aa (dv 0) (aa ag (aa ag af)))) (dw (n:=2) rfl (aJ (aG (i:=1) S.nd rfl (Or.inl rfl)) (aJ (aG (i:=2) S.nd rfl (Or.inl rfl)) cg))))
  (ai (bo (DW.dt (gQ (aE (fE hr.units) aO (dv 2) (yR rfl T.fw (aa (dv 0) af)) (aC _)) (gO (i4 (dM (ax fe (hr.mono ⋯) rfl T.rF T.qE T.qN (aa (dv 1) (aa (dR (u:=.int 3) rfl T.lz ⟨_,rfl⟩ (fun _ _ _=>Rp.int 3)) af)))))))) (ar dE) aH)
  (ar (aI (dv 1)))))),fun ds U Qd h=>ym h⟩)
theorem dD:aZ ["_law_deed","e","_law_some","_law_names"] ["_law_deed"] (az cT):=by walk_at "s"
theorem BF(T:TX e):uP e:=by
 have S:=dD
 exact EL (k:=30) T.jD dD rfl rfl rfl rfl T.o6 T.uV ⋯ ⋯ ⋯ (fun _=>rfl) (fun cdv A outer s H ea oe hc hr=>(ai (aQ (i:=2) S.nd rfl (Or.inl rfl) (bU (aa (aw (aa ak (aa (cb (ea:=ea) (oe:=oe) T.cI (mem_cons_self) hc T.iU rfl T.av rfl T.Af (dv 1)) af))) (aa (aw (aa ak (aa (cb (ea:=ea) (oe:=oe) T.cI (mem_cons_self) hc T.gA rfl T.av rfl T.vq (dv 1)) af))) (aa (aw (aa ak (aa (cb (ea:=ea) (oe:=oe) T.cI (mem_cons_self) hc T.gi rfl T.av rfl T.tN (dv 1)) af))) (aa (aw (aa ak (aa (cb (ea:=ea) (oe:=oe) T.cI (mem_cons_self) hc T.iR rfl T.av rfl T.zf (dv 1)) af))) (aa (aw (aa ak (aa (cb (ea:=ea) (oe:=oe) T.cI (mem_cons_self) hc T.ju rfl T.av rfl T.C5 (dv 1)) af))) (aa (aw (aa ak (aa (cb (ea:=ea) (oe:=oe) T.cI (mem_cons_self) hc T.g9 rfl T.av rfl T.wO (dv 1)) af))) (aa (aw (aa ak (aa (cb (ea:=ea) (oe:=oe) T.cI (mem_cons_self) hc T.iS rfl T.av rfl T.uG (dv 1)) af))) (aa (aw (aa ak (aa (cb (ea:=ea) (oe:=oe) T.cI (mem_cons_self) hc T.iY rfl T.av rfl T.AA (dv 1)) af))) (aa (aw (aa ak (aa (cb (ea:=ea) (oe:=oe) T.cI (mem_cons_self) hc T.jG rfl T.av rfl T.Dp (dv 1)) af))) (aa (aw (aa ak (aa (cb (ea:=ea) (oe:=oe) T.cI (mem_cons_self) hc T.iZ rfl T.av rfl T.u5 (dv 1)) af))) (aa (aw (aa ak (aa (cb (ea:=ea) (oe:=oe) T.cI (mem_cons_self) hc T.gm rfl T.av rfl T.uA (dv 1)) af))) (aa (aw (aa ak (aa (cb (ea:=ea) (oe:=oe) T.cI (mem_cons_self) hc T.i5 rfl T.av rfl T.zT (dv 1)) af))) (aa (aw (aa ak (aa (cb (ea:=ea) (oe:=oe) T.cI (mem_cons_self) hc T.hZ rfl T.av rfl T.w9 (dv 1)) af))) af)))))))))))))))
  (ai (nN (i:=3) (N':=["_law_name","_law_is_so"]) (cap:=[none,none]) S.nd rfl rfl rfl (jU (dv 2)) (fun _ _ _=>(dw (n:=2) rfl (aJ (aG (i:=0) (show List.Nodup (["_law_name","_law_is_so"]:List Str) by decide +kernel) rfl (Or.inl rfl)) (aJ (aG (i:=1) (show List.Nodup (["_law_name","_law_is_so"]:List Str) by decide +kernel) rfl (Or.inl rfl)) cg)))) (fun _ _ _=>(AZ (dM (dv 1)))) (fun _ _ _=>(dv 0)) rfl nofun rfl nofun (by walk_at "cl") (ft rfl) rfl (fG trivial))
  (ai (bo (DW.dt (jH (aE (bh hr.units) aO (dH rfl T.fw (aa (dv 3) af)) ag (aC _)) (jg (dM (Ci (ea:=ea) (oe:=oe) (T:="ValueError") T.cI (mem_cons_self) hc T.oj rfl T.av rfl T.pD PyProof.Rows.Boot.«ValueError» (dv 1)))))) (ar (aI (aV (dv 3) ag))) aH)
  (ar (aI ak)))))) (fun ea fa U Qd h=>lp h)
theorem Bq(T:TX e):uU e:=by
 have S:=dD
 exact EL (k:=30) T.jD dD rfl rfl rfl rfl T.o6 T.tV ⋯ ⋯ ⋯ (fun _=>rfl) (fun cdv A outer s H ea oe hc hr=>(ai (aQ (i:=2) S.nd rfl (Or.inl rfl) (bU (aa (aw (aa ak (aa (cb (ea:=ea) (oe:=oe) T.cJ (mem_cons_self) hc T.i7 rfl T.av rfl T.Af (dv 1)) af))) (aa (aw (aa ak (aa (cb (ea:=ea) (oe:=oe) T.cJ (mem_cons_self) hc T.gM rfl T.av rfl T.vq (dv 1)) af))) (aa (aw (aa ak (aa (cb (ea:=ea) (oe:=oe) T.cJ (mem_cons_self) hc T.gq rfl T.av rfl T.tN (dv 1)) af))) (aa (aw (aa ak (aa (cb (ea:=ea) (oe:=oe) T.cJ (mem_cons_self) hc T.jc rfl T.av rfl T.zf (dv 1)) af))) (aa (aw (aa ak (aa (cb (ea:=ea) (oe:=oe) T.cJ (mem_cons_self) hc T.jI rfl T.av rfl T.C5 (dv 1)) af))) (aa (aw (aa ak (aa (cb (ea:=ea) (oe:=oe) T.cJ (mem_cons_self) hc T.hW rfl T.av rfl T.wO (dv 1)) af))) (aa (aw (aa ak (aa (cb (ea:=ea) (oe:=oe) T.cJ (mem_cons_self) hc T.ja rfl T.av rfl T.uG (dv 1)) af))) (aa (aw (aa ak (aa (cb (ea:=ea) (oe:=oe) T.cJ (mem_cons_self) hc T.iT rfl T.av rfl T.AA (dv 1)) af))) (aa (aw (aa ak (aa (cb (ea:=ea) (oe:=oe) T.cJ (mem_cons_self) hc T.jt rfl T.av rfl T.Dp (dv 1)) af))) (aa (aw (aa ak (aa (cb (ea:=ea) (oe:=oe) T.cJ (mem_cons_self) hc T.iP rfl T.av rfl T.u5 (dv 1)) af))) (aa (aw (aa ak (aa (cb (ea:=ea) (oe:=oe) T.cJ (mem_cons_self) hc T.gB rfl T.av rfl T.uA (dv 1)) af))) (aa (aw (aa ak (aa (cb (ea:=ea) (oe:=oe) T.cJ (mem_cons_self) hc T.iQ rfl T.av rfl T.zT (dv 1)) af))) (aa (aw (aa ak (aa (cb (ea:=ea) (oe:=oe) T.cJ (mem_cons_self) hc T.iw rfl T.av rfl T.w9 (dv 1)) af))) af)))))))))))))))
  (ai (nN (i:=3) (N':=["_law_name","_law_is_so"]) (cap:=[none,none]) S.nd rfl rfl rfl (jU (dv 2)) (fun _ _ _=>(dw (n:=2) rfl (aJ (aG (i:=0) (show List.Nodup (["_law_name","_law_is_so"]:List Str) by decide +kernel) rfl (Or.inl rfl)) (aJ (aG (i:=1) (show List.Nodup (["_law_name","_law_is_so"]:List Str) by decide +kernel) rfl (Or.inl rfl)) cg)))) (fun _ _ _=>(AZ (dM (dv 1)))) (fun _ _ _=>(dv 0)) rfl nofun rfl nofun (by walk_at "cl") (ft rfl) rfl (fG trivial))
  (ai (bo (DW.dt (jH (aE (bh hr.units) aO (dH rfl T.fw (aa (dv 3) af)) ag (aC _)) (jg (dM (Ci (ea:=ea) (oe:=oe) (T:="ValueError") T.cJ (mem_cons_self) hc T.oI rfl T.av rfl T.pD PyProof.Rows.Boot.«ValueError» (dv 1)))))) (ar (aI (aV (dv 3) ag))) aH)
  (ar (aI ak)))))) (fun ea fa U Qd h=>ly h)
theorem MU(T:TX e):Mw e:=Hb T.jD dD rfl rfl ⋯ ⋯ (fun _=>rfl)
theorem rh:aZ ["_law_thing","_law_many","_law_deep","_law_word","_law_size","_law_parts","_law_counts"] ["_law_thing","_law_many","_law_deep"] (az cH):=by walk_at "s"
theorem oE:bw e.P e.w e.K e.mg e.base CX0 2 e.t.bP e.t.cf ["_law_thing","_law_many","_law_deep"] (spD e.K (dG 0)):=
 ⟨fun vs H Q E h=>by obtain⟨ds,U,Qd,_,r,z,_⟩:=h;exact (uH z).elim,fun A outer s H args us vs Q E hr e0 hb hv h=>by obtain⟨ds,U,Qd,_,r,z,_⟩:=h;exact (uH z).elim⟩
theorem aq(T:TX e)(n k:Nat)(hk:2<=k)(au:ia e)(dF:bw e.P e.w e.K e.mg e.base CX0 k e.t.bP e.t.cf ["_law_thing","_law_many","_law_deep"] (spD e.K (dG n))):bw e.P e.w e.K e.mg e.base CX0 (k+1) e.t.bP e.t.cf ["_law_thing","_law_many","_law_deep"] (spD e.K (dG (n+1))):=by
 have S:=rh
 exact T.sv.okD S (fun ds U Q h=>vz h) (fun cdv A outer s H E hr=>⟨gU n,(ai (bo (DW.dt (gQ (aE (bh hr.units) aO (dv 2) ag (aC _)) (gQ (i4 (dM (jr (kit_tuple _) rfl T.av rfl T.nG PyProof.Rows.Boot.«tuple» (dv 0)))) (gO (aE n5 fF (dH rfl T.fw (aa (dv 0) af)) ag (aC _)))))) (ar (aI ag)) aH)
  (ai (Jr (i:=3) (j:=4) rfl S.nd rfl rfl ⋯ rfl rfl (aa (aV (dv 0) ag) (aa (dH rfl T.fw (aa (dv 0) af)) af)) rfl)
  (ai (bo (aE (bh hr.units) aO (dv 3) ak (aC _)) (ar (aI (tL rfl T.wx (aa (i3 (ik (bh hr.units) aO (dv 4) ag (aC _)) (i3 (ax au (hr.mono ∅) rfl T.mf T.md T.mj (aa (aV (dv 0) ag) af)) (ny (AU zK fF n5 fF ag (aV (dv 0) ag) (dv 1))))) af)))) aH)
  (ai (aQ (i:=5) S.nd rfl (Or.inl rfl) (bU af))
  (ai (bo (DW.dt (jH (aE (bh hr.units) aO (dv 3) ak (aC _)) (jg (aE (bh hr.units) aO (dv 4) ag (aC _))))) (ar (aQ (i:=5) S.nd rfl (Or.inl rfl) (bU (aa (aV (dv 0) ag) af)))) (ar (bo (DW.dt (jH (aE (EE hr.units) ER (dv 3) (bU (aa ak (aa ak af))) (by with_unfolding_all rfl)) (jH (aE (bh hr.units) aO (dv 4) ag (aC _)) (jg (dM (jr (kit_tuple _) rfl T.av rfl T.nG PyProof.Rows.Boot.«tuple» (aV (dv 0) ag))))))) (ar (aQ (i:=5) S.nd rfl (Or.inl rfl) (Ai (GI zK fF zK fF ag (dH rfl T.fw (aa (aV (dv 0) ag) af)) ag) (xr rfl T.Bx (aa (aV (dv 0) ag) af)) (bU af)))) (ar (bo (DW.dt (jH (aE (bh hr.units) aO (dv 3) ak (aC _)) (jH (aE (bh hr.units) aO (dv 4) ag (aC _)) (jg (dM (Bo rfl rfl T.E2 (aa (x4 (N':=["_law_one"]) (cap:=[none]) rfl (B0 (mQ (dv 0) (bS ag) (bS ag))) (fun _ _ _=>(aG (i:=0) (show List.Nodup (["_law_one"]:List Str) by decide +kernel) rfl (Or.inl rfl))) (fun _ _ _=>eI) (fun _ _ _=>(i3 (ax au (hr.mono ∅) rfl T.mf T.md T.mj (aa (dv 0) af)) (ny (ik nZ fF (dv 0) ag (aC _))))) rfl nofun rfl nofun (by walk_at "cl") (ft rfl) rfl (fG trivial)) af))))))) (ar (aQ (i:=5) S.nd rfl (Or.inl rfl) (bU (aa (aV (dv 0) ag) af)))) aH)))))
  (ai (nN (i:=6) (N':=["_law_part","_law_many","_law_deep"]) (cap:=[none,some 1,some 2]) S.nd rfl rfl rfl (jU (dv 5)) (fun _ _ _=>(aG (i:=0) (show List.Nodup (["_law_part","_law_many","_law_deep"]:List Str) by decide +kernel) rfl (Or.inl rfl))) (fun _ _ _=>eI) (fun _ _ _=>(ax dF (hr.mono ∅) rfl T.ml T.ma T.mn (aa (dv 0) (aa (dv 1) (aa (Er (dv 2) ag) af))))) rfl nofun rfl nofun (by walk_at "cl") (ft rfl) rfl (fG ⟨BW,⟨BW,trivial⟩⟩))
  (ai (bo (DW.dt (gQ (aE (bh hr.units) aO (dv 6) (bU af) (aC _)) (gO (aE (bh hr.units) aO (HL rfl rfl T.EO (aa (dv 6) af)) ag (aC _))))) (ar (aI ag)) aH)
  (ar (aI (bC ag (Fy rfl rfl T.Iz (aa (dv 6) af)))))))))))),fun ds U Qd h=>qG n h⟩)
theorem qO(T:TX e)(au:ia e):bw e.P e.w e.K e.mg e.base CX0 33 e.t.bP e.t.cf ["_law_thing","_law_many","_law_deep"] (spD e.K (dG 31)):=(aq T 30 32 ⋯ au (aq T 29 31 ⋯ au (aq T 28 30 ⋯ au (aq T 27 29 ⋯ au (aq T 26 28 ⋯ au (aq T 25 27 ⋯ au (aq T 24 26 ⋯ au (aq T 23 25 ⋯ au (aq T 22 24 ⋯ au (aq T 21 23 ⋯ au (aq T 20 22 ⋯ au (aq T 19 21 ⋯ au (aq T 18 20 ⋯ au (aq T 17 19 ⋯ au (aq T 16 18 ⋯ au (aq T 15 17 ⋯ au (aq T 14 16 ⋯ au (aq T 13 15 ⋯ au (aq T 12 14 ⋯ au (aq T 11 13 ⋯ au (aq T 10 12 ⋯ au (aq T 9 11 ⋯ au (aq T 8 10 ⋯ au (aq T 7 9 ⋯ au (aq T 6 8 ⋯ au (aq T 5 7 ⋯ au (aq T 4 6 ⋯ au (aq T 3 5 ⋯ au (aq T 2 4 ⋯ au (aq T 1 3 ⋯ au (aq T 0 2 ⋯ au oE)))))))))))))))))))))))))))))))
theorem pE:aZ ["_law_thing","_law_many"] ["_law_thing","_law_many"] (az cu):=by walk_at "s"
theorem qh(T:TX e)(dF:qP e):gy e:=by
 have S:=pE
 exact T.rk.okD S (fun ds U Q h=>vO h) (fun cdv A outer s H E hr=>⟨gz,(ar (aI (AU n5 fF zK fF ag (ax dF (hr.mono ⋯) rfl T.ml T.ma T.mn (aa (dv 0) (aa (dv 1) (aa ag af)))) ag))),fun ds U Qd h=>oW h⟩)
theorem qo:aZ ["_law_bag_here","_law_plan_here","_law_many","_law_thing"] ["_law_bag_here","_law_plan_here","_law_many"] (az cq):=by walk_at "s"
theorem pk(T:TX e)(cy:qm e)(ck:gy e):j9 e:=by
 have S:=qo
 exact T.rG.okD S (fun ds U Q h=>Ah h) (fun cdv A outer s H E hr=>⟨gu,(ai (aQ (i:=3) S.nd rfl (Or.inl rfl) (ax cy (hr.mono ⋯) rfl T.g8 T.gZ T.hE (aa (dv 0) (aa (dv 1) (aa (dv 2) af)))))
  (ar (aI (aV (bU (aa (dv 3) (aa (aw (aa ak (aa (dv 2) af))) af))) (tL rfl T.wx (aa (ax ck (hr.mono ⋯) rfl T.kR T.kL T.kS (aa (dv 3) (aa (dv 2) af))) af)))))),fun ds U Qd h=>pC h⟩)
theorem JI:aZ ["_law_script","_law_ahead","_law_k","_law_bag_here","_law_turn","_law_plan_here","_law_text","_law_told","_law_thing","_law_wide","_law_name"] ["_law_script"] (az n6):=by walk_at "s"
theorem Lb(T:TX e)(oM:rW e)(mG:qb e)(aA:dy e)(iH:oR e)(bT:p7 e)(d5:oS e)(ck:gy e)(gY:j9 e)(qB:uP e)(fq:iI e)(qR:uU e)(fu:iK e)(GRN:Mw e):E4 e:=by
 have S:=JI
 exact T.Lz.Na S (fun ds U Q h=>DD h) (fun cdv hcv A outer s H E hr=>⟨BE,(ai (aQ (i:=1) S.nd rfl (Or.inl rfl) (ql af))
  (ai (vm PassesOwn.never rfl (o5 rfl T.pJ (aa (Lg rfl rfl T.ID (aa ag (aa (EB rfl rfl T.EO (aa ag (aa (dH rfl T.fw (aa (dv 0) af)) af))) af))) af)) (aG (i:=2) S.nd rfl (Or.inl rfl)) (ai (aQ (i:=3) S.nd rfl (Or.inl rfl) (ax oM (hr.mono ⋯) rfl T.A4 T.Br T.BH (aa (dv 0) (aa (dv 2) af))))
  (ar (vm PassesOwn.never rfl (o5 rfl T.pJ (aa ag af)) (aG (i:=4) S.nd rfl (Or.inl rfl)) (ai (aQ (i:=5) S.nd rfl (Or.inl rfl) (ax mG (hr.mono ⋯) rfl T.AW T.AF T.zl (aa (dv 3) (aa (ix ag (ax aA (hr.mono ⋯) rfl T.bx T.bz T.bA (aa (dv 3) (aa ag af)))) af))))
  (ai (aQ (i:=6) S.nd rfl (Or.inr rfl) (ax iH (hr.mono ⋯) rfl T.jQ T.jV T.jY (aa (dv 5) af)))
  (ai (bo (DW.dt (gQ (i4 (dM (jr (xk _) rfl T.av rfl T.tK PyProof.Rows.Boot.«str» (dv 6)))) (gO (aE (fE hr.units) aO (dv 6) (ax bT (hr.mono ⋯) rfl T.eL T.eZ T.eW (aa (dv 5) (aa ak af))) (aC _))))) (ar (aI jz)) aH)
  (ai (aQ (i:=7) S.nd rfl (Or.inl rfl) (ax d5 (hr.mono ⋯) rfl T.fN T.gb T.fO (aa (dv 6) af)))
  (ai (bo (DW.dt (gQ (i4 (dM (ax ck (hr.mono ⋯) rfl T.kR T.kL T.kS (aa (dv 7) (aa ag af))))) (gO (aE (fE hr.units) aO (dv 7) (dv 5) (aC _))))) (ar (aI jz)) aH)
  (ai (jh (kM (dv 1) (aw (aa (dv 5) (aa (dv 6) af)))))
  (ai (aQ (i:=8) S.nd rfl (Or.inr rfl) (ax gY (hr.mono ⋯) rfl T.qS T.qM T.rp (aa (dv 3) (aa (dv 5) (aa ag af)))))
  (ar (bo (aE (fE hr.units) aO (wW (N':=(["_law_thing"]:List Str)) (cap:=[some 8]) qB (hr.mono ⋯) rfl T.jB T.jA T.jF T.FD (hcv.symm.trans T.Bh) rfl ⋯ (fun A' outer' s' H' fa c1 E hrL=>(lZ fq (hrL.mono ⋯) rfl T.jQ T.jV T.jY Dq (aa (dv 0) af))) rfl rfl (fun _ _ _=>rfl) rfl rfl rfl nofun (by walk_at "cl") (ft rfl) rfl (sO ⟨FA,trivial⟩)) ak (aC _)) (ar (aI jz)) aH)))))))))))))
  (ai (vm PassesOwn.never rfl (jU (bU (aa (ke ag ag) (aa (Er (ke ag ag) ag) (aa (ke ag ag) (aa (ix (ke ag ag) ag) af)))))) (aG (i:=9) S.nd rfl (Or.inl rfl)) (ai (aQ (i:=5) S.nd rfl (Or.inl rfl) (aw (aa ak (aa ag (aa (dv 9) (aa (aw (aa ak (aa ag af))) af))))))
  (ai (aQ (i:=6) S.nd rfl (Or.inr rfl) (ax iH (hr.mono ⋯) rfl T.jQ T.jV T.jY (aa (dv 5) af)))
  (ai (bo (aE (fE hr.units) aO (dv 6) (fA (fA ak (pW rfl T.tK (aa (dv 9) af))) ak) (aC _)) (ar (aI jz)) aH)
  (ai (aQ (i:=10) S.nd rfl (Or.inl rfl) (JO (wW (N':=(["_law_text"]:List Str)) (cap:=[some 6]) qR (hr.mono ⋯) rfl T.jB T.jA T.jF T.FD (hcv.symm.trans T.Bh) rfl ⋯ (fun A' outer' s' H' fa c1 E hrL=>(lZ fu (hrL.mono ⋯) rfl T.fN T.gb T.fO Dq (aa (dv 0) af))) rfl rfl (fun _ _ _=>rfl) rfl rfl rfl nofun (by walk_at "cl") (ft rfl) rfl (sO ⟨FA,trivial⟩)) (HN (N':=(["_law_text"]:List Str)) (cap:=[some 6]) GRN (hr.mono ⋯) rfl T.jB T.jA T.jF T.FD (hcv.symm.trans T.Bh) rfl ⋯ (fun A' outer' s' H' fa c1 E hrL=>(ax d5 (hrL.mono ⋯) rfl T.fN T.gb T.fO (aa (dv 0) af))) rfl rfl (fun _ _ _=>rfl) rfl rfl rfl nofun (by walk_at "cl") (ft rfl) rfl (sO ⟨FA,trivial⟩))))
  (ar (bo (DW.dt (gQ (aE (fE hr.units) aO (dv 10) (aV (bU (aa Bs (aa ak af))) (tL rfl T.wx (aa (ik wq fF (dv 9) (ke ag ag) (aC _)) af))) (aC _)) (gO (DW.dt (jH (aE HC J5 (dv 10) Bs (aC _)) (jg (aE (fE hr.units) aO (ax d5 (hr.mono ⋯) rfl T.fN T.gb T.fO (aa (dv 6) af)) (dv 5) (aC _)))))))) (ar (aI jz)) aH)))))))
  (ai (Hn PassesOwn.never rfl (dv 1) (dw (n:=2) rfl (aJ (aG (i:=5) S.nd rfl (Or.inl rfl)) (aJ (aG (i:=6) S.nd rfl (Or.inr rfl)) cg))) (ar (bo (DW.dt (gQ (aE (fE hr.units) aO (ax iH (hr.mono ⋯) rfl T.jQ T.jV T.jY (aa (dv 5) af)) (dv 6) (aC _)) (gO (aE (fE hr.units) aO (ax d5 (hr.mono ⋯) rfl T.fN T.gb T.fO (aa (dv 6) af)) (dv 5) (aC _))))) (ar (aI jz)) aH)))
  (ar (aI (ik (bh hr.units) aO (ax d5 (hr.mono ⋯) rfl T.fN T.gb T.fO (aa ak af)) (aw (aa ak (aa ag (aa ag (aa (aw (aa ak (aa (aw (aa ak (aa ag af))) af))) af))))) (aC _)))))))),fun ds U Qd h=>Jf h⟩)
theorem JL(T:TX e):E4 e:=by
 have iq:=zw T
 have oO:=Ay T
 have aS:=vC T
 have eE:=mq T
 have lK:=vy T
 have aP:=vx T
 have oM:=zA T
 have aA:=xA T
 have au:=qQ T
 have aW:=sk T
 have lE:=zY T iq
 have cM:=jK T eE
 have aD:=p4 T lK aS
 have bF:=Ap T aA
 have eK:=qi T aA
 have om:=zq T lE iq
 have mG:=xF T aA eK
 have fe:=BL T om oO
 have dj:=kP T fe
 have jC:=sA T fe
 have bT:=qa T
 have eC:=yg T aS
 have cy:=qA T bF aA aW
 have fq:=mR T dj
 have iH:=yE T jC eC
 have fk:=mB T aD cM
 have fj:=nu T fk
 have bH:=xE T aP aD
 have fu:=nB T fj
 have d5:=xy T bH fe
 have qB:=BF T
 have qR:=Bq T
 have GRN:=MU T
 have dF:=qO T au
 have ck:=qh T dF
 have gY:=pk T cy ck
 exact Lb T oM mG aA iH bT d5 ck gY qB fq qR fu GRN
end
theorem all_mk{l:PySem.W.OpenLaw}{w:World}{K:PySem.W.Frag}{h:Heap}{mg:Str->Option Value}{fa:Addr}(X:K.In h)(G:h.Ns mainGlobals mg)(hfa:mg "law"=some (.ref fa))
  {f0 c0 f1 c1 f2 c2 f3 c3 f4 c4 f5 c5 f6 c6 f7 c7 f8 c8 f9 c9 f10 c10 f11 c11 f12 c12 f13 c13 f14 c14 f15 c15 f16 c16 f17 c17 f18 c18 f19 c19 f20 c20 f21 c21 f22 c22 f23 c23 f24 c24 f25 c25 f26 c26 f27 c27 f28 c28 f29 c29:Addr} {t0 t1 t2 t3 t4 t5 t6 t7 t8 t9 t10 t11 t12 t13 t14 t15 t16 t17 t18 t19 t20 t21 t22 t23 t24 t25 t26 t27 t28 t29:Tok} {m0 m1 m2 m3 m4 m5 m6 m7 m8 m9 m10 m11 m12 m13 m14 m15 m16 m17 m18 m19 m20 m21 m22 m23 m24 m25 m26 m27 m28 m29:Str} {q0:Tok} {q1:Tok} {q2:Tok} {q3:Tok} {q4:Tok} {q5:Tok} {q6:Tok} {g7:Addr} {q7a q7b q7c:Tok} {gn7:Nat} {gs7:Array (Option Value)} {cj:Addr} {fH:Addr} {cZ:Addr} {da:Addr} {fQ:Addr} {iF:Addr} {dY:Addr} {aB:Addr} {fJ:Addr} {iJ:Addr} {ay:Addr} {dh:Addr} {fY:Addr} {eh:Addr} {bm:Addr} {bsl:Array (Option Value)} {qU AX:Addr}
  (a0:FQ K "is_whole" ig f0 c0 t0 m0)
  (a1:FQ K "is_plan" jn f1 c1 t1 m1)
  (a2:FQ K "has_form" gS f2 c2 t2 m2)
  (a3:FQ K "is_count" ip f3 c3 t3 m3)
  (a4:FQ K "parts_of" hJ f4 c4 t4 m4)
  (a5:FQ K "must_be_plan" cW f5 c5 t5 m5)
  (a6:FQ K "show_whole" eN f6 c6 t6 m6)
  (a7:FQ K "read_whole" eV f7 c7 t7 m7)
  (a8:FQ K "show_plan" fK f8 c8 t8 m8)
  (a9:FQ K "plan_text" fR f9 c9 t9 m9)
  (a10:FQ K "read_plan" fX f10 c10 t10 m10)
  (a11:FQ K "plan_from" fT f11 c11 t11 m11)
  (a12:FQ K "parts_from" eP f12 c12 t12 m12)
  (a13:FQ K "grid_from" fV f13 c13 t13 m13)
  (a14:FQ K "whole_ahead_of" cw f14 c14 t14 m14)
  (a15:FQ K "must_stand" eM f15 c15 t15 m15)
  (a16:FQ K "_law_bag" ic f16 c16 t16 m16)
  (a17:FQ K "_law_take" fS f17 c17 t17 m17)
  (a18:FQ K "_law_is_whole" cG f18 c18 t18 m18)
  (a19:FQ K "_law_odd" ie f19 c19 t19 m19)
  (a20:FQ K "_law_refusal" cT f20 c20 t20 m20)
  (a21:FQ K "_law_grid_size" cz f21 c21 t21 m21)
  (a22:FQ K "_law_plan" fZ f22 c22 t22 m22)
  (a23:FQ K "_law_plans_in" cH f23 c23 t23 m23)
  (a24:FQ K "_law_is_a_plan" cu f24 c24 t24 m24)
  (a25:FQ K "_law_swapped" cU f25 c25 t25 m25)
  (a26:FQ K "_law_bent_plan" cm f26 c26 t26 m26)
  (a27:FQ K "_law_none_plan" cq f27 c27 t27 m27)
  (a28:FQ K "_law_plan_text" cx f28 c28 t28 m28)
  (a29:FQ K "law" n6 f29 c29 t29 m29)
  (z0:nsIn K mainGlobals "isinstance"=some none)
  (z1:nsIn K mainGlobals "int"=some none)
  (z2:nsIn K mainGlobals "bool"=some none)
  (z3:nsIn K mainGlobals "len"=some none)
  (z4:nsIn K mainGlobals "tuple"=some none)
  (z5:nsIn K mainGlobals "list"=some none)
  (z6:nsIn K mainGlobals "abs"=some none)
  (z7:nsIn K mainGlobals "str"=some none)
  (z8:nsIn K mainGlobals "all"=some none)
  (z9:nsIn K mainGlobals "ValueError"=some none)
  (z10:nsIn K mainGlobals "range"=some none)
  (z11:nsIn K mainGlobals "min"=some none)
  (z12:nsIn K mainGlobals "max"=some none)
  (z13:nsIn K mainGlobals "sum"=some none)
  (v0:nsIn K mainGlobals "MOST_KINDS"=some (some (.int 3 q0)))
  (v1:nsIn K mainGlobals "MOST_WITHIN"=some (some (.int 12 q1)))
  (v2:nsIn K mainGlobals "MOST_PLANS"=some (some (.int 60 q2)))
  (v3:nsIn K mainGlobals "LEAST_PARTS"=some (some (.int 2 q3)))
  (v4:nsIn K mainGlobals "MOST_PARTS"=some (some (.int 8 q4)))
  (v5:nsIn K mainGlobals "MOST_FIGURES"=some (some (.int 40 q5)))
  (v6:nsIn K mainGlobals "FIGURES"=some (some (.str "0123456789" q6)))
  (v7:nsIn K mainGlobals "LETTERS"=some (some (.ref g7))) (w7:K.lookup g7=some ⟨.type "tuple",none,.seq #[.str "a" q7a,.str "b" q7b,.str "c" q7c] gn7,gs7⟩)
  (y0:nsIn K mainGlobals "FloorError"=some (some (.ref cj)))
  (y1:nsIn K mainGlobals "NoRoot"=some (some (.ref fH)))
  (y2:nsIn K mainGlobals "NoNumber"=some (some (.ref cZ)))
  (y3:nsIn K mainGlobals "NoLaying"=some (some (.ref da)))
  (y4:nsIn K mainGlobals "NoTile"=some (some (.ref fQ)))
  (y5:nsIn K mainGlobals "NoFit"=some (some (.ref iF)))
  (y6:nsIn K mainGlobals "NoKinds"=some (some (.ref dY)))
  (y7:nsIn K mainGlobals "NoPlan"=some (some (.ref aB)))
  (y8:nsIn K mainGlobals "NoSpot"=some (some (.ref fJ)))
  (y9:nsIn K mainGlobals "NoNet"=some (some (.ref iJ)))
  (y10:nsIn K mainGlobals "NoText"=some (some (.ref ay)))
  (y11:nsIn K mainGlobals "NoSaying"=some (some (.ref dh)))
  (y12:nsIn K mainGlobals "NoName"=some (some (.ref fY)))
  (y13:nsIn K mainGlobals "TooMany"=some (some (.ref eh)))
  (uD:excIn K (aB) bmV "ValueError.__new__"=true)
  (uV:exmOne K (.ref aB) (.ref cj)=some true)
  (z1_NoPlan:findIn K (.ref aB) "__getattribute__"=some (some (.builtin "BaseException.__getattribute__")))
  (z2_NoPlan:findIn K (.ref aB) "__getattr__"=some none)
  (z3_NoPlan:findIn K (.ref aB) "__class__"=some (some (.builtin "object.__class__")))
  (z4_NoPlan:mroIn K aB (.type "object")=some true)
  (z5_NoPlan:mroIn K aB (.type "BaseException")=some true)
  (z6_NoPlan:(clsIn K aB).isSome=true)
  (iU:kitOne K (.ref aB) (.ref fH)=some false)
  (gA:kitOne K (.ref aB) (.ref cZ)=some false)
  (gi:kitOne K (.ref aB) (.ref da)=some false)
  (iR:kitOne K (.ref aB) (.ref fQ)=some false)
  (ju:kitOne K (.ref aB) (.ref iF)=some false)
  (g9:kitOne K (.ref aB) (.ref dY)=some false)
  (iS:kitOne K (.ref aB) (.ref aB)=some true)
  (iY:kitOne K (.ref aB) (.ref fJ)=some false)
  (jG:kitOne K (.ref aB) (.ref iJ)=some false)
  (iZ:kitOne K (.ref aB) (.ref ay)=some false)
  (gm:kitOne K (.ref aB) (.ref dh)=some false)
  (i5:kitOne K (.ref aB) (.ref fY)=some false)
  (hZ:kitOne K (.ref aB) (.ref eh)=some false)
  (oj:kitOne K (.ref aB) (.type "ValueError")=some true)
  (uZ:excIn K (ay) bmV "ValueError.__new__"=true)
  (tV:exmOne K (.ref ay) (.ref cj)=some true)
  (z1_NoText:findIn K (.ref ay) "__getattribute__"=some (some (.builtin "BaseException.__getattribute__")))
  (z2_NoText:findIn K (.ref ay) "__getattr__"=some none)
  (z3_NoText:findIn K (.ref ay) "__class__"=some (some (.builtin "object.__class__")))
  (z4_NoText:mroIn K ay (.type "object")=some true)
  (z5_NoText:mroIn K ay (.type "BaseException")=some true)
  (z6_NoText:(clsIn K ay).isSome=true)
  (i7:kitOne K (.ref ay) (.ref fH)=some false)
  (gM:kitOne K (.ref ay) (.ref cZ)=some false)
  (gq:kitOne K (.ref ay) (.ref da)=some false)
  (jc:kitOne K (.ref ay) (.ref fQ)=some false)
  (jI:kitOne K (.ref ay) (.ref iF)=some false)
  (hW:kitOne K (.ref ay) (.ref dY)=some false)
  (ja:kitOne K (.ref ay) (.ref aB)=some false)
  (iT:kitOne K (.ref ay) (.ref fJ)=some false)
  (jt:kitOne K (.ref ay) (.ref iJ)=some false)
  (iP:kitOne K (.ref ay) (.ref ay)=some true)
  (gB:kitOne K (.ref ay) (.ref dh)=some false)
  (iQ:kitOne K (.ref ay) (.ref fY)=some false)
  (iw:kitOne K (.ref ay) (.ref eh)=some false)
  (oI:kitOne K (.ref ay) (.type "ValueError")=some true)
  (bb1:nsIn K mainGlobals "__builtins__"=some (some (.ref bm))) (bb2:bm≠builtinsNs) (bb3:K.lookup bm=some ⟨.type "module",some builtinsNs,.plain,bsl⟩)
  (lo_law:(K.lookup qU).bind bO=some (AX,("law":Str))) (l1_law:∀c2 o2 q2,K.lookup c2=some o2->bO o2=some (AX,q2)->q2 = "law") (lc_law:c29=qU) :
  ∃fd:FuncData,(∀(s:Shared) (v:Value),BindsTo s fd ⟨[v],[]⟩ [("_law_script",v)])/\∀base:Heap,K.In base->base.Ns mainGlobals mg->bw l.prog w K mg base CX0 36 fa fd ["_law_script"] (spD K uS):=by
 have e:=hfa.symm.trans (mg_of X G a29.1)
 cases e
 have F0:=bM (st:=ig) a0.2.1 a0.2.2.1 a0.2.2.2
 have b0:=F0.binds (ps:=["thing"]) (by walk_at "b")
 have F1:=bM (st:=jn) a1.2.1 a1.2.2.1 a1.2.2.2
 have b1:=F1.binds (ps:=["thing","many"]) (by walk_at "b")
 have F2:=bM (st:=gS) a2.2.1 a2.2.2.1 a2.2.2.2
 have b2:=F2.binds (ps:=["thing","many"]) (by walk_at "b")
 have F3:=bM (st:=ip) a3.2.1 a3.2.2.1 a3.2.2.2
 have b3:=F3.binds (ps:=["thing"]) (by walk_at "b")
 have F4:=bM (st:=hJ) a4.2.1 a4.2.2.1 a4.2.2.2
 have b4:=F4.binds (ps:=["plan"]) (by walk_at "b")
 have F5:=bM (st:=cW) a5.2.1 a5.2.2.1 a5.2.2.2
 have b5:=F5.binds (ps:=["thing","many"]) (by walk_at "b")
 have F6:=bM (st:=eN) a6.2.1 a6.2.2.1 a6.2.2.2
 have b6:=F6.binds (ps:=["k"]) (by walk_at "b")
 have F7:=bM (st:=eV) a7.2.1 a7.2.2.1 a7.2.2.2
 have b7:=F7.binds (ps:=["text"]) (by walk_at "b")
 have F8:=bM (st:=fK) a8.2.1 a8.2.2.1 a8.2.2.2
 have b8:=F8.binds (ps:=["plan"]) (by walk_at "b")
 have F9:=bM (st:=fR) a9.2.1 a9.2.2.1 a9.2.2.2
 have b9:=F9.binds (ps:=["plan"]) (by walk_at "b")
 have F10:=bM (st:=fX) a10.2.1 a10.2.2.1 a10.2.2.2
 have b10:=F10.binds (ps:=["text"]) (by walk_at "b")
 have F11:=bM (st:=fT) a11.2.1 a11.2.2.1 a11.2.2.2
 have b11:=F11.binds (ps:=["text","at","depth"]) (by walk_at "b")
 have F12:=bM (st:=eP) a12.2.1 a12.2.2.1 a12.2.2.2
 have b12:=F12.binds (ps:=["text","at","depth"]) (by walk_at "b")
 have F13:=bM (st:=fV) a13.2.1 a13.2.2.1 a13.2.2.2
 have b13:=F13.binds (ps:=["text","at","depth"]) (by walk_at "b")
 have F14:=bM (st:=cw) a14.2.1 a14.2.2.1 a14.2.2.2
 have b14:=F14.binds (ps:=["text","at","sign"]) (by walk_at "b")
 have F15:=bM (st:=eM) a15.2.1 a15.2.2.1 a15.2.2.2
 have b15:=F15.binds (ps:=["text","at","sign"]) (by walk_at "b")
 have F16:=bM (st:=ic) a16.2.1 a16.2.2.1 a16.2.2.2
 have b16:=F16.binds (ps:=["_law_script","_law_at"]) (by walk_at "b")
 have F17:=bM (st:=fS) a17.2.1 a17.2.2.1 a17.2.2.2
 have b17:=F17.binds (ps:=["_law_bag_here","_law_many"]) (by walk_at "b")
 have F18:=bM (st:=cG) a18.2.1 a18.2.2.1 a18.2.2.2
 have b18:=F18.binds (ps:=["_law_thing"]) (by walk_at "b")
 have F19:=bM (st:=ie) a19.2.1 a19.2.2.1 a19.2.2.2
 have b19:=F19.binds (ps:=["_law_bag_here"]) (by walk_at "b")
 have F20:=bM (st:=cT) a20.2.1 a20.2.2.1 a20.2.2.2
 have b20:=F20.binds (ps:=["_law_deed"]) (by walk_at "b")
 have F21:=bM (st:=cz) a21.2.1 a21.2.2.1 a21.2.2.2
 have b21:=F21.binds (ps:=["_law_bag_here"]) (by walk_at "b")
 have F22:=bM (st:=fZ) a22.2.1 a22.2.2.1 a22.2.2.2
 have b22:=F22.binds (ps:=["_law_bag_here","_law_many"]) (by walk_at "b")
 have F23:=bM (st:=cH) a23.2.1 a23.2.2.1 a23.2.2.2
 have b23:=F23.binds (ps:=["_law_thing","_law_many","_law_deep"]) (by walk_at "b")
 have F24:=bM (st:=cu) a24.2.1 a24.2.2.1 a24.2.2.2
 have b24:=F24.binds (ps:=["_law_thing","_law_many"]) (by walk_at "b")
 have F25:=bM (st:=cU) a25.2.1 a25.2.2.1 a25.2.2.2
 have b25:=F25.binds (ps:=["_law_row","_law_at","_law_thing"]) (by walk_at "b")
 have F26:=bM (st:=cm) a26.2.1 a26.2.2.1 a26.2.2.2
 have b26:=F26.binds (ps:=["_law_bag_here","_law_plan_here","_law_many"]) (by walk_at "b")
 have F27:=bM (st:=cq) a27.2.1 a27.2.2.1 a27.2.2.2
 have b27:=F27.binds (ps:=["_law_bag_here","_law_plan_here","_law_many"]) (by walk_at "b")
 have F28:=bM (st:=cx) a28.2.1 a28.2.2.1 a28.2.2.2
 have b28:=F28.binds (ps:=["_law_plan_here","_law_letters"]) (by walk_at "b")
 have F29:=bM (st:=n6) a29.2.1 a29.2.2.1 a29.2.2.2
 have b29:=F29.binds (ps:=["_law_script"]) (by walk_at "b")
 have T:Txt K mg ⟨f0,fd "is_whole" ig t0 m0 c0,f1,fd "is_plan" jn t1 m1 c1,f2,fd "has_form" gS t2 m2 c2,f3,fd "is_count" ip t3 m3 c3,f4,fd "parts_of" hJ t4 m4 c4,f5,fd "must_be_plan" cW t5 m5 c5,f6,fd "show_whole" eN t6 m6 c6,f7,fd "read_whole" eV t7 m7 c7,f8,fd "show_plan" fK t8 m8 c8,f9,fd "plan_text" fR t9 m9 c9,f10,fd "read_plan" fX t10 m10 c10,f11,fd "plan_from" fT t11 m11 c11,f12,fd "parts_from" eP t12 m12 c12,f13,fd "grid_from" fV t13 m13 c13,f14,fd "whole_ahead_of" cw t14 m14 c14,f15,fd "must_stand" eM t15 m15 c15,f16,fd "_law_bag" ic t16 m16 c16,f17,fd "_law_take" fS t17 m17 c17,f18,fd "_law_is_whole" cG t18 m18 c18,f19,fd "_law_odd" ie t19 m19 c19,f20,fd "_law_refusal" cT t20 m20 c20,f21,fd "_law_grid_size" cz t21 m21 c21,f22,fd "_law_plan" fZ t22 m22 c22,f23,fd "_law_plans_in" cH t23 m23 c23,f24,fd "_law_is_a_plan" cu t24 m24 c24,f25,fd "_law_swapped" cU t25 m25 c25,f26,fd "_law_bent_plan" cm t26 m26 c26,f27,fd "_law_none_plan" cq t27 m27 c27,f28,fd "_law_plan_text" cx t28 m28 c28,fa,fd "law" n6 t29 m29 c29,q0,q1,q2,q3,q4,q5,q6,g7,cj,fH,cZ,da,fQ,iF,dY,aB,fJ,iJ,ay,dh,fY,eh,qU,AX⟩:=⟨F0,mg_of X G a0.1,a0.2.2.2,b0,F1,mg_of X G a1.1,a1.2.2.2,b1,F2,mg_of X G a2.1,a2.2.2.2,b2,F3,mg_of X G a3.1,a3.2.2.2,b3,F4,mg_of X G a4.1,a4.2.2.2,b4,F5,mg_of X G a5.1,a5.2.2.2,b5,F6,mg_of X G a6.1,a6.2.2.2,b6,F7,mg_of X G a7.1,a7.2.2.2,b7,F8,mg_of X G a8.1,a8.2.2.2,b8,F9,mg_of X G a9.1,a9.2.2.2,b9,F10,mg_of X G a10.1,a10.2.2.2,b10,F11,mg_of X G a11.1,a11.2.2.2,b11,F12,mg_of X G a12.1,a12.2.2.2,b12,F13,mg_of X G a13.1,a13.2.2.2,b13,F14,mg_of X G a14.1,a14.2.2.2,b14,F15,mg_of X G a15.1,a15.2.2.2,b15,F16,mg_of X G a16.1,a16.2.2.2,b16,F17,mg_of X G a17.1,a17.2.2.2,b17,F18,mg_of X G a18.1,a18.2.2.2,b18,F19,mg_of X G a19.1,a19.2.2.2,b19,F20,mg_of X G a20.1,a20.2.2.2,b20,F21,mg_of X G a21.1,a21.2.2.2,b21,F22,mg_of X G a22.1,a22.2.2.2,b22,F23,mg_of X G a23.1,a23.2.2.2,b23,F24,mg_of X G a24.1,a24.2.2.2,b24,F25,mg_of X G a25.1,a25.2.2.2,b25,F26,mg_of X G a26.1,a26.2.2.2,b26,F27,mg_of X G a27.1,a27.2.2.2,b27,F28,mg_of X G a28.1,a28.2.2.2,b28,F29,mg_of X G a29.1,a29.2.2.2,b29,mg_none_of X G z0,mg_none_of X G z1,mg_none_of X G z2,mg_none_of X G z3,mg_none_of X G z4,mg_none_of X G z5,mg_none_of X G z6,mg_none_of X G z7,mg_none_of X G z8,mg_none_of X G z9,mg_none_of X G z10,mg_none_of X G z11,mg_none_of X G z12,mg_none_of X G z13,mg_of X G v0,mg_of X G v1,mg_of X G v2,mg_of X G v3,mg_of X G v4,mg_of X G v5,mg_of X G v6,⟨mg_of X G v7,⟨_,_,_,_,_,w7⟩⟩,mg_of X G y0,mg_of X G y1,mg_of X G y2,mg_of X G y3,mg_of X G y4,mg_of X G y5,mg_of X G y6,mg_of X G y7,mg_of X G y8,mg_of X G y9,mg_of X G y10,mg_of X G y11,mg_of X G y12,mg_of X G y13,uD,uV,iU,gA,gi,iR,ju,g9,iS,iY,jG,iZ,gm,i5,hZ,oj,uZ,tV,i7,gM,gq,jc,jI,hW,ja,iT,jt,iP,gB,iQ,iw,oI,⟨z1_NoPlan,z2_NoPlan,z3_NoPlan,z4_NoPlan,z5_NoPlan,z6_NoPlan⟩,⟨z1_NoText,z2_NoText,z3_NoText,z4_NoText,z5_NoText,z6_NoText⟩,⟨C4 lo_law,l1_law,Jz (mg_of X G bb1) bb2 bb3⟩,congrArg Value.ref lc_law⟩
 exact⟨_,fun s v=>.of_eq rfl,fun base _ _=>JL (e:=⟨l.prog,w,K,mg,base,_⟩) T⟩
theorem walk{l:PySem.W.OpenLaw}{q:Program}{loose:List Str}{XP:(Str->Option Value)->Heap->Prop}{YP:World->Heap->Prop}{d:DefRec}{K:Params->PySem.W.Frag}(tabs:List Addr)(hn:l.most=some 63)(hdf:d.params.defaults=[])
  (hY:∀(w:World) (h:Heap),YP w h->(K w.params).In h/\(∀p∈tabs,h.get? p=some (tabObj #[])/\(K w.params).lookup p=none)/\(∀p∈tabs,isCodeTable h p))
  (hA2:∀(w:World) c o p q,(K w.params).lookup c=some o->bO o=some (p,q)->p∈tabs)
  (F:∀(w:World) (mg:Str->Option Value) (fa:Addr) (h:Heap),(K w.params).In h->h.Ns mainGlobals mg->mg d.name=some (.ref fa) ->
   ∃fd:FuncData,(∀(s:Shared) (u:Value),BindsTo s fd ⟨[u],[]⟩ [("_law_script",u)])/\∀base:Heap,(K w.params).In base->base.Ns mainGlobals mg->bw l.prog w (K w.params) mg base CX0 36 fa fd ["_law_script"] (spD (K w.params) uS)) :
  PySem.W.WalkO q loose XP YP l.row.toRowW d [] (fun f vs=>PySem.call f vs):=
 L2.Fx (n:=63) (k:=36) (x:="_law_script") (CX:=fun _=>CX0) (sp:=fun w=>spD (K w.params) uS) tabs hn ⋯ hdf ⟨rfl,⋯,⋯⟩ hY hA2 F (fun w H a ns hl hT hS=>DU hl hT hS) fun _ _ _ _ _ z=>z
end K49
open PySem PySem.W PyProof.Rows L2.DL in
set_option maxRecDepth 100000 in
set_option maxHeartbeats 0 in
theorem PySem.Challenge.cw_matefloors_k49_plans_written_holds : PySem.Challenge.rw_matefloors_k49_plans_written.Holds :=
 holds_law K49.H.ws fun said=>holds_open (XP:=XL K49.H.V []) (YP:=K49.H.HK.says) (d:=K49.H.D) (kwd:=[]) K49.H.left K49.H.HK.of K49.H.HK.keeps (fun s e=>xl_of s (Bool.and_eq_true_iff.mp e).1) XL.keeps ⟨⟩ ⟨⟩ ⟨⟩
  (fun s e=>recFacts_of (Bool.and_eq_true_iff.mp e).2) ⟨⟩ said ⟨⟩ ⟨⟨⟩,⟨⟩,⟨⟩,⟨⟩,⟨⟩,⟨⟩⟩ ⟨[.list []],⟨⟩,⟨⟩⟩
  (K49.walk (l:=PySem.Challenge.rw_matefloors_k49_plans_written) (K:=K49.H.K) K49.H.tabs ⟨⟩ ⟨⟩ (fun w h ZZ=>by
   have ZZ:(K49.H.KF w.params).In h:=ZZ
   refine⟨C6 ZZ,fun p hp=>?_,fun p hp=>?_⟩
   ·rcases List.mem_cons.mp hp with rfl|hp
    ·exact⟨ZZ _ _ (K49.H.Cf w.params).1,(K49.H.Cf w.params).2⟩
    exact nomatch hp
   ·rcases List.mem_cons.mp hp with rfl|hp
    ·obtain⟨o,e1,e2⟩:=C4 (K49.H.zX w.params);exact Dv (C6 ZZ) e1 e2
    exact nomatch hp) (fun w c o p q e e2=>by
   have h:=CY (K49.H.Gz w.params) e e2
   have h2:=mem_map_of_mem (f:=fun x:Addr×Str=>x.1) h
   exact h2) fun w mg fa h KX G hmg=>by
   obtain⟨h0,h1,h2,h3,h4,h5,h6,h7,h8,h9,h10,h11,h12,h13⟩:=K49.H.K5 w.params
   obtain⟨h14,h15,h16,h17,h18,h19,h20,h21,h22,h23,h24,h25,h26,h27⟩:=K49.H.Ju w.params
   obtain⟨h28,h29,h30,h31,h32,h33,h34,h35,h36,h37,h38,h39,h40,h41⟩:=K49.H.J1 w.params
   obtain⟨h42,h43,h44,h45,h46,h47,h48,h49,h50,h51,h52,h53,h54,h55⟩:=K49.H.Lj w.params
   obtain⟨h56,h57,h58,h59,h60,h61,h62,h63,h64,h65,h66,h67,h68,h69⟩:=K49.H.JN w.params
   obtain⟨h70,h71,h72,h73,h74,h75,h76,h77,h78,h79,h80,h81,h82,h83⟩:=K49.H.IY w.params
   obtain⟨h84,h85,h86,h87,h88,h89,h90,h91,h92,h93,h94,h95,h96,h97⟩:=K49.H.J2 w.params
   obtain⟨h98,h99,h100,h101,h102,h103,h104,h105,h106,h107,h108,h109,h110⟩:=K49.H.JA w.params
   exact K49.all_mk KX G hmg h0 h1 h2 h3 h4 h5 h6 h7 h8 h9 h10 h11 h12 h13 h14 h15 h16 h17 h18 h19 h20 h21 h22 h23 h24 h25 h26 h27 h28 h29 h30 h31 h32 h33 h34 h35 h36 h37 h38 h39 h40 h41 h42 h43 h44 h45 h46 h47 h48 h49 h50 h51.1 h51.2 h52 h53 h54 h55 h56 h57 h58 h59 h60 h61 h62 h63 h64 h65 h66 h67 h68 h69 h70 h71 h72 h73 h74 h75 h76 h77 h78 h79 h80 h81 h82 h83 h84 h85 h86 h87 h88 h89 h90 h91 h92 h93 h94 h95 h96 h97 h98 h99 h100 h101 h102 h103 h104 h105 h106 h107 h108 h109 h110.1 h110.2.1 h110.2.2 (K49.H.zX w.params) (fun c2 o2 q2 e e2=>K49.H.GH (CY (K49.H.Gz w.params) e e2)) rfl)
