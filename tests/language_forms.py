"""The rules of LANGUAGE.md that speak of statements and expressions: L3 to L7, L10, L13, L19 to L21, L27, L28.

Some rules let through a form only under many conditions, or ask to prefer none: bytes, finally, stars,
annotations, nested functions, parameters by keyword only, own __eq__ and the like, and the catching of
ValueError. The program needs none of these, so each of them is a fault here.
"""

import ast

from language_package import called_name, function_around

STATEMENTS = (
    ast.FunctionDef, ast.ClassDef, ast.Return, ast.Delete, ast.Assign, ast.AugAssign, ast.For, ast.While, ast.If,
    ast.Raise, ast.Try, ast.Assert, ast.ImportFrom, ast.Expr, ast.Pass, ast.Break, ast.Continue,
)
EXPRESSIONS = (
    ast.BoolOp, ast.BinOp, ast.UnaryOp, ast.Lambda, ast.IfExp, ast.Dict, ast.Set, ast.ListComp, ast.SetComp,
    ast.DictComp, ast.Compare, ast.Call, ast.FormattedValue, ast.JoinedStr, ast.Constant, ast.Attribute,
    ast.Subscript, ast.Name, ast.List, ast.Tuple, ast.Slice,
)
COMPREHENSIONS = (ast.ListComp, ast.SetComp, ast.DictComp)
LITERALS = (ast.Constant, ast.List, ast.Tuple, ast.Dict, ast.Set, ast.JoinedStr) + COMPREHENSIONS
FREELY_CAUGHT = ("KeyError", "ZeroDivisionError", "StopIteration")


def form_faults(package, file):
    faults = module_faults(file)
    for node in ast.walk(file.tree):
        for rule, words in node_faults(package, file, node):
            faults.append((rule, file.name, getattr(node, "lineno", 0), words))
    return faults + lambda_faults(file)


def node_faults(package, file, node):
    if isinstance(node, ast.stmt) and not isinstance(node, STATEMENTS):
        return [(statement_rule(node), "the statement " + node.__class__.__name__)]
    if isinstance(node, ast.expr) and not isinstance(node, EXPRESSIONS):
        rule = "L6" if isinstance(node, (ast.Yield, ast.YieldFrom, ast.Await)) else "L7"
        return [(rule, "the expression " + node.__class__.__name__)]
    for kinds, check in CHECKS:
        if isinstance(node, kinds):
            return check(package, file, node)
    return []


def statement_rule(node):
    if isinstance(node, ast.Import):
        return "L16"
    return "L21" if isinstance(node, ast.AnnAssign) else "L6"


def module_faults(file):
    faults = []
    above = []
    past_imports = False
    for at, node in enumerate(file.tree.body):
        rule = module_statement_rule(node, at, above, past_imports)
        if rule:
            faults.append((rule, file.name, node.lineno, "at module level"))
        if isinstance(node, ast.FunctionDef):
            above.append(node.name)
        past_imports = past_imports or not (isinstance(node, ast.ImportFrom) or is_docstring(node, at))
    return faults


def module_statement_rule(node, at, above, past_imports):
    if isinstance(node, ast.ImportFrom):
        return "L2" if past_imports else None
    if isinstance(node, (ast.FunctionDef, ast.ClassDef)) or is_docstring(node, at):
        return None
    if isinstance(node, ast.Assign) and len(node.targets) == 1 and isinstance(node.targets[0], ast.Name):
        return plain_value_rule(node.value, above, 0)
    return "L3"


def plain_value_rule(value, above, deep):
    """The rule that a module-level value breaks, or None. Values are written out: no reckoning at module level."""
    if is_plain(value) or isinstance(value, ast.Name) and value.id in above:
        return None
    if deep > 8 or not isinstance(value, (ast.List, ast.Tuple, ast.Dict)):
        return "L3"
    if isinstance(value, ast.Dict):
        parts = value.keys + value.values
        if any(not is_plain(key) for key in value.keys):
            return "L3"
    else:
        parts = value.elts
    if not isinstance(value, ast.Tuple) and any(isinstance(part, (ast.List, ast.Dict)) for part in parts):
        return "L15"
    rules = [plain_value_rule(part, above, deep + 1) for part in parts]
    return next((rule for rule in rules if rule), None)


def is_plain(value):
    if isinstance(value, ast.UnaryOp) and isinstance(value.op, ast.USub):
        return isinstance(value.operand, ast.Constant) and value.operand.value.__class__ is int
    if isinstance(value, ast.Tuple):
        return all(is_plain(part) for part in value.elts)
    return isinstance(value, ast.Constant)


def is_docstring(node, at):
    return at == 0 and isinstance(node, ast.Expr) and isinstance(node.value, ast.Constant) and \
        isinstance(node.value.value, str)


def function_faults(package, file, node):
    faults = []
    given = node.args
    if given.vararg or given.kwarg or given.posonlyargs or given.kwonlyargs or node.decorator_list:
        faults.append(("L4", "parameters that are not plain, or a decorator"))
    if any(not is_plain(default) for default in given.defaults):
        faults.append(("L4", "a default value that is not plain"))
    if any(arg.annotation for arg in given.args) or node.returns:
        faults.append(("L21", "an annotation"))
    if node.end_lineno - node.lineno + 1 > 40:
        faults.append(("L10", "a function of more than 40 lines"))
    if function_around(node.parent) is not None:
        faults.append(("L4", "a nested function"))
    if node.name.startswith("__"):
        faults += special_faults(node)
    return faults


def special_faults(node):
    if node.name != "__init__":
        return [("L5" if isinstance(node.parent, ast.ClassDef) else "L28", node.name)]
    if not isinstance(node.parent, ast.ClassDef):
        return [("L28", "__init__ outside of a class")]
    if any(isinstance(part, ast.Return) and part.value is not None for part in ast.walk(node)):
        return [("L28", "__init__ returns something")]
    return []


def class_faults(package, file, node):
    faults = []
    if len(node.bases) > 1 or node.keywords or node.decorator_list:
        faults.append(("L5", "more than one base class, a keyword or a decorator"))
    for base in node.bases:
        if not isinstance(base, ast.Name):
            faults.append(("L5", "a base class that is no name"))
        elif base.id in ("StopIteration", "AttributeError"):
            faults.append(("L18", "an error class under " + base.id))
        elif not package.own_class(file, base.id) and not package.is_error(file, base.id):
            faults.append(("L5", "a base class that is neither own nor an error"))
    for at, part in enumerate(node.body):
        if not isinstance(part, (ast.FunctionDef, ast.Pass)) and not is_docstring(part, at):
            faults.append(("L5", "a class body with more than methods"))
    if not isinstance(node.parent, ast.Module):
        faults.append(("L15", "a class inside of something"))
    return faults


def loop_faults(package, file, node):
    faults = [("L6", "else after a loop")] if node.orelse else []
    if isinstance(node, ast.For) and not is_name_target(node.target):
        faults.append(("L23", "a loop assigns to more than names"))
    return faults


def is_name_target(target):
    if isinstance(target, ast.Tuple):
        return all(is_name_target(part) for part in target.elts)
    return isinstance(target, ast.Name)


def comprehension_faults(package, file, node):
    faults = []
    if len(node.generators) > 6 or sum(len(part.ifs) for part in node.generators) > 12:
        faults.append(("L7", "too long a comprehension"))
    if function_around(node) is None:
        faults.append(("L7", "a comprehension outside of a function"))
    if any(not is_name_target(part.target) for part in node.generators):
        faults.append(("L23", "a comprehension assigns to more than names"))
    return faults


def try_faults(package, file, node):
    return [("L6", "finally")] if node.finalbody else []


def handler_faults(package, file, node):
    if node.type is None:
        return [("L6", "except without a name")]
    faults = [("L19", "as in except")] if node.name else []
    caught = node.type.elts if isinstance(node.type, ast.Tuple) else [node.type]
    if not caught:
        faults.append(("L19", "except of nothing"))
    for part in caught:
        own = isinstance(part, ast.Name) and package.own_class(file, part.id) and package.is_error(file, part.id)
        if not own and not (isinstance(part, ast.Name) and part.id in FREELY_CAUGHT):
            faults.append(("L19", "except of something else than an own error"))
    return faults


def raise_faults(package, file, node):
    faults = []
    if node.cause is not None and not (isinstance(node.cause, ast.Constant) and node.cause.value is None):
        faults.append(("L19", "raise from more than None"))
    if node.exc is None:
        around = node.parent
        while around is not None and not isinstance(around, (ast.ExceptHandler, ast.FunctionDef)):
            around = getattr(around, "parent", None)
        if not isinstance(around, ast.ExceptHandler):
            faults.append(("L19", "raise alone outside of a handler"))
    elif called_name(node.exc) is None or not package.is_error(file, called_name(node.exc)):
        faults.append(("L19", "raise of something that is not made on the spot"))
    return faults


def assert_faults(package, file, node):
    return [("L6", "assert of a tuple")] if isinstance(node.test, ast.Tuple) else []


def delete_faults(package, file, node):
    plain = all(isinstance(target, ast.Subscript) for target in node.targets)
    return [] if plain else [("L6", "del of more than items")]


def assign_faults(package, file, node):
    targets = node.targets if isinstance(node, ast.Assign) else [node.target]
    if isinstance(node, ast.AugAssign) and isinstance(node.target, ast.Subscript) and \
            isinstance(node.target.slice, ast.Slice):
        return [("L6", "+= on a slice")]
    if any(isinstance(target, ast.List) for target in targets):
        return [("L6", "a target in brackets")]
    return operator_faults(node.op, node.value) if isinstance(node, ast.AugAssign) else []


def binary_faults(package, file, node):
    return operator_faults(node.op, node.right)


def operator_faults(op, right):
    if isinstance(op, (ast.Div, ast.MatMult)):
        return [("L7", "the operator / or @")]
    if isinstance(op, ast.Pow):
        literal = isinstance(right, ast.Constant) and right.value.__class__ is int and 0 <= right.value <= 64
        return [] if literal else [("L27", "** by no literal from 0 to 64")]
    return []


def constant_faults(package, file, node):
    if node.value is None or isinstance(node.value, (int, str)):
        return []
    return [("L7", "a value of the kind " + node.value.__class__.__name__)]


def compare_faults(package, file, node):
    faults = []
    sides = [node.left] + node.comparators
    for at, op in enumerate(node.ops):
        if isinstance(op, (ast.Is, ast.IsNot)):
            if not any(is_single(side) for side in sides[at:at + 2]):
                faults.append(("L20", "is without None, True or False"))
    return faults


def is_single(node):
    return isinstance(node, ast.Constant) and any(node.value is single for single in (None, True, False))


def call_form_faults(package, file, node):
    if isinstance(node.func, LITERALS):
        return [("L7", "a literal is called")]
    if not isinstance(node.func, (ast.Name, ast.Attribute)):
        return [("L3", "something is called that is neither a name nor a method")]
    return []


def subscript_faults(package, file, node):
    return [("L7", "an index of a literal")] if isinstance(node.value, LITERALS) else []


def set_faults(package, file, node):
    numbers = [part for part in node.elts if isinstance(part, ast.Constant) and isinstance(part.value, int)]
    return [("L13", "a set of three numbers or more")] if len(numbers) > 2 else []


def fstring_faults(package, file, node):
    faults = []
    inner = [part for value in node.values if isinstance(value, ast.FormattedValue) for part in ast.walk(value)]
    if any(isinstance(part, ast.FormattedValue) and part.format_spec for part in inner):
        faults.append(("L7", "a format in an f-string"))
    if any(isinstance(part, ast.Constant) and isinstance(part.value, (str, bytes)) for part in inner):
        faults.append(("L27", "a string inside the braces of an f-string"))
    if node.end_lineno != node.lineno:
        faults.append(("L27", "an f-string over two lines"))
    return faults


def lambda_form_faults(package, file, node):
    given = node.args
    if given.vararg or given.kwarg or given.posonlyargs or given.kwonlyargs or given.defaults:
        return [("L4", "parameters of a lambda that are not plain")]
    return []


def lambda_faults(file):
    lines = [node.lineno for node in file.nodes(ast.Lambda)]
    return [("L13", file.name, line, "two lambdas on one line") for line in lines if lines.count(line) > 1]


CHECKS = (
    (ast.FunctionDef, function_faults), (ast.ClassDef, class_faults), ((ast.For, ast.While), loop_faults),
    (COMPREHENSIONS, comprehension_faults), (ast.Try, try_faults), (ast.ExceptHandler, handler_faults),
    (ast.Raise, raise_faults), (ast.Assert, assert_faults), (ast.Delete, delete_faults),
    ((ast.Assign, ast.AugAssign), assign_faults), (ast.BinOp, binary_faults), (ast.Constant, constant_faults),
    (ast.Compare, compare_faults), (ast.Call, call_form_faults), (ast.Subscript, subscript_faults),
    (ast.Set, set_faults), (ast.JoinedStr, fstring_faults), (ast.Lambda, lambda_form_faults),
)
