"""The rules of LANGUAGE.md that speak of calls, loops and sets: L11, L22 to L25.

Stored sets, .sort(), the additional methods of L25, and functions that come back to themselves, however deep,
are not needed by the program, so they are faults here.
"""

import ast

from language_names import BUILTINS, reached
from language_package import ERRORS, called_method, called_name

COUNTS = {
    "len": (1, 1), "range": (1, 3), "enumerate": (1, 2), "zip": (1, 99), "min": (1, 99), "max": (1, 99),
    "sum": (1, 2), "abs": (1, 1), "sorted": (1, 1), "reversed": (1, 1), "int": (0, 2), "str": (0, 1),
    "bool": (0, 1), "list": (0, 1), "tuple": (0, 1), "dict": (0, 1), "set": (0, 1), "isinstance": (2, 2),
    "ord": (1, 1), "repr": (1, 1), "any": (1, 1), "all": (1, 1), "divmod": (2, 2),
}
KEYWORDS = {
    "sorted": ("key", "reverse"), "min": ("key", "default"), "max": ("key", "default"), "sum": ("start",),
    "enumerate": ("start",), "zip": ("strict",),
}
KEYS = ("len", "int", "str", "abs", "sum", "min", "max", "tuple")
KINDS = ("int", "str", "bool", "bytes", "list", "tuple", "dict")
METHODS = {
    "append": (1, 1), "clear": (0, 0), "copy": (0, 0), "count": (1, 3), "endswith": (1, 3), "extend": (1, 1),
    "find": (1, 3), "get": (1, 2), "index": (1, 3), "insert": (2, 2), "isalnum": (0, 0), "isalpha": (0, 0),
    "isdigit": (0, 0), "islower": (0, 0), "isspace": (0, 0), "isupper": (0, 0), "items": (0, 0), "join": (1, 1),
    "keys": (0, 0), "ljust": (1, 2), "lower": (0, 0), "lstrip": (0, 1), "partition": (1, 1), "pop": (0, 2),
    "remove": (1, 1), "replace": (2, 3), "reverse": (0, 0), "rfind": (1, 3), "rjust": (1, 2), "rpartition": (1, 1),
    "rsplit": (0, 2), "rstrip": (0, 1), "setdefault": (1, 2), "split": (0, 2), "splitlines": (0, 1),
    "startswith": (1, 3), "strip": (0, 1), "update": (1, 1), "upper": (0, 0), "values": (0, 0), "zfill": (1, 1),
    "bit_length": (0, 0),
}
MODIFYING = ("append", "clear", "extend", "insert", "pop", "remove", "reverse", "setdefault", "update")
AT_ONCE = ("zip", "enumerate", "reversed", "range")
VIEWS = ("items", "keys", "values")
TAKERS = ("list", "tuple", "dict", "sorted", "sum", "any", "all", "enumerate", "zip")


def call_faults(package, file):
    faults = []
    for node in ast.walk(file.tree):
        for rule, words in faults_of(package, file, node):
            faults.append((rule, file.name, getattr(node, "lineno", 0), words))
    return faults


def faults_of(package, file, node):
    faults = []
    if isinstance(node, ast.Call):
        faults += called_faults(package, file, node) + at_once_faults(node)
    if isinstance(node, ast.Name) and isinstance(node.ctx, ast.Load):
        faults += builtin_faults(node)
    if isinstance(node, (ast.Set, ast.SetComp)) or called_name(node) == "set":
        faults += [] if set_stands_well(node) else [("L24", "a set that is stored or passed on")]
    if isinstance(node, (ast.For, ast.ListComp, ast.DictComp, ast.SetComp)):
        faults += modified_faults(node)
    if isinstance(node, ast.Dict) and any(isinstance(key, (ast.List, ast.Dict, ast.Set)) for key in node.keys):
        faults.append(("L24", "a key that is no key"))
    return faults


def called_faults(package, file, node):
    name = called_name(node)
    if name is None:
        return method_faults(package, node)
    if name in BUILTINS:
        return builtin_call_faults(package, file, node, name)
    function = package.own_function(file, name)
    if function:
        return own_call_faults(node, function, 0)
    if package.own_class(file, name) or name in ERRORS:
        return class_call_faults(package, file, node, name)
    return []


def builtin_call_faults(package, file, node, name):
    faults = []
    least, most = COUNTS[name]
    if not least <= len(node.args) <= most:
        faults.append(("L22", name + " with a wrong number of arguments"))
    for keyword in node.keywords:
        if keyword.arg not in KEYWORDS.get(name, ()):
            faults.append(("L22", name + " with a keyword that it has not"))
        if keyword.arg in ("reverse", "strict") and not isinstance(keyword.value, ast.Constant):
            faults.append(("L22", name + " with a keyword that is not written out"))
        if keyword.arg == "default" and len(node.args) != 1:
            faults.append(("L22", name + " with default and more than one argument"))
    if name == "isinstance" and len(node.args) == 2:
        asked = node.args[1].elts if isinstance(node.args[1], ast.Tuple) else [node.args[1]]
        for part in asked:
            if not (isinstance(part, ast.Name) and is_kind(package, file, part.id)):
                faults.append(("L22", "isinstance of no class"))
    return faults


def is_kind(package, file, name):
    return name in KINDS or package.own_class(file, name) is not None or package.is_error(file, name)


def method_faults(package, node):
    name = called_method(node)
    if name is None:
        return []
    own = package.methods.get(name)
    if own:
        found = [own_call_faults(node, function, 1) for function in own]
        return [] if [] in found else found[0]
    if name not in METHODS:
        return [("L25", "the method " + name)]
    least, most = METHODS[name]
    if node.keywords or not least <= len(node.args) <= most:
        return [("L25", name + " with other arguments than it takes")]
    return []


def own_call_faults(node, function, skipped):
    """What a call hands over, against the parameters behind the skipped ones (self)."""
    names = [arg.arg for arg in function.args.args][skipped:]
    needed = names[:len(names) - len(function.args.defaults)] if function.args.defaults else names
    by_word = [keyword.arg for keyword in node.keywords]
    handed = names[:len(node.args)] + by_word
    wrong = len(node.args) > len(names) or len(set(handed)) < len(handed)
    if wrong or any(name not in names for name in by_word) or any(name not in handed for name in needed):
        return [("L22", function.name + " with other arguments than it takes")]
    return []


def class_call_faults(package, file, node, name):
    if package.has_init(file, name):
        inits = package.methods["__init__"]
        found = [own_call_faults(node, function, 1) for function in inits]
        return [] if [] in found else found[0]
    if node.keywords:
        return [("L22", name + " with a keyword")]
    if not package.is_error(file, name) and node.args:
        return [("L22", name + " with arguments that it does not take")]
    if any(isinstance(arg, ast.Constant) and not isinstance(arg.value, str) for arg in node.args):
        return [("L22", name + " with more than texts")]
    return []


def builtin_faults(node):
    """A builtin is called where it stands, or is a key or a kind that is asked for."""
    if node.id not in BUILTINS:
        return []
    above = node.parent
    if isinstance(above, ast.Call) and above.func is node:
        return []
    if isinstance(above, ast.keyword) and above.arg == "key" and node.id in KEYS:
        return []
    if isinstance(above, ast.Tuple):
        node, above = above, above.parent
    if called_name(above) == "isinstance" and above.args[1:] == [node]:
        return []
    return [("L22", "a builtin that is stored or passed on")]


def is_at_once(node):
    return called_name(node) in AT_ONCE or called_method(node) in VIEWS


def at_once_faults(node):
    if not is_at_once(node) or iterated_on_the_spot(node):
        return []
    return [("L23", "not iterated on the spot")]


def iterated_on_the_spot(node):
    above = node.parent
    if isinstance(above, (ast.For, ast.comprehension)):
        return above.iter is node
    if isinstance(above, ast.Compare):
        inside = len(above.ops) == 1 and isinstance(above.ops[0], (ast.In, ast.NotIn)) and above.comparators == [node]
        return inside and (called_name(node) == "range" or called_method(node) == "keys")
    if called_method(above) == "join":
        return isinstance(above.func.value, ast.Constant)
    if called_name(above) == "reversed":
        return called_name(node) == "range"
    if called_name(above) in ("min", "max"):
        return len(above.args) == 1
    return called_name(above) in TAKERS and above.args[0] is node


def set_stands_well(node):
    above = node.parent
    while isinstance(above, ast.BinOp):
        node, above = above, above.parent
    if isinstance(above, ast.Compare) and len(above.ops) == 1:
        if isinstance(above.ops[0], (ast.In, ast.NotIn)):
            return above.comparators == [node]
        return isinstance(above.ops[0], (ast.Eq, ast.NotEq)) and is_set(above.left) and is_set(above.comparators[0])
    return called_name(above) in ("sorted", "len") and above.args == [node] and not above.keywords


def is_set(node):
    if isinstance(node, ast.BinOp):
        return is_set(node.left) and is_set(node.right)
    return isinstance(node, (ast.Set, ast.SetComp)) or called_name(node) == "set"


def modified_faults(node):
    """What a loop goes through is not modified inside of it."""
    sources = [node.iter] if isinstance(node, ast.For) else [part.iter for part in node.generators]
    gone_through = [text for source in sources for text in texts_gone_through(source)]
    parts = node.body if isinstance(node, ast.For) else [node]
    for part in parts:
        for inner in ast.walk(part):
            if any(text in gone_through for text in modified_texts(inner)):
                return [("L23", "a loop modifies what it goes through")]
    return []


def texts_gone_through(source):
    if called_name(source) in AT_ONCE:
        return [text for arg in source.args for text in texts_gone_through(arg)]
    if called_method(source) in VIEWS:
        return texts_gone_through(source.func.value)
    if isinstance(source, ast.IfExp):
        return texts_gone_through(source.body) + texts_gone_through(source.orelse)
    if isinstance(source, ast.BoolOp):
        return [text for part in source.values for text in texts_gone_through(part)]
    return [ast.unparse(source)] if isinstance(source, (ast.Name, ast.Attribute, ast.Subscript)) else []


def modified_texts(node):
    if called_method(node) in MODIFYING:
        return [ast.unparse(node.func.value)]
    if isinstance(node, ast.AugAssign):
        return [ast.unparse(node.target)] + modified_texts(node.target)
    if isinstance(node, ast.Subscript) and not isinstance(node.ctx, ast.Load):
        return [ast.unparse(node.value)]
    return []


def recursion_faults(package):
    """Each own function or method that is called by what it calls."""
    ahead = {}
    for file in package.files.values():
        for function in file.nodes(ast.FunctionDef):
            calls = ahead.setdefault(function.name, [])
            for node in ast.walk(function):
                name = called_name(node)
                calls += [package.home_of(file, name)[1]] if name else []
                calls += [called_method(node)] if called_method(node) in package.methods else []
    return [("L11", "", 0, name + " comes back to itself") for name in ahead if name in reached(ahead, name)]
