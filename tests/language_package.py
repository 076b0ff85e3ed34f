"""A package's files, parsed, with what each of them binds; the rules' checks look things up here."""

import ast
import warnings

ERRORS = (
    "Exception ValueError TypeError KeyError IndexError LookupError ZeroDivisionError ArithmeticError "
    "OverflowError RuntimeError NotImplementedError AttributeError StopIteration"
).split()


class File:
    def __init__(self, name, text):
        self.name = name
        self.text = text
        with warnings.catch_warnings():
            # What Python warns of is looked at elsewhere, as a fault of the text.
            warnings.simplefilter("ignore")
            self.tree = ast.parse(text)
        for node in ast.walk(self.tree):
            for child in ast.iter_child_nodes(node):
                child.parent = node
        body = self.tree.body
        self.functions = {node.name: node for node in body if isinstance(node, ast.FunctionDef)}
        self.classes = {node.name: node for node in body if isinstance(node, ast.ClassDef)}
        self.values = {
            target.id: node.value for node in body if isinstance(node, ast.Assign)
            for target in node.targets if isinstance(target, ast.Name)
        }
        self.imports = {
            alias.asname or alias.name: (node.module, alias.name)
            for node in body if isinstance(node, ast.ImportFrom) for alias in node.names
        }

    def defines(self, name):
        return name in self.functions or name in self.classes or name in self.values

    def binds(self, name):
        return self.defines(name) or name in self.imports

    def nodes(self, *kinds):
        return [node for node in ast.walk(self.tree) if isinstance(node, kinds)]


class Package:
    def __init__(self, title, texts):
        self.title = title
        self.files = {name: File(name, text) for name, text in texts.items()}
        self.methods = {}
        self.attributes = set()
        for file in self.files.values():
            self.note_members(file)

    def note_members(self, file):
        for owner in file.classes.values():
            for node in owner.body:
                if isinstance(node, ast.FunctionDef):
                    self.methods.setdefault(node.name, []).append(node)
            for node in ast.walk(owner):
                if isinstance(node, ast.Attribute) and isinstance(node.ctx, ast.Store):
                    self.attributes.add(node.attr)

    def file_of(self, module):
        """The file that a full module name stands for, or None."""
        if module == self.title:
            return self.files.get("__init__.py")
        if module is None or not module.startswith(self.title + "."):
            return None
        return self.files.get(module[len(self.title) + 1:] + ".py")

    def home_of(self, file, name):
        """The file that defines what a name means in this one, and the name it has there."""
        if name in file.imports:
            module, there = file.imports[name]
            return self.file_of(module), there
        return file, name

    def own_class(self, file, name):
        home, there = self.home_of(file, name)
        return home.classes.get(there) if home else None

    def own_function(self, file, name):
        home, there = self.home_of(file, name)
        return home.functions.get(there) if home else None

    def is_error(self, file, name):
        """Whether a name means an error class, an own one or one of Python's."""
        for step in range(100):
            home, there = self.home_of(file, name)
            owner = home.classes.get(there) if home else None
            if owner is None:
                return there in ERRORS
            if not owner.bases or not isinstance(owner.bases[0], ast.Name):
                return False
            file, name = home, owner.bases[0].id
        return False

    def has_init(self, file, name):
        for step in range(100):
            home, there = self.home_of(file, name)
            owner = home.classes.get(there) if home else None
            if owner is None:
                return False
            if any(isinstance(node, ast.FunctionDef) and node.name == "__init__" for node in owner.body):
                return True
            if not owner.bases or not isinstance(owner.bases[0], ast.Name):
                return False
            file, name = home, owner.bases[0].id
        return False


def function_around(node):
    """The function at the top, or the method, in which a node stands; None at module level."""
    found = None
    while node is not None:
        if isinstance(node, ast.FunctionDef):
            found = node
        node = getattr(node, "parent", None)
    return found


def parameters(function):
    given = function.args
    names = given.posonlyargs + given.args + given.kwonlyargs
    return [arg.arg for arg in names + [given.vararg, given.kwarg] if arg]


def called_name(node):
    """f for a call f(..), else None."""
    if isinstance(node, ast.Call) and isinstance(node.func, ast.Name):
        return node.func.id
    return None


def called_method(node):
    """m for a call x.m(..), else None."""
    if isinstance(node, ast.Call) and isinstance(node.func, ast.Attribute):
        return node.func.attr
    return None
