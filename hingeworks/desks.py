"""Desks: models under names, and promises about them."""

from hingeworks.alike import apart
from hingeworks.blind import blind_pair
from hingeworks.bounds import apart_by
from hingeworks.errors import BadName, BadNumber, Broken, NoModel, NothingToRedo, NothingToUndo, TakenName
from hingeworks.growing import grown
from hingeworks.models import Model
from hingeworks.netting import net_of
from hingeworks.ratios import as_ratio, is_ratio
from hingeworks.reading import is_name
from hingeworks.rising import falling_pair
from hingeworks.rounding import rounded
from hingeworks.slimming import slimmed
from hingeworks.squares import least_squares
from hingeworks.treeing import tree_of

# The first words of what can be asked for, each with how many items there are.
DERIVED_FORMS = (("slimmed", 1), ("tree", 1), ("net", 1), ("rounded", 2))
LEARNED_FORMS = (("squares", 2), ("tree", 3))
PROMISE_FORMS = (("rising", 2), ("blind", 2), ("alike", 2), ("within", 3))


class Entry:
    """A model of a desk under its name, where it comes from, and the promises about it, in their order."""

    def __init__(self, name, model, origin, promises):
        self.name = name
        self.model = model
        self.origin = origin
        self.promises = promises


class Desk:
    """Models under names, and promises about them.

    `states` are tuples of entries: the first one, and that behind each act, also behind those that were taken back;
    `done` is the place of the one that holds.
    """

    def __init__(self):
        self.states = ((),)
        self.done = 0

    @property
    def model_names(self):
        """The names, in the order in which they were put, derived or learned."""
        return tuple([entry.name for entry in self.states[self.done]])

    @property
    def acts(self):
        """How many acts are done and not taken back."""
        return self.done

    def model_of(self, name):
        """The model under a name."""
        return entry_of(self.states[self.done], name).model

    def origin_of(self, name):
        """Where the model under a name comes from."""
        return entry_of(self.states[self.done], name).origin

    def promises_of(self, name):
        """The promises that stand about the model under a name."""
        return entry_of(self.states[self.done], name).promises

    def put(self, name, text):
        """Keeps the model of a text under a new name."""
        self.check_new(name)
        self.add_entry(Entry(name, Model(text), ("put",), ()))

    def derive(self, name, source, how):
        """Keeps under a new name what is made from another model."""
        self.check_new(name)
        model = self.model_of(source)
        check_form("how", how, DERIVED_FORMS)
        self.add_entry(Entry(name, derived_model(model, how), ("derived", source, how), ()))

    def learn(self, name, table, how):
        """Keeps under a new name what is learned from a table."""
        self.check_new(name)
        check_form("how", how, LEARNED_FORMS)
        self.add_entry(Entry(name, learned_model(table, how), ("learned", how, len(table.rows)), ()))

    def set_model(self, name, source):
        """Makes the model under one name that under another one, too, if no promise is broken."""
        old = entry_of(self.states[self.done], name)
        fresh = Entry(name, self.model_of(source), ("set", source), old.promises)
        entries = tuple([fresh if entry.name == name else entry for entry in self.states[self.done]])
        for entry in entries:
            for promise in entry.promises:
                if entry.name == name or speaks_of(promise, name):
                    refuse_broken(entries, entry.name, promise)
        self.act(entries)

    def drop(self, name):
        """Takes a name away, with the promises about it."""
        entry_of(self.states[self.done], name)
        entries = tuple([entry for entry in self.states[self.done] if entry.name != name])
        for entry in entries:
            for promise in entry.promises:
                if speaks_of(promise, name):
                    raise Broken(promise, None)
        self.act(entries)

    def add_promise(self, name, promise):
        """Makes a promise about the model under a name, if it holds."""
        entries = self.states[self.done]
        entry = entry_of(entries, name)
        check_form("promise", promise, PROMISE_FORMS)
        if promise[0] in ("alike", "within"):
            entry_of(entries, promise[1])
        kept = promise
        if promise[0] == "within":
            check_by(promise[2])
            kept = ("within", promise[1], as_ratio(promise[2]))
        if kept not in entry.promises:
            refuse_broken(entries, name, promise)
            self.act(with_promises(entries, name, (*entry.promises, kept)))

    def end_promise(self, name, promise):
        """Ends a promise about the model under a name."""
        entries = self.states[self.done]
        entry = entry_of(entries, name)
        if promise not in entry.promises:
            raise BadNumber("promise", promise)
        self.act(with_promises(entries, name, tuple([kept for kept in entry.promises if kept != promise])))

    def undo(self):
        """Takes back the last act."""
        if self.done == 0:
            raise NothingToUndo()
        self.done -= 1

    def redo(self):
        """Does the act again that was taken back last."""
        if self.done == len(self.states) - 1:
            raise NothingToRedo()
        self.done += 1

    def tried(self, action):
        """What an action returns, behind which the desk is as it was ahead of it."""
        states = self.states
        done = self.done
        try:
            return action()
        finally:
            self.states, self.done = states, done

    def act(self, entries):
        """Does an act that leads to these entries, and discards what was taken back."""
        self.states = (*self.states[:self.done + 1], entries)
        self.done += 1

    def add_entry(self, entry):
        """Does the act that keeps one more entry."""
        self.act((*self.states[self.done], entry))

    def check_new(self, name):
        """Refuses any value that is no name, and a name of the desk."""
        if not is_name(name):
            raise BadName(name)
        if name in self.model_names:
            raise TakenName(name)


def entry_of(entries, name):
    """The entry of a name; refuses any value that is no name of an entry."""
    found = [entry for entry in entries if isinstance(name, str) and entry.name == name]
    if found == []:
        raise NoModel(name)
    return found[0]


def with_promises(entries, name, promises):
    """The entries, of which that of a name has these promises."""
    found = []
    for entry in entries:
        if entry.name == name:
            found.append(Entry(name, entry.model, entry.origin, promises))
        else:
            found.append(entry)
    return tuple(found)


def check_form(what, value, forms):
    """Refuses any value that is not a tuple that begins with the word of a form and has as many items."""
    if not isinstance(value, tuple) or len(value) == 0 or (value[0], len(value)) not in forms:
        raise BadNumber(what, value)


def check_by(by):
    """Refuses any value that is not a ratio from 0 on."""
    if not is_ratio(by) or as_ratio(by).top < 0:
        raise BadNumber("by", by)


def derived_model(model, how):
    """What is made from a model in one of the ways of DERIVED_FORMS."""
    if how[0] == "slimmed":
        return slimmed(model)
    if how[0] == "tree":
        return tree_of(model)
    if how[0] == "net":
        return net_of(model)
    return rounded(model, how[1])


def learned_model(table, how):
    """What is learned from a table in one of the ways of LEARNED_FORMS."""
    if how[0] == "squares":
        return least_squares(table, how[1])
    return grown(table, how[1], how[2])


def speaks_of(promise, name):
    """Whether a promise has this name as the other one."""
    return promise[0] in ("alike", "within") and promise[1] == name


def refuse_broken(entries, name, promise):
    """Refuses a promise about the model under a name that the models of the entries break."""
    given = broken_at(entries, entry_of(entries, name).model, promise)
    if given is not None:
        raise Broken(promise, given)


def broken_at(entries, model, promise):
    """Where the model breaks a promise: what the function of its question returns; None if it keeps it."""
    if promise[0] == "rising":
        return falling_pair(model, promise[1])
    if promise[0] == "blind":
        return blind_pair(model, promise[1])
    other = entry_of(entries, promise[1]).model
    if promise[0] == "within":
        return apart_by(model, other, promise[2])
    found = apart(model, other)
    return None if found is None else found.given
