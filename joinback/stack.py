"""A stack: joinings and weights that are taken back, the last one first."""

from joinback.leading import leader_in, sum_in
from joinback.naming import check_names, check_there
from joinback.plain import classes
from joinback.standings import class_with
from joinback.steps import counted


class Stack:
    """Names whose chains lead to the heads of their classes.

    A joining hangs the head of the smaller class under that of the other one
    and changes nothing else: so chains stay short, and the last one is taken
    back by letting that head go.
    """

    def __init__(self, names, turn):
        check_names(names)
        self.turn = turn
        self.weights = {name: 0 for name in names}
        # Of each name that is no head: the name behind it in chains, and the steps from there to it.
        self.behind = {}
        # Right of heads alone.
        self.sizes = {name: 1 for name in names}
        # Pairs: a deed as it is told, and what taking it back needs.
        self.done = []
        self.looked = 0

    def join(self, one, other, step):
        """("joined", n), ("known", n), or ("clash", steps)."""
        known = self.steps(one, other)
        if known is not None and known != counted(self.turn, step):
            return ("clash", known)
        n = len(self.standing())
        hung = self.hang(one, other, step) if known is None else None
        self.done.append((("join", one, other, step), hung))
        return ("joined" if known is None else "known", n)

    def hang(self, one, other, step):
        """Makes one class of two; tells the head that hangs under the other one now."""
        here, there = self.chain(one), self.chain(other)
        gap = self.offset(here) + step - self.offset(there)
        head, hung = here[-1], there[-1]
        if self.sizes[head] < self.sizes[hung]:
            head, hung, gap = hung, head, -gap
        self.behind[hung] = (head, gap)
        self.sizes[head] += self.sizes[hung]
        return hung

    def unhang(self, hung):
        """Makes two classes of one again."""
        head, gap = self.behind[hung]
        self.sizes[head] -= self.sizes[hung]
        del self.behind[hung]

    def weigh(self, name, n):
        """The name's weight is n from now on."""
        check_there(self.weights, name)
        self.done.append((("weigh", name, n), self.weights[name]))
        self.weights[name] = n

    def back(self):
        """Takes the last deed back and tells it; None where there is none."""
        if len(self.done) == 0:
            return None
        deed, kept = self.done.pop()
        if deed[0] == "weigh":
            self.weights[deed[1]] = kept
        elif kept is not None:
            self.unhang(kept)
        return deed

    def deeds(self):
        """The list of the deeds that are still done."""
        return [deed for deed, kept in self.done]

    def standing(self):
        """The list of the joinings that stand, as they were handed in."""
        return [deed[1:] for deed, kept in self.done if deed[0] == "join"]

    def chain(self, name):
        """The list of names from this one to the head of its class."""
        check_there(self.weights, name)
        chain = [name]
        while chain[-1] in self.behind:
            chain.append(self.behind[chain[-1]][0])
        return chain

    def offset(self, chain):
        """The steps from a chain's head to its first name."""
        return sum([self.behind[name][1] for name in chain[:-1]])

    def steps(self, one, other):
        """The steps from one to other, None where they aren't together."""
        check_there(self.weights, one)
        check_there(self.weights, other)
        if one == other:
            self.looked = 1
            return 0
        here, there = self.chain(one), self.chain(other)
        self.looked = len(set(here + there))
        if here[-1] != there[-1]:
            return None
        return counted(self.turn, self.offset(there) - self.offset(here))

    def together(self, one, other):
        """Whether one and other are of one class."""
        return self.steps(one, other) is not None

    def looks(self):
        """How many names the last join, together or steps looked at."""
        return self.looked

    def class_of(self, name):
        """The rising list of the name's class."""
        check_there(self.weights, name)
        return class_with(list(self.weights), self.standing(), name)

    def all_classes(self):
        """The rising list of the classes."""
        return classes(list(self.weights), self.standing())

    def size_of(self, name):
        """How many names the name's class has."""
        return self.sizes[self.chain(name)[-1]]

    def sum_of(self, name):
        """The weights of the name's class together."""
        return sum_in(self.class_of(name), self.weights)

    def leader(self, name, rule):
        """The one that leads the name's class by a rule."""
        return leader_in(self.class_of(name), rule, self.weights, self.standing())

    def leaders(self, rule):
        """The list of those that lead the classes, in the order of all_classes."""
        return [leader_in(group, rule, self.weights, self.standing()) for group in self.all_classes()]
