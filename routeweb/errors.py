"""The errors of the package: an index tells the first wrong item, None that the whole is wrong."""


class RouteError(ValueError):
    """The base class of all errors."""


class BadGraph(RouteError):
    """A size or arcs of which no graph can be made."""

    def __init__(self, index):
        super().__init__(f"no graph: index {index}")
        self.index = index


class NotGraph(RouteError):
    """A value that is no graph stands where a graph is wanted."""


class BadNode(RouteError):
    """A value that is no node, or not one of the nodes that are wanted."""


class BadWeights(RouteError):
    """A value that is no weights of a graph."""

    def __init__(self, index):
        super().__init__(f"no weights: index {index}")
        self.index = index


class TooMany(RouteError):
    """There are more things than the most that are allowed."""

    def __init__(self, most):
        super().__init__(f"more than {most}")
        self.most = most


class NotText(RouteError):
    """A value that is no string stands where a text is wanted."""


class InvalidText(RouteError):
    """A text with a line that cannot stand, from 1, and its first word that cannot, from 1."""

    def __init__(self, line, word):
        super().__init__(f"no such text: line {line}, word {word}")
        self.line = line
        self.word = word


class BadAlgebra(RouteError):
    """Levels or functions of which no algebra can be made."""

    def __init__(self, index):
        super().__init__(f"no algebra: index {index}")
        self.index = index


class NotAlgebra(RouteError):
    """A value that is no algebra stands where an algebra is wanted."""


class BadElement(RouteError):
    """A value that is no element of an algebra."""


class BadWord(RouteError):
    """A value that is no word of indexes of functions."""

    def __init__(self, index):
        super().__init__(f"no word: index {index}")
        self.index = index


class BadUnion(RouteError):
    """Two algebras with unlike levels, which cannot be united."""


class BadNetwork(RouteError):
    """Ends, a size or labels of which no network can be made."""

    def __init__(self, index):
        super().__init__(f"no network: index {index}")
        self.index = index


class NotNetwork(RouteError):
    """A value that is no network stands where a network is wanted."""


class BadRoute(RouteError):
    """A value that is no route of a network."""


class BadState(RouteError):
    """A value that is no state."""

    def __init__(self, index):
        super().__init__(f"no state: index {index}")
        self.index = index


class NotSettled(RouteError):
    """An algebra that does not grow or is not isotone, so that nodes are not settled one by one."""


class BadSchedule(RouteError):
    """A value that is no schedule."""

    def __init__(self, index):
        super().__init__(f"no schedule: index {index}")
        self.index = index


class BadChoices(RouteError):
    """Lists of which no choices can be made; node is the first one whose paths are wrong."""

    def __init__(self, node, index):
        super().__init__(f"no choices: node {node}, index {index}")
        self.node = node
        self.index = index


class NotChoices(RouteError):
    """A value that is no choices stands where choices are wanted."""


class HasWheel(RouteError):
    """Choices with a wheel, which need not settle."""


class BadTrade(RouteError):
    """A size, customers or peers of which no trade can be made."""

    def __init__(self, index):
        super().__init__(f"no trade: index {index}")
        self.index = index


class NotTrade(RouteError):
    """A value that is no trade stands where a trade is wanted."""


class BadTree(RouteError):
    """Hops that do not lead each node to node 0."""

    def __init__(self, index):
        super().__init__(f"no tree: index {index}")
        self.index = index


class BadRounds(RouteError):
    """A value that is no rounds."""

    def __init__(self, index):
        super().__init__(f"no rounds: index {index}")
        self.index = index


class BadRules(RouteError):
    """A value that is no rules of prefixes."""

    def __init__(self, index):
        super().__init__(f"no rules: index {index}")
        self.index = index


class BadBits(RouteError):
    """A value that is no address."""


class BadRecord(RouteError):
    """A value that is no record."""


class NotPolicy(RouteError):
    """A value that is no policy stands where a policy is wanted."""


class BadCosts(RouteError):
    """A value that is no costs of a graph."""

    def __init__(self, index):
        super().__init__(f"no costs: index {index}")
        self.index = index


class BadNumber(RouteError):
    """A value that is no number in range."""


class NoLink(RouteError):
    """There is no such arc."""


class BadStackRules(RouteError):
    """A value that is no rules of stacks."""

    def __init__(self, index):
        super().__init__(f"no rules of stacks: index {index}")
        self.index = index


class BadStack(RouteError):
    """A value that is no stack of labels."""


class BadRun(RouteError):
    """Indexes of rules that do not apply one after another."""

    def __init__(self, index):
        super().__init__(f"no run: index {index}")
        self.index = index


class BadPath(RouteError):
    """A value that is no path."""


class BadSegments(RouteError):
    """A value that is no segments, or does not lead on."""

    def __init__(self, index):
        super().__init__(f"no segments: index {index}")
        self.index = index


class BadDemands(RouteError):
    """A value that is no demands."""

    def __init__(self, index):
        super().__init__(f"no demands: index {index}")
        self.index = index


class NothingToUndo(RouteError):
    """No step is left that could be taken back."""


class NothingToRedo(RouteError):
    """No step is left that could be done again."""
