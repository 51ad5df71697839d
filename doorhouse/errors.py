"""The refusals (DOC.md, 0.4): each stands straight under DoorError, none under another one."""


class DoorError(ValueError):
    """What is handed in is refused."""


class NoRoutes(DoorError):
    """These are no routes."""


class NoVerb(DoorError):
    """This is no verb."""


class NoPath(DoorError):
    """This is no path."""


class NoName(DoorError):
    """This is no name, or not one of those that are there."""


class NoValues(DoorError):
    """These are no values of the route."""


class NoMarks(DoorError):
    """This is no marked text; at is the place where none goes on."""

    def __init__(self, at):
        # Of the place alone, so that a copy, which is made anew of this text, has the same one.
        super().__init__(str(at))
        self.at = at


class NoNodes(DoorError):
    """These are no nodes."""


class NoTemplate(DoorError):
    """This is no template."""


class NoData(DoorError):
    """These are no data."""


class NoKinds(DoorError):
    """These are no kinds."""


class NoDeeds(DoorError):
    """These are no deeds of the store."""


class Cannot(DoorError):
    """A deed can't be done; at is its place."""

    def __init__(self, at):
        # As in NoMarks.
        super().__init__(str(at))
        self.at = at


class NoVersion(DoorError):
    """This is no version of the store."""


class NoRules(DoorError):
    """These are no rules."""


class NoAsker(DoorError):
    """This is no asker."""


class NoThings(DoorError):
    """These are no things of the kinds."""


class NoPeople(DoorError):
    """These are no people."""


class NoSite(DoorError):
    """This is no site."""


class NoNumber(DoorError):
    """This is no number, or none of those that may stand here."""


class NoRequest(DoorError):
    """This is no request."""


class NoDeed(DoorError):
    """No deed stands that could be undone."""


class NoLog(DoorError):
    """This is no log."""


class NoLine(DoorError):
    """This is no line of the house."""


class NoWords(DoorError):
    """These are no words that the desk knows."""
