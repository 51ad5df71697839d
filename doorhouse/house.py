"""A house: a site that is asked and answers, with sessions, forms, works and kept pages (DOC.md, stage 6)."""

from doorhouse.errors import NoDeed, NoLog, NoNumber, NoRequest
from doorhouse.forms import number_meant, owner_of, path_behind, right_needed, store_deed, wrong_name
from doorhouse.pages import check_site, plain_page
from doorhouse.requests import COME, LOGIN, LOGOUT, WAIT, WORK, is_log, is_many, is_request, own_copy
from doorhouse.rights import asker_of, find_rule, name_of
from doorhouse.routes import GET, POST, find_route
from doorhouse.sessions import Lobby
from doorhouse.sites import WORK_DEED
from doorhouse.store import Store, row_named
from doorhouse.works import Work, do_steps, is_held

FINE = 200
GO_ON = 303
WRONG = 400
BARRED = 403
NOT_THERE = 404
IN_THE_WAY = 409


def bare(code):
    """Tell the answer of a code alone."""
    return (code, "", 0)


def check_many(thing):
    """Refuse what is no number of ticks or steps."""
    if not is_many(thing):
        raise NoNumber("this is no number from 0 to 1000")


class House:
    """A house of a site; keep tells for how many ticks pages are kept, idle for how many a session holds."""

    def __init__(self, site, *, keep=0, idle=50):
        check_site(site)
        check_many(keep)
        check_many(idle)
        # Its own dict, as others may change the one handed in; what stands in a site never changes.
        self.site = dict(site)
        self.keep = keep
        self.idle = idle
        self.start()

    def start(self):
        """Be as at first, with nothing asked."""
        self.tick = 0
        self.stock = Store(self.site["kinds"])
        self.lobby = Lobby(self.idle)
        self.queue = []
        # By path and asker: the moment at which the page was made, the page, and the store's version then.
        self.kept = {}
        self.entries = []
        self.replies = []
        # Of each entry of the log: the moment and the version behind it, its asker, the version of the page it told.
        self.traces = []

    def ask(self, request):
        """Answer a request with a tuple (code, text, number)."""
        if not is_request(request):
            raise NoRequest("this is no request")
        return self.follow(own_copy(request))

    def wait(self, many=1):
        """Let ticks go by."""
        check_many(many)
        self.follow((WAIT, many))

    def work(self, many=1):
        """Do up to so many steps of works; tell how many were done."""
        check_many(many)
        return self.follow((WORK, many))[2]

    def undo(self):
        """Undo the last request, wait or work."""
        if len(self.entries) == 0:
            raise NoDeed("nothing stands that could be undone")
        entries = self.entries[:-1]
        self.start()
        self.follow_all(entries)

    def follow_all(self, entries):
        """Do each of a log."""
        for entry in entries:
            self.follow(entry)

    def follow(self, entry):
        """Do one of a log, and note it; tell its answer."""
        reply, asker, version = self.done_by(entry)
        self.entries.append(entry)
        self.replies.append(reply)
        self.traces.append((self.tick, self.stock.version(), asker, version))
        return reply

    def done_by(self, entry):
        """Do one of a log; tell its answer, its asker, and the version of the page that is told, None without one."""
        if entry[0] == WAIT:
            self.tick += entry[1]
            return (bare(FINE), None, None)
        if entry[0] == WORK:
            return ((FINE, "", do_steps(self.queue, self.stock, entry[1])), None, None)
        if entry[0] == COME:
            return ((FINE, "", self.lobby.begin(None, self.tick)), None, None)
        if entry[0] == GET and entry[1] == 0:
            page, version = self.page_for(None, entry[2])
            return (bare(NOT_THERE) if page is None else (FINE, page, 0), None, version)
        session = self.lobby.held(entry[1], self.tick)
        if session is None:
            return (bare(BARRED), None, None)
        session.last = self.tick
        if entry[0] == GET:
            return self.got(session, entry[2])
        return (self.answer_in(session, entry), session.asker, None)

    def answer_in(self, session, request):
        """Answer what is no get, of a session that holds."""
        if request[0] == LOGIN:
            return self.logged_in(session, request[2], request[3])
        if request[0] == LOGOUT:
            session.ended = True
            return bare(FINE)
        reply = self.posted(session, request)
        if reply[0] == GO_ON:
            self.forget_pages(session.asker)
        return reply

    def logged_in(self, session, name, word):
        """Answer a login of this name and word."""
        person = row_named(self.site["people"], name)
        if person is None or person[1] != word:
            return bare(BARRED)
        session.ended = True
        return (FINE, "", self.lobby.begin(asker_of(person), self.tick))

    def got(self, session, path):
        """Tell what done_by does, of a get of a session that holds."""
        page, version = self.page_for(session.asker, path)
        if page is None:
            return (bare(NOT_THERE), session.asker, version)
        session.tickets += 1
        return ((FINE, page, session.tickets), session.asker, version)

    def page_for(self, asker, path):
        """Tell the page for an asker, None where there is none, and the version at which it was made."""
        if (path, asker) in self.kept:
            moment, page, version = self.kept[(path, asker)]
            if self.tick - moment <= self.keep:
                return (page, version)
        page = plain_page(self.site, asker, self.stock.things(), path)
        version = self.stock.version()
        if self.keep > 0:
            self.kept[(path, asker)] = (self.tick, page, version)
        return (page, version)

    def forget_pages(self, asker):
        """Keep no page for this asker any more: it could be older than the asker's own deeds."""
        self.kept = {key: self.kept[key] for key in self.kept if key[1] != asker}

    def posted(self, session, request):
        """Answer a post of a session that holds."""
        word, number, path, ticket, values = request
        route = find_route(self.site["routes"], POST, path)
        if route is None:
            return bare(NOT_THERE)
        if not 1 <= ticket <= session.tickets:
            return bare(BARRED)
        if ticket in session.used:
            used_path, used_values, reply = session.used[ticket]
            return reply if (used_path, used_values) == (path, values) else bare(IN_THE_WAY)
        form = row_named(self.site["forms"], route[0])
        reply = self.sent(session.asker, form, route[1], values)
        if reply[0] == GO_ON:
            session.used[ticket] = (path, values, reply)
        return reply

    def sent(self, asker, form, route_values, values):
        """Answer a form that is sent for the first time, with what its route's holes and its fields have."""
        wrong = wrong_name(form[1], values)
        if wrong is not None:
            return (WRONG, wrong, 0)
        deed = form[2]
        number = number_meant(deed, route_values)
        word, kind, field = right_needed(self.site, deed)
        owner = name_of(asker) if number is None else owner_of(kind, number, self.stock.things())
        if owner is None or find_rule(self.site["rules"], asker, word, kind, field, owner) is None:
            return bare(NOT_THERE)
        if is_held(self.queue, kind, number):
            return bare(IN_THE_WAY)
        if deed[0] == WORK_DEED:
            self.queue.append(Work(deed[1], kind, number, row_named(self.site["works"], deed[1])[2]))
        else:
            self.stock.done((store_deed(form, asker, number, values),))
        return (GO_ON, path_behind(self.site, form, route_values), 0)

    def now(self):
        """Tell the time, in ticks."""
        return self.tick

    def store(self):
        """Tell a twin of the store."""
        return self.stock.twin()

    def sessions(self):
        """Tell the rising tuple of tuples (session, name or None) of those that hold."""
        rows = self.lobby.all_held(self.tick)
        return tuple([(number, None if asker is None else asker[0]) for number, asker in rows])

    def works(self):
        """Tell the tuple of tuples (name, number, word) of all works that began."""
        return tuple([(work.name, work.number, work.word()) for work in self.queue])

    def log(self):
        """Tell the tuple of the requests, waits and works."""
        return tuple([own_copy(entry) for entry in self.entries])

    def answers(self):
        """Tell the tuple of the answers of each of the log."""
        return tuple(self.replies)

    def line(self):
        """Tell the tuple of the versions at which the pages of the log were made, None for all else."""
        return tuple([version for tick, behind, asker, version in self.traces])

    def twin(self):
        """Tell another house with all of this."""
        other = House(self.site, keep=self.keep, idle=self.idle)
        other.follow_all(self.entries)
        return other

    def __len__(self):
        return len([entry for entry in self.entries if entry[0] not in (WAIT, WORK)])

    def __eq__(self, other):
        if not isinstance(other, House) or self.site != other.site:
            return False
        return (self.keep, self.idle, self.entries) == (other.keep, other.idle, other.entries)


def house_of(site, log, *, keep=0, idle=50):
    """Tell the house behind a log."""
    check_site(site)
    if not is_log(log):
        raise NoLog("this is no log")
    house = House(site, keep=keep, idle=idle)
    house.follow_all([own_copy(entry) for entry in log])
    return house
