"""The requests of a driver's clients: where they were sent, and how they were answered."""


class Errand:
    """A request, its answer, and between which accesses it got it."""

    def __init__(self, request):
        self.request = request
        self.answer = None
        self.first = None
        self.last = None
        self.sendings = ()


class Clients:
    """What the clients of one driver know of their requests."""

    def __init__(self, requests):
        self._errands = [Errand(request) for request in requests]

    def request_at(self, index):
        """Return the request with this index."""
        return self._errands[index].request

    def begin(self, index, number):
        """A sending of the request begins with the access of this number."""
        errand = self._errands[index]
        if errand.first is None:
            errand.first = number

    def end_sending(self, index, sending):
        """A sending of the request, a tuple, has ended."""
        errand = self._errands[index]
        errand.sendings = (*errand.sendings, sending)

    def settle(self, index, answer, number):
        """The request is answered by the access with this number."""
        errand = self._errands[index]
        errand.answer = answer
        errand.last = number

    def break_off(self, number):
        """Every request without an answer gets the word "broken", by the access with this number."""
        for index, errand in enumerate(self._errands):
            if errand.answer is None:
                self.settle(index, ("broken", None), number)

    def is_done(self):
        """True if every request has an answer."""
        return all([errand.answer is not None for errand in self._errands])

    def rows(self):
        """Return a new list of the tuples (index, request, answer, first, last, sendings) of what was begun."""
        return [
            (index, errand.request, errand.answer, errand.first, errand.last, errand.sendings)
            for index, errand in enumerate(self._errands)
            if errand.first is not None
        ]
