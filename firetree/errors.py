"""The refusals, one class for each."""


class FireError(ValueError):
    pass


class BadTree(FireError):
    pass


class NoThing(FireError):
    pass


class BadPlan(FireError):
    pass


class NoText(FireError):
    pass
