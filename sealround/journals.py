"""Journals, from which services that fell are mended."""

from sealround.errors import JournalError, ServiceError
from sealround.services import CLOSING, ENTERING, Service


def mended(name, mixing, journal):
    """The service that has done the deeds that are whole in the beginning of a journal."""
    service = Service(name, mixing)
    for deed in range(len(journal) // 2):
        kind, number = journal[2 * deed:2 * deed + 2]
        reason = _fault_of_deed(service, kind, number)
        if reason is not None:
            raise JournalError(deed, reason)
    return service


def _fault_of_deed(service, kind, number):
    """Does a deed again; the reason for which no service does it, or None."""
    if kind == ENTERING:
        service.enter(number)
        return None
    if kind != CLOSING:
        return "not a deed"
    try:
        service.close(number)
    except ServiceError as error:
        return error.reason
    return None
