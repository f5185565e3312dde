"""Sealround: stamps of time by services that nobody trusts."""
