"""Callbinds: calls, the forms that take them, and what is told ahead of both."""
