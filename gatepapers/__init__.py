"""Gatepapers: circuits made small, laid on gates, with papers that show that nothing changed."""
