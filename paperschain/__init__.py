"""Documents that have to be right: orders, deliveries, invoices and credit notes."""
